import PyProof.Rows.All
import Wide.All
import OpenK.AllK
import Wide.FinOn
import Lean
import PyProof.EqAt
import PyProof.EqKinds
import PyProof.TupleCall
import PyProof.NeKinds
import PySem.Challenge.RW_standstill_k54_so_many_and_whole
set_option Elab.async false
set_option genSizeOf false
set_option linter.all false
set_option compiler.extract_closed false
set_option bootstrap.genMatcherCode false
local macro_rules
|`(def $d:declId $b* :$t $v:declVal)=>`(theorem $d $b* :$t $v:declVal)
|`(nonrec def $d:declId $s:optDeclSig $v:declVal)=>`(@[reducible] noncomputable def $d $s:optDeclSig $v:declVal)
|`(abbrev $d:declId $s:optDeclSig $v:declVal)=>`(noncomputable def $d $s:optDeclSig $v:declVal)
set_option maxRecDepth 100000
open Array renaming length_toList->gR,getElem?_eq_getElem->lg,getElem?_toList->oK,getD->oM,toList_push->uW
open Bool renaming true->ac,false->ag,false_ne_true->bx,and_eq_true->cD,eq_iff_iff->lh,or_eq_true->li,and_true->oN,noConfusion->rF,and_false->rG
open False renaming elim->gq
open ForInStep renaming yield->mH
open Int renaming toNat_natCast->d4,emod_nonneg->dS,emod_lt_of_pos->gr
open List renaming mem_cons_self->aH,length_map->aB,length_append->aR,getElem?_eq_getElem->cr,mem_cons_of_mem->bj,getElem?_eq_some_iff->cR,getD_eq_getElem?_getD->cg,getElem?_map->cu,map_append->bh,mem_singleton->ci,mem_append_right->c9,length_cons->bO,mem_append_left->da,range->bI,getElem?_cons_succ->gt,mem_map->aT,append_assoc->cx,mem_of_getElem?->dF,mem_append->bP,append_nil->bQ,mem_cons->bm,length_range->cK,nodup_cons->bX,not_mem_nil->cS,map_cons->bF,getElem?_eq_none->ij,mem_filter->cL,length_filter_le->fV,zip_cons_cons->eI,foldl_append->eJ,length_singleton->gS,getElem?_set_self->jV,getElem?_append_left->lj,getElem?_set_ne->jW,getElem?_append_right->mJ,nodup_append->fW,replicate->ik,getElem_mem->jq,nodup_nil->eW,reverse_cons->iZ,mem_range->fX,foldl_cons->gT,mem_reverse->i0,reverse_reverse->lp,length_set->il,length_reverse->lq,getElem?_replicate->rH,length_replicate->mK,any_cons->fY,filter_append->lr,take_of_length_le->oO,getElem?_of_mem->rJ,cons_append->jX,getElem_toArray->rK,ext_getElem?->ls,append_of_mem->mL,lookup_cons->lu,findIdx_lt_length_of_exists->uX,map_set->gu,length_eq_zero_iff->rL,filter_cons_of_pos->rM,filterMap_cons->oP,filter_sublist->oQ,length_zip->lw,zipWith_cons_cons->rN,pairwise_cons->oR,set_cons_succ->oS,map_reverse->mM,getElem?_range->uY,findIdx_cons->oT,mem_of_find?_eq_some->uZ,map_congr_left->rO,reverse_append->rP,zipWith->rQ,sublist_append_left->u4,all_cons->lx,set_cons_zero->rR
open List.Nodup renaming sublist->u5
open List.Pairwise renaming map->u6,sublist->Cm
open List.Perm renaming append_left->u7,refl->rS,cons->u8
open List.Sublist renaming refl->oU
open List.cons renaming inj->oV
open Nat renaming le_refl->aM,ne_of_lt->bR,lt_succ_self->dq,le_trans->cy,lt_of_lt_of_le->eK,zero_le->b9,le_of_lt->eM,lt_succ_of_lt->jr,lt_irrefl->io,lt_of_le_of_lt->ly,not_lt_zero->jY,le_of_not_lt->mN,le_succ->jt,ne_of_gt->jZ,mul_le_mul_right->rT,lt_trans->mO,zero_add->mP,succ_pos->oW
open Ne renaming symm->d5
open Option renaming some->aa,none->ab,bind_some->ay,bind_eq_some_iff->rV,isSome_iff_exists->u9
open Option.some renaming inj->cW
open Or renaming inr->bw,inl->bS
open PyProof.Rows renaming callWith_type1->ju,firstMet->d6,callWith_builtin1->va,IntsAre->fG,envOfC->fH,boot_list->j2,AllBare->jw
open PySem renaming wpAny_bind->aj,wpAny_pure->aC,Shared->ah,starEach->aL,sizeLine->aP,mainGlobals->cj,sizeLine_eq->cX,compareOp->cE,wpAny_Call_Name_kw->ip,builtinLookup_eq_fast->jx,wpAny_newObj_type->iq,FuncData->cz,Program->bY,wpAny_call_entry->i4,wpAny_mono->eX,wpAny_callSpecial?_slot->mQ,foldedSetIterable->j3,backTo->bZ,codeAny_builtin->jy,typeLookup_type->jz,rawInt->b6,bootBuiltins->iu,wpAny_holding->i5,keywordEach->gU,sysModules->gx,swapsWith->fI,Around->bW,binaryOp->eY,wpAny_setField_rec->mR,wpAny_passesOwn->lz,getMethod->gy,behindInMarks->j4,wpAny_truthy_bool->mS,assignEach->iw,NameKind->fJ,mem_of_lookup->oX,wpAny_setState_of->mT,holding->d7,isSubtype_type->lA,wpAny_setEntries_of->oY,codeAny_mono->j5,intKind->eZ,wpAny_loadPart'->rW,tupleKind_room_in1->oZ,plainId_quiet->lB,backToKw->gV,standAt->fZ,codeAny->f6,wpAny_isInstance->o7,attributeBase->mU,wpAny_attempt->mV,wpAny_rule->j6,Spec->Il,sliceBounds->lC,Builtin->d8,callWith->i6,firstArgMember->o8,typeLookup->lD,scanBound->j7,pickOrder->ix,wpAny_execs_nil->rX,pyNext->gz,wpAny_specialOf->rY,wpAny_updateSeq->rZ,codeAny_call_builtin->vb,wpAny_fieldsOf->r6,wpAny_seqItems->r9,wpAny_of_eq->o9,Paired->gA,SetTable->cY,relayAll->lE,entryFor->lF
open PySem.Around renaming in1_units->pc
open PySem.Builtin.Int renaming intBits->sd
open PySem.Builtin.List renaming listSameRef->sh,listExtendWith->vc,listLengthHint->Cn,listTooLong->Co
open PySem.Calls renaming spliced_cons->iy,callWith_builtin->vd,evalArgs_plain->ve,spliced_nil->vf
open PySem.F renaming plainAttrs_list->i7,called_set->j8,slot_list_reversed->vg,slot_list_append->vh,type_list_append->vi,slot_list_extend->vj,type_list_extend->vm,slot_dict_get->vn,slot_dict_setdefault->Cp
open PySem.Heap renaming get?_push_of_some->bu,get?_push_size->cA,lt_size->bv,size_push->iz,SameBut->fK,get?_update_other->mW,get?_update_self->mY
open PySem.Heap.SameBut renaming update->mZ
open PySem.NameKind renaming free->e7,cell->lG
open PySem.Obj renaming mapSeq->gB
open PySem.Paired renaming length->m6
open PySem.PassesOwn renaming never->du
open PySem.SeqAt renaming EqAt->ca
open PySem.SeqAt.EqAt renaming int_str->vp,str_int->vq,same->vt
open PySem.SetTable renaming below->cm,grown->m7
open PySem.SetTable.below renaming go->si
open PySem.Shared renaming TypeIs->sj
open PySem.Str renaming empty->m8,ofString->sm
open PySem.Value renaming ref->d9,type->jA,bool->j9,none->lH
open PySem.W renaming Frag->aO,findIn->b7,mg_none_of->gW,keepIn->e8,kia_one->iA,nsIn->dL,plainGet->jB,hasDictIn->ka,emptyDict->kc,plainOver->lI,instObj->ke,makesIn->lJ,mg_of->jC,fnOf->iB
open Sum renaming inl->gX
open Sum.inl renaming inj->sn
open True renaming intro->gY
nonrec abbrev LB0:=List Bool
nonrec abbrev LI0:=List Int
nonrec abbrev LII:=List (Int×Int)
nonrec abbrev LOB:=List (Option Bool)
nonrec abbrev PRS:=PySem.Value->PySem.Shared->Prop
nonrec abbrev MGT:=PySem.Str->Option PySem.Value
nonrec abbrev PNS:=List (PySem.Addr×PySem.Obj)
nonrec abbrev LN:=List Nat
nonrec abbrev L2N:=List LN
nonrec abbrev LSt:=List PySem.Str
nonrec abbrev LVa:=List PySem.Value
nonrec abbrev LAd:=List PySem.Addr
nonrec abbrev LEx:=List PySem.Expr
namespace L2
open List
open PySem PySem.Spec PyProof.Rows
nonrec def Key:=Sum Int Str
abbrev kf:Key->Value->Bool
 |.inl k,v=>Value.isInt k v
 |.inr x,v=>Value.isStrOf x v
abbrev Cq(w:World):Key->Int
 |.inl k=>hashInt k
 |.inr x=>hashStr w x
def iC:∀{k:Key} {v:Value},kf k v=ac->(∃i t,k=gX i/\v=Value.int i t)\/(∃x t,k=Sum.inr x/\v=Value.str x t)
 |.inl i,v,h=>by
  obtain⟨t,e⟩:=Value.isInt_shape h
  exact .inl ⟨i,t,rfl,e⟩
 |.inr x,v,h=>by
  obtain⟨t,e⟩:=Value.isStrOf_shape h;exact .inr ⟨x,t,rfl,e⟩
def Cr(i:Int)(t:Tok):kf (.inl i) (.int i t)=ac:=by simp[kf,Value.isInt]
def Cs(x:Str)(t:Tok):kf (.inr x) (.str x t)=ac:=by simp[kf,Value.isStrOf]
def sr(a b:Int):decide ((gX a:Key)=gX b)=(a==b):=by grind
def Ct(a b:Str):decide ((Sum.inr a:Key)=Sum.inr b)=decide (a=b):=by grind
def vv(a:Int)(b:Str):decide ((gX a:Key)=Sum.inr b)=ag:=decide_eq_false (λq=>nomatch q)
def vw(a:Str)(b:Int):decide ((Sum.inr a:Key)=gX b)=ag:=decide_eq_false (λq=>nomatch q)
abbrev kg(prog:bY)(w:World):PySem.KeyKind prog w Key where
 is:=kf
 hash:=Cq w
 inj:=λv a b ha hb=>by
  rcases iC ha with⟨i,t,rfl,rfl⟩ |⟨x,t,rfl,rfl⟩
  .rcases iC hb with⟨j,u,rfl,e⟩ |⟨y,u,rfl,e⟩
   .injection e with e1 _;rw[e1]
   .exact nomatch e
  .rcases iC hb with⟨j,u,rfl,e⟩ |⟨y,u,rfl,e⟩
   .exact nomatch e
   .injection e with e1 _;rw[e1]
 byValue:=λk v h=>by
  rcases iC h with⟨i,t,rfl,rfl⟩ |⟨x,t,rfl,rfl⟩ <;> rfl
 pyHash:=λhv h=>by
  rcases iC hv with⟨i,t,rfl,rfl⟩ |⟨x,t,rfl,rfl⟩
  .exact wpAny_pyHash_int h
  .exact wpAny_pyHash_str h
 eqBool:=λhu hv h=>by
  rcases iC hu with⟨i,t,rfl,rfl⟩ |⟨x,t,rfl,rfl⟩
  .rcases iC hv with⟨j,u,rfl,rfl⟩ |⟨y,u,rfl,rfl⟩
   .rw[sr]at h;exact wpAny_eqBool_int h
   .rw[vv]at h;exact vp i t y u _ _ _ _ h
  .rcases iC hv with⟨j,u,rfl,rfl⟩ |⟨y,u,rfl,rfl⟩
   .rw[vw]at h;exact vq x t j u _ _ _ _ h
   .rw[Ct]at h;exact wpAny_eqBool_str h
 «strs»:=λk x t v h=>by
  rcases iC h with⟨i,u,rfl,e⟩ |⟨y,u,rfl,e⟩
  .exact nomatch e
  .injection e with e1 _
   subst e1
   cases v <;> rfl
def Im(prog:bY)(w:World)(i:Int)(t:Tok):(kg prog w).is (.inl i) (.int i t)=ac:=Cr i t
def Io(prog:bY)(w:World)(x:Str)(t:Tok):(kg prog w).is (.inr x) (.str x t)=ac:=Cs x t
inductive V where
 |non |bl (b:Bool) |int (i:Int) |str (x:Str) |byt (b:Array UInt8) |flt (b:UInt64) |ref (a:Addr) |ty (n:String)
 deriving DecidableEq
nonrec abbrev LVv:=List V
abbrev az:V->Value->Prop
 |.non,u=>u=lH
 |.bl b,u=>u=j9 b
 |.int i,u=>∃t,u=Value.int i t
 |.str x,u=>∃t,u=Value.str x t
 |.byt b,u=>∃t,u=Value.bytes b t
 |.flt b,u=>∃t,u=Value.float b t
 |.ref a,u=>u=d9 a
 |.ty n,u=>u=jA n
nonrec abbrev aE:LVv->LVa->Prop:=gA az
variable{B:LVv}{us:LVa}
def aE.length(r:aE B us):B.length=us.length:=m6 r
def aE.get:∀{B:LVv} {us:LVa} {i:Nat} {x:V},aE B us->B[i]?=aa x->∃u,us[i]?=aa u/\az x u
 | _,_,_,_,.nil,e=>by simp at e
 | _,_,0,_,.cons r _,e=>by simp at e;subst e;exact⟨_,rfl,r⟩
 | _,_,i+1,x,.cons _ t,e=>by
  obtain⟨u,a,h2⟩:=aE.get t (by simpa using e);exact⟨u,by simpa using a,h2⟩
def aE.set{x:V}{u:Value}(r:az x u):∀{B:LVv} {us:LVa} (i:Nat),aE B us->aE (B.set i x) (us.set i u)
 | _,_,_,.nil=>.nil
 | _,_,0,.cons _ t=>.cons r t
 | _,_,i+1,.cons q t=>.cons q (aE.set r i t)
def aE.append:∀{B a:LVv} {us ws:LVa},aE B us->aE a ws->aE (B++a) (us++ws)
 | _,_,_,_,.nil,s=>s
 | _,_,_,_,.cons r t,s=>.cons r (aE.append t s)
def aE.take:∀{B:LVv} {us:LVa} (n:Nat),aE B us->aE (B.take n) (us.take n)
 | _,_,0,_=>.nil
 | _,_,_+1,.nil=>.nil
 | _,_,n+1,.cons r t=>.cons r (aE.take n t)
def aE.drop:∀{B:LVv} {us:LVa} (n:Nat),aE B us->aE (B.drop n) (us.drop n)
 | _,_,0,r=>r
 | _,_,_+1,.nil=>.nil
 | _,_,n+1,.cons _ t=>aE.drop n t
abbrev eq:Option V->Option Value->Prop
 |some v,aa u=>az v u
 |none,ab=>True
 | _,_=>False
abbrev KV{a:Type}:List (a×V)->List (a×Value)->Prop:=gA λ(p:a×V) (q:a×Value)=>p.1=q.1/\az p.2 q.2
abbrev kV:Key->V
 |.inl i=>.int i
 |.inr x=>.str x
abbrev kR:Key->V->Prop
 |.inl i,v=>v=.int i\/∃b:Bool,v=.bl b/\i=cond b 1 0
 |.inr x,v=>v=.str x
abbrev vz:Key->Value->Bool
 |.inl k,.bool b=>decide (k=cond b 1 0)
 |k,v=>kf k v
def lK{k:Key}{v:Value}(h:vz k v=ac):(∃i t,k=.inl i/\v=.int i t)\/(∃b:Bool,k=.inl (cond b 1 0)/\v=.bool b)\/(∃x t,k=.inr x/\v=.str x t):=by
 unfold vz at h;split at h
 .rename_i a b;exact .inr (.inl ⟨b,by rw[of_decide_eq_true h],rfl⟩)
 .rcases iC h with q |q
  .exact .inl q
  .exact .inr (.inr q)
def Ip(a b:Bool):decide ((gX (cond a 1 0):Key)=gX (cond b 1 0))=(a==b):=by cases a <;> cases b <;> decide
def Iq(a:Bool)(j:Int):decide ((gX (cond a 1 0):Key)=gX j)=((if a then 1 else 0)==j):=by rw[sr];cases a <;> rfl
def Ir(j:Int)(a:Bool):decide ((gX j:Key)=gX (cond a 1 0))=(j==(if a then 1 else 0)):=by rw[sr];cases a <;> rfl
variable{prog:bY}{w:World}{A:bW}{U4:PRS}
def Iu{s:ah}{b:Bool}{Q:Int->ah->Prop}(h:Q (hashInt (cond b 1 0)) {s with toks:=s.toks+1}):wpAny (model prog w) A (pyHash (.bool b)) Q U4 s:=by
 refine W.pyHash_slot (T:="bool") rfl PySem.F.slot_bool_hash PySem.entry_int_hash (PySem.args_int_hash _) (beq_builtin_none _) (.inl rfl) ?_;cases b
 .exact(show wpAny _ _ (do ret (<- mkInt 0)) _ _ s from aj (wpAny_mkInt (aC ⟨_,_,rfl,h⟩)))
 .exact(show wpAny _ _ (do ret (<- mkInt 1)) _ _ s from aj (wpAny_mkInt (aC ⟨_,_,rfl,h⟩)))
abbrev lL(prog:bY)(w:World):PySem.KeyKind prog w Key where
 is:=vz
 hash:=Cq w
 inj:=λv a b ha hb=>by
  rcases lK ha with⟨i,t,rfl,rfl⟩ |⟨c,rfl,rfl⟩ |⟨x,t,rfl,rfl⟩ <;> rcases lK hb with⟨j,u,rfl,e⟩ |⟨d,rfl,e⟩ |⟨y,u,rfl,e⟩ <;> cases e <;> rfl
 byValue:=λk v h=>by
  rcases lK h with⟨i,t,rfl,rfl⟩ |⟨c,rfl,rfl⟩ |⟨x,t,rfl,rfl⟩ <;> rfl
 pyHash:=λhv h=>by
  rcases lK hv with⟨i,t,rfl,rfl⟩ |⟨c,rfl,rfl⟩ |⟨x,t,rfl,rfl⟩
  .exact wpAny_pyHash_int h
  .exact Iu h
  .exact wpAny_pyHash_str h
 eqBool:=λhu hv h=>by
  rcases lK hu with⟨i,t,rfl,rfl⟩ |⟨c,rfl,rfl⟩ |⟨x,t,rfl,rfl⟩ <;> rcases lK hv with⟨j,u,rfl,rfl⟩ |⟨d,rfl,rfl⟩ |⟨y,u,rfl,rfl⟩
  .rw[sr]at h;exact ca.int_int _ _ _ _ _ _ _ _ h
  .rw[Ir]at h;exact ca.int_bool _ _ _ _ _ _ _ h
  .rw[vv]at h;exact vp _ _ _ _ _ _ _ _ h
  .rw[Iq]at h;exact ca.bool_int _ _ _ _ _ _ _ h
  .rw[Ip]at h;exact ca.bool_bool _ _ _ _ _ _ h
  .rw[vv]at h;exact ca.bool_str _ _ _ _ _ _ _ h
  .rw[vw]at h;exact vq _ _ _ _ _ _ _ _ h
  .rw[vw]at h;exact ca.str_bool _ _ _ _ _ _ _ h
  .rw[Ct]at h;exact wpAny_eqBool_str h
 «strs»:=λk x t v h=>by
  rcases lK h with⟨i,u,rfl,e⟩ |⟨c,rfl,e⟩ |⟨y,u,rfl,e⟩
  .exact nomatch e
  .exact nomatch e
  .injection e with e1 _
   subst e1
   cases v <;> rfl
variable{P:bY}{v:V}
def Iv{k:Key}{u:Value}(q:kR k v)(r:az v u):(lL P w).is k u=ac:=by
 cases k with
 |inl i=>
  rcases q with rfl |⟨b,rfl,rfl⟩
  .obtain⟨t,e⟩:=(show ∃t,u=Value.int i t from r);subst e;exact Cr i t
  .cases (show u=j9 b from r);cases b <;> rfl
 |inr x=>cases (show v=V.str x from q);obtain⟨t,e⟩:=(show ∃t,u=Value.str x t from r);subst e;exact Cs x t
nonrec abbrev KRs:List Key->LVv->Prop:=gA kR
def Cu{P:bY}{w:World}:∀{ks:List Key} {vs:LVv} {us:LVa},KRs ks vs->aE vs us->ItemsAre (lL P w) ks us
 | _,_,_,.nil,r=>by cases r;exact .nil
 | _,_,_,.cons q t,r=>by
  cases r with
  |cons h t'=>exact .cons (Iv q h) (Cu t t')
inductive HO where
 |lst (B:LVv)
 |tup (B:LVv)
 |dK (kvs:List (Key×V)) |dT (kvs:List (List Key×V))
 |set (S:Int->Bool) (n:Nat)
 |ins (U5 dx:Addr) (fs:List (Str×V))
 |own (x:Addr)
 |xd (fs:List (Str×V))
 |met (f x:Addr)
 |rng (lo hi:Int)
 |frz (o:Obj) (u:HO)
 |tbl (ps:Array Value)
 |ext (φ:Heap->Prop)
nonrec def Hp:=Addr->Option HO
abbrev eN(H:Hp)(b:Addr)(k:List Key):Prop:=∃vs,H b=aa (.tup vs)/\KRs k vs
variable{H H':Hp}{b:Addr}
def eN.up{k:List Key}(h:eN H b k)(a:∀b B,H b=aa (.tup B)->H' b=aa (.tup B)):eN H' b k:=let ⟨vs,e,q⟩:=h;⟨vs,a _ _ e,q⟩
abbrev upd(H:Hp)(a:Addr)(o:HO):Hp:=λb=>if b=a then aa o else H b
variable{a:Addr}
def aW{o:HO}:upd H a o a=aa o:=by unfold upd;rw[if_pos rfl]
def aI{o:HO}(h:b≠a):upd H a o b=H b:=by unfold upd;rw[if_neg h]
def Cv{o u:HO}(h:H a=aa o)(h':H b=aa u)(d:o≠u):a≠b:=by grind
def eO{o:HO}(h:H a=aa o)(h':H b=ab):a≠b:=by
 intro e;subst e;rw[h]at h';cases h'
section
variable(P:bY)(w:World)
abbrev dG(H:Hp)(h:Heap)(a:Addr):HO->Prop
 |.lst B=>B.length<=aP/\∃(E:LVa) (n:Nat),aE B E/\h.get? a=aa {cls:=.type "list",data:=.seq E.toArray n}
 |.tup B=>B.length<=aP/\∃E:LVa,aE B E/\IsTup h a E.toArray
 |.dK kvs=>kvs.length<=aP/\(a==gx)=ag/\∃vs,KV kvs vs/\h.DictOf (kg P w) a vs
 |.dT kvs=>kvs.length<=aP/\(a==gx)=ag/\∃B:List (List Key×Addr×Value),
   gA (λ(p:List Key×V) (q:List Key×Addr×Value)=>p.1=q.1/\eN H q.2.1 p.1/\az p.2 q.2.2) kvs B /\
   ∃o es c,h.get? a=aa o/\o.ExactDict/\o.data=.dict es c/\es.toList=B.map (entryOfKey (tupleKind (lL P w)))/\(B.map (·.1)).Nodup
 |.set S n=>h.SetOf (eZ P w) a S n
 |.ins U5 dx fs=>H dx=aa (.own a)/\fs.length<=1000/\dx≠a/\h.get? a=aa (ke U5 dx) /\
   ∃mA,h.Ns1 dx mA/\(∀f,eq (fs.lookup f) (mA f))/\PySem.Within mA (fs.map (·.1))
 |.own _=>∃o,h.get? a=aa o
 |.xd fs=>∃mA,h.Ns1 a mA/\∀f,eq (fs.lookup f) (mA f)
 |.rng lo hi=>∃t u v,h.get? a=aa {cls:=.type "range",data:=.fields #[.int lo t,.int hi u,.int 1 v]}
 |.frz o u=>h.get? a=aa o/\dG H h a u
 |.tbl ps=>h.get? a=aa {cls:=.none,data:=.fields ps}
 |.met f x=>h.get? a=aa (W.methodObj (.ref f) (.ref x))
 |.ext φ=>φ h/\(∃o,h.get? a=aa o)/\∀b h2:Heap,φ b->(∀o,b.get? a=aa o->h2.get? a=aa o)->φ h2
abbrev HOk(H:Hp)(h:Heap):Prop:=∀a o,H a=aa o->dG P w H h a o
end
variable{h:Heap}
def dG.lt{o:HO}(x:dG P w H h a o):a<h.objs.size:=by
 cases o with
 |lst B=>obtain⟨_,_,_,_,e⟩:=x;exact bv e
 |tup B=>obtain⟨_,_,_,p⟩:=x;exact p.lt
 |dK kvs=>obtain⟨_,_,_,_,o,_,_,e,_⟩:=x;exact bv e
 |dT kvs=>obtain⟨_,_,_,_,o,_,_,e,_⟩:=x;exact bv e
 |set S n=>obtain⟨o,_,_,_,e,_⟩:=x;exact bv e
 |ins U5 dx fs=>obtain⟨_,_,_,e,_⟩:=x;exact bv e
 |own y=>obtain⟨_,e⟩:=x;exact bv e
 |xd fs=>obtain⟨_,⟨_,_,_,e,_⟩,_⟩:=x;exact bv e
 |rng lo hi=>obtain⟨_,_,_,e⟩:=x;exact bv e
 |frz b u=>obtain⟨e,_⟩:=x;exact bv e
 |tbl ps=>exact bv (x)
 |met f y=>exact bv (x)
 |ext φ=>obtain⟨_,⟨_,e⟩,_⟩:=x;exact bv e
def gA.mapP{c d:Type}{F G:c->d->Prop}:∀{l₁:List c} {l₂:List d},gA F l₁ l₂->(∀a b,F a b->G a b)->gA G l₁ l₂
 | _,_,.nil,_=>.nil
 | _,_,.cons r t,f=>.cons (f _ _ r) (gA.mapP t f)
variable{h':Heap}
section
variable{o:HO}
def dG.stay(x:dG P w H h a o)(k:∀b u,(b=a\/H b=aa (.own a))->h.get? b=aa u->h'.get? b=aa u)
 (l:∀b,H b=aa (.own a)->H' b=aa (.own a))(m:∀b B,H b=aa (.tup B)->H' b=aa (.tup B)):dG P w H' h' a o:=by
 induction o with
 |lst B=>obtain⟨z,E,n,r,e⟩:=x;exact⟨z,E,n,r,k _ _ (.inl rfl) e⟩
 |tup B=>obtain⟨z,E,r,g,e,c⟩:=x;exact⟨z,E,r,g,k _ _ (.inl rfl) e,c⟩
 |dK kvs=>obtain⟨z,y,vs,r,g,es,i,e,c⟩:=x;exact⟨z,y,vs,r,g,es,i,k _ _ (.inl rfl) e,c⟩
 |dT kvs=>
  obtain⟨z,y,B,r,g,es,i,e,c⟩:=x
  exact⟨z,y,B,gA.mapP r λp q z=>⟨z.1,z.2.1.up m,z.2.2⟩,g,es,i,k _ _ (.inl rfl) e,c⟩
 |set S n=>obtain⟨g,es,i,t,e,c⟩:=x;exact⟨g,es,i,t,k _ _ (.inl rfl) e,c⟩
 |ins U5 dx fs=>
  obtain⟨d,z,ne,e,mA,⟨od,es,i,j,c⟩,r⟩:=x
  exact⟨l _ d,z,ne,k _ _ (.inl rfl) e,mA,⟨od,es,i,k _ _ (.inr d) j,c⟩,r⟩
 |own y=>obtain⟨g,e⟩:=x;exact⟨g,k _ _ (.inl rfl) e⟩
 |xd fs=>obtain⟨mA,⟨od,es,i,e,c⟩,r⟩:=x;exact⟨mA,⟨od,es,i,k _ _ (.inl rfl) e,c⟩,r⟩
 |rng lo hi=>obtain⟨t,u,v,e⟩:=x;exact⟨t,u,v,k _ _ (.inl rfl) e⟩
 |frz g u A=>obtain⟨e,q⟩:=x;exact⟨k _ _ (.inl rfl) e,A q⟩
 |tbl ps=>
  have e:=x
  exact k a _ (.inl rfl) e
 |met f y=>
  have e:=x
  exact k a _ (.inl rfl) e
 |ext φ=>obtain⟨p,⟨o,e⟩,st⟩:=x;exact⟨st _ _ p λo q=>k _ _ (.inl rfl) q,⟨o,k _ _ (.inl rfl) e⟩,st⟩
end
def HOk.lt{o:HO}(x:HOk P w H h)(e:H a=aa o):a<h.objs.size:=(x a o e).lt
def HOk.fresh(x:HOk P w H h)(e:h.objs.size<=a):H a=ab:=by
 cases q:H a with
 |none=>rfl
 |some u=>exact absurd (eK (x.lt q) e) (io _)
def HOk.kept(x:HOk P w H h)(k:∀b u,h.get? b=aa u->h'.get? b=aa u):HOk P w H h':=λa o e=>
 (x a o e).stay (λb u _ q=>k b u q) (λ_ q=>q) λ_ _ q=>q
def HOk.laid{o:HO}(x:HOk P w H h)(k:∀b u,h.get? b=aa u->h'.get? b=aa u)(f:h.objs.size<=a)(new:dG P w (upd H a o) h' a o):HOk P w (upd H a o) h':=λb u e=>by
 have hn:=x.fresh f
 by_cases d:b=a
 .subst d;rw[aW]at e;cases e;exact new
 .rw[aI d]at e;exact(x b u e).stay (λc v _ q=>k c v q) (λc q=>by rw[aI (eO q hn)];exact q) λc B q=>by rw[aI (eO q hn)];exact q
abbrev Rd(H:Hp)(a:Addr)(u:HO):Prop:=H a=aa u\/∃o,H a=aa (.frz o u)
def Rd.ok{u:HO}(r:Rd H a u)(x:HOk P w H h):dG P w H h a u:=by
 rcases r with r |⟨o,r⟩
 .exact x a u r
 .obtain⟨_,q⟩:=x a _ r;exact q
abbrev Mut:Option HO->Prop
 |some (.lst _)=>True
 |some (.dK _)=>True
 |some (.dT _)=>True
 |some (.set _ _)=>True
 |some (.ins _ _ _)=>True
 |some (.ext _)=>True
 | _=>False
variable{x e:Addr}{o':HO}
def HOk.write(ok:HOk P w H h)(f:Mut (H x))(n:e=x\/H e=aa (.own x))(k:∀b u,b≠e->h.get? b=aa u->h'.get? b=aa u)(i:∃u,h'.get? e=aa u)
 (new:dG P w (upd H x o') h' x o'):HOk P w (upd H x o') h':=λb u q=>by
 have a:∀c y,H c=aa (.own y)->c≠x:=λc y r z=>by subst z;rw[r]at f;exact f
 have d:∀c B,H c=aa (.tup B)->c≠x:=λc B r z=>by subst z;rw[r]at f;exact f
 by_cases j:b=x
 .subst j;rw[aW]at q;grind
 .rw[aI j]at q
  by_cases g:b=e
  .have l:H b=aa (.own x):=by
    grind
   rw[q]at l;cases l;obtain⟨v,hv⟩:=i;exact⟨v,by rw[g];exact hv⟩
  .refine(ok b u q).stay (λc v m r=>k c v ?_ r) (λc r=>by rw[aI (a c b r)];exact r) λc B r=>by rw[aI (d c B r)];exact r
   grind
structure Un(fs ex:LAd)(H H':Hp)(h h':Heap):Prop where
 keep:∀b o,h.get? b=aa o->H b=ab->b∉fs->b∉ex->h'.get? b=aa o
 slot:∀b o,h.get? b=aa o->H b=ab->b∈fs->b∉ex->∃sl,h'.get? b=aa {o with slots:=sl}
 free:∀b o,h.get? b=aa o->H b=ab->b∉ex->H' b=ab
 there:∀b o,h.get? b=aa o->b∉ex->∃o',h'.get? b=aa o'
 tups:∀b B,H b=aa (.tup B)->H' b=aa (.tup B)
 frzs:∀b o u,H b=aa (.frz o u)->H' b=aa (.frz o u)
 tbls:∀b ps,H b=aa (.tbl ps)->∃more,H' b=aa (.tbl (ps++more))
variable{ex:LAd}{H1:Hp}{h1:Heap}
def Un.any{fs:LAd}(u:Un fs ex H H1 h h1){a:Obj}(q:h.get? b=aa a)(n:H b=ab)(d:b∉ex):∃sl,h1.get? b=aa {a with slots:=sl}:=by
 by_cases c:b∈fs
 .exact u.slot b a q n c d
 .exact⟨a.slots,u.keep b a q n c d⟩
variable{H2:Hp}{h2:Heap}
def Un.trans{fs:LAd}(a:Un fs ex H H1 h h1)(b:Un fs ex H1 H2 h1 h2):Un fs ex H H2 h h2 where
 keep:=λc ob q n hc hx=>b.keep c ob (a.keep c ob q n hc hx) (a.free c ob q n hx) hc hx
 slot:=λc ob q n hc hx=>by
  obtain⟨sl,e1⟩:=a.slot c ob q n hc hx;obtain⟨sl',e2⟩:=b.slot c _ e1 (a.free c ob q n hx) hc hx;exact⟨sl',e2⟩
 free:=λc ob q n hx=>by
  obtain⟨o',e1⟩:=a.there c ob q hx;exact b.free c o' e1 (a.free c ob q n hx) hx
 there:=λc ob q hx=>by
  obtain⟨o',e1⟩:=a.there c ob q hx;exact b.there c o' e1 hx
 tups:=λc B q=>b.tups c B (a.tups c B q)
 frzs:=λc ob B q=>b.frzs c ob B (a.frzs c ob B q)
 tbls:=λc ps q=>by
  obtain⟨m1,e1⟩:=a.tbls c ps q;obtain⟨m2,e2⟩:=b.tbls c _ e1;exact⟨m1++m2,by rw[e2,Array.append_assoc]⟩
def Un.kept{fs:LAd}(k:∀b u,h.get? b=aa u->h'.get? b=aa u):Un fs ex H H h h':=
 ⟨λb a q _ _ _=>k b a q,λb a q _ _ _=>⟨a.slots,k b a q⟩,λ_ _ _ n _=>n,λb a q _=>⟨a,k b a q⟩,λ_ _ q=>q,λ_ _ _ q=>q,λ_ ps q=>⟨#[],by rw[q];simp⟩⟩
def Un.refl{fs:LAd}:Un fs ex H H h h:=Un.kept λ_ _ q=>q
def Un.laid{fs:LAd}{o:HO}(k:∀b u,h.get? b=aa u->h'.get? b=aa u)(hp:h.objs.size<=a)(hn:H a=ab):Un fs ex H (upd H a o) h h' where
 keep:=λb u q _ _ _=>k b u q
 slot:=λb u q _ _ _=>⟨u.slots,k b u q⟩
 free:=λb u q n _=>by rw[aI (bR (eK (bv q) hp))];exact n
 there:=λb u q _=>⟨u,k b u q⟩
 tups:=λb B q=>by rw[aI (eO q hn)];exact q
 frzs:=λb u B q=>by rw[aI (eO q hn)];exact q
 tbls:=λb ps q=>⟨#[],by rw[aI (eO q hn),q];simp⟩
def Un.write{fs:LAd}{o:HO}(a:Mut (H x))(g:e=x\/H e=aa (.own x))(k:∀b u,b≠e->h.get? b=aa u->h'.get? b=aa u)(d:∃u,h'.get? e=aa u):Un fs ex H (upd H x o) h h':=by
 have f:∀b,H b=ab->b≠x:=λb n z=>by subst z;rw[n]at a;exact a
 have c:∀b,H b=ab->b≠e:=λb n z=>by
  grind
 have hm:∀b u,H b=aa u->¬Mut (aa u)->b≠x:=λb u q nm z=>by subst z;rw[q]at a;exact nm a
 refine⟨λb u q n _ _=>k b u (c b n) q,λb u q n _ _=>⟨u.slots,k b u (c b n) q⟩,λb u q n _=>by rw[aI (f b n)];exact n,λb u q _=>?_,
  λb B q=>by rw[aI (hm b _ q λz=>z)];exact q,λb u B q=>by rw[aI (hm b _ q λz=>z)];exact q,λb ps q=>⟨#[],by rw[aI (hm b _ q λz=>z),q];simp⟩⟩
 grind
abbrev trk(h:Heap)(H:Hp):LAd:=(bI h.objs.size).filter λa=>(H a).isSome
abbrev m9(h:Heap)(H:Hp):Heap:=W.hideAll h (trk h H)
def Iw(h:Heap)(H:Hp):(m9 h H).objs.size=h.objs.size:=W.hideAll_size _ _
def Ix{o:Obj}(e:h.get? b=aa o)(n:H b=ab):(m9 h H).get? b=aa o:=
 W.hideAll_get _ e λhm=>by
  have q:=(cL.mp hm).2
  grind
def Iy{o:Obj}(e:(m9 h H).get? b=aa o):h.get? b=aa o/\H b=ab:=by
 have a:=W.of_hideAll _ e;refine⟨a,?_⟩
 cases q:H b with
 |none=>rfl
 |some x=>
  have hm:b∈trk h H:=cL.mpr ⟨fX.mpr (bv a),by simp[q]⟩;have z:(m9 h H).get? b=ab:=W.hideAll_none _ hm
  grind
abbrev Iz(g h:Heap)(U2:Addr):PNS:=(bI h.objs.size).filterMap λa=>if a=U2\/(g.get? a).isSome=ac then ab else (h.get? a).map λo=>(a,o)
abbrev rest(g h:Heap)(U2 d:Addr):PNS:=(Iz g h U2).filter λp=>decide (p.1≠d)
structure Mod(K:aO)(mg:MGT)(base:Heap):Prop where
 kin:K.In base
 glob:base.Ns cj mg
 blt:∃mb,base.Ns builtinsNs mb/\∀x:Str,x ≠ "__name__" -> mb x=iu x
 nolimit:base.NoLimit
set_option genInjectivity false in
structure Cx where
 prog:bY
 w:World
 K:aO
 mg:Str->Option Value
 base:Heap
 A:bW
 N:LSt
 s₀:ah
 H₀:Hp
 env:Env
 outer:List Env
 stack:List Env
 ex:LAd
 fn:Str->Bool
 calm:Bool
 pn:PNS
 xe:Value->ah->Prop
nonrec abbrev NDb(x:Str):=(x==("__debug__":Str))=ag
nonrec abbrev NCd(x:Str):=(x==("__classdict__":Str))=ag
nonrec abbrev StE(X:Cx)(e:Expr)(es:LEx):=aL (e::es) X.env=(ag,eval e X.env)::aL es X.env
nonrec abbrev BkE(X:Cx)(pos:Pos)(es:LEx):=(bZ pos (aL es X.env)).any (·.1)=ag
nonrec abbrev LcF(X:Cx)(x:Str):=X.fn x=ac\/X.env.scope.names.lookup x=aa .local
abbrev frs(l:List Env):LAd:=l.filterMap (·.frame)
nonrec def Cx.fs(X:Cx):LAd:=frs X.outer
abbrev Vis(sc:Scope)(x:Str):Prop:=sc.names.lookup x=aa .local\/sc.names.lookup x=aa .cell\/sc.names.lookup x=aa .free
abbrev Loc(sc:Scope)(x:Str):Prop:=sc.names.lookup x=aa .local\/sc.names.lookup x=aa .cell
abbrev IA(env:Env)(h:Heap)(m:MGT)(x:Str)(u:Value):Prop:=
 (env.kindOf x=aa .local/\m x=aa u)\/((env.kindOf x=aa .cell\/env.kindOf x=aa .free)/\∃c,env.cells.lookup x=aa c/\h.IsCell c (aa u))
structure Cx.Ok(X:Cx):Prop where
 mod:Mod X.K X.mg X.base
 kind:X.env.scope.kind=.function
 glob:X.env.globals=cj
 blt:X.env.builtins=builtinsNs
 above:X.s₀.heap.objs.size<=X.env.locals
 inj:∀x y c,X.env.cells.lookup x=aa c->X.env.cells.lookup y=aa c->x=y
 has:∀x,(X.env.kindOf x=aa .cell\/X.env.kindOf x=aa .free)->∃c,X.env.cells.lookup x=aa c
 cab:∀x c,X.fn x=ac->X.env.cells.lookup x=aa c->X.s₀.heap.objs.size<=c
 hd:X.calm=ac->X.A.handled=ab
 frames:X.A.frames=aa X.stack
 stk:X.stack=X.outer\/(X.stack=X.env::X.outer/\X.env.frame=aa X.env.locals)
 exf:∀b∈X.ex,b≠X.env.locals/\∀x c,X.env.cells.lookup x=aa c->c≠b
 bs:∀b o,X.base.get? b=aa o->X.s₀.heap.get? b=aa o/\X.H₀ b=ab
 bsz:X.base.objs.size<=X.s₀.heap.objs.size
 noex:∀b o,X.base.get? b=aa o->b∉X.ex
 exfs:∀b∈X.ex,b∉X.fs
 funs:X.s₀.heap.FunFrames X.base X.outer
 frf:∀b∈X.fs,X.H₀ b=ab
structure Inv(X:Cx)(U:PNS)(L:List (Option V))(H:Hp)(s:ah):Prop where
 ok:X.Ok
 os:s.os=X.s₀.os
 bare:jw s.gens
 base:Un X.fs X.ex X.H₀ H X.s₀.heap s.heap
 loc:∃m,s.heap.Ns X.env.locals m/\∀(i:Nat) (x:Str) (v:V),X.N[i]?=aa x->L[i]?=aa (aa v)->Vis X.env.scope x->∃u,az v u/\IA X.env s.heap m x u
 cell:∀x c,X.env.cells.lookup x=aa c->∃v,s.heap.IsCell c v
 free:H X.env.locals=ab
 freeC:∀x c,X.env.cells.lookup x=aa c->H c=ab
 pin:∀p∈X.pn++U,s.heap.get? p.1=aa p.2/\H p.1=ab/\p.1≠X.env.locals/\p.1∉X.fs/\∀v,p.2.data≠.cell v
 hok:HOk X.prog X.w H s.heap
 len:L.length=X.N.length
variable{X:Cx}
def Cx.Ok.nofr(ok:X.Ok){o:Obj}(e:X.base.get? b=aa o):b∉X.fs:=λa=>by
 have:=(ok.funs.mem a).1
 grind
variable{U:PNS}{L:List (Option V)}
def Inv.bs{s:ah}(I:Inv X U L H s):∀b o,X.base.get? b=aa o->s.heap.get? b=aa o/\H b=ab:=λb o e=>
 ⟨I.base.keep b o (I.ok.bs b o e).1 (I.ok.bs b o e).2 (I.ok.nofr e) (I.ok.noex b o e),I.base.free b o (I.ok.bs b o e).1 (I.ok.bs b o e).2 (I.ok.noex b o e)⟩
def Inv.bk{s:ah}(I:Inv X U L H s):∀b o,X.base.get? b=aa o->s.heap.get? b=aa o:=λb o e=>(I.bs b o e).1
def Inv.mod{s:ah}(I:Inv X U L H s):Mod X.K X.mg X.base:=I.ok.mod
def Inv.kIn{s:ah}(I:Inv X U L H s):X.K.In s.heap:=I.ok.mod.kin.keeps I.bk
def Inv.lt{s:ah}(I:Inv X U L H s):X.env.locals<s.heap.objs.size:=let ⟨_,hn,_⟩:=I.loc;hn.lt
def Inv.sz{s:ah}(I:Inv X U L H s):X.s₀.heap.objs.size<=s.heap.objs.size:=cy I.ok.above (eM I.lt)
def Inv.nofs{s:ah}(I:Inv X U L H s)(h:s.heap.objs.size<=a):a∉X.fs:=λb=>by
 obtain⟨_,o,c,_⟩:=I.ok.funs.mem b;exact absurd (eK (bv c) (cy I.sz h)) (io _)
def Inv.cne{s:ah}(I:Inv X U L H s):∀x c,X.env.cells.lookup x=aa c->c≠X.env.locals:=λx c e z=>by
 obtain⟨v,o,f,hd⟩:=I.cell x c e;obtain⟨m,⟨o',es,d,b,a,_⟩,_⟩:=I.loc
 grind
def Inv.funs{s:ah}(I:Inv X U L H s):s.heap.FunFrames X.base X.outer:=by
 have all:∀l,(∀b∈frs l,b∈X.fs)->X.s₀.heap.FunFrames X.base l->s.heap.FunFrames X.base l:=by
  intro l
  induction l with
  |nil=>intro _ _;trivial
  |cons env r j=>
   intro f h;obtain⟨g,⟨U2,o,d,hn,i,hd⟩,hr⟩:=h;have a:=f U2 (by unfold frs;rw[oP,d];exact aH);obtain⟨sl,e⟩:=I.base.slot U2 o i (I.ok.frf U2 a) a λz=>I.ok.exfs U2 z a;exact⟨g,⟨U2,_,d,hn,e,hd⟩,j (λb c=>f b (by unfold frs;rw[oP,d];exact bj _ c)) hr⟩
 exact all X.outer (λ_ c=>c) I.ok.funs
def Inv.stack{s:ah}(I:Inv X U L H s):s.heap.FunFrames X.base X.stack:=by
 rcases I.ok.stk with e |⟨e,hf⟩
 .rw[e];exact I.funs
 .rw[e];obtain⟨m,hn,_⟩:=I.loc;exact .cons (by rw[I.ok.kind];decide) hf hn (Heap.get?_none_of_le (cy I.ok.bsz I.ok.above)) I.funs
def Inv.stkSub{s:ah}(I:Inv X U L H s):∀b∈frs X.stack,b∈X.env.locals::X.fs:=λb a=>by
 rcases I.ok.stk with e |⟨e,hf⟩
 .rw[e]at a;exact bj _ a
 .rw[e]at a;unfold frs at a;rw[oP,hf]at a;exact a
def Inv.stkFree{s:ah}(I:Inv X U L H s):∀b∈frs X.stack,H b=ab:=λb a=>by
 rcases bm.mp (I.stkSub b a)with e |a
 .rw[e];exact I.free
 .obtain⟨_,o,c,_⟩:=I.ok.funs.mem a;exact I.base.free b o c (I.ok.frf b a) λz=>I.ok.exfs b z a
variable{g':Array GenState}{t':Nat}{d':Drawn}
section
variable{s:ah}
def Inv.step{ch:LAd}(I:Inv X U L H s)
 (g:∀b∈ch,(b∈X.ex\/X.s₀.heap.objs.size<=b)/\b≠X.env.locals/\(∀x c,X.env.cells.lookup x=aa c->c≠b)/\∀p∈X.pn++U,p.1≠b)
 (keep:∀b o,b≠X.env.locals->b∉X.fs->b∉ch->s.heap.get? b=aa o->H b=ab->h'.get? b=aa o)
 (slot:∀b o,b≠X.env.locals->b∈X.fs->b∉ch->s.heap.get? b=aa o->H b=ab->∃sl,h'.get? b=aa {o with slots:=sl})(free:∀b o,b∉ch->s.heap.get? b=aa o->H b=ab->H' b=ab)
 (there:∀b o,b∉ch->s.heap.get? b=aa o->∃o',h'.get? b=aa o')
 (tups:∀b B,H b=aa (.tup B)->H' b=aa (.tup B))(frzs:∀b o u,H b=aa (.frz o u)->H' b=aa (.frz o u))(tbls:∀b ps,H b=aa (.tbl ps)->∃more,H' b=aa (.tbl (ps++more)))
 (ns:∀m,s.heap.Ns X.env.locals m->h'.Ns X.env.locals m)(hok:HOk X.prog X.w H' h')(T:jw g'):
  Inv X U L H' {s with heap:=h',gens:=g',drawn:=d',toks:=t'}:=by
 have G:∀b o,X.s₀.heap.get? b=aa o->b≠X.env.locals:=λb o e=>bR (eK (bv e) I.ok.above)
 have y:∀b o,X.s₀.heap.get? b=aa o->b∉X.ex->b∉ch:=λb o e a A=>by
  rcases(g b A).1 with z |z
  .exact a z
  .exact absurd (eK (bv e) z) (io _)
 have f:∀x c,X.env.cells.lookup x=aa c->∀v,s.heap.IsCell c v->h'.IsCell c v:=λx c e v q_=>by
  obtain⟨o,C,hd⟩:=q_;have h:=λz=>(g c z).2.2.1 x c e rfl
  by_cases M:c∈X.fs
  .obtain⟨sl,q⟩:=slot c o (I.cne x c e) M h C (I.freeC x c e);exact⟨_,q,hd⟩
  .exact⟨o,keep c o (I.cne x c e) M h C (I.freeC x c e),hd⟩
 refine⟨I.ok,I.os,T,⟨λb o e n A a=>(keep b o (G b o e) A (y b o e a) (I.base.keep b o e n A a) (I.base.free b o e n a)),λb o e n A a=>?_,λb o e n a=>?_,λb o e a=>?_,λb B e=>tups b B (I.base.tups b B e),λb o B e=>frzs b o B (I.base.frzs b o B e),λb ps e=>?_⟩,?_,λx c e=>?_,?_,λx c e=>?_,λp N=>?_,hok,I.len⟩
 .obtain⟨sl,j⟩:=I.base.slot b o e n A a;obtain⟨J,E⟩:=slot b _ (G b o e) A (y b o e a) j (I.base.free b o e n a);exact⟨J,E⟩
 .obtain⟨o',j⟩:=I.base.there b o e a;exact free b o' (y b o e a) j (I.base.free b o e n a)
 .obtain⟨o',j⟩:=I.base.there b o e a;exact there b o' (y b o e a) j
 .obtain⟨m1,j⟩:=I.base.tbls b ps e;obtain⟨m2,E⟩:=tbls b _ j;exact⟨m1++m2,by rw[E,Array.append_assoc]⟩
 .obtain⟨m,hn,Y⟩:=I.loc;refine⟨m,ns m hn,λi x v j E Q=>?_⟩;obtain⟨u,r,l⟩:=Y i x v j E Q;refine⟨u,r,?_⟩
  rcases l with l |⟨k,c,e,z⟩
  .exact .inl l
  .exact .inr ⟨k,c,e,f x c e _ z⟩
 .obtain⟨v,z⟩:=I.cell x c e;exact⟨v,f x c e v z⟩
 .obtain⟨m,⟨o,_,_,C,_⟩,_⟩:=I.loc;exact free _ o (λz=>(g _ z).2.1 rfl) C I.free
 .obtain⟨v,o,C,hd⟩:=I.cell x c e;exact free c o (λz=>(g c z).2.2.1 x c e rfl) C (I.freeC x c e)
 .obtain⟨e,n,ne,nf,d⟩:=I.pin p N;have h:=λz=>(g p.1 z).2.2.2 p N rfl;exact⟨keep p.1 p.2 ne nf h e n,free p.1 p.2 h e n,ne,nf,d⟩
end
section
variable{s:ah}
def Inv.un(I:Inv X U L H s)(u:Un X.fs [] H H' s.heap h')(hok:HOk X.prog X.w H' h'):Inv X U L H' {s with heap:=h',toks:=t'}:=by
 obtain⟨m,⟨o,es,i,f,r⟩,_⟩:=id I.loc;obtain⟨sl,g⟩:=u.any f I.free (by simp)
 exact I.step (ch:=[]) (λ_ z=>nomatch z) (λb o _ d _ e n=>u.keep b o e n d (by simp)) (λb o _ d _ e n=>u.slot b o e n d (by simp)) (λb o _ e n=>u.free b o e n (by simp)) (λb o _ e=>u.there b o e (by simp)) u.tups u.frzs u.tbls (λj hm=>by
  obtain⟨o',es',c,a,h⟩:=hm;rw[f]at a;cases a;exact⟨_,es',c,g,h⟩) hok I.bare
end
section
variable{s:ah}
def Inv.call{ch:LAd}(I:Inv X U L H s)(u:Un (frs X.stack) ch H H' s.heap h')(hok:HOk X.prog X.w H' h')(l:jw g')
 (d:∀b∈ch,(b∈X.ex\/X.s₀.heap.objs.size<=b)/\b≠X.env.locals/\(∀x c,X.env.cells.lookup x=aa c->c≠b)/\∀p∈X.pn++U,p.1≠b):
  Inv X U L H' {s with heap:=h',gens:=g',drawn:=d',toks:=t'}:=by
 obtain⟨m,⟨o,es,v,i,r⟩,_⟩:=id I.loc;obtain⟨sl,h⟩:=u.any i I.free λz=>(d _ z).2.1 rfl
 exact I.step d (λb o h j a e n=>u.keep b o e n (λz=>(bm.mp (I.stkSub b z)).elim h j) a) (λb o _ _ a e n=>u.any e n a) (λb o a e n=>u.free b o e n a) (λb o a e=>u.there b o e a) u.tups u.frzs u.tbls (λy hm=>by
  obtain⟨o',es',g,f,q⟩:=hm;rw[i]at f;cases f;exact⟨_,es',g,h,q⟩) hok l
end
variable{it:Addr}
section
variable{s:ah}
def Inv.turned(I:Inv X U L H s)(k:∀b o,b≠it->s.heap.get? b=aa o->h'.get? b=aa o)(hn:H it=ab)(f:it≠X.env.locals)
 (h1:it∈X.ex\/X.s₀.heap.objs.size<=it)(h2:∀x c,X.env.cells.lookup x=aa c->c≠it)(h:∀p∈X.pn++U,p.1≠it):Inv X U L H {s with heap:=h',toks:=t'}:=by
 have d:∀b u,H b=aa u->b≠it:=λb u e z=>by rw[z,hn]at e;nomatch e
 refine I.step (ch:=[it]) (λb i=>?_) (λb o _ _ a e _=>k b o (λz=>a (by simp[z])) e) (λb o _ _ a e _=>⟨o.slots,k b o (λz=>a (by simp[z])) e⟩) (λ_ _ _ _ n=>n)
  (λb o a e=>⟨o,k b o (λz=>a (by simp[z])) e⟩) (λ_ _ e=>e) (λ_ _ _ e=>e) (λb ps e=>⟨#[],by rw[e];simp⟩) (λm hm=>?_) (λb u e=>?_) I.bare
 .have e:b=it:=by simpa using i
  subst e;exact⟨h1,f,h2,h⟩
 .obtain⟨o,es,g,j,r⟩:=hm;exact⟨o,es,g,k _ o (d5 f) j,r⟩
 .refine(I.hok b u e).stay (λc v a q=>k c v ?_ q) (λ_ q=>q) λ_ _ q=>q
  rcases a with z |z
  .rw[z];exact d b u e
  .exact d c _ z
end
section
variable{s:ah}
def Inv.tok(I:Inv X U L H s)(t:Nat):Inv X U L H {s with toks:=t}:=I.un Un.refl I.hok
end
section
variable{s:ah}
def Inv.kept(I:Inv X U L H s)(k:∀b u,s.heap.get? b=aa u->h'.get? b=aa u):Inv X U L H {s with heap:=h',toks:=t'}:=I.un (Un.kept k) (I.hok.kept k)
end
section
variable{s:ah}
def Inv.laid{o:HO}(I:Inv X U L H s)(k:∀b u,s.heap.get? b=aa u->h'.get? b=aa u)(c:s.heap.objs.size<=a)(new:dG X.prog X.w (upd H a o) h' a o):
  Inv X U L (upd H a o) {s with heap:=h',toks:=t'}:=I.un (Un.laid k c (I.hok.fresh c)) (I.hok.laid k c new)
end
section
variable{s:ah}
def Inv.write{o:HO}(I:Inv X U L H s)(d:Mut (H x))(c:e=x\/H e=aa (.own x))(k:∀b u,b≠e->s.heap.get? b=aa u->h'.get? b=aa u)(a:∃u,h'.get? e=aa u)
 (new:dG X.prog X.w (upd H x o) h' x o):Inv X U L (upd H x o) {s with heap:=h',toks:=t'}:=I.un (Un.write d c k a) (I.hok.write d c k a new)
end
def Inv.pins_of{s:ah}{a:PNS}(I:Inv X U L H s)(h:∀p∈a,s.heap.get? p.1=aa p.2/\H p.1=ab/\p.1≠X.env.locals/\p.1∉X.fs/\∀v,p.2.data≠.cell v):Inv X a L H s:=
 ⟨I.ok,I.os,I.bare,I.base,I.loc,I.cell,I.free,I.freeC,λp b=>(bP.mp b).elim (λz=>I.pin p (da _ z)) (h p),I.hok,I.len⟩
variable{N:LSt}{i:Nat}{x:Str}
def Cw(e:N.Nodup){j:Nat}(a:N[i]?=aa x)(b:N[j]?=aa x):i=j:=by
 obtain⟨h1,c⟩:=cR.mp a;obtain⟨h2,d⟩:=cR.mp b;exact(List.getElem_inj e).mp (c.trans d.symm)
variable{U1:Model}{u:Value}{Q:Unit->ah->Prop}
section
variable{s:ah}
def Cy(I:Inv X U L H s)(hN:X.N.Nodup)(hi:X.N[i]?=aa x)(B:Loc X.env.scope x)(r:az v u)
 (h:∀s',Inv X U (L.set i (aa v)) H s'->(∃a,fK a s.heap s'.heap/\(a=X.env.locals\/X.env.cells.lookup x=aa a))->Q () s')(hf:LcF X x:=by first |exact .inl rfl |exact .inr rfl |assumption):wpAny U1 A (storeName X.env x u) Q U4 s:=by
 obtain⟨m,hn,hl⟩:=id I.loc;have hcls:(X.env.scope.kind==.class || (X.env.scope.kind==.module && X.env.locals != X.env.globals))=ag:=by rw[I.ok.kind];rfl
 have G:i<L.length:=by rw[I.len];exact(cR.mp hi).1
 have cne:=I.cne
 have l:∀{a:Addr} {h':Heap},(∃o,s.heap.get? a=aa o/\H a=ab)->fK a s.heap h'->HOk X.prog X.w H h':=λ{a h'} ha f b ob e=>by
  obtain⟨_,_,hfree⟩:=ha;refine(I.hok b ob e).stay (λc w' C q=>(f.2 c ?_).trans q) (λ_ q=>q) λ_ _ q=>q
  grind
 rcases B with hk |hk
 .refine wpAny_storeName_local hk hn (λh' hn' f=>?_) hcls;obtain⟨oL,_,_,hoL,_⟩:=id hn;refine h _ ⟨I.ok,I.os,I.bare,⟨λb o e n J B=>((f.2 b (bR (eK (bv e) I.ok.above))).trans (I.base.keep b o e n J B)),λb o e n J B=>?_,I.base.free,λb o e B=>?_,I.base.tups,I.base.frzs,I.base.tbls⟩,⟨_,hn',λj y v' g E e3=>?_⟩,λy c e=>?_,I.free,I.freeC,λp hp=>?_,l ⟨oL,hoL,I.free⟩ f,by simpa using I.len⟩ ⟨_,f,.inl rfl⟩
  .obtain⟨sl,g⟩:=I.base.slot b o e n J B;exact⟨sl,(f.2 b (bR (eK (bv e) I.ok.above))).trans g⟩
  .obtain⟨o',g⟩:=I.base.there b o e B;exact⟨o',(f.2 b (bR (eK (bv e) I.ok.above))).trans g⟩
  .by_cases T:j=i
   .subst T;rw[hi]at g;cases g;rw[jV G]at E;cases E;exact⟨u,r,.inl ⟨hk,by simp⟩⟩
   .rw[jW (d5 T)]at E;obtain⟨u',r',q⟩:=hl j y v' g E e3;refine⟨u',r',?_⟩
    rcases q with⟨k,e⟩ |⟨k,c,e,z⟩
    .refine .inl ⟨k,?_⟩;have:y≠x:=λe=>T (Cw hN g (e▸hi))
     grind
    .exact .inr ⟨k,c,e,z.sameBut f (cne y c e)⟩
  .obtain⟨w',z⟩:=I.cell y c e;exact⟨w',z.sameBut f (cne y c e)⟩
  .obtain⟨e,n,ne,nf,d⟩:=I.pin p hp;exact⟨(f.2 p.1 ne).trans e,n,ne,nf,d⟩
 .have M:X.fn x=ac:=by
   grind
  obtain⟨c,C⟩:=I.ok.has x (.inl hk);obtain⟨w',z⟩:=I.cell x c C;refine wpAny_storeName_cell I.ok.kind hk C z (λh' Y f=>?_);obtain⟨oc,hoc,hocd⟩:=id z
  refine h {s with heap:=h'} ⟨I.ok,I.os,I.bare,⟨λb o e n J B=>((f.2 b (bR (eK (bv e) (I.ok.cab x c M C)))).trans (I.base.keep b o e n J B)),λb o e n J B=>?_,I.base.free,λb o e B=>?_,I.base.tups,I.base.frzs,I.base.tbls⟩,⟨m,hn.sameBut f (d5 (cne x c C)),λj y v' g E e3=>?_⟩,λy c' e=>?_,I.free,I.freeC,λp hp=>?_,l ⟨oc,hoc,I.freeC x c C⟩ f,by simpa using I.len⟩ ⟨c,f,.inr C⟩
  .obtain⟨sl,g⟩:=I.base.slot b o e n J B;exact⟨sl,(f.2 b (bR (eK (bv e) (I.ok.cab x c M C)))).trans g⟩
  .obtain⟨o',g⟩:=I.base.there b o e B;exact⟨o',(f.2 b (bR (eK (bv e) (I.ok.cab x c M C)))).trans g⟩
  .by_cases T:j=i
   .subst T;rw[hi]at g;cases g;rw[jV G]at E;cases E;exact⟨u,r,.inr ⟨.inl hk,c,C,Y⟩⟩
   .rw[jW (d5 T)]at E;obtain⟨u',r',q⟩:=hl j y v' g E e3;refine⟨u',r',?_⟩
    rcases q with q |⟨k,c',e,z'⟩
    .exact .inl q
    .refine .inr ⟨k,c',e,z'.sameBut f ?_⟩;rintro rfl;exact T (Cw hN g (I.ok.inj _ _ _ e C▸hi))
  .by_cases hcc:c'=c
   .subst hcc;exact⟨_,Y⟩
   .obtain⟨w2,z2⟩:=I.cell y c' e;exact⟨w2,z2.sameBut f hcc⟩
  .obtain⟨e,n,ne,nf,d⟩:=I.pin p hp;refine⟨(f.2 p.1 ?_).trans e,n,ne,nf,d⟩;intro q;rw[q,hoc]at e;exact d w' (by rw[<- (cW e)];exact hocd)
end
def vA{s:ah}(I:Inv X U L H s)(c:X.N.Nodup)(hi:X.N[i]?=aa x)(e:Loc X.env.scope x)(r:az v u)
 (h:∀a,Inv X U (L.set i (aa v)) H a->Q () a)(d:LcF X x:=by first |exact .inl rfl |exact .inr rfl |assumption):wpAny U1 A (storeName X.env x u) Q U4 s:=
 Cy I c hi e r (λa b _=>h a b) d
variable{s':ah}
def Inv.call'{s:ah}{ch:LAd}(I:Inv X U L H s)(e:s'.os=s.os)(u:Un (frs X.stack) ch H H' s.heap s'.heap)(hok:HOk X.prog X.w H' s'.heap)(d:jw s'.gens)
 (a:∀b∈ch,(b∈X.ex\/X.s₀.heap.objs.size<=b)/\b≠X.env.locals/\(∀x c,X.env.cells.lookup x=aa c->c≠b)/\∀p∈X.pn++U,p.1≠b):Inv X U L H' s':=by
 obtain⟨h',g',d',t',o'⟩:=s';subst e;exact I.call u hok d a
nonrec def XK:=Value->Option Addr->Hp->Prop
nonrec def St:=List (Option V)
nonrec def VK:=V->Hp->Prop
nonrec def TE:=St->Hp->VK->Prop
nonrec def TT:=St->Hp->(Bool->Hp->Prop)->Prop
nonrec def TA:=St->Hp->(LVv->Hp->Prop)->Prop
structure iD where
 nx:St->Hp->Prop
 rt:VK
 bk:St->Hp->Prop:=λ_ _=>False
 ct:St->Hp->Prop:=λ_ _=>False
nonrec def TS:=iD->St->Hp->Prop
abbrev EP(X:Cx)(U:PNS)(L:St)(Q:VK)(u:Value)(s':ah):Prop:=∃v H',Inv X U L H' s'/\az v u/\Q v H'
abbrev TP(X:Cx)(U:PNS)(L:St)(Q:Bool->Hp->Prop)(b:Bool)(s':ah):Prop:=∃H',Inv X U L H' s'/\Q b H'
abbrev AP(X:Cx)(U:PNS)(L:St)(Q:LVv->Hp->Prop)(us:LVa)(s':ah):Prop:=∃vs H',Inv X U L H' s'/\aE vs us/\Q vs H'
abbrev SP(X:Cx)(U:PNS)(D:iD)(f:Flow)(s':ah):Prop:=
 match f with
 |.next=>∃σ' H',Inv X U σ' H' s'/\D.nx σ' H'
 |.brk=>∃σ' H',Inv X U σ' H' s'/\D.bk σ' H'
 |.cont=>∃σ' H',Inv X U σ' H' s'/\D.ct σ' H'
 |.ret u=>∃v σ' H',Inv X U σ' H' s'/\az v u/\D.rt v H'
abbrev PE(X:Cx)(e:Expr)(t:TE):Prop:=
 ∀(U:PNS) (s:ah) (L:St) (H:Hp) (Q:VK),Inv X U L H s->t L H Q->wpAny (model X.prog X.w) X.A (eval e X.env) (EP X U L Q) X.xe s
abbrev PT(X:Cx)(e:Expr)(t:TT):Prop:=
 ∀(U:PNS) (s:ah) (L:St) (H:Hp) (Q:Bool->Hp->Prop),Inv X U L H s->t L H Q->wpAny (model X.prog X.w) X.A (isTrue e X.env (eval e X.env)) (TP X U L Q) X.xe s
abbrev PW(X:Cx)(e:Expr)(t:TT):Prop:=
 ∀(a:Sem Value) (U:PNS) (s:ah) (L:St) (H:Hp) (Q:Bool->Hp->Prop),Inv X U L H s->t L H Q->wpAny (model X.prog X.w) X.A (isTrue e X.env a) (TP X U L Q) X.xe s
variable{e:Expr}
def PW.pt{t:TT}(h:PW X e t):PT X e t:=h _
abbrev PA(X:Cx)(es:LEx)(t:TA):Prop:=
 ∀(pos:Pos) (U:PNS) (s:ah) (L:St) (H:Hp) (Q:LVv->Hp->Prop),Inv X U L H s->t L H Q->wpAny (model X.prog X.w) X.A (spliced (bZ pos (aL es X.env))) (AP X U L Q) X.xe s
abbrev PS(X:Cx)(st:Stmt)(t:TS):Prop:=
 ∀(U:PNS) (s:ah) (L:St) (H:Hp) (D:iD),Inv X U L H s->t D L H->wpAny (model X.prog X.w) X.A (exec st X.env) (SP X U D) X.xe s
abbrev PSs(X:Cx)(st:List Stmt)(t:TS):Prop:=
 ∀(U:PNS) (s:ah) (L:St) (H:Hp) (D:iD),Inv X U L H s->t D L H->wpAny (model X.prog X.w) X.A (execs st X.env) (SP X U D) X.xe s
def thn{c:Type}{t:Sem c}{Q b:c->ah->Prop}{s:ah}(h:wpAny U1 A t Q U4 s)(d:∀a s,Q a s->b a s):wpAny U1 A t b U4 s:=eX h d λ_ _ x=>x
abbrev cB(i:Nat):TE:=λL H Q=>∃v,L[i]?=aa (aa v)/\Q v H
abbrev tC(v:V):TE:=λ_ H Q=>Q v H
variable{pos:Pos}
def lM(g:X.N[i]?=aa x)(hv:Vis X.env.scope x)(hd:NDb x:=by decide)(d:NCd x:=by decide):PE X (.Name x pos) (cB i):=by
 intro U s L H Q I h;obtain⟨v,e,h⟩:=h;obtain⟨m,hn,j⟩:=I.loc;obtain⟨u,r,l⟩:=j i x v g e hv;have fin:EP X U L Q u s:=⟨v,H,I,r,h⟩
 rcases l with⟨b,hm⟩ |⟨b,c,f,a⟩
 .exact wpAny_Name (wpAny_loadName_local I.ok.kind b hn hm fin) hd
 .rcases b with b |b
  .exact wpAny_Name (wpAny_loadName_cell I.ok.kind b f a fin) hd
  .exact wpAny_Name (wpAny_loadName_free I.ok.kind b f a fin d) hd
def Cz{i j pos}:PE X (.Constant (.int i) j pos) (tC (.int i)):=λ_ _ _ H _ I h=>wpAny_Constant_int ⟨.int i,H,I.tok _,⟨_,rfl⟩,h⟩
def IB{b j pos}:PE X (.Constant (.bool b) j pos) (tC (.bl b)):=λ_ _ _ H _ I h=>Constant_bool ⟨.bl b,H,I,rfl,h⟩
def IC{j pos}:PE X (.Constant .none j pos) (tC .non):=λ_ _ _ H _ I h=>Constant_none ⟨.non,H,I,rfl,h⟩
def ID{x j pos}:PE X (.Constant (.str x) j pos) (tC (.str x)):=λ_ _ _ H _ I h=>Calls.Constant_str ⟨.str x,H,I.tok _,⟨_,rfl⟩,h⟩
abbrev Gl(X:Cx)(x:Str):Prop:=X.env.kindOf x=aa .globalImplicit
variable{L:St}
def vB{s:ah}{Q:PRS}(I:Inv X U L H s)(a:Gl X x)(hm:X.mg x=aa u)(h:Q u s)
 (hd:NDb x:=by decide):wpAny (model X.prog X.w) X.A (eval (.Name x pos) X.env) Q U4 s:=
 Calls.Name_function_global I.ok.kind a (Calls.loadGlobal_global (by rw[I.ok.glob];exact I.mod.glob.keeps I.bk) hm h) hd
def gC{s:ah}{Q:PRS}(I:Inv X U L H s)(a:Gl X x)(hm:X.mg x=ab)(hv:iu x=aa u)(h:Q u s)
 (hn:x ≠ "__name__":=by decide)(hd:NDb x:=by decide):wpAny (model X.prog X.w) X.A (eval (.Name x pos) X.env) Q U4 s:=by
 obtain⟨mb,h1,h2⟩:=I.mod.blt;exact Calls.Name_function_global I.ok.kind a (Calls.loadGlobal_builtin (by rw[I.ok.glob];exact I.mod.glob.keeps I.bk) hm (by rw[I.ok.blt];exact h1.keeps I.bk) ((h2 x hn).trans hv) h) hd
def IE(a:Gl X x)(hm:X.mg x=ab)(hv:iu x=aa u)(r:az v u)(hn:x ≠ "__name__":=by decide)(hd:NDb x:=by decide):PE X (.Name x pos) (tC v):=
 λ_ _ _ H _ I h=>gC I a hm hv ⟨v,H,I,r,h⟩ hn hd
abbrev t2I(a b:TE)(k:Int->Int->Hp->Prop):St->Hp->Prop:=λL H=>a L H λx H1=>b L H1 λy H2=>∃i j,x=.int i/\y=.int j/\k i j H2
abbrev iE(a b:TE):TE:=λL H Q=>t2I a b (λi j H2=>Q (.int (i+j)) H2) L H
abbrev PC(X:Cx)(op:CmpOp)(a b:Expr)(t:TE):Prop:=
 ∀(U:PNS) (s:ah) (L:St) (H:Hp) (Q:VK),Inv X U L H s->t L H Q ->
  wpAny (model X.prog X.w) X.A (eval a X.env) (λv c=>wpAny (model X.prog X.w) X.A (eval b X.env) (λu d=>wpAny (model X.prog X.w) X.A (cE op v u) (EP X U L Q) X.xe d) X.xe c) X.xe s
variable{a b:Expr}
def IF{op:CmpOp}{t:TE}(h:PC X op a b t)(h1:j4 op b=ag:=by first |exact nobehind _ (by decide) (by decide) |rfl):PE X (.Compare a [op] [b] pos) t:=λU s L H Q I c=>wpAny_Compare1 (h U s L H Q I c) h1
abbrev IG(t u:TT):TT:=λL H Q=>t L H λc H1=>if c=ac then u L H1 Q else Q ag H1
abbrev tOr(t u:TT):TT:=λL H Q=>t L H λc H1=>if c=ac then Q ac H1 else u L H1 Q
abbrev IH(t:TT):TT:=λL H Q=>t L H λc H1=>Q (!c) H1
variable{tA:TT}
def II(ha:PT X a tA):PW X (.BoolOp .And [a] pos) tA:=by
 intro wh U s L H Q I h;refine isTrue_and (thn (ha U s L H Q I h) λc s1 e=>?_)
 cases c with
 |true=>exact isTrue_and_nil e
 |false=>exact e
def IJ(ha:PT X a tA):PW X (.BoolOp .Or [a] pos) tA:=by
 intro wh U s L H Q I h;refine isTrue_or (thn (ha U s L H Q I h) λc s1 e=>?_)
 cases c with
 |false=>exact isTrue_or_nil e
 |true=>exact e
variable{tB':TT}
def IK{rest:LEx}(ha:PT X a tA)(f:PW X (.BoolOp .And (b::rest) pos) tB'):PW X (.BoolOp .And (a::b::rest) pos) (IG tA tB'):=by
 intro wh U s L H Q I h;refine isTrue_and (thn (ha U s L H _ I h) λc s1 g=>?_);obtain⟨H1,d,e⟩:=g
 cases c with
 |true=>exact f wh U s1 L H1 Q d e
 |false=>exact⟨H1,d,e⟩
def IL{rest:LEx}(ha:PT X a tA)(f:PW X (.BoolOp .Or (b::rest) pos) tB'):PW X (.BoolOp .Or (a::b::rest) pos) (tOr tA tB'):=by
 intro wh U s L H Q I h;refine isTrue_or (thn (ha U s L H _ I h) λc s1 g=>?_);obtain⟨H1,d,e⟩:=g
 cases c with
 |true=>exact⟨H1,d,e⟩
 |false=>exact f wh U s1 L H1 Q d e
def IM(ha:PT X a tA):PT X (.UnaryOp .Not a pos) (IH tA):=by
 intro U s L H Q I h;exact isTrue_not (ha U s L H _ I h)
abbrev IN(a b:TE):TE:=λL H Q=>a L H λx H1=>∃c,x=.bl c/\if c=ac then b L H1 Q else Q (.bl ag) H1
abbrev IP(a b:TE):TE:=λL H Q=>a L H λx H1=>∃c,x=.bl c/\if c=ac then Q (.bl ac) H1 else b L H1 Q
abbrev IQ(a:TE):TE:=λL H Q=>a L H λx H1=>∃c,x=.bl c/\Q (.bl (!c)) H1
def IR{op}{t:TE}(h:PE X a t):PE X (.BoolOp op [a] pos) t:=λU s L H Q I b=>BoolOp_one (h U s L H Q I b)
variable{ta tb:TE}
def IS{rest:LEx}(ha:PE X a ta)(f:PE X (.BoolOp .And (b::rest) pos) tb):PE X (.BoolOp .And (a::b::rest) pos) (IN ta tb):=by
 intro U s L H Q I h;refine BoolOp_and (thn (ha U s L H _ I h) λv s1 g=>?_);obtain⟨x,H1,e,i,d⟩:=g;obtain⟨c,rfl,d⟩:=d;subst i;refine mS ?_
 cases c with
 |true=>exact f U s1 L H1 Q e d
 |false=>exact⟨.bl ag,H1,e,rfl,d⟩
def IT{rest:LEx}(ha:PE X a ta)(f:PE X (.BoolOp .Or (b::rest) pos) tb):PE X (.BoolOp .Or (a::b::rest) pos) (IP ta tb):=by
 intro U s L H Q I h;refine BoolOp_or (thn (ha U s L H _ I h) λv s1 g=>?_);obtain⟨x,H1,e,i,d⟩:=g;obtain⟨c,rfl,d⟩:=d;subst i;refine mS ?_
 cases c with
 |false=>exact f U s1 L H1 Q e d
 |true=>exact⟨.bl ac,H1,e,rfl,d⟩
def IU(ha:PE X a ta):PE X (.UnaryOp .Not a pos) (IQ ta):=by
 intro U s L H Q I h;refine UnaryOp_ (thn (ha U s L H _ I h) λv s1 e=>?_);obtain⟨x,H1,d,f,b⟩:=e;obtain⟨c,rfl,b⟩:=b;subst f;exact not_of (mS ⟨.bl (!c),H1,d,rfl,b⟩)
abbrev tIf(t:TT)(ta tb:TE):TE:=λL H Q=>t L H λc H1=>if c=ac then ta L H1 Q else tb L H1 Q
variable{c:Expr}
def CA(i:PT X c tA)(ha:PE X a ta)(g:PE X b tb):PE X (.IfExp c a b pos) (tIf tA ta tb):=by
 intro U s L H Q I h;refine wpAny_IfExp (thn (i U s L H _ I h) λd s1 j=>?_);obtain⟨H1,e,f⟩:=j
 cases d with
 |true=>exact ha U s1 L H1 Q e f
 |false=>exact g U s1 L H1 Q e f
abbrev SqL(K:aO)(H:Hp)(a:Addr)(B:LVv):Prop:=
 Rd H a (.lst B) \/
  ∃(o:Obj) (E:Array Value) (n:Nat),K.lookup a=aa o/\o.cls=.type "list" /\ o.dict=ab/\o.data=.seq E n/\E.size<=aP/\aE B E.toList
abbrev SqT(K:aO)(H:Hp)(a:Addr)(B:LVv):Prop:=
 Rd H a (.tup B) \/
  ∃(o:Obj) (E:Array Value) (n:Nat),K.lookup a=aa o/\o.cls=.type "tuple" /\ o.data=.seq E n/\E.size<=aP/\aE B E.toList
abbrev IV:Value->Option V
 |.none=>aa .non
 |.bool b=>aa (.bl b)
 |.int i _=>aa (.int i)
 |.str x _=>aa (.str x)
 |.bytes b _=>aa (.byt b)
 |.float b _=>aa (.flt b)
 |.ref a=>aa (.ref a)
 |.type n=>aa (.ty n)
 | _=>ab
def az.abs{x:V}(r:az x u):IV u=aa x:=by
 cases x with
 |non=>subst r;rfl
 |bl _=>subst r;rfl
 |int _=>obtain⟨t,rfl⟩:=r;rfl
 |str _=>obtain⟨t,rfl⟩:=r;rfl
 |byt _=>obtain⟨t,rfl⟩:=r;rfl
 |flt _=>obtain⟨t,rfl⟩:=r;rfl
 |ref _=>subst r;rfl
 |ty _=>subst r;rfl
variable{y:V}
def az.inj{x:V}(r:az x u)(q:az y u):x=y:=cW (r.abs.symm.trans q.abs)
def aE.inj:∀{B a:LVv} {us:LVa},aE B us->aE a us->B=a
 | _,_,_,.nil,.nil=>rfl
 | _,_,_,.cons r t,.cons r' t'=>by rw[r.inj r',aE.inj t t']
variable{a:Addr}{K:aO}
def SqL.of(h:H a=aa (.lst B)):SqL K H a B:=.inl (.inl h)
def SqT.of(h:H a=aa (.tup B)):SqT K H a B:=.inl (.inl h)
def Inv.list{s:ah}(I:Inv X U L H s)(h:SqL X.K H a B):∃E:LVa,aE B E/\PlainL s.heap a E.toArray/\B.length<=aP:=by
 rcases h with h |⟨o,E,n,hk,hc,hd,hs,hz,r⟩
 .obtain⟨z,E,n,r,e⟩:=h.ok I.hok;exact⟨E,r,⟨_,n,e,rfl,rfl,rfl⟩,z⟩
 .refine⟨E.toList,r,⟨o,n,I.kIn a o hk,hc,hd,by simpa using hs⟩,?_⟩;have e:=r.length;simp only[gR]at e
  lia
def Inv.tuple{s:ah}(I:Inv X U L H s)(h:SqT X.K H a B):∃E:LVa,aE B E/\IsTup s.heap a E.toArray/\B.length<=aP:=by
 rcases h with h |⟨o,E,n,hk,hc,hs,hz,r⟩
 .obtain⟨z,E,r,p⟩:=h.ok I.hok;exact⟨E,r,p,z⟩
 .refine⟨E.toList,r,⟨o,I.kIn a o hk,hc,n,by simpa using hs⟩,?_⟩;have e:=r.length;simp only[gR]at e
  lia
variable{ys:LVv}
def Inv.list_inj{s:ah}(I:Inv X U L H s)(h:SqL X.K H a B)(h':SqL X.K H a ys):B=ys:=by
 obtain⟨E,r,⟨o,n,e,_,_,d⟩,_⟩:=I.list h;obtain⟨b,f,⟨o',g,c,_,_,d'⟩,_⟩:=I.list h';rw[e]at c;cases c;rw[d]at d'
 injection d' with d1 _
 have:E=b:=by simpa using congrArg Array.toList d1
 subst this;exact r.inj f
def Inv.tuple_inj{s:ah}(I:Inv X U L H s)(h:SqT X.K H a B)(h':SqT X.K H a ys):B=ys:=by
 obtain⟨E,r,⟨o,e,_,n,d⟩,_⟩:=I.tuple h;obtain⟨b,f,⟨o',c,_,g,d'⟩,_⟩:=I.tuple h';rw[e]at c;cases c;rw[d]at d'
 injection d' with d1 _
 have:E=b:=by grind
 subst this;exact r.inj f
nonrec def Cx.wish(X:Cx)(U4:PRS):Cx:={X with xe:=U4}
nonrec def Cx.nox(X:Cx):Cx:=X.wish λ_ _=>False
def Cx.Ok.wish(ok:X.Ok)(U4:PRS):(X.wish U4).Ok:=
 ⟨ok.mod,ok.kind,ok.glob,ok.blt,ok.above,ok.inj,ok.has,ok.cab,ok.hd,ok.frames,ok.stk,ok.exf,ok.bs,ok.bsz,ok.noex,ok.exfs,ok.funs,ok.frf⟩
def Cx.Ok.unwish(ok:(X.wish U4).Ok):X.Ok:=
 ⟨ok.mod,ok.kind,ok.glob,ok.blt,ok.above,ok.inj,ok.has,ok.cab,ok.hd,ok.frames,ok.stk,ok.exf,ok.bs,ok.bsz,ok.noex,ok.exfs,ok.funs,ok.frf⟩
def Inv.wish{s:ah}(I:Inv X U L H s)(U4:PRS):Inv (X.wish U4) U L H s:=⟨I.ok.wish U4,I.os,I.bare,I.base,I.loc,I.cell,I.free,I.freeC,I.pin,I.hok,I.len⟩
def Inv.unwish{s:ah}(I:Inv (X.wish U4) U L H s):Inv X U L H s:=⟨I.ok.unwish,I.os,I.bare,I.base,I.loc,I.cell,I.free,I.freeC,I.pin,I.hok,I.len⟩
def SP.unwish{D:iD}{f:Flow}(h:SP (X.wish U4) U D f s'):SP X U D f s':=by
 cases f with
 |next=>obtain⟨σ',H',I,q⟩:=h;exact⟨σ',H',I.unwish,q⟩
 |brk=>obtain⟨σ',H',I,q⟩:=h;exact⟨σ',H',I.unwish,q⟩
 |cont=>obtain⟨σ',H',I,q⟩:=h;exact⟨σ',H',I.unwish,q⟩
 |ret u=>obtain⟨v,σ',H',I,r,q⟩:=h;exact⟨v,σ',H',I.unwish,r,q⟩
def PSs.nox{st:List Stmt}{t:TS}(h:PSs X.nox st t):PSs X st t:=λU s L H D I a=>
 eX (h U s L H D (I.wish _) a) (λ_ _ q=>q.unwish) λ_ _ z=>gq z
abbrev IW:TS:=λD L H=>D.nx L H
abbrev IX(t u:TS):TS:=λD L H=>t {D with nx:=u D} L H
def CB:PSs X [] IW:=λ_ _ L H _ I h=>rX ⟨L,H,I,h⟩
variable{st:Stmt}{u:TS}
def ss{rest:List Stmt}{t:TS}(h1:PS X st t)(h2:PSs X rest u):PSs X (st::rest) (IX t u):=by
 intro U s L H D I h
 refine wpAny_execs_cons (thn (h1 U s L H {D with nx:=u D} I h) λf s1 q=>?_)
 cases f with
 |next=>
  obtain⟨σ',H',a,q⟩:=q
  exact h2 U s1 σ' H' D a q
 |ret v=>exact q
 |brk=>exact q
 |cont=>exact q
def CC{t:TS}(h1:PS X st t):PSs X [st] t:=by
 intro U s L H D I h;refine wpAny_execs_cons (thn (h1 U s L H D I h) λf s1 q=>?_)
 cases f with
 |next=>exact rX q
 |ret v=>exact q
 |brk=>exact q
 |cont=>exact q
def Inv.quiet{s:ah}(I:Inv X U L H s):interactive X.env=ag:=by simp[interactive,I.ok.kind]
abbrev lN(te:TE):TS:=λD L H=>te L H λ_ H1=>D.nx L H1
variable{te:TE}
def kh(b:PE X e te)(c:fI e ab pos.line X.env=pure ag:=by rfl):PS X (.Expr e pos) (lN te):=by
 intro U s L H D I h;exact wpAny_Expr_any (thn (b U s L H _ I h) λv s1 ⟨x,H1,a,f,d⟩=>⟨L,H1,a,d⟩) I.quiet c
abbrev IY(te:TE):TS:=λD L H=>te L H D.rt
def sw(b:PE X e te):PS X (.Return (aa e) pos) (IY te):=by
 intro U s L H D I h;exact wpAny_Return_some (thn (b U s L H _ I h) λv s1 ⟨x,H1,a,d,c⟩=>⟨x,L,H1,a,d,c⟩)
abbrev IZ(c:TT)(t u:TS):TS:=λD L H=>c L H λb H1=>if b=ac then t D L H1 else u D L H1
variable{tc:TT}
def I0{t:TS}{a b:List Stmt}(i:PT X c tc)(ha:PSs X a t)(g:PSs X b u):PS X (.If c a b pos) (IZ tc t u):=by
 intro U s L H D I h;refine wpAny_If (thn (i U s L H _ I h) λd s1 j=>?_);obtain⟨H1,e,f⟩:=j
 cases d with
 |true=>exact ha U s1 L H1 D e f
 |false=>exact g U s1 L H1 D e f
nonrec def TG:=V->St->Hp->(St->Hp->Prop)->Prop
nonrec def TGs:=LVv->St->Hp->(St->Hp->Prop)->Prop
abbrev PG(X:Cx)(a:Expr)(t:TG):Prop:=
 ∀(U:PNS) (s:ah) (L:St) (H:Hp) (v:V) (u:Value) (Q:St->Hp->Prop),Inv X U L H s->az v u->t v L H Q ->
  wpAny (model X.prog X.w) X.A (assign a X.env u) (λ_ s'=>∃σ' H',Inv X U σ' H' s'/\Q σ' H') X.xe s
abbrev PGs(X:Cx)(ts:LEx)(t:TGs):Prop:=
 ∀(U:PNS) (s:ah) (L:St) (H:Hp) (vs:LVv) (us:LVa) (Q:St->Hp->Prop),Inv X U L H s->aE vs us->t vs L H Q ->
  wpAny (model X.prog X.w) X.A (assignInOrder ((iw ts X.env).map (·.2)) us) (λ_ s'=>∃σ' H',Inv X U σ' H' s'/\Q σ' H') X.xe s
nonrec def vC:=V->V->V->Hp->(Hp->Prop)->Prop
abbrev CD(X:Cx)(t:vC):Prop:=
 ∀(U:PNS) (s:ah) (L:St) (H:Hp) (o i v:V) (b a u:Value) (Q:Hp->Prop),Inv X U L H s->az o b->az i a->az v u->t o i v H Q ->
  wpAny (model X.prog X.w) X.A (setItem b a u) (λ_ s'=>∃H',Inv X U L H' s'/\Q H') X.xe s
nonrec def TIp:=V->V->Hp->VK->Prop
abbrev PIp(X:Cx)(op:Operator)(t:TIp):Prop:=
 ∀(U:PNS) (s:ah) (L:St) (H:Hp) (x y:V) (v u:Value) (Q:VK),Inv X U L H s->az x v->az y u->t x y H Q ->
  wpAny (model X.prog X.w) X.A (inplaceOp op v u) (EP X U L Q) X.xe s
abbrev gD(i:Nat):TG:=λv L H Q=>Q (L.set i (aa v)) H
def vE(b:X.N.Nodup)(hi:X.N[i]?=aa x)(d:Loc X.env.scope x)(c:LcF X x:=by first |exact .inl rfl |exact .inr rfl |assumption):PG X (.Name x pos) (gD i):=by
 intro U s L H v u Q I r h;exact wpAny_assign_Name (vA I b hi d r (λs' a=>⟨_,H,a,h⟩) c)
abbrev Ja:TGs:=λvs L H Q=>vs=[]/\Q L H
abbrev Jb(t:TG)(u:TGs):TGs:=λvs L H Q=>∃v r,vs=v::r/\t v L H λσ' H'=>u r σ' H' Q
def Jc:PGs X [] Ja:=by
 intro U s L H vs us Q I r h;obtain⟨e,h⟩:=h;exact assignInOrder_nil ⟨L,H,I,h⟩
variable{es:LEx}
def Jd{t:TG}{u:TGs}(h1:PG X e t)(h2:PGs X es u)
 (d:(iw (e::es) X.env).map (·.2)=assign e X.env::(iw es X.env).map (·.2):=by rfl):PGs X (e::es) (Jb t u):=by
 intro U s L H vs us Q I r h;obtain⟨v,i,c,h⟩:=h;subst c
 cases r with
 |cons r g=>
  rw[d];exact assignInOrder_cons (thn (h1 U s L H _ _ _ I r h) λ_ s1 ⟨a,H1,b,f⟩=>(h2 U s1 a H1 _ _ Q b g f))
abbrev Je(K:aO)(n:Nat)(t:TGs):TG:=λv L H Q=>∃a B,v=.ref a/\SqT K H a B/\B.length=n/\t B L H Q
def Jf{k:Nat}{t:TGs}{n:Nat}(i:X.calm=ac)(h:PGs X es t)
 (hn:(iw es X.env).length=n:=by rfl)(c:(iw es X.env).findIdx? (·.1)=ab:=by rfl):PG X (.Tuple es k pos) (Je X.K n t):=by
 intro U s L H v u Q I r d;obtain⟨a,B,g,l,j,d⟩:=d;subst g;subst r;obtain⟨E,f,m,hz⟩:=I.tuple l;refine assign_Tuple_tuple (I.ok.hd i) m (by simp[hn,<- j,f.length]) c λh' p=>?_;exact h U _ L H B _ Q (I.kept λb o e=>p b o (bR (bv e)) e) (by simpa using f) d
abbrev vF(to b:TE)(t:vC):TG:=λv L H Q=>to L H λo H1=>b L H1 λi H2=>t o i v H2 λa=>Q L a
def vG{o i:Expr}{to d:TE}{t:vC}(l:PE X o to)(hi:PE X i d)(m:CD X t)
 (ha:∀ v,assign (.Subscript o i pos) X.env v=(do
   let a <- d7 [v] (eval o X.env)
   let b <- d7 [v,a] (eval i X.env)
   fZ pos
   d7 [v,a,b] (setItem a b v)
   release [v,a,b] []):=by intro _;rfl):PG X (.Subscript o i pos) (vF to d t):=by
 intro U s L H v u Q I r h;refine aj (i5 (thn (l U s L H _ I h) λa s1 c=>?_));obtain⟨x,H1,f,w,n⟩:=c;refine aj (i5 (thn (hi U s1 L H1 _ f n) λb s2 c=>?_));obtain⟨y,H2,g,z,p⟩:=c;exact aj (wpAny_standAt (aj (i5 (thn (m U s2 L H2 x y v a b u _ g w z r p) λ_ A ⟨e,j,q⟩=>(wpAny_release ⟨L,e,j,q⟩)))))
abbrev iF(te:TE)(g:TG):TS:=λD L H=>te L H λx H1=>g x L H1 D.nx
variable{tg:Expr}{g:TG}
def vH(b:PE X e te)(c:PG X tg g)(d:swapsWithSole [tg] e pos.line X.env=pure ag:=by rfl)(f:swappedStores [tg] e X.env=pure ab:=by rfl)
 (h1:(iw [tg] X.env).map (·.2)=[assign tg X.env]:=by rfl):PS X (.Assign [tg] e pos) (iF te g):=by
 intro U s L H D I h;refine wpAny_Assign_stores (thn (b U s L H _ I h) λv s1 j=>?_) d f;obtain⟨x,H1,a,l,i⟩:=j;rw[h1];exact thn (c U s1 L H1 x v _ a l i) λ_ s2 q=>q
variable{cc:Pos}
def nh(c:X.N.Nodup)(hi:X.N[i]?=aa x)(j:Loc X.env.scope x)(d:PE X e te)(g:fI e (aa (.Name x cc)) pos.line X.env=pure ag:=by rfl)(f:LcF X x:=by first |exact .inl rfl |exact .inr rfl |assumption):
  PS X (.Assign [.Name x cc] e pos) (iF te (gD i)):=by
 intro U s L H D I h;exact wpAny_Assign_Name (thn (d U s L H _ I h) λv s1 ⟨y,H1,a,m,l⟩=>(vA a c hi j m (λs2 b=>⟨_,H1,b,l⟩) f)) g
abbrev Jg(i:Nat)(te:TE)(a:TIp):TS:=λD L H=>∃x,L[i]?=aa (aa x)/\te L H λy H1=>a x y H1 λz H2=>D.nx (L.set i (aa z)) H2
variable{op:Operator}
def CF{n:TIp}(E:X.N.Nodup)(hi:X.N[i]?=aa x)(g:Loc X.env.scope x)(J:PE X e te)(T:PIp X op n)(M:LcF X x:=by first |exact .inl rfl |exact .inr rfl |assumption):
  PS X (.AugAssign (.Name x cc) op e pos) (Jg i te n):=by
 intro U s L H D I h;obtain⟨v,C,h⟩:=h;obtain⟨m,hn,Q⟩:=I.loc
 have j:Vis X.env.scope x:=by rcases g with k |k;exact .inl k;exact .inr (.inl k)
 obtain⟨u,r,l⟩:=Q i x v hi C j;refine wpAny_AugAssign_Name ?_
 have go:wpAny (model X.prog X.w) X.A (eval e X.env) (λw d=>wpAny (model X.prog X.w) X.A (inplaceOp op u w) (λr f=>wpAny (model X.prog X.w) X.A (storeName X.env x r) (λ_=>SP X U D .next) X.xe f) X.xe d) X.xe s:=by
  refine thn (J U s L H _ I h) λw s1 q_=>?_;obtain⟨y,H1,p,r1,Y⟩:=q_;exact thn (T U s1 L H1 v y u w _ p r r1 Y) λz s2 ⟨zv,H2,q,r2,q2⟩=>(vA q E hi g r2 (λs3 B=>⟨_,H2,B,q2⟩) M)
 rcases l with⟨a,hm⟩ |⟨a,c,G,b⟩
 .exact wpAny_loadName_local I.ok.kind a hn hm go
 .rcases a with a |a
  .exact wpAny_loadName_cell I.ok.kind a G b go
  .rcases g with k |k
   .have:X.env.scope.names.lookup x=aa .free:=a;rw[k]at this;nomatch this
   .have:X.env.scope.names.lookup x=aa .free:=a;rw[k]at this;nomatch this
abbrev ipI(f:Int->Int->Int):TIp:=λx y H Q=>∃i j,x=.int i/\y=.int j/\Q (.int (f i j)) H
def Jh:PIp X .Add (ipI λi j=>i+j):=by
 intro U s L H x y v u Q I c d h;obtain⟨i,j,a,b,q⟩:=h;subst a;subst b;obtain⟨t,rfl⟩:=c;obtain⟨t',rfl⟩:=d;exact iadd_int ⟨.int _,H,I.tok _,⟨_,rfl⟩,q⟩
def Ji:PIp X .Sub (ipI λi j=>i-j):=by
 intro U s L H x y v u Q I c d h;obtain⟨i,j,a,b,q⟩:=h;subst a;subst b;obtain⟨t,rfl⟩:=c;obtain⟨t',rfl⟩:=d;exact isub_int ⟨.int _,H,I.tok _,⟨_,rfl⟩,q⟩
abbrev Jj(c:TT)(tb:TS):TS:=λD L H=>∃W:Nat->St->Hp->Prop,(∃m,W m L H)/\∀m L H,W m L H ->
 c L H λb H1=>if b=ac then ∃N:St->Hp->Prop,(∀σ' H',N σ' H'->∃a,a<m/\W a σ' H')/\tb {D with nx:=N,ct:=N,bk:=D.nx} L H1 else D.nx L H1
variable{body:List Stmt}
def Jk{tb:TS}(x:PassesOwn (model X.prog X.w) X.A X.env X.xe)(B:PT X c tc)(z:PSs X body tb):PS X (.While c body [] pos) (Jj tc tb):=by
 intro U s L H D I h;obtain⟨W,⟨C,G⟩,g⟩:=h;refine wpAny_While (codeAny_whileLoop (λn s'=>∃σ' H',Inv X U σ' H' s'/\W n σ' H') ?_ C ⟨L,H,I,G⟩);rintro n s1 ⟨d,H1,y,J⟩;refine lz x (thn (B U s1 d H1 _ y (g n d H1 J)) λb s2 E=>?_);obtain⟨H2,r,i⟩:=E
 cases b with
 |true=>
  obtain⟨N,u,i⟩:=i;refine lz x (thn (z U s2 d H2 _ r i) λf M j=>?_)
  cases f with
  |next=>
   obtain⟨a,e,l,p⟩:=j;obtain⟨m,hm,q⟩:=u a e p
   exact⟨m,hm,a,e,l,q⟩
  |cont=>
   obtain⟨a,e,l,p⟩:=j;obtain⟨m,hm,q⟩:=u a e p
   exact⟨m,hm,a,e,l,q⟩
  |brk=>exact j
  |ret v=>exact j
 |false=>
  exact rX ⟨d,H2,r,i⟩
structure It where
 go:Nat->Hp->Prop
 yld:Nat->Hp->V->Hp->Prop
 stop:Nat->Hp->Prop
abbrev gE(X:Cx)(U:PNS)(H:Hp)(b:Addr):Prop:=
 H b=ab/\b≠X.env.locals/\b∉X.fs/\(b∈X.ex\/X.s₀.heap.objs.size<=b)/\(∀x c,X.env.cells.lookup x=aa c->c≠b)/\∀p∈X.pn++U,p.1≠b
def Inv.fpOk{s:ah}{b:Addr}(I:Inv X U L H s)(a:s.heap.objs.size<=b)(hn:H' b=ab):gE X U H' b:=by
 refine⟨hn,jZ (eK I.lt a),I.nofs a,.inr (cy I.sz a),λx c e z=>?_,λp d z=>(absurd (eK (bv (I.pin p d).1) (by rw[z];exact a)) (io _))⟩;obtain⟨v,q⟩:=I.cell x c e;exact absurd (eK q.lt (by rw[z];exact a)) (io _)
structure jD(P:bY)(w:World)(K:aO)(tg:Expr)(J:It)(fp:LAd)(it:Addr)(tn:Nat->Heap->Prop):Prop where
 mem:it∈fp
 obj:∀i h,tn i h->∀b∈fp,∃o,h.get? b=aa o/\∀v,o.data≠.cell v
 keep:∀i h h',tn i h->(∀b∈fp,∀o,h.get? b=aa o->h'.get? b=aa o)->tn i h'
 item:∀(X:Cx),X.prog=P->X.w=w->X.K=K->X.calm=ac->∀(i:Nat) (U:PNS) (s:ah) (L:St) (H:Hp) (U4:PRS),Inv X U L H s->(∀b∈fp,gE X U H b)->tn i s.heap->J.go i H ->
  wpAny (model P w) X.A (gz (.ref it)) (λr s1=>∃ u,r=aa u /\
   wpAny (model P w) X.A (letOwnedTupleGo tg (.ref it) u) (λ_ s2=>∃x H',Inv X U L H' s2/\az x u/\J.yld i H x H'/\tn (i+1) s2.heap/\∀b∈fp,H' b=ab) U4 s1) U4 s
 done:∀(X:Cx),X.prog=P->X.w=w->X.K=K->X.calm=ac->∀(i:Nat) (U:PNS) (s:ah) (L:St) (H:Hp) (U4:PRS),Inv X U L H s->(∀b∈fp,gE X U H b)->tn i s.heap->J.stop i H ->
  wpAny (model P w) X.A (gz (.ref it)) (λr s1=>r=ab/\Inv X U L H s1) U4 s
 self:∀(A:bW) (i:Nat) (s:ah) (Q:PRS) (U4:PRS),tn i s.heap->Q (.ref it) s->wpAny (model P w) A (pyIter (.ref it)) Q U4 s
nonrec def TI:=St->Hp->(It->Hp->Prop)->Prop
abbrev PIE(X:Cx)(U:PNS)(L:St)(tg:Expr)(R:It->Hp->Prop)(a:Value)(s2:ah):Prop:=
 ∃(it:Addr) (fp:LAd) (tn:Nat->Heap->Prop) (J:It) (H':Hp),a=.ref it/\Inv X U L H' s2/\jD X.prog X.w X.K tg J fp it tn/\tn 0 s2.heap/\(∀b∈fp,gE X U H' b)/\R J H'
abbrev PI(X:Cx)(tg iter:Expr)(a:TI):Prop:=
 ∀(U:PNS) (s:ah) (L:St) (H:Hp) (R:It->Hp->Prop),Inv X U L H s->a L H R ->
  wpAny (model X.prog X.w) X.A (eval iter X.env) (λv s1=>wpAny (model X.prog X.w) X.A (pyIter v) (PIE X U L tg R) X.xe s1) X.xe s
variable{u:Value}
def sx{s:ah}{o:Obj}{n:String}{vs:Array Value}(c:s.heap.get? it = aa o)(b:o.cls = .type n)(hd:o.data = .fields vs)
   (hn:["enumerate", "zip", "dict_itemiterator", "dict_reverseitemiterator", "odict_iterator", "itertools.zip_longest", "itertools.pairwise"].contains n = ag)(a:Q () s):wpAny U1 A (letOwnedTupleGo tg (.ref it) u) Q U4 s:= by
  cases tg <;> first
    |exact aC a
    | (cases u <;> first
        |exact aC a
        | (refine aj (wpAny_load c ?_)
           rw[b, hd];show wpAny U1 A (if _ = ac then _ else _) Q U4 s;rw[if_neg (by intro h;rw[hn, Bool.false_and]at h;nomatch h)];exact aC a))
abbrev Itl(K:aO)(a:Addr):It:=
 ⟨λi H=>∃B x,SqL K H a B/\B[i]?=aa x,λi H x H'=>H'=H/\∀B,SqL K H a B->B[i]?=aa x,λi H=>∃B,SqL K H a B/\B.length<=i⟩
abbrev Itt(K:aO)(a:Addr):It:=
 ⟨λi H=>∃B x,SqT K H a B/\B[i]?=aa x,λi H x H'=>H'=H/\∀B,SqT K H a B->B[i]?=aa x,λi H=>∃B,SqT K H a B/\B.length<=i⟩
abbrev Itr(lo:Int)(n:Nat):It:=⟨λi _=>i<n,λi H x H'=>H'=H/\x=.int (lo+i),λi _=>n<=i⟩
def Jl(a it:Addr):jD P w K tg (Itl K a) [it] it (λi h=>h.IsListIter it a i) where
 mem:=by simp
 obj:=λi h st b hb=>by
  have e:b=it:=by simpa using hb
  subst e;obtain⟨o,e,c,d⟩:=st;exact⟨o,e,λv z=>by rw[d]at z;nomatch z⟩
 keep:=λi h h' st k=>st.at λo e=>k it (by simp) o e
 item:=by
  intro X hP hw hK hc i U s L H U4 I hf st hg;subst hP hw hK;obtain⟨B,x,hq,hx⟩:=hg;obtain⟨E,rv,p,hz⟩:=I.list hq;obtain⟨u,hu,ru⟩:=rv.get hx;obtain⟨f0,f1,f2,f3,f4,f5⟩:=hf it (by simp);refine wpAny_pyNext_list_item st p.isList (by simpa using hu) λh' eF sb=>?_;obtain⟨o,e,c,d⟩:=id eF;exact⟨u,rfl,sx e c d (rfl) ⟨x,H,(I.turned (λb o hb e=>(sb.2 b hb).trans e) f0 f1 f3 f4 f5),ru,⟨rfl,λys hy=>by rw[I.list_inj hy hq];exact hx⟩,eF,λb hb=>(hf b hb).1⟩⟩
 done:=by
  intro X hP hw hK hc i U s L H U4 I hf st hg;subst hP hw hK;obtain⟨B,hq,hx⟩:=hg;obtain⟨E,rv,p,hz⟩:=I.list hq;obtain⟨f0,f1,f2,f3,f4,f5⟩:=hf it (by simp);have hl:=rv.length;exact wpAny_pyNext_list_end (I.ok.hd hc) st p.isList (by simp;lia) λh' eb=>⟨rfl,I.turned (λb o hb e=>eb b o hb e) f0 f1 f3 f4 f5⟩
 self:=λ_ _ _ _ _ st h=>wpAny_pyIter_listiter st h
def Jm(a it:Addr):jD P w K tg (Itt K a) [it] it (λi h=>h.IsTupleIter it a i) where
 mem:=by simp
 obj:=λi h st b hb=>by
  have e:b=it:=by simpa using hb
  subst e;obtain⟨o,e,c,d⟩:=st;exact⟨o,e,λv z=>by rw[d]at z;nomatch z⟩
 keep:=λi h h' st k=>st.at λo e=>k it (by simp) o e
 item:=by
  intro X hP hw hK hc i U s L H U4 I hf st hg;subst hP hw hK;obtain⟨B,x,hq,hx⟩:=hg;obtain⟨E,rv,p,hz⟩:=I.tuple hq;obtain⟨u,hu,ru⟩:=rv.get hx;obtain⟨f0,f1,f2,f3,f4,f5⟩:=hf it (by simp);refine wpAny_pyNext_tuple_item st (p) (by simpa using hu) λh' eF sb=>?_;obtain⟨o,e,c,d⟩:=id eF;exact⟨u,rfl,sx e c d (rfl) ⟨x,H,(I.turned (λb o hb e=>(sb.2 b hb).trans e) f0 f1 f3 f4 f5),ru,⟨rfl,λys hy=>by rw[I.tuple_inj hy hq];exact hx⟩,eF,λb hb=>(hf b hb).1⟩⟩
 done:=by
  intro X hP hw hK hc i U s L H U4 I hf st hg;subst hP hw hK;obtain⟨B,hq,hx⟩:=hg;obtain⟨E,rv,p,hz⟩:=I.tuple hq;obtain⟨f0,f1,f2,f3,f4,f5⟩:=hf it (by simp);have hl:=rv.length;exact wpAny_pyNext_tuple_end (I.ok.hd hc) st (p) (by simp;lia) λh' eb=>⟨rfl,I.turned (λb o hb e=>eb b o hb e) f0 f1 f3 f4 f5⟩
 self:=λ_ _ _ _ _ st h=>wpAny_pyIter_tupleiter st h
def Jn(it:Addr)(lo:Int)(n:Nat):jD P w K tg (Itr lo n) [it] it (λi h=>IsRangeIter h it (lo+(i:Nat)*1) ((n:Int)-(i:Nat)) 1) where
 mem:=by simp
 obj:=λi h st b hb=>by
  have e:b=it:=by simpa using hb
  subst e
  exact⟨_,st,λv z=>by
   nomatch z⟩
 keep:=λi h h' st k=>k it (by simp) _ st
 item:=by
  intro X hP hw hK hc i U s L H U4 I hf st hg;obtain⟨f0,f1,f2,f3,f4,f5⟩:=hf it (by simp);refine(Walks.range (I.ok.hd hc) it lo 1 n).item i s _ _ hg st λv h' tk hv eF kk=>?_;obtain⟨t,rfl⟩:=hv
  have I1:Inv X U L H {s with heap:=h',toks:=tk}:=I.turned (λb o hb e=>kk b o (by simpa using hb) e) f0 f1 f3 f4 f5
  refine⟨_,rfl,sx eF rfl rfl (rfl) ⟨.int _,H,I1,⟨t,?_⟩,⟨rfl,rfl⟩,eF,λb hb=>(hf b hb).1⟩⟩;rw[Int.mul_one]
 done:=by
  intro X hP hw hK hc i U s L H U4 I hf st hg;obtain⟨f0,f1,f2,f3,f4,f5⟩:=hf it (by simp);exact wpAny_pyNext_range_end (I.ok.hd hc) st (by have:n<=i:=hg;lia) λh' eb=>⟨rfl,I.turned (λb o hb e=>eb b o hb e) f0 f1 f3 f4 f5⟩
 self:=λ_ _ _ _ _ st h=>wpAny_pyIter_rangeiter st h
abbrev vI(K:aO)(tl:TE):TI:=λL H R=>tl L H λx H1=>∃a,x=.ref a/\(∃B,SqL K H1 a B)/\R (Itl K a) H1
abbrev Jo(K:aO)(tl:TE):TI:=λL H R=>tl L H λx H1=>∃a,x=.ref a/\(∃B,SqT K H1 a B)/\R (Itt K a) H1
variable{l:Expr}{tl:TE}
def vJ(f:PE X l tl):PI X tg l (vI X.K tl):=by
 intro U s L H R I h;refine thn (f U s L H _ I h) λv s1 j=>?_;obtain⟨x,H1,c,m,i⟩:=j;obtain⟨a,e,⟨B,g⟩,q⟩:=i;subst e;subst m;obtain⟨E,n,p,hz⟩:=c.list g;refine wpAny_pyIter_list p.isList ?_;refine⟨s1.heap.objs.size,_,_,_,H1,rfl,c.kept λb o e=>bu _ e,Jl a _,⟨_,cA _ rfl,rfl,rfl⟩,λb d=>?_,q⟩;have e:b=s1.heap.objs.size:=by simpa using d
 subst e;exact c.fpOk (aM _) (c.hok.fresh (aM _))
def Jp(d:PE X l tl):PI X tg l (Jo X.K tl):=by
 intro U s L H R I h;refine thn (d U s L H _ I h) λv s1 i=>?_;obtain⟨x,H1,c,j,g⟩:=i;obtain⟨a,e,⟨B,f⟩,q⟩:=g;subst e;subst j;obtain⟨E,n,p,hz⟩:=c.tuple f;refine wpAny_pyIter_tuple (p) ?_;refine⟨s1.heap.objs.size,_,_,_,H1,rfl,c.kept λb o e=>bu _ e,Jm a _,⟨_,cA _ rfl,rfl,rfl⟩,λb m=>?_,q⟩;have e:b=s1.heap.objs.size:=by grind
 subst e;exact c.fpOk (aM _) (c.hok.fresh (aM _))
def Jq{s:ah}{R:It->Hp->Prop}{lo hi:Int}{t u v:Tok}{c:Nat}(I:Inv X U L H s)(h1:-(2 ^ 62)<=lo)(h2:lo<2 ^ 62)(g:-(2 ^ 62)<=hi)(h:hi<2 ^ 62)
 (q:R (Itr lo (hi-lo).toNat) H):wpAny (model X.prog X.w) X.A (pyIter (.ref s.heap.objs.size)) (PIE X U L tg R) U4 {s with heap:=s.heap.push {cls:=.type "range",data:=.fields #[.int lo t,.int hi u,.int 1 v]},toks:=c}:=by
 refine wpAny_pyIter_range (IsRange.new ..) (small_one h1 h2 g h) ?_
 have a:Inv X U L H {s with heap:=s.heap.push {cls:=.type "range",data:=.fields #[.int lo t,.int hi u,.int 1 v]},toks:=c}:=I.kept λb o e=>bu _ e
 refine⟨(s.heap.push {cls:=.type "range",data:=.fields #[.int lo t,.int hi u,.int 1 v]}).objs.size,_,_,_,H,rfl,
  a.kept λb o e=>bu _ e,Jn _ lo (hi-lo).toNat,?_,λb i=>?_,q⟩
 .have d:lo+((0:Nat):Int)*1=lo:=by simp
  have f:(((hi-lo).toNat:Nat):Int)-((0:Nat):Int)=d8.Range.rangeSize lo hi 1:=by rw[rangeSize_one];split <;> lia
  rw[d,f];exact cA _ rfl
 .have e:b=(s.heap.push {cls:=.type "range",data:=.fields #[.int lo t,.int hi u,.int 1 v]}).objs.size:=by simpa using i
  subst e;exact a.fpOk (aM _) (a.hok.fresh (aM _))
abbrev Jr(ta:TA):TI:=λL H R=>ta L H λvs H1=>∃j:Int,vs=[.int j]/\-(2 ^ 62)<=j/\j<2 ^ 62/\R (Itr 0 j.toNat) H1
variable{a:Expr}
def Js{ta:TA}{p:Pos}(d:Gl X "range")(hm:X.mg "range"=ab)(ha:PA X [a] ta)(f:aL [a] X.env=[(ag,eval a X.env)]:=by rfl):PI X tg (.Call (.Name "range" p) [a] [] pos) (Jr ta):=by
 intro U s L H R I h;refine Call_ (gC I d hm boot_range (ju (thn (ha pos U s L H _ I h) λus s1 ⟨vs,H1,c,i,b⟩=>?_) f rfl));obtain⟨j,e,b,g,q⟩:=b;subst e
 cases i with
 |cons r l=>
  cases l;obtain⟨t,rfl⟩:=r;exact call_range_1 (Jq c (by lia) (by lia) b g (by simpa using q))
abbrev vK(c:TI)(g:TG)(tb:TS):TS:=λD L H=>c L H λJ H1=>∃W:Nat->Nat->St->Hp->Prop,(∃m,W 0 m L H1)/\∀i m L H,W i m L H ->
 (J.stop i H/\D.nx L H)\/(J.go i H/\∃N:St->Hp->Prop,(∀σ' H',N σ' H'->∃b,b<m/\W (i+1) b σ' H')/\∀x H',J.yld i H x H'->g x L H' λa H2=>tb {D with nx:=N,ct:=N,bk:=D.nx} a H2)
abbrev sy(fp:LAd)(h:Heap):PNS:=fp.filterMap λb=>(h.get? b).map λo=>(b,o)
variable{fp:LAd}
def sA{b:Addr}{o:Obj}(a:b∈fp)(e:h.get? b=aa o):(b,o)∈sy fp h:=mem_filterMap.mpr ⟨b,a,by rw[e];rfl⟩
def Jt{p:Addr×Obj}(a:p∈sy fp h):p.1∈fp/\h.get? p.1=aa p.2:=by
 obtain⟨b,c,e⟩:=mem_filterMap.mp a
 cases q:h.get? b with
 |none=>rw[q]at e;nomatch e
 |some o=>
  grind
def Inv.pinned{s:ah}(I:Inv X U L H s)(c:∀b∈fp,gE X U H b)(g:∀b∈fp,∃o,s.heap.get? b=aa o/\∀v,o.data≠.cell v):Inv X (U++sy fp s.heap) L H s:=
 I.pins_of λp d=>(bP.mp d).elim (λz=>I.pin p (c9 _ z)) λz=>by
  obtain⟨a,e⟩:=Jt z;obtain⟨f,f1,f2,_⟩:=c p.1 a
  grind
def Inv.unpinned{b:PNS}{s:ah}(I:Inv X (U++b) L H s):Inv X U L H s:=I.pins_of λp a=>I.pin p (c9 _ (da _ a))
variable{iter:Expr}{wi:TI}
def CG{tb:TS}(C:PassesOwn (model X.prog X.w) X.A X.env X.xe)(hc:X.calm=ac)(hi:PI X tg iter wi)(hg:PG X tg g)(l:PSs X body tb)
 (hs:∀x,j3 iter X.env x=pure x:=by intro _;rfl):PS X (.For tg iter body [] pos) (vK wi g tb):=by
 intro U s L H D I h;refine wpAny_For (thn (hi U s L H _ I h) λv s1 h1=>thn h1 λitv s2 h2=>?_) hs;obtain⟨it,fp,tn,J,H2,e,I2,T,st2,f2,W,⟨m0,w0⟩,Q⟩:=h2;subst e;have p:∀{H':Hp},(∀b∈fp,H' b=ab)->∀b∈fp,gE X U H' b:=λhn b l=>⟨hn b l,(f2 b l).2⟩;refine codeAny_forLoop_any (λn s'=>∃i σ' H',Inv X U σ' H' s'/\tn i s'.heap/\(∀b∈fp,H' b=ab)/\W i n σ' H') ?_ m0 ⟨0,L,H2,I2,st2,λb l=>(f2 b l).1,w0⟩;rintro n s3 ⟨i,q,Y,I3,M,B,w3⟩
 rcases Q i n q Y w3 with⟨stop,qn⟩ |⟨go,N,hN,step⟩
 .refine lz C (thn (T.done X rfl rfl rfl hc i U s3 q Y X.xe I3 (p B) M stop) λr s4 ⟨hr,I4⟩=>?_);subst hr;exact rX ⟨q,Y,I4,qn⟩
 .refine lz C (thn (T.item X rfl rfl rfl hc i U s3 q Y X.xe I3 (p B) M go) λr s4 G=>?_);obtain⟨u,hr,h4⟩:=G;subst hr;refine lz C (thn h4 λ_ s5 G=>?_);obtain⟨x,H5,I5,r5,y5,z,fr5⟩:=G;refine lz C (thn (hg _ s5 q H5 x u _ (I5.pinned (p fr5) (T.obj _ _ z)) r5 (step x H5 y5)) λ_ s6 G=>?_);obtain⟨σ6,H6,I6,q6⟩:=G;refine lz C (thn (l _ s6 σ6 H6 _ I6 q6) λf s7 y=>?_)
  have again:∀{a:St} {c:Hp},Inv X _ a c s7->N a c->∃m,m<n/\∃i σ' H',Inv X U σ' H' s7/\tn i s7.heap/\(∀b∈fp,H' b=ab)/\W i m σ' H':=λ{a c} j E=>by
   obtain⟨m',hm,w7⟩:=hN a c E;refine⟨m',hm,i+1,a,c,j.unpinned,T.keep _ _ _ z λb l o e=>(j.pin _ (c9 _ (c9 _ (sA l e)))).1,λb l=>?_,w7⟩;obtain⟨o,e,d⟩:=T.obj _ _ z b l;exact(j.pin _ (c9 _ (c9 _ (sA l e)))).2.1
  cases f with
  |next=>obtain⟨a,c,j,E⟩:=y;exact again j E
  |cont=>obtain⟨a,c,j,E⟩:=y;exact again j E
  |brk=>obtain⟨a,c,j,y⟩:=y;exact⟨a,c,j.unpinned,y⟩
  |ret v=>obtain⟨x7,a,c,j,r7,y⟩:=y;exact⟨x7,a,c,j.unpinned,r7,y⟩
nonrec def R2:=V->V->Hp->VK->Prop
abbrev OpR(X:Cx)(f:Value->Value->Sem Value)(r:R2):Prop:=
 ∀(U:PNS) (s:ah) (L:St) (H:Hp) (x y:V) (v u:Value) (Q:VK),Inv X U L H s->az x v->az y u->r x y H Q ->
  wpAny (model X.prog X.w) X.A (f v u) (EP X U L Q) X.xe s
abbrev UnR(X:Cx)(f:Value->Sem Value)(r:V->Hp->VK->Prop):Prop:=
 ∀(U:PNS) (s:ah) (L:St) (H:Hp) (x:V) (v:Value) (Q:VK),Inv X U L H s->az x v->r x H Q ->
  wpAny (model X.prog X.w) X.A (f v) (EP X U L Q) X.xe s
abbrev gZ(X:Cx)(f:Value)(r:LVv->Hp->VK->Prop):Prop:=
 ∀(U:PNS) (s:ah) (L:St) (H:Hp) (B:LVv) (us:LVa) (Q:VK),Inv X U L H s->aE B us->r B H Q ->
  wpAny (model X.prog X.w) X.A (call f us) (EP X U L Q) X.xe s
abbrev Ju(X:Cx)(r:V->Hp->(Bool->Hp->Prop)->Prop):Prop:=
 ∀(U:PNS) (s:ah) (L:St) (H:Hp) (x:V) (v:Value) (Q:Bool->Hp->Prop),Inv X U L H s->az x v->r x H Q ->
  wpAny (model X.prog X.w) X.A (truthy v) (TP X U L Q) X.xe s
abbrev tOp(r:R2)(ta tb:TE):TE:=λL H Q=>ta L H λx H1=>tb L H1 λy H2=>r x y H2 Q
abbrev tUn(r:V->Hp->VK->Prop)(ta:TE):TE:=λL H Q=>ta L H λx H1=>r x H1 Q
abbrev rI(U5:Int->Int->Prop)(g:Int->Int->V):R2:=λx y H Q=>∃i j,x=.int i/\y=.int j/\U5 i j/\Q (g i j) H
abbrev rI0(g:Int->Int->V):R2:=λx y H Q=>∃i j,x=.int i/\y=.int j/\Q (g i j) H
abbrev rU(g:Int->V):V->Hp->VK->Prop:=λx H Q=>∃i,x=.int i/\Q (g i) H
variable{f:Value->Value->Sem Value}
def vL(ha:PE X a ta)(i:PE X b tb){s:ah}{R:V->V->Hp->Prop}(I:Inv X U L H s)
 (h:ta L H λx H1=>tb L H1 λy H2=>R x y H2){Q:PRS}
 (j:∀v u s2 x y H2,Inv X U L H2 s2->az x v->az y u->R x y H2->wpAny (model X.prog X.w) X.A (f v u) Q X.xe s2):
  wpAny (model X.prog X.w) X.A (eval a X.env) (λv c=>wpAny (model X.prog X.w) X.A (eval b X.env) (λu d=>wpAny (model X.prog X.w) X.A (f v u) Q X.xe d) X.xe c) X.xe s:=by
 refine thn (ha U s L H _ I h) λv s1 n=>?_;obtain⟨x,H1,e,p,l⟩:=n;exact thn (i U s1 L H1 _ e l) λu s2 ⟨y,H2,g,q,m⟩=>(j v u s2 x y H2 g p q m)
def CH{r:R2}(e:OpR X (eY op) r)(ha:PE X a ta)(d:PE X b tb):PE X (.BinOp a op b pos) (tOp r ta tb):=by
 intro U s L H Q I h;exact wpAny_BinOp (vL ha d I h λv u s2 x y H2 c f g q=>e U s2 L H2 x y v u Q c f g q)
def Jv{op:UnaryOp}{r:V->Hp->VK->Prop}(c:UnR X (unaryOp op) r)(ha:PE X a ta):PE X (.UnaryOp op a pos) (tUn r ta):=by
 intro U s L H Q I h;exact UnaryOp_ (thn (ha U s L H _ I h) λv s1 ⟨x,H1,b,e,d⟩=>c U s1 L H1 x v Q b e d)
def opI{U5:Int->Int->Prop}{g:Int->Int->Int}
 (rule:∀(i j:Int) (t u:Tok) (s:ah) (Q:PRS) (U4:PRS),U5 i j->Q (.int (g i j) s.toks) {s with toks:=s.toks+1}->wpAny (model X.prog X.w) X.A (f (.int i t) (.int j u)) Q U4 s):
  OpR X f (rI U5 λi j=>.int (g i j)):=by
 intro U s L H x y v u Q I b c h;obtain⟨i,j,rfl,rfl,a,q⟩:=h;obtain⟨t,rfl⟩:=b;obtain⟨t',rfl⟩:=c;exact rule i j t t' s _ _ a ⟨.int _,H,I.tok _,⟨_,rfl⟩,q⟩
def CI{g:Int->Int->Int}
 (rule:∀(i j:Int) (t u:Tok) (s:ah) (Q:PRS) (U4:PRS),Q (.int (g i j) s.toks) {s with toks:=s.toks+1}->wpAny (model X.prog X.w) X.A (f (.int i t) (.int j u)) Q U4 s):
  OpR X f (rI0 λi j=>.int (g i j)):=by
 intro U s L H x y v u Q I a b h;obtain⟨i,j,rfl,rfl,q⟩:=h;obtain⟨t,rfl⟩:=a;obtain⟨t',rfl⟩:=b;exact rule i j t t' s _ _ ⟨.int _,H,I.tok _,⟨_,rfl⟩,q⟩
def sC{g:Int->Int->Bool}
 (rule:∀(i j:Int) (t u:Tok) (s:ah) (Q:PRS) (U4:PRS),Q (.bool (g i j)) s->wpAny (model X.prog X.w) X.A (f (.int i t) (.int j u)) Q U4 s):
  OpR X f (rI0 λi j=>.bl (g i j)):=by
 intro U s L H x y v u Q I a b h;obtain⟨i,j,rfl,rfl,q⟩:=h;obtain⟨t,rfl⟩:=a;obtain⟨t',rfl⟩:=b;exact rule i j t t' s _ _ ⟨.bl _,H,I,rfl,q⟩
abbrev pf(i j:Int):Prop:=0<j/\j<1073741824
abbrev ki(i j:Int):Prop:=0<=j/\j<=1000000/\i.natAbs<2 ^ 64
abbrev ph(i j:Int):Prop:=(-(2 ^ 64)<i/\i<2 ^ 64)\/(-(2 ^ 64)<j/\j<2 ^ 64)
variable{j:Int}
def ph.ok{i:Int}(h:ph i j):IntMulOk i j:=by
 rcases h with⟨h1,h2⟩ |⟨h1,h2⟩
 .exact .of_left (intBits_le_64 h1 h2)
 .exact .of_right (intBits_le_64 h1 h2)
def Jw:OpR X (eY .Add) (rI0 λi j=>.int (i+j)):=CI λ_ _ _ _ _ _ _ q=>add_int q
def Jx:OpR X (eY .Sub) (rI0 λi j=>.int (i-j)):=CI λ_ _ _ _ _ _ _ q=>sub_int q
def Jy:OpR X (eY .FloorDiv) (rI pf λi j=>.int (i / j)):=opI λi j _ _ _ _ _ a q=>by
 have h1:=a.1;have h2:=a.2;exact floordiv_int (by lia) (by rw[Int.fdiv_eq_ediv_of_nonneg i (by lia)];exact q) (.inl (PyProof.noPylong_small (by lia)))
def Jz:OpR X (eY .Mod) (rI (λ_ j=>0<j) λi j=>.int (i % j)):=opI λi j _ _ _ _ _ a q=>by
 exact mod_int' (by lia) (by rw[Int.fmod_eq_emod_of_nonneg i (by lia)];exact q)
def JA:OpR X (eY .Pow) (rI ki λi j=>.int (i ^ j.toNat)):=opI λ_ _ _ _ _ _ _ a q=>pow_int_small a.1 a.2.1 a.2.2 q
def unI{f:Value->Sem Value}{g:Int->Int}
 (rule:∀(i:Int) (t:Tok) (s:ah) (Q:PRS) (U4:PRS),Q (.int (g i) s.toks) {s with toks:=s.toks+1}->wpAny (model X.prog X.w) X.A (f (.int i t)) Q U4 s):
  UnR X f (rU λi=>.int (g i)):=by
 intro U s L H x v Q I a h;obtain⟨i,rfl,q⟩:=h;obtain⟨t,rfl⟩:=a;exact rule i t s _ _ ⟨.int _,H,I.tok _,⟨_,rfl⟩,q⟩
def JB:UnR X (unaryOp .USub) (rU λi=>.int (-i)):=unI λ_ _ _ _ _ q=>neg_int q
abbrev vM:V->V->Bool
 |.non,.non=>ac |.non,.int _=>ac |.int _,.non=>ac |.non,.bl _=>ac |.bl _,.non=>ac |.non,.str _=>ac |.str _,.non=>ac
 |.int _,.int _=>ac |.bl _,.bl _=>ac |.str _,.str _=>ac |.byt _,.byt _=>ac
 |.int _,.str _=>ac |.str _,.int _=>ac |.bl _,.str _=>ac |.str _,.bl _=>ac
 | _,_=>ag
abbrev rEq:R2:=λx y H Q=>vM x y=ac/\Q (.bl (decide (x=y))) H
abbrev rNe:R2:=λx y H Q=>vM x y=ac/\Q (.bl (!decide (x=y))) H
def vN{i:Int}:decide (V.int i=V.int j)=(i==j):=by
 rw[lh];simp
def pi{i j:Bool}:decide (V.bl i=V.bl j)=(i==j):=by
 rw[lh];simp
def vO{i j:Str}:decide (V.str i=V.str j)=(i==j):=by
 rw[lh];simp
def CJ{i j:Array UInt8}:decide (V.byt i=V.byt j)=(i.toList==j.toList):=by
 rw[lh];cases i;cases j;simp
def bM{s:ah}{Q:VK}{k a:Bool}(I:Inv X U L H s)(q:Q (.bl k) H)(e:k=a):EP X U L Q (.bool a) s:=by
 subst e;exact⟨.bl k,H,I,rfl,q⟩
def JC:OpR X (cE .Eq) rEq:=by
 intro U s L H x y v u Q I c a h;obtain⟨b,q⟩:=h
 cases x with
 |non=>
  cases c
  cases y with
  |non=>subst a;exact PySem.EqNone.eq_none_none (bM I q (by rfl))
  |bl j=>subst a;exact PySem.EqNone.eq_none_bool (bM I q (by rfl))
  |int j=>obtain⟨t',rfl⟩:=a;exact PySem.EqNone.eq_none_int (bM I q (by rfl))
  |str j=>obtain⟨t',rfl⟩:=a;exact PySem.EqNone.eq_none_str (bM I q (by rfl))
  | _=>exact absurd (b) bx
 |bl i=>
  subst c
  cases y with
  |non=>subst a;exact PySem.EqNone.eq_bool_none (bM I q (by simp))
  |bl j=>subst a;exact eq_bool (bM I q pi)
  |str j=>obtain⟨t',rfl⟩:=a;exact PySem.EqMixed.eq_bool_str (bM I q (by simp))
  | _=>exact absurd (b) bx
 |int i=>
  obtain⟨t,rfl⟩:=c
  cases y with
  |non=>subst a;exact PySem.EqNone.eq_int_none (bM I q (by simp))
  |int j=>obtain⟨t',rfl⟩:=a;exact eq_int (bM I q vN)
  |str j=>obtain⟨t',rfl⟩:=a;exact PySem.EqMixed.eq_int_str (bM I q (by simp))
  | _=>exact absurd (b) bx
 |str i=>
  obtain⟨t,rfl⟩:=c
  cases y with
  |non=>subst a;exact PySem.EqNone.eq_str_none (bM I q (by simp))
  |bl j=>subst a;exact PySem.EqMixed.eq_str_bool (bM I q (by simp))
  |int j=>obtain⟨t',rfl⟩:=a;exact PySem.EqMixed.eq_str_int (bM I q (by simp))
  |str j=>obtain⟨t',rfl⟩:=a;exact eq_str (bM I q vO)
  | _=>exact absurd (b) bx
 |byt i=>
  obtain⟨t,rfl⟩:=c
  cases y with
  |byt j=>obtain⟨t',rfl⟩:=a;exact W.eq_bytes (bM I q CJ)
  | _=>exact absurd (b) bx
 | _=>cases y <;> exact absurd (show ag=ac from b) bx
def JD:OpR X (cE .NotEq) rNe:=by
 intro U s L H x y v u Q I c a h;obtain⟨b,q⟩:=h
 cases x with
 |non=>
  cases c
  cases y with
  |non=>subst a;exact PySem.EqNone.ne_none_none (bM I q (by rfl))
  |bl j=>subst a;exact PySem.EqNone.ne_none_bool (bM I q (by rfl))
  |int j=>obtain⟨t',rfl⟩:=a;exact PySem.EqNone.ne_none_int (bM I q (by rfl))
  |str j=>obtain⟨t',rfl⟩:=a;exact PySem.EqNone.ne_none_str (bM I q (by rfl))
  | _=>exact absurd (b) bx
 |bl i=>
  subst c
  cases y with
  |non=>subst a;exact PySem.EqNone.ne_bool_none (bM I q (by rfl))
  |bl j=>subst a;exact ne_bool (bM I q (congrArg not pi))
  |str j=>obtain⟨t',rfl⟩:=a;exact PySem.EqMixed.ne_bool_str (bM I q (by simp))
  | _=>exact absurd (b) bx
 |int i=>
  obtain⟨t,rfl⟩:=c
  cases y with
  |non=>subst a;exact PySem.EqNone.ne_int_none (bM I q (by simp))
  |int j=>obtain⟨t',rfl⟩:=a;exact ne_int (bM I q (congrArg not vN))
  |str j=>obtain⟨t',rfl⟩:=a;exact PySem.EqMixed.ne_int_str (bM I q (by simp))
  | _=>exact absurd (b) bx
 |str i=>
  obtain⟨t,rfl⟩:=c
  cases y with
  |non=>subst a;exact PySem.EqNone.ne_str_none (bM I q (by simp))
  |bl j=>subst a;exact PySem.EqMixed.ne_str_bool (bM I q (by simp))
  |int j=>obtain⟨t',rfl⟩:=a;exact PySem.EqMixed.ne_str_int (bM I q (by simp))
  |str j=>obtain⟨t',rfl⟩:=a;exact ne_str (bM I q (congrArg not vO))
  | _=>exact absurd (b) bx
 |byt i=>
  obtain⟨t,rfl⟩:=c
  cases y with
  |byt j=>obtain⟨t',rfl⟩:=a;exact W.ne_bytes (bM I q (congrArg not CJ))
  | _=>exact absurd (show ag=ac from b) bx
 | _=>cases y <;> exact absurd (show ag=ac from b) bx
def JE:OpR X (cE .Lt) (rI0 λi j=>.bl (decide (i<j))):=sC λ_ _ _ _ _ _ _ q=>lt_int q
def JF:OpR X (cE .LtE) (rI0 λi j=>.bl (decide (i<=j))):=sC λ_ _ _ _ _ _ _ q=>le_int q
def JG:OpR X (cE .Gt) (rI0 λi j=>.bl (decide (j<i))):=sC λ_ _ _ _ _ _ _ q=>gt_int q
def JH:OpR X (cE .GtE) (rI0 λi j=>.bl (decide (j<=i))):=sC λ_ _ _ _ _ _ _ q=>ge_int q
def JI:OpR X (cE .Is) (λx y H Q=>y=.non/\Q (.bl (decide (x=.non))) H):=by
 intro U s L H x y v u Q I a b h;obtain⟨rfl,q⟩:=h;subst b;refine is_none_gen (bM I q ?_)
 cases x <;> first
  |(subst a;rfl)
  |(obtain⟨t,rfl⟩:=a;rfl)
def JJ:OpR X (cE .IsNot) (λx y H Q=>y=.non/\Q (.bl (!decide (x=.non))) H):=by
 intro U s L H x y v u Q I a b h;obtain⟨rfl,q⟩:=h;subst b;refine isnot_none_gen (bM I q ?_)
 cases x <;> first
  |(subst a;rfl)
  |(obtain⟨t,rfl⟩:=a;rfl)
variable{op:CmpOp}
def CK(b:Expr)(h:op≠.In:=by decide)(h2:op≠.NotIn:=by decide):j4 op b=ag:=by
 have a:(op==CmpOp.In)=ag:=by grind
 have c:(op==CmpOp.NotIn)=ag:=by grind
 cases b <;> simp[j4,a,c]
variable{r:R2}
def JK(e:OpR X (cE op) r)(ha:PE X a ta)(d:PE X b tb)(hm:j4 op b=ag):PE X (.Compare a [op] [b] pos) (tOp r ta tb):=by
 intro U s L H Q I h;exact wpAny_Compare1 (vL ha d I h λv u s2 x y H2 c f g q=>e U s2 L H2 x y v u Q c f g q) hm
abbrev JL(t:TE):TT:=λL H Q=>t L H λx H'=>∃k,x=.bl k/\Q k H'
def JM(l:OpR X (cE op) r)(ha:PE X a ta)(j:PE X b tb)(hm:j4 op b=ag):PT X (.Compare a [op] [b] pos) (JL (tOp r ta tb)):=by
 intro U s L H Q I h
 refine wpAny_isTrue_Compare1 (thn (ha U s L H _ I h) λv s1 ⟨x,H1,f,q,m⟩=>thn (j U s1 L H1 _ f m) λu s2 ⟨y,H2,g,w,n⟩ =>
  thn (l U s2 L H2 x y v u _ g q w n) λc B ⟨z,d,i,A,k,e,p⟩=>?_) hm
 subst e;subst A;exact mS ⟨d,i,p⟩
abbrev vP(K:aO)(x:V)(H:Hp)(k:Bool):Prop:=
 match x with
 |.non=>k=ag
 |.bl b=>k=b
 |.int i=>k=(i != 0)
 |.str y=>y.length<=aP/\k=((y.length:Int) != 0)
 |.byt y=>y.size<=aP/\k=((y.size:Int) != 0)
 |.ref p=>(∃B,SqL K H p B/\k=!B.isEmpty)\/(∃B,SqT K H p B/\k=!B.isEmpty)\/∃kvs,H p=aa (.dK kvs)/\k=!kvs.isEmpty
 | _=>False
def JN{a:Type}{kvs:List (a×V)}{vs:List (a×Value)}(r:KV kvs vs):(!vs.isEmpty)=!kvs.isEmpty:=by
 cases r <;> rfl
variable{E:LVa}
def CL(r:aE B E):(!E.toArray.isEmpty)=!B.isEmpty:=by
 cases r <;> simp
def pq:(aP:Nat)<2 ^ 63:=by rw[cX];decide
def JO:Ju X (λx H Q=>∃k,vP X.K x H k/\Q k H):=by
 intro U s L H x v Q I d h;obtain⟨k,e,q⟩:=h;have n:=cX
 cases x with
 |non=>
  subst d;have a:=e;subst a
  exact truthy_none ⟨H,I,q⟩
 |bl b=>
  subst d;have a:=e;subst a
  exact mS ⟨H,I,q⟩
 |int i=>
  obtain⟨t,rfl⟩:=d;have a:=e;subst a
  exact PySem.P.truthy_int ⟨H,I,q⟩
 |str y=>
  obtain⟨t,rfl⟩:=d;obtain⟨l,a⟩:y.length<=aP/\k=_:=e;subst a
  exact PySem.P.truthy_str (by lia) ⟨H,I.tok _,q⟩
 |byt y=>
  obtain⟨t,rfl⟩:=d;obtain⟨l,a⟩:y.size<=aP/\k=_:=e;subst a
  exact W.truthy_bytes (by lia) ⟨H,I.tok _,q⟩
 |ref p=>
  subst d;have a:=e
  rcases a with⟨B,f,a⟩ |⟨B,f,a⟩ |⟨kvs,f,a⟩
  .subst a;obtain⟨E,r,g,hz⟩:=I.list f;have c:=r.length;exact wpAny_truthy_list g.isList (by simp only[size_toArray];lia) ⟨H,I.tok _,by rw[CL r];exact q⟩
  .subst a;obtain⟨E,r,g,hz⟩:=I.tuple f;have c:=r.length;exact truthy_tuple g (by simp only[size_toArray];lia) ⟨H,I.tok _,by rw[CL r];exact q⟩
  .subst a;obtain⟨hz,j,vs,r,m⟩:kvs.length<=aP/\(p==gx)=ag/\∃vs,KV kvs vs/\s.heap.DictOf (kg X.prog X.w) p vs:=I.hok p _ f;have c:=m6 r
   exact wpAny_truthy_dict j m (by lia) ⟨H,I.tok _,by rw[JN r];exact q⟩
 | _=>exact(show False from e).elim
def JP(ha:PE X a ta)(d:∀b,isTrue a X.env b=(do let v <- b;fZ a.pos;d7 [v] (truthy v))):
  PT X a (λL H Q=>ta L H λx H'=>∃k,vP X.K x H' k/\Q k H'):=by
 intro U s L H Q I h;exact isTrue_plain (thn (ha U s L H _ I h) λv s1 ⟨x,H1,c,f,e⟩=>JO U s1 L H1 x v Q c f e) (d _)
def JQ:OpR X (eY .Add) (λx y H Q=>∃i j,x=.str i/\y=.str j/\i.length+j.length<=aP/\Q (.str (i++j)) H):=by
 intro U s L H x y v u Q I a b h;obtain⟨i,j,rfl,rfl,hz,q⟩:=h;obtain⟨t,rfl⟩:=a;obtain⟨t',rfl⟩:=b;exact add_str (λt' c=>⟨.str _,H,I.tok _,⟨_,rfl⟩,q⟩) hz
def JR:OpR X (inplaceOp .Add) (λx y H Q=>∃i j,x=.str i/\y=.str j/\i.length+j.length<=aP/\Q (.str (i++j)) H):=by
 intro U s L H x y v u Q I a b h;obtain⟨i,j,rfl,rfl,hz,q⟩:=h;obtain⟨t,rfl⟩:=a;obtain⟨t',rfl⟩:=b;exact iadd_str (λt' c=>⟨.str _,H,I.tok _,⟨_,rfl⟩,q⟩) hz
def lO{x:V}(r:aE [x] us):∃u,us=[u]/\az x u:=by
 cases r with
 |cons a b=>cases b;exact⟨_,rfl,a⟩
def JS{x:V}(r:aE [x,y] us):∃u a,us=[u,a]/\az x u/\az y a:=by
 cases r with
 |cons d b=>
  cases b with
  |cons e c=>cases c;grind
structure lP(h:Heap)(x dx U5:Addr)(mA:MGT):Prop where
 obj:h.get? x=aa (ke U5 dx)
 ns:h.Ns1 dx mA
 ne:dx≠x
variable{mA:MGT}
def JT{dx:Addr}(n:h.Ns1 dx mA):∃od,h.get? dx=aa od/\∀name,W.lookIn name od=aa (mA name):=by
 obtain⟨o,es,g,d,hd,c,_,hm⟩:=n;refine⟨o,d,λname=>?_⟩;have e:=hm name;unfold nsFind findBy at e;rw[<- Array.find?_toList]at e;unfold W.lookIn;rw[hd];dsimp only;split
 .grind
 .rename_i q;rw[q]at e
  have a:es.toList.any (·.refKey)=ag:=by
   rw[any_eq_false];intro y f;obtain⟨z,t,b⟩:=c y (Array.mem_toList_iff.mp f);simp[DictEntry.refKey,b]
  grind
def lP.look{x dx U5:Addr}(I:lP h x dx U5 mA):∃od,W.InstAt h x (ke U5 dx) U5 (aa od)/\∀name,W.lookIn name od=aa (mA name):=
 let ⟨od,ho,hl⟩:=JT I.ns
 ⟨od,⟨I.obj,rfl,rfl,ho⟩,hl⟩
variable{x U5:Addr}{name:Str}{v:Value}
section
variable{s:ah}{dx:Addr}
def JU{a:Bool}{Q:PRS}(X:K.In s.heap)(I:lP s.heap x dx U5 mA)(c:jB K U5 name=ac)(d:ka K U5=ac)
 (ha:b7 K (.ref U5) name=aa ab)(hv:mA name=aa v)(b:W.handedIn v=ac)(h:Q v {s with toks:=s.toks+1}):
  wpAny (model prog w) A (getAttr (.ref x) name a) Q U4 s:=by
 obtain⟨od,J,e⟩:=I.look;exact W.get_value X J (W.plainGet_of c).1 (W.findObj_own d ha rfl (by rw[e,hv])) b h
end
variable{f:Addr}{pl:Sem Bool}
def JV{s:ah}{dx:Addr}{Q:Value×LVa->ah->Prop}(X:K.In s.heap)(I:lP s.heap x dx U5 mA)(a:jB K U5 name=ac)
 (b:b7 K (.ref U5) name=aa (aa (.ref f)))(d:W.isFn K (.ref f)=ac)(hv:mA name=ab)(h:Q (.ref f,[.ref x]) s):
  wpAny (model prog w) A (gy (.ref x) name pl) Q U4 s:=by
 obtain⟨od,J,c⟩:=I.look;exact W.method_fn X J (W.plainGet_of a).1 (W.plainGet_of a).2 b (beq_iff_eq.mp d) (by show(W.lookIn name od).map (·.isSome)=aa ag;rw[c,hv];rfl) h
section
variable{s:ah}{dx:Addr}
def JW{ns:LSt}(X:K.In s.heap)(I:lP s.heap x dx U5 mA)
 (n:b7 K (.ref U5) "__setattr__"=aa (aa (.builtin "object.__setattr__")))(m:lI K U5=ac)(q:W.takerIn K U5 name=aa ab)(l:ka K U5=ac)
 (r:PySem.Within mA ns)(p:ns.length<=aP)
 (h:∀h',lP h' x dx U5 (λy=>if y=name then aa v else mA y)->fK dx s.heap h'->Q () {s with heap:=h',toks:=s.toks+2}):
  wpAny (model prog w) A (setAttr (.ref x) name v) Q U4 s:=by
 obtain⟨od,J,z⟩:=I.look;refine W.set_plain X J n (W.osa_open X J m q λb=>?_);obtain⟨u,j,e⟩:=W.any_some l;refine aj (aC (aj (aj (wpAny_loadPart I.obj (aj (W.Looks.here (W.looks_clsIn X j) ?_))))));rw[e];refine aC (aj (aC (aj ?_)));refine wpAny_nsSet1 I.ns λh' a c=>?_;obtain⟨B,i,g,f,hdD,d⟩:=a.count (PySem.Within.cons name v r);exact aj (wpAny_lookBehind f (by rw[hdD];exact pastItsLine_dict (cy d (by simp only[bO];lia))) (aC (h _ ⟨(c.2 _ (d5 I.ne)).trans I.obj,a,I.ne⟩ c)))
end
variable{R:Result->ah->Prop}{kw:List (Str×Value)}
section
variable{s:ah}
def JX{vs:LVa}(X:K.In s.heap)(hm:lJ K U5=ac)
 (hi:b7 K (.ref U5) "__init__"=aa (aa (.ref f)))(a:W.typeIn K (.ref f)=aa (.type "function"))
 (h:f6 (model prog w) (A.under (.builtin "type.__call__" ⟨.ref U5::vs,kw⟩)) (.call (.ref f) ⟨.ref (s.heap.objs.size + 1)::vs,kw⟩) (W.InitBack (s.heap.objs.size + 1) R)
   {s with heap:=(s.heap.push kc).push (ke U5 s.heap.objs.size)}):
  f6 (model prog w) A (.call (.ref U5) ⟨vs,kw⟩) R s:=by
 exact W.make_core (W.makes_of X hm) (W.looks_findIn X hi) (λself=>W.bind_fn X self a) (.inl rfl) h
end
abbrev cM(f:Str)(v:V):List (Str×V)->List (Str×V)
 | []=>[(f,v)]
 |(g,x)::r=>if g=f then (g,v)::r else (g,x)::cM f v r
def CM(f g:Str)(v:V):∀fs:List (Str×V),(cM f v fs).lookup g=if g=f then aa v else fs.lookup g
 | []=>by
  show List.lookup g [_]=_
  grind
 |(k,x)::r=>by
  rw[show cM f v _=(if k=f then _::r else _::cM f v r)from rfl]
  by_cases b:k=f
  .grind
  .rw[if_neg b]
   by_cases h:g=k
   .grind
   .have a:=beq_eq_false_iff_ne.mpr h;simp only[List.lookup,a];exact(CM f g v r)
def vQ(f:Str)(v:V):∀fs:List (Str×V),f∈(cM f v fs).map (·.1)/\∀g,g∈fs.map (·.1)->g∈(cM f v fs).map (·.1)
 | []=>⟨by simp[cM],λg h=>by simp at h⟩
 |(k,x)::r=>by
  obtain⟨a,b⟩:=vQ f v r;rw[show cM f v _=(if k=f then _::r else _::cM f v r)from rfl]
  grind
def CN(f:Str)(v:V):∀fs:List (Str×V),(cM f v fs).length<=fs.length+1
 | []=>by simp[cM]
 |(k,x)::r=>by
  have b:=CN f v r;rw[show cM f v _=(if k=f then _::r else _::cM f v r)from rfl]
  by_cases a:k=f
  .rw[if_pos a,bO,bO];lia
  .rw[if_neg a,bO,bO];lia
variable{v:V}
def eq.some_of{o:Option Value}(r:eq (aa v) o):∃u,o=aa u/\az v u:=by
 cases o with
 |none=>exact(r).elim
 |some u=>exact⟨u,rfl,r⟩
def eq.none_of{o:Option Value}(r:eq ab o):o=ab:=by
 cases o with
 |none=>rfl
 |some u=>exact(r).elim
def JY(r:az v u):W.handedIn u=ac:=by
 cases v with
 |non=>cases (r);rfl
 |bl b=>cases (r);rfl
 |int i=>obtain⟨t,e⟩:=(r);subst e;rfl
 |str x=>obtain⟨t,e⟩:=(r);subst e;rfl
 |byt b=>obtain⟨t,e⟩:=(r);subst e;rfl
 |flt b=>obtain⟨t,e⟩:=(r);subst e;rfl
 |ref a=>cases (r);rfl
 |ty n=>cases (r);rfl
variable{a:Addr}{fs:List (Str×V)}
def sD{dx:Addr}(hok:HOk P w H h)(e:H a=aa (.ins U5 dx fs)):∃mA,lP h a dx U5 mA/\(∀f,eq (fs.lookup f) (mA f))/\PySem.Within mA (fs.map (·.1))/\fs.length<=1000/\H dx=aa (.own a):=by
 obtain⟨d,z,ne,b,mA,n,r,q⟩:=(hok a _ e);exact⟨mA,⟨b,n,ne⟩,r,q,z,d⟩
structure Cls(K:aO)(U5:Addr):Prop where
 pg:jB K U5 m8=ac
 hd:ka K U5=ac
 po:lI K U5=ac
 sa:b7 K (.ref U5) "__setattr__"=aa (aa (.builtin "object.__setattr__"))
def Cls.get(c:Cls K U5)(f:Str):jB K U5 f=ac:=c.pg
abbrev cv(K:aO)(U5:Addr)(f:Str):Prop:=b7 K (.ref U5) f=aa ab
variable{f:Str}
def cv.taker(n:cv K U5 f):W.takerIn K U5 f=aa ab:=by
 unfold W.takerIn;rw[show b7 K _ f=aa ab from n];rfl
structure px(K:aO)(U5:Addr)(m:Str)(f:Addr):Prop where
 at_:b7 K (.ref U5) m=aa (aa (.ref f))
 fn:W.isFn K (.ref f)=ac
 kp:e8 K (.ref f)=ac
def CO{s:ah}{dx:Addr}{b:Bool}{Q:PRS}(I:Inv X U L H s)(e:H a=aa (.ins U5 dx fs))(c:Cls X.K U5)(n:cv X.K U5 f)(l:fs.lookup f=aa v)
 (h:∀u s',Inv X U L H s'->az v u->Q u s'):wpAny (model X.prog X.w) A (getAttr (.ref a) f b) Q U4 s:=by
 obtain⟨mA,O,r,_,_,_⟩:=sD I.hok e;obtain⟨u,g,d⟩:=eq.some_of (by rw[<- l];exact r f);exact JU I.kIn O (c.get f) c.hd n g (JY d) (h u _ (I.tok _) d)
variable{m:Str}
def CP{s:ah}{dx:Addr}{g:Addr}{Q:Value×LVa->ah->Prop}(I:Inv X U L H s)(e:H a=aa (.ins U5 dx fs))(c:Cls X.K U5)(k:px X.K U5 m g)(l:fs.lookup m=ab)
 (h:Q (.ref g,[.ref a]) s):wpAny (model X.prog X.w) A (gy (.ref a) m pl) Q U4 s:=by
 obtain⟨mA,O,r,_,_,_⟩:=sD I.hok e;exact JV I.kIn O (c.get m) k.at_ k.fn (eq.none_of (by grind)) h
def CQ{s:ah}{dx:Addr}(I:Inv X U L H s)(e:H a=aa (.ins U5 dx fs))(c:Cls X.K U5)(n:cv X.K U5 f)(v:fs.length<1000)(m:az y u)
 (h:∀s',Inv X U L (upd H a (.ins U5 dx (cM f y fs))) s'->Q () s'):wpAny (model X.prog X.w) A (setAttr (.ref a) f u) Q U4 s:=by
 obtain⟨mA,O,r,wi,_,i⟩:=sD I.hok e;have hz:(fs.map (·.1)).length<=aP:=by rw[aB,cX];lia
 refine JW I.kIn O c.sa c.po n.taker c.hd wi hz λh' d p=>h _ ?_;have hd:∃o,h'.get? dx=aa o:=let ⟨o,_,_,e',_⟩:=d.ns;⟨o,e'⟩;refine I.write (by rw[e];exact gY) (.inr i) (λb q j z=>(p.2 b j).trans z) hd ?_;refine⟨by rw[aI O.ne];exact i,?_,O.ne,d.obj,_,d.ns,λg=>?_,λg l=>?_⟩
 .have:=CN f y fs;lia
 .show eq _ _;rw[CM]
  by_cases q:g=f
  .rw[if_pos q,if_pos q];exact m
  .rw[if_neg q,if_neg q];exact r g
 .by_cases q:g=f
  .rw[q];exact(vQ f y fs).1
  .refine(vQ f y fs).2 g (wi g λz=>l ?_);show(if g=f then aa u else mA g)=ab;rw[if_neg q];exact z
section
variable{s:ah}
def Inv.made(I:Inv X U L H s):Inv X U L (upd (upd H s.heap.objs.size (.own (s.heap.objs.size+1))) (s.heap.objs.size+1) (.ins U5 s.heap.objs.size []))
  {s with heap:=(s.heap.push kc).push (ke U5 s.heap.objs.size)}:=by
 have a:(s.heap.push kc).get? s.heap.objs.size=aa kc:=cA s.heap rfl
 have c:((s.heap.push kc).push (ke U5 s.heap.objs.size)).get? (s.heap.objs.size+1)=aa (ke U5 s.heap.objs.size):=by
  have:=cA (s.heap.push kc) (o:=ke U5 s.heap.objs.size) rfl
  simp_all
 have d:(s.heap.push kc).Ns s.heap.objs.size _:=⟨kc,#[],_,a,rfl,(λe f=>absurd f (by simp)),λ_=>rfl⟩;refine(I.laid (o:=.own _) (t':=s.toks) (λb u q=>bu _ q) (aM _) ⟨_,a⟩).laid (λb u q=>bu _ q) (Nat.le_of_eq (iz _ _)) ?_;have ne:s.heap.objs.size≠s.heap.objs.size+1:=bR (dq _);refine⟨by rw[aI ne,aW],b9 _,ne,c,λ_=>ab,(Heap.Ns1.of_empty d).at λo q=>bu _ q,λ_=>gY,λy g=>absurd rfl g⟩
end
variable{env:Env}
def JZ{s:ah}{Q:PRS}(b:mU e f env (eval e env)=eval e env)
 (h:wpAny (model prog w) A (eval e env) (λo a=>wpAny (model prog w) A (getAttr o f ac) Q U4 a) U4 s):wpAny (model prog w) A (eval (.Attribute e f pos) env) Q U4 s:=
 Attribute_any_ h (by rw[arm_eval_Attribute,b])
abbrev J0(K:aO)(ta:TE)(f:Str):TE:=λL H Q=>ta L H λx H1=>∃a U5 dx fs v,x=.ref a/\H1 a=aa (.ins U5 dx fs)/\Cls K U5/\cv K U5 f/\fs.lookup f=aa v/\Q v H1
abbrev CS(K:aO)(ta b:TE)(f:Str):TS:=λD L H=>b L H λy H1=>ta L H1 λx H2=>∃a U5 dx fs,x=.ref a/\H2 a=aa (.ins U5 dx fs)/\Cls K U5/\cv K U5 f/\fs.length<1000 /\
 D.nx L (upd H2 a (.ins U5 dx (cM f y fs)))
abbrev CT(X:Cx)(op:Operator)(rd:V->V->Hp->VK->Prop):Prop:=
 ∀(U:PNS) (s:ah) (L:St) (H:Hp) (x y:V) (u v:Value) (Q:VK),Inv X U L H s->az x u->az y v->rd x y H Q->wpAny (model X.prog X.w) X.A (inplaceOp op u v) (EP X U L Q) X.xe s
abbrev J4(K:aO)(ta e:TE)(rd:V->V->Hp->VK->Prop)(f:Str):TS:=λD L H=>ta L H λx H1=>∃a U5 dx fs v,x=.ref a/\H1 a=aa (.ins U5 dx fs)/\Cls K U5/\cv K U5 f/\fs.lookup f=aa v /\
 e L H1 λy H2=>rd v y H2 λz d=>∃c b,d a=aa (.ins U5 c b)/\b.length<1000/\D.nx L (upd d a (.ins U5 c (cM f z b)))
def CU(j:PE X e ta)(i:mU e f X.env (eval e X.env)=eval e X.env):PE X (.Attribute e f pos) (J0 X.K ta f):=by
 intro U s L H Q I h;refine JZ i (thn (j U s L H _ I h) λu s1 m=>?_);obtain⟨x,H1,b,r,a,U5,dx,fs,v,ex,g,c,n,l,q⟩:=m;subst ex;obtain rfl:u=d9 a:=r;exact CO b g c n l λw s2 d p=>⟨v,H1,d,p,q⟩
variable{value:Expr}{tv:TE}
def vR{o:Expr}(ha:PE X o ta)(hv:PE X value tv)(i:fI value (aa (.Attribute o f cc)) pos.line X.env=pure ag):PS X (.Assign [.Attribute o f cc] value pos) (CS X.K ta tv f):=by
 intro U s L H D I h;refine plainObj_wpAny_Assign_Attribute (thn (hv U s L H _ I h) λu s1 ⟨y,H1,b,v,q⟩=>thn (ha U s1 L H1 _ b q) λj s2 p=>?_) i;obtain⟨x,H2,d,r,a,U5,dx,fs,ex,g,c,n,l,m⟩:=p;subst ex;obtain rfl:j=d9 a:=r;exact CQ d g c n l v λw e=>⟨L,_,e,m⟩
variable{hO:Pos}
def J5{o:Expr}{op:Operator}{rd:V->V->Hp->VK->Prop}(ha:PE X o ta)(hv:PE X value tv)(d:CT X op rd):PS X (.AugAssign (.Attribute o f hO) op value pos) (J4 X.K ta tv rd f):=by
 intro U s L H D I h;refine wpAny_AugAssign_AttributeAny (thn (ha U s L H _ I h) λB s1 G=>?_);obtain⟨x,H1,e,M,a,U5,dx,fs,v,ex,r,c,n,l,q⟩:=G;subst ex;obtain rfl:B=d9 a:=M;exact CO e r c n l λu s2 g J=>thn (hv U s2 L H1 _ g q) λY T ⟨y,H2,i,N,C⟩=>thn (d U T L H2 v y u Y _ i J N C) λw4 s4 ⟨z,H3,j,Q,p,w,b,A,E⟩=>(CQ j b c n A Q λs5 m=>⟨L,_,m,E⟩)
abbrev J6:V->V->Hp->VK->Prop:=λx y H Q=>∃i j,x=.int i/\y=.int j/\Q (.int (i+j)) H
def J7:CT X .Add J6:=by
 rintro U s L H x y u v Q I a b ⟨i,j,rfl,rfl,q⟩;obtain⟨t,rfl⟩:=(a);obtain⟨t',rfl⟩:=(b);exact PyProof.Rows.iadd_int ⟨.int _,H,I.tok _,⟨_,rfl⟩,q⟩
inductive f7(K:aO)(H:Hp):V->Value->Prop where
 |non:f7 K H .non (.type "NoneType")
 |bl (x:Bool):f7 K H (.bl x) (.type "bool")
 |int (i:Int):f7 K H (.int i) (.type "int")
 |str (x:Str):f7 K H (.str x) (.type "str")
 |flt (x:UInt64):f7 K H (.flt x) (.type "float")
 |lst {a:Addr} {B:LVv} (e:H a=aa (.lst B)):f7 K H (.ref a) (.type "list")
 |frz {a:Addr} {o:Obj} {B:LVv} (e:H a=aa (.frz o (.lst B))):f7 K H (.ref a) (.type "list")
 |tup {a:Addr} {B:LVv} (e:H a=aa (.tup B)):f7 K H (.ref a) (.type "tuple")
 |dK {a:Addr} {kvs:List (Key×V)} (e:H a=aa (.dK kvs)):f7 K H (.ref a) (.type "dict")
 |dT {a:Addr} {kvs:List (List Key×V)} (e:H a=aa (.dT kvs)):f7 K H (.ref a) (.type "dict")
 |ins {a U5 dx:Addr} {fs:List (Str×V)} (e:H a=aa (.ins U5 dx fs)) (cl:Cls K U5) (ha:b7 K (.ref U5) "__class__"=aa (aa (.builtin "object.__class__")))
   (hn:W.specialIn K (.builtin "object.__class__") "__get__"=aa (aa (.builtin "getset_descriptor.__get__"))) (htk:W.takesIn K (.builtin "object.__class__")=aa ac)
   (hm:W.mroIn K U5 (.type "object")=aa ac):f7 K H (.ref a) (.ref U5)
variable{Q:PRS}{c:Value}{b:Bool}
section
variable{s:ah}
def J8{x:V}{u t:Value}(I:Inv X U L H s)(f:az x u)(ty:f7 X.K H x t)(e:W.kitOne X.K t c=aa b)(h:∀j,Q (.bool b) {s with toks:=j}):
  wpAny (model X.prog X.w) A (call (.builtin "isinstance") [u,c]) Q U4 s:=by
 cases ty with
 |non=>cases (f);exact iA W.kitx_none I.kIn gY e (λz=>nomatch z) h
 |bl y=>cases (f);exact iA W.kitx_bool I.kIn gY e (λz=>nomatch z) h
 |int i=>obtain⟨t,q⟩:=(f);subst q;exact iA W.kitx_int I.kIn gY e (λz=>nomatch z) h
 |str y=>obtain⟨t,q⟩:=(f);subst q;exact iA W.kitx_str I.kIn gY e (λz=>nomatch z) h
 |flt y=>obtain⟨t,q⟩:=(f);subst q;exact iA W.kitx_float I.kIn gY e (λz=>nomatch z) h
 | @lst a B d=>
  cases (f);obtain⟨_,_,n,_,h1⟩:=(I.hok a _ d)
  exact iA W.kitx_list I.kIn ⟨_,h1,rfl⟩ e (λz=>nomatch z) h
 | @frz a l B d=>
  cases (f);obtain⟨_,_,_,n,_,h1⟩:=(I.hok a _ d)
  exact iA W.kitx_list I.kIn ⟨_,h1,rfl⟩ e (λz=>nomatch z) h
 | @tup a B d=>
  cases (f);obtain⟨_,_,_,p⟩:=(I.hok a _ d);obtain⟨o,h1,h2,_⟩:=p
  exact iA W.kitx_tuple I.kIn ⟨o,h1,h2⟩ e (λz=>nomatch z) h
 | @dK a kvs d=>
  cases (f);obtain⟨_,_,vs,_,p⟩:=(I.hok a _ d);obtain⟨o,es,g,h1,h2,_⟩:=p
  exact iA W.kitx_dict I.kIn ⟨o,h1,h2.1⟩ e (λz=>nomatch z) h
 | @dT a kvs d=>
  cases (f);obtain⟨_,_,B,_,o,es,g,h1,h2,_⟩:=(I.hok a _ d)
  exact iA W.kitx_dict I.kIn ⟨o,h1,h2.1⟩ e (λz=>nomatch z) h
 | @ins a U5 dx fs d cl ha hn htk hm=>
  cases (f);obtain⟨mA,O,_⟩:=sD I.hok d;obtain⟨od,J,_⟩:=O.look;exact iA (W.kitx_own (cl.get _) cl.hd ha hn htk hm) I.kIn J e (λz=>nomatch z) h
end
structure bo(k:Nat)(A:bW):Prop where
 hd:A.handled=ab
 dp:A.depth+3*k+5<recursionLimit
 un:A.units+16*k+200<cLine
def bo.mono{j k:Nat}(r:bo k A)(h:j<=k):bo j A:=⟨r.hd,by have:=r.dp;lia,by have:=r.un;lia⟩
def bo.deeper{k:Nat}(r:bo (k+1) A)(env:Env):bo k (A.deeper env):=
 ⟨r.hd,by have:=r.dp;show A.depth+1+3*k+5<_;lia,by have:=r.un;show A.units+3+16*k+200<_;lia⟩
def J9:(A.under (.builtin "type.__call__" ⟨.ref U5::us,kw⟩)).depth=A.depth+1:=by
 first |rfl |simp[bW.under]
def Ka:(A.under (.builtin "type.__call__" ⟨.ref U5::us,kw⟩)).units=A.units+1:=by
 first |rfl |simp[bW.under]
def bo.make{k:Nat}(r:bo (k+1) A)(U5:Addr)(us:LVa)(kw:List (Str×Value)):bo k (A.under (.builtin "type.__call__" ⟨.ref U5::us,kw⟩)):=
 ⟨r.hd,by have:=r.dp;rw[J9];lia,by have:=r.un;rw[Ka];lia⟩
def bo.depth{k:Nat}(r:bo k A):A.depth<recursionLimit:=by have:=r.dp;lia
def bo.units{k:Nat}(r:bo k A):A.units+64<cLine:=by have:=r.un;lia
abbrev gF:TA:=λ_ H Q=>Q [] H
abbrev iG(ta:TE)(tr:TA):TA:=λL H Q=>ta L H λx H1=>tr L H1 λB H2=>Q (x::B) H2
def dM:PA X [] gF:=λ_ _ _ _ H Q I h=>vf ⟨[],H,I,.nil,h⟩
def eA{t:TA}(ha:PE X e te)(hr:PA X es t)(c:StE X e es:=by rfl):PA X (e::es) (iG te t):=by
 intro pos U s L H Q I h;rw[c];exact iy (thn (ha U s L H _ I h) λu s1 ⟨x,H1,a,g,d⟩=>(thn (hr pos U s1 L H1 _ a d) λus s2 ⟨B,H2,b,i,f⟩=>⟨x::B,H2,b,.cons g i,f⟩))
abbrev Kb(t:TA):TE:=λL H Q=>t L H λB H1=>B.length<=aP/\∀p,H1 p=ab->Q (.ref p) (upd H1 p (.tup B))
abbrev vS(t:TA):TE:=λL H Q=>t L H λB H1=>B.length<=aP/\∀p,H1 p=ab->Q (.ref p) (upd H1 p (.lst B))
def Kc{t:TA}{x1}(h:PA X es t):PE X (.Tuple es x1 pos) (Kb t):=by
 intro U s L H Q I c;refine wpAny_Tuple_spliced (thn (h pos U s L H _ I c) λus s1 ⟨B,H1,a,r,z,q⟩=>⟨by rw[<- r.length];exact z,?_⟩);refine⟨.ref s1.heap.objs.size,upd H1 s1.heap.objs.size _,a.laid (λb u e=>bu _ e) (aM _) ?_,rfl,q _ (a.hok.fresh (aM _))⟩;exact⟨z,us,r,⟨_,cA _ rfl,rfl,_,rfl⟩⟩
def sE{t:TA}(h:PA X es t):PE X (.List es pos) (vS t):=by
 intro U s L H Q I c;refine wpAny_List_spliced (thn (h pos U s L H _ I c) λus s1 ⟨B,H1,a,r,z,q⟩=>⟨by rw[<- r.length];exact z,?_⟩);refine⟨.ref s1.heap.objs.size,upd H1 s1.heap.objs.size _,a.laid (λb u e=>bu _ e) (aM _) ?_,rfl,q _ (a.hok.fresh (aM _))⟩;exact⟨z,us,0,r,cA _ rfl⟩
nonrec def Sp:=LVv->Hp->VK->XK->Prop
nonrec def CXT:=List Env->Hp->ah->XK->PRS
structure lQ(P:bY)(w:World)(K:aO)(mg:MGT)(base:Heap)(A:bW)(outer:List Env)(s:ah)(H:Hp):Prop where
 frames:A.frames=aa outer
 mod:Mod K mg base
 bs:∀b o,base.get? b=aa o->s.heap.get? b=aa o/\H b=ab
 bsz:base.objs.size<=s.heap.objs.size
 funs:s.heap.FunFrames base outer
 frf:∀b∈frs outer,H b=ab
 hok:HOk P w H s.heap
 bare:jw s.gens
abbrev CE(outer:List Env)(P:bY)(w:World)(H:Hp)(s:ah)(Q:VK)(u:Value)(s':ah):Prop:=
 ∃v H',s'.os=s.os/\jw s'.gens/\Un (frs outer) [] H H' s.heap s'.heap/\HOk P w H' s'.heap/\az v u/\Q v H'
abbrev CR(CX:CXT)(outer:List Env)(P:bY)(w:World)(H:Hp)(s:ah)(Q:VK)(U4:XK)(r:Result)(s':ah):Prop:=
 match r with
 |.ok (.ret u)=>CE outer P w H s Q u s'
 |.ok _=>False
 |.error e=>CX outer H s U4 e s'
structure b8(P:bY)(w:World)(K:aO)(mg:MGT)(base:Heap)(CX:CXT)(k:Nat)(f:Addr)(fd:cz)(ps:LSt)(sp:Sp):Prop where
 len:∀vs H Q U4,sp vs H Q U4->vs.length=ps.length
 run:∀(A:bW) (outer:List Env) (s:ah) (H:Hp) (args:Args) (us:LVa) (vs:LVv) (Q:VK) (U4:XK),bo k A->lQ P w K mg base A outer s H->BindsTo s fd args (ps.zip us)->aE vs us->sp vs H Q U4 ->
  f6 (model P w) A (.call (.ref f) args) (CR CX outer P w H s Q U4) s
variable{mg:MGT}{base:Heap}{CX:CXT}{f:Addr}{fd:cz}{ps:LSt}{sp:Sp}
def b8.imp{k:Nat}{a:Sp}(F:b8 P w K mg base CX k f fd ps sp)
 (h:∀vs H Q U4,a vs H Q U4->sp vs H Q U4):b8 P w K mg base CX k f fd ps a:=
 ⟨λvs H Q U4 q=>F.len vs H Q U4 (h _ _ _ _ q),λA outer s H args us vs Q U4 hr c b hv d=>F.run A outer s H args us vs Q U4 hr c b hv (h _ _ _ _ d)⟩
variable{outer:List Env}
def lQ.make{s:ah}(e:lQ P w K mg base A outer s H)(U5:Addr)(us:LVa)(kw:List (Str×Value)):
  lQ P w K mg base (A.under (.builtin "type.__call__" ⟨.ref U5::us,kw⟩)) outer s H:=⟨by first |exact e.frames |(simpa[bW.under]using e.frames),e.mod,e.bs,e.bsz,e.funs,e.frf,e.hok,e.bare⟩
def Inv.env0{s:ah}(I:Inv X U L H s):lQ X.prog X.w X.K X.mg X.base X.A X.stack s H:=
 ⟨I.ok.frames,I.ok.mod,I.bs,cy I.ok.bsz I.sz,I.stack,I.stkFree,I.hok,I.bare⟩
variable{Q:VK}
def Inv.after{s:ah}(I:Inv X U L H s)(h:CE X.stack X.prog X.w H s Q u s'):EP X U L Q u s':=by
 obtain⟨v,H',os,bare,un,hok,r,q⟩:=h;obtain⟨c,g,d,t,a⟩:=s';obtain rfl:a=s.os:=os;exact⟨v,H',I.call un hok bare (λb z=>absurd z (by simp)),r,q⟩
abbrev vT(sp:Sp)(a:LVv)(U4:XK)(t:TA):TE:=λL H Q=>t L H λvs H1=>sp (vs++a) H1 Q U4
abbrev sF(U5:Addr)(m:Str)(sp:Sp)(b:LVv)(U4:XK)(ta:TE)(t:TA):TE:=λL H Q=>ta L H λx H1=>∃a dx fs,x=.ref a/\H1 a=aa (.ins U5 dx fs)/\fs.lookup m=ab /\
 t L H1 λvs H2=>sp (x::(vs++b)) H2 Q U4
abbrev CV(U5:Addr)(sp:Sp)(a:LVv)(U4:XK)(t:TA):TE:=λL H Q=>t L H λvs H1=>∀x dx,H1 x=ab->H1 dx=ab->dx≠x ->
 sp (.ref x::(vs++a)) (upd (upd H1 dx (.own x)) x (.ins U5 dx [])) (λv H2=>v=.non/\Q (.ref x) H2) U4
abbrev dw(K:aO)(fd:cz)(ps:LSt)(ds:LVa):Prop:=
 ∀(s:ah) (us:LVa),K.In s.heap->(us++ds).length=ps.length->BindsTo s fd ⟨us,[]⟩ (ps.zip (us++ds))
def dw.all(h:∀us:LVa,us.length=ps.length->bindArgs fd ⟨us,[]⟩=pure (ps.zip us)):dw K fd ps []:=λs us _ a=>by
 rw[bQ]at a ⊢;exact .of_eq (h us a)
abbrev lR(CX:CXT)(X:Cx)(U4:XK):Prop:=∀(U:PNS) (L:St) (H:Hp) (s:ah) (e:Value) (s':ah),Inv X U L H s->CX X.stack H s U4 e s'->X.xe e s'
variable{ff vs:LVv}{ds:LVa}{U4:XK}
def sG{k:Nat}{s:ah}(F:b8 X.prog X.w X.K X.mg X.base CX k f fd ps sp)(hr:bo k X.A)(d:dw X.K fd ps ds)(hd:aE ff ds)(i:lR CX X U4)
 (I:Inv X U L H s)(r:aE vs us)(h:sp (vs++ff) H Q U4):wpAny (model X.prog X.w) X.A (call (.ref f) us) (EP X U L Q) X.xe s:=by
 have b:=r.append hd;have g:(us++ds).length=ps.length:=by rw[<- b.length];exact F.len _ _ _ _ h
 refine wpAny_call (j5 (F.run X.A X.stack s H ⟨us,[]⟩ _ _ Q U4 hr I.env0 (d s us I.kIn g) b h) λr s' a=>?_)
 cases r with
 |error e=>exact i U L H s e s' I a
 |ok c=>
  cases c with
  |ret u=>exact I.after a
  |next=>exact gq a
  |brk=>exact gq a
  |cont=>exact gq a
variable{x:Str}{p:Pos}
def ni{k:Nat}{t:TA}(F:b8 X.prog X.w X.K X.mg X.base CX k f fd ps sp)(hr:bo k X.A)(i:Gl X x)(hm:X.mg x=aa (.ref f))(j:e8 X.K (.ref f)=ac)(d:dw X.K fd ps ds)(hd:aE ff ds)(l:lR CX X U4)
 (ha:PA X (e::es) t)(a:NDb x:=by decide)(g:StE X e es:=by rfl)(b:BkE X pos es:=by rfl):
  PE X (.Call (.Name x p) (e::es) [] pos) (vT sp ff U4 t):=by
 intro U s L H Q I h;refine ip (vB I i hm ?_ a);exact W.callWith_K I.ok.mod.kin j (thn (ha pos U s L H _ I h) λus s1 ⟨vs,H1,c,r,q⟩=>⟨c.kIn,(sG F hr d hd l c r q)⟩) g b
variable{apos:Pos}
def vU{k:Nat}{o:Expr}{t:TA}(p:PE X o ta)(c:Cls X.K U5)(hm:px X.K U5 m f)(F:b8 X.prog X.w X.K X.mg X.base CX k f fd ps sp)(hr:bo k X.A)(n:dw X.K fd ps ds)(hd:aE ff ds)(y:lR CX X U4)(ha:PA X (e::es) t)
 (d:StE X e es:=by rfl)(b:BkE X pos es:=by rfl)
 (v:eval (.Call (.Attribute o m apos) (e::es) [] pos) X.env=(do
   let ov <- eval o X.env
   fZ apos.atName
   let (f,first) <- d7 [ov] (gy ov m pl)
   i6 pos f first (bZ pos (aL (e::es) X.env)) (gV pos (gU [] X.env))):=by rfl):
  PE X (.Call (.Attribute o m apos) (e::es) [] pos) (sF U5 m sp ff U4 ta t):=by
 intro U s L H Q I h;refine W.methodCall_KW (thn (p U s L H _ I h) λu s1 B=>?_) v;obtain⟨x,H1,g,C,a,dx,fs,ex,j,l,q⟩:=B;subst ex;obtain rfl:u=d9 a:=C;refine CP g j c hm l ?_;exact W.callWith_K I.ok.mod.kin hm.kp (thn (ha pos U s1 L H1 _ g q) λus s2 ⟨vs,H2,i,r,z⟩=>⟨i.kIn,(sG (vs:=.ref a::vs) F hr n hd y i (.cons rfl r) z)⟩) d b
def vV{k:Nat}{o:Expr}(g:PE X o ta)(c:Cls X.K U5)(hm:px X.K U5 m f)(F:b8 X.prog X.w X.K X.mg X.base CX k f fd ps sp)(hr:bo k X.A)(e:dw X.K fd ps ds)(hd:aE ff ds)(j:lR CX X U4)
 (i:eval (.Call (.Attribute o m apos) [] [] pos) X.env=(do
   let ov <- eval o X.env
   fZ apos.atName
   let (f,first) <- d7 [ov] (gy ov m pl)
   i6 pos f first (bZ pos (aL [] X.env)) (gV pos (gU [] X.env))):=by rfl):
  PE X (.Call (.Attribute o m apos) [] [] pos) (sF U5 m sp ff U4 ta gF):=by
 intro U s L H Q I h;refine W.methodCall_KW (thn (g U s L H _ I h) λu s1 n=>?_) i;obtain⟨x,H1,b,p,a,dx,fs,ex,d,l,q⟩:=n;subst ex;obtain rfl:u=d9 a:=p;exact CP b d c hm l (W.callWith_K0 b.kIn hm.kp (sG (vs:=[.ref a]) F hr e hd j b (.cons rfl .nil) q))
structure Mk(K:aO)(U5 f:Addr):Prop where
 makes:lJ K U5=ac
 init:b7 K (.ref U5) "__init__"=aa (aa (.ref f))
 fn:W.isFn K (.ref f)=ac
 kp:e8 K (.ref U5)=ac
def Kd{k:Nat}{s:ah}(U1:Mk X.K U5 f)(F:b8 X.prog X.w X.K X.mg X.base CX k f fd ps sp)(hr:bo (k+1) X.A)(l:dw X.K fd ps ds)(hd:aE ff ds)
 (n:lR CX X U4)(I:Inv X U L H s)(r:aE vs us)
 (h:∀x dx,H x=ab->H dx=ab->dx≠x->sp (.ref x::(vs++ff)) (upd (upd H dx (.own x)) x (.ins U5 dx [])) (λv H2=>v=.non/\Q (.ref x) H2) U4):
  wpAny (model X.prog X.w) X.A (call (.ref U5) us) (EP X U L Q) X.xe s:=by
 have c:=h _ s.heap.objs.size (I.hok.fresh (jt _)) (I.hok.fresh (aM _)) (bR (dq _));have b:=Inv.made (U5:=U5) I;have d:aE (V.ref _::_) (d9 (s.heap.objs.size+1)::_):=.cons rfl (r.append hd)
 have m:(d9 (s.heap.objs.size+1)::us++ds).length=ps.length:=by
  have e:=d.length;rw[F.len _ _ _ _ c]at e;exact e.symm
 refine wpAny_call (JX I.kIn U1.makes U1.init (beq_iff_eq.mp U1.fn) (j5 (F.run _ X.stack _ _ ⟨d9 _::us,[]⟩ _ _ _ U4 (hr.make U5 us [])
  (b.env0.make U5 us []) (l _ _ b.kIn m) d c) λr s' a=>?_))
 cases r with
 |error e=>exact n U L _ _ e s' b a
 |ok j=>
  cases j with
  |ret u=>
   obtain⟨v,H',g,q,i,p⟩:=b.after a;subst i
   exact⟨q,⟨V.ref _,H',g,rfl,p⟩⟩
  |next=>exact gq a
  |brk=>exact gq a
  |cont=>exact gq a
def CW{k:Nat}{t:TA}(U1:Mk X.K U5 f)(F:b8 X.prog X.w X.K X.mg X.base CX k f fd ps sp)(hr:bo (k+1) X.A)(i:Gl X x)(hm:X.mg x=aa (.ref U5))(d:dw X.K fd ps ds)(hd:aE ff ds)(j:lR CX X U4)
 (ha:PA X (e::es) t)(a:NDb x:=by decide)(g:StE X e es:=by rfl)(b:BkE X pos es:=by rfl):
  PE X (.Call (.Name x p) (e::es) [] pos) (CV U5 sp ff U4 t):=by
 intro U s L H Q I h;refine ip (vB I i hm ?_ a);exact W.callWith_K I.ok.mod.kin U1.kp (thn (ha pos U s L H _ I h) λus s1 ⟨vs,H1,c,r,q⟩=>⟨c.kIn,(Kd U1 F hr d hd j c r q)⟩) g b
structure aA(N P:LSt)(sc:Scope):Prop where
 kind:sc.kind=.function
 co:sc.isCoroutine=ag
 gen:sc.isGenerator=ag
 nd:N.Nodup
 pre:N.take P.length=P
 par:∀x∈P,sc.names.lookup x=aa .local\/sc.names.lookup x=aa .cell
 nofree:∀y∈sc.names,y.2≠.free
def CY{kindOf:Str->Option fJ}{x:Str}:∀{binds:List (Str×Value)} {m:MGT},(∀v,(x,v)∉binds)->bindL kindOf binds m x=m x
 | [],_,_=>rfl
 |(n,v)::r,m,h=>by
  unfold bindL;rw[CY λw a=>h w (bj _ a)];split
  .grind
  .rfl
def CZ{kindOf:Str->Option fJ}{x:Str}:∀{binds:List (Str×Value)} {m:MGT},(∀v,(x,v)∉binds)->bindC kindOf binds m x=m x
 | [],_,_=>rfl
 |(n,v)::r,m,h=>by
  unfold bindC;rw[CZ λw a=>h w (bj _ a)];split
  .rfl
  .grind
def C0{kindOf:Str->Option fJ}{x:Str}{v:Value}:∀{P:LSt} {vs:LVa} {i:Nat} {m:MGT},P.Nodup->P[i]?=aa x->vs[i]?=aa v->kindOf x=aa .local ->
  bindL kindOf (P.zip vs) m x=aa v
 | [],_,_,_,_,h,_,_=>by simp at h
 | _::_,[],_,_,_,_,h,_=>by simp at h
 |p::P,w::vs,0,m,nd,h1,h2,hk=>by
  simp at h1 h2;subst h1;subst h2;show bindL kindOf (_::P.zip vs) m p=_;dsimp only[bindL];rw[CY λv hv=>(bX.mp nd).1 (of_mem_zip hv).1,if_pos hk]
  simp
 |p::P,w::vs,i+1,m,nd,h1,h2,hk=>by
  show bindL kindOf (_::P.zip vs) m x=_;exact C0 (bX.mp nd).2 (by simpa using h1) (by simpa using h2) hk
def C3{kindOf:Str->Option fJ}{x:Str}{v:Value}:∀{P:LSt} {vs:LVa} {i:Nat} {m:MGT},P.Nodup->P[i]?=aa x->vs[i]?=aa v->kindOf x≠aa .local ->
  bindC kindOf (P.zip vs) m x=aa v
 | [],_,_,_,_,h,_,_=>by simp at h
 | _::_,[],_,_,_,_,h,_=>by simp at h
 |p::P,w::vs,0,m,nd,h1,h2,hk=>by
  simp at h1 h2;subst h1;subst h2;show bindC kindOf (_::P.zip vs) m p=_;dsimp only[bindC];rw[CZ λv hv=>(bX.mp nd).1 (of_mem_zip hv).1,if_neg hk]
  simp
 |p::P,w::vs,i+1,m,nd,h1,h2,hk=>by
  show bindC kindOf (_::P.zip vs) m x=_;exact C3 (bX.mp nd).2 (by simpa using h1) (by simpa using h2) hk
abbrev start(N:LSt)(vs:LVv):St:=vs.map aa++ik (N.length-vs.length) ab
abbrev g4(CX:CXT)(P:bY)(w:World)(K:aO)(mg:MGT)(base:Heap)(N:LSt)(qual:Str)(scope:Scope)(f:Addr)(cd:Value)(A:bW)(outer:List Env)(s:ah)(H:Hp)(U4:XK):Cx where
 prog:=P
 w:=w
 K:=K
 mg:=mg
 base:=base
 A:=A.deeper (fH qual scope s.heap.objs.size f cd)
 N:=N
 s₀:=s
 H₀:=H
 env:=fH qual scope s.heap.objs.size f cd
 outer:=outer
 stack:=fH qual scope s.heap.objs.size f cd::outer
 ex:=[]
 calm:=ac
 fn:=λ_=>ac
 pn:=[]
 xe:=λe s'=>wpAny (model P w) (A.deeper (fH qual scope s.heap.objs.size f cd)) (leaving (fH qual scope s.heap.objs.size f cd) e) (λ_ s''=>CX outer H s U4 e s'') (λe' s''=>CX outer H s U4 e' s'') s'
variable{n:Nat}
def C4{sc:Scope}(h:sc.names.lookup x=aa .cell):∃c,(cellsFrom n sc.names []).lookup x=aa c:=by
 exact u9.mp (W.cellsFrom_some sc.names n [] (.inl h))
variable{qual:Str}{scope:Scope}
def Ke{m:Value}{s s1:ah}
 (S:aA N ps scope)(hd:A.handled=ab)(e0:lQ P w K mg base A outer s H)(I:vs.length=ps.length)(r:aE vs us)
 (x:InCallC s s.heap.objs.size (bindL (fH qual scope s.heap.objs.size f m).kindOf (ps.zip us) λ_=>ab) (cellsFrom (s.heap.objs.size+1) scope.names []) (bindC (fH qual scope s.heap.objs.size f m).kindOf (ps.zip us) λ_=>ab) s1):
  Inv (g4 CX P w K mg base N qual scope f m A outer s H U4) [] (start N vs) H s1:=by
 have C:ps.length<=N.length:=by have:=congrArg List.length S.pre;rw[length_take]at this;lia
 obtain⟨h1,J,rfl,n⟩:=x.done;have g:∀b:Addr,b∉(g4 CX P w K mg base N qual scope f m A outer s H U4).ex:=λb z=>absurd (show b∈([]:LAd)from z) (by simp)
 refine⟨⟨e0.mod,S.kind,rfl,rfl,aM _,λy z c h1 h2=>?_,λy d=>?_,λy c _ h=>?_,λ_=>hd,bW.frames_deeper e0.frames,.inr ⟨rfl,rfl⟩,λb z=>absurd z (g b),e0.bs,e0.bsz,λb _ _=>g b,λb z=>absurd z (g b),e0.funs,e0.frf⟩,
  rfl,e0.bare,Un.kept n,⟨_,x.toInCall.ns,λi y v h1 h2 G=>?_⟩,λy c h=>⟨_,x.cell y c h⟩,e0.hok.fresh (aM _),λy c h=>?_,λp j=>absurd (show p∈([]:List _)from j) (by simp),e0.hok.kept n,?_⟩
 .exact name_of_addr x.apart (oX h1) (oX h2)
 .have d:=d
  rcases d with d |d
  .exact C4 d
  .exact absurd rfl (S.nofree _ (oX d))
 .exact eM (x.above y c (oX h))
 .have hi:i<vs.length:=by
   unfold start at h2
   by_cases hi:i<vs.length
   .exact hi
   .rw[mJ (by simpa using hi)]at h2;rw[rH]at h2
    split at h2 <;> nomatch h2
  have ha:vs[i]?=aa v:=by
   unfold start at h2;rw[lj (by simpa using hi),cu]at h2
   cases e:vs[i]? with
   |none=>rw[e]at h2;nomatch h2
   |some a=>rw[e]at h2;cases h2;rfl
  obtain⟨u,B,E⟩:=r.get ha
  have j:ps[i]?=aa y:=by
   rw[<- S.pre,List.getElem?_take_of_lt (by lia)];exact h1
  have l:ps.Nodup:=by rw[<- S.pre];exact S.nd.sublist (take_sublist _ _)
  refine⟨u,E,?_⟩
  rcases S.par y (dF j)with k |k
  .exact .inl ⟨k,C0 l j B k⟩
  .obtain⟨c,e⟩:=C4 k;refine .inr ⟨.inl k,c,e,?_⟩;have q:=x.cell y c e;rw[C3 l j B (by show scope.names.lookup y≠_;rw[k];decide)]at q;exact q
 .exact e0.hok.fresh (eM (x.above y c (oX h)))
 .unfold start;show _=N.length;rw[aR,aB,mK]
  lia
variable{an od:Option Addr}{osl:Array (Option Value)}
def C5{k:Nat}{params:Arguments}{dV kV doc pm cdv ct oc:Value}
  (E:K.lookup f=aa ⟨oc,od,.func (iB name qual params body scope dV kV doc pm an cdv ct),osl⟩)(h:W.codeIn K cdv qual=ac)(S:aA N ps scope)
 (len:∀vs H Q U4,sp vs H Q U4->vs.length=ps.length)
 (a:∀ (A:bW) (outer:List Env) (s:ah) (H:Hp) (vs:LVv) (Q:VK) (U4:XK),bo k (A.deeper (fH qual scope s.heap.objs.size f cdv))->sp vs H Q U4 ->
   ∃t,PSs (g4 CX P w K mg base N qual scope f cdv A outer s H U4) body t/\t {nx:=λ_ H'=>Q .non H',rt:=Q} (start N vs) H):
  b8 P w K mg base CX (k+1) f (iB name qual params body scope dV kV doc pm an cdv ct) ps sp:=by
 refine⟨len,λA outer s H args us vs Q U4 hr e0 m r g=>?_⟩;have j:=e0.mod.kin.keeps λb o e=>(e0.bs b o e).1
 have c:∀y∈ps.zip us,scope.names.lookup y.1=aa .local\/(scope.names.lookup y.1=aa .cell/\((cellsFrom (s.heap.objs.size+1) scope.names []).lookup y.1).isSome=ac):=λ⟨n,v⟩ C=>by
  rcases S.par n (of_mem_zip C).1 with q |q
  .exact .inl q
  .exact .inr ⟨q,W.cellsFrom_some _ _ _ (.inl q)⟩
 refine codeAny_call_function hr.depth (j _ _ E) rfl S.co S.gen rfl (W.codeRec_of j h) (m _ _ _ _ ?_);refine wpAny_newFunctionEnv_cells S.kind c λenv p s1 x=>?_;subst p;refine⟨(e0.mod.nolimit.keeps λb o e=>(e0.bs b o e).1).keeps x.toInCall.keep,codeAny_func ?_⟩;obtain⟨t,B,z⟩:=a A outer s H vs Q U4 (hr.deeper _) g;have I:Inv (g4 CX P w K mg base N qual scope f cdv A outer s H U4) [] _ H s1:=Ke S hr.hd e0 (len _ _ _ _ g) r x;refine eX (B [] s1 _ H _ I z) (λl s' d=>?_) λe s' d=>d
 have fin:∀{σ':St} {H':Hp} {v:V} {u:Value},Inv (g4 CX P w K mg base N qual scope f cdv A outer s H U4) [] σ' H' s'->az v u->Q v H'->CE outer P w H s Q u s':=
  λ{σ' H' v u} J i q=>⟨v,H',J.os,J.bare,J.base,J.hok,i,q⟩
 cases l with
 |ret u=>
  obtain⟨v,σ',H',J,i,q⟩:=d
  exact fin J i q
 |next=>
  obtain⟨σ',H',J,q⟩:=d
  exact fin (v:=V.non) J rfl q
 |brk=>
  obtain⟨_,_,_,q⟩:=d
  exact gq q
 |cont=>
  obtain⟨_,_,_,q⟩:=d;exact gq q
abbrev tCB(r:LVv->Hp->VK->Prop)(t:TA):TE:=λL H Q=>t L H λvs H1=>r vs H1 Q
variable{r:LVv->Hp->VK->Prop}
def vW{t:TA}{id:String}(d:gZ X (.builtin id) r)(g:Gl X x)(hm:X.mg x=ab)(hv:iu x=aa (.builtin id))(ha:PA X (e::es) t)(hn:x ≠ "__name__":=by decide)(a:NDb x:=by decide)
 (f:StE X e es:=by rfl)(b:BkE X pos es:=by rfl):PE X (.Call (.Name x p) (e::es) [] pos) (tCB r t):=by
 intro U s L H Q I h;exact ip (gC I g hm hv (va (thn (ha pos U s L H _ I h) λus s1 ⟨vs,H1,c,j,i⟩=>d U s1 L H1 vs us Q c j i) f b) hn a)
variable{T:String}
def Kf{t:TA}(d:gZ X (.type T) r)(g:Gl X x)(hm:X.mg x=ab)(hv:iu x=aa (.type T))(ha:PA X (e::es) t)(hn:x ≠ "__name__":=by decide)(a:NDb x:=by decide)
 (f:StE X e es:=by rfl)(b:BkE X pos es:=by rfl):PE X (.Call (.Name x p) (e::es) [] pos) (tCB r t):=by
 intro U s L H Q I h;exact ip (gC I g hm hv (ju (thn (ha pos U s L H _ I h) λus s1 ⟨vs,H1,c,j,i⟩=>d U s1 L H1 vs us Q c j i) f b) hn a)
end L2
namespace HT
open List
open PySem PyProof.Rows
open PySem.SeqAt
open PySem.AutoSeq1 (wpAny_loadPart')
open PySem.MeetsSeq PySem.MeetsSeq2 PySem.MeetsSeq3
abbrev sIx(n d:Nat):Option Int->Nat
 |none=>d
 |some v=>if v<0 then (v+(n:Int)).toNat else min v.toNat n
def sIx_none(n d:Nat):sIx n d ab=d:=rfl
def sIx_nat(n d k:Nat):sIx n d (aa (k:Int))=min k n:=by rfl
end HT
namespace L2
open List
open PySem PySem.Spec PyProof.Rows
nonrec def TO:=St->Hp->(Option Int->Hp->Prop)->Prop
abbrev PO(X:Cx)(e:Option Expr)(t:TO):Prop:=
 ∀(U:PNS) (s:ah) (L:St) (H:Hp) (Q:Option Int->Hp->Prop),Inv X U L H s->t L H Q ->
  wpAny (model X.prog X.w) X.A (evalPart e X.env) (λu a=>∃o H',Inv X U L H' a/\IsPart u o/\Q o H') X.xe s
abbrev Kg:TO:=λ_ H Q=>Q ab H
abbrev Kh(t:TE):TO:=λL H Q=>t L H λx a=>∃i,x=.int i/\Q (aa i) a
variable{ns:LI0}
def Ki:∀{us:LVa},aE (ns.map V.int) us->fG us ns:=by
 induction ns with
 |nil=>intro us r;rw[map_nil]at r;cases r;exact .nil
 |cons n ns a=>
  intro us r
  cases r with
  |cons b c=>
   obtain⟨t,e⟩:=b;subst e;exact .cons n t (a c)
variable{X:Cx}
def Kj:PO X ab Kg:=by
 intro U s L H Q I h;exact aC ⟨ab,H,I,.none,h⟩
variable{e:Expr}{te:TE}
def Kk(h:PE X e te):PO X (aa e) (Kh te):=by
 intro U s L H Q I c;refine thn (h U s L H _ I c) λu s1 f=>?_;obtain⟨x,a,b,g,d⟩:=f;obtain⟨i,rfl,q⟩:=d;obtain⟨t,rfl⟩:=g;exact⟨aa i,a,b,.int i t,q⟩
variable{lo hi:Option Expr}
abbrev SlR(X:Cx)(r:V->Option Int->Option Int->Hp->VK->Prop):Prop:=
 ∀(U:PNS) (s:ah) (L:St) (H:Hp) (x:V) (v vl a:Value) (lo hi:Option Int) (sl:Addr) (Q:VK),Inv X U L H s->az x v->s.heap.IsSliceOf sl vl a .none->IsPart vl lo->IsPart a hi->r x lo hi H Q ->
  ∃T id,lD (.type T) "__getitem__"=pure (aa (.builtin id))/\s.TypeIs v T/\wpAny (model X.prog X.w) X.A (getItem v (.ref sl)) (EP X U L Q) X.xe s
abbrev tSl(r:V->Option Int->Option Int->Hp->VK->Prop)(te:TE)(tl d:TO):TE:=λL H Q=>te L H λx a=>tl L a λl b=>d L b λu c=>r x l u c Q
variable{tl th:TO}{pos p2:Pos}
def Kl{r:V->Option Int->Option Int->Hp->VK->Prop}(hr:SlR X r)(y:PE X e te)(A:PO X lo tl)(C:PO X hi th):PE X (.Subscript e (.Slice lo hi ab p2) pos) (tSl r te tl th):=by
 intro U s L H Q I h;refine Subscript_ (thn (y U s L H _ I h) λv s1 c=>?_);obtain⟨x,g,j,Y,J⟩:=c;refine wpAny_Slice (thn (A U s1 L g _ j J) λvl s2 ⟨l,i,m,E,M⟩=>thn (C U s2 L i _ m M) λd a c=>?_);obtain⟨u,f,n,G,N⟩:=c;refine aC ?_
 have p:Inv X U L f {a with heap:=a.heap.push {cls:=.type "slice",data:=.fields #[vl,d,.none]}}:=n.kept λb ob q=>bu _ q
 obtain⟨T,id,w,B,z⟩:=hr U {a with heap:=a.heap.push {cls:=.type "slice",data:=.fields #[vl,d,.none]}} L f x v vl d l u a.heap.objs.size Q p Y (Heap.IsSliceOf.new ..) E G N
 exact tail_any B w z (by with_unfolding_all rfl)
abbrev py(B:LVv)(lo hi:Option Int):LVv:=(B.drop (HT.sIx B.length 0 lo)).take (HT.sIx B.length B.length hi-HT.sIx B.length 0 lo)
def Km(B:LVv)(lo hi:Option Int):(py B lo hi).length<=B.length:=by
 unfold py;rw[length_take,length_drop]
 lia
abbrev ixN(n:Nat)(i:Int):Option Nat:=if 0<=i then (if i<n then aa i.toNat else ab) else if -(n:Int)<=i then aa (i+n).toNat else ab
abbrev atI{a:Type}(B:List a)(i:Int):Option a:=(ixN B.length i).bind λj=>B[j]?
variable{n j:Nat}{i:Int}
def C6(h:ixN n i=aa j):seqIndex? i n=aa j/\j<n/\-(n:Int)<=i/\i<n:=by
 unfold ixN at h
 by_cases b:0<=i
 .rw[if_pos b]at h
  by_cases a:i<n
  .rw[if_pos a]at h;have e:=cW h;exact⟨by rw[seqIndex_of b a,e],by lia,by lia,a⟩
  .rw[if_neg a]at h;nomatch h
 .rw[if_neg b]at h
  by_cases a:-n<=i
  .rw[if_pos a]at h;have e:=cW h;exact⟨by rw[seqIndex_neg (by lia) a,e],by lia,a,by lia⟩
  .rw[if_neg a]at h;nomatch h
def C7{a:Type}{B:List a}{v:a}(h:atI B i=aa v):∃j,seqIndex? i B.length=aa j/\B[j]?=aa v/\j<B.length/\-(B.length:Int)<=i/\i<B.length:=by
 unfold atI at h
 cases e:ixN B.length i with
 |none=>rw[e]at h;nomatch h
 |some j=>
  rw[e]at h;obtain⟨b,h2,c,d⟩:=C6 e;exact⟨j,b,h,h2,c,d⟩
def Kn{a:Type}{B:List a}{v:a}(h:B[j]?=aa v):atI B (j:Int)=aa v:=by
 have b:=(cR.mp h).1
 have e:ixN B.length j=aa j:=by
  unfold ixN;rw[if_pos (by lia),if_pos (by lia)];simp
 unfold atI;rw[e];exact h
abbrev C8(b:Expr):Prop:=∀o i,subscripted b ag o i=operate [o,i] (getItem o i)
abbrev IxR(X:Cx)(r:R2):Prop:=
 ∀(value a:Expr) (U:PNS) (s:ah) (L:St) (H:Hp) (x y:V) (v u:Value) (Q:VK),Inv X U L H s->az x v->az y u->r x y H Q ->
  subscripted a ag v u=operate [v,u] (getItem v u)->wpAny (model X.prog X.w) X.A (subscriptTail value a v u) (EP X U L Q) X.xe s
abbrev MtR(X:Cx)(id:String)(r:V->LVv->Hp->VK->Prop):Prop:=
 ∀(U:PNS) (s:ah) (L:St) (H:Hp) (x:V) (B:LVv) (v:Value) (us:LVa) (Q:VK),Inv X U L H s->az x v->aE B us->r x B H Q ->
  wpAny (model X.prog X.w) X.A (call (.builtin id) (v::us)) (EP X U L Q) X.xe s
variable{r r':R2}
def IxR.or(h:IxR X r)(h':IxR X r'):IxR X (λx y H Q=>r x y H Q\/r' x y H Q):=by
 intro value a U s L H x y v u Q I c d q b
 rcases q with q |q
 .exact h value a U s L H x y v u Q I c d q b
 .exact h' value a U s L H x y v u Q I c d q b
variable{a b:Expr}{ta tb:TE}
def Ko(hr:IxR X r)(ha:PE X a ta)(e:PE X b tb)(f:C8 b):PE X (.Subscript a b pos) (tOp r ta tb):=by
 intro U s L H Q I h;exact Subscript_ (vL ha e I h λv u s2 x y c d g i q=>hr a b U s2 L c x y v u Q d g i q (f _ _))
abbrev Kq(K:aO):R2:=λx y H Q=>∃p B i v,x=.ref p/\y=.int i/\SqL K H p B/\atI B i=aa v/\Q v H
abbrev Kr(K:aO):R2:=λx y H Q=>∃p B i v,x=.ref p/\y=.int i/\SqT K H p B/\atI B i=aa v/\Q v H
def Ks:IxR X (Kq X.K):=by
 intro value e U s L H x y v u Q I J M h l;obtain⟨p,B,i,z,rfl,rfl,G,A,q⟩:=h;subst J;obtain⟨t,rfl⟩:=M;obtain⟨E,r,c,hz⟩:=I.list G;obtain⟨j,a,h2,N,m,n⟩:=C7 A;obtain⟨w,f,d⟩:=r.get h2;have C:=r.length;have hn:=pq;have fin:EP X U L Q w s:=⟨z,H,I,d,q⟩
 by_cases g:0<=i
 .have b:i.toNat=j:=by
   rw[seqIndex_of g n]at a;exact cW a
  exact item_listR c.isList g (by lia) (by rw[b];simpa using f) fin l
 .have b:(i+E.toArray.size).toNat=j:=by
   rw[seqIndex_neg (by lia) m]at a;rw[size_toArray,<- C];exact cW a
  exact subscriptTail_builtinR c.isList.typeIs slot_list_getitem.lookup
   (wpAny_getItem_list_neg c.isList (by lia) (by rw[size_toArray] <;> lia) (by lia) (by rw[b];simpa using f) ⟨rfl,fin⟩) l
def Kt:IxR X (Kr X.K):=by
 intro value b U s L H x y v u Q I m n h l;obtain⟨p,B,i,z,rfl,rfl,g,f,q⟩:=h;subst m;obtain⟨t,rfl⟩:=n;obtain⟨E,r,c,hz⟩:=I.tuple g;obtain⟨j,e,h2,A,C,G⟩:=C7 f;obtain⟨w,d,a⟩:=r.get h2;have hn:=pq;have fin:EP X U L Q w s:=⟨z,H,I,a,q⟩
 exact subscriptTail_builtinR c.typeIs slot_tuple_getitem.lookup
  (getItem_tuple c (by lia) (by lia) (by rw[size_toArray,<- r.length];exact e) (by simpa using d) ⟨rfl,fin⟩) l
def Ku(E:LVa)(n j:Nat)(u:Value):gB (·.setIfInBounds j u) {cls:=.type "list",data:=.seq E.toArray n}={cls:=.type "list",data:=.seq (E.set j u).toArray n}:=by
 simp[gB]
variable{U:PNS}{L:St}{H:Hp}{p:Addr}{B:LVv}
def Inv.lst{s:ah}(I:Inv X U L H s)(h:H p=aa (.lst B)):
  ∃(E:LVa) (n:Nat),aE B E/\s.heap.get? p=aa {cls:=.type "list",data:=.seq E.toArray n}/\B.length<=aP:=by
 obtain⟨z,E,n,r,e⟩:=I.hok p _ h;exact⟨E,n,r,e,z⟩
variable{ys:LVv}{E dy:LVa}{n':Nat}
def Inv.lstUpd{s:ah}{f:Obj->Obj}(I:Inv X U L H s)(h:H p=aa (.lst B))
 (d:s.heap.get? p=aa {cls:=.type "list",data:=.seq E.toArray n})(a:f {cls:=.type "list",data:=.seq E.toArray n}={cls:=.type "list",data:=.seq dy.toArray n'})(r:aE ys dy)(hz:ys.length<=aP)(t:Nat):
  Inv X U L (upd H p (.lst ys)) {s with heap:=s.heap.update p f,toks:=t}:=by
 have e:(s.heap.update p f).get? p=aa {cls:=.type "list",data:=.seq dy.toArray n'}:=by
  rw[mY f d (by rw[a] <;> rfl),a]
 exact I.write (by rw[h];trivial) (.inl rfl) (λb u c q=>(mW _ _ (d5 c)).trans q) ⟨_,e⟩ ⟨hz,dy,n',r,e⟩
abbrev vX:V->V->V->Hp->(Hp->Prop)->Prop:=λo i v H Q=>∃p B k j,o=.ref p/\i=.int k/\H p=aa (.lst B)/\ixN B.length k=aa j/\Q (upd H p (.lst (B.set j v)))
def vY:CD X vX:=by
 intro U s L H o i v C A u Q I y x z h;obtain⟨p,B,k,j,rfl,rfl,m,w,q⟩:=h;subst y;obtain⟨t,rfl⟩:=x;obtain⟨E,n,r,d,hz⟩:=I.lst m;obtain⟨a,h2,g,l⟩:=C6 w;have c:=r.length;have hn:=pq
 have e:Inv X U L _ {s with heap:=s.heap.update p _}:=
  I.lstUpd m d (Ku E n j u) (r.set z j) (by rw[il];exact hz) s.toks
 by_cases f:0<=k
 .have b:k.toNat=j:=by
   rw[seqIndex_of f l]at a;exact cW a
  exact W.ki_setAt d f (by lia) (by rw[size_toArray,<- c];exact l) (by rw[b];exact⟨_,e,q⟩)
 .have b:(k+E.toArray.size).toNat=j:=by
   rw[seqIndex_neg (by lia) g]at a;rw[size_toArray,<- c];exact cW a
  exact W.ki_setBack d (by lia) (by rw[size_toArray,<- c];exact g) (by lia) (by rw[b];exact⟨_,e,q⟩)
def Kv(lo hi:Option Int)(n:Nat):(lC lo hi ab n).1=((HT.sIx n 0 lo:Nat):Int)/\(lC lo hi ab n).2.1=((HT.sIx n n hi:Nat):Int)/\(lC lo hi ab n).2.2=1:=by
 refine⟨?_,?_,rfl⟩
 .cases lo with
  |none=>simp[lC,HT.sIx]
  |some i=>
   simp only[lC,HT.sIx,Option.getD_none]
   grind
 .cases hi with
  |none=>simp[lC,HT.sIx]
  |some i=>
   simp only[lC,HT.sIx,Option.getD_none]
   grind
def Kw(E:LVa)(lo hi:Option Int):slicePick E.toArray lo hi ab=((E.drop (HT.sIx E.length 0 lo)).take (HT.sIx E.length E.length hi-HT.sIx E.length 0 lo)).toArray:=by
 obtain⟨a,h2,b⟩:=Kv lo hi E.toArray.size;unfold slicePick;simp only[a,h2,b]
 simp only[sliceRange_one,pick_run] <;> rfl
abbrev Kx(K:aO):V->Option Int->Option Int->Hp->VK->Prop:=λx lo hi H Q=>∃a B,x=.ref a/\SqL K H a B/\∀p,H p=ab->Q (.ref p) (upd H p (.lst (py B lo hi)))
def Ky:SlR X (Kx X.K):=by
 intro U s L H x v vl m lo hi sl Q I j e g i h;obtain⟨a,B,rfl,f,q⟩:=h;subst j;obtain⟨E,r,d,hz⟩:=I.list f;have c:=r.length;refine⟨"list",_,slot_list_getitem.lookup,d.isList.typeIs,?_⟩
 refine wpAny_getItem_list_slice d.isList e g i .none (by simp) ?_ (by rw[size_toArray] <;> lia)
 rw[Kw,<- c];refine⟨.ref s.heap.objs.size,_,I.laid (λb l q=>bu _ q) (aM _) ?_,rfl,q _ (I.hok.fresh (aM _))⟩;exact⟨cy (Km B lo hi) hz,_,0,(r.drop _).take _,cA _ rfl⟩
abbrev e9:V->Bool
 |.non=>ac
 |.bl _=>ac
 |.int _=>ac
 |.str _=>ac
 | _=>ag
abbrev eqV:V->V->Bool
 |.non,.non=>ac
 |.bl a,.bl b=>a==b
 |.bl a,.int b=>(if a then 1 else 0)==b
 |.int a,.bl b=>a==(if b then 1 else 0)
 |.int a,.int b=>a==b
 |.str a,.str b=>a==b
 | _,_=>ag
variable{A:bW}{y x:V}{u v:Value}
def C9{s:ah}(e:az y u)(c:az x v)(f:e9 y=ac)(d:e9 x=ac):ca A s u v (eqV y x):=by
 cases y with
 |non=>
  cases e
  cases x with
  |non=>subst c;exact vt _
  |bl b=>subst c;exact ca.none_bool b
  |int b=>obtain⟨t,rfl⟩:=c;exact ca.none_int b t
  |str b=>obtain⟨t,rfl⟩:=c;exact ca.none_str b t
  | _=>exact absurd (d) bx
 |bl a=>
  subst e
  cases x with
  |non=>subst c;exact ca.bool_none a
  |bl b=>subst c;exact ca.bool_bool a b
  |int b=>obtain⟨t,rfl⟩:=c;exact ca.bool_int a b t
  |str b=>obtain⟨t,rfl⟩:=c;exact ca.bool_str a b t
  | _=>exact absurd (d) bx
 |int a=>
  obtain⟨t',rfl⟩:=e
  cases x with
  |non=>subst c;exact ca.int_none a t'
  |bl b=>subst c;exact ca.int_bool a t' b
  |int b=>obtain⟨t,rfl⟩:=c;exact ca.int_int a t' b t
  |str b=>obtain⟨t,rfl⟩:=c;exact vp a t' b t
  | _=>exact absurd (d) bx
 |str a=>
  obtain⟨t',rfl⟩:=e
  cases x with
  |non=>subst c;exact ca.str_none a t'
  |bl b=>subst c;exact ca.str_bool a t' b
  |int b=>obtain⟨t,rfl⟩:=c;exact vq a t' b t
  |str b=>obtain⟨t,rfl⟩:=c;exact ca.str_str a t' b t
  | _=>exact absurd (d) bx
 | _=>exact absurd (f) bx
abbrev eqU(x:V)(u:Value):Bool:=match u with
 |.none=>eqV .non x
 |.bool b=>eqV (.bl b) x
 |.int i _=>eqV (.int i) x
 |.str z _=>eqV (.str z) x
 | _=>ag
def Da(r:az y u)(f:e9 y=ac):eqU x u=eqV y x:=by
 cases y with
 |non=>subst r;rfl
 |bl b=>subst r;rfl
 |int i=>obtain⟨t,rfl⟩:=r;rfl
 |str z=>obtain⟨t,rfl⟩:=r;rfl
 | _=>exact absurd (f) bx
def vZ{x:V}:∀{B:LVv} {us:LVa},aE B us->B.all e9=ac->us.any (eqU x)=B.any λy=>eqV y x
 | _,_,.nil,_=>rfl
 |y::B,u::us,.cons r t,f=>by
  simp only[lx,cD]at f;simp only[fY,fY,Da r f.1,vZ t f.2]
def v8{A:bW}{s:ah}{x:V}{v:Value}(c:az x v)(b:e9 x=ac):∀{B:LVv} {us:LVa},aE B us->B.all e9=ac->∀u∈us,ca A s u v (eqU x u)
 | _,_,.nil,_=>λu a=>by nomatch a
 |y::B,u::us,.cons r t,f=>λd a=>by
  simp only[lx,cD]at f
  rcases bm.mp a with rfl |a
  .rw[Da r f.1];exact C9 r c f.1 b
  .exact v8 c b t f.2 d a
abbrev inV(x:V)(B:LVv):Bool:=B.any λy=>eqV y x
abbrev rIn(K:aO)(neg:Bool):R2:=λx y H Q=>∃p B,y=.ref p/\(SqL K H p B\/SqT K H p B)/\e9 x=ac/\B.all e9=ac/\Q (.bl (if neg then !inV x B else inV x B)) H
def Kz:OpR X (cE .NotIn) (rIn X.K ac):=by
 intro U s L H x y v u Q I d f h;obtain⟨p,B,rfl,a,c,fs,q⟩:=h;subst f
 rcases a with a |a
 .obtain⟨E,r,b,hz⟩:=I.list a;refine SeqAt.notIn_listAt _ b.isList (λw e=>v8 d c r fs w (by grind)) ⟨.bl _,H,I,rfl,?_⟩;rw[show E.toArray.any _=E.any (eqU x) by simp,vZ r fs];exact q
 .obtain⟨E,r,b,hz⟩:=I.tuple a;refine SeqAt.notIn_tupleAt _ b (λw e=>v8 d c r fs w (by grind)) ⟨.bl _,H,I,rfl,?_⟩;rw[show E.toArray.any _=E.any (eqU x) by simp,vZ r fs];exact q
def KA:gZ X (.builtin "len") (λB H Q=>∃p ys,B=[.ref p]/\(SqL X.K H p ys\/SqT X.K H p ys)/\Q (.int ys.length) H):=by
 intro U s L H B us Q I r h;obtain⟨p,ys,rfl,b,q⟩:=h;obtain⟨u,rfl,d⟩:=lO r;subst d;have hn:=pq
 rcases b with b |b
 .obtain⟨E,r',c,hz⟩:=I.list b;have a:=r'.length;exact Calls.call_len_list c.isList (by grind) ⟨.int ys.length,H,I.tok _,⟨s.toks+1,by rw[size_toArray,a]⟩,q⟩
 .obtain⟨E,r',c,hz⟩:=I.tuple b;have a:=r'.length;exact len_tuple c (by grind) ⟨.int ys.length,H,I.tok _,⟨s.toks+1,by rw[size_toArray,a]⟩,q⟩
def KB:gZ X (.builtin "len") (λB H Q=>∃z,B=[.str z]/\z.length<=aP/\Q (.int z.length) H):=by
 intro U s L H B us Q I r h;obtain⟨z,rfl,hz,q⟩:=h;obtain⟨u,rfl,t,rfl⟩:=lO r;have hn:=pq;exact len_str (by lia) ⟨.int z.length,H,I.tok _,⟨_,rfl⟩,q⟩
def KC:gZ X (.type "list") (λB H Q=>∃p ys,B=[.ref p]/\(SqL X.K H p ys\/SqT X.K H p ys)/\∀l,H l=ab->Q (.ref l) (upd H l (.lst ys))):=by
 intro U s L H B us Q I r h;obtain⟨p,ys,rfl,c,q⟩:=h;obtain⟨u,rfl,i⟩:=lO r;subst i
 have fin:∀E,aE ys E->ys.length<=aP->∀h' a,_ ->
   h'.get? s.heap.objs.size=aa {cls:=.type "list",dict:=ab,data:=.seq E.toArray a,slots:=#[]}->EP X U L Q _ {s with heap:=h'}:=λE r' hz h' a kp e=>
  ⟨.ref s.heap.objs.size,_,I.laid kp (aM _) (show dG X.prog X.w _ h' _ (.lst ys)from⟨hz,E,a,r',e⟩),rfl,q _ (I.hok.fresh (aM _))⟩
 rcases c with c |c
 .obtain⟨E,r',g,hz⟩:=I.list c;have b:=r'.length;obtain⟨o,f,d,n,hd⟩:=g.isList;exact call_list_seq p (.inl rfl) f d hd (λh' a kp e=>fin E r' hz h' a kp e) (by grind)
 .obtain⟨E,r',g,hz⟩:=I.tuple c;have b:=r'.length;obtain⟨o,f,d,n,hd⟩:=g;exact call_list_seq p (.inr rfl) f d hd (λh' a kp e=>fin E r' hz h' a kp e) (by grind)
abbrev tyV(K:aO)(T:String)(x:V)(H:Hp):Prop:=match x with
 |.str _=>T="str"
 |.int _=>T="int"
 |.ref p=>(T="list" /\ ∃B,SqL K H p B)\/(T="tuple" /\ ∃o,K.lookup p=aa o/\o.cls=.type "tuple" /\ o.dict=ab) \/
   (T="dict" /\ ((∃kvs,H p=aa (.dK kvs))\/∃kvs,H p=aa (.dT kvs)))\/(T="set" /\ ∃S n,H p=aa (.set S n))
 | _=>False
variable{T:String}
def KD{s:ah}(I:Inv X U L H s)(r:az x v)(ty:tyV X.K T x H):
  s.TypeIs v T/\∀a,v=.ref a->∃f,s.heap.get? a=aa f/\f.dict=ab:=by
 cases x with
 |str z=>
  obtain⟨t,rfl⟩:=r;cases (ty)
  exact⟨typeIs_str s z t,λ_ e=>nomatch e⟩
 |int i=>
  obtain⟨t,rfl⟩:=r;cases (ty)
  exact⟨typeIs_int s i t,λ_ e=>nomatch e⟩
 |ref p=>
  subst r
  rcases ty with⟨rfl,B,j⟩ |⟨rfl,o,b,h,hd⟩ |⟨rfl,b⟩ |⟨rfl,S,n,b⟩
  .obtain⟨E,_,g,_⟩:=I.list j;refine⟨g.isList.typeIs,λa e=>?_⟩;cases e;obtain⟨o,n,e,c,hd,_⟩:=g;exact⟨o,e,hd⟩
  .refine⟨⟨o,I.kIn p o b,h⟩,λa e=>?_⟩;cases e;exact⟨o,I.kIn _ o b,hd⟩
  .have z:∃o,s.heap.get? p=aa o/\o.ExactDict:=by
    rcases b with⟨kvs,b⟩ |⟨kvs,b⟩
    .obtain⟨_,_,_,_,o,_,_,e,ex,_⟩:=I.hok p _ b;exact⟨o,e,ex⟩
    .obtain⟨_,_,_,_,o,_,_,e,ex,_⟩:=I.hok p _ b;exact⟨o,e,ex⟩
   obtain⟨o,e,ex⟩:=z;refine⟨⟨o,e,ex.1⟩,λa d=>?_⟩;cases d;exact⟨o,e,ex.2.1⟩
  .obtain⟨o,_,_,_,e,ex,_⟩:=I.hok p _ b;refine⟨⟨o,e,ex.1⟩,λa d=>?_⟩;cases d
   exact⟨o,e,ex.2.1⟩
 | _=>exact gq ty
abbrev tBM(K:aO)(T:String)(r:V->LVv->Hp->VK->Prop)(to:TE)(t:TA):TE:=λL H Q=>to L H λx a=>tyV K T x a/\t L a λB b=>r x B b Q
variable{es:LEx}{name:Str}{apos cpos:Pos}{r:V->LVv->Hp->VK->Prop}
def i8{o:Expr}{to:TE}{t:TA}{id:String}(pa:PlainAttrs T)(slot:Slot T name id)(f:typeOf (.builtin id)=pure (.type "method_descriptor"))(hm:MtR X id r)(q:PE X o to)(ha:PA X (e::es) t)
 (b:mU o name X.env (eval o X.env)=eval o X.env:=by rfl)
 (d:((bZ cpos (aL (e::es) X.env)).all (λx=>!x.1) && (gV cpos (gU [] X.env)).all (λx=>x.1.isSome)
   && decide ((e::es).length+([]:List Keyword).length+(if ([]:List Keyword).isEmpty then 0 else 1)<30))=ac:=by rfl)
 (c:(apos.endLine==cpos.line)=ac:=by rfl)(u:StE X e es:=by rfl)(a:(bZ cpos (aL es X.env)).any (·.1)=ag:=by rfl):
  PE X (.Call (.Attribute o name apos) (e::es) [] cpos) (tBM X.K T r to t):=by
 intro U s L H Q I h;refine wpAny_Call_method_late b d c rfl (thn (q U s L H _ I h) λv s1 z=>?_);obtain⟨x,l,g,j,ty,w⟩:=z;obtain⟨p,h2⟩:=KD g j ty;refine⟨T,id,pa,slot,f,p,h2,?_⟩;have i:=ha cpos U s1 L l _ g w;rw[u]at i ⊢
 exact vd (by show(ag || (bZ cpos _).any (·.1))=ag;rw[a] <;> rfl) (ve (thn i λus s2 ⟨vs,m,n,A,y⟩=>hm U s2 L m x vs v us Q n j A y))
abbrev MtM(X:Cx)(id:String)(r:V->LVv->Hp->VK->Prop):Prop:=
 ∀(U:PNS) (s:ah) (L:St) (H:Hp) (x:V) (B:LVv) (v:Value) (us:LVa) (Q:VK),Inv X U L H s->az x v->aE B us->r x B H Q ->
  wpAny (model X.prog X.w) X.A (call (.builtin id) (v::us)) (EP X U L Q) X.xe s
def aE.one:∀{x:V} {us:LVa},aE [x] us->∃u,us=[u]/\az x u:=λh=>by
 cases h with
 |cons r h=>
  cases h;exact⟨_,rfl,r⟩
def aE.two:∀{x y:V} {us:LVa},aE [x,y] us->∃u v,us=[u,v]/\az x u/\az y v:=λh=>by
 cases h with
 |cons r h=>
  cases h with
  |cons q h=>
   cases h;exact⟨_,_,rfl,r,q⟩
def aE.eraseIdx:∀{B:LVv} {us:LVa} (i:Nat),aE B us->aE (B.eraseIdx i) (us.eraseIdx i)
 | _,_,_,.nil=>.nil
 | _,_,0,.cons _ t=>t
 | _,_,i+1,.cons r t=>.cons r (aE.eraseIdx i t)
variable{us:LVa}
def aE.reverse(h:aE B us):aE B.reverse us.reverse:=by
 induction h with
 |nil=>exact .nil
 |cons r t a=>rw[iZ,iZ];exact aE.append a (.cons r .nil)
def wa{a:Type}:∀(l:List a) (i:Nat),(l.eraseIdx i).length<=l.length
 | [],_=>aM _
 | _::_,0=>jt _
 | _::r,i+1=>Nat.succ_le_succ (wa r i)
variable{l:Addr}{t':Nat}
section
variable{s:ah}
def Inv.lset{f:Array Value->Array Value}(I:Inv X U L H s)(a:H l=aa (.lst B))
 (e:s.heap.get? l=aa {cls:=.type "list",data:=.seq E.toArray n})(c:f E.toArray=dy.toArray)(hv:aE ys dy)(hz:ys.length<=aP):
  Inv X U L (upd H l (.lst ys)) {s with heap:=s.heap.update l (gB f),toks:=t'}:=by
 have q:=PySem.IsL.update e f;rw[c]at q;exact I.write (by rw[a];exact trivial) (.inl rfl) (λg u b d=>(mW s.heap _ (d5 b)).trans d) ⟨_,q⟩ ⟨hz,dy,_,hv,q⟩
end
section
variable{s:ah}
def Inv.lnew(I:Inv X U L H s)(hv:aE ys E)(hz:ys.length<=aP):
  Inv X U L (upd H s.heap.objs.size (.lst ys)) {s with heap:=s.heap.push {cls:=.type "list",data:=.seq E.toArray},toks:=t'}:=
 I.laid (λ_ _ q=>bu _ q) (aM _) ⟨hz,E,0,hv,cA _ rfl⟩
end
def Inv.fresh{s:ah}(I:Inv X U L H s):H s.heap.objs.size=ab:=I.hok.fresh (aM _)
def Inv.lstM{s:ah}(I:Inv X U L H s)(a:H l=aa (.lst B)):B.length<=aP/\∃(E:LVa) (n:Nat),aE B E/\B.length=E.length/\s.heap.get? l=aa {cls:=.type "list",data:=.seq E.toArray n}:=by
 obtain⟨z,E,n,r,e⟩:=I.hok l _ a;exact⟨z,E,n,r,r.length,e⟩
def KE(h:n<=aP):Co n=ag:=by
 exact decide_eq_false (by lia)
abbrev sH:V->LVv->Hp->VK->Prop:=λx vs H Q=>∃l B y,x=.ref l/\vs=[y]/\H l=aa (.lst B)/\B.length<aP/\Q .non (upd H l (.lst (B++[y])))
def wb:MtM X "list.append" sH:=by
 intro U s L H x vs v us Q I d c h;obtain⟨l,B,y,rfl,rfl,a,hz,q⟩:=h;subst d;obtain⟨u,rfl,b⟩:=c.one;obtain⟨z,E,n,r,f,e⟩:=I.lstM a;refine call_meets F.slot_list_append ⟨_,e,rfl⟩ F.entry_list_append (F.args_list_append_2 _ _) (PySem.list_append l E.toArray n u (by rw[size_toArray];lia)) ⟨e,?_⟩;refine⟨.non,_,I.lset a e (by simp) (r.append (.cons b .nil)) ?_,rfl,q⟩;rw[aR,gS]
 lia
abbrev we:V->LVv->Hp->VK->Prop:=λx vs H Q=>∃l b B a,x=.ref l/\vs=[.ref b]/\H l=aa (.lst B)/\H b=aa (.lst a)/\B.length+a.length<=aP/\Q .non (upd H l (.lst (B++a)))
def wg:MtM X "list.extend" we:=by
 intro U s L H x vs v us Q I y w h;obtain⟨l,b,B,G,rfl,rfl,f,hB,hz,q⟩:=h;subst y;obtain⟨u,rfl,p⟩:=w.one;subst p;obtain⟨z,E,n,r,A,e⟩:=I.lstM f;obtain⟨C,a,j,m,i,g⟩:=I.lstM hB;have d:E.toArray.size+a.toArray.size<=aP:=by rw[size_toArray,size_toArray];lia
 have c:¬(!E.toArray.isEmpty && Co (E.toArray.size+a.toArray.size))=ac:=by
  rw[KE d,rG];exact bx
 refine call_meets F.slot_list_extend ⟨_,e,rfl⟩ F.entry_list_extend (F.args_list_extend_2 _ _)
  (AutoSeq1.list_extend_list_list_0 l E.toArray n b a.toArray j c (by rw[size_toArray];lia) (by lia)) ⟨e,g,?_⟩
 refine⟨.non,_,I.lset f e (by simp) (r.append m) ?_,rfl,q⟩;rw[aR];lia
abbrev Dc:V->LVv->Hp->VK->Prop:=λx vs H Q=>∃l B i k y,x=.ref l/\vs=[.int i]/\H l=aa (.lst B)/\-(2 ^ 63)<=i/\i<2 ^ 63/\seqIndex? i B.length=aa k/\B[k]?=aa y/\Q y (upd H l (.lst (B.eraseIdx k)))
def KF:MtM X "list.pop" Dc:=by
 intro U s L H x vs v us Q I A p h;obtain⟨l,B,i,k,y,rfl,rfl,b,c,h2,d,j,q⟩:=h;subst A;obtain⟨u,rfl,m⟩:=p.one;obtain⟨t,rfl⟩:=m;obtain⟨z,E,n,r,f,e⟩:=I.lstM b;obtain⟨w,g,a⟩:=r.get j
 refine call_meets F.slot_list_pop ⟨_,e,rfl⟩ F.entry_list_pop (F.args_list_pop_2 _ _)
  (MeetsSeq.list_pop_at l E.toArray n i t k w (fitsIndex_both c h2) (by rw[size_toArray,<- f];exact d) (by rw[<- oK];exact g) (by rw[size_toArray];lia)) ⟨e,?_⟩
 refine⟨y,_,I.lset b e ?_ (r.eraseIdx k) ?_,a,q⟩
 .show E.toArray.eraseIdxIfInBounds k=(E.eraseIdx k).toArray;rw[eraseIdxIfInBounds_toArray]
 .have:=wa B k
  lia
abbrev KG:R2:=λx y H Q=>∃l b B a,x=.ref l/\y=.ref b/\H l=aa (.lst B)/\H b=aa (.lst a)/\B.length+a.length<=aP/\∀p,H p=ab->Q (.ref p) (upd H p (.lst (B++a)))
def Dd:OpR X (eY .Add) KG:=by
 intro U s L H x y v u Q I j m h;obtain⟨l,b,B,C,rfl,rfl,f,hB,hz,q⟩:=h;subst j;subst m;obtain⟨z,E,n,r,p,e⟩:=I.lstM f;obtain⟨A,a,w,i,g,c⟩:=I.lstM hB;refine PySem.P.add_list e c ?_ (by rw[size_toArray,size_toArray];lia);have d:E.toArray++a.toArray=(E++a).toArray:=by simp
 rw[d];exact⟨.ref _,_,I.lnew (r.append i) (by rw[aR];lia),rfl,q _ I.fresh⟩
end L2
namespace Att
open List
open PySem PySem.W PySem.Calls PyProof.Rows
variable{P:Params}{h:Heap}
def KH:∀(ns:LI0) (vs:LVa),WellAll P h vs (ns.map WData.int)->fG vs ns:=by
 intro ns
 induction ns with
 |nil=>
  intro vs w;cases w
  exact .nil
 |cons n ns c=>
  intro vs w
  cases w with
  |cons a b=>
   cases a;exact .cons _ _ (c _ b)
variable{l:OpenLaw}{n:Nat}{vals:LVa}
def KI(hn:l.most=aa n){args:List WData}
 (b:l.row.toRowW.claim.pre args=ac)(i:WellAll P h vals args):
  ∃a vs ns,vals=[d9 a]/\args=[WData.list (ns.map WData.int)]/\h.get? a=aa {cls:=.type "list",data:=.seq vs.toArray}/\fG vs ns/\ns.length<=n:=by
 obtain⟨d,r,rfl,j,h2⟩:=hasAllW_cons ((pre_splitW b).1);obtain rfl:=hasAllW_nil h2;obtain⟨B,rfl,m⟩:=hasW_list j;obtain⟨ns,rfl⟩:=items_int m
 have e:ns.length<=n:=by
  have f:(WTm.not (.lt (.lit (.int n)) (.len (.arg 0)))).holds [] {args:=[.list (ns.map .int)]}=ac:=by
   have f:=(holds_andW ((pre_splitW b).2)).1;rw[hn]at f;exact f
  have g:=condW_of f (w_not (w_lt w_lit (w_len_list (w_arg rfl))))
  first
   |(rw[decide_eq_true q']at g;exact absurd g (by decide))
   |(simp at g;lia)
 cases i with
 |cons q u=>
  cases u
  cases q with
  |list p c=>exact⟨_,_,ns,rfl,rfl,p,KH ns _ c,e⟩
def KJ(l:OpenLaw)(args:List WData):l.row.toRowW.claim.post args (.bool ac) args=ac:=
 postW_of
  (show WShape.has [] _ .bool=ac by first |rfl |decide |simp[WShape.has])
  (w_eq_bool (w_res rfl) w_lit) rfl
variable{q:bY}{dm:LSt}{XP:MGT->Heap->Prop}{YP:World->Heap->Prop}{d:DefRec}
def attach_call
 (hn:l.most=aa n)(p:d.params.defaults=[])
 (call:∀ (w:World) (s₀ b:ah) (mg mb:MGT) (fa:Addr) (o:Obj) (pm i doc:Value) (a:Addr) (vs:LVa) (ns:LI0),
   Ground q dm [] XP w s₀ mg mb b.heap->YP w b.heap ->
   b.heap.get? fa=aa o->o.data=.func (docDef d.name d.params d.body d.scope pm i doc)->b.heap.CodeRec i d.name->mg d.name=aa (.ref fa) ->
   b.heap.get? a=aa {cls:=.type "list",data:=.seq vs.toArray}->fG vs ns->ns.length<=n->b.gens=#[] ->
   f6 (model l.prog w) callerA (.call (.ref fa) ⟨[.ref a],[]⟩) (λr j=>r=.ok (.ret (.bool ac))/\OldK b.heap j.heap/\j.os=b.os/\jw j.gens) b):
  WalkO q dm XP YP l.row.toRowW d [] (λf vs=>PySem.call f vs):=by
 intro w s₀ b mg mb G Y fa o pm i doc dV kV E hd m x u B args vals J h y I v C;obtain rfl:dV=.none:=Dflts.none x p;obtain rfl:kV=.none:=Dflts.noKw x;obtain⟨a,vs,ns,rfl,rfl,g,c,e⟩:=KI hn h v;refine enter_call (j5 (call w s₀ b mg mb fa o pm i doc a vs ns G Y E (fd_plain hd) m u g c e B) λr j H=>?_);obtain⟨rfl,h2,z,A⟩:=H;exact⟨.inl ⟨.bool ac,.bool ac,[],rfl,λ_=>rfl,.bool ac,KJ l _,λ_=>⟨List.Pairwise.nil,λ_ hm=>(nomatch hm)⟩⟩,h2,z,A⟩
end Att
namespace L2
open List
open PySem PySem.Spec PyProof.Rows
def De:∀{vs:LVa} {ns:LI0},fG vs ns->aE (ns.map V.int) vs
 | _,_,.nil=>.nil
 | _,_,.cons n t h=>.cons ⟨t,rfl⟩ (De h)
abbrev sI(H:Hp):Prop:=∀b,H b=ab\/∃o B,H b=aa (.frz o (.lst B))
variable{P:bY}{w:World}{K:aO}{mg:MGT}{a:Addr}{fd:cz}{x:Str}{ns:LI0}
def KL{mb:MGT}{CX:CXT}{k:Nat}{fa:Addr}{sp:Sp}{c:ah}{vs:LVa}
 (T:K.In c.heap)(C:c.heap.Ns cj mg)(p:c.heap.Ns builtinsNs mb)(J:∀x:Str,x ≠ "__name__" -> mb x=iu x)(A:c.heap.NoLimit)(hg:c.gens=#[])
 (ha:c.heap.get? a=aa {cls:=.type "list",data:=.seq vs.toArray})(hi:fG vs ns)(hl:ns.length<=aP)(hr:bo k callerA)
 (F:∀base:Heap,K.In base->base.Ns cj mg->b8 P w K mg base CX k fa fd [x] sp)(l:∀(s:ah) (u:Value),BindsTo s fd ⟨[u],[]⟩ [(x,u)])
 (M:∀H:Hp,sI H->SqL K H a (ns.map V.int)->sp [.ref a] H (λv _=>v=.bl ac) λ_ _ _=>False)
 (I:∀H e g,CX [] H c (λ_ _ _=>False) e g->False):
  f6 (model P w) callerA (.call (.ref fa) ⟨[.ref a],[]⟩) (λr g=>r=.ok (.ret (.bool ac))/\OldK c.heap g.heap/\g.os=c.os/\jw g.gens) c:=by
 have rv:=De hi
 have j:∀H:Hp,sI H->SqL K H a (ns.map V.int)->HOk P w H c.heap->(∀b,H b≠ab->b=a)->(H a≠ab->K.lookup a=ab) ->
   f6 (model P w) callerA (.call (.ref fa) ⟨[.ref a],[]⟩) (λr g=>r=.ok (.ret (.bool ac))/\OldK c.heap g.heap/\g.os=c.os/\jw g.gens) c:=by
  intro H U hS hok hA hK;have f:∀{b:Addr} {o:Obj},c.heap.get? b=aa o->H b=ab->(m9 c.heap H).get? b=aa o:=λe n=>Ix e n
  have N:∀{b:Addr} {o:Obj} {es:Array DictEntry} {G:Nat},c.heap.get? b=aa o->o.data=.dict es G->H b=ab:=λ{b o es G} e d=>by
   grind
  have i:∀{b:Addr} {m:MGT},c.heap.Ns b m->(m9 c.heap H).Ns b m:=λ{b m} ⟨o,es,G,e,d,r⟩=>⟨o,es,G,f e (N e d),d,r⟩
  have y:=λb o e=>f (T b o e) (by
   cases q:H b with
   |none=>rfl
   |some u=>
    have Y:=hA b (by grind);subst Y;rw[hK (by grind)]at e;nomatch e)
  have hM:Mod K mg _:=⟨y,i C,⟨mb,i p,J⟩,let ⟨mc,h1,h2⟩:=A;⟨mc,i h1,h2⟩⟩;have e0:lQ P w K mg _ callerA [] c H:=⟨rfl,hM,λb o e=>Iy e,Nat.le_of_eq (Iw _ _),trivial,λb p=>absurd (show b∈([]:LAd)from p) (by simp),hok,.of_eq hg⟩;refine j5 ((F _ y (i C)).run callerA [] c H ⟨[.ref a],[]⟩ _ [.ref a] _ _ hr e0 (l c _) (.cons rfl .nil) (M H U hS)) λr g h=>?_
  cases r with
  |error e=>exact(I H e g h).elim
  |ok fl=>
   cases fl with
   |next=>exact gq h
   |brk=>exact gq h
   |cont=>exact gq h
   |ret u=>
    obtain⟨v,H',os,bare,un,E,r',q⟩:=h;subst q;obtain rfl:u=j9 ac:=r';refine⟨rfl,OldK.of_keep λb o e=>?_,os,bare⟩
    cases q:H b with
    |none=>exact un.keep b o e q (by intro z;exact absurd (show b∈([]:LAd)from z) (by simp)) (by simp)
    |some u=>
     rcases U b with z |⟨ob,B,z⟩
     .grind
     .have z2:=un.frzs b ob _ z;obtain⟨e1,_⟩:=hok b _ z;obtain⟨e2,_⟩:=E b _ z2
      grind
 cases L:K.lookup a with
 |some o=>
  have e:=T a o L;rw[ha]at e;cases e
  refine j _ (λ_=>.inl rfl) (.inr ⟨_,vs.toArray,_,L,rfl,rfl,rfl,by rw[size_toArray,hi.length];grind⟩) (λb u z=>by have Q:_=aa u:=z;nomatch Q) (λb z=>absurd rfl z) λz=>absurd rfl z
 |none=>
  refine j (λb=>if b=a then aa _ else ab) (λb=>?_) (.inl (.inr ⟨{cls:=.type "list",data:=.seq vs.toArray},if_pos rfl⟩)) (λb u z=>?_) (λb z=>?_) λ_=>L
  .grind
  .by_cases p:b=a
   .have Q:=(if_pos p).symm.trans z;cases Q;subst p;exact⟨ha,by rw[aB];exact hl,vs,_,rv,ha⟩
   .grind
  .grind
variable{h:Heap}
nonrec def KOf(_:K.In h):aO:=K
variable{l:W.OpenLaw}{q:bY}{dm:LSt}{XP:MGT->Heap->Prop}{YP:World->Heap->Prop}{d:DefRec}
def KM{n k:Nat}{K:Params->aO}{CX:World->CXT}{sp:World->Sp}
 (hn:l.most=aa n)(z:n<=aP)(r:d.params.defaults=[])(hr:bo k callerA)
 (L:∀(w:World) (h:Heap),YP w h->(K w.params).In h)
 (F:∀ (w:World) (mg:MGT) (fa:Addr) (h:Heap),(K w.params).In h->h.Ns cj mg->mg d.name=aa (.ref fa) ->
   ∃fd:cz,(∀(s:ah) (u:Value),BindsTo s fd ⟨[u],[]⟩ [(x,u)]) /\
    ∀base:Heap,(K w.params).In base->base.Ns cj mg->b8 l.prog w (K w.params) mg base (CX w) k fa fd [x] (sp w))
 (A:∀(w:World) (H:Hp) (a:Addr) (ns:LI0),ns.length<=n->sI H->SqL (K w.params) H a (ns.map V.int)->sp w [.ref a] H (λv _=>v=.bl ac) λ_ _ _=>False)
 (p:∀(w:World) (H:Hp) (s:ah) (e:Value) (B:ah),CX w [] H s (λ_ _ _=>False) e B->False):
  W.WalkO q dm XP YP l.row.toRowW d [] (λf vs=>PySem.call f vs):=by
 refine Att.attach_call hn r λw s₀ m mg mb fa o pm U doc a vs ns G Y ho hd N y j i c Q=>?_;have C:=L w _ Y;obtain⟨fd,M,E⟩:=F w mg fa _ C G.T.g y;exact KL C G.T.g G.T.b G.T.builtins G.T.nolimit Q j i (cy c z) hr E M (λH I J=>A w H a ns c I J) λH e B=>p w H m e B
variable{CX:CXT}
def walk_ofK{n k:Nat}{K:Params->aO}{sp:aO->Sp}
 (hn:l.most=aa n)(g:n<=aP)(c:d.params.defaults=[])(hr:bo k callerA)
 (r:∀(w:World) (h:Heap),YP w h->(K w.params).In h)
 (F:∀ (w:World) (mg:MGT) (fa:Addr) (h:Heap),(K w.params).In h->h.Ns cj mg->mg d.name=aa (.ref fa) ->
   ∃fd:cz,(∀(s:ah) (u:Value),BindsTo s fd ⟨[u],[]⟩ [(x,u)]) /\
    ∀base:Heap,(K w.params).In base->base.Ns cj mg->b8 l.prog w (K w.params) mg base CX k fa fd [x] (sp (K w.params)))
 (i:∀(K:aO) (H:Hp) (a:Addr) (ns:LI0),ns.length<=n->sI H->SqL K H a (ns.map V.int)->sp K [.ref a] H (λv _=>v=.bl ac) λ_ _ _=>False)
 (b:∀(H:Hp) (s:ah) (e:Value) (j:ah),CX [] H s (λ_ _ _=>False) e j->False):
  W.WalkO q dm XP YP l.row.toRowW d [] (λf vs=>PySem.call f vs):=
 KM hn g c hr r F (λw H a ns m h2 p=>i _ H a ns m h2 p) λ_ H s e j=>b H s e j
abbrev bf(s:Stmt)(j:Nat):Stmt:=match s with
 |.ClassDef _ _ _ body _ _ _ _ _ _ _=>body.getD j (.Pass ⟨0,0,0,0⟩)
 | _=>.Pass ⟨0,0,0,0⟩
abbrev jE(s:Stmt):Arguments:=match s with
 |.FunctionDef _ a _ _ _ _ _ _ _ _=>a
 | _=>{posonlyargs:=[],args:=[],vararg:=ab,kwonlyargs:=[],kw_defaults:=[],kwarg:=ab,defaults:=[]}
abbrev fh(s:Stmt):List Stmt:=match s with
 |.FunctionDef _ _ b _ _ _ _ _ _ _=>b
 | _=>[]
abbrev av(s:Stmt):Scope:=match s with
 |.FunctionDef _ _ _ _ _ _ sc _ _ _=>sc
 | _=>{kind:=.function,names:=[],isGenerator:=ag,isCoroutine:=ag}
nonrec abbrev CX0:CXT:=λ_ _ _ _ _ _=>False
nonrec abbrev E0:XK:=λ_ _ _=>False
variable{X:Cx}
def fL:lR CX0 X E0:=λ_ _ _ _ _ _ _ h=>h.elim
structure Fun(K:aO)(x qual:Str)(st:Stmt)(f:Addr)(fd:cz):Prop where
 ex:∃(oc:Value) (od:Option Addr) (kV doc pm:Value) (an:Option Addr) (cdv ct:Value) (osl:Array (Option Value)),
  fd=iB x qual (jE st) (fh st) (av st) .none kV doc pm an cdv ct/\K.lookup f=aa ⟨oc,od,.func fd,osl⟩/\W.codeIn K cdv qual=ac
 kp:e8 K (.ref f)=ac
variable{base:Heap}{qual:Str}{st:Stmt}{f:Addr}{N ps:LSt}{sp:Sp}
def Fun.ok{k:Nat}(F:Fun K x qual st f fd)(S:aA N ps (av st))(len:∀vs H Q U4,sp vs H Q U4->vs.length=ps.length)
 (a:∀ (cdv:Value) (A:bW) (outer:List Env) (s:ah) (H:Hp) (vs:LVv) (Q:VK) (U4:XK),bo k (A.deeper (fH qual (av st) s.heap.objs.size f cdv))->sp vs H Q U4 ->
   ∃t,PSs (g4 CX0 P w K mg base N qual (av st) f cdv A outer s H U4).nox (fh st) t/\t {nx:=λ_ H'=>Q .non H',rt:=Q} (start N vs) H):b8 P w K mg base CX0 (k+1) f fd ps sp:=by
 obtain⟨oc,od,kV,doc,pm,an,cdv,ct,osl,rfl,d,b⟩:=F.ex;refine C5 d b S len λA outer s H vs Q U4 hr c=>?_;obtain⟨t,h,q⟩:=a cdv A outer s H vs Q U4 hr c;exact⟨t,h.nox,q⟩
def Fun.binds(F:Fun K x qual st f fd)
 (h:∀(kV doc pm:Value) (an:Option Addr) (cdv ct:Value) (us:LVa),us.length=ps.length->bindArgs (iB x qual (jE st) (fh st) (av st) .none kV doc pm an cdv ct) ⟨us,[]⟩=pure (ps.zip us)):dw K fd ps []:=by
 obtain⟨oc,od,kV,doc,pm,an,cdv,ct,osl,rfl,b,a⟩:=F.ex;exact .all (h kV doc pm an cdv ct)
variable{oc:Value}{an:Option Addr}{osl:Array (Option Value)}
def fun_mk{od:Option Addr}{kV doc pm cdv ct:Value}(l:K.lookup f=aa ⟨oc,od,.func (iB x qual (jE st) (fh st) (av st) .none kV doc pm an cdv ct),osl⟩)
 (c:W.codeIn K cdv qual=ac)(k:e8 K (.ref f)=ac):Fun K x qual st f (iB x qual (jE st) (fh st) (av st) .none kV doc pm an cdv ct):=⟨⟨oc,od,kV,doc,pm,an,cdv,ct,osl,rfl,l,c⟩,k⟩
structure Df(K:aO)(mg:MGT)(x:Str)(st:Stmt)(ps:LSt)(e:Addr×cz):Prop where
 F:Fun K x x st e.1 e.2
 b:dw K e.2 ps []
 g:mg x=aa (.ref e.1)
structure Dm(K:aO)(U5:Addr)(x q:Str)(st:Stmt)(ps:LSt)(e:Addr×cz):Prop where
 F:Fun K x q st e.1 e.2
 b:dw K e.2 ps []
 m:px K U5 x e.1
structure Pk(P:bY)(w:World)(K:aO)(mg:MGT)(base:Heap)(CX:CXT)(k:Nat)(x:Str)(e:Addr×cz)(ps:LSt)(sp:Sp):Prop where
 ok:b8 P w K mg base CX k e.1 e.2 ps sp
 g:mg x=aa (.ref e.1)
 kp:e8 K (.ref e.1)=ac
 b:dw K e.2 ps []
structure Pm(P:bY)(w:World)(K:aO)(mg:MGT)(base:Heap)(CX:CXT)(k:Nat)(U5:Addr)(x:Str)(e:Addr×cz)(ps:LSt)(sp:Sp):Prop where
 ok:b8 P w K mg base CX k e.1 e.2 ps sp
 c:Cls K U5
 m:px K U5 x e.1
 b:dw K e.2 ps []
variable{e:Addr×cz}
def Df.pk{k:Nat}(U4:Df K mg x st ps e)(o:b8 P w K mg base CX k e.1 e.2 ps sp):Pk P w K mg base CX k x e ps sp:=⟨o,U4.g,U4.F.kp,U4.b⟩
variable{q:Str}{U5:Addr}
def Dm.pk{k:Nat}(U4:Dm K U5 x q st ps e)(c:Cls K U5)(o:b8 P w K mg base CX k e.1 e.2 ps sp):Pm P w K mg base CX k U5 x e ps sp:=⟨o,c,U4.m,U4.b⟩
structure Dq(K:aO)(x:Str)(st:Stmt)(f:Addr)(fd:cz):Prop where
 a:dL K cj x=aa (aa (.ref f))
 F:Fun K x x st f fd
structure Dp(K:aO)(U5:Addr)(x q:Str)(st:Stmt)(f:Addr)(fd:cz):Prop where
 a:b7 K (.ref U5) x=aa (aa (.ref f))
 i:W.isFn K (.ref f)=ac
 F:Fun K x q st f fd
nonrec abbrev sJ(x q:Str)(st:Stmt)(ps:LSt):Prop:=∀(kV doc pm:Value) (an:Option Addr) (cdv ct:Value) (us:LVa),us.length=ps.length->bindArgs (iB x q (jE st) (fh st) (av st) .none kV doc pm an cdv ct) ⟨us,[]⟩=pure (ps.zip us)
def Dq.mk2(d:Dq K x st f fd)(X:K.In h)(G:h.Ns cj mg)(b:sJ x x st ps:=by walk_at "bd"):Df K mg x st ps (f,fd):=⟨d.F,d.F.binds b,jC X G d.a⟩
def Dp.mk2(d:Dp K U5 x q st f fd)(b:sJ x q st ps:=by walk_at "bd"):Dm K U5 x q st ps (f,fd):=⟨d.F,d.F.binds b,⟨d.a,d.i,d.F.kp⟩⟩
def Dq.bt{p:Str}(d:Dq K x st f fd)(b:sJ x x st [p])(s:ah)(v:Value):BindsTo s fd ⟨[v],[]⟩ [(p,v)]:=by
 obtain⟨oc,od,kV,doc,pm,an,cdv,ct,osl,rfl,c,a⟩:=d.F.ex;exact .of_eq (b kV doc pm an cdv ct [v] rfl)
variable{n:Nat}
def Dg(h:n<=1000):n<aP:=ly h (by decide)
variable{pos:Pos}
def pv(i:Nat)(b:X.N[i]?=aa x:=by rfl)(hv:Vis X.env.scope x:=by first |exact bS rfl |exact bw (bS rfl) |exact bw (bw rfl))(hd:NDb x:=by decide)
 (a:NCd x:=by decide):PE X (.Name x pos) (cB i):=lM b hv hd a
abbrev aq(H H':Hp):Prop:=∀b o,H b=aa o->H' b=aa o
def aq.refl(H:Hp):aq H H:=λ_ _ h=>h
variable{H H1 H2:Hp}
def aq.trans(a:aq H H1)(b:aq H1 H2):aq H H2:=λc o h=>b c o (a c o h)
variable{H':Hp}{l:Addr}
def aq.free(e:aq H H')(h:H' l=Option.none):H l=Option.none:=by
 cases q:H l with
 |none=>rfl
 |some o=>
  rw[e l o q]at h
  nomatch h
def aq.seq{B:LVv}(e:aq H H')(h:SqL K H a B):SqL K H' a B:=by
 rcases h with(h |⟨o,h⟩) |h
 .exact .inl (.inl (e _ _ h))
 .exact .inl (.inr ⟨o,e _ _ h⟩)
 .exact .inr h
section
variable{κ:Type}[DecidableEq κ]
abbrev cw(kvs:List (κ×V))(k:κ):Option V:=(kvs.find? λa=>decide (a.1=k)).map (·.2)
abbrev dz(kvs:List (κ×V))(k:κ)(v:V):List (κ×V):=
 if (kvs.any λa=>decide (a.1=k))=ac then kvs.map (λa=>if a.1=k then (a.1,v) else a) else kvs++[(k,v)]
def pA{p:κ×V}{r:List (κ×V)}{k:κ}(e:p.1=k):cw (p::r) k=aa p.2:=by simp[cw,find?_cons,e]
def nj{p:κ×V}{r:List (κ×V)}{k:κ}(e:¬p.1=k):cw (p::r) k=cw r k:=by simp[cw,find?_cons,e]
def sK(k:κ):∀kvs:List (κ×V),(kvs.any λa=>decide (a.1=k))=(cw kvs k).isSome
 | []=>rfl
 |p::r=>by
  rw[fY]
  by_cases e:p.1=k
  .simp only[pA e,decide_eq_true e,Bool.true_or,Option.isSome_some]
  .simp only[nj e,decide_eq_false e,Bool.false_or];exact sK k r
def wj(kvs:List (κ×V))(k:κ)(v:V):(dz kvs k v).length<=kvs.length+1:=by
 unfold dz;split
 .rw[aB];lia
 .simp only[aR,bO,length_nil];lia
def eq.isSome_eq{o:Option V}{u:Option Value}(r:eq o u):o.isSome=u.isSome:=by
 cases o with
 |none=>cases u with
  |none=>rfl
  |some _=>exact(r).elim
 |some _=>cases u with
  |none=>exact(r).elim
  |some _=>rfl
def eq.getD{o:Option V}{u:Option Value}{d:V}{d':Value}(r:eq o u)(rd:az d d'):az (o.getD d) (u.getD d'):=by
 cases o with
 |none=>cases u with
  |none=>exact rd
  |some _=>exact(r).elim
 |some _=>cases u with
  |none=>exact(r).elim
  |some _=>exact r
def KV.val{kvs:List (κ×V)}{vs:List (κ×Value)}(r:KV kvs vs)(k:κ):eq (cw kvs k) (valueAt vs k):=by
 induction r with
 |nil=>exact gY
 | @cons p q ps c h t f=>
  obtain⟨d,h2⟩:=h
  by_cases e:p.1=k
  .have a:=d.symm.trans e;have b:valueAt (q::c) k=aa q.2:=by simp[valueAt,a]
   rw[pA e,b];exact h2
  .have a:¬q.1=k:=λz=>e (d.trans z);have b:valueAt (q::c) k=valueAt c k:=by simp[valueAt,a]
   rw[nj e,b];exact f
def KV.any{kvs:List (κ×V)}{vs:List (κ×Value)}(r:KV kvs vs)(k:κ):(kvs.any λa=>decide (a.1=k))=vs.any λa=>decide (a.1=k):=by
 induction r with
 |nil=>rfl
 |cons h t b=>simp only[fY,fY,b,h.1]
def KV.repl{kvs:List (κ×V)}{vs:List (κ×Value)}(r:KV kvs vs)(k:κ){y:V}{u:Value}(d:az y u):
  KV (kvs.map λa=>if a.1=k then (a.1,y) else a) (vs.map λa=>if a.1=k then (a.1,u) else a):=by
 induction r with
 |nil=>exact .nil
 | @cons p q ps f h t c=>
  simp only[bF,bF];refine .cons ?_ c;obtain⟨b,h2⟩:=h
  by_cases e:p.1=k
  .rw[if_pos e,if_pos (b.symm.trans e)];exact⟨b,d⟩
  .rw[if_neg e,if_neg (λz=>e (b.trans z))];exact⟨b,h2⟩
def KV.put{kvs:List (κ×V)}{vs:List (κ×Value)}(r:KV kvs vs)(k:κ){y:V}{u:Value}(a:az y u):KV (dz kvs k y) (stored vs k u):=by
 unfold dz stored;rw[r.any k]
 by_cases e:(vs.any λb=>decide (b.1=k))=ac
 .rw[if_pos e,if_pos e];exact r.repl k a
 .rw[if_neg e,if_neg e];exact gA.snoc r ⟨rfl,a⟩
def KV.length{kvs:List (κ×V)}{vs:List (κ×Value)}(r:KV kvs vs):kvs.length=vs.length:=m6 r
end
variable{u:Value}
def sL{k:Key}(r:az (kV k) u):(kg P w).is k u=ac:=by
 cases k with
 |inl i=>obtain⟨t,e⟩:=(r);subst e;exact Im P w i t
 |inr x=>obtain⟨t,e⟩:=(r);subst e;exact Io P w x t
nonrec abbrev KT(H:Hp):List (List Key×V)->List (List Key×Addr×Value)->Prop:=gA λp q=>p.1=q.1/\eN H q.2.1 p.1/\az p.2 q.2.2
variable{kvs:List (List Key×V)}{B:List (List Key×Addr×Value)}
def KT.val(r:KT H kvs B)(k:List Key):eq (cw kvs k) ((atKey B k).map (·.2)):=by
 induction r with
 |nil=>exact gY
 | @cons p q ps c h t f=>
  obtain⟨d,_,h2⟩:=h
  by_cases e:p.1=k
  .have a:=d.symm.trans e;have b:atKey (q::c) k=aa q.2:=by simp[atKey,a]
   rw[pA e,b];exact h2
  .have a:¬q.1=k:=λz=>e (d.trans z);have b:atKey (q::c) k=atKey c k:=by simp[atKey,a]
   rw[nj e,b];exact f
variable{y:V}
def KT.repl(r:KT H kvs B)(k:List Key)(f:az y u):
  KT H (kvs.map λb=>if b.1=k then (b.1,y) else b) (B.map (putAt k u)):=by
 induction r with
 |nil=>exact .nil
 | @cons p q ps g h t d=>
  rw[bF,bF];refine .cons ?_ d;obtain⟨a,h2,c⟩:=h;unfold putAt
  by_cases e:p.1=k
  .rw[if_pos e,if_pos (a.symm.trans e)];exact⟨a,h2,f⟩
  .rw[if_neg e,if_neg (λz=>e (a.trans z))];exact⟨a,h2,c⟩
variable{b:Addr}
def KT.put(r:KT H kvs B)(k:List Key)(c:eN H b k)(a:az y u):
  KT H (dz kvs k y) (storedH B k b u):=by
 have e:(kvs.any λd=>decide (d.1=k))=(atKey B k).isSome:=by
  rw[sK,(r.val k).isSome_eq,Option.isSome_map]
 unfold dz storedH;rw[e]
 by_cases q:(atKey B k).isSome=ac
 .rw[if_pos q,if_pos q];exact r.repl k a
 .rw[if_neg q,if_neg q];exact gA.snoc r ⟨rfl,c,a⟩
def KT.keeps(r:KT H kvs B)(c:∀b a,H b=aa (.tup a)->H' b=aa (.tup a)):KT H' kvs B:=
 gA.mapP r λ_ _ z=>⟨z.1,z.2.1.up c,z.2.2⟩
def Dh{u:HO}(ok:HOk P w H h)(e:Rd H a u):dG P w H h a u:=e.ok ok
def np{kvs:List (Key×V)}(ok:HOk P w H h)(e:Rd H a (.dK kvs)):kvs.length<=aP/\(a==gx)=ag/\∃vs,KV kvs vs/\h.DictOf (kg P w) a vs:=
 show dG P w H h a (.dK kvs)from Dh ok e
def Di{kvs:List (Key×V)}(ok:HOk P w H h)(e:H a=aa (.dK kvs)):kvs.length<=aP/\(a==gx)=ag/\∃vs,KV kvs vs/\h.DictOf (kg P w) a vs:=np ok (.inl e)
variable{ks:List Key}
def nr(ok:HOk P w H h)(e:eN H a ks):(tupleKind (lL P w)).is h ks a:=by
 obtain⟨vs,e,d⟩:=e;obtain⟨_,E,r,o,b,h2,n,c⟩:=(show dG P w H h a (.tup vs)from ok a _ e);exact⟨o,E.toArray,n,b,h2,c,by simpa using Cu d r⟩
def nt(ok:HOk P w H h)(e:Rd H a (.dT kvs)):kvs.length<=aP/\(a==gx)=ag /\
  ∃B,KT H kvs B/\h.DictOfH (tupleKind (lL P w)) a B:=by
 obtain⟨z,y,B,r,o,es,d,f,h2,g,i,j⟩:=(Dh ok e);refine⟨z,y,B,r,o,es,d,f,h2,g,i,λx b=>?_,j⟩
 have all:∀{l:List _} {m:List _},KT H l m->∀x∈m,(tupleKind (lL P w)).is h x.1 x.2.1:=by
  intro l m q
  induction q with
  |nil=>intro x b;exact nomatch b
  | @cons p q ps u c t n=>
   intro x b
   rcases bm.mp b with e |b
   .subst e;exact nr ok (by rw[<- c.1];exact c.2.1)
   .exact n x b
 exact all r x b
def Dj(ok:HOk P w H h)(e:H a=aa (.dT kvs)):kvs.length<=aP/\(a==gx)=ag /\
  ∃B,KT H kvs B/\h.DictOfH (tupleKind (lL P w)) a B:=nt ok (.inl e)
abbrev fj(H:Hp)(a:Addr)(y:V)(r:Option V):Prop:=
 (∃kvs k,Rd H a (.dK kvs)/\y=kV k/\r=cw kvs k)\/∃kvs k b,Rd H a (.dT kvs)/\y=.ref b/\eN H b k/\r=cw kvs k
abbrev kj(H:Hp)(a:Addr)(y v:V)(H':Hp):Prop:=
 (∃kvs k,H a=aa (.dK kvs)/\y=kV k/\kvs.length<aP/\H'=upd H a (.dK (dz kvs k v))) \/
 ∃kvs k b,H a=aa (.dT kvs)/\y=.ref b/\eN H b k/\kvs.length<aP/\H'=upd H a (.dT (dz kvs k v))
def fj.k{kvs:List (Key×V)}{k:Key}(e:H a=aa (.dK kvs)):fj H a (kV k) (cw kvs k):=.inl ⟨kvs,k,.inl e,rfl,rfl⟩
def fj.t{k:List Key}(e:H a=aa (.dT kvs))(c:eN H b k):fj H a (.ref b) (cw kvs k):=.inr ⟨kvs,k,b,.inl e,rfl,c,rfl⟩
variable{v:V}
def kj.k{kvs:List (Key×V)}{k:Key}(e:H a=aa (.dK kvs))(b:kvs.length<aP):kj H a (kV k) v (upd H a (.dK (dz kvs k v))):=.inl ⟨kvs,k,e,rfl,b,rfl⟩
def kj.t{k:List Key}(e:H a=aa (.dT kvs))(c:eN H b k)(d:kvs.length<aP):
  kj H a (.ref b) v (upd H a (.dT (dz kvs k v))):=.inr ⟨kvs,k,b,e,rfl,c,d,rfl⟩
variable{U:PNS}{L:St}
def Inv.big{s:ah}(I:Inv X U L H s):gx<s.heap.objs.size:=by
 exact mO (by decide) ((I.mod.glob.keeps I.bk).lt)
variable{A:bW}{U4 Q:PRS}
def KN{s:ah}(E:A.units+1<cLine)(I:Inv X U L H s)(g:fj H a y (aa v))(q:az y u)(h:∀f r,Inv X U L H r->az v f->Q f r):
  wpAny (model X.prog X.w) A (getItem (.ref a) u) Q U4 s:=by
 rcases g with⟨kvs,k,e,j,l⟩ |⟨kvs,k,b,e,j,x,l⟩
 .subst j;obtain⟨z,hd,vs,c,i⟩:=np I.hok e;obtain⟨f,n,d⟩:=eq.some_of (by rw[l];exact c.val k);exact wpAny_getItem_of (sL q) i.mapOf n (h f _ (I.tok _) d)
 .subst j;cases (q);obtain⟨z,hd,B,c,i⟩:=nt I.hok e;obtain⟨f,n,d⟩:=eq.some_of (by rw[l];exact c.val k);obtain⟨p,C,m⟩:=Option.map_eq_some_iff.mp n;refine wpAny_getItem_heap (oZ E) (nr I.hok x) i C ?_;rw[m];exact h f _ (I.tok _) d
def KO{s:ah}{o:Option V}(n:A.units+1<cLine)(I:Inv X U L H s)(g:fj H a y o)(i:az y u)(h:∀j,Inv X U L H j->Q (.bool o.isSome) j):
  wpAny (model X.prog X.w) A (cE .In u (.ref a)) Q U4 s:=by
 rcases g with⟨kvs,k,e,f,l⟩ |⟨kvs,k,b,e,f,m,l⟩
 .subst f;obtain⟨z,hd,vs,c,d⟩:=np I.hok e;refine wpAny_in_of (sL i) hd d.mapOf ?_;rw[<- (c.val k).isSome_eq,<- l];exact h _ (I.tok _)
 .subst f;cases (i);obtain⟨z,hd,B,c,d⟩:=nt I.hok e;refine wpAny_in_heap (oZ n) (nr I.hok m) hd d ?_;have q:=(c.val k).isSome_eq;rw[Option.isSome_map]at q;rw[<- q,<- l];exact h _ (I.tok _)
variable{h':Heap}{t':Nat}
section
variable{s:ah}
def wm{c:HO}(I:Inv X U L H s)(g:Mut (H a))(f:fK a s.heap h')(e:∃q,h'.get? a=aa q)(new:dG X.prog X.w (upd H a c) h' a c):
  Inv X U L (upd H a c) {s with heap:=h',toks:=t'}:=
 I.write g (.inl rfl) (λb q d z=>(f.2 b d).trans z) e new
end
def KP{kvs:List (Key×V)}{vs:List (Key×Value)}(z:kvs.length<=aP)(hd:(a==gx)=ag)(b:KV kvs vs)(c:h'.DictOf (kg P w) a vs):
  dG P w H' h' a (.dK kvs):=⟨z,hd,vs,b,c⟩
variable{r:Value}
def KQ{s:ah}{Q:Unit->ah->Prop}(hu:A.units+1<cLine)(I:Inv X U L H s)(g:kj H a y v H')(J:az y u)(G:az v r)(h:∀M,Inv X U L H' M->Q () M):
  wpAny (model X.prog X.w) A (setItem (.ref a) u r) Q U4 s:=by
 rcases g with⟨kvs,k,e,n,l,m⟩ |⟨kvs,k,b,e,n,C,l,m⟩
 .subst n m;obtain⟨z,hd,vs,d,j⟩:=Di I.hok e;have hz:vs.length<=aP:=by rw[<- d.length];exact z
  have p:(dz kvs k v).length<=aP:=by have:=wj kvs k v;lia
  refine wpAny_setItem_pairs (sL J) j λh' f x=>h _ ?_;have he:∃q,h'.get? a=aa q:=let ⟨q,_,_,i,_⟩:=f;⟨q,i⟩;exact wm I (by rw[e];exact gY) x he (KP p hd (d.put k G) f)
 .subst n m;cases (J);obtain⟨z,hd,B,d,j⟩:=Dj I.hok e;have hz:B.length<=aP:=by rw[<- m6 d];exact z
  have p:(dz kvs k v).length<=aP:=by have:=wj kvs k v;lia
  refine wpAny_setItem_heap (oZ hu) (nr I.hok C) j λh' f x=>h _ ?_;obtain⟨q,es,N,i,h2,T,Y,_,h5⟩:=f;refine wm I (by rw[e];exact gY) x ⟨q,i⟩ ⟨p,hd,_,(d.put k C G).keeps λc ys E=>?_,q,es,N,i,h2,T,Y,h5⟩;rw[aI (Cv E e (λz=>nomatch z))];exact E
abbrev pE(i:Expr):Prop:=∀b a,subscripted i ag b a=operate [b,a] (getItem b a)
variable{prog:bY}{env:Env}{value:Expr}
def KR{s:ah}{a:Expr}{T id:String}
 (l:lD (.type T) "__getitem__"=pure (aa (.builtin id)))(m:pE a)
 (h:wpAny (model prog w) A (eval value env) (λo d=>wpAny (model prog w) A (eval a env) (λi b=>b.TypeIs o T/\wpAny (model prog w) A (getItem o i) Q U4 b) U4 d) U4 s):
  wpAny (model prog w) A (eval (.Subscript value a pos) env) Q U4 s:=by
 refine Subscript_ (eX h (λo d f=>eX f (λi b c=>?_) λ_ _ x=>x) λ_ _ x=>x);obtain⟨j,c⟩:=c;refine aj ?_;refine aj (rY j l ?_)
 have fin:wpAny (model prog w) A (subscripted a ag o i) (λr e=>wpAny (model prog w) A (letTemporaryGo value o r >>= λ_=>pure r) Q U4 e) U4 b:=by
  rw[m o i];exact wpAny_operating (eX c (λr e g=>aj (wpAny_letTemporaryGo (aC g))) λ_ _ x=>x)
 first
  |exact aC (aj fin)
  |exact aj _
  |exact aj fin
def KS{s:ah}{o:Option V}(I:Inv X U L H s)(g:fj H a y o):s.TypeIs (.ref a) "dict":=by
 rcases g with⟨kvs,k,e,_,_⟩ |⟨kvs,k,b,e,_,_,_⟩
 .obtain⟨_,_,vs,_,c⟩:=np I.hok e;exact c.typeIs
 .obtain⟨_,_,B,_,c⟩:=nt I.hok e;exact c.typeIs
abbrev KU(b ty:TE):TE:=λL H Q=>b L H λx H1=>ty L H1 λy H2=>∃a v,x=.ref a/\fj H2 a y (aa v)/\Q v H2
abbrev KW(ty b:TE):TE:=λL H Q=>ty L H λy H1=>b L H1 λx H2=>∃a o,x=.ref a/\fj H2 a y o/\Q (.bl o.isSome) H2
abbrev wn(d ty e:TE):TS:=λD L H=>e L H λv H1=>d L H1 λx H2=>ty L H2 λy c=>∃a b,x=.ref a/\kj c a y v b/\D.nx L b
variable{i:Expr}{td:TE}
def wq{o:Expr}{ty:TE}(l:X.A.units+1<cLine)(f:PE X o td)(hi:PE X i ty)(j:pE i):PE X (.Subscript o i pos) (KU td ty):=by
 intro U s L H Q I h;refine KR PySem.F.slot_dict_getitem.lookup j (thn (f U s L H _ I h) λu s1 ⟨x,H1,d,q,m⟩=>thn (hi U s1 L H1 _ d m) λw s2 p=>?_);obtain⟨y,H2,c,r,a,v,ex,g,n⟩:=p;subst ex;obtain rfl:u=d9 a:=q;exact⟨KS c g,KN l c g r λB z e b=>⟨v,H2,e,b,n⟩⟩
def KY{o:Expr}{ty:TE}(f:X.A.units+1<cLine)(hi:PE X i ty)(e:PE X o td):PC X .In i o (KW ty td):=by
 intro U s L H Q I h;refine thn (hi U s L H _ I h) λr s1 ⟨y,H1,b,q,l⟩=>thn (e U s1 L H1 _ b l) λu s2 n=>?_;obtain⟨x,H2,c,p,a,j,ex,g,m⟩:=n;subst ex;obtain rfl:u=d9 a:=p;exact KO f c g q λv d=>⟨.bl j.isSome,H2,d,rfl,m⟩
variable{cc:Pos}{tv:TE}
def Dk{o:Expr}{ty:TE}(m:X.A.units+1<cLine)(j:PE X o td)(hi:PE X i ty)(hv:PE X value tv)(l:fI value (aa (.Subscript o i cc)) pos.line X.env=pure ag):
  PS X (.Assign [.Subscript o i cc] value pos) (wn td ty tv):=by
 intro U s L H D I h;refine wpAny_Assign_Subscript (thn (hv U s L H _ I h) λr s1 ⟨v,H1,c,z,n⟩=>thn (j U s1 L H1 _ c n) λu s2 ⟨x,H2,d,B,p⟩=>thn (hi U s2 L H2 _ d p) λG J w=>?_) l;obtain⟨y,E,e,C,a,b,ex,g,q⟩:=w;subst ex;obtain rfl:u=d9 a:=B;exact KQ m e g C z λM f=>⟨L,b,f,q⟩
def KZ(h:Heap)(a:gx<h.objs.size):dG P w H (h.push {cls:=.type "dict",data:=.dict #[]}) h.objs.size (.dK []):=
 ⟨b9 _,beq_eq_false_iff_ne.mpr (d5 (bR a)),[],.nil,Heap.DictOf.new h⟩
def K0(h:Heap)(a:gx<h.objs.size):dG P w H (h.push {cls:=.type "dict",data:=.dict #[]}) h.objs.size (.dT []):=
 ⟨b9 _,beq_eq_false_iff_ne.mpr (d5 (bR a)),[],.nil,_,#[],0,cA _ rfl,⟨rfl,rfl,rfl⟩,rfl,rfl,eW⟩
abbrev Dl:TE:=λ_ H Q=>∀p,H p=ab->Q (.ref p) (upd H p (.dK []))
abbrev K1:TE:=λ_ H Q=>∀p,H p=ab->Q (.ref p) (upd H p (.dT []))
def K2:PE X (.Dict [] [] pos) Dl:=λU s L H Q I h=>
 wpAny_Dict_empty ⟨.ref s.heap.objs.size,_,I.laid (λ_ _ q=>bu _ q) (aM _) (KZ s.heap I.big),rfl,h _ (I.hok.fresh (aM _))⟩
def K3:PE X (.Dict [] [] pos) K1:=λU s L H Q I h=>
 wpAny_Dict_empty ⟨.ref s.heap.objs.size,_,I.laid (λ_ _ q=>bu _ q) (aM _) (K0 s.heap I.big),rfl,h _ (I.hok.fresh (aM _))⟩
structure M2(X:Cx)(o:Expr)(m:Str)(apos:Pos)(e f:Expr)(cpos:Pos):Prop where
 base:mU o m X.env (eval o X.env)=eval o X.env
 few : ((bZ cpos (aL [e,f] X.env)).all (λx=>!x.1) && (gV cpos (gU [] X.env)).all (λx=>x.1.isSome)
  && decide (([e,f]:LEx).length+([]:List Keyword).length+(if ([]:List Keyword).isEmpty then 0 else 1)<30))=ac
 line:(apos.endLine==cpos.line)=ac
 trees:bZ cpos (aL [e,f] X.env)=[(ag,eval e X.env),(ag,eval f X.env)]
abbrev IsD(H:Hp)(a:Addr):Prop:=(∃kvs,Rd H a (.dK kvs))\/∃kvs,Rd H a (.dT kvs)
def Dn{s:ah}(I:Inv X U L H s)(d:IsD H a):
  s.TypeIs (.ref a) "dict" /\ (∀b,d9 a=.ref b->∃c,s.heap.get? b=aa c/\c.dict=ab)/\(a==gx)=ag:=by
 rcases d with⟨kvs,e⟩ |⟨kvs,e⟩
 .obtain⟨_,hd,vs,_,f⟩:=np I.hok e;refine⟨f.typeIs,λb q=>?_,hd⟩;cases q;obtain⟨c,_,_,g,h2,_⟩:=f;exact⟨c,g,h2.2.1⟩
 .obtain⟨_,hd,B,_,f⟩:=nt I.hok e;refine⟨f.typeIs,λb q=>?_,hd⟩;cases q;obtain⟨c,_,_,g,h2,_⟩:=f;exact⟨c,g,h2.2.1⟩
variable{d:V}
def K4{s:ah}{o:Option V}(q:A.units+1<cLine)(I:Inv X U L H s)(g:fj H a y o)(j:az y u)(rd:az d r)(h:∀n m,Inv X U L H m->az (o.getD d) n->Q n m):
  wpAny (model X.prog X.w) A (call (.builtin "dict.get") [.ref a,u,r]) Q U4 s:=by
 rcases g with⟨kvs,k,e,i,l⟩ |⟨kvs,k,b,e,i,p,l⟩
 .subst i;obtain⟨z,hd,vs,c,f⟩:=np I.hok e;refine call_meetsIn vn f.typeIs PySem.F.entry_dict_get (PySem.F.args_dict_get_3 _ _ _) (meets_dict_get_default _ a (sL j) hd r) ⟨_,f.mapOf,h _ _ (I.tok _) ?_⟩;rw[l];exact(c.val k).getD rd
 .subst i;cases (j);obtain⟨z,hd,B,c,f⟩:=nt I.hok e;refine call_meetsIn vn f.typeIs PySem.F.entry_dict_get (PySem.F.args_dict_get_3 _ _ _) (meetsH_dict_get_default _ a b hd r) ⟨oZ q,k,B,nr I.hok p,f,h _ _ (I.tok _) ?_⟩;rw[l];exact(c.val k).getD rd
abbrev K5(td ty c:TE):TE:=λL H Q=>td L H λx H1=>∃a,x=.ref a/\IsD H1 a/\ty L H1 λy H2=>c L H2 λz b=>∃o,fj b a y o/\Q (o.getD z) b
variable{e f:Expr}{apos cpos:Pos}{tx:TE}
def wu{o:Expr}{ty:TE}(v:X.A.units+1<cLine)(r:PE X o td)(p:PE X e ty)(q:PE X f tx)(m:M2 X o "get" apos e f cpos):PE X (.Call (.Attribute o "get" apos) [e,f] [] cpos) (K5 td ty tx):=by
 intro U s L H Q I h;refine wpAny_Call_method m.base m.few m.line PySem.F.plainAttrs_dict vn PySem.F.type_dict_get (thn (r U s L H _ I h) λu s1 E=>?_);obtain⟨x,H1,c,G,a,ex,d,w⟩:=E;subst ex;obtain rfl:u=d9 a:=G;obtain⟨t1,N,_⟩:=Dn c d;refine⟨t1,N,?_⟩;rw[m.trees]
 refine vd rfl (ve (iy (thn (p U s1 L H1 _ c w) λY s2 ⟨y,H2,j,J,B⟩ =>
  iy (thn (q U s2 L H2 _ j B) λT s3 ⟨z,i,l,M,ov,g,C⟩=>vf ?_))))
 exact K4 v l g J M λw' s4 n b=>⟨_,i,n,b,C⟩
section
variable{κ:Type}[DecidableEq κ]
end
end L2
set_option maxHeartbeats 4000000
namespace L2
open List
open PySem
def ww{env:Env}(f:(Str×fJ)->List (Str×Addr)->Sem (ForInStep (List (Str×Addr))))
 (i:∀n k r,k≠e7->f (n,k) r=pure (.yield r))
 (h2:∀n r c,env.cells.lookup n=aa c->f (n,.free) r=pure (.yield ((n,c)::r))):
  ∀(l:List (Str×fJ)) (a:List (Str×Addr)),(∀x∈l,x.2=.free->∃c,env.cells.lookup x.1=aa c) ->
   (∀x c,a.lookup x=aa c->env.cells.lookup x=aa c) ->
   ∃cl,forIn l a f=(pure cl:Sem _)/\(∀x c,cl.lookup x=aa c->env.cells.lookup x=aa c) /\
    (∀x,((∃c,a.lookup x=aa c)\/(x,e7)∈l)->∃c,cl.lookup x=aa c)
 | [],a,_,ha=>⟨a,rfl,ha,λx d=>d.elim id (λz=>nomatch z)⟩
 |(n,k)::l,a,hl,ha=>by
  have b:=λx d=>hl x (bj _ d)
  by_cases u:k=.free
  .subst u;obtain⟨c,p⟩:=hl _ aH rfl;have q:=p
   have h:∀x g,((n,c)::a).lookup x=aa g->env.cells.lookup x=aa g:=λx g d=>by
    grind
   obtain⟨cl,e,j,m⟩:=ww f i h2 l _ b h
   grind
  .obtain⟨cl,e,j,m⟩:=ww f i h2 l a b ha
   grind
variable{scope:Scope}{env:Env}
def Do(h:∀x∈scope.names,x.2=.free->∃c,env.cells.lookup x.1=aa c):
  ∃cl,closureFor scope env=pure cl/\(∀x c,cl.lookup x=aa c->env.cells.lookup x=aa c)/\(∀x,(x,e7)∈scope.names->∃c,cl.lookup x=aa c):=by
 obtain ⟨cl,e,b,d⟩:=ww (λx r=>(match x with
   |(name,kind)=>if (kind==e7)=ac then (do let a <- cellOf env name;pure (mH ((name,a)::r))) else (pure (mH r):Sem _)))
  (λn k r g=>by
   have:(k==e7)=ag:=by simpa using g
   simp only[this,Bool.false_eq_true,if_false])
  (λn r c f=>by
   simp only[beq_self_eq_true,if_true,cellOf,f,pure_bind])
  scope.names [] h (λx c z=>by nomatch z)
 refine⟨cl,?_,b,λx i=>d x (.inr i)⟩;refine(congrArg _ ?_).trans ((congrArg (λt=>t >>= pure) e).trans (pure_bind _ _));rfl
nonrec abbrev E00:Value->ah->Prop:=λ_ _=>False
variable{prog:bY}{w:World}{A:bW}{R:Result->ah->Prop}{dd iter:Expr}{c4:LEx}{pos:Pos}
section
variable{s:ah}
def K6{a:Expr}{it u:Value}(I:Nat->ah->Prop)
 (C:∀ n s,I n s->wpAny (model prog w) A (gz it) (λr d=>match r with
   |none=>R (.ok .next) d
   | some v=>wpAny (model prog w) A (letOwnedTupleGo a it v) (λ_ e=>wpAny (model prog w) A (assign a env v) (λ_ j =>
     wpAny (model prog w) A (forIn c4 ac λc r=>if r=ac then do let ok <- isTrue c env (eval c env); pure (mH ok) else pure (mH r)) (λok f =>
      if ok=ac then wpAny (model prog w) A (eval dd env) (λx l =>
       wpAny (model prog w) A (call (.builtin "list.append") [u,x]) (λ_ p=>∃m,m<n/\I m p) (notedBy (model prog w) A env λx b=>R (.error x) b) l) (notedBy (model prog w) A env λx b=>R (.error x) b) f
      else ∃m,m<n/\I m f) (notedBy (model prog w) A env λx b=>R (.error x) b) j) (notedBy (model prog w) A env λx b=>R (.error x) b) e) (notedBy (model prog w) A env λx b=>R (.error x) b) d) (notedBy (model prog w) A env λx b=>R (.error x) b) s)
 (n:Nat)(h:I n s):
  f6 (model prog w) A (.compLoop (.ListComp dd [⟨a,iter,c4,0⟩] scope pos) 0 it u env) R s:=by
 refine codeAny_loop rfl I (λn s E=>?_) n h;refine wpAny_noted ?_;refine aj (wpAny_standAt (aj (eX (C n s E) (λr d g=>?_) λ_ _ h'=>h')))
 cases r with
 |none=>exact aC g
 |some v=>
  refine aj (eX g (λ_ e q=>?_) λ_ _ h'=>h');refine aj (eX q (λ_ j y=>aj (eX y (λok f i=>?_) λ_ _ h'=>h')) λ_ _ h'=>h')
  cases ok with
  |false=>exact aC ⟨rfl,i⟩
  |true=>
   exact aj (aj (eX i (λx l z=>aj (eX z (λ_ p B=>aC (aC ⟨rfl,B⟩)) λ_ _ h'=>h')) λ_ _ h'=>h'))
end
open PySem.Spec PyProof.Rows
nonrec def Cx.comp(X:Cx)(scope:Scope)(Nc:LSt)(cl:List (Str×Addr))(U5:Addr)(ex:LAd)(b:ah)(a:Hp):Cx:=
 {X with N:=Nc,s₀:=b,H₀:=a,env:=compEnvC scope cl U5 X.env,outer:=X.stack,ex:=ex,fn:=λ_=>ag,pn:=[],xe:=E00}
def wx{env:Env}:∀{names:List (Str×fJ)} {x:Str},names.lookup x=aa .free ->
  (names.map λ(n,k)=>if (k==e7 && env.scope.kind==.function && env.kindOf n==aa .cell) then (n,lG) else (n,k)).lookup x=aa .cell \/
  (names.map λ(n,k)=>if (k==e7 && env.scope.kind==.function && env.kindOf n==aa .cell) then (n,lG) else (n,k)).lookup x=aa .free
 | [],_,h=>by simp at h
 |(n,k)::r,x,h=>by
  have a:=@wx env r x
  grind
def wz{env:Env}{a:fJ}(b:a=.cell\/a=.free):∀{names:List (Str×fJ)} {x:Str},
  (names.map λ(n,k)=>if (k==e7 && env.scope.kind==.function && env.kindOf n==aa .cell) then (n,lG) else (n,k)).lookup x=aa a ->
  (x,e7)∈names\/(x,lG)∈names
 | [],_,h=>by simp at h
 |(n,k)::r,x,h=>by
  have h':List.lookup x ((if _=ac then _ else _)::_)=aa a:=h
  cases c:x==n with
  |true=>
   have e:=eq_of_beq c;subst e;split at h'
   .rename_i d
    have f:k=.free:=by
     rw[cD,cD]at d;exact eq_of_beq d.1.1
    subst f;exact .inl aH
   .simp only[lu,c]at h';have e:=cW h';subst e
    rcases b with z |z
    .subst z;exact .inr aH
    .subst z;exact .inl aH
  |false=>
   have h2:(r.map λ(n,k)=>if (k==e7 && env.scope.kind==.function && env.kindOf n==aa .cell) then (n,lG) else (n,k)).lookup x=aa a:=by
    split at h' <;> (rw[lu,c]at h';exact h')
   rcases(@wz env a b r x) h2 with z |z
   .exact .inl (bj _ z)
   .exact .inr (bj _ z)
abbrev km(scope:Scope)(outer:List (Str×fJ))(N Nc:LSt)(k:Nat)(js:LN):Bool:=
 scope.names.all (λx=>(x.2 != .free || outer.lookup x.1==aa .cell || outer.lookup x.1==aa .free) && x.2 != .cell && (x.2 != .local || scope.names.lookup x.1==aa .local)) &&
 scope.kind==.function && Nc.length==k+js.length &&
 (bI js.length).all (λi=>match Nc[k + i]?,js[i]? with
  |some x,aa j=>N[j]?==aa x && scope.names.lookup x==aa .free
  | _,_=>ag)
structure nu(scope:Scope)(outer:List (Str×fJ))(N Nc:LSt)(k:Nat)(js:LN):Prop where
 free:∀x∈scope.names,x.2=.free->outer.lookup x.1=aa .cell\/outer.lookup x.1=aa .free
 nocell:∀x∈scope.names,x.2≠.cell
 loc:∀x∈scope.names,x.2=.local->scope.names.lookup x.1=aa .local
 kind:scope.kind=.function
 len:Nc.length=k+js.length
 at':∀i j,js[i]?=aa j->∃x,Nc[k+i]?=aa x/\N[j]?=aa x/\scope.names.lookup x=aa .free
variable{N Nc:LSt}{js:LN}
def nu.of{outer:List (Str×fJ)}{k:Nat}(h:km scope outer N Nc k js=ac):nu scope outer N Nc k js:=by
 unfold km at h;rw[cD,cD,cD]at h;obtain⟨⟨⟨b,h2⟩,d⟩,c⟩:=h;rw[all_eq_true]at b c;refine⟨λx a e=>?_,λx a e=>?_,λx a e=>?_,eq_of_beq h2,eq_of_beq d,λi j e=>?_⟩
 .have:=b x a;simp only[cD,li,bne_iff_ne,beq_iff_eq]at this
  rcases this.1.1 with(z |z) |z
  .exact absurd e z
  .exact .inl z
  .exact .inr z
 .have:=b x a;simp only[cD,bne_iff_ne]at this;exact this.1.2 e
 .have:=b x a;simp only[cD,li,bne_iff_ne,beq_iff_eq]at this
  rcases this.2 with z |z
  .exact absurd e z
  .exact z
 .have hi:=(cR.mp e).1;have:=c i (fX.mpr hi);rw[e]at this
  cases q:Nc[k+i]? with
  |none=>simp only[q]at this;nomatch this
  |some x=>
   rw[q]at this;simp only[cD,beq_iff_eq]at this;exact⟨x,rfl,this.1,this.2⟩
abbrev iH(k:Nat)(js:LN)(L:St):St:=ik k ab++js.map λj=>(L[j]?).getD ab
abbrev PTs(X:Cx)(c4:LEx)(t:TT):Prop:=
 ∀(U:PNS) (s:ah) (L:St) (H:Hp) (Q:Bool->Hp->Prop),Inv X U L H s->t L H Q ->
  wpAny (model X.prog X.w) X.A (forIn c4 ac λc r=>if r=ac then do let ok <- isTrue c X.env (eval c X.env);pure (mH ok) else pure (mH r)) (TP X U L Q) X.xe s
abbrev K7:TT:=λ_ H Q=>Q ac H
variable{X:Cx}
def K8:PTs X [] K7:=λ_ _ _ H _ I h=>wpAny_tests_nil ⟨H,I,h⟩
def K9{c:Expr}{t:TT}(h:PT X c t):PTs X [c] t:=λU s L H Q I q=>wpAny_tests_one (h U s L H Q I q)
abbrev wA(J:It)(g:TG)(tt:TT)(te:TE)(h:St)(j:Hp)(Q:VK):Prop:=
 ∃W:Nat->Nat->LVv->St->Hp->Prop,(∃m,W 0 m [] h j)/\∀i m c σ' H',W i m c σ' H' ->
  (J.stop i H'/\c.length<=aP/\∀D,j D=ab->H' D=ab->Q (.ref D) (upd H' D (.lst c))) \/
  (J.go i H'/\c.length<=aP/\∃ N : LVv->St->Hp->Prop,(∀ e f d,N e f d->∃ n,n < m/\W (i + 1) n e f d) /\
   ∀x d,J.yld i H' x d->g x σ' d λa p=>tt a p λb l=>if b=ac then te a l λy q=>N (c++[y]) a q else N c a l)
abbrev nz(k:Nat)(js:LN)(b:TI)(g:TG)(tt:TT)(te:TE):TE:=λL H Q=>b L H λJ a=>wA J g tt te (iH k js L) a Q
nonrec def Cx.to(X:Cx)(pn:PNS)(xe:PRS):Cx:={X with pn:=pn,xe:=xe}
variable{Y:Cx}{xe:PRS}{U:PNS}{L:St}{H:Hp}
def Dr{s:ah}(I:Inv Y U L H s):Inv {Y with xe:=xe} U L H s:=
 ⟨⟨I.ok.mod,I.ok.kind,I.ok.glob,I.ok.blt,I.ok.above,I.ok.inj,I.ok.has,I.ok.cab,I.ok.hd,I.ok.frames,I.ok.stk,I.ok.exf,I.ok.bs,I.ok.bsz,I.ok.noex,I.ok.exfs,I.ok.funs,I.ok.frf⟩,I.os,I.bare,I.base,I.loc,I.cell,I.free,I.freeC,I.pin,I.hok,I.len⟩
def Ds{s:ah}(I:Inv {Y with xe:=xe} U L H s):Inv Y U L H s:=
 ⟨⟨I.ok.mod,I.ok.kind,I.ok.glob,I.ok.blt,I.ok.above,I.ok.inj,I.ok.has,I.ok.cab,I.ok.hd,I.ok.frames,I.ok.stk,I.ok.exf,I.ok.bs,I.ok.bsz,I.ok.noex,I.ok.exfs,I.ok.funs,I.ok.frf⟩,I.os,I.bare,I.base,I.loc,I.cell,I.free,I.freeC,I.pin,I.hok,I.len⟩
variable{e:Expr}{t:TE}
def PE.to0(h:PE {Y with pn:=[],xe:=E00} e t):PE {Y with pn:=[],xe:=xe} e t:=λU s L H Q I q=>
 eX (h U s L H Q (Ds I) q) (λu c ⟨v,H',a,r,b⟩=>⟨v,H',Dr a,r,b⟩) λ_ _ z=>z.elim
nonrec def i9(us:LVa)(n:Nat):Obj:={cls:=.type "list",data:=.seq us.toArray n}
variable{tg:Expr}{g:TG}{tt:TT}{te:TE}{H2:Hp}{s2:ah}{it:Addr}{fp:LAd}{tn:Nat->Heap->Prop}{J:It}{cl:List (Str×Addr)}{Q:VK}{RR:Value->Addr->Result->ah->Prop}{U4:PRS}
def La{k:Nat}{PX:Cx->Prop}
 (hc:X.calm=ac)(ck:nu scope X.env.scope.names X.N Nc k js)
 (hg:∀cl U5 ex H G,PG (X.comp scope Nc cl U5 ex H G) tg g)(ht:∀cl U5 ex H G,PTs (X.comp scope Nc cl U5 ex H G) c4 tt)(he:∀cl U5 ex H G xe,PX ((X.comp scope Nc cl U5 ex H G).to [] xe)->PE ((X.comp scope Nc cl U5 ex H G).to [] xe) dd te)
 (a1:∀x c,cl.lookup x=aa c->X.env.cells.lookup x=aa c)(a2:∀x,(x,e7)∈scope.names->∃c,cl.lookup x=aa c)
 (E:Inv X U L H2 s2)(T:jD X.prog X.w X.K tg J fp it tn)(st2:tn 0 s2.heap)(f2:∀b∈fp,gE X U H2 b)(hW:wA J g tt te (iH k js L) H2 Q)
 (hRR:∀(D U5:Addr) (s':ah) (H':Hp),Inv X U L H' s'->(∃m,s'.heap.Ns U5 m)->gE X U H' U5->Q (.ref D) H'->RR (.ref D) U5 (.ok .next) s')
 (hPX:∀D U5,s2.heap.objs.size=D->D<U5->(∀b∈frs X.stack,b<D)->PX ((X.comp scope Nc cl U5 fp s2 H2).to [] (notedBy (model X.prog X.w) X.A (compEnvC scope cl U5 X.env) λx s'=>RR (.ref D) U5 (.error x) s'))):
  wpAny (model X.prog X.w) X.A (newList []) (λc5 s₃=>wpAny (model X.prog X.w) X.A (newFunctionEnv scope X.env.globals cl [] X.env.qual ab .none (aa X.env)) (λcenv s₄ =>
   f6 (model X.prog X.w) X.A (.compStart (.ListComp dd [⟨tg,iter,c4,0⟩] scope pos) 0 (.ref it) c5 {cenv with scope:=relabel scope X.env}) (RR c5 cenv.locals) s₄) U4 s₃) U4 s2:=by
 obtain⟨W,⟨m0,w0⟩,turn⟩:=hW;refine iq (wpAny_newFunctionEnv ck.nocell (by intro y hy;simp at hy) (λh₁ C h=>?_) ck.kind);dsimp only at C h ⊢;generalize hP:s2.heap.push {cls:=.type "list",dict:=ab,data:=.seq ([]:LVa).toArray}=P at C h ⊢;generalize hD:s2.heap.objs.size=D at hP C h ⊢;have hCs:P.objs.size=D+1:=by rw[<- hP,iz,hD]
 generalize hC:P.objs.size=U5 at hCs C h ⊢;have hDC':D<U5:=by rw[hCs];exact dq _
 have hDC:D≠U5:=bR hDC';have below:∀b o,s2.heap.get? b=aa o->b<D:=λb o e=>hD▸bv e
 have old:∀b o,s2.heap.get? b=aa o->h₁.get? b=aa o:=λb o e=>by
  have f:=below b o e;exact h.extBut b o (bR (mO f hDC')) (bu _ (hP▸bu _ e))
 have hDo:h₁.get? D=aa (i9 [] 0):=h.extBut _ _ hDC (bu _ (by rw[<- hP,<- hD];exact cA _ rfl));have Hn:∀b,D<=b->H2 b=ab:=λb f=>E.hok.fresh (by lia);have fpo:∀b∈fp,b<D:=λb f=>by obtain⟨o,e,_⟩:=T.obj 0 _ st2 b f;exact below b o e
 have clo:∀x c,cl.lookup x=aa c->c<D:=λx c e=>by
  obtain⟨v,o,ho,_⟩:=E.cell x c (a1 x c e);exact below c o ho
 have stko:∀b∈frs X.stack,b<D:=λb f=>by
  obtain⟨_,o,ho,_⟩:=E.stack.mem f;exact below b o ho
 let Y:Cx:=X.comp scope Nc cl U5 fp s2 H2
 have yk:Y.Ok:=by
  refine⟨E.ok.mod,ck.kind,E.ok.glob,E.ok.blt,?_,?_,?_,?_,E.ok.hd,E.ok.frames,.inl rfl,?_,E.bs,?_,?_,?_,E.stack,E.stkFree⟩
  .show s2.heap.objs.size<=U5;lia
  .exact λx y c h1 h2=>E.ok.inj x y c (a1 x c h1) (a1 y c h2)
  .intro x hx
   have:(x,e7)∈scope.names\/(x,lG)∈scope.names:=by
    rcases hx with hx |hx
    .exact wz (.inl rfl) hx
    .exact wz (.inr rfl) hx
   rcases this with z |z
   .exact a2 x z
   .exact absurd rfl (ck.nocell _ z)
  .exact λx c z=>nomatch z
  .intro b f;refine⟨?_,λx c e=>?_⟩
   .exact bR (mO (fpo b f) hDC')
   .exact(f2 b f).2.2.2.2.1 x c (a1 x c e)
  .exact cy E.ok.bsz E.sz
  .intro b o e f
   rcases(f2 b f).2.2.2.1 with z |z
   .exact E.ok.noex b o e z
   .exact absurd (eK (bv e) (cy E.ok.bsz z)) (io _)
  .intro b f z
   rcases bm.mp (E.stkSub b z)with e |e
   .exact(f2 b f).2.1 e
   .exact(f2 b f).2.2.1 e
 have I4:Inv Y [(D,i9 [] 0)] (iH k js L) H2 {s2 with heap:=h₁,toks:=s2.toks+([]:List (Str×Value)).length}:=by
  refine⟨yk,rfl,E.bare,Un.kept old,⟨_,C,λi x v e1 I e3=>?_⟩,λx c e=>?_,Hn U5 (by lia),λx c e=>E.freeC x c (a1 x c e),λp M=>?_,E.hok.kept old,?_⟩
  .have e1:Nc[i]?=aa x:=e1;unfold iH at I
   have hik:k<=i:=by
    rcases Nat.lt_or_ge i k with z |z
    .rw[lj (by simpa using z),rH]at I;simp[z]at I
    .exact z
   rw[mJ (by simpa using hik),cu]at I;simp only[mK]at I
   cases q:js[i-k]? with
   |none=>rw[q]at I;cases I
   |some j=>
    rw[q]at I;obtain⟨x',q1,q2,q3⟩:=ck.at' _ _ q;rw[show k+(i-k)=i by lia,e1]at q1;cases q1;have I:(L[j]?).getD ab=aa v:=cW I
    have e2':L[j]?=aa (aa v):=by
     cases z:L[j]? with
     |none=>rw[z]at I;nomatch I
     |some y=>rw[z]at I;rw[show y=aa v from I]
    have hmem:(x,e7)∈scope.names:=by
     have:∀l:List (Str×fJ),l.lookup x=aa .free->(x,e7)∈l:=by
      intro l
      induction l with
      |nil=>intro z;nomatch z
      |cons a l ih=>
       intro z;obtain⟨n,kk⟩:=a;simp only[lu]at z
       cases f:x==n with
       |true=>
        rw[f]at z;cases z
        rw[eq_of_beq f];exact aH
       |false=>rw[f]at z;exact bj _ (ih z)
     exact this _ q3
    have hout:X.env.kindOf x=aa .cell\/X.env.kindOf x=aa .free:=ck.free _ hmem rfl;obtain⟨m,hn,hl⟩:=E.loc
    have vis:Vis X.env.scope x:=by
     rcases hout with z |z
     .exact .inr (.inl z)
     .exact .inr (.inr z)
    obtain⟨u,r,l⟩:=hl j x v q2 e2' vis;refine⟨u,r,.inr ⟨wx q3,?_⟩⟩
    rcases l with⟨z,_⟩ |⟨_,c,hcl,hcell⟩
    .rcases hout with y |y <;> (rw[y]at z;nomatch z)
    .obtain⟨c',hc'⟩:=a2 x hmem;have:=a1 x c' hc';rw[hcl]at this;cases this;exact⟨c,hc',hcell.keeps old⟩
  .obtain⟨v,z⟩:=E.cell x c (a1 x c e);exact⟨v,z.keeps old⟩
  .have M:p∈[(D,i9 [] 0)]:=(bP.mp M).elim (λz=>nomatch (show p∈([]:PNS)from z)) id;have M:=ci.mp M;subst M;refine⟨hDo,Hn D (aM _),hDC,λz=>?_,λv z=>by nomatch z⟩;exact absurd (stko D z) (io _)
  .show(iH k js L).length=Nc.length;rw[ck.len];simp[iH]
 have st1:=T.keep 0 _ _ st2 λb _ o e=>old b o e
 have fpY:∀{H':Hp} {p:PNS},(∀q∈p,q.1=D)->(∀b∈fp,H' b=ab)->∀b∈fp,gE Y p H' b:=λ{H' p} M hn b f=>by
  refine⟨hn b f,(yk.exf b f).1,yk.exfs b f,.inl f,λx c e=>(yk.exf b f).2 x c e,λq hq=>?_⟩;rw[M q hq];exact jZ (fpo b f)
 let xe:Value->ah->Prop:=notedBy (model X.prog X.w) X.A (compEnvC scope cl U5 X.env) λx s'=>RR (.ref D) U5 (.error x) s'
 have M:=hPX D U5 hD hDC' stko
 have loop:f6 (model X.prog X.w) X.A (.compLoop (.ListComp dd [⟨tg,iter,c4,0⟩] scope pos) 0 (.ref it) (.ref D) (compEnvC scope cl U5 X.env)) (RR (.ref D) U5) {s2 with heap:=h₁,toks:=s2.toks+([]:List (Str×Value)).length}:=by
  refine K6 (λn s'=>∃i ys us nn σ' H',Inv Y [(D,i9 us nn)] σ' H' s'/\tn i s'.heap/\(∀b∈fp,H' b=ab)/\aE ys us/\W i n ys σ' H') ?_ m0
   ⟨0,[],[],0,iH k js L,H2,I4,st1,λb f=>(f2 b f).1,.nil,w0⟩
  rintro n s3 ⟨i,ys,us,nn,σ3,H3,I3,st3,fr3,rv,w3⟩
  have one:∀q∈[(D,i9 us nn)],q.1=D:=λq hq=>by
   have:q=(D,i9 us nn):=by simpa using hq
   rw[this]
  rcases turn i n ys σ3 H3 w3 with⟨stop,hz,qn⟩ |⟨go,hz,N,hN,step⟩
  .refine thn (T.done Y rfl rfl rfl hc i _ s3 σ3 H3 _ I3 (fpY one fr3) st3 stop) λr s4 ⟨hr,I5⟩=>?_;subst hr;obtain⟨pD,nD,_,_,_⟩:=I5.pin (D,i9 us nn) (by simp);have bs:=I5.base;have h2D:∀b o,H2 b=aa o->b≠D:=λb o e z=>by rw[z,Hn D (aM _)]at e;nomatch e
   have I6:Inv X U L (upd H3 D (.lst ys)) s4:=by
    refine E.call' (ch:=fp) I5.os ⟨bs.keep,bs.slot,λb o e n hx=>?_,bs.there,λb B e=>?_,λb o u e=>?_,λb ps e=>?_⟩ (λb u e=>?_) I5.bare λb f=>?_
    .rw[aI (bR (below b o e))];exact bs.free b o e n hx
    .rw[aI (h2D b _ e)];exact bs.tups b B e
    .rw[aI (h2D b _ e)];exact bs.frzs b o u e
    .rw[aI (h2D b _ e)];exact bs.tbls b ps e
    .by_cases f:b=D
     .subst f;rw[aW]at e;cases e;exact⟨hz,us,nn,rv,pD⟩
     .rw[aI f]at e;exact(I5.hok b u e).stay (λc v _ q=>q) (λc q=>by rw[aI (eO q nD)];exact q) λc B q=>by rw[aI (eO q nD)];exact q
    .obtain⟨_,f1,_,f3,f4,f5⟩:=f2 b f;exact⟨f3,f1,f4,f5⟩
   obtain⟨m,hn,_⟩:=I5.loc;refine hRR D U5 s4 _ I6 ⟨m,hn⟩ (E.fpOk (by lia) ?_) (qn D (Hn D (aM _)) nD);rw[aI hDC.symm];exact I5.free
  .refine thn (T.item Y rfl rfl rfl hc i _ s3 σ3 H3 _ I3 (fpY one fr3) st3 go) λr s4 q_=>?_;obtain⟨u,hr,h4⟩:=q_;subst hr;refine thn h4 λ_ s5 q_=>?_;obtain⟨x,H5,I5,r5,y5,st5,fr5⟩:=q_;have I5':=I5.pinned (fpY one fr5) (T.obj _ _ st5);refine eX (hg cl U5 fp s2 H2 _ s5 σ3 H5 x u _ I5' r5 (step x H5 y5)) (λ_ s6 ⟨σ6,H6,I6,q6⟩=>?_) λ_ _ z=>z.elim;refine eX (ht cl U5 fp s2 H2 _ s6 σ6 H6 _ I6 q6) (λb s7 ⟨H7,I7,q7⟩=>?_) λ_ _ z=>z.elim
   have kp:∀{H8:Hp} {s8:ah},Inv Y ([(D,i9 us nn)]++sy fp s5.heap) σ6 H8 s8->tn (i+1) s8.heap/\(∀b∈fp,H8 b=ab):=λ{H8 s8} I8=>by
    refine⟨T.keep _ _ _ st5 λb f o e=>(I8.pin (b,o) (c9 _ (c9 _ (sA f e)))).1,λb f=>?_⟩;obtain⟨o,e,d⟩:=T.obj _ _ st5 b f;exact(I8.pin (b,o) (c9 _ (c9 _ (sA f e)))).2.1
   cases b with
   |false=>
    obtain⟨m',hm,w7⟩:=hN _ _ _ q7;obtain⟨st7,fr7⟩:=kp I7
    exact⟨m',hm,i+1,ys,us,nn,σ6,H7,I7.unpinned,st7,fr7,rv,w7⟩
   |true=>
    refine thn (he cl U5 fp s2 H2 xe M _ s7 σ6 H7 _ (Dr I7) q7) λuy s8 q_=>?_;obtain⟨y,H8,I8',r8,q8⟩:=q_;have I8:=Ds I8';obtain⟨m',hm,w8⟩:=hN _ _ _ q8;obtain⟨st8,fr8⟩:=kp I8;obtain⟨pD,nD,pC,pF,_⟩:=I8.pin (D,i9 us nn) (by simp);have hl:=rv.length
    refine wpAny_list_append_plain (items:=us.toArray) ⟨nn,pD⟩ (λh' hl' sb=>?_) (by simp only[size_toArray] <;> lia)
    obtain⟨n',e'⟩:=hl';have I8n:Inv Y [] σ6 H8 s8:=I8.pins_of (λ_ z=>nomatch z);have I9:=I8n.turned (t':=s8.toks) (it:=D) (λb o f e=>(sb.2 b f).trans e) nD pC (.inr (by show s2.heap.objs.size<=D;lia)) (λx c e=>bR (clo x c e)) (λp M=>nomatch M);refine⟨m',hm,i+1,ys++[y],us++[uy],n',σ6,H8,I9.pins_of (λp M=>?_),?_,fr8,rv.append (.cons r8 .nil),w8⟩
    .have M:p=(D,i9 (us++[uy]) n'):=by simpa using M
     subst M;refine⟨?_,nD,pC,pF,λv z=>by nomatch z⟩;have I:=e';rw[I];simp
    .exact T.keep _ _ _ st8 λb f o e=>(sb.2 b (bR (fpo b f))).trans e
 exact codeAny_compStart_list loop (T.self X.A 0 _ _ _ st1 loop)
def Dt{k:Nat}
 (y:X.calm=ac)(u:nu scope X.env.scope.names X.N Nc k js)
 (B:∀cl U5 ex d a,PG (X.comp scope Nc cl U5 ex d a) tg g)(C:∀cl U5 ex d a,PTs (X.comp scope Nc cl U5 ex d a) c4 tt)(z:∀cl U5 ex d a,PE (X.comp scope Nc cl U5 ex d a) dd te)
 (q:∀x c,cl.lookup x=aa c->X.env.cells.lookup x=aa c)(r:∀x,(x,e7)∈scope.names->∃c,cl.lookup x=aa c)
 (p:Inv X U L H2 s2)(T:jD X.prog X.w X.K tg J fp it tn)(n:tn 0 s2.heap)(f2:∀b∈fp,gE X U H2 b)(v:wA J g tt te (iH k js L) H2 Q)
 (j:∀(D U5:Addr) (l:ah) (H':Hp),Inv X U L H' l->(∃m,l.heap.Ns U5 m)->gE X U H' U5->Q (.ref D) H'->RR (.ref D) U5 (.ok .next) l):
  wpAny (model X.prog X.w) X.A (newList []) (λf h=>wpAny (model X.prog X.w) X.A (newFunctionEnv scope X.env.globals cl [] X.env.qual ab .none (aa X.env)) (λe i =>
   f6 (model X.prog X.w) X.A (.compStart (.ListComp dd [⟨tg,iter,c4,0⟩] scope pos) 0 (.ref it) f {e with scope:=relabel scope X.env}) (RR f e.locals) i) U4 h) U4 s2:=
 La (PX:=λ_=>True) y u B C (λcl U5 ex d a xe _=>PE.to0 (z cl U5 ex d a)) q r p T n f2 v j λ_ _ _ _ _=>trivial
variable{wi:TI}
def Lb(k:Nat)(js:LN)(Nc:LSt)(G:X.calm=ac)(hi:PI X tg iter wi)
 (Y:∀cl U5 ex c a,PG (X.comp scope Nc cl U5 ex c a) tg g)(ht:∀cl U5 ex c a,PTs (X.comp scope Nc cl U5 ex c a) c4 tt)(M:∀cl U5 ex c a,PE (X.comp scope Nc cl U5 ex c a) dd te)
 (d:km scope X.env.scope.names X.N Nc k js=ac:=by rfl)(hs:∀x,j3 iter X.env x=pure x:=by intro _;rfl):
  PE X (.ListComp dd [⟨tg,iter,c4,0⟩] scope pos) (nz k js wi g tt te):=by
 intro U s L H Q I h;have d:=nu.of d;obtain⟨cl,f,p,r⟩:=Do λx hx e=>I.ok.has x.1 (d.free x hx e);refine wpAny_comprehension_free rfl hs f d.kind d.loc (thn (hi U s L H _ I h) λv s1 B=>thn B λitv s2 h2=>?_);obtain⟨it,fp,tn,J,H2,e,n,T,j,f2,C⟩:=h2;subst e;refine Dt G d Y ht M p r n T j f2 C λD U5 s' H' l ⟨m,hn⟩ A q=>?_;obtain⟨u,f1,_,w,y,z⟩:=A;exact⟨m,hn,λh' i=>⟨.ref D,H',l.turned (λb o E e=>(i.2 b E).trans e) u f1 w y z,rfl,q⟩⟩
variable{i:Nat}{x:Str}{cc eL:Pos}
def wB(k:Nat)(js:LN)(Nc:LSt)(hN:X.N.Nodup)(p:X.N[i]?=aa x)(w:Loc X.env.scope x)(hc:X.calm=ac)(hi:PI X tg iter wi)
 (hg:∀cl U5 ex d c,PG (X.comp scope Nc cl U5 ex d c) tg g)(ht:∀cl U5 ex d c,PTs (X.comp scope Nc cl U5 ex d c) c4 tt)(he:∀cl U5 ex d c,PE (X.comp scope Nc cl U5 ex d c) dd te)
 (u:fI (.ListComp dd [⟨tg,iter,c4,0⟩] scope pos) (aa (.Name x cc)) eL.line X.env=pure ac:=by rfl)
 (f:km scope X.env.scope.names X.N Nc k js=ac:=by rfl)(hs:∀x,j3 iter X.env x=pure x:=by intro _;rfl)
 (hf:LcF X x:=by first |exact .inl rfl |exact .inr rfl |assumption):
  PS X (.Assign [.Name x cc] (.ListComp dd [⟨tg,iter,c4,0⟩] scope pos) eL) (iF (nz k js wi g tt te) (gD i)):=by
 intro U s L H D I h;have f:=nu.of f;rw[exec_Assign_Name_used _ _ _ _ u];refine aj (wpAny_standAt (aj ?_));obtain⟨cl,n,G,M⟩:=Do λx w e=>I.ok.has x.1 (f.free x w e)
 refine aj (eX (wpAny_comprehension_free rfl hs n f.kind f.loc
  (thn (hi U s L H _ I h) λv s1 h1=>thn h1 λitv s2 h2=>?_)) (λ_ s' hq=>aC (aC hq)) λ_ _ e=>e)
 obtain⟨it,fp,tn,J,H2,e,E,T,y,f2,hW⟩:=h2;subst e;refine Dt hc f hg ht he G M E T y f2 hW λB U5 s' H' C ⟨m,hn⟩ fC q=>?_;obtain⟨Q,f1,Y,f3,A,f5⟩:=fC;refine wpAny_assign_Name (Cy (v:=.ref B) C hN p w rfl (λs'' j ⟨a,sb,ha⟩=>?_) hf)
 have l:U5≠a:=by
  rcases ha with z |z
  .rw[z];exact f1
  .exact(A x a z).symm
 exact⟨m,hn.sameBut sb l,λh' r=>⟨_,H',j.turned (λb o hb e=>(r.2 b hb).trans e) Q f1 f3 A f5,q⟩⟩
def Du:OpR X (cE .Is) (λx y H Q=>∃b,y=.bl b/\(x=.non\/∃c,x=.bl c)/\Q (.bl (decide (x=.bl b))) H):=by
 intro U s L H x y v u Q I a e h;obtain⟨b,rfl,d,q⟩:=h;subst e
 rcases d with rfl |⟨c,rfl⟩
 .subst a
  exact wpAny_is_plain rfl (bM I q (by cases b <;> rfl))
 .subst a
  exact wpAny_is_plain rfl (bM I q (by cases b <;> cases c <;> rfl))
def Dv:OpR X (cE .IsNot) (λx y H Q=>∃b,y=.bl b/\(x=.non\/∃c,x=.bl c)/\Q (.bl (!decide (x=.bl b))) H):=by
 intro U s L H x y v u Q I a e h;obtain⟨b,rfl,d,q⟩:=h;subst e
 rcases d with rfl |⟨c,rfl⟩
 .subst a
  exact wpAny_isNot_plain rfl (bM I q (by cases b <;> rfl))
 .subst a
  exact wpAny_isNot_plain rfl (bM I q (by cases b <;> cases c <;> rfl))
def Lc(a:X.calm=ac):gZ X (.builtin "sum") (λB H Q=>∃(p:Addr) (ns:LI0),B=[.ref p]/\SqL X.K H p (ns.map V.int)/\Q (.int ns.sum) H):=by
 intro U s L H B us Q I r h;obtain⟨p,ns,rfl,c,q⟩:=h;obtain⟨u,rfl,g⟩:=lO r;subst g;obtain⟨E,f,d,hz⟩:=I.list c;have hi:=Ki f;obtain⟨B,e⟩:=hi.allInts.items;refine sum_intListG (I.ok.hd a) (by rw[<- e];exact d.isList) λh' i t' b=>?_
 have es:preSum (numAt B) B.size=ns.sum:=by
  rw[preSum_eq,oO (by simp),<- nums_intItems,<- e,hi.numsOf]
 rw[es];exact⟨.int ns.sum,H,I.kept b,⟨_,rfl⟩,q⟩
def Ld:gZ X (.builtin "isinstance") (λB H Q=>∃x T t b,B=[x,.ty T]/\f7 X.K H x t/\W.kitOne X.K t (.type T)=aa b/\Q (.bl b) H):=by
 intro U s L H B us Q I r h;obtain⟨x,T,t,b,rfl,ty,e,q⟩:=h;obtain⟨u,f,rfl,c,a⟩:=JS r;cases (a);exact J8 I c ty e λd=>⟨.bl b,H,I.tok d,rfl,q⟩
variable{B:LVv}
def aE.at'{us:LVa}{u:Value}(r:aE B us)(e:us[i]?=aa u):∃x,B[i]?=aa x/\az x u:=by
 have c:=r.length;have hi:i<B.length:=by have:=(cR.mp e).1;lia
 refine⟨B[i],by simp[hi],?_⟩;obtain⟨d,a,b⟩:=r.get (i:=i) (x:=B[i]) (by simp[hi]);rw[e]at a;cases a;exact b
def nA{env:Env}{a:fJ}(b:a≠.free):∀{names:List (Str×fJ)} {x:Str},names.lookup x=aa a ->
  (names.map λ(n,k)=>if (k==e7 && env.scope.kind==.function && env.kindOf n==aa .cell) then (n,lG) else (n,k)).lookup x=aa a
 | [],_,h=>by simp at h
 |(n,k)::r,x,h=>by
  have c:=@nA env a b r x
  grind
def Le(h:Vis scope x):Vis (relabel scope env) x:=by
 rcases h with h |h |h
 .exact .inl (nA (by decide) h)
 .exact .inr (.inl (nA (by decide) h))
 .rcases wx h with z |z
  .exact .inr (.inl z)
  .exact .inr (.inr z)
variable{U5:Addr}{ex:LAd}{cs:ah}{c2:Hp}
def pvc(i:Nat)(b:Nc[i]?=aa x:=by rfl)(hv:Vis scope x:=by first |exact bS rfl |exact bw (bS rfl) |exact bw (bw rfl))(hd:NDb x:=by decide)
 (a:NCd x:=by decide):PE (X.comp scope Nc cl U5 ex cs c2) (.Name x pos) (cB i):=lM b (Le hv) hd a
def pgc(i:Nat)(b:Nc.Nodup:=by decide +kernel)(hi:Nc[i]?=aa x:=by rfl)(a:scope.names.lookup x=aa .local:=by rfl):PG (X.comp scope Nc cl U5 ex cs c2) (.Name x pos) (gD i):=
 vE b hi (.inl (nA (by decide) a)) (.inr (nA (by decide) a))
def glc(h:scope.names.lookup x=aa .globalImplicit):Gl (X.comp scope Nc cl U5 ex cs c2) x:=nA (by decide) h
variable{p:Addr}
def bG{o:HO}(h:H p=ab):aq H (upd H p o):=λb u e=>by rw[aI (eO e h)];exact e
variable{K:aO}{H':Hp}{a:Addr}
def aq.tup(e:aq H H')(h:SqT K H a B):SqT K H' a B:=by
 rcases h with(h |⟨o,h⟩) |h
 .exact .inl (.inl (e _ _ h))
 .exact .inl (.inr ⟨o,e _ _ h⟩)
 .exact .inr h
abbrev ko(p:Addr)(H H':Hp):Prop:=∀b o,H b=aa o->b≠p->H' b=aa o
def ko.refl(p:Addr)(H:Hp):ko p H H:=λ_ _ h _=>h
variable{H1:Hp}
def ko.trans(a:ko p H H1)(b:ko p H1 H2):ko p H H2:=λc o h n=>b c o (a c o h n) n
def ko.seq(e:ko p H H')(n:a≠p)(h:SqL K H a B):SqL K H' a B:=by
 rcases h with(h |⟨o,h⟩) |h
 .exact .inl (.inl (e _ _ h n))
 .exact .inl (.inr ⟨o,e _ _ h n⟩)
 .exact .inr h
abbrev wC(K:aO)(H:Hp)(U2:Addr)(E:LII):Prop:=
 ∃a:List (Addr×Int×Int),SqL K H U2 (a.map λz=>V.ref z.1)/\(∀z∈a,SqT K H z.1 [.int z.2.1,.int z.2.2])/\E=a.map (·.2)/\a.length<=1000
abbrev cF(p:Option Bool->Bool)(es:LOB)(E:LII):Int:=((E.filter λz=>p (es.getD z.1.toNat ab)).map (·.2)).sum
inductive Prt where
 |inn (t:Int) |out (t:Int) |least (k:Int) (E:LII) |most (k:Int) (E:LII)
abbrev Lf(K:aO)(H:Hp)(p:Addr):Prt->Prop
 |.inn t=>SqT K H p [.str "in",.int t]
 |.out t=>SqT K H p [.str "out",.int t]
 |.least k E=>∃U2,SqT K H p [.str "least",.int k,.ref U2]/\wC K H U2 E
 |.most k E=>∃U2,SqT K H p [.str "most",.int k,.ref U2]/\wC K H U2 E
abbrev bs(l:LB0):LOB:=l.map aa
abbrev Prt.holds(C ws:LB0):Prt->Bool
 |.inn t=>(C.getD t.toNat ag)
 |.out t=>!(ws.getD t.toNat ag)
 |.least k E=>decide (k<=cF (·==aa ac) (bs C) E)
 |.most k E=>decide (cF (·==aa ac) (bs ws) E<=k)
variable{h':Heap}
section
variable{s:ah}
def Inv.turnedMany{t':Nat}{ch:LAd}(I:Inv X U L H s)(k:∀b o,b∉ch->s.heap.get? b=aa o->h'.get? b=aa o)(d:∀b∈ch,gE X U H b):Inv X U L H {s with heap:=h',toks:=t'}:=by
 refine I.step (λb j=>?_) (λb o _ _ a e _=>k b o a e) (λb o _ _ a e _=>⟨o.slots,k b o a e⟩) (λ_ _ _ _ n=>n)
  (λb o a e=>⟨o,k b o a e⟩) (λ_ _ e=>e) (λ_ _ _ e=>e) (λb ps e=>⟨#[],by rw[e];simp⟩) (λm hm=>?_) (λb u e=>?_) I.bare
 .obtain⟨_,f1,_,g,h,i⟩:=d b j;exact⟨g,f1,h,i⟩
 .obtain⟨o,es,f,l,r⟩:=hm;exact⟨o,es,f,k _ o (λz=>(d _ z).2.1 rfl) l,r⟩
 .refine(I.hok b u e).stay (λc v a q=>k c v (λz=>?_) q) (λ_ q=>q) λ_ _ q=>q;have hn:=(d c z).1
  rcases a with y |y
  .rw[y,e]at hn;nomatch hn
  .rw[hn]at y;nomatch y
end
def Inv.track{s:ah}{o:HO}(I:Inv X U L H s)(f:gE X U H p)(l:dG X.prog X.w (upd H p o) s.heap p o):Inv X U L (upd H p o) s:=by
 obtain⟨g,f1,f2,h,i,j⟩:=f;have ne:∀b u,H b=aa u->b≠p:=λb u e=>eO e g;have one:∀b:Addr,b∉[p]->b≠p:=λb a z=>a (by rw[z];simp)
 refine I.step (ch:=[p]) (λb a=>?_) (λb o _ _ d e _=>e) (λb o _ _ d e _=>⟨o.slots,e⟩) (λb o d e n=>?_)
  (λb o d e=>⟨o,e⟩) (λb B e=>?_) (λb o u e=>?_) (λb ps e=>⟨#[],?_⟩) (λm hm=>hm) (λb u e=>?_) I.bare
 .have e:b=p:=by simpa using a
  subst e;exact⟨h,f1,i,j⟩
 .rw[aI (one b d)];exact n
 .rw[aI (ne b _ e)];exact e
 .rw[aI (ne b _ e)];exact e
 .rw[aI (ne b _ e),e];rfl
 .by_cases a:b=p
  .subst a;rw[aW]at e;cases e;exact l
  .rw[aI a]at e;exact(I.hok b u e).stay (λc v _ q=>q) (λc q=>by rw[aI (ne c _ q)];exact q) λc B q=>by rw[aI (ne c _ q)];exact q
abbrev g5(p:Int->Bool)(E:LII):Int:=((E.filter λz=>p z.1).map (·.2)).sum
def sM(p:Option Bool->Bool)(es:LOB)(E:LII):cF p es E=g5 (λt=>p (es.getD t.toNat ab)) E:=rfl
def Lg(p q:Int->Bool)(E:LII):g5 p (E.filter λz=>q z.1)=g5 (λt=>p t && q t) E:=by
 unfold g5;rw[filter_filter]
abbrev Prt.sure(es:LOB):Prt->Bool
 |.inn t=>es.getD t.toNat ab==aa ac
 |.out t=>es.getD t.toNat ab==aa ag
 |.least k E=>decide (k<=cF (·==aa ac) es E)
 |.most k E=>decide (cF (λe=>!(e==aa ag)) es E<=k)
abbrev Prt.lost(es:LOB)(ws:LB0):Prt->Bool
 |.inn t=>(es.getD t.toNat ab==aa ag) || ws.getD t.toNat ag
 |.out t=>es.getD t.toNat ab==aa ac
 |.least k E=>decide (g5 (λt=>!(es.getD t.toNat ab==aa ag) && !(ws.getD t.toNat ag)) E<k)
 |.most k E=>decide (k<cF (·==aa ac) es E)
abbrev Dw(U2:Addr)(E:LII)(vs:LVv):Prt->Prop
 |.inn t=>vs=[.str "in",.int t]
 |.out t=>vs=[.str "out",.int t]
 |.least k i=>vs=[.str "least",.int k,.ref U2]/\i=E
 |.most k i=>vs=[.str "most",.int k,.ref U2]/\i=E
variable{vs:LVv}
def Dw.at{U2:Addr}{E:LII}{r:Prt}(t:Dw U2 E vs r)(a:H p=aa (.tup vs))(b:wC K H U2 E):Lf K H p r:=by
 cases r with
 |inn t'=>subst t;exact SqT.of a
 |out t'=>subst t;exact SqT.of a
 |least k i=>obtain⟨rfl,rfl⟩:=t;exact⟨U2,SqT.of a,b⟩
 |most k i=>obtain⟨rfl,rfl⟩:=t;exact⟨U2,SqT.of a,b⟩
inductive D where
 |non
 |bl (b:Bool)
 |int (i:Int)
 |str (x:Str)
 |lst (B:List D)
 |tup (B:List D)
 |kl (B:List D)
 |kt (B:List D)
 |dic (ks:List Key) (B:List D)
 |ins (c:Str) (ns:LSt) (B:List D)
 |kd (ks:List Key) (B:List D)
 |dT (ks:List (List Key)) (B:List D)
 deriving Inhabited
nonrec abbrev OD:=Option D
nonrec abbrev LD:=List D
nonrec abbrev OLD:=Option LD
set_option genInjectivity false in
structure Gc where
 K:aO
 cl:Str->Addr
mutual
def Rep(G:Gc)(H:Hp):D->V->Prop
 |.non,v=>v=.non
 |.bl b,v=>v=.bl b
 |.int i,v=>v=.int i
 |.str x,v=>v=.str x
 |.lst ds,v=>∃a vs,v=.ref a/\H a=aa (.lst vs)/\ao G H ds vs
 |.tup ds,v=>∃a vs,v=.ref a/\H a=aa (.tup vs)/\ao G H ds vs
 |.kl ds,v=>∃a vs,v=.ref a/\SqL G.K H a vs/\ao G H ds vs
 |.kt ds,v=>∃a vs,v=.ref a/\SqT G.K H a vs/\ao G H ds vs
 |.dic ks ds,v=>∃a vs,v=.ref a/\H a=aa (.dK (ks.zip vs))/\ks.length=vs.length/\ao G H ds vs
 |.ins c ns ds,v=>∃a dx vs,v=.ref a/\H a=aa (.ins (G.cl c) dx (ns.zip vs))/\ns.length=vs.length/\ao G H ds vs
 |.kd ks ds,v=>∃a od vs,v=.ref a/\H a=aa (.frz od (.dK (ks.zip vs)))/\ks.length=vs.length/\ao G H ds vs
 |.dT ks ds,v=>∃a vs,v=.ref a/\H a=aa (.dT (ks.zip vs))/\ks.length=vs.length/\ao G H ds vs
def ao(G:Gc)(H:Hp):LD->LVv->Prop
 | [],vs=>vs=[]
 |d::ds,vs=>∃v r,vs=v::r/\Rep G H d v/\ao G H ds r
end
mutual
theorem Rep.upM(s:aq H H'):∀(d:D) (v:V),Rep G H d v->Rep G H' d v
 |.non,_,h=>h
 |.bl _,_,h=>h
 |.int _,_,h=>h
 |.str _,_,h=>h
 |.lst ds,_,h_=>by obtain⟨a,vs,e,q,r⟩:=h_;exact⟨a,vs,e,s _ _ q,ao.upM s ds vs r⟩
 |.tup ds,_,h_=>by obtain⟨a,vs,e,q,r⟩:=h_;exact⟨a,vs,e,s _ _ q,ao.upM s ds vs r⟩
 |.kl ds,_,h_=>by obtain⟨a,vs,e,q,r⟩:=h_;exact⟨a,vs,e,s.seq q,ao.upM s ds vs r⟩
 |.kt ds,_,h_=>by obtain⟨a,vs,e,q,r⟩:=h_;exact⟨a,vs,e,s.tup q,ao.upM s ds vs r⟩
 |.dic _ ds,_,h_=>by obtain⟨a,vs,e,q,l,r⟩:=h_;exact⟨a,vs,e,s _ _ q,l,ao.upM s ds vs r⟩
 |.ins _ _ ds,_,h_=>by obtain⟨a,dx,vs,e,q,l,r⟩:=h_;exact⟨a,dx,vs,e,s _ _ q,l,ao.upM s ds vs r⟩
 |.kd _ ds,_,h_=>by obtain⟨a,od,vs,e,q,l,r⟩:=h_;exact⟨a,od,vs,e,s _ _ q,l,ao.upM s ds vs r⟩
 |.dT _ ds,_,h_=>by obtain⟨a,vs,e,q,l,r⟩:=h_;exact⟨a,vs,e,s _ _ q,l,ao.upM s ds vs r⟩
theorem ao.upM(s:aq H H'):∀(ds:LD) (vs:LVv),ao G H ds vs->ao G H' ds vs
 | [],_,h=>h
 |d::ds,_,h_=>by obtain⟨v,r,e,a,h2⟩:=h_;exact⟨v,r,e,Rep.upM s d v a,ao.upM s ds r h2⟩
end
variable{G:Gc}{d:D}{v:V}
def Rep.up(r:Rep G H d v)(s:aq H H'):Rep G H' d v:=Rep.upM s d v r
variable{ds:LD}
def ao.up(r:ao G H ds vs)(s:aq H H'):ao G H' ds vs:=ao.upM s ds vs r
def ao.nil:ao G H [] []:=rfl
def ao.cons(h:Rep G H d v)(t:ao G H ds vs):ao G H (d::ds) (v::vs):=⟨v,vs,rfl,h,t⟩
def ao.length:∀{ds:LD} {vs:LVv},ao G H ds vs->ds.length=vs.length
 | [],_,h=>by cases (h);rfl
 |d::ds,_,⟨v,r,e,_,h⟩=>by subst e;simp[ao.length h]
def ao.append:∀{ds es:LD} {vs us:LVv},ao G H ds vs->ao G H es us->ao G H (ds++es) (vs++us)
 | [],_,_,_,h,t=>by cases (h);exact t
 |d::ds,_,_,_,⟨v,r,e,h1,h2⟩,t=>by subst e;exact⟨v,r++_,rfl,h1,ao.append h2 t⟩
def ao.get:∀{ds:LD} {vs:LVv} {i:Nat} {d:D},ao G H ds vs->ds[i]?=aa d->∃v,vs[i]?=aa v/\Rep G H d v
 | [],_,_,_,_,e=>by simp at e
 |d::ds,_,0,_,⟨v,r,e,h1,_⟩,e'=>by subst e;simp at e';subst e';exact⟨v,rfl,h1⟩
 |d::ds,_,i+1,d',q4_,e'=>by
  obtain⟨v,r,e,_,h2⟩:=q4_;subst e;obtain⟨u,a,b⟩:=ao.get h2 (by simpa using e');exact⟨u,by simpa using a,b⟩
def ao.get':∀{ds:LD} {vs:LVv} {i:Nat} {v:V},ao G H ds vs->vs[i]?=aa v->∃d,ds[i]?=aa d/\Rep G H d v:=λ{ds vs i v} h e=>by
 have c:=h.length;have hi:i<ds.length:=by have:=(cR.mp e).1;lia
 obtain⟨u,a,b⟩:=h.get (i:=i) (d:=ds[i]) (by simp[hi]);rw[e]at a;cases a;exact⟨ds[i],by simp[hi],b⟩
def ao.ints:∀(ns:LI0),ao G H (ns.map D.int) (ns.map V.int)
 | []=>rfl
 |n::ns=>⟨_,_,rfl,rfl,ao.ints ns⟩
def ao.take:∀{ds:LD} {vs:LVv} (n:Nat),ao G H ds vs->ao G H (ds.take n) (vs.take n)
 | _,_,0,_=>rfl
 | [],_,n+1,h=>by cases (h);rfl
 |d::ds,_,n+1,⟨v,r,e,h1,h2⟩=>by subst e;exact⟨v,r.take n,rfl,h1,ao.take n h2⟩
def ao.drop:∀{ds:LD} {vs:LVv} (n:Nat),ao G H ds vs->ao G H (ds.drop n) (vs.drop n)
 | _,_,0,h=>h
 | [],_,n+1,h=>by cases (h);rfl
 |d::ds,_,n+1,⟨v,r,e,h1,h2⟩=>by subst e;exact ao.drop n h2
def ao.reverse:∀{ds:LD} {vs:LVv},ao G H ds vs->ao G H ds.reverse vs.reverse
 | [],_,h=>by cases (h);rfl
 |d::ds,_,q2_=>by
  obtain⟨v,r,e,a,h2⟩:=q2_;subst e;rw[iZ,iZ];exact(ao.reverse h2).append (.cons a .nil)
def ao.set:∀{ds:LD} {vs:LVv} (i:Nat) {d:D} {v:V},ao G H ds vs->Rep G H d v->ao G H (ds.set i d) (vs.set i v)
 | [],_,_,_,_,h,_=>by cases (h);exact .nil
 |e::ds,_,0,_,_,⟨v,r,e',_,h2⟩,q=>by subst e';exact⟨_,r,rfl,q,h2⟩
 |e::ds,_,i+1,_,_,⟨v,r,e',h1,h2⟩,q=>by subst e';exact⟨v,r.set i _,rfl,h1,ao.set i h2 q⟩
abbrev g6:HO->Bool
 |.tup _=>ac
 | _=>ag
structure Ext(Hf H Hf' H':Hp):Prop where
 f:aq Hf Hf'
 h:aq H H'
 s:aq Hf' H'
 n:∀l o,H l=aa o->g6 o=ag->Hf' l=Hf l
variable{Hf:Hp}
def Ext.refl(s:aq Hf H):Ext Hf H Hf H:=⟨aq.refl _,aq.refl _,s,λ_ _ _ _=>rfl⟩
variable{b4 b3:Hp}
def Ext.trans(a:Ext Hf H b4 H1)(b:Ext b4 H1 b3 H2):Ext Hf H b3 H2:=⟨a.f.trans b.f,a.h.trans b.h,b.s,λl o e t=>(b.n l o (a.h l o e) t).trans (a.n l o e t)⟩
def Ext.new{o:HO}(s:aq Hf H)(h:H p=ab):Ext Hf H (upd Hf p o) (upd H p o):=
 ⟨bG (s.free h),bG h,λb u e=>by
  by_cases a:b=p
  .subst a;rw[aW]at e ⊢;exact e
  .rw[aI a]at e ⊢;exact s b u e,λl u e _=>by rw[aI (eO e h)]⟩
def Ext.tmp{o:HO}(s:aq Hf H)(h:H p=ab):Ext Hf H Hf (upd H p o):=⟨aq.refl _,bG h,s.trans (bG h),λ_ _ _ _=>rfl⟩
def Ext.grow(s:aq Hf H)(g:aq H H1):Ext Hf H Hf H1:=⟨aq.refl _,g,s.trans g,λ_ _ _ _=>rfl⟩
def Ext.fix{o:HO}(a:Ext Hf H b4 H1)(hn:H p=ab)(d:b4 p=ab)(g:H1 p=aa o):Ext Hf H (upd b4 p o) H1:=
 ⟨a.f.trans (bG d),a.h,λb u e=>by
  by_cases c:b=p
  .subst c;rw[aW]at e;rw[g];exact e
  .rw[aI c]at e;exact a.s b u e,λl u e t=>by rw[aI (eO e hn)];exact a.n l u e t⟩
inductive O where
 |fz (d:D)
 |lst (B:List O)
 |tup (B:List O)
 |dic (ks:List Key) (B:List O)
 |ins (c:Str) (ns:LSt) (B:List O)
 |jnk (n:Nat)
 |dT (ks:List (List Key)) (B:List O)
 |at (l:Addr) (o:O)
 |any
 deriving Inhabited
mutual
def OT(G:Gc)(Hf H:Hp):O->V->LAd->Prop
 |.fz d,v,fp=>Rep G Hf d v/\fp=[]
 |.lst os,v,fp=>∃a vs fs,v=.ref a/\H a=aa (.lst vs)/\OTs G Hf H os vs fs/\fp=a::fs
 |.tup os,v,fp=>∃a vs,v=.ref a/\H a=aa (.tup vs)/\OTs G Hf H os vs fp
 |.dic ks os,v,fp=>∃a vs fs,v=.ref a/\H a=aa (.dK (ks.zip vs))/\ks.length=vs.length/\OTs G Hf H os vs fs/\fp=a::fs
 |.ins c ns os,v,fp=>∃a dx vs fs,v=.ref a/\H a=aa (.ins (G.cl c) dx (ns.zip vs))/\ns.length=vs.length/\OTs G Hf H os vs fs/\fp=a::fs
 |.jnk n,v,fp=>∃a vs,v=.ref a/\H a=aa (.lst vs)/\vs.length<=n/\fp=[a]
 |.dT ks os,v,fp=>∃a vs fs,v=.ref a/\H a=aa (.dT (ks.zip vs))/\ks.length=vs.length/\OTs G Hf H os vs fs/\fp=a::fs
 |.at l o,v,fp=>v=.ref l/\OT G Hf H o v fp
 |.any,_,fp=>fp=[]
def OTs(G:Gc)(Hf H:Hp):List O->LVv->LAd->Prop
 | [],vs,fp=>vs=[]/\fp=[]
 |o::os,vs,fp=>∃v r f1 f2,vs=v::r/\OT G Hf H o v f1/\OTs G Hf H os r f2/\fp=f1++f2
end
mutual
noncomputable def O.toD:O->D
 |.fz d=>d
 |.lst os=>.lst (O.toDs os)
 |.tup os=>.tup (O.toDs os)
 |.dic ks os=>.dic ks (O.toDs os)
 |.ins c ns os=>.ins c ns (O.toDs os)
 |.at _ o=>o.toD
 |.jnk _=>.non
 |.dT ks os=>.dT ks (O.toDs os)
 |.any=>.non
noncomputable def O.toDs:List O->LD
 | []=>[]
 |o::os=>o.toD::O.toDs os
end
mutual
noncomputable def O.kn:O->Bool
 |.fz _=>ac
 |.lst os=>O.kns os
 |.tup os=>O.kns os
 |.dic _ os=>O.kns os
 |.ins _ _ os=>O.kns os
 |.at _ o=>o.kn
 |.jnk _=>ag
 |.dT _ os=>O.kns os
 |.any=>ag
noncomputable def O.kns:List O->Bool
 | []=>ac
 |o::os=>o.kn && O.kns os
end
mutual
theorem OT.frameM(f:aq Hf Hf'):∀(o:O) (v:V) (fp:LAd),OT G Hf H o v fp->(∀b u,H b=aa u->(g6 u=ac\/b∈fp)->H' b=aa u)->OT G Hf' H' o v fp
 |.fz d,_,_,h,_=>⟨h.1.up f,h.2⟩
 |.lst os,_,fp,h_,k=>by obtain⟨a,vs,fs,e,q,r,g⟩:=h_;exact⟨a,vs,fs,e,k _ _ q (.inr (by rw[g];exact aH)),OTs.frameM f os vs fs r (λb u i hm=>k b u i (hm.imp_right λz=>by rw[g];exact bj _ z)),g⟩
 |.tup os,_,fp,h_,k=>by obtain⟨a,vs,e,q,r⟩:=h_;exact⟨a,vs,e,k _ _ q (.inl rfl),OTs.frameM f os vs fp r k⟩
 |.dic ks os,_,fp,h_,k=>by obtain⟨a,vs,fs,e,q,z,r,g⟩:=h_;exact⟨a,vs,fs,e,k _ _ q (.inr (by rw[g];exact aH)),z,OTs.frameM f os vs fs r (λb u i hm=>k b u i (hm.imp_right λz=>by rw[g];exact bj _ z)),g⟩
 |.ins c ns os,_,fp,h_,k=>by obtain⟨a,dx,vs,fs,e,q,z,r,g⟩:=h_;exact⟨a,dx,vs,fs,e,k _ _ q (.inr (by rw[g];exact aH)),z,OTs.frameM f os vs fs r (λb u i hm=>k b u i (hm.imp_right λz=>by rw[g];exact bj _ z)),g⟩
 |.jnk n,_,fp,h_,k=>by obtain⟨a,vs,e,q,z,g⟩:=h_;exact⟨a,vs,e,k _ _ q (.inr (by rw[g];exact aH)),z,g⟩
 |.dT ks os,_,fp,h_,k=>by obtain⟨a,vs,fs,e,q,z,r,g⟩:=h_;exact⟨a,vs,fs,e,k _ _ q (.inr (by rw[g];exact aH)),z,OTs.frameM f os vs fs r (λb u i hm=>k b u i (hm.imp_right λz=>by rw[g];exact bj _ z)),g⟩
 |.at _ o,v,fp,h_,k=>by obtain⟨e,r⟩:=h_;exact⟨e,OT.frameM f o v fp r k⟩
 |.any,_,_,h,_=>h
theorem OTs.frameM(f:aq Hf Hf'):∀(os:List O) (vs:LVv) (fp:LAd),OTs G Hf H os vs fp->(∀b u,H b=aa u->(g6 u=ac\/b∈fp)->H' b=aa u)->OTs G Hf' H' os vs fp
 | [],_,_,h,_=>h
 |o::os,_,fp,h_,k=>by obtain⟨v,r,f1,f2,e,d,h2,a⟩:=h_;exact⟨v,r,f1,f2,e,OT.frameM f o v f1 d (λb u c hm=>k b u c (hm.imp_right λz=>by rw[a];exact da _ z)),OTs.frameM f os r f2 h2 (λb u c hm=>k b u c (hm.imp_right λz=>by rw[a];exact c9 _ z)),a⟩
end
variable{Hf':Hp}
def OT.frame{o:O}(h:OT G Hf H o v fp)(f:aq Hf Hf')(k:∀b u,H b=aa u->(g6 u=ac\/b∈fp)->H' b=aa u):OT G Hf' H' o v fp:=OT.frameM f o v fp h k
def OT.up{o:O}(h:OT G Hf H o v fp)(f:aq Hf Hf')(s:aq H H'):OT G Hf' H' o v fp:=h.frame f λb u e _=>s b u e
def sN{a b:Type}:∀{ks:List a} {vs us:List b},ks.length=vs.length->ks.length=us.length->ks.zip vs=ks.zip us->vs=us
 | [],[],[],_,_,_=>rfl
 |k::ks,v::vs,u::us,h1,h2,e=>by
  injection e with e1 e2
  injection e1 with _ e3
  rw[e3,sN (by simpa using h1) (by simpa using h2) e2]
 | [],_::_,_,h,_,_=>by cases h
 | [],[],_::_,_,h,_=>by cases h
 | _::_,[],_,h,_,_=>by cases h
 | _::_,_::_,[],_,h,_=>by cases h
mutual
theorem OT.funM:∀(o:O) (v:V) (f u:LAd),OT G Hf H o v f->OT G Hf' H o v u->f=u
 |.fz d,_,_,_,h,h'=>h.2.trans h'.2.symm
 |.lst os,_,_,_,q4_,q5_=>by
  obtain⟨a,vs,fs,e,q,r,m⟩:=q4_;obtain⟨x,l,g,j,i,p,b⟩:=q5_;subst e m b;cases j;rw[q]at i;cases i
  rw[OTs.funM os vs fs g r p]
 |.tup os,_,f,u,q4_,q5_=>by
  obtain⟨a,vs,e,q,r⟩:=q4_;obtain⟨x,l,j,i,p⟩:=q5_;subst e;cases j;rw[q]at i;cases i
  exact OTs.funM os vs f u r p
 |.dic ks os,_,_,_,q4_,q5_=>by
  obtain⟨a,vs,fs,e,q,z,r,m⟩:=q4_;obtain⟨x,l,g,j,i,w,p,b⟩:=q5_;subst e m b;cases j;rw[q]at i;have:=sN z w (HO.dK.inj (cW i));subst this
  rw[OTs.funM os vs fs g r p]
 |.ins c ns os,_,_,_,q4_,q5_=>by
  obtain⟨a,dx,vs,fs,e,q,z,r,m⟩:=q4_;obtain⟨x,y,l,g,j,i,w,p,b⟩:=q5_;subst e m b;cases j;rw[q]at i;have:=sN z w (HO.ins.inj (cW i)).2.2;subst this
  rw[OTs.funM os vs fs g r p]
 |.jnk n,_,_,_,q4_,q5_=>by
  obtain⟨a,vs,e,q,z,m⟩:=q4_;obtain⟨x,l,j,i,w,b⟩:=q5_;subst e m b;cases j
  rfl
 |.dT ks os,_,_,_,q4_,q5_=>by
  obtain⟨a,vs,fs,e,q,z,r,m⟩:=q4_;obtain⟨x,l,g,j,i,w,p,b⟩:=q5_;subst e m b;cases j;rw[q]at i;have:=sN z w (HO.dT.inj (cW i));subst this
  rw[OTs.funM os vs fs g r p]
 |.at _ o,v,f,u,h,h'=>OT.funM o v f u h.2 h'.2
 |.any,_,_,_,h,h'=>(show _=[]from h).trans (show _=[]from h').symm
theorem OTs.funM:∀(os:List O) (vs:LVv) (f i:LAd),OTs G Hf H os vs f->OTs G Hf' H os vs i->f=i
 | [],_,_,_,h,h'=>h.2.trans h'.2.symm
 |o::os,_,_,_,q4_,q5_=>by
  obtain⟨v,r,f1,f2,e,m,h2,l⟩:=q4_;obtain⟨p,n,b,c,j,d,g,a⟩:=q5_;subst e l a;cases j;rw[OT.funM o v f1 b m d,OTs.funM os r f2 c h2 g]
end
mutual
theorem OT.memM:∀(o:O) (v:V) (f:LAd),OT G Hf H o v f->∀a∈f,∃u,H a=aa u/\g6 u=ag
 |.fz d,_,_,h,a,ha=>by rw[h.2]at ha;cases ha
 |.lst os,_,_,q3_,b,hb=>by
  obtain⟨a,vs,fs,e,q,r,g⟩:=q3_;subst g
  rcases bm.mp hb with z |z
  .subst z;exact⟨_,q,rfl⟩
  .exact OTs.memM os vs fs r b z
 |.tup os,_,f,⟨a,vs,e,q,r⟩,b,hb=>OTs.memM os vs f r b hb
 |.dic ks os,_,_,q3_,b,hb=>by
  obtain⟨a,vs,fs,e,q,z,r,g⟩:=q3_;subst g
  rcases bm.mp hb with z |z
  .subst z;exact⟨_,q,rfl⟩
  .exact OTs.memM os vs fs r b z
 |.ins c ns os,_,_,q3_,b,hb=>by
  obtain⟨a,dx,vs,fs,e,q,z,r,g⟩:=q3_;subst g
  rcases bm.mp hb with z |z
  .subst z;exact⟨_,q,rfl⟩
  .exact OTs.memM os vs fs r b z
 |.jnk n,_,_,q3_,b,hb=>by
  obtain⟨a,vs,e,q,z,g⟩:=q3_;subst g;rw[ci.mp hb]
  exact⟨_,q,rfl⟩
 |.dT ks os,_,_,q3_,b,hb=>by
  obtain⟨a,vs,fs,e,q,z,r,g⟩:=q3_;subst g
  rcases bm.mp hb with z |z
  .subst z;exact⟨_,q,rfl⟩
  .exact OTs.memM os vs fs r b z
 |.at _ o,v,f,h,a,ha=>OT.memM o v f h.2 a ha
 |.any,_,_,h,a,ha=>by rw[show _=[]from h]at ha;cases ha
theorem OTs.memM:∀(os:List O) (vs:LVv) (f:LAd),OTs G Hf H os vs f->∀a∈f,∃u,H a=aa u/\g6 u=ag
 | [],_,_,h,a,ha=>by rw[h.2]at ha;cases ha
 |o::os,_,_,q3_,a,ha=>by
  obtain⟨v,r,f1,f2,e,c,h2,b⟩:=q3_;subst b
  rcases bP.mp ha with z |z
  .exact OT.memM o v f1 c a z
  .exact OTs.memM os r f2 h2 a z
end
mutual
theorem OT.repM(s:aq Hf H):∀(o:O) (v:V) (f:LAd),o.kn=ac->OT G Hf H o v f->Rep G H o.toD v
 |.fz d,_,_,_,h=>by rw[O.toD];exact h.1.up s
 |.lst os,_,_,hk,h_=>by obtain⟨a,vs,fs,e,q,r,b⟩:=h_;rw[O.kn]at hk;rw[O.toD];exact⟨a,vs,e,q,OTs.repM s os vs fs hk r⟩
 |.tup os,_,f,hk,h_=>by obtain⟨a,vs,e,q,r⟩:=h_;rw[O.kn]at hk;rw[O.toD];exact⟨a,vs,e,q,OTs.repM s os vs f hk r⟩
 |.dic ks os,_,_,hk,h_=>by obtain⟨a,vs,fs,e,q,z,r,b⟩:=h_;rw[O.kn]at hk;rw[O.toD];exact⟨a,vs,e,q,z,OTs.repM s os vs fs hk r⟩
 |.ins c ns os,_,_,hk,h_=>by obtain⟨a,dx,vs,fs,e,q,z,r,b⟩:=h_;rw[O.kn]at hk;rw[O.toD];exact⟨a,dx,vs,e,q,z,OTs.repM s os vs fs hk r⟩
 |.at _ o,v,f,hk,h=>by rw[O.kn]at hk;rw[O.toD];exact OT.repM s o v f hk h.2
 |.jnk _,_,_,hk,_=>by rw[O.kn]at hk;cases hk
 |.dT ks os,_,_,hk,h_=>by obtain⟨a,vs,fs,e,q,z,r,b⟩:=h_;rw[O.kn]at hk;rw[O.toD];exact⟨a,vs,e,q,z,OTs.repM s os vs fs hk r⟩
 |.any,_,_,hk,_=>by rw[O.kn]at hk;cases hk
theorem OTs.repM(s:aq Hf H):∀(os:List O) (vs:LVv) (f:LAd),O.kns os=ac->OTs G Hf H os vs f->ao G H (O.toDs os) vs
 | [],_,_,_,h=>by rw[O.toDs];exact h.1
 |o::os,_,_,hk,h_=>by
  obtain⟨v,r,f1,f2,e,a,h2,b⟩:=h_;rw[O.kns,cD]at hk;rw[O.toDs];exact⟨v,r,e,OT.repM s o v f1 hk.1 a,OTs.repM s os r f2 hk.2 h2⟩
end
def OT.rep{o:O}{f:LAd}(h:OT G Hf H o v f)(s:aq Hf H)(a:o.kn=ac):Rep G H o.toD v:=OT.repM s o v f a h
def OTs.fz:∀{ds:LD} {vs:LVv},ao G Hf ds vs->OTs G Hf H (ds.map .fz) vs []
 | [],_,h=>⟨h,rfl⟩
 |d::ds,_,⟨v,r,e,h1,h2⟩=>⟨v,r,[],[],e,⟨h1,rfl⟩,OTs.fz h2,rfl⟩
def wE(ds:LD):O.toDs (ds.map .fz)=ds:=by
 induction ds with
 |nil=>rfl
 |cons d ds a=>rw[bF,O.toDs,O.toD,a]
inductive Sl where
 |no
 |im (d:D)
 |own (B:LD)
 |ownd (ks:List Key) (B:LD)
 |obj (c:Str) (ns:LSt) (B:LD)
 |pin (l:Addr) (B:LD)
 |pind (l:Addr) (ks:List Key) (B:LD)
 |pino (l:Addr) (c:Str) (ns:LSt) (B:LD)
 |deep (o:O)
 |val (u:V)
nonrec abbrev LS:=List Sl
nonrec def nZ{a:Type}:LS->Option (List a):=λ_=>aa []
nonrec def kY:LS->Option Bool:=λ_=>aa ac
nonrec def kN:LS->OD:=λ_=>aa .non
nonrec def kI(i:Int):LS->OD:=λ_=>aa (.int i)
nonrec def kSt(x:Str):LS->OD:=λ_=>aa (.str x)
nonrec def kBl(b:Bool):LS->OD:=λ_=>aa (.bl b)
nonrec abbrev MF1:=LS->OD
nonrec abbrev MF2:=LS->OLD
nonrec abbrev MF4:=LS->Option Bool
abbrev Sl.isOwn:Sl->Bool
 |.own _=>ac
 |.ownd _ _=>ac
 |.obj _ _ _=>ac
 |.pin _ _=>ac
 |.pind _ _ _=>ac
 |.pino _ _ _ _=>ac
 | _=>ag
abbrev Sl.calm:Sl->Bool
 |.no=>ac
 |.im _=>ac
 | _=>ag
abbrev iI(G:Gc)(Hf H:Hp)(l:Addr):Sl->Prop
 |.own ds=>∃vs,H l=aa (.lst vs)/\ao G Hf ds vs
 |.ownd ks ds=>∃vs,H l=aa (.dK (ks.zip vs))/\ks.length=vs.length/\ao G Hf ds vs
 |.obj c ns ds=>∃dx vs,H l=aa (.ins (G.cl c) dx (ns.zip vs))/\ns.length=vs.length/\ao G Hf ds vs
 |.pin a ds=>l=a/\∃vs,H l=aa (.lst vs)/\ao G Hf ds vs
 |.pind a ks ds=>l=a/\∃vs,H l=aa (.dK (ks.zip vs))/\ks.length=vs.length/\ao G Hf ds vs
 |.pino a c ns ds=>l=a/\∃dx vs,H l=aa (.ins (G.cl c) dx (ns.zip vs))/\ns.length=vs.length/\ao G Hf ds vs
 | _=>False
variable{l:Addr}
def iI.there2{s:Sl}(h:iI G Hf H l s):∃o,H l=aa o/\g6 o=ag:=by
 cases s with
 |own ds=>obtain⟨vs,h,_⟩:=h;exact⟨_,h,rfl⟩
 |ownd ks ds=>obtain⟨vs,h,_⟩:=h;exact⟨_,h,rfl⟩
 |obj c ns ds=>obtain⟨dx,vs,h,_⟩:=h;exact⟨_,h,rfl⟩
 |pin a ds=>obtain⟨_,vs,h,_⟩:=h;exact⟨_,h,rfl⟩
 |pind a ks ds=>obtain⟨_,vs,h,_⟩:=h;exact⟨_,h,rfl⟩
 |pino a c ns ds=>obtain⟨_,dx,vs,h,_⟩:=h;exact⟨_,h,rfl⟩
 | _=>exact h.elim
def iI.up{s:Sl}(h:iI G Hf H l s)(f:aq Hf Hf')(e:∀o,H l=aa o->H' l=aa o):iI G Hf' H' l s:=by
 cases s with
 |own ds=>obtain⟨vs,h,r⟩:=h;exact⟨vs,e _ h,r.up f⟩
 |ownd ks ds=>obtain⟨vs,h,z,r⟩:=h;exact⟨vs,e _ h,z,r.up f⟩
 |obj c ns ds=>obtain⟨dx,vs,h,z,r⟩:=h;exact⟨dx,vs,e _ h,z,r.up f⟩
 |pin a ds=>obtain⟨q,vs,h,r⟩:=h;exact⟨q,vs,e _ h,r.up f⟩
 |pind a ks ds=>obtain⟨q,vs,h,z,r⟩:=h;exact⟨q,vs,e _ h,z,r.up f⟩
 |pino a c ns ds=>obtain⟨q,dx,vs,h,z,r⟩:=h;exact⟨q,dx,vs,e _ h,z,r.up f⟩
 | _=>exact h.elim
abbrev f8(G:Gc)(H0 Hf H:Hp)(v:Option V):Sl->Prop
 |.no=>True
 |.im d=>∃u,v=aa u/\Rep G Hf d u
 |.deep o=>∃u fp,v=aa u/\OT G Hf H o u fp/\fp.Nodup/\∀a∈fp,H0 a=ab/\Hf a=ab
 |.val u=>v=aa u
 |s=>∃l,v=aa (.ref l)/\H0 l=ab/\Hf l=ab/\iI G Hf H l s
variable{H0:Hp}
def f8.own{v:Option V}{s:Sl}(a:s.isOwn=ac)(h:f8 G H0 Hf H v s):∃l,v=aa (.ref l)/\H0 l=ab/\Hf l=ab/\iI G Hf H l s:=by
 cases s <;> first |exact h |cases a
def f8.ofOwn{v:Option V}{s:Sl}(a:s.isOwn=ac)(h:∃l,v=aa (.ref l)/\H0 l=ab/\Hf l=ab/\iI G Hf H l s):f8 G H0 Hf H v s:=by
 cases s <;> first |exact h |cases a
abbrev Holds(G:Gc)(Hf H:Hp)(s:Sl)(v:V)(a:Addr):Prop:=match s with
 |.deep o=>∃fp,OT G Hf H o v fp/\a∈fp
 |s=>s.isOwn=ac/\v=.ref a
def Holds.own{s:Sl}(b:s.isOwn=ac):Holds G Hf H s v a↔v=.ref a:=by
 cases s <;> first |exact⟨λh=>h.2,λh=>⟨rfl,h⟩⟩ |nomatch b
def Holds.calm{s:Sl}(h:Holds G Hf H s v a)(b:s.calm=ac):False:=by
 cases s <;> first |exact rF h.1 |nomatch b
def f8.back{s:Sl}(q:f8 G H0 Hf H (aa v) s)(k:∀o fp,s=.deep o->OT G Hf H o v fp->OT G Hf' H' o v fp)(h:Holds G Hf' H' s v a):Holds G Hf H s v a:=by
 cases s with
 |deep o=>
  obtain⟨u,fp,e,r,_⟩:=q;cases e;obtain⟨fp',b,ha⟩:=h;have:=OT.funM o v fp fp' (k o fp rfl r) b;subst this
  exact⟨fp,r,ha⟩
 | _=>exact h
def f8.there{s:Sl}(q:f8 G H0 Hf H (aa v) s)(h:Holds G Hf H s v a):∃o,H a=aa o/\g6 o=ag:=by
 cases b:s.isOwn with
 |true=>
  obtain⟨l,e,_,_,c⟩:=q.own b;cases e;cases ((Holds.own b).mp h)
  exact c.there2
 |false=>
  cases s with
  |deep o=>
   obtain⟨fp,r,ha⟩:=h
   exact OT.memM o v fp r a ha
  | _=>first |exact rF h.1 |nomatch b
structure ar(G:Gc)(Hf0 H0 Hf H:Hp)(L:St)(M:LS):Prop where
 ext:Ext Hf0 H0 Hf H
 len:L.length=M.length
 at':∀(i:Nat) (v:Option V) (s:Sl),L[i]?=aa v->M[i]?=aa s->f8 G H0 Hf H v s
 dj:∀(i j:Nat) (s t:Sl) (v w:V) (a:Addr),M[i]?=aa s->M[j]?=aa t->L[i]?=aa (aa v)->L[j]?=aa (aa w)->Holds G Hf H s v a->Holds G Hf H t w a->i=j
variable{Hf0:Hp}{M:LS}
def ar.sub(h:ar G Hf0 H0 Hf H L M):aq Hf H:=h.ext.s
def ar.inj(h:ar G Hf0 H0 Hf H L M)(i j:Nat)(s t:Sl)(l:Addr)(a:M[i]?=aa s)(b:M[j]?=aa t)(e:s.isOwn=ac)(f:t.isOwn=ac)(c:L[i]?=aa (aa (.ref l)))(d:L[j]?=aa (aa (.ref l))):i=j:=
 h.dj i j s t _ _ l a b c d ((Holds.own e).mpr rfl) ((Holds.own f).mpr rfl)
variable{ρ':LS}
def ar.re{d g:Hp}(h:ar G Hf0 H0 Hf H L M)(x:Ext d g Hf' H')(l:ρ'.length=M.length)(ha:∀(i:Nat) (v:Option V) (s:Sl),L[i]?=aa v->ρ'[i]?=aa s->f8 G g Hf' H' v s)
 (hd:∀(i:Nat) (s:Sl) (v:V) (a:Addr),ρ'[i]?=aa s->L[i]?=aa (aa v)->Holds G Hf' H' s v a->∃t,M[i]?=aa t/\Holds G Hf H t v a):ar G d g Hf' H' L ρ':=
 ⟨x,h.len.trans l.symm,ha,λi j s t v w a b c e f p q=>by
  obtain⟨r,b0,m⟩:=hd i s v a b e p;obtain⟨t0,c0,n⟩:=hd j t w a c f q;exact h.dj i j r t0 v w a b0 c0 e f m n⟩
def ar.step(h:ar G Hf0 H0 Hf H L M)(e:Ext Hf H Hf' H'):ar G Hf0 H0 Hf' H' L M:=by
 refine h.re (h.ext.trans e) rfl (λi v s a b=>?_) λi s v a b c d=>⟨s,b,(h.at' i _ s c b).back (λo fp _ r=>r.up e.f e.h) d⟩;have q:=h.at' i v s a b
 cases m:s.isOwn with
 |true=>
  obtain⟨l,g,x,y,w⟩:=q.own m;obtain⟨o,j,p⟩:=w.there2
  exact .ofOwn m ⟨l,g,x,by rw[e.n l o j p];exact y,w.up e.f λo j=>e.h _ _ j⟩
 |false=>
  cases s with
  |no=>trivial
  |im d=>obtain⟨u,g,r⟩:=q;exact⟨u,g,r.up e.f⟩
  |val u=>exact q
  |deep o=>
   obtain⟨u,fp,g,r,n,z⟩:=q;refine⟨u,fp,g,r.up e.f e.h,n,λa ha=>⟨(z a ha).1,?_⟩⟩;obtain⟨A,j,p⟩:=OT.memM o u fp r a ha;rw[e.n a A j p]
   exact(z a ha).2
  | _=>nomatch m
def ar.slot{s:Sl}(h:ar G Hf0 H0 Hf H L M)(e:M[i]?=aa s):∃v,L[i]?=aa v/\f8 G H0 Hf H v s:=by
 have hi:i<L.length:=by rw[h.len];exact(cR.mp e).1
 exact⟨L[i],by simp[hi],h.at' i _ s (by simp[hi]) e⟩
def ar.imm(h:ar G Hf0 H0 Hf H L M)(e:M[i]?=aa (.im d)):∃v,L[i]?=aa (aa v)/\Rep G Hf d v:=by
 obtain⟨v,a,u,b,r⟩:=h.slot e;subst b;exact⟨u,a,r⟩
def ar.ownAt{s:Sl}(c:s.isOwn=ac)(h:ar G Hf0 H0 Hf H L M)(e:M[i]?=aa s):∃l,L[i]?=aa (aa (.ref l))/\H0 l=ab/\Hf l=ab/\iI G Hf H l s:=by
 obtain⟨v,a,q⟩:=h.slot e;obtain⟨l,b,d⟩:=q.own c;rw[b]at a;exact⟨l,a,d⟩
variable{j:Nat}
def cC{b:Type}{l:List b}{x y:b}(h:(l.set i x)[j]?=aa y):(j=i/\y=x/\i<l.length)\/(j≠i/\l[j]?=aa y):=by
 by_cases a:j=i
 .subst a;left;have hi:j<l.length:=by have:=(cR.mp h).1;simpa using this
  rw[jV hi]at h;exact⟨rfl,(cW h).symm,hi⟩
 .right;rw[jW (d5 a)]at h;exact⟨a,h⟩
def ar.setIm(h:ar G Hf0 H0 Hf H L M)(r:Rep G Hf d v):ar G Hf0 H0 Hf H (L.set i (aa v)) (M.set i (.im d)):=by
 refine⟨h.ext,by simpa using h.len,λj u s a b=>?_,λj k s t u w l a b c d' p q=>?_⟩
 .rcases cC b with⟨e,f,_⟩ |⟨e,b⟩
  .subst e f
   rcases cC a with⟨_,f,_⟩ |⟨e,_⟩
   .subst f;exact⟨v,rfl,r⟩
   .exact absurd rfl e
  .rcases cC a with⟨f,_⟩ |⟨_,a⟩
   .exact absurd f e
   .exact h.at' j u s a b
 .rcases cC a with⟨e,f,_⟩ |⟨e,a⟩
  .subst f;exact(p.calm rfl).elim
  .rcases cC b with⟨g,f,_⟩ |⟨g,b⟩
   .subst f;exact(q.calm rfl).elim
   .rcases cC c with⟨f,_⟩ |⟨_,c⟩
    .exact absurd f e
    .rcases cC d' with⟨f,_⟩ |⟨_,d'⟩
     .exact absurd f g
     .exact h.dj j k s t u w l a b c d' p q
def ar.setNo(h:ar G Hf0 H0 Hf H L M):ar G Hf0 H0 Hf H L (M.set i .no):=by
 refine h.re h.ext (by simp) (λj u s a b=>?_) λj s v a b c d=>?_
 .rcases cC b with⟨e,f,_⟩ |⟨e,b⟩
  .subst f;trivial
  .exact h.at' j u s a b
 .rcases cC b with⟨e,f,_⟩ |⟨e,b⟩
  .subst f;exact(d.calm rfl).elim
  .exact⟨s,b,d⟩
variable{u:V}
def ar.setNew{s:Sl}(h:ar G Hf0 H0 Hf H L M)(e:Ext Hf H Hf' H')(x:f8 G H0 Hf' H' (aa u) s)(hn:∀a,Holds G Hf' H' s u a->H a=ab):
  ar G Hf0 H0 Hf' H' (L.set i (aa u)) (M.set i s):=by
 have h':=h.step e
 have no:∀j t w a,M[j]?=aa t->L[j]?=aa _->Holds G Hf' H' t w a->Holds G Hf' H' s u a->False:=λj t w a b c p q=>by
  obtain⟨o,x,_⟩:=(h.at' j _ t c b).there ((h.at' j _ t c b).back (λo fp _ r=>r.up e.f e.h) p);rw[hn a q]at x;nomatch x
 refine⟨h'.ext,by simpa using h.len,λj w t a b=>?_,λj k t t' v w l a b c d' p q=>?_⟩
 .rcases cC b with⟨e,d,_⟩ |⟨e,b⟩
  .subst e d
   rcases cC a with⟨_,d,_⟩ |⟨e,_⟩
   .subst d;exact x
   .exact absurd rfl e
  .rcases cC a with⟨d,_⟩ |⟨_,a⟩
   .exact absurd d e
   .exact h'.at' j w t a b
 .rcases cC a with⟨n,y,_⟩ |⟨n,a⟩
  .rcases cC b with⟨g,m,_⟩ |⟨g,b⟩
   .rw[n,g]
   .rcases cC c with⟨_,d,_⟩ |⟨d,_⟩
    .cases d;rw[y]at p
     rcases cC d' with⟨d,_⟩ |⟨_,d'⟩
     .exact absurd d g
     .exact(no k t' w l b d' q p).elim
    .exact absurd n d
  .rcases cC c with⟨d,_⟩ |⟨_,c⟩
   .exact absurd d n
   .rcases cC b with⟨g,m,_⟩ |⟨g,b⟩
    .rcases cC d' with⟨_,d,_⟩ |⟨d,_⟩
     .cases d;rw[m]at q;exact(no j t v l a c p q).elim
     .exact absurd g d
    .rcases cC d' with⟨d,_⟩ |⟨_,d'⟩
     .exact absurd d g
     .exact h'.dj j k t t' v w l a b c d' p q
def ar.setOwn{s:Sl}(b:s.isOwn=ac)(h:ar G Hf0 H0 Hf H L M)(e:Ext Hf H Hf' H')(hn:H l=ab)(c:Hf' l=ab)(d:iI G Hf' H' l s):
  ar G Hf0 H0 Hf' H' (L.set i (aa (.ref l))) (M.set i s):=
 h.setNew e (.ofOwn b ⟨l,rfl,h.ext.h.free hn,c,d⟩) λa p=>by cases (Holds.own b).mp p;exact hn
def ar.chg{s s':Sl}(h:ar G Hf0 H0 Hf H L M)(e:M[i]?=aa s)(el:L[i]?=aa (aa v))(k:∀b u,H b=aa u->Holds G Hf H s v b\/H' b=aa u)(ho:f8 G H0 Hf H' (aa v) s')
 (hh:∀a,Holds G Hf H' s' v a->Holds G Hf H s v a\/∀(j:Nat) (t:Sl) (w:V),M[j]?=aa t->L[j]?=aa (aa w)->Holds G Hf H t w a->False):ar G Hf0 H0 Hf H' L (M.set i s'):=by
 have q:=h.at' i _ s el e
 have gone:∀b,Holds G Hf H s v b->H0 b=ab/\Hf b=ab:=λb p=>by
  cases hs:s.isOwn with
  |true=>
   obtain⟨l,J,h0,hf,_⟩:=q.own hs;have m:=(Holds.own hs).mp p
   grind
  |false=>
   cases s with
   |deep o=>
    obtain⟨u,fp,J,r,n,z⟩:=q;cases J;obtain⟨fp',r',ha⟩:=p;have:=OT.funM o v fp fp' r r'
    grind
   | _=>first |exact rF p.1 |nomatch hs
 have fr:∀j t w,j≠i->M[j]?=aa t->L[j]?=aa (aa w)->∀o fp,t=.deep o->OT G Hf H o w fp->OT G Hf H' o w fp:=λj t w hj b c o fp et r=>by
  subst et;refine r.frame (aq.refl _) λx u hx hm=>?_
  rcases k x u hx with z |z
  .rcases hm with hm |hm
   .obtain⟨o',C,ht'⟩:=q.there z
    grind
   .exact absurd (h.dj j i _ s w v x b e c el ⟨fp,r,hm⟩ z) hj
  .lia
 refine⟨⟨h.ext.f,λb u e=>?_,λb u e=>?_,h.ext.n⟩,by simpa using h.len,λj u t a b=>?_,λj Q t t' w U a b c b' E p p'=>?_⟩
 .rcases k b u (h.ext.h b u e)with z |z
  .grind
  .lia
 .rcases k b u (h.ext.s b u e)with z |z
  .grind
  .lia
 .rcases cC b with⟨I,m,_⟩ |⟨en,b⟩
  .subst I m;rw[el]at a;cases a;exact ho
  .have T:=h.at' j u t a b
   cases N:t.isOwn with
   |false=>
    cases t with
    |no=>trivial
    |im d=>exact T
    |val u=>exact T
    |deep o=>
     obtain⟨w,fp,J,r,n,z⟩:=T;subst J
     exact⟨w,fp,rfl,fr j _ w en b a o fp rfl r,n,z⟩
    | _=>nomatch N
   |true=>
    obtain⟨l2,m,e3,e4,q2⟩:=T.own N;subst m;refine .ofOwn N ⟨l2,rfl,e3,e4,q2.up (aq.refl _) λo' C=>?_⟩
    rcases k l2 o' C with z |z
    .exact absurd (h.dj j i t s _ v l2 b e a el ((Holds.own N).mpr rfl) z) en
    .exact z
 .have g:∀j t w,_[j]?=aa t->L[j]?=aa (aa w)->Holds G Hf H' t w a->(j=i/\∀j t w,M[j]?=aa t->L[j]?=aa (aa w)->Holds G Hf H t w a->False)\/∃t0,M[j]?=aa t0/\Holds G Hf H t0 w a:=λj t w b y p=>by
   rcases cC b with⟨I,m,_⟩ |⟨en,b⟩
   .rw[m]at p;rw[I,el]at y;cases y;rw[I]
    rcases hh a p with z |z
    .exact .inr ⟨s,e,z⟩
    .exact .inl ⟨rfl,z⟩
   .exact .inr ⟨t,b,(h.at' j _ t y b).back (fr j t w en b y) p⟩
  rcases g j t w b b' p with⟨Y,z2⟩ |⟨t0,Y,z2⟩
  .rcases g Q t' U c E p' with⟨A,B⟩ |⟨t1,A,B⟩
   .rw[Y,A]
   .exact(z2 Q t1 U A E B).elim
  .rcases g Q t' U c E p' with⟨A,B⟩ |⟨t1,A,B⟩
   .exact(B j t0 w Y b' z2).elim
   .exact h.dj j Q t0 t1 w U a Y A b' E z2 B
def ar.chgX{s l:Sl}(h:ar G Hf0 H0 Hf H L M)(x:Ext Hf H Hf' H1)(e:M[i]?=aa s)(el:L[i]?=aa (aa v))(k:∀b u,H1 b=aa u->Holds G Hf H s v b\/H' b=aa u)(d:f8 G H0 Hf' H' (aa v) l)
 (m:∀a,Holds G Hf' H' l v a->Holds G Hf H s v a\/H a=ab):ar G Hf0 H0 Hf' H' L (M.set i l):=by
 have up:∀b,Holds G Hf H s v b->Holds G Hf' H1 s v b:=λb p=>by
  cases s with
  |deep o=>obtain⟨fp,r,g⟩:=p;exact⟨fp,r.up x.f x.h,g⟩
  | _=>exact p
 refine(h.step x).chg e el (λb u g=>(k b u g).imp_left (up b)) d λa p=>?_
 rcases m a p with z |z
 .exact .inl (up a z)
 .refine .inr λj t w b c q=>?_;obtain⟨o,d,_⟩:=(h.at' j _ t c b).there ((h.at' j _ t c b).back (λo fp _ r=>r.up x.f x.h) q);rw[z]at d
  nomatch d
def ar.mutd{s f:Sl}{o:HO}(d:s.isOwn=ac)(c:f.isOwn=ac)(h:ar G Hf0 H0 Hf H L M)(e:M[i]?=aa s)(el:L[i]?=aa (aa (.ref l)))(v:iI G Hf (upd H l o) l f):
  ar G Hf0 H0 Hf (upd H l o) L (M.set i f):=by
 obtain⟨w,g,m,r,q⟩:=h.ownAt d e;rw[el]at g;cases g;refine h.chg e el (λb u n=>?_) (.ofOwn c ⟨l,rfl,m,r,v⟩) λa p=>.inl ((Holds.own d).mpr ((Holds.own c).mp p))
 by_cases j:b=l
 .subst j;exact .inl ((Holds.own d).mpr rfl)
 .exact .inr (by rw[aI j];exact n)
def ar.fixd{s:Sl}{o:HO}(C:s.isOwn=ac)(h:ar G Hf0 H0 Hf H L M)(e:M[i]?=aa s)(el:L[i]?=aa (aa (.ref l)))(Y:H l=aa o)(hr:Rep G (upd Hf l o) d (.ref l)):
  ar G Hf0 H0 (upd Hf l o) H L (M.set i (.im d)):=by
 obtain⟨l',f,U,g,q⟩:=h.ownAt C e;rw[el]at f;cases f;refine h.re (h.ext.fix U g Y) (by simp) (λj u t a b=>?_) λj t v a b c p=>?_
 .rcases cC b with⟨e,A,_⟩ |⟨en,b⟩
  .subst e A;rw[el]at a;cases a;exact⟨_,rfl,hr⟩
  .have q:=h.at' j u t a b
   cases m:t.isOwn with
   |false=>
    cases t with
    |no=>trivial
    |im d=>obtain⟨J,f,r⟩:=q;exact⟨J,f,r.up (bG g)⟩
    |val J=>exact q
    |deep o=>
     obtain⟨w,fp,f,r,n,z⟩:=q;subst f;refine⟨w,fp,rfl,r.up (bG g) (aq.refl _),n,λx E=>⟨(z x E).1,?_⟩⟩;rw[aI (λy=>?_)]
     .exact(z x E).2
     .subst y
      exact en (h.dj j i _ s w _ x b e a el ⟨fp,r,E⟩ ((Holds.own C).mpr rfl))
    | _=>nomatch m
   |true=>
    obtain⟨I,N,Q,T,q2⟩:=q.own m;subst N;refine .ofOwn m ⟨I,rfl,Q,?_,q2.up (bG g) λo' B=>B⟩;rw[aI (λz=>?_)]
    .exact T
    .subst z;exact en (h.inj j i t s I b e m C a el)
 .rcases cC b with⟨_,A,_⟩ |⟨_,b⟩
  .subst A;exact(p.calm rfl).elim
  .exact⟨t,b,(h.at' j _ t c b).back (λo fp _ r=>r.up (bG g) (aq.refl _)) p⟩
def PE.imp{t':TE}(h:PE X e t)(i:∀L H Q,t' L H Q->t L H Q):PE X e t':=λU s L H Q I q=>h U s L H Q I (i L H Q q)
variable{t':TT}
def PT.imp{t:TT}(h:PT X e t)(i:∀L H Q,t' L H Q->t L H Q):PT X e t':=λU s L H Q I q=>h U s L H Q I (i L H Q q)
def PW.imp{t:TT}(h:PW X e t)(i:∀L H Q,t' L H Q->t L H Q):PW X e t':=λwh U s L H Q I q=>h wh U s L H Q I (i L H Q q)
variable{es:LEx}
def PA.imp{t t':TA}(h:PA X es t)(i:∀L H Q,t' L H Q->t L H Q):PA X es t':=λpos U s L H Q I q=>h pos U s L H Q I (i L H Q q)
def PS.imp{st:Stmt}{t t':TS}(h:PS X st t)(i:∀U4 L H,t' U4 L H->t U4 L H):PS X st t':=λU s L H U4 I q=>h U s L H U4 I (i U4 L H q)
def PSs.imp{st:List Stmt}{t t':TS}(h:PSs X st t)(i:∀U4 L H,t' U4 L H->t U4 L H):PSs X st t':=λU s L H U4 I q=>h U s L H U4 I (i U4 L H q)
def PG.imp{t t':TG}(h:PG X e t)(i:∀v L H Q,t' v L H Q->t v L H Q):PG X e t':=λU s L H v u Q I r q=>h U s L H v u Q I r (i v L H Q q)
def PGs.imp{t t':TGs}(h:PGs X es t)(i:∀v L H Q,t' v L H Q->t v L H Q):PGs X es t':=λU s L H v u Q I r q=>h U s L H v u Q I r (i v L H Q q)
def PI.imp{t t':TI}(h:PI X tg e t)(i:∀L H R,t' L H R->t L H R):PI X tg e t':=λU s L H R I q=>h U s L H R I (i L H R q)
def PTs.imp{t:TT}(h:PTs X c4 t)(i:∀L H Q,t' L H Q->t L H Q):PTs X c4 t':=λU s L H Q I q=>h U s L H Q I (i L H Q q)
def OpR.imp{f:Value->Value->Sem Value}{r a:R2}(h:OpR X f r)(i:∀x y H Q,a x y H Q->r x y H Q):OpR X f a:=λU s L H x y v u Q I b c q=>h U s L H x y v u Q I b c (i x y H Q q)
def gZ.imp{f:Value}{r a:LVv->Hp->VK->Prop}(h:gZ X f r)(i:∀B H Q,a B H Q->r B H Q):gZ X f a:=λU s L H B us Q I b q=>h U s L H B us Q I b (i B H Q q)
nonrec def Gx(c:Str->Addr)(X:Cx):Gc:=⟨X.K,c⟩
inductive tD(G:Gc)(f:MF1)(L:St)(H:Hp)(Q:VK):Prop
 |mk:∀Hf0 H0 Hf M d,ar G Hf0 H0 Hf H L M->f M=aa d->(∀v Hf' H',Ext Hf H Hf' H'->Rep G Hf' d v->Q v H')->tD G f L H Q
inductive tDB(G:Gc)(f:MF1)(L:St)(H:Hp)(Q:VK):Prop
 |mk:∀Hf0 H0 Hf M d,ar G Hf0 H0 Hf H L M->f M=aa d->(∀v Hf' H',Ext Hf H Hf' H'->Rep G H' d v->Q v H')->tDB G f L H Q
inductive tDC(G:Gc)(f:MF2)(L:St)(H:Hp)(Q:VK):Prop
 |mk:∀Hf0 H0 Hf M ds,ar G Hf0 H0 Hf H L M->f M=aa ds->(∀a vs Hf' H',Ext Hf H Hf' H'->(SqL G.K H' a vs\/SqT G.K H' a vs)->ao G Hf' ds vs->Q (.ref a) H')->tDC G f L H Q
inductive tDO(G:Gc)(f:MF2)(L:St)(H:Hp)(Q:VK):Prop
 |mk:∀Hf0 H0 Hf M ds,ar G Hf0 H0 Hf H L M->f M=aa ds->(∀l vs Hf' H',Ext Hf H Hf' H'->H l=ab->Hf' l=ab->H' l=aa (.lst vs)->ao G Hf' ds vs->Q (.ref l) H')->tDO G f L H Q
inductive tDA(G:Gc)(f:MF2)(L:St)(H:Hp)(Q:LVv->Hp->Prop):Prop
 |mk:∀Hf0 H0 Hf M ds,ar G Hf0 H0 Hf H L M->f M=aa ds->(∀vs Hf' H',Ext Hf H Hf' H'->ao G Hf' ds vs->Q vs H')->tDA G f L H Q
inductive Dx(G:Gc)(f:MF2)(L:St)(H:Hp)(Q:LVv->Hp->Prop):Prop
 |mk:∀Hf0 H0 Hf M ds,ar G Hf0 H0 Hf H L M->f M=aa ds->(∀vs Hf' H',Ext Hf H Hf' H'->ao G H' ds vs->Q vs H')->Dx G f L H Q
inductive tDT(G:Gc)(f:MF4)(L:St)(H:Hp)(Q:Bool->Hp->Prop):Prop
 |mk:∀Hf0 H0 Hf M b,ar G Hf0 H0 Hf H L M->f M=aa b->(∀Hf' H',Ext Hf H Hf' H'->Q b H')->tDT G f L H Q
abbrev DE(c:Str->Addr)(X:Cx)(e:Expr)(f:MF1):Prop:=PE X e (tD (Gx c X) f)
abbrev DB(c:Str->Addr)(X:Cx)(e:Expr)(f:MF1):Prop:=PE X e (tDB (Gx c X) f)
abbrev DC(c:Str->Addr)(X:Cx)(e:Expr)(f:MF2):Prop:=PE X e (tDC (Gx c X) f)
abbrev DO(c:Str->Addr)(X:Cx)(e:Expr)(f:MF2):Prop:=PE X e (tDO (Gx c X) f)
structure DA(c:Str->Addr)(X:Cx)(es:LEx)(f:MF2):Prop where
 pa:PA X es (tDA (Gx c X) f)
 len:∀M ds,f M=aa ds->ds.length=es.length
structure DAB(c:Str->Addr)(X:Cx)(es:LEx)(f:MF2):Prop where
 pa:PA X es (Dx (Gx c X) f)
 len:∀M ds,f M=aa ds->ds.length=es.length
abbrev DT(c:Str->Addr)(X:Cx)(e:Expr)(f:MF4):Prop:=PT X e (tDT (Gx c X) f)
abbrev DW(c:Str->Addr)(X:Cx)(e:Expr)(f:MF4):Prop:=PW X e (tDT (Gx c X) f)
abbrev D.scalar:D->Bool
 |.non=>ac
 |.bl _=>ac
 |.int _=>ac
 |.str _=>ac
 | _=>ag
def Rep.sc(a:d.scalar=ac)(r:Rep G H d v):Rep G H' d v:=by
 cases d <;> first |exact r |cases a
abbrev g7:D->OLD
 |.lst B=>aa B
 |.tup B=>aa B
 |.kl B=>aa B
 |.kt B=>aa B
 | _=>ab
def pG(e:g7 d=aa ds)(r:Rep G H d v):∃a vs,v=.ref a/\(SqL G.K H a vs\/SqT G.K H a vs)/\ao G H ds vs:=by
 cases d with
 |lst B=>cases e;obtain⟨a,vs,b,q,r⟩:=r;exact⟨a,vs,b,.inl (SqL.of q),r⟩
 |tup B=>cases e;obtain⟨a,vs,b,q,r⟩:=r;exact⟨a,vs,b,.inr (SqT.of q),r⟩
 |kl B=>cases e;obtain⟨a,vs,b,q,r⟩:=r;exact⟨a,vs,b,.inl q,r⟩
 |kt B=>cases e;obtain⟨a,vs,b,q,r⟩:=r;exact⟨a,vs,b,.inr q,r⟩
 | _=>nomatch e
def wF(s:aq H H')(h:SqL K H a vs\/SqT K H a vs):SqL K H' a vs\/SqT K H' a vs:=h.imp s.seq s.tup
abbrev aJ(f:MF2)(M:LS):OD:=(f M).map .lst
abbrev bn(f:MF2)(M:LS):OD:=(f M).map .tup
abbrev aV(f:MF1)(M:LS):OLD:=(f M).bind g7
abbrev ba(f g:MF1)(M:LS):OD:=(f M).or (g M)
variable{c:Str->Addr}{f:MF1}
def DE.db(h:DE c X e f):DB c X e f:=PE.imp h λL H Q b=>by
 obtain⟨Hf0,H0,Hf,M,d,st,a,k⟩:=b;exact(⟨Hf0,H0,Hf,M,d,st,a,λv Hf' H' x r=>k v Hf' H' x (r.up x.s)⟩)
def DE.dc(h:DE c X e f):DC c X e (aV f):=PE.imp h λL H Q j=>by
 obtain⟨Hf0,H0,Hf,M,ds,st,b,k⟩:=j;unfold aV at b
 cases g:f M with
 |none=>rw[g]at b;nomatch b
 |some d=>
  rw[g]at b;refine⟨Hf0,H0,Hf,M,d,st,g,λv Hf' H' x r=>?_⟩;obtain⟨a,vs,i,q,C⟩:=pG b r;subst i;exact k a vs Hf' H' x (wF x.s q) C
def DO.de{f:MF2}(h:DO c X e f):DE c X e (aJ f):=PE.imp h λL H Q j=>by
 obtain⟨Hf0,H0,Hf,M,d,st,a,k⟩:=j;unfold aJ at a
 cases b:f M with
 |none=>rw[b]at a;nomatch a
 |some ds=>
  rw[b]at a;have a:=cW a;subst a;exact⟨Hf0,H0,Hf,M,ds,st,b,λl vs Hf' H' x hn g i r=>k _ _ H' (x.fix hn g i) ⟨l,vs,rfl,aW,r.up (bG g)⟩⟩
def DO.dc{f:MF2}(h:DO c X e f):DC c X e f:=PE.imp h λL H Q d=>by
 obtain ⟨Hf0,H0,Hf,M,ds,st,a,k⟩:=d;exact (
 ⟨Hf0,H0,Hf,M,ds,st,a,λl vs Hf' H' x hn g b r=>k l vs Hf' H' x (.inl (SqL.of b)) r⟩)
def DE.orE{g:MF1}(h:DE c X e f)(h':DE c X e g):DE c X e (ba f g):=λU s L H Q I i=>by
 obtain⟨Hf0,H0,Hf,M,d,st,a,k⟩:=i;unfold ba at a
 cases b:f M with
 |some d'=>
  rw[b]at a;cases a
  exact h U s L H Q I ⟨Hf0,H0,Hf,M,_,st,b,k⟩
 |none=>
  rw[b]at a;exact h' U s L H Q I ⟨Hf0,H0,Hf,M,d,st,a,k⟩
abbrev ae(i:Nat)(M:LS):OD:=match M[i]? with
 |some (.im d)=>aa d
 | _=>ab
abbrev cG(i:Nat)(M:LS):OD:=match M[i]? with
 |some (.im d)=>aa d
 |some (.own B)=>aa (.lst B)
 |some (.ownd ks B)=>aa (.dic ks B)
 |some (.deep o)=>if o.kn then aa o.toD else ab
 | _=>ab
abbrev aw(i:Nat)(M:LS):OLD:=match M[i]? with
 |some (.im d)=>g7 d
 |some (.own B)=>aa B
 | _=>ab
def Dy(h:ae i M=aa d):M[i]?=aa (.im d):=by
 unfold ae at h
 grind
def Dz(h:PE X e (cB i)):DE c X e (ae i):=PE.imp h λL H Q f=>by
 obtain⟨Hf0,H0,Hf,M,d,st,b,k⟩:=f;obtain⟨v,a,r⟩:=st.imm (Dy b);exact⟨v,a,k v Hf H (Ext.refl st.sub) r⟩
def DD(h:PE X e (cB i)):DC c X e (aw i):=PE.imp h λL H Q j=>by
 obtain⟨Hf0,H0,Hf,M,ds,st,b,k⟩:=j;unfold aw at b
 cases es:M[i]? with
 |none=>rw[es]at b;nomatch b
 |some s=>
  rw[es]at b
  cases s with
  |im d=>
   obtain⟨v,f,r⟩:=st.imm es;obtain⟨a,vs,g,q,C⟩:=pG b r;subst g
   exact⟨_,f,k a vs Hf H (Ext.refl st.sub) (wF st.sub q) C⟩
  |own B=>
   cases b;obtain⟨l,f,_,_,vs,q,r⟩:=st.ownAt rfl es
   exact⟨_,f,k l vs Hf H (Ext.refl st.sub) (.inl (SqL.of q)) r⟩
  | _=>nomatch b
def DF(h:PE X e (cB i)):DB c X e (cG i):=PE.imp h λL H Q j=>by
 obtain⟨Hf0,H0,Hf,M,d,st,a,k⟩:=j;unfold cG at a
 cases es:M[i]? with
 |none=>simp only[es]at a;nomatch a
 |some s=>
  rw[es]at a
  cases s with
  |im d=>
   cases a;obtain⟨v,b,r⟩:=st.imm es
   exact⟨_,b,k v Hf H (Ext.refl st.sub) (r.up st.sub)⟩
  |own B=>
   cases a;obtain⟨l,b,_,_,vs,q,r⟩:=st.ownAt rfl es
   exact⟨_,b,k _ Hf H (Ext.refl st.sub) ⟨l,vs,rfl,q,r.up st.sub⟩⟩
  |ownd ks B=>
   cases a;obtain⟨l,b,_,_,vs,q,z,r⟩:=st.ownAt rfl es
   exact⟨_,b,k _ Hf H (Ext.refl st.sub) ⟨l,vs,rfl,q,z,r.up st.sub⟩⟩
  |deep o=>
   replace a:(if o.kn=ac then aa o.toD else ab)=aa d:=a;split at a
   .rename_i g;cases a;obtain⟨v,b,u,fp,f,r,_⟩:=st.slot es;subst f;exact⟨_,b,k _ Hf H (Ext.refl st.sub) (r.rep st.sub g)⟩
   .nomatch a
  | _=>nomatch a
def sO(h:PE X e (tC v))(r:∀G H,Rep G H d v):DE c X e (λ_=>aa d):=PE.imp h λL H Q b=>by
 obtain⟨Hf0,H0,Hf,M,d',st,a,k⟩:=b;cases a;exact k v Hf H (Ext.refl st.sub) (r _ _)
def DH{i:Int}{j}:DE c X (.Constant (.int i) j pos) (λ_=>aa (.int i)):=sO Cz λ_ _=>rfl
def DJ{i:Bool}{j}:DE c X (.Constant (.bool i) j pos) (λ_=>aa (.bl i)):=sO IB λ_ _=>rfl
def Lh{j}:DE c X (.Constant .none j pos) kN:=sO IC λ_ _=>rfl
def Li{i:Str}{j}:DE c X (.Constant (.str i) j pos) (λ_=>aa (.str i)):=sO ID λ_ _=>rfl
def dv(i:Nat)(b:X.N[i]?=aa x:=by rfl)(hv:Vis X.env.scope x:=by first |exact bS rfl |exact bw (bS rfl) |exact bw (bw rfl))(hd:NDb x:=by decide)
 (a:NCd x:=by decide):DE c X (.Name x pos) (ae i):=Dz (lM b hv hd a)
def dvC(i:Nat)(b:X.N[i]?=aa x:=by rfl)(hv:Vis X.env.scope x:=by first |exact bS rfl |exact bw (bS rfl) |exact bw (bw rfl))(hd:NDb x:=by decide)
 (a:NCd x:=by decide):DC c X (.Name x pos) (aw i):=DD (lM b hv hd a)
def dvB(i:Nat)(b:X.N[i]?=aa x:=by rfl)(hv:Vis X.env.scope x:=by first |exact bS rfl |exact bw (bS rfl) |exact bw (bw rfl))(hd:NDb x:=by decide)
 (a:NCd x:=by decide):DB c X (.Name x pos) (cG i):=DF (lM b hv hd a)
abbrev af(f:MF1)(g:MF2)(M:LS):OLD:=(f M).bind λd=>(g M).map λds=>d::ds
variable{g:MF2}
def sP(h:af f g M=aa ds):∃d r,f M=aa d/\g M=aa r/\ds=d::r:=by
 unfold af at h
 cases a:f M with
 |none=>rw[a]at h;nomatch h
 |some d=>
  cases b:g M with
  |none=>rw[a,b]at h;nomatch h
  |some r=>rw[a,b]at h;cases h;exact⟨d,r,rfl,rfl,rfl⟩
def Lj:DA c X [] nZ:=⟨PA.imp dM λL H Q b=>by obtain⟨Hf0,H0,Hf,M,ds,st,a,k⟩:=b;cases a;exact k [] Hf H (Ext.refl st.sub) rfl,λM ds h=>by cases h;rfl⟩
def ku(ha:DE c X e f)(hr:DA c X es g)(m:StE X e es:=by rfl):DA c X (e::es) (af f g):=by
 refine⟨PA.imp (eA ha hr.pa m) λL H Q n=>?_,λM ds h=>?_⟩
 .obtain⟨Hf0,H0,Hf,M,ds,st,l,k⟩:=n;obtain⟨d,r,b,a,rfl⟩:=sP l;exact⟨Hf0,H0,Hf,M,d,st,b,λv b4 H1 i p=>⟨Hf0,H0,b4,M,r,st.step i,a,λvs b3 H2 j q=>k _ b3 H2 (i.trans j) (.cons (p.up j.f) q)⟩⟩
 .obtain⟨d,r,b,a,rfl⟩:=sP h;simp[hr.len M r a]
def Lk:DAB c X [] nZ:=⟨PA.imp dM λL H Q b=>by obtain⟨Hf0,H0,Hf,M,ds,st,a,k⟩:=b;cases a;exact k [] Hf H (Ext.refl st.sub) rfl,λM ds h=>by cases h;rfl⟩
def pH(ha:DB c X e f)(hr:DAB c X es g)(m:StE X e es:=by rfl):DAB c X (e::es) (af f g):=by
 refine⟨PA.imp (eA ha hr.pa m) λL H Q n=>?_,λM ds h=>?_⟩
 .obtain⟨Hf0,H0,Hf,M,ds,st,l,k⟩:=n;obtain⟨d,r,b,a,rfl⟩:=sP l;exact⟨Hf0,H0,Hf,M,d,st,b,λv b4 H1 i p=>⟨Hf0,H0,b4,M,r,st.step i,a,λvs b3 H2 j q=>k _ b3 H2 (i.trans j) (.cons (p.up j.h) q)⟩⟩
 .obtain⟨d,r,b,a,rfl⟩:=sP h;simp[hr.len M r a]
def DK{f:MF2}(h:DA c X es f)(hz:es.length<=1000:=by exact Nat.le_of_ble_eq_true rfl):DO c X (.List es pos) f:=PE.imp (sE h.pa) λL H Q d=>by
 obtain ⟨Hf0,H0,Hf,M,ds,st,b,k⟩:=d;exact (
 ⟨Hf0,H0,Hf,M,ds,st,b,λvs Hf' H' x r=>⟨by
  rw[<- r.length,h.len M ds b];exact eM (Dg hz),λp a=>k p vs Hf' _ (x.trans (Ext.tmp x.s a)) (x.h.free a) (x.s.free a) aW r⟩⟩)
def DM{f:MF2}{g:Nat}(h:DA c X es f)(hz:es.length<=1000:=by exact Nat.le_of_ble_eq_true rfl):DE c X (.Tuple es g pos) (bn f):=PE.imp (Kc h.pa) λL H Q i=>by
 obtain⟨Hf0,H0,Hf,M,d,st,a,k⟩:=i;unfold bn at a
 cases b:f M with
 |none=>rw[b]at a;nomatch a
 |some ds=>
  rw[b]at a;have a:=cW a;subst a
  exact⟨Hf0,H0,Hf,M,ds,st,b,λvs Hf' H' x r=>⟨by
   rw[<- r.length,h.len M ds b];exact eM (Dg hz),λp e=>k _ _ _ (x.trans (Ext.new x.s e)) ⟨p,vs,rfl,aW,r.up (bG (x.s.free e))⟩⟩⟩
abbrev rD(G:Gc)(m:D->D->OD):R2:=λa b H Q=>∃Hf x y d,aq Hf H/\Rep G Hf x a/\Rep G Hf y b/\m x y=aa d/\∀v Hf' H',Ext Hf H Hf' H'->Rep G Hf' d v->Q v H'
nonrec abbrev OpD(c:Str->Addr)(X:Cx)(f:Value->Value->Sem Value)(m:D->D->OD):Prop:=OpR X f (rD (Gx c X) m)
abbrev m2(m:D->D->OD)(f g:MF1)(M:LS):OD:=(f M).bind λx=>(g M).bind λy=>m x y
variable{m:D->D->OD}{g:MF1}
def lS(h:m2 m f g M=aa d):∃x y,f M=aa x/\g M=aa y/\m x y=aa d:=by
 unfold m2 at h
 cases a:f M with
 |none=>rw[a]at h;nomatch h
 |some x=>
  cases b:g M with
  |none=>rw[a,b]at h;nomatch h
  |some y=>rw[a,b]at h;exact⟨x,y,rfl,rfl,h⟩
variable{r:R2}
def two(hr:∀x y H Q,rD (Gx c X) m x y H Q->r x y H Q)(h:tD (Gx c X) (m2 m f g) L H Q):tOp r (tD (Gx c X) f) (tD (Gx c X) g) L H Q:=by
 obtain⟨Hf0,H0,Hf,M,d,st,p,k⟩:=h;obtain⟨x,y,j,l,n⟩:=lS p;exact⟨Hf0,H0,Hf,M,x,st,j,λv b4 H1 e q=>⟨Hf0,H0,b4,M,y,st.step e,l,λu b3 H2 b z=>hr _ _ _ _ ⟨b3,x,y,d,b.s,q.up b.f,z,n,λw a i B A=>k w a i ((e.trans b).trans B) A⟩⟩⟩
def DN(hr:∀x y H Q,rD (Gx c X) m x y H Q->r x y H Q)(q:∀x y d,m x y=aa d->d.scalar=ac)(h:tD (Gx c X) (m2 m f g) L H Q):tOp r (tDB (Gx c X) f) (tDB (Gx c X) g) L H Q:=by
 obtain⟨Hf0,H0,Hf,M,d,st,p,k⟩:=h;obtain⟨x,y,l,n,b⟩:=lS p
 exact⟨Hf0,H0,Hf,M,x,st,l,λv b4 H1 e z=>⟨Hf0,H0,b4,M,y,st.step e,n,λu b3 H2 a A=>hr _ _ _ _ ⟨H2,x,y,d,aq.refl _,z.up a.h,A,b,λw j i C B=>
  k w b3 i ((e.trans a).trans (Ext.grow a.s C.h)) (B.sc (q _ _ _ b))⟩⟩⟩
variable{a b:Expr}
def wG{op:Operator}(e:OpD c X (eY op) m)(ha:DE c X a f)(d:DE c X b g):DE c X (.BinOp a op b pos) (m2 m f g):=
 PE.imp (CH e ha d) λ_ _ _ h=>two (λ_ _ _ _ h=>h) h
variable{op:CmpOp}
def Ll(i:OpD c X (cE op) m)(j:∀x y d,m x y=aa d->d.scalar=ac)(ha:DB c X a f)(e:DB c X b g)(hm:j4 op b=ag:=by first |exact CK _ |rfl):
  DE c X (.Compare a [op] [b] pos) (m2 m f g):=PE.imp (JK i ha e hm) λ_ _ _ h=>DN (λ_ _ _ _ h=>h) j h
abbrev mB(f:MF1)(M:LS):Option Bool:=(f M).bind λd=>match d with
 |.bl b=>aa b
 | _=>ab
def sQ{b:Bool}(h:mB f M=aa b):f M=aa (.bl b):=by
 unfold mB at h
 cases e:f M with
 |none=>rw[e]at h;nomatch h
 |some d=>rw[e]at h;cases d <;> cases h;rfl
def nB(j:OpD c X (cE op) m)(l:∀x y d,m x y=aa d->d.scalar=ac)(ha:DB c X a f)(i:DB c X b g)(hm:j4 op b=ag:=by first |exact CK _ |rfl):
  DT c X (.Compare a [op] [b] pos) (mB (m2 m f g)):=PT.imp (JM j ha i hm) λL H Q n=>by
 obtain ⟨Hf0,H0,Hf,M,b,st,e,k⟩:=n;exact (
 DN (λ_ _ _ _ h=>h) l ⟨Hf0,H0,Hf,M,.bl b,st,sQ e,λv Hf' H' x r=>⟨b,r,k Hf' H' x⟩⟩)
abbrev lT:D->Option Bool
 |.non=>aa ag
 |.bl b=>aa b
 |.int i=>aa (i != 0)
 |.str x=>if x.length<=16777216 then aa ((x.length:Int) != 0) else ab
 |.lst B=>aa (!B.isEmpty)
 |.tup B=>aa (!B.isEmpty)
 |.kl B=>aa (!B.isEmpty)
 |.kt B=>aa (!B.isEmpty)
 |.dic ks _=>aa (!ks.isEmpty)
 | _=>ab
def ao.empty(r:ao G H ds vs):ds.isEmpty=vs.isEmpty:=by
 cases ds with
 |nil=>cases (r);rfl
 |cons d ds=>obtain⟨v,a,e,_⟩:=r;subst e;rfl
def Lm{a b:Type}{ks:List a}{vs:List b}(h:ks.length=vs.length):(ks.zip vs).isEmpty=ks.isEmpty:=by
 cases ks <;> cases vs <;> first |rfl |cases h
def Ln{b:Bool}(e:lT d=aa b)(r:Rep G H d v):vP G.K v H b:=by
 cases d with
 |non=>cases e;subst r;rfl
 |bl x=>cases e;subst r;rfl
 |int i=>cases e;subst r;rfl
 |str x=>
  subst r;replace e:(if x.length<=16777216 then aa _ else ab)=aa b:=e;split at e
  .rename_i f;cases e;exact⟨by rw[cX];exact f,rfl⟩
  .grind
 |lst B=>cases e;obtain⟨a,vs,c,q,r⟩:=r;subst c;exact .inl ⟨vs,SqL.of q,by rw[r.empty]⟩
 |tup B=>cases e;obtain⟨a,vs,c,q,r⟩:=r;subst c;exact .inr (.inl ⟨vs,SqT.of q,by rw[r.empty]⟩)
 |kl B=>cases e;obtain⟨a,vs,c,q,r⟩:=r;subst c;exact .inl ⟨vs,q,by rw[r.empty]⟩
 |kt B=>cases e;obtain⟨a,vs,c,q,r⟩:=r;subst c;exact .inr (.inl ⟨vs,q,by rw[r.empty]⟩)
 |dic ks B=>cases e;obtain⟨a,vs,c,q,l,r⟩:=r;subst c;exact .inr (.inr ⟨_,q,by rw[Lm l]⟩)
 |ins _ _ _=>nomatch e
 |kd _ _=>nomatch e
 |dT _ _=>nomatch e
abbrev bz(f:MF1)(M:LS):Option Bool:=(f M).bind lT
def sR(ha:DB c X a f)(i:∀e,isTrue a X.env e=(do let v <- e;fZ a.pos;d7 [v] (truthy v)):=by intro _;rfl):DT c X a (bz f):=
 PT.imp (JP ha i) λL H Q j=>by
  obtain⟨Hf0,H0,Hf,M,b,st,g,k⟩:=j;unfold bz at g
  cases h:f M with
  |none=>rw[h]at g;nomatch g
  |some d=>
   rw[h]at g;exact⟨Hf0,H0,Hf,M,d,st,h,λv Hf' H' x r=>⟨b,Ln g r,k Hf' H' x⟩⟩
abbrev df(f g:MF4)(M:LS):Option Bool:=(f M).bind λb=>if b then g M else aa ag
abbrev mOr(f g:MF4)(M:LS):Option Bool:=(f M).bind λb=>if b then aa ac else g M
abbrev eP(f:MF4)(M:LS):Option Bool:=(f M).map not
variable{f:MF4}
def DW.dt(h:DW c X e f):DT c X e f:=PW.pt h
def wH(h:DT c X a f):DW c X (.BoolOp .And [a] pos) f:=II h
def DQ(h:DT c X a f):DW c X (.BoolOp .Or [a] pos) f:=IJ h
def wI{g:MF4}{rest:LEx}(h:DT c X a f)(h':DW c X (.BoolOp .And (b::rest) pos) g):DW c X (.BoolOp .And (a::b::rest) pos) (df f g):=PW.imp (IK h h') λL H Q j=>by
 obtain⟨Hf0,H0,Hf,M,b,st,d,k⟩:=j;unfold df at d
 cases e:f M with
 |none=>rw[e]at d;nomatch d
 |some x=>
  rw[e]at d;refine⟨Hf0,H0,Hf,M,x,st,e,λb4 H1 i=>?_⟩
  cases x with
  |true=>rw[if_pos rfl];exact⟨Hf0,H0,b4,M,b,st.step i,d,λb3 H2 l=>k b3 H2 (i.trans l)⟩
  |false=>cases d;rw[if_neg bx];exact k b4 H1 i
def sS{g:MF4}{rest:LEx}(h:DT c X a f)(h':DW c X (.BoolOp .Or (b::rest) pos) g):DW c X (.BoolOp .Or (a::b::rest) pos) (mOr f g):=PW.imp (IL h h') λL H Q j=>by
 obtain⟨Hf0,H0,Hf,M,b,st,d,k⟩:=j;unfold mOr at d
 cases e:f M with
 |none=>rw[e]at d;nomatch d
 |some x=>
  rw[e]at d;refine⟨Hf0,H0,Hf,M,x,st,e,λb4 H1 i=>?_⟩
  cases x with
  |false=>rw[if_neg bx];exact⟨Hf0,H0,b4,M,b,st.step i,d,λb3 H2 l=>k b3 H2 (i.trans l)⟩
  |true=>cases d;rw[if_pos rfl];exact k b4 H1 i
def DR(h:DT c X a f):DT c X (.UnaryOp .Not a pos) (eP f):=PT.imp (IM h) λL H Q g=>by
 obtain⟨Hf0,H0,Hf,M,b,st,d,k⟩:=g;unfold eP at d
 cases e:f M with
 |none=>rw[e]at d;nomatch d
 |some x=>
  rw[e]at d;cases d;exact⟨Hf0,H0,Hf,M,x,st,e,λb4 H1 i=>k b4 H1 i⟩
abbrev gG(f g:MF1)(M:LS):OD:=(mB f M).bind λb=>if b then g M else aa (.bl ag)
abbrev vOr(f g:MF1)(M:LS):OD:=(mB f M).bind λb=>if b then aa (.bl ac) else g M
abbrev lU(f:MF1)(M:LS):OD:=(mB f M).map λb=>.bl (!b)
variable{f:MF1}
def DU{op}(h:DE c X a f):DE c X (.BoolOp op [a] pos) f:=IR h
def DV{rest:LEx}(h:DE c X a f)(h':DE c X (.BoolOp .And (b::rest) pos) g):DE c X (.BoolOp .And (a::b::rest) pos) (gG f g):=PE.imp (IS h h') λL H Q l=>by
 obtain⟨Hf0,H0,Hf,M,d,st,e,k⟩:=l;unfold gG at e
 cases i:mB f M with
 |none=>rw[i]at e;nomatch e
 |some x=>
  rw[i]at e;refine⟨Hf0,H0,Hf,M,.bl x,st,sQ i,λv b4 H1 j m=>⟨x,m,?_⟩⟩
  cases x with
  |true=>rw[if_pos rfl];exact⟨Hf0,H0,b4,M,d,st.step j,e,λv b3 H2 p n=>k v b3 H2 (j.trans p) n⟩
  |false=>cases e;rw[if_neg bx];exact k _ b4 H1 j rfl
def Lo{rest:LEx}(h:DE c X a f)(h':DE c X (.BoolOp .Or (b::rest) pos) g):DE c X (.BoolOp .Or (a::b::rest) pos) (vOr f g):=PE.imp (IT h h') λL H Q l=>by
 obtain⟨Hf0,H0,Hf,M,d,st,e,k⟩:=l;unfold vOr at e
 cases i:mB f M with
 |none=>rw[i]at e;nomatch e
 |some x=>
  rw[i]at e;refine⟨Hf0,H0,Hf,M,.bl x,st,sQ i,λv b4 H1 j m=>⟨x,m,?_⟩⟩
  cases x with
  |false=>rw[if_neg bx];exact⟨Hf0,H0,b4,M,d,st.step j,e,λv b3 H2 p n=>k v b3 H2 (j.trans p) n⟩
  |true=>cases e;rw[if_pos rfl];exact k _ b4 H1 j rfl
def DY(h:DE c X a f):DE c X (.UnaryOp .Not a pos) (lU f):=PE.imp (IU h) λL H Q g=>by
 obtain⟨Hf0,H0,Hf,M,d,st,b,k⟩:=g;unfold lU at b
 cases e:mB f M with
 |none=>rw[e]at b;nomatch b
 |some x=>
  rw[e]at b;cases b;exact⟨Hf0,H0,Hf,M,.bl x,st,sQ e,λv b4 H1 j i=>⟨x,i,k _ b4 H1 j rfl⟩⟩
abbrev vIf(t:MF4)(f g:MF1)(M:LS):OD:=(t M).bind λb=>if b then f M else g M
variable{cd:Expr}
def D0{t:MF4}(m:DT c X cd t)(ha:DE c X a f)(l:DE c X b g):DE c X (.IfExp cd a b pos) (vIf t f g):=PE.imp (CA m ha l) λL H Q n=>by
 obtain⟨Hf0,H0,Hf,M,d,st,e,k⟩:=n;unfold vIf at e
 cases i:t M with
 |none=>rw[i]at e;nomatch e
 |some x=>
  rw[i]at e;refine⟨Hf0,H0,Hf,M,x,st,i,λb4 H1 h=>?_⟩
  cases x with
  |true=>rw[if_pos rfl];exact⟨Hf0,H0,b4,M,d,st.step h,e,λv b3 H2 j r=>k v b3 H2 (h.trans j) r⟩
  |false=>rw[if_neg bx];exact⟨Hf0,H0,b4,M,d,st.step h,e,λv b3 H2 j r=>k v b3 H2 (h.trans j) r⟩
noncomputable instance {i j:Int}:Decidable (pf i j):=by unfold pf;infer_instance
noncomputable instance {i j:Int}:Decidable (ki i j):=by unfold ki;infer_instance
noncomputable instance {i j:Int}:Decidable (ph i j):=by unfold ph;infer_instance
abbrev dI(U5:Int->Int->Prop)[∀i j,Decidable (U5 i j)](g:Int->Int->D):D->D->OD
 |.int i,.int j=>if U5 i j then aa (g i j) else ab
 | _,_=>ab
abbrev dI0(g:Int->Int->D):D->D->OD
 |.int i,.int j=>aa (g i j)
 | _,_=>ab
abbrev dN:D->D->OD
 |.int i,.int j=>aa (.int (i+j))
 |.str a,.str b=>if a.length+b.length<=16777216 then aa (.str (a++b)) else ab
 |.lst a,.lst b=>if a.length+b.length<=16777216 then aa (.lst (a++b)) else ab
 | _,_=>ab
nonrec def ja:D->D->OD:=dI0 λi j=>.int (i-j)
nonrec def jF:D->D->OD:=dI pf λi j=>.int (i / j)
nonrec def bT:D->D->OD:=dI (λ_ j=>0<j) λi j=>.int (i % j)
nonrec def nC:D->D->OD:=dI ki λi j=>.int (i ^ j.toNat)
nonrec def dLt:D->D->OD:=dI0 λi j=>.bl (decide (i<j))
nonrec def dLe:D->D->OD:=dI0 λi j=>.bl (decide (i<=j))
nonrec def dGt:D->D->OD:=dI0 λi j=>.bl (decide (j<i))
nonrec def dGe:D->D->OD:=dI0 λi j=>.bl (decide (j<=i))
variable{gd:Int->Int->D}
def sT{f:Value->Value->Sem Value}{U5:Int->Int->Prop}[∀i j,Decidable (U5 i j)]{g:Int->Int->V}(h:OpR X f (rI U5 g))(b:∀G H i j,Rep G H (gd i j) (g i j)):OpD c X f (dI U5 gd):=by
 rintro U s L H r w v u Q I n p ⟨Hf,x,y,d,q,l,m,e,k⟩;unfold dI at e;split at e
 .split at e
  .rename_i a;cases e;exact h U s L H r w v u Q I n p ⟨_,_,l,m,a,k _ Hf H (Ext.refl q) (b _ _ _ _)⟩
  .nomatch e
 .nomatch e
def pI{f:Value->Value->Sem Value}{g:Int->Int->V}(h:OpR X f (rI0 g))(a:∀G H i j,Rep G H (gd i j) (g i j)):OpD c X f (dI0 gd):=by
 rintro U s L H q r v u Q I m n ⟨Hf,x,y,d,p,b,l,e,k⟩;unfold dI0 at e;split at e
 .cases e;exact h U s L H q r v u Q I m n ⟨_,_,b,l,k _ Hf H (Ext.refl p) (a _ _ _ _)⟩
 .grind
def Lp:OpD c X (eY .Add) dN:=by
 rintro U s L H m n v u Q I j l ⟨Hf,x,y,d,h,f,g,e,k⟩;unfold dN at e;split at e
 .cases e;exact Jw U s L H m n v u Q I j l ⟨_,_,f,g,k _ Hf H (Ext.refl h) rfl⟩
 .split at e
  .rename_i i;cases e;exact JQ U s L H m n v u Q I j l ⟨_,_,f,g,by rw[cX];exact i,k _ Hf H (Ext.refl h) rfl⟩
  .grind
 .split at e
  .rename_i i;cases e;obtain⟨a,vs,r,z,f⟩:=f;obtain⟨b,us,w,A,g⟩:=g
   exact Dd U s L H m n v u Q I j l ⟨a,b,vs,us,r,w,h _ _ z,h _ _ A,by rw[cX,<- f.length,<- g.length];exact i,
    λp q=>k _ _ _ (Ext.new h q) ⟨p,_,rfl,aW,(f.append g).up (bG (h.free q))⟩⟩
  .grind
 .grind
def Lq:OpD c X (eY .Sub) ja:=pI Jx λ_ _ _ _=>rfl
def Lr:OpD c X (eY .FloorDiv) jF:=sT Jy λ_ _ _ _=>rfl
def Lu:OpD c X (eY .Mod) bT:=sT Jz λ_ _ _ _=>rfl
def Lv:OpD c X (eY .Pow) nC:=sT JA λ_ _ _ _=>rfl
def Lw:OpD c X (cE .Lt) dLt:=pI JE λ_ _ _ _=>rfl
def Lx:OpD c X (cE .LtE) dLe:=pI JF λ_ _ _ _=>rfl
def Ly:OpD c X (cE .Gt) dGt:=pI JG λ_ _ _ _=>rfl
def Lz:OpD c X (cE .GtE) dGe:=pI JH λ_ _ _ _=>rfl
def sU{g:Int->Int->D}(a:∀i j,(g i j).scalar=ac):∀x y d,dI0 g x y=aa d->d.scalar=ac:=by
 intro x y d e;unfold dI0 at e
 grind
def LA:∀x y d,dLt x y=aa d->d.scalar=ac:=sU λ_ _=>rfl
def LB:∀x y d,dLe x y=aa d->d.scalar=ac:=sU λ_ _=>rfl
def LC:∀x y d,dGt x y=aa d->d.scalar=ac:=sU λ_ _=>rfl
def LF:∀x y d,dGe x y=aa d->d.scalar=ac:=sU λ_ _=>rfl
abbrev pJ:D->OD
 |.int i=>aa (.int (-i))
 | _=>ab
abbrev m1(m:D->OD)(f:MF1)(M:LS):OD:=(f M).bind m
def LG(ha:DE c X a f):DE c X (.UnaryOp .USub a pos) (m1 pJ f):=PE.imp (Jv JB ha) λL H Q g=>by
 obtain⟨Hf0,H0,Hf,M,d,st,b,k⟩:=g;unfold m1 at b
 cases e:f M with
 |none=>rw[e]at b;nomatch b
 |some y=>
  rw[e]at b
  cases y with
  |int i=>cases b;exact⟨Hf0,H0,Hf,M,.int i,st,e,λv Hf' H' x r=>⟨i,r,k _ Hf' H' x rfl⟩⟩
  | _=>nomatch b
abbrev D3:D->Bool
 |.non=>ac
 | _=>ag
def D4{x:D}(r:Rep G H x v):decide (v=.non)=D3 x:=by
 cases x with
 |non=>subst r;rfl
 |bl b=>subst r;rfl
 |int i=>subst r;rfl
 |str x=>subst r;rfl
 |lst _=>obtain⟨a,_,e,_⟩:=r;subst e;rfl
 |tup _=>obtain⟨a,_,e,_⟩:=r;subst e;rfl
 |kl _=>obtain⟨a,_,e,_⟩:=r;subst e;rfl
 |kt _=>obtain⟨a,_,e,_⟩:=r;subst e;rfl
 |dic _ _=>obtain⟨a,_,e,_⟩:=r;subst e;rfl
 |ins _ _ _=>obtain⟨a,_,_,e,_⟩:=r;subst e;rfl
 |kd _ _=>obtain⟨a,_,_,e,_⟩:=r;subst e;rfl
 |dT _ _=>obtain⟨a,_,e,_⟩:=r;subst e;rfl
abbrev isD(x y:D):Option Bool:=match y with
 |.non=>aa (D3 x)
 |.bl b=>match x with
  |.non=>aa ag
  |.bl a=>aa (a==b)
  | _=>ab
 | _=>ab
abbrev dIs(x y:D):OD:=(isD x y).map .bl
abbrev fM(x y:D):OD:=(isD x y).map λb=>.bl (!b)
def D5:OpD c X (cE .Is) dIs:=by
 rintro U s L H m l v u Q I h i ⟨Hf,x,y,d,j,f,g,e,k⟩
 cases y with
 |non=>
  cases e
  exact JI U s L H m l v u Q I h i ⟨g,by rw[D4 f];exact k _ Hf H (Ext.refl j) rfl⟩
 |bl b=>
  cases x with
  |non=>cases e;subst f;exact Du U s L H _ l v u Q I h i ⟨b,g,.inl rfl,k _ Hf H (Ext.refl j) rfl⟩
  |bl a=>cases e;subst f;exact Du U s L H _ l v u Q I h i ⟨b,g,.inr ⟨a,rfl⟩,by rw[pi];exact k _ Hf H (Ext.refl j) rfl⟩
  | _=>nomatch e
 | _=>nomatch e
def LH:OpD c X (cE .IsNot) fM:=by
 rintro U s L H m l v u Q I h i ⟨Hf,x,y,d,j,f,g,e,k⟩
 cases y with
 |non=>
  cases e
  exact JJ U s L H m l v u Q I h i ⟨g,by rw[D4 f];exact k _ Hf H (Ext.refl j) rfl⟩
 |bl b=>
  cases x with
  |non=>cases e;subst f;exact Dv U s L H _ l v u Q I h i ⟨b,g,.inl rfl,k _ Hf H (Ext.refl j) rfl⟩
  |bl a=>cases e;subst f;exact Dv U s L H _ l v u Q I h i ⟨b,g,.inr ⟨a,rfl⟩,by rw[pi];exact k _ Hf H (Ext.refl j) rfl⟩
  | _=>nomatch e
 | _=>nomatch e
def nE{x:Option Bool}{g:Bool->Bool}:∀d,x.map (λb=>D.bl (g b))=aa d->d.scalar=ac:=by
 intro d e
 cases x with
 |none=>nomatch e
 |some b=>cases e;rfl
def D6:∀x y d,dIs x y=aa d->d.scalar=ac:=λ_ _ d e=>nE d e
def LI:∀x y d,fM x y=aa d->d.scalar=ac:=λ_ _ d e=>nE d e
abbrev eqF:D->D->Bool
 |.non,.non=>ac
 |.bl a,.bl b=>a==b
 |.int a,.int b=>a==b
 |.str a,.str b=>a==b
 | _,_=>ag
abbrev cH(f:D->D->Option Bool):LD->LD->Option Bool
 | [],[]=>aa ac
 |x::B,y::ys=>(f x y).bind λb=>(cH f B ys).map λr=>b && r
 | _,_=>aa ag
abbrev wJ:D->D->Bool
 |.bl _,.int _=>ac
 |.int _,.bl _=>ac
 | _,_=>ag
abbrev lV(f:D->D->Option Bool):D->D->Option Bool
 |.lst B,.lst ys=>if B.length=ys.length then cH f B ys else aa ag
 |.tup B,.tup ys=>if B.length=ys.length then cH f B ys else ab
 |x,y=>if x.scalar && y.scalar && !wJ x y then aa (eqF x y) else ab
abbrev deq:Nat->D->D->Option Bool
 | 0,_,_=>ab
 |n+1,x,y=>lV (deq n) x y
abbrev dEq(x y:D):OD:=(deq 20 x y).map .bl
abbrev dNe(x y:D):OD:=(deq 20 x y).map λb=>.bl (!b)
def LJ:∀x y d,dEq x y=aa d->d.scalar=ac:=λ_ _ d e=>nE d e
def LK:∀x y d,dNe x y=aa d->d.scalar=ac:=λ_ _ d e=>nE d e
variable{x y:D}{B ys:LD}{b:Bool}
def sV{f:D->D->Option Bool}(h:cH f (x::B) (y::ys)=aa b):∃a c,f x y=aa a/\cH f B ys=aa c/\b=(a && c):=by
 dsimp only[cH]at h
 cases d:f x y with
 |none=>rw[d]at h;nomatch h
 |some a=>
  cases e:cH f B ys with
  |none=>rw[d,e]at h;nomatch h
  |some c=>rw[d,e]at h;cases h;exact⟨a,c,rfl,rfl,rfl⟩
def lW{f:D->D->Option Bool}:∀{B ys:LD} {b:Bool},B.length=ys.length->cH f B ys=aa b->∃e:Nat->Bool,(∀j x y,B[j]?=aa x->ys[j]?=aa y->f x y=aa (e j))/\(bI B.length).all e=b
 | [],[],b,_,h=>by cases h;exact⟨λ_=>ac,λj x y e=>by simp at e,rfl⟩
 |x::B,y::ys,b,hl,h=>by
  obtain⟨c,m,d,h2,rfl⟩:=sV h;obtain⟨e,g,ha⟩:=lW (by simpa using hl) h2
  refine⟨λj=>match j with | 0=>c |j+1=>e j,λj i l ex a=>?_,?_⟩
  .cases j with
   |zero=>simp at ex a;subst ex a;exact d
   |succ j=>exact g j i l (by simpa using ex) (by simpa using a)
  .rw[bO,range_succ_eq_map,lx,all_map,<- ha]
   rfl
 | [],_::_,_,hl,_=>by cases hl
 | _::_,[],_,hl,_=>by cases hl
def sW(s:d.scalar=ac):d=.non\/(∃b,d=.bl b)\/(∃i,d=.int i)\/∃z,d=.str z:=by
 cases d with
 |non=>exact .inl rfl
 |bl b=>exact .inr (.inl ⟨b,rfl⟩)
 |int i=>exact .inr (.inr (.inl ⟨i,rfl⟩))
 |str z=>exact .inr (.inr (.inr ⟨z,rfl⟩))
 | _=>nomatch s
def sX(c:(x.scalar && y.scalar && !wJ x y)=ac)(d:Rep G H x v)(e:Rep G H y u):e9 v=ac/\e9 u=ac/\eqV v u=eqF x y/\vM v u=ac/\decide (v=u)=eqF x y:=by
 rw[cD,cD]at c
 rcases sW c.1.1 with rfl |⟨a,rfl⟩ |⟨a,rfl⟩ |⟨a,rfl⟩ <;> rcases sW c.1.2 with rfl |⟨b,rfl⟩ |⟨b,rfl⟩ |⟨b,rfl⟩ <;> first
  |(cases c.2;done)
  |(subst d;subst e;refine⟨rfl,rfl,rfl,rfl,?_⟩;first |exact pi |exact vN |exact vO |rfl)
variable{n:Nat}
def sY(a:¬(∃B ys,x=.lst B/\y=.lst ys)/\¬(∃B ys,x=.tup B/\y=.tup ys))(h:deq (n+1) x y=aa b):(x.scalar && y.scalar && !wJ x y)=ac/\b=eqF x y:=by
 replace h:lV _ x y=aa b:=h;unfold lV at h;split at h
 .exact absurd ⟨_,_,rfl,rfl⟩ a.1
 .exact absurd ⟨_,_,rfl,rfl⟩ a.2
 .split at h
  .rename_i c;cases h;exact⟨c,rfl⟩
  .nomatch h
def D7:∀(n:Nat) {x y:D} {b:Bool} {v:V},deq n x y=aa b->Rep G H x v->Rep G H y v->b=ac:=by
 intro n
 induction n with
 |zero=>intro x y b v h;nomatch h
 |succ n L=>
  have all:∀(B ys:LD) vs b,ao G H B vs->ao G H ys vs->cH (deq n) B ys=aa b->b=ac:=by
   intro B
   induction B with
   |nil=>
    intro ys vs b d c h;cases (d);have:ys=[]:=rL.mp c.length;subst this
    cases h;rfl
   |cons x B m=>
    intro ys vs b d c h;obtain⟨v,r,e,I,h2⟩:=d;subst e
    cases ys with
    |nil=>cases (c)
    |cons y ys=>
     obtain⟨Q,N,e,j,l⟩:=c;cases e;obtain⟨M,A,C,E,rfl⟩:=sV h;rw[L C I j,m ys _ A h2 l E];rfl
  intro x y b v h d c
  by_cases u:∃B ys,x=.lst B/\y=.lst ys
  .obtain⟨B,ys,rfl,rfl⟩:=u;obtain⟨a,vs,e,q,d⟩:=d;obtain⟨z,p,i,g,c⟩:=c;subst e;cases i;rw[q]at g;cases g;have f:=d.length.trans c.length.symm;replace h:(if B.length=ys.length then cH _ B ys else aa ag)=aa b:=h;rw[if_pos f]at h;exact all B ys vs b d c h
  .by_cases w:∃B ys,x=.tup B/\y=.tup ys
   .obtain⟨B,ys,rfl,rfl⟩:=w;obtain⟨a,vs,e,q,d⟩:=d;obtain⟨z,p,i,g,c⟩:=c;subst e;cases i;rw[q]at g;cases g;replace h:(if B.length=ys.length then cH _ B ys else ab)=aa b:=h;rw[if_pos (d.length.trans c.length.symm)]at h;exact all B ys vs b d c h
   .obtain⟨J,rfl⟩:=sY ⟨u,w⟩ h;obtain⟨_,_,_,_,e⟩:=sX J d c;rw[<- e];exact decide_eq_true rfl
variable{us:LVv}
def nF{s:ah}{E a:LVa}{e:Nat->Bool}(C:ao G H B vs)(I:ao G H ys us)(r:aE vs E)(z:aE us a)
 (p:∀j x y,B[j]?=aa x->ys[j]?=aa y->deq n x y=aa (e j))
 (q:∀{x y:D} {b:Bool} {v u:V} {w g:Value},deq n x y=aa b->Rep G H x v->Rep G H y u->az v w->az u g->ca A s w g b):
  ∀j (f:j<E.toArray.size) (h2:j<a.toArray.size),ca A s E.toArray[j] a.toArray[j] (e j):=λj f h2=>by
 have c:j<E.length:=by simpa using f
 have d:j<a.length:=by simpa using h2
 obtain⟨v,l,L⟩:=r.at' (i:=j) (u:=E[j]) (by simp[c]);obtain⟨u,h,J⟩:=z.at' (i:=j) (u:=a[j]) (by simp[d]);obtain⟨x,ex,M⟩:=C.get' l;obtain⟨y,m,N⟩:=I.get' h;exact q (p j x y ex m) M N L J
def wK{s:ah}(I:Inv X U L H s):∀(n:Nat) {A:bW} {x y:D} {b:Bool} {v u:V} {w z:Value},A.units+n<cLine->deq n x y=aa b->Rep (Gx c X) H x v->Rep (Gx c X) H y u->az v w->az u z->ca A s w z b:=by
 intro n
 induction n with
 |zero=>intro A x y b v u w z _ h;nomatch h
 |succ n ih=>
  intro A x y b v u w z hu h r1 r2 rv ru;have C:∀{x y:D} {b:Bool} {v u:V} {w z:Value},deq n x y=aa b->Rep _ H x v->Rep _ H y u->az v w->az u z->ca A.in1 s w z b:=λh a b c d=>ih (by rw[pc];lia) h a b c d
  by_cases hl:∃B ys,x=.lst B/\y=.lst ys
  .obtain⟨B,ys,rfl,rfl⟩:=hl;obtain⟨a,vs,e,q,f⟩:=id r1;obtain⟨N,r,Q,G,g⟩:=id r2;subst e Q;cases rv;subst ru
   by_cases j:a=N
   .subst j;have:=D7 _ h (⟨a,vs,rfl,q,f⟩) ⟨a,r,rfl,G,g⟩;subst this;exact vt _
   .refine ca.of_refs j ?_;obtain⟨E,J,M,hz⟩:=I.list (SqL.of q);obtain⟨p,l,m,hz2⟩:=I.list (SqL.of G);have l1:=J.length;have l2:=l.length;have l3:=f.length;have l4:=g.length;replace h:(if B.length=ys.length then cH _ B ys else aa ag)=aa b:=h;split at h
    .rename_i i;obtain⟨ee,T,ha⟩:=lW i h;have:=SeqAt.RcAt.lists M.isList m.isList (by simp only[size_toArray];lia) (by lia) (nF f g J l T C);rw[size_toArray,<- l1,<- l3,ha]at this;exact this
    .rename_i i;cases h;exact SeqAt.RcAt.lists_lengths M.isList m.isList (by simp only[size_toArray,bne_iff_ne];lia) (by lia)
  .by_cases ht:∃B ys,x=.tup B/\y=.tup ys
   .obtain⟨B,ys,rfl,rfl⟩:=ht;obtain⟨a,vs,e,q,f⟩:=id r1;obtain⟨N,r,Q,G,g⟩:=id r2;subst e Q;subst rv;subst ru
    by_cases j:a=N
    .subst j;have:=D7 _ h (⟨a,vs,rfl,q,f⟩) ⟨a,r,rfl,G,g⟩;subst this;exact vt _
    .refine ca.of_refs j ?_;obtain⟨E,J,M,hz⟩:=I.tuple (SqT.of q);obtain⟨p,l,m,hz2⟩:=I.tuple (SqT.of G);have l1:=J.length;have l2:=l.length;have l3:=f.length;have l4:=g.length;replace h:(if B.length=ys.length then cH _ B ys else ab)=aa b:=h;split at h
     .rename_i i;obtain⟨ee,T,ha⟩:=lW i h;have:=SeqAt.RcAt.tuples (M) (m) (by lia) (nF f g J l T C);have Y:E.toArray.size=p.toArray.size:=by simp only[size_toArray];lia
      rw[<- Y,Nat.min_self,beq_self_eq_true,oN,size_toArray,<- l1,<- l3,ha]at this;exact this
     .nomatch h
   .obtain⟨hs,rfl⟩:=sY ⟨hl,ht⟩ h;obtain⟨f1,f2,e,_,_⟩:=sX hs r1 r2;rw[<- e];exact C9 rv ru f1 f2
def LL(hu:X.A.units+64<cLine):OpD c X (cE .Eq) dEq:=by
 rintro U s L H v u w G Q I rv ru ⟨Hf,x,y,d,s0,p,r,e,k⟩;unfold dEq at e
 cases h:deq 20 x y with
 |none=>rw[h]at e;nomatch e
 |some b=>
  rw[h]at e;cases e;have q0:=k _ Hf H (Ext.refl s0) rfl;have fin:EP X U L Q _ s:=⟨.bl b,H,I,rfl,q0⟩;have p:=p.up s0;have r:=r.up s0;have n:∀{x y:D} {b:Bool} {v u:V} {w G:Value},deq 19 x y=aa b->Rep _ H x v->Rep (Gx c X) H y u->az v w->az u G->ca X.A.in1 s w G b:=λh a b c d=>wK I 19 (by rw[pc];lia) h a b c d
  by_cases hl:∃B ys,x=.lst B/\y=.lst ys
  .obtain⟨B,ys,rfl,rfl⟩:=hl;obtain⟨a,vs,e,q,i⟩:=id p;obtain⟨a',vs',J,q',j⟩:=id r;subst e J;cases rv;subst ru;obtain⟨E,z,C,hz⟩:=I.list (SqL.of q);obtain⟨m,g,l,Y⟩:=I.list (SqL.of q');have l1:=z.length;have l2:=g.length;have l3:=i.length;have l4:=j.length;replace h:(if B.length=ys.length then cH _ B ys else aa ag)=aa b:=h;split at h
   .rename_i f;obtain⟨ee,M,ha⟩:=lW f h;refine SeqAt.eq_listAt C.isList l.isList (by simp only[size_toArray];lia) (by lia) (nF i j z g M n) ?_;rw[size_toArray,<- l1,<- l3,ha];exact fin
   .rename_i f;cases h;exact SeqAt.eq_list_lengthsAt C.isList l.isList (by simp only[size_toArray,bne_iff_ne];lia) (by lia) fin
  .by_cases ht:∃B ys,x=.tup B/\y=.tup ys
   .obtain⟨B,ys,rfl,rfl⟩:=ht;obtain⟨a,vs,e,q,i⟩:=id p;obtain⟨a',vs',J,q',j⟩:=id r;subst e J;subst rv;subst ru;obtain⟨E,z,C,hz⟩:=I.tuple (SqT.of q);obtain⟨m,g,l,Y⟩:=I.tuple (SqT.of q');have l1:=z.length;have l2:=g.length;have l3:=i.length;have l4:=j.length;replace h:(if B.length=ys.length then cH _ B ys else ab)=aa b:=h;split at h
    .rename_i f;obtain⟨ee,M,ha⟩:=lW f h;refine SeqAt.eq_tupleAt (C) (l) (by lia) (nF i j z g M n) ?_;have T:E.toArray.size=m.toArray.size:=by simp only[size_toArray];lia
     simp only[<- T,Nat.min_self,beq_self_eq_true,oN,size_toArray,<- l1,<- l3,ha];exact fin
    .nomatch h
   .obtain⟨hs,rfl⟩:=sY ⟨hl,ht⟩ h;obtain⟨_,_,_,N,e⟩:=sX hs p r;exact JC U s L H v u w G Q I rv ru ⟨N,by rw[e];exact q0⟩
def LM(hu:X.A.units+64<cLine):OpD c X (cE .NotEq) dNe:=by
 rintro U s L H v u w G Q I rv ru ⟨Hf,x,y,d,s0,p,r,e,k⟩;unfold dNe at e
 cases h:deq 20 x y with
 |none=>rw[h]at e;nomatch e
 |some b=>
  rw[h]at e;cases e;have q0:=k _ Hf H (Ext.refl s0) rfl;have fin:EP X U L Q _ s:=⟨.bl (!b),H,I,rfl,q0⟩;have p:=p.up s0;have r:=r.up s0;have n:∀{x y:D} {b:Bool} {v u:V} {w G:Value},deq 19 x y=aa b->Rep _ H x v->Rep (Gx c X) H y u->az v w->az u G->ca X.A.in1 s w G b:=λh a b c d=>wK I 19 (by rw[pc];lia) h a b c d
  by_cases hl:∃B ys,x=.lst B/\y=.lst ys
  .obtain⟨B,ys,rfl,rfl⟩:=hl;obtain⟨a,vs,e,q,i⟩:=id p;obtain⟨a',vs',J,q',j⟩:=id r;subst e J;cases rv;subst ru;obtain⟨E,z,C,hz⟩:=I.list (SqL.of q);obtain⟨m,g,l,Y⟩:=I.list (SqL.of q');have l1:=z.length;have l2:=g.length;have l3:=i.length;have l4:=j.length;replace h:(if B.length=ys.length then cH _ B ys else aa ag)=aa b:=h;split at h
   .rename_i f;obtain⟨ee,M,ha⟩:=lW f h;refine SeqAt.RcNeAt.lists C.isList l.isList (by simp only[size_toArray];lia) (by lia) (nF i j z g M n) X.prog X.w X.xe _ ?_;rw[size_toArray,<- l1,<- l3,ha];exact fin
   .rename_i f;cases h;exact SeqAt.RcNeAt.lists_lengths C.isList l.isList (by simp only[size_toArray,bne_iff_ne];lia) (by lia) X.prog X.w X.xe _ fin
  .by_cases ht:∃B ys,x=.tup B/\y=.tup ys
   .obtain⟨B,ys,rfl,rfl⟩:=ht;obtain⟨a,vs,e,q,i⟩:=id p;obtain⟨a',vs',J,q',j⟩:=id r;subst e J;subst rv;subst ru;obtain⟨E,z,C,hz⟩:=I.tuple (SqT.of q);obtain⟨m,g,l,Y⟩:=I.tuple (SqT.of q');have l1:=z.length;have l2:=g.length;have l3:=i.length;have l4:=j.length;replace h:(if B.length=ys.length then cH _ B ys else ab)=aa b:=h;split at h
    .rename_i f;obtain⟨ee,M,ha⟩:=lW f h;refine SeqAt.RcNeAt.tuples (C) (l) (by lia) (nF i j z g M n) X.prog X.w X.xe _ ?_;have T:E.toArray.size=m.toArray.size:=by simp only[size_toArray];lia
     simp only[<- T,Nat.min_self,beq_self_eq_true,oN,size_toArray,<- l1,<- l3,ha];exact fin
    .nomatch h
   .obtain⟨hs,rfl⟩:=sY ⟨hl,ht⟩ h;obtain⟨_,_,_,N,e⟩:=sX hs p r;exact JD U s L H v u w G Q I rv ru ⟨N,by rw[e];exact q0⟩
abbrev eqX:D->D->Bool
 |.non,.non=>ac
 |.bl a,.bl b=>a==b
 |.bl a,.int b=>(if a then 1 else 0)==b
 |.int a,.bl b=>a==(if b then 1 else 0)
 |.int a,.int b=>a==b
 |.str a,.str b=>a==b
 | _,_=>ag
abbrev inD(x y:D):Option Bool:=(g7 y).bind λds=>if x.scalar && ds.all D.scalar then aa (ds.any λd=>eqX d x) else ab
abbrev lX(x y:D):OD:=(inD x y).map λb=>.bl (!b)
def LO:∀x y d,lX x y=aa d->d.scalar=ac:=λ_ _ d e=>nE d e
def LP(c:x.scalar=ac)(d:y.scalar=ac)(e:Rep G H x v)(f:Rep G H y u):e9 v=ac/\e9 u=ac/\eqV v u=eqX x y:=by
 rcases sW c with rfl |⟨a,rfl⟩ |⟨a,rfl⟩ |⟨a,rfl⟩ <;> rcases sW d with rfl |⟨b,rfl⟩ |⟨b,rfl⟩ |⟨b,rfl⟩ <;> (subst e;subst f;exact⟨rfl,rfl,rfl⟩)
def D8{G:Gc}{H:Hp}{x:D}{v:V}(b:x.scalar=ac)(r:Rep G H x v):∀{ds:LD} {vs:LVv},ds.all D.scalar=ac->ao G H ds vs->vs.all e9=ac/\inV v vs=ds.any λd=>eqX d x
 | [],_,_,h=>by cases (h);exact⟨rfl,rfl⟩
 |d::ds,_,ha,q3_=>by
  obtain⟨u,g,e,f,h2⟩:=q3_;subst e;simp only[lx,cD]at ha;obtain⟨f1,f2,e⟩:=LP ha.1 b f r;obtain⟨c,a⟩:=D8 b r ha.2 h2;refine⟨by simp only[lx,f1,c];rfl,?_⟩;unfold inV at a ⊢;simp only[fY,fY,e,a]
def LQ(e:inD x y=aa b)(d:Rep G H x v)(j:Rep G H y u):∃p vs,u=.ref p/\(SqL G.K H p vs\/SqT G.K H p vs)/\e9 v=ac/\vs.all e9=ac/\inV v vs=b:=by
 unfold inD at e
 cases es:g7 y with
 |none=>rw[es]at e;nomatch e
 |some ds=>
  rw[es]at e;replace e:(if _=ac then aa _ else ab)=aa b:=e;split at e
  .rename_i c;cases e;rw[cD]at c;obtain⟨a,vs,g,q,r⟩:=pG es j;obtain⟨h,i⟩:=D8 c.1 d c.2 r
   have f:e9 v=ac:=by cases x <;> first |(subst d;rfl) |(cases c.1)
   exact⟨a,vs,g,q,f,h,i⟩
  .nomatch e
def LR:OpD c X (cE .NotIn) lX:=by
 rintro U s L H v u w n Q I m l ⟨Hf,x,y,d,a,i,j,e,k⟩;unfold lX at e
 cases h:inD x y with
 |none=>rw[h]at e;nomatch e
 |some b=>
  rw[h]at e;cases e;obtain⟨p,vs,f,q,f1,f2,g⟩:=LQ h (i.up a) (j.up a);refine Kz U s L H v u w n Q I m l ⟨p,vs,f,q,f1,f2,?_⟩;rw[if_pos rfl,g];exact k _ Hf H (Ext.refl a) rfl
def LU{i:Int}(h:atI ds i=aa d)(r:ao G H ds vs):∃v,atI vs i=aa v/\Rep G H d v:=by
 unfold atI at h ⊢;rw[<- r.length]
 cases e:ixN ds.length i with
 |none=>rw[e]at h;nomatch h
 |some j=>
  rw[e]at h;exact r.get h
abbrev ixD(ds:LD):D->OD
 |.int k=>atI ds k
 | _=>ab
abbrev mIx(f:MF2)(g:MF1)(M:LS):OD:=(f M).bind λds=>(g M).bind λi=>ixD ds i
variable{b:Expr}
def nG{f:MF2}(ha:DC c X a f)(y:DE c X b g)(z:C8 b:=by exact λ_ _=>rfl):DE c X (.Subscript a b pos) (mIx f g):=
 PE.imp (Ko (Ks.or Kt) ha y z) λL H Q A=>by
  obtain⟨Hf0,H0,Hf,M,d,st,e,k⟩:=A;unfold mIx at e
  cases j:f M with
  |none=>rw[j]at e;nomatch e
  |some ds=>
   cases p:g M with
   |none=>rw[j,p]at e;nomatch e
   |some i=>
    rw[j,p]at e
    cases i with
    |int n=>
     refine⟨Hf0,H0,Hf,M,ds,st,j,λl vs b4 H1 x q r=>⟨Hf0,H0,b4,M,.int n,st.step x,p,λu b3 H2 m B=>?_⟩⟩;cases (B);obtain⟨v,w,C⟩:=LU e r;have fin:=k v b3 H2 (x.trans m) (C.up m.f)
     rcases q with q |q
     .exact .inl ⟨l,vs,n,v,rfl,rfl,m.h.seq q,w,fin⟩
     .exact .inr ⟨l,vs,n,v,rfl,rfl,m.h.tup q,w,fin⟩
    | _=>nomatch e
abbrev pK(B:LD)(lo hi:Option Int):LD:=(B.drop (HT.sIx B.length 0 lo)).take (HT.sIx B.length B.length hi-HT.sIx B.length 0 lo)
abbrev lsD:D->OLD
 |.lst B=>aa B
 |.kl B=>aa B
 | _=>ab
def kz(e:lsD d=aa ds)(r:Rep G H d v):∃a vs,v=.ref a/\SqL G.K H a vs/\ao G H ds vs:=by
 cases d with
 |lst B=>cases e;obtain⟨a,vs,b,q,r⟩:=r;exact⟨a,vs,b,SqL.of q,r⟩
 |kl B=>cases e;obtain⟨a,vs,b,q,r⟩:=r;exact⟨a,vs,b,q,r⟩
 | _=>nomatch e
inductive D9(G:Gc)(f:LS->Option (Option Int))(L:St)(H:Hp)(Q:Option Int->Hp->Prop):Prop
 |mk:∀Hf0 H0 Hf M i,ar G Hf0 H0 Hf H L M->f M=aa i->(∀Hf' H',Ext Hf H Hf' H'->Q i H')->D9 G f L H Q
abbrev DPt(c:Str->Addr)(X:Cx)(e:Option Expr)(f:LS->Option (Option Int)):Prop:=PO X e (D9 (Gx c X) f)
def Ea:DPt c X ab (λ_=>aa ab):=λU s L H Q I b=>by
 obtain⟨Hf0,H0,Hf,M,i,st,a,k⟩:=b;exact(Kj U s L H Q I (by cases a;exact k Hf H (Ext.refl st.sub)))
abbrev mPt(f:MF1)(M:LS):Option (Option Int):=(f M).bind λd=>match d with
 |.int i=>aa (aa i)
 | _=>ab
def Eb(h:DE c X e f):DPt c X (aa e) (mPt f):=λU s L H Q I g=>by
 obtain⟨Hf0,H0,Hf,M,i,st,a,k⟩:=g
 exact (Kk h U s L H Q I (by
 unfold mPt at a
 cases b:f M with
 |none=>rw[b]at a;nomatch a
 |some d=>
  rw[b]at a
  cases d with
  |int n=>cases a;exact⟨Hf0,H0,Hf,M,.int n,st,b,λv Hf' H' x r=>⟨n,r,k Hf' H' x⟩⟩
  | _=>nomatch a))
abbrev mSl(f:MF1)(l h:LS->Option (Option Int))(M:LS):OLD:=(f M).bind λd=>(lsD d).bind λds=>(l M).bind λlo=>(h M).map λhi=>pK ds lo hi
def LV(r:ao G H ds vs)(lo hi:Option Int):ao G H (pK ds lo hi) (py vs lo hi):=by
 unfold pK py;rw[r.length];exact(r.drop _).take _
variable{p2:Pos}
def Ec{l h:LS->Option (Option Int)}{lo hi:Option Expr}(ha:DE c X e f)(J:DPt c X lo l)(I:DPt c X hi h):DO c X (.Subscript e (.Slice lo hi ab p2) pos) (mSl f l h):=
 PE.imp (Kl Ky ha J I) λL H Q N=>by
  obtain⟨Hf0,H0,Hf,M,C,st,b,k⟩:=N;unfold mSl at b
  cases g:f M with
  |none=>rw[g]at b;nomatch b
  |some d=>
   cases i:lsD d with
   |none=>rw[g]at b;replace b:(lsD d).bind _=_:=b;rw[i]at b;nomatch b
   |some ds=>
    cases j:l M with
    |none=>rw[g]at b;replace b:(lsD d).bind _=_:=b;rw[i,j]at b;nomatch b
    |some A=>
     cases u:h M with
     |none=>rw[g]at b;replace b:(lsD d).bind _=_:=b;rw[i,j,u]at b;nomatch b
     |some w=>
      rw[g]at b;replace b:(lsD d).bind _=_:=b;rw[i,j,u]at b;cases b;refine⟨Hf0,H0,Hf,M,d,st,g,λv b4 H1 m T=>⟨Hf0,H0,b4,M,A,st.step m,j,λb3 H2 B=>⟨Hf0,H0,b3,M,w,(st.step m).step B,u,λn U E=>?_⟩⟩⟩;obtain⟨a,vs,G,q,r⟩:=kz i T;subst G;have x:=(m.trans B).trans E;have y:=(B.trans E);exact⟨a,vs,rfl,(m.s.trans y.h).seq q,λp z=>(k p _ n _ (x.trans (Ext.tmp x.s z)) (x.h.free z) (x.s.free z) aW (LV (r.up y.f) _ _))⟩
abbrev rCD(G:Gc)(m:LD->OD):LVv->Hp->VK->Prop:=λvs H Q=>∃Hf ds d,aq Hf H/\ao G Hf ds vs/\m ds=aa d/\∀v Hf' H',Ext Hf H Hf' H'->Rep G Hf' d v->Q v H'
nonrec abbrev nH(c:Str->Addr)(X:Cx)(f:Value)(m:LD->OD):Prop:=gZ X f (rCD (Gx c X) m)
abbrev au(m:LD->OD)(f:MF2)(M:LS):OD:=(f M).bind m
variable{m:LD->OD}{f:MF2}
def pL(h:au m f M=aa d):∃ds,f M=aa ds/\m ds=aa d:=by
 unfold au at h
 cases e:f M with
 |none=>rw[e]at h;nomatch h
 |some ds=>rw[e]at h;exact⟨ds,rfl,h⟩
variable{p:Pos}{x:Str}
def LW{id:String}(j:nH c X (.builtin id) m)(n:Gl X x)(hm:X.mg x=ab)(hv:iu x=aa (.builtin id))(ha:DA c X (e::es) f)(hn:x ≠ "__name__":=by decide)(a:NDb x:=by decide)
 (l:StE X e es:=by rfl)(b:BkE X pos es:=by rfl):
  DE c X (.Call (.Name x p) (e::es) [] pos) (au m f):=PE.imp (vW j n hm hv ha.pa hn a l b) λL H Q q=>by
 obtain⟨Hf0,H0,Hf,M,d,st,i,k⟩:=q;obtain⟨ds,g,h⟩:=pL i;exact⟨Hf0,H0,Hf,M,ds,st,g,λvs Hf' H' x r=>⟨Hf',ds,d,x.s,r,h,λv b3 H2 w u=>k v b3 H2 (x.trans w) u⟩⟩
def pM{id:String}(l:nH c X (.builtin id) m)(u:∀ds d,m ds=aa d->d.scalar=ac)(q:Gl X x)(hm:X.mg x=ab)(hv:iu x=aa (.builtin id))(ha:DAB c X (e::es) f)(hn:x ≠ "__name__":=by decide)(a:NDb x:=by decide)
 (n:StE X e es:=by rfl)(b:BkE X pos es:=by rfl):
  DE c X (.Call (.Name x p) (e::es) [] pos) (au m f):=PE.imp (vW l q hm hv ha.pa hn a n b) λL H Q w=>by
 obtain⟨Hf0,H0,Hf,M,d,st,j,k⟩:=w;obtain⟨ds,i,g⟩:=pL j;exact⟨Hf0,H0,Hf,M,ds,st,i,λvs Hf' H' x r=>⟨H',ds,d,aq.refl _,r,g,λv b3 H2 z y=>k v Hf' H2 (x.trans (Ext.grow x.s z.h)) (y.sc (u _ _ g))⟩⟩
abbrev bJ:LD->OD
 | [.lst B]=>aa (.int B.length)
 | [.tup B]=>aa (.int B.length)
 | [.kl B]=>aa (.int B.length)
 | [.kt B]=>aa (.int B.length)
 | [.str x]=>if x.length<=16777216 then aa (.int x.length) else ab
 | _=>ab
def ao.one(r:ao G H [d] vs):∃v,vs=[v]/\Rep G H d v:=by
 obtain⟨v,a,e,h,q⟩:=r;cases (q);exact⟨v,e,h⟩
def Ed(e:bJ ds=aa d):∃a,ds=[a]/\((∃B,g7 a=aa B/\d=.int B.length)\/∃x,a=.str x/\x.length<=16777216/\d=.int x.length):=by
 cases ds with
 |nil=>nomatch e
 |cons a ds=>
  cases ds with
  |cons _ _=>cases a <;> nomatch e
  |nil=>
   refine⟨a,rfl,?_⟩
   cases a with
   |lst B=>cases e;exact .inl ⟨B,rfl,rfl⟩
   |tup B=>cases e;exact .inl ⟨B,rfl,rfl⟩
   |kl B=>cases e;exact .inl ⟨B,rfl,rfl⟩
   |kt B=>cases e;exact .inl ⟨B,rfl,rfl⟩
   |str x=>
    replace e:(if x.length<=16777216 then aa _ else ab)=aa d:=e
    grind
   | _=>nomatch e
def LX:nH c X (.builtin "len") bJ:=by
 rintro U s L H vs us Q I l ⟨Hf,ds,d,j,r,e,k⟩
 have sq:∀b B,ds=[b]->g7 b=aa B->d=.int B.length->wpAny _ X.A _ _ X.xe s:=λb B g es e0=>by
  subst g e0;obtain⟨v,f,i⟩:=r.one;subst f;obtain⟨a,ws,h,q,C⟩:=pG es i;subst h;refine KA U s L H _ us Q I l ⟨a,ws,rfl,wF j q,?_⟩;rw[<- C.length];exact k _ Hf H (Ext.refl j) rfl
 obtain⟨b,g,⟨B,f,h⟩ |⟨x,rfl,m,rfl⟩⟩:=Ed e
 .exact sq b B g f h
 .subst g;obtain⟨v,f,i⟩:=r.one;subst f;exact KB U s L H _ us Q I l ⟨_,by rw[show v=V.str _ from i],by rw[cX];exact m,k _ Hf H (Ext.refl j) rfl⟩
def LY:∀ds d,bJ ds=aa d->d.scalar=ac:=by
 intro ds d e
 obtain⟨a,c,⟨B,b,rfl⟩ |⟨x,rfl,f,rfl⟩⟩:=Ed e <;> rfl
abbrev f9:LD->Option (LI0)
 | []=>aa []
 |.int i::ds=>(f9 ds).map λr=>i::r
 | _=>ab
def Ee{G:Gc}{H:Hp}:∀{ds:LD} {ns:LI0} {vs:LVv},f9 ds=aa ns->ao G H ds vs->vs=ns.map V.int
 | [],_,_,e,r=>by cases e;exact r
 |.int i::ds,_,_,e,q4_=>by
  obtain⟨v,c,a,b,h2⟩:=q4_;subst a
  cases es:f9 ds with
  |none=>rw[f9,es]at e;cases e
  |some ns=>
   rw[f9,es]at e;cases e;rw[Ee es h2,show v=V.int i from b]
   rfl
 |.non::_,_,_,e,_=>by cases e
 |.bl _::_,_,_,e,_=>by cases e
 |.str _::_,_,_,e,_=>by cases e
 |.lst _::_,_,_,e,_=>by cases e
 |.tup _::_,_,_,e,_=>by cases e
 |.kl _::_,_,_,e,_=>by cases e
 |.kt _::_,_,_,e,_=>by cases e
 |.dic _ _::_,_,_,e,_=>by cases e
 |.ins _ _ _::_,_,_,e,_=>by cases e
def LZ(ns:LI0):f9 (ns.map D.int)=aa ns:=by
 induction ns with
 |nil=>rfl
 |cons n ns a=>rw[bF,f9,a];rfl
abbrev iJ:LD->OD
 | [d]=>(lsD d).bind λds=>(f9 ds).map λns=>.int ns.sum
 | _=>ab
def wL(l:X.calm=ac):nH c X (.builtin "sum") iJ:=by
 rintro U s L H vs us Q I n ⟨Hf,ds,d,g,r,e,k⟩;unfold iJ at e;split at e
 .rename_i h
  cases b:lsD h with
  |none=>rw[b]at e;nomatch e
  |some B=>
   cases f:f9 B with
   |none=>rw[b]at e;replace e:(f9 B).map _=_:=e;rw[f]at e;nomatch e
   |some ns=>
    rw[b]at e;replace e:(f9 B).map _=_:=e;rw[f]at e;cases e;obtain⟨v,j,m⟩:=r.one;subst j;obtain⟨a,ws,i,q,C⟩:=kz b m;subst i;refine Lc l U s L H _ us Q I n ⟨a,ns,rfl,?_,k _ Hf H (Ext.refl g) rfl⟩;rw[<- Ee f C];exact g.seq q
 .nomatch e
def wM:∀ds d,iJ ds=aa d->d.scalar=ac:=by
 intro ds d e;unfold iJ at e;split at e
 .rename_i c
  cases a:lsD c with
  |none=>rw[a]at e;nomatch e
  |some B=>
   rw[a]at e;replace e:(f9 B).map _=_:=e
   cases b:f9 B with
   |none=>rw[b]at e;nomatch e
   |some ns=>rw[b]at e;cases e;rfl
 .nomatch e
def pN(n:iu x=aa (.type "list"))(m:Gl X x)(hm:X.mg x=ab)(ha:DC c X e f)(i:aL [e] X.env=(ag,eval e X.env)::aL [] X.env:=by rfl)(hn:x ≠ "__name__":=by decide)(b:NDb x:=by decide)
 (g:(bZ pos (aL [] X.env)).any (·.1)=ag:=by rfl):DO c X (.Call (.Name x p) [e] [] pos) f:=
 PE.imp (Kf KC m hm n (eA ha dM i) hn b i g) λL H Q u=>by
 obtain⟨Hf0,H0,Hf,M,ds,st,j,k⟩:=u
 exact (
  ⟨Hf0,H0,Hf,M,ds,st,j,λa vs Hf' H' x q r=>⟨a,vs,rfl,q,λl d=>k l vs Hf' _ (x.trans (Ext.tmp x.s d)) (x.h.free d) (x.s.free d) aW r⟩⟩)
abbrev tyN:D->Option String
 |.non=>aa "NoneType"
 |.bl _=>aa "bool"
 |.int _=>aa "int"
 |.str _=>aa "str"
 |.lst _=>aa "list"
 |.tup _=>aa "tuple"
 |.dic _ _=>aa "dict"
 | _=>ab
abbrev wN(T:String)(d:D):OD:=(tyN d).map λt=>.bl (t==T || (t == "bool" && T == "int"))
def L4{t:String}(e:tyN d=aa t)(r:Rep G H d v):f7 G.K H v (.type t):=by
 cases d with
 |non=>cases e;subst r;exact .non
 |bl b=>cases e;subst r;exact .bl b
 |int i=>cases e;subst r;exact .int i
 |str x=>cases e;subst r;exact .str x
 |lst B=>cases e;obtain⟨a,vs,c,q,r⟩:=r;subst c;exact .lst q
 |tup B=>cases e;obtain⟨a,vs,c,q,r⟩:=r;subst c;exact .tup q
 |dic ks B=>cases e;obtain⟨a,vs,c,q,l,r⟩:=r;subst c;exact .dK q
 | _=>nomatch e
abbrev pO(K:aO)(T:String):Prop:=∀t∈["NoneType","bool","int","str","list","tuple","dict"],W.kitOne K (.type t) (.type T)=aa (t==T || (t == "bool" && T == "int"))
def L5{t:String}(e:tyN d=aa t):t∈["NoneType","bool","int","str","list","tuple","dict"]:=by
 cases d <;> first |(cases e;decide) |cases e
abbrev kA(T:String)(f:MF1)(M:LS):OD:=(f M).bind (wN T)
def Ef{f:MF1}{T:String}{b:Pos}{y:Str}(w:pO X.K T)(u:Gl X "isinstance")(hm:X.mg "isinstance"=ab)(z:iu y=aa (.type T))(j:Gl X y)(l:X.mg y=ab)(ha:DB c X e f)
 (q:aL [e,.Name y b] X.env=(ag,eval e X.env)::aL [.Name y b] X.env:=by rfl)(n:aL [.Name y b] X.env=(ag,eval (.Name y b) X.env)::aL [] X.env:=by rfl)
 (hn:y ≠ "__name__":=by decide)(i:(y==("__debug__":Str))=ag:=by decide)(m:(bZ pos (aL [.Name y b] X.env)).any (·.1)=ag:=by rfl):
  DE c X (.Call (.Name "isinstance" p) [e,.Name y b] [] pos) (kA T f):=
 PE.imp (vW Ld u hm boot_isinstance (eA ha (eA (IE (v:=.ty T) j l z rfl hn i) dM n) q) (by decide) (by decide) q m) λL H Q A=>by
  obtain⟨Hf0,H0,Hf,M,d,st,a,k⟩:=A;unfold kA at a
  cases h:f M with
  |none=>rw[h]at a;nomatch a
  |some x=>
   rw[h]at a;replace a:wN T x=aa d:=a;unfold wN at a
   cases g:tyN x with
   |none=>rw[g]at a;nomatch a
   |some t=>
    rw[g]at a;cases a;exact⟨Hf0,H0,Hf,M,x,st,h,λv Hf' H' B r=>⟨v,T,.type t,_,rfl,L4 g r,w t (L5 g),k _ Hf' H' B rfl⟩⟩
inductive tDG(G:Gc)(g:D->LS->Option LS)(v:V)(L:St)(H:Hp)(Q:St->Hp->Prop):Prop
 |mk:∀Hf0 H0 Hf M d ρ',ar G Hf0 H0 Hf H L M->Rep G Hf d v->g d M=aa ρ'->(∀σ',ar G Hf0 H0 Hf H σ' ρ'->Q σ' H)->tDG G g v L H Q
inductive Eg(G:Gc)(g:LD->LS->Option LS)(vs:LVv)(L:St)(H:Hp)(Q:St->Hp->Prop):Prop
 |mk:∀Hf0 H0 Hf M ds ρ',ar G Hf0 H0 Hf H L M->ao G Hf ds vs->g ds M=aa ρ'->(∀σ',ar G Hf0 H0 Hf H σ' ρ'->Q σ' H)->Eg G g vs L H Q
structure DG(c:Str->Addr)(X:Cx)(tg:Expr)(k:Nat)(g:D->LS->Option LS):Prop where
 pg:PG X tg (tDG (Gx c X) g)
 len:∀d M ρ',g d M=aa ρ'->ρ'.length=M.length
 keep:∀d M ρ' i,g d M=aa ρ'->k<=i->ρ'[i]?=M[i]?
structure DGs(c:Str->Addr)(X:Cx)(tg:LEx)(k:Nat)(g:LD->LS->Option LS):Prop where
 pg:PGs X tg (Eg (Gx c X) g)
 len:∀d M ρ',g d M=aa ρ'->ρ'.length=M.length
 keep:∀d M ρ' i,g d M=aa ρ'->k<=i->ρ'[i]?=M[i]?
 many:∀ds M ρ',g ds M=aa ρ'->ds.length=tg.length
abbrev ax(i:Nat)(d:D)(M:LS):Option LS:=aa (M.set i (.im d))
def Eh{i k:Nat}(h:PG X e (gD i))(g:i<k):DG c X e k (ax i):=
 ⟨PG.imp h λv L H Q b=>by obtain⟨Hf0,H0,Hf,M,d,ρ',st,r,a,q⟩:=b;cases a;exact q _ (st.setIm r),λd M ρ' h=>by cases h;simp,λd M ρ' j h f=>by
  cases h;rw[jW (by lia)]⟩
def L6(i k:Nat)(a:X.N.Nodup)(d:i<k:=by decide)(hi:X.N[i]?=aa x:=by rfl)(e:Loc X.env.scope x:=by first |exact bS rfl |exact bw rfl)(b:LcF X x:=by first |exact .inl rfl |exact .inr rfl):DG c X (.Name x pos) k (ax i):=
 Eh (vE a hi e b) d
abbrev cZ(ds:LD)(M:LS):Option LS:=match ds with
 | []=>aa M
 | _=>ab
abbrev bp(g:D->LS->Option LS)(h:LD->LS->Option LS)(ds:LD)(M:LS):Option LS:=match ds with
 |d::ds=>(g d M).bind λρ1=>h ds ρ1
 | []=>ab
def L7{k:Nat}:DGs c X [] k cZ:=by
 refine⟨PGs.imp Jc λvs L H Q f=>?_,λd M ρ' h=>?_,λd M ρ' i h _=>?_,λd M ρ' h=>?_⟩
 .obtain⟨Hf0,H0,Hf,M,ds,ρ',st,r,e,q⟩:=f
  cases ds with
  |nil=>cases e;exact⟨r,q _ st⟩
  |cons d ds=>nomatch e
 .cases d with
  |nil=>cases h;rfl
  |cons a b=>nomatch h
 .cases d with
  |nil=>cases h;rfl
  |cons a b=>nomatch h
 .cases d with
  |nil=>cases h;rfl
  |cons a b=>nomatch h
variable{h:LD->LS->Option LS}
def sZ{g:D->LS->Option LS}(e:bp g h ds M=aa ρ'):∃d r ρ1,ds=d::r/\g d M=aa ρ1/\h r ρ1=aa ρ':=by
 cases ds with
 |nil=>nomatch e
 |cons d r=>
  replace e:(g d M).bind _=_:=e
  cases a:g d M with
  |none=>rw[a]at e;nomatch e
  |some ρ1=>rw[a]at e;exact⟨d,r,ρ1,rfl,a,e⟩
def L8{k:Nat}{g:D->LS->Option LS}(j:DG c X e k g)(h2:DGs c X es k h)(n:(iw (e::es) X.env).map (·.2)=assign e X.env::(iw es X.env).map (·.2):=by rfl):DGs c X (e::es) k (bp g h):=by
 refine⟨PGs.imp (Jd j.pg h2.pg n) λvs L H Q p=>?_,λd M ρ' h=>?_,λd M ρ' i h hi=>?_,λd M ρ' h=>?_⟩
 .obtain⟨Hf0,H0,Hf,M,ds,ρ',st,r,l,q⟩:=p;obtain⟨d,f,ρ1,rfl,b,a⟩:=sZ l;obtain⟨v,x,m,w,u⟩:=r;exact⟨v,x,m,Hf0,H0,Hf,M,d,ρ1,st,w,b,λy st1=>⟨Hf0,H0,Hf,ρ1,f,ρ',st1,u,a,q⟩⟩
 .obtain⟨d,f,ρ1,rfl,b,a⟩:=sZ h;rw[h2.len _ _ _ a,j.len _ _ _ b]
 .obtain⟨d,f,ρ1,rfl,b,a⟩:=sZ h;rw[h2.keep _ _ _ _ a hi,j.keep _ _ _ _ b hi]
 .obtain⟨d,f,ρ1,rfl,b,a⟩:=sZ h;rw[bO,bO,h2.many _ _ _ a]
abbrev tpD:D->OLD
 |.tup B=>aa B
 |.kt B=>aa B
 | _=>ab
def Ei(e:tpD d=aa ds)(r:Rep G H d v):∃a vs,v=.ref a/\SqT G.K H a vs/\ao G H ds vs:=by
 cases d with
 |tup B=>cases e;obtain⟨a,vs,b,q,r⟩:=r;exact⟨a,vs,b,SqT.of q,r⟩
 |kt B=>cases e;obtain⟨a,vs,b,q,r⟩:=r;exact⟨a,vs,b,q,r⟩
 | _=>nomatch e
abbrev cN(g:LD->LS->Option LS)(d:D)(M:LS):Option LS:=(tpD d).bind λds=>g ds M
def wO{g:LD->LS->Option LS}(h:cN g d M=aa ρ'):∃ds,tpD d=aa ds/\g ds M=aa ρ':=by
 unfold cN at h
 cases e:tpD d with
 |none=>rw[e]at h;nomatch h
 |some ds=>rw[e]at h;exact⟨ds,rfl,h⟩
variable{kk:Nat}
def L9{k:Nat}{g:LD->LS->Option LS}(n:X.calm=ac)(h:DGs c X es k g)(hn:(iw es X.env).length=es.length:=by rfl)(f:(iw es X.env).findIdx? (·.1)=ab:=by rfl):DG c X (.Tuple es kk pos) k (cN g):=by
 refine⟨PG.imp (Jf n h.pg hn f) λv L H Q p=>?_,λd M ρ' h'=>?_,λd M ρ' i h' hi=>?_⟩
 .obtain⟨Hf0,H0,Hf,M,d,ρ',st,r,m,q⟩:=p;obtain⟨ds,e,b⟩:=wO m;obtain⟨a,vs,l,u,j⟩:=Ei e r;exact⟨a,vs,l,st.sub.tup u,by rw[<- j.length];exact h.many _ _ _ b,Hf0,H0,Hf,M,ds,ρ',st,j,b,q⟩
 .obtain⟨ds,e,b⟩:=wO h';exact h.len _ _ _ b
 .obtain⟨ds,e,b⟩:=wO h';exact h.keep _ _ _ _ b hi
abbrev pP(G:Gc)(Hf:Hp)(J:It)(ds:LD):Prop:=∀Hf' H',aq Hf Hf'->aq Hf' H'->∀i:Nat,
 (∀d,ds[i]?=aa d->J.go i H'/\∀x H2,J.yld i H' x H2->∃b3,Ext Hf' H' b3 H2/\Rep G b3 d x)/\(i=ds.length->J.stop i H')
abbrev s9(G:Gc)(Hf H:Hp)(J:It)(ds:LD):Prop:=∀Hf' H',Ext Hf H Hf' H'->∀i:Nat,
 (∀d,ds[i]?=aa d->J.go i H'/\∀x H2,J.yld i H' x H2->∃b3,Ext Hf' H' b3 H2/\Rep G b3 d x)/\(i=ds.length->J.stop i H')
def pP.toE(h:pP G Hf J ds):s9 G Hf H J ds:=λHf' H' x i=>h Hf' H' x.f x.s i
inductive tDI(G:Gc)(f:MF2)(L:St)(H:Hp)(R:It->Hp->Prop):Prop
 |mk:∀Hf0 H0 Hf M ds,ar G Hf0 H0 Hf H L M->f M=aa ds->(∀J Hf' H',Ext Hf H Hf' H'->pP G Hf' J ds->R J H')->tDI G f L H R
inductive wP(G:Gc)(f:MF2)(L:St)(H:Hp)(R:It->Hp->Prop):Prop
 |mk:∀Hf0 H0 Hf M ds,ar G Hf0 H0 Hf H L M->f M=aa ds->(∀J Hf' H',Ext Hf H Hf' H'->s9 G Hf' H' J ds->R J H')->wP G f L H R
abbrev DI(c:Str->Addr)(X:Cx)(tg iter:Expr)(f:MF2):Prop:=PI X tg iter (tDI (Gx c X) f)
abbrev DIe(c:Str->Addr)(X:Cx)(tg iter:Expr)(f:MF2):Prop:=PI X tg iter (wP (Gx c X) f)
def DI.de(h:DI c X tg e f):DIe c X tg e f:=PI.imp h λL H R b=>by
 obtain⟨Hf0,H0,Hf,M,ds,st,a,k⟩:=b;exact(⟨Hf0,H0,Hf,M,ds,st,a,λJ Hf' H' x i=>k J Hf' H' x i.toE⟩)
def Ej(q:SqL G.K H l vs)(r:ao G Hf ds vs):s9 G Hf H (Itl G.K l) ds:=λHf' H' b i=>by
 have a:=b.h.seq q;refine⟨λd g=>?_,λj=>⟨vs,a,by rw[<- r.length,j];grind⟩⟩;obtain⟨v,c,m⟩:=r.get g;refine⟨⟨vs,v,a,c⟩,λx H2 ⟨e,y⟩=>?_⟩;subst e;have:=y vs a;rw[c]at this;cases this;exact⟨Hf',Ext.refl b.s,m.up b.f⟩
def Ma(q:SqT G.K Hf l vs)(r:ao G Hf ds vs):pP G Hf (Itt G.K l) ds:=λHf' H' f s i=>by
 have a:=(f.trans s).tup q;refine⟨λd e=>?_,λg=>⟨vs,a,by rw[<- r.length,g];grind⟩⟩;obtain⟨v,b,h⟩:=r.get e;refine⟨⟨vs,v,a,b⟩,λx H2 ⟨c,y⟩=>?_⟩;subst c;have:=y vs a;rw[b]at this;cases this;exact⟨Hf',Ext.refl s,h.up f⟩
def nI{f:MF1}(h:DE c X e f):DI c X tg e (aV f):=λU s L H R I A=>by
 obtain⟨Hf0,H0,Hf,M,ds,st,b,k⟩:=A;unfold aV at b
 cases g:f M with
 |none=>rw[g]at b;nomatch b
 |some d=>
  rw[g]at b
  cases j:lsD d with
  |some l=>
   have:l=ds:=by cases d <;> first |(cases j;done) |(cases j;cases b;rfl)
   subst this;refine vJ h U s L H R I ⟨Hf0,H0,Hf,M,d,st,g,λv Hf' H' x r=>?_⟩;obtain⟨a,vs,n,q,C⟩:=kz j r
   exact⟨a,n,⟨vs,x.s.seq q⟩,k _ Hf' H' x λb3 H2 f2 s2 i=>by
    have p:=(f2.trans s2).seq q;refine⟨λd w=>?_,λz=>⟨vs,p,by rw[<- C.length,z];grind⟩⟩;obtain⟨v,u,B⟩:=C.get w;refine⟨⟨vs,v,p,u⟩,λx E ⟨m,y⟩=>?_⟩;subst m;have:=y vs p;rw[u]at this;cases this
    exact⟨b3,Ext.refl s2,B.up f2⟩⟩
  |none=>
   have m:tpD d=aa ds:=by cases d <;> first |(cases j;done) |(cases b;done) |(cases b;rfl)
   refine Jp h U s L H R I ⟨Hf0,H0,Hf,M,d,st,g,λv Hf' H' x r=>?_⟩;obtain⟨a,vs,n,q,C⟩:=Ei m r;exact⟨a,n,⟨vs,x.s.tup q⟩,k _ Hf' H' x (Ma q C)⟩
abbrev rng(lo:Int)(n:Nat):LD:=(bI n).map λ(i:Nat)=>.int (lo+i)
def Mb{lo:Int}:pP G Hf (Itr lo n) (rng lo n):=λHf' H' f s i=>by
 refine⟨λd a=>?_,λb=>?_⟩
 .unfold rng at a;rw[cu]at a
  cases e:(bI n)[i]? with
  |none=>rw[e]at a;nomatch a
  |some j=>
   rw[e]at a;obtain⟨hi,c⟩:=cR.mp e;rw[cK]at hi;rw[List.getElem_range]at c;subst c;cases a;exact⟨hi,λx H2 ⟨g,y⟩=>by subst g;exact⟨Hf',Ext.refl s,y⟩⟩
 .unfold rng at b;rw[aB,cK]at b;exact Nat.le_of_eq b.symm
abbrev wQ:LD->OLD
 | [.int j]=>if -(2 ^ 62)<=j/\j<2 ^ 62 then aa (rng 0 j.toNat) else ab
 | [.int i,.int j]=>if -(2 ^ 62)<=i/\i<2 ^ 62/\-(2 ^ 62)<=j/\j<2 ^ 62 then aa (rng i (j-i).toNat) else ab
 | _=>ab
abbrev g8(f:MF2)(M:LS):OLD:=(f M).bind wQ
def Mc(i:Gl X "range")(hm:X.mg "range"=ab)(ha:DA c X [a] f)(m:aL [a] X.env=[(ag,eval a X.env)]:=by rfl):DI c X tg (.Call (.Name "range" p) [a] [] pos) (g8 f):=
 PI.imp (Js i hm ha.pa m) λL H R n=>by
  obtain⟨Hf0,H0,Hf,M,ds,st,b,k⟩:=n;unfold g8 at b
  cases d:f M with
  |none=>rw[d]at b;nomatch b
  |some e=>
   rw[d]at b;replace b:wQ e=aa ds:=b;have l:=ha.len M e d;refine⟨Hf0,H0,Hf,M,e,st,d,λvs Hf' H' x r=>?_⟩;unfold wQ at b;split at b
   .split at b
    .rename_i j g;cases b;obtain⟨v,h,q⟩:=r.one;cases (q);exact⟨j,h,g.1,g.2,k _ Hf' H' x Mb⟩
    .nomatch b
   .nomatch l
   .nomatch b
abbrev g9(k:Nat)(js:LN)(M:LS):LS:=ik k .no++js.map λj=>(M[j]?).getD .no
def ar.weak(h:ar G Hf0 H0 Hf H L M)(f:ρ'.length=M.length)(d:∀(i:Nat) (s:Sl),ρ'[i]?=aa s->s=.no\/M[i]?=aa s):ar G Hf0 H0 Hf H L ρ':=by
 refine h.re h.ext f (λi v s a b=>?_) λi s v a b c p=>?_
 .rcases d i s b with e |e
  .subst e;trivial
  .exact h.at' i v s a e
 .rcases d i s b with e |e
  .subst e;exact(p.calm rfl).elim
  .exact⟨s,e,p⟩
def tf{a:Type}{k:Nat}{x:a}{l:List a}{y:a}(h:(ik k x++l)[i]?=aa y):(i<k/\y=x)\/(k<=i/\l[i-k]?=aa y):=by
 by_cases hi:i<k
 .left;rw[lj (by simpa using hi),rH,if_pos hi]at h;exact⟨hi,(cW h).symm⟩
 .right;rw[mJ (by simpa using mN hi),mK]at h;exact⟨mN hi,h⟩
def nJ{a b:Type}{f:a->b}{l:List a}{y:b}(h:(l.map f)[i]?=aa y):∃x,l[i]?=aa x/\y=f x:=by
 rw[cu]at h
 cases e:l[i]? with
 |none=>rw[e]at h;nomatch h
 |some x=>rw[e]at h;exact⟨x,rfl,(cW h).symm⟩
def Md(h:js.Nodup){x:Nat}(a:js[i]?=aa x)(b:js[j]?=aa x):i=j:=by
 obtain⟨e,c⟩:=cR.mp a;obtain⟨h2,d⟩:=cR.mp b;exact(List.getElem_inj h).mp (c.trans d.symm)
def ar.comp(k:Nat)(h:ar G Hf0 H0 Hf H L M)(U:js.Nodup):ar G Hf0 H0 Hf H (iH k js L) (g9 k js M):=by
 have own:∀i s,(g9 k js M)[i]?=aa s->s.calm=ag->∃j,k<=i/\js[i-k]?=aa j/\M[j]?=aa s:=λi s a r=>by
  rcases tf a with⟨_,e⟩ |⟨hi,a⟩
  .subst e;nomatch r
  .obtain⟨j,f,es⟩:=nJ a
   cases e:M[j]? with
   |none=>rw[e]at es;subst es;nomatch r
   |some t=>rw[e]at es;replace es:s=t:=es;subst es;exact⟨j,hi,f,e⟩
 have val:∀i v j,(iH k js L)[i]?=aa v->k<=i->js[i-k]?=aa j->v=(L[j]?).getD ab:=λi v j a hi f=>by
  rcases tf a with⟨T,_⟩ |⟨_,a⟩
  .lia
  .obtain⟨A,g,es⟩:=nJ a;rw[f]at g;cases g;exact es
 refine⟨h.ext,by simp[iH,g9],λi v s a b=>?_,λi j s t y z l a b c d p q=>?_⟩
 .rcases tf b with⟨_,e⟩ |⟨hi,b⟩
  .subst e;trivial
  .obtain⟨j,f,es⟩:=nJ b;have I:=val i v j a hi f
   cases e:M[j]? with
   |none=>rw[e]at es;subst es;trivial
   |some t=>
    rw[e]at es;subst es;obtain⟨u,Q,q⟩:=h.slot e;rw[Q]at I;subst I;exact q
 .have r:s.calm=ag:=by
   cases w:s.calm with
   |true=>exact(p.calm w).elim
   |false=>rfl
  have Y:t.calm=ag:=by
   cases w:t.calm with
   |true=>exact(q.calm w).elim
   |false=>rfl
  obtain⟨J,hi,E,B⟩:=own i s a r;obtain⟨A,x,f,C⟩:=own j t b Y;have v1:=val i _ J c hi E;have N:=val j _ A d x f;obtain⟨u1,m,_⟩:=h.slot B;obtain⟨u2,n,_⟩:=h.slot C;rw[m]at v1;rw[n]at N;subst v1 N;have:=h.dj J A s t y z l B C m n p q;subst this;have:=Md U E f
  lia
abbrev eB(h:D->Option OD):LD->OLD
 | []=>aa []
 |d::ds=>(h d).bind λo=>(eB h ds).map λr=>match o with
  |some y=>y::r
  |none=>r
def Mf{h:D->Option OD}{r:LD}(e:eB h (d::ds)=aa r):∃o a,h d=aa o/\eB h ds=aa a/\r=(match o with |some y=>y::a |none=>a):=by
 dsimp only[eB]at e
 cases b:h d with
 |none=>rw[b]at e;nomatch e
 |some o=>
  cases c:eB h ds with
  |none=>rw[b,c]at e;nomatch e
  |some a=>
   rw[b,c]at e;cases e;refine⟨o,a,rfl,rfl,?_⟩
   cases o <;> rfl
abbrev ga(g:D->LS->Option LS)(ft:MF4)(fe:MF1)(M:LS)(d:D):Option OD:=(g d M).bind λρ1=>(ft ρ1).bind λb=>if b then (fe ρ1).map aa else aa ab
abbrev bg(k:Nat)(js:LN)(fi:MF2)(g:D->LS->Option LS)(ft:MF4)(fe:MF1)(M:LS):OLD:=
 (fi M).bind λds=>if ds.length<=16777216 then eB (ga g ft fe (g9 k js M)) ds else ab
def wR{a:Type}{l:List a}(h:i<l.length):∃x,l[i]?=aa x/\l.drop i=x::l.drop (i+1):=⟨l[i],by simp[h],(drop_eq_getElem_cons h)⟩
abbrev DTs(c:Str->Addr)(X:Cx)(c4:LEx)(f:MF4):Prop:=PTs X c4 (tDT (Gx c X) f)
def Mg:DTs c X [] kY:=PTs.imp K8 λL H Q d=>by
 obtain⟨Hf0,H0,Hf,M,b,st,a,k⟩:=d;exact(by cases a;exact k Hf H (Ext.refl st.sub))
def pQ{f:MF4}(h:DT c X e f):DTs c X [e] f:=K9 h
variable{g:D->LS->Option LS}{ft:MF4}{fe:MF1}{C:LD}
def Ek{k:Nat}(hj:js.Nodup)(hk:∀d M ρ' i,g d M=aa ρ'->k<=i->ρ'[i]?=M[i]?)(B:∀d M ρ',g d M=aa ρ'->ρ'.length=M.length){ti:TI}(st:ar G Hf0 H0 Hf H L M)
 (hti:∀R:It->Hp->Prop,(∀J b4 H1,Ext Hf H b4 H1->s9 G b4 H1 J ds->R J H1)->ti L H R)(hz:ds.length<=16777216)(ef:eB (ga g ft fe (g9 k js M)) ds=aa C)
 (kq:∀l vs Hf' H',Ext Hf H Hf' H'->H l=ab->Hf' l=ab->H' l=aa (.lst vs)->ao G Hf' C vs->Q (.ref l) H'):nz k js ti (tDG G g) (tDT G ft) (tD G fe) L H Q:=by
 refine hti _ λJ b4 H1 x1 it=>?_
 refine⟨λi m ys σ' H'=>m=ds.length-i/\i<=ds.length/\∃Hf' p rest,Ext b4 H1 Hf' H'/\ar G Hf0 H0 Hf' H' σ' _/\ao G Hf' p ys/\eB _ (ds.drop i)=aa rest/\C=p++rest/\p.length<=i,
  ⟨ds.length,rfl,b9 _,b4,[],C,Ext.refl x1.s,(st.step x1).comp k hj,rfl,ef,rfl,aM _⟩,?_⟩
 rintro i m ys σ' H' ⟨rfl,hi,Hf',p,rest,x2,st2,ra,ec,er,hal⟩;have E:ys.length<=aP:=by rw[cX,<- ra.length];lia
 obtain⟨it1,it2⟩:=it Hf' H' x2 i
 by_cases r:i<ds.length
 .obtain⟨d,ed,edr⟩:=wR r;obtain⟨go,yl⟩:=it1 d ed
  refine .inr ⟨go,E,λN T H2=>ds.length-_=ds.length-_/\i+1<=ds.length/\∃Hf' p rest,Ext b4 H1 Hf' H2/\ar G Hf0 H0 Hf' H2 T _/\ao G Hf' p N/\eB _ _=aa rest/\C=p++rest/\p.length<=i+1,
   λN T H2 w=>⟨ds.length-(i+1),by lia,w⟩,λx H2 y=>?_⟩
  obtain⟨b3,x3,rx⟩:=yl x H2 y;rw[edr]at ec;obtain⟨o,r',a,z,n⟩:=Mf ec;unfold ga at a
  cases A:g d _ with
  |none=>rw[A]at a;nomatch a
  |some ρ1=>
   rw[A]at a;replace a:(ft ρ1).bind _=_:=a
   cases et:ft ρ1 with
   |none=>rw[et]at a;nomatch a
   |some b=>
    rw[et]at a;refine⟨Hf0,H0,b3,g9 k js M,d,ρ1,st2.step x3,rx,A,λU q=>⟨Hf0,H0,b3,ρ1,b,q,et,λu H4 I=>?_⟩⟩
    have back:∀{c Y:Hp},ar G Hf0 H0 c Y U ρ1->ar G Hf0 H0 c Y U _:=λ{c Y} s5=>s5.weak (B _ _ _ A).symm λj s hs=>by
     rcases tf hs with⟨_,e⟩ |⟨hj',_⟩
     .exact .inl e
     .exact .inr (by rw[hk _ _ _ _ A hj'];exact hs)
    cases b with
    |true=>
     cases ee:fe ρ1 with
     |none=>rw[ee]at a;nomatch a
     |some y'=>
      rw[ee]at a;cases a;refine⟨Hf0,H0,u,ρ1,y',q.step I,ee,λv c Y x5 r5=>?_⟩;have x:=(x3.trans I).trans x5;refine⟨rfl,r,c,p++[y'],r',x2.trans x,back ((q.step I).step x5),(ra.up x.f).append (.cons r5 .nil),z,?_,by simp only[aR,gS];lia⟩;simp only[er,n,cx]
      rfl
    |false=>
     cases a;have x:=x3.trans I;exact⟨rfl,r,u,p,r',x2.trans x,back (q.step I),ra.up x.f,z,by rw[er,n],by lia⟩
 .have ei:i=ds.length:=by lia
  subst ei;refine .inl ⟨it2 rfl,E,λl h1 h2=>?_⟩;rw[drop_eq_nil_of_le (aM _)]at ec;cases ec;rw[bQ]at er;subst er;have x:=x1.trans x2;exact kq l ys Hf' _ (x.trans (Ext.tmp x.s h2)) (x.h.free h2) (x.s.free h2) aW ra
variable{fi:MF2}
def wS{k:Nat}(e:js.Nodup)(f:∀d M ρ' i,g d M=aa ρ'->k<=i->ρ'[i]?=M[i]?)(b:∀d M ρ',g d M=aa ρ'->ρ'.length=M.length)(h:tDO G (bg k js fi g ft fe) L H Q):
  nz k js (wP G fi) (tDG G g) (tDT G ft) (tD G fe) L H Q:=by
 obtain⟨Hf0,H0,Hf,M,C,st,a,j⟩:=h;unfold bg at a
 cases c:fi M with
 |none=>rw[c]at a;nomatch a
 |some ds=>
  rw[c]at a;replace a:(if ds.length<=16777216 then eB _ ds else ab)=aa C:=a
  by_cases hz:ds.length<=16777216
  .rw[if_pos hz]at a;exact Ek e f b st (λR q=>⟨Hf0,H0,Hf,M,ds,st,c,λJ b4 H1 l it=>q J b4 H1 l it⟩) hz a j
  .rw[if_neg hz]at a
   nomatch a
def jG(k:Nat)(js:LN)(Nc:LSt)(d:X.calm=ac)(hi:DIe c X tg iter fi)(a:∀cl U5 ex cs c2,DG c (X.comp scope Nc cl U5 ex cs c2) tg k g)(j:∀cl U5 ex cs c2,DTs c (X.comp scope Nc cl U5 ex cs c2) c4 ft)
 (e:∀cl U5 ex cs c2,DE c (X.comp scope Nc cl U5 ex cs c2) dd fe)(b:km scope X.env.scope.names X.N Nc k js=ac:=by rfl)(i:∀x,j3 iter X.env x=pure x:=by intro _;rfl)(f:js.Nodup:=by decide):
  DO c X (.ListComp dd [⟨tg,iter,c4,0⟩] scope pos) (bg k js fi g ft fe):=
 PE.imp (Lb (tt:=tDT (Gx c X) ft) (te:=tD (Gx c X) fe) k js Nc d hi (λcl U5 ex cs c2=>(a cl U5 ex cs c2).pg) j e b i) λL H Q h=>
  wS f (a [] 0 [] X.s₀ X.H₀).keep (a [] 0 [] X.s₀ X.H₀).len h
def dvc(i:Nat)(b:Nc[i]?=aa x:=by rfl)(hv:Vis scope x:=by first |exact bS rfl |exact bw (bS rfl) |exact bw (bw rfl))(hd:NDb x:=by decide)
 (a:NCd x:=by decide):DE c (X.comp scope Nc cl U5 ex cs c2) (.Name x pos) (ae i):=Dz (pvc i b hv hd a)
def Mh(i:Nat)(b:Nc[i]?=aa x:=by rfl)(hv:Vis scope x:=by first |exact bS rfl |exact bw (bS rfl) |exact bw (bw rfl))(hd:NDb x:=by decide)
 (a:NCd x:=by decide):DB c (X.comp scope Nc cl U5 ex cs c2) (.Name x pos) (cG i):=DF (pvc i b hv hd a)
def wT(i:Nat)(b:Nc[i]?=aa x:=by rfl)(hv:Vis scope x:=by first |exact bS rfl |exact bw (bS rfl) |exact bw (bw rfl))(hd:NDb x:=by decide)
 (a:NCd x:=by decide):DC c (X.comp scope Nc cl U5 ex cs c2) (.Name x pos) (aw i):=DD (pvc i b hv hd a)
def dgc(i k:Nat)(b:i<k:=by decide)(a:Nc.Nodup:=by decide +kernel)(hi:Nc[i]?=aa x:=by rfl)(d:scope.names.lookup x=aa .local:=by rfl):DG c (X.comp scope Nc cl U5 ex cs c2) (.Name x pos) k (ax i):=
 Eh (pgc i a hi d) b
inductive Fl where
 |nx (M:LS)
 |bk (M:LS)
 |ct (M:LS)
 |rt (d:D)
 |rtO (ds:LD)
 |rtS (d:D) (M:LS)
 |rtT (o:O)
nonrec abbrev MF3:=LS->Option Fl
abbrev tj(G:Gc)(Hf0 H0 Hf:Hp)(U4:iD):Fl->Prop
 |.nx ρ'=>∀σ' Hf' H',aq Hf Hf'->ar G Hf0 H0 Hf' H' σ' ρ'->U4.nx σ' H'
 |.bk ρ'=>∀σ' Hf' H',aq Hf Hf'->ar G Hf0 H0 Hf' H' σ' ρ'->U4.bk σ' H'
 |.ct ρ'=>∀σ' Hf' H',aq Hf Hf'->ar G Hf0 H0 Hf' H' σ' ρ'->U4.ct σ' H'
 |.rt d=>∀v Hf' H',Ext Hf0 H0 Hf' H'->Rep G Hf' d v->U4.rt v H'
 |.rtO ds=>∀l vs Hf' H',Ext Hf0 H0 Hf' H'->H0 l=ab->Hf' l=ab->H' l=aa (.lst vs)->ao G Hf' ds vs->U4.rt (.ref l) H'
 |.rtS d M=>∀v σ' Hf' H',ar G Hf0 H0 Hf' H' σ' M->Rep G Hf' d v->U4.rt v H'
 |.rtT o=>∀u fp Hf' H',Ext Hf0 H0 Hf' H'->OT G Hf' H' o u fp->fp.Nodup->(∀a∈fp,H0 a=ab/\Hf' a=ab)->U4.rt u H'
inductive tDS(G:Gc)(F:MF3)(U4:iD)(L:St)(H:Hp):Prop
 |mk:∀Hf0 H0 Hf M o,ar G Hf0 H0 Hf H L M->F M=aa o->tj G Hf0 H0 Hf U4 o->tDS G F U4 L H
abbrev DS(c:Str->Addr)(X:Cx)(st:Stmt)(F:MF3):Prop:=PS X st (tDS (Gx c X) F)
abbrev DSs(c:Str->Addr)(X:Cx)(st:List Stmt)(F:MF3):Prop:=PSs X st (tDS (Gx c X) F)
abbrev bC(M:LS):Option Fl:=aa (.nx M)
abbrev ai(F a:MF3)(M:LS):Option Fl:=(F M).bind λo=>match o with
 |.nx ρ'=>a ρ'
 |o=>aa o
abbrev bc(t:MF4)(F a:MF3)(M:LS):Option Fl:=(t M).bind λb=>if b then F M else a M
abbrev aY(i:Nat)(f:MF1)(M:LS):Option Fl:=(f M).map λd=>.nx (M.set i (.im d))
abbrev cO(i:Nat)(f:MF2)(M:LS):Option Fl:=(f M).map λd=>.nx (M.set i (.own d))
abbrev aX(f:MF1)(M:LS):Option Fl:=(f M).map .rt
abbrev cb(f:MF2)(M:LS):Option Fl:=(f M).map .rtO
abbrev eQ(i:Nat)(M:LS):Option Fl:=match M[i]? with
 |some (.im d)=>aa (.rt d)
 |some (.own B)=>aa (.rtO B)
 | _=>ab
abbrev hE(g:D->LS->Option LS)(F:MF3):LD->MF3
 | [],M=>aa (.nx M)
 |d::ds,M=>(g d M).bind λρ1=>(F ρ1).bind λo=>match o with
  |.nx a=>hE g F ds a
  |.ct a=>hE g F ds a
  |.bk a=>aa (.nx a)
  |.rt d=>aa (.rt d)
  |.rtO d=>aa (.rtO d)
  |.rtS d a=>aa (.rtS d a)
  |.rtT o=>aa (.rtT o)
abbrev bU(fi:MF2)(g:D->LS->Option LS)(F:MF3)(M:LS):Option Fl:=(fi M).bind λds=>hE g F ds M
abbrev cT(t:MF4)(F:MF3):Nat->MF3
 | 0,_=>ab
 |n+1,M=>(t M).bind λb=>if b then (F M).bind λo=>match o with
   |.nx a=>cT t F n a
   |.ct a=>cT t F n a
   |.bk a=>aa (.nx a)
   |.rt d=>aa (.rt d)
   |.rtO d=>aa (.rtO d)
   |.rtS d a=>aa (.rtS d a)
   |.rtT o=>aa (.rtT o)
  else aa (.nx M)
abbrev wU(i:Nat)(M:LS):LS:=match M[i]? with
 |some (.own B)=>M.set i (.im (.lst B))
 |some (.ownd ks B)=>M.set i (.im (.dic ks B))
 |some (.obj c ns B)=>M.set i (.im (.ins c ns B))
 | _=>M
abbrev fm(i:Nat)(F:MF3)(M:LS):Option Fl:=F (wU i M)
abbrev c6(i:Nat)(f:MF1)(M:LS):Option Fl:=(f M).bind λd=>match M[i]? with
 |some (.own B)=>if B.length<16777216 then aa (.nx (M.set i (.own (B++[d])))) else ab
 | _=>ab
abbrev jH(f:MF1)(M:LS):OLD:=(f M).bind λd=>match d with
 |.lst B=>aa B
 | _=>ab
abbrev jI(i:Nat)(f:MF2)(M:LS):Option Fl:=(f M).bind λds=>match M[i]? with
 |some (.own B)=>if B.length+ds.length<=16777216 then aa (.nx (M.set i (.own (B++ds)))) else ab
 | _=>ab
def Mi:DSs c X [] bC:=PSs.imp CB λU4 L H b=>by
 obtain⟨Hf0,H0,Hf,M,o,d,a,k⟩:=b;exact(by cases a;exact k L Hf H (aq.refl _) d)
def tj.up{U4:iD}{o:Fl}(h:tj G Hf0 H0 Hf U4 o)(s:aq Hf Hf'):tj G Hf0 H0 Hf' U4 o:=by
 cases o with
 |nx M=>exact λσ' b3 H2 s2 q=>h σ' b3 H2 (s.trans s2) q
 |bk M=>exact λσ' b3 H2 s2 q=>h σ' b3 H2 (s.trans s2) q
 |ct M=>exact λσ' b3 H2 s2 q=>h σ' b3 H2 (s.trans s2) q
 |rt d=>exact h
 |rtO d=>exact h
 |rtS d M=>exact h
 |rtT o=>exact h
variable{st:Stmt}{sts:List Stmt}{F':MF3}
def aF{F:MF3}(f:DS c X st F)(h2:DSs c X sts F'):DSs c X (st::sts) (ai F F'):=PSs.imp (ss f h2) λU4 L H g=>by
 obtain⟨Hf0,H0,Hf,M,o,h,a,k⟩:=g;unfold ai at a
 cases b:F M with
 |none=>rw[b]at a;nomatch a
 |some o1=>
  rw[b]at a;refine⟨Hf0,H0,Hf,M,o1,h,b,?_⟩
  cases o1 with
  |nx ρ1=>exact λi b4 H1 s1 e=>⟨Hf0,H0,b4,ρ1,o,e,a,k.up s1⟩
  |bk ρ1=>cases a;exact k
  |ct ρ1=>cases a;exact k
  |rt d=>cases a;exact k
  |rtO d=>cases a;exact k
  |rtS d ρ1=>cases a;exact k
  |rtT o'=>cases a;exact k
def bD{F:MF3}(a:DS c X st F):DSs c X [st] F:=CC a
variable{a b:List Stmt}{t:MF4}
def hJ{F:MF3}(j:DT c X cd t)(ha:DSs c X a F)(i:DSs c X b F'):DS c X (.If cd a b pos) (bc t F F'):=PS.imp (I0 j ha i) λU4 L H l=>by
 obtain⟨Hf0,H0,Hf,M,o,h,d,k⟩:=l;unfold bc at d
 cases g:t M with
 |none=>rw[g]at d;nomatch d
 |some x=>
  rw[g]at d;refine⟨Hf0,H0,Hf,M,x,h,g,λb4 H1 e=>?_⟩
  cases x with
  |true=>rw[if_pos rfl];exact⟨Hf0,H0,b4,M,o,h.step e,d,k.up e.f⟩
  |false=>rw[if_neg bx];exact⟨Hf0,H0,b4,M,o,h.step e,d,k.up e.f⟩
def El{f:MF1}(g:PS X st (iF te (gD i)))(hi:∀L H Q,tD (Gx c X) f L H Q->te L H Q):DS c X st (aY i f):=PS.imp g λU4 L H h=>by
 obtain⟨Hf0,H0,Hf,M,o,e,a,k⟩:=h;unfold aY at a
 cases b:f M with
 |none=>rw[b]at a;nomatch a
 |some d=>
  rw[b]at a;cases a;exact hi _ _ _ ⟨Hf0,H0,Hf,M,d,e,b,λv Hf' H' x r=>k _ Hf' H' x.f ((e.step x).setIm r)⟩
def Em(j:PS X st (iF te (gD i)))(hi:∀L H Q,tDO (Gx c X) f L H Q->te L H Q):DS c X st (cO i f):=PS.imp j λU4 L H m=>by
 obtain⟨Hf0,H0,Hf,M,o,e,a,k⟩:=m;unfold cO at a
 cases b:f M with
 |none=>rw[b]at a;nomatch a
 |some d=>
  rw[b]at a;cases a;exact hi _ _ _ ⟨Hf0,H0,Hf,M,d,e,b,λl vs Hf' H' x hn g h r=>k _ Hf' H' x.f (e.setOwn rfl x hn g ⟨vs,h,r⟩)⟩
def nK(i:Nat){f:MF1}(a:X.N.Nodup)(b:DE c X e f)(hi:X.N[i]?=aa x:=by rfl)(j:Loc X.env.scope x:=by first |exact bS rfl |exact bw rfl)(g:fI e (aa (.Name x cc)) pos.line X.env=pure ag:=by rfl)(d:LcF X x:=by first |exact .inl rfl |exact .inr rfl):
  DS c X (.Assign [.Name x cc] e pos) (aY i f):=El (nh a hi j b g d) λ_ _ _ h=>h
def wV(i:Nat)(a:X.N.Nodup)(b:DO c X e f)(hi:X.N[i]?=aa x:=by rfl)(j:Loc X.env.scope x:=by first |exact bS rfl |exact bw rfl)(g:fI e (aa (.Name x cc)) pos.line X.env=pure ag:=by rfl)(d:LcF X x:=by first |exact .inl rfl |exact .inr rfl):
  DS c X (.Assign [.Name x cc] e pos) (cO i f):=Em (nh a hi j b g d) λ_ _ _ h=>h
def Mj(h:tD G (aJ f) L H Q):tDO G f L H Q:=by
 obtain⟨Hf0,H0,Hf,M,d,st,a,k⟩:=h;unfold aJ at a
 cases b:f M with
 |none=>rw[b]at a;nomatch a
 |some ds=>
  rw[b]at a;have a:=cW a;subst a;exact⟨Hf0,H0,Hf,M,ds,st,b,λl vs Hf' H' x hn c e r=>k _ _ H' (x.fix hn c e) ⟨l,vs,rfl,aW,r.up (bG c)⟩⟩
def Ml(i:Nat)(k:Nat)(js:LN)(Nc:LSt)(f:X.N.Nodup)(j:X.calm=ac)(hi:DIe c X tg iter fi)
 (a:∀cl U5 ex cs c2,DG c (X.comp scope Nc cl U5 ex cs c2) tg k g)(q:∀cl U5 ex cs c2,DTs c (X.comp scope Nc cl U5 ex cs c2) c4 ft)(l:∀cl U5 ex cs c2,DE c (X.comp scope Nc cl U5 ex cs c2) dd fe)
 (b:X.N[i]?=aa x:=by rfl)(r:Loc X.env.scope x:=by first |exact bS rfl |exact bw rfl)
 (d:fI (.ListComp dd [⟨tg,iter,c4,0⟩] scope pos) (aa (.Name x cc)) eL.line X.env=pure ac:=by rfl)
 (e:km scope X.env.scope.names X.N Nc k js=ac:=by rfl)(p:∀x,j3 iter X.env x=pure x:=by intro _;rfl)(n:js.Nodup:=by decide)
 (m:LcF X x:=by first |exact .inl rfl |exact .inr rfl):
  DS c X (.Assign [.Name x cc] (.ListComp dd [⟨tg,iter,c4,0⟩] scope pos) eL) (cO i (bg k js fi g ft fe)):=
 Em (wB (tt:=tDT (Gx c X) ft) (te:=tD (Gx c X) fe) k js Nc f b r j hi (λcl U5 ex cs c2=>(a cl U5 ex cs c2).pg) q l d e p m) λL H Q h=>wS n (a [] 0 [] X.s₀ X.H₀).keep (a [] 0 [] X.s₀ X.H₀).len h
def nM(i:Nat)(k:Nat)(js:LN)(Nc:LSt)(f:X.N.Nodup)(j:X.calm=ac)(hi:DIe c X tg iter fi)
 (a:∀cl U5 ex cs c2,DG c (X.comp scope Nc cl U5 ex cs c2) tg k g)(q:∀cl U5 ex cs c2,DTs c (X.comp scope Nc cl U5 ex cs c2) c4 ft)(l:∀cl U5 ex cs c2,DE c (X.comp scope Nc cl U5 ex cs c2) dd fe)
 (b:X.N[i]?=aa x:=by rfl)(r:Loc X.env.scope x:=by first |exact bS rfl |exact bw rfl)
 (d:fI (.ListComp dd [⟨tg,iter,c4,0⟩] scope pos) (aa (.Name x cc)) eL.line X.env=pure ac:=by rfl)
 (e:km scope X.env.scope.names X.N Nc k js=ac:=by rfl)(p:∀x,j3 iter X.env x=pure x:=by intro _;rfl)(n:js.Nodup:=by decide)
 (m:LcF X x:=by first |exact .inl rfl |exact .inr rfl):
  DS c X (.Assign [.Name x cc] (.ListComp dd [⟨tg,iter,c4,0⟩] scope pos) eL) (aY i (aJ (bg k js fi g ft fe))):=
 El (wB (tt:=tDT (Gx c X) ft) (te:=tD (Gx c X) fe) k js Nc f b r j hi (λcl U5 ex cs c2=>(a cl U5 ex cs c2).pg) q l d e p m) λL H Q h=>wS n (a [] 0 [] X.s₀ X.H₀).keep (a [] 0 [] X.s₀ X.H₀).len (Mj h)
def pR{f:MF1}(h:DE c X e f):DS c X (.Return (aa e) pos) (aX f):=PS.imp (sw h) λU4 L H i=>by
 obtain⟨Hf0,H0,Hf,M,o,g,a,k⟩:=i;unfold aX at a
 cases b:f M with
 |none=>rw[b]at a;nomatch a
 |some d=>
  rw[b]at a;cases a;exact⟨Hf0,H0,Hf,M,d,g,b,λv Hf' H' x r=>k v Hf' H' (g.ext.trans x) r⟩
abbrev eR(f:MF1)(M:LS):Option Fl:=(f M).map λd=>.rtS d M
def En{f:MF1}(h:DE c X e f):DS c X (.Return (aa e) pos) (eR f):=PS.imp (sw h) λU4 L H i=>by
 obtain⟨Hf0,H0,Hf,M,o,g,a,k⟩:=i;unfold eR at a
 cases b:f M with
 |none=>rw[b]at a;nomatch a
 |some d=>
  rw[b]at a;cases a;exact⟨Hf0,H0,Hf,M,d,g,b,λv Hf' H' x r=>k v L Hf' H' (g.step x) r⟩
def jb(i:DO c X e f):DS c X (.Return (aa e) pos) (cb f):=PS.imp (sw i) λU4 L H n=>by
 obtain⟨Hf0,H0,Hf,M,o,g,a,k⟩:=n;unfold cb at a
 cases b:f M with
 |none=>rw[b]at a;nomatch a
 |some d=>
  rw[b]at a;cases a;exact⟨Hf0,H0,Hf,M,d,g,b,λl vs Hf' H' x hn j m r=>k l vs Hf' H' (g.ext.trans x) (g.ext.h.free hn) j m r⟩
def Mm(h:PE X e (cB i)):DS c X (.Return (aa e) pos) (eQ i):=PS.imp (sw h) λU4 L H m=>by
 obtain⟨Hf0,H0,Hf,M,o,b,a,k⟩:=m;unfold eQ at a
 cases es:M[i]? with
 |none=>rw[es]at a;nomatch a
 |some s=>
  rw[es]at a
  cases s with
  |im d=>
   cases a;obtain⟨v,f,r⟩:=b.imm es
   exact⟨_,f,k v Hf H b.ext r⟩
  |own B=>
   cases a;obtain⟨l,f,g,j,vs,q,r⟩:=b.ownAt rfl es
   exact⟨_,f,k l vs Hf H b.ext g j q r⟩
  | _=>nomatch a
def Mn(i:Nat)(b:X.N[i]?=aa x:=by rfl)(hv:Vis X.env.scope x:=by first |exact bS rfl |exact bw (bS rfl) |exact bw (bw rfl))(hd:NDb x:=by decide)
 (a:NCd x:=by decide):DS c X (.Return (aa (.Name x p)) pos) (eQ i):=Mm (lM b hv hd a)
def fN{F:MF3}(hp:PassesOwn (model X.prog X.w) X.A X.env X.xe)(hc:X.calm=ac)(hi:DI c X tg iter fi)(hg:DG c X tg kk g)(hb:DSs c X a F)(hs:∀x,j3 iter X.env x=pure x:=by intro _;rfl):
  DS c X (.For tg iter a [] pos) (bU fi g F):=PS.imp (CG hp hc hi hg.pg hb hs) λU4 L H q_=>by
 obtain⟨Hf0,H0,Hf,M,o,T,p,k⟩:=q_;unfold bU at p
 cases v:fi M with
 |none=>rw[v]at p;nomatch p
 |some ds=>
  rw[v]at p;refine⟨Hf0,H0,Hf,M,ds,T,v,λJ b4 H1 Q it=>?_⟩;refine⟨λi m σ' H'=>m=ds.length-i/\i<=ds.length/\∃Hf' ρ',ar _ Hf0 H0 Hf' H' σ' ρ'/\aq b4 Hf'/\hE g F (ds.drop i) ρ'=aa o,⟨ds.length,rfl,b9 _,b4,M,T.step Q,aq.refl _,p⟩,?_⟩;rintro i m σ' H' ⟨rfl,hi',Hf',ρ',l,s1,em⟩;obtain⟨E,G⟩:=it Hf' H' s1 l.sub i
  by_cases j:i<ds.length
  .obtain⟨d,Y,B⟩:=wR j;obtain⟨go,yl⟩:=E d Y;rw[B]at em;dsimp only[hE]at em;refine .inr ⟨go,λr H2=>ds.length-_=ds.length-_/\i+1<=ds.length/\∃Hf' ρ',ar _ Hf0 H0 Hf' H2 r ρ'/\aq b4 Hf'/\hE g F _ ρ'=aa o,λr H2 w=>⟨ds.length-(i+1),by lia,w⟩,λx H2 y=>?_⟩;obtain⟨b3,U,rx⟩:=yl x H2 y
   cases C:g d ρ' with
   |none=>rw[C]at em;nomatch em
   |some ρ1=>
    rw[C]at em;replace em:(F ρ1).bind _=_:=em
    cases z:F ρ1 with
    |none=>rw[z]at em;nomatch em
    |some o1=>
     rw[z]at em;refine⟨Hf0,H0,b3,ρ',d,ρ1,l.step U,rx,C,λσ3 N=>⟨Hf0,H0,b3,ρ1,o1,N,z,?_⟩⟩;have I:=s1.trans U.f
     cases o1 with
     |nx h=>exact λn b u q e=>⟨rfl,j,b,h,e,I.trans q,em⟩
     |ct h=>exact λn b u q e=>⟨rfl,j,b,h,e,I.trans q,em⟩
     |bk h=>cases em;exact λn b u q e=>k n b u ((Q.f.trans I).trans q) e
     |rt d=>cases em;exact k
     |rtO d=>cases em;exact k
     |rtS d h=>cases em;exact k
     |rtT o'=>cases em;exact k
  .have ei:i=ds.length:=by lia
   subst ei;rw[drop_eq_nil_of_le (aM _)]at em;cases em;exact .inl ⟨G rfl,k σ' Hf' H' (Q.f.trans s1) l⟩
def nN{F:MF3}(n:Nat)(E:PassesOwn (model X.prog X.w) X.A X.env X.xe)(C:DT c X cd t)(B:DSs c X a F):DS c X (.While cd a [] pos) (cT t F n):=PS.imp (Jk E C B) λU4 L H G=>by
 obtain⟨Hf0,H0,Hf,M,o,I,z,k⟩:=G;refine⟨λm σ' H'=>∃Hf' ρ',ar _ Hf0 H0 Hf' H' σ' ρ'/\aq Hf Hf'/\cT t F m ρ'=aa o,⟨n,Hf,M,I,aq.refl _,z⟩,?_⟩;rintro m σ' H' ⟨Hf',ρ',i,s1,em⟩
 cases m with
 |zero=>nomatch em
 |succ m=>
  dsimp only[cT]at em
  cases v:t ρ' with
  |none=>rw[v]at em;nomatch em
  |some b=>
   rw[v]at em;refine⟨Hf0,H0,Hf',ρ',b,i,v,λb3 H2 q=>?_⟩
   cases b with
   |false=>
    cases em
    exact k σ' b3 H2 (s1.trans q.f) (i.step q)
   |true=>
    cases u:F ρ' with
    |none=>rw[u]at em;nomatch em
    |some o1=>
     rw[u]at em;refine⟨λp y=>∃Hf' ρ',ar _ Hf0 H0 Hf' y p ρ'/\aq Hf Hf'/\cT t F m ρ'=aa o,λp y w=>⟨m,dq _,w⟩,Hf0,H0,b3,ρ',o1,i.step q,u,?_⟩;have x:=s1.trans q.f
     cases o1 with
     |nx h=>exact λj e r l g=>⟨e,h,g,x.trans l,em⟩
     |ct h=>exact λj e r l g=>⟨e,h,g,x.trans l,em⟩
     |bk h=>cases em;exact λj e r l g=>k j e r (x.trans l) g
     |rt d=>cases em;exact k
     |rtO d=>cases em;exact k
     |rtS d h=>cases em;exact k
     |rtT o'=>cases em;exact k
def Mo{F:MF3}{U4:iD}(h:tDS G (fm i F) U4 L H):tDS G F U4 L H:=by
 obtain⟨Hf0,H0,Hf,M,o,b,c,k⟩:=h;unfold fm wU at c;split at c
 .rename_i B es;obtain⟨l,e,f,a,vs,q,r⟩:=b.ownAt rfl es;exact⟨Hf0,H0,_,_,o,b.fixd (d:=.lst B) rfl es e q ⟨l,vs,rfl,aW,r.up (bG a)⟩,c,k.up (bG a)⟩
 .rename_i ks B es;obtain⟨l,e,f,a,vs,q,z,r⟩:=b.ownAt rfl es;exact⟨Hf0,H0,_,_,o,b.fixd (d:=.dic ks B) rfl es e q ⟨l,vs,rfl,aW,z,r.up (bG a)⟩,c,k.up (bG a)⟩
 .rename_i g ns B es;obtain⟨l,e,f,a,dx,vs,q,z,r⟩:=b.ownAt rfl es;exact⟨Hf0,H0,_,_,o,b.fixd (d:=.ins g ns B) rfl es e q ⟨l,dx,vs,rfl,aW,z,r.up (bG a)⟩,c,k.up (bG a)⟩
 .exact⟨Hf0,H0,Hf,M,o,b,c,k⟩
def lY{F:MF3}(i:Nat)(h:DS c X st F):DS c X st (fm i F):=PS.imp h λ_ _ _=>Mo
def Mp{f:MF1}(h:PS X st (lN (tBM X.K "list" sH (cB i) (iG (tD (Gx c X) f) gF)))):DS c X st (c6 i f):=PS.imp h λU4 L H m=>by
 obtain⟨Hf0,H0,Hf,M,o,e,a,k⟩:=m;unfold c6 at a
 cases b:f M with
 |none=>rw[b]at a;nomatch a
 |some d=>
  rw[b]at a;split at a
  .rename_i B es;split at a
   .rename_i j;cases a;obtain⟨l,g,p,u,vs,q,r⟩:=e.ownAt rfl es;refine⟨_,g,.inl ⟨rfl,_,SqL.of q⟩,Hf0,H0,Hf,M,d,e,b,λv Hf' H' x n=>?_⟩;refine⟨l,vs,v,rfl,rfl,(x.h _ _ q),by rw[cX,<- r.length];exact j,k L Hf' _ x.f ((e.step x).mutd rfl rfl es g ⟨vs++[v],aW,(r.up x.f).append (.cons n .nil)⟩)⟩
   .nomatch a
  .nomatch a
def Eo{f:MF1}(h:PS X st (lN (tBM X.K "list" we (cB i) (iG (tD (Gx c X) f) gF)))):DS c X st (jI i (jH f)):=PS.imp h λU4 L H u=>by
 obtain⟨Hf0,H0,Hf,M,o,g,b,k⟩:=u;unfold jI jH at b
 cases e:f M with
 |none=>rw[e]at b;nomatch b
 |some d=>
  rw[e]at b
  cases d with
  |lst ds=>
   replace b:(match M[i]? with |some (.own B)=>if B.length+ds.length<=16777216 then aa _ else ab | _=>ab)=aa o:=b
   split at b
   .rename_i B es;split at b
    .rename_i p;cases b;obtain⟨l,j,z,A,vs,q,r⟩:=g.ownAt rfl es;refine⟨_,j,.inl ⟨rfl,_,SqL.of q⟩,Hf0,H0,Hf,M,.lst ds,g,e,λv Hf' H' x y=>?_⟩;obtain⟨a,us,n,w,m⟩:=y;subst n;refine⟨l,a,vs,us,rfl,rfl,(x.h _ _ q),x.s _ _ w,by rw[cX,<- r.length,<- m.length];exact p,k L Hf' _ x.f ((g.step x).mutd rfl rfl es j ⟨vs++us,aW,(r.up x.f).append m⟩)⟩
    .nomatch b
   .nomatch b
  | _=>nomatch b
abbrev Ep:Fl->OD
 |.rt d=>aa d
 |.rtO ds=>aa (.lst ds)
 |.rtS d _=>aa d
 |.nx _=>aa .non
 | _=>ab
abbrev fq(n:Nat)(ds:LD):LS:=ds.map .im++ik (n-ds.length) .no
abbrev aN(n:Nat)(F:MF3)(ds:LD):OD:=(F (fq n ds)).bind Ep
abbrev iK(n:Nat)(F:MF3)(ds:LD):OLD:=(F (fq n ds)).bind λo=>match o with
 |.rtO ds=>aa ds
 | _=>ab
abbrev spD(G:Gc)(n:Nat)(m:LD->OD):Sp:=λvs H Q _=>∃Hf ds d,aq Hf H/\ao G Hf ds vs/\ds.length=n/\m ds=aa d/\∀v Hf' H',Ext Hf H Hf' H'->Rep G Hf' d v->Q v H'
abbrev spO(G:Gc)(n:Nat)(m:LD->OLD):Sp:=λvs H Q _=>∃Hf ds C,aq Hf H/\ao G Hf ds vs/\ds.length=n/\m ds=aa C /\
 ∀l us Hf' H',Ext Hf H Hf' H'->H l=ab->Hf' l=ab->H' l=aa (.lst us)->ao G Hf' C us->Q (.ref l) H'
def ar.start(m:aq Hf H)(r:ao G Hf ds vs):ar G Hf H Hf H (start N vs) (fq N.length ds):=by
 have im:∀i (s:Sl),(fq N.length ds)[i]?=aa s->s=.no\/∃d,ds[i]?=aa d/\s=.im d:=λi s b=>by
  unfold fq at b
  by_cases hi:i<ds.length
  .rw[lj (by simpa using hi)]at b;obtain⟨d,f,es⟩:=nJ b;exact .inr ⟨d,f,es⟩
  .rw[mJ (by simpa using mN hi)]at b;obtain⟨_,e⟩:=cR.mp b;rw[List.getElem_replicate]at e;exact .inl e.symm
 refine⟨Ext.refl m,by simp[L2.start,fq,r.length],λi v s a b=>?_,λi j s t v w l a b c d p q=>?_⟩
 .rcases im i s b with e |⟨d,f,es⟩
  .subst e;trivial
  .subst es;obtain⟨u,g,h⟩:=r.get f;refine⟨u,?_,h⟩;unfold L2.start at a;rw[lj (by simpa using ((cR.mp g).1)),cu,g]at a;exact(cW a).symm
 .rcases im i s a with e |⟨d,f,es⟩
  .subst e;exact(p.calm rfl).elim
  .subst es;exact(p.calm rfl).elim
variable{P:bY}{mg:MGT}{base:Heap}{n_:Nat}{qual:Str}{f:Addr}{fd:cz}{ps:LSt}
def aZ{k:Nat}{F:MF3}(q:Fun K x qual st f fd)(S:aA N ps (av st))
 (h:∀(cdv:Value) (A:bW) (outer:List Env) (s:ah) (H:Hp) (U4:XK),bo k (A.deeper (fH qual (av st) s.heap.objs.size f cdv))->DSs c (g4 CX0 P w K mg base N qual (av st) f cdv A outer s H U4).nox (fh st) F)(i:N.length=n_:=by rfl):
  b8 P w K mg base CX0 (k+1) f fd ps (spD ⟨K,c⟩ ps.length (aN n_ F)):=by
 subst i;refine q.ok S (λvs H Q U4 j=>by obtain⟨Hf,ds,d,p,r,a,_⟩:=j;rw[<- r.length];exact a) λcdv A outer s H vs Q U4 hr j=>?_;obtain⟨Hf,ds,d,p,r,a,e,b⟩:=j;refine⟨_,h cdv A outer s H U4 hr,?_⟩;unfold aN at e
 cases g:F _ with
 |none=>rw[g]at e;nomatch e
 |some o=>
  rw[g]at e;refine⟨Hf,H,Hf,_,o,ar.start p r,g,?_⟩
  cases o with
  |nx M=>cases e;exact λσ' Hf' H' _ m=>b _ Hf' H' m.ext rfl
  |bk M=>nomatch e
  |ct M=>nomatch e
  |rt d=>cases e;exact b
  |rtO C=>cases e;exact λl vs Hf' H' x hn n a r=>b _ _ H' (x.fix hn n a) ⟨l,vs,rfl,aW,r.up (bG n)⟩
  |rtS d M=>cases e;exact λv σ' Hf' H' m r=>b v Hf' H' m.ext r
  |rtT o=>nomatch e
def lZ{k:Nat}{F:MF3}(l:Fun K x qual st f fd)(S:aA N ps (av st))
 (h:∀(cdv:Value) (A:bW) (outer:List Env) (s:ah) (H:Hp) (U4:XK),bo k (A.deeper (fH qual (av st) s.heap.objs.size f cdv))->DSs c (g4 CX0 P w K mg base N qual (av st) f cdv A outer s H U4).nox (fh st) F)(b:N.length=n_:=by rfl):
  b8 P w K mg base CX0 (k+1) f fd ps (spO ⟨K,c⟩ ps.length (iK n_ F)):=by
 subst b;refine l.ok S (λvs H Q U4 g=>by obtain⟨Hf,ds,d,j,r,i,_⟩:=g;rw[<- r.length];exact i) λcdv A outer s H vs Q U4 hr g=>?_;obtain⟨Hf,ds,C,j,r,i,e,m⟩:=g;refine⟨_,h cdv A outer s H U4 hr,?_⟩;unfold iK at e
 cases a:F _ with
 |none=>rw[a]at e;nomatch e
 |some o=>
  rw[a]at e;refine⟨Hf,H,Hf,_,o,ar.start j r,a,?_⟩
  cases o with
  |rtO n=>cases e;exact m
  | _=>nomatch e
variable{fa:MF2}{k0:Nat}
def Er{k:Nat}(pk:Pk X.prog X.w X.K X.mg X.base CX0 k x (f,fd) ps (spD (Gx c X) ps.length m))(j:bo k0 X.A)(ha:DA c X (e::es) fa)(z:(e::es).length=ps.length:=by rfl)(a:NDb x:=by decide)(u:StE X e es:=by rfl)(i:BkE X pos es:=by rfl)(h:k<=k0:=by decide)(y:Gl X x:=by first |rfl |exact glc rfl):
  DE c X (.Call (.Name x p) (e::es) [] pos) (au m fa):=PE.imp (ni pk.ok (j.mono h) y pk.g pk.kp pk.b .nil fL ha.pa a u i) λL H Q C=>by
 obtain⟨Hf0,H0,Hf,M,d,st,q,B⟩:=C;obtain⟨ds,l,n⟩:=pL q;refine⟨Hf0,H0,Hf,M,ds,st,l,λvs Hf' H' x r=>?_⟩;rw[bQ];exact⟨Hf',ds,d,x.s,r,(ha.len M ds l).trans z,n,λv b3 H2 G E=>B v b3 H2 (x.trans G) E⟩
abbrev jJ(m:LD->OLD)(f:MF2)(M:LS):OLD:=(f M).bind m
def Mq{k:Nat}{m:LD->OLD}(pk:Pk X.prog X.w X.K X.mg X.base CX0 k x (f,fd) ps (spO (Gx c X) ps.length m))(u:bo k0 X.A)(ha:DA c X (e::es) fa)(B:(e::es).length=ps.length:=by rfl)(i:NDb x:=by decide)(v:StE X e es:=by rfl)(q:BkE X pos es:=by rfl)(j:k<=k0:=by decide)(z:Gl X x:=by first |rfl |exact glc rfl):
  DO c X (.Call (.Name x p) (e::es) [] pos) (jJ m fa):=PE.imp (ni pk.ok (u.mono j) z pk.g pk.kp pk.b .nil fL ha.pa i v q) λL H Q G=>by
 obtain⟨Hf0,H0,Hf,M,C,st,a,E⟩:=G;unfold jJ at a
 cases d:fa M with
 |none=>rw[d]at a;nomatch a
 |some ds=>
  rw[d]at a;refine⟨Hf0,H0,Hf,M,ds,st,d,λvs Hf' H' x r=>?_⟩;rw[bQ];exact⟨Hf',ds,C,x.s,r,(ha.len M ds d).trans B,a,λl us b3 H2 J hn y n I=>E l us b3 H2 (x.trans J) (x.h.free hn) y n I⟩
def Es{G:Gc}{H:Hp}{f:Str}{d:D}:∀{ns:LSt} {ds:LD} {vs:LVv},(ns.zip ds).lookup f=aa d->ao G H ds vs->∃v,(ns.zip vs).lookup f=aa v/\Rep G H d v
 | [],_,_,e,_=>by simp at e
 |n::ns,[],_,e,_=>by simp at e
 |n::ns,x::ds,_,e,q4_=>by
  obtain⟨v,r,b,c,h2⟩:=q4_;subst b;simp only[eI,lu]at e;simp only[eI,lu]
  cases a:f==n with
  |true=>rw[a]at e;cases e;exact⟨v,rfl,c⟩
  |false=>rw[a]at e;exact Es e h2
def nO{f:Str}:∀{ns:LSt} {vs:LVv},ns.contains f=ag->(ns.zip vs).lookup f=ab
 | [],_,_=>by simp
 |n::ns,[],_=>by rfl
 |n::ns,v::vs,h=>by
  rw[contains_cons,Bool.or_eq_false_iff]at h;simp only[eI,lu,h.1];exact nO h.2
abbrev Mr(cn f:Str):D->OD
 |.ins a ns ds=>if a=cn then (ns.zip ds).lookup f else ab
 | _=>ab
abbrev a8(cn f:Str)(m:MF1)(M:LS):OD:=(m M).bind (Mr cn f)
abbrev aK(cn f:Str)(m:LD->OD)(fo:MF1)(fa:MF2)(M:LS):OD:=(fo M).bind λd=>match d with
 |.ins a ns ds=>if a=cn/\ns.contains f=ag then (fa M).bind λb=>m (.ins a ns ds::b) else ab
 | _=>ab
variable{fl:Str}{fo:MF1}
def Ms{o:Expr}(cn:Str)(l:Cls X.K (c cn))(hn:cv X.K (c cn) fl)(m:DE c X o fo)(j:mU o fl X.env (eval o X.env)=eval o X.env:=by rfl):DE c X (.Attribute o fl pos) (a8 cn fl fo):=
 PE.imp (CU m j) λL H Q n=>by
  obtain⟨Hf0,H0,Hf,M,d,st,b,k⟩:=n;unfold a8 at b
  cases e:fo M with
  |none=>rw[e]at b;nomatch b
  |some y=>
   rw[e]at b
   cases y with
   |ins g ns ds=>
    replace b:(if g=cn then (ns.zip ds).lookup fl else ab)=aa d:=b;split at b
    .rename_i f;subst f;refine⟨Hf0,H0,Hf,M,_,st,e,λv Hf' H' x r=>?_⟩;obtain⟨a,dx,vs,i,q,w,C⟩:=r;obtain⟨u,h,p⟩:=Es b C;exact⟨a,c g,dx,ns.zip vs,u,i,x.s _ _ q,l,hn,h,k u Hf' H' x p⟩
    .nomatch b
   | _=>nomatch b
variable{apos:Pos}{pl:Sem Bool}
def Mt{k:Nat}{o:Expr}(cn:Str)(ho:DE c X o fo)(pk:Pm X.prog X.w X.K X.mg X.base CX0 k (c cn) fl (f,fd) ps (spD (Gx c X) ps.length m))(E:bo k0 X.A)(ha:DA c X (e::es) fa)(Y:(e::es).length+1=ps.length:=by rfl)(G:StE X e es:=by rfl)(B:BkE X pos es:=by rfl)(ht:eval (.Call (.Attribute o fl apos) (e::es) [] pos) X.env=(do
   let ov <- eval o X.env
   fZ apos.atName
   let (f,first) <- d7 [ov] (gy ov fl pl)
   i6 pos f first (bZ pos (aL (e::es) X.env)) (gV pos (gU [] X.env))):=by rfl)(p:k<=k0:=by decide):
  DE c X (.Call (.Attribute o fl apos) (e::es) [] pos) (aK cn fl m fo fa):=PE.imp (vU ho pk.c pk.m pk.ok (E.mono p) pk.b .nil fL ha.pa G B ht) λL H Q q_=>by
 obtain⟨Hf0,H0,Hf,M,d,st,g,kq⟩:=q_;unfold aK at g
 cases l:fo M with
 |none=>rw[l]at g;nomatch g
 |some y=>
  rw[l]at g
  cases y with
  |ins J ns ds=>
   replace g:(if J=cn/\ns.contains fl=ag then (fa M).bind λh=>m _ else ab)=aa d:=g;split at g
   .rename_i n;obtain⟨rfl,z⟩:=n
    cases i:fa M with
    |none=>rw[i]at g;nomatch g
    |some h=>
     rw[i]at g;refine⟨Hf0,H0,Hf,M,_,st,l,λv Hf' H' x r=>?_⟩;obtain⟨a,dx,vs,U,q,N,C⟩:=id r;refine⟨a,dx,ns.zip vs,U,x.s _ _ q,nO z,Hf0,H0,Hf',M,h,st.step x,i,λws b3 H2 I r2=>?_⟩;rw[bQ];exact⟨b3,.ins J ns ds::h,d,I.s,.cons (r.up I.f) r2,by rw[bO,ha.len M h i];exact Y,g,λu j T x3 r3=>kq u j T ((x.trans I).trans x3) r3⟩
   .nomatch g
  | _=>nomatch g
def Mu{k:Nat}{o:Expr}(cn:Str)(I:DE c X o fo)(pk:Pm X.prog X.w X.K X.mg X.base CX0 k (c cn) fl (f,fd) ps (spD (Gx c X) ps.length m))(n:bo k0 X.A)(G:1=ps.length:=by rfl)(J:eval (.Call (.Attribute o fl apos) [] [] pos) X.env=(do
   let ov <- eval o X.env
   fZ apos.atName
   let (f,first) <- d7 [ov] (gy ov fl pl)
   i6 pos f first (bZ pos (aL [] X.env)) (gV pos (gU [] X.env))):=by rfl)(j:k<=k0:=by decide):
  DE c X (.Call (.Attribute o fl apos) [] [] pos) (aK cn fl m fo λ_=>aa []):=PE.imp (vV I pk.c pk.m pk.ok (n.mono j) pk.b .nil fL J) λL H Q T=>by
 obtain⟨Hf0,H0,Hf,M,d,st,e,N⟩:=T;dsimp only[aK]at e
 cases h:fo M with
 |none=>rw[h]at e;nomatch e
 |some y=>
  simp only[h]at e
  cases y with
  |ins B ns ds=>
   replace e:(if B=cn/\ns.contains fl=ag then (aa []).bind λas=>m _ else ab)=aa d:=e;split at e
   .rename_i i;obtain⟨rfl,l⟩:=i;refine⟨Hf0,H0,Hf,M,_,st,h,λv Hf' H' x r=>?_⟩;obtain⟨a,dx,vs,E,q,p,C⟩:=id r;exact⟨a,dx,ns.zip vs,E,x.s _ _ q,nO l,⟨Hf',_,d,x.s,.cons r .nil,G,e,λu g z Y U=>N u g z (x.trans Y) U⟩⟩
   .nomatch e
  | _=>nomatch e
abbrev tm:List (Str×(MF1))->LS->LSt->LD->Option (LSt×LD)
 | [],_,ns,ds=>aa (ns,ds)
 |(f,m)::r,M,ns,ds=>(m M).bind λd=>if ns.contains f then ab else tm r M (ns++[f]) (ds++[d])
abbrev Mv(G:Gc)(cn:Str)(fs:List (Str×(MF1))):TS:=λU4 L H=>∃x dx Hf0 H0 Hf M ns us ds r,L[0]?=aa (aa (.ref x))/\(∀s∈M,Sl.calm s=ac)/\ar G Hf0 H0 Hf H L M/\H0 x=ab/\Hf x=ab /\
 H x=aa (.ins (G.cl cn) dx (ns.zip us))/\ns.length=us.length/\ns.length+fs.length<=900/\ao G Hf ds us/\tm fs M ns ds=aa r /\
 ∀a Hf' H',Ext Hf0 H0 Hf' H'->Hf' x=ab->H' x=aa (.ins (G.cl cn) dx (r.1.zip a))->r.1.length=a.length->ao G Hf' r.2 a->U4.nx L H'
abbrev DSI(c:Str->Addr)(X:Cx)(cn:Str)(sts:List Stmt)(fs:List (Str×(MF1))):Prop:=PSs X sts (Mv (Gx c X) cn fs)
def pS{f:Str}{v:V}:∀{ns:LSt} {us:LVv},ns.length=us.length->ns.contains f=ag->cM f v (ns.zip us)=(ns++[f]).zip (us++[v])
 | [],[],_,_=>rfl
 |n::ns,u::us,hl,h=>by
  rw[contains_cons,Bool.or_eq_false_iff]at h;have a:¬(n=f):=λz=>by rw[z,beq_self_eq_true]at h;cases h.1
  rw[eI];unfold cM
  first
   |(rw[if_neg a,pS (by simpa using hl) h.2];rfl)
   |(rw[if_neg _,pS (by simpa using hl) h.2];rfl)
   |(rw[if_neg (by simpa using a),pS (by simpa using hl) h.2];rfl)
   |(rw[if_neg (by simpa using λz=>a _),pS (by simpa using hl) h.2];rfl)
 | [],_::_,hl,_=>by cases hl
 | _::_,[],hl,_=>by cases hl
def tq{cn:Str}:DSI c X cn [] []:=PSs.imp CB λU4 L H q=>by
 obtain⟨x,dx,Hf0,H0,Hf,M,ns,us,ds,r,e0,no,e,f,a,d,b,hz,rd,em,k⟩:=q;cases em;exact k us Hf H e.ext a d b rd
variable{m:MF1}{fs:List (Str×(MF1))}
def nP{cn:Str}{o:Expr}(J:Cls X.K (c cn))(hn:cv X.K (c cn) fl)(T:PE X o (cB 0))(N:DE c X e m)(h:DSI c X cn sts fs)(A:fI e (aa (.Attribute o fl cc)) pos.line X.env=pure ag:=by rfl):
  DSI c X cn (.Assign [.Attribute o fl cc] e pos::sts) ((fl,m)::fs):=PSs.imp (ss (vR T N A) h) λU4 L H q=>by
 obtain⟨x,dx,Hf0,H0,Hf,M,ns,us,ds,r,e0,no,I,C,Q,G,E,hz,rd,em,k⟩:=q;dsimp only[tm]at em
 cases z:m M with
 |none=>rw[z]at em;nomatch em
 |some d=>
  rw[z]at em;split at em
  .nomatch em
  .rename_i j;have j:ns.contains fl=ag:=by simpa using j
   refine⟨Hf0,H0,Hf,M,d,I,z,λv Hf' H' y U=>⟨_,e0,x,c cn,dx,ns.zip us,rfl,y.h _ _ G,J,hn,?_,?_⟩⟩
   .have Y:=lw (l₁:=ns) (l₂:=us)
    lia
   .have l:Hf' x=ab:=by rw[y.n _ _ G rfl];exact Q
    have g:=I.step y
    have B:ar (Gx c X) Hf0 H0 Hf' (upd H' x (.ins (c cn) dx (cM fl v (ns.zip us)))) L M:=by
     refine g.re ⟨g.ext.f,λb u e=>?_,λb u e=>?_,g.ext.n⟩ rfl (λi w s a b=>?_) λi s w a b _ p=>(p.calm (no s (dF b))).elim
     .rw[aI (eO e C)];exact g.ext.h b u e
     .rw[aI (eO e l)];exact g.ext.s b u e
     .have A:=no s (dF b);have q:=g.at' i w s a b
      cases s with
      |no=>trivial
      |im d=>exact q
      | _=>nomatch A
    refine⟨x,dx,Hf0,H0,Hf',M,ns++[fl],us++[v],ds++[d],r,e0,no,B,C,l,?_,by rw[aR,aR,E];rfl,by rw[bO]at hz;rw[aR,gS];lia,(rd.up y.f).append (.cons U .nil),em,k⟩;rw[aW,pS E j]
abbrev del(H:Hp)(x:Addr):Hp:=λb=>if b=x then ab else H b
def Et{x:Addr}:del H x x=ab:=if_pos rfl
def Eu{x b:Addr}(h:b≠x):del H x b=H b:=if_neg h
abbrev pT(n:Nat)(fs:List (Str×(MF1)))(a:LD):Option (LSt×LD):=tm fs (.no::(a.map .im++ik (n-1-a.length) .no)) [] []
abbrev spI(G:Gc)(cn:Str)(n:Nat)(m:LD->Option (LSt×LD)):Sp:=λvs H Q _=>∃x dx Hf b a r,vs=.ref x::a/\H x=aa (.ins (G.cl cn) dx [])/\Hf x=ab/\aq Hf H/\ao G Hf b a/\b.length+1=n/\m b=aa r /\
 ∀us Hf' H',Ext Hf (del H x) Hf' H'->Hf' x=ab->H' x=aa (.ins (G.cl cn) dx (r.1.zip us))->r.1.length=us.length->ao G Hf' r.2 us->Q .non H'
def tu{x qual cn:Str}{k:Nat}(I:Fun K x qual st f fd)(S:aA N ps (av st))
 (h:∀(cdv:Value) (A:bW) (outer:List Env) (s:ah) (H:Hp) (U4:XK),bo k (A.deeper (fH qual (av st) s.heap.objs.size f cdv))->DSI c (g4 CX0 P w K mg base N qual (av st) f cdv A outer s H U4).nox cn (fh st) fs)
 (hz:fs.length<=900:=by decide)(z:N.length=n_:=by rfl):b8 P w K mg base CX0 (k+1) f fd ps (spI ⟨K,c⟩ cn ps.length (pT n_ fs)):=by
 subst z;refine I.ok S (λvs H Q U4 q=>by obtain⟨x,dx,Hf,g,B,r,y,_,_,_,m,G,_⟩:=q;subst y;rw[bO,<- m.length];exact G) λcdv A outer s H vs Q U4 hr q=>⟨_,h cdv A outer s H U4 hr,?_⟩;obtain⟨x,dx,Hf,g,B,r,y,Y,T,s0,m,G,e,kq⟩:=q;subst y;have la:=m.length
 have im:∀i s,(Sl.no::(g.map Sl.im++ik (N.length-1-g.length) .no))[i]?=aa s->s=.no\/∃d j,i=j+1/\g[j]?=aa d/\s=.im d:=λi s b=>by
  cases i with
  |zero=>left;simpa using b.symm
  |succ i=>
   rw[gt]at b
   by_cases hi:i<g.length
   .rw[lj (by simpa using hi)]at b;obtain⟨d,n,es⟩:=nJ b;exact .inr ⟨d,i,rfl,n,es⟩
   .rw[mJ (by simpa using mN hi)]at b;obtain⟨_,e⟩:=cR.mp b;rw[List.getElem_replicate]at e;exact .inl e.symm
 have no:∀s∈_,Sl.calm s=ac:=λs U=>by
  obtain⟨i,hi⟩:=rJ U
  rcases im i s hi with e |⟨d,_,_,_,e⟩ <;> (subst e;rfl)
 refine⟨x,dx,Hf,del H x,Hf,_,[],[],[],r,rfl,no,⟨⟨aq.refl _,λb o e=>?_,s0,λ_ _ _ _=>rfl⟩,?_,λi v s a b=>?_,λi j s t v w l a b _ _ p _=>((p.calm (no s (dF a))).elim)⟩,Et,T,Y,rfl,by simpa using hz,rfl,e,λus Hf' H' xx J h2 L M=>kq us Hf' H' xx J h2 L M⟩
 .by_cases E:b=x
  .subst E;rw[Et]at e;nomatch e
  .rw[Eu E]at e;exact e
 .unfold L2.start;simp only[aR,aB,bO,mK]
  lia
 .rcases im i s b with e |⟨d,j,ei,n,es⟩
  .subst e;trivial
  .subst es ei;obtain⟨u,C,ru⟩:=m.get n;refine⟨u,?_,ru⟩;unfold L2.start at a;rw[bF,jX,gt,lj (by simpa using ((cR.mp C).1)),cu,C]at a;exact(cW a).symm
abbrev hU(cn:Str)(m:LD->Option (LSt×LD))(fa:MF2)(M:LS):OD:=(fa M).bind λa=>(m a).map λr=>.ins cn r.1 r.2
def nQ{k:Nat}{m:LD->Option (LSt×LD)}(cn:Str)(Y:Mk X.K (c cn) f)(F:b8 X.prog X.w X.K X.mg X.base CX0 k f fd ps (spI (Gx c X) cn ps.length m))(hr:bo (k+1) X.A)(hg:Gl X x)(hm:X.mg x=aa (.ref (c cn)))(hb:dw X.K fd ps [])(ha:DA c X (e::es) fa)
 (hl:(e::es).length+1=ps.length:=by rfl)(G:NDb x:=by decide)(he:StE X e es:=by rfl)(I:BkE X pos es:=by rfl):
  DE c X (.Call (.Name x p) (e::es) [] pos) (hU cn m fa):=PE.imp (CW Y F hr hg hm hb .nil fL ha.pa G he I) λL H Q q_=>by
 obtain⟨Hf0,H0,Hf,M,d,st,a,kq⟩:=q_;unfold hU at a
 cases v:fa M with
 |none=>rw[v]at a;nomatch a
 |some g=>
  rw[v]at a;replace a:(m g).map _=_:=a
  cases E:m g with
  |none=>rw[E]at a;nomatch a
  |some r=>
   rw[E]at a;cases a;refine⟨Hf0,H0,Hf,M,g,st,v,λvs Hf' H' C rv y dx z N T=>?_⟩;rw[bQ];have hy:(upd H' dx (.own y)) y=ab:=by rw[aI T.symm];exact z
   have s1:aq H' (upd H' dx (.own y)):=bG N;have s2:=s1.trans (bG (o:=.ins (c cn) dx []) hy)
   have U:aq H' (del _ y):=λb u q=>by
    have:=eO q z;rw[Eu this];exact s2 b u q
   refine⟨y,dx,Hf',g,vs,r,rfl,aW,C.s.free z,C.s.trans s2,rv,by rw[ha.len M g v];exact hl,E,λus b3 H2 B i J j r2=>⟨rfl,?_⟩⟩;have x3:Ext Hf' H' b3 H2:=⟨B.f,U.trans B.h,B.s,λl u q t=>B.n l u (U l u q) t⟩;exact kq _ _ H2 ((C.trans x3).fix (C.h.free z) i J) ⟨y,dx,us,rfl,aW,j,r2.up (bG i)⟩
variable{r:Option Fl}
def tz{F F':MF3}(h:F M=aa (.nx ρ'))(h':F' ρ'=r):ai F F' M=r:=by
 unfold ai;rw[h];exact h'
def Mw{F F':MF3}(h:F M=aa (.rt d)):ai F F' M=aa (.rt d):=by
 unfold ai;rw[h];rfl
def Mx{F F':MF3}(h:t M=aa ac)(h':F M=r):bc t F F' M=r:=by
 unfold bc;rw[h];exact h'
def My{F F':MF3}(h:t M=aa ag)(h':F' M=r):bc t F F' M=r:=by
 unfold bc;rw[h];exact h'
def Ev{f:MF1}(h:f M=aa d):aY i f M=aa (.nx (M.set i (.im d))):=by
 unfold aY;rw[h];rfl
def Mz{f:MF2}{d:LD}(h:f M=aa d):cO i f M=aa (.nx (M.set i (.own d))):=by
 unfold cO;rw[h];rfl
def c7{f:MF1}(h:f M=aa d):aX f M=aa (.rt d):=by
 unfold aX;rw[h];rfl
def c8{F:MF3}(h:F (fq n ds)=aa (.rt d)):aN n F ds=aa d:=by
 unfold aN;rw[h];rfl
def kB{F:MF3}{d:LD}(h:F (fq n ds)=aa (.rtO d)):aN n F ds=aa (.lst d):=by
 unfold aN;rw[h];rfl
def aD{m:LD->OD}{f:MF2}(h:f M=aa ds)(h':m ds=aa d):au m f M=aa d:=by
 unfold au;rw[h];exact h'
def tB{a:Type}{h:D->Option OD}(f:a->D)(p:a->Bool)(q:a->D):∀(B:List a),(∀x∈B,h (f x)=aa (if p x then aa (q x) else ab))->eB h (B.map f)=aa ((B.filter p).map q)
 | [],_=>rfl
 |x::B,hh=>by
  rw[bF];unfold eB;rw[hh x aH,tB f p q B λy b=>hh y (bj _ b)]
  grind
def MA{a:Type}{h:D->Option OD}(f:a->D)(q:a->D)(B:List a)(b:∀x∈B,h (f x)=aa (aa (q x))):eB h (B.map f)=aa (B.map q):=by
 have:=tB f (λ_=>ac) q B λx c=>(b x c).trans rfl;rw[this,filter_eq_self.mpr λ_ _=>rfl]
def eC{a:Type}{k:Nat}(B:List a)(f:a->D)(p:a->Bool)(q:a->D)
 (hi:fi M=aa (B.map f))(hz:B.length<=16777216)(b:∀x∈B,ga g ft fe (g9 k js M) (f x)=aa (if p x then aa (q x) else ab)):bg k js fi g ft fe M=aa ((B.filter p).map q):=by
 unfold bg;rw[hi];show(if (B.map f).length<=16777216 then _ else ab)=_;rw[aB,if_pos hz];exact tB f p q B b
def gb{a:Type}{k:Nat}(B:List a)(f:a->D)(q:a->D)
 (hi:fi M=aa (B.map f))(hz:B.length<=16777216)(b:∀x∈B,ga g ft fe (g9 k js M) (f x)=aa (aa (q x))):bg k js fi g ft fe M=aa (B.map q):=by
 unfold bg;rw[hi];show(if (B.map f).length<=16777216 then _ else ab)=_;rw[aB,if_pos hz];exact MA f q B b
def Ew{d:Type}{g:D->LS->Option LS}{F:MF3}(f:d->D)(I:List d->LS->Prop):∀(post pre:List d) (M:LS),I pre M ->
  (∀a x c M,pre++post=a++x::c->I a M->∃ρ1 b,g (f x) M=aa ρ1/\(F ρ1=aa (.nx b)\/F ρ1=aa (.ct b))/\I (a++[x]) b)->∃ρ',hE g F (post.map f) M=aa (.nx ρ')/\I (pre++post) ρ'
 | [],pre,M,h,_=>⟨M,rfl,by rw[bQ];exact h⟩
 |x::post,pre,M,h,hs=>by
  obtain⟨ρ1,b,i,j,h2⟩:=hs pre x post M rfl h;obtain⟨ρ',l,e⟩:=Ew f I post _ b h2 (by rw[cx];exact hs);refine⟨ρ',?_,by rw[cx]at e;exact e⟩;rw[bF];unfold hE
  grind
def MB{b:Type}{F:MF3}(B:List b)(f:b->D)(I:List b->LS->Prop)(hi:fi M=aa (B.map f))(c:I [] M)
 (d:∀pre x post M,B=pre++x::post->I pre M->∃ρ1 a,g (f x) M=aa ρ1/\(F ρ1=aa (.nx a)\/F ρ1=aa (.ct a))/\I (pre++[x]) a):∃ρ',bU fi g F M=aa (.nx ρ')/\I B ρ':=by
 unfold bU;rw[hi];exact Ew f I B [] M c d
def MC(lo:Int)(n:Nat):rng lo n=(bI n).map λ(i:Nat)=>D.int (lo+i):=rfl
def MD{ns:LI0}:iJ [.lst (ns.map D.int)]=aa (.int ns.sum):=by
 show(f9 _).map _=_;rw[LZ];rfl
variable{i:Int}
def kC{b:Type}{f:b->D}{B:List b}(c:0<=i)(d:i<B.length):∃x,B[i.toNat]?=aa x/\atI (B.map f) i=aa (f x):=by
 have a:i.toNat<B.length:=by lia
 refine⟨B[i.toNat],by simp[a],?_⟩;have:=Kn (B:=B.map f) (j:=i.toNat) (v:=f B[i.toNat]) (by simp[a]);rw[show i.toNat=i by lia]at this;exact this
def kE{a:Type}{f:a->D}{B:List a}(d:a)(e:0<=i)(g:i<B.length):atI (B.map f) i=aa (f (B.getD i.toNat d)):=by
 obtain⟨x,b,c⟩:=kC e g;rw[c,cg,b];rfl
abbrev eS:Nat->D->Prop
 | 0,_=>False
 |n+1,d=>match d with
  |.lst B=>∀x∈B,eS n x
  |.tup B=>∀x∈B,eS n x
  |d=>d.scalar=ac
def wW{f:D->D->Option Bool}:∀(B:LD),(∀x∈B,f x x=aa ac)->cH f B B=aa ac
 | [],_=>rfl
 |x::B,h=>by
  unfold cH;rw[h x aH,wW B λy a=>h y (bj _ a)];rfl
def tE:∀(n:Nat) (d:D),eS n d->deq n d d=aa ac
 | 0,_,h=>h.elim
 |n+1,d,h=>by
  cases d with
  |lst B=>
   show(if B.length=B.length then cH _ B B else aa ag)=_;rw[if_pos rfl]
   exact wW B λx a=>tE n x (h x a)
  |tup B=>
   show(if B.length=B.length then cH _ B B else ab)=_;rw[if_pos rfl]
   exact wW B λx a=>tE n x (h x a)
  |non=>rfl
  |bl b=>show aa (b==b)=_;rw[beq_self_eq_true]
  |int b=>show aa (b==b)=_;rw[beq_self_eq_true]
  |str b=>show aa (b==b)=_;rw[beq_self_eq_true]
  | _=>cases h
def eS.mono:∀(n:Nat) (d:D),eS n d->eS (n+1) d
 | 0,_,h=>h.elim
 |n+1,d,h=>by
  cases d with
  |lst B=>exact λx a=>eS.mono n x (h x a)
  |tup B=>exact λx a=>eS.mono n x (h x a)
  | _=>exact h
def eS.le{m:Nat}(h:eS n d)(hm:n<=m):eS m d:=by
 induction hm with
 |refl=>exact h
 |step _ a=>exact eS.mono _ _ a
def ME(h:eS 20 d):dEq d d=aa (.bl ac):=by
 unfold dEq;rw[tE 20 d h];rfl
def Ex(h:eS 20 d):dNe d d=aa (.bl ag):=by
 unfold dNe;rw[tE 20 d h];rfl
def jK(i j:Int):dEq (.int i) (.int j)=aa (.bl (i==j)):=rfl
def pU(i j:Str):dEq (.str i) (.str j)=aa (.bl (i==j)):=rfl
variable{f:MF1}
def ap{m:D->D->OD}{g:MF1}{x:D}(a:f M=aa x)(h2:g M=aa y)(b:m x y=aa d):m2 m f g M=aa d:=by
 unfold m2;rw[a,h2];exact b
variable{b:Bool}
def bq(h:f M=aa (.bl b)):mB f M=aa b:=by
 unfold mB;rw[h];rfl
def cI(h:f M=aa d)(h':lT d=aa b):bz f M=aa b:=by
 unfold bz;rw[h];exact h'
variable{f:MF4}
def kG(h:f M=aa b):eP f M=aa (!b):=by
 unfold eP;rw[h];rfl
variable{g:MF4}
def MF{r:Option Bool}(h:f M=aa ac)(h':g M=r):df f g M=r:=by
 unfold df;rw[h];exact h'
def MG(h:f M=aa ag):df f g M=aa ag:=by
 unfold df;rw[h];rfl
def MH(h:f M=aa ac):mOr f g M=aa ac:=by
 unfold mOr;rw[h];rfl
def MI{r:Option Bool}(h:f M=aa ag)(h':g M=r):mOr f g M=r:=by
 unfold mOr;rw[h];exact h'
variable{a:Bool}
def jc(h:f M=aa a)(h':g M=aa b):df f g M=aa (a && b):=by
 cases a with
 |true=>exact MF h h'
 |false=>exact MG h
def l5(h:f M=aa a)(h':g M=aa b):mOr f g M=aa (a || b):=by
 cases a with
 |true=>exact MH h
 |false=>exact MI h h'
variable{f:MF1}
def kH{g:MF1}(h:f M=aa (.bl a))(h':g M=aa (.bl b)):gG f g M=aa (.bl (a && b)):=by
 unfold gG;rw[bq h]
 grind
def Ey{g:MF1}(h:f M=aa (.bl a))(h':g M=aa (.bl b)):vOr f g M=aa (.bl (a || b)):=by
 unfold vOr;rw[bq h]
 grind
def am{g:MF2}(h:f M=aa d)(h':g M=aa ds):af f g M=aa (d::ds):=by
 unfold af;rw[h,h'];rfl
variable{f:MF2}
def cP(h:f M=aa ds):bn f M=aa (.tup ds):=by
 unfold bn;rw[h];rfl
def bH(h:f M=aa ds):aJ f M=aa (.lst ds):=by
 unfold aJ;rw[h];rfl
def be{g:MF1}{r:OD}(h:f M=aa ds)(h':g M=aa (.int i))(h2:atI ds i=r):mIx f g M=r:=by
 unfold mIx;rw[h,h'];exact h2
def tF{U5:Int->Int->Prop}[∀i j,Decidable (U5 i j)]{g:Int->Int->D}{j:Int}(h:U5 i j):dI U5 g (.int i) (.int j)=aa (g i j):=by
 show(if U5 i j then aa _ else ab)=_;rw[if_pos h]
variable{f:MF1}
def MJ{i:Nat}(h:f M=aa d)(h':M[i]?=aa (.own B))(a:B.length<16777216):c6 i f M=aa (.nx (M.set i (.own (B++[d])))):=by
 unfold c6;rw[h,h'];show(if B.length<16777216 then _ else ab)=_;rw[if_pos a]
variable{ρ1:LS}
def dA{g:D->LS->Option LS}(a:g d M=aa ρ1)(h2:ft ρ1=aa b)(c:b=ac->fe ρ1=aa y):ga g ft fe M d=aa (if b then aa y else ab):=by
 unfold ga
 grind
def fO{g:D->LS->Option LS}(a:g d M=aa ρ1)(h2:ft ρ1=aa ac)(b:fe ρ1=aa y):ga g ft fe M d=aa (aa y):=dA a h2 λ_=>b
def fu(h:f M=aa d)(h':g7 d=aa ds):aV f M=aa ds:=by
 unfold aV;rw[h];exact h'
variable{g:MF1}
def dB(h:f M=aa d):ba f g M=aa d:=by
 unfold ba;rw[h];rfl
def bA{r:OD}(h:f M=ab)(h':g M=r):ba f g M=r:=by
 unfold ba;rw[h];exact h'
def pV{f:MF2}{n:Int}(h:f M=aa [.int n])(b:0<=n)(a:n<2 ^ 62):g8 f M=aa ((bI n.toNat).map λ(i:Nat)=>D.int i):=by
 unfold g8;rw[h];show(if -_<=n/\n<2 ^ 62 then aa _ else ab)=_;rw[if_pos ⟨by lia,a⟩,MC]
 congr 1
 refine rO λi _=>?_;rw[Int.zero_add]
variable{m:LD->OD}{ns:LSt}
def ce{cn f:Str}{a:LD}(h:fo M=aa (.ins cn ns ds))(hn:ns.contains f=ag)(h':fa M=aa a):aK cn f m fo fa M=m (.ins cn ns ds::a):=by
 unfold aK
 grind
def bB{cn f a:Str}(h:fo M=aa (.ins a ns ds))(hn:a≠cn):aK cn f m fo fa M=ab:=by
 unfold aK
 grind
abbrev itD(z:Int×Int):D:=.tup [.int z.1,.int z.2]
abbrev shD:Option Bool->D
 |none=>.non
 |some b=>.bl b
abbrev InN(n:Nat)(E:LII):Prop:=∀z∈E,0<=z.1/\z.1<(n:Int)/\0<=z.2
def MK(bs:LI0):eS 2 (.lst (bs.map D.int)):=λx a=>by
 obtain⟨b,_,rfl⟩:=aT.mp a;exact rfl
def iL{es:LOB}(a:0<=i)(b:i<es.length):atI (es.map shD) i=aa (shD (es.getD i.toNat ab)):=kE ab a b
def jd{es:LB0}(a:0<=i)(b:i<es.length):atI (es.map D.bl) i=aa (.bl (es.getD i.toNat ag)):=kE ag a b
def nR(e:Option Bool)(b:Bool):dIs (shD e) (.bl b)=aa (.bl (e==aa b)):=by
 cases e with
 |none=>rfl
 |some c=>cases b <;> cases c <;> rfl
def Ez(e:Option Bool)(b:Bool):fM (shD e) (.bl b)=aa (.bl (!(e==aa b))):=by
 cases e with
 |none=>rfl
 |some c=>cases b <;> cases c <;> rfl
abbrev Prt.toD:Prt->D
 |.inn t=>.tup [.str "in",.int t]
 |.out t=>.tup [.str "out",.int t]
 |.least k E=>.tup [.str "least",.int k,.lst (E.map itD)]
 |.most k E=>.tup [.str "most",.int k,.lst (E.map itD)]
abbrev Prt.obj:Prt->D
 |.inn t=>.ins "In" ["thing"] [.int t]
 |.out t=>.ins "Out" ["thing"] [.int t]
 |.least k E=>.ins "Least" ["bound","pieces"] [.int k,.lst (E.map itD)]
 |.most k E=>.ins "Most" ["bound","pieces"] [.int k,.lst (E.map itD)]
abbrev Prt.Ok(n:Nat):Prt->Prop
 |.inn t=>0<=t/\t<(n:Int)
 |.out t=>0<=t/\t<(n:Int)
 |.least _ E=>InN n E/\E.length<=100000
 |.most _ E=>InN n E/\E.length<=100000
def ML(p:Int->Bool)(E:LII):((E.filter λz=>p z.1).map λz=>D.int z.2)=((E.filter λz=>p z.1).map (·.2)).map D.int:=by
 rw[map_map];rfl
def wX(p:Int->Bool)(E:LII):iJ [.lst ((E.filter λz=>p z.1).map λz=>D.int z.2)]=aa (.int (g5 p E)):=by
 rw[ML,MD];rfl
def EA:∀{bs:LB0} {us:LVa},aE (bs.map V.bl) us->us=bs.map j9
 | [],_,.nil=>rfl
 |b::bs,_,.cons r t=>by
  rw[EA t];cases (r);rfl
def MM(bs:LB0):((bI bs.length).any λi=>(bs[i]?).getD ag)=bs.any id:=by
 rw[lh,any_eq_true,any_eq_true];constructor
 .rintro⟨i,hi,e⟩;have a:=fX.mp hi;simp only[cr a]at e;exact⟨_,jq a,e⟩
 .rintro⟨b,c,e⟩;obtain⟨i,hi,rfl⟩:=List.getElem_of_mem c;exact⟨i,fX.mpr hi,by simp only[cr hi];exact e⟩
def MN{h:Heap}{o:Obj}(a:∀b x,b∉[h.objs.size]->(h.push o).get? b=aa x->h'.get? b=aa x):∀b x,h.get? b=aa x->h'.get? b=aa x:=
 λb x e=>a b x (λhm=>by rw[ci.mp hm]at e;exact io _ (bv e)) (bu _ e)
def MO(j:X.calm=ac):gZ X (.builtin "any") (λB H Q=>∃(p:Addr) (bs:LB0),B=[.ref p]/\SqL X.K H p (bs.map V.bl)/\Q (.bl (bs.any id)) H):=by
 intro U s L H B us Q I r h;obtain⟨l,bs,rfl,n,q⟩:=h;obtain⟨u,rfl,x⟩:=lO r;subst x;obtain⟨E,w,pl,hz⟩:=I.list n;have e:=EA w;subst e;have c:=pl.isList;have d:l<s.heap.objs.size:=by obtain⟨_,e,_⟩:=c;exact bv e
 refine call_any_walk (wpAny_pyIter_list c ?_)
 refine⟨s.heap.objs.size,_,_,(bs.map j9).toArray.size,_,_,λi=>(bs[i]?).getD ag,rfl,Walks.list (A:=X.A.in1) (I.ok.hd j) _ l (bR d) (bs.map j9).toArray,
  ⟨⟨_,cA _ rfl,rfl,rfl⟩,c.push _⟩,λi v C z y g f=>?_,λh' G m=>?_⟩
 .have a:(bs.map j9)[i]?=aa v:=by simpa using g
  obtain⟨b,e,rfl⟩:=nJ a;simp only[e]at f;exact mS f
 .have e:((bI (bs.map j9).toArray.size).any λi=>(bs[i]?).getD ag)=bs.any id:=by
   rw[size_toArray,aB];exact MM bs
  rw[e];exact⟨.bl _,H,I.kept (MN m),rfl,q⟩
abbrev iM:LD->Option (LB0)
 | []=>aa []
 |.bl b::ds=>(iM ds).map λr=>b::r
 | _=>ab
def EB:∀{ds:LD} {bs:LB0},iM ds=aa bs->ds=bs.map D.bl
 | [],_,e=>by cases e;rfl
 |.bl b::ds,_,e=>by
  dsimp only[iM]at e
  cases es:iM ds with
  |none=>rw[es]at e;cases e
  |some r=>rw[es]at e;cases e;rw[EB es];rfl
 |.int _::_,_,e=>by cases e
 |.non::_,_,e=>by cases e
 |.str _::_,_,e=>by cases e
 |.lst _::_,_,e=>by cases e
 |.tup _::_,_,e=>by cases e
 |.kl _::_,_,e=>by cases e
 |.kt _::_,_,e=>by cases e
 |.dic _ _::_,_,e=>by cases e
 |.ins _ _ _::_,_,e=>by cases e
def MP(bs:LB0):iM (bs.map D.bl)=aa bs:=by
 induction bs with
 |nil=>rfl
 |cons n ns a=>rw[bF,iM,a];rfl
def ao.bls{G:Gc}{H:Hp}:∀{bs:LB0} {vs:LVv},ao G H (bs.map D.bl) vs->vs=bs.map V.bl
 | [],_,h=>h
 |b::bs,_,q2_=>by
  obtain⟨v,r,e,a,h2⟩:=q2_;subst e;rw[ao.bls h2,show v=V.bl b from a];rfl
abbrev nU:LD->OD
 | [d]=>(lsD d).bind λds=>(iM ds).map λbs=>.bl (bs.any id)
 | _=>ab
def EC{f:LB0->D}(e:(match ds with | [d]=>(lsD d).bind λds=>(iM ds).map f | _=>ab)=aa d):∃a B bs,ds=[a]/\lsD a=aa B/\B=bs.map D.bl/\d=f bs:=by
 split at e
 .rename_i a
  cases b:lsD a with
  |none=>rw[b]at e;nomatch e
  |some B=>
   rw[b]at e;replace e:(iM B).map f=aa d:=e
   cases c:iM B with
   |none=>rw[c]at e;nomatch e
   |some bs=>rw[c]at e;cases e;exact⟨a,B,bs,rfl,b,EB c,rfl⟩
 .nomatch e
def MQ(i:X.calm=ac):nH c X (.builtin "any") nU:=by
 rintro U s L H vs us Q I l ⟨Hf,ds,d,b,r,e,k⟩;obtain⟨m,B,bs,rfl,f,rfl,rfl⟩:=EC e;obtain⟨v,h,j⟩:=r.one;subst h;obtain⟨a,ws,g,q,C⟩:=kz f j;subst g;refine MO i U s L H _ us Q I l ⟨a,bs,rfl,?_,k _ Hf H (Ext.refl b) rfl⟩;rw[<- C.bls];exact b.seq q
def MR:∀ds d,nU ds=aa d->d.scalar=ac:=λds d e=>by
 obtain⟨a,B,bs,rfl,b,rfl,rfl⟩:=EC e;rfl
def MS(bs:LB0):nU [.lst (bs.map D.bl)]=aa (.bl (bs.any id)):=by
 show(iM _).map _=_;rw[MP];rfl
inductive Wrd where
 |make |may |never
 deriving DecidableEq
abbrev Wrd.s:Wrd->Str
 |.make=>"make"
 |.may=>"may"
 |.never=>"never"
structure Rul where
 w:Wrd
 hd:Int
 ps:List Prt
nonrec abbrev LRu:=List Rul
abbrev Rul.hdD(r:Rul):D:=match r.w with
 |.never=>.non
 | _=>.int r.hd
abbrev Rul.toD(r:Rul):D:=.tup [.str r.w.s,r.hdD,.lst (r.ps.map Prt.toD)]
structure Rul.Ok(n:Nat)(r:Rul):Prop where
 hd:r.w≠.never->0<=r.hd/\r.hd<(n:Int)
 ps:∀p∈r.ps,p.Ok n
 len:r.ps.length<=100000
abbrev Rul.bodyLost(r:Rul)(es:LOB)(ws:LB0):Bool:=r.ps.any λp=>p.lost es ws
def pW{p q:Int->Bool}:∀{E:LII},(∀z∈E,0<=z.2/\(p z.1=ac->q z.1=ac))->g5 p E<=g5 q E
 | [],_=>Int.le_refl _
 |z::E,h=>by
  have b:=pW λy a=>h y (bj _ a);obtain⟨c,d⟩:=h z aH;unfold g5 at b ⊢
  grind
structure fw(es es':LOB):Prop where
 len:es'.length=es.length
 at':∀i,es.getD i ab=ab\/es'.getD i ab=es.getD i ab
structure pX(ws ws':LB0):Prop where
 len:ws'.length=ws.length
 at':∀i,ws.getD i ag=ac->ws'.getD i ag=ac
def fw.refl(es:LOB):fw es es:=⟨rfl,λ_=>.inr rfl⟩
def pX.refl(ws:LB0):pX ws ws:=⟨rfl,λ_ h=>h⟩
variable{es':LOB}{ws:LB0}
def wY{es:LOB}{ws':LB0}{p:Prt}(f:fw es es')(g:pX ws ws')(h:p.Ok es.length)(s:p.lost es ws=ac):p.lost es' ws'=ac:=by
 have key:∀{i:Nat} {b:Bool},(es.getD i ab==aa b)=ac->(es'.getD i ab==aa b)=ac:=λ{i b} e=>by
  rcases f.at' i with z |z
  .grind
  .grind
 cases p with
 |inn t=>
  have s:(_ || ws.getD t.toNat ag)=ac:=s;show(_ || ws'.getD t.toNat ag)=ac;rw[li]at s ⊢
  exact s.imp key (g.at' _)
 |out t=>exact key s
 |least k E=>
  have s:=of_decide_eq_true s;refine decide_eq_true (Int.lt_of_le_of_lt (pW λz hz=>⟨(h.1 z hz).2.2,λe=>?_⟩) s);rw[cD]at e ⊢;refine⟨?_,?_⟩
  .grind
  .cases q:ws.getD z.1.toNat ag with
   |false=>rfl
   |true=>rw[g.at' _ q]at e;exact e.2
 |most k E=>
  have s:=of_decide_eq_true s;refine decide_eq_true (Int.lt_of_lt_of_le s ?_);rw[sM,sM];exact pW λz hz=>⟨(h.1 z hz).2.2,λe=>key e⟩
def ED{a:Type}{p q:a->Bool}{B:List a}(h:∀x∈B,p x=ac->q x=ac)(s:B.any p=ac):B.any q=ac:=by grind
abbrev Ite(K:aO)(l:Addr):It:=
  ⟨λi H=> ∃B x, SqL K H l B/\B[i]? = aa x,
   λi H v H'=> ∃p x, v = .ref p/\H p = ab/\H' = upd H p (.tup [.int i, x])/\(∀B, SqL K H l B->B[i]? = aa x),
   λi H=> ∃B, SqL K H l B/\B.length<=i⟩
variable{elts:LEx}{kx:Nat}
def MT(e it l:Addr)(ne:e≠it):
  jD P w K (.Tuple elts kx pos) (Ite K l) [e,it] e (λi h=>(∃old,IsEnum h e it (i:Int) old)/\h.IsListIter it l i) where
 mem:=by simp
 obj:=λi h st b hb=>by
  obtain⟨⟨old,he⟩,⟨o1,e1,_,d1⟩⟩:=st;simp only[bm,cS,or_false]at hb
  rcases hb with rfl |rfl
  .exact⟨_,he,λv q=>by nomatch q⟩
  .exact⟨o1,e1,λv q=>by rw[d1]at q;nomatch q⟩
 keep:=λi h h' st k=>by
  obtain⟨⟨old,he⟩,h1⟩:=st;exact⟨⟨old,k e (by simp) _ he⟩,h1.at λo q=>k it (by simp) o q⟩
 item:=by
  intro X hP hw hK hc i U s L H U4 I hf st hg;subst hP hw hK;obtain⟨⟨old,he⟩,h1⟩:=st;obtain⟨B,x,q1,hx⟩:=hg;obtain⟨its1,r1,p1,z1⟩:=I.list q1;obtain⟨u1,e1,ru1⟩:=r1.get hx;refine wpAny_pyNext_enum_item he h1 p1.isList (by simpa using e1) ne λh' a1 a3 a5 a6 a7=>⟨_,rfl,?_⟩;refine wpAny_letOwnedTupleGo_enum a1 λh'' b1 b2=>?_
  have lt:∀b∈[e,it],b<s.heap.objs.size:=λb hb=>by
   simp only[bm,cS,or_false]at hb
   rcases hb with rfl |rfl
   .exact bv he
   .obtain⟨o,e,_⟩:=h1;exact bv e
  have kk:∀b o,b∉[e,it]->s.heap.get? b=aa o->h''.get? b=aa o:=λb o hb e=>by
   simp only[bm,cS,or_false,not_or]at hb;obtain⟨n1,n2⟩:=hb;exact(b2.2 b n1).trans (a7 b o n1 n2 e)
  have fr:=I.hok.fresh (aM _)
  have I2:Inv X U L (upd H s.heap.objs.size (.tup [.int i,x])) {s with heap:=h'',toks:=s.toks+1}:=
   (I.turnedMany kk hf).track (I.fpOk (aM _) fr) ⟨(by show 2<=aP;decide),_,.cons ⟨s.toks,rfl⟩ (.cons ru1 .nil),⟨_,((b2.2 _ (jZ (lt e (by simp)))).trans a5),rfl,_,rfl⟩⟩
  refine⟨.ref s.heap.objs.size,_,I2,rfl,⟨_,x,rfl,fr,rfl,λxs' h=>by rw[I.list_inj h q1];exact hx⟩,⟨⟨u1,?_⟩,(a3.at λo q=>(b2.2 it (d5 ne)).trans q)⟩,λb hb=>?_⟩
  .have:((i+1:Nat):Int)=i+1:=by push_cast;rfl
   rw[this];exact b1
  .rw[aI (bR (lt b hb))];exact(hf b hb).1
 done:=by
  intro X hP hw hK hc i U s L H U4 I hf st hg;subst hP hw hK;obtain⟨⟨old,he⟩,h1⟩:=st;obtain⟨B,q1,hend⟩:=hg;obtain⟨its1,r1,p1,z1⟩:=I.list q1;have l1':=r1.length;refine wpAny_pyNext_enum_end (I.ok.hd hc) he h1 p1.isList (by simp;lia) λh' kk=>⟨rfl,I.turnedMany (λb o hb q=>?_) hf⟩;simp only[bm,cS,or_false,not_or]at hb;exact kk b o hb.2 q
 self:=λ_ _ _ _ _ st h=>by obtain⟨⟨old,he⟩,_⟩:=st;exact wpAny_pyIter_enum he h
abbrev MU(K:aO)(a:TA):TI:=λL H R=>a L H λvs H1=>∃l,vs=[.ref l]/\(∃B,SqL K H1 l B)/\R (Ite K l) H1
variable{hO:Pos}{a:Expr}{ta:TA}
def EE(v:Gl X "enumerate")(hm:X.mg "enumerate"=ab)(ha:PA X [a] ta)(w:aL [a] X.env=[(ag,eval a X.env)]:=by rfl):
  PI X (.Tuple elts kx hO) (.Call (.Name "enumerate" p) [a] [] pos) (MU X.K ta):=by
 intro U s L H R I h;refine Call_ (gC I v hm boot_enumerate (ju (thn (ha pos U s L H _ I h) λus s1 ⟨vs,H1,d,j,y⟩=>?_) (by rw[w];rfl) (by rfl)));obtain⟨l,e,⟨B,r⟩,q⟩:=y;subst e;obtain⟨u,rfl,z⟩:=lO j;subst z;obtain⟨i,j,x,C⟩:=d.list r;refine call_enumerate_list x.isList λh' f m A n=>?_;refine wpAny_pyIter_enum f ?_;refine⟨_,_,_,_,H1,rfl,(d.kept n),MT _ _ _ (Nat.succ_ne_self _),⟨⟨_,f⟩,m⟩,λb g=>?_,q⟩;simp only[bm,cS,or_false]at g
 have c:s1.heap.objs.size<=b:=by
  rcases g with rfl |rfl
  .exact Nat.le_add_right _ _
  .exact aM _
 exact d.fpOk c (d.hok.fresh c)
abbrev hV:Nat->LD->LD
 | _,[]=>[]
 |i,x::B=>.tup [.int i,x]::hV (i+1) B
def wZ:∀(i:Nat) (B:LD),(hV i B).length=B.length
 | _,[]=>rfl
 |i,x::B=>by simp only[hV,bO,bO,wZ]
def w5:∀(k:Nat) (B:LD) (i:Nat),(hV k B)[i]?=(B[i]?).map λx=>.tup [.int (k+i:Nat),x]
 | _,[],_=>rfl
 |k,x::B,0=>rfl
 |k,x::B,i+1=>by simp only[hV,gt,gt,w5 _ B i,show k+1+i=k+(i+1) by lia]
abbrev w6:LD->OLD
 | [x]=>(lsD x).map (hV 0)
 | _=>ab
abbrev iN(f:MF2)(M:LS):OLD:=(f M).bind w6
def MV{f:MF2}(J:Gl X "enumerate")(hm:X.mg "enumerate"=ab)(ha:DA c X [a] f)(N:aL [a] X.env=[(ag,eval a X.env)]:=by rfl):
  DI c X (.Tuple elts kx hO) (.Call (.Name "enumerate" p) [a] [] pos) (iN f):=
 PI.imp (EE J hm ha.pa N) λL H R T=>by
  obtain⟨Hf0,H0,Hf,M,ds,st,b,k⟩:=T;unfold iN at b
  cases j:f M with
  |none=>rw[j]at b;nomatch b
  |some u=>
   rw[j]at b;replace b:w6 u=aa ds:=b;refine⟨Hf0,H0,Hf,M,u,st,j,λvs Hf' H' x r=>?_⟩;unfold w6 at b;split at b
   .rename_i dx
    cases ex:lsD dx with
    |none=>rw[ex]at b;nomatch b
    |some B=>
     rw[ex]at b;cases b;obtain⟨v,G,U⟩:=r.one;obtain⟨Q,h,l,y,A⟩:=kz ex U;subst l;refine⟨Q,G,⟨h,x.s.seq y⟩,k _ Hf' H' x λb3 H2 f2 s2 i=>?_⟩;have m:=(f2.trans s2).seq y;have h1:=A.length;refine⟨λd e=>?_,λE=>⟨h,m,by rw[wZ]at E;lia⟩⟩;rw[w5]at e
     cases n:B[i]? with
     |none=>rw[n]at e;nomatch e
     |some x'=>
      rw[n]at e;cases e;obtain⟨Y,g,ru1⟩:=A.get n;refine⟨⟨h,Y,m,g⟩,λz H3 ⟨pp,z1,I,w,C,y1⟩=>?_⟩;subst I C;have q:=y1 h m;rw[g]at q;cases q;exact⟨upd b3 pp _,Ext.new s2 w,pp,_,rfl,aW,.cons (by rw[mP];rfl) (.cons (ru1.up (f2.trans (bG (s2.free w)))) .nil)⟩
   .nomatch b
abbrev iO:D->Option Key
 |.int i=>aa (.inl i)
 |.str x=>aa (.inr x)
 | _=>ab
def pY{k:Key}(e:iO d=aa k)(r:Rep G H d v):v=kV k:=by
 cases d <;> first |(cases e;done) |(cases e;exact r)
abbrev fP(ks:List Key)(k:Key):Bool:=ks.any λj=>decide (j=k)
abbrev hX{a:Type}(ks:List Key)(B:List a)(k:Key)(x:a):List a:=if fP ks k=ac then rQ (λj y=>if j=k then x else y) ks B else B++[x]
abbrev gH(ks:List Key)(k:Key):List Key:=if fP ks k=ac then ks else ks++[k]
def EF{ks:List Key}{k:Key}{v:V}:∀{ks:List Key} {vs:LVv},(ks.zip vs).map (λa=>if a.1=k then (a.1,v) else a)=ks.zip (rQ (λj y=>if j=k then v else y) ks vs)
 | [],_=>rfl
 | _::_,[]=>rfl
 |j::ks,y::vs=>by
  simp only[eI,bF,rN,eI,EF (ks:=ks)]
  by_cases h:j=k
  .subst h;simp
  .simp[h]
def w9{k:Key}:∀{ks:List Key} {vs:LVv},ks.length=vs.length->((ks.zip vs).any λa=>decide (a.1=k))=fP ks k
 | [],[],_=>rfl
 | [],_::_,h=>by cases h
 | _::_,[],h=>by cases h
 |j::ks,y::vs,h=>by
  simp only[eI,fY,fY,w9 (by simpa using h)];rfl
variable{ks:List Key}
def MW{k:Key}(h:ks.length=vs.length):dz (ks.zip vs) k v=(gH ks k).zip (hX ks vs k v):=by
 unfold dz gH hX;rw[w9 h]
 by_cases e:fP ks k=ac
 .rw[if_pos e,if_pos e,if_pos e,EF (ks:=ks)]
 .rw[if_neg e,if_neg e,if_neg e,zip_append h];rfl
def dC{a:Type}{vs:List a}{k:Key}{v:a}(h:ks.length=vs.length):(gH ks k).length=(hX ks vs k v).length:=by
 unfold gH hX
 by_cases e:fP ks k=ac
 .rw[if_pos e,if_pos e,length_zipWith];lia
 .rw[if_neg e,if_neg e,aR,aR,h];rfl
def ao.zipW{G:Gc}{H:Hp}{k:Key}{d:D}{v:V}(q:Rep G H d v):∀{ks:List Key} {ds:LD} {vs:LVv},ao G H ds vs->ao G H (rQ (λj y=>if j=k then d else y) ks ds) (rQ (λj y=>if j=k then v else y) ks vs)
 | [],_,_,_=>.nil
 | _::_,[],_,h=>by cases (h);exact .nil
 |j::ks,x::ds,_,q3_=>by
  obtain⟨u,r,e,a,h2⟩:=q3_;subst e;rw[rN,rN];refine .cons ?_ (ao.zipW q h2)
  grind
def ao.put{k:Key}(r:ao G H ds vs)(q:Rep G H d v):ao G H (hX ks ds k d) (hX ks vs k v):=by
 unfold hX
 by_cases e:fP ks k=ac
 .rw[if_pos e,if_pos e];exact r.zipW q
 .rw[if_neg e,if_neg e];exact r.append (.cons q .nil)
abbrev nV(i:Nat)(M:LS):Option Fl:=aa (.nx (M.set i (.ownd [] [])))
abbrev iP(i:Nat)(a b:MF1)(M:LS):Option Fl:=(b M).bind λd=>(a M).bind λx=>(iO x).bind λk=>match M[i]? with
 |some (.ownd ks B)=>if ks.length<16777216 then aa (.nx (M.set i (.ownd (gH ks k) (hX ks B k d)))) else ab
 | _=>ab
abbrev pZ(x y:D):OD:=(iO x).bind λk=>match y with
 |.dic ks _=>aa (.bl (fP ks k))
 | _=>ab
variable{i:Nat}
def MX(e:PS X st (iF Dl (gD i))):DS c X st (nV i):=PS.imp e λU4 L H g=>by
 obtain⟨Hf0,H0,Hf,M,o,b,d,k⟩:=g;cases d;intro q a;have x:Ext Hf H Hf (upd H q (.dK [])):=Ext.tmp b.sub a;exact k _ Hf _ x.f (b.setOwn rfl x a (b.sub.free a) ⟨[],aW,rfl,.nil⟩)
variable{p':Pos}
def xc(i:Nat)(a:X.N.Nodup)(hi:X.N[i]?=aa x:=by rfl)(e:Loc X.env.scope x:=by first |exact bS rfl |exact bw rfl)(d:fI (.Dict [] [] pos) (aa (.Name x cc)) p'.line X.env=pure ag:=by rfl)(b:LcF X x:=by first |exact .inl rfl |exact .inr rfl):
  DS c X (.Assign [.Name x cc] (.Dict [] [] pos) p') (nV i):=MX (nh a hi e K2 d b)
variable{fk fv:MF1}
def MY(w:PS X st (wn (cB i) (tD (Gx c X) fk) (tD (Gx c X) fv))):DS c X st (iP i fk fv):=PS.imp w λU4 L H C=>by
 obtain⟨Hf0,H0,Hf,M,o,n,a,k⟩:=C;unfold iP at a
 cases g:fv M with
 |none=>rw[g]at a;nomatch a
 |some d=>
  rw[g]at a
  cases j:fk M with
  |none=>rw[j]at a;nomatch a
  |some x=>
   rw[j]at a
   cases m:iO x with
   |none=>rw[ay,ay,m]at a;nomatch a
   |some A=>
    simp only[ay,ay,m]at a;split at a
    .rename_i ks B es;split at a
     .rename_i N;cases a;refine⟨Hf0,H0,Hf,M,d,n,g,λv b4 H1 p E=>?_⟩;have b:=n.step p;obtain⟨l,el,I,J,vs,q,z,r⟩:=b.ownAt rfl es;refine⟨_,el,Hf0,H0,b4,M,x,b,j,λy b3 H2 e G=>?_⟩;have u:=pY m G;subst u;refine⟨l,_,rfl,kj.k (e.h _ _ q) (by rw[cX,lw];lia),?_⟩;refine k L b3 _ (p.f.trans e.f) ((b.step e).mutd rfl rfl es el ⟨hX ks vs A v,?_,dC z,(r.up e.f).put (E.up e.f)⟩);rw[aW,MW z]
     .nomatch a
    .nomatch a
variable{i' value:Expr}
def xf(f:X.A.units+64<cLine)(b:PE X e (cB i))(a:DE c X i' fk)(hv:DE c X value fv)(d:fI value (aa (.Subscript e i' cc)) pos.line X.env=pure ag:=by rfl):
  DS c X (.Assign [.Subscript e i' cc] value pos) (iP i fk fv):=MY (Dk (by lia) b a hv d)
def MZ{k:Key}:∀{ks:List Key} {vs:LVv},ks.length=vs.length->(cw (ks.zip vs) k).isSome=fP ks k:=λ{ks vs} h=>by
 rw[<- sK,w9 h]
variable{b:Expr}
def EG(J:X.A.units+64<cLine)(ha:DE c X a f)(C:DE c X b g)(hm:j4 .In b=ag:=by first |exact nobehind _ (by decide) (by decide) |rfl):DE c X (.Compare a [.In] [b] pos) (m2 pZ f g):=
 PE.imp (IF (KY (by lia) ha C) hm) λL H Q E=>by
  obtain⟨Hf0,H0,Hf,M,d,st,p,k⟩:=E;obtain⟨x,y,m,n,e⟩:=lS p;refine⟨Hf0,H0,Hf,M,x,st,m,λv b4 H1 i G=>⟨Hf0,H0,b4,M,y,st.step i,n,λu b3 H2 j I=>?_⟩⟩;unfold pZ at e
  cases h:iO x with
  |none=>rw[h]at e;nomatch e
  |some N=>
   rw[h]at e
   cases y with
   |dic ks B=>
    cases e;obtain⟨l,vs,el,q,z,r⟩:=I;have w:=pY h G;subst w el;refine⟨l,_,rfl,fj.k (j.s _ _ q),k _ b3 H2 (i.trans j) ?_⟩;rw[MZ z]
    rfl
   | _=>nomatch e
abbrev fQ(i:Nat)(fk fv:MF1)(M:LS):Option Fl:=(fv M).bind λd=>(fk M).bind λx=>match x with
 | .int k=>(match M[i]? with
  |some (.own B)=>(ixN B.length k).map λj=>.nx (M.set i (.own (B.set j d)))
  | _=>ab)
 | _=>ab
def M0(z:PS X st (iF (tD (Gx c X) fv) (vF (cB i) (tD (Gx c X) fk) vX))):DS c X st (fQ i fk fv):=PS.imp z λU4 L H A=>by
 obtain⟨Hf0,H0,Hf,M,o,u,a,k⟩:=A;unfold fQ at a
 cases m:fv M with
 |none=>rw[m]at a;nomatch a
 |some d=>
  rw[m]at a
  cases n:fk M with
  |none=>rw[n]at a;nomatch a
  |some x=>
   rw[n]at a;obtain⟨e,rfl⟩:∃e,x=.int e:=by grind
   replace a:(match M[i]? with |some (.own B)=>(ixN B.length e).map λj=>Fl.nx _ | _=>ab)=aa o:=a
   split at a
   .rename_i B es
    cases p:ixN B.length e with
    |none=>rw[p]at a;nomatch a
    |some j=>
     rw[p]at a;cases a;refine⟨Hf0,H0,Hf,M,d,u,m,λv b4 H1 w C=>?_⟩;have b:=u.step w;obtain⟨l,el,G,I,vs,q,r⟩:=b.ownAt rfl es;refine⟨_,el,Hf0,H0,b4,M,.int e,b,n,λy b3 H2 g E=>?_⟩;exact⟨l,vs,e,j,rfl,E,(g.h _ _ q),by rw[<- r.length];exact p,(k L b3 _ (w.f.trans g.f) ((b.step g).mutd rfl rfl es el ⟨vs.set j v,aW,(r.up g.f).set j (C.up g.f)⟩))⟩
   .grind
def EH(d:PE X e (cB i))(b:DE c X i' fk)(hv:DE c X value fv)(f:swapsWithSole [.Subscript e i' cc] value pos.line X.env=pure ag:=by rfl)(g:swappedStores [.Subscript e i' cc] value X.env=pure ab:=by rfl)
 (a:(iw [.Subscript e i' cc] X.env).map (·.2)=[assign (.Subscript e i' cc) X.env]:=by rfl)
 (ha:∀ v,assign (.Subscript e i' cc) X.env v=(do
   let ov <- d7 [v] (eval e X.env)
   let iv <- d7 [v,ov] (eval i' X.env)
   fZ cc
   d7 [v,ov,iv] (setItem ov iv v)
   release [v,ov,iv] []):=by intro _;rfl):
  DS c X (.Assign [.Subscript e i' cc] value pos) (fQ i fk fv):=M0 (vH hv (vG d b vY ha) f g a)
def xg{G:Gc}{H:Hp}{f:D->D->Option Bool}(i:∀(g h x:D) (c d:Bool) (v:V),Rep G H g v->Rep G H h v->f g x=aa c->f h x=aa d->c=d):
  ∀{a b ys:LD} {c d:Bool} {vs:LVv},ao G H a vs->ao G H b vs->cH f a ys=aa c->cH f b ys=aa d->c=d
 | [],[],[],_,_,_,_,_,h1,h2=>by cases h1;cases h2;rfl
 | [],[],_::_,_,_,_,_,_,h1,h2=>by cases h1;cases h2;rfl
 | [],_::_,_,_,_,_,r1,r2,_,_=>by have:=r1.length;have:=r2.length;simp at *;lia
 | _::_,[],_,_,_,_,r1,r2,_,_=>by have:=r1.length;have:=r2.length;simp at *;lia
 | _::_,_::_,[],_,_,_,_,_,h1,h2=>by cases h1;cases h2;rfl
 |g::a,h::b,y::ys,c,d,vs,r1,r2,h1,h2=>by
  obtain⟨v,r,e,q,u⟩:=r1;obtain⟨I,E,j,p2,w⟩:=r2;subst e;cases j;obtain⟨z,A,l,m,rfl⟩:=sV h1;obtain⟨B,C,n,p,rfl⟩:=sV h2;rw[(i _ _ _ _ _ _ q p2 l n),(xg i u w m p)]
abbrev vD:V->D
 |.bl b=>.bl b
 |.int i=>.int i
 |.str x=>.str x
 | _=>.non
def EI(s:d.scalar=ac)(r:Rep G H d v):d=vD v:=by
 cases d <;> first |(cases s;done) |(rw[show v=_ from r];rfl)
def tG{a:Addr}(s:d.scalar=ac)(r:Rep G H d (.ref a)):False:=by
 cases d <;> first |(cases s;done) |(cases (r))
def p7{G:Gc}{H:Hp}:∀(n:Nat) {u w x:D} {p r:Bool} {v:V},Rep G H u v->Rep G H w v->deq n u x=aa p->deq n w x=aa r->p=r
 | 0,_,_,_,_,_,_,_,_,h,_=>by cases h
 |n+1,u,w,x,p,r,v,r1,r2,h1,h2=>by
  replace h1:lV _ u x=aa p:=h1;replace h2:lV _ w x=aa r:=h2
  have U2:∀{B ys:LD},u=.lst B->w=.lst ys->p=r:=λ{B ys} m g=>by
   subst m g;obtain⟨a,vs,e,q,C⟩:=r1;obtain⟨z,y,i,j,c⟩:=r2;rw[e]at i;cases i;rw[q]at j;cases j;have E:=C.length;have I:=c.length
   cases x with
   |lst l=>
    replace h1:(if B.length=l.length then cH _ B l else aa ag)=aa p:=h1;replace h2:(if ys.length=l.length then cH _ ys l else aa ag)=aa r:=h2
    by_cases A:B.length=l.length
    .rw[if_pos A]at h1;rw[if_pos (by lia)]at h2;exact xg (f:=deq n) (λ_ _ _ _ _ _=>p7 n) C c h1 h2
    .grind
   | _=>cases h1
  have T:∀{B ys:LD},u=.tup B->w=.tup ys->p=r:=λ{B ys} m g=>by
   subst m g;obtain⟨a,vs,e,q,C⟩:=r1;obtain⟨z,y,i,j,c⟩:=r2;rw[e]at i;cases i;rw[q]at j;cases j;have E:=C.length;have I:=c.length
   cases x with
   |tup l=>
    replace h1:(if B.length=l.length then cH _ B l else ab)=aa p:=h1;replace h2:(if ys.length=l.length then cH _ ys l else ab)=aa r:=h2
    by_cases A:B.length=l.length
    .rw[if_pos A]at h1;rw[if_pos (by lia)]at h2;exact xg (f:=deq n) (λ_ _ _ _ _ _=>p7 n) C c h1 h2
    .grind
   | _=>cases h1
  have no:∀{d:D} {b:Bool},lV (deq n) d x=aa b->d.scalar=ac\/(∃B,d=.lst B)\/∃B,d=.tup B:=λ{d b} h=>by
   unfold lV at h
   grind
  rcases no h1 with s1 |⟨B,m⟩ |⟨B,m⟩
  .have:u=w:=by
    rcases no h2 with s2 |⟨ys,g⟩ |⟨ys,g⟩
    .rw[EI s1 r1,<- EI s2 r2]
    .subst g;obtain⟨a,_,e,_⟩:=r2;subst e;exact(tG s1 r1).elim
    .subst g;obtain⟨a,_,e,_⟩:=r2;subst e;exact(tG s1 r1).elim
   grind
  .rcases no h2 with s2 |⟨ys,g⟩ |⟨ys,g⟩
   .subst m;obtain⟨a,_,e,_⟩:=r1;subst e;exact(tG s2 r2).elim
   .grind
   .subst m g;obtain⟨a,vs,e,q,C⟩:=r1;obtain⟨z,y,i,j,c⟩:=r2;rw[e]at i;cases i;rw[q]at j;cases j
  .rcases no h2 with s2 |⟨ys,g⟩ |⟨ys,g⟩
   .subst m;obtain⟨a,_,e,_⟩:=r1;subst e;exact(tG s2 r2).elim
   .subst m g;obtain⟨a,vs,e,q,C⟩:=r1;obtain⟨z,y,i,j,c⟩:=r2;rw[e]at i;cases i;rw[q]at j;cases j
   .exact T m g
abbrev cU(x:D):LD->Option Bool
 | []=>aa ag
 |d::ds=>(deq 19 d x).bind λb=>(cU x ds).map λr=>b || r
abbrev fA(x y:D):OD:=((g7 y).bind (cU x)).map .bl
def M1:∀x y d,fA x y=aa d->d.scalar=ac:=λ_ _ d e=>nE d e
def EJ{x:D}{b:Bool}(h:cU x (d::ds)=aa b):∃a c,deq 19 d x=aa a/\cU x ds=aa c/\b=(a || c):=by
 dsimp only[cU]at h
 cases e:deq 19 d x with
 |none=>rw[e]at h;nomatch h
 |some a=>
  cases f:cU x ds with
  |none=>rw[e,f]at h;nomatch h
  |some c=>rw[e,f]at h;cases h;exact⟨a,c,rfl,rfl,rfl⟩
def xh{a:Type}{f g:a->Bool}:∀{l:List a},(∀x∈l,f x=g x)->l.any f=l.any g
 | [],_=>rfl
 |x::l,h=>by simp only[fY,fY,h x aH,xh λy b=>h y (bj _ b)]
open Classical in
def p8{U:PNS}{L:St}{H:Hp}{s:ah}{A:bW}{x:D}{M:V}{u:Value}(I:Inv X U L H s)(C:A.units+19<cLine)(J:Rep (Gx c X) H x M)(G:az M u):
  ∀{ds:LD} {vs:LVv} {us:LVa} {b:Bool},ao (Gx c X) H ds vs->aE vs us->cU x ds=aa b ->
   ∃f:Value->Bool,(∀y∈us,ca A s y u (f y)/\∃d v,Rep (Gx c X) H d v/\az v y/\deq 19 d x=aa (f y))/\us.any f=b
 | [],_,_,b,r,rv,h=>by
  cases (show _=[]from r);cases rv;cases h
  exact⟨λ_=>ag,(λy g=>by cases g),rfl⟩
 |d::ds,_,_,b,q4_,rv,h=>by
  obtain⟨v,E,l,n,Q⟩:=q4_;subst l;obtain⟨i,Y,m,h2,rfl⟩:=EJ h
  cases rv with
  | @cons _ y _ us a w=>
   obtain⟨f,B,ha⟩:=p8 I C J G Q w h2;have j:ca A s y u i:=wK I 19 C m n J a G;refine⟨λz=>if z=y then i else f z,λz hz=>?_,?_⟩
   .by_cases e:z=y
    .subst e;simp only[if_true];exact⟨j,d,v,n,a,m⟩
    .simp only[e,if_false];exact B z ((bm.mp hz).resolve_left e)
   .rw[fY,if_pos rfl,<- ha]
    congr 1
    by_cases g:y∈us
    .obtain⟨_,d',T,E,p,h'⟩:=B y g;have l:T=v:=az.inj p a;subst l;have N:f y=i:=p7 19 E n h' m;refine xh λz hz=>?_
     by_cases e:z=y
     .subst e;simp[N]
     .simp[e]
    .refine xh λz hz=>?_;have e:z≠y:=λq=>g (q▸hz);simp[e]
def M3(G:X.A.units+64<cLine):OpD c X (cE .In) fA:=by
 rintro U s L H v u w J Q I m C ⟨Hf,x,y,d,g,l,B,e,k⟩;unfold fA at e
 cases h:(g7 y).bind _ with
 |none=>rw[h]at e;nomatch e
 |some b=>
  rw[h]at e;cases e
  cases es:g7 y with
  |none=>rw[es]at h;nomatch h
  |some ds=>
   rw[es]at h;obtain⟨a,vs,p,q,r⟩:=pG es (B.up g);subst p;subst C;have fin:∃n H',Inv X U L H' s/\az n _/\Q n H':=⟨.bl b,H,I,rfl,k _ Hf H (Ext.refl g) rfl⟩
   rcases q with q |q
   .obtain⟨E,j,pl,hz⟩:=I.list q;obtain⟨f,i,ha⟩:=p8 (A:=X.A.in1) I (by grind) (l.up g) m r j h;refine SeqAt.in_listAt f pl.isList (λz hz=>(i z (by grind)).1) ?_;rw[show E.toArray.any f=E.any f by simp,ha];exact fin
   .obtain⟨E,j,pl,hz⟩:=I.tuple q;obtain⟨f,i,ha⟩:=p8 (A:=X.A.in1) I (by grind) (l.up g) m r j h;refine SeqAt.in_tupleAt f pl (λz hz=>(i z (by grind)).1) ?_;rw[show E.toArray.any f=E.any f by simp,ha];exact fin
abbrev Ris(B:Array Nat):Prop:=B.toList.Pairwise (· < ·)
variable{B:Array Nat}
def EK(h:Ris B){a b:Nat}(c:a<b)(d:b<B.size):B.getD a j<B.getD b j:=by
 have e:=pairwise_iff_getElem.mp h a b (by simpa using mO c d) (by simpa using d) c;rw[oM,oM,dif_pos (mO c d),dif_pos d];exact e
def xi(h:Ris B){a b:Nat}(c:a<=b)(d:b<B.size):B.getD a j<=B.getD b j:=by
 rcases Nat.eq_or_lt_of_le c with e |e
 .subst e;exact aM _
 .exact eM (EK h e d)
def xj{B:Array Nat}{j:Nat}(h:Ris B):∀(a lo hi:Nat),lo<=hi->hi<=B.size->hi-lo<=a->(∀i,i<lo->B.getD i j<j)->(∀i,hi<=i->i<B.size->¬B.getD i j<j) ->
  si B j a lo hi<=B.size/\(∀i,i<si B j a lo hi->B.getD i j<j)/\∀i,si B j a lo hi<=i->i<B.size->¬B.getD i j<j
 | 0,lo,hi,h1,h2,h3,h4,h5=>by
  have e:lo=hi:=by lia
  subst e
  exact⟨h2,h4,h5⟩
 |a+1,lo,hi,h1,h2,h3,h4,h5=>by
  dsimp only[si]
  by_cases c:lo<hi
  .rw[if_pos c]
   by_cases hm:B.getD ((lo+hi) / 2) j<j
   .simp only[hm];exact xj h a _ hi (by lia) h2 (by lia) (λi b=>(ly (xi h (by lia) (by lia)) hm)) h5
   .simp only[hm];exact xj h a lo _ (by lia) (by lia) (by lia) h4 λi b f d=>(hm (ly (xi h b f) d))
  .rw[if_neg c];have e:lo=hi:=by lia
   subst e;exact⟨h2,h4,h5⟩
def xk(h:Ris B)(j:Nat):cm B j<=B.size/\(∀i,i<cm B j->B.getD i j<j)/\∀i,cm B j<=i->i<B.size->¬B.getD i j<j:=
 xj h B.size 0 B.size (b9 _) (aM _) (by lia) (λi hi=>by lia) λi hi a=>by lia
def M4(h:Ris B)(hi:i<B.size):cm B (B[i]+1)=i+1:=by
 obtain⟨g,h2,f⟩:=xk h _;have e:B.getD i (B[i]+1)=B[i]:=by rw[oM,dif_pos hi];rfl
 by_cases d:cm B (B[i]+1)<=i
 .exact absurd (by rw[e];lia) (f i d hi)
 .by_cases c:i+1<cm B (B[i]+1)
  .have a:=h2 _ c;have b:=EK h (j:=B[i]+1) (show i<i+1 by lia) (by lia)
   lia
  .lia
def M5(h:Ris B):cm B 0=0:=by
 obtain⟨a,h2,b⟩:=xk h 0
 by_cases e:0<cm B 0
 .have:=h2 0 e;lia
 .lia
def M6(h:Ris B)(hn:B[cm B j]?≠aa j):Ris (cY.insertAt B (cm B j) j):=by
 obtain⟨w,h2,r⟩:=xk h j;unfold Ris cY.insertAt;have g:∀i,(hi:i<B.size)->B.getD i j=B[i]:=λi hi=>by rw[oM,dif_pos hi];rfl
 simp only[Array.toList_append,uW,Array.toList_extract,Array.toList_extract];simp only[extract_eq_drop_take]
 have l:∀x∈B.toList.take (cm B j),x<j:=λx p=>by
  obtain⟨i,hi,e⟩:=mem_take_iff_getElem.mp p;have n:i<cm B j:=by lia
  have:=h2 i n;rw[g i (by lia)]at this;rw[<- e];exact this
 have f:∀x∈B.toList.drop _,j<x:=λx p=>by
  obtain⟨i,hi,e⟩:=mem_drop_iff_getElem.mp p;have m:cm B j+i<B.size:=by simpa[Nat.add_comm]using hi
  have a:=r _ (by lia) m;rw[g _ m]at a;have ex:x=B[cm B j+i]:=by rw[<- e];simp
  rw[ex]
  rcases Nat.lt_or_ge j B[cm B j+i]with q |q
  .exact q
  .exfalso;have v:B[cm B j+i]=j:=by lia
   have d:cm B j<B.size:=by lia
   have b:=xi h (j:=j) (show cm B j<=cm B j+i by lia) m;rw[g _ m,g _ d,v]at b;have c:=r _ (aM _) d;rw[g _ d]at c;exact hn (by rw[lg d];congr 1;lia)
 have u:List.take (B.size-cm B j) _=List.drop (cm B j) B.toList:=oO (by simp);rw[u];refine pairwise_append.mpr ⟨pairwise_append.mpr ⟨Cm (take_sublist _ _) h,by simp,λa ha b d=>?_⟩,Cm (drop_sublist _ _) h,λa ha b d=>?_⟩
 .have:b=j:=by simpa using d
  subst this;exact l a ha
 .rcases bP.mp ha with ha |ha
  .exact mO (l a ha) (f b d)
  .have:a=j:=by simpa using ha
   subst this;exact f b d
def M7(n:Nat):Ris (Array.range n):=by
 unfold Ris;rw[Array.toList_range];exact pairwise_lt_range
variable{t:cY}
def EL(h:t.slot j=.empty\/t.slot j=.dummy):t.place[cm t.place j]?≠aa j:=λe=>by
 have:t.slot j=.live (cm t.place j):=by
  unfold cY.slot
  grind
 grind
def xl{t:cY}{h:Int}:∀(a:Nat) (p:cY.Probe) {j:Nat} {d:Option Nat},(∀d',p.dummy=aa d'->t.place[cm t.place d']?≠aa d')->cY.probe.go t (λ_=>h+1) h a p=aa (.empty j d) ->
  t.place[cm t.place j]?≠aa j/\∀d',d=aa d'->t.place[cm t.place d']?≠aa d'
 | 0,_,_,_,_,e=>by cases e
 |a+1,p,j,d,hd,e=>by
  dsimp only[cY.probe.go]at e;split at e
  .rename_i b;cases e;exact⟨EL (.inl b),hd⟩
  .rename_i b;refine xl a _ (λd' q=>?_) e
   have:d'=p.j:=by
    unfold cY.advance at q;split at q
    .exact(cW q).symm
    .exact(cW q).symm
   subst this;exact EL (.inr b)
  .rename_i i b;split at e
   .cases e
   .refine xl a _ (λd' q=>hd d' ?_) e;unfold cY.advance at q
    split at q <;> exact q
def M8{h:Int}{w:Bool}(e:t.freeSlot h=aa (j,w)):t.place[cm t.place j]?≠aa j:=by
 unfold cY.freeSlot at e;split at e
 .rename_i c d b;obtain⟨a,h2⟩:=xl _ _ (λd' q=>by nomatch q) b
  cases d with
  |none=>cases e;exact a
  |some d'=>cases e;exact h2 _ rfl
 .nomatch e
def tH(t:cY)(n:Nat):Ris (t.standIn n).place/\(t.standIn n).led=t.led:=⟨M7 n,rfl⟩
def M9(n:Nat)(h:Ris t.place):Ris (t.orStandIn n).place/\(t.orStandIn n).led=t.led:=by
 unfold cY.orStandIn;split
 .exact⟨h,rfl⟩
 .exact tH t n
def Na(es:Array (Int×Value))(h:Int)(x:Value)(hr:Ris t.place):Ris (layNew t es h x).2.1.place/\(layNew t es h x).2.1.led=t.led:=by
 unfold layNew;split
 .rename_i slot wd a;exact M9 _ (M6 hr (M8 a))
 .exact tH t _
variable{led:Bool}
def Nb{mask finger moves:Nat}{plain:Bool}{c:Array Int}{t':cY}{order:Array Nat}(e:cY.laid mask finger moves led plain c=aa (t',order)):Ris t'.place/\t'.led=led:=by
 unfold cY.laid at e
 cases d:cY.layClean mask c with
 |none=>rw[d]at e;nomatch e
 |some owner=>
  rw[d]at e;cases e;refine⟨?_,rfl⟩;unfold Ris;rw[pairwise_map,pairwise_filterMap];refine List.Pairwise.imp (λ{a b} f=>?_) pairwise_lt_range
  simp_all
def Nd(es:Array (Int×Value))(a:Nat):Ris (lE t es a).2.1.place/\(lE t es a).2.1.led=t.led:=by
 unfold lE;split
 .rename_i t' order b;dsimp only;split
  .exact(Nb b)
  .exact tH t _
 .exact tH t _
abbrev dH(P:bY)(w:World)(h:Heap)(a:Addr)(led:Bool)(S:Int->Bool)(n:Nat):Prop:=
 ∃o b d c,h.get? a=aa o/\o.ExactSet/\o.data=.set b d c/\ElemsOf (eZ P w) b.toList/\(∀k,S k=ac↔∃e∈b.toList,(eZ P w).is k e.2=ac)
  /\ b.size<j7/\c.fits b.size=ac/\b.size=n/\Ris c.place/\c.led=led
variable{h:Heap}{a:Addr}
def dH.stay{S:Int->Bool}(q:dH P w h a led S n)(k:∀o,h.get? a=aa o->h'.get? a=aa o):dH P w h' a led S n:=by
 obtain⟨o,b,c,e,d,r⟩:=q;exact⟨o,b,c,e,k o d,r⟩
def dH.congr{S b:Int->Bool}{c:Nat}(q:dH P w h a led S n)(e:∀k,S k=b k)(en:n=c):dH P w h a led b c:=by
 have:S=b:=funext e;subst this en;exact q
variable{a4:Array (Int×Value)}{ep:Nat}{tb:cY}
def EM{o:Obj}{b:Array (Int×Value)}{c:cY}{S:Int->Bool}(m:h.get? a=aa o)(f:o.ExactSet)(hd:o.data=.set a4 ep tb)
 (d:ElemsOf (eZ P w) b.toList)(hm:∀k,S k=ac↔∃e∈b.toList,(eZ P w).is k e.2=ac)(j:b.size<j7)(l:c.fits b.size=ac)(hr:Ris c.place)(g:c.led=led):
  (h.update a (Obj.putSet b c)).get? a=aa {o with data:=.set b (ep+1) c}/\dH P w (h.update a (Obj.putSet b c)) a led S b.size:=by
 have i:=(SetOf_store m f hd d hm j l).1;exact⟨i,_,b,ep+1,c,i,f,rfl,d,hm,j,l,rfl,hr,g⟩
variable{s:ah}
def EN{g:Bool->Sem Unit}(I:∀(b:Bool) (i:ah) (x:Unit->ah->Prop),x () i->wpAny (model P w) A (g b) x U4 i){o:Obj}{c:Array (Int×Value)}{d:cY}{S:Int->Bool}
 (B:s.heap.get? a=aa o)(m:o.ExactSet)(hd:o.data=.set a4 ep tb)(l:ElemsOf (eZ P w) c.toList)(hm:∀k,S k=ac↔∃e∈c.toList,(eZ P w).is k e.2=ac)
 (p:c.size<j7)(H:d.fits c.size=ac)(hr:Ris d.place)(f:d.led=led){G:Bool}{R:Option Bool->ah->Prop}
 (h:∀h',fK a s.heap h'->dH P w h' a led S c.size->R (aa ac) {s with heap:=h'}):
  wpAny (model P w) A (do
    storeSet a c d
    if (!G && d.tooFull)=ac then do
      g (lE d c (m7 c.size)).2.2
      storeSet a (lE d c (m7 c.size)).1 (lE d c (m7 c.size)).2.1
      pure (aa ac)
     else pure (aa ac)) R U4 s:=by
 refine aj (wpAny_storeSet_of B hd ?_ (fits_of_scanBound p));obtain⟨n,J⟩:=EM B m hd l hm p H hr f;have E:=mZ s.heap a (Obj.putSet c d);split
 .have pp:=relayAll_perm d c (m7 c.size);have y:=relayAll_fits d c (m7 c.size);have u:=Nd (t:=d) c (m7 c.size);generalize lE d c _=z at pp y u ⊢;obtain⟨j,L,M⟩:=z;have v:j.size=c.size:=by rw[<- gR,pp.length_eq,gR]
  refine aj (I _ _ _ (aj (wpAny_storeSet_of n rfl ?_ (fits_of_scanBound (by rw[v];exact p)))));have C:=(EM n m rfl (l.perm pp) (λk=>(hm k).trans ⟨λ⟨e,r,q⟩=>⟨e,pp.mem_iff.mpr r,q⟩,λ⟨e,r,q⟩=>⟨e,pp.mem_iff.mp r,q⟩⟩) (by rw[v];exact p) y u.1 (u.2.trans f)).2;rw[v]at C;exact aC (h _ (E.trans (mZ _ a _)) C)
 .exact aC (h _ E J)
def Nf{S:Int->Bool}{k:Int}{x:Value}{Q:Bool->ah->Prop}(r:(eZ P w).is k x=ac)(C:x.scannable=ac)(q:dH P w s.heap a led S n)(room:n+1<j7)
 (h:∀h',fK a s.heap h'->dH P w h' a led (λE=>S E || decide (E=k)) (if S k then n else n+1)->Q (!S k) {s with heap:=h'}):wpAny (model P w) A (setAddHashed a x ((eZ P w).hash k)) Q U4 s:=by
 obtain⟨o,a4,ep,tb,u,l,hd,f,hm,J,H,hn,hr,g⟩:=q;refine i5 (aj (mT u hd H ?_));dsimp only;rw[byScan_of C J f,if_pos rfl];refine aj (aj (j6 (aj (wpAny_setScan_of r u hd H f ?_))))
 cases hi:List.findIdx? _ a4.toList with
 |some j=>
  obtain⟨M,N,_⟩:=findIdx?_eq_some_iff_getElem.mp hi;have y:=(hm k).mpr ⟨a4.toList[j],jq M,N⟩;refine aC (aC ?_)
  have fin:=h s.heap (fK.refl a s.heap) ⟨o,a4,ep,tb,u,l,hd,f,λE=>by
   rw[li,decide_eq_true_eq,<- hm E];exact⟨λz=>z.elim id (λe=>e▸y),.inl⟩,J,H,by rw[y];exact hn,hr,g⟩
  rw[y]at fin
  exact fin
 |none=>
  have y:S k=ag:=by
   grind
  have L:∀b c p,p () c->wpAny (model P w) A (match b with |true=>rule "set.scan.the-table-gave-way" |false=>pure ()) p U4 c:=
   λb c p i=>by cases b <;> first |exact aC i |exact j6 i
  have pp:=layNew_perm tb a4 ((eZ P w).hash k) x;have B:=layNew_fits tb a4 ((eZ P w).hash k) x;have G:=Na a4 ((eZ P w).hash k) x hr;generalize layNew tb a4 _ x=z at pp B G ⊢;obtain⟨d,T,U,Y⟩:=z;dsimp only at pp B G ⊢;rw[uW]at pp;have I:d.size=n+1:=by rw[<- gR,pp.length_eq,aR,gR,hn];rfl
  have fin:∀h',fK a s.heap h'->dH P w h' a led _ d.size->Q ac {s with heap:=h'}:=λh' v m=>by
   have:=h h' v;rw[y]at this;rw[I]at m;exact this m
  refine aj (L _ _ _ ?_);split
  .refine aj ?_;rw[hashByValue_scannable 8 C]
   refine aC (EN (led:=led) (λb c p i=>by cases b <;> first |exact aC i |exact j6 i) u l hd ((f.push r C).perm pp) (mem_push_iff r hm pp) (by rw[I];exact room) ?_ ?_ ?_ λh' v m=>?_)
   .split
    .grind
    .exact cY.fits_plain_off B
   .grind
   .grind
   .dsimp only;exact aC (fin h' v m)
  .refine aj (aC ?_)
   refine EN (λb c p i=>by cases b <;> first |exact aC i |exact j6 i) u l hd ((f.push r C).perm pp) (mem_push_iff r hm pp) (by rw[I];exact room) B G.1 (G.2.trans g) λh' v m=>?_
   dsimp only;exact aC (fin h' v m)
set_option maxRecDepth 100000
abbrev dU(w:World):Bool:=!(w.params.followText "set-order")
variable{I:Addr}{wr:LAd}{G:Array GenState->Array GenState->Prop}{Pv:Nat->Value->Prop}
def Ng{St:Nat->ah->Prop}(W:WalksS P w A.in1 I fp wr G n Pv St)(S:Addr)(f:S∉fp)(val:Nat->Int)(hv:∀i v,Pv i v->∃t,v=.int (val i) t)(B:n+1<j7):
  ∀(k i:Nat) (s:ah),n-i=k->i<=n->St i s->dH P w s.heap S led (λj=>(d6 val i).any (·==j)) (d6 val i).length ->
   (∀c,Moved (S::wr) G s c->dH P w c.heap S led (λj=>(d6 val n).any (·==j)) (d6 val n).length->R (.ok (.ret .none)) c) ->
   f6 (model P w) A (.builtin "set.update.loop" ⟨[.ref S,.ref I],[]⟩) R s:=by
 have g:=λh=>f (W.sub _ h);have sub:∀b∈wr,b∈S::wr:=λb h=>bj _ h;intro k
 induction k with
 |zero=>
  intro i s r hi st q fin;obtain rfl:i=n:=by lia
  refine jy F.entry_set_update_loop ?_
  exact aj (W.done s _ _ st λc m=>(aC (fin c (m.mono sub) (q.stay λo e=>m.heap S o g e))))
 |succ k u=>
  intro i s r hi st q fin;have lt:i<n:=by lia
  refine jy F.entry_set_update_loop ?_;refine aj (W.item i s _ _ lt st λv c p d m=>?_);obtain⟨t,rfl⟩:=hv i v p;refine aj (i5 ?_);refine i5 (aj ((eZ P w).pyHash (intKind_is _ _ _ _) ?_));have room:(d6 val i).length+1<j7:=by have:=firstMet_length_le val i;lia
  refine Nf (intKind_is _ _ _ _) rfl (q.stay λo e=>m.heap S o g e) room λh' l x=>?_;have y:dH P w h' S led (λj=>(d6 val _).any (·==j)) (d6 val _).length:=x.congr (λj=>by rw[firstMet_succ,step_any]) (by rw[firstMet_succ,step_length]);refine aC ⟨lB F.plain_set_update_loop _,u _ _ (by lia) lt (W.frame _ c _ _ d (jt _) λb a o e=>?_) y λs2 m2 z=>?_⟩
  .rw[l.2 b λh=>f (by rw[<- h];exact a)];exact e
  .refine fin s2 (Moved.trans W.gtrans ((m.mono sub).then_heap (jt _) λb o a e=>?_) m2) z;rw[l.2 b λh=>a (by rw[h];exact aH)];exact e
nonrec def iQ(led:Bool):Obj:={cls:=.type "set",dict:=ab,data:=.set #[] 0 (.fresh 0 0 led)}
def Nh(a:Value){Q:PRS}(h:Q (.ref s.heap.objs.size) {s with heap:=s.heap.push (iQ (dU w))}):
  f6 (model P w) A (.call (.builtin "set.__new__") ⟨[.type "set",a],[]⟩) (wants Q U4) s:=by
 refine codeAny_of_tree ?_;refine aj (o9 (F.newCall_set_1 a) (aC ⟨lB F.plain_set_new _,jy F.entry_set_new ?_⟩));have b:=sub_set_self
 wp_walk
 refine wpAny_askSetting (aC ?_);exact aj (wpAny_alloc (aC (aC h)))
def Ni(h:Heap)(led:Bool):dH P w (h.push (iQ led)) h.objs.size led (λ_=>ag) 0:=
 ⟨_,#[],0,_,cA _ rfl,⟨rfl,rfl,rfl⟩,rfl,λe a=>by simp at a,λk=>by simp,by decide,rfl,rfl,by unfold Ris;simp[cY.fresh],rfl⟩
set_option maxRecDepth 100000
variable{ns:LI0}
set_option maxHeartbeats 8000000 in
def Nj{items:Array Value}{Q:PRS}(hh:A.handled=ab)(hl:s.heap.IsList l items)(hi:fG items.toList ns)(hb:items.size+1<j7)
 (h:∀ (h':Heap) (g:Nat),dH P w h' s.heap.objs.size (dU w) (λj=>(d6 (λi=>ns.getD i 0) items.size).any (·==j)) (d6 (λi=>ns.getD i 0) items.size).length ->
   (∀b o,b<s.heap.objs.size->s.heap.get? b=aa o->h'.get? b=aa o)->s.toks<=g->Q (.ref s.heap.objs.size) {s with heap:=h',toks:=g}):
  wpAny (model P w) A (call (.type "set") [.ref l]) Q U4 s:=by
 obtain⟨c,tl,L⟩:=j8.mro;have E:=j8.made;have M:=j8.sub;refine wpAny_call (codeAny_of_tree ?_);show wpAny _ _ (callAny (.type "set") _) _ _ _;refine aC ⟨Code.quiet_builtin _ (by decide +kernel),jy F.entry_type_call ?_⟩;rw[bW.under_plain (weight_type_call_type "set" [.ref l] []) rfl];have h1:=j8.notType;have h2:=j8.canCreate;have hct:=F.typeCall_set_1 (.ref l)
 repeat (any_goals (first |assumption |wp_step))
 refine j5 (Nh (.ref l) (U4:=U4) (Q:=λN d=>N=.ref s.heap.objs.size/\d={s with heap:=s.heap.push (iQ (dU w))}) ⟨rfl,rfl⟩) λr d hr=>?_
 cases r with
 |error e=>exact hr
 |ok fl=>
  cases fl with
  |ret N=>
   obtain⟨rfl,rfl⟩:=hr;have g0:(s.heap.push (iQ (dU w))).get? s.heap.objs.size=aa (iQ (dU w)):=cA _ rfl
   have hT:sj {s with heap:=s.heap.push (iQ (dU w))} (.ref s.heap.objs.size) "set":=⟨_,g0,rfl⟩
   have hli:=j8.init.lookup;have hbi:=j8.init.bind (.ref s.heap.objs.size)
   repeat (any_goals (first |assumption |wp_step))
   refine j5 (vb (R:=wants (λr cs=>r=.none/\∃ h' g,cs={ s with heap:=h',toks:=g }/\s.toks<=g /\
     dH P w h' s.heap.objs.size (dU w) (λj=>(d6 (λi=>ns.getD i 0) items.size).any (·==j)) (d6 (λi=>ns.getD i 0) items.size).length /\
     (∀b o,b<s.heap.objs.size->s.heap.get? b=aa o->h'.get? b=aa o)) U4) j8.init.plain F.entry_set_init (check_set_init_1 hT ?_)) λy cs a=>?_
   .obtain⟨⟨oc,od,odt,os⟩,u,n,nl,p⟩:=hl;simp only at n p;subst n p;have x:(s.heap.push (iQ (dU w))).get? l=aa {cls:=.type "list",dict:=od,data:=.seq items nl,slots:=os}:=bu _ u;have k1:=F.sub_list_set;have k2:=F.sub_list_frozenset;have k3:(jA "list" == jA "dict")=ag:=by decide
    have q:(s.heap.push (iQ (dU w))).IsList l items:=⟨_,x,rfl,nl,rfl⟩;unfold d8.«set.__init__» noKeywords d8.Frozenset.updateFrom;generalize z:pyIter=PI
    wp_walk
    subst z;refine wpAny_pyIter_list q (aj (wpAny_runValue ?_));have lt:l<s.heap.objs.size:=bv u;have C:A.in1.in1.in1.handled=ab:=by simp[hh]
    have G:l≠(s.heap.push (iQ (dU w))).objs.size:=by rw[iz];exact bR (jr lt)
    have H:s.heap.objs.size∉[(s.heap.push (iQ (dU w))).objs.size,l]:=by
     rw[iz];simp only[bm,cS,or_false,not_or];exact⟨bR (dq _),jZ lt⟩
    have hv:∀(i:Nat) (v:Value),items[i]?=aa v->∃t,v=.int ((λi=>ns.getD i 0) i) t:=λi v hv=>fG.int_at hi i v (by rw[oK];exact hv);refine Ng (led:=dU w) ((Walks.list C _ l G items).toS) s.heap.objs.size H (λi=>ns.getD i 0) hv hb (items.size-0) 0 _ (by lia) (b9 _) ⟨⟨_,cA _ rfl,rfl,rfl⟩,(q.push _)⟩ ?hS0 ?hR
    case hS0=>exact((Ni (P:=P) (w:=w) s.heap (dU w)).stay λo e=>bu _ e).congr (λ_=>rfl) rfl
    case hR=>
     intro s' hm B;obtain⟨h',g',d',J,I⟩:=s';have U:g'=s.gens:=hm.gens;have T:d'=s.drawn:=hm.drawn;have Y:I=s.os:=hm.os;subst U T Y;show wpAny _ _ _ _ _ _;refine aC ?_;show wpAny _ _ (ret lH) _ _ _;refine aC ⟨rfl,h',J,rfl,hm.toks,B,λb o m e=>?_⟩;have n2:b≠(s.heap.push (iQ (dU w))).objs.size:=by rw[iz];exact bR (jr m)
     refine hm.heap b o ?_ (bu _ (bu _ e));simp only[bm,cS,or_false,not_or];exact⟨bR m,n2⟩
   .cases y with
    |error e=>exact a
    |ok f=>
     cases f with
     |ret r=>
      obtain⟨rfl,h',g,rfl,htk,q',kk⟩:=a
      repeat (any_goals (first |assumption |wp_step))
      exact h _ _ q' kk htk
     | _=>exact a.elim
  | _=>exact hr.elim
set_option maxRecDepth 100000
def xm{a:Type}:∀(l:List a) (i:Nat) (x:a),l[i]?=aa x->(x::l.eraseIdx i).Perm l
 | [],_,_,h=>by simp at h
 |y::l,0,x,h=>by simp at h;subst h;rfl
 |y::l,i+1,x,h=>by
  have:=xm l i x (by simpa using h);exact(List.Perm.swap y x _).trans (u8 y this)
def EO{d:Type}(next:Nat->Nat):∀(a k:Nat) (left:List d) (out:Array d),left.length=a->(ix.go next a k left out).toList.Perm (out.toList++left)
 | 0,k,left,out,h=>by
  obtain rfl:left=[]:=rL.mp h;dsimp only[ix.go]
  simp
 |a+1,k,left,out,h=>by
  dsimp only[ix.go]
  have b:next k % left.length<left.length:=Nat.mod_lt _ (by lia)
  have c:=cr b;rw[c]
  refine(EO next a _ _ _ (by rw[length_eraseIdx_of_lt b];lia)).trans ?_
  rw[uW,cx];exact u7 _ (xm left _ _ c)
def xn{a:Type}(next:Nat->Nat)(B:Array a):(ix next B).toList.Perm B.toList:=by
 have:=EO next B.size 0 B.toList #[] (by simp)
 simpa[ix]using this
def Nk{a:Source}{Q:Nat->ah->Prop}(hn:n≠0)(h:∀i,i<n->Q i {s with drawn:=s.drawn.bump a}):wpAny (model P w) A (choose a n) Q U4 s:=λΓ p b=>
 ⟨hn,h _ (Nat.mod_lt _ (Nat.pos_of_ne_zero hn))⟩
def EQ{b:Type}:∀(n:Nat) (B:List b) {s:ah} {Q:List b->ah->Prop},B.length=n->(∀ys d,ys.Perm B->Q ys {s with drawn:=d})->wpAny (model P w) A (drawOrder n B) Q U4 s
 | 0,B,s,Q,hl,h=>by
  obtain rfl:B=[]:=rL.mp hl;have:=h [] s.drawn (rS _)
  exact aC (by cases s;exact this)
 |n+1,[],s,Q,hl,h=>by cases hl
 |n+1,x::B,s,Q,hl,h=>by
  refine aj (Nk (by simp) λi hi=>?_);have a:=cr hi;rw[a];exact aj (EQ n _ (by rw[length_eraseIdx_of_lt hi];lia) λys d c=>aC (h _ d ((u8 _ c).trans (xm _ _ _ a))))
set_option maxRecDepth 100000
def hZ:Slot "set_iterator" "__next__" "set_iterator.__next__" :=
 .of (owner:="set_iterator") (n:="__next__") (by rw[jz,jx];kernel_rfl) (by decide +kernel) (by decide +kernel) (by decide +kernel) (by first |exact .inl (by decide +kernel) |grind) (by rw[lA];kernel_rfl)
def tI:lF table "set_iterator.__next__"=aa d8.«set_iterator.__next__»:=entryFor_of_fast (by kernel_rfl)
def tJ(a:Value):argsOk "set_iterator.__next__" ⟨[a],[]⟩:=by unfold argsOk;kernel_rfl
def ER:Slot "set_iterator" "__iter__" "set_iterator.__iter__" :=
 .of (owner:="set_iterator") (n:="__iter__") (by rw[jz,jx];kernel_rfl) (by decide +kernel) (by decide +kernel) (by decide +kernel) (by first |exact .inl (by decide +kernel) |grind) (by rw[lA];kernel_rfl)
def Nl:lF table "set_iterator.__iter__"=aa d8.«dict_keyiterator.__iter__»:=
 entryFor_alias (id':="dict_keyiterator.__iter__") (by kernel_rfl) (by first |rfl |decide +kernel |(unfold String.splitOn;simp +decide [String.splitOnAux])) (by decide +kernel) (by kernel_rfl)
def Nm(a:Value):argsOk "set_iterator.__iter__" ⟨[a],[]⟩:=by unfold argsOk;kernel_rfl
nonrec abbrev gJ(h:Heap)(I:Addr)(b:Value)(i:Nat)(a:Addr)(n ep:Nat):Prop:=
 h.get? I=aa {cls:=.type "set_iterator",dict:=ab,data:=.fields #[b,b6 i,.ref a,b6 n,b6 ep],slots:=#[]}
variable{slot:Nat}{Q:Option Value->ah->Prop}
def ES{slot':Nat}{o:Obj}{v:Value}(b:gJ s.heap I (b6 slot) i a n ep)(m:s.heap.get? a=aa o)(hd:o.data=.set a4 ep tb)(l:tb.fits a4.size=ac)(hn:a4.size=n)
 (h:∀(A':bW) (d:PRS) (R:Option (Value×Nat)->ah->Prop),R (aa (v,slot')) s->wpAny (model P w) A' (setNext a slot i ep) R d s)
 (j:∀h',gJ h' I (b6 slot') (i+1) a n ep->fK I s.heap h'->Q (aa v) {s with heap:=h'}):wpAny (model P w) A (gz (.ref I)) Q U4 s:=by
 have c:s.TypeIs (.ref I) "set_iterator":=⟨_,b,rfl⟩;unfold gz;refine aj (mV (mQ (name:=sm "__next__") c hZ (i4 hZ c tI ?_ (tJ _))));show wpAny _ _ (fieldsOf (.ref I) >>= _) _ _ s;refine aj (r6 b rfl ?_);refine aj (oY m hd l ?_);have e:(((a4.size:Nat):Int) != (n:Int))=ag:=by rw[hn];simp
 rw[e,if_neg bx];show wpAny _ _ (setNext a ((slot:Nat):Int).toNat ((i:Nat):Int).toNat ((ep:Nat):Int).toNat >>= _) _ _ s;refine aj (h _ _ _ ?_);refine aj (mR b (by simp) λp f s1=>?_);refine aj (mR f (by simp) λh2 g s2=>aC ⟨v,rfl,aC (j h2 ?_ (fK.trans s1 s2))⟩);show h2.get? I=_;rw[g];rfl
def ET{o:Obj}(l:A.handled=ab)(c:gJ s.heap I (b6 slot) i a n ep)(p:s.heap.get? a=aa o)(hd:o.data=.set a4 ep tb)(j:tb.fits a4.size=ac)(hn:a4.size=n)
 (g:∀(A':bW) (e:PRS) (R:Option (Value×Nat)->ah->Prop),R ab s->wpAny (model P w) A' (setNext a slot i ep) R e s)
 (h:∀h',Heap.ExtBut I s.heap h'->Q ab {s with heap:=h'}):wpAny (model P w) A (gz (.ref I)) Q U4 s:=by
 have d:s.TypeIs (.ref I) "set_iterator":=⟨_,c,rfl⟩;unfold gz;refine aj (mV (mQ (name:=sm "__next__") d hZ (i4 hZ d tI ?_ (tJ _))));show wpAny _ _ (fieldsOf (.ref I) >>= _) _ _ s;refine aj (r6 c rfl ?_);refine aj (oY p hd j ?_);have f:(((a4.size:Nat):Int) != (n:Int))=ag:=by rw[hn];simp
 rw[f,if_neg bx];simp only[d4,d4,d4];refine aj (g _ _ _ ?_);refine aj (mR c (by simp) λr q s1=>?_);show wpAny _ _ (newExc (.type "StopIteration") [] >>= _) _ _ _;refine aj ?_;simp only[newExc,newTuple];refine aj (iq ?_ (by size_fits))
 refine aj (m:=o8 _ _) (o9 (a:=lH) (by first |rfl |(simp only[o8];rfl)) ?_)
 refine iq ?_ (by size_fits);refine aj (wpAny_handled ?_);rw[show A.in1.handled=ab from l];refine aj (aC (wpAny_throw ?_));refine aj (o7 (T:="StopIteration") (b:=ac) ⟨_,cA _ rfl,rfl⟩ isSubtype_stop ?_);exact aC (h _ ((s1.extBut.push _).push _))
variable{T:Addr}{pls:Array Value}
def Nn{pl:Nat}{o:Obj}{q:Int}{v:Value}(c:gJ s.heap I (.ref T) i a n ep)(f:s.heap.get? a=aa o)(hd:o.data=.set a4 ep tb)(e:tb.fits a4.size=ac)(hn:a4.size=n)
 (l:s.heap.get? T=aa {cls:=.type "tuple",data:=.seq pls})(p:pls[i]?=aa (b6 pl))(m:a4[pl]?=aa (q,v))
 (j:∀h',gJ h' I (.ref T) (i+1) a n ep->fK I s.heap h'->Q (aa v) {s with heap:=h'}):wpAny (model P w) A (gz (.ref I)) Q U4 s:=by
 have b:s.TypeIs (.ref I) "set_iterator":=⟨_,c,rfl⟩;unfold gz;refine aj (mV (mQ (name:=sm "__next__") b hZ (i4 hZ b tI ?_ (tJ _))));show wpAny _ _ (fieldsOf (.ref I) >>= _) _ _ s;refine aj (r6 c rfl ?_);refine aj (oY f hd e ?_);have g:(((a4.size:Nat):Int) != (n:Int))=ag:=by rw[hn];simp
 rw[g,if_neg bx];show wpAny _ _ (seqItems? (.ref T) >>= _) _ _ s;refine aj (r9 l rfl ?_)
 show wpAny _ _ (match pls[((i:Nat):Int).toNat]? with |some (.int place _)=>_ |some _=>_ |none=>_) _ _ s
 rw[d4,p];show wpAny _ _ (setNextDrawn a ((pl:Nat):Int).toNat ((ep:Nat):Int).toNat >>= _) _ _ s;simp only[d4,d4];refine aj ?_;unfold setNextDrawn;refine aj (mT f hd e ?_);dsimp only;rw[if_neg (by simp)];rw[m];refine aC ?_;refine aj (mR c (by simp) λd h s1=>aC ⟨v,rfl,aC (j d ?_ s1)⟩);show d.get? I=_;rw[h];rfl
def No{o:Obj}(l:A.handled=ab)(c:gJ s.heap I (.ref T) i a n ep)(p:s.heap.get? a=aa o)(hd:o.data=.set a4 ep tb)(j:tb.fits a4.size=ac)(hn:a4.size=n)
 (d:s.heap.get? T=aa {cls:=.type "tuple",data:=.seq pls})(q:pls[i]?=ab)
 (h:∀h',Heap.ExtBut I s.heap h'->Q ab {s with heap:=h'}):wpAny (model P w) A (gz (.ref I)) Q U4 s:=by
 have e:s.TypeIs (.ref I) "set_iterator":=⟨_,c,rfl⟩;unfold gz;refine aj (mV (mQ (name:=sm "__next__") e hZ (i4 hZ e tI ?_ (tJ _))));show wpAny _ _ (fieldsOf (.ref I) >>= _) _ _ s;refine aj (r6 c rfl ?_);refine aj (oY p hd j ?_);have f:(((a4.size:Nat):Int) != (n:Int))=ag:=by rw[hn];simp
 rw[f,if_neg bx];show wpAny _ _ (seqItems? (.ref T) >>= _) _ _ s;refine aj (r9 d rfl ?_)
 show wpAny _ _ (match pls[((i:Nat):Int).toNat]? with |some (.int place _)=>_ |some _=>_ |none=>_) _ _ s
 rw[d4,q];refine aj (mR c (by simp) λv g r=>?_);refine aj (mR g (by simp) λx u s1=>?_);show wpAny _ _ (newExc (.type "StopIteration") [] >>= _) _ _ _;refine aj ?_;refine aj (iq ?_ (by size_fits))
 refine aj (m:=o8 _ _) (o9 (a:=lH) (by first |rfl |(simp only[o8];rfl)) ?_)
 refine iq ?_ (by size_fits);refine aj (wpAny_handled ?_);rw[show A.in1.handled=ab from l];refine aj (aC (wpAny_throw ?_));refine aj (o7 (T:="StopIteration") (b:=ac) ⟨_,cA _ rfl,rfl⟩ isSubtype_stop ?_);exact aC (h _ (((fK.trans r s1).extBut.push _).push _))
set_option maxRecDepth 100000
def Np:lF table "set.__iter__"=aa d8.«frozenset.__iter__»:=
 entryFor_alias (id':="frozenset.__iter__") (by kernel_rfl) (by first |rfl |decide +kernel |(unfold String.splitOn;simp +decide [String.splitOnAux])) (by decide +kernel) (by kernel_rfl)
abbrev p9(pl:Array Nat):Nat->Nat
 | 0=>0
 |i+1=>pl.getD i 0+1
def EU{pl:Array Nat}(hi:i<pl.size):p9 pl (i+1)=pl[i]+1:=by
 show pl.getD i 0+1=_;simp[oM,hi]
def EV{a b:Type}{f:a->Option b}{g:a->b}:∀(l:List a),(∀x∈l,f x=aa (g x))->l.filterMap f=l.map g
 | [],_=>rfl
 |x::l,h=>by rw[oP,h x aH,bF,EV l λy c=>h y (bj _ c)]
def EW{pl:Array Nat}(h:Ris pl):∀i,i<=pl.size->cm pl (p9 pl i)=i
 | 0,_=>M5 h
 |i+1,hi=>by
  rw[EU (by lia)];exact M4 h (by lia)
def tK{Q:Bool->ah->Prop}(h:Q (w.params.followText "set-order") s):wpAny (model P w) A setsByText Q U4 s:=by
 exact aj (wpAny_askSetting (aC h))
def EX{o:Obj}{R:Option (Value×Nat)->ah->Prop}(c:s.heap.get? a=aa o)(hd:o.data=.set a4 ep tb)(b:tb.fits a4.size=ac)(d:w.params.followText "set-order"=ac)
 (h:R (((ix (w.params.setOrder a ep) a4)[i]?).map λe=>(e.2,slot)) s):wpAny (model P w) A (setNext a slot i ep) R U4 s:=by
 refine aj (mT c hd b ?_);refine aj (tK ?_);rw[d,if_pos rfl,if_neg (by simp)];refine aj ?_;refine aj (mT c hd b ?_);refine aj (tK ?_);rw[d,if_pos rfl];exact aj (wpAny_askSetting (aC (aC h)))
def EY{o:Obj}{R:Option (Value×Nat)->ah->Prop}(d:s.heap.get? a=aa o)(hd:o.data=.set a4 ep tb)(c:tb.fits a4.size=ac)(e:w.params.followText "set-order"=ag)(f:(!tb.plain && decide (a4.size>1))=ag)(b:tb.led=ac)
 (h:R (match a4[cm tb.place slot]?,tb.place[cm tb.place slot]? with |some (_,x),aa j=>aa (x,j+1) | _,_=>ab) s):wpAny (model P w) A (setNext a slot i ep) R U4 s:=by
 refine aj (mT d hd c ?_);refine aj (tK ?_);rw[e,if_neg bx];show wpAny _ _ (if (!tb.plain && decide _)=ac then _ else _) _ _ s;rw[f,if_neg bx];show wpAny _ _ ((if _=ac then unsupported "set:maker-not-led" else pure ()) >>= _) _ _ s;rw[b,Bool.not_true,Bool.false_and,if_neg bx];exact aj (aC (aC h))
def xp{b:Value}{Q:PRS}(d:gJ s.heap I b i a n ep)(h:Q (.ref I) s):wpAny (model P w) A (pyIter (.ref I)) Q U4 s:=by
 have c:s.TypeIs (.ref I) "set_iterator":=⟨_,d,rfl⟩;exact wpAny_pyIter_slot c ER (i4 ER c Nl (aC ⟨_,rfl,"set_iterator",_,c,hZ.lookup,h⟩) (Nm _))
def Nq{o:Obj}(hh:A.handled=ab)(ne:a≠I)(hd:o.data=.set a4 ep tb)(hf:tb.fits a4.size=ac)(hn:a4.size=n)(ht:w.params.followText "set-order"=ac):
  WalksS P w A I [I,a] [I] (λx y=>y=x) n (λi v=>((ix (w.params.setOrder a ep) a4).toList.map (·.2))[i]?=aa v) (λi s=>gJ s.heap I (b6 ((0:Nat):Int)) i a n ep/\s.heap.get? a=aa o) where
 sub:=λb hb=>by simp at hb;simp[hb]
 grefl:=λ_=>rfl
 gtrans:=λ_ _ _ h1 h2=>h2.trans h1
 frame:=λi s h' tk st _ hk=>⟨hk I (by simp) _ st.1,hk a (by simp) _ st.2⟩
 item:=λi s Q U4 hi st hQ=>by
  have hz:(ix (w.params.setOrder a ep) a4).size=n:=by rw[<- gR,(xn _ _).length_eq,gR,hn]
  have hx:_[i]?=aa (ix (w.params.setOrder a ep) a4)[i]:=lg (by lia);refine ES st.1 st.2 hd hf hn (λA' E' R r=>EX st.2 hd hf ht (by rw[hx];exact r)) λh' g sb=>?_;refine hQ _ _ (by rw[cu,oK,hx];rfl) ⟨g,(sb.2 a ne).trans st.2⟩ ⟨λb o' hb e=>(sb.2 b (λh=>hb (by simp[h]))).trans e,rfl,rfl,rfl,aM _⟩
 done:=λs Q U4 st hQ=>by
  have hz:(ix (w.params.setOrder a ep) a4).size=n:=by rw[<- gR,(xn _ _).length_eq,gR,hn]
  have hx:(ix (w.params.setOrder a ep) a4)[n]?=ab:=Array.getElem?_eq_none (by lia);exact ET hh st.1 st.2 hd hf hn (λA' E' R r=>EX st.2 hd hf ht (by rw[hx];exact r)) λh' eb=>hQ _ ⟨λb o' hb e=>eb b o' (λh=>hb (by simp[h])) e,rfl,rfl,rfl,aM _⟩
 self:=λi s Q U4 st hQ=>xp st.1 hQ
def Nr{o:Obj}(hh:A.handled=ab)(ne:a≠I)(hd:o.data=.set a4 ep tb)(hf:tb.fits a4.size=ac)(hn:a4.size=n)(ht:w.params.followText "set-order"=ag)(hw:(!tb.plain && decide (a4.size>1))=ag)(hled:tb.led=ac)(hr:Ris tb.place):
  WalksS P w A I [I,a] [I] (λx y=>y=x) n (λi v=>(a4.toList.map (·.2))[i]?=aa v) (λi s=>gJ s.heap I (b6 ((p9 tb.place i:Nat):Int)) i a n ep/\s.heap.get? a=aa o) where
 sub:=λb hb=>by simp at hb;simp[hb]
 grefl:=λ_=>rfl
 gtrans:=λ_ _ _ h1 h2=>h2.trans h1
 frame:=λi s h' tk st _ hk=>⟨hk I (by simp) _ st.1,hk a (by simp) _ st.2⟩
 item:=λi s Q U4 hi st hQ=>by
  have hz:tb.place.size=a4.size:=by simp only[cY.fits,cD,beq_iff_eq]at hf;exact hf.1
  have hb:=EW hr i (by lia);have hx:a4[i]?=aa a4[i]:=lg (by lia);have hp:tb.place[i]?=aa tb.place[i]:=lg (by lia);have es:p9 tb.place _=tb.place[i]'(by lia)+1:=EU (by lia);refine ES st.1 st.2 hd hf hn (slot':=p9 tb.place _) (λA' E' R r=>EY st.2 hd hf ht hw hled (by rw[hb,hx,hp];rw[es]at r;exact r)) λh' g sb=>?_;refine hQ _ _ (by rw[cu,oK,hx];rfl) ⟨g,(sb.2 a ne).trans st.2⟩ ⟨λb o' hb e=>(sb.2 b (λh=>hb (by simp[h]))).trans e,rfl,rfl,rfl,aM _⟩
 done:=λs Q U4 st hQ=>by
  have hz:tb.place.size=a4.size:=by simp only[cY.fits,cD,beq_iff_eq]at hf;exact hf.1
  have hb:=EW hr n (by lia);have hx:a4[n]?=ab:=Array.getElem?_eq_none (by lia);exact ET hh st.1 st.2 hd hf hn (λA' E' R r=>EY st.2 hd hf ht hw hled (by rw[hb,hx];exact r)) λh' eb=>hQ _ ⟨λb o' hb e=>eb b o' (λh=>hb (by simp[h])) e,rfl,rfl,rfl,aM _⟩
 self:=λi s Q U4 st hQ=>xp st.1 hQ
def Nt{o:Obj}(hh:A.handled=ab)(ne:a≠I)(nT:T≠I)(hd:o.data=.set a4 ep tb)(hf:tb.fits a4.size=ac)(hn:a4.size=n){ord:LN}(hp:ord.Perm (bI n)):
  WalksS P w A I [I,a,T] [I] (λx y=>y=x) n (λi v=>(ord.filterMap λj=>(a4[j]?).map (·.2))[i]?=aa v)
   (λi s=>gJ s.heap I (.ref T) i a n ep/\s.heap.get? a=aa o/\s.heap.get? T=aa {cls:=.type "tuple",data:=.seq (ord.map λ(j:Nat)=>b6 j).toArray}) where
 sub:=λb hb=>by simp at hb;simp[hb]
 grefl:=λ_=>rfl
 gtrans:=λ_ _ _ h1 h2=>h2.trans h1
 frame:=λi s h' tk st _ hk=>⟨hk I (by simp) _ st.1,hk a (by simp) _ st.2.1,hk T (by simp) _ st.2.2⟩
 item:=λi s Q U4 hi st hQ=>by
  have hl:ord.length=n:=by rw[hp.length_eq,cK]
  have lt:∀j∈ord,j<a4.size:=λj hj=>by rw[hn];exact fX.mp (hp.mem_iff.mp hj)
  have hj:ord[i]?=aa _:=cr (by lia);have hlt:ord[i]'(by lia)<a4.size:=lt _ (jq _);have hx:=lg hlt
  have em:(ord.filterMap λj=>(a4[j]?).map (·.2))=ord.map λj=>((a4[j]?).map (·.2)).getD .none:=by
   refine EV ord λj hj=>?_;have:a4[j]?=aa _:=lg (lt j hj);rw[this];rfl
  refine Nn st.1 st.2.1 hd hf hn st.2.2 (by rw[List.getElem?_toArray,cu,hj];rfl) hx λh' g sb=>?_;refine hQ _ _ ?_ ⟨g,(sb.2 a ne).trans st.2.1,(sb.2 T nT).trans st.2.2⟩ ⟨λb o' hb e=>(sb.2 b (λh=>hb (by simp[h]))).trans e,rfl,rfl,rfl,aM _⟩;rw[em,cu,hj];simp only[Option.map_some,hx];rfl
 done:=λs Q U4 st hQ=>by
  have hl:ord.length=n:=by rw[hp.length_eq,cK]
  exact No hh st.1 st.2.1 hd hf hn st.2.2 (by rw[List.getElem?_toArray];exact ij (by simp;lia)) λh' eb=>hQ _ ⟨λb o' hb e=>eb b o' (λh=>hb (by simp[h])) e,rfl,rfl,rfl,aM _⟩
 self:=λi s Q U4 st hQ=>xp st.1 hQ
set_option maxRecDepth 100000
def EZ{P:bY}{w:World}:∀(l:List (Int×Value)),ElemsOf (eZ P w) l->∃ns:LI0,fG (l.map (·.2)) ns/\∀k,(∃e∈l,(eZ P w).is k e.2=ac)↔k∈ns
 | [],_=>⟨[],.nil,λk=>by simp⟩
 |e::l,h=>by
  obtain⟨ns,d,h2⟩:=EZ l h.tail;obtain⟨⟨k,b,_⟩,_⟩:=h.head;obtain⟨t,c⟩:=Value.isInt_shape b;refine⟨k::ns,by rw[bF,c];exact .cons k t d,λj=>?_⟩;rw[bm,<- h2 j];constructor
  .rintro⟨x,a,q⟩
   rcases bm.mp a with rfl |a
   .exact .inl ((eZ P w).inj _ _ _ q b)
   .exact .inr ⟨x,a,q⟩
  .rintro(rfl |⟨x,a,q⟩)
   .exact⟨e,aH,b⟩
   .exact⟨x,bj _ a,q⟩
def E3{a:Type}(B:List a):∀(n k:Nat),k+n=B.length->(List.range' k n).filterMap (λj=>B[j]?)=B.drop k
 | 0,k,h=>by rw[range'_zero,filterMap_nil,drop_of_length_le (by lia)]
 |n+1,k,h=>by
  rw[range'_succ,oP,cr _,E3 B n _ (by lia),drop_eq_getElem_cons (show k<B.length by lia)]
def Nu{a:Type}(B:Array a):(bI B.size).filterMap (λj=>B[j]?)=B.toList:=by
 have:=E3 B.toList B.size 0 (by simp);rw[drop_zero]at this;rw[range_eq_range',<- this];simp
def Nv{S:Int->Bool}{Q:PRS}(q:dH P w s.heap a (dU w) S n)
 (H:∀ (I:Addr) (fp:LAd) (l:LVa) (ns:LI0) (St:Nat->ah->Prop) (h':Heap) (d':Drawn),(∀ A' : bW,A'.handled=ab->WalksS P w A' I fp [I] (λx y=>y=x) n (λi v=>l[i]?=aa v) St) ->
   St 0 {s with heap:=h',drawn:=d'}->(∀b o,s.heap.get? b=aa o->h'.get? b=aa o)->s.heap.objs.size<=I->I∈fp->(∀b∈fp,b<h'.objs.size/\(b=a\/s.heap.objs.size<=b))->fG l ns->ns.length=n->(∀k,S k=ac↔k∈ns)->Q (.ref I) {s with heap:=h',drawn:=d'}):
  wpAny (model P w) A (pyIter (.ref a)) Q U4 s:=by
 obtain⟨o,a4,ep,tb,f,L,hd,J,hm,hb,h,hn,hr,C⟩:=q;have U:s.TypeIs (.ref a) "set":=⟨o,f,L.1⟩;have u:=bv f
 have fin:∀(vs:List _),vs.Perm a4.toList->∃ns,fG _ ns/\ns.length=n/\∀k,S k=ac↔k∈ns:=λvs p=>by
  obtain⟨ns,T,h2⟩:=EZ vs (J.perm p);refine⟨ns,T,?_,λk=>?_⟩
  .rw[<- T.length,aB,p.length_eq,gR,hn]
  .grind
 refine wpAny_pyIter_slot U F.slot_set_iter (i4 F.slot_set_iter U Np ?_ (F.args_set_iter_1 _));show wpAny _ _ (d8.Frozenset.sizeOf a >>= _) _ _ s;refine aj ?_;refine aj (oY f hd h (aC ?_));refine aj ?_;refine aj (mT f hd h ?_);refine aj (tK (aC ?_));show wpAny _ _ (if (!w.params.followText "set-order" && (!tb.plain && decide _))=ac then _ else _) _ _ s
 cases N:w.params.followText "set-order" with
 |true=>
  refine aj (aC (aj (wpAny_setEpoch_of f hd h ?_)));refine aj (iq ?_ (by size_fits));refine aC ?_;obtain⟨ns,r,E,G⟩:=fin _ (xn _ a4);have g:gJ _ s.heap.objs.size (b6 (0:Int)) 0 a n ep:=cA _ rfl;rw[hn];refine⟨_,rfl,"set_iterator",_,⟨_,g,rfl⟩,hZ.lookup,?_⟩;refine H s.heap.objs.size [s.heap.objs.size,a] _ ns _ _ s.drawn (λA' B=>Nq B (bR u) hd h hn N) ⟨g,bu _ f⟩ (λb o' e=>bu _ e) (aM _) (by simp) (λb c=>?_) r E G;rw[iz];simp only[bm,cS,or_false]at c
  rcases c with rfl |rfl
  .exact⟨dq _,.inr (aM _)⟩
  .exact⟨jr u,.inl rfl⟩
 |false=>
  have m:tb.led=ac:=by rw[C];unfold dU;rw[N];rfl
  cases Y:(!tb.plain && decide (a4.size>1))with
  |false=>
   refine aj (aC (aj (wpAny_setEpoch_of f hd h ?_)));refine aj (iq ?_ (by size_fits));refine aC ?_;obtain⟨ns,r,E,G⟩:=fin _ (rS _);have g:gJ (s.heap.push {cls:=.type "set_iterator",dict:=ab,data:=.fields #[b6 ((0:Nat):Int),b6 ((0:Nat):Int),.ref a,b6 n,b6 ep],slots:=#[]}) s.heap.objs.size (b6 ((0:Nat):Int)) 0 a n ep:=cA _ rfl;rw[hn];refine⟨_,rfl,"set_iterator",_,⟨_,g,rfl⟩,hZ.lookup,?_⟩;refine H s.heap.objs.size [s.heap.objs.size,a] _ ns _ _ s.drawn (λA' B=>Nr B (bR u) hd h hn N Y m hr) ⟨g,bu _ f⟩ (λb o' e=>bu _ e) (aM _) (by simp) (λb c=>?_) r E G;rw[iz];simp only[bm,cS,or_false]at c
   rcases c with rfl |rfl
   .exact⟨dq _,.inr (aM _)⟩
   .exact⟨jr u,.inl rfl⟩
  |true=>
   refine aj (EQ _ _ (by rw[cK]) λord d p=>?_);rw[hn]at p;have M:((ord.map λ(i:Nat)=>b6 i)).length<=aP:=by rw[aB,p.length_eq,cK];exact fits_of_scanBound (by lia)
   refine aj (wpAny_newTuple ?_ M)
   refine aj (wpAny_setEpoch_of (s:={s with heap:=s.heap.push {cls:=.type "tuple",data:=.seq (ord.map λ(i:Nat)=>b6 i).toArray},drawn:=d}) (bu _ f) hd h ?_)
   refine aj (iq ?_ (by size_fits));refine aC ?_
   have pv:(ord.filterMap λj=>a4[j]?).Perm a4.toList:=by
    have:=p.filterMap λj=>a4[j]?;rw[<- hn,Nu]at this;exact this
   obtain⟨ns,r,E,G⟩:=fin _ pv;rw[map_filterMap]at r
   have g:gJ ((s.heap.push {cls:=.type "tuple",data:=.seq (ord.map λ(i:Nat)=>b6 i).toArray}).push {cls:=.type "set_iterator",dict:=ab,data:=.fields #[.ref s.heap.objs.size,b6 ((0:Nat):Int),.ref a,b6 n,b6 ep],slots:=#[]})
     (s.heap.push {cls:=.type "tuple",data:=.seq (ord.map λ(i:Nat)=>b6 i).toArray}).objs.size (.ref s.heap.objs.size) 0 a n ep:=cA _ rfl
   rw[hn];refine⟨_,rfl,"set_iterator",_,⟨_,g,rfl⟩,hZ.lookup,?_⟩;have z:(s.heap.push {cls:=.type "tuple",data:=.seq (ord.map λ(i:Nat)=>b6 i).toArray}).objs.size=s.heap.objs.size+1:=iz ..;refine H _ [(s.heap.push {cls:=.type "tuple",data:=.seq (ord.map λ(i:Nat)=>b6 i).toArray}).objs.size,a,s.heap.objs.size] _ ns _ _ d (λA' B=>Nt B (by rw[z];exact bR (jr u)) (by rw[z];exact bR (dq _)) hd h hn p) ⟨g,bu _ (bu _ f),bu _ (cA _ rfl)⟩ (λb o' e=>bu _ (bu _ e)) (by rw[z];exact jt _) (by simp) (λb c=>?_) r E G;rw[iz];simp only[bm,cS,or_false]at c
   rcases c with rfl |rfl |rfl
   .exact⟨dq _,.inr (by rw[z];exact jt _)⟩
   .exact⟨by rw[z];exact jr (jr u),.inl rfl⟩
   .exact⟨by rw[z];exact jr (dq _),.inr (aM _)⟩
set_option maxRecDepth 100000
variable{c5:Array Value}
def Nw{a:LVa}(h:ItemsOf (λi v=>a[i]?=aa v) c5 n)(b:a.length=n):c5.toList=a:=by
 refine ls λi=>?_
 by_cases hi:i<n
 .have e:c5[i]?=aa (c5[i]'(by rw[h.1];exact hi)):=lg _;rw[oK,e];exact(h.2 i _ e).symm
 .rw[ij (by rw[gR,h.1];lia),ij (by lia)]
def Nx:lD (.type "set") "__len__"=pure (aa (.builtin "set.__len__")):=by rw[jz,jx];kernel_rfl
def Ny{S:Int->Bool}{Q:LVa->ah->Prop}(hh:A.handled=ab)(q:dH P w s.heap a (dU w) S n)(hn:n<=aP)
 (hQ:∀(h':Heap) (d':Drawn) (N:Nat) (c:LVa) (ns:LI0),(∀b o,s.heap.get? b=aa o->h'.get? b=aa o)->s.heap.objs.size<=h'.objs.size->s.toks<=N->fG c ns->ns.length=n->(∀k,S k=ac↔k∈ns)->Q c {s with heap:=h',drawn:=d',toks:=N}):
  wpAny (model P w) A (collect (.ref a)) Q U4 s:=by
 unfold collect;refine aj (wpAny_runValue (jy PySem.F.entry_proto_collect ?_));rw[bW.under_plainId PySem.F.plain_proto_collect _];show wpAny _ A.in1 (newList [] >>= λl=>again (.builtin "list.__iadd__" ⟨[l,.ref a],[]⟩)) _ _ s;refine aj (iq ?_);refine aC ⟨lB PySem.F.plain_list_iadd _,jy PySem.F.entry_list_iadd ?_⟩;simp only[bW.under_plainId PySem.F.plain_list_iadd _];show wpAny _ A.in1 (vc (.ref s.heap.objs.size) (.ref a) (.ref s.heap.objs.size)) _ _ _;dsimp only[vc];obtain⟨o,a4,ep,tb,v,m,rest⟩:=id q;have x:a<s.heap.objs.size:=bv v;have q1:dH P w (s.heap.push {cls:=.type "list",data:=.seq ([]:LVa).toArray}) a (dU w) S n:=q.stay λo e=>bu _ e
 have hT:sj {s with heap:=s.heap.push {cls:=.type "list",data:=.seq ([]:LVa).toArray}} (.ref a) "set":=⟨o,bu _ v,m.1⟩
 refine aj (wpAny_typeOf hT ?_);have k1:sh (.ref s.heap.objs.size) (.ref a)=ag:=by simp[sh,jZ x]
 have k2:(jA "set" == jA "list")=ag:=by decide
 have k3:(jA "set" == jA "tuple")=ag:=by decide
 simp only[k1,k2,k3,Bool.or_false,Bool.false_eq_true,if_false];refine aj (Nv q1 λI fp c ns St f g W z keep gI mI u J L i3=>?_)
 have d:sj {s with heap:=f,drawn:=g} (.ref a) "set":=⟨o,keep _ _ (bu _ v),m.1⟩
 have T:(s.heap.push {cls:=.type "list",data:=.seq ([]:LVa).toArray}).objs.size=s.heap.objs.size+1:=iz ..
 have M:s.heap.objs.size∉fp:=λhm=>by
  rcases(u _ hm).2 with e |e
  .exact io _ (by rw[<- e]at x;exact x)
  .rw[T]at e;exact Nat.not_succ_le_self _ e
 refine aj (i5 ?_);unfold Cn;refine aj (rY d Nx ?_);dsimp only;refine aj (o7 d sub_set_self ?_);refine aj (wpAny_typeOf d (aC ?_))
 show wpAny _ A.in1 (rule "list.extend.makes-room" >>= λ_=>d8.List.listTouch (.ref s.heap.objs.size) >>= λ_ =>
  again (.builtin "list.extend.loop" ⟨[.ref s.heap.objs.size,.ref I,.ref s.heap.objs.size],[]⟩)) _ _ _
 refine aj (j6 ?_);have G:=keep _ _ (cA _ rfl);refine aj ?_
 refine aj (rZ (s:={s with heap:=f,drawn:=g}) G rfl ?_)
 have H:=mY (gB (·.push lH)) G rfl
 refine rZ (s:={s with heap:=f.update s.heap.objs.size (gB (·.push lH)),drawn:=g}) H rfl ?_
 have g3:=mY (gB (·.pop)) H rfl
 have p:∀b o,b≠s.heap.objs.size->f.get? b=aa o->((f.update s.heap.objs.size (gB (·.push lH))).update s.heap.objs.size (gB (·.pop))).get? b=aa o:=
  λb o r e=>(mW _ _ (d5 r)).trans ((mW _ _ (d5 r)).trans e)
 have C:=W A.in1 (by simp[hh])
 refine aC ⟨lB PySem.F.plain_extend_loop _,codeAny_extend_loopS C hn _ M _ n 0 _ _ _ rfl (b9 _)
  (C.frame 0 ({s with heap:=f,drawn:=g}:ah) _ s.toks z (aM _) λb r o e=>p b o (λh=>M (h▸r)) e) g3 (ItemsOf.nil _) λs' E c' hm i j=>?_⟩
 refine aj (wpAny_load i (aC ?_));have lv:c.length=n:=by rw[J.length,L]
 rw[Nw j lv];obtain⟨h2,g',d',B,os'⟩:=s';have Y:=hm.gens;have U:d'=g:=hm.drawn;have eo:=hm.os;subst Y U eo;refine hQ h2 d' B c ns (λb o' e=>?_) (eM (bv i)) hm.toks J L i3;have y:=bv e;refine hm.heap b o' ?_ (p b o' (bR y) (keep _ _ (bu _ e)));simp only[bm,cS,or_false,not_or];exact⟨bR y,bR (eK y (cy (by rw[T];exact jt _) gI))⟩
def Nz{S:Int->Bool}{Q:PRS}(y:A.handled=ab)(q:dH P w s.heap a (dU w) S n)(g:n<64)
 (x:∀ (p:Addr) (h':Heap) (d':Drawn) (d e:Nat) (out:Array Value) (ns:LI0),(∀ b o,s.heap.get? b=aa o->h'.get? b=aa o)->s.heap.objs.size<=p->s.toks<=d->h'.get? p=aa (seqObj "list" out e)->fG out.toList ns->ns.Pairwise (·<=·)->ns.length=n->(∀ k,S k=ac↔k∈ns) ->
   Q (.ref p) {s with heap:=h',drawn:=d',toks:=d}):wpAny (model P w) A (call (.builtin "sorted") [.ref a]) Q U4 s:=by
 refine Calls.call_function_entry kind_sorted plain_sorted entry_sorted (args_sorted1 _) ?_;refine aj (aC ?_);refine aj (Ny (by simp[y]) q (by rw[cX];lia) λm u d c ns keep grow htk h i z=>?_);refine aj (wpAny_newList ?_ (by rw[h.length,i,cX];lia));have f:(m.push _).get? m.objs.size=aa (seqObj "list" c.toArray 0):=cA _ rfl;refine aj (i5 (i4 slot_list_sort ⟨_,f,rfl⟩ entry_list_sort (list_sort_tree f h (by rw[h.length,i];exact g) λout j o1 o2 B=>⟨_,rfl,?_⟩) (args_list_sort _)));obtain⟨e,v⟩:=sortedHeap_at f;refine aC ⟨_,rfl,x _ _ u d e out j (λb o l=>?_) grow htk v o1 B (by rw[o2.length_eq,i]) λk=>(z k).trans (o2.mem_iff).symm⟩;have r:=bv (keep b o l);rw[sortedHeap_old (bR r) (by rw[iz];exact jr r)];exact bu _ (keep b o l)
abbrev jL(x:Int):LI0->LI0
 | []=>[x]
 |y::r=>if x<y then x::y::r else if x=y then y::r else y::jL x r
abbrev cQ(ns:LI0):LI0:=ns.foldr jL []
def xq(x k:Int):∀l:LI0,k∈jL x l↔k=x\/k∈l
 | []=>by simp[jL]
 |y::r=>by
  unfold jL;split
  .simp
  .split
   .grind
   .rw[bm,xq x k r,bm]
    grind
def E4(x:Int):∀l:LI0,l.Pairwise (· < ·)->(jL x l).Pairwise (· < ·)
 | [],_=>by simp[jL]
 |y::r,h=>by
  obtain⟨d,h2⟩:=oR.mp h;unfold jL;split
  .rename_i f;refine oR.mpr ⟨λk c=>?_,h⟩
   rcases bm.mp c with e |c
   .subst e;exact f
   .exact Int.lt_trans f (d k c)
  .split
   .exact h
   .rename_i a b;refine oR.mpr ⟨λk c=>?_,E4 x r h2⟩
    rcases(xq x k r).mp c with e |c
    .subst e;lia
    .exact d k c
def iR(k:Int):∀l:LI0,k∈cQ l↔k∈l
 | []=>by simp[cQ]
 |x::l=>by
  show k∈jL x (cQ l)↔_;rw[xq,iR k l,bm]
def kK:∀l:LI0,(cQ l).Pairwise (· < ·)
 | []=>by simp[cQ]
 |x::l=>E4 x _ (kK l)
def xr:∀(l m:LI0),l.Pairwise (· < ·)->m.Pairwise (· < ·)->(∀k,k∈l↔k∈m)->l=m
 | [],[],_,_,_=>rfl
 | [],y::m,_,_,h=>by have:=(h y).mpr aH;simp at this
 |x::l,[],_,_,h=>by have:=(h x).mp aH;simp at this
 |x::l,y::m,hl,hm,h=>by
  obtain⟨b,a⟩:=oR.mp hl;obtain⟨m1,m2⟩:=oR.mp hm
  have e:x=y:=by
   rcases bm.mp ((h x).mp aH)with e |hx
   .lia
   .rcases bm.mp ((h y).mpr aH)with e |hy
    .grind
    .grind
  subst e;rw[xr l m a m2 λk=>?_]
  grind
def nW:∀(F U2:LI0),F.Nodup->(∀x∈F,x∈U2)->U2.length<=F.length->U2.Perm F
 | [],U2,_,_,h=>by
  grind
 |x::F,U2,hn,hs,h=>by
  obtain⟨d,b⟩:=bX.mp hn;have a:=hs x aH;refine(perm_cons_erase a).trans (u8 x (nW F _ b (λy c=>?_) ?_))
  .grind
  .grind
def tL(val:Nat->Int):∀i,(d6 val i).Nodup
 | 0=>by rw[firstMet_zero];grind
 |i+1=>by
  rw[firstMet_succ];unfold step_dedup;split
  .exact tL val i
  .rename_i h;refine fW.mpr ⟨tL val i,by simp,λa ha b c e=>?_⟩
   grind
def E5(ns:LI0)(k:Int):(d6 (λi=>ns.getD i 0) ns.length).any (·==k)=ac↔k∈ns:=by
 rw[firstMet_any]
 have e:(bI ns.length).map (λi=>ns.getD i 0)=ns:=by
  refine ls λi=>?_;rw[cu]
  by_cases hi:i<ns.length
  .rw[uY hi];simp[hi]
  .rw[ij (by rw[cK];lia),ij (by lia)];rfl
 rw[e,any_eq_true];exact⟨λb=>by obtain⟨x,a,q⟩:=b;have:=beq_iff_eq.mp q;exact this▸a,λh=>⟨k,h,by simp⟩⟩
variable{out:LI0}
def NA(d:out.Pairwise (·<=·))(f:out.length=(d6 (λi=>ns.getD i 0) ns.length).length)(hm:∀k,(d6 (λi=>ns.getD i 0) ns.length).any (·==k)=ac↔k∈out):out=cQ ns:=by
 have nd:=tL (λi=>ns.getD i 0) ns.length
 have lt:out.Pairwise (· < ·):=by
  exact List.Pairwise.imp₂ (λa b c h2=>(Int.lt_iff_le_and_ne.mpr ⟨c,h2⟩)) d ((nW _ out nd (λx e=>(hm x).mp (any_eq_true.mpr ⟨x,e,by simp⟩)) (by lia)).nodup_iff.mpr nd)
 exact xr _ _ lt (kK ns) λk=>by rw[<- hm k,E5,iR]
def NB(ns:LI0):(cQ ns).length=(d6 (λi=>ns.getD i 0) ns.length).length:=by
 have m:∀x,x∈d6 _ ns.length↔x∈cQ ns:=λx=>by
  refine Iff.trans ?_ (iR x ns).symm;refine Iff.trans ?_ (E5 ns x);rw[any_eq_true];exact⟨λh=>⟨x,h,by simp⟩,λc=>by obtain⟨y,b,q⟩:=c;have:=beq_iff_eq.mp q;exact this▸b⟩
 rcases Nat.le_total (cQ ns).length (d6 _ ns.length).length with h |h
 .exact(nW _ _ (tL _ ns.length) (λx a=>(m x).mp a) h).length_eq
 .exact(nW _ _ ((kK ns).imp λh=>Int.ne_of_lt h) (λx a=>(m x).mpr a) h).length_eq.symm
def Inv.draws(I:Inv X U L H s)(d':Drawn):Inv X U L H {s with drawn:=d'}:=by
 refine I.step (ch:=[]) (λb a=>by nomatch a) (λb o _ _ _ e _=>e) (λb o _ _ _ e _=>⟨o.slots,e⟩) (λ_ _ _ _ n=>n)
  (λb o _ e=>⟨o,e⟩) (λ_ _ e=>e) (λ_ _ _ e=>e) (λb ps e=>⟨#[],by rw[e];simp⟩) (λm hm=>hm) I.hok I.bare
def xu:∀{vs:LVa} {ns:LI0},fG vs ns->aE (ns.map V.int) vs
 | _,_,.nil=>.nil
 | _,_,.cons n t h=>.cons ⟨t,rfl⟩ (xu h)
def xv:∀{ns:LI0} {vs:LVa},aE (ns.map V.int) vs->fG vs ns
 | [],_,.nil=>.nil
 |n::ns,_,.cons ⟨t,e⟩ h=>by subst e;exact .cons n t (xv h)
abbrev tSS(K:aO)(te:TE):TE:=λL H Q=>te L H λx H1=>∃l ns,x=.ref l/\SqL K H1 l (ns.map V.int)/\ns.length<4000/\(cQ ns).length<64/\∀p,H1 p=ab->Q (.ref p) (upd H1 p (.lst ((cQ ns).map V.int)))
variable{c3:Pos}
def NC(y:X.calm=ac)(j:Gl X "sorted")(n:X.mg "sorted"=ab)(m:Gl X "set")(r:X.mg "set"=ab)(T:PE X e te)
 (N:aL [.Call (.Name "set" p2) [e] [] c3] X.env=(ag,eval (.Call (.Name "set" p2) [e] [] c3) X.env)::aL [] X.env:=by rfl)(h2:aL [e] X.env=(ag,eval e X.env)::aL [] X.env:=by rfl)
 (v:(bZ pos (aL [] X.env)).any (·.1)=ag:=by rfl)(d:(bZ c3 (aL [] X.env)).any (·.1)=ag:=by rfl):
  PE X (.Call (.Name "sorted" p) [.Call (.Name "set" p2) [e] [] c3] [] pos) (tSS X.K te):=by
 intro U s L H Q I h;refine ip (gC I j n boot_sorted ?_);refine va ?_ N v;refine iy (ip (gC I m r boot_set ?_));refine ju ?_ h2 d;rw[h2];refine iy (thn (T U s L H _ I h) λu s1 q_=>?_);obtain⟨x,H1,c,r1,l,ns,G,hq,hb,i,q⟩:=q_;subst G;subst r1;refine aC ?_;obtain⟨E,rr,pl,hz⟩:=c.list hq;have A:=xv rr;have C:E.toArray.size=ns.length:=by rw[size_toArray,A.length]
 refine Nj (c.ok.hd y) pl.isList (by simpa using A) (by rw[C];unfold j7;lia) λh' tk w keep htk=>?_;rw[C]at w;refine aC ?_;have lt:s1.heap.objs.size<h'.objs.size:=by obtain⟨o,_,_,_,Y,_⟩:=id w;exact bv Y
 refine Nz (c.ok.hd y) w (by rw[<- NB];exact i) λpp M f B ep out ns' a gp z J o1 o3 o4 o5=>?_;have en:=NA o3 o4 o5;subst en;refine⟨.ref pp,_,((c.laid (λb u g=>a _ _ (keep b u (bv g) g)) (cy (eM lt) gp) ?_).draws f),rfl,q pp (c.hok.fresh (cy (eM lt) gp))⟩;exact⟨by rw[aB,cX];lia,out.toList,ep,xu o1,by simpa using J⟩
abbrev ib:LD->Option (LI0)
 | []=>aa []
 |.int i::r=>(ib r).map (i::·)
 | _::_=>ab
def xy:∀{ds:LD} {ns:LI0},ib ds=aa ns->ds=ns.map D.int
 | [],_,h=>by cases h;rfl
 |.int i::r,ns,h=>by
  replace h:(ib r).map _=aa ns:=h
  cases e:ib r with
  |none=>rw[e]at h;cases h
  |some m=>rw[e]at h;cases h;rw[xy e];rfl
 |.non::_,_,h=>by cases h
 |.bl _::_,_,h=>by cases h
 |.str _::_,_,h=>by cases h
 |.lst _::_,_,h=>by cases h
 |.tup _::_,_,h=>by cases h
 |.kl _::_,_,h=>by cases h
 |.kt _::_,_,h=>by cases h
 |.dic _ _::_,_,h=>by cases h
 |.ins _ _ _::_,_,h=>by cases h
def xz:∀(ns:LI0),ib (ns.map D.int)=aa ns
 | []=>rfl
 |n::ns=>by show(ib _).map _=_;rw[xz ns];rfl
def xA{G:Gc}{H:Hp}:∀{ns:LI0} {vs:LVv},ao G H (ns.map D.int) vs->vs=ns.map V.int
 | [],_,h=>h
 |n::ns,_,⟨v,r,e,h1,h2⟩=>by rw[e,show v=V.int n from h1,xA h2];rfl
abbrev l6(f:MF1)(M:LS):OLD:=(f M).bind λd=>(lsD d).bind λds=>(ib ds).bind λns=>if ns.length<4000/\(cQ ns).length<64 then aa ((cQ ns).map .int) else ab
def ND(I:X.calm=ac)(m:Gl X "sorted")(u:X.mg "sorted"=ab)(n:Gl X "set")(w:X.mg "set"=ab)(ha:DE c X e f)
 (G:aL [.Call (.Name "set" p2) [e] [] c3] X.env=(ag,eval (.Call (.Name "set" p2) [e] [] c3) X.env)::aL [] X.env:=by rfl)(h2:aL [e] X.env=(ag,eval e X.env)::aL [] X.env:=by rfl)
 (z:(bZ pos (aL [] X.env)).any (·.1)=ag:=by rfl)(b:(bZ c3 (aL [] X.env)).any (·.1)=ag:=by rfl):DO c X (.Call (.Name "sorted" p) [.Call (.Name "set" p2) [e] [] c3] [] pos) (l6 f):=
 PE.imp (NC I m u n w ha G h2 z b) λL H Q J=>by
  obtain⟨Hf0,H0,Hf,M,ds,st,a,k⟩:=J;unfold l6 at a
  cases g:f M with
  |none=>rw[g]at a;nomatch a
  |some d=>
   rw[g]at a
   cases i:lsD d with
   |none=>rw[ay,i]at a;nomatch a
   |some B=>
    rw[ay,i]at a
    cases j:ib B with
    |none=>rw[ay,j]at a;nomatch a
    |some ns=>
     rw[ay,j,ay]at a;split at a
     .rename_i A;cases a;refine⟨Hf0,H0,Hf,M,d,st,g,λv Hf' H' x r=>?_⟩;obtain⟨l,vs,el,q,C⟩:=kz i r;rw[xy j]at C;have E:=xA C;subst E el;exact⟨l,ns,rfl,x.s.seq q,A.1,A.2,λpp y=>k pp _ Hf' _ (x.trans (Ext.tmp x.s y)) (x.h.free y) (x.s.free y) aW (ao.ints _)⟩
     .nomatch a
abbrev jM(f g:MF1)(M:LS):OLD:=(f M).bind λx=>(g M).bind λy=>match x,y with
 |.lst a,.lst b=>if a.length+b.length<=16777216 then aa (a++b) else ab
 | _,_=>ab
def NE(h:jM f g M=aa ds):∃a b,f M=aa (.lst a)/\g M=aa (.lst b)/\a.length+b.length<=16777216/\ds=a++b:=by
 unfold jM at h
 cases c:f M with
 |none=>rw[c]at h;nomatch h
 |some x=>
  cases d:g M with
  |none=>rw[c,d]at h;nomatch h
  |some y=>
   grind
def E6{a:Expr}(ha:DE c X a f)(r:DE c X b g):DO c X (.BinOp a .Add b pos) (jM f g):=PE.imp (CH Dd ha r) λL H Q A=>by
 obtain⟨Hf0,H0,Hf,M,ds,st,q,k⟩:=A;obtain⟨B,ys,j,n,w,rfl⟩:=NE q;refine⟨Hf0,H0,Hf,M,_,st,j,λv b4 H1 i C=>⟨Hf0,H0,b4,M,_,st.step i,n,λu b3 H2 d E=>?_⟩⟩;obtain⟨l,vs,el,y,s1⟩:=C.up d.f;obtain⟨m,us,em,z,s2⟩:=E;subst el em;have x:=i.trans d;exact⟨l,m,vs,us,rfl,rfl,d.s _ _ y,d.s _ _ z,by rw[cX,<- s1.length,<- s2.length];exact w,λp e=>k p _ b3 _ (x.trans (Ext.tmp x.s e)) (x.h.free e) (x.s.free e) aW (s1.append s2)⟩
abbrev wp(F:MF3)(M:LS)(K:Fl->Prop):Prop:=∃o,F M=aa o/\K o
abbrev E7(F:MF3)(K:Fl->Prop):Fl->Prop
 |.nx M=>wp F M K
 |o=>K o
abbrev xB(J:LS->Prop)(K:Fl->Prop):Fl->Prop
 |.nx M=>J M
 |.ct M=>J M
 |.bk M=>K (.nx M)
 |o=>K o
abbrev tM(Q:D->Prop)(o:Fl):Prop:=∃d,Ep o=aa d/\Q d
variable{K:Fl->Prop}
def NF{F:MF3}{a:Fl->Prop}(h:wp F M K)(b:∀o,K o->a o):wp F M a:=by
 obtain⟨o,e,k⟩:=h;exact⟨o,e,b o k⟩
def ak{F F':MF3}(h:wp F M (E7 F' K)):wp (ai F F') M K:=by
 obtain⟨o,e,k⟩:=h;unfold wp ai;rw[e]
 cases o with
 |nx ρ'=>exact k
 | _=>exact⟨_,rfl,k⟩
def bK(h:K (.nx M)):wp bC M K:=⟨_,rfl,h⟩
def bi(h:f M=aa d)(k:K (.nx (M.set i (.im d)))):wp (aY i f) M K:=⟨_,Ev h,k⟩
def dW{f:MF2}{d:LD}(h:f M=aa d)(k:K (.nx (M.set i (.own d)))):wp (cO i f) M K:=⟨_,Mz h,k⟩
def dX(h:f M=aa d)(k:K (.rt d)):wp (aX f) M K:=⟨_,c7 h,k⟩
def iS{f:MF2}{d:LD}(h:f M=aa d)(k:K (.rtO d)):wp (cb f) M K:=⟨_,by unfold cb;rw[h];rfl,k⟩
def E8{F:MF3}{o:Fl}(h:F M=aa o)(k:K o):wp F M K:=⟨_,h,k⟩
variable{b:Bool}
def aU{t:MF4}{F F':MF3}(h:t M=aa b)(c:b=ac->wp F M K)(a:b=ag->wp F' M K):wp (bc t F F') M K:=by
 unfold wp bc;rw[h]
 cases b with
 |true=>exact c rfl
 |false=>exact a rfl
def nX{F:MF3}(e:wU i M=ρ')(h:wp F ρ' K):wp (fm i F) M K:=by
 subst e;exact h
variable{B:LD}
def gc(h:f M=aa d)(h':M[i]?=aa (.own B))(a:B.length<16777216)(k:K (.nx (M.set i (.own (B++[d]))))):wp (c6 i f) M K:=⟨_,MJ h h' a,k⟩
def kL{k:Int}(hv:fv M=aa d)(c:fk M=aa (.int k))(h':M[i]?=aa (.own B))(a:0<=k)(b:k<B.length):fQ i fk fv M=aa (.nx (M.set i (.own (B.set k.toNat d)))):=by
 have e:ixN B.length k=aa k.toNat:=by
  unfold ixN;rw[if_pos a,if_pos b]
 unfold fQ;simp only[hv,ay,c,ay,h'];show(ixN B.length k).map _=_;rw[e];rfl
def nY{k:Int}(hv:fv M=aa d)(c:fk M=aa (.int k))(h':M[i]?=aa (.own B))(a:0<=k)(b:k<B.length)(q:K (.nx (M.set i (.own (B.set k.toNat d))))):wp (fQ i fk fv) M K:=⟨_,kL hv c h' a b,q⟩
def E9{i:Type}{g:D->LS->Option LS}{F:MF3}{K:Fl->Prop}(f:i->D)(I:List i->LS->Prop):∀(post pre:List i) (M:LS),I pre M ->
  (∀b x e M,pre++post=b++x::e->I b M->∃ρ1,g (f x) M=aa ρ1/\wp F ρ1 (xB (I (b++[x])) K))->(∀ρ',I (pre++post) ρ'->K (.nx ρ'))->wp (hE g F (post.map f)) M K
 | [],pre,M,h,_,hk=>⟨_,rfl,hk M (by rw[bQ];exact h)⟩
 |x::post,pre,M,h,hs,hk=>by
  obtain⟨ρ1,j,o,l,c⟩:=hs pre x post M rfl h;unfold wp;rw[bF];dsimp only[hE];simp only[j,ay,l,ay]
  have go:=λa h2=>
   E9 f I post (pre++[x]) a h2 (by rw[cx];exact hs) (by rw[cx];exact hk)
  cases o with
  |nx a=>exact go a c
  |ct a=>exact go a c
  |bk a=>exact⟨_,rfl,c⟩
  |rt d=>exact⟨_,rfl,c⟩
  |rtO d=>exact⟨_,rfl,c⟩
  |rtS d a=>exact⟨_,rfl,c⟩
  |rtT o=>exact⟨_,rfl,c⟩
def dh{a:Type}{g:D->LS->Option LS}{F:MF3}(B:List a)(f:a->D)(I:List a->LS->Prop)(hi:fi M=aa (B.map f))(b:I [] M)
 (d:∀pre x post M,B=pre++x::post->I pre M->∃ρ1,g (f x) M=aa ρ1/\wp F ρ1 (xB (I (pre++[x])) K))(c:∀ρ',I B ρ'->K (.nx ρ')):wp (bU fi g F) M K:=by
 obtain⟨o,e,k⟩:=E9 f I B [] M b d c;refine⟨o,?_,k⟩;unfold bU;rw[hi];exact e
def qb{t:MF4}{F:MF3}{K:Fl->Prop}(I:Nat->LS->Prop)(g:∀m M,I m M->∃b,t M=aa b/\(b=ac->wp F M (xB (λρ'=>∃f,f<m/\I f ρ') K))/\(b=ag->K (.nx M))):
  ∀(n m:Nat) (M:LS),I m M->m<n->wp (cT t F n) M K
 | 0,m,M,_,h=>absurd h (jY _)
 |n+1,m,M,h,hn=>by
  obtain⟨b,e,l,j⟩:=g m M h;unfold wp;dsimp only[cT];simp only[e,ay]
  cases b with
  |false=>exact⟨_,rfl,j rfl⟩
  |true=>
   obtain⟨o,i,c⟩:=l rfl;rw[i,ay]
   have go:∀a,(∃f,f<m/\I f a)->wp _ a K:=λa q=>by
    obtain⟨f,hm,h2⟩:=q;exact qb I g n f a h2 (by lia)
   cases o with
   |nx a=>exact go a c
   |ct a=>exact go a c
   |bk a=>exact⟨_,rfl,c⟩
   |rt d=>exact⟨_,rfl,c⟩
   |rtO d=>exact⟨_,rfl,c⟩
   |rtS d a=>exact⟨_,rfl,c⟩
   |rtT o=>exact⟨_,rfl,c⟩
variable{Q:D->Prop}
def l7{F:MF3}(h:wp F (fq n ds) (tM Q)):∃d,aN n F ds=aa d/\Q d:=by
 obtain⟨o,e,d,a,q⟩:=h;refine⟨d,?_,q⟩;unfold aN;rw[e];exact a
def iT{F:MF3}{r:D}(h:wp F (fq n ds) (tM λd=>d=r)):aN n F ds=aa r:=by
 obtain⟨d,e,q⟩:=l7 h;rw[e,q]
def eT(h:Q d):tM Q (.rt d):=⟨d,rfl,h⟩
def je{d:LD}(h:Q (.lst d)):tM Q (.rtO d):=⟨.lst d,rfl,h⟩
def kM{t:MF4}{r:OD}(h:t M=aa b)(c:b=ac->f M=r)(a:b=ag->g M=r):vIf t f g M=r:=by
 unfold vIf
 grind
variable{i j:Int}
def cp(h:0<j):bT (.int i) (.int j)=aa (.int (i % j)):=tF h
def kO(h:pf i j):jF (.int i) (.int j)=aa (.int (i / j)):=tF h
def qc(h:ki i j):nC (.int i) (.int j)=aa (.int (i ^ j.toNat)):=tF h
def fB:dN (.int i) (.int j)=aa (.int (i+j)):=rfl
def jN:ja (.int i) (.int j)=aa (.int (i-j)):=rfl
def qd:dLt (.int i) (.int j)=aa (.bl (decide (i<j))):=rfl
def jf:dGt (.int i) (.int j)=aa (.bl (decide (j<i))):=rfl
def Fa:dGe (.int i) (.int j)=aa (.bl (decide (j<=i))):=rfl
def dO{a:Type}(B:List a)(f:a->D):bJ [.lst (B.map f)]=aa (.int B.length):=by
 show aa _=_;rw[aB]
def Fb{a:Type}(B:List a)(f:a->D):bJ [.kl (B.map f)]=aa (.int B.length):=by
 show aa _=_;rw[aB]
def Fc{a:Type}(f:a->D)(B:List a)(lo hi:Option Int):pK (B.map f) lo hi=((B.drop (HT.sIx B.length 0 lo)).take (HT.sIx B.length B.length hi-HT.sIx B.length 0 lo)).map f:=by
 unfold pK
 simp_all
variable{lo hi:Option Int}
def n4{a:Type}{l h:LS->Option (Option Int)}{g:a->D}{B:List a}(e:f M=aa (.lst (B.map g)))(b:l M=aa lo)(c:h M=aa hi):mSl f l h M=aa (((B.drop (HT.sIx B.length 0 lo)).take (HT.sIx B.length B.length hi-HT.sIx B.length 0 lo)).map g):=by
 unfold mSl;rw[e,ay];show(l M).bind _=_;rw[b,ay,c,<- Fc];rfl
def Fd{a:Type}{l h:LS->Option (Option Int)}{g:a->D}{B:List a}(e:f M=aa (.kl (B.map g)))(b:l M=aa lo)(c:h M=aa hi):mSl f l h M=aa (((B.drop (HT.sIx B.length 0 lo)).take (HT.sIx B.length B.length hi-HT.sIx B.length 0 lo)).map g):=by
 unfold mSl;rw[e,ay];show(l M).bind _=_;rw[b,ay,c,<- Fc];rfl
def NG{a:Type}(f:a->Bool)(B:List a):(B.map λx=>D.bl (f x))=(B.map f).map D.bl:=by
 rw[map_map];rfl
abbrev kJ(J:LS->Prop)(o:Fl):Prop:=∃ρ',o=.nx ρ'/\J ρ'
def k_J{J:LS->Prop}(h:J M):kJ J (.nx M):=⟨M,rfl,h⟩
def Fe{S F:MF3}(J:LS->Prop)(h:wp S M (kJ J))(k:∀ρ',J ρ'->wp F ρ' K):wp (ai S F) M K:=by
 apply ak;obtain⟨o,e,ρ',rfl,j⟩:=h;exact⟨_,e,k ρ' j⟩
def NH{i:Nat}(h:M[i]?=aa (.im d))(k:K (.rt d)):wp (eQ i) M K:=⟨_,by unfold eQ;rw[h],k⟩
def l8{i:Nat}{d:LD}(h:M[i]?=aa (.own d))(k:K (.rtO d)):wp (eQ i) M K:=⟨_,by unfold eQ;rw[h],k⟩
abbrev D.flat:D->Bool
 |.tup B=>B.all D.scalar
 |d=>d.scalar
abbrev kP(Hf H:Hp):Hp:=λa=>match H a with
 |some (.tup vs)=>aa (.tup vs)
 | _=>Hf a
def xC(h:H a=aa (.tup vs)):kP Hf H a=aa (.tup vs):=by
 unfold kP;rw[h]
def n6(h:∀vs,H a≠aa (.tup vs)):kP Hf H a=Hf a:=by
 unfold kP
 grind
def xD(s:aq Hf H)(g:aq H H'):Ext Hf H (kP Hf H') H':=by
 refine⟨λb u e=>?_,g,λb u e=>?_,λl o e t=>n6 λvs q=>?_⟩
 .have a:=g b u (s b u e)
  cases u with
  |tup vs=>exact xC a
  | _=>
   rw[n6 (λvs q=>by rw[a]at q;nomatch q)];exact e
 .by_cases h:∃vs,H' b=aa (.tup vs)
  .obtain⟨vs,h⟩:=h;rw[xC h]at e;rw[h];exact e
  .rw[n6 (λvs q=>h ⟨vs,q⟩)]at e;exact g b u (s b u e)
 .rw[g l o e]at q;cases q
  nomatch t
def ao.sc{G:Gc}{H H':Hp}:∀{ds:LD} {vs:LVv},ds.all D.scalar=ac->ao G H ds vs->ao G H' ds vs
 | [],_,_,h=>h
 |d::ds,_,hs,q3_=>by
  obtain⟨v,r,e,a,h2⟩:=q3_;rw[lx,cD]at hs;exact⟨v,r,e,a.sc hs.1,ao.sc hs.2 h2⟩
variable{G:Gc}
def Rep.flat(b:d.flat=ac)(r:Rep G H d v):Rep G (kP Hf H) d v:=by
 cases d with
 |tup B=>
  obtain⟨a,vs,e,h,q⟩:=r
  exact⟨a,vs,e,xC h,q.sc b⟩
 |non=>exact r.sc b
 |bl _=>exact r.sc b
 |int _=>exact r.sc b
 |str _=>exact r.sc b
 |lst _=>nomatch b
 |kl _=>nomatch b
 |kt _=>nomatch b
 |dic _ _=>nomatch b
 |ins _ _ _=>nomatch b
 |kd _ _=>nomatch b
 |dT _ _=>nomatch b
variable{f:Addr}
def Ff{k:Nat}(pk:Pk X.prog X.w X.K X.mg X.base CX0 k x (f,fd) ps (spD (Gx c X) ps.length m))(l:bo k0 X.A)(ha:DAB c X (e::es) fa)(C:(e::es).length=ps.length:=by rfl)(a:NDb x:=by decide)(z:StE X e es:=by rfl)(j:BkE X pos es:=by rfl)(i:k<=k0:=by decide)(B:Gl X x:=by first |rfl |exact glc rfl):
  DB c X (.Call (.Name x p) (e::es) [] pos) (au m fa):=PE.imp (ni pk.ok (l.mono i) B pk.g pk.kp pk.b .nil fL ha.pa a z j) λL H Q G=>by
 obtain⟨Hf0,H0,Hf,M,d,st,y,E⟩:=G;obtain⟨ds,n,u⟩:=pL y;refine⟨Hf0,H0,Hf,M,ds,st,n,λvs Hf' H' x r=>?_⟩;rw[bQ];exact⟨H',ds,d,aq.refl _,r,(ha.len M ds n).trans C,u,λv b3 H2 q I=>E v Hf' H2 (x.trans (Ext.grow x.s q.h)) (I.up q.s)⟩
abbrev n8(m:LD->OLD)(f:MF2)(M:LS):OLD:=(f M).bind λds=>(m ds).bind λC=>if C.all D.flat then aa C else ab
def ao.flat{G:Gc}{Hf H:Hp}:∀{ds:LD} {vs:LVv},ds.all D.flat=ac->ao G H ds vs->ao G (kP Hf H) ds vs
 | [],_,_,h=>h
 |d::ds,_,hs,q3_=>by
  obtain⟨v,r,e,a,h2⟩:=q3_;rw[lx,cD]at hs;exact⟨v,r,e,a.flat hs.1,ao.flat hs.2 h2⟩
def NI{k:Nat}{m:LD->OLD}(pk:Pk X.prog X.w X.K X.mg X.base CX0 k x (f,fd) ps (spO (Gx c X) ps.length m))(y:bo k0 X.A)(ha:DAB c X (e::es) fa)(G:(e::es).length=ps.length:=by rfl)(n:NDb x:=by decide)(B:StE X e es:=by rfl)(v:BkE X pos es:=by rfl)(u:k<=k0:=by decide)(E:Gl X x:=by first |rfl |exact glc rfl):
  DO c X (.Call (.Name x p) (e::es) [] pos) (n8 m fa):=PE.imp (ni pk.ok (y.mono u) E pk.g pk.kp pk.b .nil fL ha.pa n B v) λL H Q N=>by
 obtain⟨Hf0,H0,Hf,M,C,st,a,J⟩:=N;unfold n8 at a
 cases i:fa M with
 |none=>rw[i]at a;nomatch a
 |some ds=>
  rw[i,ay]at a
  cases j:m ds with
  |none=>rw[j]at a;nomatch a
  |some U=>
   rw[j,ay]at a;split at a
   .rename_i I;cases a;refine⟨Hf0,H0,Hf,M,ds,st,i,λvs Hf' H' x r=>?_⟩;rw[bQ];exact⟨H',ds,_,aq.refl _,r,(ha.len M ds i).trans G,j,λl us b3 H2 z hn Y d T=>J l us _ H2 (x.trans (xD x.s z.h)) (x.h.free hn) (by rw[n6 (λvs q=>by rw[d]at q;nomatch q)];exact x.s.free hn) d ((T.up z.s).flat I)⟩
   .nomatch a
def tN{m:LD->OLD}{f:MF2}(h:f M=aa ds)(h':m ds=aa C):jJ m f M=aa C:=by
 unfold jJ;rw[h,ay,h']
def l9{F:MF3}(h:F (fq n ds)=aa (.rtO C)):iK n F ds=aa C:=by
 unfold iK;rw[h];rfl
abbrev ma(ns:LI0):LI0:=ns.mergeSort λa b=>decide (a<=b)
abbrev tSL(K:aO)(te:TE):TE:=λL H Q=>te L H λx H1=>∃l ns,x=.ref l/\SqL K H1 l (ns.map V.int)/\ns.length<64/\∀p,H1 p=ab->Q (.ref p) (upd H1 p (.lst ((ma ns).map V.int)))
def xE(ns:LI0):(ma ns).Perm ns:=mergeSort_perm _ _
def Fg(ns:LI0):(ma ns).Pairwise (·<=·):=(pairwise_mergeSort (λa b c=>by simp only[decide_eq_true_iff];lia) (λa b=>by simp only[li,decide_eq_true_iff];lia) ns).imp of_decide_eq_true
def NJ(p:out.Perm ns)(c:out.Pairwise (·<=·)):out=ma ns:=List.Perm.eq_of_pairwise (λa b _ _=>Int.le_antisymm) c (Fg ns) (p.trans (xE ns).symm)
def NK(nd:ns.Nodup):ma ns=cQ ns:=xr _ _ (List.Pairwise.imp₂ (λa b c h2=>(Int.lt_iff_le_and_ne.mpr ⟨c,h2⟩)) (Fg ns) ((xE ns).nodup_iff.mpr nd)) (kK _) λk=>by rw[iR];exact(xE ns).mem_iff
def NL(d:Gl X "sorted")(f:X.mg "sorted"=ab)(v:PE X e te)(j:aL [e] X.env=(ag,eval e X.env)::aL [] X.env:=by rfl)(i:(bZ pos (aL [] X.env)).any (·.1)=ag:=by rfl):
  PE X (.Call (.Name "sorted" p) [e] [] pos) (tSL X.K te):=by
 intro U s L H Q I h;refine ip (gC I d f boot_sorted ?_);refine va ?_ j i;rw[j];refine iy (thn (v U s L H _ I h) λu s1 A=>?_);obtain⟨x,H1,a,B,l,ns,n,w,c,q⟩:=A;subst n;subst B;refine aC ?_;obtain⟨E,C,pl,hz⟩:=a.list w;have m:=xv C;refine sorted_ints pl.isList m (by rw[m.length];exact c) λout y o1 o2 z=>?_;obtain⟨ep,r⟩:=sortedAll_at s1.heap E out;have en:=NJ o2 z;subst en;have G:=o2.length_eq;exact⟨.ref _,_,(a.laid (o:=.lst _) (λb u g=>sortedAll_old g) (jt _) ⟨by rw[aB,cX];lia,out.toList,ep,xu o1,by simpa using r⟩),rfl,q _ (a.hok.fresh (jt _))⟩
abbrev kS(f:MF1)(M:LS):OLD:=(f M).bind λd=>(lsD d).bind λds=>(ib ds).bind λns=>if ns.length<64 then aa ((ma ns).map .int) else ab
variable{f:MF1}
def NM(w:X.calm=ac)(j:Gl X "sorted")(m:X.mg "sorted"=ab)(ha:DE c X e f)
 (z:aL [e] X.env=(ag,eval e X.env)::aL [] X.env:=by rfl)(u:(bZ pos (aL [] X.env)).any (·.1)=ag:=by rfl):DO c X (.Call (.Name "sorted" p) [e] [] pos) (kS f):=
 PE.imp (NL j m ha z u) λL H Q E=>by
  obtain⟨Hf0,H0,Hf,M,ds,st,a,k⟩:=E;unfold kS at a
  cases b:f M with
  |none=>rw[b]at a;nomatch a
  |some d=>
   rw[b]at a
   cases g:lsD d with
   |none=>rw[ay,g]at a;nomatch a
   |some B=>
    rw[ay,g]at a
    cases i:ib B with
    |none=>rw[ay,i]at a;nomatch a
    |some ns=>
     rw[ay,i,ay]at a;split at a
     .rename_i A;cases a;refine⟨Hf0,H0,Hf,M,d,st,b,λv Hf' H' x r=>?_⟩;obtain⟨l,vs,el,q,C⟩:=kz g r;rw[xy i]at C;have y:=xA C;subst y el;exact⟨l,ns,rfl,x.s.seq q,A,λpp n=>k pp _ Hf' _ (x.trans (Ext.tmp x.s n)) (x.h.free n) (x.s.free n) aW (ao.ints _)⟩
     .grind
def NN(h:f M=aa (.lst (ns.map D.int)))(a:ns.length<64):kS f M=aa ((ma ns).map D.int):=by
 unfold kS;rw[h,ay];show(ib _).bind _=_;rw[xz,ay,if_pos a]
def NO(h:f M=aa (.lst (ns.map D.int)))(a:ns.length<64)(h2:ns.Nodup):kS f M=aa ((cQ ns).map D.int):=by rw[NN h a,NK h2]
def Fh{k:Int}(h:k.natAbs<2 ^ n):sd k<=n:=by
 unfold sd;split
 .exact b9 _
 .rename_i a;have:k.natAbs≠0:=λz=>a (by rw[Int.natAbs_eq_zero.mp z];rfl);exact(Nat.log2_lt this).mpr h
abbrev me(i j:Int):Prop:=ph i j\/(i.natAbs<2 ^ 200/\j.natAbs<2 ^ 200)
def me.ok(h:me i j):IntMulOk i j:=by
 rcases h with h |⟨h1,h2⟩
 .exact h.ok
 .have a:=Fh h1;have b:=Fh h2;unfold IntMulOk
  have:d8.Int.intTooBig (sd i+sd j)=ag:=by
   have c:400<=bitsLine:=by decide
   exact decide_eq_false (by lia)
  rw[this,rG];exact bx
noncomputable instance {i j:Int}:Decidable (me i j):=by unfold me;infer_instance
nonrec def kU:D->D->OD:=dI me λi j=>.int (i*j)
def NP:OpR X (eY .Mult) (rI me λi j=>.int (i*j)):=opI λ_ _ _ _ _ _ _ a q=>mul_int q a.ok
def NQ:OpD c X (eY .Mult) kU:=sT NP λ_ _ _ _=>rfl
def n9(h:me i j):kU (.int i) (.int j)=aa (.int (i*j)):=tF h
set_option maxRecDepth 100000
def qe:Slot "list_reverseiterator" "__next__" "list_reverseiterator.__next__":=Slot.of (n:="__next__") (owner:="list_reverseiterator")
 (by rw[jz,jx];kernel_rfl) (by decide +kernel) (by decide +kernel) (by decide +kernel) (by first |exact bS (by decide +kernel) |grind) (by rw[lA];kernel_rfl)
def Fi:Slot "list_reverseiterator" "__iter__" "list_reverseiterator.__iter__":=Slot.of (n:="__iter__") (owner:="list_reverseiterator")
 (by rw[jz,jx];kernel_rfl) (by decide +kernel) (by decide +kernel) (by decide +kernel) (by first |exact bS (by decide +kernel) |grind) (by rw[lA];kernel_rfl)
def Fj:lF table "list_reverseiterator.__next__"=aa d8.«list_reverseiterator.__next__»:=by exact entryFor_of_fast (by kernel_rfl)
def NR:lF table "list_reverseiterator.__iter__"=aa d8.«dict_keyiterator.__iter__»:=by exact entryFor_alias (id':="dict_keyiterator.__iter__") (by kernel_rfl) rfl (by decide +kernel) (by kernel_rfl)
def Fk(v:Value):argsOk "list_reverseiterator.__next__" ⟨[v],[]⟩:=by(unfold argsOk;kernel_rfl)
def NS(v:Value):argsOk "list_reverseiterator.__iter__" ⟨[v],[]⟩:=by(unfold argsOk;kernel_rfl)
abbrev fD(h:Heap)(it l:Addr)(j:Int):Prop:=∃o,h.get? it=aa o/\o.cls=.type "list_reverseiterator" /\ o.data=.fields #[.ref l,b6 j]
def fD.ty(h:fD s.heap it l j):s.TypeIs (.ref it) "list_reverseiterator":=by
 obtain⟨o,e,c,_⟩:=h;exact⟨o,e,c⟩
def tO{Q:PRS}(hr:fD s.heap it l j)(h:Q (.ref it) s):wpAny (model P w) A (pyIter (.ref it)) Q U4 s:=by
 exact wpAny_pyIter_slot hr.ty Fi (i4 Fi hr.ty NR (aC ⟨d9 it,rfl,"list_reverseiterator",_,hr.ty,qe.lookup,h⟩) (NS _))
variable{E:Array Value}
def Fm{j:Nat}{x:Value}{Q:Option Value->ah->Prop}(hr:fD s.heap it l j)(e:s.heap.IsList l E)(f:E[j]?=aa x)
 (c:∀h',fD h' it l ((j:Int)-1)->fK it s.heap h'->Q (aa x) {s with heap:=h'}):wpAny (model P w) A (gz (.ref it)) Q U4 s:=by
 obtain⟨o,a,d,hd⟩:=id hr;obtain⟨o2,h2,_,g,b⟩:=e;refine aj (mV (mQ hr.ty qe (i4 qe hr.ty Fj ?_ (Fk _))));show wpAny _ _ (field _ 1 >>= _) _ _ s;refine aj (wpAny_field a hd rfl ?_);refine aj (wpAny_field a hd rfl ?_);refine aj (r9 h2 b ?_);simp only[d4,f];refine aj (wpAny_setField a hd (by simp) (aC ⟨x,rfl,aC (c _ ?_ (mZ ..))⟩));refine⟨_,mY _ a (Obj.isFreed_of_fields (Obj.data_mapFields hd _)),(Obj.cls_mapFields ..).trans d,?_⟩;rw[Obj.data_mapFields hd];rfl
def Fo(d:j<0){Q:Option Value->ah->Prop}(c:A.handled=ab)(hr:fD s.heap it l j)
 (a:∀h',Heap.ExtBut it s.heap h'->Q ab {s with heap:=h'}):wpAny (model P w) A (gz (.ref it)) Q U4 s:=by
 obtain⟨o,f,h,hd⟩:=id hr;refine aj (mV (mQ hr.ty qe (i4 qe hr.ty Fj ?_ (Fk _))));show wpAny _ _ (field _ 1 >>= _) _ _ s;refine aj (wpAny_field f hd rfl ?_);show wpAny _ _ (if j<0 then _ else _) _ _ s;rw[if_pos d];refine aj (j6 ?_);refine aj ?_;show wpAny _ _ _ _ _ _;refine aj ?_;simp only[newTuple]
 refine aj (iq ?_ (by size_fits));refine aj (o9 (by first |rfl |(simp only[o8];rfl)) ?_)
 refine iq ?_ (by size_fits);simp only[raiseNew];refine aj (wpAny_handled ?_);rw[show A.in1.handled=ab from c];refine aj (aC (wpAny_throw ?_));refine aj (o7 ⟨_,cA _ rfl,rfl⟩ isSubtype_stop ?_);exact aC (a _ λb u g e=>(bu _ (bu _ e)))
def NT{T n a:String}{m:d8}{args:LVa}{S:Il}{Q:PRS}{c:Value}{tl:LVa}
 (y:(jA T==jA "type")=ag)(z:((Manifest.find? T).bind (·.mro.findSome? λt=>(Manifest.find? t).bind λb=>if b.noNew then aa ac else if b.attrs.any (·.1 == "__new__") then aa ag else ab)).getD ag=ag)
 (p:mroOf (.type T)=pure (c::tl))(l:Bind.madeBy (.type T)=pure (aa a))(f:plainId a=ac)(q:isSubtype (.type n) (.type T)=pure ag)
 (u:checkTypeCall T ⟨args,[]⟩=pure ())(j:checkBuiltinCall a ⟨.type T::args,[]⟩=pure ())(d:lF table a=aa m)(g:Meets (m ⟨.type T::args,[]⟩) S)
 (h:S A.in1 (wants (λobj i=>i.TypeIs obj n/\Q obj i) U4) s):wpAny (model P w) A (call (.type T) args) Q U4 s:=by
 refine wpAny_call (codeAny_of_tree ?_);show wpAny _ _ _ _ _ _;refine aC ⟨Code.quiet_builtin _ (by decide +kernel),jy F.entry_type_call ?_⟩;simp only[bW.under_plain (weight_type_call_type T args []) (units_type_call_type T args [])]
 repeat (any_goals (first |assumption |wp_step))
 refine j5 (vb f d (o9 j (g P w A.in1 _ s h))) λr s1 hr=>?_
 cases r with
 |error e=>exact hr
 |ok fl=>
  cases fl with
  |ret obj=>
   obtain⟨v,x⟩:=hr
   repeat (any_goals (first |assumption |wp_step))
  | _=>exact hr.elim
def Fp:mroOf (.type "reversed")=pure [.type "reversed",.type "object"]:=by(rw[mroOf_type];kernel_rfl)
def NU:lD (.type "reversed") "__new__"=pure (aa (.builtin "reversed.__new__")):=by(rw[jz,jx];kernel_rfl)
def NV:Bind.madeBy (.type "reversed")=pure (aa "reversed.__new__"):=madeBy_type Fp NU (by decide +kernel)
def NW:isSubtype (.type "list_reverseiterator") (.type "reversed")=pure ag:=by(rw[lA];kernel_rfl)
def NX:lF table "reversed.__new__"=aa d8.«reversed.__new__»:=by exact entryFor_of_tree (by kernel_rfl)
def Fq:iu "reversed"=aa (.type "reversed"):=by kernel_rfl
def NY:lD (.type "list") "__reversed__"=pure (aa (.builtin "list.__reversed__")):=by(rw[jz,jx];kernel_rfl)
def NZ(l:Addr)(E:Array Value)(n:Nat)(dc:Option Addr)(sl:Array (Option Value)):Meets (d8.«list.__reversed__» ⟨[.ref l],[]⟩) (λ_ R s=>s.heap.get? l=aa {cls:=.type "list",dict:=dc,data:=.seq E n,slots:=sl}/\R (.ok (.ret (.ref s.heap.objs.size))) {s with heap:=s.heap.push {cls:=.type "list_reverseiterator",data:=.fields #[.ref l,b6 (((E.size:Nat):Int)-1)]}}):=
 .of_wp λprog w A R s h=>by
  obtain⟨a,h⟩:=h
  wp_walk
  exact⟨_,rfl,h⟩
def N0(l:Addr)(E:Array Value)(n:Nat)(dc:Option Addr)(sl:Array (Option Value)):Meets (d8.«reversed.__new__» ⟨[.type "reversed",.ref l],[]⟩) (λ_ R s=>s.heap.get? l=aa {cls:=.type "list",dict:=dc,data:=.seq E n,slots:=sl}/\R (.ok (.ret (.ref s.heap.objs.size))) {s with heap:=s.heap.push {cls:=.type "list_reverseiterator",data:=.fields #[.ref l,b6 (((E.size:Nat):Int)-1)]}}):=
 .of_wp λprog w A R s h=>by
  obtain⟨a,g,d,b,os⟩:=s;obtain⟨e,h⟩:=h;have j:=NY;have f:isSubtype (.type "reversed") (.type "reversed")=pure ac:=by(rw[lA];kernel_rfl)
  have i:sj ⟨a,g,d,b,os⟩ (.ref l) "list":=⟨_,e,rfl⟩;have m:=vg.bind (d9 l)
  repeat (any_goals (first |assumption |wp_step))
  have step:f6 _ A.in1 _ (λr c=>r=.ok _/\c=⟨a.push {cls:=.type "list_reverseiterator",data:=.fields #[.ref l,b6 _]},g,d,b,os⟩) ⟨a,g,d,b,os⟩:=
   vb vg.plain PySem.F.entry_list_reversed (vg.check _ _ _ _ _ _ _ _ i (PySem.F.args_list_reversed_1 _) (NZ l E n dc sl prog w A.in1 (λr c=>r=.ok (.ret (.ref a.objs.size))/\c=⟨a.push {cls:=.type "list_reverseiterator",data:=.fields #[.ref l,b6 (((E.size:Nat):Int)-1)]},g,d,b,os⟩) ⟨a,g,d,b,os⟩ ⟨e,rfl,rfl⟩))
  refine j5 step λr s1 hr=>?_;obtain⟨rfl,rfl⟩:=hr;exact aC ⟨_,rfl,h⟩
def Fs{Q:PRS}(d:s.heap.IsList l E)
 (h:∀h',fD h' s.heap.objs.size l (((E.size:Nat):Int)-1)->(∀b o,s.heap.get? b=aa o->h'.get? b=aa o)->Q (.ref s.heap.objs.size) {s with heap:=h'}):wpAny (model P w) A (call (.type "reversed") [.ref l]) Q U4 s:=by
 obtain⟨⟨c,a,dt,sl⟩,g,f,n,hd⟩:=d;subst f hd;have i:fD (s.heap.push {cls:=.type "list_reverseiterator",data:=.fields #[.ref l,b6 _]}) s.heap.objs.size l ((E.size:Int)-1):=⟨_,cA _ rfl,rfl,rfl⟩;exact NT (rfl) (by decide +kernel) Fp NV (by decide +kernel) NW (by kernel_rfl) (by kernel_rfl) NX (N0 l E n a sl) ⟨g,⟨⟨_,cA _ rfl,rfl⟩,h _ i λb o e=>bu _ e⟩⟩
abbrev Itv(K:aO)(l:Addr)(n:Nat):It:=
  ⟨λi H=> ∃B x, SqL K H l B/\B.length = n/\B.reverse[i]? = aa x,
   λi H v H'=> H' = H/\∀B, SqL K H l B->B.reverse[i]? = aa v,
   λi H=> n<=i⟩
def fD.stay(q:fD h it l j)(k:∀o,h.get? it=aa o->h'.get? it=aa o):fD h' it l j:=by
 obtain⟨o,e,c,d⟩:=q;exact⟨o,k o e,c,d⟩
def N1{K:aO}(l it:Addr)(n:Nat):jD P w K tg (Itv K l n) [it] it (λi h=>fD h it l ((n:Int)-1-(i:Int))) where
 mem:=by simp
 obj:=λi h st b hb=>by
  have e:b=it:=by simpa using hb
  rw[e];obtain⟨o,e1,c,d⟩:=st;exact⟨o,e1,λv z=>by rw[d]at z;nomatch z⟩
 keep:=λi h h' st k=>st.stay λo e=>k it (by simp) o e
 item:=by
  intro X hP hw hK hc i U s L H U4 I hf st hg;subst hP hw hK;obtain⟨B,x,hq,hn,hx⟩:=hg;obtain⟨E,rv,p,hz⟩:=I.list hq
  have hi:i<B.length:=by
   have:=(cR.mp hx).1
   simpa using this
  have hx':B[n-1-i]?=aa x:=by
   rw[List.getElem?_reverse hi]at hx;rw[<- hn];exact hx
  obtain⟨u,hu,ru⟩:=rv.get hx';obtain⟨f0,f1,f2,f3,f4,f5⟩:=hf it (by simp);have ej:(n-1-i)=((n-1-i:Nat):Int):=by lia
  rw[ej]at st;refine Fm st p.isList (by simpa using hu) λh' eF sb=>?_;have e2:((n-1-i:Nat):Int)-1=n-1-((i+1:Nat):Int):=by lia
  rw[e2]at eF;obtain⟨o,e,c,d⟩:=id eF;exact⟨u,rfl,sx e c d (rfl) ⟨x,H,(I.turned (λb o hb e=>(sb.2 b hb).trans e) f0 f1 f3 f4 f5),ru,⟨rfl,λys hy=>by rw[I.list_inj hy hq];exact hx⟩,eF,λb hb=>(hf b hb).1⟩⟩
 done:=by
  intro X hP hw hK hc i U s L H U4 I hf st hg;have hg:n<=i:=hg;obtain⟨f0,f1,f2,f3,f4,f5⟩:=hf it (by simp);exact Fo (by lia) (I.ok.hd hc) st λh' eb=>⟨rfl,I.turned (λb o hb e=>eb b o hb e) f0 f1 f3 f4 f5⟩
 self:=λ_ _ _ _ _ st h=>tO st h
abbrev N2(K:aO)(ta:TA):TI:=λL H R=>ta L H λvs H1=>∃l B,vs=[.ref l]/\SqL K H1 l B/\R (Itv K l B.length) H1
variable{a:Expr}
def N3(n:Gl X "reversed")(hm:X.mg "reversed"=ab)(ha:PA X [a] ta)(r:aL [a] X.env=[(ag,eval a X.env)]:=by rfl):PI X tg (.Call (.Name "reversed" p) [a] [] pos) (N2 X.K ta):=by
 intro U s L H R I h;refine Call_ (gC I n hm Fq (ju (thn (ha pos U s L H _ I h) λus s1 w=>?_) (by rw[r];rfl) (by rfl)));obtain⟨vs,H1,d,g,l,B,e,j,q⟩:=w;subst e;obtain⟨u,rfl,x⟩:=lO g;subst x;obtain⟨c,g,v,z⟩:=d.list j;have y:=g.length;refine Fs v.isList λh' f i=>?_;refine tO f ?_;refine⟨_,_,_,_,H1,rfl,d.kept i,N1 l _ B.length,?_,λb m=>?_,q⟩
 .have e:((c.toArray.size:Int)-1)=B.length-1-(0:Int):=by rw[size_toArray];lia
  rw[e]at f;exact f
 .have e:b=s1.heap.objs.size:=by simpa using m
  rw[e];exact d.fpOk (aM _) (d.hok.fresh (aM _))
abbrev xF:LD->OLD
 | [x]=>(lsD x).map List.reverse
 | _=>ab
abbrev kX(f:MF2)(M:LS):OLD:=(f M).bind xF
variable{f:MF2}
def N4(G:Gl X "reversed")(hm:X.mg "reversed"=ab)(ha:DA c X [a] f)(I:aL [a] X.env=[(ag,eval a X.env)]:=by rfl):DI c X tg (.Call (.Name "reversed" p) [a] [] pos) (kX f):=
 PI.imp (N3 G hm ha.pa I) λL H R N=>by
  obtain⟨Hf0,H0,Hf,M,ds,st,b,k⟩:=N;unfold kX at b
  cases g:f M with
  |none=>rw[g]at b;nomatch b
  |some l=>
   rw[g]at b;replace b:xF l=aa ds:=b;refine⟨Hf0,H0,Hf,M,l,st,g,λvs Hf' H' x r=>?_⟩;unfold xF at b;split at b
   .rename_i dx
    cases ex:lsD dx with
    |none=>rw[ex]at b;nomatch b
    |some B=>
     rw[ex]at b;cases b;obtain⟨v,E,T⟩:=r.one;obtain⟨J,e,h,w,y⟩:=kz ex T;subst h;refine⟨J,e,E,x.s.seq w,k _ Hf' H' x λb3 H2 f2 s2 i=>?_⟩;have n:=(f2.trans s2).seq w;have h1:=y.length;refine⟨λd A=>?_,λC=>?_⟩
     .obtain⟨u,m,Q⟩:=y.reverse.get A;refine⟨⟨e,u,n,rfl,m⟩,λz Y q=>?_⟩;obtain⟨rfl,U⟩:=q;have j:=U e n;rw[m]at j;cases j;exact⟨b3,Ext.refl s2,Q.up f2⟩
     .rw[lq]at C;show e.length<=i
      lia
   .nomatch b
def N5{a:Type}{g:a->D}{B:List a}(h:f M=aa [.lst (B.map g)]):kX f M=aa (B.reverse.map g):=by
 unfold kX;rw[h];show aa (B.map g).reverse=_;simp
inductive tDX(G:Gc)(f:LS->Option (D×LS))(L:St)(H:Hp)(Q:VK):Prop
 |mk:∀Hf0 H0 Hf M d ρ',ar G Hf0 H0 Hf H L M->f M=aa (d,ρ')->(∀v Hf' H',aq Hf Hf'->ar G Hf0 H0 Hf' H' L ρ'->Rep G Hf' d v->Q v H')->tDX G f L H Q
abbrev DX(c:Str->Addr)(X:Cx)(e:Expr)(f:LS->Option (D×LS)):Prop:=PE X e (tDX (Gx c X) f)
def N6:lD (.type "list_reverseiterator") "__len__"=pure ab:=by(rw[jz,jx];kernel_rfl)
def N7:lD (.type "list_reverseiterator") "__length_hint__"=pure (aa (.builtin "list_reverseiterator.__length_hint__")):=by(rw[jz,jx];kernel_rfl)
def N8:isSubtype (.type "list_reverseiterator") (.type "list_reverseiterator")=pure ac:=by(rw[lA];kernel_rfl)
def N9{Q:Bool->ah->Prop}(hr:fD s.heap it l j)(h:Q ag s):wpAny (model P w) A (Cn (.ref it)) Q U4 s:=by
 refine aj (rY hr.ty N6 ?_);refine aj (rY hr.ty N7 ?_);exact aj (o7 hr.ty N8 (aC h))
def Oa(hh:A.handled=ab)(hne:it≠l)(E:Array Value):Walks P w A it [it,l] [it] E.size (λi v=>E.toList.reverse[i]?=aa v) (λi h=>fD h it l ((E.size:Int)-1-(i:Int))/\h.IsList l E) where
 sub:=by simp
 frame:=λi h h' ⟨a,o,e,c,n,d⟩ k=>⟨a.stay λo e=>k it (by simp) o e,o,k l (by simp) o e,c,n,d⟩
 item:=λi s Q U4 hi st hQ=>by
  obtain⟨a,b⟩:=st;have ej:(E.size-1-i)=((E.size-1-i:Nat):Int):=by lia
  rw[ej]at a;have hk:E.size-1-i<E.size:=by lia
  refine Fm a b (x:=E[E.size-1-i]) (by simp[hk]) λh' a' sb=>?_;have e2:((E.size-1-i:Nat):Int)-1=E.size-1-((i+1:Nat):Int):=by lia
  rw[e2]at a';have hl:∀b o,b∉[it]->s.heap.get? b=aa o->h'.get? b=aa o:=λb o hb e=>(sb.2 b (by simpa using hb)).trans e;refine hQ _ h' s.toks ?_ ⟨a',?_⟩ hl
  .rw[List.getElem?_reverse (by simpa using hi)];simp[hk]
  .obtain⟨o,e,c,n,d⟩:=b;exact⟨o,hl l o (by simpa using d5 hne) e,c,n,d⟩
 done:=λs Q U4 st hQ=>by
  obtain⟨a,b⟩:=st;exact Fo (by lia) hh a λh' eb=>hQ h' s.toks λb o hb e=>eb b o (by simpa using hb) e
 self:=λi s Q U4 st h=>tO st.1 h
variable{c0:Nat}
def Ob{S:Addr}(d:Value)(n:A.handled=ab)(j:it≠l)(g:S∉[it,l])(hr:fD s.heap it l ((E.size:Int)-1))(p:s.heap.IsList l E)(hn:E.size<=aP)
 (m:s.heap.get? S=aa {cls:=.type "list",dict:=ab,data:=.seq #[] c0,slots:=#[]})
 (kR:∀c c5 h,Moved (S::[it]) (λa b=>b=a) s c->c.heap.get? S=aa {cls:=.type "list",dict:=ab,data:=.seq c5 h,slots:=#[]}->ItemsOf (λi v=>E.toList.reverse[i]?=aa v) c5 E.size->R (.ok (.ret d)) c):
  wpAny (model P w) A.in1 (vc (.ref S) (.ref it) d) (λfin c=>match fin with |.done f=>R (.ok f) c |.again h=>h.quiet=ac/\f6 (model P w) A h R c) (λe c=>R (.error e) c) s:=by
 have q:S≠it:=λz=>g (by rw[z];exact aH);refine aj (wpAny_typeOf hr.ty ?_);have r:sh (.ref S) (.ref it)=ag:=by simp[sh,q]
 simp only[r];refine aj (tO hr ?_);refine aj (i5 (N9 hr ?_));refine aC ⟨lB F.plain_extend_loop _,codeAny_extend_loopS ((Oa (show A.in1.handled=ab from n) j E).toS) hn S g d E.size 0 _ #[] c0 rfl (b9 _) ⟨by simpa using hr,p⟩ m (ItemsOf.nil _) kR⟩
def Oc{Q:PRS}(G:A.handled=ab)(y:it≠l)(hr:fD s.heap it l ((E.size:Int)-1))(B:s.heap.IsList l E)(hn:E.size<=aP)
 (I:∀j c5 q,Moved [s.heap.objs.size,it] (λa b=>b=a) {s with heap:=s.heap.push {cls:=.type "list",data:=.seq #[]}} j->j.heap.get? s.heap.objs.size=aa {cls:=.type "list",dict:=ab,data:=.seq c5 q,slots:=#[]}->ItemsOf (λi v=>E.toList.reverse[i]?=aa v) c5 E.size->Q (.ref s.heap.objs.size) j):
  wpAny (model P w) A (call (.type "list") [.ref it]) Q U4 s:=by
 have f:it<s.heap.objs.size:=by obtain⟨o,e,_⟩:=hr;exact bv e
 have g:l<s.heap.objs.size:=by obtain⟨o,e,_⟩:=B;exact bv e
 have nf:s.heap.objs.size∉_:=λhm=>by
  rcases bm.mp hm with z |z
  .exact absurd z (jZ f)
  .exact absurd (ci.mp z) (jZ g)
 refine callType_codes (Q₁:=λobj s1=>obj=.ref s.heap.objs.size/\s1={s with heap:=s.heap.push {cls:=.type "list",data:=.seq #[]}}) F.called_list (F.typeCall_list_1 _) F.entry_list_init (code_list_new _ ⟨rfl,rfl⟩) λobj s1 L=>?_
 obtain⟨rfl,rfl⟩:=L;have p:(s.heap.push {cls:=.type "list",data:=.seq #[]}).get? s.heap.objs.size=aa {cls:=.type "list",data:=.seq #[]}:=cA _ rfl;refine⟨⟨_,p,rfl⟩,F.args_list_init_2 _ _,?_⟩;apply aj;refine aj (r9 p rfl (aC ?_));apply aj;refine rZ p rfl ?_;apply aj;apply wpAny_letGo;have h:∀b o,b≠s.heap.objs.size->s.heap.get? b=aa o->((s.heap.push {cls:=.type "list",data:=.seq #[]}).update s.heap.objs.size (gB (λ_=>(#[]:Array Value)))).get? b=aa o:=λb o u e=>(mW _ _ (d5 u)).trans (bu _ e)
 have x:((s.heap.push {cls:=.type "list",data:=.seq #[]}).update s.heap.objs.size (gB (λ_=>(#[]:Array Value)))).IsList l E:=by
  obtain⟨o,e,c,n,d⟩:=B;exact⟨o,h l o (bR g) e,c,n,d⟩
 refine Ob .none G y nf (hr.stay λo e=>h it o (bR f) e) x hn (mY _ p rfl) λj c5 q m r H=>?_
 have J:Moved [s.heap.objs.size,it] (λa b=>b=a) {s with heap:=s.heap.push {cls:=.type "list",data:=.seq #[]}} {s with heap:=(s.heap.push {cls:=.type "list",data:=.seq #[]}).update s.heap.objs.size (gB (λ_=>(#[]:Array Value)))}:=
  ⟨λb o u e=>(mW _ _ (d5 (λz=>u (by rw[z];exact aH)))).trans e,rfl,rfl,rfl,aM _⟩
 exact⟨rfl,I j c5 q (J.trans (λ_ _ _ C h2=>h2.trans C) m) r H⟩
abbrev tRL(K:aO)(te:TE):TE:=λL H Q=>te L H λx H1=>∃l B,x=.ref l/\SqL K H1 l B/\∀p,H1 p=ab->Q (.ref p) (upd H1 p (.lst B.reverse))
def Od(h:ItemsOf (λi v=>E.toList.reverse[i]?=aa v) c5 E.size):c5.toList=E.toList.reverse:=by
 obtain⟨c,hi⟩:=h;refine ls λi=>?_
 by_cases b:i<E.size
 .have a:i<c5.size:=by rw[c];exact b
  rw[hi i c5[i] (by simp[a])];simp[a]
 .rw[ij (by simpa[c]using mN b),ij (by simpa using mN b)]
def Oe(T:X.calm=ac)(j:Gl X "list")(w:X.mg "list"=ab)(r:Gl X "reversed")(y:X.mg "reversed"=ab)(Y:PE X e te)
 (N:aL [.Call (.Name "reversed" p2) [e] [] c3] X.env=(ag,eval (.Call (.Name "reversed" p2) [e] [] c3) X.env)::aL [] X.env:=by rfl)(h2:aL [e] X.env=(ag,eval e X.env)::aL [] X.env:=by rfl)
 (z:(bZ pos (aL [] X.env)).any (·.1)=ag:=by rfl)(a:(bZ c3 (aL [] X.env)).any (·.1)=ag:=by rfl):
  PE X (.Call (.Name "list" p) [.Call (.Name "reversed" p2) [e] [] c3] [] pos) (tRL X.K te):=by
 intro U s L H Q I h;refine ip (gC I j w j2 ?_);refine ju ?_ N z;refine iy (ip (gC I r y Fq ?_));refine ju ?_ h2 a;rw[h2];refine iy (thn (Y U s L H _ I h) λu s1 q_=>?_);obtain⟨x,H1,f,r1,l,B,M,hq,q⟩:=q_;subst M;subst r1;refine aC ?_;obtain⟨E,G,pl,hz⟩:=f.list hq;refine Fs pl.isList λh' A C=>?_;refine aC ?_
 have v:h'.IsList l E.toArray:=by
  obtain⟨o,e,c,n,d⟩:=pl.isList;exact⟨o,C _ _ e,c,n,d⟩
 have lt:l<s1.heap.objs.size:=by obtain⟨o,e,_⟩:=pl.isList;exact bv e
 have le:s1.heap.objs.size<h'.objs.size:=by obtain⟨o,e,_⟩:=A;exact bv e
 refine Oc (f.ok.hd T) (jZ lt) A v (by rw[size_toArray,<- G.length];exact hz) λs' c5 J m i ia=>?_;obtain⟨hp',g',d',tk',os'⟩:=s';obtain⟨m1,m2,m3,m4,m5⟩:=m;subst m2;subst m3;subst m4;refine⟨.ref h'.objs.size,_,f.laid (λb u g=>m1 b u (λhm=>?_) (bu _ (C b u g))) (eM le) ?_,rfl,q _ (f.hok.fresh (eM le))⟩
 .have hb:=bv g
  grind
 .refine⟨by rw[lq];exact hz,c5.toList,J,?_,by simpa using i⟩;rw[(Od ia)]
  simpa using G.reverse
abbrev mf(i:Nat)(M:LS):OLD:=match M[i]? with
 |some (.own B)=>aa B.reverse
 |some (.im (.lst B))=>aa B.reverse
 | _=>ab
variable{p3:Pos}
def Of(i:Nat)(y:X.calm=ac)(g:Gl X "list")(j:X.mg "list"=ab)(h:Gl X "reversed")(m:X.mg "reversed"=ab)
 (w:X.N[i]?=aa x:=by rfl)(hv:Vis X.env.scope x:=by first |exact bS rfl |exact bw (bS rfl) |exact bw (bw rfl))(hd:NDb x:=by decide)(f:NCd x:=by decide)
 (u:aL [.Call (.Name "reversed" p2) [.Name x p3] [] c3] X.env=(ag,eval (.Call (.Name "reversed" p2) [.Name x p3] [] c3) X.env)::aL [] X.env:=by rfl)(h2:aL [.Name x p3] X.env=(ag,eval (.Name x p3) X.env)::aL [] X.env:=by rfl)
 (n:(bZ pos (aL [] X.env)).any (·.1)=ag:=by rfl)(b:(bZ c3 (aL [] X.env)).any (·.1)=ag:=by rfl):
  DO c X (.Call (.Name "list" p) [.Call (.Name "reversed" p2) [.Name x p3] [] c3] [] pos) (mf i):=PE.imp (Oe y g j h m (lM w hv hd f) u h2 n b) λL H Q z=>by
 obtain⟨Hf0,H0,Hf,M,ds,st,d,k⟩:=z;unfold mf at d;split at d
 .rename_i B es;cases d;obtain⟨l,e,A,C,vs,q,r⟩:=st.ownAt rfl es;exact⟨_,e,l,vs,rfl,SqL.of q,λp a=>k p _ Hf _ (Ext.tmp st.sub a) a (st.sub.free a) aW r.reverse⟩
 .rename_i B es;cases d;obtain⟨v,e,l,vs,rfl,q,r⟩:=st.imm es;exact⟨_,e,l,vs,rfl,SqL.of (st.sub _ _ q),λp a=>k p _ Hf _ (Ext.tmp st.sub a) a (st.sub.free a) aW r.reverse⟩
 .grind
def Ft:∀(n lo:Nat) (us:LVa),us.length=n->(∀j v,us[j]?=aa v->∃t,v=Value.int ((lo+j:Nat):Int) t)->aE (((List.range' lo n).map λ(i:Nat)=>(i:Int)).map V.int) us
 | 0,_,[],_,_=>.nil
 | 0,_,_::_,h,_=>by cases h
 | _+1,_,[],h,_=>by cases h
 |n+1,lo,u::us,h,k=>by
  refine .cons (k 0 u rfl) (Ft n (lo+1) us (by simpa using h) λj v e=>?_);have:=k (j+1) v (by exact e)
  rwa [show lo+(j+1)=lo+1+j by lia]at this
abbrev tRR(ta:TA):TE:=λL H Q=>ta L H λvs H1=>∃j:Int,vs=[.int j]/\0<=j/\j<=1048576/\∀p,H1 p=ab->Q (.ref p) (upd H1 p (.lst (((bI j.toNat).map λ(i:Nat)=>(i:Int)).map V.int)))
def Og(E:X.calm=ac)(f:Gl X "list")(m:X.mg "list"=ab)(l:Gl X "range")(w:X.mg "range"=ab)(ha:PA X [a] ta)
 (C:aL [.Call (.Name "range" p2) [a] [] c3] X.env=(ag,eval (.Call (.Name "range" p2) [a] [] c3) X.env)::aL [] X.env:=by rfl)(G:aL [a] X.env=[(ag,eval a X.env)]:=by rfl)
 (x:(bZ pos (aL [] X.env)).any (·.1)=ag:=by rfl):
  PE X (.Call (.Name "list" p) [.Call (.Name "range" p2) [a] [] c3] [] pos) (tRR ta):=by
 intro U s L H Q I h;refine ip (gC I f m j2 ?_);refine ju ?_ C x;show wpAny _ _ (spliced ((ag,eval (.Call (.Name "range" p2) [a] [] c3) X.env)::bZ pos (aL [] X.env))) _ _ s;refine iy (ip (gC I l w boot_range ?_));refine ju (thn (ha c3 U s L H _ I h) λus s1 J=>?_) G rfl;obtain⟨vs,H1,c,M,j,e,Y,j1,q⟩:=J;subst e
 cases M with
 |cons r N=>
  cases N;obtain⟨t,rfl⟩:=r;refine call_range_1 ?_;refine aC ?_
  refine call_list_range (n:=j.toNat) (c.ok.hd E) (IsRange.new ..) (small_one (by lia) (by lia) (by lia) (by lia)) (by rw[rangeSize_one];split <;> lia) (by lia) λh' T c5 z kp d y=>?_
  have le:s1.heap.objs.size<=(s1.heap.push {cls:=.type "range",data:=.fields #[.int 0 s1.toks,.int j t,.int 1 (s1.toks+1)]}).objs.size:=by
   simp[Heap.push]
  refine⟨.ref _,_,c.laid (h':=h') (t':=T) (o:=.lst (((bI j.toNat).map λ(i:Nat)=>(i:Int)).map V.int)) (λb u g=>kp b u (bu _ g)) le ?_,rfl,q _ (c.hok.fresh le)⟩;refine⟨by rw[aB,aB,cK];show _<=16777216;lia,c5.toList,z,?_,by exact d⟩;rw[range_eq_range'];refine Ft j.toNat 0 c5.toList (by simpa using y.1) λi v B=>?_;obtain⟨t,A⟩:=y.2 i v (by simpa using B);exact⟨t,by rw[A];simp⟩
abbrev lrD:LD->OLD
 | [.int j]=>if 0<=j/\j<=1048576 then aa (((bI j.toNat).map λ(i:Nat)=>(i:Int)).map D.int) else ab
 | _=>ab
abbrev mh(f:MF2)(M:LS):OLD:=(f M).bind lrD
def Oh{n:Int}(h:f M=aa [.int n])(a:0<=n)(b:n<=1048576):mh f M=aa (((bI n.toNat).map λ(i:Nat)=>(i:Int)).map D.int):=by
 unfold mh;rw[h];show(if 0<=n/\n<=1048576 then _ else ab)=_;rw[if_pos ⟨a,b⟩]
def Oi(A:X.calm=ac)(e:Gl X "list")(m:X.mg "list"=ab)(g:Gl X "range")(n:X.mg "range"=ab)(ha:DA c X [a] f)
 (z:aL [.Call (.Name "range" p2) [a] [] c3] X.env=(ag,eval (.Call (.Name "range" p2) [a] [] c3) X.env)::aL [] X.env:=by rfl)(B:aL [a] X.env=[(ag,eval a X.env)]:=by rfl)
 (q:(bZ pos (aL [] X.env)).any (·.1)=ag:=by rfl):
  DO c X (.Call (.Name "list" p) [.Call (.Name "range" p2) [a] [] c3] [] pos) (mh f):=PE.imp (Og A e m g n ha.pa z B q) λL H Q C=>by
 obtain⟨Hf0,H0,Hf,M,ds,st,b,k⟩:=C;unfold mh at b
 cases d:f M with
 |none=>rw[d]at b;cases b
 |some u=>
  rw[d]at b;replace b:lrD u=aa ds:=b;refine⟨Hf0,H0,Hf,M,u,st,d,λvs Hf' H' x r=>?_⟩;unfold lrD at b;split at b
  .split at b
   .rename_i j w;cases b;obtain⟨v,y,E⟩:=r.one;cases (show v=V.int j from E);exact⟨j,y,w.1,w.2,λl i=>k l _ Hf' _ (x.trans (Ext.tmp x.s i)) (x.h.free i) (x.s.free i) aW (ao.ints _)⟩
   .cases b
  .cases b
abbrev qf:LD->OD
 | [.int a,.int b]=>aa (.int (if b>a then b else a))
 | _=>ab
def Oj(l:X.calm=ac):nH c X (.builtin "max") qf:=by
 rintro U s L H vs us Q I p ⟨Hf,ds,d,q,r,e,k⟩;unfold qf at e;split at e
 .rename_i a b;cases e;obtain⟨v1,v,rfl,i,y,w,rfl,h2,j⟩:=r;cases (j);cases (i);cases (h2)
  cases p with
  |cons m h=>
   cases h with
   |cons n h=>
    cases h;obtain⟨t,rfl⟩:=m;obtain⟨u,rfl⟩:=n;refine PySem.max_two_ints (I.ok.hd l) λh' x g=>?_;refine⟨.int _,H,I.kept g,?_,k _ Hf H (Ext.refl q) rfl⟩
    by_cases f:b>a
    .rw[if_pos f,if_pos f];exact⟨u,rfl⟩
    .rw[if_neg f,if_neg f];exact⟨t,rfl⟩
 .nomatch e
open Classical in
abbrev dD(f:LS->Option (D×LS))(M:LS):Option Fl:=(f M).map λp=>.nx p.2
def xG{f:LS->Option (D×LS)}(g:DX c X e f)(h:fI e ab pos.line X.env=pure ag:=by rfl):DS c X (.Expr e pos) (dD f):=PS.imp (kh g h) λU4 L H i=>by
 obtain⟨Hf0,H0,Hf,M,o,j,a,k⟩:=i;unfold dD at a
 cases b:f M with
 |none=>rw[b]at a;nomatch a
 |some p=>
  rw[b]at a;cases a;exact⟨Hf0,H0,Hf,M,p.1,p.2,j,b,λv Hf' H' s d r=>k L Hf' H' s d⟩
def ao.erase{G:Gc}{H:Hp}:∀{ds:LD} {vs:LVv} (k:Nat),ao G H ds vs->ao G H (ds.eraseIdx k) (vs.eraseIdx k)
 | [],_,_,h=>by cases (show _=[]from h);exact .nil
 |d::ds,_,0,⟨v,r,e,_,h2⟩=>by subst e;exact h2
 |d::ds,_,k+1,⟨v,r,e,h1,h2⟩=>by subst e;exact⟨v,r.eraseIdx k,rfl,h1,ao.erase k h2⟩
abbrev Fre(U3 Hf:Hp)(fp:LAd):Prop:=fp.Nodup/\∀a∈fp,U3 a=ab/\Hf a=ab
variable{U3:Hp}
def Fre.nil:Fre U3 Hf []:=⟨.nil,λ_ h=>nomatch h⟩
def Fre.one(h:U3 l=ab)(h':Hf l=ab):Fre U3 Hf [l]:=⟨bX.mpr ⟨cS,eW⟩,λa ha=>by rw[ci.mp ha];exact⟨h,h'⟩⟩
def Fre.imp{b:Hp}(h:Fre U3 Hf fp)(k:∀a,U3 a=ab->b a=ab):Fre b Hf fp:=⟨h.1,λa ha=>⟨k a (h.2 a ha).1,(h.2 a ha).2⟩⟩
abbrev bsH(b:Bool)(H0 H:Hp):Hp:=bif b then H else H0
variable{a:Addr}
def xH(s:aq H0 H)(h:H a=ab):bsH b H0 H a=ab:=by
 cases b with
 |true=>exact h
 |false=>exact s.free h
inductive tDZ(G:Gc)(b:Bool)(f:LS->Option O)(L:St)(H:Hp)(Q:VK):Prop
 |mk:∀Hf0 H0 Hf M o,ar G Hf0 H0 Hf H L M->f M=aa o->(∀u fp Hf' H',Ext Hf H Hf' H'->OT G Hf' H' o u fp->Fre (bsH b H0 H) Hf' fp->Q u H')->tDZ G b f L H Q
abbrev DZ(c:Str->Addr)(X:Cx)(b:Bool)(e:Expr)(f:LS->Option O):Prop:=PE X e (tDZ (Gx c X) b f)
abbrev iU(f:MF1)(M:LS):Option O:=(f M).map .fz
abbrev gK(f:MF2)(M:LS):Option O:=(f M).map λds=>.lst (ds.map .fz)
def Fu{f:MF1}(h:DE c X e f):DZ c X b e (iU f):=PE.imp h λL H Q i=>by
 obtain⟨Hf0,H0,Hf,M,t,st,a,k⟩:=i;unfold iU at a
 cases g:f M with
 |none=>rw[g]at a;nomatch a
 |some d=>
  rw[g]at a;cases a;exact⟨Hf0,H0,Hf,M,d,st,g,λv Hf' H' x r=>k v [] Hf' H' x ⟨r,rfl⟩ .nil⟩
def Ol(h:DO c X e f):DZ c X b e (gK f):=PE.imp h λL H Q j=>by
 obtain⟨Hf0,H0,Hf,M,t,st,a,k⟩:=j;unfold gK at a
 cases d:f M with
 |none=>rw[d]at a;nomatch a
 |some ds=>
  rw[d]at a;cases a;exact⟨Hf0,H0,Hf,M,ds,st,d,λl vs Hf' H' x hn g i r=>k _ [l] Hf' H' x ⟨l,vs,[],rfl,i,OTs.fz r,rfl⟩ (.one (xH st.ext.h hn) g)⟩
abbrev spT(G:Gc)(n:Nat)(m:LD->Option O):Sp:=λvs H Q _=>∃Hf ds o,aq Hf H/\ao G Hf ds vs/\ds.length=n/\m ds=aa o/\∀u fp Hf' H',Ext Hf H Hf' H'->OT G Hf' H' o u fp->Fre H Hf' fp->Q u H'
mutual
noncomputable def O.flat:O->Bool
 |.fz d=>d.flat
 |.lst os=>O.flats os
 |.tup os=>O.flats os
 |.dic _ os=>O.flats os
 |.ins _ _ os=>O.flats os
 |.dT _ os=>O.flats os
 |.at _ o=>o.flat
 |.jnk _=>ac
 |.any=>ac
noncomputable def O.flats:List O->Bool
 | []=>ac
 |o::os=>o.flat && O.flats os
end
abbrev mi(i:Nat)(f:LS->Option O)(M:LS):Option Fl:=(f M).map λo=>.nx (M.set i (.deep o))
def Om(i:Nat){f:LS->Option O}(j:X.N.Nodup)(l:DZ c X ac e f)(hi:X.N[i]?=aa x:=by rfl)(q:Loc X.env.scope x:=by first |exact bS rfl |exact bw rfl)(n:fI e (aa (.Name x cc)) pos.line X.env=pure ag:=by rfl)(m:LcF X x:=by first |exact .inl rfl |exact .inr rfl):
  DS c X (.Assign [.Name x cc] e pos) (mi i f):=PS.imp (nh j hi q l n m) λU4 L H v=>by
 obtain⟨Hf0,H0,Hf,M,o,g,b,k⟩:=v;unfold mi at b
 cases d:f M with
 |none=>rw[d]at b;nomatch b
 |some t=>
  rw[d]at b;cases b;refine⟨Hf0,H0,Hf,M,t,g,d,λu fp Hf' H' x r z=>k _ Hf' H' x.f (g.setNew x ⟨u,fp,rfl,r,z.1,λa ha=>⟨g.ext.h.free (z.2 a ha).1,(z.2 a ha).2⟩⟩ λa p=>?_)⟩;obtain⟨fp',w,ha⟩:=p;have:=OT.funM t u fp fp' r w;subst this;exact(z.2 a ha).1
def OTs.at:∀{G:Gc} {Hf H:Hp} {os:List O} {vs:LVv} {fp:LAd} {k:Nat} {o:O},OTs G Hf H os vs fp->os[k]?=aa o->∃v f,vs[k]?=aa v/\OT G Hf H o v f/\∀a∈f,a∈fp
 | _,_,_,[],_,_,_,_,_,e=>by simp at e
 | _,_,_,o::os,_,_,0,o',q8_,e'=>by
  obtain⟨v,r,f1,f2,e,d,h2,c⟩:=q8_;cases e';subst e c
  exact⟨v,f1,rfl,d,λa ha=>da _ ha⟩
 | _,_,_,o::os,_,_,k+1,o',q8_,e'=>by
  obtain⟨v,r,f1,f2,e,d,h2,c⟩:=q8_;subst e c;obtain⟨g,f,a,b,m⟩:=OTs.at h2 e';exact⟨g,f,by rw[gt];exact a,b,λa ha=>c9 _ (m a ha)⟩
variable{i:Nat}
def On{f:LS->Option O}{o:O}(h:f M=aa o)(k:K (.nx (M.set i (.deep o)))):wp (mi i f) M K:=⟨_,by unfold mi;rw[h];rfl,k⟩
def OTs.length{G:Gc}{Hf H:Hp}:∀{os:List O} {vs:LVv} {fp:LAd},OTs G Hf H os vs fp->os.length=vs.length
 | [],_,_,h=>by rw[h.1];rfl
 |o::os,_,_,⟨v,r,f1,f2,e,h1,h2,ef⟩=>by subst e;simp[OTs.length h2]
def OTs.append{G:Gc}{Hf H:Hp}:∀{os ps:List O} {vs us:LVv} {f g:LAd},OTs G Hf H os vs f->OTs G Hf H ps us g->OTs G Hf H (os++ps) (vs++us) (f++g)
 | [],_,_,_,_,_,h,t=>by obtain⟨a,b⟩:=h;subst a b;exact t
 |o::os,_,_,_,_,_,⟨v,r,f1,f2,e,h1,h2,ef⟩,t=>by subst e ef;exact⟨v,r++_,f1,f2++_,rfl,h1,OTs.append h2 t,cx _ _ _⟩
def OTs.one{o:O}{f:LAd}(h:OT G Hf H o v f):OTs G Hf H [o] [v] f:=⟨v,[],f,[],rfl,h,⟨rfl,rfl⟩,(bQ _).symm⟩
abbrev O.appd(o:O)(d:D):Option O:=match o with
 |.lst B=>if B.length<16777216 then aa (.lst (B++[.fz d])) else ab
 |.jnk n=>if n<16777216 then aa (.jnk (n+1)) else ab
 | _=>ab
def Fv{o o':O}{fk:LAd}(h:o.appd d=aa o')(r:OT G Hf H o v fk):∃l us,v=.ref l/\H l=aa (.lst us)/\us.length<16777216/\l∈fk /\
  ∀Hf' H' w,fk.Nodup->aq Hf Hf'->(∀b u,b≠l->H b=aa u->H' b=aa u)->H' l=aa (.lst (us++[w]))->Rep G Hf' d w->OT G Hf' H' o' v fk:=by
 cases o with
 |lst B=>
  replace h:(if B.length<16777216 then aa _ else ab)=aa o':=h;split at h
  .rename_i j;cases h;obtain⟨l,us,fs,e,q,C,c⟩:=r;subst e c;refine⟨l,us,rfl,q,by rw[<- C.length];exact j,aH,λHf' H' w n f m i a=>?_⟩
   have o1:=OTs.frameM f B us fs C λb u g hm=>m b u (λz=>by
    subst z;rw[q]at g;cases g
    rcases hm with hm |hm
    .nomatch hm
    .exact(bX.mp n).1 hm) g
   have o2:=o1.append (.one (o:=.fz d) ⟨a,rfl⟩);rw[bQ]at o2;exact⟨l,us++[w],fs,rfl,i,o2,rfl⟩
  .nomatch h
 |jnk n=>
  replace h:(if n<16777216 then aa _ else ab)=aa o':=h;split at h
  .rename_i j;cases h;obtain⟨l,us,e,q,z,c⟩:=r;subst e c;exact⟨l,us,rfl,q,by lia,aH,λHf' H' w _ f m i a=>⟨l,us++[w],rfl,i,by rw[aR,gS];lia,rfl⟩⟩
  .nomatch h
 | _=>nomatch h
abbrev Fw(G:Gc)(Hf H:Hp)(L:St)(M:LS)(a:Addr):Prop:=∀(k:Nat) (t:Sl) (w:V),M[k]?=aa t->L[k]?=aa (aa w)->Holds G Hf H t w a->False
abbrev Fx(ks:LN)(a b:LS):Prop:=a.length=b.length/\∀m,m∉ks->a[m]?=b[m]?
def Fx.refl(ks:LN)(a:LS):Fx ks a a:=⟨rfl,λ_ _=>rfl⟩
abbrev gf(H:Hp)(fp:LAd):Hp:=λa=>if a∈fp then ab else H a
def xI(h:a∈fp):gf H fp a=ab:=by unfold gf;rw[if_pos h]
def tP(h:a∉fp):gf H fp a=H a:=by unfold gf;rw[if_neg h]
def Oo:aq (gf H fp) H:=λa o e=>by
 by_cases h:a∈fp
 .rw[xI h]at e;nomatch e
 .rw[tP h]at e;exact e
def Fy{F H:Hp}(s:aq F H)(h:∀a∈fp,F a=ab):aq F (gf H fp):=λa o e=>by
 rw[tP (λz=>by rw[h a z]at e;nomatch e)];exact s a o e
variable{kvs:List (Key×V)}
def Inv.freeze(I:Inv X U L H s)(e:H l=aa (.dK kvs)):∃od,Inv X U L (upd H l (.frz od (.dK kvs))) s:=by
 obtain⟨z,ns,vs,f,od,es,ep,g,r⟩:=Di I.hok e;refine⟨od,?_⟩
 have d:∀b u,H b=aa u->(∀w,u≠.dK w)->upd H l (.frz od (.dK kvs)) b=aa u:=λb u a i=>by
  rw[aI (λq=>by subst q;rw[e]at a;cases a;exact i _ rfl)];exact a
 have:=I.step (t':=s.toks) (d':=s.drawn) (ch:=[]) (λb a=>nomatch a) (λb o _ _ _ e _=>e) (λb o _ _ _ e _=>⟨o.slots,e⟩) (λb o _ _ n=>by rw[aI (λq=>by subst q;rw[e]at n;nomatch n)];exact n)
  (λb o _ e=>⟨o,e⟩) (λb B a=>d b _ a (λw q=>by nomatch q)) (λb o u a=>d b _ a (λw q=>by nomatch q)) (λb ps a=>⟨#[],by rw[d b _ a (λw q=>by nomatch q)];simp⟩) (λm hm=>hm) (λb u a=>?_) I.bare
 .exact this
 .by_cases q:b=l
  .subst q;rw[aW]at a;cases a;exact⟨g,z,ns,vs,f,od,es,ep,g,r⟩
  .rw[aI q]at a;exact(I.hok b u a).stay (λc v _ h=>h) (λc h=>d c _ h (λw q=>by nomatch q)) (λc B h=>d c _ h (λw q=>by nomatch q))
abbrev Itk(od:Obj)(d:Addr):It:=
  ⟨λi H=> ∃kvs k v, H d = aa (.frz od (.dK kvs))/\kvs[i]? = aa (k, v),
   λi H x H'=> H' = H/\∀kvs, H d = aa (.frz od (.dK kvs))->∃k v, kvs[i]? = aa (k, v)/\x = kV k,
   λi H=> ∃kvs, H d = aa (.frz od (.dK kvs))/\kvs.length<=i⟩
def KV.get:∀{B:List (Key×V)} {us:List (Key×Value)} {i:Nat} {x:Key×V},KV B us->B[i]?=aa x->∃u,us[i]?=aa u/\x.1=u.1/\az x.2 u.2
 | _,_,_,_,.nil,e=>by simp at e
 | _,_,0,_,.cons r _,e=>by simp at e;subst e;exact⟨_,rfl,r⟩
 | _,_,i+1,x,.cons _ t,e=>by
  obtain⟨u,a,h2⟩:=KV.get t (by simpa using e);exact⟨u,by simpa using a,h2⟩
def Op{k:Key}{v:Value}(h:kf k v=ac):az (kV k) v:=by
 rcases iC h with⟨i,t,rfl,rfl⟩ |⟨x,t,rfl,rfl⟩
 .exact⟨t,rfl⟩
 .exact⟨t,rfl⟩
variable{K:aO}
def Oq{od:Obj}{es:Array DictEntry}(hd:od.data=.dict es ep)(d it:Addr):jD P w K tg (Itk od d) [it] it (λi h=>h.IsKeyIter it d i es.size ep) where
 mem:=by simp
 obj:=λi h st b hb=>by
  have e:b=it:=by simpa using hb
  subst e;obtain⟨o,e,c,d⟩:=st;exact⟨o,e,λv z=>by rw[d]at z;nomatch z⟩
 keep:=λi h h' st k=>st.at λo e=>k it (by simp) o e
 item:=by
  intro X hP hw hK hc i U s L H U4 I hf st hg;subst hP hw hK;obtain⟨kvs,k,v,hH,hx⟩:=hg;obtain⟨ho,z,ns,vs,rel,od',es',ep',ho',ex,hd',kk,pp,nd⟩:=I.hok d _ hH;rw[ho]at ho';cases ho';rw[hd]at hd';cases hd';have hm:s.heap.DictAt _ d vs ep:=⟨od,es,ho,ex,hd,kk,pp,nd⟩;have hl:es.size=vs.length:=by rw[<- pp.length];simp
  obtain⟨⟨k',v'⟩,hv,ek,rv⟩:=KV.get rel hx;subst ek;obtain⟨f0,f1,f2,f3,f4,f5⟩:=hf it (by simp);rw[hl]at st;refine wpAny_pyNext_dict_item st hm hv λkey h' hkey eF sb=>?_;refine⟨key,rfl,letGo_keyiter eF ⟨kV k,H,(I.turned (λb o hb e=>(sb.2 b hb).trans e) f0 f1 f3 f4 f5),Op hkey,⟨rfl,λkvs2 h2=>?_⟩,by rw[hl];exact eF,λb hb=>(hf b hb).1⟩⟩;rw[hH]at h2;cases h2;exact⟨k,v,hx,rfl⟩
 done:=by
  intro X hP hw hK hc i U s L H U4 I hf st hg;subst hP hw hK;obtain⟨kvs,hH,hx⟩:=hg;obtain⟨ho,z,ns,vs,rel,od',es',ep',ho',ex,hd',kk,pp,nd⟩:=I.hok d _ hH;rw[ho]at ho';cases ho';rw[hd]at hd';cases hd';have hm:s.heap.DictAt _ d vs ep:=⟨od,es,ho,ex,hd,kk,pp,nd⟩;have hl:es.size=vs.length:=by rw[<- pp.length];simp
  have hv:=m6 rel;obtain⟨f0,f1,f2,f3,f4,f5⟩:=hf it (by simp);rw[hl]at st;exact wpAny_pyNext_dict_end (I.ok.hd hc) st hm (ij (by lia)) λh' eb=>⟨rfl,I.turned (λb o hb e=>eb b o hb e) f0 f1 f3 f4 f5⟩
 self:=λ_ _ _ _ _ st h=>wpAny_pyIter_keyiter st h
abbrev Os(te:TE):TI:=λL H R=>te L H λx H1=>∃d od kvs,x=.ref d/\H1 d=aa (.frz od (.dK kvs))/\R (Itk od d) H1
def Ot(m:PE X e te):PI X tg e (Os te):=by
 intro U s L H R I h;refine thn (m U s L H _ I h) λv s1 u=>?_;obtain⟨x,H1,f,w,r⟩:=u;obtain⟨d,od,kvs,ex,j,q⟩:=r;subst ex;subst w;obtain⟨i,z,ns,vs,y,p,es,ep,c,g,a,kk,pp,nd⟩:=f.hok d _ j;rw[i]at c;cases c;have hm:s1.heap.DictAt _ d vs ep:=⟨od,es,i,g,a,kk,pp,nd⟩;have n:es.size=vs.length:=by rw[<- pp.length];simp
 refine wpAny_pyIter_dict ns hm ?_;refine⟨s1.heap.objs.size,_,_,_,H1,rfl,f.kept λb o e=>bu _ e,Oq a d _,⟨_,cA _ rfl,rfl,by rw[n];rfl⟩,λb l=>?_,q⟩;have e:b=s1.heap.objs.size:=by simpa using l
 subst e;exact f.fpOk (aM _) (f.hok.fresh (aM _))
abbrev kD:Key->D
 |.inl i=>.int i
 |.inr x=>.str x
def Ou(k:Key):Rep G H (kD k) (kV k):=by cases k <;> rfl
abbrev Ov:D->OLD
 |.kd ks _=>aa (ks.map kD)
 | _=>ab
abbrev qg(f:MF1)(M:LS):OLD:=(f M).bind Ov
def Fz{a c:Type}:∀{ks:List a} {vs:List c} {i:Nat} {k:a},ks.length=vs.length->ks[i]?=aa k->∃v,(ks.zip vs)[i]?=aa (k,v)
 | [],_,_,_,_,e=>by simp at e
 | _::_,[],_,_,h,_=>by cases h
 |k::ks,v::vs,0,_,_,e=>by simp at e;subst e;exact⟨v,rfl⟩
 |k::ks,v::vs,i+1,_,h,e=>by
  obtain⟨u,b⟩:=Fz (by simpa using h) (by simpa using e);exact⟨u,by simpa using b⟩
variable{f:MF1}
def Ow(G:DE c X e f):DI c X tg e (qg f):=PI.imp (Ot G) λL H R J=>by
 obtain⟨Hf0,H0,Hf,M,ds,st,b,k⟩:=J;unfold qg at b
 cases h:f M with
 |none=>rw[h]at b;nomatch b
 |some d=>
  rw[h,ay]at b
  cases d with
  |kd ks B=>
   cases b;refine⟨Hf0,H0,Hf,M,_,st,h,λv Hf' H' x r=>?_⟩;obtain⟨a,od,vs,A,q,z,C⟩:=r;refine⟨a,od,_,A,x.s _ _ q,k _ Hf' H' x λb3 H2 f2 s2 i=>?_⟩;have l:=(f2.trans s2) _ _ q;refine⟨λd g=>?_,λw=>⟨_,l,by rw[lw,<- z];rw[aB]at w;lia⟩⟩;rw[cu]at g
   cases j:ks[i]? with
   |none=>rw[j]at g;nomatch g
   |some n=>
    rw[j]at g;cases g;obtain⟨u,m⟩:=Fz z j;refine⟨⟨_,n,u,l,m⟩,λy N ⟨p,I⟩=>?_⟩;subst p;obtain⟨Q,T,h2,E⟩:=I _ l;rw[m]at h2;cases h2;subst E
    exact⟨b3,Ext.refl s2,Ou n⟩
  | _=>nomatch b
abbrev gg(ks:List Key)(B:LD)(k:Key):OD:=((ks.zip B).find? λa=>decide (a.1=k)).map (·.2)
def tQ{G:Gc}{H:Hp}{k:Key}:∀{ks:List Key} {B:LD} {vs:LVv},ks.length=vs.length->ao G H B vs->(∀d,gg ks B k=aa d->∃v,cw (ks.zip vs) k=aa v/\Rep G H d v)/\(gg ks B k=ab->cw (ks.zip vs) k=ab)
 | [],_,_,_,_=>⟨λd h=>(by cases h),λ_=>rfl⟩
 | _::_,_,[],h,_=>by cases h
 |j::ks,[],v::vs,_,r=>by cases (r)
 |j::ks,x::B,v::vs,h,q4_=>by
  obtain⟨u,f,e,c,h2⟩:=q4_
  injection e with e1 e2
  subst e1 e2;obtain⟨a,b⟩:=tQ (by simpa using h) h2;unfold gg;simp only[eI,eI]
  by_cases q:j=k
  .subst q;refine⟨λd hd=>⟨v,pA rfl,?_⟩,λhd=>?_⟩
   .rw[find?_cons_of_pos (by simp)]at hd;cases hd;exact c
   .rw[find?_cons_of_pos (by simp)]at hd;cases hd
  .rw[find?_cons_of_neg (by simpa using q),nj q];exact⟨a,b⟩
abbrev tR:D->Option (List Key×LD)
 |.dic ks B=>aa (ks,B)
 |.kd ks B=>aa (ks,B)
 | _=>ab
variable{a:Expr}
def FA{p:List Key×LD}(e:tR d=aa p)(r:Rep G H d v):∃a vs,v=.ref a/\Rd H a (.dK (p.1.zip vs))/\p.1.length=vs.length/\ao G H p.2 vs:=by
 cases d with
 |dic ks B=>cases e;obtain⟨a,vs,b,q,z,r⟩:=r;exact⟨a,vs,b,.inl q,z,r⟩
 |kd ks B=>cases e;obtain⟨a,od,vs,b,q,z,r⟩:=r;exact⟨a,vs,b,.inr ⟨od,q⟩,z,r⟩
 | _=>nomatch e
variable{u:HO}
def Rd.up{a:Addr}(h:Rd H a u)(s:aq H H'):Rd H' a u:=h.imp (s _ _) λb=>by
 obtain⟨o,e⟩:=b;exact(⟨o,s _ _ e⟩)
abbrev qh(x y:D):OD:=(tR x).bind λp=>(iO y).bind λk=>gg p.1 p.2 k
variable{b:Expr}
def Ox(hu:X.A.units+64<cLine)(ha:DE c X a f)(I:DE c X b g)(J:pE b:=by exact λ_ _=>rfl):DE c X (.Subscript a b pos) (m2 qh f g):=
 PE.imp (wq (by lia) ha I J) λL H Q U=>by
  obtain⟨Hf0,H0,Hf,M,d,st,E,k⟩:=U;obtain⟨x,y,B,C,e⟩:=lS E;refine⟨Hf0,H0,Hf,M,x,st,B,λv b4 H1 n Y=>⟨Hf0,H0,b4,M,y,st.step n,C,λu b3 H2 m r2=>?_⟩⟩;unfold qh at e
  cases h:tR x with
  |none=>rw[h]at e;nomatch e
  |some p=>
   rw[h,ay]at e
   cases i:iO y with
   |none=>rw[i]at e;nomatch e
   |some T=>
    rw[i,ay]at e;obtain⟨l,vs,el,q,z,r⟩:=FA h (Y.up m.f);have G:=pY i r2;subst G el;obtain⟨w,N,j⟩:=(tQ z r).1 d e;exact⟨l,w,rfl,.inl ⟨_,T,q.up m.s,rfl,N.symm⟩,k _ b3 H2 (n.trans m) j⟩
abbrev oa(i:Nat)(fk a:MF1)(M:LS):OD:=match M[i]? with
 |some (.ownd ks B)=>(fk M).bind λy=>(iO y).bind λk=>(a M).map λx=>(gg ks B k).getD x
 | _=>ab
variable{cpos:Pos}
def Oy{o:Expr}(hu:X.A.units+64<cLine){C:MF1}(U:PE X o (cB i))(T:DE c X a fk)(hx:DE c X b C)(m:M2 X o "get" apos a b cpos):DE c X (.Call (.Attribute o "get" apos) [a,b] [] cpos) (oa i fk C):=
 PE.imp (wu (by lia) U T hx m) λL H Q q_=>by
  obtain⟨Hf0,H0,Hf,M,d,st,e,k⟩:=q_;unfold oa at e;split at e
  .rename_i ks B es
   cases j:fk M with
   |none=>rw[j]at e;nomatch e
   |some y=>
    simp only[j,ay]at e
    cases p:iO y with
    |none=>rw[p]at e;nomatch e
    |some I=>
     simp only[p,ay]at e
     cases n:C M with
     |none=>rw[n]at e;nomatch e
     |some x=>
      rw[n]at e;cases e;obtain⟨l,el,h0,hf,vs,q,z,r⟩:=st.ownAt rfl es;refine⟨_,el,l,rfl,.inl ⟨_,.inl q⟩,Hf0,H0,Hf,M,y,st,j,λv b4 H1 g r1=>⟨Hf0,H0,b4,M,x,st.step g,n,λu b3 H2 G r2=>?_⟩⟩;have J:=pY p r1;subst J;refine⟨cw _ I,fj.k ((g.trans G).h _ _ q),k _ b3 H2 (g.trans G) ?_⟩;obtain⟨N,h2⟩:=tQ z (r.up (g.trans G).f)
      cases hv:gg ks B I with
      |none=>rw[h2 hv];exact r2
      |some d=>
       obtain⟨w,Y,E⟩:=N d hv;rw[Y];exact E
  .nomatch e
abbrev oe(i:Nat)(F:MF3)(M:LS):Option Fl:=match M[i]? with
 |some (.ownd ks B)=>F (M.set i (.im (.kd ks B)))
 | _=>F M
def Oz{F:MF3}{U4:iD}(I:Inv X U L H s)(h:tDS (Gx c X) (oe i F) U4 L H):∃H',Inv X U L H' s/\tDS (Gx c X) F U4 L H':=by
 obtain⟨Hf0,H0,Hf,M,o,Q,T,k⟩:=h;unfold oe at T;split at T
 .rename_i ks B es;obtain⟨l,A,h0,E,vs,q,z,r⟩:=Q.ownAt rfl es;obtain⟨od,I'⟩:=I.freeze q;refine⟨_,I',Hf0,H0,upd Hf l (.frz od (.dK (ks.zip vs))),M.set i _,o,?_,T,k.up (bG E)⟩
  have s1 : ar _ Hf0 H0 Hf (upd H l (.frz od (.dK (ks.zip vs)))) L (M.set i .no):=Q.chg es A (λb u Y=>by
   by_cases g:b=l
   .subst g;exact .inl ((Holds.own rfl).mpr rfl)
   .exact .inr (by rw[aI g];exact Y)) trivial λa p=>(p.calm rfl).elim
  have s2:ar (Gx c X) Hf0 H0 (upd Hf l (.frz od (.dK (ks.zip vs)))) (upd H l (.frz od (.dK (ks.zip vs)))) L (M.set i .no):=by
   have fr:Fw (Gx c X) Hf H L (M.set i .no) l:=λm t w b x p=>by
    rcases cC b with⟨_,e',_⟩ |⟨ne,b⟩
    .subst e';exact p.calm rfl
    .exact ne (Q.dj m i t _ w _ l b es x A p ((Holds.own rfl).mpr rfl))
   have J:Fw (Gx c X) Hf (upd H l (.frz od (.dK (ks.zip vs)))) L _ l:=λm t w b x p=>by
    cases C:t.isOwn with
    |true=>
     exact fr m t w b x ((Holds.own C).mpr ((Holds.own C).mp p))
    |false=>
     cases t with
     |deep o'=>
      obtain⟨fp,rr,ha⟩:=p
      obtain ⟨u,fp',eu,r2,_⟩:=Q.at' m _ _ x (by
       rcases cC b with⟨_,e',_⟩ |⟨ne,b⟩
       .nomatch e'
       .exact b)
      cases eu
      have r3:OT _ Hf (upd H l (.frz od (.dK (ks.zip vs)))) o' w fp':=r2.frame (aq.refl _) λb' u' g j=>by
       rw[aI (λG=>?_)]
       .exact g
       .subst G
        rcases j with j |j
        .rw[q]at g;cases g;nomatch j
        .exact fr m _ w b x ⟨fp',r2,j⟩
      have:=OT.funM o' w _ _ r3 rr;subst this
      exact fr m _ w b x ⟨fp',r2,ha⟩
     | _=>first |exact rF p.1 |nomatch C
   refine s1.re ⟨s1.ext.f.trans (bG E),s1.ext.h,λb u e=>?_,λb u e t=>?_⟩ rfl (λm v t a b=>?_) λm t v a b x p=>⟨t,b,(s1.at' m _ t x b).back (λo' fp _ r=>r.up (bG E) (aq.refl _)) p⟩
   .by_cases Y:b=l
    .subst Y;rw[aW]at e ⊢;exact e
    .rw[aI Y]at e;exact s1.ext.s b u e
   .rw[aI (λz=>by subst z;rw[h0]at e;nomatch e)];exact s1.ext.n b u e t
   .have G:=s1.at' m v t a b
    cases C:t.isOwn with
    |true=>
     obtain⟨l2,e2,e3,e4,q2⟩:=G.own C;subst e2;refine .ofOwn C ⟨l2,rfl,e3,?_,q2.up (bG E) λo' ho'=>ho'⟩;rw[aI (λz=>by subst z;exact J m t _ b a ((Holds.own C).mpr rfl))]
     exact e4
    |false=>
     cases t with
     |no=>trivial
     |im d=>obtain⟨u',A,r⟩:=G;exact⟨u',A,r.up (bG E)⟩
     |val u'=>exact G
     |deep o'=>
      obtain⟨w,fp,A,r,n,zz⟩:=G;subst A;refine⟨w,fp,rfl,r.up (bG E) (aq.refl _),n,λy hy=>⟨(zz y hy).1,?_⟩⟩;rw[aI (λz=>by subst z;exact J m _ w b a ⟨fp,r,hy⟩)]
      exact(zz y hy).2
     | _=>nomatch C
  have N:=s2.setIm (i:=i) (d:=.kd ks B) ⟨l,od,vs,rfl,aW,z,r.up (bG E)⟩
  have e3:L.set i (aa (.ref l))=L:=by
   apply ls;intro jj
   by_cases hj:i=jj
   .subst hj;rw[jV (cR.mp A).1,A]
   .rw[jW hj]
  rw[e3,set_set]at N;exact N
 .exact⟨H,I,Hf0,H0,Hf,M,o,Q,T,k⟩
def OA{F:MF3}(i:Nat)(h:DS c X st F):DS c X st (oe i F):=λU s L H U4 I q=>by
 obtain⟨H',a,b⟩:=Oz I q;exact h U s L H' U4 a b
nonrec def Xe:=LS->Option (D×LS)
nonrec def Xa:=LS->Option (LD×LS)
nonrec def Xt:=LS->Option (Bool×LS)
abbrev mX(f:MF1):Xe:=λM=>(f M).map λd=>(d,M)
abbrev cf:Xa:=λM=>aa ([],M)
abbrev bE(f:Xe)(g:Xa):Xa:=λM=>(f M).bind λp=>(g p.2).map λq=>(p.1::q.1,q.2)
def OB(h:mX f M=aa (d,ρ')):f M=aa d/\ρ'=M:=by
 unfold mX at h
 cases e:f M with
 |none=>rw[e]at h;nomatch h
 |some d'=>rw[e]at h;cases h;exact⟨rfl,rfl⟩
def FB{f:Xe}{g:Xa}(h:bE f g M=aa (ds,ρ')):∃d r ρ1,f M=aa (d,ρ1)/\g ρ1=aa (r,ρ')/\ds=d::r:=by
 unfold bE at h
 cases b:f M with
 |none=>rw[b]at h;nomatch h
 |some p=>
  rw[b,ay]at h
  cases a:g p.2 with
  |none=>rw[a]at h;nomatch h
  |some q=>rw[a]at h;cases h;exact⟨p.1,q.1,p.2,rfl,a,rfl⟩
inductive qi(G:Gc)(f:Xa)(L:St)(H:Hp)(Q:LVv->Hp->Prop):Prop
 |mk:∀Hf0 H0 Hf M ds ρ',ar G Hf0 H0 Hf H L M->f M=aa (ds,ρ')->(∀vs Hf' H',aq Hf Hf'->ar G Hf0 H0 Hf' H' L ρ'->ao G Hf' ds vs->Q vs H')->qi G f L H Q
structure DAX(c:Str->Addr)(X:Cx)(es:LEx)(f:Xa):Prop where
 pa:PA X es (qi (Gx c X) f)
 len:∀M ds ρ',f M=aa (ds,ρ')->ds.length=es.length
def DE.dx(h:DE c X e f):DX c X e (mX f):=PE.imp h λL H Q g=>by
 obtain⟨Hf0,H0,Hf,M,d,ρ',st,b,k⟩:=g;obtain⟨a,rfl⟩:=OB b;exact⟨Hf0,H0,Hf,_,d,st,a,λv Hf' H' x r=>k v Hf' H' x.f (st.step x) r⟩
def OC:DAX c X [] cf:=⟨PA.imp dM λL H Q b=>by obtain⟨Hf0,H0,Hf,M,ds,ρ',st,a,k⟩:=b;cases a;exact k [] Hf H (aq.refl _) st rfl,λM ds ρ' h=>by cases h;rfl⟩
variable{f:Xe}
def FC{g:Xa}(ha:DX c X e f)(hr:DAX c X es g)(l:StE X e es:=by rfl):DAX c X (e::es) (bE f g):=by
 refine⟨PA.imp (eA ha hr.pa l) λL H Q m=>?_,λM ds ρ' h=>?_⟩
 .obtain⟨Hf0,H0,Hf,M,ds,ρ',st,j,k⟩:=m;obtain⟨d,r,ρ1,i,a,rfl⟩:=FB j;exact⟨Hf0,H0,Hf,M,d,ρ1,st,i,λv b4 H1 f1 st1 n=>⟨Hf0,H0,b4,ρ1,r,ρ',st1,a,λvs b3 H2 f2 b p=>k _ b3 H2 (f1.trans f2) b (.cons (n.up f2) p)⟩⟩
 .obtain⟨d,r,ρ1,i,a,rfl⟩:=FB h;simp[hr.len ρ1 r ρ' a]
abbrev fE(i:Nat)(f:Xe)(M:LS):Option Fl:=(f M).map λp=>.nx (p.2.set i (.im p.1))
abbrev xJ:D->D->OD
 |.int i,.int j=>aa (.int (i+j))
 |.str a,.str b=>if a.length+b.length<=16777216 then aa (.str (a++b)) else ab
 | _,_=>ab
abbrev mj(i:Nat)(f:Xe)(M:LS):Option Fl:=match M[i]? with
 |some (.im x)=>(f M).bind λp=>(xJ x p.1).map λz=>.nx (p.2.set i (.im z))
 | _=>ab
def tS(i:Nat)(g:X.N.Nodup)(h:DX c X e f)(hi:X.N[i]?=aa x:=by rfl)(m:Loc X.env.scope x:=by first |exact bS rfl |exact bw rfl)(l:fI e (aa (.Name x cc)) pos.line X.env=pure ag:=by rfl)(j:LcF X x:=by first |exact .inl rfl |exact .inr rfl):
  DS c X (.Assign [.Name x cc] e pos) (fE i f):=PS.imp (nh g hi m h l j) λU4 L H n=>by
 obtain⟨Hf0,H0,Hf,M,o,q,a,k⟩:=n;unfold fE at a
 cases b:f M with
 |none=>rw[b]at a;nomatch a
 |some p=>
  rw[b]at a;cases a;exact⟨Hf0,H0,Hf,M,p.1,p.2,q,b,λv Hf' H' s d r=>k _ Hf' H' s (d.setIm r)⟩
def OE:PIp X .Add (rD (Gx c X) xJ):=λU s L H x y v u Q I l m q=>by
 obtain⟨Hf,dx,f,d,n,g,h,e,k⟩:=q
 exact (by
 cases dx with
 |int i=>
  cases f with
  |int j=>
   subst g;subst h;cases e
   exact Jh U s L H _ _ v u Q I l m ⟨_,_,rfl,rfl,k _ Hf H (Ext.refl n) rfl⟩
  | _=>nomatch e
 |str a=>
  cases f with
  |str b=>
   subst g;subst h;replace e:(if _ then aa _ else ab)=aa d:=e;split at e
   .rename_i p;cases e;exact JR U s L H _ _ v u Q I l m ⟨_,_,rfl,rfl,by rw[cX];exact p,k _ Hf H (Ext.refl n) rfl⟩
   .grind
  | _=>nomatch e
 | _=>nomatch e)
def OF(i:Nat)(A:X.N.Nodup)(B:DX c X e f)(hi:X.N[i]?=aa x:=by rfl)(E:Loc X.env.scope x:=by first |exact bS rfl |exact bw rfl)(C:LcF X x:=by first |exact .inl rfl |exact .inr rfl):
  DS c X (.AugAssign (.Name x cc) .Add e pos) (mj i f):=PS.imp (CF A hi E B (OE) C) λU4 L H G=>by
 obtain⟨Hf0,H0,Hf,M,o,l,a,k⟩:=G;unfold mj at a;split at a
 .rename_i d es
  cases g:f M with
  |none=>rw[g]at a;nomatch a
  |some p=>
   simp only[g,ay]at a
   cases h:xJ d p.1 with
   |none=>rw[h]at a;nomatch a
   |some z=>
    rw[h]at a;cases a;obtain⟨v,n,w,q,j⟩:=l.slot es;subst q;exact⟨_,n,Hf0,H0,Hf,M,p.1,p.2,l,g,λu Hf' H' s b r=>⟨Hf',d,p.1,z,b.sub,j.up s,r,h,λy b3 H2 m I=>k _ b3 H2 (s.trans m.f) ((b.step m).setIm I)⟩⟩
 .nomatch a
abbrev isE(x d:D):Bool:=deq 19 d x==aa ac
abbrev gh(y x:D):OD:=match y with
 |.lst ds=>if cU x ds=aa ac then aa (.int ((ds.findIdx (isE x):Nat):Int)) else ab
 | _=>ab
def xK{x:D}:∀{ds:LD} {b:Bool},cU x ds=aa b->(∀d∈ds,∃f,deq 19 d x=aa f)/\ds.any (isE x)=b
 | [],_,h=>by cases h;exact⟨λd hd=>(cS hd).elim,rfl⟩
 |d::ds,b,h=>by
  obtain⟨a,j,c,h2,rfl⟩:=EJ h;obtain⟨g,i⟩:=xK h2;refine⟨λd' hd=>?_,?_⟩
  .rcases bm.mp hd with e |e
   .rw[e];exact⟨a,c⟩
   .exact g d' e
  .rw[fY,i];unfold isE;rw[c]
   cases a <;> rfl
abbrev xL(G:Gc):V->LVv->Hp->VK->Prop:=λa vs H Q=>∃Hf y x d w,vs=[w]/\aq Hf H/\Rep G Hf y a/\Rep G Hf x w/\gh y x=aa d/\∀v Hf' H',Ext Hf H Hf' H'->Rep G Hf' d v->Q v H'
def FD(hu:X.A.units+64<cLine):MtM X "list.index" (xL (Gx c X)):=by
 rintro U s L H x B v us Q I rx rv ⟨Hf,y,z,d,w,rfl,i,r1,r2,e,k⟩;unfold gh at e;split at e
 .rename_i ds;split at e
  .rename_i a;cases e;obtain⟨l,vs,el,q,C⟩:=r1;subst el;subst rx;obtain⟨u,rfl,ru⟩:=rv.one;obtain⟨z1,E,n,Y,T,e0⟩:=I.lstM (i _ _ q);obtain⟨f,M,ha⟩:=p8 (A:=X.A.in1) I (by rw[pc];lia) (r2.up i) ru (C.up i) Y a;obtain⟨k1,k2⟩:=xK a
   have same:∀m _,f E[m]=isE z (ds.getD m .non):=λm hm=>by
    have r:m<ds.length:=by rw[C.length,T];exact hm
    obtain⟨v1,j,J⟩:=C.get (cr r);obtain⟨u1,b,ru1⟩:=Y.get j;rw[cr hm]at b;cases b;obtain⟨_,d',v',r',G,h'⟩:=M E[m] (jq hm);have ev:=az.inj G ru1;subst ev;obtain⟨b1,g⟩:=k1 ds[m] (jq r);rw[cg,cr r];show _=isE z ds[m];unfold isE;rw[g,(p7 19 r' (J.up i) h' g)]
    cases b1 <;> rfl
   have N:=uX (any_eq_true.mp k2);have h:ds.findIdx (isE z)<E.length:=by rw[<- T,<- C.length];exact N
   refine call_meets F.slot_list_index ⟨_,e0,rfl⟩ F.entry_list_index (F.args_list_index_2 _ _) (SeqAt.list_indexAt l E.toArray n ab #[] u f _ (by rw[size_toArray];exact h) (by rw[cX]at z1;lia) ?_ ?_) ⟨e0,λy hy=>(M y (by simpa using hy)).1,⟨.int _,H,I.tok _,⟨_,rfl⟩,k _ Hf H (Ext.refl i) rfl⟩⟩
   .rw[rK,same _ h,cg,cr N];exact findIdx_getElem
   .intro m hm p;rw[rK,same m (by rw[size_toArray]at hm;exact hm),cg,cr _];have:=not_of_lt_findIdx p
    simpa using this
  .nomatch e
 .nomatch e
def OG{f:MF1}(h:PE X e (tBM X.K "list" (xL (Gx c X)) (tD (Gx c X) f) (iG (tD (Gx c X) g) gF))):DE c X e (m2 gh f g):=PE.imp h λL H Q A=>by
 obtain⟨Hf0,H0,Hf,M,d,st,z,k⟩:=A;obtain⟨x,y,p,r,a⟩:=lS z
 obtain⟨ds,rfl⟩:∃ds,x=.lst ds:=by
  unfold gh at a;split at a
  .exact⟨_,rfl⟩
  .nomatch a
 refine⟨Hf0,H0,Hf,M,_,st,p,λv b4 H1 i m=>?_⟩;obtain⟨l,vs,el,q,C⟩:=id m;subst el;exact⟨.inl ⟨rfl,_,SqL.of (i.s _ _ q)⟩,Hf0,H0,b4,M,y,st.step i,r,λu b3 H2 j B=>⟨b3,.lst ds,y,d,u,rfl,j.s,m.up j.f,B,a,λw b n G E=>k w b n ((i.trans j).trans G) E⟩⟩
def FE{b:Type}:∀(a:List (Int×b)),(a.map (·.1)).Nodup->∀z∈a,a.find? (λy=>y.1==z.1)=aa z
 | [],_,_,h=>(cS h).elim
 |y::a,nd,z,h=>by
  rw[bF,bX]at nd;rw[find?_cons]
  rcases bm.mp h with e |e
  .rw[e,beq_self_eq_true]
  .have:_=ag:=beq_eq_false_iff_ne.mpr λq=>nd.1 (aT.mpr ⟨z,e,q.symm⟩);rw[this];exact FE a nd.2 z e
def DE.pe{f:MF1}(h:DE c X e f):PE X e (tD (Gx c X) f):=h
def DX.pe(h:DX c X e f):PE X e (tDX (Gx c X) f):=h
abbrev FF(x y z:D):OD:=(tR x).bind λp=>(iO y).map λk=>(gg p.1 p.2 k).getD z
abbrev qj(f g h:MF1)(M:LS):OD:=(f M).bind λx=>(g M).bind λy=>(h M).bind λz=>FF x y z
def OH{o:Expr}(hu:X.A.units+64<cLine){f h:MF1}(ho:DE c X o f)(hk:DE c X a g)(hx:DE c X b h)(m:M2 X o "get" apos a b cpos):DE c X (.Call (.Attribute o "get" apos) [a,b] [] cpos) (qj f g h):=
 PE.imp (wu (by lia) ho hk hx m) λL H Q q_=>by
  obtain⟨Hf0,H0,Hf,M,d,st,e,k⟩:=q_;unfold qj at e;obtain⟨x,G,e⟩:=rV.mp e;obtain⟨y,I,e⟩:=rV.mp e;obtain⟨z,J,e⟩:=rV.mp e;unfold FF at e;obtain⟨p,N,e⟩:=rV.mp e;obtain⟨n,T,e⟩:=Option.map_eq_some_iff.mp e;refine⟨Hf0,H0,Hf,M,x,st,G,λv b4 H1 j r1=>?_⟩;obtain⟨l,vs,Y,rd,z0,r⟩:=FA N r1;subst Y;refine⟨l,rfl,.inl ⟨_,rd.up j.s⟩,Hf0,H0,b4,M,y,st.step j,I,λu b3 H2 C r2=>⟨Hf0,H0,b3,M,z,(st.step j).step C,J,λw q E x3 r3=>?_⟩⟩;have U:=pY T r2;subst U;have i:=C.trans x3;refine⟨cw (p.1.zip vs) n,.inl ⟨_,n,(rd.up j.s).up i.h,rfl,rfl⟩,k _ q E (j.trans i) ?_⟩;obtain⟨h1,h2⟩:=tQ (k:=n) z0 (r.up i.f);subst e
  cases hv:gg p.1 p.2 n with
  |none=>rw[h2 hv];exact r3
  |some d=>
   obtain⟨w',hw,B⟩:=h1 d hv;rw[hw];exact B
structure Foc(G:Gc)(Hf H:Hp)(o:O)(v:V)(fp:LAd)(o1:O)(v1:V)(f1:LAd)(R:O->O):Prop where
 r:OT G Hf H o1 v1 f1
 n:f1.Nodup
 sub:∀a∈f1,a∈fp
 back:∀(Hf' H':Hp) (o2:O) (f2:LAd),aq Hf Hf'->(∀b u,H b=aa u->b∉f1->H' b=aa u)->OT G Hf' H' o2 v1 f2 ->
  ∃fp',OT G Hf' H' (R o2) v fp'/\(∀a∈fp',a∈f2\/(a∈fp/\a∉f1))/\(f2.Nodup->(∀a∈f2,a∈fp->a∈f1)->fp'.Nodup)
def Foc.refl{o:O}(h:OT G Hf H o v fp)(n:fp.Nodup):Foc G Hf H o v fp o v fp id:=
 ⟨h,n,λ_ h=>h,λ_ _ _ f2 _ _ q=>⟨f2,q,λ_ h=>.inl h,λn _=>n⟩⟩
variable{v1:V}{f1 f2:LAd}{R R':O->O}
def Foc.trans{o o1 o2:O}{g:V}(F:Foc G Hf H o v fp o1 v1 f1 R)(F':Foc G Hf H o1 v1 f1 o2 g f2 R'):Foc G Hf H o v fp o2 g f2 (λx=>R (R' x)):=by
 refine⟨F'.r,F'.n,λa h=>F.sub a (F'.sub a h),λHf' H' m i s k h=>?_⟩;obtain⟨d,p,m1,j⟩:=F'.back Hf' H' m i s k h;obtain⟨fp',q,m2,l⟩:=F.back Hf' H' _ d s (λb u e c=>k b u e λz=>c (F'.sub b z)) p;refine⟨fp',q,λa ha=>?_,λnf f=>l (j nf λa ha c=>f a ha (F.sub a c)) λa ha c=>?_⟩
 .rcases m2 a ha with z |⟨z,z'⟩
  .rcases m1 a z with y |⟨y,y'⟩
   .exact .inl y
   .exact .inr ⟨F.sub a y,y'⟩
  .exact .inr ⟨z,λy=>z' (F'.sub a y)⟩
 .rcases m1 a ha with y |⟨y,_⟩
  .exact F'.sub a (f a y c)
  .exact y
variable{b:Addr}
def FG{o:O}{f:LAd}(h:OT G Hf H o v f)(e:H b=aa u)(t:g6 u=ac):b∉f:=λz=>by
 obtain⟨d,c,a⟩:=OT.memM o v f h b z
 grind
def OTs.foc:∀{os:List O} {vs:LVv} {fp:LAd} {k:Nat} {o1:O},OTs G Hf H os vs fp->fp.Nodup->os[k]?=aa o1->∃v1 f1,vs[k]?=aa v1/\OT G Hf H o1 v1 f1/\f1.Nodup/\(∀a∈f1,a∈fp) /\
  ∀(Hf' H':Hp) (o2:O) (d:V) (f2:LAd),aq Hf Hf'->(∀b u,H b=aa u->(g6 u=ac\/b∈fp)->b∉f1->H' b=aa u)->OT G Hf' H' o2 d f2 ->
  ∃fp',OTs G Hf' H' (os.set k o2) (vs.set k d) fp'/\(∀a∈fp',a∈f2\/(a∈fp/\a∉f1))/\(f2.Nodup->(∀a∈f2,a∈fp->a∈f1)->fp'.Nodup)
 | [],_,_,_,_,_,_,e=>by simp at e
 |o::os,_,_,0,o1,q5_,n,e'=>by
  obtain⟨v,r,f1,g,e,i,h2,m⟩:=q5_;cases e';subst e m;obtain⟨p,w,dj⟩:=fW.mp n;refine⟨v,f1,rfl,i,p,λa ha=>da _ ha,λHf' H' o2 d f2 s k h=>⟨f2++g,?_,λa ha=>?_,λnf j=>(fW.mpr ⟨nf,w,λa ha b c z=>by subst z;exact dj a (j a ha (c9 _ c)) a c rfl⟩)⟩⟩
  .simp only[rR,rR];refine⟨d,r,f2,g,rfl,h,OTs.frameM s os r g h2 λb u c hm=>k b u c (hm.imp_right λy=>c9 _ y) λz=>?_,rfl⟩
   rcases hm with t |t
   .exact FG i c t z
   .exact dj b z b t rfl
  .rcases bP.mp ha with z |z
   .exact .inl z
   .exact .inr ⟨c9 _ z,λy=>dj a y a z rfl⟩
 |o::os,_,_,k+1,o1,q5_,n,e'=>by
  obtain⟨v,r,f,g,e,i,h2,m⟩:=q5_;subst e m;obtain⟨p,w,dj⟩:=fW.mp n;obtain⟨v1,f1,B,q,E,l,bk⟩:=OTs.foc h2 w e';refine⟨v1,f1,by simp only[gt];exact B,q,E,λa ha=>c9 _ (l a ha),λHf' H' o2 d f2 s k h=>?_⟩;obtain⟨x,I,A,C⟩:=bk Hf' H' o2 d f2 s (λb u c hm=>k b u c (hm.imp_right λy=>c9 _ y)) h;refine⟨f++x,?_,λa ha=>?_,λnf j=>?_⟩
  .simp only[oS,oS];refine⟨v,_,f,x,rfl,i.frame s λb u c hm=>k b u c (hm.imp_right λy=>da _ y) λz=>?_,I,rfl⟩
   rcases hm with t |t
   .exact FG q c t z
   .exact dj b t b (l b z) rfl
  .rcases bP.mp ha with z |z
   .exact .inr ⟨da _ z,λy=>dj a z a (l a y) rfl⟩
   .rcases A a z with y |⟨y,y'⟩
    .exact .inl y
    .exact .inr ⟨c9 _ y,y'⟩
  .refine fW.mpr ⟨p,C nf λa ha c=>j a ha (c9 _ c),λa ha b c z=>?_⟩;subst z
   rcases A a c with y |⟨y,_⟩
   .exact dj a ha a (l a (j a y (da _ ha))) rfl
   .exact dj a ha a y rfl
def ml{b:Type}:∀{l:List b} {k:Nat} {x:b},l[k]?=aa x->l.set k x=l
 | [],_,_,e=>by simp at e
 | _::_,0,_,e=>by simp at e;subst e;rfl
 |a::l,k+1,x,e=>by simp only[gt]at e;rw[oS,ml e]
variable{os:List O}{o1:O}
def Foc.root{o:O}{a:Addr}{fs:LAd}{k:Nat}{W:List O->O}(ha:H a=aa u)(E:g6 u=ag)(C:OTs G Hf H os vs fs)(n:(a::fs).Nodup)(e:os[k]?=aa o1)
 (mk:∀Hf' H' f c,H' a=aa u->OTs G Hf' H' f vs c->f.length=os.length->OT G Hf' H' (W f) (.ref a) (a::c)):∃v1 f1,vs[k]?=aa v1/\Foc G Hf H o (.ref a) (a::fs) o1 v1 f1 (λx=>W (os.set k x)):=by
 obtain⟨g,nf⟩:=bX.mp n;obtain⟨v1,f1,l,q,B,i,bk⟩:=C.foc nf e;refine⟨v1,f1,l,q,B,λb d=>bj _ (i b d),λHf' H' o2 f2 s p h=>?_⟩;obtain⟨c,v,r,A⟩:=bk Hf' H' o2 v1 f2 s (λb u d _=>p b u d) h;rw[ml l]at v;refine⟨a::c,mk Hf' H' _ c (p a u ha λz=>g (i a z)) v (by simp),λb d=>?_,λj m=>bX.mpr ⟨λz=>?_,A j λb d w=>m b d (bj _ w)⟩⟩
 .rcases bm.mp d with z |z
  .subst z;exact .inr ⟨aH,λy=>g (i b y)⟩
  .rcases r b z with y |⟨y,y'⟩
   .exact .inl y
   .exact .inr ⟨bj _ y,y'⟩
 .rcases r a z with y |⟨y,_⟩
  .exact g (i a (m a y aH))
  .exact g y
def Foc.at{o:O}(h:OT G Hf H (.at l o) v fp)(n:fp.Nodup):Foc G Hf H (.at l o) v fp o v fp (.at l):=
 ⟨h.2,n,λ_ h=>h,λ_ _ _ f2 _ _ q=>⟨f2,⟨h.1,q⟩,λ_ h=>.inl h,λn _=>n⟩⟩
def ar.foc{o o1 o2:O}(m:ar G Hf0 H0 Hf H L M)(es:M[i]?=aa (.deep o))(q:L[i]?=aa (aa v))(r:OT G Hf' H1 o v fp)(x:Ext Hf H Hf' H1)(F:Foc G Hf' H1 o v fp o1 v1 f1 R)
 (kk:∀b u,H1 b=aa u->b∉f1->H2 b=aa u)(new:OT G Hf' H2 o2 v1 f2)(I:f2.Nodup)(h2:∀a∈f2,a∈f1\/(H a=ab/\Hf' a=ab)):ar G Hf0 H0 Hf' H2 L (M.set i (.deep (R o2))):=by
 obtain⟨J,g,C,d,n,z⟩:=(m.at' i _ _ q es);cases C;have:=OT.funM o v fp g r (d.up x.f x.h);subst this;obtain⟨fp',B,mem,nd⟩:=F.back Hf' H2 o2 f2 (aq.refl _) kk new
 have c:∀a∈fp',a∈fp\/_:=λa ha=>by
  rcases mem a ha with y |⟨y,_⟩
  .rcases h2 a y with w |w
   .exact .inl (F.sub a w)
   .exact .inr w
  .exact .inl y
 refine m.chgX x es q (λb u j=>?_) ⟨v,fp',rfl,B,nd I λa ha j=>?_,λa ha=>?_⟩ λa p=>?_
 .by_cases h:b∈f1
  .exact .inl ⟨fp,d,F.sub b h⟩
  .exact .inr (kk b u j h)
 .rcases h2 a ha with y |y
  .exact y
  .obtain⟨u,e,_⟩:=OT.memM o v fp d a j;rw[y.1]at e
   nomatch e
 .rcases c a ha with y |y
  .obtain⟨u,e,E⟩:=OT.memM o v fp d a y;refine⟨(z a y).1,?_⟩;rw[x.n a u e E];exact(z a y).2
  .exact⟨m.ext.h.free y.1,y.2⟩
 .obtain⟨A,l,ha⟩:=p;have:=OT.funM _ _ _ _ B l;subst this
  rcases c a ha with y |y
  .exact .inl ⟨fp,d,y⟩
  .exact .inr y.1
def ar.was{o:O}(g:ar G Hf0 H0 Hf H L M)(es:M[i]?=aa (.deep o))(d:L[i]?=aa (aa v))(x:Ext Hf H Hf' H1)(r:OT G Hf' H1 o v fp):∀a∈fp,H a≠ab:=λa ha=>by
 obtain⟨l,b,e,c,n,z⟩:=g.at' i _ _ d es;cases e;have:=OT.funM o v fp b r (c.up x.f x.h);subst this;obtain⟨u,j,_⟩:=OT.memM o v fp c a ha
 grind
abbrev xM:D->Option Key
 |.int i=>aa (.inl i)
 |.bl b=>aa (.inl (cond b 1 0))
 |.str x=>aa (.inr x)
 | _=>ab
abbrev qk:LD->Option (List Key)
 | []=>aa []
 |d::ds=>(xM d).bind λk=>(qk ds).map (k::·)
abbrev jO:D->Option (List Key)
 |.tup ds=>qk ds
 | _=>ab
def OI{k:Key}(h:xM d=aa k)(r:Rep G H d v):kR k v:=by
 cases d with
 |int i=>cases h;exact .inl r
 |bl b=>cases h;exact .inr ⟨b,r,rfl⟩
 |str x=>cases h;exact r
 | _=>nomatch h
def FH{G:Gc}{H:Hp}:∀{ds:LD} {ks:List Key} {vs:LVv},qk ds=aa ks->ao G H ds vs->KRs ks vs
 | [],_,_,h,r=>by cases h;cases (r);exact .nil
 |d::ds,ks,_,h,q4_=>by
  obtain⟨v,r,e,c,h2⟩:=q4_;subst e;dsimp only[qk]at h
  cases a:xM d with
  |none=>rw[a]at h;cases h
  |some k=>
   simp only[a,ay]at h
   cases b:qk ds with
   |none=>rw[b]at h;cases h
   |some f=>rw[b]at h;cases h;exact .cons (OI a c) (FH b h2)
def qm{k:List Key}(h:jO d=aa k)(r:Rep G H d v):∃b,v=.ref b/\eN H b k:=by
 cases d with
 |tup ds=>obtain⟨a,vs,e,q,C⟩:=r;exact⟨a,e,vs,q,FH h C⟩
 | _=>nomatch h
abbrev aQ{a:Type}[DecidableEq a](f:a):List a->Option Nat
 | []=>ab
 |n::ns=>if n=f then aa 0 else (aQ f ns).map (· + 1)
def xN{a:Type}[DecidableEq a]{f:a}:∀{ns:List a} {k:Nat},aQ f ns=aa k->k<ns.length
 | [],_,e=>by cases e
 |n::ns,k,e=>by
  dsimp only[aQ]at e;split at e
  .cases e;exact oW _
  .cases h:aQ f ns with
   |none=>rw[h]at e;cases e
   |some j=>rw[h]at e;cases e;exact Nat.succ_lt_succ (xN h)
def xO{a:Type}[DecidableEq a]{b:Type}{f:a}:∀{ns:List a} {k:Nat} (vs:List b),aQ f ns=aa k->(ns.zip vs).lookup f=vs[k]?
 | [],_,_,e=>by cases e
 | _::_,_,[],_=>by rfl
 |n::ns,k,v::vs,e=>by
  dsimp only[aQ]at e;simp only[eI,lu];split at e
  .rename_i h;subst h;cases e;rw[beq_self_eq_true];rfl
  .rename_i h;simp only[beq_eq_false_iff_ne.mpr (d5 h)]
   cases h':aQ f ns with
   |none=>rw[h']at e;cases e
   |some j=>
    rw[h']at e;cases e;exact xO vs h'
def oh{a:Type}[DecidableEq a]{f:a}:∀{ns:List a} {k:Nat} (vs:LVv),aQ f ns=aa k->cw (ns.zip vs) f=vs[k]?
 | [],_,_,e=>by cases e
 | _::_,_,[],_=>by rfl
 |n::ns,k,v::vs,e=>by
  dsimp only[aQ]at e;simp only[eI];split at e
  .rename_i h;cases e;rw[pA h];rfl
  .rename_i h;rw[nj h]
   cases h':aQ f ns with
   |none=>rw[h']at e;cases e
   |some j=>
    rw[h']at e;cases e;exact oh vs h'
def qo{a:Type}[DecidableEq a]{f:a}:∀{ns:List a} (vs:LVv),aQ f ns=ab->cw (ns.zip vs) f=ab
 | [],_,_=>rfl
 | _::_,[],_=>by rfl
 |n::ns,v::vs,e=>by
  dsimp only[aQ]at e;simp only[eI];split at e
  .cases e
  .rename_i h;rw[nj h]
   cases h':aQ f ns with
   |none=>exact qo vs h'
   |some j=>rw[h']at e;cases e
def Foc.up{o o1:O}(F:Foc G Hf H o v fp o1 v1 f1 R)(f:aq Hf Hf')(s:aq H H'):Foc G Hf' H' o v fp o1 v1 f1 R:=
 ⟨F.r.up f s,F.n,F.sub,λb3 H2 o2 f2 s2 k h=>F.back b3 H2 o2 f2 (f.trans s2) (λb u e a=>k b u (s b u e) a) h⟩
nonrec def Xp:=LS->Option (O×(O->O))
inductive tDP(G:Gc)(i:Nat)(f:Xp)(L:St)(H:Hp)(Q:VK):Prop
 |mk:∀Hf0 H0 Hf M o1 R,ar G Hf0 H0 Hf H L M->f M=aa (o1,R)->(∀o v fp v1 f1 Hf' H',M[i]?=aa (.deep o)->L[i]?=aa (aa v)->Ext Hf H Hf' H'->OT G Hf' H' o v fp->Foc G Hf' H' o v fp o1 v1 f1 R->Q v1 H')->tDP G i f L H Q
abbrev DP(c:Str->Addr)(X:Cx)(e:Expr)(i:Nat)(f:Xp):Prop:=PE X e (tDP (Gx c X) i f)
abbrev aG(i:Nat):Xp:=λM=>match M[i]? with
 |some (.deep (.at l o))=>aa (o,.at l)
 |some (.deep o)=>aa (o,id)
 | _=>ab
abbrev O.fld(cn f:Str):O->Option (O×(O->O))
 |.ins c ns os=>if c=cn then (aQ f ns).bind λk=>(os[k]?).map λo1=>(o1,λx=>.ins c ns (os.set k x)) else ab
 | _=>ab
abbrev aS(cn f:Str)(p:Xp):Xp:=λM=>(p M).bind λq=>(q.1.fld cn f).map λr=>(r.1,λx=>q.2 (r.2 x))
abbrev O.key(k:List Key):O->Option (O×(O->O))
 |.dT ks os=>(aQ k ks).bind λj=>(os[j]?).map λo1=>(o1,λx=>.dT ks (os.set j x))
 | _=>ab
abbrev jP(p:Xp)(g:MF1):Xp:=λM=>(p M).bind λq=>(g M).bind λd=>(jO d).bind λk=>(q.1.key k).map λr=>(r.1,λx=>q.2 (r.2 x))
abbrev fzs:List O->OLD
 | []=>aa []
 |.fz d::os=>(fzs os).map (d::·)
 | _=>ab
def xP:∀(ds:LD),fzs (ds.map .fz)=aa ds
 | []=>rfl
 |d::ds=>by rw[bF,fzs,xP ds];rfl
def FI:∀{os:List O} {ds:LD},fzs os=aa ds->os=ds.map .fz
 | [],_,h=>by cases h;rfl
 |o::os,ds,h=>by
  cases o with
  |fz d=>
   simp only[fzs]at h
   cases e:fzs os with
   |none=>rw[e]at h;cases h
   |some a=>rw[e]at h;cases h;rw[bF,<- FI e]
  | _=>cases h
def OTs.unfz{G:Gc}{Hf H:Hp}:∀{ds:LD} {vs:LVv} {fs:LAd},OTs G Hf H (ds.map .fz) vs fs->ao G Hf ds vs/\fs=[]
 | [],_,_,h=>⟨h.1,h.2⟩
 |d::ds,_,_,q3_=>by
  obtain⟨v,r,f1,f2,e,c,h2,f⟩:=q3_;obtain⟨a,b⟩:=OTs.unfz h2;refine⟨⟨v,r,e,c.1,a⟩,?_⟩;rw[f,c.2,b];rfl
abbrev pD(p:Xp)(M:LS):OD:=(p M).bind λq=>match q.1 with
 |.fz d=>aa d
 | _=>ab
abbrev pB(p:Xp)(M:LS):OD:=(p M).bind λq=>if q.1.kn then aa q.1.toD else ab
abbrev O.items:O->OLD
 |.lst os=>fzs os
 | _=>ab
abbrev pC(p:Xp)(M:LS):OLD:=(p M).bind λq=>q.1.items
inductive tDL(G:Gc)(f:MF2)(L:St)(H:Hp)(Q:VK):Prop
 |mk:∀Hf0 H0 Hf M ds,ar G Hf0 H0 Hf H L M->f M=aa ds->(∀a vs Hf' H',Ext Hf H Hf' H'->H' a=aa (.lst vs)->ao G Hf' ds vs->Q (.ref a) H')->tDL G f L H Q
abbrev DL(c:Str->Addr)(X:Cx)(e:Expr)(f:MF2):Prop:=PE X e (tDL (Gx c X) f)
def a9{c d:Type}{a:Option c}{f:c->Option d}{b:d}(h:a.bind f=aa b):∃x,a=aa x/\f x=aa b:=by
 cases a with
 |none=>nomatch h
 |some x=>exact⟨x,rfl,h⟩
def di{c d:Type}{a:Option c}{f:c->d}{b:d}(h:a.map f=aa b):∃x,a=aa x/\f x=b:=by simp_all
def dP(h:PE X e (cB i)):DP c X e i (aG i):=PE.imp h λL H Q j=>by
 obtain⟨Hf0,H0,Hf,M,o1,R,d,a,g⟩:=j
 have main:∀o,M[i]?=aa (.deep o)->(∀v fp,OT _ Hf H o v fp->fp.Nodup->Foc _ Hf H o v fp o1 v fp R)->cB i L H Q:=λo es F=>by
  obtain⟨v,b,u,fp,f,r,n,z⟩:=d.slot es;subst f;exact⟨u,b,g o u fp u fp Hf H es b (Ext.refl d.sub) r (F u fp r n)⟩
 unfold aG at a;split at a
 .rename_i l o es;cases a;exact main _ es λv fp r n=>Foc.at r n
 .rename_i o _ es;cases a;exact main _ es λv fp r n=>Foc.refl r n
 .grind
variable{o2:O}
def OJ{cn f:Str}(h:o1.fld cn f=aa (o2,R)):∃ns os k,o1=.ins cn ns os/\aQ f ns=aa k/\os[k]?=aa o2/\R=λx=>.ins cn ns (os.set k x):=by
 cases o1 with
 |ins c ns os=>
  replace h:(if c=cn then (aQ f ns).bind λk=>(os[k]?).map λo1=>_ else ab)=aa _:=h;split at h
  .rename_i d;subst d;obtain⟨k,a,h⟩:=a9 h;obtain⟨o,b,h⟩:=di h;cases h;exact⟨ns,os,k,rfl,a,b,rfl⟩
  .nomatch h
 | _=>nomatch h
def Foc.fld{o o1 o2:O}{cn f:Str}(F:Foc G Hf H o v fp o1 v1 f1 R)(h:o1.fld cn f=aa (o2,R')):∃(a dx:Addr) (ns:LSt) (vs:LVv) (b:V) (f2:LAd),v1=.ref a/\H a=aa (.ins (G.cl cn) dx (ns.zip vs))/\(ns.zip vs).lookup f=aa b/\Foc G Hf H o v fp o2 b f2 (λx=>R (R' x)):=by
 obtain⟨ns,os,k,rfl,g,i,rfl⟩:=OJ h;obtain⟨a,dx,vs,fs,rfl,ha,hz,C,rfl⟩:=F.r;obtain⟨b,f2,j,e⟩:=Foc.root (W:=.ins cn ns) ha rfl C F.n i λHf' H' l c d r _=>⟨a,dx,vs,c,rfl,d,hz,r,rfl⟩;exact⟨a,dx,ns,vs,b,f2,rfl,ha,(xO vs g).trans j,F.trans e⟩
variable{p:Xp}
def dY{o:Expr}(cn:Str)(m:Cls X.K (c cn))(hn:cv X.K (c cn) fl)(n:DP c X o i p)(l:mU o fl X.env (eval o X.env)=eval o X.env:=by rfl):DP c X (.Attribute o fl pos) i (aS cn fl p):=PE.imp (CU n l) λL H Q w=>by
 obtain⟨Hf0,H0,Hf,M,o2,R,y,b,u⟩:=w;obtain⟨q,f,b⟩:=a9 b;obtain⟨r,g,b⟩:=di b;cases b;refine⟨Hf0,H0,Hf,M,q.1,q.2,y,f,λt v fp v1 f1 Hf' H' es j x rt F=>?_⟩;obtain⟨a,dx,ns,vs,d,f2,h,ha,el,e⟩:=F.fld g;exact⟨a,_,dx,_,d,h,ha,m,hn,el,u t v fp d f2 Hf' H' es j x rt e⟩
def eN.same{k:List Key}(h:eN H b k)(s:aq H H'):eN H' b k:=h.up λb B e=>s _ _ e
def OK{k:List Key}(h:o1.key k=aa (o2,R)):∃ks os j,o1=.dT ks os/\aQ k ks=aa j/\os[j]?=aa o2/\R=λx=>.dT ks (os.set j x):=by
 cases o1 with
 |dT ks os=>
  obtain⟨j,a,h⟩:=a9 h;obtain⟨o,b,h⟩:=di h;cases h
  exact⟨ks,os,j,rfl,a,b,rfl⟩
 | _=>nomatch h
def Foc.key{o o1 o2:O}{k:List Key}(F:Foc G Hf H o v fp o1 v1 f1 R)(h:o1.key k=aa (o2,R')):∃a kvs b f2,v1=.ref a/\H a=aa (.dT kvs)/\cw kvs k=aa b/\Foc G Hf H o v fp o2 b f2 (λx=>R (R' x)):=by
 obtain⟨ks,os,j,rfl,f,g,rfl⟩:=OK h;obtain⟨a,vs,fs,rfl,ha,hz,C,rfl⟩:=F.r;obtain⟨b,f2,i,e⟩:=Foc.root (W:=.dT ks) ha rfl C F.n g λHf' H' l c d r _=>⟨a,vs,c,rfl,d,hz,r,rfl⟩;exact⟨a,ks.zip vs,b,f2,rfl,ha,(oh vs f).trans i,F.trans e⟩
def FJ{o:Expr}(U:X.A.units+1<cLine)(N:DP c X o i p)(J:DE c X e g)(T:pE e:=by exact λ_ _=>rfl):DP c X (.Subscript o e pos) i (jP p g):=PE.imp (wq U N J T) λL H Q q_=>by
 obtain⟨Hf0,H0,Hf,M,o2,R,m,j,Y⟩:=q_;obtain⟨q,w,j⟩:=a9 j;obtain⟨d,z,j⟩:=a9 j;obtain⟨k,B,j⟩:=a9 j;obtain⟨r,C,j⟩:=di j;cases j;refine⟨Hf0,H0,Hf,M,q.1,q.2,m,w,λt v fp v1 f1 b4 H1 es I x rt F=>⟨Hf0,H0,b4,M,d,m.step x,z,λy b3 H2 l r2=>?_⟩⟩;obtain⟨b,G,tk⟩:=qm B r2;obtain⟨a,kvs,n,f2,E,ha,el,u⟩:=(F.up l.f l.h).key C;subst G;refine⟨a,n,E,?_,Y t v fp n f2 b3 H2 es I (x.trans l) (rt.up l.f l.h) u⟩;rw[<- el];exact fj.t ha (tk.same l.s)
def FK(h:DP c X e i p):DE c X e (pD p):=PE.imp h λL H Q j=>by
 obtain⟨Hf0,H0,Hf,M,d,l,a,g⟩:=j;obtain⟨q,f,a⟩:=a9 a;refine⟨Hf0,H0,Hf,M,q.1,q.2,l,f,λt v fp v1 f1 b4 H1 es m x rt F=>?_⟩
 cases b:q.1 with
 |fz d'=>rw[b]at a;cases a;have r:=F.r;rw[b]at r;exact g _ _ _ x r.1
 | _=>simp only[b]at a;nomatch a
def xQ(h:DP c X e i p):DB c X e (pB p):=PE.imp h λL H Q j=>by
 obtain⟨Hf0,H0,Hf,M,d,l,a,g⟩:=j;obtain⟨q,b,a⟩:=a9 a;split at a
 .rename_i f;cases a;exact⟨Hf0,H0,Hf,M,q.1,q.2,l,b,λt v fp v1 f1 b4 H1 es m x rt F=>g _ _ _ x (F.r.rep x.s f)⟩
 .nomatch a
def qp(h:o1.items=aa ds):o1=.lst (ds.map .fz):=by
 cases o1 with
 |lst os=>rw[FI h]
 | _=>nomatch h
def xR(h:DP c X e i p):DL c X e (pC p):=PE.imp h λL H Q g=>by
 obtain⟨Hf0,H0,Hf,M,ds,j,b,f⟩:=g;obtain⟨q,d,b⟩:=a9 b;refine⟨Hf0,H0,Hf,M,q.1,q.2,j,d,λt v fp v1 f1 b4 H1 es l x rt F=>?_⟩;have r:=F.r;rw[qp b]at r;obtain⟨a,vs,fs,rfl,ha,C,_⟩:=r;exact f a vs b4 H1 x ha C.unfz.1
def DL.dc{f:MF2}(h:DL c X e f):DC c X e f:=PE.imp h λL H Q d=>by
 obtain⟨Hf0,H0,Hf,M,ds,st,a,k⟩:=d;exact⟨Hf0,H0,Hf,M,ds,st,a,λl vs Hf' H' x b r=>k l vs Hf' H' x (.inl (SqL.of b)) r⟩
def DL.db{f:MF2}(h:DL c X e f):DB c X e (aJ f):=PE.imp h λL H Q i=>by
 obtain⟨Hf0,H0,Hf,M,d,st,a,k⟩:=i;obtain⟨ds,b,a⟩:=di a;subst a;exact⟨Hf0,H0,Hf,M,ds,st,b,λl vs Hf' H' x g r=>k _ Hf' H' x ⟨l,vs,rfl,g,r.up x.s⟩⟩
abbrev O.got(k:List Key):O->OLD
 |.dT ks os=>match aQ k ks with
  |some j=>(os[j]?).bind O.items
  |none=>aa []
 | _=>ab
abbrev gL(p:Xp)(g:MF1)(M:LS):OLD:=(p M).bind λq=>(g M).bind λd=>(jO d).bind λk=>q.1.got k
section
variable{o:Expr}
def xS{w:Pos}(hu:X.A.units+1<cLine)(ho:DP c X o i p)(hk:DE c X e g)(m:M2 X o "get" apos e (.List [] w) pos):DL c X (.Call (.Attribute o "get" apos) [e,.List [] w] [] pos) (gL p g):=PE.imp (wu hu ho hk (sE dM) m) λL H Q q_=>by
 obtain⟨Hf0,H0,Hf,M,ds,so,u,Y⟩:=q_;obtain⟨q,e1,u⟩:=a9 u;obtain⟨d,e2,u⟩:=a9 u;obtain⟨k,e3,u⟩:=a9 u;refine⟨Hf0,H0,Hf,M,q.1,q.2,so,e1,λt v fp v1 f1 b4 H1 es ev x rt F=>?_⟩
 cases U:q.1 with
 |dT ks os=>
  rw[U]at u F;obtain⟨a,vs,fs,rfl,ha,hz,C,rfl⟩:=F.r;refine⟨a,rfl,.inr ⟨_,.inl ha⟩,Hf0,H0,b4,M,d,so.step x,e2,λy b3 H2 z G=>⟨b9 _,λl hl=>?_⟩⟩;obtain⟨b,eb,tk⟩:=qm e3 G;subst eb;have B:Ext b3 H2 b3 (upd H2 l (.lst [])):=Ext.tmp z.s hl;refine⟨cw _ k,fj.t (B.h _ _ (z.h _ _ ha)) (tk.same (z.s.trans B.h)),?_⟩
  replace u:(match aQ k ks with |some j=>(os[j]?).bind O.items |none=>aa [])=aa ds:=u
  cases E:aQ k ks with
  |none=>
   rw[E]at u;cases u;rw[qo vs E]
   exact Y l [] b3 _ ((x.trans z).trans B) aW .nil
  |some j=>
   rw[E]at u;obtain⟨o2,eo,u⟩:=a9 u;obtain⟨v2,f2,I,F2⟩:=Foc.root (o:=.dT ks os) (W:=.dT ks) ha rfl C F.n eo λHf' H' os' J N r _=>⟨a,vs,J,rfl,N,hz,r,rfl⟩;have G:=(F2.up (z.f.trans B.f) (z.h.trans B.h)).r;rw[qp u]at G;obtain⟨b2,ws,fs2,rfl,hb,T,_⟩:=G;rw[oh vs E,I]
   exact Y b2 ws b3 _ ((x.trans z).trans B) hb T.unfz.1
 | _=>rw[U]at u;nomatch u
end
def OTs.stay{fs:LAd}{c:HO}(r:OTs G Hf H os us fs)(d:H l=aa c)(e:g6 c=ag)(hn:l∉fs)(f:aq Hf Hf')(s:∀b u,b≠l->H b=aa u->H' b=aa u):OTs G Hf' H' os us fs:=
 OTs.frameM f os us fs r λb u a hm=>s b u (λz=>by
  subst z;rw[d]at a;cases a
  rcases hm with t |t
  .grind
  .exact hn t) a
abbrev jQ(i:Nat)(p:Xp)(f:MF1)(M:LS):Option Fl:=(p M).bind λq=>(f M).bind λd=>(q.1.appd d).map λo2=>.nx (M.set i (.deep (q.2 o2)))
abbrev O.extd(ds:LD):O->Option O
 |.lst os=>if os.length+ds.length<=16777216 then aa (.lst (os++ds.map .fz)) else ab
 | _=>ab
abbrev oi(i:Nat)(p:Xp)(f:MF2)(M:LS):Option Fl:=(p M).bind λq=>(f M).bind λds=>(q.1.extd ds).map λo2=>.nx (M.set i (.deep (q.2 o2)))
abbrev O.pop0:O->Option (D×O)
 |.lst (.fz d::os)=>aa (d,.lst os)
 | _=>ab
abbrev qr(i:Nat)(p:Xp):Xe:=λM=>(p M).bind λq=>q.1.pop0.map λr=>(r.1,M.set i (.deep (q.2 r.2)))
abbrev O.setAt(k:D)(d:D)(o:O):Option O:=match k with
 |.int n=>o.items.bind λds=>(ixN ds.length n).map λj=>.lst ((ds.set j d).map .fz)
 | _=>ab
abbrev mm(i:Nat)(p:Xp)(fk fv:MF1)(M:LS):Option Fl:=(fv M).bind λd=>(p M).bind λq=>(fk M).bind λx=>(q.1.setAt x d).map λo2=>.nx (M.set i (.deep (q.2 o2)))
abbrev O.putNew(o x:O)(k:List Key):Option O:=match o with
 |.dT ks os=>if aQ k ks=ab/\ks.length<16777216 then aa (.dT (ks++[k]) (os++[x])) else ab
 | _=>ab
abbrev oj(i:Nat)(p:Xp)(fk fv:MF1)(M:LS):Option Fl:=(fv M).bind λd=>(p M).bind λq=>(fk M).bind λx=>(jO x).bind λk=>(q.1.putNew (.fz d) k).map λo2=>.nx (M.set i (.deep (q.2 o2)))
def OL{f:MF1}(h:PS X st (lN (tBM X.K "list" sH (tDP (Gx c X) i p) (iG (tD (Gx c X) f) gF)))):DS c X st (jQ i p f):=PS.imp h λU4 L H N=>by
 obtain⟨Hf0,H0,Hf,M,o,y,j,I⟩:=N;obtain⟨q,B,j⟩:=a9 j;obtain⟨d,C,j⟩:=a9 j;obtain⟨o2,E,j⟩:=di j;subst j;refine⟨Hf0,H0,Hf,M,q.1,q.2,y,B,λt v fp v1 f1 b4 H1 es G x rt F=>?_⟩;obtain⟨l,us,el,A,hz,J,next⟩:=Fv E F.r;subst el;refine⟨.inl ⟨rfl,_,SqL.of A⟩,Hf0,H0,b4,M,d,y.step x,C,λw b3 H2 g Q=>?_⟩;refine⟨l,us,w,rfl,rfl,g.h _ _ A,by rw[cX];exact hz,I L b3 _ (x.trans g).f ?_⟩
 exact y.foc es G (rt.up g.f g.h) (x.trans g) (F.up g.f g.h) (λb u m hn=>by rw[aI (λz=>hn (by rw[z];exact J))];exact m)
  (next b3 _ w F.n g.f (λb u m e=>by rw[aI m];exact g.h b u e) aW Q) F.n λa ha=>.inl ha
def OM{f:MF2}(h:PS X st (lN (tBM X.K "list" we (tDP (Gx c X) i p) (iG (tDL (Gx c X) f) gF)))):DS c X st (oi i p f):=PS.imp h λU4 L H T=>by
 obtain⟨Hf0,H0,Hf,M,o,y,j,Q⟩:=T;obtain⟨q,I,j⟩:=a9 j;obtain⟨ds,J,j⟩:=a9 j;obtain⟨o2,g,j⟩:=di j;subst j;refine⟨Hf0,H0,Hf,M,q.1,q.2,y,I,λt v fp v1 f1 b4 H1 es N x rt F=>?_⟩
 cases B:q.1 with
 |lst os=>
  rw[B]at g F;replace g:(if os.length+ds.length<=16777216 then aa _ else ab)=aa o2:=g;split at g
  .rename_i hz;cases g;obtain⟨l,us,fs,rfl,w,C,rfl⟩:=F.r;refine⟨.inl ⟨rfl,_,SqL.of w⟩,Hf0,H0,b4,M,ds,y.step x,J,λb A b3 H2 d m G=>?_⟩;refine⟨l,b,us,A,rfl,rfl,(d.h _ _ w),m,by rw[cX,<- C.length,<- G.length];exact hz,Q L b3 _ (x.trans d).f ?_⟩;have o1:OTs _ b3 (upd H2 l (.lst (us++A))) os us fs:=C.stay w rfl ((bX.mp F.n).1) d.f λb u m e=>by rw[aI m];exact d.h b u e
   have E:=o1.append (OTs.fz G);rw[bQ]at E
   exact y.foc es N (rt.up d.f d.h) (x.trans d) (F.up d.f d.h) (λb u m hn=>by rw[aI (λz=>hn (by rw[z];exact aH))];exact m)
    ⟨l,us++A,fs,rfl,aW,E,rfl⟩ F.n λa ha=>.inl ha
  .nomatch g
 | _=>rw[B]at g;nomatch g
def ON(h:PE X e (tBM X.K "list" Dc (tDP (Gx c X) i p) (iG (tC (.int 0)) gF))):DX c X e (qr i p):=PE.imp h λL H Q q_=>by
 obtain⟨Hf0,H0,Hf,M,d,ρ',J,m,Y⟩:=q_;obtain⟨q,N,m⟩:=a9 m;obtain⟨r,j,m⟩:=di m;cases m;refine⟨Hf0,H0,Hf,M,q.1,q.2,J,N,λt v fp v1 f1 b4 H1 es T x rt F=>?_⟩
 cases I:q.1 with
 |lst os=>
  rw[I]at j F
  cases os with
  |nil=>nomatch j
  |cons o1 os=>
   cases o1 with
   |fz d=>
    cases j;obtain⟨l,us,fs,rfl,A,C,rfl⟩:=F.r;obtain⟨w,g,g1,G,rfl,E,B,rfl⟩:=C;obtain⟨rd,rfl⟩:=E;refine⟨.inl ⟨rfl,_,SqL.of A⟩,l,w::g,0,0,w,rfl,rfl,A,by decide,by decide,?_,rfl,?_⟩
    .have U:(decide ((0:Int)<=0) && decide (0<((w::g).length:Int)))=ac:=by simp
     unfold seqIndex?;rw[if_neg (show ¬(0:Int)<0 by decide),if_pos U];rfl
    .have nl:=(bX.mp F.n).1;refine Y w b4 _ x.f ?_ rd;have o1:OTs _ b4 (upd H1 l (.lst g)) os g G:=B.stay A rfl nl (aq.refl _) λb u y e=>by rw[aI y];exact e
     exact J.foc es T rt x F (λb u y hn=>by rw[aI (λz=>hn (by rw[z];exact aH))];exact y)
      ⟨l,g,G,rfl,aW,o1,rfl⟩ F.n λa ha=>.inl ha
   | _=>nomatch j
 | _=>rw[I]at j;nomatch j
def FL(hp:PS X st (iF (tD (Gx c X) fv) (vF (tDP (Gx c X) i p) (tD (Gx c X) fk) vX))):DS c X st (mm i p fk fv):=PS.imp hp λU4 L H q_=>by
 obtain⟨Hf0,H0,Hf,M,o,B,e,kq⟩:=q_;obtain⟨d,J,e⟩:=a9 e;obtain⟨q,N,e⟩:=a9 e;obtain⟨k,Q,e⟩:=a9 e;obtain⟨o2,m,e⟩:=di e;subst e;refine⟨Hf0,H0,Hf,M,d,B,J,λw b4 H1 E r1=>⟨Hf0,H0,b4,M,q.1,q.2,B.step E,N,λt v fp v1 f1 b3 H2 es Y G rt F=>⟨Hf0,H0,b3,M,k,(B.step E).step G,Q,λy x I g r3=>?_⟩⟩⟩
 cases k with
 |int n=>
  obtain⟨ds,T,m⟩:=a9 (m);obtain⟨j,U,m⟩:=di m;subst m;have A:=F.up g.f g.h;rw[qp T]at A;obtain⟨l,us,fs,rfl,ql,C,e⟩:=A.r;obtain⟨rd,rfl⟩:=C.unfz;refine⟨l,us,n,j,rfl,r3,ql,by rw[<- rd.length];exact U,kq L x _ ((E.trans G).trans g).f ?_⟩;have nf:OTs _ x (upd I l (.lst (us.set j w))) _ _ []:=OTs.fz (rd.set j (r1.up (G.f.trans g.f)))
  have:=(B.step E).foc es Y (rt.up g.f g.h) (G.trans g) A (λb u hb hn=>by rw[aI (λz=>hn (by rw[e,z];exact aH))];exact hb)
   (o2:=.lst _) ⟨l,us.set j w,[],rfl,aW,nf,rfl⟩ (by rw[<- e];exact A.n) λa ha=>.inl (by rw[e];exact ha)
  exact this
 | _=>nomatch m
def OO{a:Type}[DecidableEq a]{k:a}{ks:List a}(hz:ks.length=vs.length)(h:aQ k ks=ab):dz (ks.zip vs) k v=(ks++[k]).zip (vs++[v]):=by
 unfold dz;rw[sK,qo vs h,if_neg (by simp),zip_append hz];rfl
def FM{ks:List (List Key)}{x:O}{k:List Key}{g:LAd}{w:V}(r:OT G Hf H (.dT ks os) (.ref l) f1)(n:f1.Nodup)(a:aQ k ks=ab)(f:aq Hf Hf')(s:∀b u,b≠l->H b=aa u->H' b=aa u):
  ∃kvs,H l=aa (.dT kvs)/\kvs.length=ks.length/\cw kvs k=ab/\l∈f1/\(H' l=aa (.dT (dz kvs k w))->OT G Hf' H' x w g->OT G Hf' H' (.dT (ks++[k]) (os++[x])) (.ref l) (f1++g)):=by
 obtain⟨h,vs,fs,el,c,hz,C,rfl⟩:=r;cases el;refine⟨ks.zip vs,c,by rw[lw];lia,qo vs a,aH,λd e=>⟨l,vs++[w],fs++g,rfl,?_,by simp[hz],((C.stay c rfl (bX.mp n).1 f s).append (.one e)),rfl⟩⟩;rw[d,OO hz a]
def OP{x:O}{k:List Key}(h:o1.putNew x k=aa o2):∃ks os,o1=.dT ks os/\aQ k ks=ab/\ks.length<16777216/\o2=.dT (ks++[k]) (os++[x]):=by
 cases o1 with
 |dT ks os=>
  replace h:(if aQ k ks=ab/\ks.length<16777216 then aa _ else ab)=aa o2:=h;split at h
  .rename_i a;cases h;exact⟨ks,os,rfl,a.1,a.2,rfl⟩
  .nomatch h
 | _=>nomatch h
def OQ(hp:PS X st (wn (tDP (Gx c X) i p) (tD (Gx c X) fk) (tD (Gx c X) fv))):DS c X st (oj i p fk fv):=PS.imp hp λU4 L H q_=>by
 obtain⟨Hf0,H0,Hf,M,o,A,g,kq⟩:=q_;obtain⟨d,U,g⟩:=a9 g;obtain⟨q,Y,g⟩:=a9 g;obtain⟨y,e3,g⟩:=a9 g;obtain⟨k,e5,g⟩:=a9 g;obtain⟨o2,e4,g⟩:=di g;subst g;refine⟨Hf0,H0,Hf,M,d,A,U,λw b4 H1 B r1=>⟨Hf0,H0,b4,M,q.1,q.2,A.step B,Y,λt v fp v1 f1 b3 H2 es ev E rt F=>⟨Hf0,H0,b3,M,y,(A.step B).step E,e3,λz G T j r3=>?_⟩⟩⟩;obtain⟨ks,os,h1,hk,N,rfl⟩:=OP e4;have m:=F.up j.f j.h;rw[h1]at m;obtain⟨b,rfl,tk⟩:=qm e5 r3;obtain⟨l,vs,fs,rfl,Q,hz,C,g⟩:=id m.r;obtain⟨kvs,x,J,hv,lm,nw⟩:=FM (H':=upd T l (.dT _)) m.r m.n hk (aq.refl _) λb u I e=>by rw[aI I];exact e
 rw[Q]at x;cases x;refine⟨l,_,rfl,kj.t Q (tk.same j.s) (by rw[cX,J];exact N),kq L G _ ((B.trans E).trans j).f ?_⟩
 exact(A.step B).foc es ev (rt.up j.f j.h) (E.trans j) m (λb u I hn=>by rw[aI (λz=>hn (by rw[z];exact lm))];exact I)
  (nw aW ⟨r1.up (E.f.trans j.f),rfl⟩) (by rw[bQ];exact m.n) λa ha=>.inl (by rw[bQ]at ha;exact ha)
section
variable{prog:bY}{w:World}{K:Type}[DecidableEq K]{kn:HeapKind prog w K}{A:bW}{U4:PRS}{s:ah}
def OR{d b:Addr}{B:List (K×Addr×Value)}{k:K}{dv:Value}{Q:PRS}(i:kn.room A)(f:kn.is s.heap k b)(hm:s.heap.DictOfH kn d B)(hz:B.length<=aP)
 (m:∀q,atKey B k=aa q->Q q.2 {s with toks:=s.toks+kn.draws k})
 (h2:atKey B k=ab->∀h',h'.DictOfH kn d (storedH B k b dv)->fK d s.heap h'->Q dv {s with heap:=h',toks:=s.toks+kn.draws k}):
  wpAny (model prog w) A (dictSetDefault d (.ref b) dv) Q U4 s:=by
 obtain⟨r,l,ep,go,n,a,el,all,nd⟩:=hm;unfold dictSetDefault
 try with_reducible refine i5 ?_
 refine aj (kn.pyHash i f ?_);refine aj (wpAny_dictFind_heap i f go a el all nd (λno=>?_) λj q h=>?_)
 .have p:=not_mem_keys_of_get no;have z:=atKey_none_of_get no
  refine aj (j6 (aj (wpAny_updateDictKeys (hz:=by have e:=size_of_entries el; lia) go a (aC (h2 z _ ⟨_,_,ep + 1,mY _ go (Obj.isFreed_of_dict (Obj.data_mapDictKeys a _)),
   n.mapDictKeys _,Obj.data_mapDictKeys a _,?_,?_,?_⟩ (mZ ..))))))
  .rw[storedH_new z];simp[el,entryOfKey]
  .rw[storedH_new z];intro y c
   rcases bP.mp c with c |c
   .exact kn.keeps (all y c) go a (mZ ..)
   .rw[ci.mp c];exact kn.keeps f go a (mZ ..)
  .rw[storedH_new z,bh,fW];refine⟨nd,bX.mpr ⟨cS,eW⟩,λy c u g e=>?_⟩;rw[ci.mp g]at e;exact p ((show y=k from e)▸c)
 .refine aj (wpAny_dictEntries go a ?_);rw[entry_at el j,h];exact aj (j6 (aC (m q (atKey_of_get nd h))))
def OS(kn:HeapKind prog w K)(d b:Addr)(hd:(d==gx)=ag)(dv:Value):
  MeetsIn prog w (d8.«dict.setdefault» ⟨[.ref d,.ref b,dv],[]⟩) (λA R s=>kn.room A.in1/\∃ k B,kn.is s.heap k b/\s.heap.DictOfH kn d B/\B.length<=aP /\
   (∀q,atKey B k=aa q->R (.ok (.ret q.2)) {s with toks:=s.toks+kn.draws k}) /\
   (atKey B k=ab->∀h',h'.DictOfH kn d (storedH B k b dv)->fK d s.heap h'->R (.ok (.ret dv)) {s with heap:=h',toks:=s.toks+kn.draws k})):=
 .of_wp λA R s i=>by
  obtain⟨h,k,B,f,hm,hz,e,h2⟩:=i;refine aj ?_;refine aj (wpAny_notOrdered_dict hm.typeIs ?_);refine aC ?_;show wpAny _ _ (if _=ac then _ else _) _ _ s;rw[hd,if_neg (λz=>nomatch z)];exact aj (OR h f hm hz (λq g=>aC ⟨q.2,rfl,e q g⟩) λhn h' a c=>aC ⟨dv,rfl,h2 hn h' a c⟩)
end
variable{a:Addr}{z:V}{r:Value}{kvs:List (List Key×V)}
def OU{k:List Key}{Q:PRS}(T:A.units+1<cLine)(I:Inv X U L H s)(e:H a=aa (.dT kvs))(p:eN H b k)(Y:az z r)
 (G:∀v u h,cw kvs k=aa v->Inv X U L H h->az v u->Q u h)(h2:cw kvs k=ab->kvs.length<aP/\∀h,Inv X U L (upd H a (.dT (dz kvs k z))) h->Q r h):
  wpAny (model X.prog X.w) A (call (.builtin "dict.setdefault") [.ref a,.ref b,r]) Q U4 s:=by
 obtain⟨J,hd,B,d,m⟩:=Dj I.hok e;refine call_meetsIn Cp m.typeIs PySem.F.entry_dict_setdefault (PySem.F.args_dict_setdefault_3 _ _ _) (OS _ a b hd r) ⟨oZ T,k,B,nr I.hok p,m,by rw[<- m6 d];exact J,λq l=>?_,λhn h' i N=>?_⟩
 .have f:=d.val k;rw[l]at f
  cases hv:cw kvs k with
  |none=>rw[hv]at f;exact f.elim
  |some v=>rw[hv]at f;exact G v q.2 _ hv (I.tok _) f
 .have hv:cw kvs k=ab:=by
   have f:=d.val k;rw[hn]at f
   cases hv:cw kvs k with
   |none=>rfl
   |some v=>rw[hv]at f;exact f.elim
  obtain⟨M,l⟩:=h2 hv;obtain⟨q,es,ep,g,x,y,C,_,E⟩:=i;have j:(dz kvs k z).length<=aP:=by have:=wj kvs k z;lia
  refine l _ (wm I (by rw[e];exact gY) N ⟨q,g⟩ ⟨j,hd,_,(d.put k p Y).keeps λc ys n=>?_,q,es,ep,g,x,y,C,E⟩);rw[aI (Cv n e (λz=>nomatch z))];exact n
abbrev FN(d ty e:TE):TE:=λL H Q=>d L H λx H1=>∃a,x=.ref a/\IsD H1 a/\ty L H1 λy H2=>e L H2 λz c=>∃kvs k b,c a=aa (.dT kvs)/\y=.ref b/\eN c b k /\
 (∀v,cw kvs k=aa v->Q v c)/\(cw kvs k=ab->kvs.length<aP/\Q z (upd c a (.dT (dz kvs k z))))
variable{f:Expr}{td ty tx:TE}
def OV{o:Expr}(J:X.A.units+1<cLine)(G:PE X o td)(C:PE X e ty)(E:PE X f tx)(m:M2 X o "setdefault" apos e f cpos):PE X (.Call (.Attribute o "setdefault" apos) [e,f] [] cpos) (FN td ty tx):=by
 intro U s L H Q I h;refine wpAny_Call_method m.base m.few m.line PySem.F.plainAttrs_dict Cp PySem.F.type_dict_setdefault (thn (G U s L H _ I h) λu s1 Y=>?_);obtain⟨x,H1,j,rx,a,ex,d,M⟩:=Y;subst ex;obtain rfl:u=d9 a:=rx;obtain⟨t1,t2,_⟩:=Dn j d;refine⟨t1,t2,?_⟩;rw[m.trees];refine vd rfl (ve (iy (thn (C U s1 L H1 _ j M) λiv s2 g=>?_)));obtain⟨y,H2,q,ry,N⟩:=g;refine iy (thn (E U s2 L H2 _ q N) λfv s3 i=>vf ?_);obtain⟨z,p,r,n,kvs,k,b,w,B,tk,T,l⟩:=i;subst B;cases (ry);exact OU J r w tk n (λv u s4 hv c ru=>⟨v,p,c,ru,T v hv⟩) λhn=>⟨(l hn).1,λs4 c=>⟨z,_,c,n,(l hn).2⟩⟩
abbrev O.apdK(o:O)(k:List Key)(d:D):Option O:=match o with
 |.dT ks os=>match aQ k ks with
  |some j=>(os[j]?).bind λo1=>(o1.appd d).map λo2=>.dT ks (os.set j o2)
  |none=>if ks.length<16777216 then aa (.dT (ks++[k]) (os++[.lst [.fz d]])) else ab
 | _=>ab
abbrev om(i j:Nat)(p:Xp)(g:MF1)(M:LS):Option Fl:=(p M).bind λq=>(g M).bind λy=>(jO y).bind λk=>(ae j M).bind λd=>(q.1.apdK k d).map λo2=>.nx (M.set i (.deep (q.2 o2)))
def OW{jv:Nat}(h:PS X st (lN (tBM X.K "list" sH (FN (tDP (Gx c X) i p) (tD (Gx c X) g) (vS gF)) (iG (cB jv) gF)))):DS c X st (om i jv p g):=PS.imp h λU4 L H q_=>by
 obtain⟨Hf0,H0,Hf,M,o,Q,B,kq⟩:=q_;obtain⟨q,e1,B⟩:=a9 B;obtain⟨y,e2,B⟩:=a9 B;obtain⟨k,e3,B⟩:=a9 B;obtain⟨d,e4,B⟩:=a9 B;obtain⟨o2,m,B⟩:=di B;subst B;obtain⟨w,ew,rw0⟩:=Q.imm (Dy e4);refine⟨Hf0,H0,Hf,M,q.1,q.2,Q,e1,λt v fp v1 f1 b4 H1 es ev x rt F=>?_⟩
 cases h1:q.1 with
 |dT ks os=>
  rw[h1]at m F;obtain⟨a,vs,fs,rfl,ha,hz,C,rfl⟩:=id F.r;refine⟨a,rfl,.inr ⟨_,.inl ha⟩,Hf0,H0,b4,M,y,Q.step x,e2,λu b3 H2 E r2=>⟨b9 _,λl N=>?_⟩⟩;obtain⟨b,eb,tk⟩:=qm e3 r2;subst eb;have x3:Ext b3 H2 b3 (upd H2 l (.lst [])):=Ext.tmp E.s N;have A:=E.trans x3;have xa:=x.trans A;refine⟨ks.zip vs,k,b,(A.h _ _ ha),rfl,tk.same (E.s.trans x3.h),λv2 G=>?_,λhn=>?_⟩
  .cases I:aQ k ks with
   |none=>rw[qo vs I]at G;nomatch G
   |some j=>
    replace m:(match aQ k ks with |some j=>(os[j]?).bind λo1=>(o1.appd d).map λo2=>O.dT ks _ |none=>if ks.length<16777216 then aa _ else ab)=aa o2:=m
    rw[I]at m;obtain⟨ok,eo,m⟩:=a9 m;obtain⟨on,ea,m⟩:=di m;subst m;obtain⟨v3,f3,ev3,F4⟩:=Foc.root (W:=.dT ks) ha rfl C F.n eo λHf' H' os' fs' ha' r _=>⟨a,vs,fs',rfl,ha',hz,r,rfl⟩;rw[oh vs I,ev3]at G;cases G;have F5:=(F.trans F4).up A.f A.h;obtain⟨l2,us,el,ql,hz2,lm,next⟩:=Fv ea F5.r;subst el;refine⟨.inl ⟨rfl,_,SqL.of ql⟩,w,ew,l2,us,w,rfl,rfl,ql,by rw[cX];exact hz2,kq L b3 _ xa.f ?_⟩
    have:=Q.foc es ev (rt.up A.f A.h) xa F5 (λb u J hn=>by rw[aI (λz=>hn (by rw[z];exact lm))];exact J)
     (next b3 _ w F5.n (aq.refl _) (λb u J e=>by rw[aI J];exact e) aW (rw0.up xa.f)) F5.n λa ha=>.inl ha
    exact this
  .cases I:aQ k ks with
   |some j=>
    rw[oh vs I]at hn;have:=xN I;rw[List.getElem?_eq_none_iff]at hn
    lia
   |none=>
    replace m:(match aQ k ks with |some j=>(os[j]?).bind λo1=>(o1.appd d).map λo2=>O.dT ks _ |none=>if ks.length<16777216 then aa _ else ab)=aa o2:=m
    rw[I]at m;replace m:(if ks.length<16777216 then aa _ else ab)=aa o2:=m;split at m
    .rename_i hlt;cases m;have nal:=eO (E.h _ _ ha) N
     have lf:∀g,g∈fp->g≠l:=λg U z=>by
      have:=Q.was es ev x rt g U;subst z;exact this ((x.h.trans E.h).free N)
     have Y:upd (upd H2 l (.lst [])) a (.dT (dz (ks.zip vs) k (.ref l))) l=aa (.lst []):=by rw[aI nal.symm,aW]
     refine⟨by rw[cX,lw];lia,.inl ⟨rfl,_,SqL.of Y⟩,w,ew,l,[],w,rfl,rfl,Y,by rw[cX];exact oW _,kq L b3 _ xa.f ?_⟩;have xb:=x.trans E;have T:=F.up E.f E.h
     have keep:∀b u,b≠a->H2 b=aa u->upd (upd (upd H2 l (.lst [])) a (.dT (dz (ks.zip vs) k (.ref l)))) l (.lst ([]++[w])) b=aa u:=λb u J e=>by
      have nb:=eO e N;rw[aI nb,aI J,aI nb];exact e
     obtain⟨kvs,ql',hkv,hv,lm,nw⟩:=FM T.r T.n I (aq.refl _) keep;rw[E.h _ _ ha]at ql';cases ql';refine Q.foc es ev (rt.up E.f E.h) xb T (λb u J hn=>keep b u (λz=>hn (by rw[z];exact lm)) J) (nw (by rw[aI nal,aW]) ⟨l,[w],[],rfl,aW,OTs.one ⟨rw0.up xb.f,rfl⟩,rfl⟩) (fW.mpr ⟨T.n,bX.mpr ⟨cS,eW⟩,λg U g' hg' z=>by rw[ci.mp hg']at z;exact lf g (T.sub g U) z⟩) λg U=>?_
     rcases bP.mp U with y |y
     .exact .inl y
     .rw[ci.mp y];exact .inr ⟨xb.h.free N,xb.s.free N⟩
    .nomatch m
 | _=>rw[h1]at m;nomatch m
def xT{f:Str}{v:V}:∀{ns:LSt} {vs:LVv} {k:Nat},ns.length=vs.length->aQ f ns=aa k->cM f v (ns.zip vs)=ns.zip (vs.set k v)
 | [],_,_,_,h=>by cases h
 | _::_,[],_,hl,_=>by cases hl
 |n::ns,u::vs,k,hl,h=>by
  dsimp only[aQ]at h;rw[eI];dsimp only[cM];split at h
  .rename_i e;cases h;simp only[if_pos e,rR,eI]
  .rename_i e;rw[if_neg e]
   cases h':aQ f ns with
   |none=>rw[h']at h;cases h
   |some j=>
    rw[h']at h;cases h;simp only[oS,eI,xT (by simpa using hl) h']
def FO{f:Str}{v:V}:∀{ns:LSt} {vs:LVv},ns.length=vs.length->aQ f ns=ab->cM f v (ns.zip vs)=(ns++[f]).zip (vs++[v])
 | [],[],_,_=>rfl
 | [],_::_,hl,_=>by cases hl
 | _::_,[],hl,_=>by cases hl
 |n::ns,u::vs,hl,h=>by
  dsimp only[aQ]at h;rw[eI];dsimp only[cM];split at h
  .cases h
  .rename_i e;rw[if_neg e]
   cases h':aQ f ns with
   |none=>simp only[jX,jX,eI,FO (by simpa using hl) h']
   |some j=>rw[h']at h;nomatch h
abbrev O.setF(o:O)(cn f:Str)(x:O):Option O:=match o with
 | .ins c ns os=>if c=cn/\ns.length < 1000 then (match aQ f ns with
  |some k=>aa (.ins c ns (os.set k x))
  |none=>aa (.ins c (ns++[f]) (os++[x]))) else ab
 | _=>ab
abbrev dZ(i:Nat)(cn f:Str)(p:Xp)(g:LS->Option O)(M:LS):Option Fl:=(g M).bind λx=>(p M).bind λq=>(q.1.setF cn f x).map λo2=>.nx (M.set i (.deep (q.2 o2)))
def OTs.len{G:Gc}{Hf H:Hp}:∀{os:List O} {vs:LVv} {fs:LAd},OTs G Hf H os vs fs->os.length=vs.length
 | [],_,_,h=>by rw[h.1];rfl
 |o::os,_,_,⟨v,r,f1,f2,e,_,h2,_⟩=>by subst e;simp[OTs.len h2]
def FP{g:LS->Option O}(cn:Str)(hc:Cls X.K (c cn))(hn:cv X.K (c cn) fl)(hp:PS X st (CS X.K (tDP (Gx c X) i p) (tDZ (Gx c X) ac g) fl)):DS c X st (dZ i cn fl p g):=PS.imp hp λU4 L H q_=>by
 obtain⟨Hf0,H0,Hf,M,o,J,A,kq⟩:=q_;obtain⟨x,e1,A⟩:=a9 A;obtain⟨q,e2,A⟩:=a9 A;obtain⟨o2,j,A⟩:=di A;subst A;refine⟨Hf0,H0,Hf,M,x,J,e1,λu gp b4 H1 x1 rx l=>⟨Hf0,H0,b4,M,q.1,q.2,J.step x1,e2,λt v fp v1 f1 b3 H2 es T Q rt F=>?_⟩⟩;have m:=x1.trans Q
 have hg:∀b∈gp,H b=ab/\b3 b=ab:=λb d=>by
  refine⟨(l.2 b d).1,?_⟩;obtain⟨w,hw,ht⟩:=OT.memM x u gp rx b d;rw[Q.n b w hw ht];exact(l.2 b d).2
 have ng:=λb d hf=>(J.was es T m rt) b hf (hg b d).1
 cases h1:q.1 with
 |ins c' ns os=>
  rw[h1]at j F;replace j:(if c'=cn/\ns.length<1000 then _ else ab)=aa o2:=j;split at j
  .rename_i hcc;obtain⟨rfl,hlt⟩:=hcc;obtain⟨a,dx,vs,fs,rfl,ha,hz,C,rfl⟩:=id F.r;obtain⟨N,G⟩:=bX.mp F.n;have B:=λz=>ng a z (F.sub a aH);refine⟨a,_,dx,ns.zip vs,rfl,ha,hc,hn,by rw[lw];lia,kq L b3 _ m.f ?_⟩;have keep:∀b w,b≠a->H2 b=aa w->upd H2 a (.ins (c c') dx (cM fl u (ns.zip vs))) b=aa w:=λb w d e=>by rw[aI d];exact e
   have I:=(rx.up Q.f Q.h).frame (aq.refl _) λb w d hm=>keep b w (λz=>by
    subst z;rw[ha]at d;cases d
    rcases hm with hm |hm
    .nomatch hm
    .exact B hm) d
   have kk:∀b w,H2 b=aa w->b∉a::fs->upd H2 a _ b=aa w:=λb w d hn=>keep b w (λz=>hn (by rw[z];exact aH)) d
   cases E:aQ fl ns with
   |some k=>
    rw[E]at j;cases j;have hkl:k<os.length:=by rw[C.len,<- hz];exact xN E
    obtain⟨vk,fk,evk,_,_,sb,bk⟩:=C.foc G (cr hkl)
    obtain ⟨U,r',m',n'⟩:=bk b3 _ x u gp (aq.refl _) (λb w d hm _=>keep b w (λz=>by
     subst z;rw[ha]at d;cases d
     rcases hm with hm |hm
     .nomatch hm
     .exact N hm) d) I
    refine J.foc es T rt m F kk ⟨a,dx,vs.set k u,U,rfl,by rw[aW,xT hz E],by simp[hz],r',rfl⟩ (bX.mpr ⟨λz=>?_,n' l.1 λb d hf=>absurd (F.sub b (bj _ hf)) (ng b d)⟩) λb d=>?_
    .rcases m' a z with y |⟨y,_⟩
     .exact B y
     .exact N y
    .rcases bm.mp d with z |z
     .rw[z];exact .inl aH
     .rcases m' b z with y |⟨y,_⟩
      .exact .inr (hg b y)
      .exact .inl (bj _ y)
   |none=>
    rw[E]at j;cases j;refine J.foc es T rt m F kk ⟨a,dx,vs++[u],fs++gp,rfl,by rw[aW,FO hz E],by simp[hz],((C.stay ha rfl N (aq.refl _) keep).append (.one I)),rfl⟩ (bX.mpr ⟨λz=>?_,fW.mpr ⟨G,l.1,λb d b' Y z=>by subst z;exact ng b Y (F.sub b (bj _ d))⟩⟩) λb d=>?_
    .rcases bP.mp z with y |y
     .exact N y
     .exact B y
    .rcases bm.mp d with z |z
     .rw[z];exact .inl aH
     .rcases bP.mp z with y |y
      .exact .inl (bj _ y)
      .exact .inr (hg b y)
  .nomatch j
 | _=>rw[h1]at j;nomatch j
nonrec def MTf:=Addr->LD->O->Option (O×D)
abbrev gM(G:Gc)(n:Nat)(m:MTf):Sp:=λvs H Q _=>∃Hf ds o o' d l fp b,vs=.ref l::b/\aq Hf H/\OT G Hf H o (.ref l) fp/\fp.Nodup/\(∀a∈fp,Hf a=ab)/\ao G Hf ds b/\1+ds.length=n/\m l ds o=aa (o',d) /\
 ∀v Hf' H' fp',Ext Hf (gf H fp) Hf' H'->OT G Hf' H' o' (.ref l) fp'->fp'.Nodup->(∀a∈fp',gf H fp a=ab/\Hf' a=ab)->Rep G Hf' d v->Q v H'
abbrev tT(N:Nat)(l:Addr)(ds:LD)(o:O):LS:=(fq N (.non::ds)).set 0 (.deep (.at l o))
open Classical in
abbrev mn(l:Addr)(M:LS):Option O:=match (M[0]?:Option Sl)with
 |some (Sl.deep (.at l' o))=>if l'=l then aa o else ab
 | _=>ab
def OX{o:O}(h:mn l M=aa o):M[0]?=aa (.deep (.at l o)):=by
 unfold mn at h
 grind
def FQ{o:O}(h:M[0]?=aa (.deep (.at l o))):mn l M=aa o:=by
 unfold mn;rw[h];exact if_pos rfl
abbrev dQ(N:Nat)(F:MF3):MTf:=λl ds o=>(F (tT N l ds o)).bind λr=>match r with
 |.nx M=>(mn l M).map λo'=>(o',.non)
 |.rtS d M=>(mn l M).map λo'=>(o',d)
 | _=>ab
def ar.startMT{o:O}{b:LVv}(f:aq Hf H)(e:OT G Hf H o (.ref l) fp)(n:fp.Nodup)(c:∀a∈fp,Hf a=ab)(r:ao G Hf ds b):
  ar G Hf (gf H fp) Hf H (L2.start N (.ref l::b)) (tT N.length l ds o):=by
 exact(ar.start (Fy f c) (.cons (d:=.non) rfl r)).setNew (i:=0) (Ext.grow (Fy f c) Oo) ⟨.ref l,fp,rfl,⟨rfl,e⟩,n,λa ha=>⟨xI ha,c a ha⟩⟩ λa p=>by
  obtain⟨fp',g,ha⟩:=p;have:=OT.funM o _ fp fp' e g.2;subst this;exact xI ha
variable{f:Addr}
def fR{k:Nat}{F:MF3}(C:Fun K x qual st f fd)(S:aA N ps (av st))
 (h:∀(cdv:Value) (A:bW) (outer:List Env) (s:ah) (H:Hp) (U4:XK),bo k (A.deeper (fH qual (av st) s.heap.objs.size f cdv))->DSs c (g4 CX0 P w K mg base N qual (av st) f cdv A outer s H U4).nox (fh st) F)(i:N.length=n_:=by rfl):
  b8 P w K mg base CX0 (k+1) f fd ps (gM ⟨K,c⟩ ps.length (dQ n_ F)):=by
 subst i;refine C.ok S (λvs H Q U4 j=>by obtain⟨Hf,ds,o,o',d,l,fp,p,g,B,y,n,q,r,hn,_⟩:=j;rw[g,bO,<- r.length];lia) λcdv A outer s H vs Q U4 hr j=>?_;obtain⟨Hf,ds,o,o',d,l,fp,p,g,B,y,n,q,r,hn,e,G⟩:=j;refine⟨_,h cdv A outer s H U4 hr,?_⟩;subst g;unfold dQ at e
 cases b:F _ with
 |none=>rw[b]at e;nomatch e
 |some z=>
  rw[b,ay]at e;refine⟨Hf,gf H fp,Hf,_,z,ar.startMT B y n q r,b,?_⟩
  have fin:∀M d',(mn l M).map (λo'=>(o',d'))=aa (o',d)->∀v σ' Hf' H',ar ⟨K,c⟩ Hf _ Hf' H' σ' M->Rep ⟨K,c⟩ Hf' d' v->Q v H':=λM d' e v σ' Hf' H' a m=>by
   obtain⟨t,E,e⟩:=di e;cases e;obtain⟨u,L,U,fp',T,rt,I,J⟩:=a.slot (OX E);cases rt.1;exact G v Hf' H' fp' a.ext rt.2 I J m
  cases z with
  |nx M=>exact λσ' Hf' H' _ a=>fin M .non e .non σ' Hf' H' a rfl
  |rtS d' M=>exact λv σ' Hf' H' a m=>fin M d' e v σ' Hf' H' a m
  | _=>nomatch e
def ar.treeBack{o o':O}{fp':LAd}(n:ar G Hf0 H0 Hf H L M)(es:M[i]?=aa (.deep o))(e:L[i]?=aa (aa v))(r:OT G Hf H o v fp)(x:Ext Hf (gf H fp) Hf' H')(f:OT G Hf' H' o' v fp')(l:fp'.Nodup)(d:∀a∈fp',gf H fp a=ab/\Hf' a=ab):ar G Hf0 H0 Hf' H' L (M.set i (.deep o')):=by
 have s1 : ar G Hf0 H0 Hf (gf H fp) L (M.set i .no):=n.chg es e (λb y j=>by
  by_cases c:b∈fp
  .exact .inl ⟨fp,r,c⟩
  .exact .inr (by rw[tP c];exact j)) trivial λa p=>(p.calm rfl).elim
 have s2:=s1.setNew (i:=i) (s:=.deep o') x ⟨v,fp',rfl,f,l,λa ha=>⟨s1.ext.h.free (d a ha).1,(d a ha).2⟩⟩ λa p=>by
  obtain⟨g,m,ha⟩:=p;have:=OT.funM o' v fp' g f m;subst this;exact(d a ha).1
 rw[ml e,set_set]at s2;exact s2
abbrev O.isIns(cn fl:Str):O->Bool
 |.ins c ns _=>decide (c=cn) && !ns.contains fl
 | _=>ag
def xU{cn fl:Str}{o:O}(h:o.isIns cn fl=ac):∃ns os,o=.ins cn ns os/\ns.contains fl=ag:=by
 cases o with
 |ins c ns os=>
  replace h:(decide _ && !ns.contains fl)=ac:=h
  simp_all
 | _=>nomatch h
abbrev cq(i:Nat)(cn fl:Str)(m:MTf)(f:Xa):Xe:=λM=>match M[i]? with
 |some (.deep (.at _ o0))=>if o0.isIns cn fl then (f M).bind λp=>match p.2[i]? with
  |some (.deep (.at l o))=>(m l p.1 o).map λq=>(q.2,p.2.set i (.deep (.at l q.1)))
  | _=>ab else ab
 | _=>ab
open Classical in
abbrev jg(i:Nat)(cn fl:Str)(m:MTf)(f:Xa):Xe:=λM=>match M[i]? with
 |some (.deep o0)=>if o0.isIns cn fl then (f M).bind λp=>match p.2[i]? with
  |some (.deep (.ins c' ns os))=>if h:∃q,∀l,m l p.1 (.ins c' ns os)=aa q then aa (h.choose.2,p.2.set i (.deep h.choose.1)) else ab
  | _=>ab else ab
 | _=>ab
variable{fa:Xa}{m:MTf}{Q:VK}{t:TA}
def FR(cn:Str)(ht:∀L H Q,qi (Gx c X) fa L H Q->t L H Q)(hn:∀M ds ρ',fa M=aa (ds,ρ')->1+ds.length=ps.length)(q_:tDX (Gx c X) (cq i cn fl m fa) L H Q):sF (c cn) fl (gM (Gx c X) ps.length m) [] E0 (cB i) t L H Q:=by
 obtain⟨Hf0,H0,Hf,M,d,ρ',st,b,kq⟩:=q_;unfold cq at b;split at b
 .rename_i G o0 p;split at b
  .rename_i hi;obtain⟨ns,os,rfl,y⟩:=xU hi;obtain⟨pp,B,b⟩:=a9 b;obtain⟨ds,ρ1⟩:=pp;split at b
   .rename_i l o1 e;obtain⟨q,N,b⟩:=di b;cases b;obtain⟨u,x,u',fp,T,rt,n,z⟩:=st.slot p;subst T;obtain⟨el,a,dx,vs,fs,Y,ha,hz,C,efp⟩:=rt;subst el;cases Y;refine⟨_,x,G,dx,ns.zip vs,rfl,ha,nO y,ht _ _ _ ⟨Hf0,H0,Hf,M,ds,ρ1,st,B,λus Hf' H' f1 st1 r=>?_⟩⟩;rw[bQ];obtain⟨w,E,w',gp,U,A,n1,z1⟩:=st1.slot e;subst U;rw[x]at E;cases E;obtain⟨j,g⟩:=A;cases j;exact⟨Hf',ds,o1,q.1,q.2,G,gp,us,rfl,st1.sub,g,n1,λa ha=>(z1 a ha).2,r,hn _ _ _ B,N,λv h J fp3 I r3 n3 z3 rv=>kq v h J (f1.trans I.f) (st1.treeBack e x ⟨rfl,g⟩ I ⟨rfl,r3⟩ n3 z3) rv⟩
   .nomatch b
  .nomatch b
 .nomatch b
def OY(cn:Str)(ht:∀L H Q,qi (Gx c X) fa L H Q->t L H Q)(hn:∀M ds ρ',fa M=aa (ds,ρ')->1+ds.length=ps.length)(q_:tDX (Gx c X) (jg i cn fl m fa) L H Q):sF (c cn) fl (gM (Gx c X) ps.length m) [] E0 (cB i) t L H Q:=by
 obtain⟨Hf0,H0,Hf,M,d,ρ',st,b,kq⟩:=q_;unfold jg at b;split at b
 .rename_i o0 j;split at b
  .rename_i hi;obtain⟨ns,os,rfl,p⟩:=xU hi;obtain⟨pp,A,b⟩:=a9 b;obtain⟨ds,ρ1⟩:=pp;split at b
   .rename_i N x y e;split at b
    .rename_i G;have B:=G.choose_spec;generalize G.choose=q at b B;cases b;obtain⟨u,l,u',fp,T,rt,n,z⟩:=st.slot j;subst T;obtain⟨a,dx,vs,fs,Y,ha,hz,C,efp⟩:=rt;subst Y;refine⟨_,l,a,dx,ns.zip vs,rfl,ha,nO p,ht _ _ _ ⟨Hf0,H0,Hf,M,ds,ρ1,st,A,λus Hf' H' f1 st1 r=>?_⟩⟩;rw[bQ];obtain⟨w,E,w',gp,U,g,n1,z1⟩:=st1.slot e;subst U;rw[l]at E;cases E;exact⟨Hf',ds,.ins N x y,q.1,q.2,a,gp,us,rfl,st1.sub,g,n1,λa ha=>(z1 a ha).2,r,hn _ _ _ A,B a,λv h J fp3 I r3 n3 z3 rv=>kq v h J (f1.trans I.f) (st1.treeBack e l g I r3 n3 z3) rv⟩
    .grind
   .grind
  .grind
 .grind
def FS{k:Nat}{o:Expr}(cn:Str)(l:PE X o (cB i))(pk:Pm X.prog X.w X.K X.mg X.base CX0 k (c cn) fl (f,fd) ps (gM (Gx c X) ps.length m))(g:bo k0 X.A)(ha:DAX c X (e::es) fa)(q:(e::es).length+1=ps.length:=by rfl)(j:StE X e es:=by rfl)(d:BkE X pos es:=by rfl)(n:eval (.Call (.Attribute o fl apos) (e::es) [] pos) X.env=(do
   let ov <- eval o X.env
   fZ apos.atName
   let (f,first) <- d7 [ov] (gy ov fl pl)
   i6 pos f first (bZ pos (aL (e::es) X.env)) (gV pos (gU [] X.env))):=by rfl)(a:k<=k0:=by decide):
  DX c X (.Call (.Attribute o fl apos) (e::es) [] pos) (cq i cn fl m fa):=PE.imp (vU l pk.c pk.m pk.ok (g.mono a) pk.b .nil fL ha.pa j d n) λL H Q p=>FR cn (λ_ _ _ h=>h) (λM ds ρ' h=>by have:=ha.len M ds ρ' h;lia) p
def OZ{k:Nat}{o:Expr}(cn:Str)(l:PE X o (cB i))(pk:Pm X.prog X.w X.K X.mg X.base CX0 k (c cn) fl (f,fd) ps (gM (Gx c X) ps.length m))(d:bo k0 X.A)(j:1=ps.length:=by rfl)(n:eval (.Call (.Attribute o fl apos) [] [] pos) X.env=(do
   let ov <- eval o X.env
   fZ apos.atName
   let (f,first) <- d7 [ov] (gy ov fl pl)
   i6 pos f first (bZ pos (aL [] X.env)) (gV pos (gU [] X.env))):=by rfl)(a:k<=k0:=by decide):
  DX c X (.Call (.Attribute o fl apos) [] [] pos) (cq i cn fl m cf):=PE.imp (vV l pk.c pk.m pk.ok (d.mono a) pk.b .nil fL n) λL H Q e=>FR cn (λL H Q e=>by obtain⟨Hf0,H0,Hf,M,ds,ρ',st,g,k⟩:=e;cases g;exact k [] Hf H (aq.refl _) st rfl) (λM ds ρ' h=>by cases h;exact j) e
def FT{k:Nat}{o:Expr}(cn:Str)(l:PE X o (cB i))(pk:Pm X.prog X.w X.K X.mg X.base CX0 k (c cn) fl (f,fd) ps (gM (Gx c X) ps.length m))(d:bo k0 X.A)(j:1=ps.length:=by rfl)(n:eval (.Call (.Attribute o fl apos) [] [] pos) X.env=(do
   let ov <- eval o X.env
   fZ apos.atName
   let (f,first) <- d7 [ov] (gy ov fl pl)
   i6 pos f first (bZ pos (aL [] X.env)) (gV pos (gU [] X.env))):=by rfl)(a:k<=k0:=by decide):
  DX c X (.Call (.Attribute o fl apos) [] [] pos) (jg i cn fl m cf):=PE.imp (vV l pk.c pk.m pk.ok (d.mono a) pk.b .nil fL n) λL H Q e=>OY cn (λL H Q e=>by obtain⟨Hf0,H0,Hf,M,ds,ρ',st,g,k⟩:=e;cases g;exact k [] Hf H (aq.refl _) st rfl) (λM ds ρ' h=>by cases h;exact j) e
open Classical in
abbrev mo(cn:Str)(m:MTf)(fa:MF2)(M:LS):Option O:=(fa M).bind λds=>if h:∃o,∀l,m l ds (.ins cn [] [])=aa (o,.non) then aa h.choose else ab
variable{bb:Bool}{fa:MF2}
def O0{cn:Str}(hC:U5=G.cl cn)(E:∀L H Q,tDA G fa L H Q->t L H Q)(hn:∀M ds,fa M=aa ds->1+ds.length=ps.length)(T:tDZ G bb (mo cn m fa) L H Q):CV U5 (gM G ps.length m) [] E0 t L H Q:=by
 obtain⟨Hf0,H0,Hf,M,o,st,c,J⟩:=T;obtain⟨ds,x,c⟩:=a9 c;split at c
 .rename_i B;have A:=B.choose_spec;generalize B.choose=o' at c A;cases c;refine E _ _ _ ⟨Hf0,H0,Hf,M,ds,st,x,λvs b4 H1 d r y dx p i j=>?_⟩;rw[bQ];subst hC;have I:(upd H1 dx (.own y)) y=ab:=by rw[aI j.symm];exact p
  have s1:aq H1 (upd H1 dx (.own y)):=bG i;have s2:=s1.trans (bG (o:=.ins (G.cl cn) dx []) I)
  have w:aq H1 (gf _ [y]):=λb u q=>by
   rw[tP (λz=>eO q p (ci.mp z))];exact s2 b u q
  refine⟨b4,ds,.ins cn [] [],o,.non,y,[y],vs,rfl,d.s.trans s2,⟨y,dx,[],[],rfl,aW,rfl,⟨rfl,rfl⟩,rfl⟩,bX.mpr ⟨cS,eW⟩,λa ha=>by rw[ci.mp ha];exact d.s.free p,r,hn M ds x,A y,λv b3 H2 g e U N C Y=>⟨Y,?_⟩⟩;have x3:Ext b4 H1 b3 H2:=⟨e.f,w.trans e.h,e.s,λl u q t=>e.n l u (w l u q) t⟩;exact J _ g b3 H2 (d.trans x3) U ⟨N,λa ha=>⟨xH st.ext.h (d.h.free (w.free (C a ha).1)),(C a ha).2⟩⟩
 .nomatch c
variable{p:Pos}
def O1{k:Nat}(cn:Str)(d:Mk X.K (c cn) f)(F:b8 X.prog X.w X.K X.mg X.base CX0 k f fd ps (gM (Gx c X) ps.length m))(hr:bo (k+1) X.A)(j:Gl X x)(hm:X.mg x=aa (.ref (c cn)))(g:dw X.K fd ps [])(ha:DA c X (e::es) fa)
 (n:(e::es).length+1=ps.length:=by rfl)(a:NDb x:=by decide)(i:StE X e es:=by rfl)(b:BkE X pos es:=by rfl):
  DZ c X bb (.Call (.Name x p) (e::es) [] pos) (mo cn m fa):=PE.imp (CW d F hr j hm g .nil fL ha.pa a i b) λL H Q l=>O0 rfl (λ_ _ _ h=>h) (λM ds h=>by have:=ha.len M ds h;lia) l
def hu1{u:Nat}(h:u+64<cLine):u+1<cLine:=ly (Nat.add_le_add_left (by decide) u) h
def FU{f:MF2}(h:DL c X e f):DIe c X tg e f:=PI.imp (vJ h) λL H R d=>by
 obtain⟨Hf0,H0,Hf,M,ds,st,b,k⟩:=d;exact⟨Hf0,H0,Hf,M,ds,st,b,λl vs Hf' H' x a r=>⟨l,rfl,⟨vs,SqL.of a⟩,k _ Hf' H' x (Ej (SqL.of a) r)⟩⟩
abbrev tU(f:MF2)(M:LS):OLD:=(f M).map (hV 0)
variable{a:Expr}
def O2{f:MF2}(J:Gl X "enumerate")(hm:X.mg "enumerate"=ab)(ha:DL c X a f)(w:aL [a] X.env=[(ag,eval a X.env)]:=by rfl):
  DIe c X (.Tuple elts kx hO) (.Call (.Name "enumerate" p) [a] [] pos) (tU f):=PI.imp (EE J hm (eA ha dM w) w) λL H R N=>by
 obtain⟨Hf0,H0,Hf,M,ds,st,g,k⟩:=N;obtain⟨B,A,g⟩:=di g;subst g;refine⟨Hf0,H0,Hf,M,B,st,A,λl vs Hf' H' x q r=>⟨l,rfl,⟨vs,SqL.of q⟩,k _ Hf' H' x λb3 H2 e i=>?_⟩⟩;have j:SqL X.K H2 l vs:=SqL.of (e.h _ _ q);have h1:=r.length;refine⟨λd b=>?_,λE=>⟨vs,j,by rw[wZ]at E;lia⟩⟩;rw[w5]at b;obtain⟨y,G,b⟩:=di b;subst b;obtain⟨u,n,Q⟩:=r.get G;refine⟨⟨vs,u,j,n⟩,λz Y U=>?_⟩;obtain⟨pp,z1,I,v,C,T⟩:=U;subst I C;have m:=T vs j;rw[n]at m;cases m;exact⟨upd b3 pp _,Ext.new e.s v,pp,_,rfl,aW,.cons (by rw[mP];rfl) (.cons (Q.up (e.f.trans (bG (e.s.free v)))) .nil)⟩
def O3:DZ c X bb (.Dict [] [] pos) (λ_=>aa (.dT [] [])):=PE.imp K3 λL H Q d=>by
 obtain⟨Hf0,H0,Hf,M,o,st,b,k⟩:=d;cases b;intro l a;exact k _ [l] Hf _ (Ext.tmp st.sub a) ⟨l,[],[],rfl,aW,rfl,⟨rfl,rfl⟩,rfl⟩ (.one (xH st.ext.h a) (st.sub.free a))
end L2
namespace HT
open List
open PySem PyProof.Rows
open PySem.SeqAt
open PySem.AutoSeq1 (wpAny_loadPart')
open PySem.MeetsSeq PySem.MeetsSeq2 PySem.MeetsSeq3
def O4(l:Addr)(E:Array Value)(n:Nat)(x:Value)(f:Value->Bool)(j:Nat)(p:j<E.size)(q:f E[j]=ac)(hz:E.size<=aP)(k:Nat):
  ∀i:Nat,j-i=k->i<=j->(∀m (hm:m<E.size),i<=m->m<j->f E[m]=ag)->Meets (d8.«list.remove.loop» ⟨[.ref l,x,b6 i],[]⟩)
   (λA R s=>s.heap.get? l=aa {cls:=.type "list",dict:=ab,data:=.seq E n,slots:=#[]}/\(∀y,y∈E->EqAt A.in1 s y x (f y))/\R (.ok (.ret .none)) {s with heap:=s.heap.update l (gB λB=>B.eraseIdxIfInBounds j)}):=by
 induction k with
 |zero=>
  intro i r e b prog w A R s h;obtain⟨c,d,h⟩:=h;obtain rfl:i=j:=by lia
  wp_walk using rW c
  rw[show E[(_:Int).toNat]?=aa E[i] by simp[p]];refine aj (d _ (Array.getElem_mem p) prog w _ _ ?_);have g:(E.eraseIdxIfInBounds i).size<=aP+1:=cy (size_erased E _) (Nat.le_succ_of_le hz)
  wp_walk using (rZ c rfl (_hz':=g)),rW c
  exact h
 |succ k u=>
  intro i r e b prog w A R s h;obtain⟨c,d,h⟩:=h;have a:i<E.size:=by lia
  wp_walk using rW c
  rw[show E[((i:Nat):Int).toNat]?=aa E[i] by simp[a]];refine aj (d _ (Array.getElem_mem a) prog w _ _ ?_);rw[b i a (aM _) (by lia)]
  wp_walk
  exact ⟨lB plain_remove_loop _,jy entry_remove_loop (by
   exact u (i+1) (by lia) (by lia) (λm hm v h2=>b m hm (by lia) h2) prog w A R _ ⟨c,d,h⟩)⟩
def remAt(l:Addr)(E:Array Value)(n:Nat)(x:Value)(f:Value->Bool)(j:Nat)(e:j<E.size)(a:f E[j]=ac)(b:∀m (hm:m<E.size),m<j->f E[m]=ag)(hz:E.size<=aP):Meets (d8.«list.remove» ⟨[.ref l,x],[]⟩)
   (λA R s=>s.heap.get? l=aa {cls:=.type "list",dict:=ab,data:=.seq E n,slots:=#[]}/\(∀y,y∈E->EqAt A.in1 s y x (f y))/\R (.ok (.ret .none)) {s with heap:=s.heap.update l (gB λB=>B.eraseIdxIfInBounds j)}):=by
 intro prog w A R s h;obtain⟨c,d,h⟩:=h
 wp_walk using rW c
 exact ⟨lB plain_remove_loop _,jy entry_remove_loop (by
  exact O4 l E n x f j e a hz _ 0 rfl (b9 _) (λm hm _ h2=>b m hm h2) prog w A R _ ⟨c,d,h⟩)⟩
end HT
namespace L2
open List
open PySem PySem.Spec PyProof.Rows
abbrev FV(G:Gc):V->LVv->Hp->VK->Prop:=λa vs H Q=>∃Hf l us ds x w,a=.ref l/\vs=[w]/\aq Hf H/\H l=aa (.lst us)/\ao G Hf ds us/\Rep G Hf x w/\cU x ds=aa ac/\Q .non (upd H l (.lst (us.eraseIdx (ds.findIdx (isE x)))))
abbrev O.remd(x:D)(o:O):Option O:=o.items.bind λds=>if cU x ds=aa ac then aa (.lst ((ds.eraseIdx (ds.findIdx (isE x))).map .fz)) else ab
abbrev oq(i:Nat)(p:Xp)(f:MF1)(M:LS):Option Fl:=(p M).bind λq=>(f M).bind λd=>(q.1.remd d).map λo2=>.nx (M.set i (.deep (q.2 o2)))
variable{c:Str->Addr}{X:Cx}
def O5(hu:X.A.units+64<cLine):MtM X "list.remove" (FV (Gx c X)):=by
 rintro U s L H x B v us Q I rx rv ⟨Hf,l,vs,ds,z,w,rfl,rfl,G,q,C,r2,a,k⟩;subst rx;obtain⟨u,rfl,ru⟩:=rv.one;obtain⟨z1,E,n,j,N,e0⟩:=I.lstM q;obtain⟨f,J,ha⟩:=p8 (A:=X.A.in1) I (by rw[pc];lia) (r2.up G) ru (C.up G) j a;obtain⟨k1,k2⟩:=xK a
 have same:∀m _,f E[m]=isE z (ds.getD m .non):=λm hm=>by
  have i:m<ds.length:=by rw[C.length,N];exact hm
  obtain⟨v1,g,r⟩:=C.get (cr i);obtain⟨u1,b,ru1⟩:=j.get g;rw[cr hm]at b;cases b;obtain⟨_,d',v',r',p,h'⟩:=J E[m] (jq hm);have Y:=az.inj p ru1;subst Y;obtain⟨T,d⟩:=k1 ds[m] (jq i);rw[cg,cr i];show _=isE z ds[m];unfold isE;rw[d,(p7 19 r' (r.up G) h' d)]
  cases T <;> rfl
 have M:=uX (any_eq_true.mp k2);have e:ds.findIdx (isE z)<E.length:=by rw[<- N,<- C.length];exact M
 refine call_meets F.slot_list_remove ⟨_,e0,rfl⟩ F.entry_list_remove (F.args_list_remove_2 _ _) (HT.remAt l E.toArray n u f _ (by rw[size_toArray];exact e) ?_ ?_ (by rw[size_toArray];lia)) ⟨e0,λy hy=>(J y (by simpa using hy)).1,?_⟩
 .rw[rK,same _ e,cg,cr M];exact findIdx_getElem
 .intro m hm h;rw[rK,same m (by rw[size_toArray]at hm;exact hm),cg,cr _];have:=not_of_lt_findIdx h;exact this
 .refine⟨.non,_,I.lset q e0 ?_ (j.eraseIdx _) ?_,rfl,k⟩
  .show E.toArray.eraseIdxIfInBounds _=(E.eraseIdx _).toArray;rw[eraseIdxIfInBounds_toArray]
  .have:=wa vs (ds.findIdx (isE z))
   lia
variable{st:Stmt}{i:Nat}{p:Xp}
def O6{f:MF1}(h:PS X st (lN (tBM X.K "list" (FV (Gx c X)) (tDP (Gx c X) i p) (iG (tD (Gx c X) f) gF)))):DS c X st (oq i p f):=PS.imp h λU4 L H q_=>by
 obtain⟨Hf0,H0,Hf,M,o,E,g,kq⟩:=q_;obtain⟨q,N,g⟩:=a9 g;obtain⟨d,Q,g⟩:=a9 g;obtain⟨o2,y,g⟩:=di g;subst g;obtain⟨ds,T,y⟩:=a9 (y);split at y
 .rename_i A;cases y;refine⟨Hf0,H0,Hf,M,q.1,q.2,E,N,λt v fp v1 f1 B H1 es U x rt F=>?_⟩;have J:=F.r;rw[qp T]at J;obtain⟨l,us,fs,rfl,I,C,j⟩:=J;obtain⟨rd,rfl⟩:=C.unfz;refine⟨.inl ⟨rfl,_,SqL.of I⟩,Hf0,H0,B,M,d,E.step x,Q,λw m H2 e r2=>?_⟩;refine⟨m,l,us,ds,d,w,rfl,rfl,e.s,e.h _ _ I,rd.up e.f,r2,A,kq L m _ (x.trans e).f ?_⟩;have G:=F.up e.f e.h
  have:=E.foc es U (rt.up e.f e.h) (x.trans e) G (λb u Y hn=>by rw[aI (λz=>hn (by rw[j,z];exact aH))];exact Y)
   (o2:=.lst ((ds.eraseIdx (ds.findIdx (isE d))).map .fz)) ⟨l,_,[],rfl,aW,OTs.fz ((rd.up e.f).erase _),rfl⟩ (by rw[<- j];exact G.n) λa ha=>.inl (by rw[j];exact ha)
  exact this
 .nomatch y
abbrev gN(cn f:Str)(m:LD->OLD)(fo:MF1)(fa:MF2)(M:LS):OLD:=(fo M).bind λd=>match d with
 |.ins a ns ds=>if a=cn/\ns.contains f=ag then (fa M).bind λb=>(m (.ins a ns ds::b)).bind λC=>if C.all D.flat then aa C else ab else ab
 | _=>ab
abbrev FW:Fl->Option (LD ⊕ D)
 |.rtO ds=>aa (.inl ds)
 |.rt d=>if d.scalar then aa (.inr d) else ab
 | _=>ab
abbrev xV(n:Nat)(F:MF3)(ds:LD):Option (LD ⊕ D):=(F (fq n ds)).bind FW
abbrev spN(G:Gc)(n:Nat)(m:LD->Option (LD ⊕ D)):Sp:=λvs H Q _=>∃Hf ds r,aq Hf H/\ao G Hf ds vs/\ds.length=n/\m ds=aa r/\(∀C,r=.inl C->∀l us Hf' H',Ext Hf H Hf' H'->H l=ab->Hf' l=ab->H' l=aa (.lst us)->ao G Hf' C us->Q (.ref l) H') /\
 ∀d,r=.inr d->d.scalar=ac/\∀v Hf' H',Ext Hf H Hf' H'->Rep G Hf' d v->Q v H'
variable{P:bY}{w:World}{K:aO}{mg:MGT}{base:Heap}{n_:Nat}{x qual:Str}{f:Addr}{fd:cz}{N ps:LSt}
def O7{k:Nat}{F:MF3}(j:Fun K x qual st f fd)(S:aA N ps (av st))
 (h:∀(cdv:Value) (A:bW) (outer:List Env) (s:ah) (H:Hp) (U4:XK),bo k (A.deeper (fH qual (av st) s.heap.objs.size f cdv))->DSs c (g4 CX0 P w K mg base N qual (av st) f cdv A outer s H U4).nox (fh st) F)(a:N.length=n_:=by rfl):
  b8 P w K mg base CX0 (k+1) f fd ps (spN ⟨K,c⟩ ps.length (xV n_ F)):=by
 subst a;refine j.ok S (λvs H Q U4 b=>by obtain⟨Hf,ds,d,i,r,g,_⟩:=b;rw[<- r.length];exact g) λcdv A outer s H vs Q U4 hr b=>?_;obtain⟨Hf,ds,r,i,rd,g,e,m,n⟩:=b;refine⟨_,h cdv A outer s H U4 hr,?_⟩;obtain⟨o,l,e⟩:=a9 e;refine⟨Hf,H,Hf,_,o,ar.start i rd,l,?_⟩
 cases o with
 |rtO C=>cases e;exact m C rfl
 |rt d=>
  replace e:(if d.scalar then aa _ else ab)=aa r:=e;split at e
  .cases e;exact(n d rfl).2
  .nomatch e
 | _=>nomatch e
abbrev ot(m:LD->Option (LD ⊕ D))(f:MF2)(M:LS):OD:=(f M).bind λds=>(m ds).bind λr=>match r with
 |.inl C=>if C.all D.flat then aa (.lst C) else ab
 |.inr d=>if d.scalar then aa d else ab
variable{e:Expr}{es:LEx}{p pos:Pos}{fa:MF2}{k0:Nat}
def O8{k:Nat}{m:LD->Option (LD ⊕ D)}(pk:Pk X.prog X.w X.K X.mg X.base CX0 k x (f,fd) ps (spN (Gx c X) ps.length m))(J:bo k0 X.A)(ha:DAB c X (e::es) fa)(hl:(e::es).length=ps.length:=by rfl)(E:NDb x:=by decide)(he:StE X e es:=by rfl)(I:BkE X pos es:=by rfl)(G:k<=k0:=by decide)(hg:Gl X x:=by first |rfl |exact glc rfl):
  DE c X (.Call (.Name x p) (e::es) [] pos) (ot m fa):=PE.imp (ni pk.ok (J.mono G) hg pk.g pk.kp pk.b .nil fL ha.pa E he I) λL H Q q_=>by
 obtain⟨Hf0,H0,Hf,M,d,st,a,U⟩:=q_;obtain⟨ds,T,a⟩:=a9 a;obtain⟨r,Y,a⟩:=a9 a;refine⟨Hf0,H0,Hf,M,ds,st,T,λvs Hf' H' x rv=>?_⟩;rw[bQ];refine⟨H',ds,r,aq.refl _,rv,(ha.len M ds T).trans hl,Y,λC B l us z n y hn hf i N=>?_,λd' B=>?_⟩
 .subst B;replace a:(if C.all D.flat then aa _ else ab)=aa d:=a;split at a
  .rename_i u;cases a;have j:kP Hf' n l=ab:=by rw[n6 (λvs q=>by rw[i]at q;nomatch q)];exact x.s.free hn
   exact U _ _ n ((x.trans (xD x.s y.h)).fix (x.h.free hn) j i) ⟨l,us,rfl,aW,((N.up y.s).flat u).up (bG j)⟩
  .nomatch a
 .subst B;replace a:(if d'.scalar then aa d' else ab)=aa d:=a;split at a
  .rename_i u;cases a;exact⟨u,λv z n y N=>U v Hf' n (x.trans (Ext.grow x.s y.h)) (N.sc u)⟩
  .nomatch a
variable{fl:Str}{apos:Pos}{fo:MF1}{pl:Sem Bool}
def FX{o:Expr}{k:Nat}{m:LD->OLD}(cn:Str)(ho:DB c X o fo)(pk:Pm X.prog X.w X.K X.mg X.base CX0 k (c cn) fl (f,fd) ps (spO (Gx c X) ps.length m))(G:bo k0 X.A)(ha:DAB c X (e::es) fa)(hl:(e::es).length+1=ps.length:=by rfl)(I:StE X e es:=by rfl)(E:BkE X pos es:=by rfl)(ht:eval (.Call (.Attribute o fl apos) (e::es) [] pos) X.env=(do
   let ov <- eval o X.env
   fZ apos.atName
   let (f,first) <- d7 [ov] (gy ov fl pl)
   i6 pos f first (bZ pos (aL (e::es) X.env)) (gV pos (gU [] X.env))):=by rfl)(z:k<=k0:=by decide):
  DO c X (.Call (.Attribute o fl apos) (e::es) [] pos) (gN cn fl m fo fa):=PE.imp (vU ho pk.c pk.m pk.ok (G.mono z) pk.b .nil fL ha.pa I E ht) λL H Q q_=>by
 obtain⟨Hf0,H0,Hf,M,C,st,g,kq⟩:=q_;obtain⟨d,e1,n⟩:=a9 g;clear g
 cases d with
 |ins J ns ds=>
  have g:(if J=cn/\ns.contains fl=ag then (fa M).bind λj=>(m _).bind λC=>if C.all D.flat then aa C else ab else ab)=aa C:=n;split at g
  .rename_i y;obtain⟨u,B⟩:=y;subst u;obtain⟨j,N,n⟩:=a9 g;obtain⟨rs',e3,g⟩:=a9 n;split at g
   .rename_i hs;cases g;refine⟨Hf0,H0,Hf,M,_,st,e1,λv p H1 U r=>?_⟩;obtain⟨a,dx,vs,ev,q,T,rr⟩:=id r;subst ev;refine⟨a,dx,ns.zip vs,rfl,q,nO B,Hf0,H0,p,M,j,st.step U,N,λws b3 H2 Y r2=>?_⟩;rw[bQ];have x:=U.trans Y;exact⟨H2,.ins J ns ds::j,_,aq.refl _,.cons (r.up Y.h) r2,by rw[bO,ha.len M j N];exact hl,e3,λl us Hf3 H3 x3 hn hf i r3=>(kq l us _ H3 (x.trans (xD x.s x3.h)) (x.h.free hn) (by rw[n6 (λvs q=>by rw[i]at q;nomatch q)];exact x.s.free hn) i ((r3.up x3.s).flat hs))⟩
   .nomatch g
  .nomatch g
 | _=>nomatch n
abbrev kZ(w pr k:Nat)(js:LN)(g:D->LS->Option LS)(ft:MF4)(fe:MF1):LD->LS->LD->Option (LS×LD)
 | [],M,U2=>aa (M,U2)
 |b::bs,M,U2=>if U2.length<=16777216 then (eB (ga g ft fe (g9 k js ((M.set pr (.im b)).set w .no))) U2).bind λa=>kZ w pr k js g ft fe bs (M.set pr (.im b)) a else ab
abbrev ou(w pr:Nat)(a:MF4)(e d:MF2)(k:Nat)(js:LN)(g:D->LS->Option LS)(ft:MF4)(fe:MF1)(M:LS):Option Fl:=
 (a M).bind λb=>(d (M.set w .no)).bind λbs=>if b=!bs.isEmpty then (if b then e M else aa []).bind λc=>(kZ w pr k js g ft fe bs M c).map λp=>.nx (p.1.set w (.own p.2)) else ab
variable{G:Gc}{Hf0 H0 Hf H:Hp}{L:St}{M:LS}{v:V}
def ar.setAny(h:ar G Hf0 H0 Hf H L M):ar G Hf0 H0 Hf H (L.set i (aa v)) (M.set i .no):=h.setNew (Ext.refl h.sub) trivial λa p=>(p.calm rfl).elim
variable{w pr:Nat}{js:LN}{fb:MF2}{g:D->LS->Option LS}{ft:MF4}{fe:MF1}{ρ1:LS}
def FY{k:Nat}(hG:G.K=X.K)(hj:js.Nodup)(hk:∀d M ρ' i,g d M=aa ρ'->k<=i->ρ'[i]?=M[i]?)(C:∀d M ρ',g d M=aa ρ'->ρ'.length=M.length)(I:pr≠w){bs U L1:LD}{U4:iD}{a0:Addr}{r:LVv}
 (st:ar G Hf0 H0 Hf H L (M.set w .no))(hw:w<M.length)(ew:L[w]?=aa (aa (.ref a0)))(ha:H a0=aa (.lst r))(r0:ao G Hf U r)(hb:fb (M.set w .no)=aa bs)(fr:bs=[]->ar G Hf0 H0 Hf H L (M.set w (.own U)))
 (el:kZ w pr k js g ft fe bs M U=aa (ρ1,L1))(kq:∀σ' Hf' H',aq Hf Hf'->ar G Hf0 H0 Hf' H' σ' (ρ1.set w (.own L1))->U4.nx σ' H'):
  vK (tDI G fb) (gD pr) (iF (nz k js (vI X.K (cB w)) (tDG G g) (tDT G ft) (tD G fe)) (gD w)) U4 L H:=by
 refine⟨Hf0,H0,Hf,_,bs,st,hb,λJ j H1 Q it=>?_⟩
 refine⟨λi m σ' H'=>m=bs.length-i/\i<=bs.length/\∃Hf' ρ' U2 a vs,ar G Hf0 H0 Hf' H' σ' (ρ'.set w .no)/\w<ρ'.length/\σ'[w]?=aa (aa (.ref a))/\H' a=aa (.lst vs)/\ao G Hf' U2 vs/\aq j Hf'/\kZ w pr k js g ft fe (bs.drop i) ρ' U2=aa _/\(i=bs.length->ar G Hf0 H0 Hf' H' σ' (ρ'.set w (.own U2))),
  ⟨bs.length,rfl,b9 _,j,M,U,a0,r,st.step Q,hw,ew,Q.h _ _ ha,r0.up Q.f,aq.refl _,el,λe=>(fr (rL.mp e.symm)).step Q⟩,?_⟩
 rintro i m σ' H' ⟨rfl,hi,Hf',ρ',U2,a,vs,N,hw',A,B,r',s1,b,own⟩;obtain⟨it1,it2⟩:=it Hf' H' s1 N.sub i
 by_cases E:i<bs.length
 .obtain⟨d,ed,edr⟩:=wR E;obtain⟨go,yl⟩:=it1 d ed;rw[edr]at b;unfold kZ at b;split at b
  .rename_i hz;obtain⟨L',ec,el2⟩:=a9 b;refine .inr ⟨go,λu c=>bs.length-_=bs.length-_/\i+1<=bs.length/\∃Hf' ρ' U2 a vs,ar G Hf0 H0 Hf' c u _/\w<ρ'.length/\u[w]?=aa _/\c a=aa _/\ao G Hf' U2 vs/\aq j Hf'/\kZ w pr k js g ft fe _ ρ' U2=aa _/\_,λu c z=>⟨bs.length-(i+1),by lia,z⟩,λx c y=>?_⟩;obtain⟨v,T,rx⟩:=yl x c y
   have n:ar G Hf0 H0 v c (σ'.set pr (aa x)) ((ρ'.set pr (.im d)).set w .no):=by
    have:=(N.step T).setIm (i:=pr) rx;rw[set_comm _ _ I.symm]at this;exact this
   have ew2:(σ'.set pr (aa x))[w]?=aa (aa (.ref a)):=by rw[jW I];exact A
   refine Ek hj hk C n (λR q=>⟨.ref a,ew2,a,rfl,⟨vs,SqL.of (T.h _ _ B)⟩,?_⟩) hz ec λl us Y H3 x3 hn hf hl rl=>?_
   .have:=q _ v c (Ext.refl n.sub) (Ej (SqL.of (T.h _ _ B)) (r'.up T.f));rw[hG]at this;exact this
   .have p:=n.setOwn (i:=w) (s:=.own L') rfl x3 hn hf ⟨us,hl,rl⟩;rw[set_set]at p;have hsl:w<(σ'.set pr (aa x)).length:=by rw[il];exact(cR.mp A).1
    refine⟨rfl,E,Y,ρ'.set pr _,L',l,us,?_,by rw[il];exact hw',jV hsl,hl,rl,(s1.trans T.f).trans x3.f,el2,λ_=>p⟩;have:=p.setNo (i:=w);rw[set_set]at this;exact this
  .nomatch b
 .have ei:i=bs.length:=by lia
  subst ei;rw[drop_eq_nil_of_le (aM _)]at b;cases b;exact .inl ⟨it2 rfl,kq σ' Hf' H' (Q.f.trans s1) (own rfl)⟩
variable{fg:MF2}{ft0:MF4}
def O9{k:Nat}{s1 s2:Stmt}{rest:List Stmt}{F:MF3}(hj:js.Nodup)(hk:∀d M ρ' i,g d M=aa ρ'->k<=i->ρ'[i]?=M[i]?)(q:∀d M ρ',g d M=aa ρ'->ρ'.length=M.length)(C:pr≠w)
 (h1:PS X s1 (iF (tIf (tDT (Gx c X) ft0) (tDL (Gx c X) fg) (vS gF)) (gD w)))(h2:PS X s2 (vK (tDI (Gx c X) fb) (gD pr) (iF (nz k js (vI X.K (cB w)) (tDG (Gx c X) g) (tDT (Gx c X) ft) (tD (Gx c X) fe)) (gD w))))(hr:DSs c X rest F):
  DSs c X (s1::s2::rest) (λM=>if w<M.length then ai (ou w pr ft0 fg fb k js g ft fe) F M else ab):=PSs.imp (ss h1 (ss h2 hr)) λU4 L H q_=>by
 obtain⟨Hf0,H0,Hf,M,o,G,B,x⟩:=q_;split at B
 .rename_i Q;obtain⟨r,j,B⟩:=a9 (B);obtain⟨b,e2,j⟩:=a9 j;obtain⟨bs,Y,j⟩:=a9 j;split at j
  .rename_i hb;obtain⟨L0,e4,j⟩:=a9 j;obtain⟨p,e5,j⟩:=di j;subst j;refine⟨Hf0,H0,Hf,M,b,G,e2,λu U y=>?_⟩;have E:w<L.length:=by rw[G.len];exact Q
   have fin:∀{v:Hp},aq Hf v->∀σ' Hf' H',aq v Hf'->ar _ Hf0 H0 Hf' H' σ' _->tDS _ F U4 σ' H':=λT σ' Hf' H' s1 m=>⟨Hf0,H0,Hf',_,o,m,B,by
    cases o with
    |nx M=>exact λn h A s2 e=>x n h A ((T.trans s1).trans s2) e
    |bk M=>exact λn h A s2 e=>x n h A ((T.trans s1).trans s2) e
    |ct M=>exact λn h A s2 e=>x n h A ((T.trans s1).trans s2) e
    |rt d=>exact x
    |rtO d=>exact x
    |rtS d M=>exact x
    |rtT t=>exact x⟩
   cases b with
   |true=>
    refine⟨Hf0,H0,u,M,L0,G.step y,e4,λa vs v H2 J ha r=>?_⟩
    refine FY rfl hj hk q C ((G.step y).step J).setAny Q (jV E) ha r Y (λz=>by rw[z]at hb;nomatch hb) e5 (λσ' Hf' H' s1 m=>fin (y.f.trans J.f) σ' Hf' H' s1 m)
   |false=>
    cases e4;refine⟨b9 _,λl N=>?_⟩;have J:Ext u U u (upd U l (.lst [])):=Ext.tmp y.s N;have e:=(G.step y).setOwn (i:=w) (s:=.own []) rfl J N (y.s.free N) ⟨[],aW,.nil⟩;have I:=e.setNo (i:=w);rw[set_set]at I;exact FY rfl hj hk q C I Q (jV E) aW .nil Y (λ_=>e) e5 (λσ' Hf' H' s1 m=>fin y.f σ' Hf' H' s1 m)
  .nomatch j
 .nomatch B
def Pa{i k:Nat}(h:i<k):∀d (M ρ':LS) j,ax i d M=aa ρ'->k<=j->ρ'[j]?=M[j]?:=λd M ρ' j e a=>by cases e;exact jW (by lia)
def Pb:∀d (M ρ':LS),ax i d M=aa ρ'->ρ'.length=M.length:=λd M ρ' e=>by cases e;exact il
variable{o1:O}{R:O->O}
def Pc(d:ar G Hf0 H0 Hf H L M)(h:aG i M=aa (o1,R)):∃o v fp,M[i]?=aa (.deep o)/\L[i]?=aa (aa v)/\OT G Hf H o v fp/\fp.Nodup/\(∀a∈fp,H0 a=ab/\Hf a=ab)/\Foc G Hf H o v fp o1 v fp R:=by
 have main:∀o,M[i]?=aa (.deep o)->(∀v fp,OT G Hf H o v fp->fp.Nodup->Foc G Hf H o v fp o1 v fp R)->∃o v fp,M[i]?=aa (.deep o)/\L[i]?=aa (aa v)/\OT G Hf H o v fp/\fp.Nodup/\(∀a∈fp,H0 a=ab/\Hf a=ab)/\Foc G Hf H o v fp o1 v fp R:=λo es F=>by
  obtain⟨v,b,u,fp,c,r,n,z⟩:=d.slot es;subst c;exact⟨o,u,fp,es,b,r,n,z,F u fp r n⟩
 unfold aG at h;split at h
 .rename_i l o es;cases h;exact main _ es λv fp r n=>Foc.at r n
 .rename_i o _ es;cases h;exact main _ es λv fp r n=>Foc.refl r n
 .nomatch h
def Pd{cn f:Str}(g:ar G Hf0 H0 Hf H L M)(h:aS cn f (aG i) M=aa (o1,R)):∃o v fp v1 f1,M[i]?=aa (.deep o)/\L[i]?=aa (aa v)/\OT G Hf H o v fp/\fp.Nodup/\(∀a∈fp,H0 a=ab/\Hf a=ab)/\Foc G Hf H o v fp o1 v1 f1 R:=by
 obtain⟨q,c,h⟩:=a9 h;obtain⟨r,d,h⟩:=di h;cases h;obtain⟨o,v,fp,es,e,rt,n,z,F⟩:=Pc g c;obtain⟨a,dx,ns,vs,j,f2,_,_,_,b⟩:=F.fld d;exact⟨o,v,fp,j,f2,es,e,rt,n,z,b⟩
variable{l:Addr}
def ar.focFix{o:O}{fp:LAd}{ds:LD}{vs:LVv}(B:ar G Hf0 H0 Hf H L M)(es:M[i]?=aa (.deep o))(J:L[i]?=aa (aa v))(r:OT G Hf H o v fp)(n:fp.Nodup)(z:∀a∈fp,H0 a=ab/\Hf a=ab)(F:Foc G Hf H o v fp (.lst (ds.map .fz)) (.ref l) [l] R)(ql:H l=aa (.lst vs))(rd:ao G Hf ds vs):
  ar G Hf0 H0 (upd Hf l (.lst vs)) H L (M.set i (.deep (R (.fz (.lst ds))))):=by
 have Q:=F.sub l aH;have T:=(z l Q).2;have m:aq Hf (upd Hf l (.lst vs)):=bG T;obtain⟨fp',U,mem,nd⟩:=F.back _ H (.fz (.lst ds)) [] m (λb u e _=>e) ⟨⟨l,vs,rfl,aW,rd.up m⟩,rfl⟩
 have c:∀a∈fp',a∈fp/\a≠l:=λa ha=>by
  rcases mem a ha with y |⟨y,y'⟩
  .exact nomatch y
  .exact⟨y,λe=>y' (by rw[e];exact aH)⟩
 have nl:∀j t w,j≠i->M[j]?=aa t->L[j]?=aa _->Holds G Hf H t w l->False:=λj t w hj b A p=>hj (B.dj j i t _ w v l b es A J p ⟨fp,r,Q⟩);refine B.re (B.ext.fix (z l Q).1 T ql) (by simp) (λj u t a b=>?_) λj t w a b A p=>?_
 .rcases cC b with⟨e,E,_⟩ |⟨en,b⟩
  .subst e E;rw[J]at a;cases a;exact⟨v,fp',rfl,U,(nd eW λa ha=>nomatch ha),λx f=>⟨(z x (c x f).1).1,by rw[aI (c x f).2];exact(z x (c x f).1).2⟩⟩
  .have q:=B.at' j u t a b
   cases C:t.isOwn with
   |false=>
    cases t with
    |no=>trivial
    |im d=>obtain⟨Y,I,h⟩:=q;exact⟨Y,I,h.up m⟩
    |val Y=>exact q
    |deep o'=>
     obtain⟨w,gp,I,h,n2,z2⟩:=q;subst I;refine⟨w,gp,rfl,h.up m (aq.refl _),n2,λx f=>⟨(z2 x f).1,?_⟩⟩;rw[aI (λy=>nl j _ w en b a ⟨gp,h,by rw[<- y];exact f⟩)]
     exact(z2 x f).2
    | _=>nomatch C
   |true=>
    obtain⟨l2,e2,e3,e4,q2⟩:=q.own C;subst e2;refine .ofOwn C ⟨l2,rfl,e3,?_,q2.up m λo' N=>N⟩;rw[aI (λy=>nl j t _ en b a ((Holds.own C).mpr (by rw[y])))];exact e4
 .rcases cC b with⟨e,E,_⟩ |⟨_,b⟩
  .subst e E;rw[J]at A;cases A;obtain⟨g,h,ha⟩:=p;have:=OT.funM _ _ _ _ U h;subst this;exact⟨_,es,⟨fp,r,(c a ha).1⟩⟩
  .exact⟨t,b,(B.at' j _ t A b).back (λo fp _ r=>r.up m (aq.refl _)) p⟩
abbrev mq(i:Nat)(cn f:Str)(F:MF3)(M:LS):Option Fl:=(aS cn f (aG i) M).bind λq=>q.1.items.bind λds=>F (M.set i (.deep (q.2 (.fz (.lst ds)))))
def FZ{F:MF3}(i:Nat)(cn f:Str)(h:DS c X st F):DS c X st (mq i cn f F):=PS.imp h λU4 L H m=>by
 obtain⟨Hf0,H0,Hf,M,o,d,a,k⟩:=m;obtain⟨q,e,a⟩:=a9 a;obtain⟨ds,g,a⟩:=a9 a;obtain⟨t,v,fp,v1,f1,es,j,rt,n,z,b⟩:=Pd d e;rw[qp g]at b;obtain⟨l,vs,fs,rfl,p,C,rfl⟩:=id b.r;obtain⟨rd,rfl⟩:=C.unfz;exact⟨Hf0,H0,_,_,o,d.focFix es j rt n z b p rd,a,k.up (bG (z l (b.sub l aH)).2)⟩
structure Bas(K:aO)(U5:Addr)(m:Str)(f:Addr):Prop where
 sg:W.specialIn K (.ref U5) "__getattribute__"=aa (aa (.builtin "type.__getattribute__"))
 rd:W.readsIn K U5 (.type "type")=ac
 fc:W.findCls K (.ref U5) (.type "type") m=aa (.val (.ref f))
 kp:e8 K (.ref f)=ac
variable{U5:Addr}
def Pe{U:PNS}{s:ah}{A:bW}{U4:PRS}{m:Str}{Q:Value×LVa->ah->Prop}(I:Inv X U L H s)(b:Bas X.K U5 m f)(h:∀a,Inv X U L H a->Q (.ref f,[]) a):wpAny (model X.prog X.w) A (gy (.ref U5) m pl) Q U4 s:=
 W.method_cls I.kIn b.sg (W.cls_value I.kIn b.rd b.fc rfl (h _ (I.tok _)))
abbrev k4(i:Nat)(m:MTf)(f:Xa):Xe:=λM=>match M[i]? with
 |some (.deep (.at _ _))=>(f M).bind λp=>match p.2[i]? with
  |some (.deep (.at l o))=>(m l p.1 o).map λq=>(q.2,p.2.set i (.deep (.at l q.1)))
  | _=>ab
 | _=>ab
variable{sp:Sp}{t:TA}
def Pf{k:Nat}(l:Gl X x)(hm:X.mg x=aa (.ref U5))(b:Bas X.K U5 fl f)(F:b8 X.prog X.w X.K X.mg X.base CX0 k f fd ps sp)(hr:bo k X.A)(j:dw X.K fd ps [])(ha:PA X (e::es) t)
 (d:StE X e es:=by rfl)(c:BkE X pos es:=by rfl)(a:NDb x:=by decide)
 (m:eval (.Call (.Attribute (.Name x p) fl apos) (e::es) [] pos) X.env=(do
   let ov <- eval (.Name x p) X.env
   fZ apos.atName
   let (f,first) <- d7 [ov] (gy ov fl pl)
   i6 pos f first (bZ pos (aL (e::es) X.env)) (gV pos (gU [] X.env))):=by rfl):
  PE X (.Call (.Attribute (.Name x p) fl apos) (e::es) [] pos) (vT sp [] E0 t):=by
 intro U s L H Q I h;refine W.methodCall_KW (vB I l hm ?_ a) m;refine Pe I b λs1 i=>?_;exact W.callWith_K I.ok.mod.kin b.kp (thn (ha pos U s1 L H _ i h) λus s2 ⟨vs,q,g,r,n⟩=>⟨g.kIn,(sG F hr j .nil fL g r n)⟩) d c
variable{fa:Xa}{m:MTf}
def Pg{Q:VK}(U:∀L H Q,qi (Gx c X) fa L H Q->t L H Q)(hn:∀M ds ρ',fa M=aa (ds,ρ')->1+ds.length=ps.length)(q_:tDX (Gx c X) (k4 i m fa) L H Q):vT (gM (Gx c X) ps.length m) [] E0 (iG (cB i) t) L H Q:=by
 obtain⟨Hf0,H0,Hf,M,d,ρ',st,b,Y⟩:=q_;unfold k4 at b;split at b
 .rename_i C o0 p;obtain⟨pp,A,b⟩:=a9 b;obtain⟨ds,ρ1⟩:=pp;split at b
  .rename_i l o1 e;obtain⟨q,I,b⟩:=di b;cases b;obtain⟨u,x,u',fp,J,rt,n,z⟩:=st.slot p;subst J;obtain⟨el,rt0⟩:=rt;subst el;refine⟨_,x,U _ _ _ ⟨Hf0,H0,Hf,M,ds,ρ1,st,A,λus Hf' H' f1 st1 r=>?_⟩⟩;show gM _ _ _ ((V.ref C::us)++[]) H' Q E0;rw[bQ];obtain⟨w,B,w',gp,N,y,n1,z1⟩:=st1.slot e;subst N;rw[x]at B;cases B;obtain⟨j,g⟩:=y;cases j;exact⟨Hf',ds,o1,q.1,q.2,C,gp,us,rfl,st1.sub,g,n1,λa ha=>(z1 a ha).2,r,hn _ _ _ A,I,λv h G T E r3 n3 z3 rv=>Y v h G (f1.trans E.f) (st1.treeBack e x ⟨rfl,g⟩ E ⟨rfl,r3⟩ n3 z3) rv⟩
  .nomatch b
 .nomatch b
section
variable{k:Nat}{o:Expr}
def Ph(n:PE X o (cB i))(l:Gl X x)(hm:X.mg x=aa (.ref U5))(b:Bas X.K U5 fl f)(F:b8 X.prog X.w X.K X.mg X.base CX0 k f fd ps (gM (Gx c X) ps.length m))(hr:bo k X.A)(j:dw X.K fd ps [])(ha:DAX c X (e::es) fa)
 (u:(e::es).length+1=ps.length:=by rfl)(a:aL (o::e::es) X.env=(ag,eval o X.env)::aL (e::es) X.env:=by rfl)(g:(bZ pos (aL (e::es) X.env)).any (·.1)=ag:=by rfl)(d:NDb x:=by decide)
 (q:eval (.Call (.Attribute (.Name x p) fl apos) (o::e::es) [] pos) X.env=(do
   let ov <- eval (.Name x p) X.env
   fZ apos.atName
   let (f,first) <- d7 [ov] (gy ov fl pl)
   i6 pos f first (bZ pos (aL (o::e::es) X.env)) (gV pos (gU [] X.env))):=by rfl):
  DX c X (.Call (.Attribute (.Name x p) fl apos) (o::e::es) [] pos) (k4 i m fa):=PE.imp (Pf l hm b F hr j (eA n ha.pa a) a g d q) λL H Q r=>Pg (λ_ _ _ h=>h) (λM ds ρ' h=>by have:=ha.len M ds ρ' h;lia) r
end
section
variable{k:Nat}
abbrev mr(i:Nat)(cn fl:Str)(f:MF1)(M:LS):Option Fl:=match M[i]? with
 |some (.deep (.at l (.ins c' ns os)))=>if c'=cn/\ns.length<1000 then (aQ fl ns).bind λk=>match os[k]? with
  |some (.fz (.int a))=>match f M with
   |some (.int b)=>aa (.nx (M.set i (.deep (.at l (.ins c' ns (os.set k (.fz (.int (a+b)))))))))
   | _=>ab
  | _=>ab else ab
 | _=>ab
end
variable{g:MF1}
def Pi{o:Expr}{u:Pos}(cn:Str)(hc:Cls X.K (c cn))(hn:cv X.K (c cn) fl)(ho:PE X o (cB i))(he:DE c X e g):DS c X (.AugAssign (.Attribute o fl u) .Add e pos) (mr i cn fl g):=PS.imp (J5 ho he J7) λU4 L H q_=>by
 obtain⟨Hf0,H0,Hf,M,o,Q,d,kq⟩:=q_;unfold mr at d;split at d
 .rename_i l A ns os es;split at d
  .rename_i I;obtain⟨rfl,hlt⟩:=I;obtain⟨k,U,d⟩:=a9 d;split at d
   .rename_i a eo;split at d
    .rename_i b eb;cases d;obtain⟨v,T,v',fp,e3,rt,n,z⟩:=Q.slot es;subst e3;have F:=Foc.at rt n;obtain⟨el,p,dx,vs,fs,ep,J,hz,C,B⟩:=id rt;subst el;cases ep;subst B;obtain⟨na,N⟩:=bX.mp n;obtain⟨vk,fk,E,rk,_,sb,bk⟩:=C.foc N eo;refine⟨_,T,_,c A,dx,ns.zip vs,vk,rfl,J,hc,hn,(xO vs U).trans E,Hf0,H0,Hf,M,_,Q,eb,λv2 r x m r1=>⟨a,b,rk.1,r1,?_⟩⟩;refine⟨dx,ns.zip vs,m.h _ _ J,by rw[lw];lia,kq L r _ m.f ?_⟩;have F1:=F.up m.f m.h;have keep:∀q w,q≠l->x q=aa w->upd x l (.ins (c A) dx (cM fl (.int (a+b)) (ns.zip vs))) q=aa w:=λq w j e=>by rw[aI j];exact e
     obtain ⟨G,r',Y,n'⟩:=bk r (upd x l (.ins (c A) dx (cM fl (.int (a + b)) (ns.zip vs)))) (.fz (.int (a + b))) (.int (a + b)) [] m.f (λq w j hm _=>by
      refine keep q w (λy=>?_) (m.h _ _ j);subst y;simp only[J]at j;cases j
      rcases hm with hm |hm
      .nomatch hm
      .exact na hm) ⟨rfl,rfl⟩
     refine Q.foc es T (rt.up m.f m.h) m F1 (λq w j hn=>keep q w (λy=>hn (by rw[y];exact aH)) j) ⟨l,dx,vs.set k (.int (a+b)),G,rfl,by rw[aW,xT hz U],by simp[hz],r',rfl⟩ (bX.mpr ⟨λy=>?_,n' eW λq j=>nomatch j⟩) λq j=>?_
     .rcases Y l y with w |⟨w,_⟩
      .nomatch w
      .exact na w
     .rcases bm.mp j with y |y
      .rw[y];exact .inl aH
      .rcases Y q y with w |⟨w,_⟩
       .nomatch w
       .exact .inl (bj _ w)
    .nomatch d
   .nomatch d
  .nomatch d
 .nomatch d
abbrev qt(i:Nat)(f:MF1)(M:LS):Option Fl:=match M[i]? with
 |some (.im (.int a))=>match f M with
  |some (.int b)=>aa (.nx (M.set i (.im (.int (a-b)))))
  | _=>ab
 | _=>ab
def Pj(i:Nat){h:Pos}(y:X.N.Nodup)(z:DE c X e g)(hi:X.N[i]?=aa x:=by rfl)(B:Loc X.env.scope x:=by first |exact bS rfl |exact bw rfl)(A:LcF X x:=by first |exact .inl rfl |exact .inr rfl):
  DS c X (.AugAssign (.Name x h) .Sub e pos) (qt i g):=PS.imp (CF y hi B z Ji A) λU4 L H C=>by
 obtain⟨Hf0,H0,Hf,M,o,l,d,k⟩:=C;unfold qt at d;split at d
 .rename_i a es;split at d
  .rename_i b n;cases d;obtain⟨v,p,w,q,j⟩:=l.slot es;subst q;exact⟨_,p,Hf0,H0,Hf,M,_,l,n,λu Hf' H' m r=>⟨a,b,j,r,k _ Hf' H' m.f ((l.step m).setIm rfl)⟩⟩
  .nomatch d
 .nomatch d
def Pl{f:MF1}(h:PE X e (tBM X.K "list" (xL (Gx c X)) (tDB (Gx c X) f) (iG (tD (Gx c X) g) gF))):DE c X e (m2 gh f g):=PE.imp h λL H Q I=>by
 obtain⟨Hf0,H0,Hf,M,d,st,G,k⟩:=I;obtain⟨x,y,B,E,m⟩:=lS G
 obtain⟨ds,i,rfl,rfl⟩:∃ds i,x=.lst ds/\d=.int i:=by
  unfold gh at m
  grind
 refine⟨Hf0,H0,Hf,M,_,st,B,λv b U p n=>?_⟩;obtain⟨l,vs,el,q,C⟩:=id n;subst el;exact⟨.inl ⟨rfl,_,SqL.of q⟩,Hf0,H0,b,M,y,st.step p,E,λu j r a J=>⟨r,.lst ds,y,_,u,rfl,aq.refl _,n.up a.h,J.up a.s,m,λw A z T N=>k w j z ((p.trans a).trans (Ext.grow a.s T.h)) N⟩⟩
section
variable{k:Nat}
abbrev qu(x y:D):OD:=match x with
 |.dT ks ds=>(jO y).bind λk=>(aQ k ks).bind λj=>ds[j]?
 | _=>ab
end
def Pn{o:Expr}{f:MF1}(Y:X.A.units+1<cLine)(T:DE c X o f)(N:DE c X e g)(U:pE e:=by exact λ_ _=>rfl):DE c X (.Subscript o e pos) (m2 qu f g):=PE.imp (wq Y T N U) λL H Q q_=>by
 obtain⟨Hf0,H0,Hf,M,d,st,J,kq⟩:=q_;obtain⟨x,y,z,B,h⟩:=lS J;unfold qu at h;split at h
 .rename_i ks ds;obtain⟨k,E,h⟩:=a9 h;obtain⟨j,G,h⟩:=a9 h;refine⟨Hf0,H0,Hf,M,_,st,z,λv l H1 r r1=>⟨Hf0,H0,l,M,y,st.step r,B,λu m w i r2=>?_⟩⟩;obtain⟨b,I,tk⟩:=qm E r2;obtain⟨a,vs,rfl,ha,hz,C⟩:=r1;subst I;obtain⟨q,n,p⟩:=C.get h;refine⟨a,q,rfl,?_,kq q m w (r.trans i) (p.up i.f)⟩;rw[<- n,<- oh vs G];exact fj.t (i.s _ _ (i.f _ _ ha)) (tk.same i.s)
 .nomatch h
structure xX(K:aO)(x qual:Str)(st:Stmt)(f:Addr)(fd:cz):Prop where
 ex:∃(oc:Value) (od:Option Addr) (dV kV doc pm:Value) (an:Option Addr) (cdv ct:Value) (osl:Array (Option Value)),
  fd=iB x qual (jE st) (fh st) (av st) dV kV doc pm an cdv ct/\K.lookup f=aa ⟨oc,od,.func fd,osl⟩/\W.codeIn K cdv qual=ac
 kp:e8 K (.ref f)=ac
def Po{oc:Value}{od an:Option Addr}{osl:Array (Option Value)}{dV kV doc pm cdv ct:Value}(l:K.lookup f=aa ⟨oc,od,.func (iB x qual (jE st) (fh st) (av st) dV kV doc pm an cdv ct),osl⟩)
 (c:W.codeIn K cdv qual=ac)(k:e8 K (.ref f)=ac):xX K x qual st f (iB x qual (jE st) (fh st) (av st) dV kV doc pm an cdv ct):=⟨⟨oc,od,dV,kV,doc,pm,an,cdv,ct,osl,rfl,l,c⟩,k⟩
def F0{ds:LVa}{T:Addr}{o:Obj}{items:Array Value}{n:Nat}(l:K.lookup T=aa o)(d:o.data=.seq items n)(hd:fd.defaults=.ref T)
 (h:∀us:LVa,(us++ds).length=ps.length->∃k,bindArgs fd ⟨us,[]⟩=seqItems? fd.defaults >>= k/\k (aa items)=pure (ps.zip (us++ds))):dw K fd ps ds:=λs us X c=>by
 obtain⟨k,a,b⟩:=h us c;exact W.binds_K X hd l d a b
variable{w:World}
def Pp{k:Nat}{F:MF3}(u:xX K x qual st f fd)(S:aA N ps (av st))
 (h:∀(cdv:Value) (A:bW) (outer:List Env) (s:ah) (H:Hp) (U4:XK),bo k (A.deeper (fH qual (av st) s.heap.objs.size f cdv))->DSs c (g4 CX0 P w K mg base N qual (av st) f cdv A outer s H U4).nox (fh st) F)(j:N.length=n_:=by rfl):
  b8 P w K mg base CX0 (k+1) f fd ps (spD ⟨K,c⟩ ps.length (aN n_ F)):=by
 subst j;obtain⟨oc,od,dV,kV,doc,pm,an,cdv,ct,osl,rfl,y,i⟩:=u.ex;refine C5 y i S (λvs H Q U4 m=>by obtain⟨Hf,ds,d,q,r,a,_⟩:=m;rw[<- r.length];exact a) λA outer s H vs Q U4 hr m=>?_;obtain⟨Hf,ds,d,q,r,a,e,b⟩:=m;refine⟨_,(h cdv A outer s H U4 hr).nox,?_⟩;unfold aN at e
 cases g:F _ with
 |none=>rw[g]at e;nomatch e
 |some o=>
  rw[g]at e;refine⟨Hf,H,Hf,_,o,ar.start q r,g,?_⟩
  cases o with
  |rt d=>cases e;exact b
  |rtO C=>cases e;exact λl vs Hf' H' x hn p a r=>b _ _ H' (x.fix hn p a) ⟨l,vs,rfl,aW,r.up (bG p)⟩
  |nx M=>cases e;exact λσ' Hf' H' _ n=>b _ Hf' H' n.ext rfl
  |rtS d M=>cases e;exact λv σ' Hf' H' n r=>b v Hf' H' n.ext r
  | _=>nomatch e
variable{fa:MF2}
def Pq{k:Nat}{m:LD->OD}{n:Int}(F:b8 X.prog X.w X.K X.mg X.base CX0 k f fd ps (spD (Gx c X) ps.length m))(hr:bo k X.A)(B:Gl X x)(hm:X.mg x=aa (.ref f))(C:e8 X.K (.ref f)=ac)(b:∃ds,aE [V.int n] ds/\dw X.K fd ps ds)(ha:DA c X (e::es) fa)
 (N:(e::es).length+1=ps.length:=by rfl)(g:NDb x:=by decide)(z:StE X e es:=by rfl)(h:BkE X pos es:=by rfl):
  DE c X (.Call (.Name x p) (e::es) [] pos) (au m λM=>(fa M).map (·++[.int n])):=by
 obtain⟨dv,hd,b⟩:=b;refine PE.imp (ni F hr B hm C b hd fL ha.pa g z h) λL H Q G=>?_;obtain⟨Hf0,H0,Hf,M,d,st,y,E⟩:=G;obtain⟨l,q,u⟩:=pL y;obtain⟨ds,i,rfl⟩:=di q;refine⟨Hf0,H0,Hf,M,ds,st,i,λvs Hf' H' x r=>?_⟩;have:=ha.len M ds i;exact⟨Hf',_,d,x.s,r.append (ao.cons (d:=.int n) rfl .nil),by rw[aR,gS];lia,u,λv a j J I=>E v a j (x.trans J) I⟩
end L2
namespace N_k54
open List
open PySem PySem.Spec PyProof.Rows L2
local macro_rules | `(tactic| walk_at "sc")=>`(tactic| exact ⟨rfl,rfl,rfl,by decide +kernel,rfl,by decide +kernel,by decide +kernel⟩)
abbrev top(i:Nat):Stmt:=PySem.Challenge.pw_standstill_k54_so_many_and_whole.main.body.getD i (.Pass ⟨0,0,0,0⟩)
nonrec def s_1:=top 2
nonrec def xY:=top 3
nonrec def xZ:=top 10
nonrec def x6:=top 11
nonrec def x8:=top 12
nonrec def x9:=top 13
nonrec def ya:=top 14
nonrec def yb:=top 15
nonrec def yc:=top 16
nonrec def yd:=top 17
nonrec def yf:=top 18
nonrec def s_7:=top 19
nonrec def s_2:=top 21
nonrec def yg:=top 22
nonrec def yh:=top 24
nonrec def yi:=top 25
nonrec def s_5:=top 26
nonrec def s_0:=top 29
nonrec def yj:=top 30
nonrec def ym:=top 31
nonrec def yn:=top 34
nonrec def s_6:=top 35
nonrec def yo:=top 36
nonrec def yp:=top 37
nonrec def yq:=top 38
nonrec def yr:=top 39
nonrec def yt:=top 40
nonrec def yu:=top 41
nonrec def yv:=top 42
nonrec def yw:=top 43
nonrec def s_3:=top 44
nonrec def yx:=bf (top 6) 0
nonrec def yy:=bf (top 6) 2
nonrec def yA:=bf (top 6) 3
nonrec def yB:=bf (top 6) 5
nonrec def yC:=bf (top 6) 6
nonrec def yD:=bf (top 6) 7
nonrec def yE:=bf (top 6) 8
nonrec def yF:=bf (top 6) 9
nonrec def yG:=bf (top 7) 0
nonrec def yH:=bf (top 7) 2
nonrec def yI:=bf (top 7) 3
nonrec def yJ:=bf (top 7) 5
nonrec def yK:=bf (top 7) 6
nonrec def yL:=bf (top 7) 7
nonrec def yM:=bf (top 7) 8
nonrec def yN:=bf (top 7) 9
nonrec def yO:=bf (top 8) 0
nonrec def yP:=bf (top 8) 2
nonrec def yQ:=bf (top 8) 3
nonrec def yR:=bf (top 8) 5
nonrec def yS:=bf (top 8) 6
nonrec def yT:=bf (top 8) 7
nonrec def yU:=bf (top 8) 8
nonrec def yV:=bf (top 8) 9
nonrec def yW:=bf (top 9) 0
nonrec def yX:=bf (top 9) 2
nonrec def yY:=bf (top 9) 3
nonrec def yZ:=bf (top 9) 5
nonrec def y4:=bf (top 9) 6
nonrec def y6:=bf (top 9) 7
nonrec def y7:=bf (top 9) 8
nonrec def y8:=bf (top 9) 9
nonrec def y9:=bf (top 32) 0
nonrec def s_8:=bf (top 32) 1
nonrec def za:=bf (top 32) 2
nonrec def zb:=bf (top 32) 3
nonrec def zc:=bf (top 32) 4
nonrec def s_4:=bf (top 32) 5
nonrec def s_9:=bf (top 32) 6
nonrec def zd:=bf (top 27) 1
nonrec def ze:=bf (top 27) 2
nonrec def zf:=bf (top 27) 3
nonrec def zg:=bf (top 27) 4
nonrec def zh:=bf (top 27) 5
nonrec def zi:=bf (top 27) 6
nonrec def zj:=bf (top 27) 7
nonrec def zk:=bf (top 27) 8
nonrec def zl:=bf (top 27) 9
nonrec def zm:=bf (top 27) 10
nonrec def zn:=bf (top 27) 11
nonrec def zo:=bf (top 27) 12
nonrec def zp:=bf (top 27) 0
def ow:aA ["many","some","listed","thing"] ["many","some"] (av s_1):=by walk_at "sc"
def Ps:aA ["truths"] ["truths"] (av xY):=by walk_at "sc"
def F6:aA ["told","word"] ["told"] (av xZ):=by walk_at "sc"
def Pt:aA ["items"] ["items"] (av x6):=by walk_at "sc"
def Pu:aA ["items","entries"] ["items","entries"] (av x8):=by walk_at "sc"
def Pw:aA ["items","sheet"] ["items","sheet"] (av x9):=by walk_at "sc"
def Px:aA ["items"] ["items"] (av ya):=by walk_at "sc"
def Py:aA ["items","without"] ["items","without"] (av yb):=by walk_at "sc"
def F7:aA ["items","sheet","lack","weights"] ["items","sheet","lack"] (av yc):=by walk_at "sc"
def zq:aA ["items","weights","thing","worth"] ["items"] (av yd):=by walk_at "sc"
def Pz:aA ["things","sheet","truth"] ["things","sheet","truth"] (av yf):=by walk_at "sc"
def tV:aA ["items","things","lack","weights","taken","left","thing","weight"] ["items","things","lack"] (av s_7):=by walk_at "sc"
def F8:aA ["rule"] ["rule"] (av s_2):=by walk_at "sc"
def F9:aA ["rule","guard"] ["rule"] (av yg):=by walk_at "sc"
def PB:aA ["bar"] ["bar"] (av yh):=by walk_at "sc"
def Ga:aA ["guard","sheet","pairs","part","tips"] ["guard","sheet"] (av yi):=by walk_at "sc"
def Gb:aA ["body","sheet","without","part"] ["body","sheet","without"] (av s_5):=by walk_at "sc"
def qv:aA ["plain","most","seeking","firsts","world"] ["plain","most"] (av s_0):=by walk_at "sc"
def PD:aA ["why"] ["why"] (av yj):=by walk_at "sc"
def PF:aA ["order","needed"] ["order","needed"] (av ym):=by walk_at "sc"
def PH:aA ["_law_script","_law_k"] ["_law_script","_law_k"] (av yn):=by walk_at "sc"
def Ge:aA ["_law_cell","_law_k","_law_prime","_law_once"] ["_law_cell","_law_k"] (av s_6):=by walk_at "sc"
def Gf:aA ["_law_cell","_law_k","_law_many","_law_items_here","_law_j","_law_at","_law_worth"] ["_law_cell","_law_k","_law_many"] (av yo):=by walk_at "sc"
def Gg:aA ["_law_cell","_law_k","_law_many","_law_sort","_law_items_here","_law_bound"] ["_law_cell","_law_k","_law_many"] (av yp):=by walk_at "sc"
def zt:aA ["_law_cell","_law_many","_law_word","_law_size","_law_parts"] ["_law_cell","_law_many"] (av yq):=by walk_at "sc"
def Gh:aA ["_law_cell","_law_many","_law_rules","_law_k"] ["_law_cell","_law_many"] (av yr):=by walk_at "sc"
def Gi:aA ["_law_script","_law_top","_law_head","_law_many","_law_rules","_law_cell"] ["_law_script","_law_top"] (av yt):=by walk_at "sc"
def PJ:aA ["_law_part_here"] ["_law_part_here"] (av yu):=by walk_at "sc"
def Gj:aA ["_law_plain_here","_law_rules","_law_word","_law_head","_law_parts"] ["_law_plain_here"] (av yv):=by walk_at "sc"
def PK:aA ["_law_found","_law_due","_law_most"] ["_law_found","_law_due","_law_most"] (av yw):=by walk_at "sc"
def tW:aA ["_law_script","_law_plain_here","_law_told","_law_due","_law_lines","_law_asked","_law_most"] ["_law_script"] (av s_3):=by walk_at "sc"
def PL:aA ["self","thing"] ["self","thing"] (av yx):=by walk_at "sc"
def PM:aA ["self"] ["self"] (av yy):=by walk_at "sc"
def PN:aA ["self"] ["self"] (av yA):=by walk_at "sc"
def PP:aA ["self","sheet"] ["self","sheet"] (av yB):=by walk_at "sc"
def PQ:aA ["self","sheet","order"] ["self","sheet","order"] (av yC):=by walk_at "sc"
def PR:aA ["self","sheet"] ["self","sheet"] (av yD):=by walk_at "sc"
def PU:aA ["self","sheet","without"] ["self","sheet","without"] (av yE):=by walk_at "sc"
def PV:aA ["self","sheet","without","order"] ["self","sheet","without","order"] (av yF):=by walk_at "sc"
def PY:aA ["self","thing"] ["self","thing"] (av yG):=by walk_at "sc"
def PZ:aA ["self"] ["self"] (av yH):=by walk_at "sc"
def P0:aA ["self"] ["self"] (av yI):=by walk_at "sc"
def P1:aA ["self","sheet"] ["self","sheet"] (av yJ):=by walk_at "sc"
def P2:aA ["self","sheet","order"] ["self","sheet","order"] (av yK):=by walk_at "sc"
def P3:aA ["self","sheet"] ["self","sheet"] (av yL):=by walk_at "sc"
def P4:aA ["self","sheet","without"] ["self","sheet","without"] (av yM):=by walk_at "sc"
def P5:aA ["self","sheet","without","order"] ["self","sheet","without","order"] (av yN):=by walk_at "sc"
def P6:aA ["self","bound","items"] ["self","bound","items"] (av yO):=by walk_at "sc"
def P7:aA ["self"] ["self"] (av yP):=by walk_at "sc"
def P8:aA ["self"] ["self"] (av yQ):=by walk_at "sc"
def P9:aA ["self","sheet"] ["self","sheet"] (av yR):=by walk_at "sc"
def Qa:aA ["self","sheet","order"] ["self","sheet","order"] (av yS):=by walk_at "sc"
def Gk:aA ["self","sheet","lack"] ["self","sheet"] (av yT):=by walk_at "sc"
def Qb:aA ["self","sheet","without"] ["self","sheet","without"] (av yU):=by walk_at "sc"
def Gm:aA ["self","sheet","without","order","left"] ["self","sheet","without","order"] (av yV):=by walk_at "sc"
def Qc:aA ["self","bound","items"] ["self","bound","items"] (av yW):=by walk_at "sc"
def Qd:aA ["self"] ["self"] (av yX):=by walk_at "sc"
def Qe:aA ["self"] ["self"] (av yY):=by walk_at "sc"
def Qf:aA ["self","sheet"] ["self","sheet"] (av yZ):=by walk_at "sc"
def Qg:aA ["self","sheet","order"] ["self","sheet","order"] (av y4):=by walk_at "sc"
def Gn:aA ["self","sheet","lack"] ["self","sheet"] (av y6):=by walk_at "sc"
def Qh:aA ["self","sheet","without"] ["self","sheet","without"] (av y7):=by walk_at "sc"
def Qi:aA ["self","sheet","without","order"] ["self","sheet","without","order"] (av y8):=by walk_at "sc"
def Qj:aA ["self","plain"] ["self","plain"] (av y9):=by walk_at "sc"
def zu:aA ["self","why","world"] ["self"] (av s_8):=by walk_at "sc"
def Go:aA ["self","why","line"] ["self","why"] (av za):=by walk_at "sc"
def zw:aA ["self","bar","places","choices"] ["self","bar"] (av zb):=by walk_at "sc"
def tX:aA ["self","why","sheet","pair","cause","order","needed","bar","done","thing","ground"] ["self","why"] (av zc):=by walk_at "sc"
def Gp:aA ["self","sheet","why","order","things","part"] ["self","sheet","why","order"] (av s_4):=by walk_at "sc"
def zx:aA ["self","sheet","group","order","without","things","head","body"] ["self","sheet","group","order"] (av s_9):=by walk_at "sc"
def Gq:aA ["self","why","guard","part","thing"] ["self","why","guard"] (av zd):=by walk_at "sc"
def Gr:aA ["self","bar","why"] ["self","bar"] (av ze):=by walk_at "sc"
def qw:aA ["self","bar","wider","pair","why"] ["self","bar"] (av zf):=by walk_at "sc"
def Qk:aA ["self","thing","truth","why"] ["self","thing","truth","why"] (av zg):=by walk_at "sc"
def Gs:aA ["self","many","pair","why"] ["self","many"] (av zh):=by walk_at "sc"
def Gu:aA ["self","going","why"] ["self"] (av zi):=by walk_at "sc"
def tY:aA ["self","why","pairs","thing","truth"] ["self"] (av zj):=by walk_at "sc"
def zy:aA ["self","without","thing","things","is_loose"] ["self"] (av zk):=by walk_at "sc"
def tZ:aA ["self","without","used","rest","going","before","unused","maker"] ["self"] (av zl):=by walk_at "sc"
def zA:aA ["self","thing","without","found","place","part"] ["self","thing","without"] (av zm):=by walk_at "sc"
def Ql:aA ["self","thing","without"] ["self","thing","without"] (av zn):=by walk_at "sc"
def Qm:aA ["self","part","without"] ["self","part","without"] (av zo):=by walk_at "sc"
def Gv:aA ["self","plain","bars","sheet","rule","number","bar"] ["self","plain","bars","sheet"] (av zp):=by walk_at "sc"
set_option genInjectivity false
set_option genSizeOf false
structure DfX(K:aO)(mg:MGT)(x:Str)(st:Stmt)(ps:LSt)(e:Addr×cz):Prop where
 F:xX K x x st e.1 e.2
 b:dw K e.2 ps []
 g:mg x=aa (.ref e.1)
variable{P:bY}{w:World}{K:aO}{mg:MGT}{base:Heap}{x:Str}{st:Stmt}{ps:LSt}
def DfX.pk{CX:CXT}{k:Nat}{e:Addr×cz}{sp:Sp}(U4:DfX K mg x st ps e)(o:b8 P w K mg base CX k e.1 e.2 ps sp):Pk P w K mg base CX k x e ps sp:=⟨o,U4.g,U4.F.kp,U4.b⟩
structure Db(K:aO)(x q:Str)(st:Stmt)(ps:LSt)(e:Addr×cz):Prop where
 F:Fun K x q st e.1 e.2
 b:dw K e.2 ps []
def Db.mk2{q:Str}{f:Addr}{fd:cz}(F:Fun K x q st f fd)(b:sJ x q st ps:=by walk_at "bd"):Db K x q st ps (f,fd):=⟨F,F.binds b⟩
structure Wa where
(e_1 e_18 e_34 e_35 e_19 e_13 e_36 e_37 e_20 e_14 e_15 e_7 e_2 e_21 e_47 e_70 e_5 e_0 e_22 e_38 e_23 e_6 e_39 e_24 e_25 e_26 e_27 e_48 e_16 e_28 e_3 e_66 e_40 e_49 e_50 e_51 e_52 e_29 e_53 e_67 e_41 e_54 e_55 e_56 e_57 e_30 e_58 e_68 e_42 e_59 e_60 e_61 e_43 e_31 e_44 e_69 e_45 e_62 e_63 e_64 e_46 e_32 e_65 e_11 e_8 e_12 e_33 e_17 e_4 e_9 h7 j0 h8 ld ir ky h9 as h6 kF ii kv e_10:Addr×cz)
 (cl:Str->Addr)
 (C_Spreading:Addr)
structure Wd(K:aO)(mg:MGT)(a:Wa):Prop where
 e_1:Df K mg "marks" s_1 ["many","some"] a.e_1
 e_18:Df K mg "numbers" xY ["truths"] a.e_18
 e_34:Df K mg "part_of" xZ ["told"] a.e_34
 e_35:Df K mg "things_of" x6 ["items"] a.e_35
 e_19:Df K mg "worth_in" x8 ["items","entries"] a.e_19
 e_13:Df K mg "worth_not_out" x9 ["items","sheet"] a.e_13
 e_36:Df K mg "worth_of" ya ["items"] a.e_36
 e_37:Df K mg "outside" yb ["items","without"] a.e_37
 e_20:Df K mg "heavy" yc ["items","sheet","lack"] a.e_20
 e_14:Df K mg "weights_of" yd ["items"] a.e_14
 e_15:Df K mg "with_entry" yf ["things","sheet","truth"] a.e_15
 e_7:Df K mg "enough" s_7 ["items","things","lack"] a.e_7
 e_2:Df K mg "body_of" s_2 ["rule"] a.e_2
 e_21:Df K mg "guard_of" yg ["rule"] a.e_21
 e_47:Df K mg "guard_of_bar" yh ["bar"] a.e_47
 e_70:Df K mg "pressed_by" yi ["guard","sheet"] a.e_70
 e_5:Df K mg "lost_part" s_5 ["body","sheet","without"] a.e_5
 e_0:DfX K mg "worlds" s_0 ["plain","most"] a.e_0
 e_22:Df K mg "own_why" yj ["why"] a.e_22
 e_38:Df K mg "needed_first" ym ["order","needed"] a.e_38
 e_23:Df K mg "_law_cell_at" yn ["_law_script","_law_k"] a.e_23
 e_6:Df K mg "_law_mixed" s_6 ["_law_cell","_law_k"] a.e_6
 e_39:Df K mg "_law_items" yo ["_law_cell","_law_k","_law_many"] a.e_39
 e_24:Df K mg "_law_part" yp ["_law_cell","_law_k","_law_many"] a.e_24
 e_25:Df K mg "_law_rule" yq ["_law_cell","_law_many"] a.e_25
 e_26:Df K mg "_law_base" yr ["_law_cell","_law_many"] a.e_26
 e_27:Df K mg "_law_plain" yt ["_law_script","_law_top"] a.e_27
 e_48:Df K mg "_law_part_again" yu ["_law_part_here"] a.e_48
 e_16:Df K mg "_law_again" yv ["_law_plain_here"] a.e_16
 e_28:Df K mg "_law_fits" yw ["_law_found","_law_due","_law_most"] a.e_28
 e_3:Df K mg "law" s_3 ["_law_script"] a.e_3
 e_66:Dm K (a.cl "In") "__init__" "In.__init__" yx ["self","thing"] a.e_66
 e_40:Dm K (a.cl "In") "named" "In.named" yy ["self"] a.e_40
 e_49:Dm K (a.cl "In") "wants" "In.wants" yA ["self"] a.e_49
 e_50:Dm K (a.cl "In") "sure" "In.sure" yB ["self","sheet"] a.e_50
 e_51:Dm K (a.cl "In") "sure_by" "In.sure_by" yC ["self","sheet","order"] a.e_51
 e_52:Dm K (a.cl "In") "tips" "In.tips" yD ["self","sheet"] a.e_52
 e_29:Dm K (a.cl "In") "lost" "In.lost" yE ["self","sheet","without"] a.e_29
 e_53:Dm K (a.cl "In") "lost_by" "In.lost_by" yF ["self","sheet","without","order"] a.e_53
 e_67:Dm K (a.cl "Out") "__init__" "Out.__init__" yG ["self","thing"] a.e_67
 e_41:Dm K (a.cl "Out") "named" "Out.named" yH ["self"] a.e_41
 e_54:Dm K (a.cl "Out") "wants" "Out.wants" yI ["self"] a.e_54
 e_55:Dm K (a.cl "Out") "sure" "Out.sure" yJ ["self","sheet"] a.e_55
 e_56:Dm K (a.cl "Out") "sure_by" "Out.sure_by" yK ["self","sheet","order"] a.e_56
 e_57:Dm K (a.cl "Out") "tips" "Out.tips" yL ["self","sheet"] a.e_57
 e_30:Dm K (a.cl "Out") "lost" "Out.lost" yM ["self","sheet","without"] a.e_30
 e_58:Dm K (a.cl "Out") "lost_by" "Out.lost_by" yN ["self","sheet","without","order"] a.e_58
 e_68:Dm K (a.cl "Least") "__init__" "Least.__init__" yO ["self","bound","items"] a.e_68
 e_42:Dm K (a.cl "Least") "named" "Least.named" yP ["self"] a.e_42
 e_59:Dm K (a.cl "Least") "wants" "Least.wants" yQ ["self"] a.e_59
 e_60:Dm K (a.cl "Least") "sure" "Least.sure" yR ["self","sheet"] a.e_60
 e_61:Dm K (a.cl "Least") "sure_by" "Least.sure_by" yS ["self","sheet","order"] a.e_61
 e_43:Dm K (a.cl "Least") "tips" "Least.tips" yT ["self","sheet"] a.e_43
 e_31:Dm K (a.cl "Least") "lost" "Least.lost" yU ["self","sheet","without"] a.e_31
 e_44:Dm K (a.cl "Least") "lost_by" "Least.lost_by" yV ["self","sheet","without","order"] a.e_44
 e_69:Dm K (a.cl "Most") "__init__" "Most.__init__" yW ["self","bound","items"] a.e_69
 e_45:Dm K (a.cl "Most") "named" "Most.named" yX ["self"] a.e_45
 e_62:Dm K (a.cl "Most") "wants" "Most.wants" yY ["self"] a.e_62
 e_63:Dm K (a.cl "Most") "sure" "Most.sure" yZ ["self","sheet"] a.e_63
 e_64:Dm K (a.cl "Most") "sure_by" "Most.sure_by" y4 ["self","sheet","order"] a.e_64
 e_46:Dm K (a.cl "Most") "tips" "Most.tips" y6 ["self","sheet"] a.e_46
 e_32:Dm K (a.cl "Most") "lost" "Most.lost" y7 ["self","sheet","without"] a.e_32
 e_65:Dm K (a.cl "Most") "lost_by" "Most.lost_by" y8 ["self","sheet","without","order"] a.e_65
 e_11:Dm K (a.cl "Seeking") "__init__" "Seeking.__init__" y9 ["self","plain"] a.e_11
 e_8:Dm K (a.cl "Seeking") "another" "Seeking.another" s_8 ["self"] a.e_8
 e_12:Dm K (a.cl "Seeking") "close" "Seeking.close" za ["self","why"] a.e_12
 e_33:Dm K (a.cl "Seeking") "place_for" "Seeking.place_for" zb ["self","bar"] a.e_33
 e_17:Dm K (a.cl "Seeking") "line_to" "Seeking.line_to" zc ["self","why"] a.e_17
 e_4:Dm K (a.cl "Seeking") "grounds" "Seeking.grounds" s_4 ["self","sheet","why","order"] a.e_4
 e_9:Dm K (a.cl "Seeking") "grounds_of_group" "Seeking.grounds_of_group" s_9 ["self","sheet","group","order"] a.e_9
 h7:Dm K (a.cl "Seeking") "take_guard" "Spreading.take_guard" zd ["self","why","guard"] a.h7
 j0:Dm K (a.cl "Seeking") "take_bar" "Spreading.take_bar" ze ["self","bar"] a.j0
 h8:Dm K (a.cl "Seeking") "drop_wider" "Spreading.drop_wider" zf ["self","bar"] a.h8
 ld:Dm K (a.cl "Seeking") "put" "Spreading.put" zg ["self","thing","truth","why"] a.ld
 ir:Dm K (a.cl "Seeking") "take_back" "Spreading.take_back" zh ["self","many"] a.ir
 ky:Dm K (a.cl "Seeking") "settle" "Spreading.settle" zi ["self"] a.ky
 h9:Dm K (a.cl "Seeking") "look_round" "Spreading.look_round" zj ["self"] a.h9
 as:Dm K (a.cl "Seeking") "put_loose_out" "Spreading.put_loose_out" zk ["self"] a.as
 h6:Dm K (a.cl "Seeking") "loose_marks" "Spreading.loose_marks" zl ["self"] a.h6
 kF:Dm K (a.cl "Seeking") "kernel" "Spreading.kernel" zm ["self","thing","without"] a.kF
 ii:Dm K (a.cl "Seeking") "lost_parts" "Spreading.lost_parts" zn ["self","thing","without"] a.ii
 kv:Dm K (a.cl "Seeking") "keeping" "Spreading.keeping" zo ["self","part","without"] a.kv
 e_10:Db K "__init__" "Spreading.__init__" zp ["self","plain","bars","sheet"] a.e_10
 rc:∃ds,aE [V.int 1] ds/\dw K a.e_0.2 ["plain","most"] ds
 vu:mg "In"=aa (.ref (a.cl "In"))
 pu:Cls K (a.cl "In")
 rs:Mk K (a.cl "In") a.e_66.1
 og:cv K (a.cl "In") "thing"
 u3:mg "Out"=aa (.ref (a.cl "Out"))
 oD:Cls K (a.cl "Out")
 q4:Mk K (a.cl "Out") a.e_67.1
 n5:cv K (a.cl "Out") "thing"
 rz:mg "Least"=aa (.ref (a.cl "Least"))
 ll:Cls K (a.cl "Least")
 pz:Mk K (a.cl "Least") a.e_68.1
 mu:cv K (a.cl "Least") "bound"
 l0:cv K (a.cl "Least") "pieces"
 vr:mg "Most"=aa (.ref (a.cl "Most"))
 n0:Cls K (a.cl "Most")
 qa:Mk K (a.cl "Most") a.e_69.1
 nS:cv K (a.cl "Most") "bound"
 nk:cv K (a.cl "Most") "pieces"
 p6:mg "Spreading"=aa (.ref a.C_Spreading)
 p0:Bas K a.C_Spreading "__init__" a.e_10.1
 ri:mg "Seeking"=aa (.ref (a.cl "Seeking"))
 ad:Cls K (a.cl "Seeking")
 pj:Mk K (a.cl "Seeking") a.e_11.1
 kr:cv K (a.cl "Seeking") "sheet"
 nq:cv K (a.cl "Seeking") "steps"
 md:cv K (a.cl "Seeking") "bars"
 kT:cv K (a.cl "Seeking") "guards"
 hY:cv K (a.cl "Seeking") "watches"
 kQ:cv K (a.cl "Seeking") "waiting"
 lb:cv K (a.cl "Seeking") "makers"
 ny:cv K (a.cl "Seeking") "paper"
 lk:cv K (a.cl "Seeking") "count"
 nL:cv K (a.cl "Seeking") "ended"
 r4:mg "any"=ab
 oo:mg "enumerate"=ab
 n7:mg "isinstance"=ab
 sf:mg "len"=ab
 o6:mg "list"=ab
 sk:mg "max"=ab
 p4:mg "range"=ab
 pb:mg "reversed"=ab
 su:mg "set"=ab
 pw:mg "sorted"=ab
 ro:mg "sum"=ab
 qq:mg "tuple"=ab
 qs:pO K "list"
 p5:pO K "tuple"
set_option genInjectivity true
set_option genSizeOf true
nonrec abbrev qD(P:bY)(w:World)(K:aO)(mg:MGT)(base:Heap)(a:Wa)(k:Nat)(x:Str)(e:Addr×cz)(ps:LSt)(m:LD->OD):Prop:=Pk P w K mg base CX0 k x e ps (spD ⟨K,a.cl⟩ ps.length m)
nonrec abbrev qO(P:bY)(w:World)(K:aO)(mg:MGT)(base:Heap)(a:Wa)(k:Nat)(x:Str)(e:Addr×cz)(ps:LSt)(m:LD->OLD):Prop:=Pk P w K mg base CX0 k x e ps (spO ⟨K,a.cl⟩ ps.length m)
nonrec abbrev gi(P:bY)(w:World)(K:aO)(mg:MGT)(base:Heap)(a:Wa)(k:Nat)(c x:Str)(e:Addr×cz)(ps:LSt)(m:MTf):Prop:=Pm P w K mg base CX0 k (a.cl c) x e ps (gM ⟨K,a.cl⟩ ps.length m)
nonrec abbrev qPD(P:bY)(w:World)(K:aO)(mg:MGT)(base:Heap)(a:Wa)(k:Nat)(c x:Str)(e:Addr×cz)(ps:LSt)(m:LD->OD):Prop:=Pm P w K mg base CX0 k (a.cl c) x e ps (spD ⟨K,a.cl⟩ ps.length m)
nonrec abbrev qPO(P:bY)(w:World)(K:aO)(mg:MGT)(base:Heap)(a:Wa)(k:Nat)(c x:Str)(e:Addr×cz)(ps:LSt)(m:LD->OLD):Prop:=Pm P w K mg base CX0 k (a.cl c) x e ps (spO ⟨K,a.cl⟩ ps.length m)
abbrev zB:MF3:=
 (ai (bc (mB (m2 dEq (au bJ (af (ae 0) nZ)) (kI 2))) (eQ 0) bC)
  (aX (bn (af (mIx (aw 0) (kI 0)) (af (mIx (aw 0) (kI 1)) (af (aJ (aV (mIx (aw 0) (kI 2)))) nZ))))))
abbrev zC:=aN 1 zB
abbrev zD:MF3:=
 (ai (cO 1 nZ)
  (ai (bU (aV (mIx (aw 0) (kI 1))) (cN (bp (ax 2) (bp (ax 3) (bp (ax 4) cZ)))) (c6 1 (bn (af (ae 2) (af (ae 3) (af (aJ (bg 1 [] (aV (ae 4)) (ax 0) kY (au zC (af (ae 0) nZ)))) nZ))))))
  (fm 1 (aX (bn (af (mIx (aw 0) (kI 0)) (af (ae 1) nZ)))))))
abbrev qx:=aN 5 zD
abbrev zE:MF3:=
 (ai (bc (mB (m2 dLt (ae 1) (au bJ (af (ae 0) nZ)))) (aX (mIx (aw 0) (ae 1))) bC)
  (aX (kI 0)))
abbrev qy:=aN 2 zE
abbrev zF:MF3:=
 (ai (bc (mOr (eP (bz (kA "tuple" (ae 0)))) (mOr (mB (m2 dNe (au bJ (af (ae 0) nZ)) (kI 3))) (mB (m2 dNe (mIx (aw 0) (kI 0)) (aJ (mSl (ae 1) (λ_=>aa ab) (mPt (ae 2)))))))) (aX (kBl ag)) bC)
  (ai (bc (mB (m2 dGt (au bJ (af (ae 1) nZ)) (ae 2))) (aX (gG (m2 dIs (mIx (aw 0) (kI 1)) (kBl ag)) (m2 dEq (mIx (aw 0) (kI 2)) (aJ nZ)))) bC)
  (aX (gG (m2 dIs (mIx (aw 0) (kI 1)) (kBl ac)) (gG (kA "list" (mIx (aw 0) (kI 2))) (m2 dGt (au bJ (af (mIx (aw 0) (kI 2)) nZ)) (kI 0)))))))
abbrev t4:=aN 3 zF
abbrev t7:MF3:=
 (ai (cO 2 nZ)
  (ai (bU (g8 (af (ae 1) nZ)) (ax 3) (ai (bc (mB (m2 dEq (m2 bT (ae 0) (kI 4)) (kI 1))) (c6 2 (bn (af (kSt "make") (af (ae 3) (af (aJ (af (bn (af (kSt "in") (af (m2 bT (m2 dN (ae 3) (kI 1)) (ae 1)) nZ))) nZ)) nZ))))) bC)
  (ai (bc (mB (m2 dEq (m2 bT (ae 0) (kI 4)) (kI 2))) (c6 2 (bn (af (kSt "make") (af (ae 3) (af (aJ (af (bn (af (kSt "out") (af (m2 bT (m2 dN (ae 3) (kI 1)) (ae 1)) nZ))) nZ)) nZ))))) bC)
  (bc (mB (m2 dEq (m2 bT (ae 0) (kI 4)) (kI 3))) (c6 2 (bn (af (kSt "may") (af (ae 3) (af (aJ nZ) nZ))))) bC))))
  (eQ 2)))
abbrev zG:=iK 4 t7
abbrev b_6:MF3:=
 (ai (aY 2 (mIx (af (kI 2147483647) (af (kI 1000000007) (af (kI 998244353) (af (kI 1000000009) nZ)))) (m2 bT (ae 1) (kI 4))))
  (ai (aY 3 (m2 bT (m2 kU (m2 dN (m2 bT (ae 0) (m2 nC (kI 10) (kI 18))) (m2 kU (kI 15485863) (m2 dN (ae 1) (kI 1)))) (kI 48271)) (ae 2)))
  (aX (m2 bT (m2 kU (ae 3) (ae 3)) (kI 1000003)))))
abbrev m_6:=aN 4 b_6
abbrev zH:MF3:=
 (ai (cO 3 nZ)
  (ai (bU (g8 (af (m2 bT (au m_6 (af (ae 0) (af (ae 1) nZ))) (kI 4)) nZ)) (ax 4) (ai (aY 5 (au m_6 (af (ae 0) (af (m2 dN (m2 dN (ae 1) (kI 1)) (ae 4)) nZ))))
  (ai (aY 6 (mIx (af (kI 1) (af (kI 1) (af (m2 bT (m2 jF (ae 5) (kI 8)) (kI 4)) (af (m2 bT (ae 0) (m2 nC (kI 10) (kI 60))) nZ)))) (m2 bT (m2 jF (ae 5) (kI 32)) (kI 4))))
  (c6 3 (bn (af (m2 bT (m2 jF (ae 5) (kI 128)) (ae 2)) (af (ae 6) nZ)))))))
  (eQ 3)))
abbrev zJ:=aN 7 zH
abbrev zK:MF3:=
 (ai (aY 3 (au m_6 (af (ae 0) (af (ae 1) nZ))))
  (ai (bc (mB (m2 dLt (m2 bT (ae 3) (kI 8)) (kI 5))) (aX (bn (af (mIx (af (kSt "in") (af (kSt "in") (af (kSt "out") (af (kSt "out") (af (kSt "in") nZ))))) (m2 bT (ae 3) (kI 8))) (af (m2 bT (m2 jF (ae 3) (kI 8)) (ae 2)) nZ)))) bC)
  (ai (aY 4 (au zJ (af (ae 0) (af (m2 dN (ae 1) (kI 1)) (af (ae 2) nZ)))))
  (ai (aY 5 (au m_6 (af (ae 0) (af (m2 dN (ae 1) (kI 5)) nZ))))
  (ai (bc (mB (m2 dEq (m2 bT (ae 5) (kI 4)) (kI 0))) (aX (bn (af (mIx (af (kSt "least") (af (kSt "most") nZ)) (m2 bT (ae 3) (kI 2))) (af (m2 kU (m2 bT (ae 0) (m2 nC (kI 10) (kI 60))) (m2 ja (m2 bT (m2 jF (ae 5) (kI 4)) (kI 3)) (kI 1))) (af (ae 4) nZ))))) bC)
  (aX (bn (af (mIx (af (kSt "least") (af (kSt "most") nZ)) (m2 bT (ae 3) (kI 2))) (af (m2 ja (m2 bT (m2 jF (ae 5) (kI 4)) (kI 5)) (kI 1)) (af (ae 4) nZ))))))))))
abbrev t8:=aN 6 zK
abbrev zM:MF3:=
 (ai (aY 2 (mIx (af (kSt "make") (af (kSt "make") (af (kSt "make") (af (kSt "make") (af (kSt "may") (af (kSt "may") (af (kSt "may") (af (kSt "never") nZ)))))))) (m2 bT (au m_6 (af (ae 0) (af (kI 0) nZ))) (kI 8))))
  (ai (aY 3 (m2 bT (au m_6 (af (ae 0) (af (kI 1) nZ))) (kI 4)))
  (ai (bc (df (mB (m2 dEq (ae 2) (kSt "never"))) (df (mB (m2 dEq (ae 3) (kI 0))) (mB (m2 dGt (m2 bT (au m_6 (af (ae 0) (af (kI 2) nZ))) (kI 8)) (kI 0))))) (aY 3 (kI 2)) bC)
  (ai (aY 4 (aJ (bg 1 [0,1] (g8 (af (ae 3) nZ)) (ax 0) kY (au t8 (af (ae 1) (af (m2 dN (kI 3) (m2 kU (kI 6) (ae 0))) (af (ae 2) nZ)))))))
  (ai (bc (mB (m2 dEq (ae 2) (kSt "never"))) (aX (bn (af (ae 2) (af kN (af (ae 4) nZ))))) bC)
  (aX (bn (af (ae 2) (af (m2 bT (au m_6 (af (ae 0) (af (kI 2) nZ))) (ae 1)) (af (ae 4) nZ))))))))))
abbrev zN:=aN 5 zM
abbrev zO:MF3:=
 (ai (aY 2 (au qy (af (ae 0) (af (kI 0) nZ))))
  (ai (aY 3 (m2 bT (ae 2) (ae 1)))
  (ai (cO 4 (jJ zG (af (m2 jF (ae 2) (ae 1)) (af (ae 3) nZ))))
  (ai (bU (aV (aJ (mSl (ae 0) (mPt (kI 1)) (mPt (m2 dN (kI 1) (mIx (af (kI 60) (af (kI 60) (af (kI 40) (af (kI 24) (af (kI 10) (af (kI 5) nZ)))))) (ae 3))))))) (ax 5) (bc (mB (m2 dEq (ae 3) (kI 0))) (c6 4 (bn (af (kSt "never") (af kN (af (aJ (af (bn (af (kSt "most") (af (m2 ja (m2 bT (ae 5) (kI 3)) (kI 2)) (af (aJ nZ) nZ)))) nZ)) nZ))))) (c6 4 (au zN (af (ae 5) (af (ae 3) nZ))))))
  (fm 4 (aX (bn (af (ae 3) (af (ae 4) nZ)))))))))
abbrev t9:=aN 6 zO
abbrev zP:MF3:=
 (λM=>if 2 < M.length then ai (ou 2 3 (bz (ae 1)) (gL (aS "Seeking" "watches" (aG 0)) (mIx (aw 1) (kI 0))) (aV (ae 1)) 1 [3,0] (ax 0) (mB (m2 fA (ae 0) (aJ (gL (aS "Seeking" "watches" (aG 2)) (ae 1))))) (ae 0))
  (fm 2 (bU (aV (ae 2)) (ax 4) (bc (mB (m2 dEq (mIx (aw 4) (kI 0)) (kSt "bar"))) (bU (aV (mIx (pC (aS "Seeking" "bars" (aG 0))) (mIx (aw 4) (kI 1)))) (ax 3) (oq 0 (jP (aS "Seeking" "watches" (aG 0)) (ae 3)) (ae 4))) bC))) M else ab)
abbrev zQ:MTf:=dQ 5 zP
abbrev zR:MF3:=
 (cb (af (a8 "In" "thing" (ae 0)) nZ))
abbrev ua:=aN 1 zR
abbrev zS:MF3:=
 (aX (kBl ac))
abbrev zT:=aN 1 zS
abbrev zU:MF3:=
 (cb (l6 (aJ (bg 2 [] (aV (ae 0)) (cN (bp (ax 0) (bp (ax 1) cZ))) kY (ae 0)))))
abbrev ub:=aN 1 zU
abbrev zV:MF3:=
 (aX (au ub (af (a8 "Least" "pieces" (ae 0)) nZ)))
abbrev uc:=aN 1 zV
abbrev zW:MF3:=
 (aX (kBl ac))
abbrev zX:=aN 1 zW
abbrev zY:MF3:=
 (aX (au ub (af (a8 "Most" "pieces" (ae 0)) nZ)))
abbrev ud:=aN 1 zY
abbrev zZ:MF3:=
 (aX (kBl ag))
abbrev z4:=aN 1 zZ
abbrev z5:MF3:=
 (cb (af (a8 "Out" "thing" (ae 0)) nZ))
abbrev ue:=aN 1 z5
abbrev z6:MF3:=
 (aX (kBl ag))
abbrev z7:=aN 1 z6
abbrev z8:MF3:=
 (ai (oj 0 (aS "Seeking" "guards" (aG 0)) (ae 1) (ae 2))
  (ai (bU (aV (ae 2)) (ax 3) (bU (aV (ba (aK "In" "named" ua (ae 3) λ_=>aa []) (ba (aK "Out" "named" ue (ae 3) λ_=>aa []) (ba (aK "Least" "named" uc (ae 3) λ_=>aa []) (aK "Most" "named" ud (ae 3) λ_=>aa []))))) (ax 4) (om 0 1 (aS "Seeking" "watches" (aG 0)) (bn (af (ae 4) (af (ba (aK "In" "wants" zT (ae 3) λ_=>aa []) (ba (aK "Out" "wants" z7 (ae 3) λ_=>aa []) (ba (aK "Least" "wants" zX (ae 3) λ_=>aa []) (aK "Most" "wants" z4 (ae 3) λ_=>aa [])))) nZ))))))
  (jQ 0 (aS "Seeking" "waiting" (aG 0)) (ae 1))))
abbrev qz:MTf:=dQ 5 z8
abbrev z9(a:LD):Option (LSt×LD):=pT 2 [("thing",(ae 1))] a
abbrev uf(a:LD):Option (LSt×LD):=pT 2 [("thing",(ae 1))] a
abbrev Aa:MF3:=
 (cb (bg 2 [] (aV (ae 0)) (cN (bp (ax 0) (bp (ax 1) cZ))) kY (vIf (bz (ae 1)) (hU "In" z9 (af (ae 0) nZ)) (hU "Out" uf (af (ae 0) nZ)))))
abbrev Ab:=aN 1 Aa
abbrev Ac:MF3:=
 (ai (dD (cq 0 "Seeking" "drop_wider" zQ (bE (mX (ae 1)) cf)))
  (ai (aY 2 (bn (af (kSt "bar") (af (au bJ (af (pB (aS "Seeking" "bars" (aG 0))) nZ)) nZ))))
  (ai (jQ 0 (aS "Seeking" "bars" (aG 0)) (ae 1))
  (dD (cq 0 "Seeking" "take_guard" qz (bE (mX (ae 2)) (bE (mX (au Ab (af (ae 1) nZ))) cf)))))))
abbrev ug:MTf:=dQ 3 Ac
abbrev Ad(a:LD):Option (LSt×LD):=pT 3 [("bound",(ae 1)),("pieces",(aJ (aw 2)))] a
abbrev Gw(a:LD):Option (LSt×LD):=pT 3 [("bound",(ae 1)),("pieces",(aJ (aw 2)))] a
abbrev Ae:MF3:=
 (ai (aY 1 (mIx (aw 0) (kI 0)))
  (ai (bc (mB (m2 dEq (ae 1) (kSt "in"))) (aX (hU "In" z9 (af (mIx (aw 0) (kI 1)) nZ))) bC)
  (ai (bc (mB (m2 dEq (ae 1) (kSt "out"))) (aX (hU "Out" uf (af (mIx (aw 0) (kI 1)) nZ))) bC)
  (ai (bc (mB (m2 dEq (ae 1) (kSt "least"))) (aX (hU "Least" Ad (af (mIx (aw 0) (kI 1)) (af (mIx (aw 0) (kI 2)) nZ)))) bC)
  (aX (hU "Most" Gw (af (mIx (aw 0) (kI 1)) (af (mIx (aw 0) (kI 2)) nZ))))))))
abbrev Ag:=aN 2 Ae
abbrev b_2:MF3:=
 (cb (bg 1 [] (aV (mIx (aw 0) (kI 2))) (ax 0) kY (au Ag (af (ae 0) nZ))))
abbrev m_2:=aN 1 b_2
abbrev o_2:=iK 1 b_2
abbrev Ah:MF3:=
 (ai (bc (mB (m2 dEq (mIx (aw 0) (kI 0)) (kSt "may"))) (cb (af (hU "Least" Ad (af (kI 1) (af (aJ nZ) nZ))) nZ)) bC)
  (ai (cO 1 (jJ o_2 (af (ae 0) nZ)))
  (ai (bc (mB (m2 dEq (mIx (aw 0) (kI 0)) (kSt "make"))) (c6 1 (hU "Out" uf (af (mIx (aw 0) (kI 1)) nZ))) bC)
  (eQ 1))))
abbrev uh:=aN 2 Ah
abbrev Ai:MF3:=
 (ai (dZ 0 "Seeking" "sheet" (aG 0) (gK (aw 3)))
  (ai (dZ 0 "Seeking" "steps" (aG 0) (gK nZ))
  (ai (dZ 0 "Seeking" "bars" (aG 0) (gK nZ))
  (ai (dZ 0 "Seeking" "guards" (aG 0) (λ_=>aa (.dT [] [])))
  (ai (dZ 0 "Seeking" "watches" (aG 0) (λ_=>aa (.dT [] [])))
  (ai (dZ 0 "Seeking" "waiting" (aG 0) (gK nZ))
  (ai (dZ 0 "Seeking" "makers" (aG 0) (iU (aJ (bg 1 [] (aV (mIx (aw 1) (kI 1))) (ax 0) (mB (m2 fM (mIx (aw 0) (kI 1)) kN)) (bn (af (mIx (aw 0) (kI 1)) (af (au m_2 (af (ae 0) nZ)) nZ)))))))
  (ai (bU (iN (af (mIx (aw 1) (kI 1)) nZ)) (cN (bp (ax 5) (bp (ax 4) cZ))) (dD (cq 0 "Seeking" "take_guard" qz (bE (mX (bn (af (kSt "rule") (af (ae 5) nZ)))) (bE (mX (au uh (af (ae 4) nZ))) cf)))))
  (bU (aV (ae 2)) (ax 6) (dD (cq 0 "Seeking" "take_bar" ug (bE (mX (ae 6)) cf))))))))))))
abbrev Aj:MTf:=dQ 7 Ai
abbrev Ak:MF3:=
 (ai (dD (k4 0 Aj (bE (mX (ae 1)) (bE (mX (aJ nZ)) (bE (mX (aJ (bg 1 [] (g8 (af (mIx (aw 1) (kI 0)) nZ)) (ax 0) kY kN))) cf)))))
  (ai (dZ 0 "Seeking" "paper" (aG 0) (gK nZ))
  (ai (dZ 0 "Seeking" "count" (aG 0) (iU (kI 0)))
  (dZ 0 "Seeking" "ended" (aG 0) (iU (kBl ag))))))
abbrev Al:MTf:=dQ 2 Ak
abbrev Am:MF3:=
 (cb (af (a8 "In" "thing" (ae 0)) nZ))
abbrev An:=aN 3 Am
abbrev Ao:MF3:=
 (ai (nV 1)
  (ai (bU (aV (ae 0)) (cN (bp (ax 2) (bp (ax 3) cZ))) (iP 1 (ae 2) (m2 dN (oa 1 (ae 2) (kI 0)) (ae 3))))
  (oe 1 (aX (ae 1)))))
abbrev ui:=aN 4 Ao
abbrev b_7:MF3:=
 (ai (aY 3 (au ui (af (ae 0) nZ)))
  (ai (cO 4 nZ)
  (ai (aY 5 (ae 2))
  (ai (bU (aV (ae 1)) (ax 6) (ai (aY 7 (qj (ae 3) (ae 6) (kI 0)))
  (bc (df (mB (m2 dGt (ae 5) (kI 0))) (mB (m2 dGt (ae 7) (kI 0)))) (ai (c6 4 (ae 6))
  (qt 5 (ae 7))) bC)))
  (eQ 4)))))
abbrev m_7:=aN 8 b_7
abbrev Ap:MF3:=
 (cb (bg 1 [2,1] (aV (ae 0)) (ax 0) (mB (m2 dEq (mIx (aw 2) (ae 0)) (ae 1))) (ae 0)))
abbrev ox:=aN 3 Ap
abbrev Aq:MF3:=
 (aX (au m_7 (af (a8 "Least" "pieces" (ae 0)) (af (au ox (af (ae 2) (af (ae 1) (af (kBl ac) nZ)))) (af (a8 "Least" "bound" (ae 0)) nZ)))))
abbrev Ar:=aN 3 Aq
abbrev As:MF3:=
 (aX (au iJ (af (aJ (bg 2 [] (aV (ae 0)) (cN (bp (ax 0) (bp (ax 1) cZ))) kY (ae 1))) nZ)))
abbrev uj:=aN 1 As
abbrev At:MF3:=
 (aX (au m_7 (af (a8 "Most" "pieces" (ae 0)) (af (au ox (af (ae 2) (af (ae 1) (af (kBl ag) nZ)))) (af (m2 ja (au uj (af (a8 "Most" "pieces" (ae 0)) nZ)) (a8 "Most" "bound" (ae 0))) nZ)))))
abbrev Au:=aN 3 At
abbrev Av:MF3:=
 (cb (af (a8 "Out" "thing" (ae 0)) nZ))
abbrev Aw:=aN 3 Av
abbrev Ax:MF3:=
 (aX (vIf (bz (mIx (aw 2) (a8 "In" "thing" (ae 0)))) (aJ nZ) (aJ (af (a8 "In" "thing" (ae 0)) nZ))))
abbrev Ay:=aN 4 Ax
abbrev Az:MF3:=
 (cb (bg 1 [1] (aV (ae 0)) (ax 0) (eP (bz (mIx (aw 1) (mIx (aw 0) (kI 0))))) (ae 0)))
abbrev uk:=aN 2 Az
abbrev AA:MF3:=
 (ai (aY 4 (au uk (af (a8 "Least" "pieces" (ae 0)) (af (ae 2) nZ))))
  (aX (au m_7 (af (ae 4) (af (au ox (af (ae 3) (af (ae 1) (af (kBl ag) nZ)))) (af (m2 dN (m2 ja (au uj (af (ae 4) nZ)) (a8 "Least" "bound" (ae 0))) (kI 1)) nZ))))))
abbrev AB:=aN 5 AA
abbrev AC:MF3:=
 (aX (au m_7 (af (a8 "Most" "pieces" (ae 0)) (af (au ox (af (ae 3) (af (ae 1) (af (kBl ac) nZ)))) (af (m2 dN (a8 "Most" "bound" (ae 0)) (kI 1)) nZ)))))
abbrev AD:=aN 4 AC
abbrev AE:MF3:=
 (cb (af (a8 "Out" "thing" (ae 0)) nZ))
abbrev AF:=aN 4 AE
abbrev AG:MF3:=
 (aX (vOr (m2 dIs (mIx (aw 1) (a8 "In" "thing" (ae 0))) (kBl ag)) (mIx (aw 2) (a8 "In" "thing" (ae 0)))))
abbrev qA:=aN 3 AG
abbrev AH:MF3:=
 (aX (au iJ (af (aJ (bg 2 [1] (aV (ae 0)) (cN (bp (ax 0) (bp (ax 1) cZ))) (mB (m2 fM (mIx (aw 2) (ae 0)) (kBl ag))) (ae 1))) nZ)))
abbrev oy:=aN 2 AH
abbrev AI:MF3:=
 (aX (m2 dLt (au oy (af (au uk (af (a8 "Least" "pieces" (ae 0)) (af (ae 2) nZ))) (af (ae 1) nZ))) (a8 "Least" "bound" (ae 0))))
abbrev qB:=aN 3 AI
abbrev AJ:MF3:=
 (aX (au iJ (af (aJ (bg 2 [1] (aV (ae 0)) (cN (bp (ax 0) (bp (ax 1) cZ))) (mB (m2 dIs (mIx (aw 2) (ae 0)) (kBl ac))) (ae 1))) nZ)))
abbrev qC:=aN 2 AJ
abbrev AK:MF3:=
 (aX (m2 dGt (au qC (af (a8 "Most" "pieces" (ae 0)) (af (ae 1) nZ))) (a8 "Most" "bound" (ae 0))))
abbrev qE:=aN 3 AK
abbrev AL:MF3:=
 (aX (m2 dIs (mIx (aw 1) (a8 "Out" "thing" (ae 0))) (kBl ac)))
abbrev qF:=aN 3 AL
abbrev b_5:MF3:=
 (ai (bU (aV (ae 0)) (ax 3) (bc (bz (ba (aK "In" "lost" qA (ae 3) (af (ae 1) (af (ae 2) nZ))) (ba (aK "Out" "lost" qF (ae 3) (af (ae 1) (af (ae 2) nZ))) (ba (aK "Least" "lost" qB (ae 3) (af (ae 1) (af (ae 2) nZ))) (aK "Most" "lost" qE (ae 3) (af (ae 1) (af (ae 2) nZ))))))) (eQ 3) bC))
  (aX kN))
abbrev m_5:=aN 4 b_5
abbrev b_1:MF3:=
 (ai (nV 2)
  (ai (bU (aV (ae 1)) (ax 3) (iP 2 (ae 3) (kBl ac)))
  (fm 2 (cb (bg 1 [2] (g8 (af (ae 0) nZ)) (ax 0) kY (m2 pZ (ae 0) (ae 1)))))))
abbrev m_1:=aN 4 b_1
abbrev o_1:=iK 4 b_1
abbrev b_9:MF3:=
 (ai (aY 4 (au m_1 (af (au bJ (af (ae 1) nZ)) (af (ae 2) nZ))))
  (ai (cO 5 (mSl (aJ (bg 1 [4,1] (aV (ae 3)) (ax 0) (df (bz (mIx (aw 1) (ae 0))) (mB (m2 dIs (mIx (aw 2) (ae 0)) (kBl ac)))) (ae 0))) (λ_=>aa ab) (mPt (kI 1))))
  (ai (bU (aV (a8 "Seeking" "makers" (ae 0))) (cN (bp (ax 6) (bp (ax 7) cZ))) (bc (bz (mIx (aw 4) (ae 6))) (jI 5 (jH (ba (aK "In" "lost_by" Ay (au m_5 (af (ae 7) (af (ae 1) (af (ae 4) nZ)))) (af (ae 1) (af (ae 4) (af (ae 3) nZ)))) (ba (aK "Out" "lost_by" AF (au m_5 (af (ae 7) (af (ae 1) (af (ae 4) nZ)))) (af (ae 1) (af (ae 4) (af (ae 3) nZ)))) (ba (aK "Least" "lost_by" AB (au m_5 (af (ae 7) (af (ae 1) (af (ae 4) nZ)))) (af (ae 1) (af (ae 4) (af (ae 3) nZ)))) (aK "Most" "lost_by" AD (au m_5 (af (ae 7) (af (ae 1) (af (ae 4) nZ)))) (af (ae 1) (af (ae 4) (af (ae 3) nZ))))))))) bC))
  (eQ 5))))
abbrev m_9:=aN 8 b_9
abbrev o_9:=iK 8 b_9
abbrev b_4:MF3:=
 (ai (bc (mB (m2 dEq (mIx (aw 2) (kI 0)) (kSt "world"))) (cb (mh (af (au bJ (af (ae 1) nZ)) nZ))) bC)
  (ai (bc (mB (m2 dEq (mIx (aw 2) (kI 0)) (kSt "group"))) (cb (gN "Seeking" "grounds_of_group" o_9 (ae 0) (af (ae 1) (af (mIx (aw 2) (kI 1)) (af (ae 3) nZ))))) bC)
  (ai (cO 4 nZ)
  (ai (bU (aV (m2 qu (a8 "Seeking" "guards" (ae 0)) (ae 2))) (ax 5) (jI 4 (jH (ba (aK "In" "sure_by" An (ae 5) (af (ae 1) (af (ae 3) nZ))) (ba (aK "Out" "sure_by" Aw (ae 5) (af (ae 1) (af (ae 3) nZ))) (ba (aK "Least" "sure_by" Ar (ae 5) (af (ae 1) (af (ae 3) nZ))) (aK "Most" "sure_by" Au (ae 5) (af (ae 1) (af (ae 3) nZ)))))))))
  (eQ 4)))))
abbrev m_4:=aN 6 b_4
abbrev o_4:=iK 6 b_4
abbrev AM:MF3:=
 (cb (jM (aJ (bg 1 [1] (aV (ae 0)) (ax 0) (bz (mIx (aw 1) (ae 0))) (ae 0))) (aJ (bg 1 [1] (aV (ae 0)) (ax 0) (eP (bz (mIx (aw 1) (ae 0)))) (ae 0)))))
abbrev ul:=aN 2 AM
abbrev AN:MF3:=
 (aX (vIf (mB (m2 dEq (mIx (aw 0) (kI 0)) (kSt "group"))) (bn (af (mIx (aw 0) (kI 0)) (af (aJ (aV (mIx (aw 0) (kI 1)))) nZ))) (ae 0)))
abbrev qG:=aN 1 AN
abbrev AO:MF3:=
 (ai (cO 2 (pC (aS "Seeking" "sheet" (aG 0))))
  (ai (aY 5 (aJ (bg 2 [] (pC (aS "Seeking" "steps" (aG 0))) (cN (bp (ax 0) (bp (ax 1) cZ))) kY (mIx (aw 0) (kI 0)))))
  (ai (cO 6 (jJ o_1 (af (au bJ (af (cG 2) nZ)) (af (aJ (gN "Seeking" "grounds" o_4 (cG 0) (af (cG 2) (af (ae 1) (af (ae 5) nZ))))) nZ))))
  (ai (cO 7 nZ)
  (ai (cO 8 (af (bn (af kN (af (au qG (af (ae 1) nZ)) nZ))) nZ))
  (ai (mq 0 "Seeking" "steps" (bU (kX (af (pD (aS "Seeking" "steps" (aG 0))) nZ)) (cN (bp (ax 3) (bp (ax 4) cZ))) (ai (aY 9 (mIx (aw 3) (kI 0)))
  (ai (bc (df (bz (mIx (aw 6) (ae 9))) (mB (m2 dIs (ae 4) kN))) (c6 7 (ae 3)) (bc (bz (mIx (aw 6) (ae 9))) (ai (c6 8 (bn (af (ae 3) (af (au qG (af (ae 4) nZ)) nZ))))
  (ai (fQ 2 (ae 9) (lU (mIx (aw 3) (kI 1))))
  (bU (aV (aJ (gN "Seeking" "grounds" o_4 (cG 0) (af (cG 2) (af (ae 4) (af (au ul (af (ae 5) (af (cG 6) nZ))) nZ)))))) (ax 10) (fQ 6 (ae 10) (kBl ac))))) bC))
  (fQ 2 (ae 9) kN)))))
  (eR (bn (af (aJ (mf 7)) (af (aJ (mf 8)) nZ))))))))))
abbrev AQ:MTf:=dQ 11 AO
abbrev AR:MF3:=
 (ai (aY 2 (aJ (bg 2 [] (iN (af (pD (aS "Seeking" "steps" (aG 0))) nZ)) (cN (bp (ax 0) (bp (ax 1) cZ))) (mB (m2 dIs (mIx (aw 1) (kI 1)) kN)) (ae 0))))
  (ai (aY 3 (aJ (bg 1 [0] (aV (ae 2)) (ax 0) kY (mIx (aV (mIx (aV (pD (aS "Seeking" "steps" (aG 1)))) (ae 0))) (kI 0)))))
  (eR (mIx (aw 2) (vIf (mB (m2 dEq (au bJ (af (ae 1) nZ)) (kI 1))) (kI 0) (m2 dN (m2 gh (ae 3) (mIx (aw 1) (m1 pJ (kI 2)))) (kI 1)))))))
abbrev AS:MTf:=dQ 4 AR
abbrev AT:MF3:=
 (ai (bU (aV (aJ (mSl (pD (aS "Seeking" "steps" (aG 0))) (mPt (ae 1)) (λ_=>aa ab)))) (cN (bp (ax 2) (bp (ax 3) cZ))) (mm 0 (aS "Seeking" "sheet" (aG 0)) (mIx (aw 2) (kI 0)) kN))
  (ai (dZ 0 "Seeking" "steps" (aG 0) (gK (mSl (pD (aS "Seeking" "steps" (aG 0))) (λ_=>aa ab) (mPt (ae 1)))))
  (dZ 0 "Seeking" "waiting" (aG 0) (gK nZ))))
abbrev AU:MTf:=dQ 4 AT
abbrev AV:MF3:=
 (ai (fE 2 (cq 0 "Seeking" "line_to" AQ (bE (mX (ae 1)) cf)))
  (ai (jQ 0 (aS "Seeking" "paper" (aG 0)) (ae 2))
  (bc (bz (mIx (aw 2) (kI 0))) (ai (dD (cq 0 "Seeking" "take_back" AU (bE (cq 0 "Seeking" "place_for" AS (bE (mX (mIx (aw 2) (kI 0))) cf)) cf)))
  (dD (cq 0 "Seeking" "take_bar" ug (bE (mX (mIx (aw 2) (kI 0))) cf)))) (dZ 0 "Seeking" "ended" (aG 0) (iU (kBl ac))))))
abbrev oz:MTf:=dQ 3 AV
abbrev AW:MF3:=
 (ai (mm 0 (aS "Seeking" "sheet" (aG 0)) (ae 1) (ae 2))
  (ai (jQ 0 (aS "Seeking" "steps" (aG 0)) (bn (af (bn (af (ae 1) (af (ae 2) nZ))) (af (ae 3) nZ))))
  (oi 0 (aS "Seeking" "waiting" (aG 0)) (gL (aS "Seeking" "watches" (aG 0)) (bn (af (ae 1) (af (ae 2) nZ)))))))
abbrev oA:MTf:=dQ 4 AW
abbrev AX:MF3:=
 (aX (m2 dIs (mIx (aw 1) (a8 "In" "thing" (ae 0))) (kBl ac)))
abbrev AY:=aN 2 AX
abbrev AZ:MF3:=
 (aX (vIf (mB (m2 dIs (mIx (aw 1) (a8 "In" "thing" (ae 0))) kN)) (aJ (af (bn (af (a8 "In" "thing" (ae 0)) (af (kBl ac) nZ))) nZ)) (aJ nZ)))
abbrev A0:=aN 2 AZ
abbrev A1:MF3:=
 (aX (m2 dGe (au qC (af (a8 "Least" "pieces" (ae 0)) (af (ae 1) nZ))) (a8 "Least" "bound" (ae 0))))
abbrev A2:=aN 2 A1
abbrev A3:MF3:=
 (ai (aY 3 (au ui (af (aJ (bg 1 [1] (aV (ae 0)) (ax 0) (mB (m2 dIs (mIx (aw 1) (mIx (aw 0) (kI 0))) kN)) (ae 0))) nZ)))
  (cb (bg 1 [2,3] (qg (ae 3)) (ax 0) (mB (m2 dGe (m2 qh (ae 2) (ae 0)) (ae 1))) (ae 0))))
abbrev um:=aN 4 A3
abbrev A4:MF3:=
 (ai (aY 2 (m2 ja (a8 "Least" "bound" (ae 0)) (au qC (af (a8 "Least" "pieces" (ae 0)) (af (ae 1) nZ)))))
  (cb (bg 1 [] (aV (au um (af (a8 "Least" "pieces" (ae 0)) (af (ae 1) (af (ae 2) nZ))))) (ax 0) kY (bn (af (ae 0) (af (kBl ac) nZ))))))
abbrev A5:=aN 3 A4
abbrev A6:MF3:=
 (aX (m2 dLe (au oy (af (a8 "Most" "pieces" (ae 0)) (af (ae 1) nZ))) (a8 "Most" "bound" (ae 0))))
abbrev A7:=aN 2 A6
abbrev A8:MF3:=
 (ai (aY 2 (m2 ja (au oy (af (a8 "Most" "pieces" (ae 0)) (af (ae 1) nZ))) (a8 "Most" "bound" (ae 0))))
  (cb (bg 1 [] (aV (au um (af (a8 "Most" "pieces" (ae 0)) (af (ae 1) (af (ae 2) nZ))))) (ax 0) kY (bn (af (ae 0) (af (kBl ag) nZ))))))
abbrev A9:=aN 3 A8
abbrev Ba:MF3:=
 (aX (m2 dIs (mIx (aw 1) (a8 "Out" "thing" (ae 0))) (kBl ag)))
abbrev Bb:=aN 2 Ba
abbrev Bc:MF3:=
 (aX (vIf (mB (m2 dIs (mIx (aw 1) (a8 "Out" "thing" (ae 0))) kN)) (aJ (af (bn (af (a8 "Out" "thing" (ae 0)) (af (kBl ag) nZ))) nZ)) (aJ nZ)))
abbrev Bd:=aN 2 Bc
abbrev Be:MF3:=
 (ai (aY 2 kN)
  (ai (bU (aV (ae 0)) (ax 3) (bc (eP (bz (ba (aK "In" "sure" AY (ae 3) (af (ae 1) nZ)) (ba (aK "Out" "sure" Bb (ae 3) (af (ae 1) nZ)) (ba (aK "Least" "sure" A2 (ae 3) (af (ae 1) nZ)) (aK "Most" "sure" A7 (ae 3) (af (ae 1) nZ))))))) (ai (aY 4 (ba (aK "In" "tips" A0 (ae 3) (af (ae 1) nZ)) (ba (aK "Out" "tips" Bd (ae 3) (af (ae 1) nZ)) (ba (aK "Least" "tips" A5 (ae 3) (af (ae 1) nZ)) (aK "Most" "tips" A9 (ae 3) (af (ae 1) nZ))))))
  (ai (aY 2 (vIf (mB (m2 dIs (ae 2) kN)) (ae 4) (aJ (bg 1 [4] (aV (ae 2)) (ax 0) (mB (m2 fA (ae 0) (ae 1))) (ae 0)))))
  (bc (eP (bz (ae 2))) (cb nZ) bC))) bC))
  (ai (bc (mB (m2 dIs (ae 2) kN)) (aX kN) bC)
  (cb (bg 2 [] (aV (ae 2)) (cN (bp (ax 0) (bp (ax 1) cZ))) kY (bn (af (ae 0) (af (lU (ae 1)) nZ))))))))
abbrev Bf(a:LD):Option (LD ⊕ D):=xV 5 Be a
abbrev Bg:MF3:=
 (ai (cT (bz (pB (aS "Seeking" "waiting" (aG 0)))) (ai (fE 1 (qr 0 (aS "Seeking" "waiting" (aG 0))))
  (ai (aY 2 (ot Bf (af (pB (jP (aS "Seeking" "guards" (aG 0)) (ae 1))) (af (pB (aS "Seeking" "sheet" (aG 0))) nZ))))
  (ai (bc (mB (m2 dIs (ae 2) kN)) (eR (ae 1)) bC)
  (bU (aV (ae 2)) (cN (bp (ax 3) (bp (ax 4) cZ))) (dD (cq 0 "Seeking" "put" oA (bE (mX (ae 3)) (bE (mX (ae 4)) (bE (mX (ae 1)) cf))))))))) 1000000000)
  (eR kN))
abbrev Bh:MTf:=dQ 5 Bg
abbrev Bi:MF3:=
 (ai (bc (bz (ba (aK "In" "lost" qA (ae 1) (af (a8 "Seeking" "sheet" (ae 0)) (af (au m_1 (af (au bJ (af (a8 "Seeking" "sheet" (ae 0)) nZ)) (af (aJ nZ) nZ))) nZ))) (ba (aK "Out" "lost" qF (ae 1) (af (a8 "Seeking" "sheet" (ae 0)) (af (au m_1 (af (au bJ (af (a8 "Seeking" "sheet" (ae 0)) nZ)) (af (aJ nZ) nZ))) nZ))) (ba (aK "Least" "lost" qB (ae 1) (af (a8 "Seeking" "sheet" (ae 0)) (af (au m_1 (af (au bJ (af (a8 "Seeking" "sheet" (ae 0)) nZ)) (af (aJ nZ) nZ))) nZ))) (aK "Most" "lost" qE (ae 1) (af (a8 "Seeking" "sheet" (ae 0)) (af (au m_1 (af (au bJ (af (a8 "Seeking" "sheet" (ae 0)) nZ)) (af (aJ nZ) nZ))) nZ))))))) (cb nZ) bC)
  (cb (bg 1 [2] (aV (ba (aK "In" "named" ua (ae 1) λ_=>aa []) (ba (aK "Out" "named" ue (ae 1) λ_=>aa []) (ba (aK "Least" "named" uc (ae 1) λ_=>aa []) (aK "Most" "named" ud (ae 1) λ_=>aa []))))) (ax 0) (bz (mIx (aw 1) (ae 0))) (ae 0))))
abbrev Bj:=aN 3 Bi
abbrev Bk:MF3:=
 (cb (bg 2 [2,0,1] (aV (a8 "Seeking" "makers" (ae 0))) (cN (bp (ax 0) (bp (ax 1) cZ))) (mB (m2 dEq (ae 0) (ae 4))) (au m_5 (af (ae 1) (af (a8 "Seeking" "sheet" (ae 3)) (af (ae 2) nZ))))))
abbrev Bl:=aN 3 Bk
abbrev qH:MF3:=
 (ai (cO 3 (af (ae 1) nZ))
  (ai (aY 4 (kI 0))
  (ai (cT (mB (m2 dLt (ae 4) (au bJ (af (cG 3) nZ)))) (ai (bU (aV (aK "Seeking" "lost_parts" Bl (ae 0) (af (mIx (aw 3) (ae 4)) (af (ae 2) nZ)))) (ax 5) (jI 3 (jH (aJ (bg 1 [3] (aV (aK "Seeking" "keeping" Bj (ae 0) (af (ae 5) (af (ae 2) nZ)))) (ax 0) (mB (m2 lX (ae 0) (cG 1))) (ae 0))))))
  (mj 4 (mX (kI 1)))) 1000000000)
  (fm 3 (cb (kS (ae 3)))))))
abbrev Ud:=aN 6 qH
abbrev k5:=iK 6 qH
abbrev Bm:MF3:=
 (ai (cO 1 (bg 1 [] (pC (aS "Seeking" "sheet" (aG 0))) (ax 0) kY (m2 fM (ae 0) (kBl ag))))
  (ai (cO 2 nZ)
  (ai (aY 3 (pD (aS "Seeking" "makers" (aG 0))))
  (ai (aY 4 (kBl ac))
  (ai (cT (bz (ae 4)) (ai (aY 5 (au bJ (af (cG 2) nZ)))
  (ai (cO 6 nZ)
  (ai (bU (aV (ae 3)) (ax 7) (bc (df (bz (mIx (aw 1) (mIx (aw 7) (kI 0)))) (mB (m2 dIs (au m_5 (af (mIx (aw 7) (kI 1)) (af (pB (aS "Seeking" "sheet" (aG 0))) (af (cG 1) nZ)))) kN))) (ai (fQ 1 (mIx (aw 7) (kI 0)) (kBl ag))
  (c6 2 (ae 7))) (c6 6 (ae 7))))
  (ai (fm 6 (aY 3 (ae 6)))
  (aY 4 (gG (m2 dGt (au bJ (af (cG 2) nZ)) (ae 5)) (au nU (af (cG 1) nZ)))))))) 1000000000)
  (ai (fm 2 (dZ 0 "Seeking" "makers" (aG 0) (iU (aJ (jM (ae 2) (ae 3))))))
  (fm 1 (eR (ae 1)))))))))
abbrev Bo:MTf:=dQ 8 Bm
abbrev Bp:MF3:=
 (ai (fE 1 (cq 0 "Seeking" "loose_marks" Bo cf))
  (ai (aY 3 (aJ (bg 2 [1] (tU (pC (aS "Seeking" "sheet" (aG 0)))) (cN (bp (ax 0) (bp (ax 1) cZ))) (df (bz (mIx (aw 2) (ae 0))) (mB (m2 dIs (ae 1) (kBl ac)))) (ae 0))))
  (ai (bc (bz (ae 3)) (eR (bn (af (kSt "group") (af (aJ (gN "Seeking" "kernel" k5 (cG 0) (af (mIx (aw 3) (kI 0)) (af (ae 1) nZ)))) nZ)))) bC)
  (ai (bU (iN (af (ae 1) nZ)) (cN (bp (ax 2) (bp (ax 4) cZ))) (bc (bz (ae 4)) (dD (cq 0 "Seeking" "put" oA (bE (mX (ae 2)) (bE (mX (kBl ag)) (bE (mX (bn (af (kSt "group") (af (aJ (gN "Seeking" "kernel" k5 (cG 0) (af (ae 2) (af (ae 1) nZ)))) nZ)))) cf))))) bC))
  (eR kN)))))
abbrev Bq:MTf:=dQ 5 Bp
abbrev Br:MF3:=
 (ai (aY 1 (kBl ac))
  (ai (cT (bz (ae 1)) (ai (fE 2 (cq 0 "Seeking" "look_round" Bh cf))
  (ai (bc (mB (m2 dIs (ae 2) kN)) (fE 2 (cq 0 "Seeking" "put_loose_out" Bq cf)) bC)
  (aY 1 (gG (m2 dIs (ae 2) kN) (m2 dGt (au bJ (af (pB (aS "Seeking" "waiting" (aG 0))) nZ)) (kI 0)))))) 1000000000)
  (eR (ae 2))))
abbrev qI:MTf:=dQ 3 Br
abbrev Bs:MF3:=
 (cb (bg 2 [] (iN (af (ae 0) nZ)) (cN (bp (ax 0) (bp (ax 1) cZ))) (bz (ae 1)) (ae 0)))
abbrev qJ:=iK 1 Bs
abbrev b_8:MF3:=
 (ai (cT (eP (bz (pD (aS "Seeking" "ended" (aG 0))))) (ai (fE 1 (cq 0 "Seeking" "settle" qI cf))
  (bc (mB (m2 fM (ae 1) kN)) (dD (cq 0 "Seeking" "close" oz (bE (mX (ae 1)) cf))) (bc (mB (m2 fA kN (pB (aS "Seeking" "sheet" (aG 0))))) (dD (cq 0 "Seeking" "put" oA (bE (mX (m2 gh (pB (aS "Seeking" "sheet" (aG 0))) kN)) (bE (mX (kBl ac)) (bE (mX kN) cf))))) (ai (aY 2 (aJ (n8 qJ (af (pB (aS "Seeking" "sheet" (aG 0))) nZ))))
  (ai (dD (cq 0 "Seeking" "close" oz (bE (mX (bn (af (kSt "world") (af (pD (aS "Seeking" "count" (aG 0))) nZ)))) cf)))
  (ai (mr 0 "Seeking" "count" (kI 1))
  (eR (ae 2)))))))) 1000000000)
  (eR kN))
abbrev m_8:MTf:=dQ 3 b_8
abbrev b_0:MF3:=
 (ai (mi 2 (mo "Seeking" Al (af (ae 0) nZ)))
  (ai (cO 3 nZ)
  (ai (fE 4 (jg 2 "Seeking" "another" m_8 cf))
  (ai (cT (df (mB (m2 fM (ae 4) kN)) (mB (m2 dLt (au bJ (af (cG 3) nZ)) (ae 1)))) (ai (c6 3 (ae 4))
  (fE 4 (jg 2 "Seeking" "another" m_8 cf))) 1000000000)
  (ai (bc (mB (m2 dIs (ae 4) kN)) (fm 3 (mq 2 "Seeking" "paper" (aX (bn (af (ae 3) (af (kBl ac) (af (pD (aS "Seeking" "paper" (aG 2))) nZ))))))) bC)
  (fm 3 (aX (bn (af (ae 3) (af (kBl ag) (af (aJ nZ) nZ)))))))))))
abbrev m_0:=aN 5 b_0
abbrev b_3:MF3:=
 (ai (aY 1 (au t9 (af (aJ (mSl (ae 0) (λ_=>aa ab) (mPt (kI 9)))) (af (kI 4) nZ))))
  (ai (aY 2 (au m_0 (af (au qx (af (ae 1) nZ)) (af (kI 33) nZ))))
  (ai (bc (mOr (eP (bz (kA "tuple" (ae 2)))) (mOr (mB (m2 dNe (au bJ (af (ae 2) nZ)) (kI 3))) (eP (bz (kA "list" (mIx (aw 2) (kI 0))))))) (aX (kBl ag)) bC)
  (ai (aY 3 (aJ (bg 1 [] (aV (mIx (aw 2) (kI 0))) (ax 0) kY (aJ (aw 0)))))
  (ai (aY 4 (au bJ (af (mIx (aw 2) (kI 2)) nZ)))
  (ai (aY 5 (aJ (af (kI 0) (af (kI 1) (af (au bJ (af (ae 3) nZ)) (af (au qf (af (m2 ja (au bJ (af (ae 3) nZ)) (kI 1)) (af (kI 0) nZ))) (af (m2 dN (au bJ (af (ae 3) nZ)) (kI 1)) (af (m2 bT (au qy (af (ae 0) (af (kI 1) nZ))) (m2 nC (kI 10) (kI 30))) nZ))))))))
  (ai (bc (mB (m2 dEq (m2 bT (au qy (af (ae 0) (af (kI 2) nZ))) (kI 2)) (kI 1))) (aY 5 (aJ (mf 5))) bC)
  (ai (bU (aV (ae 5)) (ax 6) (bc (eP (bz (au t4 (af (au m_0 (af (au qx (af (ae 1) nZ)) (af (ae 6) nZ))) (af (ae 3) (af (ae 6) nZ)))))) (aX (kBl ag)) bC))
  (ai (bc (eP (bz (au t4 (af (au m_0 (λM=>((af (au qx (af (ae 1) nZ)) nZ) M).map (·++[.int 1]))) (af (ae 3) (af (kI 1) nZ)))))) (aX (kBl ag)) bC)
  (aX (gG (m2 dEq (mIx (aw 2) (kI 0)) (ae 3)) (gG (m2 dIs (mIx (aw 2) (kI 1)) (kBl ac)) (m2 dEq (au bJ (af (mIx (aw 2) (kI 2)) nZ)) (ae 4))))))))))))))
abbrev m_3:=aN 7 b_3
abbrev cmN(s:Scope):LSt:=s.names.tail.filterMap λz=>match z.2 with |.local=>aa z.1 |.free=>aa z.1 | _=>ab
variable{fi:MF2}{g:L2.D->LS->Option LS}{ft:MF4}{fe:MF1}
def Qo{c:Str->Addr}{X:Cx}{d tg iter:Expr}{e:LEx}{scope:Scope}{pos:Pos}(k:Nat)(js:LN)(h:X.calm=ac)(hi:DIe c X tg iter fi)(j:∀cl U5 ex b a,DG c (X.comp scope (cmN scope) cl U5 ex b a) tg k g)(n:∀cl U5 ex b a,DTs c (X.comp scope (cmN scope) cl U5 ex b a) e ft)(i:∀cl U5 ex b a,DE c (X.comp scope (cmN scope) cl U5 ex b a) d fe)(f:km scope X.env.scope.names X.N (cmN scope) k js=ac:=by rfl)(m:∀x,j3 iter X.env x=pure x:=by intro _;rfl)(l:js.Nodup:=by decide):DO c X (.ListComp d [⟨tg,iter,e,0⟩] scope pos) (bg k js fi g ft fe):=jG k js _ h hi j n i f m l
seal DSs DS DX DE DO nU dEq gh fA pZ dIs fM qh qu pJ lX ax cN bp cZ bJ m1 m2 df c6 qt mj mB k4 au ot jJ n8 jM bg af bE dD iN tU jI fm mq oe a8 bU oa qj bc kA mIx qg mf mh aJ hU aK gN cq jg bC cf eP jH mOr ba mPt iP fQ aX cb eR eQ kX g8 ai aV aY nV cO fE mSl l6 kS bz bn ae cG aw cT ou mX qf om jQ mr pB pC pD oi aS gL jP qr mm oj oq dZ aG iJ gG vIf lU vOr iU gK mo mi
set_option hygiene false
local macro_rules
 | `(@1) => `(by first | exact Qp W | exact Qq W | exact Qr W | exact Qs W | exact Qt W | exact Qu W | exact Qv W | exact Qw W | exact Qx W | exact Qy W | exact Qz W | exact QA W | exact QB W | exact QC W | exact QD W | exact QE W | exact QF W | exact QG W | exact QH W | exact QI W | exact QJ W | exact QK W | exact QL W | exact QM W | exact QN W | exact QO W | exact QP W | exact QQ W | exact QR W | exact QS W | exact QT W | exact QU W | exact QV W | exact QW W | exact QX W | exact QY W | exact Gy W | exact QZ W | exact Q0 W | exact Q1 W | exact Q2 W | exact Q3 W | exact Q4 W | exact Q5 W | exact Q6 W | exact Q7 W | exact Gz W | exact Q8 W | exact Q9 W | exact Ra W | exact Rb W | exact Rc W | exact Re W | exact Rf W | exact Rg W | exact Rh W | exact Ri W | exact Rj W | exact Rk W | exact Rl W | exact Rm W | exact GA W | exact Rn W | exact Ro W | exact Rp W | exact Rq W | exact Rr W | exact Rs W | exact Ru W | exact Rv W | exact Rw W | exact Rx W | exact GB W | exact GC W)
 | `(@0) => `(by repeat' first | ((with_reducible show DE _ _ _ _); first | exact dv _ | exact DH | refine nG ?_ ?_ | refine wG ?_ ?_ ?_ | exact dvc _ | refine Ms _ ?_ ?_ ?_ | exact Li | exact DJ | refine DM ?_ | exact Lh | refine DE.orE ?_ ?_ | refine pM ?_ ?_ rfl W.sf PySem.boot_len ?_ | refine Ll ?_ ?_ ?_ ?_ | refine DV ?_ ?_ | refine D0 ?_ ?_ ?_ | refine DU ?_ | refine Er @1 hr ?_ | refine Mt _ ?_ @1 hr ?_ | refine Mu _ ?_ @1 hr | refine FK (dY _ ?_ ?_ (dP (pv _))) | refine FK (dY _ ?_ ?_ (dP (pvc _))) | refine nQ "In" W.rs (GD W).ok (hr.mono (by decide)) (glc rfl) W.vu W.e_66.b ?_ | refine nQ "Out" W.q4 (GE W).ok (hr.mono (by decide)) (glc rfl) W.u3 W.e_67.b ?_ | refine nQ "In" W.rs (GD W).ok (hr.mono (by decide)) rfl W.vu W.e_66.b ?_ | refine nQ "Out" W.q4 (GE W).ok (hr.mono (by decide)) rfl W.u3 W.e_67.b ?_ | refine nQ "Least" W.pz (Ry W).ok (hr.mono (by decide)) rfl W.rz W.e_68.b ?_ | refine nQ "Most" W.qa (Rz W).ok (hr.mono (by decide)) rfl W.vr W.e_69.b ?_ | refine Ef (T := "tuple") W.p5 rfl W.n7 boot_tuple rfl W.qq ?_ | refine Ef (T := "list") W.qs rfl W.n7 j2 rfl W.o6 ?_ | refine DO.de ?_) | ((with_reducible show DA _ _ _ _); first | refine ku ?_ ?_ | exact Lj) | ((with_reducible show DSs _ _ _ _); first | refine bD ?_ | refine aF ?_ ?_ | exact Mi) | ((with_reducible show PE _ _ _); first | exact pv _ | exact pvc _) | ((with_reducible show DC _ _ _ _); first | exact dvC _ | exact wT _ | refine DE.dc ?_ | refine DO.dc ?_) | ((with_reducible show DT _ _ _ _); first | refine nB ?_ ?_ ?_ ?_ | refine sR ?_ | refine DR ?_ | refine DW.dt ?_) | ((with_reducible show DO _ _ _ _); first | refine DK ?_ | refine Ec ?_ ?_ ?_ | refine Mq @1 hr ?_ | refine FX _ ?_ @1 hr ?_ | exact Of _ rfl rfl W.o6 rfl W.pb | refine Oi rfl rfl W.o6 rfl W.p4 ?_ | refine pN j2 rfl W.o6 ?_) | ((with_reducible show DS _ _ _ _); first | refine pR ?_ | refine nK _ (by assumption) ?_ | refine hJ ?_ ?_ ?_ | refine jb ?_ | refine wV _ (by assumption) ?_ | refine fN (kk := 99) du rfl ?_ ?_ ?_ | refine xG ?_ | refine En ?_ | exact Mn _ | refine tS _ (by assumption) ?_ | refine lY _ ?_ | refine EH ?_ ?_ ?_ | refine nN _ du ?_ ?_ | refine Mp (kh (i8 i7 vh vi wb ?_ (eA (DE.pe ?_) dM))) | refine Eo (kh (i8 i7 vj vm wg ?_ (eA (DE.pe ?_) dM))) | refine FP _ ?_ ?_ (vR (show DP _ _ _ _ _ from ?_) (show DZ _ _ _ _ _ from ?_) rfl) | refine OL (kh (i8 i7 vh vi wb (show DP _ _ _ _ _ from ?_) (eA (DE.pe ?_) dM)))) | ((with_reducible show DAB _ _ _ _); first | refine pH ?_ ?_ | exact Lk) | ((with_reducible show DP _ _ _ _ _); first | refine dP ?_ | refine dY _ ?_ ?_ ?_) | ((with_reducible show DG _ _ _ _ _); first | exact dgc _ _ | exact L6 _ _ (by assumption) | refine L9 rfl ?_) | ((with_reducible show DI _ _ _ _ _); first | refine nI ?_ | refine MV rfl W.oo ?_ | refine Mc rfl W.p4 ?_ | refine N4 rfl W.pb ?_) | ((with_reducible show DGs _ _ _ _ _); first | refine L8 ?_ ?_ | exact L7) | ((with_reducible show DAX _ _ _ _); first | refine FC ?_ ?_ | exact OC) | ((with_reducible show DTs _ _ _ _); first | exact Mg | refine pQ ?_) | ((with_reducible show DB _ _ _ _); first | exact dvB _ | refine xQ (dY _ ?_ ?_ (dP (pv _))) | refine DE.db ?_) | ((with_reducible show PA _ _ _); first | exact dM) | ((with_reducible show DZ _ _ _ _ _); first | refine Ol ?_ | refine Fu ?_ | exact O3) | ((with_reducible show DW _ _ _ _); first | refine wI ?_ ?_ | refine wH ?_) | ((with_reducible show DPt _ _ _ _); first | refine Eb ?_ | exact Ea) | ((with_reducible show DX _ _ _ _); first | refine FS _ ?_ @1 hr ?_ | refine OZ _ ?_ @1 hr | refine DE.dx ?_) | ((with_reducible show DL _ _ _ _); first | refine xR (dY _ ?_ ?_ (dP (pv _)))) | ((with_reducible show Cls _ _); first | exact W.ad | exact W.pu | exact W.ll | exact W.n0 | exact W.oD) | ((with_reducible show cv _ _ _); first | exact W.hY | exact W.md | exact W.og | exact W.l0 | exact W.nk | exact W.n5 | exact W.kT | exact W.kQ | exact W.kr | exact W.nq | exact W.lb | exact W.ny | exact W.lk | exact W.nL | exact W.mu | exact W.nS) | ((with_reducible show DIe _ _ _ _ _); first | refine DI.de ?_) | refine Qo _ _ rfl ?_ ?_ ?_ ?_ | (with_reducible first | exact Lu | exact LX | exact LY | exact LJ | ((refine LL ?_); with_unfolding_all assumption) | exact D5 | exact D6 | exact Lp | exact Ly | exact Lq | exact LC | exact Lr | exact Lw | exact NQ | exact LH | exact LA | exact LI | exact Lv | ((refine LM ?_); with_unfolding_all assumption) | exact LK | exact M1 | ((refine M3 ?_); with_unfolding_all assumption) | exact Lz | exact LF | exact Lx | exact LB) | intro _ _ _ _ _)
set_option hygiene true
variable{a:Wa}
def Qp(W:Wd K mg a):qD P w K mg base a 1 "_law_part_again" a.e_48 ["_law_part_here"] zC:=by
 refine W.e_48.pk (aZ (F:=zB) W.e_48.F PJ λ_ _ _ _ _ _ hr=>?_);have b:=hr.units;unfold zB;exact @0
def Rx(W:Wd K mg a):qD P w K mg base a 2 "_law_again" a.e_16 ["_law_plain_here"] qx:=by
 refine W.e_16.pk (aZ (F:=zD) W.e_16.F Gj λ_ _ _ _ _ _ hr=>?_);unfold zD;have nd:=Gj.nd;exact @0
def Qt(W:Wd K mg a):qD P w K mg base a 1 "_law_cell_at" a.e_23 ["_law_script","_law_k"] qy:=by
 refine W.e_23.pk (aZ (F:=zE) W.e_23.F PH λ_ _ _ _ _ _ hr=>?_);unfold zE;exact @0
def GC(W:Wd K mg a):qD P w K mg base a 1 "_law_fits" a.e_28 ["_law_found","_law_due","_law_most"] t4:=by
 refine W.e_28.pk (aZ (F:=zF) W.e_28.F PK λ_ _ _ _ _ _ hr=>?_);have b:=hr.units;unfold zF;exact(aF (hJ (DW.dt (sS @0 (sS @0 (DQ @0)))) @0 @0) @0)
def Qu(W:Wd K mg a):qO P w K mg base a 1 "_law_base" a.e_26 ["_law_cell","_law_many"] zG:=by
 refine W.e_26.pk (lZ (F:=t7) W.e_26.F Gh λ_ _ _ _ _ _ hr=>?_);have b:=hr.units;unfold t7;have nd:=Gh.nd;exact @0
def Qq(W:Wd K mg a):qD P w K mg base a 1 "_law_mixed" a.e_6 ["_law_cell","_law_k"] m_6:=by
 refine W.e_6.pk (aZ (F:=b_6) W.e_6.F Ge λ_ _ _ _ _ _ hr=>?_);unfold b_6;have nd:=Ge.nd;exact @0
def Qr(W:Wd K mg a):qD P w K mg base a 2 "_law_items" a.e_39 ["_law_cell","_law_k","_law_many"] zJ:=by
 refine W.e_39.pk (aZ (F:=zH) W.e_39.F Gf λ_ _ _ _ _ _ hr=>?_);unfold zH;have nd:=Gf.nd;exact @0
def Qs(W:Wd K mg a):qD P w K mg base a 3 "_law_part" a.e_24 ["_law_cell","_law_k","_law_many"] t8:=by
 refine W.e_24.pk (aZ (F:=zK) W.e_24.F Gg λ_ _ _ _ _ _ hr=>?_);have b:=hr.units;unfold zK;have nd:=Gg.nd;exact @0
def Qv(W:Wd K mg a):qD P w K mg base a 4 "_law_rule" a.e_25 ["_law_cell","_law_many"] zN:=by
 refine W.e_25.pk (aZ (F:=zM) W.e_25.F zt λ_ _ _ _ _ _ hr=>?_);have b:=hr.units;unfold zM;have nd:=zt.nd;exact(aF @0 (aF @0 (aF @0 (aF (nM 4 1 [0,1] ["_law_j","_law_cell","_law_many"] zt.nd rfl @0 @0 @0 @0) @0))))
def Rw(W:Wd K mg a):qD P w K mg base a 5 "_law_plain" a.e_27 ["_law_script","_law_top"] t9:=by
 refine W.e_27.pk (aZ (F:=zO) W.e_27.F Gi λ_ _ _ _ _ _ hr=>?_);have b:=hr.units;unfold zO;have nd:=Gi.nd;exact @0
def QF(W:Wd K mg a):gi P w K mg base a 1 "Seeking" "drop_wider" a.h8 ["self","bar"] zQ:=by
 refine W.h8.pk W.ad (fR (F:=zP) W.h8.F qw λ_ _ _ _ _ _ hr=>?_);have b:=hr.units;unfold zP;have nd:=qw.nd
 exact(O9 (w:=2) (pr:=3) (by decide) (Pa (by decide)) Pb (by decide) (nh qw.nd rfl (by first |exact bS rfl |exact bw rfl) (CA (sR @0) (xS (hu1 b) (dY "Seeking" W.ad W.hY (dP (pv 0))) @0 ⟨rfl,rfl,rfl,rfl⟩) (sE (dM)))) (CG du rfl (nI @0) (vE qw.nd rfl (by first |exact bS rfl |exact bw rfl)) (CC (wB (g:=tDG _ (ax 0)) (tt:=tDT _ (mB (m2 fA (ae 0) (aJ (gL (aS "Seeking" "watches" (aG 2)) (ae 1)))))) (te:=tD _ (ae 0)) 1 [3,0] ["why","pair","self"] qw.nd rfl (by first |exact bS rfl |exact bw rfl) rfl (vJ @0) (λ_ _ _ _ _=>(DG.pg (dgc 0 1))) (λ_ _ _ _ _=>(pQ (nB @0 @0 @0 (DL.db (xS (hu1 b) (dY "Seeking" W.ad W.hY (dP (pvc 2))) @0 ⟨rfl,rfl,rfl,rfl⟩))))) (λ_ _ _ _ _=>(DE.pe @0))))) (bD (lY 2 (fN (kk:=99) du rfl @0 @0 (bD (hJ @0 (bD (fN (kk:=99) du rfl (nI (nG (DL.dc (xR (dY "Seeking" W.ad W.md (dP (pv 0))))) @0)) @0 (bD (O6 (kh (i8 i7 PySem.F.slot_list_remove PySem.F.type_list_remove (O5 b) (FJ (hu1 b) (dY "Seeking" W.ad W.hY (dP (pv 0))) @0) (eA (DE.pe @0) (dM)))))))) @0))))))
def Qx(W:Wd K mg a):qPD P w K mg base a 1 "In" "named" a.e_40 ["self"] ua:=by
 refine W.e_40.pk W.pu (aZ (F:=zR) W.e_40.F PM λ_ _ _ _ _ _ hr=>?_);unfold zR;exact @0
def QB(W:Wd K mg a):qPD P w K mg base a 1 "In" "wants" a.e_49 ["self"] zT:=by
 refine W.e_49.pk W.pu (aZ (F:=zS) W.e_49.F PN λ_ _ _ _ _ _ hr=>?_);unfold zS;exact @0
def Qw(W:Wd K mg a):qD P w K mg base a 1 "things_of" a.e_35 ["items"] ub:=by
 refine W.e_35.pk (aZ (F:=zU) W.e_35.F Pt λ_ _ _ _ _ _ hr=>?_);unfold zU;exact(bD (jb (ND rfl rfl W.pw rfl W.su @0)))
def Qz(W:Wd K mg a):qPD P w K mg base a 2 "Least" "named" a.e_42 ["self"] uc:=by
 refine W.e_42.pk W.ll (aZ (F:=zV) W.e_42.F P7 λ_ _ _ _ _ _ hr=>?_);unfold zV;exact @0
def QD(W:Wd K mg a):qPD P w K mg base a 1 "Least" "wants" a.e_59 ["self"] zX:=by
 refine W.e_59.pk W.ll (aZ (F:=zW) W.e_59.F P8 λ_ _ _ _ _ _ hr=>?_);unfold zW;exact @0
def QA(W:Wd K mg a):qPD P w K mg base a 2 "Most" "named" a.e_45 ["self"] ud:=by
 refine W.e_45.pk W.n0 (aZ (F:=zY) W.e_45.F Qd λ_ _ _ _ _ _ hr=>?_);unfold zY;exact @0
def QE(W:Wd K mg a):qPD P w K mg base a 1 "Most" "wants" a.e_62 ["self"] z4:=by
 refine W.e_62.pk W.n0 (aZ (F:=zZ) W.e_62.F Qe λ_ _ _ _ _ _ hr=>?_);unfold zZ;exact @0
def Qy(W:Wd K mg a):qPD P w K mg base a 1 "Out" "named" a.e_41 ["self"] ue:=by
 refine W.e_41.pk W.oD (aZ (F:=z5) W.e_41.F PZ λ_ _ _ _ _ _ hr=>?_);unfold z5;exact @0
def QC(W:Wd K mg a):qPD P w K mg base a 1 "Out" "wants" a.e_54 ["self"] z7:=by
 refine W.e_54.pk W.oD (aZ (F:=z6) W.e_54.F P0 λ_ _ _ _ _ _ hr=>?_);unfold z6;exact @0
def QH(W:Wd K mg a):gi P w K mg base a 3 "Seeking" "take_guard" a.h7 ["self","why","guard"] qz:=by
 refine W.h7.pk W.ad (fR (F:=z8) W.h7.F Gq λ_ _ _ _ _ _ hr=>?_);have b:=hr.units;unfold z8;have nd:=Gq.nd;exact(aF (OQ (Dk (hu1 b) (dY "Seeking" W.ad W.kT (dP (pv 0))) (DE.pe @0) (DE.pe @0) rfl)) (aF (fN (kk:=99) du rfl @0 @0 (bD (fN (kk:=99) du rfl @0 @0 (bD (OW (kh (i8 i7 vh vi wb (OV (hu1 b) (dY "Seeking" W.ad W.hY (dP (pv 0))) (DE.pe @0) (sE (dM)) ⟨rfl,rfl,rfl,rfl⟩) (eA (pv 1) (dM))))))))) @0))
def GD(W:Wd K mg a):Pm P w K mg base CX0 1 (a.cl "In") "__init__" a.e_66 ["self","thing"] (spI ⟨K,a.cl⟩ "In" ["self","thing"].length z9):=
 W.e_66.pk W.pu (tu W.e_66.F PL λ_ _ _ _ _ _ hr=>(nP W.pu W.og (pv 0) (dv 1) tq))
def GE(W:Wd K mg a):Pm P w K mg base CX0 1 (a.cl "Out") "__init__" a.e_67 ["self","thing"] (spI ⟨K,a.cl⟩ "Out" ["self","thing"].length uf):=
 W.e_67.pk W.oD (tu W.e_67.F PY λ_ _ _ _ _ _ hr=>(nP W.oD W.n5 (pv 0) (dv 1) tq))
def QG(W:Wd K mg a):qD P w K mg base a 3 "guard_of_bar" a.e_47 ["bar"] Ab:=by
 refine W.e_47.pk (aZ (F:=Aa) W.e_47.F PB λ_ _ _ _ _ _ hr=>?_);unfold Aa;exact @0
def QM(W:Wd K mg a):gi P w K mg base a 4 "Seeking" "take_bar" a.j0 ["self","bar"] ug:=by
 refine W.j0.pk W.ad (fR (F:=Ac) W.j0.F Gr λ_ _ _ _ _ _ hr=>?_);unfold Ac;have nd:=Gr.nd;exact @0
def Ry(W:Wd K mg a):Pm P w K mg base CX0 1 (a.cl "Least") "__init__" a.e_68 ["self","bound","items"] (spI ⟨K,a.cl⟩ "Least" ["self","bound","items"].length Ad):=
 W.e_68.pk W.ll (tu W.e_68.F P6 λ_ _ _ _ _ _ hr=>(nP W.ll W.mu (pv 0) (dv 1) (nP W.ll W.l0 (pv 0) (DO.de (pN j2 rfl W.o6 (dvC 2))) tq)))
def Rz(W:Wd K mg a):Pm P w K mg base CX0 1 (a.cl "Most") "__init__" a.e_69 ["self","bound","items"] (spI ⟨K,a.cl⟩ "Most" ["self","bound","items"].length Gw):=
 W.e_69.pk W.n0 (tu W.e_69.F Qc λ_ _ _ _ _ _ hr=>(nP W.n0 W.nS (pv 0) (dv 1) (nP W.n0 W.nk (pv 0) (DO.de (pN j2 rfl W.o6 (dvC 2))) tq)))
def QI(W:Wd K mg a):qD P w K mg base a 3 "part_of" a.e_34 ["told"] Ag:=by
 refine W.e_34.pk (aZ (F:=Ae) W.e_34.F F6 λ_ _ _ _ _ _ hr=>?_);have b:=hr.units;unfold Ae;have nd:=F6.nd;exact @0
def QK(W:Wd K mg a):qD P w K mg base a 4 "body_of" a.e_2 ["rule"] m_2:=by
 refine W.e_2.pk (aZ (F:=b_2) W.e_2.F F8 λ_ _ _ _ _ _ hr=>?_);unfold b_2;exact @0
def QJ(W:Wd K mg a):qO P w K mg base a 4 "body_of" a.e_2 ["rule"] o_2:=by
 refine W.e_2.pk (lZ (F:=b_2) W.e_2.F F8 λ_ _ _ _ _ _ hr=>?_);unfold b_2;exact @0
def QL(W:Wd K mg a):qD P w K mg base a 5 "guard_of" a.e_21 ["rule"] uh:=by
 refine W.e_21.pk (aZ (F:=Ah) W.e_21.F F9 λ_ _ _ _ _ _ hr=>?_);have b:=hr.units;unfold Ah;have nd:=F9.nd;exact @0
def RA(W:Wd K mg a):b8 P w K mg base CX0 6 a.e_10.1 a.e_10.2 ["self","plain","bars","sheet"] (gM ⟨K,a.cl⟩ ["self","plain","bars","sheet"].length Aj):=
 fR (k:=5) (N:=["self","plain","bars","sheet","rule","number","bar"]) (F:=Ai) W.e_10.F Gv λcdv A outer s H U4 hr=>by
  unfold Ai;have nd:=Gv.nd;exact @0
def RB(W:Wd K mg a):gi P w K mg base a 8 "Seeking" "__init__" a.e_11 ["self","plain"] Al:=by
 refine W.e_11.pk W.ad (fR (F:=Ak) W.e_11.F Qj λ_ _ _ _ _ _ hr=>?_);unfold Ak;exact(aF (xG (Ph @0 rfl W.p6 W.p0 (RA W) (hr.mono (by decide)) W.e_10.b @0)) @0)
def Q4(W:Wd K mg a):qPD P w K mg base a 1 "In" "sure_by" a.e_51 ["self","sheet","order"] An:=by
 refine W.e_51.pk W.pu (aZ (F:=Am) W.e_51.F PQ λ_ _ _ _ _ _ hr=>?_);unfold Am;exact @0
def QN(W:Wd K mg a):qD P w K mg base a 1 "weights_of" a.e_14 ["items"] ui:=by
 refine W.e_14.pk (aZ (F:=Ao) W.e_14.F zq λ_ _ _ _ _ _ hr=>?_);have b:=hr.units;unfold Ao;have nd:=zq.nd;exact(aF (xc 1 zq.nd) (aF (fN (kk:=99) du rfl @0 @0 (bD (xf b @0 @0 (wG @0 (Oy b @0 @0 @0 ⟨rfl,rfl,rfl,rfl⟩) @0)))) (bD (OA 1 @0))))
def QP(W:Wd K mg a):qD P w K mg base a 2 "enough" a.e_7 ["items","things","lack"] m_7:=by
 refine W.e_7.pk (aZ (F:=b_7) W.e_7.F tV λ_ _ _ _ _ _ hr=>?_);have b:=hr.units;unfold b_7;have nd:=tV.nd;exact(aF @0 (aF @0 (aF @0 (aF (fN (kk:=99) du rfl @0 @0 (aF (nK 7 tV.nd (OH b @0 @0 @0 ⟨rfl,rfl,rfl,rfl⟩)) (bD (hJ @0 (aF @0 (bD (Pj 5 tV.nd @0))) @0)))) @0))))
def QO(W:Wd K mg a):qD P w K mg base a 1 "with_entry" a.e_15 ["things","sheet","truth"] ox:=by
 refine W.e_15.pk (aZ (F:=Ap) W.e_15.F Pz λ_ _ _ _ _ _ hr=>?_);have b:=hr.units;unfold Ap;exact(bD (jb (jG 1 [2,1] ["thing","truth","sheet"] rfl @0 @0 @0 @0)))
def Q6(W:Wd K mg a):qPD P w K mg base a 3 "Least" "sure_by" a.e_61 ["self","sheet","order"] Ar:=by
 refine W.e_61.pk W.ll (aZ (F:=Aq) W.e_61.F Qa λ_ _ _ _ _ _ hr=>?_);unfold Aq;exact @0
def QQ(W:Wd K mg a):qD P w K mg base a 1 "worth_of" a.e_36 ["items"] uj:=by
 refine W.e_36.pk (aZ (F:=As) W.e_36.F Px λ_ _ _ _ _ _ hr=>?_);unfold As;exact(bD (pR (pM (wL rfl) wM rfl W.ro boot_sum @0)))
def Q7(W:Wd K mg a):qPD P w K mg base a 3 "Most" "sure_by" a.e_64 ["self","sheet","order"] Au:=by
 refine W.e_64.pk W.n0 (aZ (F:=At) W.e_64.F Qg λ_ _ _ _ _ _ hr=>?_);unfold At;exact @0
def Q5(W:Wd K mg a):qPD P w K mg base a 1 "Out" "sure_by" a.e_56 ["self","sheet","order"] Aw:=by
 refine W.e_56.pk W.oD (aZ (F:=Av) W.e_56.F P2 λ_ _ _ _ _ _ hr=>?_);unfold Av;exact @0
def QZ(W:Wd K mg a):qPD P w K mg base a 1 "In" "lost_by" a.e_53 ["self","sheet","without","order"] Ay:=by
 refine W.e_53.pk W.pu (aZ (F:=Ax) W.e_53.F PV λ_ _ _ _ _ _ hr=>?_);unfold Ax;exact @0
def QR(W:Wd K mg a):qD P w K mg base a 1 "outside" a.e_37 ["items","without"] uk:=by
 refine W.e_37.pk (aZ (F:=Az) W.e_37.F Py λ_ _ _ _ _ _ hr=>?_);unfold Az;exact @0
def Q1(W:Wd K mg a):qPD P w K mg base a 3 "Least" "lost_by" a.e_44 ["self","sheet","without","order"] AB:=by
 refine W.e_44.pk W.ll (aZ (F:=AA) W.e_44.F Gm λ_ _ _ _ _ _ hr=>?_);unfold AA;have nd:=Gm.nd;exact @0
def Q2(W:Wd K mg a):qPD P w K mg base a 3 "Most" "lost_by" a.e_65 ["self","sheet","without","order"] AD:=by
 refine W.e_65.pk W.n0 (aZ (F:=AC) W.e_65.F Qi λ_ _ _ _ _ _ hr=>?_);unfold AC;exact @0
def Q0(W:Wd K mg a):qPD P w K mg base a 1 "Out" "lost_by" a.e_58 ["self","sheet","without","order"] AF:=by
 refine W.e_58.pk W.oD (aZ (F:=AE) W.e_58.F P5 λ_ _ _ _ _ _ hr=>?_);unfold AE;exact @0
def QU(W:Wd K mg a):qPD P w K mg base a 1 "In" "lost" a.e_29 ["self","sheet","without"] qA:=by
 refine W.e_29.pk W.pu (aZ (F:=AG) W.e_29.F PU λ_ _ _ _ _ _ hr=>?_);unfold AG;exact(bD (pR (Lo @0 @0)))
def QS(W:Wd K mg a):qD P w K mg base a 1 "worth_not_out" a.e_13 ["items","sheet"] oy:=by
 refine W.e_13.pk (aZ (F:=AH) W.e_13.F Pw λ_ _ _ _ _ _ hr=>?_);unfold AH;exact(bD (pR (pM (wL rfl) wM rfl W.ro boot_sum @0)))
def QW(W:Wd K mg a):qPD P w K mg base a 2 "Least" "lost" a.e_31 ["self","sheet","without"] qB:=by
 refine W.e_31.pk W.ll (aZ (F:=AI) W.e_31.F Qb λ_ _ _ _ _ _ hr=>?_);unfold AI;exact @0
def QT(W:Wd K mg a):qD P w K mg base a 1 "worth_in" a.e_19 ["items","entries"] qC:=by
 refine W.e_19.pk (aZ (F:=AJ) W.e_19.F Pu λ_ _ _ _ _ _ hr=>?_);unfold AJ;exact(bD (pR (pM (wL rfl) wM rfl W.ro boot_sum @0)))
def QX(W:Wd K mg a):qPD P w K mg base a 2 "Most" "lost" a.e_32 ["self","sheet","without"] qE:=by
 refine W.e_32.pk W.n0 (aZ (F:=AK) W.e_32.F Qh λ_ _ _ _ _ _ hr=>?_);unfold AK;exact @0
def QV(W:Wd K mg a):qPD P w K mg base a 1 "Out" "lost" a.e_30 ["self","sheet","without"] qF:=by
 refine W.e_30.pk W.oD (aZ (F:=AL) W.e_30.F P4 λ_ _ _ _ _ _ hr=>?_);unfold AL;exact @0
def Gy(W:Wd K mg a):qD P w K mg base a 3 "lost_part" a.e_5 ["body","sheet","without"] m_5:=by
 refine W.e_5.pk (aZ (F:=b_5) W.e_5.F Gb λ_ _ _ _ _ _ hr=>?_);unfold b_5;have nd:=Gb.nd;exact @0
def QY(W:Wd K mg a):qD P w K mg base a 1 "marks" a.e_1 ["many","some"] m_1:=by
 refine W.e_1.pk (aZ (F:=b_1) W.e_1.F ow λ_ _ _ _ _ _ hr=>?_);have b:=hr.units;unfold b_1;have nd:=ow.nd;exact(aF (xc 2 ow.nd) (aF (fN (kk:=99) du rfl @0 @0 (bD (xf b @0 @0 @0))) (bD (lY 2 (jb (jG 1 [2] ["thing","listed"] rfl @0 @0 @0 (λ_ _ _ _ _=>(EG b @0 @0))))))))
def Q8(W:Wd K mg a):qO P w K mg base a 1 "marks" a.e_1 ["many","some"] o_1:=by
 refine W.e_1.pk (lZ (F:=b_1) W.e_1.F ow λ_ _ _ _ _ _ hr=>?_);have b:=hr.units;unfold b_1;have nd:=ow.nd;exact(aF (xc 2 ow.nd) (aF (fN (kk:=99) du rfl @0 @0 (bD (xf b @0 @0 @0))) (bD (lY 2 (jb (jG 1 [2] ["thing","listed"] rfl @0 @0 @0 (λ_ _ _ _ _=>(EG b @0 @0))))))))
def Q3(W:Wd K mg a):qPO P w K mg base a 4 "Seeking" "grounds_of_group" a.e_9 ["self","sheet","group","order"] o_9:=by
 refine W.e_9.pk W.ad (lZ (F:=b_9) W.e_9.F zx λ_ _ _ _ _ _ hr=>?_);unfold b_9;have nd:=zx.nd
 exact(aF @0 (aF (wV 5 zx.nd (by refine Ec ?a ?b ?c;(case a=>exact(DO.de (jG 1 [4,1] ["thing","without","sheet"] rfl (DI.de (nI (dv 3))) (λ_ _ _ _ _=>(dgc 0 1)) (λ_ _ _ _ _=>(pQ (DW.dt (wI (sR (DE.db (nG (wT 1) (dvc 0)))) (wH (nB D5 D6 (DE.db (nG (wT 2) (dvc 0))) (DE.db DJ))))))) (λ_ _ _ _ _=>(dvc 0)))));(case b=>exact Ea);(case c=>exact(Eb DH)))) @0))
def Gz(W:Wd K mg a):qPO P w K mg base a 5 "Seeking" "grounds" a.e_4 ["self","sheet","why","order"] o_4:=by
 refine W.e_4.pk W.ad (lZ (F:=b_4) W.e_4.F Gp λ_ _ _ _ _ _ hr=>?_);have b:=hr.units;unfold b_4;have nd:=Gp.nd;exact(aF @0 (aF @0 (aF @0 (aF (fN (kk:=99) du rfl (nI (Pn (hu1 b) @0 @0)) @0 @0) @0))))
def RC(W:Wd K mg a):qD P w K mg base a 1 "needed_first" a.e_38 ["order","needed"] ul:=by
 refine W.e_38.pk (aZ (F:=AM) W.e_38.F PF λ_ _ _ _ _ _ hr=>?_);unfold AM;exact(bD (jb (E6 @0 @0)))
def Q9(W:Wd K mg a):qD P w K mg base a 1 "own_why" a.e_22 ["why"] qG:=by
 refine W.e_22.pk (aZ (F:=AN) W.e_22.F PD λ_ _ _ _ _ _ hr=>?_);have b:=hr.units;unfold AN;exact @0
def Ra(W:Wd K mg a):gi P w K mg base a 6 "Seeking" "line_to" a.e_17 ["self","why"] AQ:=by
 refine W.e_17.pk W.ad (fR (F:=AO) W.e_17.F tX λ_ _ _ _ _ _ hr=>?_);unfold AO;have nd:=tX.nd;exact(aF (wV 2 tX.nd (pN j2 rfl W.o6 (DL.dc (xR (dY "Seeking" W.ad W.kr (dP (pv 0))))))) (aF (nM 5 2 [] ["pair","cause"] tX.nd rfl (FU @0) @0 @0 @0) (aF @0 (aF @0 (aF @0 (aF (FZ 0 "Seeking" "steps" (fN (kk:=99) du rfl @0 @0 (aF @0 (aF (hJ @0 @0 (bD (hJ @0 (aF @0 (aF (EH @0 @0 (DY @0)) (bD (fN (kk:=99) du rfl (nI (DO.de (FX "Seeking" @0 (Gz W) hr (pH @0 (pH @0 (pH (Ff (RC W) hr @0) @0)))))) @0 @0)))) @0))) @0)))) @0))))))
def Rb(W:Wd K mg a):gi P w K mg base a 1 "Seeking" "place_for" a.e_33 ["self","bar"] AS:=by
 refine W.e_33.pk W.ad (fR (F:=AR) W.e_33.F zw λ_ _ _ _ _ _ hr=>?_);have b:=hr.units;unfold AR;exact(aF (nM 2 2 [] ["place","step"] zw.nd rfl @0 @0 @0 @0) (aF (nM 3 1 [0] ["place","self"] zw.nd rfl @0 @0 @0 @0) (bD (En (nG @0 (D0 @0 @0 (wG @0 (OG (i8 i7 PySem.F.slot_list_index PySem.F.type_list_index (FD b) (DE.pe @0) (eA (DE.pe (nG @0 (LG @0))) (dM)))) @0)))))))
def Rc(W:Wd K mg a):gi P w K mg base a 1 "Seeking" "take_back" a.ir ["self","many"] AU:=by
 refine W.ir.pk W.ad (fR (F:=AT) W.ir.F Gs λ_ _ _ _ _ _ hr=>?_);unfold AT;have nd:=Gs.nd;exact(aF (fN (kk:=99) du rfl @0 @0 (bD (FL (vH (DE.pe @0) (vG (dY "Seeking" W.ad W.kr (dP (pv 0))) (DE.pe @0) vY (by intro _;rfl)) rfl rfl rfl)))) @0)
def Rv(W:Wd K mg a):gi P w K mg base a 7 "Seeking" "close" a.e_12 ["self","why"] oz:=by
 refine W.e_12.pk W.ad (fR (F:=AV) W.e_12.F Go λ_ _ _ _ _ _ hr=>?_);unfold AV;have nd:=Go.nd;exact @0
def GA(W:Wd K mg a):gi P w K mg base a 1 "Seeking" "put" a.ld ["self","thing","truth","why"] oA:=by
 refine W.ld.pk W.ad (fR (F:=AW) W.ld.F Qk λ_ _ _ _ _ _ hr=>?_);have b:=hr.units;unfold AW;exact(aF (FL (vH (DE.pe @0) (vG (dY "Seeking" W.ad W.kr (dP (pv 0))) (DE.pe @0) vY (by intro _;rfl)) rfl rfl rfl)) (aF @0 (bD (OM (kh (i8 i7 vj vm wg (dY "Seeking" W.ad W.kQ (dP (pv 0))) (eA (xS (hu1 b) (dY "Seeking" W.ad W.hY (dP (pv 0))) @0 ⟨rfl,rfl,rfl,rfl⟩) (dM))))))))
def Rf(W:Wd K mg a):qPD P w K mg base a 1 "In" "sure" a.e_50 ["self","sheet"] AY:=by
 refine W.e_50.pk W.pu (aZ (F:=AX) W.e_50.F PP λ_ _ _ _ _ _ hr=>?_);unfold AX;exact @0
def Rj(W:Wd K mg a):qPD P w K mg base a 1 "In" "tips" a.e_52 ["self","sheet"] A0:=by
 refine W.e_52.pk W.pu (aZ (F:=AZ) W.e_52.F PR λ_ _ _ _ _ _ hr=>?_);unfold AZ;exact @0
def Rh(W:Wd K mg a):qPD P w K mg base a 2 "Least" "sure" a.e_60 ["self","sheet"] A2:=by
 refine W.e_60.pk W.ll (aZ (F:=A1) W.e_60.F P9 λ_ _ _ _ _ _ hr=>?_);unfold A1;exact @0
def Re(W:Wd K mg a):qD P w K mg base a 2 "heavy" a.e_20 ["items","sheet","lack"] um:=by
 refine W.e_20.pk (aZ (F:=A3) W.e_20.F F7 λ_ _ _ _ _ _ hr=>?_);have b:=hr.units;unfold A3;have nd:=F7.nd;exact(aF @0 (bD (jb (jG 1 [2,3] ["thing","lack","weights"] rfl (DI.de (Ow @0)) @0 (λ_ _ _ _ _=>(pQ (nB @0 @0 (DE.db (Ox b @0 @0)) @0))) @0))))
def Rl(W:Wd K mg a):qPD P w K mg base a 3 "Least" "tips" a.e_43 ["self","sheet"] A5:=by
 refine W.e_43.pk W.ll (aZ (F:=A4) W.e_43.F Gk λ_ _ _ _ _ _ hr=>?_);unfold A4;have nd:=Gk.nd;exact @0
def Ri(W:Wd K mg a):qPD P w K mg base a 2 "Most" "sure" a.e_63 ["self","sheet"] A7:=by
 refine W.e_63.pk W.n0 (aZ (F:=A6) W.e_63.F Qf λ_ _ _ _ _ _ hr=>?_);unfold A6;exact @0
def Rm(W:Wd K mg a):qPD P w K mg base a 3 "Most" "tips" a.e_46 ["self","sheet"] A9:=by
 refine W.e_46.pk W.n0 (aZ (F:=A8) W.e_46.F Gn λ_ _ _ _ _ _ hr=>?_);unfold A8;have nd:=Gn.nd;exact @0
def Rg(W:Wd K mg a):qPD P w K mg base a 1 "Out" "sure" a.e_55 ["self","sheet"] Bb:=by
 refine W.e_55.pk W.oD (aZ (F:=Ba) W.e_55.F P1 λ_ _ _ _ _ _ hr=>?_);unfold Ba;exact @0
def Rk(W:Wd K mg a):qPD P w K mg base a 1 "Out" "tips" a.e_57 ["self","sheet"] Bd:=by
 refine W.e_57.pk W.oD (aZ (F:=Bc) W.e_57.F P3 λ_ _ _ _ _ _ hr=>?_);unfold Bc;exact @0
def RD(W:Wd K mg a):Pk P w K mg base CX0 4 "pressed_by" a.e_70 ["guard","sheet"] (spN ⟨K,a.cl⟩ ["guard","sheet"].length Bf):=by
 refine W.e_70.pk (O7 (F:=Be) W.e_70.F Ga λ_ _ _ _ _ _ hr=>?_);have b:=hr.units;unfold Be;have nd:=Ga.nd;exact(aF @0 (aF @0 (aF @0 (bD (jb (jG 2 [] ["thing","truth"] rfl @0 @0 @0 (λ_ _ _ _ _=>(DM (ku @0 (ku (DY @0) @0))))))))))
def Rr(W:Wd K mg a):gi P w K mg base a 5 "Seeking" "look_round" a.h9 ["self"] Bh:=by
 refine W.h9.pk W.ad (fR (F:=Bg) W.h9.F tY λ_ _ _ _ _ _ hr=>?_);have b:=hr.units;unfold Bg;have nd:=tY.nd;exact(aF (nN 1000000000 du @0 (aF (tS 1 tY.nd (ON (i8 i7 PySem.F.slot_list_pop PySem.F.type_list_pop KF (dY "Seeking" W.ad W.kQ (dP (pv 0))) (eA Cz (dM))))) (aF (nK 2 tY.nd (O8 (RD W) hr (pH (xQ (FJ (hu1 b) (dY "Seeking" W.ad W.kT (dP (pv 0))) @0)) @0))) @0))) @0)
def Ro(W:Wd K mg a):qPD P w K mg base a 3 "Seeking" "keeping" a.kv ["self","part","without"] Bj:=by
 refine W.kv.pk W.ad (aZ (F:=Bi) W.kv.F Qm λ_ _ _ _ _ _ hr=>?_);unfold Bi;exact @0
def Rn(W:Wd K mg a):qPD P w K mg base a 4 "Seeking" "lost_parts" a.ii ["self","thing","without"] Bl:=by
 refine W.ii.pk W.ad (aZ (F:=Bk) W.ii.F Ql λ_ _ _ _ _ _ hr=>?_);have b:=hr.units;unfold Bk;exact(bD (jb (jG 2 [2,0,1] ["head","body","without","self","thing"] rfl @0 @0 @0 @0)))
def Rq(W:Wd K mg a):qPO P w K mg base a 5 "Seeking" "kernel" a.kF ["self","thing","without"] k5:=by
 refine W.kF.pk W.ad (lZ (F:=qH) W.kF.F zA λ_ _ _ _ _ _ hr=>?_);unfold qH;have nd:=zA.nd;exact(aF @0 (aF @0 (aF (nN 1000000000 du @0 (aF (fN (kk:=99) du rfl @0 @0 (bD (Eo (kh (i8 i7 vj vm wg (pv 3) (eA (DE.pe (DO.de (jG 1 [3] ["other","found"] rfl @0 @0 (λ_ _ _ _ _=>(pQ (nB LR LO @0 (Mh 1)))) @0))) (dM))))))) (bD (OF 4 zA.nd @0)))) (bD (lY 3 (jb (NM rfl rfl W.pw @0)))))))
def Rp(W:Wd K mg a):gi P w K mg base a 4 "Seeking" "loose_marks" a.h6 ["self"] Bo:=by
 refine W.h6.pk W.ad (fR (F:=Bm) W.h6.F tZ λ_ _ _ _ _ _ hr=>?_);unfold Bm;have nd:=tZ.nd;exact(aF (Ml 1 1 [] ["entry"] tZ.nd rfl (FU @0) (λ_ _ _ _ _=>@0) (λ_ _ _ _ _=>@0) (λ_ _ _ _ _=>@0)) (aF @0 (aF @0 (aF @0 (aF (nN 1000000000 du @0 (aF @0 (aF @0 (aF (fN (kk:=99) du rfl @0 @0 (bD (hJ (DW.dt (wI @0 (wH (nB @0 @0 (Ff (Gy W) hr @0) @0)))) @0 @0))) (aF @0 (bD (nK 4 tZ.nd (DV @0 (DU (pM (MQ rfl) MR rfl W.r4 boot_any @0)))))))))) (aF (lY 2 (FP "Seeking" W.ad W.lb (vR (dP (pv 0)) (Fu (DO.de (E6 @0 @0))) rfl))) @0))))))
def Rs(W:Wd K mg a):gi P w K mg base a 6 "Seeking" "put_loose_out" a.as ["self"] Bq:=by
 refine W.as.pk W.ad (fR (F:=Bp) W.as.F zy λ_ _ _ _ _ _ hr=>?_);unfold Bp;have nd:=zy.nd;exact(aF @0 (aF (nM 3 2 [1] ["thing","entry","without"] zy.nd rfl (O2 rfl W.oo @0) @0 @0 @0) @0))
def Ru(W:Wd K mg a):gi P w K mg base a 7 "Seeking" "settle" a.ky ["self"] qI:=by
 refine W.ky.pk W.ad (fR (F:=Br) W.ky.F Gu λ_ _ _ _ _ _ hr=>?_);unfold Br;have nd:=Gu.nd;exact @0
def RE(W:Wd K mg a):qO P w K mg base a 1 "numbers" a.e_18 ["truths"] qJ:=by
 refine W.e_18.pk (lZ (F:=Bs) W.e_18.F Ps λ_ _ _ _ _ _ hr=>?_);unfold Bs;exact @0
def GF(W:Wd K mg a):gi P w K mg base a 8 "Seeking" "another" a.e_8 ["self"] m_8:=by
 refine W.e_8.pk W.ad (fR (F:=b_8) W.e_8.F zu λ_ _ _ _ _ _ hr=>?_);have b:=hr.units;unfold b_8;have nd:=zu.nd;exact(aF (nN 1000000000 du @0 (aF @0 (bD (hJ @0 @0 (bD (hJ @0 (bD (xG (FS "Seeking" @0 (GA W) hr (FC (DE.dx (Pl (i8 i7 PySem.F.slot_list_index PySem.F.type_list_index (FD b) (xQ (dY "Seeking" W.ad W.kr (dP (pv 0)))) (eA (DE.pe @0) (dM))))) @0)))) (aF (nK 2 zu.nd (DO.de (NI (RE W) hr @0))) (aF @0 (aF (Pi "Seeking" W.ad W.lk @0 @0) @0))))))))) @0)
def GB(W:Wd K mg a):qD P w K mg base a 10 "worlds" a.e_0 ["plain","most"] m_0:=by
 refine W.e_0.pk (Pp (F:=b_0) W.e_0.F qv λ_ _ _ _ _ _ hr=>?_);unfold b_0;have nd:=qv.nd;exact(aF (Om 2 qv.nd (O1 "Seeking" W.pj (RB W).ok (hr.mono (by decide)) rfl W.ri W.e_11.b @0)) (aF @0 (aF (tS 4 qv.nd (FT "Seeking" @0 (GF W) hr)) (aF (nN 1000000000 du @0 (aF @0 (bD (tS 4 qv.nd (FT "Seeking" @0 (GF W) hr))))) (aF (hJ @0 (bD (lY 3 (FZ 2 "Seeking" "paper" @0))) @0) @0)))))
def RF(W:Wd K mg a):qD P w K mg base a 11 "law" a.e_3 ["_law_script"] m_3:=by
 refine W.e_3.pk (aZ (F:=b_3) W.e_3.F tW λ_ _ _ _ _ _ hr=>?_);have b:=hr.units;unfold b_3;have nd:=tW.nd;exact(aF @0 (aF @0 (aF (hJ (DW.dt (sS @0 (sS @0 (DQ @0)))) @0 @0) (aF (nM 3 1 [] ["_law_world"] tW.nd rfl @0 @0 @0 (λ_ _ _ _ _=>(DO.de (pN j2 (glc rfl) W.o6 @0)))) (aF @0 (aF (nK 5 tW.nd (DO.de (DK (ku @0 (ku @0 (ku @0 (ku (LW (Oj rfl) rfl W.sk boot_max @0) @0))))))) (aF @0 (aF @0 (aF (hJ (DR (sR (DE.db (Er (GC W) hr (ku (Pq (n:=1) (GB W).ok (hr.mono (by decide)) rfl W.e_0.g W.e_0.F.kp W.rc @0) @0))))) @0 @0) @0)))))))))
unseal DSs DS DX DE DO nU dEq gh fA pZ dIs fM qh qu pJ lX ax cN bp cZ bJ m1 m2 df c6 qt mj mB k4 au ot jJ n8 jM bg af bE dD iN tU jI fm mq oe a8 bU oa qj bc kA mIx qg mf mh aJ hU aK gN cq jg bC cf eP jH mOr ba mPt iP fQ aX cb eR eQ kX g8 ai aV aY nV cO fE mSl l6 kS bz bn ae cG aw cT ou mX qf om jQ mr pB pC pD oi aS gL jP qr mm oj oq dZ aG iJ gG vIf lU vOr iU gK mo mi
local macro_rules | `(tactic| walk_at "evS")=>`(tactic| first | decide | lia | assumption | exact ⟨by decide,by decide⟩ | exact ⟨by lia,by lia⟩ | exact .inl ⟨by decide,by decide⟩ | exact .inr ⟨by decide,by decide⟩ | exact .inl ⟨by lia,by lia⟩ | exact .inr ⟨by lia,by lia⟩ | exact ⟨by decide,by decide,by decide⟩)
local macro_rules | `(tactic| walk_at "evO")=>`(tactic| first | with_reducible exact fB | with_reducible exact jN | with_reducible exact qd | with_reducible exact jf | with_reducible exact dLe_eq | with_reducible exact Fa | with_reducible exact jK _ _ | with_reducible exact dNe_int _ _ | ((with_reducible apply cp); (focus walk_at "evS")) | ((with_reducible apply kO); (focus walk_at "evS")) | ((with_reducible apply dMul_eq); (focus walk_at "evS")) | ((with_reducible apply n9); (focus first | assumption | exact .inl (by walk_at "evS") | exact .inr ⟨by lia,by lia⟩)) | ((with_reducible apply qc); (focus walk_at "evS")) | ((with_reducible apply dShr_eq); (focus walk_at "evS")) | with_reducible exact pU _ _ | with_reducible exact dNe_str _ _ | with_reducible exact dEq_bl _ _ | with_reducible exact dAndB_eq | exact dEq_nil _ _ | exact dNe_nil _ _ | assumption | rfl)
local macro_rules | `(tactic| walk_at "ev")=>`(tactic| first
 | with_reducible assumption
 | ((with_reducible apply ap); (focus walk_at "ev"); (focus walk_at "ev"); (focus walk_at "evO"))
 | ((with_reducible apply bq); (focus walk_at "ev"))
 | ((with_reducible apply cI); (focus walk_at "ev"); (focus first | assumption | rfl))
 | ((with_reducible apply jc); (focus walk_at "ev"); (focus walk_at "ev"))
 | ((with_reducible apply l5); (focus walk_at "ev"); (focus walk_at "ev"))
 | ((with_reducible apply kG); (focus walk_at "ev"))
 | ((with_reducible apply kH); (focus walk_at "ev"); (focus walk_at "ev"))
 | ((with_reducible apply Ey); (focus walk_at "ev"); (focus walk_at "ev"))
 | ((with_reducible apply vNot_eq); (focus walk_at "ev"))
 | ((with_reducible apply am); (focus walk_at "ev"); (focus walk_at "ev"))
 | ((with_reducible apply cP); (focus walk_at "ev"))
 | ((with_reducible apply bH); (focus walk_at "ev"))
 | ((with_reducible apply aD); (focus walk_at "ev"); (focus first | with_reducible assumption | with_reducible exact dO _ _ | assumption | exact dO _ _ | exact Fb _ _ | rfl))
 | ((with_reducible apply callS_is); (focus walk_at "ev"); (focus assumption); (focus rfl))
 | ((with_reducible apply be); (focus walk_at "ev"); (focus walk_at "ev"); (focus first | assumption | rfl))
 | ((with_reducible apply Fd); (focus walk_at "ev"); (focus rfl); (focus rfl))
 | ((with_reducible apply n4); (focus walk_at "ev"); (focus rfl); (focus rfl))
 | ((with_reducible apply fu); (focus walk_at "ev"); (focus rfl))
 | rfl)
local macro_rules | `(tactic| walk_at "nrm")=>`(tactic| simp only [E7,oS,rR])
local macro_rules | `(tactic| walk_at "set")=>`(tactic| (apply ak; (first | with_reducible apply bi | with_reducible apply dW); (focus walk_at "ev"); walk_at "nrm"))
local macro_rules | `(tactic| walk_at "if0")=>`(tactic| ((with_reducible first | apply aU | apply dX); (focus walk_at "ev")))
def p60:(0:Int)<10 ^ (60:Int).toNat:=by decide
def GG:ki 10 60:=⟨by decide,by decide,by decide⟩
variable{M:LS}
def RG{d c:Type}{k:Nat}{js:LN}(B:List d)(f:d->D)(q:c->D)(P:c->Prop)
 (hi:fi M=aa (B.map f))(hz:B.length<=16777216)(i:∀x∈B,∃z,P z/\ga g ft fe (g9 k js M) (f x)=aa (aa (q z))):∃a:List c,bg k js fi g ft fe M=aa (a.map q)/\a.length=B.length/\∀z∈a,P z:=by
 have key:∀b:List d,(∀x∈b,∃z,P z/\ga g ft fe (g9 k js M) (f x)=aa (aa (q z)))->∃a:List c,eB (ga g ft fe (g9 k js M)) (b.map f)=aa (a.map q)/\a.length=b.length/\∀z∈a,P z:=by
  intro b
  induction b with
  |nil=>intro _;exact⟨[],rfl,rfl,λz hz=>nomatch hz⟩
  |cons y b m=>
   intro h;obtain⟨z,u,n⟩:=h y aH;obtain⟨a,e,l,p⟩:=m λx j=>h x (bj _ j);refine⟨z::a,?_,by rw[bO,bO,l],λw r=>?_⟩
   .rw[bF];unfold eB
    grind
   .grind
 obtain⟨a,e,l,p⟩:=key B i;refine⟨a,?_,l,p⟩;unfold bg
 grind
abbrev nmP:Prt->LI0
 |.inn t=>[t]
 |.out t=>[t]
 |.least _ E=>E.map (·.1)
 |.most _ E=>E.map (·.1)
variable{f:MF1}
def GH{g:MF1}{a b:LD}(h:f M=aa (.lst a))(h':g M=aa (.lst b))(c:a.length+b.length<=16777216):jM f g M=aa (a++b):=by
 unfold jM
 grind
abbrev inS(B:LI0)(i:Nat):Bool:=B.any λx=>x==(i:Int)
def RH(ks:List Key)(k j:Key):fP (gH ks k) j=(fP ks j || decide (k=j)):=by
 unfold gH
 by_cases e:fP ks k=ac
 .grind
 .rw[if_neg e];unfold fP;simp
def RI(ks:List Key)(k:Key):(gH ks k).length<=ks.length+1:=by
 unfold gH
 grind
variable{i:Nat}{fk fv:MF1}{d:L2.D}{B:LD}
def RJ{x:D}{k:Key}{ks:List Key}(a:fv M=aa d)(h2:fk M=aa x)(b:iO x=aa k)(c:M[i]?=aa (.ownd ks B))(e:ks.length<16777216):
  iP i fk fv M=aa (.nx (M.set i (.ownd (gH ks k) (hX ks B k d)))):=by
 unfold iP
 grind
def GI(n:Int)(B:LI0)(d:0<=n)(m:n<=60)(i:B.length<=1000000):b_1 (fq 4 [.int n,.lst (B.map D.int)])=aa (.rtO (((bI n.toNat).map (inS B)).map D.bl)):=by
 obtain⟨ρ',e,ks,ds,b,rfl,c,a⟩:=MB (g:=ax 3) (F:=iP 2 (ae 3) (λ_=>aa _)) (fi:=aV (ae 1)) B D.int
  (λpre M=>∃(ks:List Key) (ds:LD) (b:Sl),M=[.im (.int n),.im (.lst (B.map D.int)),.ownd ks ds,b]/\ks.length<=pre.length/\∀k:Int,fP ks (.inl k)=pre.any λx=>x==k)
  rfl ⟨[],[],.no,rfl,aM _,λ_=>rfl⟩ (by
   rintro pre x post M ex ⟨ks,ds,b,rfl,c,a⟩;have l:pre.length<B.length:=by rw[ex];simp
   refine⟨_,_,rfl,.inl (RJ rfl rfl rfl rfl (by lia)),gH ks _,_,_,rfl,?_,λk=>?_⟩
   .have:=RI ks (.inl x);rw[aR];show _<=pre.length+1
    lia
   .rw[RH,a,any_append]
    congr 1
    simp only[fY,any_nil,Bool.or_false]
    by_cases h:x=k
    .subst h;simp
    .rw[decide_eq_false (λq=>h (sn q))];exact(beq_eq_false_iff_ne.mpr h).symm)
 refine tz rfl (tz e ?_);rw[map_map];refine congrArg _ (gb _ _ _ (pV rfl d (by lia)) (by rw[cK];lia) λj f=>?_);refine fO rfl rfl (ap rfl rfl ?_);show aa _=_;rw[a];rfl
def GJ(n:Int)(B:LI0)(b:0<=n)(c:n<=60)(a:B.length<=1000000):m_1 [.int n,.lst (B.map D.int)]=aa (.lst (((bI n.toNat).map (inS B)).map D.bl)):=kB (GI n B b c a)
abbrev qK(ws:LB0):LI0:=((bI ws.length).filter λi=>ws.getD i ag).map λ(i:Nat)=>(i:Int)
def RK(ws:LB0)(i:Int):i∈qK ws↔0<=i/\ws.getD i.toNat ag=ac:=by
 unfold qK;rw[aT];constructor
 .rintro⟨j,a,rfl⟩;obtain⟨_,b⟩:=cL.mp a;exact⟨by lia,by exact b⟩
 .rintro⟨d,h⟩;refine⟨i.toNat,cL.mpr ⟨fX.mpr ?_,h⟩,by lia⟩
  by_cases c:i.toNat<ws.length
  .exact c
  .rw[cg,ij (by lia)]at h
   nomatch h
def GK(p:Prt):Ag [p.toD]=aa p.obj:=by
 cases p <;> rfl
variable{es:LOB}{E:LII}
def Bt(h:InN es.length E)(hz:E.length<=100000):qC [.lst (E.map itD),.lst (es.map shD)]=aa (.int (cF (·==aa ac) es E)):=by
 exact c8 (c7 (aD (am (bH (eC E itD _ _ rfl (by lia) λz a=>(dA rfl (bq (ap (be rfl rfl (iL (h z a).1 (h z a).2.1)) rfl (nR _ _))) λ_=>rfl))) rfl) (wX (λt=>es.getD t.toNat ab==aa ac) E)))
def Bu(h:InN es.length E)(hz:E.length<=100000):oy [.lst (E.map itD),.lst (es.map shD)]=aa (.int (cF (λe=>!(e==aa ag)) es E)):=by
 exact c8 (c7 (aD (am (bH (eC E itD _ _ rfl (by lia) λz a=>(dA rfl (bq (ap (be rfl rfl (iL (h z a).1 (h z a).2.1)) rfl (Ez _ _))) λ_=>rfl))) rfl) (wX (λt=>!(es.getD t.toNat ab==aa ag)) E)))
variable{ws:LB0}
def GL(h:InN es.length E)(c:ws.length=es.length)(hz:E.length<=100000):
  uk [.lst (E.map itD),.lst (ws.map D.bl)]=aa (.lst ((E.filter λz=>!(ws.getD z.1.toNat ag)).map itD)):=by
 refine kB (congrArg _ (eC E itD _ itD rfl (by lia) λz a=>?_));have b:=h z a;exact dA rfl (kG (cI (be rfl rfl (jd b.1 (by rw[c];exact b.2.1))) rfl)) λ_=>rfl
def RL(h:InN es.length E)(hz:E.length<=100000):
  oy [.lst ((E.filter λz=>!(ws.getD z.1.toNat ag)).map itD),.lst (es.map shD)]=aa (.int (g5 (λt=>!(es.getD t.toNat ab==aa ag) && !(ws.getD t.toNat ag)) E)):=by
 have c:=fV (λz:Int×Int=>!(ws.getD z.1.toNat ag)) E;have a:InN es.length (E.filter λz=>!(ws.getD z.1.toNat ag)):=λz b=>h z (cL.mp b).1;exact(Bu a (by lia)).trans (congrArg (λz=>aa _) (Lg (λt=>!(es.getD t.toNat ab==aa ag)) (λt=>!(ws.getD t.toNat ag)) E))
def RM(p:Prt)(h:p.Ok es.length)(a:ws.length=es.length):∀m,m=(match p with |.inn _=>qA |.out _=>qF |.least _ _=>qB |.most _ _=>qE) ->
  m [p.obj,.lst (es.map shD),.lst (ws.map D.bl)]=aa (.bl (p.lost es ws)):=by
 intro m e;subst e
 cases p with
 |inn t=>exact c8 (c7 (Ey (ap (be rfl rfl (iL h.1 h.2)) rfl (nR _ _)) (be rfl rfl (jd h.1 (by rw[a];exact h.2)))))
 |out t=>exact c8 (c7 (ap (be rfl rfl (iL h.1 h.2)) rfl (nR _ _)))
 |least k E=>exact c8 (c7 (ap (aD (am (aD rfl (GL h.1 a h.2)) (am rfl rfl)) (RL h.1 h.2)) rfl rfl))
 |most k E=>exact c8 (c7 (ap (aD rfl (Bt h.1 h.2)) rfl rfl))
variable{fo:MF1}{fa:MF2}
def GM(p:Prt)(h:p.Ok es.length)(b:ws.length=es.length)(a:fo M=aa p.obj)(ha:fa M=aa [.lst (es.map shD),.lst (ws.map D.bl)]):
  ba (aK "In" "lost" qA fo fa) (ba (aK "Out" "lost" qF fo fa) (ba (aK "Least" "lost" qB fo fa) (aK "Most" "lost" qE fo fa))) M=aa (.bl (p.lost es ws)):=by
 have hm:=RM p h b _ rfl
 cases p with
 |inn t=>exact dB ((ce a rfl ha).trans hm)
 |out t=>exact bA (bB a (by decide)) (dB ((ce a rfl ha).trans hm))
 |least k E=>exact bA (bB a (by decide)) (bA (bB a (by decide)) (dB ((ce a rfl ha).trans hm)))
 |most k E=>exact bA (bB a (by decide)) (bA (bB a (by decide)) (bA (bB a (by decide)) ((ce a rfl ha).trans hm)))
def RN(p:Prt)(h:p.Ok es.length)(a:fo M=aa p.obj)(ha:fa M=aa [.lst (es.map shD)]):
  ba (aK "In" "sure" AY fo fa) (ba (aK "Out" "sure" Bb fo fa) (ba (aK "Least" "sure" A2 fo fa) (aK "Most" "sure" A7 fo fa))) M=aa (.bl (p.sure es)):=by
 cases p with
 |inn t=>exact dB ((ce a rfl ha).trans (c8 (c7 (ap (be rfl rfl (iL h.1 h.2)) rfl (nR _ _)))))
 |out t=>exact bA (bB a (by decide)) (dB ((ce a rfl ha).trans (c8 (c7 (ap (be rfl rfl (iL h.1 h.2)) rfl (nR _ _))))))
 |least k E=>exact bA (bB a (by decide)) (bA (bB a (by decide)) (dB ((ce a rfl ha).trans (c8 (c7 (ap (aD rfl (Bt h.1 h.2)) rfl rfl))))))
 |most k E=>exact bA (bB a (by decide)) (bA (bB a (by decide)) (bA (bB a (by decide)) ((ce a rfl ha).trans (c8 (c7 (ap (aD rfl (Bu h.1 h.2)) rfl rfl))))))
variable{n:Nat}
def RO(r:Rul)(h:r.Ok n):m_2 [r.toD]=aa (.lst (r.ps.map Prt.obj)):=
 kB (congrArg _ (gb r.ps Prt.toD Prt.obj rfl (by have:=h.len;lia) λp _=>fO rfl rfl (aD rfl (GK p))))
structure Spr where
 es:LOB
 st:LD
 bs:LD
 gk:List (List Key)
 gd:LD
 ws:List (List Key×LD)
 wt:LD
 mks:D
 tl:List (Str×O)
abbrev lsO(ds:LD):O:=.lst (ds.map .fz)
abbrev wsO(ws:List (List Key×LD)):O:=.dT (ws.map (·.1)) (ws.map λp=>lsO p.2)
nonrec def spN:LSt:=["sheet","steps","bars","guards","watches","waiting","makers"]
nonrec def ic(tl:List (Str×O))(os:List O):O:=.ins "Seeking" (spN++tl.map (·.1)) (os++tl.map (·.2))
abbrev Spr.o(s:Spr):O:=ic s.tl [lsO (s.es.map shD),lsO s.st,lsO s.bs,.dT s.gk (s.gd.map .fz),wsO s.ws,lsO s.wt,.fz s.mks]
variable{l:Addr}{s:Spr}
def jh:aS "Seeking" "sheet" (aG 0) (.deep (.at l s.o)::M)=aa (lsO (s.es.map shD),λx=>.at l (ic s.tl [x,lsO s.st,lsO s.bs,.dT s.gk (s.gd.map .fz),wsO s.ws,lsO s.wt,.fz s.mks])):=rfl
def Bv:aS "Seeking" "steps" (aG 0) (.deep (.at l s.o)::M)=aa (lsO s.st,λx=>.at l (ic s.tl [lsO (s.es.map shD),x,lsO s.bs,.dT s.gk (s.gd.map .fz),wsO s.ws,lsO s.wt,.fz s.mks])):=rfl
def Bw:aS "Seeking" "bars" (aG 0) (.deep (.at l s.o)::M)=aa (lsO s.bs,λx=>.at l (ic s.tl [lsO (s.es.map shD),lsO s.st,x,.dT s.gk (s.gd.map .fz),wsO s.ws,lsO s.wt,.fz s.mks])):=rfl
def GN:aS "Seeking" "guards" (aG 0) (.deep (.at l s.o)::M)=aa (.dT s.gk (s.gd.map .fz),λx=>.at l (ic s.tl [lsO (s.es.map shD),lsO s.st,lsO s.bs,x,wsO s.ws,lsO s.wt,.fz s.mks])):=rfl
def uq:aS "Seeking" "watches" (aG 0) (.deep (.at l s.o)::M)=aa (wsO s.ws,λx=>.at l (ic s.tl [lsO (s.es.map shD),lsO s.st,lsO s.bs,.dT s.gk (s.gd.map .fz),x,lsO s.wt,.fz s.mks])):=rfl
def oB:aS "Seeking" "waiting" (aG 0) (.deep (.at l s.o)::M)=aa (lsO s.wt,λx=>.at l (ic s.tl [lsO (s.es.map shD),lsO s.st,lsO s.bs,.dT s.gk (s.gd.map .fz),wsO s.ws,x,.fz s.mks])):=rfl
def RP:aS "Seeking" "makers" (aG 0) (.deep (.at l s.o)::M)=aa (.fz s.mks,λx=>.at l (ic s.tl [lsO (s.es.map shD),lsO s.st,lsO s.bs,.dT s.gk (s.gd.map .fz),wsO s.ws,lsO s.wt,x])):=rfl
variable{p:Xp}{ds:LD}{R:O->O}
def qL(h:p M=aa (lsO ds,R)):pC p M=aa ds:=by
 unfold pC;rw[h];exact xP ds
def qM:∀(ds:LD),O.kns (ds.map .fz)=ac
 | []=>by rw[map_nil,O.kns]
 |d::ds=>by rw[bF,O.kns,O.kn,qM ds];rfl
def iV(h:p M=aa (lsO ds,R)):pB p M=aa (.lst ds):=by
 unfold pB lsO at *;rw[h,ay,O.kn,qM,if_pos rfl,O.toD,wE]
def jR(h:p M=aa (.fz d,R)):pD p M=aa d:=by
 unfold pD;rw[h];rfl
variable{K:Fl->Prop}
def qN(h:p M=aa (lsO ds,R))(a:f M=aa d)(hz:ds.length<16777216)(k:K (.nx (M.set i (.deep (R (lsO (ds++[d]))))))):wp (jQ i p f) M K:=⟨_,by
 unfold jQ lsO at *;rw[h,ay,a,ay];show(if (ds.map O.fz).length<16777216 then aa _ else ab).map _=_;rw[if_pos (by grind),show ds.map O.fz++_=(ds++[d]).map .fz by rw[bh];rfl];rfl,k⟩
variable{ks:List (List Key)}{os:List O}{y:L2.D}
def RQ{k:List Key}(hv:fv M=aa d)(h:p M=aa (.dT ks os,R))(a:fk M=aa y)(b:jO y=aa k)(hn:aQ k ks=ab)(hz:ks.length<16777216)
 (q:K (.nx (M.set i (.deep (R (.dT (ks++[k]) (os++[.fz d]))))))):wp (oj i p fk fv) M K:=⟨_,by
 unfold oj;rw[hv,ay,h,ay,a,ay,b,ay];show(if aQ k ks=ab/\ks.length<16777216 then aa _ else ab).map _=_;rw[if_pos ⟨hn,hz⟩];rfl,q⟩
abbrev fS(k:List Key)(y:D):List (List Key×LD)->List (List Key×LD)
 | []=>[(k,[y])]
 |p::ws=>if p.1=k then (p.1,p.2++[y])::ws else p::fS k y ws
def Bx{k:List Key}{y:D}:∀{ws:List (List Key×LD)},aQ k (ws.map (·.1))=ab->fS k y ws=ws++[(k,[y])]
 | [],_=>rfl
 |p::ws,h=>by
  rw[bF]at h;unfold aQ at h;split at h
  .lia
  .rename_i e;unfold fS;rw[if_neg e]
   cases h':aQ k _ with
   |none=>rw[Bx h'];rfl
   |some j=>rw[h']at h;cases h
def By{k:List Key}{y:D}:∀{ws:List (List Key×LD)} {j:Nat},aQ k (ws.map (·.1))=aa j->∃p,ws[j]?=aa p/\p.1=k/\fS k y ws=ws.set j (p.1,p.2++[y])
 | [],_,h=>by cases h
 |p::ws,j,h=>by
  rw[bF]at h;unfold aQ at h;split at h
  .rename_i e;cases h;refine⟨p,rfl,e,?_⟩;unfold fS
   grind
  .rename_i e
   cases h':aQ k _ with
   |none=>rw[h']at h;cases h
   |some i=>
    rw[h']at h;cases h;obtain⟨q,a,b,c⟩:=By h';refine⟨q,by rw[gt];exact a,b,?_⟩;unfold fS;rw[if_neg e,c];rfl
structure bL(c:Nat)(ws:List (List Key×LD)):Prop where
 ln:ws.length<=c
 al:∀p∈ws,p.2.length<=c
variable{c:Nat}{ws:List (List Key×LD)}
def bL.add(h:bL c ws)(k:List Key)(y:D):bL (c+1) (fS k y ws):=by
 cases a:aQ k _ with
 |none=>
  rw[Bx a];refine⟨by rw[aR,gS];have:=h.ln;lia,λp e=>?_⟩
  rcases bP.mp e with q |q
  .have:=h.al p q;lia
  .grind
 |some j=>
  obtain⟨p,b,_,d⟩:=By a;rw[d];refine⟨by rw[il];have:=h.ln;lia,λq f=>?_⟩
  rcases mem_or_eq_of_mem_set f with z |z
  .have:=h.al q z;lia
  .rw[z];have:=h.al p (dF b)
   grind
def RS{k:List Key}(h:aQ k ks=ab)(hz:ks.length<16777216):(O.dT ks os).apdK k d=aa (.dT (ks++[k]) (os++[.lst [.fz d]])):=by
 unfold O.apdK
 grind
variable{j:Nat}{o2:O}
def RT{k:List Key}{o1:O}(h:aQ k ks=aa j)(a:os[j]?=aa o1)(h2:o1.appd d=aa o2):(O.dT ks os).apdK k d=aa (.dT ks (os.set j o2)):=by
 unfold O.apdK
 grind
def RU(h:ds.length<16777216):(lsO ds).appd y=aa (lsO (ds++[y])):=by
 unfold lsO O.appd
 grind
def RV(h:bL c ws)(e:c<16777216)(k:List Key)(y:D):(wsO ws).apdK k y=aa (wsO (fS k y ws)):=by
 unfold wsO
 cases a:aQ k _ with
 |none=>
  rw[RS a (by rw[aB];have:=h.ln;lia),Bx a,bh,bh]
  rfl
 |some j=>
  obtain⟨p,b,_,d⟩:=By a;rw[RT a (by rw[cu,b];rfl) (RU (by have:=h.al p (dF b);lia)),d,gu,gu,ml (x:=p.1) (by grind)]
def RW{g:MF1}{k:List Key}(h:p M=aa (wsO ws,R))(b:g M=aa y)(f:jO y=aa k)(e:ae j M=aa d)(ok:bL c ws)(a:c<16777216)(q:K (.nx (M.set i (.deep (R (wsO (fS k d ws))))))):wp (om i j p g) M K:=⟨_,by
 unfold om;rw[h,ay,b,ay,f,ay,e,ay,RV ok a];rfl,q⟩
variable{m:MTf}{ρ1:LS}{o0 o o':O}
def eU{cn a:Str}{f:Xa}(h:M[i]?=aa (.deep (.at l o0)))(hi:o0.isIns cn a=ac)(c:f M=aa (ds,ρ1))(b:ρ1[i]?=aa (.deep (.at l o)))(hm:m l ds o=aa (o',d)):cq i cn a m f M=aa (d,ρ1.set i (.deep (.at l o'))):=by
 unfold cq
 grind
def RX{cn:Str}(h:fa M=aa ds)(hm:∀l,m l ds (.ins cn [] [])=aa (o,.non)):mo cn m fa M=aa o:=by
 unfold mo;rw[h,ay];have a:∃o,∀l,m l ds _=aa (o,.non):=⟨o,hm⟩;rw[dif_pos a];have:=a.choose_spec 0
 grind
abbrev GO(l:Addr)(Q:O->D->Prop)(r:Fl):Prop:=match r with
 |.nx M=>∃o,M[0]?=aa (.deep (.at l o))/\Q o .non
 |.rtS d M=>∃o,M[0]?=aa (.deep (.at l o))/\Q o d
 | _=>False
variable{N:Nat}
def RY{F:MF3}{Q:O->D->Prop}(h:wp F (tT N l ds o) (GO l Q)):∃o' d,dQ N F l ds o=aa (o',d)/\Q o' d:=by
 obtain⟨r,e,q⟩:=h;unfold dQ;rw[e,ay]
 cases r with
 |nx M=>obtain⟨o',a,q⟩:=q;exact⟨o',.non,by dsimp only;rw[FQ a];rfl,q⟩
 |rtS d M=>obtain⟨o',a,q⟩:=q;exact⟨o',d,by dsimp only;rw[FQ a];rfl,q⟩
 | _=>exact q.elim
def eV{F:MF3}(h:wp F (tT N l ds o) (GO l λx y=>x=o'/\y=d)):dQ N F l ds o=aa (o',d):=by
 obtain⟨a,b,e,rfl,rfl⟩:=RY h;exact e
def iW(h:f M=aa d)(k:K (.rtS d M)):wp (eR f) M K:=⟨_,by unfold eR;rw[h];rfl,k⟩
def gj{cn f:Str}{g:LS->Option O}{x:O}{q:O×(O->O)}(a:g M=aa x)(h:p M=aa q)(b:q.1.setF cn f x=aa o2)(k:K (.nx (M.set i (.deep (q.2 o2))))):wp (dZ i cn f p g) M K:=⟨_,by
 unfold dZ;rw[a,ay,h,ay,b];rfl,k⟩
def iX{f:Xe}{ρ':LS}(h:f M=aa (d,ρ'))(k:K (.nx ρ')):wp (dD f) M K:=⟨_,by unfold dD;rw[h];rfl,k⟩
def mw{f:MF2}(h:f M=aa ds):gK f M=aa (lsO ds):=by unfold gK lsO;rw[h];rfl
def qP(h:f M=aa d):iU f M=aa (.fz d):=by unfold iU;rw[h];rfl
variable{ns:LI0}
def RZ(h:f M=aa (.lst (ns.map D.int)))(a:ns.length<4000)(h2:(cQ ns).length<64):l6 f M=aa ((cQ ns).map D.int):=by
 unfold l6;rw[h,ay];show(ib _).bind _=_;rw[xz,ay,if_pos ⟨a,h2⟩]
def GP(h:∀x∈ns,0<=x/\x<(n:Int)):(cQ ns).length<=n:=by
 by_cases c:(cQ ns).length<=n
 .exact c
 .have d:∀x∈cQ ns,x∈(bI n).map λ(i:Nat)=>(i:Int):=λx e=>by
   obtain⟨a,b⟩:=h x ((iR x ns).mp e);exact aT.mpr ⟨x.toNat,fX.mpr (by lia),by lia⟩
  have:=(nW _ _ ((kK ns).imp λh=>Int.ne_of_lt h) d (by rw[aB,cK];lia)).length_eq;rw[aB,cK]at this
  lia
def Bz(h:f M=aa (.lst ds))(h':M[i]?=aa (.own B))(a:B.length+ds.length<=16777216):jI i (jH f) M=aa (.nx (M.set i (.own (B++ds)))):=by
 unfold jI jH;rw[h,h'];show(if B.length+ds.length<=16777216 then _ else ab)=_;rw[if_pos a]
variable{p:Prt}
def oC(h:p.Ok n):∀x∈nmP p,0<=x/\x<(n:Int):=λx a=>by
 cases p with
 |inn t=>
  have:x=t:=by simpa[nmP]using a
  subst this
  exact h
 |out t=>
  have:x=t:=by simpa[nmP]using a
  subst this
  exact h
 |least k E=>obtain⟨z,hz,rfl⟩:=aT.mp a;exact⟨(h.1 z hz).1,(h.1 z hz).2.1⟩
 |most k E=>obtain⟨z,hz,rfl⟩:=aT.mp a;exact⟨(h.1 z hz).1,(h.1 z hz).2.1⟩
abbrev put(es:LOB)(k:Nat)(b:Bool):LOB:=es.set k (aa b)
def dC(es:LOB)(k:Nat)(b:Bool):(put es k b).length=es.length:=il
def mx(es:LOB){k j:Nat}(b:Bool)(h:j≠k):(put es k b).getD j ab=es.getD j ab:=by
 unfold put;rw[cg,cg,jW (d5 h)]
def oF(es:LOB){k:Nat}(b:Bool)(h:k<es.length):(put es k b).getD k ab=aa b:=by
 unfold put;rw[cg,jV h];rfl
abbrev opn(es:LOB)(t:Int):Bool:=es.getD t.toNat ab==ab
abbrev nmL:Prt->LI0
 |.inn t=>[t]
 |.out t=>[t]
 |.least _ E=>cQ (E.map (·.1))
 |.most _ E=>cQ (E.map (·.1))
abbrev qQ:Prt->Bool
 |.inn _=>ac
 |.out _=>ag
 |.least _ _=>ac
 |.most _ _=>ag
def qR(h:p.Ok n)(hn:n<=60):(nmL p).length<64:=by
 cases p with
 |inn t=>show 1<64;decide
 |out t=>show 1<64;decide
 |least k E=>have:=GP (oC h);show(cQ _).length<64;exact ly this (by lia)
 |most k E=>have:=GP (oC h);show(cQ _).length<64;exact ly this (by lia)
variable{t:Int}
def ur:t∈nmL p↔t∈nmP p:=by
 cases p with
 |inn u=>exact Iff.rfl
 |out u=>exact Iff.rfl
 |least k E=>exact iR t _
 |most k E=>exact iR t _
def GQ(a:E.length<=1000)(h2:(cQ (E.map (·.1))).length<64):ub [.lst (E.map itD)]=aa (.lst ((cQ (E.map (·.1))).map D.int)):=by
 refine kB (congrArg _ (RZ (bH ?_) (by rw[aB];lia) h2));rw[map_map];exact gb E itD _ rfl (by lia) λz _=>fO rfl rfl rfl
def GR(p:Prt)(h:p.Ok n)(hn:n<=60)(b:(nmP p).length<=1000)(a:fo M=aa p.obj):
  ba (aK "In" "named" ua fo λ_=>aa []) (ba (aK "Out" "named" ue fo λ_=>aa []) (ba (aK "Least" "named" uc fo λ_=>aa []) (aK "Most" "named" ud fo λ_=>aa []))) M=aa (.lst ((nmL p).map D.int)):=by
 have c:=qR h hn
 cases p with
 |inn t=>exact dB ((ce a rfl rfl).trans rfl)
 |out t=>exact bA (bB a (by decide)) (dB ((ce a rfl rfl).trans rfl))
 |least k E=>
  have e:=GQ (by simpa[nmP]using b) c
  exact bA (bB a (by decide)) (bA (bB a (by decide)) (dB ((ce a rfl rfl).trans (c8 (c7 (aD rfl e))))))
 |most k E=>
  exact bA (bB a (by decide)) (bA (bB a (by decide)) (bA (bB a (by decide)) ((ce a rfl rfl).trans (c8 (c7 (aD rfl (GQ (by simpa[nmP]using b) c)))))))
def R0(p:Prt)(a:fo M=aa p.obj):
  ba (aK "In" "wants" zT fo λ_=>aa []) (ba (aK "Out" "wants" z7 fo λ_=>aa []) (ba (aK "Least" "wants" zX fo λ_=>aa []) (aK "Most" "wants" z4 fo λ_=>aa []))) M=aa (.bl (qQ p)):=by
 cases p with
 |inn t=>exact dB ((ce a rfl rfl).trans rfl)
 |out t=>exact bA (bB a (by decide)) (dB ((ce a rfl rfl).trans rfl))
 |least k E=>exact bA (bB a (by decide)) (bA (bB a (by decide)) (dB ((ce a rfl rfl).trans rfl)))
 |most k E=>exact bA (bB a (by decide)) (bA (bB a (by decide)) (bA (bB a (by decide)) ((ce a rfl rfl).trans rfl)))
nonrec def Wss:=List (List Key×LD)
abbrev fT(t:Int)(b:Bool):List Key:=[.inl t,.inl (cond b 1 0)]
abbrev ut(y:D)(ws:Wss)(p:Prt):Wss:=(nmL p).foldl (λws t=>fS (fT t (qQ p)) y ws) ws
abbrev my(y:D)(ps:List Prt)(ws:Wss):Wss:=ps.foldl (ut y) ws
def bL.ts{c:Nat}{b:Bool}{y:D}:∀(ts:LI0) {ws:Wss},bL c ws->bL (c+ts.length) (ts.foldl (λws t=>fS (fT t b) y ws) ws)
 | [],_,h=>h
 |t::ts,ws,h=>by
  have:=bL.ts (b:=b) (y:=y) ts (h.add (fT t b) y);rw[bO,show c+_=c+1+ts.length by lia];exact this
def bL.le{a:Nat}{ws:Wss}(h:bL c ws)(b:c<=a):bL a ws:=⟨cy h.ln b,λp d=>cy (h.al p d) b⟩
abbrev PrK(n:Nat)(p:Prt):Prop:=p.Ok n/\(nmP p).length<=1000
def bL.prt{ws:Wss}(h:bL c ws)(a:PrK n p)(hn:n<=60):bL (c+64) (ut y ws p):=by
 have:=qR a.1 hn;exact(bL.ts _ h).le (by lia)
def bL.reg{n:Nat}{y:D}(hn:n<=60):∀{ps:List Prt} {c:Nat} {ws:Wss},(∀p∈ps,PrK n p)->bL c ws->bL (c+64*ps.length) (my y ps ws)
 | [],_,_,_,h=>h
 |p::ps,c,ws,hp,h=>by
  have:=bL.reg (y:=y) hn (λq a=>hp q (bj _ a)) (h.prt (y:=y) (hp p aH) hn);rw[bO,show c+64*_=c+64+64*ps.length by lia];exact this
abbrev uu(s:Spr)(y:D)(k:List Key)(ps:List Prt):Spr:={s with gk:=s.gk++[k],gd:=s.gd++[.lst (ps.map Prt.obj)],ws:=my y ps s.ws,wt:=s.wt++[y]}
def R1(ds:LD)(d:D):ds.map O.fz++[.fz d]=(ds++[d]).map .fz:=by rw[bh];rfl
def GS{k:List Key}(s:Spr)(ps:List Prt)(z:jO y=aa k)(m:aQ k s.gk=ab)(j:s.gk.length<16777216)(h:∀p∈ps,PrK n p)(hn:n<=60)(x:bL c s.ws)(A:c+64*ps.length<16777216)(hz:s.wt.length<16777216)(u:ps.length<=100000):
  qz l [y,.lst (ps.map Prt.obj)] s.o=aa ((uu s y k ps).o,.non):=by
 apply eV;apply ak;refine RQ rfl GN rfl z m j ?_;rw[R1];apply ak
 refine dh ps Prt.obj (λpre M=>∃g a,M=[.deep (.at l ({s with gk:=s.gk++[k],gd:=s.gd++_,ws:=my y pre s.ws}:Spr).o),.im y,.im _,g,a]) rfl ⟨_,_,rfl⟩ ?_ ?_
 .rintro pre p post M ex ⟨g,a,rfl⟩;have e:p∈ps:=by rw[ex];simp
  have b:=h p e;have i:pre.length<ps.length:=by rw[ex];simp
  have f:bL _ (my y pre s.ws):=bL.reg hn (λq w=>h q (by rw[ex];simp[w])) x;have r:=qR b.1 hn;refine⟨_,rfl,?_⟩;walk_at "nrm"
  refine dh _ D.int (λpr M=>∃a,M=[.deep (.at l ({s with gk:=s.gk++[k],gd:=s.gd++_,ws:=pr.foldl (λws t=>fS (fT t (qQ p)) y ws) _}:Spr).o),.im y,.im _,.im p.obj,a]) (fu (GR p b.1 hn b.2 rfl) rfl) ⟨_,rfl⟩ ?_ ?_
  .rintro pr t po M d ⟨a,rfl⟩;have v:pr.length<(nmL p).length:=by rw[d];simp
   refine⟨_,rfl,?_⟩;walk_at "nrm";refine RW uq (cP (am rfl (am (R0 p rfl) rfl))) rfl rfl (bL.ts pr f) (by lia) ?_;refine⟨.im (.int t),?_⟩;rw[eJ];rfl
  .rintro M ⟨a,rfl⟩;refine⟨.im p.obj,a,?_⟩;unfold my;rw[eJ];rfl
 .rintro M ⟨g,a,rfl⟩;exact qN oB rfl hz ⟨_,rfl,rfl,rfl⟩
abbrev mkD(r:Rul):D:=.tup [.int r.hd,.lst (r.ps.map Prt.obj)]
abbrev gO(C:LRu):LRu:=C.filter λr=>r.w != .never
abbrev grd(r:Rul):List Prt:=match r.w with
 |.may=>[.least 1 []]
 |.make=>r.ps++[.out r.hd]
 |.never=>r.ps
structure RuK(n:Nat)(r:Rul):Prop where
 ok:r.Ok n
 nm:∀p∈r.ps,(nmP p).length<=1000
 len:r.ps.length<=1000
variable{r:Rul}
def uv(h:RuK n r):∀p∈grd r,PrK n p:=λp a=>by
 obtain⟨w,hd,ps⟩:=r
 cases w with
 |may=>
  have:p=.least 1 []:=by simpa[grd]using a
  subst this
  exact⟨⟨(λz hz=>nomatch hz),b9 _⟩,b9 _⟩
 |make=>
  rcases bP.mp (a)with q |q
  .exact⟨h.ok.ps p q,h.nm p q⟩
  .rw[ci.mp q]
   exact⟨h.ok.hd (λz=>by nomatch z),by show 1<=1000;decide⟩
 |never=>exact⟨h.ok.ps p a,h.nm p a⟩
def BA(h:RuK n r):(grd r).length<=1001:=by
 obtain⟨w,hd,ps⟩:=r;have a:ps.length<=1000:=h.len
 cases w with
 |may=>show 1<=1001;decide
 |make=>show(ps++_).length<=1001;rw[aR,gS];lia
 |never=>show ps.length<=1001;lia
def GT(r:Rul)(h:r.Ok n):o_2 [r.toD]=aa (r.ps.map Prt.obj):=
 l9 (congrArg _ (gb r.ps Prt.toD Prt.obj rfl (by have:=h.len;lia) λp _=>fO rfl rfl (aD rfl (GK p))))
def R3(r:Rul)(h:RuK n r):uh [r.toD]=aa (.lst ((grd r).map Prt.obj)):=by
 apply iT;obtain⟨w,hd,ps⟩:=r
 cases w with
 |may=>
  apply ak;refine aU rfl (λ_=>?_) (λz=>by nomatch z)
  first |exact iS rfl (je rfl) |exact dX rfl _
 |make=>
  apply ak;refine aU rfl (λz=>by nomatch z) (λ_=>bK ?_);walk_at "nrm";apply ak
  refine dW (by first |exact tN rfl (GT ⟨.make,hd,ps⟩ h.ok) |exact eb) ?_
  walk_at "nrm";apply ak;refine aU rfl (λ_=>?_) (λz=>by nomatch z);refine gc rfl rfl (by rw[aB];show ps.length<_;have:ps.length<=1000:=h.len;lia) ?_;walk_at "nrm";refine l8 rfl (je ?_);show D.lst _=D.lst ((ps++_).map Prt.obj);rw[bh]
  rfl
 |never=>
  apply ak;refine aU rfl (λz=>by nomatch z) (λ_=>bK ?_);walk_at "nrm";apply ak
  refine dW (by first |exact tN rfl (GT ⟨.never,hd,ps⟩ h.ok) |exact eb) ?_
  walk_at "nrm";apply ak;refine aU rfl (λz=>by nomatch z) (λ_=>bK ?_);walk_at "nrm";exact l8 rfl (je rfl)
abbrev qS(i:Nat):D:=.tup [.str "rule",.int i]
abbrev mz(i:Nat):List Key:=[.inr "rule",.inl i]
def R4(h:mz i=mz j):i=j:=by
 have:=sn (oV (oV h).2).1
 lia
def BB{a:Type}[DecidableEq a]{f:a}:∀{ns:List a},f∉ns->aQ f ns=ab
 | [],_=>rfl
 |n::ns,h=>by
  unfold aQ;rw[if_neg (λe=>h (by rw[e];exact aH)),BB (λq=>h (bj _ q))];rfl
abbrev sp0(es:LOB)(C:LRu):Spr:=⟨es,[],[],[],[],[],[],.lst ((gO C).map mkD),[]⟩
abbrev k6(s:Spr)(p:Nat×Rul):Spr:=uu s (qS p.1) (mz p.1) (grd p.2)
structure SpK(n i c:Nat)(s:Spr):Prop where
 gk:s.gk=(bI i).map mz
 gl:s.gd.length=i
 ws:bL c s.ws
 wt:s.wt=(bI i).map qS
def SpK.step(h:SpK n i c s)(hr:RuK n r)(hn:n<=60):SpK n (i+1) (c+65000) (k6 s (i,r)):=by
 refine⟨?_,?_,?_,?_⟩
 .show s.gk++_=_;rw[range_succ,bh,h.gk];rfl
 .show(s.gd++[_]).length=_;rw[aR,h.gl];rfl
 .have:=bL.reg (y:=qS i) hn (uv hr) h.ws;have a:=BA hr;exact this.le (by lia)
 .show s.wt++_=_;rw[range_succ,bh,h.wt];rfl
def SpK.fresh(h:SpK n i c s):aQ (mz i) s.gk=ab:=BB λq=>by
 rw[h.gk]at q;obtain⟨j,a,e⟩:=aT.mp q;have:=R4 e;subst this;exact io _ (fX.mp a)
abbrev eD:Nat->LRu->List (Nat×Rul)
 | _,[]=>[]
 |i,r::C=>(i,r)::eD (i+1) C
def GU:∀(i:Nat) (C:LRu),hV i (C.map Rul.toD)=(eD i C).map λp=>D.tup [.int p.1,p.2.toD]
 | _,[]=>rfl
 |i,r::C=>by rw[bF,hV,GU _ C];rfl
def qT:∀(i:Nat) (C:LRu) (j:Nat),(eD i C)[j]?=(C[j]?).map λr=>(i+j,r)
 | _,[],_=>rfl
 |i,r::C,0=>rfl
 |i,r::C,j+1=>by simp only[eD,gt,gt,qT _ C j,show i+1+j=i+(j+1) by lia]
variable{C:LRu}
def GV{pre post:List (Nat×Rul)}{p:Nat×Rul}(h:eD 0 C=pre++p::post):p.1=pre.length/\p.2∈C/\pre.length<C.length:=by
 have a:(eD 0 C)[pre.length]?=aa p:=by rw[h,mJ (aM _),Nat.sub_self];rfl
 rw[qT]at a
 cases hr:C[pre.length]? with
 |none=>rw[hr]at a;nomatch a
 |some r=>
  rw[hr]at a;cases a;exact⟨mP _,dF hr,(cR.mp hr).1⟩
abbrev pl0(n:Int)(C:LRu):D:=.tup [.int n,.lst (C.map Rul.toD)]
def R5(hi:fi M=aa (C.map Rul.toD))(hok:∀r∈C,r.Ok n)(hz:C.length<=1000):
  bg 1 [] fi (ax 0) (mB (m2 fM (mIx (aw 0) (kI 1)) kN)) (bn (af (mIx (aw 0) (kI 1)) (af (au m_2 (af (ae 0) nZ)) nZ))) M=aa ((gO C).map mkD):=by
 refine eC C Rul.toD _ mkD hi (by lia) λr hr=>?_;have a:=RO r (hok r hr);obtain⟨w,hd,ps⟩:=r
 cases w with
 |never=>exact dA rfl rfl λz=>by nomatch z
 |make=>exact dA rfl rfl λ_=>cP (am rfl (am (aD rfl a) rfl))
 |may=>exact dA rfl rfl λ_=>cP (am rfl (am (aD rfl a) rfl))
def dk{g:Xa}(h:f M=aa d)(h':g M=aa (ds,M)):bE (mX f) g M=aa (d::ds,M):=by
 unfold bE mX;rw[h];show(g M).map _=_;rw[h'];rfl
def uw{f:MF2}(h:f M=aa [.lst B]):iN f M=aa (hV 0 B):=by
 unfold iN;rw[h];rfl
abbrev spI(es:LOB)(C:LRu):Spr:=(eD 0 C).foldl k6 (sp0 es C)
def SpK.foldT{n:Nat}(hn:n<=60){es:LOB}{C:LRu}(hr:∀r∈C,RuK n r):∀(k:Nat),k<=C.length->SpK n k (65000*k) (((eD 0 C).take k).foldl k6 (sp0 es C))
 | 0,_=>⟨rfl,rfl,⟨b9 _,λ_ h=>nomatch h⟩,rfl⟩
 |k+1,h=>by
  have a:(eD 0 C)[k]?=aa (k,C[k]):=by rw[qT,cr h];simp
  have:=(SpK.foldT hn (es:=es) hr k (Nat.le_of_succ_le h)).step (hr C[k] (jq h)) hn;rw[take_succ,a,eJ,show 65000*_=65000*k+65000 by lia];exact this
def SpK.fold(hn:n<=60)(hr:∀r∈C,RuK n r){pre post:List (Nat×Rul)}{p:Nat×Rul}(h:eD 0 C=pre++p::post):SpK n pre.length (65000*pre.length) (pre.foldl k6 (sp0 es C)):=by
 have:=SpK.foldT hn (es:=es) hr pre.length (eM (GV h).2.2);rw[h,take_left' rfl]at this;exact this
def GW:∀(ps:List (Nat×Rul)) (s:Spr),(ps.foldl k6 s).tl=s.tl
 | [],_=>rfl
 |p::ps,s=>GW ps _
def R6(h:s.tl=[]):s.o.isIns "Seeking" "take_guard"=ac:=by
 cases s;cases h;rfl
variable{v:Int}
def R7{bars:LD}(hn:n<=60)(hr:∀r∈C,RuK n r)(hz:C.length<=250)
 (k:∀b c,K (.nx [.deep (.at l (spI es C).o),.im (pl0 v C),.im (.lst bars),.im (.lst (es.map shD)),b,c,.no])):
  wp (bU (iN (af (mIx (aw 1) (kI 1)) nZ)) (cN (bp (ax 5) (bp (ax 4) cZ))) (dD (cq 0 "Seeking" "take_guard" qz (bE (mX (bn (af (kSt "rule") (af (ae 5) nZ)))) (bE (mX (au uh (af (ae 4) nZ))) cf)))))
   [.deep (.at l (sp0 es C).o),.im (pl0 v C),.im (.lst bars),.im (.lst (es.map shD)),.no,.no,.no] K:=by
 refine dh (eD 0 C) (λp=>D.tup [.int p.1,p.2.toD]) (λpre M=>∃b c,M=[.deep (.at l (pre.foldl k6 (sp0 es C)).o),.im _,.im _,.im _,b,c,.no]) ?_ ⟨_,_,rfl⟩ ?_ ?_
 .rw[<- GU];exact uw (am (be rfl rfl rfl) rfl)
 .rintro pre p post M ex ⟨b,c,rfl⟩;obtain⟨e,f,h⟩:=GV ex;have d:=SpK.fold (es:=es) hn hr ex;have a:=hr p.2 f;have g:=BA a;refine⟨_,rfl,?_⟩;walk_at "nrm";refine iX (eU rfl (R6 (GW pre _)) (dk rfl (dk (aD rfl (R3 p.2 a)) rfl)) rfl (GS _ _ rfl (by rw[e];exact d.fresh) (by rw[d.gk,aB,cK];lia) (uv a) hn d.ws (by lia) (by rw[d.wt,aB,cK];lia) (by lia))) ?_;refine⟨.im p.2.toD,.im (.int p.1),?_⟩;rw[eJ];rfl
 .rintro M ⟨b,c,rfl⟩;exact k b c
def R8(hn:n<=60)(hr:∀r∈C,RuK n r)(hz:C.length<=250)(l:Addr):Aj l [pl0 v C,.lst [],.lst (es.map shD)] (.ins "Seeking" [] [])=aa ((spI es C).o,.non):=by
 apply eV;apply ak;refine gj (mw rfl) rfl rfl ?_;apply ak;refine gj (mw rfl) rfl rfl ?_;apply ak;refine gj (mw rfl) rfl rfl ?_;apply ak;refine gj rfl rfl rfl ?_;apply ak;refine gj rfl rfl rfl ?_;apply ak;refine gj (mw rfl) rfl rfl ?_;apply ak;refine gj (qP (bH (R5 (fu (be rfl rfl rfl) rfl) (λr h=>(hr r h).ok) (by lia)))) rfl rfl ?_;apply ak;refine R7 hn hr hz λa b=>?_;refine dh ([]:LN) (λ_=>D.non) (λ_ M=>M=_) rfl rfl ?_ ?_
 .rintro pre x post M ex;simp at ex
 .rintro M rfl;exact⟨_,rfl,rfl,rfl⟩
abbrev hup(es:LOB)(wo:LB0)(r:Rul):Bool:=r.w != .never && (wo.getD r.hd.toNat ag && !(r.bodyLost es wo))
def R9(h:r.w≠.never):(r.w != .never)=ac:=by grind
inductive k7(C:LRu)(es:LOB)(a:LB0):LB0->Prop
 |refl:k7 C es a a
 |step {b:LB0} {r:Rul}:k7 C es a b->r∈C->hup es b r=ac->k7 C es a (b.set r.hd.toNat ag)
def Sa(l:LB0)(k j:Nat):(l.set k ag).getD j ag=(l.getD j ag && !(k==j)):=by grind
variable{b:LB0}
def k7.len{a:LB0}(h:k7 C es a b):b.length=a.length:=by
 induction h with
 |refl=>rfl
 |step _ _ _ c=>rw[il,c]
def k7.sub{a:LB0}(h:k7 C es a b)(i:Nat):b.getD i ag=ac->a.getD i ag=ac:=by
 induction h with
 |refl=>exact id
 |step _ _ _ c=>
  grind
abbrev ct(bs:LB0):Nat:=(bs.filter λb=>b).length
def Sb(bs:LB0):ct bs<=bs.length:=fV _ _
def GX:∀(bs:LB0) (k:Nat),bs.getD k ag=ac->ct (bs.set k ag)+1=ct bs
 | [],k,h=>by simp at h
 |b::bs,0,h=>by
  subst h
  rfl
 |b::bs,k+1,h=>by
  have a:=GX bs k (by exact h)
  cases b with
  |false=>exact a
  |true=>
   show(ct _+1)+1=ct bs+1;rw[a]
def Sc(bs:LB0)(k:Nat)(b:Bool):(bs.map D.bl).set k (.bl b)=(bs.set k b).map D.bl:=by rw[gu]
abbrev jS(es:LOB):LB0:=es.map λe=>!(e==aa ag)
def Sd(hi:fi M=aa (es.map shD))(hz:es.length<=1000):bg 1 [] fi (ax 0) kY (m2 fM (ae 0) (kBl ag)) M=aa ((jS es).map D.bl):=by
 unfold jS;rw[<- NG];exact gb es shD _ hi (by lia) λe _=>fO rfl rfl (ap rfl rfl (Ez _ _))
abbrev BC:Option Prt->D
 |some p=>p.obj
 |none=>.non
variable{wo:LB0}
def BD(ps:List Prt)(h:∀p∈ps,p.Ok es.length)(e:wo.length=es.length):m_5 [.lst (ps.map Prt.obj),.lst (es.map shD),.lst (wo.map D.bl)]=aa (BC (ps.find? λp=>p.lost es wo)):=by
 apply iT;apply ak;refine dh ps Prt.obj (λpre M=>∃c,M=[.im _,.im _,.im _,c]/\∀p∈pre,p.lost es wo=ag) rfl ⟨_,rfl,λ_ h=>nomatch h⟩ ?_ ?_
 .rintro pre p post M ex ⟨c,rfl,a⟩;have d:p∈ps:=by grind
  refine⟨_,rfl,?_⟩;walk_at "nrm";refine aU (cI (GM p (h p d) e rfl rfl) rfl) (λz=>?_) (λz=>bK ?_)
  .refine NH rfl (eT ?_);rw[ex,find?_append,find?_eq_none.mpr λq b=>by rw[a q b];exact bx,find?_cons_of_pos z];rfl
  .refine⟨.im p.obj,rfl,λq b=>?_⟩
   grind
 .rintro M ⟨c,rfl,a⟩;refine dX rfl (eT ?_);rw[find?_eq_none.mpr λq b=>by rw[a q b];grind];rfl
def Sf(x:Option Prt):dIs (BC x) .non=aa (.bl x.isNone):=by
 cases x with
 |none=>rfl
 |some p=>cases p <;> rfl
def BE(r:Rul):(r.ps.find? λp=>p.lost es wo).isNone=!(r.bodyLost es wo):=by
 unfold Rul.bodyLost
 grind
abbrev ie(es:LOB)(wo:LB0)(r:Rul):Bool:=wo.getD r.hd.toNat ag && !(r.bodyLost es wo)
nonrec def ji:=LB0×LRu×LRu
abbrev bN(es:LOB)(a:ji)(r:Rul):ji:=if ie es a.1 r then (a.1.set r.hd.toNat ag,a.2.1++[r],a.2.2) else (a.1,a.2.1,a.2.2++[r])
abbrev dJ(es:LOB)(wo:LB0)(us rest:LRu):ji:=rest.foldl (bN es) (wo,us,[])
abbrev mC(es:LOB):Nat->LB0->LRu->LRu->ji
 | 0,wo,us,rest=>(wo,us,rest)
 |k+1,wo,us,rest=>if us.length<(dJ es wo us rest).2.1.length/\(dJ es wo us rest).1.any id=ac then mC es k (dJ es wo us rest).1 (dJ es wo us rest).2.1 (dJ es wo us rest).2.2 else dJ es wo us rest
abbrev cJ(es:LOB)(ms:LRu):ji:=mC es (ms.length+1) (jS es) [] ms
structure L3(es:LOB)(ms:LRu)(a:ji)(q:LRu):Prop where
 len:a.1.length=es.length
 pe:k7 ms es (jS es) a.1
 us:∀r∈a.2.1,a.1.getD r.hd.toNat ag=ag
 pm:(a.2.1++a.2.2++q).Perm ms
variable{ms:LRu}
def L3.step{a:ji}{q:LRu}(h:L3 es ms a (r::q))(c:∀r∈ms,r.w≠.never):L3 es ms (bN es a r) q:=by
 have hr:r∈ms:=h.pm.mem_iff.mp (by simp);unfold bN
 by_cases b:ie es a.1 r=ac
 .rw[if_pos b];refine⟨by rw[il];exact h.len,.step h.pe hr ?_,λx d=>?_,?_⟩
  .unfold hup;rw[R9 (c r hr),Bool.true_and];exact b
  .show(a.1.set r.hd.toNat ag).getD _ ag=ag;rw[Sa]
   rcases bP.mp d with z |z
   .rw[h.us x z];rfl
   .grind
  .refine List.Perm.trans ?_ h.pm;rw[cx,cx,cx];refine u7 _ ?_;show(r::(a.2.2++q)).Perm _;exact perm_middle.symm
 .rw[if_neg b];refine⟨h.len,h.pe,h.us,?_⟩;have:a.2.1++(a.2.2++[r])++q=a.2.1++a.2.2++r::q:=by simp
  rw[this];exact h.pm
def L3.fold{es:LOB}{ms:LRu}(b:∀r∈ms,r.w≠.never):∀{q:LRu} {a:ji},L3 es ms a q->L3 es ms (q.foldl (bN es) a) []
 | [],_,h=>h
 |r::q,a,h=>L3.fold (a:=bN es a r) b (h.step b)
def qU{es:LOB}:∀(q:LRu) (a:ji),(q.foldl (bN es) a).2.1.length+(q.foldl (bN es) a).2.2.length=a.2.1.length+a.2.2.length+q.length/\a.2.1.length<=(q.foldl (bN es) a).2.1.length
 | [],a=>⟨by simp,aM _⟩
 |r::q,a=>by
  obtain⟨b,h2⟩:=qU q _;rw[gT,b];unfold bN at *
  grind
def GY{es:LOB}:∀(q:LRu) (a:ji),(q.foldl (bN es) a).2.1.length=a.2.1.length->(q.foldl (bN es) a).1=a.1/\(q.foldl (bN es) a).2.2=a.2.2++q/\∀r∈q,ie es a.1 r=ag
 | [],a,_=>⟨rfl,(bQ _).symm,λ_ h=>nomatch h⟩
 |r::q,a,h=>by
  rw[gT]at h ⊢;have h2:=(qU (es:=es) q (bN es a r)).2
  by_cases b:ie es a.1 r=ac
  .exfalso;have e:bN es a r=(a.1.set r.hd.toNat ag,a.2.1++[r],a.2.2):=by unfold bN;rw[if_pos b]
   grind
  .have e:bN es a r=(a.1,a.2.1,a.2.2++[r]):=by unfold bN;rw[if_neg b]
   rw[e]at h ⊢;obtain⟨c,d,f⟩:=GY q _ h
   grind
def Sg{bs:LB0}(h:bs.any id=ag)(i:Nat):bs.getD i ag=ag:=by
 rw[cg]
 cases e:bs[i]? with
 |none=>rfl
 |some b=>
  cases b with
  |false=>rfl
  |true=>rw[any_eq_true.mpr ⟨ac,dF e,rfl⟩]at h;nomatch h
def GZ{es:LOB}{ms:LRu}(d:∀r∈ms,r.w≠.never):∀(k:Nat) (wo:LB0) (us rest:LRu),L3 es ms (wo,us,[]) rest->rest.length<k->L3 es ms (mC es k wo us rest) []/\∀r∈ms,ie es (mC es k wo us rest).1 r=ag
 | 0,_,_,_,_,h=>absurd h (jY _)
 |k+1,wo,us,rest,h,hk=>by
  have a:=L3.fold d h;have c:=qU (es:=es) rest (wo,us,[]);unfold mC;split
  .rename_i f;refine GZ d k _ _ _ ⟨a.len,a.pe,a.us,?_⟩ ?_
   .have:=a.pm;rw[bQ]at this ⊢;exact this
   .have:(dJ es wo us rest).2.1.length+(dJ es wo us rest).2.2.length=us.length+0+rest.length:=c.1;lia
  .rename_i f;refine⟨a,λr hr=>?_⟩
   cases ha:(dJ es wo us rest).1.any id with
   |false=>unfold ie;rw[Sg ha];rfl
   |true=>
    have e:(dJ es wo us rest).2.1.length=us.length:=by
     have:us.length<=(dJ es wo us rest).2.1.length:=c.2
     grind
    obtain⟨b,g,i⟩:=GY rest _ e;have b:(dJ es wo us rest).1=wo:=b
    rcases bP.mp (h.pm.mem_iff.mpr hr)with z |z
    .rw[bQ]at z;rw[b];unfold ie;rw[h.us r z];rfl
    .grind
def Sh(a:∀r∈ms,r.w≠.never):L3 es ms (cJ es ms) []/\∀r∈ms,ie es (cJ es ms).1 r=ag:=
 GZ a _ _ _ _ ⟨by unfold jS;rw[aB],.refl,(λ_ h=>nomatch h),by simp⟩ (dq _)
def Si{x:O}(h:s.tl.length<900):s.o.setF "Seeking" "makers" x=aa (ic s.tl [lsO (s.es.map shD),lsO s.st,lsO s.bs,.dT s.gk (s.gd.map .fz),wsO s.ws,lsO s.wt,x]):=by
 show(if _/\(spN++s.tl.map (·.1)).length<1000 then _ else ab)=_;rw[if_pos ⟨rfl,by rw[aR,aB];show 7+_<_;lia⟩];rfl
def Sj(x:s.tl.length<900)(hm:s.mks=.lst (ms.map mkD))(I:s.es.length<=60)(hok:∀r∈ms,r.Ok s.es.length)(Q:∀r∈ms,r.w≠.never)(hz:ms.length<=1000):
  Bo l [] s.o=aa (({s with mks:=.lst (((cJ s.es ms).2.1++(cJ s.es ms).2.2).map mkD)}:Spr).o,.lst ((cJ s.es ms).1.map D.bl)):=by
 have v:(jS s.es).length=s.es.length:=by unfold jS;rw[aB]
 apply eV;apply ak;refine dW (Sd (qL jh) (by lia)) ?_;walk_at "nrm";apply ak;refine dW rfl ?_;walk_at "nrm";apply ak;refine bi ((jR RP).trans (by rw[hm])) ?_;walk_at "nrm";apply ak;refine bi rfl ?_;walk_at "nrm";apply ak;refine qb (λm M=>∃(wo:LB0) (us rest:LRu) (g:Bool) (E G e:Sl),M=[.deep _,.own (wo.map D.bl),.own (us.map mkD),.im (.lst (rest.map mkD)),.im (.bl g),E,G,e]/\wo.length=s.es.length/\(us++rest).Perm ms/\(g=ac->mC s.es m wo us rest=cJ s.es ms/\rest.length<m)/\(g=ag->(wo,us,rest)=cJ s.es ms)) ?_ _ _ _ ⟨jS s.es,[],ms,ac,_,_,_,rfl,v,rS _,λ_=>⟨rfl,dq _⟩,λz=>by nomatch z⟩ (by lia)
 .rintro m M ⟨wo,us,rest,g,E,G,e,rfl,B,c,L,J⟩;refine⟨g,rfl,?_,?_⟩
  .rintro rfl;obtain⟨f,u⟩:=L rfl;have y:us.length+rest.length=ms.length:=by have:=c.length_eq;rw[aR]at this;exact this
   apply ak;refine bi (aD rfl (dO us mkD)) ?_;walk_at "nrm";apply ak;refine dW rfl ?_;walk_at "nrm";apply ak;refine dh rest mkD (λpre M=>∃e,M=[.deep _,.own ((pre.foldl (bN s.es) (wo,us,[])).1.map D.bl),.own ((pre.foldl (bN s.es) (wo,us,[])).2.1.map mkD),.im _,.im _,.im _,.own ((pre.foldl (bN s.es) (wo,us,[])).2.2.map mkD),e]/\(pre.foldl (bN s.es) (wo,us,[])).1.length=s.es.length) rfl ⟨_,rfl,B⟩ ?_ ?_
   .rintro pre r post M ex ⟨e,rfl,b⟩;have j:r∈ms:=c.mem_iff.mp (by rw[ex];simp);have hr:=hok r j;obtain⟨C,U⟩:=hr.hd (Q r j);have N:pre.length<rest.length:=by rw[ex];simp
    have i:(pre.foldl _ (wo,us,[])).2.1.length+(pre.foldl _ (wo,us,[])).2.2.length=us.length+0+pre.length:=(qU (es:=s.es) pre _).1;generalize h:pre.foldl _ _=A at *;refine⟨_,rfl,?_⟩;walk_at "nrm"
    have x:(df (bz (mIx (aw 1) (mIx (aw 7) (kI 0)))) (mB (m2 dIs (au m_5 (af (mIx (aw 7) (kI 1)) (af (pB (aS "Seeking" "sheet" (aG 0))) (af (cG 1) nZ)))) kN))) [.deep (.at l s.o),.own (A.1.map D.bl),.own (A.2.1.map mkD),.im (.lst (rest.map mkD)),.im (.bl ac),.im (.int us.length),.own (A.2.2.map mkD),.im (mkD r)]=aa (ie s.es A.1 r):=by
     unfold ie;rw[<- BE];exact jc (cI (be rfl (be rfl rfl rfl) (jd C (by lia))) rfl) (bq (ap (aD (am (be rfl rfl rfl) (am (iV jh) (am rfl rfl))) (BD r.ps hr.ps b)) rfl (Sf _)))
    refine aU x (λz=>?_) (λz=>?_)
    .apply ak;refine nY rfl (be rfl rfl rfl) rfl C (by rw[aB];lia) ?_;walk_at "nrm";refine gc rfl rfl (by rw[aB];lia) ?_;refine⟨.im (mkD r),?_,?_⟩
     .rw[eJ,h];show _=[_,Sl.own ((bN s.es A r).1.map D.bl),.own ((bN s.es A r).2.1.map mkD),_,_,_,.own ((bN s.es A r).2.2.map mkD),_];unfold bN;rw[if_pos z,<- Sc,bh];rfl
     .rw[eJ,h];show(bN s.es A r).1.length=_;unfold bN;rw[if_pos z,il];exact b
    .refine gc rfl rfl (by rw[aB];lia) ?_;have H:¬ie s.es A.1 r=ac:=by rw[z];exact bx
     refine⟨.im (mkD r),?_,?_⟩
     .rw[eJ,h];show _=[_,Sl.own ((bN s.es A r).1.map D.bl),.own ((bN s.es A r).2.1.map mkD),_,_,_,.own ((bN s.es A r).2.2.map mkD),_];unfold bN;rw[if_neg H,bh];rfl
     .rw[eJ,h];show(bN s.es A r).1.length=_;unfold bN;rw[if_neg H];exact b
   .rintro M ⟨e,rfl,b⟩;have i:(dJ s.es wo us rest).2.1.length+(dJ s.es wo us rest).2.2.length=us.length+0+rest.length:=(qU rest _).1;show wp _ [.deep _,.own ((dJ s.es wo us rest).1.map D.bl),.own ((dJ s.es wo us rest).2.1.map mkD),.im _,.im _,.im _,.own ((dJ s.es wo us rest).2.2.map mkD),e] _;replace b:(dJ s.es wo us rest).1.length=s.es.length:=b
    have d:((dJ s.es wo us rest).2.1++(dJ s.es wo us rest).2.2).Perm ms:=by
     have gen:∀(q:LRu) a,((q.foldl (bN s.es) a).2.1++(q.foldl (bN s.es) a).2.2).Perm (a.2.1++a.2.2++q):=by
      intro q
      induction q with
      |nil=>intro a;simp
      |cons r q T=>
       intro a;refine(T _).trans ?_;unfold bN;split
       .show(a.2.1++[r]++a.2.2++q).Perm _;rw[cx,cx,cx];refine u7 _ ?_;show(r::(a.2.2++q)).Perm _;exact perm_middle.symm
       .show(a.2.1++_++q).Perm _;rw[show a.2.1++_++q=a.2.1++a.2.2++r::q by simp]
     refine(gen rest _).trans ?_;rw[bQ];exact c
    cases m with
    |zero=>exact absurd u (jY _)
    |succ m=>
     unfold mC at f;generalize h:dJ s.es wo us rest=A at *;apply ak;refine bi rfl ?_;walk_at "nrm";refine bi (kH (ap (aD rfl (dO A.2.1 mkD)) rfl jf) (aD rfl (MS A.1))) ?_
     by_cases n:us.length<A.2.1.length/\A.1.any id=ac
     .rw[if_pos n]at f;have p:(decide ((us.length:Int)<A.2.1.length) && A.1.any id)=ac:=by rw[n.2,decide_eq_true (by lia)];rfl
      rw[p];exact⟨m,dq _,A.1,A.2.1,A.2.2,ac,_,_,_,rfl,b,d,λ_=>⟨f,by lia⟩,λz=>by nomatch z⟩
     .rw[if_neg n]at f
      have p:(decide ((us.length:Int)<A.2.1.length) && A.1.any id)=ag:=by
       cases ha:A.1.any id with
       |false=>exact rG _
       |true=>
        have:¬us.length<A.2.1.length:=λq=>n ⟨q,ha⟩;rw[decide_eq_false (by lia)];rfl
      rw[p];exact⟨0,oW _,A.1,A.2.1,A.2.2,ag,_,_,_,rfl,b,d,(λz=>by nomatch z),λ_=>f⟩
  .rintro rfl;have y:us.length+rest.length=ms.length:=by have:=c.length_eq;rw[aR]at this;exact this
   rw[<- (J rfl)];apply ak;refine gj (qP (bH (GH rfl rfl (by rw[aB,aB];lia)))) rfl (Si x) ?_;rw[<- bh];exact iW rfl ⟨_,rfl,rfl,rfl⟩
abbrev prD(z:Int×Bool):D:=.tup [.int z.1,.bl z.2]
def BF(es:LOB)(t:Int):dIs (shD (es.getD t.toNat ab)) .non=aa (.bl (opn es t)):=by
 unfold opn
 cases es.getD t.toNat ab with
 |none=>rfl
 |some b=>cases b <;> rfl
abbrev wt(E:LII)(j:Int):Int:=((E.filter λz=>z.1==j).map (·.2)).sum
abbrev kW(W:LII):List Key:=W.map λz=>.inl z.1
abbrev xW(W:LII):LD:=W.map λz=>.int z.2
abbrev mD(W:LII)(j:Int):Int:=((W.find? λz=>z.1==j).map (·.2)).getD 0
abbrev upW(W:LII)(j v:Int):LII:=if W.any (λz=>z.1==j) then W.map (λz=>if z.1=j then (z.1,v) else z) else W++[(j,v)]
def G0(W:LII)(j:Int):fP (kW W) (.inl j)=W.any λz=>z.1==j:=by
 unfold fP kW;rw[any_map]
 congr 1
 funext z;exact lh.mpr (by simp)
def Sk(W:LII)(j v:Int):gH (kW W) (.inl j)=kW (upW W j v):=by
 unfold gH upW;rw[G0];split
 .unfold kW;rw[map_map];refine rO λz _=>?_;show _=gX (if z.1=j then _ else z).1
  split <;> rfl
 .unfold kW;rw[bh];rfl
def Sm(W:LII)(j v:Int):hX (kW W) (xW W) (.inl j) (.int v)=xW (upW W j v):=by
 unfold hX upW;rw[G0];split
 .rename_i a;clear a;unfold kW xW
  induction W with
  |nil=>rfl
  |cons z W b=>
   simp only[bF,bF,rN,b,bF,bF]
   congr 1
   by_cases h:z.1=j
   .rw[if_pos (by rw[h]),if_pos h]
   .rw[if_neg λq=>h (sn q),if_neg h]
 .unfold xW;rw[bh];rfl
def G1(W:LII)(j:Int):gg (kW W) (xW W) (.inl j)=(W.find? λz=>z.1==j).map λz=>D.int z.2:=by
 unfold gg kW xW
 induction W with
 |nil=>rfl
 |cons z W a=>
  grind
def G2(W:LII)(j:Int):(gg (kW W) (xW W) (.inl j)).getD (.int 0)=.int (mD W j):=by
 rw[G1];unfold mD
 cases (W.find? λz=>z.1==j) <;> rfl
abbrev ux(W:LII)(z:Int×Int):LII:=upW W z.1 (mD W z.1+z.2)
abbrev wts(E:LII):LII:=E.foldl ux []
structure WOk(W E:LII):Prop where
 nd:(W.map (·.1)).Nodup
 ks:∀j,j∈W.map (·.1)↔j∈E.map (·.1)
 vs:∀z∈W,z.2=wt E z.1
 ln:W.length<=E.length
def G3(E:LII)(z:Int×Int)(j:Int):wt (E++[z]) j=wt E j+if z.1=j then z.2 else 0:=by
 unfold wt;rw[lr,bh,sum_append]
 congr 1
 by_cases h:z.1=j
 .rw[if_pos h,rM (by simp[h])];simp
 .rw[if_neg h,filter_cons_of_neg (by simp[h])];rfl
def BG{j:Int}(h:j∉E.map (·.1)):wt E j=0:=by
 unfold wt
 rw[filter_eq_nil_iff.mpr λz hz=>by
  simp only[beq_iff_eq]
  grind]
 rfl
def WOk.get{W E:LII}(h:WOk W E)(j:Int):mD W j=wt E j:=by
 unfold mD
 cases e:W.find? _ with
 |none=>
  have hn:j∉W.map (·.1):=λq=>by
   grind
  rw[BG λq=>hn ((h.ks j).mpr q)]
  rfl
 |some z=>
  have a:z.1=j:=by grind
  show z.2=_;rw[h.vs z (uZ e),a]
def WOk.step{W E:LII}(h:WOk W E)(z:Int×Int):WOk (ux W z) (E++[z]):=by
 unfold ux upW;rw[h.get]
 by_cases d:W.any (λy=>y.1==z.1)=ac
 .rw[if_pos d]
  have f:(W.map λy=>if y.1=z.1 then (y.1,wt E z.1+z.2) else y).map (·.1)=W.map (·.1):=by
   rw[map_map];refine rO λy _=>?_;show(if y.1=z.1 then _ else y).1=_
   split <;> rfl
  refine⟨by rw[f];exact h.nd,λj=>?_,λy c=>?_,by rw[aB,aR];have:=h.ln;lia⟩
  .rw[f,h.ks j,bh,bP];refine⟨.inl,λq=>q.elim id λq=>?_⟩;obtain⟨y,c,e⟩:=any_eq_true.mp d;have g:j=z.1:=by simpa using q
   rw[g,<- (beq_iff_eq.mp e)];exact(h.ks _).mp (aT.mpr ⟨y,c,rfl⟩)
  .obtain⟨x,l,ex⟩:=aT.mp c;rw[G3]
   by_cases e:x.1=z.1
   .rw[if_pos e]at ex;rw[<- ex,if_pos e.symm,e]
   .rw[if_neg e]at ex;rw[<- ex,if_neg λq=>e q.symm,h.vs x l]
    lia
 .rw[if_neg d]
  have hn : z.1∉W.map (·.1):=λq=>d (by
   obtain⟨y,c,e⟩:=aT.mp q;exact any_eq_true.mpr ⟨y,c,by simp[e]⟩)
  refine⟨?_,λj=>?_,λy c=>?_,by rw[aR,aR];have:=h.ln;show _+1<=_+1;lia⟩
  .rw[bh];refine fW.mpr ⟨h.nd,by simp,λa ha b i=>?_⟩;have:b=z.1:=by simpa using i
   rw[this];exact λq=>hn (q▸ha)
  .rw[bh,bh,bP,bP,h.ks j];rfl
  .rw[G3]
   rcases bP.mp c with q |q
   .have ne:z.1≠y.1:=λe=>hn (e▸aT.mpr ⟨y,q,rfl⟩);rw[if_neg ne,h.vs y q]
    lia
   .have:y=(z.1,wt E z.1+z.2):=by simpa using q
    rw[this,if_pos rfl]
def oG(E:LII):WOk (wts E) E:=by
 have go:∀(post pre W:List _),WOk W pre->WOk (post.foldl ux W) (pre++post):=by
  intro post
  induction post with
  |nil=>intro pre W h;rw[bQ];exact h
  |cons z post a=>
   intro pre W h;have:=a _ _ (h.step z);rw[cx]at this;exact this
 exact go E [] [] ⟨eW,λ_=>Iff.rfl,λz h=>(cS h).elim,aM _⟩
def G4(E:LII)(g:E.length<=100000):ui [.lst (E.map itD)]=aa (.kd (kW (wts E)) (xW (wts E))):=by
 apply iT;apply ak;refine E8 rfl ?_;apply ak;refine dh E itD (λpre M=>∃a b,M=[.im _,.ownd (kW (wts pre)) (xW (wts pre)),a,b]) rfl ⟨_,_,rfl⟩ ?_ ?_
 .rintro pre z post M e ⟨a,b,rfl⟩;refine⟨_,rfl,?_⟩;show wp _ [.im _,.ownd _ _,.im _,.im _] _;have h:pre.length<=E.length:=by rw[e,aR];lia
  have f:=(oG pre).ln
  have d:wts (pre++[z])=upW (wts pre) z.1 (mD (wts pre) z.1+z.2):=by
   unfold wts;rw[eJ];rfl
  rw[d];generalize wts pre=W at f
  have c:oa 1 (ae 2) (kI 0) [.im (.lst (E.map itD)),.ownd (kW W) (xW W),.im (.int z.1),.im (.int z.2)]=aa (.int (mD W z.1)):=by
   show aa ((gg _ _ _).getD _)=_;rw[G2]
  refine E8 (o:=.nx [.im _,.ownd _ _,.im (.int z.1),.im (.int z.2)]) ?_ ⟨_,_,rfl⟩;unfold iP;rw[ap c rfl fB,ay];show(if (kW W).length<16777216 then aa (Fl.nx [.im _,.ownd _ _,.im _,.im _]) else ab)=_;rw[if_pos (by unfold kW;rw[aB];lia),Sk W z.1 _,Sm]
 .rintro M ⟨a,b,rfl⟩;exact dX rfl (eT rfl)
abbrev opI(es:LOB)(E:LII):LII:=E.filter λz=>opn es z.1
abbrev hv(es:LOB)(E:LII)(lack:Int):LI0:=((wts (opI es E)).filter λz=>decide (z.2≥lack)).map (·.1)
def G5(h:InN es.length E)(e:E.length<=100000)(lack:Int):um [.lst (E.map itD),.lst (es.map shD),.int lack]=aa (.lst ((hv es E lack).map D.int)):=by
 have d:(opI es E).length<=E.length:=fV _ _;have ok:=oG (opI es E);have c:=ok.ln;apply iT;apply ak;refine bi (aD (am (bH (ds:=(opI es E).map itD) ?_) rfl) (G4 _ (by lia))) ?_
 .refine eC E itD _ itD rfl (by lia) λz hz=>?_;have a:=h z hz;exact dA rfl (bq (ap (be rfl (be rfl rfl rfl) (iL a.1 a.2.1)) rfl (BF es z.1))) λ_=>rfl
 generalize b:wts _=W at ok c;refine iS ?_ (je rfl);unfold hv;rw[b,map_map];refine eC W (λz=>D.int z.1) _ _ ?_ (by lia) λz hz=>?_
 .show aa _=_;unfold kW;rw[map_map];rfl
 .refine dA rfl (bq (ap ?_ rfl Fa)) λ_=>rfl;show gg _ _ _=_;rw[G1,FE W ok.nd z hz];rfl
abbrev tps(es:LOB):Prt->List (Int×Bool)
 |.inn t=>if opn es t then [(t,ac)] else []
 |.out t=>if opn es t then [(t,ag)] else []
 |.least k E=>(hv es E (k-cF (·==aa ac) es E)).map λt=>(t,ac)
 |.most k E=>(hv es E (cF (λe=>!(e==aa ag)) es E-k)).map λt=>(t,ag)
def uz(lack:Int):(hv es E lack).length<=E.length:=by
 unfold hv;rw[aB];have a:=fV (λz:Int×Int=>decide (z.2≥lack)) (wts (opI es E));have h2:=(oG (opI es E)).ln;have b:(opI es E).length<=E.length:=fV _ _
 lia
def Sn(p:Prt)(h:p.Ok es.length)(a:fo M=aa p.obj)(ha:fa M=aa [.lst (es.map shD)]):
  ba (aK "In" "tips" A0 fo fa) (ba (aK "Out" "tips" Bd fo fa) (ba (aK "Least" "tips" A5 fo fa) (aK "Most" "tips" A9 fo fa))) M=aa (.lst ((tps es p).map prD)):=by
 cases p with
 |inn t=>
  refine dB ((ce a rfl ha).trans (c8 (c7 (kM (bq (ap (be rfl rfl (iL h.1 h.2)) rfl (BF es t))) (λe=>?_) λe=>?_))))
  .show _=aa (D.lst ((if opn es t then _ else []).map prD));rw[if_pos e];rfl
  .show _=aa (D.lst ((if opn es t then _ else []).map prD));rw[if_neg (by rw[e];exact bx)]
   rfl
 |out t=>
  refine bA (bB a (by decide)) (dB ((ce a rfl ha).trans (c8 (c7 (kM (bq (ap (be rfl rfl (iL h.1 h.2)) rfl (BF es t))) (λe=>?_) λe=>?_)))))
  .show _=aa (D.lst ((if opn es t then _ else []).map prD));rw[if_pos e];rfl
  .show _=aa (D.lst ((if opn es t then _ else []).map prD));rw[if_neg (by rw[e];exact bx)]
   rfl
 |least k E=>
  have b:=uz (es:=es) (E:=E) (k-cF (·==aa ac) es E);have h2:=h.2;refine bA (bB a (by decide)) (bA (bB a (by decide)) (dB ((ce a rfl ha).trans ?_)));apply iT;apply ak;refine bi (ap rfl (aD rfl (Bt h.1 h.2)) jN) ?_;refine iS ?_ (je rfl);show _=aa (((hv es E _).map λt=>_).map prD);rw[map_map]
  exact gb _ D.int _ (fu (aD rfl (G5 h.1 h.2 _)) rfl) (by lia) λt _=>fO rfl rfl rfl
 |most k E=>
  have b:=uz (es:=es) (E:=E) (cF (λe=>!(e==aa ag)) es E-k);have h2:=h.2;refine bA (bB a (by decide)) (bA (bB a (by decide)) (bA (bB a (by decide)) ((ce a rfl ha).trans ?_)));apply iT;apply ak;refine bi (ap (aD rfl (Bu h.1 h.2)) rfl jN) ?_;refine iS ?_ (je rfl);show _=aa (((hv es E _).map λt=>_).map prD);rw[map_map];exact gb _ D.int _ (fu (aD rfl (G5 h.1 h.2 _)) rfl) (by lia) λt _=>fO rfl rfl rfl
abbrev neg(z:Int×Bool):Int×Bool:=(z.1,!z.2)
abbrev pnx(es:LOB)(p:Prt):Option (List (Int×Bool))->List (Int×Bool)
 |none=>tps es p
 |some l=>l.filter λz=>decide (z∈tps es p)
abbrev pst(es:LOB)(a:Option (List (Int×Bool)))(p:Prt):Option (List (Int×Bool)):=if p.sure es then a else aa (pnx es p a)
abbrev qV:Option (List (Int×Bool))->D
 |none=>.non
 |some l=>.lst (l.map prD)
def G6(es:LOB):∀G:List Prt,G.foldl (pst es) (aa [])=aa []
 | []=>rfl
 |p::G=>by
  have:pst es (aa []) p=aa []:=by unfold pst;split <;> rfl
  rw[gT,this];exact G6 es G
def So(h:p.Ok es.length):(tps es p).length<=100000:=by
 cases p with
 |inn t=>
  show(if opn es t then _ else []).length<=100000;split
  .exact(by decide:1<=100000)
  .exact b9 _
 |out t=>
  show(if opn es t then _ else []).length<=100000;split
  .exact(by decide:1<=100000)
  .exact b9 _
 |least k E=>unfold tps;rw[aB];exact cy (uz _) h.2
 |most k E=>unfold tps;rw[aB];exact cy (uz _) h.2
def G7(x:Int×Bool)(l:List (Int×Bool)):fA (prD x) (.lst (l.map prD))=aa (.bl (decide (x∈l))):=by
 have e:∀l:List _,cU (prD x) (l.map prD)=aa (decide (x∈l)):=by
  intro l
  induction l with
  |nil=>rfl
  |cons z l a=>
   show((deq 19 _ _).bind λb=>(cU _ _).map λr=>b || r)=_;rw[show deq 19 _ _=aa (z.1==x.1 && (z.2==x.2 && ac))from rfl,a];show aa _=_
   congr 1
   grind
 show((cU _ _).map D.bl)=_
 grind
abbrev G8:Option (List (Int×Bool))->LD ⊕ D
 |none=>.inr .non
 |some l=>.inl (l.map prD)
abbrev prs(G:List Prt)(es:LOB):Option (List (Int×Bool)):=(G.foldl (pst es) ab).map λl=>l.map neg
abbrev kRN(x:LD ⊕ D):Fl->Prop
 |.rtO ds=>x=.inl ds
 |.rt d=>d.scalar=ac/\x=.inr d
 | _=>False
def Sr{F:MF3}{x:LD ⊕ D}(h:wp F (fq N ds) (kRN x)):xV N F ds=aa x:=by
 obtain⟨r,e,q⟩:=h;show(F _).bind FW=aa x;rw[e,ay]
 cases r with
 |rtO us=>rw[show x=.inl us from q];rfl
 |rt d=>
  obtain⟨a,b⟩:=q;rw[b]
  exact if_pos a
 | _=>exact q.elim
def Ss(G:List Prt)(w:∀p∈G,p.Ok es.length):Bf [.lst (G.map Prt.obj),.lst (es.map shD)]=aa (G8 (prs G es)):=by
 apply Sr;generalize m:D.lst _=q;apply ak;refine bi rfl ?_;apply ak;refine dh G Prt.obj (λpre M=>∃h i,M=[.im q,.im _,.im (qV (pre.foldl (pst es) ab)),h,i]/\∀l,pre.foldl (pst es) ab=aa l->l.length<=100000) (by subst m;rfl) ⟨_,_,rfl,λl e=>by nomatch e⟩ ?_ ?_
 .rintro pre p post M x ⟨h,i,rfl,c⟩;have n:=w p (by grind);have b:G.foldl (pst es) ab=post.foldl (pst es) (pst es (pre.foldl (pst es) ab) p):=by grind
  rw[eJ,gT,foldl_nil];generalize pre.foldl _ ab=a at c b;refine⟨_,rfl,?_⟩;refine aU (kG (cI (RN p n rfl rfl) rfl)) (λe=>?_) λe=>bK ?_
  .rw[Bool.not_eq_true']at e;have f:pst es a p=aa (pnx es p a):=by unfold pst;rw[if_neg (by grind)]
   apply ak;refine bi (Sn p n rfl rfl) ?_;apply ak
   have u:(vIf (mB (m2 dIs (ae 2) kN)) (ae 4) (aJ (bg 1 [4] (aV (ae 2)) (ax 0) (mB (m2 fA (ae 0) (ae 1))) (ae 0)))) [.im q,.im (.lst (es.map shD)),.im (qV a),.im p.obj,.im (.lst ((tps es p).map prD))]=aa (qV (pst es a p))/\∀l,pst es a p=aa l->l.length<=100000:=by
    rw[f]
    cases a with
    |none=>exact⟨rfl,λl e=>by cases e;exact(So n)⟩
    |some v=>
     have r:=c v rfl;refine⟨kM rfl (λe=>by nomatch e) λ_=>bH (eC v prD _ prD rfl (by lia) λz _=>dA rfl (bq (ap rfl rfl (G7 z _))) λ_=>rfl),λl e=>?_⟩;cases e;exact cy (fV _ _) r
   refine bi u.1 ?_;obtain⟨g,j⟩:∃g,pst es a p=aa g:=⟨_,f⟩;have d:=u.2;rw[j]at b d ⊢
   cases g with
   |nil=>
    refine aU rfl (λ_=>?_) λe=>by nomatch e
    refine iS rfl (?_);unfold prs;rw[b,G6]
    rfl
   |cons z g=>
    exact aU rfl (λe=>by nomatch e) λ_=>bK ⟨_,_,rfl,d⟩
  .rw[Bool.not_eq_false']at e;have f:pst es a p=a:=by unfold pst;rw[if_pos e]
   rw[f];exact⟨_,_,rfl,c⟩
 .rintro M ⟨h,i,rfl,c⟩;unfold prs;generalize G.foldl _ ab=a at c;apply ak
  cases a with
  |none=>
   exact aU rfl (λ_=>(dX rfl ⟨rfl,rfl⟩)) λe=>by nomatch e
  |some l=>
   have r:=c l rfl;refine aU rfl (λe=>by nomatch e) λ_=>bK ?_;refine iS ?_ rfl;rw[map_map];exact gb l prD _ rfl (by lia) λz _=>fO rfl rfl rfl
def k8(h:opn es t=ac):es.getD t.toNat ab=ab:=by simpa[opn]using h
def G9(h:opn es t=ac):wt (opI es E) t=wt E t:=by
 unfold wt opI;rw[filter_filter]
 grind
def uA{lack:Int}:t∈hv es E lack↔opn es t=ac/\t∈E.map (·.1)/\wt E t≥lack:=by
 have ok:=oG (opI es E);constructor
 .intro h;obtain⟨z,hz,rfl⟩:=aT.mp h;obtain⟨b,h2⟩:=cL.mp hz;have h2:=of_decide_eq_true h2;obtain⟨y,c,a⟩:=aT.mp ((ok.ks z.1).mp (aT.mpr ⟨z,b,rfl⟩));obtain⟨g,d⟩:=cL.mp c;rw[a]at d;refine⟨d,aT.mpr ⟨y,g,a⟩,?_⟩;rw[<- G9 d,<- ok.vs z b];exact h2
 .rintro⟨b,h2,f⟩;obtain⟨y,c,a⟩:=aT.mp h2;obtain⟨z,hz,e⟩:=aT.mp ((ok.ks t).mpr (aT.mpr ⟨y,cL.mpr ⟨c,by rw[a];exact b⟩,a⟩));refine aT.mpr ⟨z,cL.mpr ⟨hz,decide_eq_true ?_⟩,e⟩;rw[ok.vs z hz,e,G9 b];exact f
def Ha(es:LOB)(E:LII)(lack:Int):(hv es E lack).Nodup:=by
 unfold hv;exact u5 ((oQ (p:=λz:Int×Int=>decide _)).map (·.1)) (oG _).nd
def BH(z:Int×Int)(E:LII)(t:Int):wt (z::E) t=(if z.1=t then z.2 else 0)+wt E t:=by
 unfold wt
 grind
def uB(q:Option Bool->Bool)(es:LOB)(z:Int×Int)(E:LII):cF q es (z::E)=(if q (es.getD z.1.toNat ab) then z.2 else 0)+cF q es E:=by
 unfold cF
 grind
def Hb(h:InN n E)(t:Int):0<=wt E t:=by
 induction E with
 |nil=>exact Int.le_refl _
 |cons z E b=>
  have c:=h z aH;have h2:=b λy a=>h y (bj _ a);rw[BH]
  grind
def kL{j:Int}{b:Bool}(t0:0<=t)(t1:t<(es.length:Int))(a:0<=j):(put es t.toNat b).getD j.toNat ab=if j=t then aa b else es.getD j.toNat ab:=by
 by_cases e:j=t
 .rw[if_pos e,e];exact oF es b (by lia)
 .rw[if_neg e];exact mx es b (by lia)
def BI(h:InN es.length E)(t0:0<=t)(t1:t<(es.length:Int))(a:opn es t=ac)(b:Bool):cF (·==aa ac) (put es t.toNat b) E=cF (·==aa ac) es E+if b then wt E t else 0:=by
 induction E with
 |nil=>cases b <;> rfl
 |cons z E d=>
  rw[uB,uB,BH,(d λy c=>h y (bj _ c)),kL t0 t1 (h z aH).1]
  by_cases e:z.1=t
  .rw[if_pos e,if_pos e,e,k8 a]
   cases b with
   |true=>
    show z.2+(cF _ es E+wt E t)=0+cF _ es E+(z.2+wt E t)
    lia
   |false=>
    show 0+(cF _ es E+0)=0+cF _ es E+0
    lia
  .rw[if_neg e,if_neg e]
   split <;> split <;> lia
def BJ(h:InN es.length E)(t0:0<=t)(t1:t<(es.length:Int))(a:opn es t=ac)(b:Bool):cF (λe=>!(e==aa ag)) (put es t.toNat b) E=cF (λe=>!(e==aa ag)) es E-if b then 0 else wt E t:=by
 induction E with
 |nil=>cases b <;> rfl
 |cons z E d=>
  rw[uB,uB,BH,(d λy c=>h y (bj _ c)),kL t0 t1 (h z aH).1]
  by_cases e:z.1=t
  .rw[if_pos e,if_pos e,e,k8 a]
   cases b with
   |true=>
    show z.2+(cF _ es E-0)=z.2+cF _ es E-0
    lia
   |false=>
    show 0+(cF _ es E-wt E t)=z.2+cF _ es E-(z.2+wt E t)
    lia
  .rw[if_neg e,if_neg e]
   split <;> split <;> lia
def BK(i:p.Ok es.length)(d:p.sure es=ag)(t:Int)(b:Bool):(t,b)∈tps es p↔(0<=t/\t<(es.length:Int))/\opn es t=ac/\p.sure (put es t.toNat b)=ac:=by
 cases p with
 |inn t0=>
  obtain⟨f,g⟩:=i;show _∈(if opn es t0 then _ else [])↔_
  have es':0<=t->t<_->(Prt.sure _ (.inn t0)=ac↔(if t0=t then aa b else es.getD t0.toNat ab)=aa ac):=λx y=>by
   rw[<- kL x y f];exact beq_iff_eq
  have d:¬es.getD t0.toNat ab=aa ac:=λq=>by
   have:(es.getD t0.toNat ab==aa ac)=ag:=d;rw[q]at this;exact absurd this (by decide)
  constructor
  .intro h;split at h
   .rename_i c;have:(t,b)=(t0,ac):=by simpa using h
    cases this;exact⟨⟨f,g⟩,c,(es' f g).mpr (if_pos rfl)⟩
   .nomatch h
  .rintro⟨⟨x,y⟩,c,a⟩;have a:=(es' x y).mp a
   by_cases e:t0=t
   .rw[if_pos e]at a;cases a;rw[e,if_pos c];exact aH
   .rw[if_neg e]at a
    exact absurd a d
 |out t0=>
  obtain⟨f,g⟩:=i;show _∈(if opn es t0 then _ else [])↔_
  have es':0<=t->t<_->(Prt.sure _ (.out t0)=ac↔(if t0=t then aa b else es.getD t0.toNat ab)=aa ag):=λx y=>by
   rw[<- kL x y f];exact beq_iff_eq
  have d:¬es.getD t0.toNat ab=aa ag:=λq=>by
   have:(es.getD t0.toNat ab==aa ag)=ag:=d;rw[q]at this;exact absurd this (by decide)
  constructor
  .intro h;split at h
   .rename_i c;have:(t,b)=(t0,ag):=by simpa using h
    cases this;exact⟨⟨f,g⟩,c,(es' f g).mpr (if_pos rfl)⟩
   .nomatch h
  .rintro⟨⟨x,y⟩,c,a⟩;have a:=(es' x y).mp a
   by_cases e:t0=t
   .rw[if_pos e]at a;cases a;rw[e,if_pos c];exact aH
   .rw[if_neg e]at a
    exact absurd a d
 |least k E=>
  have hi:=i.1;have d:=of_decide_eq_false d;show _∈(hv es E _).map _↔(_/\_/\decide _=ac);rw[decide_eq_true_iff];constructor
  .intro h;obtain⟨u,hm,e⟩:=aT.mp h;cases e;obtain⟨c,hn,l⟩:=uA.mp hm;obtain⟨z,hz,j⟩:=aT.mp hn;have hr:=hi z hz;rw[j]at hr;refine⟨⟨hr.1,hr.2.1⟩,c,?_⟩;rw[BI hi hr.1 hr.2.1 c,if_pos rfl];lia
  .rintro⟨⟨x,y⟩,c,a⟩;simp only[BI hi x y c]at a
   cases b with
   |false=>rw[if_neg (by decide)]at a;lia
   |true=>
    refine aT.mpr ⟨t,uA.mpr ⟨c,?_,by lia⟩,rfl⟩
    by_cases q:t∈E.map (·.1)
    .exact q
    .rw[BG q]at a
     lia
 |most k E=>
  have hi:=i.1;have d:=of_decide_eq_false d;show _∈(hv es E _).map _↔(_/\_/\decide _=ac);rw[decide_eq_true_iff];constructor
  .intro h;obtain⟨u,hm,e⟩:=aT.mp h;cases e;obtain⟨c,hn,l⟩:=uA.mp hm;obtain⟨z,hz,j⟩:=aT.mp hn;have hr:=hi z hz;rw[j]at hr;refine⟨⟨hr.1,hr.2.1⟩,c,?_⟩;rw[BJ hi hr.1 hr.2.1 c,if_neg (by decide)];lia
  .rintro⟨⟨x,y⟩,c,a⟩;rw[BJ hi x y c]at a
   cases b with
   |true=>rw[if_pos rfl]at a;lia
   |false=>
    refine aT.mpr ⟨t,uA.mpr ⟨c,?_,by lia⟩,rfl⟩
    by_cases q:t∈E.map (·.1)
    .exact q
    .rw[BG q]at a
     lia
def uC(c:p.Ok es.length)(t0:0<=t)(t1:t<(es.length:Int))(d:opn es t=ac)(b:Bool)(h:p.sure es=ac):p.sure (put es t.toNat b)=ac:=by
 have f:=k8 d
 cases p with
 |inn u=>
  have a:=beq_iff_eq.mp h;show((put es t.toNat b).getD u.toNat ab==aa ac)=ac;rw[kL t0 t1 c.1,if_neg (λe=>by rw[e,f]at a;nomatch a),a]
  rfl
 |out u=>
  have a:=beq_iff_eq.mp h;show((put es t.toNat b).getD u.toNat ab==aa ag)=ac;rw[kL t0 t1 c.1,if_neg (λe=>by rw[e,f]at a;nomatch a),a]
  rfl
 |least k E=>
  have h:=of_decide_eq_true h;show decide _=ac;have:=Hb c.1 t;rw[decide_eq_true_iff,BI c.1 t0 t1 d]
  split <;> lia
 |most k E=>
  have h:=of_decide_eq_true h;show decide _=ac;have:=Hb c.1 t;rw[decide_eq_true_iff,BJ c.1 t0 t1 d]
  split <;> lia
def Su(es:LOB)(p:Prt):((tps es p).map (·.1)).Nodup:=by
 have one:∀(q:Bool) (z:Int×Bool),((if q then [z] else []).map (·.1)).Nodup:=λq z=>by
  cases q
  .exact eW
  .exact bX.mpr ⟨λh=>(cS h).elim,eW⟩
 cases p with
 |inn t=>exact one _ _
 |out t=>exact one _ _
 |least k E=>
  show(((hv es E _).map λt=>(t,ac)).map (·.1)).Nodup;rw[map_map]
  exact(map_id _).symm▸Ha es E _
 |most k E=>
  show(((hv es E _).map λt=>(t,ag)).map (·.1)).Nodup;rw[map_map];exact(map_id _).symm▸Ha es E _
abbrev BL(es:LOB)(G:List Prt):Option (List (Int×Bool))->Prop
 |none=>∀p∈G,p.sure es=ac
 |some l=>(∃p∈G,p.sure es=ag)/\(∀z,z∈l↔∀p∈G,p.sure es=ag->z∈tps es p)/\(l.map (·.1)).Nodup
def Hc(es:LOB)(G:List Prt):BL es G (G.foldl (pst es) ab):=by
 have go:∀(post pre:List Prt) b,BL es pre b->BL es (pre++post) (post.foldl (pst es) b):=by
  intro post
  induction post with
  |nil=>intro pre b h;rw[bQ];exact h
  |cons p post j=>
   intro pre b h;have:=j (pre++[p]) (pst es b p) ?_
   .grind
   unfold pst
   cases f:p.sure es with
   |true=>
    have hm:∀q,q∈pre++[p]->q∈pre\/q=p:=λq c=>(bP.mp c).imp id λe=>by simpa using e
    cases b with
    |none=>exact λq c=>(hm q c).elim (h q) λe=>e▸f
    |some l=>
     obtain⟨⟨q,c,i⟩,h2,g⟩:=h;refine⟨⟨q,da _ c,i⟩,λz=>?_,g⟩
     grind
   |false=>
    have d:p∈pre++[p]:=by simp
    cases b with
    |none=>
     refine⟨⟨p,d,f⟩,λz=>?_,Su es p⟩;refine⟨λa q c e=>?_,λa=>a p d f⟩
     rcases bP.mp c with w |w
     .rw[h q w]at e;grind
     .have:q=p:=by simpa using w
      rw[this];exact a
    |some l=>
     obtain⟨_,h2,g⟩:=h;refine⟨⟨p,d,f⟩,λz=>?_,u5 ((oQ (p:=λz=>decide (z∈tps es p))).map (·.1)) g⟩;show z∈l.filter _↔_
     grind
 exact go G [] ab λp d=>(cS d).elim
nonrec def Pr:=Int×Bool
nonrec abbrev LLP:=List (List Pr)
nonrec def Wy:=Bool×Nat
nonrec def Wt:=List (Pr×List Wy)
abbrev wyS(b:Bool):Str:=cond b "bar" "rule"
abbrev wyD(y:Wy):D:=.tup [.str (wyS y.1),.int y.2]
abbrev wyK(y:Wy):List Key:=[.inr (wyS y.1),.inl y.2]
abbrev d3(b:List Pr):D:=.lst (b.map prD)
abbrev brP(z:Pr):Prt:=if z.2 then .inn z.1 else .out z.1
abbrev brg(b:List Pr):List Prt:=b.map brP
variable{y:Wy}
def BM{x:Wy}(h:wyK x=wyK y):x=y:=by
 obtain⟨a,i⟩:=x;obtain⟨b,j⟩:=y;obtain⟨c,h2⟩:=oV h;have f:=sn (oV h2).1;have d:i=j:=by lia
 subst d;have e:wyS a=wyS b:=Sum.inr.inj c
 cases a <;> cases b <;> first |rfl |exact absurd e (by decide)
variable{p q:Pr}
def He(h:fT p.1 p.2=fT q.1 q.2):p=q:=by
 obtain⟨a,i⟩:=p;obtain⟨b,j⟩:=q;obtain⟨c,h2⟩:=oV h
 grind
abbrev iE(p:Pr)(y:Wy):Wt->Wt
 | []=>[(p,[y])]
 |q::tw=>if q.1=p then (q.1,q.2++[y])::tw else q::iE p y tw
abbrev gm(p:Pr)(y:Wy):Wt->Wt
 | []=>[]
 |q::tw=>if q.1=p then (q.1,q.2.erase y)::tw else q::gm p y tw
abbrev look(tw:Wt)(p:Pr):List Wy:=match tw with
 | []=>[]
 |q::tw=>if q.1=p then q.2 else look tw p
abbrev wtW(tw:Wt):Wss:=tw.map λq=>(fT q.1.1 q.1.2,q.2.map wyD)
def Hg(p:Pr)(y:Wy):∀tw:Wt,fS (fT p.1 p.2) (wyD y) (wtW tw)=wtW (iE p y tw)
 | []=>rfl
 |q::tw=>by
  show fS _ _ ((fT q.1.1 q.1.2,q.2.map wyD)::wtW tw)=_;unfold fS iE
  by_cases e:q.1=p
  .rw[if_pos (by rw[e]),if_pos e];show _=(_,(q.2++[y]).map wyD)::wtW tw
   grind
  .rw[if_neg (λz=>e (He z)),if_neg e,Hg p y tw];rfl
def ixW(p:Pr):∀tw:Wt,(aQ (fT p.1 p.2) ((wtW tw).map (·.1))=ab/\look tw p=[])\/∃j q,aQ (fT p.1 p.2) ((wtW tw).map (·.1))=aa j/\tw[j]?=aa q/\q.1=p/\look tw p=q.2/\∀y,gm p y tw=tw.set j (q.1,q.2.erase y)
 | []=>.inl ⟨rfl,rfl⟩
 |q::tw=>by
  show(aQ _ (fT q.1.1 q.1.2::(wtW tw).map (·.1))=ab/\_)\/∃j b,aQ _ (fT q.1.1 q.1.2::(wtW tw).map (·.1))=aa j/\_;unfold aQ look
  by_cases e:q.1=p
  .refine .inr ⟨0,q,if_pos (by rw[e]),rfl,e,if_pos e,λy=>?_⟩;unfold gm
   grind
  .rw[if_neg (λz=>e (He z)),if_neg e]
   rcases ixW p tw with⟨a,h2⟩ |⟨j,b,a,h2,c,d,f⟩
   .grind
   .refine .inr ⟨j+1,b,by rw[a];rfl,by rw[gt];exact h2,c,d,λy=>?_⟩;unfold gm
    grind
def uD(ds:LD):(lsO ds).items=aa ds:=xP ds
def Sv(tw:Wt)(p:Pr):(wsO (wtW tw)).got (fT p.1 p.2)=aa ((look tw p).map wyD):=by
 unfold wsO O.got;dsimp only
 rcases ixW p tw with⟨a,h2⟩ |⟨j,q,a,h2,c,b,d⟩
 .grind
 .rw[a,b];dsimp only;rw[cu,wtW,cu,h2];exact uD _
variable{tw:Wt}{pp:Xp}{g:MF1}
def BN(h:pp M=aa (wsO (wtW tw),R))(a:g M=aa (prD p)):gL pp g M=aa ((look tw p).map wyD):=by
 unfold gL;rw[h,ay,a,ay];exact Sv tw p
def Sw(h:pp M=aa (wsO (wtW tw),R))(e:g M=aa (prD p))(i:look tw p≠[]):∃a,jP pp g M=aa (lsO ((look tw p).map wyD),a)/\∀y,a (lsO (((look tw p).erase y).map wyD))=R (wsO (wtW (gm p y tw))):=by
 rcases ixW p tw with⟨b,h2⟩ |⟨j,q,b,h2,f,c,d⟩
 .grind
 .refine⟨λx=>R (.dT ((wtW tw).map (·.1)) (((wtW tw).map λp=>lsO p.2).set j x)),?_,λy=>?_⟩
  .unfold jP;rw[h,ay,e,ay];show((wsO _).key (fT p.1 p.2)).map _=_;unfold wsO O.key;dsimp only;rw[b,ay,cu,wtW,cu,h2,c];rfl
  .rw[d y,c];unfold wsO wtW;rw[gu,gu,gu,ml (by grind)]
def Hh(z y:Wy):deq 19 (wyD z) (wyD y)=aa (z==y):=by
 rw[show deq 19 _ _=aa ((wyS z.1==wyS y.1) && ((_==_) && ac))from rfl]
 congr 1
 obtain⟨a,i⟩:=z;obtain⟨b,j⟩:=y;apply lh.mpr;simp only[cD,beq_iff_eq,Prod.mk.injEq,and_true];constructor
 .rintro⟨u,v⟩;refine⟨?_,by lia⟩
  cases a <;> cases b <;> first |rfl |exact absurd u (by decide)
 .grind
def BO(y:Wy):∀U2:List Wy,cU (wyD y) (U2.map wyD)=aa (decide (y∈U2))
 | []=>rfl
 |z::U2=>by
  show((deq 19 _ _).bind λb=>(cU _ _).map λr=>b || r)=_;rw[Hh,BO y U2]
  grind
def Hi(y:Wy):∀U2:List Wy,y∈U2->(U2.map wyD).eraseIdx ((U2.map wyD).findIdx (isE (wyD y)))=(U2.erase y).map wyD
 | [],h=>nomatch h
 |z::U2,h=>by
  have a:isE (wyD y) (wyD z)=(z==y):=by
   unfold isE;rw[Hh]
   grind
  rw[bF,oT,a,erase_cons]
  cases e:z==y with
  |true=>rfl
  |false=>
   have:y∈U2:=by
    grind
   show wyD z::(U2.map wyD).eraseIdx _=_;rw[Hi y U2 this];rfl
def Sx{U2:List Wy}(h:y∈U2):(lsO (U2.map wyD)).remd (wyD y)=aa (lsO ((U2.erase y).map wyD)):=by
 unfold O.remd;rw[uD,ay,BO,decide_eq_true h,if_pos rfl,Hi y U2 h];rfl
def Sy(y:Wy)(U2:List Wy):fA (wyD y) (.lst (U2.map wyD))=aa (.bl (decide (y∈U2))):=by
 show((cU _ _).map D.bl)=_;rw[BO];rfl
abbrev gys(r b:Nat):List Wy:=(bI r).map (λi=>(ag,i))++(bI b).map λi=>(ac,i)
abbrev cV(C:LRu)(bs:LLP)(y:Wy):List Prt:=cond y.1 (brg (bs.getD y.2 [])) (((C[y.2]?).map grd).getD [])
abbrev gdD(C:LRu)(bs:LLP)(y:Wy):D:=.lst ((cV C bs y).map Prt.obj)
def Hj(r b:Nat):(gys r b).Nodup:=by
 refine fW.mpr ⟨(u6 _ (λa b h e=>h (Prod.mk.inj e).2) nodup_range),(u6 _ (λa b h e=>h (Prod.mk.inj e).2) nodup_range),?_⟩
 grind
variable{r:Nat}
def jk{b:Nat}:y∈gys r b↔y.2<cond y.1 b r:=by
 unfold gys;obtain⟨a,i⟩:=y
 cases a <;> simp
def Sz(r b:Nat):(gys r b).length=r+b:=by unfold gys;simp
def BP(r b:Nat):gys r (b+1)=gys r b++[(ac,b)]:=by unfold gys;rw[range_succ];simp
def BQ{b c:Type}[DecidableEq c]{f:b->c}(d:∀x y,f x=f y->x=y):∀{l:List b} {j:Nat} {a:b},l.Nodup->l[j]?=aa a->aQ (f a) (l.map f)=aa j
 | [],_,_,_,h=>by cases h
 |x::l,0,a,_,h=>by
  cases h
  exact if_pos rfl
 |x::l,j+1,a,nd,h=>by
  obtain⟨g,i⟩:=bX.mp nd;rw[bF];unfold aQ;rw[if_neg (λe=>g (by grind)),BQ d i h];rfl
structure Spt where
 es:LOB
 st:LD
 bs:LLP
 tw:Wt
 wt:List Wy
 ms:LRu
 pp:LD
 ct:Int
 en:Bool
abbrev Spt.S(C:LRu)(s:Spt):Spr:=⟨s.es,s.st,s.bs.map d3,(gys C.length s.bs.length).map wyK,(gys C.length s.bs.length).map (gdD C s.bs),wtW s.tw,s.wt.map wyD,.lst (s.ms.map mkD),[("paper",lsO s.pp),("count",.fz (.int s.ct)),("ended",.fz (.bl s.en))]⟩
def SA{s:Spt}(c:y∈gys C.length s.bs.length)(b:g (.deep (.at l (s.S C).o)::M)=aa (wyD y)):pB (jP (aS "Seeking" "guards" (aG 0)) g) (.deep (.at l (s.S C).o)::M)=aa (gdD C s.bs y):=by
 obtain⟨j,a⟩:=rJ c;unfold pB jP;rw[GN,ay,b,ay];show(((O.dT ((gys C.length s.bs.length).map wyK) (((gys C.length s.bs.length).map _).map .fz)).key (wyK y)).map _).bind _=_;unfold O.key;dsimp only;rw[(BQ (λ_ _=>BM) (Hj _ _) a),ay,cu,cu,a];rfl
abbrev qW(y:Wy)(tw:Wt)(p:Prt):Wt:=(nmL p).foldl (λtw t=>iE (t,qQ p) y tw) tw
abbrev ig(y:Wy)(ps:List Prt)(tw:Wt):Wt:=ps.foldl (qW y) tw
def SB(y:Wy)(p:Prt)(tw:Wt):ut (wyD y) (wtW tw) p=wtW (qW y tw p):=by
 unfold ut qW;generalize nmL p=ts
 induction ts generalizing tw with
 |nil=>rfl
 |cons t ts a=>rw[gT,gT,Hg (t,qQ p),a]
def uE(y:Wy)(ps:List Prt)(tw:Wt):my (wyD y) ps (wtW tw)=wtW (ig y ps tw):=by
 unfold my ig
 induction ps generalizing tw with
 |nil=>rfl
 |cons p ps a=>rw[gT,gT,SB,a]
abbrev qX:Nat->LRu->Wt->Wt
 | _,[],tw=>tw
 |i,r::C,tw=>qX (i+1) C (ig (ag,i) (grd r) tw)
def Hk:∀(C:LRu) (i:Nat) (s:Spr) (tw:Wt),s.ws=wtW tw->(eD i C).foldl k6 s=⟨s.es,s.st,s.bs,s.gk++(eD i C).map (λp=>mz p.1),s.gd++(eD i C).map (λp=>.lst ((grd p.2).map Prt.obj)),wtW (qX i C tw),s.wt++(eD i C).map (λp=>qS p.1),s.mks,s.tl⟩
 | [],i,s,tw,h=>by
  obtain⟨a,b,c,d,e,f,g,m,tl⟩:=s;subst h;simp[eD]
  rfl
 |r::C,i,s,tw,h=>by
  rw[eD,gT,Hk C _ _ (ig (ag,i) _ tw) (by rw[<- uE,<- h];rfl)];simp[k6,uu,qX]
def Hl{a:Type}(f:Nat->a)(C:LRu):(eD 0 C).map (λp=>f p.1)=(bI C.length).map f:=by
 apply ls;intro j;rw[cu,qT,cu]
 grind
abbrev spT(es:LOB)(C:LRu):Spt:=⟨es,[],[],qX 0 C [],(bI C.length).map λi=>(ag,i),gO C,[],0,ag⟩
def SC(es:LOB)(C:LRu):spI es C={(spT es C).S C with tl:=[]}:=by
 unfold spI;rw[Hk C 0 _ [] rfl,Hl mz,Hl qS];dsimp only[Spt.S,spT,sp0,gys];simp only[nil_append,map_nil,length_nil,range_zero,bQ,map_map]
 congr 1
 apply ls;intro j;rw[cu,qT,cu]
 by_cases h:j<C.length
 .rw[uY h];simp[gdD,cV,cr h]
 .rw[ij (by lia),ij (by rw[cK];lia)];rfl
def BR(p q:Pr)(y:Wy):∀tw:Wt,look (iE p y tw) q=if q=p then look tw q++[y] else look tw q
 | []=>by
  show(if p=q then [y] else [])=if q=p then []++[y] else []
  grind
 |r::tw=>by
  by_cases e:r.1=p
  .rw[iE,if_pos e];show(if r.1=q then r.2++[y] else look tw q)=if q=p then (if r.1=q then r.2 else look tw q)++[y] else (if r.1=q then r.2 else look tw q)
   grind
  .rw[iE,if_neg e];show(if r.1=q then r.2 else look _ q)=if q=p then (if r.1=q then r.2 else look tw q)++[y] else (if r.1=q then r.2 else look tw q);rw[(BR p q y tw)]
   grind
def Hm(p q:Pr)(y:Wy):∀tw:Wt,look (gm p y tw) q=if q=p then (look tw q).erase y else look tw q
 | []=>by
  split <;> rfl
 |r::tw=>by
  by_cases e:r.1=p
  .rw[gm,if_pos e];show(if r.1=q then r.2.erase y else look tw q)=if q=p then (if r.1=q then r.2 else look tw q).erase y else (if r.1=q then r.2 else look tw q)
   grind
  .rw[gm,if_neg e];show(if r.1=q then r.2 else look _ q)=if q=p then (if r.1=q then r.2 else look tw q).erase y else (if r.1=q then r.2 else look tw q);rw[(Hm p q y tw)]
   grind
nonrec def cn(tw:Wt)(p:Pr)(y:Wy):Nat:=(look tw p).count y
def jl:y∈look tw p↔0<cn tw p y:=count_pos_iff.symm
def SD{z:Wy}(h:z≠y):cn (iE p y tw) q z=cn tw q z:=by
 unfold cn;rw[BR];split
 .rw[count_append,count_singleton,if_neg (by rw[beq_iff_eq];exact λe=>h e.symm)];rfl
 .rfl
def oH{y z:Wy}(h:z≠y)(q:Pr):∀(ps:List Prt) (tw:Wt),cn (ig y ps tw) q z=cn tw q z
 | [],_=>rfl
 |p::ps,tw=>by
  show cn (ig y ps _) q z=_;rw[oH h q ps];unfold qW;generalize nmL p=ts
  induction ts generalizing tw with
  |nil=>rfl
  |cons t ts a=>rw[gT,a,SD h]
def SE(y:Wy)(tw:Wt)(z:Pr):qW y tw (brP z)=iE z y tw:=by
 obtain⟨t,b⟩:=z
 cases b <;> rfl
def Ho(y:Wy)(q:Pr):∀(b:List Pr) (tw:Wt),cn (ig y (brg b) tw) q y=cn tw q y+b.count q
 | [],_=>rfl
 |z::b,tw=>by
  show cn (ig y (brg b) _) q y=_;rw[Ho y q b,SE,count_cons]
  have:cn (iE z y tw) q y=cn tw q y+if z==q then 1 else 0:=by
   unfold cn;rw[BR]
   by_cases e:q=z
   .rw[if_pos e,count_append,if_pos (by rw[e];exact beq_self_eq_true z),count_singleton,if_pos (beq_self_eq_true y)]
   .rw[if_neg e,if_neg (by rw[beq_iff_eq];exact λx=>e x.symm)];rfl
  lia
abbrev jT(y:Wy)(ps:List Pr)(tw:Wt):Wt:=ps.foldl (λtw p=>gm p y tw) tw
def SF(p q:Pr)(y z:Wy)(tw:Wt):cn (gm p y tw) q z=if q=p/\z=y then cn tw q z-1 else cn tw q z:=by
 unfold cn;rw[Hm]
 by_cases e:q=p
 .rw[if_pos e]
  by_cases f:z=y
  .rw[if_pos ⟨e,f⟩,f,count_erase_self]
  .rw[if_neg (λx=>f x.2),count_erase_of_ne f]
 .rw[if_neg e,if_neg (λx=>e x.1)]
def BS(q:Pr)(y z:Wy):∀(ps:List Pr) (tw:Wt),ps.Nodup->cn (jT y ps tw) q z=if q∈ps/\z=y then cn tw q z-1 else cn tw q z
 | [],tw,_=>by rw[if_neg (λx=>nomatch x.1)];rfl
 |p::ps,tw,nd=>by
  obtain⟨a,b⟩:=bX.mp nd;show cn (jT y ps _) q z=_;rw[BS q y z ps _ b,SF]
  by_cases f:z=y
  .by_cases e:q=p
   .rw[if_neg (λx=>a (by rw[<- e];exact x.1)),if_pos ⟨e,f⟩,if_pos ⟨by rw[e];exact aH,f⟩]
   .rw[if_neg (λx:q=p/\z=y=>e x.1)]
    by_cases g:q∈ps
    .rw[if_pos ⟨g,f⟩,if_pos ⟨bj _ g,f⟩]
    .rw[if_neg (λx=>g x.1),if_neg (λx=>by rcases bm.mp x.1 with u |u;exact e u;exact g u)]
  .rw[if_neg (λx=>f x.2),if_neg (λx=>f x.2),if_neg (λx=>f x.2)]
def SG(h:bL c (wtW tw)):bL c (wtW (gm p y tw)):=by
 have gen:∀tw:Wt,(gm p y tw).length=tw.length/\∀q∈gm p y tw,∃d∈tw,q.2.length<=d.2.length:=by
  intro tw
  induction tw with
  |nil=>exact⟨rfl,λq h=>nomatch h⟩
  |cons r tw f=>
   dsimp only[gm];split
   .refine⟨rfl,λq a=>?_⟩
    rcases bm.mp a with e |e
    .rw[e];exact⟨r,aH,(erase_sublist).length_le⟩
    .exact⟨q,bj _ e,aM _⟩
   .refine⟨by rw[bO,f.1];rfl,λq a=>?_⟩
    rcases bm.mp a with e |e
    .rw[e];exact⟨r,aH,aM _⟩
    .obtain⟨d,b,h2⟩:=f.2 q e;exact⟨d,bj _ b,h2⟩
 obtain⟨g,i⟩:=gen tw;refine⟨by unfold wtW;rw[aB,g];have:=h.ln;unfold wtW at this;rwa [aB]at this,λq a=>?_⟩;obtain⟨x,j,rfl⟩:=aT.mp a;obtain⟨l,b,h2⟩:=i x j;have:=h.al _ (aT.mpr ⟨l,b,rfl⟩);rw[aB]at this ⊢
 lia
def Hq{c:Nat}{y:Wy}:∀{ps:List Pr} {tw:Wt},bL c (wtW tw)->bL c (wtW (jT y ps tw))
 | [],_,h=>h
 | _::ps,_,h=>Hq (ps:=ps) (SG h)
def BU(h:bL c (wtW tw))(p:Pr):(look tw p).length<=c:=by
 rcases ixW p tw with⟨_,h2⟩ |⟨j,q,b,h2,d,a,e⟩
 .rw[h2];exact b9 _
 .rw[a];have:=h.al _ (aT.mpr ⟨q,dF h2,rfl⟩)
  rwa [aB]at this
def qY(nd:ns.Nodup)(h:∀x∈ns,0<=x/\x<(n:Int)):ns.length<=n:=by
 by_cases c:ns.length<=n
 .exact c
 .have d:∀x∈ns,x∈(bI n).map λ(i:Nat)=>(i:Int):=λx e=>by
   obtain⟨a,b⟩:=h x e;exact aT.mpr ⟨x.toNat,fX.mpr (by lia),by lia⟩
  have:=(nW ns _ nd d (by rw[aB,cK];lia)).length_eq;rw[aB,cK]at this
  lia
structure dE(n:Nat)(b:List Pr):Prop where
 nn:∀z∈b,0<=z.1/\z.1<(n:Int)
 nd:(b.map (·.1)).Nodup
variable{b:List Pr}
def dE.pd(h:dE n b):b.Nodup:=List.Pairwise.of_map _ (λ_ _ z e=>z (by rw[e])) h.nd
def dE.len(h:dE n b):b.length<=n:=by
 have:(b.map (·.1)).length<=n:=qY h.nd λx a=>by
  obtain⟨z,hz,rfl⟩:=aT.mp a;exact h.nn z hz
 rwa [aB]at this
def dE.nil(n:Nat):dE n []:=⟨(λ_ h=>nomatch h),eW⟩
structure dR(c r:Nat)(bs:LLP)(tw:Wt):Prop where
 wk:bL c (wtW tw)
 vl:∀p,∀y∈look tw p,y∈gys r bs.length
 br:∀j,(∀p,cn tw p (ac,j)=0)\/(∀p,cn tw p (ac,j)=if p∈bs.getD j [] then 1 else 0)
abbrev wider(tw:Wt):List Pr->List Wy
 | []=>[]
 |p::b=>(p::b).foldl (λU2 q=>U2.filter λy=>decide (y∈look tw q)) (look tw p)
def Hr(tw:Wt):∀(b:List Pr) (U2:List Wy),(b.foldl (λU2 q=>U2.filter λy=>decide (y∈look tw q)) U2).Sublist U2/\∀y∈b.foldl (λU2 q=>U2.filter λy=>decide (y∈look tw q)) U2,∀p∈b,y∈look tw p
 | [],U2=>⟨oU _,λ_ _ _ h=>nomatch h⟩
 |q::b,U2=>by
  obtain⟨a,h2⟩:=Hr tw b _;refine⟨a.trans oQ,λy c p d=>?_⟩
  rcases bm.mp d with e |e
  .rw[e];exact of_decide_eq_true (cL.mp (a.subset c)).2
  .exact h2 y c p e
abbrev jm(bs:LLP)(tw:Wt)(y:Wy):Wt:=cond y.1 (jT y (bs.getD y.2 []) tw) tw
abbrev qZ(bs:LLP)(tw:Wt)(b:List Pr):Wt:=(wider tw b).foldl (jm bs) tw
def q5{bs:LLP}(c:∀b∈bs,b.Nodup)(p:Pr)(z:Wy):cn (jm bs tw y) p z=if y.1=ac/\p∈bs.getD y.2 []/\z=y then cn tw p z-1 else cn tw p z:=by
 obtain⟨a,j⟩:=y
 cases a with
 |false=>rw[if_neg (λx=>by cases x.1)];rfl
 |true=>
  have nd:(bs.getD j []).Nodup:=by
   rw[cg]
   cases e:bs[j]? with
   |none=>exact eW
   |some b=>exact c b (dF e)
  show cn (jT _ _ tw) p z=_;rw[BS p _ z _ _ nd]
  by_cases h:p∈bs.getD j []/\z=(ac,j)
  .rw[if_pos h,if_pos ⟨rfl,h⟩]
  .rw[if_neg h,if_neg (λx=>h x.2)]
def BV{bs:LLP}(a:∀b∈bs,b.Nodup)(p:Pr)(z:Wy):∀(U2:List Wy) (tw:Wt),z∉U2->cn (U2.foldl (jm bs) tw) p z=cn tw p z
 | [],_,_=>rfl
 |y::U2,tw,h=>by
  rw[gT,BV a p z U2 _ (λq=>h (bj _ q)),q5 a,if_neg (λx=>h (by rw[x.2.2];exact aH))]
def BW{bs:LLP}(a:∀b∈bs,b.Nodup)(p:Pr)(z:Wy):∀(U2:List Wy) (tw:Wt),cn (U2.foldl (jm bs) tw) p z<=cn tw p z
 | [],_=>aM _
 |y::U2,tw=>by
  refine cy (BW a p z U2 _) ?_;rw[q5 a]
  split <;> lia
def Hs{c:Nat}{bs:LLP}:∀{U2:List Wy} {tw:Wt},bL c (wtW tw)->bL c (wtW (U2.foldl (jm bs) tw))
 | [],_,h=>h
 |y::U2,tw,h=>by
  refine Hs (U2:=U2) ?_;unfold jm
  cases y.1 with
  |false=>exact h
  |true=>exact Hq h
def dR.wide{bs:LLP}(h:dR c r bs tw)(a:(ac,j)∈wider tw b):(∀p,cn tw p (ac,j)=if p∈bs.getD j [] then 1 else 0)/\(wider tw b).count (ac,j)=1/\(∀p∈b,p∈bs.getD j [])/\j<bs.length:=by
 cases b with
 |nil=>nomatch a
 |cons d b=>
  obtain⟨f,h2⟩:=Hr tw _ _
  have ha:∀p,cn tw p (ac,j)=if p∈bs.getD j [] then 1 else 0:=by
   rcases h.br j with z |z
   .have:=jl.mp (f.subset a);rw[z d]at this;lia
   .exact z
  refine⟨ha,?_,λp g=>?_,jk.mp (h.vl d _ (f.subset a))⟩
  .have l:=count_pos_iff.mpr a;have m:(wider tw (d::b)).count _<=cn tw d (ac,j):=f.count_le _;have i:=ha d
   split at i <;> lia
  .have:=jl.mp (h2 _ a p g);rw[ha p]at this
   by_cases e:p∈bs.getD j []
   .exact e
   .rw[if_neg e]at this;lia
def dR.dropped{bs:LLP}(h:dR c r bs tw)(a:∀b∈bs,b.Nodup)(b:List Pr):dR c r bs (qZ bs tw b):=by
 refine⟨Hs h.wk,λp y i=>h.vl p y (jl.mpr (eK (jl.mp i) (BW a p y _ _))),λj=>?_⟩
 by_cases d:(ac,j)∈wider tw b
 .refine .inl λp=>?_;obtain⟨ha,m,_⟩:=h.wide d
  have gen:∀(U2:List Wy) tw,(ac,j)∈U2->(∀p,p∉bs.getD j []->cn tw p (ac,j)=0)->(∀p,cn tw p (ac,j)<=1)->cn (U2.foldl (jm bs) tw) p (ac,j)=0:=by
   intro U2
   induction U2 with
   |nil=>intro tw h;nomatch h
   |cons y U2 l=>
    intro tw hm f h2;rw[gT]
    by_cases e:(ac,j)=y
    .have:cn (jm bs tw y) p (ac,j)=0:=by
      rw[q5 a]
      by_cases g:p∈bs.getD j []
      .rw[if_pos ⟨by rw[<- e],by rw[<- e];exact g,e⟩];have:=h2 p
       lia
      .rw[f p g]
       split <;> rfl
     have:=BW a p (ac,j) U2 (jm bs tw y)
     lia
    .refine l _ (by rcases bm.mp hm with z |z;exact absurd z e;exact z) (λp g=>?_) λp=>?_
     .rw[q5 a,if_neg (λx=>e x.2.2)];exact f p g
     .rw[q5 a,if_neg (λx=>e x.2.2)];exact h2 p
  exact gen _ _ d (λp g=>by rw[ha p,if_neg g]) λp=>by rw[ha p];split <;> lia
 .have e:∀p,cn (qZ bs tw b) p _=cn tw p _:=λp=>BV a p _ _ _ d
  rcases h.br j with z |z
  .exact .inl λp=>by rw[e];exact z p
  .exact .inr λp=>by rw[e];exact z p
variable{p:Xp}
def SH{q:O×(O->O)}(h:p M=aa q)(a:f M=aa d)(hr:q.1.remd d=aa o2)(k:K (.nx (M.set i (.deep (q.2 o2))))):wp (oq i p f) M K:=⟨_,by
 unfold oq;rw[h,ay,a,ay,hr];rfl,k⟩
def SI{a b:Sl}:aS "Seeking" "watches" (aG 2) [a,b,.deep (.at l s.o)]=aa (wsO s.ws,λx=>.at l (ic s.tl [lsO (s.es.map shD),lsO s.st,lsO s.bs,.dT s.gk (s.gd.map .fz),x,lsO s.wt,.fz s.mks])):=rfl
def Ht{l:Addr}{s:Spr}{tw:Wt}(g:s.ws=wtW tw):∀(b:List Pr) (v1 c d f:Sl) (U2:List Wy),U2.length<=16777216->∃a,kZ 2 3 1 [3,0] (ax 0) (mB (m2 fA (ae 0) (aJ (gL (aS "Seeking" "watches" (aG 2)) (ae 1))))) (ae 0) (b.map prD) [.deep (.at l s.o),v1,c,d,f] (U2.map wyD)=aa ([.deep (.at l s.o),v1,c,a,f],(b.foldl (λU2 q=>U2.filter λy=>decide (y∈look tw q)) U2).map wyD)
 | [],_,_,d,_,_,_=>⟨d,rfl⟩
 |p::b,v1,c,d,f,U2,hL=>by
  obtain⟨a,h⟩:=Ht g b v1 c _ f _ (cy (fV _ _) hL);refine⟨a,?_⟩;rw[bF];unfold kZ;rw[if_pos (by grind)]
  have e:eB (ga (ax 0) (mB (m2 fA (ae 0) (aJ (gL _ (ae 1))))) (ae 0) [.no,.im _,.deep (.at l s.o)]) _=aa _:=
   tB wyD _ wyD U2 λy _=>dA rfl (bq (ap rfl (bH (BN (p:=p) (SI.trans (by rw[g])) rfl)) (Sy y _))) λ_=>rfl
  show(eB (ga _ _ _ [.no,.im _,.deep _]) _).bind _=_;rw[e,ay];exact h
def SJ(d:s.ws=wtW tw)(g:bL c (wtW tw))(f:c<=16777216)(k:∀h,K (.nx [.deep (.at l s.o),.im (d3 b),.own ((wider tw b).map wyD),h,.no])):
  wp (ou 2 3 (bz (ae 1)) (gL (aS "Seeking" "watches" (aG 0)) (mIx (aw 1) (kI 0))) (aV (ae 1)) 1 [3,0] (ax 0) (mB (m2 fA (ae 0) (aJ (gL (aS "Seeking" "watches" (aG 2)) (ae 1))))) (ae 0)) [.deep (.at l s.o),.im (d3 b),.no,.no,.no] K:=by
 cases b with
 |nil=>exact⟨_,rfl,k .no⟩
 |cons p b=>
  obtain⟨a,e⟩:=Ht d _ _ .no .no .no _ (cy (BU g p) f);refine⟨_,?_,k a⟩;unfold ou;rw[show bz _ _=aa ac from rfl,ay,show aV _ _=aa _ from rfl,ay,if_pos (show ac=!((p::b).map prD).isEmpty from rfl),BN (p:=p) (uq.trans (by rw[d])) (be rfl rfl (kE (0,ag) (by decide) (by grind))),if_pos rfl,ay,e];rfl
def BX{bs:LLP}(a:∀b∈bs,dE n b)(j:Nat):dE n (bs.getD j []):=by
 rw[cg]
 cases e:bs[j]? with
 |none=>exact dE.nil n
 |some b=>grind
def SK(s:Spt)(b:List Pr)(ok:dR c C.length s.bs s.tw)(G:c<16777216)(y:∀b∈s.bs,dE n b):zQ l [d3 b] (s.S C).o=aa ((({s with tw:=qZ s.bs s.tw b}:Spt).S C).o,.non):=by
 apply eV;apply ak;refine SJ rfl ok.wk (eM G) λd=>?_
 refine dh _ wyD (λpre M=>∃d w,M=[.deep (.at l (({s with tw:=pre.foldl (jm s.bs) s.tw}:Spt).S C).o),.im _,.im _,d,w]) rfl ⟨_,_,rfl⟩ ?_ ?_
 .rintro pre ⟨a,j⟩ post M ex ⟨d,w,rfl⟩;refine⟨_,rfl,?_⟩;walk_at "nrm"
  cases a with
  |false=>
   refine aU rfl (λz=>by nomatch z) (λ_=>bK ?_);refine⟨d,.im (wyD (ag,j)),?_⟩;rw[eJ]
   rfl
  |true=>
   obtain⟨ha,A,_,H⟩:=ok.wide (j:=j) (by rw[ex];simp)
   have m:(ac,j)∉pre:=λq=>by
    grind
   have e:=BX y j
   refine dh (s.bs.getD j []) prD (λpr M=>∃d,M=[.deep (.at l (({s with tw:=jT (ac,j) pr _}:Spt).S C).o),.im _,.im _,d,.im _]) (fu (be (qL Bw) (be rfl rfl rfl) (kE [] (by lia) (by grind))) rfl) ⟨_,rfl⟩ ?_ ?_
   .rintro pr p po M i ⟨d,rfl⟩;have u:p∈s.bs.getD j []:=by grind
    have r:=λq=>by
     have:=e.pd;rw[i]at this;exact(fW.mp this).2.2 p q p aH rfl
    have v:pr.Nodup:=by
     have:=e.pd
     grind
    have f : _∈look (jT (ac,j) pr _) p:=jl.mpr (by
     rw[BS p _ _ pr _ v,if_neg (λx=>r x.1),BV (λb h=>(y b h).pd) p _ _ _ m,ha p,if_pos u]
     grind)
    refine⟨_,rfl,?_⟩;walk_at "nrm"
    obtain⟨I,B,E⟩:=Sw (g:=ae 3) (M:=[.deep (.at l (({s with tw:=jT _ pr _}:Spt).S C).o),.im _,.im _,.im _,.im _]) uq rfl (ne_nil_of_mem f)
    refine SH B rfl (Sx f) ?_;dsimp only;rw[E];refine⟨.im (prD p),?_⟩;unfold jT;rw[eJ];rfl
   .rintro M ⟨d,rfl⟩;refine⟨d,.im (wyD (ac,j)),?_⟩;rw[eJ];rfl
 .rintro M ⟨d,w,rfl⟩;exact⟨_,rfl,rfl,rfl⟩
def SL(b:List Pr)(hz:b.length<=16777216):Ab [d3 b]=aa (.lst ((brg b).map Prt.obj)):=by
 rw[show(brg b).map Prt.obj=b.map λz=>(brP z).obj from map_map]
 exact kB (congrArg _ (gb b prD _ rfl hz λz _=>fO rfl rfl (by
  obtain⟨t,x⟩:=z
  cases x <;> rfl)))
def q9(h:dE n b):∀p∈brg b,PrK n p:=λp a=>by
 obtain⟨z,hz,rfl⟩:=aT.mp a;have:=h.nn z hz;obtain⟨t,x⟩:=z
 cases x <;> exact⟨this,(by decide:1<=1000)⟩
def BY{b:Type}(l:List b)(a d:b)(j:Nat):(l++[a]).getD j d=if j=l.length then a else l.getD j d:=by grind
def dR.bar{bs:LLP}(h:dR c r bs tw)(a:dE n b)(hn:n<=60):dR (c+3840) r (bs++[b]) (ig (ac,bs.length) (brg b) tw):=by
 have d:∀p,cn tw p (ac,bs.length)=0:=λp=>Nat.eq_zero_of_not_pos λq=>by
  have:bs.length<bs.length:=jk.mp (h.vl p _ (jl.mpr q))
  grind
 have g:∀p,cn _ p _=if p∈b then 1 else 0:=λp=>by
  rw[Ho,d p,mP,a.pd.count]
 refine⟨?_,λp y f=>?_,λj=>?_⟩
 .rw[<- uE];refine(bL.reg hn (q9 a) h.wk).le ?_;unfold brg;rw[aB];have:=a.len;lia
 .rw[aR,gS,BP]
  by_cases e:y=(ac,bs.length)
  .grind
  .refine da _ (h.vl p y (jl.mpr ?_));rw[<- oH e p _];exact jl.mp f
 .rw[BY]
  by_cases e:j=bs.length
  .grind
  .have ne:((ac,j):Wy)≠(ac,bs.length):=λz=>e (Prod.mk.inj z).2;rw[if_neg e]
   rcases h.br j with z |z
   .exact .inl λp=>by rw[oH ne];grind
   .exact .inr λp=>by rw[oH ne];grind
abbrev Spt.bar(s:Spt)(b:List Pr):Spt:={s with bs:=s.bs++[b],tw:=ig (ac,s.bs.length) (brg b) (qZ s.bs s.tw b),wt:=s.wt++[(ac,s.bs.length)]}
def SM{bs:LLP}:(gys C.length (bs.length+1)).map (gdD C (bs++[b]))=(gys C.length bs.length).map (gdD C bs)++[.lst ((brg b).map Prt.obj)]:=by
 rw[BP,bh]
 congr 1
 .refine rO λy c=>?_;have:=jk.mp c;obtain⟨a,j⟩:=y
  cases a with
  |false=>rfl
  |true=>
   have:j<bs.length:=this;unfold gdD cV
   grind
 .show[D.lst ((brg _).map Prt.obj)]=_
  grind
def SN(s:Spt)(b:List Pr)(ok:dR c C.length s.bs s.tw)(m:c+3840<16777216)(d:∀b∈s.bs,dE n b)(a:dE n b)(hn:n<=60)(p:C.length+s.bs.length<100000)(j:s.wt.length<16777216):
  ug l [d3 b] (s.S C).o=aa (((s.bar b).S C).o,.non):=by
 have i:=a.len;have g:((gys C.length s.bs.length).map wyK).length=C.length+s.bs.length:=by rw[aB,Sz]
 apply eV;apply ak;refine iX (eU rfl rfl (dk rfl rfl) rfl (SK s b ok (by lia) d)) ?_;apply ak;refine bi (cP (am rfl (am (aD (am (iV Bw) rfl) (dO s.bs d3)) rfl))) ?_;walk_at "nrm";apply ak;refine qN Bw rfl (by show(s.bs.map d3).length<_;rw[aB];lia) ?_;show wp _ [.deep (.at l (⟨s.es,s.st,s.bs.map d3++_,(gys C.length s.bs.length).map wyK,(gys C.length s.bs.length).map _,wtW _,s.wt.map wyD,.lst _,(s.S C).tl⟩:Spr).o),.im _,.im (wyD (ac,s.bs.length))] _;refine iX (eU rfl rfl (dk rfl (dk (aD rfl (SL b (by lia))) rfl)) rfl (GS _ _ rfl (BB λq=>?_) ?_ (q9 a) hn (ok.dropped (λb h=>(d b h).pd) b).wk ?_ ?_ ?_)) ?_
 .obtain⟨y,f,e⟩:=aT.mp q;rw[BM e]at f;have:s.bs.length<s.bs.length:=jk.mp f;exact io _ this
 .show((gys C.length s.bs.length).map wyK).length<_
  lia
 .unfold brg;rw[aB];lia
 .show(s.wt.map wyD).length<_;rw[aB];exact j
 .unfold brg;rw[aB];lia
 .refine⟨_,rfl,?_,rfl⟩
  congr 1
  dsimp only[uu,Spt.bar,Spt.S];rw[uE,aR,gS,SM,BP,bh,bh,bh];rfl
def iY{f:Xe}(h:f M=aa (d,ρ1))(k:K (.nx (ρ1.set i (.im d)))):wp (fE i f) M K:=⟨_,by unfold fE;rw[h];rfl,k⟩
def Hu{k:Int}(hv:fv M=aa d)(h:p M=aa (lsO ds,R))(c:fk M=aa (.int k))(a:0<=k)(b:k<ds.length)(q:K (.nx (M.set i (.deep (R (lsO (ds.set k.toNat d))))))):wp (mm i p fk fv) M K:=⟨_,by
 unfold mm;simp only[hv,ay,h,ay,c,ay];show(((lsO ds).items.bind λds=>(ixN ds.length k).map λj=>O.lst _)).map _=_;simp only[uD,ay,show ixN ds.length k=aa k.toNat by unfold ixN;rw[if_pos a,if_pos b]];rfl,q⟩
def SO{f:MF2}{es:LD}(h:p M=aa (lsO ds,R))(a:f M=aa es)(hz:ds.length+es.length<=16777216)(q:K (.nx (M.set i (.deep (R (lsO (ds++es))))))):wp (oi i p f) M K:=⟨_,by
 unfold oi;simp only[h,ay,a,ay];show(if (ds.map O.fz).length+es.length<=16777216 then aa _ else ab).map _=_;rw[if_pos (by rw[aB];exact hz),<- bh];rfl,q⟩
abbrev gP(es:LOB):Nat:=ct (es.map (·==ab))
variable{b:Bool}
def SQ(t0:0<=t)(t1:t<(es.length:Int))(a:opn es t=ac):gP (put es t.toNat b)+1=gP es:=by
 unfold gP put;rw[gu];refine GX _ _ ?_;unfold opn at a;rw[cg]at a ⊢;rw[cu,cr (by lia)]at *;exact a
def SR(es:LOB):gP es<=es.length:=by
 have:=Sb (es.map (·==ab))
 rwa [aB]at this
abbrev Spt.pt(s:Spt)(t:Int)(b:Bool)(w:D):Spt:={s with es:=put s.es t.toNat b,st:=s.st++[.tup [prD (t,b),w]],wt:=s.wt++look s.tw (t,b)}
structure SpJ(n c U3:Nat)(C:LRu)(s:Spt):Prop where
 es:s.es.length=n
 bk:∀b∈s.bs,dE n b
 tw:dR c C.length s.bs s.tw
 wv:∀y∈s.wt,y∈gys C.length s.bs.length
 ms:s.ms.Perm (gO C)
 mB:gP s.es*(c+1)+s.wt.length<=U3
 sB:s.st.length+gP s.es<=U3
 sv:∀d∈s.st,∃(z:Pr) (w:D),d=.tup [prD z,w]/\(0<=z.1/\z.1<(n:Int))/\s.es.getD z.1.toNat ab=aa z.2
nonrec def Me(c:Nat)(s:Spt):Nat:=gP s.es*(c+1)+s.wt.length
variable{u:Int}
def Hv(a:0<=u)(t0:0<=t)(h:u≠t):opn (put es t.toNat b) u=opn es u:=by
 unfold opn;rw[mx es b (by lia)]
variable{U3:Nat}{s:Spt}{w:L2.D}
def SpJ.pt(h:SpJ n c U3 C s)(t0:0<=t)(t1:t<(n:Int))(f:opn s.es t=ac):SpJ n c U3 C (s.pt t b w)/\Me c (s.pt t b w)<Me c s:=by
 have g:=SQ (b:=b) t0 (by rw[h.es];exact t1) f;have m:=BU h.tw.wk (t,b)
 have hm:Me c (s.pt t b w)<Me c s:=by
  show gP (put s.es t.toNat b)*_+(s.wt++look s.tw _).length<gP s.es*_+s.wt.length;simp only[<- g,aR,Nat.succ_mul]
  lia
 refine⟨⟨(dC _ _ _).trans h.es,h.bk,h.tw,λy i=>?_,h.ms,cy (eM hm) h.mB,?_,λd hd=>?_⟩,hm⟩
 .rcases bP.mp i with q |q
  .exact h.wv y q
  .exact h.tw.vl _ y q
 .show(s.st++[_]).length+gP (put s.es t.toNat b)<=U3;rw[aR,gS];have:=h.sB
  lia
 .rcases bP.mp hd with q |q
  .obtain⟨z,j,e,l,a⟩:=h.sv d q;refine⟨z,j,e,l,?_⟩;show(put s.es t.toNat b).getD z.1.toNat ab=_;rw[mx s.es b (λq=>by rw[q,k8 f]at a;nomatch a)];exact a
  .exact⟨_,w,ci.mp q,⟨t0,t1⟩,oF s.es b (by rw[h.es];lia)⟩
def BZ(h:SpJ n c U3 C s)(hB:U3+c<16777216)(t0:0<=t)(t1:t<(n:Int)):oA l [.int t,.bl b,w] (s.S C).o=aa (((s.pt t b w).S C).o,.non):=by
 have f:=BU h.tw.wk (t,b);have a:=h.mB;have h2:=h.sB;have d:=h.es;apply eV;apply ak;refine Hu rfl jh rfl t0 (by rw[aB];show t<s.es.length;lia) ?_;have e:(s.es.map shD).set t.toNat (.bl b)=(put s.es t.toNat b).map shD:=by unfold put;rw[gu];rfl
 show wp _ [.deep (.at l (ic (s.S C).tl [lsO ((s.es.map shD).set t.toNat _),lsO s.st,lsO _,.dT _ _,wsO _,lsO _,.fz _])),.im _,.im _,.im w] _;rw[e]
 show wp _ [.deep (.at l (({s with es:=put s.es t.toNat b}:Spt).S C).o),.im _,.im _,.im w] _
 apply ak;refine qN Bv (cP (am (cP (am rfl (am rfl rfl))) (am rfl rfl))) (by show s.st.length<_;lia) ?_
 show wp _ [.deep (.at l (({s with es:=put s.es t.toNat b,st:=s.st++_}:Spt).S C).o),.im _,.im _,.im w] _
 refine SO oB (BN uq (cP (am rfl (am rfl rfl)))) (by show(s.wt.map wyD).length+((look s.tw (t,b)).map wyD).length<=_;rw[aB,aB];lia) ?_;refine⟨_,rfl,?_,rfl⟩;dsimp only[Spt.pt,Spt.S];simp only[bh];rfl
abbrev fF(s:Spt)(w:D)(ps:List Pr):Spt:=ps.foldl (λs p=>s.pt p.1 p.2 w) s
structure fU(es:LOB)(ps:List Pr):Prop where
 nd:(ps.map (·.1)).Nodup
 op:∀z∈ps,(0<=z.1/\z.1<(es.length:Int))/\opn es z.1=ac
variable{z:Pr}
def fU.tail{ps:List Pr}(h:fU es (z::ps)):fU (put es z.1.toNat z.2) ps:=by
 obtain⟨f,g⟩:=bX.mp h.nd;refine⟨g,λy d=>?_⟩;obtain⟨⟨a,b⟩,c⟩:=h.op y (bj _ d);refine⟨⟨a,by rw[dC];exact b⟩,?_⟩;rw[Hv a ((h.op z aH).1.1) (λe=>f (aT.mpr ⟨y,d,e⟩))];exact c
def fU.pre{pre post:List Pr}(h:fU es (pre++post)):fU es pre:=⟨by have:=h.nd;rw[bh]at this;exact(fW.mp this).1,λz hz=>h.op z (da _ hz)⟩
def oI{n c U3:Nat}{C:LRu}{w:D}:∀{ps:List Pr} {s:Spt},SpJ n c U3 C s->fU s.es ps->SpJ n c U3 C (fF s w ps)/\Me c (fF s w ps)<=Me c s
 | [],_,h,_=>⟨h,aM _⟩
 |z::ps,s,h,k=>by
  obtain⟨⟨a,b⟩,e⟩:=k.op z aH;obtain⟨d,h2⟩:=h.pt a (by rw[<- h.es];exact b) e;obtain⟨f,g⟩:=oI d k.tail;exact⟨f,cy g (eM h2)⟩
variable{G:List Prt}
def Hw(h:prs G es=ab):∀p∈G,p.sure es=ac:=by
 have:=Hc es G;unfold prs at h
 cases e:G.foldl _ ab with
 |none=>rw[e]at this;exact this
 |some l=>rw[e]at h;nomatch h
def rb{l:List Pr}(i:∀p∈G,p.Ok es.length)(h:prs G es=aa l):fU es l/\(∀z:Pr,z∈l↔(0<=z.1/\z.1<(es.length:Int))/\opn es z.1=ac/\∀p∈G,p.sure (put es z.1.toNat (!z.2))=ac)/\∃p∈G,p.sure es=ag:=by
 have:=Hc es G;unfold prs at h
 cases e:G.foldl _ ab with
 |none=>rw[e]at h;nomatch h
 |some n=>
  rw[e]at h this;cases h;obtain⟨⟨q,m,d⟩,h2,u⟩:=this
  have hm:∀z:Pr,z∈n.map neg↔(z.1,!z.2)∈n:=λz=>by
   constructor
   .intro hz;obtain⟨y,v,rfl⟩:=aT.mp hz;unfold neg;rw[Bool.not_not];exact v
   .intro hz;refine aT.mpr ⟨_,hz,?_⟩;unfold neg;rw[Bool.not_not]
  have key:∀z:Pr,z∈n.map neg↔_/\opn es z.1=ac/\∀p∈G,p.sure (put es z.1.toNat _)=ac:=λz=>by
   rw[hm,h2];constructor
   .intro a;obtain⟨j,r,_⟩:=(BK (i q m) d _ _).mp (a q m d);refine⟨j,r,λp f=>?_⟩
    cases g:p.sure es with
    |true=>exact uC (i p f) j.1 j.2 r _ g
    |false=>exact((BK (i p f) g _ _).mp (a p f g)).2.2
   .rintro⟨a,b,c⟩ p f g;exact(BK (i p f) g _ _).mpr ⟨a,b,c p f⟩
  refine⟨⟨?_,λz hz=>?_⟩,key,q,m,d⟩
  .rw[map_map];exact u
  .obtain⟨a,b,_⟩:=(key z).mp hz;exact⟨a,b⟩
structure Grp(C:LRu)(es:LOB)(wo:LB0):Prop where
 len:wo.length=es.length
 no:∀i,wo.getD i ag=ac->es.getD i ab≠aa ag
 up:∀r∈gO C,wo.getD r.hd.toNat ag=ac->r.bodyLost es wo=ac
abbrev SS(es:LOB)(wo:LB0):LOB:=(qK wo).foldl (λes t=>put es t.toNat ag) es
inductive Mvs(C:LRu)(bs:LLP)(e0:LOB):LOB->Prop
 |refl:Mvs C bs e0 e0
 |press {es:LOB} {t:Int} {b:Bool} {y:Wy}:Mvs C bs e0 es->y∈gys C.length bs.length->0<=t->t<(es.length:Int)->opn es t=ac->(∀p∈cV C bs y,p.sure (put es t.toNat (!b))=ac)->Mvs C bs e0 (put es t.toNat b)
 |out {es:LOB} {wo:LB0}:Mvs C bs e0 es->Grp C es wo->(∀i,wo.getD i ag=ac->es.getD i ab=ab)->Mvs C bs e0 (SS es wo)
def Mvs.trans{bs:LLP}{e0 g i:LOB}(h:Mvs C bs e0 g)(h':Mvs C bs g i):Mvs C bs e0 i:=by
 induction h' with
 |refl=>exact h
 |press _ a b c d e f=>exact .press f a b c d e
 |out _ a b f=>exact .out f a b
def B0{a:Bool}(h:i≠j):put (put es i a) j b=put (put es j b) i a:=by
 unfold put;exact set_comm _ _ h
def B1(c:0<=u)(t0:0<=t)(h:u≠t)(a:opn es u=ac):opn (put es t.toNat b) u=ac:=by rw[Hv c t0 h];exact a
def Hx{C:LRu}{bs:LLP}{y:Wy}{w:D}(d:y∈gys C.length bs.length):∀{ps:List Pr} {s:Spt},(∀p∈cV C bs y,p.Ok s.es.length)->fU s.es ps->(∀z∈ps,∀p∈cV C bs y,p.sure (put s.es z.1.toNat (!z.2))=ac)->Mvs C bs s.es (fF s w ps).es
 | [],_,_,_,_=>.refl
 |z::ps,s,hG,k,hp=>by
  obtain⟨⟨a,b⟩,e⟩:=k.op z aH;obtain⟨g,i⟩:=bX.mp k.nd;have f:Mvs C bs s.es (s.pt z.1 z.2 w).es:=.press .refl d a b e (hp z aH);refine f.trans (Hx d (λp q=>by show p.Ok (put s.es z.1.toNat z.2).length;rw[dC];exact hG p q) k.tail λx c p q=>?_);obtain⟨⟨h,j⟩,l⟩:=k.op x (bj _ c);have ne:z.1≠x.1:=λe=>g (aT.mpr ⟨x,c,e.symm⟩);show p.sure (put (put s.es z.1.toNat z.2) x.1.toNat _)=ac;rw[B0 (by lia)];exact uC (by rw[dC];exact hG p q) a (by rw[dC];exact b) (B1 a h ne e) _ (hp x (bj _ c) p q)
abbrev SU:Option Wy->D
 |none=>.non
 |some y=>wyD y
abbrev lrF(C:LRu):Nat->Spt->Option Wy×Spt
 | 0,s=>(ab,s)
 |k+1,s=>match s.wt with
  | []=>(ab,s)
  |y::wt=>match prs (cV C s.bs y) s.es with
   |none=>(aa y,{s with wt:=wt})
   |some ps=>lrF C k (fF {s with wt:=wt} (wyD y) ps)
def uF{k:Nat}(h:s.wt=[]):lrF C (k+1) s=(ab,s):=by
 unfold lrF;rw[h]
def uG{k:Nat}{wt:List Wy}(h:s.wt=y::wt)(a:prs (cV C s.bs y) s.es=ab):lrF C (k+1) s=(aa y,{s with wt:=wt}):=by
 unfold lrF;rw[h];dsimp only;rw[a]
def rf{k:Nat}{wt:List Wy}{ps:List Pr}(h:s.wt=y::wt)(a:prs (cV C s.bs y) s.es=aa ps):lrF C (k+1) s=lrF C k (fF {s with wt:=wt} (wyD y) ps):=by
 rw[lrF];rw[h];dsimp only;rw[a]
def uH{bs:LLP}(hr:∀r∈C,RuK n r)(d:∀b∈bs,dE n b):∀p∈cV C bs y,p.Ok n:=by
 obtain⟨a,j⟩:=y;intro p c
 cases a with
 |true=>exact(q9 (BX d j) p c).1
 |false=>
  replace c:p∈((C[j]?).map grd).getD []:=c
  cases e:C[j]? with
  |none=>rw[e]at c;nomatch c
  |some r=>rw[e]at c;exact(uv (hr r (dF e)) p c).1
def SpJ.pop{wt:List Wy}(h:SpJ n c U3 C s)(e:s.wt=y::wt):SpJ n c U3 C {s with wt:=wt}/\Me c {s with wt:=wt} < Me c s/\y∈gys C.length s.bs.length:=by
 have hm:=h.mB;have a:s.wt.length=wt.length+1:=by grind
 refine⟨⟨h.es,h.bk,h.tw,λz hz=>h.wv z (by grind),h.ms,?_,h.sB,h.sv⟩,?_,h.wv y (by grind)⟩
 .grind
 .grind
def Hy(w:D):∀(ps:List Pr) (s:Spt),(fF s w ps).bs=s.bs/\(fF s w ps).tw=s.tw/\(fF s w ps).ms=s.ms
 | [],_=>⟨rfl,rfl,rfl⟩
 |z::ps,s=>Hy w ps _
structure SV(n c U3:Nat)(C:LRu)(s:Spt)(R:Option Wy×Spt):Prop where
 ok:SpJ n c U3 C R.2
 bs:R.2.bs=s.bs
 mv:Mvs C s.bs s.es R.2.es
 no:R.1=ab->R.2.wt=[]
 ye:∀y,R.1=aa y->y∈gys C.length s.bs.length/\∀p∈cV C s.bs y,p.sure R.2.es=ac
 le:Me c R.2<=Me c s
def uI{n c U3:Nat}{C:LRu}(hr:∀r∈C,RuK n r):∀(k:Nat) (s:Spt),SpJ n c U3 C s->Me c s<k->SV n c U3 C s (lrF C k s)
 | 0,_,_,h=>absurd h (jY _)
 |k+1,s,h,hk=>by
  cases b:s.wt with
  |nil=>
   rw[uF b]
   exact⟨h,rfl,.refl,(λ_=>b),(λy e=>by cases e),aM _⟩
  |cons y wt=>
   obtain⟨g,h2,j⟩:=h.pop b;have i:∀p∈cV C s.bs y,p.Ok s.es.length:=by rw[h.es];exact uH hr h.bk
   cases d:prs _ s.es with
   |none=>
    rw[uG b d]
    exact⟨g,rfl,.refl,(λz=>by cases z),(λz e=>by cases e;exact⟨j,Hw d⟩),eM h2⟩
   |some ps=>
    rw[rf b d];obtain⟨l,m,_⟩:=rb i d;obtain⟨q,u⟩:=oI g l
    obtain⟨f,_,_⟩:=Hy _ ps {s with wt:=wt}
    have a:=uI hr k _ q (by lia)
    have m1:Mvs C s.bs s.es (fF {s with wt:=wt} (wyD y) ps).es:=Hx j (s:={s with wt:=wt}) i l λz hz=>((m z).mp hz).2.2
    refine⟨a.ok,a.bs.trans f,m1.trans (by have:=a.mv;rw[f]at this;exact this),a.no,λz e=>?_,by have:=a.le;lia⟩;have:=a.ye z e
    grind
def SW{m:LD->Option (LD ⊕ D)}{f:MF2}{x:Option (List Pr)}(h:f M=aa ds)(h':m ds=aa (G8 x)):ot m f M=aa (qV x):=by
 unfold ot;rw[h,ay,h',ay]
 cases x with
 |none=>rfl
 |some l=>
  show(if (l.map prD).all D.flat=ac then aa _ else ab)=_;rw[if_pos (all_eq_true.mpr λd hd=>by obtain⟨z,_,rfl⟩:=aT.mp hd;rfl)];rfl
def SX{wt:List Wy}(h:s.wt=y::wt):qr 0 (aS "Seeking" "waiting" (aG 0)) (.deep (.at l (s.S C).o)::M)=aa (wyD y,.deep (.at l (({s with wt:=wt}:Spt).S C).o)::M):=by
 show((lsO (s.wt.map wyD)).pop0).map _=_;rw[h];rfl
def SY{k:Nat}(hr:∀r∈C,RuK n r)(hB:U3+c<16777216)(h:SpJ n c U3 C s)(x:Me c s<k)(w:k<1000000000):Bh l [] (s.S C).o=aa (((lrF C k s).2.S C).o,SU (lrF C k s).1):=by
 apply eV;apply ak;refine qb (λm M=>∃a v1 v e f,M=[.deep (.at l (Spt.S C a).o),v1,v,e,f]/\SpJ n c U3 C a/\Me c a<m/\lrF C m a=lrF C k s) ?_ _ k _ ⟨s,_,_,_,_,rfl,h,x,rfl⟩ w;rintro m M ⟨a,v1,v,e,f,rfl,h',hm,i⟩
 cases m with
 |zero=>grind
 |succ m=>
  cases b:a.wt with
  |nil=>
   refine⟨ag,cI (iV oB) (by show lT (.lst (a.wt.map wyD))=_;rw[b];rfl),(λz=>by nomatch z),λ_=>?_⟩;rw[<- i,uF b]
   exact iW rfl ⟨_,rfl,rfl,rfl⟩
  |cons y wt=>
   obtain⟨q,h2,A⟩:=h'.pop b;have u:∀p∈cV C a.bs y,p.Ok a.es.length:=by rw[h'.es];exact uH hr h'.bk
   refine⟨ac,cI (iV oB) (by show lT (.lst (a.wt.map wyD))=_;rw[b];rfl),λ_=>?_,λz=>by nomatch z⟩;apply ak;refine iY (SX b) ?_;apply ak;refine bi (d:=qV (prs _ a.es)) (SW (am (SA A rfl) (am (iV jh) rfl)) (Ss _ u)) ?_;apply ak
   cases j:prs _ a.es with
   |none=>
    refine aU rfl (λ_=>?_) (λz=>by nomatch z);rw[<- i,uG b j]
    exact iW rfl ⟨_,rfl,rfl,rfl⟩
   |some ps=>
    obtain⟨g,I,_⟩:=rb u j;obtain⟨B,J⟩:=oI q g;refine aU rfl (λz=>by nomatch z) (λ_=>bK ?_)
    refine dh ps prD (λpre M=>∃e f,M=[.deep (.at l ((fF {a with wt:=wt} (wyD y) pre).S C).o),.im _,.im _,e,f]) rfl ⟨_,_,rfl⟩ ?_ ?_
    .rintro pre z post M ex ⟨e,f,rfl⟩;rw[ex]at g;obtain⟨E,_⟩:=oI q g.pre;obtain⟨⟨G,H⟩,_⟩:=g.op z (by simp);refine⟨_,rfl,?_⟩;walk_at "nrm";refine iX (eU rfl rfl (dk rfl (dk rfl (dk rfl rfl))) rfl (BZ E hB G (by rw[<- h'.es];exact H))) ?_;refine⟨.im (.int z.1),.im (.bl z.2),?_⟩;unfold fF
     grind
    .rintro M ⟨e,f,rfl⟩;refine⟨m,dq _,_,_,_,_,_,rfl,B,by lia,?_⟩;rw[<- i,rf b j]
abbrev slf(es:LOB)(a b c d e:D)(B:LD)(ms:LRu):D:=.ins "Seeking" (spN++(["paper","count","ended"]:LSt)) ([.lst (es.map shD),a,b,c,d,e,.lst (ms.map mkD)]++B)
abbrev fdL(r:Rul)(es:LOB)(wo:LB0):D:=BC (r.ps.find? λp=>p.lost es wo)
variable{a b c e:L2.D}
def SZ(hok:∀r∈ms,r.Ok es.length)(f:wo.length=es.length)(hz:ms.length<=1000):Bl [slf es a b c d e B ms,.int t,.lst (wo.map D.bl)]=aa (.lst ((ms.filter λr=>r.hd==t).map λr=>fdL r es wo)):=
 kB (congrArg _ (eC ms mkD _ _ rfl (by lia) λr hr=>dA rfl (bq (ap rfl rfl (by show dEq _ _=_;rfl))) λ_=>aD rfl (BD r.ps (hok r hr).ps f)))
abbrev kpL(p:Prt)(es:LOB)(wo:LB0):LI0:=if p.lost es ((bI es.length).map (inS [])) then [] else (nmL p).filter λt=>wo.getD t.toNat ag
variable{p:Prt}
def S0(f:p.Ok es.length)(hn:es.length<=60)(hm:(nmP p).length<=1000)(j:wo.length=es.length):Bj [slf es a b c d e B ms,p.obj,.lst (wo.map D.bl)]=aa (.lst ((kpL p es wo).map D.int)):=by
 have g:m_1 [.int es.length,.lst []]=aa (.lst (((bI es.length).map (inS [])).map D.bl)):=by
  have:=GJ es.length [] (by lia) (by lia) (by decide)
  grind
 have i:=qR f hn;apply iT;apply ak;refine aU (cI (GM p f (by grind) rfl (am rfl (am (aD (am (aD rfl (dO es shD)) rfl) g) rfl))) rfl) (λz=>?_) (λz=>bK ?_)
 .refine iS rfl (je ?_);unfold kpL
  grind
 .refine iS (eC _ D.int _ D.int (fu (GR p f hn hm rfl) rfl) (by lia) λt h=>dA rfl (cI (be rfl rfl (jd (oC f t (ur.mp h)).1 (by rw[j];exact(oC f t (ur.mp h)).2))) rfl) λ_=>rfl) (je ?_);unfold kpL
  grind
def S1(p:Prt):(nmL p).Nodup:=by
 cases p with
 |inn t=>exact bX.mpr ⟨(λh=>nomatch h),eW⟩
 |out t=>exact bX.mpr ⟨(λh=>nomatch h),eW⟩
 |least k E=>exact(kK _).imp λh=>by lia
 |most k E=>exact(kK _).imp λh=>by lia
structure KOk(n:Nat)(wo:LB0)(fd:LI0):Prop where
 nd:fd.Nodup
 el:∀x∈fd,(0<=x/\x<(n:Int))/\wo.getD x.toNat ag=ac
variable{fd:LI0}
def KOk.len(h:KOk n wo fd):fd.length<=n:=qY h.nd λx a=>(h.el x a).1
def KOk.more(h:KOk n wo fd)(d:p.Ok n):KOk n wo (fd++(kpL p es wo).filter λt=>!(fd.any λx=>x==t)):=by
 have b:(kpL p es wo).Sublist (nmL p):=by
  unfold kpL;split
  .grind
  .simp
 refine⟨fW.mpr ⟨h.nd,(u5 b (S1 p)).sublist oQ,λx c y f e=>?_⟩,λx c=>?_⟩
 .grind
 .rcases bP.mp c with q |q
  .exact h.el x q
  .have a:=(cL.mp q).1;refine⟨oC d x (ur.mp (b.subset a)),?_⟩;unfold kpL at a
   grind
def S2(B:LI0)(i:Int):lX (.int i) (.lst (B.map D.int))=aa (.bl (!(B.any λx=>x==i))):=by
 show Option.map _ (if _=ac then aa _ else ab)=_;rw[if_pos (by rw[all_map];exact(cD _ _).mpr ⟨rfl,all_eq_true.mpr λ_ _=>rfl⟩),any_map];rfl
def S3{n m:Int}(a:M[i]?=aa (.im (.int n)))(k:K (.nx (M.set i (.im (.int (n+m)))))):wp (mj i (mX λ_=>aa (.int m))) M K:=⟨_,by
 unfold mj;rw[a];rfl,k⟩
abbrev Kp(es:LOB)(wo:LB0)(fd:LI0)(r:Rul):Prop:=∃p∈r.ps,p.lost es wo=ac/\∀y∈kpL p es wo,y∈fd
structure rg(es:LOB)(wo:LB0)(ms:LRu)(t:Int)(ks:LI0):Prop where
 mt:t∈ks
 nd:ks.Nodup
 el:∀x∈ks,(0<=x/\x<(es.length:Int))/\wo.getD x.toNat ag=ac
 kp:∀r∈ms,r.hd∈ks->Kp es wo ks r
def S4(hn:es.length<=60)(hok:∀r∈ms,r.Ok es.length)(hnm:∀r∈ms,∀p∈r.ps,(nmP p).length<=1000)(hw:wo.length=es.length)(hz:ms.length<=1000)(hl:∀r∈ms,wo.getD r.hd.toNat ag=ac->r.bodyLost es wo=ac)(t0:0<=t)(t1:t<(es.length:Int))(ht:wo.getD t.toNat ag=ac):
  ∃ks:LI0,k5 [slf es a b c d e B ms,.int t,.lst (wo.map D.bl)]=aa (ks.map D.int)/\rg es wo ms t ks:=by
 suffices h:wp qH _ (λr=>∃ks:LI0,r=.rtO (ks.map D.int)/\rg es wo ms t ks) by
  obtain⟨r,e,ks,rfl,h⟩:=h;exact⟨ks,l9 e,h⟩
 apply ak;refine dW rfl ?_;walk_at "nrm";apply ak;refine bi rfl ?_;walk_at "nrm";apply ak;refine qb (λm M=>∃(fd:LI0) (g:Nat) (j:Sl),M=[.im _,.im _,.im _,.own (fd.map D.int),.im (.int g),j]/\KOk es.length wo fd/\g<=fd.length/\m+g=61/\t∈fd/\∀x∈fd.take g,∀r∈ms,r.hd=x->Kp es wo fd r) ?_ _ 61 _ ⟨[t],0,_,rfl,⟨bX.mpr ⟨(λh=>nomatch h),eW⟩,λx i=>by rw[ci.mp i];exact⟨⟨t0,t1⟩,ht⟩⟩,b9 _,rfl,aH,λx i=>nomatch i⟩ (by decide);rintro m M ⟨fd,g,j,rfl,L,hp,hm,Q,I⟩;have hfl:=L.len;refine⟨decide _,bq (ap rfl (aD rfl (dO fd D.int)) rfl),λz=>?_,λz=>?_⟩
 .have N:g<fd.length:=by have:=of_decide_eq_true z;lia
  obtain⟨x,i⟩:∃x,fd[g]?=aa x:=⟨_,cr N⟩;obtain⟨⟨x0,x1⟩,xw⟩:=L.el x (dF i)
  have U:atI (fd.map D.int) g=aa (.int x):=by
   rw[kE 0 (by lia) (by lia),d4,cg,i];rfl
  apply ak;refine dh _ _ (λpre M=>∃(ex:LI0) (j:Sl),M=[.im _,.im _,.im _,.own ((fd++ex).map D.int),.im _,j]/\KOk es.length wo (fd++ex)/\∀r∈pre,Kp es wo (fd++ex) r) (fu ((ce rfl rfl (am (be rfl rfl U) (am rfl rfl))).trans (SZ hok hw hz)) rfl) ⟨[],j,by rw[bQ],by rw[bQ];exact L,λr hr=>nomatch hr⟩ ?_ ?_
  .rintro pre r post M ex ⟨xt,j,rfl,l,f⟩;have hrm:r∈ms.filter λr=>r.hd==x:=by rw[ex];simp
   obtain⟨hr,A⟩:=cL.mp hrm;have A:r.hd=x:=by simpa using A
   obtain⟨p,v,hp2,hp3⟩:∃p,p∈r.ps/\fdL r es wo=p.obj/\p.lost es wo=ac:=by
    unfold fdL
    cases Y:r.ps.find? _ with
    |none=>
     have:=BE (es:=es) (wo:=wo) r;rw[Y,(hl r hr (by rw[A];exact xw))]at this
     nomatch this
    |some p=>exact⟨p,uZ Y,rfl,find?_some Y⟩
   have w:=(hok r hr).ps p v;have n:=l.more (es:=es) w;have J:=n.len;rw[aR]at J;refine⟨_,rfl,?_⟩;walk_at "nrm";rw[hp2];refine⟨_,Bz (bH (eC _ D.int _ D.int (fu ((ce rfl rfl (am rfl (am rfl rfl))).trans (S0 w hn (hnm r hr p v) hw)) rfl) ?_ λy _=>dA rfl (bq (ap rfl rfl (S2 (fd++xt) y))) λ_=>rfl)) rfl (by rw[aB,aB];lia),?_⟩
   .have:(kpL p es wo).length<=(nmL p).length:=by
     unfold kpL;split
     .exact b9 _
     .exact fV _ _
    have:=qR w hn
    lia
   .rw[cx]at n;refine⟨_,.im p.obj,?_,n,λr' hr'=>?_⟩
    .simp only[bh,cx];rfl
    .rcases bP.mp hr' with q |q
     .obtain⟨T,E,G,H⟩:=f r' q;exact⟨T,E,G,λy C=>by rw[<- cx];exact da _ (H y C)⟩
     .rw[ci.mp q];refine⟨p,v,hp3,λy C=>?_⟩;rw[<- cx]
      by_cases hm:y∈fd++xt
      .exact da _ hm
      .refine c9 _ (cL.mpr ⟨C,?_⟩);rw[Bool.not_eq_true',<- Bool.not_eq_true];intro h;obtain⟨u,hu,e⟩:=any_eq_true.mp h;rw[beq_iff_eq.mp e]at hu;exact hm hu
  .rintro M ⟨xt,j,rfl,l,f⟩;refine S3 rfl ⟨m-1,by lia,fd++xt,g+1,j,rfl,l,by rw[aR];lia,by lia,da _ Q,λy C r hr e=>?_⟩;rw[take_append_of_le_length N,take_succ,i]at C
   rcases bP.mp C with q |q
   .obtain⟨T,E,G,H⟩:=I y q r hr e;exact⟨T,E,G,λz hz=>da _ (H z hz)⟩
   .rw[ci.mp q]at e;exact f r (cL.mpr ⟨hr,by simpa using e⟩)
 .refine nX rfl ?_;have hpl:g=fd.length:=by have:=of_decide_eq_false z;lia
  refine iS (NO rfl (by lia) L.nd) ⟨_,rfl,(iR _ _).mpr Q,(kK _).imp (λh=>by lia),λx i=>L.el x ((iR _ _).mp i),λr hr hd=>?_⟩;obtain⟨T,E,G,H⟩:=I r.hd (by rw[hpl,take_length];exact(iR _ _).mp hd) r hr rfl;exact⟨T,E,G,λz hz=>(iR _ _).mpr (H z hz)⟩
abbrev eE{a:Type}:Nat->List a->List (Nat×a)
 | _,[]=>[]
 |i,x::B=>(i,x)::eE (i+1) B
def rh{a:Type}(f:a->D):∀(i:Nat) (B:List a),hV i (B.map f)=(eE i B).map λp=>D.tup [.int p.1,f p.2]
 | _,[]=>rfl
 |i,x::B=>by rw[bF,hV,rh f _ B];rfl
def uJ{a:Type}:∀(i:Nat) (B:List a) (j:Nat),(eE i B)[j]?=(B[j]?).map λx=>(i+j,x)
 | _,[],_=>rfl
 |i,x::B,0=>rfl
 |i,x::B,j+1=>by rw[eE,gt,gt,uJ _ B j,show i+1+j=i+(j+1) by lia]
def jU{a:Type}{B:List a}{p:Nat×a}(h:p∈eE 0 B):B[p.1]?=aa p.2:=by
 obtain⟨j,b⟩:=rJ h;rw[uJ]at b
 grind
def uK{a:Type}:∀(i:Nat) (B:List a),(eE i B).length=B.length
 | _,[]=>rfl
 |i,x::B=>by rw[eE,bO,bO,uK _ B]
abbrev inL(es:LOB)(wo:LB0):LI0:=((eE 0 es).filter λp=>wo.getD p.1 ag && p.2==aa ac).map λp=>(p.1:Int)
abbrev jn(wo:LB0):LI0:=((eE 0 wo).filter λp=>p.2).map λp=>(p.1:Int)
def S5(wo:LB0):eE 0 wo=(bI wo.length).map λi=>(i,wo.getD i ag):=by
 apply ls;intro j;rw[uJ,cu]
 grind
def B2(wo:LB0):jn wo=qK wo:=by
 unfold jn qK;rw[S5,filter_map,map_map];rfl
def B3:∀(ws:Wss),O.kns (ws.map λp=>lsO p.2)=ac
 | []=>by rw[map_nil,O.kns]
 |p::ws=>by rw[bF,O.kns,B3 ws,lsO,O.kn,qM];rfl
abbrev Spt.D(C:LRu)(s:Spt):L2.D:=(s.S C).o.toD
abbrev gdT(C:LRu)(bs:LLP):L2.D:=.dT ((gys C.length bs.length).map wyK) ((gys C.length bs.length).map (gdD C bs))
def uL(C:LRu)(s:Spt):s.D C=slf s.es (.lst s.st) (.lst (s.bs.map d3)) (gdT C s.bs) (wsO (wtW s.tw)).toD (.lst (s.wt.map wyD)) [.lst s.pp,.int s.ct,.bl s.en] s.ms:=by
 dsimp only[Spt.D,Spr.o,Spt.S,slf,gdT];simp only[lsO,O.toD,O.toDs,wE,List.map,jX,nil_append]
def S6(C:LRu)(s:Spt):(s.S C).o.kn=ac:=by
 dsimp only[Spr.o,Spt.S,lsO,wsO];simp only[List.map,jX,nil_append,O.kn,O.kns,qM,oN];exact B3 _
def B4:cG 0 (.deep (.at l (s.S C).o)::M)=aa (s.D C):=by
 show(if (O.at l (s.S C).o).kn=ac then aa (O.at l (s.S C).o).toD else ab)=_;rw[O.kn,S6,if_pos rfl,O.toD];rfl
abbrev uM(C:LRu)(s:Spt)(wo:LB0)(t:Int):LD:=(k5 [s.D C,.int t,.lst (wo.map D.bl)]).getD []
abbrev rj(C:LRu)(s:Spt)(wo:LB0)(t:Int):D:=.tup [.str "group",.lst (uM C s wo t)]
structure gn(n:Nat)(ms:LRu):Prop where
 ok:∀r∈ms,r.Ok n
 nm:∀r∈ms,∀p∈r.ps,(nmP p).length<=1000
 ne:∀r∈ms,r.w≠.never
 len:ms.length<=1000
def gn.of(hr:∀r∈C,RuK n r)(hz:C.length<=1000)(h:ms.Perm (gO C)):gn n ms:=by
 have hm:∀r∈ms,r∈C/\r.w≠.never:=λr q=>by
  obtain⟨a,b⟩:=cL.mp (h.mem_iff.mp q)
  grind
 exact⟨λr q=>(hr r (hm r q).1).ok,λr q=>(hr r (hm r q).1).nm,λr q=>(hm r q).2,by rw[h.length_eq];exact cy (fV _ _) hz⟩
abbrev GpL(ms:LRu)(es:LOB)(wo:LB0):Prop:=wo.length=es.length/\∀r∈ms,wo.getD r.hd.toNat ag=ac->r.bodyLost es wo=ac
variable{es':LOB}
def GpL.up(h:GpL ms es wo)(f:fw es es')(hok:∀r∈ms,r.Ok es.length):GpL ms es' wo:=⟨by rw[h.1,f.len],λr hr b=>ED (λp a z=>wY f (pX.refl _) ((hok r hr).ps p a) z) (h.2 r hr b)⟩
variable{b:Bool}
def uN(t0:0<=t)(a:opn es t=ac):fw es (put es t.toNat b):=by
 refine⟨dC _ _ _,λi=>?_⟩
 by_cases e:i=t.toNat
 .rw[e];exact .inl (k8 a)
 .exact .inr (mx es b e)
def B5(hn:n<=60)(a:s.es.length=n)(hm:gn n s.ms)(b:GpL s.ms s.es wo)(t0:0<=t)(t1:t<(n:Int))(d:wo.getD t.toNat ag=ac):∃ks:LI0,uM C s wo t=ks.map D.int/\k5 [s.D C,.int t,.lst (wo.map D.bl)]=aa (ks.map D.int)/\rg s.es wo s.ms t ks:=by
 obtain⟨ks,c,h⟩:=S4 (by lia) (by rw[a];exact hm.ok) hm.nm b.1 hm.len b.2 t0 (by rw[a];exact t1) d;unfold uM;rw[uL C s,c];exact⟨ks,rfl,rfl,h⟩
def Hz(hn:n<=60)(a:s.es.length=n)(hm:gn n s.ms)(f:GpL s.ms s.es wo)(t0:0<=t)(t1:t<(n:Int))(h:wo.getD t.toNat ag=ac)(g:fo M=aa (s.D C))(ha:fa M=aa [.int t,.lst (wo.map D.bl)]):
  gN "Seeking" "kernel" k5 fo fa M=aa (uM C s wo t):=by
 obtain⟨ks,e,b,_⟩:=B5 hn a hm f t0 t1 h;rw[e];unfold gN;rw[g,ay];rw[uL C s]at b ⊢;show(if "Seeking"="Seeking" /\ List.contains (spN++(["paper","count","ended"]:LSt)) "kernel"=ag then (fa M).bind λc=>(k5 (slf s.es _ _ _ _ _ _ s.ms::c)).bind λC=>if C.all D.flat then aa C else ab else ab)=_;rw[if_pos ⟨rfl,rfl⟩,ha,ay,b,ay,if_pos (all_eq_true.mpr λd hd=>by obtain⟨z,_,rfl⟩:=aT.mp hd;rfl)]
abbrev eG(C:LRu)(wo:LB0)(s:Spt)(ts:LI0):Spt:=ts.foldl (λs t=>s.pt t ag (rj C s wo t)) s
def B6{n c U3:Nat}{C:LRu}{wo:LB0}:∀{ts:LI0} {s:Spt},SpJ n c U3 C s->fU s.es (ts.map λt=>(t,ag))->SpJ n c U3 C (eG C wo s ts)/\Me c (eG C wo s ts)+ts.length<=Me c s/\(eG C wo s ts).es=ts.foldl (λes t=>put es t.toNat ag) s.es/\fw s.es (eG C wo s ts).es/\(eG C wo s ts).bs=s.bs/\(eG C wo s ts).ms=s.ms
 | [],s,h,_=>⟨h,aM _,rfl,fw.refl _,rfl,rfl⟩
 |t::ts,s,h,k=>by
  obtain⟨⟨a,b⟩,e⟩:=k.op _ aH;obtain⟨f,h2⟩:=h.pt a (by rw[<- h.es];exact b) e;obtain⟨g,j,m,d,p,r⟩:=B6 f k.tail;refine⟨g,?_,m,?_,p,r⟩
  .have l:Me c (eG C wo (s.pt t ag _) ts)+ts.length<=Me c _:=j;show Me c (eG C wo (s.pt t ag _) ts)+(ts.length+1)<=_;lia
  .have f1:fw s.es (put s.es t.toNat ag):=uN a e;refine⟨d.len.trans f1.len,λi=>?_⟩
   rcases f1.at' i with q |q
   .exact .inl q
   .rcases d.at' i with z |z
    .exact .inl (q.symm.trans z)
    .exact .inr (z.trans q)
def psT{pre post:LI0}(h:fU es ((pre++post).map λt=>(t,ag))):fU es (pre.map λt=>(t,ag)):=by
 rw[bh]at h;exact h.pre
abbrev reM(s:Spt):Spt:={s with ms:=(cJ s.es s.ms).2.1++(cJ s.es s.ms).2.2}
abbrev bV(C:LRu)(s:Spt):OD×Spt:=match inL s.es (cJ s.es s.ms).1 with
 |x::_=>(aa (rj C (reM s) (cJ s.es s.ms).1 x),reM s)
 | []=>(ab,eG C (cJ s.es s.ms).1 (reM s) (jn (cJ s.es s.ms).1))
variable{c:Nat}
def SpJ.rem'(h:SpJ n c U3 C s)(hm:gn n s.ms):SpJ n c U3 C (reM s)/\GpL s.ms s.es (cJ s.es s.ms).1/\(reM s).ms.Perm s.ms/\∀i,(cJ s.es s.ms).1.getD i ag=ac->s.es.getD i ab≠aa ag:=by
 obtain⟨a,b⟩:=Sh (es:=s.es) hm.ne;have pm:((cJ s.es s.ms).2.1++(cJ s.es s.ms).2.2).Perm s.ms:=by have:=a.pm;rw[bQ]at this;exact this
 refine⟨⟨h.es,h.bk,h.tw,h.wv,pm.trans h.ms,h.mB,h.sB,h.sv⟩,⟨a.len,λr hr d=>?_⟩,pm,λi hi e=>?_⟩
 .have:=b r hr;unfold ie at this
  grind
 .have:=a.pe.sub i hi;unfold jS at this
  grind
def GpL.grp(h:GpL ms es wo)(pm:ms.Perm (gO C))(hn:∀i,wo.getD i ag=ac->es.getD i ab≠aa ag):Grp C es wo:=⟨h.1,hn,λr hr=>h.2 r (pm.mem_iff.mpr hr)⟩
def HA:t∈jn wo↔0<=t/\wo.getD t.toNat ag=ac:=by rw[B2];exact RK wo t
def S7(wo:LB0):(jn wo).Nodup:=by
 rw[B2];exact u6 _ (λa b h e=>h (by lia)) (nodup_range.filter _)
def HB(h:inL es wo=[])(i:Nat)(b:wo.getD i ag=ac):es.getD i ab≠aa ac:=λe=>by
 rw[cg]at e
 cases a:es[i]? with
 |none=>rw[a]at e;nomatch e
 |some x=>
  rw[a]at e;have e:x=aa ac:=e;have hm:(i,x)∈eE 0 es:=dF (by rw[uJ,a];simp);have:_∈inL es wo:=aT.mpr ⟨_,cL.mpr ⟨hm,by rw[b,e];rfl⟩,rfl⟩
  grind
def B7(d:wo.length=es.length)(h:inL es wo=[])(hn:∀i,wo.getD i ag=ac->es.getD i ab≠aa ag):fU es ((jn wo).map λt=>(t,ag)):=by
 refine⟨by rw[map_map];have:=S7 wo;simpa[Function.comp_def]using this,λz hz=>?_⟩;obtain⟨t,a,rfl⟩:=aT.mp hz;obtain⟨t0,tw⟩:=HA.mp a
 have lt:t.toNat<wo.length:=by
  grind
 refine⟨⟨t0,by show t<_;lia⟩,?_⟩;unfold opn
 cases c:es.getD t.toNat ab with
 |none=>rfl
 |some b=>cases b with
  |true=>exact absurd c (HB h _ tw)
  |false=>grind
def B8(hr:∀r∈C,RuK n r)(hz:C.length<=1000)(h:SpJ n c U3 C s):SpJ n c U3 C (bV C s).2/\(bV C s).2.bs=s.bs/\Mvs C s.bs s.es (bV C s).2.es/\Me c (bV C s).2<=Me c s/\((bV C s).1=ab->s.wt=[]->(bV C s).2.wt≠[]->Me c (bV C s).2<Me c s)/\((bV C s).1≠ab->∃wo,Grp C (bV C s).2.es wo/\∃i,wo.getD i ag=ac/\(bV C s).2.es.getD i ab=aa ac):=by
 obtain⟨m,f,pm,a⟩:=h.rem' (gn.of hr hz h.ms);unfold bV
 cases q:inL s.es (cJ s.es s.ms).1 with
 |cons x B=>
  refine⟨m,rfl,.refl,aM _,(λe=>by nomatch e),λ_=>⟨_,f.grp h.ms a,?_⟩⟩;have l:x∈inL s.es (cJ s.es s.ms).1:=by grind
  obtain⟨p,v,rfl⟩:=aT.mp l;obtain⟨g,j⟩:=cL.mp v;have ⟨h4,h5⟩:=(cD _ _).mp j;refine⟨p.1,h4,?_⟩;show s.es.getD p.1 ab=aa ac;rw[cg,(jU g)]
  grind
 |nil=>
  dsimp only;obtain⟨o1,o2,z,E,A,G⟩:=B6 m (B7 f.1 q a);have y:Me c _+(jn (cJ s.es s.ms).1).length<=Me c s:=o2;refine⟨o1,A,?_,by lia,λ_ w d=>?_,λe=>absurd rfl e⟩
  .rw[z,B2];refine .out .refl (f.grp h.ms a) λi hi=>?_;show s.es.getD i ab=ab
   cases l:s.es.getD i ab with
   |none=>rfl
   |some b=>cases b with
    |true=>exact absurd l (HB q i hi)
    |false=>grind
  .cases u:jn (cJ s.es s.ms).1 with
   |nil=>
    rw[u]at d
    exact absurd w d
   |cons t ts=>
    grind
def S8(hr:∀r∈C,RuK n r)(hz:C.length<=1000)(hn:n<=60)(hB:U3+c<16777216)(h:SpJ n c U3 C s):Bq l [] (s.S C).o=aa (((bV C s).2.S C).o,(bV C s).1.getD .non):=by
 have hm:=gn.of hr hz h.ms;obtain⟨h1,w,pm,E⟩:=h.rem' hm;have j:(s.S C).es=s.es:=rfl;have a:=h.es;have e:gn n (reM s).ms:=⟨λr q=>hm.ok r (pm.mem_iff.mp q),λr q=>hm.nm r (pm.mem_iff.mp q),λr q=>hm.ne r (pm.mem_iff.mp q),by rw[pm.length_eq];exact hm.len⟩;have f:GpL (reM s).ms s.es (cJ s.es s.ms).1:=⟨w.1,λr q=>w.2 r (pm.mem_iff.mp q)⟩;have g:=w.1;unfold bV;generalize J:(cJ s.es s.ms).1=wo at *;apply eV;apply ak;refine iY (eU rfl rfl rfl rfl (Sj (s:=s.S C) (by show 3<900;decide) rfl (by rw[j];lia) (by rw[j,a];exact hm.ok) hm.ne hm.len)) ?_;show wp _ [.deep _,.im (.lst ((cJ s.es s.ms).1.map D.bl)),.no,.no,.no] _;rw[J];apply ak;refine bi (d:=.lst ((inL s.es wo).map D.int)) (bH ?_) ?_
 .unfold inL;rw[map_map];refine eC (eE 0 s.es) (λp=>D.tup [.int p.1,shD p.2]) _ _ ?_ (by rw[uK];lia) λp G=>?_
  .rw[<- rh];show(pC _ _).map _=_;rw[qL jh];rfl
  .have A:=(cR.mp (jU G)).1;refine dA rfl (jc (cI (be rfl rfl (jd (by lia) (by lia))) rfl) (bq (ap rfl rfl ?_))) λ_=>rfl;obtain⟨i,x⟩:=p
   cases x with
   |none=>rfl
   |some b=>cases b <;> rfl
 .show wp _ [.deep (.at l ((reM s).S C).o),.im _,.no,.im _,.no] _;apply ak
  cases U:inL s.es wo with
  |cons x B=>
   have u:x∈inL s.es wo:=by rw[U];exact aH
   obtain⟨p,G,ep⟩:=aT.mp u;obtain⟨H,I⟩:=cL.mp G;have h3:=(cR.mp (jU H)).1;have ⟨h4,h5⟩:=(cD _ _).mp I
   exact iW (d:=rj C (reM s) wo x) (cP (am rfl (am (bH (Hz hn a e f (by lia) (by lia) (by rw[<- ep,d4];exact h4) B4 (am (be rfl rfl (kE 0 (by decide) (by rw[bO];lia))) (am rfl rfl)))) rfl))) ⟨_,rfl,rfl,rfl⟩
  |nil=>
   have ps:=B7 g U E;refine aU rfl (λz=>by nomatch z) (λ_=>bK ?_);apply ak;refine dh (eE 0 wo) (λp=>D.tup [.int p.1,.bl p.2]) (λpre M=>∃N Q,M=[.deep (.at l ((eG C wo (reM s) ((pre.filter λp=>p.2).map λp=>p.1)).S C).o),.im _,N,.im _,Q]) ?_ ⟨_,_,rfl⟩ ?_ ?_
   .rw[<- rh];exact uw rfl
   .rintro pre p post M ex ⟨N,Q,rfl⟩;refine⟨_,rfl,?_⟩;walk_at "nrm";have u:=jU (p:=p) (by rw[ex];simp);have A:=(cR.mp u).1
    cases m:p.2 with
    |false=>
     refine aU rfl (λz=>by nomatch z) (λ_=>bK ?_);refine⟨.im (.int p.1),.im (.bl ag),?_⟩
     rw[lr,filter_cons_of_neg (by rw[m];exact bx),filter_nil,bQ]
    |true=>
     have v:jn wo=(pre.filter λp=>p.2).map (λp=>(p.1:Int))++(p.1:Int)::(post.filter λp=>p.2).map λp=>p.1:=by
      unfold jn;simp only[ex,lr,rM m,bh,bF]
     rw[v]at ps;obtain⟨o1,o2,o3,o4,o5,Y⟩:=B6 (wo:=wo) h1 (psT ps);generalize hT:(pre.filter λp=>p.2).map _=T at *;have y:GpL (eG C wo (reM s) T).ms (eG C wo (reM s) T).es wo:=by rw[Y];exact f.up o4 (by show ∀r∈(reM s).ms,r.Ok s.es.length;rw[a];exact e.ok)
     have L:wo.getD (p.1:Int).toNat ag=ac:=by simp only[d4,cg,u,m];rfl
     refine iX (eU rfl rfl (dk rfl (dk rfl (dk (cP (am rfl (am (bH (Hz hn o1.es (by rw[Y];exact e) y (by lia) (by lia) L B4 (am rfl (am rfl rfl)))) rfl))) rfl))) rfl (BZ o1 hB (by lia) (by lia))) ?_;refine⟨.im (.int p.1),.im (.bl ac),?_⟩;rw[lr,rM m,bh,hT];unfold eG;rw[filter_nil,bF,map_nil,eJ];rfl
   .rintro M ⟨N,Q,rfl⟩;exact iW rfl ⟨_,rfl,rfl,rfl⟩
abbrev stF(C:LRu)(c:Nat):Nat->Spt->OD×Spt
 | 0,s=>(ab,s)
 |k+1,s=>if (lrF C (Me c s+1) s).1.isSome then ((lrF C (Me c s+1) s).1.map wyD,(lrF C (Me c s+1) s).2) else if ((bV C (lrF C (Me c s+1) s).2).1.isSome || (bV C (lrF C (Me c s+1) s).2).2.wt.isEmpty) then bV C (lrF C (Me c s+1) s).2 else stF C c k (bV C (lrF C (Me c s+1) s).2).2
abbrev S9(C:LRu)(bs:LLP)(es:LOB):Prop:=(∃y∈gys C.length bs.length,∀p∈cV C bs y,p.sure es=ac)\/∃wo,Grp C es wo/\∃i,wo.getD i ag=ac/\es.getD i ab=aa ac
structure Ta(n c U3:Nat)(C:LRu)(s:Spt)(R:OD×Spt):Prop where
 ok:SpJ n c U3 C R.2
 bs:R.2.bs=s.bs
 mv:Mvs C s.bs s.es R.2.es
 en:R.1≠ab->S9 C s.bs R.2.es
 tp:∀w,R.1=aa w->∃ds,w=.tup ds
def Tb(h:(bV C s).1=aa w):∃ds,w=.tup ds:=by
 unfold bV at h;split at h
 .cases h;exact⟨_,rfl⟩
 .grind
def none_of{a:Type}{x:Option a}(h:¬x.isSome=ac):x=ab:=by simp_all
def HC{n c U3:Nat}{C:LRu}(hr:∀r∈C,RuK n r)(hz:C.length<=1000):∀(k:Nat) (s:Spt),SpJ n c U3 C s->Me c s<k->Ta n c U3 C s (stF C c k s)
 | 0,_,_,h=>absurd h (jY _)
 |k+1,s,h,hk=>by
  have l:=uI hr _ s h (dq _);dsimp only[stF];generalize lrF C _ s=R at l;split
  .rename_i d;obtain⟨y,j⟩:=u9.mp d;exact⟨l.ok,l.bs,l.mv,(λ_=>.inl ⟨y,l.ye y j⟩),λw i=>by rw[j]at i;cases i;exact⟨_,rfl⟩⟩
  .rename_i d;obtain⟨m,p,f,z,q,u⟩:=B8 hr hz l.ok;rw[l.bs]at f;have x:=l.le;have pt:=λw=>Tb (C:=C) (s:=R.2) (w:=w);generalize bV C R.2=P at *;split
   .exact⟨m,p.trans l.bs,l.mv.trans f,(λe=>.inr (u e)),pt⟩
   .rename_i g;have h2:P.2.wt≠[]:=λe=>g (by rw[e];exact Bool.or_true _);have v:=q (none_of λe=>g (by rw[e];rfl)) (l.no (none_of d)) h2;have a:=HC hr hz k P.2 m (by lia);have b:=p.trans l.bs;exact⟨a.ok,a.bs.trans b,(l.mv.trans f).trans (by have:=a.mv;rw[b]at this;exact this),(λe=>by have:=a.en e;rw[b]at this;exact this),a.tp⟩
def Tc(C:LRu)(s:Spt):dIs ((bV C s).1.getD .non) .non=aa (.bl (!(bV C s).1.isSome)):=by
 unfold bV
 split <;> rfl
def Td{k:Nat}(hr:∀r∈C,RuK n r)(hz:C.length<=1000)(hn:n<=60)(hB:U3+c<16777216)(h:SpJ n c U3 C s)(E:Me c s<k)(B:k<1000000000):qI l [] (s.S C).o=aa (((stF C c k s).2.S C).o,(stF C c k s).1.getD .non):=by
 apply eV;apply ak;refine bi rfl ?_;walk_at "nrm";apply ak;refine qb (λm M=>∃(a:Spt) (g:Bool) (j:Sl),M=[.deep (.at l (a.S C).o),.im (.bl g),j]/\(g=ac->SpJ n c U3 C a/\Me c a<m/\stF C c m a=stF C c k s)/\(g=ag->∃w:OD,j=.im (w.getD .non)/\(w,a)=stF C c k s)) ?_ _ k _ ⟨s,ac,_,rfl,λ_=>⟨h,E,rfl⟩,λz=>by nomatch z⟩ B;rintro m M ⟨a,g,j,rfl,u,q⟩;generalize stF C c k s=Z at u q ⊢;refine⟨g,rfl,?_,?_⟩
 .rintro rfl;obtain⟨h',hm,b⟩:=u rfl
  cases m with
  |zero=>exact absurd hm (jY _)
  |succ m=>
   have f:=uI hr _ a h' (dq _);have mB:=h'.mB;have v:=SY (l:=l) hr hB h' (dq _) (by show Me c a+1<_;show gP a.es*_+a.wt.length+1<_;lia);dsimp only[stF]at b;generalize lrF C _ a=R at *;apply ak;refine iY (eU rfl rfl rfl rfl v) ?_;apply ak
   cases hR:R.1 with
   |some y=>
    rw[if_pos (by rw[hR];rfl),hR]at b
    exact aU rfl (λz=>by nomatch z) (λ_=>bK (bi ((kH rfl (ap (aD (am (iV oB) rfl) (dO R.2.wt wyD)) rfl jf)).trans rfl) ⟨0,oW _,R.2,ag,_,rfl,(λz=>by nomatch z),λ_=>⟨aa _,rfl,b⟩⟩))
   |none=>
    rw[if_neg (by rw[hR];exact bx)]at b;obtain⟨G,L,N,Q,H,T⟩:=B8 hr hz f.ok;have x:=S8 (l:=l) hr hz hn hB f.ok;have A:=Tc C R.2;have J:=f.le;generalize bV C R.2=P at *;refine iY (eU rfl rfl rfl rfl x) ?_;refine bi (kH (ap rfl rfl A) (ap (aD (am (iV oB) rfl) (dO P.2.wt wyD)) rfl jf)) ?_
    by_cases d:(P.1.isSome || P.2.wt.isEmpty)=ac
    .rw[if_pos d]at b
     have i:(!P.1.isSome && decide ((0:Int)<P.2.wt.length))=ag:=by
      rcases(li _ _).mp d with z |z
      .rw[z];rfl
      .rw[isEmpty_iff.mp z];exact rG _
     rw[i];exact⟨0,oW _,P.2,ag,_,rfl,(λz=>by nomatch z),λ_=>⟨P.1,rfl,b⟩⟩
    .rw[if_neg d]at b;have p:=none_of λe=>d (by rw[e];rfl);have h2:P.2.wt≠[]:=λe=>d (by rw[e];exact Bool.or_true _);have I:=H p (f.no hR) h2
     have i:(!P.1.isSome && decide ((0:Int)<P.2.wt.length))=ac:=by
      have:=length_pos_iff.mpr h2;rw[p,decide_eq_true (by lia)];rfl
     simp only[i];exact⟨m,dq _,P.2,ac,_,rfl,(λ_=>⟨G,by lia,b⟩),λz=>by nomatch z⟩
 .rintro rfl;obtain⟨w,rfl,e⟩:=q rfl;rw[<- e];exact iW rfl ⟨_,rfl,rfl,rfl⟩
structure SpB(n c:Nat)(C:LRu)(s:Spt):Prop where
 es:s.es.length=n
 bk:∀b∈s.bs,dE n b
 tw:dR c C.length s.bs s.tw
 wv:∀y∈s.wt,y∈gys C.length s.bs.length
 ms:s.ms.Perm (gO C)
 st:s.st=[]
 wl:s.wt.length=C.length+s.bs.length
def HD{n q R:Nat}(hn:n<=60):∀(C:LRu) (i c:Nat) (tw:Wt),(∀r∈C,RuK n r/\(grd r).length<=q)->i+C.length<=R->dR c R [] tw->dR (c+64*q*C.length) R [] (qX i C tw)
 | [],_,_,_,_,_,h=>h
 |r::C,i,c,tw,hr,hi,h=>by
  obtain⟨f,g⟩:=hr r aH;simp only[bO]at hi
  have a:dR (c+64*q) R [] (ig (ag,i) (grd r) tw):=by
   refine⟨?_,λp y d=>?_,λj=>?_⟩
   .rw[<- uE];refine(bL.reg hn (uv f) h.wk).le ?_
    lia
   .by_cases e:y=(ag,i)
    .rw[e];refine jk.mpr ?_;show i<R
     lia
    .refine h.vl p y (jl.mpr ?_);rw[<- oH e p _];exact jl.mp d
   .refine .inl λp=>?_;rw[oH (λe=>by cases e)]
    rcases h.br j with z |z
    .exact z p
    .rw[z p]
     exact if_neg λx=>by
      cases x
  have:=HD hn C (i+1) _ _ (λx b=>hr x (bj _ b)) (by lia) a;rw[bO,Nat.mul_succ,show c+_=c+64*q+64*q*C.length by lia];exact this
def Te{q:Nat}(hn:n<=60)(a:es.length=n)(hr:∀r∈C,RuK n r/\(grd r).length<=q):SpB n (64*q*C.length) C (spT es C):=by
 refine⟨a,(λb h=>nomatch h),?_,λy c=>?_,rS _,rfl,by show((bI C.length).map _).length=_;rw[aB,cK];rfl⟩
 .have:=HD (R:=C.length) hn C 0 0 [] hr (by lia) ⟨⟨b9 _,λp h=>nomatch h⟩,(λp y h=>nomatch h),λj=>.inl λp=>rfl⟩;rw[mP]at this;exact this
 .obtain⟨i,hi,rfl⟩:=aT.mp c;exact jk.mpr (fX.mp hi)
inductive Wh where
 |ch
 |gd (y:Wy)
 |gp (ks:LI0)
 |wd (i:Int)
abbrev Wh.D:Wh->L2.D
 |.ch=>.non
 |.gd y=>wyD y
 |.gp ks=>.tup [.str "group",.lst (ks.map .int)]
 |.wd i=>.tup [.str "world",.int i]
abbrev mkS(n:Nat)(ks:LI0):LB0:=(bI n).map (inS ks)
def rm(n:Nat)(ks:LI0):(mkS n ks).length=n:=by unfold mkS;rw[aB,cK]
variable{ks:LI0}
def uO(t0:0<=t)(t1:t<(n:Int)):(mkS n ks).getD t.toNat ag=ac↔t∈ks:=by
 delta mkS inS
 rw[cg,cu,uY (by lia)];show(ks.any λx=>x==_)=ac↔_;rw[any_eq_true];constructor
 .rintro⟨x,a,e⟩
  rwa [show t=x by lia]
 .intro h;exact⟨t,h,by rw[beq_iff_eq];lia⟩
nonrec abbrev HE(G:List Prt)(es:LOB):Prop:=∀p∈G,p.sure es=ac
structure GpR(n:Nat)(C:LRu)(es:LOB)(ks:LI0):Prop where
 nn:∀x∈ks,0<=x/\x<(n:Int)
 nd:ks.Nodup
 i:∃x∈ks,es.getD x.toNat ab=aa ac
 up:∀r∈gO C,r.hd∈ks->r.bodyLost es (mkS n ks)=ac
abbrev Rt(n:Nat)(C:LRu)(bs:LLP)(es:LOB):Wh->Prop
 |.ch=>False
 |.gd y=>y∈gys C.length bs.length/\HE (cV C bs y) es
 |.gp ks=>GpR n C es ks
 |.wd _=>∀k,k<n->es.getD k ab≠ab
nonrec def Stp:=Pr×Wh
nonrec abbrev LSp:=List Stp
abbrev stD(x:Stp):D:=.tup [prD x.1,x.2.D]
abbrev b5(n:Nat):LSp->LOB
 | []=>ik n ab
 |x::st=>put (b5 n st) x.1.1.toNat x.1.2
abbrev Wh.nc:Wh->Bool
 |.gd _=>ac
 |.gp _=>ac
 | _=>ag
structure Tf(n:Nat)(C:LRu)(bs:LLP)(es:LOB)(x:Stp):Prop where
 t0:0<=x.1.1
 t1:x.1.1<(n:Int)
 op:opn es x.1.1=ac
 ok:(x.2=.ch/\x.1.2=ac/\∀j:Nat,(j:Int)<x.1.1->es.getD j ab≠ab)\/(x.2.nc=ac/\Rt n C bs (put es x.1.1.toNat (!x.1.2)) x.2)
abbrev Tr(n:Nat)(C:LRu)(bs:LLP):LSp->Prop
 | []=>True
 |x::st=>Tr n C bs st/\Tf n C bs (b5 n st) x
def k9(n:Nat):∀st:LSp,(b5 n st).length=n
 | []=>mK
 |x::st=>by rw[b5,dC,k9 n st]
structure TrS(n:Nat)(C:LRu)(s:Spt)(st:LSp):Prop where
 sv:s.st=st.reverse.map stD
 es:s.es=b5 n st
 tr:Tr n C s.bs st
variable{st:LSp}{w:Wh}
def TrS.pt(h:TrS n C s st)(t0:0<=t)(t1:t<(n:Int))(a:opn s.es t=ac)(c:w.nc=ac)(k:Rt n C s.bs (put s.es t.toNat (!b)) w):TrS n C (s.pt t b w.D) (((t,b),w)::st):=by
 refine⟨?_,?_,h.tr,t0,t1,h.es▸a,.inr ⟨c,h.es▸k⟩⟩
 .show s.st++[_]=_;rw[h.sv,iZ,bh];rfl
 .show put s.es _ _=_;rw[h.es];rfl
abbrev TrM(n:Nat)(C:LRu)(st:LSp)(s:Spt):Prop:=∃xt:LSp,TrS n C s (xt++st)/\∀x∈xt,x.2.nc=ac
def TrM.refl(h:TrS n C s st):TrM n C st s:=⟨[],h,λ_ h=>nomatch h⟩
def TrM.pt(h:TrM n C st s)(t0:0<=t)(t1:t<(n:Int))(a:opn s.es t=ac)(c:w.nc=ac)(k:Rt n C s.bs (put s.es t.toNat (!b)) w):TrM n C st (s.pt t b w.D):=by
 obtain⟨xt,h,d⟩:=h;refine⟨_::xt,h.pt t0 t1 a c k,λx q=>?_⟩
 grind
def TrM.same{a:Spt}(h:TrM n C st s)(b:a.st=s.st)(c:a.es=s.es)(d:a.bs=s.bs):TrM n C st a:=by
 obtain⟨xt,h,e⟩:=h;exact⟨xt,⟨by rw[b];exact h.sv,by rw[c];exact h.es,by rw[d];exact h.tr⟩,e⟩
def B9{n:Nat}{C:LRu}{y:Wy}{st:LSp}:∀{ps:List Pr} {s:Spt},y∈gys C.length s.bs.length->s.es.length=n->(∀p∈cV C s.bs y,p.Ok s.es.length)->fU s.es ps->(∀z∈ps,HE (cV C s.bs y) (put s.es z.1.toNat (!z.2)))->TrM n C st s->TrM n C st (fF s (wyD y) ps)
 | [],_,_,_,_,_,_,h=>h
 |z::ps,s,hy,hl,hG,k,hp,h=>by
  obtain⟨⟨a,b⟩,e⟩:=k.op z aH;obtain⟨d,g⟩:=bX.mp k.nd;refine B9 (s:=s.pt z.1 z.2 _) hy ((dC _ _ _).trans hl) (λp q=>by show p.Ok (put s.es z.1.toNat z.2).length;rw[dC];exact hG p q) k.tail (λx c p q=>?_) (h.pt (w:=.gd y) a (by lia) e rfl ⟨hy,hp z aH⟩);obtain⟨⟨f,i⟩,j⟩:=k.op x (bj _ c);have ne:z.1≠x.1:=λe=>d (aT.mpr ⟨x,c,e.symm⟩);show p.sure (put (put s.es z.1.toNat z.2) x.1.toNat _)=ac;rw[B0 (by lia)];exact uC (by rw[dC];exact hG p q) a (by rw[dC];exact b) (B1 a f ne e) _ (hp x (bj _ c) p q)
def rn{n c U3:Nat}{C:LRu}{st:LSp}(hr:∀r∈C,RuK n r):∀(k:Nat) (s:Spt),SpJ n c U3 C s->TrM n C st s->TrM n C st (lrF C k s).2
 | 0,_,_,h=>h
 |k+1,s,h,q=>by
  cases a:s.wt with
  |nil=>rw[uF a];exact q
  |cons y wt=>
   obtain⟨f,_,g⟩:=h.pop a;have d:∀p∈cV C s.bs y,p.Ok s.es.length:=by rw[h.es];exact uH hr h.bk
   cases b:prs _ s.es with
   |none=>rw[uG a b];exact q.same rfl rfl rfl
   |some ps=>
    rw[rf a b];obtain⟨e,i,_⟩:=rb d b;exact rn hr k _ (oI f e).1 (B9 g h.es d e (λz hz=>((i z).mp hz).2.2) (q.same rfl rfl rfl))
def Tg{a:LB0}(h:p.Ok es.length)(b:∀t∈nmP p,es.getD t.toNat ab=aa ac->es'.getD t.toNat ab=aa ac)(h2:∀t∈nmP p,(es.getD t.toNat ab=aa ag\/wo.getD t.toNat ag=ac)->(es'.getD t.toNat ab=aa ag\/a.getD t.toNat ag=ac))(s:p.lost es wo=ac):p.lost es' a=ac:=by
 cases p with
 |inn t=>
  have s:(_ || wo.getD t.toNat ag)=ac:=s;show(_ || a.getD t.toNat ag)=ac;rw[li]at s ⊢
  rcases h2 t aH (s.imp beq_iff_eq.mp id)with q |q
  .grind
  .grind
 |out t=>exact beq_iff_eq.mpr (b _ aH (beq_iff_eq.mp s))
 |least k E=>
  refine decide_eq_true (Int.lt_of_le_of_lt (pW λz hz=>⟨(h.1 z hz).2.2,λq=>?_⟩) (of_decide_eq_true s))
  cases c:(!_ && !_)with
  |true=>rfl
  |false=>
   have:es.getD z.1.toNat ab=aa ag\/wo.getD z.1.toNat ag=ac:=by
    grind
   rcases h2 z.1 (aT.mpr ⟨z,hz,rfl⟩) this with u |u
   .grind
   .grind
 |most k E=>
  refine decide_eq_true (Int.lt_of_lt_of_le (of_decide_eq_true s) ?_);rw[sM,sM];exact pW λz hz=>⟨(h.1 z hz).2.2,λq=>beq_iff_eq.mpr (b _ (aT.mpr ⟨z,hz,rfl⟩) (beq_iff_eq.mp q))⟩
def Th{r:Rul}(g:es.length=n)(hr:r.Ok n)(h:Kp es wo ks r):r.bodyLost es (mkS n ks)=ac:=by
 subst g;obtain⟨p,c,l,a⟩:=h;have b:=hr.ps p c;refine any_eq_true.mpr ⟨p,c,?_⟩;unfold kpL at a
 by_cases d:p.lost es ((bI es.length).map (inS []))=ac
 .refine wY (fw.refl _) ⟨by rw[rm,aB,cK],λi hi=>?_⟩ b d;rw[cg,cu]at hi
  cases e:(bI es.length)[i]? with
  |none=>rw[e]at hi;nomatch hi
  |some j=>rw[e]at hi;nomatch hi
 .rw[if_neg d]at a;refine Tg b (λ_ _ e=>e) (λt f e=>e.imp id λw=>?_) l;obtain⟨t0,t1⟩:=oC b t f;exact(uO t0 t1).mpr (a t (cL.mpr ⟨ur.mpr f,w⟩))
def rg.gp(h:rg es wo ms t ks)(a:es.length=n)(hm:∀r∈ms,r.Ok n)(pm:ms.Perm (gO C))(f:fw es es')(hi:es'.getD t.toNat ab=aa ac):GpR n C es' ks:=by
 subst a;refine⟨λx c=>(h.el x c).1,h.nd,⟨t,h.mt,hi⟩,λr hr hd=>?_⟩;have hr:=pm.mem_iff.mpr hr;exact ED (λp b z=>wY f (pX.refl _) ((hm r hr).ps p b) z) (Th rfl (hm r hr) (h.kp r hr hd))
def HF{n c U3:Nat}{C:LRu}{wo:LB0}{st:LSp}(hn:n<=60):∀{ts:LI0} {s:Spt},SpJ n c U3 C s->gn n s.ms->GpL s.ms s.es wo->(∀t∈ts,wo.getD t.toNat ag=ac)->fU s.es (ts.map λt=>(t,ag))->TrM n C st s->TrM n C st (eG C wo s ts)
 | [],_,_,_,_,_,_,h=>h
 |t::ts,s,h,hm,hg,hw,k,q=>by
  obtain⟨⟨a,b⟩,e⟩:=k.op _ aH;have b:t<n:=by rw[<- h.es];exact b
  have a:0<=t:=a;obtain⟨ks,d,_,f⟩:=B5 hn h.es hm hg a b (hw t aH);refine HF hn (s:=s.pt t ag _) (h.pt a b e).1 hm (hg.up (uN a e) (by rw[h.es];exact hm.ok)) (λu g=>hw u (bj _ g)) k.tail ?_;unfold rj;rw[d];exact(q.pt (w:=.gp ks) a b e rfl (f.gp h.es hm.ok h.ms (uN a e) (oF s.es ac (by rw[h.es];lia))))
def Ti(hr:∀r∈C,RuK n r)(hz:C.length<=1000)(hn:n<=60)(h:SpJ n c U3 C s)(q:TrM n C st s):TrM n C st (bV C s).2/\∀w,(bV C s).1=aa w->∃ks,w=(Wh.gp ks).D/\GpR n C (bV C s).2.es ks:=by
 have hm:=gn.of hr hz h.ms;obtain⟨f,g,pm,i⟩:=h.rem' hm;have a:gn n (reM s).ms:=⟨λr q=>hm.ok r (pm.mem_iff.mp q),λr q=>hm.nm r (pm.mem_iff.mp q),λr q=>hm.ne r (pm.mem_iff.mp q),by rw[pm.length_eq];exact hm.len⟩;have b:GpL (reM s).ms (reM s).es (cJ s.es s.ms).1:=⟨g.1,λr q=>g.2 r (pm.mem_iff.mp q)⟩;have m:TrM n C st (reM s):=q.same rfl rfl rfl;unfold bV
 cases l:inL s.es (cJ s.es s.ms).1 with
 |cons x B=>
  refine⟨m,λw e=>?_⟩;cases e;have E:x∈inL s.es (cJ s.es s.ms).1:=by rw[l];exact aH
  obtain⟨p,z,rfl⟩:=aT.mp E;obtain⟨d,j⟩:=cL.mp z;have ⟨h4,h5⟩:=(cD _ _).mp j;have y:=(cR.mp (jU d)).1;obtain⟨ks,u,_,v⟩:=B5 (t:=p.1) hn f.es a b (by lia) (by rw[<- h.es];lia) (by rw[d4];exact h4);refine⟨ks,?_,v.gp f.es a.ok f.ms (fw.refl _) ?_⟩
  .unfold rj;rw[u];rfl
  .show s.es.getD (p.1:Int).toNat ab=aa ac;rw[d4,cg,(jU d)]
   exact eq_of_beq h5
 |nil=>exact⟨HF hn f a b (λt A=>(HA.mp A).2) (B7 g.1 l i) m,λw e=>nomatch e⟩
structure StS(n:Nat)(C:LRu)(s:Spt)(R:OD×Spt):Prop where
 tw:R.2.tw=s.tw
 pp:R.2.pp=s.pp
 ct:R.2.ct=s.ct
 en:R.2.en=s.en
 wy:∀w,R.1=aa w->∃wh:Wh,w=wh.D/\wh.nc=ac/\Rt n C s.bs R.2.es wh
def HG(w:D):∀(ps:List Pr) (s:Spt),(fF s w ps).tw=s.tw/\(fF s w ps).pp=s.pp/\(fF s w ps).ct=s.ct/\(fF s w ps).en=s.en
 | [],_=>⟨rfl,rfl,rfl,rfl⟩
 |z::ps,s=>HG w ps _
def HH(C:LRu):∀k s,(lrF C k s).2.tw=s.tw/\(lrF C k s).2.pp=s.pp/\(lrF C k s).2.ct=s.ct/\(lrF C k s).2.en=s.en
 | 0,s=>⟨rfl,rfl,rfl,rfl⟩
 |k+1,s=>by
  cases e:s.wt with
  |nil=>rw[uF e];exact⟨rfl,rfl,rfl,rfl⟩
  |cons y wt=>
   cases f:prs _ s.es with
   |none=>rw[uG e f];exact⟨rfl,rfl,rfl,rfl⟩
   |some ps=>
    rw[rf e f];obtain⟨a,b,c,d⟩:=HH C k _
    obtain⟨g,h,i,d'⟩:=HG _ ps {s with wt:=wt}
    exact⟨a.trans g,b.trans h,c.trans i,d.trans d'⟩
def HI(C:LRu)(wo:LB0):∀(ts:LI0) (s:Spt),(eG C wo s ts).tw=s.tw/\(eG C wo s ts).pp=s.pp/\(eG C wo s ts).ct=s.ct/\(eG C wo s ts).en=s.en
 | [],_=>⟨rfl,rfl,rfl,rfl⟩
 |t::ts,s=>HI C wo ts _
def uP{n c U3:Nat}{C:LRu}{st:LSp}(hr:∀r∈C,RuK n r)(hz:C.length<=1000)(hn:n<=60):∀(k:Nat) (s:Spt),SpJ n c U3 C s->TrM n C st (lrF C (Me c s+1) s).2->TrM n C st (stF C c (k+1) s).2/\StS n C s (stF C c (k+1) s)
 |k,s,h,lt=>by
  have l:=uI hr _ s h (dq _);obtain⟨a,b,d,f⟩:=HH C _ s;dsimp only[stF];generalize lrF C _ s=R at l lt a b d f;split
  .rename_i G;obtain⟨y,p⟩:=u9.mp G;refine⟨lt,a,b,d,f,λw e=>?_⟩;rw[p]at e;cases e;exact⟨.gd y,rfl,rfl,l.ye y p⟩
  .obtain⟨q,I,_⟩:=B8 hr hz l.ok;obtain⟨pt,L⟩:=Ti hr hz hn l.ok lt
   have J:(bV C R.2).2.tw=R.2.tw/\(bV C R.2).2.pp=R.2.pp/\(bV C R.2).2.ct=R.2.ct/\(bV C R.2).2.en=R.2.en:=by
    unfold bV;split
    .exact⟨rfl,rfl,rfl,rfl⟩
    .exact HI _ _ _ _
   generalize bV C R.2=P at *;obtain⟨g,i,j,m⟩:=J;split
   .refine⟨pt,g.trans a,i.trans b,j.trans d,m.trans f,λw e=>?_⟩;obtain⟨ks,B,E⟩:=L w e;exact⟨.gp ks,B,rfl,E⟩
   .cases k with
    |zero=>exact⟨pt,g.trans a,i.trans b,j.trans d,m.trans f,λw e=>nomatch e⟩
    |succ k=>
     obtain⟨H,u,v,x,z,A⟩:=uP hr hz hn k P.2 q (rn hr _ _ q pt);exact⟨H,u.trans (g.trans a),v.trans (i.trans b),x.trans (j.trans d),z.trans (m.trans f),λw e=>by rw[<- (I.trans l.bs)];exact A w e⟩
def Tj(g:InN n E)(hz:E.length<=100000)(a:LI0)(j:a.length<=1000)(lack:Int):∃d,m_7 [.lst (E.map itD),.lst (a.map D.int),.int lack]=aa d/\∃ks:LI0,d=.lst (ks.map D.int)/\(∀k∈ks,k∈a)/\ks.length<=a.length:=by
 apply l7;apply ak;refine bi (aD rfl (G4 E hz)) ?_;walk_at "nrm";apply ak;refine dW rfl ?_;walk_at "nrm";apply ak;refine bi rfl ?_;walk_at "nrm";apply ak;refine dh a D.int (λpre M=>∃(ks:LI0) (left:Int) (e f:Sl),M=[.im _,.im _,.im _,.im _,.own (ks.map D.int),.im (.int left),e,f]/\(∀k∈ks,k∈pre)/\ks.length<=pre.length) rfl ⟨[],lack,_,_,rfl,(λk h=>nomatch h),aM _⟩ ?_ ?_
 .rintro pre t post M ex ⟨ks,left,e,f,rfl,b,h2⟩;have i:pre.length<a.length:=by rw[ex];simp
  refine⟨_,rfl,?_⟩;walk_at "nrm";apply ak;refine bi (d:=.int (wt E t)) ?_ ?_
  .rw[<- (oG E).get];show aa ((gg _ _ _).getD _)=_;rw[G2]
  walk_at "nrm";refine aU (jc (bq (ap rfl rfl jf)) (bq (ap rfl rfl jf))) (λz=>?_) λz=>?_
  .apply ak;refine gc rfl rfl (by rw[aB];lia) ?_;walk_at "nrm";refine⟨_,rfl,ks++[t],left-wt E t,.im (.int t),.im (.int (wt E t)),?_,λk c=>?_,?_⟩
   .rw[bh];rfl
   .rcases bP.mp c with q |q
    .exact da _ (b k q)
    .exact c9 _ q
   .rw[aR,aR];exact Nat.add_le_add_right h2 _
  .exact bK ⟨ks,left,_,_,rfl,λk c=>da _ (b k c),by rw[aR];lia⟩
 .rintro M ⟨ks,left,e,f,rfl,b,h2⟩;exact l8 rfl (je ⟨ks,rfl,b,h2⟩)
def Tk(e:Option Bool)(b:Bool):dEq (shD e) (.bl b)=aa (.bl (e==aa b)):=by
 cases e with
 |none=>rfl
 |some c=>cases b <;> cases c <;> rfl
abbrev wth(es:LOB)(b:Bool)(ord:LI0):LI0:=ord.filter λt=>es.getD t.toNat ab==aa b
variable{ord:LI0}
def uQ(a:∀t∈ord,0<=t/\t<(es.length:Int))(d:ord.length<=1000)(b:Bool):ox [.lst (ord.map D.int),.lst (es.map shD),.bl b]=aa (.lst ((wth es b ord).map D.int)):=
 kB (congrArg _ (eC ord D.int _ D.int rfl (by lia) λt c=>dA rfl (bq (ap (be rfl rfl (iL (a t c).1 (a t c).2)) rfl (Tk _ _))) λ_=>rfl))
def HJ(E:LII)(hz:E.length<=100000):uj [.lst (E.map itD)]=aa (.int (g5 (λ_=>ac) E)):=by
 exact c8 (c7 (aD (am (bH (eC E itD _ _ rfl (by lia) λz _=>dA rfl rfl λ_=>rfl)) rfl) (wX (λ_=>ac) E)))
structure gQ(es:LOB)(ord:LI0):Prop where
 nn:∀t∈ord,0<=t/\t<(es.length:Int)
 nd:ord.Nodup
 al:∀t:Int,0<=t->t<(es.length:Int)->es.getD t.toNat ab≠ab->t∈ord
def gQ.len(h:gQ es ord):ord.length<=es.length:=qY h.nd h.nn
structure uR(es:LOB)(ks:LI0):Prop where
 nn:∀k∈ks,(0<=k/\k<(es.length:Int))/\es.getD k.toNat ab≠ab
 ln:ks.length<=60
def Tl:t∈wth es b ord↔t∈ord/\es.getD t.toNat ab=aa b:=by
 unfold wth;rw[cL,beq_iff_eq]
def uS(h:gQ es ord)(hn:es.length<=60)(f:InN es.length E)(hz:E.length<=100000)(b:Bool)(lack:Int):∃ks:LI0,m_7 [.lst (E.map itD),.lst ((wth es b ord).map D.int),.int lack]=aa (.lst (ks.map D.int))/\uR es ks:=by
 have j:=h.len;have wl:(wth es b ord).length<=ord.length:=fV _ _;obtain⟨d,e,ks,rfl,g,h2⟩:=Tj f hz (wth es b ord) (by lia) lack;refine⟨ks,e,λk i=>?_,by lia⟩;obtain⟨a,c⟩:=Tl.mp (g k i);exact⟨h.nn k a,by rw[c];exact λe=>nomatch e⟩
def uT(h:0<=t/\t<(es.length:Int))(a:es.getD t.toNat ab=aa b):uR es [t]:=⟨λx c=>by rw[ci.mp c];exact⟨h,by rw[a];exact λe=>nomatch e⟩,(by decide:1<=60)⟩
def sure_by(p:Prt)(c:p.Ok es.length)(h:gQ es ord)(hn:es.length<=60)(d:p.sure es=ac)(a:fo M=aa p.obj)(ha:fa M=aa [.lst (es.map shD),.lst (ord.map D.int)]):
  ∃ks:LI0,ba (aK "In" "sure_by" An fo fa) (ba (aK "Out" "sure_by" Aw fo fa) (ba (aK "Least" "sure_by" Ar fo fa) (aK "Most" "sure_by" Au fo fa))) M=aa (.lst (ks.map D.int))/\uR es ks:=by
 have f:=h.len
 cases p with
 |inn t=>exact⟨[t],dB ((ce a rfl ha).trans rfl),uT c (beq_iff_eq.mp d)⟩
 |out t=>exact⟨[t],bA (bB a (by decide)) (dB ((ce a rfl ha).trans rfl)),uT c (beq_iff_eq.mp d)⟩
 |least k E=>
  obtain⟨ks,e,b⟩:=uS h hn c.1 c.2 ac k
  exact⟨ks,bA (bB a (by decide)) (bA (bB a (by decide)) (dB ((ce a rfl ha).trans (c8 (c7 (aD (am rfl (am (aD rfl (uQ h.nn (by lia) ac)) (am rfl rfl))) e)))))),b⟩
 |most k E=>
  obtain⟨ks,e,b⟩:=uS h hn c.1 c.2 ag _;exact⟨ks,bA (bB a (by decide)) (bA (bB a (by decide)) (bA (bB a (by decide)) ((ce a rfl ha).trans (c8 (c7 (aD (am rfl (am (aD rfl (uQ h.nn (by lia) ag)) (am (ap (aD rfl (HJ E c.2)) rfl jN) rfl))) e)))))),b⟩
def Tn(p:Prt)(c:p.Ok es.length)(l:wo.length=es.length)(h:gQ es ord)(hn:es.length<=60)(i:p.lost es wo=ac)(a:fo M=aa p.obj)(ha:fa M=aa [.lst (es.map shD),.lst (wo.map D.bl),.lst (ord.map D.int)]):
  ∃ks:LI0,ba (aK "In" "lost_by" Ay fo fa) (ba (aK "Out" "lost_by" AF fo fa) (ba (aK "Least" "lost_by" AB fo fa) (aK "Most" "lost_by" AD fo fa))) M=aa (.lst (ks.map D.int))/\uR es ks:=by
 have n:=h.len
 cases p with
 |inn t=>
  have d:=jd c.1 (by rw[l];exact c.2);have i:(_ || wo.getD t.toNat ag)=ac:=i
  cases f:wo.getD t.toNat ag with
  |true=>
   rw[f]at d
   exact⟨[],dB ((ce a rfl ha).trans (c8 (c7 (kM (cI (be rfl rfl d) rfl) (λ_=>rfl) λe=>nomatch e)))),(λk q=>nomatch q),b9 _⟩
  |false=>
   rw[f]at d;rw[f,Bool.or_false]at i
   exact⟨[t],dB ((ce a rfl ha).trans (c8 (c7 (kM (cI (be rfl rfl d) rfl) (λe=>nomatch e) λ_=>rfl)))),uT c (beq_iff_eq.mp i)⟩
 |out t=>exact⟨[t],bA (bB a (by decide)) (dB ((ce a rfl ha).trans rfl)),uT c (beq_iff_eq.mp i)⟩
 |least k E=>
  have m:=fV (λz:Int×Int=>!(wo.getD z.1.toNat ag)) E;have g:InN es.length (E.filter λz=>!(wo.getD z.1.toNat ag)):=λz hz=>c.1 z (cL.mp hz).1;have j:=GL c.1 l c.2;generalize E.filter _=left at m g j;obtain⟨ks,e,b⟩:=uS h hn g (by have:=c.2;lia) ag (g5 (λ_=>ac) left-k+1);refine⟨ks,bA (bB a (by decide)) (bA (bB a (by decide)) (dB ((ce a rfl ha).trans ?_))),b⟩
  exact c8 (tz (Ev (aD rfl j)) (c7 (aD (am rfl (am (aD rfl (uQ h.nn (by lia) ag)) (am (ap (ap (aD rfl (HJ left (by have:=c.2;lia))) rfl jN) rfl fB) rfl))) e)))
 |most k E=>
  obtain⟨ks,e,b⟩:=uS h hn c.1 c.2 ac _;exact⟨ks,bA (bB a (by decide)) (bA (bB a (by decide)) (bA (bB a (by decide)) ((ce a rfl ha).trans (c8 (c7 (aD (am rfl (am (aD rfl (uQ h.nn (by lia) ac)) (am (ap rfl rfl fB) rfl))) e)))))),b⟩
structure rp(es:LOB)(gs:LI0):Prop where
 nn:∀k∈gs,(0<=k/\k<(es.length:Int))/\es.getD k.toNat ab≠ab
 ln:gs.length<=100000
def To{a:Type}(y:a)(l:List a):((y::l).drop (HT.sIx (y::l).length 0 ab)).take (HT.sIx (y::l).length (y::l).length (aa 1)-HT.sIx (y::l).length 0 ab)=[y]:=by
 rfl
variable{es0:LOB}{b c:L2.D}
def Tp(hl:es.length=n)(hn:n<=60)(hm:gn n ms)(pm:ms.Perm (gO C))(h:gQ es ord)(w:GpR n C es ks):
  ∃gs:LI0,o_9 [slf es0 a b c d e B ms,.lst (es.map shD),.lst (ks.map D.int),.lst (ord.map D.int)]=aa (gs.map D.int)/\rp es gs:=by
 subst hl;have ol:=h.len;have kl:=qY w.nd w.nn;have hml:=hm.len
 suffices z:wp b_9 _ (λr=>∃gs:LI0,r=.rtO (gs.map D.int)/\rp es gs) by
  obtain⟨r,e,gs,rfl,h⟩:=z;exact⟨gs,l9 e,h⟩
 apply ak;refine bi (aD (am (aD rfl (dO es shD)) (am rfl rfl)) (GJ es.length ks (by lia) (by lia) (by lia))) ?_;apply ak;have u:∀t:Int,0<=t->t<_->atI ((mkS es.length ks).map D.bl) t=aa _:=λt t0 t1=>jd t0 (by rw[rm];exact t1);refine dW (n4 (bH (eC ord D.int _ D.int rfl (by lia) λt H=>dA rfl (jc (cI (be rfl rfl (u t (h.nn t H).1 (h.nn t H).2)) rfl) (bq (ap (be rfl rfl (iL (h.nn t H).1 (h.nn t H).2)) rfl (nR _ _)))) λ_=>rfl)) rfl rfl) ?_
 obtain⟨f,gl,I,h0⟩:∃f gl,(ord.filter λt=>(mkS es.length ks).getD t.toNat ag && (es.getD t.toNat ab==aa ac))=f::gl/\f∈ord/\f∈ks/\es.getD f.toNat ab=aa ac:=by
  obtain⟨x,hx,ex⟩:=w.i;obtain⟨x0,x1⟩:=w.nn x hx;have E:x∈ord.filter λt=>(mkS es.length ks).getD t.toNat ag && (es.getD t.toNat ab==aa ac):=cL.mpr ⟨h.al x x0 x1 (by rw[ex];exact λq=>nomatch q),by rw[(uO x0 x1).mpr hx,ex];rfl⟩
  cases g:ord.filter _ with
  |nil=>rw[g]at E;nomatch E
  |cons y l=>
   have hy:y∈ord.filter λt=>(mkS es.length ks).getD t.toNat ag && (es.getD t.toNat ab==aa ac):=by rw[g];exact aH
   obtain⟨y1,Q⟩:=cL.mp hy;obtain⟨Q,y3⟩:=(cD _ _).mp Q;obtain⟨z0,z1⟩:=h.nn y y1;exact⟨y,l,rfl,y1,(uO z0 z1).mp Q,beq_iff_eq.mp y3⟩
 rw[I,To];apply ak;refine dh ms mkD (λpre M=>∃(gs:LI0) (L N:Sl),M=[.im _,.im _,.im _,.im _,.im _,.own (gs.map D.int),L,N]/\(∀k∈gs,(0<=k/\k<_)/\es.getD k.toNat ab≠ab)/\gs.length<=1+60*pre.length) rfl ⟨[f],_,_,rfl,(λk A=>by rw[ci.mp A];exact⟨h.nn f h0.1,by rw[h0.2.2];exact λq=>nomatch q⟩),aM _⟩ ?_ ?_
 .rintro pre r post M ex ⟨gs,L,N,rfl,G,h2⟩;have j:r∈ms:=by rw[ex];simp
  have hpl:pre.length<ms.length:=by rw[ex];simp
  have m:=hm.ok r j;obtain⟨T,U⟩:=m.hd (hm.ne r j);refine⟨_,rfl,?_⟩;refine aU (cI (be rfl rfl (u r.hd T U)) rfl) (λz=>?_) λz=>?_
  .have A:=(uO T U).mp z
   cases g:r.ps.find? _ with
   |none=>
    have:=BE (es:=es) (wo:=mkS es.length ks) r;rw[g,(w.up r (pm.mem_iff.mp j) A)]at this
    nomatch this
   |some p=>
    have J:=uZ g;have v:=BD (wo:=mkS es.length ks) r.ps m.ps (rm _ _);rw[g]at v;obtain⟨js,e1,Y⟩:=Tn (M:=[.im _,.im _,.im _,.im _,.im _,.own _,.im _,.im _]) (fo:=au m_5 (af (ae 7) (af (ae 1) (af (ae 4) λ_=>aa [])))) (fa:=af (ae 1) (af (ae 4) (af (ae 3) λ_=>aa []))) p (m.ps p J) (rm _ _) h hn (find?_some g) (aD rfl v) rfl;have:=Y.ln;refine⟨_,Bz e1 rfl (by rw[aB,aB];lia),gs++js,_,_,by rw[bh];rfl,λk A=>?_,?_⟩
    .rcases bP.mp A with q |q
     .exact G k q
     .exact Y.nn k q
    .rw[aR,aR,gS];lia
  .exact bK ⟨gs,_,_,rfl,G,by rw[aR];lia⟩
 .rintro M ⟨gs,L,N,rfl,G,h2⟩;exact l8 rfl ⟨gs,rfl,G,by lia⟩
def Tq{bs:LLP}(hr:∀r∈C,RuK n r)(a:∀b∈bs,dE n b)(hn:n<=60)(y:Wy):(cV C bs y).length<=1001:=by
 obtain⟨z,j⟩:=y
 cases z with
 |true=>
  show(brg (bs.getD j [])).length<=_;unfold brg;rw[aB];have:=(BX a j).len
  lia
 |false=>
  show(((C[j]?).map grd).getD []).length<=_
  cases e:C[j]? with
  |none=>exact b9 _
  |some r=>exact BA (hr r (dF e))
def Ts{bs:LLP}(E:es.length=n)(hn:n<=60)(hr:∀r∈C,RuK n r)(A:∀b∈bs,dE n b)(hm:gn n ms)(pm:ms.Perm (gO C))(h:gQ es ord)(m:Rt n C bs es w):
  ∃gs:LI0,o_4 [slf es0 a b (gdT C bs) d e B ms,.lst (es.map shD),w.D,.lst (ord.map D.int)]=aa (gs.map D.int)/\rp es gs:=by
 suffices z:wp b_4 _ (λr=>∃gs:LI0,r=.rtO (gs.map D.int)/\rp es gs) by
  obtain⟨r,e,gs,rfl,h⟩:=z;exact⟨gs,l9 e,h⟩
 cases w with
 |ch=>exact m.elim
 |wd i=>
  apply ak;refine iS (Oh (am (aD rfl (dO es shD)) rfl) (by lia) (by lia)) ⟨_,rfl,λk c=>?_,by rw[aB,cK];lia⟩
  .obtain⟨j,l,rfl⟩:=aT.mp c;have:=fX.mp l
   exact⟨⟨by lia,by lia⟩,by rw[d4];exact m j (by lia)⟩
 |gp ks=>
  obtain⟨gs,u,g⟩:=Tp E hn hm pm h m;apply ak;refine aU rfl (λz=>nomatch z) λ_=>bK ?_;apply ak;refine iS ?_ ⟨gs,rfl,g⟩;show(if "Seeking"="Seeking" /\ List.contains (spN++(["paper","count","ended"]:LSt)) "grounds_of_group"=ag then (o_9 [slf es0 a b _ d e B ms,_,_,_]).bind λC=>if C.all D.flat then aa C else ab else ab)=_
  rw[if_pos ⟨rfl,rfl⟩,u,ay,if_pos (all_eq_true.mpr λd hd=>by obtain⟨z,_,rfl⟩:=aT.mp hd;rfl)]
 |gd y=>
  obtain⟨L,I⟩:=m;have G:=Tq hr A hn y;have ne:∀t:Str,(wyS y.1==t)=ag->mB (m2 dEq (mIx (aw 2) (kI 0)) (λ_=>aa _)) (fq 6 [slf es0 a b (gdT C bs) d e B ms,.lst (es.map shD),(Wh.gd y).D,.lst (ord.map D.int)])=aa ag:=λt J=>bq (ap rfl rfl (by rw[pU,J]));apply ak
  refine aU (ne "world" (by cases y.1 <;> decide)) (λz=>nomatch z) λ_=>bK ?_
  apply ak
  refine aU (ne "group" (by cases y.1 <;> decide)) (λz=>nomatch z) λ_=>bK ?_
  apply ak;refine dW rfl ?_;apply ak;refine dh _ Prt.obj (λpre M=>∃(gs:LI0) (x:Sl),M=[.im _,.im _,.im _,.im _,.own (gs.map D.int),x]/\(∀k∈gs,(0<=k/\k<es.length)/\es.getD k.toNat ab≠ab)/\gs.length<=60*pre.length) (fu (d:=gdD C bs y) ?_ rfl) ⟨[],_,rfl,(λk c=>nomatch c),aM _⟩ ?_ ?_
  .obtain⟨j,l⟩:=rJ L;show(aQ (wyK y) _).bind _=_;rw[BQ (λ_ _=>BM) (Hj _ _) l,ay,cu,l];rfl
  .rintro pre p post M ex ⟨gs,x,rfl,v,h2⟩;have f:p∈cV C bs y:=by rw[ex];simp
   have H:pre.length<(cV C bs y).length:=by rw[ex];simp
   refine⟨_,rfl,?_⟩;walk_at "nrm";obtain⟨js,u,g⟩:=sure_by (M:=[.im _,.im _,.im (Wh.gd y).D,.im _,.own _,.im p.obj]) (fo:=ae 5) (fa:=af (ae 1) (af (ae 3) λ_=>aa [])) p (by rw[E];exact(uH hr A) p f) h (by lia) (I p f) rfl rfl;have:=g.ln;refine⟨_,Bz u rfl (by rw[aB,aB];lia),gs++js,_,by rw[bh];rfl,λk c=>?_,?_⟩
   .rcases bP.mp c with q |q
    .exact v k q
    .exact g.nn k q
   .rw[aR,aR,gS];lia
  .rintro M ⟨gs,x,rfl,v,h2⟩;exact l8 rfl ⟨gs,rfl,v,by lia⟩
def Tt{a b c:LOB}(f:fw a b)(g:fw b c):fw a c:=⟨g.len.trans f.len,λi=>by
 rcases f.at' i with q |q
 .exact .inl q
 .rcases g.at' i with z |z
  .exact .inl (q.symm.trans z)
  .exact .inr (z.trans q)⟩
def jo{bs:LLP}:∀(B:LSp) {st:LSp},Tr n C bs (B++st)->Tr n C bs st/\fw (b5 n st) (b5 n (B++st))/\∀x∈B,(b5 n st).getD x.1.1.toNat ab=ab
 | [],st,h=>⟨h,fw.refl _,λx b=>nomatch b⟩
 |y::B,st,h=>by
  obtain⟨d,h2⟩:=h;obtain⟨a,f,c⟩:=jo B d;refine⟨a,Tt f (uN h2.t0 h2.op),λx b=>?_⟩
  rcases bm.mp b with e |e
  .rw[e]
   rcases f.at' y.1.1.toNat with q |q
   .exact q
   .rw[<- q];exact k8 h2.op
  .exact c x e
def HK{bs:LLP}:∀{st:LSp},Tr n C bs st->∀t:Int,0<=t->(b5 n st).getD t.toNat ab≠ab->∃x∈st,x.1.1=t
 | [],_,t,_,h=>absurd (by
   show(ik n ab).getD t.toNat ab=ab;rw[cg,rH]
   split <;> rfl) h
 |x::st,h,t,t0,hs=>by
  by_cases e:x.1.1=t
  .exact⟨x,aH,e⟩
  .have:=h.2.t0;rw[b5,mx _ _ (by lia)]at hs;obtain⟨y,a,e⟩:=HK h.1 t t0 hs;exact⟨y,bj _ a,e⟩
variable{x:Stp}
def Ca{bs:LLP}{B:LSp}(h:Tr n C bs (B++x::st)):(b5 n (B++x::st)).getD x.1.1.toNat ab=aa x.1.2:=by
 obtain⟨a,f,_⟩:=jo B h;have:=a.2.t0;have:=a.2.t1;have e:(b5 n (x::st)).getD x.1.1.toNat ab=aa x.1.2:=oF _ _ (by rw[k9];lia)
 rcases f.at' x.1.1.toNat with q |q
 .rw[e]at q;nomatch q
 .rw[q,e]
def rq{bs:LLP}:∀{st:LSp},Tr n C bs st->(st.map (·.1.1)).Nodup
 | [],_=>eW
 |x::st,h=>by
  refine bX.mpr ⟨λq=>?_,rq h.1⟩;obtain⟨y,a,e⟩:=aT.mp q;obtain⟨p,r,rfl⟩:=mL a;have:=Ca h.1;rw[e,k8 h.2.op]at this
  grind
def oJ{bs:LLP}(h:Tr n C bs st)(b:x∈st):0<=x.1.1/\x.1.1<(n:Int):=by
 obtain⟨p,r,rfl⟩:=mL b;obtain⟨a,_,_⟩:=jo p h;exact⟨a.2.t0,a.2.t1⟩
abbrev mE(st:LSp):LI0:=st.reverse.map (·.1.1)
def HL{bs:LLP}(h:Tr n C bs st)(c:es.length=n)(d:∀t:Int,0<=t->es.getD t.toNat ab≠ab->(b5 n st).getD t.toNat ab≠ab):gQ es (mE st):=by
 subst c;unfold mE;refine⟨λt a=>?_,?_,λt t0 t1 a=>?_⟩
 .obtain⟨x,b,rfl⟩:=aT.mp a;exact oJ h (i0.mp b)
 .rw[mM];exact pairwise_reverse.mpr ((rq h).imp λq e=>q e.symm)
 .obtain⟨x,b,e⟩:=HK h t t0 (d t t0 a);exact aT.mpr ⟨x,i0.mpr b,e⟩
abbrev nfF(nd:LB0)(ord:LI0):LI0:=(ord.filter λt=>nd.getD t.toNat ag)++ord.filter λt=>!nd.getD t.toNat ag
def Tu{nd:LB0}(b:∀t∈ord,0<=t/\t<(nd.length:Int))(d:ord.length<=1000):ul [.lst (ord.map D.int),.lst (nd.map D.bl)]=aa (.lst ((nfF nd ord).map D.int)):=by
 have c:=fV (λt:Int=>nd.getD t.toNat ag) ord;have h2:=fV (λt:Int=>!nd.getD t.toNat ag) ord;refine kB ?_;unfold nfF;rw[bh];exact congrArg _ (GH (bH (eC ord D.int _ D.int rfl (by lia) λt a=>dA rfl (cI (be rfl rfl (jd (b t a).1 (b t a).2)) rfl) λ_=>rfl)) (bH (eC ord D.int _ D.int rfl (by lia) λt a=>dA rfl (kG (cI (be rfl rfl (jd (b t a).1 (b t a).2)) rfl)) λ_=>rfl)) (by grind))
def gQ.nf(h:gQ es ord)(nd:LB0):gQ es (nfF nd ord):=by
 have p:(nfF nd ord).Perm ord:=filter_append_perm _ _;exact⟨λt a=>h.nn t (p.mem_iff.mp a),p.nodup_iff.mpr h.nd,λt t0 t1 a=>p.mem_iff.mpr (h.al t t0 t1 a)⟩
nonrec def Ls:=Option Pr×Wh
abbrev prO:Option Pr->D
 |none=>.non
 |some z=>prD z
abbrev dnD(x:Ls):D:=.tup [prO x.1,x.2.D]
structure LnS where
 nd:LB0
 bar:List Pr
 dn:List Ls
 post:LSp
abbrev chs(st:LSp):List Pr:=(st.filter λx=>!x.2.nc).map (·.1)
structure LnI(n:Nat)(C:LRu)(bs:LLP)(st pre:LSp)(q:LnS):Prop where
 sp:st=pre++q.post
 nl:q.nd.length=n
 bl:q.bar.Sublist (chs pre)
 dl:q.dn.length<=pre.length+1
 dt:∀x∈q.dn,∀z,x.1=aa z->∃y∈pre,y.1=z/\y.2.nc=ac
def Cb(h:z∈chs st):∃x∈st,x.1=z/\x.2.nc=ag:=by
 obtain⟨x,c,e⟩:=aT.mp h;obtain⟨a,b⟩:=cL.mp c;exact⟨x,a,e,by simpa using b⟩
def HM(st:LSp):(chs st).length<=st.length:=by
 unfold chs;rw[aB];exact fV _ _
abbrev orS(nd:LB0)(gs:LI0):LB0:=gs.foldl (λnd g=>nd.set g.toNat ac) nd
def Cc:∀(gs:LI0) (nd:LB0),(orS nd gs).length=nd.length
 | [],_=>rfl
 |g::gs,nd=>by
  show(orS _ gs).length=_;rw[Cc gs,il]
def HN{u:LOB}(h:u.getD t.toNat ab=ab):opn u t=ac:=by unfold opn;rw[h];rfl
variable{pre post:LSp}{q:LnS}
def LnI.no{bs:LLP}(h:LnI n C bs st pre q)(e:q.post=x::post):LnI n C bs st (pre++[x]) {q with post:=post}:=by
 refine⟨by rw[h.sp,e,cx];rfl,h.nl,?_,by rw[aR];have:=h.dl;show q.dn.length<=_+1+1;lia,λy c z a=>?_⟩
 .refine h.bl.trans ?_;unfold chs;rw[lr,bh];exact u4 _ _
 .obtain⟨w,b,k⟩:=h.dt y c z a;exact⟨w,da _ b,k⟩
def LnI.ch{bs:LLP}(h:LnI n C bs st pre q)(e:q.post=x::post)(c:x.2.nc=ag):LnI n C bs st (pre++[x]) {q with bar:=q.bar++[x.1],post:=post}:=by
 refine⟨by rw[h.sp,e,cx];rfl,h.nl,?_,by rw[aR];have:=h.dl;show q.dn.length<=_+1+1;lia,λy d z a=>?_⟩
 .unfold chs;rw[lr,bh,rM (by rw[c];rfl)];exact h.bl.append (oU _)
 .obtain⟨w,b,k⟩:=h.dt y d z a;exact⟨w,da _ b,k⟩
variable{gs:LI0}
def LnI.nc{bs:LLP}(h:LnI n C bs st pre q)(e:q.post=x::post)(c:x.2.nc=ac):LnI n C bs st (pre++[x]) ⟨orS q.nd gs,q.bar,q.dn++[(aa x.1,x.2)],post⟩:=by
 refine⟨by rw[h.sp,e,cx];rfl,(Cc _ _).trans h.nl,?_,by rw[aR,aR];have:=h.dl;show _+1<=_+1+1;lia,λy d z a=>?_⟩
 .refine h.bl.trans ?_;unfold chs;rw[lr,bh];exact u4 _ _
 .rcases bP.mp d with m |m
  .obtain⟨w,b,k⟩:=h.dt y m z a;exact⟨w,da _ b,k⟩
  .rw[ci.mp m]at a;cases a;exact⟨x,c9 _ aH,rfl,c⟩
def HP{b L w:Type}{g:D->LS->Option LS}{F:MF3}(f:b->D)(R:L->w->LS->Prop)(J:List b->L->Prop)(all:List b)
 (step:∀pre x post s,all=pre++x::post->J pre s->∃a,J (pre++[x]) a/\∀l M,R s l M->∃ρ1,g (f x) M=aa ρ1/\wp F ρ1 λr=>∃ρ',r=.nx ρ'/\R a l ρ'):∀(B pre:List b) (s:L),all=pre++B->J pre s->∃a,J all a/\∀l M,R s l M->∃ρ',hE g F (B.map f) M=aa (.nx ρ')/\R a l ρ'
 | [],pre,s,e,h=>⟨s,by rw[e,bQ];exact h,λl M r=>⟨M,rfl,r⟩⟩
 |x::B,pre,s,e,h=>by
  obtain⟨s1,n,p⟩:=step pre x B s e h;obtain⟨s2,h2,q⟩:=HP f R J all step B _ s1 (by rw[e,cx];rfl) n;refine⟨s2,h2,λl M r=>?_⟩;obtain⟨ρ1,i,o,j,c,rfl,u⟩:=p l M r;obtain⟨d,m,v⟩:=q l c u;refine⟨d,?_,v⟩;rw[bF,hE,i,ay,j];exact m
def Cd{cn f:Str}{F:MF3}(h:aS cn f (aG i) M=aa (lsO ds,R))(k:wp F (M.set i (.deep (R (.fz (.lst ds))))) K):wp (mq i cn f F) M K:=by
 obtain⟨o,e,q⟩:=k;exact⟨o,by unfold mq;rw[h,ay,uD,ay];exact e,q⟩
abbrev Spt.F(C:LRu)(s:Spt):O:=ic (s.S C).tl [lsO (s.es.map shD),.fz (.lst s.st),lsO (s.bs.map d3),.dT (s.S C).gk ((s.S C).gd.map .fz),wsO (wtW s.tw),lsO (s.wt.map wyD),.fz (.lst (s.ms.map mkD))]
def Tv:cG 0 (.deep (.at l (s.F C))::M)=aa (s.D C):=by
 have k:(s.F C).kn=ac:=by
  unfold Spt.F Spt.S lsO wsO;simp only[List.map,jX,nil_append,O.kn,O.kns,qM,oN];exact B3 _
 have d:(s.F C).toD=s.D C:=by
  unfold Spt.D Spt.F Spt.S Spr.o;simp only[lsO,O.toD,O.toDs,wE,jX]
 show(if (O.at l _).kn=ac then aa (O.at l _).toD else ab)=_;rw[O.kn,k,if_pos rfl,O.toD,d]
def HQ(a:w≠.ch):qG [w.D]=aa w.D:=by
 cases w with
 |ch=>exact absurd rfl a
 |wd i=>rfl
 |gp ks=>rfl
 |gd y=>exact c8 (c7 (kM (b:=ag) (bq (ap rfl rfl (by rw[pU,show(wyS y.1 == "group")=ag by cases y.1 <;> decide]))) (λe=>nomatch e) λ_=>rfl))
def HR{k:Nat}{b:Bool}(h:es.getD k ab=ab)(a:k<es.length):((put es k b).map shD).set k .non=es.map shD:=by
 unfold put;rw[gu,set_set];refine ml ?_;rw[cg,cr a]at h;have h:es[k]=ab:=h;rw[cu,cr a,h];rfl
def Tw{k:Nat}{b c:Bool}:((put es k b).map shD).set k (.bl c)=(put es k c).map shD:=by
 unfold put;rw[gu,set_set,gu];rfl
def HS(b:fo M=aa (s.D C))(ha:fa M=aa [.lst (es.map shD),w.D,.lst (ord.map D.int)])(h:o_4 [s.D C,.lst (es.map shD),w.D,.lst (ord.map D.int)]=aa (gs.map D.int)):gN "Seeking" "grounds" o_4 fo fa M=aa (gs.map D.int):=by
 unfold gN;rw[b,ay];rw[uL C s]at h ⊢;show(if "Seeking"="Seeking" /\ List.contains (spN++(["paper","count","ended"]:LSt)) "grounds"=ag then (fa M).bind λa=>(o_4 (slf s.es _ _ _ _ _ _ s.ms::a)).bind λC=>if C.all D.flat then aa C else ab else ab)=_;rw[if_pos ⟨rfl,rfl⟩,ha,ay,h,ay,if_pos (all_eq_true.mpr λd hd=>by obtain⟨z,_,rfl⟩:=aT.mp hd;rfl)]
variable{c:Nat}
def ground(hr:∀r∈C,RuK n r)(hz:C.length<=1000)(hn:n<=60)(h:SpJ n c U3 C s)(a:es.length=n)(b:gQ es ord)(d:Rt n C s.bs es w):∃gs:LI0,o_4 [s.D C,.lst (es.map shD),w.D,.lst (ord.map D.int)]=aa (gs.map D.int)/\rp es gs:=by
 rw[uL];exact Ts a hn hr h.bk (gn.of hr hz h.ms) h.ms b d
structure lc(n:Nat)(C:LRu)(bs:LLP)(st:LSp)(bar:List Pr)(dn:List Ls):Prop where
 bl:bar.Sublist (chs st.reverse)
 dl:dn.length<=n+1
 dt:∀x∈dn,∀z,x.1=aa z->∃y∈st,y.1=z/\y.2.nc=ac
def rA(h:Tr n C s.bs st):st.length<=n:=by
 have:=qY (rq h) λx a=>by
  obtain⟨y,b,rfl⟩:=aT.mp a;exact oJ h b
 rwa [aB]at this
def Tx(hr:∀r∈C,RuK n r)(hz:C.length<=1000)(hn:n<=60)(h:SpJ n c U3 C s)(t:TrS n C s st)(hw:Rt n C s.bs s.es w):∃(bar:List Pr) (dn:List Ls),(∀l,AQ l [w.D] (s.S C).o=aa (s.F C,.tup [d3 bar,.lst (dn.map dnD)]))/\lc n C s.bs st bar dn:=by
 have hwc:w≠.ch:=λe=>by rw[e]at hw;exact hw
 have tr:=t.tr;have tl:=rA tr;have T:=t.es;have E:=k9 n st;have p:=HL tr E λ_ _ q=>q;have hol:=p.len;rw[T]at hw;obtain⟨gs,e1,e2⟩:=ground hr hz hn h E p hw;have hgl:=e2.ln
 have key:=HP (g:=cN (bp (ax 3) (bp (ax 4) cZ))) (F:=(ai (aY 9 (mIx (aw 3) (kI 0)))
  (ai (bc (df (bz (mIx (aw 6) (ae 9))) (mB (m2 dIs (ae 4) kN))) (c6 7 (ae 3)) (bc (bz (mIx (aw 6) (ae 9))) (ai (c6 8 (bn (af (ae 3) (af (au qG (af (ae 4) nZ)) nZ))))
  (ai (fQ 2 (ae 9) (lU (mIx (aw 3) (kI 1))))
  (bU (aV (aJ (gN "Seeking" "grounds" o_4 _ (af (cG 2) (af (ae 4) (af (au ul (af (ae 5) (af (cG 6) nZ))) nZ)))))) (ax 10) (fQ 6 (ae 10) (kBl ac))))) bC))
  (fQ 2 (ae 9) kN)))) stD (λq l M=>∃L N Q i,M=[.deep (.at l (s.F C)),.im w.D,.own ((b5 n q.post).map shD),L,N,.im (.lst ((mE st).map D.int)),.own (q.nd.map D.bl),.own (q.bar.map prD),.own (q.dn.map dnD),Q,i]) (LnI n C s.bs st) st (by
  rintro pre x post q ex y;have B:=append_cancel_left (y.sp.symm.trans ex);have A:Tr n C s.bs (x::post):=by rw[ex]at tr;exact(jo pre tr).1
  have x0:=A.2.t0;have x1:=A.2.t1;have Y:=k8 A.2.op;have G:=k9 n post;have I:=y.nl;have j:=jd x0 (by rw[I];exact x1);have hun:=HR (b:=x.1.2) Y (by rw[G];lia);have hpl:pre.length<st.length:=by rw[ex];simp
  have hbl:=y.bl.length_le;have hcl:=HM pre;have hdl:=y.dl
  cases U:q.nd.getD x.1.1.toNat ag with
  |false=>
   refine⟨_,y.no B,?_⟩;rintro l M ⟨L,N,Q,i,rfl⟩;rw[U]at j;refine⟨_,rfl,?_⟩;apply ak;refine bi rfl ?_;apply ak;refine aU (b:=ag) ?_ (λz=>nomatch z) λ_=>?_
   .unfold df;rw[cI (be rfl rfl j) rfl];rfl
   .refine aU (cI (be rfl rfl j) rfl) (λz=>nomatch z) λ_=>bK ?_;refine nY rfl rfl rfl x0 (by rw[aB,B,b5,dC,G];exact x1) ⟨_,rfl,.im (prD x.1),.im x.2.D,.im (.int x.1.1),i,?_⟩;rw[B,b5,hun]
    rfl
  |true=>
   rw[U]at j
   cases m:x.2.nc with
   |false=>
    refine⟨_,y.ch B m,?_⟩
    have hxd:x.2.D=.non:=by
     rcases A.2.ok with⟨a,_⟩ |⟨a,_⟩
     .rw[a];rfl
     .rw[a]at m;nomatch m
    rintro l M ⟨L,N,Q,i,rfl⟩;refine⟨_,rfl,?_⟩;rw[hxd];apply ak;refine bi rfl ?_;apply ak;refine aU (jc (cI (be rfl rfl j) rfl) rfl) (λ_=>?_) λz=>nomatch z;refine gc rfl rfl (by rw[aB];lia) ?_;refine nY rfl rfl rfl x0 (by rw[aB,B,b5,dC,G];exact x1) ⟨_,rfl,.im (prD x.1),.im .non,.im (.int x.1.1),i,?_⟩;rw[B,b5,hun,bh]
    rfl
   |true=>
    rcases A.2.ok with⟨a,_⟩ |⟨_,hR⟩
    .rw[a]at m;nomatch m
    have H:(put (b5 n post) x.1.1.toNat (!x.1.2)).length=n:=by rw[dC,G]
    have J:gQ (put (b5 n post) x.1.1.toNat (!x.1.2)) (mE st):=by
     refine HL tr H λu u0 hu=>?_;rw[ex]at tr ⊢;obtain⟨_,f,_⟩:=jo pre tr
     have:(b5 n (x::post)).getD u.toNat ab≠ab:=by
      rw[b5]
      by_cases eu:u=x.1.1
      .rw[eu,oF _ _ (by rw[G];lia)];exact λq=>nomatch q
      .rw[mx _ _ (by lia)]at hu ⊢;exact hu
     rcases f.at' u.toNat with z |z
     .exact absurd z this
     .rw[z];exact this
    obtain⟨js,e3,e4⟩:=ground hr hz hn h H (J.nf q.nd) hR;refine⟨_,y.nc (gs:=js) B m,?_⟩
    have hxn:dIs x.2.D .non=aa (.bl ag):=by
     cases hx2:x.2 with
     |ch=>rw[hx2]at m;nomatch m
     | _=>rfl
    have hxc:x.2≠.ch:=λq=>by rw[q]at m;nomatch m
    rintro l M ⟨L,N,Q,i,rfl⟩;refine⟨_,rfl,?_⟩;apply ak;refine bi rfl ?_;apply ak;refine aU (jc (cI (be rfl rfl j) rfl) (bq (ap rfl rfl hxn))) (λz=>nomatch z) λ_=>?_;refine aU (cI (be rfl rfl j) rfl) (λ_=>?_) λz=>nomatch z;apply ak;refine gc (cP (am rfl (am (aD rfl (HQ hxc)) rfl))) rfl (by rw[aB];lia) ?_;apply ak;refine nY rfl rfl rfl x0 (by rw[aB,B,b5,dC,G];exact x1) ?_;rw[B,b5,Tw];refine dh js D.int (λpre M=>∃v,M=[.deep _,.im _,.own _,.im _,.im _,.im _,.own ((orS q.nd pre).map D.bl),.own _,.own _,.im _,v]) (fu (bH (HS Tv (am rfl (am rfl (am (aD rfl (Tu (by rw[I];exact(λu hu=>by have:=p.nn u hu;rwa [E]at this)) (by lia))) rfl))) e3)) rfl) ⟨_,rfl⟩ ?_ ?_
    .rintro pr g po M exj ⟨v,rfl⟩;obtain⟨⟨g0,g1⟩,_⟩:=e4.nn g (by rw[exj];simp);rw[H]at g1;refine⟨_,rfl,?_⟩;refine nY rfl rfl rfl g0 (by rw[aB,Cc,I];exact g1) ⟨.im (.int g),?_⟩;rw[show D.bl ac=D.bl ac from rfl,<- gu];unfold orS;rw[eJ];rfl
    .rintro M ⟨v,rfl⟩;refine nY rfl rfl rfl x0 (by rw[aB,dC,G];exact x1) ⟨_,rfl,.im (prD x.1),.im x.2.D,.im (.int x.1.1),v,?_⟩;rw[HR Y (by rw[G];lia),bh];rfl) st [] ⟨mkS n gs,[],[(ab,w)],st⟩ rfl ⟨rfl,rm _ _,oU _,aM _,(λx m z ez=>by rw[ci.mp m]at ez;nomatch ez)⟩
 .obtain⟨q,y,kq⟩:=key;refine⟨q.bar.reverse,q.dn.reverse,λl=>?_,?_,?_,?_⟩
  .apply eV;apply ak;refine dW (qL jh) ?_;show wp _ [.deep _,.im w.D,.own (s.es.map shD),.no,.no,.no,.no,.no,.no,.no,.no] _;rw[T];apply ak;refine bi (d:=.lst ((mE st).map D.int)) (bH ?_) ?_
   .show bg 2 [] _ _ _ _ _=_;have:(s.S C).st=st.reverse.map stD:=t.sv;unfold mE;rw[map_map];exact gb st.reverse stD _ ((qL Bv).trans (by rw[this])) (by rw[lq];lia) λx _=>fO rfl rfl rfl
   apply ak;refine dW (d:=(mkS n gs).map D.bl) ?_ ?_
   .have hmk:=GI n gs (by lia) (by lia) (by lia);exact tN (am (aD rfl (dO _ shD)) (am (bH (HS B4 (am rfl (am rfl (am rfl rfl))) e1)) rfl)) (l9 (by rw[E];exact hmk))
   apply ak;refine dW rfl ?_;apply ak;refine dW (am (cP (am rfl (am (aD rfl (HQ hwc)) rfl))) rfl) ?_;apply ak;refine Cd Bv ?_;obtain⟨ρ',e5,L,N,Q,i,rfl⟩:=kq l _ ⟨_,_,_,_,rfl⟩;refine⟨.nx [.deep (.at l (s.F C)),.im w.D,.own ((b5 n q.post).map shD),L,N,.im (.lst ((mE st).map D.int)),.own (q.nd.map D.bl),.own (q.bar.map prD),.own (q.dn.map dnD),Q,i],?_,?_⟩
   .show(kX _ _).bind _=_;rw[N5 (am ((jR rfl).trans (by show aa (D.lst s.st)=_;rw[t.sv])) rfl),ay,lp];exact e5
   .refine iW ?_ ⟨_,rfl,rfl,rfl⟩;refine cP (am (bH ?_) (am (bH ?_) rfl))
    .show aa (q.bar.map prD).reverse=_;rw[mM]
    .show aa (q.dn.map dnD).reverse=_;rw[mM]
  .unfold chs;have:=y.bl.reverse;unfold chs at this
   rwa [<- mM,<- filter_reverse]at this
  .rw[lq];have:=y.dl;lia
  .intro x m z ez;exact y.dt x (i0.mp m) z ez
nonrec def Qn(i:Nat)(S:LSp):List (Nat×Stp):=(eE i S).filter λp=>!p.2.2.nc
def mF(x:Stp)(S:LSp):chs (x::S)=if x.2.nc then chs S else x.1::chs S:=by
 unfold chs;rw[filter_cons]
 cases x.2.nc <;> rfl
def Ce:∀(S:LSp) (i j:Nat) (p:Nat×Stp),(Qn i S)[j]?=aa p->∃A U3,S=A++p.2::U3/\p.1=i+A.length/\chs A=(chs S).take j/\chs (p.2::U3)=(chs S).drop j/\p.2.2.nc=ag
 | [],_,_,_,h=>by cases h
 |x::S,i,j,p,h=>by
  have h:((_::eE _ S).filter λp=>!p.2.2.nc)[j]?=aa p:=h;rw[filter_cons]at h
  cases f:x.2.nc with
  |true=>
   rw[if_neg (by simp[f])]at h;obtain⟨A,U3,a,b,c,d,e⟩:=Ce S _ j p h;refine⟨x::A,U3,by rw[a];rfl,by simp only[b,bO];lia,?_,?_,e⟩
   .simp only[mF,mF,if_pos f,if_pos f];exact c
   .rw[mF x,if_pos f];exact d
  |false=>
   rw[if_pos (by simp[f])]at h
   cases j with
   |zero=>
    cases h
    exact⟨[],S,rfl,rfl,rfl,rfl,f⟩
   |succ j=>
    obtain⟨A,U3,a,b,c,d,e⟩:=Ce S _ j p h;refine⟨x::A,U3,by rw[a];rfl,by simp only[b,bO];lia,?_,?_,e⟩
    .rw[mF,mF,if_neg (by rw[f];exact bx),if_neg (by rw[f];exact bx),c];rfl
    .rw[mF x,if_neg (by rw[f];exact bx),d];rfl
def HU:∀(S:LSp) (i:Nat),(Qn i S).map (·.2.1)=chs S
 | [],_=>rfl
 |x::S,i=>by
  have a:=HU S (i+1);show((_::eE _ S).filter λp=>!p.2.2.nc).map _=_;rw[filter_cons,mF]
  grind
def HV(z y:Pr):isE (prD y) (prD z)=decide (z=y):=by
 unfold isE;rw[show deq 19 _ _=aa (z.1==y.1 && (z.2==y.2 && ac))from rfl]
 grind
def Tz{a b:List Pr}{y:Pr}(h:y∉a):gh (.lst ((a++y::b).map prD)) (prD y)=aa (.int (a.length:Nat)):=by
 have ha:cU (prD y) ((a++y::b).map prD)=aa ac:=by
  have:=G7 y (a++y::b);replace this:((cU _ _).map D.bl)=_:=this
  simp_all
 show(if cU _ _=aa ac then aa _ else ab)=_;rw[if_pos ha];clear ha
 congr 3
 induction a with
 |nil=>rw[nil_append,bF,oT,HV,decide_eq_true rfl];rfl
 |cons z a c=>
  rw[jX,bF,oT,HV,decide_eq_false (λe=>h (by grind))]
  grind
structure rB(S:LSp)(bar:List Pr)(A:LSp)(c:Stp)(U3:LSp):Prop where
 e:S=A++c::U3
 nc:c.2.nc=ag
 br:∃b0 z,bar=b0++[z]/\b0.Sublist (chs A)/\z∈chs (c::U3)/\(b0=[]->chs A=[])/\∀y,b0.getLast?=aa y->∃A',chs A=A'++[y]
def TB(a:List Pr)(y z:Pr):atI ((a++[y]++[z]).map prD) (-2)=aa (prD y):=by
 have b:((a++[y]++[z]).map prD).length=a.length+2:=by simp
 unfold atI;rw[show ixN ((a++[y]++[z]).map prD).length (-2)=aa a.length by rw[b];unfold ixN;rw[if_neg (by lia)];simp;lia];simp
variable{S:LSp}{bar:List Pr}
def TC(U:s.st=S.map stD)(hok:∀x∈S,x.2=.ch\/x.2.nc=ac)(hl:S.length<=1000)(nd:(chs S).Nodup)(G:bar.Sublist (chs S))(I:bar≠[]):∃A c U3,rB S bar A c U3/\∀l,AS l [d3 bar] (s.F C)=aa (s.F C,.int (A.length:Nat)):=by
 have Q:=HU S 0;have hql:(Qn 0 S).length=(chs S).length:=by rw[<- Q,aB]
 have hcl:=HM S
 obtain⟨j,hj,b0,z,a,h1,h2,h3,h4,h5⟩:∃j,j<(chs S).length/\∃b0 z,bar=b0++[z]/\b0.Sublist ((chs S).take j)/\z∈(chs S).drop j/\(b0=[]->(chs S).take j=[])/\(∀y,b0.getLast?=aa y->∃A',(chs S).take j=A'++[y])/\∀M:LS,M[1]?=aa (.im (d3 bar))->M[3]?=aa (.im (.lst ((chs S).map prD)))->vIf (mB (m2 dEq (au bJ (af (ae 1) nZ)) (kI 1))) (kI 0) (m2 dN (m2 gh (ae 3) (mIx (aw 1) (m1 pJ (kI 2)))) (kI 1)) M=aa (.int (j:Nat)):=by
  have v1:∀M:LS,M[1]?=aa (.im (d3 bar))->ae 1 M=aa (d3 bar):=λM e=>by unfold ae;rw[e]
  have v3:∀M:LS,M[3]?=aa (.im (.lst ((chs S).map prD)))->ae 3 M=aa (.lst ((chs S).map prD)):=λM e=>by unfold ae;rw[e]
  have c1:∀M:LS,M[1]?=aa (.im (d3 bar))->aw 1 M=aa (bar.map prD):=λM e=>by unfold aw;rw[e];rfl
  obtain⟨b0,z,a⟩:∃b0 z,bar=b0++[z]:=⟨_,_,(dropLast_concat_getLast I).symm⟩
  cases B:b0.getLast? with
  |none=>
   have e0:b0=[]:=getLast?_eq_none_iff.mp B;subst e0;have hz:z∈chs S:=G.subset (by rw[a];simp);refine⟨0,length_pos_of_mem hz,[],z,a,nil_sublist _,hz,λ_=>rfl,(λy hy=>nomatch hy),λM n r=>?_⟩
   exact kM (b:=ac) (bq (ap (aD (am (v1 M n) rfl) (dO bar prD)) rfl (by rw[a];rfl))) (λ_=>rfl) λq=>nomatch q
  |some y=>
   obtain⟨m,e0⟩:∃m,b0=m++[y]:=by
    obtain⟨m,rfl⟩:=getLast?_eq_some_iff.mp B;exact⟨m,rfl⟩
   subst e0;rw[a]at G;obtain⟨C1,w,hC,s1,s2⟩:∃r1 r2,chs S=r1++r2/\(m++[y]).Sublist r1/\[z].Sublist r2:=append_sublist_iff.mp G;obtain⟨g,D2,hD,s3,s4⟩:=append_sublist_iff.mp s1;obtain⟨h,N,rfl⟩:=mL (singleton_sublist.mp s4);have f:chs S=(g++h)++y::(N++w):=by rw[hC,hD];simp
   have J:y∉g++h:=λq=>by
    rw[f]at nd;exact(fW.mp nd).2.2 y q y aH rfl
   have htk:(chs S).take ((g++h).length+1)=(g++h)++[y]:=by rw[f,take_append,oO (by lia)];simp
   have H:(chs S).drop ((g++h).length+1)=N++w:=by rw[f,drop_append,drop_of_length_le (by lia)];simp
   refine⟨(g++h).length+1,?_,m++[y],z,a,?_,?_,(λq=>by simp at q),(λu Y=>⟨g++h,?_⟩),λM n r=>?_⟩
   .rw[f];have:=length_pos_of_mem (singleton_sublist.mp s2);simp;lia
   .rw[htk];exact(s3.trans (u4 _ _)).append (oU _)
   .rw[H];exact c9 _ (singleton_sublist.mp s2)
   .rw[htk];rw[getLast?_concat]at Y;cases Y;rfl
   .have E:dEq (.int (bar.length:Nat)) (.int 1)=aa (.bl ag):=by
     rw[jK,a];simp;lia
    refine kM (b:=ag) (bq (ap (aD (am (v1 M n) rfl) (dO bar prD)) rfl E)) (λq=>nomatch q) λ_=>?_;refine(ap (ap (v3 M r) (be (c1 M n) rfl (by rw[a];exact TB m y z)) (by rw[f];exact Tz J)) rfl fB).trans ?_
    congr 2
 obtain⟨p,v⟩:∃p,(Qn 0 S)[j]?=aa p:=⟨_,cr (by lia)⟩;obtain⟨A,B',n,e2,r,e4,e5⟩:=Ce S 0 j p v;refine⟨A,p.2,B',⟨n,e5,b0,z,a,by rw[r];exact h1,by rw[e4];exact h2,(by rw[r];exact h3),by rw[r];exact h4⟩,λl=>?_⟩;apply eV;apply ak;have L:pD (aS "Seeking" "steps" (aG 0)) [.deep (.at l (s.F C)),.im (d3 bar),.no,.no]=aa (.lst (S.map stD)):=(jR rfl).trans (by rw[U]);refine bi (d:=.lst ((Qn 0 S).map λp=>.int (p.1:Nat))) (bH (eC (eE 0 S) (λp=>D.tup [.int p.1,stD p.2]) _ _ (by rw[<- rh];exact uw (am L rfl)) (by rw[uK];lia) λp v=>?_)) ?_
 .refine dA rfl (bq (ap rfl rfl ?_)) λ_=>rfl;have hx:=hok p.2 (dF (jU v));show dIs p.2.2.D .non=_
  cases e:p.2.2 with
  |ch=>rfl
  |gd y=>rfl
  |gp ks=>rfl
  |wd i=>rw[e]at hx;rcases hx with q |q <;> nomatch q
 apply ak;refine bi (d:=.lst ((chs S).map prD)) (bH ?_) ?_
 .rw[<- Q,map_map];refine gb (Qn 0 S) (λp=>D.int (p.1:Nat)) _ rfl (by lia) λp v=>fO rfl rfl ?_;have T:=jU (cL.mp v).1;have hlt:=(cR.mp T).1;refine be (fu (d:=stD p.2) (be (fu (d:=.lst (S.map stD)) ((jR rfl).trans (by rw[U])) rfl) rfl ?_) rfl) rfl rfl;rw[kE ((0,ac),.ch) (by lia) (by lia),d4,cg,T];rfl
 refine iW (d:=.int (A.length:Nat)) (be rfl (h5 _ rfl rfl) ?_) ⟨_,rfl,rfl,rfl⟩;rw[kE (0,((0,ac),.ch)) (by lia) (by lia),d4,cg,v];show aa (D.int (p.1:Nat))=_;rw[e2,mP]
abbrev clr(es:LOB)(B:LSp):LOB:=B.foldl (λes x=>es.set x.1.1.toNat ab) es
def HW:∀(B:LSp) (es:LOB),(clr es B).length=es.length
 | [],_=>rfl
 |x::B,es=>by
  show(clr _ B).length=_;rw[HW B,il]
def HX{t:Nat}{b:Bool}:∀(B:LSp) (es:LOB),(∀x∈B,x.1.1.toNat≠t)->clr (put es t b) B=put (clr es B) t b
 | [],_,_=>rfl
 |x::B,es,h=>by
  show clr ((put es t b).set _ _) B=put (clr _ B) t b;rw[<- HX B _ λy a=>h y (bj _ a)];unfold put;rw[set_comm _ _ (h x aH).symm]
def HY{n:Nat}{C:LRu}{bs:LLP}{st:LSp}:∀B:LSp,Tr n C bs (B++st)->clr (b5 n (B++st)) B.reverse=b5 n st
 | [],_=>rfl
 |y::B,h=>by
  have c:=h.2.t0;have d:=h.2.t1;rw[iZ];unfold clr;rw[eJ];show(clr (put (b5 n (B++st)) y.1.1.toNat y.1.2) B.reverse).set _ ab=_;rw[HX _ _ λx a e=>?_,(HY B h.1)]
  .unfold put;rw[set_set];refine ml ?_;have e:=(jo _ h).2.2 y aH;have b:y.1.1.toNat<(b5 n st).length:=by rw[k9];lia
   rw[cg,cr b]at e;rw[cr b];exact congrArg aa e
  .have a:=i0.mp a;have:=oJ h.1 (da st a);refine(bX.mp (rq h)).1 (aT.mpr ⟨x,da _ a,?_⟩);show x.1.1=y.1.1;lia
def TD{f:Xe}{g:Xa}{a:LS}(h:f M=aa (d,ρ1))(h':g ρ1=aa (ds,a)):bE f g M=aa (d::ds,a):=by
 unfold bE
 grind
abbrev Spt.bk(n:Nat)(s:Spt)(A:LSp):Spt:={s with es:=b5 n A.reverse,st:=A.map stD,wt:=[]}
variable{A U5:LSp}
def TF(tr:Tr n C s.bs (A++U5).reverse)(f:s.st=(A++U5).map stD)(b:s.es=b5 n (A++U5).reverse)(l:Addr):AU l [.int (A.length:Nat)] (s.F C)=aa (((s.bk n A).S C).o,.non):=by
 have h:((A++U5).drop (HT.sIx (A++U5).length 0 (aa A.length))).take (HT.sIx (A++U5).length (A++U5).length ab-HT.sIx (A++U5).length 0 (aa A.length))=U5:=by
  rw[HT.sIx_nat,HT.sIx_none,aR,show min A.length _=A.length by lia,drop_left' rfl,show A.length+U5.length-A.length=U5.length by lia,take_length]
 have i:((A++U5).drop (HT.sIx (A++U5).length 0 ab)).take (HT.sIx (A++U5).length (A++U5).length (aa A.length)-HT.sIx (A++U5).length 0 ab)=A:=by
  rw[HT.sIx_nat,HT.sIx_none,aR,show min A.length _=A.length by lia,drop_zero,Nat.sub_zero,take_left' rfl]
 rw[rP]at tr b;have a:=HY U5.reverse tr;rw[lp,<- b]at a;have c:s.es.length=n:=by rw[b,k9]
 apply eV;apply ak
 refine dh U5 stD (λpre M=>∃d e,M=[.deep (.at l (({s with es:=clr s.es pre}:Spt).F C)),.im _,d,e]) (fu (bH ((n4 ((jR rfl).trans (by rw[f])) rfl rfl).trans (by rw[h]))) rfl) ⟨_,_,rfl⟩ ?_ ?_
 .rintro pre y post M ex ⟨d,e,rfl⟩;have g:=oJ tr (da A.reverse (i0.mpr (by rw[ex];simp:y∈U5)));refine⟨_,rfl,?_⟩;refine Hu rfl rfl rfl g.1 (by rw[aB,HW,c];exact g.2) ⟨.im (prD y.1),.im y.2.D,?_⟩;have j:clr s.es (pre++[y])=(clr s.es pre).set y.1.1.toNat ab:=by unfold clr;rw[eJ];rfl
  rw[j];unfold Spt.F;rw[gu];rfl
 .rintro M ⟨d,e,rfl⟩;rw[a];apply ak;refine gj (x:=lsO (A.map stD)) ?_ rfl rfl ?_
  .refine mw ((n4 ((jR rfl).trans ?_) rfl rfl).trans (by rw[i]));rw[f]
  exact gj (mw rfl) rfl rfl ⟨_,rfl,rfl,rfl⟩
abbrev lnD(bar:List Pr)(dn:List Ls):D:=.tup [d3 bar,.lst (dn.map dnD)]
abbrev Spt.ln(s:Spt)(bar:List Pr)(dn:List Ls):Spt:={s with pp:=s.pp++[lnD bar dn]}
def Cf(tr:Tr n C s.bs st)(a:bar.Sublist (chs st.reverse)):dE n bar:=by
 refine⟨λz hz=>?_,?_⟩
 .obtain⟨y,c,e,_⟩:=Cb (a.subset hz);rw[<- e];exact oJ tr (i0.mp c)
 .refine(a.map (·.1)).nodup ?_;unfold chs;rw[map_map];have b:(st.reverse.map (·.1.1)).Nodup:=by rw[mM];exact pairwise_reverse.mpr ((rq tr).imp λq e=>q e.symm)
  exact(oQ.map _).nodup b
inductive ClO(n:Nat)(C:LRu)(s:Spt)(st:LSp):O->Prop
 |fin {dn:List Ls}:lc n C s.bs st [] dn->ClO n C s st (({s.ln [] dn with en:=ac}:Spt).F C)
 |bk {bar:List Pr} {dn:List Ls} {A U5:LSp} {x:Stp}:lc n C s.bs st bar dn->rB st.reverse bar A x U5->ClO n C s st (((((s.ln bar dn).bk n A).bar bar).S C).o)
variable{c0:Nat}
def TH(hr:∀r∈C,RuK n r)(hz:C.length<=1000)(hn:n<=60)(h:SpJ n c U3 C s)(f:dR c0 C.length s.bs s.tw)(B:c0+3840<16777216)(v:s.bs.length<=60000)(E:s.pp.length<=60000)(t:TrS n C s st)(G:Rt n C s.bs s.es w):∃o,(∀l,oz l [w.D] (s.S C).o=aa (o,.non))/\ClO n C s st o:=by
 obtain⟨bar,dn,g,k⟩:=Tx hr hz hn h t G;have tl:=rA t.tr;have tr:=t.tr
 by_cases j:bar=[]
 .subst j;refine⟨_,λl=>?_,.fin k⟩;apply eV;apply ak;refine iY (eU rfl rfl (dk rfl rfl) rfl (g l)) ?_;apply ak;refine qN rfl rfl (by lia) ?_;exact aU rfl (λq=>nomatch q) λ_=>(gj (qP rfl) rfl rfl ⟨_,rfl,rfl,rfl⟩)
 .have d:=t.sv
  obtain ⟨A,x,U5,pk,m⟩:=TC (s:=s.ln bar dn) d (λy H=>by
   obtain⟨p,r,u⟩:=mL (i0.mp H);rw[u]at tr
   rcases(jo p tr).1.2.ok with⟨a,_⟩ |⟨a,_⟩
   .grind
   .exact .inr a) (by grind) ((Cf tr (oU _)).pd) k.bl j
  have i:st=(A++x::U5).reverse:=by rw[<- pk.e,lp]
  refine⟨_,λl=>?_,.bk k pk⟩;apply eV;apply ak;refine iY (eU rfl rfl (dk rfl rfl) rfl (g l)) ?_;apply ak;refine qN rfl rfl (by lia) ?_;refine aU (b:=ac) (cI (be rfl rfl rfl) ?_) (λ_=>?_) λq=>nomatch q
  .cases bar with
   |nil=>grind
   |cons z b=>rfl
  apply ak;refine iX (eU rfl rfl (ρ1:=[.deep _,.im w.D,.im (lnD bar dn)]) ?_ rfl (TF (s:=s.ln bar dn) (by rw[<- i];exact tr) (by rw[<- pk.e];exact d) (by rw[<- i];exact t.es) l)) ?_
  .exact TD (eU rfl rfl (dk rfl rfl) rfl (m l)) rfl
  refine iX (eU rfl rfl (dk rfl rfl) rfl (SN _ bar f B h.bk (Cf tr k.bl) hn (by show C.length+s.bs.length<_;lia) (by show 0<_;lia))) ⟨_,rfl,rfl,rfl⟩
abbrev dg:D->Nat
 |.tup [_,.non]=>1
 | _=>2
abbrev vl:Nat->LD->Nat
 | 0,_=>0
 | _+1,[]=>0
 |k+1,d::ds=>dg d*3 ^ k+vl k ds
def HZ(d:D):1<=dg d/\dg d<=2:=by unfold dg;split <;> exact⟨by decide,by decide⟩
def rC:∀(k:Nat) (ds:LD),vl k ds<3 ^ k
 | 0,_=>Nat.one_pos
 |k+1,[]=>Nat.pow_pos (by decide)
 |k+1,d::ds=>by
  have a:=rC k ds;have h2:=rT (3 ^ k) (HZ d).2;simp only[vl,Nat.pow_succ]
  lia
def H9:∀(k:Nat) (a:LD) (d:D) (b:LD),a.length<k->vl k a<vl k (a++d::b)
 | 0,_,_,_,h=>absurd h (jY _)
 |k+1,[],d,b,_=>by
  have c:=rT (3 ^ k) (HZ d).1;have h2:0<3 ^ k:=Nat.pow_pos (by decide);show 0<dg d*3 ^ k+vl k b
  lia
 |k+1,e::a,d,b,h=>Nat.add_lt_add_left (H9 k a d b (Nat.lt_of_succ_lt_succ h)) _
def Ia:∀(k:Nat) (a:LD) (x y:D) (b c:LD),a.length<k->dg x=1->dg y=2->vl k (a++x::b)<vl k (a++y::c)
 | 0,_,_,_,_,_,h,_,_=>absurd h (jY _)
 |k+1,[],x,y,b,c,_,hx,hy=>by
  have d:=rC k b;show dg x*3 ^ k+vl k b<dg y*3 ^ k+vl k c;rw[hx,hy]
  lia
 |k+1,e::a,x,y,b,c,h,hx,hy=>Nat.add_lt_add_left (Ia k a x y b c (Nat.lt_of_succ_lt_succ h) hx hy) _
abbrev bd(C:LRu)(U5:Nat)(s:Spt):OD×Spt:=stF C U5 (Me U5 s+1) s
abbrev nv(n:Nat)(C:LRu)(U5:Nat)(s:Spt):Nat:=vl n (bd C U5 s).2.st
structure Hd(n c0 U5 U3:Nat)(C:LRu)(s:Spt)(st:LSp):Prop where
 J:SpJ n U5 U3 C s
 tw:dR (c0+3840*s.bs.length) C.length s.bs s.tw
 t:TrS n C s st
 pp:s.pp.length=s.bs.length
 en:s.en=ag
 nb:s.bs.length<=nv n C U5 s
structure Par(n c0 U5 U3:Nat)(C:LRu):Prop where
 hr:∀r∈C,RuK n r
 hz:C.length<=250
 hn:n<=60
 hC:c0+3840*3 ^ n<=U5
 hB:n*(U5+1)+n+C.length+3<=U3
 h2:U3+U5<16777216
structure Se(n c0 U5 U3:Nat)(C:LRu)(s s1:Spt)(st st1:LSp):Prop where
 J:SpJ n U5 U3 C s1
 t:TrS n C s1 st1
 xt:∃xt,st1=xt++st/\∀x∈xt,x.2.nc=ac
 bs:s1.bs=s.bs
 tw:s1.tw=s.tw
 pp:s1.pp=s.pp
 ct:s1.ct=s.ct
 en:s1.en=s.en
variable{U5:Nat}
def Hd.se(P:Par n c0 U5 U3 C)(h:Hd n c0 U5 U3 C s st):∃st1,Se n c0 U5 U3 C s (bd C U5 s).2 st st1/\∀w,(bd C U5 s).1=aa w->∃wh:Wh,w=wh.D/\wh.nc=ac/\Rt n C s.bs (bd C U5 s).2.es wh:=by
 have hz:=P.hz;have a:=HC P.hr (by lia) _ s h.J (dq _);obtain⟨⟨xt,g,i⟩,b,c,d,e,f⟩:=uP P.hr (by lia) P.hn _ s h.J (rn P.hr _ _ h.J (TrM.refl h.t));exact⟨_,⟨a.ok,g,⟨xt,rfl,i⟩,a.bs,b,c,d,e⟩,f⟩
def TJ(P:Par n c0 U5 U3 C)(h:Hd n c0 U5 U3 C s st)(l:Addr):qI l [] (s.S C).o=aa (((bd C U5 s).2.S C).o,(bd C U5 s).1.getD .non):=by
 have hz:=P.hz;have mB:=h.J.mB;have h2:=P.h2;exact Td P.hr (by lia) P.hn P.h2 h.J (dq _) (by show gP s.es*_+s.wt.length+1<_;lia)
def Ib{b:List Pr}{bs:LLP}:∀{st:LSp},Tr n C bs st->Tr n C (bs++[b]) st
 | [],_=>trivial
 |x::st,h=>by
  refine⟨Ib h.1,h.2.t0,h.2.t1,h.2.op,?_⟩
  rcases h.2.ok with q |⟨q1,q2⟩
  .exact .inl q
  .refine .inr ⟨q1,?_⟩
   cases c:x.2 with
   |ch=>rw[c]at q2;exact q2
   |wd i=>rw[c]at q2;exact q2
   |gp ks=>rw[c]at q2;exact q2
   |gd y=>
    rw[c]at q2;obtain⟨f,d⟩:=q2;have hm:=jk.mp f;obtain⟨a,j⟩:=y
    cases a with
    |false=>exact⟨jk.mpr hm,d⟩
    |true=>
     refine⟨jk.mpr (by show j<(bs++[b]).length;rw[aR];lia),?_⟩
     have e:cV C (bs++[b]) (ac,j)=cV C bs (ac,j):=by
      show brg _=brg _;rw[BY,if_neg (by lia)]
     rw[e];exact d
def Ic(P:Par n c0 U5 U3 C)(t:TrS n C s st)(bk:∀b∈s.bs,dE n b)(tw:dR U5 C.length s.bs s.tw)(wv:∀y∈s.wt,y∈gys C.length s.bs.length)(ms:s.ms.Perm (gO C))(wl:s.wt.length<=C.length+1):SpJ n U5 U3 C s:=by
 have hB:=P.hB;have f:=SR s.es;have c:s.es.length=n:=by rw[t.es,k9]
 have tl:=rA t.tr;have hm:gP s.es*_<=n*(U5+1):=rT _ (by lia);refine⟨c,bk,tw,wv,ms,by lia,by rw[t.sv,aB,lq];lia,λd hd=>?_⟩;rw[t.sv]at hd;obtain⟨x,a,rfl⟩:=aT.mp hd;have a:=i0.mp a;obtain⟨p,r,e⟩:=mL a;refine⟨x.1,x.2.D,rfl,oJ t.tr a,?_⟩;rw[t.es,e];exact Ca (by rw[<- e];exact t.tr)
variable{b0:List Pr}
def TK(g:es.length=n)(f:dE n bar)(e:bar=b0++[z])(m:∀y∈bar,y.2=ac)(i:∀y∈b0,es.getD y.1.toNat ab=aa ac)(hz:es.getD z.1.toNat ab=ab):∃p ps,prs (brg bar) es=aa (p::ps):=by
 have j:∀p∈brg bar,p.Ok es.length:=λp b=>by rw[g];exact(q9 f p b).1
 have br:∀y∈bar,brP y=.inn y.1:=λy c=>by unfold brP;rw[m y c];rfl
 have a:z∈bar:=by rw[e];simp
 have h:=f.nn z a
 cases b:prs _ es with
 |none=>
  have:=Hw b _ (aT.mpr ⟨z,a,rfl⟩);rw[br z a]at this;have this:(es.getD z.1.toNat ab==aa ac)=ac:=this;rw[hz]at this
  nomatch this
 |some l=>
  obtain⟨_,h2,_⟩:=rb j b
  have:_∈l:=(h2 (z.1,ag)).mpr ⟨⟨h.1,by rw[g];exact h.2⟩,HN hz,λp b=>by
   obtain⟨y,c,rfl⟩:=aT.mp b;rw[br y c];show((put es z.1.toNat ac).getD y.1.toNat ab==aa ac)=ac
   by_cases d:y.1.toNat=z.1.toNat
   .rw[d,oF es ac (by lia)];rfl
   .rw[mx es ac d]
    have:y∈b0:=by
     rw[e]at c
     rcases bP.mp c with q |q
     .exact q
     .exact absurd (by rw[ci.mp q]) d
    rw[i y this];rfl⟩
  cases l with
  |nil=>nomatch this
  |cons p ps=>exact⟨p,ps,rfl⟩
def Ie{bs:LLP}(tr:Tr n C bs st){y:Pr}(d:y∈chs st.reverse):y.2=ac/\(b5 n st).getD y.1.toNat ab=aa ac:=by
 obtain⟨x,c,e,hn⟩:=Cb d;obtain⟨p,r,rfl⟩:=mL (i0.mp c);have b:=Ca tr
 rcases(jo p tr).1.2.ok with⟨_,a,_⟩ |⟨a,_⟩
 .rw[e]at a b;rw[a]at b;exact⟨a,b⟩
 .rw[a]at hn;nomatch hn
structure Clo(n:Nat)(s1 s2:Spt)(bar:List Pr)(dn:List Ls)(A:LSp):Prop where
 es:s2.es=b5 n A.reverse
 sv:s2.st=A.map stD
 bs:s2.bs=s1.bs++[bar]
 tw:s2.tw=ig (ac,s1.bs.length) (brg bar) (qZ s1.bs s1.tw bar)
 wt:s2.wt=[(ac,s1.bs.length)]
 ms:s2.ms=s1.ms
 pp:s2.pp=s1.pp++[lnD bar dn]
 en:s2.en=s1.en
variable{s2:Spt}{T st1:LSp}{dn:List Ls}
def TL(P:Par n c0 U5 U3 C)(h:Hd n c0 U5 U3 C s st)(e:Se n c0 U5 U3 C s (bd C U5 s).2 st st1)(k:lc n C s.bs st1 bar dn)(p:rB st1.reverse bar A x T)(q:Clo n (bd C U5 s).2 s2 bar dn A):Hd n c0 U5 U3 C s2 A.reverse/\nv n C U5 s<nv n C U5 s2:=by
 have hn:=P.hn;have hz:=P.hz;have hC:=P.hC
 have er:st1=T.reverse++x::A.reverse:=by
  have:=congrArg List.reverse p.e;rw[lp,rP,iZ,cx]at this;exact this
 have c:=e.t.tr;rw[e.bs]at c;have g:Tr n C s.bs (x::A.reverse):=by rw[er]at c;exact(jo _ c).1
 have bk:=Cf c k.bl;have G:TrS n C s2 A.reverse:=⟨by rw[q.sv,lp],q.es,by rw[q.bs,e.bs];exact Ib g.1⟩;have hnv:=rC n (bd C U5 s).2.st;have hnb:s.bs.length<=vl n (bd C U5 s).2.st:=h.nb;have j:s2.bs.length=s.bs.length+1:=by rw[q.bs,e.bs,aR];rfl
 have i:dR (c0+3840*s.bs.length+3840) C.length s2.bs s2.tw:=by
  have:=(h.tw.dropped (λb I=>(h.J.bk b I).pd) bar).bar bk hn;rw[q.bs,q.tw,e.bs,e.tw];exact this
 have L:SpJ n U5 U3 C s2:=by
  refine Ic P G (λb I=>?_) ⟨i.wk.le (by lia),i.vl,i.br⟩ (λy f=>?_) (by rw[q.ms];exact e.J.ms) (by rw[q.wt];show 1<=_;lia)
  .rw[q.bs,e.bs]at I
   rcases bP.mp I with z |z
   .exact h.J.bk b z
   .rw[ci.mp z];exact bk
  .rw[q.wt]at f;rw[ci.mp f];exact jk.mpr (by show _<s2.bs.length;rw[q.bs,aR];exact dq _)
 have r:nv n C U5 s<nv n C U5 s2:=by
  obtain⟨b0,z,eb,M,U,_,_⟩:=p.br;have B:∀y∈bar,y.2=ac:=λy f=>(Ie c (k.bl.subset f)).1;have m:=k9 n A.reverse;have h0:∀y∈b0,s2.es.getD y.1.toNat ab=aa ac:=λy f=>by rw[q.es];exact(Ie g.1 (by rw[lp];exact M.subset f)).2
  have Y:s2.es.getD z.1.toNat ab=ab:=by
   obtain⟨y,f,ey,_⟩:=Cb U;have tr2:Tr n C s.bs ((T.reverse++[x])++A.reverse):=by rw[cx];rw[er]at c;exact c
   rw[q.es,<- ey];refine(jo _ tr2).2.2 y ?_
   rcases bm.mp f with u |u
   .rw[u];simp
   .simp[u]
  obtain⟨d,ps,N⟩:=TK (by rw[q.es,m]) bk eb B h0 Y
  have hg:cV C s2.bs (ac,(bd C U5 s).2.bs.length)=brg bar:=by
   show brg _=_;rw[q.bs,BY,if_pos rfl]
  have hok:∀u∈cV C s2.bs (ac,(bd C U5 s).2.bs.length),u.Ok s2.es.length:=by rw[hg,q.es,m];exact λu l=>(q9 bk u l).1
  rw[<- hg]at N;obtain⟨E,r2,_⟩:=rb hok N;obtain⟨J3,_,f⟩:=L.pop q.wt
  have t3:TrS n C {s2 with wt:=[]} A.reverse:=⟨G.sv,G.es,G.tr⟩
  obtain⟨⟨u0,H⟩,uo⟩:=E.op d aH;have H:d.1<n:=by rw[q.es,m]at H;exact H
  obtain⟨n1,n2⟩:=bX.mp E.nd
  have t5:=B9 (s:=({ s2 with wt:=[] } : Spt).pt d.1 d.2 _) f (by show (put s2.es _ _).length=n; rw [dC,q.es,m]) (λu l=>by show u.Ok (put s2.es _ _).length; rw [dC]; exact hok u l) E.tail (λv hv u l=>by
   obtain⟨⟨v0,v1⟩,vo⟩:=E.op v (bj _ hv);have ne:d.1≠v.1:=λee=>n1 (aT.mpr ⟨v,hv,ee.symm⟩);show u.sure (put (put s2.es d.1.toNat d.2) v.1.toNat _)=ac;rw[B0 (by lia)];exact uC (by rw[dC];exact hok u l) u0 (by rw[dC,q.es,m];exact H) (B1 u0 v0 ne uo) _ (((r2 v).mp (bj _ hv)).2.2 u l)) (TrM.refl (t3.pt (w:=.gd _) u0 H uo rfl ⟨f,((r2 d).mp aH).2.2⟩))
  have t6:TrM n C (((d.1,d.2),.gd (ac,(bd C U5 s).2.bs.length))::A.reverse) (lrF C (Me U5 s2+1) s2).2:=by
   rw[rf q.wt N];exact rn P.hr _ _ (oI J3 E).1 t5
  obtain⟨⟨xt,k2,_⟩,_⟩:=uP P.hr (by lia) hn _ s2 L t6
  have e1:(bd C U5 s).2.st=A.map stD++stD x::T.map stD:=by
   rw[e.t.sv,p.e,bh,bF]
  have e2:(bd C U5 s2).2.st=A.map stD++stD ((d.1,d.2),.gd (ac,(bd C U5 s).2.bs.length))::xt.reverse.map stD:=by
   show(stF C U5 _ s2).2.st=_;rw[k2.sv,rP,iZ,lp,cx,bh,bh];rfl
  unfold nv;rw[e1,e2];have tl:=rA g;rw[bO,lq]at tl;refine Ia n _ _ _ _ _ (by rw[aB];lia) ?_ rfl
  have Q:x.2=.ch:=by
   rcases g.2.ok with⟨a,_⟩ |⟨a,_⟩
   .exact a
   .rw[p.nc]at a;nomatch a
  unfold stD;rw[Q];rfl
 refine⟨⟨L,by rw[j];exact i,G,by rw[q.pp,e.pp,aR,h.pp,j];rfl,by rw[q.en,e.en];exact h.en,?_⟩,r⟩;rw[j];exact ly h.nb r
def Cg(es:LOB):cU .non (es.map shD)=aa (es.any (·==ab)):=by
 induction es with
 |nil=>rfl
 |cons e es a=>
  show((deq 19 _ .non).bind λb=>(cU .non _).map λr=>b || r)=_;rw[a]
  cases e with
  |none=>rfl
  |some b=>cases b <;> rfl
def TM(h:es.any (·==ab)=ac):gh (.lst (es.map shD)) .non=aa (.int (es.findIdx (·==ab):Nat)):=by
 show(if cU _ _=aa ac then aa _ else ab)=_;rw[Cg,h,if_pos rfl]
 congr 3
 clear h
 induction es with
 |nil=>rfl
 |cons e es a=>
  rw[bF,oT,oT,a]
  cases e with
  |none=>rfl
  |some b=>cases b <;> rfl
abbrev wOf(es:LOB):LI0:=((eE 0 es).filter λp=>p.2==aa ac).map λp=>(p.1:Int)
def TN(h:es.any (·==ab)=ag)(c:es.length<=1000):qJ [.lst (es.map shD)]=aa ((wOf es).map D.int):=by
 refine l9 ?_;unfold wOf;rw[map_map];refine congrArg _ (eC _ _ _ _ (by rw[<- rh];exact uw rfl) (by rw[uK];lia) λp a=>dA rfl (cI rfl ?_) λ_=>rfl);have hm:=any_eq_false.mp h p.2 (dF (jU a))
 cases e:p.2 with
 |none=>rw[e]at hm;exact absurd rfl hm
 |some b=>cases b <;> rfl
variable{F:MF3}
def Ig{t:MF4}{k:Nat}(h:t M=aa ac)(a:wp F M λr=>match r with
  |.nx ρ'=>wp (cT t F k) ρ' K
  |.rtS d ρ'=>K (.rtS d ρ')
  | _=>False):wp (cT t F (k+1)) M K:=by
 obtain⟨r,e,q⟩:=a;dsimp only[wp,cT];rw[h,e,ay]
 cases r with
 |nx ρ'=>exact q
 |rtS d ρ'=>exact⟨_,rfl,q⟩
 | _=>exact q.elim
def rE{t:MF4}{k:Nat}(h:t M=aa ag)(q:K (.nx M)):wp (cT t F (k+1)) M K:=⟨.nx M,by unfold cT;rw[h];rfl,q⟩
nonrec def anT:MF4:=eP (bz (pD (aS "Seeking" "ended" (aG 0))))
nonrec def anB:MF3:=(ai (fE 1 (cq 0 "Seeking" "settle" qI cf))
  (bc (mB (m2 fM (ae 1) kN)) (dD (cq 0 "Seeking" "close" oz (bE (mX (ae 1)) cf))) (bc (mB (m2 fA kN (pB (aS "Seeking" "sheet" (aG 0))))) (dD (cq 0 "Seeking" "put" oA (bE (mX (m2 gh (pB (aS "Seeking" "sheet" (aG 0))) kN)) (bE (mX (kBl ac)) (bE (mX kN) cf))))) (ai (aY 2 (aJ (n8 qJ (af (pB (aS "Seeking" "sheet" (aG 0))) nZ))))
  (ai (dD (cq 0 "Seeking" "close" oz (bE (mX (bn (af (kSt "world") (af (pD (aS "Seeking" "count" (aG 0))) nZ)))) cf)))
  (ai (mr 0 "Seeking" "count" (kI 1))
  (eR (ae 2))))))))
abbrev anK(l:Addr)(o:O):Option (LI0)->Fl->Prop
 |none,x=>∃M,x=.nx M/\M[0]?=aa (.deep (.at l o))
 |some ws,x=>∃M,x=.rtS (.lst (ws.map D.int)) M/\M[0]?=aa (.deep (.at l o))
def TQ(P:Par n c0 U5 U3 C)(h:Hd n c0 U5 U3 C s st)(e:Se n c0 U5 U3 C s (bd C U5 s).2 st st1){t:Nat}(t1:t<n)(m:(bd C U5 s).2.es.getD t ab=ab)(l:∀j,j<t->(bd C U5 s).2.es.getD j ab≠ab):Hd n c0 U5 U3 C ((bd C U5 s).2.pt t ac .non) (((t,ac),.ch)::st1)/\nv n C U5 s<nv n C U5 ((bd C U5 s).2.pt t ac .non):=by
 have hz:=P.hz;have g:=HN (by rw[d4];exact m);have c:=(e.J.pt (b:=ac) (w:=.non) (by lia) (by lia) g).1
 have d:TrS n C ((bd C U5 s).2.pt t ac .non) (((t,ac),.ch)::st1):=by
  refine⟨?_,?_,e.t.tr,by show(0:Int)<=t;lia,by show(t:Int)<n;lia,by rw[<- e.t.es];exact g,.inl ⟨rfl,rfl,λj f=>?_⟩⟩
  .show(bd C U5 s).2.st++[_]=_;simp only[e.t.sv,iZ,bh];rfl
  .show put (bd C U5 s).2.es _ _=_;rw[e.t.es];rfl
  .rw[<- e.t.es];have f:(j:Int)<t:=f;exact l j (by lia)
 have a:nv n C U5 s<nv n C U5 ((bd C U5 s).2.pt t ac .non):=by
  obtain⟨⟨xt,p,_⟩,_⟩:=uP P.hr (by lia) P.hn _ _ c (rn P.hr _ _ c (TrM.refl d));have tl:=rA d.tr;simp only[bO]at tl
  have i:(bd C U5 ((bd C U5 s).2.pt t ac .non)).2.st=(bd C U5 s).2.st++stD ((t,ac),.ch)::xt.reverse.map stD:=by
   show(stF C U5 _ _).2.st=_;rw[p.sv,rP,iZ,cx,bh,<- e.t.sv];rfl
  unfold nv;rw[i];exact H9 n _ _ _ (by rw[e.t.sv,aB,lq];lia)
 refine⟨⟨c,?_,d,?_,?_,?_⟩,a⟩
 .show dR (c0+3840*(bd C U5 s).2.bs.length) _ (bd C U5 s).2.bs (bd C U5 s).2.tw;rw[e.bs,e.tw];exact h.tw
 .show(bd C U5 s).2.pp.length=(bd C U5 s).2.bs.length;rw[e.bs,e.pp];exact h.pp
 .show(bd C U5 s).2.en=ag;rw[e.en];exact h.en
 .show(bd C U5 s).2.bs.length<=_;rw[e.bs];exact cy h.nb (eM a)
structure Car(n c0 U5 U3:Nat)(C:LRu)(I:Spt->LSp->List (LI0)->Prop)(F:Spt->List (LI0)->Prop):Prop where
 ch:∀{s st st1 fd} {t:Nat},Hd n c0 U5 U3 C s st->I s st fd->Se n c0 U5 U3 C s (bd C U5 s).2 st st1->(bd C U5 s).1=ab->t<n->(bd C U5 s).2.es.getD t ab=ab->I ((bd C U5 s).2.pt t ac .non) (((t,ac),.ch)::st1) fd
 cl:∀{s st st1 fd w bar dn A x T s2},Hd n c0 U5 U3 C s st->I s st fd->Se n c0 U5 U3 C s (bd C U5 s).2 st st1->(bd C U5 s).1=aa (Wh.D w)->Rt n C s.bs (bd C U5 s).2.es w->lc n C s.bs st1 bar dn->rB st1.reverse bar A x T->Clo n (bd C U5 s).2 s2 bar dn A->s2.ct=s.ct->Hd n c0 U5 U3 C s2 A.reverse->I s2 A.reverse fd
 fi:∀{s st st1 fd w dn s2},Hd n c0 U5 U3 C s st->I s st fd->Se n c0 U5 U3 C s (bd C U5 s).2 st st1->(bd C U5 s).1=aa (Wh.D w)->Rt n C s.bs (bd C U5 s).2.es w->lc n C s.bs st1 [] dn->s2.pp=s.pp++[lnD [] dn]->F s2 fd
 wc:∀{s st st1 fd bar dn A x T s2},Hd n c0 U5 U3 C s st->I s st fd->Se n c0 U5 U3 C s (bd C U5 s).2 st st1->(bd C U5 s).1=ab->(bd C U5 s).2.es.any (·==ab)=ag->lc n C s.bs st1 bar dn->rB st1.reverse bar A x T->Clo n (bd C U5 s).2 s2 bar dn A->s2.ct=s.ct+1->Hd n c0 U5 U3 C s2 A.reverse->I s2 A.reverse (fd++[wOf (bd C U5 s).2.es])
 wf:∀{s st st1 fd dn s2},Hd n c0 U5 U3 C s st->I s st fd->Se n c0 U5 U3 C s (bd C U5 s).2 st st1->(bd C U5 s).1=ab->(bd C U5 s).2.es.any (·==ab)=ag->lc n C s.bs st1 [] dn->s2.pp=s.pp++[lnD [] dn]->F s2 (fd++[wOf (bd C U5 s).2.es])
structure Fin(C:LRu)(F:Spt->List (LI0)->Prop)(fd:List (LI0))(o:O):Prop where
 ex:∃s:Spt,s.en=ac/\s.pp≠[]/\s.pp.length<=100000/\F s fd/\o=s.F C
inductive Af(n c0 U5 U3:Nat)(C:LRu)(I:Spt->LSp->List (LI0)->Prop)(F:Spt->List (LI0)->Prop)(fd:List (LI0))(v:Nat)(o:O):Prop
 |go (s:Spt) (st:LSp):Hd n c0 U5 U3 C s st->I s st fd->v<nv n C U5 s->o=(s.S C).o->Af n c0 U5 U3 C I F fd v o
 |fin:Fin C F fd o->Af n c0 U5 U3 C I F fd v o
variable{I:Spt->LSp->List (LI0)->Prop}{F:Spt->List (LI0)->Prop}
def Ch(P:Par n c0 U5 U3 C)(K:Car n c0 U5 U3 C I F):∀(u:Nat) (s:Spt) (st:LSp) (fd:List (LI0)),Hd n c0 U5 U3 C s st->I s st fd->3 ^ n-nv n C U5 s<=u->∃(r:Option (LI0)) (o:O),(∀l v1 f k,u<k->wp (cT anT anB (k+1)) [.deep (.at l (s.S C).o),v1,f] (anK l o r))/\(r=ab->Fin C F fd o)/\∀ws,r=aa ws->Af n c0 U5 U3 C I F (fd++[ws]) (nv n C U5 s) o
 | u,s,st,fd,h,hI,hμ=>by
  have hz:=P.hz;have hn:=P.hn;have hC:=P.hC;have h2:=P.h2;have hnv:nv n C U5 s<3 ^ n:=rC _ _;have hnb:=h.nb;have hpp:=h.pp;obtain⟨st1,se,hwy⟩:=h.se P;have i:=se.bs;have H:=se.ct;have m:=se.pp;have J1:=se.J;have Y:=TJ P h;have L:=λ(bar dn A x T s2)=>TL (bar:=bar) (dn:=dn) (A:=A) (x:=x) (T:=T) (s2:=s2) P h se;have hch:=λt=>TQ (t:=t) P h se;have kch:=λt=>K.ch (t:=t) h hI se;have kcl:=λ(w bar dn A x T s2)=>K.cl (w:=w) (bar:=bar) (dn:=dn) (A:=A) (x:=x) (T:=T) (s2:=s2) h hI se;have kfi:=λ(w dn s2)=>K.fi (w:=w) (dn:=dn) (s2:=s2) h hI se;have kwc:=λ(bar dn A x T s2)=>K.wc (bar:=bar) (dn:=dn) (A:=A) (x:=x) (T:=T) (s2:=s2) h hI se;have kwf:=λ(dn s2)=>K.wf (dn:=dn) (s2:=s2) h hI se;generalize bd C U5 s=R at *;have y:=λ{w:Wh} B=>TH (w:=w) P.hr (by lia) hn J1 (by rw[i,se.tw];exact h.tw) (by lia) (by rw[i];lia) (by rw[m];lia) se.t B;rw[i]at y
  have g:∀l v1 f k Q,wp _ [.deep _,.im _,f] _->wp (cT anT anB (k+1)) [.deep (.at l (s.S C).o),v1,f] Q:=λl v1 f k Q U=>by
   refine Ig (kG (cI (jR rfl) (by show lT (.bl s.en)=aa ag;rw[h.en];rfl))) ?_;apply ak;exact iY (eU rfl rfl rfl rfl (Y l)) U
  cases hR:R.1 with
  |some wd=>
   obtain⟨w,rfl,hnc,B⟩:=hwy wd hR;obtain⟨o,e1,ck⟩:=y B
   have hwn:fM w.D .non=aa (.bl ac):=by
    cases w with
    |ch=>nomatch hnc
    | _=>rfl
   have step:=λl v1 f k Q U=>by
    refine g l v1 f k Q ?_;rw[hR];exact aU (bq (ap rfl rfl hwn)) (λ_=>(iX (eU rfl rfl (dk rfl rfl) rfl (e1 l)) U)) λq=>nomatch q
   cases ck with
   | @fin dn k=>
    rw[i]at k
    refine⟨ab,({R.2.ln [] dn with en:=ac}:Spt).F C,λl v1 f kk M=>?_,λ_=>⟨{R.2.ln [] dn with en:=ac},rfl,?_,?_,kfi w dn _ hR B k (by show(R.2.ln [] dn).pp=_;unfold Spt.ln;rw[m]),rfl⟩,λws e=>nomatch e⟩
    .obtain⟨kk,rfl⟩:∃j,kk=j+1:=⟨kk-1,by lia⟩;exact step l v1 f _ _ (rE rfl ⟨_,rfl,rfl⟩)
    .show R.2.pp++[_]≠[];simp
    .show(R.2.pp++[_]).length<=_;rw[aR,m];show _+1<=_
     lia
   | @bk bar dn A T x k p=>
    rw[i]at k;have q:Clo n R.2 (((R.2.ln bar dn).bk n A).bar bar) bar dn A:=⟨rfl,rfl,rfl,rfl,rfl,rfl,rfl,rfl⟩;obtain⟨v,g2⟩:=L bar dn A x T _ k p q
    match u,hμ with
    | 0,hμ=>lia
    | u+1,hμ=>
     obtain⟨r,o',i1,i2,i3⟩:=Ch P K u _ _ fd v (kcl w bar dn A x T _ hR B k p q H v) (by lia);refine⟨r,o',λl v1 f kk M=>?_,i2,λws e=>?_⟩
     .obtain⟨kk,rfl⟩:∃j,kk=j+1:=⟨kk-1,by lia⟩;exact step l v1 f _ _ (i1 l _ _ kk (by lia))
     .cases i3 ws e with
      |go s' E a b c d=>exact .go s' E a b (by lia) d
      |fin a=>exact .fin a
  |none=>
   have hl1:=J1.es
   cases ha:R.2.es.any (·==ab)with
   |true=>
    have N:=uX (any_eq_true.mp ha)
    have G:R.2.es.getD (R.2.es.findIdx (·==ab)) ab=ab:=by
     rw[cg,cr N];have:=findIdx_getElem (w:=N);exact beq_iff_eq.mp this
    obtain⟨v,g2⟩:=hch _ (by lia) G λj hj q=>by
     have:=not_of_lt_findIdx hj;rw[cg,cr (by lia)]at q;have q:R.2.es[j]=ab:=q;rw[q]at this;exact absurd this (by decide)
    match u,hμ with
    | 0,hμ=>lia
    | u+1,hμ=>
     obtain⟨r,o',i1,i2,i3⟩:=Ch P K u _ _ fd v (kch _ hR (by lia) G) (by lia);refine⟨r,o',λl v1 f kk M=>?_,i2,λws e=>?_⟩
     .obtain⟨kk,rfl⟩:∃j,kk=j+1:=⟨kk-1,by lia⟩;refine g l v1 f _ _ ?_;rw[hR];refine aU rfl (λq=>nomatch q) λ_=>?_;exact aU (b:=ac) (bq (ap rfl (iV jh) (by show((cU .non (R.2.es.map shD)).map D.bl)=_;rw[Cg,ha];rfl))) (λ_=>(iX (eU rfl rfl (dk (ap (iV jh) rfl (TM ha)) (dk rfl (dk rfl rfl))) rfl ((λl=>BZ (t:=(R.2.es.findIdx (·==ab):Nat)) J1 P.h2 (by lia) (by lia)) l)) (i1 l _ _ kk (by lia)))) λq=>nomatch q
     .cases i3 ws e with
      |go s' E a b c d=>exact .go s' E a b (by lia) d
      |fin a=>exact .fin a
   |false=>
    have B:Rt n C s.bs R.2.es (.wd R.2.ct):=λk M q=>by
     rw[cg,cr (by lia)]at q;have q:R.2.es[k]=ab:=q;exact any_eq_false.mp ha _ (jq _) (by rw[q];rfl)
    obtain⟨o,e1,ck⟩:=y B
    have step:∀o2 l v1 f k Q,(∀v1 f,mr 0 "Seeking" "count" (kI 1) [.deep (.at l o),v1,f]=aa (.nx [.deep (.at l o2),v1,f]))->Q (.rtS (.lst ((wOf R.2.es).map D.int)) [.deep (.at l o2),.im .non,.im (.lst ((wOf R.2.es).map D.int))])->wp (cT anT anB (k+1)) [.deep (.at l (s.S C).o),v1,f] Q:=λo2 l v1 f k Q hau U=>by
     refine g l v1 f k Q ?_;rw[hR];refine aU rfl (λq=>nomatch q) λ_=>?_;refine aU (b:=ag) (bq (ap rfl (iV jh) (by show((cU .non (R.2.es.map shD)).map D.bl)=_;rw[Cg,ha];rfl))) (λq=>nomatch q) λ_=>?_;apply ak;refine bi (d:=.lst ((wOf R.2.es).map D.int)) (bH ?_) ?_
     .show(af _ _ _).bind _=_;rw[am (iV jh) rfl,ay];show(qJ [.lst (R.2.es.map shD)]).bind _=_;rw[(TN ha (by lia)),ay,if_pos (all_eq_true.mpr λd hd=>by obtain⟨z,_,rfl⟩:=aT.mp hd;rfl)]
     apply ak;refine iX (eU rfl rfl (dk (d:=(Wh.wd R.2.ct).D) (cP (am rfl (am (jR rfl) rfl))) rfl) rfl (e1 l)) ?_;apply ak;exact⟨_,hau _ _,(iW rfl U)⟩
    cases ck with
    | @fin dn k=>
     rw[i]at k
     refine⟨aa (wOf R.2.es),(({({R.2.ln [] dn with en:=ac}:Spt)with ct:=R.2.ct+1}:Spt).F C),λl v1 f kk M=>step _ l v1 f kk _ (λ_ _=>rfl) ⟨_,rfl,rfl⟩,(λe=>nomatch e),λws e=>?_⟩
     cases e
     refine .fin ⟨{({R.2.ln [] dn with en:=ac}:Spt)with ct:=R.2.ct+1},rfl,?_,?_,kwf dn _ hR ha k (by show(R.2.ln [] dn).pp=_;unfold Spt.ln;rw[m]),rfl⟩
     .show R.2.pp++[_]≠[];simp
     .show(R.2.pp++[_]).length<=_;rw[aR,m];show _+1<=_
      lia
    | @bk bar dn A T x k p=>
     rw[i]at k
     have q:Clo n R.2 {((R.2.ln bar dn).bk n A).bar bar with ct:=R.2.ct+1} bar dn A:=⟨rfl,rfl,rfl,rfl,rfl,rfl,rfl,rfl⟩
     obtain⟨v,g2⟩:=L bar dn A x T _ k p q
     refine⟨aa (wOf R.2.es),(({((R.2.ln bar dn).bk n A).bar bar with ct:=R.2.ct+1}:Spt).S C).o,λl v1 f kk M=>step _ l v1 f kk _ (λ_ _=>rfl) ⟨_,rfl,rfl⟩,(λe=>nomatch e),λws e=>?_⟩
     cases e;exact .go _ _ v (kwc bar dn A x T _ hR ha k p q (by show R.2.ct+1=_;rw[H]) v) g2 rfl
def uU{cn a:Str}{f:Xa}(h:M[i]?=aa (.deep o))(hi:o.isIns cn a=ac)(e:f M=aa (ds,ρ1))(c:ρ1[i]?=aa (.deep o))(hm:∀l,m l ds o=aa (o',d)):jg i cn a m f M=aa (d,ρ1.set i (.deep o')):=by
 obtain⟨ns,os,rfl,_⟩:=xU hi;unfold jg;rw[h];show(if (O.ins cn ns os).isIns cn a=ac then _ else ab)=_;rw[if_pos hi,e,ay,c];have b:∃q,∀l,m l ds _=aa q:=⟨_,hm⟩;dsimp only;rw[dif_pos b];have:=b.choose_spec 0;rw[hm 0]at this;rw[<- cW this]
inductive Sq:O->List (LI0)->O->Prop
 |nil {o o':O}:o.isIns "Seeking" "another"=ac->(∀l,m_8 l [] o=aa (o',.non))->Sq o [] o'
 |cons {o o' oE:O} {w:LI0} {ws:List (LI0)}:o.isIns "Seeking" "another"=ac->(∀l,m_8 l [] o=aa (o',.lst (w.map D.int)))->Sq o' ws oE->Sq o (w::ws) oE
abbrev wsD(ws:List (LI0)):D:=.lst (ws.map λw=>.lst (w.map D.int))
nonrec def wD(w:LI0):D:=.lst (w.map D.int)
nonrec def woT:MF4:=(df (mB (m2 fM (ae 4) kN)) (mB (m2 dLt (au bJ (af (cG 3) nZ)) (ae 1))))
nonrec def woB:MF3:=(ai (c6 3 (ae 4)) (fE 4 (jg 2 "Seeking" "another" m_8 cf)))
def Ih{a:D}{most:Int}{oE:O}{K:Fl->Prop}:∀(ws:List (LI0)) (w:LI0) (o:O) (fs:List (LI0)) (k:Nat),Sq o ws oE->(fs.length:Int)<=most->fs.length+ws.length<10000000->ws.length+2<=k->(((fs++w::ws).length:Int)<=most->K (.nx [.im a,.im (.int most),.deep oE,.own ((fs++w::ws).map wD),.im .non]))->((¬((fs++w::ws).length:Int)<=most)->∀o' d,K (.nx [.im a,.im (.int most),.deep o',.own (((fs++w::ws).take most.toNat).map wD),.im (wD d)]))->wp (cT woT woB k) [.im a,.im (.int most),.deep o,.own (fs.map wD),.im (wD w)] K
 |ws,w,o,fs,0,_,_,_,h,_,_=>absurd h (by lia)
 |ws,w,o,fs,k+1,hs,hm,hl,hk,k1,k2=>by
  have e:woT [.im a,.im (.int most),.deep o,.own (fs.map wD),.im (wD w)]=aa (decide (fs.length<most)):=by
   refine(jc (a:=ac) rfl (bq (ap (aD rfl (dO fs wD)) rfl qd))).trans ?_;rw[Bool.true_and]
  by_cases c:fs.length<most
  .rw[decide_eq_true c]at e;refine Ig e ?_;apply ak;refine gc rfl rfl (by rw[aB];lia) ?_;have g:fs.map wD++[wD w]=(fs++[w]).map wD:=by rw[bh];rfl
   cases hs with
   |nil hi b=>
    refine iY (uU rfl hi rfl rfl b) ?_;rw[g];obtain⟨k,rfl⟩:∃j,k=j+1:=⟨k-1,by lia⟩;refine rE (by unfold woT df;rfl) (k1 ?_);rw[aR];show((fs.length+1:Nat):Int)<=_
    lia
   | @cons _ o' _ d ws' hi b f=>
    refine iY (uU rfl hi rfl rfl b) ?_;rw[g];have i:fs++w::d::ws'=(fs++[w])++d::ws':=by rw[cx];rfl
    rw[i]at k1 k2;simp only[bO]at hl hk;exact Ih ws' d o' _ k f (by rw[aR];show((fs.length+1:Nat):Int)<=_;lia) (by rw[aR];show fs.length+1+_<_;lia) (by lia) k1 k2
  .rw[decide_eq_false c]at e;have l:fs.length=most.toNat:=by lia
   have:=k2 (by rw[aR,bO];lia) o w;rw[<- l,take_left' rfl]at this;exact rE e this
def TR{f:Xa}(h:M[i]?=aa (.deep (.at l o0)))(b:f M=aa (ds,ρ1))(a:ρ1[i]?=aa (.deep (.at l o)))(hm:m l ds o=aa (o',d)):k4 i m f M=aa (d,ρ1.set i (.deep (.at l o'))):=by
 unfold k4;simp only[h,b,ay,a];show(m l ds o).map _=_;rw[hm];rfl
abbrev s00(n:Nat)(C:LRu):Spt:=spT (ik n ab) C
def TU(P:Par n c0 U5 U3 C)(l:Addr):Al l [pl0 n C] (.ins "Seeking" [] [])=aa (((s00 n C).S C).o,.non):=by
 have hn:=P.hn;have e0:=R8 (v:=n) (es:=ik n ab) P.hn P.hr P.hz l;rw[SC]at e0;apply eV;apply ak;refine iX (TR rfl (dk rfl (dk rfl (dk (bH ?_) rfl))) rfl e0) ?_
 .rw[map_replicate];refine(gb _ _ _ ((pV (am (be rfl rfl rfl) rfl) (by lia) (by lia)).trans (by rw[d4])) (by rw[cK];lia) λ_ _=>fO rfl rfl rfl).trans ?_;rw[map_const',cK];rfl
 apply ak;refine gj (mw rfl) rfl rfl ?_;apply ak;exact gj (qP rfl) rfl rfl (gj (qP rfl) rfl rfl ⟨_,rfl,rfl,rfl⟩)
variable{q:Nat}
def hd0(P:Par n (64*q*C.length) U5 U3 C)(c:∀r∈C,(grd r).length<=q):Hd n (64*q*C.length) U5 U3 C (s00 n C) []:=by
 have hC:=P.hC;have b:=Te P.hn (mK (a:=ab)) λr hr=>⟨P.hr r hr,c r hr⟩;have t:TrS n C (s00 n C) []:=⟨rfl,rfl,trivial⟩;refine⟨Ic P t b.bk ⟨b.tw.wk.le (by lia),b.tw.vl,b.tw.br⟩ b.wv b.ms (by have:=b.wl;show(spT _ C).wt.length<=_;rw[this];show C.length+0<=_;lia),b.tw,t,rfl,rfl,b9 _⟩
def TV{fd:List (LI0)}(h:Fin C F fd o):Sq o [] o:=by
 obtain⟨s,e,_,_,_,rfl⟩:=h.ex;refine .nil rfl λl=>?_;apply eV;apply ak;exact rE (kG (cI (jR rfl) (by show lT (.bl s.en)=aa ac;rw[e];rfl))) (iW rfl ⟨_,rfl,rfl,rfl⟩)
def Ii(P:Par n c0 U5 U3 C)(K:Car n c0 U5 U3 C I F):∀(g:Nat) (s:Spt) (st:LSp) (fd:List (LI0)),Hd n c0 U5 U3 C s st->I s st fd->3 ^ n-nv n C U5 s<=g->∃ws oE,Sq (s.S C).o ws oE/\Fin C F (fd++ws) oE/\ws.length<=g
 | g,s,st,fd,h,hI,hμ=>by
  have hC:=P.hC;have h2:=P.h2;have y:nv n C U5 s<3 ^ n:=rC _ _;obtain⟨r,o,q,u,v⟩:=Ch P K _ s st fd h hI (aM _)
  have run:∀l,m_8 l [] (s.S C).o=aa (o,match r with |none=>.non |some w=>wD w):=λl=>by
   apply eV;apply ak;refine NF (q l _ _ 999999999 (by lia)) λx m=>?_
   cases r with
   |none=>
    obtain⟨M,rfl,e⟩:=m
    exact iW rfl ⟨o,e,rfl,rfl⟩
   |some w=>
    obtain⟨M,rfl,e⟩:=m;exact⟨o,e,rfl,rfl⟩
  cases r with
  |none=>exact⟨[],o,.nil rfl run,by rw[bQ];exact u rfl,b9 _⟩
  |some w=>
   cases v w rfl with
   |fin f=>exact⟨[w],o,.cons rfl run (TV f),f,by show 1<=g;lia⟩
   |go z i a b c d=>
    subst d
    match g,hμ with
    | 0,hμ=>lia
    | g+1,hμ=>
     obtain⟨ws,oE,p,j,A⟩:=Ii P K g z i _ a b (by lia);exact⟨w::ws,oE,.cons rfl run p,by rw[cx]at j;exact j,by simp only[bO];lia⟩
def TW(P:Par n (64*q*C.length) U5 U3 C)(f:∀r∈C,(grd r).length<=q)(K:Car n (64*q*C.length) U5 U3 C I F)(e:I (s00 n C) [] []):∃(ws:List (LI0)) (s:Spt),F s ws/\s.pp≠[]/\ws.length<=3 ^ n/\∀most:Int,0<=most->m_0 [pl0 n C,.int most]=aa (if (ws.length:Int)<=most then .tup [wsD ws,.bl ac,.lst s.pp] else .tup [wsD (ws.take most.toNat),.bl ag,.lst []]):=by
 have hC:=P.hC;have h2:=P.h2;obtain⟨ws,oE,c,⟨s,f1,f2,h,d,rfl⟩,b⟩:=Ii P K (3 ^ n) _ [] [] (hd0 P f) e (by lia);refine⟨ws,s,d,f2,b,λmost hm=>?_⟩;apply iT;apply ak;refine On (RX rfl (λl=>TU P l)) ?_;apply ak;refine dW rfl ?_;apply ak
 cases c with
 |nil hi hr=>
  refine iY (uU rfl hi rfl rfl hr) ?_;apply ak;refine rE (by unfold df;rfl) ?_;apply ak;refine aU rfl (λ_=>?_) λq=>nomatch q
  exact nX rfl (Cd rfl (dX rfl (eT ((if_pos (hm)).symm))))
 | @cons _ o' _ w ws hi hr g=>
  rw[bO]at b;refine iY (uU rfl hi rfl rfl hr) ?_;apply ak;refine Ih ws w o' [] _ g hm (by rw[length_nil];lia) (by lia) (λa=>?_) λa o2 i=>?_
  .apply ak;refine aU rfl (λ_=>?_) λq=>nomatch q;exact nX rfl (Cd rfl (dX rfl (eT ((if_pos (a)).symm))))
  .apply ak;refine aU rfl (λq=>nomatch q) λ_=>bK ?_;exact nX rfl (dX rfl (eT ((if_neg (a)).symm)))
structure Scr(x:D)(ns:LI0):Prop where
 ln:bJ [x]=aa (.int ns.length)
 sq:g7 x=aa (ns.map D.int)
 sl:∀{f:MF1} {l h:LS->Option (Option Int)} {M:LS} {lo hi:Option Int},f M=aa x->l M=aa lo->h M=aa hi->mSl f l h M=aa (((ns.drop (HT.sIx ns.length 0 lo)).take (HT.sIx ns.length ns.length hi-HT.sIx ns.length 0 lo)).map D.int)
def TX(ns:LI0):Scr (.kl (ns.map D.int)) ns:=⟨Fb _ _,rfl,λe a b=>Fd e a b⟩
def TY(ns:LI0):Scr (.lst (ns.map D.int)) ns:=⟨dO _ _,rfl,λe a b=>n4 e a b⟩
def Ci{x:D}(h:Scr x ns){i:Int}(b:0<=i):∃v,qy [x,.int i]=aa (.int v):=by
 by_cases a:i<ns.length
 .obtain⟨v,_,e⟩:=kC b a;exact⟨v,c8 (Mw (Mx (bq (ap rfl (aD rfl h.ln) (qd.trans (by rw[decide_eq_true a])))) (c7 (be h.sq rfl e))))⟩
 .exact⟨0,c8 (tz (My (bq (ap rfl (aD rfl h.ln) (qd.trans (by rw[decide_eq_false a])))) rfl) rfl)⟩
def mG(c k:Int)(q:0<=k)(r:k<=100):∃v,m_6 [.int c,.int k]=aa (.int v)/\0<=v/\v<1000003:=by
 suffices h:∃d,m_6 _=aa d/\∃v:Int,d=.int v/\0<=v/\v<1000003 by
  obtain⟨d,e,v,rfl,h⟩:=h;exact⟨v,e,h⟩
 apply l7;obtain⟨p,i,n⟩:=kC (f:=D.int) (B:=[2147483647,1000000007,998244353,1000000009]) (dS _ (by decide)) (gr _ (by decide));have b:∀p∈([2147483647,1000000007,998244353,1000000009]:LI0),0<p/\p<=2147483647:=by decide
 obtain⟨j,u⟩:=b p (dF i);have l:=dS c (show 10 ^ (18:Int).toNat≠0 by decide);have m:=gr c (show 0<10 ^ (18:Int).toNat by decide);have a:(10:Int) ^ (18:Int).toNat=1000000000000000000:=by decide
 have g:ki 10 18:=⟨by decide,by decide,by decide⟩;apply ak;refine bi (by walk_at "ev") ?_;apply ak;refine bi (ap (ap (ap (ap rfl (ap rfl rfl (qc g)) (cp (by rw[a];decide))) (ap rfl (ap rfl rfl fB) (n9 (.inr ⟨by lia,by lia⟩))) fB) rfl (n9 (.inr ⟨by rw[a]at m l ⊢;lia,by lia⟩))) rfl (cp (by lia))) ?_;have o0:=dS ((c % 10 ^ (18:Int).toNat+15485863*(k+1))*48271) (show p≠0 by lia);have o1:=gr ((c % 10 ^ (18:Int).toNat+15485863*(k+1))*48271) j;generalize _*48271 % p=o at *;refine dX (ap (ap rfl rfl (n9 (.inr ⟨by lia,by lia⟩))) rfl (cp (by decide))) (eT ⟨_,rfl,dS _ (by decide),gr _ (by decide)⟩)
def TZ(c k n:Int)(x:0<=k)(H:k<=90)(I:1<=n):∃d,zJ [.int c,.int k,.int n]=aa d/\∃E:LII,d=.lst (E.map itD)/\InN n.toNat E/\E.length<=3:=by
 obtain⟨v,m,J,v1⟩:=mG c k x (by lia);have t0:0<=v % 4:=dS _ (by decide);apply l7;apply ak;refine dW rfl ?_;walk_at "nrm";apply ak;refine dh _ _ (λpre M=>∃(E:List _) (f g h:Sl),M=[.im _,.im _,.im _,.own (E.map itD),f,g,h]/\InN n.toNat E/\E.length=pre.length) (pV (am (ap (aD rfl m) rfl (cp (by decide))) rfl) t0 (by lia)) ⟨[],_,_,_,rfl,(λz hz=>nomatch hz),rfl⟩ ?_ ?_
 .rintro pre j post M ex ⟨E,f,g,h,rfl,b,e⟩;have G:j<(v % 4).toNat:=fX.mp (by rw[ex];simp)
  have r:pre.length<(v % 4).toNat:=by
   have:pre.length<(bI (v % 4).toNat).length:=by rw[ex];simp
   simpa using this
  obtain⟨a,l,A,C⟩:=mG c (k+1+j) (by lia) (by lia);obtain⟨w,u,p⟩:=kC (B:=[1,1,a / 8 % 4,c % 10 ^ (60:Int).toNat]) (i:=a / 32 % 4) (dS _ (by decide)) (gr _ (by decide))
  have y:0<=w:=by
   have:=dF u;simp only[bm,cS,or_false]at this
   rcases this with rfl |rfl |rfl |rfl
   .decide
   .decide
   .exact dS _ (by decide)
   .exact dS _ (Int.ne_of_gt p60)
  have m1:=gr (a / 128) (show 0<n by lia);refine⟨_,rfl,?_⟩;apply ak;refine bi (aD (am rfl (am (ap (ap rfl rfl fB) rfl fB) rfl)) l) ?_;apply ak;refine bi (be (am rfl (am rfl (am (ap (ap rfl rfl (kO (by walk_at "evS"))) rfl (cp (by decide))) (am (ap rfl (ap rfl rfl (qc GG)) (cp p60)) rfl)))) (ap (ap rfl rfl (kO (by walk_at "evS"))) rfl (cp (by decide))) p) ?_;refine gc (cP (am (ap (ap rfl rfl (kO (by walk_at "evS"))) rfl (cp (by lia))) (am rfl rfl))) rfl (by rw[aB];lia) ⟨E++[(a / 128 % n,w)],_,_,_,by rw[bh];rfl,λz hz=>?_,by rw[aR,aR,e];rfl⟩
  rcases bP.mp hz with q |q
  .exact b z q
  .rw[ci.mp q];exact⟨(dS _ (show n≠0 by lia)),by show _<_;lia,y⟩
 .rintro M ⟨E,f,g,h,rfl,b,e⟩;rw[cK]at e;exact l8 rfl (je ⟨E,rfl,b,by lia⟩)
def T0(c k n:Int)(w:0<=k)(y:k<=80)(x:1<=n):∃d,t8 [.int c,.int k,.int n]=aa d/\∃p:Prt,d=p.toD/\p.Ok n.toNat/\(nmP p).length<=3:=by
 obtain⟨v,q,G,v1⟩:=mG c k w (by lia);obtain⟨u,m,A,C⟩:=mG c (k+5) (by lia) (by lia);obtain⟨d,l,E,rfl,e,r⟩:=TZ c (k+1) n (by lia) (by lia) x;have g:(E.map (·.1)).length<=3:=by rw[aB];exact r
 apply l7;apply ak;refine bi (aD rfl q) ?_;walk_at "nrm";apply ak;refine aU (bq (ap (ap rfl rfl (cp (by decide))) rfl qd)) (λz=>?_) λz=>bK ?_
 .obtain⟨wd,a,i⟩:=kC (f:=D.str) (B:=["in","in","out","out","in"]) (dS _ (by decide)) (of_decide_eq_true z);have h:=dS (v / 8) (show n≠0 by lia);have m1:=gr (v / 8) (show 0<n by lia);refine dX (cP (am (be rfl (ap rfl rfl (cp (by decide))) i) (am (ap (ap rfl rfl (kO (by walk_at "evS"))) rfl (cp (by lia))) rfl))) (eT ?_);have:=dF a;simp only[bm,cS,or_false]at this;have one:1<=3:=by decide
  rcases this with rfl |rfl |rfl |rfl |rfl
  .exact⟨.inn _,rfl,⟨h,by lia⟩,one⟩
  .exact⟨.inn _,rfl,⟨h,by lia⟩,one⟩
  .exact⟨.out _,rfl,⟨h,by lia⟩,one⟩
  .exact⟨.out _,rfl,⟨h,by lia⟩,one⟩
  .exact⟨.inn _,rfl,⟨h,by lia⟩,one⟩
 .walk_at "nrm";obtain⟨wd,a,i⟩:=kC (f:=D.str) (B:=["least","most"]) (dS _ (by decide)) (gr _ (by decide));have a:=dF a;simp only[bm,cS,or_false]at a
  have fin:∀b:Int,∃p:Prt,D.tup [.str wd,.int b,.lst _]=p.toD/\p.Ok n.toNat/\(nmP p).length<=3:=λb=>by
   rcases a with rfl |rfl
   .exact⟨.least b E,rfl,⟨e,by lia⟩,g⟩
   .exact⟨.most b E,rfl,⟨e,by lia⟩,g⟩
  apply ak;refine bi (aD (am rfl (am (ap rfl rfl fB) (am rfl rfl))) l) ?_;apply ak;refine bi (aD (am rfl (am (ap rfl rfl fB) rfl)) m) ?_;walk_at "nrm";apply ak;refine aU (bq (ap (ap rfl rfl (cp (by decide))) rfl (jK _ _))) (λz=>?_) λz=>bK ?_
  .have c0:=dS c (Int.ne_of_gt p60);have j:(10:Int) ^ (60:Int).toNat<2 ^ 200:=by decide
   refine dX (cP (am (be rfl (ap rfl rfl (cp (by decide))) i) (am (ap (ap rfl (ap rfl rfl (qc GG)) (cp p60)) (ap (ap (ap rfl rfl (kO (by walk_at "evS"))) rfl (cp (by decide))) rfl jN) (n9 (.inr ⟨by lia,by lia⟩))) (am rfl rfl)))) (eT (fin _))
  .refine dX (cP (am (be rfl (ap rfl rfl (cp (by decide))) i) (am (ap (ap (ap rfl rfl (kO (by walk_at "evS"))) rfl (cp (by decide))) rfl jN) (am rfl rfl)))) (eT (fin _))
structure Ru5(n:Nat)(r:Rul):Prop where
 ok:r.Ok n
 nm:∀p∈r.ps,(nmP p).length<=3
 ln:r.ps.length<=3
def Ru5.k{r:Rul}(h:Ru5 n r):RuK n r:=⟨h.ok,λp a=>cy (h.nm p a) (by decide),cy h.ln (by decide)⟩
def T1(c n:Int)(N:1<=n):∃d,zN [.int c,.int n]=aa d/\∃r:Rul,d=r.toD/\Ru5 n.toNat r:=by
 obtain⟨v,H,v0,v1⟩:=mG c 0 (by decide) (by decide);obtain⟨u,G,U,Y⟩:=mG c 1 (by decide) (by decide);obtain⟨t,A,t0,t1⟩:=mG c 2 (by decide) (by decide);obtain⟨wd,l,I⟩:=kC (f:=D.str) (B:=["make","make","make","make","may","may","may","never"]) (i:=v % 8) (dS _ (by decide)) (gr _ (by decide));have L:=dS t (show n≠0 by lia);have m1:=gr t (show 0<n by lia);have Q:=dS u (show(4:Int)≠0 by decide);have s1:=gr u (show(0:Int)<4 by decide);apply l7;show wp _ [.im _,.im _,.no,.no,.no] _;apply ak;refine bi (d:=.str wd) (be rfl (ap (aD rfl H) rfl (cp (by decide))) I) ?_;apply ak;refine bi (d:=.int (u % 4)) (ap (aD rfl G) rfl (cp (by decide))) ?_;refine Fe (λM=>∃z:Int,M=[.im (.int c),.im (.int n),.im (.str wd),.im (.int z),.no]/\0<=z/\z<=3) ?_ ?_
 .refine aU (jc (bq (ap rfl rfl (pU _ _))) (jc (bq (ap rfl rfl (jK _ _))) (bq (ap (ap (aD rfl A) rfl (cp (by decide))) rfl jf)))) (λ_=>?_) λ_=>?_
  .exact bi rfl (k_J ⟨2,rfl,by decide,by decide⟩)
  .exact bK (k_J ⟨u % 4,rfl,Q,by lia⟩)
 .rintro M ⟨z,rfl,T,z3⟩
  obtain⟨ps,x,y,h⟩:=RG (k:=1) (js:=[0,1]) (g:=ax 0) (ft:=λ_=>aa ac) (fe:=au t8 (af (ae 1) (af (m2 dN (kI 3) (m2 kU (kI 6) (ae 0))) (af (ae 2) nZ)))) (fi:=g8 (af (ae 3) nZ)) (M:=[.im (.int c),.im (.int n),.im (.str wd),.im (.int z),.no]) _ _ Prt.toD (λp=>p.Ok n.toNat/\(nmP p).length<=3) (pV rfl T (by lia)) (by rw[cK];lia) λj C=>by
   have C:=fX.mp C;obtain⟨d,E,p,rfl,a⟩:=T0 c (3+6*j) n (by lia) (by lia) N;exact⟨p,a,fO rfl rfl (aD (am rfl (am (ap rfl (ap rfl rfl (n9 (.inr ⟨by lia,by lia⟩))) fB) (am rfl rfl))) E)⟩
  rw[cK]at y;have m:ps.length<=3:=by lia
  apply ak;refine bi (bH x) ?_;have l:=dF l;simp only[bm,cS,or_false]at l
  have mk:∀w:Wrd,w≠.never->wd=w.s->∃r:Rul,D.tup [.str wd,.int (t % n),.lst (ps.map Prt.toD)]=r.toD/\Ru5 n.toNat r:=λw J e=>⟨⟨w,t % n,ps⟩,by rw[e];cases w <;> first |rfl |exact absurd rfl J,⟨λ_=>⟨L,by show t % n<_;lia⟩,λp a=>(h p a).1,by show ps.length<=_;lia⟩,λp a=>(h p a).2,m⟩
  apply ak;refine aU (b:=wd == "never") (bq (ap rfl rfl (pU _ _))) (λe=>?_) λe=>bK ?_
  .refine dX (d:=.tup [.str wd,.non,.lst (ps.map Prt.toD)]) rfl (eT ⟨⟨.never,0,ps⟩,by rw[eq_of_beq e];rfl,⟨λq=>absurd rfl q,λp a=>(h p a).1,by show ps.length<=_;lia⟩,λp a=>(h p a).2,m⟩)
  .refine dX (d:=.tup [.str wd,.int (t % n),.lst (ps.map Prt.toD)]) (cP (am rfl (am (ap (aD rfl A) rfl (cp (by lia))) (am rfl rfl)))) (eT ?_)
   rcases l with q |q |q |q |q |q |q |q
   .exact mk .make (λz=>nomatch z) q
   .exact mk .make (λz=>nomatch z) q
   .exact mk .make (λz=>nomatch z) q
   .exact mk .make (λz=>nomatch z) q
   .exact mk .may (λz=>nomatch z) q
   .exact mk .may (λz=>nomatch z) q
   .exact mk .may (λz=>nomatch z) q
   .rw[q]at e;nomatch e
def ptE(h:f M=aa (.int v)):mPt f M=aa (aa v):=by unfold mPt;rw[h];rfl
def ru1{w:Wrd}{hd:Int}{ps:List Prt}(h:0<=hd/\hd<(n:Int))(a:∀p∈ps,p.Ok n/\(nmP p).length<=3)(b:ps.length<=3):Ru5 n ⟨w,hd,ps⟩:=⟨⟨λ_=>h,λp q=>(a p q).1,by show ps.length<=_;lia⟩,λp q=>(a p q).2,b⟩
def T2(c n:Int)(x:0<=n)(A:n<=60):∃C:LRu,zG [.int c,.int n]=aa (C.map Rul.toD)/\(∀r∈C,Ru5 n.toNat r)/\C.length<=n.toNat:=by
 suffices h:wp t7 _ (λr=>∃C:LRu,r=.rtO (C.map Rul.toD)/\(∀r∈C,Ru5 n.toNat r)/\C.length<=n.toNat) by
  obtain⟨r,e,C,rfl,h⟩:=h;exact⟨C,l9 e,h⟩
 apply ak;refine dW rfl ?_;walk_at "nrm";apply ak;refine dh _ _ (λpre M=>∃(C:LRu) (f:Sl),M=[.im _,.im _,.own (C.map Rul.toD),f]/\(∀r∈C,Ru5 n.toNat r)/\C.length<=pre.length) (pV rfl x (by lia)) ⟨[],_,rfl,(λr hr=>nomatch hr),aM _⟩ ?_ ?_
 .rintro pre j post M ex ⟨C,f,rfl,g,h2⟩;have y:j<n.toNat:=fX.mp (by rw[ex];simp)
  have v:pre.length<n.toNat:=by
   have:pre.length<(bI n.toNat).length:=by rw[ex];simp
   simpa using this
  have u:=dS (j+1:Int) (show n≠0 by lia);have m1:=gr (j+1:Int) (show 0<n by lia);have one:1<=3:=by decide
  have add:∀r:Rul,Ru5 n.toNat r->∃(a:LRu) (f:Sl),[.im _,.im _,.own (C.map Rul.toD++[r.toD]),.im (.int j)]=[Sl.im (.int c),.im (.int n),.own (a.map Rul.toD),f]/\(∀r∈a,Ru5 n.toNat r)/\a.length<=(pre++[j]).length:=λr hr=>⟨C++[r],_,by rw[bh];rfl,λq w=>by rcases bP.mp w with z |z;exact g q z;rw[ci.mp z];exact hr,by rw[aR,aR];exact Nat.add_le_add_right h2 _⟩
  have no:∀{k:Int},c % 4≠k->∀M:LS,M[0]?=aa (.im (.int c))->mB (m2 dEq (m2 bT (ae 0) (kI 4)) (λ_=>aa _)) M=aa ag:=λ{k} h M e=>bq (ap (ap (by unfold ae;rw[e]) rfl (cp (by decide))) rfl ((jK _ _).trans (by rw[beq_false_of_ne h])));have ye:∀{k:Int},c % 4=k->∀M:LS,M[0]?=aa (.im (.int c))->mB (m2 dEq (m2 bT (ae 0) (kI 4)) (λ_=>aa _)) M=aa ac:=λ{k} h M e=>bq (ap (ap (by unfold ae;rw[e]) rfl (cp (by decide))) rfl ((jK _ _).trans (by rw[h,beq_self_eq_true])));refine⟨_,rfl,?_⟩;apply ak
  by_cases i:c % 4=1
  .refine aU (ye i _ rfl) (λ_=>?_) λz=>nomatch z;refine gc (d:=Rul.toD ⟨.make,j,[.inn _]⟩) (cP (am rfl (am rfl (am (bH (am (cP (am rfl (am (ap (ap rfl rfl fB) rfl (cp (by lia))) rfl))) rfl)) rfl)))) rfl (by rw[aB];lia) ?_;apply ak;refine aU (no (by lia) _ rfl) (λz=>nomatch z) λ_=>bK ?_;exact aU (no (by lia) _ rfl) (λz=>nomatch z) λ_=>bK (add _ (ru1 ⟨by lia,by lia⟩ (λp b=>by rw[ci.mp b];exact⟨⟨u,by lia⟩,one⟩) one))
  .refine aU (no i _ rfl) (λz=>nomatch z) λ_=>bK ?_;apply ak
   by_cases l:c % 4=2
   .refine aU (ye l _ rfl) (λ_=>?_) λz=>nomatch z;refine gc (d:=Rul.toD ⟨.make,j,[.out _]⟩) (cP (am rfl (am rfl (am (bH (am (cP (am rfl (am (ap (ap rfl rfl fB) rfl (cp (by lia))) rfl))) rfl)) rfl)))) rfl (by rw[aB];lia) ?_;exact aU (no (by lia) _ rfl) (λz=>nomatch z) λ_=>bK (add _ (ru1 ⟨by lia,by lia⟩ (λp b=>by rw[ci.mp b];exact⟨⟨u,by lia⟩,one⟩) one))
   .refine aU (no l _ rfl) (λz=>nomatch z) λ_=>bK ?_
    by_cases m:c % 4=3
    .refine aU (ye m _ rfl) (λ_=>?_) λz=>nomatch z;exact gc (d:=Rul.toD ⟨.may,j,[]⟩) rfl rfl (by rw[aB];lia) (add _ (ru1 ⟨by lia,by lia⟩ (λp b=>nomatch b) (b9 _)))
    .refine aU (no m _ rfl) (λz=>nomatch z) λ_=>bK ⟨C,_,rfl,g,by rw[aR];lia⟩
 .rintro M ⟨C,f,rfl,g,h2⟩;rw[cK]at h2;exact l8 rfl ⟨C,rfl,g,h2⟩
def T3{x:D}(E:Scr x ns)(U:ns.length<=63){top:Int}(t1:1<=top)(t6:top<=6):∃(n:Nat) (C:LRu),t9 [x,.int top]=aa (pl0 n C)/\(n:Int)<top/\(∀r∈C,Ru5 n r)/\C.length<=5+ns.length:=by
 suffices h:∃d,t9 _=aa d/\∃(n:Nat) (C:LRu),d=pl0 n C/\n<top/\(∀r∈C,Ru5 n r)/\C.length<=5+ns.length by
  obtain⟨d,e,n,C,rfl,h⟩:=h;exact⟨n,C,e,h⟩
 obtain⟨v,J⟩:=Ci E (Int.le_refl _);have G:=dS v (show top≠0 by lia);have m1:=gr v (show 0<top by lia);obtain⟨C,j,N,h2⟩:=T2 _ _ G (by lia);obtain⟨u,Y,I⟩:=kC (f:=D.int) (B:=[60,60,40,24,10,5]) G (by show v % top<6;lia);apply l7;apply ak;refine bi (aD rfl J) ?_;apply ak;refine bi (ap rfl rfl (cp (by lia))) ?_;apply ak
 refine dW (tN (am (ap rfl rfl (kO (by first |exact .inl ⟨by lia,by lia⟩ |exact .inr ⟨by lia,by lia⟩ |exact⟨by lia,by lia⟩))) (am rfl rfl)) j) ?_
 have g:((ns.drop (HT.sIx ns.length 0 (aa 1))).take (HT.sIx ns.length ns.length (aa (1+u))-HT.sIx ns.length 0 (aa 1))).length<=ns.length:=by
  grind
 generalize m:(ns.drop _).take _=A at g;generalize hn:v % top=n at *;apply ak;refine dh A D.int (λpre M=>∃(a:LRu) (i:Sl),M=[.im x,.im _,.im _,.im _,.own (a.map Rul.toD),i]/\(∀r∈a,Ru5 n.toNat r)/\a.length<=5+pre.length) (fu (bH ((E.sl rfl rfl (ptE (ap rfl (be rfl rfl I) fB))).trans (by rw[m]))) rfl) ⟨C,_,rfl,N,by show _<=5;lia⟩ ?_ ?_
 .rintro pre c post M ex ⟨a,i,rfl,l,L⟩;have Q:pre.length<A.length:=by rw[ex];simp
  have add:∀r:Rul,Ru5 n.toNat r->∃(b:LRu) (i:Sl),[.im x,.im _,.im _,.im _,.own (a.map Rul.toD++[r.toD]),.im (.int c)]=[Sl.im x,.im (.int top),.im (.int v),.im (.int n),.own (b.map Rul.toD),i]/\(∀r∈b,Ru5 n.toNat r)/\b.length<=5+(pre++[c]).length:=λr hr=>⟨a++[r],_,by rw[bh];rfl,λq T=>by rcases bP.mp T with z |z;exact l q z;rw[ci.mp z];exact hr,by rw[aR,aR];show _+1<=5+(_+1);lia⟩
  refine⟨_,rfl,?_⟩;refine aU (bq (ap rfl rfl (jK _ _))) (λz=>?_) λz=>?_
  .have w:n=0:=by simpa using z
   exact gc (d:=Rul.toD ⟨.never,0,[.most _ []]⟩) (cP (am rfl (am rfl (am (bH (am (cP (am rfl (am (ap (ap rfl rfl (cp (by decide))) rfl jN) (am rfl rfl)))) rfl)) rfl)))) rfl (by rw[aB];lia) (add _ ⟨⟨λq=>absurd rfl q,(λp y=>by rw[ci.mp y];exact⟨λz hz=>(nomatch hz),b9 _⟩),(by decide:1<=100000)⟩,λp y=>by rw[ci.mp y];exact b9 _,(by decide:1<=3)⟩)
  .have w:n≠0:=λq=>by rw[q]at z;nomatch z
   obtain⟨d,H,r,rfl,hr⟩:=T1 c n (by lia);exact gc (aD rfl H) rfl (by rw[aB];lia) (add r hr)
 .rintro M ⟨a,i,rfl,l,L⟩;refine nX rfl (dX rfl (eT ⟨n.toNat,a,?_,by lia,l,by lia⟩));unfold pl0;rw[show(n.toNat:Int)=n by lia]
def T4(p:Prt):zC [p.toD]=aa p.toD:=by
 cases p with
 |inn t=>rfl
 |out t=>rfl
 |least k E=>rfl
 |most k E=>rfl
def T5(hr:∀r∈C,Ru5 n r)(f:C.length<=1000):qx [pl0 n C]=aa (pl0 n C):=by
 apply iT;apply ak;refine dW rfl ?_;apply ak;refine dh C Rul.toD (λpre M=>∃a b c,M=[.im _,.own (pre.map Rul.toD),a,b,c]) (fu (be rfl rfl rfl) rfl) ⟨_,_,_,rfl⟩ ?_ ?_
 .rintro pre r post M ex ⟨a,b,c,rfl⟩;have d:pre.length<C.length:=by rw[ex];simp
  have e:=(hr r (by rw[ex];simp)).ln;refine⟨_,rfl,?_⟩;refine gc (cP (am rfl (am rfl (am (bH (gb r.ps Prt.toD Prt.toD rfl (by lia) λp _=>fO rfl rfl (aD rfl (T4 p)))) rfl)))) rfl (by rw[aB];lia) ⟨.im (.str r.w.s),.im r.hdD,.im (.lst (r.ps.map Prt.toD)),?_⟩;rw[bh];rfl
 .rintro M ⟨a,b,c,rfl⟩;exact nX rfl (dX rfl (eT rfl))
def T6(a:n<=5)(hr:∀r∈C,Ru5 n r)(c:C.length<=69):Par n (64*4*C.length) 950900 4760000 C:=by
 have b:3 ^ n<=243:=Nat.pow_le_pow_right (by decide) a
 have key:∀U5 U3:Nat,U5=950900->U3=4760000->Par n (64*4*C.length) U5 U3 C:=λU5 U3 hC hB=>by
  have hm:=rT (U5+1) a;exact⟨λr q=>(hr r q).k,by lia,by lia,by lia,by lia,by lia⟩
 exact key _ _ rfl rfl
def T7(hr:∀r∈C,Ru5 n r):∀r∈C,(grd r).length<=4:=λr q=>by
 have:=(hr r q).ln;obtain⟨w,hd,ps⟩:=r;have this:ps.length<=3:=this
 cases w with
 |may=>exact(by decide:1<=4)
 |never=>show ps.length<=4;lia
 |make=>show(ps++[_]).length<=4;rw[aR];show _+1<=4;lia
def T8:Car n c0 U5 U3 C (λ_ _ _=>True) λ_ _=>True:=⟨λ_ _ _ _ _ _=>trivial,λ_ _ _ _ _ _ _ _ _ _=>trivial,λ_ _ _ _ _ _ _=>trivial,λ_ _ _ _ _ _ _ _ _ _=>trivial,λ_ _ _ _ _ _ _=>trivial⟩
def Cj(ws:List (LI0)):eS 20 (wsD ws):=by
 refine eS.le (n:=3) (λx a=>?_) (by decide);obtain⟨w,_,rfl⟩:=aT.mp a;exact MK w
variable{most:Int}
def T9(ws:List (LI0))(h:0<=most):(ws.drop (HT.sIx ws.length 0 ab)).take (HT.sIx ws.length ws.length (aa most)-HT.sIx ws.length 0 ab)=ws.take most.toNat:=by
 rw[show aa most=aa (most.toNat:Int) by rw[show(most.toNat:Int)=most by lia],HT.sIx_nat,HT.sIx_none,drop_zero,Nat.sub_zero]
 by_cases a:most.toNat<=ws.length
 .rw[Nat.min_eq_left a]
 .rw[Nat.min_eq_right (by lia),take_length,oO (by lia)]
def Ij{ws:List (LI0)}{pp:LD}(f:pp≠[])(h:0<=most):t4 [if (ws.length:Int)<=most then .tup [wsD ws,.bl ac,.lst pp] else .tup [wsD (ws.take most.toNat),.bl ag,.lst []],wsD ws,.int most]=aa (.bl ac):=by
 have sl:∀M:LS,M[1]?=aa (.im (wsD ws))->M[2]?=aa (.im (.int most))->aJ (mSl (ae 1) (λ_=>aa ab) (mPt (ae 2))) M=aa (wsD _):=λM d e=>by
  refine(bH (n4 (by unfold ae;rw[d];rfl) rfl (ptE (by unfold ae;rw[e])))).trans ?_;rw[T9 ws h];rfl
 have ln:∀M:LS,M[1]?=aa (.im (wsD ws))->au bJ (af _ nZ) M=aa _:=λM d=>aD (am (show ae 1 M=aa (wsD ws) by unfold ae;rw[d]) rfl) (dO ws wD);apply iT
 by_cases a:ws.length<=most
 .rw[if_pos a];have g:ws.take most.toNat=ws:=oO (by lia);have c:=sl [.im (.tup [wsD ws,.bl ac,.lst pp]),.im _,.im _] rfl rfl;rw[g]at c;apply ak;refine aU (l5 rfl (l5 rfl (bq (ap rfl c (Ex (Cj ws)))))) (λz=>nomatch z) λ_=>bK ?_;apply ak;refine aU (b:=ag) (bq (ap (ln _ rfl) rfl (jf.trans (by rw[decide_eq_false (by lia)])))) (λz=>nomatch z) λ_=>bK ?_;refine dX ?_ (eT rfl);refine(kH rfl (kH rfl (ap (aD rfl (by show bJ _=aa _;rfl)) rfl jf))).trans ?_;have:=length_pos_iff.mpr f;rw[decide_eq_true (by lia)];rfl
 .rw[if_neg a];apply ak;refine aU (l5 rfl (l5 rfl (bq (ap rfl (sl _ rfl rfl) (Ex (Cj _)))))) (λz=>nomatch z) λ_=>bK ?_;apply ak;exact aU (b:=ac) (bq (ap (ln _ rfl) rfl (jf.trans (by rw[decide_eq_true (by lia)])))) (λ_=>(dX rfl (eT rfl))) λz=>nomatch z
def Ua(ns:LI0)(h:ns.length<=63):m_3 [.kl (ns.map D.int)]=aa (.bl ac):=by
 have q:=TX ns;obtain⟨l,y⟩:=Ci q (i:=1) (by decide);obtain⟨H,A⟩:=Ci q (i:=2) (by decide)
 have f:((ns.drop (HT.sIx ns.length 0 ab)).take (HT.sIx ns.length ns.length (aa 9)-HT.sIx ns.length 0 ab)).length<=63:=by
  rw[length_take,length_drop];lia
 generalize p:(ns.drop _).take _=x at f;obtain⟨n,C,B,hn,hr,I⟩:=T3 (TY x) f (top:=4) (by decide) (by decide);have m:=T5 hr (by lia);obtain⟨ws,s,_,g,G,r⟩:=TW (T6 (by lia) hr (by lia)) (T7 hr) T8 trivial;have E:3 ^ n<=27:=Nat.pow_le_pow_right (by decide) (by lia:n<=3);have e:=r 33 (by decide);rw[if_pos (by lia)]at e;have u:ki 10 30:=⟨by decide,by decide,by decide⟩;have j:(0:Int)<10 ^ (30:Int).toNat:=by decide
 apply iT;apply ak;refine bi (aD (am (bH ((q.sl rfl rfl rfl).trans (by rw[p]))) (am rfl rfl)) B) ?_;apply ak;refine bi (aD (am (aD rfl m) (am rfl rfl)) e) ?_;apply ak;refine aU (l5 rfl (l5 rfl rfl)) (λz=>nomatch z) λ_=>bK ?_;apply ak;refine bi (bH (gb ws wD wD rfl (by lia) λw _=>fO rfl rfl rfl)) ?_;apply ak;refine bi (aD rfl rfl) ?_;apply ak;refine bi (d:=.lst (([0,1,_,if (0:Int)>ws.length-1 then 0 else ws.length-1,ws.length+1,l % 10 ^ (30:Int).toNat]:LI0).map D.int)) (bH (am rfl (am rfl (am (aD rfl (dO ws wD)) (am (aD (am (ap (aD rfl (dO ws wD)) rfl jN) (am rfl rfl)) rfl) (am (ap (aD rfl (dO ws wD)) rfl fB) (am (ap (aD rfl y) (ap rfl rfl (qc u)) (cp j)) rfl))))))) ?_;refine Fe (λM=>∃c:LI0,M=[.im (.kl (ns.map D.int)),.im (pl0 n C),.im (.tup [wsD ws,.bl ac,.lst s.pp]),.im (wsD ws),.im (.int s.pp.length),.im (.lst (c.map D.int)),.no]/\∀a∈c,0<=a) ?_ ?_
 .have b:∀a∈([0,1,ws.length,if (0:Int)>ws.length-1 then 0 else ws.length-1,ws.length+1,l % 10 ^ (30:Int).toNat]:LI0),0<=a:=λa ha=>by
   simp only[bm,cS,or_false]at ha
   rcases ha with rfl |rfl |rfl |rfl |rfl |rfl
   .decide
   .decide
   .omega
   .split <;> lia
   .omega
   .exact(dS l (Int.ne_of_gt j))
  generalize ([0,1,_,if (0:Int)>ws.length-1 then 0 else ws.length-1,ws.length+1,l % 10 ^ (30:Int).toNat]:LI0)=c at *;refine aU (bq (ap (ap (aD rfl A) rfl (cp (by decide))) rfl (jK _ _))) (λ_=>?_) λ_=>bK (k_J ⟨c,rfl,b⟩);refine bi (bH ?_) (k_J ⟨c.reverse,rfl,λa ha=>b a (i0.mp ha)⟩);show aa (c.map D.int).reverse=_;rw[mM]
 .rintro M ⟨c,rfl,b⟩;apply ak;refine dh c D.int (λpre M=>∃v,M=[.im _,.im _,.im _,.im _,.im _,.im _,v]) rfl ⟨_,rfl⟩ ?_ ?_
  .rintro pre a post M ex ⟨v,rfl⟩;have ha:=b a (by rw[ex];simp);refine⟨_,rfl,?_⟩;refine aU (kG (cI (aD (am (aD (am (aD rfl m) (am rfl rfl)) (r a ha)) (am rfl (am rfl rfl))) (Ij g ha)) rfl)) (λz=>nomatch z) λ_=>bK ⟨_,rfl⟩
  .rintro M ⟨v,rfl⟩;apply ak;refine aU (kG (cI (aD (am (aD ?_ (r 1 (by decide))) (am rfl (am rfl rfl))) (Ij g (by decide))) rfl)) (λz=>nomatch z) λ_=>bK ?_
   .show Option.map _ _=_;rw[am (aD rfl m) rfl];rfl
   refine dX ?_ (eT rfl);refine(kH (ap rfl rfl (ME (Cj ws))) (kH (a:=ac) rfl (ap (aD rfl rfl) rfl (jK _ _)))).trans ?_;rw[beq_self_eq_true];rfl
abbrev sp_law(K:aO):Sp:=λvs H Q _=>∃(a:Addr) (ns:LI0),vs=[.ref a]/\SqL K H a (ns.map V.int)/\ns.length<=63/\∀H',Q (.bl ac) H'
variable{K:aO}
def sp_law_of{H:Hp}{a:Addr}{U4:XK}(c:ns.length<=63)(b:SqL K H a (ns.map V.int)):sp_law K [.ref a] H (λv _=>v=.bl ac) U4:=⟨a,ns,rfl,b,c,λ_=>rfl⟩
variable{w:World}
def law_ok{a:Wa}(W:Wd K mg a):b8 P w K mg base CX0 11 a.e_3.1 a.e_3.2 ["_law_script"] (sp_law K):=(RF W).ok.imp λvs H Q U4 ⟨a,ns,b,c,d,k⟩=>
 ⟨H,[.kl (ns.map D.int)],.bl ac,aq.refl _,⟨.ref a,[],b,⟨a,_,rfl,c,ao.ints ns⟩,rfl⟩,rfl,Ua ns d,λv Hf' H' x r=>by rw[show v=V.bl ac from r];exact k H'⟩
variable{P:LVa->Prop}
def uV(h:P []):∀us:LVa,us.length=0->P us:=λus e=>by
 rw[eq_nil_of_length_eq_zero e];exact h
def jp(h:∀a (us:LVa),us.length=n->P (a::us)):∀us:LVa,us.length=n+1->P us:=λus e=>by
 cases us with
 |nil=>cases e
 |cons a us=>exact h a us (Nat.succ.inj e)
def Ck(h:∀a:Value,P [a]):∀us:LVa,us.length=1->P us:=jp (P:=λus=>P (us)) λa=>uV (h a)
def Ik(h:∀a b:Value,P [a,b]):∀us:LVa,us.length=2->P us:=jp (P:=λus=>P (us)) λa=>jp (P:=λus=>P (a::us)) λb=>uV (h a b)
def Ub(h:∀a b c:Value,P [a,b,c]):∀us:LVa,us.length=3->P us:=jp (P:=λus=>P (us)) λa=>jp (P:=λus=>P (a::us)) λb=>jp (P:=λus=>P (a::b::us)) λc=>uV (h a b c)
def Uc(h:∀a b c d:Value,P [a,b,c,d]):∀us:LVa,us.length=4->P us:=jp (P:=λus=>P (us)) λa=>jp (P:=λus=>P (a::us)) λb=>jp (P:=λus=>P (a::b::us)) λc=>jp (P:=λus=>P (a::b::c::us)) λd=>uV (h a b c d)
local macro_rules | `(tactic| walk_at "bd")=>`(tactic| exact λ_ _ _ _ _ _=>by first | exact Ck λ_=>rfl | exact Ik λ_ _=>rfl | exact Ub λ_ _ _=>rfl | exact Uc λ_ _ _ _=>rfl)
set_option autoImplicit true in
def all_mk{ad ae af ag ai aj ak al am an ao ap aq ar as au aw ax:Addr}{h:Heap}{bR aE aF aG aH aI aJ aK aL aM aN bS bT aO aP aQ bU aR aS aT bV aU aV aW aX aY aZ a0 a1 bW a2 a3 a4 a5 a6 a7 a8 a9 ba bb bc bd be bf bg bh bi bj bk bl bm bn bo bp bq br bs bu bv bw bx bz bA bX bB bC bD bY bZ j m d w l q f b c p g n bE:cz}{U:Nat}{e6:Tok}{eH:Nat}{fa:Addr}(X:K.In h)(G:h.Ns cj mg)(hfa:mg "law"=aa (.ref fa))
 (b0:dL K cj "In"=aa (aa (.ref ad)))
 (bF:dL K cj "Out"=aa (aa (.ref ae)))
 (fx:dL K cj "Least"=aa (aa (.ref af)))
 (ay:dL K cj "Most"=aa (aa (.ref ag)))
 (M:dL K cj "Spreading"=aa (aa (.ref ai)))
 (Y:dL K cj "Seeking"=aa (aa (.ref aj)))
 (c5:Dq K "marks" s_1 f_1 bR)
 (b8:Dq K "numbers" xY f_18 aE)
 (b9:Dq K "part_of" xZ f_34 aF)
 (ca:Dq K "things_of" x6 f_35 aG)
 (cb:Dq K "worth_in" x8 f_19 aH)
 (cc:Dq K "worth_not_out" x9 f_13 aI)
 (cd:Dq K "worth_of" ya f_36 aJ)
 (ce:Dq K "outside" yb f_37 aK)
 (cf:Dq K "heavy" yc f_20 aL)
 (cg:Dq K "weights_of" yd f_14 aM)
 (ch:Dq K "with_entry" yf f_15 aN)
 (c6:Dq K "enough" s_7 f_7 bS)
 (c7:Dq K "body_of" s_2 f_2 bT)
 (ci:Dq K "guard_of" yg f_21 aO)
 (ck:Dq K "guard_of_bar" yh f_47 aP)
 (cm:Dq K "pressed_by" yi f_70 aQ)
 (c8:Dq K "lost_part" s_5 f_5 bU)
 (cn:Dq K "own_why" yj f_22 aR)
 (co:Dq K "needed_first" ym f_38 aS)
 (cp:Dq K "_law_cell_at" yn f_23 aT)
 (c9:Dq K "_law_mixed" s_6 f_6 bV)
 (cq:Dq K "_law_items" yo f_39 aU)
 (cr:Dq K "_law_part" yp f_24 aV)
 (cs:Dq K "_law_rule" yq f_25 aW)
 (ct:Dq K "_law_base" yr f_26 aX)
 (cu:Dq K "_law_plain" yt f_27 aY)
 (cv:Dq K "_law_part_again" yu f_48 aZ)
 (cw:Dq K "_law_again" yv f_16 a0)
 (cx:Dq K "_law_fits" yw f_28 a1)
 (cy:Dq K "law" s_3 f_3 bW)
 (bG:Dp K ad "__init__" "In.__init__" yx f_66 a2)
 (cA:Dp K ad "named" "In.named" yy f_40 a3)
 (cB:Dp K ad "wants" "In.wants" yA f_49 a4)
 (cC:Dp K ad "sure" "In.sure" yB f_50 a5)
 (cD:Dp K ad "sure_by" "In.sure_by" yC f_51 a6)
 (cE:Dp K ad "tips" "In.tips" yD f_52 a7)
 (cF:Dp K ad "lost" "In.lost" yE f_29 a8)
 (cG:Dp K ad "lost_by" "In.lost_by" yF f_53 a9)
 (bH:Dp K ae "__init__" "Out.__init__" yG f_67 ba)
 (cH:Dp K ae "named" "Out.named" yH f_41 bb)
 (cI:Dp K ae "wants" "Out.wants" yI f_54 bc)
 (cJ:Dp K ae "sure" "Out.sure" yJ f_55 bd)
 (cK:Dp K ae "sure_by" "Out.sure_by" yK f_56 be)
 (cL:Dp K ae "tips" "Out.tips" yL f_57 bf)
 (cM:Dp K ae "lost" "Out.lost" yM f_30 bg)
 (cN:Dp K ae "lost_by" "Out.lost_by" yN f_58 bh)
 (bI:Dp K af "__init__" "Least.__init__" yO f_68 bi)
 (cO:Dp K af "named" "Least.named" yP f_42 bj)
 (cP:Dp K af "wants" "Least.wants" yQ f_59 bk)
 (cQ:Dp K af "sure" "Least.sure" yR f_60 bl)
 (cR:Dp K af "sure_by" "Least.sure_by" yS f_61 bm)
 (cS:Dp K af "tips" "Least.tips" yT f_43 bn)
 (cT:Dp K af "lost" "Least.lost" yU f_31 bo)
 (cU:Dp K af "lost_by" "Least.lost_by" yV f_44 bp)
 (bJ:Dp K ag "__init__" "Most.__init__" yW f_69 bq)
 (cV:Dp K ag "named" "Most.named" yX f_45 br)
 (cW:Dp K ag "wants" "Most.wants" yY f_62 bs)
 (cX:Dp K ag "sure" "Most.sure" yZ f_63 bu)
 (cY:Dp K ag "sure_by" "Most.sure_by" y4 f_64 bv)
 (cZ:Dp K ag "tips" "Most.tips" y6 f_46 bw)
 (c0:Dp K ag "lost" "Most.lost" y7 f_32 bx)
 (c1:Dp K ag "lost_by" "Most.lost_by" y8 f_65 bz)
 (bK:Dp K aj "__init__" "Seeking.__init__" y9 f_11 bA)
 (da:Dp K aj "another" "Seeking.another" s_8 f_8 bX)
 (c2:Dp K aj "close" "Seeking.close" za f_12 bB)
 (c3:Dp K aj "place_for" "Seeking.place_for" zb f_33 bC)
 (c4:Dp K aj "line_to" "Seeking.line_to" zc f_17 bD)
 (db:Dp K aj "grounds" "Seeking.grounds" s_4 f_4 bY)
 (dc:Dp K aj "grounds_of_group" "Seeking.grounds_of_group" s_9 f_9 bZ)
 (A:Dp K aj "take_guard" "Spreading.take_guard" zd ak j)
 (C:Dp K aj "take_bar" "Spreading.take_bar" ze al m)
 (x:Dp K aj "drop_wider" "Spreading.drop_wider" zf am d)
 (L:Dp K aj "put" "Spreading.put" zg an w)
 (B:Dp K aj "take_back" "Spreading.take_back" zh ao l)
 (I:Dp K aj "settle" "Spreading.settle" zi ap q)
 (y:Dp K aj "look_round" "Spreading.look_round" zj aq f)
 (r:Dp K aj "put_loose_out" "Spreading.put_loose_out" zk ar b)
 (u:Dp K aj "loose_marks" "Spreading.loose_marks" zl as c)
 (H:Dp K aj "kernel" "Spreading.kernel" zm au p)
 (z:Dp K aj "lost_parts" "Spreading.lost_parts" zn aw g)
 (E:Dp K aj "keeping" "Spreading.keeping" zo ax n)
 (dd:dL K cj "worlds"=aa (aa (.ref f_0)))
 (de:K.lookup f_0=aa ⟨oc_0,od_0,.func (iB "worlds" "worlds" (jE s_0) (fh s_0) (av s_0) (.ref U) kV_0 dc_0 pm_0 an_0 cd_0 ct_0),sl_0⟩)
 (J:K.lookup U=aa ⟨oT_worlds,dT_worlds,.seq #[.int 1 e6] eH,sT_worlds⟩)
 (df:W.codeIn K cd_0 "worlds"=ac)
 (dg:e8 K (.ref f_0)=ac)
 (T:W.specialIn K (.ref ai) "__getattribute__"=aa (aa (.builtin "type.__getattribute__")))
 (Q:W.readsIn K ai (.type "type")=ac)
 (N:W.findCls K (.ref ai) (.type "type") "__init__"=aa (.val (.ref f_10)))
 (b1:jB K ad m8=ac)
 (b2:ka K ad=ac)
 (b3:lI K ad=ac)
 (b4:b7 K (.ref ad) "__setattr__"=aa (aa (.builtin "object.__setattr__")))
 (rs:lJ K ad=ac)
 (b5:e8 K (.ref ad)=ac)
 (og:b7 K (.ref ad) "thing"=aa ab)
 (bL:jB K ae m8=ac)
 (bM:ka K ae=ac)
 (bN:lI K ae=ac)
 (bO:b7 K (.ref ae) "__setattr__"=aa (aa (.builtin "object.__setattr__")))
 (q4:lJ K ae=ac)
 (bP:e8 K (.ref ae)=ac)
 (n5:b7 K (.ref ae) "thing"=aa ab)
 (gv:jB K af m8=ac)
 (fy:ka K af=ac)
 (gw:lI K af=ac)
 (hF:b7 K (.ref af) "__setattr__"=aa (aa (.builtin "object.__setattr__")))
 (pz:lJ K af=ac)
 (ge:e8 K (.ref af)=ac)
 (mu:b7 K (.ref af) "bound"=aa ab)
 (l0:b7 K (.ref af) "pieces"=aa ab)
 (az:jB K ag m8=ac)
 (aA:ka K ag=ac)
 (aB:lI K ag=ac)
 (aC:b7 K (.ref ag) "__setattr__"=aa (aa (.builtin "object.__setattr__")))
 (qa:lJ K ag=ac)
 (aD:e8 K (.ref ag)=ac)
 (nS:b7 K (.ref ag) "bound"=aa ab)
 (nk:b7 K (.ref ag) "pieces"=aa ab)
 (d2:jB K aj m8=ac)
 (dr:ka K aj=ac)
 (eg:lI K aj=ac)
 (eh:b7 K (.ref aj) "__setattr__"=aa (aa (.builtin "object.__setattr__")))
 (pj:lJ K aj=ac)
 (d0:e8 K (.ref aj)=ac)
 (kr:b7 K (.ref aj) "sheet"=aa ab)
 (nq:b7 K (.ref aj) "steps"=aa ab)
 (md:b7 K (.ref aj) "bars"=aa ab)
 (kT:b7 K (.ref aj) "guards"=aa ab)
 (hY:b7 K (.ref aj) "watches"=aa ab)
 (kQ:b7 K (.ref aj) "waiting"=aa ab)
 (lb:b7 K (.ref aj) "makers"=aa ab)
 (ny:b7 K (.ref aj) "paper"=aa ab)
 (lk:b7 K (.ref aj) "count"=aa ab)
 (nL:b7 K (.ref aj) "ended"=aa ab)
 (r4:dL K cj "any"=aa ab)
 (oo:dL K cj "enumerate"=aa ab)
 (n7:dL K cj "isinstance"=aa ab)
 (sf:dL K cj "len"=aa ab)
 (o6:dL K cj "list"=aa ab)
 (sk:dL K cj "max"=aa ab)
 (p4:dL K cj "range"=aa ab)
 (pb:dL K cj "reversed"=aa ab)
 (su:dL K cj "set"=aa ab)
 (pw:dL K cj "sorted"=aa ab)
 (ro:dL K cj "sum"=aa ab)
 (qq:dL K cj "tuple"=aa ab)
 (b6:Fun K "__init__" "Spreading.__init__" zp f_10 bE)
 (qs:pO K "list")
 (p5:pO K "tuple")
  : ∃a:Wa,∃W:Wd K mg a,a.e_3.1=fa/\∀(s:ah) (v:Value),BindsTo s a.e_3.2 ⟨[v],[]⟩ [("_law_script",v)]:=by
 have e:=hfa.symm.trans (jC X G cy.a);cases e;have hc:∃cl:Str->Addr,ad=cl "In" /\ ae=cl "Out" /\ af=cl "Least" /\ ag=cl "Most" /\ aj=cl "Seeking":=⟨λs=>if s="In" then ad else if s="Out" then ae else if s="Least" then af else if s="Most" then ag else if s="Seeking" then aj else 0,rfl,rfl,rfl,rfl,rfl⟩;obtain⟨cl,rfl,rfl,rfl,rfl,rfl⟩:=hc
 exact⟨⟨(f_1,bR),(f_18,aE),(f_34,aF),(f_35,aG),(f_19,aH),(f_13,aI),(f_36,aJ),(f_37,aK),(f_20,aL),(f_14,aM),(f_15,aN),(f_7,bS),(f_2,bT),(f_21,aO),(f_47,aP),(f_70,aQ),(f_5,bU),(f_0,_),(f_22,aR),(f_38,aS),(f_23,aT),(f_6,bV),(f_39,aU),(f_24,aV),(f_25,aW),(f_26,aX),(f_27,aY),(f_48,aZ),(f_16,a0),(f_28,a1),(f_3,bW),(f_66,a2),(f_40,a3),(f_49,a4),(f_50,a5),(f_51,a6),(f_52,a7),(f_29,a8),(f_53,a9),(f_67,ba),(f_41,bb),(f_54,bc),(f_55,bd),(f_56,be),(f_57,bf),(f_30,bg),(f_58,bh),(f_68,bi),(f_42,bj),(f_59,bk),(f_60,bl),(f_61,bm),(f_43,bn),(f_31,bo),(f_44,bp),(f_69,bq),(f_45,br),(f_62,bs),(f_63,bu),(f_64,bv),(f_46,bw),(f_32,bx),(f_65,bz),(f_11,bA),(f_8,bX),(f_12,bB),(f_33,bC),(f_17,bD),(f_4,bY),(f_9,bZ),(ak,j),(al,m),(am,d),(an,w),(ao,l),(ap,q),(aq,f),(ar,b),(as,c),(au,p),(aw,g),(ax,n),(f_10,bE),cl,ai⟩,⟨c5.mk2 X G,b8.mk2 X G,b9.mk2 X G,ca.mk2 X G,cb.mk2 X G,cc.mk2 X G,cd.mk2 X G,ce.mk2 X G,cf.mk2 X G,cg.mk2 X G,ch.mk2 X G,c6.mk2 X G,c7.mk2 X G,ci.mk2 X G,ck.mk2 X G,cm.mk2 X G,c8.mk2 X G,⟨Po (st:=s_0) de df dg,(F0 J rfl rfl λus hl=>by
   rw[bQ]at hl ⊢
   revert us hl
   exact Ik λ_ _=>⟨_,rfl,rfl⟩),jC X G dd⟩,cn.mk2 X G,co.mk2 X G,cp.mk2 X G,c9.mk2 X G,cq.mk2 X G,cr.mk2 X G,cs.mk2 X G,ct.mk2 X G,cu.mk2 X G,cv.mk2 X G,cw.mk2 X G,cx.mk2 X G,cy.mk2 X G,bG.mk2,cA.mk2,cB.mk2,cC.mk2,cD.mk2,cE.mk2,cF.mk2,cG.mk2,bH.mk2,cH.mk2,cI.mk2,cJ.mk2,cK.mk2,cL.mk2,cM.mk2,cN.mk2,bI.mk2,cO.mk2,cP.mk2,cQ.mk2,cR.mk2,cS.mk2,cT.mk2,cU.mk2,bJ.mk2,cV.mk2,cW.mk2,cX.mk2,cY.mk2,cZ.mk2,c0.mk2,c1.mk2,bK.mk2,da.mk2,c2.mk2,c3.mk2,c4.mk2,db.mk2,dc.mk2,A.mk2,C.mk2,x.mk2,L.mk2,B.mk2,I.mk2,y.mk2,r.mk2,u.mk2,H.mk2,z.mk2,E.mk2,Db.mk2 b6,⟨_,.cons ⟨_,rfl⟩ .nil,F0 J rfl rfl λus hq=>by
   have hl:us.length=1:=by simpa using hq
   clear hq
   revert us hl
   exact Ck λ_=>⟨_,rfl,rfl⟩⟩,jC X G b0,⟨b1,b2,b3,b4⟩,⟨rs,bG.a,bG.i,b5⟩,og,jC X G bF,⟨bL,bM,bN,bO⟩,⟨q4,bH.a,bH.i,bP⟩,n5,jC X G fx,⟨gv,fy,gw,hF⟩,⟨pz,bI.a,bI.i,ge⟩,mu,l0,jC X G ay,⟨az,aA,aB,aC⟩,⟨qa,bJ.a,bJ.i,aD⟩,nS,nk,jC X G M,⟨T,Q,N,b6.kp⟩,jC X G Y,⟨d2,dr,eg,eh⟩,⟨pj,bK.a,bK.i,d0⟩,kr,nq,md,kT,hY,kQ,lb,ny,lk,nL,gW X G r4,gW X G oo,gW X G n7,gW X G sf,gW X G o6,gW X G sk,gW X G p4,gW X G pb,gW X G su,gW X G pw,gW X G ro,gW X G qq,qs,p5⟩,rfl,cy.bt (λ_ _ _ _ _ _=>Ck λ_=>rfl)⟩
end N_k54
structure PySem.W.Fast:Prop where
 (tw11194203103614120402 tw15200852850209602539 tw4382680584870438712 tw14342304420070349865 tw1028740451943869080 tw8009568184419875260 tw15218252957904441005 tw3785056904760993319 tw9865283952413496384 tw15748263885970941939 tw7506894299843305051 tw12536782295869078123 te9773298156287514551 te17539636781558355724 te14151605744836870444 te3957500653517365419 te11725268058122091926 te2576107211784742971 te11411194523541992867 te7277263612257721670 te452201488068227601 te13909993886768046099 te889518407529115462 te1449409233596307509 te316113137567273955 te9640464416202516600 te5957904126796549238 te14212680752953942017 te3515380430336295728 te2465977062584908548 te12069748357161371754 te17739026683136332244 te10770065387295513156 te17128365166238994960 te16594423614983484018 te3295895988293839564 te17884670530564043837 te1748515573753812701 te5510013653418628769 te7848070874514046115 te5673775177838395529 te7348336650711129174 te4416824658707492854 te15389986988012931897 te13417715853778940619 te3337220169265341069 te16855246650780916786 te4844612402327163498 te17874052723236985258 te7241594024185005871 te1678816086017096527 te11855815333234348638 te8674846251567113713 te14474831232135629443 te14683648684244835618 te13242776150798352169 te12686839381044683222 te17746446073958729178 te16907521674074873744 te6462454221917874708 te12776799391840443730 te17750422453552141337 te10959010489558628442 te13721527653918307531 te11445472003491947042 te10925427057048169103 te18267457610149076614 te9657106039657310079 te6990004639709990126 te14927022448694440312 te18394360275085540815 te13636639951721331943 te8422827729979161860 te4617466179208150357 te12069532560574170543 te8317184473443256670 te5038221941383169478 te8191605839881439440 te6731214436614971888 te9971217295371978000 te1174295975074236703 te801625809083101742 te1755601072481277045 te4841018385604980552 te16769831709967359525 te2431674593873676934 te14967550605122055156 te5224498002596394773 te13938914240024872674 te9857307805277800715 te8310227096145828588 te3111540865242800760 te13793815800437445533 te6585433941722869805 te14591884129625407041 te16513562497065695504 te18204822495696158407 te7414855438920383680 te6163407207805687755 te14548746320244236099 te1590765512847430498 te17866315015107389300 te216804110957959866 te16147513578523155097 te45210747373697403 te4212011184532894439 te11513546393316879139 te2201571504492092539 te17446969914839042990 te8293338083182481656 te4699114871425253389 te3722905532266938747 te7053949042809529627 te8723704120912113292 te14784407196675379122 te8775099002069233597 te16980698116301112014 te5744787077848580753 te9831906669330062099 te8265093762483114235 te13878611866344931028 te10576270187543611910 te266443358754031282 te5724630956361427091 te12221714762230136253 te2804799710343162305 te11730518226559017257 te10091185839744536681 te1462471127352604939 te2384312735642483570 te7196024168078096834 te6017071999333542240 te8878428421494448170 te777503705638890356 te9672188645840498416 te3793919413047189388 te15519748341026883981 te1582147957377578327 te10349907501803304935 te545261973926286843 te9994970105029160916 te10643311724435981876 te1310071786377065369 te3831997499976792475 te4172382418372628490 te18328169488500449994 te17475514844630916623 te2754300524537316912 te7753752017465383519 te9947316079085477349 te3648798467588074499 te9567883254999951714 te4696178660252018907 te8358459735554738237 te9864887033447877007 te7285161439937357998 te6944863650869769432 te1992463539482507246 te16831357852798495489 te7474904516469017472 te11934779317113926946 te3845090934514710301 te6315651535237194460 te5791671721243890629 te16882926181968087174 te12571090397103336371 te10270108234508970938 te17200955087501664781 te3828159088283320782 te11258911992045929394 te6768809921166731722 te17829425220279716339 te3696247928334469227 te16736866046356624363 te2611640447163709611 te874326035173275328 te14518245666575547511 te7233720151470678119 te14611214277108202224 te13780693139353416534 te9341605372854613846 te14882789093829052497 te5356687798491053005 te5947148248664253964 te16239543936951292548 te6867774139264229485 te17605738080324300507 te3359324279162322018 te14686034741216054489 te12185133731962860323 te3774949275936067959 te9040192488660632226 te11721980474689971991 te10332026200573983730 te2311934828263732476 te1588163759557953545 te11000913105872478478 te10339625622104503445 te12090087122368128874 te10440308618341362546 te10715280928111089750 te5198076277485062842 te11307248681136134026 te17673307962714178639 te16584429826514718885 te11273096764159855948 te14511828621061788674 te7981657581827852186 te11623941914490456922 te7576647624946761926 te8584902232869731241 te3142927387224822387 te6110716233575824256 te9992146683736999617 te12310791524928501242 te11113458637720836607 te4328461384511510644 te6935743233657526371 te9202037748540197172 te11640609067554103967 te17006616670361271198 te1358706035510692147 te9355852778543169592 te15718186600706569040 te497819663023472222 te10550469953764561443 te17024975391334747340 te7547599937952680466 te4192349597106865657 te13015123001771282103 te17805383236833960772 te2365084608705467867 te7481710178270175113 te16779099113480551765 te12477175776646600100 te14276251452567534558 te4781869194869772748 te15045146823174400881 te12048189906584889539 te9124987200283978176 te6742323554794171678 te1663516184972449394 te8339032844665976479 te3192133788987947526 te8349220449103818642 te16785245334026496488 te1431576187364250806 te330019968739084889 te11086385056795158464 te12583167627637248506 te17818852610604748857 te1694583573014040187 te5528023339963652958 te2546964953335601690 te5779772319207461585 te11933811763571378274 te9328897169735515499 te16536184986370148118 te3328161808761280626 te6797581163895546916 te8052973555573548916 te13606834716999707190 te1151963530984555747 te11024735291735602865 te2341668958391315101 te12076236902280799020 te7081414635405673390 te14086088321381358250 te14213504077175884424 te4213615976202163966 te16934853103212117845 te13532528176956381235 te16495959862201356548 te14948922735647503901 te4698445644155937042 te13882276096014504926 te12005248019959382728 te10066811935095862691 te7894694783291571451 te1028383493958615771 te13686926956279573011 te16465551104157977677 te7494211881921847822 te9850056210522488612 te3275524805730839035 te4619120071192537573 te433587155641296437 te179078497753320772 te10804449857199676870 te11920041322170083174 te16297308037334307811 te10276855515021113567 te11033763761914645189 te3826571936351531414 te16264917243755945511 te8499044420222772743 te6433339721677487718 te2456740031703398641 te910533591816175359 te1771929076375576369 te11020831390063973380 te4349947682832696452 te7360096942500508576 te246311715271704063 te18203211797645119309 te2920727585446429476 te14591799824597007985 te7666169227427200619 te1029102139945676139 te8452983162446195129 te15383534700418643947 te5900943290645100405 te17057946126862560586 te17734123429891822296 te1504348202600590539 te17703873516649905860 te10865361903797717305 te7972350910102330751 te14119309975369821411 te18038464940618296331 te10239579045969818225 te14296331049940626570 te6606277094661670169 te3724658332966238195 te14831751253610412838 te10137906131944472690 te1127794250074562967 te11040384659735131630 te608641269331172583 te18042781376720394601 te12979285284286518684 te8550263749069900463 te13742683162461749615 te12653952066982155560 te4910365012968505513 te12306433818785880542 te13627451777436441464 te17684392787289706964 te14430443907259232773 te7466028206911408249 te2547385690079703658 te2979728417902306410 te14269441641613020461 te5730191863469470444 te16025891767551629950 te12474831025125416639 te15475966763097110168 te2216396465721681150 te2480809935738884300 te15456799317800049767 te3086743236925111333 te2352242766499415052 te11149382650768550915 te16998874908688907656 te5998280547739812360 te13932906893007083227 te15711479861680691967 te14492557713084561572 te6636516955478936449 te49539618080616156 te16251824973244599310 te10795809498294355931 te8362636886898048744 te15445932236389700396 te12404047677863250616 te8440303689514858621 te10684389863222948701 te15338776753008357908 te14772158196201736550 te15899261375037438357 te14322208706638496277 te6766214699527605620 te10552706153520997110 te13735441862379926867 te341479176548214983 te8227278919240499277 te5865175011216120451 te14892571889038243895 te9035436796472513435 te9909083180622145834 te15066084015925986742 te2442965620597000150 te16996351612423630861 te12556299553356083441 te1519845615895535362 te9973768510265422977 te5162533323505903784 te15857178988481871197 te689838898325555385 te7305405602024766821 te13718858717655065123 te17200738401573451736 te91259145126776388 te6498066615504596893 te10400927021293522183 te16978772471402959537 te6478856820485091319 te10679343082539537819 te6956653988822986261 te9996940508443421692 te10294591663354030598 te12812758350935264425 te15693590356958587008 te3854784081705560749 te587940819387408456 te18042981909396293462 te13476029565388796882 te16687805796553862162 te3895666817944974205 te10878522821503894573 te18332308339437493094 te3557087490700464336 te4760080202826719698 te15098296271404786316 te1403349181373380816 te10298843539073059351 te17378605425936064539 te12862403527202044838 te12164695708858913911 te4436203107553849124 te9797152477522347012 te14023056967653718716 te2792844955579463867 te9187332989063271978 te6336934120286814578 te12164075821232562348 te6001363837475733434 te523947538701049008 te10052139845671462062 te11808271110032681619 te208891716067198846 te217525247763776007 te16195488448898664592 te18435089555680184997 te18236434786768804385 te18254296168966820179 te17258571046869632509 te18340171624284506271 te4388275619785470901 te4160681566654957191 te17951612066140324290 te666021010467814806 te9797312144265877068 te10790049414192998838 te2083847601964529019 te17040480872577428087 te963052248722487901 te17605954245033232111 te6799034284779884795 te8903715342748908675 te6522429054046225128 te6048612046804449157 te1044477178640264507 te11833821800431551675 te1658126270757225850 te7107713148205439155 te12697145947205702034 te13453366821102004168 te6122041620265161263 te16312228146220179070 te4629726562356498257 te2663497998689483405 te826474472753048122 te5640507764819650173 te9647690891196774809 te10324147052630943210 te5759880421556608852 te16016177173018928386 te10867575257806274662 te18394155308905341738 te7051658145862007121 te2271382677453587069 te11052608803626246029 te15857068072821330559 te11232930212932470726 te1658845598269274590 te1904432217623042651 te3947872823441618546 te6667320303543254338 te8357402734113262899 te6284417515797896412 te985569018461229785 te11250572624762203225 te10428339492704269133 te17291121724335338451 te7817465975759262468 te17057867519879078848 te8764379476994951368 te17762681096500826080 te15946745995321763861 te936291620293483396 te8906074197837976820 te17286595862500626189 te4955518554223671318 te15251469005932702296 te879850723709954489 te17826435503156381303 te5554955008751856245 te7500375098462441016 te15768684528423829133 te9619853681090425543 te12520411003550720700 te5062613176541074255 te4063339409224052032 te11764969231885338981 te6579374736636235388 te3860872652296956110 te12603393909311175849 te17484346243581075768 te6841134755418133382 te14966007133918609287 te2014678207710344015 te15366062591070306543 te15414389348436307864 te1772747279690643210 te6250237640631120680 te8054389262159015690 te8995974029561671209 te18327715618245090087 te3988522598989044391 te6142107741834342552 te3957317271531863783 te12277378849993932184 te1194282965809171175 te9062440835081573770 te13813330570307386842 te6640539394784550709 te14102045163258920444 te4136463394383449526 te7918507343146122164 te15173737494748210611 te7532802838978907385 te5919368609712934884 te13505346277331261136 te17737018247799795133 te17512259843222295117 te5339825883287204456 te5926509169206750170 te7876880722715610454 te330050008993127549 te7296136836199183395 te13814093707726445936 te11885774207025973313 te9772163461532202499 te8860213675680122721 te9801646784496452309 te14731751869128189051 te16876249842316941499 te6858758062327456876 te12119345366490240731 te11023732014047071603 te12276336958083858146 te9812692016314842920 te4918245077146963007 te14804377189692385038 te14376375816309464817 te18357407727948769882 te8463985709180363336 te16506194565972882648 te8338746966757411808 te6436287730831283826 te11292962455891602865 te6761121916409903958 te11083113346512436843 te9247794118107371643 te1535279716406090405 te10486871201148615308 te14729267514859844515 te15047323746754908799 te6797611686747644404 te811089979617956361 te7162842049058786168 te15192769171349855419 te16162408784615832587 te14551696033140377210 te2453433610554084342 te9255498465303471625 te6951165591437493228 te5809106201411434366 te16661750747932759080 te4241528427978585255 te3896996598808880045 te7770490273155728545 te5366285646892214265 te10547655837417400372 te12543698284455142634 te13909120750930137825 te15026743551113012292 te16276532918384568388 te15478494748841714608 te11676893421582972744 te17387909147413484532 te7303136332487367142 te8146332068491429893 te8977386459060365250 te15612183590323567779 te3875265741897185766 te13583854459300326374 te5953570159569025737 te15174548313210512271 te8104572134139688875 te12214619774718553412 te13036580648990987255 te7195609375667604570 te6417225245669928040 te11216130795736263692:True)
open PySem PySem.W PyProof.Rows
set_option maxRecDepth 100000 in
set_option maxHeartbeats 0 in
theorem PySem.Challenge.cw_standstill_k54_so_many_and_whole_holds : PySem.Challenge.rw_standstill_k54_so_many_and_whole.Holds := by
 w_on; o_law; k_head; (case hw=>w_witness2)
 k_fill
 refine L2.walk_ofK (l:=PySem.Challenge.rw_standstill_k54_so_many_and_whole) (n:=63) (k:=11) (x:="_law_script") (CX:=L2.CX0) (sp:=N_k54.sp_law) rfl (by decide) rfl ⟨rfl,by decide,by decide⟩ (fun w h Y=>PySem.W.kIn_of Y) ?F (fun _ _ a ns hl _ hS=>N_k54.sp_law_of hl hS) (fun _ _ _ _ z=>z)
 case F =>
  intro w mg fa h KX G hmg
  have TT : ∃ a : N_k54.Wa,∃ W : N_k54.Wd (L2.KOf KX) mg a,a.e_3.1=fa /\ ∀ (s:Shared) (v:Value),BindsTo s a.e_3.2 ⟨[v],[]⟩ [("_law_script",v)]:=by
   dsimp only [L2.KOf]
   refine' N_k54.all_mk KX G hmg ..
   all_goals first | k_is | kit_is | k_exc | exact ⟨by k_is,L2.fun_mk (by k_is) (by k_is) (by k_is)⟩ | exact ⟨by k_is,by k_is,L2.fun_mk (by k_is) (by k_is) (by k_is)⟩ | exact L2.fun_mk (by k_is) (by k_is) (by k_is) | (intro t ht; simp only [List.mem_cons,List.not_mem_nil,or_false] at ht; rcases ht with rfl | rfl | rfl | rfl | rfl | rfl | rfl <;> kit_is) | skip
  obtain ⟨a,W,e1,hb⟩:=TT
  subst e1
  exact ⟨_,hb,fun base kb nb=>N_k54.law_ok W⟩
