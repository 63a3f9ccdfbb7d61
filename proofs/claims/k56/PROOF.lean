import PyProof.Rows.All
import Wide.All
import OpenK.AllK
import Wide.FinOn
import Lean
import PyProof.EqAt
import PyProof.EqKinds
import PyProof.TupleCall
import PyProof.NeKinds
import PySem.Challenge.RW_standstill_k56_turned_about
set_option Elab.async false
set_option genSizeOf false
set_option linter.all false
set_option compiler.extract_closed false
set_option bootstrap.genMatcherCode false
local macro_rules
|`(def $d:declId $b* :$t $v:declVal)=>`(theorem $d $b* :$t $v:declVal)
|`(nonrec def $d:declId $s:optDeclSig $v:declVal)=>`(@[reducible] noncomputable def $d $s:optDeclSig $v:declVal)
|`(abbrev $d:declId $s:optDeclSig $v:declVal)=>`(noncomputable def $d $s:optDeclSig $v:declVal)
set_option maxRecDepth 100000
open Array renaming length_toList->iN,getElem?_eq_getElem->lU,getElem?_toList->pW,getD->pX,toList_push->wb
open Bool renaming true->ac,false->af,false_ne_true->bO,and_eq_true->cL,eq_iff_iff->jT,or_eq_true->kH,true_and->pY,noConfusion->sI,or_true->pZ
open Classical renaming byContradiction->we
open False renaming elim->gT
open ForInStep renaming yield->nM
open Int renaming toNat_natCast->dE,emod_nonneg->dF,emod_lt_of_pos->fW,ne_of_gt->sJ
open List renaming mem_cons_self->aF,length_map->ay,length_append->aR,getD_eq_getElem?_getD->bV,getElem?_eq_getElem->cF,getElem?_eq_some_iff->cU,mem_cons_of_mem->bq,mem_append_left->bS,mem_append_right->ce,mem_singleton->bE,map_append->a8,getElem?_map->cM,mem_append->bv,mem_map->aJ,range->bM,mem_cons->bh,append_nil->bP,append_assoc->cG,getElem?_cons_succ->gU,mem_of_getElem?->dP,length_cons->cy,length_range->cZ,nodup_cons->cf,mem_filter->cm,map_cons->bF,length_singleton->fX,getElem?_eq_none->jy,zip_cons_cons->e7,not_mem_nil->dQ,getElem?_set_self->jU,length_filter_le->gV,foldl_append->eE,nodup_append->e8,replicate->gW,getElem?_append_left->lV,getElem_mem->iO,mem_reverse->e9,getElem?_set_ne->kK,length_reverse->ie,getElem?_append_right->nN,reverse_reverse->iP,getElem?_replicate->nO,foldl_cons->fH,reverse_cons->iQ,getElem?_of_mem->nP,mem_range->fY,length_replicate->lW,length_set->ig,filter_append->kL,nodup_nil->ij,reverse_append->lX,any_cons->gq,pairwise_cons->lY,filter_cons_of_pos->p7,append_of_mem->lZ,cons_append->kM,getElem_toArray->sK,filter_sublist->nQ,ext_getElem?->l5,zipWith->nR,findIdx_lt_length_of_exists->wg,map_set->gX,map_reverse->l6,length_eq_zero_iff->sL,filterMap_cons->p8,take_of_length_le->sM,zipWith_cons_cons->sN,set_cons_succ->p9,pairwise_append->sO,findIdx_cons->qb,length_zip->nU,mem_of_find?_eq_some->wj,lookup_cons->qc,sublist_append_left->wm,all_cons->l7,set_cons_zero->sP
open List.Nodup renaming sublist->wn
open List.Pairwise renaming map->wq,sublist->Du
open List.Perm renaming append_left->wu,refl->sQ,cons->ww
open List.Sublist renaming refl->qd
open List.cons renaming inj->qe
open Nat renaming le_refl->aM,lt_succ_self->c6,ne_of_lt->bW,zero_le->cg,le_trans->cN,lt_of_lt_of_le->fh,le_of_lt->fj,not_lt_zero->ik,lt_succ_of_lt->jV,lt_irrefl->jz,lt_of_le_of_lt->l8,le_of_not_lt->nV,le_succ->jW,ne_of_gt->kO,zero_add->kP,lt_trans->nW,succ_pos->qf,mul_le_mul_right->wx
open Ne renaming symm->eG
open Option renaming some->aa,none->ab,bind_some->az,bind_eq_some_iff->sR,isSome_iff_exists->wz
open Option.some renaming inj->dk
open Or renaming inr->bz,inl->bX
open Prod.mk renaming inj->sS
open PyProof.Rows renaming callWith_type1->jX,firstMet->eI,callWith_builtin1->wA,IntsAre->fZ,envOfC->f6,AllBare->jY,boot_list->nX
open PySem renaming wpAny_bind->aj,wpAny_pure->aC,Shared->ah,starEach->aN,sizeLine->aS,mainGlobals->cz,sizeLine_eq->dq,compareOp->cV,wpAny_Call_Name_kw->iR,builtinLookup_eq_fast->jZ,wpAny_newObj_type->iS,FuncData->cO,Program->b9,wpAny_call_entry->jA,wpAny_mono->fI,wpAny_callSpecial?_slot->nY,foldedSetIterable->kS,backTo->ca,codeAny_builtin->j4,typeLookup_type->j5,rawInt->ci,wpAny_holding->jB,keywordEach->il,sysModules->gY,swapsWith->f7,bootBuiltins->jC,Around->b6,binaryOp->fJ,wpAny_setField_rec->n4,wpAny_passesOwn->l9,getMethod->gZ,behindInMarks->kU,wpAny_truthy_bool->n6,assignEach->iT,NameKind->f8,mem_of_lookup->qg,wpAny_setState_of->n8,holding->eJ,isSubtype_type->ma,wpAny_setEntries_of->qh,codeAny_mono->kX,intKind->fK,wpAny_loadPart'->sT,tupleKind_room_in1->qi,plainId_quiet->me,backToKw->io,standAt->gt,codeAny->gx,wpAny_isInstance->qj,attributeBase->n9,wpAny_attempt->oa,wpAny_rule->kZ,Spec->JP,sliceBounds->mf,Builtin->eK,callWith->jD,firstArgMember->qk,typeLookup->mh,scanBound->k4,pickOrder->iU,wpAny_execs_nil->sU,pyNext->g4,wpAny_specialOf->sV,wpAny_updateSeq->sW,codeAny_call_builtin->wB,wpAny_fieldsOf->sX,wpAny_seqItems->sY,wpAny_of_eq->qm,Paired->g6,SetTable->du,relayAll->mi,entryFor->mj
open PySem.Around renaming in1_units->wC
open PySem.Builtin.Int renaming intBits->sZ
open PySem.Builtin.List renaming listSameRef->s9,listExtendWith->wE,listLengthHint->Dv,listTooLong->Dx
open PySem.Calls renaming spliced_cons->iV,callWith_builtin->wF,evalArgs_plain->wG,spliced_nil->wH
open PySem.F renaming plainAttrs_list->jE,called_set->k5,slot_list_reversed->wI,slot_list_append->wJ,type_list_append->wK,slot_list_extend->wL,type_list_extend->wM,slot_dict_get->wN,slot_dict_setdefault->Dy
open PySem.Heap renaming get?_push_of_some->bw,get?_push_size->cP,lt_size->bx,size_push->iW,SameBut->f9,get?_update_other->oe,get?_update_self->oh
open PySem.Heap.SameBut renaming update->oi
open PySem.NameKind renaming free->fL,cell->ml
open PySem.Obj renaming mapSeq->g7
open PySem.Paired renaming length->oj
open PySem.PassesOwn renaming never->dG
open PySem.SeqAt renaming EqAt->cq
open PySem.SeqAt.EqAt renaming int_str->wO,str_int->wP,same->wQ
open PySem.SetTable renaming below->cB,grown->om
open PySem.SetTable.below renaming go->tf
open PySem.Shared renaming TypeIs->tj
open PySem.Str renaming empty->oq,ofString->tm
open PySem.Value renaming ref->eM,type->j6,bool->k6,none->mn
open PySem.W renaming Frag->aQ,findIn->cj,mg_none_of->ip,keepIn->ga,kia_one->iX,nsIn->dY,plainGet->j7,hasDictIn->k7,emptyDict->k8,plainOver->mo,instObj->k9,makesIn->mq,mg_of->j8,fnOf->iY
open Sum renaming inl->gy
open True renaming intro->iq
nonrec abbrev LB0:=List Bool
nonrec abbrev LI0:=List Int
nonrec abbrev LII:=List (Int×Int)
nonrec abbrev LOB:=List (Option Bool)
nonrec abbrev PRS:=PySem.Value->PySem.Shared->Prop
nonrec abbrev MGT:=PySem.Str->Option PySem.Value
nonrec abbrev PNS:=List (PySem.Addr×PySem.Obj)
nonrec abbrev LN:=List Nat
nonrec abbrev L2N:=List LN
nonrec abbrev LSt:=List PySem.Str
nonrec abbrev LVa:=List PySem.Value
nonrec abbrev LAd:=List PySem.Addr
nonrec abbrev LEx:=List PySem.Expr
set_option hygiene false
local macro_rules
|`(@2)=>`((model X.prog X.w))
|`(@3)=>`((λz=>nomatch z))
|`(@4)=>`((X.comp scope Nc cl V5 ex cc cs))
|`(@5)=>`((.ListComp c5 [⟨tg,iter,c3,0⟩] scope pos))
|`(@6)=>`((a.cl "Seeking"))
|`(@7)=>`((ag (ba "Seeking" "sheet" (ae 0)) (ag (av m_1 (ag (av cu (ag (ba "Seeking" "sheet" (ae 0)) nZ)) (ag (aO nZ) nZ))) nZ)))
|`(@8)=>`((.Call (.Name x p) (e::es) [] pos))
|`(@9)=>`((aU "Seeking" "sheet" (aH 0)))
|`(@10)=>`((A.deeper (f6 qual (au st) s.heap.objs.size f cdv)))
|`(@11)=>`((ag (ae 1) nZ))
|`(@12)=>`((model prog w))
|`(@13)=>`((cX (bo (ax 0) (bo (ax 1) c9))))
set_option hygiene true
namespace L2
open List
open PySem PySem.Spec PyProof.Rows
nonrec def Key:=Sum Int Str
abbrev lc:Key->Value->Bool
 |.inl k,v=>Value.isInt k v
 |.inr x,v=>Value.isStrOf x v
abbrev Dz(w:World):Key->Int
 |.inl k=>hashInt k
 |.inr x=>hashStr w x
def iZ:∀{k:Key} {v:Value},lc k v=ac->(∃i t,k=gy i/\v=Value.int i t)\/(∃x t,k=Sum.inr x/\v=Value.str x t)
 |.inl i,v,h=>by
  obtain⟨t,e⟩:=Value.isInt_shape h
  exact .inl ⟨i,t,rfl,e⟩
 |.inr x,v,h=>by
  obtain⟨t,e⟩:=Value.isStrOf_shape h;exact .inr ⟨x,t,rfl,e⟩
def DD(i:Int)(t:Tok):lc (.inl i) (.int i t)=ac:=by simp[lc,Value.isInt]
def DF(x:Str)(t:Tok):lc (.inr x) (.str x t)=ac:=by simp[lc,Value.isStrOf]
def tq(a b:Int):decide ((gy a:Key)=gy b)=(a==b):=by grind
def DH(a b:Str):decide ((Sum.inr a:Key)=Sum.inr b)=decide (a=b):=by grind
def wR(a:Int)(b:Str):decide ((gy a:Key)=Sum.inr b)=af:=decide_eq_false (λq=>nomatch q)
def wT(a:Str)(b:Int):decide ((Sum.inr a:Key)=gy b)=af:=decide_eq_false (λq=>nomatch q)
abbrev lg(prog:b9)(w:World):PySem.KeyKind prog w Key where
 is:=lc
 hash:=Dz w
 inj:=λv a b ha hb=>by
  rcases iZ ha with⟨i,t,rfl,rfl⟩ |⟨x,t,rfl,rfl⟩
  .rcases iZ hb with⟨j,u,rfl,e⟩ |⟨y,u,rfl,e⟩
   .injection e with e1 _;rw[e1]
   .exact nomatch e
  .rcases iZ hb with⟨j,u,rfl,e⟩ |⟨y,u,rfl,e⟩
   .exact nomatch e
   .injection e with e1 _;rw[e1]
 byValue:=λk v h=>by
  rcases iZ h with⟨i,t,rfl,rfl⟩ |⟨x,t,rfl,rfl⟩ <;> rfl
 pyHash:=λhv h=>by
  rcases iZ hv with⟨i,t,rfl,rfl⟩ |⟨x,t,rfl,rfl⟩
  .exact wpAny_pyHash_int h
  .exact wpAny_pyHash_str h
 eqBool:=λhu hv h=>by
  rcases iZ hu with⟨i,t,rfl,rfl⟩ |⟨x,t,rfl,rfl⟩
  .rcases iZ hv with⟨j,u,rfl,rfl⟩ |⟨y,u,rfl,rfl⟩
   .rw[tq]at h;exact wpAny_eqBool_int h
   .rw[wR]at h;exact wO i t y u _ _ _ _ h
  .rcases iZ hv with⟨j,u,rfl,rfl⟩ |⟨y,u,rfl,rfl⟩
   .rw[wT]at h;exact wP x t j u _ _ _ _ h
   .rw[DH]at h;exact wpAny_eqBool_str h
 «strs»:=λk x t v h=>by
  rcases iZ h with⟨i,u,rfl,e⟩ |⟨y,u,rfl,e⟩
  .exact nomatch e
  .injection e with e1 _
   subst e1
   cases v <;> rfl
def JQ(prog:b9)(w:World)(i:Int)(t:Tok):(lg prog w).is (.inl i) (.int i t)=ac:=DD i t
def JR(prog:b9)(w:World)(x:Str)(t:Tok):(lg prog w).is (.inr x) (.str x t)=ac:=DF x t
inductive V where
 |non |bl (b:Bool) |int (i:Int) |str (x:Str) |byt (b:Array UInt8) |flt (b:UInt64) |ref (a:Addr) |ty (n:String)
 deriving DecidableEq
nonrec abbrev LVv:=List V
abbrev aA:V->Value->Prop
 |.non,u=>u=mn
 |.bl b,u=>u=k6 b
 |.int i,u=>∃t,u=Value.int i t
 |.str x,u=>∃t,u=Value.str x t
 |.byt b,u=>∃t,u=Value.bytes b t
 |.flt b,u=>∃t,u=Value.float b t
 |.ref a,u=>u=eM a
 |.ty n,u=>u=j6 n
nonrec abbrev aG:LVv->LVa->Prop:=g6 aA
variable{C:LVv}{us:LVa}
def aG.length(r:aG C us):C.length=us.length:=oj r
def aG.get:∀{C:LVv} {us:LVa} {i:Nat} {x:V},aG C us->C[i]?=aa x->∃u,us[i]?=aa u/\aA x u
 | _,_,_,_,.nil,e=>by simp at e
 | _,_,0,_,.cons r _,e=>by simp at e;subst e;exact⟨_,rfl,r⟩
 | _,_,i+1,x,.cons _ t,e=>by
  obtain⟨u,a,h2⟩:=aG.get t (by simpa using e);exact⟨u,by simpa using a,h2⟩
def aG.set{x:V}{u:Value}(r:aA x u):∀{C:LVv} {us:LVa} (i:Nat),aG C us->aG (C.set i x) (us.set i u)
 | _,_,_,.nil=>.nil
 | _,_,0,.cons _ t=>.cons r t
 | _,_,i+1,.cons q t=>.cons q (aG.set r i t)
def aG.append:∀{C a:LVv} {us ws:LVa},aG C us->aG a ws->aG (C++a) (us++ws)
 | _,_,_,_,.nil,s=>s
 | _,_,_,_,.cons r t,s=>.cons r (aG.append t s)
def aG.take:∀{C:LVv} {us:LVa} (n:Nat),aG C us->aG (C.take n) (us.take n)
 | _,_,0,_=>.nil
 | _,_,_+1,.nil=>.nil
 | _,_,n+1,.cons r t=>.cons r (aG.take n t)
def aG.drop:∀{C:LVv} {us:LVa} (n:Nat),aG C us->aG (C.drop n) (us.drop n)
 | _,_,0,r=>r
 | _,_,_+1,.nil=>.nil
 | _,_,n+1,.cons _ t=>aG.drop n t
abbrev eN:Option V->Option Value->Prop
 |some v,aa u=>aA v u
 |none,ab=>True
 | _,_=>False
abbrev KV{a:Type}:List (a×V)->List (a×Value)->Prop:=g6 λ(p:a×V) (q:a×Value)=>p.1=q.1/\aA p.2 q.2
abbrev kV:Key->V
 |.inl i=>.int i
 |.inr x=>.str x
abbrev kR:Key->V->Prop
 |.inl i,v=>v=.int i\/∃b:Bool,v=.bl b/\i=cond b 1 0
 |.inr x,v=>v=.str x
abbrev wU:Key->Value->Bool
 |.inl k,.bool b=>decide (k=cond b 1 0)
 |k,v=>lc k v
def mr{k:Key}{v:Value}(h:wU k v=ac):(∃i t,k=.inl i/\v=.int i t)\/(∃b:Bool,k=.inl (cond b 1 0)/\v=.bool b)\/(∃x t,k=.inr x/\v=.str x t):=by
 unfold wU at h;split at h
 .rename_i a b;exact .inr (.inl ⟨b,by rw[of_decide_eq_true h],rfl⟩)
 .rcases iZ h with q |q
  .exact .inl q
  .exact .inr (.inr q)
def JS(a b:Bool):decide ((gy (cond a 1 0):Key)=gy (cond b 1 0))=(a==b):=by cases a <;> cases b <;> decide
def JT(a:Bool)(j:Int):decide ((gy (cond a 1 0):Key)=gy j)=((if a then 1 else 0)==j):=by rw[tq];cases a <;> rfl
def JU(j:Int)(a:Bool):decide ((gy j:Key)=gy (cond a 1 0))=(j==(if a then 1 else 0)):=by rw[tq];cases a <;> rfl
variable{prog:b9}{w:World}{A:b6}{V4:PRS}
def JV{s:ah}{b:Bool}{Q:Int->ah->Prop}(h:Q (hashInt (cond b 1 0)) {s with toks:=s.toks+1}):wpAny @12 A (pyHash (.bool b)) Q V4 s:=by
 refine W.pyHash_slot (T:="bool") rfl PySem.F.slot_bool_hash PySem.entry_int_hash (PySem.args_int_hash _) (beq_builtin_none _) (.inl rfl) ?_;cases b
 .exact(show wpAny _ _ (do ret (<- mkInt 0)) _ _ s from aj (wpAny_mkInt (aC ⟨_,_,rfl,h⟩)))
 .exact(show wpAny _ _ (do ret (<- mkInt 1)) _ _ s from aj (wpAny_mkInt (aC ⟨_,_,rfl,h⟩)))
abbrev mw(prog:b9)(w:World):PySem.KeyKind prog w Key where
 is:=wU
 hash:=Dz w
 inj:=λv a b ha hb=>by
  rcases mr ha with⟨i,t,rfl,rfl⟩ |⟨c,rfl,rfl⟩ |⟨x,t,rfl,rfl⟩ <;> rcases mr hb with⟨j,u,rfl,e⟩ |⟨d,rfl,e⟩ |⟨y,u,rfl,e⟩ <;> cases e <;> rfl
 byValue:=λk v h=>by
  rcases mr h with⟨i,t,rfl,rfl⟩ |⟨c,rfl,rfl⟩ |⟨x,t,rfl,rfl⟩ <;> rfl
 pyHash:=λhv h=>by
  rcases mr hv with⟨i,t,rfl,rfl⟩ |⟨c,rfl,rfl⟩ |⟨x,t,rfl,rfl⟩
  .exact wpAny_pyHash_int h
  .exact JV h
  .exact wpAny_pyHash_str h
 eqBool:=λhu hv h=>by
  rcases mr hu with⟨i,t,rfl,rfl⟩ |⟨c,rfl,rfl⟩ |⟨x,t,rfl,rfl⟩ <;> rcases mr hv with⟨j,u,rfl,rfl⟩ |⟨d,rfl,rfl⟩ |⟨y,u,rfl,rfl⟩
  .rw[tq]at h;exact cq.int_int _ _ _ _ _ _ _ _ h
  .rw[JU]at h;exact cq.int_bool _ _ _ _ _ _ _ h
  .rw[wR]at h;exact wO _ _ _ _ _ _ _ _ h
  .rw[JT]at h;exact cq.bool_int _ _ _ _ _ _ _ h
  .rw[JS]at h;exact cq.bool_bool _ _ _ _ _ _ h
  .rw[wR]at h;exact cq.bool_str _ _ _ _ _ _ _ h
  .rw[wT]at h;exact wP _ _ _ _ _ _ _ _ h
  .rw[wT]at h;exact cq.str_bool _ _ _ _ _ _ _ h
  .rw[DH]at h;exact wpAny_eqBool_str h
 «strs»:=λk x t v h=>by
  rcases mr h with⟨i,u,rfl,e⟩ |⟨c,rfl,e⟩ |⟨y,u,rfl,e⟩
  .exact nomatch e
  .exact nomatch e
  .injection e with e1 _
   subst e1
   cases v <;> rfl
variable{P:b9}{v:V}
def JW{k:Key}{u:Value}(q:kR k v)(r:aA v u):(mw P w).is k u=ac:=by
 cases k with
 |inl i=>
  rcases q with rfl |⟨b,rfl,rfl⟩
  .obtain⟨t,e⟩:=(show ∃t,u=Value.int i t from r);subst e;exact DD i t
  .cases (show u=k6 b from r);cases b <;> rfl
 |inr x=>cases (show v=V.str x from q);obtain⟨t,e⟩:=(show ∃t,u=Value.str x t from r);subst e;exact DF x t
nonrec abbrev KRs:List Key->LVv->Prop:=g6 kR
def DJ{P:b9}{w:World}:∀{ks:List Key} {vs:LVv} {us:LVa},KRs ks vs->aG vs us->ItemsAre (mw P w) ks us
 | _,_,_,.nil,r=>by cases r;exact .nil
 | _,_,_,.cons q t,r=>by
  cases r with
  |cons h t'=>exact .cons (JW q h) (DJ t t')
inductive HO where
 |lst (C:LVv)
 |tup (C:LVv)
 |dK (kvs:List (Key×V)) |dT (kvs:List (List Key×V))
 |set (S:Int->Bool) (n:Nat)
 |ins (V5 dx:Addr) (fs:List (Str×V))
 |own (x:Addr)
 |xd (fs:List (Str×V))
 |met (f x:Addr)
 |rng (lo hi:Int)
 |frz (o:Obj) (u:HO)
 |tbl (ps:Array Value)
 |ext (φ:Heap->Prop)
nonrec def Hp:=Addr->Option HO
abbrev fm(H:Hp)(b:Addr)(k:List Key):Prop:=∃vs,H b=aa (.tup vs)/\KRs k vs
variable{H H':Hp}{b:Addr}
def fm.up{k:List Key}(h:fm H b k)(a:∀b C,H b=aa (.tup C)->H' b=aa (.tup C)):fm H' b k:=let ⟨vs,e,q⟩:=h;⟨vs,a _ _ e,q⟩
abbrev upd(H:Hp)(a:Addr)(o:HO):Hp:=λb=>if b=a then aa o else H b
variable{a:Addr}
def aZ{o:HO}:upd H a o a=aa o:=by unfold upd;rw[if_pos rfl]
def aK{o:HO}(h:b≠a):upd H a o b=H b:=by unfold upd;rw[if_neg h]
def DK{o u:HO}(h:H a=aa o)(h':H b=aa u)(d:o≠u):a≠b:=by grind
def fq{o:HO}(h:H a=aa o)(h':H b=ab):a≠b:=by
 intro e;subst e;rw[h]at h';cases h'
section
variable(P:b9)(w:World)
abbrev dR(H:Hp)(h:Heap)(a:Addr):HO->Prop
 |.lst C=>C.length<=aS/\∃(B:LVa) (n:Nat),aG C B/\h.get? a=aa {cls:=.type "list",data:=.seq B.toArray n}
 |.tup C=>C.length<=aS/\∃B:LVa,aG C B/\IsTup h a B.toArray
 |.dK kvs=>kvs.length<=aS/\(a==gY)=af/\∃vs,KV kvs vs/\h.DictOf (lg P w) a vs
 |.dT kvs=>kvs.length<=aS/\(a==gY)=af/\∃C:List (List Key×Addr×Value),
   g6 (λ(p:List Key×V) (q:List Key×Addr×Value)=>p.1=q.1/\fm H q.2.1 p.1/\aA p.2 q.2.2) kvs C /\
   ∃o es c,h.get? a=aa o/\o.ExactDict/\o.data=.dict es c/\es.toList=C.map (entryOfKey (tupleKind (mw P w)))/\(C.map (·.1)).Nodup
 |.set S n=>h.SetOf (fK P w) a S n
 |.ins V5 dx fs=>H dx=aa (.own a)/\fs.length<=1000/\dx≠a/\h.get? a=aa (k9 V5 dx) /\
   ∃mA,h.Ns1 dx mA/\(∀f,eN (fs.lookup f) (mA f))/\PySem.Within mA (fs.map (·.1))
 |.own _=>∃o,h.get? a=aa o
 |.xd fs=>∃mA,h.Ns1 a mA/\∀f,eN (fs.lookup f) (mA f)
 |.rng lo hi=>∃t u v,h.get? a=aa {cls:=.type "range",data:=.fields #[.int lo t,.int hi u,.int 1 v]}
 |.frz o u=>h.get? a=aa o/\dR H h a u
 |.tbl ps=>h.get? a=aa {cls:=.none,data:=.fields ps}
 |.met f x=>h.get? a=aa (W.methodObj (.ref f) (.ref x))
 |.ext φ=>φ h/\(∃o,h.get? a=aa o)/\∀b h2:Heap,φ b->(∀o,b.get? a=aa o->h2.get? a=aa o)->φ h2
abbrev HOk(H:Hp)(h:Heap):Prop:=∀a o,H a=aa o->dR P w H h a o
end
variable{h:Heap}
def dR.lt{o:HO}(x:dR P w H h a o):a<h.objs.size:=by
 cases o with
 |lst C=>obtain⟨_,_,_,_,e⟩:=x;exact bx e
 |tup C=>obtain⟨_,_,_,p⟩:=x;exact p.lt
 |dK kvs=>obtain⟨_,_,_,_,o,_,_,e,_⟩:=x;exact bx e
 |dT kvs=>obtain⟨_,_,_,_,o,_,_,e,_⟩:=x;exact bx e
 |set S n=>obtain⟨o,_,_,_,e,_⟩:=x;exact bx e
 |ins V5 dx fs=>obtain⟨_,_,_,e,_⟩:=x;exact bx e
 |own y=>obtain⟨_,e⟩:=x;exact bx e
 |xd fs=>obtain⟨_,⟨_,_,_,e,_⟩,_⟩:=x;exact bx e
 |rng lo hi=>obtain⟨_,_,_,e⟩:=x;exact bx e
 |frz b u=>obtain⟨e,_⟩:=x;exact bx e
 |tbl ps=>exact bx (x)
 |met f y=>exact bx (x)
 |ext φ=>obtain⟨_,⟨_,e⟩,_⟩:=x;exact bx e
def g6.mapP{e g:Type}{F G:e->g->Prop}:∀{c:List e} {d:List g},g6 F c d->(∀a b,F a b->G a b)->g6 G c d
 | _,_,.nil,_=>.nil
 | _,_,.cons r t,f=>.cons (f _ _ r) (g6.mapP t f)
variable{h':Heap}
section
variable{o:HO}
def dR.stay(x:dR P w H h a o)(k:∀b u,(b=a\/H b=aa (.own a))->h.get? b=aa u->h'.get? b=aa u)
 (l:∀b,H b=aa (.own a)->H' b=aa (.own a))(m:∀b C,H b=aa (.tup C)->H' b=aa (.tup C)):dR P w H' h' a o:=by
 induction o with
 |lst C=>obtain⟨z,B,n,r,e⟩:=x;exact⟨z,B,n,r,k _ _ (.inl rfl) e⟩
 |tup C=>obtain⟨z,B,r,g,e,c⟩:=x;exact⟨z,B,r,g,k _ _ (.inl rfl) e,c⟩
 |dK kvs=>obtain⟨z,y,vs,r,g,es,i,e,c⟩:=x;exact⟨z,y,vs,r,g,es,i,k _ _ (.inl rfl) e,c⟩
 |dT kvs=>
  obtain⟨z,y,C,r,g,es,i,e,c⟩:=x
  exact⟨z,y,C,g6.mapP r λp q z=>⟨z.1,z.2.1.up m,z.2.2⟩,g,es,i,k _ _ (.inl rfl) e,c⟩
 |set S n=>obtain⟨g,es,i,t,e,c⟩:=x;exact⟨g,es,i,t,k _ _ (.inl rfl) e,c⟩
 |ins V5 dx fs=>
  obtain⟨d,z,ne,e,mA,⟨od,es,i,j,c⟩,r⟩:=x
  exact⟨l _ d,z,ne,k _ _ (.inl rfl) e,mA,⟨od,es,i,k _ _ (.inr d) j,c⟩,r⟩
 |own y=>obtain⟨g,e⟩:=x;exact⟨g,k _ _ (.inl rfl) e⟩
 |xd fs=>obtain⟨mA,⟨od,es,i,e,c⟩,r⟩:=x;exact⟨mA,⟨od,es,i,k _ _ (.inl rfl) e,c⟩,r⟩
 |rng lo hi=>obtain⟨t,u,v,e⟩:=x;exact⟨t,u,v,k _ _ (.inl rfl) e⟩
 |frz g u A=>obtain⟨e,q⟩:=x;exact⟨k _ _ (.inl rfl) e,A q⟩
 |tbl ps=>
  have e:=x
  exact k a _ (.inl rfl) e
 |met f y=>
  have e:=x
  exact k a _ (.inl rfl) e
 |ext φ=>obtain⟨p,⟨o,e⟩,st⟩:=x;exact⟨st _ _ p λo q=>k _ _ (.inl rfl) q,⟨o,k _ _ (.inl rfl) e⟩,st⟩
end
def HOk.lt{o:HO}(x:HOk P w H h)(e:H a=aa o):a<h.objs.size:=(x a o e).lt
def HOk.fresh(x:HOk P w H h)(e:h.objs.size<=a):H a=ab:=by
 cases q:H a with
 |none=>rfl
 |some u=>exact absurd (fh (x.lt q) e) (jz _)
def HOk.kept(x:HOk P w H h)(k:∀b u,h.get? b=aa u->h'.get? b=aa u):HOk P w H h':=λa o e=>
 (x a o e).stay (λb u _ q=>k b u q) (λ_ q=>q) λ_ _ q=>q
def HOk.laid{o:HO}(x:HOk P w H h)(k:∀b u,h.get? b=aa u->h'.get? b=aa u)(f:h.objs.size<=a)(new:dR P w (upd H a o) h' a o):HOk P w (upd H a o) h':=λb u e=>by
 have hn:=x.fresh f
 by_cases d:b=a
 .subst d;rw[aZ]at e;grind
 .rw[aK d]at e;exact(x b u e).stay (λc v _ q=>k c v q) (λc q=>by rw[aK (fq q hn)];exact q) λc C q=>by rw[aK (fq q hn)];lia
abbrev Rd(H:Hp)(a:Addr)(u:HO):Prop:=H a=aa u\/∃o,H a=aa (.frz o u)
def Rd.ok{u:HO}(r:Rd H a u)(x:HOk P w H h):dR P w H h a u:=by
 rcases r with r |⟨o,r⟩
 .exact x a u r
 .obtain⟨_,q⟩:=x a _ r;exact q
abbrev Mut:Option HO->Prop
 |some (.lst _)=>True
 |some (.dK _)=>True
 |some (.dT _)=>True
 |some (.set _ _)=>True
 |some (.ins _ _ _)=>True
 |some (.ext _)=>True
 | _=>False
variable{x e:Addr}{o':HO}
def HOk.write(ok:HOk P w H h)(f:Mut (H x))(n:e=x\/H e=aa (.own x))(k:∀b u,b≠e->h.get? b=aa u->h'.get? b=aa u)(i:∃u,h'.get? e=aa u)
 (new:dR P w (upd H x o') h' x o'):HOk P w (upd H x o') h':=λb u q=>by
 have a:∀c y,H c=aa (.own y)->c≠x:=λc y r z=>by subst z;rw[r]at f;exact f
 have d:∀c C,H c=aa (.tup C)->c≠x:=λc C r z=>by subst z;rw[r]at f;exact f
 by_cases j:b=x
 .subst j;rw[aZ]at q;grind
 .rw[aK j]at q
  by_cases g:b=e
  .have l:H b=aa (.own x):=by
    grind
   rw[q]at l;cases l;obtain⟨v,hv⟩:=i;exact⟨v,by rw[g];exact hv⟩
  .refine(ok b u q).stay (λc v m r=>k c v ?_ r) (λc r=>by rw[aK (a c b r)];exact r) λc C r=>by rw[aK (d c C r)];exact r
   grind
structure Un(fs ex:LAd)(H H':Hp)(h h':Heap):Prop where
 keep:∀b o,h.get? b=aa o->H b=ab->b∉fs->b∉ex->h'.get? b=aa o
 slot:∀b o,h.get? b=aa o->H b=ab->b∈fs->b∉ex->∃sl,h'.get? b=aa {o with slots:=sl}
 free:∀b o,h.get? b=aa o->H b=ab->b∉ex->H' b=ab
 there:∀b o,h.get? b=aa o->b∉ex->∃o',h'.get? b=aa o'
 tups:∀b C,H b=aa (.tup C)->H' b=aa (.tup C)
 frzs:∀b o u,H b=aa (.frz o u)->H' b=aa (.frz o u)
 tbls:∀b ps,H b=aa (.tbl ps)->∃more,H' b=aa (.tbl (ps++more))
variable{ex:LAd}{H1:Hp}{h1:Heap}
def Un.any{fs:LAd}(u:Un fs ex H H1 h h1){a:Obj}(q:h.get? b=aa a)(n:H b=ab)(d:b∉ex):∃sl,h1.get? b=aa {a with slots:=sl}:=by
 by_cases c:b∈fs
 .exact u.slot b a q n c d
 .exact⟨a.slots,u.keep b a q n c d⟩
variable{H2:Hp}{h2:Heap}
def Un.trans{fs:LAd}(a:Un fs ex H H1 h h1)(b:Un fs ex H1 H2 h1 h2):Un fs ex H H2 h h2 where
 keep:=λc ob q n hc hx=>b.keep c ob (a.keep c ob q n hc hx) (a.free c ob q n hx) hc hx
 slot:=λc ob q n hc hx=>by
  obtain⟨sl,e1⟩:=a.slot c ob q n hc hx;obtain⟨sl',e2⟩:=b.slot c _ e1 (a.free c ob q n hx) hc hx
  grind
 free:=λc ob q n hx=>by
  obtain⟨o',e1⟩:=a.there c ob q hx;exact b.free c o' e1 (a.free c ob q n hx) hx
 there:=λc ob q hx=>by
  obtain⟨o',e1⟩:=a.there c ob q hx;exact b.there c o' e1 hx
 tups:=λc C q=>b.tups c C (a.tups c C q)
 frzs:=λc ob C q=>b.frzs c ob C (a.frzs c ob C q)
 tbls:=λc ps q=>by
  obtain⟨m1,e1⟩:=a.tbls c ps q;obtain⟨m2,e2⟩:=b.tbls c _ e1
  grind
def Un.kept{fs:LAd}(k:∀b u,h.get? b=aa u->h'.get? b=aa u):Un fs ex H H h h':=
 ⟨λb a q _ _ _=>k b a q,λb a q _ _ _=>⟨a.slots,k b a q⟩,λ_ _ _ n _=>n,λb a q _=>⟨a,k b a q⟩,λ_ _ q=>q,λ_ _ _ q=>q,λ_ ps q=>⟨#[],by rw[q];simp⟩⟩
def Un.refl{fs:LAd}:Un fs ex H H h h:=Un.kept λ_ _ q=>q
def Un.laid{fs:LAd}{o:HO}(k:∀b u,h.get? b=aa u->h'.get? b=aa u)(hp:h.objs.size<=a)(hn:H a=ab):Un fs ex H (upd H a o) h h' where
 keep:=λb u q _ _ _=>k b u q
 slot:=λb u q _ _ _=>⟨u.slots,k b u q⟩
 free:=λb u q n _=>by rw[aK (bW (fh (bx q) hp))];exact n
 there:=λb u q _=>⟨u,k b u q⟩
 tups:=λb C q=>by rw[aK (fq q hn)];exact q
 frzs:=λb u C q=>by rw[aK (fq q hn)];exact q
 tbls:=λb ps q=>⟨#[],by rw[aK (fq q hn),q];simp⟩
def Un.write{fs:LAd}{o:HO}(a:Mut (H x))(g:e=x\/H e=aa (.own x))(k:∀b u,b≠e->h.get? b=aa u->h'.get? b=aa u)(d:∃u,h'.get? e=aa u):Un fs ex H (upd H x o) h h':=by
 have f:∀b,H b=ab->b≠x:=λb n z=>by subst z;rw[n]at a;exact a
 have c:∀b,H b=ab->b≠e:=λb n z=>by
  grind
 have hm:∀b u,H b=aa u->¬Mut (aa u)->b≠x:=λb u q nm z=>by subst z;rw[q]at a;exact nm a
 refine⟨λb u q n _ _=>k b u (c b n) q,λb u q n _ _=>⟨u.slots,k b u (c b n) q⟩,λb u q n _=>by rw[aK (f b n)];exact n,λb u q _=>?_,
  λb C q=>by rw[aK (hm b _ q λz=>z)];exact q,λb u C q=>by rw[aK (hm b _ q λz=>z)];exact q,λb ps q=>⟨#[],by rw[aK (hm b _ q λz=>z),q];simp⟩⟩
 grind
abbrev trk(h:Heap)(H:Hp):LAd:=(bM h.objs.size).filter λa=>(H a).isSome
abbrev ot(h:Heap)(H:Hp):Heap:=W.hideAll h (trk h H)
def JX(h:Heap)(H:Hp):(ot h H).objs.size=h.objs.size:=W.hideAll_size _ _
def JY{o:Obj}(e:h.get? b=aa o)(n:H b=ab):(ot h H).get? b=aa o:=
 W.hideAll_get _ e λhm=>by
  have q:=(cm.mp hm).2
  grind
def JZ{o:Obj}(e:(ot h H).get? b=aa o):h.get? b=aa o/\H b=ab:=by
 have e':=W.of_hideAll _ e;refine⟨e',?_⟩
 cases q:H b with
 |none=>rfl
 |some x=>
  have hm:b∈trk h H:=cm.mpr ⟨fY.mpr (bx e'),by simp[q]⟩;have z:(ot h H).get? b=ab:=W.hideAll_none _ hm
  grind
abbrev J0(g h:Heap)(V2:Addr):PNS:=(bM h.objs.size).filterMap λa=>if a=V2\/(g.get? a).isSome=ac then ab else (h.get? a).map λo=>(a,o)
abbrev rest(g h:Heap)(V2 d:Addr):PNS:=(J0 g h V2).filter λp=>decide (p.1≠d)
structure Mod(K:aQ)(mg:MGT)(base:Heap):Prop where
 kin:K.In base
 glob:base.Ns cz mg
 blt:∃mb,base.Ns builtinsNs mb/\∀x:Str,x ≠ "__name__" -> mb x=jC x
 nolimit:base.NoLimit
set_option genInjectivity false in
structure Cx where
 prog:b9
 w:World
 K:aQ
 mg:Str->Option Value
 base:Heap
 A:b6
 N:LSt
 s₀:ah
 H₀:Hp
 env:Env
 outer:List Env
 stack:List Env
 ex:LAd
 fn:Str->Bool
 calm:Bool
 pn:PNS
 xe:Value->ah->Prop
nonrec abbrev NDb(x:Str):=(x==("__debug__":Str))=af
nonrec abbrev NCd(x:Str):=(x==("__classdict__":Str))=af
nonrec abbrev StE(X:Cx)(e:Expr)(es:LEx):=aN (e::es) X.env=(af,eval e X.env)::aN es X.env
nonrec abbrev BkE(X:Cx)(pos:Pos)(es:LEx):=(ca pos (aN es X.env)).any (·.1)=af
nonrec abbrev LcF(X:Cx)(x:Str):=X.fn x=ac\/X.env.scope.names.lookup x=aa .local
abbrev frs(l:List Env):LAd:=l.filterMap (·.frame)
nonrec def Cx.fs(X:Cx):LAd:=frs X.outer
abbrev Vis(sc:Scope)(x:Str):Prop:=sc.names.lookup x=aa .local\/sc.names.lookup x=aa .cell\/sc.names.lookup x=aa .free
abbrev Loc(sc:Scope)(x:Str):Prop:=sc.names.lookup x=aa .local\/sc.names.lookup x=aa .cell
abbrev J4(env:Env)(h:Heap)(m:MGT)(x:Str)(u:Value):Prop:=
 (env.kindOf x=aa .local/\m x=aa u)\/((env.kindOf x=aa .cell\/env.kindOf x=aa .free)/\∃c,env.cells.lookup x=aa c/\h.IsCell c (aa u))
structure Cx.Ok(X:Cx):Prop where
 mod:Mod X.K X.mg X.base
 kind:X.env.scope.kind=.function
 glob:X.env.globals=cz
 blt:X.env.builtins=builtinsNs
 above:X.s₀.heap.objs.size<=X.env.locals
 inj:∀x y c,X.env.cells.lookup x=aa c->X.env.cells.lookup y=aa c->x=y
 has:∀x,(X.env.kindOf x=aa .cell\/X.env.kindOf x=aa .free)->∃c,X.env.cells.lookup x=aa c
 cab:∀x c,X.fn x=ac->X.env.cells.lookup x=aa c->X.s₀.heap.objs.size<=c
 hd:X.calm=ac->X.A.handled=ab
 frames:X.A.frames=aa X.stack
 stk:X.stack=X.outer\/(X.stack=X.env::X.outer/\X.env.frame=aa X.env.locals)
 exf:∀b∈X.ex,b≠X.env.locals/\∀x c,X.env.cells.lookup x=aa c->c≠b
 bs:∀b o,X.base.get? b=aa o->X.s₀.heap.get? b=aa o/\X.H₀ b=ab
 bsz:X.base.objs.size<=X.s₀.heap.objs.size
 noex:∀b o,X.base.get? b=aa o->b∉X.ex
 exfs:∀b∈X.ex,b∉X.fs
 funs:X.s₀.heap.FunFrames X.base X.outer
 frf:∀b∈X.fs,X.H₀ b=ab
structure Inv(X:Cx)(U:PNS)(E:List (Option V))(H:Hp)(s:ah):Prop where
 ok:X.Ok
 os:s.os=X.s₀.os
 bare:jY s.gens
 base:Un X.fs X.ex X.H₀ H X.s₀.heap s.heap
 loc:∃m,s.heap.Ns X.env.locals m/\∀(i:Nat) (x:Str) (v:V),X.N[i]?=aa x->E[i]?=aa (aa v)->Vis X.env.scope x->∃u,aA v u/\J4 X.env s.heap m x u
 cell:∀x c,X.env.cells.lookup x=aa c->∃v,s.heap.IsCell c v
 free:H X.env.locals=ab
 freeC:∀x c,X.env.cells.lookup x=aa c->H c=ab
 pin:∀p∈X.pn++U,s.heap.get? p.1=aa p.2/\H p.1=ab/\p.1≠X.env.locals/\p.1∉X.fs/\∀v,p.2.data≠.cell v
 hok:HOk X.prog X.w H s.heap
 len:E.length=X.N.length
variable{X:Cx}
def Cx.Ok.nofr(ok:X.Ok){o:Obj}(e:X.base.get? b=aa o):b∉X.fs:=λa=>by
 have:=(ok.funs.mem a).1
 grind
variable{U:PNS}{E:List (Option V)}
def Inv.bs{s:ah}(I:Inv X U E H s):∀b o,X.base.get? b=aa o->s.heap.get? b=aa o/\H b=ab:=λb o e=>
 ⟨I.base.keep b o (I.ok.bs b o e).1 (I.ok.bs b o e).2 (I.ok.nofr e) (I.ok.noex b o e),I.base.free b o (I.ok.bs b o e).1 (I.ok.bs b o e).2 (I.ok.noex b o e)⟩
def Inv.bk{s:ah}(I:Inv X U E H s):∀b o,X.base.get? b=aa o->s.heap.get? b=aa o:=λb o e=>(I.bs b o e).1
def Inv.mod{s:ah}(I:Inv X U E H s):Mod X.K X.mg X.base:=I.ok.mod
def Inv.kIn{s:ah}(I:Inv X U E H s):X.K.In s.heap:=I.ok.mod.kin.keeps I.bk
def Inv.lt{s:ah}(I:Inv X U E H s):X.env.locals<s.heap.objs.size:=let ⟨_,hn,_⟩:=I.loc;hn.lt
def Inv.sz{s:ah}(I:Inv X U E H s):X.s₀.heap.objs.size<=s.heap.objs.size:=cN I.ok.above (fj I.lt)
def Inv.nofs{s:ah}(I:Inv X U E H s)(h:s.heap.objs.size<=a):a∉X.fs:=λb=>by
 obtain⟨_,o,c,_⟩:=I.ok.funs.mem b;exact absurd (fh (bx c) (cN I.sz h)) (jz _)
def Inv.cne{s:ah}(I:Inv X U E H s):∀x c,X.env.cells.lookup x=aa c->c≠X.env.locals:=λx c e z=>by
 obtain⟨v,o,f,hd⟩:=I.cell x c e;obtain⟨m,⟨o',es,d,b,a,_⟩,_⟩:=I.loc
 grind
def Inv.funs{s:ah}(I:Inv X U E H s):s.heap.FunFrames X.base X.outer:=by
 have all:∀l,(∀b∈frs l,b∈X.fs)->X.s₀.heap.FunFrames X.base l->s.heap.FunFrames X.base l:=by
  intro l
  induction l with
  |nil=>intro _ _;trivial
  |cons env r j=>
   intro f h;obtain⟨g,⟨V2,o,d,hn,i,hd⟩,hr⟩:=h;have a:=f V2 (by unfold frs;rw[p8,d];exact aF);obtain⟨sl,e⟩:=I.base.slot V2 o i (I.ok.frf V2 a) a λz=>I.ok.exfs V2 z a;exact⟨g,⟨V2,_,d,hn,e,hd⟩,j (λb c=>f b (by unfold frs;rw[p8,d];exact bq _ c)) hr⟩
 exact all X.outer (λ_ c=>c) I.ok.funs
def Inv.stack{s:ah}(I:Inv X U E H s):s.heap.FunFrames X.base X.stack:=by
 rcases I.ok.stk with e |⟨e,hf⟩
 .rw[e];exact I.funs
 .rw[e];obtain⟨m,hn,_⟩:=I.loc;exact .cons (by rw[I.ok.kind];decide) hf hn (Heap.get?_none_of_le (cN I.ok.bsz I.ok.above)) I.funs
def Inv.stkSub{s:ah}(I:Inv X U E H s):∀b∈frs X.stack,b∈X.env.locals::X.fs:=λb a=>by
 rcases I.ok.stk with e |⟨e,hf⟩
 .grind
 .rw[e]at a;unfold frs at a;rw[p8,hf]at a;exact a
def Inv.stkFree{s:ah}(I:Inv X U E H s):∀b∈frs X.stack,H b=ab:=λb a=>by
 rcases bh.mp (I.stkSub b a)with e |a
 .rw[e];exact I.free
 .obtain⟨_,o,c,_⟩:=I.ok.funs.mem a;exact I.base.free b o c (I.ok.frf b a) λz=>I.ok.exfs b z a
variable{g':Array GenState}{t':Nat}{d':Drawn}
section
variable{s:ah}
def Inv.step{ch:LAd}(I:Inv X U E H s)
 (g:∀b∈ch,(b∈X.ex\/X.s₀.heap.objs.size<=b)/\b≠X.env.locals/\(∀x c,X.env.cells.lookup x=aa c->c≠b)/\∀p∈X.pn++U,p.1≠b)
 (keep:∀b o,b≠X.env.locals->b∉X.fs->b∉ch->s.heap.get? b=aa o->H b=ab->h'.get? b=aa o)
 (slot:∀b o,b≠X.env.locals->b∈X.fs->b∉ch->s.heap.get? b=aa o->H b=ab->∃sl,h'.get? b=aa {o with slots:=sl})(free:∀b o,b∉ch->s.heap.get? b=aa o->H b=ab->H' b=ab)
 (there:∀b o,b∉ch->s.heap.get? b=aa o->∃o',h'.get? b=aa o')
 (tups:∀b C,H b=aa (.tup C)->H' b=aa (.tup C))(frzs:∀b o u,H b=aa (.frz o u)->H' b=aa (.frz o u))(tbls:∀b ps,H b=aa (.tbl ps)->∃more,H' b=aa (.tbl (ps++more)))
 (ns:∀m,s.heap.Ns X.env.locals m->h'.Ns X.env.locals m)(hok:HOk X.prog X.w H' h')(T:jY g'):
  Inv X U E H' {s with heap:=h',gens:=g',drawn:=d',toks:=t'}:=by
 have J:∀b o,X.s₀.heap.get? b=aa o->b≠X.env.locals:=λb o e=>bW (fh (bx e) I.ok.above)
 have y:∀b o,X.s₀.heap.get? b=aa o->b∉X.ex->b∉ch:=λb o e a A=>by
  rcases(g b A).1 with z |z
  .exact a z
  .exact absurd (fh (bx e) z) (jz _)
 have f:∀x c,X.env.cells.lookup x=aa c->∀v,s.heap.IsCell c v->h'.IsCell c v:=λx c e v q_=>by
  obtain⟨o,B,hd⟩:=q_;have h:=λz=>(g c z).2.2.1 x c e rfl
  by_cases M:c∈X.fs
  .obtain⟨sl,q⟩:=slot c o (I.cne x c e) M h B (I.freeC x c e);exact⟨_,q,hd⟩
  .exact⟨o,keep c o (I.cne x c e) M h B (I.freeC x c e),hd⟩
 refine⟨I.ok,I.os,T,⟨λb o e n A a=>(keep b o (J b o e) A (y b o e a) (I.base.keep b o e n A a) (I.base.free b o e n a)),λb o e n A a=>?_,λb o e n a=>?_,λb o e a=>?_,λb C e=>tups b C (I.base.tups b C e),λb o C e=>frzs b o C (I.base.frzs b o C e),λb ps e=>?_⟩,?_,λx c e=>?_,?_,λx c e=>?_,λp N=>?_,hok,I.len⟩
 .obtain⟨sl,j⟩:=I.base.slot b o e n A a;obtain⟨L,G⟩:=slot b _ (J b o e) A (y b o e a) j (I.base.free b o e n a);exact⟨L,G⟩
 .obtain⟨o',j⟩:=I.base.there b o e a;exact free b o' (y b o e a) j (I.base.free b o e n a)
 .obtain⟨o',j⟩:=I.base.there b o e a;exact there b o' (y b o e a) j
 .obtain⟨m1,j⟩:=I.base.tbls b ps e;obtain⟨m2,G⟩:=tbls b _ j;exact⟨m1++m2,by rw[G,Array.append_assoc]⟩
 .obtain⟨m,hn,Y⟩:=I.loc;refine⟨m,ns m hn,λi x v j G Q=>?_⟩;obtain⟨u,r,l⟩:=Y i x v j G Q;refine⟨u,r,?_⟩
  rcases l with l |⟨k,c,e,z⟩
  .exact .inl l
  .exact .inr ⟨k,c,e,f x c e _ z⟩
 .obtain⟨v,z⟩:=I.cell x c e;exact⟨v,f x c e v z⟩
 .obtain⟨m,⟨o,_,_,B,_⟩,_⟩:=I.loc;exact free _ o (λz=>(g _ z).2.1 rfl) B I.free
 .obtain⟨v,o,B,hd⟩:=I.cell x c e;exact free c o (λz=>(g c z).2.2.1 x c e rfl) B (I.freeC x c e)
 .obtain⟨e,n,ne,nf,d⟩:=I.pin p N;have h:=λz=>(g p.1 z).2.2.2 p N rfl;exact⟨keep p.1 p.2 ne nf h e n,free p.1 p.2 h e n,ne,nf,d⟩
end
section
variable{s:ah}
def Inv.un(I:Inv X U E H s)(u:Un X.fs [] H H' s.heap h')(hok:HOk X.prog X.w H' h'):Inv X U E H' {s with heap:=h',toks:=t'}:=by
 obtain⟨m,⟨o,es,i,f,r⟩,_⟩:=id I.loc;obtain⟨sl,g⟩:=u.any f I.free (by simp)
 exact I.step (ch:=[]) (λ_ z=>nomatch z) (λb o _ d _ e n=>u.keep b o e n d (by simp)) (λb o _ d _ e n=>u.slot b o e n d (by simp)) (λb o _ e n=>u.free b o e n (by simp)) (λb o _ e=>u.there b o e (by simp)) u.tups u.frzs u.tbls (λj hm=>by
  obtain⟨o',es',c,a,h⟩:=hm;rw[f]at a;cases a;exact⟨_,es',c,g,h⟩) hok I.bare
end
section
variable{s:ah}
def Inv.call{ch:LAd}(I:Inv X U E H s)(u:Un (frs X.stack) ch H H' s.heap h')(hok:HOk X.prog X.w H' h')(l:jY g')
 (d:∀b∈ch,(b∈X.ex\/X.s₀.heap.objs.size<=b)/\b≠X.env.locals/\(∀x c,X.env.cells.lookup x=aa c->c≠b)/\∀p∈X.pn++U,p.1≠b):
  Inv X U E H' {s with heap:=h',gens:=g',drawn:=d',toks:=t'}:=by
 obtain⟨m,⟨o,es,v,i,r⟩,_⟩:=id I.loc;obtain⟨sl,h⟩:=u.any i I.free λz=>(d _ z).2.1 rfl
 exact I.step d (λb o h j a e n=>u.keep b o e n (λz=>(bh.mp (I.stkSub b z)).elim h j) a) (λb o _ _ a e n=>u.any e n a) (λb o a e n=>u.free b o e n a) (λb o a e=>u.there b o e a) u.tups u.frzs u.tbls (λy hm=>by
  obtain⟨o',es',g,f,q⟩:=hm;rw[i]at f;cases f;exact⟨_,es',g,h,q⟩) hok l
end
variable{it:Addr}
section
variable{s:ah}
def Inv.turned(I:Inv X U E H s)(k:∀b o,b≠it->s.heap.get? b=aa o->h'.get? b=aa o)(hn:H it=ab)(f:it≠X.env.locals)
 (h1:it∈X.ex\/X.s₀.heap.objs.size<=it)(h2:∀x c,X.env.cells.lookup x=aa c->c≠it)(h:∀p∈X.pn++U,p.1≠it):Inv X U E H {s with heap:=h',toks:=t'}:=by
 have d:∀b u,H b=aa u->b≠it:=λb u e z=>by rw[z,hn]at e;nomatch e
 refine I.step (ch:=[it]) (λb i=>?_) (λb o _ _ a e _=>k b o (λz=>a (by simp[z])) e) (λb o _ _ a e _=>⟨o.slots,k b o (λz=>a (by simp[z])) e⟩) (λ_ _ _ _ n=>n)
  (λb o a e=>⟨o,k b o (λz=>a (by simp[z])) e⟩) (λ_ _ e=>e) (λ_ _ _ e=>e) (λb ps e=>⟨#[],by rw[e];simp⟩) (λm hm=>?_) (λb u e=>?_) I.bare
 .have e:b=it:=by simpa using i
  subst e;exact⟨h1,f,h2,h⟩
 .obtain⟨o,es,g,j,r⟩:=hm;exact⟨o,es,g,k _ o (eG f) j,r⟩
 .refine(I.hok b u e).stay (λc v a q=>k c v ?_ q) (λ_ q=>q) λ_ _ q=>q
  rcases a with z |z
  .rw[z];exact d b u e
  .exact d c _ z
end
section
variable{s:ah}
def Inv.tok(I:Inv X U E H s)(t:Nat):Inv X U E H {s with toks:=t}:=I.un Un.refl I.hok
end
section
variable{s:ah}
def Inv.kept(I:Inv X U E H s)(k:∀b u,s.heap.get? b=aa u->h'.get? b=aa u):Inv X U E H {s with heap:=h',toks:=t'}:=I.un (Un.kept k) (I.hok.kept k)
end
section
variable{s:ah}
def Inv.laid{o:HO}(I:Inv X U E H s)(k:∀b u,s.heap.get? b=aa u->h'.get? b=aa u)(c:s.heap.objs.size<=a)(new:dR X.prog X.w (upd H a o) h' a o):
  Inv X U E (upd H a o) {s with heap:=h',toks:=t'}:=I.un (Un.laid k c (I.hok.fresh c)) (I.hok.laid k c new)
end
section
variable{s:ah}
def Inv.write{o:HO}(I:Inv X U E H s)(d:Mut (H x))(c:e=x\/H e=aa (.own x))(k:∀b u,b≠e->s.heap.get? b=aa u->h'.get? b=aa u)(a:∃u,h'.get? e=aa u)
 (new:dR X.prog X.w (upd H x o) h' x o):Inv X U E (upd H x o) {s with heap:=h',toks:=t'}:=I.un (Un.write d c k a) (I.hok.write d c k a new)
end
def Inv.pins_of{s:ah}{a:PNS}(I:Inv X U E H s)(h:∀p∈a,s.heap.get? p.1=aa p.2/\H p.1=ab/\p.1≠X.env.locals/\p.1∉X.fs/\∀v,p.2.data≠.cell v):Inv X a E H s:=
 ⟨I.ok,I.os,I.bare,I.base,I.loc,I.cell,I.free,I.freeC,λp b=>(bv.mp b).elim (λz=>I.pin p (bS _ z)) (h p),I.hok,I.len⟩
variable{N:LSt}{i:Nat}{x:Str}
def DM(e:N.Nodup){j:Nat}(a:N[i]?=aa x)(b:N[j]?=aa x):i=j:=by
 obtain⟨h1,c⟩:=cU.mp a;obtain⟨h2,d⟩:=cU.mp b;exact(List.getElem_inj e).mp (c.trans d.symm)
variable{V1:Model}{u:Value}{Q:Unit->ah->Prop}
section
variable{s:ah}
def DN(I:Inv X U E H s)(hN:X.N.Nodup)(hi:X.N[i]?=aa x)(B:Loc X.env.scope x)(r:aA v u)
 (h:∀s',Inv X U (E.set i (aa v)) H s'->(∃a,f9 a s.heap s'.heap/\(a=X.env.locals\/X.env.cells.lookup x=aa a))->Q () s')(hf:LcF X x:=by first |exact .inl rfl |exact .inr rfl |assumption):wpAny V1 A (storeName X.env x u) Q V4 s:=by
 obtain⟨m,hn,hl⟩:=id I.loc;have hcls:(X.env.scope.kind==.class || (X.env.scope.kind==.module && X.env.locals != X.env.globals))=af:=by rw[I.ok.kind];rfl
 have J:i<E.length:=by rw[I.len];exact(cU.mp hi).1
 have cne:=I.cne
 have l:∀{a:Addr} {h':Heap},(∃o,s.heap.get? a=aa o/\H a=ab)->f9 a s.heap h'->HOk X.prog X.w H h':=λ{a h'} ha f b ob e=>by
  obtain⟨_,_,hfree⟩:=ha;refine(I.hok b ob e).stay (λc w' C q=>(f.2 c ?_).trans q) (λ_ q=>q) λ_ _ q=>q
  grind
 rcases B with hk |hk
 .refine wpAny_storeName_local hk hn (λh' hn' f=>?_) hcls;obtain⟨oL,_,_,hoL,_⟩:=id hn;refine h _ ⟨I.ok,I.os,I.bare,⟨λb o e n L B=>((f.2 b (bW (fh (bx e) I.ok.above))).trans (I.base.keep b o e n L B)),λb o e n L B=>?_,I.base.free,λb o e B=>?_,I.base.tups,I.base.frzs,I.base.tbls⟩,⟨_,hn',λj y v' g G e3=>?_⟩,λy c e=>?_,I.free,I.freeC,λp hp=>?_,l ⟨oL,hoL,I.free⟩ f,by simpa using I.len⟩ ⟨_,f,.inl rfl⟩
  .obtain⟨sl,g⟩:=I.base.slot b o e n L B;exact⟨sl,(f.2 b (bW (fh (bx e) I.ok.above))).trans g⟩
  .obtain⟨o',g⟩:=I.base.there b o e B;exact⟨o',(f.2 b (bW (fh (bx e) I.ok.above))).trans g⟩
  .by_cases T:j=i
   .subst T;rw[hi]at g;cases g;rw[jU J]at G;cases G;exact⟨u,r,.inl ⟨hk,by simp⟩⟩
   .rw[kK (eG T)]at G;obtain⟨u',r',q⟩:=hl j y v' g G e3;refine⟨u',r',?_⟩
    rcases q with⟨k,e⟩ |⟨k,c,e,z⟩
    .refine .inl ⟨k,?_⟩;have:y≠x:=λe=>T (DM hN g (e▸hi))
     grind
    .exact .inr ⟨k,c,e,z.sameBut f (cne y c e)⟩
  .obtain⟨w',z⟩:=I.cell y c e;exact⟨w',z.sameBut f (cne y c e)⟩
  .obtain⟨e,n,ne,nf,d⟩:=I.pin p hp;exact⟨(f.2 p.1 ne).trans e,n,ne,nf,d⟩
 .have M:X.fn x=ac:=by
   grind
  obtain⟨c,C⟩:=I.ok.has x (.inl hk);obtain⟨w',z⟩:=I.cell x c C;refine wpAny_storeName_cell I.ok.kind hk C z (λh' Y f=>?_);obtain⟨oc,hoc,hocd⟩:=id z
  refine h {s with heap:=h'} ⟨I.ok,I.os,I.bare,⟨λb o e n L B=>((f.2 b (bW (fh (bx e) (I.ok.cab x c M C)))).trans (I.base.keep b o e n L B)),λb o e n L B=>?_,I.base.free,λb o e B=>?_,I.base.tups,I.base.frzs,I.base.tbls⟩,⟨m,hn.sameBut f (eG (cne x c C)),λj y v' g G e3=>?_⟩,λy c' e=>?_,I.free,I.freeC,λp hp=>?_,l ⟨oc,hoc,I.freeC x c C⟩ f,by simpa using I.len⟩ ⟨c,f,.inr C⟩
  .obtain⟨sl,g⟩:=I.base.slot b o e n L B;exact⟨sl,(f.2 b (bW (fh (bx e) (I.ok.cab x c M C)))).trans g⟩
  .obtain⟨o',g⟩:=I.base.there b o e B;exact⟨o',(f.2 b (bW (fh (bx e) (I.ok.cab x c M C)))).trans g⟩
  .by_cases T:j=i
   .subst T;rw[hi]at g;cases g;rw[jU J]at G;cases G;exact⟨u,r,.inr ⟨.inl hk,c,C,Y⟩⟩
   .rw[kK (eG T)]at G;obtain⟨u',r',q⟩:=hl j y v' g G e3;refine⟨u',r',?_⟩
    rcases q with q |⟨k,c',e,z'⟩
    .exact .inl q
    .refine .inr ⟨k,c',e,z'.sameBut f ?_⟩;rintro rfl;exact T (DM hN g (I.ok.inj _ _ _ e C▸hi))
  .by_cases hcc:c'=c
   .subst hcc;exact⟨_,Y⟩
   .obtain⟨w2,z2⟩:=I.cell y c' e;exact⟨w2,z2.sameBut f hcc⟩
  .obtain⟨e,n,ne,nf,d⟩:=I.pin p hp;refine⟨(f.2 p.1 ?_).trans e,n,ne,nf,d⟩;intro q;rw[q,hoc]at e;exact d w' (by rw[<- (dk e)];exact hocd)
end
def wV{s:ah}(I:Inv X U E H s)(c:X.N.Nodup)(hi:X.N[i]?=aa x)(e:Loc X.env.scope x)(r:aA v u)
 (h:∀a,Inv X U (E.set i (aa v)) H a->Q () a)(d:LcF X x:=by first |exact .inl rfl |exact .inr rfl |assumption):wpAny V1 A (storeName X.env x u) Q V4 s:=
 DN I c hi e r (λa b _=>h a b) d
variable{s':ah}
def Inv.call'{s:ah}{ch:LAd}(I:Inv X U E H s)(e:s'.os=s.os)(u:Un (frs X.stack) ch H H' s.heap s'.heap)(hok:HOk X.prog X.w H' s'.heap)(d:jY s'.gens)
 (a:∀b∈ch,(b∈X.ex\/X.s₀.heap.objs.size<=b)/\b≠X.env.locals/\(∀x c,X.env.cells.lookup x=aa c->c≠b)/\∀p∈X.pn++U,p.1≠b):Inv X U E H' s':=by
 obtain⟨h',g',d',t',o'⟩:=s';subst e;exact I.call u hok d a
nonrec def XK:=Value->Option Addr->Hp->Prop
nonrec def St:=List (Option V)
nonrec def VK:=V->Hp->Prop
nonrec def TE:=St->Hp->VK->Prop
nonrec def TT:=St->Hp->(Bool->Hp->Prop)->Prop
nonrec def TA:=St->Hp->(LVv->Hp->Prop)->Prop
structure i0 where
 nx:St->Hp->Prop
 rt:VK
 bk:St->Hp->Prop:=λ_ _=>False
 ct:St->Hp->Prop:=λ_ _=>False
nonrec def TS:=i0->St->Hp->Prop
abbrev EP(X:Cx)(U:PNS)(E:St)(Q:VK)(u:Value)(s':ah):Prop:=∃v H',Inv X U E H' s'/\aA v u/\Q v H'
abbrev TP(X:Cx)(U:PNS)(E:St)(Q:Bool->Hp->Prop)(b:Bool)(s':ah):Prop:=∃H',Inv X U E H' s'/\Q b H'
abbrev AP(X:Cx)(U:PNS)(E:St)(Q:LVv->Hp->Prop)(us:LVa)(s':ah):Prop:=∃vs H',Inv X U E H' s'/\aG vs us/\Q vs H'
abbrev SP(X:Cx)(U:PNS)(D:i0)(f:Flow)(s':ah):Prop:=
 match f with
 |.next=>∃σ' H',Inv X U σ' H' s'/\D.nx σ' H'
 |.brk=>∃σ' H',Inv X U σ' H' s'/\D.bk σ' H'
 |.cont=>∃σ' H',Inv X U σ' H' s'/\D.ct σ' H'
 |.ret u=>∃v σ' H',Inv X U σ' H' s'/\aA v u/\D.rt v H'
abbrev PE(X:Cx)(e:Expr)(t:TE):Prop:=
 ∀(U:PNS) (s:ah) (E:St) (H:Hp) (Q:VK),Inv X U E H s->t E H Q->wpAny @2 X.A (eval e X.env) (EP X U E Q) X.xe s
abbrev PT(X:Cx)(e:Expr)(t:TT):Prop:=
 ∀(U:PNS) (s:ah) (E:St) (H:Hp) (Q:Bool->Hp->Prop),Inv X U E H s->t E H Q->wpAny @2 X.A (isTrue e X.env (eval e X.env)) (TP X U E Q) X.xe s
abbrev PW(X:Cx)(e:Expr)(t:TT):Prop:=
 ∀(a:Sem Value) (U:PNS) (s:ah) (E:St) (H:Hp) (Q:Bool->Hp->Prop),Inv X U E H s->t E H Q->wpAny @2 X.A (isTrue e X.env a) (TP X U E Q) X.xe s
variable{e:Expr}
def PW.pt{t:TT}(h:PW X e t):PT X e t:=h _
abbrev PA(X:Cx)(es:LEx)(t:TA):Prop:=
 ∀(pos:Pos) (U:PNS) (s:ah) (E:St) (H:Hp) (Q:LVv->Hp->Prop),Inv X U E H s->t E H Q->wpAny @2 X.A (spliced (ca pos (aN es X.env))) (AP X U E Q) X.xe s
abbrev PS(X:Cx)(st:Stmt)(t:TS):Prop:=
 ∀(U:PNS) (s:ah) (E:St) (H:Hp) (D:i0),Inv X U E H s->t D E H->wpAny @2 X.A (exec st X.env) (SP X U D) X.xe s
abbrev PSs(X:Cx)(st:List Stmt)(t:TS):Prop:=
 ∀(U:PNS) (s:ah) (E:St) (H:Hp) (D:i0),Inv X U E H s->t D E H->wpAny @2 X.A (execs st X.env) (SP X U D) X.xe s
def thn{c:Type}{t:Sem c}{Q b:c->ah->Prop}{s:ah}(h:wpAny V1 A t Q V4 s)(d:∀a s,Q a s->b a s):wpAny V1 A t b V4 s:=fI h d λ_ _ x=>x
abbrev cQ(i:Nat):TE:=λE H Q=>∃v,E[i]?=aa (aa v)/\Q v H
abbrev tC(v:V):TE:=λ_ H Q=>Q v H
variable{pos:Pos}
def mx(g:X.N[i]?=aa x)(hv:Vis X.env.scope x)(hd:NDb x:=by decide)(d:NCd x:=by decide):PE X (.Name x pos) (cQ i):=by
 intro U s E H Q I h;obtain⟨v,e,h⟩:=h;obtain⟨m,hn,j⟩:=I.loc;obtain⟨u,r,l⟩:=j i x v g e hv;have fin:EP X U E Q u s:=⟨v,H,I,r,h⟩
 rcases l with⟨b,hm⟩ |⟨b,c,f,a⟩
 .exact wpAny_Name (wpAny_loadName_local I.ok.kind b hn hm fin) hd
 .rcases b with b |b
  .exact wpAny_Name (wpAny_loadName_cell I.ok.kind b f a fin) hd
  .exact wpAny_Name (wpAny_loadName_free I.ok.kind b f a fin d) hd
def DQ{i j pos}:PE X (.Constant (.int i) j pos) (tC (.int i)):=λ_ _ _ H _ I h=>wpAny_Constant_int ⟨.int i,H,I.tok _,⟨_,rfl⟩,h⟩
def J5{b j pos}:PE X (.Constant (.bool b) j pos) (tC (.bl b)):=λ_ _ _ H _ I h=>Constant_bool ⟨.bl b,H,I,rfl,h⟩
def J6{j pos}:PE X (.Constant .none j pos) (tC .non):=λ_ _ _ H _ I h=>Constant_none ⟨.non,H,I,rfl,h⟩
def J7{x j pos}:PE X (.Constant (.str x) j pos) (tC (.str x)):=λ_ _ _ H _ I h=>Calls.Constant_str ⟨.str x,H,I.tok _,⟨_,rfl⟩,h⟩
abbrev Gl(X:Cx)(x:Str):Prop:=X.env.kindOf x=aa .globalImplicit
variable{E:St}
def wW{s:ah}{Q:PRS}(I:Inv X U E H s)(a:Gl X x)(hm:X.mg x=aa u)(h:Q u s)
 (hd:NDb x:=by decide):wpAny @2 X.A (eval (.Name x pos) X.env) Q V4 s:=
 Calls.Name_function_global I.ok.kind a (Calls.loadGlobal_global (by rw[I.ok.glob];exact I.mod.glob.keeps I.bk) hm h) hd
def g8{s:ah}{Q:PRS}(I:Inv X U E H s)(a:Gl X x)(hm:X.mg x=ab)(hv:jC x=aa u)(h:Q u s)
 (hn:x ≠ "__name__":=by decide)(hd:NDb x:=by decide):wpAny @2 X.A (eval (.Name x pos) X.env) Q V4 s:=by
 obtain⟨mb,h1,h2⟩:=I.mod.blt;exact Calls.Name_function_global I.ok.kind a (Calls.loadGlobal_builtin (by rw[I.ok.glob];exact I.mod.glob.keeps I.bk) hm (by rw[I.ok.blt];exact h1.keeps I.bk) ((h2 x hn).trans hv) h) hd
def J8(a:Gl X x)(hm:X.mg x=ab)(hv:jC x=aa u)(r:aA v u)(hn:x ≠ "__name__":=by decide)(hd:NDb x:=by decide):PE X (.Name x pos) (tC v):=
 λ_ _ _ H _ I h=>g8 I a hm hv ⟨v,H,I,r,h⟩ hn hd
abbrev t2I(a b:TE)(k:Int->Int->Hp->Prop):St->Hp->Prop:=λE H=>a E H λx H1=>b E H1 λy H2=>∃i j,x=.int i/\y=.int j/\k i j H2
abbrev gz(a b:TE):TE:=λE H Q=>t2I a b (λi j H2=>Q (.int (i+j)) H2) E H
abbrev PC(X:Cx)(op:CmpOp)(a b:Expr)(t:TE):Prop:=
 ∀(U:PNS) (s:ah) (E:St) (H:Hp) (Q:VK),Inv X U E H s->t E H Q ->
  wpAny @2 X.A (eval a X.env) (λv c=>wpAny @2 X.A (eval b X.env) (λu d=>wpAny @2 X.A (cV op v u) (EP X U E Q) X.xe d) X.xe c) X.xe s
variable{a b:Expr}
def J9{op:CmpOp}{t:TE}(h:PC X op a b t)(h1:kU op b=af:=by first |exact nobehind _ (by decide) (by decide) |rfl):PE X (.Compare a [op] [b] pos) t:=λU s E H Q I c=>wpAny_Compare1 (h U s E H Q I c) h1
abbrev Ka(t u:TT):TT:=λE H Q=>t E H λc H1=>if c=ac then u E H1 Q else Q af H1
abbrev tOr(t u:TT):TT:=λE H Q=>t E H λc H1=>if c=ac then Q ac H1 else u E H1 Q
abbrev Kb(t:TT):TT:=λE H Q=>t E H λc H1=>Q (!c) H1
variable{tA:TT}
def Kc(ha:PT X a tA):PW X (.BoolOp .And [a] pos) tA:=by
 intro wh U s E H Q I h;refine isTrue_and (thn (ha U s E H Q I h) λc s1 e=>?_)
 cases c with
 |true=>exact isTrue_and_nil e
 |false=>exact e
def Kd(ha:PT X a tA):PW X (.BoolOp .Or [a] pos) tA:=by
 intro wh U s E H Q I h;refine isTrue_or (thn (ha U s E H Q I h) λc s1 e=>?_)
 cases c with
 |false=>exact isTrue_or_nil e
 |true=>exact e
variable{tB':TT}
def Ke{rest:LEx}(ha:PT X a tA)(f:PW X (.BoolOp .And (b::rest) pos) tB'):PW X (.BoolOp .And (a::b::rest) pos) (Ka tA tB'):=by
 intro wh U s E H Q I h;refine isTrue_and (thn (ha U s E H _ I h) λc s1 g=>?_);obtain⟨H1,d,e⟩:=g
 cases c with
 |true=>exact f wh U s1 E H1 Q d e
 |false=>exact⟨H1,d,e⟩
def Kf{rest:LEx}(ha:PT X a tA)(f:PW X (.BoolOp .Or (b::rest) pos) tB'):PW X (.BoolOp .Or (a::b::rest) pos) (tOr tA tB'):=by
 intro wh U s E H Q I h;refine isTrue_or (thn (ha U s E H _ I h) λc s1 g=>?_);obtain⟨H1,d,e⟩:=g
 cases c with
 |true=>exact⟨H1,d,e⟩
 |false=>exact f wh U s1 E H1 Q d e
def Kg(ha:PT X a tA):PT X (.UnaryOp .Not a pos) (Kb tA):=by
 intro U s E H Q I h;exact isTrue_not (ha U s E H _ I h)
abbrev Kh(a b:TE):TE:=λE H Q=>a E H λx H1=>∃c,x=.bl c/\if c=ac then b E H1 Q else Q (.bl af) H1
abbrev Ki(a b:TE):TE:=λE H Q=>a E H λx H1=>∃c,x=.bl c/\if c=ac then Q (.bl ac) H1 else b E H1 Q
abbrev Kj(a:TE):TE:=λE H Q=>a E H λx H1=>∃c,x=.bl c/\Q (.bl (!c)) H1
def Kk{op}{t:TE}(h:PE X a t):PE X (.BoolOp op [a] pos) t:=λU s E H Q I b=>BoolOp_one (h U s E H Q I b)
variable{ta tb:TE}
def Kl{rest:LEx}(ha:PE X a ta)(f:PE X (.BoolOp .And (b::rest) pos) tb):PE X (.BoolOp .And (a::b::rest) pos) (Kh ta tb):=by
 intro U s E H Q I h;refine BoolOp_and (thn (ha U s E H _ I h) λv s1 g=>?_);obtain⟨x,H1,e,i,d⟩:=g;obtain⟨c,rfl,d⟩:=d;subst i;refine n6 ?_
 cases c with
 |true=>exact f U s1 E H1 Q e d
 |false=>exact⟨.bl af,H1,e,rfl,d⟩
def Km{rest:LEx}(ha:PE X a ta)(f:PE X (.BoolOp .Or (b::rest) pos) tb):PE X (.BoolOp .Or (a::b::rest) pos) (Ki ta tb):=by
 intro U s E H Q I h;refine BoolOp_or (thn (ha U s E H _ I h) λv s1 g=>?_);obtain⟨x,H1,e,i,d⟩:=g;obtain⟨c,rfl,d⟩:=d;subst i;refine n6 ?_
 cases c with
 |false=>exact f U s1 E H1 Q e d
 |true=>exact⟨.bl ac,H1,e,rfl,d⟩
def Kn(ha:PE X a ta):PE X (.UnaryOp .Not a pos) (Kj ta):=by
 intro U s E H Q I h;refine UnaryOp_ (thn (ha U s E H _ I h) λv s1 e=>?_);obtain⟨x,H1,d,f,b⟩:=e;obtain⟨c,rfl,b⟩:=b;subst f;exact not_of (n6 ⟨.bl (!c),H1,d,rfl,b⟩)
abbrev tIf(t:TT)(ta tb:TE):TE:=λE H Q=>t E H λc H1=>if c=ac then ta E H1 Q else tb E H1 Q
variable{c:Expr}
def DR(i:PT X c tA)(ha:PE X a ta)(g:PE X b tb):PE X (.IfExp c a b pos) (tIf tA ta tb):=by
 intro U s E H Q I h;refine wpAny_IfExp (thn (i U s E H _ I h) λd s1 j=>?_);obtain⟨H1,e,f⟩:=j
 cases d with
 |true=>exact ha U s1 E H1 Q e f
 |false=>exact g U s1 E H1 Q e f
abbrev SqL(K:aQ)(H:Hp)(a:Addr)(C:LVv):Prop:=
 Rd H a (.lst C) \/
  ∃(o:Obj) (B:Array Value) (n:Nat),K.lookup a=aa o/\o.cls=.type "list" /\ o.dict=ab/\o.data=.seq B n/\B.size<=aS/\aG C B.toList
abbrev SqT(K:aQ)(H:Hp)(a:Addr)(C:LVv):Prop:=
 Rd H a (.tup C) \/
  ∃(o:Obj) (B:Array Value) (n:Nat),K.lookup a=aa o/\o.cls=.type "tuple" /\ o.data=.seq B n/\B.size<=aS/\aG C B.toList
abbrev Ko:Value->Option V
 |.none=>aa .non
 |.bool b=>aa (.bl b)
 |.int i _=>aa (.int i)
 |.str x _=>aa (.str x)
 |.bytes b _=>aa (.byt b)
 |.float b _=>aa (.flt b)
 |.ref a=>aa (.ref a)
 |.type n=>aa (.ty n)
 | _=>ab
def aA.abs{x:V}(r:aA x u):Ko u=aa x:=by
 cases x with
 |non=>subst r;rfl
 |bl _=>subst r;rfl
 |int _=>obtain⟨t,rfl⟩:=r;rfl
 |str _=>obtain⟨t,rfl⟩:=r;rfl
 |byt _=>obtain⟨t,rfl⟩:=r;rfl
 |flt _=>obtain⟨t,rfl⟩:=r;rfl
 |ref _=>subst r;rfl
 |ty _=>subst r;rfl
variable{y:V}
def aA.inj{x:V}(r:aA x u)(q:aA y u):x=y:=dk (r.abs.symm.trans q.abs)
def aG.inj:∀{C a:LVv} {us:LVa},aG C us->aG a us->C=a
 | _,_,_,.nil,.nil=>rfl
 | _,_,_,.cons r t,.cons r' t'=>by rw[r.inj r',aG.inj t t']
variable{a:Addr}{K:aQ}
def SqL.of(h:H a=aa (.lst C)):SqL K H a C:=.inl (.inl h)
def SqT.of(h:H a=aa (.tup C)):SqT K H a C:=.inl (.inl h)
def Inv.list{s:ah}(I:Inv X U E H s)(h:SqL X.K H a C):∃B:LVa,aG C B/\PlainL s.heap a B.toArray/\C.length<=aS:=by
 rcases h with h |⟨o,B,n,hk,hc,hd,hs,hz,r⟩
 .obtain⟨z,B,n,r,e⟩:=h.ok I.hok;exact⟨B,r,⟨_,n,e,rfl,rfl,rfl⟩,z⟩
 .refine⟨B.toList,r,⟨o,n,I.kIn a o hk,hc,hd,by simpa using hs⟩,?_⟩;have e:=r.length
  grind
def Inv.tuple{s:ah}(I:Inv X U E H s)(h:SqT X.K H a C):∃B:LVa,aG C B/\IsTup s.heap a B.toArray/\C.length<=aS:=by
 rcases h with h |⟨o,B,n,hk,hc,hs,hz,r⟩
 .obtain⟨z,B,r,p⟩:=h.ok I.hok;exact⟨B,r,p,z⟩
 .refine⟨B.toList,r,⟨o,I.kIn a o hk,hc,n,by simpa using hs⟩,?_⟩;have e:=r.length;simp only[iN]at e
  lia
variable{ys:LVv}
def Inv.list_inj{s:ah}(I:Inv X U E H s)(h:SqL X.K H a C)(h':SqL X.K H a ys):C=ys:=by
 obtain⟨B,r,⟨o,n,e,_,_,d⟩,_⟩:=I.list h;obtain⟨b,c,⟨o',f,e',_,_,d'⟩,_⟩:=I.list h';rw[e]at e';cases e';rw[d]at d'
 injection d' with d1 _
 have:B=b:=by grind
 subst this;exact r.inj c
def Inv.tuple_inj{s:ah}(I:Inv X U E H s)(h:SqT X.K H a C)(h':SqT X.K H a ys):C=ys:=by
 obtain⟨B,r,⟨o,e,_,n,d⟩,_⟩:=I.tuple h;obtain⟨b,c,⟨o',e',_,f,d'⟩,_⟩:=I.tuple h';rw[e]at e';cases e';rw[d]at d'
 injection d' with d1 _
 have:B=b:=by grind
 subst this;exact r.inj c
nonrec def Cx.wish(X:Cx)(V4:PRS):Cx:={X with xe:=V4}
nonrec def Cx.nox(X:Cx):Cx:=X.wish λ_ _=>False
def Cx.Ok.wish(ok:X.Ok)(V4:PRS):(X.wish V4).Ok:=
 ⟨ok.mod,ok.kind,ok.glob,ok.blt,ok.above,ok.inj,ok.has,ok.cab,ok.hd,ok.frames,ok.stk,ok.exf,ok.bs,ok.bsz,ok.noex,ok.exfs,ok.funs,ok.frf⟩
def Cx.Ok.unwish(ok:(X.wish V4).Ok):X.Ok:=
 ⟨ok.mod,ok.kind,ok.glob,ok.blt,ok.above,ok.inj,ok.has,ok.cab,ok.hd,ok.frames,ok.stk,ok.exf,ok.bs,ok.bsz,ok.noex,ok.exfs,ok.funs,ok.frf⟩
def Inv.wish{s:ah}(I:Inv X U E H s)(V4:PRS):Inv (X.wish V4) U E H s:=⟨I.ok.wish V4,I.os,I.bare,I.base,I.loc,I.cell,I.free,I.freeC,I.pin,I.hok,I.len⟩
def Inv.unwish{s:ah}(I:Inv (X.wish V4) U E H s):Inv X U E H s:=⟨I.ok.unwish,I.os,I.bare,I.base,I.loc,I.cell,I.free,I.freeC,I.pin,I.hok,I.len⟩
def SP.unwish{D:i0}{f:Flow}(h:SP (X.wish V4) U D f s'):SP X U D f s':=by
 cases f with
 |next=>obtain⟨σ',H',I,q⟩:=h;exact⟨σ',H',I.unwish,q⟩
 |brk=>obtain⟨σ',H',I,q⟩:=h;exact⟨σ',H',I.unwish,q⟩
 |cont=>obtain⟨σ',H',I,q⟩:=h;exact⟨σ',H',I.unwish,q⟩
 |ret u=>obtain⟨v,σ',H',I,r,q⟩:=h;exact⟨v,σ',H',I.unwish,r,q⟩
def PSs.nox{st:List Stmt}{t:TS}(h:PSs X.nox st t):PSs X st t:=λU s E H D I a=>
 fI (h U s E H D (I.wish _) a) (λ_ _ q=>q.unwish) λ_ _ z=>gT z
abbrev Kq:TS:=λD E H=>D.nx E H
abbrev Kr(t u:TS):TS:=λD E H=>t {D with nx:=u D} E H
def DU:PSs X [] Kq:=λ_ _ E H _ I h=>sU ⟨E,H,I,h⟩
variable{st:Stmt}{u:TS}
def tu{rest:List Stmt}{t:TS}(h1:PS X st t)(h2:PSs X rest u):PSs X (st::rest) (Kr t u):=by
 intro U s E H D I h
 refine wpAny_execs_cons (thn (h1 U s E H {D with nx:=u D} I h) λf s1 q=>?_)
 cases f with
 |next=>
  obtain⟨σ',H',a,q⟩:=q
  exact h2 U s1 σ' H' D a q
 |ret v=>exact q
 |brk=>exact q
 |cont=>exact q
def DV{t:TS}(h1:PS X st t):PSs X [st] t:=by
 intro U s E H D I h;refine wpAny_execs_cons (thn (h1 U s E H D I h) λf s1 q=>?_)
 cases f with
 |next=>exact sU q
 |ret v=>exact q
 |brk=>exact q
 |cont=>exact q
def Inv.quiet{s:ah}(I:Inv X U E H s):interactive X.env=af:=by simp[interactive,I.ok.kind]
abbrev mC(te:TE):TS:=λD E H=>te E H λ_ H1=>D.nx E H1
variable{te:TE}
def lh(b:PE X e te)(c:f7 e ab pos.line X.env=pure af:=by rfl):PS X (.Expr e pos) (mC te):=by
 intro U s E H D I h;exact wpAny_Expr_any (thn (b U s E H _ I h) λv s1 ⟨x,H1,a,f,d⟩=>⟨E,H1,a,d⟩) I.quiet c
abbrev Ks(te:TE):TS:=λD E H=>te E H D.rt
def tz(b:PE X e te):PS X (.Return (aa e) pos) (Ks te):=by
 intro U s E H D I h;exact wpAny_Return_some (thn (b U s E H _ I h) λv s1 ⟨x,H1,a,d,c⟩=>⟨x,E,H1,a,d,c⟩)
abbrev Kt(c:TT)(t u:TS):TS:=λD E H=>c E H λb H1=>if b=ac then t D E H1 else u D E H1
variable{tc:TT}
def Ku{t:TS}{a b:List Stmt}(i:PT X c tc)(ha:PSs X a t)(g:PSs X b u):PS X (.If c a b pos) (Kt tc t u):=by
 intro U s E H D I h;refine wpAny_If (thn (i U s E H _ I h) λd s1 j=>?_);obtain⟨H1,e,f⟩:=j
 cases d with
 |true=>exact ha U s1 E H1 D e f
 |false=>exact g U s1 E H1 D e f
nonrec def TG:=V->St->Hp->(St->Hp->Prop)->Prop
nonrec def TGs:=LVv->St->Hp->(St->Hp->Prop)->Prop
abbrev PG(X:Cx)(a:Expr)(t:TG):Prop:=
 ∀(U:PNS) (s:ah) (E:St) (H:Hp) (v:V) (u:Value) (Q:St->Hp->Prop),Inv X U E H s->aA v u->t v E H Q ->
  wpAny @2 X.A (assign a X.env u) (λ_ s'=>∃σ' H',Inv X U σ' H' s'/\Q σ' H') X.xe s
abbrev PGs(X:Cx)(ts:LEx)(t:TGs):Prop:=
 ∀(U:PNS) (s:ah) (E:St) (H:Hp) (vs:LVv) (us:LVa) (Q:St->Hp->Prop),Inv X U E H s->aG vs us->t vs E H Q ->
  wpAny @2 X.A (assignInOrder ((iT ts X.env).map (·.2)) us) (λ_ s'=>∃σ' H',Inv X U σ' H' s'/\Q σ' H') X.xe s
nonrec def wX:=V->V->V->Hp->(Hp->Prop)->Prop
abbrev DY(X:Cx)(t:wX):Prop:=
 ∀(U:PNS) (s:ah) (E:St) (H:Hp) (o i v:V) (b a u:Value) (Q:Hp->Prop),Inv X U E H s->aA o b->aA i a->aA v u->t o i v H Q ->
  wpAny @2 X.A (setItem b a u) (λ_ s'=>∃H',Inv X U E H' s'/\Q H') X.xe s
nonrec def TIp:=V->V->Hp->VK->Prop
abbrev PIp(X:Cx)(op:Operator)(t:TIp):Prop:=
 ∀(U:PNS) (s:ah) (E:St) (H:Hp) (x y:V) (v u:Value) (Q:VK),Inv X U E H s->aA x v->aA y u->t x y H Q ->
  wpAny @2 X.A (inplaceOp op v u) (EP X U E Q) X.xe s
abbrev g9(i:Nat):TG:=λv E H Q=>Q (E.set i (aa v)) H
def wY(b:X.N.Nodup)(hi:X.N[i]?=aa x)(d:Loc X.env.scope x)(c:LcF X x:=by first |exact .inl rfl |exact .inr rfl |assumption):PG X (.Name x pos) (g9 i):=by
 intro U s E H v u Q I r h;exact wpAny_assign_Name (wV I b hi d r (λs' a=>⟨_,H,a,h⟩) c)
abbrev Kv:TGs:=λvs E H Q=>vs=[]/\Q E H
abbrev Kw(t:TG)(u:TGs):TGs:=λvs E H Q=>∃v r,vs=v::r/\t v E H λσ' H'=>u r σ' H' Q
def Kx:PGs X [] Kv:=by
 intro U s E H vs us Q I r h;obtain⟨e,h⟩:=h;exact assignInOrder_nil ⟨E,H,I,h⟩
variable{es:LEx}
def Ky{t:TG}{u:TGs}(h1:PG X e t)(h2:PGs X es u)
 (d:(iT (e::es) X.env).map (·.2)=assign e X.env::(iT es X.env).map (·.2):=by rfl):PGs X (e::es) (Kw t u):=by
 intro U s E H vs us Q I r h;obtain⟨v,i,c,h⟩:=h;subst c
 cases r with
 |cons r g=>
  rw[d];exact assignInOrder_cons (thn (h1 U s E H _ _ _ I r h) λ_ s1 ⟨a,H1,b,f⟩=>(h2 U s1 a H1 _ _ Q b g f))
abbrev Kz(K:aQ)(n:Nat)(t:TGs):TG:=λv E H Q=>∃a C,v=.ref a/\SqT K H a C/\C.length=n/\t C E H Q
def KA{k:Nat}{t:TGs}{n:Nat}(g:X.calm=ac)(h:PGs X es t)
 (hn:(iT es X.env).length=n:=by rfl)(c:(iT es X.env).findIdx? (·.1)=ab:=by rfl):PG X (.Tuple es k pos) (Kz X.K n t):=by
 intro U s E H v u Q I r d;obtain⟨a,C,f,j,i,d⟩:=d;subst f;subst r;obtain⟨B,rv,l,hz⟩:=I.tuple j;refine assign_Tuple_tuple (I.ok.hd g) l (by simp[hn,<- i,rv.length]) c λh' m=>?_;exact h U _ E H C _ Q (I.kept λb o e=>m b o (bW (bx e)) e) (by simpa using rv) d
abbrev wZ(to b:TE)(t:wX):TG:=λv E H Q=>to E H λo H1=>b E H1 λi H2=>t o i v H2 λa=>Q E a
def w5{o i:Expr}{to d:TE}{t:wX}(l:PE X o to)(hi:PE X i d)(m:DY X t)
 (ha:∀ v,assign (.Subscript o i pos) X.env v=(do
   let a <- eJ [v] (eval o X.env)
   let b <- eJ [v,a] (eval i X.env)
   gt pos
   eJ [v,a,b] (setItem a b v)
   release [v,a,b] []):=by intro _;rfl):PG X (.Subscript o i pos) (wZ to d t):=by
 intro U s E H v u Q I r h;refine aj (jB (thn (l U s E H _ I h) λa s1 c=>?_));obtain⟨x,H1,f,w,n⟩:=c;refine aj (jB (thn (hi U s1 E H1 _ f n) λb s2 c=>?_));obtain⟨y,H2,g,z,p⟩:=c;exact aj (wpAny_standAt (aj (jB (thn (m U s2 E H2 x y v a b u _ g w z r p) λ_ A ⟨e,j,q⟩=>(wpAny_release ⟨E,e,j,q⟩)))))
abbrev i4(te:TE)(g:TG):TS:=λD E H=>te E H λx H1=>g x E H1 D.nx
variable{tg:Expr}{g:TG}
def w6(b:PE X e te)(c:PG X tg g)(d:swapsWithSole [tg] e pos.line X.env=pure af:=by rfl)(f:swappedStores [tg] e X.env=pure ab:=by rfl)
 (h1:(iT [tg] X.env).map (·.2)=[assign tg X.env]:=by rfl):PS X (.Assign [tg] e pos) (i4 te g):=by
 intro U s E H D I h;refine wpAny_Assign_stores (thn (b U s E H _ I h) λv s1 j=>?_) d f;obtain⟨x,H1,a,l,i⟩:=j;rw[h1];exact thn (c U s1 E H1 x v _ a l i) λ_ s2 q=>q
variable{b4:Pos}
def ou(c:X.N.Nodup)(hi:X.N[i]?=aa x)(j:Loc X.env.scope x)(d:PE X e te)(g:f7 e (aa (.Name x b4)) pos.line X.env=pure af:=by rfl)(f:LcF X x:=by first |exact .inl rfl |exact .inr rfl |assumption):
  PS X (.Assign [.Name x b4] e pos) (i4 te (g9 i)):=by
 intro U s E H D I h;exact wpAny_Assign_Name (thn (d U s E H _ I h) λv s1 ⟨y,H1,a,m,l⟩=>(wV a c hi j m (λs2 b=>⟨_,H1,b,l⟩) f)) g
abbrev KB(i:Nat)(te:TE)(a:TIp):TS:=λD E H=>∃x,E[i]?=aa (aa x)/\te E H λy H1=>a x y H1 λz H2=>D.nx (E.set i (aa z)) H2
variable{op:Operator}
def D0{n:TIp}(G:X.N.Nodup)(hi:X.N[i]?=aa x)(g:Loc X.env.scope x)(L:PE X e te)(T:PIp X op n)(M:LcF X x:=by first |exact .inl rfl |exact .inr rfl |assumption):
  PS X (.AugAssign (.Name x b4) op e pos) (KB i te n):=by
 intro U s E H D I h;obtain⟨v,C,h⟩:=h;obtain⟨m,hn,Q⟩:=I.loc
 have j:Vis X.env.scope x:=by rcases g with k |k;exact .inl k;exact .inr (.inl k)
 obtain⟨u,r,l⟩:=Q i x v hi C j;refine wpAny_AugAssign_Name ?_
 have go:wpAny @2 X.A (eval e X.env) (λw d=>wpAny @2 X.A (inplaceOp op u w) (λr f=>wpAny @2 X.A (storeName X.env x r) (λ_=>SP X U D .next) X.xe f) X.xe d) X.xe s:=by
  refine thn (L U s E H _ I h) λw s1 q_=>?_;obtain⟨y,H1,p,r1,Y⟩:=q_;exact thn (T U s1 E H1 v y u w _ p r r1 Y) λz s2 ⟨zv,H2,q,r2,q2⟩=>(wV q G hi g r2 (λs3 B=>⟨_,H2,B,q2⟩) M)
 rcases l with⟨a,hm⟩ |⟨a,c,J,b⟩
 .exact wpAny_loadName_local I.ok.kind a hn hm go
 .rcases a with a |a
  .exact wpAny_loadName_cell I.ok.kind a J b go
  .rcases g with k |k
   .have:X.env.scope.names.lookup x=aa .free:=a
    grind
   .have:X.env.scope.names.lookup x=aa .free:=a
    grind
abbrev ipI(f:Int->Int->Int):TIp:=λx y H Q=>∃i j,x=.int i/\y=.int j/\Q (.int (f i j)) H
def KC:PIp X .Add (ipI λi j=>i+j):=by
 intro U s E H x y v u Q I c d h;obtain⟨i,j,a,b,q⟩:=h;subst a;subst b;obtain⟨t,rfl⟩:=c;obtain⟨t',rfl⟩:=d;exact iadd_int ⟨.int _,H,I.tok _,⟨_,rfl⟩,q⟩
def KD:PIp X .Sub (ipI λi j=>i-j):=by
 intro U s E H x y v u Q I c d h;obtain⟨i,j,a,b,q⟩:=h;subst a;subst b;obtain⟨t,rfl⟩:=c;obtain⟨t',rfl⟩:=d;exact isub_int ⟨.int _,H,I.tok _,⟨_,rfl⟩,q⟩
abbrev KE(c:TT)(tb:TS):TS:=λD E H=>∃W:Nat->St->Hp->Prop,(∃m,W m E H)/\∀m E H,W m E H ->
 c E H λb H1=>if b=ac then ∃N:St->Hp->Prop,(∀σ' H',N σ' H'->∃a,a<m/\W a σ' H')/\tb {D with nx:=N,ct:=N,bk:=D.nx} E H1 else D.nx E H1
variable{body:List Stmt}
def KF{tb:TS}(x:PassesOwn @2 X.A X.env X.xe)(B:PT X c tc)(z:PSs X body tb):PS X (.While c body [] pos) (KE tc tb):=by
 intro U s E H D I h;obtain⟨W,⟨C,J⟩,g⟩:=h;refine wpAny_While (codeAny_whileLoop (λn s'=>∃σ' H',Inv X U σ' H' s'/\W n σ' H') ?_ C ⟨E,H,I,J⟩);rintro n s1 ⟨d,H1,y,L⟩;refine l9 x (thn (B U s1 d H1 _ y (g n d H1 L)) λb s2 G=>?_);obtain⟨H2,r,i⟩:=G
 cases b with
 |true=>
  obtain⟨N,u,i⟩:=i;refine l9 x (thn (z U s2 d H2 _ r i) λf M j=>?_)
  cases f with
  |next=>
   obtain⟨a,e,l,p⟩:=j;obtain⟨m,hm,q⟩:=u a e p
   exact⟨m,hm,a,e,l,q⟩
  |cont=>
   obtain⟨a,e,l,p⟩:=j;obtain⟨m,hm,q⟩:=u a e p
   exact⟨m,hm,a,e,l,q⟩
  |brk=>exact j
  |ret v=>exact j
 |false=>
  exact sU ⟨d,H2,r,i⟩
structure It where
 go:Nat->Hp->Prop
 yld:Nat->Hp->V->Hp->Prop
 stop:Nat->Hp->Prop
abbrev hE(X:Cx)(U:PNS)(H:Hp)(b:Addr):Prop:=
 H b=ab/\b≠X.env.locals/\b∉X.fs/\(b∈X.ex\/X.s₀.heap.objs.size<=b)/\(∀x c,X.env.cells.lookup x=aa c->c≠b)/\∀p∈X.pn++U,p.1≠b
def Inv.fpOk{s:ah}{b:Addr}(I:Inv X U E H s)(a:s.heap.objs.size<=b)(hn:H' b=ab):hE X U H' b:=by
 refine⟨hn,kO (fh I.lt a),I.nofs a,.inr (cN I.sz a),λx c e z=>?_,λp d z=>(absurd (fh (bx (I.pin p d).1) (by rw[z];exact a)) (jz _))⟩;obtain⟨v,q⟩:=I.cell x c e;exact absurd (fh q.lt (by rw[z];exact a)) (jz _)
structure j9(P:b9)(w:World)(K:aQ)(tg:Expr)(J:It)(fp:LAd)(it:Addr)(tn:Nat->Heap->Prop):Prop where
 mem:it∈fp
 obj:∀i h,tn i h->∀b∈fp,∃o,h.get? b=aa o/\∀v,o.data≠.cell v
 keep:∀i h h',tn i h->(∀b∈fp,∀o,h.get? b=aa o->h'.get? b=aa o)->tn i h'
 item:∀(X:Cx),X.prog=P->X.w=w->X.K=K->X.calm=ac->∀(i:Nat) (U:PNS) (s:ah) (E:St) (H:Hp) (V4:PRS),Inv X U E H s->(∀b∈fp,hE X U H b)->tn i s.heap->J.go i H ->
  wpAny (model P w) X.A (g4 (.ref it)) (λr s1=>∃ u,r=aa u /\
   wpAny (model P w) X.A (letOwnedTupleGo tg (.ref it) u) (λ_ s2=>∃x H',Inv X U E H' s2/\aA x u/\J.yld i H x H'/\tn (i+1) s2.heap/\∀b∈fp,H' b=ab) V4 s1) V4 s
 done:∀(X:Cx),X.prog=P->X.w=w->X.K=K->X.calm=ac->∀(i:Nat) (U:PNS) (s:ah) (E:St) (H:Hp) (V4:PRS),Inv X U E H s->(∀b∈fp,hE X U H b)->tn i s.heap->J.stop i H ->
  wpAny (model P w) X.A (g4 (.ref it)) (λr s1=>r=ab/\Inv X U E H s1) V4 s
 self:∀(A:b6) (i:Nat) (s:ah) (Q:PRS) (V4:PRS),tn i s.heap->Q (.ref it) s->wpAny (model P w) A (pyIter (.ref it)) Q V4 s
nonrec def TI:=St->Hp->(It->Hp->Prop)->Prop
abbrev PIE(X:Cx)(U:PNS)(E:St)(tg:Expr)(R:It->Hp->Prop)(a:Value)(s2:ah):Prop:=
 ∃(it:Addr) (fp:LAd) (tn:Nat->Heap->Prop) (J:It) (H':Hp),a=.ref it/\Inv X U E H' s2/\j9 X.prog X.w X.K tg J fp it tn/\tn 0 s2.heap/\(∀b∈fp,hE X U H' b)/\R J H'
abbrev PI(X:Cx)(tg iter:Expr)(a:TI):Prop:=
 ∀(U:PNS) (s:ah) (E:St) (H:Hp) (R:It->Hp->Prop),Inv X U E H s->a E H R ->
  wpAny @2 X.A (eval iter X.env) (λv s1=>wpAny @2 X.A (pyIter v) (PIE X U E tg R) X.xe s1) X.xe s
variable{u:Value}
def tB{s:ah}{o:Obj}{n:String}{vs:Array Value}(c:s.heap.get? it = aa o)(b:o.cls = .type n)(hd:o.data = .fields vs)
   (hn:["enumerate", "zip", "dict_itemiterator", "dict_reverseitemiterator", "odict_iterator", "itertools.zip_longest", "itertools.pairwise"].contains n = af)(a:Q () s):wpAny V1 A (letOwnedTupleGo tg (.ref it) u) Q V4 s:= by
  cases tg <;> first
    |exact aC a
    | (cases u <;> first
        |exact aC a
        | (refine aj (wpAny_load c ?_)
           rw[b, hd];show wpAny V1 A (if _ = ac then _ else _) Q V4 s;rw[if_neg (by grind)];exact aC a))
abbrev Itl(K:aQ)(a:Addr):It:=
 ⟨λi H=>∃C x,SqL K H a C/\C[i]?=aa x,λi H x H'=>H'=H/\∀C,SqL K H a C->C[i]?=aa x,λi H=>∃C,SqL K H a C/\C.length<=i⟩
abbrev Itt(K:aQ)(a:Addr):It:=
 ⟨λi H=>∃C x,SqT K H a C/\C[i]?=aa x,λi H x H'=>H'=H/\∀C,SqT K H a C->C[i]?=aa x,λi H=>∃C,SqT K H a C/\C.length<=i⟩
abbrev Itr(lo:Int)(n:Nat):It:=⟨λi _=>i<n,λi H x H'=>H'=H/\x=.int (lo+i),λi _=>n<=i⟩
def KG(a it:Addr):j9 P w K tg (Itl K a) [it] it (λi h=>h.IsListIter it a i) where
 mem:=by simp
 obj:=λi h st b hb=>by
  have e:b=it:=by simpa using hb
  subst e;obtain⟨o,e,c,d⟩:=st;exact⟨o,e,λv z=>by rw[d]at z;nomatch z⟩
 keep:=λi h h' st k=>st.at λo e=>k it (by simp) o e
 item:=by
  intro X hP hw hK hc i U s E H V4 I hf st hg;subst hP hw hK;obtain⟨C,x,hq,hx⟩:=hg;obtain⟨B,rv,p,hz⟩:=I.list hq;obtain⟨u,hu,ru⟩:=rv.get hx;obtain⟨f0,f1,f2,f3,f4,f5⟩:=hf it (by simp);refine wpAny_pyNext_list_item st p.isList (by simpa using hu) λh' eh sb=>?_;obtain⟨o,e,c,d⟩:=id eh;exact⟨u,rfl,tB e c d (rfl) ⟨x,H,(I.turned (λb o hb e=>(sb.2 b hb).trans e) f0 f1 f3 f4 f5),ru,⟨rfl,λys hy=>by rw[I.list_inj hy hq];exact hx⟩,eh,λb hb=>(hf b hb).1⟩⟩
 done:=by
  intro X hP hw hK hc i U s E H V4 I hf st hg;subst hP hw hK;obtain⟨C,hq,hx⟩:=hg;obtain⟨B,rv,p,hz⟩:=I.list hq;obtain⟨f0,f1,f2,f3,f4,f5⟩:=hf it (by simp);have hl:=rv.length;exact wpAny_pyNext_list_end (I.ok.hd hc) st p.isList (by simp;lia) λh' eb=>⟨rfl,I.turned (λb o hb e=>eb b o hb e) f0 f1 f3 f4 f5⟩
 self:=λ_ _ _ _ _ st h=>wpAny_pyIter_listiter st h
def KH(a it:Addr):j9 P w K tg (Itt K a) [it] it (λi h=>h.IsTupleIter it a i) where
 mem:=by simp
 obj:=λi h st b hb=>by
  have e:b=it:=by simpa using hb
  subst e;obtain⟨o,e,c,d⟩:=st;exact⟨o,e,λv z=>by rw[d]at z;nomatch z⟩
 keep:=λi h h' st k=>st.at λo e=>k it (by simp) o e
 item:=by
  intro X hP hw hK hc i U s E H V4 I hf st hg;subst hP hw hK;obtain⟨C,x,hq,hx⟩:=hg;obtain⟨B,rv,p,hz⟩:=I.tuple hq;obtain⟨u,hu,ru⟩:=rv.get hx;obtain⟨f0,f1,f2,f3,f4,f5⟩:=hf it (by simp);refine wpAny_pyNext_tuple_item st (p) (by simpa using hu) λh' eh sb=>?_;obtain⟨o,e,c,d⟩:=id eh;exact⟨u,rfl,tB e c d (rfl) ⟨x,H,(I.turned (λb o hb e=>(sb.2 b hb).trans e) f0 f1 f3 f4 f5),ru,⟨rfl,λys hy=>by rw[I.tuple_inj hy hq];exact hx⟩,eh,λb hb=>(hf b hb).1⟩⟩
 done:=by
  intro X hP hw hK hc i U s E H V4 I hf st hg;subst hP hw hK;obtain⟨C,hq,hx⟩:=hg;obtain⟨B,rv,p,hz⟩:=I.tuple hq;obtain⟨f0,f1,f2,f3,f4,f5⟩:=hf it (by simp);have hl:=rv.length;exact wpAny_pyNext_tuple_end (I.ok.hd hc) st (p) (by simp;lia) λh' eb=>⟨rfl,I.turned (λb o hb e=>eb b o hb e) f0 f1 f3 f4 f5⟩
 self:=λ_ _ _ _ _ st h=>wpAny_pyIter_tupleiter st h
def KI(it:Addr)(lo:Int)(n:Nat):j9 P w K tg (Itr lo n) [it] it (λi h=>IsRangeIter h it (lo+(i:Nat)*1) ((n:Int)-(i:Nat)) 1) where
 mem:=by simp
 obj:=λi h st b hb=>by
  have e:b=it:=by simpa using hb
  subst e
  exact⟨_,st,λv z=>by
   nomatch z⟩
 keep:=λi h h' st k=>k it (by simp) _ st
 item:=by
  intro X hP hw hK hc i U s E H V4 I hf st hg;obtain⟨f0,f1,f2,f3,f4,f5⟩:=hf it (by simp);refine(Walks.range (I.ok.hd hc) it lo 1 n).item i s _ _ hg st λv h' tk hv eh kk=>?_;obtain⟨t,rfl⟩:=hv
  have I1:Inv X U E H {s with heap:=h',toks:=tk}:=I.turned (λb o hb e=>kk b o (by simpa using hb) e) f0 f1 f3 f4 f5
  refine⟨_,rfl,tB eh rfl rfl (rfl) ⟨.int _,H,I1,⟨t,?_⟩,⟨rfl,rfl⟩,eh,λb hb=>(hf b hb).1⟩⟩;rw[Int.mul_one]
 done:=by
  intro X hP hw hK hc i U s E H V4 I hf st hg;obtain⟨f0,f1,f2,f3,f4,f5⟩:=hf it (by simp);exact wpAny_pyNext_range_end (I.ok.hd hc) st (by have:n<=i:=hg;lia) λh' eb=>⟨rfl,I.turned (λb o hb e=>eb b o hb e) f0 f1 f3 f4 f5⟩
 self:=λ_ _ _ _ _ st h=>wpAny_pyIter_rangeiter st h
abbrev w9(K:aQ)(tl:TE):TI:=λE H R=>tl E H λx H1=>∃a,x=.ref a/\(∃C,SqL K H1 a C)/\R (Itl K a) H1
abbrev KJ(K:aQ)(tl:TE):TI:=λE H R=>tl E H λx H1=>∃a,x=.ref a/\(∃C,SqT K H1 a C)/\R (Itt K a) H1
variable{l:Expr}{tl:TE}
def xc(f:PE X l tl):PI X tg l (w9 X.K tl):=by
 intro U s E H R I h;refine thn (f U s E H _ I h) λv s1 j=>?_;obtain⟨x,H1,c,m,i⟩:=j;obtain⟨a,e,⟨C,g⟩,q⟩:=i;subst e;subst m;obtain⟨B,rv,p,hz⟩:=c.list g;refine wpAny_pyIter_list p.isList ?_;refine⟨s1.heap.objs.size,_,_,_,H1,rfl,c.kept λb o e=>bw _ e,KG a _,⟨_,cP _ rfl,rfl,rfl⟩,λb d=>?_,q⟩;have e:b=s1.heap.objs.size:=by simpa using d
 subst e;exact c.fpOk (aM _) (c.hok.fresh (aM _))
def KL(f:PE X l tl):PI X tg l (KJ X.K tl):=by
 intro U s E H R I h;refine thn (f U s E H _ I h) λv s1 j=>?_;obtain⟨x,H1,c,m,i⟩:=j;obtain⟨a,e,⟨C,g⟩,q⟩:=i;subst e;subst m;obtain⟨B,rv,p,hz⟩:=c.tuple g;refine wpAny_pyIter_tuple (p) ?_;refine⟨s1.heap.objs.size,_,_,_,H1,rfl,c.kept λb o e=>bw _ e,KH a _,⟨_,cP _ rfl,rfl,rfl⟩,λb d=>?_,q⟩;have e:b=s1.heap.objs.size:=by simpa using d
 subst e;exact c.fpOk (aM _) (c.hok.fresh (aM _))
def KM{s:ah}{R:It->Hp->Prop}{lo hi:Int}{t u v:Tok}{c:Nat}(I:Inv X U E H s)(h1:-(2 ^ 62)<=lo)(h2:lo<2 ^ 62)(g:-(2 ^ 62)<=hi)(h:hi<2 ^ 62)
 (q:R (Itr lo (hi-lo).toNat) H):wpAny @2 X.A (pyIter (.ref s.heap.objs.size)) (PIE X U E tg R) V4 {s with heap:=s.heap.push {cls:=.type "range",data:=.fields #[.int lo t,.int hi u,.int 1 v]},toks:=c}:=by
 refine wpAny_pyIter_range (IsRange.new ..) (small_one h1 h2 g h) ?_
 have a:Inv X U E H {s with heap:=s.heap.push {cls:=.type "range",data:=.fields #[.int lo t,.int hi u,.int 1 v]},toks:=c}:=I.kept λb o e=>bw _ e
 refine⟨(s.heap.push {cls:=.type "range",data:=.fields #[.int lo t,.int hi u,.int 1 v]}).objs.size,_,_,_,H,rfl,
  a.kept λb o e=>bw _ e,KI _ lo (hi-lo).toNat,?_,λb i=>?_,q⟩
 .have d:lo+((0:Nat):Int)*1=lo:=by simp
  have f:(((hi-lo).toNat:Nat):Int)-((0:Nat):Int)=eK.Range.rangeSize lo hi 1:=by rw[rangeSize_one];split <;> lia
  rw[d,f];exact cP _ rfl
 .have e:b=(s.heap.push {cls:=.type "range",data:=.fields #[.int lo t,.int hi u,.int 1 v]}).objs.size:=by simpa using i
  subst e;exact a.fpOk (aM _) (a.hok.fresh (aM _))
abbrev KN(ta:TA):TI:=λE H R=>ta E H λvs H1=>∃j:Int,vs=[.int j]/\-(2 ^ 62)<=j/\j<2 ^ 62/\R (Itr 0 j.toNat) H1
variable{a:Expr}
def KO{ta:TA}{p:Pos}(d:Gl X "range")(hm:X.mg "range"=ab)(ha:PA X [a] ta)(f:aN [a] X.env=[(af,eval a X.env)]:=by rfl):PI X tg (.Call (.Name "range" p) [a] [] pos) (KN ta):=by
 intro U s E H R I h;refine Call_ (g8 I d hm boot_range (jX (thn (ha pos U s E H _ I h) λus s1 ⟨vs,H1,c,i,b⟩=>?_) f rfl));obtain⟨j,e,b,g,q⟩:=b;subst e
 cases i with
 |cons r l=>
  cases l;obtain⟨t,rfl⟩:=r;exact call_range_1 (KM c (by lia) (by lia) b g (by simpa using q))
abbrev xf(c:TI)(g:TG)(tb:TS):TS:=λD E H=>c E H λJ H1=>∃W:Nat->Nat->St->Hp->Prop,(∃m,W 0 m E H1)/\∀i m E H,W i m E H ->
 (J.stop i H/\D.nx E H)\/(J.go i H/\∃N:St->Hp->Prop,(∀σ' H',N σ' H'->∃b,b<m/\W (i+1) b σ' H')/\∀x H',J.yld i H x H'->g x E H' λa H2=>tb {D with nx:=N,ct:=N,bk:=D.nx} a H2)
abbrev tE(fp:LAd)(h:Heap):PNS:=fp.filterMap λb=>(h.get? b).map λo=>(b,o)
variable{fp:LAd}
def tF{b:Addr}{o:Obj}(a:b∈fp)(e:h.get? b=aa o):(b,o)∈tE fp h:=mem_filterMap.mpr ⟨b,a,by rw[e];rfl⟩
def KP{p:Addr×Obj}(a:p∈tE fp h):p.1∈fp/\h.get? p.1=aa p.2:=by
 obtain⟨b,c,e⟩:=mem_filterMap.mp a
 cases q:h.get? b with
 |none=>rw[q]at e;nomatch e
 |some o=>
  grind
def Inv.pinned{s:ah}(I:Inv X U E H s)(c:∀b∈fp,hE X U H b)(g:∀b∈fp,∃o,s.heap.get? b=aa o/\∀v,o.data≠.cell v):Inv X (U++tE fp s.heap) E H s:=
 I.pins_of λp d=>(bv.mp d).elim (λz=>I.pin p (ce _ z)) λz=>by
  obtain⟨a,e⟩:=KP z;obtain⟨f,f1,f2,_⟩:=c p.1 a
  grind
def Inv.unpinned{b:PNS}{s:ah}(I:Inv X (U++b) E H s):Inv X U E H s:=I.pins_of λp a=>I.pin p (ce _ (bS _ a))
variable{iter:Expr}{wi:TI}
def D3{tb:TS}(C:PassesOwn @2 X.A X.env X.xe)(hc:X.calm=ac)(hi:PI X tg iter wi)(hg:PG X tg g)(l:PSs X body tb)
 (hs:∀x,kS iter X.env x=pure x:=by intro _;rfl):PS X (.For tg iter body [] pos) (xf wi g tb):=by
 intro U s E H D I h;refine wpAny_For (thn (hi U s E H _ I h) λv s1 h1=>thn h1 λitv s2 h2=>?_) hs;obtain⟨it,fp,tn,J,H2,e,I2,T,st2,f2,W,⟨m0,w0⟩,Q⟩:=h2;subst e;have p:∀{H':Hp},(∀b∈fp,H' b=ab)->∀b∈fp,hE X U H' b:=λhn b l=>⟨hn b l,(f2 b l).2⟩;refine codeAny_forLoop_any (λn s'=>∃i σ' H',Inv X U σ' H' s'/\tn i s'.heap/\(∀b∈fp,H' b=ab)/\W i n σ' H') ?_ m0 ⟨0,E,H2,I2,st2,λb l=>(f2 b l).1,w0⟩;rintro n s3 ⟨i,q,Y,I3,M,B,w3⟩
 rcases Q i n q Y w3 with⟨stop,qn⟩ |⟨go,N,hN,step⟩
 .refine l9 C (thn (T.done X rfl rfl rfl hc i U s3 q Y X.xe I3 (p B) M stop) λr s4 ⟨hr,I4⟩=>?_);subst hr;exact sU ⟨q,Y,I4,qn⟩
 .refine l9 C (thn (T.item X rfl rfl rfl hc i U s3 q Y X.xe I3 (p B) M go) λr s4 L=>?_);obtain⟨u,hr,h4⟩:=L;subst hr;refine l9 C (thn h4 λ_ s5 L=>?_);obtain⟨x,H5,I5,r5,y5,z,fr5⟩:=L;refine l9 C (thn (hg _ s5 q H5 x u _ (I5.pinned (p fr5) (T.obj _ _ z)) r5 (step x H5 y5)) λ_ s6 L=>?_);obtain⟨σ6,H6,I6,q6⟩:=L;refine l9 C (thn (l _ s6 σ6 H6 _ I6 q6) λf s7 y=>?_)
  have again:∀{a:St} {c:Hp},Inv X _ a c s7->N a c->∃m,m<n/\∃i σ' H',Inv X U σ' H' s7/\tn i s7.heap/\(∀b∈fp,H' b=ab)/\W i m σ' H':=λ{a c} j G=>by
   obtain⟨m',hm,w7⟩:=hN a c G;refine⟨m',hm,i+1,a,c,j.unpinned,T.keep _ _ _ z λb l o e=>(j.pin _ (ce _ (ce _ (tF l e)))).1,λb l=>?_,w7⟩;obtain⟨o,e,d⟩:=T.obj _ _ z b l;exact(j.pin _ (ce _ (ce _ (tF l e)))).2.1
  cases f with
  |next=>obtain⟨a,c,j,G⟩:=y;exact again j G
  |cont=>obtain⟨a,c,j,G⟩:=y;exact again j G
  |brk=>obtain⟨a,c,j,y⟩:=y;exact⟨a,c,j.unpinned,y⟩
  |ret v=>obtain⟨x7,a,c,j,r7,y⟩:=y;exact⟨x7,a,c,j.unpinned,r7,y⟩
nonrec def R2:=V->V->Hp->VK->Prop
abbrev OpR(X:Cx)(f:Value->Value->Sem Value)(r:R2):Prop:=
 ∀(U:PNS) (s:ah) (E:St) (H:Hp) (x y:V) (v u:Value) (Q:VK),Inv X U E H s->aA x v->aA y u->r x y H Q ->
  wpAny @2 X.A (f v u) (EP X U E Q) X.xe s
abbrev UnR(X:Cx)(f:Value->Sem Value)(r:V->Hp->VK->Prop):Prop:=
 ∀(U:PNS) (s:ah) (E:St) (H:Hp) (x:V) (v:Value) (Q:VK),Inv X U E H s->aA x v->r x H Q ->
  wpAny @2 X.A (f v) (EP X U E Q) X.xe s
abbrev iu(X:Cx)(f:Value)(r:LVv->Hp->VK->Prop):Prop:=
 ∀(U:PNS) (s:ah) (E:St) (H:Hp) (C:LVv) (us:LVa) (Q:VK),Inv X U E H s->aG C us->r C H Q ->
  wpAny @2 X.A (call f us) (EP X U E Q) X.xe s
abbrev KQ(X:Cx)(r:V->Hp->(Bool->Hp->Prop)->Prop):Prop:=
 ∀(U:PNS) (s:ah) (E:St) (H:Hp) (x:V) (v:Value) (Q:Bool->Hp->Prop),Inv X U E H s->aA x v->r x H Q ->
  wpAny @2 X.A (truthy v) (TP X U E Q) X.xe s
abbrev tOp(r:R2)(ta tb:TE):TE:=λE H Q=>ta E H λx H1=>tb E H1 λy H2=>r x y H2 Q
abbrev tUn(r:V->Hp->VK->Prop)(ta:TE):TE:=λE H Q=>ta E H λx H1=>r x H1 Q
abbrev rI(V5:Int->Int->Prop)(g:Int->Int->V):R2:=λx y H Q=>∃i j,x=.int i/\y=.int j/\V5 i j/\Q (g i j) H
abbrev rI0(g:Int->Int->V):R2:=λx y H Q=>∃i j,x=.int i/\y=.int j/\Q (g i j) H
abbrev rU(g:Int->V):V->Hp->VK->Prop:=λx H Q=>∃i,x=.int i/\Q (g i) H
variable{f:Value->Value->Sem Value}
def xg(ha:PE X a ta)(i:PE X b tb){s:ah}{R:V->V->Hp->Prop}(I:Inv X U E H s)
 (h:ta E H λx H1=>tb E H1 λy H2=>R x y H2){Q:PRS}
 (j:∀v u s2 x y H2,Inv X U E H2 s2->aA x v->aA y u->R x y H2->wpAny @2 X.A (f v u) Q X.xe s2):
  wpAny @2 X.A (eval a X.env) (λv c=>wpAny @2 X.A (eval b X.env) (λu d=>wpAny @2 X.A (f v u) Q X.xe d) X.xe c) X.xe s:=by
 refine thn (ha U s E H _ I h) λv s1 n=>?_;obtain⟨x,H1,e,p,l⟩:=n;exact thn (i U s1 E H1 _ e l) λu s2 ⟨y,H2,g,q,m⟩=>(j v u s2 x y H2 g p q m)
def D4{r:R2}(e:OpR X (fJ op) r)(ha:PE X a ta)(d:PE X b tb):PE X (.BinOp a op b pos) (tOp r ta tb):=by
 intro U s E H Q I h;exact wpAny_BinOp (xg ha d I h λv u s2 x y H2 c f g q=>e U s2 E H2 x y v u Q c f g q)
def KR{op:UnaryOp}{r:V->Hp->VK->Prop}(c:UnR X (unaryOp op) r)(ha:PE X a ta):PE X (.UnaryOp op a pos) (tUn r ta):=by
 intro U s E H Q I h;exact UnaryOp_ (thn (ha U s E H _ I h) λv s1 ⟨x,H1,b,e,d⟩=>c U s1 E H1 x v Q b e d)
def opI{V5:Int->Int->Prop}{g:Int->Int->Int}
 (rule:∀(i j:Int) (t u:Tok) (s:ah) (Q:PRS) (V4:PRS),V5 i j->Q (.int (g i j) s.toks) {s with toks:=s.toks+1}->wpAny @2 X.A (f (.int i t) (.int j u)) Q V4 s):
  OpR X f (rI V5 λi j=>.int (g i j)):=by
 intro U s E H x y v u Q I b c h;obtain⟨i,j,rfl,rfl,a,q⟩:=h;obtain⟨t,rfl⟩:=b;obtain⟨t',rfl⟩:=c;exact rule i j t t' s _ _ a ⟨.int _,H,I.tok _,⟨_,rfl⟩,q⟩
def D5{g:Int->Int->Int}
 (rule:∀(i j:Int) (t u:Tok) (s:ah) (Q:PRS) (V4:PRS),Q (.int (g i j) s.toks) {s with toks:=s.toks+1}->wpAny @2 X.A (f (.int i t) (.int j u)) Q V4 s):
  OpR X f (rI0 λi j=>.int (g i j)):=by
 intro U s E H x y v u Q I a b h;obtain⟨i,j,rfl,rfl,q⟩:=h;obtain⟨t,rfl⟩:=a;obtain⟨t',rfl⟩:=b;exact rule i j t t' s _ _ ⟨.int _,H,I.tok _,⟨_,rfl⟩,q⟩
def tG{g:Int->Int->Bool}
 (rule:∀(i j:Int) (t u:Tok) (s:ah) (Q:PRS) (V4:PRS),Q (.bool (g i j)) s->wpAny @2 X.A (f (.int i t) (.int j u)) Q V4 s):
  OpR X f (rI0 λi j=>.bl (g i j)):=by
 intro U s E H x y v u Q I a b h;obtain⟨i,j,rfl,rfl,q⟩:=h;obtain⟨t,rfl⟩:=a;obtain⟨t',rfl⟩:=b;exact rule i j t t' s _ _ ⟨.bl _,H,I,rfl,q⟩
abbrev qo(i j:Int):Prop:=0<j/\j<1073741824
abbrev mD(i j:Int):Prop:=0<=j/\j<=1000000/\i.natAbs<2 ^ 64
abbrev qp(i j:Int):Prop:=(-(2 ^ 64)<i/\i<2 ^ 64)\/(-(2 ^ 64)<j/\j<2 ^ 64)
variable{j:Int}
def qp.ok{i:Int}(h:qp i j):IntMulOk i j:=by
 rcases h with⟨h1,h2⟩ |⟨h1,h2⟩
 .exact .of_left (intBits_le_64 h1 h2)
 .exact .of_right (intBits_le_64 h1 h2)
def KS:OpR X (fJ .Add) (rI0 λi j=>.int (i+j)):=D5 λ_ _ _ _ _ _ _ q=>add_int q
def KU:OpR X (fJ .Sub) (rI0 λi j=>.int (i-j)):=D5 λ_ _ _ _ _ _ _ q=>sub_int q
def KW:OpR X (fJ .FloorDiv) (rI qo λi j=>.int (i / j)):=opI λi j _ _ _ _ _ a q=>by
 have h1:=a.1;have h2:=a.2;exact floordiv_int (by lia) (by rw[Int.fdiv_eq_ediv_of_nonneg i (by lia)];exact q) (.inl (PyProof.noPylong_small (by lia)))
def KY:OpR X (fJ .Mod) (rI (λ_ j=>0<j) λi j=>.int (i % j)):=opI λi j _ _ _ _ _ a q=>by
 exact mod_int' (by lia) (by rw[Int.fmod_eq_emod_of_nonneg i (by lia)];exact q)
def KZ:OpR X (fJ .Pow) (rI mD λi j=>.int (i ^ j.toNat)):=opI λ_ _ _ _ _ _ _ a q=>pow_int_small a.1 a.2.1 a.2.2 q
def unI{f:Value->Sem Value}{g:Int->Int}
 (rule:∀(i:Int) (t:Tok) (s:ah) (Q:PRS) (V4:PRS),Q (.int (g i) s.toks) {s with toks:=s.toks+1}->wpAny @2 X.A (f (.int i t)) Q V4 s):
  UnR X f (rU λi=>.int (g i)):=by
 intro U s E H x v Q I a h;obtain⟨i,rfl,q⟩:=h;obtain⟨t,rfl⟩:=a;exact rule i t s _ _ ⟨.int _,H,I.tok _,⟨_,rfl⟩,q⟩
def K0:UnR X (unaryOp .USub) (rU λi=>.int (-i)):=unI λ_ _ _ _ _ q=>neg_int q
abbrev xh:V->V->Bool
 |.non,.non=>ac |.non,.int _=>ac |.int _,.non=>ac |.non,.bl _=>ac |.bl _,.non=>ac |.non,.str _=>ac |.str _,.non=>ac
 |.int _,.int _=>ac |.bl _,.bl _=>ac |.str _,.str _=>ac |.byt _,.byt _=>ac
 |.int _,.str _=>ac |.str _,.int _=>ac |.bl _,.str _=>ac |.str _,.bl _=>ac
 | _,_=>af
abbrev rEq:R2:=λx y H Q=>xh x y=ac/\Q (.bl (decide (x=y))) H
abbrev rNe:R2:=λx y H Q=>xh x y=ac/\Q (.bl (!decide (x=y))) H
def xi{i:Int}:decide (V.int i=V.int j)=(i==j):=by
 rw[jT];simp
def qr{i j:Bool}:decide (V.bl i=V.bl j)=(i==j):=by
 rw[jT];simp
def xj{i j:Str}:decide (V.str i=V.str j)=(i==j):=by
 rw[jT];simp
def D6{i j:Array UInt8}:decide (V.byt i=V.byt j)=(i.toList==j.toList):=by
 rw[jT];cases i;cases j;simp
def bT{s:ah}{Q:VK}{k a:Bool}(I:Inv X U E H s)(q:Q (.bl k) H)(e:k=a):EP X U E Q (.bool a) s:=by
 subst e;exact⟨.bl k,H,I,rfl,q⟩
def K1:OpR X (cV .Eq) rEq:=by
 intro U s E H x y v u Q I c a h;obtain⟨b,q⟩:=h
 cases x with
 |non=>
  cases c
  cases y with
  |non=>subst a;exact PySem.EqNone.eq_none_none (bT I q (by rfl))
  |bl j=>subst a;exact PySem.EqNone.eq_none_bool (bT I q (by rfl))
  |int j=>obtain⟨t',rfl⟩:=a;exact PySem.EqNone.eq_none_int (bT I q (by rfl))
  |str j=>obtain⟨t',rfl⟩:=a;exact PySem.EqNone.eq_none_str (bT I q (by rfl))
  | _=>exact absurd (b) bO
 |bl i=>
  subst c
  cases y with
  |non=>subst a;exact PySem.EqNone.eq_bool_none (bT I q (by simp))
  |bl j=>subst a;exact eq_bool (bT I q qr)
  |str j=>obtain⟨t',rfl⟩:=a;exact PySem.EqMixed.eq_bool_str (bT I q (by simp))
  | _=>exact absurd (b) bO
 |int i=>
  obtain⟨t,rfl⟩:=c
  cases y with
  |non=>subst a;exact PySem.EqNone.eq_int_none (bT I q (by simp))
  |int j=>obtain⟨t',rfl⟩:=a;exact eq_int (bT I q xi)
  |str j=>obtain⟨t',rfl⟩:=a;exact PySem.EqMixed.eq_int_str (bT I q (by simp))
  | _=>exact absurd (b) bO
 |str i=>
  obtain⟨t,rfl⟩:=c
  cases y with
  |non=>subst a;exact PySem.EqNone.eq_str_none (bT I q (by simp))
  |bl j=>subst a;exact PySem.EqMixed.eq_str_bool (bT I q (by simp))
  |int j=>obtain⟨t',rfl⟩:=a;exact PySem.EqMixed.eq_str_int (bT I q (by simp))
  |str j=>obtain⟨t',rfl⟩:=a;exact eq_str (bT I q xj)
  | _=>exact absurd (b) bO
 |byt i=>
  obtain⟨t,rfl⟩:=c
  cases y with
  |byt j=>obtain⟨t',rfl⟩:=a;exact W.eq_bytes (bT I q D6)
  | _=>exact absurd (b) bO
 | _=>cases y <;> exact absurd (show af=ac from b) bO
def K2:OpR X (cV .NotEq) rNe:=by
 intro U s E H x y v u Q I c a h;obtain⟨b,q⟩:=h
 cases x with
 |non=>
  cases c
  cases y with
  |non=>subst a;exact PySem.EqNone.ne_none_none (bT I q (by rfl))
  |bl j=>subst a;exact PySem.EqNone.ne_none_bool (bT I q (by rfl))
  |int j=>obtain⟨t',rfl⟩:=a;exact PySem.EqNone.ne_none_int (bT I q (by rfl))
  |str j=>obtain⟨t',rfl⟩:=a;exact PySem.EqNone.ne_none_str (bT I q (by rfl))
  | _=>exact absurd (b) bO
 |bl i=>
  subst c
  cases y with
  |non=>subst a;exact PySem.EqNone.ne_bool_none (bT I q (by rfl))
  |bl j=>subst a;exact ne_bool (bT I q (congrArg not qr))
  |str j=>obtain⟨t',rfl⟩:=a;exact PySem.EqMixed.ne_bool_str (bT I q (by simp))
  | _=>exact absurd (b) bO
 |int i=>
  obtain⟨t,rfl⟩:=c
  cases y with
  |non=>subst a;exact PySem.EqNone.ne_int_none (bT I q (by simp))
  |int j=>obtain⟨t',rfl⟩:=a;exact ne_int (bT I q (congrArg not xi))
  |str j=>obtain⟨t',rfl⟩:=a;exact PySem.EqMixed.ne_int_str (bT I q (by simp))
  | _=>exact absurd (b) bO
 |str i=>
  obtain⟨t,rfl⟩:=c
  cases y with
  |non=>subst a;exact PySem.EqNone.ne_str_none (bT I q (by simp))
  |bl j=>subst a;exact PySem.EqMixed.ne_str_bool (bT I q (by simp))
  |int j=>obtain⟨t',rfl⟩:=a;exact PySem.EqMixed.ne_str_int (bT I q (by simp))
  |str j=>obtain⟨t',rfl⟩:=a;exact ne_str (bT I q (congrArg not xj))
  | _=>exact absurd (b) bO
 |byt i=>
  obtain⟨t,rfl⟩:=c
  cases y with
  |byt j=>obtain⟨t',rfl⟩:=a;exact W.ne_bytes (bT I q (congrArg not D6))
  | _=>exact absurd (show af=ac from b) bO
 | _=>cases y <;> exact absurd (show af=ac from b) bO
def K3:OpR X (cV .Lt) (rI0 λi j=>.bl (decide (i<j))):=tG λ_ _ _ _ _ _ _ q=>lt_int q
def K4:OpR X (cV .LtE) (rI0 λi j=>.bl (decide (i<=j))):=tG λ_ _ _ _ _ _ _ q=>le_int q
def K5:OpR X (cV .Gt) (rI0 λi j=>.bl (decide (j<i))):=tG λ_ _ _ _ _ _ _ q=>gt_int q
def K6:OpR X (cV .GtE) (rI0 λi j=>.bl (decide (j<=i))):=tG λ_ _ _ _ _ _ _ q=>ge_int q
def K7:OpR X (cV .Is) (λx y H Q=>y=.non/\Q (.bl (decide (x=.non))) H):=by
 intro U s E H x y v u Q I a b h;obtain⟨rfl,q⟩:=h;subst b;refine is_none_gen (bT I q ?_)
 cases x <;> first
  |(subst a;rfl)
  |(obtain⟨t,rfl⟩:=a;rfl)
def K8:OpR X (cV .IsNot) (λx y H Q=>y=.non/\Q (.bl (!decide (x=.non))) H):=by
 intro U s E H x y v u Q I a b h;obtain⟨rfl,q⟩:=h;subst b;refine isnot_none_gen (bT I q ?_)
 cases x <;> first
  |(subst a;rfl)
  |(obtain⟨t,rfl⟩:=a;rfl)
variable{op:CmpOp}
def D7(b:Expr)(h:op≠.In:=by decide)(h2:op≠.NotIn:=by decide):kU op b=af:=by
 have a:(op==CmpOp.In)=af:=by grind
 have c:(op==CmpOp.NotIn)=af:=by grind
 cases b <;> simp[kU,a,c]
variable{r:R2}
def K9(e:OpR X (cV op) r)(ha:PE X a ta)(d:PE X b tb)(hm:kU op b=af):PE X (.Compare a [op] [b] pos) (tOp r ta tb):=by
 intro U s E H Q I h;exact wpAny_Compare1 (xg ha d I h λv u s2 x y H2 c f g q=>e U s2 E H2 x y v u Q c f g q) hm
abbrev La(t:TE):TT:=λE H Q=>t E H λx H'=>∃k,x=.bl k/\Q k H'
def Lb(l:OpR X (cV op) r)(ha:PE X a ta)(j:PE X b tb)(hm:kU op b=af):PT X (.Compare a [op] [b] pos) (La (tOp r ta tb)):=by
 intro U s E H Q I h
 refine wpAny_isTrue_Compare1 (thn (ha U s E H _ I h) λv s1 ⟨x,H1,f,q,m⟩=>thn (j U s1 E H1 _ f m) λu s2 ⟨y,H2,g,w,n⟩ =>
  thn (l U s2 E H2 x y v u _ g q w n) λc B ⟨z,d,i,A,k,e,p⟩=>?_) hm
 subst e;subst A;exact n6 ⟨d,i,p⟩
abbrev xk(K:aQ)(x:V)(H:Hp)(k:Bool):Prop:=
 match x with
 |.non=>k=af
 |.bl b=>k=b
 |.int i=>k=(i != 0)
 |.str y=>y.length<=aS/\k=((y.length:Int) != 0)
 |.byt y=>y.size<=aS/\k=((y.size:Int) != 0)
 |.ref p=>(∃C,SqL K H p C/\k=!C.isEmpty)\/(∃C,SqT K H p C/\k=!C.isEmpty)\/∃kvs,H p=aa (.dK kvs)/\k=!kvs.isEmpty
 | _=>False
def Lc{a:Type}{kvs:List (a×V)}{vs:List (a×Value)}(r:KV kvs vs):(!vs.isEmpty)=!kvs.isEmpty:=by
 cases r <;> rfl
variable{B:LVa}
def D8(r:aG C B):(!B.toArray.isEmpty)=!C.isEmpty:=by
 cases r <;> simp
def qt:(aS:Nat)<2 ^ 63:=by rw[dq];decide
def Ld:KQ X (λx H Q=>∃k,xk X.K x H k/\Q k H):=by
 intro U s E H x v Q I c h;obtain⟨k,e,q⟩:=h;have l:=dq
 cases x with
 |non=>
  subst c;have e':=e;subst e'
  exact truthy_none ⟨H,I,q⟩
 |bl b=>
  subst c;have e':=e;subst e'
  exact n6 ⟨H,I,q⟩
 |int i=>
  obtain⟨t,rfl⟩:=c;have e':=e;subst e'
  exact PySem.P.truthy_int ⟨H,I,q⟩
 |str y=>
  obtain⟨t,rfl⟩:=c;obtain⟨j,e'⟩:y.length<=aS/\k=_:=e;subst e'
  exact PySem.P.truthy_str (by lia) ⟨H,I.tok _,q⟩
 |byt y=>
  obtain⟨t,rfl⟩:=c;obtain⟨j,e'⟩:y.size<=aS/\k=_:=e;subst e'
  exact W.truthy_bytes (by lia) ⟨H,I.tok _,q⟩
 |ref p=>
  subst c;have e':=e
  rcases e' with⟨C,d,e'⟩ |⟨C,d,e'⟩ |⟨kvs,d,e'⟩
  .subst e';obtain⟨B,r,f,hz⟩:=I.list d;have a:=r.length;exact wpAny_truthy_list f.isList (by simp only[size_toArray];lia) ⟨H,I.tok _,by rw[D8 r];exact q⟩
  .subst e';obtain⟨B,r,f,hz⟩:=I.tuple d;have a:=r.length;exact truthy_tuple f (by simp only[size_toArray];lia) ⟨H,I.tok _,by rw[D8 r];exact q⟩
  .subst e';obtain⟨hz,g,vs,r,m⟩:kvs.length<=aS/\(p==gY)=af/\∃vs,KV kvs vs/\s.heap.DictOf (lg X.prog X.w) p vs:=I.hok p _ d;have a:=oj r
   exact wpAny_truthy_dict g m (by lia) ⟨H,I.tok _,by rw[Lc r];exact q⟩
 | _=>exact(show False from e).elim
def Le(ha:PE X a ta)(d:∀b,isTrue a X.env b=(do let v <- b;gt a.pos;eJ [v] (truthy v))):
  PT X a (λE H Q=>ta E H λx H'=>∃k,xk X.K x H' k/\Q k H'):=by
 intro U s E H Q I h;exact isTrue_plain (thn (ha U s E H _ I h) λv s1 ⟨x,H1,c,f,e⟩=>Ld U s1 E H1 x v Q c f e) (d _)
def Lf:OpR X (fJ .Add) (λx y H Q=>∃i j,x=.str i/\y=.str j/\i.length+j.length<=aS/\Q (.str (i++j)) H):=by
 intro U s E H x y v u Q I a b h;obtain⟨i,j,rfl,rfl,hz,q⟩:=h;obtain⟨t,rfl⟩:=a;obtain⟨t',rfl⟩:=b;exact add_str (λt' c=>⟨.str _,H,I.tok _,⟨_,rfl⟩,q⟩) hz
def Lg:OpR X (inplaceOp .Add) (λx y H Q=>∃i j,x=.str i/\y=.str j/\i.length+j.length<=aS/\Q (.str (i++j)) H):=by
 intro U s E H x y v u Q I a b h;obtain⟨i,j,rfl,rfl,hz,q⟩:=h;obtain⟨t,rfl⟩:=a;obtain⟨t',rfl⟩:=b;exact iadd_str (λt' c=>⟨.str _,H,I.tok _,⟨_,rfl⟩,q⟩) hz
def mE{x:V}(r:aG [x] us):∃u,us=[u]/\aA x u:=by
 cases r with
 |cons a b=>cases b;exact⟨_,rfl,a⟩
def Lh{x:V}(r:aG [x,y] us):∃u a,us=[u,a]/\aA x u/\aA y a:=by
 cases r with
 |cons b c=>
  cases c with
  |cons d e=>cases e;exact⟨_,_,rfl,b,d⟩
structure mF(h:Heap)(x dx V5:Addr)(mA:MGT):Prop where
 obj:h.get? x=aa (k9 V5 dx)
 ns:h.Ns1 dx mA
 ne:dx≠x
variable{mA:MGT}
def Li{dx:Addr}(n:h.Ns1 dx mA):∃od,h.get? dx=aa od/\∀name,W.lookIn name od=aa (mA name):=by
 obtain⟨o,es,g,d,hd,c,_,hm⟩:=n;refine⟨o,d,λname=>?_⟩;have e:=hm name;unfold nsFind findBy at e;rw[<- Array.find?_toList]at e;unfold W.lookIn;rw[hd];dsimp only;split
 .grind
 .rename_i q;rw[q]at e
  have a:es.toList.any (·.refKey)=af:=by
   rw[any_eq_false];intro y f;obtain⟨z,t,b⟩:=c y (Array.mem_toList_iff.mp f);simp[DictEntry.refKey,b]
  grind
def mF.look{x dx V5:Addr}(I:mF h x dx V5 mA):∃od,W.InstAt h x (k9 V5 dx) V5 (aa od)/\∀name,W.lookIn name od=aa (mA name):=
 let ⟨od,ho,hl⟩:=Li I.ns
 ⟨od,⟨I.obj,rfl,rfl,ho⟩,hl⟩
variable{x V5:Addr}{name:Str}{v:Value}
section
variable{s:ah}{dx:Addr}
def Lj{a:Bool}{Q:PRS}(X:K.In s.heap)(I:mF s.heap x dx V5 mA)(c:j7 K V5 name=ac)(d:k7 K V5=ac)
 (ha:cj K (.ref V5) name=aa ab)(hv:mA name=aa v)(b:W.handedIn v=ac)(h:Q v {s with toks:=s.toks+1}):
  wpAny @12 A (getAttr (.ref x) name a) Q V4 s:=by
 obtain⟨od,J,e⟩:=I.look;exact W.get_value X J (W.plainGet_of c).1 (W.findObj_own d ha rfl (by rw[e,hv])) b h
end
variable{f:Addr}{pl:Sem Bool}
def Lk{s:ah}{dx:Addr}{Q:Value×LVa->ah->Prop}(X:K.In s.heap)(I:mF s.heap x dx V5 mA)(a:j7 K V5 name=ac)
 (b:cj K (.ref V5) name=aa (aa (.ref f)))(d:W.isFn K (.ref f)=ac)(hv:mA name=ab)(h:Q (.ref f,[.ref x]) s):
  wpAny @12 A (gZ (.ref x) name pl) Q V4 s:=by
 obtain⟨od,J,c⟩:=I.look;exact W.method_fn X J (W.plainGet_of a).1 (W.plainGet_of a).2 b (beq_iff_eq.mp d) (by show(W.lookIn name od).map (·.isSome)=aa af;rw[c,hv];rfl) h
section
variable{s:ah}{dx:Addr}
def Ll{ns:LSt}(X:K.In s.heap)(I:mF s.heap x dx V5 mA)
 (n:cj K (.ref V5) "__setattr__"=aa (aa (.builtin "object.__setattr__")))(m:mo K V5=ac)(q:W.takerIn K V5 name=aa ab)(l:k7 K V5=ac)
 (r:PySem.Within mA ns)(p:ns.length<=aS)
 (h:∀h',mF h' x dx V5 (λy=>if y=name then aa v else mA y)->f9 dx s.heap h'->Q () {s with heap:=h',toks:=s.toks+2}):
  wpAny @12 A (setAttr (.ref x) name v) Q V4 s:=by
 obtain⟨od,J,z⟩:=I.look;refine W.set_plain X J n (W.osa_open X J m q λb=>?_);obtain⟨u,j,e⟩:=W.any_some l;refine aj (aC (aj (aj (wpAny_loadPart I.obj (aj (W.Looks.here (W.looks_clsIn X j) ?_))))));rw[e];refine aC (aj (aC (aj ?_)));refine wpAny_nsSet1 I.ns λh' a c=>?_;obtain⟨B,i,g,f,hdD,d⟩:=a.count (PySem.Within.cons name v r);exact aj (wpAny_lookBehind f (by rw[hdD];exact pastItsLine_dict (cN d (by rw[cy];lia))) (aC (h _ ⟨(c.2 _ (eG I.ne)).trans I.obj,a,I.ne⟩ c)))
end
variable{R:Result->ah->Prop}{kw:List (Str×Value)}
section
variable{s:ah}
def Lm{vs:LVa}(X:K.In s.heap)(hm:mq K V5=ac)
 (hi:cj K (.ref V5) "__init__"=aa (aa (.ref f)))(a:W.typeIn K (.ref f)=aa (.type "function"))
 (h:gx @12 (A.under (.builtin "type.__call__" ⟨.ref V5::vs,kw⟩)) (.call (.ref f) ⟨.ref (s.heap.objs.size + 1)::vs,kw⟩) (W.InitBack (s.heap.objs.size + 1) R)
   {s with heap:=(s.heap.push k8).push (k9 V5 s.heap.objs.size)}):
  gx @12 A (.call (.ref V5) ⟨vs,kw⟩) R s:=by
 exact W.make_core (W.makes_of X hm) (W.looks_findIn X hi) (λself=>W.bind_fn X self a) (.inl rfl) h
end
abbrev c7(f:Str)(v:V):List (Str×V)->List (Str×V)
 | []=>[(f,v)]
 |(g,x)::r=>if g=f then (g,v)::r else (g,x)::c7 f v r
def D9(f g:Str)(v:V):∀fs:List (Str×V),(c7 f v fs).lookup g=if g=f then aa v else fs.lookup g
 | []=>by
  show List.lookup g [_]=_
  grind
 |(k,x)::r=>by
  rw[show c7 f v _=(if k=f then _::r else _::c7 f v r)from rfl]
  by_cases b:k=f
  .grind
  .rw[if_neg b]
   by_cases h:g=k
   .grind
   .have a:=beq_eq_false_iff_ne.mpr h;simp only[List.lookup,a];exact(D9 f g v r)
def xl(f:Str)(v:V):∀fs:List (Str×V),f∈(c7 f v fs).map (·.1)/\∀g,g∈fs.map (·.1)->g∈(c7 f v fs).map (·.1)
 | []=>⟨by simp[c7],λg h=>by simp at h⟩
 |(k,x)::r=>by
  obtain⟨a,b⟩:=xl f v r;rw[show c7 f v _=(if k=f then _::r else _::c7 f v r)from rfl]
  grind
def Ea(f:Str)(v:V):∀fs:List (Str×V),(c7 f v fs).length<=fs.length+1
 | []=>by simp[c7]
 |(k,x)::r=>by
  have a:=Ea f v r;rw[show c7 f v _=(if k=f then _::r else _::c7 f v r)from rfl]
  grind
variable{v:V}
def eN.some_of{o:Option Value}(r:eN (aa v) o):∃u,o=aa u/\aA v u:=by
 cases o with
 |none=>exact(r).elim
 |some u=>exact⟨u,rfl,r⟩
def eN.none_of{o:Option Value}(r:eN ab o):o=ab:=by
 cases o with
 |none=>rfl
 |some u=>exact(r).elim
def Ln(r:aA v u):W.handedIn u=ac:=by
 cases v with
 |non=>cases (r);rfl
 |bl b=>cases (r);rfl
 |int i=>obtain⟨t,e⟩:=(r);subst e;rfl
 |str x=>obtain⟨t,e⟩:=(r);subst e;rfl
 |byt b=>obtain⟨t,e⟩:=(r);subst e;rfl
 |flt b=>obtain⟨t,e⟩:=(r);subst e;rfl
 |ref a=>cases (r);rfl
 |ty n=>cases (r);rfl
variable{a:Addr}{fs:List (Str×V)}
def tH{dx:Addr}(hok:HOk P w H h)(e:H a=aa (.ins V5 dx fs)):∃mA,mF h a dx V5 mA/\(∀f,eN (fs.lookup f) (mA f))/\PySem.Within mA (fs.map (·.1))/\fs.length<=1000/\H dx=aa (.own a):=by
 obtain⟨d,z,ne,b,mA,n,r,q⟩:=(hok a _ e);exact⟨mA,⟨b,n,ne⟩,r,q,z,d⟩
structure Cls(K:aQ)(V5:Addr):Prop where
 pg:j7 K V5 oq=ac
 hd:k7 K V5=ac
 po:mo K V5=ac
 sa:cj K (.ref V5) "__setattr__"=aa (aa (.builtin "object.__setattr__"))
def Cls.get(c:Cls K V5)(f:Str):j7 K V5 f=ac:=c.pg
abbrev cH(K:aQ)(V5:Addr)(f:Str):Prop:=cj K (.ref V5) f=aa ab
variable{f:Str}
def cH.taker(n:cH K V5 f):W.takerIn K V5 f=aa ab:=by
 unfold W.takerIn;rw[show cj K _ f=aa ab from n];rfl
structure qu(K:aQ)(V5:Addr)(m:Str)(f:Addr):Prop where
 at_:cj K (.ref V5) m=aa (aa (.ref f))
 fn:W.isFn K (.ref f)=ac
 kp:ga K (.ref f)=ac
def Eb{s:ah}{dx:Addr}{b:Bool}{Q:PRS}(I:Inv X U E H s)(e:H a=aa (.ins V5 dx fs))(c:Cls X.K V5)(n:cH X.K V5 f)(l:fs.lookup f=aa v)
 (h:∀u s',Inv X U E H s'->aA v u->Q u s'):wpAny @2 A (getAttr (.ref a) f b) Q V4 s:=by
 obtain⟨mA,O,r,_,_,_⟩:=tH I.hok e;obtain⟨u,d,ru⟩:=eN.some_of (by rw[<- l];exact r f);exact Lj I.kIn O (c.get f) c.hd n d (Ln ru) (h u _ (I.tok _) ru)
variable{m:Str}
def Ec{s:ah}{dx:Addr}{g:Addr}{Q:Value×LVa->ah->Prop}(I:Inv X U E H s)(e:H a=aa (.ins V5 dx fs))(c:Cls X.K V5)(k:qu X.K V5 m g)(l:fs.lookup m=ab)
 (h:Q (.ref g,[.ref a]) s):wpAny @2 A (gZ (.ref a) m pl) Q V4 s:=by
 obtain⟨mA,O,r,_,_,_⟩:=tH I.hok e;exact Lk I.kIn O (c.get m) k.at_ k.fn (eN.none_of (by grind)) h
def Ed{s:ah}{dx:Addr}(I:Inv X U E H s)(e:H a=aa (.ins V5 dx fs))(c:Cls X.K V5)(n:cH X.K V5 f)(v:fs.length<1000)(m:aA y u)
 (h:∀s',Inv X U E (upd H a (.ins V5 dx (c7 f y fs))) s'->Q () s'):wpAny @2 A (setAttr (.ref a) f u) Q V4 s:=by
 obtain⟨mA,O,r,wi,_,i⟩:=tH I.hok e;have hz:(fs.map (·.1)).length<=aS:=by rw[ay,dq];lia
 refine Ll I.kIn O c.sa c.po n.taker c.hd wi hz λh' d p=>h _ ?_;have hd:∃o,h'.get? dx=aa o:=let ⟨o,_,_,e',_⟩:=d.ns;⟨o,e'⟩;refine I.write (by rw[e];exact iq) (.inr i) (λb q j z=>(p.2 b j).trans z) hd ?_;refine⟨by rw[aK O.ne];exact i,?_,O.ne,d.obj,_,d.ns,λg=>?_,λg l=>?_⟩
 .have:=Ea f y fs;lia
 .show eN _ _;rw[D9]
  by_cases q:g=f
  .rw[if_pos q,if_pos q];exact m
  .grind
 .by_cases q:g=f
  .rw[q];exact(xl f y fs).1
  .refine(xl f y fs).2 g (wi g λz=>l ?_)
   grind
section
variable{s:ah}
def Inv.made(I:Inv X U E H s):Inv X U E (upd (upd H s.heap.objs.size (.own (s.heap.objs.size+1))) (s.heap.objs.size+1) (.ins V5 s.heap.objs.size []))
  {s with heap:=(s.heap.push k8).push (k9 V5 s.heap.objs.size)}:=by
 have a:(s.heap.push k8).get? s.heap.objs.size=aa k8:=cP s.heap rfl
 have c:((s.heap.push k8).push (k9 V5 s.heap.objs.size)).get? (s.heap.objs.size+1)=aa (k9 V5 s.heap.objs.size):=by
  have:=cP (s.heap.push k8) (o:=k9 V5 s.heap.objs.size) rfl
  simp_all
 have d:(s.heap.push k8).Ns s.heap.objs.size _:=⟨k8,#[],_,a,rfl,(λe f=>absurd f (by simp)),λ_=>rfl⟩;refine(I.laid (o:=.own _) (t':=s.toks) (λb u q=>bw _ q) (aM _) ⟨_,a⟩).laid (λb u q=>bw _ q) (Nat.le_of_eq (iW _ _)) ?_;have ne:s.heap.objs.size≠s.heap.objs.size+1:=bW (c6 _);refine⟨by rw[aK ne,aZ],cg _,ne,c,λ_=>ab,(Heap.Ns1.of_empty d).at λo q=>bw _ q,λ_=>iq,λy g=>absurd rfl g⟩
end
variable{env:Env}
def Lo{s:ah}{Q:PRS}(b:n9 e f env (eval e env)=eval e env)
 (h:wpAny @12 A (eval e env) (λo a=>wpAny @12 A (getAttr o f ac) Q V4 a) V4 s):wpAny @12 A (eval (.Attribute e f pos) env) Q V4 s:=
 Attribute_any_ h (by rw[arm_eval_Attribute,b])
abbrev Lp(K:aQ)(ta:TE)(f:Str):TE:=λE H Q=>ta E H λx H1=>∃a V5 dx fs v,x=.ref a/\H1 a=aa (.ins V5 dx fs)/\Cls K V5/\cH K V5 f/\fs.lookup f=aa v/\Q v H1
abbrev Ee(K:aQ)(ta b:TE)(f:Str):TS:=λD E H=>b E H λy H1=>ta E H1 λx H2=>∃a V5 dx fs,x=.ref a/\H2 a=aa (.ins V5 dx fs)/\Cls K V5/\cH K V5 f/\fs.length<1000 /\
 D.nx E (upd H2 a (.ins V5 dx (c7 f y fs)))
abbrev Ef(X:Cx)(op:Operator)(rd:V->V->Hp->VK->Prop):Prop:=
 ∀(U:PNS) (s:ah) (E:St) (H:Hp) (x y:V) (u v:Value) (Q:VK),Inv X U E H s->aA x u->aA y v->rd x y H Q->wpAny @2 X.A (inplaceOp op u v) (EP X U E Q) X.xe s
abbrev Lq(K:aQ)(ta e:TE)(rd:V->V->Hp->VK->Prop)(f:Str):TS:=λD E H=>ta E H λx H1=>∃a V5 dx fs v,x=.ref a/\H1 a=aa (.ins V5 dx fs)/\Cls K V5/\cH K V5 f/\fs.lookup f=aa v /\
 e E H1 λy H2=>rd v y H2 λz d=>∃c b,d a=aa (.ins V5 c b)/\b.length<1000/\D.nx E (upd d a (.ins V5 c (c7 f z b)))
def Eg(j:PE X e ta)(i:n9 e f X.env (eval e X.env)=eval e X.env):PE X (.Attribute e f pos) (Lp X.K ta f):=by
 intro U s E H Q I h;refine Lo i (thn (j U s E H _ I h) λu s1 m=>?_);obtain⟨x,H1,b,p,a,V5,dx,fs,v,ex,g,c,n,l,q⟩:=m;subst ex;obtain rfl:u=eM a:=p;exact Eb b g c n l λr s2 d ru=>⟨v,H1,d,ru,q⟩
variable{value:Expr}{tv:TE}
def xm{o:Expr}(ha:PE X o ta)(hv:PE X value tv)(i:f7 value (aa (.Attribute o f b4)) pos.line X.env=pure af):PS X (.Assign [.Attribute o f b4] value pos) (Ee X.K ta tv f):=by
 intro U s E H D I h;refine plainObj_wpAny_Assign_Attribute (thn (hv U s E H _ I h) λu s1 ⟨y,H1,b,v,q⟩=>thn (ha U s1 E H1 _ b q) λj s2 p=>?_) i;obtain⟨x,H2,d,r,a,V5,dx,fs,ex,g,c,n,l,m⟩:=p;subst ex;obtain rfl:j=eM a:=r;exact Ed d g c n l v λw e=>⟨E,_,e,m⟩
variable{gw:Pos}
def Lr{o:Expr}{op:Operator}{rd:V->V->Hp->VK->Prop}(ha:PE X o ta)(hv:PE X value tv)(d:Ef X op rd):PS X (.AugAssign (.Attribute o f gw) op value pos) (Lq X.K ta tv rd f):=by
 intro U s E H D I h;refine wpAny_AugAssign_AttributeAny (thn (ha U s E H _ I h) λB s1 J=>?_);obtain⟨x,H1,e,L,a,V5,dx,fs,v,ex,r,c,n,l,q⟩:=J;subst ex;obtain rfl:B=eM a:=L;exact Eb e r c n l λu s2 g ru=>thn (hv U s2 E H1 _ g q) λT Q ⟨y,H2,i,M,C⟩=>thn (d U Q E H2 v y u T _ i ru M C) λw4 s4 ⟨z,Y,j,N,p,w,b,A,G⟩=>(Ed j b c n A N λs5 m=>⟨E,_,m,G⟩)
abbrev Lu:V->V->Hp->VK->Prop:=λx y H Q=>∃i j,x=.int i/\y=.int j/\Q (.int (i+j)) H
def Lv:Ef X .Add Lu:=by
 rintro U s E H x y u v Q I a b ⟨i,j,rfl,rfl,q⟩;obtain⟨t,rfl⟩:=(a);obtain⟨t',rfl⟩:=(b);exact PyProof.Rows.iadd_int ⟨.int _,H,I.tok _,⟨_,rfl⟩,q⟩
inductive gA(K:aQ)(H:Hp):V->Value->Prop where
 |non:gA K H .non (.type "NoneType")
 |bl (x:Bool):gA K H (.bl x) (.type "bool")
 |int (i:Int):gA K H (.int i) (.type "int")
 |str (x:Str):gA K H (.str x) (.type "str")
 |flt (x:UInt64):gA K H (.flt x) (.type "float")
 |lst {a:Addr} {C:LVv} (e:H a=aa (.lst C)):gA K H (.ref a) (.type "list")
 |frz {a:Addr} {o:Obj} {C:LVv} (e:H a=aa (.frz o (.lst C))):gA K H (.ref a) (.type "list")
 |tup {a:Addr} {C:LVv} (e:H a=aa (.tup C)):gA K H (.ref a) (.type "tuple")
 |dK {a:Addr} {kvs:List (Key×V)} (e:H a=aa (.dK kvs)):gA K H (.ref a) (.type "dict")
 |dT {a:Addr} {kvs:List (List Key×V)} (e:H a=aa (.dT kvs)):gA K H (.ref a) (.type "dict")
 |ins {a V5 dx:Addr} {fs:List (Str×V)} (e:H a=aa (.ins V5 dx fs)) (cl:Cls K V5) (ha:cj K (.ref V5) "__class__"=aa (aa (.builtin "object.__class__")))
   (hn:W.specialIn K (.builtin "object.__class__") "__get__"=aa (aa (.builtin "getset_descriptor.__get__"))) (htk:W.takesIn K (.builtin "object.__class__")=aa ac)
   (hm:W.mroIn K V5 (.type "object")=aa ac):gA K H (.ref a) (.ref V5)
variable{Q:PRS}{c:Value}{b:Bool}
section
variable{s:ah}
def Lw{x:V}{u t:Value}(I:Inv X U E H s)(f:aA x u)(ty:gA X.K H x t)(e:W.kitOne X.K t c=aa b)(h:∀j,Q (.bool b) {s with toks:=j}):
  wpAny @2 A (call (.builtin "isinstance") [u,c]) Q V4 s:=by
 cases ty with
 |non=>cases (f);exact iX W.kitx_none I.kIn iq e @3 h
 |bl y=>cases (f);exact iX W.kitx_bool I.kIn iq e @3 h
 |int i=>obtain⟨t,q⟩:=(f);subst q;exact iX W.kitx_int I.kIn iq e @3 h
 |str y=>obtain⟨t,q⟩:=(f);subst q;exact iX W.kitx_str I.kIn iq e @3 h
 |flt y=>obtain⟨t,q⟩:=(f);subst q;exact iX W.kitx_float I.kIn iq e @3 h
 | @lst a C d=>
  cases (f);obtain⟨_,_,n,_,h1⟩:=(I.hok a _ d)
  exact iX W.kitx_list I.kIn ⟨_,h1,rfl⟩ e @3 h
 | @frz a l C d=>
  cases (f);obtain⟨_,_,_,n,_,h1⟩:=(I.hok a _ d)
  exact iX W.kitx_list I.kIn ⟨_,h1,rfl⟩ e @3 h
 | @tup a C d=>
  cases (f);obtain⟨_,_,_,p⟩:=(I.hok a _ d);obtain⟨o,h1,h2,_⟩:=p
  exact iX W.kitx_tuple I.kIn ⟨o,h1,h2⟩ e @3 h
 | @dK a kvs d=>
  cases (f);obtain⟨_,_,vs,_,p⟩:=(I.hok a _ d);obtain⟨o,es,g,h1,h2,_⟩:=p
  exact iX W.kitx_dict I.kIn ⟨o,h1,h2.1⟩ e @3 h
 | @dT a kvs d=>
  cases (f);obtain⟨_,_,C,_,o,es,g,h1,h2,_⟩:=(I.hok a _ d)
  exact iX W.kitx_dict I.kIn ⟨o,h1,h2.1⟩ e @3 h
 | @ins a V5 dx fs d cl ha hn htk hm=>
  cases (f);obtain⟨mA,O,_⟩:=tH I.hok d;obtain⟨od,J,_⟩:=O.look;exact iX (W.kitx_own (cl.get _) cl.hd ha hn htk hm) I.kIn J e @3 h
end
structure bu(k:Nat)(A:b6):Prop where
 hd:A.handled=ab
 dp:A.depth+3*k+5<recursionLimit
 un:A.units+16*k+200<cLine
def bu.mono{j k:Nat}(r:bu k A)(h:j<=k):bu j A:=⟨r.hd,by have:=r.dp;lia,by have:=r.un;lia⟩
def bu.deeper{k:Nat}(r:bu (k+1) A)(env:Env):bu k (A.deeper env):=
 ⟨r.hd,by have:=r.dp;show A.depth+1+3*k+5<_;lia,by have:=r.un;show A.units+3+16*k+200<_;lia⟩
def Lx:(A.under (.builtin "type.__call__" ⟨.ref V5::us,kw⟩)).depth=A.depth+1:=by
 first |rfl |simp[b6.under]
def Ly:(A.under (.builtin "type.__call__" ⟨.ref V5::us,kw⟩)).units=A.units+1:=by
 first |rfl |simp[b6.under]
def bu.make{k:Nat}(r:bu (k+1) A)(V5:Addr)(us:LVa)(kw:List (Str×Value)):bu k (A.under (.builtin "type.__call__" ⟨.ref V5::us,kw⟩)):=
 ⟨r.hd,by have:=r.dp;rw[Lx];lia,by have:=r.un;rw[Ly];lia⟩
def bu.depth{k:Nat}(r:bu k A):A.depth<recursionLimit:=by have:=r.dp;lia
def bu.units{k:Nat}(r:bu k A):A.units+64<cLine:=by have:=r.un;lia
abbrev hJ:TA:=λ_ H Q=>Q [] H
abbrev i5(ta:TE)(tr:TA):TA:=λE H Q=>ta E H λx H1=>tr E H1 λC H2=>Q (x::C) H2
def dZ:PA X [] hJ:=λ_ _ _ _ H Q I h=>wH ⟨[],H,I,.nil,h⟩
def eO{t:TA}(ha:PE X e te)(hr:PA X es t)(c:StE X e es:=by rfl):PA X (e::es) (i5 te t):=by
 intro pos U s E H Q I h;rw[c];exact iV (thn (ha U s E H _ I h) λu s1 ⟨x,H1,a,g,d⟩=>(thn (hr pos U s1 E H1 _ a d) λus s2 ⟨C,H2,b,i,f⟩=>⟨x::C,H2,b,.cons g i,f⟩))
abbrev Lz(t:TA):TE:=λE H Q=>t E H λC H1=>C.length<=aS/\∀p,H1 p=ab->Q (.ref p) (upd H1 p (.tup C))
abbrev xn(t:TA):TE:=λE H Q=>t E H λC H1=>C.length<=aS/\∀p,H1 p=ab->Q (.ref p) (upd H1 p (.lst C))
def LA{t:TA}{x1}(h:PA X es t):PE X (.Tuple es x1 pos) (Lz t):=by
 intro U s E H Q I c;refine wpAny_Tuple_spliced (thn (h pos U s E H _ I c) λus s1 ⟨C,H1,a,r,z,q⟩=>⟨by rw[<- r.length];exact z,?_⟩);refine⟨.ref s1.heap.objs.size,upd H1 s1.heap.objs.size _,a.laid (λb u e=>bw _ e) (aM _) ?_,rfl,q _ (a.hok.fresh (aM _))⟩;exact⟨z,us,r,⟨_,cP _ rfl,rfl,_,rfl⟩⟩
def tI{t:TA}(h:PA X es t):PE X (.List es pos) (xn t):=by
 intro U s E H Q I c;refine wpAny_List_spliced (thn (h pos U s E H _ I c) λus s1 ⟨C,H1,a,r,z,q⟩=>⟨by rw[<- r.length];exact z,?_⟩);refine⟨.ref s1.heap.objs.size,upd H1 s1.heap.objs.size _,a.laid (λb u e=>bw _ e) (aM _) ?_,rfl,q _ (a.hok.fresh (aM _))⟩;exact⟨z,us,0,r,cP _ rfl⟩
nonrec def Sp:=LVv->Hp->VK->XK->Prop
nonrec def CXT:=List Env->Hp->ah->XK->PRS
structure mG(P:b9)(w:World)(K:aQ)(mg:MGT)(base:Heap)(A:b6)(outer:List Env)(s:ah)(H:Hp):Prop where
 frames:A.frames=aa outer
 mod:Mod K mg base
 bs:∀b o,base.get? b=aa o->s.heap.get? b=aa o/\H b=ab
 bsz:base.objs.size<=s.heap.objs.size
 funs:s.heap.FunFrames base outer
 frf:∀b∈frs outer,H b=ab
 hok:HOk P w H s.heap
 bare:jY s.gens
abbrev CE(outer:List Env)(P:b9)(w:World)(H:Hp)(s:ah)(Q:VK)(u:Value)(s':ah):Prop:=
 ∃v H',s'.os=s.os/\jY s'.gens/\Un (frs outer) [] H H' s.heap s'.heap/\HOk P w H' s'.heap/\aA v u/\Q v H'
abbrev CR(CX:CXT)(outer:List Env)(P:b9)(w:World)(H:Hp)(s:ah)(Q:VK)(V4:XK)(r:Result)(s':ah):Prop:=
 match r with
 |.ok (.ret u)=>CE outer P w H s Q u s'
 |.ok _=>False
 |.error e=>CX outer H s V4 e s'
structure cr(P:b9)(w:World)(K:aQ)(mg:MGT)(base:Heap)(CX:CXT)(k:Nat)(f:Addr)(fd:cO)(ps:LSt)(sp:Sp):Prop where
 len:∀vs H Q V4,sp vs H Q V4->vs.length=ps.length
 run:∀(A:b6) (outer:List Env) (s:ah) (H:Hp) (args:Args) (us:LVa) (vs:LVv) (Q:VK) (V4:XK),bu k A->mG P w K mg base A outer s H->BindsTo s fd args (ps.zip us)->aG vs us->sp vs H Q V4 ->
  gx (model P w) A (.call (.ref f) args) (CR CX outer P w H s Q V4) s
variable{mg:MGT}{base:Heap}{CX:CXT}{f:Addr}{fd:cO}{ps:LSt}{sp:Sp}
def cr.imp{k:Nat}{a:Sp}(F:cr P w K mg base CX k f fd ps sp)
 (h:∀vs H Q V4,a vs H Q V4->sp vs H Q V4):cr P w K mg base CX k f fd ps a:=
 ⟨λvs H Q V4 q=>F.len vs H Q V4 (h _ _ _ _ q),λA outer s H args us vs Q V4 hr c b hv d=>F.run A outer s H args us vs Q V4 hr c b hv (h _ _ _ _ d)⟩
variable{outer:List Env}
def mG.make{s:ah}(e:mG P w K mg base A outer s H)(V5:Addr)(us:LVa)(kw:List (Str×Value)):
  mG P w K mg base (A.under (.builtin "type.__call__" ⟨.ref V5::us,kw⟩)) outer s H:=⟨by first |exact e.frames |(simpa[b6.under]using e.frames),e.mod,e.bs,e.bsz,e.funs,e.frf,e.hok,e.bare⟩
def Inv.env0{s:ah}(I:Inv X U E H s):mG X.prog X.w X.K X.mg X.base X.A X.stack s H:=
 ⟨I.ok.frames,I.ok.mod,I.bs,cN I.ok.bsz I.sz,I.stack,I.stkFree,I.hok,I.bare⟩
variable{Q:VK}
def Inv.after{s:ah}(I:Inv X U E H s)(h:CE X.stack X.prog X.w H s Q u s'):EP X U E Q u s':=by
 obtain⟨v,H',os,bare,un,hok,r,q⟩:=h;obtain⟨c,g,d,t,a⟩:=s';obtain rfl:a=s.os:=os;exact⟨v,H',I.call un hok bare (λb z=>absurd z (by simp)),r,q⟩
abbrev xp(sp:Sp)(a:LVv)(V4:XK)(t:TA):TE:=λE H Q=>t E H λvs H1=>sp (vs++a) H1 Q V4
abbrev tJ(V5:Addr)(m:Str)(sp:Sp)(b:LVv)(V4:XK)(ta:TE)(t:TA):TE:=λE H Q=>ta E H λx H1=>∃a dx fs,x=.ref a/\H1 a=aa (.ins V5 dx fs)/\fs.lookup m=ab /\
 t E H1 λvs H2=>sp (x::(vs++b)) H2 Q V4
abbrev Eh(V5:Addr)(sp:Sp)(a:LVv)(V4:XK)(t:TA):TE:=λE H Q=>t E H λvs H1=>∀x dx,H1 x=ab->H1 dx=ab->dx≠x ->
 sp (.ref x::(vs++a)) (upd (upd H1 dx (.own x)) x (.ins V5 dx [])) (λv H2=>v=.non/\Q (.ref x) H2) V4
abbrev dS(K:aQ)(fd:cO)(ps:LSt)(ds:LVa):Prop:=
 ∀(s:ah) (us:LVa),K.In s.heap->(us++ds).length=ps.length->BindsTo s fd ⟨us,[]⟩ (ps.zip (us++ds))
def dS.all(h:∀us:LVa,us.length=ps.length->bindArgs fd ⟨us,[]⟩=pure (ps.zip us)):dS K fd ps []:=λs us _ a=>by
 rw[bP]at a ⊢;exact .of_eq (h us a)
abbrev mH(CX:CXT)(X:Cx)(V4:XK):Prop:=∀(U:PNS) (E:St) (H:Hp) (s:ah) (e:Value) (s':ah),Inv X U E H s->CX X.stack H s V4 e s'->X.xe e s'
variable{e6 vs:LVv}{ds:LVa}{V4:XK}
def tK{k:Nat}{s:ah}(F:cr X.prog X.w X.K X.mg X.base CX k f fd ps sp)(hr:bu k X.A)(d:dS X.K fd ps ds)(hd:aG e6 ds)(i:mH CX X V4)
 (I:Inv X U E H s)(r:aG vs us)(h:sp (vs++e6) H Q V4):wpAny @2 X.A (call (.ref f) us) (EP X U E Q) X.xe s:=by
 have b:=r.append hd;have g:(us++ds).length=ps.length:=by rw[<- b.length];exact F.len _ _ _ _ h
 refine wpAny_call (kX (F.run X.A X.stack s H ⟨us,[]⟩ _ _ Q V4 hr I.env0 (d s us I.kIn g) b h) λr s' a=>?_)
 cases r with
 |error e=>exact i U E H s e s' I a
 |ok c=>
  cases c with
  |ret u=>exact I.after a
  |next=>exact gT a
  |brk=>exact gT a
  |cont=>exact gT a
variable{x:Str}{p:Pos}
def qv{k:Nat}{t:TA}(F:cr X.prog X.w X.K X.mg X.base CX k f fd ps sp)(hr:bu k X.A)(i:Gl X x)(hm:X.mg x=aa (.ref f))(j:ga X.K (.ref f)=ac)(d:dS X.K fd ps ds)(hd:aG e6 ds)(l:mH CX X V4)
 (ha:PA X (e::es) t)(a:NDb x:=by decide)(g:StE X e es:=by rfl)(b:BkE X pos es:=by rfl):
  PE X @8 (xp sp e6 V4 t):=by
 intro U s E H Q I h;refine iR (wW I i hm ?_ a);exact W.callWith_K I.ok.mod.kin j (thn (ha pos U s E H _ I h) λus s1 ⟨vs,H1,c,r,q⟩=>⟨c.kIn,(tK F hr d hd l c r q)⟩) g b
variable{apos:Pos}
def xq{k:Nat}{o:Expr}{t:TA}(p:PE X o ta)(c:Cls X.K V5)(hm:qu X.K V5 m f)(F:cr X.prog X.w X.K X.mg X.base CX k f fd ps sp)(hr:bu k X.A)(n:dS X.K fd ps ds)(hd:aG e6 ds)(y:mH CX X V4)(ha:PA X (e::es) t)
 (d:StE X e es:=by rfl)(b:BkE X pos es:=by rfl)
 (v:eval (.Call (.Attribute o m apos) (e::es) [] pos) X.env=(do
   let ov <- eval o X.env
   gt apos.atName
   let (f,first) <- eJ [ov] (gZ ov m pl)
   jD pos f first (ca pos (aN (e::es) X.env)) (io pos (il [] X.env))):=by rfl):
  PE X (.Call (.Attribute o m apos) (e::es) [] pos) (tJ V5 m sp e6 V4 ta t):=by
 intro U s E H Q I h;refine W.methodCall_KW (thn (p U s E H _ I h) λu s1 B=>?_) v;obtain⟨x,H1,g,C,a,dx,fs,ex,j,l,q⟩:=B;subst ex;obtain rfl:u=eM a:=C;refine Ec g j c hm l ?_;exact W.callWith_K I.ok.mod.kin hm.kp (thn (ha pos U s1 E H1 _ g q) λus s2 ⟨vs,H2,i,r,z⟩=>⟨i.kIn,(tK (vs:=.ref a::vs) F hr n hd y i (.cons rfl r) z)⟩) d b
def xr{k:Nat}{o:Expr}(g:PE X o ta)(c:Cls X.K V5)(hm:qu X.K V5 m f)(F:cr X.prog X.w X.K X.mg X.base CX k f fd ps sp)(hr:bu k X.A)(e:dS X.K fd ps ds)(hd:aG e6 ds)(j:mH CX X V4)
 (i:eval (.Call (.Attribute o m apos) [] [] pos) X.env=(do
   let ov <- eval o X.env
   gt apos.atName
   let (f,first) <- eJ [ov] (gZ ov m pl)
   jD pos f first (ca pos (aN [] X.env)) (io pos (il [] X.env))):=by rfl):
  PE X (.Call (.Attribute o m apos) [] [] pos) (tJ V5 m sp e6 V4 ta hJ):=by
 intro U s E H Q I h;refine W.methodCall_KW (thn (g U s E H _ I h) λu s1 n=>?_) i;obtain⟨x,H1,b,p,a,dx,fs,ex,d,l,q⟩:=n;subst ex;obtain rfl:u=eM a:=p;exact Ec b d c hm l (W.callWith_K0 b.kIn hm.kp (tK (vs:=[.ref a]) F hr e hd j b (.cons rfl .nil) q))
structure Mk(K:aQ)(V5 f:Addr):Prop where
 makes:mq K V5=ac
 init:cj K (.ref V5) "__init__"=aa (aa (.ref f))
 fn:W.isFn K (.ref f)=ac
 kp:ga K (.ref V5)=ac
def LB{k:Nat}{s:ah}(V1:Mk X.K V5 f)(F:cr X.prog X.w X.K X.mg X.base CX k f fd ps sp)(hr:bu (k+1) X.A)(l:dS X.K fd ps ds)(hd:aG e6 ds)
 (n:mH CX X V4)(I:Inv X U E H s)(r:aG vs us)
 (h:∀x dx,H x=ab->H dx=ab->dx≠x->sp (.ref x::(vs++e6)) (upd (upd H dx (.own x)) x (.ins V5 dx [])) (λv H2=>v=.non/\Q (.ref x) H2) V4):
  wpAny @2 X.A (call (.ref V5) us) (EP X U E Q) X.xe s:=by
 have c:=h _ s.heap.objs.size (I.hok.fresh (jW _)) (I.hok.fresh (aM _)) (bW (c6 _));have b:=Inv.made (V5:=V5) I;have d:aG (V.ref _::_) (eM (s.heap.objs.size+1)::_):=.cons rfl (r.append hd)
 have m:(eM (s.heap.objs.size+1)::us++ds).length=ps.length:=by
  have e:=d.length;rw[F.len _ _ _ _ c]at e;exact e.symm
 refine wpAny_call (Lm I.kIn V1.makes V1.init (beq_iff_eq.mp V1.fn) (kX (F.run _ X.stack _ _ ⟨eM _::us,[]⟩ _ _ _ V4 (hr.make V5 us [])
  (b.env0.make V5 us []) (l _ _ b.kIn m) d c) λr s' a=>?_))
 cases r with
 |error e=>exact n U E _ _ e s' b a
 |ok j=>
  cases j with
  |ret u=>
   obtain⟨v,H',g,rv,i,p⟩:=b.after a;subst i
   exact⟨rv,⟨V.ref _,H',g,rfl,p⟩⟩
  |next=>exact gT a
  |brk=>exact gT a
  |cont=>exact gT a
def Ei{k:Nat}{t:TA}(V1:Mk X.K V5 f)(F:cr X.prog X.w X.K X.mg X.base CX k f fd ps sp)(hr:bu (k+1) X.A)(i:Gl X x)(hm:X.mg x=aa (.ref V5))(d:dS X.K fd ps ds)(hd:aG e6 ds)(j:mH CX X V4)
 (ha:PA X (e::es) t)(a:NDb x:=by decide)(g:StE X e es:=by rfl)(b:BkE X pos es:=by rfl):
  PE X @8 (Eh V5 sp e6 V4 t):=by
 intro U s E H Q I h;refine iR (wW I i hm ?_ a);exact W.callWith_K I.ok.mod.kin V1.kp (thn (ha pos U s E H _ I h) λus s1 ⟨vs,H1,c,r,q⟩=>⟨c.kIn,(LB V1 F hr d hd j c r q)⟩) g b
structure aB(N P:LSt)(sc:Scope):Prop where
 kind:sc.kind=.function
 co:sc.isCoroutine=af
 gen:sc.isGenerator=af
 nd:N.Nodup
 pre:N.take P.length=P
 par:∀x∈P,sc.names.lookup x=aa .local\/sc.names.lookup x=aa .cell
 nofree:∀y∈sc.names,y.2≠.free
def Ej{kindOf:Str->Option f8}{x:Str}:∀{binds:List (Str×Value)} {m:MGT},(∀v,(x,v)∉binds)->bindL kindOf binds m x=m x
 | [],_,_=>rfl
 |(n,v)::r,m,h=>by
  unfold bindL;rw[Ej λw a=>h w (bq _ a)];split
  .grind
  .rfl
def Ek{kindOf:Str->Option f8}{x:Str}:∀{binds:List (Str×Value)} {m:MGT},(∀v,(x,v)∉binds)->bindC kindOf binds m x=m x
 | [],_,_=>rfl
 |(n,v)::r,m,h=>by
  unfold bindC;rw[Ek λw a=>h w (bq _ a)];split
  .rfl
  .grind
def El{kindOf:Str->Option f8}{x:Str}{v:Value}:∀{P:LSt} {vs:LVa} {i:Nat} {m:MGT},P.Nodup->P[i]?=aa x->vs[i]?=aa v->kindOf x=aa .local ->
  bindL kindOf (P.zip vs) m x=aa v
 | [],_,_,_,_,h,_,_=>by simp at h
 | _::_,[],_,_,_,_,h,_=>by simp at h
 |p::P,w::vs,0,m,nd,h1,h2,hk=>by
  simp at h1 h2;subst h1;subst h2;show bindL kindOf (_::P.zip vs) m p=_;unfold bindL;rw[Ej λv hv=>(cf.mp nd).1 (of_mem_zip hv).1,if_pos hk]
  simp
 |p::P,w::vs,i+1,m,nd,h1,h2,hk=>by
  show bindL kindOf (_::P.zip vs) m x=_;exact El (cf.mp nd).2 (by simpa using h1) (by simpa using h2) hk
def Em{kindOf:Str->Option f8}{x:Str}{v:Value}:∀{P:LSt} {vs:LVa} {i:Nat} {m:MGT},P.Nodup->P[i]?=aa x->vs[i]?=aa v->kindOf x≠aa .local ->
  bindC kindOf (P.zip vs) m x=aa v
 | [],_,_,_,_,h,_,_=>by simp at h
 | _::_,[],_,_,_,_,h,_=>by simp at h
 |p::P,w::vs,0,m,nd,h1,h2,hk=>by
  simp at h1 h2;subst h1;subst h2;show bindC kindOf (_::P.zip vs) m p=_;unfold bindC;rw[Ek λv hv=>(cf.mp nd).1 (of_mem_zip hv).1,if_neg hk]
  simp
 |p::P,w::vs,i+1,m,nd,h1,h2,hk=>by
  show bindC kindOf (_::P.zip vs) m x=_;exact Em (cf.mp nd).2 (by simpa using h1) (by simpa using h2) hk
abbrev start(N:LSt)(vs:LVv):St:=vs.map aa++gW (N.length-vs.length) ab
abbrev iw(CX:CXT)(P:b9)(w:World)(K:aQ)(mg:MGT)(base:Heap)(N:LSt)(qual:Str)(scope:Scope)(f:Addr)(cd:Value)(A:b6)(outer:List Env)(s:ah)(H:Hp)(V4:XK):Cx where
 prog:=P
 w:=w
 K:=K
 mg:=mg
 base:=base
 A:=A.deeper (f6 qual scope s.heap.objs.size f cd)
 N:=N
 s₀:=s
 H₀:=H
 env:=f6 qual scope s.heap.objs.size f cd
 outer:=outer
 stack:=f6 qual scope s.heap.objs.size f cd::outer
 ex:=[]
 calm:=ac
 fn:=λ_=>ac
 pn:=[]
 xe:=λe s'=>wpAny (model P w) (A.deeper (f6 qual scope s.heap.objs.size f cd)) (leaving (f6 qual scope s.heap.objs.size f cd) e) (λ_ s''=>CX outer H s V4 e s'') (λe' s''=>CX outer H s V4 e' s'') s'
variable{n:Nat}
def En{sc:Scope}(h:sc.names.lookup x=aa .cell):∃c,(cellsFrom n sc.names []).lookup x=aa c:=by
 exact wz.mp (W.cellsFrom_some sc.names n [] (.inl h))
variable{qual:Str}{scope:Scope}
def LC{m:Value}{s s1:ah}
 (S:aB N ps scope)(hd:A.handled=ab)(e0:mG P w K mg base A outer s H)(G:vs.length=ps.length)(r:aG vs us)
 (x:InCallC s s.heap.objs.size (bindL (f6 qual scope s.heap.objs.size f m).kindOf (ps.zip us) λ_=>ab) (cellsFrom (s.heap.objs.size+1) scope.names []) (bindC (f6 qual scope s.heap.objs.size f m).kindOf (ps.zip us) λ_=>ab) s1):
  Inv (iw CX P w K mg base N qual scope f m A outer s H V4) [] (start N vs) H s1:=by
 have C:ps.length<=N.length:=by have:=congrArg List.length S.pre;rw[length_take]at this;lia
 obtain⟨h1,I,rfl,n⟩:=x.done;have g:∀b:Addr,b∉(iw CX P w K mg base N qual scope f m A outer s H V4).ex:=λb z=>absurd (show b∈([]:LAd)from z) (by simp)
 refine⟨⟨e0.mod,S.kind,rfl,rfl,aM _,λy z c h1 h2=>?_,λy d=>?_,λy c _ h=>?_,λ_=>hd,b6.frames_deeper e0.frames,.inr ⟨rfl,rfl⟩,λb z=>absurd z (g b),e0.bs,e0.bsz,λb _ _=>g b,λb z=>absurd z (g b),e0.funs,e0.frf⟩,
  rfl,e0.bare,Un.kept n,⟨_,x.toInCall.ns,λi y v h1 h2 E=>?_⟩,λy c h=>⟨_,x.cell y c h⟩,e0.hok.fresh (aM _),λy c h=>?_,λp j=>absurd (show p∈([]:List _)from j) (by simp),e0.hok.kept n,?_⟩
 .exact name_of_addr x.apart (qg h1) (qg h2)
 .have d:=d
  rcases d with d |d
  .exact En d
  .exact absurd rfl (S.nofree _ (qg d))
 .exact fj (x.above y c (qg h))
 .have hi:i<vs.length:=by
   unfold start at h2
   by_cases hi:i<vs.length
   .exact hi
   .rw[nN (by simpa using hi)]at h2;rw[nO]at h2
    split at h2 <;> nomatch h2
  have ha:vs[i]?=aa v:=by
   unfold start at h2;rw[lV (by simpa using hi),cM]at h2
   cases e:vs[i]? with
   |none=>rw[e]at h2;nomatch h2
   |some a=>rw[e]at h2;cases h2;rfl
  obtain⟨u,B,rv⟩:=r.get ha
  have j:ps[i]?=aa y:=by
   rw[<- S.pre,List.getElem?_take_of_lt (by lia)];exact h1
  have l:ps.Nodup:=by rw[<- S.pre];exact S.nd.sublist (take_sublist _ _)
  refine⟨u,rv,?_⟩
  rcases S.par y (dP j)with k |k
  .exact .inl ⟨k,El l j B k⟩
  .obtain⟨c,e⟩:=En k;refine .inr ⟨.inl k,c,e,?_⟩;have q:=x.cell y c e;rw[Em l j B (by show scope.names.lookup y≠_;rw[k];decide)]at q;exact q
 .exact e0.hok.fresh (fj (x.above y c (qg h)))
 .unfold start;show _=N.length;rw[aR,ay,lW]
  lia
variable{an od:Option Addr}{osl:Array (Option Value)}
def Eo{k:Nat}{params:Arguments}{dV kV doc pm cdv ct oc:Value}
  (C:K.lookup f=aa ⟨oc,od,.func (iY name qual params body scope dV kV doc pm an cdv ct),osl⟩)(h:W.codeIn K cdv qual=ac)(S:aB N ps scope)
 (len:∀vs H Q V4,sp vs H Q V4->vs.length=ps.length)
 (a:∀ (A:b6) (outer:List Env) (s:ah) (H:Hp) (vs:LVv) (Q:VK) (V4:XK),bu k (A.deeper (f6 qual scope s.heap.objs.size f cdv))->sp vs H Q V4 ->
   ∃t,PSs (iw CX P w K mg base N qual scope f cdv A outer s H V4) body t/\t {nx:=λ_ H'=>Q .non H',rt:=Q} (start N vs) H):
  cr P w K mg base CX (k+1) f (iY name qual params body scope dV kV doc pm an cdv ct) ps sp:=by
 refine⟨len,λA outer s H args us vs Q V4 hr e0 l r g=>?_⟩;have i:=e0.mod.kin.keeps λb o e=>(e0.bs b o e).1
 have c:∀y∈ps.zip us,scope.names.lookup y.1=aa .local\/(scope.names.lookup y.1=aa .cell/\((cellsFrom (s.heap.objs.size+1) scope.names []).lookup y.1).isSome=ac):=λ⟨n,v⟩ B=>by
  rcases S.par n (of_mem_zip B).1 with q |q
  .exact .inl q
  .exact .inr ⟨q,W.cellsFrom_some _ _ _ (.inl q)⟩
 refine codeAny_call_function hr.depth (i _ _ C) rfl S.co S.gen rfl (W.codeRec_of i h) (l _ _ _ _ ?_);refine wpAny_newFunctionEnv_cells S.kind c λenv m s1 x=>?_;subst m;refine⟨(e0.mod.nolimit.keeps λb o e=>(e0.bs b o e).1).keeps x.toInCall.keep,codeAny_func ?_⟩;obtain⟨t,z,p⟩:=a A outer s H vs Q V4 (hr.deeper _) g;have I:Inv (iw CX P w K mg base N qual scope f cdv A outer s H V4) [] _ H s1:=LC S hr.hd e0 (len _ _ _ _ g) r x;refine fI (z [] s1 _ H _ I p) (λj s' d=>?_) λe s' d=>d
 have fin:∀{σ':St} {H':Hp} {v:V} {u:Value},Inv (iw CX P w K mg base N qual scope f cdv A outer s H V4) [] σ' H' s'->aA v u->Q v H'->CE outer P w H s Q u s':=
  λ{σ' H' v u} J rv q=>⟨v,H',J.os,J.bare,J.base,J.hok,rv,q⟩
 cases j with
 |ret u=>
  obtain⟨v,σ',H',J,rv,q⟩:=d
  exact fin J rv q
 |next=>
  obtain⟨σ',H',J,q⟩:=d
  exact fin (v:=V.non) J rfl q
 |brk=>
  obtain⟨_,_,_,q⟩:=d
  exact gT q
 |cont=>
  obtain⟨_,_,_,q⟩:=d;exact gT q
abbrev tCB(r:LVv->Hp->VK->Prop)(t:TA):TE:=λE H Q=>t E H λvs H1=>r vs H1 Q
variable{r:LVv->Hp->VK->Prop}
def Ep{t:TA}{id:String}(d:iu X (.builtin id) r)(g:Gl X x)(hm:X.mg x=ab)(hv:jC x=aa (.builtin id))(ha:PA X (e::es) t)(hn:x ≠ "__name__":=by decide)(a:NDb x:=by decide)
 (f:StE X e es:=by rfl)(b:BkE X pos es:=by rfl):PE X @8 (tCB r t):=by
 intro U s E H Q I h;exact iR (g8 I g hm hv (wA (thn (ha pos U s E H _ I h) λus s1 ⟨vs,H1,c,j,i⟩=>d U s1 E H1 vs us Q c j i) f b) hn a)
variable{T:String}
def LF{t:TA}(d:iu X (.type T) r)(g:Gl X x)(hm:X.mg x=ab)(hv:jC x=aa (.type T))(ha:PA X (e::es) t)(hn:x ≠ "__name__":=by decide)(a:NDb x:=by decide)
 (f:StE X e es:=by rfl)(b:BkE X pos es:=by rfl):PE X @8 (tCB r t):=by
 intro U s E H Q I h;exact iR (g8 I g hm hv (jX (thn (ha pos U s E H _ I h) λus s1 ⟨vs,H1,c,j,i⟩=>d U s1 E H1 vs us Q c j i) f b) hn a)
end L2
namespace HT
open List
open PySem PyProof.Rows
open PySem.SeqAt
open PySem.AutoSeq1 (wpAny_loadPart')
open PySem.MeetsSeq PySem.MeetsSeq2 PySem.MeetsSeq3
abbrev sIx(n d:Nat):Option Int->Nat
 |none=>d
 |some v=>if v<0 then (v+(n:Int)).toNat else min v.toNat n
def sIx_none(n d:Nat):sIx n d ab=d:=rfl
def sIx_nat(n d k:Nat):sIx n d (aa (k:Int))=min k n:=by rfl
end HT
namespace L2
open List
open PySem PySem.Spec PyProof.Rows
nonrec def TO:=St->Hp->(Option Int->Hp->Prop)->Prop
abbrev PO(X:Cx)(e:Option Expr)(t:TO):Prop:=
 ∀(U:PNS) (s:ah) (E:St) (H:Hp) (Q:Option Int->Hp->Prop),Inv X U E H s->t E H Q ->
  wpAny @2 X.A (evalPart e X.env) (λu a=>∃o H',Inv X U E H' a/\IsPart u o/\Q o H') X.xe s
abbrev LG:TO:=λ_ H Q=>Q ab H
abbrev LH(t:TE):TO:=λE H Q=>t E H λx a=>∃i,x=.int i/\Q (aa i) a
variable{ns:LI0}
def LI:∀{us:LVa},aG (ns.map V.int) us->fZ us ns:=by
 induction ns with
 |nil=>intro us r;rw[map_nil]at r;cases r;exact .nil
 |cons n ns a=>
  intro us r
  cases r with
  |cons b c=>
   obtain⟨t,e⟩:=b;subst e;exact .cons n t (a c)
variable{X:Cx}
def LJ:PO X ab LG:=by
 intro U s E H Q I h;exact aC ⟨ab,H,I,.none,h⟩
variable{e:Expr}{te:TE}
def LK(h:PE X e te):PO X (aa e) (LH te):=by
 intro U s E H Q I c;refine thn (h U s E H _ I c) λu s1 f=>?_;obtain⟨x,a,b,g,d⟩:=f;obtain⟨i,rfl,q⟩:=d;obtain⟨t,rfl⟩:=g;exact⟨aa i,a,b,.int i t,q⟩
variable{lo hi:Option Expr}
abbrev SlR(X:Cx)(r:V->Option Int->Option Int->Hp->VK->Prop):Prop:=
 ∀(U:PNS) (s:ah) (E:St) (H:Hp) (x:V) (v vl a:Value) (lo hi:Option Int) (sl:Addr) (Q:VK),Inv X U E H s->aA x v->s.heap.IsSliceOf sl vl a .none->IsPart vl lo->IsPart a hi->r x lo hi H Q ->
  ∃T id,mh (.type T) "__getitem__"=pure (aa (.builtin id))/\s.TypeIs v T/\wpAny @2 X.A (getItem v (.ref sl)) (EP X U E Q) X.xe s
abbrev tSl(r:V->Option Int->Option Int->Hp->VK->Prop)(te:TE)(tl d:TO):TE:=λE H Q=>te E H λx a=>tl E a λl b=>d E b λu c=>r x l u c Q
variable{tl th:TO}{pos p2:Pos}
def LL{r:V->Option Int->Option Int->Hp->VK->Prop}(hr:SlR X r)(y:PE X e te)(A:PO X lo tl)(C:PO X hi th):PE X (.Subscript e (.Slice lo hi ab p2) pos) (tSl r te tl th):=by
 intro U s E H Q I h;refine Subscript_ (thn (y U s E H _ I h) λv s1 c=>?_);obtain⟨x,g,j,Y,L⟩:=c;refine wpAny_Slice (thn (A U s1 E g _ j L) λvl s2 ⟨l,i,m,G,M⟩=>thn (C U s2 E i _ m M) λd a c=>?_);obtain⟨u,f,n,J,N⟩:=c;refine aC ?_
 have p:Inv X U E f {a with heap:=a.heap.push {cls:=.type "slice",data:=.fields #[vl,d,.none]}}:=n.kept λb ob q=>bw _ q
 obtain⟨T,id,w,B,z⟩:=hr U {a with heap:=a.heap.push {cls:=.type "slice",data:=.fields #[vl,d,.none]}} E f x v vl d l u a.heap.objs.size Q p Y (Heap.IsSliceOf.new ..) G J N
 exact tail_any B w z (by with_unfolding_all rfl)
abbrev qw(C:LVv)(lo hi:Option Int):LVv:=(C.drop (HT.sIx C.length 0 lo)).take (HT.sIx C.length C.length hi-HT.sIx C.length 0 lo)
def LM(C:LVv)(lo hi:Option Int):(qw C lo hi).length<=C.length:=by
 unfold qw;rw[length_take,length_drop]
 lia
abbrev ixN(n:Nat)(i:Int):Option Nat:=if 0<=i then (if i<n then aa i.toNat else ab) else if -(n:Int)<=i then aa (i+n).toNat else ab
abbrev atI{a:Type}(C:List a)(i:Int):Option a:=(ixN C.length i).bind λj=>C[j]?
variable{n j:Nat}{i:Int}
def Er(h:ixN n i=aa j):seqIndex? i n=aa j/\j<n/\-(n:Int)<=i/\i<n:=by
 unfold ixN at h
 by_cases b:0<=i
 .rw[if_pos b]at h
  by_cases a:i<n
  .rw[if_pos a]at h;have e:=dk h;exact⟨by rw[seqIndex_of b a,e],by lia,by lia,a⟩
  .rw[if_neg a]at h;nomatch h
 .rw[if_neg b]at h
  by_cases a:-n<=i
  .rw[if_pos a]at h;have e:=dk h;exact⟨by rw[seqIndex_neg (by lia) a,e],by lia,a,by lia⟩
  .rw[if_neg a]at h;nomatch h
def Es{a:Type}{C:List a}{v:a}(h:atI C i=aa v):∃j,seqIndex? i C.length=aa j/\C[j]?=aa v/\j<C.length/\-(C.length:Int)<=i/\i<C.length:=by
 unfold atI at h
 cases e:ixN C.length i with
 |none=>rw[e]at h;nomatch h
 |some j=>
  rw[e]at h;obtain⟨b,h2,c,d⟩:=Er e;exact⟨j,b,h,h2,c,d⟩
def LO{a:Type}{C:List a}{v:a}(h:C[j]?=aa v):atI C (j:Int)=aa v:=by
 have b:=(cU.mp h).1
 have e:ixN C.length j=aa j:=by
  unfold ixN;rw[if_pos (by lia),if_pos (by lia)];simp
 unfold atI;rw[e];exact h
abbrev Et(b:Expr):Prop:=∀o i,subscripted b af o i=operate [o,i] (getItem o i)
abbrev IxR(X:Cx)(r:R2):Prop:=
 ∀(value a:Expr) (U:PNS) (s:ah) (E:St) (H:Hp) (x y:V) (v u:Value) (Q:VK),Inv X U E H s->aA x v->aA y u->r x y H Q ->
  subscripted a af v u=operate [v,u] (getItem v u)->wpAny @2 X.A (subscriptTail value a v u) (EP X U E Q) X.xe s
abbrev MtR(X:Cx)(id:String)(r:V->LVv->Hp->VK->Prop):Prop:=
 ∀(U:PNS) (s:ah) (E:St) (H:Hp) (x:V) (C:LVv) (v:Value) (us:LVa) (Q:VK),Inv X U E H s->aA x v->aG C us->r x C H Q ->
  wpAny @2 X.A (call (.builtin id) (v::us)) (EP X U E Q) X.xe s
variable{r r':R2}
def IxR.or(h:IxR X r)(h':IxR X r'):IxR X (λx y H Q=>r x y H Q\/r' x y H Q):=by
 intro value a U s E H x y v u Q I c d q b
 rcases q with q |q
 .exact h value a U s E H x y v u Q I c d q b
 .exact h' value a U s E H x y v u Q I c d q b
variable{a b:Expr}{ta tb:TE}
def LP(hr:IxR X r)(ha:PE X a ta)(e:PE X b tb)(f:Et b):PE X (.Subscript a b pos) (tOp r ta tb):=by
 intro U s E H Q I h;exact Subscript_ (xg ha e I h λv u s2 x y c d g i q=>hr a b U s2 E c x y v u Q d g i q (f _ _))
abbrev LQ(K:aQ):R2:=λx y H Q=>∃p C i v,x=.ref p/\y=.int i/\SqL K H p C/\atI C i=aa v/\Q v H
abbrev LR(K:aQ):R2:=λx y H Q=>∃p C i v,x=.ref p/\y=.int i/\SqT K H p C/\atI C i=aa v/\Q v H
def LU:IxR X (LQ X.K):=by
 intro value e U s E H x y v u Q I L M h l;obtain⟨p,C,i,z,rfl,rfl,J,A,q⟩:=h;subst L;obtain⟨t,rfl⟩:=M;obtain⟨B,r,c,hz⟩:=I.list J;obtain⟨j,a,h2,N,m,n⟩:=Es A;obtain⟨w,f,d⟩:=r.get h2;have G:=r.length;have hn:=qt;have fin:EP X U E Q w s:=⟨z,H,I,d,q⟩
 by_cases g:0<=i
 .have b:i.toNat=j:=by
   rw[seqIndex_of g n]at a;exact dk a
  exact item_listR c.isList g (by lia) (by rw[b];simpa using f) fin l
 .have b:(i+B.toArray.size).toNat=j:=by
   rw[seqIndex_neg (by lia) m]at a;rw[size_toArray,<- G];exact dk a
  exact subscriptTail_builtinR c.isList.typeIs slot_list_getitem.lookup
   (wpAny_getItem_list_neg c.isList (by lia) (by rw[size_toArray] <;> lia) (by lia) (by rw[b];simpa using f) ⟨rfl,fin⟩) l
def LV:IxR X (LR X.K):=by
 intro value b U s E H x y v u Q I m n h l;obtain⟨p,C,i,z,rfl,rfl,g,f,q⟩:=h;subst m;obtain⟨t,rfl⟩:=n;obtain⟨B,r,c,hz⟩:=I.tuple g;obtain⟨j,e,h2,A,G,J⟩:=Es f;obtain⟨w,d,a⟩:=r.get h2;have hn:=qt;have fin:EP X U E Q w s:=⟨z,H,I,a,q⟩
 exact subscriptTail_builtinR c.typeIs slot_tuple_getitem.lookup
  (getItem_tuple c (by lia) (by lia) (by rw[size_toArray,<- r.length];exact e) (by simpa using d) ⟨rfl,fin⟩) l
def LW(B:LVa)(n j:Nat)(u:Value):g7 (·.setIfInBounds j u) {cls:=.type "list",data:=.seq B.toArray n}={cls:=.type "list",data:=.seq (B.set j u).toArray n}:=by
 simp[g7]
variable{U:PNS}{E:St}{H:Hp}{p:Addr}{C:LVv}
def Inv.lst{s:ah}(I:Inv X U E H s)(h:H p=aa (.lst C)):
  ∃(B:LVa) (n:Nat),aG C B/\s.heap.get? p=aa {cls:=.type "list",data:=.seq B.toArray n}/\C.length<=aS:=by
 obtain⟨z,B,n,r,e⟩:=I.hok p _ h;exact⟨B,n,r,e,z⟩
variable{ys:LVv}{B dr:LVa}{n':Nat}
def Inv.lstUpd{s:ah}{f:Obj->Obj}(I:Inv X U E H s)(h:H p=aa (.lst C))
 (d:s.heap.get? p=aa {cls:=.type "list",data:=.seq B.toArray n})(a:f {cls:=.type "list",data:=.seq B.toArray n}={cls:=.type "list",data:=.seq dr.toArray n'})(r:aG ys dr)(hz:ys.length<=aS)(t:Nat):
  Inv X U E (upd H p (.lst ys)) {s with heap:=s.heap.update p f,toks:=t}:=by
 have e:(s.heap.update p f).get? p=aa {cls:=.type "list",data:=.seq dr.toArray n'}:=by
  rw[oh f d (by rw[a] <;> rfl),a]
 exact I.write (by rw[h];trivial) (.inl rfl) (λb u c q=>(oe _ _ (eG c)).trans q) ⟨_,e⟩ ⟨hz,dr,n',r,e⟩
abbrev xu:V->V->V->Hp->(Hp->Prop)->Prop:=λo i v H Q=>∃p C k j,o=.ref p/\i=.int k/\H p=aa (.lst C)/\ixN C.length k=aa j/\Q (upd H p (.lst (C.set j v)))
def xv:DY X xu:=by
 intro U s E H o i v A z u Q I y x rv h;obtain⟨p,C,k,j,rfl,rfl,m,w,q⟩:=h;subst y;obtain⟨t,rfl⟩:=x;obtain⟨B,n,r,d,hz⟩:=I.lst m;obtain⟨a,h2,g,l⟩:=Er w;have c:=r.length;have hn:=qt
 have e:Inv X U E _ {s with heap:=s.heap.update p _}:=
  I.lstUpd m d (LW B n j u) (r.set rv j) (by rw[ig];exact hz) s.toks
 by_cases f:0<=k
 .have b:k.toNat=j:=by
   rw[seqIndex_of f l]at a;exact dk a
  exact W.ki_setAt d f (by lia) (by rw[size_toArray,<- c];exact l) (by rw[b];exact⟨_,e,q⟩)
 .have b:(k+B.toArray.size).toNat=j:=by
   rw[seqIndex_neg (by lia) g]at a;rw[size_toArray,<- c];exact dk a
  exact W.ki_setBack d (by lia) (by rw[size_toArray,<- c];exact g) (by lia) (by rw[b];exact⟨_,e,q⟩)
def LX(lo hi:Option Int)(n:Nat):(mf lo hi ab n).1=((HT.sIx n 0 lo:Nat):Int)/\(mf lo hi ab n).2.1=((HT.sIx n n hi:Nat):Int)/\(mf lo hi ab n).2.2=1:=by
 refine⟨?_,?_,rfl⟩
 .cases lo with
  |none=>simp[mf,HT.sIx]
  |some i=>
   simp only[mf,HT.sIx,Option.getD_none]
   grind
 .cases hi with
  |none=>simp[mf,HT.sIx]
  |some i=>
   simp only[mf,HT.sIx,Option.getD_none]
   grind
def LY(B:LVa)(lo hi:Option Int):slicePick B.toArray lo hi ab=((B.drop (HT.sIx B.length 0 lo)).take (HT.sIx B.length B.length hi-HT.sIx B.length 0 lo)).toArray:=by
 obtain⟨a,h2,b⟩:=LX lo hi B.toArray.size;unfold slicePick;rw[a,h2,b]
 simp only[sliceRange_one,pick_run] <;> rfl
abbrev LZ(K:aQ):V->Option Int->Option Int->Hp->VK->Prop:=λx lo hi H Q=>∃a C,x=.ref a/\SqL K H a C/\∀p,H p=ab->Q (.ref p) (upd H p (.lst (qw C lo hi)))
def L4:SlR X (LZ X.K):=by
 intro U s E H x v vl m lo hi sl Q I j e g i h;obtain⟨a,C,rfl,f,q⟩:=h;subst j;obtain⟨B,r,d,hz⟩:=I.list f;have c:=r.length;refine⟨"list",_,slot_list_getitem.lookup,d.isList.typeIs,?_⟩;refine wpAny_getItem_list_slice d.isList e g i .none (by simp) ?_ (by grind);rw[LY,<- c];refine⟨.ref s.heap.objs.size,_,I.laid (λb l q=>bw _ q) (aM _) ?_,rfl,q _ (I.hok.fresh (aM _))⟩;exact⟨cN (LM C lo hi) hz,_,0,(r.drop _).take _,cP _ rfl⟩
abbrev fM:V->Bool
 |.non=>ac
 |.bl _=>ac
 |.int _=>ac
 |.str _=>ac
 | _=>af
abbrev eqV:V->V->Bool
 |.non,.non=>ac
 |.bl a,.bl b=>a==b
 |.bl a,.int b=>(if a then 1 else 0)==b
 |.int a,.bl b=>a==(if b then 1 else 0)
 |.int a,.int b=>a==b
 |.str a,.str b=>a==b
 | _,_=>af
variable{A:b6}{y x:V}{u v:Value}
def Eu{s:ah}(e:aA y u)(c:aA x v)(f:fM y=ac)(d:fM x=ac):cq A s u v (eqV y x):=by
 cases y with
 |non=>
  cases e
  cases x with
  |non=>subst c;exact wQ _
  |bl b=>subst c;exact cq.none_bool b
  |int b=>obtain⟨t,rfl⟩:=c;exact cq.none_int b t
  |str b=>obtain⟨t,rfl⟩:=c;exact cq.none_str b t
  | _=>exact absurd (d) bO
 |bl a=>
  subst e
  cases x with
  |non=>subst c;exact cq.bool_none a
  |bl b=>subst c;exact cq.bool_bool a b
  |int b=>obtain⟨t,rfl⟩:=c;exact cq.bool_int a b t
  |str b=>obtain⟨t,rfl⟩:=c;exact cq.bool_str a b t
  | _=>exact absurd (d) bO
 |int a=>
  obtain⟨t',rfl⟩:=e
  cases x with
  |non=>subst c;exact cq.int_none a t'
  |bl b=>subst c;exact cq.int_bool a t' b
  |int b=>obtain⟨t,rfl⟩:=c;exact cq.int_int a t' b t
  |str b=>obtain⟨t,rfl⟩:=c;exact wO a t' b t
  | _=>exact absurd (d) bO
 |str a=>
  obtain⟨t',rfl⟩:=e
  cases x with
  |non=>subst c;exact cq.str_none a t'
  |bl b=>subst c;exact cq.str_bool a t' b
  |int b=>obtain⟨t,rfl⟩:=c;exact wP a t' b t
  |str b=>obtain⟨t,rfl⟩:=c;exact cq.str_str a t' b t
  | _=>exact absurd (d) bO
 | _=>exact absurd (f) bO
abbrev eqU(x:V)(u:Value):Bool:=match u with
 |.none=>eqV .non x
 |.bool b=>eqV (.bl b) x
 |.int i _=>eqV (.int i) x
 |.str z _=>eqV (.str z) x
 | _=>af
def Ev(r:aA y u)(f:fM y=ac):eqU x u=eqV y x:=by
 cases y with
 |non=>subst r;rfl
 |bl b=>subst r;rfl
 |int i=>obtain⟨t,rfl⟩:=r;rfl
 |str z=>obtain⟨t,rfl⟩:=r;rfl
 | _=>exact absurd (f) bO
def xy{x:V}:∀{C:LVv} {us:LVa},aG C us->C.all fM=ac->us.any (eqU x)=C.any λy=>eqV y x
 | _,_,.nil,_=>rfl
 |y::C,u::us,.cons r t,f=>by
  rw[l7,cL]at f;rw[gq,gq,Ev r f.1,xy t f.2]
def xz{A:b6}{s:ah}{x:V}{v:Value}(c:aA x v)(b:fM x=ac):∀{C:LVv} {us:LVa},aG C us->C.all fM=ac->∀u∈us,cq A s u v (eqU x u)
 | _,_,.nil,_=>λu a=>by nomatch a
 |y::C,u::us,.cons r t,f=>λd a=>by
  rw[l7,cL]at f
  rcases bh.mp a with rfl |a
  .rw[Ev r f.1];exact Eu r c f.1 b
  .exact xz c b t f.2 d a
abbrev inV(x:V)(C:LVv):Bool:=C.any λy=>eqV y x
abbrev rIn(K:aQ)(neg:Bool):R2:=λx y H Q=>∃p C,y=.ref p/\(SqL K H p C\/SqT K H p C)/\fM x=ac/\C.all fM=ac/\Q (.bl (if neg then !inV x C else inV x C)) H
def L5:OpR X (cV .NotIn) (rIn X.K ac):=by
 intro U s E H x y v u Q I d f h;obtain⟨p,C,rfl,a,c,fs,q⟩:=h;subst f
 rcases a with a |a
 .obtain⟨B,r,b,hz⟩:=I.list a;refine SeqAt.notIn_listAt _ b.isList (λw e=>xz d c r fs w (by grind)) ⟨.bl _,H,I,rfl,?_⟩;rw[show B.toArray.any _=B.any (eqU x) by simp,xy r fs];exact q
 .obtain⟨B,r,b,hz⟩:=I.tuple a;refine SeqAt.notIn_tupleAt _ b (λw e=>xz d c r fs w (by grind)) ⟨.bl _,H,I,rfl,?_⟩;rw[show B.toArray.any _=B.any (eqU x) by simp,xy r fs];exact q
def L6:iu X (.builtin "len") (λC H Q=>∃p ys,C=[.ref p]/\(SqL X.K H p ys\/SqT X.K H p ys)/\Q (.int ys.length) H):=by
 intro U s E H C us Q I r h;obtain⟨p,ys,rfl,b,q⟩:=h;obtain⟨u,rfl,d⟩:=mE r;subst d;have hn:=qt
 rcases b with b |b
 .obtain⟨B,r',c,hz⟩:=I.list b;have a:=r'.length;exact Calls.call_len_list c.isList (by grind) ⟨.int ys.length,H,I.tok _,⟨s.toks+1,by rw[size_toArray,a]⟩,q⟩
 .obtain⟨B,r',c,hz⟩:=I.tuple b;have a:=r'.length;exact len_tuple c (by grind) ⟨.int ys.length,H,I.tok _,⟨s.toks+1,by rw[size_toArray,a]⟩,q⟩
def L7:iu X (.builtin "len") (λC H Q=>∃z,C=[.str z]/\z.length<=aS/\Q (.int z.length) H):=by
 intro U s E H C us Q I r h;obtain⟨z,rfl,hz,q⟩:=h;obtain⟨u,rfl,t,rfl⟩:=mE r;have hn:=qt;exact len_str (by lia) ⟨.int z.length,H,I.tok _,⟨_,rfl⟩,q⟩
def L8:iu X (.type "list") (λC H Q=>∃p ys,C=[.ref p]/\(SqL X.K H p ys\/SqT X.K H p ys)/\∀l,H l=ab->Q (.ref l) (upd H l (.lst ys))):=by
 intro U s E H C us Q I r h;obtain⟨p,ys,rfl,c,q⟩:=h;obtain⟨u,rfl,i⟩:=mE r;subst i
 have fin:∀B,aG ys B->ys.length<=aS->∀h' a,_ ->
   h'.get? s.heap.objs.size=aa {cls:=.type "list",dict:=ab,data:=.seq B.toArray a,slots:=#[]}->EP X U E Q _ {s with heap:=h'}:=λB r' hz h' a kp e=>
  ⟨.ref s.heap.objs.size,_,I.laid kp (aM _) (show dR X.prog X.w _ h' _ (.lst ys)from⟨hz,B,a,r',e⟩),rfl,q _ (I.hok.fresh (aM _))⟩
 rcases c with c |c
 .obtain⟨B,r',g,hz⟩:=I.list c;have b:=r'.length;obtain⟨o,f,d,n,hd⟩:=g.isList;exact call_list_seq p (.inl rfl) f d hd (λh' a kp e=>fin B r' hz h' a kp e) (by grind)
 .obtain⟨B,r',g,hz⟩:=I.tuple c;have b:=r'.length;obtain⟨o,f,d,n,hd⟩:=g;exact call_list_seq p (.inr rfl) f d hd (λh' a kp e=>fin B r' hz h' a kp e) (by grind)
abbrev tyV(K:aQ)(T:String)(x:V)(H:Hp):Prop:=match x with
 |.str _=>T="str"
 |.int _=>T="int"
 |.ref p=>(T="list" /\ ∃C,SqL K H p C)\/(T="tuple" /\ ∃o,K.lookup p=aa o/\o.cls=.type "tuple" /\ o.dict=ab) \/
   (T="dict" /\ ((∃kvs,H p=aa (.dK kvs))\/∃kvs,H p=aa (.dT kvs)))\/(T="set" /\ ∃S n,H p=aa (.set S n))
 | _=>False
variable{T:String}
def L9{s:ah}(I:Inv X U E H s)(r:aA x v)(ty:tyV X.K T x H):
  s.TypeIs v T/\∀a,v=.ref a->∃f,s.heap.get? a=aa f/\f.dict=ab:=by
 cases x with
 |str z=>
  obtain⟨t,rfl⟩:=r;cases (ty)
  exact⟨typeIs_str s z t,λ_ e=>nomatch e⟩
 |int i=>
  obtain⟨t,rfl⟩:=r;cases (ty)
  exact⟨typeIs_int s i t,λ_ e=>nomatch e⟩
 |ref p=>
  subst r
  rcases ty with⟨rfl,C,j⟩ |⟨rfl,o,b,h,hd⟩ |⟨rfl,b⟩ |⟨rfl,S,n,b⟩
  .obtain⟨B,_,g,_⟩:=I.list j;refine⟨g.isList.typeIs,λa e=>?_⟩;cases e;obtain⟨o,n,e,c,hd,_⟩:=g;exact⟨o,e,hd⟩
  .refine⟨⟨o,I.kIn p o b,h⟩,λa e=>?_⟩;cases e;exact⟨o,I.kIn _ o b,hd⟩
  .have z:∃o,s.heap.get? p=aa o/\o.ExactDict:=by
    rcases b with⟨kvs,b⟩ |⟨kvs,b⟩
    .obtain⟨_,_,_,_,o,_,_,e,ex,_⟩:=I.hok p _ b;exact⟨o,e,ex⟩
    .obtain⟨_,_,_,_,o,_,_,e,ex,_⟩:=I.hok p _ b;exact⟨o,e,ex⟩
   obtain⟨o,e,ex⟩:=z;refine⟨⟨o,e,ex.1⟩,λa d=>?_⟩;cases d;exact⟨o,e,ex.2.1⟩
  .obtain⟨o,_,_,_,e,ex,_⟩:=I.hok p _ b;refine⟨⟨o,e,ex.1⟩,λa d=>?_⟩;cases d
   exact⟨o,e,ex.2.1⟩
 | _=>exact gT ty
abbrev tBM(K:aQ)(T:String)(r:V->LVv->Hp->VK->Prop)(to:TE)(t:TA):TE:=λE H Q=>to E H λx a=>tyV K T x a/\t E a λC b=>r x C b Q
variable{es:LEx}{name:Str}{apos cpos:Pos}{r:V->LVv->Hp->VK->Prop}
def jF{o:Expr}{to:TE}{t:TA}{id:String}(pa:PlainAttrs T)(slot:Slot T name id)(f:typeOf (.builtin id)=pure (.type "method_descriptor"))(hm:MtR X id r)(q:PE X o to)(ha:PA X (e::es) t)
 (b:n9 o name X.env (eval o X.env)=eval o X.env:=by rfl)
 (d:((ca cpos (aN (e::es) X.env)).all (λx=>!x.1) && (io cpos (il [] X.env)).all (λx=>x.1.isSome)
   && decide ((e::es).length+([]:List Keyword).length+(if ([]:List Keyword).isEmpty then 0 else 1)<30))=ac:=by rfl)
 (c:(apos.endLine==cpos.line)=ac:=by rfl)(u:StE X e es:=by rfl)(a:(ca cpos (aN es X.env)).any (·.1)=af:=by rfl):
  PE X (.Call (.Attribute o name apos) (e::es) [] cpos) (tBM X.K T r to t):=by
 intro U s E H Q I h;refine wpAny_Call_method_late b d c rfl (thn (q U s E H _ I h) λv s1 z=>?_);obtain⟨x,l,g,j,ty,w⟩:=z;obtain⟨p,h2⟩:=L9 g j ty;refine⟨T,id,pa,slot,f,p,h2,?_⟩;have i:=ha cpos U s1 E l _ g w;rw[u]at i ⊢
 exact wF (by show(af || (ca cpos _).any (·.1))=af;rw[a] <;> rfl) (wG (thn i λus s2 ⟨vs,m,n,A,y⟩=>hm U s2 E m x vs v us Q n j A y))
abbrev MtM(X:Cx)(id:String)(r:V->LVv->Hp->VK->Prop):Prop:=
 ∀(U:PNS) (s:ah) (E:St) (H:Hp) (x:V) (C:LVv) (v:Value) (us:LVa) (Q:VK),Inv X U E H s->aA x v->aG C us->r x C H Q ->
  wpAny @2 X.A (call (.builtin id) (v::us)) (EP X U E Q) X.xe s
def aG.one:∀{x:V} {us:LVa},aG [x] us->∃u,us=[u]/\aA x u:=λh=>by
 cases h with
 |cons r h=>
  cases h;exact⟨_,rfl,r⟩
def aG.two:∀{x y:V} {us:LVa},aG [x,y] us->∃u v,us=[u,v]/\aA x u/\aA y v:=λh=>by
 cases h with
 |cons r h=>
  cases h with
  |cons q h=>
   cases h;exact⟨_,_,rfl,r,q⟩
def aG.eraseIdx:∀{C:LVv} {us:LVa} (i:Nat),aG C us->aG (C.eraseIdx i) (us.eraseIdx i)
 | _,_,_,.nil=>.nil
 | _,_,0,.cons _ t=>t
 | _,_,i+1,.cons r t=>.cons r (aG.eraseIdx i t)
variable{us:LVa}
def aG.reverse(h:aG C us):aG C.reverse us.reverse:=by
 induction h with
 |nil=>exact .nil
 |cons r t a=>rw[iQ,iQ];exact aG.append a (.cons r .nil)
def xA{a:Type}:∀(l:List a) (i:Nat),(l.eraseIdx i).length<=l.length
 | [],_=>aM _
 | _::_,0=>jW _
 | _::r,i+1=>Nat.succ_le_succ (xA r i)
variable{l:Addr}{t':Nat}
section
variable{s:ah}
def Inv.lset{f:Array Value->Array Value}(I:Inv X U E H s)(a:H l=aa (.lst C))
 (e:s.heap.get? l=aa {cls:=.type "list",data:=.seq B.toArray n})(c:f B.toArray=dr.toArray)(hv:aG ys dr)(hz:ys.length<=aS):
  Inv X U E (upd H l (.lst ys)) {s with heap:=s.heap.update l (g7 f),toks:=t'}:=by
 have q:=PySem.IsL.update e f;rw[c]at q;exact I.write (by rw[a];exact trivial) (.inl rfl) (λg u b d=>(oe s.heap _ (eG b)).trans d) ⟨_,q⟩ ⟨hz,dr,_,hv,q⟩
end
section
variable{s:ah}
def Inv.lnew(I:Inv X U E H s)(hv:aG ys B)(hz:ys.length<=aS):
  Inv X U E (upd H s.heap.objs.size (.lst ys)) {s with heap:=s.heap.push {cls:=.type "list",data:=.seq B.toArray},toks:=t'}:=
 I.laid (λ_ _ q=>bw _ q) (aM _) ⟨hz,B,0,hv,cP _ rfl⟩
end
def Inv.fresh{s:ah}(I:Inv X U E H s):H s.heap.objs.size=ab:=I.hok.fresh (aM _)
def Inv.lstM{s:ah}(I:Inv X U E H s)(a:H l=aa (.lst C)):C.length<=aS/\∃(B:LVa) (n:Nat),aG C B/\C.length=B.length/\s.heap.get? l=aa {cls:=.type "list",data:=.seq B.toArray n}:=by
 obtain⟨z,B,n,r,e⟩:=I.hok l _ a;exact⟨z,B,n,r,r.length,e⟩
def Ma(h:n<=aS):Dx n=af:=by
 exact decide_eq_false (by lia)
abbrev tL:V->LVv->Hp->VK->Prop:=λx vs H Q=>∃l C y,x=.ref l/\vs=[y]/\H l=aa (.lst C)/\C.length<aS/\Q .non (upd H l (.lst (C++[y])))
def xB:MtM X "list.append" tL:=by
 intro U s E H x vs v us Q I b rv h;obtain⟨l,C,y,rfl,rfl,a,hz,q⟩:=h;subst b;obtain⟨u,rfl,ru⟩:=rv.one;obtain⟨z,B,n,r,c,e⟩:=I.lstM a;refine call_meets F.slot_list_append ⟨_,e,rfl⟩ F.entry_list_append (F.args_list_append_2 _ _) (PySem.list_append l B.toArray n u (by rw[size_toArray];lia)) ⟨e,?_⟩;refine⟨.non,_,I.lset a e (by simp) (r.append (.cons ru .nil)) ?_,rfl,q⟩;rw[aR,fX]
 lia
abbrev xC:V->LVv->Hp->VK->Prop:=λx vs H Q=>∃l b C a,x=.ref l/\vs=[.ref b]/\H l=aa (.lst C)/\H b=aa (.lst a)/\C.length+a.length<=aS/\Q .non (upd H l (.lst (C++a)))
def xD:MtM X "list.extend" xC:=by
 intro U s E H x vs v us Q I p rv h;obtain⟨l,b,C,A,rfl,rfl,f,hB,hz,q⟩:=h;subst p;obtain⟨u,rfl,ru⟩:=rv.one;subst ru;obtain⟨z,B,n,r,w,e⟩:=I.lstM f;obtain⟨y,a,j,m,i,g⟩:=I.lstM hB;have d:B.toArray.size+a.toArray.size<=aS:=by grind
 have c:¬(!B.toArray.isEmpty && Dx (B.toArray.size+a.toArray.size))=ac:=by
  rw[Ma d,Bool.and_false]
  grind
 refine call_meets F.slot_list_extend ⟨_,e,rfl⟩ F.entry_list_extend (F.args_list_extend_2 _ _)
  (AutoSeq1.list_extend_list_list_0 l B.toArray n b a.toArray j c (by grind) (by lia)) ⟨e,g,?_⟩
 refine⟨.non,_,I.lset f e (by simp) (r.append m) ?_,rfl,q⟩
 grind
abbrev Ew:V->LVv->Hp->VK->Prop:=λx vs H Q=>∃l C i k y,x=.ref l/\vs=[.int i]/\H l=aa (.lst C)/\-(2 ^ 63)<=i/\i<2 ^ 63/\seqIndex? i C.length=aa k/\C[k]?=aa y/\Q y (upd H l (.lst (C.eraseIdx k)))
def Mb:MtM X "list.pop" Ew:=by
 intro U s E H x vs v us Q I m rv h;obtain⟨l,C,i,k,y,rfl,rfl,b,c,h2,d,j,q⟩:=h;subst m;obtain⟨u,rfl,ru⟩:=rv.one;obtain⟨t,rfl⟩:=ru;obtain⟨z,B,n,r,f,e⟩:=I.lstM b;obtain⟨w,g,a⟩:=r.get j
 refine call_meets F.slot_list_pop ⟨_,e,rfl⟩ F.entry_list_pop (F.args_list_pop_2 _ _)
  (MeetsSeq.list_pop_at l B.toArray n i t k w (fitsIndex_both c h2) (by rw[size_toArray,<- f];exact d) (by rw[<- pW];exact g) (by rw[size_toArray];lia)) ⟨e,?_⟩
 refine⟨y,_,I.lset b e ?_ (r.eraseIdx k) ?_,a,q⟩
 .show B.toArray.eraseIdxIfInBounds k=(B.eraseIdx k).toArray;rw[eraseIdxIfInBounds_toArray]
 .have:=xA C k
  lia
abbrev Mc:R2:=λx y H Q=>∃l b C a,x=.ref l/\y=.ref b/\H l=aa (.lst C)/\H b=aa (.lst a)/\C.length+a.length<=aS/\∀p,H p=ab->Q (.ref p) (upd H p (.lst (C++a)))
def Ex:OpR X (fJ .Add) Mc:=by
 intro U s E H x y v u Q I j m h;obtain⟨l,b,C,G,rfl,rfl,f,hB,hz,q⟩:=h;subst j;subst m;obtain⟨z,B,n,r,p,e⟩:=I.lstM f;obtain⟨A,a,w,i,g,c⟩:=I.lstM hB;refine PySem.P.add_list e c ?_ (by grind);have d:B.toArray++a.toArray=(B++a).toArray:=by simp
 rw[d];exact⟨.ref _,_,I.lnew (r.append i) (by grind),rfl,q _ I.fresh⟩
end L2
namespace Att
open List
open PySem PySem.W PySem.Calls PyProof.Rows
variable{P:Params}{h:Heap}
def Md:∀(ns:LI0) (vs:LVa),WellAll P h vs (ns.map WData.int)->fZ vs ns:=by
 intro ns
 induction ns with
 |nil=>
  intro vs w;cases w
  exact .nil
 |cons n ns c=>
  intro vs w
  cases w with
  |cons a b=>
   cases a;exact .cons _ _ (c _ b)
variable{l:OpenLaw}{n:Nat}{vals:LVa}
def Mf(hn:l.most=aa n){args:List WData}
 (b:l.row.toRowW.claim.pre args=ac)(g:WellAll P h vals args):
  ∃a vs ns,vals=[eM a]/\args=[WData.list (ns.map WData.int)]/\h.get? a=aa {cls:=.type "list",data:=.seq vs.toArray}/\fZ vs ns/\ns.length<=n:=by
 obtain⟨d,r,rfl,i,h2⟩:=hasAllW_cons ((pre_splitW b).1);obtain rfl:=hasAllW_nil h2;obtain⟨C,rfl,j⟩:=hasW_list i;obtain⟨ns,rfl⟩:=items_int j
 have e:ns.length<=n:=by
  have f:(WTm.not (.lt (.lit (.int n)) (.len (.arg 0)))).holds [] {args:=[.list (ns.map .int)]}=ac:=by
   have f:=(holds_andW ((pre_splitW b).2)).1;rw[hn]at f;exact f
  have u:=condW_of f (w_not (w_lt w_lit (w_len_list (w_arg rfl))))
  grind
 cases g with
 |cons p q=>
  cases q
  cases p with
  |list m c=>exact⟨_,_,ns,rfl,rfl,m,Md ns _ c,e⟩
def Mg(l:OpenLaw)(args:List WData):l.row.toRowW.claim.post args (.bool ac) args=ac:=
 postW_of
  (show WShape.has [] _ .bool=ac by first |rfl |decide |simp[WShape.has])
  (w_eq_bool (w_res rfl) w_lit) rfl
variable{q:b9}{dd:LSt}{XP:MGT->Heap->Prop}{YP:World->Heap->Prop}{d:DefRec}
def attach_call
 (hn:l.most=aa n)(p:d.params.defaults=[])
 (call:∀ (w:World) (s₀ b:ah) (mg mb:MGT) (fa:Addr) (o:Obj) (pm i doc:Value) (a:Addr) (vs:LVa) (ns:LI0),
   Ground q dd [] XP w s₀ mg mb b.heap->YP w b.heap ->
   b.heap.get? fa=aa o->o.data=.func (docDef d.name d.params d.body d.scope pm i doc)->b.heap.CodeRec i d.name->mg d.name=aa (.ref fa) ->
   b.heap.get? a=aa {cls:=.type "list",data:=.seq vs.toArray}->fZ vs ns->ns.length<=n->b.gens=#[] ->
   gx (model l.prog w) callerA (.call (.ref fa) ⟨[.ref a],[]⟩) (λr j=>r=.ok (.ret (.bool ac))/\OldK b.heap j.heap/\j.os=b.os/\jY j.gens) b):
  WalkO q dd XP YP l.row.toRowW d [] (λf vs=>PySem.call f vs):=by
 intro w s₀ b mg mb G Y fa o pm i doc dV kV E hd m x u B args vals as h y I v C;obtain rfl:dV=.none:=Dflts.none x p;obtain rfl:kV=.none:=Dflts.noKw x;obtain⟨a,vs,ns,rfl,rfl,g,c,e⟩:=Mf hn h v;refine enter_call (kX (call w s₀ b mg mb fa o pm i doc a vs ns G Y E (fd_plain hd) m u g c e B) λr j H=>?_);obtain⟨rfl,h2,z,A⟩:=H;exact⟨.inl ⟨.bool ac,.bool ac,[],rfl,λ_=>rfl,.bool ac,Mg l _,λ_=>⟨List.Pairwise.nil,λ_ hm=>(nomatch hm)⟩⟩,h2,z,A⟩
end Att
namespace L2
open List
open PySem PySem.Spec PyProof.Rows
def Ey:∀{vs:LVa} {ns:LI0},fZ vs ns->aG (ns.map V.int) vs
 | _,_,.nil=>.nil
 | _,_,.cons n t h=>.cons ⟨t,rfl⟩ (Ey h)
abbrev tM(H:Hp):Prop:=∀b,H b=ab\/∃o C,H b=aa (.frz o (.lst C))
variable{P:b9}{w:World}{K:aQ}{mg:MGT}{a:Addr}{fd:cO}{x:Str}{ns:LI0}
def Mh{mb:MGT}{CX:CXT}{k:Nat}{fa:Addr}{sp:Sp}{c:ah}{vs:LVa}
 (T:K.In c.heap)(B:c.heap.Ns cz mg)(p:c.heap.Ns builtinsNs mb)(J:∀x:Str,x ≠ "__name__" -> mb x=jC x)(A:c.heap.NoLimit)(hg:c.gens=#[])
 (ha:c.heap.get? a=aa {cls:=.type "list",data:=.seq vs.toArray})(hi:fZ vs ns)(hl:ns.length<=aS)(hr:bu k callerA)
 (F:∀base:Heap,K.In base->base.Ns cz mg->cr P w K mg base CX k fa fd [x] sp)(l:∀(s:ah) (u:Value),BindsTo s fd ⟨[u],[]⟩ [(x,u)])
 (M:∀H:Hp,tM H->SqL K H a (ns.map V.int)->sp [.ref a] H (λv _=>v=.bl ac) λ_ _ _=>False)
 (I:∀H e g,CX [] H c (λ_ _ _=>False) e g->False):
  gx (model P w) callerA (.call (.ref fa) ⟨[.ref a],[]⟩) (λr g=>r=.ok (.ret (.bool ac))/\OldK c.heap g.heap/\g.os=c.os/\jY g.gens) c:=by
 have rv:=Ey hi
 have j:∀H:Hp,tM H->SqL K H a (ns.map V.int)->HOk P w H c.heap->(∀b,H b≠ab->b=a)->(H a≠ab->K.lookup a=ab) ->
   gx (model P w) callerA (.call (.ref fa) ⟨[.ref a],[]⟩) (λr g=>r=.ok (.ret (.bool ac))/\OldK c.heap g.heap/\g.os=c.os/\jY g.gens) c:=by
  intro H U hS hok hA hK;have f:∀{b:Addr} {o:Obj},c.heap.get? b=aa o->H b=ab->(ot c.heap H).get? b=aa o:=λe n=>JY e n
  have N:∀{b:Addr} {o:Obj} {es:Array DictEntry} {G:Nat},c.heap.get? b=aa o->o.data=.dict es G->H b=ab:=λ{b o es G} e d=>by
   grind
  have i:∀{b:Addr} {m:MGT},c.heap.Ns b m->(ot c.heap H).Ns b m:=λ{b m} ⟨o,es,G,e,d,r⟩=>⟨o,es,G,f e (N e d),d,r⟩
  have y:=λb o e=>f (T b o e) (by
   cases q:H b with
   |none=>rfl
   |some u=>
    have e':=hA b (by grind);subst e';rw[hK (by grind)]at e;nomatch e)
  have hM:Mod K mg _:=⟨y,i B,⟨mb,i p,J⟩,let ⟨mc,h1,h2⟩:=A;⟨mc,i h1,h2⟩⟩;have e0:mG P w K mg _ callerA [] c H:=⟨rfl,hM,λb o e=>JZ e,Nat.le_of_eq (JX _ _),trivial,λb p=>absurd (show b∈([]:LAd)from p) (by simp),hok,.of_eq hg⟩;refine kX ((F _ y (i B)).run callerA [] c H ⟨[.ref a],[]⟩ _ [.ref a] _ _ hr e0 (l c _) (.cons rfl .nil) (M H U hS)) λr g h=>?_
  cases r with
  |error e=>exact(I H e g h).elim
  |ok Y=>
   cases Y with
   |next=>exact gT h
   |brk=>exact gT h
   |cont=>exact gT h
   |ret u=>
    obtain⟨v,H',os,bare,un,E,r',q⟩:=h;subst q;obtain rfl:u=k6 ac:=r';refine⟨rfl,OldK.of_keep λb o e=>?_,os,bare⟩
    cases q:H b with
    |none=>exact un.keep b o e q (by intro z;exact absurd (show b∈([]:LAd)from z) (by simp)) (by simp)
    |some u=>
     rcases U b with z |⟨ob,C,z⟩
     .grind
     .have z2:=un.frzs b ob _ z;obtain⟨e1,_⟩:=hok b _ z;obtain⟨e2,_⟩:=E b _ z2
      grind
 cases L:K.lookup a with
 |some o=>
  have e:=T a o L;rw[ha]at e;cases e
  refine j _ (λ_=>.inl rfl) (.inr ⟨_,vs.toArray,_,L,rfl,rfl,rfl,by rw[size_toArray,hi.length];grind⟩) (λb u z=>by have Q:_=aa u:=z;nomatch Q) (λb z=>absurd rfl z) λz=>absurd rfl z
 |none=>
  refine j (λb=>if b=a then aa _ else ab) (λb=>?_) (.inl (.inr ⟨{cls:=.type "list",data:=.seq vs.toArray},if_pos rfl⟩)) (λb u z=>?_) (λb z=>?_) λ_=>L
  .grind
  .by_cases p:b=a
   .have Q:=(if_pos p).symm.trans z;cases Q;subst p;exact⟨ha,by rw[ay];exact hl,vs,_,rv,ha⟩
   .grind
  .grind
variable{h:Heap}
nonrec def KOf(_:K.In h):aQ:=K
variable{l:W.OpenLaw}{q:b9}{dd:LSt}{XP:MGT->Heap->Prop}{YP:World->Heap->Prop}{d:DefRec}
def Mi{n k:Nat}{K:Params->aQ}{CX:World->CXT}{sp:World->Sp}
 (hn:l.most=aa n)(z:n<=aS)(r:d.params.defaults=[])(hr:bu k callerA)
 (L:∀(w:World) (h:Heap),YP w h->(K w.params).In h)
 (F:∀ (w:World) (mg:MGT) (fa:Addr) (h:Heap),(K w.params).In h->h.Ns cz mg->mg d.name=aa (.ref fa) ->
   ∃fd:cO,(∀(s:ah) (u:Value),BindsTo s fd ⟨[u],[]⟩ [(x,u)]) /\
    ∀base:Heap,(K w.params).In base->base.Ns cz mg->cr l.prog w (K w.params) mg base (CX w) k fa fd [x] (sp w))
 (A:∀(w:World) (H:Hp) (a:Addr) (ns:LI0),ns.length<=n->tM H->SqL (K w.params) H a (ns.map V.int)->sp w [.ref a] H (λv _=>v=.bl ac) λ_ _ _=>False)
 (p:∀(w:World) (H:Hp) (s:ah) (e:Value) (B:ah),CX w [] H s (λ_ _ _=>False) e B->False):
  W.WalkO q dd XP YP l.row.toRowW d [] (λf vs=>PySem.call f vs):=by
 refine Att.attach_call hn r λw s₀ m mg mb fa o pm U doc a vs ns G Y ho hd N y j i c Q=>?_;have C:=L w _ Y;obtain⟨fd,M,E⟩:=F w mg fa _ C G.T.g y;exact Mh C G.T.g G.T.b G.T.builtins G.T.nolimit Q j i (cN c z) hr E M (λH I J=>A w H a ns c I J) λH e B=>p w H m e B
variable{CX:CXT}
def walk_ofK{n k:Nat}{K:Params->aQ}{sp:aQ->Sp}
 (hn:l.most=aa n)(g:n<=aS)(c:d.params.defaults=[])(hr:bu k callerA)
 (r:∀(w:World) (h:Heap),YP w h->(K w.params).In h)
 (F:∀ (w:World) (mg:MGT) (fa:Addr) (h:Heap),(K w.params).In h->h.Ns cz mg->mg d.name=aa (.ref fa) ->
   ∃fd:cO,(∀(s:ah) (u:Value),BindsTo s fd ⟨[u],[]⟩ [(x,u)]) /\
    ∀base:Heap,(K w.params).In base->base.Ns cz mg->cr l.prog w (K w.params) mg base CX k fa fd [x] (sp (K w.params)))
 (i:∀(K:aQ) (H:Hp) (a:Addr) (ns:LI0),ns.length<=n->tM H->SqL K H a (ns.map V.int)->sp K [.ref a] H (λv _=>v=.bl ac) λ_ _ _=>False)
 (b:∀(H:Hp) (s:ah) (e:Value) (j:ah),CX [] H s (λ_ _ _=>False) e j->False):
  W.WalkO q dd XP YP l.row.toRowW d [] (λf vs=>PySem.call f vs):=
 Mi hn g c hr r F (λw H a ns m h2 p=>i _ H a ns m h2 p) λ_ H s e j=>b H s e j
abbrev bi(s:Stmt)(j:Nat):Stmt:=match s with
 |.ClassDef _ _ _ body _ _ _ _ _ _ _=>body.getD j (.Pass ⟨0,0,0,0⟩)
 | _=>.Pass ⟨0,0,0,0⟩
abbrev ka(s:Stmt):Arguments:=match s with
 |.FunctionDef _ a _ _ _ _ _ _ _ _=>a
 | _=>{posonlyargs:=[],args:=[],vararg:=ab,kwonlyargs:=[],kw_defaults:=[],kwarg:=ab,defaults:=[]}
abbrev fN(s:Stmt):List Stmt:=match s with
 |.FunctionDef _ _ b _ _ _ _ _ _ _=>b
 | _=>[]
abbrev au(s:Stmt):Scope:=match s with
 |.FunctionDef _ _ _ _ _ _ sc _ _ _=>sc
 | _=>{kind:=.function,names:=[],isGenerator:=af,isCoroutine:=af}
nonrec abbrev CX0:CXT:=λ_ _ _ _ _ _=>False
nonrec abbrev E0:XK:=λ_ _ _=>False
variable{X:Cx}
def gB:mH CX0 X E0:=λ_ _ _ _ _ _ _ h=>h.elim
structure Fun(K:aQ)(x qual:Str)(st:Stmt)(f:Addr)(fd:cO):Prop where
 ex:∃(oc:Value) (od:Option Addr) (kV doc pm:Value) (an:Option Addr) (cdv ct:Value) (osl:Array (Option Value)),
  fd=iY x qual (ka st) (fN st) (au st) .none kV doc pm an cdv ct/\K.lookup f=aa ⟨oc,od,.func fd,osl⟩/\W.codeIn K cdv qual=ac
 kp:ga K (.ref f)=ac
variable{base:Heap}{qual:Str}{st:Stmt}{f:Addr}{N ps:LSt}{sp:Sp}
def Fun.ok{k:Nat}(F:Fun K x qual st f fd)(S:aB N ps (au st))(len:∀vs H Q V4,sp vs H Q V4->vs.length=ps.length)
 (a:∀ (cdv:Value) (A:b6) (outer:List Env) (s:ah) (H:Hp) (vs:LVv) (Q:VK) (V4:XK),bu k @10->sp vs H Q V4 ->
   ∃t,PSs (iw CX0 P w K mg base N qual (au st) f cdv A outer s H V4).nox (fN st) t/\t {nx:=λ_ H'=>Q .non H',rt:=Q} (start N vs) H):cr P w K mg base CX0 (k+1) f fd ps sp:=by
 obtain⟨oc,od,kV,doc,pm,an,cdv,ct,osl,rfl,d,b⟩:=F.ex;refine Eo d b S len λA outer s H vs Q V4 hr c=>?_;obtain⟨t,h,q⟩:=a cdv A outer s H vs Q V4 hr c;exact⟨t,h.nox,q⟩
def Fun.binds(F:Fun K x qual st f fd)
 (h:∀(kV doc pm:Value) (an:Option Addr) (cdv ct:Value) (us:LVa),us.length=ps.length->bindArgs (iY x qual (ka st) (fN st) (au st) .none kV doc pm an cdv ct) ⟨us,[]⟩=pure (ps.zip us)):dS K fd ps []:=by
 obtain⟨oc,od,kV,doc,pm,an,cdv,ct,osl,rfl,b,a⟩:=F.ex;exact .all (h kV doc pm an cdv ct)
variable{oc:Value}{an:Option Addr}{osl:Array (Option Value)}
def fun_mk{od:Option Addr}{kV doc pm cdv ct:Value}(l:K.lookup f=aa ⟨oc,od,.func (iY x qual (ka st) (fN st) (au st) .none kV doc pm an cdv ct),osl⟩)
 (c:W.codeIn K cdv qual=ac)(k:ga K (.ref f)=ac):Fun K x qual st f (iY x qual (ka st) (fN st) (au st) .none kV doc pm an cdv ct):=⟨⟨oc,od,kV,doc,pm,an,cdv,ct,osl,rfl,l,c⟩,k⟩
structure Df(K:aQ)(mg:MGT)(x:Str)(st:Stmt)(ps:LSt)(e:Addr×cO):Prop where
 F:Fun K x x st e.1 e.2
 b:dS K e.2 ps []
 g:mg x=aa (.ref e.1)
structure Dm(K:aQ)(V5:Addr)(x q:Str)(st:Stmt)(ps:LSt)(e:Addr×cO):Prop where
 F:Fun K x q st e.1 e.2
 b:dS K e.2 ps []
 m:qu K V5 x e.1
structure Pk(P:b9)(w:World)(K:aQ)(mg:MGT)(base:Heap)(CX:CXT)(k:Nat)(x:Str)(e:Addr×cO)(ps:LSt)(sp:Sp):Prop where
 ok:cr P w K mg base CX k e.1 e.2 ps sp
 g:mg x=aa (.ref e.1)
 kp:ga K (.ref e.1)=ac
 b:dS K e.2 ps []
structure Pm(P:b9)(w:World)(K:aQ)(mg:MGT)(base:Heap)(CX:CXT)(k:Nat)(V5:Addr)(x:Str)(e:Addr×cO)(ps:LSt)(sp:Sp):Prop where
 ok:cr P w K mg base CX k e.1 e.2 ps sp
 c:Cls K V5
 m:qu K V5 x e.1
 b:dS K e.2 ps []
variable{e:Addr×cO}
def Df.pk{k:Nat}(V4:Df K mg x st ps e)(o:cr P w K mg base CX k e.1 e.2 ps sp):Pk P w K mg base CX k x e ps sp:=⟨o,V4.g,V4.F.kp,V4.b⟩
variable{q:Str}{V5:Addr}
def Dm.pk{k:Nat}(V4:Dm K V5 x q st ps e)(c:Cls K V5)(o:cr P w K mg base CX k e.1 e.2 ps sp):Pm P w K mg base CX k V5 x e ps sp:=⟨o,c,V4.m,V4.b⟩
structure Dq(K:aQ)(x:Str)(st:Stmt)(f:Addr)(fd:cO):Prop where
 a:dY K cz x=aa (aa (.ref f))
 F:Fun K x x st f fd
structure Dp(K:aQ)(V5:Addr)(x q:Str)(st:Stmt)(f:Addr)(fd:cO):Prop where
 a:cj K (.ref V5) x=aa (aa (.ref f))
 i:W.isFn K (.ref f)=ac
 F:Fun K x q st f fd
nonrec abbrev tN(x q:Str)(st:Stmt)(ps:LSt):Prop:=∀(kV doc pm:Value) (an:Option Addr) (cdv ct:Value) (us:LVa),us.length=ps.length->bindArgs (iY x q (ka st) (fN st) (au st) .none kV doc pm an cdv ct) ⟨us,[]⟩=pure (ps.zip us)
def Dq.mk2(d:Dq K x st f fd)(X:K.In h)(G:h.Ns cz mg)(b:tN x x st ps:=by walk_at "bd"):Df K mg x st ps (f,fd):=⟨d.F,d.F.binds b,j8 X G d.a⟩
def Dp.mk2(d:Dp K V5 x q st f fd)(b:tN x q st ps:=by walk_at "bd"):Dm K V5 x q st ps (f,fd):=⟨d.F,d.F.binds b,⟨d.a,d.i,d.F.kp⟩⟩
def Dq.bt{p:Str}(d:Dq K x st f fd)(b:tN x x st [p])(s:ah)(v:Value):BindsTo s fd ⟨[v],[]⟩ [(p,v)]:=by
 obtain⟨oc,od,kV,doc,pm,an,cdv,ct,osl,rfl,c,a⟩:=d.F.ex;exact .of_eq (b kV doc pm an cdv ct [v] rfl)
variable{n:Nat}
def Ez(h:n<=1000):n<aS:=l8 h (by decide)
variable{pos:Pos}
def pv(i:Nat)(b:X.N[i]?=aa x:=by rfl)(hv:Vis X.env.scope x:=by first |exact bX rfl |exact bz (bX rfl) |exact bz (bz rfl))(hd:NDb x:=by decide)
 (a:NCd x:=by decide):PE X (.Name x pos) (cQ i):=mx b hv hd a
abbrev aq(H H':Hp):Prop:=∀b o,H b=aa o->H' b=aa o
def aq.refl(H:Hp):aq H H:=λ_ _ h=>h
variable{H H1 H2:Hp}
def aq.trans(a:aq H H1)(b:aq H1 H2):aq H H2:=λc o h=>b c o (a c o h)
variable{H':Hp}{l:Addr}
def aq.free(e:aq H H')(h:H' l=Option.none):H l=Option.none:=by
 cases q:H l with
 |none=>rfl
 |some o=>
  rw[e l o q]at h
  nomatch h
def aq.seq{C:LVv}(e:aq H H')(h:SqL K H a C):SqL K H' a C:=by
 rcases h with(h |⟨o,h⟩) |h
 .exact .inl (.inl (e _ _ h))
 .exact .inl (.inr ⟨o,e _ _ h⟩)
 .exact .inr h
section
variable{κ:Type}[DecidableEq κ]
abbrev cI(kvs:List (κ×V))(k:κ):Option V:=(kvs.find? λa=>decide (a.1=k)).map (·.2)
abbrev dH(kvs:List (κ×V))(k:κ)(v:V):List (κ×V):=
 if (kvs.any λa=>decide (a.1=k))=ac then kvs.map (λa=>if a.1=k then (a.1,v) else a) else kvs++[(k,v)]
def qx{p:κ×V}{r:List (κ×V)}{k:κ}(e:p.1=k):cI (p::r) k=aa p.2:=by simp[cI,find?_cons,e]
def ow{p:κ×V}{r:List (κ×V)}{k:κ}(e:¬p.1=k):cI (p::r) k=cI r k:=by simp[cI,find?_cons,e]
def tO(k:κ):∀kvs:List (κ×V),(kvs.any λa=>decide (a.1=k))=(cI kvs k).isSome
 | []=>rfl
 |p::r=>by
  rw[gq]
  by_cases e:p.1=k
  .simp only[qx e,decide_eq_true e,Bool.true_or,Option.isSome_some]
  .rw[ow e,decide_eq_false e,Bool.false_or];exact tO k r
def xE(kvs:List (κ×V))(k:κ)(v:V):(dH kvs k v).length<=kvs.length+1:=by
 unfold dH;split
 .rw[ay];lia
 .simp only[aR,cy,length_nil];lia
def eN.isSome_eq{o:Option V}{u:Option Value}(r:eN o u):o.isSome=u.isSome:=by
 cases o with
 |none=>cases u with
  |none=>rfl
  |some _=>exact(r).elim
 |some _=>cases u with
  |none=>exact(r).elim
  |some _=>rfl
def eN.getD{o:Option V}{u:Option Value}{d:V}{d':Value}(r:eN o u)(rd:aA d d'):aA (o.getD d) (u.getD d'):=by
 cases o with
 |none=>cases u with
  |none=>exact rd
  |some _=>exact(r).elim
 |some _=>cases u with
  |none=>exact(r).elim
  |some _=>exact r
def KV.val{kvs:List (κ×V)}{vs:List (κ×Value)}(r:KV kvs vs)(k:κ):eN (cI kvs k) (valueAt vs k):=by
 induction r with
 |nil=>exact iq
 | @cons p q ps a h t d=>
  obtain⟨c,h2⟩:=h
  by_cases e:p.1=k
  .have e':=c.symm.trans e;have b:valueAt (q::a) k=aa q.2:=by simp[valueAt,e']
   rw[qx e,b];exact h2
  .have e':¬q.1=k:=λz=>e (c.trans z);have b:valueAt (q::a) k=valueAt a k:=by simp[valueAt,e']
   rw[ow e,b];exact d
def KV.any{kvs:List (κ×V)}{vs:List (κ×Value)}(r:KV kvs vs)(k:κ):(kvs.any λa=>decide (a.1=k))=vs.any λa=>decide (a.1=k):=by
 induction r with
 |nil=>rfl
 |cons h t b=>rw[gq,gq,b,h.1]
def KV.repl{kvs:List (κ×V)}{vs:List (κ×Value)}(r:KV kvs vs)(k:κ){y:V}{u:Value}(d:aA y u):
  KV (kvs.map λa=>if a.1=k then (a.1,y) else a) (vs.map λa=>if a.1=k then (a.1,u) else a):=by
 induction r with
 |nil=>exact .nil
 | @cons p q ps f h t c=>
  rw[bF,bF];refine .cons ?_ c;obtain⟨b,h2⟩:=h
  by_cases e:p.1=k
  .rw[if_pos e,if_pos (b.symm.trans e)];exact⟨b,d⟩
  .rw[if_neg e,if_neg (λz=>e (b.trans z))];exact⟨b,h2⟩
def KV.put{kvs:List (κ×V)}{vs:List (κ×Value)}(r:KV kvs vs)(k:κ){y:V}{u:Value}(a:aA y u):KV (dH kvs k y) (stored vs k u):=by
 unfold dH stored;rw[r.any k]
 by_cases e:(vs.any λb=>decide (b.1=k))=ac
 .rw[if_pos e,if_pos e];exact r.repl k a
 .rw[if_neg e,if_neg e];exact g6.snoc r ⟨rfl,a⟩
def KV.length{kvs:List (κ×V)}{vs:List (κ×Value)}(r:KV kvs vs):kvs.length=vs.length:=oj r
end
variable{u:Value}
def tP{k:Key}(r:aA (kV k) u):(lg P w).is k u=ac:=by
 cases k with
 |inl i=>obtain⟨t,e⟩:=(r);subst e;exact JQ P w i t
 |inr x=>obtain⟨t,e⟩:=(r);subst e;exact JR P w x t
nonrec abbrev KT(H:Hp):List (List Key×V)->List (List Key×Addr×Value)->Prop:=g6 λp q=>p.1=q.1/\fm H q.2.1 p.1/\aA p.2 q.2.2
variable{kvs:List (List Key×V)}{C:List (List Key×Addr×Value)}
def KT.val(r:KT H kvs C)(k:List Key):eN (cI kvs k) ((atKey C k).map (·.2)):=by
 induction r with
 |nil=>exact iq
 | @cons p q ps a h t d=>
  obtain⟨c,_,h2⟩:=h
  by_cases e:p.1=k
  .have e':=c.symm.trans e;have b:atKey (q::a) k=aa q.2:=by simp[atKey,e']
   rw[qx e,b];exact h2
  .have e':¬q.1=k:=λz=>e (c.trans z);have b:atKey (q::a) k=atKey a k:=by simp[atKey,e']
   rw[ow e,b];exact d
variable{y:V}
def KT.repl(r:KT H kvs C)(k:List Key)(f:aA y u):
  KT H (kvs.map λb=>if b.1=k then (b.1,y) else b) (C.map (putAt k u)):=by
 induction r with
 |nil=>exact .nil
 | @cons p q ps g h t d=>
  rw[bF,bF];refine .cons ?_ d;obtain⟨a,h2,c⟩:=h;unfold putAt
  by_cases e:p.1=k
  .rw[if_pos e,if_pos (a.symm.trans e)];exact⟨a,h2,f⟩
  .rw[if_neg e,if_neg (λz=>e (a.trans z))];exact⟨a,h2,c⟩
variable{b:Addr}
def KT.put(r:KT H kvs C)(k:List Key)(c:fm H b k)(a:aA y u):
  KT H (dH kvs k y) (storedH C k b u):=by
 have e:(kvs.any λd=>decide (d.1=k))=(atKey C k).isSome:=by
  rw[tO,(r.val k).isSome_eq,Option.isSome_map]
 unfold dH storedH;rw[e]
 by_cases q:(atKey C k).isSome=ac
 .rw[if_pos q,if_pos q];exact r.repl k a
 .rw[if_neg q,if_neg q];exact g6.snoc r ⟨rfl,c,a⟩
def KT.keeps(r:KT H kvs C)(c:∀b a,H b=aa (.tup a)->H' b=aa (.tup a)):KT H' kvs C:=
 g6.mapP r λ_ _ z=>⟨z.1,z.2.1.up c,z.2.2⟩
def EA{u:HO}(ok:HOk P w H h)(e:Rd H a u):dR P w H h a u:=e.ok ok
def ox{kvs:List (Key×V)}(ok:HOk P w H h)(e:Rd H a (.dK kvs)):kvs.length<=aS/\(a==gY)=af/\∃vs,KV kvs vs/\h.DictOf (lg P w) a vs:=
 show dR P w H h a (.dK kvs)from EA ok e
def EB{kvs:List (Key×V)}(ok:HOk P w H h)(e:H a=aa (.dK kvs)):kvs.length<=aS/\(a==gY)=af/\∃vs,KV kvs vs/\h.DictOf (lg P w) a vs:=ox ok (.inl e)
variable{ks:List Key}
def oA(ok:HOk P w H h)(e:fm H a ks):(tupleKind (mw P w)).is h ks a:=by
 obtain⟨vs,e,d⟩:=e;obtain⟨_,B,r,o,b,h2,n,c⟩:=(show dR P w H h a (.tup vs)from ok a _ e);exact⟨o,B.toArray,n,b,h2,c,by simpa using DJ d r⟩
def oB(ok:HOk P w H h)(e:Rd H a (.dT kvs)):kvs.length<=aS/\(a==gY)=af /\
  ∃C,KT H kvs C/\h.DictOfH (tupleKind (mw P w)) a C:=by
 obtain⟨z,y,C,r,o,es,d,f,h2,g,i,j⟩:=(EA ok e);refine⟨z,y,C,r,o,es,d,f,h2,g,i,λx b=>?_,j⟩
 have all:∀{l:List _} {m:List _},KT H l m->∀x∈m,(tupleKind (mw P w)).is h x.1 x.2.1:=by
  intro l m q
  induction q with
  |nil=>intro x b;exact nomatch b
  | @cons p q ps u c t n=>
   intro x b
   rcases bh.mp b with e |b
   .subst e;exact oA ok (by rw[<- c.1];exact c.2.1)
   .exact n x b
 exact all r x b
def EC(ok:HOk P w H h)(e:H a=aa (.dT kvs)):kvs.length<=aS/\(a==gY)=af /\
  ∃C,KT H kvs C/\h.DictOfH (tupleKind (mw P w)) a C:=oB ok (.inl e)
abbrev fO(H:Hp)(a:Addr)(y:V)(r:Option V):Prop:=
 (∃kvs k,Rd H a (.dK kvs)/\y=kV k/\r=cI kvs k)\/∃kvs k b,Rd H a (.dT kvs)/\y=.ref b/\fm H b k/\r=cI kvs k
abbrev li(H:Hp)(a:Addr)(y v:V)(H':Hp):Prop:=
 (∃kvs k,H a=aa (.dK kvs)/\y=kV k/\kvs.length<aS/\H'=upd H a (.dK (dH kvs k v))) \/
 ∃kvs k b,H a=aa (.dT kvs)/\y=.ref b/\fm H b k/\kvs.length<aS/\H'=upd H a (.dT (dH kvs k v))
def fO.k{kvs:List (Key×V)}{k:Key}(e:H a=aa (.dK kvs)):fO H a (kV k) (cI kvs k):=.inl ⟨kvs,k,.inl e,rfl,rfl⟩
def fO.t{k:List Key}(e:H a=aa (.dT kvs))(c:fm H b k):fO H a (.ref b) (cI kvs k):=.inr ⟨kvs,k,b,.inl e,rfl,c,rfl⟩
variable{v:V}
def li.k{kvs:List (Key×V)}{k:Key}(e:H a=aa (.dK kvs))(b:kvs.length<aS):li H a (kV k) v (upd H a (.dK (dH kvs k v))):=.inl ⟨kvs,k,e,rfl,b,rfl⟩
def li.t{k:List Key}(e:H a=aa (.dT kvs))(c:fm H b k)(d:kvs.length<aS):
  li H a (.ref b) v (upd H a (.dT (dH kvs k v))):=.inr ⟨kvs,k,b,e,rfl,c,d,rfl⟩
variable{U:PNS}{E:St}
def Inv.big{s:ah}(I:Inv X U E H s):gY<s.heap.objs.size:=by
 exact nW (by decide) ((I.mod.glob.keeps I.bk).lt)
variable{A:b6}{V4 Q:PRS}
def Mj{s:ah}(G:A.units+1<cLine)(I:Inv X U E H s)(g:fO H a y (aa v))(q:aA y u)(h:∀f r,Inv X U E H r->aA v f->Q f r):
  wpAny @2 A (getItem (.ref a) u) Q V4 s:=by
 rcases g with⟨kvs,k,e,j,l⟩ |⟨kvs,k,b,e,j,x,l⟩
 .subst j;obtain⟨z,hd,vs,c,i⟩:=ox I.hok e;obtain⟨f,n,d⟩:=eN.some_of (by rw[l];exact c.val k);exact wpAny_getItem_of (tP q) i.mapOf n (h f _ (I.tok _) d)
 .subst j;cases (q);obtain⟨z,hd,C,c,i⟩:=oB I.hok e;obtain⟨f,n,d⟩:=eN.some_of (by rw[l];exact c.val k);obtain⟨p,B,m⟩:=Option.map_eq_some_iff.mp n;refine wpAny_getItem_heap (qi G) (oA I.hok x) i B ?_;rw[m];exact h f _ (I.tok _) d
def Ml{s:ah}{o:Option V}(n:A.units+1<cLine)(I:Inv X U E H s)(g:fO H a y o)(i:aA y u)(h:∀j,Inv X U E H j->Q (.bool o.isSome) j):
  wpAny @2 A (cV .In u (.ref a)) Q V4 s:=by
 rcases g with⟨kvs,k,e,f,l⟩ |⟨kvs,k,b,e,f,m,l⟩
 .subst f;obtain⟨z,hd,vs,c,d⟩:=ox I.hok e;refine wpAny_in_of (tP i) hd d.mapOf ?_;rw[<- (c.val k).isSome_eq,<- l];exact h _ (I.tok _)
 .subst f;cases (i);obtain⟨z,hd,C,c,d⟩:=oB I.hok e;refine wpAny_in_heap (qi n) (oA I.hok m) hd d ?_;have q:=(c.val k).isSome_eq;rw[Option.isSome_map]at q;rw[<- q,<- l];exact h _ (I.tok _)
variable{h':Heap}{t':Nat}
section
variable{s:ah}
def xF{c:HO}(I:Inv X U E H s)(g:Mut (H a))(f:f9 a s.heap h')(e:∃q,h'.get? a=aa q)(new:dR X.prog X.w (upd H a c) h' a c):
  Inv X U E (upd H a c) {s with heap:=h',toks:=t'}:=
 I.write g (.inl rfl) (λb q d z=>(f.2 b d).trans z) e new
end
def Mm{kvs:List (Key×V)}{vs:List (Key×Value)}(z:kvs.length<=aS)(hd:(a==gY)=af)(b:KV kvs vs)(c:h'.DictOf (lg P w) a vs):
  dR P w H' h' a (.dK kvs):=⟨z,hd,vs,b,c⟩
variable{r:Value}
def Mn{s:ah}{Q:Unit->ah->Prop}(hu:A.units+1<cLine)(I:Inv X U E H s)(g:li H a y v H')(J:aA y u)(rv:aA v r)(h:∀L,Inv X U E H' L->Q () L):
  wpAny @2 A (setItem (.ref a) u r) Q V4 s:=by
 rcases g with⟨kvs,k,e,n,l,m⟩ |⟨kvs,k,b,e,n,B,l,m⟩
 .subst n m;obtain⟨z,hd,vs,d,j⟩:=EB I.hok e;have hz:vs.length<=aS:=by rw[<- d.length];exact z
  have p:(dH kvs k v).length<=aS:=by have:=xE kvs k v;lia
  refine wpAny_setItem_pairs (tP J) j λh' f x=>h _ ?_;have he:∃q,h'.get? a=aa q:=let ⟨q,_,_,i,_⟩:=f;⟨q,i⟩;exact xF I (by rw[e];exact iq) x he (Mm p hd (d.put k rv) f)
 .subst n m;cases (J);obtain⟨z,hd,C,d,j⟩:=EC I.hok e;have hz:C.length<=aS:=by rw[<- oj d];exact z
  have p:(dH kvs k v).length<=aS:=by have:=xE kvs k v;lia
  refine wpAny_setItem_heap (qi hu) (oA I.hok B) j λh' f x=>h _ ?_;obtain⟨q,es,M,i,h2,N,T,_,Y⟩:=f;refine xF I (by rw[e];exact iq) x ⟨q,i⟩ ⟨p,hd,_,(d.put k B rv).keeps λc ys G=>?_,q,es,M,i,h2,N,T,Y⟩;rw[aK (DK G e @3)];exact G
abbrev qy(i:Expr):Prop:=∀b a,subscripted i af b a=operate [b,a] (getItem b a)
variable{prog:b9}{env:Env}{value:Expr}
def Mo{s:ah}{a:Expr}{T id:String}
 (l:mh (.type T) "__getitem__"=pure (aa (.builtin id)))(m:qy a)
 (h:wpAny @12 A (eval value env) (λo d=>wpAny @12 A (eval a env) (λi b=>b.TypeIs o T/\wpAny @12 A (getItem o i) Q V4 b) V4 d) V4 s):
  wpAny @12 A (eval (.Subscript value a pos) env) Q V4 s:=by
 refine Subscript_ (fI h (λo d f=>fI f (λi b c=>?_) λ_ _ x=>x) λ_ _ x=>x);obtain⟨j,c⟩:=c;refine aj ?_;refine aj (sV j l ?_)
 have fin:wpAny @12 A (subscripted a af o i) (λr e=>wpAny @12 A (letTemporaryGo value o r >>= λ_=>pure r) Q V4 e) V4 b:=by
  rw[m o i];exact wpAny_operating (fI c (λr e g=>aj (wpAny_letTemporaryGo (aC g))) λ_ _ x=>x)
 first
  |exact aC (aj fin)
  |exact aj _
  |exact aj fin
def Mp{s:ah}{o:Option V}(I:Inv X U E H s)(g:fO H a y o):s.TypeIs (.ref a) "dict":=by
 rcases g with⟨kvs,k,e,_,_⟩ |⟨kvs,k,b,e,_,_,_⟩
 .obtain⟨_,_,vs,_,c⟩:=ox I.hok e;exact c.typeIs
 .obtain⟨_,_,C,_,c⟩:=oB I.hok e;exact c.typeIs
abbrev Mq(b ty:TE):TE:=λE H Q=>b E H λx H1=>ty E H1 λy H2=>∃a v,x=.ref a/\fO H2 a y (aa v)/\Q v H2
abbrev Mr(ty b:TE):TE:=λE H Q=>ty E H λy H1=>b E H1 λx H2=>∃a o,x=.ref a/\fO H2 a y o/\Q (.bl o.isSome) H2
abbrev xG(d ty e:TE):TS:=λD E H=>e E H λv H1=>d E H1 λx H2=>ty E H2 λy c=>∃a b,x=.ref a/\li c a y v b/\D.nx E b
variable{i:Expr}{td:TE}
def xH{o:Expr}{ty:TE}(l:X.A.units+1<cLine)(f:PE X o td)(hi:PE X i ty)(j:qy i):PE X (.Subscript o i pos) (Mq td ty):=by
 intro U s E H Q I h;refine Mo PySem.F.slot_dict_getitem.lookup j (thn (f U s E H _ I h) λu s1 ⟨x,H1,d,q,m⟩=>thn (hi U s1 E H1 _ d m) λw s2 p=>?_);obtain⟨y,H2,c,r,a,v,ex,g,n⟩:=p;subst ex;obtain rfl:u=eM a:=q;exact⟨Mp c g,Mj l c g r λB z e b=>⟨v,H2,e,b,n⟩⟩
def Ms{o:Expr}{ty:TE}(f:X.A.units+1<cLine)(hi:PE X i ty)(e:PE X o td):PC X .In i o (Mr ty td):=by
 intro U s E H Q I h;refine thn (hi U s E H _ I h) λr s1 ⟨y,H1,b,q,l⟩=>thn (e U s1 E H1 _ b l) λu s2 n=>?_;obtain⟨x,H2,c,p,a,j,ex,g,m⟩:=n;subst ex;obtain rfl:u=eM a:=p;exact Ml f c g q λv d=>⟨.bl j.isSome,H2,d,rfl,m⟩
variable{b4:Pos}{tv:TE}
def ED{o:Expr}{ty:TE}(m:X.A.units+1<cLine)(j:PE X o td)(hi:PE X i ty)(hv:PE X value tv)(l:f7 value (aa (.Subscript o i b4)) pos.line X.env=pure af):
  PS X (.Assign [.Subscript o i b4] value pos) (xG td ty tv):=by
 intro U s E H D I h;refine wpAny_Assign_Subscript (thn (hv U s E H _ I h) λr s1 ⟨v,H1,c,rv,n⟩=>thn (j U s1 E H1 _ c n) λu s2 ⟨x,H2,d,z,p⟩=>thn (hi U s2 E H2 _ d p) λG J w=>?_) l;obtain⟨y,C,e,B,a,b,ex,g,q⟩:=w;subst ex;obtain rfl:u=eM a:=z;exact Mn m e g B rv λL f=>⟨E,b,f,q⟩
def Mt(h:Heap)(a:gY<h.objs.size):dR P w H (h.push {cls:=.type "dict",data:=.dict #[]}) h.objs.size (.dK []):=
 ⟨cg _,beq_eq_false_iff_ne.mpr (eG (bW a)),[],.nil,Heap.DictOf.new h⟩
def Mu(h:Heap)(a:gY<h.objs.size):dR P w H (h.push {cls:=.type "dict",data:=.dict #[]}) h.objs.size (.dT []):=
 ⟨cg _,beq_eq_false_iff_ne.mpr (eG (bW a)),[],.nil,_,#[],0,cP _ rfl,⟨rfl,rfl,rfl⟩,rfl,rfl,ij⟩
abbrev EE:TE:=λ_ H Q=>∀p,H p=ab->Q (.ref p) (upd H p (.dK []))
abbrev Mv:TE:=λ_ H Q=>∀p,H p=ab->Q (.ref p) (upd H p (.dT []))
def Mw:PE X (.Dict [] [] pos) EE:=λU s E H Q I h=>
 wpAny_Dict_empty ⟨.ref s.heap.objs.size,_,I.laid (λ_ _ q=>bw _ q) (aM _) (Mt s.heap I.big),rfl,h _ (I.hok.fresh (aM _))⟩
def Mx:PE X (.Dict [] [] pos) Mv:=λU s E H Q I h=>
 wpAny_Dict_empty ⟨.ref s.heap.objs.size,_,I.laid (λ_ _ q=>bw _ q) (aM _) (Mu s.heap I.big),rfl,h _ (I.hok.fresh (aM _))⟩
structure M2(X:Cx)(o:Expr)(m:Str)(apos:Pos)(e f:Expr)(cpos:Pos):Prop where
 base:n9 o m X.env (eval o X.env)=eval o X.env
 few : ((ca cpos (aN [e,f] X.env)).all (λx=>!x.1) && (io cpos (il [] X.env)).all (λx=>x.1.isSome)
  && decide (([e,f]:LEx).length+([]:List Keyword).length+(if ([]:List Keyword).isEmpty then 0 else 1)<30))=ac
 line:(apos.endLine==cpos.line)=ac
 trees:ca cpos (aN [e,f] X.env)=[(af,eval e X.env),(af,eval f X.env)]
abbrev IsD(H:Hp)(a:Addr):Prop:=(∃kvs,Rd H a (.dK kvs))\/∃kvs,Rd H a (.dT kvs)
def EF{s:ah}(I:Inv X U E H s)(d:IsD H a):
  s.TypeIs (.ref a) "dict" /\ (∀b,eM a=.ref b->∃c,s.heap.get? b=aa c/\c.dict=ab)/\(a==gY)=af:=by
 rcases d with⟨kvs,e⟩ |⟨kvs,e⟩
 .obtain⟨_,hd,vs,_,f⟩:=ox I.hok e;refine⟨f.typeIs,λb q=>?_,hd⟩;cases q;obtain⟨c,_,_,g,h2,_⟩:=f;exact⟨c,g,h2.2.1⟩
 .obtain⟨_,hd,C,_,f⟩:=oB I.hok e;refine⟨f.typeIs,λb q=>?_,hd⟩;cases q;obtain⟨c,_,_,g,h2,_⟩:=f;exact⟨c,g,h2.2.1⟩
variable{d:V}
def My{s:ah}{o:Option V}(q:A.units+1<cLine)(I:Inv X U E H s)(g:fO H a y o)(j:aA y u)(rd:aA d r)(h:∀n m,Inv X U E H m->aA (o.getD d) n->Q n m):
  wpAny @2 A (call (.builtin "dict.get") [.ref a,u,r]) Q V4 s:=by
 rcases g with⟨kvs,k,e,i,l⟩ |⟨kvs,k,b,e,i,p,l⟩
 .subst i;obtain⟨z,hd,vs,c,f⟩:=ox I.hok e;refine call_meetsIn wN f.typeIs PySem.F.entry_dict_get (PySem.F.args_dict_get_3 _ _ _) (meets_dict_get_default _ a (tP j) hd r) ⟨_,f.mapOf,h _ _ (I.tok _) ?_⟩;rw[l];exact(c.val k).getD rd
 .subst i;cases (j);obtain⟨z,hd,C,c,f⟩:=oB I.hok e;refine call_meetsIn wN f.typeIs PySem.F.entry_dict_get (PySem.F.args_dict_get_3 _ _ _) (meetsH_dict_get_default _ a b hd r) ⟨qi q,k,C,oA I.hok p,f,h _ _ (I.tok _) ?_⟩;rw[l];exact(c.val k).getD rd
abbrev Mz(td ty c:TE):TE:=λE H Q=>td E H λx H1=>∃a,x=.ref a/\IsD H1 a/\ty E H1 λy H2=>c E H2 λz b=>∃o,fO b a y o/\Q (o.getD z) b
variable{e f:Expr}{apos cpos:Pos}{tx:TE}
def xI{o:Expr}{ty:TE}(v:X.A.units+1<cLine)(r:PE X o td)(p:PE X e ty)(q:PE X f tx)(m:M2 X o "get" apos e f cpos):PE X (.Call (.Attribute o "get" apos) [e,f] [] cpos) (Mz td ty tx):=by
 intro U s E H Q I h;refine wpAny_Call_method m.base m.few m.line PySem.F.plainAttrs_dict wN PySem.F.type_dict_get (thn (r U s E H _ I h) λu s1 G=>?_);obtain⟨x,H1,c,J,a,ex,d,w⟩:=G;subst ex;obtain rfl:u=eM a:=J;obtain⟨t1,N,_⟩:=EF c d;refine⟨t1,N,?_⟩;rw[m.trees]
 refine wF rfl (wG (iV (thn (p U s1 E H1 _ c w) λY s2 ⟨y,H2,j,L,B⟩ =>
  iV (thn (q U s2 E H2 _ j B) λT s3 ⟨z,i,l,M,ov,g,C⟩=>wH ?_))))
 exact My v l g L M λw' s4 n b=>⟨_,i,n,b,C⟩
section
variable{κ:Type}[DecidableEq κ]
end
end L2
set_option maxHeartbeats 4000000
namespace L2
open List
open PySem
def xJ{env:Env}(f:(Str×f8)->List (Str×Addr)->Sem (ForInStep (List (Str×Addr))))
 (i:∀n k r,k≠fL->f (n,k) r=pure (.yield r))
 (h2:∀n r c,env.cells.lookup n=aa c->f (n,.free) r=pure (.yield ((n,c)::r))):
  ∀(l:List (Str×f8)) (a:List (Str×Addr)),(∀x∈l,x.2=.free->∃c,env.cells.lookup x.1=aa c) ->
   (∀x c,a.lookup x=aa c->env.cells.lookup x=aa c) ->
   ∃cl,forIn l a f=(pure cl:Sem _)/\(∀x c,cl.lookup x=aa c->env.cells.lookup x=aa c) /\
    (∀x,((∃c,a.lookup x=aa c)\/(x,fL)∈l)->∃c,cl.lookup x=aa c)
 | [],a,_,ha=>⟨a,rfl,ha,λx d=>d.elim id @3⟩
 |(n,k)::l,a,hl,ha=>by
  have b:=λx d=>hl x (bq _ d)
  by_cases u:k=.free
  .subst u;obtain⟨c,p⟩:=hl _ aF rfl;have q:=p
   have h:∀x g,((n,c)::a).lookup x=aa g->env.cells.lookup x=aa g:=λx g d=>by
    grind
   obtain⟨cl,e,j,m⟩:=xJ f i h2 l _ b h
   grind
  .obtain⟨cl,e,j,m⟩:=xJ f i h2 l a b ha
   grind
variable{scope:Scope}{env:Env}
def EG(h:∀x∈scope.names,x.2=.free->∃c,env.cells.lookup x.1=aa c):
  ∃cl,closureFor scope env=pure cl/\(∀x c,cl.lookup x=aa c->env.cells.lookup x=aa c)/\(∀x,(x,fL)∈scope.names->∃c,cl.lookup x=aa c):=by
 obtain ⟨cl,e,b,d⟩:=xJ (λx r=>(match x with
   |(name,kind)=>if (kind==fL)=ac then (do let a <- cellOf env name;pure (nM ((name,a)::r))) else (pure (nM r):Sem _)))
  (λn k r g=>by
   have:(k==fL)=af:=by simpa using g
   simp only[this,Bool.false_eq_true,if_false])
  (λn r c f=>by
   simp only[beq_self_eq_true,if_true,cellOf,f,pure_bind])
  scope.names [] h (λx c z=>by nomatch z)
 refine⟨cl,?_,b,λx i=>d x (.inr i)⟩;refine(congrArg _ ?_).trans ((congrArg (λt=>t >>= pure) e).trans (pure_bind _ _));rfl
nonrec abbrev E00:Value->ah->Prop:=λ_ _=>False
variable{prog:b9}{w:World}{A:b6}{R:Result->ah->Prop}{c5 iter:Expr}{c3:LEx}{pos:Pos}
section
variable{s:ah}
def MA{a:Expr}{it u:Value}(I:Nat->ah->Prop)
 (C:∀ n s,I n s->wpAny @12 A (g4 it) (λr d=>match r with
   |none=>R (.ok .next) d
   | some v=>wpAny @12 A (letOwnedTupleGo a it v) (λ_ e=>wpAny @12 A (assign a env v) (λ_ j =>
     wpAny @12 A (forIn c3 ac λc r=>if r=ac then do let ok <- isTrue c env (eval c env); pure (nM ok) else pure (nM r)) (λok f =>
      if ok=ac then wpAny @12 A (eval c5 env) (λx l =>
       wpAny @12 A (call (.builtin "list.append") [u,x]) (λ_ p=>∃m,m<n/\I m p) (notedBy @12 A env λx b=>R (.error x) b) l) (notedBy @12 A env λx b=>R (.error x) b) f
      else ∃m,m<n/\I m f) (notedBy @12 A env λx b=>R (.error x) b) j) (notedBy @12 A env λx b=>R (.error x) b) e) (notedBy @12 A env λx b=>R (.error x) b) d) (notedBy @12 A env λx b=>R (.error x) b) s)
 (n:Nat)(h:I n s):
  gx @12 A (.compLoop (.ListComp c5 [⟨a,iter,c3,0⟩] scope pos) 0 it u env) R s:=by
 refine codeAny_loop rfl I (λn s E=>?_) n h;refine wpAny_noted ?_;refine aj (wpAny_standAt (aj (fI (C n s E) (λr d g=>?_) λ_ _ h'=>h')))
 cases r with
 |none=>exact aC g
 |some v=>
  refine aj (fI g (λ_ e q=>?_) λ_ _ h'=>h');refine aj (fI q (λ_ j y=>aj (fI y (λok f i=>?_) λ_ _ h'=>h')) λ_ _ h'=>h')
  cases ok with
  |false=>exact aC ⟨rfl,i⟩
  |true=>
   exact aj (aj (fI i (λx l z=>aj (fI z (λ_ p B=>aC (aC ⟨rfl,B⟩)) λ_ _ h'=>h')) λ_ _ h'=>h'))
end
open PySem.Spec PyProof.Rows
nonrec def Cx.comp(X:Cx)(scope:Scope)(Nc:LSt)(cl:List (Str×Addr))(V5:Addr)(ex:LAd)(b:ah)(a:Hp):Cx:=
 {X with N:=Nc,s₀:=b,H₀:=a,env:=compEnvC scope cl V5 X.env,outer:=X.stack,ex:=ex,fn:=λ_=>af,pn:=[],xe:=E00}
def xK{env:Env}:∀{names:List (Str×f8)} {x:Str},names.lookup x=aa .free ->
  (names.map λ(n,k)=>if (k==fL && env.scope.kind==.function && env.kindOf n==aa .cell) then (n,ml) else (n,k)).lookup x=aa .cell \/
  (names.map λ(n,k)=>if (k==fL && env.scope.kind==.function && env.kindOf n==aa .cell) then (n,ml) else (n,k)).lookup x=aa .free
 | [],_,h=>by simp at h
 |(n,k)::r,x,h=>by
  have a:=@xK env r x
  grind
def xL{env:Env}{a:f8}(b:a=.cell\/a=.free):∀{names:List (Str×f8)} {x:Str},
  (names.map λ(n,k)=>if (k==fL && env.scope.kind==.function && env.kindOf n==aa .cell) then (n,ml) else (n,k)).lookup x=aa a ->
  (x,fL)∈names\/(x,ml)∈names
 | [],_,h=>by simp at h
 |(n,k)::r,x,h=>by
  have h':List.lookup x ((if _=ac then _ else _)::_)=aa a:=h
  cases c:x==n with
  |true=>
   grind
  |false=>
   have h2:(r.map λ(n,k)=>if (k==fL && env.scope.kind==.function && env.kindOf n==aa .cell) then (n,ml) else (n,k)).lookup x=aa a:=by
    grind
   rcases(@xL env a b r x) h2 with z |z
   .grind
   .grind
abbrev lq(scope:Scope)(outer:List (Str×f8))(N Nc:LSt)(k:Nat)(js:LN):Bool:=
 scope.names.all (λx=>(x.2 != .free || outer.lookup x.1==aa .cell || outer.lookup x.1==aa .free) && x.2 != .cell && (x.2 != .local || scope.names.lookup x.1==aa .local)) &&
 scope.kind==.function && Nc.length==k+js.length &&
 (bM js.length).all (λi=>match Nc[k + i]?,js[i]? with
  |some x,aa j=>N[j]?==aa x && scope.names.lookup x==aa .free
  | _,_=>af)
structure oC(scope:Scope)(outer:List (Str×f8))(N Nc:LSt)(k:Nat)(js:LN):Prop where
 free:∀x∈scope.names,x.2=.free->outer.lookup x.1=aa .cell\/outer.lookup x.1=aa .free
 nocell:∀x∈scope.names,x.2≠.cell
 loc:∀x∈scope.names,x.2=.local->scope.names.lookup x.1=aa .local
 kind:scope.kind=.function
 len:Nc.length=k+js.length
 at':∀i j,js[i]?=aa j->∃x,Nc[k+i]?=aa x/\N[j]?=aa x/\scope.names.lookup x=aa .free
variable{N Nc:LSt}{js:LN}
def oC.of{outer:List (Str×f8)}{k:Nat}(h:lq scope outer N Nc k js=ac):oC scope outer N Nc k js:=by
 unfold lq at h;rw[cL,cL,cL]at h;obtain⟨⟨⟨b,h2⟩,d⟩,c⟩:=h;rw[all_eq_true]at b c;refine⟨λx a e=>?_,λx a e=>?_,λx a e=>?_,eq_of_beq h2,eq_of_beq d,λi j e=>?_⟩
 .have:=b x a;simp only[cL,kH,bne_iff_ne,beq_iff_eq]at this
  rcases this.1.1 with(z |z) |z
  .exact absurd e z
  .exact .inl z
  .exact .inr z
 .have:=b x a;simp only[cL,bne_iff_ne]at this;exact this.1.2 e
 .have:=b x a;simp only[cL,kH,bne_iff_ne,beq_iff_eq]at this
  rcases this.2 with z |z
  .exact absurd e z
  .exact z
 .have hi:=(cU.mp e).1;have:=c i (fY.mpr hi);rw[e]at this
  cases q:Nc[k+i]? with
  |none=>simp only[q]at this;nomatch this
  |some x=>
   rw[q]at this;simp only[cL,beq_iff_eq]at this;exact⟨x,rfl,this.1,this.2⟩
abbrev i6(k:Nat)(js:LN)(E:St):St:=gW k ab++js.map λj=>(E[j]?).getD ab
abbrev PTs(X:Cx)(c3:LEx)(t:TT):Prop:=
 ∀(U:PNS) (s:ah) (E:St) (H:Hp) (Q:Bool->Hp->Prop),Inv X U E H s->t E H Q ->
  wpAny @2 X.A (forIn c3 ac λc r=>if r=ac then do let ok <- isTrue c X.env (eval c X.env);pure (nM ok) else pure (nM r)) (TP X U E Q) X.xe s
abbrev MB:TT:=λ_ H Q=>Q ac H
variable{X:Cx}
def MC:PTs X [] MB:=λ_ _ _ H _ I h=>wpAny_tests_nil ⟨H,I,h⟩
def MD{c:Expr}{t:TT}(h:PT X c t):PTs X [c] t:=λU s E H Q I q=>wpAny_tests_one (h U s E H Q I q)
abbrev xM(J:It)(g:TG)(tt:TT)(te:TE)(h:St)(j:Hp)(Q:VK):Prop:=
 ∃W:Nat->Nat->LVv->St->Hp->Prop,(∃m,W 0 m [] h j)/\∀i m c σ' H',W i m c σ' H' ->
  (J.stop i H'/\c.length<=aS/\∀D,j D=ab->H' D=ab->Q (.ref D) (upd H' D (.lst c))) \/
  (J.go i H'/\c.length<=aS/\∃ N : LVv->St->Hp->Prop,(∀ e f d,N e f d->∃ n,n < m/\W (i + 1) n e f d) /\
   ∀x d,J.yld i H' x d->g x σ' d λa p=>tt a p λb l=>if b=ac then te a l λy q=>N (c++[y]) a q else N c a l)
abbrev oF(k:Nat)(js:LN)(b:TI)(g:TG)(tt:TT)(te:TE):TE:=λE H Q=>b E H λJ a=>xM J g tt te (i6 k js E) a Q
nonrec def Cx.to(X:Cx)(pn:PNS)(xe:PRS):Cx:={X with pn:=pn,xe:=xe}
variable{Y:Cx}{xe:PRS}{U:PNS}{E:St}{H:Hp}
def EH{s:ah}(I:Inv Y U E H s):Inv {Y with xe:=xe} U E H s:=
 ⟨⟨I.ok.mod,I.ok.kind,I.ok.glob,I.ok.blt,I.ok.above,I.ok.inj,I.ok.has,I.ok.cab,I.ok.hd,I.ok.frames,I.ok.stk,I.ok.exf,I.ok.bs,I.ok.bsz,I.ok.noex,I.ok.exfs,I.ok.funs,I.ok.frf⟩,I.os,I.bare,I.base,I.loc,I.cell,I.free,I.freeC,I.pin,I.hok,I.len⟩
def EI{s:ah}(I:Inv {Y with xe:=xe} U E H s):Inv Y U E H s:=
 ⟨⟨I.ok.mod,I.ok.kind,I.ok.glob,I.ok.blt,I.ok.above,I.ok.inj,I.ok.has,I.ok.cab,I.ok.hd,I.ok.frames,I.ok.stk,I.ok.exf,I.ok.bs,I.ok.bsz,I.ok.noex,I.ok.exfs,I.ok.funs,I.ok.frf⟩,I.os,I.bare,I.base,I.loc,I.cell,I.free,I.freeC,I.pin,I.hok,I.len⟩
variable{e:Expr}{t:TE}
def PE.to0(h:PE {Y with pn:=[],xe:=E00} e t):PE {Y with pn:=[],xe:=xe} e t:=λU s E H Q I q=>
 fI (h U s E H Q (EI I) q) (λu c ⟨v,H',a,r,b⟩=>⟨v,H',EH a,r,b⟩) λ_ _ z=>z.elim
nonrec def jG(us:LVa)(n:Nat):Obj:={cls:=.type "list",data:=.seq us.toArray n}
variable{tg:Expr}{g:TG}{tt:TT}{te:TE}{H2:Hp}{s2:ah}{it:Addr}{fp:LAd}{tn:Nat->Heap->Prop}{J:It}{Q:VK}{RR:Value->Addr->Result->ah->Prop}{V4:PRS}
def ME{k:Nat}{PX:Cx->Prop}{cl:List (Str×Addr)}
 (hc:X.calm=ac)(ck:oC scope X.env.scope.names X.N Nc k js)
 (hg:∀cl V5 ex I H,PG (X.comp scope Nc cl V5 ex I H) tg g)(ht:∀cl V5 ex I H,PTs (X.comp scope Nc cl V5 ex I H) c3 tt)(he:∀cl V5 ex I H xe,PX ((X.comp scope Nc cl V5 ex I H).to [] xe)->PE ((X.comp scope Nc cl V5 ex I H).to [] xe) c5 te)
 (a1:∀x c,cl.lookup x=aa c->X.env.cells.lookup x=aa c)(a2:∀x,(x,fL)∈scope.names->∃c,cl.lookup x=aa c)
 (G:Inv X U E H2 s2)(T:j9 X.prog X.w X.K tg J fp it tn)(st2:tn 0 s2.heap)(f2:∀b∈fp,hE X U H2 b)(hW:xM J g tt te (i6 k js E) H2 Q)
 (hRR:∀(D V5:Addr) (s':ah) (H':Hp),Inv X U E H' s'->(∃m,s'.heap.Ns V5 m)->hE X U H' V5->Q (.ref D) H'->RR (.ref D) V5 (.ok .next) s')
 (hPX:∀D V5,s2.heap.objs.size=D->D<V5->(∀b∈frs X.stack,b<D)->PX ((X.comp scope Nc cl V5 fp s2 H2).to [] (notedBy @2 X.A (compEnvC scope cl V5 X.env) λx s'=>RR (.ref D) V5 (.error x) s'))):
  wpAny @2 X.A (newList []) (λc4 s₃=>wpAny @2 X.A (newFunctionEnv scope X.env.globals cl [] X.env.qual ab .none (aa X.env)) (λcenv s₄ =>
   gx @2 X.A (.compStart @5 0 (.ref it) c4 {cenv with scope:=relabel scope X.env}) (RR c4 cenv.locals) s₄) V4 s₃) V4 s2:=by
 obtain⟨W,⟨m0,w0⟩,turn⟩:=hW;refine iS (wpAny_newFunctionEnv ck.nocell (by intro y hy;simp at hy) (λh₁ B h=>?_) ck.kind);dsimp only at B h ⊢;generalize hP:s2.heap.push {cls:=.type "list",dict:=ab,data:=.seq ([]:LVa).toArray}=P at B h ⊢;generalize hD:s2.heap.objs.size=D at hP B h ⊢;have hCs:P.objs.size=D+1:=by rw[<- hP,iW,hD]
 generalize hC:P.objs.size=V5 at hCs B h ⊢;have hDC':D<V5:=by rw[hCs];exact c6 _
 have hDC:D≠V5:=bW hDC';have below:∀b o,s2.heap.get? b=aa o->b<D:=λb o e=>hD▸bx e
 have old:∀b o,s2.heap.get? b=aa o->h₁.get? b=aa o:=λb o e=>by
  have f:=below b o e;exact h.extBut b o (bW (nW f hDC')) (bw _ (hP▸bw _ e))
 have hDo:h₁.get? D=aa (jG [] 0):=h.extBut _ _ hDC (bw _ (by rw[<- hP,<- hD];exact cP _ rfl));have Hn:∀b,D<=b->H2 b=ab:=λb f=>G.hok.fresh (by lia);have fpo:∀b∈fp,b<D:=λb f=>by obtain⟨o,e,_⟩:=T.obj 0 _ st2 b f;exact below b o e
 have clo:∀x c,cl.lookup x=aa c->c<D:=λx c e=>by
  obtain⟨v,o,ho,_⟩:=G.cell x c (a1 x c e);exact below c o ho
 have stko:∀b∈frs X.stack,b<D:=λb f=>by
  obtain⟨_,o,ho,_⟩:=G.stack.mem f;exact below b o ho
 let Y:Cx:=X.comp scope Nc cl V5 fp s2 H2
 have yk:Y.Ok:=by
  refine⟨G.ok.mod,ck.kind,G.ok.glob,G.ok.blt,?_,?_,?_,?_,G.ok.hd,G.ok.frames,.inl rfl,?_,G.bs,?_,?_,?_,G.stack,G.stkFree⟩
  .show s2.heap.objs.size<=V5;lia
  .exact λx y c h1 h2=>G.ok.inj x y c (a1 x c h1) (a1 y c h2)
  .intro x hx
   have:(x,fL)∈scope.names\/(x,ml)∈scope.names:=by
    rcases hx with hx |hx
    .exact xL (.inl rfl) hx
    .exact xL (.inr rfl) hx
   rcases this with z |z
   .exact a2 x z
   .exact absurd rfl (ck.nocell _ z)
  .exact λx c z=>nomatch z
  .intro b f;refine⟨?_,λx c e=>?_⟩
   .exact bW (nW (fpo b f) hDC')
   .exact(f2 b f).2.2.2.2.1 x c (a1 x c e)
  .exact cN G.ok.bsz G.sz
  .intro b o e f
   rcases(f2 b f).2.2.2.1 with z |z
   .exact G.ok.noex b o e z
   .exact absurd (fh (bx e) (cN G.ok.bsz z)) (jz _)
  .intro b f z
   rcases bh.mp (G.stkSub b z)with e |e
   .exact(f2 b f).2.1 e
   .exact(f2 b f).2.2.1 e
 have I4:Inv Y [(D,jG [] 0)] (i6 k js E) H2 {s2 with heap:=h₁,toks:=s2.toks+([]:List (Str×Value)).length}:=by
  refine⟨yk,rfl,G.bare,Un.kept old,⟨_,B,λi x v e1 L e3=>?_⟩,λx c e=>?_,Hn V5 (by lia),λx c e=>G.freeC x c (a1 x c e),λp M=>?_,G.hok.kept old,?_⟩
  .have e1:Nc[i]?=aa x:=e1;unfold i6 at L
   have hik:k<=i:=by
    rcases Nat.lt_or_ge i k with z |z
    .rw[lV (by simpa using z),nO]at L;simp[z]at L
    .exact z
   rw[nN (by simpa using hik),cM]at L;simp only[lW]at L
   cases q:js[i-k]? with
   |none=>rw[q]at L;cases L
   |some j=>
    rw[q]at L;obtain⟨x',q1,q2,q3⟩:=ck.at' _ _ q;rw[show k+(i-k)=i by lia,e1]at q1;cases q1;have L:(E[j]?).getD ab=aa v:=dk L
    have e2':E[j]?=aa (aa v):=by
     cases z:E[j]? with
     |none=>rw[z]at L;nomatch L
     |some y=>rw[z]at L;rw[show y=aa v from L]
    have hmem:(x,fL)∈scope.names:=by
     have:∀l:List (Str×f8),l.lookup x=aa .free->(x,fL)∈l:=by
      intro l
      induction l with
      |nil=>intro z;nomatch z
      |cons a l ih=>
       intro z;obtain⟨n,kk⟩:=a;rw[qc]at z
       cases f:x==n with
       |true=>
        rw[f]at z;cases z
        rw[eq_of_beq f];exact aF
       |false=>rw[f]at z;exact bq _ (ih z)
     exact this _ q3
    have hout:X.env.kindOf x=aa .cell\/X.env.kindOf x=aa .free:=ck.free _ hmem rfl;obtain⟨m,hn,hl⟩:=G.loc
    have vis:Vis X.env.scope x:=by
     rcases hout with z |z
     .exact .inr (.inl z)
     .exact .inr (.inr z)
    obtain⟨u,r,l⟩:=hl j x v q2 e2' vis;refine⟨u,r,.inr ⟨xK q3,?_⟩⟩
    rcases l with⟨z,_⟩ |⟨_,c,hcl,hcell⟩
    .rcases hout with y |y <;> (rw[y]at z;nomatch z)
    .obtain⟨c',hc'⟩:=a2 x hmem;have:=a1 x c' hc';rw[hcl]at this;cases this;exact⟨c,hc',hcell.keeps old⟩
  .obtain⟨v,z⟩:=G.cell x c (a1 x c e);exact⟨v,z.keeps old⟩
  .have M:p∈[(D,jG [] 0)]:=(bv.mp M).elim (λz=>nomatch (show p∈([]:PNS)from z)) id;have M:=bE.mp M;subst M;refine⟨hDo,Hn D (aM _),hDC,λz=>?_,λv z=>by nomatch z⟩;exact absurd (stko D z) (jz _)
  .show(i6 k js E).length=Nc.length;rw[ck.len];simp[i6]
 have st1:=T.keep 0 _ _ st2 λb _ o e=>old b o e
 have fpY:∀{H':Hp} {p:PNS},(∀q∈p,q.1=D)->(∀b∈fp,H' b=ab)->∀b∈fp,hE Y p H' b:=λ{H' p} M hn b f=>by
  refine⟨hn b f,(yk.exf b f).1,yk.exfs b f,.inl f,λx c e=>(yk.exf b f).2 x c e,λq hq=>?_⟩;rw[M q hq];exact kO (fpo b f)
 let xe:Value->ah->Prop:=notedBy @2 X.A (compEnvC scope cl V5 X.env) λx s'=>RR (.ref D) V5 (.error x) s'
 have M:=hPX D V5 hD hDC' stko
 have loop:gx @2 X.A (.compLoop @5 0 (.ref it) (.ref D) (compEnvC scope cl V5 X.env)) (RR (.ref D) V5) {s2 with heap:=h₁,toks:=s2.toks+([]:List (Str×Value)).length}:=by
  refine MA (λn s'=>∃i ys us nn σ' H',Inv Y [(D,jG us nn)] σ' H' s'/\tn i s'.heap/\(∀b∈fp,H' b=ab)/\aG ys us/\W i n ys σ' H') ?_ m0
   ⟨0,[],[],0,i6 k js E,H2,I4,st1,λb f=>(f2 b f).1,.nil,w0⟩
  rintro n s3 ⟨i,ys,us,nn,σ3,H3,I3,st3,fr3,rv,w3⟩
  have one:∀q∈[(D,jG us nn)],q.1=D:=λq hq=>by
   have:q=(D,jG us nn):=by simpa using hq
   rw[this]
  rcases turn i n ys σ3 H3 w3 with⟨stop,hz,qn⟩ |⟨go,hz,N,hN,step⟩
  .refine thn (T.done Y rfl rfl rfl hc i _ s3 σ3 H3 _ I3 (fpY one fr3) st3 stop) λr s4 ⟨hr,I5⟩=>?_;subst hr;obtain⟨pD,nD,_,_,_⟩:=I5.pin (D,jG us nn) (by simp);have bs:=I5.base;have h2D:∀b o,H2 b=aa o->b≠D:=λb o e z=>by rw[z,Hn D (aM _)]at e;nomatch e
   have I6:Inv X U E (upd H3 D (.lst ys)) s4:=by
    refine G.call' (ch:=fp) I5.os ⟨bs.keep,bs.slot,λb o e n hx=>?_,bs.there,λb C e=>?_,λb o u e=>?_,λb ps e=>?_⟩ (λb u e=>?_) I5.bare λb f=>?_
    .rw[aK (bW (below b o e))];exact bs.free b o e n hx
    .rw[aK (h2D b _ e)];exact bs.tups b C e
    .rw[aK (h2D b _ e)];exact bs.frzs b o u e
    .rw[aK (h2D b _ e)];exact bs.tbls b ps e
    .by_cases f:b=D
     .subst f;rw[aZ]at e;cases e;exact⟨hz,us,nn,rv,pD⟩
     .rw[aK f]at e;exact(I5.hok b u e).stay (λc v _ q=>q) (λc q=>by rw[aK (fq q nD)];exact q) λc C q=>by rw[aK (fq q nD)];exact q
    .obtain⟨_,f1,_,f3,f4,f5⟩:=f2 b f;exact⟨f3,f1,f4,f5⟩
   obtain⟨m,hn,_⟩:=I5.loc;refine hRR D V5 s4 _ I6 ⟨m,hn⟩ (G.fpOk (by lia) ?_) (qn D (Hn D (aM _)) nD);rw[aK hDC.symm];exact I5.free
  .refine thn (T.item Y rfl rfl rfl hc i _ s3 σ3 H3 _ I3 (fpY one fr3) st3 go) λr s4 q_=>?_;obtain⟨u,hr,h4⟩:=q_;subst hr;refine thn h4 λ_ s5 q_=>?_;obtain⟨x,H5,I5,r5,y5,st5,fr5⟩:=q_;have I5':=I5.pinned (fpY one fr5) (T.obj _ _ st5);refine fI (hg cl V5 fp s2 H2 _ s5 σ3 H5 x u _ I5' r5 (step x H5 y5)) (λ_ s6 ⟨σ6,H6,I6,q6⟩=>?_) λ_ _ z=>z.elim;refine fI (ht cl V5 fp s2 H2 _ s6 σ6 H6 _ I6 q6) (λb s7 ⟨H7,I7,q7⟩=>?_) λ_ _ z=>z.elim
   have kp:∀{H8:Hp} {s8:ah},Inv Y ([(D,jG us nn)]++tE fp s5.heap) σ6 H8 s8->tn (i+1) s8.heap/\(∀b∈fp,H8 b=ab):=λ{H8 s8} I8=>by
    refine⟨T.keep _ _ _ st5 λb f o e=>(I8.pin (b,o) (ce _ (ce _ (tF f e)))).1,λb f=>?_⟩;obtain⟨o,e,d⟩:=T.obj _ _ st5 b f;exact(I8.pin (b,o) (ce _ (ce _ (tF f e)))).2.1
   cases b with
   |false=>
    obtain⟨m',hm,w7⟩:=hN _ _ _ q7;obtain⟨st7,fr7⟩:=kp I7
    exact⟨m',hm,i+1,ys,us,nn,σ6,H7,I7.unpinned,st7,fr7,rv,w7⟩
   |true=>
    refine thn (he cl V5 fp s2 H2 xe M _ s7 σ6 H7 _ (EH I7) q7) λuy s8 q_=>?_;obtain⟨y,H8,I8',r8,q8⟩:=q_;have I8:=EI I8';obtain⟨m',hm,w8⟩:=hN _ _ _ q8;obtain⟨st8,fr8⟩:=kp I8;obtain⟨pD,nD,pC,pF,_⟩:=I8.pin (D,jG us nn) (by simp);have hl:=rv.length
    refine wpAny_list_append_plain (items:=us.toArray) ⟨nn,pD⟩ (λh' hl' sb=>?_) (by simp only[size_toArray] <;> lia)
    obtain⟨n',e'⟩:=hl';have I8n:Inv Y [] σ6 H8 s8:=I8.pins_of (λ_ z=>nomatch z);have I9:=I8n.turned (t':=s8.toks) (it:=D) (λb o f e=>(sb.2 b f).trans e) nD pC (.inr (by show s2.heap.objs.size<=D;lia)) (λx c e=>bW (clo x c e)) (λp M=>nomatch M);refine⟨m',hm,i+1,ys++[y],us++[uy],n',σ6,H8,I9.pins_of (λp M=>?_),?_,fr8,rv.append (.cons r8 .nil),w8⟩
    .have M:p=(D,jG (us++[uy]) n'):=by simpa using M
     subst M;refine⟨?_,nD,pC,pF,λv z=>by nomatch z⟩;have L:=e';rw[L];simp
    .exact T.keep _ _ _ st8 λb f o e=>(sb.2 b (bW (fpo b f))).trans e
 exact codeAny_compStart_list loop (T.self X.A 0 _ _ _ st1 loop)
def EJ{k:Nat}{cl:List (Str×Addr)}
 (y:X.calm=ac)(u:oC scope X.env.scope.names X.N Nc k js)
 (B:∀cl V5 ex d a,PG (X.comp scope Nc cl V5 ex d a) tg g)(C:∀cl V5 ex d a,PTs (X.comp scope Nc cl V5 ex d a) c3 tt)(z:∀cl V5 ex d a,PE (X.comp scope Nc cl V5 ex d a) c5 te)
 (q:∀x c,cl.lookup x=aa c->X.env.cells.lookup x=aa c)(r:∀x,(x,fL)∈scope.names->∃c,cl.lookup x=aa c)
 (p:Inv X U E H2 s2)(T:j9 X.prog X.w X.K tg J fp it tn)(n:tn 0 s2.heap)(f2:∀b∈fp,hE X U H2 b)(v:xM J g tt te (i6 k js E) H2 Q)
 (j:∀(D V5:Addr) (l:ah) (H':Hp),Inv X U E H' l->(∃m,l.heap.Ns V5 m)->hE X U H' V5->Q (.ref D) H'->RR (.ref D) V5 (.ok .next) l):
  wpAny @2 X.A (newList []) (λf h=>wpAny @2 X.A (newFunctionEnv scope X.env.globals cl [] X.env.qual ab .none (aa X.env)) (λe i =>
   gx @2 X.A (.compStart @5 0 (.ref it) f {e with scope:=relabel scope X.env}) (RR f e.locals) i) V4 h) V4 s2:=
 ME (PX:=λ_=>True) y u B C (λcl V5 ex d a xe _=>PE.to0 (z cl V5 ex d a)) q r p T n f2 v j λ_ _ _ _ _=>trivial
variable{wi:TI}
def MF(k:Nat)(js:LN)(Nc:LSt)(L:X.calm=ac)(hi:PI X tg iter wi)
 (Y:∀cl V5 ex c a,PG (X.comp scope Nc cl V5 ex c a) tg g)(ht:∀cl V5 ex c a,PTs (X.comp scope Nc cl V5 ex c a) c3 tt)(M:∀cl V5 ex c a,PE (X.comp scope Nc cl V5 ex c a) c5 te)
 (d:lq scope X.env.scope.names X.N Nc k js=ac:=by rfl)(hs:∀x,kS iter X.env x=pure x:=by intro _;rfl):
  PE X @5 (oF k js wi g tt te):=by
 intro U s E H Q I h;have d:=oC.of d;obtain⟨cl,f,p,r⟩:=EG λx hx e=>I.ok.has x.1 (d.free x hx e);refine wpAny_comprehension_free rfl hs f d.kind d.loc (thn (hi U s E H _ I h) λv s1 B=>thn B λitv s2 h2=>?_);obtain⟨it,fp,tn,J,H2,e,n,T,j,f2,C⟩:=h2;subst e;refine EJ L d Y ht M p r n T j f2 C λD V5 s' H' l ⟨m,hn⟩ A q=>?_;obtain⟨u,f1,_,w,y,z⟩:=A;exact⟨m,hn,λh' i=>⟨.ref D,H',l.turned (λb o G e=>(i.2 b G).trans e) u f1 w y z,rfl,q⟩⟩
variable{i:Nat}{x:Str}{b4 eH:Pos}
def xN(k:Nat)(js:LN)(Nc:LSt)(hN:X.N.Nodup)(p:X.N[i]?=aa x)(w:Loc X.env.scope x)(hc:X.calm=ac)(hi:PI X tg iter wi)
 (hg:∀cl V5 ex d c,PG (X.comp scope Nc cl V5 ex d c) tg g)(ht:∀cl V5 ex d c,PTs (X.comp scope Nc cl V5 ex d c) c3 tt)(he:∀cl V5 ex d c,PE (X.comp scope Nc cl V5 ex d c) c5 te)
 (u:f7 @5 (aa (.Name x b4)) eH.line X.env=pure ac:=by rfl)
 (f:lq scope X.env.scope.names X.N Nc k js=ac:=by rfl)(hs:∀x,kS iter X.env x=pure x:=by intro _;rfl)
 (hf:LcF X x:=by first |exact .inl rfl |exact .inr rfl |assumption):
  PS X (.Assign [.Name x b4] @5 eH) (i4 (oF k js wi g tt te) (g9 i)):=by
 intro U s E H D I h;have f:=oC.of f;rw[exec_Assign_Name_used _ _ _ _ u];refine aj (wpAny_standAt (aj ?_));obtain⟨cl,n,L,M⟩:=EG λx w e=>I.ok.has x.1 (f.free x w e)
 refine aj (fI (wpAny_comprehension_free rfl hs n f.kind f.loc
  (thn (hi U s E H _ I h) λv s1 h1=>thn h1 λitv s2 h2=>?_)) (λ_ s' hq=>aC (aC hq)) λ_ _ e=>e)
 obtain⟨it,fp,tn,J,H2,e,G,T,y,f2,hW⟩:=h2;subst e;refine EJ hc f hg ht he L M G T y f2 hW λB V5 s' H' C ⟨m,hn⟩ fC q=>?_;obtain⟨Q,f1,Y,f3,A,f5⟩:=fC;refine wpAny_assign_Name (DN (v:=.ref B) C hN p w rfl (λs'' j ⟨a,sb,ha⟩=>?_) hf)
 have l:V5≠a:=by
  rcases ha with z |z
  .rw[z];exact f1
  .exact(A x a z).symm
 exact⟨m,hn.sameBut sb l,λh' r=>⟨_,H',j.turned (λb o hb e=>(r.2 b hb).trans e) Q f1 f3 A f5,q⟩⟩
def EK:OpR X (cV .Is) (λx y H Q=>∃b,y=.bl b/\(x=.non\/∃c,x=.bl c)/\Q (.bl (decide (x=.bl b))) H):=by
 intro U s E H x y v u Q I a e h;obtain⟨b,rfl,d,q⟩:=h;subst e
 rcases d with rfl |⟨c,rfl⟩
 .subst a;exact wpAny_is_plain rfl (bT I q (by grind))
 .subst a;exact wpAny_is_plain rfl (bT I q (by grind))
def EL:OpR X (cV .IsNot) (λx y H Q=>∃b,y=.bl b/\(x=.non\/∃c,x=.bl c)/\Q (.bl (!decide (x=.bl b))) H):=by
 intro U s E H x y v u Q I a e h;obtain⟨b,rfl,d,q⟩:=h;subst e
 rcases d with rfl |⟨c,rfl⟩
 .subst a;exact wpAny_isNot_plain rfl (bT I q (by grind))
 .subst a;exact wpAny_isNot_plain rfl (bT I q (by grind))
def MG(a:X.calm=ac):iu X (.builtin "sum") (λC H Q=>∃(p:Addr) (ns:LI0),C=[.ref p]/\SqL X.K H p (ns.map V.int)/\Q (.int ns.sum) H):=by
 intro U s E H C us Q I r h;obtain⟨p,ns,rfl,c,q⟩:=h;obtain⟨u,rfl,g⟩:=mE r;subst g;obtain⟨B,f,d,hz⟩:=I.list c;have hi:=LI f;obtain⟨C,e⟩:=hi.allInts.items;refine sum_intListG (I.ok.hd a) (by rw[<- e];exact d.isList) λh' i t' b=>?_
 have es:preSum (numAt C) C.size=ns.sum:=by
  rw[preSum_eq,sM (by simp),<- nums_intItems,<- e,hi.numsOf]
 rw[es];exact⟨.int ns.sum,H,I.kept b,⟨_,rfl⟩,q⟩
def MH:iu X (.builtin "isinstance") (λC H Q=>∃x T t b,C=[x,.ty T]/\gA X.K H x t/\W.kitOne X.K t (.type T)=aa b/\Q (.bl b) H):=by
 intro U s E H C us Q I r h;obtain⟨x,T,t,b,rfl,ty,e,q⟩:=h;obtain⟨u,f,rfl,c,a⟩:=Lh r;cases (a);exact Lw I c ty e λd=>⟨.bl b,H,I.tok d,rfl,q⟩
variable{C:LVv}
def aG.at'{us:LVa}{u:Value}(r:aG C us)(e:us[i]?=aa u):∃x,C[i]?=aa x/\aA x u:=by
 have b:=r.length;have hi:i<C.length:=by have:=(cU.mp e).1;lia
 refine⟨C[i],by simp[hi],?_⟩;obtain⟨c,e',a⟩:=r.get (i:=i) (x:=C[i]) (by simp[hi]);rw[e]at e';cases e';exact a
def oG{env:Env}{a:f8}(b:a≠.free):∀{names:List (Str×f8)} {x:Str},names.lookup x=aa a ->
  (names.map λ(n,k)=>if (k==fL && env.scope.kind==.function && env.kindOf n==aa .cell) then (n,ml) else (n,k)).lookup x=aa a
 | [],_,h=>by simp at h
 |(n,k)::r,x,h=>by
  have c:=@oG env a b r x
  grind
def MI(h:Vis scope x):Vis (relabel scope env) x:=by
 rcases h with h |h |h
 .exact .inl (oG (by decide) h)
 .exact .inr (.inl (oG (by decide) h))
 .rcases xK h with z |z
  .exact .inr (.inl z)
  .exact .inr (.inr z)
variable{V5:Addr}{ex:LAd}{cc:ah}{cs:Hp}
def pvc{cl:List (Str×Addr)}(i:Nat)(b:Nc[i]?=aa x:=by rfl)(hv:Vis scope x:=by first |exact bX rfl |exact bz (bX rfl) |exact bz (bz rfl))(hd:NDb x:=by decide)
 (a:NCd x:=by decide):PE @4 (.Name x pos) (cQ i):=mx b (MI hv) hd a
def pgc{cl:List (Str×Addr)}(i:Nat)(b:Nc.Nodup:=by decide +kernel)(hi:Nc[i]?=aa x:=by rfl)(a:scope.names.lookup x=aa .local:=by rfl):PG @4 (.Name x pos) (g9 i):=
 wY b hi (.inl (oG (by decide) a)) (.inr (oG (by decide) a))
def glc{cl:List (Str×Addr)}(h:scope.names.lookup x=aa .globalImplicit):Gl @4 x:=oG (by decide) h
variable{p:Addr}
def bN{o:HO}(h:H p=ab):aq H (upd H p o):=λb u e=>by rw[aK (fq e h)];exact e
variable{K:aQ}{H':Hp}{a:Addr}
def aq.tup(e:aq H H')(h:SqT K H a C):SqT K H' a C:=by
 rcases h with(h |⟨o,h⟩) |h
 .exact .inl (.inl (e _ _ h))
 .exact .inl (.inr ⟨o,e _ _ h⟩)
 .exact .inr h
abbrev lr(p:Addr)(H H':Hp):Prop:=∀b o,H b=aa o->b≠p->H' b=aa o
def lr.refl(p:Addr)(H:Hp):lr p H H:=λ_ _ h _=>h
variable{H1:Hp}
def lr.trans(a:lr p H H1)(b:lr p H1 H2):lr p H H2:=λc o h n=>b c o (a c o h n) n
def lr.seq(e:lr p H H')(n:a≠p)(h:SqL K H a C):SqL K H' a C:=by
 rcases h with(h |⟨o,h⟩) |h
 .exact .inl (.inl (e _ _ h n))
 .exact .inl (.inr ⟨o,e _ _ h n⟩)
 .exact .inr h
abbrev xO(K:aQ)(H:Hp)(V2:Addr)(B:LII):Prop:=
 ∃a:List (Addr×Int×Int),SqL K H V2 (a.map λz=>V.ref z.1)/\(∀z∈a,SqT K H z.1 [.int z.2.1,.int z.2.2])/\B=a.map (·.2)/\a.length<=1000
abbrev cC(p:Option Bool->Bool)(es:LOB)(B:LII):Int:=((B.filter λz=>p (es.getD z.1.toNat ab)).map (·.2)).sum
inductive Prt where
 |inn (t:Int) |out (t:Int) |least (k:Int) (B:LII) |most (k:Int) (B:LII)
abbrev MJ(K:aQ)(H:Hp)(p:Addr):Prt->Prop
 |.inn t=>SqT K H p [.str "in",.int t]
 |.out t=>SqT K H p [.str "out",.int t]
 |.least k B=>∃V2,SqT K H p [.str "least",.int k,.ref V2]/\xO K H V2 B
 |.most k B=>∃V2,SqT K H p [.str "most",.int k,.ref V2]/\xO K H V2 B
abbrev bs(l:LB0):LOB:=l.map aa
abbrev Prt.holds(L ws:LB0):Prt->Bool
 |.inn t=>(L.getD t.toNat af)
 |.out t=>!(ws.getD t.toNat af)
 |.least k B=>decide (k<=cC (·==aa ac) (bs L) B)
 |.most k B=>decide (cC (·==aa ac) (bs ws) B<=k)
variable{h':Heap}
section
variable{s:ah}
def Inv.turnedMany{t':Nat}{ch:LAd}(I:Inv X U E H s)(k:∀b o,b∉ch->s.heap.get? b=aa o->h'.get? b=aa o)(d:∀b∈ch,hE X U H b):Inv X U E H {s with heap:=h',toks:=t'}:=by
 refine I.step (λb g=>?_) (λb o _ _ a e _=>k b o a e) (λb o _ _ a e _=>⟨o.slots,k b o a e⟩) (λ_ _ _ _ n=>n)
  (λb o a e=>⟨o,k b o a e⟩) (λ_ _ e=>e) (λ_ _ _ e=>e) (λb ps e=>⟨#[],by rw[e];simp⟩) (λm hm=>?_) (λb u e=>?_) I.bare
 .obtain⟨_,f1,_,i,j,l⟩:=d b g
  grind
 .obtain⟨o,es,f,h,r⟩:=hm;exact⟨o,es,f,k _ o (λz=>(d _ z).2.1 rfl) h,r⟩
 .refine(I.hok b u e).stay (λc v a q=>k c v (λz=>?_) q) (λ_ q=>q) λ_ _ q=>q;have hn:=(d c z).1
  grind
end
def Inv.track{s:ah}{o:HO}(I:Inv X U E H s)(f:hE X U H p)(l:dR X.prog X.w (upd H p o) s.heap p o):Inv X U E (upd H p o) s:=by
 obtain⟨g,f1,f2,h,i,j⟩:=f;have ne:∀b u,H b=aa u->b≠p:=λb u e=>fq e g;have one:∀b:Addr,b∉[p]->b≠p:=λb a z=>a (by rw[z];simp)
 refine I.step (ch:=[p]) (λb a=>?_) (λb o _ _ d e _=>e) (λb o _ _ d e _=>⟨o.slots,e⟩) (λb o d e n=>?_)
  (λb o d e=>⟨o,e⟩) (λb C e=>?_) (λb o u e=>?_) (λb ps e=>⟨#[],?_⟩) (λm hm=>hm) (λb u e=>?_) I.bare
 .have e:b=p:=by simpa using a
  subst e;exact⟨h,f1,i,j⟩
 .rw[aK (one b d)];exact n
 .rw[aK (ne b _ e)];exact e
 .rw[aK (ne b _ e)];exact e
 .rw[aK (ne b _ e),e];rfl
 .by_cases a:b=p
  .subst a;rw[aZ]at e;cases e;exact l
  .rw[aK a]at e;exact(I.hok b u e).stay (λc v _ q=>q) (λc q=>by rw[aK (ne c _ q)];exact q) λc C q=>by rw[aK (ne c _ q)];exact q
abbrev bY(p:Int->Bool)(B:LII):Int:=((B.filter λz=>p z.1).map (·.2)).sum
def ls(p:Option Bool->Bool)(es:LOB)(B:LII):cC p es B=bY (λt=>p (es.getD t.toNat ab)) B:=rfl
def EM(p q:Int->Bool)(B:LII):bY p (B.filter λz=>q z.1)=bY (λt=>p t && q t) B:=by
 unfold bY
 rw[filter_filter]
abbrev Prt.sure(es:LOB):Prt->Bool
 |.inn t=>es.getD t.toNat ab==aa ac
 |.out t=>es.getD t.toNat ab==aa af
 |.least k B=>decide (k<=cC (·==aa ac) es B)
 |.most k B=>decide (cC (λe=>!(e==aa af)) es B<=k)
abbrev Prt.lost(es:LOB)(ws:LB0):Prt->Bool
 |.inn t=>(es.getD t.toNat ab==aa af) || ws.getD t.toNat af
 |.out t=>es.getD t.toNat ab==aa ac
 |.least k B=>decide (bY (λt=>!(es.getD t.toNat ab==aa af) && !(ws.getD t.toNat af)) B<k)
 |.most k B=>decide (k<cC (·==aa ac) es B)
abbrev EN(V2:Addr)(B:LII)(vs:LVv):Prt->Prop
 |.inn t=>vs=[.str "in",.int t]
 |.out t=>vs=[.str "out",.int t]
 |.least k i=>vs=[.str "least",.int k,.ref V2]/\i=B
 |.most k i=>vs=[.str "most",.int k,.ref V2]/\i=B
variable{vs:LVv}
def EN.at{V2:Addr}{B:LII}{r:Prt}(t:EN V2 B vs r)(a:H p=aa (.tup vs))(b:xO K H V2 B):MJ K H p r:=by
 cases r with
 |inn t'=>subst t;exact SqT.of a
 |out t'=>subst t;exact SqT.of a
 |least k i=>obtain⟨rfl,rfl⟩:=t;exact⟨V2,SqT.of a,b⟩
 |most k i=>obtain⟨rfl,rfl⟩:=t;exact⟨V2,SqT.of a,b⟩
inductive D where
 |non
 |bl (b:Bool)
 |int (i:Int)
 |str (x:Str)
 |lst (C:List D)
 |tup (C:List D)
 |kl (C:List D)
 |kt (C:List D)
 |dic (ks:List Key) (C:List D)
 |ins (c:Str) (ns:LSt) (C:List D)
 |kd (ks:List Key) (C:List D)
 |dT (ks:List (List Key)) (C:List D)
 deriving Inhabited
nonrec abbrev OD:=Option D
nonrec abbrev LD:=List D
nonrec abbrev OLD:=Option LD
set_option genInjectivity false in
structure Gc where
 K:aQ
 cl:Str->Addr
mutual
def Rep(G:Gc)(H:Hp):D->V->Prop
 |.non,v=>v=.non
 |.bl b,v=>v=.bl b
 |.int i,v=>v=.int i
 |.str x,v=>v=.str x
 |.lst ds,v=>∃a vs,v=.ref a/\H a=aa (.lst vs)/\am G H ds vs
 |.tup ds,v=>∃a vs,v=.ref a/\H a=aa (.tup vs)/\am G H ds vs
 |.kl ds,v=>∃a vs,v=.ref a/\SqL G.K H a vs/\am G H ds vs
 |.kt ds,v=>∃a vs,v=.ref a/\SqT G.K H a vs/\am G H ds vs
 |.dic ks ds,v=>∃a vs,v=.ref a/\H a=aa (.dK (ks.zip vs))/\ks.length=vs.length/\am G H ds vs
 |.ins c ns ds,v=>∃a dx vs,v=.ref a/\H a=aa (.ins (G.cl c) dx (ns.zip vs))/\ns.length=vs.length/\am G H ds vs
 |.kd ks ds,v=>∃a od vs,v=.ref a/\H a=aa (.frz od (.dK (ks.zip vs)))/\ks.length=vs.length/\am G H ds vs
 |.dT ks ds,v=>∃a vs,v=.ref a/\H a=aa (.dT (ks.zip vs))/\ks.length=vs.length/\am G H ds vs
def am(G:Gc)(H:Hp):LD->LVv->Prop
 | [],vs=>vs=[]
 |d::ds,vs=>∃v r,vs=v::r/\Rep G H d v/\am G H ds r
end
mutual
theorem Rep.upM(s:aq H H'):∀(d:D) (v:V),Rep G H d v->Rep G H' d v
 |.non,_,h=>h
 |.bl _,_,h=>h
 |.int _,_,h=>h
 |.str _,_,h=>h
 |.lst ds,_,h_=>by obtain⟨a,vs,e,q,r⟩:=h_;exact⟨a,vs,e,s _ _ q,am.upM s ds vs r⟩
 |.tup ds,_,h_=>by obtain⟨a,vs,e,q,r⟩:=h_;exact⟨a,vs,e,s _ _ q,am.upM s ds vs r⟩
 |.kl ds,_,h_=>by obtain⟨a,vs,e,q,r⟩:=h_;exact⟨a,vs,e,s.seq q,am.upM s ds vs r⟩
 |.kt ds,_,h_=>by obtain⟨a,vs,e,q,r⟩:=h_;exact⟨a,vs,e,s.tup q,am.upM s ds vs r⟩
 |.dic _ ds,_,h_=>by obtain⟨a,vs,e,q,l,r⟩:=h_;exact⟨a,vs,e,s _ _ q,l,am.upM s ds vs r⟩
 |.ins _ _ ds,_,h_=>by obtain⟨a,dx,vs,e,q,l,r⟩:=h_;exact⟨a,dx,vs,e,s _ _ q,l,am.upM s ds vs r⟩
 |.kd _ ds,_,h_=>by obtain⟨a,od,vs,e,q,l,r⟩:=h_;exact⟨a,od,vs,e,s _ _ q,l,am.upM s ds vs r⟩
 |.dT _ ds,_,h_=>by obtain⟨a,vs,e,q,l,r⟩:=h_;exact⟨a,vs,e,s _ _ q,l,am.upM s ds vs r⟩
theorem am.upM(s:aq H H'):∀(ds:LD) (vs:LVv),am G H ds vs->am G H' ds vs
 | [],_,h=>h
 |d::ds,_,h_=>by obtain⟨v,r,e,a,h2⟩:=h_;exact⟨v,r,e,Rep.upM s d v a,am.upM s ds r h2⟩
end
variable{G:Gc}{d:D}{v:V}
def Rep.up(r:Rep G H d v)(s:aq H H'):Rep G H' d v:=Rep.upM s d v r
variable{ds:LD}
def am.up(r:am G H ds vs)(s:aq H H'):am G H' ds vs:=am.upM s ds vs r
def am.nil:am G H [] []:=rfl
def am.cons(h:Rep G H d v)(t:am G H ds vs):am G H (d::ds) (v::vs):=⟨v,vs,rfl,h,t⟩
def am.length:∀{ds:LD} {vs:LVv},am G H ds vs->ds.length=vs.length
 | [],_,h=>by cases (h);rfl
 |d::ds,_,⟨v,r,e,_,h⟩=>by subst e;simp[am.length h]
def am.append:∀{ds es:LD} {vs us:LVv},am G H ds vs->am G H es us->am G H (ds++es) (vs++us)
 | [],_,_,_,h,t=>by cases (h);exact t
 |d::ds,_,_,_,⟨v,r,e,h1,h2⟩,t=>by subst e;exact⟨v,r++_,rfl,h1,am.append h2 t⟩
def am.get:∀{ds:LD} {vs:LVv} {i:Nat} {d:D},am G H ds vs->ds[i]?=aa d->∃v,vs[i]?=aa v/\Rep G H d v
 | [],_,_,_,_,e=>by simp at e
 |d::ds,_,0,_,⟨v,r,e,h1,_⟩,e'=>by subst e;simp at e';subst e';exact⟨v,rfl,h1⟩
 |d::ds,_,i+1,d',q4_,e'=>by
  obtain⟨v,r,e,_,h2⟩:=q4_;subst e;obtain⟨u,a,b⟩:=am.get h2 (by simpa using e');exact⟨u,by simpa using a,b⟩
def am.get':∀{ds:LD} {vs:LVv} {i:Nat} {v:V},am G H ds vs->vs[i]?=aa v->∃d,ds[i]?=aa d/\Rep G H d v:=λ{ds vs i v} h e=>by
 have c:=h.length;have hi:i<ds.length:=by have:=(cU.mp e).1;lia
 obtain⟨u,a,b⟩:=h.get (i:=i) (d:=ds[i]) (by simp[hi]);rw[e]at a;cases a;exact⟨ds[i],by simp[hi],b⟩
def am.ints:∀(ns:LI0),am G H (ns.map D.int) (ns.map V.int)
 | []=>rfl
 |n::ns=>⟨_,_,rfl,rfl,am.ints ns⟩
def am.take:∀{ds:LD} {vs:LVv} (n:Nat),am G H ds vs->am G H (ds.take n) (vs.take n)
 | _,_,0,_=>rfl
 | [],_,n+1,h=>by cases (h);rfl
 |d::ds,_,n+1,⟨v,r,e,h1,h2⟩=>by subst e;exact⟨v,r.take n,rfl,h1,am.take n h2⟩
def am.drop:∀{ds:LD} {vs:LVv} (n:Nat),am G H ds vs->am G H (ds.drop n) (vs.drop n)
 | _,_,0,h=>h
 | [],_,n+1,h=>by cases (h);rfl
 |d::ds,_,n+1,⟨v,r,e,h1,h2⟩=>by subst e;exact am.drop n h2
def am.reverse:∀{ds:LD} {vs:LVv},am G H ds vs->am G H ds.reverse vs.reverse
 | [],_,h=>by cases (h);rfl
 |d::ds,_,q2_=>by
  obtain⟨v,r,e,a,h2⟩:=q2_;subst e;rw[iQ,iQ];exact(am.reverse h2).append (.cons a .nil)
def am.set:∀{ds:LD} {vs:LVv} (i:Nat) {d:D} {v:V},am G H ds vs->Rep G H d v->am G H (ds.set i d) (vs.set i v)
 | [],_,_,_,_,h,_=>by cases (h);exact .nil
 |e::ds,_,0,_,_,⟨v,r,e',_,h2⟩,q=>by subst e';exact⟨_,r,rfl,q,h2⟩
 |e::ds,_,i+1,_,_,⟨v,r,e',h1,h2⟩,q=>by subst e';exact⟨v,r.set i _,rfl,h1,am.set i h2 q⟩
abbrev ix:HO->Bool
 |.tup _=>ac
 | _=>af
structure Ext(Hf H Hf' H':Hp):Prop where
 f:aq Hf Hf'
 h:aq H H'
 s:aq Hf' H'
 n:∀l o,H l=aa o->ix o=af->Hf' l=Hf l
variable{Hf:Hp}
def Ext.refl(s:aq Hf H):Ext Hf H Hf H:=⟨aq.refl _,aq.refl _,s,λ_ _ _ _=>rfl⟩
variable{b3 bm:Hp}
def Ext.trans(a:Ext Hf H b3 H1)(b:Ext b3 H1 bm H2):Ext Hf H bm H2:=⟨a.f.trans b.f,a.h.trans b.h,b.s,λl o e t=>(b.n l o (a.h l o e) t).trans (a.n l o e t)⟩
def Ext.new{o:HO}(s:aq Hf H)(h:H p=ab):Ext Hf H (upd Hf p o) (upd H p o):=
 ⟨bN (s.free h),bN h,λb u e=>by
  by_cases a:b=p
  .subst a;rw[aZ]at e ⊢;exact e
  .rw[aK a]at e ⊢;exact s b u e,λl u e _=>by rw[aK (fq e h)]⟩
def Ext.tmp{o:HO}(s:aq Hf H)(h:H p=ab):Ext Hf H Hf (upd H p o):=⟨aq.refl _,bN h,s.trans (bN h),λ_ _ _ _=>rfl⟩
def Ext.grow(s:aq Hf H)(g:aq H H1):Ext Hf H Hf H1:=⟨aq.refl _,g,s.trans g,λ_ _ _ _=>rfl⟩
def Ext.fix{o:HO}(a:Ext Hf H b3 H1)(hn:H p=ab)(d:b3 p=ab)(g:H1 p=aa o):Ext Hf H (upd b3 p o) H1:=
 ⟨a.f.trans (bN d),a.h,λb u e=>by
  by_cases c:b=p
  .subst c;rw[aZ]at e;grind
  .rw[aK c]at e;exact a.s b u e,λl u e t=>by rw[aK (fq e hn)];exact a.n l u e t⟩
inductive O where
 |fz (d:D)
 |lst (C:List O)
 |tup (C:List O)
 |dic (ks:List Key) (C:List O)
 |ins (c:Str) (ns:LSt) (C:List O)
 |jnk (n:Nat)
 |dT (ks:List (List Key)) (C:List O)
 |at (l:Addr) (o:O)
 |any
 deriving Inhabited
mutual
def OT(G:Gc)(Hf H:Hp):O->V->LAd->Prop
 |.fz d,v,fp=>Rep G Hf d v/\fp=[]
 |.lst os,v,fp=>∃a vs fs,v=.ref a/\H a=aa (.lst vs)/\OTs G Hf H os vs fs/\fp=a::fs
 |.tup os,v,fp=>∃a vs,v=.ref a/\H a=aa (.tup vs)/\OTs G Hf H os vs fp
 |.dic ks os,v,fp=>∃a vs fs,v=.ref a/\H a=aa (.dK (ks.zip vs))/\ks.length=vs.length/\OTs G Hf H os vs fs/\fp=a::fs
 |.ins c ns os,v,fp=>∃a dx vs fs,v=.ref a/\H a=aa (.ins (G.cl c) dx (ns.zip vs))/\ns.length=vs.length/\OTs G Hf H os vs fs/\fp=a::fs
 |.jnk n,v,fp=>∃a vs,v=.ref a/\H a=aa (.lst vs)/\vs.length<=n/\fp=[a]
 |.dT ks os,v,fp=>∃a vs fs,v=.ref a/\H a=aa (.dT (ks.zip vs))/\ks.length=vs.length/\OTs G Hf H os vs fs/\fp=a::fs
 |.at l o,v,fp=>v=.ref l/\OT G Hf H o v fp
 |.any,_,fp=>fp=[]
def OTs(G:Gc)(Hf H:Hp):List O->LVv->LAd->Prop
 | [],vs,fp=>vs=[]/\fp=[]
 |o::os,vs,fp=>∃v r f1 f2,vs=v::r/\OT G Hf H o v f1/\OTs G Hf H os r f2/\fp=f1++f2
end
mutual
noncomputable def O.toD:O->D
 |.fz d=>d
 |.lst os=>.lst (O.toDs os)
 |.tup os=>.tup (O.toDs os)
 |.dic ks os=>.dic ks (O.toDs os)
 |.ins c ns os=>.ins c ns (O.toDs os)
 |.at _ o=>o.toD
 |.jnk _=>.non
 |.dT ks os=>.dT ks (O.toDs os)
 |.any=>.non
noncomputable def O.toDs:List O->LD
 | []=>[]
 |o::os=>o.toD::O.toDs os
end
mutual
noncomputable def O.kn:O->Bool
 |.fz _=>ac
 |.lst os=>O.kns os
 |.tup os=>O.kns os
 |.dic _ os=>O.kns os
 |.ins _ _ os=>O.kns os
 |.at _ o=>o.kn
 |.jnk _=>af
 |.dT _ os=>O.kns os
 |.any=>af
noncomputable def O.kns:List O->Bool
 | []=>ac
 |o::os=>o.kn && O.kns os
end
mutual
theorem OT.frameM(f:aq Hf Hf'):∀(o:O) (v:V) (fp:LAd),OT G Hf H o v fp->(∀b u,H b=aa u->(ix u=ac\/b∈fp)->H' b=aa u)->OT G Hf' H' o v fp
 |.fz d,_,_,h,_=>⟨h.1.up f,h.2⟩
 |.lst os,_,fp,h_,k=>by obtain⟨a,vs,fs,e,q,r,g⟩:=h_;exact⟨a,vs,fs,e,k _ _ q (.inr (by rw[g];exact aF)),OTs.frameM f os vs fs r (λb u i hm=>k b u i (hm.imp_right λz=>by rw[g];exact bq _ z)),g⟩
 |.tup os,_,fp,h_,k=>by obtain⟨a,vs,e,q,r⟩:=h_;exact⟨a,vs,e,k _ _ q (.inl rfl),OTs.frameM f os vs fp r k⟩
 |.dic ks os,_,fp,h_,k=>by obtain⟨a,vs,fs,e,q,z,r,g⟩:=h_;exact⟨a,vs,fs,e,k _ _ q (.inr (by rw[g];exact aF)),z,OTs.frameM f os vs fs r (λb u i hm=>k b u i (hm.imp_right λz=>by rw[g];exact bq _ z)),g⟩
 |.ins c ns os,_,fp,h_,k=>by obtain⟨a,dx,vs,fs,e,q,z,r,g⟩:=h_;exact⟨a,dx,vs,fs,e,k _ _ q (.inr (by rw[g];exact aF)),z,OTs.frameM f os vs fs r (λb u i hm=>k b u i (hm.imp_right λz=>by rw[g];exact bq _ z)),g⟩
 |.jnk n,_,fp,h_,k=>by obtain⟨a,vs,e,q,z,g⟩:=h_;exact⟨a,vs,e,k _ _ q (.inr (by rw[g];exact aF)),z,g⟩
 |.dT ks os,_,fp,h_,k=>by obtain⟨a,vs,fs,e,q,z,r,g⟩:=h_;exact⟨a,vs,fs,e,k _ _ q (.inr (by rw[g];exact aF)),z,OTs.frameM f os vs fs r (λb u i hm=>k b u i (hm.imp_right λz=>by rw[g];exact bq _ z)),g⟩
 |.at _ o,v,fp,h_,k=>by obtain⟨e,r⟩:=h_;exact⟨e,OT.frameM f o v fp r k⟩
 |.any,_,_,h,_=>h
theorem OTs.frameM(f:aq Hf Hf'):∀(os:List O) (vs:LVv) (fp:LAd),OTs G Hf H os vs fp->(∀b u,H b=aa u->(ix u=ac\/b∈fp)->H' b=aa u)->OTs G Hf' H' os vs fp
 | [],_,_,h,_=>h
 |o::os,_,fp,h_,k=>by obtain⟨v,r,f1,f2,e,d,h2,a⟩:=h_;exact⟨v,r,f1,f2,e,OT.frameM f o v f1 d (λb u c hm=>k b u c (hm.imp_right λz=>by rw[a];exact bS _ z)),OTs.frameM f os r f2 h2 (λb u c hm=>k b u c (hm.imp_right λz=>by rw[a];exact ce _ z)),a⟩
end
variable{Hf':Hp}
def OT.frame{o:O}(h:OT G Hf H o v fp)(f:aq Hf Hf')(k:∀b u,H b=aa u->(ix u=ac\/b∈fp)->H' b=aa u):OT G Hf' H' o v fp:=OT.frameM f o v fp h k
def OT.up{o:O}(h:OT G Hf H o v fp)(f:aq Hf Hf')(s:aq H H'):OT G Hf' H' o v fp:=h.frame f λb u e _=>s b u e
def tQ{a b:Type}:∀{ks:List a} {vs us:List b},ks.length=vs.length->ks.length=us.length->ks.zip vs=ks.zip us->vs=us
 | [],[],[],_,_,_=>rfl
 |k::ks,v::vs,u::us,h1,h2,e=>by
  injection e with e1 e2
  injection e1 with _ e3
  rw[e3,tQ (by simpa using h1) (by simpa using h2) e2]
 | [],_::_,_,h,_,_=>by cases h
 | [],[],_::_,_,h,_=>by cases h
 | _::_,[],_,h,_,_=>by cases h
 | _::_,_::_,[],_,h,_=>by cases h
mutual
theorem OT.funM:∀(o:O) (v:V) (f p:LAd),OT G Hf H o v f->OT G Hf' H o v p->f=p
 |.fz d,_,_,_,h,h'=>h.2.trans h'.2.symm
 |.lst os,_,_,_,q4_,q5_=>by
  obtain⟨a,vs,fs,e,q,r,l⟩:=q4_;obtain⟨w,j,g,e',i,m,b⟩:=q5_;subst e l b;cases e';rw[q]at i;cases i
  rw[OTs.funM os vs fs g r m]
 |.tup os,_,f,p,q4_,q5_=>by
  obtain⟨a,vs,e,q,r⟩:=q4_;obtain⟨w,j,e',i,m⟩:=q5_;subst e;cases e';rw[q]at i;cases i
  exact OTs.funM os vs f p r m
 |.dic ks os,_,_,_,q4_,q5_=>by
  obtain⟨a,vs,fs,e,q,z,r,l⟩:=q4_;obtain⟨w,j,g,e',i,u,m,b⟩:=q5_;subst e l b;cases e';rw[q]at i;have:=tQ z u (HO.dK.inj (dk i));subst this
  rw[OTs.funM os vs fs g r m]
 |.ins c ns os,_,_,_,q4_,q5_=>by
  obtain⟨a,dx,vs,fs,e,q,z,r,l⟩:=q4_;obtain⟨w,x,j,g,e',i,u,m,b⟩:=q5_;subst e l b;cases e';rw[q]at i;have:=tQ z u (HO.ins.inj (dk i)).2.2;subst this
  rw[OTs.funM os vs fs g r m]
 |.jnk n,_,_,_,q4_,q5_=>by
  obtain⟨a,vs,e,q,z,l⟩:=q4_;obtain⟨w,j,e',i,u,b⟩:=q5_;subst e l b;cases e'
  rfl
 |.dT ks os,_,_,_,q4_,q5_=>by
  obtain⟨a,vs,fs,e,q,z,r,l⟩:=q4_;obtain⟨w,j,g,e',i,u,m,b⟩:=q5_;subst e l b;cases e';rw[q]at i;have:=tQ z u (HO.dT.inj (dk i));subst this
  rw[OTs.funM os vs fs g r m]
 |.at _ o,v,f,p,h,h'=>OT.funM o v f p h.2 h'.2
 |.any,_,_,_,h,h'=>(show _=[]from h).trans (show _=[]from h').symm
theorem OTs.funM:∀(os:List O) (vs:LVv) (f i:LAd),OTs G Hf H os vs f->OTs G Hf' H os vs i->f=i
 | [],_,_,_,h,h'=>h.2.trans h'.2.symm
 |o::os,_,_,_,q4_,q5_=>by
  obtain⟨v,r,f1,f2,e,l,h2,j⟩:=q4_;obtain⟨n,m,b,c,e',d,g,a⟩:=q5_;subst e j a;cases e';rw[OT.funM o v f1 b l d,OTs.funM os r f2 c h2 g]
end
mutual
theorem OT.memM:∀(o:O) (v:V) (f:LAd),OT G Hf H o v f->∀a∈f,∃u,H a=aa u/\ix u=af
 |.fz d,_,_,h,a,ha=>by rw[h.2]at ha;cases ha
 |.lst os,_,_,q3_,b,hb=>by
  obtain⟨a,vs,fs,e,q,r,g⟩:=q3_;subst g
  rcases bh.mp hb with z |z
  .subst z;exact⟨_,q,rfl⟩
  .exact OTs.memM os vs fs r b z
 |.tup os,_,f,⟨a,vs,e,q,r⟩,b,hb=>OTs.memM os vs f r b hb
 |.dic ks os,_,_,q3_,b,hb=>by
  obtain⟨a,vs,fs,e,q,z,r,g⟩:=q3_;subst g
  rcases bh.mp hb with z |z
  .subst z;exact⟨_,q,rfl⟩
  .exact OTs.memM os vs fs r b z
 |.ins c ns os,_,_,q3_,b,hb=>by
  obtain⟨a,dx,vs,fs,e,q,z,r,g⟩:=q3_;subst g
  rcases bh.mp hb with z |z
  .subst z;exact⟨_,q,rfl⟩
  .exact OTs.memM os vs fs r b z
 |.jnk n,_,_,q3_,b,hb=>by
  obtain⟨a,vs,e,q,z,g⟩:=q3_;subst g;rw[bE.mp hb]
  exact⟨_,q,rfl⟩
 |.dT ks os,_,_,q3_,b,hb=>by
  obtain⟨a,vs,fs,e,q,z,r,g⟩:=q3_;subst g
  rcases bh.mp hb with z |z
  .subst z;exact⟨_,q,rfl⟩
  .exact OTs.memM os vs fs r b z
 |.at _ o,v,f,h,a,ha=>OT.memM o v f h.2 a ha
 |.any,_,_,h,a,ha=>by rw[show _=[]from h]at ha;cases ha
theorem OTs.memM:∀(os:List O) (vs:LVv) (f:LAd),OTs G Hf H os vs f->∀a∈f,∃u,H a=aa u/\ix u=af
 | [],_,_,h,a,ha=>by rw[h.2]at ha;cases ha
 |o::os,_,_,q3_,a,ha=>by
  obtain⟨v,r,f1,f2,e,c,h2,b⟩:=q3_;subst b
  rcases bv.mp ha with z |z
  .exact OT.memM o v f1 c a z
  .exact OTs.memM os r f2 h2 a z
end
mutual
theorem OT.repM(s:aq Hf H):∀(o:O) (v:V) (f:LAd),o.kn=ac->OT G Hf H o v f->Rep G H o.toD v
 |.fz d,_,_,_,h=>by rw[O.toD];exact h.1.up s
 |.lst os,_,_,hk,h_=>by obtain⟨a,vs,fs,e,q,r,b⟩:=h_;rw[O.kn]at hk;rw[O.toD];exact⟨a,vs,e,q,OTs.repM s os vs fs hk r⟩
 |.tup os,_,f,hk,h_=>by obtain⟨a,vs,e,q,r⟩:=h_;rw[O.kn]at hk;rw[O.toD];exact⟨a,vs,e,q,OTs.repM s os vs f hk r⟩
 |.dic ks os,_,_,hk,h_=>by obtain⟨a,vs,fs,e,q,z,r,b⟩:=h_;rw[O.kn]at hk;rw[O.toD];exact⟨a,vs,e,q,z,OTs.repM s os vs fs hk r⟩
 |.ins c ns os,_,_,hk,h_=>by obtain⟨a,dx,vs,fs,e,q,z,r,b⟩:=h_;rw[O.kn]at hk;rw[O.toD];exact⟨a,dx,vs,e,q,z,OTs.repM s os vs fs hk r⟩
 |.at _ o,v,f,hk,h=>by rw[O.kn]at hk;rw[O.toD];exact OT.repM s o v f hk h.2
 |.jnk _,_,_,hk,_=>by rw[O.kn]at hk;cases hk
 |.dT ks os,_,_,hk,h_=>by obtain⟨a,vs,fs,e,q,z,r,b⟩:=h_;rw[O.kn]at hk;rw[O.toD];exact⟨a,vs,e,q,z,OTs.repM s os vs fs hk r⟩
 |.any,_,_,hk,_=>by rw[O.kn]at hk;cases hk
theorem OTs.repM(s:aq Hf H):∀(os:List O) (vs:LVv) (f:LAd),O.kns os=ac->OTs G Hf H os vs f->am G H (O.toDs os) vs
 | [],_,_,_,h=>by rw[O.toDs];exact h.1
 |o::os,_,_,hk,h_=>by
  obtain⟨v,r,f1,f2,e,a,h2,b⟩:=h_;rw[O.kns,cL]at hk;rw[O.toDs];exact⟨v,r,e,OT.repM s o v f1 hk.1 a,OTs.repM s os r f2 hk.2 h2⟩
end
def OT.rep{o:O}{f:LAd}(h:OT G Hf H o v f)(s:aq Hf H)(a:o.kn=ac):Rep G H o.toD v:=OT.repM s o v f a h
def OTs.fz:∀{ds:LD} {vs:LVv},am G Hf ds vs->OTs G Hf H (ds.map .fz) vs []
 | [],_,h=>⟨h,rfl⟩
 |d::ds,_,⟨v,r,e,h1,h2⟩=>⟨v,r,[],[],e,⟨h1,rfl⟩,OTs.fz h2,rfl⟩
def xP(ds:LD):O.toDs (ds.map .fz)=ds:=by
 induction ds with
 |nil=>rfl
 |cons d ds a=>rw[bF,O.toDs,O.toD,a]
inductive Sl where
 |no
 |im (d:D)
 |own (C:LD)
 |ownd (ks:List Key) (C:LD)
 |obj (c:Str) (ns:LSt) (C:LD)
 |pin (l:Addr) (C:LD)
 |pind (l:Addr) (ks:List Key) (C:LD)
 |pino (l:Addr) (c:Str) (ns:LSt) (C:LD)
 |deep (o:O)
 |val (u:V)
nonrec abbrev LS:=List Sl
nonrec def nZ{a:Type}:LS->Option (List a):=λ_=>aa []
nonrec def kY:LS->Option Bool:=λ_=>aa ac
nonrec def kN:LS->OD:=λ_=>aa .non
nonrec def kI(i:Int):LS->OD:=λ_=>aa (.int i)
nonrec def kSt(x:Str):LS->OD:=λ_=>aa (.str x)
nonrec def kBl(b:Bool):LS->OD:=λ_=>aa (.bl b)
nonrec abbrev MF1:=LS->OD
nonrec abbrev MF2:=LS->OLD
nonrec abbrev MF4:=LS->Option Bool
abbrev Sl.isOwn:Sl->Bool
 |.own _=>ac
 |.ownd _ _=>ac
 |.obj _ _ _=>ac
 |.pin _ _=>ac
 |.pind _ _ _=>ac
 |.pino _ _ _ _=>ac
 | _=>af
abbrev Sl.calm:Sl->Bool
 |.no=>ac
 |.im _=>ac
 | _=>af
abbrev i7(G:Gc)(Hf H:Hp)(l:Addr):Sl->Prop
 |.own ds=>∃vs,H l=aa (.lst vs)/\am G Hf ds vs
 |.ownd ks ds=>∃vs,H l=aa (.dK (ks.zip vs))/\ks.length=vs.length/\am G Hf ds vs
 |.obj c ns ds=>∃dx vs,H l=aa (.ins (G.cl c) dx (ns.zip vs))/\ns.length=vs.length/\am G Hf ds vs
 |.pin a ds=>l=a/\∃vs,H l=aa (.lst vs)/\am G Hf ds vs
 |.pind a ks ds=>l=a/\∃vs,H l=aa (.dK (ks.zip vs))/\ks.length=vs.length/\am G Hf ds vs
 |.pino a c ns ds=>l=a/\∃dx vs,H l=aa (.ins (G.cl c) dx (ns.zip vs))/\ns.length=vs.length/\am G Hf ds vs
 | _=>False
variable{l:Addr}
def i7.there2{s:Sl}(h:i7 G Hf H l s):∃o,H l=aa o/\ix o=af:=by
 cases s with
 |own ds=>obtain⟨vs,h,_⟩:=h;exact⟨_,h,rfl⟩
 |ownd ks ds=>obtain⟨vs,h,_⟩:=h;exact⟨_,h,rfl⟩
 |obj c ns ds=>obtain⟨dx,vs,h,_⟩:=h;exact⟨_,h,rfl⟩
 |pin a ds=>obtain⟨_,vs,h,_⟩:=h;exact⟨_,h,rfl⟩
 |pind a ks ds=>obtain⟨_,vs,h,_⟩:=h;exact⟨_,h,rfl⟩
 |pino a c ns ds=>obtain⟨_,dx,vs,h,_⟩:=h;exact⟨_,h,rfl⟩
 | _=>exact h.elim
def i7.up{s:Sl}(h:i7 G Hf H l s)(f:aq Hf Hf')(e:∀o,H l=aa o->H' l=aa o):i7 G Hf' H' l s:=by
 cases s with
 |own ds=>obtain⟨vs,h,r⟩:=h;exact⟨vs,e _ h,r.up f⟩
 |ownd ks ds=>obtain⟨vs,h,z,r⟩:=h;exact⟨vs,e _ h,z,r.up f⟩
 |obj c ns ds=>obtain⟨dx,vs,h,z,r⟩:=h;exact⟨dx,vs,e _ h,z,r.up f⟩
 |pin a ds=>obtain⟨q,vs,h,r⟩:=h;exact⟨q,vs,e _ h,r.up f⟩
 |pind a ks ds=>obtain⟨q,vs,h,z,r⟩:=h;exact⟨q,vs,e _ h,z,r.up f⟩
 |pino a c ns ds=>obtain⟨q,dx,vs,h,z,r⟩:=h;exact⟨q,dx,vs,e _ h,z,r.up f⟩
 | _=>exact h.elim
abbrev gC(G:Gc)(H0 Hf H:Hp)(v:Option V):Sl->Prop
 |.no=>True
 |.im d=>∃u,v=aa u/\Rep G Hf d u
 |.deep o=>∃u fp,v=aa u/\OT G Hf H o u fp/\fp.Nodup/\∀a∈fp,H0 a=ab/\Hf a=ab
 |.val u=>v=aa u
 |s=>∃l,v=aa (.ref l)/\H0 l=ab/\Hf l=ab/\i7 G Hf H l s
variable{H0:Hp}
def gC.own{v:Option V}{s:Sl}(a:s.isOwn=ac)(h:gC G H0 Hf H v s):∃l,v=aa (.ref l)/\H0 l=ab/\Hf l=ab/\i7 G Hf H l s:=by
 cases s <;> first |exact h |cases a
def gC.ofOwn{v:Option V}{s:Sl}(a:s.isOwn=ac)(h:∃l,v=aa (.ref l)/\H0 l=ab/\Hf l=ab/\i7 G Hf H l s):gC G H0 Hf H v s:=by
 cases s <;> first |exact h |cases a
abbrev Holds(G:Gc)(Hf H:Hp)(s:Sl)(v:V)(a:Addr):Prop:=match s with
 |.deep o=>∃fp,OT G Hf H o v fp/\a∈fp
 |s=>s.isOwn=ac/\v=.ref a
def Holds.own{s:Sl}(b:s.isOwn=ac):Holds G Hf H s v a↔v=.ref a:=by
 cases s <;> first |exact⟨λh=>h.2,λh=>⟨rfl,h⟩⟩ |nomatch b
def Holds.calm{s:Sl}(h:Holds G Hf H s v a)(b:s.calm=ac):False:=by
 cases s <;> first |exact sI h.1 |nomatch b
def gC.back{s:Sl}(q:gC G H0 Hf H (aa v) s)(k:∀o fp,s=.deep o->OT G Hf H o v fp->OT G Hf' H' o v fp)(h:Holds G Hf' H' s v a):Holds G Hf H s v a:=by
 cases s with
 |deep o=>
  obtain⟨u,fp,e,r,_⟩:=q;cases e;obtain⟨fp',b,ha⟩:=h;have:=OT.funM o v fp fp' (k o fp rfl r) b;subst this
  exact⟨fp,r,ha⟩
 | _=>exact h
def gC.there{s:Sl}(q:gC G H0 Hf H (aa v) s)(h:Holds G Hf H s v a):∃o,H a=aa o/\ix o=af:=by
 cases b:s.isOwn with
 |true=>
  obtain⟨l,e,_,_,c⟩:=q.own b;cases e;cases ((Holds.own b).mp h)
  exact c.there2
 |false=>
  cases s with
  |deep o=>
   obtain⟨fp,r,ha⟩:=h
   exact OT.memM o v fp r a ha
  | _=>first |exact sI h.1 |nomatch b
structure ar(G:Gc)(Hf0 H0 Hf H:Hp)(E:St)(M:LS):Prop where
 ext:Ext Hf0 H0 Hf H
 len:E.length=M.length
 at':∀(i:Nat) (v:Option V) (s:Sl),E[i]?=aa v->M[i]?=aa s->gC G H0 Hf H v s
 dj:∀(i j:Nat) (s t:Sl) (v w:V) (a:Addr),M[i]?=aa s->M[j]?=aa t->E[i]?=aa (aa v)->E[j]?=aa (aa w)->Holds G Hf H s v a->Holds G Hf H t w a->i=j
variable{Hf0:Hp}{M:LS}
def ar.sub(h:ar G Hf0 H0 Hf H E M):aq Hf H:=h.ext.s
def ar.inj(h:ar G Hf0 H0 Hf H E M)(i j:Nat)(s t:Sl)(l:Addr)(a:M[i]?=aa s)(b:M[j]?=aa t)(e:s.isOwn=ac)(f:t.isOwn=ac)(c:E[i]?=aa (aa (.ref l)))(d:E[j]?=aa (aa (.ref l))):i=j:=
 h.dj i j s t _ _ l a b c d ((Holds.own e).mpr rfl) ((Holds.own f).mpr rfl)
variable{ρ':LS}
def ar.re{d g:Hp}(h:ar G Hf0 H0 Hf H E M)(x:Ext d g Hf' H')(l:ρ'.length=M.length)(ha:∀(i:Nat) (v:Option V) (s:Sl),E[i]?=aa v->ρ'[i]?=aa s->gC G g Hf' H' v s)
 (hd:∀(i:Nat) (s:Sl) (v:V) (a:Addr),ρ'[i]?=aa s->E[i]?=aa (aa v)->Holds G Hf' H' s v a->∃t,M[i]?=aa t/\Holds G Hf H t v a):ar G d g Hf' H' E ρ':=
 ⟨x,h.len.trans l.symm,ha,λi j s t v w a b c e f p q=>by
  obtain⟨r,b0,m⟩:=hd i s v a b e p;obtain⟨t0,c0,n⟩:=hd j t w a c f q;exact h.dj i j r t0 v w a b0 c0 e f m n⟩
def ar.step(h:ar G Hf0 H0 Hf H E M)(e:Ext Hf H Hf' H'):ar G Hf0 H0 Hf' H' E M:=by
 refine h.re (h.ext.trans e) rfl (λi v s a b=>?_) λi s v a b c d=>⟨s,b,(h.at' i _ s c b).back (λo fp _ r=>r.up e.f e.h) d⟩;have q:=h.at' i v s a b
 cases m:s.isOwn with
 |true=>
  obtain⟨l,g,x,y,w⟩:=q.own m;obtain⟨o,j,p⟩:=w.there2
  exact .ofOwn m ⟨l,g,x,by rw[e.n l o j p];exact y,w.up e.f λo j=>e.h _ _ j⟩
 |false=>
  cases s with
  |no=>trivial
  |im d=>obtain⟨u,g,r⟩:=q;exact⟨u,g,r.up e.f⟩
  |val u=>exact q
  |deep o=>
   obtain⟨u,fp,g,r,n,z⟩:=q;refine⟨u,fp,g,r.up e.f e.h,n,λa ha=>⟨(z a ha).1,?_⟩⟩;obtain⟨A,j,p⟩:=OT.memM o u fp r a ha;rw[e.n a A j p]
   exact(z a ha).2
  | _=>nomatch m
def ar.slot{s:Sl}(h:ar G Hf0 H0 Hf H E M)(e:M[i]?=aa s):∃v,E[i]?=aa v/\gC G H0 Hf H v s:=by
 have hi:i<E.length:=by rw[h.len];exact(cU.mp e).1
 exact⟨E[i],by simp[hi],h.at' i _ s (by simp[hi]) e⟩
def ar.imm(h:ar G Hf0 H0 Hf H E M)(e:M[i]?=aa (.im d)):∃v,E[i]?=aa (aa v)/\Rep G Hf d v:=by
 obtain⟨v,a,u,b,r⟩:=h.slot e;subst b;exact⟨u,a,r⟩
def ar.ownAt{s:Sl}(c:s.isOwn=ac)(h:ar G Hf0 H0 Hf H E M)(e:M[i]?=aa s):∃l,E[i]?=aa (aa (.ref l))/\H0 l=ab/\Hf l=ab/\i7 G Hf H l s:=by
 obtain⟨v,a,q⟩:=h.slot e;obtain⟨l,b,d⟩:=q.own c;rw[b]at a;exact⟨l,a,d⟩
variable{j:Nat}
def cR{b:Type}{l:List b}{x y:b}(h:(l.set i x)[j]?=aa y):(j=i/\y=x/\i<l.length)\/(j≠i/\l[j]?=aa y):=by
 by_cases a:j=i
 .subst a;left;have hi:j<l.length:=by have:=(cU.mp h).1;simpa using this
  rw[jU hi]at h;exact⟨rfl,(dk h).symm,hi⟩
 .right;rw[kK (eG a)]at h;exact⟨a,h⟩
def ar.setIm(h:ar G Hf0 H0 Hf H E M)(r:Rep G Hf d v):ar G Hf0 H0 Hf H (E.set i (aa v)) (M.set i (.im d)):=by
 refine⟨h.ext,by simpa using h.len,λj u s a b=>?_,λj k s t u w l a b c d' p q=>?_⟩
 .rcases cR b with⟨e,e',_⟩ |⟨e,b⟩
  .subst e e'
   rcases cR a with⟨_,e',_⟩ |⟨e,_⟩
   .subst e';exact⟨v,rfl,r⟩
   .exact absurd rfl e
  .rcases cR a with⟨e',_⟩ |⟨_,a⟩
   .exact absurd e' e
   .exact h.at' j u s a b
 .rcases cR a with⟨e,e',_⟩ |⟨e,a⟩
  .subst e';exact(p.calm rfl).elim
  .rcases cR b with⟨f,e',_⟩ |⟨f,b⟩
   .subst e';exact(q.calm rfl).elim
   .rcases cR c with⟨e',_⟩ |⟨_,c⟩
    .exact absurd e' e
    .rcases cR d' with⟨e',_⟩ |⟨_,d'⟩
     .exact absurd e' f
     .exact h.dj j k s t u w l a b c d' p q
def ar.setNo(h:ar G Hf0 H0 Hf H E M):ar G Hf0 H0 Hf H E (M.set i .no):=by
 refine h.re h.ext (by simp) (λj u s a b=>?_) λj s v a b c d=>?_
 .rcases cR b with⟨e,e',_⟩ |⟨e,b⟩
  .subst e';trivial
  .exact h.at' j u s a b
 .rcases cR b with⟨e,e',_⟩ |⟨e,b⟩
  .subst e';exact(d.calm rfl).elim
  .exact⟨s,b,d⟩
variable{u:V}
def ar.setNew{s:Sl}(h:ar G Hf0 H0 Hf H E M)(e:Ext Hf H Hf' H')(n:gC G H0 Hf' H' (aa u) s)(hn:∀a,Holds G Hf' H' s u a->H a=ab):
  ar G Hf0 H0 Hf' H' (E.set i (aa u)) (M.set i s):=by
 have h':=h.step e
 have no:∀j t w a,M[j]?=aa t->E[j]?=aa _->Holds G Hf' H' t w a->Holds G Hf' H' s u a->False:=λj t w a b c p q=>by
  obtain⟨o,n,_⟩:=(h.at' j _ t c b).there ((h.at' j _ t c b).back (λo fp _ r=>r.up e.f e.h) p);rw[hn a q]at n;nomatch n
 refine⟨h'.ext,by simpa using h.len,λj w t a b=>?_,λj k t t' v w l a b c d' p q=>?_⟩
 .rcases cR b with⟨e,e',_⟩ |⟨e,b⟩
  .subst e e'
   rcases cR a with⟨_,e',_⟩ |⟨e,_⟩
   .subst e';exact n
   .exact absurd rfl e
  .rcases cR a with⟨e',_⟩ |⟨_,a⟩
   .exact absurd e' e
   .exact h'.at' j w t a b
 .rcases cR a with⟨m,x,_⟩ |⟨m,a⟩
  .rcases cR b with⟨d,g,_⟩ |⟨d,b⟩
   .rw[m,d]
   .rcases cR c with⟨_,e',_⟩ |⟨e',_⟩
    .cases e';rw[x]at p
     rcases cR d' with⟨e',_⟩ |⟨_,d'⟩
     .exact absurd e' d
     .exact(no k t' w l b d' q p).elim
    .exact absurd m e'
  .rcases cR c with⟨e',_⟩ |⟨_,c⟩
   .exact absurd e' m
   .rcases cR b with⟨d,g,_⟩ |⟨d,b⟩
    .rcases cR d' with⟨_,e',_⟩ |⟨e',_⟩
     .cases e';rw[g]at q;exact(no j t v l a c p q).elim
     .exact absurd d e'
    .rcases cR d' with⟨e',_⟩ |⟨_,d'⟩
     .exact absurd e' d
     .exact h'.dj j k t t' v w l a b c d' p q
def ar.setOwn{s:Sl}(b:s.isOwn=ac)(h:ar G Hf0 H0 Hf H E M)(e:Ext Hf H Hf' H')(hn:H l=ab)(c:Hf' l=ab)(d:i7 G Hf' H' l s):
  ar G Hf0 H0 Hf' H' (E.set i (aa (.ref l))) (M.set i s):=
 h.setNew e (.ofOwn b ⟨l,rfl,h.ext.h.free hn,c,d⟩) λa p=>by cases (Holds.own b).mp p;exact hn
def ar.chg{s s':Sl}(h:ar G Hf0 H0 Hf H E M)(e:M[i]?=aa s)(el:E[i]?=aa (aa v))(k:∀b u,H b=aa u->Holds G Hf H s v b\/H' b=aa u)(ho:gC G H0 Hf H' (aa v) s')
 (hh:∀a,Holds G Hf H' s' v a->Holds G Hf H s v a\/∀(j:Nat) (t:Sl) (w:V),M[j]?=aa t->E[j]?=aa (aa w)->Holds G Hf H t w a->False):ar G Hf0 H0 Hf H' E (M.set i s'):=by
 have q:=h.at' i _ s el e
 have m:∀b,Holds G Hf H s v b->H0 b=ab/\Hf b=ab:=λb p=>by
  cases hs:s.isOwn with
  |true=>
   obtain⟨l,J,h0,hf,_⟩:=q.own hs;have A:=(Holds.own hs).mp p;cases J;cases A
   exact⟨h0,hf⟩
  |false=>
   cases s with
   |deep o=>
    obtain⟨u,fp,J,r,n,z⟩:=q;cases J;obtain⟨fp',r',ha⟩:=p;have:=OT.funM o v fp fp' r r';subst this
    exact z b ha
   | _=>first |exact sI p.1 |nomatch hs
 have fr:∀j t w,j≠i->M[j]?=aa t->E[j]?=aa (aa w)->∀o fp,t=.deep o->OT G Hf H o w fp->OT G Hf H' o w fp:=λj t w hj b c o fp et r=>by
  subst et;refine r.frame (aq.refl _) λx u hx hm=>?_
  rcases k x u hx with z |z
  .rcases hm with hm |hm
   .obtain⟨o',g,L⟩:=q.there z;rw[hx]at g;cases g;rw[hm]at L
    nomatch L
   .exact absurd (h.dj j i _ s w v x b e c el ⟨fp,r,hm⟩ z) hj
  .exact z
 refine⟨⟨h.ext.f,λb u e=>?_,λb u e=>?_,h.ext.n⟩,by simpa using h.len,λj u t a b=>?_,λj T t t' w Y a b c b' N p p'=>?_⟩
 .rcases k b u (h.ext.h b u e)with z |z
  .rw[(m b z).1]at e;nomatch e
  .exact z
 .rcases k b u (h.ext.s b u e)with z |z
  .rw[(m b z).2]at e;nomatch e
  .exact z
 .rcases cR b with⟨e',A,_⟩ |⟨en,b⟩
  .subst e' A;rw[el]at a;cases a;exact ho
  .have U:=h.at' j u t a b
   cases Q:t.isOwn with
   |false=>
    cases t with
    |no=>trivial
    |im d=>exact U
    |val u=>exact U
    |deep o=>
     obtain⟨w,fp,J,r,n,z⟩:=U;subst J
     exact⟨w,fp,rfl,fr j _ w en b a o fp rfl r,n,z⟩
    | _=>nomatch Q
   |true=>
    obtain⟨l2,A,e3,e4,q2⟩:=U.own Q;subst A;refine .ofOwn Q ⟨l2,rfl,e3,e4,q2.up (aq.refl _) λo' g=>?_⟩
    rcases k l2 o' g with z |z
    .exact absurd (h.dj j i t s _ v l2 b e a el ((Holds.own Q).mpr rfl) z) en
    .exact z
 .have B:∀j t w,_[j]?=aa t->E[j]?=aa (aa w)->Holds G Hf H' t w a->(j=i/\∀j t w,M[j]?=aa t->E[j]?=aa (aa w)->Holds G Hf H t w a->False)\/∃t0,M[j]?=aa t0/\Holds G Hf H t0 w a:=λj t w b y p=>by
   rcases cR b with⟨e',A,_⟩ |⟨en,b⟩
   .rw[A]at p;rw[e',el]at y;cases y;rw[e']
    rcases hh a p with z |z
    .exact .inr ⟨s,e,z⟩
    .exact .inl ⟨rfl,z⟩
   .exact .inr ⟨t,b,(h.at' j _ t y b).back (fr j t w en b y) p⟩
  rcases B j t w b b' p with⟨z1,z2⟩ |⟨t0,z1,z2⟩
  .rcases B T t' Y c N p' with⟨C,I⟩ |⟨t1,C,I⟩
   .rw[z1,C]
   .exact(z2 T t1 Y C N I).elim
  .rcases B T t' Y c N p' with⟨C,I⟩ |⟨t1,C,I⟩
   .exact(I j t0 w z1 b' z2).elim
   .exact h.dj j T t0 t1 w Y a z1 C b' N z2 I
def ar.chgX{s l:Sl}(h:ar G Hf0 H0 Hf H E M)(x:Ext Hf H Hf' H1)(e:M[i]?=aa s)(el:E[i]?=aa (aa v))(k:∀b u,H1 b=aa u->Holds G Hf H s v b\/H' b=aa u)(d:gC G H0 Hf' H' (aa v) l)
 (m:∀a,Holds G Hf' H' l v a->Holds G Hf H s v a\/H a=ab):ar G Hf0 H0 Hf' H' E (M.set i l):=by
 have up:∀b,Holds G Hf H s v b->Holds G Hf' H1 s v b:=λb p=>by
  cases s with
  |deep o=>obtain⟨fp,r,g⟩:=p;exact⟨fp,r.up x.f x.h,g⟩
  | _=>exact p
 refine(h.step x).chg e el (λb u g=>(k b u g).imp_left (up b)) d λa p=>?_
 rcases m a p with z |z
 .exact .inl (up a z)
 .refine .inr λj t w b c q=>?_;obtain⟨o,d,_⟩:=(h.at' j _ t c b).there ((h.at' j _ t c b).back (λo fp _ r=>r.up x.f x.h) q);rw[z]at d
  nomatch d
def ar.mutd{s f:Sl}{o:HO}(d:s.isOwn=ac)(c:f.isOwn=ac)(h:ar G Hf0 H0 Hf H E M)(e:M[i]?=aa s)(el:E[i]?=aa (aa (.ref l)))(v:i7 G Hf (upd H l o) l f):
  ar G Hf0 H0 Hf (upd H l o) E (M.set i f):=by
 obtain⟨w,g,m,r,q⟩:=h.ownAt d e;rw[el]at g;cases g;refine h.chg e el (λb u n=>?_) (.ofOwn c ⟨l,rfl,m,r,v⟩) λa p=>.inl ((Holds.own d).mpr ((Holds.own c).mp p))
 by_cases j:b=l
 .subst j;exact .inl ((Holds.own d).mpr rfl)
 .exact .inr (by rw[aK j];exact n)
def ar.fixd{s:Sl}{o:HO}(B:s.isOwn=ac)(h:ar G Hf0 H0 Hf H E M)(e:M[i]?=aa s)(el:E[i]?=aa (aa (.ref l)))(U:H l=aa o)(hr:Rep G (upd Hf l o) d (.ref l)):
  ar G Hf0 H0 (upd Hf l o) H E (M.set i (.im d)):=by
 obtain⟨l',f,T,g,q⟩:=h.ownAt B e;rw[el]at f;cases f;refine h.re (h.ext.fix T g U) (by simp) (λj u t a b=>?_) λj t v a b c p=>?_
 .rcases cR b with⟨e,e',_⟩ |⟨en,b⟩
  .subst e e';rw[el]at a;cases a;exact⟨_,rfl,hr⟩
  .have q:=h.at' j u t a b
   cases m:t.isOwn with
   |false=>
    cases t with
    |no=>trivial
    |im d=>obtain⟨J,f,r⟩:=q;exact⟨J,f,r.up (bN g)⟩
    |val J=>exact q
    |deep o=>
     obtain⟨w,fp,f,r,n,z⟩:=q;subst f;refine⟨w,fp,rfl,r.up (bN g) (aq.refl _),n,λx C=>⟨(z x C).1,?_⟩⟩;rw[aK (λy=>?_)]
     .exact(z x C).2
     .subst y
      exact en (h.dj j i _ s w _ x b e a el ⟨fp,r,C⟩ ((Holds.own B).mpr rfl))
    | _=>nomatch m
   |true=>
    obtain⟨I,L,N,Q,Y⟩:=q.own m;subst L;refine .ofOwn m ⟨I,rfl,N,?_,Y.up (bN g) λo' A=>A⟩;rw[aK (λz=>?_)]
    .exact Q
    .subst z;exact en (h.inj j i t s I b e m B a el)
 .rcases cR b with⟨_,e',_⟩ |⟨_,b⟩
  .subst e';exact(p.calm rfl).elim
  .exact⟨t,b,(h.at' j _ t c b).back (λo fp _ r=>r.up (bN g) (aq.refl _)) p⟩
def PE.imp{t':TE}(h:PE X e t)(i:∀E H Q,t' E H Q->t E H Q):PE X e t':=λU s E H Q I q=>h U s E H Q I (i E H Q q)
variable{t':TT}
def PT.imp{t:TT}(h:PT X e t)(i:∀E H Q,t' E H Q->t E H Q):PT X e t':=λU s E H Q I q=>h U s E H Q I (i E H Q q)
def PW.imp{t:TT}(h:PW X e t)(i:∀E H Q,t' E H Q->t E H Q):PW X e t':=λwh U s E H Q I q=>h wh U s E H Q I (i E H Q q)
variable{es:LEx}
def PA.imp{t t':TA}(h:PA X es t)(i:∀E H Q,t' E H Q->t E H Q):PA X es t':=λpos U s E H Q I q=>h pos U s E H Q I (i E H Q q)
def PS.imp{st:Stmt}{t t':TS}(h:PS X st t)(i:∀V4 E H,t' V4 E H->t V4 E H):PS X st t':=λU s E H V4 I q=>h U s E H V4 I (i V4 E H q)
def PSs.imp{st:List Stmt}{t t':TS}(h:PSs X st t)(i:∀V4 E H,t' V4 E H->t V4 E H):PSs X st t':=λU s E H V4 I q=>h U s E H V4 I (i V4 E H q)
def PG.imp{t t':TG}(h:PG X e t)(i:∀v E H Q,t' v E H Q->t v E H Q):PG X e t':=λU s E H v u Q I r q=>h U s E H v u Q I r (i v E H Q q)
def PGs.imp{t t':TGs}(h:PGs X es t)(i:∀v E H Q,t' v E H Q->t v E H Q):PGs X es t':=λU s E H v u Q I r q=>h U s E H v u Q I r (i v E H Q q)
def PI.imp{t t':TI}(h:PI X tg e t)(i:∀E H R,t' E H R->t E H R):PI X tg e t':=λU s E H R I q=>h U s E H R I (i E H R q)
def PTs.imp{t:TT}(h:PTs X c3 t)(i:∀E H Q,t' E H Q->t E H Q):PTs X c3 t':=λU s E H Q I q=>h U s E H Q I (i E H Q q)
def OpR.imp{f:Value->Value->Sem Value}{r a:R2}(h:OpR X f r)(i:∀x y H Q,a x y H Q->r x y H Q):OpR X f a:=λU s E H x y v u Q I b c q=>h U s E H x y v u Q I b c (i x y H Q q)
def iu.imp{f:Value}{r a:LVv->Hp->VK->Prop}(h:iu X f r)(i:∀C H Q,a C H Q->r C H Q):iu X f a:=λU s E H C us Q I b q=>h U s E H C us Q I b (i C H Q q)
nonrec def Gx(c:Str->Addr)(X:Cx):Gc:=⟨X.K,c⟩
inductive tD(G:Gc)(f:MF1)(E:St)(H:Hp)(Q:VK):Prop
 |mk:∀Hf0 H0 Hf M d,ar G Hf0 H0 Hf H E M->f M=aa d->(∀v Hf' H',Ext Hf H Hf' H'->Rep G Hf' d v->Q v H')->tD G f E H Q
inductive tDB(G:Gc)(f:MF1)(E:St)(H:Hp)(Q:VK):Prop
 |mk:∀Hf0 H0 Hf M d,ar G Hf0 H0 Hf H E M->f M=aa d->(∀v Hf' H',Ext Hf H Hf' H'->Rep G H' d v->Q v H')->tDB G f E H Q
inductive tDC(G:Gc)(f:MF2)(E:St)(H:Hp)(Q:VK):Prop
 |mk:∀Hf0 H0 Hf M ds,ar G Hf0 H0 Hf H E M->f M=aa ds->(∀a vs Hf' H',Ext Hf H Hf' H'->(SqL G.K H' a vs\/SqT G.K H' a vs)->am G Hf' ds vs->Q (.ref a) H')->tDC G f E H Q
inductive tDO(G:Gc)(f:MF2)(E:St)(H:Hp)(Q:VK):Prop
 |mk:∀Hf0 H0 Hf M ds,ar G Hf0 H0 Hf H E M->f M=aa ds->(∀l vs Hf' H',Ext Hf H Hf' H'->H l=ab->Hf' l=ab->H' l=aa (.lst vs)->am G Hf' ds vs->Q (.ref l) H')->tDO G f E H Q
inductive tDA(G:Gc)(f:MF2)(E:St)(H:Hp)(Q:LVv->Hp->Prop):Prop
 |mk:∀Hf0 H0 Hf M ds,ar G Hf0 H0 Hf H E M->f M=aa ds->(∀vs Hf' H',Ext Hf H Hf' H'->am G Hf' ds vs->Q vs H')->tDA G f E H Q
inductive EO(G:Gc)(f:MF2)(E:St)(H:Hp)(Q:LVv->Hp->Prop):Prop
 |mk:∀Hf0 H0 Hf M ds,ar G Hf0 H0 Hf H E M->f M=aa ds->(∀vs Hf' H',Ext Hf H Hf' H'->am G H' ds vs->Q vs H')->EO G f E H Q
inductive tDT(G:Gc)(f:MF4)(E:St)(H:Hp)(Q:Bool->Hp->Prop):Prop
 |mk:∀Hf0 H0 Hf M b,ar G Hf0 H0 Hf H E M->f M=aa b->(∀Hf' H',Ext Hf H Hf' H'->Q b H')->tDT G f E H Q
abbrev DE(c:Str->Addr)(X:Cx)(e:Expr)(f:MF1):Prop:=PE X e (tD (Gx c X) f)
abbrev DB(c:Str->Addr)(X:Cx)(e:Expr)(f:MF1):Prop:=PE X e (tDB (Gx c X) f)
abbrev DC(c:Str->Addr)(X:Cx)(e:Expr)(f:MF2):Prop:=PE X e (tDC (Gx c X) f)
abbrev DO(c:Str->Addr)(X:Cx)(e:Expr)(f:MF2):Prop:=PE X e (tDO (Gx c X) f)
structure DA(c:Str->Addr)(X:Cx)(es:LEx)(f:MF2):Prop where
 pa:PA X es (tDA (Gx c X) f)
 len:∀M ds,f M=aa ds->ds.length=es.length
structure DAB(c:Str->Addr)(X:Cx)(es:LEx)(f:MF2):Prop where
 pa:PA X es (EO (Gx c X) f)
 len:∀M ds,f M=aa ds->ds.length=es.length
abbrev DT(c:Str->Addr)(X:Cx)(e:Expr)(f:MF4):Prop:=PT X e (tDT (Gx c X) f)
abbrev DW(c:Str->Addr)(X:Cx)(e:Expr)(f:MF4):Prop:=PW X e (tDT (Gx c X) f)
abbrev D.scalar:D->Bool
 |.non=>ac
 |.bl _=>ac
 |.int _=>ac
 |.str _=>ac
 | _=>af
def Rep.sc(a:d.scalar=ac)(r:Rep G H d v):Rep G H' d v:=by
 cases d <;> first |exact r |cases a
abbrev iy:D->OLD
 |.lst C=>aa C
 |.tup C=>aa C
 |.kl C=>aa C
 |.kt C=>aa C
 | _=>ab
def qz(e:iy d=aa ds)(r:Rep G H d v):∃a vs,v=.ref a/\(SqL G.K H a vs\/SqT G.K H a vs)/\am G H ds vs:=by
 cases d with
 |lst C=>cases e;obtain⟨a,vs,b,q,r⟩:=r;exact⟨a,vs,b,.inl (SqL.of q),r⟩
 |tup C=>cases e;obtain⟨a,vs,b,q,r⟩:=r;exact⟨a,vs,b,.inr (SqT.of q),r⟩
 |kl C=>cases e;obtain⟨a,vs,b,q,r⟩:=r;exact⟨a,vs,b,.inl q,r⟩
 |kt C=>cases e;obtain⟨a,vs,b,q,r⟩:=r;exact⟨a,vs,b,.inr q,r⟩
 | _=>nomatch e
def xQ(s:aq H H')(h:SqL K H a vs\/SqT K H a vs):SqL K H' a vs\/SqT K H' a vs:=h.imp s.seq s.tup
abbrev aO(f:MF2)(M:LS):OD:=(f M).map .lst
abbrev bj(f:MF2)(M:LS):OD:=(f M).map .tup
abbrev aV(f:MF1)(M:LS):OLD:=(f M).bind iy
abbrev bd(f g:MF1)(M:LS):OD:=(f M).or (g M)
variable{c:Str->Addr}{f:MF1}
def DE.db(h:DE c X e f):DB c X e f:=PE.imp h λE H Q b=>by
 obtain⟨Hf0,H0,Hf,M,d,st,a,k⟩:=b;exact(⟨Hf0,H0,Hf,M,d,st,a,λv Hf' H' x r=>k v Hf' H' x (r.up x.s)⟩)
def DE.dc(h:DE c X e f):DC c X e (aV f):=PE.imp h λE H Q j=>by
 obtain⟨Hf0,H0,Hf,M,ds,st,b,k⟩:=j;unfold aV at b
 cases g:f M with
 |none=>rw[g]at b;nomatch b
 |some d=>
  rw[g]at b;refine⟨Hf0,H0,Hf,M,d,st,g,λv Hf' H' x r=>?_⟩;obtain⟨a,vs,i,q,L⟩:=qz b r;subst i;exact k a vs Hf' H' x (xQ x.s q) L
def DO.de{f:MF2}(h:DO c X e f):DE c X e (aO f):=PE.imp h λE H Q j=>by
 obtain⟨Hf0,H0,Hf,M,d,st,a,k⟩:=j;unfold aO at a
 cases b:f M with
 |none=>rw[b]at a;nomatch a
 |some ds=>
  rw[b]at a;have a:=dk a;subst a;exact⟨Hf0,H0,Hf,M,ds,st,b,λl vs Hf' H' x hn g i r=>k _ _ H' (x.fix hn g i) ⟨l,vs,rfl,aZ,r.up (bN g)⟩⟩
def DO.dc{f:MF2}(h:DO c X e f):DC c X e f:=PE.imp h λE H Q d=>by
 obtain ⟨Hf0,H0,Hf,M,ds,st,a,k⟩:=d;exact (
 ⟨Hf0,H0,Hf,M,ds,st,a,λl vs Hf' H' x hn g b r=>k l vs Hf' H' x (.inl (SqL.of b)) r⟩)
def DE.orE{g:MF1}(h:DE c X e f)(h':DE c X e g):DE c X e (bd f g):=λU s E H Q I i=>by
 obtain⟨Hf0,H0,Hf,M,d,st,a,k⟩:=i;unfold bd at a
 cases b:f M with
 |some d'=>
  rw[b]at a;cases a
  exact h U s E H Q I ⟨Hf0,H0,Hf,M,_,st,b,k⟩
 |none=>
  rw[b]at a;exact h' U s E H Q I ⟨Hf0,H0,Hf,M,d,st,a,k⟩
abbrev ae(i:Nat)(M:LS):OD:=match M[i]? with
 |some (.im d)=>aa d
 | _=>ab
abbrev cD(i:Nat)(M:LS):OD:=match M[i]? with
 |some (.im d)=>aa d
 |some (.own C)=>aa (.lst C)
 |some (.ownd ks C)=>aa (.dic ks C)
 |some (.deep o)=>if o.kn then aa o.toD else ab
 | _=>ab
abbrev aw(i:Nat)(M:LS):OLD:=match M[i]? with
 |some (.im d)=>iy d
 |some (.own C)=>aa C
 | _=>ab
def EQ(h:ae i M=aa d):M[i]?=aa (.im d):=by
 unfold ae at h
 grind
def ER(h:PE X e (cQ i)):DE c X e (ae i):=PE.imp h λE H Q f=>by
 obtain⟨Hf0,H0,Hf,M,d,st,b,k⟩:=f;obtain⟨v,a,r⟩:=st.imm (EQ b);exact⟨v,a,k v Hf H (Ext.refl st.sub) r⟩
def ES(h:PE X e (cQ i)):DC c X e (aw i):=PE.imp h λE H Q j=>by
 obtain⟨Hf0,H0,Hf,M,ds,st,b,k⟩:=j;unfold aw at b
 cases es:M[i]? with
 |none=>rw[es]at b;nomatch b
 |some s=>
  rw[es]at b
  cases s with
  |im d=>
   obtain⟨v,f,r⟩:=st.imm es;obtain⟨a,vs,g,q,L⟩:=qz b r;subst g
   exact⟨_,f,k a vs Hf H (Ext.refl st.sub) (xQ st.sub q) L⟩
  |own C=>
   cases b;obtain⟨l,f,_,_,vs,q,r⟩:=st.ownAt rfl es
   exact⟨_,f,k l vs Hf H (Ext.refl st.sub) (.inl (SqL.of q)) r⟩
  | _=>nomatch b
def ET(h:PE X e (cQ i)):DB c X e (cD i):=PE.imp h λE H Q j=>by
 obtain⟨Hf0,H0,Hf,M,d,st,a,k⟩:=j;unfold cD at a
 cases es:M[i]? with
 |none=>simp only[es]at a;nomatch a
 |some s=>
  rw[es]at a
  cases s with
  |im d=>
   cases a;obtain⟨v,b,r⟩:=st.imm es
   exact⟨_,b,k v Hf H (Ext.refl st.sub) (r.up st.sub)⟩
  |own C=>
   cases a;obtain⟨l,b,_,_,vs,q,r⟩:=st.ownAt rfl es
   exact⟨_,b,k _ Hf H (Ext.refl st.sub) ⟨l,vs,rfl,q,r.up st.sub⟩⟩
  |ownd ks C=>
   cases a;obtain⟨l,b,_,_,vs,q,z,r⟩:=st.ownAt rfl es
   exact⟨_,b,k _ Hf H (Ext.refl st.sub) ⟨l,vs,rfl,q,z,r.up st.sub⟩⟩
  |deep o=>
   replace a:(if o.kn=ac then aa o.toD else ab)=aa d:=a;split at a
   .rename_i g;cases a;obtain⟨v,b,u,fp,f,r,_⟩:=st.slot es;subst f;exact⟨_,b,k _ Hf H (Ext.refl st.sub) (r.rep st.sub g)⟩
   .nomatch a
  | _=>nomatch a
def tR(h:PE X e (tC v))(r:∀G H,Rep G H d v):DE c X e (λ_=>aa d):=PE.imp h λE H Q b=>by
 obtain⟨Hf0,H0,Hf,M,d',st,a,k⟩:=b;cases a;exact k v Hf H (Ext.refl st.sub) (r _ _)
def EU{i:Int}{j}:DE c X (.Constant (.int i) j pos) (λ_=>aa (.int i)):=tR DQ λ_ _=>rfl
def EV{i:Bool}{j}:DE c X (.Constant (.bool i) j pos) (λ_=>aa (.bl i)):=tR J5 λ_ _=>rfl
def MK{j}:DE c X (.Constant .none j pos) kN:=tR J6 λ_ _=>rfl
def ML{i:Str}{j}:DE c X (.Constant (.str i) j pos) (λ_=>aa (.str i)):=tR J7 λ_ _=>rfl
def dv(i:Nat)(b:X.N[i]?=aa x:=by rfl)(hv:Vis X.env.scope x:=by first |exact bX rfl |exact bz (bX rfl) |exact bz (bz rfl))(hd:NDb x:=by decide)
 (a:NCd x:=by decide):DE c X (.Name x pos) (ae i):=ER (mx b hv hd a)
def dvC(i:Nat)(b:X.N[i]?=aa x:=by rfl)(hv:Vis X.env.scope x:=by first |exact bX rfl |exact bz (bX rfl) |exact bz (bz rfl))(hd:NDb x:=by decide)
 (a:NCd x:=by decide):DC c X (.Name x pos) (aw i):=ES (mx b hv hd a)
def dvB(i:Nat)(b:X.N[i]?=aa x:=by rfl)(hv:Vis X.env.scope x:=by first |exact bX rfl |exact bz (bX rfl) |exact bz (bz rfl))(hd:NDb x:=by decide)
 (a:NCd x:=by decide):DB c X (.Name x pos) (cD i):=ET (mx b hv hd a)
abbrev ag(f:MF1)(g:MF2)(M:LS):OLD:=(f M).bind λd=>(g M).map λds=>d::ds
variable{g:MF2}
def tS(h:ag f g M=aa ds):∃d r,f M=aa d/\g M=aa r/\ds=d::r:=by
 unfold ag at h
 cases a:f M with
 |none=>rw[a]at h;nomatch h
 |some d=>
  cases b:g M with
  |none=>rw[a,b]at h;nomatch h
  |some r=>rw[a,b]at h;cases h;exact⟨d,r,rfl,rfl,rfl⟩
def MM:DA c X [] nZ:=⟨PA.imp dZ λE H Q b=>by obtain⟨Hf0,H0,Hf,M,ds,st,a,k⟩:=b;cases a;exact k [] Hf H (Ext.refl st.sub) rfl,λM ds h=>by cases h;rfl⟩
def xR(ha:DE c X e f)(hr:DA c X es g)(m:StE X e es:=by rfl):DA c X (e::es) (ag f g):=by
 refine⟨PA.imp (eO ha hr.pa m) λE H Q n=>?_,λM ds h=>?_⟩
 .obtain⟨Hf0,H0,Hf,M,ds,st,l,k⟩:=n;obtain⟨d,r,b,a,rfl⟩:=tS l;exact⟨Hf0,H0,Hf,M,d,st,b,λv b3 H1 i p=>⟨Hf0,H0,b3,M,r,st.step i,a,λvs bm H2 j q=>k _ bm H2 (i.trans j) (.cons (p.up j.f) q)⟩⟩
 .obtain⟨d,r,b,a,rfl⟩:=tS h;simp[hr.len M r a]
def MN:DAB c X [] nZ:=⟨PA.imp dZ λE H Q b=>by obtain⟨Hf0,H0,Hf,M,ds,st,a,k⟩:=b;cases a;exact k [] Hf H (Ext.refl st.sub) rfl,λM ds h=>by cases h;rfl⟩
def qA(ha:DB c X e f)(hr:DAB c X es g)(m:StE X e es:=by rfl):DAB c X (e::es) (ag f g):=by
 refine⟨PA.imp (eO ha hr.pa m) λE H Q n=>?_,λM ds h=>?_⟩
 .obtain⟨Hf0,H0,Hf,M,ds,st,l,k⟩:=n;obtain⟨d,r,b,a,rfl⟩:=tS l;exact⟨Hf0,H0,Hf,M,d,st,b,λv b3 H1 i p=>⟨Hf0,H0,b3,M,r,st.step i,a,λvs bm H2 j q=>k _ bm H2 (i.trans j) (.cons (p.up j.h) q)⟩⟩
 .obtain⟨d,r,b,a,rfl⟩:=tS h;simp[hr.len M r a]
def MO{f:MF2}(h:DA c X es f)(hz:es.length<=1000:=by exact Nat.le_of_ble_eq_true rfl):DO c X (.List es pos) f:=PE.imp (tI h.pa) λE H Q d=>by
 obtain ⟨Hf0,H0,Hf,M,ds,st,b,k⟩:=d;exact (
 ⟨Hf0,H0,Hf,M,ds,st,b,λvs Hf' H' x r=>⟨by
  rw[<- r.length,h.len M ds b];exact fj (Ez hz),λp a=>k p vs Hf' _ (x.trans (Ext.tmp x.s a)) (x.h.free a) (x.s.free a) aZ r⟩⟩)
def EW{f:MF2}{g:Nat}(h:DA c X es f)(hz:es.length<=1000:=by exact Nat.le_of_ble_eq_true rfl):DE c X (.Tuple es g pos) (bj f):=PE.imp (LA h.pa) λE H Q i=>by
 obtain⟨Hf0,H0,Hf,M,d,st,a,k⟩:=i;unfold bj at a
 cases b:f M with
 |none=>rw[b]at a;nomatch a
 |some ds=>
  rw[b]at a;have a:=dk a;subst a
  exact⟨Hf0,H0,Hf,M,ds,st,b,λvs Hf' H' x r=>⟨by
   rw[<- r.length,h.len M ds b];exact fj (Ez hz),λp e=>k _ _ _ (x.trans (Ext.new x.s e)) ⟨p,vs,rfl,aZ,r.up (bN (x.s.free e))⟩⟩⟩
abbrev rD(G:Gc)(m:D->D->OD):R2:=λa b H Q=>∃Hf x y d,aq Hf H/\Rep G Hf x a/\Rep G Hf y b/\m x y=aa d/\∀v Hf' H',Ext Hf H Hf' H'->Rep G Hf' d v->Q v H'
nonrec abbrev OpD(c:Str->Addr)(X:Cx)(f:Value->Value->Sem Value)(m:D->D->OD):Prop:=OpR X f (rD (Gx c X) m)
abbrev m2(m:D->D->OD)(f g:MF1)(M:LS):OD:=(f M).bind λx=>(g M).bind λy=>m x y
variable{m:D->D->OD}{g:MF1}
def mJ(h:m2 m f g M=aa d):∃x y,f M=aa x/\g M=aa y/\m x y=aa d:=by
 unfold m2 at h
 cases a:f M with
 |none=>rw[a]at h;nomatch h
 |some x=>
  cases b:g M with
  |none=>rw[a,b]at h;nomatch h
  |some y=>rw[a,b]at h;exact⟨x,y,rfl,rfl,h⟩
variable{r:R2}
def two(hr:∀x y H Q,rD (Gx c X) m x y H Q->r x y H Q)(h:tD (Gx c X) (m2 m f g) E H Q):tOp r (tD (Gx c X) f) (tD (Gx c X) g) E H Q:=by
 obtain⟨Hf0,H0,Hf,M,d,st,p,k⟩:=h;obtain⟨x,y,j,l,n⟩:=mJ p;exact⟨Hf0,H0,Hf,M,x,st,j,λv b3 H1 e q=>⟨Hf0,H0,b3,M,y,st.step e,l,λu bm H2 b z=>hr _ _ _ _ ⟨bm,x,y,d,b.s,q.up b.f,z,n,λw a i B A=>k w a i ((e.trans b).trans B) A⟩⟩⟩
def EX(hr:∀x y H Q,rD (Gx c X) m x y H Q->r x y H Q)(q:∀x y d,m x y=aa d->d.scalar=ac)(h:tD (Gx c X) (m2 m f g) E H Q):tOp r (tDB (Gx c X) f) (tDB (Gx c X) g) E H Q:=by
 obtain⟨Hf0,H0,Hf,M,d,st,p,k⟩:=h;obtain⟨x,y,l,n,b⟩:=mJ p
 exact⟨Hf0,H0,Hf,M,x,st,l,λv b3 H1 e z=>⟨Hf0,H0,b3,M,y,st.step e,n,λu bm H2 a A=>hr _ _ _ _ ⟨H2,x,y,d,aq.refl _,z.up a.h,A,b,λw j i C B=>
  k w bm i ((e.trans a).trans (Ext.grow a.s C.h)) (B.sc (q _ _ _ b))⟩⟩⟩
variable{a b:Expr}
def xS{op:Operator}(e:OpD c X (fJ op) m)(ha:DE c X a f)(d:DE c X b g):DE c X (.BinOp a op b pos) (m2 m f g):=
 PE.imp (D4 e ha d) λ_ _ _ h=>two (λ_ _ _ _ h=>h) h
variable{op:CmpOp}
def MP(i:OpD c X (cV op) m)(j:∀x y d,m x y=aa d->d.scalar=ac)(ha:DB c X a f)(e:DB c X b g)(hm:kU op b=af:=by first |exact D7 _ |rfl):
  DE c X (.Compare a [op] [b] pos) (m2 m f g):=PE.imp (K9 i ha e hm) λ_ _ _ h=>EX (λ_ _ _ _ h=>h) j h
abbrev mB(f:MF1)(M:LS):Option Bool:=(f M).bind λd=>match d with
 |.bl b=>aa b
 | _=>ab
def tT{b:Bool}(h:mB f M=aa b):f M=aa (.bl b):=by
 unfold mB at h
 cases e:f M with
 |none=>rw[e]at h;nomatch h
 |some d=>rw[e]at h;cases d <;> cases h;rfl
def oH(j:OpD c X (cV op) m)(l:∀x y d,m x y=aa d->d.scalar=ac)(ha:DB c X a f)(i:DB c X b g)(hm:kU op b=af:=by first |exact D7 _ |rfl):
  DT c X (.Compare a [op] [b] pos) (mB (m2 m f g)):=PT.imp (Lb j ha i hm) λE H Q n=>by
 obtain ⟨Hf0,H0,Hf,M,b,st,e,k⟩:=n;exact (
 EX (λ_ _ _ _ h=>h) l ⟨Hf0,H0,Hf,M,.bl b,st,tT e,λv Hf' H' x r=>⟨b,r,k Hf' H' x⟩⟩)
abbrev mK:D->Option Bool
 |.non=>aa af
 |.bl b=>aa b
 |.int i=>aa (i != 0)
 |.str x=>if x.length<=16777216 then aa ((x.length:Int) != 0) else ab
 |.lst C=>aa (!C.isEmpty)
 |.tup C=>aa (!C.isEmpty)
 |.kl C=>aa (!C.isEmpty)
 |.kt C=>aa (!C.isEmpty)
 |.dic ks _=>aa (!ks.isEmpty)
 | _=>ab
def am.empty(r:am G H ds vs):ds.isEmpty=vs.isEmpty:=by
 cases ds with
 |nil=>cases (r);rfl
 |cons d ds=>obtain⟨v,a,e,_⟩:=r;subst e;rfl
def MQ{a b:Type}{ks:List a}{vs:List b}(h:ks.length=vs.length):(ks.zip vs).isEmpty=ks.isEmpty:=by
 cases ks <;> cases vs <;> first |rfl |cases h
def MR{b:Bool}(e:mK d=aa b)(r:Rep G H d v):xk G.K v H b:=by
 cases d with
 |non=>cases e;subst r;rfl
 |bl x=>cases e;subst r;rfl
 |int i=>cases e;subst r;rfl
 |str x=>
  subst r;replace e:(if x.length<=16777216 then aa _ else ab)=aa b:=e;split at e
  .rename_i f;cases e;exact⟨by rw[dq];exact f,rfl⟩
  .grind
 |lst C=>cases e;obtain⟨a,vs,c,q,r⟩:=r;subst c;exact .inl ⟨vs,SqL.of q,by rw[r.empty]⟩
 |tup C=>cases e;obtain⟨a,vs,c,q,r⟩:=r;subst c;exact .inr (.inl ⟨vs,SqT.of q,by rw[r.empty]⟩)
 |kl C=>cases e;obtain⟨a,vs,c,q,r⟩:=r;subst c;exact .inl ⟨vs,q,by rw[r.empty]⟩
 |kt C=>cases e;obtain⟨a,vs,c,q,r⟩:=r;subst c;exact .inr (.inl ⟨vs,q,by rw[r.empty]⟩)
 |dic ks C=>cases e;obtain⟨a,vs,c,q,l,r⟩:=r;subst c;exact .inr (.inr ⟨_,q,by rw[MQ l]⟩)
 |ins _ _ _=>nomatch e
 |kd _ _=>nomatch e
 |dT _ _=>nomatch e
abbrev bI(f:MF1)(M:LS):Option Bool:=(f M).bind mK
def xT(ha:DB c X a f)(i:∀e,isTrue a X.env e=(do let v <- e;gt a.pos;eJ [v] (truthy v)):=by intro _;rfl):DT c X a (bI f):=
 PT.imp (Le ha i) λE H Q j=>by
  obtain⟨Hf0,H0,Hf,M,b,st,g,k⟩:=j;unfold bI at g
  cases h:f M with
  |none=>rw[h]at g;nomatch g
  |some d=>
   rw[h]at g;exact⟨Hf0,H0,Hf,M,d,st,h,λv Hf' H' x r=>⟨b,MR g r,k Hf' H' x⟩⟩
abbrev dB(f g:MF4)(M:LS):Option Bool:=(f M).bind λb=>if b then g M else aa af
abbrev mOr(f g:MF4)(M:LS):Option Bool:=(f M).bind λb=>if b then aa ac else g M
abbrev gD(f:MF4)(M:LS):Option Bool:=(f M).map not
variable{f:MF4}
def DW.dt(h:DW c X e f):DT c X e f:=PW.pt h
def xU(h:DT c X a f):DW c X (.BoolOp .And [a] pos) f:=Kc h
def MS(h:DT c X a f):DW c X (.BoolOp .Or [a] pos) f:=Kd h
def xV{g:MF4}{rest:LEx}(h:DT c X a f)(h':DW c X (.BoolOp .And (b::rest) pos) g):DW c X (.BoolOp .And (a::b::rest) pos) (dB f g):=PW.imp (Ke h h') λE H Q j=>by
 obtain⟨Hf0,H0,Hf,M,b,st,d,k⟩:=j;unfold dB at d
 cases e:f M with
 |none=>rw[e]at d;nomatch d
 |some x=>
  rw[e]at d;refine⟨Hf0,H0,Hf,M,x,st,e,λb3 H1 i=>?_⟩
  cases x with
  |true=>rw[if_pos rfl];exact⟨Hf0,H0,b3,M,b,st.step i,d,λbm H2 l=>k bm H2 (i.trans l)⟩
  |false=>cases d;rw[if_neg bO];exact k b3 H1 i
def xX{g:MF4}{rest:LEx}(h:DT c X a f)(h':DW c X (.BoolOp .Or (b::rest) pos) g):DW c X (.BoolOp .Or (a::b::rest) pos) (mOr f g):=PW.imp (Kf h h') λE H Q j=>by
 obtain⟨Hf0,H0,Hf,M,b,st,d,k⟩:=j;unfold mOr at d
 cases e:f M with
 |none=>rw[e]at d;nomatch d
 |some x=>
  rw[e]at d;refine⟨Hf0,H0,Hf,M,x,st,e,λb3 H1 i=>?_⟩
  cases x with
  |false=>rw[if_neg bO];exact⟨Hf0,H0,b3,M,b,st.step i,d,λbm H2 l=>k bm H2 (i.trans l)⟩
  |true=>cases d;rw[if_pos rfl];exact k b3 H1 i
def MT(h:DT c X a f):DT c X (.UnaryOp .Not a pos) (gD f):=PT.imp (Kg h) λE H Q g=>by
 obtain⟨Hf0,H0,Hf,M,b,st,d,k⟩:=g;unfold gD at d
 cases e:f M with
 |none=>rw[e]at d;nomatch d
 |some x=>
  rw[e]at d;cases d;exact⟨Hf0,H0,Hf,M,x,st,e,λb3 H1 i=>k b3 H1 i⟩
abbrev i8(f g:MF1)(M:LS):OD:=(mB f M).bind λb=>if b then g M else aa (.bl af)
abbrev vOr(f g:MF1)(M:LS):OD:=(mB f M).bind λb=>if b then aa (.bl ac) else g M
abbrev mL(f:MF1)(M:LS):OD:=(mB f M).map λb=>.bl (!b)
variable{f:MF1}
def EY{op}(h:DE c X a f):DE c X (.BoolOp op [a] pos) f:=Kk h
def EZ{rest:LEx}(h:DE c X a f)(h':DE c X (.BoolOp .And (b::rest) pos) g):DE c X (.BoolOp .And (a::b::rest) pos) (i8 f g):=PE.imp (Kl h h') λE H Q l=>by
 obtain⟨Hf0,H0,Hf,M,d,st,e,k⟩:=l;unfold i8 at e
 cases i:mB f M with
 |none=>rw[i]at e;nomatch e
 |some x=>
  rw[i]at e;refine⟨Hf0,H0,Hf,M,.bl x,st,tT i,λv b3 H1 j m=>⟨x,m,?_⟩⟩
  cases x with
  |true=>rw[if_pos rfl];exact⟨Hf0,H0,b3,M,d,st.step j,e,λv bm H2 p n=>k v bm H2 (j.trans p) n⟩
  |false=>cases e;rw[if_neg bO];exact k _ b3 H1 j rfl
def MU{rest:LEx}(h:DE c X a f)(h':DE c X (.BoolOp .Or (b::rest) pos) g):DE c X (.BoolOp .Or (a::b::rest) pos) (vOr f g):=PE.imp (Km h h') λE H Q l=>by
 obtain⟨Hf0,H0,Hf,M,d,st,e,k⟩:=l;unfold vOr at e
 cases i:mB f M with
 |none=>rw[i]at e;nomatch e
 |some x=>
  rw[i]at e;refine⟨Hf0,H0,Hf,M,.bl x,st,tT i,λv b3 H1 j m=>⟨x,m,?_⟩⟩
  cases x with
  |false=>rw[if_neg bO];exact⟨Hf0,H0,b3,M,d,st.step j,e,λv bm H2 p n=>k v bm H2 (j.trans p) n⟩
  |true=>cases e;rw[if_pos rfl];exact k _ b3 H1 j rfl
def E3(h:DE c X a f):DE c X (.UnaryOp .Not a pos) (mL f):=PE.imp (Kn h) λE H Q g=>by
 obtain⟨Hf0,H0,Hf,M,d,st,b,k⟩:=g;unfold mL at b
 cases e:mB f M with
 |none=>rw[e]at b;nomatch b
 |some x=>
  rw[e]at b;cases b;exact⟨Hf0,H0,Hf,M,.bl x,st,tT e,λv b3 H1 j i=>⟨x,i,k _ b3 H1 j rfl⟩⟩
abbrev vIf(t:MF4)(f g:MF1)(M:LS):OD:=(t M).bind λb=>if b then f M else g M
variable{cd:Expr}
def E4{t:MF4}(m:DT c X cd t)(ha:DE c X a f)(l:DE c X b g):DE c X (.IfExp cd a b pos) (vIf t f g):=PE.imp (DR m ha l) λE H Q n=>by
 obtain⟨Hf0,H0,Hf,M,d,st,e,k⟩:=n;unfold vIf at e
 cases i:t M with
 |none=>rw[i]at e;nomatch e
 |some x=>
  rw[i]at e;refine⟨Hf0,H0,Hf,M,x,st,i,λb3 H1 h=>?_⟩
  cases x with
  |true=>rw[if_pos rfl];exact⟨Hf0,H0,b3,M,d,st.step h,e,λv bm H2 j r=>k v bm H2 (h.trans j) r⟩
  |false=>rw[if_neg bO];exact⟨Hf0,H0,b3,M,d,st.step h,e,λv bm H2 j r=>k v bm H2 (h.trans j) r⟩
noncomputable instance {i j:Int}:Decidable (qo i j):=by unfold qo;infer_instance
noncomputable instance {i j:Int}:Decidable (mD i j):=by unfold mD;infer_instance
noncomputable instance {i j:Int}:Decidable (qp i j):=by unfold qp;infer_instance
abbrev dI(V5:Int->Int->Prop)[∀i j,Decidable (V5 i j)](g:Int->Int->D):D->D->OD
 |.int i,.int j=>if V5 i j then aa (g i j) else ab
 | _,_=>ab
abbrev dI0(g:Int->Int->D):D->D->OD
 |.int i,.int j=>aa (g i j)
 | _,_=>ab
abbrev d7:D->D->OD
 |.int i,.int j=>aa (.int (i+j))
 |.str a,.str b=>if a.length+b.length<=16777216 then aa (.str (a++b)) else ab
 |.lst a,.lst b=>if a.length+b.length<=16777216 then aa (.lst (a++b)) else ab
 | _,_=>ab
nonrec def kc:D->D->OD:=dI0 λi j=>.int (i-j)
nonrec def ke:D->D->OD:=dI qo λi j=>.int (i / j)
nonrec def bJ:D->D->OD:=dI (λ_ j=>0<j) λi j=>.int (i % j)
nonrec def qB:D->D->OD:=dI mD λi j=>.int (i ^ j.toNat)
nonrec def dLt:D->D->OD:=dI0 λi j=>.bl (decide (i<j))
nonrec def dLe:D->D->OD:=dI0 λi j=>.bl (decide (i<=j))
nonrec def dGt:D->D->OD:=dI0 λi j=>.bl (decide (j<i))
nonrec def dGe:D->D->OD:=dI0 λi j=>.bl (decide (j<=i))
variable{gd:Int->Int->D}
def tU{f:Value->Value->Sem Value}{V5:Int->Int->Prop}[∀i j,Decidable (V5 i j)]{g:Int->Int->V}(h:OpR X f (rI V5 g))(b:∀G H i j,Rep G H (gd i j) (g i j)):OpD c X f (dI V5 gd):=by
 rintro U s E H r w v u Q I n p ⟨Hf,x,y,d,q,l,m,e,k⟩;unfold dI at e;split at e
 .split at e
  .rename_i a;cases e;exact h U s E H r w v u Q I n p ⟨_,_,l,m,a,k _ Hf H (Ext.refl q) (b _ _ _ _)⟩
  .grind
 .grind
def qC{f:Value->Value->Sem Value}{g:Int->Int->V}(h:OpR X f (rI0 g))(a:∀G H i j,Rep G H (gd i j) (g i j)):OpD c X f (dI0 gd):=by
 rintro U s E H q r v u Q I m n ⟨Hf,x,y,d,p,b,l,e,k⟩;unfold dI0 at e;split at e
 .cases e;exact h U s E H q r v u Q I m n ⟨_,_,b,l,k _ Hf H (Ext.refl p) (a _ _ _ _)⟩
 .nomatch e
def MV:OpD c X (fJ .Add) d7:=by
 rintro U s E H m n v u Q I j l ⟨Hf,x,y,d,h,f,g,e,k⟩;unfold d7 at e;split at e
 .cases e;exact KS U s E H m n v u Q I j l ⟨_,_,f,g,k _ Hf H (Ext.refl h) rfl⟩
 .split at e
  .rename_i i;cases e;exact Lf U s E H m n v u Q I j l ⟨_,_,f,g,by rw[dq];exact i,k _ Hf H (Ext.refl h) rfl⟩
  .nomatch e
 .split at e
  .rename_i i;cases e;obtain⟨a,vs,r,z,f⟩:=f;obtain⟨b,us,w,A,g⟩:=g
   exact Ex U s E H m n v u Q I j l ⟨a,b,vs,us,r,w,h _ _ z,h _ _ A,by rw[dq,<- f.length,<- g.length];exact i,
    λp q=>k _ _ _ (Ext.new h q) ⟨p,_,rfl,aZ,(f.append g).up (bN (h.free q))⟩⟩
  .nomatch e
 .nomatch e
def MW:OpD c X (fJ .Sub) kc:=qC KU λ_ _ _ _=>rfl
def MX:OpD c X (fJ .FloorDiv) ke:=tU KW λ_ _ _ _=>rfl
def MY:OpD c X (fJ .Mod) bJ:=tU KY λ_ _ _ _=>rfl
def MZ:OpD c X (fJ .Pow) qB:=tU KZ λ_ _ _ _=>rfl
def M0:OpD c X (cV .Lt) dLt:=qC K3 λ_ _ _ _=>rfl
def M1:OpD c X (cV .LtE) dLe:=qC K4 λ_ _ _ _=>rfl
def M3:OpD c X (cV .Gt) dGt:=qC K5 λ_ _ _ _=>rfl
def M4:OpD c X (cV .GtE) dGe:=qC K6 λ_ _ _ _=>rfl
def tV{g:Int->Int->D}(a:∀i j,(g i j).scalar=ac):∀x y d,dI0 g x y=aa d->d.scalar=ac:=by
 intro x y d e;unfold dI0 at e
 grind
def M5:∀x y d,dLt x y=aa d->d.scalar=ac:=tV λ_ _=>rfl
def M6:∀x y d,dLe x y=aa d->d.scalar=ac:=tV λ_ _=>rfl
def M7:∀x y d,dGt x y=aa d->d.scalar=ac:=tV λ_ _=>rfl
def M8:∀x y d,dGe x y=aa d->d.scalar=ac:=tV λ_ _=>rfl
abbrev qE:D->OD
 |.int i=>aa (.int (-i))
 | _=>ab
abbrev m1(m:D->OD)(f:MF1)(M:LS):OD:=(f M).bind m
def M9(ha:DE c X a f):DE c X (.UnaryOp .USub a pos) (m1 qE f):=PE.imp (KR K0 ha) λE H Q g=>by
 obtain⟨Hf0,H0,Hf,M,d,st,b,k⟩:=g;unfold m1 at b
 cases e:f M with
 |none=>rw[e]at b;nomatch b
 |some y=>
  rw[e]at b
  cases y with
  |int i=>cases b;exact⟨Hf0,H0,Hf,M,.int i,st,e,λv Hf' H' x r=>⟨i,r,k _ Hf' H' x rfl⟩⟩
  | _=>nomatch b
abbrev E5:D->Bool
 |.non=>ac
 | _=>af
def E6{x:D}(r:Rep G H x v):decide (v=.non)=E5 x:=by
 cases x with
 |non=>subst r;rfl
 |bl b=>subst r;rfl
 |int i=>subst r;rfl
 |str x=>subst r;rfl
 |lst _=>obtain⟨a,_,e,_⟩:=r;subst e;rfl
 |tup _=>obtain⟨a,_,e,_⟩:=r;subst e;rfl
 |kl _=>obtain⟨a,_,e,_⟩:=r;subst e;rfl
 |kt _=>obtain⟨a,_,e,_⟩:=r;subst e;rfl
 |dic _ _=>obtain⟨a,_,e,_⟩:=r;subst e;rfl
 |ins _ _ _=>obtain⟨a,_,_,e,_⟩:=r;subst e;rfl
 |kd _ _=>obtain⟨a,_,_,e,_⟩:=r;subst e;rfl
 |dT _ _=>obtain⟨a,_,e,_⟩:=r;subst e;rfl
abbrev isD(x y:D):Option Bool:=match y with
 |.non=>aa (E5 x)
 |.bl b=>match x with
  |.non=>aa af
  |.bl a=>aa (a==b)
  | _=>ab
 | _=>ab
abbrev dIs(x y:D):OD:=(isD x y).map .bl
abbrev gb(x y:D):OD:=(isD x y).map λb=>.bl (!b)
def E7:OpD c X (cV .Is) dIs:=by
 rintro U s E H m l v u Q I h i ⟨Hf,x,y,d,j,f,g,e,k⟩
 cases y with
 |non=>
  cases e
  exact K7 U s E H m l v u Q I h i ⟨g,by rw[E6 f];exact k _ Hf H (Ext.refl j) rfl⟩
 |bl b=>
  cases x with
  |non=>cases e;subst f;exact EK U s E H _ l v u Q I h i ⟨b,g,.inl rfl,k _ Hf H (Ext.refl j) rfl⟩
  |bl a=>cases e;subst f;exact EK U s E H _ l v u Q I h i ⟨b,g,.inr ⟨a,rfl⟩,by rw[qr];exact k _ Hf H (Ext.refl j) rfl⟩
  | _=>nomatch e
 | _=>nomatch e
def Na:OpD c X (cV .IsNot) gb:=by
 rintro U s E H m l v u Q I h i ⟨Hf,x,y,d,j,f,g,e,k⟩
 cases y with
 |non=>
  cases e
  exact K8 U s E H m l v u Q I h i ⟨g,by rw[E6 f];exact k _ Hf H (Ext.refl j) rfl⟩
 |bl b=>
  cases x with
  |non=>cases e;subst f;exact EL U s E H _ l v u Q I h i ⟨b,g,.inl rfl,k _ Hf H (Ext.refl j) rfl⟩
  |bl a=>cases e;subst f;exact EL U s E H _ l v u Q I h i ⟨b,g,.inr ⟨a,rfl⟩,by rw[qr];exact k _ Hf H (Ext.refl j) rfl⟩
  | _=>nomatch e
 | _=>nomatch e
def oI{x:Option Bool}{g:Bool->Bool}:∀d,x.map (λb=>D.bl (g b))=aa d->d.scalar=ac:=by
 intro d e
 cases x with
 |none=>nomatch e
 |some b=>cases e;rfl
def E8:∀x y d,dIs x y=aa d->d.scalar=ac:=λ_ _ d e=>oI d e
def Nb:∀x y d,gb x y=aa d->d.scalar=ac:=λ_ _ d e=>oI d e
abbrev eqF:D->D->Bool
 |.non,.non=>ac
 |.bl a,.bl b=>a==b
 |.int a,.int b=>a==b
 |.str a,.str b=>a==b
 | _,_=>af
abbrev cW(f:D->D->Option Bool):LD->LD->Option Bool
 | [],[]=>aa ac
 |x::C,y::ys=>(f x y).bind λb=>(cW f C ys).map λr=>b && r
 | _,_=>aa af
abbrev xY:D->D->Bool
 |.bl _,.int _=>ac
 |.int _,.bl _=>ac
 | _,_=>af
abbrev mM(f:D->D->Option Bool):D->D->Option Bool
 |.lst C,.lst ys=>if C.length=ys.length then cW f C ys else aa af
 |.tup C,.tup ys=>if C.length=ys.length then cW f C ys else ab
 |x,y=>if x.scalar && y.scalar && !xY x y then aa (eqF x y) else ab
abbrev deq:Nat->D->D->Option Bool
 | 0,_,_=>ab
 |n+1,x,y=>mM (deq n) x y
abbrev dEq(x y:D):OD:=(deq 20 x y).map .bl
abbrev dNe(x y:D):OD:=(deq 20 x y).map λb=>.bl (!b)
def Nd:∀x y d,dEq x y=aa d->d.scalar=ac:=λ_ _ d e=>oI d e
def Nf:∀x y d,dNe x y=aa d->d.scalar=ac:=λ_ _ d e=>oI d e
variable{x y:D}{C ys:LD}{b:Bool}
def tW{f:D->D->Option Bool}(h:cW f (x::C) (y::ys)=aa b):∃a c,f x y=aa a/\cW f C ys=aa c/\b=(a && c):=by
 dsimp only[cW]at h
 cases d:f x y with
 |none=>rw[d]at h;nomatch h
 |some a=>
  cases e:cW f C ys with
  |none=>rw[d,e]at h;nomatch h
  |some c=>rw[d,e]at h;cases h;exact⟨a,c,rfl,rfl,rfl⟩
def mN{f:D->D->Option Bool}:∀{C ys:LD} {b:Bool},C.length=ys.length->cW f C ys=aa b->∃e:Nat->Bool,(∀j x y,C[j]?=aa x->ys[j]?=aa y->f x y=aa (e j))/\(bM C.length).all e=b
 | [],[],b,_,h=>by cases h;exact⟨λ_=>ac,λj x y e=>by simp at e,rfl⟩
 |x::C,y::ys,b,hl,h=>by
  obtain⟨c,m,d,h2,rfl⟩:=tW h;obtain⟨e,g,ha⟩:=mN (by simpa using hl) h2
  refine⟨λj=>match j with | 0=>c |j+1=>e j,λj i l ex a=>?_,?_⟩
  .cases j with
   |zero=>simp at ex a;subst ex a;exact d
   |succ j=>exact g j i l (by simpa using ex) (by simpa using a)
  .rw[cy,range_succ_eq_map,l7,all_map,<- ha]
   rfl
 | [],_::_,_,hl,_=>by cases hl
 | _::_,[],_,hl,_=>by cases hl
def tX(s:d.scalar=ac):d=.non\/(∃b,d=.bl b)\/(∃i,d=.int i)\/∃z,d=.str z:=by
 cases d with
 |non=>exact .inl rfl
 |bl b=>exact .inr (.inl ⟨b,rfl⟩)
 |int i=>exact .inr (.inr (.inl ⟨i,rfl⟩))
 |str z=>exact .inr (.inr (.inr ⟨z,rfl⟩))
 | _=>nomatch s
def tY(c:(x.scalar && y.scalar && !xY x y)=ac)(d:Rep G H x v)(e:Rep G H y u):fM v=ac/\fM u=ac/\eqV v u=eqF x y/\xh v u=ac/\decide (v=u)=eqF x y:=by
 rw[cL,cL]at c
 rcases tX c.1.1 with rfl |⟨a,rfl⟩ |⟨a,rfl⟩ |⟨a,rfl⟩ <;> rcases tX c.1.2 with rfl |⟨b,rfl⟩ |⟨b,rfl⟩ |⟨b,rfl⟩ <;> first
  |(cases c.2;done)
  |(subst d;subst e;refine⟨rfl,rfl,rfl,rfl,?_⟩;first |exact qr |exact xi |exact xj |rfl)
variable{n:Nat}
def tZ(a:¬(∃C ys,x=.lst C/\y=.lst ys)/\¬(∃C ys,x=.tup C/\y=.tup ys))(h:deq (n+1) x y=aa b):(x.scalar && y.scalar && !xY x y)=ac/\b=eqF x y:=by
 replace h:mM _ x y=aa b:=h;unfold mM at h
 grind
def E9:∀(n:Nat) {x y:D} {b:Bool} {v:V},deq n x y=aa b->Rep G H x v->Rep G H y v->b=ac:=by
 intro n
 induction n with
 |zero=>intro x y b v h;nomatch h
 |succ n L=>
  have all:∀(C ys:LD) vs b,am G H C vs->am G H ys vs->cW (deq n) C ys=aa b->b=ac:=by
   intro C
   induction C with
   |nil=>
    intro ys vs b d c h;cases (d);have:ys=[]:=sL.mp c.length;subst this
    cases h;rfl
   |cons x C z=>
    intro ys vs b d c h;obtain⟨v,r,e,J,h2⟩:=d;subst e
    cases ys with
    |nil=>cases (c)
    |cons y ys=>
     obtain⟨N,M,e,p,u⟩:=c;cases e;obtain⟨A,B,E,I,rfl⟩:=tW h
     grind
  intro x y b v h d c
  by_cases i:∃C ys,x=.lst C/\y=.lst ys
  .obtain⟨C,ys,rfl,rfl⟩:=i;obtain⟨a,vs,e,q,d⟩:=d;obtain⟨m,g,e',f,c⟩:=c;subst e;cases e';rw[q]at f;cases f;have j:=d.length.trans c.length.symm;replace h:(if C.length=ys.length then cW _ C ys else aa af)=aa b:=h
   grind
  .by_cases l:∃C ys,x=.tup C/\y=.tup ys
   .obtain⟨C,ys,rfl,rfl⟩:=l;obtain⟨a,vs,e,q,d⟩:=d;obtain⟨m,g,e',f,c⟩:=c;subst e;cases e';rw[q]at f;cases f;replace h:(if C.length=ys.length then cW _ C ys else ab)=aa b:=h
    grind
   .obtain⟨w,rfl⟩:=tZ ⟨i,l⟩ h;obtain⟨_,_,_,_,e⟩:=tY w d c
    grind
variable{us:LVv}
def oJ{s:ah}{B a:LVa}{e:Nat->Bool}(E:am G H C vs)(I:am G H ys us)(r:aG vs B)(z:aG us a)
 (p:∀j x y,C[j]?=aa x->ys[j]?=aa y->deq n x y=aa (e j))
 (q:∀{x y:D} {b:Bool} {v u:V} {w g:Value},deq n x y=aa b->Rep G H x v->Rep G H y u->aA v w->aA u g->cq A s w g b):
  ∀j (f:j<B.toArray.size) (h2:j<a.toArray.size),cq A s B.toArray[j] a.toArray[j] (e j):=λj f h2=>by
 have c:j<B.length:=by simpa using f
 have d:j<a.length:=by simpa using h2
 obtain⟨v,l,rv⟩:=r.at' (i:=j) (u:=B[j]) (by simp[c]);obtain⟨u,h,ru⟩:=z.at' (i:=j) (u:=a[j]) (by simp[d]);obtain⟨x,ex,J⟩:=E.get' l;obtain⟨y,m,L⟩:=I.get' h;exact q (p j x y ex m) J L rv ru
def xZ{s:ah}(I:Inv X U E H s):∀(n:Nat) {A:b6} {x y:D} {b:Bool} {v u:V} {w z:Value},A.units+n<cLine->deq n x y=aa b->Rep (Gx c X) H x v->Rep (Gx c X) H y u->aA v w->aA u z->cq A s w z b:=by
 intro n
 induction n with
 |zero=>intro A x y b v u w z _ h;nomatch h
 |succ n ih=>
  intro A x y b v u w z hu h r1 r2 rv ru;have G:∀{x y:D} {b:Bool} {v u:V} {w z:Value},deq n x y=aa b->Rep _ H x v->Rep _ H y u->aA v w->aA u z->cq A.in1 s w z b:=λh a b c d=>ih (by rw[wC];lia) h a b c d
  by_cases hl:∃C ys,x=.lst C/\y=.lst ys
  .obtain⟨C,ys,rfl,rfl⟩:=hl;obtain⟨a,vs,e,q,f⟩:=id r1;obtain⟨N,r,e',J,g⟩:=id r2;subst e e';cases rv;subst ru
   by_cases j:a=N
   .subst j;have:=E9 _ h (⟨a,vs,rfl,q,f⟩) ⟨a,r,rfl,J,g⟩;subst this;exact wQ _
   .refine cq.of_refs j ?_;obtain⟨B,L,M,hz⟩:=I.list (SqL.of q);obtain⟨p,l,m,Y⟩:=I.list (SqL.of J);have l1:=L.length;have l2:=l.length;have l3:=f.length;have l4:=g.length;replace h:(if C.length=ys.length then cW _ C ys else aa af)=aa b:=h;split at h
    .rename_i i;obtain⟨ee,Q,ha⟩:=mN i h;have:=SeqAt.RcAt.lists M.isList m.isList (by simp only[size_toArray];lia) (by lia) (oJ f g L l Q G)
     grind
    .rename_i i;cases h;exact SeqAt.RcAt.lists_lengths M.isList m.isList (by simp only[size_toArray,bne_iff_ne];lia) (by lia)
  .by_cases ht:∃C ys,x=.tup C/\y=.tup ys
   .obtain⟨C,ys,rfl,rfl⟩:=ht;obtain⟨a,vs,e,q,f⟩:=id r1;obtain⟨N,r,e',J,g⟩:=id r2;subst e e';cases rv;subst ru
    by_cases j:a=N
    .subst j;have:=E9 _ h (⟨a,vs,rfl,q,f⟩) ⟨a,r,rfl,J,g⟩;subst this;exact wQ _
    .refine cq.of_refs j ?_;obtain⟨B,L,M,hz⟩:=I.tuple (SqT.of q);obtain⟨p,l,m,Y⟩:=I.tuple (SqT.of J);have l1:=L.length;have l2:=l.length;have l3:=f.length;have l4:=g.length;replace h:(if C.length=ys.length then cW _ C ys else ab)=aa b:=h;split at h
     .rename_i i;obtain⟨ee,Q,ha⟩:=mN i h;have:=SeqAt.RcAt.tuples (M) (m) (by lia) (oJ f g L l Q G);have T:B.toArray.size=p.toArray.size:=by simp only[size_toArray];lia
      rw[<- T,Nat.min_self,beq_self_eq_true,Bool.and_true,size_toArray,<- l1,<- l3,ha]at this;exact this
     .nomatch h
   .obtain⟨hs,rfl⟩:=tZ ⟨hl,ht⟩ h;obtain⟨f1,f2,e,_,_⟩:=tY hs r1 r2;rw[<- e];exact Eu rv ru f1 f2
def Ng(hu:X.A.units+64<cLine):OpD c X (cV .Eq) dEq:=by
 rintro U s E H v u w J Q I rv ru ⟨Hf,x,y,d,Y,p,r,e,k⟩;unfold dEq at e
 cases h:deq 20 x y with
 |none=>rw[h]at e;nomatch e
 |some b=>
  rw[h]at e;cases e;have q0:=k _ Hf H (Ext.refl Y) rfl;have fin:EP X U E Q _ s:=⟨.bl b,H,I,rfl,q0⟩;have p:=p.up Y;have r:=r.up Y;have m:∀{x y:D} {b:Bool} {v u:V} {w J:Value},deq 19 x y=aa b->Rep _ H x v->Rep (Gx c X) H y u->aA v w->aA u J->cq X.A.in1 s w J b:=λh a b c d=>xZ I 19 (by grind) h a b c d
  by_cases hl:∃C ys,x=.lst C/\y=.lst ys
  .obtain⟨C,ys,rfl,rfl⟩:=hl;obtain⟨a,vs,e,q,i⟩:=id p;obtain⟨a',vs',e',T,j⟩:=id r;subst e e';cases rv;subst ru;obtain⟨B,z,G,hz⟩:=I.list (SqL.of q);obtain⟨n,g,l,N⟩:=I.list (SqL.of T);have l1:=z.length;have l2:=g.length;have l3:=i.length;have l4:=j.length;replace h:(if C.length=ys.length then cW _ C ys else aa af)=aa b:=h;split at h
   .rename_i f;obtain⟨ee,L,ha⟩:=mN f h;refine SeqAt.eq_listAt G.isList l.isList (by grind) (by lia) (oJ i j z g L m) ?_
    grind
   .rename_i f;cases h;exact SeqAt.eq_list_lengthsAt G.isList l.isList (by grind) (by lia) fin
  .by_cases ht:∃C ys,x=.tup C/\y=.tup ys
   .obtain⟨C,ys,rfl,rfl⟩:=ht;obtain⟨a,vs,e,q,i⟩:=id p;obtain⟨a',vs',e',T,j⟩:=id r;subst e e';cases rv;subst ru;obtain⟨B,z,G,hz⟩:=I.tuple (SqT.of q);obtain⟨n,g,l,N⟩:=I.tuple (SqT.of T);have l1:=z.length;have l2:=g.length;have l3:=i.length;have l4:=j.length;replace h:(if C.length=ys.length then cW _ C ys else ab)=aa b:=h;split at h
    .rename_i f;obtain⟨ee,L,ha⟩:=mN f h;refine SeqAt.eq_tupleAt (G) (l) (by lia) (oJ i j z g L m) ?_
     grind
    .grind
   .obtain⟨hs,rfl⟩:=tZ ⟨hl,ht⟩ h;obtain⟨_,_,_,M,e⟩:=tY hs p r;exact K1 U s E H v u w J Q I rv ru ⟨M,by rw[e];exact q0⟩
def Nh(hu:X.A.units+64<cLine):OpD c X (cV .NotEq) dNe:=by
 rintro U s E H v u w J Q I rv ru ⟨Hf,x,y,d,Y,p,r,e,k⟩;unfold dNe at e
 cases h:deq 20 x y with
 |none=>rw[h]at e;nomatch e
 |some b=>
  rw[h]at e;cases e;have q0:=k _ Hf H (Ext.refl Y) rfl;have fin:EP X U E Q _ s:=⟨.bl (!b),H,I,rfl,q0⟩;have p:=p.up Y;have r:=r.up Y;have m:∀{x y:D} {b:Bool} {v u:V} {w J:Value},deq 19 x y=aa b->Rep _ H x v->Rep (Gx c X) H y u->aA v w->aA u J->cq X.A.in1 s w J b:=λh a b c d=>xZ I 19 (by grind) h a b c d
  by_cases hl:∃C ys,x=.lst C/\y=.lst ys
  .obtain⟨C,ys,rfl,rfl⟩:=hl;obtain⟨a,vs,e,q,i⟩:=id p;obtain⟨a',vs',e',T,j⟩:=id r;subst e e';cases rv;subst ru;obtain⟨B,z,G,hz⟩:=I.list (SqL.of q);obtain⟨n,g,l,N⟩:=I.list (SqL.of T);have l1:=z.length;have l2:=g.length;have l3:=i.length;have l4:=j.length;replace h:(if C.length=ys.length then cW _ C ys else aa af)=aa b:=h;split at h
   .rename_i f;obtain⟨ee,L,ha⟩:=mN f h;refine SeqAt.RcNeAt.lists G.isList l.isList (by grind) (by lia) (oJ i j z g L m) X.prog X.w X.xe _ ?_
    grind
   .rename_i f;cases h;exact SeqAt.RcNeAt.lists_lengths G.isList l.isList (by grind) (by lia) X.prog X.w X.xe _ fin
  .by_cases ht:∃C ys,x=.tup C/\y=.tup ys
   .obtain⟨C,ys,rfl,rfl⟩:=ht;obtain⟨a,vs,e,q,i⟩:=id p;obtain⟨a',vs',e',T,j⟩:=id r;subst e e';cases rv;subst ru;obtain⟨B,z,G,hz⟩:=I.tuple (SqT.of q);obtain⟨n,g,l,N⟩:=I.tuple (SqT.of T);have l1:=z.length;have l2:=g.length;have l3:=i.length;have l4:=j.length;replace h:(if C.length=ys.length then cW _ C ys else ab)=aa b:=h;split at h
    .rename_i f;obtain⟨ee,L,ha⟩:=mN f h;refine SeqAt.RcNeAt.tuples (G) (l) (by lia) (oJ i j z g L m) X.prog X.w X.xe _ ?_
     grind
    .grind
   .obtain⟨hs,rfl⟩:=tZ ⟨hl,ht⟩ h;obtain⟨_,_,_,M,e⟩:=tY hs p r;exact K2 U s E H v u w J Q I rv ru ⟨M,by rw[e];exact q0⟩
abbrev eqX:D->D->Bool
 |.non,.non=>ac
 |.bl a,.bl b=>a==b
 |.bl a,.int b=>(if a then 1 else 0)==b
 |.int a,.bl b=>a==(if b then 1 else 0)
 |.int a,.int b=>a==b
 |.str a,.str b=>a==b
 | _,_=>af
abbrev inD(x y:D):Option Bool:=(iy y).bind λds=>if x.scalar && ds.all D.scalar then aa (ds.any λd=>eqX d x) else ab
abbrev mO(x y:D):OD:=(inD x y).map λb=>.bl (!b)
def Ni:∀x y d,mO x y=aa d->d.scalar=ac:=λ_ _ d e=>oI d e
def Nj(c:x.scalar=ac)(d:y.scalar=ac)(e:Rep G H x v)(f:Rep G H y u):fM v=ac/\fM u=ac/\eqV v u=eqX x y:=by
 rcases tX c with rfl |⟨a,rfl⟩ |⟨a,rfl⟩ |⟨a,rfl⟩ <;> rcases tX d with rfl |⟨b,rfl⟩ |⟨b,rfl⟩ |⟨b,rfl⟩ <;> (subst e;subst f;exact⟨rfl,rfl,rfl⟩)
def Fa{G:Gc}{H:Hp}{x:D}{v:V}(b:x.scalar=ac)(r:Rep G H x v):∀{ds:LD} {vs:LVv},ds.all D.scalar=ac->am G H ds vs->vs.all fM=ac/\inV v vs=ds.any λd=>eqX d x
 | [],_,_,h=>by cases (h);exact⟨rfl,rfl⟩
 |d::ds,_,ha,q3_=>by
  obtain⟨u,g,e,f,h2⟩:=q3_;subst e;rw[l7,cL]at ha;obtain⟨f1,f2,e⟩:=Nj ha.1 b f r;obtain⟨c,a⟩:=Fa b r ha.2 h2;refine⟨by rw[l7,f1,c];rfl,?_⟩;unfold inV at a ⊢;rw[gq,gq,e,a]
def Nk(e:inD x y=aa b)(d:Rep G H x v)(j:Rep G H y u):∃p vs,u=.ref p/\(SqL G.K H p vs\/SqT G.K H p vs)/\fM v=ac/\vs.all fM=ac/\inV v vs=b:=by
 unfold inD at e
 cases es:iy y with
 |none=>rw[es]at e;nomatch e
 |some ds=>
  rw[es]at e;replace e:(if _=ac then aa _ else ab)=aa b:=e;split at e
  .rename_i c;cases e;rw[cL]at c;obtain⟨a,vs,g,q,r⟩:=qz es j;obtain⟨h,i⟩:=Fa c.1 d c.2 r
   have f:fM v=ac:=by cases x <;> first |(subst d;rfl) |(cases c.1)
   exact⟨a,vs,g,q,f,h,i⟩
  .nomatch e
def Nl:OpD c X (cV .NotIn) mO:=by
 rintro U s E H v u w l Q I rv ru ⟨Hf,x,y,d,a,i,j,e,k⟩;unfold mO at e
 cases h:inD x y with
 |none=>rw[h]at e;nomatch e
 |some b=>
  rw[h]at e;cases e;obtain⟨p,vs,f,q,f1,f2,g⟩:=Nk h (i.up a) (j.up a);refine L5 U s E H v u w l Q I rv ru ⟨p,vs,f,q,f1,f2,?_⟩;rw[if_pos rfl,g];exact k _ Hf H (Ext.refl a) rfl
def Nm{i:Int}(h:atI ds i=aa d)(r:am G H ds vs):∃v,atI vs i=aa v/\Rep G H d v:=by
 unfold atI at h ⊢;rw[<- r.length]
 cases e:ixN ds.length i with
 |none=>rw[e]at h;nomatch h
 |some j=>
  rw[e]at h;exact r.get h
abbrev ixD(ds:LD):D->OD
 |.int k=>atI ds k
 | _=>ab
abbrev mIx(f:MF2)(g:MF1)(M:LS):OD:=(f M).bind λds=>(g M).bind λi=>ixD ds i
variable{b:Expr}
def oK{f:MF2}(ha:DC c X a f)(y:DE c X b g)(z:Et b:=by exact λ_ _=>rfl):DE c X (.Subscript a b pos) (mIx f g):=
 PE.imp (LP (LU.or LV) ha y z) λE H Q A=>by
  obtain⟨Hf0,H0,Hf,M,d,st,e,k⟩:=A;unfold mIx at e
  cases j:f M with
  |none=>rw[j]at e;nomatch e
  |some ds=>
   cases p:g M with
   |none=>rw[j,p]at e;nomatch e
   |some i=>
    rw[j,p]at e
    cases i with
    |int n=>
     refine⟨Hf0,H0,Hf,M,ds,st,j,λl vs b3 H1 x q r=>⟨Hf0,H0,b3,M,.int n,st.step x,p,λu bm H2 m B=>?_⟩⟩;cases (B);obtain⟨v,w,rv⟩:=Nm e r;have fin:=k v bm H2 (x.trans m) (rv.up m.f)
     rcases q with q |q
     .exact .inl ⟨l,vs,n,v,rfl,rfl,m.h.seq q,w,fin⟩
     .exact .inr ⟨l,vs,n,v,rfl,rfl,m.h.tup q,w,fin⟩
    | _=>nomatch e
abbrev qF(C:LD)(lo hi:Option Int):LD:=(C.drop (HT.sIx C.length 0 lo)).take (HT.sIx C.length C.length hi-HT.sIx C.length 0 lo)
abbrev lsD:D->OLD
 |.lst C=>aa C
 |.kl C=>aa C
 | _=>ab
def lu(e:lsD d=aa ds)(r:Rep G H d v):∃a vs,v=.ref a/\SqL G.K H a vs/\am G H ds vs:=by
 cases d with
 |lst C=>cases e;obtain⟨a,vs,b,q,r⟩:=r;exact⟨a,vs,b,SqL.of q,r⟩
 |kl C=>cases e;obtain⟨a,vs,b,q,r⟩:=r;exact⟨a,vs,b,q,r⟩
 | _=>nomatch e
inductive Fb(G:Gc)(f:LS->Option (Option Int))(E:St)(H:Hp)(Q:Option Int->Hp->Prop):Prop
 |mk:∀Hf0 H0 Hf M i,ar G Hf0 H0 Hf H E M->f M=aa i->(∀Hf' H',Ext Hf H Hf' H'->Q i H')->Fb G f E H Q
abbrev DPt(c:Str->Addr)(X:Cx)(e:Option Expr)(f:LS->Option (Option Int)):Prop:=PO X e (Fb (Gx c X) f)
def Fc:DPt c X ab (λ_=>aa ab):=λU s E H Q I b=>by
 obtain⟨Hf0,H0,Hf,M,i,st,a,k⟩:=b;exact(LJ U s E H Q I (by cases a;exact k Hf H (Ext.refl st.sub)))
abbrev mPt(f:MF1)(M:LS):Option (Option Int):=(f M).bind λd=>match d with
 |.int i=>aa (aa i)
 | _=>ab
def Fd(h:DE c X e f):DPt c X (aa e) (mPt f):=λU s E H Q I g=>by
 obtain⟨Hf0,H0,Hf,M,i,st,a,k⟩:=g
 exact (LK h U s E H Q I (by
 unfold mPt at a
 cases b:f M with
 |none=>rw[b]at a;nomatch a
 |some d=>
  rw[b]at a
  cases d with
  |int n=>cases a;exact⟨Hf0,H0,Hf,M,.int n,st,b,λv Hf' H' x r=>⟨n,r,k Hf' H' x⟩⟩
  | _=>nomatch a))
abbrev mSl(f:MF1)(l h:LS->Option (Option Int))(M:LS):OLD:=(f M).bind λd=>(lsD d).bind λds=>(l M).bind λlo=>(h M).map λhi=>qF ds lo hi
def Nn(r:am G H ds vs)(lo hi:Option Int):am G H (qF ds lo hi) (qw vs lo hi):=by
 unfold qF qw;rw[r.length];exact(r.drop _).take _
variable{p2:Pos}
def Fe{l h:LS->Option (Option Int)}{lo hi:Option Expr}(ha:DE c X e f)(J:DPt c X lo l)(I:DPt c X hi h):DO c X (.Subscript e (.Slice lo hi ab p2) pos) (mSl f l h):=
 PE.imp (LL L4 ha J I) λE H Q N=>by
  obtain⟨Hf0,H0,Hf,M,L,st,b,k⟩:=N;unfold mSl at b
  cases g:f M with
  |none=>rw[g]at b;nomatch b
  |some d=>
   cases i:lsD d with
   |none=>rw[g]at b;replace b:(lsD d).bind _=_:=b;rw[i]at b;nomatch b
   |some ds=>
    cases j:l M with
    |none=>rw[g]at b;replace b:(lsD d).bind _=_:=b;rw[i,j]at b;nomatch b
    |some A=>
     cases u:h M with
     |none=>rw[g]at b;replace b:(lsD d).bind _=_:=b;rw[i,j,u]at b;nomatch b
     |some w=>
      rw[g]at b;replace b:(lsD d).bind _=_:=b;rw[i,j,u]at b;cases b;refine⟨Hf0,H0,Hf,M,d,st,g,λv b3 H1 m T=>⟨Hf0,H0,b3,M,A,st.step m,j,λbm H2 B=>⟨Hf0,H0,bm,M,w,(st.step m).step B,u,λn U C=>?_⟩⟩⟩;obtain⟨a,vs,G,q,r⟩:=lu i T;subst G;have x:=(m.trans B).trans C;have y:=(B.trans C);exact⟨a,vs,rfl,(m.s.trans y.h).seq q,λp z=>(k p _ n _ (x.trans (Ext.tmp x.s z)) (x.h.free z) (x.s.free z) aZ (Nn (r.up y.f) _ _))⟩
abbrev rCD(G:Gc)(m:LD->OD):LVv->Hp->VK->Prop:=λvs H Q=>∃Hf ds d,aq Hf H/\am G Hf ds vs/\m ds=aa d/\∀v Hf' H',Ext Hf H Hf' H'->Rep G Hf' d v->Q v H'
nonrec abbrev t4(c:Str->Addr)(X:Cx)(f:Value)(m:LD->OD):Prop:=iu X f (rCD (Gx c X) m)
abbrev av(m:LD->OD)(f:MF2)(M:LS):OD:=(f M).bind m
variable{m:LD->OD}{f:MF2}
def x6(h:av m f M=aa d):∃ds,f M=aa ds/\m ds=aa d:=by
 unfold av at h
 cases e:f M with
 |none=>rw[e]at h;nomatch h
 |some ds=>rw[e]at h;exact⟨ds,rfl,h⟩
variable{p:Pos}{x:Str}
def qG{id:String}(l:t4 c X (.builtin id) m)(u:∀ds d,m ds=aa d->d.scalar=ac)(q:Gl X x)(hm:X.mg x=ab)(hv:jC x=aa (.builtin id))(ha:DAB c X (e::es) f)(hn:x ≠ "__name__":=by decide)(a:NDb x:=by decide)
 (n:StE X e es:=by rfl)(b:BkE X pos es:=by rfl):
  DE c X @8 (av m f):=PE.imp (Ep l q hm hv ha.pa hn a n b) λE H Q w=>by
 obtain⟨Hf0,H0,Hf,M,d,st,j,k⟩:=w;obtain⟨ds,i,g⟩:=x6 j;exact⟨Hf0,H0,Hf,M,ds,st,i,λvs Hf' H' x r=>⟨H',ds,d,aq.refl _,r,g,λv bm H2 z y=>k v Hf' H2 (x.trans (Ext.grow x.s z.h)) (y.sc (u _ _ g))⟩⟩
abbrev cu:LD->OD
 | [.lst C]=>aa (.int C.length)
 | [.tup C]=>aa (.int C.length)
 | [.kl C]=>aa (.int C.length)
 | [.kt C]=>aa (.int C.length)
 | [.str x]=>if x.length<=16777216 then aa (.int x.length) else ab
 | _=>ab
def am.one(r:am G H [d] vs):∃v,vs=[v]/\Rep G H d v:=by
 obtain⟨v,a,e,h,q⟩:=r;cases (q);exact⟨v,e,h⟩
def Ff(e:cu ds=aa d):∃a,ds=[a]/\((∃C,iy a=aa C/\d=.int C.length)\/∃x,a=.str x/\x.length<=16777216/\d=.int x.length):=by
 cases ds with
 |nil=>nomatch e
 |cons a ds=>
  cases ds with
  |cons _ _=>cases a <;> nomatch e
  |nil=>
   refine⟨a,rfl,?_⟩
   cases a with
   |lst C=>cases e;exact .inl ⟨C,rfl,rfl⟩
   |tup C=>cases e;exact .inl ⟨C,rfl,rfl⟩
   |kl C=>cases e;exact .inl ⟨C,rfl,rfl⟩
   |kt C=>cases e;exact .inl ⟨C,rfl,rfl⟩
   |str x=>
    replace e:(if x.length<=16777216 then aa _ else ab)=aa d:=e
    grind
   | _=>nomatch e
def No:t4 c X (.builtin "len") cu:=by
 rintro U s E H vs us Q I rv ⟨Hf,ds,d,j,r,e,k⟩
 have sq:∀b C,ds=[b]->iy b=aa C->d=.int C.length->wpAny _ X.A _ _ X.xe s:=λb C g es e0=>by
  subst g e0;obtain⟨v,f,i⟩:=r.one;subst f;obtain⟨a,ws,h,q,L⟩:=qz es i;subst h;refine L6 U s E H _ us Q I rv ⟨a,ws,rfl,xQ j q,?_⟩;rw[<- L.length];exact k _ Hf H (Ext.refl j) rfl
 obtain⟨b,g,⟨C,f,h⟩ |⟨x,rfl,l,rfl⟩⟩:=Ff e
 .exact sq b C g f h
 .subst g;obtain⟨v,f,i⟩:=r.one;subst f;exact L7 U s E H _ us Q I rv ⟨_,by rw[show v=V.str _ from i],by rw[dq];exact l,k _ Hf H (Ext.refl j) rfl⟩
def Np:∀ds d,cu ds=aa d->d.scalar=ac:=by
 intro ds d e
 obtain⟨a,c,⟨C,b,rfl⟩ |⟨x,rfl,f,rfl⟩⟩:=Ff e <;> rfl
abbrev gE:LD->Option (LI0)
 | []=>aa []
 |.int i::ds=>(gE ds).map λr=>i::r
 | _=>ab
def Fg{G:Gc}{H:Hp}:∀{ds:LD} {ns:LI0} {vs:LVv},gE ds=aa ns->am G H ds vs->vs=ns.map V.int
 | [],_,_,e,r=>by cases e;exact r
 |.int i::ds,_,_,e,q4_=>by
  obtain⟨v,b,e',a,h2⟩:=q4_;subst e'
  cases es:gE ds with
  |none=>rw[gE,es]at e;cases e
  |some ns=>
   rw[gE,es]at e;cases e;rw[Fg es h2,show v=V.int i from a]
   rfl
 |.non::_,_,_,e,_=>by cases e
 |.bl _::_,_,_,e,_=>by cases e
 |.str _::_,_,_,e,_=>by cases e
 |.lst _::_,_,_,e,_=>by cases e
 |.tup _::_,_,_,e,_=>by cases e
 |.kl _::_,_,_,e,_=>by cases e
 |.kt _::_,_,_,e,_=>by cases e
 |.dic _ _::_,_,_,e,_=>by cases e
 |.ins _ _ _::_,_,_,e,_=>by cases e
def Nq(ns:LI0):gE (ns.map D.int)=aa ns:=by
 induction ns with
 |nil=>rfl
 |cons n ns a=>rw[bF,gE,a];rfl
abbrev i9:LD->OD
 | [d]=>(lsD d).bind λds=>(gE ds).map λns=>.int ns.sum
 | _=>ab
def x8(l:X.calm=ac):t4 c X (.builtin "sum") i9:=by
 rintro U s E H vs us Q I rv ⟨Hf,ds,d,g,r,e,k⟩;unfold i9 at e;split at e
 .rename_i h
  cases b:lsD h with
  |none=>rw[b]at e;nomatch e
  |some C=>
   cases f:gE C with
   |none=>rw[b]at e;replace e:(gE C).map _=_:=e;rw[f]at e;nomatch e
   |some ns=>
    rw[b]at e;replace e:(gE C).map _=_:=e;rw[f]at e;cases e;obtain⟨v,j,m⟩:=r.one;subst j;obtain⟨a,ws,i,q,L⟩:=lu b m;subst i;refine MG l U s E H _ us Q I rv ⟨a,ns,rfl,?_,k _ Hf H (Ext.refl g) rfl⟩;rw[<- Fg f L];exact g.seq q
 .nomatch e
def x9:∀ds d,i9 ds=aa d->d.scalar=ac:=by
 intro ds d e;unfold i9 at e;split at e
 .rename_i c
  cases a:lsD c with
  |none=>rw[a]at e;nomatch e
  |some C=>
   rw[a]at e;replace e:(gE C).map _=_:=e
   cases b:gE C with
   |none=>rw[b]at e;nomatch e
   |some ns=>rw[b]at e;cases e;rfl
 .nomatch e
def t7(n:jC x=aa (.type "list"))(m:Gl X x)(hm:X.mg x=ab)(ha:DC c X e f)(i:aN [e] X.env=(af,eval e X.env)::aN [] X.env:=by rfl)(hn:x ≠ "__name__":=by decide)(b:NDb x:=by decide)
 (g:(ca pos (aN [] X.env)).any (·.1)=af:=by rfl):DO c X (.Call (.Name x p) [e] [] pos) f:=
 PE.imp (LF L8 m hm n (eO ha dZ i) hn b i g) λE H Q u=>by
 obtain⟨Hf0,H0,Hf,M,ds,st,j,k⟩:=u
 exact (
  ⟨Hf0,H0,Hf,M,ds,st,j,λa vs Hf' H' x q r=>⟨a,vs,rfl,q,λl d=>k l vs Hf' _ (x.trans (Ext.tmp x.s d)) (x.h.free d) (x.s.free d) aZ r⟩⟩)
abbrev tyN:D->Option String
 |.non=>aa "NoneType"
 |.bl _=>aa "bool"
 |.int _=>aa "int"
 |.str _=>aa "str"
 |.lst _=>aa "list"
 |.tup _=>aa "tuple"
 |.dic _ _=>aa "dict"
 | _=>ab
abbrev ya(T:String)(d:D):OD:=(tyN d).map λt=>.bl (t==T || (t == "bool" && T == "int"))
def Nr{t:String}(e:tyN d=aa t)(r:Rep G H d v):gA G.K H v (.type t):=by
 cases d with
 |non=>cases e;subst r;exact .non
 |bl b=>cases e;subst r;exact .bl b
 |int i=>cases e;subst r;exact .int i
 |str x=>cases e;subst r;exact .str x
 |lst C=>cases e;obtain⟨a,vs,c,q,r⟩:=r;subst c;exact .lst q
 |tup C=>cases e;obtain⟨a,vs,c,q,r⟩:=r;subst c;exact .tup q
 |dic ks C=>cases e;obtain⟨a,vs,c,q,l,r⟩:=r;subst c;exact .dK q
 | _=>nomatch e
abbrev qH(K:aQ)(T:String):Prop:=∀t∈["NoneType","bool","int","str","list","tuple","dict"],W.kitOne K (.type t) (.type T)=aa (t==T || (t == "bool" && T == "int"))
def Nt{t:String}(e:tyN d=aa t):t∈["NoneType","bool","int","str","list","tuple","dict"]:=by
 cases d <;> first |(cases e;decide) |cases e
abbrev mP(T:String)(f:MF1)(M:LS):OD:=(f M).bind (ya T)
def Fh{f:MF1}{T:String}{b:Pos}{y:Str}(w:qH X.K T)(u:Gl X "isinstance")(hm:X.mg "isinstance"=ab)(z:jC y=aa (.type T))(j:Gl X y)(l:X.mg y=ab)(ha:DB c X e f)
 (q:aN [e,.Name y b] X.env=(af,eval e X.env)::aN [.Name y b] X.env:=by rfl)(n:aN [.Name y b] X.env=(af,eval (.Name y b) X.env)::aN [] X.env:=by rfl)
 (hn:y ≠ "__name__":=by decide)(i:(y==("__debug__":Str))=af:=by decide)(m:(ca pos (aN [.Name y b] X.env)).any (·.1)=af:=by rfl):
  DE c X (.Call (.Name "isinstance" p) [e,.Name y b] [] pos) (mP T f):=
 PE.imp (Ep MH u hm boot_isinstance (eO ha (eO (J8 (v:=.ty T) j l z rfl hn i) dZ n) q) (by decide) (by decide) q m) λE H Q A=>by
  obtain⟨Hf0,H0,Hf,M,d,st,a,k⟩:=A;unfold mP at a
  cases h:f M with
  |none=>rw[h]at a;nomatch a
  |some x=>
   rw[h]at a;replace a:ya T x=aa d:=a;unfold ya at a
   cases g:tyN x with
   |none=>rw[g]at a;nomatch a
   |some t=>
    rw[g]at a;cases a;exact⟨Hf0,H0,Hf,M,x,st,h,λv Hf' H' B r=>⟨v,T,.type t,_,rfl,Nr g r,w t (Nt g),k _ Hf' H' B rfl⟩⟩
inductive tDG(G:Gc)(g:D->LS->Option LS)(v:V)(E:St)(H:Hp)(Q:St->Hp->Prop):Prop
 |mk:∀Hf0 H0 Hf M d ρ',ar G Hf0 H0 Hf H E M->Rep G Hf d v->g d M=aa ρ'->(∀σ',ar G Hf0 H0 Hf H σ' ρ'->Q σ' H)->tDG G g v E H Q
inductive Fi(G:Gc)(g:LD->LS->Option LS)(vs:LVv)(E:St)(H:Hp)(Q:St->Hp->Prop):Prop
 |mk:∀Hf0 H0 Hf M ds ρ',ar G Hf0 H0 Hf H E M->am G Hf ds vs->g ds M=aa ρ'->(∀σ',ar G Hf0 H0 Hf H σ' ρ'->Q σ' H)->Fi G g vs E H Q
structure DG(c:Str->Addr)(X:Cx)(tg:Expr)(k:Nat)(g:D->LS->Option LS):Prop where
 pg:PG X tg (tDG (Gx c X) g)
 len:∀d M ρ',g d M=aa ρ'->ρ'.length=M.length
 keep:∀d M ρ' i,g d M=aa ρ'->k<=i->ρ'[i]?=M[i]?
structure DGs(c:Str->Addr)(X:Cx)(tg:LEx)(k:Nat)(g:LD->LS->Option LS):Prop where
 pg:PGs X tg (Fi (Gx c X) g)
 len:∀d M ρ',g d M=aa ρ'->ρ'.length=M.length
 keep:∀d M ρ' i,g d M=aa ρ'->k<=i->ρ'[i]?=M[i]?
 many:∀ds M ρ',g ds M=aa ρ'->ds.length=tg.length
abbrev ax(i:Nat)(d:D)(M:LS):Option LS:=aa (M.set i (.im d))
def Fj{i k:Nat}(h:PG X e (g9 i))(g:i<k):DG c X e k (ax i):=
 ⟨PG.imp h λv E H Q b=>by obtain⟨Hf0,H0,Hf,M,d,ρ',st,r,a,q⟩:=b;cases a;exact q _ (st.setIm r),λd M ρ' h=>by cases h;simp,λd M ρ' j h f=>by
  cases h;rw[kK (by lia)]⟩
def Nu(i k:Nat)(a:X.N.Nodup)(d:i<k:=by decide)(hi:X.N[i]?=aa x:=by rfl)(e:Loc X.env.scope x:=by first |exact bX rfl |exact bz rfl)(b:LcF X x:=by first |exact .inl rfl |exact .inr rfl):DG c X (.Name x pos) k (ax i):=
 Fj (wY a hi e b) d
abbrev c9(ds:LD)(M:LS):Option LS:=match ds with
 | []=>aa M
 | _=>ab
abbrev bo(g:D->LS->Option LS)(h:LD->LS->Option LS)(ds:LD)(M:LS):Option LS:=match ds with
 |d::ds=>(g d M).bind λρ1=>h ds ρ1
 | []=>ab
def Nv{k:Nat}:DGs c X [] k c9:=by
 refine⟨PGs.imp Kx λvs E H Q f=>?_,λd M ρ' h=>?_,λd M ρ' i h _=>?_,λd M ρ' h=>?_⟩
 .obtain⟨Hf0,H0,Hf,M,ds,ρ',st,r,e,q⟩:=f
  cases ds with
  |nil=>cases e;exact⟨r,q _ st⟩
  |cons d ds=>nomatch e
 .cases d with
  |nil=>cases h;rfl
  |cons a b=>nomatch h
 .cases d with
  |nil=>cases h;rfl
  |cons a b=>nomatch h
 .cases d with
  |nil=>cases h;rfl
  |cons a b=>nomatch h
variable{h:LD->LS->Option LS}
def t8{g:D->LS->Option LS}(e:bo g h ds M=aa ρ'):∃d r ρ1,ds=d::r/\g d M=aa ρ1/\h r ρ1=aa ρ':=by
 cases ds with
 |nil=>nomatch e
 |cons d r=>
  replace e:(g d M).bind _=_:=e
  cases a:g d M with
  |none=>rw[a]at e;nomatch e
  |some ρ1=>rw[a]at e;exact⟨d,r,ρ1,rfl,a,e⟩
def Nw{k:Nat}{g:D->LS->Option LS}(j:DG c X e k g)(h2:DGs c X es k h)(n:(iT (e::es) X.env).map (·.2)=assign e X.env::(iT es X.env).map (·.2):=by rfl):DGs c X (e::es) k (bo g h):=by
 refine⟨PGs.imp (Ky j.pg h2.pg n) λvs E H Q p=>?_,λd M ρ' h=>?_,λd M ρ' i h hi=>?_,λd M ρ' h=>?_⟩
 .obtain⟨Hf0,H0,Hf,M,ds,ρ',st,r,l,q⟩:=p;obtain⟨d,f,ρ1,rfl,b,a⟩:=t8 l;obtain⟨v,w,m,rv,u⟩:=r;exact⟨v,w,m,Hf0,H0,Hf,M,d,ρ1,st,rv,b,λx st1=>⟨Hf0,H0,Hf,ρ1,f,ρ',st1,u,a,q⟩⟩
 .obtain⟨d,f,ρ1,rfl,b,a⟩:=t8 h;rw[h2.len _ _ _ a,j.len _ _ _ b]
 .obtain⟨d,f,ρ1,rfl,b,a⟩:=t8 h;rw[h2.keep _ _ _ _ a hi,j.keep _ _ _ _ b hi]
 .obtain⟨d,f,ρ1,rfl,b,a⟩:=t8 h;rw[cy,cy,h2.many _ _ _ a]
abbrev tpD:D->OLD
 |.tup C=>aa C
 |.kt C=>aa C
 | _=>ab
def Fk(e:tpD d=aa ds)(r:Rep G H d v):∃a vs,v=.ref a/\SqT G.K H a vs/\am G H ds vs:=by
 cases d with
 |tup C=>cases e;obtain⟨a,vs,b,q,r⟩:=r;exact⟨a,vs,b,SqT.of q,r⟩
 |kt C=>cases e;obtain⟨a,vs,b,q,r⟩:=r;exact⟨a,vs,b,q,r⟩
 | _=>nomatch e
abbrev cX(g:LD->LS->Option LS)(d:D)(M:LS):Option LS:=(tpD d).bind λds=>g ds M
def yb{g:LD->LS->Option LS}(h:cX g d M=aa ρ'):∃ds,tpD d=aa ds/\g ds M=aa ρ':=by
 unfold cX at h
 cases e:tpD d with
 |none=>rw[e]at h;nomatch h
 |some ds=>rw[e]at h;exact⟨ds,rfl,h⟩
variable{kk:Nat}
def Nx{k:Nat}{g:LD->LS->Option LS}(n:X.calm=ac)(h:DGs c X es k g)(hn:(iT es X.env).length=es.length:=by rfl)(f:(iT es X.env).findIdx? (·.1)=ab:=by rfl):DG c X (.Tuple es kk pos) k (cX g):=by
 refine⟨PG.imp (KA n h.pg hn f) λv E H Q p=>?_,λd M ρ' h'=>?_,λd M ρ' i h' hi=>?_⟩
 .obtain⟨Hf0,H0,Hf,M,d,ρ',st,r,m,q⟩:=p;obtain⟨ds,e,b⟩:=yb m;obtain⟨a,vs,l,u,j⟩:=Fk e r;exact⟨a,vs,l,st.sub.tup u,by rw[<- j.length];exact h.many _ _ _ b,Hf0,H0,Hf,M,ds,ρ',st,j,b,q⟩
 .obtain⟨ds,e,b⟩:=yb h';exact h.len _ _ _ b
 .obtain⟨ds,e,b⟩:=yb h';exact h.keep _ _ _ _ b hi
abbrev qI(G:Gc)(Hf:Hp)(J:It)(ds:LD):Prop:=∀Hf' H',aq Hf Hf'->aq Hf' H'->∀i:Nat,
 (∀d,ds[i]?=aa d->J.go i H'/\∀x H2,J.yld i H' x H2->∃bm,Ext Hf' H' bm H2/\Rep G bm d x)/\(i=ds.length->J.stop i H')
abbrev t9(G:Gc)(Hf H:Hp)(J:It)(ds:LD):Prop:=∀Hf' H',Ext Hf H Hf' H'->∀i:Nat,
 (∀d,ds[i]?=aa d->J.go i H'/\∀x H2,J.yld i H' x H2->∃bm,Ext Hf' H' bm H2/\Rep G bm d x)/\(i=ds.length->J.stop i H')
def qI.toE(h:qI G Hf J ds):t9 G Hf H J ds:=λHf' H' x i=>h Hf' H' x.f x.s i
inductive tDI(G:Gc)(f:MF2)(E:St)(H:Hp)(R:It->Hp->Prop):Prop
 |mk:∀Hf0 H0 Hf M ds,ar G Hf0 H0 Hf H E M->f M=aa ds->(∀J Hf' H',Ext Hf H Hf' H'->qI G Hf' J ds->R J H')->tDI G f E H R
inductive yc(G:Gc)(f:MF2)(E:St)(H:Hp)(R:It->Hp->Prop):Prop
 |mk:∀Hf0 H0 Hf M ds,ar G Hf0 H0 Hf H E M->f M=aa ds->(∀J Hf' H',Ext Hf H Hf' H'->t9 G Hf' H' J ds->R J H')->yc G f E H R
abbrev DI(c:Str->Addr)(X:Cx)(tg iter:Expr)(f:MF2):Prop:=PI X tg iter (tDI (Gx c X) f)
abbrev DIe(c:Str->Addr)(X:Cx)(tg iter:Expr)(f:MF2):Prop:=PI X tg iter (yc (Gx c X) f)
def DI.de(h:DI c X tg e f):DIe c X tg e f:=PI.imp h λE H R b=>by
 obtain⟨Hf0,H0,Hf,M,ds,st,a,k⟩:=b;exact(⟨Hf0,H0,Hf,M,ds,st,a,λJ Hf' H' x i=>k J Hf' H' x i.toE⟩)
def Fm(q:SqL G.K H l vs)(r:am G Hf ds vs):t9 G Hf H (Itl G.K l) ds:=λHf' H' b i=>by
 have a:=b.h.seq q;refine⟨λd g=>?_,λj=>⟨vs,a,by rw[<- r.length,j];exact aM _⟩⟩;obtain⟨v,c,rv⟩:=r.get g;refine⟨⟨vs,v,a,c⟩,λx H2 ⟨e,y⟩=>?_⟩;subst e;have:=y vs a;rw[c]at this;cases this;exact⟨Hf',Ext.refl b.s,rv.up b.f⟩
def Ny(q:SqT G.K Hf l vs)(r:am G Hf ds vs):qI G Hf (Itt G.K l) ds:=λHf' H' f s i=>by
 have a:=(f.trans s).tup q;refine⟨λd e=>?_,λg=>⟨vs,a,by rw[<- r.length,g];exact aM _⟩⟩;obtain⟨v,b,rv⟩:=r.get e;refine⟨⟨vs,v,a,b⟩,λx H2 ⟨c,y⟩=>?_⟩;subst c;have:=y vs a;rw[b]at this;cases this;exact⟨Hf',Ext.refl s,rv.up f⟩
def oM{f:MF1}(h:DE c X e f):DI c X tg e (aV f):=λU s E H R I A=>by
 obtain⟨Hf0,H0,Hf,M,ds,st,b,k⟩:=A;unfold aV at b
 cases g:f M with
 |none=>rw[g]at b;nomatch b
 |some d=>
  rw[g]at b
  cases j:lsD d with
  |some l=>
   have:l=ds:=by cases d <;> first |(cases j;done) |(cases j;cases b;rfl)
   subst this;refine xc h U s E H R I ⟨Hf0,H0,Hf,M,d,st,g,λv Hf' H' x r=>?_⟩;obtain⟨a,vs,n,q,L⟩:=lu j r
   exact⟨a,n,⟨vs,x.s.seq q⟩,k _ Hf' H' x λbm H2 f2 s2 i=>by
    have p:=(f2.trans s2).seq q;refine⟨λd w=>?_,λz=>⟨vs,p,by rw[<- L.length,z];exact aM _⟩⟩;obtain⟨v,u,rv⟩:=L.get w;refine⟨⟨vs,v,p,u⟩,λx B ⟨m,y⟩=>?_⟩;subst m;have:=y vs p;rw[u]at this;cases this
    exact⟨bm,Ext.refl s2,rv.up f2⟩⟩
  |none=>
   have m:tpD d=aa ds:=by cases d <;> first |(cases j;done) |(cases b;done) |(cases b;rfl)
   refine KL h U s E H R I ⟨Hf0,H0,Hf,M,d,st,g,λv Hf' H' x r=>?_⟩;obtain⟨a,vs,n,q,L⟩:=Fk m r;exact⟨a,n,⟨vs,x.s.tup q⟩,k _ Hf' H' x (Ny q L)⟩
abbrev rng(lo:Int)(n:Nat):LD:=(bM n).map λ(i:Nat)=>.int (lo+i)
def Nz{lo:Int}:qI G Hf (Itr lo n) (rng lo n):=λHf' H' f s i=>by
 refine⟨λd a=>?_,λb=>?_⟩
 .unfold rng at a;rw[cM]at a
  cases e:(bM n)[i]? with
  |none=>rw[e]at a;nomatch a
  |some j=>
   rw[e]at a;obtain⟨hi,c⟩:=cU.mp e;rw[cZ]at hi;rw[List.getElem_range]at c;subst c;cases a;exact⟨hi,λx H2 ⟨g,y⟩=>by subst g;exact⟨Hf',Ext.refl s,y⟩⟩
 .unfold rng at b;rw[ay,cZ]at b;exact Nat.le_of_eq b.symm
abbrev yd:LD->OLD
 | [.int j]=>if -(2 ^ 62)<=j/\j<2 ^ 62 then aa (rng 0 j.toNat) else ab
 | [.int i,.int j]=>if -(2 ^ 62)<=i/\i<2 ^ 62/\-(2 ^ 62)<=j/\j<2 ^ 62 then aa (rng i (j-i).toNat) else ab
 | _=>ab
abbrev iz(f:MF2)(M:LS):OLD:=(f M).bind yd
def NA(h:Gl X "range")(hm:X.mg "range"=ab)(ha:DA c X [a] f)(l:aN [a] X.env=[(af,eval a X.env)]:=by rfl):DI c X tg (.Call (.Name "range" p) [a] [] pos) (iz f):=
 PI.imp (KO h hm ha.pa l) λE H R m=>by
  obtain⟨Hf0,H0,Hf,M,ds,st,b,k⟩:=m;unfold iz at b
  cases d:f M with
  |none=>rw[d]at b;nomatch b
  |some as=>
   rw[d]at b;replace b:yd as=aa ds:=b;have i:=ha.len M as d;refine⟨Hf0,H0,Hf,M,as,st,d,λvs Hf' H' x r=>?_⟩;unfold yd at b;split at b
   .split at b
    .rename_i j e;cases b;obtain⟨v,g,rv⟩:=r.one;cases (rv);exact⟨j,g,e.1,e.2,k _ Hf' H' x Nz⟩
    .nomatch b
   .nomatch i
   .nomatch b
abbrev iA(k:Nat)(js:LN)(M:LS):LS:=gW k .no++js.map λj=>(M[j]?).getD .no
def ar.weak(h:ar G Hf0 H0 Hf H E M)(f:ρ'.length=M.length)(d:∀(i:Nat) (s:Sl),ρ'[i]?=aa s->s=.no\/M[i]?=aa s):ar G Hf0 H0 Hf H E ρ':=by
 refine h.re h.ext f (λi v s a b=>?_) λi s v a b c p=>?_
 .rcases d i s b with e |e
  .subst e;trivial
  .exact h.at' i v s a e
 .rcases d i s b with e |e
  .subst e;exact(p.calm rfl).elim
  .exact⟨s,e,p⟩
def ua{a:Type}{k:Nat}{x:a}{l:List a}{y:a}(h:(gW k x++l)[i]?=aa y):(i<k/\y=x)\/(k<=i/\l[i-k]?=aa y):=by
 by_cases hi:i<k
 .left;rw[lV (by simpa using hi),nO,if_pos hi]at h;exact⟨hi,(dk h).symm⟩
 .right;rw[nN (by simpa using nV hi),lW]at h;exact⟨nV hi,h⟩
def oN{a b:Type}{f:a->b}{l:List a}{y:b}(h:(l.map f)[i]?=aa y):∃x,l[i]?=aa x/\y=f x:=by
 rw[cM]at h
 cases e:l[i]? with
 |none=>rw[e]at h;nomatch h
 |some x=>rw[e]at h;exact⟨x,rfl,(dk h).symm⟩
def NB(h:js.Nodup){x:Nat}(a:js[i]?=aa x)(b:js[j]?=aa x):i=j:=by
 obtain⟨e,c⟩:=cU.mp a;obtain⟨h2,d⟩:=cU.mp b;exact(List.getElem_inj h).mp (c.trans d.symm)
def ar.comp(k:Nat)(h:ar G Hf0 H0 Hf H E M)(U:js.Nodup):ar G Hf0 H0 Hf H (i6 k js E) (iA k js M):=by
 have own:∀i s,(iA k js M)[i]?=aa s->s.calm=af->∃j,k<=i/\js[i-k]?=aa j/\M[j]?=aa s:=λi s a r=>by
  rcases ua a with⟨_,e⟩ |⟨hi,a⟩
  .subst e;nomatch r
  .obtain⟨j,f,es⟩:=oN a
   cases e:M[j]? with
   |none=>rw[e]at es;subst es;nomatch r
   |some t=>rw[e]at es;replace es:s=t:=es;subst es;exact⟨j,hi,f,e⟩
 have val:∀i v j,(i6 k js E)[i]?=aa v->k<=i->js[i-k]?=aa j->v=(E[j]?).getD ab:=λi v j a hi f=>by
  rcases ua a with⟨T,_⟩ |⟨_,a⟩
  .lia
  .obtain⟨A,g,es⟩:=oN a;rw[f]at g;cases g;exact es
 refine⟨h.ext,by simp[i6,iA],λi v s a b=>?_,λi j s t y z l a b c d p q=>?_⟩
 .rcases ua b with⟨_,e⟩ |⟨hi,b⟩
  .subst e;trivial
  .obtain⟨j,f,es⟩:=oN b;have J:=val i v j a hi f
   cases e:M[j]? with
   |none=>rw[e]at es;subst es;trivial
   |some t=>
    rw[e]at es;subst es;obtain⟨u,Q,q⟩:=h.slot e;rw[Q]at J;subst J;exact q
 .have r:s.calm=af:=by
   cases w:s.calm with
   |true=>exact(p.calm w).elim
   |false=>rfl
  have Y:t.calm=af:=by
   cases w:t.calm with
   |true=>exact(q.calm w).elim
   |false=>rfl
  obtain⟨L,hi,I,B⟩:=own i s a r;obtain⟨A,x,f,C⟩:=own j t b Y;have v1:=val i _ L c hi I;have N:=val j _ A d x f;obtain⟨u1,m,_⟩:=h.slot B;obtain⟨u2,n,_⟩:=h.slot C;rw[m]at v1;rw[n]at N;subst v1 N;have:=h.dj L A s t y z l B C m n p q;subst this;have:=NB U I f
  lia
abbrev eP(h:D->Option OD):LD->OLD
 | []=>aa []
 |d::ds=>(h d).bind λo=>(eP h ds).map λr=>match o with
  |some y=>y::r
  |none=>r
def NC{h:D->Option OD}{r:LD}(e:eP h (d::ds)=aa r):∃o a,h d=aa o/\eP h ds=aa a/\r=(match o with |some y=>y::a |none=>a):=by
 dsimp only[eP]at e
 cases b:h d with
 |none=>rw[b]at e;nomatch e
 |some o=>
  cases c:eP h ds with
  |none=>rw[b,c]at e;nomatch e
  |some a=>
   rw[b,c]at e;cases e;refine⟨o,a,rfl,rfl,?_⟩
   cases o <;> rfl
abbrev gG(g:D->LS->Option LS)(ft:MF4)(fe:MF1)(M:LS)(d:D):Option OD:=(g d M).bind λρ1=>(ft ρ1).bind λb=>if b then (fe ρ1).map aa else aa ab
abbrev bp(k:Nat)(js:LN)(fi:MF2)(g:D->LS->Option LS)(ft:MF4)(fe:MF1)(M:LS):OLD:=
 (fi M).bind λds=>if ds.length<=16777216 then eP (gG g ft fe (iA k js M)) ds else ab
def yf{a:Type}{l:List a}(h:i<l.length):∃x,l[i]?=aa x/\l.drop i=x::l.drop (i+1):=⟨l[i],by simp[h],(drop_eq_getElem_cons h)⟩
abbrev DTs(c:Str->Addr)(X:Cx)(c3:LEx)(f:MF4):Prop:=PTs X c3 (tDT (Gx c X) f)
def ND:DTs c X [] kY:=PTs.imp MC λE H Q d=>by
 obtain⟨Hf0,H0,Hf,M,b,st,a,k⟩:=d;exact(by cases a;exact k Hf H (Ext.refl st.sub))
def qJ{f:MF4}(h:DT c X e f):DTs c X [e] f:=MD h
variable{g:D->LS->Option LS}{ft:MF4}{fe:MF1}{L:LD}
def Fo{k:Nat}(hj:js.Nodup)(hk:∀d M ρ' i,g d M=aa ρ'->k<=i->ρ'[i]?=M[i]?)(A:∀d M ρ',g d M=aa ρ'->ρ'.length=M.length){ti:TI}(st:ar G Hf0 H0 Hf H E M)
 (hti:∀R:It->Hp->Prop,(∀J b3 H1,Ext Hf H b3 H1->t9 G b3 H1 J ds->R J H1)->ti E H R)(hz:ds.length<=16777216)(ef:eP (gG g ft fe (iA k js M)) ds=aa L)
 (kq:∀l vs Hf' H',Ext Hf H Hf' H'->H l=ab->Hf' l=ab->H' l=aa (.lst vs)->am G Hf' L vs->Q (.ref l) H'):oF k js ti (tDG G g) (tDT G ft) (tD G fe) E H Q:=by
 refine hti _ λJ b3 H1 x1 it=>?_
 refine⟨λi m ys σ' H'=>m=ds.length-i/\i<=ds.length/\∃Hf' as rest,Ext b3 H1 Hf' H'/\ar G Hf0 H0 Hf' H' σ' _/\am G Hf' as ys/\eP _ (ds.drop i)=aa rest/\L=as++rest/\as.length<=i,
  ⟨ds.length,rfl,cg _,b3,[],L,Ext.refl x1.s,(st.step x1).comp k hj,rfl,ef,rfl,aM _⟩,?_⟩
 rintro i m ys σ' H' ⟨rfl,hi,Hf',as,rest,x2,st2,ra,Y,er,hal⟩;have B:ys.length<=aS:=by rw[dq,<- ra.length];lia
 obtain⟨it1,it2⟩:=it Hf' H' x2 i
 by_cases q:i<ds.length
 .obtain⟨d,ed,edr⟩:=yf q;obtain⟨go,yl⟩:=it1 d ed
  refine .inr ⟨go,B,λI N H2=>ds.length-_=ds.length-_/\i+1<=ds.length/\∃Hf' as rest,Ext b3 H1 Hf' H2/\ar G Hf0 H0 Hf' H2 N _/\am G Hf' as I/\eP _ _=aa rest/\L=as++rest/\as.length<=i+1,
   λI N H2 w=>⟨ds.length-(i+1),by lia,w⟩,λx H2 y=>?_⟩
  obtain⟨bm,x3,rx⟩:=yl x H2 y;rw[edr]at Y;obtain⟨o,r',a,u,n⟩:=NC Y;unfold gG at a
  cases z:g d _ with
  |none=>rw[z]at a;nomatch a
  |some ρ1=>
   rw[z]at a;replace a:(ft ρ1).bind _=_:=a
   cases et:ft ρ1 with
   |none=>rw[et]at a;nomatch a
   |some b=>
    rw[et]at a;refine⟨Hf0,H0,bm,iA k js M,d,ρ1,st2.step x3,rx,z,λT p=>⟨Hf0,H0,bm,ρ1,b,p,et,λr H4 C=>?_⟩⟩
    have back:∀{c U:Hp},ar G Hf0 H0 c U T ρ1->ar G Hf0 H0 c U T _:=λ{c U} s5=>s5.weak (A _ _ _ z).symm λj s hs=>by
     rcases ua hs with⟨_,e⟩ |⟨hj',_⟩
     .exact .inl e
     .exact .inr (by rw[hk _ _ _ _ z hj'];exact hs)
    cases b with
    |true=>
     cases ee:fe ρ1 with
     |none=>rw[ee]at a;nomatch a
     |some y'=>
      rw[ee]at a;cases a;refine⟨Hf0,H0,r,ρ1,y',p.step C,ee,λv c U x5 r5=>?_⟩;have x:=(x3.trans C).trans x5;refine⟨rfl,q,c,as++[y'],r',x2.trans x,back ((p.step C).step x5),(ra.up x.f).append (.cons r5 .nil),u,?_,by rw[aR,fX];lia⟩;rw[er,n,cG]
      rfl
    |false=>
     cases a;have x:=x3.trans C;exact⟨rfl,q,r,as,r',x2.trans x,back (p.step C),ra.up x.f,u,by rw[er,n],by lia⟩
 .have ei:i=ds.length:=by lia
  subst ei;refine .inl ⟨it2 rfl,B,λl h1 h2=>?_⟩;rw[drop_eq_nil_of_le (aM _)]at Y;cases Y;rw[bP]at er;subst er;have x:=x1.trans x2;exact kq l ys Hf' _ (x.trans (Ext.tmp x.s h2)) (x.h.free h2) (x.s.free h2) aZ ra
variable{fi:MF2}
def yg{k:Nat}(e:js.Nodup)(f:∀d M ρ' i,g d M=aa ρ'->k<=i->ρ'[i]?=M[i]?)(b:∀d M ρ',g d M=aa ρ'->ρ'.length=M.length)(h:tDO G (bp k js fi g ft fe) E H Q):
  oF k js (yc G fi) (tDG G g) (tDT G ft) (tD G fe) E H Q:=by
 obtain⟨Hf0,H0,Hf,M,L,st,a,j⟩:=h;unfold bp at a
 cases c:fi M with
 |none=>rw[c]at a;nomatch a
 |some ds=>
  rw[c]at a;replace a:(if ds.length<=16777216 then eP _ ds else ab)=aa L:=a
  by_cases hz:ds.length<=16777216
  .rw[if_pos hz]at a;exact Fo e f b st (λR q=>⟨Hf0,H0,Hf,M,ds,st,c,λJ b3 H1 l it=>q J b3 H1 l it⟩) hz a j
  .rw[if_neg hz]at a
   nomatch a
def kf(k:Nat)(js:LN)(Nc:LSt)(d:X.calm=ac)(hi:DIe c X tg iter fi)(a:∀cl V5 ex cc cs,DG c @4 tg k g)(j:∀cl V5 ex cc cs,DTs c @4 c3 ft)
 (e:∀cl V5 ex cc cs,DE c @4 c5 fe)(b:lq scope X.env.scope.names X.N Nc k js=ac:=by rfl)(i:∀x,kS iter X.env x=pure x:=by intro _;rfl)(f:js.Nodup:=by decide):
  DO c X @5 (bp k js fi g ft fe):=
 PE.imp (MF (tt:=tDT (Gx c X) ft) (te:=tD (Gx c X) fe) k js Nc d hi (λcl V5 ex cc cs=>(a cl V5 ex cc cs).pg) j e b i) λE H Q h=>
  yg f (a [] 0 [] X.s₀ X.H₀).keep (a [] 0 [] X.s₀ X.H₀).len h
def dvc{cl:List (Str×Addr)}(i:Nat)(b:Nc[i]?=aa x:=by rfl)(hv:Vis scope x:=by first |exact bX rfl |exact bz (bX rfl) |exact bz (bz rfl))(hd:NDb x:=by decide)
 (a:NCd x:=by decide):DE c @4 (.Name x pos) (ae i):=ER (pvc i b hv hd a)
def NE{cl:List (Str×Addr)}(i:Nat)(b:Nc[i]?=aa x:=by rfl)(hv:Vis scope x:=by first |exact bX rfl |exact bz (bX rfl) |exact bz (bz rfl))(hd:NDb x:=by decide)
 (a:NCd x:=by decide):DB c @4 (.Name x pos) (cD i):=ET (pvc i b hv hd a)
def yh{cl:List (Str×Addr)}(i:Nat)(b:Nc[i]?=aa x:=by rfl)(hv:Vis scope x:=by first |exact bX rfl |exact bz (bX rfl) |exact bz (bz rfl))(hd:NDb x:=by decide)
 (a:NCd x:=by decide):DC c @4 (.Name x pos) (aw i):=ES (pvc i b hv hd a)
def dgc{cl:List (Str×Addr)}(i k:Nat)(b:i<k:=by decide)(a:Nc.Nodup:=by decide +kernel)(hi:Nc[i]?=aa x:=by rfl)(d:scope.names.lookup x=aa .local:=by rfl):DG c @4 (.Name x pos) k (ax i):=
 Fj (pgc i a hi d) b
inductive Fl where
 |nx (M:LS)
 |bk (M:LS)
 |ct (M:LS)
 |rt (d:D)
 |rtO (ds:LD)
 |rtS (d:D) (M:LS)
 |rtT (o:O)
nonrec abbrev MF3:=LS->Option Fl
abbrev ub(G:Gc)(Hf0 H0 Hf:Hp)(V4:i0):Fl->Prop
 |.nx ρ'=>∀σ' Hf' H',aq Hf Hf'->ar G Hf0 H0 Hf' H' σ' ρ'->V4.nx σ' H'
 |.bk ρ'=>∀σ' Hf' H',aq Hf Hf'->ar G Hf0 H0 Hf' H' σ' ρ'->V4.bk σ' H'
 |.ct ρ'=>∀σ' Hf' H',aq Hf Hf'->ar G Hf0 H0 Hf' H' σ' ρ'->V4.ct σ' H'
 |.rt d=>∀v Hf' H',Ext Hf0 H0 Hf' H'->Rep G Hf' d v->V4.rt v H'
 |.rtO ds=>∀l vs Hf' H',Ext Hf0 H0 Hf' H'->H0 l=ab->Hf' l=ab->H' l=aa (.lst vs)->am G Hf' ds vs->V4.rt (.ref l) H'
 |.rtS d M=>∀v σ' Hf' H',ar G Hf0 H0 Hf' H' σ' M->Rep G Hf' d v->V4.rt v H'
 |.rtT o=>∀u fp Hf' H',Ext Hf0 H0 Hf' H'->OT G Hf' H' o u fp->fp.Nodup->(∀a∈fp,H0 a=ab/\Hf' a=ab)->V4.rt u H'
inductive tDS(G:Gc)(F:MF3)(V4:i0)(E:St)(H:Hp):Prop
 |mk:∀Hf0 H0 Hf M o,ar G Hf0 H0 Hf H E M->F M=aa o->ub G Hf0 H0 Hf V4 o->tDS G F V4 E H
abbrev DS(c:Str->Addr)(X:Cx)(st:Stmt)(F:MF3):Prop:=PS X st (tDS (Gx c X) F)
abbrev DSs(c:Str->Addr)(X:Cx)(st:List Stmt)(F:MF3):Prop:=PSs X st (tDS (Gx c X) F)
abbrev bK(M:LS):Option Fl:=aa (.nx M)
abbrev ai(F a:MF3)(M:LS):Option Fl:=(F M).bind λo=>match o with
 |.nx ρ'=>a ρ'
 |o=>aa o
abbrev bg(t:MF4)(F a:MF3)(M:LS):Option Fl:=(t M).bind λb=>if b then F M else a M
abbrev aX(i:Nat)(f:MF1)(M:LS):Option Fl:=(f M).map λd=>.nx (M.set i (.im d))
abbrev cJ(i:Nat)(f:MF2)(M:LS):Option Fl:=(f M).map λd=>.nx (M.set i (.own d))
abbrev be(f:MF1)(M:LS):Option Fl:=(f M).map .rt
abbrev cv(f:MF2)(M:LS):Option Fl:=(f M).map .rtO
abbrev fw(i:Nat)(M:LS):Option Fl:=match M[i]? with
 |some (.im d)=>aa (.rt d)
 |some (.own C)=>aa (.rtO C)
 | _=>ab
abbrev iB(g:D->LS->Option LS)(F:MF3):LD->MF3
 | [],M=>aa (.nx M)
 |d::ds,M=>(g d M).bind λρ1=>(F ρ1).bind λo=>match o with
  |.nx a=>iB g F ds a
  |.ct a=>iB g F ds a
  |.bk a=>aa (.nx a)
  |.rt d=>aa (.rt d)
  |.rtO d=>aa (.rtO d)
  |.rtS d a=>aa (.rtS d a)
  |.rtT o=>aa (.rtT o)
abbrev bZ(fi:MF2)(g:D->LS->Option LS)(F:MF3)(M:LS):Option Fl:=(fi M).bind λds=>iB g F ds M
abbrev da(t:MF4)(F:MF3):Nat->MF3
 | 0,_=>ab
 |n+1,M=>(t M).bind λb=>if b then (F M).bind λo=>match o with
   |.nx a=>da t F n a
   |.ct a=>da t F n a
   |.bk a=>aa (.nx a)
   |.rt d=>aa (.rt d)
   |.rtO d=>aa (.rtO d)
   |.rtS d a=>aa (.rtS d a)
   |.rtT o=>aa (.rtT o)
  else aa (.nx M)
abbrev yi(i:Nat)(M:LS):LS:=match M[i]? with
 |some (.own C)=>M.set i (.im (.lst C))
 |some (.ownd ks C)=>M.set i (.im (.dic ks C))
 |some (.obj c ns C)=>M.set i (.im (.ins c ns C))
 | _=>M
abbrev eQ(i:Nat)(F:MF3)(M:LS):Option Fl:=F (yi i M)
abbrev c8(i:Nat)(f:MF1)(M:LS):Option Fl:=(f M).bind λd=>match M[i]? with
 |some (.own C)=>if C.length<16777216 then aa (.nx (M.set i (.own (C++[d])))) else ab
 | _=>ab
abbrev kg(f:MF1)(M:LS):OLD:=(f M).bind λd=>match d with
 |.lst C=>aa C
 | _=>ab
abbrev kh(i:Nat)(f:MF2)(M:LS):Option Fl:=(f M).bind λds=>match M[i]? with
 |some (.own C)=>if C.length+ds.length<=16777216 then aa (.nx (M.set i (.own (C++ds)))) else ab
 | _=>ab
def NF:DSs c X [] bK:=PSs.imp DU λV4 E H b=>by
 obtain⟨Hf0,H0,Hf,M,o,d,a,k⟩:=b;exact(by cases a;exact k E Hf H (aq.refl _) d)
def ub.up{V4:i0}{o:Fl}(h:ub G Hf0 H0 Hf V4 o)(s:aq Hf Hf'):ub G Hf0 H0 Hf' V4 o:=by
 cases o with
 |nx M=>exact λσ' bm H2 s2 q=>h σ' bm H2 (s.trans s2) q
 |bk M=>exact λσ' bm H2 s2 q=>h σ' bm H2 (s.trans s2) q
 |ct M=>exact λσ' bm H2 s2 q=>h σ' bm H2 (s.trans s2) q
 |rt d=>exact h
 |rtO d=>exact h
 |rtS d M=>exact h
 |rtT o=>exact h
variable{st:Stmt}{sts:List Stmt}{F':MF3}
def aE{F:MF3}(f:DS c X st F)(h2:DSs c X sts F'):DSs c X (st::sts) (ai F F'):=PSs.imp (tu f h2) λV4 E H g=>by
 obtain⟨Hf0,H0,Hf,M,o,h,a,k⟩:=g;unfold ai at a
 cases b:F M with
 |none=>rw[b]at a;nomatch a
 |some o1=>
  rw[b]at a;refine⟨Hf0,H0,Hf,M,o1,h,b,?_⟩
  cases o1 with
  |nx ρ1=>exact λi b3 H1 s1 e=>⟨Hf0,H0,b3,ρ1,o,e,a,k.up s1⟩
  |bk ρ1=>cases a;exact k
  |ct ρ1=>cases a;exact k
  |rt d=>cases a;exact k
  |rtO d=>cases a;exact k
  |rtS d ρ1=>cases a;exact k
  |rtT o'=>cases a;exact k
def bG{F:MF3}(a:DS c X st F):DSs c X [st] F:=DV a
variable{a b:List Stmt}{t:MF4}
def ja{F:MF3}(j:DT c X cd t)(ha:DSs c X a F)(i:DSs c X b F'):DS c X (.If cd a b pos) (bg t F F'):=PS.imp (Ku j ha i) λV4 E H l=>by
 obtain⟨Hf0,H0,Hf,M,o,h,d,k⟩:=l;unfold bg at d
 cases g:t M with
 |none=>rw[g]at d;nomatch d
 |some x=>
  rw[g]at d;refine⟨Hf0,H0,Hf,M,x,h,g,λb3 H1 e=>?_⟩
  cases x with
  |true=>rw[if_pos rfl];exact⟨Hf0,H0,b3,M,o,h.step e,d,k.up e.f⟩
  |false=>rw[if_neg bO];exact⟨Hf0,H0,b3,M,o,h.step e,d,k.up e.f⟩
def Fp{f:MF1}(g:PS X st (i4 te (g9 i)))(hi:∀E H Q,tD (Gx c X) f E H Q->te E H Q):DS c X st (aX i f):=PS.imp g λV4 E H h=>by
 obtain⟨Hf0,H0,Hf,M,o,e,a,k⟩:=h;unfold aX at a
 cases b:f M with
 |none=>rw[b]at a;nomatch a
 |some d=>
  rw[b]at a;cases a;exact hi _ _ _ ⟨Hf0,H0,Hf,M,d,e,b,λv Hf' H' x r=>k _ Hf' H' x.f ((e.step x).setIm r)⟩
def Fq(j:PS X st (i4 te (g9 i)))(hi:∀E H Q,tDO (Gx c X) f E H Q->te E H Q):DS c X st (cJ i f):=PS.imp j λV4 E H m=>by
 obtain⟨Hf0,H0,Hf,M,o,e,a,k⟩:=m;unfold cJ at a
 cases b:f M with
 |none=>rw[b]at a;nomatch a
 |some d=>
  rw[b]at a;cases a;exact hi _ _ _ ⟨Hf0,H0,Hf,M,d,e,b,λl vs Hf' H' x hn g h r=>k _ Hf' H' x.f (e.setOwn rfl x hn g ⟨vs,h,r⟩)⟩
def qK(i:Nat){f:MF1}(a:X.N.Nodup)(b:DE c X e f)(hi:X.N[i]?=aa x:=by rfl)(j:Loc X.env.scope x:=by first |exact bX rfl |exact bz rfl)(g:f7 e (aa (.Name x b4)) pos.line X.env=pure af:=by rfl)(d:LcF X x:=by first |exact .inl rfl |exact .inr rfl):
  DS c X (.Assign [.Name x b4] e pos) (aX i f):=Fp (ou a hi j b g d) λ_ _ _ h=>h
def uc(i:Nat)(a:X.N.Nodup)(b:DO c X e f)(hi:X.N[i]?=aa x:=by rfl)(j:Loc X.env.scope x:=by first |exact bX rfl |exact bz rfl)(g:f7 e (aa (.Name x b4)) pos.line X.env=pure af:=by rfl)(d:LcF X x:=by first |exact .inl rfl |exact .inr rfl):
  DS c X (.Assign [.Name x b4] e pos) (cJ i f):=Fq (ou a hi j b g d) λ_ _ _ h=>h
def NG(h:tD G (aO f) E H Q):tDO G f E H Q:=by
 obtain⟨Hf0,H0,Hf,M,d,st,a,k⟩:=h;unfold aO at a
 cases b:f M with
 |none=>rw[b]at a;nomatch a
 |some ds=>
  rw[b]at a;have a:=dk a;subst a;exact⟨Hf0,H0,Hf,M,ds,st,b,λl vs Hf' H' x hn c e r=>k _ _ H' (x.fix hn c e) ⟨l,vs,rfl,aZ,r.up (bN c)⟩⟩
def NH(i:Nat)(k:Nat)(js:LN)(Nc:LSt)(f:X.N.Nodup)(j:X.calm=ac)(hi:DIe c X tg iter fi)
 (a:∀cl V5 ex cc cs,DG c @4 tg k g)(q:∀cl V5 ex cc cs,DTs c @4 c3 ft)(l:∀cl V5 ex cc cs,DE c @4 c5 fe)
 (b:X.N[i]?=aa x:=by rfl)(r:Loc X.env.scope x:=by first |exact bX rfl |exact bz rfl)
 (d:f7 @5 (aa (.Name x b4)) eH.line X.env=pure ac:=by rfl)
 (e:lq scope X.env.scope.names X.N Nc k js=ac:=by rfl)(p:∀x,kS iter X.env x=pure x:=by intro _;rfl)(n:js.Nodup:=by decide)
 (m:LcF X x:=by first |exact .inl rfl |exact .inr rfl):
  DS c X (.Assign [.Name x b4] @5 eH) (cJ i (bp k js fi g ft fe)):=
 Fq (xN (tt:=tDT (Gx c X) ft) (te:=tD (Gx c X) fe) k js Nc f b r j hi (λcl V5 ex cc cs=>(a cl V5 ex cc cs).pg) q l d e p m) λE H Q h=>yg n (a [] 0 [] X.s₀ X.H₀).keep (a [] 0 [] X.s₀ X.H₀).len h
def qL(i:Nat)(k:Nat)(js:LN)(Nc:LSt)(f:X.N.Nodup)(j:X.calm=ac)(hi:DIe c X tg iter fi)
 (a:∀cl V5 ex cc cs,DG c @4 tg k g)(q:∀cl V5 ex cc cs,DTs c @4 c3 ft)(l:∀cl V5 ex cc cs,DE c @4 c5 fe)
 (b:X.N[i]?=aa x:=by rfl)(r:Loc X.env.scope x:=by first |exact bX rfl |exact bz rfl)
 (d:f7 @5 (aa (.Name x b4)) eH.line X.env=pure ac:=by rfl)
 (e:lq scope X.env.scope.names X.N Nc k js=ac:=by rfl)(p:∀x,kS iter X.env x=pure x:=by intro _;rfl)(n:js.Nodup:=by decide)
 (m:LcF X x:=by first |exact .inl rfl |exact .inr rfl):
  DS c X (.Assign [.Name x b4] @5 eH) (aX i (aO (bp k js fi g ft fe))):=
 Fp (xN (tt:=tDT (Gx c X) ft) (te:=tD (Gx c X) fe) k js Nc f b r j hi (λcl V5 ex cc cs=>(a cl V5 ex cc cs).pg) q l d e p m) λE H Q h=>yg n (a [] 0 [] X.s₀ X.H₀).keep (a [] 0 [] X.s₀ X.H₀).len (NG h)
def qM{f:MF1}(h:DE c X e f):DS c X (.Return (aa e) pos) (be f):=PS.imp (tz h) λV4 E H i=>by
 obtain⟨Hf0,H0,Hf,M,o,g,a,k⟩:=i;unfold be at a
 cases b:f M with
 |none=>rw[b]at a;nomatch a
 |some d=>
  rw[b]at a;cases a;exact⟨Hf0,H0,Hf,M,d,g,b,λv Hf' H' x r=>k v Hf' H' (g.ext.trans x) r⟩
abbrev fA(f:MF1)(M:LS):Option Fl:=(f M).map λd=>.rtS d M
def Ft{f:MF1}(h:DE c X e f):DS c X (.Return (aa e) pos) (fA f):=PS.imp (tz h) λV4 E H i=>by
 obtain⟨Hf0,H0,Hf,M,o,g,a,k⟩:=i;unfold fA at a
 cases b:f M with
 |none=>rw[b]at a;nomatch a
 |some d=>
  rw[b]at a;cases a;exact⟨Hf0,H0,Hf,M,d,g,b,λv Hf' H' x r=>k v E Hf' H' (g.step x) r⟩
def jH(i:DO c X e f):DS c X (.Return (aa e) pos) (cv f):=PS.imp (tz i) λV4 E H n=>by
 obtain⟨Hf0,H0,Hf,M,o,g,a,k⟩:=n;unfold cv at a
 cases b:f M with
 |none=>rw[b]at a;nomatch a
 |some d=>
  rw[b]at a;cases a;exact⟨Hf0,H0,Hf,M,d,g,b,λl vs Hf' H' x hn j m r=>k l vs Hf' H' (g.ext.trans x) (g.ext.h.free hn) j m r⟩
def NI(h:PE X e (cQ i)):DS c X (.Return (aa e) pos) (fw i):=PS.imp (tz h) λV4 E H m=>by
 obtain⟨Hf0,H0,Hf,M,o,b,a,k⟩:=m;unfold fw at a
 cases es:M[i]? with
 |none=>rw[es]at a;nomatch a
 |some s=>
  rw[es]at a
  cases s with
  |im d=>
   cases a;obtain⟨v,f,r⟩:=b.imm es
   exact⟨_,f,k v Hf H b.ext r⟩
  |own C=>
   cases a;obtain⟨l,f,g,j,vs,q,r⟩:=b.ownAt rfl es
   exact⟨_,f,k l vs Hf H b.ext g j q r⟩
  | _=>nomatch a
def NJ(i:Nat)(b:X.N[i]?=aa x:=by rfl)(hv:Vis X.env.scope x:=by first |exact bX rfl |exact bz (bX rfl) |exact bz (bz rfl))(hd:NDb x:=by decide)
 (a:NCd x:=by decide):DS c X (.Return (aa (.Name x p)) pos) (fw i):=NI (mx b hv hd a)
def gc{F:MF3}(hp:PassesOwn @2 X.A X.env X.xe)(hc:X.calm=ac)(hi:DI c X tg iter fi)(hg:DG c X tg kk g)(hb:DSs c X a F)(hs:∀x,kS iter X.env x=pure x:=by intro _;rfl):
  DS c X (.For tg iter a [] pos) (bZ fi g F):=PS.imp (D3 hp hc hi hg.pg hb hs) λV4 E H q_=>by
 obtain⟨Hf0,H0,Hf,M,o,T,p,k⟩:=q_;unfold bZ at p
 cases v:fi M with
 |none=>rw[v]at p;nomatch p
 |some ds=>
  rw[v]at p;refine⟨Hf0,H0,Hf,M,ds,T,v,λJ b3 H1 Q it=>?_⟩;refine⟨λi m σ' H'=>m=ds.length-i/\i<=ds.length/\∃Hf' ρ',ar _ Hf0 H0 Hf' H' σ' ρ'/\aq b3 Hf'/\iB g F (ds.drop i) ρ'=aa o,⟨ds.length,rfl,cg _,b3,M,T.step Q,aq.refl _,p⟩,?_⟩;rintro i m σ' H' ⟨rfl,hi',Hf',ρ',l,s1,em⟩;obtain⟨G,I⟩:=it Hf' H' s1 l.sub i
  by_cases j:i<ds.length
  .obtain⟨d,Y,B⟩:=yf j;obtain⟨go,yl⟩:=G d Y;rw[B]at em;unfold iB at em;refine .inr ⟨go,λr H2=>ds.length-_=ds.length-_/\i+1<=ds.length/\∃Hf' ρ',ar _ Hf0 H0 Hf' H2 r ρ'/\aq b3 Hf'/\iB g F _ ρ'=aa o,λr H2 w=>⟨ds.length-(i+1),by lia,w⟩,λx H2 y=>?_⟩;obtain⟨bm,U,rx⟩:=yl x H2 y
   cases C:g d ρ' with
   |none=>rw[C]at em;nomatch em
   |some ρ1=>
    rw[C]at em;replace em:(F ρ1).bind _=_:=em
    cases z:F ρ1 with
    |none=>rw[z]at em;nomatch em
    |some o1=>
     rw[z]at em;refine⟨Hf0,H0,bm,ρ',d,ρ1,l.step U,rx,C,λσ3 N=>⟨Hf0,H0,bm,ρ1,o1,N,z,?_⟩⟩;have L:=s1.trans U.f
     cases o1 with
     |nx h=>exact λn b u q e=>⟨rfl,j,b,h,e,L.trans q,em⟩
     |ct h=>exact λn b u q e=>⟨rfl,j,b,h,e,L.trans q,em⟩
     |bk h=>cases em;exact λn b u q e=>k n b u ((Q.f.trans L).trans q) e
     |rt d=>cases em;exact k
     |rtO d=>cases em;exact k
     |rtS d h=>cases em;exact k
     |rtT o'=>cases em;exact k
  .have ei:i=ds.length:=by lia
   subst ei;rw[drop_eq_nil_of_le (aM _)]at em;cases em;exact .inl ⟨I rfl,k σ' Hf' H' (Q.f.trans s1) l⟩
def oO{F:MF3}(n:Nat)(G:PassesOwn @2 X.A X.env X.xe)(C:DT c X cd t)(B:DSs c X a F):DS c X (.While cd a [] pos) (da t F n):=PS.imp (KF G C B) λV4 E H I=>by
 obtain⟨Hf0,H0,Hf,M,o,J,z,k⟩:=I;refine⟨λm σ' H'=>∃Hf' ρ',ar _ Hf0 H0 Hf' H' σ' ρ'/\aq Hf Hf'/\da t F m ρ'=aa o,⟨n,Hf,M,J,aq.refl _,z⟩,?_⟩;rintro m σ' H' ⟨Hf',ρ',i,s1,em⟩
 cases m with
 |zero=>nomatch em
 |succ m=>
  unfold da at em
  cases v:t ρ' with
  |none=>rw[v]at em;nomatch em
  |some b=>
   rw[v]at em;refine⟨Hf0,H0,Hf',ρ',b,i,v,λbm H2 q=>?_⟩
   cases b with
   |false=>
    cases em
    exact k σ' bm H2 (s1.trans q.f) (i.step q)
   |true=>
    cases u:F ρ' with
    |none=>rw[u]at em;nomatch em
    |some o1=>
     rw[u]at em;refine⟨λp y=>∃Hf' ρ',ar _ Hf0 H0 Hf' y p ρ'/\aq Hf Hf'/\da t F m ρ'=aa o,λp y w=>⟨m,c6 _,w⟩,Hf0,H0,bm,ρ',o1,i.step q,u,?_⟩;have x:=s1.trans q.f
     cases o1 with
     |nx h=>exact λj e r l g=>⟨e,h,g,x.trans l,em⟩
     |ct h=>exact λj e r l g=>⟨e,h,g,x.trans l,em⟩
     |bk h=>cases em;exact λj e r l g=>k j e r (x.trans l) g
     |rt d=>cases em;exact k
     |rtO d=>cases em;exact k
     |rtS d h=>cases em;exact k
     |rtT o'=>cases em;exact k
def NK{F:MF3}{V4:i0}(h:tDS G (eQ i F) V4 E H):tDS G F V4 E H:=by
 obtain⟨Hf0,H0,Hf,M,o,b,c,k⟩:=h;unfold eQ yi at c;split at c
 .rename_i C es;obtain⟨l,e,f,a,vs,q,r⟩:=b.ownAt rfl es;exact⟨Hf0,H0,_,_,o,b.fixd (d:=.lst C) rfl es e q ⟨l,vs,rfl,aZ,r.up (bN a)⟩,c,k.up (bN a)⟩
 .rename_i ks C es;obtain⟨l,e,f,a,vs,q,z,r⟩:=b.ownAt rfl es;exact⟨Hf0,H0,_,_,o,b.fixd (d:=.dic ks C) rfl es e q ⟨l,vs,rfl,aZ,z,r.up (bN a)⟩,c,k.up (bN a)⟩
 .rename_i g ns C es;obtain⟨l,e,f,a,dx,vs,q,z,r⟩:=b.ownAt rfl es;exact⟨Hf0,H0,_,_,o,b.fixd (d:=.ins g ns C) rfl es e q ⟨l,dx,vs,rfl,aZ,z,r.up (bN a)⟩,c,k.up (bN a)⟩
 .exact⟨Hf0,H0,Hf,M,o,b,c,k⟩
def lw{F:MF3}(i:Nat)(h:DS c X st F):DS c X st (eQ i F):=PS.imp h λ_ _ _=>NK
def NL{f:MF1}(h:PS X st (mC (tBM X.K "list" tL (cQ i) (i5 (tD (Gx c X) f) hJ)))):DS c X st (c8 i f):=PS.imp h λV4 E H m=>by
 obtain⟨Hf0,H0,Hf,M,o,e,a,k⟩:=m;unfold c8 at a
 cases b:f M with
 |none=>rw[b]at a;nomatch a
 |some d=>
  rw[b]at a;split at a
  .rename_i C es;split at a
   .rename_i j;cases a;obtain⟨l,g,p,u,vs,q,r⟩:=e.ownAt rfl es;refine⟨_,g,.inl ⟨rfl,_,SqL.of q⟩,Hf0,H0,Hf,M,d,e,b,λv Hf' H' x n=>?_⟩;refine⟨l,vs,v,rfl,rfl,(x.h _ _ q),by rw[dq,<- r.length];exact j,k E Hf' _ x.f ((e.step x).mutd rfl rfl es g ⟨vs++[v],aZ,(r.up x.f).append (.cons n .nil)⟩)⟩
   .nomatch a
  .nomatch a
def Fu{f:MF1}(h:PS X st (mC (tBM X.K "list" xC (cQ i) (i5 (tD (Gx c X) f) hJ)))):DS c X st (kh i (kg f)):=PS.imp h λV4 E H u=>by
 obtain⟨Hf0,H0,Hf,M,o,g,b,k⟩:=u;unfold kh kg at b
 cases e:f M with
 |none=>rw[e]at b;nomatch b
 |some d=>
  rw[e]at b
  cases d with
  |lst ds=>
   replace b:(match M[i]? with |some (.own C)=>if C.length+ds.length<=16777216 then aa _ else ab | _=>ab)=aa o:=b
   split at b
   .rename_i C es;split at b
    .rename_i p;cases b;obtain⟨l,j,z,A,vs,q,r⟩:=g.ownAt rfl es;refine⟨_,j,.inl ⟨rfl,_,SqL.of q⟩,Hf0,H0,Hf,M,.lst ds,g,e,λv Hf' H' x y=>?_⟩;obtain⟨a,us,n,w,m⟩:=y;subst n;refine⟨l,a,vs,us,rfl,rfl,(x.h _ _ q),x.s _ _ w,by rw[dq,<- r.length,<- m.length];exact p,k E Hf' _ x.f ((g.step x).mutd rfl rfl es j ⟨vs++us,aZ,(r.up x.f).append m⟩)⟩
    .grind
   .grind
  | _=>nomatch b
abbrev Fv:Fl->OD
 |.rt d=>aa d
 |.rtO ds=>aa (.lst ds)
 |.rtS d _=>aa d
 |.nx _=>aa .non
 | _=>ab
abbrev fP(n:Nat)(ds:LD):LS:=ds.map .im++gW (n-ds.length) .no
abbrev aP(n:Nat)(F:MF3)(ds:LD):OD:=(F (fP n ds)).bind Fv
abbrev jb(n:Nat)(F:MF3)(ds:LD):OLD:=(F (fP n ds)).bind λo=>match o with
 |.rtO ds=>aa ds
 | _=>ab
abbrev spD(G:Gc)(n:Nat)(m:LD->OD):Sp:=λvs H Q _=>∃Hf ds d,aq Hf H/\am G Hf ds vs/\ds.length=n/\m ds=aa d/\∀v Hf' H',Ext Hf H Hf' H'->Rep G Hf' d v->Q v H'
abbrev spO(G:Gc)(n:Nat)(m:LD->OLD):Sp:=λvs H Q _=>∃Hf ds L,aq Hf H/\am G Hf ds vs/\ds.length=n/\m ds=aa L /\
 ∀l us Hf' H',Ext Hf H Hf' H'->H l=ab->Hf' l=ab->H' l=aa (.lst us)->am G Hf' L us->Q (.ref l) H'
def ar.start(h:aq Hf H)(r:am G Hf ds vs):ar G Hf H Hf H (start N vs) (fP N.length ds):=by
 have im:∀i (s:Sl),(fP N.length ds)[i]?=aa s->s=.no\/∃d,ds[i]?=aa d/\s=.im d:=λi s b=>by
  unfold fP at b
  by_cases hi:i<ds.length
  .rw[lV (by simpa using hi)]at b;obtain⟨d,f,es⟩:=oN b;exact .inr ⟨d,f,es⟩
  .rw[nN (by simpa using nV hi)]at b;obtain⟨_,e⟩:=cU.mp b;rw[List.getElem_replicate]at e;exact .inl e.symm
 refine⟨Ext.refl h,by simp[L2.start,fP,r.length],λi v s a b=>?_,λi j s t v w l a b c d p q=>?_⟩
 .rcases im i s b with e |⟨d,f,es⟩
  .subst e;trivial
  .subst es;obtain⟨u,g,ru⟩:=r.get f;refine⟨u,?_,ru⟩;unfold L2.start at a;rw[lV (by simpa using ((cU.mp g).1)),cM,g]at a;exact(dk a).symm
 .rcases im i s a with e |⟨d,f,es⟩
  .subst e;exact(p.calm rfl).elim
  .subst es;exact(p.calm rfl).elim
variable{P:b9}{mg:MGT}{base:Heap}{n_:Nat}{qual:Str}{f:Addr}{fd:cO}{ps:LSt}
def a9{k:Nat}{F:MF3}(q:Fun K x qual st f fd)(S:aB N ps (au st))
 (h:∀(cdv:Value) (A:b6) (outer:List Env) (s:ah) (H:Hp) (V4:XK),bu k @10->DSs c (iw CX0 P w K mg base N qual (au st) f cdv A outer s H V4).nox (fN st) F)(i:N.length=n_:=by rfl):
  cr P w K mg base CX0 (k+1) f fd ps (spD ⟨K,c⟩ ps.length (aP n_ F)):=by
 subst i;refine q.ok S (λvs H Q V4 j=>by obtain⟨Hf,ds,d,p,r,a,_⟩:=j;rw[<- r.length];exact a) λcdv A outer s H vs Q V4 hr j=>?_;obtain⟨Hf,ds,d,p,r,a,e,b⟩:=j;refine⟨_,h cdv A outer s H V4 hr,?_⟩;unfold aP at e
 cases g:F _ with
 |none=>rw[g]at e;nomatch e
 |some o=>
  rw[g]at e;refine⟨Hf,H,Hf,_,o,ar.start p r,g,?_⟩
  cases o with
  |nx M=>cases e;exact λσ' Hf' H' _ m=>b _ Hf' H' m.ext rfl
  |bk M=>nomatch e
  |ct M=>nomatch e
  |rt d=>cases e;exact b
  |rtO L=>cases e;exact λl vs Hf' H' x hn n a r=>b _ _ H' (x.fix hn n a) ⟨l,vs,rfl,aZ,r.up (bN n)⟩
  |rtS d M=>cases e;exact λv σ' Hf' H' m r=>b v Hf' H' m.ext r
  |rtT o=>nomatch e
def mQ{k:Nat}{F:MF3}(l:Fun K x qual st f fd)(S:aB N ps (au st))
 (h:∀(cdv:Value) (A:b6) (outer:List Env) (s:ah) (H:Hp) (V4:XK),bu k @10->DSs c (iw CX0 P w K mg base N qual (au st) f cdv A outer s H V4).nox (fN st) F)(b:N.length=n_:=by rfl):
  cr P w K mg base CX0 (k+1) f fd ps (spO ⟨K,c⟩ ps.length (jb n_ F)):=by
 subst b;refine l.ok S (λvs H Q V4 g=>by obtain⟨Hf,ds,d,j,r,i,_⟩:=g;rw[<- r.length];exact i) λcdv A outer s H vs Q V4 hr g=>?_;obtain⟨Hf,ds,L,j,r,i,e,m⟩:=g;refine⟨_,h cdv A outer s H V4 hr,?_⟩;unfold jb at e
 cases a:F _ with
 |none=>rw[a]at e;nomatch e
 |some o=>
  rw[a]at e;refine⟨Hf,H,Hf,_,o,ar.start j r,a,?_⟩
  cases o with
  |rtO n=>cases e;exact m
  | _=>nomatch e
variable{fa:MF2}{k0:Nat}
def NM{k:Nat}(pk:Pk X.prog X.w X.K X.mg X.base CX0 k x (f,fd) ps (spD (Gx c X) ps.length m))(j:bu k0 X.A)(ha:DA c X (e::es) fa)(z:(e::es).length=ps.length:=by rfl)(a:NDb x:=by decide)(u:StE X e es:=by rfl)(i:BkE X pos es:=by rfl)(h:k<=k0:=by decide)(y:Gl X x:=by first |rfl |exact glc rfl):
  DE c X @8 (av m fa):=PE.imp (qv pk.ok (j.mono h) y pk.g pk.kp pk.b .nil gB ha.pa a u i) λE H Q C=>by
 obtain⟨Hf0,H0,Hf,M,d,st,q,B⟩:=C;obtain⟨ds,l,n⟩:=x6 q;refine⟨Hf0,H0,Hf,M,ds,st,l,λvs Hf' H' x r=>?_⟩;rw[bP];exact⟨Hf',ds,d,x.s,r,(ha.len M ds l).trans z,n,λv bm H2 I G=>B v bm H2 (x.trans I) G⟩
abbrev ki(m:LD->OLD)(f:MF2)(M:LS):OLD:=(f M).bind m
def NN{k:Nat}{m:LD->OLD}(pk:Pk X.prog X.w X.K X.mg X.base CX0 k x (f,fd) ps (spO (Gx c X) ps.length m))(u:bu k0 X.A)(ha:DA c X (e::es) fa)(B:(e::es).length=ps.length:=by rfl)(i:NDb x:=by decide)(v:StE X e es:=by rfl)(q:BkE X pos es:=by rfl)(j:k<=k0:=by decide)(z:Gl X x:=by first |rfl |exact glc rfl):
  DO c X @8 (ki m fa):=PE.imp (qv pk.ok (u.mono j) z pk.g pk.kp pk.b .nil gB ha.pa i v q) λE H Q G=>by
 obtain⟨Hf0,H0,Hf,M,L,st,a,C⟩:=G;unfold ki at a
 cases d:fa M with
 |none=>rw[d]at a;nomatch a
 |some ds=>
  rw[d]at a;refine⟨Hf0,H0,Hf,M,ds,st,d,λvs Hf' H' x r=>?_⟩;rw[bP];exact⟨Hf',ds,L,x.s,r,(ha.len M ds d).trans B,a,λl us bm H2 J hn y n I=>C l us bm H2 (x.trans J) (x.h.free hn) y n I⟩
def Fw{G:Gc}{H:Hp}{f:Str}{d:D}:∀{ns:LSt} {ds:LD} {vs:LVv},(ns.zip ds).lookup f=aa d->am G H ds vs->∃v,(ns.zip vs).lookup f=aa v/\Rep G H d v
 | [],_,_,e,_=>by simp at e
 |n::ns,[],_,e,_=>by simp at e
 |n::ns,x::ds,_,e,q4_=>by
  obtain⟨v,r,b,c,h2⟩:=q4_;subst b;simp only[e7,qc]at e;simp only[e7,qc]
  cases a:f==n with
  |true=>rw[a]at e;cases e;exact⟨v,rfl,c⟩
  |false=>rw[a]at e;exact Fw e h2
def oP{f:Str}:∀{ns:LSt} {vs:LVv},ns.contains f=af->(ns.zip vs).lookup f=ab
 | [],_,_=>by simp
 |n::ns,[],_=>by rfl
 |n::ns,v::vs,h=>by
  rw[contains_cons,Bool.or_eq_false_iff]at h;simp only[e7,qc,h.1];exact oP h.2
abbrev NO(cn f:Str):D->OD
 |.ins a ns ds=>if a=cn then (ns.zip ds).lookup f else ab
 | _=>ab
abbrev ba(cn f:Str)(m:MF1)(M:LS):OD:=(m M).bind (NO cn f)
abbrev aL(cn f:Str)(m:LD->OD)(fo:MF1)(fa:MF2)(M:LS):OD:=(fo M).bind λd=>match d with
 |.ins a ns ds=>if a=cn/\ns.contains f=af then (fa M).bind λas=>m (.ins a ns ds::as) else ab
 | _=>ab
variable{fl:Str}{fo:MF1}
def NP{o:Expr}(cn:Str)(l:Cls X.K (c cn))(hn:cH X.K (c cn) fl)(m:DE c X o fo)(j:n9 o fl X.env (eval o X.env)=eval o X.env:=by rfl):DE c X (.Attribute o fl pos) (ba cn fl fo):=
 PE.imp (Eg m j) λE H Q n=>by
  obtain⟨Hf0,H0,Hf,M,d,st,b,k⟩:=n;unfold ba at b
  cases e:fo M with
  |none=>rw[e]at b;nomatch b
  |some y=>
   rw[e]at b
   cases y with
   |ins g ns ds=>
    replace b:(if g=cn then (ns.zip ds).lookup fl else ab)=aa d:=b;split at b
    .rename_i f;subst f;refine⟨Hf0,H0,Hf,M,_,st,e,λv Hf' H' x r=>?_⟩;obtain⟨a,dx,vs,i,q,p,L⟩:=r;obtain⟨u,h,ru⟩:=Fw b L;exact⟨a,c g,dx,ns.zip vs,u,i,x.s _ _ q,l,hn,h,k u Hf' H' x ru⟩
    .grind
   | _=>nomatch b
variable{apos:Pos}{pl:Sem Bool}
def NQ{k:Nat}{o:Expr}(cn:Str)(Y:DE c X o fo)(pk:Pm X.prog X.w X.K X.mg X.base CX0 k (c cn) fl (f,fd) ps (spD (Gx c X) ps.length m))(B:bu k0 X.A)(ha:DA c X (e::es) fa)(U:(e::es).length+1=ps.length:=by rfl)(C:StE X e es:=by rfl)(z:BkE X pos es:=by rfl)(ht:eval (.Call (.Attribute o fl apos) (e::es) [] pos) X.env=(do
   let ov <- eval o X.env
   gt apos.atName
   let (f,first) <- eJ [ov] (gZ ov fl pl)
   jD pos f first (ca pos (aN (e::es) X.env)) (io pos (il [] X.env))):=by rfl)(n:k<=k0:=by decide):
  DE c X (.Call (.Attribute o fl apos) (e::es) [] pos) (aL cn fl m fo fa):=PE.imp (xq Y pk.c pk.m pk.ok (B.mono n) pk.b .nil gB ha.pa C z ht) λE H Q q_=>by
 obtain⟨Hf0,H0,Hf,M,d,st,g,kq⟩:=q_;unfold aL at g
 cases j:fo M with
 |none=>rw[j]at g;nomatch g
 |some y=>
  rw[j]at g
  cases y with
  |ins I ns ds=>
   replace g:(if I=cn/\ns.contains fl=af then (fa M).bind λas=>m _ else ab)=aa d:=g;split at g
   .rename_i l;obtain⟨rfl,p⟩:=l
    cases h:fa M with
    |none=>rw[h]at g;nomatch g
    |some as=>
     rw[h]at g;refine⟨Hf0,H0,Hf,M,_,st,j,λv Hf' H' x r=>?_⟩;obtain⟨a,dx,vs,T,q,J,L⟩:=id r;refine⟨a,dx,ns.zip vs,T,x.s _ _ q,oP p,Hf0,H0,Hf',M,as,st.step x,h,λws bm H2 G r2=>?_⟩;rw[bP];exact⟨bm,.ins I ns ds::as,d,G.s,.cons (r.up G.f) r2,by rw[cy,ha.len M as h];exact U,g,λu i N x3 r3=>kq u i N ((x.trans G).trans x3) r3⟩
   .nomatch g
  | _=>nomatch g
def NR{k:Nat}{o:Expr}(cn:Str)(I:DE c X o fo)(pk:Pm X.prog X.w X.K X.mg X.base CX0 k (c cn) fl (f,fd) ps (spD (Gx c X) ps.length m))(n:bu k0 X.A)(G:1=ps.length:=by rfl)(J:eval (.Call (.Attribute o fl apos) [] [] pos) X.env=(do
   let ov <- eval o X.env
   gt apos.atName
   let (f,first) <- eJ [ov] (gZ ov fl pl)
   jD pos f first (ca pos (aN [] X.env)) (io pos (il [] X.env))):=by rfl)(j:k<=k0:=by decide):
  DE c X (.Call (.Attribute o fl apos) [] [] pos) (aL cn fl m fo λ_=>aa []):=PE.imp (xr I pk.c pk.m pk.ok (n.mono j) pk.b .nil gB J) λE H Q T=>by
 obtain⟨Hf0,H0,Hf,M,d,st,e,N⟩:=T;dsimp only[aL]at e
 cases h:fo M with
 |none=>rw[h]at e;nomatch e
 |some y=>
  simp only[h]at e
  cases y with
  |ins B ns ds=>
   replace e:(if B=cn/\ns.contains fl=af then (aa []).bind λas=>m _ else ab)=aa d:=e;split at e
   .rename_i i;obtain⟨rfl,l⟩:=i;refine⟨Hf0,H0,Hf,M,_,st,h,λv Hf' H' x r=>?_⟩;obtain⟨a,dx,vs,C,q,p,L⟩:=id r;exact⟨a,dx,ns.zip vs,C,x.s _ _ q,oP l,⟨Hf',_,d,x.s,.cons r .nil,G,e,λu g z Y U=>N u g z (x.trans Y) U⟩⟩
   .nomatch e
  | _=>nomatch e
abbrev ud:List (Str×(MF1))->LS->LSt->LD->Option (LSt×LD)
 | [],_,ns,ds=>aa (ns,ds)
 |(f,m)::r,M,ns,ds=>(m M).bind λd=>if ns.contains f then ab else ud r M (ns++[f]) (ds++[d])
abbrev NS(G:Gc)(cn:Str)(fs:List (Str×(MF1))):TS:=λV4 E H=>∃x dx Hf0 H0 Hf M ns us ds r,E[0]?=aa (aa (.ref x))/\(∀s∈M,Sl.calm s=ac)/\ar G Hf0 H0 Hf H E M/\H0 x=ab/\Hf x=ab /\
 H x=aa (.ins (G.cl cn) dx (ns.zip us))/\ns.length=us.length/\ns.length+fs.length<=900/\am G Hf ds us/\ud fs M ns ds=aa r /\
 ∀a Hf' H',Ext Hf0 H0 Hf' H'->Hf' x=ab->H' x=aa (.ins (G.cl cn) dx (r.1.zip a))->r.1.length=a.length->am G Hf' r.2 a->V4.nx E H'
abbrev DSI(c:Str->Addr)(X:Cx)(cn:Str)(sts:List Stmt)(fs:List (Str×(MF1))):Prop:=PSs X sts (NS (Gx c X) cn fs)
def qN{f:Str}{v:V}:∀{ns:LSt} {us:LVv},ns.length=us.length->ns.contains f=af->c7 f v (ns.zip us)=(ns++[f]).zip (us++[v])
 | [],[],_,_=>rfl
 |n::ns,u::us,hl,h=>by
  rw[contains_cons,Bool.or_eq_false_iff]at h;have a:¬(n=f):=λz=>by rw[z,beq_self_eq_true]at h;cases h.1
  rw[e7];unfold c7
  first
   |(rw[if_neg a,qN (by grind) h.2];rfl)
   |(rw[if_neg _,qN (by grind) h.2];rfl)
   |(rw[if_neg (by grind),qN (by grind) h.2];rfl)
   |(rw[if_neg (by grind),qN (by grind) h.2];rfl)
 | [],_::_,hl,_=>by cases hl
 | _::_,[],hl,_=>by cases hl
def ue{cn:Str}:DSI c X cn [] []:=PSs.imp DU λV4 E H q=>by
 obtain⟨x,dx,Hf0,H0,Hf,M,ns,us,ds,r,e0,no,e,f,a,d,b,hz,rd,em,k⟩:=q;cases em;exact k us Hf H e.ext a d b rd
variable{m:MF1}{fs:List (Str×(MF1))}
def oQ{cn:Str}{o:Expr}(L:Cls X.K (c cn))(hn:cH X.K (c cn) fl)(T:PE X o (cQ 0))(N:DE c X e m)(h:DSI c X cn sts fs)(A:f7 e (aa (.Attribute o fl b4)) pos.line X.env=pure af:=by rfl):
  DSI c X cn (.Assign [.Attribute o fl b4] e pos::sts) ((fl,m)::fs):=PSs.imp (tu (xm T N A) h) λV4 E H q=>by
 obtain⟨x,dx,Hf0,H0,Hf,M,ns,us,ds,r,e0,no,J,C,Q,I,G,hz,rd,em,k⟩:=q;unfold ud at em
 cases z:m M with
 |none=>rw[z]at em;nomatch em
 |some d=>
  rw[z]at em;split at em
  .grind
  .rename_i l;have l:ns.contains fl=af:=by grind
   refine⟨Hf0,H0,Hf,M,d,J,z,λv Hf' H' y rv=>⟨_,e0,x,c cn,dx,ns.zip us,rfl,y.h _ _ I,L,hn,?_,?_⟩⟩
   .grind
   .have j:Hf' x=ab:=by rw[y.n _ _ I rfl];exact Q
    have g:=J.step y
    have B:ar (Gx c X) Hf0 H0 Hf' (upd H' x (.ins (c cn) dx (c7 fl v (ns.zip us)))) E M:=by
     refine g.re ⟨g.ext.f,λb u e=>?_,λb u e=>?_,g.ext.n⟩ rfl (λi w s a b=>?_) λi s w a b _ p=>(p.calm (no s (dP b))).elim
     .rw[aK (fq e C)];exact g.ext.h b u e
     .rw[aK (fq e j)];exact g.ext.s b u e
     .have A:=no s (dP b);have q:=g.at' i w s a b
      cases s with
      |no=>trivial
      |im d=>exact q
      | _=>nomatch A
    refine⟨x,dx,Hf0,H0,Hf',M,ns++[fl],us++[v],ds++[d],r,e0,no,B,C,j,?_,by rw[aR,aR,G];rfl,by rw[cy]at hz;rw[aR,fX];lia,(rd.up y.f).append (.cons rv .nil),em,k⟩;rw[aZ,qN G l]
abbrev del(H:Hp)(x:Addr):Hp:=λb=>if b=x then ab else H b
def Fx{x:Addr}:del H x x=ab:=if_pos rfl
def Fy{x b:Addr}(h:b≠x):del H x b=H b:=if_neg h
abbrev qP(n:Nat)(fs:List (Str×(MF1)))(as:LD):Option (LSt×LD):=ud fs (.no::(as.map .im++gW (n-1-as.length) .no)) [] []
abbrev spI(G:Gc)(cn:Str)(n:Nat)(m:LD->Option (LSt×LD)):Sp:=λvs H Q _=>∃x dx Hf as a r,vs=.ref x::a/\H x=aa (.ins (G.cl cn) dx [])/\Hf x=ab/\aq Hf H/\am G Hf as a/\as.length+1=n/\m as=aa r /\
 ∀us Hf' H',Ext Hf (del H x) Hf' H'->Hf' x=ab->H' x=aa (.ins (G.cl cn) dx (r.1.zip us))->r.1.length=us.length->am G Hf' r.2 us->Q .non H'
def uf{x qual cn:Str}{k:Nat}(G:Fun K x qual st f fd)(S:aB N ps (au st))
 (h:∀(cdv:Value) (A:b6) (outer:List Env) (s:ah) (H:Hp) (V4:XK),bu k @10->DSI c (iw CX0 P w K mg base N qual (au st) f cdv A outer s H V4).nox cn (fN st) fs)
 (hz:fs.length<=900:=by decide)(y:N.length=n_:=by rfl):cr P w K mg base CX0 (k+1) f fd ps (spI ⟨K,c⟩ cn ps.length (qP n_ fs)):=by
 subst y;refine G.ok S (λvs H Q V4 q=>by obtain⟨x,dx,Hf,as,z,r,n,_,_,_,g,E,_⟩:=q;subst n;rw[cy,<- g.length];exact E) λcdv A outer s H vs Q V4 hr q=>⟨_,h cdv A outer s H V4 hr,?_⟩;obtain⟨x,dx,Hf,as,z,r,n,U,M,s0,g,E,e,Y⟩:=q;subst n;have la:=g.length
 have im:∀i s,(Sl.no::(as.map Sl.im++gW (N.length-1-as.length) .no))[i]?=aa s->s=.no\/∃d j,i=j+1/\as[j]?=aa d/\s=.im d:=λi s b=>by
  cases i with
  |zero=>left;simpa using b.symm
  |succ i=>
   rw[gU]at b
   by_cases hi:i<as.length
   .rw[lV (by simpa using hi)]at b;obtain⟨d,m,es⟩:=oN b;exact .inr ⟨d,i,rfl,m,es⟩
   .rw[nN (by simpa using nV hi)]at b;obtain⟨_,e⟩:=cU.mp b;rw[List.getElem_replicate]at e;exact .inl e.symm
 have no:∀s∈_,Sl.calm s=ac:=λs T=>by
  obtain⟨i,hi⟩:=nP T
  rcases im i s hi with e |⟨d,_,_,_,e⟩ <;> (subst e;rfl)
 refine⟨x,dx,Hf,del H x,Hf,_,[],[],[],r,rfl,no,⟨⟨aq.refl _,λb o e=>?_,s0,λ_ _ _ _=>rfl⟩,?_,λi v s a b=>?_,λi j s t v w l a b _ _ p _=>((p.calm (no s (dP a))).elim)⟩,Fx,M,U,rfl,by simpa using hz,rfl,e,λus Hf' H' xx I h2 J L=>Y us Hf' H' xx I h2 J L⟩
 .by_cases C:b=x
  .subst C;rw[Fx]at e;nomatch e
  .rw[Fy C]at e;exact e
 .unfold L2.start;simp only[aR,ay,cy,lW]
  lia
 .rcases im i s b with e |⟨d,j,ei,m,es⟩
  .subst e;trivial
  .subst es ei;obtain⟨u,B,ru⟩:=g.get m;refine⟨u,?_,ru⟩;unfold L2.start at a;rw[bF,kM,gU,lV (by simpa using ((cU.mp B).1)),cM,B]at a;exact(dk a).symm
abbrev iC(cn:Str)(m:LD->Option (LSt×LD))(fa:MF2)(M:LS):OD:=(fa M).bind λas=>(m as).map λr=>.ins cn r.1 r.2
def oR{k:Nat}{m:LD->Option (LSt×LD)}(cn:Str)(U:Mk X.K (c cn) f)(F:cr X.prog X.w X.K X.mg X.base CX0 k f fd ps (spI (Gx c X) cn ps.length m))(hr:bu (k+1) X.A)(hg:Gl X x)(hm:X.mg x=aa (.ref (c cn)))(Y:dS X.K fd ps [])(ha:DA c X (e::es) fa)
 (hl:(e::es).length+1=ps.length:=by rfl)(G:NDb x:=by decide)(he:StE X e es:=by rfl)(I:BkE X pos es:=by rfl):
  DE c X @8 (iC cn m fa):=PE.imp (Ei U F hr hg hm Y .nil gB ha.pa G he I) λE H Q q_=>by
 obtain⟨Hf0,H0,Hf,M,d,st,a,kq⟩:=q_;unfold iC at a
 cases j:fa M with
 |none=>rw[j]at a;nomatch a
 |some as=>
  rw[j]at a;replace a:(m as).map _=_:=a
  cases C:m as with
  |none=>rw[C]at a;nomatch a
  |some r=>
   rw[C]at a;cases a;refine⟨Hf0,H0,Hf,M,as,st,j,λvs Hf' H' B rv y dx v L N=>?_⟩;rw[bP];have hy:(upd H' dx (.own y)) y=ab:=by rw[aK N.symm];exact v
   have s1:aq H' (upd H' dx (.own y)):=bN L;have s2:=s1.trans (bN (o:=.ins (c cn) dx []) hy)
   have T:aq H' (del _ y):=λb u q=>by
    have:=fq q v;rw[Fy this];exact s2 b u q
   refine⟨y,dx,Hf',as,vs,r,rfl,aZ,B.s.free v,B.s.trans s2,rv,by rw[ha.len M as j];exact hl,C,λus bm H2 z g J i r2=>⟨rfl,?_⟩⟩;have x3:Ext Hf' H' bm H2:=⟨z.f,T.trans z.h,z.s,λl u q t=>z.n l u (T l u q) t⟩;exact kq _ _ H2 ((B.trans x3).fix (B.h.free v) g J) ⟨y,dx,us,rfl,aZ,i,r2.up (bN g)⟩
variable{r:Option Fl}
def ug{F F':MF3}(h:F M=aa (.nx ρ'))(h':F' ρ'=r):ai F F' M=r:=by
 unfold ai;rw[h];exact h'
def NT{F F':MF3}(h:F M=aa (.rt d)):ai F F' M=aa (.rt d):=by
 unfold ai;rw[h];rfl
def NU{F F':MF3}(h:t M=aa ac)(h':F M=r):bg t F F' M=r:=by
 unfold bg;rw[h];exact h'
def NV{F F':MF3}(h:t M=aa af)(h':F' M=r):bg t F F' M=r:=by
 unfold bg;rw[h];exact h'
def Fz{f:MF1}(h:f M=aa d):aX i f M=aa (.nx (M.set i (.im d))):=by
 unfold aX;rw[h];rfl
def NW{f:MF2}{d:LD}(h:f M=aa d):cJ i f M=aa (.nx (M.set i (.own d))):=by
 unfold cJ;rw[h];rfl
def dz{f:MF1}(h:f M=aa d):be f M=aa (.rt d):=by
 unfold be;rw[h];rfl
def dA{F:MF3}(h:F (fP n ds)=aa (.rt d)):aP n F ds=aa d:=by
 unfold aP;rw[h];rfl
def lx{F:MF3}{d:LD}(h:F (fP n ds)=aa (.rtO d)):aP n F ds=aa (.lst d):=by
 unfold aP;rw[h];rfl
def aD{m:LD->OD}{f:MF2}(h:f M=aa ds)(h':m ds=aa d):av m f M=aa d:=by
 unfold av;rw[h];exact h'
def uh{a:Type}{h:D->Option OD}(f:a->D)(p:a->Bool)(q:a->D):∀(C:List a),(∀x∈C,h (f x)=aa (if p x then aa (q x) else ab))->eP h (C.map f)=aa ((C.filter p).map q)
 | [],_=>rfl
 |x::C,hh=>by
  rw[bF];unfold eP;rw[hh x aF,uh f p q C λy b=>hh y (bq _ b)]
  grind
def NX{a:Type}{h:D->Option OD}(f:a->D)(q:a->D)(C:List a)(b:∀x∈C,h (f x)=aa (aa (q x))):eP h (C.map f)=aa (C.map q):=by
 have:=uh f (λ_=>ac) q C λx c=>(b x c).trans rfl;rw[this,filter_eq_self.mpr λ_ _=>rfl]
def eR{a:Type}{k:Nat}(C:List a)(f:a->D)(p:a->Bool)(q:a->D)
 (hi:fi M=aa (C.map f))(hz:C.length<=16777216)(b:∀x∈C,gG g ft fe (iA k js M) (f x)=aa (if p x then aa (q x) else ab)):bp k js fi g ft fe M=aa ((C.filter p).map q):=by
 unfold bp;rw[hi];show(if (C.map f).length<=16777216 then _ else ab)=_;rw[ay,if_pos hz];exact uh f p q C b
def gH{a:Type}{k:Nat}(C:List a)(f:a->D)(q:a->D)
 (hi:fi M=aa (C.map f))(hz:C.length<=16777216)(b:∀x∈C,gG g ft fe (iA k js M) (f x)=aa (aa (q x))):bp k js fi g ft fe M=aa (C.map q):=by
 unfold bp;rw[hi];show(if (C.map f).length<=16777216 then _ else ab)=_;rw[ay,if_pos hz];exact NX f q C b
def FA{d:Type}{g:D->LS->Option LS}{F:MF3}(f:d->D)(I:List d->LS->Prop):∀(post pre:List d) (M:LS),I pre M ->
  (∀a x c M,pre++post=a++x::c->I a M->∃ρ1 b,g (f x) M=aa ρ1/\(F ρ1=aa (.nx b)\/F ρ1=aa (.ct b))/\I (a++[x]) b)->∃ρ',iB g F (post.map f) M=aa (.nx ρ')/\I (pre++post) ρ'
 | [],pre,M,h,_=>⟨M,rfl,by rw[bP];exact h⟩
 |x::post,pre,M,h,hs=>by
  obtain⟨ρ1,b,i,j,h2⟩:=hs pre x post M rfl h;obtain⟨ρ',l,e⟩:=FA f I post _ b h2 (by rw[cG];exact hs);refine⟨ρ',?_,by rw[cG]at e;exact e⟩;rw[bF];unfold iB
  grind
def NY{b:Type}{F:MF3}(C:List b)(f:b->D)(I:List b->LS->Prop)(hi:fi M=aa (C.map f))(c:I [] M)
 (d:∀pre x post M,C=pre++x::post->I pre M->∃ρ1 a,g (f x) M=aa ρ1/\(F ρ1=aa (.nx a)\/F ρ1=aa (.ct a))/\I (pre++[x]) a):∃ρ',bZ fi g F M=aa (.nx ρ')/\I C ρ':=by
 unfold bZ;rw[hi];exact FA f I C [] M c d
def NZ(lo:Int)(n:Nat):rng lo n=(bM n).map λ(i:Nat)=>D.int (lo+i):=rfl
def N0{ns:LI0}:i9 [.lst (ns.map D.int)]=aa (.int ns.sum):=by
 show(gE _).map _=_;rw[Nq];rfl
variable{i:Int}
def kj{b:Type}{f:b->D}{C:List b}(c:0<=i)(d:i<C.length):∃x,C[i.toNat]?=aa x/\atI (C.map f) i=aa (f x):=by
 have a:i.toNat<C.length:=by lia
 refine⟨C[i.toNat],by simp[a],?_⟩;have:=LO (C:=C.map f) (j:=i.toNat) (v:=f C[i.toNat]) (by simp[a]);rw[show i.toNat=i by lia]at this;exact this
def ly{a:Type}{f:a->D}{C:List a}(d:a)(e:0<=i)(g:i<C.length):atI (C.map f) i=aa (f (C.getD i.toNat d)):=by
 obtain⟨x,b,c⟩:=kj e g;rw[c,bV,b];rfl
abbrev fQ:Nat->D->Prop
 | 0,_=>False
 |n+1,d=>match d with
  |.lst C=>∀x∈C,fQ n x
  |.tup C=>∀x∈C,fQ n x
  |d=>d.scalar=ac
def yj{f:D->D->Option Bool}:∀(C:LD),(∀x∈C,f x x=aa ac)->cW f C C=aa ac
 | [],_=>rfl
 |x::C,h=>by
  unfold cW;rw[h x aF,yj C λy a=>h y (bq _ a)];rfl
def ym:∀(n:Nat) (d:D),fQ n d->deq n d d=aa ac
 | 0,_,h=>h.elim
 |n+1,d,h=>by
  cases d with
  |lst C=>
   show(if C.length=C.length then cW _ C C else aa af)=_;rw[if_pos rfl]
   exact yj C λx a=>ym n x (h x a)
  |tup C=>
   show(if C.length=C.length then cW _ C C else ab)=_;rw[if_pos rfl]
   exact yj C λx a=>ym n x (h x a)
  |non=>rfl
  |bl b=>show aa (b==b)=_;rw[beq_self_eq_true]
  |int b=>show aa (b==b)=_;rw[beq_self_eq_true]
  |str b=>show aa (b==b)=_;rw[beq_self_eq_true]
  | _=>cases h
def fQ.mono:∀(n:Nat) (d:D),fQ n d->fQ (n+1) d
 | 0,_,h=>h.elim
 |n+1,d,h=>by
  cases d with
  |lst C=>exact λx a=>fQ.mono n x (h x a)
  |tup C=>exact λx a=>fQ.mono n x (h x a)
  | _=>exact h
def fQ.le{m:Nat}(h:fQ n d)(hm:n<=m):fQ m d:=by
 induction hm with
 |refl=>exact h
 |step _ a=>exact fQ.mono _ _ a
def N1(h:fQ 20 d):dEq d d=aa (.bl ac):=by
 unfold dEq;rw[ym 20 d h];rfl
def km(i j:Int):dEq (.int i) (.int j)=aa (.bl (i==j)):=rfl
def qQ(i j:Str):dEq (.str i) (.str j)=aa (.bl (i==j)):=rfl
variable{f:MF1}
def ap{m:D->D->OD}{g:MF1}{x:D}(a:f M=aa x)(h2:g M=aa y)(b:m x y=aa d):m2 m f g M=aa d:=by
 unfold m2;rw[a,h2];exact b
variable{b:Bool}
def bA(h:f M=aa (.bl b)):mB f M=aa b:=by
 unfold mB;rw[h];rfl
def df(h:f M=aa d)(h':mK d=aa b):bI f M=aa b:=by
 unfold bI;rw[h];exact h'
variable{f:MF4}
def oS(h:f M=aa b):gD f M=aa (!b):=by
 unfold gD;rw[h];rfl
variable{g:MF4}
def N2{r:Option Bool}(h:f M=aa ac)(h':g M=r):dB f g M=r:=by
 unfold dB;rw[h];exact h'
def N3(h:f M=aa af):dB f g M=aa af:=by
 unfold dB;rw[h];rfl
def N4(h:f M=aa ac):mOr f g M=aa ac:=by
 unfold mOr;rw[h];rfl
def N5{r:Option Bool}(h:f M=aa af)(h':g M=r):mOr f g M=r:=by
 unfold mOr;rw[h];exact h'
variable{a:Bool}
def jI(h:f M=aa a)(h':g M=aa b):dB f g M=aa (a && b):=by
 cases a with
 |true=>exact N2 h h'
 |false=>exact N3 h
def mR(h:f M=aa a)(h':g M=aa b):mOr f g M=aa (a || b):=by
 cases a with
 |true=>exact N4 h
 |false=>exact N5 h h'
variable{f:MF1}
def jJ{g:MF1}(h:f M=aa (.bl a))(h':g M=aa (.bl b)):i8 f g M=aa (.bl (a && b)):=by
 unfold i8;rw[bA h]
 grind
def FB{g:MF1}(h:f M=aa (.bl a))(h':g M=aa (.bl b)):vOr f g M=aa (.bl (a || b)):=by
 unfold vOr;rw[bA h]
 grind
def ao{g:MF2}(h:f M=aa d)(h':g M=aa ds):ag f g M=aa (d::ds):=by
 unfold ag;rw[h,h'];rfl
variable{f:MF2}
def cS(h:f M=aa ds):bj f M=aa (.tup ds):=by
 unfold bj;rw[h];rfl
def bQ(h:f M=aa ds):aO f M=aa (.lst ds):=by
 unfold aO;rw[h];rfl
def bf{g:MF1}{r:OD}(h:f M=aa ds)(h':g M=aa (.int i))(h2:atI ds i=r):mIx f g M=r:=by
 unfold mIx;rw[h,h'];exact h2
def ui{V5:Int->Int->Prop}[∀i j,Decidable (V5 i j)]{g:Int->Int->D}{j:Int}(h:V5 i j):dI V5 g (.int i) (.int j)=aa (g i j):=by
 show(if V5 i j then aa _ else ab)=_;rw[if_pos h]
variable{f:MF1}
def N6{i:Nat}(h:f M=aa d)(h':M[i]?=aa (.own C))(a:C.length<16777216):c8 i f M=aa (.nx (M.set i (.own (C++[d])))):=by
 unfold c8;rw[h,h'];show(if C.length<16777216 then _ else ab)=_;rw[if_pos a]
variable{ρ1:LS}
def dJ{g:D->LS->Option LS}(a:g d M=aa ρ1)(h2:ft ρ1=aa b)(c:b=ac->fe ρ1=aa y):gG g ft fe M d=aa (if b then aa y else ab):=by
 unfold gG
 grind
def gf{g:D->LS->Option LS}(a:g d M=aa ρ1)(h2:ft ρ1=aa ac)(b:fe ρ1=aa y):gG g ft fe M d=aa (aa y):=dJ a h2 λ_=>b
def eS(h:f M=aa d)(h':iy d=aa ds):aV f M=aa ds:=by
 unfold aV;rw[h];exact h'
variable{g:MF1}
def dL(h:f M=aa d):bd f g M=aa d:=by
 unfold bd;rw[h];rfl
def bB{r:OD}(h:f M=ab)(h':g M=r):bd f g M=r:=by
 unfold bd;rw[h];exact h'
def qR{f:MF2}{n:Int}(h:f M=aa [.int n])(b:0<=n)(a:n<2 ^ 62):iz f M=aa ((bM n.toNat).map λ(i:Nat)=>D.int i):=by
 unfold iz;rw[h];show(if -_<=n/\n<2 ^ 62 then aa _ else ab)=_;rw[if_pos ⟨by lia,a⟩,NZ]
 grind
variable{m:LD->OD}{ns:LSt}
def cw{cn f:Str}{as:LD}(h:fo M=aa (.ins cn ns ds))(hn:ns.contains f=af)(h':fa M=aa as):aL cn f m fo fa M=m (.ins cn ns ds::as):=by
 unfold aL
 grind
def bC{cn f a:Str}(h:fo M=aa (.ins a ns ds))(hn:a≠cn):aL cn f m fo fa M=ab:=by
 unfold aL
 grind
abbrev itD(z:Int×Int):D:=.tup [.int z.1,.int z.2]
abbrev shD:Option Bool->D
 |none=>.non
 |some b=>.bl b
abbrev InN(n:Nat)(B:LII):Prop:=∀z∈B,0<=z.1/\z.1<(n:Int)/\0<=z.2
def N7(bs:LI0):fQ 2 (.lst (bs.map D.int)):=λx a=>by
 obtain⟨b,_,rfl⟩:=aJ.mp a;exact rfl
def jc{es:LOB}(a:0<=i)(b:i<es.length):atI (es.map shD) i=aa (shD (es.getD i.toNat ab)):=ly ab a b
def jK{es:LB0}(a:0<=i)(b:i<es.length):atI (es.map D.bl) i=aa (.bl (es.getD i.toNat af)):=ly af a b
def oT(e:Option Bool)(b:Bool):dIs (shD e) (.bl b)=aa (.bl (e==aa b)):=by
 cases e with
 |none=>rfl
 |some c=>cases b <;> cases c <;> rfl
def FC(e:Option Bool)(b:Bool):gb (shD e) (.bl b)=aa (.bl (!(e==aa b))):=by
 cases e with
 |none=>rfl
 |some c=>cases b <;> cases c <;> rfl
abbrev Prt.toD:Prt->D
 |.inn t=>.tup [.str "in",.int t]
 |.out t=>.tup [.str "out",.int t]
 |.least k B=>.tup [.str "least",.int k,.lst (B.map itD)]
 |.most k B=>.tup [.str "most",.int k,.lst (B.map itD)]
abbrev Prt.obj:Prt->D
 |.inn t=>.ins "In" ["thing"] [.int t]
 |.out t=>.ins "Out" ["thing"] [.int t]
 |.least k B=>.ins "Least" ["bound","pieces"] [.int k,.lst (B.map itD)]
 |.most k B=>.ins "Most" ["bound","pieces"] [.int k,.lst (B.map itD)]
abbrev Prt.Ok(n:Nat):Prt->Prop
 |.inn t=>0<=t/\t<(n:Int)
 |.out t=>0<=t/\t<(n:Int)
 |.least _ B=>InN n B/\B.length<=100000
 |.most _ B=>InN n B/\B.length<=100000
def N8(p:Int->Bool)(B:LII):((B.filter λz=>p z.1).map λz=>D.int z.2)=((B.filter λz=>p z.1).map (·.2)).map D.int:=by
 rw[map_map];rfl
def yn(p:Int->Bool)(B:LII):i9 [.lst ((B.filter λz=>p z.1).map λz=>D.int z.2)]=aa (.int (bY p B)):=by
 rw[N8,N0];rfl
def FD:∀{bs:LB0} {us:LVa},aG (bs.map V.bl) us->us=bs.map k6
 | [],_,.nil=>rfl
 |b::bs,_,.cons r t=>by
  rw[FD t];cases (r);rfl
def N9(bs:LB0):((bM bs.length).any λi=>(bs[i]?).getD af)=bs.any id:=by
 rw[jT,any_eq_true,any_eq_true];constructor
 .rintro⟨i,hi,e⟩;have a:=fY.mp hi;simp only[cF a]at e;exact⟨_,iO a,e⟩
 .rintro⟨b,c,e⟩;obtain⟨i,hi,rfl⟩:=List.getElem_of_mem c;exact⟨i,fY.mpr hi,by simp only[cF hi];exact e⟩
def Oa{h:Heap}{o:Obj}(a:∀b x,b∉[h.objs.size]->(h.push o).get? b=aa x->h'.get? b=aa x):∀b x,h.get? b=aa x->h'.get? b=aa x:=
 λb x e=>a b x (λhm=>by rw[bE.mp hm]at e;exact jz _ (bx e)) (bw _ e)
def Ob(j:X.calm=ac):iu X (.builtin "any") (λC H Q=>∃(p:Addr) (bs:LB0),C=[.ref p]/\SqL X.K H p (bs.map V.bl)/\Q (.bl (bs.any id)) H):=by
 intro U s E H C us Q I r h;obtain⟨l,bs,rfl,n,q⟩:=h;obtain⟨u,rfl,x⟩:=mE r;subst x;obtain⟨B,w,pl,hz⟩:=I.list n;have e:=FD w;subst e;have c:=pl.isList;have d:l<s.heap.objs.size:=by obtain⟨_,e,_⟩:=c;exact bx e
 refine call_any_walk (wpAny_pyIter_list c ?_)
 refine⟨s.heap.objs.size,_,_,(bs.map k6).toArray.size,_,_,λi=>(bs[i]?).getD af,rfl,Walks.list (A:=X.A.in1) (I.ok.hd j) _ l (bW d) (bs.map k6).toArray,
  ⟨⟨_,cP _ rfl,rfl,rfl⟩,c.push _⟩,λi v G z y g f=>?_,λh' J m=>?_⟩
 .have a:(bs.map k6)[i]?=aa v:=by simpa using g
  obtain⟨b,e,rfl⟩:=oN a;simp only[e]at f;exact n6 f
 .have e:((bM (bs.map k6).toArray.size).any λi=>(bs[i]?).getD af)=bs.any id:=by
   rw[size_toArray,ay];exact N9 bs
  rw[e];exact⟨.bl _,H,I.kept (Oa m),rfl,q⟩
abbrev jd:LD->Option (LB0)
 | []=>aa []
 |.bl b::ds=>(jd ds).map λr=>b::r
 | _=>ab
def FE:∀{ds:LD} {bs:LB0},jd ds=aa bs->ds=bs.map D.bl
 | [],_,e=>by cases e;rfl
 |.bl b::ds,_,e=>by
  dsimp only[jd]at e
  cases es:jd ds with
  |none=>rw[es]at e;cases e
  |some r=>rw[es]at e;cases e;rw[FE es];rfl
 |.int _::_,_,e=>by cases e
 |.non::_,_,e=>by cases e
 |.str _::_,_,e=>by cases e
 |.lst _::_,_,e=>by cases e
 |.tup _::_,_,e=>by cases e
 |.kl _::_,_,e=>by cases e
 |.kt _::_,_,e=>by cases e
 |.dic _ _::_,_,e=>by cases e
 |.ins _ _ _::_,_,e=>by cases e
def Oc(bs:LB0):jd (bs.map D.bl)=aa bs:=by
 induction bs with
 |nil=>rfl
 |cons n ns a=>rw[bF,jd,a];rfl
def am.bls{G:Gc}{H:Hp}:∀{bs:LB0} {vs:LVv},am G H (bs.map D.bl) vs->vs=bs.map V.bl
 | [],_,h=>h
 |b::bs,_,q2_=>by
  obtain⟨v,r,e,a,h2⟩:=q2_;subst e;rw[am.bls h2,show v=V.bl b from a];rfl
abbrev oU:LD->OD
 | [d]=>(lsD d).bind λds=>(jd ds).map λbs=>.bl (bs.any id)
 | _=>ab
def FF{f:LB0->D}(e:(match ds with | [d]=>(lsD d).bind λds=>(jd ds).map f | _=>ab)=aa d):∃a C bs,ds=[a]/\lsD a=aa C/\C=bs.map D.bl/\d=f bs:=by
 split at e
 .rename_i a
  cases b:lsD a with
  |none=>rw[b]at e;nomatch e
  |some C=>
   rw[b]at e;replace e:(jd C).map f=aa d:=e
   cases c:jd C with
   |none=>rw[c]at e;nomatch e
   |some bs=>rw[c]at e;cases e;exact⟨a,C,bs,rfl,b,FE c,rfl⟩
 .nomatch e
def Od(i:X.calm=ac):t4 c X (.builtin "any") oU:=by
 rintro U s E H vs us Q I rv ⟨Hf,ds,d,b,r,e,k⟩;obtain⟨l,C,bs,rfl,f,rfl,rfl⟩:=FF e;obtain⟨v,h,j⟩:=r.one;subst h;obtain⟨a,ws,g,q,L⟩:=lu f j;subst g;refine Ob i U s E H _ us Q I rv ⟨a,bs,rfl,?_,k _ Hf H (Ext.refl b) rfl⟩;rw[<- L.bls];exact b.seq q
def Oe:∀ds d,oU ds=aa d->d.scalar=ac:=λds d e=>by
 obtain⟨a,C,bs,rfl,b,rfl,rfl⟩:=FF e;rfl
def Of(bs:LB0):oU [.lst (bs.map D.bl)]=aa (.bl (bs.any id)):=by
 show(jd _).map _=_;rw[Oc];rfl
inductive Wrd where
 |make |may |never
 deriving DecidableEq
abbrev Wrd.s:Wrd->Str
 |.make=>"make"
 |.may=>"may"
 |.never=>"never"
structure Rul where
 w:Wrd
 hd:Int
 ps:List Prt
nonrec abbrev LRu:=List Rul
abbrev Rul.hdD(r:Rul):D:=match r.w with
 |.never=>.non
 | _=>.int r.hd
abbrev Rul.toD(r:Rul):D:=.tup [.str r.w.s,r.hdD,.lst (r.ps.map Prt.toD)]
structure Rul.Ok(n:Nat)(r:Rul):Prop where
 hd:r.w≠.never->0<=r.hd/\r.hd<(n:Int)
 ps:∀p∈r.ps,p.Ok n
 len:r.ps.length<=100000
abbrev Rul.bodyLost(r:Rul)(es:LOB)(ws:LB0):Bool:=r.ps.any λp=>p.lost es ws
def lz{p q:Int->Bool}:∀{B:LII},(∀z∈B,0<=z.2/\(p z.1=ac->q z.1=ac))->bY p B<=bY q B
 | [],_=>Int.le_refl _
 |z::B,h=>by
  have b:=lz λy a=>h y (bq _ a);obtain⟨c,d⟩:=h z aF;unfold bY at b ⊢
  grind
def FG{p q:Int->Bool}{B:LII}(h:∀z∈B,p z.1=q z.1):bY p B=bY q B:=by
 unfold bY
 rw[filter_congr h]
structure cK(es es':LOB):Prop where
 len:es'.length=es.length
 at':∀i,es.getD i ab=ab\/es'.getD i ab=es.getD i ab
structure mS(ws ws':LB0):Prop where
 len:ws'.length=ws.length
 at':∀i,ws.getD i af=ac->ws'.getD i af=ac
def cK.refl(es:LOB):cK es es:=⟨rfl,λ_=>.inr rfl⟩
def mS.refl(ws:LB0):mS ws ws:=⟨rfl,λ_ h=>h⟩
variable{es':LOB}
def Og{es:LOB}{p:Prt}(f:cK es es')(h:p.Ok es.length)(s:p.sure es=ac):p.sure es'=ac:=by
 have key:∀{i:Nat} {b:Bool},(es.getD i ab==aa b)=ac->(es'.getD i ab==aa b)=ac:=λ{i b} e=>by
  rcases f.at' i with z |z
  .grind
  .grind
 have a:∀{i:Nat},(!(es'.getD i ab==aa af))=ac->(!(es.getD i ab==aa af))=ac:=λ{i} e=>by
  grind
 cases p with
 |inn t=>exact key s
 |out t=>exact key s
 |least k B=>
  have s:=of_decide_eq_true s;refine decide_eq_true (Int.le_trans s ?_);rw[ls,ls]
  exact lz λz hz=>⟨(h.1 z hz).2.2,λe=>key e⟩
 |most k B=>
  have s:=of_decide_eq_true s;refine decide_eq_true (Int.le_trans ?_ s);rw[ls,ls];exact lz λz hz=>⟨(h.1 z hz).2.2,λe=>a e⟩
variable{ws:LB0}
def uj{es:LOB}{ws':LB0}{p:Prt}(f:cK es es')(g:mS ws ws')(h:p.Ok es.length)(s:p.lost es ws=ac):p.lost es' ws'=ac:=by
 have key:∀{i:Nat} {b:Bool},(es.getD i ab==aa b)=ac->(es'.getD i ab==aa b)=ac:=λ{i b} e=>by
  rcases f.at' i with z |z
  .grind
  .grind
 cases p with
 |inn t=>
  have s:(_ || ws.getD t.toNat af)=ac:=s;show(_ || ws'.getD t.toNat af)=ac;rw[kH]at s ⊢
  exact s.imp key (g.at' _)
 |out t=>exact key s
 |least k B=>
  have s:=of_decide_eq_true s;refine decide_eq_true (Int.lt_of_le_of_lt (lz λz hz=>⟨(h.1 z hz).2.2,λe=>?_⟩) s);rw[cL]at e ⊢;refine⟨?_,?_⟩
  .grind
  .cases q:ws.getD z.1.toNat af with
   |false=>rfl
   |true=>rw[g.at' _ q]at e;exact e.2
 |most k B=>
  have s:=of_decide_eq_true s;refine decide_eq_true (Int.lt_of_lt_of_le s ?_);rw[ls,ls];exact lz λz hz=>⟨(h.1 z hz).2.2,λe=>key e⟩
def qS{a:Type}{p q:a->Bool}{C:List a}(h:∀x∈C,p x=ac->q x=ac)(s:C.any p=ac):C.any q=ac:=by grind
abbrev Ite(K:aQ)(l:Addr):It:=
  ⟨λi H=> ∃C x, SqL K H l C/\C[i]? = aa x,
   λi H v H'=> ∃p x, v = .ref p/\H p = ab/\H' = upd H p (.tup [.int i, x])/\(∀C, SqL K H l C->C[i]? = aa x),
   λi H=> ∃C, SqL K H l C/\C.length<=i⟩
variable{elts:LEx}{kx:Nat}
def Oh(e it l:Addr)(ne:e≠it):
  j9 P w K (.Tuple elts kx pos) (Ite K l) [e,it] e (λi h=>(∃old,IsEnum h e it (i:Int) old)/\h.IsListIter it l i) where
 mem:=by simp
 obj:=λi h st b hb=>by
  obtain⟨⟨old,he⟩,⟨o1,e1,_,d1⟩⟩:=st
  grind
 keep:=λi h h' st k=>by
  obtain⟨⟨old,he⟩,h1⟩:=st;exact⟨⟨old,k e (by simp) _ he⟩,h1.at λo q=>k it (by simp) o q⟩
 item:=by
  intro X hP hw hK hc i U s E H V4 I hf st hg;subst hP hw hK;obtain⟨⟨old,he⟩,h1⟩:=st;obtain⟨C,x,q1,hx⟩:=hg;obtain⟨its1,r1,p1,z1⟩:=I.list q1;obtain⟨u1,e1,ru1⟩:=r1.get hx;refine wpAny_pyNext_enum_item he h1 p1.isList (by simpa using e1) ne λh' a1 a3 a5 a6 a7=>⟨_,rfl,?_⟩;refine wpAny_letOwnedTupleGo_enum a1 λh'' b1 b2=>?_
  have lt:∀b∈[e,it],b<s.heap.objs.size:=λb hb=>by
   simp only[bh,dQ,or_false]at hb
   rcases hb with rfl |rfl
   .exact bx he
   .obtain⟨o,e,_⟩:=h1;exact bx e
  have kk:∀b o,b∉[e,it]->s.heap.get? b=aa o->h''.get? b=aa o:=λb o hb e=>by
   simp only[bh,dQ,or_false,not_or]at hb;obtain⟨n1,n2⟩:=hb;exact(b2.2 b n1).trans (a7 b o n1 n2 e)
  have fr:=I.hok.fresh (aM _)
  have I2:Inv X U E (upd H s.heap.objs.size (.tup [.int i,x])) {s with heap:=h'',toks:=s.toks+1}:=
   (I.turnedMany kk hf).track (I.fpOk (aM _) fr) ⟨(by show 2<=aS;decide),_,.cons ⟨s.toks,rfl⟩ (.cons ru1 .nil),⟨_,((b2.2 _ (kO (lt e (by simp)))).trans a5),rfl,_,rfl⟩⟩
  refine⟨.ref s.heap.objs.size,_,I2,rfl,⟨_,x,rfl,fr,rfl,λxs' h=>by rw[I.list_inj h q1];exact hx⟩,⟨⟨u1,?_⟩,(a3.at λo q=>(b2.2 it (eG ne)).trans q)⟩,λb hb=>?_⟩
  .grind
  .rw[aK (bW (lt b hb))];exact(hf b hb).1
 done:=by
  intro X hP hw hK hc i U s E H V4 I hf st hg;subst hP hw hK;obtain⟨⟨old,he⟩,h1⟩:=st;obtain⟨C,q1,hend⟩:=hg;obtain⟨its1,r1,p1,z1⟩:=I.list q1;have l1':=r1.length;refine wpAny_pyNext_enum_end (I.ok.hd hc) he h1 p1.isList (by grind) λh' kk=>⟨rfl,I.turnedMany (λb o hb q=>?_) hf⟩;simp only[bh,dQ,or_false,not_or]at hb;exact kk b o hb.2 q
 self:=λ_ _ _ _ _ st h=>by obtain⟨⟨old,he⟩,_⟩:=st;exact wpAny_pyIter_enum he h
abbrev Oi(K:aQ)(a:TA):TI:=λE H R=>a E H λvs H1=>∃l,vs=[.ref l]/\(∃C,SqL K H1 l C)/\R (Ite K l) H1
variable{gw:Pos}{a:Expr}{ta:TA}
def FH(v:Gl X "enumerate")(hm:X.mg "enumerate"=ab)(ha:PA X [a] ta)(w:aN [a] X.env=[(af,eval a X.env)]:=by rfl):
  PI X (.Tuple elts kx gw) (.Call (.Name "enumerate" p) [a] [] pos) (Oi X.K ta):=by
 intro U s E H R I h;refine Call_ (g8 I v hm boot_enumerate (jX (thn (ha pos U s E H _ I h) λus s1 ⟨vs,H1,d,i,y⟩=>?_) (by rw[w];rfl) (by rfl)));obtain⟨l,e,⟨C,n⟩,q⟩:=y;subst e;obtain⟨u,rfl,ru⟩:=mE i;subst ru;obtain⟨g,i,x,A⟩:=d.list n;refine call_enumerate_list x.isList λh' f j z m=>?_;refine wpAny_pyIter_enum f ?_;refine⟨_,_,_,_,H1,rfl,(d.kept m),Oh _ _ _ (Nat.succ_ne_self _),⟨⟨_,f⟩,j⟩,λb r=>?_,q⟩;simp only[bh,dQ,or_false]at r
 have c:s1.heap.objs.size<=b:=by
  grind
 exact d.fpOk c (d.hok.fresh c)
abbrev iD:Nat->LD->LD
 | _,[]=>[]
 |i,x::C=>.tup [.int i,x]::iD (i+1) C
def yo:∀(i:Nat) (C:LD),(iD i C).length=C.length
 | _,[]=>rfl
 |i,x::C=>by simp only[iD,cy,cy,yo]
def yp:∀(k:Nat) (C:LD) (i:Nat),(iD k C)[i]?=(C[i]?).map λx=>.tup [.int (k+i:Nat),x]
 | _,[],_=>rfl
 |k,x::C,0=>rfl
 |k,x::C,i+1=>by simp only[iD,gU,gU,yp _ C i,show k+1+i=k+(i+1) by lia]
abbrev yq:LD->OLD
 | [x]=>(lsD x).map (iD 0)
 | _=>ab
abbrev je(f:MF2)(M:LS):OLD:=(f M).bind yq
def Oj{f:MF2}(J:Gl X "enumerate")(hm:X.mg "enumerate"=ab)(ha:DA c X [a] f)(L:aN [a] X.env=[(af,eval a X.env)]:=by rfl):
  DI c X (.Tuple elts kx gw) (.Call (.Name "enumerate" p) [a] [] pos) (je f):=
 PI.imp (FH J hm ha.pa L) λE H R Q=>by
  obtain⟨Hf0,H0,Hf,M,ds,st,b,k⟩:=Q;unfold je at b
  cases j:f M with
  |none=>rw[j]at b;nomatch b
  |some as=>
   rw[j]at b;replace b:yq as=aa ds:=b;refine⟨Hf0,H0,Hf,M,as,st,j,λvs Hf' H' x r=>?_⟩;unfold yq at b;split at b
   .rename_i dx
    cases ex:lsD dx with
    |none=>rw[ex]at b;nomatch b
    |some C=>
     rw[ex]at b;cases b;obtain⟨v,G,rv⟩:=r.one;obtain⟨N,h,l,w,y⟩:=lu ex rv;subst l;refine⟨N,G,⟨h,x.s.seq w⟩,k _ Hf' H' x λbm H2 f2 s2 i=>?_⟩;have m:=(f2.trans s2).seq w;have h1:=y.length;refine⟨λd e=>?_,λB=>⟨h,m,by rw[yo]at B;lia⟩⟩;rw[yp]at e
     cases n:C[i]? with
     |none=>rw[n]at e;nomatch e
     |some x'=>
      rw[n]at e;cases e;obtain⟨T,g,ru1⟩:=y.get n;refine⟨⟨h,T,m,g⟩,λz Y ⟨pp,z1,I,u,A,U⟩=>?_⟩;subst I A;have q:=U h m;rw[g]at q;cases q;exact⟨upd bm pp _,Ext.new s2 u,pp,_,rfl,aZ,.cons (by rw[kP];rfl) (.cons (ru1.up (f2.trans (bN (s2.free u)))) .nil)⟩
   .nomatch b
abbrev jf:D->Option Key
 |.int i=>aa (.inl i)
 |.str x=>aa (.inr x)
 | _=>ab
def qT{k:Key}(e:jf d=aa k)(r:Rep G H d v):v=kV k:=by
 cases d <;> first |(cases e;done) |(cases e;exact r)
abbrev gJ(ks:List Key)(k:Key):Bool:=ks.any λj=>decide (j=k)
abbrev iE{a:Type}(ks:List Key)(C:List a)(k:Key)(x:a):List a:=if gJ ks k=ac then nR (λj y=>if j=k then x else y) ks C else C++[x]
abbrev hU(ks:List Key)(k:Key):List Key:=if gJ ks k=ac then ks else ks++[k]
def FI{ks:List Key}{k:Key}{v:V}:∀{ks:List Key} {vs:LVv},(ks.zip vs).map (λa=>if a.1=k then (a.1,v) else a)=ks.zip (nR (λj y=>if j=k then v else y) ks vs)
 | [],_=>rfl
 | _::_,[]=>rfl
 |j::ks,y::vs=>by
  rw[e7,bF,sN,e7,FI (ks:=ks)]
  grind
def yr{k:Key}:∀{ks:List Key} {vs:LVv},ks.length=vs.length->((ks.zip vs).any λa=>decide (a.1=k))=gJ ks k
 | [],[],_=>rfl
 | [],_::_,h=>by cases h
 | _::_,[],h=>by cases h
 |j::ks,y::vs,h=>by
  simp only[e7,gq,gq,yr (by simpa using h)];rfl
variable{ks:List Key}
def Ol{k:Key}(h:ks.length=vs.length):dH (ks.zip vs) k v=(hU ks k).zip (iE ks vs k v):=by
 unfold dH hU iE;rw[yr h]
 by_cases e:gJ ks k=ac
 .rw[if_pos e,if_pos e,if_pos e,FI (ks:=ks)]
 .rw[if_neg e,if_neg e,if_neg e,zip_append h];rfl
def b7{a:Type}{vs:List a}{k:Key}{v:a}(h:ks.length=vs.length):(hU ks k).length=(iE ks vs k v).length:=by
 unfold hU iE
 grind
def am.zipW{G:Gc}{H:Hp}{k:Key}{d:D}{v:V}(q:Rep G H d v):∀{ks:List Key} {ds:LD} {vs:LVv},am G H ds vs->am G H (nR (λj y=>if j=k then d else y) ks ds) (nR (λj y=>if j=k then v else y) ks vs)
 | [],_,_,_=>.nil
 | _::_,[],_,h=>by cases (h);exact .nil
 |j::ks,x::ds,_,q3_=>by
  obtain⟨u,r,e,a,h2⟩:=q3_;subst e;rw[sN,sN];refine .cons ?_ (am.zipW q h2)
  grind
def am.put{k:Key}(r:am G H ds vs)(q:Rep G H d v):am G H (iE ks ds k d) (iE ks vs k v):=by
 unfold iE
 by_cases e:gJ ks k=ac
 .rw[if_pos e,if_pos e];exact r.zipW q
 .rw[if_neg e,if_neg e];exact r.append (.cons q .nil)
abbrev oV(i:Nat)(M:LS):Option Fl:=aa (.nx (M.set i (.ownd [] [])))
abbrev jg(i:Nat)(a b:MF1)(M:LS):Option Fl:=(b M).bind λd=>(a M).bind λx=>(jf x).bind λk=>match M[i]? with
 |some (.ownd ks C)=>if ks.length<16777216 then aa (.nx (M.set i (.ownd (hU ks k) (iE ks C k d)))) else ab
 | _=>ab
abbrev qU(x y:D):OD:=(jf x).bind λk=>match y with
 |.dic ks _=>aa (.bl (gJ ks k))
 | _=>ab
variable{i:Nat}
def Om(e:PS X st (i4 EE (g9 i))):DS c X st (oV i):=PS.imp e λV4 E H g=>by
 obtain⟨Hf0,H0,Hf,M,o,b,d,k⟩:=g;cases d;intro q a;have x:Ext Hf H Hf (upd H q (.dK [])):=Ext.tmp b.sub a;exact k _ Hf _ x.f (b.setOwn rfl x a (b.sub.free a) ⟨[],aZ,rfl,.nil⟩)
variable{p':Pos}
def yt(i:Nat)(a:X.N.Nodup)(hi:X.N[i]?=aa x:=by rfl)(e:Loc X.env.scope x:=by first |exact bX rfl |exact bz rfl)(d:f7 (.Dict [] [] pos) (aa (.Name x b4)) p'.line X.env=pure af:=by rfl)(b:LcF X x:=by first |exact .inl rfl |exact .inr rfl):
  DS c X (.Assign [.Name x b4] (.Dict [] [] pos) p') (oV i):=Om (ou a hi e Mw d b)
variable{fk fv:MF1}
def On(w:PS X st (xG (cQ i) (tD (Gx c X) fk) (tD (Gx c X) fv))):DS c X st (jg i fk fv):=PS.imp w λV4 E H B=>by
 obtain⟨Hf0,H0,Hf,M,o,n,a,k⟩:=B;unfold jg at a
 cases g:fv M with
 |none=>rw[g]at a;nomatch a
 |some d=>
  rw[g]at a
  cases j:fk M with
  |none=>rw[j]at a;nomatch a
  |some x=>
   rw[j]at a
   cases m:jf x with
   |none=>rw[az,az,m]at a;nomatch a
   |some A=>
    simp only[az,az,m]at a;split at a
    .rename_i ks C es;split at a
     .rename_i N;cases a;refine⟨Hf0,H0,Hf,M,d,n,g,λv b3 H1 p G=>?_⟩;have b:=n.step p;obtain⟨l,el,J,L,vs,q,z,r⟩:=b.ownAt rfl es;refine⟨_,el,Hf0,H0,b3,M,x,b,j,λy bm H2 e I=>?_⟩;have u:=qT m I;subst u;refine⟨l,_,rfl,li.k (e.h _ _ q) (by rw[dq,nU];lia),?_⟩;refine k E bm _ (p.f.trans e.f) ((b.step e).mutd rfl rfl es el ⟨iE ks vs A v,?_,b7 z,(r.up e.f).put (G.up e.f)⟩);rw[aZ,Ol z]
     .nomatch a
    .nomatch a
variable{i' value:Expr}
def yu(f:X.A.units+64<cLine)(b:PE X e (cQ i))(a:DE c X i' fk)(hv:DE c X value fv)(d:f7 value (aa (.Subscript e i' b4)) pos.line X.env=pure af:=by rfl):
  DS c X (.Assign [.Subscript e i' b4] value pos) (jg i fk fv):=On (ED (by lia) b a hv d)
def Oo{k:Key}:∀{ks:List Key} {vs:LVv},ks.length=vs.length->(cI (ks.zip vs) k).isSome=gJ ks k:=λ{ks vs} h=>by
 rw[<- tO,yr h]
variable{b:Expr}
def FJ(L:X.A.units+64<cLine)(ha:DE c X a f)(B:DE c X b g)(hm:kU .In b=af:=by first |exact nobehind _ (by decide) (by decide) |rfl):DE c X (.Compare a [.In] [b] pos) (m2 qU f g):=
 PE.imp (J9 (Ms (by lia) ha B) hm) λE H Q G=>by
  obtain⟨Hf0,H0,Hf,M,d,st,p,k⟩:=G;obtain⟨x,y,m,n,e⟩:=mJ p;refine⟨Hf0,H0,Hf,M,x,st,m,λv b3 H1 i I=>⟨Hf0,H0,b3,M,y,st.step i,n,λu bm H2 j J=>?_⟩⟩;unfold qU at e
  cases h:jf x with
  |none=>rw[h]at e;nomatch e
  |some N=>
   rw[h]at e
   cases y with
   |dic ks C=>
    cases e;obtain⟨l,vs,el,q,z,r⟩:=J;have w:=qT h I;subst w el;refine⟨l,_,rfl,fO.k (j.s _ _ q),k _ bm H2 (i.trans j) ?_⟩;rw[Oo z]
    rfl
   | _=>nomatch e
abbrev gg(i:Nat)(fk fv:MF1)(M:LS):Option Fl:=(fv M).bind λd=>(fk M).bind λx=>match x with
 | .int k=>(match M[i]? with
  |some (.own C)=>(ixN C.length k).map λj=>.nx (M.set i (.own (C.set j d)))
  | _=>ab)
 | _=>ab
def Op(z:PS X st (i4 (tD (Gx c X) fv) (wZ (cQ i) (tD (Gx c X) fk) xu))):DS c X st (gg i fk fv):=PS.imp z λV4 E H A=>by
 obtain⟨Hf0,H0,Hf,M,o,u,a,k⟩:=A;unfold gg at a
 cases m:fv M with
 |none=>rw[m]at a;nomatch a
 |some d=>
  rw[m]at a
  cases n:fk M with
  |none=>rw[n]at a;nomatch a
  |some x=>
   rw[n]at a;obtain⟨e,rfl⟩:∃e,x=.int e:=by grind
   replace a:(match M[i]? with |some (.own C)=>(ixN C.length e).map λj=>Fl.nx _ | _=>ab)=aa o:=a
   split at a
   .rename_i C es
    cases p:ixN C.length e with
    |none=>rw[p]at a;nomatch a
    |some j=>
     rw[p]at a;cases a;refine⟨Hf0,H0,Hf,M,d,u,m,λv b3 H1 w B=>?_⟩;have b:=u.step w;obtain⟨l,el,I,J,vs,q,r⟩:=b.ownAt rfl es;refine⟨_,el,Hf0,H0,b3,M,.int e,b,n,λy bm H2 g G=>?_⟩;exact⟨l,vs,e,j,rfl,G,(g.h _ _ q),by rw[<- r.length];exact p,(k E bm _ (w.f.trans g.f) ((b.step g).mutd rfl rfl es el ⟨vs.set j v,aZ,(r.up g.f).set j (B.up g.f)⟩))⟩
   .grind
def FK(d:PE X e (cQ i))(b:DE c X i' fk)(hv:DE c X value fv)(f:swapsWithSole [.Subscript e i' b4] value pos.line X.env=pure af:=by rfl)(g:swappedStores [.Subscript e i' b4] value X.env=pure ab:=by rfl)
 (a:(iT [.Subscript e i' b4] X.env).map (·.2)=[assign (.Subscript e i' b4) X.env]:=by rfl)
 (ha:∀ v,assign (.Subscript e i' b4) X.env v=(do
   let ov <- eJ [v] (eval e X.env)
   let iv <- eJ [v,ov] (eval i' X.env)
   gt b4
   eJ [v,ov,iv] (setItem ov iv v)
   release [v,ov,iv] []):=by intro _;rfl):
  DS c X (.Assign [.Subscript e i' b4] value pos) (gg i fk fv):=Op (w6 hv (w5 d b xv ha) f g a)
def yv{G:Gc}{H:Hp}{f:D->D->Option Bool}(i:∀(g h x:D) (c d:Bool) (v:V),Rep G H g v->Rep G H h v->f g x=aa c->f h x=aa d->c=d):
  ∀{a b ys:LD} {c d:Bool} {vs:LVv},am G H a vs->am G H b vs->cW f a ys=aa c->cW f b ys=aa d->c=d
 | [],[],[],_,_,_,_,_,h1,h2=>by cases h1;cases h2;rfl
 | [],[],_::_,_,_,_,_,_,h1,h2=>by cases h1;cases h2;rfl
 | [],_::_,_,_,_,_,r1,r2,_,_=>by have:=r1.length;have:=r2.length;simp at *;lia
 | _::_,[],_,_,_,_,r1,r2,_,_=>by have:=r1.length;have:=r2.length;simp at *;lia
 | _::_,_::_,[],_,_,_,_,_,h1,h2=>by cases h1;cases h2;rfl
 |g::a,h::b,y::ys,c,d,vs,r1,r2,h1,h2=>by
  obtain⟨v,r,e,p,q⟩:=r1;obtain⟨E,C,e',p2,u⟩:=r2;subst e;cases e';obtain⟨w,z,j,l,rfl⟩:=tW h1;obtain⟨A,B,m,n,rfl⟩:=tW h2;rw[(i _ _ _ _ _ _ p p2 j m),(yv i q u l n)]
abbrev vD:V->D
 |.bl b=>.bl b
 |.int i=>.int i
 |.str x=>.str x
 | _=>.non
def FL(s:d.scalar=ac)(r:Rep G H d v):d=vD v:=by
 cases d <;> first |(cases s;done) |(rw[show v=_ from r];rfl)
def uk{a:Addr}(s:d.scalar=ac)(r:Rep G H d (.ref a)):False:=by
 cases d <;> first |(cases s;done) |(cases (r))
def qV{G:Gc}{H:Hp}:∀(n:Nat) {r u x:D} {m p:Bool} {v:V},Rep G H r v->Rep G H u v->deq n r x=aa m->deq n u x=aa p->m=p
 | 0,_,_,_,_,_,_,_,_,h,_=>by cases h
 |n+1,r,u,x,m,p,v,r1,r2,h1,h2=>by
  replace h1:mM _ r x=aa m:=h1;replace h2:mM _ u x=aa p:=h2
  have V2:∀{C ys:LD},r=.lst C->u=.lst ys->m=p:=λ{C ys} l g=>by
   subst l g;obtain⟨a,vs,e,q,L⟩:=r1;obtain⟨y,w,e',i,c⟩:=r2;rw[e]at e';cases e';rw[q]at i;cases i;have A:=L.length;have B:=c.length
   cases x with
   |lst j=>
    replace h1:(if C.length=j.length then cW _ C j else aa af)=aa m:=h1;replace h2:(if ys.length=j.length then cW _ ys j else aa af)=aa p:=h2
    by_cases z:C.length=j.length
    .rw[if_pos z]at h1;rw[if_pos (by lia)]at h2;exact yv (f:=deq n) (λ_ _ _ _ _ _=>qV n) L c h1 h2
    .grind
   | _=>cases h1
  have T:∀{C ys:LD},r=.tup C->u=.tup ys->m=p:=λ{C ys} l g=>by
   subst l g;obtain⟨a,vs,e,q,L⟩:=r1;obtain⟨y,w,e',i,c⟩:=r2;rw[e]at e';cases e';rw[q]at i;cases i;have A:=L.length;have B:=c.length
   cases x with
   |tup j=>
    replace h1:(if C.length=j.length then cW _ C j else ab)=aa m:=h1;replace h2:(if ys.length=j.length then cW _ ys j else ab)=aa p:=h2
    by_cases z:C.length=j.length
    .rw[if_pos z]at h1;rw[if_pos (by lia)]at h2;exact yv (f:=deq n) (λ_ _ _ _ _ _=>qV n) L c h1 h2
    .grind
   | _=>cases h1
  have no:∀{d:D} {b:Bool},mM (deq n) d x=aa b->d.scalar=ac\/(∃C,d=.lst C)\/∃C,d=.tup C:=λ{d b} h=>by
   unfold mM at h
   grind
  rcases no h1 with s1 |⟨C,l⟩ |⟨C,l⟩
  .have:r=u:=by
    rcases no h2 with s2 |⟨ys,g⟩ |⟨ys,g⟩
    .rw[FL s1 r1,<- FL s2 r2]
    .subst g;obtain⟨a,_,e,_⟩:=r2;subst e;exact(uk s1 r1).elim
    .subst g;obtain⟨a,_,e,_⟩:=r2;subst e;exact(uk s1 r1).elim
   grind
  .rcases no h2 with s2 |⟨ys,g⟩ |⟨ys,g⟩
   .subst l;obtain⟨a,_,e,_⟩:=r1;subst e;exact(uk s2 r2).elim
   .grind
   .subst l g;obtain⟨a,vs,e,q,L⟩:=r1;obtain⟨y,w,e',i,c⟩:=r2;rw[e]at e';cases e';rw[q]at i;cases i
  .rcases no h2 with s2 |⟨ys,g⟩ |⟨ys,g⟩
   .subst l;obtain⟨a,_,e,_⟩:=r1;subst e;exact(uk s2 r2).elim
   .subst l g;obtain⟨a,vs,e,q,L⟩:=r1;obtain⟨y,w,e',i,c⟩:=r2;rw[e]at e';cases e';rw[q]at i;cases i
   .exact T l g
abbrev dh(x:D):LD->Option Bool
 | []=>aa af
 |d::ds=>(deq 19 d x).bind λb=>(dh x ds).map λr=>b || r
abbrev fR(x y:D):OD:=((iy y).bind (dh x)).map .bl
def Oq:∀x y d,fR x y=aa d->d.scalar=ac:=λ_ _ d e=>oI d e
def FM{x:D}{b:Bool}(h:dh x (d::ds)=aa b):∃a c,deq 19 d x=aa a/\dh x ds=aa c/\b=(a || c):=by
 dsimp only[dh]at h
 cases e:deq 19 d x with
 |none=>rw[e]at h;nomatch h
 |some a=>
  cases f:dh x ds with
  |none=>rw[e,f]at h;nomatch h
  |some c=>rw[e,f]at h;cases h;exact⟨a,c,rfl,rfl,rfl⟩
def yw{a:Type}{f g:a->Bool}:∀{l:List a},(∀x∈l,f x=g x)->l.any f=l.any g
 | [],_=>rfl
 |x::l,h=>by rw[gq,gq,h x aF,yw λy b=>h y (bq _ b)]
open Classical in
def qW{U:PNS}{E:St}{H:Hp}{s:ah}{A:b6}{x:D}{L:V}{u:Value}(I:Inv X U E H s)(C:A.units+19<cLine)(J:Rep (Gx c X) H x L)(ru:aA L u):
  ∀{ds:LD} {vs:LVv} {us:LVa} {b:Bool},am (Gx c X) H ds vs->aG vs us->dh x ds=aa b ->
   ∃f:Value->Bool,(∀y∈us,cq A s y u (f y)/\∃d v,Rep (Gx c X) H d v/\aA v y/\deq 19 d x=aa (f y))/\us.any f=b
 | [],_,_,b,r,rv,h=>by
  cases (show _=[]from r);cases rv;cases h
  exact⟨λ_=>af,(λy g=>by cases g),rfl⟩
 |d::ds,_,_,b,q4_,rv,h=>by
  obtain⟨v,G,l,n,N⟩:=q4_;subst l;obtain⟨i,T,m,h2,rfl⟩:=FM h
  cases rv with
  | @cons _ y _ us a w=>
   obtain⟨f,B,ha⟩:=qW I C J ru N w h2;have j:cq A s y u i:=xZ I 19 C m n J a ru;refine⟨λz=>if z=y then i else f z,λz hz=>?_,?_⟩
   .by_cases e:z=y
    .subst e;simp only[if_true];exact⟨j,d,v,n,a,m⟩
    .simp only[e,if_false];exact B z ((bh.mp hz).resolve_left e)
   .rw[gq,if_pos rfl,<- ha]
    congr 1
    by_cases g:y∈us
    .obtain⟨_,d',Q,G,p,h'⟩:=B y g;have l:Q=v:=aA.inj p a;subst l;have M:f y=i:=qV 19 G n h' m;refine yw λz hz=>?_
     by_cases e:z=y
     .subst e;simp[M]
     .simp[e]
    .refine yw λz hz=>?_;have e:z≠y:=λq=>g (q▸hz);simp[e]
def Os(C:X.A.units+64<cLine):OpD c X (cV .In) fR:=by
 rintro U s E H v u w G Q I rv ru ⟨Hf,x,y,d,g,l,p,e,k⟩;unfold fR at e
 cases h:(iy y).bind _ with
 |none=>rw[h]at e;nomatch e
 |some b=>
  rw[h]at e;cases e
  cases es:iy y with
  |none=>rw[es]at h;nomatch h
  |some ds=>
   rw[es]at h;obtain⟨a,vs,n,q,r⟩:=qz es (p.up g);subst n;subst ru;have fin:∃m H',Inv X U E H' s/\aA m _/\Q m H':=⟨.bl b,H,I,rfl,k _ Hf H (Ext.refl g) rfl⟩
   rcases q with q |q
   .obtain⟨B,j,pl,hz⟩:=I.list q;obtain⟨f,i,ha⟩:=qW (A:=X.A.in1) I (by grind) (l.up g) rv r j h;refine SeqAt.in_listAt f pl.isList (λz hz=>(i z (by grind)).1) ?_;rw[show B.toArray.any f=B.any f by simp,ha];exact fin
   .obtain⟨B,j,pl,hz⟩:=I.tuple q;obtain⟨f,i,ha⟩:=qW (A:=X.A.in1) I (by grind) (l.up g) rv r j h;refine SeqAt.in_tupleAt f pl (λz hz=>(i z (by grind)).1) ?_;rw[show B.toArray.any f=B.any f by simp,ha];exact fin
abbrev Ris(C:Array Nat):Prop:=C.toList.Pairwise (· < ·)
variable{C:Array Nat}
def FN(h:Ris C){a b:Nat}(c:a<b)(d:b<C.size):C.getD a j<C.getD b j:=by
 have e:=pairwise_iff_getElem.mp h a b (by simpa using nW c d) (by simpa using d) c;rw[pX,pX,dif_pos (nW c d),dif_pos d];exact e
def yx(h:Ris C){a b:Nat}(c:a<=b)(d:b<C.size):C.getD a j<=C.getD b j:=by
 rcases Nat.eq_or_lt_of_le c with e |e
 .subst e;exact aM _
 .exact fj (FN h e d)
def yy{C:Array Nat}{j:Nat}(h:Ris C):∀(a lo hi:Nat),lo<=hi->hi<=C.size->hi-lo<=a->(∀i,i<lo->C.getD i j<j)->(∀i,hi<=i->i<C.size->¬C.getD i j<j) ->
  tf C j a lo hi<=C.size/\(∀i,i<tf C j a lo hi->C.getD i j<j)/\∀i,tf C j a lo hi<=i->i<C.size->¬C.getD i j<j
 | 0,lo,hi,h1,h2,h3,h4,h5=>by
  have e:lo=hi:=by lia
  subst e
  exact⟨h2,h4,h5⟩
 |a+1,lo,hi,h1,h2,h3,h4,h5=>by
  dsimp only[tf]
  by_cases c:lo<hi
  .rw[if_pos c]
   by_cases hm:C.getD ((lo+hi) / 2) j<j
   .simp only[hm];exact yy h a _ hi (by lia) h2 (by lia) (λi b=>(l8 (yx h (by lia) (by lia)) hm)) h5
   .simp only[hm];exact yy h a lo _ (by lia) (by lia) (by lia) h4 λi b f d=>(hm (l8 (yx h b f) d))
  .rw[if_neg c];have e:lo=hi:=by lia
   subst e;exact⟨h2,h4,h5⟩
def yA(h:Ris C)(j:Nat):cB C j<=C.size/\(∀i,i<cB C j->C.getD i j<j)/\∀i,cB C j<=i->i<C.size->¬C.getD i j<j:=
 yy h C.size 0 C.size (cg _) (aM _) (by lia) (λi hi=>by lia) λi hi a=>by lia
def Ot(h:Ris C)(hi:i<C.size):cB C (C[i]+1)=i+1:=by
 obtain⟨g,h2,f⟩:=yA h _;have e:C.getD i (C[i]+1)=C[i]:=by rw[pX,dif_pos hi];rfl
 by_cases d:cB C (C[i]+1)<=i
 .exact absurd (by rw[e];lia) (f i d hi)
 .by_cases c:i+1<cB C (C[i]+1)
  .have a:=h2 _ c;have b:=FN h (j:=C[i]+1) (show i<i+1 by lia) (by lia)
   lia
  .lia
def Ou(h:Ris C):cB C 0=0:=by
 obtain⟨a,h2,b⟩:=yA h 0
 by_cases e:0<cB C 0
 .have:=h2 0 e;lia
 .lia
def Ov(h:Ris C)(hn:C[cB C j]?≠aa j):Ris (du.insertAt C (cB C j) j):=by
 obtain⟨w,h2,r⟩:=yA h j;unfold Ris du.insertAt;have g:∀i,(hi:i<C.size)->C.getD i j=C[i]:=λi hi=>by rw[pX,dif_pos hi];rfl
 simp only[Array.toList_append,wb,Array.toList_extract,Array.toList_extract];simp only[extract_eq_drop_take]
 have l:∀x∈C.toList.take (cB C j),x<j:=λx p=>by
  obtain⟨i,hi,e⟩:=mem_take_iff_getElem.mp p;have n:i<cB C j:=by lia
  have:=h2 i n;rw[g i (by lia)]at this;rw[<- e];exact this
 have f:∀x∈C.toList.drop _,j<x:=λx p=>by
  obtain⟨i,hi,e⟩:=mem_drop_iff_getElem.mp p;have m:cB C j+i<C.size:=by simpa[Nat.add_comm]using hi
  have a:=r _ (by lia) m;rw[g _ m]at a;have ex:x=C[cB C j+i]:=by rw[<- e];simp
  rw[ex]
  rcases Nat.lt_or_ge j C[cB C j+i]with q |q
  .exact q
  .exfalso;have v:C[cB C j+i]=j:=by lia
   have d:cB C j<C.size:=by lia
   have b:=yx h (j:=j) (show cB C j<=cB C j+i by lia) m;rw[g _ m,g _ d,v]at b;have c:=r _ (aM _) d;rw[g _ d]at c;exact hn (by rw[lU d];congr 1;lia)
 have u:List.take (C.size-cB C j) _=List.drop (cB C j) C.toList:=sM (by simp);rw[u];refine sO.mpr ⟨sO.mpr ⟨Du (take_sublist _ _) h,by simp,λa ha b d=>?_⟩,Du (drop_sublist _ _) h,λa ha b d=>?_⟩
 .have:b=j:=by simpa using d
  subst this;exact l a ha
 .rcases bv.mp ha with ha |ha
  .exact nW (l a ha) (f b d)
  .have:a=j:=by simpa using ha
   subst this;exact f b d
def Ow(n:Nat):Ris (Array.range n):=by
 unfold Ris;rw[Array.toList_range];exact pairwise_lt_range
variable{t:du}
def FO(h:t.slot j=.empty\/t.slot j=.dummy):t.place[cB t.place j]?≠aa j:=λe=>by
 have:t.slot j=.live (cB t.place j):=by
  unfold du.slot
  grind
 grind
def yB{t:du}{h:Int}:∀(a:Nat) (p:du.Probe) {j:Nat} {d:Option Nat},(∀d',p.dummy=aa d'->t.place[cB t.place d']?≠aa d')->du.probe.go t (λ_=>h+1) h a p=aa (.empty j d) ->
  t.place[cB t.place j]?≠aa j/\∀d',d=aa d'->t.place[cB t.place d']?≠aa d'
 | 0,_,_,_,_,e=>by cases e
 |a+1,p,j,d,hd,e=>by
  unfold du.probe.go at e;split at e
  .rename_i b;cases e;exact⟨FO (.inl b),hd⟩
  .rename_i b;refine yB a _ (λd' q=>?_) e
   have:d'=p.j:=by
    unfold du.advance at q;split at q
    .exact(dk q).symm
    .exact(dk q).symm
   subst this;exact FO (.inr b)
  .rename_i i b;split at e
   .cases e
   .refine yB a _ (λd' q=>hd d' ?_) e;unfold du.advance at q
    split at q <;> exact q
def Ox{h:Int}{w:Bool}(e:t.freeSlot h=aa (j,w)):t.place[cB t.place j]?≠aa j:=by
 unfold du.freeSlot at e;split at e
 .rename_i c d b;obtain⟨a,h2⟩:=yB _ _ (λd' q=>by nomatch q) b
  cases d with
  |none=>cases e;exact a
  |some d'=>cases e;exact h2 _ rfl
 .grind
def um(t:du)(n:Nat):Ris (t.standIn n).place/\(t.standIn n).led=t.led:=⟨Ow n,rfl⟩
def Oy(n:Nat)(h:Ris t.place):Ris (t.orStandIn n).place/\(t.orStandIn n).led=t.led:=by
 unfold du.orStandIn;split
 .grind
 .exact um t n
def Oz(es:Array (Int×Value))(h:Int)(x:Value)(hr:Ris t.place):Ris (layNew t es h x).2.1.place/\(layNew t es h x).2.1.led=t.led:=by
 unfold layNew;split
 .rename_i slot wd a;exact Oy _ (Ov hr (Ox a))
 .exact um t _
variable{led:Bool}
def OA{mask finger moves:Nat}{plain:Bool}{c:Array Int}{t':du}{order:Array Nat}(e:du.laid mask finger moves led plain c=aa (t',order)):Ris t'.place/\t'.led=led:=by
 unfold du.laid at e
 cases d:du.layClean mask c with
 |none=>rw[d]at e;nomatch e
 |some owner=>
  rw[d]at e;cases e;refine⟨?_,rfl⟩;unfold Ris;rw[pairwise_map,pairwise_filterMap];refine List.Pairwise.imp (λ{a b} f=>?_) pairwise_lt_range
  simp_all
def OB(es:Array (Int×Value))(a:Nat):Ris (mi t es a).2.1.place/\(mi t es a).2.1.led=t.led:=by
 unfold mi;split
 .rename_i t' order b;dsimp only;split
  .exact(OA b)
  .exact um t _
 .exact um t _
abbrev dU(P:b9)(w:World)(h:Heap)(a:Addr)(led:Bool)(S:Int->Bool)(n:Nat):Prop:=
 ∃o b d c,h.get? a=aa o/\o.ExactSet/\o.data=.set b d c/\ElemsOf (fK P w) b.toList/\(∀k,S k=ac↔∃e∈b.toList,(fK P w).is k e.2=ac)
  /\ b.size<k4/\c.fits b.size=ac/\b.size=n/\Ris c.place/\c.led=led
variable{h:Heap}{a:Addr}
def dU.stay{S:Int->Bool}(q:dU P w h a led S n)(k:∀o,h.get? a=aa o->h'.get? a=aa o):dU P w h' a led S n:=by
 obtain⟨o,b,c,e,d,r⟩:=q;exact⟨o,b,c,e,k o d,r⟩
def dU.congr{S b:Int->Bool}{c:Nat}(q:dU P w h a led S n)(e:∀k,S k=b k)(en:n=c):dU P w h a led b c:=by
 have:S=b:=funext e
 grind
variable{a4:Array (Int×Value)}{ep:Nat}{tb:du}
def FP{o:Obj}{b:Array (Int×Value)}{c:du}{S:Int->Bool}(m:h.get? a=aa o)(f:o.ExactSet)(hd:o.data=.set a4 ep tb)
 (d:ElemsOf (fK P w) b.toList)(hm:∀k,S k=ac↔∃e∈b.toList,(fK P w).is k e.2=ac)(j:b.size<k4)(l:c.fits b.size=ac)(hr:Ris c.place)(g:c.led=led):
  (h.update a (Obj.putSet b c)).get? a=aa {o with data:=.set b (ep+1) c}/\dU P w (h.update a (Obj.putSet b c)) a led S b.size:=by
 have i:=(SetOf_store m f hd d hm j l).1;exact⟨i,_,b,ep+1,c,i,f,rfl,d,hm,j,l,rfl,hr,g⟩
variable{s:ah}
def FQ{g:Bool->Sem Unit}(I:∀(b:Bool) (i:ah) (x:Unit->ah->Prop),x () i->wpAny (model P w) A (g b) x V4 i){o:Obj}{c:Array (Int×Value)}{d:du}{S:Int->Bool}
 (B:s.heap.get? a=aa o)(m:o.ExactSet)(hd:o.data=.set a4 ep tb)(l:ElemsOf (fK P w) c.toList)(hm:∀k,S k=ac↔∃e∈c.toList,(fK P w).is k e.2=ac)
 (p:c.size<k4)(H:d.fits c.size=ac)(hr:Ris d.place)(f:d.led=led){G:Bool}{R:Option Bool->ah->Prop}
 (h:∀h',f9 a s.heap h'->dU P w h' a led S c.size->R (aa ac) {s with heap:=h'}):
  wpAny (model P w) A (do
    storeSet a c d
    if (!G && d.tooFull)=ac then do
      g (mi d c (om c.size)).2.2
      storeSet a (mi d c (om c.size)).1 (mi d c (om c.size)).2.1
      pure (aa ac)
     else pure (aa ac)) R V4 s:=by
 refine aj (wpAny_storeSet_of B hd ?_ (fits_of_scanBound p));obtain⟨n,J⟩:=FP B m hd l hm p H hr f;have E:=oi s.heap a (Obj.putSet c d);split
 .have pp:=relayAll_perm d c (om c.size);have y:=relayAll_fits d c (om c.size);have u:=OB (t:=d) c (om c.size);generalize mi d c _=z at pp y u ⊢;obtain⟨j,L,M⟩:=z;have v:j.size=c.size:=by rw[<- iN,pp.length_eq,iN]
  refine aj (I _ _ _ (aj (wpAny_storeSet_of n rfl ?_ (fits_of_scanBound (by rw[v];exact p)))));have C:=(FP n m rfl (l.perm pp) (λk=>(hm k).trans ⟨λ⟨e,r,q⟩=>⟨e,pp.mem_iff.mpr r,q⟩,λ⟨e,r,q⟩=>⟨e,pp.mem_iff.mp r,q⟩⟩) (by rw[v];exact p) y u.1 (u.2.trans f)).2;rw[v]at C;exact aC (h _ (E.trans (oi _ a _)) C)
 .exact aC (h _ E J)
def OC{S:Int->Bool}{k:Int}{x:Value}{Q:Bool->ah->Prop}(r:(fK P w).is k x=ac)(C:x.scannable=ac)(q:dU P w s.heap a led S n)(room:n+1<k4)
 (h:∀h',f9 a s.heap h'->dU P w h' a led (λE=>S E || decide (E=k)) (if S k then n else n+1)->Q (!S k) {s with heap:=h'}):wpAny (model P w) A (setAddHashed a x ((fK P w).hash k)) Q V4 s:=by
 obtain⟨o,a4,ep,tb,u,l,hd,f,hm,J,H,hn,hr,g⟩:=q;refine jB (aj (n8 u hd H ?_));dsimp only;rw[byScan_of C J f,if_pos rfl];refine aj (aj (kZ (aj (wpAny_setScan_of r u hd H f ?_))))
 cases hi:List.findIdx? _ a4.toList with
 |some j=>
  obtain⟨M,N,_⟩:=findIdx?_eq_some_iff_getElem.mp hi;have y:=(hm k).mpr ⟨a4.toList[j],iO M,N⟩;refine aC (aC ?_)
  have fin:=h s.heap (f9.refl a s.heap) ⟨o,a4,ep,tb,u,l,hd,f,λE=>by
   rw[kH,decide_eq_true_eq,<- hm E];exact⟨λz=>z.elim id (λe=>e▸y),.inl⟩,J,H,by rw[y];exact hn,hr,g⟩
  rw[y]at fin
  exact fin
 |none=>
  have y:S k=af:=by
   grind
  have L:∀b c p,p () c->wpAny (model P w) A (match b with |true=>rule "set.scan.the-table-gave-way" |false=>pure ()) p V4 c:=
   λb c p i=>by cases b <;> first |exact aC i |exact kZ i
  have pp:=layNew_perm tb a4 ((fK P w).hash k) x;have B:=layNew_fits tb a4 ((fK P w).hash k) x;have G:=Oz a4 ((fK P w).hash k) x hr;generalize layNew tb a4 _ x=z at pp B G ⊢;obtain⟨d,T,U,Y⟩:=z;dsimp only at pp B G ⊢;rw[wb]at pp;have I:d.size=n+1:=by rw[<- iN,pp.length_eq,aR,iN,hn];rfl
  have fin:∀h',f9 a s.heap h'->dU P w h' a led _ d.size->Q ac {s with heap:=h'}:=λh' v m=>by
   have:=h h' v;rw[y]at this;rw[I]at m;exact this m
  refine aj (L _ _ _ ?_);split
  .refine aj ?_;rw[hashByValue_scannable 8 C]
   refine aC (FQ (led:=led) (λb c p i=>by cases b <;> first |exact aC i |exact kZ i) u l hd ((f.push r C).perm pp) (mem_push_iff r hm pp) (by rw[I];exact room) ?_ ?_ ?_ λh' v m=>?_)
   .split
    .grind
    .exact du.fits_plain_off B
   .grind
   .grind
   .dsimp only;exact aC (fin h' v m)
  .refine aj (aC ?_)
   refine FQ (λb c p i=>by cases b <;> first |exact aC i |exact kZ i) u l hd ((f.push r C).perm pp) (mem_push_iff r hm pp) (by rw[I];exact room) B G.1 (G.2.trans g) λh' v m=>?_
   dsimp only;exact aC (fin h' v m)
set_option maxRecDepth 100000
abbrev d8(w:World):Bool:=!(w.params.followText "set-order")
variable{I:Addr}{wr:LAd}{G:Array GenState->Array GenState->Prop}{Pv:Nat->Value->Prop}
def OE{St:Nat->ah->Prop}(W:WalksS P w A.in1 I fp wr G n Pv St)(S:Addr)(f:S∉fp)(val:Nat->Int)(hv:∀i v,Pv i v->∃t,v=.int (val i) t)(B:n+1<k4):
  ∀(k i:Nat) (s:ah),n-i=k->i<=n->St i s->dU P w s.heap S led (λj=>(eI val i).any (·==j)) (eI val i).length ->
   (∀c,Moved (S::wr) G s c->dU P w c.heap S led (λj=>(eI val n).any (·==j)) (eI val n).length->R (.ok (.ret .none)) c) ->
   gx (model P w) A (.builtin "set.update.loop" ⟨[.ref S,.ref I],[]⟩) R s:=by
 have g:=λh=>f (W.sub _ h);have sub:∀b∈wr,b∈S::wr:=λb h=>bq _ h;intro k
 induction k with
 |zero=>
  intro i s r hi st q fin;obtain rfl:i=n:=by lia
  refine j4 F.entry_set_update_loop ?_
  exact aj (W.done s _ _ st λc m=>(aC (fin c (m.mono sub) (q.stay λo e=>m.heap S o g e))))
 |succ k u=>
  intro i s r hi st q fin;have lt:i<n:=by lia
  refine j4 F.entry_set_update_loop ?_;refine aj (W.item i s _ _ lt st λv c p d m=>?_);obtain⟨t,rfl⟩:=hv i v p;refine aj (jB ?_);refine jB (aj ((fK P w).pyHash (intKind_is _ _ _ _) ?_));have room:(eI val i).length+1<k4:=by have:=firstMet_length_le val i;lia
  refine OC (intKind_is _ _ _ _) rfl (q.stay λo e=>m.heap S o g e) room λh' l x=>?_;have y:dU P w h' S led (λj=>(eI val _).any (·==j)) (eI val _).length:=x.congr (λj=>by rw[firstMet_succ,step_any]) (by rw[firstMet_succ,step_length]);refine aC ⟨me F.plain_set_update_loop _,u _ _ (by lia) lt (W.frame _ c _ _ d (jW _) λb a o e=>?_) y λs2 m2 z=>?_⟩
  .rw[l.2 b λh=>f (by rw[<- h];exact a)];exact e
  .refine fin s2 (Moved.trans W.gtrans ((m.mono sub).then_heap (jW _) λb o a e=>?_) m2) z;rw[l.2 b λh=>a (by rw[h];exact aF)];exact e
nonrec def jh(led:Bool):Obj:={cls:=.type "set",dict:=ab,data:=.set #[] 0 (.fresh 0 0 led)}
def OF(a:Value){Q:PRS}(h:Q (.ref s.heap.objs.size) {s with heap:=s.heap.push (jh (d8 w))}):
  gx (model P w) A (.call (.builtin "set.__new__") ⟨[.type "set",a],[]⟩) (wants Q V4) s:=by
 refine codeAny_of_tree ?_;refine aj (qm (F.newCall_set_1 a) (aC ⟨me F.plain_set_new _,j4 F.entry_set_new ?_⟩));have b:=sub_set_self
 wp_walk
 refine wpAny_askSetting (aC ?_);exact aj (wpAny_alloc (aC (aC h)))
def OG(h:Heap)(led:Bool):dU P w (h.push (jh led)) h.objs.size led (λ_=>af) 0:=
 ⟨_,#[],0,_,cP _ rfl,⟨rfl,rfl,rfl⟩,rfl,λe a=>by simp at a,λk=>by simp,by decide,rfl,rfl,by unfold Ris;simp[du.fresh],rfl⟩
set_option maxRecDepth 100000
variable{ns:LI0}
set_option maxHeartbeats 8000000 in
def OH{items:Array Value}{Q:PRS}(hh:A.handled=ab)(hl:s.heap.IsList l items)(hi:fZ items.toList ns)(hb:items.size+1<k4)
 (h:∀ (h':Heap) (g:Nat),dU P w h' s.heap.objs.size (d8 w) (λj=>(eI (λi=>ns.getD i 0) items.size).any (·==j)) (eI (λi=>ns.getD i 0) items.size).length ->
   (∀b o,b<s.heap.objs.size->s.heap.get? b=aa o->h'.get? b=aa o)->s.toks<=g->Q (.ref s.heap.objs.size) {s with heap:=h',toks:=g}):
  wpAny (model P w) A (call (.type "set") [.ref l]) Q V4 s:=by
 obtain⟨c,tl,L⟩:=k5.mro;have E:=k5.made;have M:=k5.sub;refine wpAny_call (codeAny_of_tree ?_);show wpAny _ _ (callAny (.type "set") _) _ _ _;refine aC ⟨Code.quiet_builtin _ (by decide +kernel),j4 F.entry_type_call ?_⟩;rw[b6.under_plain (weight_type_call_type "set" [.ref l] []) rfl];have h1:=k5.notType;have h2:=k5.canCreate;have hct:=F.typeCall_set_1 (.ref l)
 repeat (any_goals (first |assumption |wp_step))
 refine kX (OF (.ref l) (V4:=V4) (Q:=λN d=>N=.ref s.heap.objs.size/\d={s with heap:=s.heap.push (jh (d8 w))}) ⟨rfl,rfl⟩) λr d hr=>?_
 cases r with
 |error e=>exact hr
 |ok fl=>
  cases fl with
  |ret N=>
   obtain⟨rfl,rfl⟩:=hr;have g0:(s.heap.push (jh (d8 w))).get? s.heap.objs.size=aa (jh (d8 w)):=cP _ rfl
   have hT:tj {s with heap:=s.heap.push (jh (d8 w))} (.ref s.heap.objs.size) "set":=⟨_,g0,rfl⟩
   have hli:=k5.init.lookup;have hbi:=k5.init.bind (.ref s.heap.objs.size)
   repeat (any_goals (first |assumption |wp_step))
   refine kX (wB (R:=wants (λr cc=>r=.none/\∃ h' g,cc={ s with heap:=h',toks:=g }/\s.toks<=g /\
     dU P w h' s.heap.objs.size (d8 w) (λj=>(eI (λi=>ns.getD i 0) items.size).any (·==j)) (eI (λi=>ns.getD i 0) items.size).length /\
     (∀b o,b<s.heap.objs.size->s.heap.get? b=aa o->h'.get? b=aa o)) V4) k5.init.plain F.entry_set_init (check_set_init_1 hT ?_)) λy cc a=>?_
   .obtain⟨⟨oc,od,odt,os⟩,u,n,nl,p⟩:=hl;simp only at n p;subst n p;have x:(s.heap.push (jh (d8 w))).get? l=aa {cls:=.type "list",dict:=od,data:=.seq items nl,slots:=os}:=bw _ u;have k1:=F.sub_list_set;have k2:=F.sub_list_frozenset;have k3:(j6 "list" == j6 "dict")=af:=by decide
    have q:(s.heap.push (jh (d8 w))).IsList l items:=⟨_,x,rfl,nl,rfl⟩;unfold eK.«set.__init__» noKeywords eK.Frozenset.updateFrom;generalize z:pyIter=PI
    wp_walk
    subst z;refine wpAny_pyIter_list q (aj (wpAny_runValue ?_));have lt:l<s.heap.objs.size:=bx u;have C:A.in1.in1.in1.handled=ab:=by simp[hh]
    have G:l≠(s.heap.push (jh (d8 w))).objs.size:=by rw[iW];exact bW (jV lt)
    have H:s.heap.objs.size∉[(s.heap.push (jh (d8 w))).objs.size,l]:=by
     rw[iW];simp only[bh,dQ,or_false,not_or];exact⟨bW (c6 _),kO lt⟩
    have hv:∀(i:Nat) (v:Value),items[i]?=aa v->∃t,v=.int ((λi=>ns.getD i 0) i) t:=λi v hv=>fZ.int_at hi i v (by rw[pW];exact hv);refine OE (led:=d8 w) ((Walks.list C _ l G items).toS) s.heap.objs.size H (λi=>ns.getD i 0) hv hb (items.size-0) 0 _ (by lia) (cg _) ⟨⟨_,cP _ rfl,rfl,rfl⟩,(q.push _)⟩ ?hS0 ?hR
    case hS0=>exact((OG (P:=P) (w:=w) s.heap (d8 w)).stay λo e=>bw _ e).congr (λ_=>rfl) rfl
    case hR=>
     intro s' hm B;obtain⟨h',g',d',J,I⟩:=s';have U:g'=s.gens:=hm.gens;have T:d'=s.drawn:=hm.drawn;have Y:I=s.os:=hm.os;subst U T Y;show wpAny _ _ _ _ _ _;refine aC ?_;show wpAny _ _ (ret mn) _ _ _;refine aC ⟨rfl,h',J,rfl,hm.toks,B,λb o m e=>?_⟩;have n2:b≠(s.heap.push (jh (d8 w))).objs.size:=by rw[iW];exact bW (jV m)
     refine hm.heap b o ?_ (bw _ (bw _ e));simp only[bh,dQ,or_false,not_or];exact⟨bW m,n2⟩
   .cases y with
    |error e=>exact a
    |ok f=>
     cases f with
     |ret r=>
      obtain⟨rfl,h',g,rfl,htk,q',kk⟩:=a
      repeat (any_goals (first |assumption |wp_step))
      exact h _ _ q' kk htk
     | _=>exact a.elim
  | _=>exact hr.elim
set_option maxRecDepth 100000
def yC{a:Type}:∀(l:List a) (i:Nat) (x:a),l[i]?=aa x->(x::l.eraseIdx i).Perm l
 | [],_,_,h=>by simp at h
 |y::l,0,x,h=>by simp at h;subst h;rfl
 |y::l,i+1,x,h=>by
  have:=yC l i x (by simpa using h);exact(List.Perm.swap y x _).trans (ww y this)
def FR{d:Type}(next:Nat->Nat):∀(a k:Nat) (left:List d) (out:Array d),left.length=a->(iU.go next a k left out).toList.Perm (out.toList++left)
 | 0,k,left,out,h=>by
  obtain rfl:left=[]:=sL.mp h;dsimp only[iU.go]
  simp
 |a+1,k,left,out,h=>by
  dsimp only[iU.go]
  have b:next k % left.length<left.length:=Nat.mod_lt _ (by lia)
  have c:=cF b;rw[c]
  refine(FR next a _ _ _ (by rw[length_eraseIdx_of_lt b];lia)).trans ?_
  rw[wb,cG];exact wu _ (yC left _ _ c)
def yD{a:Type}(next:Nat->Nat)(C:Array a):(iU next C).toList.Perm C.toList:=by
 have:=FR next C.size 0 C.toList #[] (by simp)
 simpa[iU]using this
def OI{a:Source}{Q:Nat->ah->Prop}(hn:n≠0)(h:∀i,i<n->Q i {s with drawn:=s.drawn.bump a}):wpAny (model P w) A (choose a n) Q V4 s:=λΓ p b=>
 ⟨hn,h _ (Nat.mod_lt _ (Nat.pos_of_ne_zero hn))⟩
def FS{b:Type}:∀(n:Nat) (C:List b) {s:ah} {Q:List b->ah->Prop},C.length=n->(∀ys d,ys.Perm C->Q ys {s with drawn:=d})->wpAny (model P w) A (drawOrder n C) Q V4 s
 | 0,C,s,Q,hl,h=>by
  obtain rfl:C=[]:=sL.mp hl;have:=h [] s.drawn (sQ _)
  exact aC (by cases s;exact this)
 |n+1,[],s,Q,hl,h=>by cases hl
 |n+1,x::C,s,Q,hl,h=>by
  refine aj (OI (by simp) λi hi=>?_);have a:=cF hi;rw[a];exact aj (FS n _ (by rw[length_eraseIdx_of_lt hi];lia) λys d c=>aC (h _ d ((ww _ c).trans (yC _ _ _ a))))
set_option maxRecDepth 100000
def iF:Slot "set_iterator" "__next__" "set_iterator.__next__" :=
 .of (owner:="set_iterator") (n:="__next__") (by rw[j5,jZ];kernel_rfl) (by decide +kernel) (by decide +kernel) (by decide +kernel) (by first |exact .inl (by decide +kernel) |grind) (by rw[ma];kernel_rfl)
def uq:mj table "set_iterator.__next__"=aa eK.«set_iterator.__next__»:=entryFor_of_fast (by kernel_rfl)
def ur(a:Value):argsOk "set_iterator.__next__" ⟨[a],[]⟩:=by unfold argsOk;kernel_rfl
def FT:Slot "set_iterator" "__iter__" "set_iterator.__iter__" :=
 .of (owner:="set_iterator") (n:="__iter__") (by rw[j5,jZ];kernel_rfl) (by decide +kernel) (by decide +kernel) (by decide +kernel) (by first |exact .inl (by decide +kernel) |grind) (by rw[ma];kernel_rfl)
def OJ:mj table "set_iterator.__iter__"=aa eK.«dict_keyiterator.__iter__»:=
 entryFor_alias (id':="dict_keyiterator.__iter__") (by kernel_rfl) (by first |rfl |decide +kernel |(unfold String.splitOn;simp +decide [String.splitOnAux])) (by decide +kernel) (by kernel_rfl)
def OK(a:Value):argsOk "set_iterator.__iter__" ⟨[a],[]⟩:=by unfold argsOk;kernel_rfl
nonrec abbrev hV(h:Heap)(I:Addr)(b:Value)(i:Nat)(a:Addr)(n ep:Nat):Prop:=
 h.get? I=aa {cls:=.type "set_iterator",dict:=ab,data:=.fields #[b,ci i,.ref a,ci n,ci ep],slots:=#[]}
variable{slot:Nat}{Q:Option Value->ah->Prop}
def FU{slot':Nat}{o:Obj}{v:Value}(b:hV s.heap I (ci slot) i a n ep)(m:s.heap.get? a=aa o)(hd:o.data=.set a4 ep tb)(l:tb.fits a4.size=ac)(hn:a4.size=n)
 (h:∀(A':b6) (d:PRS) (R:Option (Value×Nat)->ah->Prop),R (aa (v,slot')) s->wpAny (model P w) A' (setNext a slot i ep) R d s)
 (j:∀h',hV h' I (ci slot') (i+1) a n ep->f9 I s.heap h'->Q (aa v) {s with heap:=h'}):wpAny (model P w) A (g4 (.ref I)) Q V4 s:=by
 have c:s.TypeIs (.ref I) "set_iterator":=⟨_,b,rfl⟩;unfold g4;refine aj (oa (nY (name:=tm "__next__") c iF (jA iF c uq ?_ (ur _))));show wpAny _ _ (fieldsOf (.ref I) >>= _) _ _ s;refine aj (sX b rfl ?_);refine aj (qh m hd l ?_);have e:(((a4.size:Nat):Int) != (n:Int))=af:=by rw[hn];simp
 rw[e,if_neg bO];show wpAny _ _ (setNext a ((slot:Nat):Int).toNat ((i:Nat):Int).toNat ((ep:Nat):Int).toNat >>= _) _ _ s;refine aj (h _ _ _ ?_);refine aj (n4 b (by simp) λp f s1=>?_);refine aj (n4 f (by simp) λh2 g s2=>aC ⟨v,rfl,aC (j h2 ?_ (f9.trans s1 s2))⟩);show h2.get? I=_;rw[g];rfl
def FV{o:Obj}(l:A.handled=ab)(c:hV s.heap I (ci slot) i a n ep)(p:s.heap.get? a=aa o)(hd:o.data=.set a4 ep tb)(j:tb.fits a4.size=ac)(hn:a4.size=n)
 (g:∀(A':b6) (e:PRS) (R:Option (Value×Nat)->ah->Prop),R ab s->wpAny (model P w) A' (setNext a slot i ep) R e s)
 (h:∀h',Heap.ExtBut I s.heap h'->Q ab {s with heap:=h'}):wpAny (model P w) A (g4 (.ref I)) Q V4 s:=by
 have d:s.TypeIs (.ref I) "set_iterator":=⟨_,c,rfl⟩;unfold g4;refine aj (oa (nY (name:=tm "__next__") d iF (jA iF d uq ?_ (ur _))));show wpAny _ _ (fieldsOf (.ref I) >>= _) _ _ s;refine aj (sX c rfl ?_);refine aj (qh p hd j ?_);have f:(((a4.size:Nat):Int) != (n:Int))=af:=by rw[hn];simp
 rw[f,if_neg bO];simp only[dE,dE,dE];refine aj (g _ _ _ ?_);refine aj (n4 c (by simp) λr q s1=>?_);show wpAny _ _ (newExc (.type "StopIteration") [] >>= _) _ _ _;refine aj ?_;simp only[newExc,newTuple];refine aj (iS ?_ (by size_fits))
 refine aj (m:=qk _ _) (qm (a:=mn) (by first |rfl |(simp only[qk];rfl)) ?_)
 refine iS ?_ (by size_fits);refine aj (wpAny_handled ?_);rw[show A.in1.handled=ab from l];refine aj (aC (wpAny_throw ?_));refine aj (qj (T:="StopIteration") (b:=ac) ⟨_,cP _ rfl,rfl⟩ isSubtype_stop ?_);exact aC (h _ ((s1.extBut.push _).push _))
variable{T:Addr}{pls:Array Value}
def OL{pl:Nat}{o:Obj}{q:Int}{v:Value}(c:hV s.heap I (.ref T) i a n ep)(f:s.heap.get? a=aa o)(hd:o.data=.set a4 ep tb)(e:tb.fits a4.size=ac)(hn:a4.size=n)
 (l:s.heap.get? T=aa {cls:=.type "tuple",data:=.seq pls})(p:pls[i]?=aa (ci pl))(m:a4[pl]?=aa (q,v))
 (j:∀h',hV h' I (.ref T) (i+1) a n ep->f9 I s.heap h'->Q (aa v) {s with heap:=h'}):wpAny (model P w) A (g4 (.ref I)) Q V4 s:=by
 have b:s.TypeIs (.ref I) "set_iterator":=⟨_,c,rfl⟩;unfold g4;refine aj (oa (nY (name:=tm "__next__") b iF (jA iF b uq ?_ (ur _))));show wpAny _ _ (fieldsOf (.ref I) >>= _) _ _ s;refine aj (sX c rfl ?_);refine aj (qh f hd e ?_);have g:(((a4.size:Nat):Int) != (n:Int))=af:=by rw[hn];simp
 rw[g,if_neg bO];show wpAny _ _ (seqItems? (.ref T) >>= _) _ _ s;refine aj (sY l rfl ?_)
 show wpAny _ _ (match pls[((i:Nat):Int).toNat]? with |some (.int place _)=>_ |some _=>_ |none=>_) _ _ s
 rw[dE,p];show wpAny _ _ (setNextDrawn a ((pl:Nat):Int).toNat ((ep:Nat):Int).toNat >>= _) _ _ s;simp only[dE,dE];refine aj ?_;unfold setNextDrawn;refine aj (n8 f hd e ?_);dsimp only;rw[if_neg (by simp)];rw[m];refine aC ?_;refine aj (n4 c (by simp) λd h s1=>aC ⟨v,rfl,aC (j d ?_ s1)⟩);show d.get? I=_;rw[h];rfl
def OM{o:Obj}(l:A.handled=ab)(c:hV s.heap I (.ref T) i a n ep)(p:s.heap.get? a=aa o)(hd:o.data=.set a4 ep tb)(j:tb.fits a4.size=ac)(hn:a4.size=n)
 (d:s.heap.get? T=aa {cls:=.type "tuple",data:=.seq pls})(q:pls[i]?=ab)
 (h:∀h',Heap.ExtBut I s.heap h'->Q ab {s with heap:=h'}):wpAny (model P w) A (g4 (.ref I)) Q V4 s:=by
 have e:s.TypeIs (.ref I) "set_iterator":=⟨_,c,rfl⟩;unfold g4;refine aj (oa (nY (name:=tm "__next__") e iF (jA iF e uq ?_ (ur _))));show wpAny _ _ (fieldsOf (.ref I) >>= _) _ _ s;refine aj (sX c rfl ?_);refine aj (qh p hd j ?_);have f:(((a4.size:Nat):Int) != (n:Int))=af:=by rw[hn];simp
 rw[f,if_neg bO];show wpAny _ _ (seqItems? (.ref T) >>= _) _ _ s;refine aj (sY d rfl ?_)
 show wpAny _ _ (match pls[((i:Nat):Int).toNat]? with |some (.int place _)=>_ |some _=>_ |none=>_) _ _ s
 rw[dE,q];refine aj (n4 c (by simp) λv g r=>?_);refine aj (n4 g (by simp) λx u s1=>?_);show wpAny _ _ (newExc (.type "StopIteration") [] >>= _) _ _ _;refine aj ?_;refine aj (iS ?_ (by size_fits))
 refine aj (m:=qk _ _) (qm (a:=mn) (by first |rfl |(simp only[qk];rfl)) ?_)
 refine iS ?_ (by size_fits);refine aj (wpAny_handled ?_);rw[show A.in1.handled=ab from l];refine aj (aC (wpAny_throw ?_));refine aj (qj (T:="StopIteration") (b:=ac) ⟨_,cP _ rfl,rfl⟩ isSubtype_stop ?_);exact aC (h _ (((f9.trans r s1).extBut.push _).push _))
set_option maxRecDepth 100000
def ON:mj table "set.__iter__"=aa eK.«frozenset.__iter__»:=
 entryFor_alias (id':="frozenset.__iter__") (by kernel_rfl) (by first |rfl |decide +kernel |(unfold String.splitOn;simp +decide [String.splitOnAux])) (by decide +kernel) (by kernel_rfl)
abbrev qX(pl:Array Nat):Nat->Nat
 | 0=>0
 |i+1=>pl.getD i 0+1
def FW{pl:Array Nat}(hi:i<pl.size):qX pl (i+1)=pl[i]+1:=by
 show pl.getD i 0+1=_;simp[pX,hi]
def FX{a b:Type}{f:a->Option b}{g:a->b}:∀(l:List a),(∀x∈l,f x=aa (g x))->l.filterMap f=l.map g
 | [],_=>rfl
 |x::l,h=>by rw[p8,h x aF,bF,FX l λy c=>h y (bq _ c)]
def FY{pl:Array Nat}(h:Ris pl):∀i,i<=pl.size->cB pl (qX pl i)=i
 | 0,_=>Ou h
 |i+1,hi=>by
  rw[FW (by lia)];exact Ot h (by lia)
def ut{Q:Bool->ah->Prop}(h:Q (w.params.followText "set-order") s):wpAny (model P w) A setsByText Q V4 s:=by
 exact aj (wpAny_askSetting (aC h))
def FZ{o:Obj}{R:Option (Value×Nat)->ah->Prop}(c:s.heap.get? a=aa o)(hd:o.data=.set a4 ep tb)(b:tb.fits a4.size=ac)(d:w.params.followText "set-order"=ac)
 (h:R (((iU (w.params.setOrder a ep) a4)[i]?).map λe=>(e.2,slot)) s):wpAny (model P w) A (setNext a slot i ep) R V4 s:=by
 refine aj (n8 c hd b ?_);refine aj (ut ?_);rw[d,if_pos rfl,if_neg (by simp)];refine aj ?_;refine aj (n8 c hd b ?_);refine aj (ut ?_);rw[d,if_pos rfl];exact aj (wpAny_askSetting (aC (aC h)))
def F0{o:Obj}{R:Option (Value×Nat)->ah->Prop}(d:s.heap.get? a=aa o)(hd:o.data=.set a4 ep tb)(c:tb.fits a4.size=ac)(e:w.params.followText "set-order"=af)(f:(!tb.plain && decide (a4.size>1))=af)(b:tb.led=ac)
 (h:R (match a4[cB tb.place slot]?,tb.place[cB tb.place slot]? with |some (_,x),aa j=>aa (x,j+1) | _,_=>ab) s):wpAny (model P w) A (setNext a slot i ep) R V4 s:=by
 refine aj (n8 d hd c ?_);refine aj (ut ?_);rw[e,if_neg bO];show wpAny _ _ (if (!tb.plain && decide _)=ac then _ else _) _ _ s;rw[f,if_neg bO];show wpAny _ _ ((if _=ac then unsupported "set:maker-not-led" else pure ()) >>= _) _ _ s;rw[b,Bool.not_true,Bool.false_and,if_neg bO];exact aj (aC (aC h))
def yE{b:Value}{Q:PRS}(d:hV s.heap I b i a n ep)(h:Q (.ref I) s):wpAny (model P w) A (pyIter (.ref I)) Q V4 s:=by
 have c:s.TypeIs (.ref I) "set_iterator":=⟨_,d,rfl⟩;exact wpAny_pyIter_slot c FT (jA FT c OJ (aC ⟨_,rfl,"set_iterator",_,c,iF.lookup,h⟩) (OK _))
def OO{o:Obj}(hh:A.handled=ab)(ne:a≠I)(hd:o.data=.set a4 ep tb)(hf:tb.fits a4.size=ac)(hn:a4.size=n)(ht:w.params.followText "set-order"=ac):
  WalksS P w A I [I,a] [I] (λx y=>y=x) n (λi v=>((iU (w.params.setOrder a ep) a4).toList.map (·.2))[i]?=aa v) (λi s=>hV s.heap I (ci ((0:Nat):Int)) i a n ep/\s.heap.get? a=aa o) where
 sub:=λb hb=>by simp at hb;simp[hb]
 grefl:=λ_=>rfl
 gtrans:=λ_ _ _ h1 h2=>h2.trans h1
 frame:=λi s h' tk st _ hk=>⟨hk I (by simp) _ st.1,hk a (by simp) _ st.2⟩
 item:=λi s Q V4 hi st hQ=>by
  have hz:(iU (w.params.setOrder a ep) a4).size=n:=by rw[<- iN,(yD _ _).length_eq,iN,hn]
  have hx:_[i]?=aa (iU (w.params.setOrder a ep) a4)[i]:=lU (by lia);refine FU st.1 st.2 hd hf hn (λA' E' R r=>FZ st.2 hd hf ht (by rw[hx];exact r)) λh' g sb=>?_;refine hQ _ _ (by rw[cM,pW,hx];rfl) ⟨g,(sb.2 a ne).trans st.2⟩ ⟨λb o' hb e=>(sb.2 b (λh=>hb (by simp[h]))).trans e,rfl,rfl,rfl,aM _⟩
 done:=λs Q V4 st hQ=>by
  have hz:(iU (w.params.setOrder a ep) a4).size=n:=by rw[<- iN,(yD _ _).length_eq,iN,hn]
  have hx:(iU (w.params.setOrder a ep) a4)[n]?=ab:=Array.getElem?_eq_none (by lia);exact FV hh st.1 st.2 hd hf hn (λA' E' R r=>FZ st.2 hd hf ht (by rw[hx];exact r)) λh' eb=>hQ _ ⟨λb o' hb e=>eb b o' (λh=>hb (by simp[h])) e,rfl,rfl,rfl,aM _⟩
 self:=λi s Q V4 st hQ=>yE st.1 hQ
def OP{o:Obj}(hh:A.handled=ab)(ne:a≠I)(hd:o.data=.set a4 ep tb)(hf:tb.fits a4.size=ac)(hn:a4.size=n)(ht:w.params.followText "set-order"=af)(hw:(!tb.plain && decide (a4.size>1))=af)(hled:tb.led=ac)(hr:Ris tb.place):
  WalksS P w A I [I,a] [I] (λx y=>y=x) n (λi v=>(a4.toList.map (·.2))[i]?=aa v) (λi s=>hV s.heap I (ci ((qX tb.place i:Nat):Int)) i a n ep/\s.heap.get? a=aa o) where
 sub:=λb hb=>by simp at hb;simp[hb]
 grefl:=λ_=>rfl
 gtrans:=λ_ _ _ h1 h2=>h2.trans h1
 frame:=λi s h' tk st _ hk=>⟨hk I (by simp) _ st.1,hk a (by simp) _ st.2⟩
 item:=λi s Q V4 hi st hQ=>by
  have hz:tb.place.size=a4.size:=by simp only[du.fits,cL,beq_iff_eq]at hf;exact hf.1
  have hb:=FY hr i (by lia);have hx:a4[i]?=aa a4[i]:=lU (by lia);have hp:tb.place[i]?=aa tb.place[i]:=lU (by lia);have es:qX tb.place _=tb.place[i]'(by lia)+1:=FW (by lia);refine FU st.1 st.2 hd hf hn (slot':=qX tb.place _) (λA' E' R r=>F0 st.2 hd hf ht hw hled (by rw[hb,hx,hp];rw[es]at r;exact r)) λh' g sb=>?_;refine hQ _ _ (by rw[cM,pW,hx];rfl) ⟨g,(sb.2 a ne).trans st.2⟩ ⟨λb o' hb e=>(sb.2 b (λh=>hb (by simp[h]))).trans e,rfl,rfl,rfl,aM _⟩
 done:=λs Q V4 st hQ=>by
  have hz:tb.place.size=a4.size:=by simp only[du.fits,cL,beq_iff_eq]at hf;exact hf.1
  have hb:=FY hr n (by lia);have hx:a4[n]?=ab:=Array.getElem?_eq_none (by lia);exact FV hh st.1 st.2 hd hf hn (λA' E' R r=>F0 st.2 hd hf ht hw hled (by rw[hb,hx];exact r)) λh' eb=>hQ _ ⟨λb o' hb e=>eb b o' (λh=>hb (by simp[h])) e,rfl,rfl,rfl,aM _⟩
 self:=λi s Q V4 st hQ=>yE st.1 hQ
def OQ{o:Obj}(hh:A.handled=ab)(ne:a≠I)(nT:T≠I)(hd:o.data=.set a4 ep tb)(hf:tb.fits a4.size=ac)(hn:a4.size=n){ord:LN}(hp:ord.Perm (bM n)):
  WalksS P w A I [I,a,T] [I] (λx y=>y=x) n (λi v=>(ord.filterMap λj=>(a4[j]?).map (·.2))[i]?=aa v)
   (λi s=>hV s.heap I (.ref T) i a n ep/\s.heap.get? a=aa o/\s.heap.get? T=aa {cls:=.type "tuple",data:=.seq (ord.map λ(j:Nat)=>ci j).toArray}) where
 sub:=λb hb=>by simp at hb;simp[hb]
 grefl:=λ_=>rfl
 gtrans:=λ_ _ _ h1 h2=>h2.trans h1
 frame:=λi s h' tk st _ hk=>⟨hk I (by simp) _ st.1,hk a (by simp) _ st.2.1,hk T (by simp) _ st.2.2⟩
 item:=λi s Q V4 hi st hQ=>by
  have hl:ord.length=n:=by rw[hp.length_eq,cZ]
  have lt:∀j∈ord,j<a4.size:=λj hj=>by rw[hn];exact fY.mp (hp.mem_iff.mp hj)
  have hj:ord[i]?=aa _:=cF (by lia);have hlt:ord[i]'(by lia)<a4.size:=lt _ (iO _);have hx:=lU hlt
  have em:(ord.filterMap λj=>(a4[j]?).map (·.2))=ord.map λj=>((a4[j]?).map (·.2)).getD .none:=by
   refine FX ord λj hj=>?_;have:a4[j]?=aa _:=lU (lt j hj);rw[this];rfl
  refine OL st.1 st.2.1 hd hf hn st.2.2 (by rw[List.getElem?_toArray,cM,hj];rfl) hx λh' g sb=>?_;refine hQ _ _ ?_ ⟨g,(sb.2 a ne).trans st.2.1,(sb.2 T nT).trans st.2.2⟩ ⟨λb o' hb e=>(sb.2 b (λh=>hb (by simp[h]))).trans e,rfl,rfl,rfl,aM _⟩;rw[em,cM,hj];simp only[Option.map_some,hx];rfl
 done:=λs Q V4 st hQ=>by
  have hl:ord.length=n:=by rw[hp.length_eq,cZ]
  exact OM hh st.1 st.2.1 hd hf hn st.2.2 (by rw[List.getElem?_toArray];exact jy (by simp;lia)) λh' eb=>hQ _ ⟨λb o' hb e=>eb b o' (λh=>hb (by simp[h])) e,rfl,rfl,rfl,aM _⟩
 self:=λi s Q V4 st hQ=>yE st.1 hQ
set_option maxRecDepth 100000
def F6{P:b9}{w:World}:∀(l:List (Int×Value)),ElemsOf (fK P w) l->∃ns:LI0,fZ (l.map (·.2)) ns/\∀k,(∃e∈l,(fK P w).is k e.2=ac)↔k∈ns
 | [],_=>⟨[],.nil,λk=>by simp⟩
 |e::l,h=>by
  obtain⟨ns,d,h2⟩:=F6 l h.tail;obtain⟨⟨k,a,_⟩,_⟩:=h.head;obtain⟨t,c⟩:=Value.isInt_shape a;refine⟨k::ns,by rw[bF,c];exact .cons k t d,λj=>?_⟩;rw[bh,<- h2 j];constructor
  .rintro⟨x,b,q⟩
   rcases bh.mp b with rfl |b
   .exact .inl ((fK P w).inj _ _ _ q a)
   .grind
  .grind
def F7{a:Type}(C:List a):∀(n k:Nat),k+n=C.length->(List.range' k n).filterMap (λj=>C[j]?)=C.drop k
 | 0,k,h=>by rw[range'_zero,filterMap_nil,drop_of_length_le (by lia)]
 |n+1,k,h=>by
  rw[range'_succ,p8,cF _,F7 C n _ (by lia),drop_eq_getElem_cons (show k<C.length by lia)]
def OR{a:Type}(C:Array a):(bM C.size).filterMap (λj=>C[j]?)=C.toList:=by
 have:=F7 C.toList C.size 0 (by simp);rw[drop_zero]at this;rw[range_eq_range',<- this];simp
def OS{S:Int->Bool}{Q:PRS}(q:dU P w s.heap a (d8 w) S n)
 (H:∀ (I:Addr) (fp:LAd) (l:LVa) (ns:LI0) (St:Nat->ah->Prop) (h':Heap) (d':Drawn),(∀ A' : b6,A'.handled=ab->WalksS P w A' I fp [I] (λx y=>y=x) n (λi v=>l[i]?=aa v) St) ->
   St 0 {s with heap:=h',drawn:=d'}->(∀b o,s.heap.get? b=aa o->h'.get? b=aa o)->s.heap.objs.size<=I->I∈fp->(∀b∈fp,b<h'.objs.size/\(b=a\/s.heap.objs.size<=b))->fZ l ns->ns.length=n->(∀k,S k=ac↔k∈ns)->Q (.ref I) {s with heap:=h',drawn:=d'}):
  wpAny (model P w) A (pyIter (.ref a)) Q V4 s:=by
 obtain⟨o,a4,ep,tb,f,L,hd,J,hm,hb,h,hn,hr,C⟩:=q;have U:s.TypeIs (.ref a) "set":=⟨o,f,L.1⟩;have u:=bx f
 have fin:∀(vs:List _),vs.Perm a4.toList->∃ns,fZ _ ns/\ns.length=n/\∀k,S k=ac↔k∈ns:=λvs p=>by
  obtain⟨ns,T,h2⟩:=F6 vs (J.perm p);refine⟨ns,T,?_,λk=>?_⟩
  .rw[<- T.length,ay,p.length_eq,iN,hn]
  .grind
 refine wpAny_pyIter_slot U F.slot_set_iter (jA F.slot_set_iter U ON ?_ (F.args_set_iter_1 _));show wpAny _ _ (eK.Frozenset.sizeOf a >>= _) _ _ s;refine aj ?_;refine aj (qh f hd h (aC ?_));refine aj ?_;refine aj (n8 f hd h ?_);refine aj (ut (aC ?_));show wpAny _ _ (if (!w.params.followText "set-order" && (!tb.plain && decide _))=ac then _ else _) _ _ s
 cases N:w.params.followText "set-order" with
 |true=>
  refine aj (aC (aj (wpAny_setEpoch_of f hd h ?_)));refine aj (iS ?_ (by size_fits));refine aC ?_;obtain⟨ns,r,E,G⟩:=fin _ (yD _ a4);have g:hV _ s.heap.objs.size (ci (0:Int)) 0 a n ep:=cP _ rfl;rw[hn];refine⟨_,rfl,"set_iterator",_,⟨_,g,rfl⟩,iF.lookup,?_⟩;refine H s.heap.objs.size [s.heap.objs.size,a] _ ns _ _ s.drawn (λA' B=>OO B (bW u) hd h hn N) ⟨g,bw _ f⟩ (λb o' e=>bw _ e) (aM _) (by simp) (λb c=>?_) r E G;rw[iW];simp only[bh,dQ,or_false]at c
  rcases c with rfl |rfl
  .exact⟨c6 _,.inr (aM _)⟩
  .exact⟨jV u,.inl rfl⟩
 |false=>
  have m:tb.led=ac:=by rw[C];unfold d8;rw[N];rfl
  cases Y:(!tb.plain && decide (a4.size>1))with
  |false=>
   refine aj (aC (aj (wpAny_setEpoch_of f hd h ?_)));refine aj (iS ?_ (by size_fits));refine aC ?_;obtain⟨ns,r,E,G⟩:=fin _ (sQ _);have g:hV (s.heap.push {cls:=.type "set_iterator",dict:=ab,data:=.fields #[ci ((0:Nat):Int),ci ((0:Nat):Int),.ref a,ci n,ci ep],slots:=#[]}) s.heap.objs.size (ci ((0:Nat):Int)) 0 a n ep:=cP _ rfl;rw[hn];refine⟨_,rfl,"set_iterator",_,⟨_,g,rfl⟩,iF.lookup,?_⟩;refine H s.heap.objs.size [s.heap.objs.size,a] _ ns _ _ s.drawn (λA' B=>OP B (bW u) hd h hn N Y m hr) ⟨g,bw _ f⟩ (λb o' e=>bw _ e) (aM _) (by simp) (λb c=>?_) r E G;rw[iW];simp only[bh,dQ,or_false]at c
   rcases c with rfl |rfl
   .exact⟨c6 _,.inr (aM _)⟩
   .exact⟨jV u,.inl rfl⟩
  |true=>
   refine aj (FS _ _ (by rw[cZ]) λord d p=>?_);rw[hn]at p;have M:((ord.map λ(i:Nat)=>ci i)).length<=aS:=by rw[ay,p.length_eq,cZ];exact fits_of_scanBound (by lia)
   refine aj (wpAny_newTuple ?_ M)
   refine aj (wpAny_setEpoch_of (s:={s with heap:=s.heap.push {cls:=.type "tuple",data:=.seq (ord.map λ(i:Nat)=>ci i).toArray},drawn:=d}) (bw _ f) hd h ?_)
   refine aj (iS ?_ (by size_fits));refine aC ?_
   have pv:(ord.filterMap λj=>a4[j]?).Perm a4.toList:=by
    have:=p.filterMap λj=>a4[j]?;rw[<- hn,OR]at this;exact this
   obtain⟨ns,r,E,G⟩:=fin _ pv;rw[map_filterMap]at r
   have g:hV ((s.heap.push {cls:=.type "tuple",data:=.seq (ord.map λ(i:Nat)=>ci i).toArray}).push {cls:=.type "set_iterator",dict:=ab,data:=.fields #[.ref s.heap.objs.size,ci ((0:Nat):Int),.ref a,ci n,ci ep],slots:=#[]})
     (s.heap.push {cls:=.type "tuple",data:=.seq (ord.map λ(i:Nat)=>ci i).toArray}).objs.size (.ref s.heap.objs.size) 0 a n ep:=cP _ rfl
   rw[hn];refine⟨_,rfl,"set_iterator",_,⟨_,g,rfl⟩,iF.lookup,?_⟩;have z:(s.heap.push {cls:=.type "tuple",data:=.seq (ord.map λ(i:Nat)=>ci i).toArray}).objs.size=s.heap.objs.size+1:=iW ..;refine H _ [(s.heap.push {cls:=.type "tuple",data:=.seq (ord.map λ(i:Nat)=>ci i).toArray}).objs.size,a,s.heap.objs.size] _ ns _ _ d (λA' B=>OQ B (by rw[z];exact bW (jV u)) (by rw[z];exact bW (c6 _)) hd h hn p) ⟨g,bw _ (bw _ f),bw _ (cP _ rfl)⟩ (λb o' e=>bw _ (bw _ e)) (by rw[z];exact jW _) (by simp) (λb c=>?_) r E G;rw[iW];simp only[bh,dQ,or_false]at c
   rcases c with rfl |rfl |rfl
   .exact⟨c6 _,.inr (by rw[z];exact jW _)⟩
   .exact⟨by rw[z];exact jV (jV u),.inl rfl⟩
   .exact⟨by rw[z];exact jV (c6 _),.inr (aM _)⟩
set_option maxRecDepth 100000
variable{c4:Array Value}
def OU{a:LVa}(h:ItemsOf (λi v=>a[i]?=aa v) c4 n)(b:a.length=n):c4.toList=a:=by
 refine l5 λi=>?_
 by_cases hi:i<n
 .have e:c4[i]?=aa (c4[i]'(by rw[h.1];exact hi)):=lU _;rw[pW,e];exact(h.2 i _ e).symm
 .rw[jy (by rw[iN,h.1];lia),jy (by lia)]
def OV:mh (.type "set") "__len__"=pure (aa (.builtin "set.__len__")):=by rw[j5,jZ];kernel_rfl
def OW{S:Int->Bool}{Q:LVa->ah->Prop}(hh:A.handled=ab)(q:dU P w s.heap a (d8 w) S n)(hn:n<=aS)
 (hQ:∀(h':Heap) (d':Drawn) (L:Nat) (c:LVa) (ns:LI0),(∀b o,s.heap.get? b=aa o->h'.get? b=aa o)->s.heap.objs.size<=h'.objs.size->s.toks<=L->fZ c ns->ns.length=n->(∀k,S k=ac↔k∈ns)->Q c {s with heap:=h',drawn:=d',toks:=L}):
  wpAny (model P w) A (collect (.ref a)) Q V4 s:=by
 unfold collect;refine aj (wpAny_runValue (j4 PySem.F.entry_proto_collect ?_));rw[b6.under_plainId PySem.F.plain_proto_collect _];show wpAny _ A.in1 (newList [] >>= λl=>again (.builtin "list.__iadd__" ⟨[l,.ref a],[]⟩)) _ _ s;refine aj (iS ?_);refine aC ⟨me PySem.F.plain_list_iadd _,j4 PySem.F.entry_list_iadd ?_⟩;rw[b6.under_plainId PySem.F.plain_list_iadd _];show wpAny _ A.in1 (wE (.ref s.heap.objs.size) (.ref a) (.ref s.heap.objs.size)) _ _ _;unfold wE;obtain⟨o,a4,ep,tb,u,m,rest⟩:=id q;have la:a<s.heap.objs.size:=bx u;have q1:dU P w (s.heap.push {cls:=.type "list",data:=.seq ([]:LVa).toArray}) a (d8 w) S n:=q.stay λo e=>bw _ e
 have hT:tj {s with heap:=s.heap.push {cls:=.type "list",data:=.seq ([]:LVa).toArray}} (.ref a) "set":=⟨o,bw _ u,m.1⟩
 refine aj (wpAny_typeOf hT ?_);have k1:s9 (.ref s.heap.objs.size) (.ref a)=af:=by simp[s9,kO la]
 have k2:(j6 "set" == j6 "list")=af:=by decide
 have k3:(j6 "set" == j6 "tuple")=af:=by decide
 simp only[k1,k2,k3,Bool.or_false,Bool.false_eq_true,if_false];refine aj (OS q1 λI fp c ns St f g W x keep gI mI U G H i3=>?_)
 have d:tj {s with heap:=f,drawn:=g} (.ref a) "set":=⟨o,keep _ _ (bw _ u),m.1⟩
 have zL:(s.heap.push {cls:=.type "list",data:=.seq ([]:LVa).toArray}).objs.size=s.heap.objs.size+1:=iW ..
 have J:s.heap.objs.size∉fp:=λhm=>by
  grind
 refine aj (jB ?_);unfold Dv;refine aj (sV d OV ?_);dsimp only;refine aj (qj d sub_set_self ?_);refine aj (wpAny_typeOf d (aC ?_))
 show wpAny _ A.in1 (rule "list.extend.makes-room" >>= λ_=>eK.List.listTouch (.ref s.heap.objs.size) >>= λ_ =>
  again (.builtin "list.extend.loop" ⟨[.ref s.heap.objs.size,.ref I,.ref s.heap.objs.size],[]⟩)) _ _ _
 refine aj (kZ ?_);have C:=keep _ _ (cP _ rfl);refine aj ?_
 refine aj (sW (s:={s with heap:=f,drawn:=g}) C rfl ?_)
 have E:=oh (g7 (·.push mn)) C rfl
 refine sW (s:={s with heap:=f.update s.heap.objs.size (g7 (·.push mn)),drawn:=g}) E rfl ?_
 have Y:=oh (g7 (·.pop)) E rfl
 have p:∀b o,b≠s.heap.objs.size->f.get? b=aa o->((f.update s.heap.objs.size (g7 (·.push mn))).update s.heap.objs.size (g7 (·.pop))).get? b=aa o:=
  λb o r e=>(oe _ _ (eG r)).trans ((oe _ _ (eG r)).trans e)
 have z:=W A.in1 (by simp[hh])
 refine aC ⟨me PySem.F.plain_extend_loop _,codeAny_extend_loopS z hn _ J _ n 0 _ _ _ rfl (cg _)
  (z.frame 0 ({s with heap:=f,drawn:=g}:ah) _ s.toks x (aM _) λb r o e=>p b o (λh=>J (h▸r)) e) Y (ItemsOf.nil _) λs' B c' hm i j=>?_⟩
 refine aj (wpAny_load i (aC ?_));have lv:c.length=n:=by rw[G.length,H]
 rw[OU j lv];obtain⟨h2,g',d',y,os'⟩:=s';have N:=hm.gens;have M:d'=g:=hm.drawn;have T:=hm.os;subst N M T;refine hQ h2 d' y c ns (λb o' e=>?_) (fj (bx i)) hm.toks G H i3;have v:=bx e;refine hm.heap b o' ?_ (p b o' (bW v) (keep _ _ (bw _ e)));simp only[bh,dQ,or_false,not_or];exact⟨bW v,bW (fh v (cN (by rw[zL];exact jW _) gI))⟩
def OX{S:Int->Bool}{Q:PRS}(y:A.handled=ab)(q:dU P w s.heap a (d8 w) S n)(g:n<64)
 (x:∀ (p:Addr) (h':Heap) (d':Drawn) (d e:Nat) (out:Array Value) (ns:LI0),(∀ b o,s.heap.get? b=aa o->h'.get? b=aa o)->s.heap.objs.size<=p->s.toks<=d->h'.get? p=aa (seqObj "list" out e)->fZ out.toList ns->ns.Pairwise (·<=·)->ns.length=n->(∀ k,S k=ac↔k∈ns) ->
   Q (.ref p) {s with heap:=h',drawn:=d',toks:=d}):wpAny (model P w) A (call (.builtin "sorted") [.ref a]) Q V4 s:=by
 refine Calls.call_function_entry kind_sorted plain_sorted entry_sorted (args_sorted1 _) ?_;refine aj (aC ?_);refine aj (OW (by simp[y]) q (by rw[dq];lia) λm u d c ns keep grow htk h i z=>?_);refine aj (wpAny_newList ?_ (by rw[h.length,i,dq];lia));have f:(m.push _).get? m.objs.size=aa (seqObj "list" c.toArray 0):=cP _ rfl;refine aj (jB (jA slot_list_sort ⟨_,f,rfl⟩ entry_list_sort (list_sort_tree f h (by rw[h.length,i];exact g) λout j o1 o2 B=>⟨_,rfl,?_⟩) (args_list_sort _)));obtain⟨e,v⟩:=sortedHeap_at f;refine aC ⟨_,rfl,x _ _ u d e out j (λb o l=>?_) grow htk v o1 B (by rw[o2.length_eq,i]) λk=>(z k).trans (o2.mem_iff).symm⟩;have r:=bx (keep b o l);rw[sortedHeap_old (bW r) (by rw[iW];exact jV r)];exact bw _ (keep b o l)
abbrev ko(x:Int):LI0->LI0
 | []=>[x]
 |y::r=>if x<y then x::y::r else if x=y then y::r else y::ko x r
abbrev di(ns:LI0):LI0:=ns.foldr ko []
def yF(x k:Int):∀l:LI0,k∈ko x l↔k=x\/k∈l
 | []=>by simp[ko]
 |y::r=>by
  unfold ko;split
  .simp
  .split
   .grind
   .rw[bh,yF x k r,bh]
    grind
def F8(x:Int):∀l:LI0,l.Pairwise (· < ·)->(ko x l).Pairwise (· < ·)
 | [],_=>by simp[ko]
 |y::r,h=>by
  obtain⟨d,h2⟩:=lY.mp h;unfold ko;split
  .rename_i f;refine lY.mpr ⟨λk c=>?_,h⟩
   rcases bh.mp c with e |c
   .subst e;exact f
   .exact Int.lt_trans f (d k c)
  .split
   .exact h
   .rename_i a b;refine lY.mpr ⟨λk c=>?_,F8 x r h2⟩
    rcases(yF x k r).mp c with e |c
    .subst e;lia
    .exact d k c
def ji(k:Int):∀l:LI0,k∈di l↔k∈l
 | []=>by rfl
 |x::l=>by
  show k∈ko x (di l)↔_;rw[yF,ji k l,bh]
def lA:∀l:LI0,(di l).Pairwise (· < ·)
 | []=>by simp[di]
 |x::l=>F8 x _ (lA l)
def yG:∀(l m:LI0),l.Pairwise (· < ·)->m.Pairwise (· < ·)->(∀k,k∈l↔k∈m)->l=m
 | [],[],_,_,_=>rfl
 | [],y::m,_,_,h=>by have:=(h y).mpr aF;simp at this
 |x::l,[],_,_,h=>by have:=(h x).mp aF;simp at this
 |x::l,y::m,hl,hm,h=>by
  obtain⟨b,a⟩:=lY.mp hl;obtain⟨m1,m2⟩:=lY.mp hm
  have e:x=y:=by
   rcases bh.mp ((h x).mp aF)with e |hx
   .lia
   .rcases bh.mp ((h y).mpr aF)with e |hy
    .grind
    .grind
  subst e;rw[yG l m a m2 λk=>?_]
  grind
def oW:∀(F V2:LI0),F.Nodup->(∀x∈F,x∈V2)->V2.length<=F.length->V2.Perm F
 | [],V2,_,_,h=>by
  grind
 |x::F,V2,hn,hs,h=>by
  obtain⟨d,b⟩:=cf.mp hn;have a:=hs x aF;refine(perm_cons_erase a).trans (ww x (oW F _ b (λy c=>?_) ?_))
  .grind
  .grind
def uu(val:Nat->Int):∀i,(eI val i).Nodup
 | 0=>by rw[firstMet_zero];grind
 |i+1=>by
  rw[firstMet_succ];unfold step_dedup;split
  .exact uu val i
  .rename_i h;refine e8.mpr ⟨uu val i,by simp,λa ha b c e=>?_⟩
   grind
def F9(ns:LI0)(k:Int):(eI (λi=>ns.getD i 0) ns.length).any (·==k)=ac↔k∈ns:=by
 rw[firstMet_any]
 have e:(bM ns.length).map (λi=>ns.getD i 0)=ns:=by
  refine l5 λi=>?_
  grind
 grind
variable{out:LI0}
def OY(d:out.Pairwise (·<=·))(f:out.length=(eI (λi=>ns.getD i 0) ns.length).length)(hm:∀k,(eI (λi=>ns.getD i 0) ns.length).any (·==k)=ac↔k∈out):out=di ns:=by
 have nd:=uu (λi=>ns.getD i 0) ns.length
 have lt:out.Pairwise (· < ·):=by
  exact List.Pairwise.imp₂ (λa b c h2=>(Int.lt_iff_le_and_ne.mpr ⟨c,h2⟩)) d ((oW _ out nd (λx e=>(hm x).mp (any_eq_true.mpr ⟨x,e,by simp⟩)) (by lia)).nodup_iff.mpr nd)
 exact yG _ _ lt (lA ns) λk=>by rw[<- hm k,F9,ji]
def OZ(ns:LI0):(di ns).length=(eI (λi=>ns.getD i 0) ns.length).length:=by
 have m:∀x,x∈eI _ ns.length↔x∈di ns:=λx=>by
  refine Iff.trans ?_ (ji x ns).symm;refine Iff.trans ?_ (F9 ns x);rw[any_eq_true];exact⟨λh=>⟨x,h,by simp⟩,λc=>by obtain⟨y,b,q⟩:=c;have:=beq_iff_eq.mp q;exact this▸b⟩
 rcases Nat.le_total (di ns).length (eI _ ns.length).length with h |h
 .exact(oW _ _ (uu _ ns.length) (λx a=>(m x).mp a) h).length_eq
 .exact(oW _ _ ((lA ns).imp λh=>Int.ne_of_lt h) (λx a=>(m x).mpr a) h).length_eq.symm
def Inv.draws(I:Inv X U E H s)(d':Drawn):Inv X U E H {s with drawn:=d'}:=by
 refine I.step (ch:=[]) (λb a=>by nomatch a) (λb o _ _ _ e _=>e) (λb o _ _ _ e _=>⟨o.slots,e⟩) (λ_ _ _ _ n=>n)
  (λb o _ e=>⟨o,e⟩) (λ_ _ e=>e) (λ_ _ _ e=>e) (λb ps e=>⟨#[],by rw[e];simp⟩) (λm hm=>hm) I.hok I.bare
def yH:∀{vs:LVa} {ns:LI0},fZ vs ns->aG (ns.map V.int) vs
 | _,_,.nil=>.nil
 | _,_,.cons n t h=>.cons ⟨t,rfl⟩ (yH h)
def yI:∀{ns:LI0} {vs:LVa},aG (ns.map V.int) vs->fZ vs ns
 | [],_,.nil=>.nil
 |n::ns,_,.cons ⟨t,e⟩ h=>by subst e;exact .cons n t (yI h)
abbrev tSS(K:aQ)(te:TE):TE:=λE H Q=>te E H λx H1=>∃l ns,x=.ref l/\SqL K H1 l (ns.map V.int)/\ns.length<4000/\(di ns).length<64/\∀p,H1 p=ab->Q (.ref p) (upd H1 p (.lst ((di ns).map V.int)))
variable{c2:Pos}
def O0(y:X.calm=ac)(j:Gl X "sorted")(n:X.mg "sorted"=ab)(m:Gl X "set")(r:X.mg "set"=ab)(T:PE X e te)
 (N:aN [.Call (.Name "set" p2) [e] [] c2] X.env=(af,eval (.Call (.Name "set" p2) [e] [] c2) X.env)::aN [] X.env:=by rfl)(h2:aN [e] X.env=(af,eval e X.env)::aN [] X.env:=by rfl)
 (v:(ca pos (aN [] X.env)).any (·.1)=af:=by rfl)(d:(ca c2 (aN [] X.env)).any (·.1)=af:=by rfl):
  PE X (.Call (.Name "sorted" p) [.Call (.Name "set" p2) [e] [] c2] [] pos) (tSS X.K te):=by
 intro U s E H Q I h;refine iR (g8 I j n boot_sorted ?_);refine wA ?_ N v;refine iV (iR (g8 I m r boot_set ?_));refine jX ?_ h2 d;rw[h2];refine iV (thn (T U s E H _ I h) λu s1 q_=>?_);obtain⟨x,H1,c,r1,l,ns,J,hq,hb,i,q⟩:=q_;subst J;subst r1;refine aC ?_;obtain⟨B,rr,pl,hz⟩:=c.list hq;have A:=yI rr;have G:B.toArray.size=ns.length:=by rw[size_toArray,A.length]
 refine OH (c.ok.hd y) pl.isList (by simpa using A) (by rw[G];unfold k4;lia) λh' tk w keep htk=>?_;rw[G]at w;refine aC ?_;have lt:s1.heap.objs.size<h'.objs.size:=by obtain⟨o,_,_,_,Y,_⟩:=id w;exact bx Y
 refine OX (c.ok.hd y) w (by rw[<- OZ];exact i) λpp M f C ep out ns' a gp z L o1 o3 o4 o5=>?_;have en:=OY o3 o4 o5;subst en;refine⟨.ref pp,_,((c.laid (λb u g=>a _ _ (keep b u (bx g) g)) (cN (fj lt) gp) ?_).draws f),rfl,q pp (c.hok.fresh (cN (fj lt) gp))⟩;exact⟨by rw[ay,dq];lia,out.toList,ep,yH o1,by simpa using L⟩
abbrev iG:LD->Option (LI0)
 | []=>aa []
 |.int i::r=>(iG r).map (i::·)
 | _::_=>ab
def yJ:∀{ds:LD} {ns:LI0},iG ds=aa ns->ds=ns.map D.int
 | [],_,h=>by cases h;rfl
 |.int i::r,ns,h=>by
  replace h:(iG r).map _=aa ns:=h
  cases e:iG r with
  |none=>rw[e]at h;cases h
  |some m=>rw[e]at h;cases h;rw[yJ e];rfl
 |.non::_,_,h=>by cases h
 |.bl _::_,_,h=>by cases h
 |.str _::_,_,h=>by cases h
 |.lst _::_,_,h=>by cases h
 |.tup _::_,_,h=>by cases h
 |.kl _::_,_,h=>by cases h
 |.kt _::_,_,h=>by cases h
 |.dic _ _::_,_,h=>by cases h
 |.ins _ _ _::_,_,h=>by cases h
def yK:∀(ns:LI0),iG (ns.map D.int)=aa ns
 | []=>rfl
 |n::ns=>by show(iG _).map _=_;rw[yK ns];rfl
def yL{G:Gc}{H:Hp}:∀{ns:LI0} {vs:LVv},am G H (ns.map D.int) vs->vs=ns.map V.int
 | [],_,h=>h
 |n::ns,_,⟨v,r,e,h1,h2⟩=>by rw[e,show v=V.int n from h1,yL h2];rfl
abbrev mT(f:MF1)(M:LS):OLD:=(f M).bind λd=>(lsD d).bind λds=>(iG ds).bind λns=>if ns.length<4000/\(di ns).length<64 then aa ((di ns).map .int) else ab
def O1(I:X.calm=ac)(m:Gl X "sorted")(u:X.mg "sorted"=ab)(n:Gl X "set")(w:X.mg "set"=ab)(ha:DE c X e f)
 (G:aN [.Call (.Name "set" p2) [e] [] c2] X.env=(af,eval (.Call (.Name "set" p2) [e] [] c2) X.env)::aN [] X.env:=by rfl)(h2:aN [e] X.env=(af,eval e X.env)::aN [] X.env:=by rfl)
 (z:(ca pos (aN [] X.env)).any (·.1)=af:=by rfl)(b:(ca c2 (aN [] X.env)).any (·.1)=af:=by rfl):DO c X (.Call (.Name "sorted" p) [.Call (.Name "set" p2) [e] [] c2] [] pos) (mT f):=
 PE.imp (O0 I m u n w ha G h2 z b) λE H Q J=>by
  obtain⟨Hf0,H0,Hf,M,ds,st,a,k⟩:=J;unfold mT at a
  cases g:f M with
  |none=>rw[g]at a;nomatch a
  |some d=>
   rw[g]at a
   cases i:lsD d with
   |none=>rw[az,i]at a;nomatch a
   |some C=>
    rw[az,i]at a
    cases j:iG C with
    |none=>rw[az,j]at a;nomatch a
    |some ns=>
     rw[az,j,az]at a;split at a
     .rename_i A;cases a;refine⟨Hf0,H0,Hf,M,d,st,g,λv Hf' H' x r=>?_⟩;obtain⟨l,vs,el,q,L⟩:=lu i r;rw[yJ j]at L;have B:=yL L;subst B el;exact⟨l,ns,rfl,x.s.seq q,A.1,A.2,λpp y=>k pp _ Hf' _ (x.trans (Ext.tmp x.s y)) (x.h.free y) (x.s.free y) aZ (am.ints _)⟩
     .grind
abbrev jL(f g:MF1)(M:LS):OLD:=(f M).bind λx=>(g M).bind λy=>match x,y with
 |.lst a,.lst b=>if a.length+b.length<=16777216 then aa (a++b) else ab
 | _,_=>ab
def O2(h:jL f g M=aa ds):∃a b,f M=aa (.lst a)/\g M=aa (.lst b)/\a.length+b.length<=16777216/\ds=a++b:=by
 unfold jL at h
 cases c:f M with
 |none=>rw[c]at h;nomatch h
 |some x=>
  cases d:g M with
  |none=>rw[c,d]at h;nomatch h
  |some y=>
   grind
def yM{a:Expr}(ha:DE c X a f)(r:DE c X b g):DO c X (.BinOp a .Add b pos) (jL f g):=PE.imp (D4 Ex ha r) λE H Q A=>by
 obtain⟨Hf0,H0,Hf,M,ds,st,q,k⟩:=A;obtain⟨C,ys,j,n,w,rfl⟩:=O2 q;refine⟨Hf0,H0,Hf,M,_,st,j,λv b3 H1 i B=>⟨Hf0,H0,b3,M,_,st.step i,n,λu bm H2 d G=>?_⟩⟩;obtain⟨l,vs,el,y,s1⟩:=B.up d.f;obtain⟨m,us,em,z,s2⟩:=G;subst el em;have x:=i.trans d;exact⟨l,m,vs,us,rfl,rfl,d.s _ _ y,d.s _ _ z,by rw[dq,<- s1.length,<- s2.length];exact w,λp e=>k p _ bm _ (x.trans (Ext.tmp x.s e)) (x.h.free e) (x.s.free e) aZ (s1.append s2)⟩
abbrev wp(F:MF3)(M:LS)(K:Fl->Prop):Prop:=∃o,F M=aa o/\K o
abbrev Ga(F:MF3)(K:Fl->Prop):Fl->Prop
 |.nx M=>wp F M K
 |o=>K o
abbrev yN(J:LS->Prop)(K:Fl->Prop):Fl->Prop
 |.nx M=>J M
 |.ct M=>J M
 |.bk M=>K (.nx M)
 |o=>K o
abbrev uv(Q:D->Prop)(o:Fl):Prop:=∃d,Fv o=aa d/\Q d
variable{K:Fl->Prop}
def O3{F:MF3}{a:Fl->Prop}(h:wp F M K)(b:∀o,K o->a o):wp F M a:=by
 obtain⟨o,e,k⟩:=h;exact⟨o,e,b o k⟩
def ak{F F':MF3}(h:wp F M (Ga F' K)):wp (ai F F') M K:=by
 obtain⟨o,e,k⟩:=h;unfold wp ai;rw[e]
 cases o with
 |nx ρ'=>exact k
 | _=>exact⟨_,rfl,k⟩
def b5(h:K (.nx M)):wp bK M K:=⟨_,rfl,h⟩
def bn(h:f M=aa d)(k:K (.nx (M.set i (.im d)))):wp (aX i f) M K:=⟨_,Fz h,k⟩
def dM{f:MF2}{d:LD}(h:f M=aa d)(k:K (.nx (M.set i (.own d)))):wp (cJ i f) M K:=⟨_,NW h,k⟩
def eT(h:f M=aa d)(k:K (.rt d)):wp (be f) M K:=⟨_,dz h,k⟩
def jk{f:MF2}{d:LD}(h:f M=aa d)(k:K (.rtO d)):wp (cv f) M K:=⟨_,by unfold cv;rw[h];rfl,k⟩
def Gb{F:MF3}{o:Fl}(h:F M=aa o)(k:K o):wp F M K:=⟨_,h,k⟩
variable{b:Bool}
def aY{t:MF4}{F F':MF3}(h:t M=aa b)(c:b=ac->wp F M K)(a:b=af->wp F' M K):wp (bg t F F') M K:=by
 unfold wp bg;rw[h]
 cases b with
 |true=>exact c rfl
 |false=>exact a rfl
def lB{F:MF3}(e:yi i M=ρ')(h:wp F ρ' K):wp (eQ i F) M K:=by
 subst e;exact h
variable{C:LD}
def fS(h:f M=aa d)(h':M[i]?=aa (.own C))(a:C.length<16777216)(k:K (.nx (M.set i (.own (C++[d]))))):wp (c8 i f) M K:=⟨_,N6 h h' a,k⟩
def lC{k:Int}(hv:fv M=aa d)(c:fk M=aa (.int k))(h':M[i]?=aa (.own C))(a:0<=k)(b:k<C.length):gg i fk fv M=aa (.nx (M.set i (.own (C.set k.toNat d)))):=by
 have e:ixN C.length k=aa k.toNat:=by
  unfold ixN;rw[if_pos a,if_pos b]
 unfold gg;rw[hv,az,c,az,h'];show(ixN C.length k).map _=_;rw[e];rfl
def oX{k:Int}(hv:fv M=aa d)(c:fk M=aa (.int k))(h':M[i]?=aa (.own C))(a:0<=k)(b:k<C.length)(q:K (.nx (M.set i (.own (C.set k.toNat d))))):wp (gg i fk fv) M K:=⟨_,lC hv c h' a b,q⟩
def Ge{i:Type}{g:D->LS->Option LS}{F:MF3}{K:Fl->Prop}(f:i->D)(I:List i->LS->Prop):∀(post pre:List i) (M:LS),I pre M ->
  (∀b x e M,pre++post=b++x::e->I b M->∃ρ1,g (f x) M=aa ρ1/\wp F ρ1 (yN (I (b++[x])) K))->(∀ρ',I (pre++post) ρ'->K (.nx ρ'))->wp (iB g F (post.map f)) M K
 | [],pre,M,h,_,hk=>⟨_,rfl,hk M (by rw[bP];exact h)⟩
 |x::post,pre,M,h,hs,hk=>by
  obtain⟨ρ1,j,o,l,c⟩:=hs pre x post M rfl h;unfold wp;rw[bF];unfold iB;rw[j,az,l,az]
  have go:=λa h2=>
   Ge f I post (pre++[x]) a h2 (by rw[cG];exact hs) (by rw[cG];exact hk)
  cases o with
  |nx a=>exact go a c
  |ct a=>exact go a c
  |bk a=>exact⟨_,rfl,c⟩
  |rt d=>exact⟨_,rfl,c⟩
  |rtO d=>exact⟨_,rfl,c⟩
  |rtS d a=>exact⟨_,rfl,c⟩
  |rtT o=>exact⟨_,rfl,c⟩
def dC{a:Type}{g:D->LS->Option LS}{F:MF3}(C:List a)(f:a->D)(I:List a->LS->Prop)(hi:fi M=aa (C.map f))(b:I [] M)
 (d:∀pre x post M,C=pre++x::post->I pre M->∃ρ1,g (f x) M=aa ρ1/\wp F ρ1 (yN (I (pre++[x])) K))(c:∀ρ',I C ρ'->K (.nx ρ')):wp (bZ fi g F) M K:=by
 obtain⟨o,e,k⟩:=Ge f I C [] M b d c;refine⟨o,?_,k⟩;unfold bZ;rw[hi];exact e
def qY{t:MF4}{F:MF3}{K:Fl->Prop}(I:Nat->LS->Prop)(g:∀m M,I m M->∃b,t M=aa b/\(b=ac->wp F M (yN (λρ'=>∃f,f<m/\I f ρ') K))/\(b=af->K (.nx M))):
  ∀(n m:Nat) (M:LS),I m M->m<n->wp (da t F n) M K
 | 0,m,M,_,h=>absurd h (ik _)
 |n+1,m,M,h,hn=>by
  obtain⟨b,e,l,j⟩:=g m M h;unfold wp;unfold da;rw[e,az]
  cases b with
  |false=>exact⟨_,rfl,j rfl⟩
  |true=>
   obtain⟨o,i,c⟩:=l rfl;rw[i,az]
   have go:∀a,(∃f,f<m/\I f a)->wp _ a K:=λa q=>by
    obtain⟨f,hm,h2⟩:=q;exact qY I g n f a h2 (by lia)
   cases o with
   |nx a=>exact go a c
   |ct a=>exact go a c
   |bk a=>exact⟨_,rfl,c⟩
   |rt d=>exact⟨_,rfl,c⟩
   |rtO d=>exact⟨_,rfl,c⟩
   |rtS d a=>exact⟨_,rfl,c⟩
   |rtT o=>exact⟨_,rfl,c⟩
variable{Q:D->Prop}
def lD{F:MF3}(h:wp F (fP n ds) (uv Q)):∃d,aP n F ds=aa d/\Q d:=by
 obtain⟨o,e,d,e',q⟩:=h;refine⟨d,?_,q⟩;unfold aP;rw[e];exact e'
def jM{F:MF3}{r:D}(h:wp F (fP n ds) (uv λd=>d=r)):aP n F ds=aa r:=by
 obtain⟨d,e,q⟩:=lD h;rw[e,q]
def fB(h:Q d):uv Q (.rt d):=⟨d,rfl,h⟩
def jN{d:LD}(h:Q (.lst d)):uv Q (.rtO d):=⟨.lst d,rfl,h⟩
def lE{t:MF4}{r:OD}(h:t M=aa b)(c:b=ac->f M=r)(a:b=af->g M=r):vIf t f g M=r:=by
 unfold vIf
 grind
variable{i j:Int}
def b8(h:0<j):bJ (.int i) (.int j)=aa (.int (i % j)):=ui h
def lF(h:qo i j):ke (.int i) (.int j)=aa (.int (i / j)):=ui h
def uw(h:mD i j):qB (.int i) (.int j)=aa (.int (i ^ j.toNat)):=ui h
def gh:d7 (.int i) (.int j)=aa (.int (i+j)):=rfl
def lG:kc (.int i) (.int j)=aa (.int (i-j)):=rfl
def qZ:dLt (.int i) (.int j)=aa (.bl (decide (i<j))):=rfl
def yO:dLe (.int i) (.int j)=aa (.bl (decide (i<=j))):=rfl
def mU:dGt (.int i) (.int j)=aa (.bl (decide (j<i))):=rfl
def Gf:dGe (.int i) (.int j)=aa (.bl (decide (j<=i))):=rfl
def d9{a:Type}(C:List a)(f:a->D):cu [.lst (C.map f)]=aa (.int C.length):=by
 show aa _=_;rw[ay]
def Gg{a:Type}(C:List a)(f:a->D):cu [.kl (C.map f)]=aa (.int C.length):=by
 show aa _=_;rw[ay]
def Gh{a:Type}(f:a->D)(C:List a)(lo hi:Option Int):qF (C.map f) lo hi=((C.drop (HT.sIx C.length 0 lo)).take (HT.sIx C.length C.length hi-HT.sIx C.length 0 lo)).map f:=by
 unfold qF
 simp_all
variable{lo hi:Option Int}
def oY{a:Type}{l h:LS->Option (Option Int)}{g:a->D}{C:List a}(e:f M=aa (.lst (C.map g)))(b:l M=aa lo)(c:h M=aa hi):mSl f l h M=aa (((C.drop (HT.sIx C.length 0 lo)).take (HT.sIx C.length C.length hi-HT.sIx C.length 0 lo)).map g):=by
 unfold mSl;rw[e,az];show(l M).bind _=_;rw[b,az,c,<- Gh];rfl
def Gi{a:Type}{l h:LS->Option (Option Int)}{g:a->D}{C:List a}(e:f M=aa (.kl (C.map g)))(b:l M=aa lo)(c:h M=aa hi):mSl f l h M=aa (((C.drop (HT.sIx C.length 0 lo)).take (HT.sIx C.length C.length hi-HT.sIx C.length 0 lo)).map g):=by
 unfold mSl;rw[e,az];show(l M).bind _=_;rw[b,az,c,<- Gh];rfl
def O4{a:Type}(f:a->Bool)(C:List a):(C.map λx=>D.bl (f x))=(C.map f).map D.bl:=by
 rw[map_map];rfl
abbrev kJ(J:LS->Prop)(o:Fl):Prop:=∃ρ',o=.nx ρ'/\J ρ'
def k_J{J:LS->Prop}(h:J M):kJ J (.nx M):=⟨M,rfl,h⟩
def ux{S F:MF3}(J:LS->Prop)(h:wp S M (kJ J))(k:∀ρ',J ρ'->wp F ρ' K):wp (ai S F) M K:=by
 apply ak;obtain⟨o,e,ρ',rfl,j⟩:=h;exact⟨_,e,k ρ' j⟩
def O5{i:Nat}(h:M[i]?=aa (.im d))(k:K (.rt d)):wp (fw i) M K:=⟨_,by unfold fw;rw[h],k⟩
def mV{i:Nat}{d:LD}(h:M[i]?=aa (.own d))(k:K (.rtO d)):wp (fw i) M K:=⟨_,by unfold fw;rw[h],k⟩
abbrev D.flat:D->Bool
 |.tup C=>C.all D.scalar
 |d=>d.scalar
abbrev lH(Hf H:Hp):Hp:=λa=>match H a with
 |some (.tup vs)=>aa (.tup vs)
 | _=>Hf a
def yP(h:H a=aa (.tup vs)):lH Hf H a=aa (.tup vs):=by
 unfold lH;rw[h]
def oZ(h:∀vs,H a≠aa (.tup vs)):lH Hf H a=Hf a:=by
 unfold lH
 grind
def yQ(s:aq Hf H)(g:aq H H'):Ext Hf H (lH Hf H') H':=by
 refine⟨λb u e=>?_,g,λb u e=>?_,λl o e t=>oZ λvs q=>?_⟩
 .have e':=g b u (s b u e)
  cases u with
  |tup vs=>exact yP e'
  | _=>
   rw[oZ (λvs q=>by rw[e']at q;nomatch q)];exact e
 .by_cases h:∃vs,H' b=aa (.tup vs)
  .obtain⟨vs,h⟩:=h;rw[yP h]at e;rw[h];exact e
  .rw[oZ (λvs q=>h ⟨vs,q⟩)]at e;exact g b u (s b u e)
 .rw[g l o e]at q;cases q
  nomatch t
def am.sc{G:Gc}{H H':Hp}:∀{ds:LD} {vs:LVv},ds.all D.scalar=ac->am G H ds vs->am G H' ds vs
 | [],_,_,h=>h
 |d::ds,_,hs,q3_=>by
  obtain⟨v,r,e,a,h2⟩:=q3_;rw[l7,cL]at hs;exact⟨v,r,e,a.sc hs.1,am.sc hs.2 h2⟩
variable{G:Gc}
def Rep.flat(b:d.flat=ac)(r:Rep G H d v):Rep G (lH Hf H) d v:=by
 cases d with
 |tup C=>
  obtain⟨a,vs,e,h,q⟩:=r
  exact⟨a,vs,e,yP h,q.sc b⟩
 |non=>exact r.sc b
 |bl _=>exact r.sc b
 |int _=>exact r.sc b
 |str _=>exact r.sc b
 |lst _=>nomatch b
 |kl _=>nomatch b
 |kt _=>nomatch b
 |dic _ _=>nomatch b
 |ins _ _ _=>nomatch b
 |kd _ _=>nomatch b
 |dT _ _=>nomatch b
variable{f:Addr}
def Gj{k:Nat}(pk:Pk X.prog X.w X.K X.mg X.base CX0 k x (f,fd) ps (spD (Gx c X) ps.length m))(l:bu k0 X.A)(ha:DAB c X (e::es) fa)(C:(e::es).length=ps.length:=by rfl)(a:NDb x:=by decide)(z:StE X e es:=by rfl)(j:BkE X pos es:=by rfl)(i:k<=k0:=by decide)(B:Gl X x:=by first |rfl |exact glc rfl):
  DB c X @8 (av m fa):=PE.imp (qv pk.ok (l.mono i) B pk.g pk.kp pk.b .nil gB ha.pa a z j) λE H Q I=>by
 obtain⟨Hf0,H0,Hf,M,d,st,y,G⟩:=I;obtain⟨ds,n,u⟩:=x6 y;refine⟨Hf0,H0,Hf,M,ds,st,n,λvs Hf' H' x r=>?_⟩;rw[bP];exact⟨H',ds,d,aq.refl _,r,(ha.len M ds n).trans C,u,λv bm H2 q J=>G v Hf' H2 (x.trans (Ext.grow x.s q.h)) (J.up q.s)⟩
abbrev o7(m:LD->OLD)(f:MF2)(M:LS):OLD:=(f M).bind λds=>(m ds).bind λL=>if L.all D.flat then aa L else ab
def am.flat{G:Gc}{Hf H:Hp}:∀{ds:LD} {vs:LVv},ds.all D.flat=ac->am G H ds vs->am G (lH Hf H) ds vs
 | [],_,_,h=>h
 |d::ds,_,hs,q3_=>by
  obtain⟨v,r,e,a,h2⟩:=q3_;rw[l7,cL]at hs;exact⟨v,r,e,a.flat hs.1,am.flat hs.2 h2⟩
def O6{k:Nat}{m:LD->OLD}(pk:Pk X.prog X.w X.K X.mg X.base CX0 k x (f,fd) ps (spO (Gx c X) ps.length m))(y:bu k0 X.A)(ha:DAB c X (e::es) fa)(G:(e::es).length=ps.length:=by rfl)(n:NDb x:=by decide)(B:StE X e es:=by rfl)(v:BkE X pos es:=by rfl)(u:k<=k0:=by decide)(C:Gl X x:=by first |rfl |exact glc rfl):
  DO c X @8 (o7 m fa):=PE.imp (qv pk.ok (y.mono u) C pk.g pk.kp pk.b .nil gB ha.pa n B v) λE H Q N=>by
 obtain⟨Hf0,H0,Hf,M,L,st,a,J⟩:=N;unfold o7 at a
 cases i:fa M with
 |none=>rw[i]at a;nomatch a
 |some ds=>
  rw[i,az]at a
  cases j:m ds with
  |none=>rw[j]at a;nomatch a
  |some U=>
   rw[j,az]at a;split at a
   .rename_i I;cases a;refine⟨Hf0,H0,Hf,M,ds,st,i,λvs Hf' H' x r=>?_⟩;rw[bP];exact⟨H',ds,_,aq.refl _,r,(ha.len M ds i).trans G,j,λl us bm H2 z hn Y d T=>J l us _ H2 (x.trans (yQ x.s z.h)) (x.h.free hn) (by rw[oZ (λvs q=>by rw[d]at q;nomatch q)];exact x.s.free hn) d ((T.up z.s).flat I)⟩
   .nomatch a
def uz{m:LD->OLD}{f:MF2}(h:f M=aa ds)(h':m ds=aa L):ki m f M=aa L:=by
 unfold ki;rw[h,az,h']
def mW{F:MF3}(h:F (fP n ds)=aa (.rtO L)):jb n F ds=aa L:=by
 unfold jb;rw[h];rfl
abbrev mY(ns:LI0):LI0:=ns.mergeSort λa b=>decide (a<=b)
abbrev tSL(K:aQ)(te:TE):TE:=λE H Q=>te E H λx H1=>∃l ns,x=.ref l/\SqL K H1 l (ns.map V.int)/\ns.length<64/\∀p,H1 p=ab->Q (.ref p) (upd H1 p (.lst ((mY ns).map V.int)))
def yR(ns:LI0):(mY ns).Perm ns:=mergeSort_perm _ _
def Gk(ns:LI0):(mY ns).Pairwise (·<=·):=(pairwise_mergeSort (λa b c=>by simp only[decide_eq_true_iff];lia) (λa b=>by simp only[kH,decide_eq_true_iff];lia) ns).imp of_decide_eq_true
def O7(p:out.Perm ns)(c:out.Pairwise (·<=·)):out=mY ns:=List.Perm.eq_of_pairwise (λa b _ _=>Int.le_antisymm) c (Gk ns) (p.trans (yR ns).symm)
def O8(nd:ns.Nodup):mY ns=di ns:=yG _ _ (List.Pairwise.imp₂ (λa b c h2=>(Int.lt_iff_le_and_ne.mpr ⟨c,h2⟩)) (Gk ns) ((yR ns).nodup_iff.mpr nd)) (lA _) λk=>by rw[ji];exact(yR ns).mem_iff
def O9(d:Gl X "sorted")(f:X.mg "sorted"=ab)(v:PE X e te)(j:aN [e] X.env=(af,eval e X.env)::aN [] X.env:=by rfl)(i:(ca pos (aN [] X.env)).any (·.1)=af:=by rfl):
  PE X (.Call (.Name "sorted" p) [e] [] pos) (tSL X.K te):=by
 intro U s E H Q I h;refine iR (g8 I d f boot_sorted ?_);refine wA ?_ j i;rw[j];refine iV (thn (v U s E H _ I h) λu s1 A=>?_);obtain⟨x,H1,a,C,l,ns,n,w,c,q⟩:=A;subst n;subst C;refine aC ?_;obtain⟨B,G,pl,hz⟩:=a.list w;have m:=yI G;refine sorted_ints pl.isList m (by rw[m.length];exact c) λout y o1 o2 z=>?_;obtain⟨ep,r⟩:=sortedAll_at s1.heap B out;have en:=O7 o2 z;subst en;have J:=o2.length_eq;exact⟨.ref _,_,(a.laid (o:=.lst _) (λb u g=>sortedAll_old g) (jW _) ⟨by rw[ay,dq];lia,out.toList,ep,yH o1,by simpa using r⟩),rfl,q _ (a.hok.fresh (jW _))⟩
abbrev lI(f:MF1)(M:LS):OLD:=(f M).bind λd=>(lsD d).bind λds=>(iG ds).bind λns=>if ns.length<64 then aa ((mY ns).map .int) else ab
variable{f:MF1}
def Pa(w:X.calm=ac)(j:Gl X "sorted")(m:X.mg "sorted"=ab)(ha:DE c X e f)
 (z:aN [e] X.env=(af,eval e X.env)::aN [] X.env:=by rfl)(u:(ca pos (aN [] X.env)).any (·.1)=af:=by rfl):DO c X (.Call (.Name "sorted" p) [e] [] pos) (lI f):=
 PE.imp (O9 j m ha z u) λE H Q B=>by
  obtain⟨Hf0,H0,Hf,M,ds,st,a,k⟩:=B;unfold lI at a
  cases b:f M with
  |none=>rw[b]at a;nomatch a
  |some d=>
   rw[b]at a
   cases g:lsD d with
   |none=>rw[az,g]at a;nomatch a
   |some C=>
    rw[az,g]at a
    cases i:iG C with
    |none=>rw[az,i]at a;nomatch a
    |some ns=>
     rw[az,i,az]at a;split at a
     .rename_i A;cases a;refine⟨Hf0,H0,Hf,M,d,st,b,λv Hf' H' x r=>?_⟩;obtain⟨l,vs,el,q,L⟩:=lu g r;rw[yJ i]at L;have y:=yL L;subst y el;exact⟨l,ns,rfl,x.s.seq q,A,λpp n=>k pp _ Hf' _ (x.trans (Ext.tmp x.s n)) (x.h.free n) (x.s.free n) aZ (am.ints _)⟩
     .grind
def Pb(h:f M=aa (.lst (ns.map D.int)))(a:ns.length<64):lI f M=aa ((mY ns).map D.int):=by
 unfold lI;rw[h,az];show(iG _).bind _=_;rw[yK,az,if_pos a]
def Pc(h:f M=aa (.lst (ns.map D.int)))(a:ns.length<64)(h2:ns.Nodup):lI f M=aa ((di ns).map D.int):=by rw[Pb h a,O8 h2]
def Gm{k:Int}(h:k.natAbs<2 ^ n):sZ k<=n:=by
 unfold sZ;split
 .exact cg _
 .rename_i a;have:k.natAbs≠0:=λz=>a (by rw[Int.natAbs_eq_zero.mp z];rfl);exact(Nat.log2_lt this).mpr h
abbrev mZ(i j:Int):Prop:=qp i j\/(i.natAbs<2 ^ 200/\j.natAbs<2 ^ 200)
def mZ.ok(h:mZ i j):IntMulOk i j:=by
 rcases h with h |⟨h1,h2⟩
 .exact h.ok
 .have a:=Gm h1;have b:=Gm h2;unfold IntMulOk
  have:eK.Int.intTooBig (sZ i+sZ j)=af:=by
   have c:400<=bitsLine:=by decide
   exact decide_eq_false (by lia)
  rw[this,Bool.and_false];exact bO
noncomputable instance {i j:Int}:Decidable (mZ i j):=by unfold mZ;infer_instance
nonrec def lJ:D->D->OD:=dI mZ λi j=>.int (i*j)
def Pd:OpR X (fJ .Mult) (rI mZ λi j=>.int (i*j)):=opI λ_ _ _ _ _ _ _ a q=>mul_int q a.ok
def Pe:OpD c X (fJ .Mult) lJ:=tU Pd λ_ _ _ _=>rfl
def o8(h:mZ i j):lJ (.int i) (.int j)=aa (.int (i*j)):=ui h
set_option maxRecDepth 100000
def q5:Slot "list_reverseiterator" "__next__" "list_reverseiterator.__next__":=Slot.of (n:="__next__") (owner:="list_reverseiterator")
 (by rw[j5,jZ];kernel_rfl) (by decide +kernel) (by decide +kernel) (by decide +kernel) (by first |exact bX (by decide +kernel) |grind) (by rw[ma];kernel_rfl)
def Gn:Slot "list_reverseiterator" "__iter__" "list_reverseiterator.__iter__":=Slot.of (n:="__iter__") (owner:="list_reverseiterator")
 (by rw[j5,jZ];kernel_rfl) (by decide +kernel) (by decide +kernel) (by decide +kernel) (by first |exact bX (by decide +kernel) |grind) (by rw[ma];kernel_rfl)
def Go:mj table "list_reverseiterator.__next__"=aa eK.«list_reverseiterator.__next__»:=by exact entryFor_of_fast (by kernel_rfl)
def Pf:mj table "list_reverseiterator.__iter__"=aa eK.«dict_keyiterator.__iter__»:=by exact entryFor_alias (id':="dict_keyiterator.__iter__") (by kernel_rfl) rfl (by decide +kernel) (by kernel_rfl)
def Gp(v:Value):argsOk "list_reverseiterator.__next__" ⟨[v],[]⟩:=by(unfold argsOk;kernel_rfl)
def Pg(v:Value):argsOk "list_reverseiterator.__iter__" ⟨[v],[]⟩:=by(unfold argsOk;kernel_rfl)
abbrev fT(h:Heap)(it l:Addr)(j:Int):Prop:=∃o,h.get? it=aa o/\o.cls=.type "list_reverseiterator" /\ o.data=.fields #[.ref l,ci j]
def fT.ty(h:fT s.heap it l j):s.TypeIs (.ref it) "list_reverseiterator":=by
 obtain⟨o,e,c,_⟩:=h;exact⟨o,e,c⟩
def uA{Q:PRS}(hr:fT s.heap it l j)(h:Q (.ref it) s):wpAny (model P w) A (pyIter (.ref it)) Q V4 s:=by
 exact wpAny_pyIter_slot hr.ty Gn (jA Gn hr.ty Pf (aC ⟨eM it,rfl,"list_reverseiterator",_,hr.ty,q5.lookup,h⟩) (Pg _))
variable{B:Array Value}
def Gq{j:Nat}{x:Value}{Q:Option Value->ah->Prop}(hr:fT s.heap it l j)(e:s.heap.IsList l B)(f:B[j]?=aa x)
 (c:∀h',fT h' it l ((j:Int)-1)->f9 it s.heap h'->Q (aa x) {s with heap:=h'}):wpAny (model P w) A (g4 (.ref it)) Q V4 s:=by
 obtain⟨o,a,d,hd⟩:=id hr;obtain⟨o2,h2,_,g,b⟩:=e;refine aj (oa (nY hr.ty q5 (jA q5 hr.ty Go ?_ (Gp _))));show wpAny _ _ (field _ 1 >>= _) _ _ s;refine aj (wpAny_field a hd rfl ?_);refine aj (wpAny_field a hd rfl ?_);refine aj (sY h2 b ?_);simp only[dE,f];refine aj (wpAny_setField a hd (by simp) (aC ⟨x,rfl,aC (c _ ?_ (oi ..))⟩));refine⟨_,oh _ a (Obj.isFreed_of_fields (Obj.data_mapFields hd _)),(Obj.cls_mapFields ..).trans d,?_⟩;rw[Obj.data_mapFields hd];rfl
def Gr(d:j<0){Q:Option Value->ah->Prop}(c:A.handled=ab)(hr:fT s.heap it l j)
 (a:∀h',Heap.ExtBut it s.heap h'->Q ab {s with heap:=h'}):wpAny (model P w) A (g4 (.ref it)) Q V4 s:=by
 obtain⟨o,f,h,hd⟩:=id hr;refine aj (oa (nY hr.ty q5 (jA q5 hr.ty Go ?_ (Gp _))));show wpAny _ _ (field _ 1 >>= _) _ _ s;refine aj (wpAny_field f hd rfl ?_);show wpAny _ _ (if j<0 then _ else _) _ _ s;rw[if_pos d];refine aj (kZ ?_);refine aj ?_;show wpAny _ _ _ _ _ _;refine aj ?_;simp only[newTuple]
 refine aj (iS ?_ (by size_fits));refine aj (qm (by first |rfl |(simp only[qk];rfl)) ?_)
 refine iS ?_ (by size_fits);simp only[raiseNew];refine aj (wpAny_handled ?_);rw[show A.in1.handled=ab from c];refine aj (aC (wpAny_throw ?_));refine aj (qj ⟨_,cP _ rfl,rfl⟩ isSubtype_stop ?_);exact aC (a _ λb u g e=>(bw _ (bw _ e)))
def Ph{T n a:String}{m:eK}{args:LVa}{S:JP}{Q:PRS}{c:Value}{tl:LVa}
 (y:(j6 T==j6 "type")=af)(z:((Manifest.find? T).bind (·.mro.findSome? λt=>(Manifest.find? t).bind λb=>if b.noNew then aa ac else if b.attrs.any (·.1 == "__new__") then aa af else ab)).getD af=af)
 (p:mroOf (.type T)=pure (c::tl))(l:Bind.madeBy (.type T)=pure (aa a))(f:plainId a=ac)(q:isSubtype (.type n) (.type T)=pure af)
 (u:checkTypeCall T ⟨args,[]⟩=pure ())(j:checkBuiltinCall a ⟨.type T::args,[]⟩=pure ())(d:mj table a=aa m)(g:Meets (m ⟨.type T::args,[]⟩) S)
 (h:S A.in1 (wants (λobj i=>i.TypeIs obj n/\Q obj i) V4) s):wpAny (model P w) A (call (.type T) args) Q V4 s:=by
 refine wpAny_call (codeAny_of_tree ?_);show wpAny _ _ _ _ _ _;refine aC ⟨Code.quiet_builtin _ (by decide +kernel),j4 F.entry_type_call ?_⟩;simp only[b6.under_plain (weight_type_call_type T args []) (units_type_call_type T args [])]
 repeat (any_goals (first |assumption |wp_step))
 refine kX (wB f d (qm j (g P w A.in1 _ s h))) λr s1 hr=>?_
 cases r with
 |error e=>exact hr
 |ok fl=>
  cases fl with
  |ret obj=>
   obtain⟨v,x⟩:=hr
   repeat (any_goals (first |assumption |wp_step))
  | _=>exact hr.elim
def Gu:mroOf (.type "reversed")=pure [.type "reversed",.type "object"]:=by(rw[mroOf_type];kernel_rfl)
def Pi:mh (.type "reversed") "__new__"=pure (aa (.builtin "reversed.__new__")):=by(rw[j5,jZ];kernel_rfl)
def Pj:Bind.madeBy (.type "reversed")=pure (aa "reversed.__new__"):=madeBy_type Gu Pi (by decide +kernel)
def Pl:isSubtype (.type "list_reverseiterator") (.type "reversed")=pure af:=by(rw[ma];kernel_rfl)
def Pn:mj table "reversed.__new__"=aa eK.«reversed.__new__»:=by exact entryFor_of_tree (by kernel_rfl)
def Gv:jC "reversed"=aa (.type "reversed"):=by kernel_rfl
def Po:mh (.type "list") "__reversed__"=pure (aa (.builtin "list.__reversed__")):=by(rw[j5,jZ];kernel_rfl)
def Pp(l:Addr)(B:Array Value)(n:Nat)(dc:Option Addr)(sl:Array (Option Value)):Meets (eK.«list.__reversed__» ⟨[.ref l],[]⟩) (λ_ R s=>s.heap.get? l=aa {cls:=.type "list",dict:=dc,data:=.seq B n,slots:=sl}/\R (.ok (.ret (.ref s.heap.objs.size))) {s with heap:=s.heap.push {cls:=.type "list_reverseiterator",data:=.fields #[.ref l,ci (((B.size:Nat):Int)-1)]}}):=
 .of_wp λprog w A R s h=>by
  obtain⟨a,h⟩:=h
  wp_walk
  exact⟨_,rfl,h⟩
def Pq(l:Addr)(B:Array Value)(n:Nat)(dc:Option Addr)(sl:Array (Option Value)):Meets (eK.«reversed.__new__» ⟨[.type "reversed",.ref l],[]⟩) (λ_ R s=>s.heap.get? l=aa {cls:=.type "list",dict:=dc,data:=.seq B n,slots:=sl}/\R (.ok (.ret (.ref s.heap.objs.size))) {s with heap:=s.heap.push {cls:=.type "list_reverseiterator",data:=.fields #[.ref l,ci (((B.size:Nat):Int)-1)]}}):=
 .of_wp λprog w A R s h=>by
  obtain⟨a,g,d,b,os⟩:=s;obtain⟨e,h⟩:=h;have j:=Po;have f:isSubtype (.type "reversed") (.type "reversed")=pure ac:=by(rw[ma];kernel_rfl)
  have i:tj ⟨a,g,d,b,os⟩ (.ref l) "list":=⟨_,e,rfl⟩;have m:=wI.bind (eM l)
  repeat (any_goals (first |assumption |wp_step))
  have step:gx _ A.in1 _ (λr c=>r=.ok _/\c=⟨a.push {cls:=.type "list_reverseiterator",data:=.fields #[.ref l,ci _]},g,d,b,os⟩) ⟨a,g,d,b,os⟩:=
   wB wI.plain PySem.F.entry_list_reversed (wI.check _ _ _ _ _ _ _ _ i (PySem.F.args_list_reversed_1 _) (Pp l B n dc sl prog w A.in1 (λr c=>r=.ok (.ret (.ref a.objs.size))/\c=⟨a.push {cls:=.type "list_reverseiterator",data:=.fields #[.ref l,ci (((B.size:Nat):Int)-1)]},g,d,b,os⟩) ⟨a,g,d,b,os⟩ ⟨e,rfl,rfl⟩))
  refine kX step λr s1 hr=>?_;obtain⟨rfl,rfl⟩:=hr;exact aC ⟨_,rfl,h⟩
def Gw{Q:PRS}(d:s.heap.IsList l B)
 (h:∀h',fT h' s.heap.objs.size l (((B.size:Nat):Int)-1)->(∀b o,s.heap.get? b=aa o->h'.get? b=aa o)->Q (.ref s.heap.objs.size) {s with heap:=h'}):wpAny (model P w) A (call (.type "reversed") [.ref l]) Q V4 s:=by
 obtain⟨⟨c,a,dt,sl⟩,g,f,n,hd⟩:=d;subst f hd;have i:fT (s.heap.push {cls:=.type "list_reverseiterator",data:=.fields #[.ref l,ci _]}) s.heap.objs.size l ((B.size:Int)-1):=⟨_,cP _ rfl,rfl,rfl⟩;exact Ph (rfl) (by decide +kernel) Gu Pj (by decide +kernel) Pl (by kernel_rfl) (by kernel_rfl) Pn (Pq l B n a sl) ⟨g,⟨⟨_,cP _ rfl,rfl⟩,h _ i λb o e=>bw _ e⟩⟩
abbrev Itv(K:aQ)(l:Addr)(n:Nat):It:=
  ⟨λi H=> ∃C x, SqL K H l C/\C.length = n/\C.reverse[i]? = aa x,
   λi H v H'=> H' = H/\∀C, SqL K H l C->C.reverse[i]? = aa v,
   λi H=> n<=i⟩
def fT.stay(q:fT h it l j)(k:∀o,h.get? it=aa o->h'.get? it=aa o):fT h' it l j:=by
 obtain⟨o,e,c,d⟩:=q;exact⟨o,k o e,c,d⟩
def Ps{K:aQ}(l it:Addr)(n:Nat):j9 P w K tg (Itv K l n) [it] it (λi h=>fT h it l ((n:Int)-1-(i:Int))) where
 mem:=by simp
 obj:=λi h st b hb=>by
  have e:b=it:=by simpa using hb
  rw[e];obtain⟨o,e1,c,d⟩:=st;exact⟨o,e1,λv z=>by rw[d]at z;nomatch z⟩
 keep:=λi h h' st k=>st.stay λo e=>k it (by simp) o e
 item:=by
  intro X hP hw hK hc i U s E H V4 I hf st hg;subst hP hw hK;obtain⟨C,x,hq,hn,hx⟩:=hg;obtain⟨B,rv,p,hz⟩:=I.list hq
  have hi:i<C.length:=by
   have:=(cU.mp hx).1
   simpa using this
  have hx':C[n-1-i]?=aa x:=by
   rw[List.getElem?_reverse hi]at hx;rw[<- hn];exact hx
  obtain⟨u,hu,ru⟩:=rv.get hx';obtain⟨f0,f1,f2,f3,f4,f5⟩:=hf it (by simp);have ej:(n-1-i)=((n-1-i:Nat):Int):=by lia
  rw[ej]at st;refine Gq st p.isList (by simpa using hu) λh' eh sb=>?_;have e2:((n-1-i:Nat):Int)-1=n-1-((i+1:Nat):Int):=by lia
  rw[e2]at eh;obtain⟨o,e,c,d⟩:=id eh;exact⟨u,rfl,tB e c d (rfl) ⟨x,H,(I.turned (λb o hb e=>(sb.2 b hb).trans e) f0 f1 f3 f4 f5),ru,⟨rfl,λys hy=>by rw[I.list_inj hy hq];exact hx⟩,eh,λb hb=>(hf b hb).1⟩⟩
 done:=by
  intro X hP hw hK hc i U s E H V4 I hf st hg;have hg:n<=i:=hg;obtain⟨f0,f1,f2,f3,f4,f5⟩:=hf it (by simp);exact Gr (by lia) (I.ok.hd hc) st λh' eb=>⟨rfl,I.turned (λb o hb e=>eb b o hb e) f0 f1 f3 f4 f5⟩
 self:=λ_ _ _ _ _ st h=>uA st h
abbrev Pt(K:aQ)(ta:TA):TI:=λE H R=>ta E H λvs H1=>∃l C,vs=[.ref l]/\SqL K H1 l C/\R (Itv K l C.length) H1
variable{a:Expr}
def Pu(n:Gl X "reversed")(hm:X.mg "reversed"=ab)(ha:PA X [a] ta)(r:aN [a] X.env=[(af,eval a X.env)]:=by rfl):PI X tg (.Call (.Name "reversed" p) [a] [] pos) (Pt X.K ta):=by
 intro U s E H R I h;refine Call_ (g8 I n hm Gv (jX (thn (ha pos U s E H _ I h) λus s1 w=>?_) (by rw[r];rfl) (by rfl)));obtain⟨vs,H1,c,d,l,C,e,j,q⟩:=w;subst e;obtain⟨u,rfl,ru⟩:=mE d;subst ru;obtain⟨f,d,v,y⟩:=c.list j;have x:=d.length;refine Gw v.isList λh' g i=>?_;refine uA g ?_;refine⟨_,_,_,_,H1,rfl,c.kept i,Ps l _ C.length,?_,λb m=>?_,q⟩
 .grind
 .have e:b=s1.heap.objs.size:=by simpa using m
  rw[e];exact c.fpOk (aM _) (c.hok.fresh (aM _))
abbrev yS:LD->OLD
 | [x]=>(lsD x).map List.reverse
 | _=>ab
abbrev lK(f:MF2)(M:LS):OLD:=(f M).bind yS
variable{f:MF2}
def Pw(G:Gl X "reversed")(hm:X.mg "reversed"=ab)(ha:DA c X [a] f)(I:aN [a] X.env=[(af,eval a X.env)]:=by rfl):DI c X tg (.Call (.Name "reversed" p) [a] [] pos) (lK f):=
 PI.imp (Pu G hm ha.pa I) λE H R L=>by
  obtain⟨Hf0,H0,Hf,M,ds,st,b,k⟩:=L;unfold lK at b
  cases g:f M with
  |none=>rw[g]at b;nomatch b
  |some as=>
   rw[g]at b;replace b:yS as=aa ds:=b;refine⟨Hf0,H0,Hf,M,as,st,g,λvs Hf' H' x r=>?_⟩;unfold yS at b;split at b
   .rename_i dx
    cases ex:lsD dx with
    |none=>rw[ex]at b;nomatch b
    |some C=>
     rw[ex]at b;cases b;obtain⟨v,B,rv⟩:=r.one;obtain⟨J,e,h,n,w⟩:=lu ex rv;subst h;refine⟨J,e,B,x.s.seq n,k _ Hf' H' x λbm H2 f2 s2 i=>?_⟩;have m:=(f2.trans s2).seq n;have T:=w.length;refine⟨λd y=>?_,λA=>?_⟩
     .obtain⟨u,l,ru⟩:=w.reverse.get y;refine⟨⟨e,u,m,rfl,l⟩,λz Q q=>?_⟩;obtain⟨rfl,N⟩:=q;have j:=N e m;rw[l]at j;cases j;exact⟨bm,Ext.refl s2,ru.up f2⟩
     .rw[ie]at A;show e.length<=i
      lia
   .nomatch b
def Px{a:Type}{g:a->D}{C:List a}(h:f M=aa [.lst (C.map g)]):lK f M=aa (C.reverse.map g):=by
 unfold lK;rw[h];show aa (C.map g).reverse=_;simp
inductive tDX(G:Gc)(f:LS->Option (D×LS))(E:St)(H:Hp)(Q:VK):Prop
 |mk:∀Hf0 H0 Hf M d ρ',ar G Hf0 H0 Hf H E M->f M=aa (d,ρ')->(∀v Hf' H',aq Hf Hf'->ar G Hf0 H0 Hf' H' E ρ'->Rep G Hf' d v->Q v H')->tDX G f E H Q
abbrev DX(c:Str->Addr)(X:Cx)(e:Expr)(f:LS->Option (D×LS)):Prop:=PE X e (tDX (Gx c X) f)
def Py:mh (.type "list_reverseiterator") "__len__"=pure ab:=by(rw[j5,jZ];kernel_rfl)
def Pz:mh (.type "list_reverseiterator") "__length_hint__"=pure (aa (.builtin "list_reverseiterator.__length_hint__")):=by(rw[j5,jZ];kernel_rfl)
def PB:isSubtype (.type "list_reverseiterator") (.type "list_reverseiterator")=pure ac:=by(rw[ma];kernel_rfl)
def PD{Q:Bool->ah->Prop}(hr:fT s.heap it l j)(h:Q af s):wpAny (model P w) A (Dv (.ref it)) Q V4 s:=by
 refine aj (sV hr.ty Py ?_);refine aj (sV hr.ty Pz ?_);exact aj (qj hr.ty PB (aC h))
def PF(hh:A.handled=ab)(hne:it≠l)(B:Array Value):Walks P w A it [it,l] [it] B.size (λi v=>B.toList.reverse[i]?=aa v) (λi h=>fT h it l ((B.size:Int)-1-(i:Int))/\h.IsList l B) where
 sub:=by simp
 frame:=λi h h' ⟨a,o,e,c,n,d⟩ k=>⟨a.stay λo e=>k it (by simp) o e,o,k l (by simp) o e,c,n,d⟩
 item:=λi s Q V4 hi st hQ=>by
  obtain⟨a,b⟩:=st;have ej:(B.size-1-i)=((B.size-1-i:Nat):Int):=by lia
  rw[ej]at a;have hk:B.size-1-i<B.size:=by lia
  refine Gq a b (x:=B[B.size-1-i]) (by simp[hk]) λh' a' sb=>?_;have e2:((B.size-1-i:Nat):Int)-1=B.size-1-((i+1:Nat):Int):=by lia
  rw[e2]at a';have hl:∀b o,b∉[it]->s.heap.get? b=aa o->h'.get? b=aa o:=λb o hb e=>(sb.2 b (by simpa using hb)).trans e;refine hQ _ h' s.toks ?_ ⟨a',?_⟩ hl
  .rw[List.getElem?_reverse (by simpa using hi)];simp[hk]
  .obtain⟨o,e,c,n,d⟩:=b;exact⟨o,hl l o (by simpa using eG hne) e,c,n,d⟩
 done:=λs Q V4 st hQ=>by
  obtain⟨a,b⟩:=st;exact Gr (by lia) hh a λh' eb=>hQ h' s.toks λb o hb e=>eb b o (by simpa using hb) e
 self:=λi s Q V4 st h=>uA st.1 h
variable{c0:Nat}
def PH{S:Addr}(d:Value)(n:A.handled=ab)(j:it≠l)(g:S∉[it,l])(hr:fT s.heap it l ((B.size:Int)-1))(p:s.heap.IsList l B)(hn:B.size<=aS)
 (m:s.heap.get? S=aa {cls:=.type "list",dict:=ab,data:=.seq #[] c0,slots:=#[]})
 (kR:∀c c4 h,Moved (S::[it]) (λa b=>b=a) s c->c.heap.get? S=aa {cls:=.type "list",dict:=ab,data:=.seq c4 h,slots:=#[]}->ItemsOf (λi v=>B.toList.reverse[i]?=aa v) c4 B.size->R (.ok (.ret d)) c):
  wpAny (model P w) A.in1 (wE (.ref S) (.ref it) d) (λfin c=>match fin with |.done f=>R (.ok f) c |.again h=>h.quiet=ac/\gx (model P w) A h R c) (λe c=>R (.error e) c) s:=by
 have q:S≠it:=λz=>g (by rw[z];exact aF);refine aj (wpAny_typeOf hr.ty ?_);have r:s9 (.ref S) (.ref it)=af:=by simp[s9,q]
 simp only[r];refine aj (uA hr ?_);refine aj (jB (PD hr ?_));refine aC ⟨me F.plain_extend_loop _,codeAny_extend_loopS ((PF (show A.in1.handled=ab from n) j B).toS) hn S g d B.size 0 _ #[] c0 rfl (cg _) ⟨by simpa using hr,p⟩ m (ItemsOf.nil _) kR⟩
def PJ{Q:PRS}(G:A.handled=ab)(y:it≠l)(hr:fT s.heap it l ((B.size:Int)-1))(C:s.heap.IsList l B)(hn:B.size<=aS)
 (I:∀j c4 q,Moved [s.heap.objs.size,it] (λa b=>b=a) {s with heap:=s.heap.push {cls:=.type "list",data:=.seq #[]}} j->j.heap.get? s.heap.objs.size=aa {cls:=.type "list",dict:=ab,data:=.seq c4 q,slots:=#[]}->ItemsOf (λi v=>B.toList.reverse[i]?=aa v) c4 B.size->Q (.ref s.heap.objs.size) j):
  wpAny (model P w) A (call (.type "list") [.ref it]) Q V4 s:=by
 have f:it<s.heap.objs.size:=by obtain⟨o,e,_⟩:=hr;exact bx e
 have g:l<s.heap.objs.size:=by obtain⟨o,e,_⟩:=C;exact bx e
 have nf:s.heap.objs.size∉_:=λhm=>by
  rcases bh.mp hm with z |z
  .exact absurd z (kO f)
  .exact absurd (bE.mp z) (kO g)
 refine callType_codes (Q₁:=λobj s1=>obj=.ref s.heap.objs.size/\s1={s with heap:=s.heap.push {cls:=.type "list",data:=.seq #[]}}) F.called_list (F.typeCall_list_1 _) F.entry_list_init (code_list_new _ ⟨rfl,rfl⟩) λobj s1 L=>?_
 obtain⟨rfl,rfl⟩:=L;have p:(s.heap.push {cls:=.type "list",data:=.seq #[]}).get? s.heap.objs.size=aa {cls:=.type "list",data:=.seq #[]}:=cP _ rfl;refine⟨⟨_,p,rfl⟩,F.args_list_init_2 _ _,?_⟩;apply aj;refine aj (sY p rfl (aC ?_));apply aj;refine sW p rfl ?_;apply aj;apply wpAny_letGo;have h:∀b o,b≠s.heap.objs.size->s.heap.get? b=aa o->((s.heap.push {cls:=.type "list",data:=.seq #[]}).update s.heap.objs.size (g7 (λ_=>(#[]:Array Value)))).get? b=aa o:=λb o u e=>(oe _ _ (eG u)).trans (bw _ e)
 have x:((s.heap.push {cls:=.type "list",data:=.seq #[]}).update s.heap.objs.size (g7 (λ_=>(#[]:Array Value)))).IsList l B:=by
  obtain⟨o,e,c,n,d⟩:=C;exact⟨o,h l o (bW g) e,c,n,d⟩
 refine PH .none G y nf (hr.stay λo e=>h it o (bW f) e) x hn (oh _ p rfl) λj c4 q m r H=>?_
 have J:Moved [s.heap.objs.size,it] (λa b=>b=a) {s with heap:=s.heap.push {cls:=.type "list",data:=.seq #[]}} {s with heap:=(s.heap.push {cls:=.type "list",data:=.seq #[]}).update s.heap.objs.size (g7 (λ_=>(#[]:Array Value)))}:=
  ⟨λb o u e=>(oe _ _ (eG (λz=>u (by rw[z];exact aF)))).trans e,rfl,rfl,rfl,aM _⟩
 exact⟨rfl,I j c4 q (J.trans (λ_ _ _ E h2=>h2.trans E) m) r H⟩
abbrev tRL(K:aQ)(te:TE):TE:=λE H Q=>te E H λx H1=>∃l C,x=.ref l/\SqL K H1 l C/\∀p,H1 p=ab->Q (.ref p) (upd H1 p (.lst C.reverse))
def PK(h:ItemsOf (λi v=>B.toList.reverse[i]?=aa v) c4 B.size):c4.toList=B.toList.reverse:=by
 obtain⟨c,hi⟩:=h;refine l5 λi=>?_
 by_cases b:i<B.size
 .have a:i<c4.size:=by rw[c];exact b
  rw[hi i c4[i] (by simp[a])];simp[a]
 .rw[jy (by simpa[c]using nV b),jy (by simpa using nV b)]
def PL(T:X.calm=ac)(j:Gl X "list")(w:X.mg "list"=ab)(r:Gl X "reversed")(y:X.mg "reversed"=ab)(Y:PE X e te)
 (N:aN [.Call (.Name "reversed" p2) [e] [] c2] X.env=(af,eval (.Call (.Name "reversed" p2) [e] [] c2) X.env)::aN [] X.env:=by rfl)(h2:aN [e] X.env=(af,eval e X.env)::aN [] X.env:=by rfl)
 (z:(ca pos (aN [] X.env)).any (·.1)=af:=by rfl)(a:(ca c2 (aN [] X.env)).any (·.1)=af:=by rfl):
  PE X (.Call (.Name "list" p) [.Call (.Name "reversed" p2) [e] [] c2] [] pos) (tRL X.K te):=by
 intro U s E H Q I h;refine iR (g8 I j w nX ?_);refine jX ?_ N z;refine iV (iR (g8 I r y Gv ?_));refine jX ?_ h2 a;rw[h2];refine iV (thn (Y U s E H _ I h) λu s1 q_=>?_);obtain⟨x,H1,f,r1,l,C,M,hq,q⟩:=q_;subst M;subst r1;refine aC ?_;obtain⟨B,J,pl,hz⟩:=f.list hq;refine Gw pl.isList λh' A G=>?_;refine aC ?_
 have v:h'.IsList l B.toArray:=by
  obtain⟨o,e,c,n,d⟩:=pl.isList;exact⟨o,G _ _ e,c,n,d⟩
 have lt:l<s1.heap.objs.size:=by obtain⟨o,e,_⟩:=pl.isList;exact bx e
 have le:s1.heap.objs.size<h'.objs.size:=by obtain⟨o,e,_⟩:=A;exact bx e
 refine PJ (f.ok.hd T) (kO lt) A v (by rw[size_toArray,<- J.length];exact hz) λs' c4 L m i ia=>?_;obtain⟨hp',g',d',tk',os'⟩:=s';obtain⟨m1,m2,m3,m4,m5⟩:=m;subst m2;subst m3;subst m4;refine⟨.ref h'.objs.size,_,f.laid (λb u g=>m1 b u (λhm=>?_) (bw _ (G b u g))) (fj le) ?_,rfl,q _ (f.hok.fresh (fj le))⟩
 .have hb:=bx g
  grind
 .refine⟨by rw[ie];exact hz,c4.toList,L,?_,by simpa using i⟩;rw[(PK ia)]
  simpa using J.reverse
abbrev lL(i:Nat)(M:LS):OLD:=match M[i]? with
 |some (.own C)=>aa C.reverse
 |some (.im (.lst C))=>aa C.reverse
 | _=>ab
variable{p3:Pos}
def PM(i:Nat)(y:X.calm=ac)(g:Gl X "list")(j:X.mg "list"=ab)(h:Gl X "reversed")(m:X.mg "reversed"=ab)
 (w:X.N[i]?=aa x:=by rfl)(hv:Vis X.env.scope x:=by first |exact bX rfl |exact bz (bX rfl) |exact bz (bz rfl))(hd:NDb x:=by decide)(f:NCd x:=by decide)
 (u:aN [.Call (.Name "reversed" p2) [.Name x p3] [] c2] X.env=(af,eval (.Call (.Name "reversed" p2) [.Name x p3] [] c2) X.env)::aN [] X.env:=by rfl)(h2:aN [.Name x p3] X.env=(af,eval (.Name x p3) X.env)::aN [] X.env:=by rfl)
 (n:(ca pos (aN [] X.env)).any (·.1)=af:=by rfl)(b:(ca c2 (aN [] X.env)).any (·.1)=af:=by rfl):
  DO c X (.Call (.Name "list" p) [.Call (.Name "reversed" p2) [.Name x p3] [] c2] [] pos) (lL i):=PE.imp (PL y g j h m (mx w hv hd f) u h2 n b) λE H Q z=>by
 obtain⟨Hf0,H0,Hf,M,ds,st,d,k⟩:=z;unfold lL at d;split at d
 .rename_i C es;cases d;obtain⟨l,e,A,B,vs,q,r⟩:=st.ownAt rfl es;exact⟨_,e,l,vs,rfl,SqL.of q,λp a=>k p _ Hf _ (Ext.tmp st.sub a) a (st.sub.free a) aZ r.reverse⟩
 .rename_i C es;cases d;obtain⟨v,e,l,vs,rfl,q,r⟩:=st.imm es;exact⟨_,e,l,vs,rfl,SqL.of (st.sub _ _ q),λp a=>k p _ Hf _ (Ext.tmp st.sub a) a (st.sub.free a) aZ r.reverse⟩
 .grind
def Gy:∀(n lo:Nat) (us:LVa),us.length=n->(∀j v,us[j]?=aa v->∃t,v=Value.int ((lo+j:Nat):Int) t)->aG (((List.range' lo n).map λ(i:Nat)=>(i:Int)).map V.int) us
 | 0,_,[],_,_=>.nil
 | 0,_,_::_,h,_=>by cases h
 | _+1,_,[],h,_=>by cases h
 |n+1,lo,u::us,h,k=>by
  refine .cons (k 0 u rfl) (Gy n (lo+1) us (by simpa using h) λj v e=>?_);have:=k (j+1) v (by exact e)
  rwa [show lo+(j+1)=lo+1+j by lia]at this
abbrev tRR(ta:TA):TE:=λE H Q=>ta E H λvs H1=>∃j:Int,vs=[.int j]/\0<=j/\j<=1048576/\∀p,H1 p=ab->Q (.ref p) (upd H1 p (.lst (((bM j.toNat).map λ(i:Nat)=>(i:Int)).map V.int)))
def PN(G:X.calm=ac)(f:Gl X "list")(m:X.mg "list"=ab)(l:Gl X "range")(w:X.mg "range"=ab)(ha:PA X [a] ta)
 (C:aN [.Call (.Name "range" p2) [a] [] c2] X.env=(af,eval (.Call (.Name "range" p2) [a] [] c2) X.env)::aN [] X.env:=by rfl)(J:aN [a] X.env=[(af,eval a X.env)]:=by rfl)
 (x:(ca pos (aN [] X.env)).any (·.1)=af:=by rfl):
  PE X (.Call (.Name "list" p) [.Call (.Name "range" p2) [a] [] c2] [] pos) (tRR ta):=by
 intro U s E H Q I h;refine iR (g8 I f m nX ?_);refine jX ?_ C x;show wpAny _ _ (spliced ((af,eval (.Call (.Name "range" p2) [a] [] c2) X.env)::ca pos (aN [] X.env))) _ _ s;refine iV (iR (g8 I l w boot_range ?_));refine jX (thn (ha c2 U s E H _ I h) λus s1 L=>?_) J rfl;obtain⟨vs,H1,c,M,j,e,Y,j1,q⟩:=L;subst e
 cases M with
 |cons r N=>
  cases N;obtain⟨t,rfl⟩:=r;refine call_range_1 ?_;refine aC ?_
  refine call_list_range (n:=j.toNat) (c.ok.hd G) (IsRange.new ..) (small_one (by lia) (by lia) (by lia) (by lia)) (by rw[rangeSize_one];split <;> lia) (by lia) λh' T c4 z kp d y=>?_
  have le:s1.heap.objs.size<=(s1.heap.push {cls:=.type "range",data:=.fields #[.int 0 s1.toks,.int j t,.int 1 (s1.toks+1)]}).objs.size:=by
   simp[Heap.push]
  refine⟨.ref _,_,c.laid (h':=h') (t':=T) (o:=.lst (((bM j.toNat).map λ(i:Nat)=>(i:Int)).map V.int)) (λb u g=>kp b u (bw _ g)) le ?_,rfl,q _ (c.hok.fresh le)⟩;refine⟨by rw[ay,ay,cZ];show _<=16777216;lia,c4.toList,z,?_,by exact d⟩;rw[range_eq_range'];refine Gy j.toNat 0 c4.toList (by simpa using y.1) λi v B=>?_;obtain⟨t,A⟩:=y.2 i v (by simpa using B);exact⟨t,by rw[A];simp⟩
abbrev lrD:LD->OLD
 | [.int j]=>if 0<=j/\j<=1048576 then aa (((bM j.toNat).map λ(i:Nat)=>(i:Int)).map D.int) else ab
 | _=>ab
abbrev m6(f:MF2)(M:LS):OLD:=(f M).bind lrD
def PP{n:Int}(h:f M=aa [.int n])(a:0<=n)(b:n<=1048576):m6 f M=aa (((bM n.toNat).map λ(i:Nat)=>(i:Int)).map D.int):=by
 unfold m6;rw[h];show(if 0<=n/\n<=1048576 then _ else ab)=_;rw[if_pos ⟨a,b⟩]
def PQ(z:X.calm=ac)(e:Gl X "list")(m:X.mg "list"=ab)(g:Gl X "range")(n:X.mg "range"=ab)(ha:DA c X [a] f)
 (y:aN [.Call (.Name "range" p2) [a] [] c2] X.env=(af,eval (.Call (.Name "range" p2) [a] [] c2) X.env)::aN [] X.env:=by rfl)(A:aN [a] X.env=[(af,eval a X.env)]:=by rfl)
 (q:(ca pos (aN [] X.env)).any (·.1)=af:=by rfl):
  DO c X (.Call (.Name "list" p) [.Call (.Name "range" p2) [a] [] c2] [] pos) (m6 f):=PE.imp (PN z e m g n ha.pa y A q) λE H Q B=>by
 obtain⟨Hf0,H0,Hf,M,ds,st,b,k⟩:=B;unfold m6 at b
 cases d:f M with
 |none=>rw[d]at b;cases b
 |some as=>
  rw[d]at b;replace b:lrD as=aa ds:=b;refine⟨Hf0,H0,Hf,M,as,st,d,λvs Hf' H' x r=>?_⟩;unfold lrD at b;split at b
  .split at b
   .rename_i j u;cases b;obtain⟨v,w,rv⟩:=r.one;cases (show v=V.int j from rv);exact⟨j,w,u.1,u.2,λl i=>k l _ Hf' _ (x.trans (Ext.tmp x.s i)) (x.h.free i) (x.s.free i) aZ (am.ints _)⟩
   .cases b
  .cases b
open Classical in
abbrev dN(f:LS->Option (D×LS))(M:LS):Option Fl:=(f M).map λp=>.nx p.2
def yT{f:LS->Option (D×LS)}(g:DX c X e f)(h:f7 e ab pos.line X.env=pure af:=by rfl):DS c X (.Expr e pos) (dN f):=PS.imp (lh g h) λV4 E H i=>by
 obtain⟨Hf0,H0,Hf,M,o,j,a,k⟩:=i;unfold dN at a
 cases b:f M with
 |none=>rw[b]at a;nomatch a
 |some p=>
  rw[b]at a;cases a;exact⟨Hf0,H0,Hf,M,p.1,p.2,j,b,λv Hf' H' s d r=>k E Hf' H' s d⟩
def am.erase{G:Gc}{H:Hp}:∀{ds:LD} {vs:LVv} (k:Nat),am G H ds vs->am G H (ds.eraseIdx k) (vs.eraseIdx k)
 | [],_,_,h=>by cases (show _=[]from h);exact .nil
 |d::ds,_,0,⟨v,r,e,_,h2⟩=>by subst e;exact h2
 |d::ds,_,k+1,⟨v,r,e,h1,h2⟩=>by subst e;exact⟨v,r.eraseIdx k,rfl,h1,am.erase k h2⟩
abbrev Fre(V3 Hf:Hp)(fp:LAd):Prop:=fp.Nodup/\∀a∈fp,V3 a=ab/\Hf a=ab
variable{V3:Hp}
def Fre.nil:Fre V3 Hf []:=⟨.nil,λ_ h=>nomatch h⟩
def Fre.one(h:V3 l=ab)(h':Hf l=ab):Fre V3 Hf [l]:=⟨cf.mpr ⟨dQ,ij⟩,λa ha=>by rw[bE.mp ha];exact⟨h,h'⟩⟩
def Fre.imp{b:Hp}(h:Fre V3 Hf fp)(k:∀a,V3 a=ab->b a=ab):Fre b Hf fp:=⟨h.1,λa ha=>⟨k a (h.2 a ha).1,(h.2 a ha).2⟩⟩
abbrev bsH(b:Bool)(H0 H:Hp):Hp:=bif b then H else H0
variable{a:Addr}
def yU(s:aq H0 H)(h:H a=ab):bsH b H0 H a=ab:=by
 cases b with
 |true=>exact h
 |false=>exact s.free h
inductive tDZ(G:Gc)(b:Bool)(f:LS->Option O)(E:St)(H:Hp)(Q:VK):Prop
 |mk:∀Hf0 H0 Hf M o,ar G Hf0 H0 Hf H E M->f M=aa o->(∀u fp Hf' H',Ext Hf H Hf' H'->OT G Hf' H' o u fp->Fre (bsH b H0 H) Hf' fp->Q u H')->tDZ G b f E H Q
abbrev DZ(c:Str->Addr)(X:Cx)(b:Bool)(e:Expr)(f:LS->Option O):Prop:=PE X e (tDZ (Gx c X) b f)
abbrev jl(f:MF1)(M:LS):Option O:=(f M).map .fz
abbrev hX(f:MF2)(M:LS):Option O:=(f M).map λds=>.lst (ds.map .fz)
def Gz{f:MF1}(h:DE c X e f):DZ c X b e (jl f):=PE.imp h λE H Q i=>by
 obtain⟨Hf0,H0,Hf,M,t,st,a,k⟩:=i;unfold jl at a
 cases g:f M with
 |none=>rw[g]at a;nomatch a
 |some d=>
  rw[g]at a;cases a;exact⟨Hf0,H0,Hf,M,d,st,g,λv Hf' H' x r=>k v [] Hf' H' x ⟨r,rfl⟩ .nil⟩
def PR(h:DO c X e f):DZ c X b e (hX f):=PE.imp h λE H Q j=>by
 obtain⟨Hf0,H0,Hf,M,t,st,a,k⟩:=j;unfold hX at a
 cases d:f M with
 |none=>rw[d]at a;nomatch a
 |some ds=>
  rw[d]at a;cases a;exact⟨Hf0,H0,Hf,M,ds,st,d,λl vs Hf' H' x hn g i r=>k _ [l] Hf' H' x ⟨l,vs,[],rfl,i,OTs.fz r,rfl⟩ (.one (yU st.ext.h hn) g)⟩
abbrev spT(G:Gc)(n:Nat)(m:LD->Option O):Sp:=λvs H Q _=>∃Hf ds o,aq Hf H/\am G Hf ds vs/\ds.length=n/\m ds=aa o/\∀u fp Hf' H',Ext Hf H Hf' H'->OT G Hf' H' o u fp->Fre H Hf' fp->Q u H'
mutual
noncomputable def O.flat:O->Bool
 |.fz d=>d.flat
 |.lst os=>O.flats os
 |.tup os=>O.flats os
 |.dic _ os=>O.flats os
 |.ins _ _ os=>O.flats os
 |.dT _ os=>O.flats os
 |.at _ o=>o.flat
 |.jnk _=>ac
 |.any=>ac
noncomputable def O.flats:List O->Bool
 | []=>ac
 |o::os=>o.flat && O.flats os
end
abbrev m7(i:Nat)(f:LS->Option O)(M:LS):Option Fl:=(f M).map λo=>.nx (M.set i (.deep o))
def PU(i:Nat){f:LS->Option O}(j:X.N.Nodup)(l:DZ c X ac e f)(hi:X.N[i]?=aa x:=by rfl)(q:Loc X.env.scope x:=by first |exact bX rfl |exact bz rfl)(n:f7 e (aa (.Name x b4)) pos.line X.env=pure af:=by rfl)(m:LcF X x:=by first |exact .inl rfl |exact .inr rfl):
  DS c X (.Assign [.Name x b4] e pos) (m7 i f):=PS.imp (ou j hi q l n m) λV4 E H v=>by
 obtain⟨Hf0,H0,Hf,M,o,g,b,k⟩:=v;unfold m7 at b
 cases d:f M with
 |none=>rw[d]at b;nomatch b
 |some t=>
  rw[d]at b;cases b;refine⟨Hf0,H0,Hf,M,t,g,d,λu fp Hf' H' x r z=>k _ Hf' H' x.f (g.setNew x ⟨u,fp,rfl,r,z.1,λa ha=>⟨g.ext.h.free (z.2 a ha).1,(z.2 a ha).2⟩⟩ λa p=>?_)⟩;obtain⟨fp',w,ha⟩:=p;have:=OT.funM t u fp fp' r w;subst this;exact(z.2 a ha).1
def OTs.at:∀{G:Gc} {Hf H:Hp} {os:List O} {vs:LVv} {fp:LAd} {k:Nat} {o:O},OTs G Hf H os vs fp->os[k]?=aa o->∃v f,vs[k]?=aa v/\OT G Hf H o v f/\∀a∈f,a∈fp
 | _,_,_,[],_,_,_,_,_,e=>by simp at e
 | _,_,_,o::os,_,_,0,o',q8_,e'=>by
  obtain⟨v,r,f1,f2,e,d,h2,c⟩:=q8_;cases e';subst e c
  exact⟨v,f1,rfl,d,λa ha=>bS _ ha⟩
 | _,_,_,o::os,_,_,k+1,o',q8_,e'=>by
  obtain⟨v,r,f1,f2,e,d,h2,c⟩:=q8_;subst e c;obtain⟨g,f,a,b,m⟩:=OTs.at h2 e';exact⟨g,f,by rw[gU];exact a,b,λa ha=>ce _ (m a ha)⟩
variable{i:Nat}
def PV{f:LS->Option O}{o:O}(h:f M=aa o)(k:K (.nx (M.set i (.deep o)))):wp (m7 i f) M K:=⟨_,by unfold m7;rw[h];rfl,k⟩
def OTs.length{G:Gc}{Hf H:Hp}:∀{os:List O} {vs:LVv} {fp:LAd},OTs G Hf H os vs fp->os.length=vs.length
 | [],_,_,h=>by rw[h.1];rfl
 |o::os,_,_,⟨v,r,f1,f2,e,h1,h2,ef⟩=>by subst e;simp[OTs.length h2]
def OTs.append{G:Gc}{Hf H:Hp}:∀{os ps:List O} {vs us:LVv} {f g:LAd},OTs G Hf H os vs f->OTs G Hf H ps us g->OTs G Hf H (os++ps) (vs++us) (f++g)
 | [],_,_,_,_,_,h,t=>by obtain⟨a,b⟩:=h;subst a b;exact t
 |o::os,_,_,_,_,_,⟨v,r,f1,f2,e,h1,h2,ef⟩,t=>by subst e ef;exact⟨v,r++_,f1,f2++_,rfl,h1,OTs.append h2 t,cG _ _ _⟩
def OTs.one{o:O}{f:LAd}(h:OT G Hf H o v f):OTs G Hf H [o] [v] f:=⟨v,[],f,[],rfl,h,⟨rfl,rfl⟩,(bP _).symm⟩
abbrev O.appd(o:O)(d:D):Option O:=match o with
 |.lst C=>if C.length<16777216 then aa (.lst (C++[.fz d])) else ab
 |.jnk n=>if n<16777216 then aa (.jnk (n+1)) else ab
 | _=>ab
def GA{o o':O}{fk:LAd}(h:o.appd d=aa o')(r:OT G Hf H o v fk):∃l us,v=.ref l/\H l=aa (.lst us)/\us.length<16777216/\l∈fk /\
  ∀Hf' H' w,fk.Nodup->aq Hf Hf'->(∀b u,b≠l->H b=aa u->H' b=aa u)->H' l=aa (.lst (us++[w]))->Rep G Hf' d w->OT G Hf' H' o' v fk:=by
 cases o with
 |lst C=>
  replace h:(if C.length<16777216 then aa _ else ab)=aa o':=h;split at h
  .rename_i j;cases h;obtain⟨l,us,fs,e,q,L,c⟩:=r;subst e c;refine⟨l,us,rfl,q,by rw[<- L.length];exact j,aF,λHf' H' w n f m i a=>?_⟩
   have o1:=OTs.frameM f C us fs L λb u g hm=>m b u (λz=>by
    subst z;rw[q]at g;cases g
    rcases hm with hm |hm
    .nomatch hm
    .exact(cf.mp n).1 hm) g
   have o2:=o1.append (.one (o:=.fz d) ⟨a,rfl⟩);rw[bP]at o2;exact⟨l,us++[w],fs,rfl,i,o2,rfl⟩
  .nomatch h
 |jnk n=>
  replace h:(if n<16777216 then aa _ else ab)=aa o':=h;split at h
  .rename_i j;cases h;obtain⟨l,us,e,q,z,c⟩:=r;subst e c;exact⟨l,us,rfl,q,by lia,aF,λHf' H' w _ f m i a=>⟨l,us++[w],rfl,i,by rw[aR,fX];lia,rfl⟩⟩
  .nomatch h
 | _=>nomatch h
abbrev GB(G:Gc)(Hf H:Hp)(E:St)(M:LS)(a:Addr):Prop:=∀(k:Nat) (t:Sl) (w:V),M[k]?=aa t->E[k]?=aa (aa w)->Holds G Hf H t w a->False
abbrev GC(ks:LN)(a b:LS):Prop:=a.length=b.length/\∀m,m∉ks->a[m]?=b[m]?
def GC.refl(ks:LN)(a:LS):GC ks a a:=⟨rfl,λ_ _=>rfl⟩
abbrev gK(H:Hp)(fp:LAd):Hp:=λa=>if a∈fp then ab else H a
def yV(h:a∈fp):gK H fp a=ab:=by unfold gK;rw[if_pos h]
def uB(h:a∉fp):gK H fp a=H a:=by unfold gK;rw[if_neg h]
def PY:aq (gK H fp) H:=λa o e=>by
 by_cases h:a∈fp
 .rw[yV h]at e;grind
 .rw[uB h]at e;lia
def GD{F H:Hp}(s:aq F H)(h:∀a∈fp,F a=ab):aq F (gK H fp):=λa o e=>by
 rw[uB (λz=>by rw[h a z]at e;nomatch e)];exact s a o e
variable{kvs:List (Key×V)}
def Inv.freeze(I:Inv X U E H s)(e:H l=aa (.dK kvs)):∃od,Inv X U E (upd H l (.frz od (.dK kvs))) s:=by
 obtain⟨z,ns,vs,f,od,es,ep,g,r⟩:=EB I.hok e;refine⟨od,?_⟩
 have d:∀b u,H b=aa u->(∀w,u≠.dK w)->upd H l (.frz od (.dK kvs)) b=aa u:=λb u a i=>by
  rw[aK (λq=>by subst q;rw[e]at a;cases a;exact i _ rfl)];exact a
 have:=I.step (t':=s.toks) (d':=s.drawn) (ch:=[]) (λb a=>nomatch a) (λb o _ _ _ e _=>e) (λb o _ _ _ e _=>⟨o.slots,e⟩) (λb o _ _ n=>by rw[aK (λq=>by subst q;rw[e]at n;nomatch n)];exact n)
  (λb o _ e=>⟨o,e⟩) (λb C a=>d b _ a (λw q=>by nomatch q)) (λb o u a=>d b _ a (λw q=>by nomatch q)) (λb ps a=>⟨#[],by rw[d b _ a (λw q=>by nomatch q)];simp⟩) (λm hm=>hm) (λb u a=>?_) I.bare
 .exact this
 .by_cases q:b=l
  .subst q;rw[aZ]at a;cases a;exact⟨g,z,ns,vs,f,od,es,ep,g,r⟩
  .rw[aK q]at a;exact(I.hok b u a).stay (λc v _ h=>h) (λc h=>d c _ h (λw q=>by nomatch q)) (λc C h=>d c _ h (λw q=>by nomatch q))
abbrev Itk(od:Obj)(d:Addr):It:=
  ⟨λi H=> ∃kvs k v, H d = aa (.frz od (.dK kvs))/\kvs[i]? = aa (k, v),
   λi H x H'=> H' = H/\∀kvs, H d = aa (.frz od (.dK kvs))->∃k v, kvs[i]? = aa (k, v)/\x = kV k,
   λi H=> ∃kvs, H d = aa (.frz od (.dK kvs))/\kvs.length<=i⟩
def KV.get:∀{C:List (Key×V)} {us:List (Key×Value)} {i:Nat} {x:Key×V},KV C us->C[i]?=aa x->∃u,us[i]?=aa u/\x.1=u.1/\aA x.2 u.2
 | _,_,_,_,.nil,e=>by simp at e
 | _,_,0,_,.cons r _,e=>by simp at e;subst e;exact⟨_,rfl,r⟩
 | _,_,i+1,x,.cons _ t,e=>by
  obtain⟨u,a,h2⟩:=KV.get t (by simpa using e);exact⟨u,by simpa using a,h2⟩
def PZ{k:Key}{v:Value}(h:lc k v=ac):aA (kV k) v:=by
 rcases iZ h with⟨i,t,rfl,rfl⟩ |⟨x,t,rfl,rfl⟩
 .exact⟨t,rfl⟩
 .exact⟨t,rfl⟩
variable{K:aQ}
def P0{od:Obj}{es:Array DictEntry}(hd:od.data=.dict es ep)(d it:Addr):j9 P w K tg (Itk od d) [it] it (λi h=>h.IsKeyIter it d i es.size ep) where
 mem:=by simp
 obj:=λi h st b hb=>by
  have e:b=it:=by simpa using hb
  subst e;obtain⟨o,e,c,d⟩:=st;exact⟨o,e,λv z=>by rw[d]at z;nomatch z⟩
 keep:=λi h h' st k=>st.at λo e=>k it (by simp) o e
 item:=by
  intro X hP hw hK hc i U s E H V4 I hf st hg;subst hP hw hK;obtain⟨kvs,k,v,hH,hx⟩:=hg;obtain⟨ho,z,ns,vs,rel,od',es',ep',ho',ex,hd',kk,pp,nd⟩:=I.hok d _ hH;rw[ho]at ho';cases ho';rw[hd]at hd';cases hd';have hm:s.heap.DictAt _ d vs ep:=⟨od,es,ho,ex,hd,kk,pp,nd⟩;have hl:es.size=vs.length:=by rw[<- pp.length];simp
  obtain⟨⟨k',v'⟩,hv,ek,rv⟩:=KV.get rel hx;subst ek;obtain⟨f0,f1,f2,f3,f4,f5⟩:=hf it (by simp);rw[hl]at st;refine wpAny_pyNext_dict_item st hm hv λkey h' hkey eh sb=>?_;refine⟨key,rfl,letGo_keyiter eh ⟨kV k,H,(I.turned (λb o hb e=>(sb.2 b hb).trans e) f0 f1 f3 f4 f5),PZ hkey,⟨rfl,λkvs2 h2=>?_⟩,by rw[hl];exact eh,λb hb=>(hf b hb).1⟩⟩;rw[hH]at h2;cases h2;exact⟨k,v,hx,rfl⟩
 done:=by
  intro X hP hw hK hc i U s E H V4 I hf st hg;subst hP hw hK;obtain⟨kvs,hH,hx⟩:=hg;obtain⟨ho,z,ns,vs,rel,od',es',ep',ho',ex,hd',kk,pp,nd⟩:=I.hok d _ hH;rw[ho]at ho';cases ho';rw[hd]at hd';cases hd';have hm:s.heap.DictAt _ d vs ep:=⟨od,es,ho,ex,hd,kk,pp,nd⟩;have hl:es.size=vs.length:=by rw[<- pp.length];simp
  have hv:=oj rel;obtain⟨f0,f1,f2,f3,f4,f5⟩:=hf it (by simp);rw[hl]at st;exact wpAny_pyNext_dict_end (I.ok.hd hc) st hm (jy (by lia)) λh' eb=>⟨rfl,I.turned (λb o hb e=>eb b o hb e) f0 f1 f3 f4 f5⟩
 self:=λ_ _ _ _ _ st h=>wpAny_pyIter_keyiter st h
abbrev P1(te:TE):TI:=λE H R=>te E H λx H1=>∃d od kvs,x=.ref d/\H1 d=aa (.frz od (.dK kvs))/\R (Itk od d) H1
def P2(m:PE X e te):PI X tg e (P1 te):=by
 intro U s E H R I h;refine thn (m U s E H _ I h) λv s1 u=>?_;obtain⟨x,H1,f,w,r⟩:=u;obtain⟨d,od,kvs,ex,j,q⟩:=r;subst ex;subst w;obtain⟨i,z,ns,vs,y,p,es,ep,c,g,a,kk,pp,nd⟩:=f.hok d _ j;rw[i]at c;cases c;have hm:s1.heap.DictAt _ d vs ep:=⟨od,es,i,g,a,kk,pp,nd⟩;have n:es.size=vs.length:=by rw[<- pp.length];simp
 refine wpAny_pyIter_dict ns hm ?_;refine⟨s1.heap.objs.size,_,_,_,H1,rfl,f.kept λb o e=>bw _ e,P0 a d _,⟨_,cP _ rfl,rfl,by rw[n];rfl⟩,λb l=>?_,q⟩;have e:b=s1.heap.objs.size:=by simpa using l
 subst e;exact f.fpOk (aM _) (f.hok.fresh (aM _))
abbrev kD:Key->D
 |.inl i=>.int i
 |.inr x=>.str x
def P3(k:Key):Rep G H (kD k) (kV k):=by cases k <;> rfl
abbrev P4:D->OLD
 |.kd ks _=>aa (ks.map kD)
 | _=>ab
abbrev q9(f:MF1)(M:LS):OLD:=(f M).bind P4
def GE{a c:Type}:∀{ks:List a} {vs:List c} {i:Nat} {k:a},ks.length=vs.length->ks[i]?=aa k->∃v,(ks.zip vs)[i]?=aa (k,v)
 | [],_,_,_,_,e=>by simp at e
 | _::_,[],_,_,h,_=>by cases h
 |k::ks,v::vs,0,_,_,e=>by simp at e;subst e;exact⟨v,rfl⟩
 |k::ks,v::vs,i+1,_,h,e=>by
  obtain⟨u,b⟩:=GE (by simpa using h) (by simpa using e);exact⟨u,by simpa using b⟩
variable{f:MF1}
def P5(G:DE c X e f):DI c X tg e (q9 f):=PI.imp (P2 G) λE H R J=>by
 obtain⟨Hf0,H0,Hf,M,ds,st,b,k⟩:=J;unfold q9 at b
 cases h:f M with
 |none=>rw[h]at b;nomatch b
 |some d=>
  rw[h,az]at b
  cases d with
  |kd ks C=>
   cases b;refine⟨Hf0,H0,Hf,M,_,st,h,λv Hf' H' x r=>?_⟩;obtain⟨a,od,vs,A,q,z,L⟩:=r;refine⟨a,od,_,A,x.s _ _ q,k _ Hf' H' x λbm H2 f2 s2 i=>?_⟩;have l:=(f2.trans s2) _ _ q;refine⟨λd g=>?_,λw=>⟨_,l,by rw[nU,<- z];rw[ay]at w;lia⟩⟩;rw[cM]at g
   cases j:ks[i]? with
   |none=>rw[j]at g;nomatch g
   |some n=>
    rw[j]at g;cases g;obtain⟨u,m⟩:=GE z j;refine⟨⟨_,n,u,l,m⟩,λy N ⟨p,I⟩=>?_⟩;subst p;obtain⟨Q,T,h2,B⟩:=I _ l;rw[m]at h2;cases h2;subst B
    exact⟨bm,Ext.refl s2,P3 n⟩
  | _=>nomatch b
abbrev gL(ks:List Key)(C:LD)(k:Key):OD:=((ks.zip C).find? λa=>decide (a.1=k)).map (·.2)
def uC{G:Gc}{H:Hp}{k:Key}:∀{ks:List Key} {C:LD} {vs:LVv},ks.length=vs.length->am G H C vs->(∀d,gL ks C k=aa d->∃v,cI (ks.zip vs) k=aa v/\Rep G H d v)/\(gL ks C k=ab->cI (ks.zip vs) k=ab)
 | [],_,_,_,_=>⟨λd h=>(by cases h),λ_=>rfl⟩
 | _::_,_,[],h,_=>by cases h
 |j::ks,[],v::vs,_,r=>by cases (r)
 |j::ks,x::C,v::vs,h,q4_=>by
  obtain⟨u,f,e,c,h2⟩:=q4_
  injection e with e1 e2
  subst e1 e2;obtain⟨a,b⟩:=uC (by simpa using h) h2;unfold gL;simp only[e7,e7]
  by_cases q:j=k
  .subst q;refine⟨λd hd=>⟨v,qx rfl,?_⟩,λhd=>?_⟩
   .rw[find?_cons_of_pos (by simp)]at hd;cases hd;exact c
   .rw[find?_cons_of_pos (by simp)]at hd;cases hd
  .rw[find?_cons_of_neg (by simpa using q),ow q];exact⟨a,b⟩
abbrev uD:D->Option (List Key×LD)
 |.dic ks C=>aa (ks,C)
 |.kd ks C=>aa (ks,C)
 | _=>ab
variable{a:Expr}
def GF{p:List Key×LD}(e:uD d=aa p)(r:Rep G H d v):∃a vs,v=.ref a/\Rd H a (.dK (p.1.zip vs))/\p.1.length=vs.length/\am G H p.2 vs:=by
 cases d with
 |dic ks C=>cases e;obtain⟨a,vs,b,q,z,r⟩:=r;exact⟨a,vs,b,.inl q,z,r⟩
 |kd ks C=>cases e;obtain⟨a,od,vs,b,q,z,r⟩:=r;exact⟨a,vs,b,.inr ⟨od,q⟩,z,r⟩
 | _=>nomatch e
variable{u:HO}
def Rd.up{a:Addr}(h:Rd H a u)(s:aq H H'):Rd H' a u:=h.imp (s _ _) λb=>by
 obtain⟨o,e⟩:=b;exact(⟨o,s _ _ e⟩)
abbrev rb(x y:D):OD:=(uD x).bind λp=>(jf y).bind λk=>gL p.1 p.2 k
variable{b:Expr}
def P6(hu:X.A.units+64<cLine)(ha:DE c X a f)(J:DE c X b g)(L:qy b:=by exact λ_ _=>rfl):DE c X (.Subscript a b pos) (m2 rb f g):=
 PE.imp (xH (by lia) ha J L) λE H Q U=>by
  obtain⟨Hf0,H0,Hf,M,d,st,G,k⟩:=U;obtain⟨x,y,B,C,e⟩:=mJ G;refine⟨Hf0,H0,Hf,M,x,st,B,λv b3 H1 n Y=>⟨Hf0,H0,b3,M,y,st.step n,C,λu bm H2 m r2=>?_⟩⟩;unfold rb at e
  cases h:uD x with
  |none=>rw[h]at e;nomatch e
  |some p=>
   rw[h,az]at e
   cases i:jf y with
   |none=>rw[i]at e;nomatch e
   |some T=>
    rw[i,az]at e;obtain⟨l,vs,el,q,z,r⟩:=GF h (Y.up m.f);have I:=qT i r2;subst I el;obtain⟨w,N,j⟩:=(uC z r).1 d e;exact⟨l,w,rfl,.inl ⟨_,T,q.up m.s,rfl,N.symm⟩,k _ bm H2 (n.trans m) j⟩
abbrev o9(i:Nat)(fk a:MF1)(M:LS):OD:=match M[i]? with
 |some (.ownd ks C)=>(fk M).bind λy=>(jf y).bind λk=>(a M).map λx=>(gL ks C k).getD x
 | _=>ab
variable{cpos:Pos}
def P7{o:Expr}(hu:X.A.units+64<cLine){B:MF1}(U:PE X o (cQ i))(T:DE c X a fk)(hx:DE c X b B)(m:M2 X o "get" apos a b cpos):DE c X (.Call (.Attribute o "get" apos) [a,b] [] cpos) (o9 i fk B):=
 PE.imp (xI (by lia) U T hx m) λE H Q q_=>by
  obtain⟨Hf0,H0,Hf,M,d,st,e,k⟩:=q_;unfold o9 at e;split at e
  .rename_i ks C es
   cases j:fk M with
   |none=>rw[j]at e;nomatch e
   |some y=>
    rw[j,az]at e
    cases p:jf y with
    |none=>rw[p]at e;nomatch e
    |some J=>
     rw[p,az]at e
     cases n:B M with
     |none=>rw[n]at e;nomatch e
     |some x=>
      rw[n]at e;cases e;obtain⟨l,el,h0,hf,vs,q,z,r⟩:=st.ownAt rfl es;refine⟨_,el,l,rfl,.inl ⟨_,.inl q⟩,Hf0,H0,Hf,M,y,st,j,λv b3 H1 g r1=>⟨Hf0,H0,b3,M,x,st.step g,n,λu bm H2 I r2=>?_⟩⟩;have L:=qT p r1;subst L;refine⟨cI _ J,fO.k ((g.trans I).h _ _ q),k _ bm H2 (g.trans I) ?_⟩;obtain⟨N,h2⟩:=uC z (r.up (g.trans I).f)
      cases hv:gL ks C J with
      |none=>rw[h2 hv];exact r2
      |some d=>
       obtain⟨w,Y,G⟩:=N d hv;rw[Y];exact G
  .nomatch e
abbrev pc(i:Nat)(F:MF3)(M:LS):Option Fl:=match M[i]? with
 |some (.ownd ks C)=>F (M.set i (.im (.kd ks C)))
 | _=>F M
def P8{F:MF3}{V4:i0}(I:Inv X U E H s)(h:tDS (Gx c X) (pc i F) V4 E H):∃H',Inv X U E H' s/\tDS (Gx c X) F V4 E H':=by
 obtain⟨Hf0,H0,Hf,M,o,Q,T,k⟩:=h;unfold pc at T;split at T
 .rename_i ks C es;obtain⟨l,A,h0,G,vs,q,z,r⟩:=Q.ownAt rfl es;obtain⟨od,I'⟩:=I.freeze q;refine⟨_,I',Hf0,H0,upd Hf l (.frz od (.dK (ks.zip vs))),M.set i _,o,?_,T,k.up (bN G)⟩
  have s1 : ar _ Hf0 H0 Hf (upd H l (.frz od (.dK (ks.zip vs)))) E (M.set i .no):=Q.chg es A (λb u Y=>by
   by_cases g:b=l
   .subst g;exact .inl ((Holds.own rfl).mpr rfl)
   .exact .inr (by rw[aK g];exact Y)) trivial λa p=>(p.calm rfl).elim
  have s2:ar (Gx c X) Hf0 H0 (upd Hf l (.frz od (.dK (ks.zip vs)))) (upd H l (.frz od (.dK (ks.zip vs)))) E (M.set i .no):=by
   have fr:GB (Gx c X) Hf H E (M.set i .no) l:=λm t w b x p=>by
    rcases cR b with⟨_,e',_⟩ |⟨ne,b⟩
    .subst e';exact p.calm rfl
    .exact ne (Q.dj m i t _ w _ l b es x A p ((Holds.own rfl).mpr rfl))
   have L:GB (Gx c X) Hf (upd H l (.frz od (.dK (ks.zip vs)))) E _ l:=λm t w b x p=>by
    cases B:t.isOwn with
    |true=>
     exact fr m t w b x ((Holds.own B).mpr ((Holds.own B).mp p))
    |false=>
     cases t with
     |deep o'=>
      obtain⟨fp,rr,ha⟩:=p
      obtain ⟨u,fp',eu,r2,_⟩:=Q.at' m _ _ x (by
       rcases cR b with⟨_,e',_⟩ |⟨ne,b⟩
       .nomatch e'
       .exact b)
      cases eu
      have r3:OT _ Hf (upd H l (.frz od (.dK (ks.zip vs)))) o' w fp':=r2.frame (aq.refl _) λb' u' g j=>by
       rw[aK (λJ=>?_)]
       .exact g
       .subst J
        rcases j with j |j
        .rw[q]at g;cases g;nomatch j
        .exact fr m _ w b x ⟨fp',r2,j⟩
      have:=OT.funM o' w _ _ r3 rr;subst this
      exact fr m _ w b x ⟨fp',r2,ha⟩
     | _=>first |exact sI p.1 |nomatch B
   refine s1.re ⟨s1.ext.f.trans (bN G),s1.ext.h,λb u e=>?_,λb u e t=>?_⟩ rfl (λm v t a b=>?_) λm t v a b x p=>⟨t,b,(s1.at' m _ t x b).back (λo' fp _ r=>r.up (bN G) (aq.refl _)) p⟩
   .by_cases Y:b=l
    .subst Y;rw[aZ]at e ⊢;exact e
    .rw[aK Y]at e;exact s1.ext.s b u e
   .rw[aK (λz=>by subst z;rw[h0]at e;nomatch e)];exact s1.ext.n b u e t
   .have J:=s1.at' m v t a b
    cases B:t.isOwn with
    |true=>
     obtain⟨l2,e2,e3,e4,q2⟩:=J.own B;subst e2;refine .ofOwn B ⟨l2,rfl,e3,?_,q2.up (bN G) λo' ho'=>ho'⟩;rw[aK (λz=>by subst z;exact L m t _ b a ((Holds.own B).mpr rfl))]
     exact e4
    |false=>
     cases t with
     |no=>trivial
     |im d=>obtain⟨u',A,r⟩:=J;exact⟨u',A,r.up (bN G)⟩
     |val u'=>exact J
     |deep o'=>
      obtain⟨w,fp,A,r,n,zz⟩:=J;subst A;refine⟨w,fp,rfl,r.up (bN G) (aq.refl _),n,λy hy=>⟨(zz y hy).1,?_⟩⟩;rw[aK (λz=>by subst z;exact L m _ w b a ⟨fp,r,hy⟩)]
      exact(zz y hy).2
     | _=>nomatch B
  have N:=s2.setIm (i:=i) (d:=.kd ks C) ⟨l,od,vs,rfl,aZ,z,r.up (bN G)⟩
  have e3:E.set i (aa (.ref l))=E:=by
   apply l5;intro jj
   by_cases hj:i=jj
   .subst hj;rw[jU (cU.mp A).1,A]
   .rw[kK hj]
  rw[e3,set_set]at N;exact N
 .exact⟨H,I,Hf0,H0,Hf,M,o,Q,T,k⟩
def P9{F:MF3}(i:Nat)(h:DS c X st F):DS c X st (pc i F):=λU s E H V4 I q=>by
 obtain⟨H',a,b⟩:=P8 I q;exact h U s E H' V4 a b
nonrec def Xe:=LS->Option (D×LS)
nonrec def Xa:=LS->Option (LD×LS)
nonrec def Xt:=LS->Option (Bool×LS)
abbrev mX(f:MF1):Xe:=λM=>(f M).map λd=>(d,M)
abbrev cx:Xa:=λM=>aa ([],M)
abbrev bH(f:Xe)(g:Xa):Xa:=λM=>(f M).bind λp=>(g p.2).map λq=>(p.1::q.1,q.2)
def Qa(h:mX f M=aa (d,ρ')):f M=aa d/\ρ'=M:=by
 unfold mX at h
 cases e:f M with
 |none=>rw[e]at h;nomatch h
 |some d'=>rw[e]at h;cases h;grind
def GG{f:Xe}{g:Xa}(h:bH f g M=aa (ds,ρ')):∃d r ρ1,f M=aa (d,ρ1)/\g ρ1=aa (r,ρ')/\ds=d::r:=by
 unfold bH at h
 cases b:f M with
 |none=>rw[b]at h;nomatch h
 |some p=>
  rw[b,az]at h
  cases a:g p.2 with
  |none=>rw[a]at h;nomatch h
  |some q=>rw[a]at h;cases h;exact⟨p.1,q.1,p.2,rfl,a,rfl⟩
inductive rf(G:Gc)(f:Xa)(E:St)(H:Hp)(Q:LVv->Hp->Prop):Prop
 |mk:∀Hf0 H0 Hf M ds ρ',ar G Hf0 H0 Hf H E M->f M=aa (ds,ρ')->(∀vs Hf' H',aq Hf Hf'->ar G Hf0 H0 Hf' H' E ρ'->am G Hf' ds vs->Q vs H')->rf G f E H Q
structure DAX(c:Str->Addr)(X:Cx)(es:LEx)(f:Xa):Prop where
 pa:PA X es (rf (Gx c X) f)
 len:∀M ds ρ',f M=aa (ds,ρ')->ds.length=es.length
def DE.dx(h:DE c X e f):DX c X e (mX f):=PE.imp h λE H Q g=>by
 obtain⟨Hf0,H0,Hf,M,d,ρ',st,b,k⟩:=g;obtain⟨a,rfl⟩:=Qa b;exact⟨Hf0,H0,Hf,_,d,st,a,λv Hf' H' x r=>k v Hf' H' x.f (st.step x) r⟩
def Qb:DAX c X [] cx:=⟨PA.imp dZ λE H Q b=>by obtain⟨Hf0,H0,Hf,M,ds,ρ',st,a,k⟩:=b;cases a;exact k [] Hf H (aq.refl _) st rfl,λM ds ρ' h=>by cases h;rfl⟩
variable{f:Xe}
def GH{g:Xa}(ha:DX c X e f)(hr:DAX c X es g)(l:StE X e es:=by rfl):DAX c X (e::es) (bH f g):=by
 refine⟨PA.imp (eO ha hr.pa l) λE H Q m=>?_,λM ds ρ' h=>?_⟩
 .obtain⟨Hf0,H0,Hf,M,ds,ρ',st,j,k⟩:=m;obtain⟨d,r,ρ1,i,a,rfl⟩:=GG j;exact⟨Hf0,H0,Hf,M,d,ρ1,st,i,λv b3 H1 f1 st1 n=>⟨Hf0,H0,b3,ρ1,r,ρ',st1,a,λvs bm H2 f2 b p=>k _ bm H2 (f1.trans f2) b (.cons (n.up f2) p)⟩⟩
 .obtain⟨d,r,ρ1,i,a,rfl⟩:=GG h;simp[hr.len ρ1 r ρ' a]
abbrev fU(i:Nat)(f:Xe)(M:LS):Option Fl:=(f M).map λp=>.nx (p.2.set i (.im p.1))
abbrev yW:D->D->OD
 |.int i,.int j=>aa (.int (i+j))
 |.str a,.str b=>if a.length+b.length<=16777216 then aa (.str (a++b)) else ab
 | _,_=>ab
abbrev m8(i:Nat)(f:Xe)(M:LS):Option Fl:=match M[i]? with
 |some (.im x)=>(f M).bind λp=>(yW x p.1).map λz=>.nx (p.2.set i (.im z))
 | _=>ab
def uE(i:Nat)(g:X.N.Nodup)(h:DX c X e f)(hi:X.N[i]?=aa x:=by rfl)(m:Loc X.env.scope x:=by first |exact bX rfl |exact bz rfl)(l:f7 e (aa (.Name x b4)) pos.line X.env=pure af:=by rfl)(j:LcF X x:=by first |exact .inl rfl |exact .inr rfl):
  DS c X (.Assign [.Name x b4] e pos) (fU i f):=PS.imp (ou g hi m h l j) λV4 E H n=>by
 obtain⟨Hf0,H0,Hf,M,o,q,a,k⟩:=n;unfold fU at a
 cases b:f M with
 |none=>rw[b]at a;nomatch a
 |some p=>
  rw[b]at a;cases a;exact⟨Hf0,H0,Hf,M,p.1,p.2,q,b,λv Hf' H' s d r=>k _ Hf' H' s (d.setIm r)⟩
def Qc:PIp X .Add (rD (Gx c X) yW):=λU s E H x y v u Q I l m q=>by
 obtain⟨Hf,dx,f,d,n,g,h,e,k⟩:=q
 exact (by
 cases dx with
 |int i=>
  cases f with
  |int j=>
   subst g;subst h;cases e
   exact KC U s E H _ _ v u Q I l m ⟨_,_,rfl,rfl,k _ Hf H (Ext.refl n) rfl⟩
  | _=>nomatch e
 |str a=>
  cases f with
  |str b=>
   subst g;subst h;replace e:(if _ then aa _ else ab)=aa d:=e;split at e
   .rename_i p;cases e;exact Lg U s E H _ _ v u Q I l m ⟨_,_,rfl,rfl,by rw[dq];exact p,k _ Hf H (Ext.refl n) rfl⟩
   .grind
  | _=>nomatch e
 | _=>nomatch e)
def Qd(i:Nat)(A:X.N.Nodup)(B:DX c X e f)(hi:X.N[i]?=aa x:=by rfl)(G:Loc X.env.scope x:=by first |exact bX rfl |exact bz rfl)(C:LcF X x:=by first |exact .inl rfl |exact .inr rfl):
  DS c X (.AugAssign (.Name x b4) .Add e pos) (m8 i f):=PS.imp (D0 A hi G B (Qc) C) λV4 E H I=>by
 obtain⟨Hf0,H0,Hf,M,o,l,a,k⟩:=I;unfold m8 at a;split at a
 .rename_i d es
  cases g:f M with
  |none=>rw[g]at a;nomatch a
  |some p=>
   rw[g,az]at a
   cases h:yW d p.1 with
   |none=>rw[h]at a;nomatch a
   |some z=>
    rw[h]at a;cases a;obtain⟨v,n,w,q,j⟩:=l.slot es;subst q;exact⟨_,n,Hf0,H0,Hf,M,p.1,p.2,l,g,λu Hf' H' s b r=>⟨Hf',d,p.1,z,b.sub,j.up s,r,h,λy bm H2 m J=>k _ bm H2 (s.trans m.f) ((b.step m).setIm J)⟩⟩
 .nomatch a
abbrev isE(x d:D):Bool:=deq 19 d x==aa ac
abbrev gM(y x:D):OD:=match y with
 |.lst ds=>if dh x ds=aa ac then aa (.int ((ds.findIdx (isE x):Nat):Int)) else ab
 | _=>ab
def yX{x:D}:∀{ds:LD} {b:Bool},dh x ds=aa b->(∀d∈ds,∃f,deq 19 d x=aa f)/\ds.any (isE x)=b
 | [],_,h=>by cases h;exact⟨λd hd=>(dQ hd).elim,rfl⟩
 |d::ds,b,h=>by
  obtain⟨a,j,c,h2,rfl⟩:=FM h;obtain⟨g,i⟩:=yX h2;refine⟨λd' hd=>?_,?_⟩
  .rcases bh.mp hd with e |e
   .rw[e];exact⟨a,c⟩
   .exact g d' e
  .rw[gq,i];unfold isE;rw[c]
   cases a <;> rfl
abbrev yY(G:Gc):V->LVv->Hp->VK->Prop:=λa vs H Q=>∃Hf y x d w,vs=[w]/\aq Hf H/\Rep G Hf y a/\Rep G Hf x w/\gM y x=aa d/\∀v Hf' H',Ext Hf H Hf' H'->Rep G Hf' d v->Q v H'
def GI(hu:X.A.units+64<cLine):MtM X "list.index" (yY (Gx c X)):=by
 rintro U s E H x C v us Q I rx rv ⟨Hf,y,z,d,w,rfl,i,r1,r2,e,k⟩;unfold gM at e;split at e
 .rename_i ds;split at e
  .rename_i a;cases e;obtain⟨l,vs,el,q,L⟩:=r1;subst el;subst rx;obtain⟨u,rfl,ru⟩:=rv.one;obtain⟨z1,B,n,Y,T,e0⟩:=I.lstM (i _ _ q);obtain⟨f,M,ha⟩:=qW (A:=X.A.in1) I (by rw[wC];lia) (r2.up i) ru (L.up i) Y a;obtain⟨k1,k2⟩:=yX a
   have same:∀m _,f B[m]=isE z (ds.getD m .non):=λm hm=>by
    have r:m<ds.length:=by rw[L.length,T];exact hm
    obtain⟨v1,j,J⟩:=L.get (cF r);obtain⟨u1,b,ru1⟩:=Y.get j;rw[cF hm]at b;cases b;obtain⟨_,d',v',r',G,h'⟩:=M B[m] (iO hm);have ev:=aA.inj G ru1;subst ev;obtain⟨b1,g⟩:=k1 ds[m] (iO r);rw[bV,cF r];show _=isE z ds[m];unfold isE;rw[g,(qV 19 r' (J.up i) h' g)]
    cases b1 <;> rfl
   have N:=wg (any_eq_true.mp k2);have h:ds.findIdx (isE z)<B.length:=by rw[<- T,<- L.length];exact N
   refine call_meets F.slot_list_index ⟨_,e0,rfl⟩ F.entry_list_index (F.args_list_index_2 _ _) (SeqAt.list_indexAt l B.toArray n ab #[] u f _ (by rw[size_toArray];exact h) (by rw[dq]at z1;lia) ?_ ?_) ⟨e0,λy hy=>(M y (by simpa using hy)).1,⟨.int _,H,I.tok _,⟨_,rfl⟩,k _ Hf H (Ext.refl i) rfl⟩⟩
   .simp only[sK,same _ h,bV,cF N];exact findIdx_getElem
   .intro m hm p;rw[sK,same m (by rw[size_toArray]at hm;exact hm),bV,cF _];have:=not_of_lt_findIdx p;exact this
  .nomatch e
 .nomatch e
def Qe{f:MF1}(h:PE X e (tBM X.K "list" (yY (Gx c X)) (tD (Gx c X) f) (i5 (tD (Gx c X) g) hJ))):DE c X e (m2 gM f g):=PE.imp h λE H Q A=>by
 obtain⟨Hf0,H0,Hf,M,d,st,z,k⟩:=A;obtain⟨x,y,p,r,j⟩:=mJ z
 obtain⟨ds,rfl⟩:∃ds,x=.lst ds:=by
  unfold gM at j
  grind
 refine⟨Hf0,H0,Hf,M,_,st,p,λv b3 H1 b m=>?_⟩;obtain⟨l,vs,el,q,L⟩:=id m;subst el;exact⟨.inl ⟨rfl,_,SqL.of (b.s _ _ q)⟩,Hf0,H0,b3,M,y,st.step b,r,λu bm H2 i B=>⟨bm,.lst ds,y,d,u,rfl,i.s,m.up i.f,B,j,λw a n G C=>k w a n ((b.trans i).trans G) C⟩⟩
def GJ{b:Type}:∀(a:List (Int×b)),(a.map (·.1)).Nodup->∀z∈a,a.find? (λy=>y.1==z.1)=aa z
 | [],_,_,h=>(dQ h).elim
 |y::a,nd,z,h=>by
  rw[bF,cf]at nd;rw[find?_cons]
  rcases bh.mp h with e |e
  .rw[e,beq_self_eq_true]
  .have:_=af:=beq_eq_false_iff_ne.mpr λq=>nd.1 (aJ.mpr ⟨z,e,q.symm⟩);rw[this];exact GJ a nd.2 z e
def DE.pe{f:MF1}(h:DE c X e f):PE X e (tD (Gx c X) f):=h
def DX.pe(h:DX c X e f):PE X e (tDX (Gx c X) f):=h
abbrev Qf(x y z:D):OD:=(uD x).bind λp=>(jf y).map λk=>(gL p.1 p.2 k).getD z
abbrev rg(f g h:MF1)(M:LS):OD:=(f M).bind λx=>(g M).bind λy=>(h M).bind λz=>Qf x y z
def Qg{o:Expr}(hu:X.A.units+64<cLine){f h:MF1}(ho:DE c X o f)(hk:DE c X a g)(hx:DE c X b h)(m:M2 X o "get" apos a b cpos):DE c X (.Call (.Attribute o "get" apos) [a,b] [] cpos) (rg f g h):=
 PE.imp (xI (by lia) ho hk hx m) λE H Q q_=>by
  obtain⟨Hf0,H0,Hf,M,d,st,e,k⟩:=q_;unfold rg at e;obtain⟨x,I,e⟩:=sR.mp e;obtain⟨y,J,e⟩:=sR.mp e;obtain⟨z,L,e⟩:=sR.mp e;obtain⟨p,N,e⟩:=sR.mp e;obtain⟨n,T,e⟩:=Option.map_eq_some_iff.mp e;refine⟨Hf0,H0,Hf,M,x,st,I,λv b3 H1 j r1=>?_⟩;obtain⟨l,vs,Y,rd,z0,r⟩:=GF N r1;subst Y;refine⟨l,rfl,.inl ⟨_,rd.up j.s⟩,Hf0,H0,b3,M,y,st.step j,J,λu bm H2 C r2=>⟨Hf0,H0,bm,M,z,(st.step j).step C,L,λw q G x3 r3=>?_⟩⟩;have U:=qT T r2;subst U;have i:=C.trans x3;refine⟨cI (p.1.zip vs) n,.inl ⟨_,n,(rd.up j.s).up i.h,rfl,rfl⟩,k _ q G (j.trans i) ?_⟩;obtain⟨h1,h2⟩:=uC (k:=n) z0 (r.up i.f);subst e
  cases hv:gL p.1 p.2 n with
  |none=>rw[h2 hv];exact r3
  |some d=>
   obtain⟨w',hw,B⟩:=h1 d hv;rw[hw];exact B
structure Foc(G:Gc)(Hf H:Hp)(o:O)(v:V)(fp:LAd)(o1:O)(v1:V)(f1:LAd)(R:O->O):Prop where
 r:OT G Hf H o1 v1 f1
 n:f1.Nodup
 sub:∀a∈f1,a∈fp
 back:∀(Hf' H':Hp) (o2:O) (f2:LAd),aq Hf Hf'->(∀b u,H b=aa u->b∉f1->H' b=aa u)->OT G Hf' H' o2 v1 f2 ->
  ∃fp',OT G Hf' H' (R o2) v fp'/\(∀a∈fp',a∈f2\/(a∈fp/\a∉f1))/\(f2.Nodup->(∀a∈f2,a∈fp->a∈f1)->fp'.Nodup)
def Foc.refl{o:O}(h:OT G Hf H o v fp)(n:fp.Nodup):Foc G Hf H o v fp o v fp id:=
 ⟨h,n,λ_ h=>h,λ_ _ _ f2 _ _ q=>⟨f2,q,λ_ h=>.inl h,λn _=>n⟩⟩
variable{v1:V}{f1 f2:LAd}{R R':O->O}
def Foc.trans{o o1 o2:O}{g:V}(F:Foc G Hf H o v fp o1 v1 f1 R)(F':Foc G Hf H o1 v1 f1 o2 g f2 R'):Foc G Hf H o v fp o2 g f2 (λx=>R (R' x)):=by
 refine⟨F'.r,F'.n,λa h=>F.sub a (F'.sub a h),λHf' H' m i s k h=>?_⟩;obtain⟨d,p,m1,j⟩:=F'.back Hf' H' m i s k h;obtain⟨fp',q,m2,l⟩:=F.back Hf' H' _ d s (λb u e c=>k b u e λz=>c (F'.sub b z)) p;refine⟨fp',q,λa ha=>?_,λnf f=>l (j nf λa ha c=>f a ha (F.sub a c)) λa ha c=>?_⟩
 .rcases m2 a ha with z |⟨z,z'⟩
  .rcases m1 a z with y |⟨y,y'⟩
   .exact .inl y
   .exact .inr ⟨F.sub a y,y'⟩
  .exact .inr ⟨z,λy=>z' (F'.sub a y)⟩
 .rcases m1 a ha with y |⟨y,_⟩
  .exact F'.sub a (f a y c)
  .exact y
variable{b:Addr}
def GK{o:O}{f:LAd}(h:OT G Hf H o v f)(e:H b=aa u)(t:ix u=ac):b∉f:=λz=>by
 obtain⟨d,c,a⟩:=OT.memM o v f h b z
 grind
def OTs.foc:∀{os:List O} {vs:LVv} {fp:LAd} {k:Nat} {o1:O},OTs G Hf H os vs fp->fp.Nodup->os[k]?=aa o1->∃v1 f1,vs[k]?=aa v1/\OT G Hf H o1 v1 f1/\f1.Nodup/\(∀a∈f1,a∈fp) /\
  ∀(Hf' H':Hp) (o2:O) (d:V) (f2:LAd),aq Hf Hf'->(∀b u,H b=aa u->(ix u=ac\/b∈fp)->b∉f1->H' b=aa u)->OT G Hf' H' o2 d f2 ->
  ∃fp',OTs G Hf' H' (os.set k o2) (vs.set k d) fp'/\(∀a∈fp',a∈f2\/(a∈fp/\a∉f1))/\(f2.Nodup->(∀a∈f2,a∈fp->a∈f1)->fp'.Nodup)
 | [],_,_,_,_,_,_,e=>by simp at e
 |o::os,_,_,0,o1,q5_,n,e'=>by
  obtain⟨v,r,f1,g,e,i,h2,m⟩:=q5_;cases e';subst e m;obtain⟨p,w,dj⟩:=e8.mp n;refine⟨v,f1,rfl,i,p,λa ha=>bS _ ha,λHf' H' o2 d f2 s k h=>⟨f2++g,?_,λa ha=>?_,λnf j=>(e8.mpr ⟨nf,w,λa ha b c z=>by subst z;exact dj a (j a ha (ce _ c)) a c rfl⟩)⟩⟩
  .rw[sP,sP];refine⟨d,r,f2,g,rfl,h,OTs.frameM s os r g h2 λb u c hm=>k b u c (hm.imp_right λy=>ce _ y) λz=>?_,rfl⟩
   rcases hm with t |t
   .exact GK i c t z
   .exact dj b z b t rfl
  .rcases bv.mp ha with z |z
   .exact .inl z
   .exact .inr ⟨ce _ z,λy=>dj a y a z rfl⟩
 |o::os,_,_,k+1,o1,q5_,n,e'=>by
  obtain⟨v,r,f,g,e,i,h2,m⟩:=q5_;subst e m;obtain⟨p,w,dj⟩:=e8.mp n;obtain⟨v1,f1,B,q,E,l,bk⟩:=OTs.foc h2 w e';refine⟨v1,f1,by rw[gU];exact B,q,E,λa ha=>ce _ (l a ha),λHf' H' o2 d f2 s k h=>?_⟩;obtain⟨x,I,A,C⟩:=bk Hf' H' o2 d f2 s (λb u c hm=>k b u c (hm.imp_right λy=>ce _ y)) h;refine⟨f++x,?_,λa ha=>?_,λnf j=>?_⟩
  .rw[p9,p9];refine⟨v,_,f,x,rfl,i.frame s λb u c hm=>k b u c (hm.imp_right λy=>bS _ y) λz=>?_,I,rfl⟩
   rcases hm with t |t
   .exact GK q c t z
   .exact dj b t b (l b z) rfl
  .rcases bv.mp ha with z |z
   .exact .inr ⟨bS _ z,λy=>dj a z a (l a y) rfl⟩
   .rcases A a z with y |⟨y,y'⟩
    .exact .inl y
    .exact .inr ⟨ce _ y,y'⟩
  .refine e8.mpr ⟨p,C nf λa ha c=>j a ha (ce _ c),λa ha b c z=>?_⟩;subst z
   rcases A a c with y |⟨y,_⟩
   .exact dj a ha a (l a (j a y (bS _ ha))) rfl
   .exact dj a ha a y rfl
def m9{b:Type}:∀{l:List b} {k:Nat} {x:b},l[k]?=aa x->l.set k x=l
 | [],_,_,e=>by simp at e
 | _::_,0,_,e=>by simp at e;subst e;rfl
 |a::l,k+1,x,e=>by rw[gU]at e;rw[p9,m9 e]
variable{os:List O}{o1:O}
def Foc.root{o:O}{a:Addr}{fs:LAd}{k:Nat}{W:List O->O}(ha:H a=aa u)(A:ix u=af)(L:OTs G Hf H os vs fs)(n:(a::fs).Nodup)(e:os[k]?=aa o1)
 (mk:∀Hf' H' d c,H' a=aa u->OTs G Hf' H' d vs c->d.length=os.length->OT G Hf' H' (W d) (.ref a) (a::c)):∃v1 f1,vs[k]?=aa v1/\Foc G Hf H o (.ref a) (a::fs) o1 v1 f1 (λx=>W (os.set k x)):=by
 obtain⟨w,nf⟩:=cf.mp n;obtain⟨v1,f1,i,q,y,m,bk⟩:=L.foc nf e;refine⟨v1,f1,i,q,y,λb f=>bq _ (m b f),λHf' H' o2 f2 s j h=>?_⟩;obtain⟨c,l,B,v⟩:=bk Hf' H' o2 v1 f2 s (λb u f _=>j b u f) h;rw[m9 i]at l;refine⟨a::c,mk Hf' H' _ c (j a u ha λz=>w (m a z)) l (by simp),λb f=>?_,λg r=>cf.mpr ⟨λz=>?_,v g λb f p=>r b f (bq _ p)⟩⟩
 .grind
 .grind
def Foc.at{o:O}(h:OT G Hf H (.at l o) v fp)(n:fp.Nodup):Foc G Hf H (.at l o) v fp o v fp (.at l):=
 ⟨h.2,n,λ_ h=>h,λ_ _ _ f2 _ _ q=>⟨f2,⟨h.1,q⟩,λ_ h=>.inl h,λn _=>n⟩⟩
def ar.foc{o o1 o2:O}(m:ar G Hf0 H0 Hf H E M)(es:M[i]?=aa (.deep o))(q:E[i]?=aa (aa v))(r:OT G Hf' H1 o v fp)(x:Ext Hf H Hf' H1)(F:Foc G Hf' H1 o v fp o1 v1 f1 R)
 (kk:∀b u,H1 b=aa u->b∉f1->H2 b=aa u)(new:OT G Hf' H2 o2 v1 f2)(J:f2.Nodup)(h2:∀a∈f2,a∈f1\/(H a=ab/\Hf' a=ab)):ar G Hf0 H0 Hf' H2 E (M.set i (.deep (R o2))):=by
 obtain⟨L,g,C,d,n,z⟩:=(m.at' i _ _ q es);cases C;have:=OT.funM o v fp g r (d.up x.f x.h);subst this;obtain⟨fp',B,mem,nd⟩:=F.back Hf' H2 o2 f2 (aq.refl _) kk new
 have c:∀a∈fp',a∈fp\/_:=λa ha=>by
  rcases mem a ha with y |⟨y,_⟩
  .rcases h2 a y with w |w
   .exact .inl (F.sub a w)
   .exact .inr w
  .exact .inl y
 refine m.chgX x es q (λb u j=>?_) ⟨v,fp',rfl,B,nd J λa ha j=>?_,λa ha=>?_⟩ λa p=>?_
 .by_cases h:b∈f1
  .exact .inl ⟨fp,d,F.sub b h⟩
  .exact .inr (kk b u j h)
 .rcases h2 a ha with y |y
  .exact y
  .obtain⟨u,e,_⟩:=OT.memM o v fp d a j;rw[y.1]at e
   nomatch e
 .rcases c a ha with y |y
  .obtain⟨u,e,I⟩:=OT.memM o v fp d a y;refine⟨(z a y).1,?_⟩;rw[x.n a u e I];exact(z a y).2
  .exact⟨m.ext.h.free y.1,y.2⟩
 .obtain⟨A,l,ha⟩:=p;have:=OT.funM _ _ _ _ B l;subst this
  rcases c a ha with y |y
  .exact .inl ⟨fp,d,y⟩
  .exact .inr y.1
def ar.was{o:O}(g:ar G Hf0 H0 Hf H E M)(es:M[i]?=aa (.deep o))(d:E[i]?=aa (aa v))(x:Ext Hf H Hf' H1)(r:OT G Hf' H1 o v fp):∀a∈fp,H a≠ab:=λa ha=>by
 obtain⟨l,b,e,c,n,z⟩:=g.at' i _ _ d es;cases e;have:=OT.funM o v fp b r (c.up x.f x.h);subst this;obtain⟨u,j,_⟩:=OT.memM o v fp c a ha
 grind
abbrev yZ:D->Option Key
 |.int i=>aa (.inl i)
 |.bl b=>aa (.inl (cond b 1 0))
 |.str x=>aa (.inr x)
 | _=>ab
abbrev rh:LD->Option (List Key)
 | []=>aa []
 |d::ds=>(yZ d).bind λk=>(rh ds).map (k::·)
abbrev ku:D->Option (List Key)
 |.tup ds=>rh ds
 | _=>ab
def Qh{k:Key}(h:yZ d=aa k)(r:Rep G H d v):kR k v:=by
 cases d with
 |int i=>cases h;exact .inl r
 |bl b=>cases h;exact .inr ⟨b,r,rfl⟩
 |str x=>cases h;exact r
 | _=>nomatch h
def GL{G:Gc}{H:Hp}:∀{ds:LD} {ks:List Key} {vs:LVv},rh ds=aa ks->am G H ds vs->KRs ks vs
 | [],_,_,h,r=>by cases h;cases (r);exact .nil
 |d::ds,ks,_,h,q4_=>by
  obtain⟨v,r,e,c,h2⟩:=q4_;subst e;dsimp only[rh]at h
  cases a:yZ d with
  |none=>rw[a]at h;cases h
  |some k=>
   simp only[a,az]at h
   cases b:rh ds with
   |none=>rw[b]at h;cases h
   |some f=>rw[b]at h;cases h;exact .cons (Qh a c) (GL b h2)
def rj{k:List Key}(h:ku d=aa k)(r:Rep G H d v):∃b,v=.ref b/\fm H b k:=by
 cases d with
 |tup ds=>obtain⟨a,vs,e,q,L⟩:=r;exact⟨a,e,vs,q,GL h L⟩
 | _=>nomatch h
abbrev aT{a:Type}[DecidableEq a](f:a):List a->Option Nat
 | []=>ab
 |n::ns=>if n=f then aa 0 else (aT f ns).map (· + 1)
def y4{a:Type}[DecidableEq a]{f:a}:∀{ns:List a} {k:Nat},aT f ns=aa k->k<ns.length
 | [],_,e=>by cases e
 |n::ns,k,e=>by
  dsimp only[aT]at e;split at e
  .cases e;exact qf _
  .cases h:aT f ns with
   |none=>rw[h]at e;cases e
   |some j=>rw[h]at e;cases e;exact Nat.succ_lt_succ (y4 h)
def y6{a:Type}[DecidableEq a]{b:Type}{f:a}:∀{ns:List a} {k:Nat} (vs:List b),aT f ns=aa k->(ns.zip vs).lookup f=vs[k]?
 | [],_,_,e=>by cases e
 | _::_,_,[],_=>by rfl
 |n::ns,k,v::vs,e=>by
  dsimp only[aT]at e;simp only[e7,qc];split at e
  .rename_i h;subst h;cases e;rw[beq_self_eq_true];rfl
  .rename_i h;simp only[beq_eq_false_iff_ne.mpr (eG h)]
   cases h':aT f ns with
   |none=>rw[h']at e;cases e
   |some j=>
    rw[h']at e;cases e;exact y6 vs h'
def pf{a:Type}[DecidableEq a]{f:a}:∀{ns:List a} {k:Nat} (vs:LVv),aT f ns=aa k->cI (ns.zip vs) f=vs[k]?
 | [],_,_,e=>by cases e
 | _::_,_,[],_=>by rfl
 |n::ns,k,v::vs,e=>by
  dsimp only[aT]at e;simp only[e7];split at e
  .rename_i h;cases e;rw[qx h];rfl
  .rename_i h;rw[ow h]
   cases h':aT f ns with
   |none=>rw[h']at e;cases e
   |some j=>
    rw[h']at e;cases e;exact pf vs h'
def rm{a:Type}[DecidableEq a]{f:a}:∀{ns:List a} (vs:LVv),aT f ns=ab->cI (ns.zip vs) f=ab
 | [],_,_=>rfl
 | _::_,[],_=>by rfl
 |n::ns,v::vs,e=>by
  dsimp only[aT]at e;simp only[e7];split at e
  .cases e
  .rename_i h;rw[ow h]
   cases h':aT f ns with
   |none=>exact rm vs h'
   |some j=>rw[h']at e;cases e
def Foc.up{o o1:O}(F:Foc G Hf H o v fp o1 v1 f1 R)(f:aq Hf Hf')(s:aq H H'):Foc G Hf' H' o v fp o1 v1 f1 R:=
 ⟨F.r.up f s,F.n,F.sub,λbm H2 o2 f2 s2 k h=>F.back bm H2 o2 f2 (f.trans s2) (λb u e a=>k b u (s b u e) a) h⟩
nonrec def Xp:=LS->Option (O×(O->O))
inductive tDP(G:Gc)(i:Nat)(f:Xp)(E:St)(H:Hp)(Q:VK):Prop
 |mk:∀Hf0 H0 Hf M o1 R,ar G Hf0 H0 Hf H E M->f M=aa (o1,R)->(∀o v fp v1 f1 Hf' H',M[i]?=aa (.deep o)->E[i]?=aa (aa v)->Ext Hf H Hf' H'->OT G Hf' H' o v fp->Foc G Hf' H' o v fp o1 v1 f1 R->Q v1 H')->tDP G i f E H Q
abbrev DP(c:Str->Addr)(X:Cx)(e:Expr)(i:Nat)(f:Xp):Prop:=PE X e (tDP (Gx c X) i f)
abbrev aH(i:Nat):Xp:=λM=>match M[i]? with
 |some (.deep (.at l o))=>aa (o,.at l)
 |some (.deep o)=>aa (o,id)
 | _=>ab
abbrev O.fld(cn f:Str):O->Option (O×(O->O))
 |.ins c ns os=>if c=cn then (aT f ns).bind λk=>(os[k]?).map λo1=>(o1,λx=>.ins c ns (os.set k x)) else ab
 | _=>ab
abbrev aU(cn f:Str)(p:Xp):Xp:=λM=>(p M).bind λq=>(q.1.fld cn f).map λr=>(r.1,λx=>q.2 (r.2 x))
abbrev O.key(k:List Key):O->Option (O×(O->O))
 |.dT ks os=>(aT k ks).bind λj=>(os[j]?).map λo1=>(o1,λx=>.dT ks (os.set j x))
 | _=>ab
abbrev kz(p:Xp)(g:MF1):Xp:=λM=>(p M).bind λq=>(g M).bind λd=>(ku d).bind λk=>(q.1.key k).map λr=>(r.1,λx=>q.2 (r.2 x))
abbrev fzs:List O->OLD
 | []=>aa []
 |.fz d::os=>(fzs os).map (d::·)
 | _=>ab
def y7:∀(ds:LD),fzs (ds.map .fz)=aa ds
 | []=>rfl
 |d::ds=>by rw[bF,fzs,y7 ds];rfl
def GM:∀{os:List O} {ds:LD},fzs os=aa ds->os=ds.map .fz
 | [],_,h=>by cases h;rfl
 |o::os,ds,h=>by
  cases o with
  |fz d=>
   simp only[fzs]at h
   cases e:fzs os with
   |none=>rw[e]at h;cases h
   |some a=>rw[e]at h;cases h;rw[bF,<- GM e]
  | _=>cases h
def OTs.unfz{G:Gc}{Hf H:Hp}:∀{ds:LD} {vs:LVv} {fs:LAd},OTs G Hf H (ds.map .fz) vs fs->am G Hf ds vs/\fs=[]
 | [],_,_,h=>⟨h.1,h.2⟩
 |d::ds,_,_,q3_=>by
  obtain⟨v,r,f1,f2,e,c,h2,f⟩:=q3_;obtain⟨a,b⟩:=OTs.unfz h2;refine⟨⟨v,r,e,c.1,a⟩,?_⟩;rw[f,c.2,b];rfl
abbrev pD(p:Xp)(M:LS):OD:=(p M).bind λq=>match q.1 with
 |.fz d=>aa d
 | _=>ab
abbrev pB(p:Xp)(M:LS):OD:=(p M).bind λq=>if q.1.kn then aa q.1.toD else ab
abbrev O.items:O->OLD
 |.lst os=>fzs os
 | _=>ab
abbrev pC(p:Xp)(M:LS):OLD:=(p M).bind λq=>q.1.items
inductive tDL(G:Gc)(f:MF2)(E:St)(H:Hp)(Q:VK):Prop
 |mk:∀Hf0 H0 Hf M ds,ar G Hf0 H0 Hf H E M->f M=aa ds->(∀a vs Hf' H',Ext Hf H Hf' H'->H' a=aa (.lst vs)->am G Hf' ds vs->Q (.ref a) H')->tDL G f E H Q
abbrev DL(c:Str->Addr)(X:Cx)(e:Expr)(f:MF2):Prop:=PE X e (tDL (Gx c X) f)
def bc{c d:Type}{a:Option c}{f:c->Option d}{b:d}(h:a.bind f=aa b):∃x,a=aa x/\f x=aa b:=by
 cases a with
 |none=>nomatch h
 |some x=>exact⟨x,rfl,h⟩
def dO{c d:Type}{a:Option c}{f:c->d}{b:d}(h:a.map f=aa b):∃x,a=aa x/\f x=b:=by simp_all
def d3(h:PE X e (cQ i)):DP c X e i (aH i):=PE.imp h λE H Q j=>by
 obtain⟨Hf0,H0,Hf,M,o1,R,d,a,g⟩:=j
 have main:∀o,M[i]?=aa (.deep o)->(∀v fp,OT _ Hf H o v fp->fp.Nodup->Foc _ Hf H o v fp o1 v fp R)->cQ i E H Q:=λo es F=>by
  obtain⟨v,b,u,fp,f,r,n,z⟩:=d.slot es;subst f;exact⟨u,b,g o u fp u fp Hf H es b (Ext.refl d.sub) r (F u fp r n)⟩
 unfold aH at a;split at a
 .rename_i l o es;cases a;exact main _ es λv fp r n=>Foc.at r n
 .rename_i o _ es;cases a;exact main _ es λv fp r n=>Foc.refl r n
 .grind
variable{o2:O}
def Qi{cn f:Str}(h:o1.fld cn f=aa (o2,R)):∃ns os k,o1=.ins cn ns os/\aT f ns=aa k/\os[k]?=aa o2/\R=λx=>.ins cn ns (os.set k x):=by
 cases o1 with
 |ins c ns os=>
  replace h:(if c=cn then (aT f ns).bind λk=>(os[k]?).map λo1=>_ else ab)=aa _:=h;split at h
  .rename_i d;subst d;obtain⟨k,a,h⟩:=bc h;obtain⟨o,b,h⟩:=dO h;cases h;exact⟨ns,os,k,rfl,a,b,rfl⟩
  .nomatch h
 | _=>nomatch h
def Foc.fld{o o1 o2:O}{cn f:Str}(F:Foc G Hf H o v fp o1 v1 f1 R)(h:o1.fld cn f=aa (o2,R')):∃(a dx:Addr) (ns:LSt) (vs:LVv) (b:V) (f2:LAd),v1=.ref a/\H a=aa (.ins (G.cl cn) dx (ns.zip vs))/\(ns.zip vs).lookup f=aa b/\Foc G Hf H o v fp o2 b f2 (λx=>R (R' x)):=by
 obtain⟨ns,os,k,rfl,g,i,rfl⟩:=Qi h;obtain⟨a,dx,vs,fs,rfl,ha,hz,L,rfl⟩:=F.r;obtain⟨b,f2,j,e⟩:=Foc.root (W:=.ins cn ns) ha rfl L F.n i λHf' H' l c d r _=>⟨a,dx,vs,c,rfl,d,hz,r,rfl⟩;exact⟨a,dx,ns,vs,b,f2,rfl,ha,(y6 vs g).trans j,F.trans e⟩
variable{p:Xp}
def eq{o:Expr}(cn:Str)(m:Cls X.K (c cn))(hn:cH X.K (c cn) fl)(n:DP c X o i p)(l:n9 o fl X.env (eval o X.env)=eval o X.env:=by rfl):DP c X (.Attribute o fl pos) i (aU cn fl p):=PE.imp (Eg n l) λE H Q w=>by
 obtain⟨Hf0,H0,Hf,M,o2,R,y,b,u⟩:=w;obtain⟨q,f,b⟩:=bc b;obtain⟨r,g,b⟩:=dO b;cases b;refine⟨Hf0,H0,Hf,M,q.1,q.2,y,f,λt v fp v1 f1 Hf' H' es j x rt F=>?_⟩;obtain⟨a,dx,ns,vs,d,f2,h,ha,el,e⟩:=F.fld g;exact⟨a,_,dx,_,d,h,ha,m,hn,el,u t v fp d f2 Hf' H' es j x rt e⟩
def fm.same{k:List Key}(h:fm H b k)(s:aq H H'):fm H' b k:=h.up λb C e=>s _ _ e
def Qj{k:List Key}(h:o1.key k=aa (o2,R)):∃ks os j,o1=.dT ks os/\aT k ks=aa j/\os[j]?=aa o2/\R=λx=>.dT ks (os.set j x):=by
 cases o1 with
 |dT ks os=>
  obtain⟨j,a,h⟩:=bc h;obtain⟨o,b,h⟩:=dO h;cases h
  exact⟨ks,os,j,rfl,a,b,rfl⟩
 | _=>nomatch h
def Foc.key{o o1 o2:O}{k:List Key}(F:Foc G Hf H o v fp o1 v1 f1 R)(h:o1.key k=aa (o2,R')):∃a kvs b f2,v1=.ref a/\H a=aa (.dT kvs)/\cI kvs k=aa b/\Foc G Hf H o v fp o2 b f2 (λx=>R (R' x)):=by
 obtain⟨ks,os,j,rfl,f,g,rfl⟩:=Qj h;obtain⟨a,vs,fs,rfl,ha,hz,L,rfl⟩:=F.r;obtain⟨b,f2,i,e⟩:=Foc.root (W:=.dT ks) ha rfl L F.n g λHf' H' l c d r _=>⟨a,vs,c,rfl,d,hz,r,rfl⟩;exact⟨a,ks.zip vs,b,f2,rfl,ha,(pf vs f).trans i,F.trans e⟩
def GN{o:Expr}(U:X.A.units+1<cLine)(N:DP c X o i p)(L:DE c X e g)(T:qy e:=by exact λ_ _=>rfl):DP c X (.Subscript o e pos) i (kz p g):=PE.imp (xH U N L T) λE H Q q_=>by
 obtain⟨Hf0,H0,Hf,M,o2,R,m,j,Y⟩:=q_;obtain⟨q,w,j⟩:=bc j;obtain⟨d,z,j⟩:=bc j;obtain⟨k,B,j⟩:=bc j;obtain⟨r,C,j⟩:=dO j;cases j;refine⟨Hf0,H0,Hf,M,q.1,q.2,m,w,λt v fp v1 f1 b3 H1 es J x rt F=>⟨Hf0,H0,b3,M,d,m.step x,z,λy bm H2 l r2=>?_⟩⟩;obtain⟨b,I,tk⟩:=rj B r2;obtain⟨a,kvs,n,f2,G,ha,el,u⟩:=(F.up l.f l.h).key C;subst I;refine⟨a,n,G,?_,Y t v fp n f2 bm H2 es J (x.trans l) (rt.up l.f l.h) u⟩;rw[<- el];exact fO.t ha (tk.same l.s)
def GO(h:DP c X e i p):DE c X e (pD p):=PE.imp h λE H Q j=>by
 obtain⟨Hf0,H0,Hf,M,d,l,a,g⟩:=j;obtain⟨q,f,a⟩:=bc a;refine⟨Hf0,H0,Hf,M,q.1,q.2,l,f,λt v fp v1 f1 b3 H1 es m x rt F=>?_⟩
 cases b:q.1 with
 |fz d'=>rw[b]at a;cases a;have r:=F.r;rw[b]at r;exact g _ _ _ x r.1
 | _=>simp only[b]at a;nomatch a
def y8(h:DP c X e i p):DB c X e (pB p):=PE.imp h λE H Q j=>by
 obtain⟨Hf0,H0,Hf,M,d,l,a,g⟩:=j;obtain⟨q,b,a⟩:=bc a;split at a
 .rename_i f;cases a;exact⟨Hf0,H0,Hf,M,q.1,q.2,l,b,λt v fp v1 f1 b3 H1 es m x rt F=>g _ _ _ x (F.r.rep x.s f)⟩
 .grind
def rn(h:o1.items=aa ds):o1=.lst (ds.map .fz):=by
 cases o1 with
 |lst os=>rw[GM h]
 | _=>nomatch h
def y9(h:DP c X e i p):DL c X e (pC p):=PE.imp h λE H Q g=>by
 obtain⟨Hf0,H0,Hf,M,ds,j,b,f⟩:=g;obtain⟨q,d,b⟩:=bc b;refine⟨Hf0,H0,Hf,M,q.1,q.2,j,d,λt v fp v1 f1 b3 H1 es l x rt F=>?_⟩;have r:=F.r;rw[rn b]at r;obtain⟨a,vs,fs,rfl,ha,L,_⟩:=r;exact f a vs b3 H1 x ha L.unfz.1
def DL.dc{f:MF2}(h:DL c X e f):DC c X e f:=PE.imp h λE H Q d=>by
 obtain⟨Hf0,H0,Hf,M,ds,st,a,k⟩:=d;exact⟨Hf0,H0,Hf,M,ds,st,a,λl vs Hf' H' x b r=>k l vs Hf' H' x (.inl (SqL.of b)) r⟩
def DL.db{f:MF2}(h:DL c X e f):DB c X e (aO f):=PE.imp h λE H Q i=>by
 obtain⟨Hf0,H0,Hf,M,d,st,a,k⟩:=i;obtain⟨ds,b,a⟩:=dO a;subst a;exact⟨Hf0,H0,Hf,M,ds,st,b,λl vs Hf' H' x g r=>k _ Hf' H' x ⟨l,vs,rfl,g,r.up x.s⟩⟩
abbrev O.got(k:List Key):O->OLD
 |.dT ks os=>match aT k ks with
  |some j=>(os[j]?).bind O.items
  |none=>aa []
 | _=>ab
abbrev hZ(p:Xp)(g:MF1)(M:LS):OLD:=(p M).bind λq=>(g M).bind λd=>(ku d).bind λk=>q.1.got k
section
variable{o:Expr}
def za{w:Pos}(hu:X.A.units+1<cLine)(ho:DP c X o i p)(hk:DE c X e g)(m:M2 X o "get" apos e (.List [] w) pos):DL c X (.Call (.Attribute o "get" apos) [e,.List [] w] [] pos) (hZ p g):=PE.imp (xI hu ho hk (tI dZ) m) λE H Q q_=>by
 obtain⟨Hf0,H0,Hf,M,ds,so,u,Y⟩:=q_;obtain⟨q,e1,u⟩:=bc u;obtain⟨d,e2,u⟩:=bc u;obtain⟨k,e3,u⟩:=bc u;refine⟨Hf0,H0,Hf,M,q.1,q.2,so,e1,λt v fp v1 f1 b3 H1 es ev x rt F=>?_⟩
 cases U:q.1 with
 |dT ks os=>
  rw[U]at u F;obtain⟨a,vs,fs,rfl,ha,hz,L,rfl⟩:=F.r;refine⟨a,rfl,.inr ⟨_,.inl ha⟩,Hf0,H0,b3,M,d,so.step x,e2,λy bm H2 z G=>⟨cg _,λl hl=>?_⟩⟩;obtain⟨b,eb,tk⟩:=rj e3 G;subst eb;have B:Ext bm H2 bm (upd H2 l (.lst [])):=Ext.tmp z.s hl;refine⟨cI _ k,fO.t (B.h _ _ (z.h _ _ ha)) (tk.same (z.s.trans B.h)),?_⟩
  replace u:(match aT k ks with |some j=>(os[j]?).bind O.items |none=>aa [])=aa ds:=u
  cases C:aT k ks with
  |none=>
   rw[C]at u;cases u;rw[rm vs C]
   exact Y l [] bm _ ((x.trans z).trans B) aZ .nil
  |some j=>
   rw[C]at u;obtain⟨o2,eo,u⟩:=bc u;obtain⟨v2,f2,I,F2⟩:=Foc.root (o:=.dT ks os) (W:=.dT ks) ha rfl L F.n eo λHf' H' os' J N r _=>⟨a,vs,J,rfl,N,hz,r,rfl⟩;have G:=(F2.up (z.f.trans B.f) (z.h.trans B.h)).r;rw[rn u]at G;obtain⟨b2,ws,fs2,rfl,hb,T,_⟩:=G;rw[pf vs C,I]
   exact Y b2 ws bm _ ((x.trans z).trans B) hb T.unfz.1
 | _=>rw[U]at u;nomatch u
end
def OTs.stay{fs:LAd}{c:HO}(r:OTs G Hf H os us fs)(d:H l=aa c)(e:ix c=af)(hn:l∉fs)(f:aq Hf Hf')(s:∀b u,b≠l->H b=aa u->H' b=aa u):OTs G Hf' H' os us fs:=
 OTs.frameM f os us fs r λb u a hm=>s b u (λz=>by
  subst z;rw[d]at a;cases a
  rcases hm with t |t
  .grind
  .exact hn t) a
abbrev kA(i:Nat)(p:Xp)(f:MF1)(M:LS):Option Fl:=(p M).bind λq=>(f M).bind λd=>(q.1.appd d).map λo2=>.nx (M.set i (.deep (q.2 o2)))
abbrev O.extd(ds:LD):O->Option O
 |.lst os=>if os.length+ds.length<=16777216 then aa (.lst (os++ds.map .fz)) else ab
 | _=>ab
abbrev ph(i:Nat)(p:Xp)(f:MF2)(M:LS):Option Fl:=(p M).bind λq=>(f M).bind λds=>(q.1.extd ds).map λo2=>.nx (M.set i (.deep (q.2 o2)))
abbrev O.pop0:O->Option (D×O)
 |.lst (.fz d::os)=>aa (d,.lst os)
 | _=>ab
abbrev rp(i:Nat)(p:Xp):Xe:=λM=>(p M).bind λq=>q.1.pop0.map λr=>(r.1,M.set i (.deep (q.2 r.2)))
abbrev O.setAt(k:D)(d:D)(o:O):Option O:=match k with
 |.int n=>o.items.bind λds=>(ixN ds.length n).map λj=>.lst ((ds.set j d).map .fz)
 | _=>ab
abbrev nh(i:Nat)(p:Xp)(fk fv:MF1)(M:LS):Option Fl:=(fv M).bind λd=>(p M).bind λq=>(fk M).bind λx=>(q.1.setAt x d).map λo2=>.nx (M.set i (.deep (q.2 o2)))
abbrev O.putNew(o x:O)(k:List Key):Option O:=match o with
 |.dT ks os=>if aT k ks=ab/\ks.length<16777216 then aa (.dT (ks++[k]) (os++[x])) else ab
 | _=>ab
abbrev pi(i:Nat)(p:Xp)(fk fv:MF1)(M:LS):Option Fl:=(fv M).bind λd=>(p M).bind λq=>(fk M).bind λx=>(ku x).bind λk=>(q.1.putNew (.fz d) k).map λo2=>.nx (M.set i (.deep (q.2 o2)))
def Qk{f:MF1}(h:PS X st (mC (tBM X.K "list" tL (tDP (Gx c X) i p) (i5 (tD (Gx c X) f) hJ)))):DS c X st (kA i p f):=PS.imp h λV4 E H L=>by
 obtain⟨Hf0,H0,Hf,M,o,y,j,J⟩:=L;obtain⟨q,B,j⟩:=bc j;obtain⟨d,C,j⟩:=bc j;obtain⟨o2,G,j⟩:=dO j;subst j;refine⟨Hf0,H0,Hf,M,q.1,q.2,y,B,λt v fp v1 f1 b3 H1 es I x rt F=>?_⟩;obtain⟨l,us,el,A,hz,Q,next⟩:=GA G F.r;subst el;refine⟨.inl ⟨rfl,_,SqL.of A⟩,Hf0,H0,b3,M,d,y.step x,C,λw bm H2 g N=>?_⟩;refine⟨l,us,w,rfl,rfl,g.h _ _ A,by rw[dq];exact hz,J E bm _ (x.trans g).f ?_⟩
 exact y.foc es I (rt.up g.f g.h) (x.trans g) (F.up g.f g.h) (λb u m hn=>by rw[aK (λz=>hn (by grind))];exact m)
  (next bm _ w F.n g.f (λb u m e=>by rw[aK m];exact g.h b u e) aZ N) F.n λa ha=>.inl ha
def Ql{f:MF2}(h:PS X st (mC (tBM X.K "list" xC (tDP (Gx c X) i p) (i5 (tDL (Gx c X) f) hJ)))):DS c X st (ph i p f):=PS.imp h λV4 E H T=>by
 obtain⟨Hf0,H0,Hf,M,o,y,j,Q⟩:=T;obtain⟨q,I,j⟩:=bc j;obtain⟨ds,J,j⟩:=bc j;obtain⟨o2,g,j⟩:=dO j;subst j;refine⟨Hf0,H0,Hf,M,q.1,q.2,y,I,λt v fp v1 f1 b3 H1 es N x rt F=>?_⟩
 cases B:q.1 with
 |lst os=>
  rw[B]at g F;replace g:(if os.length+ds.length<=16777216 then aa _ else ab)=aa o2:=g;split at g
  .rename_i hz;cases g;obtain⟨l,us,fs,rfl,w,L,rfl⟩:=F.r;refine⟨.inl ⟨rfl,_,SqL.of w⟩,Hf0,H0,b3,M,ds,y.step x,J,λb A bm H2 d m G=>?_⟩;refine⟨l,b,us,A,rfl,rfl,(d.h _ _ w),m,by rw[dq,<- L.length,<- G.length];exact hz,Q E bm _ (x.trans d).f ?_⟩;have o1:OTs _ bm (upd H2 l (.lst (us++A))) os us fs:=L.stay w rfl ((cf.mp F.n).1) d.f λb u m e=>by rw[aK m];exact d.h b u e
   have C:=o1.append (OTs.fz G);rw[bP]at C
   exact y.foc es N (rt.up d.f d.h) (x.trans d) (F.up d.f d.h) (λb u m hn=>by rw[aK (λz=>hn (by rw[z];exact aF))];exact m)
    ⟨l,us++A,fs,rfl,aZ,C,rfl⟩ F.n λa ha=>.inl ha
  .nomatch g
 | _=>rw[B]at g;nomatch g
def Qm(h:PE X e (tBM X.K "list" Ew (tDP (Gx c X) i p) (i5 (tC (.int 0)) hJ))):DX c X e (rp i p):=PE.imp h λE H Q q_=>by
 obtain⟨Hf0,H0,Hf,M,d,ρ',J,m,Y⟩:=q_;obtain⟨q,N,m⟩:=bc m;obtain⟨r,j,m⟩:=dO m;cases m;refine⟨Hf0,H0,Hf,M,q.1,q.2,J,N,λt v fp v1 f1 b3 H1 es T x rt F=>?_⟩
 cases I:q.1 with
 |lst os=>
  rw[I]at j F
  cases os with
  |nil=>nomatch j
  |cons o1 os=>
   cases o1 with
   |fz d=>
    cases j;obtain⟨l,us,fs,rfl,A,L,rfl⟩:=F.r;obtain⟨w,g,g1,G,rfl,C,B,rfl⟩:=L;obtain⟨rd,rfl⟩:=C;refine⟨.inl ⟨rfl,_,SqL.of A⟩,l,w::g,0,0,w,rfl,rfl,A,by decide,by decide,?_,rfl,?_⟩
    .have U:(decide ((0:Int)<=0) && decide (0<((w::g).length:Int)))=ac:=by simp
     unfold seqIndex?;rw[if_neg (show ¬(0:Int)<0 by decide),if_pos U];rfl
    .have nl:=(cf.mp F.n).1;refine Y w b3 _ x.f ?_ rd;have o1:OTs _ b3 (upd H1 l (.lst g)) os g G:=B.stay A rfl nl (aq.refl _) λb u y e=>by rw[aK y];exact e
     exact J.foc es T rt x F (λb u y hn=>by rw[aK (λz=>hn (by rw[z];exact aF))];exact y)
      ⟨l,g,G,rfl,aZ,o1,rfl⟩ F.n λa ha=>.inl ha
   | _=>nomatch j
 | _=>rw[I]at j;nomatch j
def GP(hp:PS X st (i4 (tD (Gx c X) fv) (wZ (tDP (Gx c X) i p) (tD (Gx c X) fk) xu))):DS c X st (nh i p fk fv):=PS.imp hp λV4 E H q_=>by
 obtain⟨Hf0,H0,Hf,M,o,B,e,kq⟩:=q_;obtain⟨d,J,e⟩:=bc e;obtain⟨q,N,e⟩:=bc e;obtain⟨k,Q,e⟩:=bc e;obtain⟨o2,m,e⟩:=dO e;subst e;refine⟨Hf0,H0,Hf,M,d,B,J,λw b3 H1 C r1=>⟨Hf0,H0,b3,M,q.1,q.2,B.step C,N,λt v fp v1 f1 bm H2 es Y G rt F=>⟨Hf0,H0,bm,M,k,(B.step C).step G,Q,λy x I g r3=>?_⟩⟩⟩
 cases k with
 |int n=>
  obtain⟨ds,T,m⟩:=bc (m);obtain⟨j,U,m⟩:=dO m;subst m;have A:=F.up g.f g.h;rw[rn T]at A;obtain⟨l,us,fs,rfl,ql,L,e⟩:=A.r;obtain⟨rd,rfl⟩:=L.unfz;refine⟨l,us,n,j,rfl,r3,ql,by rw[<- rd.length];exact U,kq E x _ ((C.trans G).trans g).f ?_⟩;have nf:OTs _ x (upd I l (.lst (us.set j w))) _ _ []:=OTs.fz (rd.set j (r1.up (G.f.trans g.f)))
  have:=(B.step C).foc es Y (rt.up g.f g.h) (G.trans g) A (λb u hb hn=>by rw[aK (λz=>hn (by rw[e,z];exact aF))];exact hb)
   (o2:=.lst _) ⟨l,us.set j w,[],rfl,aZ,nf,rfl⟩ (by rw[<- e];exact A.n) λa ha=>.inl (by rw[e];exact ha)
  exact this
 | _=>nomatch m
def Qo{a:Type}[DecidableEq a]{k:a}{ks:List a}(hz:ks.length=vs.length)(h:aT k ks=ab):dH (ks.zip vs) k v=(ks++[k]).zip (vs++[v]):=by
 unfold dH;rw[tO,rm vs h,if_neg (by simp),zip_append hz];rfl
def GQ{ks:List (List Key)}{x:O}{k:List Key}{g:LAd}{w:V}(r:OT G Hf H (.dT ks os) (.ref l) f1)(n:f1.Nodup)(a:aT k ks=ab)(f:aq Hf Hf')(s:∀b u,b≠l->H b=aa u->H' b=aa u):
  ∃kvs,H l=aa (.dT kvs)/\kvs.length=ks.length/\cI kvs k=ab/\l∈f1/\(H' l=aa (.dT (dH kvs k w))->OT G Hf' H' x w g->OT G Hf' H' (.dT (ks++[k]) (os++[x])) (.ref l) (f1++g)):=by
 obtain⟨h,vs,fs,el,c,hz,L,rfl⟩:=r;cases el;refine⟨ks.zip vs,c,by rw[nU];lia,rm vs a,aF,λd e=>⟨l,vs++[w],fs++g,rfl,?_,by simp[hz],((L.stay c rfl (cf.mp n).1 f s).append (.one e)),rfl⟩⟩;rw[d,Qo hz a]
def Qp{x:O}{k:List Key}(h:o1.putNew x k=aa o2):∃ks os,o1=.dT ks os/\aT k ks=ab/\ks.length<16777216/\o2=.dT (ks++[k]) (os++[x]):=by
 cases o1 with
 |dT ks os=>
  replace h:(if aT k ks=ab/\ks.length<16777216 then aa _ else ab)=aa o2:=h;split at h
  .rename_i a;cases h;exact⟨ks,os,rfl,a.1,a.2,rfl⟩
  .nomatch h
 | _=>nomatch h
def Qq(hp:PS X st (xG (tDP (Gx c X) i p) (tD (Gx c X) fk) (tD (Gx c X) fv))):DS c X st (pi i p fk fv):=PS.imp hp λV4 E H q_=>by
 obtain⟨Hf0,H0,Hf,M,o,A,g,kq⟩:=q_;obtain⟨d,U,g⟩:=bc g;obtain⟨q,Y,g⟩:=bc g;obtain⟨y,e3,g⟩:=bc g;obtain⟨k,e5,g⟩:=bc g;obtain⟨o2,e4,g⟩:=dO g;subst g;refine⟨Hf0,H0,Hf,M,d,A,U,λw b3 H1 B r1=>⟨Hf0,H0,b3,M,q.1,q.2,A.step B,Y,λt v fp v1 f1 bm H2 es ev C rt F=>⟨Hf0,H0,bm,M,y,(A.step B).step C,e3,λz G T j r3=>?_⟩⟩⟩;obtain⟨ks,os,h1,hk,N,rfl⟩:=Qp e4;have m:=F.up j.f j.h;rw[h1]at m;obtain⟨b,rfl,tk⟩:=rj e5 r3;obtain⟨l,vs,fs,rfl,Q,hz,L,g⟩:=id m.r;obtain⟨kvs,x,J,hv,lm,nw⟩:=GQ (H':=upd T l (.dT _)) m.r m.n hk (aq.refl _) λb u I e=>by rw[aK I];exact e
 rw[Q]at x;cases x;refine⟨l,_,rfl,li.t Q (tk.same j.s) (by rw[dq,J];exact N),kq E G _ ((B.trans C).trans j).f ?_⟩
 exact(A.step B).foc es ev (rt.up j.f j.h) (C.trans j) m (λb u I hn=>by rw[aK (λz=>hn (by rw[z];exact lm))];exact I)
  (nw aZ ⟨r1.up (C.f.trans j.f),rfl⟩) (by rw[bP];exact m.n) λa ha=>.inl (by rw[bP]at ha;exact ha)
section
variable{prog:b9}{w:World}{K:Type}[DecidableEq K]{kn:HeapKind prog w K}{A:b6}{V4:PRS}{s:ah}
def Qr{d b:Addr}{C:List (K×Addr×Value)}{k:K}{dv:Value}{Q:PRS}(h:kn.room A)(f:kn.is s.heap k b)(hm:s.heap.DictOfH kn d C)(hz:C.length<=aS)
 (l:∀q,atKey C k=aa q->Q q.2 {s with toks:=s.toks+kn.draws k})
 (h2:atKey C k=ab->∀h',h'.DictOfH kn d (storedH C k b dv)->f9 d s.heap h'->Q dv {s with heap:=h',toks:=s.toks+kn.draws k}):
  wpAny @12 A (dictSetDefault d (.ref b) dv) Q V4 s:=by
 obtain⟨p,i,ep,go,m,a,el,all,nd⟩:=hm;unfold dictSetDefault
 try with_reducible refine jB ?_
 refine aj (kn.pyHash h f ?_);refine aj (wpAny_dictFind_heap h f go a el all nd (λno=>?_) λj q g=>?_)
 .have n:=not_mem_keys_of_get no;have z:=atKey_none_of_get no
  refine aj (kZ (aj (wpAny_updateDictKeys (hz:=by have e:=size_of_entries el; lia) go a (aC (h2 z _ ⟨_,_,ep + 1,oh _ go (Obj.isFreed_of_dict (Obj.data_mapDictKeys a _)),
   m.mapDictKeys _,Obj.data_mapDictKeys a _,?_,?_,?_⟩ (oi ..))))))
  .rw[storedH_new z];simp[el,entryOfKey]
  .rw[storedH_new z];intro y c
   rcases bv.mp c with c |c
   .exact kn.keeps (all y c) go a (oi ..)
   .rw[bE.mp c];exact kn.keeps f go a (oi ..)
  .rw[storedH_new z,a8,e8]
   grind
 .refine aj (wpAny_dictEntries go a ?_);rw[entry_at el j,g];exact aj (kZ (aC (l q (atKey_of_get nd g))))
def Qs(kn:HeapKind prog w K)(d b:Addr)(hd:(d==gY)=af)(dv:Value):
  MeetsIn prog w (eK.«dict.setdefault» ⟨[.ref d,.ref b,dv],[]⟩) (λA R s=>kn.room A.in1/\∃ k C,kn.is s.heap k b/\s.heap.DictOfH kn d C/\C.length<=aS /\
   (∀q,atKey C k=aa q->R (.ok (.ret q.2)) {s with toks:=s.toks+kn.draws k}) /\
   (atKey C k=ab->∀h',h'.DictOfH kn d (storedH C k b dv)->f9 d s.heap h'->R (.ok (.ret dv)) {s with heap:=h',toks:=s.toks+kn.draws k})):=
 .of_wp λA R s i=>by
  obtain⟨h,k,C,f,hm,hz,e,h2⟩:=i;refine aj ?_;refine aj (wpAny_notOrdered_dict hm.typeIs ?_);refine aC ?_;show wpAny _ _ (if _=ac then _ else _) _ _ s;rw[hd,if_neg @3];exact aj (Qr h f hm hz (λq g=>aC ⟨q.2,rfl,e q g⟩) λhn h' a c=>aC ⟨dv,rfl,h2 hn h' a c⟩)
end
variable{a:Addr}{z:V}{r:Value}{kvs:List (List Key×V)}
def Qt{k:List Key}{Q:PRS}(N:A.units+1<cLine)(I:Inv X U E H s)(e:H a=aa (.dT kvs))(n:fm H b k)(T:aA z r)
 (G:∀v u g,cI kvs k=aa v->Inv X U E H g->aA v u->Q u g)(h2:cI kvs k=ab->kvs.length<aS/\∀g,Inv X U E (upd H a (.dT (dH kvs k z))) g->Q r g):
  wpAny @2 A (call (.builtin "dict.setdefault") [.ref a,.ref b,r]) Q V4 s:=by
 obtain⟨J,hd,C,d,l⟩:=EC I.hok e;refine call_meetsIn Dy l.typeIs PySem.F.entry_dict_setdefault (PySem.F.args_dict_setdefault_3 _ _ _) (Qs _ a b hd r) ⟨qi N,k,C,oA I.hok n,l,by rw[<- oj d];exact J,λq j=>?_,λhn h' h M=>?_⟩
 .have rv:=d.val k;rw[j]at rv
  cases hv:cI kvs k with
  |none=>rw[hv]at rv;exact rv.elim
  |some v=>rw[hv]at rv;exact G v q.2 _ hv (I.tok _) rv
 .have hv:cI kvs k=ab:=by
   have rv:=d.val k;rw[hn]at rv
   cases hv:cI kvs k with
   |none=>rfl
   |some v=>rw[hv]at rv;exact rv.elim
  obtain⟨L,j⟩:=h2 hv;obtain⟨q,es,ep,f,p,x,y,_,B⟩:=h;have i:(dH kvs k z).length<=aS:=by have:=xE kvs k z;lia
  refine j _ (xF I (by rw[e];exact iq) M ⟨q,f⟩ ⟨i,hd,_,(d.put k n T).keeps λc ys m=>?_,q,es,ep,f,p,x,y,B⟩);rw[aK (DK m e @3)];exact m
abbrev GR(d ty e:TE):TE:=λE H Q=>d E H λx H1=>∃a,x=.ref a/\IsD H1 a/\ty E H1 λy H2=>e E H2 λz c=>∃kvs k b,c a=aa (.dT kvs)/\y=.ref b/\fm c b k /\
 (∀v,cI kvs k=aa v->Q v c)/\(cI kvs k=ab->kvs.length<aS/\Q z (upd c a (.dT (dH kvs k z))))
variable{f:Expr}{td ty tx:TE}
def Qu{o:Expr}(L:X.A.units+1<cLine)(J:PE X o td)(C:PE X e ty)(G:PE X f tx)(m:M2 X o "setdefault" apos e f cpos):PE X (.Call (.Attribute o "setdefault" apos) [e,f] [] cpos) (GR td ty tx):=by
 intro U s E H Q I h;refine wpAny_Call_method m.base m.few m.line PySem.F.plainAttrs_dict Dy PySem.F.type_dict_setdefault (thn (J U s E H _ I h) λu s1 Y=>?_);obtain⟨x,H1,j,rx,a,ex,d,M⟩:=Y;subst ex;obtain rfl:u=eM a:=rx;obtain⟨t1,t2,_⟩:=EF j d;refine⟨t1,t2,?_⟩;rw[m.trees];refine wF rfl (wG (iV (thn (C U s1 E H1 _ j M) λiv s2 g=>?_)));obtain⟨y,H2,q,ry,N⟩:=g;refine iV (thn (G U s2 E H2 _ q N) λfv s3 i=>wH ?_);obtain⟨z,p,r,n,kvs,k,b,w,B,tk,T,l⟩:=i;subst B;cases (ry);exact Qt L r w tk n (λv u s4 hv c ru=>⟨v,p,c,ru,T v hv⟩) λhn=>⟨(l hn).1,λs4 c=>⟨z,_,c,n,(l hn).2⟩⟩
abbrev O.apdK(o:O)(k:List Key)(d:D):Option O:=match o with
 |.dT ks os=>match aT k ks with
  |some j=>(os[j]?).bind λo1=>(o1.appd d).map λo2=>.dT ks (os.set j o2)
  |none=>if ks.length<16777216 then aa (.dT (ks++[k]) (os++[.lst [.fz d]])) else ab
 | _=>ab
abbrev px(i j:Nat)(p:Xp)(g:MF1)(M:LS):Option Fl:=(p M).bind λq=>(g M).bind λy=>(ku y).bind λk=>(ae j M).bind λd=>(q.1.apdK k d).map λo2=>.nx (M.set i (.deep (q.2 o2)))
def Qv{jv:Nat}(h:PS X st (mC (tBM X.K "list" tL (GR (tDP (Gx c X) i p) (tD (Gx c X) g) (xn hJ)) (i5 (cQ jv) hJ)))):DS c X st (px i jv p g):=PS.imp h λV4 E H q_=>by
 obtain⟨Hf0,H0,Hf,M,o,Q,B,kq⟩:=q_;obtain⟨q,e1,B⟩:=bc B;obtain⟨y,e2,B⟩:=bc B;obtain⟨k,e3,B⟩:=bc B;obtain⟨d,e4,B⟩:=bc B;obtain⟨o2,m,B⟩:=dO B;subst B;obtain⟨w,ew,rw0⟩:=Q.imm (EQ e4);refine⟨Hf0,H0,Hf,M,q.1,q.2,Q,e1,λt v fp v1 f1 b3 H1 es ev x rt F=>?_⟩
 cases h1:q.1 with
 |dT ks os=>
  rw[h1]at m F;obtain⟨a,vs,fs,rfl,ha,hz,L,rfl⟩:=id F.r;refine⟨a,rfl,.inr ⟨_,.inl ha⟩,Hf0,H0,b3,M,y,Q.step x,e2,λu bm H2 C r2=>⟨cg _,λl N=>?_⟩⟩;obtain⟨b,eb,tk⟩:=rj e3 r2;subst eb;have x3:Ext bm H2 bm (upd H2 l (.lst [])):=Ext.tmp C.s N;have A:=C.trans x3;have xa:=x.trans A;refine⟨ks.zip vs,k,b,(A.h _ _ ha),rfl,tk.same (C.s.trans x3.h),λv2 G=>?_,λhn=>?_⟩
  .cases I:aT k ks with
   |none=>rw[rm vs I]at G;nomatch G
   |some j=>
    replace m:(match aT k ks with |some j=>(os[j]?).bind λo1=>(o1.appd d).map λo2=>O.dT ks _ |none=>if ks.length<16777216 then aa _ else ab)=aa o2:=m
    simp only[I]at m;obtain⟨ok,eo,m⟩:=bc m;obtain⟨on,ea,m⟩:=dO m;subst m;obtain⟨v3,f3,ev3,F4⟩:=Foc.root (W:=.dT ks) ha rfl L F.n eo λHf' H' os' fs' ha' r _=>⟨a,vs,fs',rfl,ha',hz,r,rfl⟩;rw[pf vs I,ev3]at G;cases G;have F5:=(F.trans F4).up A.f A.h;obtain⟨l2,us,el,ql,hz2,lm,next⟩:=GA ea F5.r;subst el;refine⟨.inl ⟨rfl,_,SqL.of ql⟩,w,ew,l2,us,w,rfl,rfl,ql,by rw[dq];exact hz2,kq E bm _ xa.f ?_⟩
    have:=Q.foc es ev (rt.up A.f A.h) xa F5 (λb u J hn=>by rw[aK (λz=>hn (by rw[z];exact lm))];exact J)
     (next bm _ w F5.n (aq.refl _) (λb u J e=>by rw[aK J];exact e) aZ (rw0.up xa.f)) F5.n λa ha=>.inl ha
    exact this
  .cases I:aT k ks with
   |some j=>
    rw[pf vs I]at hn;have:=y4 I;rw[List.getElem?_eq_none_iff]at hn
    lia
   |none=>
    replace m:(match aT k ks with |some j=>(os[j]?).bind λo1=>(o1.appd d).map λo2=>O.dT ks _ |none=>if ks.length<16777216 then aa _ else ab)=aa o2:=m
    rw[I]at m;replace m:(if ks.length<16777216 then aa _ else ab)=aa o2:=m;split at m
    .rename_i hlt;cases m;have nal:=fq (C.h _ _ ha) N
     have lf:∀g,g∈fp->g≠l:=λg U z=>by
      have:=Q.was es ev x rt g U;subst z;exact this ((x.h.trans C.h).free N)
     have Y:upd (upd H2 l (.lst [])) a (.dT (dH (ks.zip vs) k (.ref l))) l=aa (.lst []):=by rw[aK nal.symm,aZ]
     refine⟨by rw[dq,nU];lia,.inl ⟨rfl,_,SqL.of Y⟩,w,ew,l,[],w,rfl,rfl,Y,by rw[dq];exact qf _,kq E bm _ xa.f ?_⟩;have xb:=x.trans C;have T:=F.up C.f C.h
     have keep:∀b u,b≠a->H2 b=aa u->upd (upd (upd H2 l (.lst [])) a (.dT (dH (ks.zip vs) k (.ref l)))) l (.lst ([]++[w])) b=aa u:=λb u J e=>by
      have nb:=fq e N;rw[aK nb,aK J,aK nb];exact e
     obtain⟨kvs,ql',hkv,hv,lm,nw⟩:=GQ T.r T.n I (aq.refl _) keep;rw[C.h _ _ ha]at ql';cases ql';refine Q.foc es ev (rt.up C.f C.h) xb T (λb u J hn=>keep b u (λz=>hn (by rw[z];exact lm)) J) (nw (by rw[aK nal,aZ]) ⟨l,[w],[],rfl,aZ,OTs.one ⟨rw0.up xb.f,rfl⟩,rfl⟩) (e8.mpr ⟨T.n,cf.mpr ⟨dQ,ij⟩,λg U g' hg' z=>by rw[bE.mp hg']at z;exact lf g (T.sub g U) z⟩) λg U=>?_
     rcases bv.mp U with y |y
     .exact .inl y
     .rw[bE.mp y];exact .inr ⟨xb.h.free N,xb.s.free N⟩
    .nomatch m
 | _=>rw[h1]at m;nomatch m
def zb{f:Str}{v:V}:∀{ns:LSt} {vs:LVv} {k:Nat},ns.length=vs.length->aT f ns=aa k->c7 f v (ns.zip vs)=ns.zip (vs.set k v)
 | [],_,_,_,h=>by cases h
 | _::_,[],_,hl,_=>by cases hl
 |n::ns,u::vs,k,hl,h=>by
  dsimp only[aT]at h;rw[e7];dsimp only[c7];split at h
  .rename_i e;cases h;simp only[if_pos e,sP,e7]
  .rename_i e;rw[if_neg e]
   cases h':aT f ns with
   |none=>rw[h']at h;cases h
   |some j=>
    rw[h']at h;cases h;simp only[p9,e7,zb (by simpa using hl) h']
def GS{f:Str}{v:V}:∀{ns:LSt} {vs:LVv},ns.length=vs.length->aT f ns=ab->c7 f v (ns.zip vs)=(ns++[f]).zip (vs++[v])
 | [],[],_,_=>rfl
 | [],_::_,hl,_=>by cases hl
 | _::_,[],hl,_=>by cases hl
 |n::ns,u::vs,hl,h=>by
  dsimp only[aT]at h;rw[e7];dsimp only[c7];split at h
  .cases h
  .rename_i e;rw[if_neg e]
   cases h':aT f ns with
   |none=>simp only[kM,kM,e7,GS (by simpa using hl) h']
   |some j=>rw[h']at h;nomatch h
abbrev O.setF(o:O)(cn f:Str)(x:O):Option O:=match o with
 | .ins c ns os=>if c=cn/\ns.length < 1000 then (match aT f ns with
  |some k=>aa (.ins c ns (os.set k x))
  |none=>aa (.ins c (ns++[f]) (os++[x]))) else ab
 | _=>ab
abbrev eB(i:Nat)(cn f:Str)(p:Xp)(g:LS->Option O)(M:LS):Option Fl:=(g M).bind λx=>(p M).bind λq=>(q.1.setF cn f x).map λo2=>.nx (M.set i (.deep (q.2 o2)))
def OTs.len{G:Gc}{Hf H:Hp}:∀{os:List O} {vs:LVv} {fs:LAd},OTs G Hf H os vs fs->os.length=vs.length
 | [],_,_,h=>by rw[h.1];rfl
 |o::os,_,_,⟨v,r,f1,f2,e,_,h2,_⟩=>by subst e;simp[OTs.len h2]
def GT{g:LS->Option O}(cn:Str)(hc:Cls X.K (c cn))(hn:cH X.K (c cn) fl)(hp:PS X st (Ee X.K (tDP (Gx c X) i p) (tDZ (Gx c X) ac g) fl)):DS c X st (eB i cn fl p g):=PS.imp hp λV4 E H q_=>by
 obtain⟨Hf0,H0,Hf,M,o,G,y,kq⟩:=q_;obtain⟨x,e1,y⟩:=bc y;obtain⟨q,e2,y⟩:=bc y;obtain⟨o2,j,y⟩:=dO y;subst y;refine⟨Hf0,H0,Hf,M,x,G,e1,λu gp b3 H1 x1 rx l=>⟨Hf0,H0,b3,M,q.1,q.2,G.step x1,e2,λt v fp v1 f1 bm H2 es J I rt F=>?_⟩⟩;have m:=x1.trans I
 have hg:∀b∈gp,H b=ab/\bm b=ab:=λb d=>by
  refine⟨(l.2 b d).1,?_⟩;obtain⟨w,hw,ht⟩:=OT.memM x u gp rx b d;rw[I.n b w hw ht];exact(l.2 b d).2
 have ng:=λb d U=>(G.was es J m rt) b U (hg b d).1
 cases h1:q.1 with
 |ins c' ns os=>
  rw[h1]at j F;replace j:(if c'=cn/\ns.length<1000 then _ else ab)=aa o2:=j;split at j
  .rename_i T;obtain⟨rfl,hlt⟩:=T;obtain⟨a,dx,vs,fs,rfl,ha,hz,L,rfl⟩:=id F.r;obtain⟨na,B⟩:=cf.mp F.n;have nag:=λz=>ng a z (F.sub a aF);refine⟨a,_,dx,ns.zip vs,rfl,ha,hc,hn,by rw[nU];lia,kq E bm _ m.f ?_⟩;have keep:∀b w,b≠a->H2 b=aa w->upd H2 a (.ins (c c') dx (c7 fl u (ns.zip vs))) b=aa w:=λb w d e=>by rw[aK d];exact e
   have C:=(rx.up I.f I.h).frame (aq.refl _) λb w d hm=>keep b w (λz=>by
    subst z;rw[ha]at d;cases d
    rcases hm with hm |hm
    .nomatch hm
    .exact nag hm) d
   have kk:∀b w,H2 b=aa w->b∉a::fs->upd H2 a _ b=aa w:=λb w d hn=>keep b w (λz=>hn (by rw[z];simp)) d
   cases A:aT fl ns with
   |some k=>
    rw[A]at j;cases j;have Y:k<os.length:=by rw[L.len,<- hz];exact y4 A
    obtain⟨vk,fk,evk,_,_,sb,bk⟩:=L.foc B (cF Y)
    obtain ⟨N,r',m',n'⟩:=bk bm _ x u gp (aq.refl _) (λb w d hm _=>keep b w (λz=>by
     subst z;rw[ha]at d;cases d
     rcases hm with hm |hm
     .nomatch hm
     .exact na hm) d) C
    refine G.foc es J rt m F kk ⟨a,dx,vs.set k u,N,rfl,by rw[aZ,zb hz A],by simp[hz],r',rfl⟩ (cf.mpr ⟨λz=>?_,n' l.1 λb d U=>absurd (F.sub b (bq _ U)) (ng b d)⟩) λb d=>?_
    .grind
    .grind
   |none=>
    rw[A]at j;cases j;refine G.foc es J rt m F kk ⟨a,dx,vs++[u],fs++gp,rfl,by rw[aZ,GS hz A],by simp[hz],((L.stay ha rfl na (aq.refl _) keep).append (.one C)),rfl⟩ (cf.mpr ⟨λz=>?_,e8.mpr ⟨B,l.1,λb d b' Q z=>by subst z;exact ng b Q (F.sub b (bq _ d))⟩⟩) λb d=>?_
    .grind
    .grind
  .grind
 | _=>rw[h1]at j;nomatch j
nonrec def MTf:=Addr->LD->O->Option (O×D)
abbrev ib(G:Gc)(n:Nat)(m:MTf):Sp:=λvs H Q _=>∃Hf ds o o' d l fp b,vs=.ref l::b/\aq Hf H/\OT G Hf H o (.ref l) fp/\fp.Nodup/\(∀a∈fp,Hf a=ab)/\am G Hf ds b/\1+ds.length=n/\m l ds o=aa (o',d) /\
 ∀v Hf' H' fp',Ext Hf (gK H fp) Hf' H'->OT G Hf' H' o' (.ref l) fp'->fp'.Nodup->(∀a∈fp',gK H fp a=ab/\Hf' a=ab)->Rep G Hf' d v->Q v H'
abbrev uF(N:Nat)(l:Addr)(ds:LD)(o:O):LS:=(fP N (.non::ds)).set 0 (.deep (.at l o))
open Classical in
abbrev ni(l:Addr)(M:LS):Option O:=match (M[0]?:Option Sl)with
 |some (Sl.deep (.at l' o))=>if l'=l then aa o else ab
 | _=>ab
def Qw{o:O}(h:ni l M=aa o):M[0]?=aa (.deep (.at l o)):=by
 unfold ni at h
 grind
def GU{o:O}(h:M[0]?=aa (.deep (.at l o))):ni l M=aa o:=by
 unfold ni;rw[h];exact if_pos rfl
abbrev d4(N:Nat)(F:MF3):MTf:=λl ds o=>(F (uF N l ds o)).bind λr=>match r with
 |.nx M=>(ni l M).map λo'=>(o',.non)
 |.rtS d M=>(ni l M).map λo'=>(o',d)
 | _=>ab
def ar.startMT{o:O}{b:LVv}(f:aq Hf H)(e:OT G Hf H o (.ref l) fp)(n:fp.Nodup)(c:∀a∈fp,Hf a=ab)(r:am G Hf ds b):
  ar G Hf (gK H fp) Hf H (L2.start N (.ref l::b)) (uF N.length l ds o):=by
 exact(ar.start (GD f c) (.cons (d:=.non) rfl r)).setNew (i:=0) (Ext.grow (GD f c) PY) ⟨.ref l,fp,rfl,⟨rfl,e⟩,n,λa ha=>⟨yV ha,c a ha⟩⟩ λa p=>by
  obtain⟨fp',g,ha⟩:=p;have:=OT.funM o _ fp fp' e g.2;subst this;exact yV ha
variable{f:Addr}
def gi{k:Nat}{F:MF3}(B:Fun K x qual st f fd)(S:aB N ps (au st))
 (h:∀(cdv:Value) (A:b6) (outer:List Env) (s:ah) (H:Hp) (V4:XK),bu k @10->DSs c (iw CX0 P w K mg base N qual (au st) f cdv A outer s H V4).nox (fN st) F)(i:N.length=n_:=by rfl):
  cr P w K mg base CX0 (k+1) f fd ps (ib ⟨K,c⟩ ps.length (d4 n_ F)):=by
 subst i;refine B.ok S (λvs H Q V4 j=>by obtain⟨Hf,ds,o,o',d,l,fp,m,g,y,q,n,p,r,hn,_⟩:=j;rw[g,cy,<- r.length];lia) λcdv A outer s H vs Q V4 hr j=>?_;obtain⟨Hf,ds,o,o',d,l,fp,m,g,y,q,n,p,r,hn,e,E⟩:=j;refine⟨_,h cdv A outer s H V4 hr,?_⟩;subst g;unfold d4 at e
 cases b:F _ with
 |none=>rw[b]at e;nomatch e
 |some z=>
  rw[b,az]at e;refine⟨Hf,gK H fp,Hf,_,z,ar.startMT y q n p r,b,?_⟩
  have fin:∀M d',(ni l M).map (λo'=>(o',d'))=aa (o',d)->∀v σ' Hf' H',ar ⟨K,c⟩ Hf _ Hf' H' σ' M->Rep ⟨K,c⟩ Hf' d' v->Q v H':=λM d' e v σ' Hf' H' a rv=>by
   obtain⟨t,C,e⟩:=dO e;cases e;obtain⟨u,J,T,fp',L,rt,G,I⟩:=a.slot (Qw C);cases rt.1;exact E v Hf' H' fp' a.ext rt.2 G I rv
  cases z with
  |nx M=>exact λσ' Hf' H' _ a=>fin M .non e .non σ' Hf' H' a rfl
  |rtS d' M=>exact λv σ' Hf' H' a rv=>fin M d' e v σ' Hf' H' a rv
  | _=>nomatch e
def ar.treeBack{o o':O}{fp':LAd}(n:ar G Hf0 H0 Hf H E M)(es:M[i]?=aa (.deep o))(e:E[i]?=aa (aa v))(r:OT G Hf H o v fp)(x:Ext Hf (gK H fp) Hf' H')(f:OT G Hf' H' o' v fp')(l:fp'.Nodup)(d:∀a∈fp',gK H fp a=ab/\Hf' a=ab):ar G Hf0 H0 Hf' H' E (M.set i (.deep o')):=by
 have s1 : ar G Hf0 H0 Hf (gK H fp) E (M.set i .no):=n.chg es e (λb y j=>by
  by_cases c:b∈fp
  .exact .inl ⟨fp,r,c⟩
  .exact .inr (by rw[uB c];exact j)) trivial λa p=>(p.calm rfl).elim
 have s2:=s1.setNew (i:=i) (s:=.deep o') x ⟨v,fp',rfl,f,l,λa ha=>⟨s1.ext.h.free (d a ha).1,(d a ha).2⟩⟩ λa p=>by
  obtain⟨g,m,ha⟩:=p;have:=OT.funM o' v fp' g f m;subst this;exact(d a ha).1
 rw[m9 e,set_set]at s2;exact s2
abbrev O.isIns(cn fl:Str):O->Bool
 |.ins c ns _=>decide (c=cn) && !ns.contains fl
 | _=>af
def zc{cn fl:Str}{o:O}(h:o.isIns cn fl=ac):∃ns os,o=.ins cn ns os/\ns.contains fl=af:=by
 cases o with
 |ins c ns os=>
  replace h:(decide _ && !ns.contains fl)=ac:=h
  simp_all
 | _=>nomatch h
abbrev cE(i:Nat)(cn fl:Str)(m:MTf)(f:Xa):Xe:=λM=>match M[i]? with
 |some (.deep (.at _ o0))=>if o0.isIns cn fl then (f M).bind λp=>match p.2[i]? with
  |some (.deep (.at l o))=>(m l p.1 o).map λq=>(q.2,p.2.set i (.deep (.at l q.1)))
  | _=>ab else ab
 | _=>ab
open Classical in
abbrev jO(i:Nat)(cn fl:Str)(m:MTf)(f:Xa):Xe:=λM=>match M[i]? with
 |some (.deep o0)=>if o0.isIns cn fl then (f M).bind λp=>match p.2[i]? with
  |some (.deep (.ins c' ns os))=>if h:∃q,∀l,m l p.1 (.ins c' ns os)=aa q then aa (h.choose.2,p.2.set i (.deep h.choose.1)) else ab
  | _=>ab else ab
 | _=>ab
variable{fa:Xa}{m:MTf}{Q:VK}{t:TA}
def GV(cn:Str)(ht:∀E H Q,rf (Gx c X) fa E H Q->t E H Q)(hn:∀M ds ρ',fa M=aa (ds,ρ')->1+ds.length=ps.length)(q_:tDX (Gx c X) (cE i cn fl m fa) E H Q):tJ (c cn) fl (ib (Gx c X) ps.length m) [] E0 (cQ i) t E H Q:=by
 obtain⟨Hf0,H0,Hf,M,d,ρ',st,b,kq⟩:=q_;unfold cE at b;split at b
 .rename_i G o0 p;split at b
  .rename_i hi;obtain⟨ns,os,rfl,y⟩:=zc hi;obtain⟨pp,B,b⟩:=bc b;obtain⟨ds,ρ1⟩:=pp;split at b
   .rename_i l o1 e;obtain⟨q,N,b⟩:=dO b;cases b;obtain⟨u,x,u',fp,T,rt,n,z⟩:=st.slot p;subst T;obtain⟨el,a,dx,vs,fs,Y,ha,hz,L,efp⟩:=rt;subst el;cases Y;refine⟨_,x,G,dx,ns.zip vs,rfl,ha,oP y,ht _ _ _ ⟨Hf0,H0,Hf,M,ds,ρ1,st,B,λus Hf' H' f1 st1 r=>?_⟩⟩;rw[bP];obtain⟨w,C,w',gp,U,A,n1,z1⟩:=st1.slot e;subst U;rw[x]at C;cases C;obtain⟨j,g⟩:=A;cases j;exact⟨Hf',ds,o1,q.1,q.2,G,gp,us,rfl,st1.sub,g,n1,λa ha=>(z1 a ha).2,r,hn _ _ _ B,N,λv h J fp3 I r3 n3 z3 rv=>kq v h J (f1.trans I.f) (st1.treeBack e x ⟨rfl,g⟩ I ⟨rfl,r3⟩ n3 z3) rv⟩
   .grind
  .grind
 .grind
def Qx(cn:Str)(ht:∀E H Q,rf (Gx c X) fa E H Q->t E H Q)(hn:∀M ds ρ',fa M=aa (ds,ρ')->1+ds.length=ps.length)(q_:tDX (Gx c X) (jO i cn fl m fa) E H Q):tJ (c cn) fl (ib (Gx c X) ps.length m) [] E0 (cQ i) t E H Q:=by
 obtain⟨Hf0,H0,Hf,M,d,ρ',st,b,kq⟩:=q_;unfold jO at b;split at b
 .rename_i o0 j;split at b
  .rename_i hi;obtain⟨ns,os,rfl,p⟩:=zc hi;obtain⟨pp,A,b⟩:=bc b;obtain⟨ds,ρ1⟩:=pp;split at b
   .rename_i N x y e;split at b
    .rename_i G;have B:=G.choose_spec;generalize G.choose=q at b B;cases b;obtain⟨u,l,u',fp,T,rt,n,z⟩:=st.slot j;subst T;obtain⟨a,dx,vs,fs,Y,ha,hz,L,efp⟩:=rt;subst Y;refine⟨_,l,a,dx,ns.zip vs,rfl,ha,oP p,ht _ _ _ ⟨Hf0,H0,Hf,M,ds,ρ1,st,A,λus Hf' H' f1 st1 r=>?_⟩⟩;rw[bP];obtain⟨w,C,w',gp,U,g,n1,z1⟩:=st1.slot e;subst U;rw[l]at C;cases C;exact⟨Hf',ds,.ins N x y,q.1,q.2,a,gp,us,rfl,st1.sub,g,n1,λa ha=>(z1 a ha).2,r,hn _ _ _ A,B a,λv h J fp3 I r3 n3 z3 rv=>kq v h J (f1.trans I.f) (st1.treeBack e l g I r3 n3 z3) rv⟩
    .nomatch b
   .nomatch b
  .nomatch b
 .nomatch b
def GW{k:Nat}{o:Expr}(cn:Str)(l:PE X o (cQ i))(pk:Pm X.prog X.w X.K X.mg X.base CX0 k (c cn) fl (f,fd) ps (ib (Gx c X) ps.length m))(g:bu k0 X.A)(ha:DAX c X (e::es) fa)(q:(e::es).length+1=ps.length:=by rfl)(j:StE X e es:=by rfl)(d:BkE X pos es:=by rfl)(n:eval (.Call (.Attribute o fl apos) (e::es) [] pos) X.env=(do
   let ov <- eval o X.env
   gt apos.atName
   let (f,first) <- eJ [ov] (gZ ov fl pl)
   jD pos f first (ca pos (aN (e::es) X.env)) (io pos (il [] X.env))):=by rfl)(a:k<=k0:=by decide):
  DX c X (.Call (.Attribute o fl apos) (e::es) [] pos) (cE i cn fl m fa):=PE.imp (xq l pk.c pk.m pk.ok (g.mono a) pk.b .nil gB ha.pa j d n) λE H Q p=>GV cn (λ_ _ _ h=>h) (λM ds ρ' h=>by have:=ha.len M ds ρ' h;lia) p
def Qy{k:Nat}{o:Expr}(cn:Str)(l:PE X o (cQ i))(pk:Pm X.prog X.w X.K X.mg X.base CX0 k (c cn) fl (f,fd) ps (ib (Gx c X) ps.length m))(d:bu k0 X.A)(j:1=ps.length:=by rfl)(n:eval (.Call (.Attribute o fl apos) [] [] pos) X.env=(do
   let ov <- eval o X.env
   gt apos.atName
   let (f,first) <- eJ [ov] (gZ ov fl pl)
   jD pos f first (ca pos (aN [] X.env)) (io pos (il [] X.env))):=by rfl)(a:k<=k0:=by decide):
  DX c X (.Call (.Attribute o fl apos) [] [] pos) (cE i cn fl m cx):=PE.imp (xr l pk.c pk.m pk.ok (d.mono a) pk.b .nil gB n) λE H Q e=>GV cn (λE H Q e=>by obtain⟨Hf0,H0,Hf,M,ds,ρ',st,g,k⟩:=e;cases g;exact k [] Hf H (aq.refl _) st rfl) (λM ds ρ' h=>by cases h;exact j) e
def GX{k:Nat}{o:Expr}(cn:Str)(l:PE X o (cQ i))(pk:Pm X.prog X.w X.K X.mg X.base CX0 k (c cn) fl (f,fd) ps (ib (Gx c X) ps.length m))(d:bu k0 X.A)(j:1=ps.length:=by rfl)(n:eval (.Call (.Attribute o fl apos) [] [] pos) X.env=(do
   let ov <- eval o X.env
   gt apos.atName
   let (f,first) <- eJ [ov] (gZ ov fl pl)
   jD pos f first (ca pos (aN [] X.env)) (io pos (il [] X.env))):=by rfl)(a:k<=k0:=by decide):
  DX c X (.Call (.Attribute o fl apos) [] [] pos) (jO i cn fl m cx):=PE.imp (xr l pk.c pk.m pk.ok (d.mono a) pk.b .nil gB n) λE H Q e=>Qx cn (λE H Q e=>by obtain⟨Hf0,H0,Hf,M,ds,ρ',st,g,k⟩:=e;cases g;exact k [] Hf H (aq.refl _) st rfl) (λM ds ρ' h=>by cases h;exact j) e
open Classical in
abbrev nj(cn:Str)(m:MTf)(fa:MF2)(M:LS):Option O:=(fa M).bind λds=>if h:∃o,∀l,m l ds (.ins cn [] [])=aa (o,.non) then aa h.choose else ab
variable{bb:Bool}{fa:MF2}
def Qz{cn:Str}(hC:V5=G.cl cn)(I:∀E H Q,tDA G fa E H Q->t E H Q)(hn:∀M ds,fa M=aa ds->1+ds.length=ps.length)(T:tDZ G bb (nj cn m fa) E H Q):Eh V5 (ib G ps.length m) [] E0 t E H Q:=by
 obtain⟨Hf0,H0,Hf,M,o,st,c,L⟩:=T;obtain⟨ds,x,c⟩:=bc c;split at c
 .rename_i B;have A:=B.choose_spec;generalize B.choose=o' at c A;cases c;refine I _ _ _ ⟨Hf0,H0,Hf,M,ds,st,x,λvs b3 H1 d r y dx p i j=>?_⟩;rw[bP];subst hC;have J:(upd H1 dx (.own y)) y=ab:=by rw[aK j.symm];exact p
  have s1:aq H1 (upd H1 dx (.own y)):=bN i;have s2:=s1.trans (bN (o:=.ins (G.cl cn) dx []) J)
  have w:aq H1 (gK _ [y]):=λb u q=>by
   rw[uB (λz=>fq q p (bE.mp z))];exact s2 b u q
  refine⟨b3,ds,.ins cn [] [],o,.non,y,[y],vs,rfl,d.s.trans s2,⟨y,dx,[],[],rfl,aZ,rfl,⟨rfl,rfl⟩,rfl⟩,cf.mpr ⟨dQ,ij⟩,λa ha=>by rw[bE.mp ha];exact d.s.free p,r,hn M ds x,A y,λv bm H2 g e U N C rv=>⟨rv,?_⟩⟩;have Y:Ext b3 H1 bm H2:=⟨e.f,w.trans e.h,e.s,λl u q t=>e.n l u (w l u q) t⟩;exact L _ g bm H2 (d.trans Y) U ⟨N,λa ha=>⟨yU st.ext.h (d.h.free (w.free (C a ha).1)),(C a ha).2⟩⟩
 .nomatch c
variable{p:Pos}
def QA{k:Nat}(cn:Str)(d:Mk X.K (c cn) f)(F:cr X.prog X.w X.K X.mg X.base CX0 k f fd ps (ib (Gx c X) ps.length m))(hr:bu (k+1) X.A)(j:Gl X x)(hm:X.mg x=aa (.ref (c cn)))(g:dS X.K fd ps [])(ha:DA c X (e::es) fa)
 (n:(e::es).length+1=ps.length:=by rfl)(a:NDb x:=by decide)(i:StE X e es:=by rfl)(b:BkE X pos es:=by rfl):
  DZ c X bb @8 (nj cn m fa):=PE.imp (Ei d F hr j hm g .nil gB ha.pa a i b) λE H Q l=>Qz rfl (λ_ _ _ h=>h) (λM ds h=>by have:=ha.len M ds h;lia) l
def hu1{u:Nat}(h:u+64<cLine):u+1<cLine:=l8 (Nat.add_le_add_left (by decide) u) h
def GY{f:MF2}(h:DL c X e f):DIe c X tg e f:=PI.imp (xc h) λE H R d=>by
 obtain⟨Hf0,H0,Hf,M,ds,st,b,k⟩:=d;exact⟨Hf0,H0,Hf,M,ds,st,b,λl vs Hf' H' x a r=>⟨l,rfl,⟨vs,SqL.of a⟩,k _ Hf' H' x (Fm (SqL.of a) r)⟩⟩
abbrev uG(f:MF2)(M:LS):OLD:=(f M).map (iD 0)
variable{a:Expr}
def QB{f:MF2}(L:Gl X "enumerate")(hm:X.mg "enumerate"=ab)(ha:DL c X a f)(w:aN [a] X.env=[(af,eval a X.env)]:=by rfl):
  DIe c X (.Tuple elts kx gw) (.Call (.Name "enumerate" p) [a] [] pos) (uG f):=PI.imp (FH L hm (eO ha dZ w) w) λE H R N=>by
 obtain⟨Hf0,H0,Hf,M,ds,st,g,k⟩:=N;obtain⟨C,A,g⟩:=dO g;subst g;refine⟨Hf0,H0,Hf,M,C,st,A,λl vs Hf' H' x q r=>⟨l,rfl,⟨vs,SqL.of q⟩,k _ Hf' H' x λbm H2 e i=>?_⟩⟩;have j:SqL X.K H2 l vs:=SqL.of (e.h _ _ q);have Y:=r.length;refine⟨λd b=>?_,λG=>⟨vs,j,by rw[yo]at G;lia⟩⟩;rw[yp]at b;obtain⟨y,I,b⟩:=dO b;subst b;obtain⟨u,n,ru⟩:=r.get I;refine⟨⟨vs,u,j,n⟩,λz U T=>?_⟩;obtain⟨pp,z1,J,v,B,Q⟩:=T;subst J B;have m:=Q vs j;rw[n]at m;cases m;exact⟨upd bm pp _,Ext.new e.s v,pp,_,rfl,aZ,.cons (by rw[kP];rfl) (.cons (ru.up (e.f.trans (bN (e.s.free v)))) .nil)⟩
def QC:DZ c X bb (.Dict [] [] pos) (λ_=>aa (.dT [] [])):=PE.imp Mx λE H Q d=>by
 obtain⟨Hf0,H0,Hf,M,o,st,b,k⟩:=d;cases b;intro l a;exact k _ [l] Hf _ (Ext.tmp st.sub a) ⟨l,[],[],rfl,aZ,rfl,⟨rfl,rfl⟩,rfl⟩ (.one (yU st.ext.h a) (st.sub.free a))
end L2
namespace HT
open List
open PySem PyProof.Rows
open PySem.SeqAt
open PySem.AutoSeq1 (wpAny_loadPart')
open PySem.MeetsSeq PySem.MeetsSeq2 PySem.MeetsSeq3
def QD(l:Addr)(B:Array Value)(n:Nat)(x:Value)(f:Value->Bool)(j:Nat)(p:j<B.size)(q:f B[j]=ac)(hz:B.size<=aS)(k:Nat):
  ∀i:Nat,j-i=k->i<=j->(∀m (hm:m<B.size),i<=m->m<j->f B[m]=af)->Meets (eK.«list.remove.loop» ⟨[.ref l,x,ci i],[]⟩)
   (λA R s=>s.heap.get? l=aa {cls:=.type "list",dict:=ab,data:=.seq B n,slots:=#[]}/\(∀y,y∈B->EqAt A.in1 s y x (f y))/\R (.ok (.ret .none)) {s with heap:=s.heap.update l (g7 λC=>C.eraseIdxIfInBounds j)}):=by
 induction k with
 |zero=>
  intro i r e b prog w A R s h;obtain⟨c,d,h⟩:=h;obtain rfl:i=j:=by lia
  wp_walk using sT c
  rw[show B[(_:Int).toNat]?=aa B[i] by simp[p]];refine aj (d _ (Array.getElem_mem p) prog w _ _ ?_);have g:(B.eraseIdxIfInBounds i).size<=aS+1:=cN (size_erased B _) (Nat.le_succ_of_le hz)
  wp_walk using (sW c rfl (_hz':=g)),sT c
  exact h
 |succ k u=>
  intro i r e b prog w A R s h;obtain⟨c,d,h⟩:=h;have a:i<B.size:=by lia
  wp_walk using sT c
  rw[show B[((i:Nat):Int).toNat]?=aa B[i] by simp[a]];refine aj (d _ (Array.getElem_mem a) prog w _ _ ?_);rw[b i a (aM _) (by lia)]
  wp_walk
  exact ⟨me plain_remove_loop _,j4 entry_remove_loop (by
   exact u (i+1) (by lia) (by lia) (λm hm v h2=>b m hm (by lia) h2) prog w A R _ ⟨c,d,h⟩)⟩
def remAt(l:Addr)(B:Array Value)(n:Nat)(x:Value)(f:Value->Bool)(j:Nat)(e:j<B.size)(a:f B[j]=ac)(b:∀m (hm:m<B.size),m<j->f B[m]=af)(hz:B.size<=aS):Meets (eK.«list.remove» ⟨[.ref l,x],[]⟩)
   (λA R s=>s.heap.get? l=aa {cls:=.type "list",dict:=ab,data:=.seq B n,slots:=#[]}/\(∀y,y∈B->EqAt A.in1 s y x (f y))/\R (.ok (.ret .none)) {s with heap:=s.heap.update l (g7 λC=>C.eraseIdxIfInBounds j)}):=by
 intro prog w A R s h;obtain⟨c,d,h⟩:=h
 wp_walk using sT c
 exact ⟨me plain_remove_loop _,j4 entry_remove_loop (by
  exact QD l B n x f j e a hz _ 0 rfl (cg _) (λm hm _ h2=>b m hm h2) prog w A R _ ⟨c,d,h⟩)⟩
end HT
namespace L2
open List
open PySem PySem.Spec PyProof.Rows
abbrev GZ(G:Gc):V->LVv->Hp->VK->Prop:=λa vs H Q=>∃Hf l us ds x w,a=.ref l/\vs=[w]/\aq Hf H/\H l=aa (.lst us)/\am G Hf ds us/\Rep G Hf x w/\dh x ds=aa ac/\Q .non (upd H l (.lst (us.eraseIdx (ds.findIdx (isE x)))))
abbrev O.remd(x:D)(o:O):Option O:=o.items.bind λds=>if dh x ds=aa ac then aa (.lst ((ds.eraseIdx (ds.findIdx (isE x))).map .fz)) else ab
abbrev py(i:Nat)(p:Xp)(f:MF1)(M:LS):Option Fl:=(p M).bind λq=>(f M).bind λd=>(q.1.remd d).map λo2=>.nx (M.set i (.deep (q.2 o2)))
variable{c:Str->Addr}{X:Cx}
def QE(hu:X.A.units+64<cLine):MtM X "list.remove" (GZ (Gx c X)):=by
 rintro U s E H x C v us Q I rx rv ⟨Hf,l,vs,ds,z,w,rfl,rfl,G,q,L,r2,a,k⟩;subst rx;obtain⟨u,rfl,ru⟩:=rv.one;obtain⟨z1,B,n,j,N,e0⟩:=I.lstM q;obtain⟨f,J,ha⟩:=qW (A:=X.A.in1) I (by rw[wC];lia) (r2.up G) ru (L.up G) j a;obtain⟨k1,k2⟩:=yX a
 have same:∀m _,f B[m]=isE z (ds.getD m .non):=λm hm=>by
  have i:m<ds.length:=by rw[L.length,N];exact hm
  obtain⟨v1,g,r⟩:=L.get (cF i);obtain⟨u1,b,ru1⟩:=j.get g;rw[cF hm]at b;cases b;obtain⟨_,d',v',r',p,h'⟩:=J B[m] (iO hm);have Y:=aA.inj p ru1;subst Y;obtain⟨T,d⟩:=k1 ds[m] (iO i);rw[bV,cF i];show _=isE z ds[m];unfold isE;rw[d,(qV 19 r' (r.up G) h' d)]
  cases T <;> rfl
 have M:=wg (any_eq_true.mp k2);have e:ds.findIdx (isE z)<B.length:=by rw[<- N,<- L.length];exact M
 refine call_meets F.slot_list_remove ⟨_,e0,rfl⟩ F.entry_list_remove (F.args_list_remove_2 _ _) (HT.remAt l B.toArray n u f _ (by rw[size_toArray];exact e) ?_ ?_ (by rw[size_toArray];lia)) ⟨e0,λy hy=>(J y (by simpa using hy)).1,?_⟩
 .rw[sK,same _ e,bV,cF M];exact findIdx_getElem
 .intro m hm h;rw[sK,same m (by rw[size_toArray]at hm;exact hm),bV,cF _];have:=not_of_lt_findIdx h;exact this
 .refine⟨.non,_,I.lset q e0 ?_ (j.eraseIdx _) ?_,rfl,k⟩
  .show B.toArray.eraseIdxIfInBounds _=(B.eraseIdx _).toArray;rw[eraseIdxIfInBounds_toArray]
  .have:=xA vs (ds.findIdx (isE z))
   lia
variable{st:Stmt}{i:Nat}{p:Xp}
def QF{f:MF1}(h:PS X st (mC (tBM X.K "list" (GZ (Gx c X)) (tDP (Gx c X) i p) (i5 (tD (Gx c X) f) hJ)))):DS c X st (py i p f):=PS.imp h λV4 E H q_=>by
 obtain⟨Hf0,H0,Hf,M,o,C,g,kq⟩:=q_;obtain⟨q,N,g⟩:=bc g;obtain⟨d,Q,g⟩:=bc g;obtain⟨o2,y,g⟩:=dO g;subst g;obtain⟨ds,T,y⟩:=bc (y);split at y
 .rename_i A;cases y;refine⟨Hf0,H0,Hf,M,q.1,q.2,C,N,λt v fp v1 f1 B H1 es U x rt F=>?_⟩;have J:=F.r;rw[rn T]at J;obtain⟨l,us,fs,rfl,I,L,j⟩:=J;obtain⟨rd,rfl⟩:=L.unfz;refine⟨.inl ⟨rfl,_,SqL.of I⟩,Hf0,H0,B,M,d,C.step x,Q,λw m H2 e r2=>?_⟩;refine⟨m,l,us,ds,d,w,rfl,rfl,e.s,e.h _ _ I,rd.up e.f,r2,A,kq E m _ (x.trans e).f ?_⟩;have G:=F.up e.f e.h
  have:=C.foc es U (rt.up e.f e.h) (x.trans e) G (λb u Y hn=>by rw[aK (λz=>hn (by rw[j,z];exact aF))];exact Y)
   (o2:=.lst ((ds.eraseIdx (ds.findIdx (isE d))).map .fz)) ⟨l,_,[],rfl,aZ,OTs.fz ((rd.up e.f).erase _),rfl⟩ (by rw[<- j];exact G.n) λa ha=>.inl (by rw[j];exact ha)
  exact this
 .nomatch y
abbrev ic(cn f:Str)(m:LD->OLD)(fo:MF1)(fa:MF2)(M:LS):OLD:=(fo M).bind λd=>match d with
 |.ins a ns ds=>if a=cn/\ns.contains f=af then (fa M).bind λas=>(m (.ins a ns ds::as)).bind λL=>if L.all D.flat then aa L else ab else ab
 | _=>ab
abbrev G0:Fl->Option (LD ⊕ D)
 |.rtO ds=>aa (.inl ds)
 |.rt d=>if d.scalar then aa (.inr d) else ab
 | _=>ab
abbrev zd(n:Nat)(F:MF3)(ds:LD):Option (LD ⊕ D):=(F (fP n ds)).bind G0
abbrev spN(G:Gc)(n:Nat)(m:LD->Option (LD ⊕ D)):Sp:=λvs H Q _=>∃Hf ds r,aq Hf H/\am G Hf ds vs/\ds.length=n/\m ds=aa r/\(∀L,r=.inl L->∀l us Hf' H',Ext Hf H Hf' H'->H l=ab->Hf' l=ab->H' l=aa (.lst us)->am G Hf' L us->Q (.ref l) H') /\
 ∀d,r=.inr d->d.scalar=ac/\∀v Hf' H',Ext Hf H Hf' H'->Rep G Hf' d v->Q v H'
variable{P:b9}{w:World}{K:aQ}{mg:MGT}{base:Heap}{n_:Nat}{x qual:Str}{f:Addr}{fd:cO}{N ps:LSt}
def QG{k:Nat}{F:MF3}(j:Fun K x qual st f fd)(S:aB N ps (au st))
 (h:∀(cdv:Value) (A:b6) (outer:List Env) (s:ah) (H:Hp) (V4:XK),bu k @10->DSs c (iw CX0 P w K mg base N qual (au st) f cdv A outer s H V4).nox (fN st) F)(a:N.length=n_:=by rfl):
  cr P w K mg base CX0 (k+1) f fd ps (spN ⟨K,c⟩ ps.length (zd n_ F)):=by
 subst a;refine j.ok S (λvs H Q V4 b=>by obtain⟨Hf,ds,d,i,r,g,_⟩:=b;rw[<- r.length];exact g) λcdv A outer s H vs Q V4 hr b=>?_;obtain⟨Hf,ds,r,i,rd,g,e,m,n⟩:=b;refine⟨_,h cdv A outer s H V4 hr,?_⟩;obtain⟨o,l,e⟩:=bc e;refine⟨Hf,H,Hf,_,o,ar.start i rd,l,?_⟩
 cases o with
 |rtO L=>cases e;exact m L rfl
 |rt d=>
  replace e:(if d.scalar then aa _ else ab)=aa r:=e;split at e
  .cases e;exact(n d rfl).2
  .nomatch e
 | _=>nomatch e
abbrev pA(m:LD->Option (LD ⊕ D))(f:MF2)(M:LS):OD:=(f M).bind λds=>(m ds).bind λr=>match r with
 |.inl L=>if L.all D.flat then aa (.lst L) else ab
 |.inr d=>if d.scalar then aa d else ab
variable{e:Expr}{es:LEx}{p pos:Pos}{fa:MF2}{k0:Nat}
def QH{k:Nat}{m:LD->Option (LD ⊕ D)}(pk:Pk X.prog X.w X.K X.mg X.base CX0 k x (f,fd) ps (spN (Gx c X) ps.length m))(J:bu k0 X.A)(ha:DAB c X (e::es) fa)(hl:(e::es).length=ps.length:=by rfl)(C:NDb x:=by decide)(he:StE X e es:=by rfl)(I:BkE X pos es:=by rfl)(G:k<=k0:=by decide)(hg:Gl X x:=by first |rfl |exact glc rfl):
  DE c X @8 (pA m fa):=PE.imp (qv pk.ok (J.mono G) hg pk.g pk.kp pk.b .nil gB ha.pa C he I) λE H Q q_=>by
 obtain⟨Hf0,H0,Hf,M,d,st,a,U⟩:=q_;obtain⟨ds,T,a⟩:=bc a;obtain⟨r,Y,a⟩:=bc a;refine⟨Hf0,H0,Hf,M,ds,st,T,λvs Hf' H' x rv=>?_⟩;rw[bP];refine⟨H',ds,r,aq.refl _,rv,(ha.len M ds T).trans hl,Y,λL B l us z n y hn hf i N=>?_,λd' B=>?_⟩
 .subst B;replace a:(if L.all D.flat then aa _ else ab)=aa d:=a;split at a
  .rename_i u;cases a;have j:lH Hf' n l=ab:=by rw[oZ (λvs q=>by rw[i]at q;nomatch q)];exact x.s.free hn
   exact U _ _ n ((x.trans (yQ x.s y.h)).fix (x.h.free hn) j i) ⟨l,us,rfl,aZ,((N.up y.s).flat u).up (bN j)⟩
  .nomatch a
 .subst B;replace a:(if d'.scalar then aa d' else ab)=aa d:=a;split at a
  .rename_i u;cases a;exact⟨u,λv z n y N=>U v Hf' n (x.trans (Ext.grow x.s y.h)) (N.sc u)⟩
  .nomatch a
variable{fl:Str}{apos:Pos}{fo:MF1}{pl:Sem Bool}
def G1{o:Expr}{k:Nat}{m:LD->OLD}(cn:Str)(ho:DB c X o fo)(pk:Pm X.prog X.w X.K X.mg X.base CX0 k (c cn) fl (f,fd) ps (spO (Gx c X) ps.length m))(C:bu k0 X.A)(ha:DAB c X (e::es) fa)(hl:(e::es).length+1=ps.length:=by rfl)(G:StE X e es:=by rfl)(B:BkE X pos es:=by rfl)(ht:eval (.Call (.Attribute o fl apos) (e::es) [] pos) X.env=(do
   let ov <- eval o X.env
   gt apos.atName
   let (f,first) <- eJ [ov] (gZ ov fl pl)
   jD pos f first (ca pos (aN (e::es) X.env)) (io pos (il [] X.env))):=by rfl)(y:k<=k0:=by decide):
  DO c X (.Call (.Attribute o fl apos) (e::es) [] pos) (ic cn fl m fo fa):=PE.imp (xq ho pk.c pk.m pk.ok (C.mono y) pk.b .nil gB ha.pa G B ht) λE H Q q_=>by
 obtain⟨Hf0,H0,Hf,M,L,st,g,kq⟩:=q_;obtain⟨d,e1,j⟩:=bc g;clear g
 cases d with
 |ins I ns ds=>
  have g:(if I=cn/\ns.contains fl=af then (fa M).bind λas=>(m _).bind λL=>if L.all D.flat then aa L else ab else ab)=aa L:=j;split at g
  .rename_i u;obtain⟨p,z⟩:=u;subst p;obtain⟨as,J,j⟩:=bc g;obtain⟨rs',e3,g⟩:=bc j;split at g
   .rename_i hs;cases g;refine⟨Hf0,H0,Hf,M,_,st,e1,λv n H1 T r=>?_⟩;obtain⟨a,dx,vs,ev,q,N,rr⟩:=id r;subst ev;refine⟨a,dx,ns.zip vs,rfl,q,oP z,Hf0,H0,n,M,as,st.step T,J,λws bm H2 U r2=>?_⟩;rw[bP];have x:=T.trans U;exact⟨H2,.ins I ns ds::as,_,aq.refl _,.cons (r.up U.h) r2,by rw[cy,ha.len M as J];exact hl,e3,λl us Hf3 H3 Y hn hf i r3=>(kq l us _ H3 (x.trans (yQ x.s Y.h)) (x.h.free hn) (by rw[oZ (λvs q=>by rw[i]at q;nomatch q)];exact x.s.free hn) i ((r3.up Y.s).flat hs))⟩
   .nomatch g
  .nomatch g
 | _=>nomatch j
abbrev lM(w pr k:Nat)(js:LN)(g:D->LS->Option LS)(ft:MF4)(fe:MF1):LD->LS->LD->Option (LS×LD)
 | [],M,V2=>aa (M,V2)
 |b::bs,M,V2=>if V2.length<=16777216 then (eP (gG g ft fe (iA k js ((M.set pr (.im b)).set w .no))) V2).bind λa=>lM w pr k js g ft fe bs (M.set pr (.im b)) a else ab
abbrev pE(w pr:Nat)(a:MF4)(e d:MF2)(k:Nat)(js:LN)(g:D->LS->Option LS)(ft:MF4)(fe:MF1)(M:LS):Option Fl:=
 (a M).bind λb=>(d (M.set w .no)).bind λbs=>if b=!bs.isEmpty then (if b then e M else aa []).bind λc=>(lM w pr k js g ft fe bs M c).map λp=>.nx (p.1.set w (.own p.2)) else ab
variable{G:Gc}{Hf0 H0 Hf H:Hp}{E:St}{M:LS}{v:V}
def ar.setAny(h:ar G Hf0 H0 Hf H E M):ar G Hf0 H0 Hf H (E.set i (aa v)) (M.set i .no):=h.setNew (Ext.refl h.sub) trivial λa p=>(p.calm rfl).elim
variable{w pr:Nat}{js:LN}{fb:MF2}{g:D->LS->Option LS}{ft:MF4}{fe:MF1}{ρ1:LS}
def G2{k:Nat}(hG:G.K=X.K)(hj:js.Nodup)(hk:∀d M ρ' i,g d M=aa ρ'->k<=i->ρ'[i]?=M[i]?)(C:∀d M ρ',g d M=aa ρ'->ρ'.length=M.length)(L:pr≠w){bs U L1:LD}{V4:i0}{a0:Addr}{r:LVv}
 (st:ar G Hf0 H0 Hf H E (M.set w .no))(hw:w<M.length)(ew:E[w]?=aa (aa (.ref a0)))(ha:H a0=aa (.lst r))(r0:am G Hf U r)(hb:fb (M.set w .no)=aa bs)(fr:bs=[]->ar G Hf0 H0 Hf H E (M.set w (.own U)))
 (el:lM w pr k js g ft fe bs M U=aa (ρ1,L1))(kq:∀σ' Hf' H',aq Hf Hf'->ar G Hf0 H0 Hf' H' σ' (ρ1.set w (.own L1))->V4.nx σ' H'):
  xf (tDI G fb) (g9 pr) (i4 (oF k js (w9 X.K (cQ w)) (tDG G g) (tDT G ft) (tD G fe)) (g9 w)) V4 E H:=by
 refine⟨Hf0,H0,Hf,_,bs,st,hb,λJ j H1 Q it=>?_⟩
 refine⟨λi m σ' H'=>m=bs.length-i/\i<=bs.length/\∃Hf' ρ' V2 a vs,ar G Hf0 H0 Hf' H' σ' (ρ'.set w .no)/\w<ρ'.length/\σ'[w]?=aa (aa (.ref a))/\H' a=aa (.lst vs)/\am G Hf' V2 vs/\aq j Hf'/\lM w pr k js g ft fe (bs.drop i) ρ' V2=aa _/\(i=bs.length->ar G Hf0 H0 Hf' H' σ' (ρ'.set w (.own V2))),
  ⟨bs.length,rfl,cg _,j,M,U,a0,r,st.step Q,hw,ew,Q.h _ _ ha,r0.up Q.f,aq.refl _,el,λe=>(fr (sL.mp e.symm)).step Q⟩,?_⟩
 rintro i m σ' H' ⟨rfl,hi,Hf',ρ',V2,a,vs,N,hw',A,B,r',s1,b,own⟩;obtain⟨it1,it2⟩:=it Hf' H' s1 N.sub i
 by_cases I:i<bs.length
 .obtain⟨d,ed,edr⟩:=yf I;obtain⟨go,yl⟩:=it1 d ed;rw[edr]at b;unfold lM at b;split at b
  .rename_i hz;obtain⟨L',ec,el2⟩:=bc b;refine .inr ⟨go,λu c=>bs.length-_=bs.length-_/\i+1<=bs.length/\∃Hf' ρ' V2 a vs,ar G Hf0 H0 Hf' c u _/\w<ρ'.length/\u[w]?=aa _/\c a=aa _/\am G Hf' V2 vs/\aq j Hf'/\lM w pr k js g ft fe _ ρ' V2=aa _/\_,λu c z=>⟨bs.length-(i+1),by lia,z⟩,λx c y=>?_⟩;obtain⟨v,T,rx⟩:=yl x c y
   have n:ar G Hf0 H0 v c (σ'.set pr (aa x)) ((ρ'.set pr (.im d)).set w .no):=by
    have:=(N.step T).setIm (i:=pr) rx;rw[set_comm _ _ L.symm]at this;exact this
   have ew2:(σ'.set pr (aa x))[w]?=aa (aa (.ref a)):=by rw[kK L];exact A
   refine Fo hj hk C n (λR q=>⟨.ref a,ew2,a,rfl,⟨vs,SqL.of (T.h _ _ B)⟩,?_⟩) hz ec λl us Y H3 x3 hn hf hl rl=>?_
   .have:=q _ v c (Ext.refl n.sub) (Fm (SqL.of (T.h _ _ B)) (r'.up T.f));rw[hG]at this;exact this
   .have p:=n.setOwn (i:=w) (s:=.own L') rfl x3 hn hf ⟨us,hl,rl⟩;rw[set_set]at p;have hsl:w<(σ'.set pr (aa x)).length:=by rw[ig];exact(cU.mp A).1
    refine⟨rfl,I,Y,ρ'.set pr _,L',l,us,?_,by rw[ig];exact hw',jU hsl,hl,rl,(s1.trans T.f).trans x3.f,el2,λ_=>p⟩;have:=p.setNo (i:=w);rw[set_set]at this;exact this
  .nomatch b
 .have ei:i=bs.length:=by lia
  subst ei;rw[drop_eq_nil_of_le (aM _)]at b;cases b;exact .inl ⟨it2 rfl,kq σ' Hf' H' (Q.f.trans s1) (own rfl)⟩
variable{fg:MF2}{ft0:MF4}
def QI{k:Nat}{s1 s2:Stmt}{rest:List Stmt}{F:MF3}(hj:js.Nodup)(hk:∀d M ρ' i,g d M=aa ρ'->k<=i->ρ'[i]?=M[i]?)(q:∀d M ρ',g d M=aa ρ'->ρ'.length=M.length)(C:pr≠w)
 (h1:PS X s1 (i4 (tIf (tDT (Gx c X) ft0) (tDL (Gx c X) fg) (xn hJ)) (g9 w)))(h2:PS X s2 (xf (tDI (Gx c X) fb) (g9 pr) (i4 (oF k js (w9 X.K (cQ w)) (tDG (Gx c X) g) (tDT (Gx c X) ft) (tD (Gx c X) fe)) (g9 w))))(hr:DSs c X rest F):
  DSs c X (s1::s2::rest) (λM=>if w<M.length then ai (pE w pr ft0 fg fb k js g ft fe) F M else ab):=PSs.imp (tu h1 (tu h2 hr)) λV4 E H q_=>by
 obtain⟨Hf0,H0,Hf,M,o,I,B,x⟩:=q_;split at B
 .rename_i Q;obtain⟨r,j,B⟩:=bc (B);obtain⟨b,e2,j⟩:=bc j;obtain⟨bs,Y,j⟩:=bc j;split at j
  .rename_i hb;obtain⟨L0,e4,j⟩:=bc j;obtain⟨p,e5,j⟩:=dO j;subst j;refine⟨Hf0,H0,Hf,M,b,I,e2,λu U y=>?_⟩;have G:w<E.length:=by rw[I.len];exact Q
   have fin:∀{v:Hp},aq Hf v->∀σ' Hf' H',aq v Hf'->ar _ Hf0 H0 Hf' H' σ' _->tDS _ F V4 σ' H':=λT σ' Hf' H' s1 m=>⟨Hf0,H0,Hf',_,o,m,B,by
    cases o with
    |nx M=>exact λn h A s2 e=>x n h A ((T.trans s1).trans s2) e
    |bk M=>exact λn h A s2 e=>x n h A ((T.trans s1).trans s2) e
    |ct M=>exact λn h A s2 e=>x n h A ((T.trans s1).trans s2) e
    |rt d=>exact x
    |rtO d=>exact x
    |rtS d M=>exact x
    |rtT t=>exact x⟩
   cases b with
   |true=>
    refine⟨Hf0,H0,u,M,L0,I.step y,e4,λa vs v H2 L ha r=>?_⟩
    refine G2 rfl hj hk q C ((I.step y).step L).setAny Q (jU G) ha r Y (λz=>by rw[z]at hb;nomatch hb) e5 (λσ' Hf' H' s1 m=>fin (y.f.trans L.f) σ' Hf' H' s1 m)
   |false=>
    cases e4;refine⟨cg _,λl N=>?_⟩;have L:Ext u U u (upd U l (.lst [])):=Ext.tmp y.s N;have e:=(I.step y).setOwn (i:=w) (s:=.own []) rfl L N (y.s.free N) ⟨[],aZ,.nil⟩;have J:=e.setNo (i:=w);rw[set_set]at J;exact G2 rfl hj hk q C J Q (jU G) aZ .nil Y (λ_=>e) e5 (λσ' Hf' H' s1 m=>fin y.f σ' Hf' H' s1 m)
  .nomatch j
 .nomatch B
def QJ{i k:Nat}(h:i<k):∀d (M ρ':LS) j,ax i d M=aa ρ'->k<=j->ρ'[j]?=M[j]?:=λd M ρ' j e a=>by cases e;exact kK (by lia)
def QK:∀d (M ρ':LS),ax i d M=aa ρ'->ρ'.length=M.length:=λd M ρ' e=>by cases e;exact ig
variable{o1:O}{R:O->O}
def QL(d:ar G Hf0 H0 Hf H E M)(h:aH i M=aa (o1,R)):∃o v fp,M[i]?=aa (.deep o)/\E[i]?=aa (aa v)/\OT G Hf H o v fp/\fp.Nodup/\(∀a∈fp,H0 a=ab/\Hf a=ab)/\Foc G Hf H o v fp o1 v fp R:=by
 have main:∀o,M[i]?=aa (.deep o)->(∀v fp,OT G Hf H o v fp->fp.Nodup->Foc G Hf H o v fp o1 v fp R)->∃o v fp,M[i]?=aa (.deep o)/\E[i]?=aa (aa v)/\OT G Hf H o v fp/\fp.Nodup/\(∀a∈fp,H0 a=ab/\Hf a=ab)/\Foc G Hf H o v fp o1 v fp R:=λo es F=>by
  obtain⟨v,b,u,fp,c,r,n,z⟩:=d.slot es;subst c;exact⟨o,u,fp,es,b,r,n,z,F u fp r n⟩
 unfold aH at h;split at h
 .rename_i l o es;cases h;exact main _ es λv fp r n=>Foc.at r n
 .rename_i o _ es;cases h;exact main _ es λv fp r n=>Foc.refl r n
 .nomatch h
def QM{cn f:Str}(g:ar G Hf0 H0 Hf H E M)(h:aU cn f (aH i) M=aa (o1,R)):∃o v fp v1 f1,M[i]?=aa (.deep o)/\E[i]?=aa (aa v)/\OT G Hf H o v fp/\fp.Nodup/\(∀a∈fp,H0 a=ab/\Hf a=ab)/\Foc G Hf H o v fp o1 v1 f1 R:=by
 obtain⟨q,c,h⟩:=bc h;obtain⟨r,d,h⟩:=dO h;cases h;obtain⟨o,v,fp,es,e,rt,n,z,F⟩:=QL g c;obtain⟨a,dx,ns,vs,j,f2,_,_,_,b⟩:=F.fld d;exact⟨o,v,fp,j,f2,es,e,rt,n,z,b⟩
variable{l:Addr}
def ar.focFix{o:O}{fp:LAd}{ds:LD}{vs:LVv}(B:ar G Hf0 H0 Hf H E M)(es:M[i]?=aa (.deep o))(J:E[i]?=aa (aa v))(r:OT G Hf H o v fp)(n:fp.Nodup)(z:∀a∈fp,H0 a=ab/\Hf a=ab)(F:Foc G Hf H o v fp (.lst (ds.map .fz)) (.ref l) [l] R)(ql:H l=aa (.lst vs))(rd:am G Hf ds vs):
  ar G Hf0 H0 (upd Hf l (.lst vs)) H E (M.set i (.deep (R (.fz (.lst ds))))):=by
 have N:=F.sub l aF;have Q:=(z l N).2;have h:aq Hf (upd Hf l (.lst vs)):=bN Q;obtain⟨fp',T,mem,nd⟩:=F.back _ H (.fz (.lst ds)) [] h (λb u e _=>e) ⟨⟨l,vs,rfl,aZ,rd.up h⟩,rfl⟩
 have c:∀a∈fp',a∈fp/\a≠l:=λa ha=>by
  grind
 have nl:∀j t w,j≠i->M[j]?=aa t->E[j]?=aa _->Holds G Hf H t w l->False:=λj t w hj b m p=>hj (B.dj j i t _ w v l b es m J p ⟨fp,r,N⟩);refine B.re (B.ext.fix (z l N).1 Q ql) (by simp) (λj u t a b=>?_) λj t w a b m p=>?_
 .rcases cR b with⟨e,e',_⟩ |⟨en,b⟩
  .subst e e';rw[J]at a;cases a;exact⟨v,fp',rfl,T,(nd ij λa ha=>nomatch ha),λx A=>⟨(z x (c x A).1).1,by rw[aK (c x A).2];grind⟩⟩
  .have q:=B.at' j u t a b
   cases C:t.isOwn with
   |false=>
    cases t with
    |no=>trivial
    |im d=>obtain⟨U,I,f⟩:=q;exact⟨U,I,f.up h⟩
    |val U=>exact q
    |deep o'=>
     obtain⟨w,gp,I,f,n2,z2⟩:=q;subst I;refine⟨w,gp,rfl,f.up h (aq.refl _),n2,λx A=>⟨(z2 x A).1,?_⟩⟩;rw[aK (λy=>nl j _ w en b a ⟨gp,f,by rw[<- y];exact A⟩)]
     grind
    | _=>nomatch C
   |true=>
    obtain⟨l2,Y,e3,e4,q2⟩:=q.own C;subst Y;refine .ofOwn C ⟨l2,rfl,e3,?_,q2.up h λo' L=>L⟩;rw[aK (λy=>nl j t _ en b a ((Holds.own C).mpr (by rw[y])))]
    grind
 .rcases cR b with⟨e,e',_⟩ |⟨_,b⟩
  .subst e e';rw[J]at m;cases m;obtain⟨g,f,ha⟩:=p;have:=OT.funM _ _ _ _ T f;subst this;exact⟨_,es,⟨fp,r,(c a ha).1⟩⟩
  .exact⟨t,b,(B.at' j _ t m b).back (λo fp _ r=>r.up h (aq.refl _)) p⟩
abbrev nr(i:Nat)(cn f:Str)(F:MF3)(M:LS):Option Fl:=(aU cn f (aH i) M).bind λq=>q.1.items.bind λds=>F (M.set i (.deep (q.2 (.fz (.lst ds)))))
def G3{F:MF3}(i:Nat)(cn f:Str)(h:DS c X st F):DS c X st (nr i cn f F):=PS.imp h λV4 E H m=>by
 obtain⟨Hf0,H0,Hf,M,o,d,a,k⟩:=m;obtain⟨q,e,a⟩:=bc a;obtain⟨ds,g,a⟩:=bc a;obtain⟨t,v,fp,v1,f1,es,j,rt,n,z,b⟩:=QM d e;rw[rn g]at b;obtain⟨l,vs,fs,rfl,p,L,rfl⟩:=id b.r;obtain⟨rd,rfl⟩:=L.unfz;exact⟨Hf0,H0,_,_,o,d.focFix es j rt n z b p rd,a,k.up (bN (z l (b.sub l aF)).2)⟩
structure Bas(K:aQ)(V5:Addr)(m:Str)(f:Addr):Prop where
 sg:W.specialIn K (.ref V5) "__getattribute__"=aa (aa (.builtin "type.__getattribute__"))
 rd:W.readsIn K V5 (.type "type")=ac
 fc:W.findCls K (.ref V5) (.type "type") m=aa (.val (.ref f))
 kp:ga K (.ref f)=ac
variable{V5:Addr}
def QN{U:PNS}{s:ah}{A:b6}{V4:PRS}{m:Str}{Q:Value×LVa->ah->Prop}(I:Inv X U E H s)(b:Bas X.K V5 m f)(h:∀a,Inv X U E H a->Q (.ref f,[]) a):wpAny @2 A (gZ (.ref V5) m pl) Q V4 s:=
 W.method_cls I.kIn b.sg (W.cls_value I.kIn b.rd b.fc rfl (h _ (I.tok _)))
abbrev lN(i:Nat)(m:MTf)(f:Xa):Xe:=λM=>match M[i]? with
 |some (.deep (.at _ _))=>(f M).bind λp=>match p.2[i]? with
  |some (.deep (.at l o))=>(m l p.1 o).map λq=>(q.2,p.2.set i (.deep (.at l q.1)))
  | _=>ab
 | _=>ab
variable{sp:Sp}{t:TA}
def QO{k:Nat}(l:Gl X x)(hm:X.mg x=aa (.ref V5))(b:Bas X.K V5 fl f)(F:cr X.prog X.w X.K X.mg X.base CX0 k f fd ps sp)(hr:bu k X.A)(j:dS X.K fd ps [])(ha:PA X (e::es) t)
 (d:StE X e es:=by rfl)(c:BkE X pos es:=by rfl)(a:NDb x:=by decide)
 (m:eval (.Call (.Attribute (.Name x p) fl apos) (e::es) [] pos) X.env=(do
   let ov <- eval (.Name x p) X.env
   gt apos.atName
   let (f,first) <- eJ [ov] (gZ ov fl pl)
   jD pos f first (ca pos (aN (e::es) X.env)) (io pos (il [] X.env))):=by rfl):
  PE X (.Call (.Attribute (.Name x p) fl apos) (e::es) [] pos) (xp sp [] E0 t):=by
 intro U s E H Q I h;refine W.methodCall_KW (wW I l hm ?_ a) m;refine QN I b λs1 i=>?_;exact W.callWith_K I.ok.mod.kin b.kp (thn (ha pos U s1 E H _ i h) λus s2 ⟨vs,q,g,r,n⟩=>⟨g.kIn,(tK F hr j .nil gB g r n)⟩) d c
variable{fa:Xa}{m:MTf}
def QP{Q:VK}(U:∀E H Q,rf (Gx c X) fa E H Q->t E H Q)(hn:∀M ds ρ',fa M=aa (ds,ρ')->1+ds.length=ps.length)(q_:tDX (Gx c X) (lN i m fa) E H Q):xp (ib (Gx c X) ps.length m) [] E0 (i5 (cQ i) t) E H Q:=by
 obtain⟨Hf0,H0,Hf,M,d,ρ',st,b,Y⟩:=q_;unfold lN at b;split at b
 .rename_i C o0 p;obtain⟨pp,A,b⟩:=bc b;obtain⟨ds,ρ1⟩:=pp;split at b
  .rename_i l o1 e;obtain⟨q,J,b⟩:=dO b;cases b;obtain⟨u,x,u',fp,L,rt,n,z⟩:=st.slot p;subst L;obtain⟨el,rt0⟩:=rt;subst el;refine⟨_,x,U _ _ _ ⟨Hf0,H0,Hf,M,ds,ρ1,st,A,λus Hf' H' f1 st1 r=>?_⟩⟩;show ib _ _ _ ((V.ref C::us)++[]) H' Q E0;rw[bP];obtain⟨w,B,w',gp,N,y,n1,z1⟩:=st1.slot e;subst N;rw[x]at B;cases B;obtain⟨j,g⟩:=y;cases j;exact⟨Hf',ds,o1,q.1,q.2,C,gp,us,rfl,st1.sub,g,n1,λa ha=>(z1 a ha).2,r,hn _ _ _ A,J,λv h I T G r3 n3 z3 rv=>Y v h I (f1.trans G.f) (st1.treeBack e x ⟨rfl,g⟩ G ⟨rfl,r3⟩ n3 z3) rv⟩
  .grind
 .grind
section
variable{k:Nat}{o:Expr}
def QQ(n:PE X o (cQ i))(l:Gl X x)(hm:X.mg x=aa (.ref V5))(b:Bas X.K V5 fl f)(F:cr X.prog X.w X.K X.mg X.base CX0 k f fd ps (ib (Gx c X) ps.length m))(hr:bu k X.A)(j:dS X.K fd ps [])(ha:DAX c X (e::es) fa)
 (u:(e::es).length+1=ps.length:=by rfl)(a:aN (o::e::es) X.env=(af,eval o X.env)::aN (e::es) X.env:=by rfl)(g:(ca pos (aN (e::es) X.env)).any (·.1)=af:=by rfl)(d:NDb x:=by decide)
 (q:eval (.Call (.Attribute (.Name x p) fl apos) (o::e::es) [] pos) X.env=(do
   let ov <- eval (.Name x p) X.env
   gt apos.atName
   let (f,first) <- eJ [ov] (gZ ov fl pl)
   jD pos f first (ca pos (aN (o::e::es) X.env)) (io pos (il [] X.env))):=by rfl):
  DX c X (.Call (.Attribute (.Name x p) fl apos) (o::e::es) [] pos) (lN i m fa):=PE.imp (QO l hm b F hr j (eO n ha.pa a) a g d q) λE H Q r=>QP (λ_ _ _ h=>h) (λM ds ρ' h=>by have:=ha.len M ds ρ' h;lia) r
end
section
variable{k:Nat}
abbrev nt(i:Nat)(cn fl:Str)(f:MF1)(M:LS):Option Fl:=match M[i]? with
 |some (.deep (.at l (.ins c' ns os)))=>if c'=cn/\ns.length<1000 then (aT fl ns).bind λk=>match os[k]? with
  |some (.fz (.int a))=>match f M with
   |some (.int b)=>aa (.nx (M.set i (.deep (.at l (.ins c' ns (os.set k (.fz (.int (a+b)))))))))
   | _=>ab
  | _=>ab else ab
 | _=>ab
end
variable{g:MF1}
def QR{o:Expr}{u:Pos}(cn:Str)(hc:Cls X.K (c cn))(hn:cH X.K (c cn) fl)(ho:PE X o (cQ i))(he:DE c X e g):DS c X (.AugAssign (.Attribute o fl u) .Add e pos) (nt i cn fl g):=PS.imp (Lr ho he Lv) λV4 E H q_=>by
 obtain⟨Hf0,H0,Hf,M,o,Q,d,kq⟩:=q_;unfold nt at d;split at d
 .rename_i l A ns os es;split at d
  .rename_i I;obtain⟨rfl,hlt⟩:=I;obtain⟨k,U,d⟩:=bc d;split at d
   .rename_i a eo;split at d
    .rename_i b eb;cases d;obtain⟨v,T,v',fp,e3,rt,n,z⟩:=Q.slot es;subst e3;have F:=Foc.at rt n;obtain⟨el,p,dx,vs,fs,ep,J,hz,L,B⟩:=id rt;subst el;cases ep;subst B;obtain⟨na,N⟩:=cf.mp n;obtain⟨vk,fk,C,rk,_,sb,bk⟩:=L.foc N eo;refine⟨_,T,_,c A,dx,ns.zip vs,vk,rfl,J,hc,hn,(y6 vs U).trans C,Hf0,H0,Hf,M,_,Q,eb,λv2 r x m r1=>⟨a,b,rk.1,r1,?_⟩⟩;refine⟨dx,ns.zip vs,m.h _ _ J,by rw[nU];lia,kq E r _ m.f ?_⟩;have F1:=F.up m.f m.h;have keep:∀q w,q≠l->x q=aa w->upd x l (.ins (c A) dx (c7 fl (.int (a+b)) (ns.zip vs))) q=aa w:=λq w j e=>by rw[aK j];exact e
     obtain ⟨G,r',Y,n'⟩:=bk r (upd x l (.ins (c A) dx (c7 fl (.int (a + b)) (ns.zip vs)))) (.fz (.int (a + b))) (.int (a + b)) [] m.f (λq w j hm _=>by
      refine keep q w (λy=>?_) (m.h _ _ j);subst y;rw[J]at j;cases j
      rcases hm with hm |hm
      .nomatch hm
      .exact na hm) ⟨rfl,rfl⟩
     refine Q.foc es T (rt.up m.f m.h) m F1 (λq w j hn=>keep q w (λy=>hn (by rw[y];exact aF)) j) ⟨l,dx,vs.set k (.int (a+b)),G,rfl,by rw[aZ,zb hz U],by simp[hz],r',rfl⟩ (cf.mpr ⟨λy=>?_,n' ij λq j=>nomatch j⟩) λq j=>?_
     .rcases Y l y with w |⟨w,_⟩
      .nomatch w
      .exact na w
     .rcases bh.mp j with y |y
      .rw[y];exact .inl aF
      .rcases Y q y with w |⟨w,_⟩
       .nomatch w
       .exact .inl (bq _ w)
    .nomatch d
   .nomatch d
  .nomatch d
 .nomatch d
abbrev rq(i:Nat)(f:MF1)(M:LS):Option Fl:=match M[i]? with
 |some (.im (.int a))=>match f M with
  |some (.int b)=>aa (.nx (M.set i (.im (.int (a-b)))))
  | _=>ab
 | _=>ab
def QS(i:Nat){h:Pos}(y:X.N.Nodup)(z:DE c X e g)(hi:X.N[i]?=aa x:=by rfl)(B:Loc X.env.scope x:=by first |exact bX rfl |exact bz rfl)(A:LcF X x:=by first |exact .inl rfl |exact .inr rfl):
  DS c X (.AugAssign (.Name x h) .Sub e pos) (rq i g):=PS.imp (D0 y hi B z KD A) λV4 E H C=>by
 obtain⟨Hf0,H0,Hf,M,o,l,d,k⟩:=C;unfold rq at d;split at d
 .rename_i a es;split at d
  .rename_i b n;cases d;obtain⟨v,p,w,q,j⟩:=l.slot es;subst q;exact⟨_,p,Hf0,H0,Hf,M,_,l,n,λu Hf' H' m r=>⟨a,b,j,r,k _ Hf' H' m.f ((l.step m).setIm rfl)⟩⟩
  .nomatch d
 .nomatch d
def QT{f:MF1}(h:PE X e (tBM X.K "list" (yY (Gx c X)) (tDB (Gx c X) f) (i5 (tD (Gx c X) g) hJ))):DE c X e (m2 gM f g):=PE.imp h λE H Q I=>by
 obtain⟨Hf0,H0,Hf,M,d,st,G,k⟩:=I;obtain⟨x,y,B,C,m⟩:=mJ G
 obtain⟨ds,i,rfl,rfl⟩:∃ds i,x=.lst ds/\d=.int i:=by
  unfold gM at m
  grind
 refine⟨Hf0,H0,Hf,M,_,st,B,λv b U p n=>?_⟩;obtain⟨l,vs,el,q,L⟩:=id n;subst el;exact⟨.inl ⟨rfl,_,SqL.of q⟩,Hf0,H0,b,M,y,st.step p,C,λu j r a J=>⟨r,.lst ds,y,_,u,rfl,aq.refl _,n.up a.h,J.up a.s,m,λw A z T N=>k w j z ((p.trans a).trans (Ext.grow a.s T.h)) N⟩⟩
section
variable{k:Nat}
abbrev rA(x y:D):OD:=match x with
 |.dT ks ds=>(ku y).bind λk=>(aT k ks).bind λj=>ds[j]?
 | _=>ab
end
def QU{o:Expr}{f:MF1}(Y:X.A.units+1<cLine)(T:DE c X o f)(N:DE c X e g)(U:qy e:=by exact λ_ _=>rfl):DE c X (.Subscript o e pos) (m2 rA f g):=PE.imp (xH Y T N U) λE H Q q_=>by
 obtain⟨Hf0,H0,Hf,M,d,st,J,kq⟩:=q_;obtain⟨x,y,z,B,h⟩:=mJ J;unfold rA at h;split at h
 .rename_i ks ds;obtain⟨k,C,h⟩:=bc h;obtain⟨j,G,h⟩:=bc h;refine⟨Hf0,H0,Hf,M,_,st,z,λv l H1 r r1=>⟨Hf0,H0,l,M,y,st.step r,B,λu m w i r2=>?_⟩⟩;obtain⟨b,I,tk⟩:=rj C r2;obtain⟨a,vs,rfl,ha,hz,L⟩:=r1;subst I;obtain⟨q,n,p⟩:=L.get h;refine⟨a,q,rfl,?_,kq q m w (r.trans i) (p.up i.f)⟩;rw[<- n,<- pf vs G];exact fO.t (i.s _ _ (i.f _ _ ha)) (tk.same i.s)
 .nomatch h
structure ze(K:aQ)(x qual:Str)(st:Stmt)(f:Addr)(fd:cO):Prop where
 ex:∃(oc:Value) (od:Option Addr) (dV kV doc pm:Value) (an:Option Addr) (cdv ct:Value) (osl:Array (Option Value)),
  fd=iY x qual (ka st) (fN st) (au st) dV kV doc pm an cdv ct/\K.lookup f=aa ⟨oc,od,.func fd,osl⟩/\W.codeIn K cdv qual=ac
 kp:ga K (.ref f)=ac
def QV{oc:Value}{od an:Option Addr}{osl:Array (Option Value)}{dV kV doc pm cdv ct:Value}(l:K.lookup f=aa ⟨oc,od,.func (iY x qual (ka st) (fN st) (au st) dV kV doc pm an cdv ct),osl⟩)
 (c:W.codeIn K cdv qual=ac)(k:ga K (.ref f)=ac):ze K x qual st f (iY x qual (ka st) (fN st) (au st) dV kV doc pm an cdv ct):=⟨⟨oc,od,dV,kV,doc,pm,an,cdv,ct,osl,rfl,l,c⟩,k⟩
variable{n:Nat}
def G4{ds:LVa}{T:Addr}{o:Obj}{items:Array Value}(l:K.lookup T=aa o)(d:o.data=.seq items n)(hd:fd.defaults=.ref T)
 (h:∀us:LVa,(us++ds).length=ps.length->∃k,bindArgs fd ⟨us,[]⟩=seqItems? fd.defaults >>= k/\k (aa items)=pure (ps.zip (us++ds))):dS K fd ps ds:=λs us X c=>by
 obtain⟨k,a,b⟩:=h us c;exact W.binds_K X hd l d a b
variable{w:World}
def QW{k:Nat}{F:MF3}(u:ze K x qual st f fd)(S:aB N ps (au st))
 (h:∀(cdv:Value) (A:b6) (outer:List Env) (s:ah) (H:Hp) (V4:XK),bu k @10->DSs c (iw CX0 P w K mg base N qual (au st) f cdv A outer s H V4).nox (fN st) F)(j:N.length=n_:=by rfl):
  cr P w K mg base CX0 (k+1) f fd ps (spD ⟨K,c⟩ ps.length (aP n_ F)):=by
 subst j;obtain⟨oc,od,dV,kV,doc,pm,an,cdv,ct,osl,rfl,y,i⟩:=u.ex;refine Eo y i S (λvs H Q V4 m=>by obtain⟨Hf,ds,d,q,r,a,_⟩:=m;rw[<- r.length];exact a) λA outer s H vs Q V4 hr m=>?_;obtain⟨Hf,ds,d,q,r,a,e,b⟩:=m;refine⟨_,(h cdv A outer s H V4 hr).nox,?_⟩;unfold aP at e
 cases g:F _ with
 |none=>rw[g]at e;nomatch e
 |some o=>
  rw[g]at e;refine⟨Hf,H,Hf,_,o,ar.start q r,g,?_⟩
  cases o with
  |rt d=>cases e;exact b
  |rtO L=>cases e;exact λl vs Hf' H' x hn p a r=>b _ _ H' (x.fix hn p a) ⟨l,vs,rfl,aZ,r.up (bN p)⟩
  |nx M=>cases e;exact λσ' Hf' H' _ n=>b _ Hf' H' n.ext rfl
  |rtS d M=>cases e;exact λv σ' Hf' H' n r=>b v Hf' H' n.ext r
  | _=>nomatch e
end L2
namespace N_k56
open List
open PySem PySem.Spec PyProof.Rows L2
local macro_rules | `(tactic| walk_at "sc")=>`(tactic| exact ⟨rfl,rfl,rfl,by decide +kernel,rfl,by decide +kernel,by decide +kernel⟩)
abbrev top(i:Nat):Stmt:=PySem.Challenge.pw_standstill_k56_turned_about.main.body.getD i (.Pass ⟨0,0,0,0⟩)
nonrec def s_1:=top 2
nonrec def zf:=top 3
nonrec def zg:=top 10
nonrec def zh:=top 11
nonrec def zi:=top 12
nonrec def zj:=top 13
nonrec def zk:=top 14
nonrec def zl:=top 15
nonrec def zm:=top 16
nonrec def zn:=top 17
nonrec def zo:=top 18
nonrec def s_7:=top 19
nonrec def s_2:=top 21
nonrec def zp:=top 22
nonrec def zq:=top 24
nonrec def zt:=top 25
nonrec def s_5:=top 26
nonrec def s_0:=top 29
nonrec def zu:=top 30
nonrec def zw:=top 31
nonrec def zx:=top 34
nonrec def s_3:=top 35
nonrec def zy:=top 36
nonrec def zA:=top 37
nonrec def zB:=top 38
nonrec def zC:=top 39
nonrec def zD:=top 40
nonrec def zE:=top 41
nonrec def zF:=top 42
nonrec def zG:=top 43
nonrec def s_6:=top 44
nonrec def zH:=bi (top 6) 0
nonrec def zJ:=bi (top 6) 2
nonrec def zK:=bi (top 6) 3
nonrec def zM:=bi (top 6) 5
nonrec def zN:=bi (top 6) 6
nonrec def zO:=bi (top 6) 7
nonrec def zP:=bi (top 6) 8
nonrec def zQ:=bi (top 6) 9
nonrec def zR:=bi (top 7) 0
nonrec def zS:=bi (top 7) 2
nonrec def zT:=bi (top 7) 3
nonrec def zU:=bi (top 7) 5
nonrec def zV:=bi (top 7) 6
nonrec def zW:=bi (top 7) 7
nonrec def zX:=bi (top 7) 8
nonrec def zY:=bi (top 7) 9
nonrec def zZ:=bi (top 8) 0
nonrec def z4:=bi (top 8) 2
nonrec def z5:=bi (top 8) 3
nonrec def z6:=bi (top 8) 5
nonrec def z7:=bi (top 8) 6
nonrec def z8:=bi (top 8) 7
nonrec def z9:=bi (top 8) 8
nonrec def Aa:=bi (top 8) 9
nonrec def Ab:=bi (top 9) 0
nonrec def Ac:=bi (top 9) 2
nonrec def Ad:=bi (top 9) 3
nonrec def Ae:=bi (top 9) 5
nonrec def Ag:=bi (top 9) 6
nonrec def Ah:=bi (top 9) 7
nonrec def Ai:=bi (top 9) 8
nonrec def Aj:=bi (top 9) 9
nonrec def Ak:=bi (top 32) 0
nonrec def s_8:=bi (top 32) 1
nonrec def Al:=bi (top 32) 2
nonrec def Am:=bi (top 32) 3
nonrec def An:=bi (top 32) 4
nonrec def s_4:=bi (top 32) 5
nonrec def s_9:=bi (top 32) 6
nonrec def Ao:=bi (top 27) 1
nonrec def Ap:=bi (top 27) 2
nonrec def Aq:=bi (top 27) 3
nonrec def Ar:=bi (top 27) 4
nonrec def As:=bi (top 27) 5
nonrec def At:=bi (top 27) 6
nonrec def Au:=bi (top 27) 7
nonrec def Av:=bi (top 27) 8
nonrec def Aw:=bi (top 27) 9
nonrec def Ax:=bi (top 27) 10
nonrec def Ay:=bi (top 27) 11
nonrec def Az:=bi (top 27) 12
nonrec def AA:=bi (top 27) 0
def pG:aB ["many","some","listed","thing"] ["many","some"] (au s_1):=by walk_at "sc"
def QX:aB ["truths"] ["truths"] (au zf):=by walk_at "sc"
def G5:aB ["told","word"] ["told"] (au zg):=by walk_at "sc"
def QY:aB ["items"] ["items"] (au zh):=by walk_at "sc"
def QZ:aB ["items","entries"] ["items","entries"] (au zi):=by walk_at "sc"
def Q0:aB ["items","sheet"] ["items","sheet"] (au zj):=by walk_at "sc"
def Q1:aB ["items"] ["items"] (au zk):=by walk_at "sc"
def Q2:aB ["items","without"] ["items","without"] (au zl):=by walk_at "sc"
def G6:aB ["items","sheet","lack","weights"] ["items","sheet","lack"] (au zm):=by walk_at "sc"
def AB:aB ["items","weights","thing","worth"] ["items"] (au zn):=by walk_at "sc"
def Q3:aB ["things","sheet","truth"] ["things","sheet","truth"] (au zo):=by walk_at "sc"
def uH:aB ["items","things","lack","weights","taken","left","thing","weight"] ["items","things","lack"] (au s_7):=by walk_at "sc"
def G7:aB ["rule"] ["rule"] (au s_2):=by walk_at "sc"
def G8:aB ["rule","guard"] ["rule"] (au zp):=by walk_at "sc"
def Q4:aB ["bar"] ["bar"] (au zq):=by walk_at "sc"
def G9:aB ["guard","sheet","pairs","part","tips"] ["guard","sheet"] (au zt):=by walk_at "sc"
def Ha:aB ["body","sheet","without","part"] ["body","sheet","without"] (au s_5):=by walk_at "sc"
def rB:aB ["plain","most","seeking","firsts","world"] ["plain","most"] (au s_0):=by walk_at "sc"
def Q5:aB ["why"] ["why"] (au zu):=by walk_at "sc"
def Q6:aB ["order","needed"] ["order","needed"] (au zw):=by walk_at "sc"
def Q7:aB ["_law_script","_law_k"] ["_law_script","_law_k"] (au zx):=by walk_at "sc"
def Hb:aB ["_law_cell","_law_k","_law_prime","_law_once"] ["_law_cell","_law_k"] (au s_3):=by walk_at "sc"
def Hc:aB ["_law_cell","_law_k","_law_many","_law_items_here","_law_j","_law_at","_law_worth"] ["_law_cell","_law_k","_law_many"] (au zy):=by walk_at "sc"
def He:aB ["_law_cell","_law_k","_law_many","_law_sort","_law_items_here","_law_bound"] ["_law_cell","_law_k","_law_many"] (au zA):=by walk_at "sc"
def AC:aB ["_law_cell","_law_many","_law_word","_law_size","_law_parts"] ["_law_cell","_law_many"] (au zB):=by walk_at "sc"
def Hg:aB ["_law_cell","_law_many","_law_rules","_law_k"] ["_law_cell","_law_many"] (au zC):=by walk_at "sc"
def Hh:aB ["_law_script","_law_top","_law_head","_law_many","_law_rules","_law_cell"] ["_law_script","_law_top"] (au zD):=by walk_at "sc"
def Q8:aB ["_law_part_here"] ["_law_part_here"] (au zE):=by walk_at "sc"
def Hi:aB ["_law_plain_here","_law_rules","_law_word","_law_head","_law_parts"] ["_law_plain_here"] (au zF):=by walk_at "sc"
def AD:aB ["_law_plain_here","_law_cell","_law_rules","_law_word","_law_head","_law_parts","_law_at","_law_twice"] ["_law_plain_here","_law_cell"] (au zG):=by walk_at "sc"
def Hj:aB ["_law_script","_law_plain_here","_law_cell","_law_most","_law_one","_law_other"] ["_law_script"] (au s_6):=by walk_at "sc"
def Q9:aB ["self","thing"] ["self","thing"] (au zH):=by walk_at "sc"
def Ra:aB ["self"] ["self"] (au zJ):=by walk_at "sc"
def Rb:aB ["self"] ["self"] (au zK):=by walk_at "sc"
def Rc:aB ["self","sheet"] ["self","sheet"] (au zM):=by walk_at "sc"
def Re:aB ["self","sheet","order"] ["self","sheet","order"] (au zN):=by walk_at "sc"
def Rf:aB ["self","sheet"] ["self","sheet"] (au zO):=by walk_at "sc"
def Rg:aB ["self","sheet","without"] ["self","sheet","without"] (au zP):=by walk_at "sc"
def Rh:aB ["self","sheet","without","order"] ["self","sheet","without","order"] (au zQ):=by walk_at "sc"
def Ri:aB ["self","thing"] ["self","thing"] (au zR):=by walk_at "sc"
def Rj:aB ["self"] ["self"] (au zS):=by walk_at "sc"
def Rk:aB ["self"] ["self"] (au zT):=by walk_at "sc"
def Rl:aB ["self","sheet"] ["self","sheet"] (au zU):=by walk_at "sc"
def Rm:aB ["self","sheet","order"] ["self","sheet","order"] (au zV):=by walk_at "sc"
def Rn:aB ["self","sheet"] ["self","sheet"] (au zW):=by walk_at "sc"
def Ro:aB ["self","sheet","without"] ["self","sheet","without"] (au zX):=by walk_at "sc"
def Rp:aB ["self","sheet","without","order"] ["self","sheet","without","order"] (au zY):=by walk_at "sc"
def Rq:aB ["self","bound","items"] ["self","bound","items"] (au zZ):=by walk_at "sc"
def Rr:aB ["self"] ["self"] (au z4):=by walk_at "sc"
def Rs:aB ["self"] ["self"] (au z5):=by walk_at "sc"
def Ru:aB ["self","sheet"] ["self","sheet"] (au z6):=by walk_at "sc"
def Rv:aB ["self","sheet","order"] ["self","sheet","order"] (au z7):=by walk_at "sc"
def Hk:aB ["self","sheet","lack"] ["self","sheet"] (au z8):=by walk_at "sc"
def Rw:aB ["self","sheet","without"] ["self","sheet","without"] (au z9):=by walk_at "sc"
def Hl:aB ["self","sheet","without","order","left"] ["self","sheet","without","order"] (au Aa):=by walk_at "sc"
def Rx:aB ["self","bound","items"] ["self","bound","items"] (au Ab):=by walk_at "sc"
def Ry:aB ["self"] ["self"] (au Ac):=by walk_at "sc"
def Rz:aB ["self"] ["self"] (au Ad):=by walk_at "sc"
def RA:aB ["self","sheet"] ["self","sheet"] (au Ae):=by walk_at "sc"
def RB:aB ["self","sheet","order"] ["self","sheet","order"] (au Ag):=by walk_at "sc"
def Hm:aB ["self","sheet","lack"] ["self","sheet"] (au Ah):=by walk_at "sc"
def RC:aB ["self","sheet","without"] ["self","sheet","without"] (au Ai):=by walk_at "sc"
def RD:aB ["self","sheet","without","order"] ["self","sheet","without","order"] (au Aj):=by walk_at "sc"
def RE:aB ["self","plain"] ["self","plain"] (au Ak):=by walk_at "sc"
def AE:aB ["self","why","world"] ["self"] (au s_8):=by walk_at "sc"
def Ho:aB ["self","why","line"] ["self","why"] (au Al):=by walk_at "sc"
def AF:aB ["self","bar","places","choices"] ["self","bar"] (au Am):=by walk_at "sc"
def uI:aB ["self","why","sheet","pair","cause","order","needed","bar","done","thing","ground"] ["self","why"] (au An):=by walk_at "sc"
def Hq:aB ["self","sheet","why","order","things","part"] ["self","sheet","why","order"] (au s_4):=by walk_at "sc"
def AG:aB ["self","sheet","group","order","without","things","head","body"] ["self","sheet","group","order"] (au s_9):=by walk_at "sc"
def Hr:aB ["self","why","guard","part","thing"] ["self","why","guard"] (au Ao):=by walk_at "sc"
def Hs:aB ["self","bar","why"] ["self","bar"] (au Ap):=by walk_at "sc"
def rC:aB ["self","bar","wider","pair","why"] ["self","bar"] (au Aq):=by walk_at "sc"
def RF:aB ["self","thing","truth","why"] ["self","thing","truth","why"] (au Ar):=by walk_at "sc"
def Ht:aB ["self","many","pair","why"] ["self","many"] (au As):=by walk_at "sc"
def Hu:aB ["self","going","why"] ["self"] (au At):=by walk_at "sc"
def uJ:aB ["self","why","pairs","thing","truth"] ["self"] (au Au):=by walk_at "sc"
def AH:aB ["self","without","thing","things","is_loose"] ["self"] (au Av):=by walk_at "sc"
def uK:aB ["self","without","used","rest","going","before","unused","maker"] ["self"] (au Aw):=by walk_at "sc"
def AI:aB ["self","thing","without","found","place","part"] ["self","thing","without"] (au Ax):=by walk_at "sc"
def RG:aB ["self","thing","without"] ["self","thing","without"] (au Ay):=by walk_at "sc"
def RH:aB ["self","part","without"] ["self","part","without"] (au Az):=by walk_at "sc"
def Hv:aB ["self","plain","bars","sheet","rule","number","bar"] ["self","plain","bars","sheet"] (au AA):=by walk_at "sc"
set_option genInjectivity false
set_option genSizeOf false
structure DfX(K:aQ)(mg:MGT)(x:Str)(st:Stmt)(ps:LSt)(e:Addr×cO):Prop where
 F:ze K x x st e.1 e.2
 b:dS K e.2 ps []
 g:mg x=aa (.ref e.1)
variable{P:b9}{w:World}{K:aQ}{mg:MGT}{base:Heap}{x:Str}{st:Stmt}{ps:LSt}
def DfX.pk{CX:CXT}{k:Nat}{e:Addr×cO}{sp:Sp}(V4:DfX K mg x st ps e)(o:cr P w K mg base CX k e.1 e.2 ps sp):Pk P w K mg base CX k x e ps sp:=⟨o,V4.g,V4.F.kp,V4.b⟩
structure Db(K:aQ)(x q:Str)(st:Stmt)(ps:LSt)(e:Addr×cO):Prop where
 F:Fun K x q st e.1 e.2
 b:dS K e.2 ps []
def Db.mk2{q:Str}{f:Addr}{fd:cO}(F:Fun K x q st f fd)(b:tN x q st ps:=by walk_at "bd"):Db K x q st ps (f,fd):=⟨F,F.binds b⟩
structure Wa where
(e_1 e_18 e_33 e_34 e_19 e_13 e_35 e_36 e_20 e_14 e_15 e_7 e_2 e_21 e_48 e_70 e_5 e_0 e_22 e_37 e_38 e_3 e_39 e_23 e_24 e_25 e_26 e_40 e_27 e_16 e_6 e_66 e_41 e_49 e_50 e_51 e_52 e_28 e_53 e_67 e_42 e_54 e_55 e_56 e_57 e_29 e_58 e_68 e_43 e_59 e_60 e_61 e_44 e_30 e_45 e_69 e_46 e_62 e_63 e_64 e_47 e_31 e_65 e_11 e_8 e_12 e_32 e_17 e_4 e_9 hO h9 hY kF h8 j0 h6 gF g5 j3 h7 ir e_10:Addr×cO)
 (cl:Str->Addr)
 (C_Spreading:Addr)
structure Wd(K:aQ)(mg:MGT)(a:Wa):Prop where
 e_1:Df K mg "marks" s_1 ["many","some"] a.e_1
 e_18:Df K mg "numbers" zf ["truths"] a.e_18
 e_33:Df K mg "part_of" zg ["told"] a.e_33
 e_34:Df K mg "things_of" zh ["items"] a.e_34
 e_19:Df K mg "worth_in" zi ["items","entries"] a.e_19
 e_13:Df K mg "worth_not_out" zj ["items","sheet"] a.e_13
 e_35:Df K mg "worth_of" zk ["items"] a.e_35
 e_36:Df K mg "outside" zl ["items","without"] a.e_36
 e_20:Df K mg "heavy" zm ["items","sheet","lack"] a.e_20
 e_14:Df K mg "weights_of" zn ["items"] a.e_14
 e_15:Df K mg "with_entry" zo ["things","sheet","truth"] a.e_15
 e_7:Df K mg "enough" s_7 ["items","things","lack"] a.e_7
 e_2:Df K mg "body_of" s_2 ["rule"] a.e_2
 e_21:Df K mg "guard_of" zp ["rule"] a.e_21
 e_48:Df K mg "guard_of_bar" zq ["bar"] a.e_48
 e_70:Df K mg "pressed_by" zt ["guard","sheet"] a.e_70
 e_5:Df K mg "lost_part" s_5 ["body","sheet","without"] a.e_5
 e_0:DfX K mg "worlds" s_0 ["plain","most"] a.e_0
 e_22:Df K mg "own_why" zu ["why"] a.e_22
 e_37:Df K mg "needed_first" zw ["order","needed"] a.e_37
 e_38:Df K mg "_law_cell_at" zx ["_law_script","_law_k"] a.e_38
 e_3:Df K mg "_law_mixed" s_3 ["_law_cell","_law_k"] a.e_3
 e_39:Df K mg "_law_items" zy ["_law_cell","_law_k","_law_many"] a.e_39
 e_23:Df K mg "_law_part" zA ["_law_cell","_law_k","_law_many"] a.e_23
 e_24:Df K mg "_law_rule" zB ["_law_cell","_law_many"] a.e_24
 e_25:Df K mg "_law_base" zC ["_law_cell","_law_many"] a.e_25
 e_26:Df K mg "_law_plain" zD ["_law_script","_law_top"] a.e_26
 e_40:Df K mg "_law_part_again" zE ["_law_part_here"] a.e_40
 e_27:Df K mg "_law_again" zF ["_law_plain_here"] a.e_27
 e_16:Df K mg "_law_turned" zG ["_law_plain_here","_law_cell"] a.e_16
 e_6:Df K mg "law" s_6 ["_law_script"] a.e_6
 e_66:Dm K (a.cl "In") "__init__" "In.__init__" zH ["self","thing"] a.e_66
 e_41:Dm K (a.cl "In") "named" "In.named" zJ ["self"] a.e_41
 e_49:Dm K (a.cl "In") "wants" "In.wants" zK ["self"] a.e_49
 e_50:Dm K (a.cl "In") "sure" "In.sure" zM ["self","sheet"] a.e_50
 e_51:Dm K (a.cl "In") "sure_by" "In.sure_by" zN ["self","sheet","order"] a.e_51
 e_52:Dm K (a.cl "In") "tips" "In.tips" zO ["self","sheet"] a.e_52
 e_28:Dm K (a.cl "In") "lost" "In.lost" zP ["self","sheet","without"] a.e_28
 e_53:Dm K (a.cl "In") "lost_by" "In.lost_by" zQ ["self","sheet","without","order"] a.e_53
 e_67:Dm K (a.cl "Out") "__init__" "Out.__init__" zR ["self","thing"] a.e_67
 e_42:Dm K (a.cl "Out") "named" "Out.named" zS ["self"] a.e_42
 e_54:Dm K (a.cl "Out") "wants" "Out.wants" zT ["self"] a.e_54
 e_55:Dm K (a.cl "Out") "sure" "Out.sure" zU ["self","sheet"] a.e_55
 e_56:Dm K (a.cl "Out") "sure_by" "Out.sure_by" zV ["self","sheet","order"] a.e_56
 e_57:Dm K (a.cl "Out") "tips" "Out.tips" zW ["self","sheet"] a.e_57
 e_29:Dm K (a.cl "Out") "lost" "Out.lost" zX ["self","sheet","without"] a.e_29
 e_58:Dm K (a.cl "Out") "lost_by" "Out.lost_by" zY ["self","sheet","without","order"] a.e_58
 e_68:Dm K (a.cl "Least") "__init__" "Least.__init__" zZ ["self","bound","items"] a.e_68
 e_43:Dm K (a.cl "Least") "named" "Least.named" z4 ["self"] a.e_43
 e_59:Dm K (a.cl "Least") "wants" "Least.wants" z5 ["self"] a.e_59
 e_60:Dm K (a.cl "Least") "sure" "Least.sure" z6 ["self","sheet"] a.e_60
 e_61:Dm K (a.cl "Least") "sure_by" "Least.sure_by" z7 ["self","sheet","order"] a.e_61
 e_44:Dm K (a.cl "Least") "tips" "Least.tips" z8 ["self","sheet"] a.e_44
 e_30:Dm K (a.cl "Least") "lost" "Least.lost" z9 ["self","sheet","without"] a.e_30
 e_45:Dm K (a.cl "Least") "lost_by" "Least.lost_by" Aa ["self","sheet","without","order"] a.e_45
 e_69:Dm K (a.cl "Most") "__init__" "Most.__init__" Ab ["self","bound","items"] a.e_69
 e_46:Dm K (a.cl "Most") "named" "Most.named" Ac ["self"] a.e_46
 e_62:Dm K (a.cl "Most") "wants" "Most.wants" Ad ["self"] a.e_62
 e_63:Dm K (a.cl "Most") "sure" "Most.sure" Ae ["self","sheet"] a.e_63
 e_64:Dm K (a.cl "Most") "sure_by" "Most.sure_by" Ag ["self","sheet","order"] a.e_64
 e_47:Dm K (a.cl "Most") "tips" "Most.tips" Ah ["self","sheet"] a.e_47
 e_31:Dm K (a.cl "Most") "lost" "Most.lost" Ai ["self","sheet","without"] a.e_31
 e_65:Dm K (a.cl "Most") "lost_by" "Most.lost_by" Aj ["self","sheet","without","order"] a.e_65
 e_11:Dm K @6 "__init__" "Seeking.__init__" Ak ["self","plain"] a.e_11
 e_8:Dm K @6 "another" "Seeking.another" s_8 ["self"] a.e_8
 e_12:Dm K @6 "close" "Seeking.close" Al ["self","why"] a.e_12
 e_32:Dm K @6 "place_for" "Seeking.place_for" Am ["self","bar"] a.e_32
 e_17:Dm K @6 "line_to" "Seeking.line_to" An ["self","why"] a.e_17
 e_4:Dm K @6 "grounds" "Seeking.grounds" s_4 ["self","sheet","why","order"] a.e_4
 e_9:Dm K @6 "grounds_of_group" "Seeking.grounds_of_group" s_9 ["self","sheet","group","order"] a.e_9
 hO:Dm K @6 "take_guard" "Spreading.take_guard" Ao ["self","why","guard"] a.hO
 h9:Dm K @6 "take_bar" "Spreading.take_bar" Ap ["self","bar"] a.h9
 hY:Dm K @6 "drop_wider" "Spreading.drop_wider" Aq ["self","bar"] a.hY
 kF:Dm K @6 "put" "Spreading.put" Ar ["self","thing","truth","why"] a.kF
 h8:Dm K @6 "take_back" "Spreading.take_back" As ["self","many"] a.h8
 j0:Dm K @6 "settle" "Spreading.settle" At ["self"] a.j0
 h6:Dm K @6 "look_round" "Spreading.look_round" Au ["self"] a.h6
 gF:Dm K @6 "put_loose_out" "Spreading.put_loose_out" Av ["self"] a.gF
 g5:Dm K @6 "loose_marks" "Spreading.loose_marks" Aw ["self"] a.g5
 j3:Dm K @6 "kernel" "Spreading.kernel" Ax ["self","thing","without"] a.j3
 h7:Dm K @6 "lost_parts" "Spreading.lost_parts" Ay ["self","thing","without"] a.h7
 ir:Dm K @6 "keeping" "Spreading.keeping" Az ["self","part","without"] a.ir
 e_10:Db K "__init__" "Spreading.__init__" AA ["self","plain","bars","sheet"] a.e_10
 b1_worlds:∃ds,aG [V.int 1] ds/\dS K a.e_0.2 ["plain","most"] ds
 ro:mg "In"=aa (.ref (a.cl "In"))
 n7:Cls K (a.cl "In")
 p6:Mk K (a.cl "In") a.e_66.1
 nq:cH K (a.cl "In") "thing"
 rc:mg "Out"=aa (.ref (a.cl "Out"))
 nL:Cls K (a.cl "Out")
 pz:Mk K (a.cl "Out") a.e_67.1
 mu:cH K (a.cl "Out") "thing"
 qa:mg "Least"=aa (.ref (a.cl "Least"))
 kT:Cls K (a.cl "Least")
 oo:Mk K (a.cl "Least") a.e_68.1
 lj:cH K (a.cl "Least") "bound"
 lb:cH K (a.cl "Least") "pieces"
 ri:mg "Most"=aa (.ref (a.cl "Most"))
 mm:Cls K (a.cl "Most")
 pq:Mk K (a.cl "Most") a.e_69.1
 md:cH K (a.cl "Most") "bound"
 lk:cH K (a.cl "Most") "pieces"
 pj:mg "Spreading"=aa (.ref a.C_Spreading)
 oD:Bas K a.C_Spreading "__init__" a.e_10.1
 p0:mg "Seeking"=aa (.ref @6)
 ad:Cls K @6
 n0:Mk K @6 a.e_11.1
 ii:cH K @6 "sheet"
 ll:cH K @6 "steps"
 ld:cH K @6 "bars"
 kv:cH K @6 "guards"
 g3:cH K @6 "watches"
 kr:cH K @6 "waiting"
 ky:cH K @6 "makers"
 lp:cH K @6 "paper"
 kQ:cH K @6 "count"
 l0:cH K @6 "ended"
 qq:mg "any"=ab
 p5:mg "bool"=ab
 ny:mg "enumerate"=ab
 nk:mg "isinstance"=ab
 qs:mg "len"=ab
 n5:mg "list"=ab
 o6:mg "range"=ab
 nS:mg "reversed"=ab
 q4:mg "set"=ab
 og:mg "sorted"=ab
 p4:mg "sum"=ab
 pu:mg "tuple"=ab
 pw:qH K "bool"
 pb:qH K "tuple"
set_option genInjectivity true
set_option genSizeOf true
nonrec abbrev qD(P:b9)(w:World)(K:aQ)(mg:MGT)(base:Heap)(a:Wa)(k:Nat)(x:Str)(e:Addr×cO)(ps:LSt)(m:LD->OD):Prop:=Pk P w K mg base CX0 k x e ps (spD ⟨K,a.cl⟩ ps.length m)
nonrec abbrev qO(P:b9)(w:World)(K:aQ)(mg:MGT)(base:Heap)(a:Wa)(k:Nat)(x:Str)(e:Addr×cO)(ps:LSt)(m:LD->OLD):Prop:=Pk P w K mg base CX0 k x e ps (spO ⟨K,a.cl⟩ ps.length m)
nonrec abbrev gN(P:b9)(w:World)(K:aQ)(mg:MGT)(base:Heap)(a:Wa)(k:Nat)(c x:Str)(e:Addr×cO)(ps:LSt)(m:MTf):Prop:=Pm P w K mg base CX0 k (a.cl c) x e ps (ib ⟨K,a.cl⟩ ps.length m)
nonrec abbrev qPD(P:b9)(w:World)(K:aQ)(mg:MGT)(base:Heap)(a:Wa)(k:Nat)(c x:Str)(e:Addr×cO)(ps:LSt)(m:LD->OD):Prop:=Pm P w K mg base CX0 k (a.cl c) x e ps (spD ⟨K,a.cl⟩ ps.length m)
nonrec abbrev qPO(P:b9)(w:World)(K:aQ)(mg:MGT)(base:Heap)(a:Wa)(k:Nat)(c x:Str)(e:Addr×cO)(ps:LSt)(m:LD->OLD):Prop:=Pm P w K mg base CX0 k (a.cl c) x e ps (spO ⟨K,a.cl⟩ ps.length m)
abbrev AJ:MF3:=
 (ai (bg (mB (m2 dEq (av cu (ag (ae 0) nZ)) (kI 2))) (fw 0) bK)
  (be (bj (ag (mIx (aw 0) (kI 0)) (ag (mIx (aw 0) (kI 1)) (ag (aO (aV (mIx (aw 0) (kI 2)))) nZ))))))
abbrev uL:=aP 1 AJ
abbrev AK:MF3:=
 (ai (cJ 1 nZ)
  (ai (bZ (aV (mIx (aw 0) (kI 1))) (cX (bo (ax 2) (bo (ax 3) (bo (ax 4) c9)))) (c8 1 (bj (ag (ae 2) (ag (ae 3) (ag (aO (bp 1 [] (aV (ae 4)) (ax 0) kY (av uL (ag (ae 0) nZ)))) nZ))))))
  (eQ 1 (be (bj (ag (mIx (aw 0) (kI 0)) @11))))))
abbrev uM:=aP 5 AK
abbrev AL:MF3:=
 (ai (bg (mB (m2 dLt (ae 1) (av cu (ag (ae 0) nZ)))) (be (mIx (aw 0) (ae 1))) bK)
  (be (kI 0)))
abbrev uN:=aP 2 AL
abbrev b_3:MF3:=
 (ai (aX 2 (mIx (ag (kI 2147483647) (ag (kI 1000000007) (ag (kI 998244353) (ag (kI 1000000009) nZ)))) (m2 bJ (ae 1) (kI 4))))
  (ai (aX 3 (m2 bJ (m2 lJ (m2 d7 (m2 bJ (ae 0) (m2 qB (kI 10) (kI 18))) (m2 lJ (kI 15485863) (m2 d7 (ae 1) (kI 1)))) (kI 48271)) (ae 2)))
  (be (m2 bJ (m2 lJ (ae 3) (ae 3)) (kI 1000003)))))
abbrev m_3:=aP 4 b_3
abbrev uO:MF3:=
 (ai (cJ 2 nZ)
  (ai (bZ (iz @11) (ax 3) (ai (bg (mB (m2 dEq (m2 bJ (ae 0) (kI 4)) (kI 1))) (c8 2 (bj (ag (kSt "make") (ag (ae 3) (ag (aO (ag (bj (ag (kSt "in") (ag (m2 bJ (m2 d7 (ae 3) (kI 1)) (ae 1)) nZ))) nZ)) nZ))))) bK)
  (ai (bg (mB (m2 dEq (m2 bJ (ae 0) (kI 4)) (kI 2))) (c8 2 (bj (ag (kSt "make") (ag (ae 3) (ag (aO (ag (bj (ag (kSt "out") (ag (m2 bJ (m2 d7 (ae 3) (kI 1)) (ae 1)) nZ))) nZ)) nZ))))) bK)
  (bg (mB (m2 dEq (m2 bJ (ae 0) (kI 4)) (kI 3))) (c8 2 (bj (ag (kSt "may") (ag (ae 3) (ag (aO nZ) nZ))))) bK))))
  (fw 2)))
abbrev AM:=jb 4 uO
abbrev AN:MF3:=
 (ai (cJ 3 nZ)
  (ai (bZ (iz (ag (m2 bJ (av m_3 (ag (ae 0) @11)) (kI 4)) nZ)) (ax 4) (ai (aX 5 (av m_3 (ag (ae 0) (ag (m2 d7 (m2 d7 (ae 1) (kI 1)) (ae 4)) nZ))))
  (ai (aX 6 (mIx (ag (kI 1) (ag (kI 1) (ag (m2 bJ (m2 ke (ae 5) (kI 8)) (kI 4)) (ag (m2 bJ (ae 0) (m2 qB (kI 10) (kI 60))) nZ)))) (m2 bJ (m2 ke (ae 5) (kI 32)) (kI 4))))
  (c8 3 (bj (ag (m2 bJ (m2 ke (ae 5) (kI 128)) (ae 2)) (ag (ae 6) nZ)))))))
  (fw 3)))
abbrev AO:=aP 7 AN
abbrev AQ:MF3:=
 (ai (aX 3 (av m_3 (ag (ae 0) @11)))
  (ai (bg (mB (m2 dLt (m2 bJ (ae 3) (kI 8)) (kI 5))) (be (bj (ag (mIx (ag (kSt "in") (ag (kSt "in") (ag (kSt "out") (ag (kSt "out") (ag (kSt "in") nZ))))) (m2 bJ (ae 3) (kI 8))) (ag (m2 bJ (m2 ke (ae 3) (kI 8)) (ae 2)) nZ)))) bK)
  (ai (aX 4 (av AO (ag (ae 0) (ag (m2 d7 (ae 1) (kI 1)) (ag (ae 2) nZ)))))
  (ai (aX 5 (av m_3 (ag (ae 0) (ag (m2 d7 (ae 1) (kI 5)) nZ))))
  (ai (bg (mB (m2 dEq (m2 bJ (ae 5) (kI 4)) (kI 0))) (be (bj (ag (mIx (ag (kSt "least") (ag (kSt "most") nZ)) (m2 bJ (ae 3) (kI 2))) (ag (m2 lJ (m2 bJ (ae 0) (m2 qB (kI 10) (kI 60))) (m2 kc (m2 bJ (m2 ke (ae 5) (kI 4)) (kI 3)) (kI 1))) (ag (ae 4) nZ))))) bK)
  (be (bj (ag (mIx (ag (kSt "least") (ag (kSt "most") nZ)) (m2 bJ (ae 3) (kI 2))) (ag (m2 kc (m2 bJ (m2 ke (ae 5) (kI 4)) (kI 5)) (kI 1)) (ag (ae 4) nZ))))))))))
abbrev uP:=aP 6 AQ
abbrev AR:MF3:=
 (ai (aX 2 (mIx (ag (kSt "make") (ag (kSt "make") (ag (kSt "make") (ag (kSt "make") (ag (kSt "may") (ag (kSt "may") (ag (kSt "may") (ag (kSt "never") nZ)))))))) (m2 bJ (av m_3 (ag (ae 0) (ag (kI 0) nZ))) (kI 8))))
  (ai (aX 3 (m2 bJ (av m_3 (ag (ae 0) (ag (kI 1) nZ))) (kI 4)))
  (ai (bg (dB (mB (m2 dEq (ae 2) (kSt "never"))) (dB (mB (m2 dEq (ae 3) (kI 0))) (mB (m2 dGt (m2 bJ (av m_3 (ag (ae 0) (ag (kI 2) nZ))) (kI 8)) (kI 0))))) (aX 3 (kI 2)) bK)
  (ai (aX 4 (aO (bp 1 [0,1] (iz (ag (ae 3) nZ)) (ax 0) kY (av uP (ag (ae 1) (ag (m2 d7 (kI 3) (m2 lJ (kI 6) (ae 0))) (ag (ae 2) nZ)))))))
  (ai (bg (mB (m2 dEq (ae 2) (kSt "never"))) (be (bj (ag (ae 2) (ag kN (ag (ae 4) nZ))))) bK)
  (be (bj (ag (ae 2) (ag (m2 bJ (av m_3 (ag (ae 0) (ag (kI 2) nZ))) (ae 1)) (ag (ae 4) nZ))))))))))
abbrev AS:=aP 5 AR
abbrev AT:MF3:=
 (ai (aX 2 (av uN (ag (ae 0) (ag (kI 0) nZ))))
  (ai (aX 3 (m2 bJ (ae 2) (ae 1)))
  (ai (cJ 4 (ki AM (ag (m2 ke (ae 2) (ae 1)) (ag (ae 3) nZ))))
  (ai (bZ (aV (aO (mSl (ae 0) (mPt (kI 1)) (mPt (m2 d7 (kI 1) (mIx (ag (kI 60) (ag (kI 60) (ag (kI 40) (ag (kI 24) (ag (kI 10) (ag (kI 5) nZ)))))) (ae 3))))))) (ax 5) (bg (mB (m2 dEq (ae 3) (kI 0))) (c8 4 (bj (ag (kSt "never") (ag kN (ag (aO (ag (bj (ag (kSt "most") (ag (m2 kc (m2 bJ (ae 5) (kI 3)) (kI 2)) (ag (aO nZ) nZ)))) nZ)) nZ))))) (c8 4 (av AS (ag (ae 5) (ag (ae 3) nZ))))))
  (eQ 4 (be (bj (ag (ae 3) (ag (ae 4) nZ)))))))))
abbrev uQ:=aP 6 AT
abbrev AU:MF3:=
 (ai (cJ 2 nZ)
  (ai (bZ (aV (mIx (aV (av uM (ag (ae 0) nZ))) (kI 1))) (cX (bo (ax 3) (bo (ax 4) (bo (ax 5) c9)))) (c8 2 (bj (ag (ae 3) (ag (ae 4) (ag (aO (lL 5)) nZ))))))
  (ai (bg (mB (m2 dNe (cD 2) (aO nZ))) (ai (aX 6 (m2 bJ (av m_3 (ag (ae 1) (ag (kI 28) nZ))) (av cu (ag (cD 2) nZ))))
  (ai (eQ 2 (cJ 2 (jL (aO (mSl (ae 2) (mPt (ae 6)) (λ_=>aa ab))) (aO (mSl (ae 2) (λ_=>aa ab) (mPt (ae 6)))))))
  (ai (aX 7 (mIx (aw 2) (m2 bJ (av m_3 (ag (ae 1) (ag (kI 29) nZ))) (av cu (ag (cD 2) nZ)))))
  (c8 2 (bj (ag (mIx (aw 7) (kI 0)) (ag (mIx (aw 7) (kI 1)) (ag (aO (bp 1 [] (aV (mIx (aw 7) (kI 2))) (ax 0) kY (av uL (ag (ae 0) nZ)))) nZ)))))))) bK)
  (ai (bg (mB (m2 dEq (m2 bJ (av m_3 (ag (ae 1) (ag (kI 30) nZ))) (kI 2)) (kI 1))) (cJ 2 (lL 2)) bK)
  (eQ 2 (be (bj (ag (mIx (aw 0) (kI 0)) (ag (ae 2) nZ)))))))))
abbrev uR:=aP 8 AU
abbrev AV:MF3:=
 (λM=>if 2 < M.length then ai (pE 2 3 (bI (ae 1)) (hZ (aU "Seeking" "watches" (aH 0)) (mIx (aw 1) (kI 0))) (aV (ae 1)) 1 [3,0] (ax 0) (mB (m2 fR (ae 0) (aO (hZ (aU "Seeking" "watches" (aH 2)) (ae 1))))) (ae 0))
  (eQ 2 (bZ (aV (ae 2)) (ax 4) (bg (mB (m2 dEq (mIx (aw 4) (kI 0)) (kSt "bar"))) (bZ (aV (mIx (pC (aU "Seeking" "bars" (aH 0))) (mIx (aw 4) (kI 1)))) (ax 3) (py 0 (kz (aU "Seeking" "watches" (aH 0)) (ae 3)) (ae 4))) bK))) M else ab)
abbrev AW:MTf:=d4 5 AV
abbrev AX:MF3:=
 (cv (ag (ba "In" "thing" (ae 0)) nZ))
abbrev uS:=aP 1 AX
abbrev AY:MF3:=
 (be (kBl ac))
abbrev AZ:=aP 1 AY
abbrev A0:MF3:=
 (cv (mT (aO (bp 2 [] (aV (ae 0)) @13 kY (ae 0)))))
abbrev uT:=aP 1 A0
abbrev A1:MF3:=
 (be (av uT (ag (ba "Least" "pieces" (ae 0)) nZ)))
abbrev uU:=aP 1 A1
abbrev A3:MF3:=
 (be (kBl ac))
abbrev A4:=aP 1 A3
abbrev A5:MF3:=
 (be (av uT (ag (ba "Most" "pieces" (ae 0)) nZ)))
abbrev uV:=aP 1 A5
abbrev A6:MF3:=
 (be (kBl af))
abbrev A7:=aP 1 A6
abbrev A8:MF3:=
 (cv (ag (ba "Out" "thing" (ae 0)) nZ))
abbrev uW:=aP 1 A8
abbrev A9:MF3:=
 (be (kBl af))
abbrev Ba:=aP 1 A9
abbrev Bb:MF3:=
 (ai (pi 0 (aU "Seeking" "guards" (aH 0)) (ae 1) (ae 2))
  (ai (bZ (aV (ae 2)) (ax 3) (bZ (aV (bd (aL "In" "named" uS (ae 3) λ_=>aa []) (bd (aL "Out" "named" uW (ae 3) λ_=>aa []) (bd (aL "Least" "named" uU (ae 3) λ_=>aa []) (aL "Most" "named" uV (ae 3) λ_=>aa []))))) (ax 4) (px 0 1 (aU "Seeking" "watches" (aH 0)) (bj (ag (ae 4) (ag (bd (aL "In" "wants" AZ (ae 3) λ_=>aa []) (bd (aL "Out" "wants" Ba (ae 3) λ_=>aa []) (bd (aL "Least" "wants" A4 (ae 3) λ_=>aa []) (aL "Most" "wants" A7 (ae 3) λ_=>aa [])))) nZ))))))
  (kA 0 (aU "Seeking" "waiting" (aH 0)) (ae 1))))
abbrev rE:MTf:=d4 5 Bb
abbrev Bc(as:LD):Option (LSt×LD):=qP 2 [("thing",(ae 1))] as
abbrev uX(as:LD):Option (LSt×LD):=qP 2 [("thing",(ae 1))] as
abbrev Bd:MF3:=
 (cv (bp 2 [] (aV (ae 0)) @13 kY (vIf (bI (ae 1)) (iC "In" Bc (ag (ae 0) nZ)) (iC "Out" uX (ag (ae 0) nZ)))))
abbrev Be:=aP 1 Bd
abbrev Bf:MF3:=
 (ai (dN (cE 0 "Seeking" "drop_wider" AW (bH (mX (ae 1)) cx)))
  (ai (aX 2 (bj (ag (kSt "bar") (ag (av cu (ag (pB (aU "Seeking" "bars" (aH 0))) nZ)) nZ))))
  (ai (kA 0 (aU "Seeking" "bars" (aH 0)) (ae 1))
  (dN (cE 0 "Seeking" "take_guard" rE (bH (mX (ae 2)) (bH (mX (av Be @11)) cx)))))))
abbrev uY:MTf:=d4 3 Bf
abbrev Bg(as:LD):Option (LSt×LD):=qP 3 [("bound",(ae 1)),("pieces",(aO (aw 2)))] as
abbrev Hw(as:LD):Option (LSt×LD):=qP 3 [("bound",(ae 1)),("pieces",(aO (aw 2)))] as
abbrev Bh:MF3:=
 (ai (aX 1 (mIx (aw 0) (kI 0)))
  (ai (bg (mB (m2 dEq (ae 1) (kSt "in"))) (be (iC "In" Bc (ag (mIx (aw 0) (kI 1)) nZ))) bK)
  (ai (bg (mB (m2 dEq (ae 1) (kSt "out"))) (be (iC "Out" uX (ag (mIx (aw 0) (kI 1)) nZ))) bK)
  (ai (bg (mB (m2 dEq (ae 1) (kSt "least"))) (be (iC "Least" Bg (ag (mIx (aw 0) (kI 1)) (ag (mIx (aw 0) (kI 2)) nZ)))) bK)
  (be (iC "Most" Hw (ag (mIx (aw 0) (kI 1)) (ag (mIx (aw 0) (kI 2)) nZ))))))))
abbrev Bi:=aP 2 Bh
abbrev b_2:MF3:=
 (cv (bp 1 [] (aV (mIx (aw 0) (kI 2))) (ax 0) kY (av Bi (ag (ae 0) nZ))))
abbrev m_2:=aP 1 b_2
abbrev o_2:=jb 1 b_2
abbrev Bj:MF3:=
 (ai (bg (mB (m2 dEq (mIx (aw 0) (kI 0)) (kSt "may"))) (cv (ag (iC "Least" Bg (ag (kI 1) (ag (aO nZ) nZ))) nZ)) bK)
  (ai (cJ 1 (ki o_2 (ag (ae 0) nZ)))
  (ai (bg (mB (m2 dEq (mIx (aw 0) (kI 0)) (kSt "make"))) (c8 1 (iC "Out" uX (ag (mIx (aw 0) (kI 1)) nZ))) bK)
  (fw 1))))
abbrev uZ:=aP 2 Bj
abbrev Bk:MF3:=
 (ai (eB 0 "Seeking" "sheet" (aH 0) (hX (aw 3)))
  (ai (eB 0 "Seeking" "steps" (aH 0) (hX nZ))
  (ai (eB 0 "Seeking" "bars" (aH 0) (hX nZ))
  (ai (eB 0 "Seeking" "guards" (aH 0) (λ_=>aa (.dT [] [])))
  (ai (eB 0 "Seeking" "watches" (aH 0) (λ_=>aa (.dT [] [])))
  (ai (eB 0 "Seeking" "waiting" (aH 0) (hX nZ))
  (ai (eB 0 "Seeking" "makers" (aH 0) (jl (aO (bp 1 [] (aV (mIx (aw 1) (kI 1))) (ax 0) (mB (m2 gb (mIx (aw 0) (kI 1)) kN)) (bj (ag (mIx (aw 0) (kI 1)) (ag (av m_2 (ag (ae 0) nZ)) nZ)))))))
  (ai (bZ (je (ag (mIx (aw 1) (kI 1)) nZ)) (cX (bo (ax 5) (bo (ax 4) c9))) (dN (cE 0 "Seeking" "take_guard" rE (bH (mX (bj (ag (kSt "rule") (ag (ae 5) nZ)))) (bH (mX (av uZ (ag (ae 4) nZ))) cx)))))
  (bZ (aV (ae 2)) (ax 6) (dN (cE 0 "Seeking" "take_bar" uY (bH (mX (ae 6)) cx))))))))))))
abbrev Bl:MTf:=d4 7 Bk
abbrev Bm:MF3:=
 (ai (dN (lN 0 Bl (bH (mX (ae 1)) (bH (mX (aO nZ)) (bH (mX (aO (bp 1 [] (iz (ag (mIx (aw 1) (kI 0)) nZ)) (ax 0) kY kN))) cx)))))
  (ai (eB 0 "Seeking" "paper" (aH 0) (hX nZ))
  (ai (eB 0 "Seeking" "count" (aH 0) (jl (kI 0)))
  (eB 0 "Seeking" "ended" (aH 0) (jl (kBl af))))))
abbrev Bo:MTf:=d4 2 Bm
abbrev Bp:MF3:=
 (cv (ag (ba "In" "thing" (ae 0)) nZ))
abbrev Bq:=aP 3 Bp
abbrev Br:MF3:=
 (ai (oV 1)
  (ai (bZ (aV (ae 0)) (cX (bo (ax 2) (bo (ax 3) c9))) (jg 1 (ae 2) (m2 d7 (o9 1 (ae 2) (kI 0)) (ae 3))))
  (pc 1 (be (ae 1)))))
abbrev u8:=aP 4 Br
abbrev b_7:MF3:=
 (ai (aX 3 (av u8 (ag (ae 0) nZ)))
  (ai (cJ 4 nZ)
  (ai (aX 5 (ae 2))
  (ai (bZ (aV (ae 1)) (ax 6) (ai (aX 7 (rg (ae 3) (ae 6) (kI 0)))
  (bg (dB (mB (m2 dGt (ae 5) (kI 0))) (mB (m2 dGt (ae 7) (kI 0)))) (ai (c8 4 (ae 6))
  (rq 5 (ae 7))) bK)))
  (fw 4)))))
abbrev m_7:=aP 8 b_7
abbrev Bs:MF3:=
 (cv (bp 1 [2,1] (aV (ae 0)) (ax 0) (mB (m2 dEq (mIx (aw 2) (ae 0)) (ae 1))) (ae 0)))
abbrev pH:=aP 3 Bs
abbrev Bt:MF3:=
 (be (av m_7 (ag (ba "Least" "pieces" (ae 0)) (ag (av pH (ag (ae 2) (ag (ae 1) (ag (kBl ac) nZ)))) (ag (ba "Least" "bound" (ae 0)) nZ)))))
abbrev Bu:=aP 3 Bt
abbrev Bv:MF3:=
 (be (av i9 (ag (aO (bp 2 [] (aV (ae 0)) @13 kY (ae 1))) nZ)))
abbrev u9:=aP 1 Bv
abbrev Bw:MF3:=
 (be (av m_7 (ag (ba "Most" "pieces" (ae 0)) (ag (av pH (ag (ae 2) (ag (ae 1) (ag (kBl af) nZ)))) (ag (m2 kc (av u9 (ag (ba "Most" "pieces" (ae 0)) nZ)) (ba "Most" "bound" (ae 0))) nZ)))))
abbrev Bx:=aP 3 Bw
abbrev By:MF3:=
 (cv (ag (ba "Out" "thing" (ae 0)) nZ))
abbrev Bz:=aP 3 By
abbrev BA:MF3:=
 (be (vIf (bI (mIx (aw 2) (ba "In" "thing" (ae 0)))) (aO nZ) (aO (ag (ba "In" "thing" (ae 0)) nZ))))
abbrev BB:=aP 4 BA
abbrev BC:MF3:=
 (cv (bp 1 [1] (aV (ae 0)) (ax 0) (gD (bI (mIx (aw 1) (mIx (aw 0) (kI 0))))) (ae 0)))
abbrev va:=aP 2 BC
abbrev BD:MF3:=
 (ai (aX 4 (av va (ag (ba "Least" "pieces" (ae 0)) (ag (ae 2) nZ))))
  (be (av m_7 (ag (ae 4) (ag (av pH (ag (ae 3) (ag (ae 1) (ag (kBl af) nZ)))) (ag (m2 d7 (m2 kc (av u9 (ag (ae 4) nZ)) (ba "Least" "bound" (ae 0))) (kI 1)) nZ))))))
abbrev BE:=aP 5 BD
abbrev BF:MF3:=
 (be (av m_7 (ag (ba "Most" "pieces" (ae 0)) (ag (av pH (ag (ae 3) (ag (ae 1) (ag (kBl ac) nZ)))) (ag (m2 d7 (ba "Most" "bound" (ae 0)) (kI 1)) nZ)))))
abbrev BG:=aP 4 BF
abbrev BH:MF3:=
 (cv (ag (ba "Out" "thing" (ae 0)) nZ))
abbrev BI:=aP 4 BH
abbrev BJ:MF3:=
 (be (vOr (m2 dIs (mIx (aw 1) (ba "In" "thing" (ae 0))) (kBl af)) (mIx (aw 2) (ba "In" "thing" (ae 0)))))
abbrev rF:=aP 3 BJ
abbrev BK:MF3:=
 (be (av i9 (ag (aO (bp 2 [1] (aV (ae 0)) @13 (mB (m2 gb (mIx (aw 2) (ae 0)) (kBl af))) (ae 1))) nZ)))
abbrev pI:=aP 2 BK
abbrev BL:MF3:=
 (be (m2 dLt (av pI (ag (av va (ag (ba "Least" "pieces" (ae 0)) (ag (ae 2) nZ))) @11)) (ba "Least" "bound" (ae 0))))
abbrev rG:=aP 3 BL
abbrev BM:MF3:=
 (be (av i9 (ag (aO (bp 2 [1] (aV (ae 0)) @13 (mB (m2 dIs (mIx (aw 2) (ae 0)) (kBl ac))) (ae 1))) nZ)))
abbrev rH:=aP 2 BM
abbrev BN:MF3:=
 (be (m2 dGt (av rH (ag (ba "Most" "pieces" (ae 0)) @11)) (ba "Most" "bound" (ae 0))))
abbrev rJ:=aP 3 BN
abbrev BO:MF3:=
 (be (m2 dIs (mIx (aw 1) (ba "Out" "thing" (ae 0))) (kBl ac)))
abbrev rK:=aP 3 BO
abbrev b_5:MF3:=
 (ai (bZ (aV (ae 0)) (ax 3) (bg (bI (bd (aL "In" "lost" rF (ae 3) (ag (ae 1) (ag (ae 2) nZ))) (bd (aL "Out" "lost" rK (ae 3) (ag (ae 1) (ag (ae 2) nZ))) (bd (aL "Least" "lost" rG (ae 3) (ag (ae 1) (ag (ae 2) nZ))) (aL "Most" "lost" rJ (ae 3) (ag (ae 1) (ag (ae 2) nZ))))))) (fw 3) bK))
  (be kN))
abbrev m_5:=aP 4 b_5
abbrev b_1:MF3:=
 (ai (oV 2)
  (ai (bZ (aV (ae 1)) (ax 3) (jg 2 (ae 3) (kBl ac)))
  (eQ 2 (cv (bp 1 [2] (iz (ag (ae 0) nZ)) (ax 0) kY (m2 qU (ae 0) (ae 1)))))))
abbrev m_1:=aP 4 b_1
abbrev o_1:=jb 4 b_1
abbrev b_9:MF3:=
 (ai (aX 4 (av m_1 (ag (av cu @11) (ag (ae 2) nZ))))
  (ai (cJ 5 (mSl (aO (bp 1 [4,1] (aV (ae 3)) (ax 0) (dB (bI (mIx (aw 1) (ae 0))) (mB (m2 dIs (mIx (aw 2) (ae 0)) (kBl ac)))) (ae 0))) (λ_=>aa ab) (mPt (kI 1))))
  (ai (bZ (aV (ba "Seeking" "makers" (ae 0))) (cX (bo (ax 6) (bo (ax 7) c9))) (bg (bI (mIx (aw 4) (ae 6))) (kh 5 (kg (bd (aL "In" "lost_by" BB (av m_5 (ag (ae 7) (ag (ae 1) (ag (ae 4) nZ)))) (ag (ae 1) (ag (ae 4) (ag (ae 3) nZ)))) (bd (aL "Out" "lost_by" BI (av m_5 (ag (ae 7) (ag (ae 1) (ag (ae 4) nZ)))) (ag (ae 1) (ag (ae 4) (ag (ae 3) nZ)))) (bd (aL "Least" "lost_by" BE (av m_5 (ag (ae 7) (ag (ae 1) (ag (ae 4) nZ)))) (ag (ae 1) (ag (ae 4) (ag (ae 3) nZ)))) (aL "Most" "lost_by" BG (av m_5 (ag (ae 7) (ag (ae 1) (ag (ae 4) nZ)))) (ag (ae 1) (ag (ae 4) (ag (ae 3) nZ))))))))) bK))
  (fw 5))))
abbrev m_9:=aP 8 b_9
abbrev o_9:=jb 8 b_9
abbrev b_4:MF3:=
 (ai (bg (mB (m2 dEq (mIx (aw 2) (kI 0)) (kSt "world"))) (cv (m6 (ag (av cu @11) nZ))) bK)
  (ai (bg (mB (m2 dEq (mIx (aw 2) (kI 0)) (kSt "group"))) (cv (ic "Seeking" "grounds_of_group" o_9 (ae 0) (ag (ae 1) (ag (mIx (aw 2) (kI 1)) (ag (ae 3) nZ))))) bK)
  (ai (cJ 4 nZ)
  (ai (bZ (aV (m2 rA (ba "Seeking" "guards" (ae 0)) (ae 2))) (ax 5) (kh 4 (kg (bd (aL "In" "sure_by" Bq (ae 5) (ag (ae 1) (ag (ae 3) nZ))) (bd (aL "Out" "sure_by" Bz (ae 5) (ag (ae 1) (ag (ae 3) nZ))) (bd (aL "Least" "sure_by" Bu (ae 5) (ag (ae 1) (ag (ae 3) nZ))) (aL "Most" "sure_by" Bx (ae 5) (ag (ae 1) (ag (ae 3) nZ)))))))))
  (fw 4)))))
abbrev m_4:=aP 6 b_4
abbrev o_4:=jb 6 b_4
abbrev BP:MF3:=
 (cv (jL (aO (bp 1 [1] (aV (ae 0)) (ax 0) (bI (mIx (aw 1) (ae 0))) (ae 0))) (aO (bp 1 [1] (aV (ae 0)) (ax 0) (gD (bI (mIx (aw 1) (ae 0)))) (ae 0)))))
abbrev vb:=aP 2 BP
abbrev BQ:MF3:=
 (be (vIf (mB (m2 dEq (mIx (aw 0) (kI 0)) (kSt "group"))) (bj (ag (mIx (aw 0) (kI 0)) (ag (aO (aV (mIx (aw 0) (kI 1)))) nZ))) (ae 0)))
abbrev rL:=aP 1 BQ
abbrev BR:MF3:=
 (ai (cJ 2 (pC @9))
  (ai (aX 5 (aO (bp 2 [] (pC (aU "Seeking" "steps" (aH 0))) @13 kY (mIx (aw 0) (kI 0)))))
  (ai (cJ 6 (ki o_1 (ag (av cu (ag (cD 2) nZ)) (ag (aO (ic "Seeking" "grounds" o_4 (cD 0) (ag (cD 2) (ag (ae 1) (ag (ae 5) nZ))))) nZ))))
  (ai (cJ 7 nZ)
  (ai (cJ 8 (ag (bj (ag kN (ag (av rL @11) nZ))) nZ))
  (ai (nr 0 "Seeking" "steps" (bZ (lK (ag (pD (aU "Seeking" "steps" (aH 0))) nZ)) (cX (bo (ax 3) (bo (ax 4) c9))) (ai (aX 9 (mIx (aw 3) (kI 0)))
  (ai (bg (dB (bI (mIx (aw 6) (ae 9))) (mB (m2 dIs (ae 4) kN))) (c8 7 (ae 3)) (bg (bI (mIx (aw 6) (ae 9))) (ai (c8 8 (bj (ag (ae 3) (ag (av rL (ag (ae 4) nZ)) nZ))))
  (ai (gg 2 (ae 9) (mL (mIx (aw 3) (kI 1))))
  (bZ (aV (aO (ic "Seeking" "grounds" o_4 (cD 0) (ag (cD 2) (ag (ae 4) (ag (av vb (ag (ae 5) (ag (cD 6) nZ))) nZ)))))) (ax 10) (gg 6 (ae 10) (kBl ac))))) bK))
  (gg 2 (ae 9) kN)))))
  (fA (bj (ag (aO (lL 7)) (ag (aO (lL 8)) nZ))))))))))
abbrev BS:MTf:=d4 11 BR
abbrev BU:MF3:=
 (ai (aX 2 (aO (bp 2 [] (je (ag (pD (aU "Seeking" "steps" (aH 0))) nZ)) @13 (mB (m2 dIs (mIx (aw 1) (kI 1)) kN)) (ae 0))))
  (ai (aX 3 (aO (bp 1 [0] (aV (ae 2)) (ax 0) kY (mIx (aV (mIx (aV (pD (aU "Seeking" "steps" (aH 1)))) (ae 0))) (kI 0)))))
  (fA (mIx (aw 2) (vIf (mB (m2 dEq (av cu @11) (kI 1))) (kI 0) (m2 d7 (m2 gM (ae 3) (mIx (aw 1) (m1 qE (kI 2)))) (kI 1)))))))
abbrev BV:MTf:=d4 4 BU
abbrev BW:MF3:=
 (ai (bZ (aV (aO (mSl (pD (aU "Seeking" "steps" (aH 0))) (mPt (ae 1)) (λ_=>aa ab)))) (cX (bo (ax 2) (bo (ax 3) c9))) (nh 0 (aU "Seeking" "sheet" (aH 0)) (mIx (aw 2) (kI 0)) kN))
  (ai (eB 0 "Seeking" "steps" (aH 0) (hX (mSl (pD (aU "Seeking" "steps" (aH 0))) (λ_=>aa ab) (mPt (ae 1)))))
  (eB 0 "Seeking" "waiting" (aH 0) (hX nZ))))
abbrev BX:MTf:=d4 4 BW
abbrev BY:MF3:=
 (ai (fU 2 (cE 0 "Seeking" "line_to" BS (bH (mX (ae 1)) cx)))
  (ai (kA 0 (aU "Seeking" "paper" (aH 0)) (ae 2))
  (bg (bI (mIx (aw 2) (kI 0))) (ai (dN (cE 0 "Seeking" "take_back" BX (bH (cE 0 "Seeking" "place_for" BV (bH (mX (mIx (aw 2) (kI 0))) cx)) cx)))
  (dN (cE 0 "Seeking" "take_bar" uY (bH (mX (mIx (aw 2) (kI 0))) cx)))) (eB 0 "Seeking" "ended" (aH 0) (jl (kBl ac))))))
abbrev pJ:MTf:=d4 3 BY
abbrev BZ:MF3:=
 (ai (nh 0 (aU "Seeking" "sheet" (aH 0)) (ae 1) (ae 2))
  (ai (kA 0 (aU "Seeking" "steps" (aH 0)) (bj (ag (bj (ag (ae 1) (ag (ae 2) nZ))) (ag (ae 3) nZ))))
  (ph 0 (aU "Seeking" "waiting" (aH 0)) (hZ (aU "Seeking" "watches" (aH 0)) (bj (ag (ae 1) (ag (ae 2) nZ)))))))
abbrev pK:MTf:=d4 4 BZ
abbrev B0:MF3:=
 (be (m2 dIs (mIx (aw 1) (ba "In" "thing" (ae 0))) (kBl ac)))
abbrev B1:=aP 2 B0
abbrev B2:MF3:=
 (be (vIf (mB (m2 dIs (mIx (aw 1) (ba "In" "thing" (ae 0))) kN)) (aO (ag (bj (ag (ba "In" "thing" (ae 0)) (ag (kBl ac) nZ))) nZ)) (aO nZ)))
abbrev B3:=aP 2 B2
abbrev B4:MF3:=
 (be (m2 dGe (av rH (ag (ba "Least" "pieces" (ae 0)) @11)) (ba "Least" "bound" (ae 0))))
abbrev B5:=aP 2 B4
abbrev B6:MF3:=
 (ai (aX 3 (av u8 (ag (aO (bp 1 [1] (aV (ae 0)) (ax 0) (mB (m2 dIs (mIx (aw 1) (mIx (aw 0) (kI 0))) kN)) (ae 0))) nZ)))
  (cv (bp 1 [2,3] (q9 (ae 3)) (ax 0) (mB (m2 dGe (m2 rb (ae 2) (ae 0)) (ae 1))) (ae 0))))
abbrev vc:=aP 4 B6
abbrev B7:MF3:=
 (ai (aX 2 (m2 kc (ba "Least" "bound" (ae 0)) (av rH (ag (ba "Least" "pieces" (ae 0)) @11))))
  (cv (bp 1 [] (aV (av vc (ag (ba "Least" "pieces" (ae 0)) (ag (ae 1) (ag (ae 2) nZ))))) (ax 0) kY (bj (ag (ae 0) (ag (kBl ac) nZ))))))
abbrev B8:=aP 3 B7
abbrev B9:MF3:=
 (be (m2 dLe (av pI (ag (ba "Most" "pieces" (ae 0)) @11)) (ba "Most" "bound" (ae 0))))
abbrev Ca:=aP 2 B9
abbrev Cb:MF3:=
 (ai (aX 2 (m2 kc (av pI (ag (ba "Most" "pieces" (ae 0)) @11)) (ba "Most" "bound" (ae 0))))
  (cv (bp 1 [] (aV (av vc (ag (ba "Most" "pieces" (ae 0)) (ag (ae 1) (ag (ae 2) nZ))))) (ax 0) kY (bj (ag (ae 0) (ag (kBl af) nZ))))))
abbrev Cc:=aP 3 Cb
abbrev Cd:MF3:=
 (be (m2 dIs (mIx (aw 1) (ba "Out" "thing" (ae 0))) (kBl af)))
abbrev Ce:=aP 2 Cd
abbrev Cf:MF3:=
 (be (vIf (mB (m2 dIs (mIx (aw 1) (ba "Out" "thing" (ae 0))) kN)) (aO (ag (bj (ag (ba "Out" "thing" (ae 0)) (ag (kBl af) nZ))) nZ)) (aO nZ)))
abbrev Cg:=aP 2 Cf
abbrev Ch:MF3:=
 (ai (aX 2 kN)
  (ai (bZ (aV (ae 0)) (ax 3) (bg (gD (bI (bd (aL "In" "sure" B1 (ae 3) @11) (bd (aL "Out" "sure" Ce (ae 3) @11) (bd (aL "Least" "sure" B5 (ae 3) @11) (aL "Most" "sure" Ca (ae 3) @11)))))) (ai (aX 4 (bd (aL "In" "tips" B3 (ae 3) @11) (bd (aL "Out" "tips" Cg (ae 3) @11) (bd (aL "Least" "tips" B8 (ae 3) @11) (aL "Most" "tips" Cc (ae 3) @11)))))
  (ai (aX 2 (vIf (mB (m2 dIs (ae 2) kN)) (ae 4) (aO (bp 1 [4] (aV (ae 2)) (ax 0) (mB (m2 fR (ae 0) (ae 1))) (ae 0)))))
  (bg (gD (bI (ae 2))) (cv nZ) bK))) bK))
  (ai (bg (mB (m2 dIs (ae 2) kN)) (be kN) bK)
  (cv (bp 2 [] (aV (ae 2)) @13 kY (bj (ag (ae 0) (ag (mL (ae 1)) nZ))))))))
abbrev Ci(as:LD):Option (LD ⊕ D):=zd 5 Ch as
abbrev Cj:MF3:=
 (ai (da (bI (pB (aU "Seeking" "waiting" (aH 0)))) (ai (fU 1 (rp 0 (aU "Seeking" "waiting" (aH 0))))
  (ai (aX 2 (pA Ci (ag (pB (kz (aU "Seeking" "guards" (aH 0)) (ae 1))) (ag (pB @9) nZ))))
  (ai (bg (mB (m2 dIs (ae 2) kN)) (fA (ae 1)) bK)
  (bZ (aV (ae 2)) (cX (bo (ax 3) (bo (ax 4) c9))) (dN (cE 0 "Seeking" "put" pK (bH (mX (ae 3)) (bH (mX (ae 4)) (bH (mX (ae 1)) cx))))))))) 1000000000)
  (fA kN))
abbrev Ck:MTf:=d4 5 Cj
abbrev Cm:MF3:=
 (ai (bg (bI (bd (aL "In" "lost" rF (ae 1) @7) (bd (aL "Out" "lost" rK (ae 1) @7) (bd (aL "Least" "lost" rG (ae 1) @7) (aL "Most" "lost" rJ (ae 1) @7))))) (cv nZ) bK)
  (cv (bp 1 [2] (aV (bd (aL "In" "named" uS (ae 1) λ_=>aa []) (bd (aL "Out" "named" uW (ae 1) λ_=>aa []) (bd (aL "Least" "named" uU (ae 1) λ_=>aa []) (aL "Most" "named" uV (ae 1) λ_=>aa []))))) (ax 0) (bI (mIx (aw 1) (ae 0))) (ae 0))))
abbrev Cn:=aP 3 Cm
abbrev Co:MF3:=
 (cv (bp 2 [2,0,1] (aV (ba "Seeking" "makers" (ae 0))) @13 (mB (m2 dEq (ae 0) (ae 4))) (av m_5 (ag (ae 1) (ag (ba "Seeking" "sheet" (ae 3)) (ag (ae 2) nZ))))))
abbrev Cp:=aP 3 Co
abbrev rM:MF3:=
 (ai (cJ 3 @11)
  (ai (aX 4 (kI 0))
  (ai (da (mB (m2 dLt (ae 4) (av cu (ag (cD 3) nZ)))) (ai (bZ (aV (aL "Seeking" "lost_parts" Cp (ae 0) (ag (mIx (aw 3) (ae 4)) (ag (ae 2) nZ)))) (ax 5) (kh 3 (kg (aO (bp 1 [3] (aV (aL "Seeking" "keeping" Cn (ae 0) (ag (ae 5) (ag (ae 2) nZ)))) (ax 0) (mB (m2 mO (ae 0) (cD 1))) (ae 0))))))
  (m8 4 (mX (kI 1)))) 1000000000)
  (eQ 3 (cv (lI (ae 3)))))))
abbrev VD:=aP 6 rM
abbrev lO:=jb 6 rM
abbrev Cq:MF3:=
 (ai (cJ 1 (bp 1 [] (pC @9) (ax 0) kY (m2 gb (ae 0) (kBl af))))
  (ai (cJ 2 nZ)
  (ai (aX 3 (pD (aU "Seeking" "makers" (aH 0))))
  (ai (aX 4 (kBl ac))
  (ai (da (bI (ae 4)) (ai (aX 5 (av cu (ag (cD 2) nZ)))
  (ai (cJ 6 nZ)
  (ai (bZ (aV (ae 3)) (ax 7) (bg (dB (bI (mIx (aw 1) (mIx (aw 7) (kI 0)))) (mB (m2 dIs (av m_5 (ag (mIx (aw 7) (kI 1)) (ag (pB @9) (ag (cD 1) nZ)))) kN))) (ai (gg 1 (mIx (aw 7) (kI 0)) (kBl af))
  (c8 2 (ae 7))) (c8 6 (ae 7))))
  (ai (eQ 6 (aX 3 (ae 6)))
  (aX 4 (i8 (m2 dGt (av cu (ag (cD 2) nZ)) (ae 5)) (av oU (ag (cD 1) nZ)))))))) 1000000000)
  (ai (eQ 2 (eB 0 "Seeking" "makers" (aH 0) (jl (aO (jL (ae 2) (ae 3))))))
  (eQ 1 (fA (ae 1)))))))))
abbrev Cr:MTf:=d4 8 Cq
abbrev Cs:MF3:=
 (ai (fU 1 (cE 0 "Seeking" "loose_marks" Cr cx))
  (ai (aX 3 (aO (bp 2 [1] (uG (pC @9)) @13 (dB (bI (mIx (aw 2) (ae 0))) (mB (m2 dIs (ae 1) (kBl ac)))) (ae 0))))
  (ai (bg (bI (ae 3)) (fA (bj (ag (kSt "group") (ag (aO (ic "Seeking" "kernel" lO (cD 0) (ag (mIx (aw 3) (kI 0)) @11))) nZ)))) bK)
  (ai (bZ (je @11) (cX (bo (ax 2) (bo (ax 4) c9))) (bg (bI (ae 4)) (dN (cE 0 "Seeking" "put" pK (bH (mX (ae 2)) (bH (mX (kBl af)) (bH (mX (bj (ag (kSt "group") (ag (aO (ic "Seeking" "kernel" lO (cD 0) (ag (ae 2) @11))) nZ)))) cx))))) bK))
  (fA kN)))))
abbrev Ct:MTf:=d4 5 Cs
abbrev Cu:MF3:=
 (ai (aX 1 (kBl ac))
  (ai (da (bI (ae 1)) (ai (fU 2 (cE 0 "Seeking" "look_round" Ck cx))
  (ai (bg (mB (m2 dIs (ae 2) kN)) (fU 2 (cE 0 "Seeking" "put_loose_out" Ct cx)) bK)
  (aX 1 (i8 (m2 dIs (ae 2) kN) (m2 dGt (av cu (ag (pB (aU "Seeking" "waiting" (aH 0))) nZ)) (kI 0)))))) 1000000000)
  (fA (ae 2))))
abbrev rN:MTf:=d4 3 Cu
abbrev Cv:MF3:=
 (cv (bp 2 [] (je (ag (ae 0) nZ)) @13 (bI (ae 1)) (ae 0)))
abbrev rO:=jb 1 Cv
abbrev b_8:MF3:=
 (ai (da (gD (bI (pD (aU "Seeking" "ended" (aH 0))))) (ai (fU 1 (cE 0 "Seeking" "settle" rN cx))
  (bg (mB (m2 gb (ae 1) kN)) (dN (cE 0 "Seeking" "close" pJ (bH (mX (ae 1)) cx))) (bg (mB (m2 fR kN (pB @9))) (dN (cE 0 "Seeking" "put" pK (bH (mX (m2 gM (pB @9) kN)) (bH (mX (kBl ac)) (bH (mX kN) cx))))) (ai (aX 2 (aO (o7 rO (ag (pB @9) nZ))))
  (ai (dN (cE 0 "Seeking" "close" pJ (bH (mX (bj (ag (kSt "world") (ag (pD (aU "Seeking" "count" (aH 0))) nZ)))) cx)))
  (ai (nt 0 "Seeking" "count" (kI 1))
  (fA (ae 2)))))))) 1000000000)
  (fA kN))
abbrev m_8:MTf:=d4 3 b_8
abbrev b_0:MF3:=
 (ai (m7 2 (nj "Seeking" Bo (ag (ae 0) nZ)))
  (ai (cJ 3 nZ)
  (ai (fU 4 (jO 2 "Seeking" "another" m_8 cx))
  (ai (da (dB (mB (m2 gb (ae 4) kN)) (mB (m2 dLt (av cu (ag (cD 3) nZ)) (ae 1)))) (ai (c8 3 (ae 4))
  (fU 4 (jO 2 "Seeking" "another" m_8 cx))) 1000000000)
  (ai (bg (mB (m2 dIs (ae 4) kN)) (eQ 3 (nr 2 "Seeking" "paper" (be (bj (ag (ae 3) (ag (kBl ac) (ag (pD (aU "Seeking" "paper" (aH 2))) nZ))))))) bK)
  (eQ 3 (be (bj (ag (ae 3) (ag (kBl af) (ag (aO nZ) nZ)))))))))))
abbrev m_0:=aP 5 b_0
abbrev b_6:MF3:=
 (ai (aX 1 (av uQ (ag (ae 0) (ag (kI 6) nZ))))
  (ai (aX 2 (av uN (ag (ae 0) (ag (kI 1) nZ))))
  (ai (aX 3 (m2 bJ (av m_3 (ag (ae 2) (ag (kI 27) nZ))) (kI 41)))
  (ai (bg (mB (m2 dEq (m2 bJ (av m_3 (ag (ae 2) (ag (kI 26) nZ))) (kI 2)) (kI 1))) (aX 3 (m2 bJ (ae 3) (kI 4))) bK)
  (ai (aX 4 (av m_0 (ag (av uM @11) (ag (ae 3) nZ))))
  (ai (aX 5 (av m_0 (ag (av uR (ag (ae 1) (ag (ae 2) nZ))) (ag (ae 3) nZ))))
  (ai (bg (mOr (gD (bI (mP "tuple" (ae 4)))) (mOr (gD (bI (mP "tuple" (ae 5)))) (mOr (mB (m2 dNe (av cu (ag (ae 4) nZ)) (kI 3))) (mB (m2 dNe (av cu (ag (ae 5) nZ)) (kI 3)))))) (be (kBl af)) bK)
  (be (i8 (m2 dEq (mIx (aw 4) (kI 0)) (mIx (aw 5) (kI 0))) (i8 (mP "bool" (mIx (aw 4) (kI 1))) (i8 (m2 dEq (mIx (aw 4) (kI 1)) (mIx (aw 5) (kI 1))) (m2 dLe (av cu (ag (mIx (aw 4) (kI 0)) nZ)) (ae 3)))))))))))))
abbrev m_6:=aP 6 b_6
abbrev cmN(s:Scope):LSt:=s.names.tail.filterMap λz=>match z.2 with |.local=>aa z.1 |.free=>aa z.1 | _=>ab
variable{fi:MF2}{g:L2.D->LS->Option LS}{ft:MF4}{fe:MF1}
def RI{c:Str->Addr}{X:Cx}{d tg iter:Expr}{e:LEx}{scope:Scope}{pos:Pos}(k:Nat)(js:LN)(h:X.calm=ac)(hi:DIe c X tg iter fi)(j:∀cl V5 ex b a,DG c (X.comp scope (cmN scope) cl V5 ex b a) tg k g)(n:∀cl V5 ex b a,DTs c (X.comp scope (cmN scope) cl V5 ex b a) e ft)(i:∀cl V5 ex b a,DE c (X.comp scope (cmN scope) cl V5 ex b a) d fe)(f:lq scope X.env.scope.names X.N (cmN scope) k js=ac:=by rfl)(m:∀x,kS iter X.env x=pure x:=by intro _;rfl)(l:js.Nodup:=by decide):DO c X (.ListComp d [⟨tg,iter,e,0⟩] scope pos) (bp k js fi g ft fe):=kf k js _ h hi j n i f m l
seal DSs DS DX DE DO oU dEq gM fR qU dIs gb rb rA qE mO ax cX bo c9 cu m1 m2 dB c8 rq m8 mB lN av pA ki o7 jL bp ag bH dN je uG kh eQ nr pc ba bZ o9 rg bg mP mIx q9 lL m6 aO iC aL ic cE jO bK cx gD kg mOr bd mPt jg gg be cv fA fw lK iz ai aV aX oV cJ fU mSl mT lI bI bj ae cD aw da pE mX px kA nt pB pC pD ph aU hZ kz rp nh pi py eB aH i9 i8 vIf mL vOr jl hX nj m7
set_option hygiene false
local macro_rules
 | `(@1) => `(by first | exact RJ W | exact RK W | exact RL W | exact RM W | exact RN W | exact RO W | exact RP W | exact RQ W | exact RS W | exact RT W | exact RU W | exact RV W | exact RW W | exact RX W | exact RY W | exact RZ W | exact R0 W | exact R1 W | exact R3 W | exact R4 W | exact R5 W | exact R6 W | exact R7 W | exact R8 W | exact R9 W | exact Sa W | exact Sb W | exact Sc W | exact Sd W | exact Sf W | exact Sg W | exact Sh W | exact Si W | exact Sj W | exact Sk W | exact Sm W | exact Sn W | exact Hx W | exact So W | exact Sr W | exact Ss W | exact Su W | exact Sv W | exact Sw W | exact Sx W | exact Sy W | exact Sz W | exact Hy W | exact SA W | exact SB W | exact SC W | exact SD W | exact SE W | exact SF W | exact SG W | exact SH W | exact SI W | exact SJ W | exact SK W | exact SL W | exact SM W | exact SN W | exact Hz W | exact SO W | exact SQ W | exact SR W | exact SS W | exact SU W | exact SV W | exact SW W | exact SX W | exact SY W | exact SZ W | exact S0 W)
 | `(@0) => `(by repeat' first | ((with_reducible show DE _ _ _ _); first | exact dv _ | exact EU | refine oK ?_ ?_ | refine xS ?_ ?_ ?_ | exact dvc _ | refine NP _ ?_ ?_ ?_ | exact ML | refine EW ?_ | exact EV | exact MK | refine DE.orE ?_ ?_ | refine qG ?_ ?_ rfl W.qs PySem.boot_len ?_ | refine MP ?_ ?_ ?_ ?_ | refine E4 ?_ ?_ ?_ | refine EZ ?_ ?_ | refine EY ?_ | refine NM @1 hr ?_ | refine NQ _ ?_ @1 hr ?_ | refine NR _ ?_ @1 hr | refine GO (eq _ ?_ ?_ (d3 (pv _))) | refine GO (eq _ ?_ ?_ (d3 (pvc _))) | refine oR "In" W.p6 (HA W).ok (hr.mono (by decide)) (glc rfl) W.ro W.e_66.b ?_ | refine oR "Out" W.pz (HB W).ok (hr.mono (by decide)) (glc rfl) W.rc W.e_67.b ?_ | refine oR "In" W.p6 (HA W).ok (hr.mono (by decide)) rfl W.ro W.e_66.b ?_ | refine oR "Out" W.pz (HB W).ok (hr.mono (by decide)) rfl W.rc W.e_67.b ?_ | refine oR "Least" W.oo (S1 W).ok (hr.mono (by decide)) rfl W.qa W.e_68.b ?_ | refine oR "Most" W.pq (S2 W).ok (hr.mono (by decide)) rfl W.ri W.e_69.b ?_ | refine Fh (T := "tuple") W.pb rfl W.nk boot_tuple rfl W.pu ?_ | refine Fh (T := "bool") W.pw rfl W.nk boot_bool rfl W.p5 ?_ | refine DO.de ?_) | ((with_reducible show DA _ _ _ _); first | refine xR ?_ ?_ | exact MM) | ((with_reducible show DSs _ _ _ _); first | refine bG ?_ | refine aE ?_ ?_ | exact NF) | ((with_reducible show PE _ _ _); first | exact pv _ | exact pvc _) | ((with_reducible show DC _ _ _ _); first | exact dvC _ | exact yh _ | refine DE.dc ?_ | refine DO.dc ?_) | ((with_reducible show DO _ _ _ _); first | refine MO ?_ | refine Fe ?_ ?_ ?_ | refine NN @1 hr ?_ | refine G1 _ ?_ @1 hr ?_ | exact PM _ rfl rfl W.n5 rfl W.nS | refine PQ rfl rfl W.n5 rfl W.o6 ?_ | refine t7 nX rfl W.n5 ?_) | ((with_reducible show DT _ _ _ _); first | refine oH ?_ ?_ ?_ ?_ | refine xT ?_ | refine MT ?_ | refine DW.dt ?_) | ((with_reducible show DP _ _ _ _ _); first | refine d3 ?_ | refine eq _ ?_ ?_ ?_) | ((with_reducible show DG _ _ _ _ _); first | exact dgc _ _ | exact Nu _ _ (by assumption) | refine Nx rfl ?_) | ((with_reducible show DS _ _ _ _); first | refine qM ?_ | refine qK _ (by assumption) ?_ | refine ja ?_ ?_ ?_ | refine jH ?_ | refine uc _ (by assumption) ?_ | refine gc (kk := 99) dG rfl ?_ ?_ ?_ | refine yT ?_ | refine Ft ?_ | exact NJ _ | refine lw _ ?_ | refine uE _ (by assumption) ?_ | refine FK ?_ ?_ ?_ | refine oO _ dG ?_ ?_ | refine NL (lh (jF jE wJ wK xB ?_ (eO (DE.pe ?_) dZ))) | refine Fu (lh (jF jE wL wM xD ?_ (eO (DE.pe ?_) dZ))) | refine GT _ ?_ ?_ (xm (show DP _ _ _ _ _ from ?_) (show DZ _ _ _ _ _ from ?_) rfl) | refine Qk (lh (jF jE wJ wK xB (show DP _ _ _ _ _ from ?_) (eO (DE.pe ?_) dZ)))) | ((with_reducible show DAB _ _ _ _); first | refine qA ?_ ?_ | exact MN) | ((with_reducible show DGs _ _ _ _ _); first | refine Nw ?_ ?_ | exact Nv) | ((with_reducible show DI _ _ _ _ _); first | refine oM ?_ | refine Oj rfl W.ny ?_ | refine NA rfl W.o6 ?_ | refine Pw rfl W.nS ?_) | ((with_reducible show DAX _ _ _ _); first | refine GH ?_ ?_ | exact Qb) | ((with_reducible show DB _ _ _ _); first | exact dvB _ | refine y8 (eq _ ?_ ?_ (d3 (pv _))) | refine DE.db ?_) | ((with_reducible show DTs _ _ _ _); first | exact ND | refine qJ ?_) | ((with_reducible show PA _ _ _); first | exact dZ) | ((with_reducible show DZ _ _ _ _ _); first | refine PR ?_ | refine Gz ?_ | exact QC) | ((with_reducible show DW _ _ _ _); first | refine xV ?_ ?_ | refine xU ?_) | ((with_reducible show DPt _ _ _ _); first | refine Fd ?_ | exact Fc) | ((with_reducible show DX _ _ _ _); first | refine GW _ ?_ @1 hr ?_ | refine Qy _ ?_ @1 hr | refine DE.dx ?_) | ((with_reducible show DL _ _ _ _); first | refine y9 (eq _ ?_ ?_ (d3 (pv _)))) | ((with_reducible show Cls _ _); first | exact W.ad | exact W.n7 | exact W.kT | exact W.mm | exact W.nL) | ((with_reducible show cH _ _ _); first | exact W.g3 | exact W.ld | exact W.nq | exact W.lb | exact W.lk | exact W.mu | exact W.kv | exact W.kr | exact W.ii | exact W.ll | exact W.ky | exact W.lp | exact W.kQ | exact W.l0 | exact W.lj | exact W.md) | ((with_reducible show DIe _ _ _ _ _); first | refine DI.de ?_) | refine RI _ _ rfl ?_ ?_ ?_ ?_ | (with_reducible first | exact MY | exact Nd | ((refine Ng ?_); with_unfolding_all assumption) | exact No | exact Np | exact E7 | exact E8 | exact MV | exact MW | exact MX | exact M3 | exact M7 | exact M0 | exact Pe | exact Na | exact M5 | exact Nb | ((refine Nh ?_); with_unfolding_all assumption) | exact MZ | exact Nf | exact Oq | ((refine Os ?_); with_unfolding_all assumption) | exact M4 | exact M1 | exact M8 | exact M6) | intro _ _ _ _ _)
set_option hygiene true
variable{a:Wa}
def RJ(W:Wd K mg a):qD P w K mg base a 1 "_law_part_again" a.e_40 ["_law_part_here"] uL:=by
 refine W.e_40.pk (a9 (F:=AJ) W.e_40.F Q8 λ_ _ _ _ _ _ hr=>?_);have b:=hr.units;unfold AJ;exact @0
def RQ(W:Wd K mg a):qD P w K mg base a 2 "_law_again" a.e_27 ["_law_plain_here"] uM:=by
 refine W.e_27.pk (a9 (F:=AK) W.e_27.F Hi λ_ _ _ _ _ _ hr=>?_);unfold AK;have nd:=Hi.nd;exact @0
def RN(W:Wd K mg a):qD P w K mg base a 1 "_law_cell_at" a.e_38 ["_law_script","_law_k"] uN:=by
 refine W.e_38.pk (a9 (F:=AL) W.e_38.F Q7 λ_ _ _ _ _ _ hr=>?_);unfold AL;exact @0
def RK(W:Wd K mg a):qD P w K mg base a 1 "_law_mixed" a.e_3 ["_law_cell","_law_k"] m_3:=by
 refine W.e_3.pk (a9 (F:=b_3) W.e_3.F Hb λ_ _ _ _ _ _ hr=>?_);unfold b_3;have nd:=Hb.nd;exact @0
def RO(W:Wd K mg a):qO P w K mg base a 1 "_law_base" a.e_25 ["_law_cell","_law_many"] AM:=by
 refine W.e_25.pk (mQ (F:=uO) W.e_25.F Hg λ_ _ _ _ _ _ hr=>?_);have b:=hr.units;unfold uO;have nd:=Hg.nd;exact @0
def RL(W:Wd K mg a):qD P w K mg base a 2 "_law_items" a.e_39 ["_law_cell","_law_k","_law_many"] AO:=by
 refine W.e_39.pk (a9 (F:=AN) W.e_39.F Hc λ_ _ _ _ _ _ hr=>?_);unfold AN;have nd:=Hc.nd;exact @0
def RM(W:Wd K mg a):qD P w K mg base a 3 "_law_part" a.e_23 ["_law_cell","_law_k","_law_many"] uP:=by
 refine W.e_23.pk (a9 (F:=AQ) W.e_23.F He λ_ _ _ _ _ _ hr=>?_);have b:=hr.units;unfold AQ;have nd:=He.nd;exact @0
def RP(W:Wd K mg a):qD P w K mg base a 4 "_law_rule" a.e_24 ["_law_cell","_law_many"] AS:=by
 refine W.e_24.pk (a9 (F:=AR) W.e_24.F AC λ_ _ _ _ _ _ hr=>?_);have b:=hr.units;unfold AR;have nd:=AC.nd;exact(aE @0 (aE @0 (aE @0 (aE (qL 4 1 [0,1] ["_law_j","_law_cell","_law_many"] AC.nd rfl @0 @0 @0 @0) @0))))
def SY(W:Wd K mg a):qD P w K mg base a 5 "_law_plain" a.e_26 ["_law_script","_law_top"] uQ:=by
 refine W.e_26.pk (a9 (F:=AT) W.e_26.F Hh λ_ _ _ _ _ _ hr=>?_);have b:=hr.units;unfold AT;have nd:=Hh.nd;exact @0
def S0(W:Wd K mg a):qD P w K mg base a 3 "_law_turned" a.e_16 ["_law_plain_here","_law_cell"] uR:=by
 refine W.e_16.pk (a9 (F:=AU) W.e_16.F AD λ_ _ _ _ _ _ hr=>?_);have b:=hr.units;unfold AU;have nd:=AD.nd;exact(aE @0 (aE @0 (aE (ja @0 (aE @0 (aE (lw 2 (uc 2 AD.nd (yM @0 @0))) @0)) @0) @0)))
def R1(W:Wd K mg a):gN P w K mg base a 1 "Seeking" "drop_wider" a.hY ["self","bar"] AW:=by
 refine W.hY.pk W.ad (gi (F:=AV) W.hY.F rC λ_ _ _ _ _ _ hr=>?_);have b:=hr.units;unfold AV;have nd:=rC.nd
 exact(QI (w:=2) (pr:=3) (by decide) (QJ (by decide)) QK (by decide) (ou rC.nd rfl (by first |exact bX rfl |exact bz rfl) (DR (xT @0) (za (hu1 b) (eq "Seeking" W.ad W.g3 (d3 (pv 0))) @0 ⟨rfl,rfl,rfl,rfl⟩) (tI (dZ)))) (D3 dG rfl (oM @0) (wY rC.nd rfl (by first |exact bX rfl |exact bz rfl)) (DV (xN (g:=tDG _ (ax 0)) (tt:=tDT _ (mB (m2 fR (ae 0) (aO (hZ (aU "Seeking" "watches" (aH 2)) (ae 1)))))) (te:=tD _ (ae 0)) 1 [3,0] ["why","pair","self"] rC.nd rfl (by first |exact bX rfl |exact bz rfl) rfl (xc @0) (λ_ _ _ _ _=>(DG.pg (dgc 0 1))) (λ_ _ _ _ _=>(qJ (oH @0 @0 @0 (DL.db (za (hu1 b) (eq "Seeking" W.ad W.g3 (d3 (pvc 2))) @0 ⟨rfl,rfl,rfl,rfl⟩))))) (λ_ _ _ _ _=>(DE.pe @0))))) (bG (lw 2 (gc (kk:=99) dG rfl @0 @0 (bG (ja @0 (bG (gc (kk:=99) dG rfl (oM (oK (DL.dc (y9 (eq "Seeking" W.ad W.ld (d3 (pv 0))))) @0)) @0 (bG (QF (lh (jF jE PySem.F.slot_list_remove PySem.F.type_list_remove (QE b) (GN (hu1 b) (eq "Seeking" W.ad W.g3 (d3 (pv 0))) @0) (eO (DE.pe @0) (dZ)))))))) @0))))))
def RT(W:Wd K mg a):qPD P w K mg base a 1 "In" "named" a.e_41 ["self"] uS:=by
 refine W.e_41.pk W.n7 (a9 (F:=AX) W.e_41.F Ra λ_ _ _ _ _ _ hr=>?_);unfold AX;exact @0
def RX(W:Wd K mg a):qPD P w K mg base a 1 "In" "wants" a.e_49 ["self"] AZ:=by
 refine W.e_49.pk W.n7 (a9 (F:=AY) W.e_49.F Rb λ_ _ _ _ _ _ hr=>?_);unfold AY;exact @0
def RS(W:Wd K mg a):qD P w K mg base a 1 "things_of" a.e_34 ["items"] uT:=by
 refine W.e_34.pk (a9 (F:=A0) W.e_34.F QY λ_ _ _ _ _ _ hr=>?_);unfold A0;exact(bG (jH (O1 rfl rfl W.og rfl W.q4 @0)))
def RV(W:Wd K mg a):qPD P w K mg base a 2 "Least" "named" a.e_43 ["self"] uU:=by
 refine W.e_43.pk W.kT (a9 (F:=A1) W.e_43.F Rr λ_ _ _ _ _ _ hr=>?_);unfold A1;exact @0
def RZ(W:Wd K mg a):qPD P w K mg base a 1 "Least" "wants" a.e_59 ["self"] A4:=by
 refine W.e_59.pk W.kT (a9 (F:=A3) W.e_59.F Rs λ_ _ _ _ _ _ hr=>?_);unfold A3;exact @0
def RW(W:Wd K mg a):qPD P w K mg base a 2 "Most" "named" a.e_46 ["self"] uV:=by
 refine W.e_46.pk W.mm (a9 (F:=A5) W.e_46.F Ry λ_ _ _ _ _ _ hr=>?_);unfold A5;exact @0
def R0(W:Wd K mg a):qPD P w K mg base a 1 "Most" "wants" a.e_62 ["self"] A7:=by
 refine W.e_62.pk W.mm (a9 (F:=A6) W.e_62.F Rz λ_ _ _ _ _ _ hr=>?_);unfold A6;exact @0
def RU(W:Wd K mg a):qPD P w K mg base a 1 "Out" "named" a.e_42 ["self"] uW:=by
 refine W.e_42.pk W.nL (a9 (F:=A8) W.e_42.F Rj λ_ _ _ _ _ _ hr=>?_);unfold A8;exact @0
def RY(W:Wd K mg a):qPD P w K mg base a 1 "Out" "wants" a.e_54 ["self"] Ba:=by
 refine W.e_54.pk W.nL (a9 (F:=A9) W.e_54.F Rk λ_ _ _ _ _ _ hr=>?_);unfold A9;exact @0
def R4(W:Wd K mg a):gN P w K mg base a 3 "Seeking" "take_guard" a.hO ["self","why","guard"] rE:=by
 refine W.hO.pk W.ad (gi (F:=Bb) W.hO.F Hr λ_ _ _ _ _ _ hr=>?_);have b:=hr.units;unfold Bb;have nd:=Hr.nd;exact(aE (Qq (ED (hu1 b) (eq "Seeking" W.ad W.kv (d3 (pv 0))) (DE.pe @0) (DE.pe @0) rfl)) (aE (gc (kk:=99) dG rfl @0 @0 (bG (gc (kk:=99) dG rfl @0 @0 (bG (Qv (lh (jF jE wJ wK xB (Qu (hu1 b) (eq "Seeking" W.ad W.g3 (d3 (pv 0))) (DE.pe @0) (tI (dZ)) ⟨rfl,rfl,rfl,rfl⟩) (eO (pv 1) (dZ))))))))) @0))
def HA(W:Wd K mg a):Pm P w K mg base CX0 1 (a.cl "In") "__init__" a.e_66 ["self","thing"] (spI ⟨K,a.cl⟩ "In" ["self","thing"].length Bc):=
 W.e_66.pk W.n7 (uf W.e_66.F Q9 λ_ _ _ _ _ _ hr=>(oQ W.n7 W.nq (pv 0) (dv 1) ue))
def HB(W:Wd K mg a):Pm P w K mg base CX0 1 (a.cl "Out") "__init__" a.e_67 ["self","thing"] (spI ⟨K,a.cl⟩ "Out" ["self","thing"].length uX):=
 W.e_67.pk W.nL (uf W.e_67.F Ri λ_ _ _ _ _ _ hr=>(oQ W.nL W.mu (pv 0) (dv 1) ue))
def R3(W:Wd K mg a):qD P w K mg base a 3 "guard_of_bar" a.e_48 ["bar"] Be:=by
 refine W.e_48.pk (a9 (F:=Bd) W.e_48.F Q4 λ_ _ _ _ _ _ hr=>?_);unfold Bd;exact @0
def R9(W:Wd K mg a):gN P w K mg base a 4 "Seeking" "take_bar" a.h9 ["self","bar"] uY:=by
 refine W.h9.pk W.ad (gi (F:=Bf) W.h9.F Hs λ_ _ _ _ _ _ hr=>?_);unfold Bf;have nd:=Hs.nd;exact @0
def S1(W:Wd K mg a):Pm P w K mg base CX0 1 (a.cl "Least") "__init__" a.e_68 ["self","bound","items"] (spI ⟨K,a.cl⟩ "Least" ["self","bound","items"].length Bg):=
 W.e_68.pk W.kT (uf W.e_68.F Rq λ_ _ _ _ _ _ hr=>(oQ W.kT W.lj (pv 0) (dv 1) (oQ W.kT W.lb (pv 0) (DO.de (t7 nX rfl W.n5 (dvC 2))) ue)))
def S2(W:Wd K mg a):Pm P w K mg base CX0 1 (a.cl "Most") "__init__" a.e_69 ["self","bound","items"] (spI ⟨K,a.cl⟩ "Most" ["self","bound","items"].length Hw):=
 W.e_69.pk W.mm (uf W.e_69.F Rx λ_ _ _ _ _ _ hr=>(oQ W.mm W.md (pv 0) (dv 1) (oQ W.mm W.lk (pv 0) (DO.de (t7 nX rfl W.n5 (dvC 2))) ue)))
def R5(W:Wd K mg a):qD P w K mg base a 3 "part_of" a.e_33 ["told"] Bi:=by
 refine W.e_33.pk (a9 (F:=Bh) W.e_33.F G5 λ_ _ _ _ _ _ hr=>?_);have b:=hr.units;unfold Bh;have nd:=G5.nd;exact @0
def R7(W:Wd K mg a):qD P w K mg base a 4 "body_of" a.e_2 ["rule"] m_2:=by
 refine W.e_2.pk (a9 (F:=b_2) W.e_2.F G7 λ_ _ _ _ _ _ hr=>?_);unfold b_2;exact @0
def R6(W:Wd K mg a):qO P w K mg base a 4 "body_of" a.e_2 ["rule"] o_2:=by
 refine W.e_2.pk (mQ (F:=b_2) W.e_2.F G7 λ_ _ _ _ _ _ hr=>?_);unfold b_2;exact @0
def R8(W:Wd K mg a):qD P w K mg base a 5 "guard_of" a.e_21 ["rule"] uZ:=by
 refine W.e_21.pk (a9 (F:=Bj) W.e_21.F G8 λ_ _ _ _ _ _ hr=>?_);have b:=hr.units;unfold Bj;have nd:=G8.nd;exact @0
def S3(W:Wd K mg a):cr P w K mg base CX0 6 a.e_10.1 a.e_10.2 ["self","plain","bars","sheet"] (ib ⟨K,a.cl⟩ ["self","plain","bars","sheet"].length Bl):=
 gi (k:=5) (N:=["self","plain","bars","sheet","rule","number","bar"]) (F:=Bk) W.e_10.F Hv λcdv A outer s H V4 hr=>by
  unfold Bk;have nd:=Hv.nd;exact @0
def S4(W:Wd K mg a):gN P w K mg base a 8 "Seeking" "__init__" a.e_11 ["self","plain"] Bo:=by
 refine W.e_11.pk W.ad (gi (F:=Bm) W.e_11.F RE λ_ _ _ _ _ _ hr=>?_);unfold Bm;exact(aE (yT (QQ @0 rfl W.pj W.oD (S3 W) (hr.mono (by decide)) W.e_10.b @0)) @0)
def Sw(W:Wd K mg a):qPD P w K mg base a 1 "In" "sure_by" a.e_51 ["self","sheet","order"] Bq:=by
 refine W.e_51.pk W.n7 (a9 (F:=Bp) W.e_51.F Re λ_ _ _ _ _ _ hr=>?_);unfold Bp;exact @0
def Sa(W:Wd K mg a):qD P w K mg base a 1 "weights_of" a.e_14 ["items"] u8:=by
 refine W.e_14.pk (a9 (F:=Br) W.e_14.F AB λ_ _ _ _ _ _ hr=>?_);have b:=hr.units;unfold Br;have nd:=AB.nd;exact(aE (yt 1 AB.nd) (aE (gc (kk:=99) dG rfl @0 @0 (bG (yu b @0 @0 (xS @0 (P7 b @0 @0 @0 ⟨rfl,rfl,rfl,rfl⟩) @0)))) (bG (P9 1 @0))))
def Sc(W:Wd K mg a):qD P w K mg base a 2 "enough" a.e_7 ["items","things","lack"] m_7:=by
 refine W.e_7.pk (a9 (F:=b_7) W.e_7.F uH λ_ _ _ _ _ _ hr=>?_);have b:=hr.units;unfold b_7;have nd:=uH.nd;exact(aE @0 (aE @0 (aE @0 (aE (gc (kk:=99) dG rfl @0 @0 (aE (qK 7 uH.nd (Qg b @0 @0 @0 ⟨rfl,rfl,rfl,rfl⟩)) (bG (ja @0 (aE @0 (bG (QS 5 uH.nd @0))) @0)))) @0))))
def Sb(W:Wd K mg a):qD P w K mg base a 1 "with_entry" a.e_15 ["things","sheet","truth"] pH:=by
 refine W.e_15.pk (a9 (F:=Bs) W.e_15.F Q3 λ_ _ _ _ _ _ hr=>?_);have b:=hr.units;unfold Bs;exact(bG (jH (kf 1 [2,1] ["thing","truth","sheet"] rfl @0 @0 @0 @0)))
def Sy(W:Wd K mg a):qPD P w K mg base a 3 "Least" "sure_by" a.e_61 ["self","sheet","order"] Bu:=by
 refine W.e_61.pk W.kT (a9 (F:=Bt) W.e_61.F Rv λ_ _ _ _ _ _ hr=>?_);unfold Bt;exact @0
def Sd(W:Wd K mg a):qD P w K mg base a 1 "worth_of" a.e_35 ["items"] u9:=by
 refine W.e_35.pk (a9 (F:=Bv) W.e_35.F Q1 λ_ _ _ _ _ _ hr=>?_);unfold Bv;exact(bG (qM (qG (x8 rfl) x9 rfl W.p4 boot_sum @0)))
def Sz(W:Wd K mg a):qPD P w K mg base a 3 "Most" "sure_by" a.e_64 ["self","sheet","order"] Bx:=by
 refine W.e_64.pk W.mm (a9 (F:=Bw) W.e_64.F RB λ_ _ _ _ _ _ hr=>?_);unfold Bw;exact @0
def Sx(W:Wd K mg a):qPD P w K mg base a 1 "Out" "sure_by" a.e_56 ["self","sheet","order"] Bz:=by
 refine W.e_56.pk W.nL (a9 (F:=By) W.e_56.F Rm λ_ _ _ _ _ _ hr=>?_);unfold By;exact @0
def So(W:Wd K mg a):qPD P w K mg base a 1 "In" "lost_by" a.e_53 ["self","sheet","without","order"] BB:=by
 refine W.e_53.pk W.n7 (a9 (F:=BA) W.e_53.F Rh λ_ _ _ _ _ _ hr=>?_);unfold BA;exact @0
def Sf(W:Wd K mg a):qD P w K mg base a 1 "outside" a.e_36 ["items","without"] va:=by
 refine W.e_36.pk (a9 (F:=BC) W.e_36.F Q2 λ_ _ _ _ _ _ hr=>?_);unfold BC;exact @0
def Ss(W:Wd K mg a):qPD P w K mg base a 3 "Least" "lost_by" a.e_45 ["self","sheet","without","order"] BE:=by
 refine W.e_45.pk W.kT (a9 (F:=BD) W.e_45.F Hl λ_ _ _ _ _ _ hr=>?_);unfold BD;have nd:=Hl.nd;exact @0
def Su(W:Wd K mg a):qPD P w K mg base a 3 "Most" "lost_by" a.e_65 ["self","sheet","without","order"] BG:=by
 refine W.e_65.pk W.mm (a9 (F:=BF) W.e_65.F RD λ_ _ _ _ _ _ hr=>?_);unfold BF;exact @0
def Sr(W:Wd K mg a):qPD P w K mg base a 1 "Out" "lost_by" a.e_58 ["self","sheet","without","order"] BI:=by
 refine W.e_58.pk W.nL (a9 (F:=BH) W.e_58.F Rp λ_ _ _ _ _ _ hr=>?_);unfold BH;exact @0
def Si(W:Wd K mg a):qPD P w K mg base a 1 "In" "lost" a.e_28 ["self","sheet","without"] rF:=by
 refine W.e_28.pk W.n7 (a9 (F:=BJ) W.e_28.F Rg λ_ _ _ _ _ _ hr=>?_);unfold BJ;exact(bG (qM (MU @0 @0)))
def Sg(W:Wd K mg a):qD P w K mg base a 1 "worth_not_out" a.e_13 ["items","sheet"] pI:=by
 refine W.e_13.pk (a9 (F:=BK) W.e_13.F Q0 λ_ _ _ _ _ _ hr=>?_);unfold BK;exact(bG (qM (qG (x8 rfl) x9 rfl W.p4 boot_sum @0)))
def Sk(W:Wd K mg a):qPD P w K mg base a 2 "Least" "lost" a.e_30 ["self","sheet","without"] rG:=by
 refine W.e_30.pk W.kT (a9 (F:=BL) W.e_30.F Rw λ_ _ _ _ _ _ hr=>?_);unfold BL;exact @0
def Sh(W:Wd K mg a):qD P w K mg base a 1 "worth_in" a.e_19 ["items","entries"] rH:=by
 refine W.e_19.pk (a9 (F:=BM) W.e_19.F QZ λ_ _ _ _ _ _ hr=>?_);unfold BM;exact(bG (qM (qG (x8 rfl) x9 rfl W.p4 boot_sum @0)))
def Sm(W:Wd K mg a):qPD P w K mg base a 2 "Most" "lost" a.e_31 ["self","sheet","without"] rJ:=by
 refine W.e_31.pk W.mm (a9 (F:=BN) W.e_31.F RC λ_ _ _ _ _ _ hr=>?_);unfold BN;exact @0
def Sj(W:Wd K mg a):qPD P w K mg base a 1 "Out" "lost" a.e_29 ["self","sheet","without"] rK:=by
 refine W.e_29.pk W.nL (a9 (F:=BO) W.e_29.F Ro λ_ _ _ _ _ _ hr=>?_);unfold BO;exact @0
def Hx(W:Wd K mg a):qD P w K mg base a 3 "lost_part" a.e_5 ["body","sheet","without"] m_5:=by
 refine W.e_5.pk (a9 (F:=b_5) W.e_5.F Ha λ_ _ _ _ _ _ hr=>?_);unfold b_5;have nd:=Ha.nd;exact @0
def Sn(W:Wd K mg a):qD P w K mg base a 1 "marks" a.e_1 ["many","some"] m_1:=by
 refine W.e_1.pk (a9 (F:=b_1) W.e_1.F pG λ_ _ _ _ _ _ hr=>?_);have b:=hr.units;unfold b_1;have nd:=pG.nd;exact(aE (yt 2 pG.nd) (aE (gc (kk:=99) dG rfl @0 @0 (bG (yu b @0 @0 @0))) (bG (lw 2 (jH (kf 1 [2] ["thing","listed"] rfl @0 @0 @0 (λ_ _ _ _ _=>(FJ b @0 @0))))))))
def SA(W:Wd K mg a):qO P w K mg base a 1 "marks" a.e_1 ["many","some"] o_1:=by
 refine W.e_1.pk (mQ (F:=b_1) W.e_1.F pG λ_ _ _ _ _ _ hr=>?_);have b:=hr.units;unfold b_1;have nd:=pG.nd;exact(aE (yt 2 pG.nd) (aE (gc (kk:=99) dG rfl @0 @0 (bG (yu b @0 @0 @0))) (bG (lw 2 (jH (kf 1 [2] ["thing","listed"] rfl @0 @0 @0 (λ_ _ _ _ _=>(FJ b @0 @0))))))))
def Sv(W:Wd K mg a):qPO P w K mg base a 4 "Seeking" "grounds_of_group" a.e_9 ["self","sheet","group","order"] o_9:=by
 refine W.e_9.pk W.ad (mQ (F:=b_9) W.e_9.F AG λ_ _ _ _ _ _ hr=>?_);unfold b_9;have nd:=AG.nd
 exact(aE @0 (aE (uc 5 AG.nd (by refine Fe ?a ?b ?c;(case a=>exact(DO.de (kf 1 [4,1] ["thing","without","sheet"] rfl (DI.de (oM (dv 3))) (λ_ _ _ _ _=>(dgc 0 1)) (λ_ _ _ _ _=>(qJ (DW.dt (xV (xT (DE.db (oK (yh 1) (dvc 0)))) (xU (oH E7 E8 (DE.db (oK (yh 2) (dvc 0))) (DE.db EV))))))) (λ_ _ _ _ _=>(dvc 0)))));(case b=>exact Fc);(case c=>exact(Fd EU)))) @0))
def Hy(W:Wd K mg a):qPO P w K mg base a 5 "Seeking" "grounds" a.e_4 ["self","sheet","why","order"] o_4:=by
 refine W.e_4.pk W.ad (mQ (F:=b_4) W.e_4.F Hq λ_ _ _ _ _ _ hr=>?_);have b:=hr.units;unfold b_4;have nd:=Hq.nd;exact(aE @0 (aE @0 (aE @0 (aE (gc (kk:=99) dG rfl (oM (QU (hu1 b) @0 @0)) @0 @0) @0))))
def S5(W:Wd K mg a):qD P w K mg base a 1 "needed_first" a.e_37 ["order","needed"] vb:=by
 refine W.e_37.pk (a9 (F:=BP) W.e_37.F Q6 λ_ _ _ _ _ _ hr=>?_);unfold BP;exact(bG (jH (yM @0 @0)))
def SB(W:Wd K mg a):qD P w K mg base a 1 "own_why" a.e_22 ["why"] rL:=by
 refine W.e_22.pk (a9 (F:=BQ) W.e_22.F Q5 λ_ _ _ _ _ _ hr=>?_);have b:=hr.units;unfold BQ;exact @0
def SC(W:Wd K mg a):gN P w K mg base a 6 "Seeking" "line_to" a.e_17 ["self","why"] BS:=by
 refine W.e_17.pk W.ad (gi (F:=BR) W.e_17.F uI λ_ _ _ _ _ _ hr=>?_);unfold BR;have nd:=uI.nd;exact(aE (uc 2 uI.nd (t7 nX rfl W.n5 (DL.dc (y9 (eq "Seeking" W.ad W.ii (d3 (pv 0))))))) (aE (qL 5 2 [] ["pair","cause"] uI.nd rfl (GY @0) @0 @0 @0) (aE @0 (aE @0 (aE @0 (aE (G3 0 "Seeking" "steps" (gc (kk:=99) dG rfl @0 @0 (aE @0 (aE (ja @0 @0 (bG (ja @0 (aE @0 (aE (FK @0 @0 (E3 @0)) (bG (gc (kk:=99) dG rfl (oM (DO.de (G1 "Seeking" @0 (Hy W) hr (qA @0 (qA @0 (qA (Gj (S5 W) hr @0) @0)))))) @0 @0)))) @0))) @0)))) @0))))))
def SD(W:Wd K mg a):gN P w K mg base a 1 "Seeking" "place_for" a.e_32 ["self","bar"] BV:=by
 refine W.e_32.pk W.ad (gi (F:=BU) W.e_32.F AF λ_ _ _ _ _ _ hr=>?_);have b:=hr.units;unfold BU;exact(aE (qL 2 2 [] ["place","step"] AF.nd rfl @0 @0 @0 @0) (aE (qL 3 1 [0] ["place","self"] AF.nd rfl @0 @0 @0 @0) (bG (Ft (oK @0 (E4 @0 @0 (xS @0 (Qe (jF jE PySem.F.slot_list_index PySem.F.type_list_index (GI b) (DE.pe @0) (eO (DE.pe (oK @0 (M9 @0))) (dZ)))) @0)))))))
def SE(W:Wd K mg a):gN P w K mg base a 1 "Seeking" "take_back" a.h8 ["self","many"] BX:=by
 refine W.h8.pk W.ad (gi (F:=BW) W.h8.F Ht λ_ _ _ _ _ _ hr=>?_);unfold BW;have nd:=Ht.nd;exact(aE (gc (kk:=99) dG rfl @0 @0 (bG (GP (w6 (DE.pe @0) (w5 (eq "Seeking" W.ad W.ii (d3 (pv 0))) (DE.pe @0) xv (by intro _;rfl)) rfl rfl rfl)))) @0)
def SX(W:Wd K mg a):gN P w K mg base a 7 "Seeking" "close" a.e_12 ["self","why"] pJ:=by
 refine W.e_12.pk W.ad (gi (F:=BY) W.e_12.F Ho λ_ _ _ _ _ _ hr=>?_);unfold BY;have nd:=Ho.nd;exact @0
def Hz(W:Wd K mg a):gN P w K mg base a 1 "Seeking" "put" a.kF ["self","thing","truth","why"] pK:=by
 refine W.kF.pk W.ad (gi (F:=BZ) W.kF.F RF λ_ _ _ _ _ _ hr=>?_);have b:=hr.units;unfold BZ;exact(aE (GP (w6 (DE.pe @0) (w5 (eq "Seeking" W.ad W.ii (d3 (pv 0))) (DE.pe @0) xv (by intro _;rfl)) rfl rfl rfl)) (aE @0 (bG (Ql (lh (jF jE wL wM xD (eq "Seeking" W.ad W.kr (d3 (pv 0))) (eO (za (hu1 b) (eq "Seeking" W.ad W.g3 (d3 (pv 0))) @0 ⟨rfl,rfl,rfl,rfl⟩) (dZ))))))))
def SG(W:Wd K mg a):qPD P w K mg base a 1 "In" "sure" a.e_50 ["self","sheet"] B1:=by
 refine W.e_50.pk W.n7 (a9 (F:=B0) W.e_50.F Rc λ_ _ _ _ _ _ hr=>?_);unfold B0;exact @0
def SK(W:Wd K mg a):qPD P w K mg base a 1 "In" "tips" a.e_52 ["self","sheet"] B3:=by
 refine W.e_52.pk W.n7 (a9 (F:=B2) W.e_52.F Rf λ_ _ _ _ _ _ hr=>?_);unfold B2;exact @0
def SI(W:Wd K mg a):qPD P w K mg base a 2 "Least" "sure" a.e_60 ["self","sheet"] B5:=by
 refine W.e_60.pk W.kT (a9 (F:=B4) W.e_60.F Ru λ_ _ _ _ _ _ hr=>?_);unfold B4;exact @0
def SF(W:Wd K mg a):qD P w K mg base a 2 "heavy" a.e_20 ["items","sheet","lack"] vc:=by
 refine W.e_20.pk (a9 (F:=B6) W.e_20.F G6 λ_ _ _ _ _ _ hr=>?_);have b:=hr.units;unfold B6;have nd:=G6.nd;exact(aE @0 (bG (jH (kf 1 [2,3] ["thing","lack","weights"] rfl (DI.de (P5 @0)) @0 (λ_ _ _ _ _=>(qJ (oH @0 @0 (DE.db (P6 b @0 @0)) @0))) @0))))
def SM(W:Wd K mg a):qPD P w K mg base a 3 "Least" "tips" a.e_44 ["self","sheet"] B8:=by
 refine W.e_44.pk W.kT (a9 (F:=B7) W.e_44.F Hk λ_ _ _ _ _ _ hr=>?_);unfold B7;have nd:=Hk.nd;exact @0
def SJ(W:Wd K mg a):qPD P w K mg base a 2 "Most" "sure" a.e_63 ["self","sheet"] Ca:=by
 refine W.e_63.pk W.mm (a9 (F:=B9) W.e_63.F RA λ_ _ _ _ _ _ hr=>?_);unfold B9;exact @0
def SN(W:Wd K mg a):qPD P w K mg base a 3 "Most" "tips" a.e_47 ["self","sheet"] Cc:=by
 refine W.e_47.pk W.mm (a9 (F:=Cb) W.e_47.F Hm λ_ _ _ _ _ _ hr=>?_);unfold Cb;have nd:=Hm.nd;exact @0
def SH(W:Wd K mg a):qPD P w K mg base a 1 "Out" "sure" a.e_55 ["self","sheet"] Ce:=by
 refine W.e_55.pk W.nL (a9 (F:=Cd) W.e_55.F Rl λ_ _ _ _ _ _ hr=>?_);unfold Cd;exact @0
def SL(W:Wd K mg a):qPD P w K mg base a 1 "Out" "tips" a.e_57 ["self","sheet"] Cg:=by
 refine W.e_57.pk W.nL (a9 (F:=Cf) W.e_57.F Rn λ_ _ _ _ _ _ hr=>?_);unfold Cf;exact @0
def S6(W:Wd K mg a):Pk P w K mg base CX0 4 "pressed_by" a.e_70 ["guard","sheet"] (spN ⟨K,a.cl⟩ ["guard","sheet"].length Ci):=by
 refine W.e_70.pk (QG (F:=Ch) W.e_70.F G9 λ_ _ _ _ _ _ hr=>?_);have b:=hr.units;unfold Ch;have nd:=G9.nd;exact(aE @0 (aE @0 (aE @0 (bG (jH (kf 2 [] ["thing","truth"] rfl @0 @0 @0 (λ_ _ _ _ _=>(EW (xR @0 (xR (E3 @0) @0))))))))))
def SU(W:Wd K mg a):gN P w K mg base a 5 "Seeking" "look_round" a.h6 ["self"] Ck:=by
 refine W.h6.pk W.ad (gi (F:=Cj) W.h6.F uJ λ_ _ _ _ _ _ hr=>?_);have b:=hr.units;unfold Cj;have nd:=uJ.nd;exact(aE (oO 1000000000 dG @0 (aE (uE 1 uJ.nd (Qm (jF jE PySem.F.slot_list_pop PySem.F.type_list_pop Mb (eq "Seeking" W.ad W.kr (d3 (pv 0))) (eO DQ (dZ))))) (aE (qK 2 uJ.nd (QH (S6 W) hr (qA (y8 (GN (hu1 b) (eq "Seeking" W.ad W.kv (d3 (pv 0))) @0)) @0))) @0))) @0)
def SQ(W:Wd K mg a):qPD P w K mg base a 3 "Seeking" "keeping" a.ir ["self","part","without"] Cn:=by
 refine W.ir.pk W.ad (a9 (F:=Cm) W.ir.F RH λ_ _ _ _ _ _ hr=>?_);unfold Cm;exact @0
def SO(W:Wd K mg a):qPD P w K mg base a 4 "Seeking" "lost_parts" a.h7 ["self","thing","without"] Cp:=by
 refine W.h7.pk W.ad (a9 (F:=Co) W.h7.F RG λ_ _ _ _ _ _ hr=>?_);have b:=hr.units;unfold Co;exact(bG (jH (kf 2 [2,0,1] ["head","body","without","self","thing"] rfl @0 @0 @0 @0)))
def SS(W:Wd K mg a):qPO P w K mg base a 5 "Seeking" "kernel" a.j3 ["self","thing","without"] lO:=by
 refine W.j3.pk W.ad (mQ (F:=rM) W.j3.F AI λ_ _ _ _ _ _ hr=>?_);unfold rM;have nd:=AI.nd;exact(aE @0 (aE @0 (aE (oO 1000000000 dG @0 (aE (gc (kk:=99) dG rfl @0 @0 (bG (Fu (lh (jF jE wL wM xD (pv 3) (eO (DE.pe (DO.de (kf 1 [3] ["other","found"] rfl @0 @0 (λ_ _ _ _ _=>(qJ (oH Nl Ni @0 (NE 1)))) @0))) (dZ))))))) (bG (Qd 4 AI.nd @0)))) (bG (lw 3 (jH (Pa rfl rfl W.og @0)))))))
def SR(W:Wd K mg a):gN P w K mg base a 4 "Seeking" "loose_marks" a.g5 ["self"] Cr:=by
 refine W.g5.pk W.ad (gi (F:=Cq) W.g5.F uK λ_ _ _ _ _ _ hr=>?_);unfold Cq;have nd:=uK.nd;exact(aE (NH 1 1 [] ["entry"] uK.nd rfl (GY @0) (λ_ _ _ _ _=>@0) (λ_ _ _ _ _=>@0) (λ_ _ _ _ _=>@0)) (aE @0 (aE @0 (aE @0 (aE (oO 1000000000 dG @0 (aE @0 (aE @0 (aE (gc (kk:=99) dG rfl @0 @0 (bG (ja (DW.dt (xV @0 (xU (oH @0 @0 (Gj (Hx W) hr @0) @0)))) @0 @0))) (aE @0 (bG (qK 4 uK.nd (EZ @0 (EY (qG (Od rfl) Oe rfl W.qq boot_any @0)))))))))) (aE (lw 2 (GT "Seeking" W.ad W.ky (xm (d3 (pv 0)) (Gz (DO.de (yM @0 @0))) rfl))) @0))))))
def SV(W:Wd K mg a):gN P w K mg base a 6 "Seeking" "put_loose_out" a.gF ["self"] Ct:=by
 refine W.gF.pk W.ad (gi (F:=Cs) W.gF.F AH λ_ _ _ _ _ _ hr=>?_);unfold Cs;have nd:=AH.nd;exact(aE @0 (aE (qL 3 2 [1] ["thing","entry","without"] AH.nd rfl (QB rfl W.ny @0) @0 @0 @0) @0))
def SW(W:Wd K mg a):gN P w K mg base a 7 "Seeking" "settle" a.j0 ["self"] rN:=by
 refine W.j0.pk W.ad (gi (F:=Cu) W.j0.F Hu λ_ _ _ _ _ _ hr=>?_);unfold Cu;have nd:=Hu.nd;exact @0
def S7(W:Wd K mg a):qO P w K mg base a 1 "numbers" a.e_18 ["truths"] rO:=by
 refine W.e_18.pk (mQ (F:=Cv) W.e_18.F QX λ_ _ _ _ _ _ hr=>?_);unfold Cv;exact @0
def HC(W:Wd K mg a):gN P w K mg base a 8 "Seeking" "another" a.e_8 ["self"] m_8:=by
 refine W.e_8.pk W.ad (gi (F:=b_8) W.e_8.F AE λ_ _ _ _ _ _ hr=>?_);have b:=hr.units;unfold b_8;have nd:=AE.nd;exact(aE (oO 1000000000 dG @0 (aE @0 (bG (ja @0 @0 (bG (ja @0 (bG (yT (GW "Seeking" @0 (Hz W) hr (GH (DE.dx (QT (jF jE PySem.F.slot_list_index PySem.F.type_list_index (GI b) (y8 (eq "Seeking" W.ad W.ii (d3 (pv 0)))) (eO (DE.pe @0) (dZ))))) @0)))) (aE (qK 2 AE.nd (DO.de (O6 (S7 W) hr @0))) (aE @0 (aE (QR "Seeking" W.ad W.kQ @0 @0) @0))))))))) @0)
def SZ(W:Wd K mg a):qD P w K mg base a 10 "worlds" a.e_0 ["plain","most"] m_0:=by
 refine W.e_0.pk (QW (F:=b_0) W.e_0.F rB λ_ _ _ _ _ _ hr=>?_);unfold b_0;have nd:=rB.nd;exact(aE (PU 2 rB.nd (QA "Seeking" W.n0 (S4 W).ok (hr.mono (by decide)) rfl W.p0 W.e_11.b @0)) (aE @0 (aE (uE 4 rB.nd (GX "Seeking" @0 (HC W) hr)) (aE (oO 1000000000 dG @0 (aE @0 (bG (uE 4 rB.nd (GX "Seeking" @0 (HC W) hr))))) (aE (ja @0 (bG (lw 3 (G3 2 "Seeking" "paper" @0))) @0) @0)))))
def S8(W:Wd K mg a):qD P w K mg base a 11 "law" a.e_6 ["_law_script"] m_6:=by
 refine W.e_6.pk (a9 (F:=b_6) W.e_6.F Hj λ_ _ _ _ _ _ hr=>?_);have b:=hr.units;unfold b_6;have nd:=Hj.nd;exact(aE @0 (aE @0 (aE @0 (aE @0 (aE @0 (aE @0 (aE (ja (DW.dt (xX @0 (xX @0 (xX @0 (MS @0))))) @0 @0) @0)))))))
unseal DSs DS DX DE DO oU dEq gM fR qU dIs gb rb rA qE mO ax cX bo c9 cu m1 m2 dB c8 rq m8 mB lN av pA ki o7 jL bp ag bH dN je uG kh eQ nr pc ba bZ o9 rg bg mP mIx q9 lL m6 aO iC aL ic cE jO bK cx gD kg mOr bd mPt jg gg be cv fA fw lK iz ai aV aX oV cJ fU mSl mT lI bI bj ae cD aw da pE mX px kA nt pB pC pD ph aU hZ kz rp nh pi py eB aH i9 i8 vIf mL vOr jl hX nj m7
local macro_rules | `(tactic| walk_at "evS")=>`(tactic| first | decide | lia | assumption | exact ⟨by decide,by decide⟩ | exact ⟨by lia,by lia⟩ | exact .inl ⟨by decide,by decide⟩ | exact .inr ⟨by decide,by decide⟩ | exact .inl ⟨by lia,by lia⟩ | exact .inr ⟨by lia,by lia⟩ | exact ⟨by decide,by decide,by decide⟩)
local macro_rules | `(tactic| walk_at "evO")=>`(tactic| first | with_reducible exact gh | with_reducible exact lG | with_reducible exact qZ | with_reducible exact mU | with_reducible exact yO | with_reducible exact Gf | with_reducible exact km _ _ | with_reducible exact dNe_int _ _ | ((with_reducible apply b8); (focus walk_at "evS")) | ((with_reducible apply lF); (focus walk_at "evS")) | ((with_reducible apply dMul_eq); (focus walk_at "evS")) | ((with_reducible apply o8); (focus first | assumption | exact .inl (by walk_at "evS") | exact .inr ⟨by lia,by lia⟩)) | ((with_reducible apply uw); (focus walk_at "evS")) | ((with_reducible apply dShr_eq); (focus walk_at "evS")) | with_reducible exact qQ _ _ | with_reducible exact dNe_str _ _ | with_reducible exact dEq_bl _ _ | with_reducible exact dAndB_eq | exact dEq_nil _ _ | exact dNe_nil _ _ | assumption | rfl)
local macro_rules | `(tactic| walk_at "ev")=>`(tactic| first
 | with_reducible assumption
 | ((with_reducible apply ap); (focus walk_at "ev"); (focus walk_at "ev"); (focus walk_at "evO"))
 | ((with_reducible apply bA); (focus walk_at "ev"))
 | ((with_reducible apply df); (focus walk_at "ev"); (focus first | assumption | rfl))
 | ((with_reducible apply jI); (focus walk_at "ev"); (focus walk_at "ev"))
 | ((with_reducible apply mR); (focus walk_at "ev"); (focus walk_at "ev"))
 | ((with_reducible apply oS); (focus walk_at "ev"))
 | ((with_reducible apply jJ); (focus walk_at "ev"); (focus walk_at "ev"))
 | ((with_reducible apply FB); (focus walk_at "ev"); (focus walk_at "ev"))
 | ((with_reducible apply vNot_eq); (focus walk_at "ev"))
 | ((with_reducible apply ao); (focus walk_at "ev"); (focus walk_at "ev"))
 | ((with_reducible apply cS); (focus walk_at "ev"))
 | ((with_reducible apply bQ); (focus walk_at "ev"))
 | ((with_reducible apply aD); (focus walk_at "ev"); (focus first | with_reducible assumption | with_reducible exact d9 _ _ | assumption | exact d9 _ _ | exact Gg _ _ | rfl))
 | ((with_reducible apply callS_is); (focus walk_at "ev"); (focus assumption); (focus rfl))
 | ((with_reducible apply bf); (focus walk_at "ev"); (focus walk_at "ev"); (focus first | assumption | rfl))
 | ((with_reducible apply Gi); (focus walk_at "ev"); (focus rfl); (focus rfl))
 | ((with_reducible apply oY); (focus walk_at "ev"); (focus rfl); (focus rfl))
 | ((with_reducible apply eS); (focus walk_at "ev"); (focus rfl))
 | rfl)
local macro_rules | `(tactic| walk_at "nrm")=>`(tactic| simp only [Ga,p9,sP])
local macro_rules | `(tactic| walk_at "set")=>`(tactic| (apply ak; (first | with_reducible apply bn | with_reducible apply dM); (focus walk_at "ev"); walk_at "nrm"))
local macro_rules | `(tactic| walk_at "if0")=>`(tactic| ((with_reducible first | apply aY | apply eT); (focus walk_at "ev")))
def p60:(0:Int)<10 ^ (60:Int).toNat:=by decide
def HD:mD 10 60:=⟨by decide,by decide,by decide⟩
variable{M:LS}
def S9{d c:Type}{k:Nat}{js:LN}(C:List d)(f:d->D)(q:c->D)(P:c->Prop)
 (hi:fi M=aa (C.map f))(hz:C.length<=16777216)(i:∀x∈C,∃z,P z/\gG g ft fe (iA k js M) (f x)=aa (aa (q z))):∃a:List c,bp k js fi g ft fe M=aa (a.map q)/\a.length=C.length/\∀z∈a,P z:=by
 have key:∀b:List d,(∀x∈b,∃z,P z/\gG g ft fe (iA k js M) (f x)=aa (aa (q z)))->∃a:List c,eP (gG g ft fe (iA k js M)) (b.map f)=aa (a.map q)/\a.length=b.length/\∀z∈a,P z:=by
  intro b
  induction b with
  |nil=>intro _;exact⟨[],rfl,rfl,λz hz=>nomatch hz⟩
  |cons y b m=>
   intro h;obtain⟨z,u,n⟩:=h y aF;obtain⟨a,e,l,p⟩:=m λx j=>h x (bq _ j);refine⟨z::a,?_,by rw[cy,cy,l],λw r=>?_⟩
   .rw[bF];unfold eP
    grind
   .grind
 obtain⟨a,e,l,p⟩:=key C i;refine⟨a,?_,l,p⟩;unfold bp
 grind
abbrev nmP:Prt->LI0
 |.inn t=>[t]
 |.out t=>[t]
 |.least _ B=>B.map (·.1)
 |.most _ B=>B.map (·.1)
variable{f:MF1}
def Cw{g:MF1}{a b:LD}(h:f M=aa (.lst a))(h':g M=aa (.lst b))(c:a.length+b.length<=16777216):jL f g M=aa (a++b):=by
 unfold jL
 grind
abbrev inS(C:LI0)(i:Nat):Bool:=C.any λx=>x==(i:Int)
def Ta(ks:List Key)(k j:Key):gJ (hU ks k) j=(gJ ks j || decide (k=j)):=by
 unfold hU
 by_cases e:gJ ks k=ac
 .grind
 .rw[if_neg e];unfold gJ;simp
def Tb(ks:List Key)(k:Key):(hU ks k).length<=ks.length+1:=by
 unfold hU
 grind
variable{i:Nat}{fk fv:MF1}{d:L2.D}{C:LD}
def Tc{x:D}{k:Key}{ks:List Key}(a:fv M=aa d)(h2:fk M=aa x)(b:jf x=aa k)(c:M[i]?=aa (.ownd ks C))(e:ks.length<16777216):
  jg i fk fv M=aa (.nx (M.set i (.ownd (hU ks k) (iE ks C k d)))):=by
 unfold jg
 grind
def HE(n:Int)(C:LI0)(d:0<=n)(m:n<=60)(i:C.length<=1000000):b_1 (fP 4 [.int n,.lst (C.map D.int)])=aa (.rtO (((bM n.toNat).map (inS C)).map D.bl)):=by
 obtain⟨ρ',e,ks,ds,b,rfl,c,a⟩:=NY (g:=ax 3) (F:=jg 2 (ae 3) (λ_=>aa _)) (fi:=aV (ae 1)) C D.int
  (λpre M=>∃(ks:List Key) (ds:LD) (b:Sl),M=[.im (.int n),.im (.lst (C.map D.int)),.ownd ks ds,b]/\ks.length<=pre.length/\∀k:Int,gJ ks (.inl k)=pre.any λx=>x==k)
  rfl ⟨[],[],.no,rfl,aM _,λ_=>rfl⟩ (by
   rintro pre x post M ex ⟨ks,ds,b,rfl,c,a⟩;have l:pre.length<C.length:=by rw[ex];simp
   refine⟨_,_,rfl,.inl (Tc rfl rfl rfl rfl (by lia)),hU ks _,_,_,rfl,?_,λk=>?_⟩
   .have:=Tb ks (.inl x);rw[aR];show _<=pre.length+1
    lia
   .rw[Ta,a,any_append]
    congr 1
    simp only[gq,any_nil,Bool.or_false]
    by_cases h:x=k
    .subst h;simp
    .rw[decide_eq_false (λq=>h (gy.inj q))];exact(beq_eq_false_iff_ne.mpr h).symm)
 refine ug rfl (ug e ?_);rw[map_map];refine congrArg _ (gH _ _ _ (qR rfl d (by lia)) (by rw[cZ];lia) λj f=>?_);refine gf rfl rfl (ap rfl rfl ?_);show aa _=_;rw[a];rfl
def HF(n:Int)(C:LI0)(b:0<=n)(c:n<=60)(a:C.length<=1000000):m_1 [.int n,.lst (C.map D.int)]=aa (.lst (((bM n.toNat).map (inS C)).map D.bl)):=lx (HE n C b c a)
abbrev rP(ws:LB0):LI0:=((bM ws.length).filter λi=>ws.getD i af).map λ(i:Nat)=>(i:Int)
def vd(ws:LB0)(i:Int):i∈rP ws↔0<=i/\ws.getD i.toNat af=ac:=by
 unfold rP;rw[aJ];constructor
 .rintro⟨j,a,rfl⟩;obtain⟨_,b⟩:=cm.mp a;exact⟨by lia,by exact b⟩
 .rintro⟨d,h⟩;refine⟨i.toNat,cm.mpr ⟨fY.mpr ?_,h⟩,by lia⟩
  by_cases c:i.toNat<ws.length
  .exact c
  .rw[bV,jy (by lia)]at h
   nomatch h
def HG(p:Prt):Bi [p.toD]=aa p.obj:=by
 cases p <;> rfl
variable{es:LOB}{B:LII}
def Cy(h:InN es.length B)(hz:B.length<=100000):rH [.lst (B.map itD),.lst (es.map shD)]=aa (.int (cC (·==aa ac) es B)):=by
 exact dA (dz (aD (ao (bQ (eR B itD _ _ rfl (by lia) λz a=>(dJ rfl (bA (ap (bf rfl rfl (jc (h z a).1 (h z a).2.1)) rfl (oT _ _))) λ_=>rfl))) rfl) (yn (λt=>es.getD t.toNat ab==aa ac) B)))
def Cz(h:InN es.length B)(hz:B.length<=100000):pI [.lst (B.map itD),.lst (es.map shD)]=aa (.int (cC (λe=>!(e==aa af)) es B)):=by
 exact dA (dz (aD (ao (bQ (eR B itD _ _ rfl (by lia) λz a=>(dJ rfl (bA (ap (bf rfl rfl (jc (h z a).1 (h z a).2.1)) rfl (FC _ _))) λ_=>rfl))) rfl) (yn (λt=>!(es.getD t.toNat ab==aa af)) B)))
variable{ws:LB0}
def HH(h:InN es.length B)(c:ws.length=es.length)(hz:B.length<=100000):
  va [.lst (B.map itD),.lst (ws.map D.bl)]=aa (.lst ((B.filter λz=>!(ws.getD z.1.toNat af)).map itD)):=by
 refine lx (congrArg _ (eR B itD _ itD rfl (by lia) λz a=>?_));have b:=h z a;exact dJ rfl (oS (df (bf rfl rfl (jK b.1 (by rw[c];exact b.2.1))) rfl)) λ_=>rfl
def Td(h:InN es.length B)(hz:B.length<=100000):
  pI [.lst ((B.filter λz=>!(ws.getD z.1.toNat af)).map itD),.lst (es.map shD)]=aa (.int (bY (λt=>!(es.getD t.toNat ab==aa af) && !(ws.getD t.toNat af)) B)):=by
 have c:=gV (λz:Int×Int=>!(ws.getD z.1.toNat af)) B;have a:InN es.length (B.filter λz=>!(ws.getD z.1.toNat af)):=λz b=>h z (cm.mp b).1;exact(Cz a (by lia)).trans (congrArg (λz=>aa _) (EM (λt=>!(es.getD t.toNat ab==aa af)) (λt=>!(ws.getD t.toNat af)) B))
def Te(p:Prt)(h:p.Ok es.length)(a:ws.length=es.length):∀m,m=(match p with |.inn _=>rF |.out _=>rK |.least _ _=>rG |.most _ _=>rJ) ->
  m [p.obj,.lst (es.map shD),.lst (ws.map D.bl)]=aa (.bl (p.lost es ws)):=by
 intro m e;subst e
 cases p with
 |inn t=>exact dA (dz (FB (ap (bf rfl rfl (jc h.1 h.2)) rfl (oT _ _)) (bf rfl rfl (jK h.1 (by rw[a];exact h.2)))))
 |out t=>exact dA (dz (ap (bf rfl rfl (jc h.1 h.2)) rfl (oT _ _)))
 |least k B=>exact dA (dz (ap (aD (ao (aD rfl (HH h.1 a h.2)) (ao rfl rfl)) (Td h.1 h.2)) rfl rfl))
 |most k B=>exact dA (dz (ap (aD rfl (Cy h.1 h.2)) rfl rfl))
variable{fo:MF1}{fa:MF2}
def HI(p:Prt)(h:p.Ok es.length)(b:ws.length=es.length)(a:fo M=aa p.obj)(ha:fa M=aa [.lst (es.map shD),.lst (ws.map D.bl)]):
  bd (aL "In" "lost" rF fo fa) (bd (aL "Out" "lost" rK fo fa) (bd (aL "Least" "lost" rG fo fa) (aL "Most" "lost" rJ fo fa))) M=aa (.bl (p.lost es ws)):=by
 have hm:=Te p h b _ rfl
 cases p with
 |inn t=>exact dL ((cw a rfl ha).trans hm)
 |out t=>exact bB (bC a (by decide)) (dL ((cw a rfl ha).trans hm))
 |least k B=>exact bB (bC a (by decide)) (bB (bC a (by decide)) (dL ((cw a rfl ha).trans hm)))
 |most k B=>exact bB (bC a (by decide)) (bB (bC a (by decide)) (bB (bC a (by decide)) ((cw a rfl ha).trans hm)))
def Tf(p:Prt)(h:p.Ok es.length)(a:fo M=aa p.obj)(ha:fa M=aa [.lst (es.map shD)]):
  bd (aL "In" "sure" B1 fo fa) (bd (aL "Out" "sure" Ce fo fa) (bd (aL "Least" "sure" B5 fo fa) (aL "Most" "sure" Ca fo fa))) M=aa (.bl (p.sure es)):=by
 cases p with
 |inn t=>exact dL ((cw a rfl ha).trans (dA (dz (ap (bf rfl rfl (jc h.1 h.2)) rfl (oT _ _)))))
 |out t=>exact bB (bC a (by decide)) (dL ((cw a rfl ha).trans (dA (dz (ap (bf rfl rfl (jc h.1 h.2)) rfl (oT _ _))))))
 |least k B=>exact bB (bC a (by decide)) (bB (bC a (by decide)) (dL ((cw a rfl ha).trans (dA (dz (ap (aD rfl (Cy h.1 h.2)) rfl rfl))))))
 |most k B=>exact bB (bC a (by decide)) (bB (bC a (by decide)) (bB (bC a (by decide)) ((cw a rfl ha).trans (dA (dz (ap (aD rfl (Cz h.1 h.2)) rfl rfl))))))
variable{n:Nat}
def Tg(r:Rul)(h:r.Ok n):m_2 [r.toD]=aa (.lst (r.ps.map Prt.obj)):=
 lx (congrArg _ (gH r.ps Prt.toD Prt.obj rfl (by have:=h.len;lia) λp _=>gf rfl rfl (aD rfl (HG p))))
structure Spr where
 es:LOB
 st:LD
 bs:LD
 gk:List (List Key)
 gd:LD
 ws:List (List Key×LD)
 wt:LD
 mks:D
 tl:List (Str×O)
abbrev lsO(ds:LD):O:=.lst (ds.map .fz)
abbrev wsO(ws:List (List Key×LD)):O:=.dT (ws.map (·.1)) (ws.map λp=>lsO p.2)
nonrec def spN:LSt:=["sheet","steps","bars","guards","watches","waiting","makers"]
nonrec def iH(tl:List (Str×O))(os:List O):O:=.ins "Seeking" (spN++tl.map (·.1)) (os++tl.map (·.2))
abbrev Spr.o(s:Spr):O:=iH s.tl [lsO (s.es.map shD),lsO s.st,lsO s.bs,.dT s.gk (s.gd.map .fz),wsO s.ws,lsO s.wt,.fz s.mks]
variable{l:Addr}{s:Spr}
def jP:aU "Seeking" "sheet" (aH 0) (.deep (.at l s.o)::M)=aa (lsO (s.es.map shD),λx=>.at l (iH s.tl [x,lsO s.st,lsO s.bs,.dT s.gk (s.gd.map .fz),wsO s.ws,lsO s.wt,.fz s.mks])):=rfl
def CA:aU "Seeking" "steps" (aH 0) (.deep (.at l s.o)::M)=aa (lsO s.st,λx=>.at l (iH s.tl [lsO (s.es.map shD),x,lsO s.bs,.dT s.gk (s.gd.map .fz),wsO s.ws,lsO s.wt,.fz s.mks])):=rfl
def CB:aU "Seeking" "bars" (aH 0) (.deep (.at l s.o)::M)=aa (lsO s.bs,λx=>.at l (iH s.tl [lsO (s.es.map shD),lsO s.st,x,.dT s.gk (s.gd.map .fz),wsO s.ws,lsO s.wt,.fz s.mks])):=rfl
def HJ:aU "Seeking" "guards" (aH 0) (.deep (.at l s.o)::M)=aa (.dT s.gk (s.gd.map .fz),λx=>.at l (iH s.tl [lsO (s.es.map shD),lsO s.st,lsO s.bs,x,wsO s.ws,lsO s.wt,.fz s.mks])):=rfl
def ve:aU "Seeking" "watches" (aH 0) (.deep (.at l s.o)::M)=aa (wsO s.ws,λx=>.at l (iH s.tl [lsO (s.es.map shD),lsO s.st,lsO s.bs,.dT s.gk (s.gd.map .fz),x,lsO s.wt,.fz s.mks])):=rfl
def pL:aU "Seeking" "waiting" (aH 0) (.deep (.at l s.o)::M)=aa (lsO s.wt,λx=>.at l (iH s.tl [lsO (s.es.map shD),lsO s.st,lsO s.bs,.dT s.gk (s.gd.map .fz),wsO s.ws,x,.fz s.mks])):=rfl
def Th:aU "Seeking" "makers" (aH 0) (.deep (.at l s.o)::M)=aa (.fz s.mks,λx=>.at l (iH s.tl [lsO (s.es.map shD),lsO s.st,lsO s.bs,.dT s.gk (s.gd.map .fz),wsO s.ws,lsO s.wt,x])):=rfl
variable{p:Xp}{ds:LD}{R:O->O}
def rQ(h:p M=aa (lsO ds,R)):pC p M=aa ds:=by
 unfold pC;rw[h];exact y7 ds
def rR:∀(ds:LD),O.kns (ds.map .fz)=ac
 | []=>by rw[map_nil,O.kns]
 |d::ds=>by rw[bF,O.kns,O.kn,rR ds];rfl
def jm(h:p M=aa (lsO ds,R)):pB p M=aa (.lst ds):=by
 unfold pB lsO at *;rw[h,az,O.kn,rR,if_pos rfl,O.toD,xP]
def kB(h:p M=aa (.fz d,R)):pD p M=aa d:=by
 unfold pD;rw[h];rfl
variable{K:Fl->Prop}
def rS(h:p M=aa (lsO ds,R))(a:f M=aa d)(hz:ds.length<16777216)(k:K (.nx (M.set i (.deep (R (lsO (ds++[d]))))))):wp (kA i p f) M K:=⟨_,by
 unfold kA lsO at *;rw[h,az,a,az];show(if (ds.map O.fz).length<16777216 then aa _ else ab).map _=_;rw[if_pos (by grind),show ds.map O.fz++_=(ds++[d]).map .fz by rw[a8];rfl];rfl,k⟩
variable{ks:List (List Key)}{os:List O}{y:L2.D}
def Ti{k:List Key}(hv:fv M=aa d)(h:p M=aa (.dT ks os,R))(a:fk M=aa y)(b:ku y=aa k)(hn:aT k ks=ab)(hz:ks.length<16777216)
 (q:K (.nx (M.set i (.deep (R (.dT (ks++[k]) (os++[.fz d]))))))):wp (pi i p fk fv) M K:=⟨_,by
 unfold pi;rw[hv,az,h,az,a,az,b,az];show(if aT k ks=ab/\ks.length<16777216 then aa _ else ab).map _=_;rw[if_pos ⟨hn,hz⟩];rfl,q⟩
abbrev gj(k:List Key)(y:D):List (List Key×LD)->List (List Key×LD)
 | []=>[(k,[y])]
 |p::ws=>if p.1=k then (p.1,p.2++[y])::ws else p::gj k y ws
def CC{k:List Key}{y:D}:∀{ws:List (List Key×LD)},aT k (ws.map (·.1))=ab->gj k y ws=ws++[(k,[y])]
 | [],_=>rfl
 |p::ws,h=>by
  rw[bF]at h;unfold aT at h;split at h
  .lia
  .rename_i e;unfold gj;rw[if_neg e]
   cases h':aT k _ with
   |none=>rw[CC h'];rfl
   |some j=>rw[h']at h;cases h
def CD{k:List Key}{y:D}:∀{ws:List (List Key×LD)} {j:Nat},aT k (ws.map (·.1))=aa j->∃p,ws[j]?=aa p/\p.1=k/\gj k y ws=ws.set j (p.1,p.2++[y])
 | [],_,h=>by cases h
 |p::ws,j,h=>by
  rw[bF]at h;unfold aT at h;split at h
  .rename_i e;cases h;refine⟨p,rfl,e,?_⟩;unfold gj
   grind
  .rename_i e
   cases h':aT k _ with
   |none=>rw[h']at h;cases h
   |some i=>
    rw[h']at h;cases h;obtain⟨q,a,b,c⟩:=CD h';refine⟨q,by rw[gU];exact a,b,?_⟩;unfold gj;rw[if_neg e,c];rfl
structure bR(c:Nat)(ws:List (List Key×LD)):Prop where
 ln:ws.length<=c
 al:∀p∈ws,p.2.length<=c
variable{c:Nat}{ws:List (List Key×LD)}
def bR.add(h:bR c ws)(k:List Key)(y:D):bR (c+1) (gj k y ws):=by
 cases a:aT k _ with
 |none=>
  rw[CC a];refine⟨by rw[aR,fX];have:=h.ln;lia,λp e=>?_⟩
  rcases bv.mp e with q |q
  .have:=h.al p q;lia
  .grind
 |some j=>
  obtain⟨p,b,_,d⟩:=CD a;rw[d];refine⟨by rw[ig];have:=h.ln;lia,λq f=>?_⟩
  rcases mem_or_eq_of_mem_set f with z |z
  .have:=h.al q z;lia
  .rw[z];have:=h.al p (dP b)
   grind
def Tj{k:List Key}(h:aT k ks=ab)(hz:ks.length<16777216):(O.dT ks os).apdK k d=aa (.dT (ks++[k]) (os++[.lst [.fz d]])):=by
 unfold O.apdK
 grind
variable{j:Nat}{o2:O}
def Tk{k:List Key}{o1:O}(h:aT k ks=aa j)(a:os[j]?=aa o1)(h2:o1.appd d=aa o2):(O.dT ks os).apdK k d=aa (.dT ks (os.set j o2)):=by
 unfold O.apdK
 grind
def Tl(h:ds.length<16777216):(lsO ds).appd y=aa (lsO (ds++[y])):=by
 unfold lsO O.appd
 grind
def Tn(h:bR c ws)(e:c<16777216)(k:List Key)(y:D):(wsO ws).apdK k y=aa (wsO (gj k y ws)):=by
 unfold wsO
 cases a:aT k _ with
 |none=>
  rw[Tj a (by rw[ay];have:=h.ln;lia),CC a,a8,a8]
  rfl
 |some j=>
  obtain⟨p,b,_,d⟩:=CD a;rw[Tk a (by rw[cM,b];rfl) (Tl (by have:=h.al p (dP b);lia)),d,gX,gX,m9 (x:=p.1) (by grind)]
def To{g:MF1}{k:List Key}(h:p M=aa (wsO ws,R))(b:g M=aa y)(f:ku y=aa k)(e:ae j M=aa d)(ok:bR c ws)(a:c<16777216)(q:K (.nx (M.set i (.deep (R (wsO (gj k d ws))))))):wp (px i j p g) M K:=⟨_,by
 unfold px;rw[h,az,b,az,f,az,e,az,Tn ok a];rfl,q⟩
variable{m:MTf}{ρ1:LS}{o0 o o':O}
def fD{cn a:Str}{f:Xa}(h:M[i]?=aa (.deep (.at l o0)))(hi:o0.isIns cn a=ac)(c:f M=aa (ds,ρ1))(b:ρ1[i]?=aa (.deep (.at l o)))(hm:m l ds o=aa (o',d)):cE i cn a m f M=aa (d,ρ1.set i (.deep (.at l o'))):=by
 unfold cE
 grind
def Tp{cn:Str}(h:fa M=aa ds)(hm:∀l,m l ds (.ins cn [] [])=aa (o,.non)):nj cn m fa M=aa o:=by
 unfold nj;rw[h,az];have a:∃o,∀l,m l ds _=aa (o,.non):=⟨o,hm⟩;rw[dif_pos a];have:=a.choose_spec 0
 grind
abbrev HK(l:Addr)(Q:O->D->Prop)(r:Fl):Prop:=match r with
 |.nx M=>∃o,M[0]?=aa (.deep (.at l o))/\Q o .non
 |.rtS d M=>∃o,M[0]?=aa (.deep (.at l o))/\Q o d
 | _=>False
variable{N:Nat}
def Tq{F:MF3}{Q:O->D->Prop}(h:wp F (uF N l ds o) (HK l Q)):∃o' d,d4 N F l ds o=aa (o',d)/\Q o' d:=by
 obtain⟨r,e,q⟩:=h;unfold d4;rw[e,az]
 cases r with
 |nx M=>obtain⟨o',a,q⟩:=q;exact⟨o',.non,by dsimp only;rw[GU a];rfl,q⟩
 |rtS d M=>obtain⟨o',a,q⟩:=q;exact⟨o',d,by dsimp only;rw[GU a];rfl,q⟩
 | _=>exact q.elim
def fE{F:MF3}(h:wp F (uF N l ds o) (HK l λx y=>x=o'/\y=d)):d4 N F l ds o=aa (o',d):=by
 obtain⟨a,b,e,rfl,rfl⟩:=Tq h;exact e
def jn(h:f M=aa d)(k:K (.rtS d M)):wp (fA f) M K:=⟨_,by unfold fA;rw[h];rfl,k⟩
def gO{cn f:Str}{g:LS->Option O}{x:O}{q:O×(O->O)}(a:g M=aa x)(h:p M=aa q)(b:q.1.setF cn f x=aa o2)(k:K (.nx (M.set i (.deep (q.2 o2))))):wp (eB i cn f p g) M K:=⟨_,by
 unfold eB;rw[a,az,h,az,b];rfl,k⟩
def jo{f:Xe}{ρ':LS}(h:f M=aa (d,ρ'))(k:K (.nx ρ')):wp (dN f) M K:=⟨_,by unfold dN;rw[h];rfl,k⟩
def nu{f:MF2}(h:f M=aa ds):hX f M=aa (lsO ds):=by unfold hX lsO;rw[h];rfl
def rT(h:f M=aa d):jl f M=aa (.fz d):=by unfold jl;rw[h];rfl
variable{ns:LI0}
def Ts(h:f M=aa (.lst (ns.map D.int)))(a:ns.length<4000)(h2:(di ns).length<64):mT f M=aa ((di ns).map D.int):=by
 unfold mT;rw[h,az];show(iG _).bind _=_;rw[yK,az,if_pos ⟨a,h2⟩]
def HL(h:∀x∈ns,0<=x/\x<(n:Int)):(di ns).length<=n:=by
 by_cases c:(di ns).length<=n
 .exact c
 .have d:∀x∈di ns,x∈(bM n).map λ(i:Nat)=>(i:Int):=λx e=>by
   obtain⟨a,b⟩:=h x ((ji x ns).mp e);exact aJ.mpr ⟨x.toNat,fY.mpr (by lia),by lia⟩
  have:=(oW _ _ ((lA ns).imp λh=>Int.ne_of_lt h) d (by rw[ay,cZ];lia)).length_eq;rw[ay,cZ]at this
  lia
def CF(h:f M=aa (.lst ds))(h':M[i]?=aa (.own C))(a:C.length+ds.length<=16777216):kh i (kg f) M=aa (.nx (M.set i (.own (C++ds)))):=by
 unfold kh kg;rw[h,h'];show(if C.length+ds.length<=16777216 then _ else ab)=_;rw[if_pos a]
variable{p:Prt}
def pM(h:p.Ok n):∀x∈nmP p,0<=x/\x<(n:Int):=λx a=>by
 cases p with
 |inn t=>
  have:x=t:=by simpa[nmP]using a
  subst this
  exact h
 |out t=>
  have:x=t:=by simpa[nmP]using a
  subst this
  exact h
 |least k B=>obtain⟨z,hz,rfl⟩:=aJ.mp a;exact⟨(h.1 z hz).1,(h.1 z hz).2.1⟩
 |most k B=>obtain⟨z,hz,rfl⟩:=aJ.mp a;exact⟨(h.1 z hz).1,(h.1 z hz).2.1⟩
abbrev put(es:LOB)(k:Nat)(b:Bool):LOB:=es.set k (aa b)
def b7(es:LOB)(k:Nat)(b:Bool):(put es k b).length=es.length:=ig
def cY(es:LOB){k j:Nat}(b:Bool)(h:j≠k):(put es k b).getD j ab=es.getD j ab:=by
 unfold put;rw[bV,bV,kK (eG h)]
def eU(es:LOB){k:Nat}(b:Bool)(h:k<es.length):(put es k b).getD k ab=aa b:=by
 unfold put;rw[bV,jU h];rfl
variable{es':LOB}
def HM{q:Option Bool->Bool}(h:∀z∈B,q (es'.getD z.1.toNat ab)=q (es.getD z.1.toNat ab)):cC q es' B=cC q es B:=by
 unfold cC;rw[filter_congr h]
def Tt{k:Nat}{b:Bool}(a:p.Ok es.length)(h:(k:Int)∉nmP p):p.sure (put es k b)=p.sure es:=by
 have ne:∀t:Int,0<=t->t∈nmP p->t.toNat≠k:=λt d f e=>by
  grind
 cases p with
 |inn t=>
  have:=ne t a.1 (by simp[nmP]);show((put es k b).getD t.toNat ab==aa ac)=_;rw[cY es b this]
  rfl
 |out t=>
  have:=ne t a.1 (by simp[nmP]);show((put es k b).getD t.toNat ab==aa af)=_;rw[cY es b this]
  rfl
 |least c B=>
  show decide _=decide _
  rw[HM (es:=es) λz hz=>by rw[cY es b (ne z.1 (a.1 z hz).1 (aJ.mpr ⟨z,hz,rfl⟩))]]
 |most c B=>
  show decide _=decide _;rw[HM (es:=es) λz hz=>by rw[cY es b (ne z.1 (a.1 z hz).1 (aJ.mpr ⟨z,hz,rfl⟩))]]
abbrev opn(es:LOB)(t:Int):Bool:=es.getD t.toNat ab==ab
abbrev nmL:Prt->LI0
 |.inn t=>[t]
 |.out t=>[t]
 |.least _ B=>di (B.map (·.1))
 |.most _ B=>di (B.map (·.1))
abbrev gP:Prt->Bool
 |.inn _=>ac
 |.out _=>af
 |.least _ _=>ac
 |.most _ _=>af
def rV(h:p.Ok n)(hn:n<=60):(nmL p).length<64:=by
 cases p with
 |inn t=>show 1<64;decide
 |out t=>show 1<64;decide
 |least k B=>have:=HL (pM h);show(di _).length<64;exact l8 this (by lia)
 |most k B=>have:=HL (pM h);show(di _).length<64;exact l8 this (by lia)
variable{t:Int}
def rW:t∈nmL p↔t∈nmP p:=by
 cases p with
 |inn u=>exact Iff.rfl
 |out u=>exact Iff.rfl
 |least k B=>exact ji t _
 |most k B=>exact ji t _
def HN(a:B.length<=1000)(h2:(di (B.map (·.1))).length<64):uT [.lst (B.map itD)]=aa (.lst ((di (B.map (·.1))).map D.int)):=by
 refine lx (congrArg _ (Ts (bQ ?_) (by rw[ay];lia) h2));rw[map_map];exact gH B itD _ rfl (by lia) λz _=>gf rfl rfl rfl
def HP(p:Prt)(h:p.Ok n)(hn:n<=60)(b:(nmP p).length<=1000)(a:fo M=aa p.obj):
  bd (aL "In" "named" uS fo λ_=>aa []) (bd (aL "Out" "named" uW fo λ_=>aa []) (bd (aL "Least" "named" uU fo λ_=>aa []) (aL "Most" "named" uV fo λ_=>aa []))) M=aa (.lst ((nmL p).map D.int)):=by
 have c:=rV h hn
 cases p with
 |inn t=>exact dL ((cw a rfl rfl).trans rfl)
 |out t=>exact bB (bC a (by decide)) (dL ((cw a rfl rfl).trans rfl))
 |least k B=>
  have e:=HN (by simpa[nmP]using b) c
  exact bB (bC a (by decide)) (bB (bC a (by decide)) (dL ((cw a rfl rfl).trans (dA (dz (aD rfl e))))))
 |most k B=>
  exact bB (bC a (by decide)) (bB (bC a (by decide)) (bB (bC a (by decide)) ((cw a rfl rfl).trans (dA (dz (aD rfl (HN (by simpa[nmP]using b) c)))))))
def Tu(p:Prt)(a:fo M=aa p.obj):
  bd (aL "In" "wants" AZ fo λ_=>aa []) (bd (aL "Out" "wants" Ba fo λ_=>aa []) (bd (aL "Least" "wants" A4 fo λ_=>aa []) (aL "Most" "wants" A7 fo λ_=>aa []))) M=aa (.bl (gP p)):=by
 cases p with
 |inn t=>exact dL ((cw a rfl rfl).trans rfl)
 |out t=>exact bB (bC a (by decide)) (dL ((cw a rfl rfl).trans rfl))
 |least k B=>exact bB (bC a (by decide)) (bB (bC a (by decide)) (dL ((cw a rfl rfl).trans rfl)))
 |most k B=>exact bB (bC a (by decide)) (bB (bC a (by decide)) (bB (bC a (by decide)) ((cw a rfl rfl).trans rfl)))
nonrec def Wss:=List (List Key×LD)
abbrev gm(t:Int)(b:Bool):List Key:=[.inl t,.inl (cond b 1 0)]
abbrev vf(y:D)(ws:Wss)(p:Prt):Wss:=(nmL p).foldl (λws t=>gj (gm t (gP p)) y ws) ws
abbrev nz(y:D)(ps:List Prt)(ws:Wss):Wss:=ps.foldl (vf y) ws
def bR.ts{c:Nat}{b:Bool}{y:D}:∀(ts:LI0) {ws:Wss},bR c ws->bR (c+ts.length) (ts.foldl (λws t=>gj (gm t b) y ws) ws)
 | [],_,h=>h
 |t::ts,ws,h=>by
  have:=bR.ts (b:=b) (y:=y) ts (h.add (gm t b) y)
  grind
def bR.le{a:Nat}{ws:Wss}(h:bR c ws)(b:c<=a):bR a ws:=⟨cN h.ln b,λp d=>cN (h.al p d) b⟩
abbrev PrK(n:Nat)(p:Prt):Prop:=p.Ok n/\(nmP p).length<=1000
def bR.prt{ws:Wss}(h:bR c ws)(a:PrK n p)(hn:n<=60):bR (c+64) (vf y ws p):=by
 have:=rV a.1 hn;exact(bR.ts _ h).le (by lia)
def bR.reg{n:Nat}{y:D}(hn:n<=60):∀{ps:List Prt} {c:Nat} {ws:Wss},(∀p∈ps,PrK n p)->bR c ws->bR (c+64*ps.length) (nz y ps ws)
 | [],_,_,_,h=>h
 |p::ps,c,ws,hp,h=>by
  have:=bR.reg (y:=y) hn (λq a=>hp q (bq _ a)) (h.prt (y:=y) (hp p aF) hn);rw[cy,show c+64*_=c+64+64*ps.length by lia];exact this
abbrev vg(s:Spr)(y:D)(k:List Key)(ps:List Prt):Spr:={s with gk:=s.gk++[k],gd:=s.gd++[.lst (ps.map Prt.obj)],ws:=nz y ps s.ws,wt:=s.wt++[y]}
def Tv(ds:LD)(d:D):ds.map O.fz++[.fz d]=(ds++[d]).map .fz:=by rw[a8];rfl
def HQ{k:List Key}(s:Spr)(ps:List Prt)(z:ku y=aa k)(m:aT k s.gk=ab)(j:s.gk.length<16777216)(h:∀p∈ps,PrK n p)(hn:n<=60)(x:bR c s.ws)(A:c+64*ps.length<16777216)(hz:s.wt.length<16777216)(u:ps.length<=100000):
  rE l [y,.lst (ps.map Prt.obj)] s.o=aa ((vg s y k ps).o,.non):=by
 apply fE;apply ak;refine Ti rfl HJ rfl z m j ?_;rw[Tv];apply ak
 refine dC ps Prt.obj (λpre M=>∃g a,M=[.deep (.at l ({s with gk:=s.gk++[k],gd:=s.gd++_,ws:=nz y pre s.ws}:Spr).o),.im y,.im _,g,a]) rfl ⟨_,_,rfl⟩ ?_ ?_
 .rintro pre p post M ex ⟨g,a,rfl⟩;have e:p∈ps:=by rw[ex];simp
  have b:=h p e;have i:pre.length<ps.length:=by rw[ex];simp
  have f:bR _ (nz y pre s.ws):=bR.reg hn (λq w=>h q (by rw[ex];simp[w])) x;have r:=rV b.1 hn;refine⟨_,rfl,?_⟩;walk_at "nrm"
  refine dC _ D.int (λpr M=>∃a,M=[.deep (.at l ({s with gk:=s.gk++[k],gd:=s.gd++_,ws:=pr.foldl (λws t=>gj (gm t (gP p)) y ws) _}:Spr).o),.im y,.im _,.im p.obj,a]) (eS (HP p b.1 hn b.2 rfl) rfl) ⟨_,rfl⟩ ?_ ?_
  .rintro pr t po M d ⟨a,rfl⟩;have v:pr.length<(nmL p).length:=by rw[d];simp
   refine⟨_,rfl,?_⟩;walk_at "nrm";refine To ve (cS (ao rfl (ao (Tu p rfl) rfl))) rfl rfl (bR.ts pr f) (by lia) ?_;refine⟨.im (.int t),?_⟩;rw[eE];rfl
  .rintro M ⟨a,rfl⟩;refine⟨.im p.obj,a,?_⟩;unfold nz;rw[eE];rfl
 .rintro M ⟨g,a,rfl⟩;exact rS pL rfl hz ⟨_,rfl,rfl,rfl⟩
abbrev mkD(r:Rul):D:=.tup [.int r.hd,.lst (r.ps.map Prt.obj)]
abbrev fF(L:LRu):LRu:=L.filter λr=>r.w != .never
abbrev grd(r:Rul):List Prt:=match r.w with
 |.may=>[.least 1 []]
 |.make=>r.ps++[.out r.hd]
 |.never=>r.ps
structure RuK(n:Nat)(r:Rul):Prop where
 ok:r.Ok n
 nm:∀p∈r.ps,(nmP p).length<=1000
 len:r.ps.length<=1000
variable{r:Rul}
def vh(h:RuK n r):∀p∈grd r,PrK n p:=λp a=>by
 obtain⟨w,hd,ps⟩:=r
 cases w with
 |may=>
  have:p=.least 1 []:=by simpa[grd]using a
  subst this
  exact⟨⟨(λz hz=>nomatch hz),cg _⟩,cg _⟩
 |make=>
  rcases bv.mp (a)with q |q
  .exact⟨h.ok.ps p q,h.nm p q⟩
  .rw[bE.mp q]
   exact⟨h.ok.hd (λz=>by nomatch z),by show 1<=1000;decide⟩
 |never=>exact⟨h.ok.ps p a,h.nm p a⟩
def CG(h:RuK n r):(grd r).length<=1001:=by
 obtain⟨w,hd,ps⟩:=r;have a:ps.length<=1000:=h.len
 cases w with
 |may=>show 1<=1001;decide
 |make=>show(ps++_).length<=1001;rw[aR,fX];lia
 |never=>show ps.length<=1001;lia
def HR(r:Rul)(h:r.Ok n):o_2 [r.toD]=aa (r.ps.map Prt.obj):=
 mW (congrArg _ (gH r.ps Prt.toD Prt.obj rfl (by have:=h.len;lia) λp _=>gf rfl rfl (aD rfl (HG p))))
def Tw(r:Rul)(h:RuK n r):uZ [r.toD]=aa (.lst ((grd r).map Prt.obj)):=by
 apply jM;obtain⟨w,hd,ps⟩:=r
 cases w with
 |may=>
  apply ak;refine aY rfl (λ_=>?_) (λz=>by nomatch z)
  first |exact jk rfl (jN rfl) |grind
 |make=>
  apply ak;refine aY rfl (λz=>by nomatch z) (λ_=>b5 ?_);walk_at "nrm";apply ak
  refine dM (by first |exact uz rfl (HR ⟨.make,hd,ps⟩ h.ok) |exact eb) ?_
  walk_at "nrm";apply ak;refine aY rfl (λ_=>?_) (λz=>by nomatch z);refine fS rfl rfl (by rw[ay];show ps.length<_;have:ps.length<=1000:=h.len;lia) ?_;walk_at "nrm";refine mV rfl (jN ?_);show D.lst _=D.lst ((ps++_).map Prt.obj);rw[a8]
  rfl
 |never=>
  apply ak;refine aY rfl (λz=>by nomatch z) (λ_=>b5 ?_);walk_at "nrm";apply ak
  refine dM (by first |exact uz rfl (HR ⟨.never,hd,ps⟩ h.ok) |exact eb) ?_
  walk_at "nrm";apply ak;refine aY rfl (λz=>by nomatch z) (λ_=>b5 ?_);walk_at "nrm";exact mV rfl (jN rfl)
abbrev rX(i:Nat):D:=.tup [.str "rule",.int i]
abbrev nA(i:Nat):List Key:=[.inr "rule",.inl i]
def Tx(h:nA i=nA j):i=j:=by
 have:=gy.inj (qe (qe h).2).1
 lia
def CH{a:Type}[DecidableEq a]{f:a}:∀{ns:List a},f∉ns->aT f ns=ab
 | [],_=>rfl
 |n::ns,h=>by
  unfold aT;rw[if_neg (λe=>h (by rw[e];exact aF)),CH (λq=>h (bq _ q))];rfl
abbrev sp0(es:LOB)(L:LRu):Spr:=⟨es,[],[],[],[],[],[],.lst ((fF L).map mkD),[]⟩
abbrev lP(s:Spr)(p:Nat×Rul):Spr:=vg s (rX p.1) (nA p.1) (grd p.2)
structure SpK(n i c:Nat)(s:Spr):Prop where
 gk:s.gk=(bM i).map nA
 gl:s.gd.length=i
 ws:bR c s.ws
 wt:s.wt=(bM i).map rX
def SpK.step(h:SpK n i c s)(hr:RuK n r)(hn:n<=60):SpK n (i+1) (c+65000) (lP s (i,r)):=by
 refine⟨?_,?_,?_,?_⟩
 .show s.gk++_=_;rw[range_succ,a8,h.gk];rfl
 .show(s.gd++[_]).length=_;rw[aR,h.gl];rfl
 .have:=bR.reg (y:=rX i) hn (vh hr) h.ws;have a:=CG hr;exact this.le (by lia)
 .show s.wt++_=_;rw[range_succ,a8,h.wt];rfl
def SpK.fresh(h:SpK n i c s):aT (nA i) s.gk=ab:=CH λq=>by
 rw[h.gk]at q;obtain⟨j,a,e⟩:=aJ.mp q;have:=Tx e
 grind
abbrev eV:Nat->LRu->List (Nat×Rul)
 | _,[]=>[]
 |i,r::L=>(i,r)::eV (i+1) L
def HS:∀(i:Nat) (L:LRu),iD i (L.map Rul.toD)=(eV i L).map λp=>D.tup [.int p.1,p.2.toD]
 | _,[]=>rfl
 |i,r::L=>by rw[bF,iD,HS _ L];rfl
def rY:∀(i:Nat) (L:LRu) (j:Nat),(eV i L)[j]?=(L[j]?).map λr=>(i+j,r)
 | _,[],_=>rfl
 |i,r::L,0=>rfl
 |i,r::L,j+1=>by simp only[eV,gU,gU,rY _ L j,show i+1+j=i+(j+1) by lia]
variable{L:LRu}
def HU{pre post:List (Nat×Rul)}{p:Nat×Rul}(h:eV 0 L=pre++p::post):p.1=pre.length/\p.2∈L/\pre.length<L.length:=by
 have a:(eV 0 L)[pre.length]?=aa p:=by rw[h,nN (aM _),Nat.sub_self];rfl
 rw[rY]at a
 cases hr:L[pre.length]? with
 |none=>rw[hr]at a;nomatch a
 |some r=>
  rw[hr]at a;cases a;exact⟨kP _,dP hr,(cU.mp hr).1⟩
abbrev pl0(n:Int)(L:LRu):D:=.tup [.int n,.lst (L.map Rul.toD)]
def Tz(hi:fi M=aa (L.map Rul.toD))(hok:∀r∈L,r.Ok n)(hz:L.length<=1000):
  bp 1 [] fi (ax 0) (mB (m2 gb (mIx (aw 0) (kI 1)) kN)) (bj (ag (mIx (aw 0) (kI 1)) (ag (av m_2 (ag (ae 0) nZ)) nZ))) M=aa ((fF L).map mkD):=by
 refine eR L Rul.toD _ mkD hi (by lia) λr hr=>?_;have a:=Tg r (hok r hr);obtain⟨w,hd,ps⟩:=r
 cases w with
 |never=>exact dJ rfl rfl λz=>by nomatch z
 |make=>exact dJ rfl rfl λ_=>cS (ao rfl (ao (aD rfl a) rfl))
 |may=>exact dJ rfl rfl λ_=>cS (ao rfl (ao (aD rfl a) rfl))
def dD{g:Xa}(h:f M=aa d)(h':g M=aa (ds,M)):bH (mX f) g M=aa (d::ds,M):=by
 unfold bH mX
 grind
def vi{f:MF2}(h:f M=aa [.lst C]):je f M=aa (iD 0 C):=by
 unfold je;rw[h];rfl
abbrev spI(es:LOB)(L:LRu):Spr:=(eV 0 L).foldl lP (sp0 es L)
def SpK.foldT{n:Nat}(hn:n<=60){es:LOB}{L:LRu}(hr:∀r∈L,RuK n r):∀(k:Nat),k<=L.length->SpK n k (65000*k) (((eV 0 L).take k).foldl lP (sp0 es L))
 | 0,_=>⟨rfl,rfl,⟨cg _,λ_ h=>nomatch h⟩,rfl⟩
 |k+1,h=>by
  have a:(eV 0 L)[k]?=aa (k,L[k]):=by rw[rY,cF h];simp
  have:=(SpK.foldT hn (es:=es) hr k (Nat.le_of_succ_le h)).step (hr L[k] (iO h)) hn;rw[take_succ,a,eE,show 65000*_=65000*k+65000 by lia];exact this
def SpK.fold(hn:n<=60)(hr:∀r∈L,RuK n r){pre post:List (Nat×Rul)}{p:Nat×Rul}(h:eV 0 L=pre++p::post):SpK n pre.length (65000*pre.length) (pre.foldl lP (sp0 es L)):=by
 have:=SpK.foldT hn (es:=es) hr pre.length (fj (HU h).2.2)
 grind
def HV:∀(ps:List (Nat×Rul)) (s:Spr),(ps.foldl lP s).tl=s.tl
 | [],_=>rfl
 |p::ps,s=>HV ps _
def TB(h:s.tl=[]):s.o.isIns "Seeking" "take_guard"=ac:=by
 cases s;cases h;rfl
variable{v:Int}
def TC{bars:LD}(hn:n<=60)(hr:∀r∈L,RuK n r)(hz:L.length<=250)
 (k:∀b c,K (.nx [.deep (.at l (spI es L).o),.im (pl0 v L),.im (.lst bars),.im (.lst (es.map shD)),b,c,.no])):
  wp (bZ (je (ag (mIx (aw 1) (kI 1)) nZ)) (cX (bo (ax 5) (bo (ax 4) c9))) (dN (cE 0 "Seeking" "take_guard" rE (bH (mX (bj (ag (kSt "rule") (ag (ae 5) nZ)))) (bH (mX (av uZ (ag (ae 4) nZ))) cx)))))
   [.deep (.at l (sp0 es L).o),.im (pl0 v L),.im (.lst bars),.im (.lst (es.map shD)),.no,.no,.no] K:=by
 refine dC (eV 0 L) (λp=>D.tup [.int p.1,p.2.toD]) (λpre M=>∃b c,M=[.deep (.at l (pre.foldl lP (sp0 es L)).o),.im _,.im _,.im _,b,c,.no]) ?_ ⟨_,_,rfl⟩ ?_ ?_
 .rw[<- HS];exact vi (ao (bf rfl rfl rfl) rfl)
 .rintro pre p post M ex ⟨b,c,rfl⟩;obtain⟨e,f,h⟩:=HU ex;have d:=SpK.fold (es:=es) hn hr ex;have a:=hr p.2 f;have g:=CG a;refine⟨_,rfl,?_⟩;walk_at "nrm";refine jo (fD rfl (TB (HV pre _)) (dD rfl (dD (aD rfl (Tw p.2 a)) rfl)) rfl (HQ _ _ rfl (by rw[e];exact d.fresh) (by rw[d.gk,ay,cZ];lia) (vh a) hn d.ws (by lia) (by rw[d.wt,ay,cZ];lia) (by lia))) ?_;refine⟨.im p.2.toD,.im (.int p.1),?_⟩;rw[eE];rfl
 .rintro M ⟨b,c,rfl⟩;exact k b c
def TD(hn:n<=60)(hr:∀r∈L,RuK n r)(hz:L.length<=250)(l:Addr):Bl l [pl0 v L,.lst [],.lst (es.map shD)] (.ins "Seeking" [] [])=aa ((spI es L).o,.non):=by
 apply fE;apply ak;refine gO (nu rfl) rfl rfl ?_;apply ak;refine gO (nu rfl) rfl rfl ?_;apply ak;refine gO (nu rfl) rfl rfl ?_;apply ak;refine gO rfl rfl rfl ?_;apply ak;refine gO rfl rfl rfl ?_;apply ak;refine gO (nu rfl) rfl rfl ?_;apply ak;refine gO (rT (bQ (Tz (eS (bf rfl rfl rfl) rfl) (λr h=>(hr r h).ok) (by lia)))) rfl rfl ?_;apply ak;refine TC hn hr hz λa b=>?_;refine dC ([]:LN) (λ_=>D.non) (λ_ M=>M=_) rfl rfl ?_ ?_
 .simp_all
 .rintro M rfl;exact⟨_,rfl,rfl,rfl⟩
abbrev hup(es:LOB)(wo:LB0)(r:Rul):Bool:=r.w != .never && (wo.getD r.hd.toNat af && !(r.bodyLost es wo))
def TF(h:r.w≠.never):(r.w != .never)=ac:=by grind
inductive kC(L:LRu)(es:LOB)(a:LB0):LB0->Prop
 |refl:kC L es a a
 |step {b:LB0} {r:Rul}:kC L es a b->r∈L->hup es b r=ac->kC L es a (b.set r.hd.toNat af)
def vj(l:LB0)(k j:Nat):(l.set k af).getD j af=(l.getD j af && !(k==j)):=by grind
variable{a b:LB0}
def kC.len(h:kC L es a b):b.length=a.length:=by
 induction h with
 |refl=>rfl
 |step _ _ _ c=>rw[ig,c]
def kC.sub(h:kC L es a b)(i:Nat):b.getD i af=ac->a.getD i af=ac:=by
 induction h with
 |refl=>exact id
 |step _ _ _ c=>
  grind
variable{wo:LB0}
def HW(h:hup es wo r=ac):r.w≠.never/\wo.getD r.hd.toNat af=ac/\r.bodyLost es wo=af:=by
 unfold hup at h
 grind
variable{le:LB0}
def TH(hr:r.Ok es.length)(g:mS le wo)(h:hup es wo r=ac)(i:le.getD r.hd.toNat af=ac):hup es le r=ac:=by
 obtain⟨a,b,c⟩:=HW h
 have f:r.bodyLost es le=af:=by
  cases q:r.bodyLost es le with
  |false=>rfl
  |true=>
   obtain⟨p,d,e⟩:=any_eq_true.mp q;have:r.bodyLost es wo=ac:=any_eq_true.mpr ⟨p,d,uj (cK.refl es) g (hr.ps p d) e⟩
   grind
 unfold hup
 grind
def TJ{fin:LB0}(hok:∀r∈L,r.Ok es.length)(h:kC L es a b)(l:le.length=a.length)(g:∀i,le.getD i af=ac->a.getD i af=ac)(f:∀i,fin.getD i af=ac->b.getD i af=ac)
 (n:∀r∈L,hup es le r=ac->fin.getD r.hd.toNat af=ac):∀i,le.getD i af=ac->b.getD i af=ac:=by
 induction h with
 |refl=>exact g
 | @step b r m hr j c=>
  have d:=λi q=>by
   have:=f i q;rw[vj]at this
   simpa using (cL _ _▸this).1
  have c:=c d;intro i q;rw[vj,c i q,pY]
  cases e:(r.hd.toNat==i)with
  |false=>rfl
  |true=>
   exfalso;have e:r.hd.toNat=i:=by simpa using e
   subst e;have w:mS le b:=⟨by rw[m.len,l],c⟩;have:=f _ (n r hr (TH (hok r hr) w j q));rw[vj]at this;simp at this
abbrev ct(bs:LB0):Nat:=(bs.filter λb=>b).length
def TK(bs:LB0):ct bs<=bs.length:=gV _ _
def HX:∀(bs:LB0) (k:Nat),bs.getD k af=ac->ct (bs.set k af)+1=ct bs
 | [],k,h=>by simp at h
 |b::bs,0,h=>by
  subst h
  rfl
 |b::bs,k+1,h=>by
  have a:=HX bs k (by exact h)
  cases b with
  |false=>exact a
  |true=>
   show(ct _+1)+1=ct bs+1;rw[a]
def TL(bs:LB0)(k:Nat)(b:Bool):(bs.map D.bl).set k (.bl b)=(bs.set k b).map D.bl:=by rw[gX]
abbrev jp(es:LOB):LB0:=es.map λe=>!(e==aa af)
def TM(hi:fi M=aa (es.map shD))(hz:es.length<=1000):bp 1 [] fi (ax 0) kY (m2 gb (ae 0) (kBl af)) M=aa ((jp es).map D.bl):=by
 unfold jp;rw[<- O4];exact gH es shD _ hi (by lia) λe _=>gf rfl rfl (ap rfl rfl (FC _ _))
abbrev CI:Option Prt->D
 |some p=>p.obj
 |none=>.non
def CJ(ps:List Prt)(h:∀p∈ps,p.Ok es.length)(e:wo.length=es.length):m_5 [.lst (ps.map Prt.obj),.lst (es.map shD),.lst (wo.map D.bl)]=aa (CI (ps.find? λp=>p.lost es wo)):=by
 apply jM;apply ak;refine dC ps Prt.obj (λpre M=>∃c,M=[.im _,.im _,.im _,c]/\∀p∈pre,p.lost es wo=af) rfl ⟨_,rfl,λ_ h=>nomatch h⟩ ?_ ?_
 .rintro pre p post M ex ⟨c,rfl,a⟩;have d:p∈ps:=by grind
  refine⟨_,rfl,?_⟩;walk_at "nrm";refine aY (df (HI p (h p d) e rfl rfl) rfl) (λz=>?_) (λz=>b5 ?_)
  .refine O5 rfl (fB ?_);rw[ex,find?_append,find?_eq_none.mpr λq b=>by rw[a q b];exact bO,find?_cons_of_pos z];rfl
  .refine⟨.im p.obj,rfl,λq b=>?_⟩
   grind
 .rintro M ⟨c,rfl,a⟩;refine eT rfl (fB ?_);rw[find?_eq_none.mpr λq b=>by rw[a q b];grind];rfl
def TN(x:Option Prt):dIs (CI x) .non=aa (.bl x.isNone):=by
 cases x with
 |none=>rfl
 |some p=>cases p <;> rfl
def CK(r:Rul):(r.ps.find? λp=>p.lost es wo).isNone=!(r.bodyLost es wo):=by
 unfold Rul.bodyLost
 grind
abbrev iI(es:LOB)(wo:LB0)(r:Rul):Bool:=wo.getD r.hd.toNat af && !(r.bodyLost es wo)
nonrec def jQ:=LB0×LRu×LRu
abbrev bU(es:LOB)(a:jQ)(r:Rul):jQ:=if iI es a.1 r then (a.1.set r.hd.toNat af,a.2.1++[r],a.2.2) else (a.1,a.2.1,a.2.2++[r])
abbrev dW(es:LOB)(wo:LB0)(us rest:LRu):jQ:=rest.foldl (bU es) (wo,us,[])
abbrev nB(es:LOB):Nat->LB0->LRu->LRu->jQ
 | 0,wo,us,rest=>(wo,us,rest)
 |k+1,wo,us,rest=>if us.length<(dW es wo us rest).2.1.length/\(dW es wo us rest).1.any id=ac then nB es k (dW es wo us rest).1 (dW es wo us rest).2.1 (dW es wo us rest).2.2 else dW es wo us rest
abbrev cb(es:LOB)(ms:LRu):jQ:=nB es (ms.length+1) (jp es) [] ms
structure L3(es:LOB)(ms:LRu)(a:jQ)(q:LRu):Prop where
 len:a.1.length=es.length
 pe:kC ms es (jp es) a.1
 us:∀r∈a.2.1,a.1.getD r.hd.toNat af=af
 pm:(a.2.1++a.2.2++q).Perm ms
variable{ms:LRu}
def L3.step{a:jQ}{q:LRu}(h:L3 es ms a (r::q))(c:∀r∈ms,r.w≠.never):L3 es ms (bU es a r) q:=by
 have hr:r∈ms:=h.pm.mem_iff.mp (by simp);unfold bU
 by_cases b:iI es a.1 r=ac
 .rw[if_pos b];refine⟨by rw[ig];exact h.len,.step h.pe hr ?_,λx d=>?_,?_⟩
  .unfold hup;rw[TF (c r hr),pY];exact b
  .show(a.1.set r.hd.toNat af).getD _ af=af;rw[vj]
   rcases bv.mp d with z |z
   .rw[h.us x z];rfl
   .grind
  .refine List.Perm.trans ?_ h.pm;rw[cG,cG,cG];refine wu _ ?_;show(r::(a.2.2++q)).Perm _;exact perm_middle.symm
 .rw[if_neg b];refine⟨h.len,h.pe,h.us,?_⟩;have:a.2.1++(a.2.2++[r])++q=a.2.1++a.2.2++r::q:=by simp
  rw[this];exact h.pm
def L3.fold{es:LOB}{ms:LRu}(b:∀r∈ms,r.w≠.never):∀{q:LRu} {a:jQ},L3 es ms a q->L3 es ms (q.foldl (bU es) a) []
 | [],_,h=>h
 |r::q,a,h=>L3.fold (a:=bU es a r) b (h.step b)
def rZ{es:LOB}:∀(q:LRu) (a:jQ),(q.foldl (bU es) a).2.1.length+(q.foldl (bU es) a).2.2.length=a.2.1.length+a.2.2.length+q.length/\a.2.1.length<=(q.foldl (bU es) a).2.1.length
 | [],a=>⟨by simp,aM _⟩
 |r::q,a=>by
  obtain⟨b,h2⟩:=rZ q _;rw[fH,b];unfold bU at *
  grind
def HY{es:LOB}:∀(q:LRu) (a:jQ),(q.foldl (bU es) a).2.1.length=a.2.1.length->(q.foldl (bU es) a).1=a.1/\(q.foldl (bU es) a).2.2=a.2.2++q/\∀r∈q,iI es a.1 r=af
 | [],a,_=>⟨rfl,(bP _).symm,λ_ h=>nomatch h⟩
 |r::q,a,h=>by
  rw[fH]at h ⊢;have h2:=(rZ (es:=es) q (bU es a r)).2
  by_cases b:iI es a.1 r=ac
  .exfalso;have e:bU es a r=(a.1.set r.hd.toNat af,a.2.1++[r],a.2.2):=by unfold bU;rw[if_pos b]
   grind
  .have e:bU es a r=(a.1,a.2.1,a.2.2++[r]):=by unfold bU;rw[if_neg b]
   rw[e]at h ⊢;obtain⟨c,d,f⟩:=HY q _ h
   grind
def TQ{bs:LB0}(h:bs.any id=af)(i:Nat):bs.getD i af=af:=by
 rw[bV]
 cases e:bs[i]? with
 |none=>rfl
 |some b=>
  cases b with
  |false=>rfl
  |true=>rw[any_eq_true.mpr ⟨ac,dP e,rfl⟩]at h;nomatch h
def HZ{es:LOB}{ms:LRu}(d:∀r∈ms,r.w≠.never):∀(k:Nat) (wo:LB0) (us rest:LRu),L3 es ms (wo,us,[]) rest->rest.length<k->L3 es ms (nB es k wo us rest) []/\∀r∈ms,iI es (nB es k wo us rest).1 r=af
 | 0,_,_,_,_,h=>absurd h (ik _)
 |k+1,wo,us,rest,h,hk=>by
  have a:=L3.fold d h;have c:=rZ (es:=es) rest (wo,us,[]);unfold nB;split
  .rename_i f;refine HZ d k _ _ _ ⟨a.len,a.pe,a.us,?_⟩ ?_
   .have:=a.pm;rw[bP]at this ⊢;exact this
   .have:(dW es wo us rest).2.1.length+(dW es wo us rest).2.2.length=us.length+0+rest.length:=c.1;lia
  .rename_i f;refine⟨a,λr hr=>?_⟩
   cases ha:(dW es wo us rest).1.any id with
   |false=>unfold iI;rw[TQ ha];rfl
   |true=>
    have e:(dW es wo us rest).2.1.length=us.length:=by
     have:us.length<=(dW es wo us rest).2.1.length:=c.2
     grind
    obtain⟨b,g,i⟩:=HY rest _ e;have b:(dW es wo us rest).1=wo:=b
    rcases bv.mp (h.pm.mem_iff.mpr hr)with z |z
    .rw[bP]at z;rw[b];unfold iI;rw[h.us r z];rfl
    .grind
def H9(a:∀r∈ms,r.w≠.never):L3 es ms (cb es ms) []/\∀r∈ms,iI es (cb es ms).1 r=af:=
 HZ a _ _ _ _ ⟨by unfold jp;rw[ay],.refl,(λ_ h=>nomatch h),by simp⟩ (c6 _)
def TR{x:O}(h:s.tl.length<900):s.o.setF "Seeking" "makers" x=aa (iH s.tl [lsO (s.es.map shD),lsO s.st,lsO s.bs,.dT s.gk (s.gd.map .fz),wsO s.ws,lsO s.wt,x]):=by
 show(if _/\(spN++s.tl.map (·.1)).length<1000 then _ else ab)=_;rw[if_pos ⟨rfl,by rw[aR,ay];show 7+_<_;lia⟩];rfl
def TU(x:s.tl.length<900)(hm:s.mks=.lst (ms.map mkD))(I:s.es.length<=60)(hok:∀r∈ms,r.Ok s.es.length)(Q:∀r∈ms,r.w≠.never)(hz:ms.length<=1000):
  Cr l [] s.o=aa (({s with mks:=.lst (((cb s.es ms).2.1++(cb s.es ms).2.2).map mkD)}:Spr).o,.lst ((cb s.es ms).1.map D.bl)):=by
 have v:(jp s.es).length=s.es.length:=by unfold jp;rw[ay]
 apply fE;apply ak;refine dM (TM (rQ jP) (by lia)) ?_;walk_at "nrm";apply ak;refine dM rfl ?_;walk_at "nrm";apply ak;refine bn ((kB Th).trans (by rw[hm])) ?_;walk_at "nrm";apply ak;refine bn rfl ?_;walk_at "nrm";apply ak;refine qY (λm M=>∃(wo:LB0) (us rest:LRu) (g:Bool) (E G e:Sl),M=[.deep _,.own (wo.map D.bl),.own (us.map mkD),.im (.lst (rest.map mkD)),.im (.bl g),E,G,e]/\wo.length=s.es.length/\(us++rest).Perm ms/\(g=ac->nB s.es m wo us rest=cb s.es ms/\rest.length<m)/\(g=af->(wo,us,rest)=cb s.es ms)) ?_ _ _ _ ⟨jp s.es,[],ms,ac,_,_,_,rfl,v,sQ _,λ_=>⟨rfl,c6 _⟩,λz=>by nomatch z⟩ (by lia)
 .rintro m M ⟨wo,us,rest,g,E,G,e,rfl,B,c,L,J⟩;refine⟨g,rfl,?_,?_⟩
  .rintro rfl;obtain⟨f,u⟩:=L rfl;have y:us.length+rest.length=ms.length:=by have:=c.length_eq;rw[aR]at this;exact this
   apply ak;refine bn (aD rfl (d9 us mkD)) ?_;walk_at "nrm";apply ak;refine dM rfl ?_;walk_at "nrm";apply ak;refine dC rest mkD (λpre M=>∃e,M=[.deep _,.own ((pre.foldl (bU s.es) (wo,us,[])).1.map D.bl),.own ((pre.foldl (bU s.es) (wo,us,[])).2.1.map mkD),.im _,.im _,.im _,.own ((pre.foldl (bU s.es) (wo,us,[])).2.2.map mkD),e]/\(pre.foldl (bU s.es) (wo,us,[])).1.length=s.es.length) rfl ⟨_,rfl,B⟩ ?_ ?_
   .rintro pre r post M ex ⟨e,rfl,b⟩;have j:r∈ms:=c.mem_iff.mp (by rw[ex];simp);have hr:=hok r j;obtain⟨C,U⟩:=hr.hd (Q r j);have N:pre.length<rest.length:=by rw[ex];simp
    have i:(pre.foldl _ (wo,us,[])).2.1.length+(pre.foldl _ (wo,us,[])).2.2.length=us.length+0+pre.length:=(rZ (es:=s.es) pre _).1;generalize h:pre.foldl _ _=A at *;refine⟨_,rfl,?_⟩;walk_at "nrm"
    have x:(dB (bI (mIx (aw 1) (mIx (aw 7) (kI 0)))) (mB (m2 dIs (av m_5 (ag (mIx (aw 7) (kI 1)) (ag (pB @9) (ag (cD 1) nZ)))) kN))) [.deep (.at l s.o),.own (A.1.map D.bl),.own (A.2.1.map mkD),.im (.lst (rest.map mkD)),.im (.bl ac),.im (.int us.length),.own (A.2.2.map mkD),.im (mkD r)]=aa (iI s.es A.1 r):=by
     unfold iI;rw[<- CK];exact jI (df (bf rfl (bf rfl rfl rfl) (jK C (by lia))) rfl) (bA (ap (aD (ao (bf rfl rfl rfl) (ao (jm jP) (ao rfl rfl))) (CJ r.ps hr.ps b)) rfl (TN _)))
    refine aY x (λz=>?_) (λz=>?_)
    .apply ak;refine oX rfl (bf rfl rfl rfl) rfl C (by rw[ay];lia) ?_;walk_at "nrm";refine fS rfl rfl (by rw[ay];lia) ?_;refine⟨.im (mkD r),?_,?_⟩
     .rw[eE,h];show _=[_,Sl.own ((bU s.es A r).1.map D.bl),.own ((bU s.es A r).2.1.map mkD),_,_,_,.own ((bU s.es A r).2.2.map mkD),_];unfold bU;rw[if_pos z,<- TL,a8];rfl
     .rw[eE,h];show(bU s.es A r).1.length=_;unfold bU;rw[if_pos z,ig];exact b
    .refine fS rfl rfl (by rw[ay];lia) ?_;have H:¬iI s.es A.1 r=ac:=by rw[z];exact bO
     refine⟨.im (mkD r),?_,?_⟩
     .rw[eE,h];show _=[_,Sl.own ((bU s.es A r).1.map D.bl),.own ((bU s.es A r).2.1.map mkD),_,_,_,.own ((bU s.es A r).2.2.map mkD),_];unfold bU;rw[if_neg H,a8];rfl
     .rw[eE,h];show(bU s.es A r).1.length=_;unfold bU;rw[if_neg H];exact b
   .rintro M ⟨e,rfl,b⟩;have i:(dW s.es wo us rest).2.1.length+(dW s.es wo us rest).2.2.length=us.length+0+rest.length:=(rZ rest _).1;show wp _ [.deep _,.own ((dW s.es wo us rest).1.map D.bl),.own ((dW s.es wo us rest).2.1.map mkD),.im _,.im _,.im _,.own ((dW s.es wo us rest).2.2.map mkD),e] _;replace b:(dW s.es wo us rest).1.length=s.es.length:=b
    have d:((dW s.es wo us rest).2.1++(dW s.es wo us rest).2.2).Perm ms:=by
     have gen:∀(q:LRu) a,((q.foldl (bU s.es) a).2.1++(q.foldl (bU s.es) a).2.2).Perm (a.2.1++a.2.2++q):=by
      intro q
      induction q with
      |nil=>intro a;simp
      |cons r q T=>
       intro a;refine(T _).trans ?_;unfold bU;split
       .show(a.2.1++[r]++a.2.2++q).Perm _;rw[cG,cG,cG];refine wu _ ?_;show(r::(a.2.2++q)).Perm _;exact perm_middle.symm
       .show(a.2.1++_++q).Perm _;rw[show a.2.1++_++q=a.2.1++a.2.2++r::q by simp]
     refine(gen rest _).trans ?_;rw[bP];exact c
    cases m with
    |zero=>exact absurd u (ik _)
    |succ m=>
     unfold nB at f;generalize h:dW s.es wo us rest=A at *;apply ak;refine bn rfl ?_;walk_at "nrm";refine bn (jJ (ap (aD rfl (d9 A.2.1 mkD)) rfl mU) (aD rfl (Of A.1))) ?_
     by_cases n:us.length<A.2.1.length/\A.1.any id=ac
     .rw[if_pos n]at f;have p:(decide ((us.length:Int)<A.2.1.length) && A.1.any id)=ac:=by rw[n.2,decide_eq_true (by lia)];rfl
      rw[p];exact⟨m,c6 _,A.1,A.2.1,A.2.2,ac,_,_,_,rfl,b,d,λ_=>⟨f,by lia⟩,λz=>by nomatch z⟩
     .rw[if_neg n]at f
      have p:(decide ((us.length:Int)<A.2.1.length) && A.1.any id)=af:=by
       cases ha:A.1.any id with
       |false=>exact Bool.and_false _
       |true=>
        have:¬us.length<A.2.1.length:=λq=>n ⟨q,ha⟩;rw[decide_eq_false (by lia)];rfl
      rw[p];exact⟨0,qf _,A.1,A.2.1,A.2.2,af,_,_,_,rfl,b,d,(λz=>by nomatch z),λ_=>f⟩
  .rintro rfl;have y:us.length+rest.length=ms.length:=by have:=c.length_eq;rw[aR]at this;exact this
   rw[<- (J rfl)];apply ak;refine gO (rT (bQ (Cw rfl rfl (by rw[ay,ay];lia)))) rfl (TR x) ?_;rw[<- a8];exact jn rfl ⟨_,rfl,rfl,rfl⟩
abbrev prD(z:Int×Bool):D:=.tup [.int z.1,.bl z.2]
def CL(es:LOB)(t:Int):dIs (shD (es.getD t.toNat ab)) .non=aa (.bl (opn es t)):=by
 unfold opn
 cases es.getD t.toNat ab with
 |none=>rfl
 |some b=>cases b <;> rfl
abbrev wt(B:LII)(j:Int):Int:=((B.filter λz=>z.1==j).map (·.2)).sum
abbrev kW(W:LII):List Key:=W.map λz=>.inl z.1
abbrev xW(W:LII):LD:=W.map λz=>.int z.2
abbrev nC(W:LII)(j:Int):Int:=((W.find? λz=>z.1==j).map (·.2)).getD 0
abbrev upW(W:LII)(j v:Int):LII:=if W.any (λz=>z.1==j) then W.map (λz=>if z.1=j then (z.1,v) else z) else W++[(j,v)]
def Ia(W:LII)(j:Int):gJ (kW W) (.inl j)=W.any λz=>z.1==j:=by
 unfold gJ kW;rw[any_map]
 congr 1
 funext z;exact jT.mpr (by simp)
def TV(W:LII)(j v:Int):hU (kW W) (.inl j)=kW (upW W j v):=by
 unfold hU upW;rw[Ia];split
 .unfold kW;rw[map_map];refine map_congr_left λz _=>?_
  grind
 .unfold kW
  grind
def TW(W:LII)(j v:Int):iE (kW W) (xW W) (.inl j) (.int v)=xW (upW W j v):=by
 unfold iE upW;rw[Ia];split
 .rename_i a;clear a;unfold kW xW
  induction W with
  |nil=>rfl
  |cons z W b=>
   rw[bF,bF,sN,b,bF,bF]
   grind
 .unfold xW
  grind
def Ib(W:LII)(j:Int):gL (kW W) (xW W) (.inl j)=(W.find? λz=>z.1==j).map λz=>D.int z.2:=by
 unfold gL kW xW
 induction W with
 |nil=>rfl
 |cons z W a=>
  grind
def Ic(W:LII)(j:Int):(gL (kW W) (xW W) (.inl j)).getD (.int 0)=.int (nC W j):=by
 rw[Ib];unfold nC
 cases (W.find? λz=>z.1==j) <;> rfl
abbrev vm(W:LII)(z:Int×Int):LII:=upW W z.1 (nC W z.1+z.2)
abbrev wts(B:LII):LII:=B.foldl vm []
structure WOk(W B:LII):Prop where
 nd:(W.map (·.1)).Nodup
 ks:∀j,j∈W.map (·.1)↔j∈B.map (·.1)
 vs:∀z∈W,z.2=wt B z.1
 ln:W.length<=B.length
def Ie(B:LII)(z:Int×Int)(j:Int):wt (B++[z]) j=wt B j+if z.1=j then z.2 else 0:=by
 unfold wt;rw[kL,a8,sum_append]
 congr 1
 by_cases h:z.1=j
 .rw[if_pos h,p7 (by simp[h])];simp
 .rw[if_neg h,filter_cons_of_neg (by simp[h])];rfl
def CM{j:Int}(h:j∉B.map (·.1)):wt B j=0:=by
 unfold wt
 rw[filter_eq_nil_iff.mpr λz hz=>by
  simp only[beq_iff_eq]
  grind]
 rfl
def WOk.get{W B:LII}(h:WOk W B)(j:Int):nC W j=wt B j:=by
 unfold nC
 cases e:W.find? _ with
 |none=>
  have hn:j∉W.map (·.1):=λq=>by
   grind
  rw[CM λq=>hn ((h.ks j).mpr q)]
  rfl
 |some z=>
  have a:z.1=j:=by grind
  show z.2=_;rw[h.vs z (wj e),a]
def WOk.step{W B:LII}(h:WOk W B)(z:Int×Int):WOk (vm W z) (B++[z]):=by
 unfold vm upW;rw[h.get]
 by_cases d:W.any (λy=>y.1==z.1)=ac
 .rw[if_pos d]
  have f:(W.map λy=>if y.1=z.1 then (y.1,wt B z.1+z.2) else y).map (·.1)=W.map (·.1):=by
   rw[map_map];refine map_congr_left λy _=>?_;show(if y.1=z.1 then _ else y).1=_
   split <;> rfl
  refine⟨by rw[f];exact h.nd,λj=>?_,λy c=>?_,by rw[ay,aR];have:=h.ln;lia⟩
  .rw[f,h.ks j,a8,bv];refine⟨.inl,λq=>q.elim id λq=>?_⟩;obtain⟨y,c,e⟩:=any_eq_true.mp d;have g:j=z.1:=by simpa using q
   rw[g,<- (beq_iff_eq.mp e)];exact(h.ks _).mp (aJ.mpr ⟨y,c,rfl⟩)
  .obtain⟨x,l,ex⟩:=aJ.mp c;rw[Ie]
   by_cases e:x.1=z.1
   .rw[if_pos e]at ex;rw[<- ex,if_pos e.symm,e]
   .rw[if_neg e]at ex;rw[<- ex,if_neg λq=>e q.symm,h.vs x l]
    lia
 .rw[if_neg d]
  have hn : z.1∉W.map (·.1):=λq=>d (by
   obtain⟨y,c,e⟩:=aJ.mp q;exact any_eq_true.mpr ⟨y,c,by simp[e]⟩)
  refine⟨?_,λj=>?_,λy c=>?_,by rw[aR,aR];have:=h.ln;show _+1<=_+1;lia⟩
  .rw[a8];refine e8.mpr ⟨h.nd,by simp,λa ha b i=>?_⟩;have:b=z.1:=by simpa using i
   rw[this];exact λq=>hn (q▸ha)
  .rw[a8,a8,bv,bv,h.ks j];rfl
  .rw[Ie]
   rcases bv.mp c with q |q
   .have ne:z.1≠y.1:=λe=>hn (e▸aJ.mpr ⟨y,q,rfl⟩);rw[if_neg ne,h.vs y q]
    lia
   .have:y=(z.1,wt B z.1+z.2):=by simpa using q
    rw[this,if_pos rfl]
def pN(B:LII):WOk (wts B) B:=by
 have go:∀(post pre W:List _),WOk W pre->WOk (post.foldl vm W) (pre++post):=by
  intro post
  induction post with
  |nil=>intro pre W h;rw[bP];exact h
  |cons z post a=>
   intro pre W h;have:=a _ _ (h.step z);rw[cG]at this;exact this
 exact go B [] [] ⟨ij,λ_=>Iff.rfl,λz h=>(dQ h).elim,aM _⟩
def Ig(B:LII)(g:B.length<=100000):u8 [.lst (B.map itD)]=aa (.kd (kW (wts B)) (xW (wts B))):=by
 apply jM;apply ak;refine Gb rfl ?_;apply ak;refine dC B itD (λpre M=>∃a b,M=[.im _,.ownd (kW (wts pre)) (xW (wts pre)),a,b]) rfl ⟨_,_,rfl⟩ ?_ ?_
 .rintro pre z post M e ⟨a,b,rfl⟩;refine⟨_,rfl,?_⟩;show wp _ [.im _,.ownd _ _,.im _,.im _] _;have h:pre.length<=B.length:=by rw[e,aR];lia
  have f:=(pN pre).ln
  have d:wts (pre++[z])=upW (wts pre) z.1 (nC (wts pre) z.1+z.2):=by
   unfold wts;rw[eE];rfl
  rw[d];generalize wts pre=W at f
  have c:o9 1 (ae 2) (kI 0) [.im (.lst (B.map itD)),.ownd (kW W) (xW W),.im (.int z.1),.im (.int z.2)]=aa (.int (nC W z.1)):=by
   show aa ((gL _ _ _).getD _)=_;rw[Ic]
  refine Gb (o:=.nx [.im _,.ownd _ _,.im (.int z.1),.im (.int z.2)]) ?_ ⟨_,_,rfl⟩;unfold jg;rw[ap c rfl gh,az];show(if (kW W).length<16777216 then aa (Fl.nx [.im _,.ownd _ _,.im _,.im _]) else ab)=_;rw[if_pos (by unfold kW;rw[ay];lia),TV W z.1 _,TW]
 .rintro M ⟨a,b,rfl⟩;exact eT rfl (fB rfl)
abbrev opI(es:LOB)(B:LII):LII:=B.filter λz=>opn es z.1
abbrev hv(es:LOB)(B:LII)(lack:Int):LI0:=((wts (opI es B)).filter λz=>decide (z.2≥lack)).map (·.1)
def Ih(h:InN es.length B)(e:B.length<=100000)(lack:Int):vc [.lst (B.map itD),.lst (es.map shD),.int lack]=aa (.lst ((hv es B lack).map D.int)):=by
 have d:(opI es B).length<=B.length:=gV _ _;have ok:=pN (opI es B);have c:=ok.ln;apply jM;apply ak;refine bn (aD (ao (bQ (ds:=(opI es B).map itD) ?_) rfl) (Ig _ (by lia))) ?_
 .refine eR B itD _ itD rfl (by lia) λz hz=>?_;have a:=h z hz;exact dJ rfl (bA (ap (bf rfl (bf rfl rfl rfl) (jc a.1 a.2.1)) rfl (CL es z.1))) λ_=>rfl
 generalize b:wts _=W at ok c;refine jk ?_ (jN rfl);unfold hv;rw[b,map_map];refine eR W (λz=>D.int z.1) _ _ ?_ (by lia) λz hz=>?_
 .show aa _=_;unfold kW;rw[map_map];rfl
 .refine dJ rfl (bA (ap ?_ rfl Gf)) λ_=>rfl;show gL _ _ _=_;rw[Ib,GJ W ok.nd z hz];rfl
abbrev tps(es:LOB):Prt->List (Int×Bool)
 |.inn t=>if opn es t then [(t,ac)] else []
 |.out t=>if opn es t then [(t,af)] else []
 |.least k B=>(hv es B (k-cC (·==aa ac) es B)).map λt=>(t,ac)
 |.most k B=>(hv es B (cC (λe=>!(e==aa af)) es B-k)).map λt=>(t,af)
def vn(lack:Int):(hv es B lack).length<=B.length:=by
 unfold hv;rw[ay];have a:=gV (λz:Int×Int=>decide (z.2≥lack)) (wts (opI es B));have h2:=(pN (opI es B)).ln;have b:(opI es B).length<=B.length:=gV _ _
 lia
def TX(p:Prt)(h:p.Ok es.length)(a:fo M=aa p.obj)(ha:fa M=aa [.lst (es.map shD)]):
  bd (aL "In" "tips" B3 fo fa) (bd (aL "Out" "tips" Cg fo fa) (bd (aL "Least" "tips" B8 fo fa) (aL "Most" "tips" Cc fo fa))) M=aa (.lst ((tps es p).map prD)):=by
 cases p with
 |inn t=>
  refine dL ((cw a rfl ha).trans (dA (dz (lE (bA (ap (bf rfl rfl (jc h.1 h.2)) rfl (CL es t))) (λe=>?_) λe=>?_))))
  .show _=aa (D.lst ((if opn es t then _ else []).map prD));rw[if_pos e];rfl
  .show _=aa (D.lst ((if opn es t then _ else []).map prD));rw[if_neg (by grind)]
   rfl
 |out t=>
  refine bB (bC a (by decide)) (dL ((cw a rfl ha).trans (dA (dz (lE (bA (ap (bf rfl rfl (jc h.1 h.2)) rfl (CL es t))) (λe=>?_) λe=>?_)))))
  .show _=aa (D.lst ((if opn es t then _ else []).map prD));rw[if_pos e];rfl
  .show _=aa (D.lst ((if opn es t then _ else []).map prD));rw[if_neg (by grind)]
   rfl
 |least k B=>
  have b:=vn (es:=es) (B:=B) (k-cC (·==aa ac) es B);have h2:=h.2;refine bB (bC a (by decide)) (bB (bC a (by decide)) (dL ((cw a rfl ha).trans ?_)));apply jM;apply ak;refine bn (ap rfl (aD rfl (Cy h.1 h.2)) lG) ?_;refine jk ?_ (jN rfl);show _=aa (((hv es B _).map λt=>_).map prD);rw[map_map]
  exact gH _ D.int _ (eS (aD rfl (Ih h.1 h.2 _)) rfl) (by lia) λt _=>gf rfl rfl rfl
 |most k B=>
  have b:=vn (es:=es) (B:=B) (cC (λe=>!(e==aa af)) es B-k);have h2:=h.2;refine bB (bC a (by decide)) (bB (bC a (by decide)) (bB (bC a (by decide)) ((cw a rfl ha).trans ?_)));apply jM;apply ak;refine bn (ap (aD rfl (Cz h.1 h.2)) rfl lG) ?_;refine jk ?_ (jN rfl);show _=aa (((hv es B _).map λt=>_).map prD);rw[map_map];exact gH _ D.int _ (eS (aD rfl (Ih h.1 h.2 _)) rfl) (by lia) λt _=>gf rfl rfl rfl
abbrev neg(z:Int×Bool):Int×Bool:=(z.1,!z.2)
abbrev pnx(es:LOB)(p:Prt):Option (List (Int×Bool))->List (Int×Bool)
 |none=>tps es p
 |some l=>l.filter λz=>decide (z∈tps es p)
abbrev pst(es:LOB)(a:Option (List (Int×Bool)))(p:Prt):Option (List (Int×Bool)):=if p.sure es then a else aa (pnx es p a)
abbrev r6:Option (List (Int×Bool))->D
 |none=>.non
 |some l=>.lst (l.map prD)
def Ii(es:LOB):∀G:List Prt,G.foldl (pst es) (aa [])=aa []
 | []=>rfl
 |p::G=>by
  have:pst es (aa []) p=aa []:=by unfold pst;split <;> rfl
  rw[fH,this];exact Ii es G
def TY(h:p.Ok es.length):(tps es p).length<=100000:=by
 cases p with
 |inn t=>
  show(if opn es t then _ else []).length<=100000;split
  .exact(by decide:1<=100000)
  .exact cg _
 |out t=>
  show(if opn es t then _ else []).length<=100000;split
  .exact(by decide:1<=100000)
  .exact cg _
 |least k B=>unfold tps;rw[ay];exact cN (vn _) h.2
 |most k B=>unfold tps;rw[ay];exact cN (vn _) h.2
def Ij(x:Int×Bool)(l:List (Int×Bool)):fR (prD x) (.lst (l.map prD))=aa (.bl (decide (x∈l))):=by
 have e:∀l:List _,dh (prD x) (l.map prD)=aa (decide (x∈l)):=by
  intro l
  induction l with
  |nil=>rfl
  |cons z l a=>
   show((deq 19 _ _).bind λb=>(dh _ _).map λr=>b || r)=_;rw[show deq 19 _ _=aa (z.1==x.1 && (z.2==x.2 && ac))from rfl,a];show aa _=_
   congr 1
   grind
 show((dh _ _).map D.bl)=_
 grind
abbrev Ik:Option (List (Int×Bool))->LD ⊕ D
 |none=>.inr .non
 |some l=>.inl (l.map prD)
abbrev prs(G:List Prt)(es:LOB):Option (List (Int×Bool)):=(G.foldl (pst es) ab).map λl=>l.map neg
abbrev kRN(x:LD ⊕ D):Fl->Prop
 |.rtO ds=>x=.inl ds
 |.rt d=>d.scalar=ac/\x=.inr d
 | _=>False
def TZ{F:MF3}{x:LD ⊕ D}(h:wp F (fP N ds) (kRN x)):zd N F ds=aa x:=by
 obtain⟨r,e,q⟩:=h;show(F _).bind G0=aa x;rw[e,az]
 cases r with
 |rtO us=>rw[show x=.inl us from q];rfl
 |rt d=>
  obtain⟨a,b⟩:=q;rw[b]
  exact if_pos a
 | _=>exact q.elim
def T0(G:List Prt)(x:∀p∈G,p.Ok es.length):Ci [.lst (G.map Prt.obj),.lst (es.map shD)]=aa (Ik (prs G es)):=by
 apply TZ;generalize m:D.lst _=q;apply ak;refine bn rfl ?_;apply ak;refine dC G Prt.obj (λpre M=>∃h i,M=[.im q,.im _,.im (r6 (pre.foldl (pst es) ab)),h,i]/\∀l,pre.foldl (pst es) ab=aa l->l.length<=100000) (by subst m;rfl) ⟨_,_,rfl,λl e=>by nomatch e⟩ ?_ ?_
 .rintro pre p post M u ⟨h,i,rfl,c⟩;have n:=x p (by rw[u];simp);have b:G.foldl (pst es) ab=post.foldl (pst es) (pst es (pre.foldl (pst es) ab) p):=by rw[u,eE,fH]
  rw[eE,fH,foldl_nil];generalize pre.foldl _ ab=a at c b;refine⟨_,rfl,?_⟩;refine aY (oS (df (Tf p n rfl rfl) rfl)) (λe=>?_) λe=>b5 ?_
  .rw[Bool.not_eq_true']at e;have f:pst es a p=aa (pnx es p a):=by unfold pst;rw[if_neg (by rw[e];exact bO)]
   apply ak;refine bn (TX p n rfl rfl) ?_;apply ak
   have v:(vIf (mB (m2 dIs (ae 2) kN)) (ae 4) (aO (bp 1 [4] (aV (ae 2)) (ax 0) (mB (m2 fR (ae 0) (ae 1))) (ae 0)))) [.im q,.im (.lst (es.map shD)),.im (r6 a),.im p.obj,.im (.lst ((tps es p).map prD))]=aa (r6 (pst es a p))/\∀l,pst es a p=aa l->l.length<=100000:=by
    rw[f]
    cases a with
    |none=>exact⟨rfl,λl e=>by cases e;exact(TY n)⟩
    |some w=>
     have r:=c w rfl;refine⟨lE rfl (λe=>by nomatch e) λ_=>bQ (eR w prD _ prD rfl (by lia) λz _=>dJ rfl (bA (ap rfl rfl (Ij z _))) λ_=>rfl),λl e=>?_⟩;cases e;exact cN (gV _ _) r
   refine bn v.1 ?_;obtain⟨g,j⟩:∃g,pst es a p=aa g:=⟨_,f⟩;have d:=v.2;rw[j]at b d ⊢
   cases g with
   |nil=>
    refine aY rfl (λ_=>?_) λe=>by nomatch e
    refine jk rfl (?_);unfold prs;rw[b,Ii]
    rfl
   |cons z g=>
    exact aY rfl (λe=>by nomatch e) λ_=>b5 ⟨_,_,rfl,d⟩
  .rw[Bool.not_eq_false']at e;have f:pst es a p=a:=by unfold pst;rw[if_pos e]
   rw[f];exact⟨_,_,rfl,c⟩
 .rintro M ⟨h,i,rfl,c⟩;unfold prs;generalize G.foldl _ ab=a at c;apply ak
  cases a with
  |none=>
   exact aY rfl (λ_=>(eT rfl ⟨rfl,rfl⟩)) λe=>by nomatch e
  |some l=>
   have r:=c l rfl;refine aY rfl (λe=>by nomatch e) λ_=>b5 ?_;refine jk ?_ rfl;rw[map_map];exact gH l prD _ rfl (by lia) λz _=>gf rfl rfl rfl
def iJ(h:opn es t=ac):es.getD t.toNat ab=ab:=by simpa[opn]using h
def Il(h:opn es t=ac):wt (opI es B) t=wt B t:=by
 unfold wt opI;rw[filter_filter]
 grind
def vp{lack:Int}:t∈hv es B lack↔opn es t=ac/\t∈B.map (·.1)/\wt B t≥lack:=by
 have ok:=pN (opI es B);constructor
 .intro h;obtain⟨z,hz,rfl⟩:=aJ.mp h;obtain⟨b,h2⟩:=cm.mp hz;have h2:=of_decide_eq_true h2;obtain⟨y,c,a⟩:=aJ.mp ((ok.ks z.1).mp (aJ.mpr ⟨z,b,rfl⟩));obtain⟨g,d⟩:=cm.mp c;rw[a]at d;refine⟨d,aJ.mpr ⟨y,g,a⟩,?_⟩;rw[<- Il d,<- ok.vs z b];exact h2
 .rintro⟨b,h2,f⟩;obtain⟨y,c,a⟩:=aJ.mp h2;obtain⟨z,hz,e⟩:=aJ.mp ((ok.ks t).mpr (aJ.mpr ⟨y,cm.mpr ⟨c,by rw[a];exact b⟩,a⟩));refine aJ.mpr ⟨z,cm.mpr ⟨hz,decide_eq_true ?_⟩,e⟩;rw[ok.vs z hz,e,Il b];exact f
def Im(es:LOB)(B:LII)(lack:Int):(hv es B lack).Nodup:=by
 unfold hv;exact wn ((nQ (p:=λz:Int×Int=>decide _)).map (·.1)) (pN _).nd
def CN(z:Int×Int)(B:LII)(t:Int):wt (z::B) t=(if z.1=t then z.2 else 0)+wt B t:=by
 unfold wt
 grind
def vq(q:Option Bool->Bool)(es:LOB)(z:Int×Int)(B:LII):cC q es (z::B)=(if q (es.getD z.1.toNat ab) then z.2 else 0)+cC q es B:=by
 unfold cC
 grind
def CO(h:InN n B)(t:Int):0<=wt B t:=by
 induction B with
 |nil=>exact Int.le_refl _
 |cons z B b=>
  have c:=h z aF;have h2:=b λy a=>h y (bq _ a);rw[CN]
  grind
def lC{j:Int}{b:Bool}(t0:0<=t)(t1:t<(es.length:Int))(a:0<=j):(put es t.toNat b).getD j.toNat ab=if j=t then aa b else es.getD j.toNat ab:=by
 by_cases e:j=t
 .rw[if_pos e,e];exact eU es b (by lia)
 .rw[if_neg e];exact cY es b (by lia)
def vt(h:InN es.length B)(t0:0<=t)(t1:t<(es.length:Int))(a:opn es t=ac)(b:Bool):cC (·==aa ac) (put es t.toNat b) B=cC (·==aa ac) es B+if b then wt B t else 0:=by
 induction B with
 |nil=>cases b <;> rfl
 |cons z B d=>
  rw[vq,vq,CN,(d λy c=>h y (bq _ c)),lC t0 t1 (h z aF).1]
  by_cases e:z.1=t
  .rw[if_pos e,if_pos e,e,iJ a]
   cases b with
   |true=>
    show z.2+(cC _ es B+wt B t)=0+cC _ es B+(z.2+wt B t)
    lia
   |false=>
    show 0+(cC _ es B+0)=0+cC _ es B+0
    lia
  .rw[if_neg e,if_neg e]
   split <;> split <;> lia
def vv(h:InN es.length B)(t0:0<=t)(t1:t<(es.length:Int))(a:opn es t=ac)(b:Bool):cC (λe=>!(e==aa af)) (put es t.toNat b) B=cC (λe=>!(e==aa af)) es B-if b then 0 else wt B t:=by
 induction B with
 |nil=>cases b <;> rfl
 |cons z B d=>
  rw[vq,vq,CN,(d λy c=>h y (bq _ c)),lC t0 t1 (h z aF).1]
  by_cases e:z.1=t
  .rw[if_pos e,if_pos e,e,iJ a]
   cases b with
   |true=>
    show z.2+(cC _ es B-0)=z.2+cC _ es B-0
    lia
   |false=>
    show 0+(cC _ es B-wt B t)=z.2+cC _ es B-(z.2+wt B t)
    lia
  .rw[if_neg e,if_neg e]
   split <;> split <;> lia
def CP(f:p.Ok es.length)(c:p.sure es=af)(t:Int)(b:Bool):(t,b)∈tps es p↔(0<=t/\t<(es.length:Int))/\opn es t=ac/\p.sure (put es t.toNat b)=ac:=by
 cases p with
 |inn t0=>
  obtain⟨g,j⟩:=f;show _∈(if opn es t0 then _ else [])↔_
  have es':0<=t->t<_->(Prt.sure _ (.inn t0)=ac↔(if t0=t then aa b else es.getD t0.toNat ab)=aa ac):=λx y=>by
   rw[<- lC x y g];exact beq_iff_eq
  have c:¬es.getD t0.toNat ab=aa ac:=λq=>by
   have:(es.getD t0.toNat ab==aa ac)=af:=c
   grind
  grind
 |out t0=>
  obtain⟨g,j⟩:=f;show _∈(if opn es t0 then _ else [])↔_
  have es':0<=t->t<_->(Prt.sure _ (.out t0)=ac↔(if t0=t then aa b else es.getD t0.toNat ab)=aa af):=λx y=>by
   rw[<- lC x y g];exact beq_iff_eq
  have c:¬es.getD t0.toNat ab=aa af:=λq=>by
   have:(es.getD t0.toNat ab==aa af)=af:=c
   grind
  grind
 |least k B=>
  have hi:=f.1;have c:=of_decide_eq_false c;show _∈(hv es B _).map _↔(_/\_/\decide _=ac);rw[decide_eq_true_iff];constructor
  .intro h;obtain⟨u,hm,e⟩:=aJ.mp h;cases e;obtain⟨a,hn,l⟩:=vp.mp hm;obtain⟨z,hz,i⟩:=aJ.mp hn;have hr:=hi z hz;rw[i]at hr;refine⟨⟨hr.1,hr.2.1⟩,a,?_⟩;rw[vt hi hr.1 hr.2.1 a,if_pos rfl];lia
  .rintro⟨⟨x,y⟩,a,d⟩;rw[vt hi x y a]at d
   cases b with
   |false=>rw[if_neg (by decide)]at d;lia
   |true=>
    refine aJ.mpr ⟨t,vp.mpr ⟨a,?_,by lia⟩,rfl⟩
    by_cases q:t∈B.map (·.1)
    .lia
    .rw[CM q]at d
     lia
 |most k B=>
  have hi:=f.1;have c:=of_decide_eq_false c;show _∈(hv es B _).map _↔(_/\_/\decide _=ac);rw[decide_eq_true_iff];constructor
  .intro h;obtain⟨u,hm,e⟩:=aJ.mp h;cases e;obtain⟨a,hn,l⟩:=vp.mp hm;obtain⟨z,hz,i⟩:=aJ.mp hn;have hr:=hi z hz;rw[i]at hr;refine⟨⟨hr.1,hr.2.1⟩,a,?_⟩;rw[vv hi hr.1 hr.2.1 a,if_neg (by decide)];lia
  .rintro⟨⟨x,y⟩,a,d⟩;rw[vv hi x y a]at d
   cases b with
   |true=>rw[if_pos rfl]at d;lia
   |false=>
    refine aJ.mpr ⟨t,vp.mpr ⟨a,?_,by lia⟩,rfl⟩
    by_cases q:t∈B.map (·.1)
    .exact q
    .rw[CM q]at d;lia
def vw(c:p.Ok es.length)(t0:0<=t)(t1:t<(es.length:Int))(d:opn es t=ac)(b:Bool)(h:p.sure es=ac):p.sure (put es t.toNat b)=ac:=by
 have f:=iJ d
 cases p with
 |inn u=>
  have a:=beq_iff_eq.mp h;show((put es t.toNat b).getD u.toNat ab==aa ac)=ac;rw[lC t0 t1 c.1,if_neg (λe=>by rw[e,f]at a;nomatch a),a]
  rfl
 |out u=>
  have a:=beq_iff_eq.mp h;show((put es t.toNat b).getD u.toNat ab==aa af)=ac;rw[lC t0 t1 c.1,if_neg (λe=>by rw[e,f]at a;nomatch a),a]
  rfl
 |least k B=>
  have h:=of_decide_eq_true h;show decide _=ac;have:=CO c.1 t;rw[decide_eq_true_iff,vt c.1 t0 t1 d]
  grind
 |most k B=>
  have h:=of_decide_eq_true h;show decide _=ac;have:=CO c.1 t;rw[decide_eq_true_iff,vv c.1 t0 t1 d]
  grind
def T1(es:LOB)(p:Prt):((tps es p).map (·.1)).Nodup:=by
 have one:∀(q:Bool) (z:Int×Bool),((if q then [z] else []).map (·.1)).Nodup:=λq z=>by
  grind
 cases p with
 |inn t=>exact one _ _
 |out t=>exact one _ _
 |least k B=>
  show(((hv es B _).map λt=>(t,ac)).map (·.1)).Nodup;rw[map_map]
  exact(map_id _).symm▸Im es B _
 |most k B=>
  show(((hv es B _).map λt=>(t,af)).map (·.1)).Nodup;rw[map_map];exact(map_id _).symm▸Im es B _
abbrev CQ(es:LOB)(G:List Prt):Option (List (Int×Bool))->Prop
 |none=>∀p∈G,p.sure es=ac
 |some l=>(∃p∈G,p.sure es=af)/\(∀z,z∈l↔∀p∈G,p.sure es=af->z∈tps es p)/\(l.map (·.1)).Nodup
def Io(es:LOB)(G:List Prt):CQ es G (G.foldl (pst es) ab):=by
 have go:∀(post pre:List Prt) b,CQ es pre b->CQ es (pre++post) (post.foldl (pst es) b):=by
  intro post
  induction post with
  |nil=>intro pre b h;rw[bP];exact h
  |cons p post j=>
   intro pre b h;have:=j (pre++[p]) (pst es b p) ?_
   .grind
   unfold pst
   cases f:p.sure es with
   |true=>
    have hm:∀q,q∈pre++[p]->q∈pre\/q=p:=λq c=>(bv.mp c).imp id λe=>by simpa using e
    cases b with
    |none=>exact λq c=>(hm q c).elim (h q) λe=>e▸f
    |some l=>
     obtain⟨⟨q,c,i⟩,h2,g⟩:=h;refine⟨⟨q,bS _ c,i⟩,λz=>?_,g⟩
     grind
   |false=>
    have d:p∈pre++[p]:=by simp
    cases b with
    |none=>
     refine⟨⟨p,d,f⟩,λz=>?_,T1 es p⟩;refine⟨λa q c e=>?_,λa=>a p d f⟩
     rcases bv.mp c with w |w
     .rw[h q w]at e;grind
     .have:q=p:=by simpa using w
      rw[this];exact a
    |some l=>
     obtain⟨_,h2,g⟩:=h;refine⟨⟨p,d,f⟩,λz=>?_,wn ((nQ (p:=λz=>decide (z∈tps es p))).map (·.1)) g⟩;show z∈l.filter _↔_
     grind
 exact go G [] ab λp d=>(dQ d).elim
nonrec def Pr:=Int×Bool
nonrec abbrev LLP:=List (List Pr)
nonrec def Wy:=Bool×Nat
nonrec def Wt:=List (Pr×List Wy)
abbrev wyS(b:Bool):Str:=cond b "bar" "rule"
abbrev wyD(y:Wy):D:=.tup [.str (wyS y.1),.int y.2]
abbrev wyK(y:Wy):List Key:=[.inr (wyS y.1),.inl y.2]
abbrev eC(b:List Pr):D:=.lst (b.map prD)
abbrev brP(z:Pr):Prt:=if z.2 then .inn z.1 else .out z.1
abbrev brg(b:List Pr):List Prt:=b.map brP
variable{y:Wy}
def CS{x:Wy}(h:wyK x=wyK y):x=y:=by
 obtain⟨a,i⟩:=x;obtain⟨b,j⟩:=y;obtain⟨c,h2⟩:=qe h;have f:=gy.inj (qe h2).1;have d:i=j:=by lia
 subst d;have e:wyS a=wyS b:=Sum.inr.inj c
 cases a <;> cases b <;> first |rfl |exact absurd e (by decide)
variable{p q:Pr}
def Ip(h:gm p.1 p.2=gm q.1 q.2):p=q:=by
 obtain⟨a,i⟩:=p;obtain⟨b,j⟩:=q;obtain⟨c,h2⟩:=qe h
 grind
abbrev gz(p:Pr)(y:Wy):Wt->Wt
 | []=>[(p,[y])]
 |q::tw=>if q.1=p then (q.1,q.2++[y])::tw else q::gz p y tw
abbrev gQ(p:Pr)(y:Wy):Wt->Wt
 | []=>[]
 |q::tw=>if q.1=p then (q.1,q.2.erase y)::tw else q::gQ p y tw
abbrev look(tw:Wt)(p:Pr):List Wy:=match tw with
 | []=>[]
 |q::tw=>if q.1=p then q.2 else look tw p
abbrev wtW(tw:Wt):Wss:=tw.map λq=>(gm q.1.1 q.1.2,q.2.map wyD)
def Iq(p:Pr)(y:Wy):∀tw:Wt,gj (gm p.1 p.2) (wyD y) (wtW tw)=wtW (gz p y tw)
 | []=>rfl
 |q::tw=>by
  show gj _ _ ((gm q.1.1 q.1.2,q.2.map wyD)::wtW tw)=_;unfold gj gz
  by_cases e:q.1=p
  .rw[if_pos (by rw[e]),if_pos e];show _=(_,(q.2++[y]).map wyD)::wtW tw
   grind
  .rw[if_neg (λz=>e (Ip z)),if_neg e,Iq p y tw];rfl
def ixW(p:Pr):∀tw:Wt,(aT (gm p.1 p.2) ((wtW tw).map (·.1))=ab/\look tw p=[])\/∃j q,aT (gm p.1 p.2) ((wtW tw).map (·.1))=aa j/\tw[j]?=aa q/\q.1=p/\look tw p=q.2/\∀y,gQ p y tw=tw.set j (q.1,q.2.erase y)
 | []=>.inl ⟨rfl,rfl⟩
 |q::tw=>by
  show(aT _ (gm q.1.1 q.1.2::(wtW tw).map (·.1))=ab/\_)\/∃j b,aT _ (gm q.1.1 q.1.2::(wtW tw).map (·.1))=aa j/\_;unfold aT look
  by_cases e:q.1=p
  .refine .inr ⟨0,q,if_pos (by rw[e]),rfl,e,if_pos e,λy=>?_⟩;unfold gQ
   grind
  .rw[if_neg (λz=>e (Ip z)),if_neg e]
   rcases ixW p tw with⟨a,h2⟩ |⟨j,b,a,h2,c,d,f⟩
   .grind
   .refine .inr ⟨j+1,b,by rw[a];rfl,by rw[gU];exact h2,c,d,λy=>?_⟩;unfold gQ
    grind
def vz(ds:LD):(lsO ds).items=aa ds:=y7 ds
def T3(tw:Wt)(p:Pr):(wsO (wtW tw)).got (gm p.1 p.2)=aa ((look tw p).map wyD):=by
 unfold wsO O.got;dsimp only
 rcases ixW p tw with⟨a,h2⟩ |⟨j,q,a,h2,c,b,d⟩
 .grind
 .rw[a,b];dsimp only;rw[cM,wtW,cM,h2];exact vz _
variable{tw:Wt}{pp:Xp}{g:MF1}
def CT(h:pp M=aa (wsO (wtW tw),R))(a:g M=aa (prD p)):hZ pp g M=aa ((look tw p).map wyD):=by
 unfold hZ;rw[h,az,a,az];exact T3 tw p
def T4(h:pp M=aa (wsO (wtW tw),R))(e:g M=aa (prD p))(i:look tw p≠[]):∃a,kz pp g M=aa (lsO ((look tw p).map wyD),a)/\∀y,a (lsO (((look tw p).erase y).map wyD))=R (wsO (wtW (gQ p y tw))):=by
 rcases ixW p tw with⟨b,h2⟩ |⟨j,q,b,h2,f,c,d⟩
 .grind
 .refine⟨λx=>R (.dT ((wtW tw).map (·.1)) (((wtW tw).map λp=>lsO p.2).set j x)),?_,λy=>?_⟩
  .unfold kz;rw[h,az,e,az];show((wsO _).key (gm p.1 p.2)).map _=_;unfold wsO O.key;dsimp only;rw[b,az,cM,wtW,cM,h2,c];rfl
  .rw[d y,c];unfold wsO wtW;rw[gX,gX,gX,m9 (by grind)]
def Ir(z y:Wy):deq 19 (wyD z) (wyD y)=aa (z==y):=by
 rw[show deq 19 _ _=aa ((wyS z.1==wyS y.1) && ((_==_) && ac))from rfl]
 congr 1
 obtain⟨a,i⟩:=z;obtain⟨b,j⟩:=y;apply jT.mpr;simp only[cL,beq_iff_eq,Prod.mk.injEq,and_true];constructor
 .rintro⟨u,v⟩;refine⟨?_,by lia⟩
  cases a <;> cases b <;> first |rfl |exact absurd u (by decide)
 .grind
def CU(y:Wy):∀V2:List Wy,dh (wyD y) (V2.map wyD)=aa (decide (y∈V2))
 | []=>rfl
 |z::V2=>by
  show((deq 19 _ _).bind λb=>(dh _ _).map λr=>b || r)=_;rw[Ir,CU y V2]
  grind
def Iu(y:Wy):∀V2:List Wy,y∈V2->(V2.map wyD).eraseIdx ((V2.map wyD).findIdx (isE (wyD y)))=(V2.erase y).map wyD
 | [],h=>nomatch h
 |z::V2,h=>by
  have a:isE (wyD y) (wyD z)=(z==y):=by
   unfold isE;rw[Ir]
   grind
  rw[bF,qb,a,erase_cons]
  cases e:z==y with
  |true=>rfl
  |false=>
   have:y∈V2:=by
    grind
   show wyD z::(V2.map wyD).eraseIdx _=_;rw[Iu y V2 this];rfl
def T5{V2:List Wy}(h:y∈V2):(lsO (V2.map wyD)).remd (wyD y)=aa (lsO ((V2.erase y).map wyD)):=by
 unfold O.remd;rw[vz,az,CU,decide_eq_true h,if_pos rfl,Iu y V2 h];rfl
def T6(y:Wy)(V2:List Wy):fR (wyD y) (.lst (V2.map wyD))=aa (.bl (decide (y∈V2))):=by
 show((dh _ _).map D.bl)=_;rw[CU];rfl
abbrev gys(r b:Nat):List Wy:=(bM r).map (λi=>(af,i))++(bM b).map λi=>(ac,i)
abbrev bL(L:LRu)(bs:LLP)(y:Wy):List Prt:=cond y.1 (brg (bs.getD y.2 [])) (((L[y.2]?).map grd).getD [])
abbrev gdD(L:LRu)(bs:LLP)(y:Wy):D:=.lst ((bL L bs y).map Prt.obj)
def Iv(r b:Nat):(gys r b).Nodup:=by
 refine e8.mpr ⟨(wq _ (λa b h e=>h (sS e).2) nodup_range),(wq _ (λa b h e=>h (sS e).2) nodup_range),?_⟩
 grind
variable{r:Nat}
def eW{b:Nat}:y∈gys r b↔y.2<cond y.1 b r:=by
 unfold gys;obtain⟨a,i⟩:=y
 cases a <;> simp
def T7(r b:Nat):(gys r b).length=r+b:=by unfold gys;simp
def CV(r b:Nat):gys r (b+1)=gys r b++[(ac,b)]:=by unfold gys;rw[range_succ];simp
def CW{b c:Type}[DecidableEq c]{f:b->c}(d:∀x y,f x=f y->x=y):∀{l:List b} {j:Nat} {a:b},l.Nodup->l[j]?=aa a->aT (f a) (l.map f)=aa j
 | [],_,_,_,h=>by cases h
 |x::l,0,a,_,h=>by
  cases h
  exact if_pos rfl
 |x::l,j+1,a,nd,h=>by
  obtain⟨g,i⟩:=cf.mp nd;rw[bF];unfold aT;rw[if_neg (λe=>g (by grind)),CW d i h];rfl
structure Spt where
 es:LOB
 st:LD
 bs:LLP
 tw:Wt
 wt:List Wy
 ms:LRu
 pp:LD
 ct:Int
 en:Bool
abbrev Spt.S(L:LRu)(s:Spt):Spr:=⟨s.es,s.st,s.bs.map eC,(gys L.length s.bs.length).map wyK,(gys L.length s.bs.length).map (gdD L s.bs),wtW s.tw,s.wt.map wyD,.lst (s.ms.map mkD),[("paper",lsO s.pp),("count",.fz (.int s.ct)),("ended",.fz (.bl s.en))]⟩
def T8{s:Spt}(c:y∈gys L.length s.bs.length)(b:g (.deep (.at l (s.S L).o)::M)=aa (wyD y)):pB (kz (aU "Seeking" "guards" (aH 0)) g) (.deep (.at l (s.S L).o)::M)=aa (gdD L s.bs y):=by
 obtain⟨j,a⟩:=nP c;unfold pB kz;rw[HJ,az,b,az];show(((O.dT ((gys L.length s.bs.length).map wyK) (((gys L.length s.bs.length).map _).map .fz)).key (wyK y)).map _).bind _=_;unfold O.key;dsimp only;rw[(CW (λ_ _=>CS) (Iv _ _) a),az,cM,cM,a];rfl
abbrev r9(y:Wy)(tw:Wt)(p:Prt):Wt:=(nmL p).foldl (λtw t=>gz (t,gP p) y tw) tw
abbrev fV(y:Wy)(ps:List Prt)(tw:Wt):Wt:=ps.foldl (r9 y) tw
def T9(y:Wy)(p:Prt)(tw:Wt):vf (wyD y) (wtW tw) p=wtW (r9 y tw p):=by
 unfold vf r9;generalize nmL p=ts
 induction ts generalizing tw with
 |nil=>rfl
 |cons t ts a=>rw[fH,fH,Iq (t,gP p),a]
def vA(y:Wy)(ps:List Prt)(tw:Wt):nz (wyD y) ps (wtW tw)=wtW (fV y ps tw):=by
 unfold nz fV
 induction ps generalizing tw with
 |nil=>rfl
 |cons p ps a=>rw[fH,fH,T9,a]
abbrev nE:Nat->LRu->Wt->Wt
 | _,[],tw=>tw
 |i,r::L,tw=>nE (i+1) L (fV (af,i) (grd r) tw)
def Iw:∀(L:LRu) (i:Nat) (s:Spr) (tw:Wt),s.ws=wtW tw->(eV i L).foldl lP s=⟨s.es,s.st,s.bs,s.gk++(eV i L).map (λp=>nA p.1),s.gd++(eV i L).map (λp=>.lst ((grd p.2).map Prt.obj)),wtW (nE i L tw),s.wt++(eV i L).map (λp=>rX p.1),s.mks,s.tl⟩
 | [],i,s,tw,h=>by
  obtain⟨a,b,c,d,e,f,g,m,tl⟩:=s;subst h;simp[eV]
  rfl
 |r::L,i,s,tw,h=>by
  rw[eV,fH,Iw L _ _ (fV (af,i) _ tw) (by rw[<- vA,<- h];rfl)];simp[lP,vg,nE]
def Ix{a:Type}(f:Nat->a)(L:LRu):(eV 0 L).map (λp=>f p.1)=(bM L.length).map f:=by
 apply l5;intro j;rw[cM,rY,cM]
 grind
abbrev spT(es:LOB)(L:LRu):Spt:=⟨es,[],[],nE 0 L [],(bM L.length).map λi=>(af,i),fF L,[],0,af⟩
def Ua(es:LOB)(L:LRu):spI es L={(spT es L).S L with tl:=[]}:=by
 unfold spI;rw[Iw L 0 _ [] rfl,Ix nA,Ix rX];dsimp only[Spt.S,spT,sp0,gys];simp only[nil_append,map_nil,length_nil,range_zero,bP,map_map]
 congr 1
 apply l5;intro j;rw[cM,rY,cM]
 by_cases h:j<L.length
 .rw[List.getElem?_range h];simp[gdD,bL,cF h]
 .rw[jy (by lia),jy (by rw[cZ];lia)];rfl
def sd(p q:Pr)(y:Wy):∀tw:Wt,look (gz p y tw) q=if q=p then look tw q++[y] else look tw q
 | []=>by
  show(if p=q then [y] else [])=if q=p then []++[y] else []
  grind
 |r::tw=>by
  by_cases e:r.1=p
  .rw[gz,if_pos e];show(if r.1=q then r.2++[y] else look tw q)=if q=p then (if r.1=q then r.2 else look tw q)++[y] else (if r.1=q then r.2 else look tw q)
   grind
  .rw[gz,if_neg e];show(if r.1=q then r.2 else look _ q)=if q=p then (if r.1=q then r.2 else look tw q)++[y] else (if r.1=q then r.2 else look tw q);rw[(sd p q y tw)]
   grind
def Iy(p q:Pr)(y:Wy):∀tw:Wt,look (gQ p y tw) q=if q=p then (look tw q).erase y else look tw q
 | []=>by
  split <;> rfl
 |r::tw=>by
  by_cases e:r.1=p
  .rw[gQ,if_pos e];show(if r.1=q then r.2.erase y else look tw q)=if q=p then (if r.1=q then r.2 else look tw q).erase y else (if r.1=q then r.2 else look tw q)
   grind
  .rw[gQ,if_neg e];show(if r.1=q then r.2 else look _ q)=if q=p then (if r.1=q then r.2 else look tw q).erase y else (if r.1=q then r.2 else look tw q);rw[(Iy p q y tw)]
   grind
nonrec def cn(tw:Wt)(p:Pr)(y:Wy):Nat:=(look tw p).count y
def gR:y∈look tw p↔0<cn tw p y:=count_pos_iff.symm
def Ub{z:Wy}(h:z≠y):cn (gz p y tw) q z=cn tw q z:=by
 unfold cn;rw[sd];split
 .rw[count_append,count_singleton,if_neg (by rw[beq_iff_eq];exact λe=>h e.symm)];rfl
 .rfl
def nF{y z:Wy}(h:z≠y)(q:Pr):∀(ps:List Prt) (tw:Wt),cn (fV y ps tw) q z=cn tw q z
 | [],_=>rfl
 |p::ps,tw=>by
  show cn (fV y ps _) q z=_;rw[nF h q ps];unfold r9;generalize nmL p=ts
  induction ts generalizing tw with
  |nil=>rfl
  |cons t ts a=>rw[fH,a,Ub h]
def Uc(y:Wy)(tw:Wt)(z:Pr):r9 y tw (brP z)=gz z y tw:=by
 obtain⟨t,b⟩:=z
 cases b <;> rfl
def CY(y:Wy)(q:Pr):∀(b:List Pr) (tw:Wt),cn (fV y (brg b) tw) q y=cn tw q y+b.count q
 | [],_=>rfl
 |z::b,tw=>by
  show cn (fV y (brg b) _) q y=_;rw[CY y q b,Uc,count_cons]
  have:cn (gz z y tw) q y=cn tw q y+if z==q then 1 else 0:=by
   unfold cn;rw[sd]
   grind
  lia
abbrev kE(y:Wy)(ps:List Pr)(tw:Wt):Wt:=ps.foldl (λtw p=>gQ p y tw) tw
def Ud(p q:Pr)(y z:Wy)(tw:Wt):cn (gQ p y tw) q z=if q=p/\z=y then cn tw q z-1 else cn tw q z:=by
 unfold cn;rw[Iy]
 by_cases e:q=p
 .rw[if_pos e]
  by_cases f:z=y
  .rw[if_pos ⟨e,f⟩,f,count_erase_self]
  .rw[if_neg (λx=>f x.2),count_erase_of_ne f]
 .rw[if_neg e,if_neg (λx=>e x.1)]
def CZ(q:Pr)(y z:Wy):∀(ps:List Pr) (tw:Wt),ps.Nodup->cn (kE y ps tw) q z=if q∈ps/\z=y then cn tw q z-1 else cn tw q z
 | [],tw,_=>by rw[if_neg (λx=>nomatch x.1)];rfl
 |p::ps,tw,nd=>by
  obtain⟨a,b⟩:=cf.mp nd;show cn (kE y ps _) q z=_;rw[CZ q y z ps _ b,Ud]
  by_cases f:z=y
  .by_cases e:q=p
   .rw[if_neg (λx=>a (by rw[<- e];exact x.1)),if_pos ⟨e,f⟩,if_pos ⟨by rw[e];exact aF,f⟩]
   .rw[if_neg (λx:q=p/\z=y=>e x.1)]
    by_cases g:q∈ps
    .rw[if_pos ⟨g,f⟩,if_pos ⟨bq _ g,f⟩]
    .rw[if_neg (λx=>g x.1),if_neg (λx=>by rcases bh.mp x.1 with u |u;exact e u;exact g u)]
  .rw[if_neg (λx=>f x.2),if_neg (λx=>f x.2),if_neg (λx=>f x.2)]
def Ue(h:bR c (wtW tw)):bR c (wtW (gQ p y tw)):=by
 have gen:∀tw:Wt,(gQ p y tw).length=tw.length/\∀q∈gQ p y tw,∃d∈tw,q.2.length<=d.2.length:=by
  intro tw
  induction tw with
  |nil=>exact⟨rfl,λq h=>nomatch h⟩
  |cons r tw f=>
   dsimp only[gQ];split
   .refine⟨rfl,λq a=>?_⟩
    rcases bh.mp a with e |e
    .rw[e];exact⟨r,aF,(erase_sublist).length_le⟩
    .exact⟨q,bq _ e,aM _⟩
   .refine⟨by rw[cy,f.1];rfl,λq a=>?_⟩
    rcases bh.mp a with e |e
    .rw[e];exact⟨r,aF,aM _⟩
    .obtain⟨d,b,h2⟩:=f.2 q e;exact⟨d,bq _ b,h2⟩
 obtain⟨g,i⟩:=gen tw;refine⟨by unfold wtW;rw[ay,g];have:=h.ln;unfold wtW at this;rwa [ay]at this,λq a=>?_⟩;obtain⟨x,j,rfl⟩:=aJ.mp a;obtain⟨l,b,h2⟩:=i x j;have:=h.al _ (aJ.mpr ⟨l,b,rfl⟩);rw[ay]at this ⊢
 lia
def Iz{c:Nat}{y:Wy}:∀{ps:List Pr} {tw:Wt},bR c (wtW tw)->bR c (wtW (kE y ps tw))
 | [],_,h=>h
 | _::ps,_,h=>Iz (ps:=ps) (Ue h)
def C0(h:bR c (wtW tw))(p:Pr):(look tw p).length<=c:=by
 rcases ixW p tw with⟨_,h2⟩ |⟨j,q,b,h2,d,a,e⟩
 .rw[h2];exact cg _
 .rw[a];have:=h.al _ (aJ.mpr ⟨q,dP h2,rfl⟩)
  rwa [ay]at this
def sh(nd:ns.Nodup)(h:∀x∈ns,0<=x/\x<(n:Int)):ns.length<=n:=by
 by_cases c:ns.length<=n
 .exact c
 .have d:∀x∈ns,x∈(bM n).map λ(i:Nat)=>(i:Int):=λx e=>by
   obtain⟨a,b⟩:=h x e;exact aJ.mpr ⟨x.toNat,fY.mpr (by lia),by lia⟩
  have:=(oW ns _ nd d (by rw[ay,cZ];lia)).length_eq;rw[ay,cZ]at this
  lia
structure cT(n:Nat)(b:List Pr):Prop where
 nn:∀z∈b,0<=z.1/\z.1<(n:Int)
 nd:(b.map (·.1)).Nodup
variable{b:List Pr}
def cT.pd(h:cT n b):b.Nodup:=List.Pairwise.of_map _ (λ_ _ z e=>z (by rw[e])) h.nd
def cT.len(h:cT n b):b.length<=n:=by
 have:(b.map (·.1)).length<=n:=sh h.nd λx a=>by
  obtain⟨z,hz,rfl⟩:=aJ.mp a;exact h.nn z hz
 rwa [ay]at this
def cT.nil(n:Nat):cT n []:=⟨(λ_ h=>nomatch h),ij⟩
structure dX(c r:Nat)(bs:LLP)(tw:Wt):Prop where
 wk:bR c (wtW tw)
 vl:∀p,∀y∈look tw p,y∈gys r bs.length
 br:∀j,(∀p,cn tw p (ac,j)=0)\/(∀p,cn tw p (ac,j)=if p∈bs.getD j [] then 1 else 0)
abbrev wider(tw:Wt):List Pr->List Wy
 | []=>[]
 |p::b=>(p::b).foldl (λV2 q=>V2.filter λy=>decide (y∈look tw q)) (look tw p)
def IA(tw:Wt):∀(b:List Pr) (V2:List Wy),(b.foldl (λV2 q=>V2.filter λy=>decide (y∈look tw q)) V2).Sublist V2/\∀y∈b.foldl (λV2 q=>V2.filter λy=>decide (y∈look tw q)) V2,∀p∈b,y∈look tw p
 | [],V2=>⟨qd _,λ_ _ _ h=>nomatch h⟩
 |q::b,V2=>by
  obtain⟨a,h2⟩:=IA tw b _;refine⟨a.trans nQ,λy d p c=>?_⟩
  grind
abbrev jq(bs:LLP)(tw:Wt)(y:Wy):Wt:=cond y.1 (kE y (bs.getD y.2 []) tw) tw
abbrev lQ(bs:LLP)(tw:Wt)(b:List Pr):Wt:=(wider tw b).foldl (jq bs) tw
def pO{bs:LLP}(c:∀b∈bs,b.Nodup)(p:Pr)(z:Wy):cn (jq bs tw y) p z=if y.1=ac/\p∈bs.getD y.2 []/\z=y then cn tw p z-1 else cn tw p z:=by
 obtain⟨a,j⟩:=y
 cases a with
 |false=>rw[if_neg (λx=>by cases x.1)];rfl
 |true=>
  have nd:(bs.getD j []).Nodup:=by
   grind
  show cn (kE _ _ tw) p z=_;rw[CZ p _ z _ _ nd]
  grind
def vB{bs:LLP}(a:∀b∈bs,b.Nodup)(p:Pr)(z:Wy):∀(V2:List Wy) (tw:Wt),z∉V2->cn (V2.foldl (jq bs) tw) p z=cn tw p z
 | [],_,_=>rfl
 |y::V2,tw,h=>by
  rw[fH,vB a p z V2 _ (λq=>h (bq _ q)),pO a,if_neg (λx=>h (by rw[x.2.2];exact aF))]
def C3{bs:LLP}(a:∀b∈bs,b.Nodup)(p:Pr)(z:Wy):∀(V2:List Wy) (tw:Wt),cn (V2.foldl (jq bs) tw) p z<=cn tw p z
 | [],_=>aM _
 |y::V2,tw=>by
  refine cN (C3 a p z V2 _) ?_;rw[pO a]
  split <;> lia
def IB{c:Nat}{bs:LLP}:∀{V2:List Wy} {tw:Wt},bR c (wtW tw)->bR c (wtW (V2.foldl (jq bs) tw))
 | [],_,h=>h
 |y::V2,tw,h=>by
  refine IB (V2:=V2) ?_;unfold jq
  cases y.1 with
  |false=>exact h
  |true=>exact Iz h
def dX.wide{bs:LLP}(h:dX c r bs tw)(a:(ac,j)∈wider tw b):(∀p,cn tw p (ac,j)=if p∈bs.getD j [] then 1 else 0)/\(wider tw b).count (ac,j)=1/\(∀p∈b,p∈bs.getD j [])/\j<bs.length:=by
 cases b with
 |nil=>nomatch a
 |cons e b=>
  obtain⟨d,h2⟩:=IA tw _ _
  have ha:∀p,cn tw p (ac,j)=if p∈bs.getD j [] then 1 else 0:=by
   rcases h.br j with z |z
   .have:=gR.mp (d.subset a)
    grind
   .exact z
  refine⟨ha,?_,λp f=>?_,eW.mp (h.vl e _ (d.subset a))⟩
  .have g:=count_pos_iff.mpr a;have i:(wider tw (e::b)).count _<=cn tw e (ac,j):=d.count_le _
   grind
  .have:=gR.mp (h2 _ a p f)
   grind
def dX.dropped{bs:LLP}(h:dX c r bs tw)(a:∀b∈bs,b.Nodup)(b:List Pr):dX c r bs (lQ bs tw b):=by
 refine⟨IB h.wk,λp y i=>h.vl p y (gR.mpr (fh (gR.mp i) (C3 a p y _ _))),λj=>?_⟩
 by_cases d:(ac,j)∈wider tw b
 .refine .inl λp=>?_;obtain⟨ha,m,_⟩:=h.wide d
  have gen:∀(V2:List Wy) tw,(ac,j)∈V2->(∀p,p∉bs.getD j []->cn tw p (ac,j)=0)->(∀p,cn tw p (ac,j)<=1)->cn (V2.foldl (jq bs) tw) p (ac,j)=0:=by
   intro V2
   induction V2 with
   |nil=>intro tw h;nomatch h
   |cons y V2 l=>
    intro tw hm f h2;rw[fH]
    by_cases e:(ac,j)=y
    .have:cn (jq bs tw y) p (ac,j)=0:=by
      rw[pO a]
      by_cases g:p∈bs.getD j []
      .rw[if_pos ⟨by rw[<- e],by rw[<- e];exact g,e⟩];have:=h2 p
       lia
      .rw[f p g]
       split <;> rfl
     have:=C3 a p (ac,j) V2 (jq bs tw y)
     lia
    .refine l _ (by rcases bh.mp hm with z |z;exact absurd z e;exact z) (λp g=>?_) λp=>?_
     .rw[pO a,if_neg (λx=>e x.2.2)];exact f p g
     .rw[pO a,if_neg (λx=>e x.2.2)];exact h2 p
  exact gen _ _ d (λp g=>by rw[ha p,if_neg g]) λp=>by rw[ha p];split <;> lia
 .have e:∀p,cn (lQ bs tw b) p _=cn tw p _:=λp=>vB a p _ _ _ d
  rcases h.br j with z |z
  .exact .inl λp=>by rw[e];exact z p
  .exact .inr λp=>by rw[e];exact z p
variable{p:Xp}
def Uf{q:O×(O->O)}(h:p M=aa q)(a:f M=aa d)(hr:q.1.remd d=aa o2)(k:K (.nx (M.set i (.deep (q.2 o2))))):wp (py i p f) M K:=⟨_,by
 unfold py;rw[h,az,a,az,hr];rfl,k⟩
def Ug{a b:Sl}:aU "Seeking" "watches" (aH 2) [a,b,.deep (.at l s.o)]=aa (wsO s.ws,λx=>.at l (iH s.tl [lsO (s.es.map shD),lsO s.st,lsO s.bs,.dT s.gk (s.gd.map .fz),x,lsO s.wt,.fz s.mks])):=rfl
def IC{l:Addr}{s:Spr}{tw:Wt}(g:s.ws=wtW tw):∀(b:List Pr) (v1 c d f:Sl) (V2:List Wy),V2.length<=16777216->∃a,lM 2 3 1 [3,0] (ax 0) (mB (m2 fR (ae 0) (aO (hZ (aU "Seeking" "watches" (aH 2)) (ae 1))))) (ae 0) (b.map prD) [.deep (.at l s.o),v1,c,d,f] (V2.map wyD)=aa ([.deep (.at l s.o),v1,c,a,f],(b.foldl (λV2 q=>V2.filter λy=>decide (y∈look tw q)) V2).map wyD)
 | [],_,_,d,_,_,_=>⟨d,rfl⟩
 |p::b,v1,c,d,f,V2,hL=>by
  obtain⟨a,h⟩:=IC g b v1 c _ f _ (cN (gV _ _) hL);refine⟨a,?_⟩;rw[bF];unfold lM;rw[if_pos (by grind)]
  have e:eP (gG (ax 0) (mB (m2 fR (ae 0) (aO (hZ _ (ae 1))))) (ae 0) [.no,.im _,.deep (.at l s.o)]) _=aa _:=
   uh wyD _ wyD V2 λy _=>dJ rfl (bA (ap rfl (bQ (CT (p:=p) (Ug.trans (by rw[g])) rfl)) (T6 y _))) λ_=>rfl
  show(eP (gG _ _ _ [.no,.im _,.deep _]) _).bind _=_;rw[e,az];exact h
def Uh(d:s.ws=wtW tw)(g:bR c (wtW tw))(f:c<=16777216)(k:∀h,K (.nx [.deep (.at l s.o),.im (eC b),.own ((wider tw b).map wyD),h,.no])):
  wp (pE 2 3 (bI (ae 1)) (hZ (aU "Seeking" "watches" (aH 0)) (mIx (aw 1) (kI 0))) (aV (ae 1)) 1 [3,0] (ax 0) (mB (m2 fR (ae 0) (aO (hZ (aU "Seeking" "watches" (aH 2)) (ae 1))))) (ae 0)) [.deep (.at l s.o),.im (eC b),.no,.no,.no] K:=by
 cases b with
 |nil=>exact⟨_,rfl,k .no⟩
 |cons p b=>
  obtain⟨a,e⟩:=IC d _ _ .no .no .no _ (cN (C0 g p) f);refine⟨_,?_,k a⟩;unfold pE;rw[show bI _ _=aa ac from rfl,az,show aV _ _=aa _ from rfl,az,if_pos (show ac=!((p::b).map prD).isEmpty from rfl),CT (p:=p) (ve.trans (by rw[d])) (bf rfl rfl (ly (0,af) (by decide) (by grind))),if_pos rfl,az,e];rfl
def C4{bs:LLP}(a:∀b∈bs,cT n b)(j:Nat):cT n (bs.getD j []):=by
 rw[bV]
 cases e:bs[j]? with
 |none=>exact cT.nil n
 |some b=>grind
def Ui(s:Spt)(b:List Pr)(ok:dX c L.length s.bs s.tw)(E:c<16777216)(y:∀b∈s.bs,cT n b):AW l [eC b] (s.S L).o=aa ((({s with tw:=lQ s.bs s.tw b}:Spt).S L).o,.non):=by
 apply fE;apply ak;refine Uh rfl ok.wk (fj E) λd=>?_
 refine dC _ wyD (λpre M=>∃d w,M=[.deep (.at l (({s with tw:=pre.foldl (jq s.bs) s.tw}:Spt).S L).o),.im _,.im _,d,w]) rfl ⟨_,_,rfl⟩ ?_ ?_
 .rintro pre ⟨a,j⟩ post M ex ⟨d,w,rfl⟩;refine⟨_,rfl,?_⟩;walk_at "nrm"
  cases a with
  |false=>
   refine aY rfl (λz=>by nomatch z) (λ_=>b5 ?_);refine⟨d,.im (wyD (af,j)),?_⟩;rw[eE]
   rfl
  |true=>
   obtain⟨ha,A,_,G⟩:=ok.wide (j:=j) (by rw[ex];simp)
   have m:(ac,j)∉pre:=λq=>by
    grind
   have e:=C4 y j
   refine dC (s.bs.getD j []) prD (λpr M=>∃d,M=[.deep (.at l (({s with tw:=kE (ac,j) pr _}:Spt).S L).o),.im _,.im _,d,.im _]) (eS (bf (rQ CB) (bf rfl rfl rfl) (ly [] (by lia) (by grind))) rfl) ⟨_,rfl⟩ ?_ ?_
   .rintro pr p po M i ⟨d,rfl⟩;have u:p∈s.bs.getD j []:=by grind
    have r:=λq=>by
     have:=e.pd;rw[i]at this;exact(e8.mp this).2.2 p q p aF rfl
    have v:pr.Nodup:=by
     have:=e.pd
     grind
    have f : _∈look (kE (ac,j) pr _) p:=gR.mpr (by
     rw[CZ p _ _ pr _ v,if_neg (λx=>r x.1),vB (λb h=>(y b h).pd) p _ _ _ m,ha p,if_pos u]
     grind)
    refine⟨_,rfl,?_⟩;walk_at "nrm"
    obtain⟨H,B,C⟩:=T4 (g:=ae 3) (M:=[.deep (.at l (({s with tw:=kE _ pr _}:Spt).S L).o),.im _,.im _,.im _,.im _]) ve rfl (ne_nil_of_mem f)
    refine Uf B rfl (T5 f) ?_;dsimp only;rw[C];refine⟨.im (prD p),?_⟩;unfold kE;rw[eE];rfl
   .rintro M ⟨d,rfl⟩;refine⟨d,.im (wyD (ac,j)),?_⟩;rw[eE];rfl
 .rintro M ⟨d,w,rfl⟩;exact⟨_,rfl,rfl,rfl⟩
def Uj(b:List Pr)(hz:b.length<=16777216):Be [eC b]=aa (.lst ((brg b).map Prt.obj)):=by
 rw[show(brg b).map Prt.obj=b.map λz=>(brP z).obj from map_map]
 exact lx (congrArg _ (gH b prD _ rfl hz λz _=>gf rfl rfl (by
  obtain⟨t,x⟩:=z
  cases x <;> rfl)))
def si(h:cT n b):∀p∈brg b,PrK n p:=λp a=>by
 obtain⟨z,hz,rfl⟩:=aJ.mp a;have:=h.nn z hz;obtain⟨t,x⟩:=z
 cases x <;> exact⟨this,(by decide:1<=1000)⟩
def lR{b:Type}(l:List b)(a d:b)(j:Nat):(l++[a]).getD j d=if j=l.length then a else l.getD j d:=by grind
def dX.bar{bs:LLP}(h:dX c r bs tw)(a:cT n b)(hn:n<=60):dX (c+3840) r (bs++[b]) (fV (ac,bs.length) (brg b) tw):=by
 have d:∀p,cn tw p (ac,bs.length)=0:=λp=>Nat.eq_zero_of_not_pos λq=>by
  have:bs.length<bs.length:=eW.mp (h.vl p _ (gR.mpr q))
  grind
 have g:∀p,cn _ p _=if p∈b then 1 else 0:=λp=>by
  rw[CY,d p,kP,a.pd.count]
 refine⟨?_,λp y f=>?_,λj=>?_⟩
 .rw[<- vA];refine(bR.reg hn (si a) h.wk).le ?_;unfold brg;rw[ay];have:=a.len;lia
 .rw[aR,fX,CV]
  by_cases e:y=(ac,bs.length)
  .grind
  .refine bS _ (h.vl p y (gR.mpr ?_));rw[<- nF e p _];exact gR.mp f
 .rw[lR]
  by_cases e:j=bs.length
  .grind
  .have ne:((ac,j):Wy)≠(ac,bs.length):=λz=>e (sS z).2;rw[if_neg e]
   rcases h.br j with z |z
   .exact .inl λp=>by rw[nF ne];grind
   .exact .inr λp=>by rw[nF ne];grind
abbrev Spt.bar(s:Spt)(b:List Pr):Spt:={s with bs:=s.bs++[b],tw:=fV (ac,s.bs.length) (brg b) (lQ s.bs s.tw b),wt:=s.wt++[(ac,s.bs.length)]}
def Uk{bs:LLP}:(gys L.length (bs.length+1)).map (gdD L (bs++[b]))=(gys L.length bs.length).map (gdD L bs)++[.lst ((brg b).map Prt.obj)]:=by
 rw[CV,a8]
 congr 1
 .refine map_congr_left λy c=>?_;have:=eW.mp c;obtain⟨a,j⟩:=y
  cases a with
  |false=>rfl
  |true=>
   have:j<bs.length:=this;unfold gdD bL
   grind
 .show[D.lst ((brg _).map Prt.obj)]=_
  grind
def Ul(s:Spt)(b:List Pr)(ok:dX c L.length s.bs s.tw)(m:c+3840<16777216)(d:∀b∈s.bs,cT n b)(a:cT n b)(hn:n<=60)(p:L.length+s.bs.length<100000)(j:s.wt.length<16777216):
  uY l [eC b] (s.S L).o=aa (((s.bar b).S L).o,.non):=by
 have i:=a.len;have g:((gys L.length s.bs.length).map wyK).length=L.length+s.bs.length:=by rw[ay,T7]
 apply fE;apply ak;refine jo (fD rfl rfl (dD rfl rfl) rfl (Ui s b ok (by lia) d)) ?_;apply ak;refine bn (cS (ao rfl (ao (aD (ao (jm CB) rfl) (d9 s.bs eC)) rfl))) ?_;walk_at "nrm";apply ak;refine rS CB rfl (by show(s.bs.map eC).length<_;rw[ay];lia) ?_;show wp _ [.deep (.at l (⟨s.es,s.st,s.bs.map eC++_,(gys L.length s.bs.length).map wyK,(gys L.length s.bs.length).map _,wtW _,s.wt.map wyD,.lst _,(s.S L).tl⟩:Spr).o),.im _,.im (wyD (ac,s.bs.length))] _;refine jo (fD rfl rfl (dD rfl (dD (aD rfl (Uj b (by lia))) rfl)) rfl (HQ _ _ rfl (CH λq=>?_) ?_ (si a) hn (ok.dropped (λb h=>(d b h).pd) b).wk ?_ ?_ ?_)) ?_
 .obtain⟨y,f,e⟩:=aJ.mp q;rw[CS e]at f;have:s.bs.length<s.bs.length:=eW.mp f;exact jz _ this
 .show((gys L.length s.bs.length).map wyK).length<_
  lia
 .unfold brg;rw[ay];lia
 .show(s.wt.map wyD).length<_;rw[ay];exact j
 .unfold brg;rw[ay];lia
 .refine⟨_,rfl,?_,rfl⟩
  congr 1
  dsimp only[vg,Spt.bar,Spt.S];rw[vA,aR,fX,Uk,CV,a8,a8,a8];rfl
def jt{f:Xe}(h:f M=aa (d,ρ1))(k:K (.nx (ρ1.set i (.im d)))):wp (fU i f) M K:=⟨_,by unfold fU;rw[h];rfl,k⟩
def ID{k:Int}(hv:fv M=aa d)(h:p M=aa (lsO ds,R))(c:fk M=aa (.int k))(a:0<=k)(b:k<ds.length)(q:K (.nx (M.set i (.deep (R (lsO (ds.set k.toNat d))))))):wp (nh i p fk fv) M K:=⟨_,by
 unfold nh;rw[hv,az,h,az,c,az];show(((lsO ds).items.bind λds=>(ixN ds.length k).map λj=>O.lst _)).map _=_;rw[vz,az,show ixN ds.length k=aa k.toNat by unfold ixN;rw[if_pos a,if_pos b]];rfl,q⟩
def Um{f:MF2}{es:LD}(h:p M=aa (lsO ds,R))(a:f M=aa es)(hz:ds.length+es.length<=16777216)(q:K (.nx (M.set i (.deep (R (lsO (ds++es))))))):wp (ph i p f) M K:=⟨_,by
 unfold ph;rw[h,az,a,az];show(if (ds.map O.fz).length+es.length<=16777216 then aa _ else ab).map _=_;rw[if_pos (by rw[ay];exact hz),<- a8];rfl,q⟩
abbrev iK(es:LOB):Nat:=ct (es.map (·==ab))
variable{b:Bool}
def Uo(t0:0<=t)(t1:t<(es.length:Int))(a:opn es t=ac):iK (put es t.toNat b)+1=iK es:=by
 unfold iK put;rw[gX];refine HX _ _ ?_;unfold opn at a;rw[bV]at a ⊢;rw[cM,cF (by lia)]at *;exact a
def Up(es:LOB):iK es<=es.length:=by
 have:=TK (es.map (·==ab))
 rwa [ay]at this
abbrev Spt.pt(s:Spt)(t:Int)(b:Bool)(w:D):Spt:={s with es:=put s.es t.toNat b,st:=s.st++[.tup [prD (t,b),w]],wt:=s.wt++look s.tw (t,b)}
structure SpJ(n c V3:Nat)(L:LRu)(s:Spt):Prop where
 es:s.es.length=n
 bk:∀b∈s.bs,cT n b
 tw:dX c L.length s.bs s.tw
 wv:∀y∈s.wt,y∈gys L.length s.bs.length
 ms:s.ms.Perm (fF L)
 mB:iK s.es*(c+1)+s.wt.length<=V3
 sB:s.st.length+iK s.es<=V3
 sv:∀d∈s.st,∃(z:Pr) (w:D),d=.tup [prD z,w]/\(0<=z.1/\z.1<(n:Int))/\s.es.getD z.1.toNat ab=aa z.2
nonrec def Me(c:Nat)(s:Spt):Nat:=iK s.es*(c+1)+s.wt.length
variable{u:Int}
def C5(a:0<=u)(t0:0<=t)(h:u≠t):opn (put es t.toNat b) u=opn es u:=by
 unfold opn;rw[cY es b (by lia)]
variable{V3:Nat}{s:Spt}{w:L2.D}
def SpJ.pt(h:SpJ n c V3 L s)(t0:0<=t)(t1:t<(n:Int))(f:opn s.es t=ac):SpJ n c V3 L (s.pt t b w)/\Me c (s.pt t b w)<Me c s:=by
 have g:=Uo (b:=b) t0 (by rw[h.es];exact t1) f;have m:=C0 h.tw.wk (t,b)
 have hm:Me c (s.pt t b w)<Me c s:=by
  show iK (put s.es t.toNat b)*_+(s.wt++look s.tw _).length<iK s.es*_+s.wt.length;simp only[<- g,aR,Nat.succ_mul]
  lia
 refine⟨⟨(b7 _ _ _).trans h.es,h.bk,h.tw,λy i=>?_,h.ms,cN (fj hm) h.mB,?_,λd hd=>?_⟩,hm⟩
 .rcases bv.mp i with q |q
  .exact h.wv y q
  .exact h.tw.vl _ y q
 .show(s.st++[_]).length+iK (put s.es t.toNat b)<=V3;rw[aR,fX];have:=h.sB
  lia
 .rcases bv.mp hd with q |q
  .obtain⟨z,j,e,l,a⟩:=h.sv d q;refine⟨z,j,e,l,?_⟩;show(put s.es t.toNat b).getD z.1.toNat ab=_;rw[cY s.es b (λq=>by rw[q,iJ f]at a;nomatch a)];exact a
  .exact⟨_,w,bE.mp q,⟨t0,t1⟩,eU s.es b (by rw[h.es];lia)⟩
def C6(h:SpJ n c V3 L s)(hB:V3+c<16777216)(t0:0<=t)(t1:t<(n:Int)):pK l [.int t,.bl b,w] (s.S L).o=aa (((s.pt t b w).S L).o,.non):=by
 have f:=C0 h.tw.wk (t,b);have a:=h.mB;have h2:=h.sB;have d:=h.es;apply fE;apply ak;refine ID rfl jP rfl t0 (by rw[ay];show t<s.es.length;lia) ?_;have e:(s.es.map shD).set t.toNat (.bl b)=(put s.es t.toNat b).map shD:=by unfold put;rw[gX];rfl
 show wp _ [.deep (.at l (iH (s.S L).tl [lsO ((s.es.map shD).set t.toNat _),lsO s.st,lsO _,.dT _ _,wsO _,lsO _,.fz _])),.im _,.im _,.im w] _;rw[e]
 show wp _ [.deep (.at l (({s with es:=put s.es t.toNat b}:Spt).S L).o),.im _,.im _,.im w] _
 apply ak;refine rS CA (cS (ao (cS (ao rfl (ao rfl rfl))) (ao rfl rfl))) (by show s.st.length<_;lia) ?_
 show wp _ [.deep (.at l (({s with es:=put s.es t.toNat b,st:=s.st++_}:Spt).S L).o),.im _,.im _,.im w] _
 refine Um pL (CT ve (cS (ao rfl (ao rfl rfl)))) (by show(s.wt.map wyD).length+((look s.tw (t,b)).map wyD).length<=_;rw[ay,ay];lia) ?_;refine⟨_,rfl,?_,rfl⟩;dsimp only[Spt.pt,Spt.S];simp only[a8];rfl
abbrev puts(s:Spt)(w:D)(ps:List Pr):Spt:=ps.foldl (λs p=>s.pt p.1 p.2 w) s
structure fG(es:LOB)(ps:List Pr):Prop where
 nd:(ps.map (·.1)).Nodup
 op:∀z∈ps,(0<=z.1/\z.1<(es.length:Int))/\opn es z.1=ac
variable{z:Pr}
def fG.tail{ps:List Pr}(h:fG es (z::ps)):fG (put es z.1.toNat z.2) ps:=by
 obtain⟨f,g⟩:=cf.mp h.nd;refine⟨g,λy d=>?_⟩;obtain⟨⟨a,b⟩,c⟩:=h.op y (bq _ d);refine⟨⟨a,by rw[b7];exact b⟩,?_⟩;rw[C5 a ((h.op z aF).1.1) (λe=>f (aJ.mpr ⟨y,d,e⟩))];exact c
def fG.pre{pre post:List Pr}(h:fG es (pre++post)):fG es pre:=⟨by have:=h.nd;rw[a8]at this;exact(e8.mp this).1,λz hz=>h.op z (bS _ hz)⟩
def nG{n c V3:Nat}{L:LRu}{w:D}:∀{ps:List Pr} {s:Spt},SpJ n c V3 L s->fG s.es ps->SpJ n c V3 L (puts s w ps)/\Me c (puts s w ps)<=Me c s
 | [],_,h,_=>⟨h,aM _⟩
 |z::ps,s,h,k=>by
  obtain⟨⟨a,b⟩,e⟩:=k.op z aF;obtain⟨d,h2⟩:=h.pt a (by rw[<- h.es];exact b) e;obtain⟨f,g⟩:=nG d k.tail;exact⟨f,cN g (fj h2)⟩
variable{G:List Prt}
def IE(h:prs G es=ab):∀p∈G,p.sure es=ac:=by
 have:=Io es G;unfold prs at h
 cases e:G.foldl _ ab with
 |none=>rw[e]at this;exact this
 |some l=>rw[e]at h;nomatch h
def nH{l:List Pr}(i:∀p∈G,p.Ok es.length)(h:prs G es=aa l):fG es l/\(∀z:Pr,z∈l↔(0<=z.1/\z.1<(es.length:Int))/\opn es z.1=ac/\∀p∈G,p.sure (put es z.1.toNat (!z.2))=ac)/\∃p∈G,p.sure es=af:=by
 have:=Io es G;unfold prs at h
 cases e:G.foldl _ ab with
 |none=>rw[e]at h;nomatch h
 |some n=>
  rw[e]at h this;cases h;obtain⟨⟨q,m,d⟩,h2,u⟩:=this
  have hm:∀z:Pr,z∈n.map neg↔(z.1,!z.2)∈n:=λz=>by
   constructor
   .intro hz;obtain⟨y,v,rfl⟩:=aJ.mp hz;unfold neg;rw[Bool.not_not];exact v
   .intro hz;refine aJ.mpr ⟨_,hz,?_⟩;unfold neg;rw[Bool.not_not]
  have key:∀z:Pr,z∈n.map neg↔_/\opn es z.1=ac/\∀p∈G,p.sure (put es z.1.toNat _)=ac:=λz=>by
   rw[hm,h2];constructor
   .intro a;obtain⟨j,r,_⟩:=(CP (i q m) d _ _).mp (a q m d);refine⟨j,r,λp f=>?_⟩
    cases g:p.sure es with
    |true=>exact vw (i p f) j.1 j.2 r _ g
    |false=>exact((CP (i p f) g _ _).mp (a p f g)).2.2
   .rintro⟨a,b,c⟩ p f g;exact(CP (i p f) g _ _).mpr ⟨a,b,c p f⟩
  refine⟨⟨?_,λz hz=>?_⟩,key,q,m,d⟩
  .rw[map_map];exact u
  .obtain⟨a,b,_⟩:=(key z).mp hz;exact⟨a,b⟩
structure Grp(L:LRu)(es:LOB)(wo:LB0):Prop where
 len:wo.length=es.length
 no:∀i,wo.getD i af=ac->es.getD i ab≠aa af
 up:∀r∈fF L,wo.getD r.hd.toNat af=ac->r.bodyLost es wo=ac
abbrev sj(es:LOB)(wo:LB0):LOB:=(rP wo).foldl (λes t=>put es t.toNat af) es
inductive Mvs(L:LRu)(bs:LLP)(e0:LOB):LOB->Prop
 |refl:Mvs L bs e0 e0
 |press {es:LOB} {t:Int} {b:Bool} {y:Wy}:Mvs L bs e0 es->y∈gys L.length bs.length->0<=t->t<(es.length:Int)->opn es t=ac->(∀p∈bL L bs y,p.sure (put es t.toNat (!b))=ac)->Mvs L bs e0 (put es t.toNat b)
 |out {es:LOB} {wo:LB0}:Mvs L bs e0 es->Grp L es wo->(∀i,wo.getD i af=ac->es.getD i ab=ab)->Mvs L bs e0 (sj es wo)
def Mvs.trans{bs:LLP}{e0 g i:LOB}(h:Mvs L bs e0 g)(h':Mvs L bs g i):Mvs L bs e0 i:=by
 induction h' with
 |refl=>exact h
 |press _ a b c d e f=>exact .press f a b c d e
 |out _ a b f=>exact .out f a b
def vC{a:Bool}(h:i≠j):put (put es i a) j b=put (put es j b) i a:=by
 unfold put;exact set_comm _ _ h
def vE(c:0<=u)(t0:0<=t)(h:u≠t)(a:opn es u=ac):opn (put es t.toNat b) u=ac:=by rw[C5 c t0 h];exact a
def IF{L:LRu}{bs:LLP}{y:Wy}{w:D}(d:y∈gys L.length bs.length):∀{ps:List Pr} {s:Spt},(∀p∈bL L bs y,p.Ok s.es.length)->fG s.es ps->(∀z∈ps,∀p∈bL L bs y,p.sure (put s.es z.1.toNat (!z.2))=ac)->Mvs L bs s.es (puts s w ps).es
 | [],_,_,_,_=>.refl
 |z::ps,s,hG,k,hp=>by
  obtain⟨⟨a,b⟩,e⟩:=k.op z aF;obtain⟨g,i⟩:=cf.mp k.nd;have f:Mvs L bs s.es (s.pt z.1 z.2 w).es:=.press .refl d a b e (hp z aF);refine f.trans (IF d (λp q=>by show p.Ok (put s.es z.1.toNat z.2).length;rw[b7];exact hG p q) k.tail λx c p q=>?_);obtain⟨⟨h,j⟩,l⟩:=k.op x (bq _ c);have ne:z.1≠x.1:=λe=>g (aJ.mpr ⟨x,c,e.symm⟩);show p.sure (put (put s.es z.1.toNat z.2) x.1.toNat _)=ac;rw[vC (by lia)];exact vw (by rw[b7];exact hG p q) a (by rw[b7];exact b) (vE a h ne e) _ (hp x (bq _ c) p q)
abbrev Uq:Option Wy->D
 |none=>.non
 |some y=>wyD y
abbrev lrF(L:LRu):Nat->Spt->Option Wy×Spt
 | 0,s=>(ab,s)
 |k+1,s=>match s.wt with
  | []=>(ab,s)
  |y::wt=>match prs (bL L s.bs y) s.es with
   |none=>(aa y,{s with wt:=wt})
   |some ps=>lrF L k (puts {s with wt:=wt} (wyD y) ps)
def sm{k:Nat}(h:s.wt=[]):lrF L (k+1) s=(ab,s):=by
 unfold lrF;rw[h]
def sn{k:Nat}{wt:List Wy}(h:s.wt=y::wt)(a:prs (bL L s.bs y) s.es=ab):lrF L (k+1) s=(aa y,{s with wt:=wt}):=by
 unfold lrF;rw[h];dsimp only;rw[a]
def pP{k:Nat}{wt:List Wy}{ps:List Pr}(h:s.wt=y::wt)(a:prs (bL L s.bs y) s.es=aa ps):lrF L (k+1) s=lrF L k (puts {s with wt:=wt} (wyD y) ps):=by
 rw[lrF];rw[h];dsimp only;rw[a]
def nI{bs:LLP}(hr:∀r∈L,RuK n r)(d:∀b∈bs,cT n b):∀p∈bL L bs y,p.Ok n:=by
 obtain⟨a,j⟩:=y;intro p c
 cases a with
 |true=>exact(si (C4 d j) p c).1
 |false=>
  replace c:p∈((L[j]?).map grd).getD []:=c
  cases e:L[j]? with
  |none=>rw[e]at c;nomatch c
  |some r=>rw[e]at c;exact(vh (hr r (dP e)) p c).1
def SpJ.pop{wt:List Wy}(h:SpJ n c V3 L s)(e:s.wt=y::wt):SpJ n c V3 L {s with wt:=wt}/\Me c {s with wt:=wt} < Me c s/\y∈gys L.length s.bs.length:=by
 have hm:=h.mB;have a:s.wt.length=wt.length+1:=by grind
 refine⟨⟨h.es,h.bk,h.tw,λz hz=>h.wv z (by grind),h.ms,?_,h.sB,h.sv⟩,?_,h.wv y (by grind)⟩
 .grind
 .grind
def IG(w:D):∀(ps:List Pr) (s:Spt),(puts s w ps).bs=s.bs/\(puts s w ps).tw=s.tw/\(puts s w ps).ms=s.ms
 | [],_=>⟨rfl,rfl,rfl⟩
 |z::ps,s=>IG w ps _
structure Ur(n c V3:Nat)(L:LRu)(s:Spt)(R:Option Wy×Spt):Prop where
 ok:SpJ n c V3 L R.2
 bs:R.2.bs=s.bs
 mv:Mvs L s.bs s.es R.2.es
 no:R.1=ab->R.2.wt=[]
 ye:∀y,R.1=aa y->y∈gys L.length s.bs.length/\∀p∈bL L s.bs y,p.sure R.2.es=ac
 le:Me c R.2<=Me c s
def sr{n c V3:Nat}{L:LRu}(hr:∀r∈L,RuK n r):∀(k:Nat) (s:Spt),SpJ n c V3 L s->Me c s<k->Ur n c V3 L s (lrF L k s)
 | 0,_,_,h=>absurd h (ik _)
 |k+1,s,h,hk=>by
  cases b:s.wt with
  |nil=>
   rw[sm b]
   exact⟨h,rfl,.refl,(λ_=>b),(λy e=>by cases e),aM _⟩
  |cons y wt=>
   obtain⟨g,h2,j⟩:=h.pop b;have i:∀p∈bL L s.bs y,p.Ok s.es.length:=by rw[h.es];exact nI hr h.bk
   cases d:prs _ s.es with
   |none=>
    rw[sn b d]
    exact⟨g,rfl,.refl,(λz=>by cases z),(λz e=>by cases e;exact⟨j,IE d⟩),fj h2⟩
   |some ps=>
    rw[pP b d];obtain⟨l,m,_⟩:=nH i d;obtain⟨q,u⟩:=nG g l
    obtain⟨f,_,_⟩:=IG _ ps {s with wt:=wt}
    have a:=sr hr k _ q (by lia)
    have m1:Mvs L s.bs s.es (puts {s with wt:=wt} (wyD y) ps).es:=IF j (s:={s with wt:=wt}) i l λz hz=>((m z).mp hz).2.2
    refine⟨a.ok,a.bs.trans f,m1.trans (by have:=a.mv;rw[f]at this;exact this),a.no,λz e=>?_,by have:=a.le;lia⟩;have:=a.ye z e
    grind
def Us{m:LD->Option (LD ⊕ D)}{f:MF2}{x:Option (List Pr)}(h:f M=aa ds)(h':m ds=aa (Ik x)):pA m f M=aa (r6 x):=by
 unfold pA;rw[h,az,h',az]
 cases x with
 |none=>rfl
 |some l=>
  show(if (l.map prD).all D.flat=ac then aa _ else ab)=_;rw[if_pos (all_eq_true.mpr λd hd=>by obtain⟨z,_,rfl⟩:=aJ.mp hd;rfl)];rfl
def Ut{wt:List Wy}(h:s.wt=y::wt):rp 0 (aU "Seeking" "waiting" (aH 0)) (.deep (.at l (s.S L).o)::M)=aa (wyD y,.deep (.at l (({s with wt:=wt}:Spt).S L).o)::M):=by
 show((lsO (s.wt.map wyD)).pop0).map _=_;rw[h];rfl
def Uu{k:Nat}(hr:∀r∈L,RuK n r)(hB:V3+c<16777216)(h:SpJ n c V3 L s)(x:Me c s<k)(w:k<1000000000):Ck l [] (s.S L).o=aa (((lrF L k s).2.S L).o,Uq (lrF L k s).1):=by
 apply fE;apply ak;refine qY (λm M=>∃a v1 v e f,M=[.deep (.at l (Spt.S L a).o),v1,v,e,f]/\SpJ n c V3 L a/\Me c a<m/\lrF L m a=lrF L k s) ?_ _ k _ ⟨s,_,_,_,_,rfl,h,x,rfl⟩ w;rintro m M ⟨a,v1,v,e,f,rfl,h',hm,i⟩
 cases m with
 |zero=>grind
 |succ m=>
  cases b:a.wt with
  |nil=>
   refine⟨af,df (jm pL) (by show mK (.lst (a.wt.map wyD))=_;rw[b];rfl),(λz=>by nomatch z),λ_=>?_⟩;rw[<- i,sm b]
   exact jn rfl ⟨_,rfl,rfl,rfl⟩
  |cons y wt=>
   obtain⟨q,h2,A⟩:=h'.pop b;have u:∀p∈bL L a.bs y,p.Ok a.es.length:=by rw[h'.es];exact nI hr h'.bk
   refine⟨ac,df (jm pL) (by show mK (.lst (a.wt.map wyD))=_;rw[b];rfl),λ_=>?_,λz=>by nomatch z⟩;apply ak;refine jt (Ut b) ?_;apply ak;refine bn (d:=r6 (prs _ a.es)) (Us (ao (T8 A rfl) (ao (jm jP) rfl)) (T0 _ u)) ?_;apply ak
   cases j:prs _ a.es with
   |none=>
    refine aY rfl (λ_=>?_) (λz=>by nomatch z);rw[<- i,sn b j]
    exact jn rfl ⟨_,rfl,rfl,rfl⟩
   |some ps=>
    obtain⟨g,H,_⟩:=nH u j;obtain⟨B,I⟩:=nG q g;refine aY rfl (λz=>by nomatch z) (λ_=>b5 ?_)
    refine dC ps prD (λpre M=>∃e f,M=[.deep (.at l ((puts {a with wt:=wt} (wyD y) pre).S L).o),.im _,.im _,e,f]) rfl ⟨_,_,rfl⟩ ?_ ?_
    .rintro pre z post M ex ⟨e,f,rfl⟩;rw[ex]at g;obtain⟨C,_⟩:=nG q g.pre;obtain⟨⟨E,G⟩,_⟩:=g.op z (by simp);refine⟨_,rfl,?_⟩;walk_at "nrm";refine jo (fD rfl rfl (dD rfl (dD rfl (dD rfl rfl))) rfl (C6 C hB E (by rw[<- h'.es];exact G))) ?_;refine⟨.im (.int z.1),.im (.bl z.2),?_⟩;unfold puts
     grind
    .rintro M ⟨e,f,rfl⟩;refine⟨m,c6 _,_,_,_,_,_,rfl,B,by lia,?_⟩;rw[<- i,pP b j]
abbrev slf(es:LOB)(a b c d e:D)(C:LD)(ms:LRu):D:=.ins "Seeking" (spN++(["paper","count","ended"]:LSt)) ([.lst (es.map shD),a,b,c,d,e,.lst (ms.map mkD)]++C)
abbrev fdL(r:Rul)(es:LOB)(wo:LB0):D:=CI (r.ps.find? λp=>p.lost es wo)
variable{a b c e:L2.D}
def Uv(hok:∀r∈ms,r.Ok es.length)(f:wo.length=es.length)(hz:ms.length<=1000):Cp [slf es a b c d e C ms,.int t,.lst (wo.map D.bl)]=aa (.lst ((ms.filter λr=>r.hd==t).map λr=>fdL r es wo)):=
 lx (congrArg _ (eR ms mkD _ _ rfl (by lia) λr hr=>dJ rfl (bA (ap rfl rfl (by show dEq _ _=_;rfl))) λ_=>aD rfl (CJ r.ps (hok r hr).ps f)))
abbrev kpL(p:Prt)(es:LOB)(wo:LB0):LI0:=if p.lost es ((bM es.length).map (inS [])) then [] else (nmL p).filter λt=>wo.getD t.toNat af
variable{p:Prt}
def Uw(f:p.Ok es.length)(hn:es.length<=60)(hm:(nmP p).length<=1000)(j:wo.length=es.length):Cn [slf es a b c d e C ms,p.obj,.lst (wo.map D.bl)]=aa (.lst ((kpL p es wo).map D.int)):=by
 have g:m_1 [.int es.length,.lst []]=aa (.lst (((bM es.length).map (inS [])).map D.bl)):=by
  have:=HF es.length [] (by lia) (by lia) (by decide)
  grind
 have i:=rV f hn;apply jM;apply ak;refine aY (df (HI p f (by grind) rfl (ao rfl (ao (aD (ao (aD rfl (d9 es shD)) rfl) g) rfl))) rfl) (λz=>?_) (λz=>b5 ?_)
 .refine jk rfl (jN ?_);unfold kpL
  grind
 .refine jk (eR _ D.int _ D.int (eS (HP p f hn hm rfl) rfl) (by lia) λt h=>dJ rfl (df (bf rfl rfl (jK (pM f t (rW.mp h)).1 (by rw[j];exact(pM f t (rW.mp h)).2))) rfl) λ_=>rfl) (jN ?_);unfold kpL
  grind
def Ux(p:Prt):(nmL p).Nodup:=by
 cases p with
 |inn t=>exact cf.mpr ⟨(λh=>nomatch h),ij⟩
 |out t=>exact cf.mpr ⟨(λh=>nomatch h),ij⟩
 |least k B=>exact(lA _).imp λh=>by lia
 |most k B=>exact(lA _).imp λh=>by lia
structure KOk(n:Nat)(wo:LB0)(fd:LI0):Prop where
 nd:fd.Nodup
 el:∀x∈fd,(0<=x/\x<(n:Int))/\wo.getD x.toNat af=ac
variable{fd:LI0}
def KOk.len(h:KOk n wo fd):fd.length<=n:=sh h.nd λx a=>(h.el x a).1
def KOk.more(h:KOk n wo fd)(d:p.Ok n):KOk n wo (fd++(kpL p es wo).filter λt=>!(fd.any λx=>x==t)):=by
 have b:(kpL p es wo).Sublist (nmL p):=by
  unfold kpL;split
  .grind
  .simp
 refine⟨e8.mpr ⟨h.nd,(wn b (Ux p)).sublist nQ,λx c y f e=>?_⟩,λx c=>?_⟩
 .grind
 .rcases bv.mp c with q |q
  .exact h.el x q
  .have a:=(cm.mp q).1;refine⟨pM d x (rW.mp (b.subset a)),?_⟩;unfold kpL at a
   grind
def Uy(C:LI0)(i:Int):mO (.int i) (.lst (C.map D.int))=aa (.bl (!(C.any λx=>x==i))):=by
 show Option.map _ (if _=ac then aa _ else ab)=_;rw[if_pos (by rw[all_map];exact(cL _ _).mpr ⟨rfl,all_eq_true.mpr λ_ _=>rfl⟩),any_map];rfl
def Uz{n m:Int}(a:M[i]?=aa (.im (.int n)))(k:K (.nx (M.set i (.im (.int (n+m)))))):wp (m8 i (mX λ_=>aa (.int m))) M K:=⟨_,by
 unfold m8;rw[a];rfl,k⟩
abbrev Kp(es:LOB)(wo:LB0)(fd:LI0)(r:Rul):Prop:=∃p∈r.ps,p.lost es wo=ac/\∀y∈kpL p es wo,y∈fd
structure ss(es:LOB)(wo:LB0)(ms:LRu)(t:Int)(ks:LI0):Prop where
 mt:t∈ks
 nd:ks.Nodup
 el:∀x∈ks,(0<=x/\x<(es.length:Int))/\wo.getD x.toNat af=ac
 kp:∀r∈ms,r.hd∈ks->Kp es wo ks r
def UA(hn:es.length<=60)(hok:∀r∈ms,r.Ok es.length)(hnm:∀r∈ms,∀p∈r.ps,(nmP p).length<=1000)(hw:wo.length=es.length)(hz:ms.length<=1000)(hl:∀r∈ms,wo.getD r.hd.toNat af=ac->r.bodyLost es wo=ac)(t0:0<=t)(t1:t<(es.length:Int))(ht:wo.getD t.toNat af=ac):
  ∃ks:LI0,lO [slf es a b c d e C ms,.int t,.lst (wo.map D.bl)]=aa (ks.map D.int)/\ss es wo ms t ks:=by
 suffices h:wp rM _ (λr=>∃ks:LI0,r=.rtO (ks.map D.int)/\ss es wo ms t ks) by
  obtain⟨r,e,ks,rfl,h⟩:=h;exact⟨ks,mW e,h⟩
 apply ak;refine dM rfl ?_;walk_at "nrm";apply ak;refine bn rfl ?_;walk_at "nrm";apply ak;refine qY (λm M=>∃(fd:LI0) (g:Nat) (j:Sl),M=[.im _,.im _,.im _,.own (fd.map D.int),.im (.int g),j]/\KOk es.length wo fd/\g<=fd.length/\m+g=61/\t∈fd/\∀x∈fd.take g,∀r∈ms,r.hd=x->Kp es wo fd r) ?_ _ 61 _ ⟨[t],0,_,rfl,⟨cf.mpr ⟨(λh=>nomatch h),ij⟩,λx i=>by rw[bE.mp i];exact⟨⟨t0,t1⟩,ht⟩⟩,cg _,rfl,aF,λx i=>nomatch i⟩ (by decide);rintro m M ⟨fd,g,j,rfl,L,hp,hm,Q,I⟩;have hfl:=L.len;refine⟨decide _,bA (ap rfl (aD rfl (d9 fd D.int)) rfl),λz=>?_,λz=>?_⟩
 .have N:g<fd.length:=by have:=of_decide_eq_true z;lia
  obtain⟨x,i⟩:∃x,fd[g]?=aa x:=⟨_,cF N⟩;obtain⟨⟨x0,x1⟩,xw⟩:=L.el x (dP i)
  have U:atI (fd.map D.int) g=aa (.int x):=by
   rw[ly 0 (by lia) (by lia),dE,bV,i];rfl
  apply ak;refine dC _ _ (λpre M=>∃(ex:LI0) (j:Sl),M=[.im _,.im _,.im _,.own ((fd++ex).map D.int),.im _,j]/\KOk es.length wo (fd++ex)/\∀r∈pre,Kp es wo (fd++ex) r) (eS ((cw rfl rfl (ao (bf rfl rfl U) (ao rfl rfl))).trans (Uv hok hw hz)) rfl) ⟨[],j,by rw[bP],by rw[bP];exact L,λr hr=>nomatch hr⟩ ?_ ?_
  .rintro pre r post M ex ⟨xt,j,rfl,l,f⟩;have hrm:r∈ms.filter λr=>r.hd==x:=by rw[ex];simp
   obtain⟨hr,A⟩:=cm.mp hrm;have A:r.hd=x:=by simpa using A
   obtain⟨p,v,hp2,hp3⟩:∃p,p∈r.ps/\fdL r es wo=p.obj/\p.lost es wo=ac:=by
    unfold fdL
    cases Y:r.ps.find? _ with
    |none=>
     have:=CK (es:=es) (wo:=wo) r;rw[Y,(hl r hr (by rw[A];exact xw))]at this
     nomatch this
    |some p=>exact⟨p,wj Y,rfl,find?_some Y⟩
   have w:=(hok r hr).ps p v;have n:=l.more (es:=es) w;have J:=n.len;rw[aR]at J;refine⟨_,rfl,?_⟩;walk_at "nrm";rw[hp2];refine⟨_,CF (bQ (eR _ D.int _ D.int (eS ((cw rfl rfl (ao rfl (ao rfl rfl))).trans (Uw w hn (hnm r hr p v) hw)) rfl) ?_ λy _=>dJ rfl (bA (ap rfl rfl (Uy (fd++xt) y))) λ_=>rfl)) rfl (by rw[ay,ay];lia),?_⟩
   .have:(kpL p es wo).length<=(nmL p).length:=by
     unfold kpL;split
     .exact cg _
     .exact gV _ _
    have:=rV w hn
    lia
   .rw[cG]at n;refine⟨_,.im p.obj,?_,n,λr' hr'=>?_⟩
    .simp only[a8,cG];rfl
    .rcases bv.mp hr' with q |q
     .obtain⟨T,E,G,H⟩:=f r' q;exact⟨T,E,G,λy B=>by rw[<- cG];exact bS _ (H y B)⟩
     .rw[bE.mp q];refine⟨p,v,hp3,λy B=>?_⟩;rw[<- cG]
      by_cases hm:y∈fd++xt
      .exact bS _ hm
      .refine ce _ (cm.mpr ⟨B,?_⟩);rw[Bool.not_eq_true',<- Bool.not_eq_true];intro h;obtain⟨u,hu,e⟩:=any_eq_true.mp h;rw[beq_iff_eq.mp e]at hu;exact hm hu
  .rintro M ⟨xt,j,rfl,l,f⟩;refine Uz rfl ⟨m-1,by lia,fd++xt,g+1,j,rfl,l,by rw[aR];lia,by lia,bS _ Q,λy B r hr e=>?_⟩;rw[take_append_of_le_length N,take_succ,i]at B
   rcases bv.mp B with q |q
   .obtain⟨T,E,G,H⟩:=I y q r hr e;exact⟨T,E,G,λz hz=>bS _ (H z hz)⟩
   .rw[bE.mp q]at e;exact f r (cm.mpr ⟨hr,by simpa using e⟩)
 .refine lB rfl ?_;have hpl:g=fd.length:=by have:=of_decide_eq_false z;lia
  refine jk (Pc rfl (by lia) L.nd) ⟨_,rfl,(ji _ _).mpr Q,(lA _).imp (λh=>by lia),λx i=>L.el x ((ji _ _).mp i),λr hr hd=>?_⟩;obtain⟨T,E,G,H⟩:=I r.hd (by rw[hpl,take_length];exact(ji _ _).mp hd) r hr rfl;exact⟨T,E,G,λz hz=>(ji _ _).mpr (H z hz)⟩
abbrev eX{a:Type}:Nat->List a->List (Nat×a)
 | _,[]=>[]
 |i,x::C=>(i,x)::eX (i+1) C
def sw{a:Type}(f:a->D):∀(i:Nat) (C:List a),iD i (C.map f)=(eX i C).map λp=>D.tup [.int p.1,f p.2]
 | _,[]=>rfl
 |i,x::C=>by rw[bF,iD,sw f _ C];rfl
def vF{a:Type}:∀(i:Nat) (C:List a) (j:Nat),(eX i C)[j]?=(C[j]?).map λx=>(i+j,x)
 | _,[],_=>rfl
 |i,x::C,0=>rfl
 |i,x::C,j+1=>by rw[eX,gU,gU,vF _ C j,show i+1+j=i+(j+1) by lia]
def kG{a:Type}{C:List a}{p:Nat×a}(h:p∈eX 0 C):C[p.1]?=aa p.2:=by
 obtain⟨j,b⟩:=nP h;rw[vF]at b
 grind
def vG{a:Type}:∀(i:Nat) (C:List a),(eX i C).length=C.length
 | _,[]=>rfl
 |i,x::C=>by rw[eX,cy,cy,vG _ C]
abbrev inL(es:LOB)(wo:LB0):LI0:=((eX 0 es).filter λp=>wo.getD p.1 af && p.2==aa ac).map λp=>(p.1:Int)
abbrev jR(wo:LB0):LI0:=((eX 0 wo).filter λp=>p.2).map λp=>(p.1:Int)
def UB(wo:LB0):eX 0 wo=(bM wo.length).map λi=>(i,wo.getD i af):=by
 apply l5;intro j;rw[vF,cM]
 grind
def vH(wo:LB0):jR wo=rP wo:=by
 unfold jR rP;rw[UB,filter_map,map_map];rfl
def C7:∀(ws:Wss),O.kns (ws.map λp=>lsO p.2)=ac
 | []=>by rw[map_nil,O.kns]
 |p::ws=>by rw[bF,O.kns,C7 ws,lsO,O.kn,rR];rfl
abbrev Spt.D(L:LRu)(s:Spt):L2.D:=(s.S L).o.toD
abbrev gdT(L:LRu)(bs:LLP):L2.D:=.dT ((gys L.length bs.length).map wyK) ((gys L.length bs.length).map (gdD L bs))
def vI(L:LRu)(s:Spt):s.D L=slf s.es (.lst s.st) (.lst (s.bs.map eC)) (gdT L s.bs) (wsO (wtW s.tw)).toD (.lst (s.wt.map wyD)) [.lst s.pp,.int s.ct,.bl s.en] s.ms:=by
 unfold Spt.D Spr.o Spt.S slf gdT;simp only[lsO,O.toD,O.toDs,xP,List.map,kM,nil_append]
def UC(L:LRu)(s:Spt):(s.S L).o.kn=ac:=by
 dsimp only[Spr.o,Spt.S,lsO,wsO];simp only[List.map,kM,nil_append,O.kn,O.kns,rR,Bool.and_true];exact C7 _
def C8:cD 0 (.deep (.at l (s.S L).o)::M)=aa (s.D L):=by
 show(if (O.at l (s.S L).o).kn=ac then aa (O.at l (s.S L).o).toD else ab)=_;rw[O.kn,UC,if_pos rfl,O.toD];rfl
abbrev vJ(L:LRu)(s:Spt)(wo:LB0)(t:Int):LD:=(lO [s.D L,.int t,.lst (wo.map D.bl)]).getD []
abbrev sx(L:LRu)(s:Spt)(wo:LB0)(t:Int):D:=.tup [.str "group",.lst (vJ L s wo t)]
structure eY(n:Nat)(ms:LRu):Prop where
 ok:∀r∈ms,r.Ok n
 nm:∀r∈ms,∀p∈r.ps,(nmP p).length<=1000
 ne:∀r∈ms,r.w≠.never
 len:ms.length<=1000
def eY.of(hr:∀r∈L,RuK n r)(hz:L.length<=1000)(h:ms.Perm (fF L)):eY n ms:=by
 have hm:∀r∈ms,r∈L/\r.w≠.never:=λr q=>by
  obtain⟨a,b⟩:=cm.mp (h.mem_iff.mp q)
  grind
 exact⟨λr q=>(hr r (hm r q).1).ok,λr q=>(hr r (hm r q).1).nm,λr q=>(hm r q).2,by rw[h.length_eq];exact cN (gV _ _) hz⟩
abbrev GpL(ms:LRu)(es:LOB)(wo:LB0):Prop:=wo.length=es.length/\∀r∈ms,wo.getD r.hd.toNat af=ac->r.bodyLost es wo=ac
def GpL.up(h:GpL ms es wo)(f:cK es es')(hok:∀r∈ms,r.Ok es.length):GpL ms es' wo:=⟨by rw[h.1,f.len],λr hr b=>qS (λp a z=>uj f (mS.refl _) ((hok r hr).ps p a) z) (h.2 r hr b)⟩
variable{b:Bool}
def vK(t0:0<=t)(a:opn es t=ac):cK es (put es t.toNat b):=by
 refine⟨b7 _ _ _,λi=>?_⟩
 by_cases e:i=t.toNat
 .rw[e];exact .inl (iJ a)
 .exact .inr (cY es b e)
def C9(hn:n<=60)(a:s.es.length=n)(hm:eY n s.ms)(b:GpL s.ms s.es wo)(t0:0<=t)(t1:t<(n:Int))(d:wo.getD t.toNat af=ac):∃ks:LI0,vJ L s wo t=ks.map D.int/\lO [s.D L,.int t,.lst (wo.map D.bl)]=aa (ks.map D.int)/\ss s.es wo s.ms t ks:=by
 obtain⟨ks,c,h⟩:=UA (by lia) (by rw[a];exact hm.ok) hm.nm b.1 hm.len b.2 t0 (by rw[a];exact t1) d;unfold vJ;rw[vI L s,c];exact⟨ks,rfl,rfl,h⟩
def IH(hn:n<=60)(a:s.es.length=n)(hm:eY n s.ms)(e:GpL s.ms s.es wo)(t0:0<=t)(t1:t<(n:Int))(g:wo.getD t.toNat af=ac)(f:fo M=aa (s.D L))(ha:fa M=aa [.int t,.lst (wo.map D.bl)]):
  ic "Seeking" "kernel" lO fo fa M=aa (vJ L s wo t):=by
 obtain⟨ks,c,b,_⟩:=C9 hn a hm e t0 t1 g;rw[c];unfold ic;rw[f,az];rw[vI L s]at b ⊢;show(if "Seeking"="Seeking" /\ List.contains (spN++(["paper","count","ended"]:LSt)) "kernel"=af then (fa M).bind λas=>(lO (slf s.es _ _ _ _ _ _ s.ms::as)).bind λL=>if L.all D.flat then aa L else ab else ab)=_;rw[if_pos ⟨rfl,rfl⟩,ha,az,b,az,if_pos (all_eq_true.mpr λd hd=>by obtain⟨z,_,rfl⟩:=aJ.mp hd;rfl)]
abbrev eD(L:LRu)(wo:LB0)(s:Spt)(ts:LI0):Spt:=ts.foldl (λs t=>s.pt t af (sx L s wo t)) s
def vL{n c V3:Nat}{L:LRu}{wo:LB0}:∀{ts:LI0} {s:Spt},SpJ n c V3 L s->fG s.es (ts.map λt=>(t,af))->SpJ n c V3 L (eD L wo s ts)/\Me c (eD L wo s ts)+ts.length<=Me c s/\(eD L wo s ts).es=ts.foldl (λes t=>put es t.toNat af) s.es/\cK s.es (eD L wo s ts).es/\(eD L wo s ts).bs=s.bs/\(eD L wo s ts).ms=s.ms
 | [],s,h,_=>⟨h,aM _,rfl,cK.refl _,rfl,rfl⟩
 |t::ts,s,h,k=>by
  obtain⟨⟨a,b⟩,e⟩:=k.op _ aF;obtain⟨f,h2⟩:=h.pt a (by rw[<- h.es];exact b) e;obtain⟨g,j,m,d,p,r⟩:=vL f k.tail;refine⟨g,?_,m,?_,p,r⟩
  .have l:Me c (eD L wo (s.pt t af _) ts)+ts.length<=Me c _:=j;show Me c (eD L wo (s.pt t af _) ts)+(ts.length+1)<=_;lia
  .have f1:cK s.es (put s.es t.toNat af):=vK a e;refine⟨d.len.trans f1.len,λi=>?_⟩
   rcases f1.at' i with q |q
   .exact .inl q
   .rcases d.at' i with z |z
    .exact .inl (q.symm.trans z)
    .exact .inr (z.trans q)
def psT{pre post:LI0}(h:fG es ((pre++post).map λt=>(t,af))):fG es (pre.map λt=>(t,af)):=by
 rw[a8]at h;exact h.pre
abbrev reM(s:Spt):Spt:={s with ms:=(cb s.es s.ms).2.1++(cb s.es s.ms).2.2}
abbrev bD(L:LRu)(s:Spt):OD×Spt:=match inL s.es (cb s.es s.ms).1 with
 |x::_=>(aa (sx L (reM s) (cb s.es s.ms).1 x),reM s)
 | []=>(ab,eD L (cb s.es s.ms).1 (reM s) (jR (cb s.es s.ms).1))
variable{c:Nat}
def SpJ.rem'(h:SpJ n c V3 L s)(hm:eY n s.ms):SpJ n c V3 L (reM s)/\GpL s.ms s.es (cb s.es s.ms).1/\(reM s).ms.Perm s.ms/\∀i,(cb s.es s.ms).1.getD i af=ac->s.es.getD i ab≠aa af:=by
 obtain⟨a,b⟩:=H9 (es:=s.es) hm.ne;have pm:((cb s.es s.ms).2.1++(cb s.es s.ms).2.2).Perm s.ms:=by have:=a.pm;rw[bP]at this;exact this
 refine⟨⟨h.es,h.bk,h.tw,h.wv,pm.trans h.ms,h.mB,h.sB,h.sv⟩,⟨a.len,λr hr d=>?_⟩,pm,λi hi e=>?_⟩
 .have:=b r hr;unfold iI at this
  grind
 .have:=a.pe.sub i hi;unfold jp at this
  grind
def GpL.grp(h:GpL ms es wo)(pm:ms.Perm (fF L))(hn:∀i,wo.getD i af=ac->es.getD i ab≠aa af):Grp L es wo:=⟨h.1,hn,λr hr=>h.2 r (pm.mem_iff.mpr hr)⟩
def II:t∈jR wo↔0<=t/\wo.getD t.toNat af=ac:=by rw[vH];exact vd wo t
def UD(wo:LB0):(jR wo).Nodup:=by
 rw[vH];exact wq _ (λa b h e=>h (by lia)) (nodup_range.filter _)
def IJ(h:inL es wo=[])(i:Nat)(b:wo.getD i af=ac):es.getD i ab≠aa ac:=λe=>by
 rw[bV]at e
 cases a:es[i]? with
 |none=>rw[a]at e;nomatch e
 |some x=>
  rw[a]at e;have e:x=aa ac:=e;have hm:(i,x)∈eX 0 es:=dP (by rw[vF,a];simp);have:_∈inL es wo:=aJ.mpr ⟨_,cm.mpr ⟨hm,by rw[b,e];rfl⟩,rfl⟩
  grind
def sy(d:wo.length=es.length)(h:inL es wo=[])(hn:∀i,wo.getD i af=ac->es.getD i ab≠aa af):fG es ((jR wo).map λt=>(t,af)):=by
 refine⟨by rw[map_map];have:=UD wo;simpa[Function.comp_def]using this,λz hz=>?_⟩;obtain⟨t,a,rfl⟩:=aJ.mp hz;obtain⟨t0,tw⟩:=II.mp a
 have lt:t.toNat<wo.length:=by
  grind
 refine⟨⟨t0,by show t<_;lia⟩,?_⟩;unfold opn
 cases c:es.getD t.toNat ab with
 |none=>rfl
 |some b=>cases b with
  |true=>exact absurd c (IJ h _ tw)
  |false=>grind
def vM(hr:∀r∈L,RuK n r)(hz:L.length<=1000)(h:SpJ n c V3 L s):SpJ n c V3 L (bD L s).2/\(bD L s).2.bs=s.bs/\Mvs L s.bs s.es (bD L s).2.es/\Me c (bD L s).2<=Me c s/\((bD L s).1=ab->s.wt=[]->(bD L s).2.wt≠[]->Me c (bD L s).2<Me c s)/\((bD L s).1≠ab->∃wo,Grp L (bD L s).2.es wo/\∃i,wo.getD i af=ac/\(bD L s).2.es.getD i ab=aa ac):=by
 obtain⟨m,f,pm,a⟩:=h.rem' (eY.of hr hz h.ms);unfold bD
 cases q:inL s.es (cb s.es s.ms).1 with
 |cons x C=>
  refine⟨m,rfl,.refl,aM _,(λe=>by nomatch e),λ_=>⟨_,f.grp h.ms a,?_⟩⟩;have l:x∈inL s.es (cb s.es s.ms).1:=by grind
  obtain⟨p,v,rfl⟩:=aJ.mp l;obtain⟨g,j⟩:=cm.mp v;have ⟨h4,h5⟩:=(cL _ _).mp j;refine⟨p.1,h4,?_⟩;show s.es.getD p.1 ab=aa ac;rw[bV,(kG g)]
  grind
 |nil=>
  dsimp only;obtain⟨o1,o2,z,B,A,E⟩:=vL m (sy f.1 q a);have y:Me c _+(jR (cb s.es s.ms).1).length<=Me c s:=o2;refine⟨o1,A,?_,by lia,λ_ w d=>?_,λe=>absurd rfl e⟩
  .rw[z,vH];refine .out .refl (f.grp h.ms a) λi hi=>?_;show s.es.getD i ab=ab
   cases l:s.es.getD i ab with
   |none=>rfl
   |some b=>cases b with
    |true=>exact absurd l (IJ q i hi)
    |false=>grind
  .cases u:jR (cb s.es s.ms).1 with
   |nil=>
    rw[u]at d
    exact absurd w d
   |cons t ts=>
    grind
def UE(hr:∀r∈L,RuK n r)(hz:L.length<=1000)(hn:n<=60)(hB:V3+c<16777216)(h:SpJ n c V3 L s):Ct l [] (s.S L).o=aa (((bD L s).2.S L).o,(bD L s).1.getD .non):=by
 have hm:=eY.of hr hz h.ms;obtain⟨h1,w,pm,B⟩:=h.rem' hm;have j:(s.S L).es=s.es:=rfl;have a:=h.es;have e:eY n (reM s).ms:=⟨λr q=>hm.ok r (pm.mem_iff.mp q),λr q=>hm.nm r (pm.mem_iff.mp q),λr q=>hm.ne r (pm.mem_iff.mp q),by rw[pm.length_eq];exact hm.len⟩;have f:GpL (reM s).ms s.es (cb s.es s.ms).1:=⟨w.1,λr q=>w.2 r (pm.mem_iff.mp q)⟩;have g:=w.1;unfold bD;generalize I:(cb s.es s.ms).1=wo at *;apply fE;apply ak;refine jt (fD rfl rfl rfl rfl (TU (s:=s.S L) (by show 3<900;decide) rfl (by rw[j];lia) (by rw[j,a];exact hm.ok) hm.ne hm.len)) ?_;show wp _ [.deep _,.im (.lst ((cb s.es s.ms).1.map D.bl)),.no,.no,.no] _;rw[I];apply ak;refine bn (d:=.lst ((inL s.es wo).map D.int)) (bQ ?_) ?_
 .unfold inL;rw[map_map];refine eR (eX 0 s.es) (λp=>D.tup [.int p.1,shD p.2]) _ _ ?_ (by rw[vG];lia) λp E=>?_
  .rw[<- sw];show(pC _ _).map _=_;rw[rQ jP];rfl
  .have A:=(cU.mp (kG E)).1;refine dJ rfl (jI (df (bf rfl rfl (jK (by lia) (by lia))) rfl) (bA (ap rfl rfl ?_))) λ_=>rfl;obtain⟨i,x⟩:=p
   cases x with
   |none=>rfl
   |some b=>cases b <;> rfl
 .show wp _ [.deep (.at l ((reM s).S L).o),.im _,.no,.im _,.no] _;apply ak
  cases U:inL s.es wo with
  |cons x C=>
   have u:x∈inL s.es wo:=by rw[U];exact aF
   obtain⟨p,E,ep⟩:=aJ.mp u;obtain⟨G,H⟩:=cm.mp E;have h3:=(cU.mp (kG G)).1;have ⟨h4,h5⟩:=(cL _ _).mp H
   exact jn (d:=sx L (reM s) wo x) (cS (ao rfl (ao (bQ (IH hn a e f (by lia) (by lia) (by rw[<- ep,dE];exact h4) C8 (ao (bf rfl rfl (ly 0 (by decide) (by rw[cy];lia))) (ao rfl rfl)))) rfl))) ⟨_,rfl,rfl,rfl⟩
  |nil=>
   have ps:=sy g U B;refine aY rfl (λz=>by nomatch z) (λ_=>b5 ?_);apply ak;refine dC (eX 0 wo) (λp=>D.tup [.int p.1,.bl p.2]) (λpre M=>∃N Q,M=[.deep (.at l ((eD L wo (reM s) ((pre.filter λp=>p.2).map λp=>p.1)).S L).o),.im _,N,.im _,Q]) ?_ ⟨_,_,rfl⟩ ?_ ?_
   .rw[<- sw];exact vi rfl
   .rintro pre p post M ex ⟨N,Q,rfl⟩;refine⟨_,rfl,?_⟩;walk_at "nrm";have u:=kG (p:=p) (by rw[ex];simp);have A:=(cU.mp u).1
    cases m:p.2 with
    |false=>
     refine aY rfl (λz=>by nomatch z) (λ_=>b5 ?_);refine⟨.im (.int p.1),.im (.bl af),?_⟩
     rw[kL,filter_cons_of_neg (by rw[m];exact bO),filter_nil,bP]
    |true=>
     have v:jR wo=(pre.filter λp=>p.2).map (λp=>(p.1:Int))++(p.1:Int)::(post.filter λp=>p.2).map λp=>p.1:=by
      unfold jR;rw[ex,kL,p7 m,a8,bF]
     rw[v]at ps;obtain⟨o1,o2,o3,o4,o5,Y⟩:=vL (wo:=wo) h1 (psT ps);generalize hT:(pre.filter λp=>p.2).map _=T at *;have y:GpL (eD L wo (reM s) T).ms (eD L wo (reM s) T).es wo:=by rw[Y];exact f.up o4 (by show ∀r∈(reM s).ms,r.Ok s.es.length;rw[a];exact e.ok)
     have J:wo.getD (p.1:Int).toNat af=ac:=by rw[dE,bV,u,m];rfl
     refine jo (fD rfl rfl (dD rfl (dD rfl (dD (cS (ao rfl (ao (bQ (IH hn o1.es (by rw[Y];exact e) y (by lia) (by lia) J C8 (ao rfl (ao rfl rfl)))) rfl))) rfl))) rfl (C6 o1 hB (by lia) (by lia))) ?_;refine⟨.im (.int p.1),.im (.bl ac),?_⟩;rw[kL,p7 m,a8,hT];unfold eD;rw[filter_nil,bF,map_nil,eE];rfl
   .rintro M ⟨N,Q,rfl⟩;exact jn rfl ⟨_,rfl,rfl,rfl⟩
abbrev stF(L:LRu)(c:Nat):Nat->Spt->OD×Spt
 | 0,s=>(ab,s)
 |k+1,s=>if (lrF L (Me c s+1) s).1.isSome then ((lrF L (Me c s+1) s).1.map wyD,(lrF L (Me c s+1) s).2) else if ((bD L (lrF L (Me c s+1) s).2).1.isSome || (bD L (lrF L (Me c s+1) s).2).2.wt.isEmpty) then bD L (lrF L (Me c s+1) s).2 else stF L c k (bD L (lrF L (Me c s+1) s).2).2
abbrev UF(L:LRu)(bs:LLP)(es:LOB):Prop:=(∃y∈gys L.length bs.length,∀p∈bL L bs y,p.sure es=ac)\/∃wo,Grp L es wo/\∃i,wo.getD i af=ac/\es.getD i ab=aa ac
structure UG(n c V3:Nat)(L:LRu)(s:Spt)(R:OD×Spt):Prop where
 ok:SpJ n c V3 L R.2
 bs:R.2.bs=s.bs
 mv:Mvs L s.bs s.es R.2.es
 en:R.1≠ab->UF L s.bs R.2.es
 tp:∀w,R.1=aa w->∃ds,w=.tup ds
def UH(h:(bD L s).1=aa w):∃ds,w=.tup ds:=by
 unfold bD at h;split at h
 .cases h;exact⟨_,rfl⟩
 .grind
def none_of{a:Type}{x:Option a}(h:¬x.isSome=ac):x=ab:=by simp_all
def Da{n c V3:Nat}{L:LRu}(hr:∀r∈L,RuK n r)(hz:L.length<=1000):∀(k:Nat) (s:Spt),SpJ n c V3 L s->Me c s<k->UG n c V3 L s (stF L c k s)
 | 0,_,_,h=>absurd h (ik _)
 |k+1,s,h,hk=>by
  have l:=sr hr _ s h (c6 _);dsimp only[stF];generalize lrF L _ s=R at l;split
  .rename_i d;obtain⟨y,j⟩:=wz.mp d;exact⟨l.ok,l.bs,l.mv,(λ_=>.inl ⟨y,l.ye y j⟩),λw i=>by rw[j]at i;cases i;exact⟨_,rfl⟩⟩
  .rename_i d;obtain⟨m,p,f,z,q,u⟩:=vM hr hz l.ok;rw[l.bs]at f;have x:=l.le;have pt:=λw=>UH (L:=L) (s:=R.2) (w:=w);generalize bD L R.2=P at *;split
   .exact⟨m,p.trans l.bs,l.mv.trans f,(λe=>.inr (u e)),pt⟩
   .rename_i g;have h2:P.2.wt≠[]:=λe=>g (by rw[e];exact pZ _);have v:=q (none_of λe=>g (by rw[e];rfl)) (l.no (none_of d)) h2;have a:=Da hr hz k P.2 m (by lia);have b:=p.trans l.bs;exact⟨a.ok,a.bs.trans b,(l.mv.trans f).trans (by have:=a.mv;rw[b]at this;exact this),(λe=>by have:=a.en e;rw[b]at this;exact this),a.tp⟩
def UI(L:LRu)(s:Spt):dIs ((bD L s).1.getD .non) .non=aa (.bl (!(bD L s).1.isSome)):=by
 unfold bD
 split <;> rfl
def UJ{k:Nat}(hr:∀r∈L,RuK n r)(hz:L.length<=1000)(hn:n<=60)(hB:V3+c<16777216)(h:SpJ n c V3 L s)(C:Me c s<k)(B:k<1000000000):rN l [] (s.S L).o=aa (((stF L c k s).2.S L).o,(stF L c k s).1.getD .non):=by
 apply fE;apply ak;refine bn rfl ?_;walk_at "nrm";apply ak;refine qY (λm M=>∃(a:Spt) (g:Bool) (j:Sl),M=[.deep (.at l (a.S L).o),.im (.bl g),j]/\(g=ac->SpJ n c V3 L a/\Me c a<m/\stF L c m a=stF L c k s)/\(g=af->∃w:OD,j=.im (w.getD .non)/\(w,a)=stF L c k s)) ?_ _ k _ ⟨s,ac,_,rfl,λ_=>⟨h,C,rfl⟩,λz=>by nomatch z⟩ B;rintro m M ⟨a,g,j,rfl,q,p⟩;generalize stF L c k s=Z at q p ⊢;refine⟨g,rfl,?_,?_⟩
 .rintro rfl;obtain⟨h',hm,b⟩:=q rfl
  cases m with
  |zero=>exact absurd hm (ik _)
  |succ m=>
   have f:=sr hr _ a h' (c6 _);have mB:=h'.mB;have u:=Uu (l:=l) hr hB h' (c6 _) (by show Me c a+1<_;show iK a.es*_+a.wt.length+1<_;lia);unfold stF at b;generalize lrF L _ a=R at *;apply ak;refine jt (fD rfl rfl rfl rfl u) ?_;apply ak
   cases hR:R.1 with
   |some y=>
    rw[if_pos (by rw[hR];rfl),hR]at b
    exact aY rfl (λz=>by nomatch z) (λ_=>b5 (bn ((jJ rfl (ap (aD (ao (jm pL) rfl) (d9 R.2.wt wyD)) rfl mU)).trans rfl) ⟨0,qf _,R.2,af,_,rfl,(λz=>by nomatch z),λ_=>⟨aa _,rfl,b⟩⟩))
   |none=>
    rw[if_neg (by rw[hR];exact bO)]at b;obtain⟨E,J,N,Q,G,T⟩:=vM hr hz f.ok;have v:=UE (l:=l) hr hz hn hB f.ok;have x:=UI L R.2;have I:=f.le;generalize bD L R.2=P at *;refine jt (fD rfl rfl rfl rfl v) ?_;refine bn (jJ (ap rfl rfl x) (ap (aD (ao (jm pL) rfl) (d9 P.2.wt wyD)) rfl mU)) ?_
    by_cases d:(P.1.isSome || P.2.wt.isEmpty)=ac
    .rw[if_pos d]at b
     have i:(!P.1.isSome && decide ((0:Int)<P.2.wt.length))=af:=by
      grind
     rw[i];exact⟨0,qf _,P.2,af,_,rfl,(λz=>by nomatch z),λ_=>⟨P.1,rfl,b⟩⟩
    .rw[if_neg d]at b;have A:=none_of λe=>d (by rw[e];rfl);have h2:P.2.wt≠[]:=λe=>d (by rw[e];exact pZ _);have H:=G A (f.no hR) h2
     have i:(!P.1.isSome && decide ((0:Int)<P.2.wt.length))=ac:=by
      have:=length_pos_iff.mpr h2
      grind
     rw[i];exact⟨m,c6 _,P.2,ac,_,rfl,(λ_=>⟨E,by lia,b⟩),λz=>by nomatch z⟩
 .rintro rfl;obtain⟨w,rfl,e⟩:=p rfl;rw[<- e];exact jn rfl ⟨_,rfl,rfl,rfl⟩
structure SpB(n c:Nat)(L:LRu)(s:Spt):Prop where
 es:s.es.length=n
 bk:∀b∈s.bs,cT n b
 tw:dX c L.length s.bs s.tw
 wv:∀y∈s.wt,y∈gys L.length s.bs.length
 ms:s.ms.Perm (fF L)
 st:s.st=[]
 wl:s.wt.length=L.length+s.bs.length
def IK{n q R:Nat}(hn:n<=60):∀(L:LRu) (i c:Nat) (tw:Wt),(∀r∈L,RuK n r/\(grd r).length<=q)->i+L.length<=R->dX c R [] tw->dX (c+64*q*L.length) R [] (nE i L tw)
 | [],_,_,_,_,_,h=>h
 |r::L,i,c,tw,hr,hi,h=>by
  obtain⟨f,g⟩:=hr r aF;simp only[cy]at hi
  have a:dX (c+64*q) R [] (fV (af,i) (grd r) tw):=by
   refine⟨?_,λp y d=>?_,λj=>?_⟩
   .rw[<- vA];refine(bR.reg hn (vh f) h.wk).le ?_
    lia
   .by_cases e:y=(af,i)
    .rw[e];refine eW.mpr ?_;show i<R
     lia
    .refine h.vl p y (gR.mpr ?_);rw[<- nF e p _];exact gR.mp d
   .refine .inl λp=>?_;rw[nF (λe=>by cases e)]
    rcases h.br j with z |z
    .exact z p
    .rw[z p]
     exact if_neg λx=>by
      cases x
  have:=IK hn L (i+1) _ _ (λx b=>hr x (bq _ b)) (by lia) a;rw[cy,Nat.mul_succ,show c+_=c+64*q+64*q*L.length by lia];exact this
def UK{q:Nat}(hn:n<=60)(a:es.length=n)(hr:∀r∈L,RuK n r/\(grd r).length<=q):SpB n (64*q*L.length) L (spT es L):=by
 refine⟨a,(λb h=>nomatch h),?_,λy c=>?_,sQ _,rfl,by show((bM L.length).map _).length=_;rw[ay,cZ];rfl⟩
 .have:=IK (R:=L.length) hn L 0 0 [] hr (by lia) ⟨⟨cg _,λp h=>nomatch h⟩,(λp y h=>nomatch h),λj=>.inl λp=>rfl⟩;rw[kP]at this;exact this
 .obtain⟨i,hi,rfl⟩:=aJ.mp c;exact eW.mpr (fY.mp hi)
inductive Wh where
 |ch
 |gd (y:Wy)
 |gp (ks:LI0)
 |wd (i:Int)
abbrev Wh.D:Wh->L2.D
 |.ch=>.non
 |.gd y=>wyD y
 |.gp ks=>.tup [.str "group",.lst (ks.map .int)]
 |.wd i=>.tup [.str "world",.int i]
abbrev mkS(n:Nat)(ks:LI0):LB0:=(bM n).map (inS ks)
def pQ(n:Nat)(ks:LI0):(mkS n ks).length=n:=by unfold mkS;rw[ay,cZ]
variable{ks:LI0}
def lS(t0:0<=t)(t1:t<(n:Int)):(mkS n ks).getD t.toNat af=ac↔t∈ks:=by
 delta mkS inS
 rw[bV,cM,List.getElem?_range (by lia)];show(ks.any λx=>x==_)=ac↔_;rw[any_eq_true];constructor
 .rintro⟨x,a,e⟩
  rwa [show t=x by lia]
 .intro h;exact⟨t,h,by rw[beq_iff_eq];lia⟩
nonrec abbrev d5(G:List Prt)(es:LOB):Prop:=∀p∈G,p.sure es=ac
structure GpR(n:Nat)(L:LRu)(es:LOB)(ks:LI0):Prop where
 nn:∀x∈ks,0<=x/\x<(n:Int)
 nd:ks.Nodup
 i:∃x∈ks,es.getD x.toNat ab=aa ac
 up:∀r∈fF L,r.hd∈ks->r.bodyLost es (mkS n ks)=ac
abbrev Rt(n:Nat)(L:LRu)(bs:LLP)(es:LOB):Wh->Prop
 |.ch=>False
 |.gd y=>y∈gys L.length bs.length/\d5 (bL L bs y) es
 |.gp ks=>GpR n L es ks
 |.wd _=>∀k,k<n->es.getD k ab≠ab
nonrec def Stp:=Pr×Wh
nonrec abbrev LSp:=List Stp
abbrev stD(x:Stp):D:=.tup [prD x.1,x.2.D]
abbrev aW(n:Nat):LSp->LOB
 | []=>gW n ab
 |x::st=>put (aW n st) x.1.1.toNat x.1.2
abbrev Wh.nc:Wh->Bool
 |.gd _=>ac
 |.gp _=>ac
 | _=>af
structure UL(n:Nat)(L:LRu)(bs:LLP)(es:LOB)(x:Stp):Prop where
 t0:0<=x.1.1
 t1:x.1.1<(n:Int)
 op:opn es x.1.1=ac
 ok:(x.2=.ch/\x.1.2=ac/\∀j:Nat,(j:Int)<x.1.1->es.getD j ab≠ab)\/(x.2.nc=ac/\Rt n L bs (put es x.1.1.toNat (!x.1.2)) x.2)
abbrev Tr(n:Nat)(L:LRu)(bs:LLP):LSp->Prop
 | []=>True
 |x::st=>Tr n L bs st/\UL n L bs (aW n st) x
def eZ(n:Nat):∀st:LSp,(aW n st).length=n
 | []=>lW
 |x::st=>by rw[aW,b7,eZ n st]
structure TrS(n:Nat)(L:LRu)(s:Spt)(st:LSp):Prop where
 sv:s.st=st.reverse.map stD
 es:s.es=aW n st
 tr:Tr n L s.bs st
variable{st:LSp}{w:Wh}
def TrS.pt(h:TrS n L s st)(t0:0<=t)(t1:t<(n:Int))(a:opn s.es t=ac)(c:w.nc=ac)(k:Rt n L s.bs (put s.es t.toNat (!b)) w):TrS n L (s.pt t b w.D) (((t,b),w)::st):=by
 refine⟨?_,?_,h.tr,t0,t1,h.es▸a,.inr ⟨c,h.es▸k⟩⟩
 .show s.st++[_]=_;rw[h.sv,iQ,a8];rfl
 .show put s.es _ _=_;rw[h.es];rfl
abbrev TrM(n:Nat)(L:LRu)(st:LSp)(s:Spt):Prop:=∃xt:LSp,TrS n L s (xt++st)/\∀x∈xt,x.2.nc=ac
def TrM.refl(h:TrS n L s st):TrM n L st s:=⟨[],h,λ_ h=>nomatch h⟩
def TrM.pt(h:TrM n L st s)(t0:0<=t)(t1:t<(n:Int))(a:opn s.es t=ac)(c:w.nc=ac)(k:Rt n L s.bs (put s.es t.toNat (!b)) w):TrM n L st (s.pt t b w.D):=by
 obtain⟨xt,h,d⟩:=h;refine⟨_::xt,h.pt t0 t1 a c k,λx q=>?_⟩
 grind
def TrM.same{a:Spt}(h:TrM n L st s)(b:a.st=s.st)(c:a.es=s.es)(d:a.bs=s.bs):TrM n L st a:=by
 obtain⟨xt,h,e⟩:=h;exact⟨xt,⟨by rw[b];exact h.sv,by rw[c];exact h.es,by rw[d];exact h.tr⟩,e⟩
def Dc{n:Nat}{L:LRu}{y:Wy}{st:LSp}:∀{ps:List Pr} {s:Spt},y∈gys L.length s.bs.length->s.es.length=n->(∀p∈bL L s.bs y,p.Ok s.es.length)->fG s.es ps->(∀z∈ps,d5 (bL L s.bs y) (put s.es z.1.toNat (!z.2)))->TrM n L st s->TrM n L st (puts s (wyD y) ps)
 | [],_,_,_,_,_,_,h=>h
 |z::ps,s,hy,hl,hG,k,hp,h=>by
  obtain⟨⟨a,b⟩,e⟩:=k.op z aF;obtain⟨d,g⟩:=cf.mp k.nd;refine Dc (s:=s.pt z.1 z.2 _) hy ((b7 _ _ _).trans hl) (λp q=>by show p.Ok (put s.es z.1.toNat z.2).length;rw[b7];exact hG p q) k.tail (λx c p q=>?_) (h.pt (w:=.gd y) a (by lia) e rfl ⟨hy,hp z aF⟩);obtain⟨⟨f,i⟩,j⟩:=k.op x (bq _ c);have ne:z.1≠x.1:=λe=>d (aJ.mpr ⟨x,c,e.symm⟩);show p.sure (put (put s.es z.1.toNat z.2) x.1.toNat _)=ac;rw[vC (by lia)];exact vw (by rw[b7];exact hG p q) a (by rw[b7];exact b) (vE a f ne e) _ (hp x (bq _ c) p q)
def sA{n c V3:Nat}{L:LRu}{st:LSp}(hr:∀r∈L,RuK n r):∀(k:Nat) (s:Spt),SpJ n c V3 L s->TrM n L st s->TrM n L st (lrF L k s).2
 | 0,_,_,h=>h
 |k+1,s,h,q=>by
  cases a:s.wt with
  |nil=>rw[sm a];exact q
  |cons y wt=>
   obtain⟨f,_,g⟩:=h.pop a;have d:∀p∈bL L s.bs y,p.Ok s.es.length:=by rw[h.es];exact nI hr h.bk
   cases b:prs _ s.es with
   |none=>rw[sn a b];exact q.same rfl rfl rfl
   |some ps=>
    rw[pP a b];obtain⟨e,i,_⟩:=nH d b;exact sA hr k _ (nG f e).1 (Dc g h.es d e (λz hz=>((i z).mp hz).2.2) (q.same rfl rfl rfl))
variable{wo':LB0}
def IL(h:p.Ok es.length)(a:∀t∈nmP p,es.getD t.toNat ab=aa ac->es'.getD t.toNat ab=aa ac)(h2:∀t∈nmP p,(es.getD t.toNat ab=aa af\/wo.getD t.toNat af=ac)->(es'.getD t.toNat ab=aa af\/wo'.getD t.toNat af=ac))(s:p.lost es wo=ac):p.lost es' wo'=ac:=by
 cases p with
 |inn t=>
  have s:(_ || wo.getD t.toNat af)=ac:=s;show(_ || wo'.getD t.toNat af)=ac;rw[kH]at s ⊢
  rcases h2 t aF (s.imp beq_iff_eq.mp id)with q |q
  .grind
  .grind
 |out t=>exact beq_iff_eq.mpr (a _ aF (beq_iff_eq.mp s))
 |least k B=>
  refine decide_eq_true (Int.lt_of_le_of_lt (lz λz hz=>⟨(h.1 z hz).2.2,λq=>?_⟩) (of_decide_eq_true s))
  cases b:(!_ && !_)with
  |true=>rfl
  |false=>
   have:es.getD z.1.toNat ab=aa af\/wo.getD z.1.toNat af=ac:=by
    grind
   rcases h2 z.1 (aJ.mpr ⟨z,hz,rfl⟩) this with u |u
   .grind
   .grind
 |most k B=>
  refine decide_eq_true (Int.lt_of_lt_of_le (of_decide_eq_true s) ?_);rw[ls,ls];exact lz λz hz=>⟨(h.1 z hz).2.2,λq=>beq_iff_eq.mpr (a _ (aJ.mpr ⟨z,hz,rfl⟩) (beq_iff_eq.mp q))⟩
variable{r:Rul}
def UM(g:es.length=n)(hr:r.Ok n)(h:Kp es wo ks r):r.bodyLost es (mkS n ks)=ac:=by
 subst g;obtain⟨p,c,l,a⟩:=h;have b:=hr.ps p c;refine any_eq_true.mpr ⟨p,c,?_⟩;unfold kpL at a
 by_cases d:p.lost es ((bM es.length).map (inS []))=ac
 .refine uj (cK.refl _) ⟨by rw[pQ,ay,cZ],λi hi=>?_⟩ b d;rw[bV,cM]at hi
  cases e:(bM es.length)[i]? with
  |none=>rw[e]at hi;nomatch hi
  |some j=>rw[e]at hi;nomatch hi
 .rw[if_neg d]at a;refine IL b (λ_ _ e=>e) (λt f e=>e.imp id λw=>?_) l;obtain⟨t0,t1⟩:=pM b t f;exact(lS t0 t1).mpr (a t (cm.mpr ⟨rW.mpr f,w⟩))
def ss.gp(h:ss es wo ms t ks)(a:es.length=n)(hm:∀r∈ms,r.Ok n)(pm:ms.Perm (fF L))(f:cK es es')(hi:es'.getD t.toNat ab=aa ac):GpR n L es' ks:=by
 subst a;refine⟨λx c=>(h.el x c).1,h.nd,⟨t,h.mt,hi⟩,λr hr hd=>?_⟩;have hr:=pm.mem_iff.mpr hr;exact qS (λp b z=>uj f (mS.refl _) ((hm r hr).ps p b) z) (UM rfl (hm r hr) (h.kp r hr hd))
def IM{n c V3:Nat}{L:LRu}{wo:LB0}{st:LSp}(hn:n<=60):∀{ts:LI0} {s:Spt},SpJ n c V3 L s->eY n s.ms->GpL s.ms s.es wo->(∀t∈ts,wo.getD t.toNat af=ac)->fG s.es (ts.map λt=>(t,af))->TrM n L st s->TrM n L st (eD L wo s ts)
 | [],_,_,_,_,_,_,h=>h
 |t::ts,s,h,hm,hg,hw,k,q=>by
  obtain⟨⟨a,b⟩,e⟩:=k.op _ aF;have b:t<n:=by rw[<- h.es];exact b
  have a:0<=t:=a;obtain⟨ks,d,_,f⟩:=C9 hn h.es hm hg a b (hw t aF);refine IM hn (s:=s.pt t af _) (h.pt a b e).1 hm (hg.up (vK a e) (by rw[h.es];exact hm.ok)) (λu g=>hw u (bq _ g)) k.tail ?_;unfold sx;rw[d];exact(q.pt (w:=.gp ks) a b e rfl (f.gp h.es hm.ok h.ms (vK a e) (eU s.es ac (by rw[h.es];lia))))
def UN(hr:∀r∈L,RuK n r)(hz:L.length<=1000)(hn:n<=60)(h:SpJ n c V3 L s)(q:TrM n L st s):TrM n L st (bD L s).2/\∀w,(bD L s).1=aa w->∃ks,w=(Wh.gp ks).D/\GpR n L (bD L s).2.es ks:=by
 have hm:=eY.of hr hz h.ms;obtain⟨f,g,pm,i⟩:=h.rem' hm;have a:eY n (reM s).ms:=⟨λr q=>hm.ok r (pm.mem_iff.mp q),λr q=>hm.nm r (pm.mem_iff.mp q),λr q=>hm.ne r (pm.mem_iff.mp q),by rw[pm.length_eq];exact hm.len⟩;have b:GpL (reM s).ms (reM s).es (cb s.es s.ms).1:=⟨g.1,λr q=>g.2 r (pm.mem_iff.mp q)⟩;have m:TrM n L st (reM s):=q.same rfl rfl rfl;unfold bD
 cases l:inL s.es (cb s.es s.ms).1 with
 |cons x C=>
  refine⟨m,λw e=>?_⟩;cases e;have B:x∈inL s.es (cb s.es s.ms).1:=by rw[l];exact aF
  obtain⟨p,z,rfl⟩:=aJ.mp B;obtain⟨d,j⟩:=cm.mp z;have ⟨h4,h5⟩:=(cL _ _).mp j;have y:=(cU.mp (kG d)).1;obtain⟨ks,u,_,v⟩:=C9 (t:=p.1) hn f.es a b (by lia) (by rw[<- h.es];lia) (by rw[dE];exact h4);refine⟨ks,?_,v.gp f.es a.ok f.ms (cK.refl _) ?_⟩
  .unfold sx;rw[u];rfl
  .show s.es.getD (p.1:Int).toNat ab=aa ac;rw[dE,bV,(kG d)]
   exact eq_of_beq h5
 |nil=>exact⟨IM hn f a b (λt A=>(II.mp A).2) (sy g.1 l i) m,λw e=>nomatch e⟩
structure StS(n:Nat)(L:LRu)(s:Spt)(R:OD×Spt):Prop where
 tw:R.2.tw=s.tw
 pp:R.2.pp=s.pp
 ct:R.2.ct=s.ct
 en:R.2.en=s.en
 wy:∀w,R.1=aa w->∃wh:Wh,w=wh.D/\wh.nc=ac/\Rt n L s.bs R.2.es wh
def IN(w:D):∀(ps:List Pr) (s:Spt),(puts s w ps).tw=s.tw/\(puts s w ps).pp=s.pp/\(puts s w ps).ct=s.ct/\(puts s w ps).en=s.en
 | [],_=>⟨rfl,rfl,rfl,rfl⟩
 |z::ps,s=>IN w ps _
def IP(L:LRu):∀k s,(lrF L k s).2.tw=s.tw/\(lrF L k s).2.pp=s.pp/\(lrF L k s).2.ct=s.ct/\(lrF L k s).2.en=s.en
 | 0,s=>⟨rfl,rfl,rfl,rfl⟩
 |k+1,s=>by
  cases e:s.wt with
  |nil=>rw[sm e];exact⟨rfl,rfl,rfl,rfl⟩
  |cons y wt=>
   cases f:prs _ s.es with
   |none=>rw[sn e f];exact⟨rfl,rfl,rfl,rfl⟩
   |some ps=>
    rw[pP e f];obtain⟨a,b,c,d⟩:=IP L k _
    obtain⟨g,h,i,d'⟩:=IN _ ps {s with wt:=wt}
    exact⟨a.trans g,b.trans h,c.trans i,d.trans d'⟩
def IQ(L:LRu)(wo:LB0):∀(ts:LI0) (s:Spt),(eD L wo s ts).tw=s.tw/\(eD L wo s ts).pp=s.pp/\(eD L wo s ts).ct=s.ct/\(eD L wo s ts).en=s.en
 | [],_=>⟨rfl,rfl,rfl,rfl⟩
 |t::ts,s=>IQ L wo ts _
def vN{n c V3:Nat}{L:LRu}{st:LSp}(hr:∀r∈L,RuK n r)(hz:L.length<=1000)(hn:n<=60):∀(k:Nat) (s:Spt),SpJ n c V3 L s->TrM n L st (lrF L (Me c s+1) s).2->TrM n L st (stF L c (k+1) s).2/\StS n L s (stF L c (k+1) s)
 |k,s,h,lt=>by
  have l:=sr hr _ s h (c6 _);obtain⟨a,b,d,f⟩:=IP L _ s;dsimp only[stF];generalize lrF L _ s=R at l lt a b d f;split
  .rename_i E;obtain⟨y,p⟩:=wz.mp E;refine⟨lt,a,b,d,f,λw e=>?_⟩;rw[p]at e;cases e;exact⟨.gd y,rfl,rfl,l.ye y p⟩
  .obtain⟨q,H,_⟩:=vM hr hz l.ok;obtain⟨pt,J⟩:=UN hr hz hn l.ok lt
   have I:(bD L R.2).2.tw=R.2.tw/\(bD L R.2).2.pp=R.2.pp/\(bD L R.2).2.ct=R.2.ct/\(bD L R.2).2.en=R.2.en:=by
    unfold bD;split
    .exact⟨rfl,rfl,rfl,rfl⟩
    .exact IQ _ _ _ _
   generalize bD L R.2=P at *;obtain⟨g,i,j,m⟩:=I;split
   .refine⟨pt,g.trans a,i.trans b,j.trans d,m.trans f,λw e=>?_⟩;obtain⟨ks,B,C⟩:=J w e;exact⟨.gp ks,B,rfl,C⟩
   .cases k with
    |zero=>exact⟨pt,g.trans a,i.trans b,j.trans d,m.trans f,λw e=>nomatch e⟩
    |succ k=>
     obtain⟨G,u,v,x,z,A⟩:=vN hr hz hn k P.2 q (sA hr _ _ q pt);exact⟨G,u.trans (g.trans a),v.trans (i.trans b),x.trans (j.trans d),z.trans (m.trans f),λw e=>by rw[<- (H.trans l.bs)];exact A w e⟩
nonrec def wS(B:LII)(S:LI0):Int:=bY (λt=>decide (t∈S)) B
def pR(p:Int->Bool)(z:Int×Int)(B:LII):bY p (z::B)=(if p z.1=ac then z.2 else 0)+bY p B:=by
 unfold bY
 rw[filter_cons];split
 .rw[bF,sum_cons]
 .omega
def IR{p:Int->Bool}{t:Int}(h:p t=af):∀B:LII,bY (λu=>p u || u==t) B=bY p B+wt B t
 | []=>rfl
 |z::B=>by
  have e0:wt _ t=bY (λu=>u==t) (z::B):=rfl;have a:wt B t=bY (λu=>u==t) B:=rfl;rw[e0,pR,pR,pR,(IR h B),a]
  grind
def IS{S:LI0}(h:t∉S):wS B (S++[t])=wS B S+wt B t:=by
 rw[<- IR (decide_eq_false h)];refine FG λz _=>?_;rw[jT];simp
def IT(p:Int->Bool):∀B:LII,bY p B+bY (λt=>!p t) B=bY (λ_=>ac) B
 | []=>rfl
 |z::B=>by
  rw[pR,pR,pR,<- (IT p B)]
  grind
def UO(e:InN n B)(hz:B.length<=100000)(a:LI0)(v:a.length<=1000)(nd:a.Nodup)(lack:Int):∃d,m_7 [.lst (B.map itD),.lst (a.map D.int),.int lack]=aa d/\∃ks:LI0,d=.lst (ks.map D.int)/\(∀k∈ks,k∈a)/\ks.length<=a.length/\(lack<=wS B a->lack<=wS B ks):=by
 apply lD;apply ak;refine bn (aD rfl (Ig B hz)) ?_;walk_at "nrm";apply ak;refine dM rfl ?_;walk_at "nrm";apply ak;refine bn rfl ?_;walk_at "nrm";apply ak;refine dC a D.int (λpre M=>∃(ks:LI0) (left:Int) (g i:Sl),M=[.im _,.im _,.im _,.im _,.own (ks.map D.int),.im (.int left),g,i]/\(∀k∈ks,k∈pre)/\ks.length<=pre.length/\left=lack-wS B ks/\(0<left->wS B ks=wS B pre)) rfl ⟨[],lack,_,_,rfl,(λk h=>nomatch h),aM _,by rw[show wS B []=0 by unfold wS bY;rw[filter_eq_nil_iff.mpr λz _=>by simp];rfl];lia,λ_=>rfl⟩ ?_ ?_
 .rintro pre t post M ex ⟨ks,left,g,i,rfl,b,h2,j,l⟩
  have c:=λq=>by
   rw[ex]at nd;exact(e8.mp nd).2.2 t q t aF rfl
  have m:pre.length<a.length:=by rw[ex];simp
  have w:=CO e t;have r:=IS (B:=B) c;have u:=IS (B:=B) λq=>c (b t q);refine⟨_,rfl,?_⟩;walk_at "nrm";apply ak;refine bn (d:=.int (wt B t)) ?_ ?_
  .rw[<- (pN B).get];show aa ((gL _ _ _).getD _)=_;rw[Ic]
  walk_at "nrm";refine aY (jI (bA (ap rfl rfl mU)) (bA (ap rfl rfl mU))) (λz=>?_) λz=>?_
  .obtain⟨x,y⟩:=(cL _ _).mp z;apply ak;refine fS rfl rfl (by rw[ay];lia) ?_;walk_at "nrm";refine⟨_,rfl,ks++[t],left-wt B t,.im (.int t),.im (.int (wt B t)),?_,λk f=>?_,?_,by lia,λ_=>by lia⟩
   .rw[a8];rfl
   .rcases bv.mp f with q |q
    .exact bS _ (b k q)
    .exact ce _ q
   .rw[aR,aR];exact Nat.add_le_add_right h2 _
  .refine b5 ⟨ks,left,_,_,rfl,λk f=>bS _ (b k f),by rw[aR];lia,j,λq=>?_⟩;rw[decide_eq_true q,pY]at z
   lia
 .rintro M ⟨ks,left,g,i,rfl,b,h2,j,l⟩;refine mV rfl (jN ⟨ks,rfl,b,h2,λq=>?_⟩)
  by_cases p:0<left
  .rw[l p];exact q
  .lia
def UP(e:Option Bool)(b:Bool):dEq (shD e) (.bl b)=aa (.bl (e==aa b)):=by
 cases e with
 |none=>rfl
 |some c=>cases b <;> cases c <;> rfl
abbrev wth(es:LOB)(b:Bool)(ord:LI0):LI0:=ord.filter λt=>es.getD t.toNat ab==aa b
variable{ord:LI0}
def vO(a:∀t∈ord,0<=t/\t<(es.length:Int))(d:ord.length<=1000)(b:Bool):pH [.lst (ord.map D.int),.lst (es.map shD),.bl b]=aa (.lst ((wth es b ord).map D.int)):=
 lx (congrArg _ (eR ord D.int _ D.int rfl (by lia) λt c=>dJ rfl (bA (ap (bf rfl rfl (jc (a t c).1 (a t c).2)) rfl (UP _ _))) λ_=>rfl))
def IU(B:LII)(hz:B.length<=100000):u9 [.lst (B.map itD)]=aa (.int (bY (λ_=>ac) B)):=by
 exact dA (dz (aD (ao (bQ (eR B itD _ _ rfl (by lia) λz _=>dJ rfl rfl λ_=>rfl)) rfl) (yn (λ_=>ac) B)))
structure gS(es:LOB)(ord:LI0):Prop where
 nn:∀t∈ord,0<=t/\t<(es.length:Int)
 nd:ord.Nodup
 al:∀t:Int,0<=t->t<(es.length:Int)->es.getD t.toNat ab≠ab->t∈ord
def gS.len(h:gS es ord):ord.length<=es.length:=sh h.nd h.nn
abbrev Agr(ks:LI0)(es e':LOB):Prop:=e'.length=es.length/\∀k∈ks,e'.getD k.toNat ab=es.getD k.toNat ab
structure vP(es:LOB)(ks:LI0)(P:LOB->Prop):Prop where
 nn:∀k∈ks,(0<=k/\k<(es.length:Int))/\es.getD k.toNat ab≠ab
 ln:ks.length<=60
 ok:∀e',Agr ks es e'->P e'
def Dd:t∈wth es b ord↔t∈ord/\es.getD t.toNat ab=aa b:=by
 unfold wth;rw[cm,beq_iff_eq]
def UQ(h:gS es ord)(a:InN es.length B)(b:Bool):wS B (wth es b ord)=bY (λt=>es.getD t.toNat ab==aa b) B:=FG λz hz=>by
 rw[jT,decide_eq_true_eq,Dd,beq_iff_eq];refine⟨λq=>q.2,λq=>⟨h.al z.1 (a z hz).1 (a z hz).2.1 (by grind),q⟩⟩
def vQ(h:gS es ord)(hn:es.length<=60)(f:InN es.length B)(hz:B.length<=100000)(b:Bool)(lack:Int)(l:lack<=bY (λt=>es.getD t.toNat ab==aa b) B):∃ks:LI0,m_7 [.lst (B.map itD),.lst ((wth es b ord).map D.int),.int lack]=aa (.lst (ks.map D.int))/\vP es ks λe'=>lack<=bY (λt=>e'.getD t.toNat ab==aa b) B:=by
 have m:=h.len;have wl:(wth es b ord).length<=ord.length:=gV _ _;obtain⟨d,e,ks,rfl,g,h2,i⟩:=UO f hz (wth es b ord) (by lia) (h.nd.sublist nQ) lack;refine⟨ks,e,λk j=>?_,by lia,λe' ha=>?_⟩
 .obtain⟨a,c⟩:=Dd.mp (g k j);exact⟨h.nn k a,by rw[c];grind⟩
 .refine Int.le_trans (i (by rw[UQ h f b];exact l)) (lz λz hz=>⟨(f z hz).2.2,λq=>?_⟩);have q:=of_decide_eq_true q;rw[beq_iff_eq,ha.2 _ q];exact(Dd.mp (g _ q)).2
def vR{P:LOB->Prop}(h:0<=t/\t<(es.length:Int))(a:es.getD t.toNat ab=aa b)(k:∀e':LOB,e'.getD t.toNat ab=aa b->P e'):vP es [t] P:=⟨λx c=>by rw[bE.mp c];exact⟨h,by rw[a];exact λe=>nomatch e⟩,(by decide:1<=60),λe' ha=>k e' ((ha.2 t aF).trans a)⟩
def vS{k:Int}(e:LOB):bY (λt=>!(e.getD t.toNat ab==aa af)) B<=k↔bY (λ_=>ac) B-k<=bY (λt=>e.getD t.toNat ab==aa af) B:=by
 have:=IT (λt=>e.getD t.toNat ab==aa af) B;lia
def sure_by(p:Prt)(c:p.Ok es.length)(h:gS es ord)(hn:es.length<=60)(d:p.sure es=ac)(a:fo M=aa p.obj)(ha:fa M=aa [.lst (es.map shD),.lst (ord.map D.int)]):
  ∃ks:LI0,bd (aL "In" "sure_by" Bq fo fa) (bd (aL "Out" "sure_by" Bz fo fa) (bd (aL "Least" "sure_by" Bu fo fa) (aL "Most" "sure_by" Bx fo fa))) M=aa (.lst (ks.map D.int))/\vP es ks λe'=>p.sure e'=ac:=by
 have f:=h.len
 cases p with
 |inn t=>exact⟨[t],dL ((cw a rfl ha).trans rfl),vR c (beq_iff_eq.mp d) λe' q=>beq_iff_eq.mpr q⟩
 |out t=>exact⟨[t],bB (bC a (by decide)) (dL ((cw a rfl ha).trans rfl)),vR c (beq_iff_eq.mp d) λe' q=>beq_iff_eq.mpr q⟩
 |least k B=>
  obtain⟨ks,e,b⟩:=vQ h hn c.1 c.2 ac k (of_decide_eq_true d)
  exact⟨ks,bB (bC a (by decide)) (bB (bC a (by decide)) (dL ((cw a rfl ha).trans (dA (dz (aD (ao rfl (ao (aD rfl (vO h.nn (by lia) ac)) (ao rfl rfl))) e)))))),b.nn,b.ln,λe' q=>decide_eq_true (b.ok e' q)⟩
 |most k B=>
  obtain⟨ks,e,b⟩:=vQ h hn c.1 c.2 af _ ((vS es).mp (of_decide_eq_true d));exact⟨ks,bB (bC a (by decide)) (bB (bC a (by decide)) (bB (bC a (by decide)) ((cw a rfl ha).trans (dA (dz (aD (ao rfl (ao (aD rfl (vO h.nn (by lia) af)) (ao (ap (aD rfl (IU B c.2)) rfl lG) rfl))) e)))))),b.nn,b.ln,λe' q=>decide_eq_true ((vS e').mpr (b.ok e' q))⟩
def UR(p:Prt)(c:p.Ok es.length)(m:wo.length=es.length)(h:gS es ord)(hn:es.length<=60)(d:p.lost es wo=ac)(a:fo M=aa p.obj)(ha:fa M=aa [.lst (es.map shD),.lst (wo.map D.bl),.lst (ord.map D.int)]):
  ∃ks:LI0,bd (aL "In" "lost_by" BB fo fa) (bd (aL "Out" "lost_by" BI fo fa) (bd (aL "Least" "lost_by" BE fo fa) (aL "Most" "lost_by" BG fo fa))) M=aa (.lst (ks.map D.int))/\vP es ks λe'=>p.lost e' wo=ac:=by
 have r:=h.len
 cases p with
 |inn t=>
  have f:=jK c.1 (by rw[m];exact c.2);have d:(_ || wo.getD t.toNat af)=ac:=d
  cases g:wo.getD t.toNat af with
  |true=>
   rw[g]at f
   exact⟨[],dL ((cw a rfl ha).trans (dA (dz (lE (df (bf rfl rfl f) rfl) (λ_=>rfl) λe=>nomatch e)))),(λk q=>nomatch q),cg _,λe' _=>by show(_ || wo.getD t.toNat af)=ac;rw[g];exact pZ _⟩
  |false=>
   rw[g]at f;rw[g,Bool.or_false]at d
   exact⟨[t],dL ((cw a rfl ha).trans (dA (dz (lE (df (bf rfl rfl f) rfl) (λe=>nomatch e) λ_=>rfl)))),vR c (beq_iff_eq.mp d) λe' q=>by show(_ || _)=ac;rw[q];rfl⟩
 |out t=>exact⟨[t],bB (bC a (by decide)) (dL ((cw a rfl ha).trans rfl)),vR c (beq_iff_eq.mp d) λe' q=>beq_iff_eq.mpr q⟩
 |least k B=>
  have n:=gV (λz:Int×Int=>!(wo.getD z.1.toNat af)) B;have i:InN es.length (B.filter λz=>!(wo.getD z.1.toNat af)):=λz hz=>c.1 z (cm.mp hz).1;have j:∀e':List _,bY _ B=_:=λe'=>(EM (λt=>!(e'.getD t.toNat ab==aa af)) (λt=>!(wo.getD t.toNat af)) B).symm;have l:=HH c.1 m c.2;have d:=of_decide_eq_true d;rw[j]at d;generalize B.filter _=left at n i j l d;obtain⟨ks,e,b⟩:=vQ h hn i (by have:=c.2;lia) af (bY (λ_=>ac) left-k+1) (by have:=(vS es).mp (by lia:bY _ left<=k-1);lia);refine⟨ks,bB (bC a (by decide)) (bB (bC a (by decide)) (dL ((cw a rfl ha).trans ?_))),b.nn,b.ln,λe' q=>decide_eq_true ?_⟩
  .refine dA (ug (Fz (aD rfl l)) (dz (aD (ao rfl (ao (aD rfl (vO h.nn (by lia) af)) (ao (ap (ap (aD rfl (IU left (by have:=c.2;lia))) rfl lG) rfl gh) rfl))) e)))
  .rw[j];have:=b.ok e' q;have:=(vS (k:=k-1) (B:=left) e').mpr (by lia)
   lia
 |most k B=>
  obtain⟨ks,e,b⟩:=vQ h hn c.1 c.2 ac _ (of_decide_eq_true d);exact⟨ks,bB (bC a (by decide)) (bB (bC a (by decide)) (bB (bC a (by decide)) ((cw a rfl ha).trans (dA (dz (aD (ao rfl (ao (aD rfl (vO h.nn (by lia) ac)) (ao (ap rfl rfl gh) rfl))) e)))))),b.nn,b.ln,λe' q=>decide_eq_true (b.ok e' q)⟩
structure pS(es:LOB)(gs:LI0)(P:LOB->Prop):Prop where
 nn:∀k∈gs,(0<=k/\k<(es.length:Int))/\es.getD k.toNat ab≠ab
 ln:gs.length<=100000
 ok:∀e',Agr gs es e'->P e'
variable{ys:LI0}{e':LOB}
def Agr.left{C:LI0}(h:Agr (C++ys) es e'):Agr C es e':=⟨h.1,λk a=>h.2 k (bS _ a)⟩
def Agr.right{C:LI0}(h:Agr (C++ys) es e'):Agr ys es e':=⟨h.1,λk a=>h.2 k (ce _ a)⟩
def US{a:Type}(y:a)(l:List a):((y::l).drop (HT.sIx (y::l).length 0 ab)).take (HT.sIx (y::l).length (y::l).length (aa 1)-HT.sIx (y::l).length 0 ab)=[y]:=by
 rfl
variable{es0:LOB}{b c:L2.D}
def UT(hl:es.length=n)(hn:n<=60)(hm:eY n ms)(pm:ms.Perm (fF L))(h:gS es ord)(m:GpR n L es ks):
  ∃gs:LI0,o_9 [slf es0 a b c d e C ms,.lst (es.map shD),.lst (ks.map D.int),.lst (ord.map D.int)]=aa (gs.map D.int)/\pS es gs λe'=>GpR n L e' ks:=by
 subst hl;have ol:=h.len;have kl:=sh m.nd m.nn;have hml:=hm.len
 suffices z:wp b_9 _ (λr=>∃gs:LI0,r=.rtO (gs.map D.int)/\pS es gs λe'=>GpR es.length L e' ks) by
  obtain⟨r,e,gs,rfl,h⟩:=z;exact⟨gs,mW e,h⟩
 apply ak;refine bn (aD (ao (aD rfl (d9 es shD)) (ao rfl rfl)) (HF es.length ks (by lia) (by lia) (by lia))) ?_;apply ak;have B:∀t:Int,0<=t->t<_->atI ((mkS es.length ks).map D.bl) t=aa _:=λt t0 t1=>jK t0 (by rw[pQ];exact t1);refine dM (oY (bQ (eR ord D.int _ D.int rfl (by lia) λt T=>dJ rfl (jI (df (bf rfl rfl (B t (h.nn t T).1 (h.nn t T).2)) rfl) (bA (ap (bf rfl rfl (jc (h.nn t T).1 (h.nn t T).2)) rfl (oT _ _)))) λ_=>rfl)) rfl rfl) ?_
 obtain⟨g,gl,hg0,I⟩:∃g gl,(ord.filter λt=>(mkS es.length ks).getD t.toNat af && (es.getD t.toNat ab==aa ac))=g::gl/\g∈ord/\g∈ks/\es.getD g.toNat ab=aa ac:=by
  obtain⟨x,U,ex⟩:=m.i;obtain⟨x0,x1⟩:=m.nn x U;have H:x∈ord.filter λt=>(mkS es.length ks).getD t.toNat af && (es.getD t.toNat ab==aa ac):=cm.mpr ⟨h.al x x0 x1 (by rw[ex];exact λq=>nomatch q),by rw[(lS x0 x1).mpr U,ex];rfl⟩
  cases j:ord.filter _ with
  |nil=>rw[j]at H;nomatch H
  |cons y l=>
   have hy:y∈ord.filter λt=>(mkS es.length ks).getD t.toNat af && (es.getD t.toNat ab==aa ac):=by rw[j];exact aF
   obtain⟨y1,y2⟩:=cm.mp hy;obtain⟨y2,y3⟩:=(cL _ _).mp y2;obtain⟨z0,z1⟩:=h.nn y y1;exact⟨y,l,rfl,y1,(lS z0 z1).mp y2,beq_iff_eq.mp y3⟩
 rw[hg0,US];apply ak;refine dC ms mkD (λpre M=>∃(gs:LI0) (v6 v7:Sl),M=[.im _,.im _,.im _,.im _,.im _,.own (gs.map D.int),v6,v7]/\(∀k∈gs,(0<=k/\k<_)/\es.getD k.toNat ab≠ab)/\gs.length<=1+60*pre.length/\g∈gs/\∀r∈pre,r.hd∈ks->∀e',Agr gs es e'->r.bodyLost e' (mkS es.length ks)=ac) rfl ⟨[g],_,_,rfl,(λk u=>by rw[bE.mp u];exact⟨h.nn g I.1,by rw[I.2.2];exact λq=>nomatch q⟩),aM _,aF,λr hr=>nomatch hr⟩ ?_ ?_
 .rintro pre r post M ex ⟨gs,v6,v7,rfl,J,h2,N,Q⟩;have w:r∈ms:=by rw[ex];simp
  have hpl:pre.length<ms.length:=by rw[ex];simp
  have A:=hm.ok r w;obtain⟨Y,d1⟩:=A.hd (hm.ne r w);refine⟨_,rfl,?_⟩;refine aY (df (bf rfl rfl (B r.hd Y d1)) rfl) (λz=>?_) λz=>?_
  .have u:=(lS Y d1).mp z
   cases j:r.ps.find? _ with
   |none=>
    have:=CK (es:=es) (wo:=mkS es.length ks) r;rw[j,(m.up r (pm.mem_iff.mp w) u)]at this
    nomatch this
   |some p=>
    have G:=wj j;have E:=CJ (wo:=mkS es.length ks) r.ps A.ps (pQ _ _);rw[j]at E;obtain⟨js,e1,e2⟩:=UR (M:=[.im _,.im _,.im _,.im _,.im _,.own _,.im _,.im _]) (fo:=av m_5 (ag (ae 7) (ag (ae 1) (ag (ae 4) λ_=>aa [])))) (fa:=ag (ae 1) (ag (ae 4) (ag (ae 3) λ_=>aa []))) p (A.ps p G) (pQ _ _) h hn (find?_some j) (aD rfl E) rfl;have:=e2.ln;refine⟨_,CF e1 rfl (by rw[ay,ay];lia),gs++js,_,_,by rw[a8];rfl,λk u=>?_,?_,bS _ N,λr' v f e' ha=>?_⟩
    .rcases bv.mp u with q |q
     .exact J k q
     .exact e2.nn k q
    .simp only[aR,aR,fX];lia
    .rcases bv.mp v with q |q
     .exact Q r' q f e' ha.left
     .rw[bE.mp q];exact any_eq_true.mpr ⟨p,G,e2.ok e' ha.right⟩
  .refine b5 ⟨gs,_,_,rfl,J,by rw[aR];lia,N,λr' v f=>?_⟩
   rcases bv.mp v with q |q
   .exact Q r' q f
   .rw[bE.mp q]at f;rw[(lS Y d1).mpr f]at z
    nomatch z
 .rintro M ⟨gs,v6,v7,rfl,J,h2,N,Q⟩;refine mV rfl ⟨gs,rfl,J,by lia,λe' ha=>⟨λx U=>m.nn x U,m.nd,⟨g,I.2.1,by rw[ha.2 g N];exact I.2.2⟩,λr hr u=>Q r (pm.mem_iff.mpr hr) u e' ha⟩⟩
def UU{bs:LLP}(hr:∀r∈L,RuK n r)(a:∀b∈bs,cT n b)(hn:n<=60)(y:Wy):(bL L bs y).length<=1001:=by
 obtain⟨z,j⟩:=y
 cases z with
 |true=>
  show(brg (bs.getD j [])).length<=_;unfold brg;rw[ay];have:=(C4 a j).len
  lia
 |false=>
  show(((L[j]?).map grd).getD []).length<=_
  cases e:L[j]? with
  |none=>exact cg _
  |some r=>exact CG (hr r (dP e))
def UV{bs:LLP}(H:es.length=n)(hn:n<=60)(hr:∀r∈L,RuK n r)(G:∀b∈bs,cT n b)(hm:eY n ms)(pm:ms.Perm (fF L))(h:gS es ord)(l:Rt n L bs es w):
  ∃gs:LI0,o_4 [slf es0 a b (gdT L bs) d e C ms,.lst (es.map shD),w.D,.lst (ord.map D.int)]=aa (gs.map D.int)/\pS es gs λe'=>Rt n L bs e' w:=by
 suffices z:wp b_4 _ (λr=>∃gs:LI0,r=.rtO (gs.map D.int)/\pS es gs λe'=>Rt n L bs e' w) by
  obtain⟨r,e,gs,rfl,h⟩:=z;exact⟨gs,mW e,h⟩
 cases w with
 |ch=>exact l.elim
 |wd i=>
  apply ak;refine jk (PP (ao (aD rfl (d9 es shD)) rfl) (by lia) (by lia)) ⟨_,rfl,λk c=>?_,by rw[ay,cZ];lia,λe' ha k c=>?_⟩
  .obtain⟨j,m,rfl⟩:=aJ.mp c;have:=fY.mp m;exact⟨⟨by lia,by lia⟩,by rw[dE];exact l j (by lia)⟩
  .have:=ha.2 _ (aJ.mpr ⟨k,fY.mpr (by lia),rfl⟩);rw[dE]at this;rw[this]
   exact l k c
 |gp ks=>
  obtain⟨gs,u,f⟩:=UT H hn hm pm h l;apply ak;refine aY rfl @3 λ_=>b5 ?_;apply ak;refine jk ?_ ⟨gs,rfl,f⟩;show(if "Seeking"="Seeking" /\ List.contains (spN++(["paper","count","ended"]:LSt)) "grounds_of_group"=af then (o_9 [slf es0 a b _ d e C ms,_,_,_]).bind λL=>if L.all D.flat then aa L else ab else ab)=_
  rw[if_pos ⟨rfl,rfl⟩,u,az,if_pos (all_eq_true.mpr λd hd=>by obtain⟨z,_,rfl⟩:=aJ.mp hd;rfl)]
 |gd y=>
  obtain⟨I,Q⟩:=l;have J:=UU hr G hn y;have ne:∀t:Str,(wyS y.1==t)=af->mB (m2 dEq (mIx (aw 2) (kI 0)) (λ_=>aa _)) (fP 6 [slf es0 a b (gdT L bs) d e C ms,.lst (es.map shD),(Wh.gd y).D,.lst (ord.map D.int)])=aa af:=λt T=>bA (ap rfl rfl (by rw[qQ,T]));apply ak
  refine aY (ne "world" (by cases y.1 <;> decide)) @3 λ_=>b5 ?_
  apply ak
  refine aY (ne "group" (by cases y.1 <;> decide)) @3 λ_=>b5 ?_
  apply ak;refine dM rfl ?_;apply ak;refine dC _ Prt.obj (λpre M=>∃(gs:LI0) (E:Sl),M=[.im _,.im _,.im _,.im _,.own (gs.map D.int),E]/\(∀k∈gs,(0<=k/\k<es.length)/\es.getD k.toNat ab≠ab)/\gs.length<=60*pre.length/\∀p∈pre,∀e',Agr gs es e'->p.sure e'=ac) (eS (d:=gdD L bs y) ?_ rfl) ⟨[],_,rfl,(λk c=>nomatch c),aM _,λp A=>nomatch A⟩ ?_ ?_
  .obtain⟨j,m⟩:=nP I;show(aT (wyK y) _).bind _=_;simp only[CW (λ_ _=>CS) (Iv _ _) m,az,cM,m];rfl
  .rintro pre p post M ex ⟨gs,E,rfl,v,h2,x⟩;have g:p∈bL L bs y:=by rw[ex];simp
   have N:pre.length<(bL L bs y).length:=by rw[ex];simp
   refine⟨_,rfl,?_⟩;walk_at "nrm";obtain⟨js,u,f⟩:=sure_by (M:=[.im _,.im _,.im (Wh.gd y).D,.im _,.own _,.im p.obj]) (fo:=ae 5) (fa:=ag (ae 1) (ag (ae 3) λ_=>aa [])) p (by rw[H];exact(nI hr G) p g) h (by lia) (Q p g) rfl rfl;have:=f.ln;refine⟨_,CF u rfl (by rw[ay,ay];lia),gs++js,_,by rw[a8];rfl,λk c=>?_,?_,λU B e' ha=>?_⟩
   .rcases bv.mp c with q |q
    .exact v k q
    .exact f.nn k q
   .rw[aR,aR,fX];lia
   .rcases bv.mp B with q |q
    .exact x U q e' ha.left
    .rw[bE.mp q];exact f.ok e' ha.right
  .rintro M ⟨gs,E,rfl,v,h2,x⟩;exact mV rfl ⟨gs,rfl,v,by lia,λe' ha=>⟨I,λp A=>x p A e' ha⟩⟩
def UW{a b c:LOB}(f:cK a b)(g:cK b c):cK a c:=⟨g.len.trans f.len,λi=>by
 rcases f.at' i with q |q
 .grind
 .rcases g.at' i with z |z
  .grind
  .grind⟩
def iL{bs:LLP}:∀(C:LSp) {st:LSp},Tr n L bs (C++st)->Tr n L bs st/\cK (aW n st) (aW n (C++st))/\∀x∈C,(aW n st).getD x.1.1.toNat ab=ab
 | [],st,h=>⟨h,cK.refl _,λx b=>nomatch b⟩
 |y::C,st,h=>by
  obtain⟨d,h2⟩:=h;obtain⟨a,f,c⟩:=iL C d;refine⟨a,UW f (vK h2.t0 h2.op),λx b=>?_⟩
  rcases bh.mp b with e |e
  .rw[e]
   rcases f.at' y.1.1.toNat with q |q
   .lia
   .rw[<- q];exact iJ h2.op
  .grind
def De{bs:LLP}:∀{st:LSp},Tr n L bs st->∀t:Int,0<=t->(aW n st).getD t.toNat ab≠ab->∃x∈st,x.1.1=t
 | [],_,t,_,h=>absurd (by
   show(gW n ab).getD t.toNat ab=ab;rw[bV,nO]
   split <;> rfl) h
 |x::st,h,t,t0,hs=>by
  by_cases e:x.1.1=t
  .grind
  .have:=h.2.t0;rw[aW,cY _ _ (by lia)]at hs;obtain⟨y,a,e⟩:=De h.1 t t0 hs
   grind
variable{x:Stp}
def vT{bs:LLP}{C:LSp}(h:Tr n L bs (C++x::st)):(aW n (C++x::st)).getD x.1.1.toNat ab=aa x.1.2:=by
 obtain⟨a,f,_⟩:=iL C h;have:=a.2.t0;have:=a.2.t1;have e:(aW n (x::st)).getD x.1.1.toNat ab=aa x.1.2:=eU _ _ (by rw[eZ];lia)
 rcases f.at' x.1.1.toNat with q |q
 .grind
 .grind
def nJ{bs:LLP}:∀{st:LSp},Tr n L bs st->(st.map (·.1.1)).Nodup
 | [],_=>ij
 |x::st,h=>by
  refine cf.mpr ⟨λq=>?_,nJ h.1⟩;obtain⟨y,a,e⟩:=aJ.mp q;obtain⟨p,r,rfl⟩:=lZ a;have:=vT h.1;rw[e,iJ h.2.op]at this
  grind
def ju{bs:LLP}(h:Tr n L bs st)(b:x∈st):0<=x.1.1/\x.1.1<(n:Int):=by
 obtain⟨p,r,rfl⟩:=lZ b;obtain⟨a,_,_⟩:=iL p h;exact⟨a.2.t0,a.2.t1⟩
abbrev nK(st:LSp):LI0:=st.reverse.map (·.1.1)
def IV{bs:LLP}(h:Tr n L bs st)(c:es.length=n)(d:∀t:Int,0<=t->es.getD t.toNat ab≠ab->(aW n st).getD t.toNat ab≠ab):gS es (nK st):=by
 subst c;unfold nK;refine⟨λt a=>?_,?_,λt t0 t1 a=>?_⟩
 .obtain⟨x,b,rfl⟩:=aJ.mp a;exact ju h (e9.mp b)
 .rw[l6];exact pairwise_reverse.mpr ((nJ h).imp λq e=>q e.symm)
 .obtain⟨x,b,e⟩:=De h t t0 (d t t0 a)
  grind
abbrev nfF(nd:LB0)(ord:LI0):LI0:=(ord.filter λt=>nd.getD t.toNat af)++ord.filter λt=>!nd.getD t.toNat af
def UX{nd:LB0}(b:∀t∈ord,0<=t/\t<(nd.length:Int))(d:ord.length<=1000):vb [.lst (ord.map D.int),.lst (nd.map D.bl)]=aa (.lst ((nfF nd ord).map D.int)):=by
 have c:=gV (λt:Int=>nd.getD t.toNat af) ord;have h2:=gV (λt:Int=>!nd.getD t.toNat af) ord;refine lx ?_;unfold nfF;rw[a8];exact congrArg _ (Cw (bQ (eR ord D.int _ D.int rfl (by lia) λt a=>dJ rfl (df (bf rfl rfl (jK (b t a).1 (b t a).2)) rfl) λ_=>rfl)) (bQ (eR ord D.int _ D.int rfl (by lia) λt a=>dJ rfl (oS (df (bf rfl rfl (jK (b t a).1 (b t a).2)) rfl)) λ_=>rfl)) (by grind))
def gS.nf(h:gS es ord)(nd:LB0):gS es (nfF nd ord):=by
 have p:(nfF nd ord).Perm ord:=filter_append_perm _ _;exact⟨λt a=>h.nn t (p.mem_iff.mp a),p.nodup_iff.mpr h.nd,λt t0 t1 a=>p.mem_iff.mpr (h.al t t0 t1 a)⟩
nonrec def Ls:=Option Pr×Wh
abbrev sC(n:Nat)(L:LRu)(bs:LLP):LOB->List Ls->Prop
 | _,[]=>False
 |u,x::l=>match x.1 with
  |none=>l=[]/\Rt n L bs u x.2
  |some z=>opn u z.1=ac/\Rt n L bs (put u z.1.toNat (!z.2)) x.2/\sC n L bs (put u z.1.toNat z.2) l
abbrev prO:Option Pr->D
 |none=>.non
 |some z=>prD z
abbrev dnD(x:Ls):D:=.tup [prO x.1,x.2.D]
structure LnS where
 nd:LB0
 bar:List Pr
 dn:List Ls
 post:LSp
abbrev chs(st:LSp):List Pr:=(st.filter λx=>!x.2.nc).map (·.1)
structure LnI(n:Nat)(L:LRu)(bs:LLP)(st pre:LSp)(q:LnS):Prop where
 sp:st=pre++q.post
 nl:q.nd.length=n
 bl:q.bar.Sublist (chs pre)
 dl:q.dn.length<=pre.length+1
 dt:∀x∈q.dn,∀z,x.1=aa z->∃y∈pre,y.1=z/\y.2=x.2/\y.2.nc=ac
 rl:∀u:LOB,u.length=n->(∀t:Int,0<=t->t<(n:Int)->q.nd.getD t.toNat af=ac->(aW n q.post).getD t.toNat ab≠ab->u.getD t.toNat ab=(aW n q.post).getD t.toNat ab)->(∀z∈q.bar,u.getD z.1.toNat ab=aa z.2)->(∀x∈q.dn,∀z,x.1=aa z->opn u z.1=ac)->sC n L bs u q.dn.reverse
def pT(h:z∈chs st):∃x∈st,x.1=z/\x.2.nc=af:=by
 obtain⟨x,a,e⟩:=aJ.mp h
 grind
def IX(st:LSp):(chs st).length<=st.length:=by
 unfold chs
 grind
abbrev orS(nd:LB0)(gs:LI0):LB0:=gs.foldl (λnd g=>nd.set g.toNat ac) nd
def Dg:∀(gs:LI0) (nd:LB0),(orS nd gs).length=nd.length
 | [],_=>rfl
 |g::gs,nd=>by
  show(orS _ gs).length=_;rw[Dg gs,ig]
def Dh{t:Int}(t0:0<=t):∀(gs:LI0) (nd:LB0),t<(nd.length:Int)->(nd.getD t.toNat af=ac\/t∈gs)->(orS nd gs).getD t.toNat af=ac
 | [],_,_,h=>h.elim id λq=>nomatch q
 |g::gs,nd,hl,h=>by
  refine Dh t0 gs _ (by rw[ig];exact hl) ?_
  by_cases e:t=g
  .refine .inl ?_;rw[bV,<- e,jU (by lia)];rfl
  .rcases h with q |q
   .refine .inl ?_;rw[bV,List.getElem?_set];split
    .split
     .rfl
     .lia
    .rw[<- bV];exact q
   .exact .inr (by rcases bh.mp q with z |z;exact absurd z e;exact z)
def sD{u:LOB}(h:u.getD t.toNat ab=ab):opn u t=ac:=by unfold opn;rw[h];rfl
variable{pre post:LSp}{q:LnS}
def LnI.no{bs:LLP}(h:LnI n L bs st pre q)(e:q.post=x::post)(tr:Tr n L bs (x::post))(hn:q.nd.getD x.1.1.toNat af=af):LnI n L bs st (pre++[x]) {q with post:=post}:=by
 refine⟨by rw[h.sp,e,cG];rfl,h.nl,?_,by rw[aR];have:=h.dl;show q.dn.length<=_+1+1;lia,λy g z b=>?_,λu i ha c d=>h.rl u i (λt t0 t1 hd a=>?_) c d⟩
 .refine h.bl.trans ?_;unfold chs;rw[kL,a8];exact wm _ _
 .obtain⟨w,f,k⟩:=h.dt y g z b;exact⟨w,bS _ f,k⟩
 .have ne:t≠x.1.1:=λq=>by rw[q,hn]at hd;nomatch hd
  rw[e,aW,cY _ _ (by lia)]at a ⊢;exact ha t t0 t1 hd a
def LnI.ch{bs:LLP}(h:LnI n L bs st pre q)(e:q.post=x::post)(tr:Tr n L bs (x::post))(g:x.2.nc=af):LnI n L bs st (pre++[x]) {q with bar:=q.bar++[x.1],post:=post}:=by
 have l:=tr.2.t0;refine⟨by rw[h.sp,e,cG];rfl,h.nl,?_,by rw[aR];have:=h.dl;show q.dn.length<=_+1+1;lia,λy i z c=>?_,λu j ha a d=>h.rl u j (λt t0 t1 hd b=>?_) (λz hz=>a z (bS _ hz)) d⟩
 .unfold chs;rw[kL,a8,p7 (by rw[g];rfl)];exact h.bl.append (qd _)
 .obtain⟨w,f,k⟩:=h.dt y i z c;exact⟨w,bS _ f,k⟩
 .by_cases ne:t=x.1.1
  .rw[e,ne,a x.1 (ce _ aF)];exact(eU _ _ (by rw[eZ];lia)).symm
  .rw[e,aW,cY _ _ (by lia)]at b ⊢;exact ha t t0 t1 hd b
variable{gs:LI0}
def LnI.nc{bs:LLP}(h:LnI n L bs st pre q)(e:q.post=x::post)(tr:Tr n L bs st)(M:x.2.nc=ac)(G:pS (put (aW n post) x.1.1.toNat (!x.1.2)) gs λe'=>Rt n L bs e' x.2):LnI n L bs st (pre++[x]) ⟨orS q.nd gs,q.bar,q.dn++[(aa x.1,x.2)],post⟩:=by
 have p:Tr n L bs (x::post):=by
  rw[h.sp,e]at tr;exact(iL pre tr).1
 have N:=p.2.t0
 have d:=λy a i=>by
  have:=nJ tr;rw[h.sp,e,a8]at this;exact(e8.mp this).2.2 y.1.1 (aJ.mpr ⟨y,a,rfl⟩) x.1.1 aF i
 have pr:∀y∈pre,0<=y.1.1:=λy a=>(ju tr (by rw[h.sp];exact bS _ a)).1;refine⟨by rw[h.sp,e,cG];rfl,(Dg _ _).trans h.nl,?_,by rw[aR,aR];have:=h.dl;show _+1<=_+1+1;lia,λy a z b=>?_,λu I ha J E=>?_⟩
 .refine h.bl.trans ?_;unfold chs;rw[kL,a8];exact wm _ _
 .rcases bv.mp a with m |m
  .obtain⟨w,j,k⟩:=h.dt y m z b;exact⟨w,bS _ j,k⟩
  .cases bE.mp m;cases b;exact⟨x,ce _ aF,rfl,rfl,M⟩
 .have ne:∀t:Int,0<=t->t≠x.1.1->∀c,(put u x.1.1.toNat c).getD t.toNat ab=u.getD t.toNat ab:=λt t0 q c=>cY u c (by lia);have nl:=h.nl;rw[lX];refine⟨(E _ (ce _ aF) x.1 rfl),G.ok _ ⟨by simp only[b7,b7,I,eZ],λg f=>?_⟩,h.rl _ (by rw[b7];exact I) (λt t0 t1 hd H=>?_) (λz hz=>?_) λy a z b=>?_⟩
  .obtain⟨⟨l,B⟩,C⟩:=G.nn g f;rw[b7,eZ]at B
   by_cases r:g=x.1.1
   .rw[r,eU _ _ (by lia),eU _ _ (by rw[eZ];lia)]
   .rw[ne g l r,cY _ _ (by lia)];rw[cY _ _ (by lia)]at C;exact ha g l B (Dh l gs _ (by lia) (.inr f)) C
  .by_cases v:t=x.1.1
   .rw[e,v,eU _ _ (by lia)];exact(eU _ _ (by rw[eZ];lia)).symm
   .rw[e,aW,cY _ _ (by lia)]at H;rw[ne t t0 v,e,aW,cY _ _ (by lia)];exact ha t t0 t1 (Dh t0 gs _ (by lia) (.inl hd)) H
  .obtain⟨y,a,i,_⟩:=pT (h.bl.subset hz);rw[<- i,ne _ (pr y a) (d y a),i];exact J z hz
  .obtain⟨w,j,A,_⟩:=h.dt y a z b;refine sD ?_;rw[<- A,ne _ (pr w j) (d w j),A];exact iJ (E y (bS _ a) z b)
def IY{b E w:Type}{g:D->LS->Option LS}{F:MF3}(f:b->D)(R:E->w->LS->Prop)(J:List b->E->Prop)(all:List b)
 (step:∀pre x post s,all=pre++x::post->J pre s->∃a,J (pre++[x]) a/\∀l M,R s l M->∃ρ1,g (f x) M=aa ρ1/\wp F ρ1 λr=>∃ρ',r=.nx ρ'/\R a l ρ'):∀(C pre:List b) (s:E),all=pre++C->J pre s->∃a,J all a/\∀l M,R s l M->∃ρ',iB g F (C.map f) M=aa (.nx ρ')/\R a l ρ'
 | [],pre,s,e,h=>⟨s,by rw[e,bP];exact h,λl M r=>⟨M,rfl,r⟩⟩
 |x::C,pre,s,e,h=>by
  obtain⟨s1,n,p⟩:=step pre x C s e h;obtain⟨s2,h2,q⟩:=IY f R J all step C _ s1 (by rw[e,cG];rfl) n;refine⟨s2,h2,λl M r=>?_⟩;obtain⟨ρ1,i,o,j,c,rfl,u⟩:=p l M r;obtain⟨d,m,v⟩:=q l c u;refine⟨d,?_,v⟩;rw[bF,iB,i,az,j];exact m
def Di{cn f:Str}{F:MF3}(h:aU cn f (aH i) M=aa (lsO ds,R))(k:wp F (M.set i (.deep (R (.fz (.lst ds))))) K):wp (nr i cn f F) M K:=by
 obtain⟨o,e,q⟩:=k;exact⟨o,by unfold nr;rw[h,az,vz,az];exact e,q⟩
abbrev Spt.F(L:LRu)(s:Spt):O:=iH (s.S L).tl [lsO (s.es.map shD),.fz (.lst s.st),lsO (s.bs.map eC),.dT (s.S L).gk ((s.S L).gd.map .fz),wsO (wtW s.tw),lsO (s.wt.map wyD),.fz (.lst (s.ms.map mkD))]
def UY:cD 0 (.deep (.at l (s.F L))::M)=aa (s.D L):=by
 have k:(s.F L).kn=ac:=by
  unfold Spt.F Spt.S lsO wsO;simp only[List.map,kM,nil_append,O.kn,O.kns,rR,Bool.and_true];exact C7 _
 have d:(s.F L).toD=s.D L:=by
  unfold Spt.D Spt.F Spt.S Spr.o;simp only[lsO,O.toD,O.toDs,xP,kM]
 show(if (O.at l _).kn=ac then aa (O.at l _).toD else ab)=_;rw[O.kn,k,if_pos rfl,O.toD,d]
def IZ(a:w≠.ch):rL [w.D]=aa w.D:=by
 cases w with
 |ch=>grind
 |wd i=>rfl
 |gp ks=>rfl
 |gd y=>exact dA (dz (lE (b:=af) (bA (ap rfl rfl (by rw[qQ,show(wyS y.1 == "group")=af by cases y.1 <;> decide]))) (λe=>nomatch e) λ_=>rfl))
variable{b:Bool}
def I0{k:Nat}(h:es.getD k ab=ab)(a:k<es.length):((put es k b).map shD).set k .non=es.map shD:=by
 unfold put;rw[gX,set_set];refine m9 ?_;rw[bV,cF a]at h;have h:es[k]=ab:=h;rw[cM,cF a,h];rfl
def UZ{k:Nat}{c:Bool}:((put es k b).map shD).set k (.bl c)=(put es k c).map shD:=by
 unfold put;rw[gX,set_set,gX];rfl
def Ja(a:fo M=aa (s.D L))(ha:fa M=aa [.lst (es.map shD),w.D,.lst (ord.map D.int)])(h:o_4 [s.D L,.lst (es.map shD),w.D,.lst (ord.map D.int)]=aa (gs.map D.int)):ic "Seeking" "grounds" o_4 fo fa M=aa (gs.map D.int):=by
 unfold ic;rw[a,az];rw[vI L s]at h ⊢;show(if "Seeking"="Seeking" /\ List.contains (spN++(["paper","count","ended"]:LSt)) "grounds"=af then (fa M).bind λas=>(o_4 (slf s.es _ _ _ _ _ _ s.ms::as)).bind λL=>if L.all D.flat then aa L else ab else ab)=_;rw[if_pos ⟨rfl,rfl⟩,ha,az,h,az,if_pos (all_eq_true.mpr λd hd=>by obtain⟨z,_,rfl⟩:=aJ.mp hd;rfl)]
variable{c:Nat}
def ground(hr:∀r∈L,RuK n r)(hz:L.length<=1000)(hn:n<=60)(h:SpJ n c V3 L s)(a:es.length=n)(b:gS es ord)(d:Rt n L s.bs es w):∃gs:LI0,o_4 [s.D L,.lst (es.map shD),w.D,.lst (ord.map D.int)]=aa (gs.map D.int)/\pS es gs λe'=>Rt n L s.bs e' w:=by
 rw[vI];exact UV a hn hr h.bk (eY.of hr hz h.ms) h.ms b d
structure jw(n:Nat)(L:LRu)(bs:LLP)(st:LSp)(bar:List Pr)(dn:List Ls):Prop where
 bl:bar.Sublist (chs st.reverse)
 dl:dn.length<=n+1
 dt:∀x∈dn,∀z,x.1=aa z->∃y∈st,y.1=z/\y.2=x.2/\y.2.nc=ac
 rl:∀u:LOB,u.length=n->(∀z∈bar,u.getD z.1.toNat ab=aa z.2)->(∀x∈dn,∀z,x.1=aa z->opn u z.1=ac)->sC n L bs u dn
def sE(h:Tr n L s.bs st):st.length<=n:=by
 have:=sh (nJ h) λx a=>by
  obtain⟨y,b,rfl⟩:=aJ.mp a;exact ju h b
 rwa [ay]at this
def U0(hr:∀r∈L,RuK n r)(hz:L.length<=1000)(hn:n<=60)(h:SpJ n c V3 L s)(t:TrS n L s st)(hw:Rt n L s.bs s.es w):∃(bar:List Pr) (dn:List Ls),(∀l,BS l [w.D] (s.S L).o=aa (s.F L,.tup [eC bar,.lst (dn.map dnD)]))/\jw n L s.bs st bar dn:=by
 have hwc:w≠.ch:=λe=>by rw[e]at hw;exact hw
 have tr:=t.tr;have tl:=sE tr;have Y:=t.es;have A:=eZ n st;have B:=IV tr A λ_ _ q=>q;have hol:=B.len;rw[Y]at hw;obtain⟨gs,e1,e2⟩:=ground hr hz hn h A B hw;have hgl:=e2.ln
 have key:=IY (g:=cX (bo (ax 3) (bo (ax 4) c9))) (F:=(ai (aX 9 (mIx (aw 3) (kI 0)))
  (ai (bg (dB (bI (mIx (aw 6) (ae 9))) (mB (m2 dIs (ae 4) kN))) (c8 7 (ae 3)) (bg (bI (mIx (aw 6) (ae 9))) (ai (c8 8 (bj (ag (ae 3) (ag (av rL (ag (ae 4) nZ)) nZ))))
  (ai (gg 2 (ae 9) (mL (mIx (aw 3) (kI 1))))
  (bZ (aV (aO (ic "Seeking" "grounds" o_4 _ (ag (cD 2) (ag (ae 4) (ag (av vb (ag (ae 5) (ag (cD 6) nZ))) nZ)))))) (ax 10) (gg 6 (ae 10) (kBl ac))))) bK))
  (gg 2 (ae 9) kN)))) stD (λq l M=>∃Q T U j,M=[.deep (.at l (s.F L)),.im w.D,.own ((aW n q.post).map shD),Q,T,.im (.lst ((nK st).map D.int)),.own (q.nd.map D.bl),.own (q.bar.map prD),.own (q.dn.map dnD),U,j]) (LnI n L s.bs st) st (by
  rintro pre x post q ex y;have C:=append_cancel_left (y.sp.symm.trans ex);have p:Tr n L s.bs (x::post):=by rw[ex]at tr;exact(iL pre tr).1
  have x0:=p.2.t0;have x1:=p.2.t1;have hpn:=iJ p.2.op;have E:=eZ n post;have I:=y.nl;have m:=jK x0 (by rw[I];exact x1);have hun:=I0 (b:=x.1.2) hpn (by rw[E];lia);have hpl:pre.length<st.length:=by rw[ex];simp
  have hbl:=y.bl.length_le;have hcl:=IX pre;have hdl:=y.dl
  cases H:q.nd.getD x.1.1.toNat af with
  |false=>
   refine⟨_,y.no C p H,?_⟩;rintro l M ⟨Q,T,U,j,rfl⟩;rw[H]at m;refine⟨_,rfl,?_⟩;apply ak;refine bn rfl ?_;apply ak;refine aY (b:=af) ?_ @3 λ_=>?_
   .unfold dB;rw[df (bf rfl rfl m) rfl];rfl
   .refine aY (df (bf rfl rfl m) rfl) @3 λ_=>b5 ?_;refine oX rfl rfl rfl x0 (by rw[ay,C,aW,b7,E];exact x1) ⟨_,rfl,.im (prD x.1),.im x.2.D,.im (.int x.1.1),j,?_⟩;rw[C,aW,hun]
    rfl
  |true=>
   rw[H]at m
   cases i:x.2.nc with
   |false=>
    refine⟨_,y.ch C p i,?_⟩
    have hxd:x.2.D=.non:=by
     rcases p.2.ok with⟨a,_⟩ |⟨a,_⟩
     .rw[a];rfl
     .rw[a]at i;nomatch i
    rintro l M ⟨Q,T,U,j,rfl⟩;refine⟨_,rfl,?_⟩;rw[hxd];apply ak;refine bn rfl ?_;apply ak;refine aY (jI (df (bf rfl rfl m) rfl) rfl) (λ_=>?_) λz=>nomatch z;refine fS rfl rfl (by rw[ay];lia) ?_;refine oX rfl rfl rfl x0 (by rw[ay,C,aW,b7,E];exact x1) ⟨_,rfl,.im (prD x.1),.im .non,.im (.int x.1.1),j,?_⟩;rw[C,aW,hun,a8]
    rfl
   |true=>
    rcases p.2.ok with⟨a,_⟩ |⟨_,hR⟩
    .rw[a]at i;nomatch i
    have G:(put (aW n post) x.1.1.toNat (!x.1.2)).length=n:=by rw[b7,E]
    have J:gS (put (aW n post) x.1.1.toNat (!x.1.2)) (nK st):=by
     refine IV tr G λu u0 hu=>?_;rw[ex]at tr ⊢;obtain⟨_,f,_⟩:=iL pre tr
     have:(aW n (x::post)).getD u.toNat ab≠ab:=by
      rw[aW]
      by_cases eu:u=x.1.1
      .rw[eu,eU _ _ (by rw[E];lia)];exact λq=>nomatch q
      .rw[cY _ _ (by lia)]at hu ⊢;exact hu
     rcases f.at' u.toNat with z |z
     .exact absurd z this
     .rw[z];exact this
    obtain⟨js,e3,e4⟩:=ground hr hz hn h G (J.nf q.nd) hR;refine⟨_,y.nc C tr i e4,?_⟩
    have hxn:dIs x.2.D .non=aa (.bl af):=by
     cases hx2:x.2 with
     |ch=>rw[hx2]at i;nomatch i
     | _=>rfl
    have hxc:x.2≠.ch:=λq=>by rw[q]at i;nomatch i
    rintro l M ⟨Q,T,U,j,rfl⟩;refine⟨_,rfl,?_⟩;apply ak;refine bn rfl ?_;apply ak;refine aY (jI (df (bf rfl rfl m) rfl) (bA (ap rfl rfl hxn))) @3 λ_=>?_;refine aY (df (bf rfl rfl m) rfl) (λ_=>?_) λz=>nomatch z;apply ak;refine fS (cS (ao rfl (ao (aD rfl (IZ hxc)) rfl))) rfl (by rw[ay];lia) ?_;apply ak;refine oX rfl rfl rfl x0 (by rw[ay,C,aW,b7,E];exact x1) ?_;rw[C,aW,UZ];refine dC js D.int (λpre M=>∃v,M=[.deep _,.im _,.own _,.im _,.im _,.im _,.own ((orS q.nd pre).map D.bl),.own _,.own _,.im _,v]) (eS (bQ (Ja UY (ao rfl (ao rfl (ao (aD rfl (UX (by rw[I];exact(λu hu=>by have:=B.nn u hu;rwa [A]at this)) (by lia))) rfl))) e3)) rfl) ⟨_,rfl⟩ ?_ ?_
    .rintro pr g po M exj ⟨v,rfl⟩;obtain⟨⟨g0,N⟩,_⟩:=e4.nn g (by rw[exj];simp);rw[G]at N;refine⟨_,rfl,?_⟩;refine oX rfl rfl rfl g0 (by rw[ay,Dg,I];exact N) ⟨.im (.int g),?_⟩;rw[show D.bl ac=D.bl ac from rfl,<- gX];unfold orS;rw[eE];rfl
    .rintro M ⟨v,rfl⟩;refine oX rfl rfl rfl x0 (by rw[ay,b7,E];exact x1) ⟨_,rfl,.im (prD x.1),.im x.2.D,.im (.int x.1.1),v,?_⟩;rw[I0 hpn (by rw[E];lia),a8];rfl) st [] ⟨mkS n gs,[],[(ab,w)],st⟩ rfl ⟨rfl,pQ _ _,qd _,aM _,(λx i z ez=>by rw[bE.mp i]at ez;nomatch ez),λu ul ha _ _=>⟨rfl,e2.ok u ⟨by rw[ul,A],λg hg=>?_⟩⟩⟩
 .obtain⟨q,y,kq⟩:=key
  have hpe:q.post=[]:=by
   have:=y.sp;exact self_eq_append_right.mp this
  refine⟨q.bar.reverse,q.dn.reverse,λl=>?_,?_,?_,?_,?_⟩
  .apply fE;apply ak;refine dM (rQ jP) ?_;show wp _ [.deep _,.im w.D,.own (s.es.map shD),.no,.no,.no,.no,.no,.no,.no,.no] _;rw[Y];apply ak;refine bn (d:=.lst ((nK st).map D.int)) (bQ ?_) ?_
   .show bp 2 [] _ _ _ _ _=_;have:(s.S L).st=st.reverse.map stD:=t.sv;unfold nK;rw[map_map];exact gH st.reverse stD _ ((rQ CA).trans (by rw[this])) (by rw[ie];lia) λx _=>gf rfl rfl rfl
   apply ak;refine dM (d:=(mkS n gs).map D.bl) ?_ ?_
   .have hmk:=HE n gs (by lia) (by lia) (by lia);exact uz (ao (aD rfl (d9 _ shD)) (ao (bQ (Ja C8 (ao rfl (ao rfl (ao rfl rfl))) e1)) rfl)) (mW (by rw[A];exact hmk))
   apply ak;refine dM rfl ?_;apply ak;refine dM (ao (cS (ao rfl (ao (aD rfl (IZ hwc)) rfl))) rfl) ?_;apply ak;refine Di CA ?_;obtain⟨ρ',e5,Q,T,U,j,rfl⟩:=kq l _ ⟨_,_,_,_,rfl⟩;refine⟨.nx [.deep (.at l (s.F L)),.im w.D,.own ((aW n q.post).map shD),Q,T,.im (.lst ((nK st).map D.int)),.own (q.nd.map D.bl),.own (q.bar.map prD),.own (q.dn.map dnD),U,j],?_,?_⟩
   .show(lK _ _).bind _=_;rw[Px (ao ((kB rfl).trans (by show aa (D.lst s.st)=_;rw[t.sv])) rfl),az,iP];exact e5
   .refine jn ?_ ⟨_,rfl,rfl,rfl⟩;refine cS (ao (bQ ?_) (ao (bQ ?_) rfl))
    .show aa (q.bar.map prD).reverse=_;rw[l6]
    .show aa (q.dn.map dnD).reverse=_;rw[l6]
  .unfold chs;have:=y.bl.reverse;unfold chs at this
   rwa [<- l6,<- filter_reverse]at this
  .rw[ie];have:=y.dl;lia
  .intro x i z ez;exact y.dt x (e9.mp i) z ez
  .intro u ul hb hc;refine y.rl u ul (λt t0 t1 _ ht=>?_) (λz hz=>hb z (e9.mpr hz)) λx i=>hc x (e9.mpr i);rw[hpe]at ht;obtain⟨x,i,_⟩:=De (L:=L) (bs:=s.bs) (st:=[]) trivial t t0 ht
   nomatch i
 .obtain⟨⟨g0,N⟩,gn⟩:=e2.nn g hg;rw[A]at N;exact ha g g0 N ((lS g0 N).mpr hg) gn
nonrec def Qn(i:Nat)(S:LSp):List (Nat×Stp):=(eX i S).filter λp=>!p.2.2.nc
def lT(x:Stp)(S:LSp):chs (x::S)=if x.2.nc then chs S else x.1::chs S:=by
 unfold chs
 grind
def Dj:∀(S:LSp) (i j:Nat) (p:Nat×Stp),(Qn i S)[j]?=aa p->∃A V3,S=A++p.2::V3/\p.1=i+A.length/\chs A=(chs S).take j/\chs (p.2::V3)=(chs S).drop j/\p.2.2.nc=af
 | [],_,_,_,h=>by cases h
 |x::S,i,j,p,h=>by
  have h:((_::eX _ S).filter λp=>!p.2.2.nc)[j]?=aa p:=h;rw[filter_cons]at h
  cases f:x.2.nc with
  |true=>
   rw[if_neg (by grind)]at h;obtain⟨A,V3,a,b,c,d,e⟩:=Dj S _ j p h;refine⟨x::A,V3,by rw[a];rfl,by rw[b,cy];lia,?_,?_,e⟩
   .rw[lT,lT,if_pos f,if_pos f];lia
   .rw[lT x,if_pos f];lia
  |false=>
   rw[if_pos (by grind)]at h
   cases j with
   |zero=>
    cases h
    exact⟨[],S,rfl,rfl,rfl,rfl,f⟩
   |succ j=>
    obtain⟨A,V3,a,b,c,d,e⟩:=Dj S _ j p h;refine⟨x::A,V3,by rw[a];rfl,by rw[b,cy];lia,?_,?_,e⟩
    .rw[lT,lT,if_neg (by grind),if_neg (by grind),c];rfl
    .rw[lT x,if_neg (by grind),d];rfl
def Jb:∀(S:LSp) (i:Nat),(Qn i S).map (·.2.1)=chs S
 | [],_=>rfl
 |x::S,i=>by
  have a:=Jb S (i+1);show((_::eX _ S).filter λp=>!p.2.2.nc).map _=_;rw[filter_cons,lT]
  grind
def Jc(z y:Pr):isE (prD y) (prD z)=decide (z=y):=by
 unfold isE;rw[show deq 19 _ _=aa (z.1==y.1 && (z.2==y.2 && ac))from rfl]
 grind
def U1{a b:List Pr}{y:Pr}(h:y∉a):gM (.lst ((a++y::b).map prD)) (prD y)=aa (.int (a.length:Nat)):=by
 have ha:dh (prD y) ((a++y::b).map prD)=aa ac:=by
  have:=Ij y (a++y::b);replace this:((dh _ _).map D.bl)=_:=this
  simp_all
 show(if dh _ _=aa ac then aa _ else ab)=_;rw[if_pos ha];clear ha
 congr 3
 induction a with
 |nil=>rw[nil_append,bF,qb,Jc,decide_eq_true rfl];rfl
 |cons z a c=>
  rw[kM,bF,qb,Jc,decide_eq_false (λe=>h (by grind))]
  grind
structure pU(S:LSp)(bar:List Pr)(A:LSp)(c:Stp)(V3:LSp):Prop where
 e:S=A++c::V3
 nc:c.2.nc=af
 br:∃b0 z,bar=b0++[z]/\b0.Sublist (chs A)/\z∈chs (c::V3)/\(b0=[]->chs A=[])/\∀y,b0.getLast?=aa y->∃A',chs A=A'++[y]
def U2(a:List Pr)(y z:Pr):atI ((a++[y]++[z]).map prD) (-2)=aa (prD y):=by
 have b:((a++[y]++[z]).map prD).length=a.length+2:=by simp
 unfold atI;rw[show ixN ((a++[y]++[z]).map prD).length (-2)=aa a.length by rw[b];unfold ixN;rw[if_neg (by lia)];simp;lia];simp
variable{S:LSp}
def U3{bar:List Pr}(U:s.st=S.map stD)(hok:∀x∈S,x.2=.ch\/x.2.nc=ac)(hl:S.length<=1000)(nd:(chs S).Nodup)(E:bar.Sublist (chs S))(H:bar≠[]):∃A c V3,pU S bar A c V3/\∀l,BV l [eC bar] (s.F L)=aa (s.F L,.int (A.length:Nat)):=by
 have Q:=Jb S 0;have hql:(Qn 0 S).length=(chs S).length:=by rw[<- Q,ay]
 have hcl:=IX S
 obtain⟨j,hj,b0,z,a,h1,h2,h3,h4,h5⟩:∃j,j<(chs S).length/\∃b0 z,bar=b0++[z]/\b0.Sublist ((chs S).take j)/\z∈(chs S).drop j/\(b0=[]->(chs S).take j=[])/\(∀y,b0.getLast?=aa y->∃A',(chs S).take j=A'++[y])/\∀M:LS,M[1]?=aa (.im (eC bar))->M[3]?=aa (.im (.lst ((chs S).map prD)))->vIf (mB (m2 dEq (av cu @11) (kI 1))) (kI 0) (m2 d7 (m2 gM (ae 3) (mIx (aw 1) (m1 qE (kI 2)))) (kI 1)) M=aa (.int (j:Nat)):=by
  have v1:∀M:LS,M[1]?=aa (.im (eC bar))->ae 1 M=aa (eC bar):=λM e=>by unfold ae;rw[e]
  have v3:∀M:LS,M[3]?=aa (.im (.lst ((chs S).map prD)))->ae 3 M=aa (.lst ((chs S).map prD)):=λM e=>by unfold ae;rw[e]
  have c1:∀M:LS,M[1]?=aa (.im (eC bar))->aw 1 M=aa (bar.map prD):=λM e=>by unfold aw;rw[e];rfl
  obtain⟨b0,z,a⟩:∃b0 z,bar=b0++[z]:=⟨_,_,(dropLast_concat_getLast H).symm⟩
  cases B:b0.getLast? with
  |none=>
   have e0:b0=[]:=getLast?_eq_none_iff.mp B;subst e0;have hz:z∈chs S:=E.subset (by rw[a];simp);refine⟨0,length_pos_of_mem hz,[],z,a,nil_sublist _,hz,λ_=>rfl,(λy hy=>nomatch hy),λM n r=>?_⟩
   exact lE (b:=ac) (bA (ap (aD (ao (v1 M n) rfl) (d9 bar prD)) rfl (by rw[a];rfl))) (λ_=>rfl) λq=>nomatch q
  |some y=>
   obtain⟨m,e0⟩:∃m,b0=m++[y]:=by
    obtain⟨m,rfl⟩:=getLast?_eq_some_iff.mp B;exact⟨m,rfl⟩
   subst e0;rw[a]at E;obtain⟨C1,w,hC,s1,s2⟩:∃r1 r2,chs S=r1++r2/\(m++[y]).Sublist r1/\[z].Sublist r2:=append_sublist_iff.mp E;obtain⟨g,D2,hD,s3,s4⟩:=append_sublist_iff.mp s1;obtain⟨h,N,rfl⟩:=lZ (singleton_sublist.mp s4);have f:chs S=(g++h)++y::(N++w):=by rw[hC,hD];simp
   have I:y∉g++h:=λq=>by
    rw[f]at nd;exact(e8.mp nd).2.2 y q y aF rfl
   have htk:(chs S).take ((g++h).length+1)=(g++h)++[y]:=by rw[f,take_append,sM (by lia)];simp
   have G:(chs S).drop ((g++h).length+1)=N++w:=by rw[f,drop_append,drop_of_length_le (by lia)];simp
   refine⟨(g++h).length+1,?_,m++[y],z,a,?_,?_,(λq=>by simp at q),(λu Y=>⟨g++h,?_⟩),λM n r=>?_⟩
   .rw[f];have:=length_pos_of_mem (singleton_sublist.mp s2);simp;lia
   .rw[htk];exact(s3.trans (wm _ _)).append (qd _)
   .rw[G];exact ce _ (singleton_sublist.mp s2)
   .rw[htk];rw[getLast?_concat]at Y;cases Y;rfl
   .have C:dEq (.int (bar.length:Nat)) (.int 1)=aa (.bl af):=by
     rw[km,a];simp;lia
    refine lE (b:=af) (bA (ap (aD (ao (v1 M n) rfl) (d9 bar prD)) rfl C)) (λq=>nomatch q) λ_=>?_;refine(ap (ap (v3 M r) (bf (c1 M n) rfl (by rw[a];exact U2 m y z)) (by rw[f];exact U1 I)) rfl gh).trans ?_
    congr 2
 obtain⟨p,v⟩:∃p,(Qn 0 S)[j]?=aa p:=⟨_,cF (by lia)⟩;obtain⟨A,B',n,e2,r,e4,e5⟩:=Dj S 0 j p v;refine⟨A,p.2,B',⟨n,e5,b0,z,a,by rw[r];exact h1,by rw[e4];exact h2,(by rw[r];exact h3),by rw[r];exact h4⟩,λl=>?_⟩;apply fE;apply ak;have J:pD (aU "Seeking" "steps" (aH 0)) [.deep (.at l (s.F L)),.im (eC bar),.no,.no]=aa (.lst (S.map stD)):=(kB rfl).trans (by rw[U]);refine bn (d:=.lst ((Qn 0 S).map λp=>.int (p.1:Nat))) (bQ (eR (eX 0 S) (λp=>D.tup [.int p.1,stD p.2]) _ _ (by rw[<- sw];exact vi (ao J rfl)) (by rw[vG];lia) λp v=>?_)) ?_
 .refine dJ rfl (bA (ap rfl rfl ?_)) λ_=>rfl;have hx:=hok p.2 (dP (kG v));show dIs p.2.2.D .non=_
  cases e:p.2.2 with
  |ch=>rfl
  |gd y=>rfl
  |gp ks=>rfl
  |wd i=>rw[e]at hx;rcases hx with q |q <;> nomatch q
 apply ak;refine bn (d:=.lst ((chs S).map prD)) (bQ ?_) ?_
 .rw[<- Q,map_map];refine gH (Qn 0 S) (λp=>D.int (p.1:Nat)) _ rfl (by lia) λp v=>gf rfl rfl ?_;have T:=kG (cm.mp v).1;have hlt:=(cU.mp T).1;refine bf (eS (d:=stD p.2) (bf (eS (d:=.lst (S.map stD)) ((kB rfl).trans (by rw[U])) rfl) rfl ?_) rfl) rfl rfl;rw[ly ((0,ac),.ch) (by lia) (by lia),dE,bV,T];rfl
 refine jn (d:=.int (A.length:Nat)) (bf rfl (h5 _ rfl rfl) ?_) ⟨_,rfl,rfl,rfl⟩;rw[ly (0,((0,ac),.ch)) (by lia) (by lia),dE,bV,v];show aa (D.int (p.1:Nat))=_;rw[e2,kP]
abbrev clr(es:LOB)(C:LSp):LOB:=C.foldl (λes x=>es.set x.1.1.toNat ab) es
def Jd:∀(C:LSp) (es:LOB),(clr es C).length=es.length
 | [],_=>rfl
 |x::C,es=>by
  show(clr _ C).length=_;rw[Jd C,ig]
def Je{t:Nat}{b:Bool}:∀(C:LSp) (es:LOB),(∀x∈C,x.1.1.toNat≠t)->clr (put es t b) C=put (clr es C) t b
 | [],_,_=>rfl
 |x::C,es,h=>by
  show clr ((put es t b).set _ _) C=put (clr _ C) t b;rw[<- Je C _ λy a=>h y (bq _ a)];unfold put;rw[set_comm _ _ (h x aF).symm]
def Jf{n:Nat}{L:LRu}{bs:LLP}{st:LSp}:∀C:LSp,Tr n L bs (C++st)->clr (aW n (C++st)) C.reverse=aW n st
 | [],_=>rfl
 |y::C,h=>by
  have y0:=h.2.t0;have c:=h.2.t1;rw[iQ];unfold clr;rw[eE];show(clr (put (aW n (C++st)) y.1.1.toNat y.1.2) C.reverse).set _ ab=_;rw[Je _ _ λx a e=>?_,(Jf C h.1)]
  .unfold put;rw[set_set];refine m9 ?_;have e:=(iL _ h).2.2 y aF;have b:y.1.1.toNat<(aW n st).length:=by rw[eZ];lia
   grind
  .have a:=e9.mp a;have:=ju h.1 (bS st a);refine(cf.mp (nJ h)).1 (aJ.mpr ⟨x,bS _ a,?_⟩)
   grind
def U4{f:Xe}{g:Xa}{a:LS}(h:f M=aa (d,ρ1))(h':g ρ1=aa (ds,a)):bH f g M=aa (d::ds,a):=by
 unfold bH
 grind
abbrev Spt.bk(n:Nat)(s:Spt)(A:LSp):Spt:={s with es:=aW n A.reverse,st:=A.map stD,wt:=[]}
variable{A V5:LSp}
def U5(tr:Tr n L s.bs (A++V5).reverse)(f:s.st=(A++V5).map stD)(b:s.es=aW n (A++V5).reverse)(l:Addr):BX l [.int (A.length:Nat)] (s.F L)=aa (((s.bk n A).S L).o,.non):=by
 have h:((A++V5).drop (HT.sIx (A++V5).length 0 (aa A.length))).take (HT.sIx (A++V5).length (A++V5).length ab-HT.sIx (A++V5).length 0 (aa A.length))=V5:=by
  rw[HT.sIx_nat,HT.sIx_none,aR,show min A.length _=A.length by lia,drop_left' rfl,show A.length+V5.length-A.length=V5.length by lia,take_length]
 have i:((A++V5).drop (HT.sIx (A++V5).length 0 ab)).take (HT.sIx (A++V5).length (A++V5).length (aa A.length)-HT.sIx (A++V5).length 0 ab)=A:=by
  rw[HT.sIx_nat,HT.sIx_none,aR,show min A.length _=A.length by lia,drop_zero,Nat.sub_zero,take_left' rfl]
 rw[lX]at tr b;have a:=Jf V5.reverse tr;rw[iP,<- b]at a;have c:s.es.length=n:=by rw[b,eZ]
 apply fE;apply ak
 refine dC V5 stD (λpre M=>∃d e,M=[.deep (.at l (({s with es:=clr s.es pre}:Spt).F L)),.im _,d,e]) (eS (bQ ((oY ((kB rfl).trans (by rw[f])) rfl rfl).trans (by rw[h]))) rfl) ⟨_,_,rfl⟩ ?_ ?_
 .rintro pre y post M ex ⟨d,e,rfl⟩;have g:=ju tr (bS A.reverse (e9.mpr (by rw[ex];simp:y∈V5)));refine⟨_,rfl,?_⟩;refine ID rfl rfl rfl g.1 (by rw[ay,Jd,c];exact g.2) ⟨.im (prD y.1),.im y.2.D,?_⟩;have j:clr s.es (pre++[y])=(clr s.es pre).set y.1.1.toNat ab:=by unfold clr;rw[eE];rfl
  rw[j];unfold Spt.F;rw[gX];rfl
 .rintro M ⟨d,e,rfl⟩;rw[a];apply ak;refine gO (x:=lsO (A.map stD)) ?_ rfl rfl ?_
  .refine nu ((oY ((kB rfl).trans ?_) rfl rfl).trans (by rw[i]));rw[f]
  exact gO (nu rfl) rfl rfl ⟨_,rfl,rfl,rfl⟩
abbrev lnD(bar:List Pr)(dn:List Ls):D:=.tup [eC bar,.lst (dn.map dnD)]
abbrev Spt.ln(s:Spt)(bar:List Pr)(dn:List Ls):Spt:={s with pp:=s.pp++[lnD bar dn]}
def vU{bar:List Pr}(tr:Tr n L s.bs st)(a:bar.Sublist (chs st.reverse)):cT n bar:=by
 refine⟨λz hz=>?_,?_⟩
 .obtain⟨y,c,e,_⟩:=pT (a.subset hz);rw[<- e];exact ju tr (e9.mp c)
 .refine(a.map (·.1)).nodup ?_;unfold chs;rw[map_map];have b:(st.reverse.map (·.1.1)).Nodup:=by rw[l6];exact pairwise_reverse.mpr ((nJ tr).imp λq e=>q e.symm)
  exact(nQ.map _).nodup b
inductive ClO(n:Nat)(L:LRu)(s:Spt)(st:LSp):O->Prop
 |fin {dn:List Ls}:jw n L s.bs st [] dn->ClO n L s st (({s.ln [] dn with en:=ac}:Spt).F L)
 |bk {bar:List Pr} {dn:List Ls} {A V5:LSp} {x:Stp}:jw n L s.bs st bar dn->pU st.reverse bar A x V5->ClO n L s st (((((s.ln bar dn).bk n A).bar bar).S L).o)
variable{c0:Nat}
def U6(hr:∀r∈L,RuK n r)(hz:L.length<=1000)(hn:n<=60)(h:SpJ n c V3 L s)(g:dX c0 L.length s.bs s.tw)(B:c0+3840<16777216)(v:s.bs.length<=60000)(C:s.pp.length<=60000)(t:TrS n L s st)(E:Rt n L s.bs s.es w):∃o,(∀l,pJ l [w.D] (s.S L).o=aa (o,.non))/\ClO n L s st o:=by
 obtain⟨bar,dn,i,k⟩:=U0 hr hz hn h t E;have tl:=sE t.tr;have tr:=t.tr
 by_cases f:bar=[]
 .subst f;refine⟨_,λl=>?_,.fin k⟩;apply fE;apply ak;refine jt (fD rfl rfl (dD rfl rfl) rfl (i l)) ?_;apply ak;refine rS rfl rfl (by lia) ?_;exact aY rfl (λq=>nomatch q) λ_=>(gO (rT rfl) rfl rfl ⟨_,rfl,rfl,rfl⟩)
 .have d:=t.sv
  obtain ⟨A,x,V5,pk,m⟩:=U3 (s:=s.ln bar dn) d (λy G=>by
   obtain⟨p,r,u⟩:=lZ (e9.mp G);rw[u]at tr
   rcases(iL p tr).1.2.ok with⟨a,_⟩ |⟨a,_⟩
   .exact .inl a
   .exact .inr a) (by rw[ie];lia) ((vU tr (qd _)).pd) k.bl f
  have j:st=(A++x::V5).reverse:=by rw[<- pk.e,iP]
  refine⟨_,λl=>?_,.bk k pk⟩;apply fE;apply ak;refine jt (fD rfl rfl (dD rfl rfl) rfl (i l)) ?_;apply ak;refine rS rfl rfl (by lia) ?_;refine aY (b:=ac) (df (bf rfl rfl rfl) ?_) (λ_=>?_) λq=>nomatch q
  .cases bar with
   |nil=>exact absurd rfl f
   |cons z b=>rfl
  apply ak;refine jo (fD rfl rfl (ρ1:=[.deep _,.im w.D,.im (lnD bar dn)]) ?_ rfl (U5 (s:=s.ln bar dn) (by rw[<- j];exact tr) (by rw[<- pk.e];exact d) (by rw[<- j];exact t.es) l)) ?_
  .exact U4 (fD rfl rfl (dD rfl rfl) rfl (m l)) rfl
  refine jo (fD rfl rfl (dD rfl rfl) rfl (Ul _ bar g B h.bk (vU tr k.bl) hn (by show L.length+s.bs.length<_;lia) (by show 0<_;lia))) ⟨_,rfl,rfl,rfl⟩
abbrev dg:D->Nat
 |.tup [_,.non]=>1
 | _=>2
abbrev vl:Nat->LD->Nat
 | 0,_=>0
 | _+1,[]=>0
 |k+1,d::ds=>dg d*3 ^ k+vl k ds
def Jg(d:D):1<=dg d/\dg d<=2:=by unfold dg;split <;> exact⟨by decide,by decide⟩
def sF:∀(k:Nat) (ds:LD),vl k ds<3 ^ k
 | 0,_=>Nat.one_pos
 |k+1,[]=>Nat.pow_pos (by decide)
 |k+1,d::ds=>by
  have a:=sF k ds;have h2:=wx (3 ^ k) (Jg d).2;simp only[vl,Nat.pow_succ]
  lia
def Jh:∀(k:Nat) (a:LD) (d:D) (b:LD),a.length<k->vl k a<vl k (a++d::b)
 | 0,_,_,_,h=>absurd h (ik _)
 |k+1,[],d,b,_=>by
  have c:=wx (3 ^ k) (Jg d).1;have h2:0<3 ^ k:=Nat.pow_pos (by decide);show 0<dg d*3 ^ k+vl k b
  lia
 |k+1,e::a,d,b,h=>Nat.add_lt_add_left (Jh k a d b (Nat.lt_of_succ_lt_succ h)) _
def Ji:∀(k:Nat) (a:LD) (x y:D) (b c:LD),a.length<k->dg x=1->dg y=2->vl k (a++x::b)<vl k (a++y::c)
 | 0,_,_,_,_,_,h,_,_=>absurd h (ik _)
 |k+1,[],x,y,b,c,_,hx,hy=>by
  have d:=sF k b;show dg x*3 ^ k+vl k b<dg y*3 ^ k+vl k c;rw[hx,hy]
  lia
 |k+1,e::a,x,y,b,c,h,hx,hy=>Nat.add_lt_add_left (Ji k a x y b c (Nat.lt_of_succ_lt_succ h) hx hy) _
abbrev aI(L:LRu)(V5:Nat)(s:Spt):OD×Spt:=stF L V5 (Me V5 s+1) s
abbrev nv(n:Nat)(L:LRu)(V5:Nat)(s:Spt):Nat:=vl n (aI L V5 s).2.st
structure Hd(n c0 V5 V3:Nat)(L:LRu)(s:Spt)(st:LSp):Prop where
 J:SpJ n V5 V3 L s
 tw:dX (c0+3840*s.bs.length) L.length s.bs s.tw
 t:TrS n L s st
 pp:s.pp.length=s.bs.length
 en:s.en=af
 nb:s.bs.length<=nv n L V5 s
structure Par(n c0 V5 V3:Nat)(L:LRu):Prop where
 hr:∀r∈L,RuK n r
 hz:L.length<=250
 hn:n<=60
 hC:c0+3840*3 ^ n<=V5
 hB:n*(V5+1)+n+L.length+3<=V3
 h2:V3+V5<16777216
structure Se(n c0 V5 V3:Nat)(L:LRu)(s s1:Spt)(st st1:LSp):Prop where
 J:SpJ n V5 V3 L s1
 t:TrS n L s1 st1
 xt:∃xt,st1=xt++st/\∀x∈xt,x.2.nc=ac
 bs:s1.bs=s.bs
 tw:s1.tw=s.tw
 pp:s1.pp=s.pp
 ct:s1.ct=s.ct
 en:s1.en=s.en
variable{V5:Nat}
def Hd.se(P:Par n c0 V5 V3 L)(h:Hd n c0 V5 V3 L s st):∃st1,Se n c0 V5 V3 L s (aI L V5 s).2 st st1/\∀w,(aI L V5 s).1=aa w->∃wh:Wh,w=wh.D/\wh.nc=ac/\Rt n L s.bs (aI L V5 s).2.es wh:=by
 have hz:=P.hz;have a:=Da P.hr (by lia) _ s h.J (c6 _);obtain⟨⟨xt,g,i⟩,b,c,d,e,f⟩:=vN P.hr (by lia) P.hn _ s h.J (sA P.hr _ _ h.J (TrM.refl h.t));exact⟨_,⟨a.ok,g,⟨xt,rfl,i⟩,a.bs,b,c,d,e⟩,f⟩
def U7(P:Par n c0 V5 V3 L)(h:Hd n c0 V5 V3 L s st)(l:Addr):rN l [] (s.S L).o=aa (((aI L V5 s).2.S L).o,(aI L V5 s).1.getD .non):=by
 have hz:=P.hz;have mB:=h.J.mB;have h2:=P.h2;exact UJ P.hr (by lia) P.hn P.h2 h.J (c6 _) (by grind)
def Jj{b:List Pr}{bs:LLP}:∀{st:LSp},Tr n L bs st->Tr n L (bs++[b]) st
 | [],_=>trivial
 |x::st,h=>by
  refine⟨Jj h.1,h.2.t0,h.2.t1,h.2.op,?_⟩
  rcases h.2.ok with q |⟨q1,q2⟩
  .exact .inl q
  .refine .inr ⟨q1,?_⟩
   cases c:x.2 with
   |ch=>rw[c]at q2;exact q2
   |wd i=>rw[c]at q2;exact q2
   |gp ks=>rw[c]at q2;exact q2
   |gd y=>
    rw[c]at q2;obtain⟨f,d⟩:=q2;have hm:=eW.mp f;obtain⟨a,j⟩:=y
    cases a with
    |false=>exact⟨eW.mpr hm,d⟩
    |true=>
     refine⟨eW.mpr (by show j<(bs++[b]).length;rw[aR];lia),?_⟩
     have e:bL L (bs++[b]) (ac,j)=bL L bs (ac,j):=by
      show brg _=brg _;rw[lR,if_neg (by lia)]
     rw[e];exact d
def Jk(P:Par n c0 V5 V3 L)(t:TrS n L s st)(bk:∀b∈s.bs,cT n b)(tw:dX V5 L.length s.bs s.tw)(wv:∀y∈s.wt,y∈gys L.length s.bs.length)(ms:s.ms.Perm (fF L))(wl:s.wt.length<=L.length+1):SpJ n V5 V3 L s:=by
 have hB:=P.hB;have f:=Up s.es;have c:s.es.length=n:=by rw[t.es,eZ]
 have tl:=sE t.tr;have hm:iK s.es*_<=n*(V5+1):=wx _ (by lia);refine⟨c,bk,tw,wv,ms,by lia,by rw[t.sv,ay,ie];lia,λd hd=>?_⟩;rw[t.sv]at hd;obtain⟨x,a,rfl⟩:=aJ.mp hd;have a:=e9.mp a;obtain⟨p,r,e⟩:=lZ a;refine⟨x.1,x.2.D,rfl,ju t.tr a,?_⟩;rw[t.es,e];exact vT (by rw[<- e];exact t.tr)
variable{b0:List Pr}
def U8{bar:List Pr}(g:es.length=n)(f:cT n bar)(e:bar=b0++[z])(m:∀y∈bar,y.2=ac)(i:∀y∈b0,es.getD y.1.toNat ab=aa ac)(hz:es.getD z.1.toNat ab=ab):∃p ps,prs (brg bar) es=aa (p::ps):=by
 have j:∀p∈brg bar,p.Ok es.length:=λp b=>by rw[g];exact(si f p b).1
 have br:∀y∈bar,brP y=.inn y.1:=λy c=>by unfold brP;rw[m y c];rfl
 have a:z∈bar:=by grind
 have h:=f.nn z a
 cases b:prs _ es with
 |none=>
  have:=IE b _ (aJ.mpr ⟨z,a,rfl⟩);rw[br z a]at this;have this:(es.getD z.1.toNat ab==aa ac)=ac:=this
  grind
 |some l=>
  obtain⟨_,h2,_⟩:=nH j b
  have:_∈l:=(h2 (z.1,af)).mpr ⟨⟨h.1,by rw[g];exact h.2⟩,sD hz,λp b=>by
   obtain⟨y,c,rfl⟩:=aJ.mp b;rw[br y c];show((put es z.1.toNat ac).getD y.1.toNat ab==aa ac)=ac
   by_cases d:y.1.toNat=z.1.toNat
   .rw[d,eU es ac (by lia)];rfl
   .rw[cY es ac d]
    have:y∈b0:=by
     grind
    rw[i y this];rfl⟩
  cases l with
  |nil=>nomatch this
  |cons p ps=>grind
def Dk{bs:LLP}(tr:Tr n L bs st){y:Pr}(c:y∈chs st.reverse):y.2=ac/\(aW n st).getD y.1.toNat ab=aa ac:=by
 obtain⟨x,b,e,hn⟩:=pT c;obtain⟨p,r,rfl⟩:=lZ (e9.mp b);have d:=vT tr
 rcases(iL p tr).1.2.ok with⟨_,a,_⟩ |⟨a,_⟩
 .grind
 .grind
structure Clo(n:Nat)(s1 s2:Spt)(bar:List Pr)(dn:List Ls)(A:LSp):Prop where
 es:s2.es=aW n A.reverse
 sv:s2.st=A.map stD
 bs:s2.bs=s1.bs++[bar]
 tw:s2.tw=fV (ac,s1.bs.length) (brg bar) (lQ s1.bs s1.tw bar)
 wt:s2.wt=[(ac,s1.bs.length)]
 ms:s2.ms=s1.ms
 pp:s2.pp=s1.pp++[lnD bar dn]
 en:s2.en=s1.en
variable{s2:Spt}{T st1:LSp}{dn:List Ls}
def U9{bar:List Pr}(P:Par n c0 V5 V3 L)(h:Hd n c0 V5 V3 L s st)(e:Se n c0 V5 V3 L s (aI L V5 s).2 st st1)(k:jw n L s.bs st1 bar dn)(p:pU st1.reverse bar A x T)(q:Clo n (aI L V5 s).2 s2 bar dn A):Hd n c0 V5 V3 L s2 A.reverse/\nv n L V5 s<nv n L V5 s2:=by
 have hn:=P.hn;have hz:=P.hz;have hC:=P.hC
 have er:st1=T.reverse++x::A.reverse:=by
  have:=congrArg List.reverse p.e;rw[iP,lX,iQ,cG]at this;exact this
 have c:=e.t.tr;rw[e.bs]at c;have g:Tr n L s.bs (x::A.reverse):=by rw[er]at c;exact(iL _ c).1
 have bk:=vU c k.bl;have E:TrS n L s2 A.reverse:=⟨by rw[q.sv,iP],q.es,by rw[q.bs,e.bs];exact Jj g.1⟩;have hnv:=sF n (aI L V5 s).2.st;have hnb:s.bs.length<=vl n (aI L V5 s).2.st:=h.nb;have j:s2.bs.length=s.bs.length+1:=by rw[q.bs,e.bs,aR];rfl
 have i:dX (c0+3840*s.bs.length+3840) L.length s2.bs s2.tw:=by
  have:=(h.tw.dropped (λb H=>(h.J.bk b H).pd) bar).bar bk hn;rw[q.bs,q.tw,e.bs,e.tw];exact this
 have I:SpJ n V5 V3 L s2:=by
  refine Jk P E (λb H=>?_) ⟨i.wk.le (by lia),i.vl,i.br⟩ (λy f=>?_) (by rw[q.ms];exact e.J.ms) (by rw[q.wt];show 1<=_;lia)
  .rw[q.bs,e.bs]at H
   rcases bv.mp H with z |z
   .exact h.J.bk b z
   .rw[bE.mp z];exact bk
  .rw[q.wt]at f;rw[bE.mp f];exact eW.mpr (by show _<s2.bs.length;rw[q.bs,aR];exact c6 _)
 have r:nv n L V5 s<nv n L V5 s2:=by
  obtain⟨b0,z,eb,M,U,_,_⟩:=p.br;have B:∀y∈bar,y.2=ac:=λy f=>(Dk c (k.bl.subset f)).1;have m:=eZ n A.reverse;have h0:∀y∈b0,s2.es.getD y.1.toNat ab=aa ac:=λy f=>by rw[q.es];exact(Dk g.1 (by rw[iP];exact M.subset f)).2
  have Y:s2.es.getD z.1.toNat ab=ab:=by
   obtain⟨y,f,ey,_⟩:=pT U;have tr2:Tr n L s.bs ((T.reverse++[x])++A.reverse):=by rw[cG];rw[er]at c;exact c
   rw[q.es,<- ey];refine(iL _ tr2).2.2 y ?_
   rcases bh.mp f with u |u
   .rw[u];simp
   .simp[u]
  obtain⟨d,ps,N⟩:=U8 (by rw[q.es,m]) bk eb B h0 Y
  have hg:bL L s2.bs (ac,(aI L V5 s).2.bs.length)=brg bar:=by
   show brg _=_;rw[q.bs,lR,if_pos rfl]
  have hok:∀u∈bL L s2.bs (ac,(aI L V5 s).2.bs.length),u.Ok s2.es.length:=by rw[hg,q.es,m];exact λu l=>(si bk u l).1
  rw[<- hg]at N;obtain⟨C,r2,_⟩:=nH hok N;obtain⟨J3,_,f⟩:=I.pop q.wt
  have t3:TrS n L {s2 with wt:=[]} A.reverse:=⟨E.sv,E.es,E.tr⟩
  obtain⟨⟨u0,G⟩,uo⟩:=C.op d aF;have G:d.1<n:=by rw[q.es,m]at G;exact G
  obtain⟨n1,n2⟩:=cf.mp C.nd
  have t5:=Dc (s:=({ s2 with wt:=[] } : Spt).pt d.1 d.2 _) f (by show (put s2.es _ _).length=n; rw [b7,q.es,m]) (λu l=>by show u.Ok (put s2.es _ _).length; rw [b7]; exact hok u l) C.tail (λv hv u l=>by
   obtain⟨⟨v0,v1⟩,vo⟩:=C.op v (bq _ hv);have ne:d.1≠v.1:=λee=>n1 (aJ.mpr ⟨v,hv,ee.symm⟩);show u.sure (put (put s2.es d.1.toNat d.2) v.1.toNat _)=ac;rw[vC (by lia)];exact vw (by rw[b7];exact hok u l) u0 (by rw[b7,q.es,m];exact G) (vE u0 v0 ne uo) _ (((r2 v).mp (bq _ hv)).2.2 u l)) (TrM.refl (t3.pt (w:=.gd _) u0 G uo rfl ⟨f,((r2 d).mp aF).2.2⟩))
  have t6:TrM n L (((d.1,d.2),.gd (ac,(aI L V5 s).2.bs.length))::A.reverse) (lrF L (Me V5 s2+1) s2).2:=by
   rw[pP q.wt N];exact sA P.hr _ _ (nG J3 C).1 t5
  obtain⟨⟨xt,k2,_⟩,_⟩:=vN P.hr (by lia) hn _ s2 I t6
  have e1:(aI L V5 s).2.st=A.map stD++stD x::T.map stD:=by
   rw[e.t.sv,p.e,a8,bF]
  have e2:(aI L V5 s2).2.st=A.map stD++stD ((d.1,d.2),.gd (ac,(aI L V5 s).2.bs.length))::xt.reverse.map stD:=by
   show(stF L V5 _ s2).2.st=_;rw[k2.sv,lX,iQ,iP,cG,a8,a8];rfl
  unfold nv;rw[e1,e2];have tl:=sE g;rw[cy,ie]at tl;refine Ji n _ _ _ _ _ (by rw[ay];lia) ?_ rfl
  have Q:x.2=.ch:=by
   rcases g.2.ok with⟨a,_⟩ |⟨a,_⟩
   .exact a
   .rw[p.nc]at a;nomatch a
  unfold stD;rw[Q];rfl
 refine⟨⟨I,by rw[j];exact i,E,by rw[q.pp,e.pp,aR,h.pp,j];rfl,by rw[q.en,e.en];exact h.en,?_⟩,r⟩;rw[j];exact l8 h.nb r
def Dl(es:LOB):dh .non (es.map shD)=aa (es.any (·==ab)):=by
 induction es with
 |nil=>rfl
 |cons e es a=>
  show((deq 19 _ .non).bind λb=>(dh .non _).map λr=>b || r)=_;rw[a]
  cases e with
  |none=>rfl
  |some b=>cases b <;> rfl
def Va(h:es.any (·==ab)=ac):gM (.lst (es.map shD)) .non=aa (.int (es.findIdx (·==ab):Nat)):=by
 show(if dh _ _=aa ac then aa _ else ab)=_;rw[Dl,h,if_pos rfl]
 congr 3
 clear h
 induction es with
 |nil=>rfl
 |cons e es a=>
  rw[bF,qb,qb,a]
  cases e with
  |none=>rfl
  |some b=>cases b <;> rfl
abbrev wOf(es:LOB):LI0:=((eX 0 es).filter λp=>p.2==aa ac).map λp=>(p.1:Int)
def Vb(h:es.any (·==ab)=af)(c:es.length<=1000):rO [.lst (es.map shD)]=aa ((wOf es).map D.int):=by
 refine mW ?_;unfold wOf;rw[map_map];refine congrArg _ (eR _ _ _ _ (by rw[<- sw];exact vi rfl) (by rw[vG];lia) λp a=>dJ rfl (df rfl ?_) λ_=>rfl);have hm:=any_eq_false.mp h p.2 (dP (kG a))
 cases e:p.2 with
 |none=>rw[e]at hm;exact absurd rfl hm
 |some b=>cases b <;> rfl
variable{F:MF3}
def Jl{t:MF4}{k:Nat}(h:t M=aa ac)(a:wp F M λr=>match r with
  |.nx ρ'=>wp (da t F k) ρ' K
  |.rtS d ρ'=>K (.rtS d ρ')
  | _=>False):wp (da t F (k+1)) M K:=by
 obtain⟨r,e,q⟩:=a;unfold wp da;rw[h,e,az]
 cases r with
 |nx ρ'=>exact q
 |rtS d ρ'=>exact⟨_,rfl,q⟩
 | _=>exact q.elim
def sG{t:MF4}{k:Nat}(h:t M=aa af)(q:K (.nx M)):wp (da t F (k+1)) M K:=⟨.nx M,by unfold da;rw[h];rfl,q⟩
nonrec def anT:MF4:=gD (bI (pD (aU "Seeking" "ended" (aH 0))))
nonrec def anB:MF3:=(ai (fU 1 (cE 0 "Seeking" "settle" rN cx))
  (bg (mB (m2 gb (ae 1) kN)) (dN (cE 0 "Seeking" "close" pJ (bH (mX (ae 1)) cx))) (bg (mB (m2 fR kN (pB @9))) (dN (cE 0 "Seeking" "put" pK (bH (mX (m2 gM (pB @9) kN)) (bH (mX (kBl ac)) (bH (mX kN) cx))))) (ai (aX 2 (aO (o7 rO (ag (pB @9) nZ))))
  (ai (dN (cE 0 "Seeking" "close" pJ (bH (mX (bj (ag (kSt "world") (ag (pD (aU "Seeking" "count" (aH 0))) nZ)))) cx)))
  (ai (nt 0 "Seeking" "count" (kI 1))
  (fA (ae 2))))))))
abbrev anK(l:Addr)(o:O):Option (LI0)->Fl->Prop
 |none,x=>∃M,x=.nx M/\M[0]?=aa (.deep (.at l o))
 |some ws,x=>∃M,x=.rtS (.lst (ws.map D.int)) M/\M[0]?=aa (.deep (.at l o))
def Vc(P:Par n c0 V5 V3 L)(h:Hd n c0 V5 V3 L s st)(e:Se n c0 V5 V3 L s (aI L V5 s).2 st st1){t:Nat}(t1:t<n)(i:(aI L V5 s).2.es.getD t ab=ab)(p:∀j,j<t->(aI L V5 s).2.es.getD j ab≠ab):Hd n c0 V5 V3 L ((aI L V5 s).2.pt t ac .non) (((t,ac),.ch)::st1)/\nv n L V5 s<nv n L V5 ((aI L V5 s).2.pt t ac .non):=by
 have hz:=P.hz;have f:=sD (by rw[dE];exact i);have c:=(e.J.pt (b:=ac) (w:=.non) (by lia) (by lia) f).1
 have d:TrS n L ((aI L V5 s).2.pt t ac .non) (((t,ac),.ch)::st1):=by
  refine⟨?_,?_,e.t.tr,by show(0:Int)<=t;lia,by show(t:Int)<n;lia,by rw[<- e.t.es];exact f,.inl ⟨rfl,rfl,λj m=>?_⟩⟩
  .show(aI L V5 s).2.st++[_]=_;rw[e.t.sv,iQ,a8];rfl
  .show put (aI L V5 s).2.es _ _=_;rw[e.t.es];rfl
  .rw[<- e.t.es]
   grind
 have a:nv n L V5 s<nv n L V5 ((aI L V5 s).2.pt t ac .non):=by
  obtain⟨⟨xt,l,_⟩,_⟩:=vN P.hr (by lia) P.hn _ _ c (sA P.hr _ _ c (TrM.refl d));have tl:=sE d.tr;rw[cy]at tl
  have g:(aI L V5 ((aI L V5 s).2.pt t ac .non)).2.st=(aI L V5 s).2.st++stD ((t,ac),.ch)::xt.reverse.map stD:=by
   show(stF L V5 _ _).2.st=_;rw[l.sv,lX,iQ,cG,a8,<- e.t.sv];rfl
  unfold nv;rw[g];exact Jh n _ _ _ (by rw[e.t.sv,ay,ie];lia)
 refine⟨⟨c,?_,d,?_,?_,?_⟩,a⟩
 .show dX (c0+3840*(aI L V5 s).2.bs.length) _ (aI L V5 s).2.bs (aI L V5 s).2.tw;rw[e.bs,e.tw];exact h.tw
 .show(aI L V5 s).2.pp.length=(aI L V5 s).2.bs.length;rw[e.bs,e.pp];exact h.pp
 .show(aI L V5 s).2.en=af;rw[e.en];exact h.en
 .show(aI L V5 s).2.bs.length<=_;rw[e.bs];exact cN h.nb (fj a)
structure Car(n c0 V5 V3:Nat)(L:LRu)(I:Spt->LSp->List (LI0)->Prop)(F:Spt->List (LI0)->Prop):Prop where
 ch:∀{s st st1 fd} {t:Nat},Hd n c0 V5 V3 L s st->I s st fd->Se n c0 V5 V3 L s (aI L V5 s).2 st st1->(aI L V5 s).1=ab->t<n->(aI L V5 s).2.es.getD t ab=ab->I ((aI L V5 s).2.pt t ac .non) (((t,ac),.ch)::st1) fd
 cl:∀{s st st1 fd w bar dn A x T s2},Hd n c0 V5 V3 L s st->I s st fd->Se n c0 V5 V3 L s (aI L V5 s).2 st st1->(aI L V5 s).1=aa (Wh.D w)->Rt n L s.bs (aI L V5 s).2.es w->jw n L s.bs st1 bar dn->pU st1.reverse bar A x T->Clo n (aI L V5 s).2 s2 bar dn A->s2.ct=s.ct->Hd n c0 V5 V3 L s2 A.reverse->I s2 A.reverse fd
 fi:∀{s st st1 fd w dn s2},Hd n c0 V5 V3 L s st->I s st fd->Se n c0 V5 V3 L s (aI L V5 s).2 st st1->(aI L V5 s).1=aa (Wh.D w)->Rt n L s.bs (aI L V5 s).2.es w->jw n L s.bs st1 [] dn->s2.pp=s.pp++[lnD [] dn]->F s2 fd
 wc:∀{s st st1 fd bar dn A x T s2},Hd n c0 V5 V3 L s st->I s st fd->Se n c0 V5 V3 L s (aI L V5 s).2 st st1->(aI L V5 s).1=ab->(aI L V5 s).2.es.any (·==ab)=af->jw n L s.bs st1 bar dn->pU st1.reverse bar A x T->Clo n (aI L V5 s).2 s2 bar dn A->s2.ct=s.ct+1->Hd n c0 V5 V3 L s2 A.reverse->I s2 A.reverse (fd++[wOf (aI L V5 s).2.es])
 wf:∀{s st st1 fd dn s2},Hd n c0 V5 V3 L s st->I s st fd->Se n c0 V5 V3 L s (aI L V5 s).2 st st1->(aI L V5 s).1=ab->(aI L V5 s).2.es.any (·==ab)=af->jw n L s.bs st1 [] dn->s2.pp=s.pp++[lnD [] dn]->F s2 (fd++[wOf (aI L V5 s).2.es])
structure Fin(L:LRu)(F:Spt->List (LI0)->Prop)(fd:List (LI0))(o:O):Prop where
 ex:∃s:Spt,s.en=ac/\s.pp≠[]/\s.pp.length<=100000/\F s fd/\o=s.F L
inductive Af(n c0 V5 V3:Nat)(L:LRu)(I:Spt->LSp->List (LI0)->Prop)(F:Spt->List (LI0)->Prop)(fd:List (LI0))(v:Nat)(o:O):Prop
 |go (s:Spt) (st:LSp):Hd n c0 V5 V3 L s st->I s st fd->v<nv n L V5 s->o=(s.S L).o->Af n c0 V5 V3 L I F fd v o
 |fin:Fin L F fd o->Af n c0 V5 V3 L I F fd v o
variable{I:Spt->LSp->List (LI0)->Prop}{F:Spt->List (LI0)->Prop}
def Dn(P:Par n c0 V5 V3 L)(K:Car n c0 V5 V3 L I F):∀(u:Nat) (s:Spt) (st:LSp) (fd:List (LI0)),Hd n c0 V5 V3 L s st->I s st fd->3 ^ n-nv n L V5 s<=u->∃(r:Option (LI0)) (o:O),(∀l v1 f k,u<k->wp (da anT anB (k+1)) [.deep (.at l (s.S L).o),v1,f] (anK l o r))/\(r=ab->Fin L F fd o)/\∀ws,r=aa ws->Af n c0 V5 V3 L I F (fd++[ws]) (nv n L V5 s) o
 | u,s,st,fd,h,hI,hμ=>by
  have hz:=P.hz;have hn:=P.hn;have hC:=P.hC;have h2:=P.h2;have hnv:nv n L V5 s<3 ^ n:=sF _ _;have hnb:=h.nb;have hpp:=h.pp;obtain⟨st1,se,hwy⟩:=h.se P;have i:=se.bs;have G:=se.ct;have m:=se.pp;have J1:=se.J;have Y:=U7 P h;have H:=λ(bar dn A x T s2)=>U9 (bar:=bar) (dn:=dn) (A:=A) (x:=x) (T:=T) (s2:=s2) P h se;have hch:=λt=>Vc (t:=t) P h se;have kch:=λt=>K.ch (t:=t) h hI se;have kcl:=λ(w bar dn A x T s2)=>K.cl (w:=w) (bar:=bar) (dn:=dn) (A:=A) (x:=x) (T:=T) (s2:=s2) h hI se;have kfi:=λ(w dn s2)=>K.fi (w:=w) (dn:=dn) (s2:=s2) h hI se;have kwc:=λ(bar dn A x T s2)=>K.wc (bar:=bar) (dn:=dn) (A:=A) (x:=x) (T:=T) (s2:=s2) h hI se;have kwf:=λ(dn s2)=>K.wf (dn:=dn) (s2:=s2) h hI se;generalize aI L V5 s=R at *;have y:=λ{w:Wh} B=>U6 (w:=w) P.hr (by lia) hn J1 (by rw[i,se.tw];exact h.tw) (by lia) (by rw[i];lia) (by rw[m];lia) se.t B;rw[i]at y
  have g:∀l v1 f k Q,wp _ [.deep _,.im _,f] _->wp (da anT anB (k+1)) [.deep (.at l (s.S L).o),v1,f] Q:=λl v1 f k Q U=>by
   refine Jl (oS (df (kB rfl) (by show mK (.bl s.en)=aa af;rw[h.en];rfl))) ?_;apply ak;exact jt (fD rfl rfl rfl rfl (Y l)) U
  cases hR:R.1 with
  |some wd=>
   obtain⟨w,rfl,hnc,B⟩:=hwy wd hR;obtain⟨o,e1,ck⟩:=y B
   have hwn:gb w.D .non=aa (.bl ac):=by
    cases w with
    |ch=>nomatch hnc
    | _=>rfl
   have step:=λl v1 f k Q U=>by
    refine g l v1 f k Q ?_;rw[hR];exact aY (bA (ap rfl rfl hwn)) (λ_=>(jo (fD rfl rfl (dD rfl rfl) rfl (e1 l)) U)) λq=>nomatch q
   cases ck with
   | @fin dn k=>
    rw[i]at k
    refine⟨ab,({R.2.ln [] dn with en:=ac}:Spt).F L,λl v1 f kk M=>?_,λ_=>⟨{R.2.ln [] dn with en:=ac},rfl,?_,?_,kfi w dn _ hR B k (by show(R.2.ln [] dn).pp=_;unfold Spt.ln;rw[m]),rfl⟩,λws e=>nomatch e⟩
    .obtain⟨kk,rfl⟩:∃j,kk=j+1:=⟨kk-1,by lia⟩;exact step l v1 f _ _ (sG rfl ⟨_,rfl,rfl⟩)
    .show R.2.pp++[_]≠[];simp
    .show(R.2.pp++[_]).length<=_;rw[aR,m];show _+1<=_
     lia
   | @bk bar dn A T x k p=>
    rw[i]at k;have q:Clo n R.2 (((R.2.ln bar dn).bk n A).bar bar) bar dn A:=⟨rfl,rfl,rfl,rfl,rfl,rfl,rfl,rfl⟩;obtain⟨v,g2⟩:=H bar dn A x T _ k p q
    match u,hμ with
    | 0,hμ=>lia
    | u+1,hμ=>
     obtain⟨r,o',i1,i2,i3⟩:=Dn P K u _ _ fd v (kcl w bar dn A x T _ hR B k p q G v) (by lia);refine⟨r,o',λl v1 f kk M=>?_,i2,λws e=>?_⟩
     .obtain⟨kk,rfl⟩:∃j,kk=j+1:=⟨kk-1,by lia⟩;exact step l v1 f _ _ (i1 l _ _ kk (by lia))
     .cases i3 ws e with
      |go s' C a b c d=>exact .go s' C a b (by lia) d
      |fin a=>exact .fin a
  |none=>
   have hl1:=J1.es
   cases ha:R.2.es.any (·==ab)with
   |true=>
    have N:=wg (any_eq_true.mp ha)
    have E:R.2.es.getD (R.2.es.findIdx (·==ab)) ab=ab:=by
     rw[bV,cF N];have:=findIdx_getElem (w:=N);exact beq_iff_eq.mp this
    obtain⟨v,g2⟩:=hch _ (by lia) E λj hj q=>by
     have:=not_of_lt_findIdx hj;rw[bV,cF (by lia)]at q;have q:R.2.es[j]=ab:=q;rw[q]at this;exact absurd this (by decide)
    match u,hμ with
    | 0,hμ=>lia
    | u+1,hμ=>
     obtain⟨r,o',i1,i2,i3⟩:=Dn P K u _ _ fd v (kch _ hR (by lia) E) (by lia);refine⟨r,o',λl v1 f kk M=>?_,i2,λws e=>?_⟩
     .obtain⟨kk,rfl⟩:∃j,kk=j+1:=⟨kk-1,by lia⟩;refine g l v1 f _ _ ?_;rw[hR];refine aY rfl (λq=>nomatch q) λ_=>?_;exact aY (b:=ac) (bA (ap rfl (jm jP) (by show((dh .non (R.2.es.map shD)).map D.bl)=_;rw[Dl,ha];rfl))) (λ_=>(jo (fD rfl rfl (dD (ap (jm jP) rfl (Va ha)) (dD rfl (dD rfl rfl))) rfl ((λl=>C6 (t:=(R.2.es.findIdx (·==ab):Nat)) J1 P.h2 (by lia) (by lia)) l)) (i1 l _ _ kk (by lia)))) λq=>nomatch q
     .cases i3 ws e with
      |go s' C a b c d=>exact .go s' C a b (by lia) d
      |fin a=>exact .fin a
   |false=>
    have B:Rt n L s.bs R.2.es (.wd R.2.ct):=λk M q=>by
     rw[bV,cF (by lia)]at q;have q:R.2.es[k]=ab:=q;exact any_eq_false.mp ha _ (iO _) (by rw[q];rfl)
    obtain⟨o,e1,ck⟩:=y B
    have step:∀o2 l v1 f k Q,(∀v1 f,nt 0 "Seeking" "count" (kI 1) [.deep (.at l o),v1,f]=aa (.nx [.deep (.at l o2),v1,f]))->Q (.rtS (.lst ((wOf R.2.es).map D.int)) [.deep (.at l o2),.im .non,.im (.lst ((wOf R.2.es).map D.int))])->wp (da anT anB (k+1)) [.deep (.at l (s.S L).o),v1,f] Q:=λo2 l v1 f k Q hau U=>by
     refine g l v1 f k Q ?_;rw[hR];refine aY rfl (λq=>nomatch q) λ_=>?_;refine aY (b:=af) (bA (ap rfl (jm jP) (by show((dh .non (R.2.es.map shD)).map D.bl)=_;rw[Dl,ha];rfl))) (λq=>nomatch q) λ_=>?_;apply ak;refine bn (d:=.lst ((wOf R.2.es).map D.int)) (bQ ?_) ?_
     .show(ag _ _ _).bind _=_;rw[ao (jm jP) rfl,az];show(rO [.lst (R.2.es.map shD)]).bind _=_;rw[(Vb ha (by lia)),az,if_pos (all_eq_true.mpr λd hd=>by obtain⟨z,_,rfl⟩:=aJ.mp hd;rfl)]
     apply ak;refine jo (fD rfl rfl (dD (d:=(Wh.wd R.2.ct).D) (cS (ao rfl (ao (kB rfl) rfl))) rfl) rfl (e1 l)) ?_;apply ak;exact⟨_,hau _ _,(jn rfl U)⟩
    cases ck with
    | @fin dn k=>
     rw[i]at k
     refine⟨aa (wOf R.2.es),(({({R.2.ln [] dn with en:=ac}:Spt)with ct:=R.2.ct+1}:Spt).F L),λl v1 f kk M=>step _ l v1 f kk _ (λ_ _=>rfl) ⟨_,rfl,rfl⟩,(λe=>nomatch e),λws e=>?_⟩
     cases e
     refine .fin ⟨{({R.2.ln [] dn with en:=ac}:Spt)with ct:=R.2.ct+1},rfl,?_,?_,kwf dn _ hR ha k (by show(R.2.ln [] dn).pp=_;unfold Spt.ln;rw[m]),rfl⟩
     .show R.2.pp++[_]≠[];simp
     .show(R.2.pp++[_]).length<=_;rw[aR,m];show _+1<=_
      lia
    | @bk bar dn A T x k p=>
     rw[i]at k
     have q:Clo n R.2 {((R.2.ln bar dn).bk n A).bar bar with ct:=R.2.ct+1} bar dn A:=⟨rfl,rfl,rfl,rfl,rfl,rfl,rfl,rfl⟩
     obtain⟨v,g2⟩:=H bar dn A x T _ k p q
     refine⟨aa (wOf R.2.es),(({((R.2.ln bar dn).bk n A).bar bar with ct:=R.2.ct+1}:Spt).S L).o,λl v1 f kk M=>step _ l v1 f kk _ (λ_ _=>rfl) ⟨_,rfl,rfl⟩,(λe=>nomatch e),λws e=>?_⟩
     cases e;exact .go _ _ v (kwc bar dn A x T _ hR ha k p q (by show R.2.ct+1=_;rw[G]) v) g2 rfl
def vV{cn a:Str}{f:Xa}(h:M[i]?=aa (.deep o))(hi:o.isIns cn a=ac)(e:f M=aa (ds,ρ1))(c:ρ1[i]?=aa (.deep o))(hm:∀l,m l ds o=aa (o',d)):jO i cn a m f M=aa (d,ρ1.set i (.deep o')):=by
 obtain⟨ns,os,rfl,_⟩:=zc hi;unfold jO;rw[h];show(if (O.ins cn ns os).isIns cn a=ac then _ else ab)=_;rw[if_pos hi,e,az,c];have b:∃q,∀l,m l ds _=aa q:=⟨_,hm⟩;dsimp only;rw[dif_pos b];have:=b.choose_spec 0;rw[hm 0]at this;rw[<- dk this]
inductive Sq:O->List (LI0)->O->Prop
 |nil {o o':O}:o.isIns "Seeking" "another"=ac->(∀l,m_8 l [] o=aa (o',.non))->Sq o [] o'
 |cons {o o' oE:O} {w:LI0} {ws:List (LI0)}:o.isIns "Seeking" "another"=ac->(∀l,m_8 l [] o=aa (o',.lst (w.map D.int)))->Sq o' ws oE->Sq o (w::ws) oE
abbrev wsD(ws:List (LI0)):D:=.lst (ws.map λw=>.lst (w.map D.int))
nonrec def wD(w:LI0):D:=.lst (w.map D.int)
nonrec def woT:MF4:=(dB (mB (m2 gb (ae 4) kN)) (mB (m2 dLt (av cu (ag (cD 3) nZ)) (ae 1))))
nonrec def woB:MF3:=(ai (c8 3 (ae 4)) (fU 4 (jO 2 "Seeking" "another" m_8 cx)))
def Jm{a:D}{most:Int}{oE:O}{K:Fl->Prop}:∀(ws:List (LI0)) (w:LI0) (o:O) (fs:List (LI0)) (k:Nat),Sq o ws oE->(fs.length:Int)<=most->fs.length+ws.length<10000000->ws.length+2<=k->(((fs++w::ws).length:Int)<=most->K (.nx [.im a,.im (.int most),.deep oE,.own ((fs++w::ws).map wD),.im .non]))->((¬((fs++w::ws).length:Int)<=most)->∀o' d,K (.nx [.im a,.im (.int most),.deep o',.own (((fs++w::ws).take most.toNat).map wD),.im (wD d)]))->wp (da woT woB k) [.im a,.im (.int most),.deep o,.own (fs.map wD),.im (wD w)] K
 |ws,w,o,fs,0,_,_,_,h,_,_=>absurd h (by lia)
 |ws,w,o,fs,k+1,hs,hm,hl,hk,k1,k2=>by
  have e:woT [.im a,.im (.int most),.deep o,.own (fs.map wD),.im (wD w)]=aa (decide (fs.length<most)):=by
   refine(jI (a:=ac) rfl (bA (ap (aD rfl (d9 fs wD)) rfl qZ))).trans ?_;rw[pY]
  by_cases c:fs.length<most
  .rw[decide_eq_true c]at e;refine Jl e ?_;apply ak;refine fS rfl rfl (by rw[ay];lia) ?_;have g:fs.map wD++[wD w]=(fs++[w]).map wD:=by rw[a8];rfl
   cases hs with
   |nil hi b=>
    refine jt (vV rfl hi rfl rfl b) ?_;rw[g];obtain⟨k,rfl⟩:∃j,k=j+1:=⟨k-1,by lia⟩;refine sG (by unfold woT dB;rfl) (k1 ?_);rw[aR];show((fs.length+1:Nat):Int)<=_
    lia
   | @cons _ o' _ d ws' hi b f=>
    refine jt (vV rfl hi rfl rfl b) ?_;rw[g];have i:fs++w::d::ws'=(fs++[w])++d::ws':=by rw[cG];rfl
    rw[i]at k1 k2;simp only[cy]at hl hk;exact Jm ws' d o' _ k f (by rw[aR];show((fs.length+1:Nat):Int)<=_;lia) (by rw[aR];show fs.length+1+_<_;lia) (by lia) k1 k2
  .rw[decide_eq_false c]at e;have l:fs.length=most.toNat:=by lia
   have:=k2 (by rw[aR,cy];lia) o w;rw[<- l,take_left' rfl]at this;exact sG e this
def Vd{f:Xa}(h:M[i]?=aa (.deep (.at l o0)))(b:f M=aa (ds,ρ1))(a:ρ1[i]?=aa (.deep (.at l o)))(hm:m l ds o=aa (o',d)):lN i m f M=aa (d,ρ1.set i (.deep (.at l o'))):=by
 unfold lN;rw[h,b,az,a];show(m l ds o).map _=_;rw[hm];rfl
abbrev s00(n:Nat)(L:LRu):Spt:=spT (gW n ab) L
def Ve(P:Par n c0 V5 V3 L)(l:Addr):Bo l [pl0 n L] (.ins "Seeking" [] [])=aa (((s00 n L).S L).o,.non):=by
 have hn:=P.hn;have e0:=TD (v:=n) (es:=gW n ab) P.hn P.hr P.hz l;rw[Ua]at e0;apply fE;apply ak;refine jo (Vd rfl (dD rfl (dD rfl (dD (bQ ?_) rfl))) rfl e0) ?_
 .rw[map_replicate];refine(gH _ _ _ ((qR (ao (bf rfl rfl rfl) rfl) (by lia) (by lia)).trans (by rw[dE])) (by rw[cZ];lia) λ_ _=>gf rfl rfl rfl).trans ?_;rw[map_const',cZ];rfl
 apply ak;refine gO (nu rfl) rfl rfl ?_;apply ak;exact gO (rT rfl) rfl rfl (gO (rT rfl) rfl rfl ⟨_,rfl,rfl,rfl⟩)
variable{q:Nat}
def hd0(P:Par n (64*q*L.length) V5 V3 L)(c:∀r∈L,(grd r).length<=q):Hd n (64*q*L.length) V5 V3 L (s00 n L) []:=by
 have hC:=P.hC;have b:=UK P.hn (lW (a:=ab)) λr hr=>⟨P.hr r hr,c r hr⟩;have t:TrS n L (s00 n L) []:=⟨rfl,rfl,trivial⟩;refine⟨Jk P t b.bk ⟨b.tw.wk.le (by lia),b.tw.vl,b.tw.br⟩ b.wv b.ms (by have:=b.wl;show(spT _ L).wt.length<=_;rw[this];show L.length+0<=_;lia),b.tw,t,rfl,rfl,cg _⟩
def Vf{fd:List (LI0)}(h:Fin L F fd o):Sq o [] o:=by
 obtain⟨s,e,_,_,_,rfl⟩:=h.ex;refine .nil rfl λl=>?_;apply fE;apply ak;exact sG (oS (df (kB rfl) (by show mK (.bl s.en)=aa ac;rw[e];rfl))) (jn rfl ⟨_,rfl,rfl,rfl⟩)
def Jn(P:Par n c0 V5 V3 L)(K:Car n c0 V5 V3 L I F):∀(g:Nat) (s:Spt) (st:LSp) (fd:List (LI0)),Hd n c0 V5 V3 L s st->I s st fd->3 ^ n-nv n L V5 s<=g->∃ws oE,Sq (s.S L).o ws oE/\Fin L F (fd++ws) oE/\ws.length<=g
 | g,s,st,fd,h,hI,hμ=>by
  have hC:=P.hC;have h2:=P.h2;have y:nv n L V5 s<3 ^ n:=sF _ _;obtain⟨r,o,q,u,v⟩:=Dn P K _ s st fd h hI (aM _)
  have run:∀l,m_8 l [] (s.S L).o=aa (o,match r with |none=>.non |some w=>wD w):=λl=>by
   apply fE;apply ak;refine O3 (q l _ _ 999999999 (by lia)) λx m=>?_
   cases r with
   |none=>
    obtain⟨M,rfl,e⟩:=m
    exact jn rfl ⟨o,e,rfl,rfl⟩
   |some w=>
    obtain⟨M,rfl,e⟩:=m;exact⟨o,e,rfl,rfl⟩
  cases r with
  |none=>exact⟨[],o,.nil rfl run,by rw[bP];exact u rfl,cg _⟩
  |some w=>
   cases v w rfl with
   |fin f=>exact⟨[w],o,.cons rfl run (Vf f),f,by show 1<=g;lia⟩
   |go z i a b c d=>
    subst d
    match g,hμ with
    | 0,hμ=>lia
    | g+1,hμ=>
     obtain⟨ws,oE,p,j,A⟩:=Jn P K g z i _ a b (by lia);exact⟨w::ws,oE,.cons rfl run p,by rw[cG]at j;exact j,by simp only[cy];lia⟩
def Vg(P:Par n (64*q*L.length) V5 V3 L)(f:∀r∈L,(grd r).length<=q)(K:Car n (64*q*L.length) V5 V3 L I F)(e:I (s00 n L) [] []):∃(ws:List (LI0)) (s:Spt),F s ws/\s.pp≠[]/\ws.length<=3 ^ n/\∀most:Int,0<=most->m_0 [pl0 n L,.int most]=aa (if (ws.length:Int)<=most then .tup [wsD ws,.bl ac,.lst s.pp] else .tup [wsD (ws.take most.toNat),.bl af,.lst []]):=by
 have hC:=P.hC;have h2:=P.h2;obtain⟨ws,oE,c,⟨s,f1,f2,h,d,rfl⟩,b⟩:=Jn P K (3 ^ n) _ [] [] (hd0 P f) e (by lia);refine⟨ws,s,d,f2,b,λmost hm=>?_⟩;apply jM;apply ak;refine PV (Tp rfl (λl=>Ve P l)) ?_;apply ak;refine dM rfl ?_;apply ak
 cases c with
 |nil hi hr=>
  refine jt (vV rfl hi rfl rfl hr) ?_;apply ak;refine sG (by unfold dB;rfl) ?_;apply ak;refine aY rfl (λ_=>?_) λq=>nomatch q
  exact lB rfl (Di rfl (eT rfl (fB ((if_pos (hm)).symm))))
 | @cons _ o' _ w ws hi hr g=>
  rw[cy]at b;refine jt (vV rfl hi rfl rfl hr) ?_;apply ak;refine Jm ws w o' [] _ g hm (by rw[length_nil];lia) (by lia) (λa=>?_) λa o2 i=>?_
  .apply ak;refine aY rfl (λ_=>?_) λq=>nomatch q;exact lB rfl (Di rfl (eT rfl (fB ((if_pos (a)).symm))))
  .apply ak;refine aY rfl (λq=>nomatch q) λ_=>b5 ?_;exact lB rfl (eT rfl (fB ((if_neg (a)).symm)))
structure Scr(x:D)(ns:LI0):Prop where
 ln:cu [x]=aa (.int ns.length)
 sq:iy x=aa (ns.map D.int)
 sl:∀{f:MF1} {l h:LS->Option (Option Int)} {M:LS} {lo hi:Option Int},f M=aa x->l M=aa lo->h M=aa hi->mSl f l h M=aa (((ns.drop (HT.sIx ns.length 0 lo)).take (HT.sIx ns.length ns.length hi-HT.sIx ns.length 0 lo)).map D.int)
def Vh(ns:LI0):Scr (.kl (ns.map D.int)) ns:=⟨Gg _ _,rfl,λe a b=>Gi e a b⟩
def Jo{x:D}(h:Scr x ns){i:Int}(b:0<=i):∃v,uN [x,.int i]=aa (.int v):=by
 by_cases a:i<ns.length
 .obtain⟨v,_,e⟩:=kj b a;exact⟨v,dA (NT (NU (bA (ap rfl (aD rfl h.ln) (qZ.trans (by rw[decide_eq_true a])))) (dz (bf h.sq rfl e))))⟩
 .exact⟨0,dA (ug (NV (bA (ap rfl (aD rfl h.ln) (qZ.trans (by rw[decide_eq_false a])))) rfl) rfl)⟩
def iM(c k:Int)(q:0<=k)(r:k<=100):∃v,m_3 [.int c,.int k]=aa (.int v)/\0<=v/\v<1000003:=by
 suffices h:∃d,m_3 _=aa d/\∃v:Int,d=.int v/\0<=v/\v<1000003 by
  obtain⟨d,e,v,rfl,h⟩:=h;exact⟨v,e,h⟩
 apply lD;obtain⟨p,i,n⟩:=kj (f:=D.int) (C:=[2147483647,1000000007,998244353,1000000009]) (dF _ (by decide)) (fW _ (by decide));have b:∀p∈([2147483647,1000000007,998244353,1000000009]:LI0),0<p/\p<=2147483647:=by decide
 obtain⟨j,u⟩:=b p (dP i);have l:=dF c (show 10 ^ (18:Int).toNat≠0 by decide);have m:=fW c (show 0<10 ^ (18:Int).toNat by decide);have a:(10:Int) ^ (18:Int).toNat=1000000000000000000:=by decide
 have g:mD 10 18:=⟨by decide,by decide,by decide⟩;apply ak;refine bn (by walk_at "ev") ?_;apply ak;refine bn (ap (ap (ap (ap rfl (ap rfl rfl (uw g)) (b8 (by rw[a];decide))) (ap rfl (ap rfl rfl gh) (o8 (.inr ⟨by lia,by lia⟩))) gh) rfl (o8 (.inr ⟨by rw[a]at m l ⊢;lia,by lia⟩))) rfl (b8 (by lia))) ?_;have o0:=dF ((c % 10 ^ (18:Int).toNat+15485863*(k+1))*48271) (show p≠0 by lia);have o1:=fW ((c % 10 ^ (18:Int).toNat+15485863*(k+1))*48271) j;generalize _*48271 % p=o at *;refine eT (ap (ap rfl rfl (o8 (.inr ⟨by lia,by lia⟩))) rfl (b8 (by decide))) (fB ⟨_,rfl,dF _ (by decide),fW _ (by decide)⟩)
def Vi(c k n:Int)(x:0<=k)(H:k<=90)(I:1<=n):∃d,AO [.int c,.int k,.int n]=aa d/\∃B:LII,d=.lst (B.map itD)/\InN n.toNat B/\B.length<=3:=by
 obtain⟨v,m,J,v1⟩:=iM c k x (by lia);have t0:0<=v % 4:=dF _ (by decide);apply lD;apply ak;refine dM rfl ?_;walk_at "nrm";apply ak;refine dC _ _ (λpre M=>∃(B:List _) (f g h:Sl),M=[.im _,.im _,.im _,.own (B.map itD),f,g,h]/\InN n.toNat B/\B.length=pre.length) (qR (ao (ap (aD rfl m) rfl (b8 (by decide))) rfl) t0 (by lia)) ⟨[],_,_,_,rfl,(λz hz=>nomatch hz),rfl⟩ ?_ ?_
 .rintro pre j post M ex ⟨B,f,g,h,rfl,b,e⟩;have G:j<(v % 4).toNat:=fY.mp (by rw[ex];simp)
  have r:pre.length<(v % 4).toNat:=by
   have:pre.length<(bM (v % 4).toNat).length:=by rw[ex];simp
   simpa using this
  obtain⟨a,l,A,E⟩:=iM c (k+1+j) (by lia) (by lia);obtain⟨w,u,p⟩:=kj (C:=[1,1,a / 8 % 4,c % 10 ^ (60:Int).toNat]) (i:=a / 32 % 4) (dF _ (by decide)) (fW _ (by decide))
  have y:0<=w:=by
   have:=dP u;simp only[bh,dQ,or_false]at this
   rcases this with rfl |rfl |rfl |rfl
   .decide
   .decide
   .exact dF _ (by decide)
   .exact dF _ (sJ p60)
  have m1:=fW (a / 128) (show 0<n by lia);refine⟨_,rfl,?_⟩;apply ak;refine bn (aD (ao rfl (ao (ap (ap rfl rfl gh) rfl gh) rfl)) l) ?_;apply ak;refine bn (bf (ao rfl (ao rfl (ao (ap (ap rfl rfl (lF (by walk_at "evS"))) rfl (b8 (by decide))) (ao (ap rfl (ap rfl rfl (uw HD)) (b8 p60)) rfl)))) (ap (ap rfl rfl (lF (by walk_at "evS"))) rfl (b8 (by decide))) p) ?_;refine fS (cS (ao (ap (ap rfl rfl (lF (by walk_at "evS"))) rfl (b8 (by lia))) (ao rfl rfl))) rfl (by rw[ay];lia) ⟨B++[(a / 128 % n,w)],_,_,_,by rw[a8];rfl,λz hz=>?_,by rw[aR,aR,e];rfl⟩
  rcases bv.mp hz with q |q
  .exact b z q
  .rw[bE.mp q];exact⟨(dF _ (show n≠0 by lia)),by show _<_;lia,y⟩
 .rintro M ⟨B,f,g,h,rfl,b,e⟩;rw[cZ]at e;exact mV rfl (jN ⟨B,rfl,b,by lia⟩)
def Vj(c k n:Int)(r:0<=k)(x:k<=80)(w:1<=n):∃d,uP [.int c,.int k,.int n]=aa d/\∃p:Prt,d=p.toD/\p.Ok n.toNat/\(nmP p).length<=3:=by
 obtain⟨v,m,E,v1⟩:=iM c k r (by lia);obtain⟨u,l,y,A⟩:=iM c (k+5) (by lia) (by lia);obtain⟨d,j,B,rfl,e,q⟩:=Vi c (k+1) n (by lia) (by lia) w;have g:(B.map (·.1)).length<=3:=by rw[ay];exact q
 apply lD;apply ak;refine bn (aD rfl m) ?_;walk_at "nrm";apply ak;refine aY (bA (ap (ap rfl rfl (b8 (by decide))) rfl qZ)) (λz=>?_) λz=>b5 ?_
 .obtain⟨wd,a,i⟩:=kj (f:=D.str) (C:=["in","in","out","out","in"]) (dF _ (by decide)) (of_decide_eq_true z);have h:=dF (v / 8) (show n≠0 by lia);have m1:=fW (v / 8) (show 0<n by lia);refine eT (cS (ao (bf rfl (ap rfl rfl (b8 (by decide))) i) (ao (ap (ap rfl rfl (lF (by walk_at "evS"))) rfl (b8 (by lia))) rfl))) (fB ?_);have:=dP a;simp only[bh,dQ,or_false]at this;have one:1<=3:=by decide
  rcases this with rfl |rfl |rfl |rfl |rfl
  .exact⟨.inn _,rfl,⟨h,by lia⟩,one⟩
  .exact⟨.inn _,rfl,⟨h,by lia⟩,one⟩
  .exact⟨.out _,rfl,⟨h,by lia⟩,one⟩
  .exact⟨.out _,rfl,⟨h,by lia⟩,one⟩
  .exact⟨.inn _,rfl,⟨h,by lia⟩,one⟩
 .walk_at "nrm";obtain⟨wd,a,i⟩:=kj (f:=D.str) (C:=["least","most"]) (dF _ (by decide)) (fW _ (by decide));have a:=dP a;simp only[bh,dQ,or_false]at a
  have fin:∀b:Int,∃p:Prt,D.tup [.str wd,.int b,.lst _]=p.toD/\p.Ok n.toNat/\(nmP p).length<=3:=λb=>by
   rcases a with rfl |rfl
   .exact⟨.least b B,rfl,⟨e,by lia⟩,g⟩
   .exact⟨.most b B,rfl,⟨e,by lia⟩,g⟩
  apply ak;refine bn (aD (ao rfl (ao (ap rfl rfl gh) (ao rfl rfl))) j) ?_;apply ak;refine bn (aD (ao rfl (ao (ap rfl rfl gh) rfl)) l) ?_;walk_at "nrm";apply ak;refine aY (bA (ap (ap rfl rfl (b8 (by decide))) rfl (km _ _))) (λz=>?_) λz=>b5 ?_
  .have c0:=dF c (sJ p60);refine eT (cS (ao (bf rfl (ap rfl rfl (b8 (by decide))) i) (ao (ap (ap rfl (ap rfl rfl (uw HD)) (b8 p60)) (ap (ap (ap rfl rfl (lF (by walk_at "evS"))) rfl (b8 (by decide))) rfl lG) (o8 (.inr ⟨by lia,by lia⟩))) (ao rfl rfl)))) (fB (fin _))
  .refine eT (cS (ao (bf rfl (ap rfl rfl (b8 (by decide))) i) (ao (ap (ap (ap rfl rfl (lF (by walk_at "evS"))) rfl (b8 (by decide))) rfl lG) (ao rfl rfl)))) (fB (fin _))
structure Ru5(n:Nat)(r:Rul):Prop where
 ok:r.Ok n
 nm:∀p∈r.ps,(nmP p).length<=3
 ln:r.ps.length<=3
def Ru5.k(h:Ru5 n r):RuK n r:=⟨h.ok,λp a=>cN (h.nm p a) (by decide),cN h.ln (by decide)⟩
def Vk(c n:Int)(N:1<=n):∃d,AS [.int c,.int n]=aa d/\∃r:Rul,d=r.toD/\Ru5 n.toNat r:=by
 obtain⟨v,H,v0,v1⟩:=iM c 0 (by decide) (by decide);obtain⟨u,G,U,Y⟩:=iM c 1 (by decide) (by decide);obtain⟨t,A,t0,t1⟩:=iM c 2 (by decide) (by decide);obtain⟨wd,l,I⟩:=kj (f:=D.str) (C:=["make","make","make","make","may","may","may","never"]) (i:=v % 8) (dF _ (by decide)) (fW _ (by decide));have L:=dF t (show n≠0 by lia);have m1:=fW t (show 0<n by lia);have Q:=dF u (show(4:Int)≠0 by decide);have s1:=fW u (show(0:Int)<4 by decide);apply lD;show wp _ [.im _,.im _,.no,.no,.no] _;apply ak;refine bn (d:=.str wd) (bf rfl (ap (aD rfl H) rfl (b8 (by decide))) I) ?_;apply ak;refine bn (d:=.int (u % 4)) (ap (aD rfl G) rfl (b8 (by decide))) ?_;refine ux (λM=>∃z:Int,M=[.im (.int c),.im (.int n),.im (.str wd),.im (.int z),.no]/\0<=z/\z<=3) ?_ ?_
 .refine aY (jI (bA (ap rfl rfl (qQ _ _))) (jI (bA (ap rfl rfl (km _ _))) (bA (ap (ap (aD rfl A) rfl (b8 (by decide))) rfl mU)))) (λ_=>?_) λ_=>?_
  .exact bn rfl (k_J ⟨2,rfl,by decide,by decide⟩)
  .exact b5 (k_J ⟨u % 4,rfl,Q,by lia⟩)
 .rintro M ⟨z,rfl,T,z3⟩
  obtain⟨ps,x,y,h⟩:=S9 (k:=1) (js:=[0,1]) (g:=ax 0) (ft:=λ_=>aa ac) (fe:=av uP (ag (ae 1) (ag (m2 d7 (kI 3) (m2 lJ (kI 6) (ae 0))) (ag (ae 2) nZ)))) (fi:=iz (ag (ae 3) nZ)) (M:=[.im (.int c),.im (.int n),.im (.str wd),.im (.int z),.no]) _ _ Prt.toD (λp=>p.Ok n.toNat/\(nmP p).length<=3) (qR rfl T (by lia)) (by rw[cZ];lia) λj B=>by
   have B:=fY.mp B;obtain⟨d,E,p,rfl,a⟩:=Vj c (3+6*j) n (by lia) (by lia) N;exact⟨p,a,gf rfl rfl (aD (ao rfl (ao (ap rfl (ap rfl rfl (o8 (.inr ⟨by lia,by lia⟩))) gh) (ao rfl rfl))) E)⟩
  rw[cZ]at y;have m:ps.length<=3:=by lia
  apply ak;refine bn (bQ x) ?_;have l:=dP l;simp only[bh,dQ,or_false]at l
  have mk:∀w:Wrd,w≠.never->wd=w.s->∃r:Rul,D.tup [.str wd,.int (t % n),.lst (ps.map Prt.toD)]=r.toD/\Ru5 n.toNat r:=λw J e=>⟨⟨w,t % n,ps⟩,by rw[e];cases w <;> first |rfl |exact absurd rfl J,⟨λ_=>⟨L,by show t % n<_;lia⟩,λp a=>(h p a).1,by show ps.length<=_;lia⟩,λp a=>(h p a).2,m⟩
  apply ak;refine aY (b:=wd == "never") (bA (ap rfl rfl (qQ _ _))) (λe=>?_) λe=>b5 ?_
  .refine eT (d:=.tup [.str wd,.non,.lst (ps.map Prt.toD)]) rfl (fB ⟨⟨.never,0,ps⟩,by rw[eq_of_beq e];rfl,⟨λq=>absurd rfl q,λp a=>(h p a).1,by show ps.length<=_;lia⟩,λp a=>(h p a).2,m⟩)
  .refine eT (d:=.tup [.str wd,.int (t % n),.lst (ps.map Prt.toD)]) (cS (ao rfl (ao (ap (aD rfl A) rfl (b8 (by lia))) (ao rfl rfl)))) (fB ?_)
   rcases l with q |q |q |q |q |q |q |q
   .exact mk .make @3 q
   .exact mk .make @3 q
   .exact mk .make @3 q
   .exact mk .make @3 q
   .exact mk .may @3 q
   .exact mk .may @3 q
   .exact mk .may @3 q
   .rw[q]at e;nomatch e
def ptE(h:f M=aa (.int v)):mPt f M=aa (aa v):=by unfold mPt;rw[h];rfl
def ru1{w:Wrd}{hd:Int}{ps:List Prt}(h:0<=hd/\hd<(n:Int))(a:∀p∈ps,p.Ok n/\(nmP p).length<=3)(b:ps.length<=3):Ru5 n ⟨w,hd,ps⟩:=⟨⟨λ_=>h,λp q=>(a p q).1,by show ps.length<=_;lia⟩,λp q=>(a p q).2,b⟩
def Vl(c n:Int)(x:0<=n)(A:n<=60):∃L:LRu,AM [.int c,.int n]=aa (L.map Rul.toD)/\(∀r∈L,Ru5 n.toNat r)/\L.length<=n.toNat:=by
 suffices h:wp uO _ (λr=>∃L:LRu,r=.rtO (L.map Rul.toD)/\(∀r∈L,Ru5 n.toNat r)/\L.length<=n.toNat) by
  obtain⟨r,e,L,rfl,h⟩:=h;exact⟨L,mW e,h⟩
 apply ak;refine dM rfl ?_;walk_at "nrm";apply ak;refine dC _ _ (λpre M=>∃(L:LRu) (f:Sl),M=[.im _,.im _,.own (L.map Rul.toD),f]/\(∀r∈L,Ru5 n.toNat r)/\L.length<=pre.length) (qR rfl x (by lia)) ⟨[],_,rfl,(λr hr=>nomatch hr),aM _⟩ ?_ ?_
 .rintro pre j post M ex ⟨L,f,rfl,g,h2⟩;have y:j<n.toNat:=fY.mp (by rw[ex];simp)
  have v:pre.length<n.toNat:=by
   have:pre.length<(bM n.toNat).length:=by rw[ex];simp
   simpa using this
  have u:=dF (j+1:Int) (show n≠0 by lia);have m1:=fW (j+1:Int) (show 0<n by lia);have one:1<=3:=by decide
  have add:∀r:Rul,Ru5 n.toNat r->∃(a:LRu) (f:Sl),[.im _,.im _,.own (L.map Rul.toD++[r.toD]),.im (.int j)]=[Sl.im (.int c),.im (.int n),.own (a.map Rul.toD),f]/\(∀r∈a,Ru5 n.toNat r)/\a.length<=(pre++[j]).length:=λr hr=>⟨L++[r],_,by rw[a8];rfl,λq w=>by rcases bv.mp w with z |z;exact g q z;rw[bE.mp z];exact hr,by rw[aR,aR];exact Nat.add_le_add_right h2 _⟩
  have no:∀{k:Int},c % 4≠k->∀M:LS,M[0]?=aa (.im (.int c))->mB (m2 dEq (m2 bJ (ae 0) (kI 4)) (λ_=>aa _)) M=aa af:=λ{k} h M e=>bA (ap (ap (by unfold ae;rw[e]) rfl (b8 (by decide))) rfl ((km _ _).trans (by rw[beq_false_of_ne h])));have ye:∀{k:Int},c % 4=k->∀M:LS,M[0]?=aa (.im (.int c))->mB (m2 dEq (m2 bJ (ae 0) (kI 4)) (λ_=>aa _)) M=aa ac:=λ{k} h M e=>bA (ap (ap (by unfold ae;rw[e]) rfl (b8 (by decide))) rfl ((km _ _).trans (by rw[h,beq_self_eq_true])));refine⟨_,rfl,?_⟩;apply ak
  by_cases i:c % 4=1
  .refine aY (ye i _ rfl) (λ_=>?_) λz=>nomatch z;refine fS (d:=Rul.toD ⟨.make,j,[.inn _]⟩) (cS (ao rfl (ao rfl (ao (bQ (ao (cS (ao rfl (ao (ap (ap rfl rfl gh) rfl (b8 (by lia))) rfl))) rfl)) rfl)))) rfl (by rw[ay];lia) ?_;apply ak;refine aY (no (by lia) _ rfl) @3 λ_=>b5 ?_;exact aY (no (by lia) _ rfl) @3 λ_=>b5 (add _ (ru1 ⟨by lia,by lia⟩ (λp b=>by rw[bE.mp b];exact⟨⟨u,by lia⟩,one⟩) one))
  .refine aY (no i _ rfl) @3 λ_=>b5 ?_;apply ak
   by_cases l:c % 4=2
   .refine aY (ye l _ rfl) (λ_=>?_) λz=>nomatch z;refine fS (d:=Rul.toD ⟨.make,j,[.out _]⟩) (cS (ao rfl (ao rfl (ao (bQ (ao (cS (ao rfl (ao (ap (ap rfl rfl gh) rfl (b8 (by lia))) rfl))) rfl)) rfl)))) rfl (by rw[ay];lia) ?_;exact aY (no (by lia) _ rfl) @3 λ_=>b5 (add _ (ru1 ⟨by lia,by lia⟩ (λp b=>by rw[bE.mp b];exact⟨⟨u,by lia⟩,one⟩) one))
   .refine aY (no l _ rfl) @3 λ_=>b5 ?_
    by_cases m:c % 4=3
    .refine aY (ye m _ rfl) (λ_=>?_) λz=>nomatch z;exact fS (d:=Rul.toD ⟨.may,j,[]⟩) rfl rfl (by rw[ay];lia) (add _ (ru1 ⟨by lia,by lia⟩ (λp b=>nomatch b) (cg _)))
    .refine aY (no m _ rfl) @3 λ_=>b5 ⟨L,_,rfl,g,by rw[aR];lia⟩
 .rintro M ⟨L,f,rfl,g,h2⟩;rw[cZ]at h2;exact mV rfl ⟨L,rfl,g,h2⟩
def Vm{x:D}(B:Scr x ns)(U:ns.length<=63){top:Int}(t1:1<=top)(t6:top<=6):∃(n:Nat) (L:LRu),uQ [x,.int top]=aa (pl0 n L)/\(n:Int)<top/\(∀r∈L,Ru5 n r)/\L.length<=5+ns.length:=by
 suffices h:∃d,uQ _=aa d/\∃(n:Nat) (L:LRu),d=pl0 n L/\n<top/\(∀r∈L,Ru5 n r)/\L.length<=5+ns.length by
  obtain⟨d,e,n,L,rfl,h⟩:=h;exact⟨n,L,e,h⟩
 obtain⟨v,I⟩:=Jo B (Int.le_refl _);have E:=dF v (show top≠0 by lia);have m1:=fW v (show 0<top by lia);obtain⟨L,j,N,h2⟩:=Vl _ _ E (by lia);obtain⟨u,Y,H⟩:=kj (f:=D.int) (C:=[60,60,40,24,10,5]) E (by show v % top<6;lia);apply lD;apply ak;refine bn (aD rfl I) ?_;apply ak;refine bn (ap rfl rfl (b8 (by lia))) ?_;apply ak
 refine dM (uz (ao (ap rfl rfl (lF (by first |exact .inl ⟨by lia,by lia⟩ |exact .inr ⟨by lia,by lia⟩ |exact⟨by lia,by lia⟩))) (ao rfl rfl)) j) ?_
 have g:((ns.drop (HT.sIx ns.length 0 (aa 1))).take (HT.sIx ns.length ns.length (aa (1+u))-HT.sIx ns.length 0 (aa 1))).length<=ns.length:=by
  grind
 generalize m:(ns.drop _).take _=A at g;generalize hn:v % top=n at *;apply ak;refine dC A D.int (λpre M=>∃(a:LRu) (i:Sl),M=[.im x,.im _,.im _,.im _,.own (a.map Rul.toD),i]/\(∀r∈a,Ru5 n.toNat r)/\a.length<=5+pre.length) (eS (bQ ((B.sl rfl rfl (ptE (ap rfl (bf rfl rfl H) gh))).trans (by rw[m]))) rfl) ⟨L,_,rfl,N,by show _<=5;lia⟩ ?_ ?_
 .rintro pre c post M ex ⟨a,i,rfl,l,J⟩;have Q:pre.length<A.length:=by rw[ex];simp
  have add:∀r:Rul,Ru5 n.toNat r->∃(b:LRu) (i:Sl),[.im x,.im _,.im _,.im _,.own (a.map Rul.toD++[r.toD]),.im (.int c)]=[Sl.im x,.im (.int top),.im (.int v),.im (.int n),.own (b.map Rul.toD),i]/\(∀r∈b,Ru5 n.toNat r)/\b.length<=5+(pre++[c]).length:=λr hr=>⟨a++[r],_,by rw[a8];rfl,λq T=>by rcases bv.mp T with z |z;exact l q z;rw[bE.mp z];exact hr,by rw[aR,aR];show _+1<=5+(_+1);lia⟩
  refine⟨_,rfl,?_⟩;refine aY (bA (ap rfl rfl (km _ _))) (λz=>?_) λz=>?_
  .have w:n=0:=by simpa using z
   exact fS (d:=Rul.toD ⟨.never,0,[.most _ []]⟩) (cS (ao rfl (ao rfl (ao (bQ (ao (cS (ao rfl (ao (ap (ap rfl rfl (b8 (by decide))) rfl lG) (ao rfl rfl)))) rfl)) rfl)))) rfl (by rw[ay];lia) (add _ ⟨⟨λq=>absurd rfl q,(λp y=>by rw[bE.mp y];exact⟨λz hz=>(nomatch hz),cg _⟩),(by decide:1<=100000)⟩,λp y=>by rw[bE.mp y];exact cg _,(by decide:1<=3)⟩)
  .have w:n≠0:=λq=>by rw[q]at z;nomatch z
   obtain⟨d,G,r,rfl,hr⟩:=Vk c n (by lia);exact fS (aD rfl G) rfl (by rw[ay];lia) (add r hr)
 .rintro M ⟨a,i,rfl,l,J⟩;refine lB rfl (eT rfl (fB ⟨n.toNat,a,?_,by lia,l,by lia⟩));unfold pl0;rw[show(n.toNat:Int)=n by lia]
def Jp(p:Prt):uL [p.toD]=aa p.toD:=by
 cases p with
 |inn t=>rfl
 |out t=>rfl
 |least k B=>rfl
 |most k B=>rfl
def Js(hr:∀r∈L,Ru5 n r)(f:L.length<=1000):uM [pl0 n L]=aa (pl0 n L):=by
 apply jM;apply ak;refine dM rfl ?_;apply ak;refine dC L Rul.toD (λpre M=>∃a b c,M=[.im _,.own (pre.map Rul.toD),a,b,c]) (eS (bf rfl rfl rfl) rfl) ⟨_,_,_,rfl⟩ ?_ ?_
 .rintro pre r post M ex ⟨a,b,c,rfl⟩;have d:pre.length<L.length:=by rw[ex];simp
  have e:=(hr r (by rw[ex];simp)).ln;refine⟨_,rfl,?_⟩;refine fS (cS (ao rfl (ao rfl (ao (bQ (gH r.ps Prt.toD Prt.toD rfl (by lia) λp _=>gf rfl rfl (aD rfl (Jp p)))) rfl)))) rfl (by rw[ay];lia) ⟨.im (.str r.w.s),.im r.hdD,.im (.lst (r.ps.map Prt.toD)),?_⟩;rw[a8];rfl
 .rintro M ⟨a,b,c,rfl⟩;exact lB rfl (eT rfl (fB rfl))
def Jt(a:n<=5)(hr:∀r∈L,Ru5 n r)(c:L.length<=69):Par n (64*4*L.length) 950900 4760000 L:=by
 have b:3 ^ n<=243:=Nat.pow_le_pow_right (by decide) a
 have key:∀V5 V3:Nat,V5=950900->V3=4760000->Par n (64*4*L.length) V5 V3 L:=λV5 V3 hC hB=>by
  exact⟨λr q=>(hr r q).k,by lia,by lia,by lia,by lia,by lia⟩
 exact key _ _ rfl rfl
def Ju(hr:∀r∈L,Ru5 n r):∀r∈L,(grd r).length<=4:=λr q=>by
 have:=(hr r q).ln;obtain⟨w,hd,ps⟩:=r;have this:ps.length<=3:=this
 cases w with
 |may=>exact(by decide:1<=4)
 |never=>show ps.length<=4;lia
 |make=>show(ps++[_]).length<=4;rw[aR];show _+1<=4;lia
variable{e:LOB}
def Jv(c:p.Ok e.length)(t0:0<=t)(t1:t<(e.length:Int))(a:opn e t=ac)(h:t∉nmP p\/gP p≠b):p.sure (put e t.toNat b)=p.sure e:=by
 rcases h with h |h
 .exact Tt c (by grind)
 .have d:=iJ a
  cases p with
  |inn u=>
   cases b with
   |true=>exact absurd rfl h
   |false=>
    show((put e t.toNat af).getD u.toNat ab==aa ac)=(e.getD u.toNat ab==aa ac)
    by_cases q:u.toNat=t.toNat
    .rw[q,eU e af (by lia),d];rfl
    .rw[cY e af q]
  |out u=>
   cases b with
   |false=>exact absurd rfl h
   |true=>
    show((put e t.toNat ac).getD u.toNat ab==aa af)=(e.getD u.toNat ab==aa af)
    by_cases q:u.toNat=t.toNat
    .rw[q,eU e ac (by lia),d];rfl
    .rw[cY e ac q]
  |least k B=>
   cases b with
   |true=>exact absurd rfl h
   |false=>
    show decide _=decide _;rw[vt c.1 t0 t1 a af]
    simp
  |most k B=>
   cases b with
   |false=>exact absurd rfl h
   |true=>
    show decide _=decide _;rw[vv c.1 t0 t1 a ac];simp
structure d6(G:List Prt)(es:LOB)(S:LI0):Prop where
 ns:¬d5 G es
 np:∀(t:Int) (b:Bool),0<=t->t<(es.length:Int)->opn es t=ac->d5 G (put es t.toNat (!b))->t∈S
variable{S:LI0}
def d6.pt(h:d6 G es (t::S))(i:∀p∈G,p.Ok es.length)(t0:0<=t)(t1:t<(es.length:Int))(j:opn es t=ac)(hn:∀p∈G,t∉nmP p\/gP p≠b):d6 G (put es t.toNat b) S:=by
 refine⟨λq=>h.ns λp a=>by rw[<- Jv (i p a) t0 t1 j (hn p a)];exact q p a,λu c d l f q=>?_⟩;rw[b7]at l
 have ne:u≠t:=λe=>by
  unfold opn at f;rw[e,eU es b (by lia)]at f
  grind
 have g:opn es u=ac:=by rw[<- C5 d t0 ne];exact f
 have:=h.np u c d l g λp a=>by
  have e:=Jv (e:=put es u.toNat (!c)) (by rw[b7];exact i p a) t0 (by rw[b7];exact t1) (vE t0 d (λe=>ne e.symm) j) (hn p a);rw[<- e,vC (by lia)]
  grind
 grind
def d6.of_prs{ps:List Pr}(c:∀p∈G,p.Ok es.length)(h:prs G es=aa ps):d6 G es (ps.map (·.1)):=by
 obtain⟨_,h2,p,e,a⟩:=nH c h;exact⟨(λq=>by rw[q p e]at a;nomatch a),λt b t0 t1 d q=>(aJ.mpr ⟨_,(h2 (t,b)).mpr ⟨⟨t0,t1⟩,d,q⟩,rfl⟩)⟩
abbrev Wch(L:LRu)(bs:LLP)(tw:Wt)(y:Wy):Prop:=∀p∈bL L bs y,∀t∈nmL p,y∈look tw (t,gP p)
abbrev Jq(L:LRu)(s:Spt)(y0:Wy)(S:LI0):Prop:=∀y∈gys L.length s.bs.length,Wch L s.bs s.tw y->y∈s.wt\/d6 (bL L s.bs y) s.es (if y=y0 then S else [])
def d6.more{f:LI0}(h:d6 G es S)(g:∀t∈S,t∈f):d6 G es f:=⟨h.ns,λt b a c d e=>g t (h.np t b a c d e)⟩
variable{y0:Wy}
def Jq.pt{w:D}(hr:∀r∈L,RuK n r)(k:SpJ n c V3 L s)(h:Jq L s y0 (t::S))(t0:0<=t)(t1:t<(n:Int))(g:opn s.es t=ac):Jq L (s.pt t b w) y0 S:=λy i e=>by
 have f:∀p∈bL L s.bs y,p.Ok s.es.length:=by rw[k.es];exact nI hr k.bk
 rcases h y i e with q |q
 .exact .inl (bS _ q)
 .by_cases hn:∀p∈bL L s.bs y,t∉nmP p\/gP p≠b
  .refine .inr (d6.pt (q.more ?_) f t0 (by rw[k.es];exact t1) g hn)
   grind
  .obtain⟨p,a⟩:=Classical.not_forall.mp hn;obtain⟨a,d⟩:=Classical.not_imp.mp a;refine .inl (ce _ ?_);have:=e p a t (rW.mpr (Classical.not_not.mp λz=>d (.inl z)));rw[(Classical.not_not.mp λz=>d (.inr z))]at this;exact this
def Jq.puts{n c V3:Nat}{L:LRu}{y0:Wy}{w:D}(hr:∀r∈L,RuK n r):∀{ps:List Pr} {s:Spt},SpJ n c V3 L s->fG s.es ps->Jq L s y0 (ps.map (·.1))->Jq L (puts s w ps) y0 []
 | [],_,_,_,h=>h
 |z::ps,s,k,p,h=>by
  obtain⟨⟨a,b⟩,e⟩:=p.op z aF;have b:z.1<n:=by rw[<- k.es];exact b
  exact Jq.puts hr (ps:=ps) (k.pt a b e).1 p.tail (Jq.pt hr k h a b e)
abbrev Jr(L:LRu)(s:Spt):Prop:=∀y0,Jq L s y0 []
def Jr.of(h:Jq L s y0 []):Jr L s:=λ_ y b a=>by
 rcases h y b a with q |q
 .grind
 .grind
def Jw{n c V3:Nat}{L:LRu}(hr:∀r∈L,RuK n r):∀(k:Nat) (s:Spt),SpJ n c V3 L s->Me c s<k->Jr L s->(lrF L k s).1=ab->Jr L (lrF L k s).2
 | 0,_,_,h,_,_=>absurd h (ik _)
 |k+1,s,h,hk,hj,he=>by
  cases b:s.wt with
  |nil=>rw[sm b];exact hj
  |cons y wt=>
   obtain⟨f,h2,m⟩:=h.pop b;have g:∀p∈bL L s.bs y,p.Ok s.es.length:=by rw[h.es];exact nI hr h.bk
   cases a:prs _ s.es with
   |none=>rw[sn b a]at he;cases he
   |some ps=>
    rw[pP b a]at he ⊢;obtain⟨i,u,_⟩:=nH g a;obtain⟨l,v⟩:=nG f i;refine Jw hr k _ l (by lia) (Jr.of (Jq.puts (y0:=y) hr f i ?_)) he;intro x j d
    by_cases e:x=y
    .rw[if_pos e];exact .inr (by rw[e];exact d6.of_prs g a)
    .rw[if_neg e]
     rcases hj x x j d with q |q
     .grind
     .grind
def Jx{n c V3:Nat}{L:LRu}{wo:LB0}(hr:∀r∈L,RuK n r):∀{ts:LI0} {s:Spt},SpJ n c V3 L s->fG s.es (ts.map λt=>(t,af))->Jr L s->Jr L (eD L wo s ts)
 | [],_,_,_,h=>h
 |t::ts,s,k,p,h=>by
  obtain⟨⟨a,b⟩,e⟩:=p.op _ aF;have b:t<n:=by rw[<- k.es];exact b
  refine Jx hr (ts:=ts) (k.pt a b e).1 p.tail (Jr.of (y0:=(af,0)) (Jq.pt hr k (λy g f=>?_) a b e))
  rcases h y y g f with q |q
  .grind
  .rw[if_pos rfl]at q;exact .inr (q.more λu d=>nomatch d)
abbrev sH(L:LRu)(es:LOB):Prop:=∀wo,Grp L es wo->∀i,wo.getD i af=af
def Vn(hm:eY es.length ms)(pm:ms.Perm (fF L))(g:Grp L es wo)(i:Nat)(hi:wo.getD i af=ac):(cb es ms).1.getD i af=ac:=by
 obtain⟨e,_⟩:=H9 hm.ne;refine TJ hm.ok e.pe (by rw[g.len];unfold jp;rw[ay]) (λj a=>?_) (λj a=>by rw[getD_nil]at a;nomatch a) (λr hr d=>?_) i hi
 .have f:=g.no j a
  have c:j<es.length:=by
   rw[<- g.len]
   grind
  unfold jp
  grind
 .obtain⟨_,h2,b⟩:=HW d;rw[g.up r (pm.mem_iff.mp hr) h2]at b
  grind
def Vo(wo:LB0)(es:LOB)(l:wo.length=es.length)(i:Nat):(sj es wo).getD i ab=if wo.getD i af=ac then aa af else es.getD i ab:=by
 unfold sj
 have gen:∀(ts:LI0) e,e.length=es.length->(∀t∈ts,0<=t/\t<es.length)->(ts.foldl (λes t=>put es t.toNat af) e).getD i ab=if (i:Int)∈ts then aa af else e.getD i ab:=by
  intro ts
  induction ts with
  |nil=>intro e _ _;rfl
  |cons t ts j=>
   intro e f c;obtain⟨a,b⟩:=c t aF;rw[fH,j _ (by rw[b7];exact f) λu g=>c u (bq _ g)]
   by_cases d:(i:Int)∈ts
   .grind
   .rw[if_neg d]
    by_cases h2:i=t
    .rw[if_pos (by grind),show i=t.toNat by lia,eU e af (by lia)]
    .rw[if_neg (λq=>by rcases bh.mp q with z |z;exact h2 z;exact d z),cY e af (by lia)]
 rw[gen _ es rfl λt c=>?_]
 .by_cases h:wo.getD i af=ac
  .rw[if_pos h,if_pos ((vd wo i).mpr ⟨by lia,by rw[dE];exact h⟩)]
  .rw[if_neg h,if_neg (λq=>h (by have:=((vd wo i).mp q).2;rwa [dE]at this))]
 .obtain⟨t0,tw⟩:=(vd wo t).mp c
  grind
def lost_by(h:p.Ok es.length)(a:∀i,es.getD i ab=aa ac->es'.getD i ab=aa ac)(h2:∀i,(es.getD i ab=aa af\/wo.getD i af=ac)->(es'.getD i ab=aa af\/wo'.getD i af=ac))(s:p.lost es wo=ac):p.lost es' wo'=ac:=IL h (λt _=>a _) (λt _=>h2 _) s
def Vp(hr:∀r∈L,RuK n r)(hz:L.length<=1000)(h:SpJ n c V3 L s)(y:(bD L s).1=ab):sH L (bD L s).2.es:=by
 have hm:=eY.of hr hz h.ms;obtain⟨M,l,pm,B⟩:=h.rem' hm;unfold bD at y ⊢
 cases G:inL s.es (cb s.es s.ms).1 with
 |cons x C=>rw[G]at y;nomatch y
 |nil=>
  obtain⟨_,_,T,_,_,_⟩:=vL M (sy l.1 G B);rw[T,vH];show sH L (sj s.es (cb s.es s.ms).1);have b:=Vo (cb s.es s.ms).1 s.es l.1;have m:eY s.es.length s.ms:=by rw[h.es];exact hm
  have A:=λwo i=>Vn (wo:=wo) m h.ms (i:=i);generalize (cb s.es s.ms).1=wo at *
  have d:(sj s.es wo).length=s.es.length:=by
   have:∀(ts:LI0) e,(ts.foldl (λes t=>put es t.toNat af) e).length=e.length:=by
    intro ts
    induction ts with
    |nil=>intro e;rfl
    |cons t ts Q=>intro e;rw[fH,Q,b7]
   exact this _ _
  intro w g i
  cases hi:w.getD i af with
  |false=>rfl
  |true=>
   exfalso
   have a:∀j,(nR (· || ·) wo w).getD j af=(wo.getD j af || w.getD j af):=λj=>by
    have N:w.length=wo.length:=by rw[g.len,d,l.1]
    grind
   have J:Grp L s.es (nR (· || ·) wo w):=by
    refine⟨by rw[length_zipWith,g.len,d,l.1,Nat.min_self],λj H=>?_,λr f I=>?_⟩
    .rw[a]at H
     rcases(kH _ _).mp H with q |q
     .grind
     .intro e;refine g.no j q ?_
      grind
    .have v:=m.ok r (h.ms.mem_iff.mpr f);rw[a]at I
     rcases(kH _ _).mp I with q |q
     .exact qS (λp E z=>lost_by (v.ps p E) (λj e=>e) (λj e=>e.imp id λu=>by rw[a,u];rfl) z) (l.2 r (h.ms.mem_iff.mpr f) q)
     .refine qS (λp E z=>lost_by (by rw[d];exact v.ps p E) (λj e=>?_) (λj e=>?_) z) (g.up r f q)
      .grind
      .rw[a]
       rcases e with e |e
       .rw[b]at e;split at e
        .rename_i u;exact .inr (by rw[u];rfl)
        .exact .inl e
       .exact .inr (by rw[e];exact pZ _)
   refine g.no i hi ?_;rw[b,if_pos (A _ i J (by rw[a,hi];exact pZ _))]
def Vq(hr:∀r∈L,RuK n r)(hz:L.length<=1000)(h:SpJ n c V3 L s)(g:Jr L s)(a:(bD L s).1=ab):Jr L (bD L s).2:=by
 obtain⟨e,f,pm,b⟩:=h.rem' (eY.of hr hz h.ms);unfold bD at a ⊢
 cases d:inL s.es (cb s.es s.ms).1 with
 |cons x C=>rw[d]at a;nomatch a
 |nil=>exact Jx hr e (sy f.1 d b) g
def Jy{n c V3:Nat}{L:LRu}(hr:∀r∈L,RuK n r)(hz:L.length<=1000):∀(k:Nat) (s:Spt),SpJ n c V3 L s->Me c s<k->Jr L s->(stF L c k s).1=ab->Jr L (stF L c k s).2/\(stF L c k s).2.wt=[]/\sH L (stF L c k s).2.es
 | 0,_,_,h,_,_=>absurd h (ik _)
 |k+1,s,h,hk,hj,he=>by
  have l:=sr hr _ s h (c6 _);have f:=Jw hr _ s h (c6 _) hj;unfold stF at he ⊢;generalize lrF L _ s=R at l f he ⊢
  by_cases b:R.1.isSome=ac
  .simp_all
  .rw[if_neg b]at he ⊢;obtain⟨g,q,u,v,i,w⟩:=vM hr hz l.ok;have j:=Vq hr hz l.ok (f (none_of b));have pg:=Vp hr hz l.ok;have p:=l.le;generalize bD L R.2=P at *
   by_cases a:(P.1.isSome || P.2.wt.isEmpty)=ac
   .grind
   .rw[if_neg a]at he ⊢;have d:=none_of λe=>a (by rw[e];rfl);have h2:P.2.wt≠[]:=λe=>a (by grind);have m:=i d (l.no (none_of b)) h2;exact Jy hr hz k P.2 g (by lia) (j d) he
abbrev Ind(bs:LLP)(tw:Wt)(j:Nat):Prop:=∀p,cn tw p (ac,j)=if p∈bs.getD j [] then 1 else 0
structure Dw(L:LRu)(bs:LLP)(tw:Wt):Prop where
 ru:∀i,i<L.length->Wch L bs tw (af,i)
 br:∀j,j<bs.length->Ind bs tw j\/∃j2,j<j2/\j2<bs.length/\∀p∈bs.getD j2 [],p∈bs.getD j []
def Vr{p q:Pr}{z:Wy}(h:z∈look tw q):z∈look (gz p y tw) q:=by
 rw[sd]
 grind
def Do{b:Bool}{q:Pr}{y z:Wy}:∀(ts:LI0) {tw:Wt},z∈look tw q->z∈look (ts.foldl (λtw t=>gz (t,b) y tw) tw) q
 | [],_,h=>h
 |t::ts,tw,h=>Do ts (Vr h)
def vW{q:Pr}{y z:Wy}:∀(ps:List Prt) {tw:Wt},z∈look tw q->z∈look (fV y ps tw) q
 | [],_,h=>h
 |p::ps,tw,h=>vW ps (Do _ h)
def Jz{y:Wy}:∀(ps:List Prt) {tw:Wt} {p:Prt} {t:Int},p∈ps->t∈nmL p->y∈look (fV y ps tw) (t,gP p)
 | [],_,_,_,h,_=>nomatch h
 |q::ps,tw,p,t,h,ht=>by
  rcases bh.mp h with e |e
  .refine vW ps ?_;rw[<- e]
   have gen:∀(ts:LI0) tw,t∈ts->y∈look (ts.foldl (λtw t=>gz (t,gP p) y tw) tw) (t,gP p):=by
    intro ts
    induction ts with
    |nil=>intro tw h;cases h
    |cons u ts a=>
     intro tw h
     rcases bh.mp h with e |e
     .refine Do ts ?_;rw[sd,if_pos (by rw[e])]
      grind
     .grind
   exact gen _ tw ht
  .exact Jz ps e ht
def JA{q:Pr}{z:Wy}:∀(L:LRu) (i:Nat) {tw:Wt},z∈look tw q->z∈look (nE i L tw) q
 | [],_,_,h=>h
 |r::L,i,tw,h=>JA L _ (vW _ h)
def JB:∀(L:LRu) (i j:Nat) (tw:Wt) (r:Rul),L[j]?=aa r->∀p∈grd r,∀t∈nmL p,(af,i+j)∈look (nE i L tw) (t,gP p)
 | [],_,_,_,_,h,_,_,_,_=>by cases h
 |r'::L,i,0,tw,r,h,p,hp,t,ht=>by
  cases h
  exact JA L _ (Jz _ hp ht)
 |r'::L,i,j+1,tw,r,h,p,hp,t,ht=>by
  have:=JB L (i+1) j (fV (af,i) (grd r') tw) r h p hp t ht;rw[show i+1+j=i+(j+1) by lia]at this;exact this
def Vs(es:LOB)(L:LRu):Dw L [] (spT es L).tw:=by
 refine⟨λi hi p a t c=>?_,λj b=>absurd b (ik _)⟩
 have e:bL L [] (af,i)=grd L[i]:=by
  show((L[i]?).map grd).getD []=_;rw[cF hi];rfl
 rw[e]at a;have:=JB L 0 i [] L[i] (cF hi) p a t c;rw[kP]at this;exact this
def JC{bs:LLP}(a:∀b∈bs,b.Nodup)(p:Pr)(i:Nat):∀(V2:List Wy) (tw:Wt),cn (V2.foldl (jq bs) tw) p (af,i)=cn tw p (af,i)
 | [],_=>rfl
 |y::V2,tw=>by
  rw[fH,JC a p i V2,pO a,if_neg (λx=>by rw[<- x.2.2]at x;cases x.1)]
def Dw.bar{bs:LLP}{b:List Pr}(h:Dw L bs tw)(k:dX c L.length bs tw)(bk:∀b∈bs,cT n b)(m:cT n b):Dw L (bs++[b]) (fV (ac,bs.length) (brg b) (lQ bs tw b)):=by
 have a:=λb q=>(bk b q).pd;refine⟨λi hi p d t u=>?_,λj r=>?_⟩
 .have:=h.ru i hi p d t u;refine vW _ (gR.mpr ?_);unfold lQ;rw[JC a];exact gR.mp this
 .rw[aR,fX]at r;unfold Ind
  by_cases e:j=bs.length
  .refine .inl λp=>?_;rw[lR,if_pos e,e]
   have l:cn _ p (ac,bs.length)=0:=Nat.eq_zero_of_not_pos λq=>by
    have:bs.length<bs.length:=eW.mp ((k.dropped a b).vl p _ (gR.mpr q));exact jz _ this
   rw[CY,l,kP,m.pd.count]
  .have f:j<bs.length:=by lia
   rw[lR,if_neg e]
   by_cases g:(ac,j)∈wider tw b
   .refine .inr ⟨bs.length,f,by rw[aR,fX];lia,λp d=>?_⟩;rw[lR,if_pos rfl]at d;exact(k.wide g).2.2.1 p d
   .rcases h.br j f with q |⟨j2,q1,q2,q3⟩
    .refine .inl λp=>?_;rw[nF λz=>e (sS z).2];unfold lQ;rw[vB a p _ _ _ g];exact q p
    .refine .inr ⟨j2,q1,by rw[aR,fX];lia,λp d=>?_⟩;rw[lR,if_neg (by lia)]at d;exact q3 p d
structure jx(L:LRu)(bs:LLP)(es:LOB):Prop where
 ru:∀r∈L,d6 (grd r) es []
 br:∀b∈bs,d6 (brg b) es []
 gr:sH L es
def d6.sub{g:List Prt}(h:d6 G es S)(i:∀p∈G,p∈g):d6 g es S:=⟨λq=>h.ns λp f=>q p (i p f),λt b a c d e=>h.np t b a c d λp f=>e p (i p f)⟩
def Ind.wch{bs:LLP}(h:Ind bs tw j):Wch L bs tw (ac,j):=λp c t a=>by
 obtain⟨z,hz,rfl⟩:=aJ.mp c
 have e:t=z.1/\gP (brP z)=z.2:=by
  obtain⟨u,b⟩:=z
  cases b with
  |true=>exact⟨bE.mp a,rfl⟩
  |false=>exact⟨bE.mp a,rfl⟩
 rw[e.1,e.2];refine gR.mpr ?_;rw[h z,if_pos hz]
 grind
def JD(hr:∀r∈L,RuK n r)(hz:L.length<=250)(J:SpJ n c V3 L s)(jr:Jr L s)(v:Dw L s.bs s.tw)(A:(stF L c (Me c s+1) s).1=ab)(h:(stF L c (Me c s+1) s).2.tw=s.tw):jx L s.bs (stF L c (Me c s+1) s).2.es/\Jr L (stF L c (Me c s+1) s).2:=by
 have g:=(Da hr (by lia) _ _ J (c6 _)).bs;obtain⟨x,j2,I⟩:=Jy hr (by lia) _ _ J (c6 _) jr A;refine⟨?_,x⟩;generalize stF L c _ s=R at *
 have w:∀y∈gys L.length s.bs.length,Wch L s.bs s.tw y->d6 (bL L s.bs y) R.2.es []:=λy G E=>by
  rcases x y y (by rw[g];exact G) (by rw[g,h];exact E)with z |z
  .rw[j2]at z;nomatch z
  .rw[if_pos rfl,g]at z;exact z
 have a:∀(m j:Nat),s.bs.length-j=m->j<s.bs.length->d6 (brg (s.bs.getD j [])) R.2.es []:=by
  intro m
  induction m using Nat.strongRecOn with
  |ind m H=>
   intro j hm d
   rcases v.br j d with z |⟨j2,z1,z2,z3⟩
   .exact w _ (eW.mpr d) z.wch
   .refine(H _ (by lia) j2 rfl z2).sub λp B=>?_;obtain⟨u,C,rfl⟩:=aJ.mp B;exact aJ.mpr ⟨u,z3 u C,rfl⟩
 refine⟨λr q=>?_,λb l=>?_,I⟩
 .obtain⟨i,hi⟩:=nP q;have f:=(cU.mp hi).1;have:=w _ (eW.mpr f) (v.ru i f)
  have e:bL L s.bs (af,i)=grd r:=by
   show((L[i]?).map grd).getD []=_;rw[hi];rfl
  rw[e]at this;exact this
 .obtain⟨j,d⟩:=nP l;have:=a _ j rfl ((cU.mp d).1);rw[bV,d]at this;exact this
def JE{bs:LLP}(d:y∈gys L.length bs.length):(∃r∈L,bL L bs y=grd r)\/∃b∈bs,bL L bs y=brg b:=by
 obtain⟨a,j⟩:=y;have c:=eW.mp d
 cases a with
 |false=>
  refine .inl ⟨L[j],iO c,?_⟩;show((L[j]?).map grd).getD []=_
  grind
 |true=>
  refine .inr ⟨bs[j],iO c,?_⟩;show brg _=_
  grind
variable{F:LOB}
def pV{t:Nat}(f:cK e F)(h:F.getD t ab=aa b):cK (put e t b) F:=by
 refine⟨by rw[b7];exact f.len,λi=>?_⟩
 by_cases q:i=t
 .by_cases a:t<e.length
  .rw[q,eU e b a];grind
  .exact .inl (by rw[q,bV,jy (by rw[b7];lia)];rfl)
 .rw[cY e b q];exact f.at' i
abbrev vX(F:LOB)(wo:LB0):LB0:=(bM wo.length).map λi=>wo.getD i af && !(F.getD i ab==aa af)
def vY(F:LOB)(wo:LB0)(i:Nat):(vX F wo).getD i af=(wo.getD i af && !(F.getD i ab==aa af)):=by
 unfold vX
 grind
def jx.grp{bs:LLP}(h:jx L bs F)(hr:∀r∈L,RuK F.length r)(f:cK e F)(gl:wo.length=e.length)(c:∀r∈fF L,wo.getD r.hd.toNat af=ac->r.bodyLost e wo=ac)(i:Nat)(hi:wo.getD i af=ac):F.getD i ab=aa af:=by
 have b:Grp L F (vX F wo):=by
  refine⟨by unfold vX;rw[ay,cZ,gl,f.len],λj l e=>?_,λr hm a=>?_⟩
  .rw[vY,e,Bool.and_comm]at l
   grind
  .rw[vY]at a;obtain⟨d,h2⟩:=(cL _ _).mp a;obtain⟨n,v⟩:=cm.mp hm;refine qS (λp m z=>lost_by (by rw[<- f.len];exact(hr r n).ok.ps p m) (λj q=>?_) (λj q=>?_) z) (c r hm d)
   .rcases f.at' j with u |u
    .grind
    .grind
   .by_cases g:F.getD j ab=aa af
    .grind
    .rcases q with q |q
     .rcases f.at' j with u |u
      .grind
      .grind
     .refine .inr ?_;rw[vY,q,beq_false_of_ne g];rfl
 have:=h.gr _ b i;rw[vY,hi,pY]at this
 grind
def jx.rt{bs:LLP}(h:jx L bs F)(m:F.length=n)(hr:∀r∈L,RuK n r)(c:∀b∈bs,cT n b)(f:cK e F)(j:w.nc=ac)(k:Rt n L bs e w):False:=by
 subst m
 cases w with
 |ch=>nomatch j
 |wd i=>nomatch j
 |gd y=>
  have ok:=nI hr c (y:=y);rw[f.len]at ok;have g:d5 (bL L bs y) F:=λp d=>Og f (ok p d) (k.2 p d)
  rcases JE k.1 with⟨r,hr,e⟩ |⟨b,c,e⟩
  .exact(h.ru r hr).ns (e▸g)
  .exact(h.br b c).ns (e▸g)
 |gp ks=>
  obtain⟨x,l,ex⟩:=k.i;obtain⟨v,z⟩:=k.nn x l;have:=h.grp hr f (by rw[pQ,f.len]) (λr hm hd=>k.up r hm ?_) x.toNat ((lS v z).mpr l)
  .rcases f.at' x.toNat with u |u
   .grind
   .grind
  .have q:=cm.mp hm;have a:=(hr r q.1).ok.hd (by grind);exact(lS a.1 a.2).mp hd
structure Wrl(n:Nat)(L:LRu)(F:LOB):Prop where
 len:F.length=n
 fu:∀i,i<n->F.getD i ab≠ab
 ru:∀r∈L,¬d5 (grd r) F
 gr:sH L F
abbrev Bef(F G:LOB):Prop:=∃t:Nat,(∀j,j<t->F.getD j ab=G.getD j ab)/\F.getD t ab=aa ac/\G.getD t ab=aa af
variable{G:LOB}
def vZ{b:List Pr}:d5 (brg b) G↔∀y∈b,G.getD y.1.toNat ab=aa y.2:=by
 have one:∀y:Pr,(brP y).sure G=ac↔G.getD y.1.toNat ab=aa y.2:=λy=>by
  obtain⟨t,v⟩:=y
  cases v <;> exact beq_iff_eq
 refine⟨λh y a=>(one y).mp (h _ (aJ.mpr ⟨y,a,rfl⟩)),λh p c=>?_⟩;obtain⟨y,a,rfl⟩:=aJ.mp c;exact(one y).mpr (h y a)
def Wrl.quiet{P:List Prt}(h:Wrl n L G)(k:¬d5 P G):d6 P G []:=⟨k,λt b t0 t1 a _=>absurd (iJ a) (h.fu _ (by rw[h.len]at t1;lia))⟩
def Wrl.cl{bs:LLP}(h:Wrl n L G)(a:∀b∈bs,¬d5 (brg b) G):jx L bs G:=⟨λr hr=>h.quiet (h.ru r hr),λb q=>h.quiet (a b q),h.gr⟩
def Dr(f:cK e G)(b:∀i,i<e.length->e.getD i ab≠ab):e=G:=by
 refine ext_getElem f.len.symm λi a h2=>?_;have q:=(f.at' i).resolve_left (b i a)
 grind
def bne{a:Bool}(h:¬a=b):a=!b:=by cases a <;> cases b <;> first |rfl |exact absurd rfl h
def JF{bs:LLP}(hr:∀r∈L,RuK n r)(a:∀b∈bs,cT n b)(h:Wrl n L G)(c:∀b∈bs,¬d5 (brg b) G):∀(dn:List Ls) (u:LOB),u.length=n->cK u G->cK u F->(∀x∈dn,∀z,x.1=aa z->x.2.nc=ac/\(0<=z.1/\z.1<(n:Int))/\F.getD z.1.toNat ab=aa z.2)->sC n L bs u dn->G=F
 | [],_,_,_,_,_,d=>d.elim
 |(ab,w)::l,u,hu,f,g,k,d=>by
  obtain⟨_,hR⟩:l=[]/\Rt n L bs u w:=d
  cases w with
  |ch=>exact hR.elim
  |wd i=>
   have e:∀i,i<u.length->u.getD i ab≠ab:=λi hi=>hR i (by lia)
   exact(Dr f e).symm.trans (Dr g e)
  |gd y=>exact((h.cl c).rt h.len hr a f rfl hR).elim
  |gp ks=>exact((h.cl c).rt h.len hr a f rfl hR).elim
 |(aa z,w)::l,u,hu,f,g,k,d=>by
  obtain⟨q,hR,d⟩:opn u z.1=ac/\Rt n L bs (put u z.1.toNat (!z.2)) w/\sC n L bs (put u z.1.toNat z.2) l:=d;obtain⟨m,A,hz⟩:=k _ aF z rfl;refine JF hr a h c l _ (by rw[b7];exact hu) (pV f ?_) (pV g hz) (λx p=>k x (bq _ p)) d
  cases j:G.getD z.1.toNat ab with
  |none=>exact absurd j (h.fu _ (by lia))
  |some v=>
   by_cases hv:v=z.2
   .rw[hv]
   .exact((h.cl c).rt h.len hr a (pV f (by rw[j,bne hv])) m hR).elim
def v8:∀{V2:LSp},G.length=n->(∀x∈V2,G.getD x.1.1.toNat ab=aa x.1.2)->cK (aW n V2) G
 | [],hl,_=>⟨by rw[hl];exact lW.symm,λi=>.inl (by show(gW n ab).getD i ab=ab;rw[bV,nO];split <;> rfl)⟩
 |x::V2,hl,h=>pV (v8 hl λy a=>h y (bq _ a)) (h x aF)
def JG{t:Nat}:∀{V2:LSp},(∀x∈V2,x.1.1.toNat≠t)->(aW n V2).getD t ab=ab
 | [],_=>by show(gW n ab).getD t ab=ab;rw[bV,nO];split <;> rfl
 |x::V2,h=>by
  rw[aW,cY _ _ λq=>h x aF q.symm];exact JG λy a=>h y (bq _ a)
def JH{x:Stp}(a:x.1.1.toNat<n):∀{V2:LSp},x∈V2->(aW n V2).getD x.1.1.toNat ab≠ab
 |y::V2,h=>by
  rw[aW]
  by_cases e:x.1.1.toNat=y.1.1.toNat
  .rw[e,eU _ _ (by rw[eZ];lia)];exact λq=>nomatch q
  .rw[cY _ _ e]
   rcases bh.mp h with q |q
   .exact absurd (by rw[q]) e
   .exact JH a q
def JI{d g:Type}{f:d->g}:∀{l:List d},(l.map f).Nodup->∀{a b:d},a∈l->b∈l->f a=f b->a=b
 |c::l,h,a,b,ha,hb,e=>by
  rw[bF,cf]at h
  rcases bh.mp ha with p |p <;> rcases bh.mp hb with q |q
  .grind
  .grind
  .grind
  .exact JI h.2 p q e
variable{bar:List Pr}
def Ds{bs:LLP}(hr:∀r∈L,RuK n r)(m:∀b∈bs,cT n b)(h:Wrl n L G)(A:∀b∈bs,¬d5 (brg b) G)(tr:Tr n L bs st)(k:jw n L bs st bar dn)(c:d5 (brg bar) G):G=aW n st:=by
 have c:=vZ.mp c
 have val:∀y∈st,(aW n st).getD y.1.1.toNat ab=aa y.1.2:=λy a=>by
  obtain⟨p,r,rfl⟩:=lZ a;exact vT tr
 have d:∀z∈bar,∃y∈st,y.1=z/\y.2.nc=af:=λz hz=>by
  obtain⟨y,a,q⟩:=pT (k.bl.subset hz);exact⟨y,e9.mp a,q⟩
 have g:∀y∈bar.map (λz=>(z,Wh.ch)),∃z∈bar,(z,Wh.ch)=y:=λy a=>aJ.mp a
 have f1:cK (aW n (bar.map λz=>(z,Wh.ch))) G:=v8 h.len λy a=>by
  obtain⟨z,hz,rfl⟩:=g y a;exact c z hz
 refine JF hr m h A dn _ (eZ n _) f1 (v8 (eZ n _) λy a=>?_) (λy a z f=>?_) (k.rl _ (eZ n _) (λz hz=>?_) λy a z f=>?_)
 .obtain⟨z,hz,rfl⟩:=g y a;obtain⟨v,hv,rfl,_⟩:=d z hz;exact val v hv
 .obtain⟨v,hv,rfl,l,e⟩:=k.dt y a z f;exact⟨l▸e,ju tr hv,val v hv⟩
 .obtain⟨v,hv,rfl,_⟩:=d z hz;have:=ju tr hv;exact((f1.at' _).resolve_left (JH (x:=(v.1,Wh.ch)) (by show v.1.1.toNat<n;lia) (aJ.mpr ⟨_,hz,rfl⟩))).symm.trans (c _ hz)
 .obtain⟨v,hv,rfl,_,e⟩:=k.dt y a z f;refine sD (JG λu B q=>?_);obtain⟨z,hz,rfl⟩:=g u B;obtain⟨w,j,rfl,i⟩:=d z hz;have C:=ju tr hv;have E:=ju tr j;have q:w.1.1.toNat=v.1.1.toNat:=q;rw[JI (nJ tr) j hv (by lia),e]at i
  nomatch i
def JJ{bs:LLP}(hr:∀r∈L,RuK n r)(m:∀b∈bs,cT n b)(h:Wrl n L G)(p:∀b∈bs,¬d5 (brg b) G):∀{st:LSp},Tr n L bs st->cK (aW n st) G\/∃t:Nat,(∀j,j<t->(aW n st).getD j ab=G.getD j ab/\(aW n st).getD j ab≠ab)/\(aW n st).getD t ab=aa ac/\G.getD t ab=aa af
 | [],_=>.inl (v8 h.len λ_ q=>nomatch q)
 |x::st,tr=>by
  have u:=tr.2.t0;have w:=tr.2.t1
  rcases JJ hr m h p tr.1 with f |⟨t,a,b,c⟩
  .cases d:G.getD x.1.1.toNat ab with
   |none=>exact absurd d (h.fu _ (by lia))
   |some v=>
    by_cases hv:v=x.1.2
    .exact .inl (pV f (by rw[d,hv]))
    .rcases tr.2.ok with⟨_,g,l⟩ |⟨g,l⟩
     .refine .inr ⟨x.1.1.toNat,λj i=>?_,?_,?_⟩
      .rw[aW,cY _ _ (by lia)];have hn:=l j (by lia);exact⟨((f.at' j).resolve_left hn).symm,hn⟩
      .rw[aW,eU _ _ (by rw[eZ];lia),g]
      .rw[d,bne hv,g];rfl
     .exact((h.cl p).rt h.len hr m (pV f (by rw[d,bne hv])) g l).elim
  .have ne:∀j,(aW n st).getD j ab≠ab->(aW n (x::st)).getD j ab=(aW n st).getD j ab:=λj q=>cY _ _ λe=>q (by rw[e];exact iJ tr.2.op);refine .inr ⟨t,λj i=>?_,?_,c⟩
   .rw[ne j (a j i).2];exact a j i
   .rw[ne t (by rw[b];exact λq=>nomatch q)];exact b
structure IW(n:Nat)(L:LRu)(s:Spt)(st:LSp)(Fs:List (LOB)):Prop where
 wr:∀F∈Fs,Wrl n L F/\∃b∈s.bs,d5 (brg b) F
 br:∀G,Wrl n L G->G∉Fs->∀b∈s.bs,¬d5 (brg b) G
 od:Fs.Pairwise Bef
 lt:∀F∈Fs,∀G,Wrl n L G->G∉Fs->Bef F G
 cp:∀A x T,st.reverse=A++x::T->x.2.nc=af->jx L s.bs (aW n A.reverse)
 dw:Dw L s.bs s.tw
 jr:Jr L s
variable{s1:Spt}{Fs:List (LOB)}
def IW.cp1(w:IW n L s st Fs)(e:Se n c0 V5 V3 L s s1 st st1)(h:st1.reverse=A++x::T)(b:x.2.nc=af):jx L s.bs (aW n A.reverse):=by
 obtain⟨xt,rfl,hn⟩:=e.xt;have no:x∉xt.reverse:=λq=>by rw[hn x (e9.mp q)]at b;nomatch b
 rw[lX]at h
 rcases append_eq_append_iff.mp h with⟨a,c,d⟩ |⟨a,c,d⟩
 .grind
 .cases a with
  |nil=>grind
  |cons y a=>
   cases d;exact w.cp _ _ _ c b
variable{Fs':List (LOB)}
def IW.bk(P:Par n c0 V5 V3 L)(h:Hd n c0 V5 V3 L s st)(w:IW n L s st Fs)(e:Se n c0 V5 V3 L s (aI L V5 s).2 st st1)(k:jw n L s.bs st1 bar dn)(p:pU st1.reverse bar A x T)(q:Clo n (aI L V5 s).2 s2 bar dn A)(sub:∀F∈Fs',F∈Fs\/(Wrl n L F/\d5 (brg bar) F))(sup:∀F∈Fs,F∈Fs')(od:Fs'.Pairwise Bef)(lt:∀F∈Fs',∀G,Wrl n L G->G∉Fs'->Bef F G)(new:∀G,Wrl n L G->G∉Fs'->¬d5 (brg bar) G):IW n L s2 A.reverse Fs':=by
 have i:=e.t.tr;have bk:=vU i k.bl;have C:s2.bs=s.bs++[bar]:=by rw[q.bs,e.bs]
 have cA:=w.cp1 e p.e p.nc;refine⟨λF hF=>?_,λG hG hn b d=>?_,od,lt,λl u f h2 g=>?_,?_,λy0 y m hw=>?_⟩
 .rw[C]
  rcases sub F hF with z |⟨z1,z2⟩
  .obtain⟨a,b,d,c⟩:=w.wr F z;exact⟨a,b,bS _ d,c⟩
  .exact⟨z1,bar,ce _ aF,z2⟩
 .rw[C]at d
  rcases bv.mp d with z |z
  .exact w.br G hG (λq=>hn (sup G q)) b z
  .rw[bE.mp z];exact new G hG hn
 .rw[iP]at h2;subst h2;have Q:=p.e;rw[cG]at Q;have N:=w.cp1 e Q g;rw[C];refine⟨N.ru,λb d=>?_,N.gr⟩
  rcases bv.mp d with z |z
  .exact N.br b z
  rw[bE.mp z]
  have er:st1=(u::f++x::T).reverse++l.reverse:=by
   rw[<- lX,<- iP (as:=st1),Q]
  rw[er]at i;have op:=(iL _ i).2.2
  have I:∀{y:Pr} {V2:LSp},y∈chs V2->(∀v∈V2,v∈u::f++x::T)->(aW n l.reverse).getD y.1.toNat ab=ab:=λ{y V2} m hs=>by
   obtain⟨v,hv,rfl,_⟩:=pT m;exact op v (e9.mpr (hs v hv))
  obtain⟨b0,z,U,_,hz,h0,hl⟩:=p.br
  have B:chs (l++u::f)=chs l++u.1::chs f:=by
   unfold chs;rw[kL,p7 (by rw[g];rfl),a8,bF]
  have Y:b0≠[]:=λq=>by have:=h0 q;rw[B]at this;simp at this
  obtain⟨b1,y,rfl⟩:∃b1 y,b0=b1++[y]:=⟨_,_,(dropLast_concat_getLast Y).symm⟩;obtain⟨A',eA⟩:=hl y (by simp)
  have m:y∈chs (u::f):=by
   have M:(chs l++u.1::chs f).getLast?=aa y:=by rw[<- B,eA];simp
   rw[getLast?_append,getLast?_cons]at M;have M:=dk M;rw[lT,g,<- M]
   cases hq:(chs f).getLast? with
   |none=>exact aF
   |some v=>exact bq _ (mem_of_getLast? hq)
  have oy:=I m λv hv=>bS _ hv;have oz:=I hz λv hv=>ce _ hv;have my:y∈bar:=by rw[U];simp
  have mz:z∈bar:=by rw[U];simp
  have ne:y.1≠z.1:=λq=>by
   have:=bk.nd;rw[U,a8,a8]at this;exact(e8.mp this).2.2 y.1 (by simp) z.1 (by simp) q
  have ry:=bk.nn y my;have rz:=bk.nn z mz;refine⟨λq=>?_,λt b t0 t1 ho q=>?_⟩
  .have:=vZ.mp q z mz;rw[oz]at this
   nomatch this
  .have one:∀v∈bar,(aW n l.reverse).getD v.1.toNat ab=ab->v.1.toNat=t.toNat:=λv hv ov=>we λE=>by
    have:=vZ.mp q v hv;rw[cY _ _ E,ov]at this
    nomatch this
   have a:=one y my oy;have b:=one z mz oz
   lia
 .rw[C,q.tw,e.bs,e.tw];exact w.dw.bar h.tw h.J.bk bk
 .rw[C]at m ⊢;obtain⟨a,j⟩:=y
  by_cases ey:(a,j)=(ac,s.bs.length)
  .exact .inl (by rw[q.wt,ey,e.bs];exact aF)
  .have H:(a,j)∈gys L.length s.bs.length/\bL L (s.bs++[bar]) (a,j)=bL L s.bs (a,j):=by
    have hm:=eW.mp m
    cases a with
    |false=>exact⟨eW.mpr hm,rfl⟩
    |true=>
     have hm:j<(s.bs++[bar]).length:=hm;rw[aR,fX]at hm;have hj:j≠s.bs.length:=λq=>ey (by rw[q]);refine⟨eW.mpr (by show j<s.bs.length;lia),?_⟩;show brg _=brg _;rw[lR,if_neg hj]
   refine .inr ?_;rw[H.2,q.es]
   have:d6 (bL L s.bs (a,j)) (aW n A.reverse) []:=by
    rcases JE H.1 with⟨r,hr,E⟩ |⟨b,d,E⟩
    .rw[E];exact cA.ru r hr
    .rw[E];exact cA.br b d
   split <;> exact this
def IW.new(P:Par n c0 V5 V3 L)(h:Hd n c0 V5 V3 L s st)(w:IW n L s st Fs)(e:Se n c0 V5 V3 L s (aI L V5 s).2 st st1)(u:(aI L V5 s).1=ab)(ha:(aI L V5 s).2.es.any (·==ab)=af):Wrl n L (aI L V5 s).2.es/\(aI L V5 s).2.es∉Fs/\∀G,Wrl n L G->G∉Fs->G≠(aI L V5 s).2.es->Bef (aI L V5 s).2.es G:=by
 have cl:jx L s.bs (aI L V5 s).2.es:=(JD P.hr P.hz h.J w.jr w.dw u e.tw).1
 have fu:∀i,i<(aI L V5 s).2.es.length->(aI L V5 s).2.es.getD i ab≠ab:=λi hi q=>by
  grind
 refine⟨⟨e.J.es,λi hi=>fu i (by rw[e.J.es];exact hi),λr hr=>(cl.ru r hr).ns,cl.gr⟩,λq=>?_,λG g hn ne=>?_⟩
 .obtain⟨_,b,l,m⟩:=w.wr _ q;exact(cl.br b l).ns m
 .have d:=e.t.tr;rw[e.bs]at d;have es:=e.t.es
  rcases JJ P.hr h.J.bk g (w.br G g hn) d with f |⟨t,a,b,c⟩
  .rw[<- es]at f;exact absurd (Dr f fu).symm ne
  .rw[<- es]at a b;exact⟨t,λj p=>(a j p).1,b,c⟩
def JK:¬Bef F F:=λc=>by obtain⟨t,_,a,b⟩:=c;rw[a]at b;nomatch b
def Vt(h:Bef F G)(k:Bef G F):False:=by
 obtain⟨t,a,b,c⟩:=h;obtain⟨u,d,f,g⟩:=k
 grind
def JL:∀{C ys:List (LOB)},C.Pairwise Bef->ys.Pairwise Bef->(∀F,F∈C↔F∈ys)->C=ys
 | [],[],_,_,_=>rfl
 | [],y::ys,_,_,h=>nomatch (h y).mpr aF
 |x::C,[],_,_,h=>nomatch (h x).mp aF
 |x::C,y::ys,h1,h2,h=>by
  obtain⟨a,c⟩:=lY.mp h1;obtain⟨b,d⟩:=lY.mp h2
  have e:x=y:=by
   rcases bh.mp ((h x).mp aF)with q |q
   .exact q
   .rcases bh.mp ((h y).mpr aF)with z |z
    .exact z.symm
    .exact(Vt (b x q) (a y z)).elim
  subst e;refine congrArg _ (JL c d λF=>⟨λq=>?_,λq=>?_⟩)
  .rcases bh.mp ((h F).mp (bq _ q))with z |z
   .exact absurd (z▸a F q) JK
   .exact z
  .rcases bh.mp ((h F).mpr (bq _ q))with z |z
   .exact absurd (z▸b F q) JK
   .exact z
def Vu(P:Par n c0 V5 V3 L):Car n c0 V5 V3 L (λs st fd=>∃Fs:List (LOB),fd=Fs.map wOf/\IW n L s st Fs) λ_ fd=>∃Fs:List (LOB),fd=Fs.map wOf/\(∀G,G∈Fs↔Wrl n L G)/\Fs.Pairwise Bef:=by
 have i:∀{s s1:Spt} {st st1:LSp},Se n c0 V5 V3 L s s1 st st1->Tr n L s.bs st1:=λe=>by have:=e.t.tr;rwa [e.bs]at this
 have wh:∀{s:Spt} {st st1:LSp} {bar:List Pr} {dn:List Ls} {d:D} {Fs:List (LOB)},Hd n c0 V5 V3 L s st->IW n L s st Fs->Se n c0 V5 V3 L s (aI L V5 s).2 st st1->(aI L V5 s).1=aa d->jw n L s.bs st1 bar dn->∀G,Wrl n L G->G∉Fs->¬d5 (brg bar) G:=λh w e g k G c hn v=>by
  have I:=w.br G c hn;have:=Ds P.hr h.J.bk c I (i e) k v;obtain⟨_,_,C⟩:=h.se P;obtain⟨wh,_,a,b⟩:=C _ g;rw[e.t.es,<- this]at b;exact(c.cl I).rt c.len P.hr h.J.bk (cK.refl _) a b
 refine⟨?_,?_,?_,?_,?_⟩
 .rintro s st st1 _ t h ⟨Fs,rfl,w⟩ e g t1 N;obtain⟨cl,jr⟩:=JD P.hr P.hz h.J w.jr w.dw g e.tw;have cl:jx L s.bs (aI L V5 s).2.es:=cl;refine⟨Fs,rfl,by show ∀F∈Fs,_/\∃b∈(aI L V5 s).2.bs,_;rw[e.bs];exact w.wr,by show ∀G,_->_->∀b∈(aI L V5 s).2.bs,_;rw[e.bs];exact w.br,w.od,w.lt,λA x T h2 Y=>?_,by show Dw L (aI L V5 s).2.bs (aI L V5 s).2.tw;rw[e.bs,e.tw];exact w.dw,Jr.of (y0:=(af,0)) (Jq.pt P.hr e.J (λy E U=>?_) (by lia) (by lia) (sD (by rw[dE];exact N)))⟩
  .show jx L (aI L V5 s).2.bs _;rw[e.bs];rw[iQ]at h2
   rcases append_eq_append_iff.mp h2 with⟨a,j,r⟩ |⟨a,j,r⟩
   .cases a with
    |nil=>
     rw[bP]at j;rw[j,iP,<- e.t.es]
     exact cl
    |cons y a=>simp at r
   .cases a with
    |nil=>
     rw[bP]at j;rw[<- j,iP,<- e.t.es]
     exact cl
    |cons y a=>
     cases r;exact w.cp1 e j Y
  .rcases jr y y E U with z |z
   .exact .inl z
   .rw[if_pos rfl]at z;exact .inr (z.more λu Q=>nomatch Q)
 .rintro s st st1 _ w0 bar dn A x T s2 h ⟨Fs,rfl,w⟩ e g _ k p q _ _;exact⟨Fs,rfl,w.bk P h e k p q (λF f=>.inl f) (λF f=>f) w.od w.lt (wh h w e g k)⟩
 .rintro s st st1 _ w0 dn s2 h ⟨Fs,rfl,w⟩ e g _ k _;exact⟨Fs,rfl,λG=>⟨λq=>(w.wr G q).1,λq=>we λhn=>wh h w e g k G q hn λp B=>nomatch B⟩,w.od⟩
 .rintro s st st1 _ bar dn A x T s2 h ⟨Fs,rfl,w⟩ e g ha k p q _ _;obtain⟨m,H,M⟩:=w.new P h e g ha;have es:=e.t.es;have lo:∀G,Wrl n L G->G∉Fs++[(aI L V5 s).2.es]->G∉Fs/\G≠(aI L V5 s).2.es:=λG _ hn=>⟨λq=>hn (bS _ q),λq=>hn (by rw[q];simp)⟩;refine⟨Fs++[(aI L V5 s).2.es],by rw[a8];rfl,w.bk P h e k p q (λF f=>?_) (λF f=>bS _ f) (sO.mpr ⟨w.od,pairwise_singleton _ _,λF f G c=>?_⟩) (λF f G c hn=>?_) λG c hn v=>?_⟩
  .rcases bv.mp f with z |z
   .exact .inl z
   .rw[bE.mp z];refine .inr ⟨m,vZ.mpr λy E=>?_⟩;obtain⟨a,b⟩:=Dk (i e) (k.bl.subset E);rw[es,b,a]
  .rw[bE.mp c];exact w.lt F f _ m H
  .obtain⟨l,h2⟩:=lo G c hn
   rcases bv.mp f with z |z
   .exact w.lt F z G c l
   .rw[bE.mp z];exact M G c l h2
  .obtain⟨l,h2⟩:=lo G c hn;exact h2 (es▸Ds P.hr h.J.bk c (w.br G c l) (i e) k v)
 .rintro s st st1 _ dn s2 h ⟨Fs,rfl,w⟩ e g ha k _;obtain⟨m,H,M⟩:=w.new P h e g ha;refine⟨Fs++[(aI L V5 s).2.es],by rw[a8];rfl,λG=>⟨λq=>?_,λq=>we λhn=>?_⟩,sO.mpr ⟨w.od,pairwise_singleton _ _,λF f G c=>?_⟩⟩
  .rcases bv.mp q with z |z
   .exact(w.wr G z).1
   .rw[bE.mp z];exact m
  .have l:G∉Fs:=λq=>hn (bS _ q);exact hn (ce _ (by rw[Ds P.hr h.J.bk q (w.br G q l) (i e) k (λp B=>nomatch B),<- e.t.es];exact aF))
  .rw[bE.mp c];exact w.lt F f _ m H
def JM(P:Par n (64*q*L.length) V5 V3 L)(i:∀r∈L,(grd r).length<=q):∃(Fs:List (LOB)) (pp:LD),(∀G,G∈Fs↔Wrl n L G)/\Fs.Pairwise Bef/\Fs.length<=3 ^ n/\pp≠[]/\∀most:Int,0<=most->m_0 [pl0 n L,.int most]=aa (if (Fs.length:Int)<=most then .tup [wsD (Fs.map wOf),.bl ac,.lst pp] else .tup [wsD ((Fs.map wOf).take most.toNat),.bl af,.lst []]):=by
 have f:∀y∈gys L.length 0,y∈(s00 n L).wt:=λy b=>by
  obtain⟨a,j⟩:=y;have e:=eW.mp b
  cases a with
  |true=>exact absurd e (ik _)
  |false=>exact aJ.mpr ⟨j,fY.mpr e,rfl⟩
 obtain⟨ws,s,⟨Fs,rfl,g,h2⟩,h,c,d⟩:=Vg P i (Vu P) ⟨[],rfl,(λ_ q=>nomatch q),(λ_ _ _ _ q=>nomatch q),List.Pairwise.nil,(λ_ q=>nomatch q),(λA x T q _=>by simp at q),Vs _ L,λy0 y b _=>.inl (f y b)⟩;rw[ay]at c d;exact⟨Fs,s.pp,g,h2,c,h,d⟩
def Vv(ws:List (LI0)):fQ 20 (wsD ws):=by
 refine fQ.le (n:=3) (λx a=>?_) (by decide);obtain⟨w,_,rfl⟩:=aJ.mp a;exact N7 w
abbrev rv(r:Rul):Rul:=⟨r.w,r.hd,r.ps.reverse⟩
def Vw(r:Rul):(rv r).toD=.tup [.str r.w.s,r.hdD,.lst (r.ps.map Prt.toD).reverse]:=by
 rw[<- l6];rfl
def Vx{b:Type}(C:List b){a:Int}(h:0<=a)(c:a<C.length):(C.drop (HT.sIx C.length 0 (aa a))).take (HT.sIx C.length C.length ab-HT.sIx C.length 0 (aa a))=C.drop a.toNat/\(C.drop (HT.sIx C.length 0 ab)).take (HT.sIx C.length C.length (aa a)-HT.sIx C.length 0 ab)=C.take a.toNat:=by
 rw[show aa a=aa (a.toNat:Int) by rw[show(a.toNat:Int)=a by lia],HT.sIx_nat,HT.sIx_none,HT.sIx_none,HT.sIx_nat,drop_zero,Nat.sub_zero,Nat.min_eq_left (by lia)];exact⟨sM (by rw[length_drop];lia),rfl⟩
def Vy(hr:∀r∈L,Ru5 n r)(T:L.length<=68)(c:Int):∃a,uR [pl0 n L,.int c]=aa (pl0 n a)/\(∀r,r∈a↔r∈L.map rv)/\a.length<=69:=by
 suffices h:∃d,uR _=aa d/\∃a,d=pl0 n a/\(∀r,r∈a↔r∈L.map rv)/\a.length<=69 by
  obtain⟨d,e,a,rfl,h⟩:=h;exact⟨a,e,h⟩
 obtain⟨v1,I,a1,_⟩:=iM c 28 (by decide) (by decide);obtain⟨v2,J,a2,_⟩:=iM c 29 (by decide) (by decide);obtain⟨v3,N,a3,_⟩:=iM c 30 (by decide) (by decide);apply lD;apply ak;refine dM rfl ?_;apply ak;refine dC L Rul.toD (λpre M=>∃j l m,M=[.im (pl0 n L),.im (.int c),.own ((pre.map rv).map Rul.toD),j,l,m,.no,.no]) (eS (bf (eS (aD rfl (Js hr (by lia))) rfl) rfl rfl) rfl) ⟨_,_,_,rfl⟩ ?_ ?_
 .rintro pre r post M ex ⟨j,l,m,rfl⟩;have Y:pre.length<L.length:=by rw[ex];simp
  refine⟨_,rfl,fS (d:=(rv r).toD) (by rw[Vw];exact cS (ao rfl (ao rfl (ao (bQ rfl) rfl)))) rfl (by rw[ay,ay];lia) ⟨.im (.str r.w.s),.im r.hdD,.im (.lst (r.ps.map Prt.toD)),?_⟩⟩;rw[a8,a8];rfl
 rintro M ⟨j,l,m,rfl⟩
 have A:∀r∈L.map rv,r.ps.length<=3:=λr q=>by
  obtain⟨H,h',rfl⟩:=aJ.mp q;show H.ps.reverse.length<=3;rw[ie];exact(hr H h').ln
 have U:(L.map rv).length<=68:=by rw[ay];exact T
 generalize L.map rv=R at *;refine ux (λM=>∃(a:LRu) (j l m v x:Sl),M=[.im (pl0 n L),.im (.int c),.own (a.map Rul.toD),j,l,m,v,x]/\(∀r,r∈a↔r∈R)/\a.length<=69) ?_ ?_
 .by_cases y:R=[]
  .subst y;exact aY (b:=af) rfl @3 λ_=>b5 (k_J ⟨[],_,_,_,_,_,rfl,λ_=>Iff.rfl,cg _⟩)
  .have hp:=length_pos_iff.mpr y;have i:(0:Int)<R.length:=by lia
   have m0:=dF v1 (sJ i);refine aY (b:=ac) ?_ (λ_=>?_) λz=>nomatch z
   .cases R with
    |nil=>exact absurd rfl y
    |cons r R=>rfl
   apply ak;refine bn (ap (aD rfl I) (aD rfl (d9 R Rul.toD)) (b8 i)) ?_;apply ak;obtain⟨E,G⟩:=Vx R m0 (fW _ i);refine lB rfl (dM (Cw (bQ (oY rfl (ptE rfl) rfl)) (bQ (oY rfl rfl (ptE rfl))) ?_) ?_)
   .simp only[E,G,ay,ay,length_drop,length_take]
    lia
   rw[E,G,<- a8];generalize (v1 % (R.length:Int)).toNat=k
   have hm:∀r,r∈R.drop k++R.take k↔r∈R:=λr=>by
    rw[bv,or_comm,<- bv,take_append_drop]
   have g:(R.drop k++R.take k).length=R.length:=by
    rw[aR,Nat.add_comm,<- aR,take_append_drop]
   generalize R.drop k++R.take k=R2 at *;apply ak;obtain⟨r,B,Q⟩:=kj (f:=Rul.toD) (C:=R2) (dF v2 (sJ i)) (by rw[g];exact fW _ i);have u:=dP B;refine bn (d:=r.toD) (bf rfl (ap (aD rfl J) (aD rfl ((d9 R2 Rul.toD).trans (by rw[g]))) (b8 i)) Q) ?_;refine fS (d:=r.toD) (cS (ao rfl (ao rfl (ao (bQ (gH r.ps Prt.toD Prt.toD rfl (by have:=A r ((hm r).mp u);lia) λp _=>gf rfl rfl (aD rfl (Jp p)))) rfl)))) rfl (by rw[ay];lia) (k_J ⟨R2++[r],_,_,_,_,_,by rw[a8];rfl,λq=>?_,by rw[aR,g];show _+1<=69;lia⟩);rw[bv,bE];exact⟨λz=>z.elim (hm q).mp λz=>by rw[z];exact(hm r).mp u,λz=>.inl ((hm q).mpr z)⟩
 .rintro M ⟨a,j,l,m,v,x,rfl,hm,g⟩;refine ux (λM=>∃(a:LRu) (j l m v x:Sl),M=[.im (pl0 n L),.im (.int c),.own (a.map Rul.toD),j,l,m,v,x]/\(∀r,r∈a↔r∈R)/\a.length<=69) ?_ ?_
  .refine aY (bA (ap (ap (aD rfl N) rfl (b8 (by decide))) rfl (km _ _))) (λ_=>?_) λ_=>b5 (k_J ⟨a,_,_,_,_,_,rfl,hm,g⟩);exact dM rfl (k_J ⟨a.reverse,_,_,_,_,_,by rw[l6];rfl,λr=>by rw[e9];exact hm r,by rw[ie];exact g⟩)
  .rintro M ⟨a,j,l,m,v,x,rfl,hm,g⟩;exact lB rfl (eT rfl (fB ⟨a,rfl,hm,g⟩))
def JN(r:Rul)(F:LOB):d5 (grd (rv r)) F↔d5 (grd r) F:=by
 obtain⟨w,hd,ps⟩:=r;have a:∀p,p∈ps.reverse↔p∈ps:=λp=>e9
 cases w with
 |may=>exact Iff.rfl
 |make=>exact⟨λh p q=>h p ((bv.mp q).elim (λz=>bS _ ((a p).mpr z)) (ce _)),λh p q=>h p ((bv.mp q).elim (λz=>bS _ ((a p).mp z)) (ce _))⟩
 |never=>exact⟨λh p q=>h p ((a p).mpr q),λh p q=>h p ((a p).mp q)⟩
def Vz{d:LRu}(h:∀r,r∈d↔r∈L.map rv)(F:LOB):Wrl n L F↔Wrl n d F:=by
 have f:∀r∈L,rv r∈d:=λr q=>(h _).mpr (aJ.mpr ⟨r,q,rfl⟩);have h2:∀r∈d,∃q∈L,rv q=r:=λr q=>aJ.mp ((h r).mp q);have i:∀(r:Rul) (es:LOB) (wo:LB0),(rv r).bodyLost es wo=r.bodyLost es wo:=λr es wo=>any_reverse;have m1:∀r∈fF L,rv r∈fF d:=λr q=>cm.mpr ⟨f r (cm.mp q).1,(cm.mp q).2⟩
 have gr:∀wo,Grp L F wo↔Grp d F wo:=λwo=>⟨λg=>⟨g.len,g.no,λr q z=>by
  obtain⟨a,b⟩:=cm.mp q;obtain⟨e,c,rfl⟩:=h2 r a;rw[i];exact g.up e (cm.mpr ⟨c,b⟩) z⟩,λg=>⟨g.len,g.no,λr q z=>by rw[<- i];exact g.up _ (m1 r q) z⟩⟩
 refine⟨λw=>⟨w.len,w.fu,λr q=>?_,λwo g=>w.gr wo ((gr wo).mpr g)⟩,λw=>⟨w.len,w.fu,λr q z=>w.ru _ (f r q) ((JN r F).mpr z),λwo g=>w.gr wo ((gr wo).mp g)⟩⟩;obtain⟨e,c,rfl⟩:=h2 r q;rw[JN];exact w.ru e c
def rv5(h:Ru5 n r):Ru5 n (rv r):=⟨⟨h.ok.hd,λp q=>h.ok.ps p (e9.mp q),by show r.ps.reverse.length<=_;rw[ie];exact h.ok.len⟩,λp q=>h.nm p (e9.mp q),by show r.ps.reverse.length<=_;rw[ie];exact h.ln⟩
def VA(ns:LI0)(h:ns.length<=63):m_6 [.kl (ns.map D.int)]=aa (.bl ac):=by
 have p:=Vh ns;obtain⟨c,u⟩:=Jo p (i:=1) (by decide);obtain⟨n,L,w,hn,hr,H⟩:=Vm p h (top:=6) (by decide) (by decide);have v:=Js hr (by lia);obtain⟨l,x,hm,j⟩:=Vy hr (by lia) c
 have d:∀r∈l,Ru5 n r:=λr q=>by
  obtain⟨C,c,rfl⟩:=aJ.mp ((hm r).mp q);exact rv5 (hr C c)
 obtain⟨Fs,pp,f1,f2,_,_,f⟩:=JM (Jt (by lia) hr (by lia)) (Ju hr);obtain⟨m,I,y,A,_,_,g⟩:=JM (Jt (by lia) d j) (Ju d);have e:m=Fs:=JL A f2 λF=>by rw[y,f1];exact(Vz hm F).symm
 subst e;obtain⟨v1,m1,E,_⟩:=iM c 27 (by decide) (by decide);obtain⟨J,m2,G,_⟩:=iM c 26 (by decide) (by decide);apply jM;apply ak;refine bn (aD rfl w) ?_;apply ak;refine bn (aD rfl u) ?_;apply ak;refine bn (ap (aD rfl m1) rfl (b8 (by decide))) ?_;refine ux (λM=>∃k:Int,0<=k/\M=[.im (.kl (ns.map D.int)),.im (pl0 n L),.im (.int c),.im (.int k),.no,.no]) ?_ ?_
 .have B:=dF v1 (show(41:Int)≠0 by decide);refine aY (bA (ap (ap (aD rfl m2) rfl (b8 (by decide))) rfl (km _ _))) (λ_=>?_) λ_=>b5 (k_J ⟨_,B,rfl⟩);exact bn (ap rfl rfl (b8 (by decide))) (k_J ⟨_,dF _ (by decide),rfl⟩)
 rintro M ⟨k,b,rfl⟩;have f:=f k b;have g:=g k b;apply ak;refine bn (aD (ao (aD rfl v) (ao rfl rfl)) f) ?_;apply ak;refine bn (aD (ao (aD rfl x) (ao rfl rfl)) g) ?_;have ps:=λws=>N1 (Vv ws)
 by_cases a:m.length<=k
 .rw[if_pos a,if_pos a];apply ak;refine aY (mR rfl (mR rfl (mR rfl rfl))) @3 λ_=>b5 ?_;exact eT (jJ (ap rfl rfl (ps _)) (jJ rfl (jJ rfl (ap (aD rfl ((d9 _ wD).trans (by rw[ay]))) rfl (yO.trans (by grind)))))) (fB rfl)
 .rw[if_neg a,if_neg a];apply ak;refine aY (mR rfl (mR rfl (mR rfl rfl))) @3 λ_=>b5 ?_;exact eT (jJ (ap rfl rfl (ps _)) (jJ rfl (jJ rfl (ap (aD rfl (d9 _ wD)) rfl (yO.trans (by grind)))))) (fB rfl)
abbrev sp_law(K:aQ):Sp:=λvs H Q _=>∃(a:Addr) (ns:LI0),vs=[.ref a]/\SqL K H a (ns.map V.int)/\ns.length<=63/\∀H',Q (.bl ac) H'
variable{K:aQ}
def sp_law_of{H:Hp}{a:Addr}{V4:XK}(c:ns.length<=63)(b:SqL K H a (ns.map V.int)):sp_law K [.ref a] H (λv _=>v=.bl ac) V4:=⟨a,ns,rfl,b,c,λ_=>rfl⟩
variable{w:World}
def law_ok{a:Wa}(W:Wd K mg a):cr P w K mg base CX0 11 a.e_6.1 a.e_6.2 ["_law_script"] (sp_law K):=(S8 W).ok.imp λvs H Q V4 ⟨a,ns,b,c,d,k⟩=>
 ⟨H,[.kl (ns.map D.int)],.bl ac,aq.refl _,⟨.ref a,[],b,⟨a,_,rfl,c,am.ints ns⟩,rfl⟩,rfl,VA ns d,λv Hf' H' x r=>by rw[show v=V.bl ac from r];exact k H'⟩
variable{P:LVa->Prop}
def wa(h:P []):∀us:LVa,us.length=0->P us:=λus e=>by
 rw[eq_nil_of_length_eq_zero e];exact h
def jS(h:∀a (us:LVa),us.length=n->P (a::us)):∀us:LVa,us.length=n+1->P us:=λus e=>by
 cases us with
 |nil=>cases e
 |cons a us=>exact h a us (Nat.succ.inj e)
def Dt(h:∀a:Value,P [a]):∀us:LVa,us.length=1->P us:=jS (P:=λus=>P (us)) λa=>wa (h a)
def JO(h:∀a b:Value,P [a,b]):∀us:LVa,us.length=2->P us:=jS (P:=λus=>P (us)) λa=>jS (P:=λus=>P (a::us)) λb=>wa (h a b)
def VB(h:∀a b c:Value,P [a,b,c]):∀us:LVa,us.length=3->P us:=jS (P:=λus=>P (us)) λa=>jS (P:=λus=>P (a::us)) λb=>jS (P:=λus=>P (a::b::us)) λc=>wa (h a b c)
def VC(h:∀a b c d:Value,P [a,b,c,d]):∀us:LVa,us.length=4->P us:=jS (P:=λus=>P (us)) λa=>jS (P:=λus=>P (a::us)) λb=>jS (P:=λus=>P (a::b::us)) λc=>jS (P:=λus=>P (a::b::c::us)) λd=>wa (h a b c d)
local macro_rules | `(tactic| walk_at "bd")=>`(tactic| exact λ_ _ _ _ _ _=>by first | exact Dt λ_=>rfl | exact JO λ_ _=>rfl | exact VB λ_ _ _=>rfl | exact VC λ_ _ _ _=>rfl)
set_option autoImplicit true in
def all_mk{ad ae af ag ai aj ak al am an ao ap aq ar as av aw ax:Addr}{h:Heap}{bR aE aF aG aH aI aJ aK aL aM aN bS bT aO aP aQ bU aR aS aT bV aU aV aW aX aY aZ a0 a1 bW a2 a3 a4 a5 a6 a7 a8 a9 ba bb bc bd be bf bg bh bi bj bk bl bm bn bo bp bq br bs bu bv bw bx bz bA bX bB bC bD bY bZ j m d w l q f b c p g n bE:cO}{U:Nat}{eL:Tok}{eF:Nat}{fa:Addr}(X:K.In h)(G:h.Ns cz mg)(hfa:mg "law"=aa (.ref fa))
 (b0:dY K cz "In"=aa (aa (.ref ad)))
 (bF:dY K cz "Out"=aa (aa (.ref ae)))
 (ff:dY K cz "Least"=aa (aa (.ref af)))
 (ay:dY K cz "Most"=aa (aa (.ref ag)))
 (M:dY K cz "Spreading"=aa (aa (.ref ai)))
 (Y:dY K cz "Seeking"=aa (aa (.ref aj)))
 (c5:Dq K "marks" s_1 f_1 bR)
 (b7:Dq K "numbers" zf f_18 aE)
 (b8:Dq K "part_of" zg f_33 aF)
 (b9:Dq K "things_of" zh f_34 aG)
 (ca:Dq K "worth_in" zi f_19 aH)
 (cb:Dq K "worth_not_out" zj f_13 aI)
 (cc:Dq K "worth_of" zk f_35 aJ)
 (cd:Dq K "outside" zl f_36 aK)
 (ce:Dq K "heavy" zm f_20 aL)
 (cf:Dq K "weights_of" zn f_14 aM)
 (cg:Dq K "with_entry" zo f_15 aN)
 (c6:Dq K "enough" s_7 f_7 bS)
 (c7:Dq K "body_of" s_2 f_2 bT)
 (ch:Dq K "guard_of" zp f_21 aO)
 (ci:Dq K "guard_of_bar" zq f_48 aP)
 (ck:Dq K "pressed_by" zt f_70 aQ)
 (c8:Dq K "lost_part" s_5 f_5 bU)
 (cm:Dq K "own_why" zu f_22 aR)
 (cn:Dq K "needed_first" zw f_37 aS)
 (co:Dq K "_law_cell_at" zx f_38 aT)
 (c9:Dq K "_law_mixed" s_3 f_3 bV)
 (cp:Dq K "_law_items" zy f_39 aU)
 (cq:Dq K "_law_part" zA f_23 aV)
 (cr:Dq K "_law_rule" zB f_24 aW)
 (cs:Dq K "_law_base" zC f_25 aX)
 (ct:Dq K "_law_plain" zD f_26 aY)
 (cu:Dq K "_law_part_again" zE f_40 aZ)
 (cv:Dq K "_law_again" zF f_27 a0)
 (cw:Dq K "_law_turned" zG f_16 a1)
 (cx:Dq K "law" s_6 f_6 bW)
 (bG:Dp K ad "__init__" "In.__init__" zH f_66 a2)
 (cy:Dp K ad "named" "In.named" zJ f_41 a3)
 (cA:Dp K ad "wants" "In.wants" zK f_49 a4)
 (cB:Dp K ad "sure" "In.sure" zM f_50 a5)
 (cC:Dp K ad "sure_by" "In.sure_by" zN f_51 a6)
 (cD:Dp K ad "tips" "In.tips" zO f_52 a7)
 (cE:Dp K ad "lost" "In.lost" zP f_28 a8)
 (cF:Dp K ad "lost_by" "In.lost_by" zQ f_53 a9)
 (bH:Dp K ae "__init__" "Out.__init__" zR f_67 ba)
 (cG:Dp K ae "named" "Out.named" zS f_42 bb)
 (cH:Dp K ae "wants" "Out.wants" zT f_54 bc)
 (cI:Dp K ae "sure" "Out.sure" zU f_55 bd)
 (cJ:Dp K ae "sure_by" "Out.sure_by" zV f_56 be)
 (cK:Dp K ae "tips" "Out.tips" zW f_57 bf)
 (cL:Dp K ae "lost" "Out.lost" zX f_29 bg)
 (cM:Dp K ae "lost_by" "Out.lost_by" zY f_58 bh)
 (bI:Dp K af "__init__" "Least.__init__" zZ f_68 bi)
 (cN:Dp K af "named" "Least.named" z4 f_43 bj)
 (cP:Dp K af "wants" "Least.wants" z5 f_59 bk)
 (cQ:Dp K af "sure" "Least.sure" z6 f_60 bl)
 (cR:Dp K af "sure_by" "Least.sure_by" z7 f_61 bm)
 (cS:Dp K af "tips" "Least.tips" z8 f_44 bn)
 (cT:Dp K af "lost" "Least.lost" z9 f_30 bo)
 (cU:Dp K af "lost_by" "Least.lost_by" Aa f_45 bp)
 (bJ:Dp K ag "__init__" "Most.__init__" Ab f_69 bq)
 (cV:Dp K ag "named" "Most.named" Ac f_46 br)
 (cW:Dp K ag "wants" "Most.wants" Ad f_62 bs)
 (cX:Dp K ag "sure" "Most.sure" Ae f_63 bu)
 (cY:Dp K ag "sure_by" "Most.sure_by" Ag f_64 bv)
 (cZ:Dp K ag "tips" "Most.tips" Ah f_47 bw)
 (c0:Dp K ag "lost" "Most.lost" Ai f_31 bx)
 (c1:Dp K ag "lost_by" "Most.lost_by" Aj f_65 bz)
 (bK:Dp K aj "__init__" "Seeking.__init__" Ak f_11 bA)
 (da:Dp K aj "another" "Seeking.another" s_8 f_8 bX)
 (c2:Dp K aj "close" "Seeking.close" Al f_12 bB)
 (c3:Dp K aj "place_for" "Seeking.place_for" Am f_32 bC)
 (c4:Dp K aj "line_to" "Seeking.line_to" An f_17 bD)
 (db:Dp K aj "grounds" "Seeking.grounds" s_4 f_4 bY)
 (dc:Dp K aj "grounds_of_group" "Seeking.grounds_of_group" s_9 f_9 bZ)
 (A:Dp K aj "take_guard" "Spreading.take_guard" Ao ak j)
 (C:Dp K aj "take_bar" "Spreading.take_bar" Ap al m)
 (x:Dp K aj "drop_wider" "Spreading.drop_wider" Aq am d)
 (L:Dp K aj "put" "Spreading.put" Ar an w)
 (B:Dp K aj "take_back" "Spreading.take_back" As ao l)
 (I:Dp K aj "settle" "Spreading.settle" At ap q)
 (y:Dp K aj "look_round" "Spreading.look_round" Au aq f)
 (r:Dp K aj "put_loose_out" "Spreading.put_loose_out" Av ar b)
 (u:Dp K aj "loose_marks" "Spreading.loose_marks" Aw as c)
 (H:Dp K aj "kernel" "Spreading.kernel" Ax av p)
 (z:Dp K aj "lost_parts" "Spreading.lost_parts" Ay aw g)
 (E:Dp K aj "keeping" "Spreading.keeping" Az ax n)
 (dd:dY K cz "worlds"=aa (aa (.ref f_0)))
 (de:K.lookup f_0=aa ⟨oc_0,od_0,.func (iY "worlds" "worlds" (ka s_0) (fN s_0) (au s_0) (.ref U) kV_0 dc_0 pm_0 an_0 cd_0 ct_0),sl_0⟩)
 (J:K.lookup U=aa ⟨oT_worlds,dT_worlds,.seq #[.int 1 eL] eF,sT_worlds⟩)
 (df:W.codeIn K cd_0 "worlds"=ac)
 (dg:ga K (.ref f_0)=ac)
 (T:W.specialIn K (.ref ai) "__getattribute__"=aa (aa (.builtin "type.__getattribute__")))
 (Q:W.readsIn K ai (.type "type")=ac)
 (N:W.findCls K (.ref ai) (.type "type") "__init__"=aa (.val (.ref f_10)))
 (b1:j7 K ad oq=ac)
 (b2:k7 K ad=ac)
 (b3:mo K ad=ac)
 (b4:cj K (.ref ad) "__setattr__"=aa (aa (.builtin "object.__setattr__")))
 (p6:mq K ad=ac)
 (b5:ga K (.ref ad)=ac)
 (nq:cj K (.ref ad) "thing"=aa ab)
 (bL:j7 K ae oq=ac)
 (bM:k7 K ae=ac)
 (bN:mo K ae=ac)
 (bO:cj K (.ref ae) "__setattr__"=aa (aa (.builtin "object.__setattr__")))
 (pz:mq K ae=ac)
 (bQ:ga K (.ref ae)=ac)
 (mu:cj K (.ref ae) "thing"=aa ab)
 (ge:j7 K af oq=ac)
 (fx:k7 K af=ac)
 (gu:mo K af=ac)
 (gv:cj K (.ref af) "__setattr__"=aa (aa (.builtin "object.__setattr__")))
 (oo:mq K af=ac)
 (fy:ga K (.ref af)=ac)
 (lj:cj K (.ref af) "bound"=aa ab)
 (lb:cj K (.ref af) "pieces"=aa ab)
 (az:j7 K ag oq=ac)
 (aA:k7 K ag=ac)
 (aB:mo K ag=ac)
 (aC:cj K (.ref ag) "__setattr__"=aa (aa (.builtin "object.__setattr__")))
 (pq:mq K ag=ac)
 (aD:ga K (.ref ag)=ac)
 (md:cj K (.ref ag) "bound"=aa ab)
 (lk:cj K (.ref ag) "pieces"=aa ab)
 (d0:j7 K aj oq=ac)
 (dm:k7 K aj=ac)
 (d2:mo K aj=ac)
 (eg:cj K (.ref aj) "__setattr__"=aa (aa (.builtin "object.__setattr__")))
 (n0:mq K aj=ac)
 (dy:ga K (.ref aj)=ac)
 (ii:cj K (.ref aj) "sheet"=aa ab)
 (ll:cj K (.ref aj) "steps"=aa ab)
 (ld:cj K (.ref aj) "bars"=aa ab)
 (kv:cj K (.ref aj) "guards"=aa ab)
 (g3:cj K (.ref aj) "watches"=aa ab)
 (kr:cj K (.ref aj) "waiting"=aa ab)
 (ky:cj K (.ref aj) "makers"=aa ab)
 (lp:cj K (.ref aj) "paper"=aa ab)
 (kQ:cj K (.ref aj) "count"=aa ab)
 (l0:cj K (.ref aj) "ended"=aa ab)
 (qq:dY K cz "any"=aa ab)
 (p5:dY K cz "bool"=aa ab)
 (ny:dY K cz "enumerate"=aa ab)
 (nk:dY K cz "isinstance"=aa ab)
 (qs:dY K cz "len"=aa ab)
 (n5:dY K cz "list"=aa ab)
 (o6:dY K cz "range"=aa ab)
 (nS:dY K cz "reversed"=aa ab)
 (q4:dY K cz "set"=aa ab)
 (og:dY K cz "sorted"=aa ab)
 (p4:dY K cz "sum"=aa ab)
 (pu:dY K cz "tuple"=aa ab)
 (b6:Fun K "__init__" "Spreading.__init__" AA f_10 bE)
 (pw:qH K "bool")
 (pb:qH K "tuple")
  : ∃a:Wa,∃W:Wd K mg a,a.e_6.1=fa/\∀(s:ah) (v:Value),BindsTo s a.e_6.2 ⟨[v],[]⟩ [("_law_script",v)]:=by
 have e:=hfa.symm.trans (j8 X G cx.a);cases e;have hc:∃cl:Str->Addr,ad=cl "In" /\ ae=cl "Out" /\ af=cl "Least" /\ ag=cl "Most" /\ aj=cl "Seeking":=⟨λs=>if s="In" then ad else if s="Out" then ae else if s="Least" then af else if s="Most" then ag else if s="Seeking" then aj else 0,rfl,rfl,rfl,rfl,rfl⟩;obtain⟨cl,rfl,rfl,rfl,rfl,rfl⟩:=hc
 exact⟨⟨(f_1,bR),(f_18,aE),(f_33,aF),(f_34,aG),(f_19,aH),(f_13,aI),(f_35,aJ),(f_36,aK),(f_20,aL),(f_14,aM),(f_15,aN),(f_7,bS),(f_2,bT),(f_21,aO),(f_48,aP),(f_70,aQ),(f_5,bU),(f_0,_),(f_22,aR),(f_37,aS),(f_38,aT),(f_3,bV),(f_39,aU),(f_23,aV),(f_24,aW),(f_25,aX),(f_26,aY),(f_40,aZ),(f_27,a0),(f_16,a1),(f_6,bW),(f_66,a2),(f_41,a3),(f_49,a4),(f_50,a5),(f_51,a6),(f_52,a7),(f_28,a8),(f_53,a9),(f_67,ba),(f_42,bb),(f_54,bc),(f_55,bd),(f_56,be),(f_57,bf),(f_29,bg),(f_58,bh),(f_68,bi),(f_43,bj),(f_59,bk),(f_60,bl),(f_61,bm),(f_44,bn),(f_30,bo),(f_45,bp),(f_69,bq),(f_46,br),(f_62,bs),(f_63,bu),(f_64,bv),(f_47,bw),(f_31,bx),(f_65,bz),(f_11,bA),(f_8,bX),(f_12,bB),(f_32,bC),(f_17,bD),(f_4,bY),(f_9,bZ),(ak,j),(al,m),(am,d),(an,w),(ao,l),(ap,q),(aq,f),(ar,b),(as,c),(av,p),(aw,g),(ax,n),(f_10,bE),cl,ai⟩,⟨c5.mk2 X G,b7.mk2 X G,b8.mk2 X G,b9.mk2 X G,ca.mk2 X G,cb.mk2 X G,cc.mk2 X G,cd.mk2 X G,ce.mk2 X G,cf.mk2 X G,cg.mk2 X G,c6.mk2 X G,c7.mk2 X G,ch.mk2 X G,ci.mk2 X G,ck.mk2 X G,c8.mk2 X G,⟨QV (st:=s_0) de df dg,(G4 J rfl rfl λus hl=>by
   rw[bP]at hl ⊢
   revert us hl
   exact JO λ_ _=>⟨_,rfl,rfl⟩),j8 X G dd⟩,cm.mk2 X G,cn.mk2 X G,co.mk2 X G,c9.mk2 X G,cp.mk2 X G,cq.mk2 X G,cr.mk2 X G,cs.mk2 X G,ct.mk2 X G,cu.mk2 X G,cv.mk2 X G,cw.mk2 X G,cx.mk2 X G,bG.mk2,cy.mk2,cA.mk2,cB.mk2,cC.mk2,cD.mk2,cE.mk2,cF.mk2,bH.mk2,cG.mk2,cH.mk2,cI.mk2,cJ.mk2,cK.mk2,cL.mk2,cM.mk2,bI.mk2,cN.mk2,cP.mk2,cQ.mk2,cR.mk2,cS.mk2,cT.mk2,cU.mk2,bJ.mk2,cV.mk2,cW.mk2,cX.mk2,cY.mk2,cZ.mk2,c0.mk2,c1.mk2,bK.mk2,da.mk2,c2.mk2,c3.mk2,c4.mk2,db.mk2,dc.mk2,A.mk2,C.mk2,x.mk2,L.mk2,B.mk2,I.mk2,y.mk2,r.mk2,u.mk2,H.mk2,z.mk2,E.mk2,Db.mk2 b6,⟨_,.cons ⟨_,rfl⟩ .nil,G4 J rfl rfl λus hq=>by
   have hl:us.length=1:=by simpa using hq
   clear hq
   revert us hl
   exact Dt λ_=>⟨_,rfl,rfl⟩⟩,j8 X G b0,⟨b1,b2,b3,b4⟩,⟨p6,bG.a,bG.i,b5⟩,nq,j8 X G bF,⟨bL,bM,bN,bO⟩,⟨pz,bH.a,bH.i,bQ⟩,mu,j8 X G ff,⟨ge,fx,gu,gv⟩,⟨oo,bI.a,bI.i,fy⟩,lj,lb,j8 X G ay,⟨az,aA,aB,aC⟩,⟨pq,bJ.a,bJ.i,aD⟩,md,lk,j8 X G M,⟨T,Q,N,b6.kp⟩,j8 X G Y,⟨d0,dm,d2,eg⟩,⟨n0,bK.a,bK.i,dy⟩,ii,ll,ld,kv,g3,kr,ky,lp,kQ,l0,ip X G qq,ip X G p5,ip X G ny,ip X G nk,ip X G qs,ip X G n5,ip X G o6,ip X G nS,ip X G q4,ip X G og,ip X G p4,ip X G pu,pw,pb⟩,rfl,cx.bt (λ_ _ _ _ _ _=>Dt λ_=>rfl)⟩
end N_k56
structure PySem.W.Fast:Prop where
 (tw16892494087929177153 tw5281581301501492933 tw12636123866151659126 tw17560601459224826242 tw3020259095318556174 tw13300686986116384343 tw4099979368395569192 tw7454273504625554308 tw17603467188555076454 tw16997587676740773693 tw7079866798665069853 tw14643150073573685734 te3437373110959094379 te1022459933459997169 te14559099357885128778 te10487026779718634790 te15341903158608583935 te10572595509089517 te8587852197032048990 te1711971142779408487 te12333077582604867691 te4947003741068576128 te1431502468862067940 te8330821573075373746 te8033560356751484680 te939470556183679090 te7194805485258614513 te17222670943737833425 te610332152703286331 te13312178843461796246 te15393084058323425578 te8219786256743477342 te14143552663077299439 te768273655075949707 te16107314704988905836 te14817676981765376878 te110159075161787019 te7829602580858363984 te2473691335914239014 te15184855314365959326 te5228808049571700317 te753562576306336636 te9738932636719355995 te13533312182017097685 te3123435916328057257 te3115109844799828207 te9118562905421047897 te1284896678650538729 te10707493682157696501 te14078259005343430071 te12419472158738626737 te15987046338722024856 te6353828624814541560 te11036198587637966684 te10019575993981843806 te2919485511842772132 te1888842172163326715 te2725088585729780187 te17146034092702570996 te1432405756015018374 te3020634613330190152 te9325718123629513591 te12937376276561028847 te470823939705182767 te8014287445081496746 te15225437200543522314 te11834458647691854755 te11333601047065139212 te1773204878871082494 te8707706337777167111 te10017814554789200004 te9150079122071279743 te18310186245856084853 te9749924367148853913 te17352393870021795799 te8497104934871018388 te15068071188850860287 te13958163037372985222 te908855256056350215 te8072309279476414794 te9917861062853273035 te15426900267758655194 te6153143477133816723 te8388877944272115037 te11248468356973797514 te17809256318995447874 te805619836724127657 te3497743645700975280 te16497656838681578659 te13927220913835204363 te6506458487883437237 te8405227732918154901 te17138308770143621877 te1621015842369856826 te5713046953349257427 te2054719829087002256 te5845879135003308685 te17516508666573096160 te7310572350669748683 te14495333038275397945 te17326220545864771184 te1370715037364388039 te4364555598262578118 te1038216062716216209 te9603575184256835000 te14490470927382234205 te14660666619850387880 te8697105437699047356 te17993509418671943413 te11291589657177262306 te1012541536979925829 te12042702740395113606 te2281975553319024318 te18068267929960406855 te17176256406727574201 te18371946502833208991 te12067490410999896596 te7214557372468706006 te17161115081359624770 te793519931356336094 te7493770566036817878 te2091067855560739411 te17084998082173559005 te14984399747773834952 te14119542846958191318 te1896827116886454070 te1655395635551795825 te8894723594793865975 te4501559075776923416 te9234306597061900467 te16421432537103129580 te1678600954300133486 te17646766511954083414 te6357363101551962969 te13073260050598028619 te11021257746175904759 te5087155857598519278 te13096342511856740632 te13652040915585367868 te899113331163680388 te2067769144978467268 te11235699103165193158 te1740026277618592951 te11198085058488012391 te8139736570791521957 te17236329027531038383 te17441758192488328889 te10346948046358862229 te5970921263974832497 te8549924172250126408 te6262369467395175122 te323046297442510146 te1657522928543537494 te14437338302773090905 te16411260584995533076 te4174191988283443577 te2805253933877679542 te13985906918842591567 te6903193546732633103 te4412862665177874634 te32105984567258325 te16001147207444259962 te8641801957391850144 te18145162076342157182 te14249156743210285383 te17423347778260889846 te5666690547066702232 te3180822040245747027 te18085978797073811325 te9519773678691293770 te13781250473441659027 te7730324815593482364 te1606944776381047301 te8303964460234556167 te252293547130311992 te5721675551821096481 te14707251147252301632 te12658721901294799819 te9598991832910208974 te7547166614411431327 te558987964860089544 te18345929863970552243 te3721182777553444599 te1254722142409966863 te1422643840766999566 te5348526750047067110 te6438964029162105702 te351535590911249446 te7962907475467477317 te18042687735527770930 te17888437207662491586 te10502522798347947413 te9443771151490538491 te10397241067969185787 te6120106944760182188 te10121107880772444296 te5320678022229198833 te9756609496040684841 te1558703666946935784 te18319891357711911670 te14834074899762624071 te9851523126037477460 te10159841072006911966 te12036312639427016242 te12839914175059540615 te1285824205997379730 te8957243967314657591 te11407044775129794945 te9929362856707215908 te5069537246703076595 te4955409173854512112 te13137500582601331183 te1537261044524555447 te13246374093835163387 te14549417200154652319 te1023707964719843023 te4236324795579077898 te8305521912115410784 te4007277307912827185 te12812457286557597351 te11633822927020858431 te10696822075143183318 te11206629925174009343 te13790476312162403339 te17647781779300837636 te16296176528033110158 te5057197462733935109 te9223106242430431804 te15329952454035402207 te17362356039694118746 te624379052404470201 te1698690015242310430 te3066645269171349113 te16612242753212782266 te802271117790434531 te17147381613289908046 te2893442287251196957 te17746275682027771189 te15440980321948112803 te2237346005804382430 te5197765755279410865 te18013607076021143703 te1396908402138119860 te3365299323224803698 te4879699531659256297 te13126133853888607222 te15709699819508099760 te13397833323246495140 te5811880601594761097 te5316408721789681443 te10048176172553839025 te5452479528648036926 te2648075751941660044 te10864340890012073541 te10572190740509646435 te10069455642744549815 te4097578244396684619 te1851392211845599930 te4563386254100337261 te3808424547425048599 te10799978044220787355 te9358710953573670868 te4313488564598329413 te830112377167710883 te675164430311531990 te4826611182193394879 te320131577894085087 te11297531307372918004 te18385083385046619692 te16617158989304015431 te9166042863713265382 te3631196840424179209 te1550085256087596475 te12474573061025341367 te13836188897694286521 te8249180400707878092 te4336168190259037880 te15831906448102550430 te14816970543672998427 te1689867035752219219 te16425916339851392465 te11011781816425912623 te9798019323761186992 te4279489277108754819 te2335574788614099405 te7767843879188777038 te11208376235875836841 te17672034606132617623 te14421953754683663928 te18350821903991265059 te12989985760983135245 te11158422816228372574 te7729275060383634006 te5800342104294635254 te3049451378505744750 te15468579921610458376 te4007409334298444787 te18406857748332582230 te12665097163755981577 te5646044405217545888 te6163185259201623819 te4825150961414481899 te3819533047284400720 te12426706264235096041 te523968423609388190 te3735466844262869754 te18035358858580838464 te2599135980945659963 te15430083861218085250 te1675255844983194146 te4624031598475968747 te11860589296067604537 te17760810821739189516 te16728296244435717964 te10101558808568375898 te8486340970967018281 te15085622719081702629 te13565884511882973353 te3235747691939769178 te15902126613253547785 te14374079133516673544 te4757382428496041446 te6901103233652348646 te9900105684834390132 te4695656728268470118 te3495722480320342928 te9269494822624312169 te4144177584394618511 te15071349917739907453 te11238764030922778502 te8910541162803139486 te7055154221815488730 te18273575494236858566 te12988446757704625140 te3861048740892881359 te1123736514952930956 te13737771640393489044 te8819686199379442091 te7300735241538485774 te4355294196183396548 te13072376459184162743 te15427893045063164178 te16277859351396551315 te6817004890713628738 te5513021382979033313 te3529337040567890986 te772472761462566122 te3262402181484380589 te3796014551554458628 te1989260032503914787 te16157927162955115357 te2575002597656799321 te12376442185072270208 te2478099386790401844 te10871236881442359023 te9022679715053282472 te16456383782063397777 te10799403910054555907 te885636286140751898 te17353897806454082365 te14169147028451638147 te936460445547318210 te13034328460478427825 te8258469404906766206 te6214236101596674545 te5570631469509080800 te2899435232142618317 te4180105740434449148 te17993828566684999258 te14673584624362402550 te13124197442738986121 te11346092879154159437 te5018527908683598369 te4725945229944134131 te4627754462422459857 te2288062884438621549 te12726241110802715126 te10821813410219759261 te16790594895673811928 te9587015284417389432 te8756735672632586905 te995114516127741419 te18123078440000982768 te2427219290269244272 te5764443781428283099 te1971086778566065337 te280194263374995630 te11697938514914078434 te5635296104716961278 te1664259914986952111 te1334326664128125878 te13002688674626539784 te12934773723638985970 te12168557545073125787 te7353626725039053947 te9673126486419049740 te6377846794928592584 te16355755608871616884 te15744483846221018023 te13697392682517408045 te12677415769751412768 te11696362493826386428 te10919741405336476024 te17595916273790634206 te3145296199132984445 te3040085114991703785 te14887628063284879800 te9566860577847793659 te8264379670937905954 te7092202349726192306 te5415131725111097348 te2613819463537520844 te17482157008247997057 te16830171115342926221 te1632329397127654440 te15975157930087515467 te11108293775663263600 te10970598952848151813 te10220114577198713270 te8569163249829082199 te10530941947554240151 te8044094571957454449 te3138030826035213911 te18411460738370018485 te17312130634306046168 te12948853351664037288 te12063723153595925483 te1067574405643011253 te11552837105465646482 te9428449566968199945 te15486412764329514038 te15041725922257354921 te1278471961927541554 te12119116380606758443 te7380317304812452886 te651577116607297951 te6026364332590900033 te5473164515500541623 te3232569178581178543 te2962162826976189269 te11071129077755764049 te9921189898497025085 te9880834417363817044 te9761656851581137209 te9513288412572832549 te9374979512513584150 te9325859530612975711 te9152198217411369209 te8968445650224309420 te8951576960142746291 te8826226689072002594 te8676764017300689322 te8482080794625470485 te839851417607894019 te8281236954248300688 te8056536587242656183 te7954203838309784408 te7891491135749272987 te747609895374254519 te7369666231417885518 te7329184624060131676 te7212837883212337127 te7003381467355167087 te6892447212969102759 te6771842351226627765 te6619103242510891207 te6499808000262379111:True)
open PySem PySem.W PyProof.Rows
set_option maxRecDepth 100000 in
set_option maxHeartbeats 0 in
theorem PySem.Challenge.cw_standstill_k56_turned_about_holds : PySem.Challenge.rw_standstill_k56_turned_about.Holds := by
 w_on; o_law; k_head; (case hw=>w_witness2)
 k_fill
 refine L2.walk_ofK (l:=PySem.Challenge.rw_standstill_k56_turned_about) (n:=63) (k:=11) (x:="_law_script") (CX:=L2.CX0) (sp:=N_k56.sp_law) rfl (by decide) rfl ⟨rfl,by decide,by decide⟩ (fun w h Y=>PySem.W.kIn_of Y) ?F (fun _ _ a ns hl _ hS=>N_k56.sp_law_of hl hS) (fun _ _ _ _ z=>z)
 case F =>
  intro w mg fa h KX G hmg
  have TT : ∃ a : N_k56.Wa,∃ W : N_k56.Wd (L2.KOf KX) mg a,a.e_6.1=fa /\ ∀ (s:Shared) (v:Value),BindsTo s a.e_6.2 ⟨[v],[]⟩ [("_law_script",v)]:=by
   dsimp only [L2.KOf]
   refine' N_k56.all_mk KX G hmg ..
   all_goals first | k_is | kit_is | k_exc | exact ⟨by k_is,L2.fun_mk (by k_is) (by k_is) (by k_is)⟩ | exact ⟨by k_is,by k_is,L2.fun_mk (by k_is) (by k_is) (by k_is)⟩ | exact L2.fun_mk (by k_is) (by k_is) (by k_is) | (intro t ht; simp only [List.mem_cons,List.not_mem_nil,or_false] at ht; rcases ht with rfl | rfl | rfl | rfl | rfl | rfl | rfl <;> kit_is) | skip
  obtain ⟨a,W,e1,hb⟩:=TT
  subst e1
  exact ⟨_,hb,fun base kb nb=>N_k56.law_ok W⟩
