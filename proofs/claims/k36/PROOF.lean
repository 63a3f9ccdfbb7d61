import PyProof.Rows.All
import Wide.All
import OpenK.AllK
import Wide.FinOn
import Lean
import PyProof.EqAt
import PyProof.EqKinds
import PyProof.TupleCall
import PyProof.NeKinds
import PySem.Challenge.RW_standstill_k36_spread_in_any_order
set_option Elab.async false
set_option genSizeOf false
set_option linter.all false
set_option compiler.extract_closed false
set_option bootstrap.genMatcherCode false
local macro_rules
|`(def $d:declId $b* :$t $v:declVal)=>`(theorem $d $b* :$t $v:declVal)
|`(abbrev $d:declId $s:optDeclSig $v:declVal)=>`(noncomputable def $d $s:optDeclSig $v:declVal)
set_option maxRecDepth 100000
open Array renaming length_toList->iH,getElem?_eq_getElem->mN,getElem?_toList->qb,getD->qc,toList_push->wg
open Bool renaming false->ae,true->ab,false_ne_true->ba,and_eq_true->cx,or_eq_true->i9,eq_iff_iff->jQ,noConfusion->kG,false_eq_true->ss,false_and->qd,true_and->qe,or_true->qf,and_false->sw,or_false->sx
open False renaming elim->ij
open ForInStep renaming yield->ot
open Iff renaming rfl->ja
open Int renaming emod_lt_of_pos->d8,toNat_natCast->eI,emod_nonneg->dU,mul_le_mul_of_nonneg_left->BV
open List renaming getD_eq_getElem?_getD->bD,mem_cons_self->aN,getElem?_eq_getElem->cj,mem_cons_of_mem->bo,length_map->aH,length_append->a8,getElem?_eq_some_iff->dq,getElem?_eq_none->cY,getElem?_map->cA,getElem?_cons_succ->eJ,mem_cons->aQ,mem_append_right->dE,range->bI,map_append->bO,length_singleton->dW,mem_append->bT,length_cons->cp,mem_of_getElem?->dM,length_range->cT,map_cons->bp,not_mem_nil->cG,mem_singleton->dF,mem_map->bf,append_nil->cB,mem_append_left->fD,zip_cons_cons->d9,nodup_cons->cZ,getElem?_set_self->jR,getElem?_append_right->lQ,foldl_cons->du,getElem?_append_left->lR,lookup_cons->eK,foldl_append->fE,getElem?_set_ne->kH,mem_filter->dX,append_assoc->fZ,filter_cons_of_pos->kK,nodup_append->gR,getElem_mem->kL,mem_range->eM,replicate->jS,length_filter_le->kM,nodup_nil->f6,getElem?_of_mem->ou,filter_cons_of_neg->mO,lookup->jb,length_take->jT,length_set->jc,getElem?_range->qg,zipWith->lS,any_cons->gS,length_drop->kO,ext_getElem?->lT,length_eq_zero_iff->qh,find?_cons_of_pos->qi,getElem?_eq_none_iff->wj,getElem?_replicate->wm,filterMap_cons->qj,filter_sublist->qk,find?_cons->mP,zipWith_cons_cons->sy,pairwise_cons->qm,set_cons_succ->qo,find?_eq_none->qp,length_replicate->sA,length_zip->ow,map_congr_left->sC,all_map->sD,map_set->kP,all_cons->mQ,set_cons_zero->sE,filter_append->sF
open List.Nodup renaming sublist->wn
open List.Pairwise renaming map->wq,sublist->BW
open List.Perm renaming append_left->wu,refl->sG,cons->ww
open List.cons renaming inj->ox
open Nat renaming le_refl->aL,ne_of_lt->bW,lt_succ_self->dh,lt_of_lt_of_le->fF,le_trans->c3,zero_le->c4,lt_irrefl->gt,le_of_lt->f7,not_lt_zero->jd,lt_succ_of_lt->kS,le_of_not_lt->mR,lt_of_le_of_lt->oy,ne_of_gt->kU,le_add_right->oz,le_succ->kX,lt_trans->lU,zero_add->lV,succ_pos->qr,min_self->sH,lt_of_not_le->wx
open Ne renaming symm->eZ
open Option renaming some->aa,none->ac,bind_some->aA,getD_some->oA,map->kZ,isSome_iff_exists->wy
open Option.some renaming inj->cN
open Or renaming inr->bB,inl->b7
open Prod.mk renaming inj->qt
open PyProof.Rows renaming callWith_type1->mS,firstMet->e7,boot_list->ik,callWith_builtin1->wz,IntsAre->e8,envOfC->gT,AllBare->k4
open PyProof.Rows.F renaming plain_set_update_loop->wA
open PySem renaming wpAny_bind->am,wpAny_pure->aD,Shared->ai,starEach->aO,sizeLine->aR,mainGlobals->cq,boot_len->eO,compareOp->cC,sizeLine_eq->dG,builtinLookup_eq_fast->k5,wpAny_newObj_type->je,rawInt->bE,wpAny_Call_Name_kw->k6,wpAny_call_entry->jU,Program->cH,wpAny_mono->f8,wpAny_callSpecial?_slot->oB,wpAny_truthy_bool->lW,backTo->cr,codeAny_builtin->k7,typeLookup_type->k8,FuncData->eA,sysModules->gU,bootBuiltins->jf,wpAny_holding->jV,swapsWith->gx,foldedSetIterable->mT,binaryOp->f9,NameKind->ga,wpAny_setField_rec->oC,intKind->eP,wpAny_passesOwn->mU,keywordEach->jW,behindInMarks->lX,assignEach->jg,mem_of_lookup->qu,wpAny_setState_of->oE,Around->cI,isSubtype_type->mV,holding->fG,wpAny_setEntries_of->qv,codeAny_mono->lY,wpAny_loadPart'->sI,tupleKind_room_in1->qw,plainId_quiet->mW,Builtin->dY,firstArgMember->oF,getMethod->jX,pickOrder->il,codeAny->gV,wpAny_isInstance->qx,attributeBase->oG,wpAny_attempt->oH,wpAny_rule->lZ,Spec->Hd,pyNext->fH,sliceBounds->mY,backToKw->jY,standAt->iI,wpAny_pyIter_list->sJ,typeLookup->mZ,scanBound->l5,tupleKind->m6,wpAny_execs_nil->sK,letOwnedTupleGo->sL,wpAny_specialOf->sM,wpAny_updateSeq->sN,callWith->l6,codeAny_call_builtin->wB,assign->iJ,wpAny_fieldsOf->sO,wpAny_seqItems->sP,wpAny_of_eq->qy,Paired->io,SetTable->dw,relayAll->m7,entryFor->m8
open PySem.Around renaming under_plainId->m9,in1_units->oI
open PySem.Builtin.Frozenset renaming sizeOf->BX
open PySem.Builtin.Int renaming intBits->sQ,intTooBig->BY
open PySem.Builtin.List renaming listExtendWith->sR,listSameRef->sS,listLengthHint->wC,listTooLong->wD,listItems->BZ
open PySem.Calls renaming spliced_cons->jZ,callWith_builtin->wE,evalArgs_plain->wF,spliced_nil->wG
open PySem.F renaming plainAttrs_list->fI,slot_list_append->ip,type_list_append->iq,called_set->l7,slot_list_reversed->wH,slot_dict_get->wI,slot_dict_setdefault->B0
open PySem.Heap renaming get?_push_of_some->bC,get?_push_size->cO,lt_size->bi,size_push->iK,SameBut->gy,get?_update_other->oJ,get?_update_self->oK
open PySem.Heap.SameBut renaming update->oM
open PySem.NameKind renaming free->dN,cell->iL
open PySem.Obj renaming mapSeq->gb
open PySem.Paired renaming length->oN
open PySem.PassesOwn renaming never->c7
open PySem.SeqAt renaming EqAt->cD
open PySem.SeqAt.EqAt renaming int_str->wJ,str_int->wK,same->wL
open PySem.SetTable renaming below->cb,grown->nc
open PySem.SetTable.below renaming go->sT
open PySem.Shared renaming TypeIs->sU
open PySem.Str renaming ofString->nh,empty->oO
open PySem.Value renaming ref->bJ,bool->gz,type->gA,none->iM,int->ni,str->oP
open PySem.W renaming Frag->aV,findIn->cP,mg_none_of->gc,emptyDict->k9,nsIn->dO,kia_one->jh,plainGet->lc,hasDictIn->l8,keepIn->ji,plainOver->nj,instObj->l9,makesIn->nr
open Sum renaming inl->gW,inr->j5
open Sum.inl renaming inj->nt
open True renaming intro->iN
nonrec abbrev PRS:=PySem.Value->PySem.Shared->Prop
nonrec abbrev MGT:=PySem.Str->Option PySem.Value
nonrec abbrev PNS:=List (PySem.Addr×PySem.Obj)
nonrec abbrev LN:=List Nat
nonrec abbrev L2N:=List LN
nonrec abbrev LSt:=List PySem.Str
nonrec abbrev LVa:=List PySem.Value
nonrec abbrev LAd:=List PySem.Addr
nonrec abbrev LEx:=List PySem.Expr
namespace L2
open List
open PySem PySem.Spec PyProof.Rows
@[reducible]noncomputable def Key:=Sum Int Str
abbrev ma:Key->Value->Bool
 |.inl k,v=>Value.isInt k v
 |.inr x,v=>Value.isStrOf x v
abbrev B1(w:World):Key->Int
 |.inl k=>hashInt k
 |.inr x=>hashStr w x
def jk:∀{k:Key} {v:Value},ma k v=ab->(∃i t,k=gW i/\v=ni i t)\/(∃x t,k=j5 x/\v=oP x t)
 |.inl i,v,h=>by
  obtain⟨t,e⟩:=Value.isInt_shape (k:=i) (v:=v) h
  exact .inl ⟨i,t,rfl,e⟩
 |.inr x,v,h=>by
  obtain⟨t,e⟩:=Value.isStrOf_shape (x:=x) (v:=v) h;exact .inr ⟨x,t,rfl,e⟩
def B2(i:Int)(t:Tok):ma (.inl i) (.int i t)=ab:=by simp[ma,Value.isInt]
def B3(x:Str)(t:Tok):ma (.inr x) (.str x t)=ab:=by simp[ma,Value.isStrOf]
def sV(a b:Int):decide ((gW a:Key)=gW b)=(a==b):=by
 by_cases e:a=b
 .subst e;simp
 .have h:¬(gW a:Key)=gW b:=λq=>e (nt q);rw[decide_eq_false h];exact(beq_eq_false_iff_ne.mpr e).symm
def B4(a b:Str):decide ((j5 a:Key)=j5 b)=decide (a=b):=by
 by_cases e:a=b
 .subst e;simp
 .have h:¬(j5 a:Key)=j5 b:=λq=>e (j5.inj q);rw[decide_eq_false h,decide_eq_false e]
def wM(a:Int)(b:Str):decide ((gW a:Key)=j5 b)=ae:=decide_eq_false (λq=>nomatch q)
def wN(a:Str)(b:Int):decide ((j5 a:Key)=gW b)=ae:=decide_eq_false (λq=>nomatch q)
abbrev iO(prog:cH)(w:World):PySem.KeyKind prog w Key where
 is:=ma
 hash:=B1 w
 inj:=λv a b ha hb=>by
  rcases jk ha with⟨i,t,rfl,rfl⟩ |⟨x,t,rfl,rfl⟩
  .rcases jk hb with⟨j,u,rfl,e⟩ |⟨y,u,rfl,e⟩
   .injection e with e1 _;rw[e1]
   .exact nomatch e
  .rcases jk hb with⟨j,u,rfl,e⟩ |⟨y,u,rfl,e⟩
   .exact nomatch e
   .injection e with e1 _;rw[e1]
 byValue:=λk v h=>by
  rcases jk h with⟨i,t,rfl,rfl⟩ |⟨x,t,rfl,rfl⟩ <;> rfl
 pyHash:=λhv h=>by
  rcases jk hv with⟨i,t,rfl,rfl⟩ |⟨x,t,rfl,rfl⟩
  .exact wpAny_pyHash_int h
  .exact wpAny_pyHash_str h
 eqBool:=λhu hv h=>by
  rcases jk hu with⟨i,t,rfl,rfl⟩ |⟨x,t,rfl,rfl⟩
  .rcases jk hv with⟨j,u,rfl,rfl⟩ |⟨y,u,rfl,rfl⟩
   .rw[sV]at h;exact wpAny_eqBool_int h
   .rw[wM]at h;exact wJ i t y u _ _ _ _ h
  .rcases jk hv with⟨j,u,rfl,rfl⟩ |⟨y,u,rfl,rfl⟩
   .rw[wN]at h;exact wK x t j u _ _ _ _ h
   .rw[B4]at h;exact wpAny_eqBool_str h
 «strs»:=λk x t v h=>by
  rcases jk h with⟨i,u,rfl,e⟩ |⟨y,u,rfl,e⟩
  .exact nomatch e
  .injection e with e1 _
   subst e1
   cases v <;> rfl
def He(prog:cH)(w:World)(i:Int)(t:Tok):(iO prog w).is (.inl i) (.int i t)=ab:=B2 i t
def Hg(prog:cH)(w:World)(x:Str)(t:Tok):(iO prog w).is (.inr x) (.str x t)=ab:=B3 x t
inductive V where
 |non |bl (b:Bool) |int (i:Int) |str (x:Str) |byt (b:Array UInt8) |flt (b:UInt64) |ref (a:Addr) |ty (n:String)
 deriving DecidableEq
abbrev aE:V->Value->Prop
 |.non,u=>u=iM
 |.bl b,u=>u=gz b
 |.int i,u=>∃t,u=ni i t
 |.str x,u=>∃t,u=oP x t
 |.byt b,u=>∃t,u=Value.bytes b t
 |.flt b,u=>∃t,u=Value.float b t
 |.ref a,u=>u=bJ a
 |.ty n,u=>u=gA n
nonrec abbrev aC:List V->LVa->Prop:=io aE
variable{xs:List V}{us:LVa}
def aC.length(r:aC xs us):xs.length=us.length:=oN r
def aC.get:∀{xs:List V} {us:LVa} {i:Nat} {x:V},aC xs us->xs[i]?=aa x->∃u,us[i]?=aa u/\aE x u
 | _,_,_,_,.nil,e=>by simp at e
 | _,_,0,_,.cons r _,e=>by simp at e;subst e;exact⟨_,rfl,r⟩
 | _,_,i+1,x,.cons _ t,e=>by
  obtain⟨u,a,b⟩:=aC.get (i:=i) (x:=x) t (by simpa using e);exact⟨u,by simpa using a,b⟩
def aC.set{x:V}{u:Value}(r:aE x u):∀{xs:List V} {us:LVa} (i:Nat),aC xs us->aC (xs.set i x) (us.set i u)
 | _,_,_,.nil=>.nil
 | _,_,0,.cons _ t=>.cons r t
 | _,_,i+1,.cons q t=>.cons q (aC.set r i t)
def aC.append:∀{xs ys:List V} {us ws:LVa},aC xs us->aC ys ws->aC (xs++ys) (us++ws)
 | _,_,_,_,.nil,s=>s
 | _,_,_,_,.cons r t,s=>.cons r (aC.append t s)
def aC.take:∀{xs:List V} {us:LVa} (n:Nat),aC xs us->aC (xs.take n) (us.take n)
 | _,_,0,_=>.nil
 | _,_,_+1,.nil=>.nil
 | _,_,n+1,.cons r t=>.cons r (aC.take n t)
def aC.drop:∀{xs:List V} {us:LVa} (n:Nat),aC xs us->aC (xs.drop n) (us.drop n)
 | _,_,0,r=>r
 | _,_,_+1,.nil=>.nil
 | _,_,n+1,.cons _ t=>aC.drop n t
def aC.none_of:∀{xs:List V} {us:LVa} {i:Nat},aC xs us->xs[i]?=ac->us[i]?=ac:=λ{xs us i} r e=>by
 have a:=r.length;have b:xs.length<=i:=wj.mp e;exact wj.mpr (by lia)
abbrev e9:Option V->Option Value->Prop
 |some v,aa u=>aE v u
 |none,ac=>True
 | _,_=>False
abbrev KV{a:Type}:List (a×V)->List (a×Value)->Prop:=io λ(p:a×V) (q:a×Value)=>p.1=q.1/\aE p.2 q.2
abbrev kV:Key->V
 |.inl i=>.int i
 |.inr x=>.str x
abbrev kR:Key->V->Prop
 |.inl i,v=>v=.int i\/∃b:Bool,v=.bl b/\i=cond b 1 0
 |.inr x,v=>v=.str x
abbrev wO:Key->Value->Bool
 |.inl k,.bool b=>decide (k=cond b 1 0)
 |k,v=>ma k v
def nu{k:Key}{v:Value}(h:wO k v=ab):(∃i t,k=.inl i/\v=.int i t)\/(∃b:Bool,k=.inl (cond b 1 0)/\v=.bool b)\/(∃x t,k=.inr x/\v=.str x t):=by
 unfold wO at h;split at h
 .rename_i a b;exact .inr (.inl ⟨b,by rw[of_decide_eq_true h],rfl⟩)
 .rcases jk h with q |q
  .exact .inl q
  .exact .inr (.inr q)
def Hh(a b:Bool):decide ((gW (cond a 1 0):Key)=gW (cond b 1 0))=(a==b):=by cases a <;> cases b <;> decide
def Hi(a:Bool)(j:Int):decide ((gW (cond a 1 0):Key)=gW j)=((if a then 1 else 0)==j):=by rw[sV];cases a <;> rfl
def Hj(j:Int)(a:Bool):decide ((gW j:Key)=gW (cond a 1 0))=(j==(if a then 1 else 0)):=by rw[sV];cases a <;> rfl
variable{prog:cH}{w:World}{A:cI}{E:PRS}
def Hk{s:ai}{b:Bool}{Q:Int->ai->Prop}(h:Q (hashInt (cond b 1 0)) {s with toks:=s.toks+1}):wpAny (model prog w) A (pyHash (.bool b)) Q E s:=by
 refine W.pyHash_slot (T:="bool") rfl PySem.F.slot_bool_hash PySem.entry_int_hash (PySem.args_int_hash _) (beq_builtin_none _) (.inl rfl) ?_;cases b
 .exact(show wpAny _ _ (do ret (<- mkInt 0)) _ _ s from am (wpAny_mkInt (aD ⟨_,_,rfl,h⟩)))
 .exact(show wpAny _ _ (do ret (<- mkInt 1)) _ _ s from am (wpAny_mkInt (aD ⟨_,_,rfl,h⟩)))
abbrev lg(prog:cH)(w:World):PySem.KeyKind prog w Key where
 is:=wO
 hash:=B1 w
 inj:=λv a b ha hb=>by
  rcases nu ha with⟨i,t,rfl,rfl⟩ |⟨c,rfl,rfl⟩ |⟨x,t,rfl,rfl⟩ <;> rcases nu hb with⟨j,u,rfl,e⟩ |⟨d,rfl,e⟩ |⟨y,u,rfl,e⟩ <;> cases e <;> rfl
 byValue:=λk v h=>by
  rcases nu h with⟨i,t,rfl,rfl⟩ |⟨c,rfl,rfl⟩ |⟨x,t,rfl,rfl⟩ <;> rfl
 pyHash:=λhv h=>by
  rcases nu hv with⟨i,t,rfl,rfl⟩ |⟨c,rfl,rfl⟩ |⟨x,t,rfl,rfl⟩
  .exact wpAny_pyHash_int h
  .exact Hk h
  .exact wpAny_pyHash_str h
 eqBool:=λhu hv h=>by
  rcases nu hu with⟨i,t,rfl,rfl⟩ |⟨c,rfl,rfl⟩ |⟨x,t,rfl,rfl⟩ <;> rcases nu hv with⟨j,u,rfl,rfl⟩ |⟨d,rfl,rfl⟩ |⟨y,u,rfl,rfl⟩
  .rw[sV]at h;exact cD.int_int _ _ _ _ _ _ _ _ h
  .rw[Hj]at h;exact cD.int_bool _ _ _ _ _ _ _ h
  .rw[wM]at h;exact wJ _ _ _ _ _ _ _ _ h
  .rw[Hi]at h;exact cD.bool_int _ _ _ _ _ _ _ h
  .rw[Hh]at h;exact cD.bool_bool _ _ _ _ _ _ h
  .rw[wM]at h;exact cD.bool_str _ _ _ _ _ _ _ h
  .rw[wN]at h;exact wK _ _ _ _ _ _ _ _ h
  .rw[wN]at h;exact cD.str_bool _ _ _ _ _ _ _ h
  .rw[B4]at h;exact wpAny_eqBool_str h
 «strs»:=λk x t v h=>by
  rcases nu h with⟨i,u,rfl,e⟩ |⟨c,rfl,e⟩ |⟨y,u,rfl,e⟩
  .exact nomatch e
  .exact nomatch e
  .injection e with e1 _
   subst e1
   cases v <;> rfl
variable{P:cH}{v:V}
def Hl{k:Key}{u:Value}(q:kR k v)(r:aE v u):(lg P w).is k u=ab:=by
 cases k with
 |inl i=>
  rcases q with rfl |⟨b,rfl,rfl⟩
  .obtain⟨t,e⟩:=(show ∃t,u=ni i t from r);subst e;exact B2 i t
  .cases (show u=gz b from r);cases b <;> rfl
 |inr x=>cases (show v=V.str x from q);obtain⟨t,e⟩:=(show ∃t,u=oP x t from r);subst e;exact B3 x t
nonrec abbrev KRs:List Key->List V->Prop:=io kR
def B5{P:cH}{w:World}:∀{ks:List Key} {vs:List V} {us:LVa},KRs ks vs->aC vs us->ItemsAre (lg P w) ks us
 | _,_,_,.nil,r=>by cases r;exact .nil
 | _,_,_,.cons q t,r=>by
  cases r with
  |cons h t'=>exact .cons (Hl q h) (B5 t t')
inductive HO where
 |lst (xs:List V)
 |tup (xs:List V)
 |dK (kvs:List (Key×V)) |dT (kvs:List (List Key×V))
 |set (S:Int->Bool) (n:Nat)
 |ins (C dx:Addr) (fs:List (Str×V))
 |own (x:Addr)
 |xd (fs:List (Str×V))
 |met (f x:Addr)
 |rng (lo hi:Int)
 |frz (o:Obj) (u:HO)
 |tbl (ps:Array Value)
 |ext (φ:Heap->Prop)
@[reducible]noncomputable def Hp:=Addr->Option HO
abbrev fJ(H:Hp)(b:Addr)(k:List Key):Prop:=∃vs,H b=aa (.tup vs)/\KRs k vs
variable{H H':Hp}{b:Addr}
def fJ.up{k:List Key}(h:fJ H b k)(a:∀b xs,H b=aa (.tup xs)->H' b=aa (.tup xs)):fJ H' b k:=let ⟨vs,e,q⟩:=h;⟨vs,a _ _ e,q⟩
abbrev upd(H:Hp)(a:Addr)(o:HO):Hp:=λb=>if b=a then aa o else H b
variable{a:Addr}
def aZ{o:HO}:upd H a o a=aa o:=by unfold upd;rw[if_pos rfl]
def aJ{o:HO}(h:b≠a):upd H a o b=H b:=by unfold upd;rw[if_neg h]
def B6{o u:HO}(h:H a=aa o)(h':H b=aa u)(d:o≠u):a≠b:=by
 intro e;subst e;rw[h]at h';exact d (cN h')
def fK{o:HO}(h:H a=aa o)(h':H b=ac):a≠b:=by
 intro e;subst e;rw[h]at h';cases h'
section
variable(P:cH)(w:World)
abbrev cU(H:Hp)(h:Heap)(a:Addr):HO->Prop
 |.lst xs=>xs.length<=aR/\∃(its:LVa) (n:Nat),aC xs its/\h.get? a=aa {cls:=.type "list",data:=.seq its.toArray n}
 |.tup xs=>xs.length<=aR/\∃its:LVa,aC xs its/\IsTup h a its.toArray
 |.dK kvs=>kvs.length<=aR/\(a==gU)=ae/\∃vs,KV kvs vs/\h.DictOf (iO P w) a vs
 |.dT kvs=>kvs.length<=aR/\(a==gU)=ae/\∃xs:List (List Key×Addr×Value),
   io (λ(p:List Key×V) (q:List Key×Addr×Value)=>p.1=q.1/\fJ H q.2.1 p.1/\aE p.2 q.2.2) kvs xs /\
   ∃o es e,h.get? a=aa o/\o.ExactDict/\o.data=.dict es e/\es.toList=xs.map (entryOfKey (m6 (lg P w)))/\(xs.map (·.1)).Nodup
 |.set S n=>h.SetOf (eP P w) a S n
 |.ins C dx fs=>H dx=aa (.own a)/\fs.length<=1000/\dx≠a/\h.get? a=aa (l9 C dx) /\
   ∃mA,h.Ns1 dx mA/\(∀f,e9 (fs.lookup f) (mA f))/\PySem.Within mA (fs.map (·.1))
 |.own _=>∃o,h.get? a=aa o
 |.xd fs=>∃mA,h.Ns1 a mA/\∀f,e9 (fs.lookup f) (mA f)
 |.rng lo hi=>∃t u v,h.get? a=aa {cls:=.type "range",data:=.fields #[.int lo t,.int hi u,.int 1 v]}
 |.frz o u=>h.get? a=aa o/\cU H h a u
 |.tbl ps=>h.get? a=aa {cls:=.none,data:=.fields ps}
 |.met f x=>h.get? a=aa (W.methodObj (.ref f) (.ref x))
 |.ext φ=>φ h/\(∃o,h.get? a=aa o)/\∀c d:Heap,φ c->(∀o,c.get? a=aa o->d.get? a=aa o)->φ d
abbrev HOk(H:Hp)(h:Heap):Prop:=∀a o,H a=aa o->cU P w H h a o
end
variable{h:Heap}
def cU.lt{o:HO}(x:cU P w H h a o):a<h.objs.size:=by
 cases o with
 |lst xs=>obtain⟨_,_,_,_,e⟩:=x;exact bi e
 |tup xs=>obtain⟨_,_,_,p⟩:=x;exact p.lt
 |dK kvs=>obtain⟨_,_,_,_,o,_,_,e,_⟩:=x;exact bi e
 |dT kvs=>obtain⟨_,_,_,_,o,_,_,e,_⟩:=x;exact bi e
 |set S n=>obtain⟨o,_,_,_,e,_⟩:=x;exact bi e
 |ins C dx fs=>obtain⟨_,_,_,e,_⟩:=x;exact bi e
 |own y=>obtain⟨_,e⟩:=x;exact bi e
 |xd fs=>obtain⟨_,⟨_,_,_,e,_⟩,_⟩:=x;exact bi e
 |rng lo hi=>obtain⟨_,_,_,e⟩:=x;exact bi e
 |frz c u=>obtain⟨e,_⟩:=x;exact bi e
 |tbl ps=>exact bi (show h.get? a=aa _ from x)
 |met f y=>exact bi (show h.get? a=aa _ from x)
 |ext φ=>obtain⟨_,⟨_,e⟩,_⟩:=x;exact bi e
def io.mapP{c d:Type}{F G:c->d->Prop}:∀{l₁:List c} {l₂:List d},io F l₁ l₂->(∀a b,F a b->G a b)->io G l₁ l₂
 | _,_,.nil,_=>.nil
 | _,_,.cons r t,f=>.cons (f _ _ r) (io.mapP t f)
variable{h':Heap}
def cU.stay{o:HO}(x:cU P w H h a o)(k:∀b u,(b=a\/H b=aa (.own a))->h.get? b=aa u->h'.get? b=aa u)
 (l:∀b,H b=aa (.own a)->H' b=aa (.own a))(m:∀b xs,H b=aa (.tup xs)->H' b=aa (.tup xs)):cU P w H' h' a o:=by
 induction o with
 |lst xs=>obtain⟨z,its,n,r,e⟩:=x;exact⟨z,its,n,r,k _ _ (.inl rfl) e⟩
 |tup xs=>obtain⟨z,its,r,g,e,c⟩:=x;exact⟨z,its,r,g,k _ _ (.inl rfl) e,c⟩
 |dK kvs=>obtain⟨z,y,vs,r,g,es,i,e,c⟩:=x;exact⟨z,y,vs,r,g,es,i,k _ _ (.inl rfl) e,c⟩
 |dT kvs=>
  obtain⟨z,y,xs,r,g,es,i,e,c⟩:=x
  exact⟨z,y,xs,io.mapP r λp q z=>⟨z.1,z.2.1.up m,z.2.2⟩,g,es,i,k _ _ (.inl rfl) e,c⟩
 |set S n=>obtain⟨g,es,i,t,e,c⟩:=x;exact⟨g,es,i,t,k _ _ (.inl rfl) e,c⟩
 |ins C dx fs=>
  obtain⟨d,z,ne,e,mA,⟨od,es,i,j,c⟩,r⟩:=x
  exact⟨l _ d,z,ne,k _ _ (.inl rfl) e,mA,⟨od,es,i,k _ _ (.inr d) j,c⟩,r⟩
 |own y=>obtain⟨g,e⟩:=x;exact⟨g,k _ _ (.inl rfl) e⟩
 |xd fs=>obtain⟨mA,⟨od,es,i,e,c⟩,r⟩:=x;exact⟨mA,⟨od,es,i,k _ _ (.inl rfl) e,c⟩,r⟩
 |rng lo hi=>obtain⟨t,u,v,e⟩:=x;exact⟨t,u,v,k _ _ (.inl rfl) e⟩
 |frz g u B=>obtain⟨e,q⟩:=x;exact⟨k _ _ (.inl rfl) e,B q⟩
 |tbl ps=>
  have e:h.get? a=aa {cls:=.none,data:=.fields ps}:=x;show h'.get? a=aa {cls:=.none,data:=.fields ps}
  exact k a _ (.inl rfl) e
 |met f y=>
  have e:h.get? a=aa (W.methodObj (.ref f) (.ref y)):=x;show h'.get? a=aa (W.methodObj (.ref f) (.ref y))
  exact k a _ (.inl rfl) e
 |ext φ=>obtain⟨p,⟨o,e⟩,st⟩:=x;exact⟨st _ _ p λo q=>k _ _ (.inl rfl) q,⟨o,k _ _ (.inl rfl) e⟩,st⟩
def HOk.lt{o:HO}(x:HOk P w H h)(e:H a=aa o):a<h.objs.size:=(x a o e).lt
def HOk.fresh(x:HOk P w H h)(e:h.objs.size<=a):H a=ac:=by
 cases q:H a with
 |none=>rfl
 |some u=>exact absurd (fF (x.lt q) e) (gt _)
def HOk.kept(x:HOk P w H h)(k:∀b u,h.get? b=aa u->h'.get? b=aa u):HOk P w H h':=λa o e=>
 (x a o e).stay (λb u _ q=>k b u q) (λ_ q=>q) λ_ _ q=>q
def HOk.laid{o:HO}(x:HOk P w H h)(k:∀b u,h.get? b=aa u->h'.get? b=aa u)(f:h.objs.size<=a)(new:cU P w (upd H a o) h' a o):HOk P w (upd H a o) h':=λb u e=>by
 have hn:=x.fresh f
 by_cases d:b=a
 .subst d;rw[aZ]at e;cases e;exact new
 .rw[aJ d]at e;exact(x b u e).stay (λc v _ q=>k c v q) (λc q=>by rw[aJ (fK q hn)];exact q) λc xs q=>by rw[aJ (fK q hn)];exact q
abbrev Rd(H:Hp)(a:Addr)(u:HO):Prop:=H a=aa u\/∃o,H a=aa (.frz o u)
def Rd.ok{u:HO}(r:Rd H a u)(x:HOk P w H h):cU P w H h a u:=by
 rcases r with r |⟨o,r⟩
 .exact x a u r
 .obtain⟨_,q⟩:=x a _ r;exact q
abbrev Mut:Option HO->Prop
 |some (.lst _)=>True
 |some (.dK _)=>True
 |some (.dT _)=>True
 |some (.set _ _)=>True
 |some (.ins _ _ _)=>True
 |some (.ext _)=>True
 | _=>False
variable{x e:Addr}{o':HO}
def HOk.write(ok:HOk P w H h)(l:Mut (H x))(n:e=x\/H e=aa (.own x))(k:∀b u,b≠e->h.get? b=aa u->h'.get? b=aa u)(m:∃u,h'.get? e=aa u)
 (new:cU P w (upd H x o') h' x o'):HOk P w (upd H x o') h':=λb u q=>by
 have f:∀c y,H c=aa (.own y)->c≠x:=λc y r z=>by subst z;rw[r]at l;exact l
 have g:∀c xs,H c=aa (.tup xs)->c≠x:=λc xs r z=>by subst z;rw[r]at l;exact l
 by_cases i:b=x
 .subst i;rw[aZ]at q;cases q;exact new
 .rw[aJ i]at q
  by_cases d:b=e
  .have p:H b=aa (.own x):=by
    rcases n with z |z
    .exact absurd (d.trans z) i
    .rw[d];exact z
   rw[q]at p;cases p;obtain⟨v,hv⟩:=m;exact⟨v,by rw[d];exact hv⟩
  .refine(ok b u q).stay (λc v j r=>k c v ?_ r) (λc r=>by rw[aJ (f c b r)];exact r) λc xs r=>by rw[aJ (g c xs r)];exact r
   rcases j with rfl |j
   .exact d
   .rintro rfl
    rcases n with z |z
    .exact f c b j z
    .rw[j]at z;cases z;exact i rfl
structure Un(fs ex:LAd)(H H':Hp)(h h':Heap):Prop where
 keep:∀b o,h.get? b=aa o->H b=ac->b∉fs->b∉ex->h'.get? b=aa o
 slot:∀b o,h.get? b=aa o->H b=ac->b∈fs->b∉ex->∃sl,h'.get? b=aa {o with slots:=sl}
 free:∀b o,h.get? b=aa o->H b=ac->b∉ex->H' b=ac
 there:∀b o,h.get? b=aa o->b∉ex->∃o',h'.get? b=aa o'
 tups:∀b xs,H b=aa (.tup xs)->H' b=aa (.tup xs)
 frzs:∀b o u,H b=aa (.frz o u)->H' b=aa (.frz o u)
 tbls:∀b ps,H b=aa (.tbl ps)->∃more,H' b=aa (.tbl (ps++more))
variable{ex:LAd}{H1:Hp}{h1:Heap}
def Un.any{fs:LAd}(u:Un fs ex H H1 h h1){c:Obj}(q:h.get? b=aa c)(n:H b=ac)(hx:b∉ex):∃sl,h1.get? b=aa {c with slots:=sl}:=by
 by_cases d:b∈fs
 .exact u.slot b c q n d hx
 .exact⟨c.slots,u.keep b c q n d hx⟩
variable{H2:Hp}{h2:Heap}
def Un.trans{fs:LAd}(a:Un fs ex H H1 h h1)(b:Un fs ex H1 H2 h1 h2):Un fs ex H H2 h h2 where
 keep:=λc ob q n hc hx=>b.keep c ob (a.keep c ob q n hc hx) (a.free c ob q n hx) hc hx
 slot:=λc ob q n hc hx=>by
  obtain⟨sl,e1⟩:=a.slot c ob q n hc hx;obtain⟨sl',e2⟩:=b.slot c _ e1 (a.free c ob q n hx) hc hx;exact⟨sl',e2⟩
 free:=λc ob q n hx=>by
  obtain⟨o',e1⟩:=a.there c ob q hx;exact b.free c o' e1 (a.free c ob q n hx) hx
 there:=λc ob q hx=>by
  obtain⟨o',e1⟩:=a.there c ob q hx;exact b.there c o' e1 hx
 tups:=λc xs q=>b.tups c xs (a.tups c xs q)
 frzs:=λc ob xs q=>b.frzs c ob xs (a.frzs c ob xs q)
 tbls:=λc ps q=>by
  obtain⟨m1,e1⟩:=a.tbls c ps q;obtain⟨m2,e2⟩:=b.tbls c _ e1;exact⟨m1++m2,by rw[e2,Array.append_assoc]⟩
def Un.kept{fs:LAd}(k:∀b u,h.get? b=aa u->h'.get? b=aa u):Un fs ex H H h h':=
 ⟨λb c q _ _ _=>k b c q,λb c q _ _ _=>⟨c.slots,k b c q⟩,λ_ _ _ n _=>n,λb c q _=>⟨c,k b c q⟩,λ_ _ q=>q,λ_ _ _ q=>q,λ_ ps q=>⟨#[],by rw[q];simp⟩⟩
def Un.refl{fs:LAd}:Un fs ex H H h h:=Un.kept λ_ _ q=>q
def Un.laid{fs:LAd}{o:HO}(k:∀b u,h.get? b=aa u->h'.get? b=aa u)(hp:h.objs.size<=a)(hn:H a=ac):Un fs ex H (upd H a o) h h' where
 keep:=λb u q _ _ _=>k b u q
 slot:=λb u q _ _ _=>⟨u.slots,k b u q⟩
 free:=λb u q n _=>by rw[aJ (bW (fF (bi q) hp))];exact n
 there:=λb u q _=>⟨u,k b u q⟩
 tups:=λb xs q=>by rw[aJ (fK q hn)];exact q
 frzs:=λb u xs q=>by rw[aJ (fK q hn)];exact q
 tbls:=λb ps q=>⟨#[],by rw[aJ (fK q hn),q];simp⟩
def Un.write{fs:LAd}{o:HO}(d:Mut (H x))(i:e=x\/H e=aa (.own x))(k:∀b u,b≠e->h.get? b=aa u->h'.get? b=aa u)(f:∃u,h'.get? e=aa u):Un fs ex H (upd H x o) h h':=by
 have hx:∀b,H b=ac->b≠x:=λb n z=>by subst z;rw[n]at d;exact d
 have g:∀b,H b=ac->b≠e:=λb n z=>by
  subst z
  rcases i with r |r
  .exact hx b n r
  .rw[n]at r;cases r
 have hm:∀b u,H b=aa u->¬Mut (aa u)->b≠x:=λb u q nm z=>by subst z;rw[q]at d;exact nm d
 refine⟨λb u q n _ _=>k b u (g b n) q,λb u q n _ _=>⟨u.slots,k b u (g b n) q⟩,λb u q n _=>by rw[aJ (hx b n)];exact n,λb u q _=>?_,
  λb xs q=>by rw[aJ (hm b _ q λz=>z)];exact q,λb u xs q=>by rw[aJ (hm b _ q λz=>z)];exact q,λb ps q=>⟨#[],by rw[aJ (hm b _ q λz=>z),q];simp⟩⟩
 by_cases c:b=e
 .subst c;exact f
 .exact⟨u,k b u c q⟩
abbrev trk(h:Heap)(H:Hp):LAd:=(bI h.objs.size).filter λa=>(H a).isSome
abbrev lh(h:Heap)(H:Hp):Heap:=W.hideAll h (trk h H)
def Hm(h:Heap)(H:Hp):(lh h H).objs.size=h.objs.size:=W.hideAll_size _ _
def Ho{o:Obj}(e:h.get? b=aa o)(n:H b=ac):(lh h H).get? b=aa o:=
 W.hideAll_get _ e λhm=>by
  have q:(H b).isSome=ab:=(dX.mp hm).2;rw[n]at q;simp at q
def Hq{o:Obj}(e:(lh h H).get? b=aa o):h.get? b=aa o/\H b=ac:=by
 have c:h.get? b=aa o:=W.of_hideAll (trk h H) e;refine⟨c,?_⟩
 cases q:H b with
 |none=>rfl
 |some x=>
  have hm:b∈trk h H:=dX.mpr ⟨eM.mpr (bi c),by simp[q]⟩;have z:(lh h H).get? b=ac:=W.hideAll_none (trk h H) hm;rw[z]at e;cases e
abbrev Hr(g h:Heap)(L:Addr):PNS:=(bI h.objs.size).filterMap λa=>if a=L\/(g.get? a).isSome=ab then ac else (h.get? a).map λo=>(a,o)
abbrev rest(g h:Heap)(L d:Addr):PNS:=(Hr g h L).filter λp=>decide (p.1≠d)
structure Mod(K:aV)(mg:MGT)(base:Heap):Prop where
 kin:K.In base
 glob:base.Ns cq mg
 blt:∃mb,base.Ns builtinsNs mb/\∀x:Str,x ≠ "__name__" -> mb x=jf x
 nolimit:base.NoLimit
set_option genInjectivity false in
structure Cx where
 prog:cH
 w:World
 K:aV
 mg:Str->Option Value
 base:Heap
 A:cI
 N:LSt
 s₀:ai
 H₀:Hp
 env:Env
 outer:List Env
 stack:List Env
 ex:LAd
 fn:Str->Bool
 calm:Bool
 pn:PNS
 xe:Value->ai->Prop
nonrec abbrev NDb(x:Str):=(x==("__debug__":Str))=ae
nonrec abbrev NCd(x:Str):=(x==("__classdict__":Str))=ae
nonrec abbrev StE(X:Cx)(e:Expr)(es:LEx):=aO (e::es) X.env=(ae,eval e X.env)::aO es X.env
nonrec abbrev BkE(X:Cx)(pos:Pos)(es:LEx):=(cr pos (aO es X.env)).any (·.1)=ae
nonrec abbrev LcF(X:Cx)(x:Str):=X.fn x=ab\/X.env.scope.names.lookup x=aa .local
abbrev frs(l:List Env):LAd:=l.filterMap (·.frame)
@[reducible]noncomputable def Cx.fs(X:Cx):LAd:=frs X.outer
abbrev Vis(sc:Scope)(x:Str):Prop:=sc.names.lookup x=aa .local\/sc.names.lookup x=aa .cell\/sc.names.lookup x=aa .free
abbrev Loc(sc:Scope)(x:Str):Prop:=sc.names.lookup x=aa .local\/sc.names.lookup x=aa .cell
abbrev Hs(env:Env)(h:Heap)(m:MGT)(x:Str)(u:Value):Prop:=
 (env.kindOf x=aa .local/\m x=aa u)\/((env.kindOf x=aa .cell\/env.kindOf x=aa .free)/\∃c,env.cells.lookup x=aa c/\h.IsCell c (aa u))
structure Cx.Ok(X:Cx):Prop where
 mod:Mod X.K X.mg X.base
 kind:X.env.scope.kind=.function
 glob:X.env.globals=cq
 blt:X.env.builtins=builtinsNs
 above:X.s₀.heap.objs.size<=X.env.locals
 inj:∀x y c,X.env.cells.lookup x=aa c->X.env.cells.lookup y=aa c->x=y
 has:∀x,(X.env.kindOf x=aa .cell\/X.env.kindOf x=aa .free)->∃c,X.env.cells.lookup x=aa c
 cab:∀x c,X.fn x=ab->X.env.cells.lookup x=aa c->X.s₀.heap.objs.size<=c
 hd:X.calm=ab->X.A.handled=ac
 frames:X.A.frames=aa X.stack
 stk:X.stack=X.outer\/(X.stack=X.env::X.outer/\X.env.frame=aa X.env.locals)
 exf:∀b∈X.ex,b≠X.env.locals/\∀x c,X.env.cells.lookup x=aa c->c≠b
 bs:∀b o,X.base.get? b=aa o->X.s₀.heap.get? b=aa o/\X.H₀ b=ac
 bsz:X.base.objs.size<=X.s₀.heap.objs.size
 noex:∀b o,X.base.get? b=aa o->b∉X.ex
 exfs:∀b∈X.ex,b∉X.fs
 funs:X.s₀.heap.FunFrames X.base X.outer
 frf:∀b∈X.fs,X.H₀ b=ac
structure Inv(X:Cx)(pins:PNS)(σ:List (Option V))(H:Hp)(s:ai):Prop where
 ok:X.Ok
 os:s.os=X.s₀.os
 bare:k4 s.gens
 base:Un X.fs X.ex X.H₀ H X.s₀.heap s.heap
 loc:∃m,s.heap.Ns X.env.locals m/\∀(i:Nat) (x:Str) (v:V),X.N[i]?=aa x->σ[i]?=aa (aa v)->Vis X.env.scope x->∃u,aE v u/\Hs X.env s.heap m x u
 cell:∀x c,X.env.cells.lookup x=aa c->∃v,s.heap.IsCell c v
 free:H X.env.locals=ac
 freeC:∀x c,X.env.cells.lookup x=aa c->H c=ac
 pin:∀p∈X.pn++pins,s.heap.get? p.1=aa p.2/\H p.1=ac/\p.1≠X.env.locals/\p.1∉X.fs/\∀v,p.2.data≠.cell v
 hok:HOk X.prog X.w H s.heap
 len:σ.length=X.N.length
variable{X:Cx}
def Cx.Ok.nofr(ok:X.Ok){o:Obj}(e:X.base.get? b=aa o):b∉X.fs:=λc=>by
 have:=(ok.funs.mem c).1;rw[e]at this;cases this
variable{pins:PNS}{σ:List (Option V)}
def Inv.bs{s:ai}(I:Inv X pins σ H s):∀b o,X.base.get? b=aa o->s.heap.get? b=aa o/\H b=ac:=λb o e=>
 ⟨I.base.keep b o (I.ok.bs b o e).1 (I.ok.bs b o e).2 (I.ok.nofr e) (I.ok.noex b o e),I.base.free b o (I.ok.bs b o e).1 (I.ok.bs b o e).2 (I.ok.noex b o e)⟩
def Inv.bk{s:ai}(I:Inv X pins σ H s):∀b o,X.base.get? b=aa o->s.heap.get? b=aa o:=λb o e=>(I.bs b o e).1
def Inv.mod{s:ai}(I:Inv X pins σ H s):Mod X.K X.mg X.base:=I.ok.mod
def Inv.kIn{s:ai}(I:Inv X pins σ H s):X.K.In s.heap:=I.ok.mod.kin.keeps I.bk
def Inv.lt{s:ai}(I:Inv X pins σ H s):X.env.locals<s.heap.objs.size:=let ⟨_,hn,_⟩:=I.loc;hn.lt
def Inv.sz{s:ai}(I:Inv X pins σ H s):X.s₀.heap.objs.size<=s.heap.objs.size:=c3 I.ok.above (f7 I.lt)
def Inv.nofs{s:ai}(I:Inv X pins σ H s)(h:s.heap.objs.size<=a):a∉X.fs:=λc=>by
 obtain⟨_,o,d,_⟩:=I.ok.funs.mem c;exact absurd (fF (bi d) (c3 I.sz h)) (gt _)
def Inv.cne{s:ai}(I:Inv X pins σ H s):∀x c,X.env.cells.lookup x=aa c->c≠X.env.locals:=λx c e z=>by
 obtain⟨v,o,g,hd⟩:=I.cell x c e;obtain⟨m,⟨o',es,i,f,d,_⟩,_⟩:=I.loc;rw[z,f]at g;cases g;rw[d]at hd;cases hd
def Inv.funs{s:ai}(I:Inv X pins σ H s):s.heap.FunFrames X.base X.outer:=by
 have all:∀(l:List Env),(∀b∈frs l,b∈X.fs)->X.s₀.heap.FunFrames X.base l->s.heap.FunFrames X.base l:=by
  intro l
  induction l with
  |nil=>intro _ _;trivial
  |cons env r p=>
   intro g j;obtain⟨i,⟨L,o,f,hn,m,hd⟩,n⟩:=j;have c:L∈X.fs:=g L (by unfold frs;rw[qj,f];exact aN);obtain⟨sl,e⟩:=I.base.slot L o m (I.ok.frf L c) c λz=>I.ok.exfs L z c;exact⟨i,⟨L,_,f,hn,e,hd⟩,p (λb d=>g b (by unfold frs;rw[qj,f];exact bo _ d)) n⟩
 exact all X.outer (λ_ d=>d) I.ok.funs
def Inv.stack{s:ai}(I:Inv X pins σ H s):s.heap.FunFrames X.base X.stack:=by
 rcases I.ok.stk with e |⟨e,hf⟩
 .rw[e];exact I.funs
 .rw[e];obtain⟨m,hn,_⟩:=I.loc;refine .cons (by rw[I.ok.kind];decide) hf hn ?_ I.funs;exact Heap.get?_none_of_le (c3 I.ok.bsz I.ok.above)
def Inv.stkSub{s:ai}(I:Inv X pins σ H s):∀b∈frs X.stack,b∈X.env.locals::X.fs:=λb c=>by
 rcases I.ok.stk with e |⟨e,hf⟩
 .rw[e]at c;exact bo _ c
 .rw[e]at c;unfold frs at c;rw[qj,hf]at c;exact c
def Inv.stkFree{s:ai}(I:Inv X pins σ H s):∀b∈frs X.stack,H b=ac:=λb c=>by
 rcases aQ.mp (I.stkSub b c)with e |c
 .rw[e];exact I.free
 .obtain⟨_,o,d,_⟩:=I.ok.funs.mem c;exact I.base.free b o d (I.ok.frf b c) λz=>I.ok.exfs b z c
variable{g':Array GenState}{t':Nat}{d':Drawn}{ch:LAd}
def Inv.step{s:ai}(I:Inv X pins σ H s)
 (g:∀b∈ch,(b∈X.ex\/X.s₀.heap.objs.size<=b)/\b≠X.env.locals/\(∀x c,X.env.cells.lookup x=aa c->c≠b)/\∀p∈X.pn++pins,p.1≠b)
 (keep:∀b o,b≠X.env.locals->b∉X.fs->b∉ch->s.heap.get? b=aa o->H b=ac->h'.get? b=aa o)
 (slot:∀b o,b≠X.env.locals->b∈X.fs->b∉ch->s.heap.get? b=aa o->H b=ac->∃sl,h'.get? b=aa {o with slots:=sl})(free:∀b o,b∉ch->s.heap.get? b=aa o->H b=ac->H' b=ac)
 (there:∀b o,b∉ch->s.heap.get? b=aa o->∃o',h'.get? b=aa o')
 (tups:∀b xs,H b=aa (.tup xs)->H' b=aa (.tup xs))(frzs:∀b o u,H b=aa (.frz o u)->H' b=aa (.frz o u))(tbls:∀b ps,H b=aa (.tbl ps)->∃more,H' b=aa (.tbl (ps++more)))
 (ns:∀m,s.heap.Ns X.env.locals m->h'.Ns X.env.locals m)(hok:HOk X.prog X.w H' h')(Y:k4 g'):
  Inv X pins σ H' {s with heap:=h',gens:=g',drawn:=d',toks:=t'}:=by
 have L:∀b o,X.s₀.heap.get? b=aa o->b≠X.env.locals:=λb o e=>bW (fF (bi e) I.ok.above)
 have B:∀b o,X.s₀.heap.get? b=aa o->b∉X.ex->b∉ch:=λb o e hx C=>by
  rcases(g b C).1 with z |z
  .exact hx z
  .exact absurd (fF (bi e) z) (gt _)
 have f:∀x c,X.env.cells.lookup x=aa c->∀v,s.heap.IsCell c v->h'.IsCell c v:=λx c e v q_=>by
  obtain⟨o,G,hd⟩:=q_;have j:c∉ch:=λz=>(g c z).2.2.1 x c e rfl
  by_cases N:c∈X.fs
  .obtain⟨sl,q⟩:=slot c o (I.cne x c e) N j G (I.freeC x c e);exact⟨_,q,hd⟩
  .exact⟨o,keep c o (I.cne x c e) N j G (I.freeC x c e),hd⟩
 refine⟨I.ok,I.os,Y,⟨λb o e n C hx=>?_,λb o e n C hx=>?_,λb o e n hx=>?_,λb o e hx=>?_,λb xs e=>tups b xs (I.base.tups b xs e),λb o xs e=>frzs b o xs (I.base.frzs b o xs e),λb ps e=>?_⟩,?_,λx c e=>?_,?_,λx c e=>?_,λp Q=>?_,hok,I.len⟩
 .exact keep b o (L b o e) C (B b o e hx) (I.base.keep b o e n C hx) (I.base.free b o e n hx)
 .obtain⟨sl,y⟩:=I.base.slot b o e n C hx;obtain⟨M,J⟩:=slot b _ (L b o e) C (B b o e hx) y (I.base.free b o e n hx);exact⟨M,J⟩
 .obtain⟨o',y⟩:=I.base.there b o e hx;exact free b o' (B b o e hx) y (I.base.free b o e n hx)
 .obtain⟨o',y⟩:=I.base.there b o e hx;exact there b o' (B b o e hx) y
 .obtain⟨m1,y⟩:=I.base.tbls b ps e;obtain⟨m2,J⟩:=tbls b _ y;exact⟨m1++m2,by rw[J,Array.append_assoc]⟩
 .obtain⟨m,hn,hl⟩:=I.loc;refine⟨m,ns m hn,λi x v y J U=>?_⟩;obtain⟨u,r,l⟩:=hl i x v y J U;refine⟨u,r,?_⟩
  rcases l with l |⟨k,c,e,z⟩
  .exact .inl l
  .exact .inr ⟨k,c,e,f x c e _ z⟩
 .obtain⟨v,z⟩:=I.cell x c e;exact⟨v,f x c e v z⟩
 .obtain⟨m,⟨o,_,_,G,_⟩,_⟩:=I.loc;exact free _ o (λz=>(g _ z).2.1 rfl) G I.free
 .obtain⟨v,o,G,hd⟩:=I.cell x c e;exact free c o (λz=>(g c z).2.2.1 x c e rfl) G (I.freeC x c e)
 .obtain⟨e,n,ne,T,d⟩:=I.pin p Q;have j:p.1∉ch:=λz=>(g p.1 z).2.2.2 p Q rfl;exact⟨keep p.1 p.2 ne T j e n,free p.1 p.2 j e n,ne,T,d⟩
def Inv.un{s:ai}(I:Inv X pins σ H s)(u:Un X.fs [] H H' s.heap h')(hok:HOk X.prog X.w H' h'):Inv X pins σ H' {s with heap:=h',toks:=t'}:=by
 obtain⟨m,⟨o,es,l,g,r⟩,_⟩:=id I.loc;obtain⟨sl,i⟩:=u.any g I.free (by simp)
 exact I.step (g':=s.gens) (d':=s.drawn) (ch:=[]) (λ_ z=>nomatch z) (λb o _ f _ e n=>u.keep b o e n f (by simp)) (λb o _ f _ e n=>u.slot b o e n f (by simp)) (λb o _ e n=>u.free b o e n (by simp)) (λb o _ e=>u.there b o e (by simp)) u.tups u.frzs u.tbls (λp hm=>by
  obtain⟨o',es',d,c,j⟩:=hm;rw[g]at c;cases c;exact⟨_,es',d,i,j⟩) hok I.bare
def Inv.call{s:ai}(I:Inv X pins σ H s)(u:Un (frs X.stack) ch H H' s.heap h')(hok:HOk X.prog X.w H' h')(y:k4 g')
 (f:∀b∈ch,(b∈X.ex\/X.s₀.heap.objs.size<=b)/\b≠X.env.locals/\(∀x c,X.env.cells.lookup x=aa c->c≠b)/\∀p∈X.pn++pins,p.1≠b):
  Inv X pins σ H' {s with heap:=h',gens:=g',drawn:=d',toks:=t'}:=by
 obtain⟨m,⟨o,es,C,l,r⟩,_⟩:=id I.loc;obtain⟨sl,j⟩:=u.any l I.free λz=>(f _ z).2.1 rfl
 exact I.step (ch:=ch) f (λb o j q d e n=>u.keep b o e n (λz=>(aQ.mp (I.stkSub b z)).elim j q) d) (λb o _ _ d e n=>u.any e n d) (λb o d e n=>u.free b o e n d) (λb o d e=>u.there b o e d) u.tups u.frzs u.tbls (λG hm=>by
  obtain⟨o',es',i,g,B⟩:=hm;rw[l]at g;cases g;exact⟨_,es',i,j,B⟩) hok y
variable{it:Addr}
def Inv.turned{s:ai}(I:Inv X pins σ H s)(k:∀b o,b≠it->s.heap.get? b=aa o->h'.get? b=aa o)(hn:H it=ac)(g:it≠X.env.locals)
 (h1:it∈X.ex\/X.s₀.heap.objs.size<=it)(h2:∀x c,X.env.cells.lookup x=aa c->c≠it)(j:∀p∈X.pn++pins,p.1≠it):Inv X pins σ H {s with heap:=h',toks:=t'}:=by
 have f:∀b u,H b=aa u->b≠it:=λb u e z=>by rw[z,hn]at e;cases e
 refine I.step (g':=s.gens) (d':=s.drawn) (ch:=[it]) (λb l=>?_) (λb o _ _ d e _=>k b o (λz=>d (by simp[z])) e) (λb o _ _ d e _=>⟨o.slots,k b o (λz=>d (by simp[z])) e⟩) (λ_ _ _ _ n=>n)
  (λb o d e=>⟨o,k b o (λz=>d (by simp[z])) e⟩) (λ_ _ e=>e) (λ_ _ _ e=>e) (λb ps e=>⟨#[],by rw[e];simp⟩) (λm hm=>?_) (λb u e=>?_) I.bare
 .have e:b=it:=by simpa using l
  subst e;exact⟨h1,g,h2,j⟩
 .obtain⟨o,es,i,y,r⟩:=hm;exact⟨o,es,i,k _ o (eZ g) y,r⟩
 .refine(I.hok b u e).stay (λc v d q=>k c v ?_ q) (λ_ q=>q) λ_ _ q=>q
  rcases d with z |z
  .rw[z];exact f b u e
  .exact f c _ z
def Inv.tok{s:ai}(I:Inv X pins σ H s)(t:Nat):Inv X pins σ H {s with toks:=t}:=I.un (h':=s.heap) (t':=t) Un.refl I.hok
def Inv.kept{s:ai}(I:Inv X pins σ H s)(k:∀b u,s.heap.get? b=aa u->h'.get? b=aa u):Inv X pins σ H {s with heap:=h',toks:=t'}:=I.un (Un.kept k) (I.hok.kept k)
def Inv.laid{s:ai}{o:HO}(I:Inv X pins σ H s)(k:∀b u,s.heap.get? b=aa u->h'.get? b=aa u)(c:s.heap.objs.size<=a)(new:cU X.prog X.w (upd H a o) h' a o):
  Inv X pins σ (upd H a o) {s with heap:=h',toks:=t'}:=I.un (Un.laid k c (I.hok.fresh c)) (I.hok.laid k c new)
def Inv.write{s:ai}{o:HO}(I:Inv X pins σ H s)(f:Mut (H x))(d:e=x\/H e=aa (.own x))(k:∀b u,b≠e->s.heap.get? b=aa u->h'.get? b=aa u)(c:∃u,h'.get? e=aa u)
 (new:cU X.prog X.w (upd H x o) h' x o):Inv X pins σ (upd H x o) {s with heap:=h',toks:=t'}:=I.un (Un.write f d k c) (I.hok.write f d k c new)
def Inv.pins_of{s:ai}{c:PNS}(I:Inv X pins σ H s)(h:∀p∈c,s.heap.get? p.1=aa p.2/\H p.1=ac/\p.1≠X.env.locals/\p.1∉X.fs/\∀v,p.2.data≠.cell v):Inv X c σ H s:=
 ⟨I.ok,I.os,I.bare,I.base,I.loc,I.cell,I.free,I.freeC,λp d=>(bT.mp d).elim (λz=>I.pin p (fD _ z)) (h p),I.hok,I.len⟩
variable{N:LSt}{i:Nat}{x:Str}
def B7(f:N.Nodup){j:Nat}(a:N[i]?=aa x)(b:N[j]?=aa x):i=j:=by
 obtain⟨h1,c⟩:=dq.mp a;obtain⟨h2,d⟩:=dq.mp b;exact(List.getElem_inj f).mp (c.trans d.symm)
variable{M:Model}{u:Value}{Q:Unit->ai->Prop}
def B8{s:ai}(I:Inv X pins σ H s)(hN:X.N.Nodup)(hi:X.N[i]?=aa x)(hx:Loc X.env.scope x)(r:aE v u)
 (h:∀s',Inv X pins (σ.set i (aa v)) H s'->(∃a,gy a s.heap s'.heap/\(a=X.env.locals\/X.env.cells.lookup x=aa a))->Q () s')(hf:LcF X x:=by first |exact .inl rfl |exact .inr rfl |assumption):wpAny M A (storeName X.env x u) Q E s:=by
 obtain⟨m,hn,hl⟩:=id I.loc;have hcls:(X.env.scope.kind==.class || (X.env.scope.kind==.module && X.env.locals != X.env.globals))=ae:=by rw[I.ok.kind];rfl
 have J:i<σ.length:=by rw[I.len];exact(dq.mp hi).1
 have cne:=I.cne
 have l:∀{a:Addr} {h':Heap},(∃o,s.heap.get? a=aa o/\H a=ac)->gy a s.heap h'->HOk X.prog X.w H h':=λ{a h'} ha f b ob e=>by
  obtain⟨_,_,C⟩:=ha;refine(I.hok b ob e).stay (λc w' B q=>(f.2 c ?_).trans q) (λ_ q=>q) λ_ _ q=>q;rintro rfl
  rcases B with rfl |B
  .rw[C]at e;cases e
  .rw[C]at B;cases B
 rcases hx with hk |hk
 .refine wpAny_storeName_local hk hn (λh' hn' f=>?_) hcls;obtain⟨oL,_,_,hoL,_⟩:=id hn;refine h _ ⟨I.ok,I.os,I.bare,⟨λb o e n L hx=>?_,λb o e n L hx=>?_,I.base.free,λb o e hx=>?_,I.base.tups,I.base.frzs,I.base.tbls⟩,⟨_,hn',λj y v' g G e3=>?_⟩,λy c e=>?_,I.free,I.freeC,λp hp=>?_,l ⟨oL,hoL,I.free⟩ f,by simpa using I.len⟩ ⟨_,f,.inl rfl⟩
  .exact(f.2 b (bW (fF (bi e) I.ok.above))).trans (I.base.keep b o e n L hx)
  .obtain⟨sl,g⟩:=I.base.slot b o e n L hx;exact⟨sl,(f.2 b (bW (fF (bi e) I.ok.above))).trans g⟩
  .obtain⟨o',g⟩:=I.base.there b o e hx;exact⟨o',(f.2 b (bW (fF (bi e) I.ok.above))).trans g⟩
  .by_cases U:j=i
   .subst U;rw[hi]at g;cases g;rw[jR J]at G;cases G;exact⟨u,r,.inl ⟨hk,by simp⟩⟩
   .rw[kH (eZ U)]at G;obtain⟨u',r',q⟩:=hl j y v' g G e3;refine⟨u',r',?_⟩
    rcases q with⟨k,e⟩ |⟨k,c,e,z⟩
    .refine .inl ⟨k,?_⟩;have:y≠x:=λe=>U (B7 hN g (e▸hi));simp[this,e]
    .exact .inr ⟨k,c,e,z.sameBut f (cne y c e)⟩
  .obtain⟨w',z⟩:=I.cell y c e;exact⟨w',z.sameBut f (cne y c e)⟩
  .obtain⟨e,n,ne,nf,d⟩:=I.pin p hp;exact⟨(f.2 p.1 ne).trans e,n,ne,nf,d⟩
 .have T:X.fn x=ab:=by
   rcases hf with z |z
   .exact z
   .rw[z]at hk;cases hk
  obtain⟨c,B⟩:=I.ok.has x (.inl hk);obtain⟨w',z⟩:=I.cell x c B;refine wpAny_storeName_cell I.ok.kind hk B z (λh' Y f=>?_);obtain⟨oc,hoc,hocd⟩:=id z
  refine h {s with heap:=h'} ⟨I.ok,I.os,I.bare,⟨λb o e n L hx=>?_,λb o e n L hx=>?_,I.base.free,λb o e hx=>?_,I.base.tups,I.base.frzs,I.base.tbls⟩,⟨m,hn.sameBut f (eZ (cne x c B)),λj y v' g G e3=>?_⟩,λy c' e=>?_,I.free,I.freeC,λp hp=>?_,l ⟨oc,hoc,I.freeC x c B⟩ f,by simpa using I.len⟩ ⟨c,f,.inr B⟩
  .exact(f.2 b (bW (fF (bi e) (I.ok.cab x c T B)))).trans (I.base.keep b o e n L hx)
  .obtain⟨sl,g⟩:=I.base.slot b o e n L hx;exact⟨sl,(f.2 b (bW (fF (bi e) (I.ok.cab x c T B)))).trans g⟩
  .obtain⟨o',g⟩:=I.base.there b o e hx;exact⟨o',(f.2 b (bW (fF (bi e) (I.ok.cab x c T B)))).trans g⟩
  .by_cases U:j=i
   .subst U;rw[hi]at g;cases g;rw[jR J]at G;cases G;exact⟨u,r,.inr ⟨.inl hk,c,B,Y⟩⟩
   .rw[kH (eZ U)]at G;obtain⟨u',r',q⟩:=hl j y v' g G e3;refine⟨u',r',?_⟩
    rcases q with q |⟨k,c',e,z'⟩
    .exact .inl q
    .refine .inr ⟨k,c',e,z'.sameBut f ?_⟩;rintro rfl;exact U (B7 hN g (I.ok.inj _ _ _ e B▸hi))
  .by_cases hcc:c'=c
   .subst hcc;exact⟨_,Y⟩
   .obtain⟨w2,z2⟩:=I.cell y c' e;exact⟨w2,z2.sameBut f hcc⟩
  .obtain⟨e,n,ne,nf,d⟩:=I.pin p hp;refine⟨(f.2 p.1 ?_).trans e,n,ne,nf,d⟩;intro q;rw[q,hoc]at e;have q':oc=p.2:=cN e;exact d w' (by rw[<- q'];exact hocd)
def wP{s:ai}(I:Inv X pins σ H s)(d:X.N.Nodup)(hi:X.N[i]?=aa x)(hx:Loc X.env.scope x)(r:aE v u)
 (h:∀s',Inv X pins (σ.set i (aa v)) H s'->Q () s')(f:LcF X x:=by first |exact .inl rfl |exact .inr rfl |assumption):wpAny M A (storeName X.env x u) Q E s:=
 B8 I d hi hx r (λs' c _=>h s' c) f
variable{s':ai}
def Inv.call'{s:ai}(I:Inv X pins σ H s)(g:s'.os=s.os)(u:Un (frs X.stack) ch H H' s.heap s'.heap)(hok:HOk X.prog X.w H' s'.heap)(f:k4 s'.gens)
 (d:∀b∈ch,(b∈X.ex\/X.s₀.heap.objs.size<=b)/\b≠X.env.locals/\(∀x c,X.env.cells.lookup x=aa c->c≠b)/\∀p∈X.pn++pins,p.1≠b):Inv X pins σ H' s':=by
 obtain⟨h',g',d',t',o'⟩:=s';have e:o'=s.os:=g;subst e;exact I.call (g':=g') (t':=t') (d':=d') u hok f d
@[reducible]noncomputable def XK:=Value->Option Addr->Hp->Prop
@[reducible]noncomputable def St:=List (Option V)
@[reducible]noncomputable def VK:=V->Hp->Prop
@[reducible]noncomputable def TE:=St->Hp->VK->Prop
@[reducible]noncomputable def TT:=St->Hp->(Bool->Hp->Prop)->Prop
@[reducible]noncomputable def TA:=St->Hp->(List V->Hp->Prop)->Prop
structure j6 where
 nx:St->Hp->Prop
 rt:VK
 bk:St->Hp->Prop:=λ_ _=>False
 ct:St->Hp->Prop:=λ_ _=>False
@[reducible]noncomputable def TS:=j6->St->Hp->Prop
abbrev EP(X:Cx)(pins:PNS)(σ:St)(Q:VK)(u:Value)(s':ai):Prop:=∃v H',Inv X pins σ H' s'/\aE v u/\Q v H'
abbrev TP(X:Cx)(pins:PNS)(σ:St)(Q:Bool->Hp->Prop)(b:Bool)(s':ai):Prop:=∃H',Inv X pins σ H' s'/\Q b H'
abbrev AP(X:Cx)(pins:PNS)(σ:St)(Q:List V->Hp->Prop)(us:LVa)(s':ai):Prop:=∃vs H',Inv X pins σ H' s'/\aC vs us/\Q vs H'
abbrev SP(X:Cx)(pins:PNS)(D:j6)(f:Flow)(s':ai):Prop:=
 match f with
 |.next=>∃c H',Inv X pins c H' s'/\D.nx c H'
 |.brk=>∃c H',Inv X pins c H' s'/\D.bk c H'
 |.cont=>∃c H',Inv X pins c H' s'/\D.ct c H'
 |.ret u=>∃v c H',Inv X pins c H' s'/\aE v u/\D.rt v H'
abbrev PE(X:Cx)(e:Expr)(t:TE):Prop:=
 ∀(pins:PNS) (s:ai) (σ:St) (H:Hp) (Q:VK),Inv X pins σ H s->t σ H Q->wpAny (model X.prog X.w) X.A (eval e X.env) (EP X pins σ Q) X.xe s
abbrev PT(X:Cx)(e:Expr)(t:TT):Prop:=
 ∀(pins:PNS) (s:ai) (σ:St) (H:Hp) (Q:Bool->Hp->Prop),Inv X pins σ H s->t σ H Q->wpAny (model X.prog X.w) X.A (isTrue e X.env (eval e X.env)) (TP X pins σ Q) X.xe s
abbrev PW(X:Cx)(e:Expr)(t:TT):Prop:=
 ∀(c:Sem Value) (pins:PNS) (s:ai) (σ:St) (H:Hp) (Q:Bool->Hp->Prop),Inv X pins σ H s->t σ H Q->wpAny (model X.prog X.w) X.A (isTrue e X.env c) (TP X pins σ Q) X.xe s
variable{e:Expr}
def PW.pt{t:TT}(h:PW X e t):PT X e t:=h _
abbrev PA(X:Cx)(es:LEx)(t:TA):Prop:=
 ∀(pos:Pos) (pins:PNS) (s:ai) (σ:St) (H:Hp) (Q:List V->Hp->Prop),Inv X pins σ H s->t σ H Q->wpAny (model X.prog X.w) X.A (spliced (cr pos (aO es X.env))) (AP X pins σ Q) X.xe s
abbrev PS(X:Cx)(st:Stmt)(t:TS):Prop:=
 ∀(pins:PNS) (s:ai) (σ:St) (H:Hp) (D:j6),Inv X pins σ H s->t D σ H->wpAny (model X.prog X.w) X.A (exec st X.env) (SP X pins D) X.xe s
abbrev PSs(X:Cx)(st:List Stmt)(t:TS):Prop:=
 ∀(pins:PNS) (s:ai) (σ:St) (H:Hp) (D:j6),Inv X pins σ H s->t D σ H->wpAny (model X.prog X.w) X.A (execs st X.env) (SP X pins D) X.xe s
def thn{d:Type}{t:Sem d}{Q c:d->ai->Prop}{s:ai}(h:wpAny M A t Q E s)(f:∀a s,Q a s->c a s):wpAny M A t c E s:=f8 h f λ_ _ x=>x
abbrev di(i:Nat):TE:=λσ H Q=>∃v,σ[i]?=aa (aa v)/\Q v H
abbrev tC(v:V):TE:=λ_ H Q=>Q v H
variable{pos:Pos}
def nv(n:X.N[i]?=aa x)(hv:Vis X.env.scope x)(hd:NDb x:=by decide)(g:NCd x:=by decide):PE X (.Name x pos) (di i):=by
 intro pins s σ H Q I h;obtain⟨v,e,h⟩:=h;obtain⟨m,hn,p⟩:=I.loc;obtain⟨u,r,l⟩:=p i x v n e hv;have fin:EP X pins σ Q u s:=⟨v,H,I,r,h⟩
 rcases l with⟨f,hm⟩ |⟨f,c,j,d⟩
 .exact wpAny_Name (wpAny_loadName_local I.ok.kind f hn hm fin) hd
 .rcases f with f |f
  .exact wpAny_Name (wpAny_loadName_cell I.ok.kind f j d fin) hd
  .exact wpAny_Name (wpAny_loadName_free I.ok.kind f j d fin g) hd
def B9{i j pos}:PE X (.Constant (.int i) j pos) (tC (.int i)):=λ_ _ _ H _ I h=>wpAny_Constant_int ⟨.int i,H,I.tok _,⟨_,rfl⟩,h⟩
def Ht{b j pos}:PE X (.Constant (.bool b) j pos) (tC (.bl b)):=λ_ _ _ H _ I h=>Constant_bool ⟨.bl b,H,I,rfl,h⟩
def Hu{j pos}:PE X (.Constant .none j pos) (tC .non):=λ_ _ _ H _ I h=>Constant_none ⟨.non,H,I,rfl,h⟩
def Hv{x j pos}:PE X (.Constant (.str x) j pos) (tC (.str x)):=λ_ _ _ H _ I h=>Calls.Constant_str ⟨.str x,H,I.tok _,⟨_,rfl⟩,h⟩
abbrev Gl(X:Cx)(x:Str):Prop:=X.env.kindOf x=aa .globalImplicit
variable{σ:St}
def Ca{s:ai}{Q:PRS}(I:Inv X pins σ H s)(c:Gl X x)(hm:X.mg x=aa u)(h:Q u s)
 (hd:NDb x:=by decide):wpAny (model X.prog X.w) X.A (eval (.Name x pos) X.env) Q E s:=
 Calls.Name_function_global I.ok.kind c (Calls.loadGlobal_global (by rw[I.ok.glob];exact I.mod.glob.keeps I.bk) hm h) hd
def jl{s:ai}{Q:PRS}(I:Inv X pins σ H s)(c:Gl X x)(hm:X.mg x=ac)(hv:jf x=aa u)(h:Q u s)
 (hn:x ≠ "__name__":=by decide)(hd:NDb x:=by decide):wpAny (model X.prog X.w) X.A (eval (.Name x pos) X.env) Q E s:=by
 obtain⟨mb,h1,h2⟩:=I.mod.blt;exact Calls.Name_function_global I.ok.kind c (Calls.loadGlobal_builtin (by rw[I.ok.glob];exact I.mod.glob.keeps I.bk) hm (by rw[I.ok.blt];exact h1.keeps I.bk) ((h2 x hn).trans hv) h) hd
def Hw(c:Gl X x)(hm:X.mg x=ac)(hv:jf x=aa u)(r:aE v u)(hn:x ≠ "__name__":=by decide)(hd:NDb x:=by decide):PE X (.Name x pos) (tC v):=
 λ_ _ _ H _ I h=>jl I c hm hv ⟨v,H,I,r,h⟩ hn hd
abbrev t2I(c d:TE)(k:Int->Int->Hp->Prop):St->Hp->Prop:=λσ H=>c σ H λx H1=>d σ H1 λy H2=>∃i j,x=.int i/\y=.int j/\k i j H2
abbrev gf(c d:TE):TE:=λσ H Q=>t2I c d (λi j H2=>Q (.int (i+j)) H2) σ H
abbrev PC(X:Cx)(op:CmpOp)(a b:Expr)(t:TE):Prop:=
 ∀(pins:PNS) (s:ai) (σ:St) (H:Hp) (Q:VK),Inv X pins σ H s->t σ H Q ->
  wpAny (model X.prog X.w) X.A (eval a X.env) (λv c=>wpAny (model X.prog X.w) X.A (eval b X.env) (λu d=>wpAny (model X.prog X.w) X.A (cC op v u) (EP X pins σ Q) X.xe d) X.xe c) X.xe s
variable{a b:Expr}
def Hx{op:CmpOp}{t:TE}(h:PC X op a b t)(h1:lX op b=ae:=by first |exact nobehind _ (by decide) (by decide) |rfl):PE X (.Compare a [op] [b] pos) t:=λpins s σ H Q I c=>wpAny_Compare1 (h pins s σ H Q I c) h1
abbrev Hy(t u:TT):TT:=λσ H Q=>t σ H λc H1=>if c=ab then u σ H1 Q else Q ae H1
abbrev tOr(t u:TT):TT:=λσ H Q=>t σ H λc H1=>if c=ab then Q ab H1 else u σ H1 Q
abbrev Hz(t:TT):TT:=λσ H Q=>t σ H λc H1=>Q (!c) H1
variable{tA:TT}
def HA(ha:PT X a tA):PW X (.BoolOp .And [a] pos) tA:=by
 intro d pins s σ H Q I h;refine isTrue_and (thn (ha pins s σ H Q I h) λc s1 e=>?_)
 cases c with
 |true=>exact isTrue_and_nil e
 |false=>exact e
def HB(ha:PT X a tA):PW X (.BoolOp .Or [a] pos) tA:=by
 intro d pins s σ H Q I h;refine isTrue_or (thn (ha pins s σ H Q I h) λc s1 e=>?_)
 cases c with
 |false=>exact isTrue_or_nil e
 |true=>exact e
variable{tB':TT}
def HC{rest:LEx}(ha:PT X a tA)(g:PW X (.BoolOp .And (b::rest) pos) tB'):PW X (.BoolOp .And (a::b::rest) pos) (Hy tA tB'):=by
 intro l pins s σ H Q I h;refine isTrue_and (thn (ha pins s σ H _ I h) λc s1 j=>?_);obtain⟨H1,d,f⟩:=j
 cases c with
 |true=>exact g l pins s1 σ H1 Q d f
 |false=>exact⟨H1,d,f⟩
def HD{rest:LEx}(ha:PT X a tA)(g:PW X (.BoolOp .Or (b::rest) pos) tB'):PW X (.BoolOp .Or (a::b::rest) pos) (tOr tA tB'):=by
 intro l pins s σ H Q I h;refine isTrue_or (thn (ha pins s σ H _ I h) λc s1 j=>?_);obtain⟨H1,d,f⟩:=j
 cases c with
 |true=>exact⟨H1,d,f⟩
 |false=>exact g l pins s1 σ H1 Q d f
def HE(ha:PT X a tA):PT X (.UnaryOp .Not a pos) (Hz tA):=by
 intro pins s σ H Q I h;exact isTrue_not (ha pins s σ H (λc H1=>Q (!c) H1) I h)
abbrev HF(d f:TE):TE:=λσ H Q=>d σ H λx H1=>∃c,x=.bl c/\if c=ab then f σ H1 Q else Q (.bl ae) H1
abbrev HG(d f:TE):TE:=λσ H Q=>d σ H λx H1=>∃c,x=.bl c/\if c=ab then Q (.bl ab) H1 else f σ H1 Q
abbrev HH(d:TE):TE:=λσ H Q=>d σ H λx H1=>∃c,x=.bl c/\Q (.bl (!c)) H1
def HI{op}{t:TE}(h:PE X a t):PE X (.BoolOp op [a] pos) t:=λpins s σ H Q I c=>BoolOp_one (h pins s σ H Q I c)
variable{ta tb:TE}
def HJ{rest:LEx}(ha:PE X a ta)(g:PE X (.BoolOp .And (b::rest) pos) tb):PE X (.BoolOp .And (a::b::rest) pos) (HF ta tb):=by
 intro pins s σ H Q I h;refine BoolOp_and (thn (ha pins s σ H _ I h) λv s1 j=>?_);obtain⟨x,H1,f,l,d⟩:=j;obtain⟨c,rfl,d⟩:=d;cases l;refine lW ?_
 cases c with
 |true=>exact g pins s1 σ H1 Q f d
 |false=>exact⟨.bl ae,H1,f,rfl,d⟩
def HK{rest:LEx}(ha:PE X a ta)(g:PE X (.BoolOp .Or (b::rest) pos) tb):PE X (.BoolOp .Or (a::b::rest) pos) (HG ta tb):=by
 intro pins s σ H Q I h;refine BoolOp_or (thn (ha pins s σ H _ I h) λv s1 j=>?_);obtain⟨x,H1,f,l,d⟩:=j;obtain⟨c,rfl,d⟩:=d;cases l;refine lW ?_
 cases c with
 |false=>exact g pins s1 σ H1 Q f d
 |true=>exact⟨.bl ab,H1,f,rfl,d⟩
def HL(ha:PE X a ta):PE X (.UnaryOp .Not a pos) (HH ta):=by
 intro pins s σ H Q I h;refine UnaryOp_ (thn (ha pins s σ H _ I h) λv s1 g=>?_);obtain⟨x,H1,f,j,d⟩:=g;obtain⟨c,rfl,d⟩:=d;cases j;exact not_of (lW ⟨.bl (!c),H1,f,rfl,d⟩)
abbrev tIf(t:TT)(ta tb:TE):TE:=λσ H Q=>t σ H λc H1=>if c=ab then ta σ H1 Q else tb σ H1 Q
variable{c:Expr}
def Cb(l:PT X c tA)(ha:PE X a ta)(j:PE X b tb):PE X (.IfExp c a b pos) (tIf tA ta tb):=by
 intro pins s σ H Q I h;refine wpAny_IfExp (thn (l pins s σ H _ I h) λd s1 m=>?_);obtain⟨H1,f,g⟩:=m
 cases d with
 |true=>exact ha pins s1 σ H1 Q f g
 |false=>exact j pins s1 σ H1 Q f g
abbrev SqL(K:aV)(H:Hp)(a:Addr)(xs:List V):Prop:=
 Rd H a (.lst xs) \/
  ∃(o:Obj) (its:Array Value) (n:Nat),K.lookup a=aa o/\o.cls=.type "list" /\ o.dict=ac/\o.data=.seq its n/\its.size<=aR/\aC xs its.toList
abbrev SqT(K:aV)(H:Hp)(a:Addr)(xs:List V):Prop:=
 Rd H a (.tup xs) \/
  ∃(o:Obj) (its:Array Value) (n:Nat),K.lookup a=aa o/\o.cls=.type "tuple" /\ o.data=.seq its n/\its.size<=aR/\aC xs its.toList
abbrev HM:Value->Option V
 |.none=>aa .non
 |.bool b=>aa (.bl b)
 |.int i _=>aa (.int i)
 |.str x _=>aa (.str x)
 |.bytes b _=>aa (.byt b)
 |.float b _=>aa (.flt b)
 |.ref a=>aa (.ref a)
 |.type n=>aa (.ty n)
 | _=>ac
def aE.abs{x:V}(r:aE x u):HM u=aa x:=by
 cases x with
 |non=>cases r;rfl
 |bl _=>cases r;rfl
 |int _=>obtain⟨t,rfl⟩:=r;rfl
 |str _=>obtain⟨t,rfl⟩:=r;rfl
 |byt _=>obtain⟨t,rfl⟩:=r;rfl
 |flt _=>obtain⟨t,rfl⟩:=r;rfl
 |ref _=>cases r;rfl
 |ty _=>cases r;rfl
variable{y:V}
def aE.inj{x:V}(r:aE x u)(q:aE y u):x=y:=cN (r.abs.symm.trans q.abs)
def aC.inj:∀{xs ys:List V} {us:LVa},aC xs us->aC ys us->xs=ys
 | _,_,_,.nil,.nil=>rfl
 | _,_,_,.cons r t,.cons r' t'=>by rw[r.inj r',aC.inj t t']
variable{a:Addr}{K:aV}
def SqL.of(h:H a=aa (.lst xs)):SqL K H a xs:=.inl (.inl h)
def SqT.of(h:H a=aa (.tup xs)):SqT K H a xs:=.inl (.inl h)
def Inv.list{s:ai}(I:Inv X pins σ H s)(h:SqL X.K H a xs):∃its:LVa,aC xs its/\PlainL s.heap a its.toArray/\xs.length<=aR:=by
 rcases h with h |⟨o,its,n,hk,hc,hd,hs,hz,r⟩
 .obtain⟨z,its,n,r,e⟩:=h.ok I.hok;exact⟨its,r,⟨_,n,e,rfl,rfl,rfl⟩,z⟩
 .refine⟨its.toList,r,⟨o,n,I.kIn a o hk,hc,hd,by simpa using hs⟩,?_⟩;have e:=r.length;simp only[iH]at e;lia
def Inv.tuple{s:ai}(I:Inv X pins σ H s)(h:SqT X.K H a xs):∃its:LVa,aC xs its/\IsTup s.heap a its.toArray/\xs.length<=aR:=by
 rcases h with h |⟨o,its,n,hk,hc,hs,hz,r⟩
 .obtain⟨z,its,r,p⟩:=h.ok I.hok;exact⟨its,r,p,z⟩
 .refine⟨its.toList,r,⟨o,I.kIn a o hk,hc,n,by simpa using hs⟩,?_⟩;have e:=r.length;simp only[iH]at e;lia
variable{ys:List V}
def Inv.list_inj{s:ai}(I:Inv X pins σ H s)(h:SqL X.K H a xs)(h':SqL X.K H a ys):xs=ys:=by
 obtain⟨its,r,⟨o,n,e,_,_,d⟩,_⟩:=I.list h;obtain⟨its',g,⟨o',j,f,_,_,d'⟩,_⟩:=I.list h';rw[e]at f;cases f;rw[d]at d'
 injection d' with d1 _
 have:its=its':=by simpa using congrArg Array.toList d1
 subst this;exact r.inj g
def Inv.tuple_inj{s:ai}(I:Inv X pins σ H s)(h:SqT X.K H a xs)(h':SqT X.K H a ys):xs=ys:=by
 obtain⟨its,r,⟨o,e,_,n,d⟩,_⟩:=I.tuple h;obtain⟨its',g,⟨o',f,_,j,d'⟩,_⟩:=I.tuple h';rw[e]at f;cases f;rw[d]at d'
 injection d' with d1 _
 have:its=its':=by simpa using congrArg Array.toList d1
 subst this;exact r.inj g
@[reducible]noncomputable def Cx.wish(X:Cx)(E:PRS):Cx:={X with xe:=E}
@[reducible]noncomputable def Cx.nox(X:Cx):Cx:=X.wish λ_ _=>False
def Cx.Ok.wish(ok:X.Ok)(E:PRS):(X.wish E).Ok:=
 ⟨ok.mod,ok.kind,ok.glob,ok.blt,ok.above,ok.inj,ok.has,ok.cab,ok.hd,ok.frames,ok.stk,ok.exf,ok.bs,ok.bsz,ok.noex,ok.exfs,ok.funs,ok.frf⟩
def Cx.Ok.unwish(ok:(X.wish E).Ok):X.Ok:=
 ⟨ok.mod,ok.kind,ok.glob,ok.blt,ok.above,ok.inj,ok.has,ok.cab,ok.hd,ok.frames,ok.stk,ok.exf,ok.bs,ok.bsz,ok.noex,ok.exfs,ok.funs,ok.frf⟩
def Inv.wish{s:ai}(I:Inv X pins σ H s)(E:PRS):Inv (X.wish E) pins σ H s:=⟨I.ok.wish E,I.os,I.bare,I.base,I.loc,I.cell,I.free,I.freeC,I.pin,I.hok,I.len⟩
def Inv.unwish{s:ai}(I:Inv (X.wish E) pins σ H s):Inv X pins σ H s:=⟨I.ok.unwish,I.os,I.bare,I.base,I.loc,I.cell,I.free,I.freeC,I.pin,I.hok,I.len⟩
def SP.unwish{D:j6}{f:Flow}(h:SP (X.wish E) pins D f s'):SP X pins D f s':=by
 cases f with
 |next=>obtain⟨d,H',I,q⟩:=h;exact⟨d,H',I.unwish,q⟩
 |brk=>obtain⟨d,H',I,q⟩:=h;exact⟨d,H',I.unwish,q⟩
 |cont=>obtain⟨d,H',I,q⟩:=h;exact⟨d,H',I.unwish,q⟩
 |ret u=>obtain⟨v,d,H',I,r,q⟩:=h;exact⟨v,d,H',I.unwish,r,q⟩
def PSs.nox{st:List Stmt}{t:TS}(h:PSs X.nox st t):PSs X st t:=λpins s σ H D I d=>
 f8 (h pins s σ H D (I.wish _) d) (λ_ _ q=>q.unwish) λ_ _ z=>ij z
abbrev HN:TS:=λD σ H=>D.nx σ H
abbrev HP(t u:TS):TS:=λD σ H=>t {D with nx:=u D} σ H
def Cc:PSs X [] HN:=λ_ _ σ H _ I h=>sK ⟨σ,H,I,h⟩
variable{st:Stmt}{u:TS}
def sW{rest:List Stmt}{t:TS}(h1:PS X st t)(h2:PSs X rest u):PSs X (st::rest) (HP t u):=by
 intro pins s σ H D I h
 refine wpAny_execs_cons (thn (h1 pins s σ H {D with nx:=u D} I h) λf s1 q=>?_)
 cases f with
 |next=>
  obtain⟨d,H',g,q⟩:=q
  exact h2 pins s1 d H' D g q
 |ret v=>exact q
 |brk=>exact q
 |cont=>exact q
def Cd{t:TS}(h1:PS X st t):PSs X [st] t:=by
 intro pins s σ H D I h;refine wpAny_execs_cons (thn (h1 pins s σ H D I h) λf s1 q=>?_)
 cases f with
 |next=>exact sK q
 |ret v=>exact q
 |brk=>exact q
 |cont=>exact q
def Inv.quiet{s:ai}(I:Inv X pins σ H s):interactive X.env=ae:=by simp[interactive,I.ok.kind]
abbrev nz(te:TE):TS:=λD σ H=>te σ H λ_ H1=>D.nx σ H1
variable{te:TE}
def fL(f:PE X e te)(g:gx e ac pos.line X.env=pure ae:=by rfl):PS X (.Expr e pos) (nz te):=by
 intro pins s σ H D I h;exact wpAny_Expr_any (thn (f pins s σ H _ I h) λv s1 ⟨x,H1,d,l,j⟩=>⟨σ,H1,d,j⟩) I.quiet g
abbrev HQ(te:TE):TS:=λD σ H=>te σ H D.rt
def sX(f:PE X e te):PS X (.Return (aa e) pos) (HQ te):=by
 intro pins s σ H D I h;exact wpAny_Return_some (thn (f pins s σ H _ I h) λv s1 ⟨x,H1,d,j,g⟩=>⟨x,σ,H1,d,j,g⟩)
abbrev HR(c:TT)(t u:TS):TS:=λD σ H=>c σ H λb H1=>if b=ab then t D σ H1 else u D σ H1
variable{tc:TT}
def HS{t:TS}{a b:List Stmt}(l:PT X c tc)(ha:PSs X a t)(j:PSs X b u):PS X (.If c a b pos) (HR tc t u):=by
 intro pins s σ H D I h;refine wpAny_If (thn (l pins s σ H _ I h) λd s1 m=>?_);obtain⟨H1,f,g⟩:=m
 cases d with
 |true=>exact ha pins s1 σ H1 D f g
 |false=>exact j pins s1 σ H1 D f g
@[reducible]noncomputable def TG:=V->St->Hp->(St->Hp->Prop)->Prop
@[reducible]noncomputable def TGs:=List V->St->Hp->(St->Hp->Prop)->Prop
abbrev PG(X:Cx)(d:Expr)(t:TG):Prop:=
 ∀(pins:PNS) (s:ai) (σ:St) (H:Hp) (v:V) (u:Value) (Q:St->Hp->Prop),Inv X pins σ H s->aE v u->t v σ H Q ->
  wpAny (model X.prog X.w) X.A (iJ d X.env u) (λ_ s'=>∃f H',Inv X pins f H' s'/\Q f H') X.xe s
abbrev PGs(X:Cx)(ts:LEx)(t:TGs):Prop:=
 ∀(pins:PNS) (s:ai) (σ:St) (H:Hp) (vs:List V) (us:LVa) (Q:St->Hp->Prop),Inv X pins σ H s->aC vs us->t vs σ H Q ->
  wpAny (model X.prog X.w) X.A (assignInOrder ((jg ts X.env).map (·.2)) us) (λ_ s'=>∃d H',Inv X pins d H' s'/\Q d H') X.xe s
@[reducible]noncomputable def wQ:=V->V->V->Hp->(Hp->Prop)->Prop
abbrev Ce(X:Cx)(t:wQ):Prop:=
 ∀(pins:PNS) (s:ai) (σ:St) (H:Hp) (o i v:V) (f d u:Value) (Q:Hp->Prop),Inv X pins σ H s->aE o f->aE i d->aE v u->t o i v H Q ->
  wpAny (model X.prog X.w) X.A (setItem f d u) (λ_ s'=>∃H',Inv X pins σ H' s'/\Q H') X.xe s
@[reducible]noncomputable def TIp:=V->V->Hp->VK->Prop
abbrev PIp(X:Cx)(op:Operator)(t:TIp):Prop:=
 ∀(pins:PNS) (s:ai) (σ:St) (H:Hp) (x y:V) (v u:Value) (Q:VK),Inv X pins σ H s->aE x v->aE y u->t x y H Q ->
  wpAny (model X.prog X.w) X.A (inplaceOp op v u) (EP X pins σ Q) X.xe s
abbrev gX(i:Nat):TG:=λv σ H Q=>Q (σ.set i (aa v)) H
def wR(f:X.N.Nodup)(hi:X.N[i]?=aa x)(hx:Loc X.env.scope x)(g:LcF X x:=by first |exact .inl rfl |exact .inr rfl |assumption):PG X (.Name x pos) (gX i):=by
 intro pins s σ H v u Q I r h;exact wpAny_assign_Name (wP I f hi hx r (λs' d=>⟨_,H,d,h⟩) g)
abbrev HU:TGs:=λvs σ H Q=>vs=[]/\Q σ H
abbrev HV(t:TG)(u:TGs):TGs:=λvs σ H Q=>∃v r,vs=v::r/\t v σ H λd H'=>u r d H' Q
def HW:PGs X [] HU:=by
 intro pins s σ H vs us Q I r h;obtain⟨e,h⟩:=h;subst e;cases r;exact assignInOrder_nil ⟨σ,H,I,h⟩
variable{es:LEx}
def HX{t:TG}{u:TGs}(h1:PG X e t)(h2:PGs X es u)
 (j:(jg (e::es) X.env).map (·.2)=iJ e X.env::(jg es X.env).map (·.2):=by rfl):PGs X (e::es) (HV t u):=by
 intro pins s σ H vs us Q I r h;obtain⟨v,p,g,h⟩:=h;subst g
 cases r with
 |cons r n=>
  rw[j];refine assignInOrder_cons (thn (h1 pins s σ H _ _ _ I r h) λ_ s1 m=>?_);obtain⟨d,H1,f,l⟩:=m;exact h2 pins s1 d H1 _ _ Q f n l
abbrev HY(K:aV)(n:Nat)(t:TGs):TG:=λv σ H Q=>∃a xs,v=.ref a/\SqT K H a xs/\xs.length=n/\t xs σ H Q
def HZ{k:Nat}{t:TGs}{n:Nat}(m:X.calm=ab)(h:PGs X es t)
 (hn:(jg es X.env).length=n:=by rfl)(d:(jg es X.env).findIdx? (·.1)=ac:=by rfl):PG X (.Tuple es k pos) (HY X.K n t):=by
 intro pins s σ H v u Q I r f;obtain⟨a,xs,l,q,p,f⟩:=f;subst l;cases r;obtain⟨its,g,z,hz⟩:=I.tuple q;refine assign_Tuple_tuple (I.ok.hd m) z (by simp[hn,<- p,g.length]) d λh' hx=>?_
 have j:Inv X pins σ H {s with heap:=h'}:=I.kept (t':=s.toks) λb o e=>hx b o (bW (bi e)) e
 exact h pins _ σ H xs _ Q j (by simpa using g) f
abbrev wS(to f:TE)(t:wQ):TG:=λv σ H Q=>to σ H λo H1=>f σ H1 λi H2=>t o i v H2 λd=>Q σ d
def Cf{o i:Expr}{to j:TE}{t:wQ}(q:PE X o to)(hi:PE X i j)(z:Ce X t)
 (ha:∀ v,iJ (.Subscript o i pos) X.env v=(do
   let d <- fG [v] (eval o X.env)
   let f <- fG [v,d] (eval i X.env)
   iI pos
   fG [v,d,f] (setItem d f v)
   release [v,d,f] []):=by intro _;rfl):PG X (.Subscript o i pos) (wS to j t):=by
 intro pins s σ H v u Q I r h;rw[ha];refine am (jV (thn (q pins s σ H _ I h) λd s1 g=>?_));obtain⟨x,H1,m,J,B⟩:=g;refine am (jV (thn (hi pins s1 σ H1 _ m B) λf s2 g=>?_));obtain⟨y,H2,n,L,C⟩:=g;refine am (wpAny_standAt (am (jV (thn (z pins s2 σ H2 x y v d f u _ n J L r C) λ_ T g=>?_))));obtain⟨l,p,G⟩:=g;exact wpAny_release ⟨σ,l,p,G⟩
abbrev iP(te:TE)(g:TG):TS:=λD σ H=>te σ H λx H1=>g x σ H1 D.nx
variable{tg:Expr}{g:TG}
def Cg(f:PE X e te)(j:PG X tg g)(l:swapsWithSole [tg] e pos.line X.env=pure ae:=by rfl)(m:swappedStores [tg] e X.env=pure ac:=by rfl)
 (h1:(jg [tg] X.env).map (·.2)=[iJ tg X.env]:=by rfl):PS X (.Assign [tg] e pos) (iP te g):=by
 intro pins s σ H D I h;refine wpAny_Assign_stores (thn (f pins s σ H _ I h) λv s1 p=>?_) l m;obtain⟨x,H1,d,r,n⟩:=p;rw[h1];exact thn (j pins s1 σ H1 x v _ d r n) λ_ s2 q=>q
variable{eH:Pos}
def nA(j:X.N.Nodup)(hi:X.N[i]?=aa x)(hx:Loc X.env.scope x)(l:PE X e te)(n:gx e (aa (.Name x eH)) pos.line X.env=pure ae:=by rfl)(m:LcF X x:=by first |exact .inl rfl |exact .inr rfl |assumption):
  PS X (.Assign [.Name x eH] e pos) (iP te (gX i)):=by
 intro pins s σ H D I h;refine wpAny_Assign_Name (thn (l pins s σ H _ I h) λv s1 q=>?_) n;obtain⟨y,H1,d,r,p⟩:=q;exact wP d j hi hx r (λs2 f=>⟨_,H1,f,p⟩) m
abbrev H9(i:Nat)(te:TE)(d:TIp):TS:=λD σ H=>∃x,σ[i]?=aa (aa x)/\te σ H λy H1=>d x y H1 λz H2=>D.nx (σ.set i (aa z)) H2
variable{op:Operator}
def Ia{B:TIp}(T:X.N.Nodup)(hi:X.N[i]?=aa x)(hx:Loc X.env.scope x)(Y:PE X e te)(ho:PIp X op B)(hf:LcF X x:=by first |exact .inl rfl |exact .inr rfl |assumption):
  PS X (.AugAssign (.Name x eH) op e pos) (H9 i te B):=by
 intro pins s σ H D I h;obtain⟨v,L,h⟩:=h;obtain⟨m,hn,hl⟩:=I.loc
 have q:Vis X.env.scope x:=by rcases hx with k |k;exact .inl k;exact .inr (.inl k)
 obtain⟨u,r,l⟩:=hl i x v hi L q;refine wpAny_AugAssign_Name ?_
 have go:wpAny (model X.prog X.w) X.A (eval e X.env) (λw j=>wpAny (model X.prog X.w) X.A (inplaceOp op u w) (λr n=>wpAny (model X.prog X.w) X.A (storeName X.env x r) (λ_=>SP X pins D .next) X.xe n) X.xe j) X.xe s:=by
  refine thn (Y pins s σ H _ I h) λw s1 p=>?_;obtain⟨y,H1,C,r1,q1⟩:=p;refine thn (ho pins s1 σ H1 v y u w _ C r r1 q1) λz s2 p=>?_;obtain⟨zv,H2,G,r2,q2⟩:=p;exact wP G T hi hx r2 (λs3 J=>⟨_,H2,J,q2⟩) hf
 rcases l with⟨d,hm⟩ |⟨d,c,U,f⟩
 .exact wpAny_loadName_local I.ok.kind d hn hm go
 .rcases d with d |d
  .exact wpAny_loadName_cell I.ok.kind d U f go
  .rcases hx with k |k
   .have:X.env.scope.names.lookup x=aa .free:=d;rw[k]at this;cases this
   .have:X.env.scope.names.lookup x=aa .free:=d;rw[k]at this;cases this
abbrev ipI(f:Int->Int->Int):TIp:=λx y H Q=>∃i j,x=.int i/\y=.int j/\Q (.int (f i j)) H
def Ib:PIp X .Add (ipI λi j=>i+j):=by
 intro pins s σ H x y v u Q I l m h;obtain⟨i,j,d,f,q⟩:=h;subst d;subst f;obtain⟨t,rfl⟩:=l;obtain⟨t',rfl⟩:=m;exact iadd_int ⟨.int _,H,I.tok _,⟨_,rfl⟩,q⟩
abbrev Ic(c:TT)(tb:TS):TS:=λD σ H=>∃W:Nat->St->Hp->Prop,(∃m,W m σ H)/\∀m σ H,W m σ H ->
 c σ H λb H1=>if b=ab then ∃N:St->Hp->Prop,(∀d H',N d H'->∃f,f<m/\W f d H')/\tb {D with nx:=N,ct:=N,bk:=D.nx} σ H1 else D.nx σ H1
variable{body:List Stmt}
def Ie{tb:TS}(T:PassesOwn (model X.prog X.w) X.A X.env X.xe)(hc:PT X c tc)(Y:PSs X body tb):PS X (.While c body [] pos) (Ic tc tb):=by
 intro pins s σ H D I h;obtain⟨W,⟨m0,w0⟩,m⟩:=h;refine wpAny_While (codeAny_whileLoop (λn s'=>∃p H',Inv X pins p H' s'/\W n p H') ?_ m0 ⟨σ,H,I,w0⟩);rintro n s1 ⟨j,H1,U,w1⟩;refine mU T (thn (hc pins s1 j H1 _ U (m n j H1 w1)) λb s2 q_=>?_);obtain⟨H2,J,q⟩:=q_
 cases b with
 |true=>
  obtain⟨N,L,q⟩:=q;rw[if_pos rfl];refine mU T (thn (Y pins s2 j H2 _ J q) λf s3 r=>?_)
  cases f with
  |next=>
   obtain⟨d,l,z,C⟩:=r;obtain⟨B,hm,G⟩:=L d l C
   exact⟨B,hm,d,l,z,G⟩
  |cont=>
   obtain⟨d,l,z,C⟩:=r;obtain⟨B,hm,G⟩:=L d l C
   exact⟨B,hm,d,l,z,G⟩
  |brk=>exact r
  |ret v=>exact r
 |false=>
  rw[if_neg ba];exact sK ⟨j,H2,J,q⟩
structure It where
 go:Nat->Hp->Prop
 yld:Nat->Hp->V->Hp->Prop
 stop:Nat->Hp->Prop
abbrev iu(X:Cx)(pins:PNS)(H:Hp)(b:Addr):Prop:=
 H b=ac/\b≠X.env.locals/\b∉X.fs/\(b∈X.ex\/X.s₀.heap.objs.size<=b)/\(∀x c,X.env.cells.lookup x=aa c->c≠b)/\∀p∈X.pn++pins,p.1≠b
def Inv.fpOk{s:ai}{b:Addr}(I:Inv X pins σ H s)(d:s.heap.objs.size<=b)(hn:H' b=ac):iu X pins H' b:=by
 refine⟨hn,kU (fF I.lt d),I.nofs d,.inr (c3 I.sz d),λx c e z=>?_,λp f z=>?_⟩
 .obtain⟨v,q⟩:=I.cell x c e;exact absurd (fF q.lt (by rw[z];exact d)) (gt _)
 .exact absurd (fF (bi (I.pin p f).1) (by rw[z];exact d)) (gt _)
structure lq(P:cH)(w:World)(K:aV)(tg:Expr)(J:It)(fp:LAd)(it:Addr)(tn:Nat->Heap->Prop):Prop where
 mem:it∈fp
 obj:∀i h,tn i h->∀b∈fp,∃o,h.get? b=aa o/\∀v,o.data≠.cell v
 keep:∀i h h',tn i h->(∀b∈fp,∀o,h.get? b=aa o->h'.get? b=aa o)->tn i h'
 item:∀(X:Cx),X.prog=P->X.w=w->X.K=K->X.calm=ab->∀(i:Nat) (pins:PNS) (s:ai) (σ:St) (H:Hp) (E:PRS),Inv X pins σ H s->(∀b∈fp,iu X pins H b)->tn i s.heap->J.go i H ->
  wpAny (model P w) X.A (fH (.ref it)) (λr s1=>∃ u,r=aa u /\
   wpAny (model P w) X.A (sL tg (.ref it) u) (λ_ s2=>∃x H',Inv X pins σ H' s2/\aE x u/\J.yld i H x H'/\tn (i+1) s2.heap/\∀b∈fp,H' b=ac) E s1) E s
 done:∀(X:Cx),X.prog=P->X.w=w->X.K=K->X.calm=ab->∀(i:Nat) (pins:PNS) (s:ai) (σ:St) (H:Hp) (E:PRS),Inv X pins σ H s->(∀b∈fp,iu X pins H b)->tn i s.heap->J.stop i H ->
  wpAny (model P w) X.A (fH (.ref it)) (λr s1=>r=ac/\Inv X pins σ H s1) E s
 self:∀(A:cI) (i:Nat) (s:ai) (Q:PRS) (E:PRS),tn i s.heap->Q (.ref it) s->wpAny (model P w) A (pyIter (.ref it)) Q E s
@[reducible]noncomputable def TI:=St->Hp->(It->Hp->Prop)->Prop
abbrev PIE(X:Cx)(pins:PNS)(σ:St)(tg:Expr)(R:It->Hp->Prop)(d:Value)(s2:ai):Prop:=
 ∃(it:Addr) (fp:LAd) (tn:Nat->Heap->Prop) (J:It) (H':Hp),d=.ref it/\Inv X pins σ H' s2/\lq X.prog X.w X.K tg J fp it tn/\tn 0 s2.heap/\(∀b∈fp,iu X pins H' b)/\R J H'
abbrev PI(X:Cx)(tg iter:Expr)(d:TI):Prop:=
 ∀(pins:PNS) (s:ai) (σ:St) (H:Hp) (R:It->Hp->Prop),Inv X pins σ H s->d σ H R ->
  wpAny (model X.prog X.w) X.A (eval iter X.env) (λv s1=>wpAny (model X.prog X.w) X.A (pyIter v) (PIE X pins σ tg R) X.xe s1) X.xe s
variable{u:Value}
def wT{s:ai}{o:Obj}{n:String}{vs:Array Value}(j:s.heap.get? it = aa o)(f:o.cls = .type n)(hd:o.data = .fields vs)
   (hn:["enumerate", "zip", "dict_itemiterator", "dict_reverseitemiterator", "odict_iterator", "itertools.zip_longest", "itertools.pairwise"].contains n = ae)(d:Q () s):wpAny M A (sL tg (.ref it) u) Q E s:= by
  unfold sL
  cases tg <;> first
    |exact aD d
    | (cases u <;> first
        |exact aD d
        | (refine am (wpAny_load j ?_)
           rw[f, hd];show wpAny M A (if (["enumerate", "zip", "dict_itemiterator", "dict_reverseitemiterator", "odict_iterator", "itertools.zip_longest", "itertools.pairwise"].contains n && vs[0]?==aa (bE _)) = ab then _ else _) Q E s;rw[if_neg (by intro h;rw[hn, qd]at h;cases h)];exact aD d))
abbrev Itl(K:aV)(a:Addr):It:=
 ⟨λi H=>∃xs x,SqL K H a xs/\xs[i]?=aa x,λi H x H'=>H'=H/\∀xs,SqL K H a xs->xs[i]?=aa x,λi H=>∃xs,SqL K H a xs/\xs.length<=i⟩
abbrev Itt(K:aV)(a:Addr):It:=
 ⟨λi H=>∃xs x,SqT K H a xs/\xs[i]?=aa x,λi H x H'=>H'=H/\∀xs,SqT K H a xs->xs[i]?=aa x,λi H=>∃xs,SqT K H a xs/\xs.length<=i⟩
abbrev Itr(lo:Int)(n:Nat):It:=⟨λi _=>i<n,λi H x H'=>H'=H/\x=.int (lo+i),λi _=>n<=i⟩
def Ig(a it:Addr):lq P w K tg (Itl K a) [it] it (λi h=>h.IsListIter it a i) where
 mem:=by simp
 obj:=λi h st b hb=>by
  have e:b=it:=by simpa using hb
  subst e;obtain⟨o,e,c,d⟩:=st;exact⟨o,e,λv z=>by rw[d]at z;cases z⟩
 keep:=λi h h' st k=>st.at λo e=>k it (by simp) o e
 item:=by
  intro X hP hw hK hc i pins s σ H E I hf st hg;subst hP hw hK;obtain⟨xs,x,hq,hx⟩:=hg;obtain⟨its,rv,p,hz⟩:=I.list hq;obtain⟨u,hu,ru⟩:=rv.get hx;obtain⟨f0,f1,f2,f3,f4,f5⟩:=hf it (by simp);refine wpAny_pyNext_list_item st p.isList (x:=u) (by simpa using hu) λh' pu sb=>?_
  have I1:Inv X pins σ H {s with heap:=h'}:=I.turned (t':=s.toks) (λb o hb e=>(sb.2 b hb).trans e) f0 f1 f3 f4 f5
  obtain⟨o,e,c,d⟩:=id pu
  exact⟨u,rfl,wT (s:={s with heap:=h'}) e c d (by decide) ⟨x,H,I1,ru,⟨rfl,λys hy=>by rw[I.list_inj hy hq];exact hx⟩,pu,λb hb=>(hf b hb).1⟩⟩
 done:=by
  intro X hP hw hK hc i pins s σ H E I hf st hg;subst hP hw hK;obtain⟨xs,hq,hx⟩:=hg;obtain⟨its,rv,p,hz⟩:=I.list hq;obtain⟨f0,f1,f2,f3,f4,f5⟩:=hf it (by simp);have hl:=rv.length;exact wpAny_pyNext_list_end (I.ok.hd hc) st p.isList (by simp;lia) λh' eb=>⟨rfl,I.turned (t':=s.toks) (λb o hb e=>eb b o hb e) f0 f1 f3 f4 f5⟩
 self:=λ_ _ _ _ _ st h=>wpAny_pyIter_listiter st h
def Ih(a it:Addr):lq P w K tg (Itt K a) [it] it (λi h=>h.IsTupleIter it a i) where
 mem:=by simp
 obj:=λi h st b hb=>by
  have e:b=it:=by simpa using hb
  subst e;obtain⟨o,e,c,d⟩:=st;exact⟨o,e,λv z=>by rw[d]at z;cases z⟩
 keep:=λi h h' st k=>st.at λo e=>k it (by simp) o e
 item:=by
  intro X hP hw hK hc i pins s σ H E I hf st hg;subst hP hw hK;obtain⟨xs,x,hq,hx⟩:=hg;obtain⟨its,rv,p,hz⟩:=I.tuple hq;obtain⟨u,hu,ru⟩:=rv.get hx;obtain⟨f0,f1,f2,f3,f4,f5⟩:=hf it (by simp);refine wpAny_pyNext_tuple_item st (show s.heap.IsTuple a its.toArray from p) (x:=u) (by simpa using hu) λh' pu sb=>?_
  have I1:Inv X pins σ H {s with heap:=h'}:=I.turned (t':=s.toks) (λb o hb e=>(sb.2 b hb).trans e) f0 f1 f3 f4 f5
  obtain⟨o,e,c,d⟩:=id pu
  exact⟨u,rfl,wT (s:={s with heap:=h'}) e c d (by decide) ⟨x,H,I1,ru,⟨rfl,λys hy=>by rw[I.tuple_inj hy hq];exact hx⟩,pu,λb hb=>(hf b hb).1⟩⟩
 done:=by
  intro X hP hw hK hc i pins s σ H E I hf st hg;subst hP hw hK;obtain⟨xs,hq,hx⟩:=hg;obtain⟨its,rv,p,hz⟩:=I.tuple hq;obtain⟨f0,f1,f2,f3,f4,f5⟩:=hf it (by simp);have hl:=rv.length;exact wpAny_pyNext_tuple_end (I.ok.hd hc) st (show s.heap.IsTuple a its.toArray from p) (by simp;lia) λh' eb=>⟨rfl,I.turned (t':=s.toks) (λb o hb e=>eb b o hb e) f0 f1 f3 f4 f5⟩
 self:=λ_ _ _ _ _ st h=>wpAny_pyIter_tupleiter st h
def Ii(it:Addr)(lo:Int)(n:Nat):lq P w K tg (Itr lo n) [it] it (λi h=>IsRangeIter h it (lo+(i:Nat)*1) ((n:Int)-(i:Nat)) 1) where
 mem:=by simp
 obj:=λi h st b hb=>by
  have e:b=it:=by simpa using hb
  subst e
  exact⟨_,st,λv z=>by
   have z':Data.fields _=Data.cell v:=z;cases z'⟩
 keep:=λi h h' st k=>k it (by simp) _ st
 item:=by
  intro X hP hw hK hc i pins s σ H E I hf st hg;subst hP hw hK;obtain⟨f0,f1,f2,f3,f4,f5⟩:=hf it (by simp);have W:=Walks.range (prog:=X.prog) (w:=X.w) (I.ok.hd hc) it lo 1 n;refine W.item i s _ _ hg st λv h' tk hv pu kk=>?_;obtain⟨t,rfl⟩:=hv
  have I1:Inv X pins σ H {s with heap:=h',toks:=tk}:=I.turned (λb o hb e=>kk b o (by simpa using hb) e) f0 f1 f3 f4 f5
  refine⟨_,rfl,wT (s:={s with heap:=h',toks:=tk}) (n:="range_iterator") pu rfl rfl (by decide) ⟨.int (lo+i),H,I1,⟨t,?_⟩,⟨rfl,rfl⟩,pu,λb hb=>(hf b hb).1⟩⟩
  rw[Int.mul_one]
 done:=by
  intro X hP hw hK hc i pins s σ H E I hf st hg;subst hP hw hK;obtain⟨f0,f1,f2,f3,f4,f5⟩:=hf it (by simp);exact wpAny_pyNext_range_end (I.ok.hd hc) st (by have:n<=i:=hg;lia) λh' eb=>⟨rfl,I.turned (t':=s.toks) (λb o hb e=>eb b o hb e) f0 f1 f3 f4 f5⟩
 self:=λ_ _ _ _ _ st h=>wpAny_pyIter_rangeiter st h
abbrev wU(K:aV)(d:TE):TI:=λσ H R=>d σ H λx H1=>∃a,x=.ref a/\(∃xs,SqL K H1 a xs)/\R (Itl K a) H1
abbrev Ij(K:aV)(d:TE):TI:=λσ H R=>d σ H λx H1=>∃a,x=.ref a/\(∃xs,SqT K H1 a xs)/\R (Itt K a) H1
variable{l:Expr}{tl:TE}
def wV(j:PE X l tl):PI X tg l (wU X.K tl):=by
 intro pins s σ H R I h;refine thn (j pins s σ H _ I h) λv s1 r=>?_;obtain⟨x,H1,d,z,n⟩:=r;obtain⟨a,e,⟨xs,m⟩,q⟩:=n;subst e;cases z;obtain⟨its,B,p,hz⟩:=d.list m;refine sJ p.isList ?_;refine⟨s1.heap.objs.size,[s1.heap.objs.size],_,_,H1,rfl,d.kept (t':=s1.toks) λb o e=>bC _ e,Ig a _,⟨_,cO _ rfl,rfl,rfl⟩,λb f=>?_,q⟩;have e:b=s1.heap.objs.size:=by simpa using f
 subst e;exact d.fpOk (aL _) (d.hok.fresh (aL _))
def Ik(j:PE X l tl):PI X tg l (Ij X.K tl):=by
 intro pins s σ H R I h;refine thn (j pins s σ H _ I h) λv s1 r=>?_;obtain⟨x,H1,d,z,n⟩:=r;obtain⟨a,e,⟨xs,m⟩,q⟩:=n;subst e;cases z;obtain⟨its,B,p,hz⟩:=d.tuple m;refine wpAny_pyIter_tuple (show s1.heap.IsTuple a its.toArray from p) ?_;refine⟨s1.heap.objs.size,[s1.heap.objs.size],_,_,H1,rfl,d.kept (t':=s1.toks) λb o e=>bC _ e,Ih a _,⟨_,cO _ rfl,rfl,rfl⟩,λb f=>?_,q⟩;have e:b=s1.heap.objs.size:=by simpa using f
 subst e;exact d.fpOk (aL _) (d.hok.fresh (aL _))
def Il{s:ai}{R:It->Hp->Prop}{lo hi:Int}{t u v:Tok}{f:Nat}(I:Inv X pins σ H s)(h1:-(2 ^ 62)<=lo)(h2:lo<2 ^ 62)(n:-(2 ^ 62)<=hi)(p:hi<2 ^ 62)
 (q:R (Itr lo (hi-lo).toNat) H):wpAny (model X.prog X.w) X.A (pyIter (.ref s.heap.objs.size)) (PIE X pins σ tg R) E {s with heap:=s.heap.push {cls:=.type "range",data:=.fields #[.int lo t,.int hi u,.int 1 v]},toks:=f}:=by
 refine wpAny_pyIter_range (IsRange.new ..) (small_one h1 h2 n p) ?_
 have d:Inv X pins σ H {s with heap:=s.heap.push {cls:=.type "range",data:=.fields #[.int lo t,.int hi u,.int 1 v]},toks:=f}:=I.kept λb o e=>bC _ e
 refine⟨(s.heap.push {cls:=.type "range",data:=.fields #[.int lo t,.int hi u,.int 1 v]}).objs.size,[(s.heap.push {cls:=.type "range",data:=.fields #[.int lo t,.int hi u,.int 1 v]}).objs.size],_,_,H,rfl,
  d.kept (t':=f) λb o e=>bC _ e,Ii _ lo (hi-lo).toNat,?_,λb r=>?_,q⟩
 .have j:lo+((0:Nat):Int)*1=lo:=by simp
  have m:(((hi-lo).toNat:Nat):Int)-((0:Nat):Int)=dY.Range.rangeSize lo hi 1:=by rw[rangeSize_one];split <;> lia
  show IsRangeIter _ _ (lo+((0:Nat):Int)*1) ((((hi-lo).toNat:Nat):Int)-((0:Nat):Int)) 1;rw[j,m];exact cO _ rfl
 .have e:b=(s.heap.push {cls:=.type "range",data:=.fields #[.int lo t,.int hi u,.int 1 v]}).objs.size:=by simpa using r
  subst e;exact d.fpOk (aL _) (d.hok.fresh (aL _))
abbrev Im(ta:TA):TI:=λσ H R=>ta σ H λvs H1=>∃j:Int,vs=[.int j]/\-(2 ^ 62)<=j/\j<2 ^ 62/\R (Itr 0 j.toNat) H1
variable{a:Expr}
def Io{ta:TA}{p:Pos}(m:Gl X "range")(hm:X.mg "range"=ac)(ha:PA X [a] ta)(n:aO [a] X.env=[(ae,eval a X.env)]:=by rfl):PI X tg (.Call (.Name "range" p) [a] [] pos) (Im ta):=by
 intro pins s σ H R I h;refine Call_ (jl I m hm boot_range (mS (thn (ha pos pins s σ H _ I h) λus s1 ⟨vs,H1,f,B,d⟩=>?_) n rfl));obtain⟨j,e,d,z,q⟩:=d;subst e
 cases B with
 |cons r C=>
  cases C;obtain⟨t,rfl⟩:=r;exact call_range_1 (Il f (by lia) (by lia) d z (by simpa using q))
abbrev wW(n:TI)(g:TG)(tb:TS):TS:=λD σ H=>n σ H λJ H1=>∃W:Nat->Nat->St->Hp->Prop,(∃m,W 0 m σ H1)/\∀i m σ H,W i m σ H ->
 (J.stop i H/\D.nx σ H)\/(J.go i H/\∃N:St->Hp->Prop,(∀d H',N d H'->∃j,j<m/\W (i+1) j d H')/\∀x H',J.yld i H x H'->g x σ H' λf H2=>tb {D with nx:=N,ct:=N,bk:=D.nx} f H2)
abbrev qz(fp:LAd)(h:Heap):PNS:=fp.filterMap λb=>(h.get? b).map λo=>(b,o)
variable{fp:LAd}
def sY{b:Addr}{o:Obj}(d:b∈fp)(e:h.get? b=aa o):(b,o)∈qz fp h:=mem_filterMap.mpr ⟨b,d,by rw[e];rfl⟩
def Ip{p:Addr×Obj}(j:p∈qz fp h):p.1∈fp/\h.get? p.1=aa p.2:=by
 obtain⟨b,f,e⟩:=mem_filterMap.mp j
 cases q:h.get? b with
 |none=>rw[q]at e;cases e
 |some o=>
  rw[q]at e;have d:(b,o)=p:=cN e;subst d;exact⟨f,q⟩
def Inv.pinned{s:ai}(I:Inv X pins σ H s)(n:∀b∈fp,iu X pins H b)(q:∀b∈fp,∃o,s.heap.get? b=aa o/\∀v,o.data≠.cell v):Inv X (pins++qz fp s.heap) σ H s:=
 I.pins_of λp r=>(bT.mp r).elim (λz=>I.pin p (dE _ z)) λz=>by
  obtain⟨j,e⟩:=Ip z;obtain⟨m,f1,f2,_⟩:=n p.1 j;obtain⟨o,f,d⟩:=q p.1 j;rw[e]at f;cases f;exact⟨e,m,f1,f2,d⟩
def Inv.unpinned{pl:PNS}{s:ai}(I:Inv X (pins++pl) σ H s):Inv X pins σ H s:=I.pins_of λp d=>I.pin p (dE _ (fD _ d))
variable{iter:Expr}{wi:TI}
def Ch{tb:TS}(hp:PassesOwn (model X.prog X.w) X.A X.env X.xe)(hc:X.calm=ab)(hi:PI X tg iter wi)(hg:PG X tg g)(z:PSs X body tb)
 (hs:∀x,mT iter X.env x=pure x:=by intro _;rfl):PS X (.For tg iter body [] pos) (wW wi g tb):=by
 intro pins s σ H D I h;refine wpAny_For (thn (hi pins s σ H _ I h) λv s1 h1=>thn h1 λitv s2 h2=>?_) hs;obtain⟨it,fp,tn,J,H2,e,I2,T,li,f2,W,⟨m0,w0⟩,turn⟩:=h2;subst e;have B:∀{H':Hp},(∀b∈fp,H' b=ac)->∀b∈fp,iu X pins H' b:=λhn b z=>⟨hn b z,(f2 b z).2⟩;refine codeAny_forLoop_any (λn s'=>∃i C H',Inv X pins C H' s'/\tn i s'.heap/\(∀b∈fp,H' b=ac)/\W i n C H') ?_ m0 ⟨0,σ,H2,I2,li,λb z=>(f2 b z).1,w0⟩;rintro n s3 ⟨i,G,H3,I3,st3,Y,w3⟩
 rcases turn i n G H3 w3 with⟨stop,qn⟩ |⟨go,N,hN,step⟩
 .refine mU hp (thn (T.done X rfl rfl rfl hc i pins s3 G H3 X.xe I3 (B Y) st3 stop) λr s4 ⟨hr,I4⟩=>?_);subst hr;exact sK ⟨G,H3,I4,qn⟩
 .refine mU hp (thn (T.item X rfl rfl rfl hc i pins s3 G H3 X.xe I3 (B Y) st3 go) λr s4 q_=>?_);obtain⟨u,hr,h4⟩:=q_;subst hr;refine mU hp (thn h4 λ_ s5 q_=>?_);obtain⟨x,H5,I5,r5,y5,U,fr5⟩:=q_;have I5':=I5.pinned (B fr5) (T.obj _ _ U);refine mU hp (thn (hg _ s5 G H5 x u _ I5' r5 (step x H5 y5)) λ_ s6 q_=>?_);obtain⟨σ6,H6,I6,q6⟩:=q_;refine mU hp (thn (z _ s6 σ6 H6 _ I6 q6) λf s7 L=>?_)
  have again:∀{j:St} {p:Hp},Inv X (pins++qz fp s5.heap) j p s7->N j p->∃m,m<n/\∃i C H',Inv X pins C H' s7/\tn i s7.heap/\(∀b∈fp,H' b=ac)/\W i m C H':=λ{j p} q n7=>by
   obtain⟨m',hm,w7⟩:=hN j p n7;refine⟨m',hm,i+1,j,p,q.unpinned,T.keep _ _ _ U λb z o e=>(q.pin (b,o) (dE _ (dE _ (sY z e)))).1,λb z=>?_,w7⟩;obtain⟨o,e,d⟩:=T.obj _ _ U b z;exact(q.pin (b,o) (dE _ (dE _ (sY z e)))).2.1
  cases f with
  |next=>obtain⟨j,p,q,n7⟩:=L;exact again q n7
  |cont=>obtain⟨j,p,q,n7⟩:=L;exact again q n7
  |brk=>obtain⟨j,p,q,L⟩:=L;exact⟨j,p,q.unpinned,L⟩
  |ret v=>obtain⟨x7,j,p,q,r7,L⟩:=L;exact⟨x7,j,p,q.unpinned,r7,L⟩
@[reducible]noncomputable def R2:=V->V->Hp->VK->Prop
abbrev OpR(X:Cx)(f:Value->Value->Sem Value)(r:R2):Prop:=
 ∀(pins:PNS) (s:ai) (σ:St) (H:Hp) (x y:V) (v u:Value) (Q:VK),Inv X pins σ H s->aE x v->aE y u->r x y H Q ->
  wpAny (model X.prog X.w) X.A (f v u) (EP X pins σ Q) X.xe s
abbrev UnR(X:Cx)(f:Value->Sem Value)(r:V->Hp->VK->Prop):Prop:=
 ∀(pins:PNS) (s:ai) (σ:St) (H:Hp) (x:V) (v:Value) (Q:VK),Inv X pins σ H s->aE x v->r x H Q ->
  wpAny (model X.prog X.w) X.A (f v) (EP X pins σ Q) X.xe s
abbrev iw(X:Cx)(f:Value)(r:List V->Hp->VK->Prop):Prop:=
 ∀(pins:PNS) (s:ai) (σ:St) (H:Hp) (xs:List V) (us:LVa) (Q:VK),Inv X pins σ H s->aC xs us->r xs H Q ->
  wpAny (model X.prog X.w) X.A (call f us) (EP X pins σ Q) X.xe s
abbrev Iq(X:Cx)(r:V->Hp->(Bool->Hp->Prop)->Prop):Prop:=
 ∀(pins:PNS) (s:ai) (σ:St) (H:Hp) (x:V) (v:Value) (Q:Bool->Hp->Prop),Inv X pins σ H s->aE x v->r x H Q ->
  wpAny (model X.prog X.w) X.A (truthy v) (TP X pins σ Q) X.xe s
abbrev tOp(r:R2)(ta tb:TE):TE:=λσ H Q=>ta σ H λx H1=>tb σ H1 λy H2=>r x y H2 Q
abbrev tUn(r:V->Hp->VK->Prop)(ta:TE):TE:=λσ H Q=>ta σ H λx H1=>r x H1 Q
abbrev rI(C:Int->Int->Prop)(g:Int->Int->V):R2:=λx y H Q=>∃i j,x=.int i/\y=.int j/\C i j/\Q (g i j) H
abbrev rI0(g:Int->Int->V):R2:=λx y H Q=>∃i j,x=.int i/\y=.int j/\Q (g i j) H
abbrev rU(g:Int->V):V->Hp->VK->Prop:=λx H Q=>∃i,x=.int i/\Q (g i) H
variable{f:Value->Value->Sem Value}
def wX(ha:PE X a ta)(q:PE X b tb){s:ai}{R:V->V->Hp->Prop}(I:Inv X pins σ H s)
 (h:ta σ H λx H1=>tb σ H1 λy H2=>R x y H2){Q:PRS}
 (r:∀v u s2 x y H2,Inv X pins σ H2 s2->aE x v->aE y u->R x y H2->wpAny (model X.prog X.w) X.A (f v u) Q X.xe s2):
  wpAny (model X.prog X.w) X.A (eval a X.env) (λv d=>wpAny (model X.prog X.w) X.A (eval b X.env) (λu j=>wpAny (model X.prog X.w) X.A (f v u) Q X.xe j) X.xe d) X.xe s:=by
 refine thn (ha pins s σ H _ I h) λv s1 m=>?_;obtain⟨x,H1,n,C,z⟩:=m;refine thn (q pins s1 σ H1 _ n z) λu s2 m=>?_;obtain⟨y,H2,p,G,B⟩:=m;exact r v u s2 x y H2 p C G B
def Ci{r:R2}(m:OpR X (f9 op) r)(ha:PE X a ta)(j:PE X b tb):PE X (.BinOp a op b pos) (tOp r ta tb):=by
 intro pins s σ H Q I h;exact wpAny_BinOp (wX ha j I h λv u s2 x y H2 d n p q=>m pins s2 σ H2 x y v u Q d n p q)
def Ir{op:UnaryOp}{r:V->Hp->VK->Prop}(j:UnR X (unaryOp op) r)(ha:PE X a ta):PE X (.UnaryOp op a pos) (tUn r ta):=by
 intro pins s σ H Q I h;exact UnaryOp_ (thn (ha pins s σ H _ I h) λv s1 ⟨x,H1,d,n,m⟩=>j pins s1 σ H1 x v Q d n m)
def opI{C:Int->Int->Prop}{g:Int->Int->Int}
 (rule:∀(i j:Int) (t u:Tok) (s:ai) (Q:PRS) (E:PRS),C i j->Q (.int (g i j) s.toks) {s with toks:=s.toks+1}->wpAny (model X.prog X.w) X.A (f (.int i t) (.int j u)) Q E s):
  OpR X f (rI C λi j=>.int (g i j)):=by
 intro pins s σ H x y v u Q I m n h;obtain⟨i,j,rfl,rfl,d,q⟩:=h;obtain⟨t,rfl⟩:=m;obtain⟨t',rfl⟩:=n;exact rule i j t t' s _ _ d ⟨.int (g i j),H,I.tok _,⟨_,rfl⟩,q⟩
def Cj{g:Int->Int->Int}
 (rule:∀(i j:Int) (t u:Tok) (s:ai) (Q:PRS) (E:PRS),Q (.int (g i j) s.toks) {s with toks:=s.toks+1}->wpAny (model X.prog X.w) X.A (f (.int i t) (.int j u)) Q E s):
  OpR X f (rI0 λi j=>.int (g i j)):=by
 intro pins s σ H x y v u Q I d m h;obtain⟨i,j,rfl,rfl,q⟩:=h;obtain⟨t,rfl⟩:=d;obtain⟨t',rfl⟩:=m;exact rule i j t t' s _ _ ⟨.int (g i j),H,I.tok _,⟨_,rfl⟩,q⟩
def sZ{g:Int->Int->Bool}
 (rule:∀(i j:Int) (t u:Tok) (s:ai) (Q:PRS) (E:PRS),Q (.bool (g i j)) s->wpAny (model X.prog X.w) X.A (f (.int i t) (.int j u)) Q E s):
  OpR X f (rI0 λi j=>.bl (g i j)):=by
 intro pins s σ H x y v u Q I d m h;obtain⟨i,j,rfl,rfl,q⟩:=h;obtain⟨t,rfl⟩:=d;obtain⟨t',rfl⟩:=m;exact rule i j t t' s _ _ ⟨.bl (g i j),H,I,rfl,q⟩
abbrev qA(i j:Int):Prop:=0<j/\j<1073741824
abbrev oQ(i j:Int):Prop:=0<=j/\j<=1000000/\i.natAbs<2 ^ 64
abbrev qB(i j:Int):Prop:=(-(2 ^ 64)<i/\i<2 ^ 64)\/(-(2 ^ 64)<j/\j<2 ^ 64)
variable{j:Int}
def qB.ok{i:Int}(h:qB i j):IntMulOk i j:=by
 rcases h with⟨h1,h2⟩ |⟨h1,h2⟩
 .exact .of_left (intBits_le_64 h1 h2)
 .exact .of_right (intBits_le_64 h1 h2)
def Iu:OpR X (f9 .Add) (rI0 λi j=>.int (i+j)):=Cj λ_ _ _ _ _ _ _ q=>add_int q
def Iv:OpR X (f9 .Sub) (rI0 λi j=>.int (i-j)):=Cj λ_ _ _ _ _ _ _ q=>sub_int q
def Iw:OpR X (f9 .FloorDiv) (rI qA λi j=>.int (i / j)):=opI λi j _ _ _ _ _ d q=>by
 have h1:(0:Int)<j:=d.1;have h2:j<1073741824:=d.2;exact floordiv_int (by lia) (by rw[Int.fdiv_eq_ediv_of_nonneg i (by lia)];exact q) (.inl (PyProof.noPylong_small (by lia)))
def Ix:OpR X (f9 .Mod) (rI (λ_ j=>0<j) λi j=>.int (i % j)):=opI λi j _ _ _ _ _ d q=>by
 have h1:(0:Int)<j:=d;exact mod_int' (by lia) (by rw[Int.fmod_eq_emod_of_nonneg i (by lia)];exact q)
def Iy:OpR X (f9 .Pow) (rI oQ λi j=>.int (i ^ j.toNat)):=opI λ_ _ _ _ _ _ _ d q=>pow_int_small d.1 d.2.1 d.2.2 q
def unI{f:Value->Sem Value}{g:Int->Int}
 (rule:∀(i:Int) (t:Tok) (s:ai) (Q:PRS) (E:PRS),Q (.int (g i) s.toks) {s with toks:=s.toks+1}->wpAny (model X.prog X.w) X.A (f (.int i t)) Q E s):
  UnR X f (rU λi=>.int (g i)):=by
 intro pins s σ H x v Q I d h;obtain⟨i,rfl,q⟩:=h;obtain⟨t,rfl⟩:=d;exact rule i t s _ _ ⟨.int (g i),H,I.tok _,⟨_,rfl⟩,q⟩
def Iz:UnR X (unaryOp .USub) (rU λi=>.int (-i)):=unI λ_ _ _ _ _ q=>neg_int q
abbrev wY:V->V->Bool
 |.non,.non=>ab |.non,.int _=>ab |.int _,.non=>ab |.non,.bl _=>ab |.bl _,.non=>ab |.non,.str _=>ab |.str _,.non=>ab
 |.int _,.int _=>ab |.bl _,.bl _=>ab |.str _,.str _=>ab |.byt _,.byt _=>ab
 |.int _,.str _=>ab |.str _,.int _=>ab |.bl _,.str _=>ab |.str _,.bl _=>ab
 | _,_=>ae
abbrev rEq:R2:=λx y H Q=>wY x y=ab/\Q (.bl (decide (x=y))) H
abbrev rNe:R2:=λx y H Q=>wY x y=ab/\Q (.bl (!decide (x=y))) H
def wZ{i:Int}:decide (V.int i=V.int j)=(i==j):=by
 rw[jQ];simp
def qC{i j:Bool}:decide (V.bl i=V.bl j)=(i==j):=by
 rw[jQ];simp
def w4{i j:Str}:decide (V.str i=V.str j)=(i==j):=by
 rw[jQ];simp
def Ck{i j:Array UInt8}:decide (V.byt i=V.byt j)=(i.toList==j.toList):=by
 rw[jQ];cases i;cases j;simp
def b5{s:ai}{Q:VK}{k d:Bool}(I:Inv X pins σ H s)(q:Q (.bl k) H)(e:k=d):EP X pins σ Q (.bool d) s:=by
 subst e;exact⟨.bl k,H,I,rfl,q⟩
def IA:OpR X (cC .Eq) rEq:=by
 intro pins s σ H x y v u Q I n d h;obtain⟨m,q⟩:=h
 cases x with
 |non=>
  cases n
  cases y with
  |non=>cases d;exact PySem.EqNone.eq_none_none (b5 I q (by simp))
  |bl j=>cases d;exact PySem.EqNone.eq_none_bool (b5 I q (by simp))
  |int j=>obtain⟨t',rfl⟩:=d;exact PySem.EqNone.eq_none_int (b5 I q (by simp))
  |str j=>obtain⟨t',rfl⟩:=d;exact PySem.EqNone.eq_none_str (b5 I q (by simp))
  | _=>exact absurd (show ae=ab from m) ba
 |bl i=>
  cases n
  cases y with
  |non=>cases d;exact PySem.EqNone.eq_bool_none (b5 I q (by simp))
  |bl j=>cases d;exact eq_bool (b5 I q qC)
  |str j=>obtain⟨t',rfl⟩:=d;exact PySem.EqMixed.eq_bool_str (b5 I q (by simp))
  | _=>exact absurd (show ae=ab from m) ba
 |int i=>
  obtain⟨t,rfl⟩:=n
  cases y with
  |non=>cases d;exact PySem.EqNone.eq_int_none (b5 I q (by simp))
  |int j=>obtain⟨t',rfl⟩:=d;exact eq_int (b5 I q wZ)
  |str j=>obtain⟨t',rfl⟩:=d;exact PySem.EqMixed.eq_int_str (b5 I q (by simp))
  | _=>exact absurd (show ae=ab from m) ba
 |str i=>
  obtain⟨t,rfl⟩:=n
  cases y with
  |non=>cases d;exact PySem.EqNone.eq_str_none (b5 I q (by simp))
  |bl j=>cases d;exact PySem.EqMixed.eq_str_bool (b5 I q (by simp))
  |int j=>obtain⟨t',rfl⟩:=d;exact PySem.EqMixed.eq_str_int (b5 I q (by simp))
  |str j=>obtain⟨t',rfl⟩:=d;exact eq_str (b5 I q w4)
  | _=>exact absurd (show ae=ab from m) ba
 |byt i=>
  obtain⟨t,rfl⟩:=n
  cases y with
  |byt j=>obtain⟨t',rfl⟩:=d;exact W.eq_bytes (b5 I q Ck)
  | _=>exact absurd (show ae=ab from m) ba
 | _=>cases y <;> exact absurd (show ae=ab from m) ba
def IB:OpR X (cC .NotEq) rNe:=by
 intro pins s σ H x y v u Q I n d h;obtain⟨m,q⟩:=h
 cases x with
 |non=>
  cases n
  cases y with
  |non=>cases d;exact PySem.EqNone.ne_none_none (b5 I q (by simp))
  |bl j=>cases d;exact PySem.EqNone.ne_none_bool (b5 I q (by simp))
  |int j=>obtain⟨t',rfl⟩:=d;exact PySem.EqNone.ne_none_int (b5 I q (by simp))
  |str j=>obtain⟨t',rfl⟩:=d;exact PySem.EqNone.ne_none_str (b5 I q (by simp))
  | _=>exact absurd (show ae=ab from m) ba
 |bl i=>
  cases n
  cases y with
  |non=>cases d;exact PySem.EqNone.ne_bool_none (b5 I q (by simp))
  |bl j=>cases d;exact ne_bool (b5 I q (congrArg not qC))
  |str j=>obtain⟨t',rfl⟩:=d;exact PySem.EqMixed.ne_bool_str (b5 I q (by simp))
  | _=>exact absurd (show ae=ab from m) ba
 |int i=>
  obtain⟨t,rfl⟩:=n
  cases y with
  |non=>cases d;exact PySem.EqNone.ne_int_none (b5 I q (by simp))
  |int j=>obtain⟨t',rfl⟩:=d;exact ne_int (b5 I q (congrArg not wZ))
  |str j=>obtain⟨t',rfl⟩:=d;exact PySem.EqMixed.ne_int_str (b5 I q (by simp))
  | _=>exact absurd (show ae=ab from m) ba
 |str i=>
  obtain⟨t,rfl⟩:=n
  cases y with
  |non=>cases d;exact PySem.EqNone.ne_str_none (b5 I q (by simp))
  |bl j=>cases d;exact PySem.EqMixed.ne_str_bool (b5 I q (by simp))
  |int j=>obtain⟨t',rfl⟩:=d;exact PySem.EqMixed.ne_str_int (b5 I q (by simp))
  |str j=>obtain⟨t',rfl⟩:=d;exact ne_str (b5 I q (congrArg not w4))
  | _=>exact absurd (show ae=ab from m) ba
 |byt i=>
  obtain⟨t,rfl⟩:=n
  cases y with
  |byt j=>obtain⟨t',rfl⟩:=d;exact W.ne_bytes (b5 I q (congrArg not Ck))
  | _=>exact absurd (show ae=ab from m) ba
 | _=>cases y <;> exact absurd (show ae=ab from m) ba
def IC:OpR X (cC .Lt) (rI0 λi j=>.bl (decide (i<j))):=sZ λ_ _ _ _ _ _ _ q=>lt_int q
def ID:OpR X (cC .LtE) (rI0 λi j=>.bl (decide (i<=j))):=sZ λ_ _ _ _ _ _ _ q=>le_int q
def IE:OpR X (cC .Gt) (rI0 λi j=>.bl (decide (j<i))):=sZ λ_ _ _ _ _ _ _ q=>gt_int q
def IF:OpR X (cC .GtE) (rI0 λi j=>.bl (decide (j<=i))):=sZ λ_ _ _ _ _ _ _ q=>ge_int q
def IG:OpR X (cC .Is) (λx y H Q=>y=.non/\Q (.bl (decide (x=.non))) H):=by
 intro pins s σ H x y v u Q I d m h;obtain⟨rfl,q⟩:=h;cases m;refine is_none_gen (b5 I q ?_)
 cases x <;> first
  |(cases d;rfl)
  |(obtain⟨t,rfl⟩:=d;rfl)
def IH:OpR X (cC .IsNot) (λx y H Q=>y=.non/\Q (.bl (!decide (x=.non))) H):=by
 intro pins s σ H x y v u Q I d m h;obtain⟨rfl,q⟩:=h;cases m;refine isnot_none_gen (b5 I q ?_)
 cases x <;> first
  |(cases d;rfl)
  |(obtain⟨t,rfl⟩:=d;rfl)
variable{op:CmpOp}
def Cm(b:Expr)(h:op≠.In:=by decide)(h2:op≠.NotIn:=by decide):lX op b=ae:=by
 have d:(op==CmpOp.In)=ae:=by cases op <;> first |rfl |exact absurd rfl h
 have m:(op==CmpOp.NotIn)=ae:=by cases op <;> first |rfl |exact absurd rfl h2
 cases b <;> simp[lX,d,m]
variable{r:R2}
def II(n:OpR X (cC op) r)(ha:PE X a ta)(m:PE X b tb)(hm:lX op b=ae):PE X (.Compare a [op] [b] pos) (tOp r ta tb):=by
 intro pins s σ H Q I h;exact wpAny_Compare1 (wX ha m I h λv u s2 x y H2 d p z q=>n pins s2 σ H2 x y v u Q d p z q) hm
abbrev IJ(t:TE):TT:=λσ H Q=>t σ H λx H'=>∃k,x=.bl k/\Q k H'
def IK(B:OpR X (cC op) r)(ha:PE X a ta)(q:PE X b tb)(hm:lX op b=ae):PT X (.Compare a [op] [b] pos) (IJ (tOp r ta tb)):=by
 intro pins s σ H Q I h
 refine wpAny_isTrue_Compare1 (thn (ha pins s σ H _ I h) λv s1 ⟨x,H1,m,L,C⟩=>thn (q pins s1 σ H1 _ m C) λu s2 ⟨y,H2,n,T,G⟩ =>
  thn (B pins s2 σ H2 x y v u _ n L T G) λc Y ⟨z,d,p,U,k,e,J⟩=>?_) hm
 subst e;cases U;exact lW ⟨d,p,J⟩
abbrev IL(r n:R2)(ta tb tc:TE):TE:=λσ H Q=>ta σ H λx H1=>tb σ H1 λy H2=>r x y H2 λz d=>∃k,z=.bl k /\
 (if k=ab then tc σ d λp m=>n y p m Q else Q (.bl ae) d)
variable{tc:TE}{op':CmpOp}{r':R2}
def IM(Y:OpR X (cC op) r)(m:OpR X (cC op') r')(ha:PE X a ta)(T:PE X b tb)(U:PE X c tc)
 (hm:lastMarks [op,op'] [b,c]=ae:=by with_unfolding_all rfl):PE X (.Compare a [op,op'] [b,c] pos) (IL r r' ta tb tc):=by
 intro pins s σ H Q I h
 refine Compare_chain (thn (ha pins s σ H _ I h) λv s1 ⟨x,H1,G,r1,q1⟩=>chain_link (thn (T pins s1 σ H1 _ G q1) λu s2 ⟨y,H2,J,B,q2⟩ =>
  thn (Y pins s2 σ H2 x y v u _ J r1 B q2) λd s3 ⟨z,n,p,r3,k,e,q⟩=>?_)) hm
 subst e;cases r3;refine lW ?_
 cases k with
 |false=>exact ite_ff ⟨.bl ae,n,p,rfl,q⟩
 |true=>exact ite_tt (chain_last (thn (U pins s3 σ n _ p q) λw' s4 ⟨z',C,L,r4,q4⟩=>m pins s4 σ C y z' u w' Q L B r4 q4))
abbrev w5(K:aV)(x:V)(H:Hp)(k:Bool):Prop:=
 match x with
 |.non=>k=ae
 |.bl b=>k=b
 |.int i=>k=(i != 0)
 |.str y=>y.length<=aR/\k=((y.length:Int) != 0)
 |.byt y=>y.size<=aR/\k=((y.size:Int) != 0)
 |.ref p=>(∃xs,SqL K H p xs/\k=!xs.isEmpty)\/(∃xs,SqT K H p xs/\k=!xs.isEmpty)\/∃kvs,H p=aa (.dK kvs)/\k=!kvs.isEmpty
 | _=>False
def IN{d:Type}{kvs:List (d×V)}{vs:List (d×Value)}(r:KV kvs vs):(!vs.isEmpty)=!kvs.isEmpty:=by
 cases r <;> rfl
variable{its:LVa}
def Cn(r:aC xs its):(!its.toArray.isEmpty)=!xs.isEmpty:=by
 cases r <;> simp
def oR:(aR:Nat)<2 ^ 63:=by rw[dG];decide
def IP:Iq X (λx H Q=>∃k,w5 X.K x H k/\Q k H):=by
 intro pins s σ H x v Q I z h;obtain⟨k,e,q⟩:=h;have G:=oR;have J:aR=16777216:=dG
 cases x with
 |non=>
  cases z;have d:k=ae:=e;subst d
  exact truthy_none ⟨H,I,q⟩
 |bl b=>
  cases z;have d:k=b:=e;subst d
  exact lW ⟨H,I,q⟩
 |int i=>
  obtain⟨t,rfl⟩:=z;have d:k=(i != 0):=e;subst d
  exact PySem.P.truthy_int ⟨H,I,q⟩
 |str y=>
  obtain⟨t,rfl⟩:=z;obtain⟨C,d⟩:y.length<=aR/\k=((y.length:Int) != 0):=e;subst d
  exact PySem.P.truthy_str (by lia) ⟨H,I.tok _,q⟩
 |byt y=>
  obtain⟨t,rfl⟩:=z;obtain⟨C,d⟩:y.size<=aR/\k=((y.size:Int) != 0):=e;subst d
  exact W.truthy_bytes (by lia) ⟨H,I.tok _,q⟩
 |ref p=>
  cases z;have d:(∃xs,SqL X.K H p xs/\k=!xs.isEmpty)\/(∃xs,SqT X.K H p xs/\k=!xs.isEmpty)\/∃kvs,H p=aa (.dK kvs)/\k=!kvs.isEmpty:=e
  rcases d with⟨xs,hx,d⟩ |⟨xs,hx,d⟩ |⟨kvs,hx,d⟩
  .subst d;obtain⟨its,r,pl,hz⟩:=I.list hx;have n:=r.length;exact wpAny_truthy_list pl.isList (by simp only[size_toArray];lia) ⟨H,I.tok _,by rw[Cn r];exact q⟩
  .subst d;obtain⟨its,r,pl,hz⟩:=I.tuple hx;have n:=r.length;exact truthy_tuple pl (by simp only[size_toArray];lia) ⟨H,I.tok _,by rw[Cn r];exact q⟩
  .subst d;obtain⟨hz,B,vs,r,m⟩:kvs.length<=aR/\(p==gU)=ae/\∃vs,KV kvs vs/\s.heap.DictOf (iO X.prog X.w) p vs:=I.hok p _ hx;have n:kvs.length=vs.length:=oN r
   exact wpAny_truthy_dict B m (by lia) ⟨H,I.tok _,by rw[IN r];exact q⟩
 | _=>exact(show False from e).elim
def IQ(ha:PE X a ta)(n:∀d,isTrue a X.env d=(do let v <- d;iI a.pos;fG [v] (truthy v))):
  PT X a (λσ H Q=>ta σ H λx H'=>∃k,w5 X.K x H' k/\Q k H'):=by
 intro pins s σ H Q I h;exact isTrue_plain (thn (ha pins s σ H _ I h) λv s1 ⟨x,H1,m,q,p⟩=>IP pins s1 σ H1 x v Q m q p) (n _)
def IR:OpR X (f9 .Add) (λx y H Q=>∃i j,x=.str i/\y=.str j/\i.length+j.length<=aR/\Q (.str (i++j)) H):=by
 intro pins s σ H x y v u Q I d m h;obtain⟨i,j,rfl,rfl,hz,q⟩:=h;obtain⟨t,rfl⟩:=d;obtain⟨t',rfl⟩:=m;exact add_str (λt' n=>⟨.str (i++j),H,I.tok _,⟨_,rfl⟩,q⟩) hz
def IS:OpR X (inplaceOp .Add) (λx y H Q=>∃i j,x=.str i/\y=.str j/\i.length+j.length<=aR/\Q (.str (i++j)) H):=by
 intro pins s σ H x y v u Q I d m h;obtain⟨i,j,rfl,rfl,hz,q⟩:=h;obtain⟨t,rfl⟩:=d;obtain⟨t',rfl⟩:=m;exact iadd_str (λt' n=>⟨.str (i++j),H,I.tok _,⟨_,rfl⟩,q⟩) hz
def nB{x:V}(r:aC [x] us):∃u,us=[u]/\aE x u:=by
 cases r with
 |cons d m=>cases m;exact⟨_,rfl,d⟩
def Co{x:V}(r:aC [x,y] us):∃u d,us=[u,d]/\aE x u/\aE y d:=by
 cases r with
 |cons m n=>
  cases n with
  |cons p q=>cases q;exact⟨_,_,rfl,m,p⟩
structure nC(h:Heap)(x dx C:Addr)(mA:MGT):Prop where
 obj:h.get? x=aa (l9 C dx)
 ns:h.Ns1 dx mA
 ne:dx≠x
variable{mA:MGT}
def IT{dx:Addr}(n:h.Ns1 dx mA):∃od,h.get? dx=aa od/\∀name,W.lookIn name od=aa (mA name):=by
 obtain⟨o,es,G,B,hd,p,_,hm⟩:=n;refine⟨o,B,λname=>?_⟩;have e:=hm name;unfold nsFind findBy at e;rw[<- Array.find?_toList]at e;unfold W.lookIn;rw[hd];dsimp only;split
 .rename_i y q;rw[q]at e;exact congrArg aa e
 .rename_i q;rw[q]at e
  have a:es.toList.any (·.refKey)=ae:=by
   rw[any_eq_false];intro y C;obtain⟨z,t,d⟩:=p y (Array.mem_toList_iff.mp C);simp[DictEntry.refKey,d]
  have m:¬es.toList.any (·.refKey)=ab:=by rw[a];exact ba
  rw[if_neg m];exact congrArg aa e
def nC.look{x dx C:Addr}(I:nC h x dx C mA):∃od,W.InstAt h x (l9 C dx) C (aa od)/\∀name,W.lookIn name od=aa (mA name):=
 let ⟨od,ho,hl⟩:=IT I.ns
 ⟨od,⟨I.obj,rfl,rfl,ho⟩,hl⟩
variable{x C:Addr}{name:Str}{v:Value}
def IU{s:ai}{dx:Addr}{d:Bool}{Q:PRS}(X:K.In s.heap)(I:nC s.heap x dx C mA)(n:lc K C name=ab)(p:l8 K C=ab)
 (ha:cP K (.ref C) name=aa ac)(hv:mA name=aa v)(m:W.handedIn v=ab)(h:Q v {s with toks:=s.toks+1}):
  wpAny (model prog w) A (getAttr (.ref x) name d) Q E s:=by
 obtain⟨od,J,q⟩:=I.look;exact W.get_value X J (W.plainGet_of n).1 (W.findObj_own p ha rfl (by rw[q,hv])) m h
variable{f:Addr}{pl:Sem Bool}
def IV{s:ai}{dx:Addr}{Q:Value×LVa->ai->Prop}(X:K.In s.heap)(I:nC s.heap x dx C mA)(d:lc K C name=ab)
 (m:cP K (.ref C) name=aa (aa (.ref f)))(p:W.isFn K (.ref f)=ab)(hv:mA name=ac)(h:Q (.ref f,[.ref x]) s):
  wpAny (model prog w) A (jX (.ref x) name pl) Q E s:=by
 obtain⟨od,J,n⟩:=I.look;exact W.method_fn X J (W.plainGet_of d).1 (W.plainGet_of d).2 m (beq_iff_eq.mp p) (by show(W.lookIn name od).map (·.isSome)=aa ae;rw[n,hv];rfl) h
def IW{s:ai}{dx:Addr}{ns:LSt}(X:K.In s.heap)(I:nC s.heap x dx C mA)
 (U:cP K (.ref C) "__setattr__"=aa (aa (.builtin "object.__setattr__")))(T:nj K C=ab)(Y:W.takerIn K C name=aa ac)(L:l8 K C=ab)
 (hw:PySem.Within mA ns)(hsz:ns.length<=aR)
 (h:∀h',nC h' x dx C (λy=>if y=name then aa v else mA y)->gy dx s.heap h'->Q () {s with heap:=h',toks:=s.toks+2}):
  wpAny (model prog w) A (setAttr (.ref x) name v) Q E s:=by
 obtain⟨od,J,hl⟩:=I.look
 refine W.set_plain X J U (W.osa_open (s:={s with toks:=s.toks+1}) (r:=ac) X J T Y λb=>?_)
 obtain⟨cd,G,p⟩:=W.any_some L;have hx:s.heap.get? x=aa ⟨.ref C,aa dx,.plain,#[]⟩:=I.obj
 refine am (aD (am (am (wpAny_loadPart hx (am (W.Looks.here (s:={s with toks:=s.toks+1}) (W.looks_clsIn X G) ?_))))))
 rw[p];refine aD (a:=aa dx) (am (aD (am ?_)))
 refine wpAny_nsSet1 (s:={s with toks:=s.toks+1}) I.ns λh' d m=>?_
 obtain⟨oD,B,z,q,hdD,n⟩:=d.count (PySem.Within.cons name v hw);refine am (wpAny_lookBehind q (by rw[hdD];exact pastItsLine_dict (c3 n (by rw[cp];lia))) ?_);exact aD (h _ ⟨(m.2 _ (eZ I.ne)).trans I.obj,d,I.ne⟩ m)
variable{R:Result->ai->Prop}{kw:List (Str×Value)}
def IX{s:ai}{vs:LVa}(X:K.In s.heap)(hm:nr K C=ab)
 (hi:cP K (.ref C) "__init__"=aa (aa (.ref f)))(m:W.typeIn K (.ref f)=aa (.type "function"))
 (h:gV (model prog w) (A.under (.builtin "type.__call__" ⟨.ref C::vs,kw⟩)) (.call (.ref f) ⟨.ref (s.heap.objs.size + 1)::vs,kw⟩) (W.InitBack (s.heap.objs.size + 1) R)
   {s with heap:=(s.heap.push k9).push (l9 C s.heap.objs.size)}):
  gV (model prog w) A (.call (.ref C) ⟨vs,kw⟩) R s:=by
 obtain⟨n,g,d,t,os⟩:=s;exact W.make_core (W.makes_of X hm) (W.looks_findIn X hi) (λself=>W.bind_fn X self m) (.inl rfl) h
abbrev c5(f:Str)(v:V):List (Str×V)->List (Str×V)
 | []=>[(f,v)]
 |(g,x)::r=>if g=f then (g,v)::r else (g,x)::c5 f v r
def Cp(f g:Str)(v:V):∀fs:List (Str×V),(c5 f v fs).lookup g=if g=f then aa v else fs.lookup g
 | []=>by
  show jb g [(f,v)]=_
  by_cases h:g=f
  .have d:(g==f)=ab:=beq_iff_eq.mpr h;simp only[jb,d,if_pos h]
  .have d:(g==f)=ae:=beq_eq_false_iff_ne.mpr h
   simp only[jb,d,if_neg h]
 |(k,x)::r=>by
  have n:=Cp f g v r;rw[show c5 f v ((k,x)::r)=(if k=f then (k,v)::r else (k,x)::c5 f v r)from rfl]
  by_cases m:k=f
  .rw[if_pos m]
   by_cases h:g=k
   .have d:(g==k)=ab:=beq_iff_eq.mpr h;simp only[jb,d,if_pos (h.trans m)]
   .have d:(g==k)=ae:=beq_eq_false_iff_ne.mpr h;simp only[jb,d,if_neg (λe:g=f=>h (e.trans m.symm))]
  .rw[if_neg m]
   by_cases h:g=k
   .have d:(g==k)=ab:=beq_iff_eq.mpr h;simp only[jb,d,if_neg (λe:g=f=>m (h.symm.trans e))]
   .have d:(g==k)=ae:=beq_eq_false_iff_ne.mpr h;simp only[jb,d];exact n
def w6(f:Str)(v:V):∀fs:List (Str×V),f∈(c5 f v fs).map (·.1)/\∀g,g∈fs.map (·.1)->g∈(c5 f v fs).map (·.1)
 | []=>⟨by simp[c5],λg h=>by simp at h⟩
 |(k,x)::r=>by
  obtain⟨m,n⟩:=w6 f v r;rw[show c5 f v ((k,x)::r)=(if k=f then (k,v)::r else (k,x)::c5 f v r)from rfl]
  by_cases d:k=f
  .rw[if_pos d];subst d;exact⟨by simp,λg h=>by simpa using h⟩
  .rw[if_neg d];refine⟨?_,λg h=>?_⟩
   .rw[bp];exact bo _ m
   .rw[bp]at h ⊢
    rcases aQ.mp h with e |e
    .exact aQ.mpr (.inl e)
    .exact bo _ (n g e)
def Cq(f:Str)(v:V):∀fs:List (Str×V),(c5 f v fs).length<=fs.length+1
 | []=>by simp[c5]
 |(k,x)::r=>by
  have m:=Cq f v r;rw[show c5 f v ((k,x)::r)=(if k=f then (k,v)::r else (k,x)::c5 f v r)from rfl]
  by_cases d:k=f
  .rw[if_pos d,cp,cp];lia
  .rw[if_neg d,cp,cp];lia
variable{v:V}
def e9.some_of{o:Option Value}(r:e9 (aa v) o):∃u,o=aa u/\aE v u:=by
 cases o with
 |none=>exact(show False from r).elim
 |some u=>exact⟨u,rfl,r⟩
def e9.none_of{o:Option Value}(r:e9 ac o):o=ac:=by
 cases o with
 |none=>rfl
 |some u=>exact(show False from r).elim
def IY(r:aE v u):W.handedIn u=ab:=by
 cases v with
 |non=>cases (show u=iM from r);rfl
 |bl b=>cases (show u=gz b from r);rfl
 |int i=>obtain⟨t,e⟩:=(show ∃t,u=ni i t from r);cases e;rfl
 |str x=>obtain⟨t,e⟩:=(show ∃t,u=oP x t from r);cases e;rfl
 |byt b=>obtain⟨t,e⟩:=(show ∃t,u=Value.bytes b t from r);cases e;rfl
 |flt b=>obtain⟨t,e⟩:=(show ∃t,u=Value.float b t from r);cases e;rfl
 |ref a=>cases (show u=bJ a from r);rfl
 |ty n=>cases (show u=gA n from r);rfl
variable{a:Addr}{fs:List (Str×V)}
def s9{dx:Addr}(hok:HOk P w H h)(e:H a=aa (.ins C dx fs)):∃mA,nC h a dx C mA/\(∀f,e9 (fs.lookup f) (mA f))/\PySem.Within mA (fs.map (·.1))/\fs.length<=1000/\H dx=aa (.own a):=by
 obtain⟨d,z,ne,m,mA,n,r,q⟩:=(show cU P w H h a (.ins C dx fs)from hok a _ e);exact⟨mA,⟨m,n,ne⟩,r,q,z,d⟩
structure Cls(K:aV)(C:Addr):Prop where
 pg:lc K C oO=ab
 hd:l8 K C=ab
 po:nj K C=ab
 sa:cP K (.ref C) "__setattr__"=aa (aa (.builtin "object.__setattr__"))
def Cls.get(c:Cls K C)(f:Str):lc K C f=ab:=c.pg
abbrev dH(K:aV)(C:Addr)(f:Str):Prop:=cP K (.ref C) f=aa ac
variable{f:Str}
def dH.taker(n:dH K C f):W.takerIn K C f=aa ac:=by
 unfold W.takerIn;rw[show cP K (.ref C) f=aa ac from n];rfl
structure qE(K:aV)(C:Addr)(m:Str)(f:Addr):Prop where
 at_:cP K (.ref C) m=aa (aa (.ref f))
 fn:W.isFn K (.ref f)=ab
 kp:ji K (.ref f)=ab
def IZ{s:ai}{dx:Addr}{b:Bool}{Q:PRS}(I:Inv X pins σ H s)(e:H a=aa (.ins C dx fs))(c:Cls X.K C)(n:dH X.K C f)(l:fs.lookup f=aa v)
 (h:∀u s',Inv X pins σ H s'->aE v u->Q u s'):wpAny (model X.prog X.w) A (getAttr (.ref a) f b) Q E s:=by
 obtain⟨mA,O,r,_,_,_⟩:=s9 I.hok e;obtain⟨u,d,ru⟩:=e9.some_of (v:=v) (o:=mA f) (by rw[<- l];exact r f);exact IU I.kIn O (c.get f) c.hd n d (IY ru) (h u _ (I.tok _) ru)
variable{m:Str}
def Cr{s:ai}{dx:Addr}{g:Addr}{Q:Value×LVa->ai->Prop}(I:Inv X pins σ H s)(e:H a=aa (.ins C dx fs))(c:Cls X.K C)(k:qE X.K C m g)(l:fs.lookup m=ac)
 (h:Q (.ref g,[.ref a]) s):wpAny (model X.prog X.w) A (jX (.ref a) m pl) Q E s:=by
 obtain⟨mA,O,r,_,_,_⟩:=s9 I.hok e;have hn:mA m=ac:=e9.none_of (by rw[<- l];exact r m);exact IV I.kIn O (c.get m) k.at_ k.fn hn h
def I0{s:ai}{dx:Addr}(I:Inv X pins σ H s)(e:H a=aa (.ins C dx fs))(c:Cls X.K C)(n:dH X.K C f)(T:fs.length<1000)(J:aE y u)
 (h:∀s',Inv X pins σ (upd H a (.ins C dx (c5 f y fs))) s'->Q () s'):wpAny (model X.prog X.w) A (setAttr (.ref a) f u) Q E s:=by
 obtain⟨mA,O,r,wi,_,p⟩:=s9 I.hok e;have hz:(fs.map (·.1)).length<=aR:=by rw[aH,dG];lia
 refine IW I.kIn O c.sa c.po n.taker c.hd wi hz λh' d L=>h _ ?_;have hd:∃o,h'.get? dx=aa o:=let ⟨o,_,_,e',_⟩:=d.ns;⟨o,e'⟩;refine I.write (x:=a) (e:=dx) (by rw[e];exact iN) (.inr p) (λb q B z=>(L.2 b B).trans z) hd ?_;refine⟨by rw[aJ O.ne];exact p,?_,O.ne,d.obj,_,d.ns,λg=>?_,λg G=>?_⟩
 .have:=Cq f y fs;lia
 .show e9 ((c5 f y fs).lookup g) (if g=f then aa u else mA g);rw[Cp]
  by_cases q:g=f
  .rw[if_pos q,if_pos q];exact J
  .rw[if_neg q,if_neg q];exact r g
 .by_cases q:g=f
  .rw[q];exact(w6 f y fs).1
  .refine(w6 f y fs).2 g (wi g λz=>G ?_);show(if g=f then aa u else mA g)=ac;rw[if_neg q];exact z
def Inv.made{s:ai}(I:Inv X pins σ H s):Inv X pins σ (upd (upd H s.heap.objs.size (.own (s.heap.objs.size+1))) (s.heap.objs.size+1) (.ins C s.heap.objs.size []))
  {s with heap:=(s.heap.push k9).push (l9 C s.heap.objs.size)}:=by
 have d:(s.heap.push k9).get? s.heap.objs.size=aa k9:=cO s.heap rfl
 have p:((s.heap.push k9).push (l9 C s.heap.objs.size)).get? (s.heap.objs.size+1)=aa (l9 C s.heap.objs.size):=by
  have:=cO (s.heap.push k9) (o:=l9 C s.heap.objs.size) rfl
  rwa [iK]at this
 have z:(s.heap.push k9).Ns s.heap.objs.size (λ_=>ac):=⟨k9,#[],_,d,rfl,(λe B=>absurd B (by simp)),λ_=>rfl⟩;have n:=I.laid (a:=s.heap.objs.size) (o:=.own (s.heap.objs.size+1)) (h':=s.heap.push k9) (t':=s.toks) (λb u q=>bC _ q) (aL _) ⟨_,d⟩;refine n.laid (a:=s.heap.objs.size+1) (o:=.ins C s.heap.objs.size []) (t':=s.toks) (λb u q=>bC _ q) (Nat.le_of_eq (iK _ _)) ?_;have ne:s.heap.objs.size≠s.heap.objs.size+1:=bW (dh _);refine⟨by rw[aJ ne,aZ],c4 _,ne,p,λ_=>ac,(Heap.Ns1.of_empty z).at λo q=>bC _ q,λ_=>iN,λy G=>absurd rfl G⟩
variable{env:Env}
def Ja{s:ai}{Q:PRS}(n:oG e f env (eval e env)=eval e env)
 (h:wpAny (model prog w) A (eval e env) (λo d=>wpAny (model prog w) A (getAttr o f ab) Q E d) E s):wpAny (model prog w) A (eval (.Attribute e f pos) env) Q E s:=
 Attribute_any_ h (by rw[arm_eval_Attribute,n])
abbrev Jb(K:aV)(ta:TE)(f:Str):TE:=λσ H Q=>ta σ H λx H1=>∃a C dx fs v,x=.ref a/\H1 a=aa (.ins C dx fs)/\Cls K C/\dH K C f/\fs.lookup f=aa v/\Q v H1
abbrev Cs(K:aV)(ta d:TE)(f:Str):TS:=λD σ H=>d σ H λy H1=>ta σ H1 λx H2=>∃a C dx fs,x=.ref a/\H2 a=aa (.ins C dx fs)/\Cls K C/\dH K C f/\fs.length<1000 /\
 D.nx σ (upd H2 a (.ins C dx (c5 f y fs)))
def Ct(G:PE X e ta)(B:oG e f X.env (eval e X.env)=eval e X.env):PE X (.Attribute e f pos) (Jb X.K ta f):=by
 intro pins s σ H Q I h;refine Ja B (thn (G pins s σ H _ I h) λu s1 J=>?_);obtain⟨x,H1,d,L,a,C,dx,fs,v,ex,z,c,n,l,q⟩:=J;subst ex;obtain rfl:u=bJ a:=L;exact IZ d z c n l λT s2 p ru=>⟨v,H1,p,ru,q⟩
variable{value:Expr}{tv:TE}
def ls{o:Expr}(ha:PE X o ta)(hv:PE X value tv)(G:gx value (aa (.Attribute o f eH)) pos.line X.env=pure ae):PS X (.Assign [.Attribute o f eH] value pos) (Cs X.K ta tv f):=by
 intro pins s σ H D I h;refine plainObj_wpAny_Assign_Attribute (thn (hv pins s σ H _ I h) λu s1 ⟨y,H1,d,Y,q⟩=>thn (ha pins s1 σ H1 _ d q) λJ s2 T=>?_) G;obtain⟨x,H2,p,U,a,C,dx,fs,ex,B,c,n,l,L⟩:=T;subst ex;obtain rfl:J=bJ a:=U;exact I0 p B c n l Y λs3 z=>⟨σ,_,z,L⟩
inductive gY(K:aV)(H:Hp):V->Value->Prop where
 |non:gY K H .non (.type "NoneType")
 |bl (x:Bool):gY K H (.bl x) (.type "bool")
 |int (i:Int):gY K H (.int i) (.type "int")
 |str (x:Str):gY K H (.str x) (.type "str")
 |flt (x:UInt64):gY K H (.flt x) (.type "float")
 |lst {a:Addr} {xs:List V} (e:H a=aa (.lst xs)):gY K H (.ref a) (.type "list")
 |frz {a:Addr} {o:Obj} {xs:List V} (e:H a=aa (.frz o (.lst xs))):gY K H (.ref a) (.type "list")
 |tup {a:Addr} {xs:List V} (e:H a=aa (.tup xs)):gY K H (.ref a) (.type "tuple")
 |dK {a:Addr} {kvs:List (Key×V)} (e:H a=aa (.dK kvs)):gY K H (.ref a) (.type "dict")
 |dT {a:Addr} {kvs:List (List Key×V)} (e:H a=aa (.dT kvs)):gY K H (.ref a) (.type "dict")
 |ins {a C dx:Addr} {fs:List (Str×V)} (e:H a=aa (.ins C dx fs)) (cl:Cls K C) (ha:cP K (.ref C) "__class__"=aa (aa (.builtin "object.__class__")))
   (hn:W.specialIn K (.builtin "object.__class__") "__get__"=aa (aa (.builtin "getset_descriptor.__get__"))) (htk:W.takesIn K (.builtin "object.__class__")=aa ab)
   (hm:W.mroIn K C (.type "object")=aa ab):gY K H (.ref a) (.ref C)
variable{Q:PRS}{c:Value}{b:Bool}
def Jc{s:ai}{x:V}{u t:Value}(I:Inv X pins σ H s)(B:aE x u)(ty:gY X.K H x t)(e:W.kitOne X.K t c=aa b)(h:∀T,Q (.bool b) {s with toks:=T}):
  wpAny (model X.prog X.w) A (call (.builtin "isinstance") [u,c]) Q E s:=by
 cases ty with
 |non=>cases (show u=iM from B);exact jh W.kitx_none I.kIn iN e (λz=>nomatch z) h
 |bl y=>cases (show u=gz y from B);exact jh W.kitx_bool I.kIn iN e (λz=>nomatch z) h
 |int i=>obtain⟨t,q⟩:=(show ∃t,u=ni i t from B);cases q;exact jh W.kitx_int I.kIn iN e (λz=>nomatch z) h
 |str y=>obtain⟨t,q⟩:=(show ∃t,u=oP y t from B);cases q;exact jh W.kitx_str I.kIn iN e (λz=>nomatch z) h
 |flt y=>obtain⟨t,q⟩:=(show ∃t,u=Value.float y t from B);cases q;exact jh W.kitx_float I.kIn iN e (λz=>nomatch z) h
 | @lst a xs d=>
  cases (show u=bJ a from B);obtain⟨_,_,n,_,h1⟩:=(show cU X.prog X.w H s.heap a (.lst xs)from I.hok a _ d)
  exact jh W.kitx_list I.kIn ⟨_,h1,rfl⟩ e (λz=>nomatch z) h
 | @frz a L xs d=>
  cases (show u=bJ a from B);obtain⟨_,_,_,n,_,h1⟩:=(show cU X.prog X.w H s.heap a (.frz L (.lst xs))from I.hok a _ d)
  exact jh W.kitx_list I.kIn ⟨_,h1,rfl⟩ e (λz=>nomatch z) h
 | @tup a xs d=>
  cases (show u=bJ a from B);obtain⟨_,_,_,p⟩:=(show cU X.prog X.w H s.heap a (.tup xs)from I.hok a _ d);obtain⟨o,h1,h2,_⟩:=p
  exact jh W.kitx_tuple I.kIn ⟨o,h1,h2⟩ e (λz=>nomatch z) h
 | @dK a kvs d=>
  cases (show u=bJ a from B);obtain⟨_,_,vs,_,p⟩:=(show cU X.prog X.w H s.heap a (.dK kvs)from I.hok a _ d);obtain⟨o,es,G,h1,h2,_⟩:=p
  exact jh W.kitx_dict I.kIn ⟨o,h1,h2.1⟩ e (λz=>nomatch z) h
 | @dT a kvs d=>
  cases (show u=bJ a from B);obtain⟨_,_,xs,_,o,es,G,h1,h2,_⟩:=(show cU X.prog X.w H s.heap a (.dT kvs)from I.hok a _ d)
  exact jh W.kitx_dict I.kIn ⟨o,h1,h2.1⟩ e (λz=>nomatch z) h
 | @ins a C dx fs d cl ha hn htk hm=>
  cases (show u=bJ a from B);obtain⟨mA,O,_⟩:=s9 I.hok d;obtain⟨od,J,_⟩:=O.look;exact jh (W.kitx_own (cl.get _) cl.hd ha hn htk hm) I.kIn J e (λz=>nomatch z) h
structure bF(k:Nat)(A:cI):Prop where
 hd:A.handled=ac
 dp:A.depth+3*k+5<recursionLimit
 un:A.units+16*k+200<cLine
def bF.mono{j k:Nat}(r:bF k A)(h:j<=k):bF j A:=⟨r.hd,by have:=r.dp;lia,by have:=r.un;lia⟩
def bF.deeper{k:Nat}(r:bF (k+1) A)(env:Env):bF k (A.deeper env):=
 ⟨r.hd,by have:=r.dp;show A.depth+1+3*k+5<_;lia,by have:=r.un;show A.units+3+16*k+200<_;lia⟩
def Jd:(A.under (.builtin "type.__call__" ⟨.ref C::us,kw⟩)).depth=A.depth+1:=by
 first |rfl |simp[cI.under,Code.weight,Code.isCreation,Code.isGuard,Code.isCaller,Code.frames,Code.isFrame,guardIds]
def Je:(A.under (.builtin "type.__call__" ⟨.ref C::us,kw⟩)).units=A.units+1:=by
 first |rfl |simp[cI.under,Code.cUnits,Code.frames,Code.isFrame]
def bF.make{k:Nat}(r:bF (k+1) A)(C:Addr)(us:LVa)(kw:List (Str×Value)):bF k (A.under (.builtin "type.__call__" ⟨.ref C::us,kw⟩)):=
 ⟨r.hd,by have:=r.dp;rw[Jd];lia,by have:=r.un;rw[Je];lia⟩
def bF.depth{k:Nat}(r:bF k A):A.depth<recursionLimit:=by have:=r.dp;lia
def bF.units{k:Nat}(r:bF k A):A.units+64<cLine:=by have:=r.un;lia
abbrev jm:TA:=λ_ H Q=>Q [] H
abbrev me(ta:TE)(d:TA):TA:=λσ H Q=>ta σ H λx H1=>d σ H1 λxs H2=>Q (x::xs) H2
def c8:PA X [] jm:=λ_ _ _ _ H Q I h=>wG ⟨[],H,I,.nil,h⟩
def dz{t:TA}(ha:PE X e te)(p:PA X es t)(q:StE X e es:=by rfl):PA X (e::es) (me te t):=by
 intro pos pins s σ H Q I h;rw[q];show wpAny _ _ (spliced ((ae,eval e X.env)::cr pos (aO es X.env))) _ _ s;refine jZ (thn (ha pins s σ H _ I h) λu s1 G=>?_);obtain⟨x,H1,d,J,z⟩:=G;exact thn (p pos pins s1 σ H1 _ d z) λus s2 ⟨xs,H2,n,L,B⟩=>⟨x::xs,H2,n,.cons J L,B⟩
abbrev Jf(t:TA):TE:=λσ H Q=>t σ H λxs H1=>xs.length<=aR/\∀p,H1 p=ac->Q (.ref p) (upd H1 p (.tup xs))
abbrev w9(t:TA):TE:=λσ H Q=>t σ H λxs H1=>xs.length<=aR/\∀p,H1 p=ac->Q (.ref p) (upd H1 p (.lst xs))
def Jg{t:TA}{x1}(h:PA X es t):PE X (.Tuple es x1 pos) (Jf t):=by
 intro pins s σ H Q I p;refine wpAny_Tuple_spliced (thn (h pos pins s σ H _ I p) λus s1 ⟨xs,H1,d,r,z,q⟩=>⟨by rw[<- r.length];exact z,?_⟩);have n:H1 s1.heap.objs.size=ac:=d.hok.fresh (aL _);refine⟨.ref s1.heap.objs.size,upd H1 s1.heap.objs.size (.tup xs),d.laid (t':=s1.toks) (λb u e=>bC _ e) (aL _) ?_,rfl,q _ n⟩;exact⟨z,us,r,⟨_,cO _ rfl,rfl,_,rfl⟩⟩
def tf{t:TA}(h:PA X es t):PE X (.List es pos) (w9 t):=by
 intro pins s σ H Q I p;refine wpAny_List_spliced (thn (h pos pins s σ H _ I p) λus s1 ⟨xs,H1,d,r,z,q⟩=>⟨by rw[<- r.length];exact z,?_⟩);have n:H1 s1.heap.objs.size=ac:=d.hok.fresh (aL _);refine⟨.ref s1.heap.objs.size,upd H1 s1.heap.objs.size (.lst xs),d.laid (t':=s1.toks) (λb u e=>bC _ e) (aL _) ?_,rfl,q _ n⟩;exact⟨z,us,0,r,cO _ rfl⟩
@[reducible]noncomputable def Sp:=List V->Hp->VK->XK->Prop
@[reducible]noncomputable def CXT:=List Env->Hp->ai->XK->PRS
structure nE(P:cH)(w:World)(K:aV)(mg:MGT)(base:Heap)(A:cI)(outer:List Env)(s:ai)(H:Hp):Prop where
 frames:A.frames=aa outer
 mod:Mod K mg base
 bs:∀b o,base.get? b=aa o->s.heap.get? b=aa o/\H b=ac
 bsz:base.objs.size<=s.heap.objs.size
 funs:s.heap.FunFrames base outer
 frf:∀b∈frs outer,H b=ac
 hok:HOk P w H s.heap
 bare:k4 s.gens
abbrev CE(outer:List Env)(P:cH)(w:World)(H:Hp)(s:ai)(Q:VK)(u:Value)(s':ai):Prop:=
 ∃v H',s'.os=s.os/\k4 s'.gens/\Un (frs outer) [] H H' s.heap s'.heap/\HOk P w H' s'.heap/\aE v u/\Q v H'
abbrev CR(CX:CXT)(outer:List Env)(P:cH)(w:World)(H:Hp)(s:ai)(Q:VK)(E:XK)(r:Result)(s':ai):Prop:=
 match r with
 |.ok (.ret u)=>CE outer P w H s Q u s'
 |.ok _=>False
 |.error e=>CX outer H s E e s'
structure c9(P:cH)(w:World)(K:aV)(mg:MGT)(base:Heap)(CX:CXT)(k:Nat)(f:Addr)(fd:eA)(ps:LSt)(sp:Sp):Prop where
 len:∀vs H Q E,sp vs H Q E->vs.length=ps.length
 run:∀(A:cI) (outer:List Env) (s:ai) (H:Hp) (args:Args) (us:LVa) (vs:List V) (Q:VK) (E:XK),bF k A->nE P w K mg base A outer s H->BindsTo s fd args (ps.zip us)->aC vs us->sp vs H Q E ->
  gV (model P w) A (.call (.ref f) args) (CR CX outer P w H s Q E) s
variable{mg:MGT}{base:Heap}{CX:CXT}{f:Addr}{fd:eA}{ps:LSt}{sp:Sp}
def c9.imp{k:Nat}{d:Sp}(F:c9 P w K mg base CX k f fd ps sp)
 (h:∀vs H Q E,d vs H Q E->sp vs H Q E):c9 P w K mg base CX k f fd ps d:=
 ⟨λvs H Q E q=>F.len vs H Q E (h _ _ _ _ q),λA outer s H args us vs Q E z p n hv B=>F.run A outer s H args us vs Q E z p n hv (h _ _ _ _ B)⟩
variable{outer:List Env}
def nE.make{s:ai}(e:nE P w K mg base A outer s H)(C:Addr)(us:LVa)(kw:List (Str×Value)):
  nE P w K mg base (A.under (.builtin "type.__call__" ⟨.ref C::us,kw⟩)) outer s H:=⟨by first |exact e.frames |(simpa[cI.under,Code.envs,Code.isFrame,pushEnvs]using e.frames),e.mod,e.bs,e.bsz,e.funs,e.frf,e.hok,e.bare⟩
def Inv.env0{s:ai}(I:Inv X pins σ H s):nE X.prog X.w X.K X.mg X.base X.A X.stack s H:=
 ⟨I.ok.frames,I.ok.mod,I.bs,c3 I.ok.bsz I.sz,I.stack,I.stkFree,I.hok,I.bare⟩
variable{Q:VK}
def Inv.after{s:ai}(I:Inv X pins σ H s)(h:CE X.stack X.prog X.w H s Q u s'):EP X pins σ Q u s':=by
 obtain⟨v,H',os,bare,un,hok,r,q⟩:=h;obtain⟨p,g,d,t,n⟩:=s';obtain rfl:n=s.os:=os;exact⟨v,H',I.call (h':=p) (g':=g) (d':=d) (t':=t) (ch:=[]) un hok bare (λb z=>absurd z (by simp)),r,q⟩
abbrev Jh(sp:Sp)(d:List V)(E:XK)(t:TA):TE:=λσ H Q=>t σ H λvs H1=>sp (vs++d) H1 Q E
abbrev tj(C:Addr)(m:Str)(sp:Sp)(d:List V)(E:XK)(ta:TE)(t:TA):TE:=λσ H Q=>ta σ H λx H1=>∃a dx fs,x=.ref a/\H1 a=aa (.ins C dx fs)/\fs.lookup m=ac /\
 t σ H1 λvs H2=>sp (x::(vs++d)) H2 Q E
abbrev Cu(C:Addr)(sp:Sp)(d:List V)(E:XK)(t:TA):TE:=λσ H Q=>t σ H λvs H1=>∀x dx,H1 x=ac->H1 dx=ac->dx≠x ->
 sp (.ref x::(vs++d)) (upd (upd H1 dx (.own x)) x (.ins C dx [])) (λv H2=>v=.non/\Q (.ref x) H2) E
abbrev gB(K:aV)(fd:eA)(ps:LSt)(ds:LVa):Prop:=
 ∀(s:ai) (us:LVa),K.In s.heap->(us++ds).length=ps.length->BindsTo s fd ⟨us,[]⟩ (ps.zip (us++ds))
def gB.all(h:∀us:LVa,us.length=ps.length->bindArgs fd ⟨us,[]⟩=pure (ps.zip us)):gB K fd ps []:=λs us _ d=>by
 rw[cB]at d ⊢;exact .of_eq (h us d)
abbrev nF(CX:CXT)(X:Cx)(E:XK):Prop:=∀(pins:PNS) (σ:St) (H:Hp) (s:ai) (e:Value) (s':ai),Inv X pins σ H s->CX X.stack H s E e s'->X.xe e s'
variable{ir vs:List V}{ds:LVa}{E:XK}
def xc{k:Nat}{s:ai}(F:c9 X.prog X.w X.K X.mg X.base CX k f fd ps sp)(B:bF k X.A)(q:gB X.K fd ps ds)(hd:aC ir ds)(hx:nF CX X E)
 (I:Inv X pins σ H s)(r:aC vs us)(h:sp (vs++ir) H Q E):wpAny (model X.prog X.w) X.A (call (.ref f) us) (EP X pins σ Q) X.xe s:=by
 have n:aC (vs++ir) (us++ds):=r.append hd;have z:(us++ds).length=ps.length:=by rw[<- n.length];exact F.len _ _ _ _ h
 refine wpAny_call (lY (F.run X.A X.stack s H ⟨us,[]⟩ (us++ds) (vs++ir) Q E B I.env0 (q s us I.kIn z) n h) λr s' d=>?_)
 cases r with
 |error e=>exact hx pins σ H s e s' I d
 |ok p=>
  cases p with
  |ret u=>exact I.after d
  |next=>exact ij d
  |brk=>exact ij d
  |cont=>exact ij d
variable{x:Str}{p:Pos}
def tm{k:Nat}{t:TA}(F:c9 X.prog X.w X.K X.mg X.base CX k f fd ps sp)(T:bF k X.A)(J:Gl X x)(hm:X.mg x=aa (.ref f))(L:ji X.K (.ref f)=ab)(B:gB X.K fd ps ds)(hd:aC ir ds)(hx:nF CX X E)
 (ha:PA X (e::es) t)(d:NDb x:=by decide)(G:StE X e es:=by rfl)(n:BkE X pos es:=by rfl):
  PE X (.Call (.Name x p) (e::es) [] pos) (Jh sp ir E t):=by
 intro pins s σ H Q I h;refine k6 (Ca I J hm ?_ d);refine W.callWith_K (h₀:=X.base) I.ok.mod.kin L (thn (ha pos pins s σ H _ I h) λus s1 ⟨vs,H1,z,r,q⟩=>⟨z.kIn,?_⟩) G n;exact xc F T B hd hx z r q
variable{apos:Pos}
def xf{k:Nat}{o:Expr}{t:TA}(L:PE X o ta)(c:Cls X.K C)(hm:qE X.K C m f)(F:c9 X.prog X.w X.K X.mg X.base CX k f fd ps sp)(T:bF k X.A)(J:gB X.K fd ps ds)(hd:aC ir ds)(hx:nF CX X E)(ha:PA X (e::es) t)
 (n:StE X e es:=by rfl)(d:BkE X pos es:=by rfl)
 (U:eval (.Call (.Attribute o m apos) (e::es) [] pos) X.env=(do
   let ov <- eval o X.env
   iI apos.atName
   let (f,first) <- fG [ov] (jX ov m pl)
   l6 pos f first (cr pos (aO (e::es) X.env)) (jY pos (jW [] X.env))):=by rfl):
  PE X (.Call (.Attribute o m apos) (e::es) [] pos) (tj C m sp ir E ta t):=by
 intro pins s σ H Q I h;refine W.methodCall_KW (pl:=pl) (thn (L pins s σ H _ I h) λu s1 q_=>?_) U;obtain⟨x,H1,z,rx,a,dx,fs,ex,G,l,q⟩:=q_;subst ex;obtain rfl:u=bJ a:=rx;refine Cr z G c hm l ?_
 refine W.callWith_K (first:=[.ref a]) (h₀:=X.base) I.ok.mod.kin hm.kp (thn (ha pos pins s1 σ H1 _ z q) λus s2 ⟨vs,H2,B,r,Y⟩=>⟨B.kIn,?_⟩) n d
 exact xc (us:=.ref a::us) (vs:=.ref a::vs) F T J hd hx B (.cons rfl r) Y
def xg{k:Nat}{o:Expr}(B:PE X o ta)(c:Cls X.K C)(hm:qE X.K C m f)(F:c9 X.prog X.w X.K X.mg X.base CX k f fd ps sp)(G:bF k X.A)(z:gB X.K fd ps ds)(hd:aC ir ds)(hx:nF CX X E)
 (J:eval (.Call (.Attribute o m apos) [] [] pos) X.env=(do
   let ov <- eval o X.env
   iI apos.atName
   let (f,first) <- fG [ov] (jX ov m pl)
   l6 pos f first (cr pos (aO [] X.env)) (jY pos (jW [] X.env))):=by rfl):
  PE X (.Call (.Attribute o m apos) [] [] pos) (tj C m sp ir E ta jm):=by
 intro pins s σ H Q I h;refine W.methodCall_KW (pl:=pl) (thn (B pins s σ H _ I h) λu s1 L=>?_) J;obtain⟨x,H1,d,T,a,dx,fs,ex,n,l,q⟩:=L;subst ex;obtain rfl:u=bJ a:=T;refine Cr d n c hm l ?_
 exact W.callWith_K0 (first:=[.ref a]) d.kIn hm.kp (xc (us:=[.ref a]) (vs:=[.ref a]) F G z hd hx d (.cons rfl .nil) q)
structure Mk(K:aV)(C f:Addr):Prop where
 makes:nr K C=ab
 init:cP K (.ref C) "__init__"=aa (aa (.ref f))
 fn:W.isFn K (.ref f)=ab
 kp:ji K (.ref C)=ab
def Ji{k:Nat}{s:ai}(M:Mk X.K C f)(F:c9 X.prog X.w X.K X.mg X.base CX k f fd ps sp)(U:bF (k+1) X.A)(L:gB X.K fd ps ds)(hd:aC ir ds)
 (hx:nF CX X E)(I:Inv X pins σ H s)(r:aC vs us)
 (h:∀x dx,H x=ac->H dx=ac->dx≠x->sp (.ref x::(vs++ir)) (upd (upd H dx (.own x)) x (.ins C dx [])) (λv H2=>v=.non/\Q (.ref x) H2) E):
  wpAny (model X.prog X.w) X.A (call (.ref C) us) (EP X pins σ Q) X.xe s:=by
 have q:=h (s.heap.objs.size+1) s.heap.objs.size (I.hok.fresh (kX _)) (I.hok.fresh (aL _)) (bW (dh _));have n:=Inv.made (C:=C) I;have z:aC (V.ref (s.heap.objs.size+1)::(vs++ir)) (bJ (s.heap.objs.size+1)::(us++ds)):=.cons rfl (r.append hd)
 have T:(bJ (s.heap.objs.size+1)::us++ds).length=ps.length:=by
  have e:=z.length;rw[F.len _ _ _ _ q]at e;exact e.symm
 refine wpAny_call (IX (f:=f) I.kIn M.makes M.init (beq_iff_eq.mp M.fn) (lY (F.run _ X.stack _ _ ⟨bJ (s.heap.objs.size + 1)::us,[]⟩ (bJ (s.heap.objs.size + 1)::(us++ds)) _ _ E (U.make C us [])
  (n.env0.make C us []) (L _ (bJ (s.heap.objs.size+1)::us) n.kIn T) z q) λr s' d=>?_))
 cases r with
 |error e=>exact hx pins σ _ _ e s' n d
 |ok J=>
  cases J with
  |ret u=>
   obtain⟨v,H',B,rv,G,Y⟩:=n.after d;subst G
   exact⟨rv,⟨V.ref (s.heap.objs.size+1),H',B,rfl,Y⟩⟩
  |next=>exact ij d
  |brk=>exact ij d
  |cont=>exact ij d
def Cv{k:Nat}{t:TA}(M:Mk X.K C f)(F:c9 X.prog X.w X.K X.mg X.base CX k f fd ps sp)(L:bF (k+1) X.A)(J:Gl X x)(hm:X.mg x=aa (.ref C))(B:gB X.K fd ps ds)(hd:aC ir ds)(hx:nF CX X E)
 (ha:PA X (e::es) t)(d:NDb x:=by decide)(G:StE X e es:=by rfl)(n:BkE X pos es:=by rfl):
  PE X (.Call (.Name x p) (e::es) [] pos) (Cu C sp ir E t):=by
 intro pins s σ H Q I h;refine k6 (Ca I J hm ?_ d);refine W.callWith_K (h₀:=X.base) I.ok.mod.kin M.kp (thn (ha pos pins s σ H _ I h) λus s1 ⟨vs,H1,z,r,q⟩=>⟨z.kIn,?_⟩) G n;exact Ji M F L B hd hx z r q
structure aM(N P:LSt)(sc:Scope):Prop where
 kind:sc.kind=.function
 co:sc.isCoroutine=ae
 gen:sc.isGenerator=ae
 nd:N.Nodup
 pre:N.take P.length=P
 par:∀x∈P,sc.names.lookup x=aa .local\/sc.names.lookup x=aa .cell
 nofree:∀y∈sc.names,y.2≠.free
def Cw{kindOf:Str->Option ga}{x:Str}:∀{binds:List (Str×Value)} {m:MGT},(∀v,(x,v)∉binds)->bindL kindOf binds m x=m x
 | [],_,_=>rfl
 |(n,v)::r,m,h=>by
  unfold bindL;rw[Cw λw d=>h w (bo _ d)];split
  .have:x≠n:=by rintro rfl;exact h v aN
   simp[this]
  .rfl
def Cy{kindOf:Str->Option ga}{x:Str}:∀{binds:List (Str×Value)} {m:MGT},(∀v,(x,v)∉binds)->bindC kindOf binds m x=m x
 | [],_,_=>rfl
 |(n,v)::r,m,h=>by
  unfold bindC;rw[Cy λw d=>h w (bo _ d)];split
  .rfl
  .have:x≠n:=by rintro rfl;exact h v aN
   simp[this]
def Cz{kindOf:Str->Option ga}{x:Str}{v:Value}:∀{P:LSt} {vs:LVa} {i:Nat} {m:MGT},P.Nodup->P[i]?=aa x->vs[i]?=aa v->kindOf x=aa .local ->
  bindL kindOf (P.zip vs) m x=aa v
 | [],_,_,_,_,h,_,_=>by simp at h
 | _::_,[],_,_,_,_,h,_=>by simp at h
 |p::P,w::vs,0,m,nd,h1,h2,hk=>by
  simp at h1 h2;subst h1;subst h2;show bindL kindOf ((p,w)::P.zip vs) m p=_;unfold bindL;rw[Cw λv hv=>(cZ.mp nd).1 (of_mem_zip hv).1,if_pos hk]
  simp
 |p::P,w::vs,i+1,m,nd,h1,h2,hk=>by
  show bindL kindOf ((p,w)::P.zip vs) m x=_;unfold bindL;exact Cz (i:=i) (cZ.mp nd).2 (by simpa using h1) (by simpa using h2) hk
def CA{kindOf:Str->Option ga}{x:Str}{v:Value}:∀{P:LSt} {vs:LVa} {i:Nat} {m:MGT},P.Nodup->P[i]?=aa x->vs[i]?=aa v->kindOf x≠aa .local ->
  bindC kindOf (P.zip vs) m x=aa v
 | [],_,_,_,_,h,_,_=>by simp at h
 | _::_,[],_,_,_,_,h,_=>by simp at h
 |p::P,w::vs,0,m,nd,h1,h2,hk=>by
  simp at h1 h2;subst h1;subst h2;show bindC kindOf ((p,w)::P.zip vs) m p=_;unfold bindC;rw[Cy λv hv=>(cZ.mp nd).1 (of_mem_zip hv).1,if_neg hk]
  simp
 |p::P,w::vs,i+1,m,nd,h1,h2,hk=>by
  show bindC kindOf ((p,w)::P.zip vs) m x=_;unfold bindC;exact CA (i:=i) (cZ.mp nd).2 (by simpa using h1) (by simpa using h2) hk
abbrev start(N:LSt)(vs:List V):St:=vs.map aa++jS (N.length-vs.length) ac
abbrev jn(CX:CXT)(P:cH)(w:World)(K:aV)(mg:MGT)(base:Heap)(N:LSt)(qual:Str)(scope:Scope)(f:Addr)(cd:Value)(A:cI)(outer:List Env)(s:ai)(H:Hp)(E:XK):Cx where
 prog:=P
 w:=w
 K:=K
 mg:=mg
 base:=base
 A:=A.deeper (gT qual scope s.heap.objs.size f cd)
 N:=N
 s₀:=s
 H₀:=H
 env:=gT qual scope s.heap.objs.size f cd
 outer:=outer
 stack:=gT qual scope s.heap.objs.size f cd::outer
 ex:=[]
 calm:=ab
 fn:=λ_=>ab
 pn:=[]
 xe:=λe s'=>wpAny (model P w) (A.deeper (gT qual scope s.heap.objs.size f cd)) (leaving (gT qual scope s.heap.objs.size f cd) e) (λ_ s''=>CX outer H s E e s'') (λe' s''=>CX outer H s E e' s'') s'
variable{n:Nat}
def CB{sc:Scope}(h:sc.names.lookup x=aa .cell):∃c,(cellsFrom n sc.names []).lookup x=aa c:=by
 have q:=W.cellsFrom_some sc.names n [] (.inl h);exact wy.mp q
variable{qual:Str}{scope:Scope}
def Jj{J:Value}{s s1:ai}
 (S:aM N ps scope)(hd:A.handled=ac)(e0:nE P w K mg base A outer s H)(hl:vs.length=ps.length)(r:aC vs us)
 (x:InCallC s s.heap.objs.size (bindL (gT qual scope s.heap.objs.size f J).kindOf (ps.zip us) λ_=>ac) (cellsFrom (s.heap.objs.size+1) scope.names []) (bindC (gT qual scope s.heap.objs.size f J).kindOf (ps.zip us) λ_=>ac) s1):
  Inv (jn CX P w K mg base N qual scope f J A outer s H E) [] (start N vs) H s1:=by
 have U:ps.length<=N.length:=by have:=congrArg List.length S.pre;rw[jT]at this;lia
 obtain⟨h1,tk,rfl,L⟩:=x.done;have B:∀b:Addr,b∉(jn CX P w K mg base N qual scope f J A outer s H E).ex:=λb z=>absurd (show b∈([]:LAd)from z) (by simp)
 refine⟨⟨e0.mod,S.kind,rfl,rfl,aL _,λy z c h1 h2=>?_,λy d=>?_,λy c _ h=>?_,λ_=>hd,cI.frames_deeper e0.frames,.inr ⟨rfl,rfl⟩,λb z=>absurd z (B b),e0.bs,e0.bsz,λb _ _=>B b,λb z=>absurd z (B b),e0.funs,e0.frf⟩,
  rfl,e0.bare,Un.kept L,⟨_,x.toInCall.ns,λi y v h1 h2 h3=>?_⟩,λy c h=>⟨_,x.cell y c h⟩,e0.hok.fresh (aL _),λy c h=>?_,λp G=>absurd (show p∈([]:PNS)from G) (by simp),e0.hok.kept L,?_⟩
 .exact name_of_addr x.apart (qu h1) (qu h2)
 .have d:scope.names.lookup y=aa .cell\/scope.names.lookup y=aa .free:=d
  rcases d with d |d
  .exact CB d
  .exact absurd rfl (S.nofree _ (qu d))
 .exact f7 (x.above y c (qu h))
 .have hi:i<vs.length:=by
   unfold start at h2
   by_cases hi:i<vs.length
   .exact hi
   .rw[lQ (by simpa using hi)]at h2;rw[wm]at h2
    split at h2 <;> cases h2
  have ha:vs[i]?=aa v:=by
   unfold start at h2;rw[lR (by simpa using hi),cA]at h2
   cases e:vs[i]? with
   |none=>rw[e]at h2;cases h2
   |some a=>rw[e]at h2;cases h2;rfl
  obtain⟨u,T,Y⟩:=r.get ha
  have G:ps[i]?=aa y:=by
   rw[<- S.pre,List.getElem?_take_of_lt (by lia)];exact h1
  have I:ps.Nodup:=by rw[<- S.pre];exact S.nd.sublist (take_sublist _ _)
  refine⟨u,Y,?_⟩
  rcases S.par y (dM G)with k |k
  .exact .inl ⟨k,Cz I G T k⟩
  .obtain⟨c,e⟩:=CB (n:=s.heap.objs.size+1) k;refine .inr ⟨.inl k,c,e,?_⟩;have q:=x.cell y c e;rw[CA I G T (by show scope.names.lookup y≠_;rw[k];decide)]at q;exact q
 .exact e0.hok.fresh (f7 (x.above y c (qu h)))
 .unfold start;show _=N.length;rw[a8,aH,sA];lia
variable{an od:Option Addr}{osl:Array (Option Value)}
def Jk{k:Nat}{params:Arguments}{dV kV doc pm cdv ct oc:Value}
  (lk:K.lookup f=aa ⟨oc,od,.func (W.fnOf name qual params body scope dV kV doc pm an cdv ct),osl⟩)(T:W.codeIn K cdv qual=ab)(S:aM N ps scope)
 (len:∀vs H Q E,sp vs H Q E->vs.length=ps.length)
 (z:∀ (A:cI) (outer:List Env) (s:ai) (H:Hp) (vs:List V) (Q:VK) (E:XK),bF k (A.deeper (gT qual scope s.heap.objs.size f cdv))->sp vs H Q E ->
   ∃t,PSs (jn CX P w K mg base N qual scope f cdv A outer s H E) body t/\t {nx:=λ_ H'=>Q .non H',rt:=Q} (start N vs) H):
  c9 P w K mg base CX (k+1) f (W.fnOf name qual params body scope dV kV doc pm an cdv ct) ps sp:=by
 refine⟨len,λA outer s H args us vs Q E U e0 hb r L=>?_⟩;have hl:=len _ _ _ _ L;have KX:K.In s.heap:=e0.mod.kin.keeps λb o e=>(e0.bs b o e).1;have Y:s.heap.NoLimit:=e0.mod.nolimit.keeps λb o e=>(e0.bs b o e).1
 have B:∀y∈ps.zip us,scope.names.lookup y.1=aa .local\/(scope.names.lookup y.1=aa .cell/\((cellsFrom (s.heap.objs.size+1) scope.names []).lookup y.1).isSome=ab):=λ⟨n,v⟩ hy=>by
  rcases S.par n (of_mem_zip hy).1 with q |q
  .exact .inl q
  .exact .inr ⟨q,W.cellsFrom_some _ _ _ (.inl q)⟩
 refine codeAny_call_function U.depth (KX _ _ lk) rfl S.co S.gen rfl (W.codeRec_of KX T) (hb _ _ _ _ ?_);refine wpAny_newFunctionEnv_cells S.kind B λenv he s1 x=>?_;subst he;refine⟨Y.keeps x.toInCall.keep,codeAny_func ?_⟩;obtain⟨t,ht,hq⟩:=z A outer s H vs Q E (U.deeper _) L;have I:Inv (jn CX P w K mg base N qual scope f cdv A outer s H E) [] (start N vs) H s1:=Jj S U.hd e0 hl r x;refine f8 (ht [] s1 (start N vs) H _ I hq) (λfl s' G=>?_) λe s' G=>G
 have fin:∀{d:St} {H':Hp} {v:V} {u:Value},Inv (jn CX P w K mg base N qual scope f cdv A outer s H E) [] d H' s'->aE v u->Q v H'->CE outer P w H s Q u s':=
  λ{d H' v u} J rv q=>⟨v,H',J.os,J.bare,J.base,J.hok,rv,q⟩
 cases fl with
 |ret u=>
  obtain⟨v,d,H',J,rv,q⟩:=G
  exact fin J rv q
 |next=>
  obtain⟨d,H',J,q⟩:=G
  exact fin (v:=V.non) (u:=iM) J rfl q
 |brk=>
  obtain⟨_,_,_,q⟩:=G
  exact ij q
 |cont=>
  obtain⟨_,_,_,q⟩:=G;exact ij q
abbrev tCB(r:List V->Hp->VK->Prop)(t:TA):TE:=λσ H Q=>t σ H λvs H1=>r vs H1 Q
variable{r:List V->Hp->VK->Prop}
def xh{t:TA}{id:String}(B:iw X (.builtin id) r)(J:Gl X x)(hm:X.mg x=ac)(hv:jf x=aa (.builtin id))(ha:PA X (e::es) t)(hn:x ≠ "__name__":=by decide)(d:NDb x:=by decide)
 (G:StE X e es:=by rfl)(q:BkE X pos es:=by rfl):PE X (.Call (.Name x p) (e::es) [] pos) (tCB r t):=by
 intro pins s σ H Q I h;refine k6 (jl I J hm hv ?_ hn d);exact wz (thn (ha pos pins s σ H _ I h) λus s1 ⟨vs,H1,z,T,L⟩=>B pins s1 σ H1 vs us Q z T L) G q
variable{T:String}
def Jl{t:TA}(B:iw X (.type T) r)(J:Gl X x)(hm:X.mg x=ac)(hv:jf x=aa (.type T))(ha:PA X (e::es) t)(hn:x ≠ "__name__":=by decide)(d:NDb x:=by decide)
 (G:StE X e es:=by rfl)(q:BkE X pos es:=by rfl):PE X (.Call (.Name x p) (e::es) [] pos) (tCB r t):=by
 intro pins s σ H Q I h;refine k6 (jl I J hm hv ?_ hn d);exact mS (thn (ha pos pins s σ H _ I h) λus s1 ⟨vs,H1,z,U,L⟩=>B pins s1 σ H1 vs us Q z U L) G q
end L2
namespace HT
open List
open PySem PyProof.Rows
open PySem.SeqAt
open PySem.AutoSeq1 (wpAny_loadPart')
open PySem.MeetsSeq PySem.MeetsSeq2 PySem.MeetsSeq3
abbrev sIx(n d:Nat):Option Int->Nat
 |none=>d
 |some v=>if v<0 then (v+(n:Int)).toNat else min v.toNat n
def sIx_nat(n d k:Nat):sIx n d (aa (k:Int))=min k n:=by
 show(if (k:Int)<0 then ((k:Int)+(n:Int)).toNat else min (k:Int).toNat n)=min k n;rw[if_neg (by lia),eI]
end HT
namespace L2
open List
open PySem PySem.Spec PyProof.Rows
@[reducible]noncomputable def TO:=St->Hp->(Option Int->Hp->Prop)->Prop
abbrev PO(X:Cx)(e:Option Expr)(t:TO):Prop:=
 ∀(pins:PNS) (s:ai) (σ:St) (H:Hp) (Q:Option Int->Hp->Prop),Inv X pins σ H s->t σ H Q ->
  wpAny (model X.prog X.w) X.A (evalPart e X.env) (λu s'=>∃o H',Inv X pins σ H' s'/\IsPart u o/\Q o H') X.xe s
abbrev Jm:TO:=λ_ H Q=>Q ac H
abbrev Jn(t:TE):TO:=λσ H Q=>t σ H λx a=>∃i,x=.int i/\Q (aa i) a
variable{ns:List Int}
def Jo:∀{us:LVa},aC (ns.map V.int) us->e8 us ns:=by
 induction ns with
 |nil=>intro us r;rw[map_nil]at r;cases r;exact .nil
 |cons n ns a=>
  intro us r;rw[bp]at r
  cases r with
  |cons b c=>
   obtain⟨t,e⟩:=b;subst e;exact .cons n t (a c)
variable{X:Cx}
def Jp:PO X ac Jm:=by
 intro pins s σ H Q I h;rw[evalPart_none];exact aD ⟨ac,H,I,.none,h⟩
variable{e:Expr}{te:TE}
def Js(h:PE X e te):PO X (aa e) (Jn te):=by
 intro pins s σ H Q I c;rw[evalPart_some];refine thn (h pins s σ H _ I c) λu s1 f=>?_;obtain⟨x,a,b,g,d⟩:=f;obtain⟨i,rfl,q⟩:=d;obtain⟨t,rfl⟩:=g;exact⟨aa i,a,b,.int i t,q⟩
variable{lo hi:Option Expr}
abbrev SlR(X:Cx)(r:V->Option Int->Option Int->Hp->VK->Prop):Prop:=
 ∀(pins:PNS) (s:ai) (σ:St) (H:Hp) (x:V) (v vl a:Value) (lo hi:Option Int) (sl:Addr) (Q:VK),Inv X pins σ H s->aE x v->s.heap.IsSliceOf sl vl a .none->IsPart vl lo->IsPart a hi->r x lo hi H Q ->
  ∃T id,mZ (.type T) "__getitem__"=pure (aa (.builtin id))/\s.TypeIs v T/\wpAny (model X.prog X.w) X.A (getItem v (.ref sl)) (EP X pins σ Q) X.xe s
abbrev tSl(r:V->Option Int->Option Int->Hp->VK->Prop)(te:TE)(d c:TO):TE:=λσ H Q=>te σ H λx a=>d σ a λl H2=>c σ H2 λu b=>r x l u b Q
variable{tl th:TO}{pos p2:Pos}
def Jt{r:V->Option Int->Option Int->Hp->VK->Prop}(C:SlR X r)(y:PE X e te)(B:PO X lo tl)(G:PO X hi th):PE X (.Subscript e (.Slice lo hi ac p2) pos) (tSl r te tl th):=by
 intro pins s σ H Q I h;refine Subscript_ (thn (y pins s σ H _ I h) λv s1 d=>?_);obtain⟨x,g,i,U,L⟩:=d;refine wpAny_Slice (thn (B pins s1 σ g _ i L) λvl s2 ⟨l,H2,j,pl,M⟩=>thn (G pins s2 σ H2 _ j M) λc a d=>?_);obtain⟨u,f,m,J,N⟩:=d;rw[evalPart_none];refine aD ?_
 have n:Inv X pins σ f {a with heap:=a.heap.push {cls:=.type "slice",data:=.fields #[vl,c,.none]}}:=m.kept (t':=a.toks) λb Y q=>bC _ q
 obtain⟨T,id,p,E,z⟩:=C pins {a with heap:=a.heap.push {cls:=.type "slice",data:=.fields #[vl,c,.none]}} σ f x v vl c l u a.heap.objs.size Q n U (Heap.IsSliceOf.new ..) pl J N
 show wpAny (model X.prog X.w) X.A (subscriptTail e (.Slice lo hi ac p2) v (.ref a.heap.objs.size)) (EP X pins σ Q) X.xe {a with heap:=a.heap.push {cls:=.type "slice",data:=.fields #[vl,c,.none]}}
 exact tail_any (ops:=[.ref a.heap.objs.size,v]) E p z (by with_unfolding_all rfl)
abbrev mf(xs:List V)(lo hi:Option Int):List V:=(xs.drop (HT.sIx xs.length 0 lo)).take (HT.sIx xs.length xs.length hi-HT.sIx xs.length 0 lo)
def Ju(xs:List V)(lo hi:Option Int):(mf xs lo hi).length<=xs.length:=by
 unfold mf;rw[jT,kO];lia
abbrev ixN(n:Nat)(i:Int):Option Nat:=if 0<=i then (if i<n then aa i.toNat else ac) else if -(n:Int)<=i then aa (i+n).toNat else ac
abbrev atI{a:Type}(xs:List a)(i:Int):Option a:=(ixN xs.length i).bind λj=>xs[j]?
variable{n j:Nat}{i:Int}
def CC(h:ixN n i=aa j):seqIndex? i n=aa j/\j<n/\-(n:Int)<=i/\i<n:=by
 unfold ixN at h
 by_cases b:0<=i
 .rw[if_pos b]at h
  by_cases a:i<n
  .rw[if_pos a]at h;have e:i.toNat=j:=cN h;exact⟨by rw[seqIndex_of b a,e],by lia,by lia,a⟩
  .rw[if_neg a]at h;cases h
 .rw[if_neg b]at h
  by_cases a:-(n:Int)<=i
  .rw[if_pos a]at h;have e:(i+n).toNat=j:=cN h;exact⟨by rw[seqIndex_neg (by lia) a,e],by lia,a,by lia⟩
  .rw[if_neg a]at h;cases h
def CD{a:Type}{xs:List a}{v:a}(h:atI xs i=aa v):∃j,seqIndex? i xs.length=aa j/\xs[j]?=aa v/\j<xs.length/\-(xs.length:Int)<=i/\i<xs.length:=by
 unfold atI at h
 cases e:ixN xs.length i with
 |none=>rw[e]at h;cases h
 |some j=>
  rw[e]at h;obtain⟨b,c,d,f⟩:=CC e;exact⟨j,b,h,c,d,f⟩
def Jv{a:Type}{xs:List a}{v:a}(h:xs[j]?=aa v):atI xs (j:Int)=aa v:=by
 have b:j<xs.length:=(dq.mp h).1
 have e:ixN xs.length (j:Int)=aa j:=by
  unfold ixN;rw[if_pos (by lia),if_pos (by lia)];simp
 unfold atI;rw[e];exact h
abbrev CF(b:Expr):Prop:=∀o i,subscripted b ae o i=operate [o,i] (getItem o i)
abbrev IxR(X:Cx)(r:R2):Prop:=
 ∀(value a:Expr) (pins:PNS) (s:ai) (σ:St) (H:Hp) (x y:V) (v u:Value) (Q:VK),Inv X pins σ H s->aE x v->aE y u->r x y H Q ->
  subscripted a ae v u=operate [v,u] (getItem v u)->wpAny (model X.prog X.w) X.A (subscriptTail value a v u) (EP X pins σ Q) X.xe s
abbrev MtR(X:Cx)(id:String)(r:V->List V->Hp->VK->Prop):Prop:=
 ∀(pins:PNS) (s:ai) (σ:St) (H:Hp) (x:V) (xs:List V) (v:Value) (us:LVa) (Q:VK),Inv X pins σ H s->aE x v->aC xs us->r x xs H Q ->
  wpAny (model X.prog X.w) X.A (call (.builtin id) (v::us)) (EP X pins σ Q) X.xe s
variable{r r':R2}
def IxR.or(h:IxR X r)(h':IxR X r'):IxR X (λx y H Q=>r x y H Q\/r' x y H Q):=by
 intro value a pins s σ H x y v u Q I c d q b
 rcases q with q |q
 .exact h value a pins s σ H x y v u Q I c d q b
 .exact h' value a pins s σ H x y v u Q I c d q b
variable{a b:Expr}{ta tb:TE}
def Jw(f:IxR X r)(ha:PE X a ta)(d:PE X b tb)(g:CF b):PE X (.Subscript a b pos) (tOp r ta tb):=by
 intro pins s σ H Q I h;exact Subscript_ (wX ha d I h λv u s2 x y H2 c l m q=>f a b pins s2 σ H2 x y v u Q c l m q (g _ _))
abbrev Jx(K:aV):R2:=λx y H Q=>∃p xs i v,x=.ref p/\y=.int i/\SqL K H p xs/\atI xs i=aa v/\Q v H
abbrev Jy(K:aV):R2:=λx y H Q=>∃p xs i v,x=.ref p/\y=.int i/\SqT K H p xs/\atI xs i=aa v/\Q v H
def Jz:IxR X (Jx X.K):=by
 intro value g pins s σ H x y v u Q I M N h A;obtain⟨p,xs,i,z,rfl,rfl,L,G,q⟩:=h;cases M;obtain⟨t,rfl⟩:=N;obtain⟨its,r,pl,hz⟩:=I.list L;obtain⟨j,c,B,T,C,E⟩:=CD G;obtain⟨w,l,f⟩:=r.get B;have J:=r.length;have hn:=oR;have fin:EP X pins σ Q w s:=⟨z,H,I,f,q⟩
 by_cases m:0<=i
 .have d:i.toNat=j:=by
   rw[seqIndex_of m E]at c;exact cN c
  exact item_listR pl.isList m (by lia) (by rw[d];simpa using l) fin A
 .have d:(i+(its.toArray.size:Int)).toNat=j:=by
   rw[seqIndex_neg (by lia) C]at c;rw[size_toArray,<- J];exact cN c
  exact subscriptTail_builtinR (x:=w) pl.isList.typeIs slot_list_getitem.lookup
   (wpAny_getItem_list_neg (Q:=λr s'=>r=w/\EP X pins σ Q r s') pl.isList (by lia) (by rw[size_toArray] <;> lia) (by lia) (by rw[d];simpa using l) ⟨rfl,fin⟩) A
def JA:IxR X (Jy X.K):=by
 intro value d pins s σ H x y v u Q I E G h C;obtain⟨p,xs,i,z,rfl,rfl,B,m,q⟩:=h;cases E;obtain⟨t,rfl⟩:=G;obtain⟨its,r,pl,hz⟩:=I.tuple B;obtain⟨j,g,l,J,L,M⟩:=CD m;obtain⟨w,f,c⟩:=r.get l;have A:=r.length;have hn:=oR;have fin:EP X pins σ Q w s:=⟨z,H,I,c,q⟩
 exact subscriptTail_builtinR (x:=w) pl.typeIs slot_tuple_getitem.lookup
  (getItem_tuple (j:=j) (Q:=λr s'=>r=w/\EP X pins σ Q r s') pl (by lia) (by lia) (by rw[size_toArray,<- A];exact g) (by simpa using f) ⟨rfl,fin⟩) C
def JB(its:LVa)(n j:Nat)(u:Value):gb (·.setIfInBounds j u) {cls:=.type "list",data:=.seq its.toArray n}={cls:=.type "list",data:=.seq (its.set j u).toArray n}:=by
 simp[gb]
variable{pins:PNS}{σ:St}{H:Hp}{p:Addr}{xs:List V}
def Inv.lst{s:ai}(I:Inv X pins σ H s)(h:H p=aa (.lst xs)):
  ∃(its:LVa) (n:Nat),aC xs its/\s.heap.get? p=aa {cls:=.type "list",data:=.seq its.toArray n}/\xs.length<=aR:=by
 obtain⟨z,its,n,r,e⟩:=I.hok p _ h;exact⟨its,n,r,e,z⟩
variable{ys:List V}{its its':LVa}{n':Nat}
def Inv.lstUpd{s:ai}{f:Obj->Obj}(I:Inv X pins σ H s)(h:H p=aa (.lst xs))
 (g:s.heap.get? p=aa {cls:=.type "list",data:=.seq its.toArray n})(c:f {cls:=.type "list",data:=.seq its.toArray n}={cls:=.type "list",data:=.seq its'.toArray n'})(r:aC ys its')(hz:ys.length<=aR)(t:Nat):
  Inv X pins σ (upd H p (.lst ys)) {s with heap:=s.heap.update p f,toks:=t}:=by
 have e:(s.heap.update p f).get? p=aa {cls:=.type "list",data:=.seq its'.toArray n'}:=by
  rw[oK f g (by rw[c] <;> rfl),c]
 refine I.write (x:=p) (e:=p) (by rw[h];trivial) (.inl rfl) (λb u d q=>(oJ _ _ (eZ d)).trans q) ⟨_,e⟩ ?_;exact⟨hz,its',n',r,e⟩
abbrev xi:V->V->V->Hp->(Hp->Prop)->Prop:=λo i v H Q=>∃p xs k j,o=.ref p/\i=.int k/\H p=aa (.lst xs)/\ixN xs.length k=aa j/\Q (upd H p (.lst (xs.set j v)))
def CG:Ce X xi:=by
 intro pins s σ H o i v J G u Q I B A C h;obtain⟨p,xs,k,j,rfl,rfl,y,z,q⟩:=h;cases B;obtain⟨t,rfl⟩:=A;obtain⟨its,n,r,g,hz⟩:=I.lst y;obtain⟨c,E,w,x⟩:=CC z;have f:=r.length;have hn:=oR
 have l:Inv X pins σ (upd H p (.lst (xs.set j v))) {s with heap:=s.heap.update p (gb (·.setIfInBounds j u))}:=
  I.lstUpd y g (JB its n j u) (r.set C j) (by rw[jc];exact hz) s.toks
 by_cases m:0<=k
 .have d:k.toNat=j:=by
   rw[seqIndex_of m x]at c;exact cN c
  exact W.ki_setAt g m (by lia) (by rw[size_toArray,<- f];exact x) (by rw[d];exact⟨_,l,q⟩)
 .have d:(k+(its.toArray.size:Int)).toNat=j:=by
   rw[seqIndex_neg (by lia) w]at c;rw[size_toArray,<- f];exact cN c
  exact W.ki_setBack g (by lia) (by rw[size_toArray,<- f];exact w) (by lia) (by rw[d];exact⟨_,l,q⟩)
def JC(lo hi:Option Int)(n:Nat):(mY lo hi ac n).1=((HT.sIx n 0 lo:Nat):Int)/\(mY lo hi ac n).2.1=((HT.sIx n n hi:Nat):Int)/\(mY lo hi ac n).2.2=1:=by
 refine⟨?_,?_,rfl⟩
 .cases lo with
  |none=>simp[mY,HT.sIx]
  |some i=>
   simp only[mY,HT.sIx,Option.getD_none,show(1:Int)>0 by decide,if_true]
   by_cases h:i<0
   .simp only[h,if_true] <;> lia
   .simp only[h,if_false] <;> lia
 .cases hi with
  |none=>simp[mY,HT.sIx]
  |some i=>
   simp only[mY,HT.sIx,Option.getD_none,show(1:Int)>0 by decide,if_true]
   by_cases h:i<0
   .simp only[h,if_true] <;> lia
   .simp only[h,if_false] <;> lia
def JD(its:LVa)(lo hi:Option Int):slicePick its.toArray lo hi ac=((its.drop (HT.sIx its.length 0 lo)).take (HT.sIx its.length its.length hi-HT.sIx its.length 0 lo)).toArray:=by
 obtain⟨c,d,f⟩:=JC lo hi its.toArray.size;unfold slicePick;rw[c,d,f]
 simp only[sliceRange_one,pick_run,size_toArray] <;> rfl
abbrev JE(K:aV):V->Option Int->Option Int->Hp->VK->Prop:=λx lo hi H Q=>∃a xs,x=.ref a/\SqL K H a xs/\∀p,H p=ac->Q (.ref p) (upd H p (.lst (mf xs lo hi)))
def JF:SlR X (JE X.K):=by
 intro pins s σ H x v vl u lo hi sl Q I l f pl g h;obtain⟨a,xs,rfl,hx,q⟩:=h;cases l;obtain⟨its,r,d,hz⟩:=I.list hx;have c:=r.length;refine⟨"list",_,slot_list_getitem.lookup,d.isList.typeIs,?_⟩
 refine wpAny_getItem_list_slice d.isList f pl g .none (by simp) ?_ (by rw[size_toArray] <;> lia)
 rw[JD,<- c];refine⟨.ref s.heap.objs.size,_,I.laid (t':=s.toks) (o:=.lst (mf xs lo hi)) (λb m q=>bC _ q) (aL _) ?_,rfl,q _ (I.hok.fresh (aL _))⟩;exact⟨c3 (Ju xs lo hi) hz,_,0,(r.drop (HT.sIx xs.length 0 lo)).take (HT.sIx xs.length xs.length hi-HT.sIx xs.length 0 lo),cO _ rfl⟩
abbrev gg:V->Bool
 |.non=>ab
 |.bl _=>ab
 |.int _=>ab
 |.str _=>ab
 | _=>ae
abbrev eqV:V->V->Bool
 |.non,.non=>ab
 |.bl a,.bl b=>a==b
 |.bl a,.int b=>(if a then 1 else 0)==b
 |.int a,.bl b=>a==(if b then 1 else 0)
 |.int a,.int b=>a==b
 |.str a,.str b=>a==b
 | _,_=>ae
variable{y x:V}{u v:Value}
def CH{A:cI}{s:ai}(f:aE y u)(c:aE x v)(g:gg y=ab)(d:gg x=ab):cD A s u v (eqV y x):=by
 cases y with
 |non=>
  cases f
  cases x with
  |non=>cases c;exact wL _
  |bl b=>cases c;exact cD.none_bool b
  |int b=>obtain⟨t,rfl⟩:=c;exact cD.none_int b t
  |str b=>obtain⟨t,rfl⟩:=c;exact cD.none_str b t
  | _=>exact absurd (show ae=ab from d) ba
 |bl a=>
  cases f
  cases x with
  |non=>cases c;exact cD.bool_none a
  |bl b=>cases c;exact cD.bool_bool a b
  |int b=>obtain⟨t,rfl⟩:=c;exact cD.bool_int a b t
  |str b=>obtain⟨t,rfl⟩:=c;exact cD.bool_str a b t
  | _=>exact absurd (show ae=ab from d) ba
 |int a=>
  obtain⟨t',rfl⟩:=f
  cases x with
  |non=>cases c;exact cD.int_none a t'
  |bl b=>cases c;exact cD.int_bool a t' b
  |int b=>obtain⟨t,rfl⟩:=c;exact cD.int_int a t' b t
  |str b=>obtain⟨t,rfl⟩:=c;exact wJ a t' b t
  | _=>exact absurd (show ae=ab from d) ba
 |str a=>
  obtain⟨t',rfl⟩:=f
  cases x with
  |non=>cases c;exact cD.str_none a t'
  |bl b=>cases c;exact cD.str_bool a t' b
  |int b=>obtain⟨t,rfl⟩:=c;exact wK a t' b t
  |str b=>obtain⟨t,rfl⟩:=c;exact cD.str_str a t' b t
  | _=>exact absurd (show ae=ab from d) ba
 | _=>exact absurd (show ae=ab from g) ba
abbrev eqU(x:V)(u:Value):Bool:=match u with
 |.none=>eqV .non x
 |.bool b=>eqV (.bl b) x
 |.int i _=>eqV (.int i) x
 |.str z _=>eqV (.str z) x
 | _=>ae
def CI(r:aE y u)(f:gg y=ab):eqU x u=eqV y x:=by
 cases y with
 |non=>cases r;rfl
 |bl b=>cases r;rfl
 |int i=>obtain⟨t,rfl⟩:=r;rfl
 |str z=>obtain⟨t,rfl⟩:=r;rfl
 | _=>exact absurd (show ae=ab from f) ba
def xj{x:V}:∀{xs:List V} {us:LVa},aC xs us->xs.all gg=ab->us.any (eqU x)=xs.any λy=>eqV y x
 | _,_,.nil,_=>rfl
 |y::xs,u::us,.cons r t,f=>by
  rw[mQ,cx]at f;rw[gS,gS,CI r f.1,xj t f.2]
def xk{A:cI}{s:ai}{x:V}{v:Value}(g:aE x v)(d:gg x=ab):∀{xs:List V} {us:LVa},aC xs us->xs.all gg=ab->∀u∈us,cD A s u v (eqU x u)
 | _,_,.nil,_=>λu c=>by cases c
 |y::xs,u::us,.cons r t,f=>λh c=>by
  rw[mQ,cx]at f
  rcases aQ.mp c with rfl |c
  .rw[CI r f.1];exact CH r g f.1 d
  .exact xk g d t f.2 h c
abbrev inV(x:V)(xs:List V):Bool:=xs.any λy=>eqV y x
abbrev rIn(K:aV)(neg:Bool):R2:=λx y H Q=>∃p xs,y=.ref p/\(SqL K H p xs\/SqT K H p xs)/\gg x=ab/\xs.all gg=ab/\Q (.bl (if neg then !inV x xs else inV x xs)) H
def JG:OpR X (cC .NotIn) (rIn X.K ab):=by
 intro pins s σ H x y v u Q I g l h;obtain⟨p,xs,rfl,c,f,fs,q⟩:=h;cases l
 rcases c with c |c
 .obtain⟨its,r,pl,hz⟩:=I.list c;refine SeqAt.notIn_listAt (eqU x) pl.isList (λw d=>xk g f r fs w (by simpa using d)) ⟨.bl _,H,I,rfl,?_⟩;rw[show its.toArray.any (eqU x)=its.any (eqU x) by simp,xj r fs];exact q
 .obtain⟨its,r,pl,hz⟩:=I.tuple c;refine SeqAt.notIn_tupleAt (eqU x) pl (λw d=>xk g f r fs w (by simpa using d)) ⟨.bl _,H,I,rfl,?_⟩;rw[show its.toArray.any (eqU x)=its.any (eqU x) by simp,xj r fs];exact q
def JH:iw X (.builtin "len") (λxs H Q=>∃p ys,xs=[.ref p]/\(SqL X.K H p ys\/SqT X.K H p ys)/\Q (.int ys.length) H):=by
 intro pins s σ H xs us Q I r h;obtain⟨p,ys,rfl,d,q⟩:=h;obtain⟨u,rfl,f⟩:=nB r;cases f;have hn:=oR
 rcases d with d |d
 .obtain⟨its,r',pl,hz⟩:=I.list d;have c:=r'.length
  exact Calls.call_len_list pl.isList (by simp only[size_toArray] <;> lia) ⟨.int ys.length,H,I.tok _,⟨s.toks+1,by rw[size_toArray,c]⟩,q⟩
 .obtain⟨its,r',pl,hz⟩:=I.tuple d;have c:=r'.length
  exact len_tuple pl (by simp only[size_toArray] <;> lia) ⟨.int ys.length,H,I.tok _,⟨s.toks+1,by rw[size_toArray,c]⟩,q⟩
def JI:iw X (.builtin "len") (λxs H Q=>∃z,xs=[.str z]/\z.length<=aR/\Q (.int z.length) H):=by
 intro pins s σ H xs us Q I r h;obtain⟨z,rfl,hz,q⟩:=h;obtain⟨u,rfl,t,rfl⟩:=nB r;have hn:=oR;exact len_str (by lia) ⟨.int z.length,H,I.tok _,⟨_,rfl⟩,q⟩
def JJ:iw X (.type "list") (λxs H Q=>∃p ys,xs=[.ref p]/\(SqL X.K H p ys\/SqT X.K H p ys)/\∀l,H l=ac->Q (.ref l) (upd H l (.lst ys))):=by
 intro pins s σ H xs us Q I r h;obtain⟨p,ys,rfl,f,q⟩:=h;obtain⟨u,rfl,z⟩:=nB r;cases z
 have fin:∀(its:LVa),aC ys its->ys.length<=aR->∀(h':Heap) (c:Nat),(∀b o',s.heap.get? b=aa o'->h'.get? b=aa o') ->
   h'.get? s.heap.objs.size=aa {cls:=.type "list",dict:=ac,data:=.seq its.toArray c,slots:=#[]}->EP X pins σ Q (.ref s.heap.objs.size) {s with heap:=h'}:=λits r' hz h' c kp e=>
  ⟨.ref s.heap.objs.size,_,I.laid (t':=s.toks) kp (aL _) (show cU X.prog X.w _ h' _ (.lst ys)from⟨hz,its,c,r',e⟩),rfl,q _ (I.hok.fresh (aL _))⟩
 rcases f with f |f
 .obtain⟨its,r',pl,hz⟩:=I.list f;have d:=r'.length;obtain⟨o,m,g,n,hd⟩:=pl.isList
  exact call_list_seq p (.inl rfl) m g hd (λh' c kp e=>fin its r' hz h' c kp e) (by simp only[size_toArray] <;> lia)
 .obtain⟨its,r',pl,hz⟩:=I.tuple f;have d:=r'.length;obtain⟨o,m,g,n,hd⟩:=pl
  exact call_list_seq p (.inr rfl) m g hd (λh' c kp e=>fin its r' hz h' c kp e) (by simp only[size_toArray] <;> lia)
abbrev tyV(K:aV)(T:String)(x:V)(H:Hp):Prop:=match x with
 |.str _=>T="str"
 |.int _=>T="int"
 |.ref p=>(T="list" /\ ∃xs,SqL K H p xs)\/(T="tuple" /\ ∃o,K.lookup p=aa o/\o.cls=.type "tuple" /\ o.dict=ac) \/
   (T="dict" /\ ((∃kvs,H p=aa (.dK kvs))\/∃kvs,H p=aa (.dT kvs)))\/(T="set" /\ ∃S n,H p=aa (.set S n))
 | _=>False
variable{T:String}
def JK{s:ai}(I:Inv X pins σ H s)(r:aE x v)(ty:tyV X.K T x H):
  s.TypeIs v T/\∀a,v=.ref a->∃g,s.heap.get? a=aa g/\g.dict=ac:=by
 cases x with
 |str z=>
  obtain⟨t,rfl⟩:=r;cases (show T="str" from ty)
  exact⟨typeIs_str s z t,λ_ e=>nomatch e⟩
 |int i=>
  obtain⟨t,rfl⟩:=r;cases (show T="int" from ty)
  exact⟨typeIs_int s i t,λ_ e=>nomatch e⟩
 |ref p=>
  cases r
  rcases ty with⟨rfl,xs,l⟩ |⟨rfl,o,d,h,hd⟩ |⟨rfl,d⟩ |⟨rfl,S,n,d⟩
  .obtain⟨its,_,pl,_⟩:=I.list l;refine⟨pl.isList.typeIs,λa e=>?_⟩;cases e;obtain⟨o,n,e,c,hd,_⟩:=pl;exact⟨o,e,hd⟩
  .refine⟨⟨o,I.kIn p o d,h⟩,λa e=>?_⟩;cases e;exact⟨o,I.kIn _ o d,hd⟩
  .have z:∃o,s.heap.get? p=aa o/\o.ExactDict:=by
    rcases d with⟨kvs,d⟩ |⟨kvs,d⟩
    .obtain⟨_,_,_,_,o,_,_,e,ex,_⟩:=I.hok p _ d;exact⟨o,e,ex⟩
    .obtain⟨_,_,_,_,o,_,_,e,ex,_⟩:=I.hok p _ d;exact⟨o,e,ex⟩
   obtain⟨o,e,ex⟩:=z;refine⟨⟨o,e,ex.1⟩,λa f=>?_⟩;cases f;exact⟨o,e,ex.2.1⟩
  .obtain⟨o,_,_,_,e,ex,_⟩:=I.hok p _ d;refine⟨⟨o,e,ex.1⟩,λa f=>?_⟩;cases f
   exact⟨o,e,ex.2.1⟩
 | _=>exact ij ty
abbrev tBM(K:aV)(T:String)(r:V->List V->Hp->VK->Prop)(to:TE)(t:TA):TE:=λσ H Q=>to σ H λx c=>tyV K T x c/\t σ c λxs H2=>r x xs H2 Q
variable{es:LEx}{name:Str}{apos cpos:Pos}{r:V->List V->Hp->VK->Prop}
def fM{o:Expr}{to:TE}{t:TA}{id:String}(pa:PlainAttrs T)(slot:Slot T name id)(l:typeOf (.builtin id)=pure (.type "method_descriptor"))(hm:MtR X id r)(E:PE X o to)(ha:PA X (e::es) t)
 (d:oG o name X.env (eval o X.env)=eval o X.env:=by rfl)
 (g:((cr cpos (aO (e::es) X.env)).all (λx=>!x.1) && (jY cpos (jW [] X.env)).all (λx=>x.1.isSome)
   && decide ((e::es).length+([]:List Keyword).length+(if ([]:List Keyword).isEmpty then 0 else 1)<30))=ab:=by rfl)
 (f:(apos.endLine==cpos.line)=ab:=by rfl)(G:StE X e es:=by rfl)(c:(cr cpos (aO es X.env)).any (·.1)=ae:=by rfl):
  PE X (.Call (.Attribute o name apos) (e::es) [] cpos) (tBM X.K T r to t):=by
 intro pins s σ H Q I h;refine wpAny_Call_method_late d g f rfl (thn (E pins s σ H _ I h) λv s1 M=>?_);obtain⟨x,z,m,w,ty,J⟩:=M;obtain⟨B,C⟩:=JK m w ty;refine⟨T,id,pa,slot,l,B,C,?_⟩;have q:=ha cpos pins s1 σ z _ m J;rw[G]at q ⊢
 refine wE (by show(ae || (cr cpos (aO es X.env)).any (·.1))=ae;rw[c] <;> rfl) (wF ?_)
 exact thn q λus s2 ⟨vs,H2,A,N,L⟩=>hm pins s2 σ H2 x vs v us Q A w N L
abbrev MtM(X:Cx)(id:String)(r:V->List V->Hp->VK->Prop):Prop:=
 ∀(pins:PNS) (s:ai) (σ:St) (H:Hp) (x:V) (xs:List V) (v:Value) (us:LVa) (Q:VK),Inv X pins σ H s->aE x v->aC xs us->r x xs H Q ->
  wpAny (model X.prog X.w) X.A (call (.builtin id) (v::us)) (EP X pins σ Q) X.xe s
def aC.one:∀{x:V} {us:LVa},aC [x] us->∃u,us=[u]/\aE x u:=λh=>by
 cases h with
 |cons r h=>
  cases h;exact⟨_,rfl,r⟩
def aC.two:∀{x y:V} {us:LVa},aC [x,y] us->∃u v,us=[u,v]/\aE x u/\aE y v:=λh=>by
 cases h with
 |cons r h=>
  cases h with
  |cons q h=>
   cases h;exact⟨_,_,rfl,r,q⟩
def aC.zero:∀{us:LVa},aC [] us->us=[]
 | _,.nil=>rfl
def aC.eraseIdx:∀{xs:List V} {us:LVa} (i:Nat),aC xs us->aC (xs.eraseIdx i) (us.eraseIdx i)
 | _,_,_,.nil=>.nil
 | _,_,0,.cons _ t=>t
 | _,_,i+1,.cons r t=>.cons r (aC.eraseIdx i t)
variable{us:LVa}
def aC.reverse(h:aC xs us):aC xs.reverse us.reverse:=by
 induction h with
 |nil=>exact .nil
 |cons r t c=>rw[reverse_cons,reverse_cons];exact aC.append c (.cons r .nil)
def aC.rep{xs:List V}{us:LVa}(h:aC xs us):∀k:Nat,aC (jS k xs).flatten (jS k us).flatten
 | 0=>.nil
 |k+1=>by
  rw[replicate_succ,replicate_succ,flatten_cons,flatten_cons];exact aC.append h (aC.rep h k)
def xl{c:Type}:∀(l:List c) (i:Nat),(l.eraseIdx i).length<=l.length
 | [],_=>aL _
 | _::_,0=>kX _
 | _::r,i+1=>Nat.succ_le_succ (xl r i)
variable{l:Addr}{t':Nat}
def Inv.lset{s:ai}{f:Array Value->Array Value}(I:Inv X pins σ H s)(c:H l=aa (.lst xs))
 (e:s.heap.get? l=aa {cls:=.type "list",data:=.seq its.toArray n})(g:f its.toArray=its'.toArray)(hv:aC ys its')(hz:ys.length<=aR):
  Inv X pins σ (upd H l (.lst ys)) {s with heap:=s.heap.update l (gb f),toks:=t'}:=by
 have q:=PySem.IsL.update e f;rw[g]at q;refine I.write (x:=l) (e:=l) (by rw[c];exact trivial) (.inl rfl) (λm u d h=>(oJ s.heap (gb f) (eZ d)).trans h) ⟨_,q⟩ ?_;exact⟨hz,its',_,hv,q⟩
def Inv.lnew{s:ai}(I:Inv X pins σ H s)(hv:aC ys its)(hz:ys.length<=aR):
  Inv X pins σ (upd H s.heap.objs.size (.lst ys)) {s with heap:=s.heap.push {cls:=.type "list",data:=.seq its.toArray},toks:=t'}:=
 I.laid (λ_ _ q=>bC _ q) (aL _) ⟨hz,its,0,hv,cO _ rfl⟩
def Inv.fresh{s:ai}(I:Inv X pins σ H s):H s.heap.objs.size=ac:=I.hok.fresh (aL _)
def Inv.lstM{s:ai}(I:Inv X pins σ H s)(c:H l=aa (.lst xs)):xs.length<=aR/\∃(its:LVa) (n:Nat),aC xs its/\xs.length=its.length/\s.heap.get? l=aa {cls:=.type "list",data:=.seq its.toArray n}:=by
 obtain⟨z,its,n,r,e⟩:=I.hok l _ c;exact⟨z,its,n,r,r.length,e⟩
def JL(h:n<=aR):wD n=ae:=by
 unfold wD;exact decide_eq_false (by lia)
abbrev tq:V->List V->Hp->VK->Prop:=λx vs H Q=>∃l xs y,x=.ref l/\vs=[y]/\H l=aa (.lst xs)/\xs.length<aR/\Q .non (upd H l (.lst (xs++[y])))
def ix:MtM X "list.append" tq:=by
 intro pins s σ H x vs v us Q I f d h;obtain⟨l,xs,y,rfl,rfl,c,hz,q⟩:=h;cases f;obtain⟨u,rfl,ru⟩:=d.one;obtain⟨z,its,n,r,g,e⟩:=I.lstM c;refine call_meets F.slot_list_append ⟨_,e,rfl⟩ F.entry_list_append (F.args_list_append_2 _ _) (PySem.list_append l its.toArray n u (by rw[size_toArray];lia)) ⟨e,?_⟩;refine⟨.non,_,I.lset (its':=its++[u]) c e (by simp) (r.append (.cons ru .nil)) ?_,rfl,q⟩;rw[a8,dW];lia
abbrev xm:V->List V->Hp->VK->Prop:=λx vs H Q=>∃l b xs c,x=.ref l/\vs=[.ref b]/\H l=aa (.lst xs)/\H b=aa (.lst c)/\xs.length+c.length<=aR/\Q .non (upd H l (.lst (xs++c)))
def CJ:MtM X "list.extend" xm:=by
 intro pins s σ H x vs v us Q I E C h;obtain⟨l,b,xs,L,rfl,rfl,f,m,hz,q⟩:=h;cases E;obtain⟨u,rfl,ru⟩:=C.one;cases ru;obtain⟨z,its,n,r,G,e⟩:=I.lstM f;obtain⟨J,c,A,B,w,g⟩:=I.lstM m;have hsz:its.toArray.size+c.toArray.size<=aR:=by rw[size_toArray,size_toArray];lia
 have d:¬(!its.toArray.isEmpty && wD (its.toArray.size+c.toArray.size))=ab:=by
  rw[JL hsz,sw];exact ba
 refine call_meets F.slot_list_extend ⟨_,e,rfl⟩ F.entry_list_extend (F.args_list_extend_2 _ _)
  (AutoSeq1.list_extend_list_list_0 l its.toArray n b c.toArray A d (by rw[size_toArray];lia) (by lia)) ⟨e,g,?_⟩
 refine⟨.non,_,I.lset (its':=its++c) f e (by simp) (r.append B) ?_,rfl,q⟩;rw[a8];lia
abbrev CK:V->List V->Hp->VK->Prop:=λx vs H Q=>∃l xs i k y,x=.ref l/\vs=[.int i]/\H l=aa (.lst xs)/\-(2 ^ 63)<=i/\i<2 ^ 63/\seqIndex? i xs.length=aa k/\xs[k]?=aa y/\Q y (upd H l (.lst (xs.eraseIdx k)))
def JM:MtM X "list.pop" CK:=by
 intro pins s σ H x vs v us Q I G E h;obtain⟨l,xs,i,k,y,rfl,rfl,d,f,g,m,C,q⟩:=h;cases G;obtain⟨u,rfl,ru⟩:=E.one;obtain⟨t,rfl⟩:=ru;obtain⟨z,its,n,r,A,e⟩:=I.lstM d;obtain⟨w,B,c⟩:=r.get C
 refine call_meets F.slot_list_pop ⟨_,e,rfl⟩ F.entry_list_pop (F.args_list_pop_2 _ _)
  (MeetsSeq.list_pop_at l its.toArray n i t k w (fitsIndex_both f g) (by rw[size_toArray,<- A];exact m) (by rw[<- qb];exact B) (by rw[size_toArray];lia)) ⟨e,?_⟩
 refine⟨y,_,I.lset (its':=its.eraseIdx k) d e ?_ (r.eraseIdx k) ?_,c,q⟩
 .show its.toArray.eraseIdxIfInBounds k=(its.eraseIdx k).toArray;rw[eraseIdxIfInBounds_toArray]
 .have:=xl xs k;lia
abbrev JN:R2:=λx y H Q=>∃l b xs c,x=.ref l/\y=.ref b/\H l=aa (.lst xs)/\H b=aa (.lst c)/\xs.length+c.length<=aR/\∀p,H p=ac->Q (.ref p) (upd H p (.lst (xs++c)))
def CL:OpR X (f9 .Add) JN:=by
 intro pins s σ H x y v u Q I B C h;obtain⟨l,b,xs,L,rfl,rfl,m,g,hz,q⟩:=h;cases B;cases C;obtain⟨z,its,n,r,E,e⟩:=I.lstM m;obtain⟨J,c,G,A,w,d⟩:=I.lstM g;refine PySem.P.add_list e d ?_ (by rw[size_toArray,size_toArray];lia);have f:its.toArray++c.toArray=(its++c).toArray:=by simp
 rw[f];exact⟨.ref _,_,I.lnew (t':=s.toks) (r.append A) (by rw[a8];lia),rfl,q _ I.fresh⟩
end L2
namespace Att
open List
open PySem PySem.W PySem.Calls PyProof.Rows
variable{P:Params}{h:Heap}
def JO:∀(ns:List Int) (vs:LVa),WellAll P h vs (ns.map WData.int)->e8 vs ns:=by
 intro ns
 induction ns with
 |nil=>
  intro vs w;rw[map_nil]at w;cases w
  exact .nil
 |cons n ns c=>
  intro vs w;rw[bp]at w
  cases w with
  |cons a b=>
   cases a;exact .cons _ _ (c _ b)
variable{l:OpenLaw}{n:Nat}{lj:LVa}
def JP(hn:l.most=aa n){args:List WData}
 (b:l.row.toRowW.claim.pre args=ab)(j:WellAll P h lj args):
  ∃a vs ns,lj=[bJ a]/\args=[WData.list (ns.map WData.int)]/\h.get? a=aa {cls:=.type "list",data:=.seq vs.toArray}/\e8 vs ns/\ns.length<=n:=by
 have i:WShape.hasAll [] args [.list .int]=ab:=(pre_splitW b).1;have m:l.pre.holds [] {args:=args}=ab:=(pre_splitW b).2;obtain⟨d,r,rfl,p,u⟩:=hasAllW_cons i;obtain rfl:=hasAllW_nil u;obtain⟨xs,rfl,v⟩:=hasW_list p;obtain⟨ns,rfl⟩:=items_int v
 have e:ns.length<=n:=by
  unfold OpenLaw.pre at m
  have f:(WTm.not (.lt (.lit (.int (n:Int))) (.len (.arg 0)))).holds [] {args:=[.list (ns.map .int)]}=ab:=by
   have f:=(holds_andW m).1;rw[hn]at f;exact f
  have g:=condW_of f (w_not (w_lt w_lit (w_len_list (w_arg rfl))));rw[aH]at g;refine mR λq=>?_;have x:(n:Int)<((ns.length:Nat):Int):=by lia
  first
   |(rw[decide_eq_true x]at g;exact absurd g (by decide))
   |(simp at g;lia)
 cases j with
 |cons y z=>
  cases z
  cases y with
  |list w c=>exact⟨_,_,ns,rfl,rfl,w,JO ns _ c,e⟩
def JQ(l:OpenLaw)(args:List WData):l.row.toRowW.claim.post args (.bool ab) args=ab:=
 postW_of (r:=l.row.toRowW) (X:=(ab==ab))
  (show WShape.has [] (.bool ab) .bool=ab by first |rfl |decide |simp[WShape.has,WShape.arms,WShape.armsAll])
  (show(WTm.eq .res (.lit (.bool ab))).value [] {args:=args,res:=aa (.bool ab),after:=args}=aa (.bool (ab==ab))from w_eq_bool (w_res rfl) w_lit) rfl
variable{q:cH}{h8:LSt}{XP:MGT->Heap->Prop}{YP:World->Heap->Prop}{d:DefRec}
def attach_call
 (hn:l.most=aa n)(u:d.params.defaults=[])
 (call:∀ (w:World) (s₀ b:ai) (mg mb:MGT) (e:Addr) (o:Obj) (pm m doc:Value) (a:Addr) (vs:LVa) (ns:List Int),
   Ground q h8 [] XP w s₀ mg mb b.heap->YP w b.heap ->
   b.heap.get? e=aa o->o.data=.func (docDef d.name d.params d.body d.scope pm m doc)->b.heap.CodeRec m d.name->mg d.name=aa (.ref e) ->
   b.heap.get? a=aa {cls:=.type "list",data:=.seq vs.toArray}->e8 vs ns->ns.length<=n->b.gens=#[] ->
   gV (model l.prog w) callerA (.call (.ref e) ⟨[.ref a],[]⟩) (λr s'=>r=.ok (.ret (.bool ab))/\OldK b.heap s'.heap/\s'.os=b.os/\k4 s'.gens) b):
  WalkO q h8 XP YP l.row.toRowW d [] (λf vs=>PySem.call f vs):=by
 intro w s₀ b mg mb G Y e o pm m doc A kV J hd p y v H args lj N j z M x I;obtain rfl:A=.none:=Dflts.none y u;obtain rfl:kV=.none:=Dflts.noKw y;obtain⟨a,vs,ns,rfl,rfl,i,c,g⟩:=JP hn j x;refine enter_call (lY (call w s₀ b mg mb e o pm m doc a vs ns G Y J (fd_plain hd) p v i c g H) λr s' L=>?_);obtain⟨rfl,B,C,E⟩:=L;exact⟨.inl ⟨.bool ab,.bool ab,[],rfl,λ_=>rfl,.bool ab,JQ l _,λ_=>⟨List.Pairwise.nil,λ_ hm=>(nomatch hm)⟩⟩,B,C,E⟩
end Att
namespace L2
open List
open PySem PySem.Spec PyProof.Rows
def CM:∀{vs:LVa} {ns:List Int},e8 vs ns->aC (ns.map V.int) vs
 | _,_,.nil=>.nil
 | _,_,.cons n t h=>.cons ⟨t,rfl⟩ (CM h)
abbrev tu(H:Hp):Prop:=∀b,H b=ac\/∃o xs,H b=aa (.frz o (.lst xs))
variable{P:cH}{w:World}{K:aV}{mg:MGT}{a:Addr}{fd:eA}{x:Str}{ns:List Int}
def JR{mb:MGT}{CX:CXT}{k:Nat}{J:Addr}{sp:Sp}{c:ai}{vs:LVa}
 (U:K.In c.heap)(B:c.heap.Ns cq mg)(g:c.heap.Ns builtinsNs mb)(M:∀x:Str,x ≠ "__name__" -> mb x=jf x)(A:c.heap.NoLimit)(hg:c.gens=#[])
 (ha:c.heap.get? a=aa {cls:=.type "list",data:=.seq vs.toArray})(hi:e8 vs ns)(hl:ns.length<=aR)(hr:bF k callerA)
 (F:∀base:Heap,K.In base->base.Ns cq mg->c9 P w K mg base CX k J fd [x] sp)(l:∀(s:ai) (u:Value),BindsTo s fd ⟨[u],[]⟩ [(x,u)])
 (Q:∀H:Hp,tu H->SqL K H a (ns.map V.int)->sp [.ref a] H (λv _=>v=.bl ab) λ_ _ _=>False)
 (L:∀H e s',CX [] H c (λ_ _ _=>False) e s'->False):
  gV (model P w) callerA (.call (.ref J) ⟨[.ref a],[]⟩) (λr s'=>r=.ok (.ret (.bool ab))/\OldK c.heap s'.heap/\s'.os=c.os/\k4 s'.gens) c:=by
 have rv:=CM hi;have E:=hi.length
 have j:∀H:Hp,tu H->SqL K H a (ns.map V.int)->HOk P w H c.heap->(∀b,H b≠ac->b=a)->(H a≠ac->K.lookup a=ac) ->
   gV (model P w) callerA (.call (.ref J) ⟨[.ref a],[]⟩) (λr s'=>r=.ok (.ret (.bool ab))/\OldK c.heap s'.heap/\s'.os=c.os/\k4 s'.gens) c:=by
  intro H hO hS hok hA hK;have f:∀{b:Addr} {o:Obj},c.heap.get? b=aa o->H b=ac->(lh c.heap H).get? b=aa o:=λe n=>Ho e n
  have T:∀{b:Addr} {o:Obj} {es:Array DictEntry} {p:Nat},c.heap.get? b=aa o->o.data=.dict es p->H b=ac:=λ{b o es p} e d=>by
   cases q:H b with
   |none=>rfl
   |some u=>
    have I:b=a:=hA b (by rw[q];simp);subst I;rw[ha]at e;cases e;have d':Data.seq vs.toArray _=Data.dict es p:=d;cases d'
  have i:∀{b:Addr} {m:MGT},c.heap.Ns b m->(lh c.heap H).Ns b m:=λ{b m} ⟨o,es,p,e,d,r⟩=>⟨o,es,p,f e (T e d),d,r⟩
  have y : K.In (lh c.heap H):=λb o e=>f (U b o e) (by
   cases q:H b with
   |none=>rfl
   |some u=>
    have I:b=a:=hA b (by rw[q];simp);subst I;rw[hK (by rw[q];simp)]at e;cases e)
  have hM:Mod K mg (lh c.heap H):=⟨y,i B,⟨mb,i g,M⟩,let ⟨mc,h1,h2⟩:=A;⟨mc,i h1,h2⟩⟩;have e0:nE P w K mg (lh c.heap H) callerA [] c H:=⟨rfl,hM,λb o e=>Hq e,Nat.le_of_eq (Hm _ _),trivial,λb g=>absurd (show b∈([]:LAd)from g) (by simp),hok,.of_eq hg⟩;refine lY ((F _ y (i B)).run callerA [] c H ⟨[.ref a],[]⟩ [.ref a] [.ref a] _ _ hr e0 (l c (.ref a)) (.cons rfl .nil) (Q H hO hS)) λr s' h=>?_
  cases r with
  |error e=>exact(L H e s' h).elim
  |ok fl=>
   cases fl with
   |next=>exact ij h
   |brk=>exact ij h
   |cont=>exact ij h
   |ret u=>
    obtain⟨v,H',os,bare,un,C,r',q⟩:=h;have q':v=.bl ab:=q;subst q';obtain rfl:u=gz ab:=r';refine⟨rfl,OldK.of_keep λb o e=>?_,os,bare⟩
    cases q:H b with
    |none=>exact un.keep b o e q (by intro z;exact absurd (show b∈([]:LAd)from z) (by simp)) (by simp)
    |some u=>
     rcases hO b with z |⟨ob,xs,z⟩
     .rw[q]at z;cases z
     .have z2:=un.frzs b ob _ z;obtain⟨Y,_⟩:=hok b _ z;obtain⟨e2,_⟩:=C b _ z2;rw[e]at Y;cases Y;exact e2
 cases N:K.lookup a with
 |some o=>
  have e:=U a o N;rw[ha]at e;cases e
  refine j (λ_=>ac) (λ_=>.inl rfl) (.inr ⟨_,vs.toArray,_,N,rfl,rfl,rfl,by rw[size_toArray,E];exact hl,by simpa using rv⟩) (λb u z=>by have G:(ac:Option HO)=aa u:=z;cases G) (λb z=>absurd rfl z) λz=>absurd rfl z
 |none=>
  refine j (λb=>if b=a then aa (.frz {cls:=.type "list",data:=.seq vs.toArray} (.lst (ns.map V.int))) else ac) (λb=>?_) (.inl (.inr ⟨{cls:=.type "list",data:=.seq vs.toArray},if_pos rfl⟩)) (λb u z=>?_) (λb z=>?_) λ_=>N
  .by_cases g:b=a
   .exact .inr ⟨_,_,if_pos g⟩
   .exact .inl (if_neg g)
  .by_cases g:b=a
   .have G:=(if_pos g).symm.trans z;cases G;subst g;exact⟨ha,by rw[aH];exact hl,vs,_,rv,ha⟩
   .have G:=(if_neg g).symm.trans z;cases G
  .by_cases g:b=a
   .exact g
   .exact absurd (if_neg g) z
variable{h:Heap}
@[reducible]noncomputable def KOf(_:K.In h):aV:=K
variable{l:W.OpenLaw}{q:cH}{h8:LSt}{XP:MGT->Heap->Prop}{YP:World->Heap->Prop}{d:DefRec}
def JS{n k:Nat}{K:Params->aV}{CX:World->CXT}{sp:World->Sp}
 (hn:l.most=aa n)(A:n<=aR)(y:d.params.defaults=[])(U:bF k callerA)
 (L:∀(w:World) (h:Heap),YP w h->(K w.params).In h)
 (F:∀ (w:World) (mg:MGT) (p:Addr) (h:Heap),(K w.params).In h->h.Ns cq mg->mg d.name=aa (.ref p) ->
   ∃fd:eA,(∀(s:ai) (u:Value),BindsTo s fd ⟨[u],[]⟩ [(x,u)]) /\
    ∀base:Heap,(K w.params).In base->base.Ns cq mg->c9 l.prog w (K w.params) mg base (CX w) k p fd [x] (sp w))
 (B:∀(w:World) (H:Hp) (a:Addr) (ns:List Int),ns.length<=n->tu H->SqL (K w.params) H a (ns.map V.int)->sp w [.ref a] H (λv _=>v=.bl ab) λ_ _ _=>False)
 (r:∀(w:World) (H:Hp) (s:ai) (e:Value) (s':ai),CX w [] H s (λ_ _ _=>False) e s'->False):
  W.WalkO q h8 XP YP l.row.toRowW d [] (λf vs=>PySem.call f vs):=by
 refine Att.attach_call hn y λw s₀ m mg mb p o pm cd doc a vs ns G Y ho hd N z j i c Q=>?_;have C:=L w _ Y;obtain⟨fd,M,E⟩:=F w mg p _ C G.T.g z;exact JR C G.T.g G.T.b G.T.builtins G.T.nolimit Q j i (c3 c A) U E M (λH I J=>B w H a ns c I J) λH e s'=>r w H m e s'
variable{CX:CXT}
def walk_ofK{n k:Nat}{K:Params->aV}{sp:aV->Sp}
 (hn:l.most=aa n)(g:n<=aR)(c:d.params.defaults=[])(z:bF k callerA)
 (y:∀(w:World) (h:Heap),YP w h->(K w.params).In h)
 (F:∀ (w:World) (mg:MGT) (j:Addr) (h:Heap),(K w.params).In h->h.Ns cq mg->mg d.name=aa (.ref j) ->
   ∃fd:eA,(∀(s:ai) (u:Value),BindsTo s fd ⟨[u],[]⟩ [(x,u)]) /\
    ∀base:Heap,(K w.params).In base->base.Ns cq mg->c9 l.prog w (K w.params) mg base CX k j fd [x] (sp (K w.params)))
 (i:∀(K:aV) (H:Hp) (a:Addr) (ns:List Int),ns.length<=n->tu H->SqL K H a (ns.map V.int)->sp K [.ref a] H (λv _=>v=.bl ab) λ_ _ _=>False)
 (b:∀(H:Hp) (s:ai) (e:Value) (s':ai),CX [] H s (λ_ _ _=>False) e s'->False):
  W.WalkO q h8 XP YP l.row.toRowW d [] (λf vs=>PySem.call f vs):=
 JS (K:=K) (CX:=λ_=>CX) (sp:=λw=>sp (K w.params)) hn g c z y F (λw H a ns m p r=>i (K w.params) H a ns m p r) λ_ H s e s'=>b H s e s'
abbrev b6(s:Stmt)(j:Nat):Stmt:=match s with
 |.ClassDef _ _ _ body _ _ _ _ _ _ _=>body.getD j (.Pass ⟨0,0,0,0⟩)
 | _=>.Pass ⟨0,0,0,0⟩
abbrev qF(s:Stmt):Arguments:=match s with
 |.FunctionDef _ a _ _ _ _ _ _ _ _=>a
 | _=>{posonlyargs:=[],args:=[],vararg:=ac,kwonlyargs:=[],kw_defaults:=[],kwarg:=ac,defaults:=[]}
abbrev jo(s:Stmt):List Stmt:=match s with
 |.FunctionDef _ _ b _ _ _ _ _ _ _=>b
 | _=>[]
abbrev aF(s:Stmt):Scope:=match s with
 |.FunctionDef _ _ _ _ _ _ sc _ _ _=>sc
 | _=>{kind:=.function,names:=[],isGenerator:=ae,isCoroutine:=ae}
nonrec abbrev CX0:CXT:=λ_ _ _ _ _ _=>False
nonrec abbrev E0:XK:=λ_ _ _=>False
variable{X:Cx}
def iQ:nF CX0 X E0:=λ_ _ _ _ _ _ _ h=>h.elim
structure Fun(K:aV)(x qual:Str)(st:Stmt)(f:Addr)(fd:eA):Prop where
 ex:∃(oc:Value) (od:Option Addr) (kV doc pm:Value) (an:Option Addr) (cdv ct:Value) (osl:Array (Option Value)),
  fd=W.fnOf x qual (qF st) (jo st) (aF st) .none kV doc pm an cdv ct/\K.lookup f=aa ⟨oc,od,.func fd,osl⟩/\W.codeIn K cdv qual=ab
 kp:ji K (.ref f)=ab
variable{base:Heap}{qual:Str}{st:Stmt}{f:Addr}{N ps:LSt}{sp:Sp}
def Fun.ok{k:Nat}(F:Fun K x qual st f fd)(S:aM N ps (aF st))(len:∀vs H Q E,sp vs H Q E->vs.length=ps.length)
 (b:∀ (cdv:Value) (A:cI) (outer:List Env) (s:ai) (H:Hp) (vs:List V) (Q:VK) (E:XK),bF k (A.deeper (gT qual (aF st) s.heap.objs.size f cdv))->sp vs H Q E ->
   ∃t,PSs (jn CX0 P w K mg base N qual (aF st) f cdv A outer s H E).nox (jo st) t/\t {nx:=λ_ H'=>Q .non H',rt:=Q} (start N vs) H):c9 P w K mg base CX0 (k+1) f fd ps sp:=by
 obtain⟨oc,od,kV,doc,pm,an,cdv,ct,osl,rfl,i,c⟩:=F.ex;refine Jk i c S len λA outer s H vs Q E g e=>?_;obtain⟨t,h,q⟩:=b cdv A outer s H vs Q E g e;exact⟨t,h.nox,q⟩
def Fun.binds(F:Fun K x qual st f fd)
 (h:∀(kV doc pm:Value) (an:Option Addr) (cdv ct:Value) (us:LVa),us.length=ps.length->bindArgs (W.fnOf x qual (qF st) (jo st) (aF st) .none kV doc pm an cdv ct) ⟨us,[]⟩=pure (ps.zip us)):gB K fd ps []:=by
 obtain⟨oc,od,kV,doc,pm,an,cdv,ct,osl,rfl,c,b⟩:=F.ex;exact .all (h kV doc pm an cdv ct)
def fun_mk{oc:Value}{od an:Option Addr}{osl:Array (Option Value)}{kV doc pm cdv ct:Value}(l:K.lookup f=aa ⟨oc,od,.func (W.fnOf x qual (qF st) (jo st) (aF st) .none kV doc pm an cdv ct),osl⟩)
 (c:W.codeIn K cdv qual=ab)(k:ji K (.ref f)=ab):Fun K x qual st f (W.fnOf x qual (qF st) (jo st) (aF st) .none kV doc pm an cdv ct):=⟨⟨oc,od,kV,doc,pm,an,cdv,ct,osl,rfl,l,c⟩,k⟩
structure Df(K:aV)(mg:MGT)(x:Str)(st:Stmt)(ps:LSt)(e:Addr×eA):Prop where
 F:Fun K x x st e.1 e.2
 b:gB K e.2 ps []
 g:mg x=aa (.ref e.1)
structure Dm(K:aV)(C:Addr)(x q:Str)(st:Stmt)(ps:LSt)(e:Addr×eA):Prop where
 F:Fun K x q st e.1 e.2
 b:gB K e.2 ps []
 m:qE K C x e.1
structure Pk(P:cH)(w:World)(K:aV)(mg:MGT)(base:Heap)(CX:CXT)(k:Nat)(x:Str)(e:Addr×eA)(ps:LSt)(sp:Sp):Prop where
 ok:c9 P w K mg base CX k e.1 e.2 ps sp
 g:mg x=aa (.ref e.1)
 kp:ji K (.ref e.1)=ab
 b:gB K e.2 ps []
structure Pm(P:cH)(w:World)(K:aV)(mg:MGT)(base:Heap)(CX:CXT)(k:Nat)(C:Addr)(x:Str)(e:Addr×eA)(ps:LSt)(sp:Sp):Prop where
 ok:c9 P w K mg base CX k e.1 e.2 ps sp
 c:Cls K C
 m:qE K C x e.1
 b:gB K e.2 ps []
variable{e:Addr×eA}
def Df.pk{k:Nat}(E:Df K mg x st ps e)(o:c9 P w K mg base CX k e.1 e.2 ps sp):Pk P w K mg base CX k x e ps sp:=⟨o,E.g,E.F.kp,E.b⟩
variable{q:Str}{C:Addr}
def Dm.pk{k:Nat}(E:Dm K C x q st ps e)(c:Cls K C)(o:c9 P w K mg base CX k e.1 e.2 ps sp):Pm P w K mg base CX k C x e ps sp:=⟨o,c,E.m,E.b⟩
structure Dq(K:aV)(x:Str)(st:Stmt)(f:Addr)(fd:eA):Prop where
 a:dO K cq x=aa (aa (.ref f))
 F:Fun K x x st f fd
structure Dp(K:aV)(C:Addr)(x q:Str)(st:Stmt)(f:Addr)(fd:eA):Prop where
 a:cP K (.ref C) x=aa (aa (.ref f))
 i:W.isFn K (.ref f)=ab
 F:Fun K x q st f fd
nonrec abbrev xn(x q:Str)(st:Stmt)(ps:LSt):Prop:=∀(kV doc pm:Value) (an:Option Addr) (cdv ct:Value) (us:LVa),us.length=ps.length->bindArgs (W.fnOf x q (qF st) (jo st) (aF st) .none kV doc pm an cdv ct) ⟨us,[]⟩=pure (ps.zip us)
def Dq.mk2(d:Dq K x st f fd)(X:K.In h)(G:h.Ns cq mg)(b:xn x x st ps:=by walk_at "bd"):Df K mg x st ps (f,fd):=⟨d.F,d.F.binds b,W.mg_of X G d.a⟩
def Dp.mk2(d:Dp K C x q st f fd)(b:xn x q st ps:=by walk_at "bd"):Dm K C x q st ps (f,fd):=⟨d.F,d.F.binds b,⟨d.a,d.i,d.F.kp⟩⟩
def Dq.bt{p:Str}(d:Dq K x st f fd)(b:xn x x st [p])(s:ai)(v:Value):BindsTo s fd ⟨[v],[]⟩ [(p,v)]:=by
 obtain⟨oc,od,kV,doc,pm,an,cdv,ct,osl,rfl,g,c⟩:=d.F.ex;exact .of_eq (b kV doc pm an cdv ct [v] rfl)
variable{n:Nat}
def CN(h:n<=1000):n<aR:=oy h (by decide)
variable{pos:Pos}
def pv(i:Nat)(c:X.N[i]?=aa x:=by rfl)(hv:Vis X.env.scope x:=by first |exact b7 rfl |exact bB (b7 rfl) |exact bB (bB rfl))(hd:NDb x:=by decide)
 (b:NCd x:=by decide):PE X (.Name x pos) (di i):=nv c hv hd b
variable{A B:Prop}
def xp(h:B):if ae=ab then A else B:=by
 rw[if_neg ba];exact h
def xq(h:A):if ab=ab then A else B:=by
 rw[if_pos rfl];exact h
abbrev av(H H':Hp):Prop:=∀b o,H b=aa o->H' b=aa o
def av.refl(H:Hp):av H H:=λ_ _ h=>h
variable{H H1 H2:Hp}
def av.trans(a:av H H1)(b:av H1 H2):av H H2:=λc o h=>b c o (a c o h)
variable{H':Hp}{l:Addr}
def av.free(e:av H H')(h:H' l=Option.none):H l=Option.none:=by
 cases q:H l with
 |none=>rfl
 |some o=>
  rw[e l o q]at h;cases h
def av.seq{xs:List V}(e:av H H')(h:SqL K H a xs):SqL K H' a xs:=by
 rcases h with(h |⟨o,h⟩) |h
 .exact .inl (.inl (e _ _ h))
 .exact .inl (.inr ⟨o,e _ _ h⟩)
 .exact .inr h
section
variable{κ:Type}[DecidableEq κ]
abbrev cQ(kvs:List (κ×V))(k:κ):Option V:=(kvs.find? λb=>decide (b.1=k)).map (·.2)
abbrev dA(kvs:List (κ×V))(k:κ)(v:V):List (κ×V):=
 if (kvs.any λb=>decide (b.1=k))=ab then kvs.map (λb=>if b.1=k then (b.1,v) else b) else kvs++[(k,v)]
def CO{k:κ}:cQ ([]:List (κ×V)) k=ac:=rfl
def qG{p:κ×V}{r:List (κ×V)}{k:κ}(e:p.1=k):cQ (p::r) k=aa p.2:=by simp[cQ,mP,e]
def oS{p:κ×V}{r:List (κ×V)}{k:κ}(e:¬p.1=k):cQ (p::r) k=cQ r k:=by simp[cQ,mP,e]
def tz(k:κ):∀kvs:List (κ×V),(kvs.any λb=>decide (b.1=k))=(cQ kvs k).isSome
 | []=>rfl
 |p::r=>by
  rw[gS]
  by_cases e:p.1=k
  .simp only[qG e,decide_eq_true e,Bool.true_or,Option.isSome_some]
  .rw[oS e,decide_eq_false e,Bool.false_or];exact tz k r
def xr(kvs:List (κ×V))(k:κ)(v:V):(dA kvs k v).length<=kvs.length+1:=by
 unfold dA;split
 .rw[aH];lia
 .rw[a8,cp,length_nil];lia
def e9.isSome_eq{o:Option V}{u:Option Value}(r:e9 o u):o.isSome=u.isSome:=by
 cases o with
 |none=>cases u with
  |none=>rfl
  |some _=>exact(show False from r).elim
 |some _=>cases u with
  |none=>exact(show False from r).elim
  |some _=>rfl
def e9.getD{o:Option V}{u:Option Value}{d:V}{d':Value}(r:e9 o u)(b:aE d d'):aE (o.getD d) (u.getD d'):=by
 cases o with
 |none=>cases u with
  |none=>exact b
  |some _=>exact(show False from r).elim
 |some _=>cases u with
  |none=>exact(show False from r).elim
  |some _=>exact r
def KV.val{kvs:List (κ×V)}{vs:List (κ×Value)}(r:KV kvs vs)(k:κ):e9 (cQ kvs k) (valueAt vs k):=by
 unfold KV at r
 induction r with
 |nil=>exact iN
 | @cons p q ps g h t m=>
  obtain⟨i,j⟩:=h
  by_cases e:p.1=k
  .have c:q.1=k:=i.symm.trans e;have b:valueAt (q::g) k=aa q.2:=by simp[valueAt,mP,c]
   rw[qG e,b];exact j
  .have c:¬q.1=k:=λz=>e (i.trans z);have b:valueAt (q::g) k=valueAt g k:=by simp[valueAt,mP,c]
   rw[oS e,b];exact m
def KV.any{kvs:List (κ×V)}{vs:List (κ×Value)}(r:KV kvs vs)(k:κ):(kvs.any λb=>decide (b.1=k))=vs.any λb=>decide (b.1=k):=by
 unfold KV at r
 induction r with
 |nil=>rfl
 |cons h t c=>rw[gS,gS,c,h.1]
def KV.repl{kvs:List (κ×V)}{vs:List (κ×Value)}(r:KV kvs vs)(k:κ){y:V}{u:Value}(j:aE y u):
  KV (kvs.map λb=>if b.1=k then (b.1,y) else b) (vs.map λb=>if b.1=k then (b.1,u) else b):=by
 unfold KV at r ⊢
 induction r with
 |nil=>exact .nil
 | @cons p q ps m h t i=>
  rw[bp,bp];refine .cons ?_ i;obtain⟨c,g⟩:=h
  by_cases e:p.1=k
  .rw[if_pos e,if_pos (c.symm.trans e)];exact⟨c,j⟩
  .rw[if_neg e,if_neg (λz=>e (c.trans z))];exact⟨c,g⟩
def KV.put{kvs:List (κ×V)}{vs:List (κ×Value)}(r:KV kvs vs)(k:κ){y:V}{u:Value}(b:aE y u):KV (dA kvs k y) (stored vs k u):=by
 unfold dA stored;rw[r.any k]
 by_cases e:(vs.any λc=>decide (c.1=k))=ab
 .rw[if_pos e,if_pos e];exact r.repl k b
 .rw[if_neg e,if_neg e];exact io.snoc r ⟨rfl,b⟩
def KV.length{kvs:List (κ×V)}{vs:List (κ×Value)}(r:KV kvs vs):kvs.length=vs.length:=oN r
end
variable{u:Value}
def tB{k:Key}(r:aE (kV k) u):(iO P w).is k u=ab:=by
 cases k with
 |inl i=>obtain⟨t,e⟩:=(show ∃t,u=ni i t from r);subst e;exact He P w i t
 |inr x=>obtain⟨t,e⟩:=(show ∃t,u=oP x t from r);subst e;exact Hg P w x t
nonrec abbrev KT(H:Hp):List (List Key×V)->List (List Key×Addr×Value)->Prop:=io λp q=>p.1=q.1/\fJ H q.2.1 p.1/\aE p.2 q.2.2
variable{kvs:List (List Key×V)}{xs:List (List Key×Addr×Value)}
def KT.val(r:KT H kvs xs)(k:List Key):e9 (cQ kvs k) ((atKey xs k).map (·.2)):=by
 induction r with
 |nil=>exact iN
 | @cons p q ps g h t m=>
  obtain⟨i,_,j⟩:=h
  by_cases e:p.1=k
  .have c:q.1=k:=i.symm.trans e;have b:atKey (q::g) k=aa q.2:=by simp[atKey,mP,c]
   rw[qG e,b];exact j
  .have c:¬q.1=k:=λz=>e (i.trans z);have b:atKey (q::g) k=atKey g k:=by simp[atKey,mP,c]
   rw[oS e,b];exact m
variable{y:V}
def KT.repl(r:KT H kvs xs)(k:List Key)(m:aE y u):
  KT H (kvs.map λc=>if c.1=k then (c.1,y) else c) (xs.map (putAt k u)):=by
 induction r with
 |nil=>exact .nil
 | @cons p q ps v h t j=>
  rw[bp,bp];refine .cons ?_ j;obtain⟨b,g,i⟩:=h;unfold putAt
  by_cases e:p.1=k
  .rw[if_pos e,if_pos (b.symm.trans e)];exact⟨b,g,m⟩
  .rw[if_neg e,if_neg (λz=>e (b.trans z))];exact⟨b,g,i⟩
variable{b:Addr}
def KT.put(r:KT H kvs xs)(k:List Key)(g:fJ H b k)(c:aE y u):
  KT H (dA kvs k y) (storedH xs k b u):=by
 have e:(kvs.any λi=>decide (i.1=k))=(atKey xs k).isSome:=by
  rw[tz,(r.val k).isSome_eq,Option.isSome_map]
 unfold dA storedH;rw[e]
 by_cases q:(atKey xs k).isSome=ab
 .rw[if_pos q,if_pos q];exact r.repl k c
 .rw[if_neg q,if_neg q];exact io.snoc r ⟨rfl,g,c⟩
def KT.keeps(r:KT H kvs xs)(c:∀b ys,H b=aa (.tup ys)->H' b=aa (.tup ys)):KT H' kvs xs:=
 io.mapP r λ_ _ z=>⟨z.1,z.2.1.up c,z.2.2⟩
def CP{u:HO}(ok:HOk P w H h)(e:Rd H a u):cU P w H h a u:=e.ok ok
def oT{kvs:List (Key×V)}(ok:HOk P w H h)(e:Rd H a (.dK kvs)):kvs.length<=aR/\(a==gU)=ae/\∃vs,KV kvs vs/\h.DictOf (iO P w) a vs:=
 show cU P w H h a (.dK kvs)from CP ok e
def CQ{kvs:List (Key×V)}(ok:HOk P w H h)(e:H a=aa (.dK kvs)):kvs.length<=aR/\(a==gU)=ae/\∃vs,KV kvs vs/\h.DictOf (iO P w) a vs:=oT ok (.inl e)
variable{ks:List Key}
def oU(ok:HOk P w H h)(e:fJ H a ks):(m6 (lg P w)).is h ks a:=by
 obtain⟨vs,e,j⟩:=e;obtain⟨_,its,r,o,c,g,n,i⟩:=(show cU P w H h a (.tup vs)from ok a _ e);exact⟨o,its.toArray,n,c,g,i,by simpa using B5 j r⟩
def oV(ok:HOk P w H h)(e:Rd H a (.dT kvs)):kvs.length<=aR/\(a==gU)=ae /\
  ∃xs,KT H kvs xs/\h.DictOfH (m6 (lg P w)) a xs:=by
 obtain⟨z,y,xs,r,o,es,g,i,j,v,E,G⟩:=(show cU P w H h a (.dT kvs)from CP ok e);refine⟨z,y,xs,r,o,es,g,i,j,v,E,λx hx=>?_,G⟩
 have all:∀{l:List (List Key×V)} {m:List (List Key×Addr×Value)},KT H l m->∀x∈m,(m6 (lg P w)).is h x.1 x.2.1:=by
  intro l m q
  induction q with
  |nil=>intro x hx;exact nomatch hx
  | @cons p q ps J c t I=>
   intro x hx
   rcases aQ.mp hx with e |hx
   .subst e;exact oU ok (by rw[<- c.1];exact c.2.1)
   .exact I x hx
 exact all r x hx
def CS(ok:HOk P w H h)(e:H a=aa (.dT kvs)):kvs.length<=aR/\(a==gU)=ae /\
  ∃xs,KT H kvs xs/\h.DictOfH (m6 (lg P w)) a xs:=oV ok (.inl e)
abbrev gC(H:Hp)(a:Addr)(y:V)(r:Option V):Prop:=
 (∃kvs k,Rd H a (.dK kvs)/\y=kV k/\r=cQ kvs k)\/∃kvs k b,Rd H a (.dT kvs)/\y=.ref b/\fJ H b k/\r=cQ kvs k
abbrev mh(H:Hp)(a:Addr)(y v:V)(H':Hp):Prop:=
 (∃kvs k,H a=aa (.dK kvs)/\y=kV k/\kvs.length<aR/\H'=upd H a (.dK (dA kvs k v))) \/
 ∃kvs k b,H a=aa (.dT kvs)/\y=.ref b/\fJ H b k/\kvs.length<aR/\H'=upd H a (.dT (dA kvs k v))
def gC.k{kvs:List (Key×V)}{k:Key}(e:H a=aa (.dK kvs)):gC H a (kV k) (cQ kvs k):=.inl ⟨kvs,k,.inl e,rfl,rfl⟩
def gC.t{k:List Key}(e:H a=aa (.dT kvs))(c:fJ H b k):gC H a (.ref b) (cQ kvs k):=.inr ⟨kvs,k,b,.inl e,rfl,c,rfl⟩
variable{v:V}
def mh.k{kvs:List (Key×V)}{k:Key}(e:H a=aa (.dK kvs))(c:kvs.length<aR):mh H a (kV k) v (upd H a (.dK (dA kvs k v))):=.inl ⟨kvs,k,e,rfl,c,rfl⟩
def mh.t{k:List Key}(e:H a=aa (.dT kvs))(c:fJ H b k)(g:kvs.length<aR):
  mh H a (.ref b) v (upd H a (.dT (dA kvs k v))):=.inr ⟨kvs,k,b,e,rfl,c,g,rfl⟩
variable{pins:PNS}{σ:St}
def Inv.big{s:ai}(I:Inv X pins σ H s):gU<s.heap.objs.size:=by
 have h:cq<s.heap.objs.size:=(I.mod.glob.keeps I.bk).lt;exact lU (by decide) h
variable{A:cI}{E Q:PRS}
def JT{s:ai}(U:A.units+1<cLine)(I:Inv X pins σ H s)(g:gC H a y (aa v))(L:aE y u)(h:∀j s',Inv X pins σ H s'->aE v j->Q j s'):
  wpAny (model X.prog X.w) A (getItem (.ref a) u) Q E s:=by
 rcases g with⟨kvs,k,e,r,l⟩ |⟨kvs,k,b,e,r,M,l⟩
 .subst r;obtain⟨z,hd,vs,c,m⟩:=oT I.hok e;obtain⟨j,J,i⟩:=e9.some_of (v:=v) (o:=valueAt vs k) (by rw[l];exact c.val k);exact wpAny_getItem_of (tB L) m.mapOf J (h j _ (I.tok _) i)
 .subst r;cases (show u=bJ b from L);obtain⟨z,hd,xs,c,m⟩:=oV I.hok e;obtain⟨j,J,i⟩:=e9.some_of (v:=v) (o:=(atKey xs k).map (·.2)) (by rw[l];exact c.val k);obtain⟨p,T,G⟩:=Option.map_eq_some_iff.mp J;refine wpAny_getItem_heap (qw U) (oU I.hok M) m T ?_;rw[G];exact h j _ (I.tok _) i
def JU{s:ai}{o:Option V}(r:A.units+1<cLine)(I:Inv X pins σ H s)(g:gC H a y o)(m:aE y u)(h:∀s',Inv X pins σ H s'->Q (.bool o.isSome) s'):
  wpAny (model X.prog X.w) A (cC .In u (.ref a)) Q E s:=by
 rcases g with⟨kvs,k,e,j,l⟩ |⟨kvs,k,b,e,j,p,l⟩
 .subst j;obtain⟨z,hd,vs,c,i⟩:=oT I.hok e;refine wpAny_in_of (tB m) hd i.mapOf ?_;rw[<- (c.val k).isSome_eq,<- l];exact h _ (I.tok _)
 .subst j;cases (show u=bJ b from m);obtain⟨z,hd,xs,c,i⟩:=oV I.hok e;refine wpAny_in_heap (qw r) (oU I.hok p) hd i ?_;have q:=(c.val k).isSome_eq;rw[Option.isSome_map]at q;rw[<- q,<- l];exact h _ (I.tok _)
variable{h':Heap}{t':Nat}
def xt{s:ai}{c:HO}(I:Inv X pins σ H s)(m:Mut (H a))(j:gy a s.heap h')(i:∃q,h'.get? a=aa q)(new:cU X.prog X.w (upd H a c) h' a c):
  Inv X pins σ (upd H a c) {s with heap:=h',toks:=t'}:=
 I.write (x:=a) (e:=a) m (.inl rfl) (λb q g z=>(j.2 b g).trans z) i new
def JV{kvs:List (Key×V)}{vs:List (Key×Value)}(z:kvs.length<=aR)(hd:(a==gU)=ae)(c:KV kvs vs)(g:h'.DictOf (iO P w) a vs):
  cU P w H' h' a (.dK kvs):=⟨z,hd,vs,c,g⟩
variable{r:Value}
def JW{s:ai}{Q:Unit->ai->Prop}(hu:A.units+1<cLine)(I:Inv X pins σ H s)(g:mh H a y v H')(ry:aE y u)(Y:aE v r)(h:∀s',Inv X pins σ H' s'->Q () s'):
  wpAny (model X.prog X.w) A (setItem (.ref a) u r) Q E s:=by
 rcases g with⟨kvs,k,e,J,l,G⟩ |⟨kvs,k,b,e,J,T,l,G⟩
 .subst J G;obtain⟨z,hd,vs,i,p⟩:=CQ I.hok e;have hz:vs.length<=aR:=by rw[<- i.length];exact z
  have L:(dA kvs k v).length<=aR:=by have:=xr kvs k v;lia
  refine wpAny_setItem_pairs (hsz:=hz) (tB ry) p λh' j M=>h _ ?_;have he:∃q,h'.get? a=aa q:=let ⟨q,_,_,m,_⟩:=j;⟨q,m⟩;exact xt I (by rw[e];exact iN) M he (JV L hd (i.put k Y) j)
 .subst J G;cases (show u=bJ b from ry);obtain⟨z,hd,xs,i,p⟩:=CS I.hok e;have hz:xs.length<=aR:=by rw[<- oN i];exact z
  have L:(dA kvs k v).length<=aR:=by have:=xr kvs k v;lia
  refine wpAny_setItem_heap (hsz:=hz) (qw hu) (oU I.hok T) p λh' j M=>h _ ?_;obtain⟨q,es,ep,m,h2,h3,h4,_,h5⟩:=j;refine xt I (by rw[e];exact iN) M ⟨q,m⟩ ⟨L,hd,_,(i.put k T Y).keeps λc ys U=>?_,q,es,ep,m,h2,h3,h4,h5⟩;rw[aJ (B6 U e (λz=>nomatch z))];exact U
abbrev tE(i:Expr):Prop:=∀g c,subscripted i ae g c=operate [g,c] (getItem g c)
variable{prog:cH}{env:Env}{value:Expr}
def JX{s:ai}{c:Expr}{T id:String}
 (J:mZ (.type T) "__getitem__"=pure (aa (.builtin id)))(L:tE c)
 (h:wpAny (model prog w) A (eval value env) (λo m=>wpAny (model prog w) A (eval c env) (λi g=>g.TypeIs o T/\wpAny (model prog w) A (getItem o i) Q E g) E m) E s):
  wpAny (model prog w) A (eval (.Subscript value c pos) env) Q E s:=by
 refine Subscript_ (f8 h (λo m z=>f8 z (λi g j=>?_) λ_ _ x=>x) λ_ _ x=>x);obtain⟨I,j⟩:=j;unfold subscriptTail;refine am ?_;rw[getitemInPython_of_ne I.not_modules];refine am (sM I J ?_)
 have fin:wpAny (model prog w) A (subscripted c ae o i) (λr p=>wpAny (model prog w) A (letTemporaryGo value o r >>= λ_=>pure r) Q E p) E g:=by
  rw[L o i];exact wpAny_operating (f8 j (λr p G=>am (wpAny_letTemporaryGo (aD G))) λ_ _ x=>x)
 first
  |exact aD (am fin)
  |exact am (aD (am fin))
  |exact am fin
def JY{s:ai}{o:Option V}(I:Inv X pins σ H s)(g:gC H a y o):s.TypeIs (.ref a) "dict":=by
 rcases g with⟨kvs,k,e,_,_⟩ |⟨kvs,k,b,e,_,_,_⟩
 .obtain⟨_,_,vs,_,c⟩:=oT I.hok e;exact c.typeIs
 .obtain⟨_,_,xs,_,c⟩:=oV I.hok e;exact c.typeIs
abbrev JZ(c ty:TE):TE:=λσ H Q=>c σ H λx H1=>ty σ H1 λy H2=>∃a v,x=.ref a/\gC H2 a y (aa v)/\Q v H2
abbrev J0(ty c:TE):TE:=λσ H Q=>ty σ H λy H1=>c σ H1 λx H2=>∃a o,x=.ref a/\gC H2 a y o/\Q (.bl o.isSome) H2
abbrev xu(i ty j:TE):TS:=λD σ H=>j σ H λv H1=>i σ H1 λx H2=>ty σ H2 λy g=>∃a c,x=.ref a/\mh g a y v c/\D.nx σ c
variable{i:Expr}{td:TE}
def CT{o:Expr}{ty:TE}(J:X.A.units+1<cLine)(z:PE X o td)(hi:PE X i ty)(G:tE i):PE X (.Subscript o i pos) (JZ td ty):=by
 intro pins s σ H Q I h;refine JX PySem.F.slot_dict_getitem.lookup G (thn (z pins s σ H _ I h) λu s1 ⟨x,H1,m,U,L⟩=>thn (hi pins s1 σ H1 _ m L) λiv s2 T=>?_);obtain⟨y,H2,j,Y,a,v,ex,g,M⟩:=T;subst ex;obtain rfl:u=bJ a:=U;exact⟨JY j g,JT J j g Y λw' s3 p c=>⟨v,H2,p,c,M⟩⟩
def J1{o:Expr}{ty:TE}(z:X.A.units+1<cLine)(hi:PE X i ty)(p:PE X o td):PC X .In i o (J0 ty td):=by
 intro pins s σ H Q I h;refine thn (hi pins s σ H _ I h) λY s1 ⟨y,H1,c,U,J⟩=>thn (p pins s1 σ H1 _ c J) λu s2 M=>?_;obtain⟨x,H2,j,T,a,G,ex,g,L⟩:=M;subst ex;obtain rfl:u=bJ a:=T;exact JU z j g U λs3 m=>⟨.bl G.isSome,H2,m,rfl,L⟩
variable{eH:Pos}{tv:TE}
def CU{o:Expr}{ty:TE}(L:X.A.units+1<cLine)(G:PE X o td)(hi:PE X i ty)(hv:PE X value tv)(J:gx value (aa (.Subscript o i eH)) pos.line X.env=pure ae):
  PS X (.Assign [.Subscript o i eH] value pos) (xu td ty tv):=by
 intro pins s σ H D I h;refine wpAny_Assign_Subscript (thn (hv pins s σ H _ I h) λr s1 ⟨v,H1,j,rv,M⟩=>thn (G pins s1 σ H1 _ j M) λu s2 ⟨x,H2,m,rx,T⟩=>thn (hi pins s2 σ H2 _ m T) λiv s3 Y=>?_) J;obtain⟨y,H3,p,ry,a,c,ex,g,U⟩:=Y;subst ex;obtain rfl:u=bJ a:=rx;exact JW L p g ry rv λs4 z=>⟨σ,c,z,U⟩
def J2(h:Heap)(c:gU<h.objs.size):cU P w H (h.push {cls:=.type "dict",data:=.dict #[]}) h.objs.size (.dK []):=
 ⟨c4 _,beq_eq_false_iff_ne.mpr (eZ (bW c)),[],.nil,Heap.DictOf.new h⟩
def J3(h:Heap)(c:gU<h.objs.size):cU P w H (h.push {cls:=.type "dict",data:=.dict #[]}) h.objs.size (.dT []):=
 ⟨c4 _,beq_eq_false_iff_ne.mpr (eZ (bW c)),[],.nil,_,#[],0,cO _ rfl,⟨rfl,rfl,rfl⟩,rfl,rfl,f6⟩
abbrev CV:TE:=λ_ H Q=>∀p,H p=ac->Q (.ref p) (upd H p (.dK []))
abbrev J4:TE:=λ_ H Q=>∀p,H p=ac->Q (.ref p) (upd H p (.dT []))
def J5:PE X (.Dict [] [] pos) CV:=λpins s σ H Q I h=>
 wpAny_Dict_empty ⟨.ref s.heap.objs.size,_,I.laid (a:=s.heap.objs.size) (o:=.dK []) (t':=s.toks) (λ_ _ q=>bC _ q) (aL _) (J2 s.heap I.big),rfl,h _ (I.hok.fresh (aL _))⟩
def J6:PE X (.Dict [] [] pos) J4:=λpins s σ H Q I h=>
 wpAny_Dict_empty ⟨.ref s.heap.objs.size,_,I.laid (a:=s.heap.objs.size) (o:=.dT []) (t':=s.toks) (λ_ _ q=>bC _ q) (aL _) (J3 s.heap I.big),rfl,h _ (I.hok.fresh (aL _))⟩
structure M2(X:Cx)(o:Expr)(m:Str)(apos:Pos)(e f:Expr)(cpos:Pos):Prop where
 base:oG o m X.env (eval o X.env)=eval o X.env
 few : ((cr cpos (aO [e,f] X.env)).all (λx=>!x.1) && (jY cpos (jW [] X.env)).all (λx=>x.1.isSome)
  && decide (([e,f]:LEx).length+([]:List Keyword).length+(if ([]:List Keyword).isEmpty then 0 else 1)<30))=ab
 line:(apos.endLine==cpos.line)=ab
 trees:cr cpos (aO [e,f] X.env)=[(ae,eval e X.env),(ae,eval f X.env)]
abbrev IsD(H:Hp)(a:Addr):Prop:=(∃kvs,Rd H a (.dK kvs))\/∃kvs,Rd H a (.dT kvs)
def CW{s:ai}(I:Inv X pins σ H s)(d:IsD H a):
  s.TypeIs (.ref a) "dict" /\ (∀b,bJ a=.ref b->∃c,s.heap.get? b=aa c/\c.dict=ac)/\(a==gU)=ae:=by
 rcases d with⟨kvs,e⟩ |⟨kvs,e⟩
 .obtain⟨_,hd,vs,_,g⟩:=oT I.hok e;refine⟨g.typeIs,λb q=>?_,hd⟩;cases q;obtain⟨c,_,_,j,m,_⟩:=g;exact⟨c,j,m.2.1⟩
 .obtain⟨_,hd,xs,_,g⟩:=oV I.hok e;refine⟨g.typeIs,λb q=>?_,hd⟩;cases q;obtain⟨c,_,_,j,m,_⟩:=g;exact⟨c,j,m.2.1⟩
variable{d:V}
def J7{s:ai}{o:Option V}(M:A.units+1<cLine)(I:Inv X pins σ H s)(g:gC H a y o)(G:aE y u)(p:aE d r)(h:∀J s',Inv X pins σ H s'->aE (o.getD d) J->Q J s'):
  wpAny (model X.prog X.w) A (call (.builtin "dict.get") [.ref a,u,r]) Q E s:=by
 rcases g with⟨kvs,k,e,m,l⟩ |⟨kvs,k,b,e,m,L,l⟩
 .subst m;obtain⟨z,hd,vs,c,j⟩:=oT I.hok e;refine call_meetsIn wI j.typeIs PySem.F.entry_dict_get (PySem.F.args_dict_get_3 _ _ _) (meets_dict_get_default (iO X.prog X.w) a (tB G) hd r) ⟨_,j.mapOf,h _ _ (I.tok _) ?_⟩;rw[l];exact(c.val k).getD p
 .subst m;cases (show u=bJ b from G);obtain⟨z,hd,xs,c,j⟩:=oV I.hok e;refine call_meetsIn wI j.typeIs PySem.F.entry_dict_get (PySem.F.args_dict_get_3 _ _ _) (meetsH_dict_get_default (m6 (lg X.prog X.w)) a b hd r) ⟨qw M,k,xs,oU I.hok L,j,h _ _ (I.tok _) ?_⟩;rw[l];exact(c.val k).getD p
abbrev J8(td ty g:TE):TE:=λσ H Q=>td σ H λx H1=>∃a,x=.ref a/\IsD H1 a/\ty σ H1 λy H2=>g σ H2 λz c=>∃o,gC c a y o/\Q (o.getD z) c
variable{e f:Expr}{apos cpos:Pos}{tx:TE}
def CY{o:Expr}{ty:TE}(Y:X.A.units+1<cLine)(U:PE X o td)(M:PE X e ty)(T:PE X f tx)(m:M2 X o "get" apos e f cpos):PE X (.Call (.Attribute o "get" apos) [e,f] [] cpos) (J8 td ty tx):=by
 intro pins s σ H Q I h;refine wpAny_Call_method m.base m.few m.line PySem.F.plainAttrs_dict wI PySem.F.type_dict_get (thn (U pins s σ H _ I h) λu s1 q_=>?_);obtain⟨x,H1,j,rx,a,ex,d,q1⟩:=q_;subst ex;obtain rfl:u=bJ a:=rx;obtain⟨t1,t2,_⟩:=CW j d;refine⟨t1,t2,?_⟩;rw[m.trees]
 refine wE rfl (wF (jZ (thn (M pins s1 σ H1 _ j q1) λiv s2 ⟨y,H2,G,ry,q2⟩ =>
  jZ (thn (T pins s2 σ H2 _ G q2) λfv s3 ⟨z,p,J,rz,ov,g,q3⟩=>wG ?_))))
 exact J7 Y J g ry rz λw' s4 L c=>⟨_,p,L,c,q3⟩
section
variable{κ:Type}[DecidableEq κ]
end
end L2
set_option maxHeartbeats 4000000
namespace L2
open List
open PySem
def xv{env:Env}(f:(Str×ga)->List (Str×Addr)->Sem (ForInStep (List (Str×Addr))))
 (m:∀n k r,k≠dN->f (n,k) r=pure (.yield r))
 (p:∀n r c,env.cells.lookup n=aa c->f (n,.free) r=pure (.yield ((n,c)::r))):
  ∀(l:List (Str×ga)) (a:List (Str×Addr)),(∀x∈l,x.2=.free->∃c,env.cells.lookup x.1=aa c) ->
   (∀x c,a.lookup x=aa c->env.cells.lookup x=aa c) ->
   ∃cl,forIn l a f=(pure cl:Sem _)/\(∀x c,cl.lookup x=aa c->env.cells.lookup x=aa c) /\
    (∀x,((∃c,a.lookup x=aa c)\/(x,dN)∈l)->∃c,cl.lookup x=aa c)
 | [],a,_,ha=>⟨a,rfl,ha,λx hx=>hx.elim id (λz=>nomatch z)⟩
 |(n,k)::l,a,hl,ha=>by
  have g:∀x∈l,x.2=.free->∃c,env.cells.lookup x.1=aa c:=λx hx=>hl x (bo _ hx)
  by_cases u:k=.free
  .subst u;obtain⟨c,v⟩:=hl (n,.free) aN rfl;have d:env.cells.lookup n=aa c:=v
   have q:∀x b,((n,c)::a).lookup x=aa b->env.cells.lookup x=aa b:=λx b hx=>by
    rw[eK]at hx
    cases e:x==n with
    |true=>
     rw[e]at hx;cases hx
     rw[eq_of_beq e];exact d
    |false=>
     rw[e]at hx;exact ha x b hx
   obtain⟨cl,e,h,i⟩:=xv f m p l ((n,c)::a) g q;refine⟨cl,?_,h,λx hx=>i x ?_⟩
   .rw[forIn_cons,p n a c d,pure_bind];exact e
   .have here:∀b,a.lookup x=aa b->∃j,((n,c)::a).lookup x=aa j:=λb z=>by
     rw[eK]
     cases e:x==n with
     |true=>exact⟨c,rfl⟩
     |false=>exact⟨b,z⟩
    rcases hx with⟨b,z⟩ |hx
    .exact .inl (here b z)
    .rcases aQ.mp hx with z |z
     .cases z;refine .inl ⟨c,?_⟩;rw[eK,beq_self_eq_true]
     .exact .inr z
  .obtain⟨cl,e,h,i⟩:=xv f m p l a g ha;refine⟨cl,?_,h,λx hx=>i x ?_⟩
   .rw[forIn_cons,m n k a u,pure_bind];exact e
   .rcases hx with hx |hx
    .exact .inl hx
    .rcases aQ.mp hx with z |z
     .cases z;exact absurd rfl u
     .exact .inr z
variable{scope:Scope}{env:Env}
def CZ(h:∀x∈scope.names,x.2=.free->∃c,env.cells.lookup x.1=aa c):
  ∃cl,closureFor scope env=pure cl/\(∀x c,cl.lookup x=aa c->env.cells.lookup x=aa c)/\(∀x,(x,dN)∈scope.names->∃c,cl.lookup x=aa c):=by
 unfold closureFor
 obtain ⟨cl,e,b,d⟩:=xv (env:=env) (λ(x:Str×ga) (r:List (Str×Addr))=>(match x with
   |(name,kind)=>if (kind==dN)=ab then (do let a <- cellOf env name;pure (ot ((name,a)::r))) else (pure (ot r):Sem _)))
  (λn k r g=>by
   have:(k==dN)=ae:=by simpa using g
   simp only[this,ss,if_false])
  (λn r c f=>by
   simp only[beq_self_eq_true,if_true,cellOf,f,pure_bind])
  scope.names [] h (λx c z=>by cases z)
 refine⟨cl,?_,b,λx hx=>d x (.inr hx)⟩;refine(congrArg (λ(t:Sem (List (Str×Addr)))=>t >>= pure) ?_).trans ((congrArg (λ(t:Sem (List (Str×Addr)))=>t >>= pure) e).trans (pure_bind _ _));rfl
nonrec abbrev E00:Value->ai->Prop:=λ_ _=>False
variable{prog:cH}{w:World}{A:cI}{R:Result->ai->Prop}{h6 iter:Expr}{hY:LEx}{pos:Pos}
def J9{s:ai}{a:Expr}{it p:Value}(I:Nat->ai->Prop)
 (B:∀ n s,I n s->wpAny (model prog w) A (fH it) (λr b=>match r with
   |none=>R (.ok .next) b
   | some v=>wpAny (model prog w) A (sL a it v) (λ_ d=>wpAny (model prog w) A (iJ a env v) (λ_ i =>
     wpAny (model prog w) A (forIn hY ab λc r=>if r=ab then do let ok <- isTrue c env (eval c env); pure (ot ok) else pure (ot r)) (λok e =>
      if ok=ab then wpAny (model prog w) A (eval h6 env) (λx j =>
       wpAny (model prog w) A (call (.builtin "list.append") [p,x]) (λ_ l=>∃m,m<n/\I m l) (notedBy (model prog w) A env λx s'=>R (.error x) s') j) (notedBy (model prog w) A env λx s'=>R (.error x) s') e
      else ∃m,m<n/\I m e) (notedBy (model prog w) A env λx s'=>R (.error x) s') i) (notedBy (model prog w) A env λx s'=>R (.error x) s') d) (notedBy (model prog w) A env λx s'=>R (.error x) s') b) (notedBy (model prog w) A env λx s'=>R (.error x) s') s)
 (n:Nat)(h:I n s):
  gV (model prog w) A (.compLoop (.ListComp h6 [⟨a,iter,hY,0⟩] scope pos) 0 it p env) R s:=by
 refine codeAny_loop rfl I (λn s C=>?_) n h;show wpAny _ A ((compTurn (.ListComp h6 [⟨a,iter,hY,0⟩] scope pos) 0 it p env).onRaise (λx=>do noteFrame x env;theTreesLotGoes x)) _ _ s;refine wpAny_noted ?_;rw[compTurn_list];refine am (wpAny_standAt (am (f8 (B n s C) (λr b f=>?_) λ_ _ h'=>h')))
 cases r with
 |none=>exact aD f
 |some v=>
  refine am (f8 f (λ_ d q=>?_) λ_ _ h'=>h');refine am (f8 q (λ_ i u=>am (f8 u (λok e g=>?_) λ_ _ h'=>h')) λ_ _ h'=>h')
  cases ok with
  |false=>exact aD ⟨rfl,g⟩
  |true=>
   exact am (am (f8 g (λx j y=>am (f8 y (λ_ l z=>aD (aD ⟨rfl,z⟩)) λ_ _ h'=>h')) λ_ _ h'=>h'))
open PySem.Spec PyProof.Rows
@[reducible]noncomputable def Cx.comp(X:Cx)(scope:Scope)(Nc:LSt)(cl:List (Str×Addr))(C:Addr)(ex:LAd)(eL:ai)(fy:Hp):Cx:=
 {X with N:=Nc,s₀:=eL,H₀:=fy,env:=compEnvC scope cl C X.env,outer:=X.stack,ex:=ex,fn:=λ_=>ae,pn:=[],xe:=E00}
def xy{env:Env}:∀{names:List (Str×ga)} {x:Str},names.lookup x=aa .free ->
  (names.map λ(n,k)=>if (k==dN && env.scope.kind==.function && env.kindOf n==aa .cell) then (n,iL) else (n,k)).lookup x=aa .cell \/
  (names.map λ(n,k)=>if (k==dN && env.scope.kind==.function && env.kindOf n==aa .cell) then (n,iL) else (n,k)).lookup x=aa .free
 | [],_,h=>by simp at h
 |(n,k)::r,x,h=>by
  have a:=@xy env r x;rw[bp];show jb x ((if (k==dN && env.scope.kind==.function && env.kindOf n==aa .cell)=ab then (n,iL) else (n,k))::_)=_\/jb x ((if (k==dN && env.scope.kind==.function && env.kindOf n==aa .cell)=ab then (n,iL) else (n,k))::_)=_;rw[eK]at h
  cases hx:x==n with
  |true=>
   rw[hx]at h;cases h;split
   .left;rw[eK,hx]
   .right;rw[eK,hx]
  |false=>
   rw[hx]at h;split
   .rw[eK,hx];exact a h
   .rw[eK,hx];exact a h
def xz{env:Env}{a:ga}(b:a=.cell\/a=.free):∀{names:List (Str×ga)} {x:Str},
  (names.map λ(n,k)=>if (k==dN && env.scope.kind==.function && env.kindOf n==aa .cell) then (n,iL) else (n,k)).lookup x=aa a ->
  (x,dN)∈names\/(x,iL)∈names
 | [],_,h=>by simp at h
 |(n,k)::r,x,h=>by
  have g:=@xz env a b r x;rw[bp]at h;have h':jb x ((if (k==dN && env.scope.kind==.function && env.kindOf n==aa .cell)=ab then (n,iL) else (n,k))::(r.map λ(n,k)=>if (k==dN && env.scope.kind==.function && env.kindOf n==aa .cell) then (n,iL) else (n,k)))=aa a:=h
  cases hx:x==n with
  |true=>
   have e:=eq_of_beq hx;subst e;split at h'
   .rename_i c
    have f:k=.free:=by
     rw[cx,cx]at c;exact eq_of_beq c.1.1
    subst f;exact .inl aN
   .rw[eK,hx]at h';have e:k=a:=cN h';subst e
    rcases b with z |z
    .subst z;exact .inr aN
    .subst z;exact .inl aN
  |false=>
   have d:(r.map λ(n,k)=>if (k==dN && env.scope.kind==.function && env.kindOf n==aa .cell) then (n,iL) else (n,k)).lookup x=aa a:=by
    split at h' <;> (rw[eK,hx]at h';exact h')
   rcases g d with z |z
   .exact .inl (bo _ z)
   .exact .inr (bo _ z)
abbrev nG(scope:Scope)(outer:List (Str×ga))(N Nc:LSt)(k:Nat)(js:LN):Bool:=
 scope.names.all (λx=>(x.2 != .free || outer.lookup x.1==aa .cell || outer.lookup x.1==aa .free) && x.2 != .cell && (x.2 != .local || scope.names.lookup x.1==aa .local)) &&
 scope.kind==.function && Nc.length==k+js.length &&
 (bI js.length).all (λi=>match Nc[k + i]?,js[i]? with
  |some x,aa j=>N[j]?==aa x && scope.names.lookup x==aa .free
  | _,_=>ae)
structure oW(scope:Scope)(outer:List (Str×ga))(N Nc:LSt)(k:Nat)(js:LN):Prop where
 free:∀x∈scope.names,x.2=.free->outer.lookup x.1=aa .cell\/outer.lookup x.1=aa .free
 nocell:∀x∈scope.names,x.2≠.cell
 loc:∀x∈scope.names,x.2=.local->scope.names.lookup x.1=aa .local
 kind:scope.kind=.function
 len:Nc.length=k+js.length
 at':∀i j,js[i]?=aa j->∃x,Nc[k+i]?=aa x/\N[j]?=aa x/\scope.names.lookup x=aa .free
variable{N Nc:LSt}{k:Nat}{js:LN}
def oW.of{outer:List (Str×ga)}(h:nG scope outer N Nc k js=ab):oW scope outer N Nc k js:=by
 unfold nG at h;rw[cx,cx,cx]at h;obtain⟨⟨⟨a,c⟩,d⟩,b⟩:=h;rw[all_eq_true]at a b;refine⟨λx hx e=>?_,λx hx e=>?_,λx hx e=>?_,eq_of_beq c,eq_of_beq d,λi j e=>?_⟩
 .have:=a x hx;simp only[cx,i9,bne_iff_ne,beq_iff_eq]at this
  rcases this.1.1 with(z |z) |z
  .exact absurd e z
  .exact .inl z
  .exact .inr z
 .have:=a x hx;simp only[cx,i9,bne_iff_ne,beq_iff_eq]at this;exact this.1.2 e
 .have:=a x hx;simp only[cx,i9,bne_iff_ne,beq_iff_eq]at this
  rcases this.2 with z |z
  .exact absurd e z
  .exact z
 .have hi:i<js.length:=(dq.mp e).1;have:=b i (eM.mpr hi);rw[e]at this
  cases q:Nc[k+i]? with
  |none=>rw[q]at this;cases this
  |some x=>
   rw[q]at this;simp only[cx,beq_iff_eq]at this;exact⟨x,rfl,this.1,this.2⟩
abbrev jp(k:Nat)(js:LN)(σ:St):St:=jS k ac++js.map λj=>(σ[j]?).getD ac
abbrev PTs(X:Cx)(hY:LEx)(t:TT):Prop:=
 ∀(pins:PNS) (s:ai) (σ:St) (H:Hp) (Q:Bool->Hp->Prop),Inv X pins σ H s->t σ H Q ->
  wpAny (model X.prog X.w) X.A (forIn hY ab λc r=>if r=ab then do let ok <- isTrue c X.env (eval c X.env);pure (ot ok) else pure (ot r)) (TP X pins σ Q) X.xe s
abbrev Ka:TT:=λ_ H Q=>Q ab H
variable{X:Cx}
def Kb:PTs X [] Ka:=λ_ _ _ H _ I h=>wpAny_tests_nil ⟨H,I,h⟩
def Kc{c:Expr}{t:TT}(h:PT X c t):PTs X [c] t:=λpins s σ H Q I q=>wpAny_tests_one (h pins s σ H Q I q)
abbrev xA(J:It)(g:TG)(tt:TT)(te:TE)(f:St)(h:Hp)(Q:VK):Prop:=
 ∃W:Nat->Nat->List V->St->Hp->Prop,(∃m,W 0 m [] f h)/\∀i m ys d H',W i m ys d H' ->
  (J.stop i H'/\ys.length<=aR/\∀D,h D=ac->H' D=ac->Q (.ref D) (upd H' D (.lst ys))) \/
  (J.go i H'/\ys.length<=aR/\∃ N : List V->St->Hp->Prop,(∀ c e H2,N c e H2->∃ l,l < m/\W (i + 1) l c e H2) /\
   ∀x H2,J.yld i H' x H2->g x d H2 λa n=>tt a n λb j=>if b=ab then te a j λy p=>N (ys++[y]) a p else N ys a j)
abbrev oX(k:Nat)(js:LN)(b:TI)(g:TG)(tt:TT)(te:TE):TE:=λσ H Q=>b σ H λJ a=>xA J g tt te (jp k js σ) a Q
@[reducible]noncomputable def Cx.to(X:Cx)(pn:PNS)(xe:PRS):Cx:={X with pn:=pn,xe:=xe}
variable{Y:Cx}{xe:PRS}{pins:PNS}{σ:St}{H:Hp}
def C0{s:ai}(I:Inv Y pins σ H s):Inv {Y with xe:=xe} pins σ H s:=
 ⟨⟨I.ok.mod,I.ok.kind,I.ok.glob,I.ok.blt,I.ok.above,I.ok.inj,I.ok.has,I.ok.cab,I.ok.hd,I.ok.frames,I.ok.stk,I.ok.exf,I.ok.bs,I.ok.bsz,I.ok.noex,I.ok.exfs,I.ok.funs,I.ok.frf⟩,I.os,I.bare,I.base,I.loc,I.cell,I.free,I.freeC,I.pin,I.hok,I.len⟩
def C1{s:ai}(I:Inv {Y with xe:=xe} pins σ H s):Inv Y pins σ H s:=
 ⟨⟨I.ok.mod,I.ok.kind,I.ok.glob,I.ok.blt,I.ok.above,I.ok.inj,I.ok.has,I.ok.cab,I.ok.hd,I.ok.frames,I.ok.stk,I.ok.exf,I.ok.bs,I.ok.bsz,I.ok.noex,I.ok.exfs,I.ok.funs,I.ok.frf⟩,I.os,I.bare,I.base,I.loc,I.cell,I.free,I.freeC,I.pin,I.hok,I.len⟩
variable{e:Expr}{t:TE}
def PE.to0(h:PE {Y with pn:=[],xe:=E00} e t):PE {Y with pn:=[],xe:=xe} e t:=λpins s σ H Q I q=>
 f8 (h pins s σ H Q (C1 (xe:=xe) I) q) (λu s' ⟨v,H',a,r,b⟩=>⟨v,H',C0 (xe:=xe) a,r,b⟩) λ_ _ z=>z.elim
@[reducible]noncomputable def jq(us:LVa)(n:Nat):Obj:={cls:=.type "list",data:=.seq us.toArray n}
variable{tg:Expr}{g:TG}{tt:TT}{te:TE}{H2:Hp}{s2:ai}{it:Addr}{fp:LAd}{tn:Nat->Heap->Prop}{J:It}{cl:List (Str×Addr)}{Q:VK}{RR:Value->Addr->Result->ai->Prop}{E:PRS}
def Kd{PX:Cx->Prop}
 (hc:X.calm=ab)(ck:oW scope X.env.scope.names X.N Nc k js)
 (hg:∀cl C ex L I,PG (X.comp scope Nc cl C ex L I) tg g)(ht:∀cl C ex L I,PTs (X.comp scope Nc cl C ex L I) hY tt)(he:∀cl C ex L I xe,PX ((X.comp scope Nc cl C ex L I).to [] xe)->PE ((X.comp scope Nc cl C ex L I).to [] xe) h6 te)
 (a1:∀x c,cl.lookup x=aa c->X.env.cells.lookup x=aa c)(a2:∀x,(x,dN)∈scope.names->∃c,cl.lookup x=aa c)
 (G:Inv X pins σ H2 s2)(T:lq X.prog X.w X.K tg J fp it tn)(li:tn 0 s2.heap)(f2:∀b∈fp,iu X pins H2 b)(hW:xA J g tt te (jp k js σ) H2 Q)
 (hRR:∀(D C:Addr) (s':ai) (H':Hp),Inv X pins σ H' s'->(∃m,s'.heap.Ns C m)->iu X pins H' C->Q (.ref D) H'->RR (.ref D) C (.ok .next) s')
 (hPX:∀D C,s2.heap.objs.size=D->D<C->(∀b∈frs X.stack,b<D)->PX ((X.comp scope Nc cl C fp s2 H2).to [] (notedBy (model X.prog X.w) X.A (compEnvC scope cl C X.env) λx s'=>RR (.ref D) C (.error x) s'))):
  wpAny (model X.prog X.w) X.A (newList []) (λh7 s₃=>wpAny (model X.prog X.w) X.A (newFunctionEnv scope X.env.globals cl [] X.env.qual ac .none (aa X.env)) (λcenv s₄ =>
   gV (model X.prog X.w) X.A (.compStart (.ListComp h6 [⟨tg,iter,hY,0⟩] scope pos) 0 (.ref it) h7 {cenv with scope:=relabel scope X.env}) (RR h7 cenv.locals) s₄) E s₃) E s2:=by
 obtain⟨W,⟨m0,w0⟩,turn⟩:=hW;refine je (wpAny_newFunctionEnv ck.nocell (by intro y hy;simp at hy) (λM B h=>?_) ck.kind);dsimp only at B h ⊢;generalize hP:s2.heap.push {cls:=.type "list",dict:=ac,data:=.seq ([]:LVa).toArray}=P at B h ⊢;generalize hD:s2.heap.objs.size=D at hP B h ⊢;have hCs:P.objs.size=D+1:=by rw[<- hP,iK,hD]
 generalize hC:P.objs.size=C at hCs B h ⊢;have hDC':D<C:=by rw[hCs];exact dh _
 have hDC:D≠C:=bW hDC';have below:∀b o,s2.heap.get? b=aa o->b<D:=λb o e=>hD▸bi e
 have old:∀b o,s2.heap.get? b=aa o->M.get? b=aa o:=λb o e=>by
  have f:=below b o e;exact h.extBut b o (bW (lU f hDC')) (bC _ (hP▸bC _ e))
 have hDo:M.get? D=aa (jq [] 0):=h.extBut _ _ hDC (bC _ (by rw[<- hP,<- hD];exact cO _ rfl));have Hn:∀b,D<=b->H2 b=ac:=λb f=>G.hok.fresh (by lia);have fpo:∀b∈fp,b<D:=λb f=>by obtain⟨o,e,_⟩:=T.obj 0 _ li b f;exact below b o e
 have clo:∀x c,cl.lookup x=aa c->c<D:=λx c e=>by
  obtain⟨v,o,ho,_⟩:=G.cell x c (a1 x c e);exact below c o ho
 have stko:∀b∈frs X.stack,b<D:=λb f=>by
  obtain⟨_,o,ho,_⟩:=G.stack.mem f;exact below b o ho
 let Y:Cx:=X.comp scope Nc cl C fp s2 H2
 have yk:Y.Ok:=by
  refine⟨G.ok.mod,ck.kind,G.ok.glob,G.ok.blt,?_,?_,?_,?_,G.ok.hd,G.ok.frames,.inl rfl,?_,G.bs,?_,?_,?_,G.stack,G.stkFree⟩
  .show s2.heap.objs.size<=C;lia
  .exact λx y c h1 h2=>G.ok.inj x y c (a1 x c h1) (a1 y c h2)
  .intro x hx
   have:(x,dN)∈scope.names\/(x,iL)∈scope.names:=by
    rcases hx with hx |hx
    .exact xz (.inl rfl) hx
    .exact xz (.inr rfl) hx
   rcases this with z |z
   .exact a2 x z
   .exact absurd rfl (ck.nocell _ z)
  .exact λx c z=>nomatch z
  .intro b f;refine⟨?_,λx c e=>?_⟩
   .exact bW (lU (fpo b f) hDC')
   .exact(f2 b f).2.2.2.2.1 x c (a1 x c e)
  .exact c3 G.ok.bsz G.sz
  .intro b o e f
   rcases(f2 b f).2.2.2.1 with z |z
   .exact G.ok.noex b o e z
   .exact absurd (fF (bi e) (c3 G.ok.bsz z)) (gt _)
  .intro b f z
   rcases aQ.mp (G.stkSub b z)with e |e
   .exact(f2 b f).2.1 e
   .exact(f2 b f).2.2.1 e
 have I4:Inv Y [(D,jq [] 0)] (jp k js σ) H2 {s2 with heap:=M,toks:=s2.toks+([]:List (Str×Value)).length}:=by
  refine⟨yk,rfl,G.bare,Un.kept old,⟨_,B,λi x v e1 U e3=>?_⟩,λx c e=>?_,Hn C (by lia),λx c e=>G.freeC x c (a1 x c e),λp hp=>?_,G.hok.kept old,?_⟩
  .have e1:Nc[i]?=aa x:=e1;unfold jp at U
   have hik:k<=i:=by
    rcases Nat.lt_or_ge i k with z |z
    .rw[lR (by simpa using z),wm]at U;simp[z]at U
    .exact z
   rw[lQ (by simpa using hik),cA]at U;simp only[sA]at U
   cases q:js[i-k]? with
   |none=>rw[q]at U;cases U
   |some j=>
    rw[q]at U;obtain⟨x',q1,q2,q3⟩:=ck.at' _ _ q;rw[show k+(i-k)=i by lia,e1]at q1;cases q1;have U:(σ[j]?).getD ac=aa v:=cN U
    have e2':σ[j]?=aa (aa v):=by
     cases z:σ[j]? with
     |none=>rw[z]at U;cases U
     |some y=>rw[z]at U;rw[show y=aa v from U]
    have hmem:(x,dN)∈scope.names:=by
     have:∀l:List (Str×ga),l.lookup x=aa .free->(x,dN)∈l:=by
      intro l
      induction l with
      |nil=>intro z;cases z
      |cons a l ih=>
       intro z;obtain⟨n,kk⟩:=a;rw[eK]at z
       cases f:x==n with
       |true=>
        rw[f]at z;cases z
        rw[eq_of_beq f];exact aN
       |false=>rw[f]at z;exact bo _ (ih z)
     exact this _ q3
    have hout:X.env.kindOf x=aa .cell\/X.env.kindOf x=aa .free:=ck.free _ hmem rfl;obtain⟨m,hn,hl⟩:=G.loc
    have vis:Vis X.env.scope x:=by
     rcases hout with z |z
     .exact .inr (.inl z)
     .exact .inr (.inr z)
    obtain⟨u,r,l⟩:=hl j x v q2 e2' vis;refine⟨u,r,.inr ⟨xy q3,?_⟩⟩
    rcases l with⟨z,_⟩ |⟨_,c,hcl,hcell⟩
    .rcases hout with y |y <;> (rw[y]at z;cases z)
    .obtain⟨c',hc'⟩:=a2 x hmem;have:=a1 x c' hc';rw[hcl]at this;cases this;exact⟨c,hc',hcell.keeps old⟩
  .obtain⟨v,z⟩:=G.cell x c (a1 x c e);exact⟨v,z.keeps old⟩
  .have hp:p∈[(D,jq [] 0)]:=(bT.mp hp).elim (λz=>nomatch (show p∈([]:PNS)from z)) id;have hp:p=(D,jq [] 0):=dF.mp hp;subst hp;refine⟨hDo,Hn D (aL _),hDC,λz=>?_,λv z=>by cases z⟩;exact absurd (stko D z) (gt _)
  .show(jp k js σ).length=Nc.length;rw[ck.len];simp[jp]
 have st1:tn 0 M:=T.keep 0 _ _ li λb _ o e=>old b o e
 have fpY:∀{H':Hp} {p:PNS},(∀q∈p,q.1=D)->(∀b∈fp,H' b=ac)->∀b∈fp,iu Y p H' b:=λ{H' p} hp hn b f=>by
  refine⟨hn b f,(yk.exf b f).1,yk.exfs b f,.inl f,λx c e=>(yk.exf b f).2 x c e,λq hq=>?_⟩;have hq:q∈p:=(bT.mp hq).elim (λz=>nomatch (show q∈([]:PNS)from z)) id;rw[hp q hq];exact kU (fpo b f)
 let xe:Value->ai->Prop:=notedBy (model X.prog X.w) X.A (compEnvC scope cl C X.env) λx s'=>RR (.ref D) C (.error x) s'
 have hp:PX (Y.to [] xe):=hPX D C hD hDC' stko
 have loop:gV (model X.prog X.w) X.A (.compLoop (.ListComp h6 [⟨tg,iter,hY,0⟩] scope pos) 0 (.ref it) (.ref D) (compEnvC scope cl C X.env)) (RR (.ref D) C) {s2 with heap:=M,toks:=s2.toks+([]:List (Str×Value)).length}:=by
  refine J9 (λn s'=>∃i ys us nn σ' H',Inv Y [(D,jq us nn)] σ' H' s'/\tn i s'.heap/\(∀b∈fp,H' b=ac)/\aC ys us/\W i n ys σ' H') ?_ m0
   ⟨0,[],[],0,jp k js σ,H2,I4,st1,λb f=>(f2 b f).1,.nil,w0⟩
  rintro n s3 ⟨i,ys,us,nn,σ3,H3,I3,st3,fr3,rv,w3⟩
  have one:∀q∈[(D,jq us nn)],q.1=D:=λq hq=>by
   have:q=(D,jq us nn):=by simpa using hq
   rw[this]
  rcases turn i n ys σ3 H3 w3 with⟨stop,hz,qn⟩ |⟨go,hz,N,hN,step⟩
  .refine thn (T.done Y rfl rfl rfl hc i _ s3 σ3 H3 _ I3 (fpY one fr3) st3 stop) λr s4 ⟨hr,I5⟩=>?_;subst hr;show RR (.ref D) C (.ok .next) s4;obtain⟨pD,nD,_,_,_⟩:=I5.pin (D,jq us nn) (by simp);have bs:Un (frs X.stack) fp H2 H3 s2.heap s4.heap:=I5.base;have h2D:∀b o,H2 b=aa o->b≠D:=λb o e z=>by rw[z,Hn D (aL _)]at e;cases e
   have I6:Inv X pins σ (upd H3 D (.lst ys)) s4:=by
    refine G.call' (ch:=fp) I5.os ⟨bs.keep,bs.slot,λb o e n hx=>?_,bs.there,λb xs e=>?_,λb o u e=>?_,λb ps e=>?_⟩ (λb u e=>?_) I5.bare λb f=>?_
    .rw[aJ (bW (below b o e))];exact bs.free b o e n hx
    .rw[aJ (h2D b _ e)];exact bs.tups b xs e
    .rw[aJ (h2D b _ e)];exact bs.frzs b o u e
    .rw[aJ (h2D b _ e)];exact bs.tbls b ps e
    .by_cases f:b=D
     .subst f;rw[aZ]at e;cases e;exact⟨hz,us,nn,rv,pD⟩
     .rw[aJ f]at e;exact(I5.hok b u e).stay (λc v _ q=>q) (λc q=>by rw[aJ (fK q nD)];exact q) λc xs q=>by rw[aJ (fK q nD)];exact q
    .obtain⟨_,f1,_,f3,f4,f5⟩:=f2 b f;exact⟨f3,f1,f4,f5⟩
   obtain⟨m,hn,_⟩:=I5.loc;refine hRR D C s4 _ I6 ⟨m,hn⟩ (G.fpOk (by lia) ?_) (qn D (Hn D (aL _)) nD);rw[aJ hDC.symm];exact I5.free
  .refine thn (T.item Y rfl rfl rfl hc i _ s3 σ3 H3 _ I3 (fpY one fr3) st3 go) λr s4 q_=>?_;obtain⟨u,hr,h4⟩:=q_;subst hr;refine thn h4 λ_ s5 q_=>?_;obtain⟨x,H5,I5,r5,y5,st5,fr5⟩:=q_;have I5':=I5.pinned (fpY one fr5) (T.obj _ _ st5);refine f8 (hg cl C fp s2 H2 _ s5 σ3 H5 x u _ I5' r5 (step x H5 y5)) (λ_ s6 ⟨σ6,H6,I6,q6⟩=>?_) λ_ _ z=>z.elim;refine f8 (ht cl C fp s2 H2 _ s6 σ6 H6 _ I6 q6) (λb s7 ⟨H7,I7,q7⟩=>?_) λ_ _ z=>z.elim
   have kp:∀{H8:Hp} {s8:ai},Inv Y ([(D,jq us nn)]++qz fp s5.heap) σ6 H8 s8->tn (i+1) s8.heap/\(∀b∈fp,H8 b=ac):=λ{H8 s8} I8=>by
    refine⟨T.keep _ _ _ st5 λb f o e=>(I8.pin (b,o) (dE _ (dE _ (sY f e)))).1,λb f=>?_⟩;obtain⟨o,e,d⟩:=T.obj _ _ st5 b f;exact(I8.pin (b,o) (dE _ (dE _ (sY f e)))).2.1
   cases b with
   |false=>
    rw[if_neg ba]at q7 ⊢;obtain⟨m',hm,w7⟩:=hN _ _ _ q7;obtain⟨st7,fr7⟩:=kp I7
    exact⟨m',hm,i+1,ys,us,nn,σ6,H7,I7.unpinned,st7,fr7,rv,w7⟩
   |true=>
    rw[if_pos rfl]at q7 ⊢;refine thn (he cl C fp s2 H2 xe hp _ s7 σ6 H7 _ (C0 I7) q7) λuy s8 q_=>?_;obtain⟨y,H8,I8',r8,q8⟩:=q_;have I8:=C1 I8';obtain⟨m',hm,w8⟩:=hN _ _ _ q8;obtain⟨st8,fr8⟩:=kp I8;obtain⟨pD,nD,pC,pF,_⟩:=I8.pin (D,jq us nn) (by simp);have hl:=rv.length
    refine wpAny_list_append_plain (items:=us.toArray) ⟨nn,pD⟩ (λh' hl' sb=>?_) (by simp only[size_toArray] <;> lia)
    obtain⟨n',e'⟩:=hl';have I8n:Inv Y [] σ6 H8 s8:=I8.pins_of (λ_ z=>nomatch z)
    have I9:Inv Y [] σ6 H8 {s8 with heap:=h'}:=I8n.turned (t':=s8.toks) (it:=D) (λb o f e=>(sb.2 b f).trans e) nD pC (.inr (by show s2.heap.objs.size<=D;lia)) (λx c e=>bW (clo x c e)) (λp hp=>nomatch hp)
    refine⟨m',hm,i+1,ys++[y],us++[uy],n',σ6,H8,I9.pins_of (λp hp=>?_),?_,fr8,rv.append (.cons r8 .nil),w8⟩
    .have hp:p=(D,jq (us++[uy]) n'):=by simpa using hp
     subst hp;refine⟨?_,nD,pC,pF,λv z=>by cases z⟩;have U:h'.get? D=aa {cls:=.type "list",data:=.seq (us.toArray.push uy) n'}:=e';show h'.get? D=aa {cls:=.type "list",data:=.seq (us++[uy]).toArray n'};rw[U];simp
    .exact T.keep _ _ _ st8 λb f o e=>(sb.2 b (bW (fpo b f))).trans e
 exact codeAny_compStart_list loop (T.self X.A 0 _ _ _ st1 loop)
def C2
 (y:X.calm=ab)(u:oW scope X.env.scope.names X.N Nc k js)
 (B:∀cl C ex d a,PG (X.comp scope Nc cl C ex d a) tg g)(G:∀cl C ex d a,PTs (X.comp scope Nc cl C ex d a) hY tt)(z:∀cl C ex d a,PE (X.comp scope Nc cl C ex d a) h6 te)
 (q:∀x c,cl.lookup x=aa c->X.env.cells.lookup x=aa c)(r:∀x,(x,dN)∈scope.names->∃c,cl.lookup x=aa c)
 (p:Inv X pins σ H2 s2)(T:lq X.prog X.w X.K tg J fp it tn)(n:tn 0 s2.heap)(f2:∀b∈fp,iu X pins H2 b)(v:xA J g tt te (jp k js σ) H2 Q)
 (l:∀(D C:Addr) (s':ai) (H':Hp),Inv X pins σ H' s'->(∃m,s'.heap.Ns C m)->iu X pins H' C->Q (.ref D) H'->RR (.ref D) C (.ok .next) s'):
  wpAny (model X.prog X.w) X.A (newList []) (λh i=>wpAny (model X.prog X.w) X.A (newFunctionEnv scope X.env.globals cl [] X.env.qual ac .none (aa X.env)) (λf j =>
   gV (model X.prog X.w) X.A (.compStart (.ListComp h6 [⟨tg,iter,hY,0⟩] scope pos) 0 (.ref it) h {f with scope:=relabel scope X.env}) (RR h f.locals) j) E i) E s2:=
 Kd (PX:=λ_=>True) y u B G (λcl C ex d a xe _=>PE.to0 (z cl C ex d a)) q r p T n f2 v l λ_ _ _ _ _=>trivial
variable{wi:TI}
def Ke(k:Nat)(js:LN)(Nc:LSt)(hc:X.calm=ab)(hi:PI X tg iter wi)
 (hg:∀cl C ex c a,PG (X.comp scope Nc cl C ex c a) tg g)(ht:∀cl C ex c a,PTs (X.comp scope Nc cl C ex c a) hY tt)(he:∀cl C ex c a,PE (X.comp scope Nc cl C ex c a) h6 te)
 (d:nG scope X.env.scope.names X.N Nc k js=ab:=by rfl)(hs:∀x,mT iter X.env x=pure x:=by intro _;rfl):
  PE X (.ListComp h6 [⟨tg,iter,hY,0⟩] scope pos) (oX k js wi g tt te):=by
 intro pins s σ H Q I h;have d:=oW.of d;rw[eval_ListComp];obtain⟨cl,i,r,u⟩:=CZ (scope:=scope) (env:=X.env) λx hx e=>I.ok.has x.1 (d.free x hx e);refine wpAny_comprehension_free (use:=ac) rfl hs i d.kind d.loc (thn (hi pins s σ H _ I h) λv s1 M=>thn M λitv s2 U=>?_);obtain⟨it,fp,tn,J,H2,e,p,T,l,f2,hW⟩:=U;subst e;refine C2 (RR:=λf C=>compPost (model X.prog X.w) X.A X.xe ac (EP X pins σ Q) f C) hc d hg ht he r u p T l f2 hW λD C s' H' n ⟨m,hn⟩ L q=>?_;obtain⟨y,f1,_,z,B,G⟩:=L;exact⟨m,hn,λh' j=>⟨.ref D,H',n.turned (t':=s'.toks) (λb o hb e=>(j.2 b hb).trans e) y f1 z B G,rfl,q⟩⟩
variable{i:Nat}{x:Str}{eH kv:Pos}
def xB(k:Nat)(js:LN)(Nc:LSt)(hN:X.N.Nodup)(r:X.N[i]?=aa x)(hx:Loc X.env.scope x)(hc:X.calm=ab)(hi:PI X tg iter wi)
 (hg:∀cl C ex d c,PG (X.comp scope Nc cl C ex d c) tg g)(ht:∀cl C ex d c,PTs (X.comp scope Nc cl C ex d c) hY tt)(he:∀cl C ex d c,PE (X.comp scope Nc cl C ex d c) h6 te)
 (y:gx (.ListComp h6 [⟨tg,iter,hY,0⟩] scope pos) (aa (.Name x eH)) kv.line X.env=pure ab:=by rfl)
 (f:nG scope X.env.scope.names X.N Nc k js=ab:=by rfl)(hs:∀x,mT iter X.env x=pure x:=by intro _;rfl)
 (hf:LcF X x:=by first |exact .inl rfl |exact .inr rfl |assumption):
  PS X (.Assign [.Name x eH] (.ListComp h6 [⟨tg,iter,hY,0⟩] scope pos) kv) (iP (oX k js wi g tt te) (gX i)):=by
 intro pins s σ H D I h;have f:=oW.of f;rw[exec_Assign_Name_used _ _ _ _ y];refine am (wpAny_standAt (am ?_))
 show wpAny _ X.A (do let _ <- comprehension (.ListComp h6 [⟨tg,iter,hY,0⟩] scope pos) scope X.env _ (newList []) ae (eval iter X.env) (aa (iJ (.Name x eH) X.env))) _ _ s
 obtain⟨cl,p,a1,a2⟩:=CZ (scope:=scope) (env:=X.env) λx hx e=>I.ok.has x.1 (f.free x hx e)
 refine am (f8 (wpAny_comprehension_free (use:=aa (iJ (.Name x eH) X.env)) (Q:=λ_ s'=>SP X pins D .next s') rfl hs p f.kind f.loc
  (thn (hi pins s σ H _ I h) λv s1 h1=>thn h1 λitv s2 h2=>?_)) (λ_ s' hq=>aD (aD hq)) λ_ _ e=>e)
 obtain⟨it,fp,tn,J,H2,e,I2,T,G,f2,hW⟩:=h2;subst e;refine C2 (RR:=λl C=>compPost (model X.prog X.w) X.A X.xe (aa (iJ (.Name x eH) X.env)) (λ_ s'=>SP X pins D .next s') l C) hc f hg ht he a1 a2 I2 T G f2 hW λL C s' H' U ⟨m,hn⟩ fC q=>?_;obtain⟨f0,f1,f2',f3,M,f5⟩:=fC;show wpAny _ X.A (iJ (.Name x eH) X.env (.ref L)) _ _ _;refine wpAny_assign_Name (B8 (v:=.ref L) U hN r hx rfl (λB j ⟨a,sb,ha⟩=>?_) hf)
 have n:C≠a:=by
  rcases ha with z |z
  .rw[z];exact f1
  .exact(M x a z).symm
 exact⟨m,hn.sameBut sb n,λh' u=>⟨_,H',j.turned (t':=B.toks) (λb o hb e=>(u.2 b hb).trans e) f0 f1 f3 M f5,q⟩⟩
def C3:OpR X (cC .Is) (λx y H Q=>∃b,y=.bl b/\(x=.non\/∃c,x=.bl c)/\Q (.bl (decide (x=.bl b))) H):=by
 intro pins s σ H x y v u Q I a d h;obtain⟨b,rfl,hx,q⟩:=h;cases d
 rcases hx with rfl |⟨c,rfl⟩
 .cases a
  exact wpAny_is_plain rfl (b5 I q (by cases b <;> rfl))
 .cases a
  exact wpAny_is_plain rfl (b5 I q (by cases b <;> cases c <;> rfl))
def C4:OpR X (cC .IsNot) (λx y H Q=>∃b,y=.bl b/\(x=.non\/∃c,x=.bl c)/\Q (.bl (!decide (x=.bl b))) H):=by
 intro pins s σ H x y v u Q I a d h;obtain⟨b,rfl,hx,q⟩:=h;cases d
 rcases hx with rfl |⟨c,rfl⟩
 .cases a
  exact wpAny_isNot_plain rfl (b5 I q (by cases b <;> rfl))
 .cases a
  exact wpAny_isNot_plain rfl (b5 I q (by cases b <;> cases c <;> rfl))
def Kf(a:X.calm=ab):iw X (.builtin "sum") (λxs H Q=>∃(p:Addr) (ns:List Int),xs=[.ref p]/\SqL X.K H p (ns.map V.int)/\Q (.int ns.sum) H):=by
 intro pins s σ H xs us Q I r h;obtain⟨p,ns,rfl,c,q⟩:=h;obtain⟨u,rfl,f⟩:=nB r;cases f;obtain⟨its,d,pl,hz⟩:=I.list c;have hi:e8 its ns:=Jo d;obtain⟨xs,e⟩:=hi.allInts.items;refine sum_intListG (I.ok.hd a) (xs:=xs) (by rw[<- e];exact pl.isList) λh' j t' b=>?_
 have es:preSum (numAt xs) xs.size=ns.sum:=by
  rw[preSum_eq,take_of_length_le (by simp),<- nums_intItems,<- e];show(numsOf its).sum=ns.sum;rw[hi.numsOf]
 rw[es];exact⟨.int ns.sum,H,I.kept b,⟨_,rfl⟩,q⟩
def Kg:iw X (.builtin "isinstance") (λxs H Q=>∃x T t b,xs=[x,.ty T]/\gY X.K H x t/\W.kitOne X.K t (.type T)=aa b/\Q (.bl b) H):=by
 intro pins s σ H xs us Q I r h;obtain⟨x,T,t,b,rfl,ty,e,q⟩:=h;obtain⟨u,f,rfl,c,a⟩:=Co r;cases (show f=gA T from a);exact Jc I c ty e λd=>⟨.bl b,H,I.tok d,rfl,q⟩
variable{xs:List V}
def aC.at'{us:LVa}{u:Value}(r:aC xs us)(e:us[i]?=aa u):∃x,xs[i]?=aa x/\aE x u:=by
 have c:=r.length;have hi:i<xs.length:=by have:=(dq.mp e).1;lia
 refine⟨xs[i],by simp[hi],?_⟩;obtain⟨d,a,b⟩:=r.get (i:=i) (x:=xs[i]) (by simp[hi]);rw[e]at a;cases a;exact b
def oY{env:Env}{a:ga}(b:a≠.free):∀{names:List (Str×ga)} {x:Str},names.lookup x=aa a ->
  (names.map λ(n,k)=>if (k==dN && env.scope.kind==.function && env.kindOf n==aa .cell) then (n,iL) else (n,k)).lookup x=aa a
 | [],_,h=>by simp at h
 |(n,k)::r,x,h=>by
  have c:=@oY env a b r x;rw[bp];show jb x ((if (k==dN && env.scope.kind==.function && env.kindOf n==aa .cell)=ab then (n,iL) else (n,k))::_)=_;rw[eK]at h
  cases hx:x==n with
  |true=>
   rw[hx]at h;have e:k=a:=cN h;subst e;have d:(k==dN)=ae:=by simpa using b
   rw[d,qd,qd,if_neg ba,eK,hx]
  |false=>
   rw[hx]at h;split
   .rw[eK,hx];exact c h
   .rw[eK,hx];exact c h
def Kh(h:Vis scope x):Vis (relabel scope env) x:=by
 rcases h with h |h |h
 .exact .inl (oY (by decide) h)
 .exact .inr (.inl (oY (by decide) h))
 .rcases xy (env:=env) h with z |z
  .exact .inr (.inl z)
  .exact .inr (.inr z)
variable{C:Addr}{ex:LAd}{eL:ai}{fy:Hp}
def pvc(i:Nat)(b:Nc[i]?=aa x:=by rfl)(hv:Vis scope x:=by first |exact b7 rfl |exact bB (b7 rfl) |exact bB (bB rfl))(hd:NDb x:=by decide)
 (a:NCd x:=by decide):PE (X.comp scope Nc cl C ex eL fy) (.Name x pos) (di i):=nv b (Kh hv) hd a
def pgc(i:Nat)(b:Nc.Nodup:=by decide +kernel)(hi:Nc[i]?=aa x:=by rfl)(a:scope.names.lookup x=aa .local:=by rfl):PG (X.comp scope Nc cl C ex eL fy) (.Name x pos) (gX i):=
 wR (X:=X.comp scope Nc cl C ex eL fy) b hi (.inl (oY (by decide) a)) (.inr (oY (by decide) a))
def glc(h:scope.names.lookup x=aa .globalImplicit):Gl (X.comp scope Nc cl C ex eL fy) x:=oY (env:=X.env) (by decide) h
variable{p:Addr}
def bP{o:HO}(h:H p=ac):av H (upd H p o):=λb u e=>by rw[aJ (fK e h)];exact e
variable{K:aV}{H':Hp}
def av.tup{a:Addr}(e:av H H')(h:SqT K H a xs):SqT K H' a xs:=by
 rcases h with(h |⟨o,h⟩) |h
 .exact .inl (.inl (e _ _ h))
 .exact .inl (.inr ⟨o,e _ _ h⟩)
 .exact .inr h
abbrev oZ(p:Addr)(H H':Hp):Prop:=∀b o,H b=aa o->b≠p->H' b=aa o
def oZ.refl(p:Addr)(H:Hp):oZ p H H:=λ_ _ h _=>h
variable{H1:Hp}
def oZ.trans(a:oZ p H H1)(b:oZ p H1 H2):oZ p H H2:=λc o h n=>b c o (a c o h n) n
abbrev bc(p:Option Bool->Bool)(es:List (Option Bool))(its:List (Int×Int)):Int:=((its.filter λz=>p (es.getD z.1.toNat ac)).map (·.2)).sum
inductive Prt where
 |inn (t:Int) |out (t:Int) |least (k:Int) (its:List (Int×Int)) |most (k:Int) (its:List (Int×Int))
abbrev bs(l:List Bool):List (Option Bool):=l.map aa
abbrev Prt.holds(rs ws:List Bool):Prt->Bool
 |.inn t=>(rs.getD t.toNat ae)
 |.out t=>!(ws.getD t.toNat ae)
 |.least k its=>decide (k<=bc (·==aa ab) (bs rs) its)
 |.most k its=>decide (bc (·==aa ab) (bs ws) its<=k)
variable{h':Heap}
def Inv.turnedMany{s:ai}{t':Nat}{ch:LAd}(I:Inv X pins σ H s)(k:∀b o,b∉ch->s.heap.get? b=aa o->h'.get? b=aa o)(d:∀b∈ch,iu X pins H b):Inv X pins σ H {s with heap:=h',toks:=t'}:=by
 refine I.step (g':=s.gens) (d':=s.drawn) (ch:=ch) (λb B=>?_) (λb o _ _ a e _=>k b o a e) (λb o _ _ a e _=>⟨o.slots,k b o a e⟩) (λ_ _ _ _ n=>n)
  (λb o a e=>⟨o,k b o a e⟩) (λ_ _ e=>e) (λ_ _ _ e=>e) (λb ps e=>⟨#[],by rw[e];simp⟩) (λm hm=>?_) (λb u e=>?_) I.bare
 .obtain⟨_,f1,_,h,j,l⟩:=d b B;exact⟨h,f1,j,l⟩
 .obtain⟨o,es,f,G,r⟩:=hm;exact⟨o,es,f,k _ o (λz=>(d _ z).2.1 rfl) G,r⟩
 .refine(I.hok b u e).stay (λc v a q=>k c v (λz=>?_) q) (λ_ q=>q) λ_ _ q=>q;have hn:=(d c z).1
  rcases a with y |y
  .rw[y,e]at hn;cases hn
  .rw[hn]at y;cases y
def Inv.track{s:ai}{o:HO}(I:Inv X pins σ H s)(f:iu X pins H p)(y:cU X.prog X.w (upd H p o) s.heap p o):Inv X pins σ (upd H p o) s:=by
 obtain⟨h,f1,f2,j,l,r⟩:=f;have ne:∀b u,H b=aa u->b≠p:=λb u e=>fK e h;have one:∀b:Addr,b∉[p]->b≠p:=λb a z=>a (by rw[z];simp)
 refine I.step (g':=s.gens) (d':=s.drawn) (t':=s.toks) (h':=s.heap) (ch:=[p]) (λb a=>?_) (λb o _ _ d e _=>e) (λb o _ _ d e _=>⟨o.slots,e⟩) (λb o d e n=>?_)
  (λb o d e=>⟨o,e⟩) (λb xs e=>?_) (λb o u e=>?_) (λb ps e=>⟨#[],?_⟩) (λm hm=>hm) (λb u e=>?_) I.bare
 .have e:b=p:=by simpa using a
  subst e;exact⟨j,f1,l,r⟩
 .rw[aJ (one b d)];exact n
 .rw[aJ (ne b _ e)];exact e
 .rw[aJ (ne b _ e)];exact e
 .rw[aJ (ne b _ e),e];simp
 .by_cases a:b=p
  .subst a;rw[aZ]at e;cases e;exact y
  .rw[aJ a]at e;exact(I.hok b u e).stay (λc v _ q=>q) (λc q=>by rw[aJ (ne c _ q)];exact q) λc xs q=>by rw[aJ (ne c _ q)];exact q
abbrev Itz(K:aV)(a b:Addr):It:=
  ⟨λi H=> ∃xs ys x y, SqL K H a xs/\SqL K H b ys/\xs[i]? = aa x/\ys[i]? = aa y,
   λi H v H'=> ∃p x y, v = .ref p/\H p = ac/\H' = upd H p (.tup [x, y])/\(∀xs, SqL K H a xs->xs[i]? = aa x)/\(∀ys, SqL K H b ys->ys[i]? = aa y),
   λi H=> ∃xs ys, SqL K H a xs/\SqL K H b ys/\(xs.length<=i\/ys.length<=i)⟩
variable{P:cH}{j0:LEx}{kx:Nat}
def Ki(z TI TO i1 i2 l1 l2:Addr)(D:ZipApart z TI TO i1 i2 l1 l2):
  lq P w K (.Tuple j0 kx pos) (Itz K l1 l2) [z,TI,TO,i1,i2] z (λi h=>IsZip h z TI TO .none/\IsPair h TI (.ref i1) (.ref i2)/\(∃a b,IsPair h TO a b)/\h.IsListIter i1 l1 i/\h.IsListIter i2 l2 i) where
 mem:=by simp
 obj:=λi h st b hb=>by
  obtain⟨hz,hTI,⟨a,c,hTO⟩,⟨o1,e1,_,d1⟩,⟨o2,e2,_,d2⟩⟩:=st;simp only[aQ,cG,or_false]at hb
  rcases hb with rfl |rfl |rfl |rfl |rfl
  .exact⟨_,hz,λv q=>by cases q⟩
  .exact⟨_,hTI,λv q=>by cases q⟩
  .exact⟨_,hTO,λv q=>by cases q⟩
  .exact⟨o1,e1,λv q=>by rw[d1]at q;cases q⟩
  .exact⟨o2,e2,λv q=>by rw[d2]at q;cases q⟩
 keep:=λi h h' st k=>by
  obtain⟨hz,hTI,⟨a,c,hTO⟩,h1,h2⟩:=st;exact⟨k z (by simp) _ hz,k TI (by simp) _ hTI,⟨a,c,k TO (by simp) _ hTO⟩,h1.at λo e=>k i1 (by simp) o e,h2.at λo e=>k i2 (by simp) o e⟩
 item:=by
  intro X hP hw hK hc i pins s σ H E I hf st hg;subst hP hw hK;obtain⟨hz,hTI,⟨a,c,hTO⟩,h1,h2⟩:=st;obtain⟨xs,ys,x,y,q1,q2,hx,hy⟩:=hg;obtain⟨its1,r1,p1,z1⟩:=I.list q1;obtain⟨its2,r2,p2,z2⟩:=I.list q2;obtain⟨u1,e1,ru1⟩:=r1.get hx;obtain⟨u2,e2,ru2⟩:=r2.get hy;refine wpAny_pyNext_zip_item D hz hTI hTO h1 h2 p1.isList p2.isList (x:=u1) (y:=u2) (by simpa using e1) (by simpa using e2) λh' a1 a2 a3 a4 a5 a6 a7=>⟨_,rfl,?_⟩
  refine wpAny_letOwnedTupleGo_zip (s:={s with heap:=h'}) a1 λmu b1 b2=>?_
  have lt:∀b∈[z,TI,TO,i1,i2],b<s.heap.objs.size:=λb hb=>by
   simp only[aQ,cG,or_false]at hb
   rcases hb with rfl |rfl |rfl |rfl |rfl
   .exact bi hz
   .exact bi hTI
   .exact bi hTO
   .obtain⟨o,e,_⟩:=h1;exact bi e
   .obtain⟨o,e,_⟩:=h2;exact bi e
  have kk:∀b o,b∉[z,TI,TO,i1,i2]->s.heap.get? b=aa o->mu.get? b=aa o:=λb o hb e=>by
   simp only[aQ,cG,or_false,not_or]at hb;obtain⟨n1,n2,n3,n4,n5⟩:=hb;exact(b2.2 b n1).trans (a7 b o n1 n3 n4 n5 e)
  have fr:H s.heap.objs.size=ac:=I.hok.fresh (aL _)
  have I1:Inv X pins σ H {s with heap:=mu}:=I.turnedMany (t':=s.toks) kk hf
  have hp:mu.get? s.heap.objs.size=aa {cls:=.type "tuple",data:=.seq #[u1,u2]}:=(b2.2 _ (kU (lt z (by simp)))).trans a5
  have I2:Inv X pins σ (upd H s.heap.objs.size (.tup [x,y])) {s with heap:=mu}:=
   I1.track (I.fpOk (aL _) fr) ⟨(by show 2<=aR;decide),[u1,u2],.cons ru1 (.cons ru2 .nil),⟨_,hp,rfl,_,rfl⟩⟩
  refine⟨.ref s.heap.objs.size,_,I2,rfl,⟨_,x,y,rfl,fr,rfl,λxs' h=>by rw[I.list_inj h q1];exact hx,λys' h=>by rw[I.list_inj h q2];exact hy⟩,⟨b1,?_,⟨u1,u2,?_⟩,?_,?_⟩,λb hb=>?_⟩
  .exact(b2.2 TI D.TIz).trans (a7 TI _ D.TIz D.TITO D.TIi1 D.TIi2 hTI)
  .exact(b2.2 TO D.TOz).trans a2
  .exact a3.at λo e=>(b2.2 i1 D.i1z).trans e
  .exact a4.at λo e=>(b2.2 i2 D.i2z).trans e
  .rw[aJ (bW (lt b hb))];exact(hf b hb).1
 done:=by
  intro X hP hw hK hc i pins s σ H E I hf st hg;subst hP hw hK;obtain⟨hz,hTI,⟨a,c,hTO⟩,h1,h2⟩:=st;obtain⟨xs,ys,q1,q2,hend⟩:=hg;obtain⟨its1,r1,p1,z1⟩:=I.list q1;obtain⟨its2,r2,p2,z2⟩:=I.list q2;have l1':=r1.length;have l2':=r2.length;refine wpAny_pyNext_zip_end (I.ok.hd hc) D hz hTI hTO h1 h2 p1.isList p2.isList ?_ λh' kk=>⟨rfl,I.turnedMany (t':=s.toks) (ch:=[z,TI,TO,i1,i2]) (λb o hb e=>?_) hf⟩
  .rcases hend with q |q
   .exact .inl (by simp;lia)
   .exact .inr (by simp;lia)
  .simp only[aQ,cG,or_false,not_or]at hb;obtain⟨n1,n2,n3,n4,n5⟩:=hb;exact kk b o n1 n3 n4 n5 e
 self:=λ_ _ _ _ _ st h=>wpAny_pyIter_zip st.1 h
abbrev Kj(K:aV)(c:TA):TI:=λσ H R=>c σ H λvs H1=>∃a b,vs=[.ref a,.ref b]/\(∃xs,SqL K H1 a xs)/\(∃ys,SqL K H1 b ys)/\R (Itz K a b) H1
variable{pw:Pos}{b:Expr}{ta:TA}
def Kk{a:Expr}{p:Pos}(hg:Gl X "zip")(hm:X.mg "zip"=ac)(ha:PA X [a,b] ta)(hs:aO [a,b] X.env=[(ae,eval a X.env),(ae,eval b X.env)]:=by rfl)(f:aO [b] X.env=[(ae,eval b X.env)]:=by rfl):
  PI X (.Tuple j0 kx pw) (.Call (.Name "zip" p) [a,b] [] pos) (Kj X.K ta):=by
 intro pins s σ H R I h;refine Call_ (jl I hg hm boot_zip (mS (thn (ha pos pins s σ H _ I h) λus s1 ⟨vs,H1,c,z,q1⟩=>?_) (by rw[hs,f]) (by rw[f];rfl)));obtain⟨l1,l2,e,⟨xs,h1⟩,⟨ys,h2⟩,q⟩:=q1;subst e;obtain⟨u,v,rfl,ru,rv⟩:=Co z;cases ru;cases rv;obtain⟨m,z,r,z1⟩:=c.list h1;obtain⟨n,r2,y,z2⟩:=c.list h2;refine call_zip_2 r.isList y.isList λh' j G L M T a6 U=>?_;refine wpAny_pyIter_zip j ?_
 have B:Inv X pins σ H1 {s1 with heap:=h'}:=c.kept (t':=s1.toks) U
 refine⟨_,[s1.heap.objs.size+4,s1.heap.objs.size+2,s1.heap.objs.size+3,s1.heap.objs.size,s1.heap.objs.size+1],_,_,H1,rfl,B,Ki _ _ _ _ _ _ _ (zipApart_new r.lt y.lt),⟨j,G,⟨_,_,L⟩,M,T⟩,λb l=>?_,q⟩;simp only[aQ,cG,or_false]at l
 have d:s1.heap.objs.size<=b:=by
  rcases l with rfl |rfl |rfl |rfl |rfl
  .exact oz _ _
  .exact oz _ _
  .exact oz _ _
  .exact aL _
  .exact oz _ _
 exact c.fpOk d (c.hok.fresh d)
abbrev jt(p:Int->Bool)(its:List (Int×Int)):Int:=((its.filter λz=>p z.1).map (·.2)).sum
def lu(p:Option Bool->Bool)(es:List (Option Bool))(its:List (Int×Int)):bc p es its=jt (λt=>p (es.getD t.toNat ac)) its:=rfl
def Kl(p q:Int->Bool)(its:List (Int×Int)):jt p (its.filter λz=>q z.1)=jt (λt=>p t && q t) its:=by
 unfold jt;rw[filter_filter]
abbrev Prt.sure(es:List (Option Bool)):Prt->Bool
 |.inn t=>es.getD t.toNat ac==aa ab
 |.out t=>es.getD t.toNat ac==aa ae
 |.least k its=>decide (k<=bc (·==aa ab) es its)
 |.most k its=>decide (bc (λe=>!(e==aa ae)) es its<=k)
abbrev Prt.lost(es:List (Option Bool))(ws:List Bool):Prt->Bool
 |.inn t=>(es.getD t.toNat ac==aa ae) || ws.getD t.toNat ae
 |.out t=>es.getD t.toNat ac==aa ab
 |.least k its=>decide (jt (λt=>!(es.getD t.toNat ac==aa ae) && !(ws.getD t.toNat ae)) its<k)
 |.most k its=>decide (k<bc (·==aa ab) es its)
inductive D where
 |non
 |bl (b:Bool)
 |int (i:Int)
 |str (x:Str)
 |lst (xs:List D)
 |tup (xs:List D)
 |kl (xs:List D)
 |kt (xs:List D)
 |dic (ks:List Key) (xs:List D)
 |ins (c:Str) (ns:LSt) (xs:List D)
 |kd (ks:List Key) (xs:List D)
 |dT (ks:List (List Key)) (xs:List D)
 deriving Inhabited
nonrec abbrev OD:=Option D
nonrec abbrev LD:=List D
nonrec abbrev OLD:=Option LD
set_option genInjectivity false in
structure Gc where
 K:aV
 cl:Str->Addr
mutual
def Rep(G:Gc)(H:Hp):D->V->Prop
 |.non,v=>v=.non
 |.bl b,v=>v=.bl b
 |.int i,v=>v=.int i
 |.str x,v=>v=.str x
 |.lst ds,v=>∃a vs,v=.ref a/\H a=aa (.lst vs)/\ao G H ds vs
 |.tup ds,v=>∃a vs,v=.ref a/\H a=aa (.tup vs)/\ao G H ds vs
 |.kl ds,v=>∃a vs,v=.ref a/\SqL G.K H a vs/\ao G H ds vs
 |.kt ds,v=>∃a vs,v=.ref a/\SqT G.K H a vs/\ao G H ds vs
 |.dic ks ds,v=>∃a vs,v=.ref a/\H a=aa (.dK (ks.zip vs))/\ks.length=vs.length/\ao G H ds vs
 |.ins c ns ds,v=>∃a dx vs,v=.ref a/\H a=aa (.ins (G.cl c) dx (ns.zip vs))/\ns.length=vs.length/\ao G H ds vs
 |.kd ks ds,v=>∃a od vs,v=.ref a/\H a=aa (.frz od (.dK (ks.zip vs)))/\ks.length=vs.length/\ao G H ds vs
 |.dT ks ds,v=>∃a vs,v=.ref a/\H a=aa (.dT (ks.zip vs))/\ks.length=vs.length/\ao G H ds vs
def ao(G:Gc)(H:Hp):LD->List V->Prop
 | [],vs=>vs=[]
 |d::ds,vs=>∃v r,vs=v::r/\Rep G H d v/\ao G H ds r
end
mutual
theorem Rep.upM(s:av H H'):∀(d:D) (v:V),Rep G H d v->Rep G H' d v
 |.non,_,h=>h
 |.bl _,_,h=>h
 |.int _,_,h=>h
 |.str _,_,h=>h
 |.lst ds,_,h_=>by obtain⟨a,vs,e,q,r⟩:=h_;exact⟨a,vs,e,s _ _ q,ao.upM s ds vs r⟩
 |.tup ds,_,h_=>by obtain⟨a,vs,e,q,r⟩:=h_;exact⟨a,vs,e,s _ _ q,ao.upM s ds vs r⟩
 |.kl ds,_,h_=>by obtain⟨a,vs,e,q,r⟩:=h_;exact⟨a,vs,e,s.seq q,ao.upM s ds vs r⟩
 |.kt ds,_,h_=>by obtain⟨a,vs,e,q,r⟩:=h_;exact⟨a,vs,e,s.tup q,ao.upM s ds vs r⟩
 |.dic _ ds,_,h_=>by obtain⟨a,vs,e,q,l,r⟩:=h_;exact⟨a,vs,e,s _ _ q,l,ao.upM s ds vs r⟩
 |.ins _ _ ds,_,h_=>by obtain⟨a,dx,vs,e,q,l,r⟩:=h_;exact⟨a,dx,vs,e,s _ _ q,l,ao.upM s ds vs r⟩
 |.kd _ ds,_,h_=>by obtain⟨a,od,vs,e,q,l,r⟩:=h_;exact⟨a,od,vs,e,s _ _ q,l,ao.upM s ds vs r⟩
 |.dT _ ds,_,h_=>by obtain⟨a,vs,e,q,l,r⟩:=h_;exact⟨a,vs,e,s _ _ q,l,ao.upM s ds vs r⟩
theorem ao.upM(s:av H H'):∀(ds:LD) (vs:List V),ao G H ds vs->ao G H' ds vs
 | [],_,h=>h
 |d::ds,_,h_=>by obtain⟨v,r,e,a,c⟩:=h_;exact⟨v,r,e,Rep.upM s d v a,ao.upM s ds r c⟩
end
variable{G:Gc}{d:D}{v:V}
def Rep.up(r:Rep G H d v)(s:av H H'):Rep G H' d v:=Rep.upM s d v r
variable{ds:LD}{vs:List V}
def ao.up(r:ao G H ds vs)(s:av H H'):ao G H' ds vs:=ao.upM s ds vs r
def ao.nil:ao G H [] []:=rfl
def ao.cons(h:Rep G H d v)(t:ao G H ds vs):ao G H (d::ds) (v::vs):=⟨v,vs,rfl,h,t⟩
def ao.length:∀{ds:LD} {vs:List V},ao G H ds vs->ds.length=vs.length
 | [],_,h=>by cases (show _=[]from h);rfl
 |d::ds,_,⟨v,r,e,_,h⟩=>by subst e;simp[ao.length h]
def ao.append:∀{ds es:LD} {vs us:List V},ao G H ds vs->ao G H es us->ao G H (ds++es) (vs++us)
 | [],_,_,_,h,t=>by cases (show _=[]from h);exact t
 |d::ds,_,_,_,⟨v,r,e,h1,h2⟩,t=>by subst e;exact⟨v,r++_,rfl,h1,ao.append h2 t⟩
def ao.get:∀{ds:LD} {vs:List V} {i:Nat} {d:D},ao G H ds vs->ds[i]?=aa d->∃v,vs[i]?=aa v/\Rep G H d v
 | [],_,_,_,_,e=>by simp at e
 |d::ds,_,0,_,⟨v,r,e,h1,_⟩,e'=>by subst e;simp at e';subst e';exact⟨v,rfl,h1⟩
 |d::ds,_,i+1,d',q4_,e'=>by
  obtain⟨v,r,e,_,c⟩:=q4_;subst e;obtain⟨u,a,b⟩:=ao.get (i:=i) (d:=d') c (by simpa using e');exact⟨u,by simpa using a,b⟩
def ao.get':∀{ds:LD} {vs:List V} {i:Nat} {v:V},ao G H ds vs->vs[i]?=aa v->∃d,ds[i]?=aa d/\Rep G H d v:=λ{ds vs i v} h e=>by
 have c:=h.length;have hi:i<ds.length:=by have:=(dq.mp e).1;lia
 obtain⟨u,a,b⟩:=h.get (i:=i) (d:=ds[i]) (by simp[hi]);rw[e]at a;cases a;exact⟨ds[i],by simp[hi],b⟩
def ao.ints:∀(ns:List Int),ao G H (ns.map D.int) (ns.map V.int)
 | []=>rfl
 |n::ns=>⟨_,_,rfl,rfl,ao.ints ns⟩
def ao.take:∀{ds:LD} {vs:List V} (n:Nat),ao G H ds vs->ao G H (ds.take n) (vs.take n)
 | _,_,0,_=>rfl
 | [],_,n+1,h=>by cases (show _=[]from h);rfl
 |d::ds,_,n+1,⟨v,r,e,h1,h2⟩=>by subst e;exact⟨v,r.take n,rfl,h1,ao.take n h2⟩
def ao.drop:∀{ds:LD} {vs:List V} (n:Nat),ao G H ds vs->ao G H (ds.drop n) (vs.drop n)
 | _,_,0,h=>h
 | [],_,n+1,h=>by cases (show _=[]from h);rfl
 |d::ds,_,n+1,⟨v,r,e,h1,h2⟩=>by subst e;exact ao.drop n h2
def ao.reverse:∀{ds:LD} {vs:List V},ao G H ds vs->ao G H ds.reverse vs.reverse
 | [],_,h=>by cases (show _=[]from h);rfl
 |d::ds,_,q2_=>by
  obtain⟨v,r,e,a,c⟩:=q2_;subst e;rw[reverse_cons,reverse_cons];exact(ao.reverse c).append (.cons a .nil)
def ao.set:∀{ds:LD} {vs:List V} (i:Nat) {d:D} {v:V},ao G H ds vs->Rep G H d v->ao G H (ds.set i d) (vs.set i v)
 | [],_,_,_,_,h,_=>by cases (show _=[]from h);exact .nil
 |e::ds,_,0,_,_,⟨v,r,e',_,h2⟩,q=>by subst e';exact⟨_,r,rfl,q,h2⟩
 |e::ds,_,i+1,_,_,⟨v,r,e',h1,h2⟩,q=>by subst e';exact⟨v,r.set i _,rfl,h1,ao.set i h2 q⟩
abbrev iR:HO->Bool
 |.tup _=>ab
 | _=>ae
structure Ext(Hf H Hf' H':Hp):Prop where
 f:av Hf Hf'
 h:av H H'
 s:av Hf' H'
 n:∀l o,H l=aa o->iR o=ae->Hf' l=Hf l
variable{Hf:Hp}
def Ext.refl(s:av Hf H):Ext Hf H Hf H:=⟨av.refl _,av.refl _,s,λ_ _ _ _=>rfl⟩
variable{eD dr:Hp}
def Ext.trans(a:Ext Hf H eD H1)(b:Ext eD H1 dr H2):Ext Hf H dr H2:=⟨a.f.trans b.f,a.h.trans b.h,b.s,λl o e t=>(b.n l o (a.h l o e) t).trans (a.n l o e t)⟩
def Ext.new{o:HO}(s:av Hf H)(h:H p=ac):Ext Hf H (upd Hf p o) (upd H p o):=
 ⟨bP (s.free h),bP h,λb u e=>by
  by_cases a:b=p
  .subst a;rw[aZ]at e ⊢;exact e
  .rw[aJ a]at e ⊢;exact s b u e,λl u e _=>by rw[aJ (fK e h)]⟩
def Ext.tmp{o:HO}(s:av Hf H)(h:H p=ac):Ext Hf H Hf (upd H p o):=⟨av.refl _,bP h,s.trans (bP h),λ_ _ _ _=>rfl⟩
def Ext.grow(s:av Hf H)(g:av H H1):Ext Hf H Hf H1:=⟨av.refl _,g,s.trans g,λ_ _ _ _=>rfl⟩
def Ext.fix{o:HO}(a:Ext Hf H eD H1)(hn:H p=ac)(j:eD p=ac)(m:H1 p=aa o):Ext Hf H (upd eD p o) H1:=
 ⟨a.f.trans (bP j),a.h,λb u e=>by
  by_cases c:b=p
  .subst c;rw[aZ]at e;rw[m];exact e
  .rw[aJ c]at e;exact a.s b u e,λl u e t=>by rw[aJ (fK e hn)];exact a.n l u e t⟩
inductive O where
 |fz (d:D)
 |lst (xs:List O)
 |tup (xs:List O)
 |dic (ks:List Key) (xs:List O)
 |ins (c:Str) (ns:LSt) (xs:List O)
 |jnk (n:Nat)
 |dT (ks:List (List Key)) (xs:List O)
 |at (l:Addr) (o:O)
 |any
 deriving Inhabited
mutual
def OT(G:Gc)(Hf H:Hp):O->V->LAd->Prop
 |.fz d,v,fp=>Rep G Hf d v/\fp=[]
 |.lst os,v,fp=>∃a vs fs,v=.ref a/\H a=aa (.lst vs)/\OTs G Hf H os vs fs/\fp=a::fs
 |.tup os,v,fp=>∃a vs,v=.ref a/\H a=aa (.tup vs)/\OTs G Hf H os vs fp
 |.dic ks os,v,fp=>∃a vs fs,v=.ref a/\H a=aa (.dK (ks.zip vs))/\ks.length=vs.length/\OTs G Hf H os vs fs/\fp=a::fs
 |.ins c ns os,v,fp=>∃a dx vs fs,v=.ref a/\H a=aa (.ins (G.cl c) dx (ns.zip vs))/\ns.length=vs.length/\OTs G Hf H os vs fs/\fp=a::fs
 |.jnk n,v,fp=>∃a vs,v=.ref a/\H a=aa (.lst vs)/\vs.length<=n/\fp=[a]
 |.dT ks os,v,fp=>∃a vs fs,v=.ref a/\H a=aa (.dT (ks.zip vs))/\ks.length=vs.length/\OTs G Hf H os vs fs/\fp=a::fs
 |.at l o,v,fp=>v=.ref l/\OT G Hf H o v fp
 |.any,_,fp=>fp=[]
def OTs(G:Gc)(Hf H:Hp):List O->List V->LAd->Prop
 | [],vs,fp=>vs=[]/\fp=[]
 |o::os,vs,fp=>∃v r f1 f2,vs=v::r/\OT G Hf H o v f1/\OTs G Hf H os r f2/\fp=f1++f2
end
mutual
noncomputable def O.toD:O->D
 |.fz d=>d
 |.lst os=>.lst (O.toDs os)
 |.tup os=>.tup (O.toDs os)
 |.dic ks os=>.dic ks (O.toDs os)
 |.ins c ns os=>.ins c ns (O.toDs os)
 |.at _ o=>o.toD
 |.jnk _=>.non
 |.dT ks os=>.dT ks (O.toDs os)
 |.any=>.non
noncomputable def O.toDs:List O->LD
 | []=>[]
 |o::os=>o.toD::O.toDs os
end
mutual
noncomputable def O.kn:O->Bool
 |.fz _=>ab
 |.lst os=>O.kns os
 |.tup os=>O.kns os
 |.dic _ os=>O.kns os
 |.ins _ _ os=>O.kns os
 |.at _ o=>o.kn
 |.jnk _=>ae
 |.dT _ os=>O.kns os
 |.any=>ae
noncomputable def O.kns:List O->Bool
 | []=>ab
 |o::os=>o.kn && O.kns os
end
mutual
theorem OT.frameM(f:av Hf Hf'):∀(o:O) (v:V) (fp:LAd),OT G Hf H o v fp->(∀b u,H b=aa u->(iR u=ab\/b∈fp)->H' b=aa u)->OT G Hf' H' o v fp
 |.fz d,_,_,h,_=>⟨h.1.up f,h.2⟩
 |.lst os,_,fp,h_,k=>by obtain⟨a,vs,fs,e,q,r,j⟩:=h_;exact⟨a,vs,fs,e,k _ _ q (.inr (by rw[j];exact aN)),OTs.frameM f os vs fs r (λb u l hm=>k b u l (hm.imp_right λz=>by rw[j];exact bo _ z)),j⟩
 |.tup os,_,fp,h_,k=>by obtain⟨a,vs,e,q,r⟩:=h_;exact⟨a,vs,e,k _ _ q (.inl rfl),OTs.frameM f os vs fp r k⟩
 |.dic ks os,_,fp,h_,k=>by obtain⟨a,vs,fs,e,q,z,r,j⟩:=h_;exact⟨a,vs,fs,e,k _ _ q (.inr (by rw[j];exact aN)),z,OTs.frameM f os vs fs r (λb u l hm=>k b u l (hm.imp_right λz=>by rw[j];exact bo _ z)),j⟩
 |.ins c ns os,_,fp,h_,k=>by obtain⟨a,dx,vs,fs,e,q,z,r,j⟩:=h_;exact⟨a,dx,vs,fs,e,k _ _ q (.inr (by rw[j];exact aN)),z,OTs.frameM f os vs fs r (λb u l hm=>k b u l (hm.imp_right λz=>by rw[j];exact bo _ z)),j⟩
 |.jnk n,_,fp,h_,k=>by obtain⟨a,vs,e,q,z,j⟩:=h_;exact⟨a,vs,e,k _ _ q (.inr (by rw[j];exact aN)),z,j⟩
 |.dT ks os,_,fp,h_,k=>by obtain⟨a,vs,fs,e,q,z,r,j⟩:=h_;exact⟨a,vs,fs,e,k _ _ q (.inr (by rw[j];exact aN)),z,OTs.frameM f os vs fs r (λb u l hm=>k b u l (hm.imp_right λz=>by rw[j];exact bo _ z)),j⟩
 |.at _ o,v,fp,h_,k=>by obtain⟨e,r⟩:=h_;exact⟨e,OT.frameM f o v fp r k⟩
 |.any,_,_,h,_=>h
theorem OTs.frameM(f:av Hf Hf'):∀(os:List O) (vs:List V) (fp:LAd),OTs G Hf H os vs fp->(∀b u,H b=aa u->(iR u=ab\/b∈fp)->H' b=aa u)->OTs G Hf' H' os vs fp
 | [],_,_,h,_=>h
 |o::os,_,fp,h_,k=>by obtain⟨v,r,f1,f2,e,j,l,a⟩:=h_;exact⟨v,r,f1,f2,e,OT.frameM f o v f1 j (λb u c hm=>k b u c (hm.imp_right λz=>by rw[a];exact fD _ z)),OTs.frameM f os r f2 l (λb u c hm=>k b u c (hm.imp_right λz=>by rw[a];exact dE _ z)),a⟩
end
variable{Hf':Hp}
def OT.frame{o:O}(h:OT G Hf H o v fp)(f:av Hf Hf')(k:∀b u,H b=aa u->(iR u=ab\/b∈fp)->H' b=aa u):OT G Hf' H' o v fp:=OT.frameM f o v fp h k
def OT.up{o:O}(h:OT G Hf H o v fp)(f:av Hf Hf')(s:av H H'):OT G Hf' H' o v fp:=h.frame f λb u e _=>s b u e
def tF{a c:Type}:∀{ks:List a} {vs us:List c},ks.length=vs.length->ks.length=us.length->ks.zip vs=ks.zip us->vs=us
 | [],[],[],_,_,_=>rfl
 |k::ks,v::vs,u::us,h1,h2,e=>by
  rw[d9,d9]at e
  injection e with e1 e2
  injection e1 with _ e3
  rw[e3,tF (by simpa using h1) (by simpa using h2) e2]
 | [],_::_,_,h,_,_=>by cases h
 | [],[],_::_,_,h,_=>by cases h
 | _::_,[],_,h,_,_=>by cases h
 | _::_,_::_,[],_,h,_=>by cases h
mutual
theorem OT.funM:∀(o:O) (v:V) (f L:LAd),OT G Hf H o v f->OT G Hf' H o v L->f=L
 |.fz d,_,_,_,h,h'=>h.2.trans h'.2.symm
 |.lst os,_,_,_,q4_,q5_=>by
  obtain⟨a,vs,fs,e,q,r,B⟩:=q4_;obtain⟨T,y,l,u,m,I,j⟩:=q5_;subst e B j;cases u;rw[q]at m;cases m
  rw[OTs.funM os vs fs l r I]
 |.tup os,_,f,L,q4_,q5_=>by
  obtain⟨a,vs,e,q,r⟩:=q4_;obtain⟨T,y,u,m,I⟩:=q5_;subst e;cases u;rw[q]at m;cases m
  exact OTs.funM os vs f L r I
 |.dic ks os,_,_,_,q4_,q5_=>by
  obtain⟨a,vs,fs,e,q,z,r,B⟩:=q4_;obtain⟨T,y,l,u,m,M,I,j⟩:=q5_;subst e B j;cases u;rw[q]at m;have:=tF z M (HO.dK.inj (cN m));subst this
  rw[OTs.funM os vs fs l r I]
 |.ins c ns os,_,_,_,q4_,q5_=>by
  obtain⟨a,dx,vs,fs,e,q,z,r,B⟩:=q4_;obtain⟨T,U,y,l,u,m,M,I,j⟩:=q5_;subst e B j;cases u;rw[q]at m;have:=tF z M (HO.ins.inj (cN m)).2.2;subst this
  rw[OTs.funM os vs fs l r I]
 |.jnk n,_,_,_,q4_,q5_=>by
  obtain⟨a,vs,e,q,z,B⟩:=q4_;obtain⟨T,y,u,m,M,j⟩:=q5_;subst e B j;cases u
  rfl
 |.dT ks os,_,_,_,q4_,q5_=>by
  obtain⟨a,vs,fs,e,q,z,r,B⟩:=q4_;obtain⟨T,y,l,u,m,M,I,j⟩:=q5_;subst e B j;cases u;rw[q]at m;have:=tF z M (HO.dT.inj (cN m));subst this
  rw[OTs.funM os vs fs l r I]
 |.at _ o,v,f,L,h,h'=>OT.funM o v f L h.2 h'.2
 |.any,_,_,_,h,h'=>(show _=[]from h).trans (show _=[]from h').symm
theorem OTs.funM:∀(os:List O) (vs:List V) (f n:LAd),OTs G Hf H os vs f->OTs G Hf' H os vs n->f=n
 | [],_,_,_,h,h'=>h.2.trans h'.2.symm
 |o::os,_,_,_,q4_,q5_=>by
  obtain⟨v,r,f1,f2,e,y,z,u⟩:=q4_;obtain⟨I,B,c,j,q,l,m,a⟩:=q5_;subst e u a;cases q;rw[OT.funM o v f1 c y l,OTs.funM os r f2 j z m]
end
mutual
theorem OT.memM:∀(o:O) (v:V) (f:LAd),OT G Hf H o v f->∀a∈f,∃u,H a=aa u/\iR u=ae
 |.fz d,_,_,h,a,ha=>by rw[h.2]at ha;cases ha
 |.lst os,_,_,q3_,b,hb=>by
  obtain⟨a,vs,fs,e,q,r,j⟩:=q3_;subst j
  rcases aQ.mp hb with z |z
  .subst z;exact⟨_,q,rfl⟩
  .exact OTs.memM os vs fs r b z
 |.tup os,_,f,⟨a,vs,e,q,r⟩,b,hb=>OTs.memM os vs f r b hb
 |.dic ks os,_,_,q3_,b,hb=>by
  obtain⟨a,vs,fs,e,q,z,r,j⟩:=q3_;subst j
  rcases aQ.mp hb with z |z
  .subst z;exact⟨_,q,rfl⟩
  .exact OTs.memM os vs fs r b z
 |.ins c ns os,_,_,q3_,b,hb=>by
  obtain⟨a,dx,vs,fs,e,q,z,r,j⟩:=q3_;subst j
  rcases aQ.mp hb with z |z
  .subst z;exact⟨_,q,rfl⟩
  .exact OTs.memM os vs fs r b z
 |.jnk n,_,_,q3_,b,hb=>by
  obtain⟨a,vs,e,q,z,j⟩:=q3_;subst j;rw[dF.mp hb]
  exact⟨_,q,rfl⟩
 |.dT ks os,_,_,q3_,b,hb=>by
  obtain⟨a,vs,fs,e,q,z,r,j⟩:=q3_;subst j
  rcases aQ.mp hb with z |z
  .subst z;exact⟨_,q,rfl⟩
  .exact OTs.memM os vs fs r b z
 |.at _ o,v,f,h,a,ha=>OT.memM o v f h.2 a ha
 |.any,_,_,h,a,ha=>by rw[show _=[]from h]at ha;cases ha
theorem OTs.memM:∀(os:List O) (vs:List V) (f:LAd),OTs G Hf H os vs f->∀a∈f,∃u,H a=aa u/\iR u=ae
 | [],_,_,h,a,ha=>by rw[h.2]at ha;cases ha
 |o::os,_,_,q3_,a,ha=>by
  obtain⟨v,r,f1,f2,e,j,l,c⟩:=q3_;subst c
  rcases bT.mp ha with z |z
  .exact OT.memM o v f1 j a z
  .exact OTs.memM os r f2 l a z
end
mutual
theorem OT.repM(s:av Hf H):∀(o:O) (v:V) (f:LAd),o.kn=ab->OT G Hf H o v f->Rep G H o.toD v
 |.fz d,_,_,_,h=>by rw[O.toD];exact h.1.up s
 |.lst os,_,_,hk,h_=>by obtain⟨a,vs,fs,e,q,r,j⟩:=h_;rw[O.kn]at hk;rw[O.toD];exact⟨a,vs,e,q,OTs.repM s os vs fs hk r⟩
 |.tup os,_,f,hk,h_=>by obtain⟨a,vs,e,q,r⟩:=h_;rw[O.kn]at hk;rw[O.toD];exact⟨a,vs,e,q,OTs.repM s os vs f hk r⟩
 |.dic ks os,_,_,hk,h_=>by obtain⟨a,vs,fs,e,q,z,r,j⟩:=h_;rw[O.kn]at hk;rw[O.toD];exact⟨a,vs,e,q,z,OTs.repM s os vs fs hk r⟩
 |.ins c ns os,_,_,hk,h_=>by obtain⟨a,dx,vs,fs,e,q,z,r,j⟩:=h_;rw[O.kn]at hk;rw[O.toD];exact⟨a,dx,vs,e,q,z,OTs.repM s os vs fs hk r⟩
 |.at _ o,v,f,hk,h=>by rw[O.kn]at hk;rw[O.toD];exact OT.repM s o v f hk h.2
 |.jnk _,_,_,hk,_=>by rw[O.kn]at hk;cases hk
 |.dT ks os,_,_,hk,h_=>by obtain⟨a,vs,fs,e,q,z,r,j⟩:=h_;rw[O.kn]at hk;rw[O.toD];exact⟨a,vs,e,q,z,OTs.repM s os vs fs hk r⟩
 |.any,_,_,hk,_=>by rw[O.kn]at hk;cases hk
theorem OTs.repM(s:av Hf H):∀(os:List O) (vs:List V) (f:LAd),O.kns os=ab->OTs G Hf H os vs f->ao G H (O.toDs os) vs
 | [],_,_,_,h=>by rw[O.toDs];exact h.1
 |o::os,_,_,hk,h_=>by
  obtain⟨v,r,f1,f2,e,a,c,j⟩:=h_;rw[O.kns,cx]at hk;rw[O.toDs];exact⟨v,r,e,OT.repM s o v f1 hk.1 a,OTs.repM s os r f2 hk.2 c⟩
end
def OT.rep{o:O}{f:LAd}(h:OT G Hf H o v f)(s:av Hf H)(a:o.kn=ab):Rep G H o.toD v:=OT.repM s o v f a h
def OTs.fz:∀{ds:LD} {vs:List V},ao G Hf ds vs->OTs G Hf H (ds.map .fz) vs []
 | [],_,h=>⟨h,rfl⟩
 |d::ds,_,⟨v,r,e,h1,h2⟩=>⟨v,r,[],[],e,⟨h1,rfl⟩,OTs.fz h2,rfl⟩
def C5(ds:LD):O.toDs (ds.map .fz)=ds:=by
 induction ds with
 |nil=>rfl
 |cons d ds a=>rw[bp,O.toDs,O.toD,a]
inductive Sl where
 |no
 |im (d:D)
 |own (xs:LD)
 |ownd (ks:List Key) (xs:LD)
 |obj (c:Str) (ns:LSt) (xs:LD)
 |pin (l:Addr) (xs:LD)
 |pind (l:Addr) (ks:List Key) (xs:LD)
 |pino (l:Addr) (c:Str) (ns:LSt) (xs:LD)
 |deep (o:O)
 |val (u:V)
nonrec abbrev LS:=List Sl
@[reducible]noncomputable def nZ{a:Type}:LS->Option (List a):=λ_=>aa []
@[reducible]noncomputable def kY:LS->Option Bool:=λ_=>aa ab
@[reducible]noncomputable def kN:LS->OD:=λ_=>aa .non
@[reducible]noncomputable def kI(i:Int):LS->OD:=λ_=>aa (.int i)
@[reducible]noncomputable def kSt(x:Str):LS->OD:=λ_=>aa (.str x)
@[reducible]noncomputable def kBl(b:Bool):LS->OD:=λ_=>aa (.bl b)
nonrec abbrev MF1:=LS->OD
nonrec abbrev MF2:=LS->OLD
nonrec abbrev MF4:=LS->Option Bool
abbrev Sl.isOwn:Sl->Bool
 |.own _=>ab
 |.ownd _ _=>ab
 |.obj _ _ _=>ab
 |.pin _ _=>ab
 |.pind _ _ _=>ab
 |.pino _ _ _ _=>ab
 | _=>ae
abbrev Sl.calm:Sl->Bool
 |.no=>ab
 |.im _=>ab
 | _=>ae
abbrev iy(G:Gc)(Hf H:Hp)(l:Addr):Sl->Prop
 |.own ds=>∃vs,H l=aa (.lst vs)/\ao G Hf ds vs
 |.ownd ks ds=>∃vs,H l=aa (.dK (ks.zip vs))/\ks.length=vs.length/\ao G Hf ds vs
 |.obj c ns ds=>∃dx vs,H l=aa (.ins (G.cl c) dx (ns.zip vs))/\ns.length=vs.length/\ao G Hf ds vs
 |.pin a ds=>l=a/\∃vs,H l=aa (.lst vs)/\ao G Hf ds vs
 |.pind a ks ds=>l=a/\∃vs,H l=aa (.dK (ks.zip vs))/\ks.length=vs.length/\ao G Hf ds vs
 |.pino a c ns ds=>l=a/\∃dx vs,H l=aa (.ins (G.cl c) dx (ns.zip vs))/\ns.length=vs.length/\ao G Hf ds vs
 | _=>False
variable{l:Addr}
def iy.there{s:Sl}(h:iy G Hf H l s):∃o,H l=aa o:=by
 cases s with
 |own ds=>obtain⟨vs,h,_⟩:=h;exact⟨_,h⟩
 |ownd ks ds=>obtain⟨vs,h,_⟩:=h;exact⟨_,h⟩
 |obj c ns ds=>obtain⟨dx,vs,h,_⟩:=h;exact⟨_,h⟩
 |pin a ds=>obtain⟨_,vs,h,_⟩:=h;exact⟨_,h⟩
 |pind a ks ds=>obtain⟨_,vs,h,_⟩:=h;exact⟨_,h⟩
 |pino a c ns ds=>obtain⟨_,dx,vs,h,_⟩:=h;exact⟨_,h⟩
 | _=>exact h.elim
def iy.there2{s:Sl}(h:iy G Hf H l s):∃o,H l=aa o/\iR o=ae:=by
 cases s with
 |own ds=>obtain⟨vs,h,_⟩:=h;exact⟨_,h,rfl⟩
 |ownd ks ds=>obtain⟨vs,h,_⟩:=h;exact⟨_,h,rfl⟩
 |obj c ns ds=>obtain⟨dx,vs,h,_⟩:=h;exact⟨_,h,rfl⟩
 |pin a ds=>obtain⟨_,vs,h,_⟩:=h;exact⟨_,h,rfl⟩
 |pind a ks ds=>obtain⟨_,vs,h,_⟩:=h;exact⟨_,h,rfl⟩
 |pino a c ns ds=>obtain⟨_,dx,vs,h,_⟩:=h;exact⟨_,h,rfl⟩
 | _=>exact h.elim
def iy.up{s:Sl}(h:iy G Hf H l s)(f:av Hf Hf')(e:∀o,H l=aa o->H' l=aa o):iy G Hf' H' l s:=by
 cases s with
 |own ds=>obtain⟨vs,h,r⟩:=h;exact⟨vs,e _ h,r.up f⟩
 |ownd ks ds=>obtain⟨vs,h,z,r⟩:=h;exact⟨vs,e _ h,z,r.up f⟩
 |obj c ns ds=>obtain⟨dx,vs,h,z,r⟩:=h;exact⟨dx,vs,e _ h,z,r.up f⟩
 |pin a ds=>obtain⟨q,vs,h,r⟩:=h;exact⟨q,vs,e _ h,r.up f⟩
 |pind a ks ds=>obtain⟨q,vs,h,z,r⟩:=h;exact⟨q,vs,e _ h,z,r.up f⟩
 |pino a c ns ds=>obtain⟨q,dx,vs,h,z,r⟩:=h;exact⟨q,dx,vs,e _ h,z,r.up f⟩
 | _=>exact h.elim
abbrev gZ(G:Gc)(H0 Hf H:Hp)(v:Option V):Sl->Prop
 |.no=>True
 |.im d=>∃u,v=aa u/\Rep G Hf d u
 |.deep o=>∃u fp,v=aa u/\OT G Hf H o u fp/\fp.Nodup/\∀a∈fp,H0 a=ac/\Hf a=ac
 |.val u=>v=aa u
 |s=>∃l,v=aa (.ref l)/\H0 l=ac/\Hf l=ac/\iy G Hf H l s
variable{H0:Hp}
def gZ.own{v:Option V}{s:Sl}(a:s.isOwn=ab)(h:gZ G H0 Hf H v s):∃l,v=aa (.ref l)/\H0 l=ac/\Hf l=ac/\iy G Hf H l s:=by
 cases s <;> first |exact h |cases a
def gZ.ofOwn{v:Option V}{s:Sl}(a:s.isOwn=ab)(h:∃l,v=aa (.ref l)/\H0 l=ac/\Hf l=ac/\iy G Hf H l s):gZ G H0 Hf H v s:=by
 cases s <;> first |exact h |cases a
abbrev Holds(G:Gc)(Hf H:Hp)(s:Sl)(v:V)(a:Addr):Prop:=match s with
 |.deep o=>∃fp,OT G Hf H o v fp/\a∈fp
 |s=>s.isOwn=ab/\v=.ref a
variable{a:Addr}
def Holds.own{s:Sl}(c:s.isOwn=ab):Holds G Hf H s v a↔v=.ref a:=by
 cases s <;> first |exact⟨λh=>h.2,λh=>⟨rfl,h⟩⟩ |cases c
def Holds.calm{s:Sl}(h:Holds G Hf H s v a)(c:s.calm=ab):False:=by
 cases s <;> first |exact kG h.1 |cases c
def gZ.back{s:Sl}(q:gZ G H0 Hf H (aa v) s)(k:∀o fp,s=.deep o->OT G Hf H o v fp->OT G Hf' H' o v fp)(h:Holds G Hf' H' s v a):Holds G Hf H s v a:=by
 cases s with
 |deep o=>
  obtain⟨u,fp,e,r,_⟩:=q;cases e;obtain⟨fp',c,ha⟩:=h;have:=OT.funM o v fp fp' (k o fp rfl r) c;subst this
  exact⟨fp,r,ha⟩
 | _=>exact h
def gZ.there{s:Sl}(q:gZ G H0 Hf H (aa v) s)(h:Holds G Hf H s v a):∃o,H a=aa o/\iR o=ae:=by
 cases c:s.isOwn with
 |true=>
  obtain⟨l,e,_,_,j⟩:=q.own c;have f:=(Holds.own c).mp h;cases e;cases f
  exact j.there2
 |false=>
  cases s with
  |deep o=>
   obtain⟨fp,r,ha⟩:=h
   exact OT.memM o v fp r a ha
  | _=>first |exact kG h.1 |cases c
structure au(G:Gc)(Hf0 H0 Hf H:Hp)(σ:St)(ρ:LS):Prop where
 ext:Ext Hf0 H0 Hf H
 len:σ.length=ρ.length
 at':∀(i:Nat) (v:Option V) (s:Sl),σ[i]?=aa v->ρ[i]?=aa s->gZ G H0 Hf H v s
 dj:∀(i j:Nat) (s t:Sl) (v w:V) (a:Addr),ρ[i]?=aa s->ρ[j]?=aa t->σ[i]?=aa (aa v)->σ[j]?=aa (aa w)->Holds G Hf H s v a->Holds G Hf H t w a->i=j
variable{Hf0:Hp}{ρ:LS}
def au.sub(h:au G Hf0 H0 Hf H σ ρ):av Hf H:=h.ext.s
def au.inj(h:au G Hf0 H0 Hf H σ ρ)(i j:Nat)(s t:Sl)(l:Addr)(a:ρ[i]?=aa s)(b:ρ[j]?=aa t)(f:s.isOwn=ab)(m:t.isOwn=ab)(c:σ[i]?=aa (aa (.ref l)))(d:σ[j]?=aa (aa (.ref l))):i=j:=
 h.dj i j s t _ _ l a b c d ((Holds.own f).mpr rfl) ((Holds.own m).mpr rfl)
variable{ρ':LS}
def au.re{m n:Hp}(h:au G Hf0 H0 Hf H σ ρ)(x:Ext m n Hf' H')(y:ρ'.length=ρ.length)(ha:∀(i:Nat) (v:Option V) (s:Sl),σ[i]?=aa v->ρ'[i]?=aa s->gZ G n Hf' H' v s)
 (hd:∀(i:Nat) (s:Sl) (v:V) (a:Addr),ρ'[i]?=aa s->σ[i]?=aa (aa v)->Holds G Hf' H' s v a->∃t,ρ[i]?=aa t/\Holds G Hf H t v a):au G m n Hf' H' σ ρ':=
 ⟨x,h.len.trans y.symm,ha,λi j s t v w a b c e f p q=>by
  obtain⟨I,r,z⟩:=hd i s v a b e p;obtain⟨L,u,B⟩:=hd j t w a c f q;exact h.dj i j I L v w a r u e f z B⟩
def au.step(h:au G Hf0 H0 Hf H σ ρ)(e:Ext Hf H Hf' H'):au G Hf0 H0 Hf' H' σ ρ:=by
 refine h.re (h.ext.trans e) rfl (λi v s a b=>?_) λi s v a b c d=>⟨s,b,(h.at' i _ s c b).back (λo fp _ r=>r.up e.f e.h) d⟩;have q:=h.at' i v s a b
 cases y:s.isOwn with
 |true=>
  obtain⟨l,j,L,M,I⟩:=q.own y;obtain⟨o,m,B⟩:=I.there2
  exact .ofOwn y ⟨l,j,L,by rw[e.n l o m B];exact M,I.up e.f λo m=>e.h _ _ m⟩
 |false=>
  cases s with
  |no=>trivial
  |im d=>obtain⟨u,j,r⟩:=q;exact⟨u,j,r.up e.f⟩
  |val u=>exact q
  |deep o=>
   obtain⟨u,fp,j,r,n,z⟩:=q;refine⟨u,fp,j,r.up e.f e.h,n,λa ha=>⟨(z a ha).1,?_⟩⟩;obtain⟨T,m,B⟩:=OT.memM o u fp r a ha;rw[e.n a T m B]
   exact(z a ha).2
  | _=>cases y
def au.slot{s:Sl}(h:au G Hf0 H0 Hf H σ ρ)(e:ρ[i]?=aa s):∃v,σ[i]?=aa v/\gZ G H0 Hf H v s:=by
 have hi:i<σ.length:=by rw[h.len];exact(dq.mp e).1
 exact⟨σ[i],by simp[hi],h.at' i _ s (by simp[hi]) e⟩
def au.imm(h:au G Hf0 H0 Hf H σ ρ)(e:ρ[i]?=aa (.im d)):∃v,σ[i]?=aa (aa v)/\Rep G Hf d v:=by
 obtain⟨v,c,u,f,r⟩:=h.slot e;subst f;exact⟨u,c,r⟩
def au.ownAt{s:Sl}(j:s.isOwn=ab)(h:au G Hf0 H0 Hf H σ ρ)(e:ρ[i]?=aa s):∃l,σ[i]?=aa (aa (.ref l))/\H0 l=ac/\Hf l=ac/\iy G Hf H l s:=by
 obtain⟨v,c,q⟩:=h.slot e;obtain⟨l,f,m⟩:=q.own j;rw[f]at c;exact⟨l,c,m⟩
variable{j:Nat}
def cE{f:Type}{l:List f}{x y:f}(h:(l.set i x)[j]?=aa y):(j=i/\y=x/\i<l.length)\/(j≠i/\l[j]?=aa y):=by
 by_cases c:j=i
 .subst c;left;have hi:j<l.length:=by have:=(dq.mp h).1;simpa using this
  rw[jR hi]at h;exact⟨rfl,(cN h).symm,hi⟩
 .right;rw[kH (eZ c)]at h;exact⟨c,h⟩
def au.setIm(h:au G Hf0 H0 Hf H σ ρ)(r:Rep G Hf d v):au G Hf0 H0 Hf H (σ.set i (aa v)) (ρ.set i (.im d)):=by
 refine⟨h.ext,by simpa using h.len,λj u s a b=>?_,λj k s t u w l a b c d' p q=>?_⟩
 .rcases cE b with⟨e,f,_⟩ |⟨e,b⟩
  .subst e f
   rcases cE a with⟨_,f,_⟩ |⟨e,_⟩
   .subst f;exact⟨v,rfl,r⟩
   .exact absurd rfl e
  .rcases cE a with⟨f,_⟩ |⟨_,a⟩
   .exact absurd f e
   .exact h.at' j u s a b
 .rcases cE a with⟨e,f,_⟩ |⟨e,a⟩
  .subst f;exact(p.calm rfl).elim
  .rcases cE b with⟨m,f,_⟩ |⟨m,b⟩
   .subst f;exact(q.calm rfl).elim
   .rcases cE c with⟨f,_⟩ |⟨_,c⟩
    .exact absurd f e
    .rcases cE d' with⟨f,_⟩ |⟨_,d'⟩
     .exact absurd f m
     .exact h.dj j k s t u w l a b c d' p q
def au.setNo(h:au G Hf0 H0 Hf H σ ρ):au G Hf0 H0 Hf H σ (ρ.set i .no):=by
 refine h.re h.ext (by simp) (λj u s a b=>?_) λj s v a b c d=>?_
 .rcases cE b with⟨e,f,_⟩ |⟨e,b⟩
  .subst f;trivial
  .exact h.at' j u s a b
 .rcases cE b with⟨e,f,_⟩ |⟨e,b⟩
  .subst f;exact(d.calm rfl).elim
  .exact⟨s,b,d⟩
variable{u:V}
def au.setNew{s:Sl}(h:au G Hf0 H0 Hf H σ ρ)(e:Ext Hf H Hf' H')(B:gZ G H0 Hf' H' (aa u) s)(hn:∀a,Holds G Hf' H' s u a->H a=ac):
  au G Hf0 H0 Hf' H' (σ.set i (aa u)) (ρ.set i s):=by
 have h':=h.step e
 have no:∀(j:Nat) (t:Sl) (w:V) (a:Addr),ρ[j]?=aa t->σ[j]?=aa (aa w)->Holds G Hf' H' t w a->Holds G Hf' H' s u a->False:=λj t w a b c p q=>by
  have L:=(h.at' j _ t c b).back (λo fp _ r=>r.up e.f e.h) p;obtain⟨o,B,_⟩:=(h.at' j _ t c b).there L;rw[hn a q]at B;cases B
 refine⟨h'.ext,by simpa using h.len,λj w t a b=>?_,λj k t t' v w l a b c d' p q=>?_⟩
 .rcases cE b with⟨e,m,_⟩ |⟨e,b⟩
  .subst e m
   rcases cE a with⟨_,m,_⟩ |⟨e,_⟩
   .subst m;exact B
   .exact absurd rfl e
  .rcases cE a with⟨m,_⟩ |⟨_,a⟩
   .exact absurd m e
   .exact h'.at' j w t a b
 .rcases cE a with⟨z,I,_⟩ |⟨z,a⟩
  .rcases cE b with⟨n,y,_⟩ |⟨n,b⟩
   .rw[z,n]
   .rcases cE c with⟨_,m,_⟩ |⟨m,_⟩
    .cases m;rw[I]at p
     rcases cE d' with⟨m,_⟩ |⟨_,d'⟩
     .exact absurd m n
     .exact(no k t' w l b d' q p).elim
    .exact absurd z m
  .rcases cE c with⟨m,_⟩ |⟨_,c⟩
   .exact absurd m z
   .rcases cE b with⟨n,y,_⟩ |⟨n,b⟩
    .rcases cE d' with⟨_,m,_⟩ |⟨m,_⟩
     .cases m;rw[y]at q;exact(no j t v l a c p q).elim
     .exact absurd n m
    .rcases cE d' with⟨m,_⟩ |⟨_,d'⟩
     .exact absurd m n
     .exact h'.dj j k t t' v w l a b c d' p q
def au.setOwn{s:Sl}(c:s.isOwn=ab)(h:au G Hf0 H0 Hf H σ ρ)(e:Ext Hf H Hf' H')(hn:H l=ac)(f:Hf' l=ac)(m:iy G Hf' H' l s):
  au G Hf0 H0 Hf' H' (σ.set i (aa (.ref l))) (ρ.set i s):=
 h.setNew e (.ofOwn c ⟨l,rfl,h.ext.h.free hn,f,m⟩) λa p=>by cases (Holds.own c).mp p;exact hn
def au.chg{s s':Sl}(h:au G Hf0 H0 Hf H σ ρ)(e:ρ[i]?=aa s)(el:σ[i]?=aa (aa v))(k:∀b u,H b=aa u->Holds G Hf H s v b\/H' b=aa u)(ho:gZ G H0 Hf H' (aa v) s')
 (hh:∀a,Holds G Hf H' s' v a->Holds G Hf H s v a\/∀(j:Nat) (t:Sl) (w:V),ρ[j]?=aa t->σ[j]?=aa (aa w)->Holds G Hf H t w a->False):au G Hf0 H0 Hf H' σ (ρ.set i s'):=by
 have q:=h.at' i _ s el e
 have B:∀b,Holds G Hf H s v b->H0 b=ac/\Hf b=ac:=λb p=>by
  cases hs:s.isOwn with
  |true=>
   obtain⟨l,U,h0,hf,_⟩:=q.own hs;have I:=(Holds.own hs).mp p;cases U;cases I
   exact⟨h0,hf⟩
  |false=>
   cases s with
   |deep o=>
    obtain⟨u,fp,U,r,n,z⟩:=q;cases U;obtain⟨fp',r',ha⟩:=p;have:=OT.funM o v fp fp' r r';subst this
    exact z b ha
   | _=>first |exact kG p.1 |cases hs
 have fr:∀(j:Nat) (t:Sl) (w:V),j≠i->ρ[j]?=aa t->σ[j]?=aa (aa w)->∀o fp,t=.deep o->OT G Hf H o w fp->OT G Hf H' o w fp:=λj t w hj b c o fp et r=>by
  subst et;refine r.frame (av.refl _) λx u hx hm=>?_
  rcases k x u hx with z |z
  .rcases hm with hm |hm
   .obtain⟨o',m,ht'⟩:=q.there z;rw[hx]at m;cases m;rw[hm]at ht';cases ht'
   .exact absurd (h.dj j i _ s w v x b e c el ⟨fp,r,hm⟩ z) hj
  .exact z
 refine⟨⟨h.ext.f,λb u e=>?_,λb u e=>?_,h.ext.n⟩,by simpa using h.len,λj u t a b=>?_,λj j' t t' w w' a b c b' c' p p'=>?_⟩
 .rcases k b u (h.ext.h b u e)with z |z
  .rw[(B b z).1]at e;cases e
  .exact z
 .rcases k b u (h.ext.s b u e)with z |z
  .rw[(B b z).2]at e;cases e
  .exact z
 .rcases cE b with⟨e',I,_⟩ |⟨en,b⟩
  .subst e' I;rw[el]at a;cases a;exact ho
  .have q':=h.at' j u t a b
   cases ht:t.isOwn with
   |false=>
    cases t with
    |no=>trivial
    |im d=>exact q'
    |val u=>exact q'
    |deep o=>
     obtain⟨w,fp,U,r,n,z⟩:=q';subst U
     exact⟨w,fp,rfl,fr j _ w en b a o fp rfl r,n,z⟩
    | _=>cases ht
   |true=>
    obtain⟨l2,I,e3,e4,q2⟩:=q'.own ht;subst I;refine .ofOwn ht ⟨l2,rfl,e3,e4,q2.up (av.refl _) λo' m=>?_⟩
    rcases k l2 o' m with z |z
    .exact absurd (h.dj j i t s _ v l2 b e a el ((Holds.own ht).mpr rfl) z) en
    .exact z
 .have L:∀(j:Nat) (t:Sl) (w:V),(ρ.set i s')[j]?=aa t->σ[j]?=aa (aa w)->Holds G Hf H' t w a->(j=i/\∀(j:Nat) (t:Sl) (w:V),ρ[j]?=aa t->σ[j]?=aa (aa w)->Holds G Hf H t w a->False)\/∃t0,ρ[j]?=aa t0/\Holds G Hf H t0 w a:=λj t w b y p=>by
   rcases cE b with⟨e',I,_⟩ |⟨en,b⟩
   .rw[I]at p;rw[e',el]at y;cases y;rw[e']
    rcases hh a p with z |z
    .exact .inr ⟨s,e,z⟩
    .exact .inl ⟨rfl,z⟩
   .exact .inr ⟨t,b,(h.at' j _ t y b).back (fr j t w en b y) p⟩
  rcases L j t w b b' p with⟨z1,z2⟩ |⟨t0,z1,z2⟩
  .rcases L j' t' w' c c' p' with⟨M,T⟩ |⟨t1,M,T⟩
   .rw[z1,M]
   .exact(z2 j' t1 w' M c' T).elim
  .rcases L j' t' w' c c' p' with⟨M,T⟩ |⟨t1,M,T⟩
   .exact(T j t0 w z1 b' z2).elim
   .exact h.dj j j' t0 t1 w w' a z1 M b' c' z2 T
def au.chgX{s s':Sl}(h:au G Hf0 H0 Hf H σ ρ)(x:Ext Hf H Hf' H1)(e:ρ[i]?=aa s)(el:σ[i]?=aa (aa v))(k:∀b u,H1 b=aa u->Holds G Hf H s v b\/H' b=aa u)(m:gZ G H0 Hf' H' (aa v) s')
 (y:∀a,Holds G Hf' H' s' v a->Holds G Hf H s v a\/H a=ac):au G Hf0 H0 Hf' H' σ (ρ.set i s'):=by
 have up:∀b,Holds G Hf H s v b->Holds G Hf' H1 s v b:=λb p=>by
  cases s with
  |deep o=>obtain⟨fp,r,n⟩:=p;exact⟨fp,r.up x.f x.h,n⟩
  | _=>exact p
 refine(h.step x).chg e el (λb u n=>(k b u n).imp_left (up b)) m λa p=>?_
 rcases y a p with z |z
 .exact .inl (up a z)
 .refine .inr λj t w b c q=>?_;obtain⟨o,m,_⟩:=(h.at' j _ t c b).there ((h.at' j _ t c b).back (λo fp _ r=>r.up x.f x.h) q);rw[z]at m;cases m
def au.mutd{s s':Sl}{o:HO}(f:s.isOwn=ab)(c:s'.isOwn=ab)(h:au G Hf0 H0 Hf H σ ρ)(e:ρ[i]?=aa s)(el:σ[i]?=aa (aa (.ref l)))(B:iy G Hf (upd H l o) l s'):
  au G Hf0 H0 Hf (upd H l o) σ (ρ.set i s'):=by
 obtain⟨I,m,r,z,q⟩:=h.ownAt f e;rw[el]at m;cases m;refine h.chg e el (λb u y=>?_) (.ofOwn c ⟨l,rfl,r,z,B⟩) λa p=>.inl ?_
 .by_cases n:b=l
  .subst n;exact .inl ((Holds.own f).mpr rfl)
  .exact .inr (by rw[aJ n];exact y)
 .exact(Holds.own f).mpr ((Holds.own c).mp p)
def au.fixd{s:Sl}{o:HO}(M:s.isOwn=ab)(h:au G Hf0 H0 Hf H σ ρ)(e:ρ[i]?=aa s)(el:σ[i]?=aa (aa (.ref l)))(ho:H l=aa o)(hr:Rep G (upd Hf l o) d (.ref l)):
  au G Hf0 H0 (upd Hf l o) H σ (ρ.set i (.im d)):=by
 obtain⟨l',f,h0,m,q⟩:=h.ownAt M e;rw[el]at f;cases f;refine h.re (h.ext.fix h0 m ho) (by simp) (λj u t a b=>?_) λj t v a b c p=>?_
 .rcases cE b with⟨e,I,_⟩ |⟨en,b⟩
  .subst e I;rw[el]at a;cases a;exact⟨_,rfl,hr⟩
  .have q:=h.at' j u t a b
   cases B:t.isOwn with
   |false=>
    cases t with
    |no=>trivial
    |im d=>obtain⟨U,f,r⟩:=q;exact⟨U,f,r.up (bP m)⟩
    |val U=>exact q
    |deep o=>
     obtain⟨w,fp,f,r,n,z⟩:=q;subst f;refine⟨w,fp,rfl,r.up (bP m) (av.refl _),n,λx hx=>⟨(z x hx).1,?_⟩⟩;rw[aJ (λy=>?_)]
     .exact(z x hx).2
     .subst y
      exact en (h.dj j i _ s w _ x b e a el ⟨fp,r,hx⟩ ((Holds.own M).mpr rfl))
    | _=>cases B
   |true=>
    obtain⟨T,e2,e3,e4,q2⟩:=q.own B;subst e2;refine .ofOwn B ⟨T,rfl,e3,?_,q2.up (bP m) λo' L=>L⟩;rw[aJ (λz=>?_)]
    .exact e4
    .subst z;exact en (h.inj j i t s T b e B M a el)
 .rcases cE b with⟨_,I,_⟩ |⟨_,b⟩
  .subst I;exact(p.calm rfl).elim
  .exact⟨t,b,(h.at' j _ t c b).back (λo fp _ r=>r.up (bP m) (av.refl _)) p⟩
def PE.imp{t':TE}(h:PE X e t)(i:∀σ H Q,t' σ H Q->t σ H Q):PE X e t':=λpins s σ H Q I q=>h pins s σ H Q I (i σ H Q q)
variable{t':TT}
def PT.imp{t:TT}(h:PT X e t)(i:∀σ H Q,t' σ H Q->t σ H Q):PT X e t':=λpins s σ H Q I q=>h pins s σ H Q I (i σ H Q q)
def PW.imp{t:TT}(h:PW X e t)(i:∀σ H Q,t' σ H Q->t σ H Q):PW X e t':=λc pins s σ H Q I q=>h c pins s σ H Q I (i σ H Q q)
variable{es:LEx}
def PA.imp{t t':TA}(h:PA X es t)(i:∀σ H Q,t' σ H Q->t σ H Q):PA X es t':=λpos pins s σ H Q I q=>h pos pins s σ H Q I (i σ H Q q)
def PS.imp{st:Stmt}{t t':TS}(h:PS X st t)(i:∀E σ H,t' E σ H->t E σ H):PS X st t':=λpins s σ H E I q=>h pins s σ H E I (i E σ H q)
def PSs.imp{st:List Stmt}{t t':TS}(h:PSs X st t)(i:∀E σ H,t' E σ H->t E σ H):PSs X st t':=λpins s σ H E I q=>h pins s σ H E I (i E σ H q)
def PG.imp{t t':TG}(h:PG X e t)(i:∀v σ H Q,t' v σ H Q->t v σ H Q):PG X e t':=λpins s σ H v u Q I r q=>h pins s σ H v u Q I r (i v σ H Q q)
def PGs.imp{t t':TGs}(h:PGs X es t)(i:∀v σ H Q,t' v σ H Q->t v σ H Q):PGs X es t':=λpins s σ H v u Q I r q=>h pins s σ H v u Q I r (i v σ H Q q)
def PI.imp{t t':TI}(h:PI X tg e t)(i:∀σ H R,t' σ H R->t σ H R):PI X tg e t':=λpins s σ H R I q=>h pins s σ H R I (i σ H R q)
def PTs.imp{t:TT}(h:PTs X hY t)(i:∀σ H Q,t' σ H Q->t σ H Q):PTs X hY t':=λpins s σ H Q I q=>h pins s σ H Q I (i σ H Q q)
def OpR.imp{f:Value->Value->Sem Value}{r c:R2}(h:OpR X f r)(i:∀x y H Q,c x y H Q->r x y H Q):OpR X f c:=λpins s σ H x y v u Q I m n q=>h pins s σ H x y v u Q I m n (i x y H Q q)
def iw.imp{f:Value}{r m:List V->Hp->VK->Prop}(h:iw X f r)(i:∀xs H Q,m xs H Q->r xs H Q):iw X f m:=λpins s σ H xs us Q I n q=>h pins s σ H xs us Q I n (i xs H Q q)
@[reducible]noncomputable def Gx(c:Str->Addr)(X:Cx):Gc:=⟨X.K,c⟩
abbrev tD(G:Gc)(f:MF1):TE:=λσ H Q=>∃Hf0 H0 Hf ρ d,au G Hf0 H0 Hf H σ ρ/\f ρ=aa d/\∀v Hf' H',Ext Hf H Hf' H'->Rep G Hf' d v->Q v H'
abbrev tDB(G:Gc)(f:MF1):TE:=λσ H Q=>∃Hf0 H0 Hf ρ d,au G Hf0 H0 Hf H σ ρ/\f ρ=aa d/\∀v Hf' H',Ext Hf H Hf' H'->Rep G H' d v->Q v H'
abbrev tDC(G:Gc)(f:MF2):TE:=λσ H Q=>∃Hf0 H0 Hf ρ ds,au G Hf0 H0 Hf H σ ρ/\f ρ=aa ds/\∀a vs Hf' H',Ext Hf H Hf' H'->(SqL G.K H' a vs\/SqT G.K H' a vs)->ao G Hf' ds vs->Q (.ref a) H'
abbrev tDO(G:Gc)(f:MF2):TE:=λσ H Q=>∃Hf0 H0 Hf ρ ds,au G Hf0 H0 Hf H σ ρ/\f ρ=aa ds /\
 ∀l vs Hf' H',Ext Hf H Hf' H'->H l=ac->Hf' l=ac->H' l=aa (.lst vs)->ao G Hf' ds vs->Q (.ref l) H'
abbrev tDA(G:Gc)(f:MF2):TA:=λσ H Q=>∃Hf0 H0 Hf ρ ds,au G Hf0 H0 Hf H σ ρ/\f ρ=aa ds/\∀vs Hf' H',Ext Hf H Hf' H'->ao G Hf' ds vs->Q vs H'
abbrev Km(G:Gc)(f:MF2):TA:=λσ H Q=>∃Hf0 H0 Hf ρ ds,au G Hf0 H0 Hf H σ ρ/\f ρ=aa ds/\∀vs Hf' H',Ext Hf H Hf' H'->ao G H' ds vs->Q vs H'
abbrev tDT(G:Gc)(f:MF4):TT:=λσ H Q=>∃Hf0 H0 Hf ρ b,au G Hf0 H0 Hf H σ ρ/\f ρ=aa b/\∀Hf' H',Ext Hf H Hf' H'->Q b H'
abbrev DE(c:Str->Addr)(X:Cx)(e:Expr)(f:MF1):Prop:=PE X e (tD (Gx c X) f)
abbrev DB(c:Str->Addr)(X:Cx)(e:Expr)(f:MF1):Prop:=PE X e (tDB (Gx c X) f)
abbrev DC(c:Str->Addr)(X:Cx)(e:Expr)(f:MF2):Prop:=PE X e (tDC (Gx c X) f)
abbrev DO(c:Str->Addr)(X:Cx)(e:Expr)(f:MF2):Prop:=PE X e (tDO (Gx c X) f)
structure DA(c:Str->Addr)(X:Cx)(es:LEx)(f:MF2):Prop where
 pa:PA X es (tDA (Gx c X) f)
 len:∀ρ ds,f ρ=aa ds->ds.length=es.length
structure DAB(c:Str->Addr)(X:Cx)(es:LEx)(f:MF2):Prop where
 pa:PA X es (Km (Gx c X) f)
 len:∀ρ ds,f ρ=aa ds->ds.length=es.length
abbrev DT(c:Str->Addr)(X:Cx)(e:Expr)(f:MF4):Prop:=PT X e (tDT (Gx c X) f)
abbrev DW(c:Str->Addr)(X:Cx)(e:Expr)(f:MF4):Prop:=PW X e (tDT (Gx c X) f)
abbrev D.scalar:D->Bool
 |.non=>ab
 |.bl _=>ab
 |.int _=>ab
 |.str _=>ab
 | _=>ae
def Rep.sc(c:d.scalar=ab)(r:Rep G H d v):Rep G H' d v:=by
 cases d <;> first |exact r |cases c
abbrev iS:D->OLD
 |.lst xs=>aa xs
 |.tup xs=>aa xs
 |.kl xs=>aa xs
 |.kt xs=>aa xs
 | _=>ac
def qH(e:iS d=aa ds)(r:Rep G H d v):∃a vs,v=.ref a/\(SqL G.K H a vs\/SqT G.K H a vs)/\ao G H ds vs:=by
 cases d with
 |lst xs=>cases e;obtain⟨a,vs,c,q,r⟩:=r;exact⟨a,vs,c,.inl (SqL.of q),r⟩
 |tup xs=>cases e;obtain⟨a,vs,c,q,r⟩:=r;exact⟨a,vs,c,.inr (SqT.of q),r⟩
 |kl xs=>cases e;obtain⟨a,vs,c,q,r⟩:=r;exact⟨a,vs,c,.inl q,r⟩
 |kt xs=>cases e;obtain⟨a,vs,c,q,r⟩:=r;exact⟨a,vs,c,.inr q,r⟩
 | _=>cases e
def xC(s:av H H')(h:SqL K H a vs\/SqT K H a vs):SqL K H' a vs\/SqT K H' a vs:=h.imp s.seq s.tup
abbrev aI(f:MF2)(ρ:LS):OD:=(f ρ).map .lst
abbrev bw(f:MF2)(ρ:LS):OD:=(f ρ).map .tup
abbrev a9(f:MF1)(ρ:LS):OLD:=(f ρ).bind iS
abbrev bG(f g:MF1)(ρ:LS):OD:=(f ρ).or (g ρ)
variable{c:Str->Addr}{f:MF1}
def DE.db(h:DE c X e f):DB c X e f:=PE.imp h λσ H Q n=>by
 obtain⟨Hf0,H0,Hf,ρ,d,st,m,k⟩:=n;exact(⟨Hf0,H0,Hf,ρ,d,st,m,λv Hf' H' x r=>k v Hf' H' x (r.up x.s)⟩)
def DE.dc(h:DE c X e f):DC c X e (a9 f):=PE.imp h λσ H Q z=>by
 obtain⟨Hf0,H0,Hf,ρ,ds,st,m,k⟩:=z;unfold a9 at m
 cases n:f ρ with
 |none=>rw[n]at m;cases m
 |some d=>
  rw[n]at m;refine⟨Hf0,H0,Hf,ρ,d,st,n,λv Hf' H' x r=>?_⟩;obtain⟨a,vs,y,q,rs⟩:=qH m r;subst y;exact k a vs Hf' H' x (xC x.s q) rs
def DO.de{f:MF2}(h:DO c X e f):DE c X e (aI f):=PE.imp h λσ H Q z=>by
 obtain⟨Hf0,H0,Hf,ρ,d,st,m,k⟩:=z;unfold aI at m
 cases n:f ρ with
 |none=>rw[n]at m;cases m
 |some ds=>
  rw[n]at m;have m:D.lst ds=d:=cN m;subst m;exact⟨Hf0,H0,Hf,ρ,ds,st,n,λl vs Hf' H' x hn q y r=>k _ (upd Hf' l (.lst vs)) H' (x.fix hn q y) ⟨l,vs,rfl,aZ,r.up (bP q)⟩⟩
def DO.dc{f:MF2}(h:DO c X e f):DC c X e f:=PE.imp h λσ H Q q=>by
 obtain ⟨Hf0,H0,Hf,ρ,ds,st,m,k⟩:=q;exact (
 ⟨Hf0,H0,Hf,ρ,ds,st,m,λl vs Hf' H' x hn y n r=>k l vs Hf' H' x (.inl (SqL.of n)) r⟩)
def DE.orE{g:MF1}(h:DE c X e f)(h':DE c X e g):DE c X e (bG f g):=λpins s σ H Q I q=>by
 obtain⟨Hf0,H0,Hf,ρ,d,st,m,k⟩:=q;unfold bG at m
 cases n:f ρ with
 |some d'=>
  rw[n]at m;cases m
  exact h pins s σ H Q I ⟨Hf0,H0,Hf,ρ,_,st,n,k⟩
 |none=>
  rw[n]at m;exact h' pins s σ H Q I ⟨Hf0,H0,Hf,ρ,d,st,m,k⟩
abbrev af(i:Nat)(ρ:LS):OD:=match ρ[i]? with
 |some (.im d)=>aa d
 | _=>ac
abbrev g4(i:Nat)(ρ:LS):OD:=match ρ[i]? with
 |some (.im d)=>aa d
 |some (.own xs)=>aa (.lst xs)
 |some (.ownd ks xs)=>aa (.dic ks xs)
 |some (.deep o)=>if o.kn then aa o.toD else ac
 | _=>ac
abbrev ar(i:Nat)(ρ:LS):OLD:=match ρ[i]? with
 |some (.im d)=>iS d
 |some (.own xs)=>aa xs
 | _=>ac
def C6(h:af i ρ=aa d):ρ[i]?=aa (.im d):=by
 unfold af at h
 cases e:ρ[i]? with
 |none=>rw[e]at h;cases h
 |some s=>rw[e]at h;cases s <;> cases h;rfl
def C7(h:PE X e (di i)):DE c X e (af i):=PE.imp h λσ H Q q=>by
 obtain⟨Hf0,H0,Hf,ρ,d,st,n,k⟩:=q;obtain⟨v,m,r⟩:=st.imm (C6 n);exact⟨v,m,k v Hf H (Ext.refl st.sub) r⟩
def C8(h:PE X e (di i)):DC c X e (ar i):=PE.imp h λσ H Q z=>by
 obtain⟨Hf0,H0,Hf,ρ,ds,st,m,k⟩:=z;unfold ar at m
 cases es:ρ[i]? with
 |none=>rw[es]at m;cases m
 |some s=>
  rw[es]at m
  cases s with
  |im d=>
   obtain⟨v,n,r⟩:=st.imm es;obtain⟨a,vs,y,q,rs⟩:=qH m r;subst y
   exact⟨_,n,k a vs Hf H (Ext.refl st.sub) (xC st.sub q) rs⟩
  |own xs=>
   cases m;obtain⟨l,n,_,_,vs,q,r⟩:=st.ownAt rfl es
   exact⟨_,n,k l vs Hf H (Ext.refl st.sub) (.inl (SqL.of q)) r⟩
  | _=>cases m
def C9(h:PE X e (di i)):DB c X e (g4 i):=PE.imp h λσ H Q I=>by
 obtain⟨Hf0,H0,Hf,ρ,d,st,m,k⟩:=I;unfold g4 at m
 cases es:ρ[i]? with
 |none=>rw[es]at m;cases m
 |some s=>
  rw[es]at m
  cases s with
  |im d=>
   cases m;obtain⟨v,n,r⟩:=st.imm es
   exact⟨_,n,k v Hf H (Ext.refl st.sub) (r.up st.sub)⟩
  |own xs=>
   cases m;obtain⟨l,n,_,_,vs,q,r⟩:=st.ownAt rfl es
   exact⟨_,n,k _ Hf H (Ext.refl st.sub) ⟨l,vs,rfl,q,r.up st.sub⟩⟩
  |ownd ks xs=>
   cases m;obtain⟨l,n,_,_,vs,q,z,r⟩:=st.ownAt rfl es
   exact⟨_,n,k _ Hf H (Ext.refl st.sub) ⟨l,vs,rfl,q,z,r.up st.sub⟩⟩
  |deep o=>
   replace m:(if o.kn=ab then aa o.toD else ac)=aa d:=m;split at m
   .rename_i B;cases m;obtain⟨v,n,u,fp,y,r,_⟩:=st.slot es;subst y;exact⟨_,n,k _ Hf H (Ext.refl st.sub) (r.rep st.sub B)⟩
   .cases m
  | _=>cases m
def tG(h:PE X e (tC v))(r:∀G H,Rep G H d v):DE c X e (λ_=>aa d):=PE.imp h λσ H Q n=>by
 obtain⟨Hf0,H0,Hf,ρ,d',st,m,k⟩:=n;cases m;exact k v Hf H (Ext.refl st.sub) (r _ _)
def aj{i:Int}{j}:DE c X (.Constant (.int i) j pos) (λ_=>aa (.int i)):=tG B9 λ_ _=>rfl
def cu{i:Bool}{j}:DE c X (.Constant (.bool i) j pos) (λ_=>aa (.bl i)):=tG Ht λ_ _=>rfl
def cJ{j}:DE c X (.Constant .none j pos) kN:=tG Hu λ_ _=>rfl
def cR{i:Str}{j}:DE c X (.Constant (.str i) j pos) (λ_=>aa (.str i)):=tG Hv λ_ _=>rfl
def dv(i:Nat)(m:X.N[i]?=aa x:=by rfl)(hv:Vis X.env.scope x:=by first |exact b7 rfl |exact bB (b7 rfl) |exact bB (bB rfl))(hd:NDb x:=by decide)
 (h:NCd x:=by decide):DE c X (.Name x pos) (af i):=C7 (nv m hv hd h)
def dvC(i:Nat)(m:X.N[i]?=aa x:=by rfl)(hv:Vis X.env.scope x:=by first |exact b7 rfl |exact bB (b7 rfl) |exact bB (bB rfl))(hd:NDb x:=by decide)
 (h:NCd x:=by decide):DC c X (.Name x pos) (ar i):=C8 (nv m hv hd h)
def dvB(i:Nat)(m:X.N[i]?=aa x:=by rfl)(hv:Vis X.env.scope x:=by first |exact b7 rfl |exact bB (b7 rfl) |exact bB (bB rfl))(hd:NDb x:=by decide)
 (h:NCd x:=by decide):DB c X (.Name x pos) (g4 i):=C9 (nv m hv hd h)
abbrev ag(f:MF1)(g:MF2)(ρ:LS):OLD:=(f ρ).bind λd=>(g ρ).map λds=>d::ds
variable{g:MF2}
def tH(h:ag f g ρ=aa ds):∃d r,f ρ=aa d/\g ρ=aa r/\ds=d::r:=by
 unfold ag at h
 cases m:f ρ with
 |none=>rw[m]at h;cases h
 |some d=>
  cases n:g ρ with
  |none=>rw[m,n]at h;cases h
  |some r=>rw[m,n]at h;cases h;exact⟨d,r,rfl,rfl,rfl⟩
def ak:DA c X [] nZ:=⟨PA.imp c8 λσ H Q n=>by obtain⟨Hf0,H0,Hf,ρ,ds,st,m,k⟩:=n;cases m;exact k [] Hf H (Ext.refl st.sub) rfl,λρ ds h=>by cases h;rfl⟩
def ah(ha:DE c X e f)(q:DA c X es g)(I:StE X e es:=by rfl):DA c X (e::es) (ag f g):=by
 refine⟨PA.imp (dz ha q.pa I) λσ H Q L=>?_,λρ ds h=>?_⟩
 .obtain⟨Hf0,H0,Hf,ρ,ds,st,B,k⟩:=L;obtain⟨d,r,n,m,rfl⟩:=tH B;exact⟨Hf0,H0,Hf,ρ,d,st,n,λv eD H1 y M=>⟨Hf0,H0,eD,ρ,r,st.step y,m,λvs dr H2 z T=>k _ dr H2 (y.trans z) (.cons (M.up z.f) T)⟩⟩
 .obtain⟨d,r,n,m,rfl⟩:=tH h;simp[q.len ρ r m]
def cV:DAB c X [] nZ:=⟨PA.imp c8 λσ H Q n=>by obtain⟨Hf0,H0,Hf,ρ,ds,st,m,k⟩:=n;cases m;exact k [] Hf H (Ext.refl st.sub) rfl,λρ ds h=>by cases h;rfl⟩
def cv(ha:DB c X e f)(q:DAB c X es g)(I:StE X e es:=by rfl):DAB c X (e::es) (ag f g):=by
 refine⟨PA.imp (dz ha q.pa I) λσ H Q L=>?_,λρ ds h=>?_⟩
 .obtain⟨Hf0,H0,Hf,ρ,ds,st,B,k⟩:=L;obtain⟨d,r,n,m,rfl⟩:=tH B;exact⟨Hf0,H0,Hf,ρ,d,st,n,λv eD H1 y M=>⟨Hf0,H0,eD,ρ,r,st.step y,m,λvs dr H2 z T=>k _ dr H2 (y.trans z) (.cons (M.up z.h) T)⟩⟩
 .obtain⟨d,r,n,m,rfl⟩:=tH h;simp[q.len ρ r m]
def bK{f:MF2}(h:DA c X es f)(hz:es.length<=1000:=by exact Nat.le_of_ble_eq_true rfl):DO c X (.List es pos) f:=PE.imp (tf h.pa) λσ H Q q=>by
 obtain ⟨Hf0,H0,Hf,ρ,ds,st,n,k⟩:=q;exact (
 ⟨Hf0,H0,Hf,ρ,ds,st,n,λvs Hf' H' x r=>⟨by
  rw[<- r.length,h.len ρ ds n];exact f7 (CN hz),λp m=>k p vs Hf' (upd H' p (.lst vs)) (x.trans (Ext.tmp x.s m)) (x.h.free m) (x.s.free m) aZ r⟩⟩)
def bX{f:MF2}{y:Nat}(h:DA c X es f)(hz:es.length<=1000:=by exact Nat.le_of_ble_eq_true rfl):DE c X (.Tuple es y pos) (bw f):=PE.imp (Jg h.pa) λσ H Q z=>by
 obtain⟨Hf0,H0,Hf,ρ,d,st,m,k⟩:=z;unfold bw at m
 cases n:f ρ with
 |none=>rw[n]at m;cases m
 |some ds=>
  rw[n]at m;have m:D.tup ds=d:=cN m;subst m
  exact⟨Hf0,H0,Hf,ρ,ds,st,n,λvs Hf' H' x r=>⟨by
   rw[<- r.length,h.len ρ ds n];exact f7 (CN hz),λp q=>k _ (upd Hf' p (.tup vs)) (upd H' p (.tup vs)) (x.trans (Ext.new x.s q)) ⟨p,vs,rfl,aZ,r.up (bP (x.s.free q))⟩⟩⟩
abbrev rD(G:Gc)(m:D->D->OD):R2:=λh n H Q=>∃Hf x y d,av Hf H/\Rep G Hf x h/\Rep G Hf y n/\m x y=aa d/\∀v Hf' H',Ext Hf H Hf' H'->Rep G Hf' d v->Q v H'
nonrec abbrev OpD(c:Str->Addr)(X:Cx)(f:Value->Value->Sem Value)(m:D->D->OD):Prop:=OpR X f (rD (Gx c X) m)
abbrev m2(m:D->D->OD)(f g:MF1)(ρ:LS):OD:=(f ρ).bind λx=>(g ρ).bind λy=>m x y
variable{m:D->D->OD}{g:MF1}
def tI(h:m2 m f g ρ=aa d):∃x y,f ρ=aa x/\g ρ=aa y/\m x y=aa d:=by
 unfold m2 at h
 cases n:f ρ with
 |none=>rw[n]at h;cases h
 |some x=>
  cases q:g ρ with
  |none=>rw[n,q]at h;cases h
  |some y=>rw[n,q]at h;exact⟨x,y,rfl,rfl,h⟩
variable{r:R2}
def two(U:∀x y H Q,rD (Gx c X) m x y H Q->r x y H Q)(h:tD (Gx c X) (m2 m f g) σ H Q):tOp r (tD (Gx c X) f) (tD (Gx c X) g) σ H Q:=by
 obtain⟨Hf0,H0,Hf,ρ,d,st,T,k⟩:=h;obtain⟨x,y,I,L,M⟩:=tI T;exact⟨Hf0,H0,Hf,ρ,x,st,I,λv eD H1 z r1=>⟨Hf0,H0,eD,ρ,y,st.step z,L,λu dr H2 q r2=>U _ _ _ _ ⟨dr,x,y,d,q.s,r1.up q.f,r2,M,λw n B x3 r3=>k w n B ((z.trans q).trans x3) r3⟩⟩⟩
def Da(U:∀x y H Q,rD (Gx c X) m x y H Q->r x y H Q)(hs:∀x y d,m x y=aa d->d.scalar=ab)(h:tD (Gx c X) (m2 m f g) σ H Q):tOp r (tDB (Gx c X) f) (tDB (Gx c X) g) σ H Q:=by
 obtain⟨Hf0,H0,Hf,ρ,d,st,T,k⟩:=h;obtain⟨x,y,L,M,q⟩:=tI T
 exact⟨Hf0,H0,Hf,ρ,x,st,L,λv eD H1 z r1=>⟨Hf0,H0,eD,ρ,y,st.step z,M,λu dr H2 n r2=>U _ _ _ _ ⟨H2,x,y,d,av.refl _,r1.up n.h,r2,q,λw I B x3 r3=>
  k w dr B ((z.trans n).trans (Ext.grow n.s x3.h)) (r3.sc (hs _ _ _ q))⟩⟩⟩
variable{a:Expr}
def aK{op:Operator}(q:OpD c X (f9 op) m)(ha:DE c X a f)(n:DE c X b g):DE c X (.BinOp a op b pos) (m2 m f g):=
 PE.imp (Ci q ha n) λ_ _ _ h=>two (λ_ _ _ _ h=>h) h
variable{op:CmpOp}
def fN(q:OpD c X (cC op) m)(z:∀x y d,m x y=aa d->d.scalar=ab)(ha:DB c X a f)(n:DB c X b g)(hm:lX op b=ae:=by first |exact Cm _ |rfl):
  DE c X (.Compare a [op] [b] pos) (m2 m f g):=PE.imp (II q ha n hm) λ_ _ _ h=>Da (λ_ _ _ _ h=>h) z h
abbrev mB(f:MF1)(ρ:LS):Option Bool:=(f ρ).bind λd=>match d with
 |.bl b=>aa b
 | _=>ac
def tJ{b:Bool}(h:mB f ρ=aa b):f ρ=aa (.bl b):=by
 unfold mB at h
 cases e:f ρ with
 |none=>rw[e]at h;cases h
 |some d=>rw[e]at h;cases d <;> cases h;rfl
def bj(z:OpD c X (cC op) m)(B:∀x y d,m x y=aa d->d.scalar=ab)(ha:DB c X a f)(q:DB c X b g)(hm:lX op b=ae:=by first |exact Cm _ |rfl):
  DT c X (.Compare a [op] [b] pos) (mB (m2 m f g)):=PT.imp (IK z ha q hm) λσ H Q I=>by
 obtain ⟨Hf0,H0,Hf,ρ,b,st,n,k⟩:=I;exact (
 Da (λ_ _ _ _ h=>h) B ⟨Hf0,H0,Hf,ρ,.bl b,st,tJ n,λv Hf' H' x r=>⟨b,r,k Hf' H' x⟩⟩)
abbrev qI:D->Option Bool
 |.non=>aa ae
 |.bl b=>aa b
 |.int i=>aa (i != 0)
 |.str x=>if x.length<=16777216 then aa ((x.length:Int) != 0) else ac
 |.lst xs=>aa (!xs.isEmpty)
 |.tup xs=>aa (!xs.isEmpty)
 |.kl xs=>aa (!xs.isEmpty)
 |.kt xs=>aa (!xs.isEmpty)
 |.dic ks _=>aa (!ks.isEmpty)
 | _=>ac
def ao.empty(r:ao G H ds vs):ds.isEmpty=vs.isEmpty:=by
 cases ds with
 |nil=>cases (show vs=[]from r);rfl
 |cons d ds=>obtain⟨v,h,e,_⟩:=r;subst e;rfl
def Kn{n q:Type}{ks:List n}{vs:List q}(h:ks.length=vs.length):(ks.zip vs).isEmpty=ks.isEmpty:=by
 cases ks <;> cases vs <;> first |rfl |cases h
def Ko{b:Bool}(e:qI d=aa b)(r:Rep G H d v):w5 G.K v H b:=by
 cases d with
 |non=>cases e;cases r;rfl
 |bl x=>cases e;cases r;rfl
 |int i=>cases e;cases r;rfl
 |str x=>
  cases r;replace e:(if x.length<=16777216 then aa ((x.length:Int) != 0) else ac)=aa b:=e;split at e
  .rename_i n;cases e;exact⟨by rw[dG];exact n,rfl⟩
  .cases e
 |lst xs=>cases e;obtain⟨a,vs,h,q,r⟩:=r;subst h;exact .inl ⟨vs,SqL.of q,by rw[r.empty]⟩
 |tup xs=>cases e;obtain⟨a,vs,h,q,r⟩:=r;subst h;exact .inr (.inl ⟨vs,SqT.of q,by rw[r.empty]⟩)
 |kl xs=>cases e;obtain⟨a,vs,h,q,r⟩:=r;subst h;exact .inl ⟨vs,q,by rw[r.empty]⟩
 |kt xs=>cases e;obtain⟨a,vs,h,q,r⟩:=r;subst h;exact .inr (.inl ⟨vs,q,by rw[r.empty]⟩)
 |dic ks xs=>cases e;obtain⟨a,vs,h,q,l,r⟩:=r;subst h;exact .inr (.inr ⟨_,q,by rw[Kn l]⟩)
 |ins _ _ _=>cases e
 |kd _ _=>cases e
 |dT _ _=>cases e
abbrev cw(f:MF1)(ρ:LS):Option Bool:=(f ρ).bind qI
def da(ha:DB c X a f)(y:∀h,isTrue a X.env h=(do let v <- h;iI a.pos;fG [v] (truthy v)):=by intro _;rfl):DT c X a (cw f):=
 PT.imp (IQ ha y) λσ H Q z=>by
  obtain⟨Hf0,H0,Hf,ρ,b,st,n,k⟩:=z;unfold cw at n
  cases q:f ρ with
  |none=>rw[q]at n;cases n
  |some d=>
   rw[q]at n;exact⟨Hf0,H0,Hf,ρ,d,st,q,λv Hf' H' x r=>⟨b,Ko n r,k Hf' H' x⟩⟩
abbrev g5(f g:MF4)(ρ:LS):Option Bool:=(f ρ).bind λb=>if b then g ρ else aa ae
abbrev mOr(f g:MF4)(ρ:LS):Option Bool:=(f ρ).bind λb=>if b then aa ab else g ρ
abbrev fc(f:MF4)(ρ:LS):Option Bool:=(f ρ).map not
variable{f:MF4}
def DW.dt(h:DW c X e f):DT c X e f:=PW.pt h
def qJ(h:DT c X a f):DW c X (.BoolOp .And [a] pos) f:=HA h
def lw(h:DT c X a f):DW c X (.BoolOp .Or [a] pos) f:=HB h
def o7{g:MF4}{rest:LEx}(h:DT c X a f)(h':DW c X (.BoolOp .And (b::rest) pos) g):DW c X (.BoolOp .And (a::b::rest) pos) (g5 f g):=PW.imp (HC h h') λσ H Q z=>by
 obtain⟨Hf0,H0,Hf,ρ,b,st,n,k⟩:=z;unfold g5 at n
 cases q:f ρ with
 |none=>rw[q]at n;cases n
 |some x=>
  rw[q]at n;refine⟨Hf0,H0,Hf,ρ,x,st,q,λeD H1 y=>?_⟩
  cases x with
  |true=>rw[if_pos rfl];exact⟨Hf0,H0,eD,ρ,b,st.step y,n,λdr H2 B=>k dr H2 (y.trans B)⟩
  |false=>cases n;rw[if_neg ba];exact k eD H1 y
def ju{g:MF4}{rest:LEx}(h:DT c X a f)(h':DW c X (.BoolOp .Or (b::rest) pos) g):DW c X (.BoolOp .Or (a::b::rest) pos) (mOr f g):=PW.imp (HD h h') λσ H Q z=>by
 obtain⟨Hf0,H0,Hf,ρ,b,st,n,k⟩:=z;unfold mOr at n
 cases q:f ρ with
 |none=>rw[q]at n;cases n
 |some x=>
  rw[q]at n;refine⟨Hf0,H0,Hf,ρ,x,st,q,λeD H1 y=>?_⟩
  cases x with
  |false=>rw[if_neg ba];exact⟨Hf0,H0,eD,ρ,b,st.step y,n,λdr H2 B=>k dr H2 (y.trans B)⟩
  |true=>cases n;rw[if_pos rfl];exact k eD H1 y
def g6(h:DT c X a f):DT c X (.UnaryOp .Not a pos) (fc f):=PT.imp (HE h) λσ H Q y=>by
 obtain⟨Hf0,H0,Hf,ρ,b,st,n,k⟩:=y;unfold fc at n
 cases q:f ρ with
 |none=>rw[q]at n;cases n
 |some x=>
  rw[q]at n;cases n;exact⟨Hf0,H0,Hf,ρ,x,st,q,λeD H1 z=>k eD H1 z⟩
abbrev iT(f g:MF1)(ρ:LS):OD:=(mB f ρ).bind λb=>if b then g ρ else aa (.bl ae)
abbrev vOr(f g:MF1)(ρ:LS):OD:=(mB f ρ).bind λb=>if b then aa (.bl ab) else g ρ
abbrev o8(f:MF1)(ρ:LS):OD:=(mB f ρ).map λb=>.bl (!b)
variable{f:MF1}
def nH{op}(h:DE c X a f):DE c X (.BoolOp op [a] pos) f:=HI h
def o9{rest:LEx}(h:DE c X a f)(h':DE c X (.BoolOp .And (b::rest) pos) g):DE c X (.BoolOp .And (a::b::rest) pos) (iT f g):=PE.imp (HJ h h') λσ H Q z=>by
 obtain⟨Hf0,H0,Hf,ρ,d,st,n,k⟩:=z;unfold iT at n
 cases q:mB f ρ with
 |none=>rw[q]at n;cases n
 |some x=>
  rw[q]at n;refine⟨Hf0,H0,Hf,ρ,.bl x,st,tJ q,λv eD H1 y B=>⟨x,B,?_⟩⟩
  cases x with
  |true=>rw[if_pos rfl];exact⟨Hf0,H0,eD,ρ,d,st.step y,n,λv dr H2 L I=>k v dr H2 (y.trans L) I⟩
  |false=>cases n;rw[if_neg ba];exact k _ eD H1 y rfl
def Db{rest:LEx}(h:DE c X a f)(h':DE c X (.BoolOp .Or (b::rest) pos) g):DE c X (.BoolOp .Or (a::b::rest) pos) (vOr f g):=PE.imp (HK h h') λσ H Q z=>by
 obtain⟨Hf0,H0,Hf,ρ,d,st,n,k⟩:=z;unfold vOr at n
 cases q:mB f ρ with
 |none=>rw[q]at n;cases n
 |some x=>
  rw[q]at n;refine⟨Hf0,H0,Hf,ρ,.bl x,st,tJ q,λv eD H1 y B=>⟨x,B,?_⟩⟩
  cases x with
  |false=>rw[if_neg ba];exact⟨Hf0,H0,eD,ρ,d,st.step y,n,λv dr H2 L I=>k v dr H2 (y.trans L) I⟩
  |true=>cases n;rw[if_pos rfl];exact k _ eD H1 y rfl
def Dc(h:DE c X a f):DE c X (.UnaryOp .Not a pos) (o8 f):=PE.imp (HL h) λσ H Q y=>by
 obtain⟨Hf0,H0,Hf,ρ,d,st,n,k⟩:=y;unfold o8 at n
 cases q:mB f ρ with
 |none=>rw[q]at n;cases n
 |some x=>
  rw[q]at n;cases n;exact⟨Hf0,H0,Hf,ρ,.bl x,st,tJ q,λv eD H1 B z=>⟨x,z,k _ eD H1 B rfl⟩⟩
abbrev vIf(t:MF4)(f g:MF1)(ρ:LS):OD:=(t ρ).bind λb=>if b then f ρ else g ρ
variable{cd:Expr}
def tK{t:MF4}(B:DT c X cd t)(ha:DE c X a f)(z:DE c X b g):DE c X (.IfExp cd a b pos) (vIf t f g):=PE.imp (Cb B ha z) λσ H Q I=>by
 obtain⟨Hf0,H0,Hf,ρ,d,st,h,k⟩:=I;unfold vIf at h
 cases q:t ρ with
 |none=>rw[q]at h;cases h
 |some x=>
  rw[q]at h;refine⟨Hf0,H0,Hf,ρ,x,st,q,λeD H1 n=>?_⟩
  cases x with
  |true=>rw[if_pos rfl];exact⟨Hf0,H0,eD,ρ,d,st.step n,h,λv dr H2 y r=>k v dr H2 (n.trans y) r⟩
  |false=>rw[if_neg ba];exact⟨Hf0,H0,eD,ρ,d,st.step n,h,λv dr H2 y r=>k v dr H2 (n.trans y) r⟩
noncomputable instance {i j:Int}:Decidable (qA i j):=by unfold qA;infer_instance
noncomputable instance {i j:Int}:Decidable (oQ i j):=by unfold oQ;infer_instance
noncomputable instance {i j:Int}:Decidable (qB i j):=by unfold qB;infer_instance
abbrev dI(C:Int->Int->Prop)[∀i j,Decidable (C i j)](g:Int->Int->D):D->D->OD
 |.int i,.int j=>if C i j then aa (g i j) else ac
 | _,_=>ac
abbrev dI0(g:Int->Int->D):D->D->OD
 |.int i,.int j=>aa (g i j)
 | _,_=>ac
abbrev cy:D->D->OD
 |.int i,.int j=>aa (.int (i+j))
 |.str a,.str b=>if a.length+b.length<=16777216 then aa (.str (a++b)) else ac
 |.lst a,.lst b=>if a.length+b.length<=16777216 then aa (.lst (a++b)) else ac
 | _,_=>ac
@[reducible]noncomputable def nI:D->D->OD:=dI0 λi j=>.int (i-j)
@[reducible]noncomputable def iU:D->D->OD:=dI qA λi j=>.int (i / j)
@[reducible]noncomputable def bx:D->D->OD:=dI (λ_ j=>0<j) λi j=>.int (i % j)
@[reducible]noncomputable def xD:D->D->OD:=dI oQ λi j=>.int (i ^ j.toNat)
@[reducible]noncomputable def dLt:D->D->OD:=dI0 λi j=>.bl (decide (i<j))
@[reducible]noncomputable def dLe:D->D->OD:=dI0 λi j=>.bl (decide (i<=j))
@[reducible]noncomputable def dGt:D->D->OD:=dI0 λi j=>.bl (decide (j<i))
@[reducible]noncomputable def dGe:D->D->OD:=dI0 λi j=>.bl (decide (j<=i))
variable{gd:Int->Int->D}
def tL{f:Value->Value->Sem Value}{C:Int->Int->Prop}[∀i j,Decidable (C i j)]{g:Int->Int->V}(h:OpR X f (rI C g))(q:∀G H i j,Rep G H (gd i j) (g i j)):OpD c X f (dI C gd):=by
 rintro pins s σ H U vy v u Q I L M ⟨Hf,x,y,d,T,z,B,e,k⟩;unfold dI at e;split at e
 .split at e
  .rename_i n;cases e;exact h pins s σ H U vy v u Q I L M ⟨_,_,z,B,n,k _ Hf H (Ext.refl T) (q _ _ _ _)⟩
  .cases e
 .cases e
def qK{f:Value->Value->Sem Value}{g:Int->Int->V}(h:OpR X f (rI0 g))(n:∀G H i j,Rep G H (gd i j) (g i j)):OpD c X f (dI0 gd):=by
 rintro pins s σ H T U v u Q I B L ⟨Hf,x,y,d,M,q,z,e,k⟩;unfold dI0 at e;split at e
 .cases e;exact h pins s σ H T U v u Q I B L ⟨_,_,q,z,k _ Hf H (Ext.refl M) (n _ _ _ _)⟩
 .cases e
def fh:OpD c X (f9 .Add) cy:=by
 rintro pins s σ H M T v u Q I B L ⟨Hf,x,y,d,q,h,n,e,k⟩;unfold cy at e;split at e
 .cases e;exact Iu pins s σ H M T v u Q I B L ⟨_,_,h,n,k _ Hf H (Ext.refl q) rfl⟩
 .split at e
  .rename_i z;cases e;exact IR pins s σ H M T v u Q I B L ⟨_,_,h,n,by rw[dG];exact z,k _ Hf H (Ext.refl q) rfl⟩
  .cases e
 .split at e
  .rename_i z;cases e;obtain⟨a,vs,e1,q1,h⟩:=h;obtain⟨b,us,e2,q2,n⟩:=n
   exact CL pins s σ H M T v u Q I B L ⟨a,b,vs,us,e1,e2,q _ _ q1,q _ _ q2,by rw[dG,<- h.length,<- n.length];exact z,
    λp U=>k _ (upd Hf p (.lst (vs++us))) (upd H p (.lst (vs++us))) (Ext.new q U) ⟨p,_,rfl,aZ,(h.append n).up (bP (q.free U))⟩⟩
  .cases e
 .cases e
def tM:OpD c X (f9 .Sub) nI:=qK Iv λ_ _ _ _=>rfl
def lx:OpD c X (f9 .FloorDiv) iU:=tL Iw λ_ _ _ _=>rfl
def ce:OpD c X (f9 .Mod) bx:=tL Ix λ_ _ _ _=>rfl
def Kp:OpD c X (f9 .Pow) xD:=tL Iy λ_ _ _ _=>rfl
def tN:OpD c X (cC .Lt) dLt:=qK IC λ_ _ _ _=>rfl
def Dd:OpD c X (cC .LtE) dLe:=qK ID λ_ _ _ _=>rfl
def xE:OpD c X (cC .Gt) dGt:=qK IE λ_ _ _ _=>rfl
def De:OpD c X (cC .GtE) dGe:=qK IF λ_ _ _ _=>rfl
def tO{g:Int->Int->D}(h:∀i j,(g i j).scalar=ab):∀x y d,dI0 g x y=aa d->d.scalar=ab:=by
 intro x y d e;unfold dI0 at e;split at e
 .cases e;exact h _ _
 .cases e
def tP:∀x y d,dLt x y=aa d->d.scalar=ab:=tO λ_ _=>rfl
def Dg:∀x y d,dLe x y=aa d->d.scalar=ab:=tO λ_ _=>rfl
def xF:∀x y d,dGt x y=aa d->d.scalar=ab:=tO λ_ _=>rfl
def Dh:∀x y d,dGe x y=aa d->d.scalar=ab:=tO λ_ _=>rfl
abbrev Di:D->OD
 |.int i=>aa (.int (-i))
 | _=>ac
abbrev m1(m:D->OD)(f:MF1)(ρ:LS):OD:=(f ρ).bind m
def Kq(ha:DE c X a f):DE c X (.UnaryOp .USub a pos) (m1 Di f):=PE.imp (Ir Iz ha) λσ H Q q=>by
 obtain⟨Hf0,H0,Hf,ρ,d,st,h,k⟩:=q;unfold m1 at h
 cases n:f ρ with
 |none=>rw[n]at h;cases h
 |some y=>
  rw[n]at h
  cases y with
  |int i=>cases h;exact⟨Hf0,H0,Hf,ρ,.int i,st,n,λv Hf' H' x r=>⟨i,r,k _ Hf' H' x rfl⟩⟩
  | _=>cases h
abbrev Dj:D->Bool
 |.non=>ab
 | _=>ae
def Dk{x:D}(r:Rep G H x v):decide (v=.non)=Dj x:=by
 cases x with
 |non=>cases r;rfl
 |bl b=>cases r;rfl
 |int i=>cases r;rfl
 |str x=>cases r;rfl
 |lst _=>obtain⟨a,_,e,_⟩:=r;subst e;rfl
 |tup _=>obtain⟨a,_,e,_⟩:=r;subst e;rfl
 |kl _=>obtain⟨a,_,e,_⟩:=r;subst e;rfl
 |kt _=>obtain⟨a,_,e,_⟩:=r;subst e;rfl
 |dic _ _=>obtain⟨a,_,e,_⟩:=r;subst e;rfl
 |ins _ _ _=>obtain⟨a,_,_,e,_⟩:=r;subst e;rfl
 |kd _ _=>obtain⟨a,_,_,e,_⟩:=r;subst e;rfl
 |dT _ _=>obtain⟨a,_,e,_⟩:=r;subst e;rfl
abbrev isD(x y:D):Option Bool:=match y with
 |.non=>aa (Dj x)
 |.bl b=>match x with
  |.non=>aa ae
  |.bl a=>aa (a==b)
  | _=>ac
 | _=>ac
abbrev dIs(x y:D):OD:=(isD x y).map .bl
abbrev gD(x y:D):OD:=(isD x y).map λb=>.bl (!b)
def fO:OpD c X (cC .Is) dIs:=by
 rintro pins s σ H M L v u Q I q z ⟨Hf,x,y,d,B,h,n,e,k⟩;unfold dIs isD at e
 cases y with
 |non=>
  cases e
  exact IG pins s σ H M L v u Q I q z ⟨n,by rw[Dk h];exact k _ Hf H (Ext.refl B) rfl⟩
 |bl b=>
  cases x with
  |non=>cases e;cases h;exact C3 pins s σ H _ L v u Q I q z ⟨b,n,.inl rfl,k _ Hf H (Ext.refl B) rfl⟩
  |bl a=>cases e;cases h;exact C3 pins s σ H _ L v u Q I q z ⟨b,n,.inr ⟨a,rfl⟩,by rw[qC];exact k _ Hf H (Ext.refl B) rfl⟩
  | _=>cases e
 | _=>cases e
def mi:OpD c X (cC .IsNot) gD:=by
 rintro pins s σ H M L v u Q I q z ⟨Hf,x,y,d,B,h,n,e,k⟩;unfold gD isD at e
 cases y with
 |non=>
  cases e
  exact IH pins s σ H M L v u Q I q z ⟨n,by rw[Dk h];exact k _ Hf H (Ext.refl B) rfl⟩
 |bl b=>
  cases x with
  |non=>cases e;cases h;exact C4 pins s σ H _ L v u Q I q z ⟨b,n,.inl rfl,k _ Hf H (Ext.refl B) rfl⟩
  |bl a=>cases e;cases h;exact C4 pins s σ H _ L v u Q I q z ⟨b,n,.inr ⟨a,rfl⟩,by rw[qC];exact k _ Hf H (Ext.refl B) rfl⟩
  | _=>cases e
 | _=>cases e
def pb{x:Option Bool}{g:Bool->Bool}:∀d,x.map (λb=>D.bl (g b))=aa d->d.scalar=ab:=by
 intro d e
 cases x with
 |none=>cases e
 |some b=>cases e;rfl
def fP:∀x y d,dIs x y=aa d->d.scalar=ab:=λ_ _ d e=>pb (g:=id) d e
def mj:∀x y d,gD x y=aa d->d.scalar=ab:=λ_ _ d e=>pb (g:=not) d e
abbrev eqF:D->D->Bool
 |.non,.non=>ab
 |.bl a,.bl b=>a==b
 |.int a,.int b=>a==b
 |.str a,.str b=>a==b
 | _,_=>ae
abbrev df(f:D->D->Option Bool):LD->LD->Option Bool
 | [],[]=>aa ab
 |x::xs,y::ys=>(f x y).bind λb=>(df f xs ys).map λr=>b && r
 | _,_=>aa ae
abbrev xG:D->D->Bool
 |.bl _,.int _=>ab
 |.int _,.bl _=>ab
 | _,_=>ae
abbrev nJ(f:D->D->Option Bool):D->D->Option Bool
 |.lst xs,.lst ys=>if xs.length=ys.length then df f xs ys else aa ae
 |.tup xs,.tup ys=>if xs.length=ys.length then df f xs ys else ac
 |x,y=>if x.scalar && y.scalar && !xG x y then aa (eqF x y) else ac
abbrev deq:Nat->D->D->Option Bool
 | 0,_,_=>ac
 |n+1,x,y=>nJ (deq n) x y
abbrev dEq(x y:D):OD:=(deq 20 x y).map .bl
abbrev dNe(x y:D):OD:=(deq 20 x y).map λb=>.bl (!b)
def dP:∀x y d,dEq x y=aa d->d.scalar=ab:=λ_ _ d e=>pb (g:=id) d e
def ml:∀x y d,dNe x y=aa d->d.scalar=ab:=λ_ _ d e=>pb (g:=not) d e
variable{x y:D}{xs ys:LD}{b:Bool}
def tQ{f:D->D->Option Bool}(h:df f (x::xs) (y::ys)=aa b):∃n q,f x y=aa n/\df f xs ys=aa q/\b=(n && q):=by
 unfold df at h
 cases z:f x y with
 |none=>rw[z]at h;cases h
 |some n=>
  cases B:df f xs ys with
  |none=>rw[z,B]at h;cases h
  |some q=>rw[z,B]at h;cases h;exact⟨n,q,rfl,rfl,rfl⟩
def nK{f:D->D->Option Bool}:∀{xs ys:LD} {b:Bool},xs.length=ys.length->df f xs ys=aa b->∃e:Nat->Bool,(∀j x y,xs[j]?=aa x->ys[j]?=aa y->f x y=aa (e j))/\(bI xs.length).all e=b
 | [],[],b,_,h=>by cases h;exact⟨λ_=>ab,λj x y e=>by simp at e,rfl⟩
 |x::xs,y::ys,b,hl,h=>by
  obtain⟨q,T,z,B,rfl⟩:=tQ h;obtain⟨e,I,ha⟩:=nK (by simpa using hl) B
  refine⟨λj=>match j with | 0=>q |j+1=>e j,λj L M ex n=>?_,?_⟩
  .cases j with
   |zero=>simp at ex n;subst ex n;exact z
   |succ j=>exact I j L M (by simpa using ex) (by simpa using n)
  .rw[cp,range_succ_eq_map,mQ,sD,<- ha]
   rfl
 | [],_::_,_,hl,_=>by cases hl
 | _::_,[],_,hl,_=>by cases hl
def tR(s:d.scalar=ab):d=.non\/(∃b,d=.bl b)\/(∃i,d=.int i)\/∃z,d=.str z:=by
 cases d with
 |non=>exact .inl rfl
 |bl b=>exact .inr (.inl ⟨b,rfl⟩)
 |int i=>exact .inr (.inr (.inl ⟨i,rfl⟩))
 |str z=>exact .inr (.inr (.inr ⟨z,rfl⟩))
 | _=>cases s
def tS(h:(x.scalar && y.scalar && !xG x y)=ab)(n:Rep G H x v)(q:Rep G H y u):gg v=ab/\gg u=ab/\eqV v u=eqF x y/\wY v u=ab/\decide (v=u)=eqF x y:=by
 rw[cx,cx]at h
 rcases tR h.1.1 with rfl |⟨a,rfl⟩ |⟨a,rfl⟩ |⟨a,rfl⟩ <;> rcases tR h.1.2 with rfl |⟨b,rfl⟩ |⟨b,rfl⟩ |⟨b,rfl⟩ <;> first
  |(cases h.2;done)
  |(cases n;cases q;refine⟨rfl,rfl,rfl,rfl,?_⟩;first |exact qC |exact wZ |exact w4 |rfl)
variable{n:Nat}
def tT(q:¬(∃xs ys,x=.lst xs/\y=.lst ys)/\¬(∃xs ys,x=.tup xs/\y=.tup ys))(h:deq (n+1) x y=aa b):(x.scalar && y.scalar && !xG x y)=ab/\b=eqF x y:=by
 replace h:nJ (deq n) x y=aa b:=h;unfold nJ at h;split at h
 .exact absurd ⟨_,_,rfl,rfl⟩ q.1
 .exact absurd ⟨_,_,rfl,rfl⟩ q.2
 .split at h
  .rename_i z;cases h;exact⟨z,rfl⟩
  .cases h
def Dl:∀(n:Nat) {x y:D} {b:Bool} {v:V},deq n x y=aa b->Rep G H x v->Rep G H y v->b=ab:=by
 intro n
 induction n with
 |zero=>intro x y b v h;cases h
 |succ n ih=>
  have all:∀(xs ys:LD) (vs:List V) (b:Bool),ao G H xs vs->ao G H ys vs->df (deq n) xs ys=aa b->b=ab:=by
   intro xs
   induction xs with
   |nil=>
    intro ys vs b B z h;cases (show vs=[]from B);have:ys=[]:=qh.mp z.length;subst this
    cases h;rfl
   |cons x xs ihx=>
    intro ys vs b B z h;obtain⟨v,r,e,h1,h2⟩:=B;subst e
    cases ys with
    |nil=>cases (show v::r=[]from z)
    |cons y ys=>
     obtain⟨v',r',e,T,U⟩:=z;cases e;obtain⟨b1,b2,e1,e2,rfl⟩:=tQ h;rw[ih e1 h1 T,ihx ys _ b2 h2 U e2];rfl
  intro x y b v h B z
  by_cases hl:∃xs ys,x=.lst xs/\y=.lst ys
  .obtain⟨xs,ys,rfl,rfl⟩:=hl;obtain⟨a,vs,e,q,B⟩:=B;obtain⟨a',md,M,L,z⟩:=z;subst e;cases M;rw[q]at L;cases L;have I:xs.length=ys.length:=B.length.trans z.length.symm;replace h:(if xs.length=ys.length then df (deq n) xs ys else aa ae)=aa b:=h;rw[if_pos I]at h;exact all xs ys vs b B z h
  .by_cases ht:∃xs ys,x=.tup xs/\y=.tup ys
   .obtain⟨xs,ys,rfl,rfl⟩:=ht;obtain⟨a,vs,e,q,B⟩:=B;obtain⟨a',md,M,L,z⟩:=z;subst e;cases M;rw[q]at L;cases L;have I:xs.length=ys.length:=B.length.trans z.length.symm;replace h:(if xs.length=ys.length then df (deq n) xs ys else ac)=aa b:=h;rw[if_pos I]at h;exact all xs ys vs b B z h
   .obtain⟨hs,rfl⟩:=tT ⟨hl,ht⟩ h;obtain⟨_,_,_,_,e⟩:=tS hs B z;rw[<- e];exact decide_eq_true rfl
variable{us:List V}
def pc{s:ai}{its h:LVa}{e:Nat->Bool}(r1:ao G H xs vs)(r2:ao G H ys us)(r:aC vs its)(r':aC us h)
 (he:∀j x y,xs[j]?=aa x->ys[j]?=aa y->deq n x y=aa (e j))
 (ih:∀{x y:D} {b:Bool} {v u:V} {w L:Value},deq n x y=aa b->Rep G H x v->Rep G H y u->aE v w->aE u L->cD A s w L b):
  ∀j (B:j<its.toArray.size) (I:j<h.toArray.size),cD A s its.toArray[j] h.toArray[j] (e j):=λj B I=>by
 have q:j<its.length:=by simpa using B
 have z:j<h.length:=by simpa using I
 obtain⟨v,T,rv⟩:=r.at' (i:=j) (u:=its[j]) (by simp[q]);obtain⟨u,M,ru⟩:=r'.at' (i:=j) (u:=h[j]) (by simp[z]);obtain⟨x,ex,rx⟩:=r1.get' T;obtain⟨y,U,ry⟩:=r2.get' M;exact ih (he j x y ex U) rx ry rv ru
def xH{s:ai}(I:Inv X pins σ H s):∀(n:Nat) {A:cI} {x y:D} {b:Bool} {v u:V} {w w':Value},A.units+n<cLine->deq n x y=aa b->Rep (Gx c X) H x v->Rep (Gx c X) H y u->aE v w->aE u w'->cD A s w w' b:=by
 intro n
 induction n with
 |zero=>intro A x y b v u w w' _ h;cases h
 |succ n ih=>
  intro A x y b v u w w' hu h r1 r2 rv ru;have hin:∀{x y:D} {b:Bool} {v u:V} {w w':Value},deq n x y=aa b->Rep (Gx c X) H x v->Rep (Gx c X) H y u->aE v w->aE u w'->cD A.in1 s w w' b:=λh a b c d=>ih (by rw[oI];lia) h a b c d
  by_cases hl:∃xs ys,x=.lst xs/\y=.lst ys
  .obtain⟨xs,ys,rfl,rfl⟩:=hl;obtain⟨a,vs,e,q,z⟩:=id r1;obtain⟨a',md,e',q',rs2⟩:=id r2;subst e e';cases rv;cases ru
   by_cases L:a=a'
   .subst L;have:=Dl (n+1) h (show Rep (Gx c X) H (.lst xs) (.ref a)from⟨a,vs,rfl,q,z⟩) ⟨a,md,rfl,q',rs2⟩;subst this;exact wL _
   .refine cD.of_refs L ?_;obtain⟨its,rr,pl,hz⟩:=I.list (SqL.of (K:=X.K) q);obtain⟨M,T,U,hz2⟩:=I.list (SqL.of (K:=X.K) q');have l1:=rr.length;have l2:=T.length;have l3:=z.length;have l4:=rs2.length;replace h:(if xs.length=ys.length then df (deq n) xs ys else aa ae)=aa b:=h;split at h
    .rename_i B;obtain⟨ee,he,ha⟩:=nK B h;have:=SeqAt.RcAt.lists (A:=A) (s:=s) pl.isList U.isList (by simp only[size_toArray];lia) (by lia) (pc (A:=A.in1) (s:=s) z rs2 rr T he hin);rw[size_toArray,<- l1,<- l3,ha]at this;exact this
    .rename_i B;cases h;exact SeqAt.RcAt.lists_lengths (A:=A) (s:=s) pl.isList U.isList (by simp only[size_toArray,bne_iff_ne,ne_eq];lia) (by lia)
  .by_cases ht:∃xs ys,x=.tup xs/\y=.tup ys
   .obtain⟨xs,ys,rfl,rfl⟩:=ht;obtain⟨a,vs,e,q,z⟩:=id r1;obtain⟨a',md,e',q',rs2⟩:=id r2;subst e e';cases rv;cases ru
    by_cases L:a=a'
    .subst L;have:=Dl (n+1) h (show Rep (Gx c X) H (.tup xs) (.ref a)from⟨a,vs,rfl,q,z⟩) ⟨a,md,rfl,q',rs2⟩;subst this;exact wL _
    .refine cD.of_refs L ?_;obtain⟨its,rr,pl,hz⟩:=I.tuple (SqT.of (K:=X.K) q);obtain⟨M,T,U,hz2⟩:=I.tuple (SqT.of (K:=X.K) q');have l1:=rr.length;have l2:=T.length;have l3:=z.length;have l4:=rs2.length;replace h:(if xs.length=ys.length then df (deq n) xs ys else ac)=aa b:=h;split at h
     .rename_i B;obtain⟨ee,he,ha⟩:=nK B h;have:=SeqAt.RcAt.tuples (A:=A) (s:=s) (show s.heap.IsTuple a its.toArray from pl) (show s.heap.IsTuple a' M.toArray from U) (by lia) (pc (A:=A.in1) (s:=s) z rs2 rr T he hin);have hsz:its.toArray.size=M.toArray.size:=by simp only[size_toArray];lia
      rw[<- hsz,sH,beq_self_eq_true,Bool.and_true,size_toArray,<- l1,<- l3,ha]at this;exact this
     .cases h
   .obtain⟨hs,rfl⟩:=tT ⟨hl,ht⟩ h;obtain⟨f1,f2,e,_,_⟩:=tS hs r1 r2;rw[<- e];exact CH rv ru f1 f2
def dQ(hu:X.A.units+64<cLine):OpD c X (cC .Eq) dEq:=by
 rintro pins s σ H v u w w' Q I rv ru ⟨Hf,x,y,d,s0,r1,r2,e,k⟩;unfold dEq at e
 cases h:deq 20 x y with
 |none=>rw[h]at e;cases e
 |some b=>
  rw[h]at e;cases e;have q0:=k (.bl b) Hf H (Ext.refl s0) rfl;have fin:EP X pins σ Q (.bool b) s:=⟨.bl b,H,I,rfl,q0⟩;have r1:=r1.up s0;have r2:=r2.up s0;have U:∀{x y:D} {b:Bool} {v u:V} {w w':Value},deq 19 x y=aa b->Rep (Gx c X) H x v->Rep (Gx c X) H y u->aE v w->aE u w'->cD X.A.in1 s w w' b:=λh a b c d=>xH I 19 (by rw[oI];lia) h a b c d
  by_cases hl:∃xs ys,x=.lst xs/\y=.lst ys
  .obtain⟨xs,ys,rfl,rfl⟩:=hl;obtain⟨a,vs,e,q,M⟩:=id r1;obtain⟨a',md,e',q',rs2⟩:=id r2;subst e e';cases rv;cases ru;obtain⟨its,rr,pl,hz⟩:=I.list (SqL.of (K:=X.K) q);obtain⟨B,L,T,hz2⟩:=I.list (SqL.of (K:=X.K) q');have l1:=rr.length;have l2:=L.length;have l3:=M.length;have l4:=rs2.length;replace h:(if xs.length=ys.length then df (deq 19) xs ys else aa ae)=aa b:=h;split at h
   .rename_i z;obtain⟨ee,he,ha⟩:=nK z h;refine SeqAt.eq_listAt pl.isList T.isList (by simp only[size_toArray];lia) (by lia) (pc M rs2 rr L he U) ?_;rw[size_toArray,<- l1,<- l3,ha];exact fin
   .rename_i z;cases h;exact SeqAt.eq_list_lengthsAt pl.isList T.isList (by simp only[size_toArray,bne_iff_ne,ne_eq];lia) (by lia) fin
  .by_cases ht:∃xs ys,x=.tup xs/\y=.tup ys
   .obtain⟨xs,ys,rfl,rfl⟩:=ht;obtain⟨a,vs,e,q,M⟩:=id r1;obtain⟨a',md,e',q',rs2⟩:=id r2;subst e e';cases rv;cases ru;obtain⟨its,rr,pl,hz⟩:=I.tuple (SqT.of (K:=X.K) q);obtain⟨B,L,T,hz2⟩:=I.tuple (SqT.of (K:=X.K) q');have l1:=rr.length;have l2:=L.length;have l3:=M.length;have l4:=rs2.length;replace h:(if xs.length=ys.length then df (deq 19) xs ys else ac)=aa b:=h;split at h
    .rename_i z;obtain⟨ee,he,ha⟩:=nK z h;refine SeqAt.eq_tupleAt (show s.heap.IsTuple a its.toArray from pl) (show s.heap.IsTuple a' B.toArray from T) (by lia) (pc M rs2 rr L he U) ?_;have hsz:its.toArray.size=B.toArray.size:=by simp only[size_toArray];lia
     rw[<- hsz,sH,beq_self_eq_true,Bool.and_true,size_toArray,<- l1,<- l3,ha];exact fin
    .cases h
   .obtain⟨hs,rfl⟩:=tT ⟨hl,ht⟩ h;obtain⟨_,_,_,hsc,e⟩:=tS hs r1 r2;exact IA pins s σ H v u w w' Q I rv ru ⟨hsc,by rw[e];exact q0⟩
def mm(hu:X.A.units+64<cLine):OpD c X (cC .NotEq) dNe:=by
 rintro pins s σ H v u w w' Q I rv ru ⟨Hf,x,y,d,s0,r1,r2,e,k⟩;unfold dNe at e
 cases h:deq 20 x y with
 |none=>rw[h]at e;cases e
 |some b=>
  rw[h]at e;cases e;have q0:=k (.bl (!b)) Hf H (Ext.refl s0) rfl;have fin:EP X pins σ Q (.bool (!b)) s:=⟨.bl (!b),H,I,rfl,q0⟩;have r1:=r1.up s0;have r2:=r2.up s0;have U:∀{x y:D} {b:Bool} {v u:V} {w w':Value},deq 19 x y=aa b->Rep (Gx c X) H x v->Rep (Gx c X) H y u->aE v w->aE u w'->cD X.A.in1 s w w' b:=λh a b c d=>xH I 19 (by rw[oI];lia) h a b c d
  by_cases hl:∃xs ys,x=.lst xs/\y=.lst ys
  .obtain⟨xs,ys,rfl,rfl⟩:=hl;obtain⟨a,vs,e,q,M⟩:=id r1;obtain⟨a',md,e',q',rs2⟩:=id r2;subst e e';cases rv;cases ru;obtain⟨its,rr,pl,hz⟩:=I.list (SqL.of (K:=X.K) q);obtain⟨B,L,T,hz2⟩:=I.list (SqL.of (K:=X.K) q');have l1:=rr.length;have l2:=L.length;have l3:=M.length;have l4:=rs2.length;replace h:(if xs.length=ys.length then df (deq 19) xs ys else aa ae)=aa b:=h;split at h
   .rename_i z;obtain⟨ee,he,ha⟩:=nK z h;refine SeqAt.RcNeAt.lists (A:=X.A) (s:=s) pl.isList T.isList (by simp only[size_toArray];lia) (by lia) (pc M rs2 rr L he U) X.prog X.w X.xe _ ?_;rw[size_toArray,<- l1,<- l3,ha];exact fin
   .rename_i z;cases h;exact SeqAt.RcNeAt.lists_lengths (A:=X.A) (s:=s) pl.isList T.isList (by simp only[size_toArray,bne_iff_ne,ne_eq];lia) (by lia) X.prog X.w X.xe _ fin
  .by_cases ht:∃xs ys,x=.tup xs/\y=.tup ys
   .obtain⟨xs,ys,rfl,rfl⟩:=ht;obtain⟨a,vs,e,q,M⟩:=id r1;obtain⟨a',md,e',q',rs2⟩:=id r2;subst e e';cases rv;cases ru;obtain⟨its,rr,pl,hz⟩:=I.tuple (SqT.of (K:=X.K) q);obtain⟨B,L,T,hz2⟩:=I.tuple (SqT.of (K:=X.K) q');have l1:=rr.length;have l2:=L.length;have l3:=M.length;have l4:=rs2.length;replace h:(if xs.length=ys.length then df (deq 19) xs ys else ac)=aa b:=h;split at h
    .rename_i z;obtain⟨ee,he,ha⟩:=nK z h;refine SeqAt.RcNeAt.tuples (A:=X.A) (s:=s) (show s.heap.IsTuple a its.toArray from pl) (show s.heap.IsTuple a' B.toArray from T) (by lia) (pc M rs2 rr L he U) X.prog X.w X.xe _ ?_;have hsz:its.toArray.size=B.toArray.size:=by simp only[size_toArray];lia
     rw[<- hsz,sH,beq_self_eq_true,Bool.and_true,size_toArray,<- l1,<- l3,ha];exact fin
    .cases h
   .obtain⟨hs,rfl⟩:=tT ⟨hl,ht⟩ h;obtain⟨_,_,_,hsc,e⟩:=tS hs r1 r2;exact IB pins s σ H v u w w' Q I rv ru ⟨hsc,by rw[e];exact q0⟩
abbrev eqX:D->D->Bool
 |.non,.non=>ab
 |.bl a,.bl b=>a==b
 |.bl a,.int b=>(if a then 1 else 0)==b
 |.int a,.bl b=>a==(if b then 1 else 0)
 |.int a,.int b=>a==b
 |.str a,.str b=>a==b
 | _,_=>ae
abbrev inD(x y:D):Option Bool:=(iS y).bind λds=>if x.scalar && ds.all D.scalar then aa (ds.any λd=>eqX d x) else ac
abbrev pf(x y:D):OD:=(inD x y).map λb=>.bl (!b)
def Kr:∀x y d,pf x y=aa d->d.scalar=ab:=λ_ _ d e=>pb (g:=not) d e
def Ks(hx:x.scalar=ab)(h:y.scalar=ab)(q:Rep G H x v)(z:Rep G H y u):gg v=ab/\gg u=ab/\eqV v u=eqX x y:=by
 rcases tR hx with rfl |⟨a,rfl⟩ |⟨a,rfl⟩ |⟨a,rfl⟩ <;> rcases tR h with rfl |⟨b,rfl⟩ |⟨b,rfl⟩ |⟨b,rfl⟩ <;> (cases q;cases z;exact⟨rfl,rfl,rfl⟩)
def Dn{G:Gc}{H:Hp}{x:D}{v:V}(hx:x.scalar=ab)(r:Rep G H x v):∀{ds:LD} {vs:List V},ds.all D.scalar=ab->ao G H ds vs->vs.all gg=ab/\inV v vs=ds.any λd=>eqX d x
 | [],_,_,h=>by cases (show _=[]from h);exact⟨rfl,rfl⟩
 |d::ds,_,ha,q3_=>by
  obtain⟨u,L,e,B,I⟩:=q3_;subst e;rw[mQ,cx]at ha;obtain⟨f1,f2,e⟩:=Ks ha.1 hx B r;obtain⟨z,q⟩:=Dn hx r ha.2 I;refine⟨by rw[mQ,f1,z];rfl,?_⟩;unfold inV at q ⊢;rw[gS,gS,e,q]
def Kt(e:inD x y=aa b)(z:Rep G H x v)(M:Rep G H y u):∃p vs,u=.ref p/\(SqL G.K H p vs\/SqT G.K H p vs)/\gg v=ab/\vs.all gg=ab/\inV v vs=b:=by
 unfold inD at e
 cases es:iS y with
 |none=>rw[es]at e;cases e
 |some ds=>
  rw[es]at e;replace e:(if (x.scalar && ds.all D.scalar)=ab then aa (ds.any λd=>eqX d x) else ac)=aa b:=e;split at e
  .rename_i h;cases e;rw[cx]at h;obtain⟨a,vs,B,q,r⟩:=qH es M;obtain⟨I,L⟩:=Dn h.1 z h.2 r
   have f:gg v=ab:=by cases x <;> first |(cases z;rfl) |(cases h.1)
   exact⟨a,vs,B,q,f,I,L⟩
  .cases e
def Ku:OpD c X (cC .NotIn) pf:=by
 rintro pins s σ H v u w w' Q I U ru ⟨Hf,x,y,d,z,M,T,e,k⟩;unfold pf at e
 cases h:inD x y with
 |none=>rw[h]at e;cases e
 |some b=>
  rw[h]at e;cases e;obtain⟨p,vs,B,q,f1,f2,L⟩:=Kt h (M.up z) (T.up z);refine JG pins s σ H v u w w' Q I U ru ⟨p,vs,B,q,f1,f2,?_⟩;rw[if_pos rfl,L];exact k _ Hf H (Ext.refl z) rfl
def Kv{i:Int}(h:atI ds i=aa d)(r:ao G H ds vs):∃v,atI vs i=aa v/\Rep G H d v:=by
 unfold atI at h ⊢;rw[<- r.length]
 cases e:ixN ds.length i with
 |none=>rw[e]at h;cases h
 |some j=>
  rw[e]at h;exact r.get h
abbrev ixD(ds:LD):D->OD
 |.int k=>atI ds k
 | _=>ac
abbrev mIx(f:MF2)(g:MF1)(ρ:LS):OD:=(f ρ).bind λds=>(g ρ).bind λi=>ixD ds i
variable{b:Expr}
def az{f:MF2}(ha:DC c X a f)(U:DE c X b g)(hs:CF b:=by exact λ_ _=>rfl):DE c X (.Subscript a b pos) (mIx f g):=
 PE.imp (Jw (Jz.or JA) ha U hs) λσ H Q q_=>by
  obtain⟨Hf0,H0,Hf,ρ,d,st,z,k⟩:=q_;unfold mIx at z
  cases B:f ρ with
  |none=>rw[B]at z;cases z
  |some ds=>
   cases L:g ρ with
   |none=>rw[B,L]at z;cases z
   |some i=>
    rw[B,L]at z;replace z:ixD ds i=aa d:=z
    cases i with
    |int n=>
     replace z:atI ds n=aa d:=z;refine⟨Hf0,H0,Hf,ρ,ds,st,B,λl vs eD H1 T q r=>⟨Hf0,H0,eD,ρ,.int n,st.step T,L,λu dr H2 I r2=>?_⟩⟩;cases (show u=V.int n from r2);obtain⟨v,M,rv⟩:=Kv z r;have fin:=k v dr H2 (T.trans I) (rv.up I.f)
     rcases q with q |q
     .exact .inl ⟨l,vs,n,v,rfl,rfl,I.h.seq q,M,fin⟩
     .exact .inr ⟨l,vs,n,v,rfl,rfl,I.h.tup q,M,fin⟩
    | _=>cases z
abbrev nM(xs:LD)(lo hi:Option Int):LD:=(xs.drop (HT.sIx xs.length 0 lo)).take (HT.sIx xs.length xs.length hi-HT.sIx xs.length 0 lo)
abbrev lsD:D->OLD
 |.lst xs=>aa xs
 |.kl xs=>aa xs
 | _=>ac
def j7(e:lsD d=aa ds)(r:Rep G H d v):∃a vs,v=.ref a/\SqL G.K H a vs/\ao G H ds vs:=by
 cases d with
 |lst xs=>cases e;obtain⟨a,vs,h,q,r⟩:=r;exact⟨a,vs,h,SqL.of q,r⟩
 |kl xs=>cases e;obtain⟨a,vs,h,q,r⟩:=r;exact⟨a,vs,h,q,r⟩
 | _=>cases e
abbrev Kw(G:Gc)(f:LS->Option (Option Int)):TO:=λσ H Q=>∃Hf0 H0 Hf ρ i,au G Hf0 H0 Hf H σ ρ/\f ρ=aa i/\∀Hf' H',Ext Hf H Hf' H'->Q i H'
abbrev DPt(c:Str->Addr)(X:Cx)(e:Option Expr)(f:LS->Option (Option Int)):Prop:=PO X e (Kw (Gx c X) f)
def nN:DPt c X ac (λ_=>aa ac):=λpins s σ H Q I q=>by
 obtain⟨Hf0,H0,Hf,ρ,i,st,h,k⟩:=q;exact(Jp pins s σ H Q I (by cases h;exact k Hf H (Ext.refl st.sub)))
abbrev mPt(f:MF1)(ρ:LS):Option (Option Int):=(f ρ).bind λd=>match d with
 |.int i=>aa (aa i)
 | _=>ac
def jw(h:DE c X e f):DPt c X (aa e) (mPt f):=λpins s σ H Q I B=>by
 obtain⟨Hf0,H0,Hf,ρ,i,st,q,k⟩:=B
 exact (Js h pins s σ H Q I (by
 unfold mPt at q
 cases z:f ρ with
 |none=>rw[z]at q;cases q
 |some d=>
  rw[z]at q
  cases d with
  |int n=>cases q;exact⟨Hf0,H0,Hf,ρ,.int n,st,z,λv Hf' H' x r=>⟨n,r,k Hf' H' x⟩⟩
  | _=>cases q))
abbrev mSl(f:MF1)(l h:LS->Option (Option Int))(ρ:LS):OLD:=(f ρ).bind λd=>(lsD d).bind λds=>(l ρ).bind λlo=>(h ρ).map λhi=>nM ds lo hi
def Kx(r:ao G H ds vs)(lo hi:Option Int):ao G H (nM ds lo hi) (mf vs lo hi):=by
 unfold nM mf;rw[r.length];exact(r.drop _).take _
variable{p2:Pos}
def ly{l h:LS->Option (Option Int)}{lo hi:Option Expr}(ha:DE c X e f)(hl:DPt c X lo l)(hh:DPt c X hi h):DO c X (.Subscript e (.Slice lo hi ac p2) pos) (mSl f l h):=
 PE.imp (Jt JF ha hl hh) λσ H Q q_=>by
  obtain⟨Hf0,H0,Hf,ρ,rs,st,z,k⟩:=q_;unfold mSl at z
  cases L:f ρ with
  |none=>rw[L]at z;cases z
  |some d=>
   cases M:lsD d with
   |none=>rw[L]at z;replace z:(lsD d).bind _=_:=z;rw[M]at z;cases z
   |some ds=>
    cases T:l ρ with
    |none=>rw[L]at z;replace z:(lsD d).bind _=_:=z;rw[M,T]at z;cases z
    |some I=>
     cases e4:h ρ with
     |none=>rw[L]at z;replace z:(lsD d).bind _=_:=z;rw[M,T,e4]at z;cases z
     |some B=>
      rw[L]at z;replace z:(lsD d).bind _=_:=z;rw[M,T,e4]at z;cases z;refine⟨Hf0,H0,Hf,ρ,d,st,L,λv eD H1 U r1=>⟨Hf0,H0,eD,ρ,I,st.step U,T,λdr H2 x2=>⟨Hf0,H0,dr,ρ,B,(st.step U).step x2,e4,λh9 H3 x3=>?_⟩⟩⟩;obtain⟨a,vs,ea,q,r⟩:=j7 M r1;subst ea;have x:=(U.trans x2).trans x3;have y:=(x2.trans x3);refine⟨a,vs,rfl,(U.s.trans y.h).seq q,λp hp=>?_⟩;exact k p (mf vs I B) h9 (upd H3 p (.lst (mf vs I B))) (x.trans (Ext.tmp x.s hp)) (x.h.free hp) (x.s.free hp) aZ (Kx (r.up y.f) _ _)
abbrev rCD(G:Gc)(m:LD->OD):List V->Hp->VK->Prop:=λvs H Q=>∃Hf ds d,av Hf H/\ao G Hf ds vs/\m ds=aa d/\∀v Hf' H',Ext Hf H Hf' H'->Rep G Hf' d v->Q v H'
nonrec abbrev nO(c:Str->Addr)(X:Cx)(f:Value)(m:LD->OD):Prop:=iw X f (rCD (Gx c X) m)
abbrev aB(m:LD->OD)(f:MF2)(ρ:LS):OD:=(f ρ).bind m
variable{m:LD->OD}{f:MF2}
def tU(h:aB m f ρ=aa d):∃ds,f ρ=aa ds/\m ds=aa d:=by
 unfold aB at h
 cases e:f ρ with
 |none=>rw[e]at h;cases h
 |some ds=>rw[e]at h;exact⟨ds,rfl,h⟩
variable{p:Pos}{x:Str}
def Ky{id:String}(L:nO c X (.builtin id) m)(T:Gl X x)(hm:X.mg x=ac)(hv:jf x=aa (.builtin id))(ha:DA c X (e::es) f)(hn:x ≠ "__name__":=by decide)(h:NDb x:=by decide)
 (M:StE X e es:=by rfl)(q:BkE X pos es:=by rfl):
  DE c X (.Call (.Name x p) (e::es) [] pos) (aB m f):=PE.imp (xh L T hm hv ha.pa hn h M q) λσ H Q U=>by
 obtain⟨Hf0,H0,Hf,ρ,d,st,I,k⟩:=U;obtain⟨ds,z,B⟩:=tU I;exact⟨Hf0,H0,Hf,ρ,ds,st,z,λvs Hf' H' x r=>⟨Hf',ds,d,x.s,r,B,λv dr H2 x2 r2=>k v dr H2 (x.trans x2) r2⟩⟩
def dB{id:String}(M:nO c X (.builtin id) m)(hs:∀ds d,m ds=aa d->d.scalar=ab)(U:Gl X x)(hm:X.mg x=ac)(hv:jf x=aa (.builtin id))(ha:DAB c X (e::es) f)(hn:x ≠ "__name__":=by decide)(q:NDb x:=by decide)
 (T:StE X e es:=by rfl)(z:BkE X pos es:=by rfl):
  DE c X (.Call (.Name x p) (e::es) [] pos) (aB m f):=PE.imp (xh M U hm hv ha.pa hn q T z) λσ H Q q_=>by
 obtain⟨Hf0,H0,Hf,ρ,d,st,L,k⟩:=q_;obtain⟨ds,I,B⟩:=tU L;exact⟨Hf0,H0,Hf,ρ,ds,st,I,λvs Hf' H' x r=>⟨H',ds,d,av.refl _,r,B,λv dr H2 x2 r2=>k v Hf' H2 (x.trans (Ext.grow x.s x2.h)) (r2.sc (hs _ _ B))⟩⟩
abbrev dC:LD->OD
 | [.lst xs]=>aa (.int xs.length)
 | [.tup xs]=>aa (.int xs.length)
 | [.kl xs]=>aa (.int xs.length)
 | [.kt xs]=>aa (.int xs.length)
 | [.str x]=>if x.length<=16777216 then aa (.int x.length) else ac
 | _=>ac
def ao.one(r:ao G H [d] vs):∃v,vs=[v]/\Rep G H d v:=by
 obtain⟨v,z,e,h,q⟩:=r;cases (show z=[]from q);exact⟨v,e,h⟩
def ao.two{d':D}(r:ao G H [d,d'] vs):∃v z,vs=[v,z]/\Rep G H d v/\Rep G H d' z:=by
 obtain⟨v,I,e,h,q⟩:=r;obtain⟨z,B,h'⟩:=q.one;subst B;exact⟨v,z,e,h,h'⟩
def Do(e:dC ds=aa d):∃q,ds=[q]/\((∃xs,iS q=aa xs/\d=.int xs.length)\/∃x,q=.str x/\x.length<=16777216/\d=.int x.length):=by
 cases ds with
 |nil=>cases e
 |cons q ds=>
  cases ds with
  |cons _ _=>cases q <;> cases e
  |nil=>
   refine⟨q,rfl,?_⟩
   cases q with
   |lst xs=>cases e;exact .inl ⟨xs,rfl,rfl⟩
   |tup xs=>cases e;exact .inl ⟨xs,rfl,rfl⟩
   |kl xs=>cases e;exact .inl ⟨xs,rfl,rfl⟩
   |kt xs=>cases e;exact .inl ⟨xs,rfl,rfl⟩
   |str x=>
    replace e:(if x.length<=16777216 then aa (D.int x.length) else ac)=aa d:=e
    by_cases h:x.length<=16777216
    .rw[if_pos h]at e;cases e;exact .inr ⟨x,rfl,h,rfl⟩
    .rw[if_neg h]at e;cases e
   | _=>cases e
def eQ:nO c X (.builtin "len") dC:=by
 rintro pins s σ H vs us Q I U ⟨Hf,ds,d,T,r,e,k⟩
 have sq:∀(h:D) (xs:LD),ds=[h]->iS h=aa xs->d=.int xs.length->wpAny (model X.prog X.w) X.A (call (.builtin "len") us) (EP X pins σ Q) X.xe s:=λh xs B es e0=>by
  subst B e0;obtain⟨v,z,M⟩:=r.one;subst z;obtain⟨a,ws,L,q,rs⟩:=qH es M;subst L;refine JH pins s σ H _ us Q I U ⟨a,ws,rfl,xC T q,?_⟩;rw[<- rs.length];exact k _ Hf H (Ext.refl T) rfl
 obtain⟨h,B,⟨xs,z,L⟩ |⟨x,rfl,hl,rfl⟩⟩:=Do e
 .exact sq h xs B z L
 .subst B;obtain⟨v,z,M⟩:=r.one;subst z;exact JI pins s σ H _ us Q I U ⟨_,by rw[show v=V.str _ from M],by rw[dG];exact hl,k _ Hf H (Ext.refl T) rfl⟩
def eR:∀ds d,dC ds=aa d->d.scalar=ab:=by
 intro ds d e
 obtain⟨h,z,⟨xs,q,rfl⟩ |⟨x,rfl,B,rfl⟩⟩:=Do e <;> rfl
abbrev g7:LD->Option (List Int)
 | []=>aa []
 |.int i::ds=>(g7 ds).map λr=>i::r
 | _=>ac
def Dr{G:Gc}{H:Hp}:∀{ds:LD} {ns:List Int} {vs:List V},g7 ds=aa ns->ao G H ds vs->vs=ns.map V.int
 | [],_,_,e,r=>by cases e;exact r
 |.int i::ds,_,_,e,q4_=>by
  obtain⟨v,B,h,q,z⟩:=q4_;subst h
  cases es:g7 ds with
  |none=>rw[g7,es]at e;cases e
  |some ns=>
   rw[g7,es]at e;cases e;rw[Dr es z,show v=V.int i from q]
   rfl
 |.non::_,_,_,e,_=>by cases e
 |.bl _::_,_,_,e,_=>by cases e
 |.str _::_,_,_,e,_=>by cases e
 |.lst _::_,_,_,e,_=>by cases e
 |.tup _::_,_,_,e,_=>by cases e
 |.kl _::_,_,_,e,_=>by cases e
 |.kt _::_,_,_,e,_=>by cases e
 |.dic _ _::_,_,_,e,_=>by cases e
 |.ins _ _ _::_,_,_,e,_=>by cases e
def Kz(ns:List Int):g7 (ns.map D.int)=aa ns:=by
 induction ns with
 |nil=>rfl
 |cons n ns h=>rw[bp,g7,h];rfl
abbrev jx:LD->OD
 | [d]=>(lsD d).bind λds=>(g7 ds).map λns=>.int ns.sum
 | _=>ac
def xI(U:X.calm=ab):nO c X (.builtin "sum") jx:=by
 rintro pins s σ H vs us Q I rv ⟨Hf,ds,d,B,r,e,k⟩;unfold jx at e;split at e
 .rename_i L
  cases h:lsD L with
  |none=>rw[h]at e;cases e
  |some xs=>
   cases z:g7 xs with
   |none=>rw[h]at e;replace e:(g7 xs).map _=_:=e;rw[z]at e;cases e
   |some ns=>
    rw[h]at e;replace e:(g7 xs).map _=_:=e;rw[z]at e;cases e;obtain⟨v,T,r1⟩:=r.one;subst T;obtain⟨a,ws,M,q,rs⟩:=j7 h r1;subst M;refine Kf U pins s σ H _ us Q I rv ⟨a,ns,rfl,?_,k _ Hf H (Ext.refl B) rfl⟩;rw[<- Dr z rs];exact B.seq q
 .cases e
def xJ:∀ds d,jx ds=aa d->d.scalar=ab:=by
 intro ds d e;unfold jx at e;split at e
 .rename_i z
  cases h:lsD z with
  |none=>rw[h]at e;cases e
  |some xs=>
   rw[h]at e;replace e:(g7 xs).map _=_:=e
   cases q:g7 xs with
   |none=>rw[q]at e;cases e
   |some ns=>rw[q]at e;cases e;rfl
 .cases e
def j8(hx:jf x=aa (.type "list"))(T:Gl X x)(hm:X.mg x=ac)(ha:DC c X e f)(L:aO [e] X.env=(ae,eval e X.env)::aO [] X.env:=by rfl)(hn:x ≠ "__name__":=by decide)(z:NDb x:=by decide)
 (I:(cr pos (aO [] X.env)).any (·.1)=ae:=by rfl):DO c X (.Call (.Name x p) [e] [] pos) f:=
 PE.imp (Jl JJ T hm hx (dz ha c8 L) hn z L I) λσ H Q U=>by
 obtain⟨Hf0,H0,Hf,ρ,ds,st,M,k⟩:=U
 exact (
  ⟨Hf0,H0,Hf,ρ,ds,st,M,λa vs Hf' H' x q r=>⟨a,vs,rfl,q,λl B=>k l vs Hf' (upd H' l (.lst vs)) (x.trans (Ext.tmp x.s B)) (x.h.free B) (x.s.free B) aZ r⟩⟩)
abbrev tyN:D->Option String
 |.non=>aa "NoneType"
 |.bl _=>aa "bool"
 |.int _=>aa "int"
 |.str _=>aa "str"
 |.lst _=>aa "list"
 |.tup _=>aa "tuple"
 |.dic _ _=>aa "dict"
 | _=>ac
abbrev xK(T:String)(d:D):OD:=(tyN d).map λt=>.bl (t==T || (t == "bool" && T == "int"))
def KA{t:String}(e:tyN d=aa t)(r:Rep G H d v):gY G.K H v (.type t):=by
 cases d with
 |non=>cases e;cases r;exact .non
 |bl b=>cases e;cases r;exact .bl b
 |int i=>cases e;cases r;exact .int i
 |str x=>cases e;cases r;exact .str x
 |lst xs=>cases e;obtain⟨a,vs,h,q,r⟩:=r;subst h;exact .lst q
 |tup xs=>cases e;obtain⟨a,vs,h,q,r⟩:=r;subst h;exact .tup q
 |dic ks xs=>cases e;obtain⟨a,vs,h,q,l,r⟩:=r;subst h;exact .dK q
 | _=>cases e
abbrev lz(K:aV)(T:String):Prop:=∀t∈["NoneType","bool","int","str","list","tuple","dict"],W.kitOne K (.type t) (.type T)=aa (t==T || (t == "bool" && T == "int"))
def KB{t:String}(e:tyN d=aa t):t∈["NoneType","bool","int","str","list","tuple","dict"]:=by
 cases d <;> first |(cases e;decide) |cases e
abbrev jy(T:String)(f:MF1)(ρ:LS):OD:=(f ρ).bind (xK T)
def lA{f:MF1}{T:String}{q:Pos}{y:Str}(hk:lz X.K T)(hg:Gl X "isinstance")(hm:X.mg "isinstance"=ac)(hy:jf y=aa (.type T))(L:Gl X y)(M:X.mg y=ac)(ha:DB c X e f)
 (hs:aO [e,.Name y q] X.env=(ae,eval e X.env)::aO [.Name y q] X.env:=by rfl)(hs2:aO [.Name y q] X.env=(ae,eval (.Name y q) X.env)::aO [] X.env:=by rfl)
 (hn:y ≠ "__name__":=by decide)(I:(y==("__debug__":Str))=ae:=by decide)(U:(cr pos (aO [.Name y q] X.env)).any (·.1)=ae:=by rfl):
  DE c X (.Call (.Name "isinstance" p) [e,.Name y q] [] pos) (jy T f):=
 PE.imp (xh Kg hg hm boot_isinstance (dz ha (dz (Hw (v:=.ty T) L M hy rfl hn I) c8 hs2) hs) (by decide) (by decide) hs U) λσ H Q q_=>by
  obtain⟨Hf0,H0,Hf,ρ,d,st,h,k⟩:=q_;unfold jy at h
  cases B:f ρ with
  |none=>rw[B]at h;cases h
  |some x=>
   rw[B]at h;replace h:xK T x=aa d:=h;unfold xK at h
   cases z:tyN x with
   |none=>rw[z]at h;cases h
   |some t=>
    rw[z]at h;cases h;exact⟨Hf0,H0,Hf,ρ,x,st,B,λv Hf' H' x1 r=>⟨v,T,.type t,_,rfl,KA z r,hk t (KB z),k _ Hf' H' x1 rfl⟩⟩
abbrev tDG(G:Gc)(g:D->LS->Option LS):TG:=λv σ H Q=>∃Hf0 H0 Hf ρ d ρ',au G Hf0 H0 Hf H σ ρ/\Rep G Hf d v/\g d ρ=aa ρ'/\∀h,au G Hf0 H0 Hf H h ρ'->Q h H
abbrev KC(G:Gc)(g:LD->LS->Option LS):TGs:=λvs σ H Q=>∃Hf0 H0 Hf ρ ds ρ',au G Hf0 H0 Hf H σ ρ/\ao G Hf ds vs/\g ds ρ=aa ρ'/\∀h,au G Hf0 H0 Hf H h ρ'->Q h H
structure DG(c:Str->Addr)(X:Cx)(tg:Expr)(k:Nat)(g:D->LS->Option LS):Prop where
 pg:PG X tg (tDG (Gx c X) g)
 len:∀d ρ ρ',g d ρ=aa ρ'->ρ'.length=ρ.length
 keep:∀d ρ ρ' i,g d ρ=aa ρ'->k<=i->ρ'[i]?=ρ[i]?
structure DGs(c:Str->Addr)(X:Cx)(tg:LEx)(k:Nat)(g:LD->LS->Option LS):Prop where
 pg:PGs X tg (KC (Gx c X) g)
 len:∀d ρ ρ',g d ρ=aa ρ'->ρ'.length=ρ.length
 keep:∀d ρ ρ' i,g d ρ=aa ρ'->k<=i->ρ'[i]?=ρ[i]?
 many:∀ds ρ ρ',g ds ρ=aa ρ'->ds.length=tg.length
abbrev aG(i:Nat)(d:D)(ρ:LS):Option LS:=aa (ρ.set i (.im d))
def Ds(h:PG X e (gX i))(L:i<k):DG c X e k (aG i):=
 ⟨PG.imp h λv σ H Q B=>by obtain⟨Hf0,H0,Hf,ρ,d,ρ',st,r,z,q⟩:=B;cases z;exact q _ (st.setIm r),λd ρ ρ' h=>by cases h;simp,λd ρ ρ' j h I=>by
  cases h;rw[kH (by lia)]⟩
def cW(i k:Nat)(h:X.N.Nodup)(z:i<k:=by decide)(hi:X.N[i]?=aa x:=by rfl)(hx:Loc X.env.scope x:=by first |exact b7 rfl |exact bB rfl)(q:LcF X x:=by first |exact .inl rfl |exact .inr rfl):DG c X (.Name x pos) k (aG i):=
 Ds (wR h hi hx q) z
abbrev fQ(ds:LD)(ρ:LS):Option LS:=match ds with
 | []=>aa ρ
 | _=>ac
abbrev b8(g:D->LS->Option LS)(h:LD->LS->Option LS)(ds:LD)(ρ:LS):Option LS:=match ds with
 |d::ds=>(g d ρ).bind λq=>h ds q
 | []=>ac
def g8:DGs c X [] k fQ:=by
 refine⟨PGs.imp HW λvs σ H Q B=>?_,λd ρ ρ' h=>?_,λd ρ ρ' i h _=>?_,λd ρ ρ' h=>?_⟩
 .obtain⟨Hf0,H0,Hf,ρ,ds,ρ',st,r,z,q⟩:=B
  cases ds with
  |nil=>cases z;exact⟨r,q _ st⟩
  |cons d ds=>cases z
 .cases d with
  |nil=>cases h;rfl
  |cons a b=>cases h
 .cases d with
  |nil=>cases h;rfl
  |cons a b=>cases h
 .cases d with
  |nil=>cases h;rfl
  |cons a b=>cases h
variable{h:LD->LS->Option LS}
def tV{g:D->LS->Option LS}(e:b8 g h ds ρ=aa ρ'):∃d r q,ds=d::r/\g d ρ=aa q/\h r q=aa ρ':=by
 cases ds with
 |nil=>cases e
 |cons d r=>
  replace e:(g d ρ).bind _=_:=e
  cases z:g d ρ with
  |none=>rw[z]at e;cases e
  |some q=>rw[z]at e;exact⟨d,r,q,rfl,z,e⟩
def cS{g:D->LS->Option LS}(T:DG c X e k g)(M:DGs c X es k h)(hs:(jg (e::es) X.env).map (·.2)=iJ e X.env::(jg es X.env).map (·.2):=by rfl):DGs c X (e::es) k (b8 g h):=by
 refine⟨PGs.imp (HX T.pg M.pg hs) λvs σ H Q q_=>?_,λd ρ ρ' h=>?_,λd ρ ρ' i h hi=>?_,λd ρ ρ' h=>?_⟩
 .obtain⟨Hf0,H0,Hf,ρ,ds,ρ',st,r,eg,q⟩:=q_;obtain⟨d,L,z,rfl,I,B⟩:=tV eg;obtain⟨v,vr,ev,rv,rr⟩:=r;exact⟨v,vr,ev,Hf0,H0,Hf,ρ,d,z,st,rv,I,λσ1 U=>⟨Hf0,H0,Hf,z,L,ρ',U,rr,B,q⟩⟩
 .obtain⟨d,L,z,rfl,I,B⟩:=tV h;rw[M.len _ _ _ B,T.len _ _ _ I]
 .obtain⟨d,L,z,rfl,I,B⟩:=tV h;rw[M.keep _ _ _ _ B hi,T.keep _ _ _ _ I hi]
 .obtain⟨d,L,z,rfl,I,B⟩:=tV h;rw[cp,cp,M.many _ _ _ B]
abbrev tpD:D->OLD
 |.tup xs=>aa xs
 |.kt xs=>aa xs
 | _=>ac
def Dt(e:tpD d=aa ds)(r:Rep G H d v):∃a vs,v=.ref a/\SqT G.K H a vs/\ao G H ds vs:=by
 cases d with
 |tup xs=>cases e;obtain⟨a,vs,z,q,r⟩:=r;exact⟨a,vs,z,SqT.of q,r⟩
 |kt xs=>cases e;obtain⟨a,vs,z,q,r⟩:=r;exact⟨a,vs,z,q,r⟩
 | _=>cases e
abbrev eS(g:LD->LS->Option LS)(d:D)(ρ:LS):Option LS:=(tpD d).bind λds=>g ds ρ
def xL{g:LD->LS->Option LS}(h:eS g d ρ=aa ρ'):∃ds,tpD d=aa ds/\g ds ρ=aa ρ':=by
 unfold eS at h
 cases e:tpD d with
 |none=>rw[e]at h;cases h
 |some ds=>rw[e]at h;exact⟨ds,rfl,h⟩
variable{kk:Nat}
def g9{g:LD->LS->Option LS}(U:X.calm=ab)(h:DGs c X es k g)(hn:(jg es X.env).length=es.length:=by rfl)(I:(jg es X.env).findIdx? (·.1)=ac:=by rfl):DG c X (.Tuple es kk pos) k (eS g):=by
 refine⟨PG.imp (HZ U h.pg hn I) λv σ H Q q_=>?_,λd ρ ρ' h'=>?_,λd ρ ρ' i h' hi=>?_⟩
 .obtain⟨Hf0,H0,Hf,ρ,d,ρ',st,r,T,q⟩:=q_;obtain⟨ds,B,z⟩:=xL T;obtain⟨a,vs,M,qa,L⟩:=Dt B r;exact⟨a,vs,M,st.sub.tup qa,by rw[<- L.length];exact h.many _ _ _ z,Hf0,H0,Hf,ρ,ds,ρ',st,L,z,q⟩
 .obtain⟨ds,B,z⟩:=xL h';exact h.len _ _ _ z
 .obtain⟨ds,B,z⟩:=xL h';exact h.keep _ _ _ _ z hi
abbrev qL(G:Gc)(Hf:Hp)(J:It)(ds:LD):Prop:=∀Hf' H',av Hf Hf'->av Hf' H'->∀i:Nat,
 (∀d,ds[i]?=aa d->J.go i H'/\∀x H2,J.yld i H' x H2->∃dr,Ext Hf' H' dr H2/\Rep G dr d x)/\(i=ds.length->J.stop i H')
abbrev tW(G:Gc)(Hf H:Hp)(J:It)(ds:LD):Prop:=∀Hf' H',Ext Hf H Hf' H'->∀i:Nat,
 (∀d,ds[i]?=aa d->J.go i H'/\∀x H2,J.yld i H' x H2->∃dr,Ext Hf' H' dr H2/\Rep G dr d x)/\(i=ds.length->J.stop i H')
def qL.toE(h:qL G Hf J ds):tW G Hf H J ds:=λHf' H' x i=>h Hf' H' x.f x.s i
abbrev tDI(G:Gc)(f:MF2):TI:=λσ H R=>∃Hf0 H0 Hf ρ ds,au G Hf0 H0 Hf H σ ρ/\f ρ=aa ds/\∀J Hf' H',Ext Hf H Hf' H'->qL G Hf' J ds->R J H'
abbrev Du(G:Gc)(f:MF2):TI:=λσ H R=>∃Hf0 H0 Hf ρ ds,au G Hf0 H0 Hf H σ ρ/\f ρ=aa ds/\∀J Hf' H',Ext Hf H Hf' H'->tW G Hf' H' J ds->R J H'
abbrev DI(c:Str->Addr)(X:Cx)(tg iter:Expr)(f:MF2):Prop:=PI X tg iter (tDI (Gx c X) f)
abbrev DIe(c:Str->Addr)(X:Cx)(tg iter:Expr)(f:MF2):Prop:=PI X tg iter (Du (Gx c X) f)
def DI.de(h:DI c X tg e f):DIe c X tg e f:=PI.imp h λσ H R z=>by
 obtain⟨Hf0,H0,Hf,ρ,ds,st,q,k⟩:=z;exact(⟨Hf0,H0,Hf,ρ,ds,st,q,λJ Hf' H' x i=>k J Hf' H' x i.toE⟩)
def Dv(q:SqL G.K H l vs)(r:ao G Hf ds vs):tW G Hf H (Itl G.K l) ds:=λHf' H' B i=>by
 have z:SqL G.K H' l vs:=B.h.seq q;refine⟨λd M=>?_,λT=>⟨vs,z,by rw[<- r.length,T];exact aL _⟩⟩;obtain⟨v,I,U⟩:=r.get M;refine⟨⟨vs,v,z,I⟩,λx H2 ⟨L,y⟩=>?_⟩;subst L;have:=y vs z;rw[I]at this;cases this;exact⟨Hf',Ext.refl B.s,U.up B.f⟩
def KD(q:SqT G.K Hf l vs)(r:ao G Hf ds vs):qL G Hf (Itt G.K l) ds:=λHf' H' f s i=>by
 have z:SqT G.K H' l vs:=(f.trans s).tup q;refine⟨λd L=>?_,λM=>⟨vs,z,by rw[<- r.length,M];exact aL _⟩⟩;obtain⟨v,B,T⟩:=r.get L;refine⟨⟨vs,v,z,B⟩,λx H2 ⟨I,y⟩=>?_⟩;subst I;have:=y vs z;rw[B]at this;cases this;exact⟨Hf',Ext.refl s,T.up f⟩
def bL{f:MF1}(h:DE c X e f):DI c X tg e (a9 f):=λpins s σ H R I q_=>by
 obtain⟨Hf0,H0,Hf,ρ,ds,st,z,k⟩:=q_;unfold a9 at z
 cases B:f ρ with
 |none=>rw[B]at z;cases z
 |some d=>
  rw[B]at z;replace z:iS d=aa ds:=z;have un:∀{l:Addr} {H':Hp} {us vs:List V},SqL X.K H' l us->SqL X.K H' l vs->us=vs\/True:=λ_ _=>.inr trivial
  cases L:lsD d with
  |some M=>
   have:M=ds:=by cases d <;> first |(cases L;done) |(cases L;cases z;rfl)
   subst this;refine wV h pins s σ H R I ⟨Hf0,H0,Hf,ρ,d,st,B,λv Hf' H' x r=>?_⟩;obtain⟨a,vs,U,q,rs⟩:=j7 L r
   exact⟨a,U,⟨vs,x.s.seq q⟩,k _ Hf' H' x λdr H2 f2 s2 i=>by
    have q':SqL X.K H2 a vs:=(f2.trans s2).seq q;refine⟨λd ed=>?_,λei=>⟨vs,q',by rw[<- rs.length,ei];exact aL _⟩⟩;obtain⟨v,ev,rv⟩:=rs.get ed;refine⟨⟨vs,v,q',ev⟩,λx H3 ⟨T,y⟩=>?_⟩;subst T;have:=y vs q';rw[ev]at this;cases this
    exact⟨dr,Ext.refl s2,rv.up f2⟩⟩
  |none=>
   have T:tpD d=aa ds:=by cases d <;> first |(cases L;done) |(cases z;done) |(cases z;rfl)
   refine Ik h pins s σ H R I ⟨Hf0,H0,Hf,ρ,d,st,B,λv Hf' H' x r=>?_⟩;obtain⟨a,vs,U,q,rs⟩:=Dt T r;exact⟨a,U,⟨vs,x.s.tup q⟩,k _ Hf' H' x (KD q rs)⟩
abbrev rng(lo:Int)(n:Nat):LD:=(bI n).map λ(i:Nat)=>.int (lo+i)
def KE{lo:Int}:qL G Hf (Itr lo n) (rng lo n):=λHf' H' f s i=>by
 refine⟨λd q=>?_,λz=>?_⟩
 .unfold rng at q;rw[cA]at q
  cases e:(bI n)[i]? with
  |none=>rw[e]at q;cases q
  |some j=>
   rw[e]at q;obtain⟨hi,B⟩:=dq.mp e;rw[cT]at hi;rw[List.getElem_range]at B;subst B;cases q;exact⟨hi,λx H2 ⟨I,y⟩=>by subst I;exact⟨Hf',Ext.refl s,y⟩⟩
 .unfold rng at z;rw[aH,cT]at z;exact Nat.le_of_eq z.symm
abbrev xM:LD->OLD
 | [.int j]=>if -(2 ^ 62)<=j/\j<2 ^ 62 then aa (rng 0 j.toNat) else ac
 | [.int i,.int j]=>if -(2 ^ 62)<=i/\i<2 ^ 62/\-(2 ^ 62)<=j/\j<2 ^ 62 then aa (rng i (j-i).toNat) else ac
 | _=>ac
abbrev iV(f:MF2)(ρ:LS):OLD:=(f ρ).bind xM
def ph(M:Gl X "range")(hm:X.mg "range"=ac)(ha:DA c X [a] f)(U:aO [a] X.env=[(ae,eval a X.env)]:=by rfl):DI c X tg (.Call (.Name "range" p) [a] [] pos) (iV f):=
 PI.imp (Io M hm ha.pa U) λσ H R q_=>by
  obtain⟨Hf0,H0,Hf,ρ,ds,st,q,k⟩:=q_;unfold iV at q
  cases z:f ρ with
  |none=>rw[z]at q;cases q
  |some B=>
   rw[z]at q;replace q:xM B=aa ds:=q;have T:=ha.len ρ B z;refine⟨Hf0,H0,Hf,ρ,B,st,z,λvs Hf' H' x r=>?_⟩;unfold xM at q;split at q
   .split at q
    .rename_i j I;cases q;obtain⟨v,L,rv⟩:=r.one;cases (show v=V.int j from rv);exact⟨j,L,I.1,I.2,k _ Hf' H' x KE⟩
    .cases q
   .cases T
   .cases q
abbrev xN:LD->OLD
 | [x,y]=>(lsD x).bind λxs=>(lsD y).map λys=>lS (λa b=>.tup [a,b]) xs ys
 | _=>ac
abbrev tX(f:MF2)(ρ:LS):OLD:=(f ρ).bind xN
def KF(hg:Gl X "zip")(hm:X.mg "zip"=ac)(ha:DA c X [a,b] f)(hs:aO [a,b] X.env=[(ae,eval a X.env),(ae,eval b X.env)]:=by rfl)(hs2:aO [b] X.env=[(ae,eval b X.env)]:=by rfl):
  DI c X (.Tuple j0 kx pw) (.Call (.Name "zip" p) [a,b] [] pos) (tX f):=
 PI.imp (Kk hg hm ha.pa hs hs2) λσ H R q_=>by
  obtain⟨Hf0,H0,Hf,ρ,ds,st,q,k⟩:=q_;unfold tX at q
  cases U:f ρ with
  |none=>rw[U]at q;cases q
  |some as=>
   rw[U]at q;replace q:xN as=aa ds:=q;refine⟨Hf0,H0,Hf,ρ,as,st,U,λvs Hf' H' x r=>?_⟩;unfold xN at q;split at q
   .rename_i dx dy
    cases ex:lsD dx with
    |none=>rw[ex]at q;cases q
    |some xs=>
     rw[ex]at q;replace q:(lsD dy).map _=_:=q
     cases ey:lsD dy with
     |none=>rw[ey]at q;cases q
     |some ys=>
      rw[ey]at q;cases q;obtain⟨v,v',ev,rv,rv'⟩:=r.two;obtain⟨l1,M,el1,q1,r1⟩:=j7 ex rv;obtain⟨l2,T,el2,q2,r2⟩:=j7 ey rv';subst el1 el2;refine⟨l1,l2,ev,⟨M,x.s.seq q1⟩,⟨T,x.s.seq q2⟩,k _ Hf' H' x λdr H2 f2 s2 i=>?_⟩;have g1:SqL X.K H2 l1 M:=(f2.trans s2).seq q1;have g2:SqL X.K H2 l2 T:=(f2.trans s2).seq q2;have h1:=r1.length;have h2:=r2.length;refine⟨λd B=>?_,λei=>⟨M,T,g1,g2,?_⟩⟩
      .rw[List.getElem?_zipWith]at B
       cases hx:xs[i]? with
       |none=>rw[hx]at B;cases B
       |some x'=>
        cases hy:ys[i]? with
        |none=>rw[hx,hy]at B;cases B
        |some y'=>
         rw[hx,hy]at B;cases B;obtain⟨u1,I,ru1⟩:=r1.get hx;obtain⟨u2,L,ru2⟩:=r2.get hy;refine⟨⟨M,T,u1,u2,g1,g2,I,L⟩,λz H3 ⟨pp,z1,z2,ez,hp,eh,y1,y2⟩=>?_⟩;subst ez eh;have a1:=y1 M g1;have a2:=y2 T g2;rw[I]at a1;cases a1;rw[L]at a2;cases a2;exact⟨upd dr pp (.tup [u1,u2]),Ext.new s2 hp,pp,[u1,u2],rfl,aZ,.cons (ru1.up (f2.trans (bP (s2.free hp)))) (.cons (ru2.up (f2.trans (bP (s2.free hp)))) .nil)⟩
      .rw[length_zipWith]at ei
       by_cases hh:xs.length<=ys.length
       .exact .inl (by lia)
       .exact .inr (by lia)
   .cases q
abbrev eB(k:Nat)(js:LN)(ρ:LS):LS:=jS k .no++js.map λj=>(ρ[j]?).getD .no
def au.weak(h:au G Hf0 H0 Hf H σ ρ)(z:ρ'.length=ρ.length)(q:∀(i:Nat) (s:Sl),ρ'[i]?=aa s->s=.no\/ρ[i]?=aa s):au G Hf0 H0 Hf H σ ρ':=by
 refine h.re h.ext z (λi v s a b=>?_) λi s v a b c p=>?_
 .rcases q i s b with e |e
  .subst e;trivial
  .exact h.at' i v s a e
 .rcases q i s b with e |e
  .subst e;exact(p.calm rfl).elim
  .exact⟨s,e,p⟩
def tY{q:Type}{x:q}{l:List q}{y:q}(h:(jS k x++l)[i]?=aa y):(i<k/\y=x)\/(k<=i/\l[i-k]?=aa y):=by
 by_cases hi:i<k
 .left;rw[lR (by simpa using hi),wm,if_pos hi]at h;exact⟨hi,(cN h).symm⟩
 .right;rw[lQ (by simpa using mR hi),sA]at h;exact⟨mR hi,h⟩
def nP{q z:Type}{f:q->z}{l:List q}{y:z}(h:(l.map f)[i]?=aa y):∃x,l[i]?=aa x/\y=f x:=by
 rw[cA]at h
 cases e:l[i]? with
 |none=>rw[e]at h;cases h
 |some x=>rw[e]at h;exact⟨x,rfl,(cN h).symm⟩
def KG(h:js.Nodup){x:Nat}(a:js[i]?=aa x)(b:js[j]?=aa x):i=j:=by
 obtain⟨B,q⟩:=dq.mp a;obtain⟨I,z⟩:=dq.mp b;exact(List.getElem_inj h).mp (q.trans z.symm)
def au.comp(k:Nat)(h:au G Hf0 H0 Hf H σ ρ)(hj:js.Nodup):au G Hf0 H0 Hf H (jp k js σ) (eB k js ρ):=by
 have own:∀(i:Nat) (s:Sl),(eB k js ρ)[i]?=aa s->s.calm=ae->∃j,k<=i/\js[i-k]?=aa j/\ρ[j]?=aa s:=λi s a U=>by
  rcases tY a with⟨_,e⟩ |⟨hi,a⟩
  .subst e;cases U
  .obtain⟨j,B,es⟩:=nP a
   cases e:ρ[j]? with
   |none=>rw[e]at es;subst es;cases U
   |some t=>rw[e]at es;replace es:s=t:=es;subst es;exact⟨j,hi,B,e⟩
 have val:∀(i:Nat) (v:Option V) (j:Nat),(jp k js σ)[i]?=aa v->k<=i->js[i-k]?=aa j->v=(σ[j]?).getD ac:=λi v j a hi B=>by
  rcases tY a with⟨hi',_⟩ |⟨_,a⟩
  .omega
  .obtain⟨j',I,es⟩:=nP a;rw[B]at I;cases I;exact es
 refine⟨h.ext,by simp[jp,eB],λi v s a b=>?_,λi j s t y z l a b c d p q=>?_⟩
 .rcases tY b with⟨_,e⟩ |⟨hi,b⟩
  .subst e;trivial
  .obtain⟨j,B,es⟩:=nP b;have T:=val i v j a hi B
   cases e:ρ[j]? with
   |none=>rw[e]at es;subst es;trivial
   |some t=>
    rw[e]at es;replace es:s=t:=es;subst es;obtain⟨u,eu,q⟩:=h.slot e;rw[eu]at T;replace T:v=u:=T;subst T;exact q
 .have U:s.calm=ae:=by
   cases hc:s.calm with
   |true=>exact(p.calm hc).elim
   |false=>rfl
  have ht:t.calm=ae:=by
   cases hc:t.calm with
   |true=>exact(q.calm hc).elim
   |false=>rfl
  obtain⟨i',hi,ei,e1⟩:=own i s a U;obtain⟨j',hj',B,e2⟩:=own j t b ht;have v1:=val i _ i' c hi ei;have v2:=val j _ j' d hj' B;obtain⟨u1,L,_⟩:=h.slot e1;obtain⟨u2,M,_⟩:=h.slot e2;rw[L]at v1;rw[M]at v2;replace v1:aa y=u1:=v1;replace v2:aa z=u2:=v2;subst v1 v2;have:=h.dj i' j' s t y z l e1 e2 L M p q;subst this;have:=KG hj ei B;lia
abbrev fj(h:D->Option OD):LD->OLD
 | []=>aa []
 |d::ds=>(h d).bind λo=>(fj h ds).map λr=>match o with
  |some y=>y::r
  |none=>r
def KH{h:D->Option OD}{r:LD}(e:fj h (d::ds)=aa r):∃o q,h d=aa o/\fj h ds=aa q/\r=(match o with |some y=>y::q |none=>q):=by
 unfold fj at e
 cases z:h d with
 |none=>rw[z]at e;cases e
 |some o=>
  cases B:fj h ds with
  |none=>rw[z,B]at e;cases e
  |some q=>
   rw[z,B]at e;cases e;refine⟨o,q,rfl,rfl,?_⟩
   cases o <;> rfl
abbrev fR(g:D->LS->Option LS)(ft:MF4)(fe:MF1)(ρ:LS)(d:D):Option OD:=(g d ρ).bind λq=>(ft q).bind λb=>if b then (fe q).map aa else aa ac
abbrev bu(k:Nat)(js:LN)(fi:MF2)(g:D->LS->Option LS)(ft:MF4)(fe:MF1)(ρ:LS):OLD:=
 (fi ρ).bind λds=>if ds.length<=16777216 then fj (fR g ft fe (eB k js ρ)) ds else ac
def xO{q:Type}{l:List q}(h:i<l.length):∃x,l[i]?=aa x/\l.drop i=x::l.drop (i+1):=⟨l[i],by simp[h],(drop_eq_getElem_cons h)⟩
abbrev DTs(c:Str->Addr)(X:Cx)(hY:LEx)(f:MF4):Prop:=PTs X hY (tDT (Gx c X) f)
def eC:DTs c X [] kY:=PTs.imp Kb λσ H Q z=>by
 obtain⟨Hf0,H0,Hf,ρ,b,st,q,k⟩:=z;exact(by cases q;exact k Hf H (Ext.refl st.sub))
def iW{f:MF4}(h:DT c X e f):DTs c X [e] f:=Kc h
variable{g:D->LS->Option LS}{ft:MF4}{fe:MF1}{rs:LD}
def Dw(hj:js.Nodup)(hk:∀d ρ ρ' i,g d ρ=aa ρ'->k<=i->ρ'[i]?=ρ[i]?)(hlen:∀d ρ ρ',g d ρ=aa ρ'->ρ'.length=ρ.length){ti:TI}(st:au G Hf0 H0 Hf H σ ρ)
 (hti:∀R:It->Hp->Prop,(∀J eD H1,Ext Hf H eD H1->tW G eD H1 J ds->R J H1)->ti σ H R)(hz:ds.length<=16777216)(ef:fj (fR g ft fe (eB k js ρ)) ds=aa rs)
 (kq:∀l vs Hf' H',Ext Hf H Hf' H'->H l=ac->Hf' l=ac->H' l=aa (.lst vs)->ao G Hf' rs vs->Q (.ref l) H'):oX k js ti (tDG G g) (tDT G ft) (tD G fe) σ H Q:=by
 refine hti _ λJ eD H1 x1 it=>?_
 refine⟨λi m ys σ' H'=>m=ds.length-i/\i<=ds.length/\∃Hf' L rest,Ext eD H1 Hf' H'/\au G Hf0 H0 Hf' H' σ' (eB k js ρ)/\ao G Hf' L ys/\fj (fR g ft fe (eB k js ρ)) (ds.drop i)=aa rest/\rs=L++rest/\L.length<=i,
  ⟨ds.length,rfl,c4 _,eD,[],rs,Ext.refl x1.s,(st.step x1).comp k hj,rfl,ef,rfl,aL _⟩,?_⟩
 rintro i m ys σ' H' ⟨rfl,hi,Hf',L,rest,x2,li,ra,ec,er,hal⟩;have hys:ys.length<=aR:=by rw[dG,<- ra.length];lia
 obtain⟨it1,it2⟩:=it Hf' H' x2 i
 by_cases T:i<ds.length
 .obtain⟨d,ed,edr⟩:=xO T;obtain⟨go,yl⟩:=it1 d ed
  refine .inr ⟨go,hys,λys' σ2 H2=>ds.length-(i+1)=ds.length-(i+1)/\i+1<=ds.length/\∃Hf' L rest,Ext eD H1 Hf' H2/\au G Hf0 H0 Hf' H2 σ2 (eB k js ρ)/\ao G Hf' L ys'/\fj (fR g ft fe (eB k js ρ)) (ds.drop (i+1))=aa rest/\rs=L++rest/\L.length<=i+1,
   λys' σ2 H2 w=>⟨ds.length-(i+1),by lia,w⟩,λx H2 y=>?_⟩
  obtain⟨dr,x3,rx⟩:=yl x H2 y;rw[edr]at ec;obtain⟨o,r',q,ec',I⟩:=KH ec;unfold fR at q
  cases eg:g d (eB k js ρ)with
  |none=>rw[eg]at q;cases q
  |some z=>
   rw[eg]at q;replace q:(ft z).bind _=_:=q
   cases et:ft z with
   |none=>rw[et]at q;cases q
   |some b=>
    rw[et]at q;replace q:(if b=ab then (fe z).map aa else aa ac)=aa o:=q;refine⟨Hf0,H0,dr,eB k js ρ,d,z,li.step x3,rx,eg,λσ3 M=>⟨Hf0,H0,dr,z,b,M,et,λU H4 x4=>?_⟩⟩
    have back:∀{B H5:Hp},au G Hf0 H0 B H5 σ3 z->au G Hf0 H0 B H5 σ3 (eB k js ρ):=λ{B H5} s5=>s5.weak (hlen _ _ _ eg).symm λj s hs=>by
     rcases tY hs with⟨_,e⟩ |⟨hj',_⟩
     .exact .inl e
     .exact .inr (by rw[hk _ _ _ _ eg hj'];exact hs)
    cases b with
    |true=>
     rw[if_pos rfl]at q;refine xq ?_
     cases ee:fe z with
     |none=>rw[ee]at q;cases q
     |some y'=>
      rw[ee]at q;cases q;refine⟨Hf0,H0,U,z,y',M.step x4,ee,λv B H5 x5 r5=>?_⟩;have x:=(x3.trans x4).trans x5;refine⟨rfl,T,B,L++[y'],r',x2.trans x,back ((M.step x4).step x5),(ra.up x.f).append (.cons r5 .nil),ec',?_,by rw[a8,dW];lia⟩;rw[er,I,fZ]
      rfl
    |false=>
     rw[if_neg ba]at q;refine xp ?_;cases q;have x:=x3.trans x4;exact⟨rfl,T,U,L,r',x2.trans x,back (M.step x4),ra.up x.f,ec',by rw[er,I],by lia⟩
 .have ei:i=ds.length:=by lia
  subst ei;refine .inl ⟨it2 rfl,hys,λl h1 h2=>?_⟩;rw[drop_eq_nil_of_le (aL _)]at ec;cases ec;rw[cB]at er;subst er;have x:=x1.trans x2;exact kq l ys Hf' (upd H' l (.lst ys)) (x.trans (Ext.tmp x.s h2)) (x.h.free h2) (x.s.free h2) aZ ra
variable{fi:MF2}
def xP(L:js.Nodup)(M:∀d ρ ρ' i,g d ρ=aa ρ'->k<=i->ρ'[i]?=ρ[i]?)(B:∀d ρ ρ',g d ρ=aa ρ'->ρ'.length=ρ.length)(h:tDO G (bu k js fi g ft fe) σ H Q):
  oX k js (Du G fi) (tDG G g) (tDT G ft) (tD G fe) σ H Q:=by
 obtain⟨Hf0,H0,Hf,ρ,rs,st,z,T⟩:=h;unfold bu at z
 cases I:fi ρ with
 |none=>rw[I]at z;cases z
 |some ds=>
  rw[I]at z;replace z:(if ds.length<=16777216 then fj (fR g ft fe (eB k js ρ)) ds else ac)=aa rs:=z
  by_cases hz:ds.length<=16777216
  .rw[if_pos hz]at z;exact Dw L M B st (λR q=>⟨Hf0,H0,Hf,ρ,ds,st,I,λJ eD H1 U it=>q J eD H1 U it⟩) hz z T
  .rw[if_neg hz]at z;cases z
def dg(k:Nat)(js:LN)(Nc:LSt)(B:X.calm=ab)(hi:DIe c X tg iter fi)(q:∀cl C ex eL fy,DG c (X.comp scope Nc cl C ex eL fy) tg k g)(T:∀cl C ex eL fy,DTs c (X.comp scope Nc cl C ex eL fy) hY ft)
 (I:∀cl C ex eL fy,DE c (X.comp scope Nc cl C ex eL fy) h6 fe)(z:nG scope X.env.scope.names X.N Nc k js=ab:=by rfl)(M:∀x,mT iter X.env x=pure x:=by intro _;rfl)(L:js.Nodup:=by decide):
  DO c X (.ListComp h6 [⟨tg,iter,hY,0⟩] scope pos) (bu k js fi g ft fe):=
 PE.imp (Ke (g:=tDG (Gx c X) g) (tt:=tDT (Gx c X) ft) (te:=tD (Gx c X) fe) k js Nc B hi (λcl C ex eL fy=>(q cl C ex eL fy).pg) T I z M) λσ H Q h=>
  xP L (q [] 0 [] X.s₀ X.H₀).keep (q [] 0 [] X.s₀ X.H₀).len h
def dvc(i:Nat)(z:Nc[i]?=aa x:=by rfl)(hv:Vis scope x:=by first |exact b7 rfl |exact bB (b7 rfl) |exact bB (bB rfl))(hd:NDb x:=by decide)
 (q:NCd x:=by decide):DE c (X.comp scope Nc cl C ex eL fy) (.Name x pos) (af i):=C7 (pvc i z hv hd q)
def KI(i:Nat)(z:Nc[i]?=aa x:=by rfl)(hv:Vis scope x:=by first |exact b7 rfl |exact bB (b7 rfl) |exact bB (bB rfl))(hd:NDb x:=by decide)
 (q:NCd x:=by decide):DB c (X.comp scope Nc cl C ex eL fy) (.Name x pos) (g4 i):=C9 (pvc i z hv hd q)
def fS(i:Nat)(z:Nc[i]?=aa x:=by rfl)(hv:Vis scope x:=by first |exact b7 rfl |exact bB (b7 rfl) |exact bB (bB rfl))(hd:NDb x:=by decide)
 (q:NCd x:=by decide):DC c (X.comp scope Nc cl C ex eL fy) (.Name x pos) (ar i):=C8 (pvc i z hv hd q)
def dgc(i k:Nat)(z:i<k:=by decide)(q:Nc.Nodup:=by decide +kernel)(hi:Nc[i]?=aa x:=by rfl)(B:scope.names.lookup x=aa .local:=by rfl):DG c (X.comp scope Nc cl C ex eL fy) (.Name x pos) k (aG i):=
 Ds (pgc i q hi B) z
inductive Fl where
 |nx (ρ:LS)
 |bk (ρ:LS)
 |ct (ρ:LS)
 |rt (d:D)
 |rtO (ds:LD)
 |rtS (d:D) (ρ:LS)
 |rtT (o:O)
nonrec abbrev MF3:=LS->Option Fl
abbrev tZ(G:Gc)(Hf0 H0 Hf:Hp)(E:j6):Fl->Prop
 |.nx ρ'=>∀q Hf' H',av Hf Hf'->au G Hf0 H0 Hf' H' q ρ'->E.nx q H'
 |.bk ρ'=>∀q Hf' H',av Hf Hf'->au G Hf0 H0 Hf' H' q ρ'->E.bk q H'
 |.ct ρ'=>∀q Hf' H',av Hf Hf'->au G Hf0 H0 Hf' H' q ρ'->E.ct q H'
 |.rt d=>∀v Hf' H',Ext Hf0 H0 Hf' H'->Rep G Hf' d v->E.rt v H'
 |.rtO ds=>∀l vs Hf' H',Ext Hf0 H0 Hf' H'->H0 l=ac->Hf' l=ac->H' l=aa (.lst vs)->ao G Hf' ds vs->E.rt (.ref l) H'
 |.rtS d ρ=>∀v q Hf' H',au G Hf0 H0 Hf' H' q ρ->Rep G Hf' d v->E.rt v H'
 |.rtT o=>∀u fp Hf' H',Ext Hf0 H0 Hf' H'->OT G Hf' H' o u fp->fp.Nodup->(∀a∈fp,H0 a=ac/\Hf' a=ac)->E.rt u H'
abbrev tDS(G:Gc)(F:MF3):TS:=λE σ H=>∃Hf0 H0 Hf ρ o,au G Hf0 H0 Hf H σ ρ/\F ρ=aa o/\tZ G Hf0 H0 Hf E o
abbrev DS(c:Str->Addr)(X:Cx)(st:Stmt)(F:MF3):Prop:=PS X st (tDS (Gx c X) F)
abbrev DSs(c:Str->Addr)(X:Cx)(st:List Stmt)(F:MF3):Prop:=PSs X st (tDS (Gx c X) F)
abbrev bQ(ρ:LS):Option Fl:=aa (.nx ρ)
abbrev ap(F q:MF3)(ρ:LS):Option Fl:=(F ρ).bind λo=>match o with
 |.nx ρ'=>q ρ'
 |o=>aa o
abbrev bz(t:MF4)(F q:MF3)(ρ:LS):Option Fl:=(t ρ).bind λb=>if b then F ρ else q ρ
abbrev bm(i:Nat)(f:MF1)(ρ:LS):Option Fl:=(f ρ).map λd=>.nx (ρ.set i (.im d))
abbrev fm(i:Nat)(f:MF2)(ρ:LS):Option Fl:=(f ρ).map λd=>.nx (ρ.set i (.own d))
abbrev bd(f:MF1)(ρ:LS):Option Fl:=(f ρ).map .rt
abbrev dk(f:MF2)(ρ:LS):Option Fl:=(f ρ).map .rtO
abbrev hE(i:Nat)(ρ:LS):Option Fl:=match ρ[i]? with
 |some (.im d)=>aa (.rt d)
 |some (.own xs)=>aa (.rtO xs)
 | _=>ac
abbrev iX(g:D->LS->Option LS)(F:MF3):LD->MF3
 | [],ρ=>aa (.nx ρ)
 |d::ds,ρ=>(g d ρ).bind λz=>(F z).bind λo=>match o with
  |.nx q=>iX g F ds q
  |.ct q=>iX g F ds q
  |.bk q=>aa (.nx q)
  |.rt d=>aa (.rt d)
  |.rtO d=>aa (.rtO d)
  |.rtS d q=>aa (.rtS d q)
  |.rtT o=>aa (.rtT o)
abbrev cX(fi:MF2)(g:D->LS->Option LS)(F:MF3)(ρ:LS):Option Fl:=(fi ρ).bind λds=>iX g F ds ρ
abbrev iz(t:MF4)(F:MF3):Nat->MF3
 | 0,_=>ac
 |n+1,ρ=>(t ρ).bind λb=>if b then (F ρ).bind λo=>match o with
   |.nx q=>iz t F n q
   |.ct q=>iz t F n q
   |.bk q=>aa (.nx q)
   |.rt d=>aa (.rt d)
   |.rtO d=>aa (.rtO d)
   |.rtS d q=>aa (.rtS d q)
   |.rtT o=>aa (.rtT o)
  else aa (.nx ρ)
abbrev xQ(i:Nat)(ρ:LS):LS:=match ρ[i]? with
 |some (.own xs)=>ρ.set i (.im (.lst xs))
 |some (.ownd ks xs)=>ρ.set i (.im (.dic ks xs))
 |some (.obj c ns xs)=>ρ.set i (.im (.ins c ns xs))
 | _=>ρ
abbrev gE(i:Nat)(F:MF3)(ρ:LS):Option Fl:=F (xQ i ρ)
abbrev hJ(i:Nat)(f:MF1)(ρ:LS):Option Fl:=(f ρ).bind λd=>match ρ[i]? with
 |some (.own xs)=>if xs.length<16777216 then aa (.nx (ρ.set i (.own (xs++[d])))) else ac
 | _=>ac
abbrev qM(f:MF1)(ρ:LS):OLD:=(f ρ).bind λd=>match d with
 |.lst xs=>aa xs
 | _=>ac
abbrev qN(i:Nat)(f:MF2)(ρ:LS):Option Fl:=(f ρ).bind λds=>match ρ[i]? with
 |some (.own xs)=>if xs.length+ds.length<=16777216 then aa (.nx (ρ.set i (.own (xs++ds)))) else ac
 | _=>ac
def bY:DSs c X [] bQ:=PSs.imp Cc λE σ H z=>by
 obtain⟨Hf0,H0,Hf,ρ,o,B,q,k⟩:=z;exact(by cases q;exact k σ Hf H (av.refl _) B)
def tZ.up{E:j6}{o:Fl}(h:tZ G Hf0 H0 Hf E o)(s:av Hf Hf'):tZ G Hf0 H0 Hf' E o:=by
 cases o with
 |nx ρ=>exact λz dr H2 s2 q=>h z dr H2 (s.trans s2) q
 |bk ρ=>exact λz dr H2 s2 q=>h z dr H2 (s.trans s2) q
 |ct ρ=>exact λz dr H2 s2 q=>h z dr H2 (s.trans s2) q
 |rt d=>exact h
 |rtO d=>exact h
 |rtS d ρ=>exact h
 |rtT o=>exact h
variable{st:Stmt}{sts:List Stmt}{F F':MF3}
def aw(L:DS c X st F)(M:DSs c X sts F'):DSs c X (st::sts) (ap F F'):=PSs.imp (sW L M) λE σ H T=>by
 obtain⟨Hf0,H0,Hf,ρ,o,U,q,k⟩:=T;unfold ap at q
 cases B:F ρ with
 |none=>rw[B]at q;cases q
 |some o1=>
  rw[B]at q;refine⟨Hf0,H0,Hf,ρ,o1,U,B,?_⟩
  cases o1 with
  |nx z=>exact λσ1 eD H1 s1 I=>⟨Hf0,H0,eD,z,o,I,q,k.up s1⟩
  |bk z=>cases q;exact k
  |ct z=>cases q;exact k
  |rt d=>cases q;exact k
  |rtO d=>cases q;exact k
  |rtS d z=>cases q;exact k
  |rtT o'=>cases q;exact k
def aq(q:DS c X st F):DSs c X [st] F:=Cd q
variable{a b:List Stmt}{t:MF4}
def bU(M:DT c X cd t)(ha:DSs c X a F)(L:DSs c X b F'):DS c X (.If cd a b pos) (bz t F F'):=PS.imp (HS M ha L) λE σ H T=>by
 obtain⟨Hf0,H0,Hf,ρ,o,I,q,k⟩:=T;unfold bz at q
 cases B:t ρ with
 |none=>rw[B]at q;cases q
 |some x=>
  rw[B]at q;refine⟨Hf0,H0,Hf,ρ,x,I,B,λeD H1 z=>?_⟩
  cases x with
  |true=>rw[if_pos rfl];exact⟨Hf0,H0,eD,ρ,o,I.step z,q,k.up z.f⟩
  |false=>rw[if_neg ba];exact⟨Hf0,H0,eD,ρ,o,I.step z,q,k.up z.f⟩
def Dx{f:MF1}(I:PS X st (iP te (gX i)))(hi:∀σ H Q,tD (Gx c X) f σ H Q->te σ H Q):DS c X st (bm i f):=PS.imp I λE σ H L=>by
 obtain⟨Hf0,H0,Hf,ρ,o,B,q,k⟩:=L;unfold bm at q
 cases z:f ρ with
 |none=>rw[z]at q;cases q
 |some d=>
  rw[z]at q;cases q;exact hi _ _ _ ⟨Hf0,H0,Hf,ρ,d,B,z,λv Hf' H' x r=>k _ Hf' H' x.f ((B.step x).setIm r)⟩
def Dy(M:PS X st (iP te (gX i)))(hi:∀σ H Q,tDO (Gx c X) f σ H Q->te σ H Q):DS c X st (fm i f):=PS.imp M λE σ H T=>by
 obtain⟨Hf0,H0,Hf,ρ,o,B,q,k⟩:=T;unfold fm at q
 cases z:f ρ with
 |none=>rw[z]at q;cases q
 |some d=>
  rw[z]at q;cases q;exact hi _ _ _ ⟨Hf0,H0,Hf,ρ,d,B,z,λl vs Hf' H' x hn I L r=>k _ Hf' H' x.f (B.setOwn (s:=.own d) rfl x hn I ⟨vs,L,r⟩)⟩
def bR(i:Nat){f:MF1}(q:X.N.Nodup)(z:DE c X e f)(hi:X.N[i]?=aa x:=by rfl)(hx:Loc X.env.scope x:=by first |exact b7 rfl |exact bB rfl)(I:gx e (aa (.Name x eH)) pos.line X.env=pure ae:=by rfl)(B:LcF X x:=by first |exact .inl rfl |exact .inr rfl):
  DS c X (.Assign [.Name x eH] e pos) (bm i f):=Dx (nA q hi hx z I B) λ_ _ _ h=>h
def j9(i:Nat)(q:X.N.Nodup)(z:DO c X e f)(hi:X.N[i]?=aa x:=by rfl)(hx:Loc X.env.scope x:=by first |exact b7 rfl |exact bB rfl)(I:gx e (aa (.Name x eH)) pos.line X.env=pure ae:=by rfl)(B:LcF X x:=by first |exact .inl rfl |exact .inr rfl):
  DS c X (.Assign [.Name x eH] e pos) (fm i f):=Dy (nA q hi hx z I B) λ_ _ _ h=>h
def KJ(h:tD G (aI f) σ H Q):tDO G f σ H Q:=by
 obtain⟨Hf0,H0,Hf,ρ,d,st,q,k⟩:=h;unfold aI at q
 cases z:f ρ with
 |none=>rw[z]at q;cases q
 |some ds=>
  rw[z]at q;have q:D.lst ds=d:=cN q;subst q;exact⟨Hf0,H0,Hf,ρ,ds,st,z,λl vs Hf' H' x hn B I r=>k _ (upd Hf' l (.lst vs)) H' (x.fix hn B I) ⟨l,vs,rfl,aZ,r.up (bP B)⟩⟩
def KL(i:Nat)(k:Nat)(js:LN)(Nc:LSt)(L:X.N.Nodup)(M:X.calm=ab)(hi:DIe c X tg iter fi)
 (q:∀cl C ex eL fy,DG c (X.comp scope Nc cl C ex eL fy) tg k g)(ht:∀cl C ex eL fy,DTs c (X.comp scope Nc cl C ex eL fy) hY ft)(T:∀cl C ex eL fy,DE c (X.comp scope Nc cl C ex eL fy) h6 fe)
 (z:X.N[i]?=aa x:=by rfl)(hx:Loc X.env.scope x:=by first |exact b7 rfl |exact bB rfl)
 (B:gx (.ListComp h6 [⟨tg,iter,hY,0⟩] scope pos) (aa (.Name x eH)) kv.line X.env=pure ab:=by rfl)
 (I:nG scope X.env.scope.names X.N Nc k js=ab:=by rfl)(hs:∀x,mT iter X.env x=pure x:=by intro _;rfl)(hj:js.Nodup:=by decide)
 (U:LcF X x:=by first |exact .inl rfl |exact .inr rfl):
  DS c X (.Assign [.Name x eH] (.ListComp h6 [⟨tg,iter,hY,0⟩] scope pos) kv) (fm i (bu k js fi g ft fe)):=
 Dy (xB (g:=tDG (Gx c X) g) (tt:=tDT (Gx c X) ft) (te:=tD (Gx c X) fe) k js Nc L z hx M hi (λcl C ex eL fy=>(q cl C ex eL fy).pg) ht T B I hs U) λσ H Q h=>xP hj (q [] 0 [] X.s₀ X.H₀).keep (q [] 0 [] X.s₀ X.H₀).len h
def t4(i:Nat)(k:Nat)(js:LN)(Nc:LSt)(L:X.N.Nodup)(M:X.calm=ab)(hi:DIe c X tg iter fi)
 (q:∀cl C ex eL fy,DG c (X.comp scope Nc cl C ex eL fy) tg k g)(ht:∀cl C ex eL fy,DTs c (X.comp scope Nc cl C ex eL fy) hY ft)(T:∀cl C ex eL fy,DE c (X.comp scope Nc cl C ex eL fy) h6 fe)
 (z:X.N[i]?=aa x:=by rfl)(hx:Loc X.env.scope x:=by first |exact b7 rfl |exact bB rfl)
 (B:gx (.ListComp h6 [⟨tg,iter,hY,0⟩] scope pos) (aa (.Name x eH)) kv.line X.env=pure ab:=by rfl)
 (I:nG scope X.env.scope.names X.N Nc k js=ab:=by rfl)(hs:∀x,mT iter X.env x=pure x:=by intro _;rfl)(hj:js.Nodup:=by decide)
 (U:LcF X x:=by first |exact .inl rfl |exact .inr rfl):
  DS c X (.Assign [.Name x eH] (.ListComp h6 [⟨tg,iter,hY,0⟩] scope pos) kv) (bm i (aI (bu k js fi g ft fe))):=
 Dx (xB (g:=tDG (Gx c X) g) (tt:=tDT (Gx c X) ft) (te:=tD (Gx c X) fe) k js Nc L z hx M hi (λcl C ex eL fy=>(q cl C ex eL fy).pg) ht T B I hs U) λσ H Q h=>xP hj (q [] 0 [] X.s₀ X.H₀).keep (q [] 0 [] X.s₀ X.H₀).len (KJ h)
def bn{f:MF1}(I:DE c X e f):DS c X (.Return (aa e) pos) (bd f):=PS.imp (sX I) λE σ H L=>by
 obtain⟨Hf0,H0,Hf,ρ,o,B,q,k⟩:=L;unfold bd at q
 cases z:f ρ with
 |none=>rw[z]at q;cases q
 |some d=>
  rw[z]at q;cases q;exact⟨Hf0,H0,Hf,ρ,d,B,z,λv Hf' H' x r=>k v Hf' H' (B.ext.trans x) r⟩
abbrev kc(f:MF1)(ρ:LS):Option Fl:=(f ρ).map λd=>.rtS d ρ
def pi{f:MF1}(I:DE c X e f):DS c X (.Return (aa e) pos) (kc f):=PS.imp (sX I) λE σ H L=>by
 obtain⟨Hf0,H0,Hf,ρ,o,B,q,k⟩:=L;unfold kc at q
 cases z:f ρ with
 |none=>rw[z]at q;cases q
 |some d=>
  rw[z]at q;cases q;exact⟨Hf0,H0,Hf,ρ,d,B,z,λv Hf' H' x r=>k v σ Hf' H' (B.step x) r⟩
def dR(I:DO c X e f):DS c X (.Return (aa e) pos) (dk f):=PS.imp (sX I) λE σ H T=>by
 obtain⟨Hf0,H0,Hf,ρ,o,B,q,k⟩:=T;unfold dk at q
 cases z:f ρ with
 |none=>rw[z]at q;cases q
 |some d=>
  rw[z]at q;cases q;exact⟨Hf0,H0,Hf,ρ,d,B,z,λl vs Hf' H' x hn L M r=>k l vs Hf' H' (B.ext.trans x) (B.ext.h.free hn) L M r⟩
def KM(M:PE X e (di i)):DS c X (.Return (aa e) pos) (hE i):=PS.imp (sX M) λE σ H U=>by
 obtain⟨Hf0,H0,Hf,ρ,o,B,z,k⟩:=U;unfold hE at z
 cases es:ρ[i]? with
 |none=>rw[es]at z;cases z
 |some s=>
  rw[es]at z
  cases s with
  |im d=>
   cases z;obtain⟨v,I,r⟩:=B.imm es
   exact⟨_,I,k v Hf H B.ext r⟩
  |own xs=>
   cases z;obtain⟨l,I,L,T,vs,q,r⟩:=B.ownAt rfl es
   exact⟨_,I,k l vs Hf H B.ext L T q r⟩
  | _=>cases z
def nQ(i:Nat)(z:X.N[i]?=aa x:=by rfl)(hv:Vis X.env.scope x:=by first |exact b7 rfl |exact bB (b7 rfl) |exact bB (bB rfl))(hd:NDb x:=by decide)
 (q:NCd x:=by decide):DS c X (.Return (aa (.Name x p)) pos) (hE i):=KM (nv z hv hd q)
def dZ(hp:PassesOwn (model X.prog X.w) X.A X.env X.xe)(hc:X.calm=ab)(hi:DI c X tg iter fi)(hg:DG c X tg kk g)(hb:DSs c X a F)(hs:∀x,mT iter X.env x=pure x:=by intro _;rfl):
  DS c X (.For tg iter a [] pos) (cX fi g F):=PS.imp (Ch hp hc hi hg.pg hb hs) λE σ H q_=>by
 obtain⟨Hf0,H0,Hf,ρ,o,so,L,k⟩:=q_;unfold cX at L
 cases e1:fi ρ with
 |none=>rw[e1]at L;cases L
 |some ds=>
  rw[e1]at L;replace L:iX g F ds ρ=aa o:=L;refine⟨Hf0,H0,Hf,ρ,ds,so,e1,λJ eD H1 x1 it=>?_⟩;refine⟨λi m U H'=>m=ds.length-i/\i<=ds.length/\∃Hf' ρ',au (Gx c X) Hf0 H0 Hf' H' U ρ'/\av eD Hf'/\iX g F (ds.drop i) ρ'=aa o,⟨ds.length,rfl,c4 _,eD,ρ,so.step x1,av.refl _,L⟩,?_⟩;rintro i m U H' ⟨rfl,hi',Hf',ρ',T,s1,em⟩;obtain⟨it1,it2⟩:=it Hf' H' s1 T.sub i
  by_cases M:i<ds.length
  .obtain⟨d,ed,edr⟩:=xO M;obtain⟨go,yl⟩:=it1 d ed;rw[edr]at em;unfold iX at em;refine .inr ⟨go,λσ2 H2=>ds.length-(i+1)=ds.length-(i+1)/\i+1<=ds.length/\∃Hf' ρ',au (Gx c X) Hf0 H0 Hf' H2 σ2 ρ'/\av eD Hf'/\iX g F (ds.drop (i+1)) ρ'=aa o,λσ2 H2 w=>⟨ds.length-(i+1),by lia,w⟩,λx H2 y=>?_⟩;obtain⟨dr,x2,rx⟩:=yl x H2 y
   cases eg:g d ρ' with
   |none=>rw[eg]at em;cases em
   |some I=>
    rw[eg]at em;replace em:(F I).bind _=_:=em
    cases eF:F I with
    |none=>rw[eF]at em;cases em
    |some o1=>
     rw[eF]at em;refine⟨Hf0,H0,dr,ρ',d,I,T.step x2,rx,eg,λσ3 so3=>⟨Hf0,H0,dr,I,o1,so3,eF,?_⟩⟩;have sf:=s1.trans x2.f
     cases o1 with
     |nx B=>exact λσ4 q H4 s4 z=>⟨rfl,M,q,B,z,sf.trans s4,em⟩
     |ct B=>exact λσ4 q H4 s4 z=>⟨rfl,M,q,B,z,sf.trans s4,em⟩
     |bk B=>cases em;exact λσ4 q H4 s4 z=>k σ4 q H4 ((x1.f.trans sf).trans s4) z
     |rt d=>cases em;exact k
     |rtO d=>cases em;exact k
     |rtS d B=>cases em;exact k
     |rtT o'=>cases em;exact k
  .have ei:i=ds.length:=by lia
   subst ei;rw[drop_eq_nil_of_le (aL _)]at em;cases em;exact .inl ⟨it2 rfl,k U Hf' H' (x1.f.trans s1) T⟩
def t5(n:Nat)(hp:PassesOwn (model X.prog X.w) X.A X.env X.xe)(hc:DT c X cd t)(hb:DSs c X a F):DS c X (.While cd a [] pos) (iz t F n):=PS.imp (Ie hp hc hb) λE σ H q_=>by
 obtain⟨Hf0,H0,Hf,ρ,o,so,ef,k⟩:=q_;refine⟨λm L H'=>∃Hf' ρ',au (Gx c X) Hf0 H0 Hf' H' L ρ'/\av Hf Hf'/\iz t F m ρ'=aa o,⟨n,Hf,ρ,so,av.refl _,ef⟩,?_⟩;rintro m L H' ⟨Hf',ρ',I,s1,em⟩
 cases m with
 |zero=>cases em
 |succ m=>
  unfold iz at em
  cases et:t ρ' with
  |none=>rw[et]at em;cases em
  |some b=>
   rw[et]at em;replace em:(if b=ab then (F ρ').bind _ else aa (.nx ρ'))=aa o:=em;refine⟨Hf0,H0,Hf',ρ',b,I,et,λdr H2 x2=>?_⟩
   cases b with
   |false=>
    rw[if_neg ba]at em;refine xp ?_;cases em
    exact k L dr H2 (s1.trans x2.f) (I.step x2)
   |true=>
    rw[if_pos rfl]at em;refine xq ?_
    cases eF:F ρ' with
    |none=>rw[eF]at em;cases em
    |some o1=>
     rw[eF]at em;refine⟨λU H3=>∃Hf' ρ',au (Gx c X) Hf0 H0 Hf' H3 U ρ'/\av Hf Hf'/\iz t F m ρ'=aa o,λU H3 w=>⟨m,dh _,w⟩,Hf0,H0,dr,ρ',o1,I.step x2,eF,?_⟩;have sf:=s1.trans x2.f
     cases o1 with
     |nx B=>exact λM q H4 T z=>⟨q,B,z,sf.trans T,em⟩
     |ct B=>exact λM q H4 T z=>⟨q,B,z,sf.trans T,em⟩
     |bk B=>cases em;exact λM q H4 T z=>k M q H4 (sf.trans T) z
     |rt d=>cases em;exact k
     |rtO d=>cases em;exact k
     |rtS d B=>cases em;exact k
     |rtT o'=>cases em;exact k
def KN{E:j6}(h:tDS G (gE i F) E σ H):tDS G F E σ H:=by
 obtain⟨Hf0,H0,Hf,ρ,o,I,L,k⟩:=h;unfold gE xQ at L;split at L
 .rename_i xs es;obtain⟨l,M,T,B,vs,q,r⟩:=I.ownAt rfl es;exact⟨Hf0,H0,_,_,o,I.fixd (d:=.lst xs) rfl es M q ⟨l,vs,rfl,aZ,r.up (bP B)⟩,L,k.up (bP B)⟩
 .rename_i ks xs es;obtain⟨l,M,T,B,vs,q,z,r⟩:=I.ownAt rfl es;exact⟨Hf0,H0,_,_,o,I.fixd (d:=.dic ks xs) rfl es M q ⟨l,vs,rfl,aZ,z,r.up (bP B)⟩,L,k.up (bP B)⟩
 .rename_i U ns xs es;obtain⟨l,M,T,B,dx,vs,q,z,r⟩:=I.ownAt rfl es;exact⟨Hf0,H0,_,_,o,I.fixd (d:=.ins U ns xs) rfl es M q ⟨l,dx,vs,rfl,aZ,z,r.up (bP B)⟩,L,k.up (bP B)⟩
 .exact⟨Hf0,H0,Hf,ρ,o,I,L,k⟩
def jz(i:Nat)(h:DS c X st F):DS c X st (gE i F):=PS.imp h λ_ _ _=>KN
def lB{f:MF1}(h:PS X st (nz (tBM X.K "list" tq (di i) (me (tD (Gx c X) f) jm)))):DS c X st (hJ i f):=PS.imp h λE σ H q_=>by
 obtain⟨Hf0,H0,Hf,ρ,o,I,z,k⟩:=q_;unfold hJ at z
 cases B:f ρ with
 |none=>rw[B]at z;cases z
 |some d=>
  rw[B]at z
  replace z:(match ρ[i]? with |some (.own xs)=>if xs.length<16777216 then aa (Fl.nx (ρ.set i (.own (xs++[d])))) else ac | _=>ac)=aa o:=z
  split at z
  .rename_i xs es;split at z
   .rename_i T;cases z;obtain⟨l,M,h0,hf,vs,q,r⟩:=I.ownAt rfl es;refine⟨_,M,.inl ⟨rfl,_,SqL.of q⟩,Hf0,H0,Hf,ρ,d,I,B,λv Hf' H' x r'=>?_⟩;have L:=I.step x;have U:=x.h _ _ q;refine⟨l,vs,v,rfl,rfl,U,by rw[dG,<- r.length];exact T,k σ Hf' _ x.f (L.mutd (s:=.own xs) (s':=.own (xs++[d])) rfl rfl es M ⟨vs++[v],aZ,(r.up x.f).append (.cons r' .nil)⟩)⟩
   .cases z
  .cases z
def KO{f:MF1}(h:PS X st (nz (tBM X.K "list" xm (di i) (me (tD (Gx c X) f) jm)))):DS c X st (qN i (qM f)):=PS.imp h λE σ H q_=>by
 obtain⟨Hf0,H0,Hf,ρ,o,I,z,k⟩:=q_;unfold qN qM at z
 cases B:f ρ with
 |none=>rw[B]at z;cases z
 |some d=>
  rw[B]at z
  cases d with
  |lst ds=>
   replace z:(match ρ[i]? with |some (.own xs)=>if xs.length+ds.length<=16777216 then aa (Fl.nx (ρ.set i (.own (xs++ds)))) else ac | _=>ac)=aa o:=z
   split at z
   .rename_i xs es;split at z
    .rename_i hl;cases z;obtain⟨l,M,h0,hf,vs,q,r⟩:=I.ownAt rfl es;refine⟨_,M,.inl ⟨rfl,_,SqL.of q⟩,Hf0,H0,Hf,ρ,.lst ds,I,B,λv Hf' H' x r'=>?_⟩;obtain⟨a,us,U,qa,T⟩:=r';subst U;have L:=I.step x;have q':=x.h _ _ q;refine⟨l,a,vs,us,rfl,rfl,q',x.s _ _ qa,by rw[dG,<- r.length,<- T.length];exact hl,k σ Hf' _ x.f (L.mutd (s:=.own xs) (s':=.own (xs++ds)) rfl rfl es M ⟨vs++us,aZ,(r.up x.f).append T⟩)⟩
    .cases z
   .cases z
  | _=>cases z
abbrev xR:Fl->OD
 |.rt d=>aa d
 |.rtO ds=>aa (.lst ds)
 |.rtS d _=>aa d
 |.nx _=>aa .non
 | _=>ac
abbrev eU(n:Nat)(ds:LD):LS:=ds.map .im++jS (n-ds.length) .no
abbrev aW(n:Nat)(F:MF3)(ds:LD):OD:=(F (eU n ds)).bind xR
abbrev nR(n:Nat)(F:MF3)(ds:LD):OLD:=(F (eU n ds)).bind λo=>match o with
 |.rtO ds=>aa ds
 | _=>ac
abbrev spD(G:Gc)(n:Nat)(m:LD->OD):Sp:=λvs H Q _=>∃Hf ds d,av Hf H/\ao G Hf ds vs/\ds.length=n/\m ds=aa d/\∀v Hf' H',Ext Hf H Hf' H'->Rep G Hf' d v->Q v H'
abbrev spO(G:Gc)(n:Nat)(m:LD->OLD):Sp:=λvs H Q _=>∃Hf ds rs,av Hf H/\ao G Hf ds vs/\ds.length=n/\m ds=aa rs /\
 ∀l us Hf' H',Ext Hf H Hf' H'->H l=ac->Hf' l=ac->H' l=aa (.lst us)->ao G Hf' rs us->Q (.ref l) H'
def au.start(L:av Hf H)(r:ao G Hf ds vs):au G Hf H Hf H (start N vs) (eU N.length ds):=by
 have I:=r.length
 have im:∀(i:Nat) (s:Sl),(eU N.length ds)[i]?=aa s->s=.no\/∃d,ds[i]?=aa d/\s=.im d:=λi s b=>by
  unfold eU at b
  by_cases hi:i<ds.length
  .rw[lR (by simpa using hi)]at b;obtain⟨d,z,es⟩:=nP b;exact .inr ⟨d,z,es⟩
  .rw[lQ (by simpa using mR hi)]at b;obtain⟨_,e⟩:=dq.mp b;rw[List.getElem_replicate]at e;exact .inl e.symm
 refine⟨Ext.refl L,by simp[L2.start,eU,I],λi v s a b=>?_,λi j s t v w l a b c d p q=>?_⟩
 .rcases im i s b with e |⟨d,z,es⟩
  .subst e;trivial
  .subst es;obtain⟨u,B,ru⟩:=r.get z;refine⟨u,?_,ru⟩;have hi:i<vs.length:=(dq.mp B).1;unfold L2.start at a;rw[lR (by simpa using hi),cA,B]at a;exact(cN a).symm
 .rcases im i s a with e |⟨d,z,es⟩
  .subst e;exact(p.calm rfl).elim
  .subst es;exact(p.calm rfl).elim
variable{mg:MGT}{base:Heap}{n_:Nat}{qual:Str}{f:Addr}{fd:eA}{ps:LSt}
def bh(Fn:Fun K x qual st f fd)(S:aM N ps (aF st))
 (h:∀(cdv:Value) (A:cI) (outer:List Env) (s:ai) (H:Hp) (E:XK),bF k (A.deeper (gT qual (aF st) s.heap.objs.size f cdv))->DSs c (jn CX0 P w K mg base N qual (aF st) f cdv A outer s H E).nox (jo st) F)(I:N.length=n_:=by rfl):
  c9 P w K mg base CX0 (k+1) f fd ps (spD ⟨K,c⟩ ps.length (aW n_ F)):=by
 subst I;refine Fn.ok S (λvs H Q E L=>by obtain⟨Hf,ds,d,s0,r,q,_⟩:=L;rw[<- r.length];exact q) λcdv A outer s H vs Q E hr L=>?_;obtain⟨Hf,ds,d,s0,r,q,e,z⟩:=L;refine⟨_,h cdv A outer s H E hr,?_⟩;unfold aW at e
 cases B:F (eU N.length ds)with
 |none=>rw[B]at e;cases e
 |some o=>
  rw[B]at e;replace e:xR o=aa d:=e;refine⟨Hf,H,Hf,_,o,au.start s0 r,B,?_⟩
  cases o with
  |nx ρ=>cases e;exact λT Hf' H' _ M=>z _ Hf' H' M.ext rfl
  |bk ρ=>cases e
  |ct ρ=>cases e
  |rt d=>cases e;exact z
  |rtO rs=>cases e;exact λl vs Hf' H' x hn U q r=>z _ (upd Hf' l (.lst vs)) H' (x.fix hn U q) ⟨l,vs,rfl,aZ,r.up (bP U)⟩
  |rtS d ρ=>cases e;exact λv T Hf' H' M r=>z v Hf' H' M.ext r
  |rtT o=>cases e
def xS(M:Fun K x qual st f fd)(S:aM N ps (aF st))
 (h:∀(cdv:Value) (A:cI) (outer:List Env) (s:ai) (H:Hp) (E:XK),bF k (A.deeper (gT qual (aF st) s.heap.objs.size f cdv))->DSs c (jn CX0 P w K mg base N qual (aF st) f cdv A outer s H E).nox (jo st) F)(z:N.length=n_:=by rfl):
  c9 P w K mg base CX0 (k+1) f fd ps (spO ⟨K,c⟩ ps.length (nR n_ F)):=by
 subst z;refine M.ok S (λvs H Q E B=>by obtain⟨Hf,ds,d,L,r,I,_⟩:=B;rw[<- r.length];exact I) λcdv A outer s H vs Q E T B=>?_;obtain⟨Hf,ds,rs,L,r,I,e,U⟩:=B;refine⟨_,h cdv A outer s H E T,?_⟩;unfold nR at e
 cases q:F (eU N.length ds)with
 |none=>rw[q]at e;cases e
 |some o=>
  rw[q]at e;refine⟨Hf,H,Hf,_,o,au.start L r,q,?_⟩
  cases o with
  |rtO rs'=>cases e;exact U
  | _=>cases e
variable{fa:MF2}{k0:Nat}
def bg(pk:Pk X.prog X.w X.K X.mg X.base CX0 k x (f,fd) ps (spD (Gx c X) ps.length m))(I:bF k0 X.A)(ha:DA c X (e::es) fa)(hl:(e::es).length=ps.length:=by rfl)(q:NDb x:=by decide)(U:StE X e es:=by rfl)(B:BkE X pos es:=by rfl)(z:k<=k0:=by decide)(hg:Gl X x:=by first |rfl |exact glc rfl):
  DE c X (.Call (.Name x p) (e::es) [] pos) (aB m fa):=PE.imp (tm pk.ok (I.mono z) hg pk.g pk.kp pk.b .nil iQ ha.pa q U B) λσ H Q q_=>by
 obtain⟨Hf0,H0,Hf,ρ,d,st,T,kq⟩:=q_;obtain⟨ds,L,M⟩:=tU T;refine⟨Hf0,H0,Hf,ρ,ds,st,L,λvs Hf' H' x r=>?_⟩;dsimp only;rw[cB];exact⟨Hf',ds,d,x.s,r,(ha.len ρ ds L).trans hl,M,λv dr H2 x2 r2=>kq v dr H2 (x.trans x2) r2⟩
abbrev pq(m:LD->OLD)(f:MF2)(ρ:LS):OLD:=(f ρ).bind m
def Dz{m:LD->OLD}(pk:Pk X.prog X.w X.K X.mg X.base CX0 k x (f,fd) ps (spO (Gx c X) ps.length m))(T:bF k0 X.A)(ha:DA c X (e::es) fa)(hl:(e::es).length=ps.length:=by rfl)(B:NDb x:=by decide)(U:StE X e es:=by rfl)(M:BkE X pos es:=by rfl)(I:k<=k0:=by decide)(hg:Gl X x:=by first |rfl |exact glc rfl):
  DO c X (.Call (.Name x p) (e::es) [] pos) (pq m fa):=PE.imp (tm pk.ok (T.mono I) hg pk.g pk.kp pk.b .nil iQ ha.pa B U M) λσ H Q q_=>by
 obtain⟨Hf0,H0,Hf,ρ,rs,st,q,kq⟩:=q_;unfold pq at q
 cases z:fa ρ with
 |none=>rw[z]at q;cases q
 |some ds=>
  rw[z]at q;refine⟨Hf0,H0,Hf,ρ,ds,st,z,λvs Hf' H' x r=>?_⟩;dsimp only;rw[cB];exact⟨Hf',ds,rs,x.s,r,(ha.len ρ ds z).trans hl,q,λl us dr H2 x2 hn hf L r2=>kq l us dr H2 (x.trans x2) (x.h.free hn) hf L r2⟩
def DD{G:Gc}{H:Hp}{f:Str}{d:D}:∀{ns:LSt} {ds:LD} {vs:List V},(ns.zip ds).lookup f=aa d->ao G H ds vs->∃v,(ns.zip vs).lookup f=aa v/\Rep G H d v
 | [],_,_,e,_=>by simp at e
 |n::ns,[],_,e,_=>by simp at e
 |n::ns,x::ds,_,e,q4_=>by
  obtain⟨v,r,z,B,I⟩:=q4_;subst z;rw[d9,eK]at e;rw[d9,eK]
  cases q:f==n with
  |true=>rw[q]at e;cases e;exact⟨v,rfl,B⟩
  |false=>rw[q]at e;exact DD e I
def px{f:Str}:∀{ns:LSt} {vs:List V},ns.contains f=ae->(ns.zip vs).lookup f=ac
 | [],_,_=>by simp
 |n::ns,[],_=>by simp
 |n::ns,v::vs,h=>by
  rw[contains_cons,Bool.or_eq_false_iff]at h;rw[d9,eK,h.1];exact px h.2
abbrev DF(cn f:Str):D->OD
 |.ins q ns ds=>if q=cn then (ns.zip ds).lookup f else ac
 | _=>ac
abbrev bS(cn f:Str)(m:MF1)(ρ:LS):OD:=(m ρ).bind (DF cn f)
abbrev aY(cn f:Str)(m:LD->OD)(B:MF1)(fa:MF2)(ρ:LS):OD:=(B ρ).bind λd=>match d with
 |.ins q ns ds=>if q=cn/\ns.contains f=ae then (fa ρ).bind λz=>m (.ins q ns ds::z) else ac
 | _=>ac
variable{fl:Str}{fo:MF1}
def bZ{o:Expr}(cn:Str)(hc:Cls X.K (c cn))(hn:dH X.K (c cn) fl)(ho:DE c X o fo)(U:oG o fl X.env (eval o X.env)=eval o X.env:=by rfl):DE c X (.Attribute o fl pos) (bS cn fl fo):=
 PE.imp (Ct ho U) λσ H Q q_=>by
  obtain⟨Hf0,H0,Hf,ρ,d,st,z,k⟩:=q_;unfold bS at z
  cases B:fo ρ with
  |none=>rw[B]at z;cases z
  |some y=>
   rw[B]at z;replace z:DF cn fl y=aa d:=z
   cases y with
   |ins L ns ds=>
    replace z:(if L=cn then (ns.zip ds).lookup fl else ac)=aa d:=z;split at z
    .rename_i I;subst I;refine⟨Hf0,H0,Hf,ρ,_,st,B,λv Hf' H' x r=>?_⟩;obtain⟨a,dx,vs,T,q,hl,rs⟩:=r;obtain⟨u,M,ru⟩:=DD z rs;exact⟨a,c L,dx,ns.zip vs,u,T,x.s _ _ q,hc,hn,M,k u Hf' H' x ru⟩
    .cases z
   | _=>cases z
variable{apos:Pos}{pl:Sem Bool}
def fq{o:Expr}(cn:Str)(ho:DE c X o fo)(pk:Pm X.prog X.w X.K X.mg X.base CX0 k (c cn) fl (f,fd) ps (spD (Gx c X) ps.length m))(hr0:bF k0 X.A)(ha:DA c X (e::es) fa)(hl:(e::es).length+1=ps.length:=by rfl)(hst:StE X e es:=by rfl)(kr:BkE X pos es:=by rfl)(ht:eval (.Call (.Attribute o fl apos) (e::es) [] pos) X.env=(do
   let ov <- eval o X.env
   iI apos.atName
   let (f,first) <- fG [ov] (jX ov fl pl)
   l6 pos f first (cr pos (aO (e::es) X.env)) (jY pos (jW [] X.env))):=by rfl)(hk0:k<=k0:=by decide):
  DE c X (.Call (.Attribute o fl apos) (e::es) [] pos) (aY cn fl m fo fa):=PE.imp (xf ho pk.c pk.m pk.ok (hr0.mono hk0) pk.b .nil iQ ha.pa hst kr ht) λσ H Q q_=>by
 obtain⟨Hf0,H0,Hf,ρ,d,st,z,kq⟩:=q_;unfold aY at z
 cases T:fo ρ with
 |none=>rw[T]at z;cases z
 |some y=>
  rw[T]at z
  cases y with
  |ins I ns ds=>
   replace z:(if I=cn/\ns.contains fl=ae then (fa ρ).bind λB=>m (.ins I ns ds::B) else ac)=aa d:=z;split at z
   .rename_i U;obtain⟨rfl,hno⟩:=U
    cases L:fa ρ with
    |none=>rw[L]at z;cases z
    |some B=>
     rw[L]at z;replace z:m (.ins I ns ds::B)=aa d:=z;refine⟨Hf0,H0,Hf,ρ,_,st,T,λv Hf' H' x r=>?_⟩;obtain⟨a,dx,vs,ev,q,hlen,rs⟩:=id r;refine⟨a,dx,ns.zip vs,ev,x.s _ _ q,px hno,Hf0,H0,Hf',ρ,B,st.step x,L,λws dr H2 x2 r2=>?_⟩;dsimp only;rw[cB];exact⟨dr,.ins I ns ds::B,d,x2.s,.cons (r.up x2.f) r2,by rw[cp,ha.len ρ B L];exact hl,z,λu M H3 x3 r3=>kq u M H3 ((x.trans x2).trans x3) r3⟩
   .cases z
  | _=>cases z
def iY{o:Expr}(cn:Str)(ho:DE c X o fo)(pk:Pm X.prog X.w X.K X.mg X.base CX0 k (c cn) fl (f,fd) ps (spD (Gx c X) ps.length m))(hr0:bF k0 X.A)(hl:1=ps.length:=by rfl)(ht:eval (.Call (.Attribute o fl apos) [] [] pos) X.env=(do
   let ov <- eval o X.env
   iI apos.atName
   let (f,first) <- fG [ov] (jX ov fl pl)
   l6 pos f first (cr pos (aO [] X.env)) (jY pos (jW [] X.env))):=by rfl)(T:k<=k0:=by decide):
  DE c X (.Call (.Attribute o fl apos) [] [] pos) (aY cn fl m fo λ_=>aa []):=PE.imp (xg ho pk.c pk.m pk.ok (hr0.mono T) pk.b .nil iQ ht) λσ H Q q_=>by
 obtain⟨Hf0,H0,Hf,ρ,d,st,z,kq⟩:=q_;unfold aY at z
 cases L:fo ρ with
 |none=>rw[L]at z;cases z
 |some y=>
  rw[L]at z
  cases y with
  |ins B ns ds=>
   replace z:(if B=cn/\ns.contains fl=ae then (aa []).bind λas=>m (.ins B ns ds::as) else ac)=aa d:=z;split at z
   .rename_i M;obtain⟨rfl,U⟩:=M;replace z:m [.ins B ns ds]=aa d:=z;refine⟨Hf0,H0,Hf,ρ,_,st,L,λv Hf' H' x r=>?_⟩;obtain⟨a,dx,vs,ev,q,hlen,rs⟩:=id r;refine⟨a,dx,ns.zip vs,ev,x.s _ _ q,px U,?_⟩;exact⟨Hf',[.ins B ns ds],d,x.s,.cons r .nil,hl,z,λu I H3 x3 r3=>kq u I H3 (x.trans x3) r3⟩
   .cases z
  | _=>cases z
abbrev qP:List (Str×(MF1))->LS->LSt->LD->Option (LSt×LD)
 | [],_,ns,ds=>aa (ns,ds)
 |(f,m)::r,ρ,ns,ds=>(m ρ).bind λd=>if ns.contains f then ac else qP r ρ (ns++[f]) (ds++[d])
abbrev KP(G:Gc)(cn:Str)(fs:List (Str×(MF1))):TS:=λE σ H=>∃x dx Hf0 H0 Hf ρ ns us ds r,σ[0]?=aa (aa (.ref x))/\(∀s∈ρ,Sl.calm s=ab)/\au G Hf0 H0 Hf H σ ρ/\H0 x=ac/\Hf x=ac /\
 H x=aa (.ins (G.cl cn) dx (ns.zip us))/\ns.length=us.length/\ns.length+fs.length<=900/\ao G Hf ds us/\qP fs ρ ns ds=aa r /\
 ∀q Hf' H',Ext Hf0 H0 Hf' H'->Hf' x=ac->H' x=aa (.ins (G.cl cn) dx (r.1.zip q))->r.1.length=q.length->ao G Hf' r.2 q->E.nx σ H'
abbrev DSI(c:Str->Addr)(X:Cx)(cn:Str)(sts:List Stmt)(fs:List (Str×(MF1))):Prop:=PSs X sts (KP (Gx c X) cn fs)
def qQ{f:Str}{v:V}:∀{ns:LSt} {us:List V},ns.length=us.length->ns.contains f=ae->c5 f v (ns.zip us)=(ns++[f]).zip (us++[v])
 | [],[],_,_=>rfl
 |n::ns,u::us,hl,h=>by
  rw[contains_cons,Bool.or_eq_false_iff]at h;have q:¬(n=f):=λz=>by rw[z,beq_self_eq_true]at h;cases h.1
  rw[d9];unfold c5
  first
   |(rw[if_neg q,qQ (by simpa using hl) h.2];rfl)
   |(rw[if_neg (λz=>q (Eq.symm z)),qQ (by simpa using hl) h.2];rfl)
   |(rw[if_neg (by simpa using q),qQ (by simpa using hl) h.2];rfl)
   |(rw[if_neg (by simpa using λz=>q (Eq.symm z)),qQ (by simpa using hl) h.2];rfl)
 | [],_::_,hl,_=>by cases hl
 | _::_,[],hl,_=>by cases hl
def t6{cn:Str}:DSI c X cn [] []:=PSs.imp Cc λE σ H q=>by
 obtain⟨x,dx,Hf0,H0,Hf,ρ,ns,us,ds,r,e0,no,L,M,z,hx,B,hz,I,em,k⟩:=q;cases em;exact k us Hf H L.ext z hx B I
variable{m:MF1}{fs:List (Str×(MF1))}
def py{cn:Str}{o:Expr}(hc:Cls X.K (c cn))(hn:dH X.K (c cn) fl)(ho:PE X o (di 0))(he:DE c X e m)(h:DSI c X cn sts fs)(T:gx e (aa (.Attribute o fl eH)) pos.line X.env=pure ae:=by rfl):
  DSI c X cn (.Assign [.Attribute o fl eH] e pos::sts) ((fl,m)::fs):=PSs.imp (sW (ls ho he T) h) λE σ H q=>by
 obtain⟨x,dx,Hf0,H0,Hf,ρ,ns,us,ds,r,e0,no,so,h0,hf,hx,hl,hz,rd,em,k⟩:=q;unfold qP at em
 cases M:m ρ with
 |none=>rw[M]at em;cases em
 |some d=>
  rw[M]at em;replace em:(if ns.contains fl=ab then ac else qP fs ρ (ns++[fl]) (ds++[d]))=aa r:=em;split at em
  .cases em
  .rename_i B;have B:ns.contains fl=ae:=by simpa using B
   refine⟨Hf0,H0,Hf,ρ,d,so,M,λv Hf' H' L rv=>⟨_,e0,x,c cn,dx,ns.zip us,rfl,L.h _ _ hx,hc,hn,?_,?_⟩⟩
   .have h1:=ow (l₁:=ns) (l₂:=us);rw[cp]at hz;lia
   .have I:Hf' x=ac:=by rw[L.n _ _ hx rfl];exact hf
    have z:=so.step L
    have U:au (Gx c X) Hf0 H0 Hf' (upd H' x (.ins (c cn) dx (c5 fl v (ns.zip us)))) σ ρ:=by
     refine z.re ⟨z.ext.f,λb u e=>?_,λb u e=>?_,z.ext.n⟩ rfl (λi w s a b=>?_) λi s w a b _ p=>(p.calm (no s (dM b))).elim
     .rw[aJ (fK e h0)];exact z.ext.h b u e
     .rw[aJ (fK e I)];exact z.ext.s b u e
     .have T:=no s (dM b);have q:=z.at' i w s a b
      cases s with
      |no=>trivial
      |im d=>exact q
      | _=>cases T
    refine⟨x,dx,Hf0,H0,Hf',ρ,ns++[fl],us++[v],ds++[d],r,e0,no,U,h0,I,?_,by rw[a8,a8,hl];rfl,by rw[cp]at hz;rw[a8,dW];lia,(rd.up L.f).append (.cons rv .nil),em,k⟩;rw[aZ,qQ hl B]
abbrev del(H:Hp)(x:Addr):Hp:=λb=>if b=x then ac else H b
def DH{x:Addr}:del H x x=ac:=if_pos rfl
def DJ{x b:Addr}(h:b≠x):del H x b=H b:=if_neg h
abbrev qR(n:Nat)(fs:List (Str×(MF1)))(q:LD):Option (LSt×LD):=qP fs (.no::(q.map .im++jS (n-1-q.length) .no)) [] []
abbrev spI(G:Gc)(cn:Str)(n:Nat)(m:LD->Option (LSt×LD)):Sp:=λvs H Q _=>∃x dx Hf z q r,vs=.ref x::q/\H x=aa (.ins (G.cl cn) dx [])/\Hf x=ac/\av Hf H/\ao G Hf z q/\z.length+1=n/\m z=aa r /\
 ∀us Hf' H',Ext Hf (del H x) Hf' H'->Hf' x=ac->H' x=aa (.ins (G.cl cn) dx (r.1.zip us))->r.1.length=us.length->ao G Hf' r.2 us->Q .non H'
def t7{x qual cn:Str}(Fn:Fun K x qual st f fd)(S:aM N ps (aF st))
 (h:∀(cdv:Value) (A:cI) (outer:List Env) (s:ai) (H:Hp) (E:XK),bF k (A.deeper (gT qual (aF st) s.heap.objs.size f cdv))->DSI c (jn CX0 P w K mg base N qual (aF st) f cdv A outer s H E).nox cn (jo st) fs)
 (hz:fs.length<=900:=by decide)(T:N.length=n_:=by rfl):c9 P w K mg base CX0 (k+1) f fd ps (spI ⟨K,c⟩ cn ps.length (qR n_ fs)):=by
 subst T;refine Fn.ok S (λvs H Q E q=>by obtain⟨x,dx,Hf,z,B,r,M,_,_,_,I,hl,_⟩:=q;subst M;rw[cp,<- I.length];exact hl) λcdv A outer s H vs Q E hr q=>⟨_,h cdv A outer s H E hr,?_⟩;obtain⟨x,dx,Hf,z,B,r,M,hx,hf,s0,I,hl,e,kq⟩:=q;subst M;have la:=I.length
 have im:∀(i:Nat) (s:Sl),(Sl.no::(z.map Sl.im++jS (N.length-1-z.length) .no))[i]?=aa s->s=.no\/∃d j,i=j+1/\z[j]?=aa d/\s=.im d:=λi s b=>by
  cases i with
  |zero=>left;simpa using b.symm
  |succ i=>
   rw[eJ]at b
   by_cases hi:i<z.length
   .rw[lR (by simpa using hi)]at b;obtain⟨d,L,es⟩:=nP b;exact .inr ⟨d,i,rfl,L,es⟩
   .rw[lQ (by simpa using mR hi)]at b;obtain⟨_,e⟩:=dq.mp b;rw[List.getElem_replicate]at e;exact .inl e.symm
 have no:∀s∈(Sl.no::(z.map Sl.im++jS (N.length-1-z.length) .no)),Sl.calm s=ab:=λs hs=>by
  obtain⟨i,hi⟩:=ou hs
  rcases im i s hi with e |⟨d,_,_,_,e⟩ <;> (subst e;rfl)
 refine⟨x,dx,Hf,del H x,Hf,_,[],[],[],r,rfl,no,⟨⟨av.refl _,λb o e=>?_,s0,λ_ _ _ _=>rfl⟩,?_,λi v s a b=>?_,λi j s t v w l a b _ _ p _=>?_⟩,DH,hf,hx,rfl,by simpa using hz,rfl,e,λus Hf' H' xx h1 h2 h3 h4=>kq us Hf' H' xx h1 h2 h3 h4⟩
 .by_cases hb:b=x
  .subst hb;rw[DH]at e;cases e
  .rw[DJ hb]at e;exact e
 .unfold L2.start;simp only[a8,aH,cp,sA];lia
 .rcases im i s b with e |⟨d,j,ei,L,es⟩
  .subst e;trivial
  .subst es ei;obtain⟨u,U,ru⟩:=I.get L;refine⟨u,?_,ru⟩;have hi:j<B.length:=(dq.mp U).1;unfold L2.start at a;rw[bp,cons_append,eJ,lR (by simpa using hi),cA,U]at a;exact(cN a).symm
 .exact(p.calm (no s (dM a))).elim
abbrev ke(cn:Str)(m:LD->Option (LSt×LD))(fa:MF2)(ρ:LS):OD:=(fa ρ).bind λq=>(m q).map λr=>.ins cn r.1 r.2
def mn{m:LD->Option (LSt×LD)}(cn:Str)(M:Mk X.K (c cn) f)(F:c9 X.prog X.w X.K X.mg X.base CX0 k f fd ps (spI (Gx c X) cn ps.length m))(hr:bF (k+1) X.A)(hg:Gl X x)(hm:X.mg x=aa (.ref (c cn)))(hb:gB X.K fd ps [])(ha:DA c X (e::es) fa)
 (hl:(e::es).length+1=ps.length:=by rfl)(hdb:NDb x:=by decide)(he:StE X e es:=by rfl)(kr:BkE X pos es:=by rfl):
  DE c X (.Call (.Name x p) (e::es) [] pos) (ke cn m fa):=PE.imp (Cv M F hr hg hm hb .nil iQ ha.pa hdb he kr) λσ H Q q_=>by
 obtain⟨Hf0,H0,Hf,ρ,d,st,z,kq⟩:=q_;unfold ke at z
 cases T:fa ρ with
 |none=>rw[T]at z;cases z
 |some B=>
  rw[T]at z;replace z:(m B).map _=_:=z
  cases e2:m B with
  |none=>rw[e2]at z;cases z
  |some r=>
   rw[e2]at z;cases z;refine⟨Hf0,H0,Hf,ρ,B,st,T,λvs Hf' H' xx rv y dx U ndx nex=>?_⟩
   try dsimp only
   rw[cB];have hy:(upd H' dx (.own y)) y=ac:=by rw[aJ nex.symm];exact U
   have s1:av H' (upd H' dx (.own y)):=bP ndx;have s2:=s1.trans (bP (o:=.ins (c cn) dx []) hy)
   have s3:av H' (del (upd (upd H' dx (.own y)) y (.ins (c cn) dx [])) y):=λb u q=>by
    have:=fK q U;rw[DJ this];exact s2 b u q
   refine⟨y,dx,Hf',B,vs,r,rfl,aZ,xx.s.free U,xx.s.trans s2,rv,by rw[ha.len ρ B T];exact hl,e2,λus dr H2 x2 I hy2 L r2=>⟨rfl,?_⟩⟩;have x3:Ext Hf' H' dr H2:=⟨x2.f,s3.trans x2.h,x2.s,λl u q t=>x2.n l u (s3 l u q) t⟩;exact kq _ _ H2 ((xx.trans x3).fix (xx.h.free U) I hy2) ⟨y,dx,us,rfl,aZ,L,r2.up (bP I)⟩
variable{r:Option Fl}
def xT(h:F ρ=aa (.nx ρ'))(h':F' ρ'=r):ap F F' ρ=r:=by
 unfold ap;rw[h];exact h'
def KQ(h:F ρ=aa (.rt d)):ap F F' ρ=aa (.rt d):=by
 unfold ap;rw[h];rfl
def KR(h:t ρ=aa ab)(h':F ρ=r):bz t F F' ρ=r:=by
 unfold bz;rw[h];exact h'
def KS(h:t ρ=aa ae)(h':F' ρ=r):bz t F F' ρ=r:=by
 unfold bz;rw[h];exact h'
def KU{f:MF1}(h:f ρ=aa d):bm i f ρ=aa (.nx (ρ.set i (.im d))):=by
 unfold bm;rw[h];rfl
def KW{f:MF2}{d:LD}(h:f ρ=aa d):fm i f ρ=aa (.nx (ρ.set i (.own d))):=by
 unfold fm;rw[h];rfl
def fT{f:MF1}(h:f ρ=aa d):bd f ρ=aa (.rt d):=by
 unfold bd;rw[h];rfl
def fU(h:F (eU n ds)=aa (.rt d)):aW n F ds=aa d:=by
 unfold aW;rw[h];rfl
def pA{d:LD}(h:F (eU n ds)=aa (.rtO d)):aW n F ds=aa (.lst d):=by
 unfold aW;rw[h];rfl
def aS{m:LD->OD}{f:MF2}(h:f ρ=aa ds)(h':m ds=aa d):aB m f ρ=aa d:=by
 unfold aB;rw[h];exact h'
def t8{z:Type}{h:D->Option OD}(f:z->D)(p:z->Bool)(q:z->D):∀(xs:List z),(∀x∈xs,h (f x)=aa (if p x then aa (q x) else ac))->fj h (xs.map f)=aa ((xs.filter p).map q)
 | [],_=>rfl
 |x::xs,hh=>by
  rw[bp];unfold fj;rw[hh x aN,t8 f p q xs λy I=>hh y (bo _ I)]
  cases B:p x with
  |true=>rw[kK B];rfl
  |false=>rw[mO (by rw[B];exact ba)];rfl
def KY{z:Type}{h:D->Option OD}(f:z->D)(q:z->D)(xs:List z)(B:∀x∈xs,h (f x)=aa (aa (q x))):fj h (xs.map f)=aa (xs.map q):=by
 have:=t8 (h:=h) f (λ_=>ab) q xs λx hx=>(B x hx).trans rfl;rw[this,filter_eq_self.mpr λ_ _=>rfl]
def jA{z:Type}(xs:List z)(f:z->D)(p:z->Bool)(q:z->D)
 (hi:fi ρ=aa (xs.map f))(hz:xs.length<=16777216)(B:∀x∈xs,fR g ft fe (eB k js ρ) (f x)=aa (if p x then aa (q x) else ac)):bu k js fi g ft fe ρ=aa ((xs.filter p).map q):=by
 unfold bu;rw[hi];show(if (xs.map f).length<=16777216 then _ else ac)=_;rw[aH,if_pos hz];exact t8 f p q xs B
def gG{z:Type}(xs:List z)(f:z->D)(q:z->D)
 (hi:fi ρ=aa (xs.map f))(hz:xs.length<=16777216)(B:∀x∈xs,fR g ft fe (eB k js ρ) (f x)=aa (aa (q x))):bu k js fi g ft fe ρ=aa (xs.map q):=by
 unfold bu;rw[hi];show(if (xs.map f).length<=16777216 then _ else ac)=_;rw[aH,if_pos hz];exact KY f q xs B
def DK{T:Type}{g:D->LS->Option LS}{F:MF3}(f:T->D)(I:List T->LS->Prop):∀(post pre:List T) (ρ:LS),I pre ρ ->
  (∀q x L ρ,pre++post=q++x::L->I q ρ->∃z B,g (f x) ρ=aa z/\(F z=aa (.nx B)\/F z=aa (.ct B))/\I (q++[x]) B)->∃ρ',iX g F (post.map f) ρ=aa (.nx ρ')/\I (pre++post) ρ'
 | [],pre,ρ,h,_=>⟨ρ,rfl,by rw[cB];exact h⟩
 |x::post,pre,ρ,h,hs=>by
  obtain⟨z,B,e1,M,h2⟩:=hs pre x post ρ rfl h;obtain⟨ρ',U,h3⟩:=DK f I post (pre++[x]) B h2 (by rw[fZ];exact hs);refine⟨ρ',?_,by rw[fZ]at h3;exact h3⟩;rw[bp];unfold iX;rw[e1];show(F z).bind _=_
  rcases M with M |M
  .rw[M];exact U
  .rw[M];exact U
def KZ{B:Type}(xs:List B)(f:B->D)(I:List B->LS->Prop)(hi:fi ρ=aa (xs.map f))(L:I [] ρ)
 (M:∀pre x post ρ,xs=pre++x::post->I pre ρ->∃q z,g (f x) ρ=aa q/\(F q=aa (.nx z)\/F q=aa (.ct z))/\I (pre++[x]) z):∃ρ',cX fi g F ρ=aa (.nx ρ')/\I xs ρ':=by
 unfold cX;rw[hi];exact DK f I xs [] ρ L M
def K0(lo:Int)(n:Nat):rng lo n=(bI n).map λ(i:Nat)=>D.int (lo+i):=rfl
def DM{ns:List Int}:jx [.lst (ns.map D.int)]=aa (.int ns.sum):=by
 unfold jx lsD;show(g7 (ns.map D.int)).map _=_;rw[Kz];rfl
variable{i:Int}
def c6{z:Type}{f:z->D}{xs:List z}(B:0<=i)(I:i<xs.length):∃x,xs[i.toNat]?=aa x/\atI (xs.map f) i=aa (f x):=by
 have q:i.toNat<xs.length:=by lia
 refine⟨xs[i.toNat],by simp[q],?_⟩;have:=Jv (xs:=xs.map f) (j:=i.toNat) (v:=f xs[i.toNat]) (by simp[q]);rw[show((i.toNat:Nat):Int)=i by lia]at this;exact this
def nU{q:Type}{f:q->D}{xs:List q}(d:q)(I:0<=i)(L:i<xs.length):atI (xs.map f) i=aa (f (xs.getD i.toNat d)):=by
 obtain⟨x,z,B⟩:=c6 (f:=f) I L;rw[B,bD,z];rfl
def mo(i j:Int):dEq (.int i) (.int j)=aa (.bl (i==j)):=rfl
def K1(i j:Str):dEq (.str i) (.str j)=aa (.bl (i==j)):=rfl
def K2(i j:Bool):dNe (.bl i) (.bl j)=aa (.bl (!(i==j))):=rfl
variable{f:MF1}
def aP{m:D->D->OD}{g:MF1}{x:D}(q:f ρ=aa x)(z:g ρ=aa y)(B:m x y=aa d):m2 m f g ρ=aa d:=by
 unfold m2;rw[q,z];exact B
variable{b:Bool}
def cK(h:f ρ=aa (.bl b)):mB f ρ=aa b:=by
 unfold mB;rw[h];rfl
def iA(h:f ρ=aa d)(h':qI d=aa b):cw f ρ=aa b:=by
 unfold cw;rw[h];exact h'
variable{f:MF4}
def iZ(h:f ρ=aa b):fc f ρ=aa (!b):=by
 unfold fc;rw[h];rfl
variable{g:MF4}
def K3{r:Option Bool}(h:f ρ=aa ab)(h':g ρ=r):g5 f g ρ=r:=by
 unfold g5;rw[h];exact h'
def K4(h:f ρ=aa ae):g5 f g ρ=aa ae:=by
 unfold g5;rw[h];rfl
def DN(h:f ρ=aa ab):mOr f g ρ=aa ab:=by
 unfold mOr;rw[h];rfl
def lC{r:Option Bool}(h:f ρ=aa ae)(h':g ρ=r):mOr f g ρ=r:=by
 unfold mOr;rw[h];exact h'
variable{a:Bool}
def xU(h:f ρ=aa a)(h':g ρ=aa b):g5 f g ρ=aa (a && b):=by
 cases a with
 |true=>exact K3 h h'
 |false=>exact K4 h
def K5(h:f ρ=aa a)(h':g ρ=aa b):mOr f g ρ=aa (a || b):=by
 cases a with
 |true=>exact DN h
 |false=>exact lC h h'
variable{f:MF1}
def lD{g:MF1}(h:f ρ=aa (.bl a))(h':g ρ=aa (.bl b)):iT f g ρ=aa (.bl (a && b)):=by
 unfold iT;rw[cK h]
 cases a with
 |true=>exact h'
 |false=>rfl
def xV{g:MF1}(h:f ρ=aa (.bl a))(h':g ρ=aa (.bl b)):vOr f g ρ=aa (.bl (a || b)):=by
 unfold vOr;rw[cK h]
 cases a with
 |true=>rfl
 |false=>exact h'
def K6(h:f ρ=aa (.bl a)):o8 f ρ=aa (.bl (!a)):=by
 unfold o8;rw[cK h];rfl
def ax{g:MF2}(h:f ρ=aa d)(h':g ρ=aa ds):ag f g ρ=aa (d::ds):=by
 unfold ag;rw[h,h'];rfl
variable{f:MF2}
def eV(h:f ρ=aa ds):bw f ρ=aa (.tup ds):=by
 unfold bw;rw[h];rfl
def bV(h:f ρ=aa ds):aI f ρ=aa (.lst ds):=by
 unfold aI;rw[h];rfl
def aT{g:MF1}{r:OD}(h:f ρ=aa ds)(h':g ρ=aa (.int i))(q:atI ds i=r):mIx f g ρ=r:=by
 unfold mIx;rw[h,h'];exact q
def t9{C:Int->Int->Prop}[∀i j,Decidable (C i j)]{g:Int->Int->D}{j:Int}(h:C i j):dI C g (.int i) (.int j)=aa (g i j):=by
 show(if C i j then aa (g i j) else ac)=_;rw[if_pos h]
variable{f:MF1}
def K7{i:Nat}(h:f ρ=aa d)(h':ρ[i]?=aa (.own xs))(q:xs.length<16777216):hJ i f ρ=aa (.nx (ρ.set i (.own (xs++[d])))):=by
 unfold hJ;rw[h]
 show(match ρ[i]? with |some (.own xs)=>if xs.length<16777216 then aa (Fl.nx (ρ.set i (.own (xs++[d])))) else ac | _=>ac)=_
 rw[h'];show(if xs.length<16777216 then _ else ac)=_;rw[if_pos q]
variable{hI:LS}
def gH{g:D->LS->Option LS}(q:g d ρ=aa hI)(z:ft hI=aa b)(B:b=ab->fe hI=aa y):fR g ft fe ρ d=aa (if b then aa y else ac):=by
 unfold fR;rw[q];show(ft hI).bind _=_;rw[z];show(if b=ab then (fe hI).map aa else aa ac)=_
 cases b with
 |true=>rw[B rfl];rfl
 |false=>rfl
def fu{g:D->LS->Option LS}(q:g d ρ=aa hI)(z:ft hI=aa ab)(B:fe hI=aa y):fR g ft fe ρ d=aa (aa y):=gH q z λ_=>B
def dn(h:f ρ=aa d)(h':iS d=aa ds):a9 f ρ=aa ds:=by
 unfold a9;rw[h];exact h'
variable{g:MF1}
def gJ(h:f ρ=aa d):bG f g ρ=aa d:=by
 unfold bG;rw[h];rfl
def cL{r:OD}(h:f ρ=ac)(h':g ρ=r):bG f g ρ=r:=by
 unfold bG;rw[h];exact h'
def pE{f:MF2}{n:Int}(h:f ρ=aa [.int n])(z:0<=n)(q:n<2 ^ 62):iV f ρ=aa ((bI n.toNat).map λ(i:Nat)=>D.int i):=by
 unfold iV;rw[h];show(if -(2 ^ 62)<=n/\n<2 ^ 62 then aa (rng 0 n.toNat) else ac)=_;rw[if_pos ⟨by lia,q⟩,K0]
 congr 1
 refine sC λi _=>?_;rw[Int.zero_add]
variable{m:LD->OD}{ns:LSt}
def dS{cn f:Str}{q:LD}(h:fo ρ=aa (.ins cn ns ds))(hn:ns.contains f=ae)(h':fa ρ=aa q):aY cn f m fo fa ρ=m (.ins cn ns ds::q):=by
 unfold aY;rw[h];show(if cn=cn/\ns.contains f=ae then (fa ρ).bind λq=>m (.ins cn ns ds::q) else ac)=_;rw[if_pos ⟨rfl,hn⟩,h'];rfl
def cM{cn f q:Str}(h:fo ρ=aa (.ins q ns ds))(hn:q≠cn):aY cn f m fo fa ρ=ac:=by
 unfold aY;rw[h];show(if q=cn/\ns.contains f=ae then (fa ρ).bind λB=>m (.ins q ns ds::B) else ac)=_;rw[if_neg λz=>hn z.1]
abbrev itD(z:Int×Int):D:=.tup [.int z.1,.int z.2]
abbrev shD:Option Bool->D
 |none=>.non
 |some b=>.bl b
abbrev InN(n:Nat)(its:List (Int×Int)):Prop:=∀z∈its,0<=z.1/\z.1<(n:Int)/\0<=z.2
def kf{es:List (Option Bool)}(q:0<=i)(z:i<es.length):atI (es.map shD) i=aa (shD (es.getD i.toNat ac)):=nU ac q z
def qS{es:List Bool}(q:0<=i)(z:i<es.length):atI (es.map D.bl) i=aa (.bl (es.getD i.toNat ae)):=nU ae q z
def qT(e:Option Bool)(b:Bool):dIs (shD e) (.bl b)=aa (.bl (e==aa b)):=by
 cases e with
 |none=>rfl
 |some c=>cases b <;> cases c <;> rfl
def DQ(e:Option Bool)(b:Bool):gD (shD e) (.bl b)=aa (.bl (!(e==aa b))):=by
 cases e with
 |none=>rfl
 |some c=>cases b <;> cases c <;> rfl
abbrev Prt.toD:Prt->D
 |.inn t=>.tup [.str "in",.int t]
 |.out t=>.tup [.str "out",.int t]
 |.least k its=>.tup [.str "least",.int k,.lst (its.map itD)]
 |.most k its=>.tup [.str "most",.int k,.lst (its.map itD)]
abbrev Prt.obj:Prt->D
 |.inn t=>.ins "In" ["thing"] [.int t]
 |.out t=>.ins "Out" ["thing"] [.int t]
 |.least k its=>.ins "Least" ["bound","pieces"] [.int k,.lst (its.map itD)]
 |.most k its=>.ins "Most" ["bound","pieces"] [.int k,.lst (its.map itD)]
abbrev Prt.Ok(n:Nat):Prt->Prop
 |.inn t=>0<=t/\t<(n:Int)
 |.out t=>0<=t/\t<(n:Int)
 |.least _ its=>InN n its/\its.length<=100000
 |.most _ its=>InN n its/\its.length<=100000
def K8(p:Int->Bool)(its:List (Int×Int)):((its.filter λz=>p z.1).map λz=>D.int z.2)=((its.filter λz=>p z.1).map (·.2)).map D.int:=by
 rw[map_map];rfl
def DR(p:Int->Bool)(its:List (Int×Int)):jx [.lst ((its.filter λz=>p z.1).map λz=>D.int z.2)]=aa (.int (jt p its)):=by
 rw[K8,DM];rfl
def xX:∀{bs:List Bool} {us:LVa},aC (bs.map V.bl) us->us=bs.map gz
 | [],_,.nil=>rfl
 |b::bs,_,.cons r t=>by
  rw[xX t];cases (show _=gz b from r);rfl
def K9(bs:List Bool):((bI bs.length).all λi=>(bs[i]?).getD ab)=bs.all id:=by
 rw[jQ,all_eq_true,all_eq_true];constructor
 .intro h b z;obtain⟨i,hi,e⟩:=List.getElem_of_mem z;have:=h i (eM.mpr hi);simp only[cj hi,oA,e]at this;exact this
 .intro h i hi;have q:=eM.mp hi;simp only[cj q,oA];exact h _ (kL q)
def La(bs:List Bool):((bI bs.length).any λi=>(bs[i]?).getD ae)=bs.any id:=by
 rw[jQ,any_eq_true,any_eq_true];constructor
 .rintro⟨i,hi,e⟩;have q:=eM.mp hi;simp only[cj q,oA]at e;exact⟨_,kL q,e⟩
 .rintro⟨b,z,e⟩;obtain⟨i,hi,rfl⟩:=List.getElem_of_mem z;exact⟨i,eM.mpr hi,by simp only[cj hi,oA];exact e⟩
def DU{h:Heap}{o:Obj}(q:∀b x,b∉[h.objs.size]->(h.push o).get? b=aa x->h'.get? b=aa x):∀b x,h.get? b=aa x->h'.get? b=aa x:=
 λb x e=>q b x (λhm=>by rw[dF.mp hm]at e;exact gt _ (bi e)) (bC _ e)
def Lb(U:X.calm=ab):iw X (.builtin "all") (λxs H Q=>∃(p:Addr) (bs:List Bool),xs=[.ref p]/\SqL X.K H p (bs.map V.bl)/\Q (.bl (bs.all id)) H):=by
 intro pins s σ H xs us Q I r h;obtain⟨l,bs,rfl,hq,q⟩:=h;obtain⟨u,rfl,rx⟩:=nB r;cases rx;obtain⟨its,r',pl,hz⟩:=I.list hq;have e:=xX r';subst e;have B:=pl.isList;have L:l<s.heap.objs.size:=by obtain⟨_,e,_⟩:=B;exact bi e
 refine call_all_walk (sJ B ?_)
 refine⟨s.heap.objs.size,[s.heap.objs.size,l],[s.heap.objs.size],(bs.map gz).toArray.size,_,_,λi=>(bs[i]?).getD ab,rfl,Walks.list (A:=X.A.in1) (I.ok.hd U) _ l (bW L) (bs.map gz).toArray,
  ⟨⟨_,cO _ rfl,rfl,rfl⟩,B.push _⟩,λi v s' Q' E' T M=>?_,λh' tk hk=>?_⟩
 .have z:(bs.map gz)[i]?=aa v:=by simpa using T
  obtain⟨b,e,rfl⟩:=nP z;simp only[e,oA]at M;exact lW M
 .have e:((bI (bs.map gz).toArray.size).all λi=>(bs[i]?).getD ab)=bs.all id:=by
   rw[size_toArray,aH];exact K9 bs
  rw[e];exact⟨.bl (bs.all id),H,I.kept (DU hk),rfl,q⟩
def Lc(U:X.calm=ab):iw X (.builtin "any") (λxs H Q=>∃(p:Addr) (bs:List Bool),xs=[.ref p]/\SqL X.K H p (bs.map V.bl)/\Q (.bl (bs.any id)) H):=by
 intro pins s σ H xs us Q I r h;obtain⟨l,bs,rfl,hq,q⟩:=h;obtain⟨u,rfl,rx⟩:=nB r;cases rx;obtain⟨its,r',pl,hz⟩:=I.list hq;have e:=xX r';subst e;have B:=pl.isList;have L:l<s.heap.objs.size:=by obtain⟨_,e,_⟩:=B;exact bi e
 refine call_any_walk (sJ B ?_)
 refine⟨s.heap.objs.size,[s.heap.objs.size,l],[s.heap.objs.size],(bs.map gz).toArray.size,_,_,λi=>(bs[i]?).getD ae,rfl,Walks.list (A:=X.A.in1) (I.ok.hd U) _ l (bW L) (bs.map gz).toArray,
  ⟨⟨_,cO _ rfl,rfl,rfl⟩,B.push _⟩,λi v s' Q' E' T M=>?_,λh' tk hk=>?_⟩
 .have z:(bs.map gz)[i]?=aa v:=by simpa using T
  obtain⟨b,e,rfl⟩:=nP z;simp only[e,oA]at M;exact lW M
 .have e:((bI (bs.map gz).toArray.size).any λi=>(bs[i]?).getD ae)=bs.any id:=by
   rw[size_toArray,aH];exact La bs
  rw[e];exact⟨.bl (bs.any id),H,I.kept (DU hk),rfl,q⟩
abbrev hU:LD->Option (List Bool)
 | []=>aa []
 |.bl b::ds=>(hU ds).map λr=>b::r
 | _=>ac
def DV:∀{ds:LD} {bs:List Bool},hU ds=aa bs->ds=bs.map D.bl
 | [],_,e=>by cases e;rfl
 |.bl b::ds,_,e=>by
  unfold hU at e
  cases es:hU ds with
  |none=>rw[es]at e;cases e
  |some r=>rw[es]at e;cases e;rw[DV es];rfl
 |.int _::_,_,e=>by cases e
 |.non::_,_,e=>by cases e
 |.str _::_,_,e=>by cases e
 |.lst _::_,_,e=>by cases e
 |.tup _::_,_,e=>by cases e
 |.kl _::_,_,e=>by cases e
 |.kt _::_,_,e=>by cases e
 |.dic _ _::_,_,e=>by cases e
 |.ins _ _ _::_,_,e=>by cases e
def xY(bs:List Bool):hU (bs.map D.bl)=aa bs:=by
 induction bs with
 |nil=>rfl
 |cons n ns q=>rw[bp,hU,q];rfl
def ao.bls{G:Gc}{H:Hp}:∀{bs:List Bool} {vs:List V},ao G H (bs.map D.bl) vs->vs=bs.map V.bl
 | [],_,h=>h
 |b::bs,_,q2_=>by
  obtain⟨v,r,e,q,z⟩:=q2_;subst e;rw[ao.bls z,show v=V.bl b from q];rfl
abbrev pG:LD->OD
 | [d]=>(lsD d).bind λds=>(hU ds).map λbs=>.bl (bs.all id)
 | _=>ac
abbrev ua:LD->OD
 | [d]=>(lsD d).bind λds=>(hU ds).map λbs=>.bl (bs.any id)
 | _=>ac
def ub{f:List Bool->D}(e:(match ds with | [d]=>(lsD d).bind λds=>(hU ds).map f | _=>ac)=aa d):∃q xs bs,ds=[q]/\lsD q=aa xs/\xs=bs.map D.bl/\d=f bs:=by
 split at e
 .rename_i q
  cases z:lsD q with
  |none=>rw[z]at e;cases e
  |some xs=>
   rw[z]at e;replace e:(hU xs).map f=aa d:=e
   cases B:hU xs with
   |none=>rw[B]at e;cases e
   |some bs=>rw[B]at e;cases e;exact⟨q,xs,bs,rfl,z,DV B,rfl⟩
 .cases e
def Ld(T:X.calm=ab):nO c X (.builtin "all") pG:=by
 rintro pins s σ H vs us Q I rv ⟨Hf,ds,d,z,r,e,k⟩;obtain⟨d0,xs,bs,rfl,B,rfl,rfl⟩:=ub e;obtain⟨v,M,U⟩:=r.one;subst M;obtain⟨a,ws,L,q,rs⟩:=j7 B U;subst L;refine Lb T pins s σ H _ us Q I rv ⟨a,bs,rfl,?_,k _ Hf H (Ext.refl z) rfl⟩;rw[<- rs.bls];exact z.seq q
def Le(T:X.calm=ab):nO c X (.builtin "any") ua:=by
 rintro pins s σ H vs us Q I rv ⟨Hf,ds,d,z,r,e,k⟩;obtain⟨d0,xs,bs,rfl,B,rfl,rfl⟩:=ub e;obtain⟨v,M,U⟩:=r.one;subst M;obtain⟨a,ws,L,q,rs⟩:=j7 B U;subst L;refine Lc T pins s σ H _ us Q I rv ⟨a,bs,rfl,?_,k _ Hf H (Ext.refl z) rfl⟩;rw[<- rs.bls];exact z.seq q
def Lf:∀ds d,pG ds=aa d->d.scalar=ab:=λds d e=>by
 obtain⟨q,xs,bs,rfl,z,rfl,rfl⟩:=ub e;rfl
def Lg:∀ds d,ua ds=aa d->d.scalar=ab:=λds d e=>by
 obtain⟨q,xs,bs,rfl,z,rfl,rfl⟩:=ub e;rfl
def Lh(bs:List Bool):pG [.lst (bs.map D.bl)]=aa (.bl (bs.all id)):=by
 show(hU (bs.map D.bl)).map _=_;rw[xY];rfl
def Li(bs:List Bool):ua [.lst (bs.map D.bl)]=aa (.bl (bs.any id)):=by
 show(hU (bs.map D.bl)).map _=_;rw[xY];rfl
inductive Wrd where
 |make |may |never
 deriving DecidableEq
abbrev Wrd.s:Wrd->Str
 |.make=>"make"
 |.may=>"may"
 |.never=>"never"
structure Rul where
 w:Wrd
 hd:Int
 ps:List Prt
abbrev Rul.hdD(r:Rul):D:=match r.w with
 |.never=>.non
 | _=>.int r.hd
abbrev Rul.toD(r:Rul):D:=.tup [.str r.w.s,r.hdD,.lst (r.ps.map Prt.toD)]
structure Rul.Ok(n:Nat)(r:Rul):Prop where
 hd:r.w≠.never->0<=r.hd/\r.hd<(n:Int)
 ps:∀p∈r.ps,p.Ok n
 len:r.ps.length<=100000
abbrev Rul.bodyLost(r:Rul)(es:List (Option Bool))(ws:List Bool):Bool:=r.ps.any λp=>p.lost es ws
def Lj{q:Type}(f:q->Bool)(xs:List q):(xs.map λx=>D.bl (f x))=(xs.map f).map D.bl:=by
 rw[map_map];rfl
def all_map(f:Prt->Bool)(xs:List Prt):pG [.lst (xs.map λx=>D.bl (f x))]=aa (.bl (xs.all f)):=by
 rw[Lj,Lh,sD];rfl
def nV{p q:Int->Bool}:∀{its:List (Int×Int)},(∀z∈its,0<=z.2/\(p z.1=ab->q z.1=ab))->jt p its<=jt q its
 | [],_=>Int.le_refl _
 |z::its,h=>by
  have L:=nV (its:=its) λy T=>h y (bo _ T);obtain⟨U,M⟩:=h z aN;unfold jt at L ⊢
  cases I:p z.1 with
  |true=>
   have B:=M I;rw[kK (by simpa using I),kK (by simpa using B),bp,bp,sum_cons,sum_cons]
   lia
  |false=>
   rw[mO (by simp[I])]
   cases B:q z.1 with
   |true=>
    rw[kK (by simpa using B),bp,sum_cons]
    lia
   |false=>
    rw[mO (by simp[B])];exact L
structure bH(es es':List (Option Bool)):Prop where
 len:es'.length=es.length
 at':∀i,es.getD i ac=ac\/es'.getD i ac=es.getD i ac
structure pH(ws ws':List Bool):Prop where
 len:ws'.length=ws.length
 at':∀i,ws.getD i ae=ab->ws'.getD i ae=ab
def bH.refl(es:List (Option Bool)):bH es es:=⟨rfl,λ_=>.inr rfl⟩
def pH.refl(ws:List Bool):pH ws ws:=⟨rfl,λ_ h=>h⟩
variable{es':List (Option Bool)}
def xZ{es:List (Option Bool)}{p:Prt}(f:bH es es')(h:p.Ok es.length)(s:p.sure es=ab):p.sure es'=ab:=by
 have key:∀{i:Nat} {b:Bool},(es.getD i ac==aa b)=ab->(es'.getD i ac==aa b)=ab:=λ{i b} e=>by
  rcases f.at' i with z |z
  .rw[z]at e;cases b <;> cases e
  .rw[z];exact e
 have B:∀{i:Nat},(!(es'.getD i ac==aa ae))=ab->(!(es.getD i ac==aa ae))=ab:=λ{i} e=>by
  cases q:(es.getD i ac==aa ae)with
  |false=>rfl
  |true=>rw[key q]at e;exact e
 cases p with
 |inn t=>exact key s
 |out t=>exact key s
 |least k its=>
  have s:k<=bc (·==aa ab) es its:=of_decide_eq_true s;refine decide_eq_true (Int.le_trans s ?_);rw[lu,lu]
  exact nV λz hz=>⟨(h.1 z hz).2.2,λe=>key e⟩
 |most k its=>
  have s:bc (λe=>!(e==aa ae)) es its<=k:=of_decide_eq_true s;refine decide_eq_true (Int.le_trans ?_ s);rw[lu,lu];exact nV λz hz=>⟨(h.1 z hz).2.2,λe=>B e⟩
variable{ws:List Bool}
def DY{es:List (Option Bool)}{ws':List Bool}{p:Prt}(f:bH es es')(g:pH ws ws')(h:p.Ok es.length)(s:p.lost es ws=ab):p.lost es' ws'=ab:=by
 have key:∀{i:Nat} {b:Bool},(es.getD i ac==aa b)=ab->(es'.getD i ac==aa b)=ab:=λ{i b} e=>by
  rcases f.at' i with z |z
  .rw[z]at e;cases b <;> cases e
  .rw[z];exact e
 cases p with
 |inn t=>
  have s:((es.getD t.toNat ac==aa ae) || ws.getD t.toNat ae)=ab:=s;show((es'.getD t.toNat ac==aa ae) || ws'.getD t.toNat ae)=ab;rw[i9]at s ⊢
  exact s.imp key (g.at' _)
 |out t=>exact key s
 |least k its=>
  have s:jt (λt=>!(es.getD t.toNat ac==aa ae) && !(ws.getD t.toNat ae)) its<k:=of_decide_eq_true s;refine decide_eq_true (Int.lt_of_le_of_lt (nV λz hz=>⟨(h.1 z hz).2.2,λe=>?_⟩) s);rw[cx]at e ⊢;refine⟨?_,?_⟩
  .cases q:(es.getD z.1.toNat ac==aa ae)with
   |false=>rfl
   |true=>rw[key q]at e;exact e.1
  .cases q:ws.getD z.1.toNat ae with
   |false=>rfl
   |true=>rw[g.at' _ q]at e;exact e.2
 |most k its=>
  have s:k<bc (·==aa ab) es its:=of_decide_eq_true s;refine decide_eq_true (Int.lt_of_lt_of_le s ?_);rw[lu,lu];exact nV λz hz=>⟨(h.1 z hz).2.2,λe=>key e⟩
def uc{z:Type}{p q:z->Bool}{xs:List z}(h:∀x∈xs,p x=ab->q x=ab)(s:xs.any p=ab):xs.any q=ab:=by
 rw[any_eq_true]at s ⊢;obtain⟨x,hx,e⟩:=s;exact⟨x,hx,h x hx e⟩
abbrev Ite(K:aV)(l:Addr):It:=
  ⟨λi H=> ∃xs x, SqL K H l xs/\xs[i]? = aa x,
   λi H v H'=> ∃p x, v = .ref p/\H p = ac/\H' = upd H p (.tup [.int i, x])/\(∀xs, SqL K H l xs->xs[i]? = aa x),
   λi H=> ∃xs, SqL K H l xs/\xs.length<=i⟩
def Lk(e it l:Addr)(ne:e≠it):
  lq P w K (.Tuple j0 kx pos) (Ite K l) [e,it] e (λi h=>(∃old,IsEnum h e it (i:Int) old)/\h.IsListIter it l i) where
 mem:=by simp
 obj:=λi h st b hb=>by
  obtain⟨⟨old,he⟩,⟨o1,e1,_,d1⟩⟩:=st;simp only[aQ,cG,or_false]at hb
  rcases hb with rfl |rfl
  .exact⟨_,he,λv q=>by cases q⟩
  .exact⟨o1,e1,λv q=>by rw[d1]at q;cases q⟩
 keep:=λi h h' st k=>by
  obtain⟨⟨old,he⟩,h1⟩:=st;exact⟨⟨old,k e (by simp) _ he⟩,h1.at λo q=>k it (by simp) o q⟩
 item:=by
  intro X hP hw hK hc i pins s σ H E I hf st hg;subst hP hw hK;obtain⟨⟨old,he⟩,h1⟩:=st;obtain⟨xs,x,q1,hx⟩:=hg;obtain⟨its1,r1,p1,z1⟩:=I.list q1;obtain⟨u1,e1,ru1⟩:=r1.get hx;refine wpAny_pyNext_enum_item he h1 p1.isList (x:=u1) (by simpa using e1) ne λh' a1 a3 a5 a6 a7=>⟨_,rfl,?_⟩
  refine wpAny_letOwnedTupleGo_enum (s:={s with heap:=h',toks:=s.toks+1}) a1 λmu b1 b2=>?_
  have lt:∀b∈[e,it],b<s.heap.objs.size:=λb hb=>by
   simp only[aQ,cG,or_false]at hb
   rcases hb with rfl |rfl
   .exact bi he
   .obtain⟨o,e,_⟩:=h1;exact bi e
  have kk:∀b o,b∉[e,it]->s.heap.get? b=aa o->mu.get? b=aa o:=λb o hb e=>by
   simp only[aQ,cG,or_false,not_or]at hb;obtain⟨n1,n2⟩:=hb;exact(b2.2 b n1).trans (a7 b o n1 n2 e)
  have fr:H s.heap.objs.size=ac:=I.hok.fresh (aL _)
  have I1:Inv X pins σ H {s with heap:=mu,toks:=s.toks+1}:=I.turnedMany (t':=s.toks+1) kk hf
  have hp:mu.get? s.heap.objs.size=aa {cls:=.type "tuple",data:=.seq #[.int i s.toks,u1]}:=(b2.2 _ (kU (lt e (by simp)))).trans a5
  have I2:Inv X pins σ (upd H s.heap.objs.size (.tup [.int i,x])) {s with heap:=mu,toks:=s.toks+1}:=
   I1.track (I.fpOk (aL _) fr) ⟨(by show 2<=aR;decide),[.int i s.toks,u1],.cons ⟨s.toks,rfl⟩ (.cons ru1 .nil),⟨_,hp,rfl,_,rfl⟩⟩
  refine⟨.ref s.heap.objs.size,_,I2,rfl,⟨_,x,rfl,fr,rfl,λxs' h=>by rw[I.list_inj h q1];exact hx⟩,⟨⟨u1,?_⟩,?_⟩,λb hb=>?_⟩
  .have:((i+1:Nat):Int)=(i:Int)+1:=by push_cast;rfl
   rw[this];exact b1
  .exact a3.at λo q=>(b2.2 it (eZ ne)).trans q
  .rw[aJ (bW (lt b hb))];exact(hf b hb).1
 done:=by
  intro X hP hw hK hc i pins s σ H E I hf st hg;subst hP hw hK;obtain⟨⟨old,he⟩,h1⟩:=st;obtain⟨xs,q1,hend⟩:=hg;obtain⟨its1,r1,p1,z1⟩:=I.list q1;have l1':=r1.length;refine wpAny_pyNext_enum_end (I.ok.hd hc) he h1 p1.isList (by simp;lia) λh' kk=>⟨rfl,I.turnedMany (t':=s.toks) (ch:=[e,it]) (λb o hb q=>?_) hf⟩;simp only[aQ,cG,or_false,not_or]at hb;exact kk b o hb.2 q
 self:=λ_ _ _ _ _ st h=>by obtain⟨⟨old,he⟩,_⟩:=st;exact wpAny_pyIter_enum he h
abbrev Ll(K:aV)(ta:TA):TI:=λσ H R=>ta σ H λvs H1=>∃l,vs=[.ref l]/\(∃xs,SqL K H1 l xs)/\R (Ite K l) H1
variable{a:Expr}
def D0(hg:Gl X "enumerate")(hm:X.mg "enumerate"=ac)(ha:PA X [a] ta)(hs:aO [a] X.env=[(ae,eval a X.env)]:=by rfl):
  PI X (.Tuple j0 kx pw) (.Call (.Name "enumerate" p) [a] [] pos) (Ll X.K ta):=by
 intro pins s σ H R I h;refine Call_ (jl I hg hm boot_enumerate (mS (thn (ha pos pins s σ H _ I h) λus s1 ⟨vs,H1,B,U,q1⟩=>?_) (by rw[hs];rfl) (by rfl)));obtain⟨l,e,⟨xs,h1⟩,q⟩:=q1;subst e;obtain⟨u,rfl,ru⟩:=nB U;cases ru;obtain⟨T,U,p1,z1⟩:=B.list h1;refine call_enumerate_list p1.isList λh' L a4 a6 a7=>?_;refine wpAny_pyIter_enum L ?_
 have I2:Inv X pins σ H1 {s1 with heap:=h'}:=B.kept (t':=s1.toks) a7
 refine⟨_,[s1.heap.objs.size+1,s1.heap.objs.size],_,_,H1,rfl,I2,Lk _ _ _ (Nat.succ_ne_self _),⟨⟨_,L⟩,a4⟩,λb M=>?_,q⟩;simp only[aQ,cG,or_false]at M
 have z:s1.heap.objs.size<=b:=by
  rcases M with rfl |rfl
  .exact oz _ _
  .exact aL _
 exact B.fpOk z (B.hok.fresh z)
abbrev iB:Nat->LD->LD
 | _,[]=>[]
 |i,x::xs=>.tup [.int i,x]::iB (i+1) xs
def x6:∀(i:Nat) (xs:LD),(iB i xs).length=xs.length
 | _,[]=>rfl
 |i,x::xs=>by rw[iB,cp,cp,x6]
def x8:∀(k:Nat) (xs:LD) (i:Nat),(iB k xs)[i]?=(xs[i]?).map λx=>.tup [.int (k+i:Nat),x]
 | _,[],_=>rfl
 |k,x::xs,0=>rfl
 |k,x::xs,i+1=>by rw[iB,eJ,eJ,x8 (k+1) xs i,show k+1+i=k+(i+1) by lia]
abbrev x9:LD->OLD
 | [x]=>(lsD x).map (iB 0)
 | _=>ac
abbrev nW(f:MF2)(ρ:LS):OLD:=(f ρ).bind x9
def D1{f:MF2}(hg:Gl X "enumerate")(hm:X.mg "enumerate"=ac)(ha:DA c X [a] f)(hs:aO [a] X.env=[(ae,eval a X.env)]:=by rfl):
  DI c X (.Tuple j0 kx pw) (.Call (.Name "enumerate" p) [a] [] pos) (nW f):=
 PI.imp (D0 hg hm ha.pa hs) λσ H R q_=>by
  obtain⟨Hf0,H0,Hf,ρ,ds,st,q,k⟩:=q_;unfold nW at q
  cases M:f ρ with
  |none=>rw[M]at q;cases q
  |some as=>
   rw[M]at q;replace q:x9 as=aa ds:=q;refine⟨Hf0,H0,Hf,ρ,as,st,M,λvs Hf' H' x r=>?_⟩;unfold x9 at q;split at q
   .rename_i dx
    cases ex:lsD dx with
    |none=>rw[ex]at q;cases q
    |some xs=>
     rw[ex]at q;cases q;obtain⟨v,ev,rv⟩:=r.one;obtain⟨l1,L,T,q1,r1⟩:=j7 ex rv;subst T;refine⟨l1,ev,⟨L,x.s.seq q1⟩,k _ Hf' H' x λdr H2 f2 s2 i=>?_⟩;have U:SqL X.K H2 l1 L:=(f2.trans s2).seq q1;have h1:=r1.length;refine⟨λd B=>?_,λei=>⟨L,U,by rw[x6]at ei;lia⟩⟩;rw[x8]at B
     cases hx:xs[i]? with
     |none=>rw[hx]at B;cases B
     |some x'=>
      rw[hx]at B;cases B;obtain⟨u1,I,ru1⟩:=r1.get hx;refine⟨⟨L,u1,U,I⟩,λz H3 ⟨pp,z1,ez,hp,eh,y1⟩=>?_⟩;subst ez eh;have a1:=y1 L U;rw[I]at a1;cases a1;exact⟨upd dr pp (.tup [.int i,u1]),Ext.new s2 hp,pp,[.int i,u1],rfl,aZ,.cons (by rw[lV];rfl) (.cons (ru1.up (f2.trans (bP (s2.free hp)))) .nil)⟩
   .cases q
abbrev kg:D->Option Key
 |.int i=>aa (.inl i)
 |.str x=>aa (.inr x)
 | _=>ac
variable{k:Key}
def ud(e:kg d=aa k)(r:Rep G H d v):v=kV k:=by
 cases d <;> first |(cases e;done) |(cases e;exact r)
abbrev fV(ks:List Key)(k:Key):Bool:=ks.any λj=>decide (j=k)
abbrev gK{q:Type}(ks:List Key)(xs:List q)(k:Key)(x:q):List q:=if fV ks k=ab then lS (λj y=>if j=k then x else y) ks xs else xs++[x]
abbrev gh(ks:List Key)(k:Key):List Key:=if fV ks k=ab then ks else ks++[k]
def D2{ks:List Key}{k:Key}{v:V}:∀{ks:List Key} {vs:List V},(ks.zip vs).map (λq=>if q.1=k then (q.1,v) else q)=ks.zip (lS (λj y=>if j=k then v else y) ks vs)
 | [],_=>rfl
 | _::_,[]=>rfl
 |j::ks,y::vs=>by
  rw[d9,bp,sy,d9,D2 (ks:=ks)]
  by_cases h:j=k
  .subst h;simp
  .simp[h]
def ya{k:Key}:∀{ks:List Key} {vs:List V},ks.length=vs.length->((ks.zip vs).any λq=>decide (q.1=k))=fV ks k
 | [],[],_=>rfl
 | [],_::_,h=>by cases h
 | _::_,[],h=>by cases h
 |j::ks,y::vs,h=>by
  unfold fV;rw[d9,gS,gS,ya (by simpa using h)];rfl
variable{ks:List Key}
def Lm(h:ks.length=vs.length):dA (ks.zip vs) k v=(gh ks k).zip (gK ks vs k v):=by
 unfold dA gh gK;rw[ya h]
 by_cases e:fV ks k=ab
 .rw[if_pos e,if_pos e,if_pos e,D2 (ks:=ks)]
 .rw[if_neg e,if_neg e,if_neg e,zip_append h];rfl
def d3{q:Type}{vs:List q}{v:q}(h:ks.length=vs.length):(gh ks k).length=(gK ks vs k v).length:=by
 unfold gh gK
 by_cases e:fV ks k=ab
 .rw[if_pos e,if_pos e,length_zipWith];lia
 .rw[if_neg e,if_neg e,a8,a8,h];rfl
def ao.zipW{G:Gc}{H:Hp}{k:Key}{d:D}{v:V}(q:Rep G H d v):∀{ks:List Key} {ds:LD} {vs:List V},ao G H ds vs->ao G H (lS (λj y=>if j=k then d else y) ks ds) (lS (λj y=>if j=k then v else y) ks vs)
 | [],_,_,_=>.nil
 | _::_,[],_,h=>by cases (show _=[]from h);exact .nil
 |j::ks,x::ds,_,q3_=>by
  obtain⟨u,r,e,z,B⟩:=q3_;subst e;rw[sy,sy];refine .cons ?_ (ao.zipW q B)
  by_cases e:j=k
  .rw[if_pos e,if_pos e];exact q
  .rw[if_neg e,if_neg e];exact z
def ao.put(r:ao G H ds vs)(q:Rep G H d v):ao G H (gK ks ds k d) (gK ks vs k v):=by
 unfold gK
 by_cases e:fV ks k=ab
 .rw[if_pos e,if_pos e];exact r.zipW q
 .rw[if_neg e,if_neg e];exact r.append (.cons q .nil)
abbrev ue(i:Nat)(ρ:LS):Option Fl:=aa (.nx (ρ.set i (.ownd [] [])))
abbrev lE(i:Nat)(q z:MF1)(ρ:LS):Option Fl:=(z ρ).bind λd=>(q ρ).bind λx=>(kg x).bind λk=>match ρ[i]? with
 |some (.ownd ks xs)=>if ks.length<16777216 then aa (.nx (ρ.set i (.ownd (gh ks k) (gK ks xs k d)))) else ac
 | _=>ac
abbrev yb(x y:D):OD:=(kg x).bind λk=>match y with
 |.dic ks _=>aa (.bl (fV ks k))
 | _=>ac
variable{i:Nat}
def Ln(L:PS X st (iP CV (gX i))):DS c X st (ue i):=PS.imp L λE σ H M=>by
 obtain⟨Hf0,H0,Hf,ρ,o,B,I,k⟩:=M;cases I;intro q z;have x:Ext Hf H Hf (upd H q (.dK [])):=Ext.tmp B.sub z;exact k _ Hf _ x.f (B.setOwn (s:=.ownd [] []) rfl x z (B.sub.free z) ⟨[],aZ,rfl,.nil⟩)
variable{p':Pos}
def D3(i:Nat)(q:X.N.Nodup)(hi:X.N[i]?=aa x:=by rfl)(hx:Loc X.env.scope x:=by first |exact b7 rfl |exact bB rfl)(B:gx (.Dict [] [] pos) (aa (.Name x eH)) p'.line X.env=pure ae:=by rfl)(z:LcF X x:=by first |exact .inl rfl |exact .inr rfl):
  DS c X (.Assign [.Name x eH] (.Dict [] [] pos) p') (ue i):=Ln (nA q hi hx J5 B z)
variable{fk fv:MF1}
def Lo(hp:PS X st (xu (di i) (tD (Gx c X) fk) (tD (Gx c X) fv))):DS c X st (lE i fk fv):=PS.imp hp λE σ H q_=>by
 obtain⟨Hf0,H0,Hf,ρ,o,so,B,k⟩:=q_;unfold lE at B
 cases T:fv ρ with
 |none=>rw[T]at B;cases B
 |some d=>
  rw[T]at B
  cases U:fk ρ with
  |none=>rw[U]at B;cases B
  |some x=>
   rw[U]at B
   cases e3:kg x with
   |none=>rw[aA,aA,e3]at B;cases B
   |some L=>
    rw[aA,aA,e3]at B
    replace B:(match ρ[i]? with |some (.ownd ks xs)=>if ks.length<16777216 then aa (Fl.nx (ρ.set i (.ownd (gh ks L) (gK ks xs L d)))) else ac | _=>ac)=aa o:=B
    split at B
    .rename_i ks xs es;split at B
     .rename_i hl;cases B;refine⟨Hf0,H0,Hf,ρ,d,so,T,λv eD H1 x1 r1=>?_⟩;have I:=so.step x1;obtain⟨l,el,h0,hf,vs,q,z,r⟩:=I.ownAt rfl es;refine⟨_,el,Hf0,H0,eD,ρ,x,I,U,λy dr H2 M r2=>?_⟩;have so2:=I.step M;have q2:=M.h _ _ q;have ey:=ud e3 r2;subst ey;refine⟨l,_,rfl,mh.k q2 (by rw[dG,ow];lia),?_⟩;refine k σ dr _ (x1.f.trans M.f) (so2.mutd (s:=.ownd ks xs) (s':=.ownd (gh ks L) (gK ks xs L d)) rfl rfl es el ⟨gK ks vs L v,?_,d3 z,(r.up M.f).put (r1.up M.f)⟩);rw[aZ,Lm z]
     .cases B
    .cases B
variable{i' value:Expr}
def D4(I:X.A.units+64<cLine)(z:PE X e (di i))(q:DE c X i' fk)(hv:DE c X value fv)(B:gx value (aa (.Subscript e i' eH)) pos.line X.env=pure ae:=by rfl):
  DS c X (.Assign [.Subscript e i' eH] value pos) (lE i fk fv):=Lo (CU (by lia) z q hv B)
def Lp:∀{ks:List Key} {vs:List V},ks.length=vs.length->(cQ (ks.zip vs) k).isSome=fV ks k:=λ{ks vs} h=>by
 rw[<- tz,ya h]
variable{b:Expr}
def Lq(hu:X.A.units+64<cLine)(ha:DE c X a f)(hb:DE c X b g)(hm:lX .In b=ae:=by first |exact nobehind _ (by decide) (by decide) |rfl):DE c X (.Compare a [.In] [b] pos) (m2 yb f g):=
 PE.imp (Hx (J1 (by lia) ha hb) hm) λσ H Q q_=>by
  obtain⟨Hf0,H0,Hf,ρ,d,st,ef,k⟩:=q_;obtain⟨x,y,T,U,B⟩:=tI ef;refine⟨Hf0,H0,Hf,ρ,x,st,T,λv eD H1 L r1=>⟨Hf0,H0,eD,ρ,y,st.step L,U,λu dr H2 M r2=>?_⟩⟩;unfold yb at B
  cases I:kg x with
  |none=>rw[I]at B;cases B
  |some ky=>
   rw[I]at B
   cases y with
   |dic ks xs=>
    cases B;obtain⟨l,vs,el,q,z,r⟩:=r2;have ev:=ud I r1;subst ev el;refine⟨l,_,rfl,gC.k (M.s _ _ q),k _ dr H2 (L.trans M) ?_⟩;rw[Lp z]
    rfl
   | _=>cases B
abbrev mq(i:Nat)(fk fv:MF1)(ρ:LS):Option Fl:=(fv ρ).bind λd=>(fk ρ).bind λx=>match x with
 | .int k=>(match ρ[i]? with
  |some (.own xs)=>(ixN xs.length k).map λj=>.nx (ρ.set i (.own (xs.set j d)))
  | _=>ac)
 | _=>ac
def Lr(hp:PS X st (iP (tD (Gx c X) fv) (wS (di i) (tD (Gx c X) fk) xi))):DS c X st (mq i fk fv):=PS.imp hp λE σ H q_=>by
 obtain⟨Hf0,H0,Hf,ρ,o,so,z,k⟩:=q_;unfold mq at z
 cases M:fv ρ with
 |none=>rw[M]at z;cases z
 |some d=>
  rw[M]at z
  cases T:fk ρ with
  |none=>rw[T]at z;cases z
  |some x=>
   rw[T]at z
   obtain⟨I,rfl⟩:∃I,x=.int I:=by cases x <;> first |exact⟨_,rfl⟩ |cases z
   replace z:(match ρ[i]? with |some (.own xs)=>(ixN xs.length I).map λj=>Fl.nx (ρ.set i (.own (xs.set j d))) | _=>ac)=aa o:=z
   split at z
   .rename_i xs es
    cases U:ixN xs.length I with
    |none=>rw[U]at z;cases z
    |some j=>
     rw[U]at z;cases z;refine⟨Hf0,H0,Hf,ρ,d,so,M,λv eD H1 x1 r1=>?_⟩;have B:=so.step x1;obtain⟨l,el,h0,hf,vs,q,r⟩:=B.ownAt rfl es;refine⟨_,el,Hf0,H0,eD,ρ,.int I,B,T,λy dr H2 L r2=>?_⟩;have so2:=B.step L;have q2:=L.h _ _ q;refine⟨l,vs,I,j,rfl,r2,q2,by rw[<- r.length];exact U,?_⟩;exact k σ dr _ (x1.f.trans L.f) (so2.mutd (s:=.own xs) (s':=.own (xs.set j d)) rfl rfl es el ⟨vs.set j v,aZ,(r.up L.f).set j (r1.up L.f)⟩)
   .cases z
def D5(B:PE X e (di i))(z:DE c X i' fk)(hv:DE c X value fv)(I:swapsWithSole [.Subscript e i' eH] value pos.line X.env=pure ae:=by rfl)(L:swappedStores [.Subscript e i' eH] value X.env=pure ac:=by rfl)
 (q:(jg [.Subscript e i' eH] X.env).map (·.2)=[iJ (.Subscript e i' eH) X.env]:=by rfl)
 (ha:∀ v,iJ (.Subscript e i' eH) X.env v=(do
   let ov <- fG [v] (eval e X.env)
   let iv <- fG [v,ov] (eval i' X.env)
   iI eH
   fG [v,ov,iv] (setItem ov iv v)
   release [v,ov,iv] []):=by intro _;rfl):
  DS c X (.Assign [.Subscript e i' eH] value pos) (mq i fk fv):=Lr (Cg hv (Cf B z CG ha) I L q)
def yc{G:Gc}{H:Hp}{f:D->D->Option Bool}(T:∀(L M x:D) (B I:Bool) (v:V),Rep G H L v->Rep G H M v->f L x=aa B->f M x=aa I->B=I):
  ∀{q z ys:LD} {B I:Bool} {vs:List V},ao G H q vs->ao G H z vs->df f q ys=aa B->df f z ys=aa I->B=I
 | [],[],[],_,_,_,_,_,h1,h2=>by cases h1;cases h2;rfl
 | [],[],_::_,_,_,_,_,_,h1,h2=>by cases h1;cases h2;rfl
 | [],_::_,_,_,_,_,r1,r2,_,_=>by have:=r1.length;have:=r2.length;simp at *;lia
 | _::_,[],_,_,_,_,r1,r2,_,_=>by have:=r1.length;have:=r2.length;simp at *;lia
 | _::_,_::_,[],_,_,_,_,_,h1,h2=>by cases h1;cases h2;rfl
 |L::q,M::z,y::ys,B,I,vs,r1,r2,h1,h2=>by
  obtain⟨v,r,e,p1,q1⟩:=r1;obtain⟨v',r',e',p2,q2⟩:=r2;subst e;cases e';obtain⟨U,a2,e1,e2,rfl⟩:=tQ h1;obtain⟨c1,c2,g1,g2,rfl⟩:=tQ h2;have z1:U=c1:=T _ _ _ _ _ _ p1 p2 e1 g1;have z2:a2=c2:=yc (f:=f) T q1 q2 e2 g2;rw[z1,z2]
abbrev vD:V->D
 |.bl b=>.bl b
 |.int i=>.int i
 |.str x=>.str x
 | _=>.non
def D6(s:d.scalar=ab)(r:Rep G H d v):d=vD v:=by
 cases d <;> first |(cases s;done) |(rw[show v=_ from r];rfl)
def uf{a:Addr}(s:d.scalar=ab)(r:Rep G H d (.ref a)):False:=by
 cases d <;> first |(cases s;done) |(cases (show _=_ from r))
def ug{G:Gc}{H:Hp}:∀(n:Nat) {d1 d2 x:D} {b1 b2:Bool} {v:V},Rep G H d1 v->Rep G H d2 v->deq n d1 x=aa b1->deq n d2 x=aa b2->b1=b2
 | 0,_,_,_,_,_,_,_,_,h,_=>by cases h
 |n+1,d1,d2,x,b1,b2,v,r1,r2,h1,h2=>by
  replace h1:nJ (deq n) d1 x=aa b1:=h1;replace h2:nJ (deq n) d2 x=aa b2:=h2
  have L:∀{xs ys:LD},d1=.lst xs->d2=.lst ys->b1=b2:=λ{xs ys} M z=>by
   subst M z;obtain⟨a,vs,e,q,rs⟩:=r1;obtain⟨a',md,I,U,B⟩:=r2;rw[e]at I;cases I;rw[q]at U;cases U;have l1:=rs.length;have l2:=B.length
   cases x with
   |lst zs=>
    replace h1:(if xs.length=zs.length then df (deq n) xs zs else aa ae)=aa b1:=h1;replace h2:(if ys.length=zs.length then df (deq n) ys zs else aa ae)=aa b2:=h2
    by_cases hl:xs.length=zs.length
    .rw[if_pos hl]at h1;rw[if_pos (by lia)]at h2;exact yc (f:=deq n) (λ_ _ _ _ _ _=>ug n) rs B h1 h2
    .rw[if_neg hl]at h1;rw[if_neg (by lia)]at h2
     cases h1;cases h2;rfl
   | _=>cases h1
  have T:∀{xs ys:LD},d1=.tup xs->d2=.tup ys->b1=b2:=λ{xs ys} M z=>by
   subst M z;obtain⟨a,vs,e,q,rs⟩:=r1;obtain⟨a',md,I,U,B⟩:=r2;rw[e]at I;cases I;rw[q]at U;cases U;have l1:=rs.length;have l2:=B.length
   cases x with
   |tup zs=>
    replace h1:(if xs.length=zs.length then df (deq n) xs zs else ac)=aa b1:=h1;replace h2:(if ys.length=zs.length then df (deq n) ys zs else ac)=aa b2:=h2
    by_cases hl:xs.length=zs.length
    .rw[if_pos hl]at h1;rw[if_pos (by lia)]at h2;exact yc (f:=deq n) (λ_ _ _ _ _ _=>ug n) rs B h1 h2
    .rw[if_neg hl]at h1
     cases h1
   | _=>cases h1
  have no:∀{d:D} {b:Bool},nJ (deq n) d x=aa b->d.scalar=ab\/(∃xs,d=.lst xs)\/∃xs,d=.tup xs:=λ{d b} h=>by
   unfold nJ at h;split at h
   .exact .inr (.inl ⟨_,rfl⟩)
   .exact .inr (.inr ⟨_,rfl⟩)
   .split at h
    .rename_i hc;rw[cx,cx]at hc;exact .inl hc.1.1
    .cases h
  rcases no h1 with s1 |⟨xs,M⟩ |⟨xs,M⟩
  .have:d1=d2:=by
    rcases no h2 with s2 |⟨ys,z⟩ |⟨ys,z⟩
    .rw[D6 s1 r1,<- D6 s2 r2]
    .subst z;obtain⟨a,_,e,_⟩:=r2;subst e;exact(uf s1 r1).elim
    .subst z;obtain⟨a,_,e,_⟩:=r2;subst e;exact(uf s1 r1).elim
   subst this;rw[h1]at h2;cases h2;rfl
  .rcases no h2 with s2 |⟨ys,z⟩ |⟨ys,z⟩
   .subst M;obtain⟨a,_,e,_⟩:=r1;subst e;exact(uf s2 r2).elim
   .exact L M z
   .subst M z;obtain⟨a,vs,e,q,rs⟩:=r1;obtain⟨a',md,I,U,B⟩:=r2;rw[e]at I;cases I;rw[q]at U;cases U
  .rcases no h2 with s2 |⟨ys,z⟩ |⟨ys,z⟩
   .subst M;obtain⟨a,_,e,_⟩:=r1;subst e;exact(uf s2 r2).elim
   .subst M z;obtain⟨a,vs,e,q,rs⟩:=r1;obtain⟨a',md,I,U,B⟩:=r2;rw[e]at I;cases I;rw[q]at U;cases U
   .exact T M z
abbrev fW(x:D):LD->Option Bool
 | []=>aa ae
 |d::ds=>(deq 19 d x).bind λb=>(fW x ds).map λr=>b || r
abbrev iC(x y:D):OD:=((iS y).bind (fW x)).map .bl
def D7:∀x y d,iC x y=aa d->d.scalar=ab:=λ_ _ d e=>pb (g:=id) d e
def D8{x:D}{b:Bool}(h:fW x (d::ds)=aa b):∃q z,deq 19 d x=aa q/\fW x ds=aa z/\b=(q || z):=by
 unfold fW at h
 cases B:deq 19 d x with
 |none=>rw[B]at h;cases h
 |some q=>
  cases I:fW x ds with
  |none=>rw[B,I]at h;cases h
  |some z=>rw[B,I]at h;cases h;exact⟨q,z,rfl,rfl,rfl⟩
def yd{q:Type}{f g:q->Bool}:∀{l:List q},(∀x∈l,f x=g x)->l.any f=l.any g
 | [],_=>rfl
 |x::l,h=>by rw[gS,gS,h x aN,yd λy z=>h y (bo _ z)]
open Classical in
def uh{pins:PNS}{σ:St}{H:Hp}{s:ai}{A:cI}{x:D}{vx:V}{u:Value}(I:Inv X pins σ H s)(hu:A.units+19<cLine)(rx:Rep (Gx c X) H x vx)(ru:aE vx u):
  ∀{ds:LD} {vs:List V} {us:LVa} {b:Bool},ao (Gx c X) H ds vs->aC vs us->fW x ds=aa b ->
   ∃f:Value->Bool,(∀y∈us,cD A s y u (f y)/\∃d v,Rep (Gx c X) H d v/\aE v y/\deq 19 d x=aa (f y))/\us.any f=b
 | [],_,_,b,r,rv,h=>by
  cases (show _=[]from r);cases rv;cases h
  exact⟨λ_=>ae,(λy L=>by cases L),rfl⟩
 |d::ds,_,_,b,q4_,rv,h=>by
  obtain⟨v,r',U,r1,r2⟩:=q4_;subst U;obtain⟨M,b2,h1,h2,rfl⟩:=D8 h
  cases rv with
  | @cons _ y _ us B rvs=>
   obtain⟨f,hf,ha⟩:=uh I hu rx ru r2 rvs h2;have T:cD A s y u M:=xH I 19 hu h1 r1 rx B ru;refine⟨λz=>if z=y then M else f z,λz hz=>?_,?_⟩
   .by_cases e:z=y
    .subst e;simp only[if_true];exact⟨T,d,v,r1,B,h1⟩
    .simp only[e,if_false];exact hf z ((aQ.mp hz).resolve_left e)
   .rw[gS,if_pos rfl,<- ha]
    congr 1
    by_cases L:y∈us
    .obtain⟨_,d',v',r',rv',h'⟩:=hf y L;have U:v'=v:=aE.inj rv' B;subst U;have eb:f y=M:=ug 19 r' r1 h' h1;refine yd λz hz=>?_
     by_cases e:z=y
     .subst e;simp[eb]
     .simp[e]
    .refine yd λz hz=>?_;have e:z≠y:=λq=>L (q▸hz);simp[e]
def D9(hu:X.A.units+64<cLine):OpD c X (cC .In) iC:=by
 rintro pins s σ H v u w w' Q I U ru ⟨Hf,x,y,d,B,T,r2,e,k⟩;unfold iC at e
 cases h:(iS y).bind (fW x)with
 |none=>rw[h]at e;cases e
 |some b=>
  rw[h]at e;cases e
  cases es:iS y with
  |none=>rw[es]at h;cases h
  |some ds=>
   rw[es]at h;obtain⟨a,vs,e1,q,r⟩:=qH es (r2.up B);subst e1;cases ru;have fin:∃v' H',Inv X pins σ H' s/\aE v' (.bool b)/\Q v' H':=⟨.bl b,H,I,rfl,k _ Hf H (Ext.refl B) rfl⟩
   rcases q with q |q
   .obtain⟨its,M,pl,hz⟩:=I.list q;obtain⟨f,L,ha⟩:=uh (A:=X.A.in1) I (by rw[oI];lia) (T.up B) U r M h;refine SeqAt.in_listAt f pl.isList (λz hz=>(L z (by simpa using hz)).1) ?_;rw[show its.toArray.any f=its.any f by simp,ha];exact fin
   .obtain⟨its,M,pl,hz⟩:=I.tuple q;obtain⟨f,L,ha⟩:=uh (A:=X.A.in1) I (by rw[oI];lia) (T.up B) U r M h;refine SeqAt.in_tupleAt f pl (λz hz=>(L z (by simpa using hz)).1) ?_;rw[show its.toArray.any f=its.any f by simp,ha];exact fin
abbrev Ris(xs:Array Nat):Prop:=xs.toList.Pairwise (· < ·)
variable{xs:Array Nat}
def Ea(h:Ris xs){a b:Nat}(q:a<b)(z:b<xs.size):xs.getD a j<xs.getD b j:=by
 have B:=pairwise_iff_getElem.mp h a b (by simpa using lU q z) (by simpa using z) q;rw[qc,qc,dif_pos (lU q z),dif_pos z]
 simpa using B
def yf(h:Ris xs){a b:Nat}(q:a<=b)(z:b<xs.size):xs.getD a j<=xs.getD b j:=by
 rcases Nat.eq_or_lt_of_le q with e |e
 .subst e;exact aL _
 .exact f7 (Ea h e z)
def yg{xs:Array Nat}{j:Nat}(h:Ris xs):∀(q lo hi:Nat),lo<=hi->hi<=xs.size->hi-lo<=q->(∀i,i<lo->xs.getD i j<j)->(∀i,hi<=i->i<xs.size->¬xs.getD i j<j) ->
  sT xs j q lo hi<=xs.size/\(∀i,i<sT xs j q lo hi->xs.getD i j<j)/\∀i,sT xs j q lo hi<=i->i<xs.size->¬xs.getD i j<j
 | 0,lo,hi,h1,h2,h3,h4,h5=>by
  have e:lo=hi:=by lia
  subst e
  exact⟨h2,h4,h5⟩
 |q+1,lo,hi,h1,h2,h3,h4,h5=>by
  unfold sT
  by_cases B:lo<hi
  .rw[if_pos B]
   by_cases hm:xs.getD ((lo+hi) / 2) j<j
   .simp only[hm,if_true];refine yg h q ((lo+hi) / 2+1) hi (by lia) h2 (by lia) (λi z=>?_) h5;exact oy (yf h (by lia) (by lia)) hm
   .simp only[hm,if_false];refine yg h q lo ((lo+hi) / 2) (by lia) (by lia) (by lia) h4 λi z L I=>?_;exact hm (oy (yf h z L) I)
  .rw[if_neg B];have e:lo=hi:=by lia
   subst e;exact⟨h2,h4,h5⟩
def yh(h:Ris xs)(j:Nat):cb xs j<=xs.size/\(∀i,i<cb xs j->xs.getD i j<j)/\∀i,cb xs j<=i->i<xs.size->¬xs.getD i j<j:=
 yg h xs.size 0 xs.size (c4 _) (aL _) (by lia) (λi hi=>by lia) λi hi q=>by lia
def Ls(h:Ris xs)(hi:i<xs.size):cb xs (xs[i]+1)=i+1:=by
 obtain⟨L,B,I⟩:=yh h (xs[i]+1);have e:xs.getD i (xs[i]+1)=xs[i]:=by rw[qc,dif_pos hi];rfl
 by_cases z:cb xs (xs[i]+1)<=i
 .exact absurd (by rw[e];lia) (I i z hi)
 .by_cases q:i+1<cb xs (xs[i]+1)
  .have a:=B (i+1) q;have b:=Ea h (j:=xs[i]+1) (show i<i+1 by lia) (by lia);rw[e]at b;lia
  .omega
def Lu(h:Ris xs):cb xs 0=0:=by
 obtain⟨z,q,B⟩:=yh h 0
 by_cases e:0<cb xs 0
 .have:=q 0 e;lia
 .omega
def Lv(h:Ris xs)(hn:xs[cb xs j]?≠aa j):Ris (dw.insertAt xs (cb xs j) j):=by
 obtain⟨h1,h2,T⟩:=yh h j;unfold Ris dw.insertAt;have g:∀i,(hi:i<xs.size)->xs.getD i j=xs[i]:=λi hi=>by rw[qc,dif_pos hi];rfl
 rw[Array.toList_append,wg,Array.toList_extract,Array.toList_extract];simp only[extract_eq_drop_take,Nat.sub_zero,drop_zero]
 have I:∀x∈xs.toList.take (cb xs j),x<j:=λx hx=>by
  obtain⟨i,hi,e⟩:=mem_take_iff_getElem.mp hx;have M:i<cb xs j:=by lia
  have:=h2 i M;rw[g i (by lia)]at this;rw[<- e]
  simpa using this
 have B:∀x∈xs.toList.drop (cb xs j),j<x:=λx hx=>by
  obtain⟨i,hi,e⟩:=mem_drop_iff_getElem.mp hx;have L:cb xs j+i<xs.size:=by simpa[Nat.add_comm]using hi
  have a:=T (cb xs j+i) (by lia) L;rw[g _ L]at a;have ex:x=xs[cb xs j+i]:=by rw[<- e];simp
  rw[ex]
  rcases Nat.lt_or_ge j xs[cb xs j+i]with q |q
  .exact q
  .exfalso;have ej:xs[cb xs j+i]=j:=by lia
   have z:cb xs j<xs.size:=by lia
   have b:=yf h (j:=j) (show cb xs j<=cb xs j+i by lia) L;rw[g _ L,g _ z,ej]at b;have c:=T (cb xs j) (aL _) z;rw[g _ z]at c;exact hn (by rw[mN z];congr 1;lia)
 have U:List.take (xs.size-cb xs j) (List.drop (cb xs j) xs.toList)=List.drop (cb xs j) xs.toList:=take_of_length_le (by simp);rw[U];refine pairwise_append.mpr ⟨pairwise_append.mpr ⟨BW (take_sublist _ _) h,by simp,λa ha b z=>?_⟩,BW (drop_sublist _ _) h,λa ha b z=>?_⟩
 .have:b=j:=by simpa using z
  subst this;exact I a ha
 .rcases bT.mp ha with ha |ha
  .exact lU (I a ha) (B b z)
  .have:a=j:=by simpa using ha
   subst this;exact B b z
def Lw(n:Nat):Ris (Array.range n):=by
 unfold Ris;rw[Array.toList_range];exact pairwise_lt_range
variable{t:dw}
def Eb(h:t.slot j=.empty\/t.slot j=.dummy):t.place[cb t.place j]?≠aa j:=λe=>by
 have:t.slot j=.live (cb t.place j):=by
  unfold dw.slot;simp only[e,beq_self_eq_true,if_true]
 rw[this]at h
 rcases h with h |h <;> cases h
def yi{t:dw}{h:Int}:∀(z:Nat) (p:dw.Probe) {j:Nat} {d:Option Nat},(∀d',p.dummy=aa d'->t.place[cb t.place d']?≠aa d')->dw.probe.go t (λ_=>h+1) h z p=aa (.empty j d) ->
  t.place[cb t.place j]?≠aa j/\∀d',d=aa d'->t.place[cb t.place d']?≠aa d'
 | 0,_,_,_,_,e=>by cases e
 |z+1,p,j,d,hd,e=>by
  unfold dw.probe.go at e;split at e
  .rename_i B;cases e;exact⟨Eb (.inl B),hd⟩
  .rename_i B;refine yi z _ (λd' q=>?_) e
   have:d'=p.j:=by
    unfold dw.advance at q;split at q
    .exact(cN q).symm
    .exact(cN q).symm
   subst this;exact Eb (.inr B)
  .rename_i i B;split at e
   .cases e
   .refine yi z _ (λd' q=>hd d' ?_) e;unfold dw.advance at q
    split at q <;> exact q
def Lx{h:Int}{w:Bool}(e:t.freeSlot h=aa (j,w)):t.place[cb t.place j]?≠aa j:=by
 unfold dw.freeSlot at e;split at e
 .rename_i L d I;obtain⟨z,B⟩:=yi _ _ (λd' q=>by cases q) I
  cases d with
  |none=>cases e;exact z
  |some d'=>cases e;exact B _ rfl
 .cases e
def ui(t:dw)(n:Nat):Ris (t.standIn n).place/\(t.standIn n).led=t.led:=⟨Lw n,rfl⟩
def Ly(n:Nat)(h:Ris t.place):Ris (t.orStandIn n).place/\(t.orStandIn n).led=t.led:=by
 unfold dw.orStandIn;split
 .exact⟨h,rfl⟩
 .exact ui t n
def Lz(es:Array (Int×Value))(h:Int)(x:Value)(z:Ris t.place):Ris (layNew t es h x).2.1.place/\(layNew t es h x).2.1.led=t.led:=by
 unfold layNew;split
 .rename_i slot B q;exact Ly (t:=(t.put slot).1) _ (Lv z (Lx q))
 .exact ui t _
variable{led:Bool}
def LA{mask finger moves:Nat}{plain:Bool}{z:Array Int}{t':dw}{B:Array Nat}(e:dw.laid mask finger moves led plain z=aa (t',B)):Ris t'.place/\t'.led=led:=by
 unfold dw.laid at e
 cases U:dw.layClean mask z with
 |none=>rw[U]at e;cases e
 |some owner=>
  rw[U]at e;cases e;refine⟨?_,rfl⟩;unfold Ris;show List.Pairwise _ (List.map _ _);rw[pairwise_map,pairwise_filterMap];refine List.Pairwise.imp (λ{a b} M=>?_) pairwise_lt_range;intro p I q L
  cases ha:owner.getD a ac with
  |none=>rw[ha]at I;cases I
  |some ka=>
   cases T:owner.getD b ac with
   |none=>rw[T]at L;cases L
   |some kb=>rw[ha]at I;rw[T]at L;cases I;cases L;exact M
def LB(es:Array (Int×Value))(q:Nat):Ris (m7 t es q).2.1.place/\(m7 t es q).2.1.led=t.led:=by
 unfold m7;split
 .rename_i t' z B;have I:Ris t'.place/\t'.led=t.led:=LA B;dsimp only;split
  .exact I
  .exact ui t _
 .exact ui t _
abbrev d4(P:cH)(w:World)(h:Heap)(a:Addr)(led:Bool)(S:Int->Bool)(n:Nat):Prop:=
 ∃o q B z,h.get? a=aa o/\o.ExactSet/\o.data=.set q B z/\ElemsOf (eP P w) q.toList/\(∀k,S k=ab↔∃e∈q.toList,(eP P w).is k e.2=ab)
  /\ q.size<l5/\z.fits q.size=ab/\q.size=n/\Ris z.place/\z.led=led
variable{h:Heap}{a:Addr}
def d4.stay{S:Int->Bool}(q:d4 P w h a led S n)(k:∀o,h.get? a=aa o->h'.get? a=aa o):d4 P w h' a led S n:=by
 obtain⟨o,z,B,L,I,r⟩:=q;exact⟨o,z,B,L,k o I,r⟩
def d4.congr{S z:Int->Bool}{B:Nat}(q:d4 P w h a led S n)(e:∀k,S k=z k)(en:n=B):d4 P w h a led z B:=by
 have:S=z:=funext e;subst this en;exact q
variable{cm:Array (Int×Value)}{ep:Nat}{tb:dw}
def Ec{o:Obj}{q:Array (Int×Value)}{z:dw}{S:Int->Bool}(ho:h.get? a=aa o)(I:o.ExactSet)(hd:o.data=.set cm ep tb)
 (B:ElemsOf (eP P w) q.toList)(hm:∀k,S k=ab↔∃e∈q.toList,(eP P w).is k e.2=ab)(T:q.size<l5)(U:z.fits q.size=ab)(hr:Ris z.place)(L:z.led=led):
  (h.update a (Obj.putSet q z)).get? a=aa {o with data:=.set q (ep+1) z}/\d4 P w (h.update a (Obj.putSet q z)) a led S q.size:=by
 have M:=(SetOf_store (knd:=eP P w) ho I hd B hm T U).1;exact⟨M,_,q,ep+1,z,M,I,rfl,B,hm,T,U,rfl,hr,L⟩
variable{s:ai}
def Ed{g:Bool->Sem Unit}(hg:∀(b:Bool) (M:ai) (Q':Unit->ai->Prop),Q' () M->wpAny (model P w) A (g b) Q' E M){o:Obj}{B:Array (Int×Value)}{I:dw}{S:Int->Bool}
 (ho:s.heap.get? a=aa o)(og:o.ExactSet)(hd:o.data=.set cm ep tb)(U:ElemsOf (eP P w) B.toList)(hm:∀k,S k=ab↔∃e∈B.toList,(eP P w).is k e.2=ab)
 (hb:B.size<l5)(hf:I.fits B.size=ab)(hr:Ris I.place)(L:I.led=led){dm:Bool}{R:Option Bool->ai->Prop}
 (h:∀h',gy a s.heap h'->d4 P w h' a led S B.size->R (aa ab) {s with heap:=h'}):
  wpAny (model P w) A (do
    storeSet a B I
    if (!dm && I.tooFull)=ab then do
      g (m7 I B (nc B.size)).2.2
      storeSet a (m7 I B (nc B.size)).1 (m7 I B (nc B.size)).2.1
      pure (aa ab)
     else pure (aa ab)) R E s:=by
 refine am (wpAny_storeSet_of ho hd ?_ (fits_of_scanBound hb));obtain⟨ho1,q1⟩:=Ec (P:=P) (w:=w) ho og hd U hm hb hf hr L;have sb:=oM s.heap a (Obj.putSet B I);split
 .have pp:=relayAll_perm I B (nc B.size);have ff:=relayAll_fits I B (nc B.size);have rr:=LB (t:=I) B (nc B.size);generalize m7 I B (nc B.size)=z at pp ff rr ⊢;obtain⟨T,tb2,gv⟩:=z;dsimp only at pp ff rr ⊢;have zz:T.size=B.size:=by rw[<- iH,pp.length_eq,iH]
  refine am (hg _ _ _ (am (wpAny_storeSet_of ho1 rfl ?_ (fits_of_scanBound (by rw[zz];exact hb)))));have q2:=(Ec (P:=P) (w:=w) (led:=led) (S:=S) ho1 og rfl (U.perm pp) (λk=>(hm k).trans ⟨λ⟨e,he,q⟩=>⟨e,pp.mem_iff.mpr he,q⟩,λ⟨e,he,q⟩=>⟨e,pp.mem_iff.mp he,q⟩⟩) (by rw[zz];exact hb) ff rr.1 (rr.2.trans L)).2;rw[zz]at q2;exact aD (h _ (sb.trans (oM _ a _)) q2)
 .exact aD (h _ sb q1)
variable{k:Int}
def LC{S:Int->Bool}{x:Value}{Q:Bool->ai->Prop}(hk:(eP P w).is k x=ab)(hx:x.scannable=ab)(q:d4 P w s.heap a led S n)(room:n+1<l5)
 (h:∀h',gy a s.heap h'->d4 P w h' a led (λL=>S L || decide (L=k)) (if S k then n else n+1)->Q (!S k) {s with heap:=h'}):wpAny (model P w) A (setAddHashed a x ((eP P w).hash k)) Q E s:=by
 obtain⟨o,cm,ep,tb,ho,og,hd,T,hm,hb,hf,hn,hr,I⟩:=q;unfold setAddHashed setAddHashedIn;refine jV (am (oE ho hd hf ?_));dsimp only;rw[byScan_of hx hb T,if_pos rfl];unfold setAddByScan;refine am (am (lZ (am (wpAny_setScan_of hk ho hd hf T ?_))))
 cases hi:List.findIdx? (λe=>(eP P w).is k e.2) cm.toList with
 |some j=>
  dsimp only;obtain⟨hj,pj,_⟩:=findIdx?_eq_some_iff_getElem.mp hi;have sk:S k=ab:=(hm k).mpr ⟨cm.toList[j],kL hj,pj⟩;refine aD (aD ?_)
  have es:s={s with heap:=s.heap}:=by cases s;rfl
  have fin:=h s.heap (gy.refl a s.heap) ⟨o,cm,ep,tb,ho,og,hd,T,λL=>by
   rw[i9,decide_eq_true_eq,<- hm L];exact⟨λz=>z.elim id (λe=>e▸sk),.inl⟩,hb,hf,by rw[sk];exact hn,hr,I⟩
  rw[sk]at fin;rw[es]
  exact fin
 |none=>
  dsimp only
  have sk:S k=ae:=by
   cases hs:S k with
   |false=>rfl
   |true=>
    obtain⟨e,he,pe⟩:=(hm k).mp hs;have:=findIdx?_eq_none_iff.mp hi e he;rw[pe]at this;cases this
  have gw:∀(b:Bool) (B:ai) (Q':Unit->ai->Prop),Q' () B->wpAny (model P w) A (match b with |true=>rule "set.scan.the-table-gave-way" |false=>pure ()) Q' E B:=
   λb B Q' U=>by cases b <;> first |exact aD U |exact lZ U
  have pp:=layNew_perm tb cm ((eP P w).hash k) x;have ff:=layNew_fits tb cm ((eP P w).hash k) x;have rr:=Lz cm ((eP P w).hash k) x hr;generalize layNew tb cm ((eP P w).hash k) x=z at pp ff rr ⊢;obtain⟨M,tb1,dm,gv⟩:=z;dsimp only at pp ff rr ⊢;rw[wg]at pp;have z1:M.size=n+1:=by rw[<- iH,pp.length_eq,a8,iH,hn];rfl
  have fin:∀h',gy a s.heap h'->d4 P w h' a led (λL=>S L || decide (L=k)) M.size->Q ab {s with heap:=h'}:=λh' sb q'=>by
   have:=h h' sb;rw[sk]at this;rw[z1]at q';exact this q'
  refine am (gw _ _ _ ?_);split
  .refine am ?_;rw[hashByValue_scannable 8 hx];refine aD (Ed (led:=led) (S:=λL=>S L || decide (L=k)) ?_ ho og hd ((T.push hk hx).perm pp) (mem_push_iff hk hm pp) (by rw[z1];exact room) ?_ ?_ ?_ λh' sb q'=>?_)
   .exact λb B Q' U=>by cases b <;> first |exact aD U |exact lZ U
   .split
    .exact ff
    .exact dw.fits_plain_off ff
   .split
    .exact rr.1
    .exact rr.1
   .split
    .exact rr.2.trans I
    .exact rr.2.trans I
   .dsimp only;exact aD (fin h' sb q')
  .refine am (aD ?_);simp only[↓reduceIte];refine Ed (led:=led) (S:=λL=>S L || decide (L=k)) ?_ ho og hd ((T.push hk hx).perm pp) (mem_push_iff hk hm pp) (by rw[z1];exact room) ff rr.1 (rr.2.trans I) λh' sb q'=>?_
   .exact λb B Q' U=>by cases b <;> first |exact aD U |exact lZ U
   .dsimp only;exact aD (fin h' sb q')
set_option maxRecDepth 100000
abbrev eW(w:World):Bool:=!(w.params.followText "set-order")
variable{I:Addr}{wr:LAd}{G:Array GenState->Array GenState->Prop}{Pv:Nat->Value->Prop}
def LF{St:Nat->ai->Prop}(W:WalksS P w A.in1 I fp wr G n Pv St)(S:Addr)(L:S∉fp)(val:Nat->Int)(hv:∀i v,Pv i v->∃t,v=.int (val i) t)(hb:n+1<l5):
  ∀(k i:Nat) (s:ai),n-i=k->i<=n->St i s->d4 P w s.heap S led (λj=>(e7 val i).any (·==j)) (e7 val i).length ->
   (∀s',Moved (S::wr) G s s'->d4 P w s'.heap S led (λj=>(e7 val n).any (·==j)) (e7 val n).length->R (.ok (.ret .none)) s') ->
   gV (model P w) A (.builtin "set.update.loop" ⟨[.ref S,.ref I],[]⟩) R s:=by
 have M:S∉wr:=λh=>L (W.sub _ h);have sub:∀b∈wr,b∈S::wr:=λb h=>bo _ h;intro k
 induction k with
 |zero=>
  intro i s hk hi st q fin;obtain rfl:i=n:=by lia
  refine k7 F.entry_set_update_loop ?_;rw[m9 wA _];show wpAny _ A.in1 (fH (.ref I) >>= _) _ _ s;refine am (W.done s _ _ st λs' m=>?_);show wpAny _ A.in1 (ret iM) _ _ s'
  exact aD (fin s' (m.mono sub) (q.stay λo e=>m.heap S o M e))
 |succ k ih=>
  intro i s hk hi st q fin;have lt:i<n:=by lia
  refine k7 F.entry_set_update_loop ?_;rw[m9 wA _];show wpAny _ A.in1 (fH (.ref I) >>= _) _ _ s;refine am (W.item i s _ _ lt st λv s' U B m=>?_);obtain⟨t,rfl⟩:=hv i v U;have q1:=q.stay λo e=>m.heap S o M e;show wpAny _ A.in1 (fG [ni (val i) t] (setAdd S (.int (val i) t)) >>= _) _ _ s';refine am (jV ?_);unfold setAdd;refine jV (am ((eP P w).pyHash (k:=val i) (intKind_is _ _ _ _) ?_));have room:(e7 val i).length+1<l5:=by have:=firstMet_length_le val i;lia
  refine LC (s:={s' with toks:=s'.toks+1}) (k:=val i) (intKind_is _ _ _ _) rfl q1 room λh' T q2=>?_
  have q3:d4 P w h' S led (λj=>(e7 val (i+1)).any (·==j)) (e7 val (i+1)).length:=q2.congr (λj=>by rw[firstMet_succ,step_any]) (by rw[firstMet_succ,step_length]);refine aD ⟨mW wA _,ih (i+1) _ (by lia) lt (W.frame _ s' _ _ B (kX _) λb z o e=>?_) q3 λs2 m2 q4=>?_⟩
  .rw[T.2 b λh=>L (by rw[<- h];exact z)];exact e
  .refine fin s2 (Moved.trans W.gtrans ((m.mono sub).then_heap (kX _) λb o z e=>?_) m2) q4;rw[T.2 b λh=>z (by rw[h];exact aN)];exact e
@[reducible]noncomputable def jB(led:Bool):Obj:={cls:=.type "set",dict:=ac,data:=.set #[] 0 (.fresh 0 0 led)}
def LG(a:Value){Q:PRS}(h:Q (.ref s.heap.objs.size) {s with heap:=s.heap.push (jB (eW w))}):
  gV (model P w) A (.call (.builtin "set.__new__") ⟨[.type "set",a],[]⟩) (wants Q E) s:=by
 refine codeAny_of_tree ?_
 show wpAny _ A.in1 (do checkBuiltinCall "set.__new__" ⟨[.type "set",a],[]⟩;again (.builtin "set.__new__" ⟨[.type "set",a],[]⟩)) _ _ s
 refine am (qy (F.newCall_set_1 a) (aD ⟨mW F.plain_set_new _,k7 F.entry_set_new ?_⟩));rw[m9 F.plain_set_new _];unfold dY.«set.__new__» dY.Frozenset.newClass;have q:=sub_set_self;obtain⟨z,g,d,B,os⟩:=s;dsimp only
 wp_walk
 refine wpAny_askSetting (aD ?_);dsimp only;simp only[newObj];refine am (wpAny_alloc (aD ?_));exact aD h
def LH(h:Heap)(led:Bool):d4 P w (h.push (jB led)) h.objs.size led (λ_=>ae) 0:=
 ⟨_,#[],0,_,cO _ rfl,⟨rfl,rfl,rfl⟩,rfl,λe q=>by simp at q,λk=>by simp,by decide,rfl,rfl,by unfold Ris;simp[dw.fresh],rfl⟩
set_option maxRecDepth 100000
variable{ns:List Int}
set_option maxHeartbeats 8000000 in
def LI{items:Array Value}{Q:PRS}(hh:A.handled=ac)(hl:s.heap.IsList l items)(hi:e8 items.toList ns)(hb:items.size+1<l5)
 (h:∀ (h':Heap) (L:Nat),d4 P w h' s.heap.objs.size (eW w) (λj=>(e7 (λi=>ns.getD i 0) items.size).any (·==j)) (e7 (λi=>ns.getD i 0) items.size).length ->
   (∀b o,b<s.heap.objs.size->s.heap.get? b=aa o->h'.get? b=aa o)->s.toks<=L->Q (.ref s.heap.objs.size) {s with heap:=h',toks:=L}):
  wpAny (model P w) A (call (.type "set") [.ref l]) Q E s:=by
 obtain⟨c,tl,hmro⟩:=l7.mro;have hmade:=l7.made;have hsub:=l7.sub;refine wpAny_call (codeAny_of_tree ?_);show wpAny _ _ (callAny (.type "set") _) _ _ _;refine aD ⟨Code.quiet_builtin _ (by decide +kernel),k7 F.entry_type_call ?_⟩;rw[cI.under_plain (weight_type_call_type "set" [.ref l] []) rfl];have h1:=l7.notType;have h2:=l7.canCreate;have hct:=F.typeCall_set_1 (.ref l)
 repeat (any_goals (first |assumption |wp_step))
 refine lY (LG (.ref l) (E:=E) (Q:=λob z=>ob=.ref s.heap.objs.size/\z={s with heap:=s.heap.push (jB (eW w))}) ⟨rfl,rfl⟩) λr z hr=>?_
 cases r with
 |error e=>exact hr
 |ok fl=>
  cases fl with
  |ret ob=>
   obtain⟨rfl,rfl⟩:=hr;have g0:(s.heap.push (jB (eW w))).get? s.heap.objs.size=aa (jB (eW w)):=cO _ rfl
   have hT:sU {s with heap:=s.heap.push (jB (eW w))} (.ref s.heap.objs.size) "set":=⟨_,g0,rfl⟩
   have hli:=l7.init.lookup;have hbi:=l7.init.bind (.ref s.heap.objs.size)
   repeat (any_goals (first |assumption |wp_step))
   refine lY (wB (R:=wants (λr eL=>r=.none/\∃ h' L,eL={ s with heap:=h',toks:=L }/\s.toks<=L /\
     d4 P w h' s.heap.objs.size (eW w) (λj=>(e7 (λi=>ns.getD i 0) items.size).any (·==j)) (e7 (λi=>ns.getD i 0) items.size).length /\
     (∀b o,b<s.heap.objs.size->s.heap.get? b=aa o->h'.get? b=aa o)) E) l7.init.plain F.entry_set_init (check_set_init_1 hT ?_)) λr₂ eL q=>?_
   .obtain⟨⟨oc,od,odt,os⟩,hol,T,nl,U⟩:=hl;simp only at T U;subst T U;have hol':(s.heap.push (jB (eW w))).get? l=aa {cls:=.type "list",dict:=od,data:=.seq items nl,slots:=os}:=bC _ hol;have k1:=F.sub_list_set;have k2:=F.sub_list_frozenset;have k3:(gA "list" == gA "dict")=ae:=by decide
    have hl1:(s.heap.push (jB (eW w))).IsList l items:=⟨_,hol',rfl,nl,rfl⟩;unfold dY.«set.__init__» noKeywords dY.Frozenset.updateFrom;generalize hPI:pyIter=PI
    wp_walk
    subst hPI;refine sJ hl1 (am (wpAny_runValue ?_));have lt:l<s.heap.objs.size:=bi hol;have hh3:A.in1.in1.in1.handled=ac:=by simp[hh]
    have ne1:l≠(s.heap.push (jB (eW w))).objs.size:=by rw[iK];exact bW (kS lt)
    have nin:s.heap.objs.size∉[(s.heap.push (jB (eW w))).objs.size,l]:=by
     rw[iK];simp only[aQ,cG,or_false,not_or];exact⟨bW (dh _),kU lt⟩
    have hv:∀(i:Nat) (v:Value),items[i]?=aa v->∃t,v=.int ((λi=>ns.getD i 0) i) t:=λi v hv=>e8.int_at hi i v (by rw[qb];exact hv);refine LF (led:=eW w) ((Walks.list hh3 _ l ne1 items).toS) s.heap.objs.size nin (λi=>ns.getD i 0) hv hb (items.size-0) 0 _ (by lia) (c4 _) ⟨⟨_,cO _ rfl,rfl,rfl⟩,(hl1.push _)⟩ ?hS0 ?hR
    case hS0=>exact((LH (P:=P) (w:=w) s.heap (eW w)).stay λo e=>bC _ e).congr (λ_=>rfl) rfl
    case hR=>
     intro s' hm hS';obtain⟨h',g',d',tk',os'⟩:=s';have eg:g'=s.gens:=hm.gens;have ed:d'=s.drawn:=hm.drawn;have eo:os'=s.os:=hm.os;subst eg ed eo;show wpAny _ _ _ _ _ _;refine aD ?_;show wpAny _ _ (ret iM) _ _ _;refine aD ⟨rfl,h',tk',rfl,hm.toks,hS',λb o M e=>?_⟩;have n2:b≠(s.heap.push (jB (eW w))).objs.size:=by rw[iK];exact bW (kS M)
     refine hm.heap b o ?_ (bC _ (bC _ e));simp only[aQ,cG,or_false,not_or];exact⟨bW M,n2⟩
   .cases r₂ with
    |error e=>exact q
    |ok B=>
     cases B with
     |ret r=>
      obtain⟨rfl,h',L,rfl,htk,q',kk⟩:=q
      repeat (any_goals (first |assumption |wp_step))
      exact h _ _ q' kk htk
     | _=>exact q.elim
  | _=>exact hr.elim
set_option maxRecDepth 100000
def yj{q:Type}:∀(l:List q) (i:Nat) (x:q),l[i]?=aa x->(x::l.eraseIdx i).Perm l
 | [],_,_,h=>by simp at h
 |y::l,0,x,h=>by simp at h;subst h;simp
 |y::l,i+1,x,h=>by
  have:=yj l i x (by simpa using h);rw[eraseIdx_cons_succ];exact(List.Perm.swap y x _).trans (ww y this)
def Ee{B:Type}(next:Nat->Nat):∀(q k:Nat) (left:List B) (out:Array B),left.length=q->(il.go next q k left out).toList.Perm (out.toList++left)
 | 0,k,left,out,h=>by
  obtain rfl:left=[]:=qh.mp h;unfold il.go
  simp
 |q+1,k,left,out,h=>by
  unfold il.go
  have z:next k % left.length<left.length:=Nat.mod_lt _ (by lia)
  have hx:left[next k % left.length]?=aa left[next k % left.length]:=cj z;rw[hx];dsimp only
  refine(Ee next q (k+1) _ _ (by rw[length_eraseIdx_of_lt z];lia)).trans ?_
  rw[wg,fZ];exact wu _ (yj left _ _ hx)
def ym{q:Type}(next:Nat->Nat)(xs:Array q):(il next xs).toList.Perm xs.toList:=by
 have:=Ee next xs.size 0 xs.toList #[] (by simp)
 simpa[il]using this
def LJ{q:Source}{Q:Nat->ai->Prop}(hn:n≠0)(h:∀i,i<n->Q i {s with drawn:=s.drawn.bump q}):wpAny (model P w) A (choose q n) Q E s:=λΓ p z=>
 ⟨hn,h _ (Nat.mod_lt _ (Nat.pos_of_ne_zero hn))⟩
def Ef{q:Type}:∀(n:Nat) (xs:List q) {s:ai} {Q:List q->ai->Prop},xs.length=n->(∀ys d,ys.Perm xs->Q ys {s with drawn:=d})->wpAny (model P w) A (drawOrder n xs) Q E s
 | 0,xs,s,Q,hl,h=>by
  obtain rfl:xs=[]:=qh.mp hl;unfold drawOrder;have:=h [] s.drawn (sG _)
  exact aD (by cases s;exact this)
 |n+1,[],s,Q,hl,h=>by cases hl
 |n+1,x::xs,s,Q,hl,h=>by
  unfold drawOrder;refine am (LJ (by simp) λi hi=>?_);have hx:(x::xs)[i]?=aa ((x::xs)[i]):=cj hi;rw[hx];dsimp only;refine am (Ef n _ (by rw[length_eraseIdx_of_lt hi];lia) λys d z=>aD ?_);exact h _ d ((ww _ z).trans (yj _ _ _ hx))
set_option maxRecDepth 100000
def i0:Slot "set_iterator" "__next__" "set_iterator.__next__" :=
 .of (owner:="set_iterator") (n:="__next__") (by rw[k8,k5];kernel_rfl) (by decide +kernel) (by decide +kernel) (by decide +kernel) (by first |exact .inl (by decide +kernel) |exact .inr (by decide +kernel)) (by rw[mV];kernel_rfl)
def uj:m8 table "set_iterator.__next__"=aa dY.«set_iterator.__next__»:=entryFor_of_fast (by kernel_rfl)
def uk(a:Value):argsOk "set_iterator.__next__" ⟨[a],[]⟩:=by unfold argsOk;kernel_rfl
def Eg:Slot "set_iterator" "__iter__" "set_iterator.__iter__" :=
 .of (owner:="set_iterator") (n:="__iter__") (by rw[k8,k5];kernel_rfl) (by decide +kernel) (by decide +kernel) (by decide +kernel) (by first |exact .inl (by decide +kernel) |exact .inr (by decide +kernel)) (by rw[mV];kernel_rfl)
def LK:m8 table "set_iterator.__iter__"=aa dY.«dict_keyiterator.__iter__»:=
 entryFor_alias (id':="dict_keyiterator.__iter__") (by kernel_rfl) (by first |rfl |decide +kernel |(unfold String.splitOn;simp +decide [String.splitOnAux])) (by decide +kernel) (by kernel_rfl)
def LL(a:Value):argsOk "set_iterator.__iter__" ⟨[a],[]⟩:=by unfold argsOk;kernel_rfl
nonrec abbrev iD(h:Heap)(I:Addr)(first:Value)(i:Nat)(a:Addr)(n ep:Nat):Prop:=
 h.get? I=aa {cls:=.type "set_iterator",dict:=ac,data:=.fields #[first,bE i,.ref a,bE n,bE ep],slots:=#[]}
variable{slot:Nat}{Q:Option Value->ai->Prop}
def Eh{slot':Nat}{o:Obj}{v:Value}(q:iD s.heap I (bE slot) i a n ep)(ho:s.heap.get? a=aa o)(hd:o.data=.set cm ep tb)(hf:tb.fits cm.size=ab)(hn:cm.size=n)
 (hN:∀(L:cI) (M:PRS) (R:Option (Value×Nat)->ai->Prop),R (aa (v,slot')) s->wpAny (model P w) L (setNext a slot i ep) R M s)
 (hQ:∀h',iD h' I (bE slot') (i+1) a n ep->gy I s.heap h'->Q (aa v) {s with heap:=h'}):wpAny (model P w) A (fH (.ref I)) Q E s:=by
 have B:s.TypeIs (.ref I) "set_iterator":=⟨_,q,rfl⟩;unfold fH;refine am (oH (oB (name:=nh "__next__") B i0 (jU i0 B uj ?_ (uk _))));show wpAny _ _ (fieldsOf (.ref I) >>= _) _ _ s;refine am (sO q rfl ?_);show wpAny _ _ (setEntries a >>= _) _ _ s;refine am (qv ho hd hf ?_);have T:(((cm.size:Nat):Int) != (n:Int))=ae:=by rw[hn];simp
 show wpAny _ _ (if (((cm.size:Nat):Int) != (n:Int))=ab then _ else _) _ _ s;rw[T,if_neg ba];show wpAny _ _ (setNext a ((slot:Nat):Int).toNat ((i:Nat):Int).toNat ((ep:Nat):Int).toNat >>= _) _ _ s;rw[eI,eI,eI];refine am (hN _ _ _ ?_);refine am (oC q (by simp) λh1 U s1=>?_);refine am (oC U (by simp) λz g2 s2=>aD ⟨v,rfl,aD (hQ z ?_ (gy.trans s1 s2))⟩);show z.get? I=_;rw[g2];simp[bE]
def Ei{o:Obj}(hh:A.handled=ac)(q:iD s.heap I (bE slot) i a n ep)(ho:s.heap.get? a=aa o)(hd:o.data=.set cm ep tb)(hf:tb.fits cm.size=ab)(hn:cm.size=n)
 (U:∀(B:cI) (L:PRS) (R:Option (Value×Nat)->ai->Prop),R ac s->wpAny (model P w) B (setNext a slot i ep) R L s)
 (hQ:∀h',Heap.ExtBut I s.heap h'->Q ac {s with heap:=h'}):wpAny (model P w) A (fH (.ref I)) Q E s:=by
 have z:s.TypeIs (.ref I) "set_iterator":=⟨_,q,rfl⟩;unfold fH;refine am (oH (oB (name:=nh "__next__") z i0 (jU i0 z uj ?_ (uk _))));show wpAny _ _ (fieldsOf (.ref I) >>= _) _ _ s;refine am (sO q rfl ?_);show wpAny _ _ (setEntries a >>= _) _ _ s;refine am (qv ho hd hf ?_);have M:(((cm.size:Nat):Int) != (n:Int))=ae:=by rw[hn];simp
 show wpAny _ _ (if (((cm.size:Nat):Int) != (n:Int))=ab then _ else _) _ _ s;rw[M,if_neg ba];show wpAny _ _ (setNext a ((slot:Nat):Int).toNat ((i:Nat):Int).toNat ((ep:Nat):Int).toNat >>= _) _ _ s;rw[eI,eI,eI];refine am (U _ _ _ ?_);refine am (oC q (by simp) λh1 g1 s1=>?_);show wpAny _ _ (newExc (.type "StopIteration") [] >>= _) _ _ _;refine am ?_;simp only[newExc,newTuple];refine am (je ?_ (by size_fits))
 refine am (m:=oF _ _) (qy (a:=iM) (by first |rfl |(simp only[oF];rfl)) ?_)
 refine je ?_ (by size_fits);simp only[raiseNew];refine am (wpAny_handled ?_);rw[show A.in1.handled=ac from hh];refine am (aD (wpAny_throw ?_));refine am (qx (T:="StopIteration") (b:=ab) ⟨_,cO _ rfl,rfl⟩ isSubtype_stop ?_);exact aD (hQ _ ((s1.extBut.push _).push _))
variable{T:Addr}{pls:Array Value}
def LM{pl:Nat}{o:Obj}{hx:Int}{v:Value}(z:iD s.heap I (.ref T) i a n ep)(M:s.heap.get? a=aa o)(hd:o.data=.set cm ep tb)(L:tb.fits cm.size=ab)(hn:cm.size=n)
 (hT:s.heap.get? T=aa {cls:=.type "tuple",data:=.seq pls})(hp:pls[i]?=aa (bE pl))(he:cm[pl]?=aa (hx,v))
 (hQ:∀h',iD h' I (.ref T) (i+1) a n ep->gy I s.heap h'->Q (aa v) {s with heap:=h'}):wpAny (model P w) A (fH (.ref I)) Q E s:=by
 have q:s.TypeIs (.ref I) "set_iterator":=⟨_,z,rfl⟩;unfold fH;refine am (oH (oB (name:=nh "__next__") q i0 (jU i0 q uj ?_ (uk _))));show wpAny _ _ (fieldsOf (.ref I) >>= _) _ _ s;refine am (sO z rfl ?_);show wpAny _ _ (setEntries a >>= _) _ _ s;refine am (qv M hd L ?_);have U:(((cm.size:Nat):Int) != (n:Int))=ae:=by rw[hn];simp
 show wpAny _ _ (if (((cm.size:Nat):Int) != (n:Int))=ab then _ else _) _ _ s;rw[U,if_neg ba];show wpAny _ _ (seqItems? (.ref T) >>= _) _ _ s;refine am (sP hT rfl ?_)
 show wpAny _ _ (match pls[((i:Nat):Int).toNat]? with |some (.int place _)=>_ |some _=>_ |none=>_) _ _ s
 rw[eI,hp];show wpAny _ _ (setNextDrawn a ((pl:Nat):Int).toNat ((ep:Nat):Int).toNat >>= _) _ _ s;rw[eI,eI];refine am ?_;unfold setNextDrawn;refine am (oE M hd L ?_);dsimp only;rw[if_neg (by simp)];rw[he];refine aD ?_;refine am (oC z (by simp) λB g1 s1=>aD ⟨v,rfl,aD (hQ B ?_ s1)⟩);show B.get? I=_;rw[g1];simp[bE]
def LO{o:Obj}(hh:A.handled=ac)(q:iD s.heap I (.ref T) i a n ep)(ho:s.heap.get? a=aa o)(hd:o.data=.set cm ep tb)(hf:tb.fits cm.size=ab)(hn:cm.size=n)
 (z:s.heap.get? T=aa {cls:=.type "tuple",data:=.seq pls})(hp:pls[i]?=ac)
 (U:∀h',Heap.ExtBut I s.heap h'->Q ac {s with heap:=h'}):wpAny (model P w) A (fH (.ref I)) Q E s:=by
 have B:s.TypeIs (.ref I) "set_iterator":=⟨_,q,rfl⟩;unfold fH;refine am (oH (oB (name:=nh "__next__") B i0 (jU i0 B uj ?_ (uk _))));show wpAny _ _ (fieldsOf (.ref I) >>= _) _ _ s;refine am (sO q rfl ?_);show wpAny _ _ (setEntries a >>= _) _ _ s;refine am (qv ho hd hf ?_);have L:(((cm.size:Nat):Int) != (n:Int))=ae:=by rw[hn];simp
 show wpAny _ _ (if (((cm.size:Nat):Int) != (n:Int))=ab then _ else _) _ _ s;rw[L,if_neg ba];show wpAny _ _ (seqItems? (.ref T) >>= _) _ _ s;refine am (sP z rfl ?_)
 show wpAny _ _ (match pls[((i:Nat):Int).toNat]? with |some (.int place _)=>_ |some _=>_ |none=>_) _ _ s
 rw[eI,hp];refine am (oC q (by simp) λh0 M s0=>?_);refine am (oC M (by simp) λh1 g1 s1=>?_);show wpAny _ _ (newExc (.type "StopIteration") [] >>= _) _ _ _;refine am ?_;simp only[newExc,newTuple];refine am (je ?_ (by size_fits))
 refine am (m:=oF _ _) (qy (a:=iM) (by first |rfl |(simp only[oF];rfl)) ?_)
 refine je ?_ (by size_fits);simp only[raiseNew];refine am (wpAny_handled ?_);rw[show A.in1.handled=ac from hh];refine am (aD (wpAny_throw ?_));refine am (qx (T:="StopIteration") (b:=ab) ⟨_,cO _ rfl,rfl⟩ isSubtype_stop ?_);exact aD (U _ (((gy.trans s0 s1).extBut.push _).push _))
set_option maxRecDepth 100000
def LP:m8 table "set.__iter__"=aa dY.«frozenset.__iter__»:=
 entryFor_alias (id':="frozenset.__iter__") (by kernel_rfl) (by first |rfl |decide +kernel |(unfold String.splitOn;simp +decide [String.splitOnAux])) (by decide +kernel) (by kernel_rfl)
abbrev qU(pl:Array Nat):Nat->Nat
 | 0=>0
 |i+1=>pl.getD i 0+1
def Ej{pl:Array Nat}(hi:i<pl.size):qU pl (i+1)=pl[i]+1:=by
 show pl.getD i 0+1=_;simp[qc,hi]
def Ek{q z:Type}{f:q->Option z}{g:q->z}:∀(l:List q),(∀x∈l,f x=aa (g x))->l.filterMap f=l.map g
 | [],_=>rfl
 |x::l,h=>by rw[qj,h x aN,bp,Ek l λy B=>h y (bo _ B)]
def El{pl:Array Nat}(h:Ris pl):∀i,i<=pl.size->cb pl (qU pl i)=i
 | 0,_=>Lu h
 |i+1,hi=>by
  rw[Ej (by lia)];exact Ls h (by lia)
def ul{Q:Bool->ai->Prop}(h:Q (w.params.followText "set-order") s):wpAny (model P w) A setsByText Q E s:=by
 unfold setsByText;exact am (wpAny_askSetting (aD h))
def Em{o:Obj}{R:Option (Value×Nat)->ai->Prop}(z:s.heap.get? a=aa o)(hd:o.data=.set cm ep tb)(q:tb.fits cm.size=ab)(B:w.params.followText "set-order"=ab)
 (h:R (((il (w.params.setOrder a ep) cm)[i]?).map λe=>(e.2,slot)) s):wpAny (model P w) A (setNext a slot i ep) R E s:=by
 unfold setNext;refine am (oE z hd q ?_);dsimp only;refine am (ul ?_);rw[B,if_pos rfl,if_neg (by simp)];refine am ?_;unfold setWalk;refine am (oE z hd q ?_);dsimp only;refine am (ul ?_);rw[B,if_pos rfl];refine am (wpAny_askSetting (aD (aD ?_)));exact h
def En{o:Obj}{R:Option (Value×Nat)->ai->Prop}(B:s.heap.get? a=aa o)(hd:o.data=.set cm ep tb)(z:tb.fits cm.size=ab)(L:w.params.followText "set-order"=ae)(M:(!tb.plain && decide (cm.size>1))=ae)(q:tb.led=ab)
 (h:R (match cm[cb tb.place slot]?,tb.place[cb tb.place slot]? with |some (_,x),aa j=>aa (x,j+1) | _,_=>ac) s):wpAny (model P w) A (setNext a slot i ep) R E s:=by
 unfold setNext;refine am (oE B hd z ?_);dsimp only;refine am (ul ?_);rw[L,if_neg ba];show wpAny _ _ (if (!tb.plain && decide (cm.size>1))=ab then _ else _) _ _ s;rw[M,if_neg ba];show wpAny _ _ ((if (!tb.led && !cm.isEmpty)=ab then unsupported "set:maker-not-led" else pure ()) >>= _) _ _ s;rw[q,Bool.not_true,qd,if_neg ba];exact am (aD (aD h))
def yn{first:Value}{Q:PRS}(z:iD s.heap I first i a n ep)(h:Q (.ref I) s):wpAny (model P w) A (pyIter (.ref I)) Q E s:=by
 have q:s.TypeIs (.ref I) "set_iterator":=⟨_,z,rfl⟩;refine wpAny_pyIter_slot q Eg (jU Eg q LK ?_ (LL _));show wpAny _ _ (ret (.ref I)) _ _ s;exact aD ⟨_,rfl,"set_iterator",_,q,i0.lookup,h⟩
def LQ{o:Obj}(hh:A.handled=ac)(ne:a≠I)(hd:o.data=.set cm ep tb)(hf:tb.fits cm.size=ab)(hn:cm.size=n)(ht:w.params.followText "set-order"=ab):
  WalksS P w A I [I,a] [I] (λx y=>y=x) n (λi v=>((il (w.params.setOrder a ep) cm).toList.map (·.2))[i]?=aa v) (λi s=>iD s.heap I (bE ((0:Nat):Int)) i a n ep/\s.heap.get? a=aa o) where
 sub:=λb hb=>by simp at hb;simp[hb]
 grefl:=λ_=>rfl
 gtrans:=λ_ _ _ h1 h2=>h2.trans h1
 frame:=λi s h' tk st _ hk=>⟨hk I (by simp) _ st.1,hk a (by simp) _ st.2⟩
 item:=λi s Q E hi st hQ=>by
  have hz:(il (w.params.setOrder a ep) cm).size=n:=by rw[<- iH,(ym _ _).length_eq,iH,hn]
  have hx:(il (w.params.setOrder a ep) cm)[i]?=aa (il (w.params.setOrder a ep) cm)[i]:=mN (by lia);refine Eh st.1 st.2 hd hf hn (v:=((il (w.params.setOrder a ep) cm)[i]'(by lia)).2) (slot':=0) (λA' E' R r=>Em st.2 hd hf ht (by rw[hx];exact r)) λh' g sb=>?_;refine hQ _ _ (by rw[cA,qb,hx];rfl) ⟨g,(sb.2 a ne).trans st.2⟩ ⟨λb o' hb e=>(sb.2 b (λh=>hb (by simp[h]))).trans e,rfl,rfl,rfl,aL _⟩
 done:=λs Q E st hQ=>by
  have hz:(il (w.params.setOrder a ep) cm).size=n:=by rw[<- iH,(ym _ _).length_eq,iH,hn]
  have hx:(il (w.params.setOrder a ep) cm)[n]?=ac:=Array.getElem?_eq_none (by lia);exact Ei hh st.1 st.2 hd hf hn (λA' E' R r=>Em st.2 hd hf ht (by rw[hx];exact r)) λh' eb=>hQ _ ⟨λb o' hb e=>eb b o' (λh=>hb (by simp[h])) e,rfl,rfl,rfl,aL _⟩
 self:=λi s Q E st hQ=>yn st.1 hQ
def LR{o:Obj}(hh:A.handled=ac)(ne:a≠I)(hd:o.data=.set cm ep tb)(hf:tb.fits cm.size=ab)(hn:cm.size=n)(ht:w.params.followText "set-order"=ae)(hw:(!tb.plain && decide (cm.size>1))=ae)(hled:tb.led=ab)(hr:Ris tb.place):
  WalksS P w A I [I,a] [I] (λx y=>y=x) n (λi v=>(cm.toList.map (·.2))[i]?=aa v) (λi s=>iD s.heap I (bE ((qU tb.place i:Nat):Int)) i a n ep/\s.heap.get? a=aa o) where
 sub:=λb hb=>by simp at hb;simp[hb]
 grefl:=λ_=>rfl
 gtrans:=λ_ _ _ h1 h2=>h2.trans h1
 frame:=λi s h' tk st _ hk=>⟨hk I (by simp) _ st.1,hk a (by simp) _ st.2⟩
 item:=λi s Q E hi st hQ=>by
  have hz:tb.place.size=cm.size:=by simp only[dw.fits,cx,beq_iff_eq]at hf;exact hf.1
  have hb:=El hr i (by lia);have hx:cm[i]?=aa cm[i]:=mN (by lia);have hp:tb.place[i]?=aa tb.place[i]:=mN (by lia);have es:qU tb.place (i+1)=tb.place[i]'(by lia)+1:=Ej (by lia);refine Eh st.1 st.2 hd hf hn (v:=(cm[i]'(by lia)).2) (slot':=qU tb.place (i+1)) (λA' E' R r=>En st.2 hd hf ht hw hled (by rw[hb,hx,hp];rw[es]at r;exact r)) λh' g sb=>?_;refine hQ _ _ (by rw[cA,qb,hx];rfl) ⟨g,(sb.2 a ne).trans st.2⟩ ⟨λb o' hb e=>(sb.2 b (λh=>hb (by simp[h]))).trans e,rfl,rfl,rfl,aL _⟩
 done:=λs Q E st hQ=>by
  have hz:tb.place.size=cm.size:=by simp only[dw.fits,cx,beq_iff_eq]at hf;exact hf.1
  have hb:=El hr n (by lia);have hx:cm[n]?=ac:=Array.getElem?_eq_none (by lia);exact Ei hh st.1 st.2 hd hf hn (λA' E' R r=>En st.2 hd hf ht hw hled (by rw[hb,hx];exact r)) λh' eb=>hQ _ ⟨λb o' hb e=>eb b o' (λh=>hb (by simp[h])) e,rfl,rfl,rfl,aL _⟩
 self:=λi s Q E st hQ=>yn st.1 hQ
def LU{o:Obj}(hh:A.handled=ac)(ne:a≠I)(nT:T≠I)(hd:o.data=.set cm ep tb)(hf:tb.fits cm.size=ab)(hn:cm.size=n){ord:LN}(hp:ord.Perm (bI n)):
  WalksS P w A I [I,a,T] [I] (λx y=>y=x) n (λi v=>(ord.filterMap λj=>(cm[j]?).map (·.2))[i]?=aa v)
   (λi s=>iD s.heap I (.ref T) i a n ep/\s.heap.get? a=aa o/\s.heap.get? T=aa {cls:=.type "tuple",data:=.seq (ord.map λ(j:Nat)=>bE j).toArray}) where
 sub:=λb hb=>by simp at hb;simp[hb]
 grefl:=λ_=>rfl
 gtrans:=λ_ _ _ h1 h2=>h2.trans h1
 frame:=λi s h' tk st _ hk=>⟨hk I (by simp) _ st.1,hk a (by simp) _ st.2.1,hk T (by simp) _ st.2.2⟩
 item:=λi s Q E hi st hQ=>by
  have hl:ord.length=n:=by rw[hp.length_eq,cT]
  have lt:∀j∈ord,j<cm.size:=λj hj=>by rw[hn];exact eM.mp (hp.mem_iff.mp hj)
  have hj:ord[i]?=aa (ord[i]'(by lia)):=cj (by lia);have hlt:ord[i]'(by lia)<cm.size:=lt _ (kL _);have hx:cm[ord[i]'(by lia)]?=aa (cm[ord[i]'(by lia)]):=mN hlt
  have em:(ord.filterMap λj=>(cm[j]?).map (·.2))=ord.map λj=>((cm[j]?).map (·.2)).getD .none:=by
   refine Ek ord λj hj=>?_;have:cm[j]?=aa (cm[j]'(lt j hj)):=mN (lt j hj);rw[this];rfl
  refine LM st.1 st.2.1 hd hf hn st.2.2 (pl:=ord[i]'(by lia)) (hx:=(cm[ord[i]'(by lia)]).1) (v:=(cm[ord[i]'(by lia)]).2) (by rw[List.getElem?_toArray,cA,hj];rfl) hx λh' g sb=>?_;refine hQ _ _ ?_ ⟨g,(sb.2 a ne).trans st.2.1,(sb.2 T nT).trans st.2.2⟩ ⟨λb o' hb e=>(sb.2 b (λh=>hb (by simp[h]))).trans e,rfl,rfl,rfl,aL _⟩;rw[em,cA,hj];simp only[Option.map_some,hx];rfl
 done:=λs Q E st hQ=>by
  have hl:ord.length=n:=by rw[hp.length_eq,cT]
  exact LO hh st.1 st.2.1 hd hf hn st.2.2 (by rw[List.getElem?_toArray];exact cY (by simp;lia)) λh' eb=>hQ _ ⟨λb o' hb e=>eb b o' (λh=>hb (by simp[h])) e,rfl,rfl,rfl,aL _⟩
 self:=λi s Q E st hQ=>yn st.1 hQ
set_option maxRecDepth 100000
def Eo{P:cH}{w:World}:∀(l:List (Int×Value)),ElemsOf (eP P w) l->∃ns:List Int,e8 (l.map (·.2)) ns/\∀k,(∃e∈l,(eP P w).is k e.2=ab)↔k∈ns
 | [],_=>⟨[],.nil,λk=>by simp⟩
 |e::l,h=>by
  obtain⟨ns,L,M⟩:=Eo l h.tail;obtain⟨⟨k,z,_⟩,_⟩:=h.head;obtain⟨t,B⟩:=Value.isInt_shape z;refine⟨k::ns,by rw[bp,B];exact .cons k t L,λj=>?_⟩;rw[aQ,<- M j];constructor
  .rintro⟨x,hx,q⟩
   rcases aQ.mp hx with rfl |hx
   .exact .inl ((eP P w).inj _ _ _ q z)
   .exact .inr ⟨x,hx,q⟩
  .rintro(rfl |⟨x,hx,q⟩)
   .exact⟨e,aN,z⟩
   .exact⟨x,bo _ hx,q⟩
def Ep{q:Type}(xs:List q):∀(n k:Nat),k+n=xs.length->(List.range' k n).filterMap (λj=>xs[j]?)=xs.drop k
 | 0,k,h=>by rw[range'_zero,filterMap_nil,drop_of_length_le (by lia)]
 |n+1,k,h=>by
  rw[range'_succ,qj,cj (show k<xs.length by lia),Ep xs n (k+1) (by lia),drop_eq_getElem_cons (show k<xs.length by lia)]
def LV{q:Type}(xs:Array q):(bI xs.size).filterMap (λj=>xs[j]?)=xs.toList:=by
 have:=Ep xs.toList xs.size 0 (by simp);rw[drop_zero]at this;rw[range_eq_range',<- this];simp
def LW{S:Int->Bool}{Q:PRS}(q:d4 P w s.heap a (eW w) S n)
 (hQ:∀ (I:Addr) (fp:LAd) (lj:LVa) (ns:List Int) (St:Nat->ai->Prop) (h':Heap) (d':Drawn),(∀ A' : cI,A'.handled=ac->WalksS P w A' I fp [I] (λx y=>y=x) n (λi v=>lj[i]?=aa v) St) ->
   St 0 {s with heap:=h',drawn:=d'}->(∀b o,s.heap.get? b=aa o->h'.get? b=aa o)->s.heap.objs.size<=I->I∈fp->(∀b∈fp,b<h'.objs.size/\(b=a\/s.heap.objs.size<=b))->e8 lj ns->ns.length=n->(∀k,S k=ab↔k∈ns)->Q (.ref I) {s with heap:=h',drawn:=d'}):
  wpAny (model P w) A (pyIter (.ref a)) Q E s:=by
 obtain⟨o,cm,ep,tb,L,og,hd,hel,hm,hb,hf,hn,hr,hled⟩:=q;have hT:s.TypeIs (.ref a) "set":=⟨o,L,og.1⟩;have la:a<s.heap.objs.size:=bi L
 have fin:∀(vs:List (Int×Value)),vs.Perm cm.toList->∃ns,e8 (vs.map (·.2)) ns/\ns.length=n/\∀k,S k=ab↔k∈ns:=λvs M=>by
  obtain⟨ns,h1,h2⟩:=Eo vs (hel.perm M);refine⟨ns,h1,?_,λk=>?_⟩
  .rw[<- h1.length,aH,M.length_eq,iH,hn]
  .rw[hm k,<- h2 k];exact⟨λ⟨e,he,x⟩=>⟨e,M.mem_iff.mpr he,x⟩,λ⟨e,he,x⟩=>⟨e,M.mem_iff.mp he,x⟩⟩
 refine wpAny_pyIter_slot hT F.slot_set_iter (jU F.slot_set_iter hT LP ?_ (F.args_set_iter_1 _));show wpAny _ _ (BX a >>= _) _ _ s;refine am ?_;unfold BX;refine am (qv L hd hf (aD ?_));refine am ?_;unfold setDrawn;refine am (oE L hd hf ?_);dsimp only;refine am (ul (aD ?_));show wpAny _ _ (if (!w.params.followText "set-order" && (!tb.plain && decide (cm.size>1)))=ab then _ else _) _ _ s
 cases ht:w.params.followText "set-order" with
 |true=>
  rw[Bool.not_true,qd,if_neg ba];refine am (aD (am (wpAny_setEpoch_of L hd hf ?_)));refine am (je ?_ (by size_fits));refine aD ?_;obtain⟨ns,i1,i2,i3⟩:=fin _ (ym (w.params.setOrder a ep) cm);have U:iD (s.heap.push {cls:=.type "set_iterator",dict:=ac,data:=.fields #[bE ((0:Nat):Int),bE ((0:Nat):Int),.ref a,bE n,bE ep],slots:=#[]}) s.heap.objs.size (bE ((0:Nat):Int)) 0 a n ep:=cO _ rfl;rw[hn];refine⟨_,rfl,"set_iterator",_,⟨_,U,rfl⟩,i0.lookup,?_⟩;refine hQ s.heap.objs.size [s.heap.objs.size,a] _ ns _ _ s.drawn (λA' hh=>LQ hh (bW la) hd hf hn ht) ⟨U,bC _ L⟩ (λb o' e=>bC _ e) (aL _) (by simp) (λb z=>?_) i1 i2 i3;rw[iK];simp only[aQ,cG,or_false]at z
  rcases z with rfl |rfl
  .exact⟨dh _,.inr (aL _)⟩
  .exact⟨kS la,.inl rfl⟩
 |false=>
  rw[Bool.not_false,qe];have hled':tb.led=ab:=by rw[hled];unfold eW;rw[ht];rfl
  cases hw:(!tb.plain && decide (cm.size>1))with
  |false=>
   rw[if_neg ba];refine am (aD (am (wpAny_setEpoch_of L hd hf ?_)));refine am (je ?_ (by size_fits));refine aD ?_;obtain⟨ns,i1,i2,i3⟩:=fin _ (sG _);have U:iD (s.heap.push {cls:=.type "set_iterator",dict:=ac,data:=.fields #[bE ((0:Nat):Int),bE ((0:Nat):Int),.ref a,bE n,bE ep],slots:=#[]}) s.heap.objs.size (bE ((0:Nat):Int)) 0 a n ep:=cO _ rfl;rw[hn];refine⟨_,rfl,"set_iterator",_,⟨_,U,rfl⟩,i0.lookup,?_⟩;refine hQ s.heap.objs.size [s.heap.objs.size,a] _ ns _ _ s.drawn (λA' hh=>LR hh (bW la) hd hf hn ht hw hled' hr) ⟨U,bC _ L⟩ (λb o' e=>bC _ e) (aL _) (by simp) (λb z=>?_) i1 i2 i3;rw[iK];simp only[aQ,cG,or_false]at z
   rcases z with rfl |rfl
   .exact⟨dh _,.inr (aL _)⟩
   .exact⟨kS la,.inl rfl⟩
  |true=>
   rw[if_pos rfl];refine am (Ef _ _ (by rw[cT]) λB d M=>?_);rw[hn]at M;have hsz:((B.map λ(i:Nat)=>bE i)).length<=aR:=by rw[aH,M.length_eq,cT];exact fits_of_scanBound (by lia)
   refine am (wpAny_newTuple ?_ hsz)
   refine am (wpAny_setEpoch_of (s:={s with heap:=s.heap.push {cls:=.type "tuple",data:=.seq (B.map λ(i:Nat)=>bE i).toArray},drawn:=d}) (bC _ L) hd hf ?_)
   refine am (je ?_ (by size_fits));refine aD ?_
   have pv:(B.filterMap λj=>cm[j]?).Perm cm.toList:=by
    have:=M.filterMap λj=>cm[j]?;rw[<- hn,LV]at this;exact this
   obtain⟨ns,i1,i2,i3⟩:=fin _ pv;rw[map_filterMap]at i1
   have U:iD ((s.heap.push {cls:=.type "tuple",data:=.seq (B.map λ(i:Nat)=>bE i).toArray}).push {cls:=.type "set_iterator",dict:=ac,data:=.fields #[.ref s.heap.objs.size,bE ((0:Nat):Int),.ref a,bE n,bE ep],slots:=#[]})
     (s.heap.push {cls:=.type "tuple",data:=.seq (B.map λ(i:Nat)=>bE i).toArray}).objs.size (.ref s.heap.objs.size) 0 a n ep:=cO _ rfl
   rw[hn];refine⟨_,rfl,"set_iterator",_,⟨_,U,rfl⟩,i0.lookup,?_⟩;have zI:(s.heap.push {cls:=.type "tuple",data:=.seq (B.map λ(i:Nat)=>bE i).toArray}).objs.size=s.heap.objs.size+1:=iK ..;refine hQ _ [(s.heap.push {cls:=.type "tuple",data:=.seq (B.map λ(i:Nat)=>bE i).toArray}).objs.size,a,s.heap.objs.size] _ ns _ _ d (λA' hh=>LU hh (by rw[zI];exact bW (kS la)) (by rw[zI];exact bW (dh _)) hd hf hn M) ⟨U,bC _ (bC _ L),bC _ (cO _ rfl)⟩ (λb o' e=>bC _ (bC _ e)) (by rw[zI];exact kX _) (by simp) (λb z=>?_) i1 i2 i3;rw[iK];simp only[aQ,cG,or_false]at z
   rcases z with rfl |rfl |rfl
   .exact⟨dh _,.inr (by rw[zI];exact kX _)⟩
   .exact⟨by rw[zI];exact kS (kS la),.inl rfl⟩
   .exact⟨by rw[zI];exact kS (dh _),.inr (aL _)⟩
set_option maxRecDepth 100000
variable{h7:Array Value}
def LX{q:LVa}(h:ItemsOf (λi v=>q[i]?=aa v) h7 n)(z:q.length=n):h7.toList=q:=by
 refine lT λi=>?_
 by_cases hi:i<n
 .have e:h7[i]?=aa (h7[i]'(by rw[h.1];exact hi)):=mN _;rw[qb,e];exact(h.2 i _ e).symm
 .rw[cY (by rw[iH,h.1];lia),cY (by lia)]
def LY:mZ (.type "set") "__len__"=pure (aa (.builtin "set.__len__")):=by rw[k8,k5];kernel_rfl
def LZ:splitId "set.__len__"=aa ("set","__len__"):=by decide +kernel
def L4{S:Int->Bool}{Q:LVa->ai->Prop}(hh:A.handled=ac)(q:d4 P w s.heap a (eW w) S n)(hn:n<=aR)
 (hQ:∀(h':Heap) (d':Drawn) (tk:Nat) (z:LVa) (ns:List Int),(∀b o,s.heap.get? b=aa o->h'.get? b=aa o)->s.heap.objs.size<=h'.objs.size->s.toks<=tk->e8 z ns->ns.length=n->(∀k,S k=ab↔k∈ns)->Q z {s with heap:=h',drawn:=d',toks:=tk}):
  wpAny (model P w) A (collect (.ref a)) Q E s:=by
 unfold collect;refine am (wpAny_runValue (k7 PySem.F.entry_proto_collect ?_));rw[m9 PySem.F.plain_proto_collect _];show wpAny _ A.in1 (newList [] >>= λl=>again (.builtin "list.__iadd__" ⟨[l,.ref a],[]⟩)) _ _ s;refine am (je ?_);refine aD ⟨mW PySem.F.plain_list_iadd _,k7 PySem.F.entry_list_iadd ?_⟩;rw[m9 PySem.F.plain_list_iadd _];show wpAny _ A.in1 (sR (.ref s.heap.objs.size) (.ref a) (.ref s.heap.objs.size)) _ _ _;unfold sR;obtain⟨o,cm,ep,tb,ho,og,rest⟩:=id q;have la:a<s.heap.objs.size:=bi ho;have q1:d4 P w (s.heap.push {cls:=.type "list",data:=.seq ([]:LVa).toArray}) a (eW w) S n:=q.stay λo e=>bC _ e
 have hT:sU {s with heap:=s.heap.push {cls:=.type "list",data:=.seq ([]:LVa).toArray}} (.ref a) "set":=⟨o,bC _ ho,og.1⟩
 refine am (wpAny_typeOf hT ?_);have k1:sS (.ref s.heap.objs.size) (.ref a)=ae:=by simp[sS,kU la]
 have k2:(gA "set" == gA "list")=ae:=by decide
 have k3:(gA "set" == gA "tuple")=ae:=by decide
 simp only[k1,k2,k3,sx,ss,if_false];refine am (LW q1 λI fp z ns St B M W st0 keep gI mI fpl i1 i2 i3=>?_)
 have L:sU {s with heap:=B,drawn:=M} (.ref a) "set":=⟨o,keep _ _ (bC _ ho),og.1⟩
 have zL:(s.heap.push {cls:=.type "list",data:=.seq ([]:LVa).toArray}).objs.size=s.heap.objs.size+1:=iK ..
 have nL:s.heap.objs.size∉fp:=λhm=>by
  rcases(fpl _ hm).2 with e |e
  .exact gt _ (by rw[<- e]at la;exact la)
  .rw[zL]at e;exact Nat.not_succ_le_self _ e
 refine am (jV ?_);unfold wC;refine am (sM L LY ?_);dsimp only;rw[LZ];dsimp only;refine am (qx L sub_set_self ?_);simp only[Bool.not_true,ss,if_false];refine am (wpAny_typeOf L (aD ?_))
 show wpAny _ A.in1 (rule "list.extend.makes-room" >>= λ_=>dY.List.listTouch (.ref s.heap.objs.size) >>= λ_ =>
  again (.builtin "list.extend.loop" ⟨[.ref s.heap.objs.size,.ref I,.ref s.heap.objs.size],[]⟩)) _ _ _
 refine am (lZ ?_);have g1:B.get? s.heap.objs.size=aa {cls:=.type "list",data:=.seq ([]:LVa).toArray}:=keep _ _ (cO _ rfl);refine am ?_;show wpAny _ A.in1 (updateSeq s.heap.objs.size (·.push .none) >>= λ_=>updateSeq s.heap.objs.size (·.pop)) _ _ _
 refine am (sN (s:={s with heap:=B,drawn:=M}) g1 rfl ?_)
 have g2:=oK (gb (·.push iM)) g1 rfl
 refine sN (s:={s with heap:=B.update s.heap.objs.size (gb (·.push iM)),drawn:=M}) g2 rfl ?_
 have g3:=oK (gb (·.pop)) g2 rfl
 have oth:∀b o,b≠s.heap.objs.size->B.get? b=aa o->((B.update s.heap.objs.size (gb (·.push iM))).update s.heap.objs.size (gb (·.pop))).get? b=aa o:=
  λb o hb e=>(oJ _ _ (eZ hb)).trans ((oJ _ _ (eZ hb)).trans e)
 have W1:=W A.in1 (by simp[hh])
 refine aD ⟨mW PySem.F.plain_extend_loop _,codeAny_extend_loopS W1 hn _ nL _ n 0 _ _ _ rfl (c4 _)
  (W1.frame 0 ({s with heap:=B,drawn:=M}:ai) _ s.toks st0 (aL _) λb hb o e=>oth b o (λh=>nL (h▸hb)) e) g3 (ItemsOf.nil _) λs' acc' c' hm U hacc=>?_⟩
 show wpAny _ A (load s.heap.objs.size >>= _) _ _ s';refine am (wpAny_load U (aD ?_));have lv:z.length=n:=by rw[i1.length,i2]
 rw[LX hacc lv];obtain⟨h2,g',d',tk',os'⟩:=s';have eg:g'=s.gens:=hm.gens;have ed:d'=M:=hm.drawn;have eo:os'=s.os:=hm.os;subst eg ed eo;refine hQ h2 d' tk' z ns (λb o' e=>?_) (f7 (bi U)) hm.toks i1 i2 i3;have lb:b<s.heap.objs.size:=bi e;refine hm.heap b o' ?_ (oth b o' (bW lb) (keep _ _ (bC _ e)));simp only[aQ,cG,or_false,not_or];exact⟨bW lb,bW (fF lb (c3 (by rw[zL];exact kX _) gI))⟩
def L5{S:Int->Bool}{Q:PRS}(hh:A.handled=ac)(q:d4 P w s.heap a (eW w) S n)(U:n<64)
 (hQ:∀ (p:Addr) (h':Heap) (d':Drawn) (B e:Nat) (out:Array Value) (ns:List Int),(∀ b o,s.heap.get? b=aa o->h'.get? b=aa o)->s.heap.objs.size<=p->s.toks<=B->h'.get? p=aa (seqObj "list" out e)->e8 out.toList ns->ns.Pairwise (·<=·)->ns.length=n->(∀ k,S k=ab↔k∈ns) ->
   Q (.ref p) {s with heap:=h',drawn:=d',toks:=B}):wpAny (model P w) A (call (.builtin "sorted") [.ref a]) Q E s:=by
 refine Calls.call_function_entry kind_sorted plain_sorted entry_sorted (args_sorted1 _) ?_;unfold dY.«sorted»;refine am (m:=checkCount "sorted" 1 1 _) (aD ?_);refine am (L4 (by simp[hh]) q (by rw[dG];lia) λL d1 B z ns keep grow htk i1 i2 i3=>?_);refine am (wpAny_newList ?_ (by rw[i1.length,i2,dG];lia));have M:(L.push (seqObj "list" z.toArray 0)).get? L.objs.size=aa (seqObj "list" z.toArray 0):=cO _ rfl
 refine am (jV (jU (s:={s with heap:=L.push (seqObj "list" z.toArray 0),drawn:=d1,toks:=B}) slot_list_sort ⟨_,M,rfl⟩ entry_list_sort (list_sort_tree M i1 (by rw[i1.length,i2];exact U) λout ns' o1 o2 o3=>⟨_,rfl,?_⟩) (args_list_sort _)))
 obtain⟨e,ge⟩:=sortedHeap_at (out:=out) M;refine aD ⟨_,rfl,hQ _ _ d1 B e out ns' (λb o eb=>?_) grow htk ge o1 o3 (by rw[o2.length_eq,i2]) λk=>(i3 k).trans (o2.mem_iff).symm⟩;have lb:b<L.objs.size:=bi (keep b o eb);rw[sortedHeap_old (bW lb) (by rw[iK];exact kS lb)];exact bC _ (keep b o eb)
abbrev lF(x:Int):List Int->List Int
 | []=>[x]
 |y::r=>if x<y then x::y::r else if x=y then y::r else y::lF x r
abbrev b9(ns:List Int):List Int:=ns.foldr lF []
def yo(x k:Int):∀l:List Int,k∈lF x l↔k=x\/k∈l
 | []=>by simp[lF]
 |y::r=>by
  unfold lF;split
  .simp
  .split
   .rename_i e;subst e;simp
   .rw[aQ,yo x k r,aQ];constructor
    .rintro(h |h |h)
     .exact .inr (.inl h)
     .exact .inl h
     .exact .inr (.inr h)
    .rintro(h |h |h)
     .exact .inr (.inl h)
     .exact .inl h
     .exact .inr (.inr h)
def Er(x:Int):∀l:List Int,l.Pairwise (· < ·)->(lF x l).Pairwise (· < ·)
 | [],_=>by simp[lF]
 |y::r,h=>by
  obtain⟨z,B⟩:=qm.mp h;unfold lF;split
  .rename_i hx;refine qm.mpr ⟨λk q=>?_,h⟩
   rcases aQ.mp q with e |q
   .subst e;exact hx
   .exact Int.lt_trans hx (z k q)
  .split
   .exact h
   .rename_i a b;refine qm.mpr ⟨λk q=>?_,Er x r B⟩
    rcases(yo x k r).mp q with e |q
    .subst e;lia
    .exact z k q
def nX(k:Int):∀l:List Int,k∈b9 l↔k∈l
 | []=>by simp[b9]
 |x::l=>by
  show k∈lF x (b9 l)↔_;rw[yo,nX k l,aQ]
def nY:∀l:List Int,(b9 l).Pairwise (· < ·)
 | []=>by simp[b9]
 |x::l=>Er x _ (nY l)
def yp:∀(l m:List Int),l.Pairwise (· < ·)->m.Pairwise (· < ·)->(∀k,k∈l↔k∈m)->l=m
 | [],[],_,_,_=>rfl
 | [],y::m,_,_,h=>by have:=(h y).mpr aN;simp at this
 |x::l,[],_,_,h=>by have:=(h x).mp aN;simp at this
 |x::l,y::m,hl,hm,h=>by
  obtain⟨B,L⟩:=qm.mp hl;obtain⟨m1,m2⟩:=qm.mp hm
  have e:x=y:=by
   rcases aQ.mp ((h x).mp aN)with e |hx
   .exact e
   .rcases aQ.mp ((h y).mpr aN)with e |hy
    .exact e.symm
    .have:=m1 x hx;have:=B y hy;lia
  subst e;rw[yp l m L m2 λk=>?_];constructor
  .intro z
   rcases aQ.mp ((h k).mp (bo _ z))with e |q
   .have:=B k z;lia
   .exact q
  .intro z
   rcases aQ.mp ((h k).mpr (bo _ z))with e |q
   .have:=m1 k z;lia
   .exact q
def pI:∀(F L:List Int),F.Nodup->(∀x∈F,x∈L)->L.length<=F.length->L.Perm F
 | [],L,_,_,h=>by
  obtain rfl:L=[]:=qh.mp (by simpa using h)
  exact .refl _
 |x::F,L,hn,hs,h=>by
  obtain⟨z,B⟩:=cZ.mp hn;have hx:=hs x aN;have p:=perm_cons_erase hx;refine p.trans (ww x (pI F (L.erase x) B (λy q=>?_) ?_))
  .have ne:y≠x:=λe=>by subst e;exact z q
   exact(mem_erase_of_ne ne).mpr (hs y (bo _ q))
  .rw[length_erase_of_mem hx];simp at h;lia
def um(val:Nat->Int):∀i,(e7 val i).Nodup
 | 0=>by rw[firstMet_zero];exact f6
 |i+1=>by
  rw[firstMet_succ];unfold step_dedup;split
  .exact um val i
  .rename_i h;refine gR.mpr ⟨um val i,by simp,λa ha b q e=>?_⟩;have:b=val i:=by simpa using q
   rw[e,this]at ha;exact h (any_eq_true.mpr ⟨_,ha,by simp⟩)
def Es(ns:List Int)(k:Int):(e7 (λi=>ns.getD i 0) ns.length).any (·==k)=ab↔k∈ns:=by
 rw[firstMet_any]
 have e:(bI ns.length).map (λi=>ns.getD i 0)=ns:=by
  refine lT λi=>?_;rw[cA]
  by_cases hi:i<ns.length
  .rw[qg hi];simp[bD,hi]
  .rw[cY (by rw[cT];lia),cY (by lia)];rfl
 rw[e,any_eq_true];exact⟨λz=>by obtain⟨x,hx,q⟩:=z;have:=beq_iff_eq.mp q;exact this▸hx,λh=>⟨k,h,by simp⟩⟩
variable{out:List Int}
def L6(L:out.Pairwise (·<=·))(M:out.length=(e7 (λi=>ns.getD i 0) ns.length).length)(hm:∀k,(e7 (λi=>ns.getD i 0) ns.length).any (·==k)=ab↔k∈out):out=b9 ns:=by
 have nd:=um (λi=>ns.getD i 0) ns.length;have p:=pI _ out nd (λx hx=>(hm x).mp (any_eq_true.mpr ⟨x,hx,by simp⟩)) (by lia);have q:out.Nodup:=p.nodup_iff.mpr nd
 have lt:out.Pairwise (· < ·):=by
  refine List.Pairwise.imp₂ (λa b z B=>?_) L q;exact Int.lt_iff_le_and_ne.mpr ⟨z,B⟩
 exact yp _ _ lt (nY ns) λk=>by rw[<- hm k,Es,nX]
def L7(ns:List Int):(b9 ns).length=(e7 (λi=>ns.getD i 0) ns.length).length:=by
 have nd:=um (λi=>ns.getD i 0) ns.length;have z:(b9 ns).Nodup:=(nY ns).imp λh=>Int.ne_of_lt h
 have m:∀x,x∈e7 (λi=>ns.getD i 0) ns.length↔x∈b9 ns:=λx=>by
  refine Iff.trans ?_ (nX x ns).symm;refine Iff.trans ?_ (Es ns x);rw[any_eq_true];exact⟨λh=>⟨x,h,by simp⟩,λL=>by obtain⟨y,B,q⟩:=L;have:=beq_iff_eq.mp q;exact this▸B⟩
 rcases Nat.le_total (b9 ns).length (e7 (λi=>ns.getD i 0) ns.length).length with h |h
 .exact(pI _ _ nd (λx hx=>(m x).mp hx) h).length_eq
 .exact(pI _ _ z (λx hx=>(m x).mpr hx) h).length_eq.symm
def Inv.draws(I:Inv X pins σ H s)(d':Drawn):Inv X pins σ H {s with drawn:=d'}:=by
 refine I.step (g':=s.gens) (d':=d') (t':=s.toks) (h':=s.heap) (ch:=[]) (λb q=>by cases q) (λb o _ _ _ e _=>e) (λb o _ _ _ e _=>⟨o.slots,e⟩) (λ_ _ _ _ n=>n)
  (λb o _ e=>⟨o,e⟩) (λ_ _ e=>e) (λ_ _ _ e=>e) (λb ps e=>⟨#[],by rw[e];simp⟩) (λm hm=>hm) I.hok I.bare
def yq:∀{vs:LVa} {ns:List Int},e8 vs ns->aC (ns.map V.int) vs
 | _,_,.nil=>.nil
 | _,_,.cons n t h=>.cons ⟨t,rfl⟩ (yq h)
def yr:∀{ns:List Int} {vs:LVa},aC (ns.map V.int) vs->e8 vs ns
 | [],_,.nil=>.nil
 |n::ns,_,.cons ⟨t,e⟩ h=>by subst e;exact .cons n t (yr h)
abbrev tSS(K:aV)(te:TE):TE:=λσ H Q=>te σ H λx H1=>∃l ns,x=.ref l/\SqL K H1 l (ns.map V.int)/\ns.length<4000/\(b9 ns).length<64/\∀p,H1 p=ac->Q (.ref p) (upd H1 p (.lst ((b9 ns).map V.int)))
variable{gF:Pos}
def L8(hc:X.calm=ab)(hgs:Gl X "sorted")(hms:X.mg "sorted"=ac)(hgt:Gl X "set")(hmt:X.mg "set"=ac)(he:PE X e te)
 (h1:aO [.Call (.Name "set" p2) [e] [] gF] X.env=(ae,eval (.Call (.Name "set" p2) [e] [] gF) X.env)::aO [] X.env:=by rfl)(h2:aO [e] X.env=(ae,eval e X.env)::aO [] X.env:=by rfl)
 (kr:(cr pos (aO [] X.env)).any (·.1)=ae:=by rfl)(L:(cr gF (aO [] X.env)).any (·.1)=ae:=by rfl):
  PE X (.Call (.Name "sorted" p) [.Call (.Name "set" p2) [e] [] gF] [] pos) (tSS X.K te):=by
 intro pins s σ H Q I h;refine k6 (jl I hgs hms boot_sorted ?_);refine wz ?_ h1 kr;rw[h1];show wpAny _ _ (spliced ((ae,eval (.Call (.Name "set" p2) [e] [] gF) X.env)::cr pos (aO [] X.env))) _ _ s;refine jZ (k6 (jl I hgt hmt boot_set ?_));refine mS ?_ h2 L;rw[h2];show wpAny _ _ (spliced ((ae,eval e X.env)::cr gF (aO [] X.env))) _ _ s;refine jZ (thn (he pins s σ H _ I h) λu s1 q_=>?_);obtain⟨x,H1,B,r1,l,ns,e1,hq,hb,h64,q⟩:=q_;subst e1;cases r1;refine aD ?_;obtain⟨its,rr,pl,hz⟩:=B.list hq;have ii:e8 its ns:=yr rr;have zz:its.toArray.size=ns.length:=by rw[size_toArray,ii.length]
 refine LI (items:=its.toArray) (ns:=ns) (B.ok.hd hc) pl.isList (by simpa using ii) (by rw[zz];unfold l5;lia) λh' tk qs keep htk=>?_;rw[zz]at qs;refine aD ?_;have lt:s1.heap.objs.size<h'.objs.size:=by obtain⟨o,_,_,_,ho,_⟩:=id qs;exact bi ho
 refine L5 (s:={s1 with heap:=h',toks:=tk}) (B.ok.hd hc) qs (by rw[<- L7];exact h64) λpp mu U M ep out ns' z gp htk2 ge o1 o3 o4 o5=>?_
 have en:ns'=b9 ns:=L6 o3 o4 o5;subst en;refine⟨.ref pp,_,((B.laid (h':=mu) (t':=M) (a:=pp) (o:=.lst ((b9 ns).map V.int)) (λb u g=>z _ _ (keep b u (bi g) g)) (c3 (f7 lt) gp) ?_).draws U),rfl,q pp (B.hok.fresh (c3 (f7 lt) gp))⟩;exact⟨by rw[aH,dG];lia,out.toList,ep,yq o1,by simpa using ge⟩
abbrev i4:LD->Option (List Int)
 | []=>aa []
 |.int i::r=>(i4 r).map (i::·)
 | _::_=>ac
def yt:∀{ds:LD} {ns:List Int},i4 ds=aa ns->ds=ns.map D.int
 | [],_,h=>by cases h;rfl
 |.int i::r,ns,h=>by
  replace h:(i4 r).map (i::·)=aa ns:=h
  cases e:i4 r with
  |none=>rw[e]at h;cases h
  |some m=>rw[e]at h;cases h;rw[yt e];rfl
 |.non::_,_,h=>by cases h
 |.bl _::_,_,h=>by cases h
 |.str _::_,_,h=>by cases h
 |.lst _::_,_,h=>by cases h
 |.tup _::_,_,h=>by cases h
 |.kl _::_,_,h=>by cases h
 |.kt _::_,_,h=>by cases h
 |.dic _ _::_,_,h=>by cases h
 |.ins _ _ _::_,_,h=>by cases h
def yu:∀(ns:List Int),i4 (ns.map D.int)=aa ns
 | []=>rfl
 |n::ns=>by show(i4 (ns.map D.int)).map (n::·)=_;rw[yu ns];rfl
def yv{G:Gc}{H:Hp}:∀{ns:List Int} {vs:List V},ao G H (ns.map D.int) vs->vs=ns.map V.int
 | [],_,h=>h
 |n::ns,_,⟨v,r,e,h1,h2⟩=>by rw[e,show v=V.int n from h1,yv h2];rfl
abbrev qV(f:MF1)(ρ:LS):OLD:=(f ρ).bind λd=>(lsD d).bind λds=>(i4 ds).bind λns=>if ns.length<4000/\(b9 ns).length<64 then aa ((b9 ns).map .int) else ac
def L9(hc:X.calm=ab)(hgs:Gl X "sorted")(hms:X.mg "sorted"=ac)(hgt:Gl X "set")(hmt:X.mg "set"=ac)(ha:DE c X e f)
 (h1:aO [.Call (.Name "set" p2) [e] [] gF] X.env=(ae,eval (.Call (.Name "set" p2) [e] [] gF) X.env)::aO [] X.env:=by rfl)(h2:aO [e] X.env=(ae,eval e X.env)::aO [] X.env:=by rfl)
 (kr:(cr pos (aO [] X.env)).any (·.1)=ae:=by rfl)(B:(cr gF (aO [] X.env)).any (·.1)=ae:=by rfl):DO c X (.Call (.Name "sorted" p) [.Call (.Name "set" p2) [e] [] gF] [] pos) (qV f):=
 PE.imp (L8 hc hgs hms hgt hmt ha h1 h2 kr B) λσ H Q q_=>by
  obtain⟨Hf0,H0,Hf,ρ,ds,st,z,k⟩:=q_;unfold qV at z
  cases L:f ρ with
  |none=>rw[L]at z;cases z
  |some d=>
   rw[L]at z
   cases M:lsD d with
   |none=>rw[aA,M]at z;cases z
   |some xs=>
    rw[aA,M]at z
    cases U:i4 xs with
    |none=>rw[aA,U]at z;cases z
    |some ns=>
     rw[aA,U,aA]at z;split at z
     .rename_i hl;cases z;refine⟨Hf0,H0,Hf,ρ,d,st,L,λv Hf' H' x r=>?_⟩;obtain⟨l,vs,el,q,rs⟩:=j7 M r;rw[yt U]at rs;have ev:=yv rs;subst ev el;exact⟨l,ns,rfl,x.s.seq q,hl.1,hl.2,λpp hp=>k pp _ Hf' _ (x.trans (Ext.tmp x.s hp)) (x.h.free hp) (x.s.free hp) aZ (ao.ints _)⟩
     .cases z
abbrev mw(f g:MF1)(ρ:LS):OLD:=(f ρ).bind λx=>(g ρ).bind λy=>match x,y with
 |.lst a,.lst b=>if a.length+b.length<=16777216 then aa (a++b) else ac
 | _,_=>ac
def Ma(h:mw f g ρ=aa ds):∃a b,f ρ=aa (.lst a)/\g ρ=aa (.lst b)/\a.length+b.length<=16777216/\ds=a++b:=by
 unfold mw at h
 cases q:f ρ with
 |none=>rw[q]at h;cases h
 |some x=>
  cases z:g ρ with
  |none=>rw[q,z]at h;cases h
  |some y=>
   rw[q,z,aA,aA]at h;split at h
   .split at h
    .rename_i a b B;cases h;exact⟨a,b,rfl,rfl,B,rfl⟩
    .cases h
   .cases h
def yw{a:Expr}(ha:DE c X a f)(hb:DE c X b g):DO c X (.BinOp a .Add b pos) (mw f g):=PE.imp (Ci CL ha hb) λσ H Q q_=>by
 obtain⟨Hf0,H0,Hf,ρ,ds,st,U,k⟩:=q_;obtain⟨xs,ys,L,M,hl,rfl⟩:=Ma U;refine⟨Hf0,H0,Hf,ρ,_,st,L,λv eD H1 B r1=>⟨Hf0,H0,eD,ρ,_,st.step B,M,λu dr H2 q r2=>?_⟩⟩;obtain⟨l,vs,el,q1,s1⟩:=r1.up q.f;obtain⟨m,us,em,q2,s2⟩:=r2;subst el em;have x:=B.trans q;exact⟨l,m,vs,us,rfl,rfl,q.s _ _ q1,q.s _ _ q2,by rw[dG,<- s1.length,<- s2.length];exact hl,λp z=>k p _ dr _ (x.trans (Ext.tmp x.s z)) (x.h.free z) (x.s.free z) aZ (s1.append s2)⟩
abbrev wp(F:MF3)(ρ:LS)(K:Fl->Prop):Prop:=∃o,F ρ=aa o/\K o
abbrev Et(F:MF3)(K:Fl->Prop):Fl->Prop
 |.nx ρ=>wp F ρ K
 |o=>K o
abbrev yx(J:LS->Prop)(K:Fl->Prop):Fl->Prop
 |.nx ρ=>J ρ
 |.ct ρ=>J ρ
 |.bk ρ=>K (.nx ρ)
 |o=>K o
abbrev uq(Q:D->Prop)(o:Fl):Prop:=∃d,xR o=aa d/\Q d
variable{K:Fl->Prop}
def ay(h:wp F ρ (Et F' K)):wp (ap F F') ρ K:=by
 obtain⟨o,e,k⟩:=h;unfold wp ap;rw[e]
 cases o with
 |nx ρ'=>exact k
 | _=>exact⟨_,rfl,k⟩
def ca(h:K (.nx ρ)):wp bQ ρ K:=⟨_,rfl,h⟩
def bM(h:f ρ=aa d)(k:K (.nx (ρ.set i (.im d)))):wp (bm i f) ρ K:=⟨_,KU h,k⟩
def kh{f:MF2}{d:LD}(h:f ρ=aa d)(k:K (.nx (ρ.set i (.own d)))):wp (fm i f) ρ K:=⟨_,KW h,k⟩
def hV(h:f ρ=aa d)(k:K (.rt d)):wp (bd f) ρ K:=⟨_,fT h,k⟩
def hX{f:MF2}{d:LD}(h:f ρ=aa d)(k:K (.rtO d)):wp (dk f) ρ K:=⟨_,by unfold dk;rw[h];rfl,k⟩
def Eu{o:Fl}(h:F ρ=aa o)(k:K o):wp F ρ K:=⟨_,h,k⟩
def bq{t:MF4}{b:Bool}(h:t ρ=aa b)(z:b=ab->wp F ρ K)(q:b=ae->wp F' ρ K):wp (bz t F F') ρ K:=by
 unfold wp bz;rw[h]
 cases b with
 |true=>exact z rfl
 |false=>exact q rfl
def jC(e:xQ i ρ=ρ')(h:wp F ρ' K):wp (gE i F) ρ K:=by
 subst e;exact h
variable{xs:LD}
def lG(h:f ρ=aa d)(h':ρ[i]?=aa (.own xs))(q:xs.length<16777216)(k:K (.nx (ρ.set i (.own (xs++[d]))))):wp (hJ i f) ρ K:=⟨_,K7 h h' q,k⟩
def mx(hv:fv ρ=aa d)(B:fk ρ=aa (.int k))(h':ρ[i]?=aa (.own xs))(q:0<=k)(z:k<xs.length):mq i fk fv ρ=aa (.nx (ρ.set i (.own (xs.set k.toNat d)))):=by
 have e:ixN xs.length k=aa k.toNat:=by
  unfold ixN;rw[if_pos q,if_pos z]
 unfold mq;rw[hv,aA,B,aA]
 show(match ρ[i]? with |some (.own xs)=>(ixN xs.length k).map λj=>Fl.nx (ρ.set i (.own (xs.set j d))) | _=>ac)=_
 rw[h'];show(ixN xs.length k).map _=_;rw[e];rfl
def Ev(hv:fv ρ=aa d)(L:fk ρ=aa (.int k))(h':ρ[i]?=aa (.own xs))(z:0<=k)(B:k<xs.length)(q:K (.nx (ρ.set i (.own (xs.set k.toNat d))))):wp (mq i fk fv) ρ K:=⟨_,mx hv L h' z B,q⟩
def Ew{M:Type}{g:D->LS->Option LS}{F:MF3}{K:Fl->Prop}(f:M->D)(I:List M->LS->Prop):∀(post pre:List M) (ρ:LS),I pre ρ ->
  (∀z x L ρ,pre++post=z++x::L->I z ρ->∃hI,g (f x) ρ=aa hI/\wp F hI (yx (I (z++[x])) K))->(∀ρ',I (pre++post) ρ'->K (.nx ρ'))->wp (iX g F (post.map f)) ρ K
 | [],pre,ρ,h,_,hk=>⟨_,rfl,hk ρ (by rw[cB];exact h)⟩
 |x::post,pre,ρ,h,hs,hk=>by
  obtain⟨hI,U,o,e2,B⟩:=hs pre x post ρ rfl h;unfold wp;rw[bp];unfold iX;rw[U,aA,e2,aA]
  have go:∀q,I (pre++[x]) q->wp (iX g F (post.map f)) q K:=λq h2=>
   Ew f I post (pre++[x]) q h2 (by rw[fZ];exact hs) (by rw[fZ];exact hk)
  cases o with
  |nx q=>exact go q B
  |ct q=>exact go q B
  |bk q=>exact⟨_,rfl,B⟩
  |rt d=>exact⟨_,rfl,B⟩
  |rtO d=>exact⟨_,rfl,B⟩
  |rtS d q=>exact⟨_,rfl,B⟩
  |rtT o=>exact⟨_,rfl,B⟩
def eE{q:Type}{g:D->LS->Option LS}(xs:List q)(f:q->D)(I:List q->LS->Prop)(hi:fi ρ=aa (xs.map f))(z:I [] ρ)
 (L:∀pre x post ρ,xs=pre++x::post->I pre ρ->∃hI,g (f x) ρ=aa hI/\wp F hI (yx (I (pre++[x])) K))(B:∀ρ',I xs ρ'->K (.nx ρ')):wp (cX fi g F) ρ K:=by
 obtain⟨o,e,k⟩:=Ew f I xs [] ρ z L B;refine⟨o,?_,k⟩;unfold cX;rw[hi];exact e
def qW{t:MF4}{F:MF3}{K:Fl->Prop}(I:Nat->LS->Prop)(M:∀m ρ,I m ρ->∃b,t ρ=aa b/\(b=ab->wp F ρ (yx (λρ'=>∃L,L<m/\I L ρ') K))/\(b=ae->K (.nx ρ))):
  ∀(n m:Nat) (ρ:LS),I m ρ->m<n->wp (iz t F n) ρ K
 | 0,m,ρ,_,h=>absurd h (jd _)
 |n+1,m,ρ,h,hn=>by
  obtain⟨b,e,kT,kF⟩:=M m ρ h;unfold wp;unfold iz;rw[e,aA]
  cases b with
  |false=>exact⟨_,rfl,kF rfl⟩
  |true=>
   rw[if_pos rfl];obtain⟨o,U,B⟩:=kT rfl;rw[U,aA]
   have go:∀z,(∃L,L<m/\I L z)->wp (iz t F n) z K:=λz q=>by
    obtain⟨L,hm,h2⟩:=q;exact qW I M n L z h2 (by lia)
   cases o with
   |nx z=>exact go z B
   |ct z=>exact go z B
   |bk z=>exact⟨_,rfl,B⟩
   |rt d=>exact⟨_,rfl,B⟩
   |rtO d=>exact⟨_,rfl,B⟩
   |rtS d z=>exact⟨_,rfl,B⟩
   |rtT o=>exact⟨_,rfl,B⟩
variable{Q:D->Prop}
def lH(h:wp F (eU n ds) (uq Q)):∃d,aW n F ds=aa d/\Q d:=by
 obtain⟨o,e,d,z,q⟩:=h;refine⟨d,?_,q⟩;unfold aW;rw[e];exact z
def hZ{r:D}(h:wp F (eU n ds) (uq λd=>d=r)):aW n F ds=aa r:=by
 obtain⟨d,e,q⟩:=lH h;rw[e,q]
def d5(h:Q d):uq Q (.rt d):=⟨d,rfl,h⟩
def gi{d:LD}(h:Q (.lst d)):uq Q (.rtO d):=⟨.lst d,rfl,h⟩
def yy{t:MF4}{b:Bool}{r:OD}(h:t ρ=aa b)(z:b=ab->f ρ=r)(q:b=ae->g ρ=r):vIf t f g ρ=r:=by
 unfold vIf;rw[h]
 cases b with
 |true=>exact z rfl
 |false=>exact q rfl
variable{i j:Int}
def jD(h:0<j):bx (.int i) (.int j)=aa (.int (i % j)):=t9 h
def ur(h:qA i j):iU (.int i) (.int j)=aa (.int (i / j)):=t9 h
def Mb(h:oQ i j):xD (.int i) (.int j)=aa (.int (i ^ j.toNat)):=t9 h
def my:cy (.int i) (.int j)=aa (.int (i+j)):=rfl
def yA:nI (.int i) (.int j)=aa (.int (i-j)):=rfl
def ut:dGt (.int i) (.int j)=aa (.bl (decide (j<i))):=rfl
def Ex:dGe (.int i) (.int j)=aa (.bl (decide (j<=i))):=rfl
def ib{q:Type}(xs:List q)(f:q->D):dC [.lst (xs.map f)]=aa (.int xs.length):=by
 show aa (D.int ((xs.map f).length:Int))=_;rw[aH]
def Ey{q:Type}(f:q->D)(xs:List q)(lo hi:Option Int):nM (xs.map f) lo hi=((xs.drop (HT.sIx xs.length 0 lo)).take (HT.sIx xs.length xs.length hi-HT.sIx xs.length 0 lo)).map f:=by
 unfold nM;rw[aH,map_take,map_drop]
variable{lo hi:Option Int}
def mz{q:Type}{l h:LS->Option (Option Int)}{g:q->D}{xs:List q}(e:f ρ=aa (.lst (xs.map g)))(z:l ρ=aa lo)(B:h ρ=aa hi):mSl f l h ρ=aa (((xs.drop (HT.sIx xs.length 0 lo)).take (HT.sIx xs.length xs.length hi-HT.sIx xs.length 0 lo)).map g):=by
 unfold mSl;rw[e,aA];show(l ρ).bind (λlo=>(h ρ).map λhi=>nM (xs.map g) lo hi)=_;rw[z,aA,B,<- Ey];rfl
def Ez{q:Type}{l h:LS->Option (Option Int)}{g:q->D}{xs:List q}(e:f ρ=aa (.kl (xs.map g)))(z:l ρ=aa lo)(B:h ρ=aa hi):mSl f l h ρ=aa (((xs.drop (HT.sIx xs.length 0 lo)).take (HT.sIx xs.length xs.length hi-HT.sIx xs.length 0 lo)).map g):=by
 unfold mSl;rw[e,aA];show(l ρ).bind (λlo=>(h ρ).map λhi=>nM (xs.map g) lo hi)=_;rw[z,aA,B,<- Ey];rfl
def EA{q:Type}(xs:List q)(f:q->D):dNe (.lst (xs.map f)) (.lst [])=aa (.bl (!xs.isEmpty)):=by cases xs <;> rfl
def Mc{q:Type}(f:q->Bool)(xs:List q):(xs.map λx=>D.bl (f x))=(xs.map f).map D.bl:=by
 rw[map_map];rfl
def Md{q:Type}(f:q->Int)(xs:List q):(xs.map λx=>D.int (f x))=(xs.map f).map D.int:=by
 rw[map_map];rfl
abbrev kJ(J:LS->Prop)(o:Fl):Prop:=∃ρ',o=.nx ρ'/\J ρ'
def k_J{J:LS->Prop}(h:J ρ):kJ J (.nx ρ):=⟨ρ,rfl,h⟩
def EB{S F:MF3}(J:LS->Prop)(h:wp S ρ (kJ J))(k:∀ρ',J ρ'->wp F ρ' K):wp (ap S F) ρ K:=by
 apply ay;obtain⟨o,e,ρ',rfl,j⟩:=h;exact⟨_,e,k ρ' j⟩
def yB{i:Nat}(h:ρ[i]?=aa (.im d))(k:K (.rt d)):wp (hE i) ρ K:=⟨_,by unfold hE;rw[h],k⟩
def pJ{i:Nat}{d:LD}(h:ρ[i]?=aa (.own d))(k:K (.rtO d)):wp (hE i) ρ K:=⟨_,by unfold hE;rw[h],k⟩
abbrev D.flat:D->Bool
 |.tup xs=>xs.all D.scalar
 |d=>d.scalar
abbrev ki(Hf H:Hp):Hp:=λa=>match H a with
 |some (.tup vs)=>aa (.tup vs)
 | _=>Hf a
def yC(h:H a=aa (.tup vs)):ki Hf H a=aa (.tup vs):=by
 unfold ki;rw[h]
def qX(h:∀vs,H a≠aa (.tup vs)):ki Hf H a=Hf a:=by
 unfold ki;split
 .rename_i vs e;exact absurd e (h vs)
 .rfl
def EC(s:av Hf H)(g:av H H'):Ext Hf H (ki Hf H') H':=by
 refine⟨λb u e=>?_,g,λb u e=>?_,λl o e t=>qX λvs q=>?_⟩
 .have z:=g b u (s b u e)
  cases u with
  |tup vs=>exact yC z
  | _=>
   rw[qX (λvs q=>by rw[z]at q;cases q)];exact e
 .by_cases h:∃vs,H' b=aa (.tup vs)
  .obtain⟨vs,h⟩:=h;rw[yC h]at e;rw[h];exact e
  .rw[qX (λvs q=>h ⟨vs,q⟩)]at e;exact g b u (s b u e)
 .rw[g l o e]at q;cases q;cases t
def ao.sc{G:Gc}{H H':Hp}:∀{ds:LD} {vs:List V},ds.all D.scalar=ab->ao G H ds vs->ao G H' ds vs
 | [],_,_,h=>h
 |d::ds,_,hs,q3_=>by
  obtain⟨v,r,e,q,z⟩:=q3_;rw[mQ,cx]at hs;exact⟨v,r,e,q.sc hs.1,ao.sc hs.2 z⟩
variable{G:Gc}
def Rep.flat(z:d.flat=ab)(r:Rep G H d v):Rep G (ki Hf H) d v:=by
 cases d with
 |tup xs=>
  obtain⟨a,vs,e,h,q⟩:=r
  exact⟨a,vs,e,yC h,q.sc z⟩
 |non=>exact r.sc z
 |bl _=>exact r.sc z
 |int _=>exact r.sc z
 |str _=>exact r.sc z
 |lst _=>cases z
 |kl _=>cases z
 |kt _=>cases z
 |dic _ _=>cases z
 |ins _ _ _=>cases z
 |kd _ _=>cases z
 |dT _ _=>cases z
variable{k:Nat}{f:Addr}
def Mf(pk:Pk X.prog X.w X.K X.mg X.base CX0 k x (f,fd) ps (spD (Gx c X) ps.length m))(L:bF k0 X.A)(ha:DAB c X (e::es) fa)(hl:(e::es).length=ps.length:=by rfl)(q:NDb x:=by decide)(he:StE X e es:=by rfl)(B:BkE X pos es:=by rfl)(z:k<=k0:=by decide)(hg:Gl X x:=by first |rfl |exact glc rfl):
  DB c X (.Call (.Name x p) (e::es) [] pos) (aB m fa):=PE.imp (tm pk.ok (L.mono z) hg pk.g pk.kp pk.b .nil iQ ha.pa q he B) λσ H Q q_=>by
 obtain⟨Hf0,H0,Hf,ρ,d,st,ef,kq⟩:=q_;obtain⟨ds,M,e2⟩:=tU ef;refine⟨Hf0,H0,Hf,ρ,ds,st,M,λvs Hf' H' x r=>?_⟩;dsimp only;rw[cB];exact⟨H',ds,d,av.refl _,r,(ha.len ρ ds M).trans hl,e2,λv dr H2 U r2=>kq v Hf' H2 (x.trans (Ext.grow x.s U.h)) (r2.up U.s)⟩
def ao.flat{G:Gc}{Hf H:Hp}:∀{ds:LD} {vs:List V},ds.all D.flat=ab->ao G H ds vs->ao G (ki Hf H) ds vs
 | [],_,_,h=>h
 |d::ds,_,hs,q3_=>by
  obtain⟨v,r,e,q,z⟩:=q3_;rw[mQ,cx]at hs;exact⟨v,r,e,q.flat hs.1,ao.flat hs.2 z⟩
abbrev n6(m q:D->D->OD)(f g h:MF1)(ρ:LS):OD:=(f ρ).bind λx=>(g ρ).bind λy=>(m x y).bind λz=>match z with
 |.bl ab=>(h ρ).bind λw=>q y w
 |.bl ae=>aa (.bl ae)
 | _=>ac
variable{m':D->D->OD}{h:MF1}
def Mg{m:D->D->OD}{f:MF1}(e:n6 m m' f g h ρ=aa d):∃x y b,f ρ=aa x/\g ρ=aa y/\m x y=aa (.bl b)/\(b=ae->d=.bl ae)/\(b=ab->∃w,h ρ=aa w/\m' y w=aa d):=by
 unfold n6 at e
 cases L:f ρ with
 |none=>rw[L]at e;cases e
 |some x=>
  cases M:g ρ with
  |none=>rw[L,M]at e;cases e
  |some y=>
   rw[L,M,aA,aA]at e
   cases B:m x y with
   |none=>rw[B]at e;cases e
   |some z=>
    rw[B,aA]at e
    cases z with
    |bl b=>
     cases b with
     |false=>
      have e:aa (D.bl ae)=aa d:=e
      exact⟨x,y,ae,rfl,rfl,B,λ_=>(cN e).symm,λq=>by cases q⟩
     |true=>
      have e:(h ρ).bind (λw=>m' y w)=aa d:=e
      cases U:h ρ with
      |none=>rw[U]at e;cases e
      |some w=>rw[U]at e;exact⟨x,y,ab,rfl,rfl,B,λq=>(by cases q),λ_=>⟨w,rfl,e⟩⟩
    | _=>cases e
def Mh{a c':Expr}{B:CmpOp}{m:D->D->OD}{f:MF1}(ho:OpD c X (cC op) m)(hs:∀x y d,m x y=aa d->d.scalar=ab)(ho':OpD c X (cC B) m')(hs':∀x y d,m' x y=aa d->d.scalar=ab)(ha:DB c X a f)(hb:DB c X b g)(hc:DB c X c' h)
 (hm:lastMarks [op,B] [b,c']=ae:=by with_unfolding_all rfl):DE c X (.Compare a [op,B] [b,c'] pos) (n6 m m' f g h):=PE.imp (IM ho ho' ha hb hc hm) λσ H Q q_=>by
 obtain⟨Hf0,H0,Hf,ρ,d,st,ef,k⟩:=q_;obtain⟨x,y,b',e1,e2,e3,eF,eT⟩:=Mg ef;refine⟨Hf0,H0,Hf,ρ,x,st,e1,λv eD H1 U r1=>⟨Hf0,H0,eD,ρ,y,st.step U,e2,λu dr H2 M r2=>⟨H2,x,y,.bl b',av.refl _,r1.up M.h,r2,e3,λz h9 H3 x3 r3=>⟨b',r3,?_⟩⟩⟩⟩;have L:Ext dr H2 dr H3:=Ext.grow M.s x3.h;have st3:au (Gx c X) Hf0 H0 dr H3 σ ρ:=(st.step (U.trans M)).step L
 cases b' with
 |false=>
  rw[if_neg ba]
  exact k _ dr H3 ((U.trans M).trans L) (by rw[eF rfl];rfl)
 |true=>
  rw[if_pos rfl];obtain⟨w,e4,e5⟩:=eT rfl;exact⟨Hf0,H0,dr,ρ,w,st3,e4,λw' Hf4 H4 x4 r4=>⟨H4,y,w,d,av.refl _,r2.up (x3.h.trans x4.h),r4,e5,λq Hf5 H5 x5 r5=>k _ Hf4 H5 (((U.trans M).trans L).trans (x4.trans (Ext.grow x4.s x5.h))) (r5.sc (hs' _ _ _ e5))⟩⟩
def yD{m:LD->OLD}{f:MF2}(h:f ρ=aa ds)(h':m ds=aa rs):pq m f ρ=aa rs:=by
 unfold pq;rw[h,aA,h']
def yE(h:F (eU n ds)=aa (.rtO rs)):nR n F ds=aa rs:=by
 unfold nR;rw[h];rfl
variable{f:MF1}{b:Bool}
def Mi{m:D->D->OD}{x w:D}{q:Bool}(z:f ρ=aa x)(B:g ρ=aa y)(L:m x y=aa (.bl b))(M:h ρ=aa w)(U:m' y w=aa (.bl q)):n6 m m' f g h ρ=aa (.bl (b && q)):=by
 unfold n6;rw[z,aA,B,aA,L,aA]
 cases b with
 |false=>rfl
 |true=>
  show(h ρ).bind (λw=>m' y w)=_;rw[M];exact U
abbrev tSL(K:aV)(te:TE):TE:=λσ H Q=>te σ H λx H1=>∃l ns,x=.ref l/\SqL K H1 l (ns.map V.int)/\ns.length<64/\ns.Nodup/\∀p,H1 p=ac->Q (.ref p) (upd H1 p (.lst ((b9 ns).map V.int)))
def Mj(nd:ns.Nodup)(p:out.Perm ns)(L:out.Pairwise (·<=·)):out=b9 ns:=by
 have q:out.Nodup:=p.nodup_iff.mpr nd
 have lt:out.Pairwise (· < ·):=by
  refine List.Pairwise.imp₂ (λa b z B=>?_) L q;exact Int.lt_iff_le_and_ne.mpr ⟨z,B⟩
 exact yp _ _ lt (nY _) λk=>by rw[nX];exact p.mem_iff
def Ml(L:Gl X "sorted")(M:X.mg "sorted"=ac)(he:PE X e te)(h1:aO [e] X.env=(ae,eval e X.env)::aO [] X.env:=by rfl)(U:(cr pos (aO [] X.env)).any (·.1)=ae:=by rfl):
  PE X (.Call (.Name "sorted" p) [e] [] pos) (tSL X.K te):=by
 intro pins s σ H Q I h;refine k6 (jl I L M boot_sorted ?_);refine wz ?_ h1 U;rw[h1];show wpAny _ _ (spliced ((ae,eval e X.env)::cr pos (aO [] X.env))) _ _ s;refine jZ (thn (he pins s σ H _ I h) λu s1 q_=>?_);obtain⟨x,H1,z,r1,l,ns,e1,hq,B,nd,q⟩:=q_;subst e1;cases r1;refine aD ?_;obtain⟨its,rr,pl,hz⟩:=z.list hq;have ii:e8 its ns:=yr rr;refine sorted_ints pl.isList ii (by rw[ii.length];exact B) λout ns' o1 o2 o3=>?_;obtain⟨ep,ge⟩:=sortedAll_at s1.heap its out;have en:ns'=b9 ns:=Mj nd o2 o3;subst en;have hl:=o2.length_eq;refine⟨.ref (s1.heap.objs.size+1),_,(z.laid (t':=s1.toks) (a:=s1.heap.objs.size+1) (o:=.lst ((b9 ns).map V.int)) (λb u g=>sortedAll_old g) (kX _) ?_),rfl,q _ (z.hok.fresh (kX _))⟩;exact⟨by rw[aH,dG];lia,out.toList,ep,yq o1,by simpa using ge⟩
abbrev qY(f:MF1)(ρ:LS):OLD:=(f ρ).bind λd=>(lsD d).bind λds=>(i4 ds).bind λns=>if ns.length<64/\ns.Nodup then aa ((b9 ns).map .int) else ac
def Mm(_hc:X.calm=ab)(U:Gl X "sorted")(hms:X.mg "sorted"=ac)(ha:DE c X e f)
 (h1:aO [e] X.env=(ae,eval e X.env)::aO [] X.env:=by rfl)(kr:(cr pos (aO [] X.env)).any (·.1)=ae:=by rfl):DO c X (.Call (.Name "sorted" p) [e] [] pos) (qY f):=
 PE.imp (Ml U hms ha h1 kr) λσ H Q q_=>by
  obtain⟨Hf0,H0,Hf,ρ,ds,st,z,k⟩:=q_;unfold qY at z
  cases B:f ρ with
  |none=>rw[B]at z;cases z
  |some d=>
   rw[B]at z
   cases L:lsD d with
   |none=>rw[aA,L]at z;cases z
   |some xs=>
    rw[aA,L]at z
    cases M:i4 xs with
    |none=>rw[aA,M]at z;cases z
    |some ns=>
     rw[aA,M,aA]at z;split at z
     .rename_i hl;cases z;refine⟨Hf0,H0,Hf,ρ,d,st,B,λv Hf' H' x r=>?_⟩;obtain⟨l,vs,el,q,rs⟩:=j7 L r;rw[yt M]at rs;have ev:=yv rs;subst ev el;exact⟨l,ns,rfl,x.s.seq q,hl.1,hl.2,λpp hp=>k pp _ Hf' _ (x.trans (Ext.tmp x.s hp)) (x.h.free hp) (x.s.free hp) aZ (ao.ints _)⟩
     .cases z
def Mn(h:f ρ=aa (.lst (ns.map D.int)))(q:ns.length<64)(z:ns.Nodup):qY f ρ=aa ((b9 ns).map D.int):=by
 unfold qY;rw[h,aA];show(i4 (ns.map D.int)).bind _=_;rw[yu,aA,if_pos ⟨q,z⟩]
def ED{k:Int}(h:k.natAbs<2 ^ n):sQ k<=n:=by
 unfold sQ;split
 .exact c4 _
 .rename_i q;have:k.natAbs≠0:=λz=>q (by rw[Int.natAbs_eq_zero.mp z];rfl);exact(Nat.log2_lt this).mpr h
abbrev kj(i j:Int):Prop:=qB i j\/(i.natAbs<2 ^ 200/\j.natAbs<2 ^ 200)
def kj.ok(h:kj i j):IntMulOk i j:=by
 rcases h with h |⟨h1,h2⟩
 .exact h.ok
 .have a:=ED h1;have b:=ED h2;unfold IntMulOk
  have:BY (sQ i+sQ j)=ae:=by
   unfold BY;have c:(400:Int)<=bitsLine:=by decide
   exact decide_eq_false (by lia)
  rw[this,sw];exact ba
noncomputable instance {i j:Int}:Decidable (kj i j):=by unfold kj;infer_instance
@[reducible]noncomputable def dJ:D->D->OD:=dI kj λi j=>.int (i*j)
def Mo:OpR X (f9 .Mult) (rI kj λi j=>.int (i*j)):=opI λ_ _ _ _ _ _ _ z q=>mul_int q z.ok
def jE:OpD c X (f9 .Mult) dJ:=tL Mo λ_ _ _ _=>rfl
def Mp(h:kj i j):dJ (.int i) (.int j)=aa (.int (i*j)):=t9 h
set_option maxRecDepth 100000
def qZ:Slot "list_reverseiterator" "__next__" "list_reverseiterator.__next__":=Slot.of (n:="__next__") (owner:="list_reverseiterator")
 (by rw[k8,k5];kernel_rfl) (by decide +kernel) (by decide +kernel) (by decide +kernel) (by first |exact b7 (by decide +kernel) |exact bB (by decide +kernel)) (by rw[mV];kernel_rfl)
def EE:Slot "list_reverseiterator" "__iter__" "list_reverseiterator.__iter__":=Slot.of (n:="__iter__") (owner:="list_reverseiterator")
 (by rw[k8,k5];kernel_rfl) (by decide +kernel) (by decide +kernel) (by decide +kernel) (by first |exact b7 (by decide +kernel) |exact bB (by decide +kernel)) (by rw[mV];kernel_rfl)
def EF:m8 table "list_reverseiterator.__next__"=aa dY.«list_reverseiterator.__next__»:=by exact entryFor_of_fast (by kernel_rfl)
def Mq:m8 table "list_reverseiterator.__iter__"=aa dY.«dict_keyiterator.__iter__»:=by exact entryFor_alias (id':="dict_keyiterator.__iter__") (by kernel_rfl) rfl (by decide +kernel) (by kernel_rfl)
def EG(v:Value):argsOk "list_reverseiterator.__next__" ⟨[v],[]⟩:=by(unfold argsOk;kernel_rfl)
def Mr(v:Value):argsOk "list_reverseiterator.__iter__" ⟨[v],[]⟩:=by(unfold argsOk;kernel_rfl)
abbrev gL(h:Heap)(it l:Addr)(j:Int):Prop:=∃o,h.get? it=aa o/\o.cls=.type "list_reverseiterator" /\ o.data=.fields #[.ref l,bE j]
def gL.ty(h:gL s.heap it l j):s.TypeIs (.ref it) "list_reverseiterator":=by
 obtain⟨o,e,c,_⟩:=h;exact⟨o,e,c⟩
def EH{Q:PRS}(q:gL s.heap it l j)(h:Q (.ref it) s):wpAny (model P w) A (pyIter (.ref it)) Q E s:=by
 refine wpAny_pyIter_slot q.ty EE (jU EE q.ty Mq ?_ (Mr _));show wpAny _ _ (ret (bJ it)) _ _ s;exact aD ⟨bJ it,rfl,"list_reverseiterator",_,q.ty,qZ.lookup,h⟩
variable{its:Array Value}
def Ms{j:Nat}{x:Value}{Q:Option Value->ai->Prop}(z:gL s.heap it l j)(hl:s.heap.IsList l its)(hx:its[j]?=aa x)
 (M:∀h',gL h' it l ((j:Int)-1)->gy it s.heap h'->Q (aa x) {s with heap:=h'}):wpAny (model P w) A (fH (.ref it)) Q E s:=by
 obtain⟨o,q,U,hd⟩:=id z;obtain⟨o2,L,_,n2,B⟩:=hl;unfold fH;refine am (oH (oB (name:=nh "__next__") z.ty qZ (jU qZ z.ty EF ?_ (EG _))));show wpAny _ _ (field (bJ it) 1 >>= _) _ _ s;refine am (wpAny_field q hd (x:=bE (j:Int)) rfl ?_);show wpAny _ _ (if (j:Int)<0 then _ else _) _ _ s;rw[if_neg (show ¬((j:Int)<0) by lia)];show wpAny _ _ (field (bJ it) 0 >>= _) _ _ s;refine am (wpAny_field q hd (x:=bJ l) rfl ?_);show wpAny _ _ (seqItems? (bJ l) >>= _) _ _ s;refine am (sP L B ?_);simp only[eI,hx];refine am (wpAny_setField q hd (by simp) (aD ⟨x,rfl,aD (M _ ?_ (oM ..))⟩));refine⟨_,oK _ q (Obj.isFreed_of_fields (Obj.data_mapFields hd _)),(Obj.cls_mapFields ..).trans U,?_⟩;rw[Obj.data_mapFields hd];simp[bE]
def Mt(L:j<0){Q:Option Value->ai->Prop}(B:A.handled=ac)(q:gL s.heap it l j)
 (z:∀h',Heap.ExtBut it s.heap h'->Q ac {s with heap:=h'}):wpAny (model P w) A (fH (.ref it)) Q E s:=by
 obtain⟨o,M,hc,hd⟩:=id q;unfold fH;refine am (oH (oB (name:=nh "__next__") q.ty qZ (jU qZ q.ty EF ?_ (EG _))));show wpAny _ _ (field (bJ it) 1 >>= _) _ _ s;refine am (wpAny_field M hd (x:=bE j) rfl ?_);show wpAny _ _ (if j<0 then _ else _) _ _ s;rw[if_pos L];refine am (lZ ?_);refine am ?_;show wpAny _ _ (newExc (.type "StopIteration") [] >>= _) _ _ _;refine am ?_;simp only[newTuple,newExc]
 refine am (je ?_ (by size_fits));refine am (m:=oF _ _) (qy (a:=iM) (by first |rfl |(simp only[oF];rfl)) ?_)
 refine je ?_ (by size_fits);simp only[raiseNew];refine am (wpAny_handled ?_);rw[show A.in1.handled=ac from B];refine am (aD (wpAny_throw ?_));refine am (qx (T:="StopIteration") (b:=ab) ⟨_,cO _ rfl,rfl⟩ isSubtype_stop ?_);refine aD (z _ λb u U e=>?_);exact bC _ (bC _ e)
def Mu{T U q:String}{Bn:dY}{args:LVa}{S:Hd}{Q:PRS}{c:Value}{tl:LVa}
 (n1:(gA T==gA "type")=ae)(n2:((Manifest.find? T).bind (·.mro.findSome? λt=>(Manifest.find? t).bind λb=>if b.noNew then aa ab else if b.attrs.any (·.1 == "__new__") then aa ae else ac)).getD ae=ae)
 (hmro:mroOf (.type T)=pure (c::tl))(hmade:Bind.madeBy (.type T)=pure (aa q))(B:plainId q=ab)(hsub:isSubtype (.type U) (.type T)=pure ae)
 (hct:checkTypeCall T ⟨args,[]⟩=pure ())(M:checkBuiltinCall q ⟨.type T::args,[]⟩=pure ())(z:m8 table q=aa Bn)(g:Meets (Bn ⟨.type T::args,[]⟩) S)
 (h:S A.in1 (wants (λobj L=>L.TypeIs obj U/\Q obj L) E) s):wpAny (model P w) A (call (.type T) args) Q E s:=by
 refine wpAny_call (codeAny_of_tree ?_);show wpAny _ _ (callAny (.type T) _) _ _ _;refine aD ⟨Code.quiet_builtin _ (by decide +kernel),k7 F.entry_type_call ?_⟩;rw[cI.under_plain (weight_type_call_type T args []) (units_type_call_type T args [])]
 repeat (any_goals (first |assumption |wp_step))
 refine lY (wB B z (qy M (g P w A.in1 _ s h))) λr s1 hr=>?_
 cases r with
 |error e=>exact hr
 |ok fl=>
  cases fl with
  |ret obj=>
   obtain⟨hT,hq⟩:=hr
   repeat (any_goals (first |assumption |wp_step))
  | _=>exact hr.elim
def EI:mroOf (.type "reversed")=pure [.type "reversed",.type "object"]:=by(rw[mroOf_type];kernel_rfl)
def Mv:mZ (.type "reversed") "__new__"=pure (aa (.builtin "reversed.__new__")):=by(rw[k8,k5];kernel_rfl)
def Mw:Bind.madeBy (.type "reversed")=pure (aa "reversed.__new__"):=madeBy_type EI Mv (by decide +kernel)
def Mx:isSubtype (.type "list_reverseiterator") (.type "reversed")=pure ae:=by(rw[mV];kernel_rfl)
def My:m8 table "reversed.__new__"=aa dY.«reversed.__new__»:=by exact entryFor_of_tree (by kernel_rfl)
def Mz:jf "reversed"=aa (.type "reversed"):=by kernel_rfl
def MA:mZ (.type "list") "__reversed__"=pure (aa (.builtin "list.__reversed__")):=by(rw[k8,k5];kernel_rfl)
def MB(l:Addr)(its:Array Value)(n:Nat)(dc:Option Addr)(sl:Array (Option Value)):Meets (dY.«list.__reversed__» ⟨[.ref l],[]⟩) (λ_ R s=>s.heap.get? l=aa {cls:=.type "list",dict:=dc,data:=.seq its n,slots:=sl}/\R (.ok (.ret (.ref s.heap.objs.size))) {s with heap:=s.heap.push {cls:=.type "list_reverseiterator",data:=.fields #[.ref l,bE (((its.size:Nat):Int)-1)]}}):=
 .of_wp λprog w A R s h=>by
  obtain⟨z,g,d,B,os⟩:=s;obtain⟨q,h⟩:=h
  wp_walk
  exact⟨_,rfl,h⟩
def MC(l:Addr)(its:Array Value)(n:Nat)(dc:Option Addr)(sl:Array (Option Value)):Meets (dY.«reversed.__new__» ⟨[.type "reversed",.ref l],[]⟩) (λ_ R s=>s.heap.get? l=aa {cls:=.type "list",dict:=dc,data:=.seq its n,slots:=sl}/\R (.ok (.ret (.ref s.heap.objs.size))) {s with heap:=s.heap.push {cls:=.type "list_reverseiterator",data:=.fields #[.ref l,bE (((its.size:Nat):Int)-1)]}}):=
 .of_wp λprog w A R s h=>by
  obtain⟨q,g,d,z,os⟩:=s;obtain⟨B,h⟩:=h;have hsp:=MA;have L:isSubtype (.type "reversed") (.type "reversed")=pure ab:=by(rw[mV];kernel_rfl)
  have M:sU ⟨q,g,d,z,os⟩ (.ref l) "list":=⟨_,B,rfl⟩;have hb:=wH.bind (bJ l)
  repeat (any_goals (first |assumption |wp_step))
  have step:gV (model prog w) A.in1 (Code.call (Value.builtin "list.__reversed__") ⟨[bJ l],[]⟩) (λr s'=>r=.ok (.ret (.ref q.objs.size))/\s'=⟨q.push {cls:=.type "list_reverseiterator",data:=.fields #[.ref l,bE (((its.size:Nat):Int)-1)]},g,d,z,os⟩) ⟨q,g,d,z,os⟩:=
   wB wH.plain PySem.F.entry_list_reversed (wH.check _ _ _ _ _ _ _ _ M (PySem.F.args_list_reversed_1 _) (MB l its n dc sl prog w A.in1 (λr s'=>r=.ok (.ret (.ref q.objs.size))/\s'=⟨q.push {cls:=.type "list_reverseiterator",data:=.fields #[.ref l,bE (((its.size:Nat):Int)-1)]},g,d,z,os⟩) ⟨q,g,d,z,os⟩ ⟨B,rfl,rfl⟩))
  refine lY step λr s1 U=>?_;obtain⟨rfl,rfl⟩:=U;exact aD ⟨_,rfl,h⟩
def MD{Q:PRS}(B:s.heap.IsList l its)
 (h:∀h',gL h' s.heap.objs.size l (((its.size:Nat):Int)-1)->(∀b o,s.heap.get? b=aa o->h'.get? b=aa o)->Q (.ref s.heap.objs.size) {s with heap:=h'}):wpAny (model P w) A (call (.type "reversed") [.ref l]) Q E s:=by
 obtain⟨⟨c,q,dt,sl⟩,L,z,n,hd⟩:=B;replace z:c=.type "list":=z;replace hd:dt=.seq its n:=hd;subst z hd;have M:gL (s.heap.push {cls:=.type "list_reverseiterator",data:=.fields #[.ref l,bE (((its.size:Nat):Int)-1)]}) s.heap.objs.size l (((its.size:Nat):Int)-1):=⟨_,cO _ rfl,rfl,rfl⟩;refine Mu (U:="list_reverseiterator") (by decide) (by decide +kernel) EI Mw (by decide +kernel) Mx (by kernel_rfl) (by kernel_rfl) My (MC l its n q sl) ⟨L,?_⟩;exact⟨⟨_,cO _ rfl,rfl⟩,h _ M λb o e=>bC _ e⟩
def gL.stay{h:Heap}(q:gL h it l j)(k:∀o,h.get? it=aa o->h'.get? it=aa o):gL h' it l j:=by
 obtain⟨o,e,c,d⟩:=q;exact⟨o,k o e,c,d⟩
abbrev tDX(G:Gc)(f:LS->Option (D×LS)):TE:=λσ H Q=>∃Hf0 H0 Hf ρ d ρ',au G Hf0 H0 Hf H σ ρ/\f ρ=aa (d,ρ')/\∀v Hf' H',av Hf Hf'->au G Hf0 H0 Hf' H' σ ρ'->Rep G Hf' d v->Q v H'
abbrev DX(c:Str->Addr)(X:Cx)(e:Expr)(f:LS->Option (D×LS)):Prop:=PE X e (tDX (Gx c X) f)
def ME:mZ (.type "list_reverseiterator") "__len__"=pure ac:=by(rw[k8,k5];kernel_rfl)
def MF:mZ (.type "list_reverseiterator") "__length_hint__"=pure (aa (.builtin "list_reverseiterator.__length_hint__")):=by(rw[k8,k5];kernel_rfl)
def MG:isSubtype (.type "list_reverseiterator") (.type "list_reverseiterator")=pure ab:=by(rw[mV];kernel_rfl)
def MH{Q:Bool->ai->Prop}(q:gL s.heap it l j)(h:Q ae s):wpAny (model P w) A (wC (.ref it)) Q E s:=by
 unfold wC;refine am (sM q.ty ME ?_)
 change wpAny (model P w) A (specialOf (bJ it) (nh "__length_hint__") >>= _) _ _ _
 refine am (sM q.ty MF ?_)
 change wpAny (model P w) A (isInstance (bJ it) (.type "list_reverseiterator") >>= _) _ _ _
 refine am (qx (T:="list_reverseiterator") (b:=ab) q.ty MG ?_);exact aD h
def MI(hh:A.handled=ac)(hne:it≠l)(its:Array Value):Walks P w A it [it,l] [it] its.size (λi v=>its.toList.reverse[i]?=aa v) (λi h=>gL h it l ((its.size:Int)-1-(i:Int))/\h.IsList l its) where
 sub:=by simp
 frame:=λi h h' ⟨a,o,e,c,n,d⟩ k=>⟨a.stay λo e=>k it (by simp) o e,o,k l (by simp) o e,c,n,d⟩
 item:=λi s Q E hi st hQ=>by
  obtain⟨a,b⟩:=st;have ej:((its.size:Int)-1-(i:Int))=((its.size-1-i:Nat):Int):=by lia
  rw[ej]at a;have hk:its.size-1-i<its.size:=by lia
  refine Ms a b (x:=its[its.size-1-i]) (by simp[hk]) λh' a' sb=>?_;have e2:((its.size-1-i:Nat):Int)-1=(its.size:Int)-1-((i+1:Nat):Int):=by lia
  rw[e2]at a';have hl:∀b o,b∉[it]->s.heap.get? b=aa o->h'.get? b=aa o:=λb o hb e=>(sb.2 b (by simpa using hb)).trans e;refine hQ _ h' s.toks ?_ ⟨a',?_⟩ hl
  .rw[List.getElem?_reverse (by simpa using hi)];simp[hk]
  .obtain⟨o,e,c,n,d⟩:=b;exact⟨o,hl l o (by simpa using eZ hne) e,c,n,d⟩
 done:=λs Q E st hQ=>by
  obtain⟨a,b⟩:=st;exact Mt (by lia) hh a λh' eb=>hQ h' s.toks λb o hb e=>eb b o (by simpa using hb) e
 self:=λi s Q E st h=>EH st.1 h
def MJ{S:Addr}{U:Nat}(res:Value)(hh:A.handled=ac)(M:it≠l)(q:S∉[it,l])(L:gL s.heap it l ((its.size:Int)-1))(hl:s.heap.IsList l its)(hn:its.size<=aR)
 (hS:s.heap.get? S=aa {cls:=.type "list",dict:=ac,data:=.seq #[] U,slots:=#[]})
 (kR:∀s' h7 B,Moved (S::[it]) (λa b=>b=a) s s'->s'.heap.get? S=aa {cls:=.type "list",dict:=ac,data:=.seq h7 B,slots:=#[]}->ItemsOf (λi v=>its.toList.reverse[i]?=aa v) h7 its.size->R (.ok (.ret res)) s'):
  wpAny (model P w) A.in1 (sR (.ref S) (.ref it) res) (λfin s'=>match fin with |.done f=>R (.ok f) s' |.again B=>B.quiet=ab/\gV (model P w) A B R s') (λe s'=>R (.error e) s') s:=by
 have nS:S≠it:=λz=>q (by rw[z];exact aN);have W:=(MI (P:=P) (w:=w) (A:=A.in1) (show A.in1.handled=ac from hh) M its).toS;unfold sR;refine am (wpAny_typeOf L.ty ?_);have q1:sS (.ref S) (.ref it)=ae:=by simp[sS,nS]
 have q2:(gA "list_reverseiterator" == gA "list")=ae:=by decide
 have q3:(gA "list_reverseiterator" == gA "tuple")=ae:=by decide
 simp only[q1,q2,q3,sx,ss,if_false];refine am (EH L ?_);refine am (jV (MH L ?_))
 change wpAny (model P w) A.in1 (again (.builtin "list.extend.loop" ⟨[.ref S,.ref it,res],[]⟩)) _ _ _
 refine aD ⟨mW F.plain_extend_loop _,codeAny_extend_loopS W hn S q res its.size 0 _ #[] U rfl (c4 _) ⟨by simpa using L,hl⟩ hS (ItemsOf.nil _) kR⟩
def MK{Q:PRS}(hh:A.handled=ac)(hne:it≠l)(hr:gL s.heap it l ((its.size:Int)-1))(hl:s.heap.IsList l its)(hn:its.size<=aR)
 (kQ:∀s' h7 U,Moved [s.heap.objs.size,it] (λa b=>b=a) {s with heap:=s.heap.push {cls:=.type "list",data:=.seq #[]}} s'->s'.heap.get? s.heap.objs.size=aa {cls:=.type "list",dict:=ac,data:=.seq h7 U,slots:=#[]}->ItemsOf (λi v=>its.toList.reverse[i]?=aa v) h7 its.size->Q (.ref s.heap.objs.size) s'):
  wpAny (model P w) A (call (.type "list") [.ref it]) Q E s:=by
 have q:it<s.heap.objs.size:=by obtain⟨o,e,_⟩:=hr;exact bi e
 have B:l<s.heap.objs.size:=by obtain⟨o,e,_⟩:=hl;exact bi e
 have nf:s.heap.objs.size∉[it,l]:=λhm=>by
  rcases aQ.mp hm with z |z
  .exact absurd z (kU q)
  .exact absurd (dF.mp z) (kU B)
 refine callType_codes (Q₁:=λobj s1=>obj=.ref s.heap.objs.size/\s1={s with heap:=s.heap.push {cls:=.type "list",data:=.seq #[]}}) F.called_list (F.typeCall_list_1 _) F.entry_list_init (code_list_new _ ⟨rfl,rfl⟩) λobj s1 q1=>?_
 obtain⟨rfl,rfl⟩:=q1;have M:(s.heap.push {cls:=.type "list",data:=.seq #[]}).get? s.heap.objs.size=aa {cls:=.type "list",data:=.seq #[]}:=cO _ rfl;refine⟨⟨_,M,rfl⟩,F.args_list_init_2 _ _,?_⟩
 change wpAny (model P w) A.in1.in1 (BZ (.ref s.heap.objs.size) >>= _) _ _ _
 apply am;unfold BZ;refine am (sP M rfl (aD ?_))
 change wpAny (model P w) A.in1.in1 (updateSeq s.heap.objs.size (λ_=>#[]) >>= _) _ _ _
 apply am;refine sN M rfl ?_;apply am;apply wpAny_letGo;have hS2:=oK (gb (λ_=>(#[]:Array Value))) M rfl;have L:∀b o,b≠s.heap.objs.size->s.heap.get? b=aa o->((s.heap.push {cls:=.type "list",data:=.seq #[]}).update s.heap.objs.size (gb (λ_=>(#[]:Array Value)))).get? b=aa o:=λb o hb e=>(oJ _ _ (eZ hb)).trans (bC _ e)
 have hl2:((s.heap.push {cls:=.type "list",data:=.seq #[]}).update s.heap.objs.size (gb (λ_=>(#[]:Array Value)))).IsList l its:=by
  obtain⟨o,e,c,n,d⟩:=hl;exact⟨o,L l o (bW B) e,c,n,d⟩
 refine MJ (A:=A.in1) (its:=its) (l:=l) .none hh hne nf (hr.stay λo e=>L it o (bW q) e) hl2 hn hS2 λs' h7 U m hS' ia=>?_
 have m0:Moved [s.heap.objs.size,it] (λa b=>b=a) {s with heap:=s.heap.push {cls:=.type "list",data:=.seq #[]}} {s with heap:=(s.heap.push {cls:=.type "list",data:=.seq #[]}).update s.heap.objs.size (gb (λ_=>(#[]:Array Value)))}:=
  ⟨λb o hb e=>(oJ _ _ (eZ (λz=>hb (by rw[z];exact aN)))).trans e,rfl,rfl,rfl,aL _⟩
 exact⟨rfl,kQ s' h7 U (m0.trans (λ_ _ _ h1 h2=>h2.trans h1) m) hS' ia⟩
abbrev tRL(K:aV)(te:TE):TE:=λσ H Q=>te σ H λx H1=>∃l xs,x=.ref l/\SqL K H1 l xs/\∀p,H1 p=ac->Q (.ref p) (upd H1 p (.lst xs.reverse))
def ML(h:ItemsOf (λi v=>its.toList.reverse[i]?=aa v) h7 its.size):h7.toList=its.toList.reverse:=by
 obtain⟨B,hi⟩:=h;refine lT λi=>?_
 by_cases z:i<its.size
 .have q:i<h7.size:=by rw[B];exact z
  rw[hi i h7[i] (by simp[q])];simp[q]
 .rw[cY (by simpa[B]using mR z),cY (by simpa using mR z)]
def MM(hc:X.calm=ab)(hgl:Gl X "list")(hml:X.mg "list"=ac)(hgr:Gl X "reversed")(hmr:X.mg "reversed"=ac)(he:PE X e te)
 (h1:aO [.Call (.Name "reversed" p2) [e] [] gF] X.env=(ae,eval (.Call (.Name "reversed" p2) [e] [] gF) X.env)::aO [] X.env:=by rfl)(h2:aO [e] X.env=(ae,eval e X.env)::aO [] X.env:=by rfl)
 (kr:(cr pos (aO [] X.env)).any (·.1)=ae:=by rfl)(B:(cr gF (aO [] X.env)).any (·.1)=ae:=by rfl):
  PE X (.Call (.Name "list" p) [.Call (.Name "reversed" p2) [e] [] gF] [] pos) (tRL X.K te):=by
 intro pins s σ H Q I h;refine k6 (jl I hgl hml ik ?_);refine mS ?_ h1 kr;rw[h1];show wpAny _ _ (spliced ((ae,eval (.Call (.Name "reversed" p2) [e] [] gF) X.env)::cr pos (aO [] X.env))) _ _ s;refine jZ (k6 (jl I hgr hmr Mz ?_));refine mS ?_ h2 B;rw[h2];show wpAny _ _ (spliced ((ae,eval e X.env)::cr gF (aO [] X.env))) _ _ s;refine jZ (thn (he pins s σ H _ I h) λu s1 q_=>?_);obtain⟨x,H1,L,r1,l,xs,e1,hq,q⟩:=q_;subst e1;cases r1;refine aD ?_;obtain⟨its,rr,pl,hz⟩:=L.list hq;refine MD pl.isList λh' a1 a7=>?_;refine aD ?_
 have hl':h'.IsList l its.toArray:=by
  obtain⟨o,e,c,n,d⟩:=pl.isList;exact⟨o,a7 _ _ e,c,n,d⟩
 have lt:l<s1.heap.objs.size:=by obtain⟨o,e,_⟩:=pl.isList;exact bi e
 have le:s1.heap.objs.size<h'.objs.size:=by obtain⟨o,e,_⟩:=a1;exact bi e
 refine MK (s:={s1 with heap:=h'}) (L.ok.hd hc) (kU lt) a1 hl' (by rw[size_toArray,<- rr.length];exact hz) λs' h7 c' m U ia=>?_
 have ea:=ML ia;obtain⟨hp',g',d',tk',os'⟩:=s';obtain⟨m1,m2,m3,m4,m5⟩:=m;cases m2;cases m3;cases m4;refine⟨.ref h'.objs.size,_,L.laid (h':=hp') (t':=tk') (a:=h'.objs.size) (o:=.lst xs.reverse) (λb u g=>m1 b u (λhm=>?_) (bC _ (a7 b u g))) (f7 le) ?_,rfl,q _ (L.hok.fresh (f7 le))⟩
 .have M:=bi g
  rcases aQ.mp hm with z |z
  .rw[z]at M;exact gt _ (lU M le)
  .rw[dF.mp z]at M;exact gt _ M
 .refine⟨by rw[length_reverse];exact hz,h7.toList,c',?_,by simpa using U⟩;rw[ea]
  simpa using rr.reverse
abbrev yF(i:Nat)(ρ:LS):OLD:=match ρ[i]? with
 |some (.own xs)=>aa xs.reverse
 |some (.im (.lst xs))=>aa xs.reverse
 | _=>ac
variable{p3:Pos}
def MN(i:Nat)(hc:X.calm=ab)(hgl:Gl X "list")(hml:X.mg "list"=ac)(hgr:Gl X "reversed")(hmr:X.mg "reversed"=ac)
 (hN:X.N[i]?=aa x:=by rfl)(hv:Vis X.env.scope x:=by first |exact b7 rfl |exact bB (b7 rfl) |exact bB (bB rfl))(hd:NDb x:=by decide)(U:NCd x:=by decide)
 (h1:aO [.Call (.Name "reversed" p2) [.Name x p3] [] gF] X.env=(ae,eval (.Call (.Name "reversed" p2) [.Name x p3] [] gF) X.env)::aO [] X.env:=by rfl)(h2:aO [.Name x p3] X.env=(ae,eval (.Name x p3) X.env)::aO [] X.env:=by rfl)
 (kr:(cr pos (aO [] X.env)).any (·.1)=ae:=by rfl)(L:(cr gF (aO [] X.env)).any (·.1)=ae:=by rfl):
  DO c X (.Call (.Name "list" p) [.Call (.Name "reversed" p2) [.Name x p3] [] gF] [] pos) (yF i):=PE.imp (MM hc hgl hml hgr hmr (nv hN hv hd U) h1 h2 kr L) λσ H Q q_=>by
 obtain⟨Hf0,H0,Hf,ρ,ds,st,B,k⟩:=q_;unfold yF at B;split at B
 .rename_i xs es;cases B;obtain⟨l,M,h0,hf,vs,q,r⟩:=st.ownAt rfl es;exact⟨_,M,l,vs,rfl,SqL.of q,λp z=>k p _ Hf _ (Ext.tmp st.sub z) z (st.sub.free z) aZ r.reverse⟩
 .rename_i xs es;cases B;obtain⟨v,M,l,vs,rfl,q,r⟩:=st.imm es;exact⟨_,M,l,vs,rfl,SqL.of (st.sub _ _ q),λp z=>k p _ Hf _ (Ext.tmp st.sub z) z (st.sub.free z) aZ r.reverse⟩
 .cases B
abbrev yG:LD->OD
 | [.int a,.int b]=>aa (.int (if b<a then b else a))
 | _=>ac
def MO(hc:X.calm=ab):nO c X (.builtin "min") yG:=by
 rintro pins s σ H vs us Q I rv ⟨Hf,ds,d,s0,r,e,k⟩;unfold yG at e;split at e
 .rename_i a b;cases e;obtain⟨v1,vs1,rfl,M,v2,L,rfl,U,h3⟩:=r;cases (show L=[]from h3);cases (show v1=V.int a from M);cases (show v2=V.int b from U)
  cases rv with
  |cons r1 B=>
   cases B with
   |cons r2 B=>
    cases B;obtain⟨t,rfl⟩:=r1;obtain⟨u,rfl⟩:=r2;refine PySem.min_two_ints (I.ok.hd hc) λh' tk z=>?_;refine⟨.int (if b<a then b else a),H,I.kept z,?_,k _ Hf H (Ext.refl s0) rfl⟩
    by_cases q:b<a
    .rw[if_pos q,if_pos q];exact⟨u,rfl⟩
    .rw[if_neg q,if_neg q];exact⟨t,rfl⟩
 .cases e
open Classical in
abbrev jF(f:LS->Option (D×LS))(ρ:LS):Option Fl:=(f ρ).map λp=>.nx p.2
def pK{f:LS->Option (D×LS)}(L:DX c X e f)(M:gx e ac pos.line X.env=pure ae:=by rfl):DS c X (.Expr e pos) (jF f):=PS.imp (fL L M) λE σ H U=>by
 obtain⟨Hf0,H0,Hf,ρ,o,so,q,k⟩:=U;unfold jF at q
 cases z:f ρ with
 |none=>rw[z]at q;cases q
 |some p=>
  rw[z]at q;cases q;exact⟨Hf0,H0,Hf,ρ,p.1,p.2,so,z,λv Hf' H' s B r=>k σ Hf' H' s B⟩
def ao.erase{G:Gc}{H:Hp}:∀{ds:LD} {vs:List V} (k:Nat),ao G H ds vs->ao G H (ds.eraseIdx k) (vs.eraseIdx k)
 | [],_,_,h=>by cases (show _=[]from h);exact .nil
 |d::ds,_,0,⟨v,r,e,_,h2⟩=>by subst e;exact h2
 |d::ds,_,k+1,⟨v,r,e,h1,h2⟩=>by subst e;exact⟨v,r.eraseIdx k,rfl,h1,ao.erase k h2⟩
abbrev Fre(B Hf:Hp)(fp:LAd):Prop:=fp.Nodup/\∀a∈fp,B a=ac/\Hf a=ac
variable{B:Hp}
def Fre.nil:Fre B Hf []:=⟨.nil,λ_ h=>nomatch h⟩
def Fre.one(h:B l=ac)(h':Hf l=ac):Fre B Hf [l]:=⟨cZ.mpr ⟨cG,f6⟩,λa ha=>by rw[dF.mp ha];exact⟨h,h'⟩⟩
def Fre.imp{q:Hp}(h:Fre B Hf fp)(k:∀a,B a=ac->q a=ac):Fre q Hf fp:=⟨h.1,λa ha=>⟨k a (h.2 a ha).1,(h.2 a ha).2⟩⟩
abbrev bsH(b:Bool)(H0 H:Hp):Hp:=bif b then H else H0
def yH(s:av H0 H)(h:H a=ac):bsH b H0 H a=ac:=by
 cases b with
 |true=>exact h
 |false=>exact s.free h
abbrev tDZ(G:Gc)(b:Bool)(f:LS->Option O):TE:=λσ H Q=>∃Hf0 H0 Hf ρ o,au G Hf0 H0 Hf H σ ρ/\f ρ=aa o/\∀u fp Hf' H',Ext Hf H Hf' H'->OT G Hf' H' o u fp->Fre (bsH b H0 H) Hf' fp->Q u H'
abbrev DZ(c:Str->Addr)(X:Cx)(b:Bool)(e:Expr)(f:LS->Option O):Prop:=PE X e (tDZ (Gx c X) b f)
abbrev pL(f:MF1)(ρ:LS):Option O:=(f ρ).map .fz
abbrev mC(f:MF2)(ρ:LS):Option O:=(f ρ).map λds=>.lst (ds.map .fz)
def EJ(h:DE c X e f):DZ c X b e (pL f):=PE.imp h λσ H Q L=>by
 obtain⟨Hf0,H0,Hf,ρ,t,st,q,k⟩:=L;unfold pL at q
 cases z:f ρ with
 |none=>rw[z]at q;cases q
 |some d=>
  rw[z]at q;cases q;exact⟨Hf0,H0,Hf,ρ,d,st,z,λv Hf' H' x r=>k v [] Hf' H' x ⟨r,rfl⟩ .nil⟩
def uu{f:MF2}(h:DO c X e f):DZ c X b e (mC f):=PE.imp h λσ H Q U=>by
 obtain⟨Hf0,H0,Hf,ρ,t,st,q,k⟩:=U;unfold mC at q
 cases z:f ρ with
 |none=>rw[z]at q;cases q
 |some ds=>
  rw[z]at q;cases q;exact⟨Hf0,H0,Hf,ρ,ds,st,z,λl vs Hf' H' x hn L M r=>k _ [l] Hf' H' x ⟨l,vs,[],rfl,M,OTs.fz r,rfl⟩ (.one (yH st.ext.h hn) L)⟩
abbrev spT(G:Gc)(n:Nat)(m:LD->Option O):Sp:=λvs H Q _=>∃Hf ds o,av Hf H/\ao G Hf ds vs/\ds.length=n/\m ds=aa o/\∀u fp Hf' H',Ext Hf H Hf' H'->OT G Hf' H' o u fp->Fre H Hf' fp->Q u H'
mutual
noncomputable def O.flat:O->Bool
 |.fz d=>d.flat
 |.lst os=>O.flats os
 |.tup os=>O.flats os
 |.dic _ os=>O.flats os
 |.ins _ _ os=>O.flats os
 |.dT _ os=>O.flats os
 |.at _ o=>o.flat
 |.jnk _=>ab
 |.any=>ab
noncomputable def O.flats:List O->Bool
 | []=>ab
 |o::os=>o.flat && O.flats os
end
abbrev q5(i:Nat)(f:LS->Option O)(ρ:LS):Option Fl:=(f ρ).map λo=>.nx (ρ.set i (.deep o))
def MP(i:Nat){f:LS->Option O}(U:X.N.Nodup)(he:DZ c X ab e f)(hi:X.N[i]?=aa x:=by rfl)(hx:Loc X.env.scope x:=by first |exact b7 rfl |exact bB rfl)(hs:gx e (aa (.Name x eH)) pos.line X.env=pure ae:=by rfl)(hf:LcF X x:=by first |exact .inl rfl |exact .inr rfl):
  DS c X (.Assign [.Name x eH] e pos) (q5 i f):=PS.imp (nA U hi hx he hs hf) λE σ H q_=>by
 obtain⟨Hf0,H0,Hf,ρ,o,M,q,k⟩:=q_;unfold q5 at q
 cases L:f ρ with
 |none=>rw[L]at q;cases q
 |some t=>
  rw[L]at q;cases q;refine⟨Hf0,H0,Hf,ρ,t,M,L,λu fp Hf' H' x r z=>k _ Hf' H' x.f (M.setNew x ⟨u,fp,rfl,r,z.1,λa ha=>⟨M.ext.h.free (z.2 a ha).1,(z.2 a ha).2⟩⟩ λa p=>?_)⟩;obtain⟨fp',r',ha⟩:=p;have:=OT.funM t u fp fp' r r';subst this;exact(z.2 a ha).1
def OTs.at:∀{G:Gc} {Hf H:Hp} {os:List O} {vs:List V} {fp:LAd} {k:Nat} {o:O},OTs G Hf H os vs fp->os[k]?=aa o->∃v f,vs[k]?=aa v/\OT G Hf H o v f/\∀a∈f,a∈fp
 | _,_,_,[],_,_,_,_,_,e=>by simp at e
 | _,_,_,o::os,_,_,0,o',q8_,e'=>by
  obtain⟨v,r,f1,f2,e,z,L,q⟩:=q8_;rw[List.getElem?_cons_zero]at e';cases e';subst e q
  exact⟨v,f1,rfl,z,λa ha=>fD _ ha⟩
 | _,_,_,o::os,_,_,k+1,o',q8_,e'=>by
  obtain⟨v,r,f1,f2,e,z,L,q⟩:=q8_;rw[eJ]at e';subst e q;obtain⟨M,f,a,b,m⟩:=OTs.at L e';exact⟨M,f,by rw[eJ];exact a,b,λa ha=>dE _ (m a ha)⟩
variable{i:Nat}
def MQ{f:LS->Option O}{o:O}(h:f ρ=aa o)(k:K (.nx (ρ.set i (.deep o)))):wp (q5 i f) ρ K:=⟨_,by unfold q5;rw[h];rfl,k⟩
def OTs.length{G:Gc}{Hf H:Hp}:∀{os:List O} {vs:List V} {fp:LAd},OTs G Hf H os vs fp->os.length=vs.length
 | [],_,_,h=>by rw[h.1];rfl
 |o::os,_,_,⟨v,r,f1,f2,e,h1,h2,ef⟩=>by subst e;simp[OTs.length h2]
def OTs.append{G:Gc}{Hf H:Hp}:∀{os ps:List O} {vs us:List V} {f g:LAd},OTs G Hf H os vs f->OTs G Hf H ps us g->OTs G Hf H (os++ps) (vs++us) (f++g)
 | [],_,_,_,_,_,h,t=>by obtain⟨a,b⟩:=h;subst a b;exact t
 |o::os,_,_,_,_,_,⟨v,r,f1,f2,e,h1,h2,ef⟩,t=>by subst e ef;exact⟨v,r++_,f1,f2++_,rfl,h1,OTs.append h2 t,fZ _ _ _⟩
def OTs.one{o:O}{f:LAd}(h:OT G Hf H o v f):OTs G Hf H [o] [v] f:=⟨v,[],f,[],rfl,h,⟨rfl,rfl⟩,(cB _).symm⟩
abbrev O.appd(o:O)(d:D):Option O:=match o with
 |.lst xs=>if xs.length<16777216 then aa (.lst (xs++[.fz d])) else ac
 |.jnk n=>if n<16777216 then aa (.jnk (n+1)) else ac
 | _=>ac
def EK{o o':O}{fk:LAd}(h:o.appd d=aa o')(r:OT G Hf H o v fk):∃l us,v=.ref l/\H l=aa (.lst us)/\us.length<16777216/\l∈fk /\
  ∀Hf' H' w,fk.Nodup->av Hf Hf'->(∀b u,b≠l->H b=aa u->H' b=aa u)->H' l=aa (.lst (us++[w]))->Rep G Hf' d w->OT G Hf' H' o' v fk:=by
 cases o with
 |lst xs=>
  replace h:(if xs.length<16777216 then aa (O.lst (xs++[.fz d])) else ac)=aa o':=h;split at h
  .rename_i hl;cases h;obtain⟨l,us,fs,e,q,rs,M⟩:=r;subst e M;refine⟨l,us,rfl,q,by rw[<- rs.length];exact hl,aN,λHf' H' w n f k2 q' L=>?_⟩
   have o1 : OTs G Hf' H' xs us fs:=OTs.frameM f xs us fs rs λb u U hm=>k2 b u (λz=>by
    subst z;rw[q]at U;cases U
    rcases hm with hm |hm
    .cases hm
    .exact(cZ.mp n).1 hm) U
   have o2:=o1.append (.one (o:=.fz d) (v:=w) (f:=[]) ⟨L,rfl⟩);rw[cB]at o2;exact⟨l,us++[w],fs,rfl,q',o2,rfl⟩
  .cases h
 |jnk n=>
  replace h:(if n<16777216 then aa (O.jnk (n+1)) else ac)=aa o':=h;split at h
  .rename_i hl;cases h;obtain⟨l,us,e,q,z,M⟩:=r;subst e M;exact⟨l,us,rfl,q,by lia,aN,λHf' H' w _ f k2 q' L=>⟨l,us++[w],rfl,q',by rw[a8,dW];lia,rfl⟩⟩
  .cases h
 | _=>cases h
abbrev EL(G:Gc)(Hf H:Hp)(σ:St)(ρ:LS)(a:Addr):Prop:=∀(k:Nat) (t:Sl) (w:V),ρ[k]?=aa t->σ[k]?=aa (aa w)->Holds G Hf H t w a->False
abbrev EM(ks:LN)(a b:LS):Prop:=a.length=b.length/\∀m,m∉ks->a[m]?=b[m]?
def EM.refl(ks:LN)(a:LS):EM ks a a:=⟨rfl,λ_ _=>rfl⟩
abbrev gM(H:Hp)(fp:LAd):Hp:=λa=>if a∈fp then ac else H a
def yI(h:a∈fp):gM H fp a=ac:=by unfold gM;rw[if_pos h]
def uv(h:a∉fp):gM H fp a=H a:=by unfold gM;rw[if_neg h]
def MR:av (gM H fp) H:=λa o e=>by
 by_cases h:a∈fp
 .rw[yI h]at e;cases e
 .rw[uv h]at e;exact e
def EN{F:Hp}(s:av F H)(h:∀a∈fp,F a=ac):av F (gM H fp):=λa o e=>by
 rw[uv (λz=>by rw[h a z]at e;cases e)];exact s a o e
variable{kvs:List (Key×V)}
def Inv.freeze(I:Inv X pins σ H s)(e:H l=aa (.dK kvs)):∃od,Inv X pins σ (upd H l (.frz od (.dK kvs))) s:=by
 obtain⟨z,ns,vs,U,od,es,ep,ho,r⟩:=CQ I.hok e;refine⟨od,?_⟩
 have M:∀b u,H b=aa u->(∀w,u≠.dK w)->upd H l (.frz od (.dK kvs)) b=aa u:=λb u L hu=>by
  rw[aJ (λq=>by subst q;rw[e]at L;cases L;exact hu _ rfl)];exact L
 have:=I.step (g':=s.gens) (t':=s.toks) (d':=s.drawn) (h':=s.heap) (ch:=[]) (H':=upd H l (.frz od (.dK kvs))) (λb L=>nomatch L) (λb o _ _ _ e _=>e) (λb o _ _ _ e _=>⟨o.slots,e⟩) (λb o _ _ n=>by rw[aJ (λq=>by subst q;rw[e]at n;cases n)];exact n)
  (λb o _ e=>⟨o,e⟩) (λb xs L=>M b _ L (λw q=>by cases q)) (λb o u L=>M b _ L (λw q=>by cases q)) (λb ps L=>⟨#[],by rw[M b _ L (λw q=>by cases q)];simp⟩) (λm hm=>hm) (λb u L=>?_) I.bare
 .exact this
 .by_cases q:b=l
  .subst q;rw[aZ]at L;cases L;exact⟨ho,z,ns,vs,U,od,es,ep,ho,r⟩
  .rw[aJ q]at L;exact(I.hok b u L).stay (λc v _ h=>h) (λc h=>M c _ h (λw q=>by cases q)) (λc xs h=>M c _ h (λw q=>by cases q))
abbrev Itk(od:Obj)(d:Addr):It:=
  ⟨λi H=> ∃kvs k v, H d = aa (.frz od (.dK kvs))/\kvs[i]? = aa (k, v),
   λi H x H'=> H' = H/\∀kvs, H d = aa (.frz od (.dK kvs))->∃k v, kvs[i]? = aa (k, v)/\x = kV k,
   λi H=> ∃kvs, H d = aa (.frz od (.dK kvs))/\kvs.length<=i⟩
def KV.get:∀{xs:List (Key×V)} {us:List (Key×Value)} {i:Nat} {x:Key×V},KV xs us->xs[i]?=aa x->∃u,us[i]?=aa u/\x.1=u.1/\aE x.2 u.2
 | _,_,_,_,.nil,e=>by simp at e
 | _,_,0,_,.cons r _,e=>by simp at e;subst e;exact⟨_,rfl,r⟩
 | _,_,i+1,x,.cons _ t,e=>by
  obtain⟨u,q,z⟩:=KV.get (i:=i) (x:=x) t (by simpa using e);exact⟨u,by simpa using q,z⟩
def MS{k:Key}{v:Value}(h:ma k v=ab):aE (kV k) v:=by
 rcases jk h with⟨i,t,rfl,rfl⟩ |⟨x,t,rfl,rfl⟩
 .exact⟨t,rfl⟩
 .exact⟨t,rfl⟩
def MT{K:aV}{od:Obj}{es:Array DictEntry}(hd:od.data=.dict es ep)(d it:Addr):lq P w K tg (Itk od d) [it] it (λi h=>h.IsKeyIter it d i es.size ep) where
 mem:=by simp
 obj:=λi h st b hb=>by
  have e:b=it:=by simpa using hb
  subst e;obtain⟨o,e,c,d⟩:=st;exact⟨o,e,λv z=>by rw[d]at z;cases z⟩
 keep:=λi h h' st k=>st.at λo e=>k it (by simp) o e
 item:=by
  intro X hP hw hK hc i pins s σ H E I hf st hg;subst hP hw hK;obtain⟨kvs,k,v,hH,hx⟩:=hg;obtain⟨ho,z,ns,vs,rel,od',es',ep',ho',ex,hd',kk,pp,nd⟩:=I.hok d _ hH;rw[ho]at ho';cases ho';rw[hd]at hd';cases hd';have hm:s.heap.DictAt (iO X.prog X.w) d vs ep:=⟨od,es,ho,ex,hd,kk,pp,nd⟩;have hl:es.size=vs.length:=by rw[<- pp.length];simp
  obtain⟨⟨k',v'⟩,hv,ek,rv⟩:=KV.get rel hx;have ek:k=k':=ek;subst ek;obtain⟨f0,f1,f2,f3,f4,f5⟩:=hf it (by simp);rw[hl]at st;refine wpAny_pyNext_dict_item st hm hv λkey h' hkey pu sb=>?_
  have I1:Inv X pins σ H {s with heap:=h'}:=I.turned (t':=s.toks) (λb o hb e=>(sb.2 b hb).trans e) f0 f1 f3 f4 f5
  refine⟨key,rfl,letGo_keyiter (s':={s with heap:=h'}) pu ⟨kV k,H,I1,MS hkey,⟨rfl,λkvs2 h2=>?_⟩,by rw[hl];exact pu,λb hb=>(hf b hb).1⟩⟩
  rw[hH]at h2;cases h2;exact⟨k,v,hx,rfl⟩
 done:=by
  intro X hP hw hK hc i pins s σ H E I hf st hg;subst hP hw hK;obtain⟨kvs,hH,hx⟩:=hg;obtain⟨ho,z,ns,vs,rel,od',es',ep',ho',ex,hd',kk,pp,nd⟩:=I.hok d _ hH;rw[ho]at ho';cases ho';rw[hd]at hd';cases hd';have hm:s.heap.DictAt (iO X.prog X.w) d vs ep:=⟨od,es,ho,ex,hd,kk,pp,nd⟩;have hl:es.size=vs.length:=by rw[<- pp.length];simp
  have hv:kvs.length=vs.length:=oN rel;obtain⟨f0,f1,f2,f3,f4,f5⟩:=hf it (by simp);rw[hl]at st;exact wpAny_pyNext_dict_end (I.ok.hd hc) st hm (cY (by lia)) λh' eb=>⟨rfl,I.turned (t':=s.toks) (λb o hb e=>eb b o hb e) f0 f1 f3 f4 f5⟩
 self:=λ_ _ _ _ _ st h=>wpAny_pyIter_keyiter st h
abbrev MU(te:TE):TI:=λσ H R=>te σ H λx H1=>∃d od kvs,x=.ref d/\H1 d=aa (.frz od (.dK kvs))/\R (Itk od d) H1
def MV(he:PE X e te):PI X tg e (MU te):=by
 intro pins s σ H R I h;refine thn (he pins s σ H _ I h) λv s1 q_=>?_;obtain⟨x,H1,U,r1,q1⟩:=q_;obtain⟨d,od,kvs,ex,hH,q⟩:=q1;subst ex;cases r1;obtain⟨ho,z,ns,vs,rel,od',es,ep,M,exd,L,kk,pp,nd⟩:=U.hok d _ hH;rw[ho]at M;cases M;have hm:s1.heap.DictAt (iO X.prog X.w) d vs ep:=⟨od,es,ho,exd,L,kk,pp,nd⟩;have hl:es.size=vs.length:=by rw[<- pp.length];simp
 refine wpAny_pyIter_dict ns hm ?_;refine⟨s1.heap.objs.size,[s1.heap.objs.size],_,_,H1,rfl,U.kept (t':=s1.toks) λb o e=>bC _ e,MT L d _,⟨_,cO _ rfl,rfl,by rw[hl];rfl⟩,λb hb=>?_,q⟩;have e:b=s1.heap.objs.size:=by simpa using hb
 subst e;exact U.fpOk (aL _) (U.hok.fresh (aL _))
abbrev kD:Key->D
 |.inl i=>.int i
 |.inr x=>.str x
def MW(k:Key):Rep G H (kD k) (kV k):=by cases k <;> rfl
abbrev MX:D->OLD
 |.kd ks _=>aa (ks.map kD)
 | _=>ac
abbrev yJ(f:MF1)(ρ:LS):OLD:=(f ρ).bind MX
def EO{q L:Type}:∀{ks:List q} {vs:List L} {i:Nat} {k:q},ks.length=vs.length->ks[i]?=aa k->∃v,(ks.zip vs)[i]?=aa (k,v)
 | [],_,_,_,_,e=>by simp at e
 | _::_,[],_,_,h,_=>by cases h
 |k::ks,v::vs,0,_,_,e=>by simp at e;subst e;exact⟨v,rfl⟩
 |k::ks,v::vs,i+1,_,h,e=>by
  obtain⟨u,z⟩:=EO (i:=i) (ks:=ks) (vs:=vs) (by simpa using h) (by simpa using e);exact⟨u,by simpa using z⟩
def MY(he:DE c X e f):DI c X tg e (yJ f):=PI.imp (MV he) λσ H R q_=>by
 obtain⟨Hf0,H0,Hf,ρ,ds,st,L,k⟩:=q_;unfold yJ at L
 cases U:f ρ with
 |none=>rw[U]at L;cases L
 |some d=>
  rw[U,aA]at L
  cases d with
  |kd ks xs=>
   cases L;refine⟨Hf0,H0,Hf,ρ,_,st,U,λv Hf' H' x r=>?_⟩;obtain⟨a,od,vs,ev,q,z,rs⟩:=r;refine⟨a,od,_,ev,x.s _ _ q,k _ Hf' H' x λdr H2 f2 s2 i=>?_⟩;have q2:H2 a=aa (.frz od (.dK (ks.zip vs))):=(f2.trans s2) _ _ q;refine⟨λd M=>?_,λei=>⟨_,q2,by rw[ow,<- z];rw[aH]at ei;lia⟩⟩;rw[cA]at M
   cases hk:ks[i]? with
   |none=>rw[hk]at M;cases M
   |some ky=>
    rw[hk]at M;cases M;obtain⟨u,hu⟩:=EO z hk;refine⟨⟨_,ky,u,q2,hu⟩,λy H3 ⟨e3,hy⟩=>?_⟩;subst e3;obtain⟨k2,v2,h2,ey⟩:=hy _ q2;rw[hu]at h2;cases h2;subst ey
    exact⟨dr,Ext.refl s2,MW ky⟩
  | _=>cases L
abbrev jG(ks:List Key)(xs:LD)(k:Key):OD:=((ks.zip xs).find? λq=>decide (q.1=k)).map (·.2)
def yK{G:Gc}{H:Hp}{k:Key}:∀{ks:List Key} {xs:LD} {vs:List V},ks.length=vs.length->ao G H xs vs->(∀d,jG ks xs k=aa d->∃v,cQ (ks.zip vs) k=aa v/\Rep G H d v)/\(jG ks xs k=ac->cQ (ks.zip vs) k=ac)
 | [],_,_,_,_=>⟨λd h=>(by cases h),λ_=>rfl⟩
 | _::_,_,[],h,_=>by cases h
 |j::ks,[],v::vs,_,r=>by cases (show _=[]from r)
 |j::ks,x::xs,v::vs,h,q4_=>by
  obtain⟨u,M,e,z,L⟩:=q4_
  injection e with e1 e2
  subst e1 e2;obtain⟨a,b⟩:=yK (k:=k) (ks:=ks) (xs:=xs) (vs:=vs) (by simpa using h) L;unfold jG;rw[d9,d9]
  by_cases q:j=k
  .subst q;refine⟨λd hd=>⟨v,qG rfl,?_⟩,λhd=>?_⟩
   .rw[qi (by simp)]at hd;cases hd;exact z
   .rw[qi (by simp)]at hd;cases hd
  .rw[find?_cons_of_neg (by simpa using q),oS q];exact⟨a,b⟩
abbrev yL:D->Option (List Key×LD)
 |.dic ks xs=>aa (ks,xs)
 |.kd ks xs=>aa (ks,xs)
 | _=>ac
variable{a:Expr}
def MZ{p:List Key×LD}(e:yL d=aa p)(r:Rep G H d v):∃a vs,v=.ref a/\Rd H a (.dK (p.1.zip vs))/\p.1.length=vs.length/\ao G H p.2 vs:=by
 cases d with
 |dic ks xs=>cases e;obtain⟨a,vs,L,q,z,r⟩:=r;exact⟨a,vs,L,.inl q,z,r⟩
 |kd ks xs=>cases e;obtain⟨a,od,vs,L,q,z,r⟩:=r;exact⟨a,vs,L,.inr ⟨od,q⟩,z,r⟩
 | _=>cases e
variable{u:HO}
def Rd.up{a:Addr}(h:Rd H a u)(s:av H H'):Rd H' a u:=h.imp (s _ _) λq=>by
 obtain⟨o,e⟩:=q;exact(⟨o,s _ _ e⟩)
abbrev yM(x y:D):OD:=(yL x).bind λp=>(kg y).bind λk=>jG p.1 p.2 k
variable{b:Expr}
def M0(hu:X.A.units+64<cLine)(ha:DE c X a f)(hb:DE c X b g)(hs:tE b:=by exact λ_ _=>rfl):DE c X (.Subscript a b pos) (m2 yM f g):=
 PE.imp (CT (by lia) ha hb hs) λσ H Q q_=>by
  obtain⟨Hf0,H0,Hf,ρ,d,st,ef,k⟩:=q_;obtain⟨x,y,e1,e2,L⟩:=tI ef;refine⟨Hf0,H0,Hf,ρ,x,st,e1,λv eD H1 x1 r1=>⟨Hf0,H0,eD,ρ,y,st.step x1,e2,λu dr H2 x2 r2=>?_⟩⟩;unfold yM at L
  cases M:yL x with
  |none=>rw[M]at L;cases L
  |some p=>
   rw[M,aA]at L
   cases U:kg y with
   |none=>rw[U]at L;cases L
   |some ky=>
    rw[U,aA]at L;obtain⟨l,vs,el,q,z,r⟩:=MZ M (r1.up x2.f);have ev:=ud U r2;subst ev el;obtain⟨w,hw,rw'⟩:=(yK z r).1 d L;exact⟨l,w,rfl,.inl ⟨_,ky,q.up x2.s,rfl,hw.symm⟩,k _ dr H2 (x1.trans x2) rw'⟩
abbrev uw(i:Nat)(fk q:MF1)(ρ:LS):OD:=match ρ[i]? with
 |some (.ownd ks xs)=>(fk ρ).bind λy=>(kg y).bind λk=>(q ρ).map λx=>(jG ks xs k).getD x
 | _=>ac
variable{cpos:Pos}
def M1{o:Expr}(hu:X.A.units+64<cLine){fx:MF1}(ho:PE X o (di i))(hk:DE c X a fk)(hx:DE c X b fx)(m:M2 X o "get" apos a b cpos):DE c X (.Call (.Attribute o "get" apos) [a,b] [] cpos) (uw i fk fx):=
 PE.imp (CY (by lia) ho hk hx m) λσ H Q q_=>by
  obtain⟨Hf0,H0,Hf,ρ,d,st,L,k⟩:=q_;unfold uw at L;split at L
  .rename_i ks xs es
   cases U:fk ρ with
   |none=>rw[U]at L;cases L
   |some y=>
    rw[U,aA]at L
    cases ek:kg y with
    |none=>rw[ek]at L;cases L
    |some ky=>
     rw[ek,aA]at L
     cases e2:fx ρ with
     |none=>rw[e2]at L;cases L
     |some x=>
      rw[e2]at L;cases L;obtain⟨l,el,h0,hf,vs,q,z,r⟩:=st.ownAt rfl es;refine⟨_,el,l,rfl,.inl ⟨_,.inl q⟩,Hf0,H0,Hf,ρ,y,st,U,λv eD H1 M r1=>⟨Hf0,H0,eD,ρ,x,st.step M,e2,λu dr H2 x2 r2=>?_⟩⟩;have q2:=(M.trans x2).h _ _ q;have r':=r.up (M.trans x2).f;have ev:=ud ek r1;subst ev;refine⟨cQ (ks.zip vs) ky,gC.k q2,k _ dr H2 (M.trans x2) ?_⟩;obtain⟨h1,h2⟩:=yK (k:=ky) z r'
      cases hv:jG ks xs ky with
      |none=>rw[h2 hv];exact r2
      |some d=>
       obtain⟨w,hw,rw'⟩:=h1 d hv;rw[hw];exact rw'
  .cases L
abbrev pM(i:Nat)(F:MF3)(ρ:LS):Option Fl:=match ρ[i]? with
 |some (.ownd ks xs)=>F (ρ.set i (.im (.kd ks xs)))
 | _=>F ρ
def M3{E:j6}(I:Inv X pins σ H s)(h:tDS (Gx c X) (pM i F) E σ H):∃H',Inv X pins σ H' s/\tDS (Gx c X) F E σ H':=by
 obtain⟨Hf0,H0,Hf,ρ,o,so,ef,k⟩:=h;unfold pM at ef;split at ef
 .rename_i ks xs es;obtain⟨l,e1,h0,hf,vs,q,z,r⟩:=so.ownAt rfl es;obtain⟨od,I'⟩:=I.freeze q;refine⟨_,I',Hf0,H0,upd Hf l (.frz od (.dK (ks.zip vs))),ρ.set i (.im (.kd ks xs)),o,?_,ef,k.up (bP hf)⟩
  have s1 : au (Gx c X) Hf0 H0 Hf (upd H l (.frz od (.dK (ks.zip vs)))) σ (ρ.set i .no):=so.chg es e1 (λb u hb=>by
   by_cases L:b=l
   .subst L;exact .inl ((Holds.own rfl).mpr rfl)
   .exact .inr (by rw[aJ L];exact hb)) trivial λa p=>(p.calm rfl).elim
  have s2:au (Gx c X) Hf0 H0 (upd Hf l (.frz od (.dK (ks.zip vs)))) (upd H l (.frz od (.dK (ks.zip vs)))) σ (ρ.set i .no):=by
   have fr:EL (Gx c X) Hf H σ (ρ.set i .no) l:=λm t w b U p=>by
    rcases cE b with⟨_,e',_⟩ |⟨ne,b⟩
    .subst e';exact p.calm rfl
    .exact ne (so.dj m i t (.ownd ks xs) w _ l b es U e1 p ((Holds.own rfl).mpr rfl))
   have fr':EL (Gx c X) Hf (upd H l (.frz od (.dK (ks.zip vs)))) σ (ρ.set i .no) l:=λm t w b U p=>by
    obtain⟨oo,hoo,hto⟩:=(s1.at' m _ t U b).there p
    cases ht:t.isOwn with
    |true=>
     have ew:=(Holds.own ht).mp p
     exact fr m t w b U ((Holds.own ht).mpr ew)
    |false=>
     cases t with
     |deep o'=>
      obtain⟨fp,rr,ha⟩:=p
      obtain ⟨u,fp',eu,r2,_⟩:=so.at' m _ _ U (by
       rcases cE b with⟨_,e',_⟩ |⟨ne,b⟩
       .cases e'
       .exact b)
      cases eu
      have r3:OT (Gx c X) Hf (upd H l (.frz od (.dK (ks.zip vs)))) o' w fp':=r2.frame (av.refl _) λb' u' L M=>by
       rw[aJ (λqq=>?_)]
       .exact L
       .subst qq
        rcases M with M |M
        .rw[q]at L;cases L;cases M
        .exact fr m _ w b U ⟨fp',r2,M⟩
      have:=OT.funM o' w _ _ r3 rr;subst this
      exact fr m _ w b U ⟨fp',r2,ha⟩
     | _=>first |exact kG p.1 |cases ht
   have x:Ext Hf (upd H l (.frz od (.dK (ks.zip vs)))) (upd Hf l (.frz od (.dK (ks.zip vs)))) (upd H l (.frz od (.dK (ks.zip vs))))->True:=λ_=>trivial;refine s1.re ⟨s1.ext.f.trans (bP hf),s1.ext.h,λb u e=>?_,λb u e t=>?_⟩ rfl (λm v t a b=>?_) λm t v a b U p=>?_
   .by_cases hb:b=l
    .subst hb;rw[aZ]at e ⊢;exact e
    .rw[aJ hb]at e;exact s1.ext.s b u e
   .rw[aJ (λz=>by subst z;rw[h0]at e;cases e)];exact s1.ext.n b u e t
   .have qq:=s1.at' m v t a b
    cases ht:t.isOwn with
    |true=>
     obtain⟨l2,e2,e3,e4,q2⟩:=qq.own ht;subst e2;refine .ofOwn ht ⟨l2,rfl,e3,?_,q2.up (bP hf) λo' ho'=>ho'⟩;rw[aJ (λz=>by subst z;exact fr' m t _ b a ((Holds.own ht).mpr rfl))]
     exact e4
    |false=>
     cases t with
     |no=>trivial
     |im d=>obtain⟨u',e1,r⟩:=qq;exact⟨u',e1,r.up (bP hf)⟩
     |val u'=>exact qq
     |deep o'=>
      obtain⟨w,fp,e1,r,n,zz⟩:=qq;subst e1;refine⟨w,fp,rfl,r.up (bP hf) (av.refl _),n,λy hy=>⟨(zz y hy).1,?_⟩⟩;rw[aJ (λz=>by subst z;exact fr' m _ w b a ⟨fp,r,hy⟩)]
      exact(zz y hy).2
     | _=>cases ht
   .exact⟨t,b,(s1.at' m _ t U b).back (λo' fp _ r=>r.up (bP hf) (av.refl _)) p⟩
  have res:=s2.setIm (i:=i) (d:=.kd ks xs) (v:=.ref l) ⟨l,od,vs,rfl,aZ,z,r.up (bP hf)⟩
  have e3:σ.set i (aa (.ref l))=σ:=by
   apply lT;intro jj
   by_cases hj:i=jj
   .subst hj;rw[jR (dq.mp e1).1,e1]
   .rw[kH hj]
  rw[e3,set_set]at res;exact res
 .exact⟨H,I,Hf0,H0,Hf,ρ,o,so,ef,k⟩
def M4(i:Nat)(h:DS c X st F):DS c X st (pM i F):=λpins s σ H E I q=>by
 obtain⟨H',z,L⟩:=M3 I q;exact h pins s σ H' E z L
def M5(h:ρ[i]?=aa (.ownd ks xs))(k:wp F (ρ.set i (.im (.kd ks xs))) K):wp (pM i F) ρ K:=by
 obtain⟨o,e,q⟩:=k;exact⟨o,by unfold pM;rw[h];exact e,q⟩
@[reducible]noncomputable def Xe:=LS->Option (D×LS)
@[reducible]noncomputable def Xa:=LS->Option (LD×LS)
abbrev mX(f:MF1):Xe:=λρ=>(f ρ).map λd=>(d,ρ)
abbrev ic:Xa:=λρ=>aa ([],ρ)
abbrev eX(f:Xe)(g:Xa):Xa:=λρ=>(f ρ).bind λp=>(g p.2).map λq=>(p.1::q.1,q.2)
def M6(h:mX f ρ=aa (d,ρ')):f ρ=aa d/\ρ'=ρ:=by
 unfold mX at h
 cases e:f ρ with
 |none=>rw[e]at h;cases h
 |some d'=>rw[e]at h;cases h;exact⟨rfl,rfl⟩
def EQ{f:Xe}{g:Xa}(h:eX f g ρ=aa (ds,ρ')):∃d r hI,f ρ=aa (d,hI)/\g hI=aa (r,ρ')/\ds=d::r:=by
 unfold eX at h
 cases L:f ρ with
 |none=>rw[L]at h;cases h
 |some p=>
  rw[L,aA]at h
  cases z:g p.2 with
  |none=>rw[z]at h;cases h
  |some q=>rw[z]at h;cases h;exact⟨p.1,q.1,p.2,rfl,z,rfl⟩
abbrev yN(G:Gc)(f:Xa):TA:=λσ H Q=>∃Hf0 H0 Hf ρ ds ρ',au G Hf0 H0 Hf H σ ρ/\f ρ=aa (ds,ρ')/\∀vs Hf' H',av Hf Hf'->au G Hf0 H0 Hf' H' σ ρ'->ao G Hf' ds vs->Q vs H'
structure DAX(c:Str->Addr)(X:Cx)(es:LEx)(f:Xa):Prop where
 pa:PA X es (yN (Gx c X) f)
 len:∀ρ ds ρ',f ρ=aa (ds,ρ')->ds.length=es.length
def DE.dx(h:DE c X e f):DX c X e (mX f):=PE.imp h λσ H Q L=>by
 obtain⟨Hf0,H0,Hf,ρ,d,ρ',st,z,k⟩:=L;obtain⟨q,rfl⟩:=M6 z;exact⟨Hf0,H0,Hf,_,d,st,q,λv Hf' H' x r=>k v Hf' H' x.f (st.step x) r⟩
def pN:DAX c X [] ic:=⟨PA.imp c8 λσ H Q z=>by obtain⟨Hf0,H0,Hf,ρ,ds,ρ',st,q,k⟩:=z;cases q;exact k [] Hf H (av.refl _) st rfl,λρ ds ρ' h=>by cases h;rfl⟩
variable{f:Xe}
def i5{g:Xa}(ha:DX c X e f)(U:DAX c X es g)(hs:StE X e es:=by rfl):DAX c X (e::es) (eX f g):=by
 refine⟨PA.imp (dz ha U.pa hs) λσ H Q q_=>?_,λρ ds ρ' h=>?_⟩
 .obtain⟨Hf0,H0,Hf,ρ,ds,ρ',st,ef,k⟩:=q_;obtain⟨d,r,hI,M,q,rfl⟩:=EQ ef;exact⟨Hf0,H0,Hf,ρ,d,hI,st,M,λv eD H1 f1 z r1=>⟨Hf0,H0,eD,hI,r,ρ',z,q,λvs dr H2 f2 L r2=>k _ dr H2 (f1.trans f2) L (.cons (r1.up f2) r2)⟩⟩
 .obtain⟨d,r,hI,M,q,rfl⟩:=EQ h;simp[U.len hI r ρ' q]
abbrev lI(i:Nat)(f:Xe)(ρ:LS):Option Fl:=(f ρ).map λp=>.nx (p.2.set i (.im p.1))
abbrev yO:D->D->OD
 |.int i,.int j=>aa (.int (i+j))
 |.str a,.str b=>if a.length+b.length<=16777216 then aa (.str (a++b)) else ac
 | _,_=>ac
abbrev q9(i:Nat)(f:Xe)(ρ:LS):Option Fl:=match ρ[i]? with
 |some (.im x)=>(f ρ).bind λp=>(yO x p.1).map λz=>.nx (p.2.set i (.im z))
 | _=>ac
def rb(i:Nat)(M:X.N.Nodup)(U:DX c X e f)(hi:X.N[i]?=aa x:=by rfl)(hx:Loc X.env.scope x:=by first |exact b7 rfl |exact bB rfl)(hs:gx e (aa (.Name x eH)) pos.line X.env=pure ae:=by rfl)(hf:LcF X x:=by first |exact .inl rfl |exact .inr rfl):
  DS c X (.Assign [.Name x eH] e pos) (lI i f):=PS.imp (nA M hi hx U hs hf) λE σ H q_=>by
 obtain⟨Hf0,H0,Hf,ρ,o,so,q,k⟩:=q_;unfold lI at q
 cases z:f ρ with
 |none=>rw[z]at q;cases q
 |some p=>
  rw[z]at q;cases q;exact⟨Hf0,H0,Hf,ρ,p.1,p.2,so,z,λv Hf' H' s L r=>k _ Hf' H' s (L.setIm r)⟩
def M7:PIp X .Add (rD (Gx c X) yO):=λpins s σ H x y v u Q I M U q_=>by
 obtain⟨Hf,dx,q,d,s0,z,L,e,k⟩:=q_
 exact (by
 cases dx with
 |int i=>
  cases q with
  |int j=>
   cases z;cases L;cases e
   exact Ib pins s σ H _ _ v u Q I M U ⟨_,_,rfl,rfl,k _ Hf H (Ext.refl s0) rfl⟩
  | _=>cases e
 |str a=>
  cases q with
  |str b=>
   cases z;cases L;replace e:(if _ then aa (D.str _) else ac)=aa d:=e;split at e
   .rename_i hl;cases e;exact IS pins s σ H _ _ v u Q I M U ⟨_,_,rfl,rfl,by rw[dG];exact hl,k _ Hf H (Ext.refl s0) rfl⟩
   .cases e
  | _=>cases e
 | _=>cases e)
def M8(i:Nat)(hN:X.N.Nodup)(he:DX c X e f)(hi:X.N[i]?=aa x:=by rfl)(hx:Loc X.env.scope x:=by first |exact b7 rfl |exact bB rfl)(hf:LcF X x:=by first |exact .inl rfl |exact .inr rfl):
  DS c X (.AugAssign (.Name x eH) .Add e pos) (q9 i f):=PS.imp (Ia hN hi hx he (M7 (c:=c)) hf) λE σ H q_=>by
 obtain⟨Hf0,H0,Hf,ρ,o,so,q,k⟩:=q_;unfold q9 at q;split at q
 .rename_i d es
  cases M:f ρ with
  |none=>rw[M]at q;cases q
  |some p=>
   rw[M,aA]at q
   cases U:yO d p.1 with
   |none=>rw[U]at q;cases q
   |some z=>
    rw[U]at q;cases q;obtain⟨v,ev,w,ew,rw'⟩:=so.slot es;cases ew;exact⟨_,ev,Hf0,H0,Hf,ρ,p.1,p.2,so,M,λu Hf' H' s L r=>⟨Hf',d,p.1,z,L.sub,rw'.up s,r,U,λy dr H2 x2 r2=>k _ dr H2 (s.trans x2.f) ((L.step x2).setIm r2)⟩⟩
 .cases q
abbrev isE(x d:D):Bool:=deq 19 d x==aa ab
def ER{x:D}:∀{ds:LD} {b:Bool},fW x ds=aa b->(∀d∈ds,∃L,deq 19 d x=aa L)/\ds.any (isE x)=b
 | [],_,h=>by cases h;exact⟨λd hd=>(cG hd).elim,rfl⟩
 |d::ds,b,h=>by
  obtain⟨q,b2,z,M,rfl⟩:=D8 h;obtain⟨U,k2⟩:=ER M;refine⟨λd' hd=>?_,?_⟩
  .rcases aQ.mp hd with e |e
   .rw[e];exact⟨q,z⟩
   .exact U d' e
  .rw[gS,k2];unfold isE;rw[z]
   cases q <;> rfl
def ES{M:Type}:∀(L:List (Int×M)),(L.map (·.1)).Nodup->∀z∈L,L.find? (λy=>y.1==z.1)=aa z
 | [],_,_,h=>(cG h).elim
 |y::L,nd,z,h=>by
  rw[bp,cZ]at nd;rw[mP]
  rcases aQ.mp h with e |e
  .rw[e,beq_self_eq_true]
  .have:(y.1==z.1)=ae:=beq_eq_false_iff_ne.mpr λq=>nd.1 (bf.mpr ⟨z,e,q.symm⟩);rw[this];exact ES L nd.2 z e
structure Foc(G:Gc)(Hf H:Hp)(o:O)(v:V)(fp:LAd)(o1:O)(v1:V)(f1:LAd)(R:O->O):Prop where
 r:OT G Hf H o1 v1 f1
 n:f1.Nodup
 sub:∀a∈f1,a∈fp
 back:∀(Hf' H':Hp) (o2:O) (f2:LAd),av Hf Hf'->(∀b u,H b=aa u->b∉f1->H' b=aa u)->OT G Hf' H' o2 v1 f2 ->
  ∃fp',OT G Hf' H' (R o2) v fp'/\(∀a∈fp',a∈f2\/(a∈fp/\a∉f1))/\(f2.Nodup->(∀a∈f2,a∈fp->a∈f1)->fp'.Nodup)
def Foc.refl{o:O}(h:OT G Hf H o v fp)(n:fp.Nodup):Foc G Hf H o v fp o v fp id:=
 ⟨h,n,λ_ h=>h,λ_ _ _ f2 _ _ q=>⟨f2,q,λ_ h=>.inl h,λn _=>n⟩⟩
variable{v1:V}{f1 f2:LAd}{R R':O->O}
def Foc.trans{o o1 o2:O}{v2:V}(F:Foc G Hf H o v fp o1 v1 f1 R)(F':Foc G Hf H o1 v1 f1 o2 v2 f2 R'):Foc G Hf H o v fp o2 v2 f2 (λx=>R (R' x)):=by
 refine⟨F'.r,F'.n,λa h=>F.sub a (F'.sub a h),λHf' H' U f3 s k h=>?_⟩;obtain⟨L,r1,m1,n1⟩:=F'.back Hf' H' U f3 s k h;obtain⟨fp',r2,m2,n2⟩:=F.back Hf' H' (R' U) L s (λb u e q=>k b u e λz=>q (F'.sub b z)) r1;refine⟨fp',r2,λa ha=>?_,λnf M=>n2 (n1 nf λa ha q=>M a ha (F.sub a q)) λa ha q=>?_⟩
 .rcases m2 a ha with z |⟨z,z'⟩
  .rcases m1 a z with y |⟨y,y'⟩
   .exact .inl y
   .exact .inr ⟨F.sub a y,y'⟩
  .exact .inr ⟨z,λy=>z' (F'.sub a y)⟩
 .rcases m1 a ha with y |⟨y,_⟩
  .exact F'.sub a (M a y q)
  .exact y
variable{b:Addr}
def ET{o:O}{f:LAd}(h:OT G Hf H o v f)(e:H b=aa u)(t:iR u=ab):b∉f:=λz=>by
 obtain⟨M,L,q⟩:=OT.memM o v f h b z;rw[e]at L;cases L;rw[t]at q;cases q
def OTs.foc:∀{os:List O} {vs:List V} {fp:LAd} {k:Nat} {o1:O},OTs G Hf H os vs fp->fp.Nodup->os[k]?=aa o1->∃v1 f1,vs[k]?=aa v1/\OT G Hf H o1 v1 f1/\f1.Nodup/\(∀a∈f1,a∈fp) /\
  ∀(Hf' H':Hp) (o2:O) (M:V) (f2:LAd),av Hf Hf'->(∀b u,H b=aa u->(iR u=ab\/b∈fp)->b∉f1->H' b=aa u)->OT G Hf' H' o2 M f2 ->
  ∃fp',OTs G Hf' H' (os.set k o2) (vs.set k M) fp'/\(∀a∈fp',a∈f2\/(a∈fp/\a∉f1))/\(f2.Nodup->(∀a∈f2,a∈fp->a∈f1)->fp'.Nodup)
 | [],_,_,_,_,_,_,e=>by simp at e
 |o::os,_,_,0,o1,q5_,n,e'=>by
  obtain⟨v,r,f1,g,e,U,h2,ef⟩:=q5_;rw[List.getElem?_cons_zero]at e';cases e';subst e ef;obtain⟨n1,n2,dj⟩:=gR.mp n;refine⟨v,f1,rfl,U,n1,λa ha=>fD _ ha,λHf' H' o2 M f2 s k h=>⟨f2++g,?_,λa ha=>?_,λnf hf=>?_⟩⟩
  .rw[sE,sE];refine⟨M,r,f2,g,rfl,h,OTs.frameM s os r g h2 λb u L hm=>k b u L (hm.imp_right λy=>dE _ y) λz=>?_,rfl⟩
   rcases hm with t |t
   .exact ET U L t z
   .exact dj b z b t rfl
  .rcases bT.mp ha with z |z
   .exact .inl z
   .exact .inr ⟨dE _ z,λy=>dj a y a z rfl⟩
  .exact gR.mpr ⟨nf,n2,λa ha b L z=>by subst z;exact dj a (hf a ha (dE _ L)) a L rfl⟩
 |o::os,_,_,k+1,o1,q5_,n,e'=>by
  obtain⟨v,r,f,g,e,U,h2,ef⟩:=q5_;rw[eJ]at e';subst e ef;obtain⟨n1,n2,dj⟩:=gR.mp n;obtain⟨v1,f1,ev,q,nq,sb,bk⟩:=OTs.foc h2 n2 e';refine⟨v1,f1,by rw[eJ];exact ev,q,nq,λa ha=>dE _ (sb a ha),λHf' H' o2 M f2 s k h=>?_⟩;obtain⟨g',r',m',n'⟩:=bk Hf' H' o2 M f2 s (λb u L hm=>k b u L (hm.imp_right λy=>dE _ y)) h;refine⟨f++g',?_,λa ha=>?_,λnf hf=>?_⟩
  .rw[qo,qo];refine⟨v,_,f,g',rfl,U.frame s λb u L hm=>k b u L (hm.imp_right λy=>fD _ y) λz=>?_,r',rfl⟩
   rcases hm with t |t
   .exact ET q L t z
   .exact dj b t b (sb b z) rfl
  .rcases bT.mp ha with z |z
   .exact .inr ⟨fD _ z,λy=>dj a z a (sb a y) rfl⟩
   .rcases m' a z with y |⟨y,y'⟩
    .exact .inl y
    .exact .inr ⟨dE _ y,y'⟩
  .refine gR.mpr ⟨n1,n' nf λa ha L=>hf a ha (dE _ L),λa ha b L z=>?_⟩;subst z
   rcases m' a L with y |⟨y,_⟩
   .exact dj a ha a (sb a (hf a y (fD _ ha))) rfl
   .exact dj a ha a y rfl
def rf{q:Type}:∀{l:List q} {k:Nat} {x:q},l[k]?=aa x->l.set k x=l
 | [],_,_,e=>by simp at e
 | _::_,0,_,e=>by simp at e;subst e;rfl
 |a::l,k+1,x,e=>by rw[eJ]at e;rw[qo,rf e]
variable{os:List O}{o1:O}
def Foc.root{o:O}{a:Addr}{fs:LAd}{W:List O->O}(ha:H a=aa u)(ht:iR u=ae)(rs:OTs G Hf H os vs fs)(n:(a::fs).Nodup)(e:os[k]?=aa o1)
 (mk:∀Hf' H' U L,H' a=aa u->OTs G Hf' H' U vs L->U.length=os.length->OT G Hf' H' (W U) (.ref a) (a::L)):∃v1 f1,vs[k]?=aa v1/\Foc G Hf H o (.ref a) (a::fs) o1 v1 f1 (λx=>W (os.set k x)):=by
 obtain⟨na,nf⟩:=cZ.mp n;obtain⟨v1,f1,ev,q,nq,sb,bk⟩:=rs.foc nf e;refine⟨v1,f1,ev,q,nq,λb M=>bo _ (sb b M),λHf' H' o2 f2 s k' h=>?_⟩;obtain⟨L,r',m',n'⟩:=bk Hf' H' o2 v1 f2 s (λb u M _=>k' b u M) h;rw[rf ev]at r';refine⟨a::L,mk Hf' H' _ L (k' a u ha λz=>na (sb a z)) r' (by simp),λb M=>?_,λnf2 hf=>cZ.mpr ⟨λz=>?_,n' nf2 λb M hc=>hf b M (bo _ hc)⟩⟩
 .rcases aQ.mp M with z |z
  .subst z;exact .inr ⟨aN,λy=>na (sb b y)⟩
  .rcases m' b z with y |⟨y,y'⟩
   .exact .inl y
   .exact .inr ⟨bo _ y,y'⟩
 .rcases m' a z with y |⟨y,_⟩
  .exact na (sb a (hf a y aN))
  .exact na y
def Foc.at{o:O}(h:OT G Hf H (.at l o) v fp)(n:fp.Nodup):Foc G Hf H (.at l o) v fp o v fp (.at l):=
 ⟨h.2,n,λ_ h=>h,λ_ _ _ f2 _ _ q=>⟨f2,⟨h.1,q⟩,λ_ h=>.inl h,λn _=>n⟩⟩
def au.foc{o o1 o2:O}(so:au G Hf0 H0 Hf H σ ρ)(es:ρ[i]?=aa (.deep o))(e2:σ[i]?=aa (aa v))(r:OT G Hf' H1 o v fp)(x:Ext Hf H Hf' H1)(F:Foc G Hf' H1 o v fp o1 v1 f1 R)
 (kk:∀b u,H1 b=aa u->b∉f1->H2 b=aa u)(new:OT G Hf' H2 o2 v1 f2)(n2:f2.Nodup)(h2:∀a∈f2,a∈f1\/(H a=ac/\Hf' a=ac)):au G Hf0 H0 Hf' H2 σ (ρ.set i (.deep (R o2))):=by
 have sl:=so.at' i _ _ e2 es;obtain⟨v',U,e3,L,n,z⟩:=sl;cases e3;have:=OT.funM o v fp U r (L.up x.f x.h);subst this;obtain⟨fp',r',mem,nd⟩:=F.back Hf' H2 o2 f2 (av.refl _) kk new
 have q:∀a∈fp',a∈fp\/(H a=ac/\Hf' a=ac):=λa ha=>by
  rcases mem a ha with y |⟨y,_⟩
  .rcases h2 a y with w |w
   .exact .inl (F.sub a w)
   .exact .inr w
  .exact .inl y
 refine so.chgX x es e2 (λb u hb=>?_) ⟨v,fp',rfl,r',nd n2 λa ha hb=>?_,λa ha=>?_⟩ λa p=>?_
 .by_cases h:b∈f1
  .exact .inl ⟨fp,L,F.sub b h⟩
  .exact .inr (kk b u hb h)
 .rcases h2 a ha with y |y
  .exact y
  .obtain⟨u,M,_⟩:=OT.memM o v fp L a hb;rw[y.1]at M;cases M
 .rcases q a ha with y |y
  .obtain⟨u,M,ht⟩:=OT.memM o v fp L a y;refine⟨(z a y).1,?_⟩;rw[x.n a u M ht];exact(z a y).2
  .exact⟨so.ext.h.free y.1,y.2⟩
 .obtain⟨fp'',r'',ha⟩:=p;have:=OT.funM _ _ _ _ r' r'';subst this
  rcases q a ha with y |y
  .exact .inl ⟨fp,L,y⟩
  .exact .inr y.1
def au.was{o:O}(so:au G Hf0 H0 Hf H σ ρ)(es:ρ[i]?=aa (.deep o))(M:σ[i]?=aa (aa v))(x:Ext Hf H Hf' H1)(r:OT G Hf' H1 o v fp):∀a∈fp,H a≠ac:=λa ha=>by
 obtain⟨v',q,U,L,n,z⟩:=so.at' i _ _ M es;cases U;have:=OT.funM o v fp q r (L.up x.f x.h);subst this;obtain⟨u,hu,_⟩:=OT.memM o v fp L a ha;rw[hu];exact λz=>nomatch z
abbrev yP:D->Option Key
 |.int i=>aa (.inl i)
 |.bl b=>aa (.inl (cond b 1 0))
 |.str x=>aa (.inr x)
 | _=>ac
abbrev rg:LD->Option (List Key)
 | []=>aa []
 |d::ds=>(yP d).bind λk=>(rg ds).map (k::·)
abbrev mD:D->Option (List Key)
 |.tup ds=>rg ds
 | _=>ac
def M9{k:Key}(h:yP d=aa k)(r:Rep G H d v):kR k v:=by
 cases d with
 |int i=>cases h;exact .inl r
 |bl b=>cases h;exact .inr ⟨b,r,rfl⟩
 |str x=>cases h;exact r
 | _=>cases h
def EU{G:Gc}{H:Hp}:∀{ds:LD} {ks:List Key} {vs:List V},rg ds=aa ks->ao G H ds vs->KRs ks vs
 | [],_,_,h,r=>by cases h;cases (show _=[]from r);exact .nil
 |d::ds,ks,_,h,q4_=>by
  obtain⟨v,r,e,L,M⟩:=q4_;subst e;unfold rg at h
  cases q:yP d with
  |none=>rw[q]at h;cases h
  |some k=>
   rw[q,aA]at h
   cases z:rg ds with
   |none=>rw[z]at h;cases h
   |some U=>rw[z]at h;cases h;exact .cons (M9 q L) (EU z M)
variable{k:List Key}
def ux(h:mD d=aa k)(r:Rep G H d v):∃b,v=.ref b/\fJ H b k:=by
 cases d with
 |tup ds=>obtain⟨a,vs,e,q,rs⟩:=r;exact⟨a,e,vs,q,EU h rs⟩
 | _=>cases h
abbrev aU{q:Type}[DecidableEq q](f:q):List q->Option Nat
 | []=>ac
 |n::ns=>if n=f then aa 0 else (aU f ns).map (· + 1)
def yQ{q:Type}[DecidableEq q]{f:q}:∀{ns:List q} {k:Nat},aU f ns=aa k->k<ns.length
 | [],_,e=>by cases e
 |n::ns,k,e=>by
  unfold aU at e;split at e
  .cases e;exact qr _
  .cases h:aU f ns with
   |none=>rw[h]at e;cases e
   |some j=>rw[h]at e;cases e;exact Nat.succ_lt_succ (yQ h)
def EV{q:Type}[DecidableEq q]{z:Type}{f:q}:∀{ns:List q} {k:Nat} (vs:List z),aU f ns=aa k->(ns.zip vs).lookup f=vs[k]?
 | [],_,_,e=>by cases e
 | _::_,_,[],_=>by simp
 |n::ns,k,v::vs,e=>by
  unfold aU at e;rw[d9,eK];split at e
  .rename_i h;subst h;cases e;rw[beq_self_eq_true];rfl
  .rename_i h;rw[beq_eq_false_iff_ne.mpr (eZ h)]
   cases h':aU f ns with
   |none=>rw[h']at e;cases e
   |some j=>
    rw[h']at e;cases e;rw[eJ];exact EV vs h'
def rh{q:Type}[DecidableEq q]{f:q}:∀{ns:List q} {k:Nat} (vs:List V),aU f ns=aa k->cQ (ns.zip vs) f=vs[k]?
 | [],_,_,e=>by cases e
 | _::_,_,[],_=>by simp[CO]
 |n::ns,k,v::vs,e=>by
  unfold aU at e;rw[d9];split at e
  .rename_i h;cases e;rw[qG h];rfl
  .rename_i h;rw[oS h]
   cases h':aU f ns with
   |none=>rw[h']at e;cases e
   |some j=>
    rw[h']at e;cases e;rw[eJ];exact rh vs h'
def rj{q:Type}[DecidableEq q]{f:q}:∀{ns:List q} (vs:List V),aU f ns=ac->cQ (ns.zip vs) f=ac
 | [],_,_=>rfl
 | _::_,[],_=>by simp[CO]
 |n::ns,v::vs,e=>by
  unfold aU at e;rw[d9];split at e
  .cases e
  .rename_i h;rw[oS h]
   cases h':aU f ns with
   |none=>exact rj vs h'
   |some j=>rw[h']at e;cases e
def Foc.up{o o1:O}(F:Foc G Hf H o v fp o1 v1 f1 R)(f:av Hf Hf')(s:av H H'):Foc G Hf' H' o v fp o1 v1 f1 R:=
 ⟨F.r.up f s,F.n,F.sub,λdr H2 o2 f2 s2 k h=>F.back dr H2 o2 f2 (f.trans s2) (λb u e q=>k b u (s b u e) q) h⟩
@[reducible]noncomputable def Xp:=LS->Option (O×(O->O))
abbrev tDP(G:Gc)(i:Nat)(f:Xp):TE:=λσ H Q=>∃Hf0 H0 Hf ρ o1 R,au G Hf0 H0 Hf H σ ρ/\f ρ=aa (o1,R) /\
 ∀o v fp v1 f1 Hf' H',ρ[i]?=aa (.deep o)->σ[i]?=aa (aa v)->Ext Hf H Hf' H'->OT G Hf' H' o v fp->Foc G Hf' H' o v fp o1 v1 f1 R->Q v1 H'
abbrev DP(c:Str->Addr)(X:Cx)(e:Expr)(i:Nat)(f:Xp):Prop:=PE X e (tDP (Gx c X) i f)
abbrev aX(i:Nat):Xp:=λρ=>match ρ[i]? with
 |some (.deep (.at l o))=>aa (o,.at l)
 |some (.deep o)=>aa (o,id)
 | _=>ac
abbrev O.fld(cn f:Str):O->Option (O×(O->O))
 |.ins c ns os=>if c=cn then (aU f ns).bind λk=>(os[k]?).map λo1=>(o1,λx=>.ins c ns (os.set k x)) else ac
 | _=>ac
abbrev bv(cn f:Str)(p:Xp):Xp:=λρ=>(p ρ).bind λq=>(q.1.fld cn f).map λr=>(r.1,λx=>q.2 (r.2 x))
abbrev O.key(k:List Key):O->Option (O×(O->O))
 |.dT ks os=>(aU k ks).bind λj=>(os[j]?).map λo1=>(o1,λx=>.dT ks (os.set j x))
 | _=>ac
abbrev n8(p:Xp)(g:MF1):Xp:=λρ=>(p ρ).bind λq=>(g ρ).bind λd=>(mD d).bind λk=>(q.1.key k).map λr=>(r.1,λx=>q.2 (r.2 x))
abbrev fzs:List O->OLD
 | []=>aa []
 |.fz d::os=>(fzs os).map (d::·)
 | _=>ac
def yR:∀(ds:LD),fzs (ds.map .fz)=aa ds
 | []=>rfl
 |d::ds=>by rw[bp,fzs,yR ds];rfl
def EW:∀{os:List O} {ds:LD},fzs os=aa ds->os=ds.map .fz
 | [],_,h=>by cases h;rfl
 |o::os,ds,h=>by
  cases o with
  |fz d=>
   rw[fzs]at h
   cases e:fzs os with
   |none=>rw[e]at h;cases h
   |some q=>rw[e]at h;cases h;rw[bp,<- EW e]
  | _=>cases h
def OTs.unfz{G:Gc}{Hf H:Hp}:∀{ds:LD} {vs:List V} {fs:LAd},OTs G Hf H (ds.map .fz) vs fs->ao G Hf ds vs/\fs=[]
 | [],_,_,h=>⟨h.1,h.2⟩
 |d::ds,_,_,q3_=>by
  obtain⟨v,r,f1,f2,e,q,L,z⟩:=q3_;obtain⟨a,b⟩:=OTs.unfz L;refine⟨⟨v,r,e,q.1,a⟩,?_⟩;rw[z,q.2,b];rfl
abbrev pD(p:Xp)(ρ:LS):OD:=(p ρ).bind λq=>match q.1 with
 |.fz d=>aa d
 | _=>ac
abbrev pB(p:Xp)(ρ:LS):OD:=(p ρ).bind λq=>if q.1.kn then aa q.1.toD else ac
abbrev O.items:O->OLD
 |.lst os=>fzs os
 | _=>ac
abbrev pC(p:Xp)(ρ:LS):OLD:=(p ρ).bind λq=>q.1.items
abbrev tDL(G:Gc)(f:MF2):TE:=λσ H Q=>∃Hf0 H0 Hf ρ ds,au G Hf0 H0 Hf H σ ρ/\f ρ=aa ds/\∀a vs Hf' H',Ext Hf H Hf' H'->H' a=aa (.lst vs)->ao G Hf' ds vs->Q (.ref a) H'
abbrev DL(c:Str->Addr)(X:Cx)(e:Expr)(f:MF2):Prop:=PE X e (tDL (Gx c X) f)
def be{q z:Type}{a:Option q}{f:q->Option z}{b:z}(h:a.bind f=aa b):∃x,a=aa x/\f x=aa b:=by
 cases a with
 |none=>cases h
 |some x=>exact⟨x,rfl,h⟩
def d6{q z:Type}{a:Option q}{f:q->z}{b:z}(h:a.map f=aa b):∃x,a=aa x/\f x=b:=by
 cases a with
 |none=>cases h
 |some x=>cases h;exact⟨x,rfl,rfl⟩
def cz(h:PE X e (di i)):DP c X e i (aX i):=PE.imp h λσ H Q q_=>by
 obtain⟨Hf0,H0,Hf,ρ,o1,R,M,q,kq⟩:=q_
 have main:∀o,ρ[i]?=aa (.deep o)->(∀v fp,OT (Gx c X) Hf H o v fp->fp.Nodup->Foc (Gx c X) Hf H o v fp o1 v fp R)->di i σ H Q:=λo es F=>by
  obtain⟨v,L,u,fp,U,r,n,z⟩:=M.slot es;subst U;exact⟨u,L,kq o u fp u fp Hf H es L (Ext.refl M.sub) r (F u fp r n)⟩
 unfold aX at q;split at q
 .rename_i l o es;cases q;exact main _ es λv fp r n=>Foc.at r n
 .rename_i o _ es;cases q;exact main _ es λv fp r n=>Foc.refl r n
 .cases q
variable{o2:O}
def Na{cn f:Str}(h:o1.fld cn f=aa (o2,R)):∃ns os k,o1=.ins cn ns os/\aU f ns=aa k/\os[k]?=aa o2/\R=λx=>.ins cn ns (os.set k x):=by
 cases o1 with
 |ins c ns os=>
  replace h:(if c=cn then (aU f ns).bind λk=>(os[k]?).map λo1=>(o1,λx=>O.ins c ns (os.set k x)) else ac)=aa (o2,R):=h;split at h
  .rename_i L;subst L;obtain⟨k,q,h⟩:=be h;obtain⟨o,z,h⟩:=d6 h;cases h;exact⟨ns,os,k,rfl,q,z,rfl⟩
  .cases h
 | _=>cases h
def Foc.fld{o o1 o2:O}{cn f:Str}(F:Foc G Hf H o v fp o1 v1 f1 R)(h:o1.fld cn f=aa (o2,R')):∃(a dx:Addr) (ns:LSt) (vs:List V) (q:V) (f2:LAd),v1=.ref a/\H a=aa (.ins (G.cl cn) dx (ns.zip vs))/\(ns.zip vs).lookup f=aa q/\Foc G Hf H o v fp o2 q f2 (λx=>R (R' x)):=by
 obtain⟨ns,os,k,rfl,U,e2,rfl⟩:=Na h;obtain⟨a,dx,vs,fs,rfl,ha,hz,rs,rfl⟩:=F.r;obtain⟨q,f2,ev,M⟩:=Foc.root (o:=.ins cn ns os) (W:=.ins cn ns) ha rfl rs F.n e2 λHf' H' os' z L r _=>⟨a,dx,vs,z,rfl,L,hz,r,rfl⟩;exact⟨a,dx,ns,vs,q,f2,rfl,ha,(EV vs U).trans ev,F.trans M⟩
variable{p:Xp}
def dD{o:Expr}(cn:Str)(hc:Cls X.K (c cn))(hn:dH X.K (c cn) fl)(ho:DP c X o i p)(hb:oG o fl X.env (eval o X.env)=eval o X.env:=by rfl):DP c X (.Attribute o fl pos) i (bv cn fl p):=PE.imp (Ct ho hb) λσ H Q q_=>by
 obtain⟨Hf0,H0,Hf,ρ,o2,R,so,z,kq⟩:=q_;obtain⟨q,U,z⟩:=be z;obtain⟨r,e2,z⟩:=d6 z;cases z;refine⟨Hf0,H0,Hf,ρ,q.1,q.2,so,U,λt v fp v1 f1 Hf' H' es ev x rt F=>?_⟩;obtain⟨a,dx,ns,vs,L,f2,ea,ha,el,M⟩:=F.fld e2;exact⟨a,_,dx,_,L,ea,ha,hc,hn,el,kq t v fp L f2 Hf' H' es ev x rt M⟩
def fJ.same(h:fJ H b k)(s:av H H'):fJ H' b k:=h.up λb xs e=>s _ _ e
def Nb(h:o1.key k=aa (o2,R)):∃ks os j,o1=.dT ks os/\aU k ks=aa j/\os[j]?=aa o2/\R=λx=>.dT ks (os.set j x):=by
 cases o1 with
 |dT ks os=>
  unfold O.key at h;obtain⟨j,q,h⟩:=be h;obtain⟨o,z,h⟩:=d6 h;cases h
  exact⟨ks,os,j,rfl,q,z,rfl⟩
 | _=>cases h
def Foc.key{o o1 o2:O}(F:Foc G Hf H o v fp o1 v1 f1 R)(h:o1.key k=aa (o2,R')):∃a kvs q f2,v1=.ref a/\H a=aa (.dT kvs)/\cQ kvs k=aa q/\Foc G Hf H o v fp o2 q f2 (λx=>R (R' x)):=by
 obtain⟨ks,os,j,rfl,U,e2,rfl⟩:=Nb h;obtain⟨a,vs,fs,rfl,ha,hz,rs,rfl⟩:=F.r;obtain⟨q,f2,ev,M⟩:=Foc.root (o:=.dT ks os) (W:=.dT ks) ha rfl rs F.n e2 λHf' H' os' z L r _=>⟨a,vs,z,rfl,L,hz,r,rfl⟩;exact⟨a,ks.zip vs,q,f2,rfl,ha,(rh vs U).trans ev,F.trans M⟩
def EX{o:Expr}(hu:X.A.units+1<cLine)(ho:DP c X o i p)(hk:DE c X e g)(hs:tE e:=by exact λ_ _=>rfl):DP c X (.Subscript o e pos) i (n8 p g):=PE.imp (CT hu ho hk hs) λσ H Q q_=>by
 obtain⟨Hf0,H0,Hf,ρ,o2,R,M,z,kq⟩:=q_;obtain⟨q,e1,z⟩:=be z;obtain⟨d,e2,z⟩:=be z;obtain⟨k,e3,z⟩:=be z;obtain⟨r,e4,z⟩:=d6 z;cases z;refine⟨Hf0,H0,Hf,ρ,q.1,q.2,M,e1,λt v fp v1 f1 eD H1 es ev x rt F=>⟨Hf0,H0,eD,ρ,d,M.step x,e2,λy dr H2 L r2=>?_⟩⟩;obtain⟨b,eb,tk⟩:=ux e3 r2;obtain⟨a,kvs,U,f2,ea,ha,el,F2⟩:=(F.up L.f L.h).key e4;subst eb;refine⟨a,U,ea,?_,kq t v fp U f2 dr H2 es ev (x.trans L) (rt.up L.f L.h) F2⟩;rw[<- el];exact gC.t ha (tk.same L.s)
def EY(h:DP c X e i p):DE c X e (pD p):=PE.imp h λσ H Q q_=>by
 obtain⟨Hf0,H0,Hf,ρ,d,so,z,U⟩:=q_;obtain⟨q,M,z⟩:=be z;refine⟨Hf0,H0,Hf,ρ,q.1,q.2,so,M,λt v fp v1 f1 eD H1 es ev x rt F=>?_⟩
 cases L:q.1 with
 |fz d'=>rw[L]at z;cases z;have r:=F.r;rw[L]at r;exact U _ _ _ x r.1
 | _=>rw[L]at z;cases z
def pO(h:DP c X e i p):DB c X e (pB p):=PE.imp h λσ H Q q_=>by
 obtain⟨Hf0,H0,Hf,ρ,d,so,z,U⟩:=q_;obtain⟨q,L,z⟩:=be z;split at z
 .rename_i M;cases z;exact⟨Hf0,H0,Hf,ρ,q.1,q.2,so,L,λt v fp v1 f1 eD H1 es ev x rt F=>U _ _ _ x (F.r.rep x.s M)⟩
 .cases z
def pP(h:o1.items=aa ds):o1=.lst (ds.map .fz):=by
 cases o1 with
 |lst os=>rw[EW h]
 | _=>cases h
def yS(h:DP c X e i p):DL c X e (pC p):=PE.imp h λσ H Q U=>by
 obtain⟨Hf0,H0,Hf,ρ,ds,so,z,M⟩:=U;obtain⟨q,L,z⟩:=be z;refine⟨Hf0,H0,Hf,ρ,q.1,q.2,so,L,λt v fp v1 f1 eD H1 es ev x rt F=>?_⟩;have r:=F.r;rw[pP z]at r;obtain⟨a,vs,fs,rfl,ha,rs,_⟩:=r;exact M a vs eD H1 x ha rs.unfz.1
def DL.dc{f:MF2}(h:DL c X e f):DC c X e f:=PE.imp h λσ H Q L=>by
 obtain⟨Hf0,H0,Hf,ρ,ds,st,q,k⟩:=L;exact⟨Hf0,H0,Hf,ρ,ds,st,q,λl vs Hf' H' x z r=>k l vs Hf' H' x (.inl (SqL.of z)) r⟩
def DL.db{f:MF2}(h:DL c X e f):DB c X e (aI f):=PE.imp h λσ H Q M=>by
 obtain⟨Hf0,H0,Hf,ρ,d,st,q,k⟩:=M;obtain⟨ds,z,q⟩:=d6 q;cases q;exact⟨Hf0,H0,Hf,ρ,ds,st,z,λl vs Hf' H' x L r=>k _ Hf' H' x ⟨l,vs,rfl,L,r.up x.s⟩⟩
abbrev O.got(k:List Key):O->OLD
 |.dT ks os=>match aU k ks with
  |some j=>(os[j]?).bind O.items
  |none=>aa []
 | _=>ac
abbrev i6(p:Xp)(g:MF1)(ρ:LS):OLD:=(p ρ).bind λq=>(g ρ).bind λd=>(mD d).bind λk=>q.1.got k
def yT{o:Expr}{L:Pos}(hu:X.A.units+1<cLine)(ho:DP c X o i p)(hk:DE c X e g)(m:M2 X o "get" apos e (.List [] L) pos):DL c X (.Call (.Attribute o "get" apos) [e,.List [] L] [] pos) (i6 p g):=PE.imp (CY hu ho hk (tf c8) m) λσ H Q q_=>by
 obtain⟨Hf0,H0,Hf,ρ,ds,so,z,kq⟩:=q_;obtain⟨q,e1,z⟩:=be z;obtain⟨d,e2,z⟩:=be z;obtain⟨k,e3,z⟩:=be z;refine⟨Hf0,H0,Hf,ρ,q.1,q.2,so,e1,λt v fp v1 f1 eD H1 es ev x rt F=>?_⟩
 cases h1:q.1 with
 |dT ks os=>
  rw[h1]at z F;obtain⟨a,vs,fs,rfl,ha,hz,rs,rfl⟩:=F.r;refine⟨a,rfl,.inr ⟨_,.inl ha⟩,Hf0,H0,eD,ρ,d,so.step x,e2,λy dr H2 M r2=>⟨c4 _,λl hl=>?_⟩⟩;obtain⟨b,eb,tk⟩:=ux e3 r2;subst eb;have U:Ext dr H2 dr (upd H2 l (.lst [])):=Ext.tmp M.s hl;have ha3:=U.h _ _ (M.h _ _ ha);refine⟨cQ (ks.zip vs) k,gC.t ha3 (tk.same (M.s.trans U.h)),?_⟩
  replace z:(match aU k ks with |some j=>(os[j]?).bind O.items |none=>aa [])=aa ds:=z
  cases hj:aU k ks with
  |none=>
   rw[hj]at z;cases z;rw[rj vs hj]
   exact kq l [] dr _ ((x.trans M).trans U) aZ .nil
  |some j=>
   rw[hj]at z;obtain⟨o2,eo,z⟩:=be z;obtain⟨v2,f2,ev2,F2⟩:=Foc.root (o:=.dT ks os) (W:=.dT ks) ha rfl rs F.n eo λHf' H' os' fs' ha' r _=>⟨a,vs,fs',rfl,ha',hz,r,rfl⟩;have r2:=(F2.up (M.f.trans U.f) (M.h.trans U.h)).r;rw[pP z]at r2;obtain⟨b2,ws,fs2,rfl,hb,rs2,_⟩:=r2;rw[rh vs hj,ev2]
   exact kq b2 ws dr _ ((x.trans M).trans U) hb rs2.unfz.1
 | _=>rw[h1]at z;cases z
def OTs.stay{fs:LAd}{M:HO}(r:OTs G Hf H os us fs)(U:H l=aa M)(L:iR M=ae)(hn:l∉fs)(f:av Hf Hf')(s:∀b u,b≠l->H b=aa u->H' b=aa u):OTs G Hf' H' os us fs:=
 OTs.frameM f os us fs r λb u q hm=>s b u (λz=>by
  subst z;rw[U]at q;cases q
  rcases hm with t |t
  .rw[t]at L;cases L
  .exact hn t) q
abbrev pQ(i:Nat)(p:Xp)(f:MF1)(ρ:LS):Option Fl:=(p ρ).bind λq=>(f ρ).bind λd=>(q.1.appd d).map λo2=>.nx (ρ.set i (.deep (q.2 o2)))
abbrev O.extd(ds:LD):O->Option O
 |.lst os=>if os.length+ds.length<=16777216 then aa (.lst (os++ds.map .fz)) else ac
 | _=>ac
abbrev uz(i:Nat)(p:Xp)(f:MF2)(ρ:LS):Option Fl:=(p ρ).bind λq=>(f ρ).bind λds=>(q.1.extd ds).map λo2=>.nx (ρ.set i (.deep (q.2 o2)))
abbrev O.pop0:O->Option (D×O)
 |.lst (.fz d::os)=>aa (d,.lst os)
 | _=>ac
abbrev uA(i:Nat)(p:Xp):Xe:=λρ=>(p ρ).bind λq=>q.1.pop0.map λr=>(r.1,ρ.set i (.deep (q.2 r.2)))
abbrev O.setAt(k:D)(d:D)(o:O):Option O:=match k with
 |.int n=>o.items.bind λds=>(ixN ds.length n).map λj=>.lst ((ds.set j d).map .fz)
 | _=>ac
abbrev uB(i:Nat)(p:Xp)(fk fv:MF1)(ρ:LS):Option Fl:=(fv ρ).bind λd=>(p ρ).bind λq=>(fk ρ).bind λx=>(q.1.setAt x d).map λo2=>.nx (ρ.set i (.deep (q.2 o2)))
abbrev O.putNew(o x:O)(k:List Key):Option O:=match o with
 |.dT ks os=>if aU k ks=ac/\ks.length<16777216 then aa (.dT (ks++[k]) (os++[x])) else ac
 | _=>ac
abbrev uC(i:Nat)(p:Xp)(fk fv:MF1)(ρ:LS):Option Fl:=(fv ρ).bind λd=>(p ρ).bind λq=>(fk ρ).bind λx=>(mD x).bind λk=>(q.1.putNew (.fz d) k).map λo2=>.nx (ρ.set i (.deep (q.2 o2)))
def yU{f:MF1}(h:PS X st (nz (tBM X.K "list" tq (tDP (Gx c X) i p) (me (tD (Gx c X) f) jm)))):DS c X st (pQ i p f):=PS.imp h λE σ H q_=>by
 obtain⟨Hf0,H0,Hf,ρ,o,so,M,kq⟩:=q_;obtain⟨q,e1,M⟩:=be M;obtain⟨d,e2,M⟩:=be M;obtain⟨o2,e3,M⟩:=d6 M;subst M;refine⟨Hf0,H0,Hf,ρ,q.1,q.2,so,e1,λt v fp v1 f1 eD H1 es ev x rt F=>?_⟩;obtain⟨l,us,el,ql,hz,lm,next⟩:=EK e3 F.r;subst el;refine⟨.inl ⟨rfl,_,SqL.of ql⟩,Hf0,H0,eD,ρ,d,so.step x,e2,λw dr H2 L r2=>?_⟩;refine⟨l,us,w,rfl,rfl,L.h _ _ ql,by rw[dG];exact hz,kq σ dr _ (x.trans L).f ?_⟩
 exact so.foc es ev (rt.up L.f L.h) (x.trans L) (F.up L.f L.h) (λb u U hn=>by rw[aJ (λz=>hn (by rw[z];exact lm))];exact U)
  (next dr _ w F.n L.f (λb u U e=>by rw[aJ U];exact L.h b u e) aZ r2) F.n λa ha=>.inl ha
def Nd{f:MF2}(h:PS X st (nz (tBM X.K "list" xm (tDP (Gx c X) i p) (me (tDL (Gx c X) f) jm)))):DS c X st (uz i p f):=PS.imp h λE σ H q_=>by
 obtain⟨Hf0,H0,Hf,ρ,o,so,U,kq⟩:=q_;obtain⟨q,e1,U⟩:=be U;obtain⟨ds,e2,U⟩:=be U;obtain⟨o2,M,U⟩:=d6 U;subst U;refine⟨Hf0,H0,Hf,ρ,q.1,q.2,so,e1,λt v fp v1 f1 eD H1 es ev x rt F=>?_⟩
 cases h1:q.1 with
 |lst os=>
  rw[h1]at M F;replace M:(if os.length+ds.length<=16777216 then aa (O.lst (os++ds.map .fz)) else ac)=aa o2:=M;split at M
  .rename_i hz;cases M;obtain⟨l,us,fs,rfl,ql,rs,rfl⟩:=F.r;refine⟨.inl ⟨rfl,_,SqL.of ql⟩,Hf0,H0,eD,ρ,ds,so.step x,e2,λb zs dr H2 L hb rz=>?_⟩;have ql2:=L.h _ _ ql;refine⟨l,b,us,zs,rfl,rfl,ql2,hb,by rw[dG,<- rs.length,<- rz.length];exact hz,kq σ dr _ (x.trans L).f ?_⟩;have nl:=(cZ.mp F.n).1;have o1:OTs (Gx c X) dr (upd H2 l (.lst (us++zs))) os us fs:=rs.stay ql rfl nl L.f λb u hb e=>by rw[aJ hb];exact L.h b u e
   have o3:=o1.append (OTs.fz (H:=upd H2 l (.lst (us++zs))) rz);rw[cB]at o3
   exact so.foc es ev (rt.up L.f L.h) (x.trans L) (F.up L.f L.h) (λb u hb hn=>by rw[aJ (λz=>hn (by rw[z];exact aN))];exact hb)
    (o2:=.lst (os++ds.map .fz)) ⟨l,us++zs,fs,rfl,aZ,o3,rfl⟩ F.n λa ha=>.inl ha
  .cases M
 | _=>rw[h1]at M;cases M
def Nf(h:PE X e (tBM X.K "list" CK (tDP (Gx c X) i p) (me (tC (.int 0)) jm))):DX c X e (uA i p):=PE.imp h λσ H Q q_=>by
 obtain⟨Hf0,H0,Hf,ρ,d,ρ',so,U,kq⟩:=q_;obtain⟨q,e1,U⟩:=be U;obtain⟨r,M,U⟩:=d6 U;cases U;refine⟨Hf0,H0,Hf,ρ,q.1,q.2,so,e1,λt v fp v1 f1 eD H1 es ev x rt F=>?_⟩
 cases h1:q.1 with
 |lst os=>
  rw[h1]at M F
  cases os with
  |nil=>cases M
  |cons o1 os=>
   cases o1 with
   |fz d=>
    cases M;obtain⟨l,us,fs,rfl,ql,rs,rfl⟩:=F.r;obtain⟨w,L,g1,g2,rfl,rw1,rs',rfl⟩:=rs;obtain⟨rd,rfl⟩:=rw1;refine⟨.inl ⟨rfl,_,SqL.of ql⟩,l,w::L,0,0,w,rfl,rfl,ql,by decide,by decide,?_,rfl,?_⟩
    .have hq:(decide ((0:Int)<=0) && decide ((0:Int)<((w::L).length:Int)))=ab:=by simp
     unfold seqIndex?;dsimp only;rw[if_neg (show ¬(0:Int)<0 by decide),if_pos hq];rfl
    .have nl:=(cZ.mp F.n).1;rw[nil_append]at nl;refine kq w eD _ x.f ?_ rd;have o1:OTs (Gx c X) eD (upd H1 l (.lst L)) os L g2:=rs'.stay ql rfl nl (av.refl _) λb u hb e=>by rw[aJ hb];exact e
     exact so.foc es ev rt x F (λb u hb hn=>by rw[aJ (λz=>hn (by rw[z];exact aN))];exact hb)
      (o2:=.lst os) (f2:=l::g2) ⟨l,L,g2,rfl,aZ,o1,rfl⟩ F.n λa ha=>.inl ha
   | _=>cases M
 | _=>rw[h1]at M;cases M
def Ng(hp:PS X st (iP (tD (Gx c X) fv) (wS (tDP (Gx c X) i p) (tD (Gx c X) fk) xi))):DS c X st (uB i p fk fv):=PS.imp hp λE σ H q_=>by
 obtain⟨Hf0,H0,Hf,ρ,o,so,L,kq⟩:=q_;obtain⟨d,e1,L⟩:=be L;obtain⟨q,e2,L⟩:=be L;obtain⟨k,e3,L⟩:=be L;obtain⟨o2,U,L⟩:=d6 L;subst L;refine⟨Hf0,H0,Hf,ρ,d,so,e1,λw eD H1 x1 r1=>⟨Hf0,H0,eD,ρ,q.1,q.2,so.step x1,e2,λt v fp v1 f1 dr H2 es ev x2 rt F=>⟨Hf0,H0,dr,ρ,k,(so.step x1).step x2,e3,λy h9 H3 M r3=>?_⟩⟩⟩
 cases k with
 |int n=>
  obtain⟨ds,e5,U⟩:=be (show q.1.items.bind _=_ from U);obtain⟨j,e6,U⟩:=d6 U;subst U;have F3:=F.up M.f M.h;rw[pP e5]at F3;obtain⟨l,us,fs,rfl,ql,rs,L⟩:=F3.r;obtain⟨rd,rfl⟩:=rs.unfz;refine⟨l,us,n,j,rfl,r3,ql,by rw[<- rd.length];exact e6,kq σ h9 _ ((x1.trans x2).trans M).f ?_⟩;have nf:OTs (Gx c X) h9 (upd H3 l (.lst (us.set j w))) ((ds.set j d).map .fz) (us.set j w) []:=OTs.fz (rd.set j (r1.up (x2.f.trans M.f)))
  have:=(so.step x1).foc es ev (rt.up M.f M.h) (x2.trans M) F3 (H2:=upd H3 l (.lst (us.set j w))) (λb u hb hn=>by rw[aJ (λz=>hn (by rw[L,z];exact aN))];exact hb)
   (o2:=.lst ((ds.set j d).map .fz)) (f2:=[l]) ⟨l,us.set j w,[],rfl,aZ,nf,rfl⟩ (by rw[<- L];exact F3.n) λa ha=>.inl (by rw[L];exact ha)
  exact this
 | _=>cases U
def Nh{q:Type}[DecidableEq q]{k:q}{ks:List q}(hz:ks.length=vs.length)(h:aU k ks=ac):dA (ks.zip vs) k v=(ks++[k]).zip (vs++[v]):=by
 unfold dA;rw[tz,rj vs h,if_neg (by simp),zip_append hz];rfl
def EZ{ks:List (List Key)}{x:O}{g:LAd}{w:V}(r:OT G Hf H (.dT ks os) (.ref l) f1)(n:f1.Nodup)(q:aU k ks=ac)(f:av Hf Hf')(s:∀b u,b≠l->H b=aa u->H' b=aa u):
  ∃kvs,H l=aa (.dT kvs)/\kvs.length=ks.length/\cQ kvs k=ac/\l∈f1/\(H' l=aa (.dT (dA kvs k w))->OT G Hf' H' x w g->OT G Hf' H' (.dT (ks++[k]) (os++[x])) (.ref l) (f1++g)):=by
 obtain⟨U,vs,fs,el,z,hz,rs,rfl⟩:=r;cases el;refine⟨ks.zip vs,z,by rw[ow];lia,rj vs q,aN,λL M=>⟨l,vs++[w],fs++g,rfl,?_,by simp[hz],?_,rfl⟩⟩
 .rw[L,Nh hz q]
 .exact(rs.stay z rfl (cZ.mp n).1 f s).append (.one M)
def Ni{x:O}(h:o1.putNew x k=aa o2):∃ks os,o1=.dT ks os/\aU k ks=ac/\ks.length<16777216/\o2=.dT (ks++[k]) (os++[x]):=by
 cases o1 with
 |dT ks os=>
  replace h:(if aU k ks=ac/\ks.length<16777216 then aa (O.dT (ks++[k]) (os++[x])) else ac)=aa o2:=h;split at h
  .rename_i q;cases h;exact⟨ks,os,rfl,q.1,q.2,rfl⟩
  .cases h
 | _=>cases h
def Nj(hp:PS X st (xu (tDP (Gx c X) i p) (tD (Gx c X) fk) (tD (Gx c X) fv))):DS c X st (uC i p fk fv):=PS.imp hp λE σ H q_=>by
 obtain⟨Hf0,H0,Hf,ρ,o,so,L,kq⟩:=q_;obtain⟨d,e1,L⟩:=be L;obtain⟨q,e2,L⟩:=be L;obtain⟨y,e3,L⟩:=be L;obtain⟨k,e5,L⟩:=be L;obtain⟨o2,e4,L⟩:=d6 L;subst L;refine⟨Hf0,H0,Hf,ρ,d,so,e1,λw eD H1 x1 r1=>⟨Hf0,H0,eD,ρ,q.1,q.2,so.step x1,e2,λt v fp v1 f1 dr H2 es ev x2 rt F=>⟨Hf0,H0,dr,ρ,y,(so.step x1).step x2,e3,λz h9 H3 M r3=>?_⟩⟩⟩;obtain⟨ks,os,h1,hk,hlt,rfl⟩:=Ni e4;have U:=F.up M.f M.h;rw[h1]at U;obtain⟨b,rfl,tk⟩:=ux e5 r3;obtain⟨l,vs,fs,rfl,ql,hz,rs,L⟩:=id U.r;obtain⟨kvs,ql',hkv,hv,lm,nw⟩:=EZ (Hf':=h9) (H':=upd H3 l (.dT (dA (ks.zip vs) k w))) (w:=w) (x:=.fz d) (g:=[]) U.r U.n hk (av.refl _) λb u hb e=>by rw[aJ hb];exact e
 rw[ql]at ql';cases ql';refine⟨l,_,rfl,mh.t ql (tk.same M.s) (by rw[dG,hkv];exact hlt),kq σ h9 _ ((x1.trans x2).trans M).f ?_⟩
 exact(so.step x1).foc es ev (rt.up M.f M.h) (x2.trans M) U (λb u hb hn=>by rw[aJ (λz=>hn (by rw[z];exact lm))];exact hb)
  (nw aZ ⟨r1.up (x2.f.trans M.f),rfl⟩) (by rw[cB];exact U.n) λa ha=>.inl (by rw[cB]at ha;exact ha)
section
variable{prog:cH}{w:World}{K:Type}[DecidableEq K]{kn:HeapKind prog w K}{A:cI}{E:PRS}{s:ai}
def Nk{d b:Addr}{xs:List (K×Addr×Value)}{k:K}{dv:Value}{Q:PRS}(hu:kn.room A)(hk:kn.is s.heap k b)(hm:s.heap.DictOfH kn d xs)(hz:xs.length<=aR)
 (h1:∀q,atKey xs k=aa q->Q q.2 {s with toks:=s.toks+kn.draws k})
 (h2:atKey xs k=ac->∀h',h'.DictOfH kn d (storedH xs k b dv)->gy d s.heap h'->Q dv {s with heap:=h',toks:=s.toks+kn.draws k}):
  wpAny (model prog w) A (dictSetDefault d (.ref b) dv) Q E s:=by
 obtain⟨ob,ens,ep,go,hx,L,el,all,nd⟩:=hm;unfold dictSetDefault
 try with_reducible refine jV ?_
 refine am (kn.pyHash hu hk ?_)
 refine am (wpAny_dictFind_heap (s:={s with toks:=s.toks+kn.draws k}) hu hk go L el all nd (λno=>?_) λj q hj=>?_)
 .have nk:k∉xs.map (·.1):=not_mem_keys_of_get no;have z:atKey xs k=ac:=atKey_none_of_get no
  refine am (lZ (am (wpAny_updateDictKeys (hz:=by have e:=size_of_entries el; lia) (s:={ s with toks:=s.toks + kn.draws k }) go L (aD (h2 z _ ⟨_,_,ep + 1,oK _ go (Obj.isFreed_of_dict (Obj.data_mapDictKeys L _)),
   hx.mapDictKeys _,Obj.data_mapDictKeys L _,?_,?_,?_⟩ (oM ..))))))
  .rw[storedH_new z];simp[el,entryOfKey]
  .rw[storedH_new z];intro y M
   rcases bT.mp M with M |M
   .exact kn.keeps (all y M) go L (oM ..)
   .rw[dF.mp M];exact kn.keeps hk go L (oM ..)
  .rw[storedH_new z,bO,gR];refine⟨nd,cZ.mpr ⟨cG,f6⟩,λy M y' U e=>?_⟩;rw[bp,map_nil]at U;rw[dF.mp U]at e;exact nk ((show y=k from e)▸M)
 .refine am (wpAny_dictEntries (s:={s with toks:=s.toks+kn.draws k}) go L ?_)
  rw[entry_at el j,hj];exact am (lZ (aD (h1 q (atKey_of_get nd hj))))
def Nl(kn:HeapKind prog w K)(d b:Addr)(hd:(d==gU)=ae)(dv:Value):
  MeetsIn prog w (dY.«dict.setdefault» ⟨[.ref d,.ref b,dv],[]⟩) (λA R s=>kn.room A.in1/\∃ k xs,kn.is s.heap k b/\s.heap.DictOfH kn d xs/\xs.length<=aR /\
   (∀q,atKey xs k=aa q->R (.ok (.ret q.2)) {s with toks:=s.toks+kn.draws k}) /\
   (atKey xs k=ac->∀h',h'.DictOfH kn d (storedH xs k b dv)->gy d s.heap h'->R (.ok (.ret dv)) {s with heap:=h',toks:=s.toks+kn.draws k})):=
 .of_wp λA R s q_=>by
  obtain⟨hu,k,xs,hk,hm,hz,U,h2⟩:=q_;unfold dY.«dict.setdefault»;refine am ?_;unfold dY.Dict.keyAndDefault;refine am (wpAny_notOrdered_dict hm.typeIs ?_);show wpAny _ _ (pure (d,bJ b,aa dv)) _ _ s;refine aD ?_;show wpAny _ _ (if (d==gU)=ab then _ else (dictSetDefault d (.ref b) dv >>= _)) _ _ s;rw[hd,if_neg (λz=>nomatch z)];exact am (Nk hu hk hm hz (λq hq=>aD ⟨q.2,rfl,U q hq⟩) λhn h' L M=>aD ⟨dv,rfl,h2 hn h' L M⟩)
end
variable{a:Addr}{z:V}{r:Value}{kvs:List (List Key×V)}
def Nn{Q:PRS}(hu:A.units+1<cLine)(I:Inv X pins σ H s)(e:H a=aa (.dT kvs))(tk:fJ H b k)(rz:aE z r)
 (h1:∀v u s',cQ kvs k=aa v->Inv X pins σ H s'->aE v u->Q u s')(h2:cQ kvs k=ac->kvs.length<aR/\∀s',Inv X pins σ (upd H a (.dT (dA kvs k z))) s'->Q r s'):
  wpAny (model X.prog X.w) A (call (.builtin "dict.setdefault") [.ref a,.ref b,r]) Q E s:=by
 obtain⟨hl,hd,xs,L,dd⟩:=CS I.hok e;refine call_meetsIn B0 dd.typeIs PySem.F.entry_dict_setdefault (PySem.F.args_dict_setdefault_3 _ _ _) (Nl (m6 (lg X.prog X.w)) a b hd r) ⟨qw hu,k,xs,oU I.hok tk,dd,by rw[<- oN L];exact hl,λq hq=>?_,λhn h' dd' hs=>?_⟩
 .have M:=L.val k;rw[hq]at M
  cases hv:cQ kvs k with
  |none=>rw[hv]at M;exact M.elim
  |some v=>rw[hv]at M;exact h1 v q.2 _ hv (I.tok _) M
 .have hv:cQ kvs k=ac:=by
   have M:=L.val k;rw[hn]at M
   cases hv:cQ kvs k with
   |none=>rfl
   |some v=>rw[hv]at M;exact M.elim
  obtain⟨hlt,hq⟩:=h2 hv;obtain⟨q,es,ep,U,e2,e3,e4,_,e5⟩:=dd';have hl':(dA kvs k z).length<=aR:=by have:=xr kvs k z;lia
  refine hq _ (xt I (by rw[e];exact iN) hs ⟨q,U⟩ ⟨hl',hd,_,(L.put k tk rz).keeps λc ys ec=>?_,q,es,ep,U,e2,e3,e4,e5⟩);rw[aJ (B6 ec e (λz=>nomatch z))];exact ec
abbrev E1(L ty M:TE):TE:=λσ H Q=>L σ H λx H1=>∃a,x=.ref a/\IsD H1 a/\ty σ H1 λy H2=>M σ H2 λz q=>∃kvs k b,q a=aa (.dT kvs)/\y=.ref b/\fJ q b k /\
 (∀v,cQ kvs k=aa v->Q v q)/\(cQ kvs k=ac->kvs.length<aR/\Q z (upd q a (.dT (dA kvs k z))))
variable{f:Expr}{td ty tx:TE}
def No{o:Expr}(hu:X.A.units+1<cLine)(ho:PE X o td)(he:PE X e ty)(hf:PE X f tx)(m:M2 X o "setdefault" apos e f cpos):PE X (.Call (.Attribute o "setdefault" apos) [e,f] [] cpos) (E1 td ty tx):=by
 intro pins s σ H Q I h;refine wpAny_Call_method m.base m.few m.line PySem.F.plainAttrs_dict B0 PySem.F.type_dict_setdefault (thn (ho pins s σ H _ I h) λu s1 q_=>?_);obtain⟨x,H1,U,rx,a,ex,d,q1⟩:=q_;subst ex;obtain rfl:u=bJ a:=rx;obtain⟨t1,t2,_⟩:=CW U d;refine⟨t1,t2,?_⟩;rw[m.trees];refine wE rfl (wF (jZ (thn (he pins s1 σ H1 _ U q1) λiv s2 L=>?_)));obtain⟨y,H2,I2,ry,q2⟩:=L;refine jZ (thn (hf pins s2 σ H2 _ I2 q2) λfv s3 M=>wG ?_);obtain⟨z,H3,I3,rz,kvs,k,b,ea,ey,tk,q3,q4⟩:=M;subst ey;cases (show iv=bJ b from ry);exact Nn hu I3 ea tk rz (λv u s4 hv q ru=>⟨v,H3,q,ru,q3 v hv⟩) λhn=>⟨(q4 hn).1,λs4 q=>⟨z,_,q,rz,(q4 hn).2⟩⟩
abbrev O.apdK(o:O)(k:List Key)(d:D):Option O:=match o with
 |.dT ks os=>match aU k ks with
  |some j=>(os[j]?).bind λo1=>(o1.appd d).map λo2=>.dT ks (os.set j o2)
  |none=>if ks.length<16777216 then aa (.dT (ks++[k]) (os++[.lst [.fz d]])) else ac
 | _=>ac
abbrev uD(i j:Nat)(p:Xp)(g:MF1)(ρ:LS):Option Fl:=(p ρ).bind λq=>(g ρ).bind λy=>(mD y).bind λk=>(af j ρ).bind λd=>(q.1.apdK k d).map λo2=>.nx (ρ.set i (.deep (q.2 o2)))
def Np{jv:Nat}(h:PS X st (nz (tBM X.K "list" tq (E1 (tDP (Gx c X) i p) (tD (Gx c X) g) (w9 jm)) (me (di jv) jm)))):DS c X st (uD i jv p g):=PS.imp h λE σ H q_=>by
 obtain⟨Hf0,H0,Hf,ρ,o,so,U,kq⟩:=q_;obtain⟨q,e1,U⟩:=be U;obtain⟨y,e2,U⟩:=be U;obtain⟨k,e3,U⟩:=be U;obtain⟨d,e4,U⟩:=be U;obtain⟨o2,L,U⟩:=d6 U;subst U;obtain⟨w,ew,rw0⟩:=so.imm (C6 e4);refine⟨Hf0,H0,Hf,ρ,q.1,q.2,so,e1,λt v fp v1 f1 eD H1 es ev x rt F=>?_⟩
 cases h1:q.1 with
 |dT ks os=>
  rw[h1]at L F;obtain⟨a,vs,fs,rfl,ha,hz,rs,rfl⟩:=id F.r;refine⟨a,rfl,.inr ⟨_,.inl ha⟩,Hf0,H0,eD,ρ,y,so.step x,e2,λu dr H2 x2 r2=>⟨c4 _,λl hl=>?_⟩⟩;obtain⟨b,eb,tk⟩:=ux e3 r2;subst eb;have x3:Ext dr H2 dr (upd H2 l (.lst [])):=Ext.tmp x2.s hl;have M:=x2.trans x3;have xa:=x.trans M;have ha3:=M.h _ _ ha;have F3:=F.up M.f M.h;have rt3:=rt.up M.f M.h;refine⟨ks.zip vs,k,b,ha3,rfl,tk.same (x2.s.trans x3.h),λv2 hv2=>?_,λhn=>?_⟩
  .cases hj:aU k ks with
   |none=>rw[rj vs hj]at hv2;cases hv2
   |some j=>
    replace L:(match aU k ks with |some j=>(os[j]?).bind λo1=>(o1.appd d).map λo2=>O.dT ks (os.set j o2) |none=>if ks.length<16777216 then aa (.dT (ks++[k]) (os++[.lst [.fz d]])) else ac)=aa o2:=L
    rw[hj]at L;obtain⟨ok,eo,L⟩:=be L;obtain⟨on,ea,L⟩:=d6 L;subst L;obtain⟨v3,f3,ev3,F4⟩:=Foc.root (o:=.dT ks os) (W:=.dT ks) ha rfl rs F.n eo λHf' H' os' fs' ha' r _=>⟨a,vs,fs',rfl,ha',hz,r,rfl⟩;rw[rh vs hj,ev3]at hv2;cases hv2;have F5:=(F.trans F4).up M.f M.h;obtain⟨l2,us,el,ql,hz2,lm,next⟩:=EK ea F5.r;subst el;refine⟨.inl ⟨rfl,_,SqL.of ql⟩,w,ew,l2,us,w,rfl,rfl,ql,by rw[dG];exact hz2,kq σ dr _ xa.f ?_⟩
    have:=so.foc es ev rt3 xa F5 (H2:=upd (upd H2 l (.lst [])) l2 (.lst (us++[w]))) (λb u hb hn=>by rw[aJ (λz=>hn (by rw[z];exact lm))];exact hb)
     (next dr _ w F5.n (av.refl _) (λb u hb e=>by rw[aJ hb];exact e) aZ (rw0.up xa.f)) F5.n λa ha=>.inl ha
    exact this
  .cases hj:aU k ks with
   |some j=>
    rw[rh vs hj]at hn;have:=yQ hj;rw[wj]at hn
    lia
   |none=>
    replace L:(match aU k ks with |some j=>(os[j]?).bind λo1=>(o1.appd d).map λo2=>O.dT ks (os.set j o2) |none=>if ks.length<16777216 then aa (.dT (ks++[k]) (os++[.lst [.fz d]])) else ac)=aa o2:=L
    rw[hj]at L;replace L:(if ks.length<16777216 then aa (O.dT (ks++[k]) (os++[.lst [.fz d]])) else ac)=aa o2:=L;split at L
    .rename_i hlt;cases L;have nal:a≠l:=fK (x2.h _ _ ha) hl
     have lf:∀g,g∈fp->g≠l:=λg hg z=>by
      have:=so.was es ev x rt g hg;subst z;exact this ((x.h.trans x2.h).free hl)
     have hl4:upd (upd H2 l (.lst [])) a (.dT (dA (ks.zip vs) k (.ref l))) l=aa (.lst []):=by rw[aJ nal.symm,aZ]
     refine⟨by rw[dG,ow];lia,.inl ⟨rfl,_,SqL.of hl4⟩,w,ew,l,[],w,rfl,rfl,hl4,by rw[dG];exact qr _,kq σ dr _ xa.f ?_⟩;have xb:=x.trans x2;have F2:=F.up x2.f x2.h
     have keep:∀b u,b≠a->H2 b=aa u->upd (upd (upd H2 l (.lst [])) a (.dT (dA (ks.zip vs) k (.ref l)))) l (.lst ([]++[w])) b=aa u:=λb u hb e=>by
      have nb:=fK e hl;rw[aJ nb,aJ hb,aJ nb];exact e
     obtain⟨kvs,ql',hkv,hv,lm,nw⟩:=EZ (Hf':=dr) (H':=upd (upd (upd H2 l (.lst [])) a (.dT (dA (ks.zip vs) k (.ref l)))) l (.lst ([]++[w]))) (w:=.ref l) (x:=.lst [.fz d]) (g:=[l]) F2.r F2.n hj (av.refl _) keep;rw[x2.h _ _ ha]at ql';cases ql';refine so.foc es ev (rt.up x2.f x2.h) xb F2 (λb u hb hn=>keep b u (λz=>hn (by rw[z];exact lm)) hb) (nw (by rw[aJ nal,aZ]) ⟨l,[w],[],rfl,aZ,OTs.one (o:=.fz d) ⟨rw0.up xb.f,rfl⟩,rfl⟩) ?_ λg hg=>?_
     .exact gR.mpr ⟨F2.n,cZ.mpr ⟨cG,f6⟩,λg hg g' hg' z=>by rw[dF.mp hg']at z;exact lf g (F2.sub g hg) z⟩
     .rcases bT.mp hg with y |y
      .exact .inl y
      .rw[dF.mp y];exact .inr ⟨xb.h.free hl,xb.s.free hl⟩
    .cases L
 | _=>rw[h1]at L;cases L
def E2{f:Str}{v:V}:∀{ns:LSt} {vs:List V} {k:Nat},ns.length=vs.length->aU f ns=aa k->c5 f v (ns.zip vs)=ns.zip (vs.set k v)
 | [],_,_,_,h=>by cases h
 | _::_,[],_,hl,_=>by cases hl
 |n::ns,u::vs,k,hl,h=>by
  unfold aU at h;rw[d9];unfold c5;split at h
  .rename_i e;cases h;rw[if_pos e,sE,d9]
  .rename_i e;rw[if_neg e]
   cases h':aU f ns with
   |none=>rw[h']at h;cases h
   |some j=>
    rw[h']at h;cases h;rw[qo,d9,E2 (by simpa using hl) h']
def E3{f:Str}{v:V}:∀{ns:LSt} {vs:List V},ns.length=vs.length->aU f ns=ac->c5 f v (ns.zip vs)=(ns++[f]).zip (vs++[v])
 | [],[],_,_=>rfl
 | [],_::_,hl,_=>by cases hl
 | _::_,[],hl,_=>by cases hl
 |n::ns,u::vs,hl,h=>by
  unfold aU at h;rw[d9];unfold c5;split at h
  .cases h
  .rename_i e;rw[if_neg e]
   cases h':aU f ns with
   |none=>rw[cons_append,cons_append,d9,E3 (by simpa using hl) h']
   |some j=>rw[h']at h;cases h
abbrev O.setF(o:O)(cn f:Str)(x:O):Option O:=match o with
 | .ins c ns os=>if c=cn/\ns.length < 1000 then (match aU f ns with
  |some k=>aa (.ins c ns (os.set k x))
  |none=>aa (.ins c (ns++[f]) (os++[x]))) else ac
 | _=>ac
abbrev jH(i:Nat)(cn f:Str)(p:Xp)(g:LS->Option O)(ρ:LS):Option Fl:=(g ρ).bind λx=>(p ρ).bind λq=>(q.1.setF cn f x).map λo2=>.nx (ρ.set i (.deep (q.2 o2)))
def OTs.len{G:Gc}{Hf H:Hp}:∀{os:List O} {vs:List V} {fs:LAd},OTs G Hf H os vs fs->os.length=vs.length
 | [],_,_,h=>by rw[h.1];rfl
 |o::os,_,_,⟨v,r,f1,f2,e,_,h2,_⟩=>by subst e;simp[OTs.len h2]
def mE{g:LS->Option O}(cn:Str)(hc:Cls X.K (c cn))(hn:dH X.K (c cn) fl)(hp:PS X st (Cs X.K (tDP (Gx c X) i p) (tDZ (Gx c X) ab g) fl)):DS c X st (jH i cn fl p g):=PS.imp hp λE σ H q_=>by
 obtain⟨Hf0,H0,Hf,ρ,o,so,ef,kq⟩:=q_;obtain⟨x,e1,ef⟩:=be ef;obtain⟨q,e2,ef⟩:=be ef;obtain⟨o2,M,ef⟩:=d6 ef;subst ef;refine⟨Hf0,H0,Hf,ρ,x,so,e1,λu gp eD H1 x1 rx fre=>⟨Hf0,H0,eD,ρ,q.1,q.2,so.step x1,e2,λt v fp v1 f1 dr H2 es ev x2 rt F=>?_⟩⟩;have x12:=x1.trans x2;have was:=so.was es ev x12 rt
 have hg:∀b∈gp,H b=ac/\dr b=ac:=λb L=>by
  refine⟨(fre.2 b L).1,?_⟩;obtain⟨w,hw,ht⟩:=OT.memM x u gp rx b L;rw[x2.n b w hw ht];exact(fre.2 b L).2
 have ng:∀b∈gp,b∉fp:=λb L hf=>was b hf (hg b L).1
 cases h1:q.1 with
 |ins U ns os=>
  rw[h1]at M F
  replace M : (if U=cn/\ns.length < 1000 then (match aU fl ns with
   |some k=>aa (O.ins U ns (os.set k x))
   |none=>aa (.ins U (ns++[fl]) (os++[x]))) else ac)=aa o2:=M
  split at M
  .rename_i hcc;obtain⟨rfl,hlt⟩:=hcc;obtain⟨a,dx,vs,fs,rfl,ha,hz,rs,rfl⟩:=id F.r;obtain⟨na,nfs⟩:=cZ.mp F.n;have nag:a∉gp:=λz=>ng a z (F.sub a aN);refine⟨a,_,dx,ns.zip vs,rfl,ha,hc,hn,by rw[ow];lia,kq σ dr _ x12.f ?_⟩;have keep:∀b w,b≠a->H2 b=aa w->upd H2 a (.ins (c U) dx (c5 fl u (ns.zip vs))) b=aa w:=λb w L e=>by rw[aJ L];exact e
   have rx2 : OT (Gx c X) dr (upd H2 a (.ins (c U) dx (c5 fl u (ns.zip vs)))) x u gp:=(rx.up x2.f x2.h).frame (av.refl _) λb w L hm=>keep b w (λz=>by
    subst z;rw[ha]at L;cases L
    rcases hm with hm |hm
    .cases hm
    .exact nag hm) L
   have kk:∀b w,H2 b=aa w->b∉a::fs->upd H2 a (.ins (c U) dx (c5 fl u (ns.zip vs))) b=aa w:=λb w L hn=>keep b w (λz=>hn (by rw[z];exact aN)) L
   cases hk:aU fl ns with
   |some k=>
    rw[hk]at M;cases M;have hkl:k<os.length:=by rw[rs.len,<- hz];exact yQ hk
    obtain⟨vk,fk,evk,_,_,sb,bk⟩:=rs.foc nfs (cj hkl)
    obtain ⟨fs',r',m',n'⟩:=bk dr _ x u gp (av.refl _) (λb w L hm _=>keep b w (λz=>by
     subst z;rw[ha]at L;cases L
     rcases hm with hm |hm
     .cases hm
     .exact na hm) L) rx2
    refine so.foc es ev rt x12 F kk (o2:=.ins U ns (os.set k x)) (f2:=a::fs') ⟨a,dx,vs.set k u,fs',rfl,by rw[aZ,E2 hz hk],by simp[hz],r',rfl⟩ (cZ.mpr ⟨λz=>?_,n' fre.1 λb L hf=>absurd (F.sub b (bo _ hf)) (ng b L)⟩) λb L=>?_
    .rcases m' a z with y |⟨y,_⟩
     .exact nag y
     .exact na y
    .rcases aQ.mp L with z |z
     .rw[z];exact .inl aN
     .rcases m' b z with y |⟨y,_⟩
      .exact .inr (hg b y)
      .exact .inl (bo _ y)
   |none=>
    rw[hk]at M;cases M;have r':=(rs.stay (H':=upd H2 a (.ins (c U) dx (c5 fl u (ns.zip vs)))) ha rfl na (av.refl _) keep).append (.one rx2);refine so.foc es ev rt x12 F kk (o2:=.ins U (ns++[fl]) (os++[x])) (f2:=a::(fs++gp)) ⟨a,dx,vs++[u],fs++gp,rfl,by rw[aZ,E3 hz hk],by simp[hz],r',rfl⟩ (cZ.mpr ⟨λz=>?_,gR.mpr ⟨nfs,fre.1,λb L b' hb' z=>by subst z;exact ng b hb' (F.sub b (bo _ L))⟩⟩) λb L=>?_
    .rcases bT.mp z with y |y
     .exact na y
     .exact nag y
    .rcases aQ.mp L with z |z
     .rw[z];exact .inl aN
     .rcases bT.mp z with y |y
      .exact .inl (bo _ y)
      .exact .inr (hg b y)
  .cases M
 | _=>rw[h1]at M;cases M
@[reducible]noncomputable def MTf:=Addr->LD->O->Option (O×D)
abbrev fX(G:Gc)(n:Nat)(m:MTf):Sp:=λvs H Q _=>∃Hf ds o o' d l fp q,vs=.ref l::q/\av Hf H/\OT G Hf H o (.ref l) fp/\fp.Nodup/\(∀a∈fp,Hf a=ac)/\ao G Hf ds q/\1+ds.length=n/\m l ds o=aa (o',d) /\
 ∀v Hf' H' fp',Ext Hf (gM H fp) Hf' H'->OT G Hf' H' o' (.ref l) fp'->fp'.Nodup->(∀a∈fp',gM H fp a=ac/\Hf' a=ac)->Rep G Hf' d v->Q v H'
abbrev rk(N:Nat)(l:Addr)(ds:LD)(o:O):LS:=(eU N (.non::ds)).set 0 (.deep (.at l o))
open Classical in
abbrev n9(l:Addr)(ρ:LS):Option O:=match (ρ[0]?:Option Sl)with
 |some (Sl.deep (.at l' o))=>if l'=l then aa o else ac
 | _=>ac
def Nq{o:O}(h:n9 l ρ=aa o):ρ[0]?=aa (.deep (.at l o)):=by
 unfold n9 at h;split at h
 .rename_i e;split at h
  .rename_i q;subst q;cases h;exact e
  .cases h
 .cases h
def E4{o:O}(h:ρ[0]?=aa (.deep (.at l o))):n9 l ρ=aa o:=by
 unfold n9;rw[h];exact if_pos rfl
abbrev ie(N:Nat)(F:MF3):MTf:=λl ds o=>(F (rk N l ds o)).bind λr=>match r with
 |.nx ρ=>(n9 l ρ).map λo'=>(o',.non)
 |.rtS d ρ=>(n9 l ρ).map λo'=>(o',d)
 | _=>ac
def au.startMT{o:O}{q:List V}(s0:av Hf H)(U:OT G Hf H o (.ref l) fp)(n:fp.Nodup)(L:∀a∈fp,Hf a=ac)(r:ao G Hf ds q):
  au G Hf (gM H fp) Hf H (L2.start N (.ref l::q)) (rk N.length l ds o):=by
 have M:=au.start (N:=N) (EN s0 L) (.cons (d:=.non) (v:=.non) rfl r)
 exact M.setNew (i:=0) (u:=.ref l) (s:=.deep (.at l o)) (Ext.grow (EN s0 L) MR) ⟨.ref l,fp,rfl,⟨rfl,U⟩,n,λa ha=>⟨yI ha,L a ha⟩⟩ λa p=>by
  obtain⟨fp',r',ha⟩:=p;have:=OT.funM o _ fp fp' U r'.2;subst this;exact yI ha
variable{K:aV}{f:Addr}{k:Nat}
def lJ(Fn:Fun K x qual st f fd)(S:aM N ps (aF st))
 (h:∀(cdv:Value) (A:cI) (outer:List Env) (s:ai) (H:Hp) (E:XK),bF k (A.deeper (gT qual (aF st) s.heap.objs.size f cdv))->DSs c (jn CX0 P w K mg base N qual (aF st) f cdv A outer s H E).nox (jo st) F)(hn_:N.length=n_:=by rfl):
  c9 P w K mg base CX0 (k+1) f fd ps (fX ⟨K,c⟩ ps.length (ie n_ F)):=by
 subst hn_;refine Fn.ok S (λvs H Q E q_=>by obtain⟨Hf,ds,o,o',d,l,fp,vs1,U,s0,ro,n,hf,r,hn,_⟩:=q_;rw[U,cp,<- r.length];lia) λcdv A outer s H vs Q E hr q_=>?_;obtain⟨Hf,ds,o,o',d,l,fp,vs1,U,s0,ro,n,hf,r,hn,e,kq⟩:=q_;refine⟨_,h cdv A outer s H E hr,?_⟩;subst U;unfold ie at e
 cases M:F (rk N.length l ds o)with
 |none=>rw[M]at e;cases e
 |some z=>
  rw[M,aA]at e;refine⟨Hf,gM H fp,Hf,_,z,au.startMT s0 ro n hf r,M,?_⟩
  have fin:∀(ρ:LS) (d':D),(n9 l ρ).map (λo'=>(o',d'))=aa (o',d)->∀v q Hf' H',au ⟨K,c⟩ Hf (gM H fp) Hf' H' q ρ->Rep ⟨K,c⟩ Hf' d' v->Q v H':=λρ d' e v q Hf' H' L rv=>by
   obtain⟨t,e1,e⟩:=d6 e;cases e;obtain⟨u,e2,u',fp',e3,rt,n',z'⟩:=L.slot (Nq e1);cases rt.1;exact kq v Hf' H' fp' L.ext rt.2 n' z' rv
  cases z with
  |nx ρ=>exact λq Hf' H' _ L=>fin ρ .non e .non q Hf' H' L rfl
  |rtS d' ρ=>exact λv q Hf' H' L rv=>fin ρ d' e v q Hf' H' L rv
  | _=>cases e
def au.treeBack{o o':O}{fp':LAd}(so:au G Hf0 H0 Hf H σ ρ)(es:ρ[i]?=aa (.deep o))(M:σ[i]?=aa (aa v))(r:OT G Hf H o v fp)(x:Ext Hf (gM H fp) Hf' H')(U:OT G Hf' H' o' v fp')(n':fp'.Nodup)(L:∀a∈fp',gM H fp a=ac/\Hf' a=ac):au G Hf0 H0 Hf' H' σ (ρ.set i (.deep o')):=by
 have s1 : au G Hf0 H0 Hf (gM H fp) σ (ρ.set i .no):=so.chg es M (λb y hb=>by
  by_cases q:b∈fp
  .exact .inl ⟨fp,r,q⟩
  .exact .inr (by rw[uv q];exact hb)) trivial λa p=>(p.calm rfl).elim
 have s2:=s1.setNew (i:=i) (u:=v) (s:=.deep o') x ⟨v,fp',rfl,U,n',λa ha=>⟨s1.ext.h.free (L a ha).1,(L a ha).2⟩⟩ λa p=>by
  obtain⟨g,r2,ha⟩:=p;have:=OT.funM o' v fp' g U r2;subst this;exact(L a ha).1
 rw[rf M,set_set]at s2;exact s2
abbrev O.isIns(cn fl:Str):O->Bool
 |.ins c ns _=>decide (c=cn) && !ns.contains fl
 | _=>ae
def E5{cn fl:Str}{o:O}(h:o.isIns cn fl=ab):∃ns os,o=.ins cn ns os/\ns.contains fl=ae:=by
 cases o with
 |ins c ns os=>
  replace h:(decide (c=cn) && !ns.contains fl)=ab:=h;rw[cx,decide_eq_true_eq,Bool.not_eq_true']at h;obtain⟨e,h⟩:=h;subst e
  exact⟨ns,os,rfl,h⟩
 | _=>cases h
abbrev gj(i:Nat)(cn fl:Str)(m:MTf)(f:Xa):Xe:=λρ=>match ρ[i]? with
 |some (.deep (.at _ o0))=>if o0.isIns cn fl then (f ρ).bind λp=>match p.2[i]? with
  |some (.deep (.at l o))=>(m l p.1 o).map λq=>(q.2,p.2.set i (.deep (.at l q.1)))
  | _=>ac else ac
 | _=>ac
open Classical in
abbrev pR(i:Nat)(cn fl:Str)(m:MTf)(f:Xa):Xe:=λρ=>match ρ[i]? with
 |some (.deep o0)=>if o0.isIns cn fl then (f ρ).bind λp=>match p.2[i]? with
  |some (.deep (.ins c' ns os))=>if h:∃q,∀l,m l p.1 (.ins c' ns os)=aa q then aa (h.choose.2,p.2.set i (.deep h.choose.1)) else ac
  | _=>ac else ac
 | _=>ac
variable{fa:Xa}{m:MTf}{Q:VK}{t:TA}
def E6(cn:Str)(ht:∀σ H Q,yN (Gx c X) fa σ H Q->t σ H Q)(hn:∀ρ ds ρ',fa ρ=aa (ds,ρ')->1+ds.length=ps.length)(q_:tDX (Gx c X) (gj i cn fl m fa) σ H Q):tj (c cn) fl (fX (Gx c X) ps.length m) [] E0 (di i) t σ H Q:=by
 obtain⟨Hf0,H0,Hf,ρ,d,ρ',st,L,kq⟩:=q_;unfold gj at L;split at L
 .rename_i l0 o0 es0;split at L
  .rename_i hi;obtain⟨ns,os,rfl,hno⟩:=E5 hi;obtain⟨pp,e1,L⟩:=be L;obtain⟨ds,hI⟩:=pp;dsimp only at L;split at L
   .rename_i l o1 U;obtain⟨q,e2,L⟩:=d6 L;cases L;obtain⟨u,eu,u',fp,e3,rt,n,z⟩:=st.slot es0;subst e3;obtain⟨el,a,dx,vs,fs,ea,ha,hz,rs,efp⟩:=rt;subst el;cases ea;refine⟨_,eu,l0,dx,ns.zip vs,rfl,ha,px hno,ht _ _ _ ⟨Hf0,H0,Hf,ρ,ds,hI,st,e1,λus Hf' H' f1 M r=>?_⟩⟩;dsimp only;rw[cB];obtain⟨w,ew,w',gp,e4,rt1,n1,z1⟩:=M.slot U;subst e4;rw[eu]at ew;cases ew;obtain⟨el2,rt2⟩:=rt1;cases el2;exact⟨Hf',ds,o1,q.1,q.2,l0,gp,us,rfl,M.sub,rt2,n1,λa ha=>(z1 a ha).2,r,hn _ _ _ e1,e2,λv h9 H3 fp3 x3 r3 n3 z3 rv=>kq v h9 H3 (f1.trans x3.f) (M.treeBack U eu ⟨rfl,rt2⟩ x3 ⟨rfl,r3⟩ n3 z3) rv⟩
   .cases L
  .cases L
 .cases L
def Nr(cn:Str)(ht:∀σ H Q,yN (Gx c X) fa σ H Q->t σ H Q)(hn:∀ρ ds ρ',fa ρ=aa (ds,ρ')->1+ds.length=ps.length)(q_:tDX (Gx c X) (pR i cn fl m fa) σ H Q):tj (c cn) fl (fX (Gx c X) ps.length m) [] E0 (di i) t σ H Q:=by
 obtain⟨Hf0,H0,Hf,ρ,d,ρ',st,L,kq⟩:=q_;unfold pR at L;split at L
 .rename_i o0 es0;split at L
  .rename_i hi;obtain⟨ns,os,rfl,hno⟩:=E5 hi;obtain⟨pp,e1,L⟩:=be L;obtain⟨ds,hI⟩:=pp;dsimp only at L;split at L
   .rename_i c' ns' os' U;split at L
    .rename_i hq;have e2:=hq.choose_spec;generalize hq.choose=q at L e2;cases L;obtain⟨u,eu,u',fp,e3,rt,n,z⟩:=st.slot es0;subst e3;obtain⟨a,dx,vs,fs,ea,ha,hz,rs,efp⟩:=rt;subst ea;refine⟨_,eu,a,dx,ns.zip vs,rfl,ha,px hno,ht _ _ _ ⟨Hf0,H0,Hf,ρ,ds,hI,st,e1,λus Hf' H' f1 M r=>?_⟩⟩;dsimp only;rw[cB];obtain⟨w,ew,w',gp,e4,rt1,n1,z1⟩:=M.slot U;subst e4;rw[eu]at ew;cases ew;exact⟨Hf',ds,.ins c' ns' os',q.1,q.2,a,gp,us,rfl,M.sub,rt1,n1,λa ha=>(z1 a ha).2,r,hn _ _ _ e1,e2 a,λv h9 H3 fp3 x3 r3 n3 z3 rv=>kq v h9 H3 (f1.trans x3.f) (M.treeBack U eu rt1 x3 r3 n3 z3) rv⟩
    .cases L
   .cases L
  .cases L
 .cases L
def pS{o:Expr}(cn:Str)(ho:PE X o (di i))(pk:Pm X.prog X.w X.K X.mg X.base CX0 k (c cn) fl (f,fd) ps (fX (Gx c X) ps.length m))(M:bF k0 X.A)(ha:DAX c X (e::es) fa)(hl:(e::es).length+1=ps.length:=by rfl)(U:StE X e es:=by rfl)(L:BkE X pos es:=by rfl)(ht:eval (.Call (.Attribute o fl apos) (e::es) [] pos) X.env=(do
   let ov <- eval o X.env
   iI apos.atName
   let (f,first) <- fG [ov] (jX ov fl pl)
   l6 pos f first (cr pos (aO (e::es) X.env)) (jY pos (jW [] X.env))):=by rfl)(q:k<=k0:=by decide):
  DX c X (.Call (.Attribute o fl apos) (e::es) [] pos) (gj i cn fl m fa):=PE.imp (xf ho pk.c pk.m pk.ok (M.mono q) pk.b .nil iQ ha.pa U L ht) λσ H Q q_=>E6 cn (λ_ _ _ h=>h) (λρ ds ρ' h=>by have:=ha.len ρ ds ρ' h;lia) q_
def yV{o:Expr}(cn:Str)(ho:PE X o (di i))(pk:Pm X.prog X.w X.K X.mg X.base CX0 k (c cn) fl (f,fd) ps (fX (Gx c X) ps.length m))(L:bF k0 X.A)(hl:1=ps.length:=by rfl)(ht:eval (.Call (.Attribute o fl apos) [] [] pos) X.env=(do
   let ov <- eval o X.env
   iI apos.atName
   let (f,first) <- fG [ov] (jX ov fl pl)
   l6 pos f first (cr pos (aO [] X.env)) (jY pos (jW [] X.env))):=by rfl)(q:k<=k0:=by decide):
  DX c X (.Call (.Attribute o fl apos) [] [] pos) (gj i cn fl m ic):=PE.imp (xg ho pk.c pk.m pk.ok (L.mono q) pk.b .nil iQ ht) λσ H Q M=>E6 cn (λσ H Q M=>by obtain⟨Hf0,H0,Hf,ρ,ds,ρ',st,U,k⟩:=M;cases U;exact k [] Hf H (av.refl _) st rfl) (λρ ds ρ' h=>by cases h;exact hl) M
def Nt{o:Expr}(cn:Str)(ho:PE X o (di i))(pk:Pm X.prog X.w X.K X.mg X.base CX0 k (c cn) fl (f,fd) ps (fX (Gx c X) ps.length m))(L:bF k0 X.A)(hl:1=ps.length:=by rfl)(ht:eval (.Call (.Attribute o fl apos) [] [] pos) X.env=(do
   let ov <- eval o X.env
   iI apos.atName
   let (f,first) <- fG [ov] (jX ov fl pl)
   l6 pos f first (cr pos (aO [] X.env)) (jY pos (jW [] X.env))):=by rfl)(q:k<=k0:=by decide):
  DX c X (.Call (.Attribute o fl apos) [] [] pos) (pR i cn fl m ic):=PE.imp (xg ho pk.c pk.m pk.ok (L.mono q) pk.b .nil iQ ht) λσ H Q M=>Nr cn (λσ H Q M=>by obtain⟨Hf0,H0,Hf,ρ,ds,ρ',st,U,k⟩:=M;cases U;exact k [] Hf H (av.refl _) st rfl) (λρ ds ρ' h=>by cases h;exact hl) M
open Classical in
abbrev pT(cn:Str)(m:MTf)(fa:MF2)(ρ:LS):Option O:=(fa ρ).bind λds=>if h:∃o,∀l,m l ds (.ins cn [] [])=aa (o,.non) then aa h.choose else ac
variable{bb:Bool}{fa:MF2}
def Nu{cn:Str}(hC:C=G.cl cn)(ht:∀σ H Q,tDA G fa σ H Q->t σ H Q)(hn:∀ρ ds,fa ρ=aa ds->1+ds.length=ps.length)(q_:tDZ G bb (pT cn m fa) σ H Q):Cu C (fX G ps.length m) [] E0 t σ H Q:=by
 obtain⟨Hf0,H0,Hf,ρ,o,st,L,kq⟩:=q_;unfold pT at L;obtain⟨ds,e1,L⟩:=be L;split at L
 .rename_i hq;have e2:=hq.choose_spec;generalize hq.choose=o' at L e2;cases L;refine ht _ _ _ ⟨Hf0,H0,Hf,ρ,ds,st,e1,λvs eD H1 M r y dx ny ndx nex=>?_⟩
  try dsimp only
  rw[cB];subst hC;have hy:(upd H1 dx (.own y)) y=ac:=by rw[aJ nex.symm];exact ny
  have s1:av H1 (upd H1 dx (.own y)):=bP ndx;have s2:=s1.trans (bP (o:=.ins (G.cl cn) dx []) hy)
  have s3:av H1 (gM (upd (upd H1 dx (.own y)) y (.ins (G.cl cn) dx [])) [y]):=λb u q=>by
   rw[uv (λz=>fK q ny (dF.mp z))];exact s2 b u q
  refine⟨eD,ds,.ins cn [] [],o,.non,y,[y],vs,rfl,M.s.trans s2,⟨y,dx,[],[],rfl,aZ,rfl,⟨rfl,rfl⟩,rfl⟩,cZ.mpr ⟨cG,f6⟩,λa ha=>by rw[dF.mp ha];exact M.s.free ny,r,hn ρ ds e1,e2 y,λv dr H2 fp2 U r2 n2 z2 rv=>⟨rv,?_⟩⟩;have x3:Ext eD H1 dr H2:=⟨U.f,s3.trans U.h,U.s,λl u q t=>U.n l u (s3 l u q) t⟩;exact kq _ fp2 dr H2 (M.trans x3) r2 ⟨n2,λa ha=>⟨yH st.ext.h (M.h.free (s3.free (z2 a ha).1)),(z2 a ha).2⟩⟩
 .cases L
variable{p:Pos}
def Nv(cn:Str)(M:Mk X.K (c cn) f)(F:c9 X.prog X.w X.K X.mg X.base CX0 k f fd ps (fX (Gx c X) ps.length m))(hr:bF (k+1) X.A)(hg:Gl X x)(hm:X.mg x=aa (.ref (c cn)))(U:gB X.K fd ps [])(ha:DA c X (e::es) fa)
 (hl:(e::es).length+1=ps.length:=by rfl)(q:NDb x:=by decide)(he:StE X e es:=by rfl)(L:BkE X pos es:=by rfl):
  DZ c X bb (.Call (.Name x p) (e::es) [] pos) (pT cn m fa):=PE.imp (Cv M F hr hg hm U .nil iQ ha.pa q he L) λσ H Q q_=>Nu rfl (λ_ _ _ h=>h) (λρ ds h=>by have:=ha.len ρ ds h;lia) q_
def hu1{u:Nat}(h:u+64<cLine):u+1<cLine:=oy (Nat.add_le_add_left (by decide) u) h
def Nw{f:MF2}(h:DL c X e f):DIe c X tg e f:=PI.imp (wV h) λσ H R M=>by
 obtain⟨Hf0,H0,Hf,ρ,ds,st,L,k⟩:=M;exact⟨Hf0,H0,Hf,ρ,ds,st,L,λl vs Hf' H' x q r=>⟨l,rfl,⟨vs,SqL.of q⟩,k _ Hf' H' x (Dv (SqL.of q) r)⟩⟩
abbrev E7(f:MF2)(ρ:LS):OLD:=(f ρ).map (iB 0)
variable{a:Expr}
def Nx{f:MF2}(hg:Gl X "enumerate")(hm:X.mg "enumerate"=ac)(ha:DL c X a f)(hs:aO [a] X.env=[(ae,eval a X.env)]:=by rfl):
  DIe c X (.Tuple j0 kx pw) (.Call (.Name "enumerate" p) [a] [] pos) (E7 f):=PI.imp (D0 hg hm (dz ha c8 hs) hs) λσ H R q_=>by
 obtain⟨Hf0,H0,Hf,ρ,ds,st,M,k⟩:=q_;obtain⟨xs,e1,M⟩:=d6 M;subst M;refine⟨Hf0,H0,Hf,ρ,xs,st,e1,λl vs Hf' H' x hl r=>⟨l,rfl,⟨vs,SqL.of hl⟩,k _ Hf' H' x λdr H2 L i=>?_⟩⟩;have U:SqL X.K H2 l vs:=SqL.of (L.h _ _ hl);have h1:=r.length;refine⟨λd q=>?_,λei=>⟨vs,U,by rw[x6]at ei;lia⟩⟩;rw[x8]at q;obtain⟨y,ey,q⟩:=d6 q;subst q;obtain⟨u,eu,ru⟩:=r.get ey;refine⟨⟨vs,u,U,eu⟩,λz H3 yz=>?_⟩;obtain⟨pp,z1,ez,hp,eh,y1⟩:=yz;subst ez eh;have a1:=y1 vs U;rw[eu]at a1;cases a1;exact⟨upd dr pp (.tup [.int i,u]),Ext.new L.s hp,pp,[.int i,u],rfl,aZ,.cons (by rw[lV];rfl) (.cons (ru.up (L.f.trans (bP (L.s.free hp)))) .nil)⟩
def E8:DZ c X bb (.Dict [] [] pos) (λ_=>aa (.dT [] [])):=PE.imp J6 λσ H Q M=>by
 obtain⟨Hf0,H0,Hf,ρ,o,st,L,k⟩:=M;cases L;intro l q;exact k _ [l] Hf _ (Ext.tmp st.sub q) ⟨l,[],[],rfl,aZ,rfl,⟨rfl,rfl⟩,rfl⟩ (.one (yH st.ext.h q) (st.sub.free q))
end L2
namespace HT
open List
open PySem PyProof.Rows
open PySem.SeqAt
open PySem.AutoSeq1 (wpAny_loadPart')
open PySem.MeetsSeq PySem.MeetsSeq2 PySem.MeetsSeq3
def Ny(l:Addr)(its:Array Value)(n:Nat)(x:Value)(f:Value->Bool)(j:Nat)(u:j<its.size)(q:f its[j]=ab)(hz:its.size<=aR)(k:Nat):
  ∀i:Nat,j-i=k->i<=j->(∀m (hm:m<its.size),i<=m->m<j->f its[m]=ae)->Meets (dY.«list.remove.loop» ⟨[.ref l,x,bE i],[]⟩)
   (λA R s=>s.heap.get? l=aa {cls:=.type "list",dict:=ac,data:=.seq its n,slots:=#[]}/\(∀y,y∈its->EqAt A.in1 s y x (f y))/\R (.ok (.ret .none)) {s with heap:=s.heap.update l (gb λxs=>xs.eraseIdxIfInBounds j)}):=by
 induction k with
 |zero=>
  intro i z p b prog w A R s h;obtain⟨B,g,d,E,os⟩:=s;obtain⟨c,e,h⟩:=h;obtain rfl:i=j:=by lia
  wp_walk using sI c
  rw[show its[((i:Nat):Int).toNat]?=aa its[i] by simp[u]];refine am (e _ (Array.getElem_mem u) prog w _ _ ?_);rw[q];have r:(its.eraseIdxIfInBounds i).size<=aR+1:=c3 (size_erased its _) (Nat.le_succ_of_le hz)
  wp_walk using (sN c rfl (hz:=hz) (_hz':=r)),sI c
  simpa using h
 |succ k C=>
  intro i z p b prog w A R s h;obtain⟨B,g,d,E,os⟩:=s;obtain⟨c,e,h⟩:=h;have a:i<its.size:=by lia
  wp_walk using sI c
  rw[show its[((i:Nat):Int).toNat]?=aa its[i] by simp[a]];refine am (e _ (Array.getElem_mem a) prog w _ _ ?_);rw[b i a (aL _) (by lia)]
  wp_walk
  rw[show((i:Int)+1)=((i+1:Nat):Int) by push_cast;rfl]
  exact ⟨mW plain_remove_loop _,k7 entry_remove_loop (by
   rw[m9 plain_remove_loop _];exact C (i+1) (by lia) (by lia) (λm hm G v=>b m hm (by lia) v) prog w A R _ ⟨c,e,h⟩)⟩
def remAt(l:Addr)(its:Array Value)(n:Nat)(x:Value)(f:Value->Bool)(j:Nat)(p:j<its.size)(a:f its[j]=ab)(b:∀m (hm:m<its.size),m<j->f its[m]=ae)(hz:its.size<=aR):Meets (dY.«list.remove» ⟨[.ref l,x],[]⟩)
   (λA R s=>s.heap.get? l=aa {cls:=.type "list",dict:=ac,data:=.seq its n,slots:=#[]}/\(∀y,y∈its->EqAt A.in1 s y x (f y))/\R (.ok (.ret .none)) {s with heap:=s.heap.update l (gb λxs=>xs.eraseIdxIfInBounds j)}):=by
 intro prog w A R s h;obtain⟨q,g,d,r,os⟩:=s;obtain⟨c,i,h⟩:=h
 wp_walk using sI c
 exact ⟨mW plain_remove_loop _,k7 entry_remove_loop (by
  rw[m9 plain_remove_loop _];exact Ny l its n x f j p a hz _ 0 rfl (c4 _) (λm hm _ e=>b m hm e) prog w A R _ ⟨c,i,h⟩)⟩
end HT
namespace L2
open List
open PySem PySem.Spec PyProof.Rows
abbrev E9(G:Gc):V->List V->Hp->VK->Prop:=λa vs H Q=>∃Hf l us ds x w,a=.ref l/\vs=[w]/\av Hf H/\H l=aa (.lst us)/\ao G Hf ds us/\Rep G Hf x w/\fW x ds=aa ab/\Q .non (upd H l (.lst (us.eraseIdx (ds.findIdx (isE x)))))
abbrev O.remd(x:D)(o:O):Option O:=o.items.bind λds=>if fW x ds=aa ab then aa (.lst ((ds.eraseIdx (ds.findIdx (isE x))).map .fz)) else ac
abbrev uE(i:Nat)(p:Xp)(f:MF1)(ρ:LS):Option Fl:=(p ρ).bind λq=>(f ρ).bind λd=>(q.1.remd d).map λo2=>.nx (ρ.set i (.deep (q.2 o2)))
variable{c:Str->Addr}{X:Cx}
def Nz(hu:X.A.units+64<cLine):MtM X "list.remove" (E9 (Gx c X)):=by
 rintro pins s σ H x xs v us Q I rx rv ⟨Hf,l,vs,ds,z,w,rfl,rfl,E,q,rs,r2,a,k⟩;cases rx;obtain⟨u,rfl,ru⟩:=rv.one;obtain⟨z1,its,n,p,J,e0⟩:=I.lstM q;obtain⟨f,G,ha⟩:=uh (A:=X.A.in1) I (by rw[oI];lia) (r2.up E) ru (rs.up E) p a;obtain⟨U,Y⟩:=ER a
 have same:∀(m:Nat) (hm:m<its.length),f its[m]=isE z (ds.getD m .non):=λm hm=>by
  have j:m<ds.length:=by rw[rs.length,J];exact hm
  obtain⟨v1,h,C⟩:=rs.get (cj j);obtain⟨u1,b,r⟩:=p.get h;rw[cj hm]at b;cases b;obtain⟨_,d',v',r',B,h'⟩:=G its[m] (kL hm);have N:=aE.inj B r;subst N;obtain⟨L,d⟩:=U ds[m] (kL j);have M:=ug 19 r' (C.up E) h' d;rw[bD,cj j];show _=isE z ds[m];unfold isE;rw[d,M]
  cases L <;> rfl
 have i:ds.findIdx (isE z)<ds.length:=findIdx_lt_length_of_exists (any_eq_true.mp Y);have e:ds.findIdx (isE z)<its.length:=by rw[<- J,<- rs.length];exact i
 refine call_meets F.slot_list_remove ⟨_,e0,rfl⟩ F.entry_list_remove (F.args_list_remove_2 _ _) (HT.remAt l its.toArray n u f (ds.findIdx (isE z)) (by rw[size_toArray];exact e) ?_ ?_ (by rw[size_toArray];lia)) ⟨e0,λy T=>(G y (by simpa using T)).1,?_⟩
 .rw[List.getElem_toArray,same _ e,bD,cj i];exact findIdx_getElem
 .intro m hm g;rw[List.getElem_toArray,same m (by rw[size_toArray]at hm;exact hm),bD,cj (lU g i)];have:=not_of_lt_findIdx g
  simpa using this
 .refine⟨.non,_,I.lset (its':=its.eraseIdx (ds.findIdx (isE z))) q e0 ?_ (p.eraseIdx _) ?_,rfl,k⟩
  .show its.toArray.eraseIdxIfInBounds _=(its.eraseIdx _).toArray;rw[eraseIdxIfInBounds_toArray]
  .have:=xl vs (ds.findIdx (isE z));lia
variable{st:Stmt}{i:Nat}{p:Xp}
def NA{f:MF1}(h:PS X st (nz (tBM X.K "list" (E9 (Gx c X)) (tDP (Gx c X) i p) (me (tD (Gx c X) f) jm)))):DS c X st (uE i p f):=PS.imp h λE σ H q_=>by
 obtain⟨Hf0,H0,Hf,ρ,o,C,g,Y⟩:=q_;obtain⟨q,M,g⟩:=be g;obtain⟨d,N,g⟩:=be g;obtain⟨o2,y,g⟩:=d6 g;subst g;obtain⟨ds,Q,y⟩:=be (show q.1.items.bind _=_ from y);split at y
 .rename_i A;cases y;refine⟨Hf0,H0,Hf,ρ,q.1,q.2,C,M,λt v fp v1 f1 B H1 es T x rt F=>?_⟩;have J:=F.r;rw[pP Q]at J;obtain⟨l,us,fs,rfl,I,rs,j⟩:=J;obtain⟨L,rfl⟩:=rs.unfz;refine⟨.inl ⟨rfl,_,SqL.of I⟩,Hf0,H0,B,ρ,d,C.step x,N,λw m H2 e r2=>?_⟩;refine⟨m,l,us,ds,d,w,rfl,rfl,e.s,e.h _ _ I,L.up e.f,r2,A,Y σ m _ (x.trans e).f ?_⟩;have G:=F.up e.f e.h
  have:=C.foc es T (rt.up e.f e.h) (x.trans e) G (H2:=upd H2 l (.lst (us.eraseIdx (ds.findIdx (isE d))))) (λb u U hn=>by rw[aJ (λz=>hn (by rw[j,z];exact aN))];exact U)
   (o2:=.lst ((ds.eraseIdx (ds.findIdx (isE d))).map .fz)) (f2:=[l]) ⟨l,_,[],rfl,aZ,OTs.fz ((L.up e.f).erase _),rfl⟩ (by rw[<- j];exact G.n) λa ha=>.inl (by rw[j];exact ha)
  exact this
 .cases y
abbrev pU(cn f:Str)(m:LD->OLD)(g:MF1)(e:MF2)(ρ:LS):OLD:=(g ρ).bind λd=>match d with
 |.ins a ns ds=>if a=cn/\ns.contains f=ae then (e ρ).bind λb=>(m (.ins a ns ds::b)).bind λrs=>if rs.all D.flat then aa rs else ac else ac
 | _=>ac
abbrev Fa:Fl->Option (LD ⊕ D)
 |.rtO ds=>aa (.inl ds)
 |.rt d=>if d.scalar then aa (.inr d) else ac
 | _=>ac
abbrev uF(n:Nat)(F:MF3)(ds:LD):Option (LD ⊕ D):=(F (eU n ds)).bind Fa
abbrev spN(G:Gc)(n:Nat)(m:LD->Option (LD ⊕ D)):Sp:=λvs H Q _=>∃Hf ds r,av Hf H/\ao G Hf ds vs/\ds.length=n/\m ds=aa r/\(∀rs,r=.inl rs->∀l us Hf' H',Ext Hf H Hf' H'->H l=ac->Hf' l=ac->H' l=aa (.lst us)->ao G Hf' rs us->Q (.ref l) H') /\
 ∀d,r=.inr d->d.scalar=ab/\∀v Hf' H',Ext Hf H Hf' H'->Rep G Hf' d v->Q v H'
variable{P:cH}{w:World}{K:aV}{mg:MGT}{base:Heap}{x:Str}{f:Addr}{fd:eA}{ps:LSt}{k:Nat}{F:MF3}
def NB{j:Nat}{qual:Str}{N:LSt}(m:Fun K x qual st f fd)(S:aM N ps (aF st))
 (h:∀(cdv:Value) (A:cI) (outer:List Env) (s:ai) (H:Hp) (E:XK),bF k (A.deeper (gT qual (aF st) s.heap.objs.size f cdv))->DSs c (jn CX0 P w K mg base N qual (aF st) f cdv A outer s H E).nox (jo st) F)(a:N.length=j:=by rfl):
  c9 P w K mg base CX0 (k+1) f fd ps (spN ⟨K,c⟩ ps.length (uF j F)):=by
 subst a;refine m.ok S (λvs H Q E b=>by obtain⟨Hf,ds,d,l,r,g,_⟩:=b;rw[<- r.length];exact g) λcdv A outer s H vs Q E q b=>?_;obtain⟨Hf,ds,r,l,y,g,e,u,v⟩:=b;refine⟨_,h cdv A outer s H E q,?_⟩;unfold uF at e;obtain⟨o,n,e⟩:=be e;refine⟨Hf,H,Hf,_,o,au.start l y,n,?_⟩
 cases o with
 |rtO rs=>cases e;exact u rs rfl
 |rt d=>
  replace e:(if d.scalar then aa (j5 d) else ac)=aa r:=e;split at e
  .cases e;exact(v d rfl).2
  .cases e
 | _=>cases e
abbrev rm(m:LD->Option (LD ⊕ D))(f:MF2)(ρ:LS):OD:=(f ρ).bind λds=>(m ds).bind λr=>match r with
 |.inl rs=>if rs.all D.flat then aa (.lst rs) else ac
 |.inr d=>if d.scalar then aa d else ac
variable{e:Expr}{es:LEx}{p pos:Pos}{fa:MF2}{k0:Nat}
def NC{m:LD->Option (LD ⊕ D)}(pk:Pk X.prog X.w X.K X.mg X.base CX0 k x (f,fd) ps (spN (Gx c X) ps.length m))(I:bF k0 X.A)(ha:DAB c X (e::es) fa)(Y:(e::es).length=ps.length:=by rfl)(C:NDb x:=by decide)(T:StE X e es:=by rfl)(G:BkE X pos es:=by rfl)(E:k<=k0:=by decide)(U:Gl X x:=by first |rfl |exact glc rfl):
  DE c X (.Call (.Name x p) (e::es) [] pos) (rm m fa):=PE.imp (tm pk.ok (I.mono E) U pk.g pk.kp pk.b .nil iQ ha.pa C T G) λσ H Q q_=>by
 obtain⟨Hf0,H0,Hf,ρ,d,st,a,M⟩:=q_;unfold rm at a;obtain⟨ds,L,a⟩:=be a;obtain⟨r,N,a⟩:=be a;refine⟨Hf0,H0,Hf,ρ,ds,st,L,λvs Hf' H' x rv=>?_⟩;dsimp only;rw[cB];refine⟨H',ds,r,av.refl _,rv,(ha.len ρ ds L).trans Y,N,λrs B l us z H2 y hn hf j J=>?_,λd' B=>?_⟩
 .subst B;replace a:(if rs.all D.flat then aa (D.lst rs) else ac)=aa d:=a;split at a
  .rename_i u;cases a;have n:ki Hf' H2 l=ac:=by rw[qX (λvs q=>by rw[j]at q;cases q)];exact x.s.free hn
   have x3:=x.trans (EC x.s y.h);exact M _ (upd (ki Hf' H2) l (.lst us)) H2 (x3.fix (x.h.free hn) n j) ⟨l,us,rfl,aZ,((J.up y.s).flat u).up (bP n)⟩
  .cases a
 .subst B;replace a:(if d'.scalar then aa d' else ac)=aa d:=a;split at a
  .rename_i u;cases a;exact⟨u,λv z H2 y J=>M v Hf' H2 (x.trans (Ext.grow x.s y.h)) (J.sc u)⟩
  .cases a
variable{fl:Str}{apos:Pos}{fo:MF1}
def Fb{o:Expr}{m:LD->OLD}{pl:Sem Bool}(cn:Str)(ho:DB c X o fo)(pk:Pm X.prog X.w X.K X.mg X.base CX0 k (c cn) fl (f,fd) ps (spO (Gx c X) ps.length m))(L:bF k0 X.A)(ha:DAB c X (e::es) fa)(hl:(e::es).length+1=ps.length:=by rfl)(M:StE X e es:=by rfl)(J:BkE X pos es:=by rfl)(ht:eval (.Call (.Attribute o fl apos) (e::es) [] pos) X.env=(do
   let ov <- eval o X.env
   iI apos.atName
   let (f,first) <- fG [ov] (jX ov fl pl)
   l6 pos f first (cr pos (aO (e::es) X.env)) (jY pos (jW [] X.env))):=by rfl)(G:k<=k0:=by decide):
  DO c X (.Call (.Attribute o fl apos) (e::es) [] pos) (pU cn fl m fo fa):=PE.imp (xf ho pk.c pk.m pk.ok (L.mono G) pk.b .nil iQ ha.pa M J ht) λσ H Q q_=>by
 obtain⟨Hf0,H0,Hf,ρ,rs,st,g,kq⟩:=q_;unfold pU at g;obtain⟨d,e1,j⟩:=be g;clear g
 cases d with
 |ins B ns ds=>
  have g:(if B=cn/\ns.contains fl=ae then (fa ρ).bind λn=>(m (.ins B ns ds::n)).bind λrs=>if rs.all D.flat then aa rs else ac else ac)=aa rs:=j;clear j;split at g
  .rename_i E;obtain⟨C,I⟩:=E;subst C;obtain⟨n,T,j⟩:=be g;clear g;obtain⟨rs',e3,g⟩:=be j;clear j;split at g
   .rename_i hs;cases g;refine⟨Hf0,H0,Hf,ρ,_,st,e1,λv y H1 Y r=>?_⟩;obtain⟨a,dx,vs,ev,q,U,rr⟩:=id r;subst ev;refine⟨a,dx,ns.zip vs,rfl,q,px I,Hf0,H0,y,ρ,n,st.step Y,T,λws z H2 x2 r2=>?_⟩
    try dsimp only
    rw[cB];have x:=Y.trans x2;refine⟨H2,.ins B ns ds::n,_,av.refl _,.cons (r.up x2.h) r2,by rw[cp,ha.len ρ n T];exact hl,e3,λl us h9 N x3 hn hf u r3=>?_⟩;exact kq l us (ki z N) N (x.trans (EC x.s x3.h)) (x.h.free hn) (by rw[qX (λvs q=>by rw[u]at q;cases q)];exact x.s.free hn) u ((r3.up x3.s).flat hs)
   .cases g
  .cases g
 | _=>cases j
abbrev mF(w pr k:Nat)(js:LN)(g:D->LS->Option LS)(ft:MF4)(fe:MF1):LD->LS->LD->Option (LS×LD)
 | [],ρ,L=>aa (ρ,L)
 |b::bs,ρ,L=>if L.length<=16777216 then (fj (fR g ft fe (eB k js ((ρ.set pr (.im b)).set w .no))) L).bind λa=>mF w pr k js g ft fe bs (ρ.set pr (.im b)) a else ac
abbrev pV(w pr:Nat)(a:MF4)(j h:MF2)(k:Nat)(js:LN)(g:D->LS->Option LS)(ft:MF4)(fe:MF1)(ρ:LS):Option Fl:=
 (a ρ).bind λb=>(h (ρ.set w .no)).bind λbs=>if b=!bs.isEmpty then (if b then j ρ else aa []).bind λd=>(mF w pr k js g ft fe bs ρ d).map λp=>.nx (p.1.set w (.own p.2)) else ac
variable{G:Gc}{Hf0 H0 Hf H:Hp}{σ:St}{ρ:LS}{v:V}
def au.setAny(h:au G Hf0 H0 Hf H σ ρ):au G Hf0 H0 Hf H (σ.set i (aa v)) (ρ.set i .no):=h.setNew (Ext.refl h.sub) (s:=.no) trivial λa p=>(p.calm rfl).elim
variable{w pr:Nat}{js:LN}{fb:MF2}{g:D->LS->Option LS}{ft:MF4}{fe:MF1}{hI:LS}
def Fc(hG:G.K=X.K)(hj:js.Nodup)(hk:∀d ρ ρ' i,g d ρ=aa ρ'->k<=i->ρ'[i]?=ρ[i]?)(N:∀d ρ ρ',g d ρ=aa ρ'->ρ'.length=ρ.length)(T:pr≠w){bs L0 L1:LD}{E:j6}{a0:Addr}{B:List V}
 (st:au G Hf0 H0 Hf H σ (ρ.set w .no))(hw:w<ρ.length)(ew:σ[w]?=aa (aa (.ref a0)))(ha:H a0=aa (.lst B))(r0:ao G Hf L0 B)(hb:fb (ρ.set w .no)=aa bs)(fr:bs=[]->au G Hf0 H0 Hf H σ (ρ.set w (.own L0)))
 (el:mF w pr k js g ft fe bs ρ L0=aa (hI,L1))(kq:∀b Hf' H',av Hf Hf'->au G Hf0 H0 Hf' H' b (hI.set w (.own L1))->E.nx b H'):
  wW (tDI G fb) (gX pr) (iP (oX k js (wU X.K (di w)) (tDG G g) (tDT G ft) (tD G fe)) (gX w)) E σ H:=by
 refine⟨Hf0,H0,Hf,_,bs,st,hb,λJ r H1 Y it=>?_⟩
 refine⟨λi m b H'=>m=bs.length-i/\i<=bs.length/\∃Hf' ρ' L a vs,au G Hf0 H0 Hf' H' b (ρ'.set w .no)/\w<ρ'.length/\b[w]?=aa (aa (.ref a))/\H' a=aa (.lst vs)/\ao G Hf' L vs/\av r Hf'/\mF w pr k js g ft fe (bs.drop i) ρ' L=aa (hI,L1)/\(i=bs.length->au G Hf0 H0 Hf' H' b (ρ'.set w (.own L))),
  ⟨bs.length,rfl,c4 _,r,ρ,L0,a0,B,st.step Y,hw,ew,Y.h _ _ ha,r0.up Y.f,av.refl _,el,λe=>(fr (qh.mp e.symm)).step Y⟩,?_⟩
 rintro i m b H' ⟨rfl,hi,Hf',ρ',L,a,vs,U,hw',I,M,r',s1,j,own⟩;obtain⟨it1,it2⟩:=it Hf' H' s1 U.sub i
 by_cases Q:i<bs.length
 .obtain⟨d,ed,edr⟩:=xO Q;obtain⟨go,yl⟩:=it1 d ed;rw[edr]at j;unfold mF at j;split at j
  .rename_i hz;obtain⟨L',ec,el2⟩:=be j;refine .inr ⟨go,λn H2=>bs.length-(i+1)=bs.length-(i+1)/\i+1<=bs.length/\∃Hf' ρ' L a vs,au G Hf0 H0 Hf' H2 n (ρ'.set w .no)/\w<ρ'.length/\n[w]?=aa (aa (.ref a))/\H2 a=aa (.lst vs)/\ao G Hf' L vs/\av r Hf'/\mF w pr k js g ft fe (bs.drop (i+1)) ρ' L=aa (hI,L1)/\(i+1=bs.length->au G Hf0 H0 Hf' H2 n (ρ'.set w (.own L))),λn H2 z=>⟨bs.length-(i+1),by lia,z⟩,λx H2 y=>?_⟩;obtain⟨C,x2,rx⟩:=yl x H2 y
   have u:au G Hf0 H0 C H2 (b.set pr (aa x)) ((ρ'.set pr (.im d)).set w .no):=by
    have:=(U.step x2).setIm (i:=pr) (d:=d) rx;rw[set_comm _ _ T.symm]at this;exact this
   have ew2:(b.set pr (aa x))[w]?=aa (aa (.ref a)):=by rw[kH T];exact I
   refine Dw hj hk N u (ds:=L) (λR q=>⟨.ref a,ew2,a,rfl,⟨vs,SqL.of (x2.h _ _ M)⟩,?_⟩) hz ec λl us h9 H3 x3 hn hf hl rl=>?_
   .have:=q (Itl G.K a) C H2 (Ext.refl u.sub) (Dv (SqL.of (x2.h _ _ M)) (r'.up x2.f));rw[hG]at this;exact this
   .have A:=u.setOwn (i:=w) (l:=l) (s:=.own L') rfl x3 hn hf ⟨us,hl,rl⟩;rw[set_set]at A;have hsl:w<(b.set pr (aa x)).length:=by rw[jc];exact(dq.mp I).1
    refine⟨rfl,Q,h9,ρ'.set pr (.im d),L',l,us,?_,by rw[jc];exact hw',jR hsl,hl,rl,(s1.trans x2.f).trans x3.f,el2,λ_=>A⟩;have:=A.setNo (i:=w);rw[set_set]at this;exact this
  .cases j
 .have ei:i=bs.length:=by lia
  subst ei;rw[drop_eq_nil_of_le (aL _)]at j;cases j;exact .inl ⟨it2 rfl,kq b Hf' H' (Y.f.trans s1) (own rfl)⟩
variable{fg:MF2}{ft0:MF4}
def ND{s1 s2:Stmt}{rest:List Stmt}(hj:js.Nodup)(hk:∀d ρ ρ' i,g d ρ=aa ρ'->k<=i->ρ'[i]?=ρ[i]?)(A:∀d ρ ρ',g d ρ=aa ρ'->ρ'.length=ρ.length)(M:pr≠w)
 (h1:PS X s1 (iP (tIf (tDT (Gx c X) ft0) (tDL (Gx c X) fg) (w9 jm)) (gX w)))(h2:PS X s2 (wW (tDI (Gx c X) fb) (gX pr) (iP (oX k js (wU X.K (di w)) (tDG (Gx c X) g) (tDT (Gx c X) ft) (tD (Gx c X) fe)) (gX w))))(hr:DSs c X rest F):
  DSs c X (s1::s2::rest) (λρ=>if w<ρ.length then ap (pV w pr ft0 fg fb k js g ft fe) F ρ else ac):=PSs.imp (sW h1 (sW h2 hr)) λE σ H q_=>by
 obtain⟨Hf0,H0,Hf,ρ,o,Q,y,I⟩:=q_;dsimp only at y;split at y
 .rename_i hw;obtain⟨r,m,y⟩:=be (show(pV w pr ft0 fg fb k js g ft fe ρ).bind _=_ from y);unfold pV at m;obtain⟨b,e2,m⟩:=be m;obtain⟨bs,e3,m⟩:=be m;split at m
  .rename_i hb;obtain⟨L0,U,m⟩:=be m;obtain⟨p,e5,m⟩:=d6 m;subst m;replace y:F (p.1.set w (.own p.2))=aa o:=y;refine⟨Hf0,H0,Hf,ρ,b,Q,e2,λB H1 J=>?_⟩;have N:w<σ.length:=by rw[Q.len];exact hw
   have fin:∀{C:Hp},av Hf C->∀j Hf' H',av C Hf'->au (Gx c X) Hf0 H0 Hf' H' j (p.1.set w (.own p.2))->tDS (Gx c X) F E j H':=λs0 j Hf' H' s1 q=>⟨Hf0,H0,Hf',_,o,q,y,by
    cases o with
    |nx ρ=>exact λu n L s2 h=>I u n L ((s0.trans s1).trans s2) h
    |bk ρ=>exact λu n L s2 h=>I u n L ((s0.trans s1).trans s2) h
    |ct ρ=>exact λu n L s2 h=>I u n L ((s0.trans s1).trans s2) h
    |rt d=>exact I
    |rtO d=>exact I
    |rtS d ρ=>exact I
    |rtT t=>exact I⟩
   cases b with
   |true=>
    refine xq ?_;rw[if_pos rfl]at U;refine⟨Hf0,H0,B,ρ,L0,Q.step J,U,λa vs C H2 Y ha r=>?_⟩
    refine Fc (E:={E with nx:=tDS (Gx c X) F E}) rfl hj hk A M ((Q.step J).step Y).setAny hw (jR N) ha r e3 (λz=>by rw[z]at hb;cases hb) e5 (λj Hf' H' s1 q=>fin (J.f.trans Y.f) j Hf' H' s1 q)
   |false=>
    refine xp ?_;rw[if_neg ba]at U;cases U;refine⟨c4 _,λl hl=>?_⟩;have Y:Ext B H1 B (upd H1 l (.lst [])):=Ext.tmp J.s hl;have h:=(Q.step J).setOwn (i:=w) (l:=l) (s:=.own []) rfl Y hl (J.s.free hl) ⟨[],aZ,.nil⟩;have T:=h.setNo (i:=w);rw[set_set]at T
    exact Fc (E:={E with nx:=tDS (Gx c X) F E}) rfl hj hk A M T hw (jR N) aZ .nil e3 (λ_=>h) e5 (λj Hf' H' s1 q=>fin J.f j Hf' H' s1 q)
  .cases m
 .cases y
def NE(h:i<k):∀d (ρ ρ':LS) j,aG i d ρ=aa ρ'->k<=j->ρ'[j]?=ρ[j]?:=λd ρ ρ' j e a=>by cases e;exact kH (by lia)
def NF:∀d (ρ ρ':LS),aG i d ρ=aa ρ'->ρ'.length=ρ.length:=λd ρ ρ' e=>by cases e;exact jc
variable{o1:O}{R:O->O}
def NG(j:au G Hf0 H0 Hf H σ ρ)(h:aX i ρ=aa (o1,R)):∃o v fp,ρ[i]?=aa (.deep o)/\σ[i]?=aa (aa v)/\OT G Hf H o v fp/\fp.Nodup/\(∀a∈fp,H0 a=ac/\Hf a=ac)/\Foc G Hf H o v fp o1 v fp R:=by
 have main:∀o,ρ[i]?=aa (.deep o)->(∀v fp,OT G Hf H o v fp->fp.Nodup->Foc G Hf H o v fp o1 v fp R)->∃o v fp,ρ[i]?=aa (.deep o)/\σ[i]?=aa (aa v)/\OT G Hf H o v fp/\fp.Nodup/\(∀a∈fp,H0 a=ac/\Hf a=ac)/\Foc G Hf H o v fp o1 v fp R:=λo es F=>by
  obtain⟨v,b,u,fp,d,r,n,z⟩:=j.slot es;subst d;exact⟨o,u,fp,es,b,r,n,z,F u fp r n⟩
 unfold aX at h;split at h
 .rename_i l o es;cases h;exact main _ es λv fp r n=>Foc.at r n
 .rename_i o _ es;cases h;exact main _ es λv fp r n=>Foc.refl r n
 .cases h
def NH{cn f:Str}(m:au G Hf0 H0 Hf H σ ρ)(h:bv cn f (aX i) ρ=aa (o1,R)):∃o v fp v1 f1,ρ[i]?=aa (.deep o)/\σ[i]?=aa (aa v)/\OT G Hf H o v fp/\fp.Nodup/\(∀a∈fp,H0 a=ac/\Hf a=ac)/\Foc G Hf H o v fp o1 v1 f1 R:=by
 obtain⟨q,d,h⟩:=be h;obtain⟨r,j,h⟩:=d6 h;cases h;obtain⟨o,v,fp,es,l,rt,n,z,F⟩:=NG m d;obtain⟨a,dx,ns,vs,u,f2,_,_,_,b⟩:=F.fld j;exact⟨o,v,fp,u,f2,es,l,rt,n,z,b⟩
variable{ds:LD}{l:Addr}
def au.focFix{o:O}{fp:LAd}{vs:List V}(C:au G Hf0 H0 Hf H σ ρ)(es:ρ[i]?=aa (.deep o))(L:σ[i]?=aa (aa v))(r:OT G Hf H o v fp)(n:fp.Nodup)(z:∀a∈fp,H0 a=ac/\Hf a=ac)(F:Foc G Hf H o v fp (.lst (ds.map .fz)) (.ref l) [l] R)(ql:H l=aa (.lst vs))(rd:ao G Hf ds vs):
  au G Hf0 H0 (upd Hf l (.lst vs)) H σ (ρ.set i (.deep (R (.fz (.lst ds))))):=by
 have N:l∈fp:=F.sub l aN;have T:=(z l N).2;have A:av Hf (upd Hf l (.lst vs)):=bP T;obtain⟨fp',Y,mem,nd⟩:=F.back (upd Hf l (.lst vs)) H (.fz (.lst ds)) [] A (λb u e _=>e) ⟨⟨l,vs,rfl,aZ,rd.up A⟩,rfl⟩;have nn:=nd f6 λa ha=>nomatch ha
 have h:∀a∈fp',a∈fp/\a≠l:=λa ha=>by
  rcases mem a ha with y |⟨y,y'⟩
  .exact nomatch y
  .exact⟨y,λe=>y' (by rw[e];exact aN)⟩
 have U:∀(j:Nat) (t:Sl) (w:V),j≠i->ρ[j]?=aa t->σ[j]?=aa (aa w)->Holds G Hf H t w l->False:=λj t w hj b B p=>hj (C.dj j i t _ w v l b es B L p ⟨fp,r,N⟩);refine C.re (C.ext.fix (z l N).1 T ql) (by simp) (λj u t a b=>?_) λj t w a b B p=>?_
 .rcases cE b with⟨e,I,_⟩ |⟨en,b⟩
  .subst e I;rw[L]at a;cases a;exact⟨v,fp',rfl,Y,nn,λx hx=>⟨(z x (h x hx).1).1,by rw[aJ (h x hx).2];exact(z x (h x hx).1).2⟩⟩
  .have q:=C.at' j u t a b
   cases E:t.isOwn with
   |false=>
    cases t with
    |no=>trivial
    |im d=>obtain⟨u',J,m⟩:=q;exact⟨u',J,m.up A⟩
    |val u'=>exact q
    |deep o'=>
     obtain⟨w,Q,J,m,n2,z2⟩:=q;subst J;refine⟨w,Q,rfl,m.up A (av.refl _),n2,λx hx=>⟨(z2 x hx).1,?_⟩⟩;rw[aJ (λy=>U j _ w en b a ⟨Q,m,by rw[<- y];exact hx⟩)]
     exact(z2 x hx).2
    | _=>cases E
   |true=>
    obtain⟨l2,e2,e3,e4,q2⟩:=q.own E;subst e2;refine .ofOwn E ⟨l2,rfl,e3,?_,q2.up A λo' M=>M⟩;rw[aJ (λy=>U j t _ en b a ((Holds.own E).mpr (by rw[y])))];exact e4
 .rcases cE b with⟨e,I,_⟩ |⟨_,b⟩
  .subst e I;rw[L]at B;cases B;obtain⟨g,m,ha⟩:=p;have:=OT.funM _ _ _ _ Y m;subst this;exact⟨_,es,⟨fp,r,(h a ha).1⟩⟩
  .exact⟨t,b,(C.at' j _ t B b).back (λo fp _ r=>r.up A (av.refl _)) p⟩
abbrev uG(i:Nat)(cn f:Str)(F:MF3)(ρ:LS):Option Fl:=(bv cn f (aX i) ρ).bind λq=>q.1.items.bind λds=>F (ρ.set i (.deep (q.2 (.fz (.lst ds)))))
abbrev uH(i j:Nat)(cn f:Str)(ρ:LS):Option Fl:=(bv cn f (aX i) ρ).bind λq=>q.1.items.bind λds=>if i=j then ac else aa (.nx ((ρ.set i (.deep (q.2 .any))).set j (.own ds)))
def NI(i:Nat)(cn f:Str)(h:DS c X st F):DS c X st (uG i cn f F):=PS.imp h λE σ H y=>by
 obtain⟨Hf0,H0,Hf,ρ,o,d,a,k⟩:=y;obtain⟨q,j,a⟩:=be a;obtain⟨ds,m,a⟩:=be a;obtain⟨t,v,fp,v1,f1,es,u,rt,n,z,b⟩:=NH d (o1:=q.1) (R:=q.2) j;rw[pP m]at b;obtain⟨l,vs,fs,rfl,A,rs,rfl⟩:=id b.r;obtain⟨B,rfl⟩:=rs.unfz;exact⟨Hf0,H0,_,_,o,d.focFix es u rt n z b A B,a,k.up (bP (z l (b.sub l aN)).2)⟩
variable{j:Nat}
def NJ{cn f:Str}(h:PS X st (iP (tDP (Gx c X) i (bv cn f (aX i))) (gX j))):DS c X st (uH i j cn f):=PS.imp h λE σ H q_=>by
 obtain⟨Hf0,H0,Hf,ρ,o,B,m,kq⟩:=q_;obtain⟨q,L,m⟩:=be m;obtain⟨ds,M,m⟩:=be m;split at m
 .cases m
 .rename_i hij;cases m;refine⟨Hf0,H0,Hf,ρ,q.1,q.2,B,L,λt v fp v1 f1 d I es J x rt n=>?_⟩;rw[pP M]at n;obtain⟨l,vs,fs,rfl,ql,rs,rfl⟩:=id n.r;obtain⟨rd,rfl⟩:=rs.unfz;have C:=B.step x;have s1:au (Gx c X) Hf0 H0 d I σ (ρ.set i (.deep (q.2 .any))):=B.foc es J rt x n (λb u e _=>e) (o2:=.any) (f2:=[]) rfl f6 λa ha=>nomatch ha;obtain⟨fp',r',mem,nd⟩:=n.back d I .any [] (av.refl _) (λb u e _=>e) rfl;obtain⟨v0,Q,e3,r0,n0,z0⟩:=C.at' i _ _ J es;cases e3;have:=OT.funM t v fp Q rt r0;subst this;have Y:l∈fp:=n.sub l aN;have s2:=s1.setAny (i:=j) (v:=.ref l);have T:j<σ.length\/¬j<σ.length:=Nat.lt_or_ge j σ.length |>.imp id Nat.not_lt.mpr;refine kq _ d I x.f ?_
  rcases T with hj |hj
  .have U:j<(ρ.set i (.deep (q.2 .any))).length:=by rw[jc,<- B.len];exact hj
   have s3:=s2.chg (i:=j) (s:=.no) (s':=.own ds) (v:=.ref l) (jR U) (jR hj) (H':=I) (λb u e=>.inr e) ⟨l,rfl,(z0 l Y).1,(z0 l Y).2,vs,ql,rd⟩ λa p=>.inr λk t' w b z p'=>?_
   .rw[set_set]at s3;exact s3
   .have ea:a=l:=by have:=(Holds.own (s:=Sl.own ds) rfl).mp p;cases this;rfl
    subst ea
    rcases cE b with⟨_,A,_⟩ |⟨en,b⟩
    .subst A;exact p'.calm rfl
    .rcases cE z with⟨A,_⟩ |⟨_,z⟩
     .exact en A
     .rcases cE b with⟨e,A,_⟩ |⟨N,b⟩
      .subst e A;rw[J]at z;cases z;obtain⟨g,r2,hg⟩:=p';have:=OT.funM _ _ _ _ r' r2;subst this
       rcases mem a hg with y |⟨_,y⟩
       .exact nomatch y
       .exact y aN
      .exact N (C.dj k i t' _ w v a b es z J p' ⟨fp,rt,Y⟩)
  .have L:σ.set j (aa (.ref l))=σ:=set_eq_of_length_le (by lia);have M:(ρ.set i (.deep (q.2 .any))).set j (.own ds)=ρ.set i (.deep (q.2 .any)):=set_eq_of_length_le (by rw[jc,<- B.len];lia);rw[L,M];exact s1
end L2
namespace N_k36
open List
open PySem PySem.Spec PyProof.Rows L2
local macro_rules | `(tactic| walk_at "sc")=>`(tactic| exact ⟨rfl,rfl,rfl,by decide +kernel,rfl,by decide +kernel,by decide +kernel⟩)
abbrev top(i:Nat):Stmt:=PySem.Challenge.pw_standstill_k36_spread_in_any_order.main.body.getD i (.Pass ⟨0,0,0,0⟩)
@[reducible]noncomputable def s_7:=top 2
@[reducible]noncomputable def yW:=top 9
@[reducible]noncomputable def yX:=top 10
@[reducible]noncomputable def yY:=top 11
@[reducible]noncomputable def yZ:=top 12
@[reducible]noncomputable def y3:=top 13
@[reducible]noncomputable def y4:=top 14
@[reducible]noncomputable def y6:=top 15
@[reducible]noncomputable def s_1:=top 17
@[reducible]noncomputable def y7:=top 18
@[reducible]noncomputable def y8:=top 20
@[reducible]noncomputable def y9:=top 21
@[reducible]noncomputable def za:=top 22
@[reducible]noncomputable def s_5:=top 25
@[reducible]noncomputable def zb:=top 27
@[reducible]noncomputable def s_2:=top 28
@[reducible]noncomputable def zc:=top 29
@[reducible]noncomputable def zd:=top 30
@[reducible]noncomputable def zf:=top 31
@[reducible]noncomputable def zg:=top 32
@[reducible]noncomputable def s_3:=top 33
@[reducible]noncomputable def zh:=top 34
@[reducible]noncomputable def zi:=top 35
@[reducible]noncomputable def s_9:=top 36
@[reducible]noncomputable def zj:=top 37
@[reducible]noncomputable def zk:=top 38
@[reducible]noncomputable def zl:=top 39
@[reducible]noncomputable def zm:=top 40
@[reducible]noncomputable def zn:=top 41
@[reducible]noncomputable def zo:=top 42
@[reducible]noncomputable def s_0:=top 43
@[reducible]noncomputable def zp:=b6 (top 5) 0
@[reducible]noncomputable def zq:=b6 (top 5) 2
@[reducible]noncomputable def zt:=b6 (top 5) 3
@[reducible]noncomputable def zu:=b6 (top 5) 5
@[reducible]noncomputable def zw:=b6 (top 5) 7
@[reducible]noncomputable def zx:=b6 (top 5) 8
@[reducible]noncomputable def zy:=b6 (top 6) 0
@[reducible]noncomputable def zA:=b6 (top 6) 2
@[reducible]noncomputable def zB:=b6 (top 6) 3
@[reducible]noncomputable def zC:=b6 (top 6) 5
@[reducible]noncomputable def zD:=b6 (top 6) 7
@[reducible]noncomputable def zE:=b6 (top 6) 8
@[reducible]noncomputable def zF:=b6 (top 7) 0
@[reducible]noncomputable def zG:=b6 (top 7) 2
@[reducible]noncomputable def zH:=b6 (top 7) 3
@[reducible]noncomputable def zJ:=b6 (top 7) 5
@[reducible]noncomputable def zK:=b6 (top 7) 7
@[reducible]noncomputable def zM:=b6 (top 7) 8
@[reducible]noncomputable def zN:=b6 (top 8) 0
@[reducible]noncomputable def zO:=b6 (top 8) 2
@[reducible]noncomputable def zP:=b6 (top 8) 3
@[reducible]noncomputable def zQ:=b6 (top 8) 5
@[reducible]noncomputable def zR:=b6 (top 8) 7
@[reducible]noncomputable def zS:=b6 (top 8) 8
@[reducible]noncomputable def s_8:=b6 (top 23) 0
@[reducible]noncomputable def zT:=b6 (top 23) 1
@[reducible]noncomputable def zU:=b6 (top 23) 2
@[reducible]noncomputable def zV:=b6 (top 23) 3
@[reducible]noncomputable def zW:=b6 (top 23) 4
@[reducible]noncomputable def zX:=b6 (top 23) 6
@[reducible]noncomputable def zY:=b6 (top 23) 7
@[reducible]noncomputable def zZ:=b6 (top 23) 8
@[reducible]noncomputable def s_6:=b6 (top 23) 9
@[reducible]noncomputable def s_4:=b6 (top 23) 10
@[reducible]noncomputable def z4:=b6 (top 23) 11
@[reducible]noncomputable def z5:=b6 (top 23) 12
def z6:aM ["many","some","listed","thing"] ["many","some"] (aF s_7):=by walk_at "sc"
def Fd:aM ["told","word"] ["told"] (aF yW):=by walk_at "sc"
def NK:aM ["items"] ["items"] (aF yX):=by walk_at "sc"
def NL:aM ["items","entries"] ["items","entries"] (aF yY):=by walk_at "sc"
def NM:aM ["items","sheet"] ["items","sheet"] (aF yZ):=by walk_at "sc"
def NN:aM ["items","without"] ["items","without"] (aF y3):=by walk_at "sc"
def Fe:aM ["items","sheet","lack","weights"] ["items","sheet","lack"] (aF y4):=by walk_at "sc"
def uI:aM ["items","weights","thing","worth"] ["items"] (aF y6):=by walk_at "sc"
def Ff:aM ["rule"] ["rule"] (aF s_1):=by walk_at "sc"
def Fg:aM ["rule","guard"] ["rule"] (aF y7):=by walk_at "sc"
def NO:aM ["bar"] ["bar"] (aF y8):=by walk_at "sc"
def rn:aM ["guard","sheet","pairs","part","tips"] ["guard","sheet"] (aF y9):=by walk_at "sc"
def Fh:aM ["body","sheet","without","part"] ["body","sheet","without"] (aF za):=by walk_at "sc"
def uJ:aM ["plain","bars","sheet","spreading","why","steps"] ["plain","bars","sheet"] (aF s_5):=by walk_at "sc"
def NP:aM ["_law_script","_law_k"] ["_law_script","_law_k"] (aF zb):=by walk_at "sc"
def rp:aM ["_law_cell","_law_many","_law_found","_law_number","_law_k"] ["_law_cell","_law_many"] (aF s_2):=by walk_at "sc"
def NQ:aM ["_law_x"] ["_law_x"] (aF zc):=by walk_at "sc"
def uK:aM ["_law_xs","_law_many","_law_word","_law_items","_law_near"] ["_law_xs","_law_many"] (aF zd):=by walk_at "sc"
def z7:aM ["_law_cell","_law_many","_law_calm","_law_xs","_law_parts"] ["_law_cell","_law_many","_law_calm"] (aF zf):=by walk_at "sc"
def rq:aM ["_law_kind","_law_many","_law_rules","_law_k","_law_on","_law_part_here"] ["_law_kind","_law_many"] (aF zg):=by walk_at "sc"
def mG:aM ["_law_rules","_law_found","_law_word","_law_head","_law_parts","_law_mine","_law_part_here"] ["_law_rules"] (aF s_3):=by walk_at "sc"
def Fi:aM ["_law_cell","_law_many","_law_xs"] ["_law_cell","_law_many"] (aF zh):=by walk_at "sc"
def Fj:aM ["_law_cell","_law_many","_law_xs"] ["_law_cell","_law_many"] (aF zi):=by walk_at "sc"
def rA:aM ["_law_rows","_law_x","_law_cut","_law_mine"] ["_law_rows","_law_x"] (aF s_9):=by walk_at "sc"
def z8:aM ["_law_found","_law_sheet_here","_law_mine","_law_entry"] ["_law_found","_law_sheet_here"] (aF zj):=by walk_at "sc"
def Fk:aM ["_law_step","_law_many","_law_pair"] ["_law_step","_law_many"] (aF zk):=by walk_at "sc"
def NR:aM ["_law_found","_law_sheet_here"] ["_law_found","_law_sheet_here"] (aF zl):=by walk_at "sc"
def NS:aM ["_law_found"] ["_law_found"] (aF zm):=by walk_at "sc"
def z9:aM ["_law_found","_law_sheet_here","_law_mine","_law_step"] ["_law_found","_law_sheet_here"] (aF zn):=by walk_at "sc"
def NT:aM ["_law_first","_law_second","_law_sheet_here"] ["_law_first","_law_second","_law_sheet_here"] (aF zo):=by walk_at "sc"
def jI:aM ["_law_script","_law_hs","_law_many","_law_rules","_law_cell","_law_sheet_here","_law_bars","_law_first","_law_turned_here","_law_second","_law_third"] ["_law_script"] (aF s_0):=by walk_at "sc"
def NU:aM ["self","thing"] ["self","thing"] (aF zp):=by walk_at "sc"
def NV:aM ["self"] ["self"] (aF zq):=by walk_at "sc"
def NW:aM ["self"] ["self"] (aF zt):=by walk_at "sc"
def NX:aM ["self","sheet"] ["self","sheet"] (aF zu):=by walk_at "sc"
def NY:aM ["self","sheet"] ["self","sheet"] (aF zw):=by walk_at "sc"
def NZ:aM ["self","sheet","without"] ["self","sheet","without"] (aF zx):=by walk_at "sc"
def N0:aM ["self","thing"] ["self","thing"] (aF zy):=by walk_at "sc"
def N1:aM ["self"] ["self"] (aF zA):=by walk_at "sc"
def N2:aM ["self"] ["self"] (aF zB):=by walk_at "sc"
def N3:aM ["self","sheet"] ["self","sheet"] (aF zC):=by walk_at "sc"
def N4:aM ["self","sheet"] ["self","sheet"] (aF zD):=by walk_at "sc"
def N5:aM ["self","sheet","without"] ["self","sheet","without"] (aF zE):=by walk_at "sc"
def N6:aM ["self","bound","items"] ["self","bound","items"] (aF zF):=by walk_at "sc"
def N7:aM ["self"] ["self"] (aF zG):=by walk_at "sc"
def N8:aM ["self"] ["self"] (aF zH):=by walk_at "sc"
def N9:aM ["self","sheet"] ["self","sheet"] (aF zJ):=by walk_at "sc"
def Fm:aM ["self","sheet","lack"] ["self","sheet"] (aF zK):=by walk_at "sc"
def Oa:aM ["self","sheet","without"] ["self","sheet","without"] (aF zM):=by walk_at "sc"
def Ob:aM ["self","bound","items"] ["self","bound","items"] (aF zN):=by walk_at "sc"
def Oc:aM ["self"] ["self"] (aF zO):=by walk_at "sc"
def Od:aM ["self"] ["self"] (aF zP):=by walk_at "sc"
def Oe:aM ["self","sheet"] ["self","sheet"] (aF zQ):=by walk_at "sc"
def Fo:aM ["self","sheet","lack"] ["self","sheet"] (aF zR):=by walk_at "sc"
def Of:aM ["self","sheet","without"] ["self","sheet","without"] (aF zS):=by walk_at "sc"
def uL:aM ["self","plain","bars","sheet","rule","number","bar"] ["self","plain","bars","sheet"] (aF s_8):=by walk_at "sc"
def Aa:aM ["self","why","guard","part","thing"] ["self","why","guard"] (aF zT):=by walk_at "sc"
def Fp:aM ["self","bar","why"] ["self","bar"] (aF zU):=by walk_at "sc"
def pW:aM ["self","bar","wider","pair","why"] ["self","bar"] (aF zV):=by walk_at "sc"
def Og:aM ["self","thing","truth","why"] ["self","thing","truth","why"] (aF zW):=by walk_at "sc"
def rB:aM ["self","going","why"] ["self"] (aF zX):=by walk_at "sc"
def rC:aM ["self","why","pairs","thing","truth"] ["self"] (aF zY):=by walk_at "sc"
def rE:aM ["self","without","thing","things","is_loose"] ["self"] (aF zZ):=by walk_at "sc"
def km:aM ["self","without","used","rest","going","before","unused","maker"] ["self"] (aF s_6):=by walk_at "sc"
def rF:aM ["self","thing","without","found","place","part"] ["self","thing","without"] (aF s_4):=by walk_at "sc"
def Oh:aM ["self","thing","without"] ["self","thing","without"] (aF z4):=by walk_at "sc"
def Oi:aM ["self","part","without"] ["self","part","without"] (aF z5):=by walk_at "sc"
set_option genInjectivity false
set_option genSizeOf false
structure Wa where
(e_7 e_37 e_38 e_20 e_13 e_49 e_21 e_22 e_1 e_24 e_50 e_63 e_14 e_5 e_15 e_2 e_25 e_16 e_26 e_10 e_3 e_27 e_39 e_9 e_28 e_40 e_29 e_23 e_30 e_31 e_0 e_64 e_41 e_51 e_52 e_53 e_32 e_54 e_42 e_55 e_56 e_57 e_33 e_65 e_43 e_58 e_59 e_44 e_34 e_66 e_45 e_60 e_61 e_46 e_35 e_8 e_11 e_47 e_12 e_36 e_17 e_18 e_19 e_6 e_4 e_62 e_48:Addr×eA)
 cl:Str->Addr
structure Wd(K:aV)(mg:MGT)(a:Wa):Prop where
 e_7:Df K mg "marks" s_7 ["many","some"] a.e_7
 e_37:Df K mg "part_of" yW ["told"] a.e_37
 e_38:Df K mg "things_of" yX ["items"] a.e_38
 e_20:Df K mg "worth_in" yY ["items","entries"] a.e_20
 e_13:Df K mg "worth_not_out" yZ ["items","sheet"] a.e_13
 e_49:Df K mg "outside" y3 ["items","without"] a.e_49
 e_21:Df K mg "heavy" y4 ["items","sheet","lack"] a.e_21
 e_22:Df K mg "weights_of" y6 ["items"] a.e_22
 e_1:Df K mg "body_of" s_1 ["rule"] a.e_1
 e_24:Df K mg "guard_of" y7 ["rule"] a.e_24
 e_50:Df K mg "guard_of_bar" y8 ["bar"] a.e_50
 e_63:Df K mg "pressed_by" y9 ["guard","sheet"] a.e_63
 e_14:Df K mg "lost_part" za ["body","sheet","without"] a.e_14
 e_5:Df K mg "spread" s_5 ["plain","bars","sheet"] a.e_5
 e_15:Df K mg "_law_cell_at" zb ["_law_script","_law_k"] a.e_15
 e_2:Df K mg "_law_mixed" s_2 ["_law_cell","_law_many"] a.e_2
 e_25:Df K mg "_law_worth" zc ["_law_x"] a.e_25
 e_16:Df K mg "_law_part" zd ["_law_xs","_law_many"] a.e_16
 e_26:Df K mg "_law_rule" zf ["_law_cell","_law_many","_law_calm"] a.e_26
 e_10:Df K mg "_law_ring" zg ["_law_kind","_law_many"] a.e_10
 e_3:Df K mg "_law_copy" s_3 ["_law_rules"] a.e_3
 e_27:Df K mg "_law_bar" zh ["_law_cell","_law_many"] a.e_27
 e_39:Df K mg "_law_sheet" zi ["_law_cell","_law_many"] a.e_39
 e_9:Df K mg "_law_turned" s_9 ["_law_rows","_law_x"] a.e_9
 e_28:Df K mg "_law_is_sheet" zj ["_law_found","_law_sheet_here"] a.e_28
 e_40:Df K mg "_law_is_step" zk ["_law_step","_law_many"] a.e_40
 e_29:Df K mg "_law_end" zl ["_law_found","_law_sheet_here"] a.e_29
 e_23:Df K mg "_law_ended" zm ["_law_found"] a.e_23
 e_30:Df K mg "_law_half" zn ["_law_found","_law_sheet_here"] a.e_30
 e_31:Df K mg "_law_alike" zo ["_law_first","_law_second","_law_sheet_here"] a.e_31
 e_0:Df K mg "law" s_0 ["_law_script"] a.e_0
 e_64:Dm K (a.cl "In") "__init__" "In.__init__" zp ["self","thing"] a.e_64
 e_41:Dm K (a.cl "In") "named" "In.named" zq ["self"] a.e_41
 e_51:Dm K (a.cl "In") "wants" "In.wants" zt ["self"] a.e_51
 e_52:Dm K (a.cl "In") "sure" "In.sure" zu ["self","sheet"] a.e_52
 e_53:Dm K (a.cl "In") "tips" "In.tips" zw ["self","sheet"] a.e_53
 e_32:Dm K (a.cl "In") "lost" "In.lost" zx ["self","sheet","without"] a.e_32
 e_54:Dm K (a.cl "Out") "__init__" "Out.__init__" zy ["self","thing"] a.e_54
 e_42:Dm K (a.cl "Out") "named" "Out.named" zA ["self"] a.e_42
 e_55:Dm K (a.cl "Out") "wants" "Out.wants" zB ["self"] a.e_55
 e_56:Dm K (a.cl "Out") "sure" "Out.sure" zC ["self","sheet"] a.e_56
 e_57:Dm K (a.cl "Out") "tips" "Out.tips" zD ["self","sheet"] a.e_57
 e_33:Dm K (a.cl "Out") "lost" "Out.lost" zE ["self","sheet","without"] a.e_33
 e_65:Dm K (a.cl "Least") "__init__" "Least.__init__" zF ["self","bound","items"] a.e_65
 e_43:Dm K (a.cl "Least") "named" "Least.named" zG ["self"] a.e_43
 e_58:Dm K (a.cl "Least") "wants" "Least.wants" zH ["self"] a.e_58
 e_59:Dm K (a.cl "Least") "sure" "Least.sure" zJ ["self","sheet"] a.e_59
 e_44:Dm K (a.cl "Least") "tips" "Least.tips" zK ["self","sheet"] a.e_44
 e_34:Dm K (a.cl "Least") "lost" "Least.lost" zM ["self","sheet","without"] a.e_34
 e_66:Dm K (a.cl "Most") "__init__" "Most.__init__" zN ["self","bound","items"] a.e_66
 e_45:Dm K (a.cl "Most") "named" "Most.named" zO ["self"] a.e_45
 e_60:Dm K (a.cl "Most") "wants" "Most.wants" zP ["self"] a.e_60
 e_61:Dm K (a.cl "Most") "sure" "Most.sure" zQ ["self","sheet"] a.e_61
 e_46:Dm K (a.cl "Most") "tips" "Most.tips" zR ["self","sheet"] a.e_46
 e_35:Dm K (a.cl "Most") "lost" "Most.lost" zS ["self","sheet","without"] a.e_35
 e_8:Dm K (a.cl "Spreading") "__init__" "Spreading.__init__" s_8 ["self","plain","bars","sheet"] a.e_8
 e_11:Dm K (a.cl "Spreading") "take_guard" "Spreading.take_guard" zT ["self","why","guard"] a.e_11
 e_47:Dm K (a.cl "Spreading") "take_bar" "Spreading.take_bar" zU ["self","bar"] a.e_47
 e_12:Dm K (a.cl "Spreading") "drop_wider" "Spreading.drop_wider" zV ["self","bar"] a.e_12
 e_36:Dm K (a.cl "Spreading") "put" "Spreading.put" zW ["self","thing","truth","why"] a.e_36
 e_17:Dm K (a.cl "Spreading") "settle" "Spreading.settle" zX ["self"] a.e_17
 e_18:Dm K (a.cl "Spreading") "look_round" "Spreading.look_round" zY ["self"] a.e_18
 e_19:Dm K (a.cl "Spreading") "put_loose_out" "Spreading.put_loose_out" zZ ["self"] a.e_19
 e_6:Dm K (a.cl "Spreading") "loose_marks" "Spreading.loose_marks" s_6 ["self"] a.e_6
 e_4:Dm K (a.cl "Spreading") "kernel" "Spreading.kernel" s_4 ["self","thing","without"] a.e_4
 e_62:Dm K (a.cl "Spreading") "lost_parts" "Spreading.lost_parts" z4 ["self","thing","without"] a.e_62
 e_48:Dm K (a.cl "Spreading") "keeping" "Spreading.keeping" z5 ["self","part","without"] a.e_48
 g_In:mg "In"=aa (.ref (a.cl "In"))
 cl_In:Cls K (a.cl "In")
 mk_In:Mk K (a.cl "In") a.e_64.1
 na_In_thing:dH K (a.cl "In") "thing"
 g_Out:mg "Out"=aa (.ref (a.cl "Out"))
 cl_Out:Cls K (a.cl "Out")
 mk_Out:Mk K (a.cl "Out") a.e_54.1
 na_Out_thing:dH K (a.cl "Out") "thing"
 g_Least:mg "Least"=aa (.ref (a.cl "Least"))
 cl_Least:Cls K (a.cl "Least")
 mk_Least:Mk K (a.cl "Least") a.e_65.1
 na_Least_bound:dH K (a.cl "Least") "bound"
 na_Least_pieces:dH K (a.cl "Least") "pieces"
 g_Most:mg "Most"=aa (.ref (a.cl "Most"))
 cl_Most:Cls K (a.cl "Most")
 mk_Most:Mk K (a.cl "Most") a.e_66.1
 na_Most_bound:dH K (a.cl "Most") "bound"
 na_Most_pieces:dH K (a.cl "Most") "pieces"
 g_Spreading:mg "Spreading"=aa (.ref (a.cl "Spreading"))
 cl_Spreading:Cls K (a.cl "Spreading")
 mk_Spreading:Mk K (a.cl "Spreading") a.e_8.1
 na_Spreading_sheet:dH K (a.cl "Spreading") "sheet"
 na_Spreading_steps:dH K (a.cl "Spreading") "steps"
 na_Spreading_bars:dH K (a.cl "Spreading") "bars"
 na_Spreading_guards:dH K (a.cl "Spreading") "guards"
 na_Spreading_watches:dH K (a.cl "Spreading") "watches"
 na_Spreading_waiting:dH K (a.cl "Spreading") "waiting"
 na_Spreading_makers:dH K (a.cl "Spreading") "makers"
 z_all:mg "all"=ac
 z_any:mg "any"=ac
 z_bool:mg "bool"=ac
 z_enumerate:mg "enumerate"=ac
 z_int:mg "int"=ac
 z_isinstance:mg "isinstance"=ac
 z_len:mg "len"=ac
 z_list:mg "list"=ac
 z_min:mg "min"=ac
 z_range:mg "range"=ac
 z_reversed:mg "reversed"=ac
 z_set:mg "set"=ac
 z_sorted:mg "sorted"=ac
 z_sum:mg "sum"=ac
 z_tuple:mg "tuple"=ac
 z_zip:mg "zip"=ac
 is_bool:lz K "bool"
 is_int:lz K "int"
 is_list:lz K "list"
 is_tuple:lz K "tuple"
set_option genInjectivity true
set_option genSizeOf true
nonrec abbrev qD(P:cH)(w:World)(K:aV)(mg:MGT)(base:Heap)(a:Wa)(k:Nat)(x:Str)(e:Addr×eA)(ps:LSt)(m:LD->OD):Prop:=Pk P w K mg base CX0 k x e ps (spD ⟨K,a.cl⟩ ps.length m)
nonrec abbrev qO(P:cH)(w:World)(K:aV)(mg:MGT)(base:Heap)(a:Wa)(k:Nat)(x:Str)(e:Addr×eA)(ps:LSt)(m:LD->OLD):Prop:=Pk P w K mg base CX0 k x e ps (spO ⟨K,a.cl⟩ ps.length m)
abbrev uM:MF3:=
 (ap (bz (mOr (fc (cw (jy "list" (af 0)))) (mB (m2 dNe (aB dC (ag (af 0) nZ)) (aB dC (ag (af 1) nZ))))) (bd (kBl ae)) bQ)
  (ap (cX (tX (ag (af 0) (ag (af 1) nZ))) (eS (b8 (aG 2) (b8 (aG 3) fQ))) (bz (mOr (g5 (mB (m2 gD (af 2) kN)) (fc (cw (jy "bool" (af 2))))) (g5 (mB (m2 gD (af 3) kN)) (mB (m2 dNe (af 2) (af 3))))) (bd (kBl ae)) bQ))
  (bd (kBl ab))))
abbrev Ab:=aW 4 uM
abbrev uN:MF3:=
 (ap (bz (mOr (fc (cw (jy "tuple" (af 0)))) (mB (m2 dNe (aB dC (ag (af 0) nZ)) (kI 2)))) (bd (kBl ae)) bQ)
  (ap (bm 2 (mIx (ar 0) (kI 0)))
  (ap (bz (mB (m2 dIs (af 2) kN)) (bd (kBl ab)) bQ)
  (ap (bz (mOr (fc (cw (jy "tuple" (af 2)))) (mOr (mB (m2 dNe (aB dC (ag (af 2) nZ)) (kI 2))) (fc (cw (jy "bool" (mIx (ar 2) (kI 1))))))) (bd (kBl ae)) bQ)
  (bd (iT (jy "int" (mIx (ar 2) (kI 0))) (iT (o8 (jy "bool" (mIx (ar 2) (kI 0)))) (n6 dLe dLt (kI 0) (mIx (ar 2) (kI 0)) (af 1)))))))))
abbrev Ac:=aW 3 uN
abbrev uO:MF3:=
 (ap (bz (mOr (fc (cw (jy "tuple" (af 0)))) (mOr (mB (m2 dNe (aB dC (ag (af 0) nZ)) (kI 2))) (fc (cw (aB Ab (ag (mIx (ar 0) (kI 0)) (ag (af 1) nZ))))))) (bd (kBl ae)) bQ)
  (ap (bz (fc (cw (jy "list" (mIx (ar 0) (kI 1))))) (bd (kBl ae)) bQ)
  (bd (aB pG (ag (aI (bu 1 [1] (a9 (mIx (ar 0) (kI 1))) (aG 0) kY (aB Ac (ag (af 0) (ag (aB dC (ag (af 1) nZ)) nZ))))) nZ)))))
abbrev uP:=aW 2 uO
abbrev Ad:MF3:=
 (bd (iT (m2 dNe (mIx (ar 0) (kI 1)) (aI nZ)) (m2 dIs (mIx (a9 (mIx (a9 (mIx (ar 0) (kI 1))) (m1 Di (kI 1)))) (kI 0)) kN)))
abbrev rG:=aW 1 Ad
abbrev uQ:MF3:=
 (ap (bz (mOr (fc (cw (aB uP (ag (af 1) (ag (af 2) nZ))))) (mB (m2 dNe (aB rG (ag (af 0) nZ)) (aB rG (ag (af 1) nZ))))) (bd (kBl ae)) bQ)
  (bd (vOr (aB rG (ag (af 0) nZ)) (m2 dEq (mIx (ar 0) (kI 0)) (mIx (ar 1) (kI 0))))))
abbrev uR:=aW 3 uQ
abbrev b_2:MF3:=
 (ap (fm 2 nZ)
  (ap (bm 3 (m2 cy (m2 dJ (m2 bx (af 0) (kI 2305843009213693951)) (kI 1315423911)) (kI 48271)))
  (ap (cX (iV (ag (af 1) nZ)) (aG 4) (ap (bm 3 (m2 bx (m2 cy (m2 cy (m2 dJ (af 3) (m2 cy (af 3) (kI 69621))) (m2 dJ (kI 7) (af 4))) (kI 1)) (kI 2305843009213693951)))
  (hJ 2 (af 3))))
  (hE 2))))
abbrev m_2:=aW 5 b_2
abbrev uS:MF3:=
 (ap (bm 2 (aB m_2 (ag (af 0) (ag (kI 6) nZ))))
  (ap (bz (mOr (mB (m2 dEq (af 1) (kI 0))) (mB (m2 dEq (m2 bx (mIx (ar 2) (kI 0)) (kI 16)) (kI 0)))) (dk nZ) bQ)
  (dk (bu 1 [1,2] (iV (ag (m2 cy (kI 1) (m2 bx (mIx (ar 2) (kI 1)) (aB yG (ag (kI 3) (ag (af 1) nZ))))) nZ)) (aG 0) kY (bw (ag (m2 bx (m2 cy (mIx (ar 2) (kI 2)) (af 0)) (af 1)) (ag (m2 dEq (m2 bx (mIx (ar 2) (m2 cy (kI 3) (af 0))) (kI 2)) (kI 0)) nZ)))))))
abbrev uT:=aW 3 uS
abbrev Ae:MF3:=
 (ap (bz (mB (m2 dLt (af 1) (aB dC (ag (af 0) nZ)))) (bd (mIx (ar 0) (af 1))) bQ)
  (bd (kI 0)))
abbrev pX:=aW 2 Ae
abbrev b_3:MF3:=
 (ap (fm 1 nZ)
  (ap (cX (a9 (af 0)) (eS (b8 (aG 2) (b8 (aG 3) (b8 (aG 4) fQ)))) (ap (fm 5 nZ)
  (ap (cX (a9 (af 4)) (aG 6) (ap (bz (mB (m2 dEq (aB dC (ag (af 6) nZ)) (kI 3))) (bm 6 (bw (ag (mIx (ar 6) (kI 0)) (ag (mIx (ar 6) (kI 1)) (ag (aI (a9 (mIx (ar 6) (kI 2)))) nZ))))) bQ)
  (hJ 5 (af 6))))
  (gE 5 (hJ 1 (bw (ag (af 2) (ag (af 3) (ag (af 5) nZ)))))))))
  (hE 1)))
abbrev m_3:=aW 7 b_3
abbrev uU:MF3:=
 (ap (fm 2 (ar 1))
  (ap (cX (a9 (aI (mSl (mIx (ar 0) (kI 1)) (λ_=>aa ac) (mPt (m2 iU (m2 cy (aB dC (ag (mIx (ar 0) (kI 1)) nZ)) (kI 1)) (kI 2)))))) (aG 3) (bz (mB (m2 gD (mIx (ar 3) (kI 0)) kN)) (mq 2 (mIx (a9 (mIx (ar 3) (kI 0))) (kI 0)) (mIx (a9 (mIx (ar 3) (kI 0))) (kI 1))) bQ))
  (hE 2)))
abbrev Af:=aW 4 uU
abbrev rH:MF3:=
 (ap (fm 2 nZ)
  (ap (cX (iV (ag (af 1) nZ)) (aG 3) (ap (bm 4 (m2 bx (m2 cy (af 3) (kI 1)) (af 1)))
  (ap (bm 5 (mIx (ag kN (ag (bw (ag (kSt "in") (ag (af 3) nZ))) (ag (bw (ag (kSt "out") (ag (af 3) nZ))) (ag (bw (ag (kSt "least") (ag (kI 2) (ag (aI (ag (bw (ag (af 3) (ag (kI 2) nZ))) (ag (bw (ag (af 4) (ag (kI 1) nZ))) nZ))) nZ)))) (ag (bw (ag (kSt "most") (ag (kI 0) (ag (aI (ag (bw (ag (af 3) (ag (kI 1) nZ))) nZ)) nZ)))) nZ))))) (af 0)))
  (bz (mB (m2 gD (af 5) kN)) (hJ 2 (bw (ag (mIx (ag (kSt "make") (ag (kSt "may") nZ)) (m2 iU (m2 bx (m2 dJ (af 3) (af 0)) (kI 5)) (kI 4))) (ag (af 4) (ag (aI (ag (af 5) nZ)) nZ))))) bQ))))
  (hE 2)))
abbrev Ag:=nR 6 rH
abbrev uV:MF3:=
 (ap (bz (mB (m2 dEq (m2 bx (af 0) (kI 8)) (kI 5))) (bd (m2 bx (m2 dJ (m2 dJ (m2 dJ (af 0) (af 0)) (af 0)) (af 0)) (m2 xD (kI 10) (kI 60)))) bQ)
  (bd (mIx (ag (kI 1) (ag (kI 1) (ag (kI 2) (ag (kI 0) (ag (kI 3) (ag (kI 1) (ag (kI 1) (ag (kI 2) nZ)))))))) (m2 bx (m2 iU (af 0) (kI 8)) (kI 8)))))
abbrev rJ:=aW 1 uV
abbrev uW:MF3:=
 (ap (bm 2 (mIx (ag (kSt "in") (ag (kSt "out") (ag (kSt "in") (ag (kSt "least") (ag (kSt "most") nZ))))) (m2 bx (mIx (ar 0) (kI 0)) (kI 5))))
  (ap (bz (mOr (mB (m2 dEq (af 2) (kSt "in"))) (mB (m2 dEq (af 2) (kSt "out")))) (bd (bw (ag (af 2) (ag (m2 bx (mIx (ar 0) (kI 1)) (af 1)) nZ)))) bQ)
  (ap (bm 3 (aI (bu 1 [1,0] (iV (ag (m2 bx (mIx (ar 0) (kI 2)) (kI 4)) nZ)) (aG 0) kY (bw (ag (m2 bx (mIx (ar 2) (m2 cy (kI 4) (m2 dJ (kI 2) (af 0)))) (af 1)) (ag (aB rJ (ag (mIx (ar 2) (m2 cy (kI 5) (m2 dJ (kI 2) (af 0)))) nZ)) nZ))))))
  (ap (bm 4 (aB jx (ag (aI (bu 2 [] (a9 (aI (mSl (af 3) (λ_=>aa ac) (mPt (m2 bx (mIx (ar 0) (kI 3)) (kI 5)))))) (eS (b8 (aG 0) (b8 (aG 1) fQ))) kY (af 1))) nZ)))
  (bd (bw (ag (af 2) (ag (m2 nI (m2 cy (af 4) (m2 bx (m2 iU (mIx (ar 0) (kI 3)) (kI 5)) (kI 3))) (kI 1)) (ag (af 3) nZ)))))))))
abbrev uX:=aW 5 uW
abbrev uY:MF3:=
 (ap (bm 3 (aB m_2 (ag (af 0) (ag (kI 33) nZ))))
  (ap (bz (mB (m2 dEq (af 1) (kI 0))) (bd (bw (ag (kSt "never") (ag kN (ag (aI (mSl (aI (ag (bw (ag (mIx (ag (kSt "least") (ag (kSt "most") nZ)) (m2 bx (mIx (ar 3) (kI 0)) (kI 2))) (ag (m2 nI (m2 bx (mIx (ar 3) (kI 1)) (kI 3)) (kI 1)) (ag (aI nZ) nZ)))) nZ)) (λ_=>aa ac) (mPt (m2 bx (mIx (ar 3) (kI 2)) (kI 6))))) nZ))))) bQ)
  (ap (bm 4 (aI (bu 1 [1,3] (iV (ag (mIx (ag (kI 1) (ag (kI 1) (ag (kI 2) (ag (kI 2) (ag (kI 3) (ag (kI 0) nZ)))))) (m2 bx (mIx (ar 3) (kI 0)) (kI 6))) nZ)) (aG 0) kY (aB uX (ag (aI (mSl (af 2) (mPt (m2 cy (kI 3) (m2 dJ (kI 10) (af 0)))) (mPt (m2 cy (kI 13) (m2 dJ (kI 10) (af 0)))))) (ag (af 1) nZ))))))
  (ap (bz (g5 (mB (m2 dEq (m2 bx (mIx (ar 3) (kI 1)) (kI 8)) (kI 0))) (g5 (fc (cw (af 2))) (mOr (mB (m2 dNe (af 4) (aI nZ))) (mB (m2 dEq (m2 bx (mIx (ar 3) (kI 2)) (kI 4)) (kI 0)))))) (bd (bw (ag (kSt "never") (ag kN (ag (af 4) nZ))))) bQ)
  (bd (bw (ag (mIx (ag (kSt "make") (ag (kSt "may") nZ)) (m2 bx (m2 iU (mIx (ar 3) (kI 1)) (kI 8)) (kI 2))) (ag (m2 bx (m2 iU (mIx (ar 3) (kI 2)) (kI 4)) (af 1)) (ag (af 4) nZ)))))))))
abbrev Ah:=aW 5 uY
abbrev uZ:MF3:=
 (ap (bm 2 (aB m_2 (ag (af 0) (ag (m2 cy (af 1) (kI 1)) nZ))))
  (ap (bz (mB (m2 dEq (m2 bx (mIx (ar 2) (af 1)) (kI 3)) (kI 0))) (dk (bu 1 [] (a9 (aI (mSl (af 2) (λ_=>aa ac) (mPt (af 1))))) (aG 0) kY kN)) bQ)
  (dk (bu 1 [] (a9 (aI (mSl (af 2) (λ_=>aa ac) (mPt (af 1))))) (aG 0) kY (mIx (ag kN (ag kN (ag kN (ag (kBl ab) (ag (kBl ae) nZ))))) (m2 bx (af 0) (kI 5)))))))
abbrev Ai:=aW 3 uZ
abbrev b_9:MF3:=
 (ap (bm 2 (m2 bx (m2 iU (af 1) (kI 4)) (m2 cy (aB dC (ag (af 0) nZ)) (kI 1))))
  (ap (bm 3 (aI (mw (aI (mSl (af 0) (mPt (af 2)) (λ_=>aa ac))) (aI (mSl (af 0) (λ_=>aa ac) (mPt (af 2)))))))
  (ap (bz (mB (m2 dEq (m2 bx (af 1) (kI 2)) (kI 1))) (bm 3 (aI (yF 3))) bQ)
  (ap (bz (mB (m2 dEq (m2 bx (m2 iU (af 1) (kI 2)) (kI 2)) (kI 1))) (bm 3 (aI (mw (af 3) (af 3)))) bQ)
  (hE 3)))))
abbrev m_9:=aW 4 b_9
abbrev u4:MF3:=
 (λρ=>if 2 < ρ.length then ap (pV 2 3 (cw (af 1)) (i6 (bv "Spreading" "watches" (aX 0)) (mIx (ar 1) (kI 0))) (a9 (af 1)) 1 [3,0] (aG 0) (mB (m2 iC (af 0) (aI (i6 (bv "Spreading" "watches" (aX 2)) (af 1))))) (af 0))
  (gE 2 (cX (a9 (af 2)) (aG 4) (bz (mB (m2 dEq (mIx (ar 4) (kI 0)) (kSt "bar"))) (cX (a9 (mIx (pC (bv "Spreading" "bars" (aX 0))) (mIx (ar 4) (kI 1)))) (aG 3) (uE 0 (n8 (bv "Spreading" "watches" (aX 0)) (af 3)) (af 4))) bQ))) ρ else ac)
abbrev Aj:MTf:=ie 5 u4
abbrev Ak:MF3:=
 (dk (ag (bS "In" "thing" (af 0)) nZ))
abbrev u5:=aW 1 Ak
abbrev Al:MF3:=
 (bd (kBl ab))
abbrev Am:=aW 1 Al
abbrev An:MF3:=
 (dk (qV (aI (bu 2 [] (a9 (af 0)) (eS (b8 (aG 0) (b8 (aG 1) fQ))) kY (af 0)))))
abbrev u6:=aW 1 An
abbrev Ao:MF3:=
 (bd (aB u6 (ag (bS "Least" "pieces" (af 0)) nZ)))
abbrev u7:=aW 1 Ao
abbrev Ap:MF3:=
 (bd (kBl ab))
abbrev Aq:=aW 1 Ap
abbrev Ar:MF3:=
 (bd (aB u6 (ag (bS "Most" "pieces" (af 0)) nZ)))
abbrev u8:=aW 1 Ar
abbrev As:MF3:=
 (bd (kBl ae))
abbrev At:=aW 1 As
abbrev Au:MF3:=
 (dk (ag (bS "Out" "thing" (af 0)) nZ))
abbrev u9:=aW 1 Au
abbrev Av:MF3:=
 (bd (kBl ae))
abbrev Aw:=aW 1 Av
abbrev va:MF3:=
 (ap (uC 0 (bv "Spreading" "guards" (aX 0)) (af 1) (af 2))
  (ap (cX (a9 (af 2)) (aG 3) (cX (a9 (bG (aY "In" "named" u5 (af 3) λ_=>aa []) (bG (aY "Out" "named" u9 (af 3) λ_=>aa []) (bG (aY "Least" "named" u7 (af 3) λ_=>aa []) (aY "Most" "named" u8 (af 3) λ_=>aa []))))) (aG 4) (uD 0 1 (bv "Spreading" "watches" (aX 0)) (bw (ag (af 4) (ag (bG (aY "In" "wants" Am (af 3) λ_=>aa []) (bG (aY "Out" "wants" Aw (af 3) λ_=>aa []) (bG (aY "Least" "wants" Aq (af 3) λ_=>aa []) (aY "Most" "wants" At (af 3) λ_=>aa [])))) nZ))))))
  (pQ 0 (bv "Spreading" "waiting" (aX 0)) (af 1))))
abbrev rK:MTf:=ie 5 va
abbrev Ax(a:LD):Option (LSt×LD):=qR 2 [("thing",(af 1))] a
abbrev vb(a:LD):Option (LSt×LD):=qR 2 [("thing",(af 1))] a
abbrev Ay:MF3:=
 (dk (bu 2 [] (a9 (af 0)) (eS (b8 (aG 0) (b8 (aG 1) fQ))) kY (vIf (cw (af 1)) (ke "In" Ax (ag (af 0) nZ)) (ke "Out" vb (ag (af 0) nZ)))))
abbrev Az:=aW 1 Ay
abbrev vc:MF3:=
 (ap (jF (gj 0 "Spreading" "drop_wider" Aj (eX (mX (af 1)) ic)))
  (ap (bm 2 (bw (ag (kSt "bar") (ag (aB dC (ag (pB (bv "Spreading" "bars" (aX 0))) nZ)) nZ))))
  (ap (pQ 0 (bv "Spreading" "bars" (aX 0)) (af 1))
  (jF (gj 0 "Spreading" "take_guard" rK (eX (mX (af 2)) (eX (mX (aB Az (ag (af 1) nZ))) ic)))))))
abbrev AA:MTf:=ie 3 vc
abbrev AB(a:LD):Option (LSt×LD):=qR 3 [("bound",(af 1)),("pieces",(aI (ar 2)))] a
abbrev Fq(a:LD):Option (LSt×LD):=qR 3 [("bound",(af 1)),("pieces",(aI (ar 2)))] a
abbrev AC:MF3:=
 (ap (bm 1 (mIx (ar 0) (kI 0)))
  (ap (bz (mB (m2 dEq (af 1) (kSt "in"))) (bd (ke "In" Ax (ag (mIx (ar 0) (kI 1)) nZ))) bQ)
  (ap (bz (mB (m2 dEq (af 1) (kSt "out"))) (bd (ke "Out" vb (ag (mIx (ar 0) (kI 1)) nZ))) bQ)
  (ap (bz (mB (m2 dEq (af 1) (kSt "least"))) (bd (ke "Least" AB (ag (mIx (ar 0) (kI 1)) (ag (mIx (ar 0) (kI 2)) nZ)))) bQ)
  (bd (ke "Most" Fq (ag (mIx (ar 0) (kI 1)) (ag (mIx (ar 0) (kI 2)) nZ))))))))
abbrev AD:=aW 2 AC
abbrev b_1:MF3:=
 (dk (bu 1 [] (a9 (mIx (ar 0) (kI 2))) (aG 0) kY (aB AD (ag (af 0) nZ))))
abbrev m_1:=aW 1 b_1
abbrev o_1:=nR 1 b_1
abbrev vd:MF3:=
 (ap (bz (mB (m2 dEq (mIx (ar 0) (kI 0)) (kSt "may"))) (dk (ag (ke "Least" AB (ag (kI 1) (ag (aI nZ) nZ))) nZ)) bQ)
  (ap (fm 1 (pq o_1 (ag (af 0) nZ)))
  (ap (bz (mB (m2 dEq (mIx (ar 0) (kI 0)) (kSt "make"))) (hJ 1 (ke "Out" vb (ag (mIx (ar 0) (kI 1)) nZ))) bQ)
  (hE 1))))
abbrev ve:=aW 2 vd
abbrev b_8:MF3:=
 (ap (jH 0 "Spreading" "sheet" (aX 0) (mC (ar 3)))
  (ap (jH 0 "Spreading" "steps" (aX 0) (mC nZ))
  (ap (jH 0 "Spreading" "bars" (aX 0) (mC nZ))
  (ap (jH 0 "Spreading" "guards" (aX 0) (λ_=>aa (.dT [] [])))
  (ap (jH 0 "Spreading" "watches" (aX 0) (λ_=>aa (.dT [] [])))
  (ap (jH 0 "Spreading" "waiting" (aX 0) (mC nZ))
  (ap (jH 0 "Spreading" "makers" (aX 0) (pL (aI (bu 1 [] (a9 (mIx (ar 1) (kI 1))) (aG 0) (mB (m2 gD (mIx (ar 0) (kI 1)) kN)) (bw (ag (mIx (ar 0) (kI 1)) (ag (aB m_1 (ag (af 0) nZ)) nZ)))))))
  (ap (cX (nW (ag (mIx (ar 1) (kI 1)) nZ)) (eS (b8 (aG 5) (b8 (aG 4) fQ))) (jF (gj 0 "Spreading" "take_guard" rK (eX (mX (bw (ag (kSt "rule") (ag (af 5) nZ)))) (eX (mX (aB ve (ag (af 4) nZ))) ic)))))
  (cX (a9 (af 2)) (aG 6) (jF (gj 0 "Spreading" "take_bar" AA (eX (mX (af 6)) ic))))))))))))
abbrev m_8:MTf:=ie 7 b_8
abbrev vf:MF3:=
 (ap (uB 0 (bv "Spreading" "sheet" (aX 0)) (af 1) (af 2))
  (ap (pQ 0 (bv "Spreading" "steps" (aX 0)) (bw (ag (bw (ag (af 1) (ag (af 2) nZ))) (ag (af 3) nZ))))
  (uz 0 (bv "Spreading" "waiting" (aX 0)) (i6 (bv "Spreading" "watches" (aX 0)) (bw (ag (af 1) (ag (af 2) nZ)))))))
abbrev vg:MTf:=ie 4 vf
abbrev AE:MF3:=
 (bd (m2 dIs (mIx (ar 1) (bS "In" "thing" (af 0))) (kBl ab)))
abbrev AF:=aW 2 AE
abbrev AG:MF3:=
 (bd (vIf (mB (m2 dIs (mIx (ar 1) (bS "In" "thing" (af 0))) kN)) (aI (ag (bw (ag (bS "In" "thing" (af 0)) (ag (kBl ab) nZ))) nZ)) (aI nZ)))
abbrev AH:=aW 2 AG
abbrev AI:MF3:=
 (bd (aB jx (ag (aI (bu 2 [1] (a9 (af 0)) (eS (b8 (aG 0) (b8 (aG 1) fQ))) (mB (m2 dIs (mIx (ar 2) (af 0)) (kBl ab))) (af 1))) nZ)))
abbrev rL:=aW 2 AI
abbrev AJ:MF3:=
 (bd (m2 dGe (aB rL (ag (bS "Least" "pieces" (af 0)) (ag (af 1) nZ))) (bS "Least" "bound" (af 0))))
abbrev AK:=aW 2 AJ
abbrev vh:MF3:=
 (ap (ue 1)
  (ap (cX (a9 (af 0)) (eS (b8 (aG 2) (b8 (aG 3) fQ))) (lE 1 (af 2) (m2 cy (uw 1 (af 2) (kI 0)) (af 3))))
  (pM 1 (bd (af 1)))))
abbrev AL:=aW 4 vh
abbrev vi:MF3:=
 (ap (bm 3 (aB AL (ag (aI (bu 1 [1] (a9 (af 0)) (aG 0) (mB (m2 dIs (mIx (ar 1) (mIx (ar 0) (kI 0))) kN)) (af 0))) nZ)))
  (dk (bu 1 [2,3] (yJ (af 3)) (aG 0) (mB (m2 dGe (m2 yM (af 2) (af 0)) (af 1))) (af 0))))
abbrev vj:=aW 4 vi
abbrev vm:MF3:=
 (ap (bm 2 (m2 nI (bS "Least" "bound" (af 0)) (aB rL (ag (bS "Least" "pieces" (af 0)) (ag (af 1) nZ)))))
  (dk (bu 1 [] (a9 (aB vj (ag (bS "Least" "pieces" (af 0)) (ag (af 1) (ag (af 2) nZ))))) (aG 0) kY (bw (ag (af 0) (ag (kBl ab) nZ))))))
abbrev AM:=aW 3 vm
abbrev AN:MF3:=
 (bd (aB jx (ag (aI (bu 2 [1] (a9 (af 0)) (eS (b8 (aG 0) (b8 (aG 1) fQ))) (mB (m2 gD (mIx (ar 2) (af 0)) (kBl ae))) (af 1))) nZ)))
abbrev pY:=aW 2 AN
abbrev AO:MF3:=
 (bd (m2 dLe (aB pY (ag (bS "Most" "pieces" (af 0)) (ag (af 1) nZ))) (bS "Most" "bound" (af 0))))
abbrev AQ:=aW 2 AO
abbrev vn:MF3:=
 (ap (bm 2 (m2 nI (aB pY (ag (bS "Most" "pieces" (af 0)) (ag (af 1) nZ))) (bS "Most" "bound" (af 0))))
  (dk (bu 1 [] (a9 (aB vj (ag (bS "Most" "pieces" (af 0)) (ag (af 1) (ag (af 2) nZ))))) (aG 0) kY (bw (ag (af 0) (ag (kBl ae) nZ))))))
abbrev AR:=aW 3 vn
abbrev AS:MF3:=
 (bd (m2 dIs (mIx (ar 1) (bS "Out" "thing" (af 0))) (kBl ae)))
abbrev AT:=aW 2 AS
abbrev AU:MF3:=
 (bd (vIf (mB (m2 dIs (mIx (ar 1) (bS "Out" "thing" (af 0))) kN)) (aI (ag (bw (ag (bS "Out" "thing" (af 0)) (ag (kBl ae) nZ))) nZ)) (aI nZ)))
abbrev AV:=aW 2 AU
abbrev vo:MF3:=
 (ap (bm 2 kN)
  (ap (cX (a9 (af 0)) (aG 3) (bz (fc (cw (bG (aY "In" "sure" AF (af 3) (ag (af 1) nZ)) (bG (aY "Out" "sure" AT (af 3) (ag (af 1) nZ)) (bG (aY "Least" "sure" AK (af 3) (ag (af 1) nZ)) (aY "Most" "sure" AQ (af 3) (ag (af 1) nZ))))))) (ap (bm 4 (bG (aY "In" "tips" AH (af 3) (ag (af 1) nZ)) (bG (aY "Out" "tips" AV (af 3) (ag (af 1) nZ)) (bG (aY "Least" "tips" AM (af 3) (ag (af 1) nZ)) (aY "Most" "tips" AR (af 3) (ag (af 1) nZ))))))
  (ap (bm 2 (vIf (mB (m2 dIs (af 2) kN)) (af 4) (aI (bu 1 [4] (a9 (af 2)) (aG 0) (mB (m2 iC (af 0) (af 1))) (af 0)))))
  (bz (fc (cw (af 2))) (dk nZ) bQ))) bQ))
  (ap (bz (mB (m2 dIs (af 2) kN)) (bd kN) bQ)
  (dk (bu 2 [] (a9 (af 2)) (eS (b8 (aG 0) (b8 (aG 1) fQ))) kY (bw (ag (af 0) (ag (o8 (af 1)) nZ))))))))
abbrev AW(a:LD):Option (LD ⊕ D):=uF 5 vo a
abbrev vp:MF3:=
 (ap (iz (cw (pB (bv "Spreading" "waiting" (aX 0)))) (ap (lI 1 (uA 0 (bv "Spreading" "waiting" (aX 0))))
  (ap (bm 2 (rm AW (ag (pB (n8 (bv "Spreading" "guards" (aX 0)) (af 1))) (ag (pB (bv "Spreading" "sheet" (aX 0))) nZ))))
  (ap (bz (mB (m2 dIs (af 2) kN)) (kc (af 1)) bQ)
  (cX (a9 (af 2)) (eS (b8 (aG 3) (b8 (aG 4) fQ))) (jF (gj 0 "Spreading" "put" vg (eX (mX (af 3)) (eX (mX (af 4)) (eX (mX (af 1)) ic))))))))) 1000000000)
  (kc kN))
abbrev AX:MTf:=ie 5 vp
abbrev AY:MF3:=
 (bd (vOr (m2 dIs (mIx (ar 1) (bS "In" "thing" (af 0))) (kBl ae)) (mIx (ar 2) (bS "In" "thing" (af 0)))))
abbrev rM:=aW 3 AY
abbrev AZ:MF3:=
 (dk (bu 1 [1] (a9 (af 0)) (aG 0) (fc (cw (mIx (ar 1) (mIx (ar 0) (kI 0))))) (af 0)))
abbrev A0:=aW 2 AZ
abbrev A1:MF3:=
 (bd (m2 dLt (aB pY (ag (aB A0 (ag (bS "Least" "pieces" (af 0)) (ag (af 2) nZ))) (ag (af 1) nZ))) (bS "Least" "bound" (af 0))))
abbrev rN:=aW 3 A1
abbrev A2:MF3:=
 (bd (m2 dGt (aB rL (ag (bS "Most" "pieces" (af 0)) (ag (af 1) nZ))) (bS "Most" "bound" (af 0))))
abbrev rO:=aW 3 A2
abbrev A3:MF3:=
 (bd (m2 dIs (mIx (ar 1) (bS "Out" "thing" (af 0))) (kBl ab)))
abbrev rP:=aW 3 A3
abbrev b_7:MF3:=
 (ap (ue 2)
  (ap (cX (a9 (af 1)) (aG 3) (lE 2 (af 3) (kBl ab)))
  (gE 2 (dk (bu 1 [2] (iV (ag (af 0) nZ)) (aG 0) kY (m2 yb (af 0) (af 1)))))))
abbrev m_7:=aW 4 b_7
abbrev vq:MF3:=
 (ap (bz (cw (bG (aY "In" "lost" rM (af 1) (ag (bS "Spreading" "sheet" (af 0)) (ag (aB m_7 (ag (aB dC (ag (bS "Spreading" "sheet" (af 0)) nZ)) (ag (aI nZ) nZ))) nZ))) (bG (aY "Out" "lost" rP (af 1) (ag (bS "Spreading" "sheet" (af 0)) (ag (aB m_7 (ag (aB dC (ag (bS "Spreading" "sheet" (af 0)) nZ)) (ag (aI nZ) nZ))) nZ))) (bG (aY "Least" "lost" rN (af 1) (ag (bS "Spreading" "sheet" (af 0)) (ag (aB m_7 (ag (aB dC (ag (bS "Spreading" "sheet" (af 0)) nZ)) (ag (aI nZ) nZ))) nZ))) (aY "Most" "lost" rO (af 1) (ag (bS "Spreading" "sheet" (af 0)) (ag (aB m_7 (ag (aB dC (ag (bS "Spreading" "sheet" (af 0)) nZ)) (ag (aI nZ) nZ))) nZ))))))) (dk nZ) bQ)
  (dk (bu 1 [2] (a9 (bG (aY "In" "named" u5 (af 1) λ_=>aa []) (bG (aY "Out" "named" u9 (af 1) λ_=>aa []) (bG (aY "Least" "named" u7 (af 1) λ_=>aa []) (aY "Most" "named" u8 (af 1) λ_=>aa []))))) (aG 0) (cw (mIx (ar 1) (af 0))) (af 0))))
abbrev A4:=aW 3 vq
abbrev vt:MF3:=
 (ap (cX (a9 (af 0)) (aG 3) (bz (cw (bG (aY "In" "lost" rM (af 3) (ag (af 1) (ag (af 2) nZ))) (bG (aY "Out" "lost" rP (af 3) (ag (af 1) (ag (af 2) nZ))) (bG (aY "Least" "lost" rN (af 3) (ag (af 1) (ag (af 2) nZ))) (aY "Most" "lost" rO (af 3) (ag (af 1) (ag (af 2) nZ))))))) (hE 3) bQ))
  (bd kN))
abbrev rQ:=aW 4 vt
abbrev A5:MF3:=
 (dk (bu 2 [2,0,1] (a9 (bS "Spreading" "makers" (af 0))) (eS (b8 (aG 0) (b8 (aG 1) fQ))) (mB (m2 dEq (af 0) (af 4))) (aB rQ (ag (af 1) (ag (bS "Spreading" "sheet" (af 3)) (ag (af 2) nZ))))))
abbrev A6:=aW 3 A5
abbrev b_4:MF3:=
 (ap (fm 3 (ag (af 1) nZ))
  (ap (bm 4 (kI 0))
  (ap (iz (mB (m2 dLt (af 4) (aB dC (ag (g4 3) nZ)))) (ap (cX (a9 (aY "Spreading" "lost_parts" A6 (af 0) (ag (mIx (ar 3) (af 4)) (ag (af 2) nZ)))) (aG 5) (qN 3 (qM (aI (bu 1 [3] (a9 (aY "Spreading" "keeping" A4 (af 0) (ag (af 5) (ag (af 2) nZ)))) (aG 0) (mB (m2 pf (af 0) (g4 1))) (af 0))))))
  (q9 4 (mX (kI 1)))) 1000000000)
  (gE 3 (dk (qY (af 3)))))))
abbrev m_4:=aW 6 b_4
abbrev o_4:=nR 6 b_4
abbrev b_6:MF3:=
 (ap (fm 1 (bu 1 [] (pC (bv "Spreading" "sheet" (aX 0))) (aG 0) kY (m2 gD (af 0) (kBl ae))))
  (ap (fm 2 nZ)
  (ap (bm 3 (pD (bv "Spreading" "makers" (aX 0))))
  (ap (bm 4 (kBl ab))
  (ap (iz (cw (af 4)) (ap (bm 5 (aB dC (ag (g4 2) nZ)))
  (ap (fm 6 nZ)
  (ap (cX (a9 (af 3)) (aG 7) (bz (g5 (cw (mIx (ar 1) (mIx (ar 7) (kI 0)))) (mB (m2 dIs (aB rQ (ag (mIx (ar 7) (kI 1)) (ag (pB (bv "Spreading" "sheet" (aX 0))) (ag (g4 1) nZ)))) kN))) (ap (mq 1 (mIx (ar 7) (kI 0)) (kBl ae))
  (hJ 2 (af 7))) (hJ 6 (af 7))))
  (ap (gE 6 (bm 3 (af 6)))
  (bm 4 (iT (m2 dGt (aB dC (ag (g4 2) nZ)) (af 5)) (aB ua (ag (g4 1) nZ)))))))) 1000000000)
  (ap (gE 2 (jH 0 "Spreading" "makers" (aX 0) (pL (aI (mw (af 2) (af 3))))))
  (gE 1 (kc (af 1)))))))))
abbrev m_6:MTf:=ie 8 b_6
abbrev vv:MF3:=
 (ap (lI 1 (gj 0 "Spreading" "loose_marks" m_6 ic))
  (ap (bm 3 (aI (bu 2 [1] (E7 (pC (bv "Spreading" "sheet" (aX 0)))) (eS (b8 (aG 0) (b8 (aG 1) fQ))) (g5 (cw (mIx (ar 2) (af 0))) (mB (m2 dIs (af 1) (kBl ab)))) (af 0))))
  (ap (bz (cw (af 3)) (kc (bw (ag (kSt "group") (ag (aI (pU "Spreading" "kernel" o_4 (g4 0) (ag (mIx (ar 3) (kI 0)) (ag (af 1) nZ)))) nZ)))) bQ)
  (ap (cX (nW (ag (af 1) nZ)) (eS (b8 (aG 2) (b8 (aG 4) fQ))) (bz (cw (af 4)) (jF (gj 0 "Spreading" "put" vg (eX (mX (af 2)) (eX (mX (kBl ae)) (eX (mX (bw (ag (kSt "group") (ag (aI (pU "Spreading" "kernel" o_4 (g4 0) (ag (af 2) (ag (af 1) nZ)))) nZ)))) ic))))) bQ))
  (kc kN)))))
abbrev A7:MTf:=ie 5 vv
abbrev vw:MF3:=
 (ap (bm 1 (kBl ab))
  (ap (iz (cw (af 1)) (ap (lI 2 (gj 0 "Spreading" "look_round" AX ic))
  (ap (bz (mB (m2 dIs (af 2) kN)) (lI 2 (gj 0 "Spreading" "put_loose_out" A7 ic)) bQ)
  (bm 1 (iT (m2 dIs (af 2) kN) (m2 dGt (aB dC (ag (pB (bv "Spreading" "waiting" (aX 0))) nZ)) (kI 0)))))) 1000000000)
  (kc (af 2))))
abbrev A8:MTf:=ie 3 vw
abbrev b_5:MF3:=
 (ap (q5 3 (pT "Spreading" m_8 (ag (af 0) (ag (af 1) (ag (af 2) nZ)))))
  (ap (lI 4 (pR 3 "Spreading" "settle" A8 ic))
  (ap (uH 3 5 "Spreading" "steps")
  (ap (bz (mB (m2 gD (af 4) kN)) (hJ 5 (bw (ag kN (ag (af 4) nZ)))) bQ)
  (gE 5 (uG 3 "Spreading" "sheet" (bd (bw (ag (pD (bv "Spreading" "sheet" (aX 3))) (ag (af 5) nZ))))))))))
abbrev m_5:=aW 6 b_5
abbrev b_0:MF3:=
 (ap (bm 1 (aB m_2 (ag (aB pX (ag (af 0) (ag (kI 0) nZ))) (ag (kI 6) nZ))))
  (ap (bm 2 (m2 iU (m2 cy (m2 bx (mIx (ar 1) (kI 0)) (kI 20)) (kI 2)) (kI 3)))
  (ap (fm 3 (pq Ag (ag (m2 bx (mIx (ar 1) (kI 1)) (kI 5)) (ag (af 2) nZ))))
  (ap (cX (a9 (aI (mSl (af 0) (mPt (kI 3)) (mPt (kI 33))))) (aG 4) (hJ 3 (aB Ah (ag (af 4) (ag (af 2) (ag (m2 dEq (m2 bx (mIx (ar 1) (kI 2)) (kI 2)) (kI 0)) nZ))))))
  (ap (bm 5 (aB Ai (ag (aB pX (ag (af 0) (ag (kI 1) nZ))) (ag (af 2) nZ))))
  (ap (bm 6 (aI (bu 1 [2] (a9 (aB m_2 (ag (aB pX (ag (af 0) (ag (kI 2) nZ))) (ag (m2 bx (mIx (ar 1) (kI 3)) (kI 5)) nZ)))) (aG 0) kY (aB uT (ag (af 0) (ag (af 1) nZ))))))
  (ap (gE 3 (bm 7 (aB m_5 (ag (bw (ag (af 2) (ag (aB m_3 (ag (af 3) nZ)) nZ))) (ag (aI (bu 1 [] (a9 (af 6)) (aG 0) kY (aI (ar 0)))) (ag (aI (ar 5)) nZ))))))
  (ap (bz (fc (cw (aB uP (ag (af 7) (ag (af 5) nZ))))) (bd (kBl ae)) bQ)
  (ap (gE 3 (bm 8 (aI (ag (aB m_9 (ag (af 3) (ag (mIx (ar 1) (kI 4)) nZ))) (ag (aI (bu 1 [] (a9 (aB m_9 (ag (af 6) (ag (mIx (ar 1) (kI 5)) nZ)))) (aG 0) kY (aI (ar 0)))) nZ)))))
  (ap (bm 9 (aB m_5 (ag (bw (ag (af 2) (ag (aB m_3 (ag (mIx (ar 8) (kI 0)) nZ)) nZ))) (ag (mIx (ar 8) (kI 1)) (ag (aI (ar 5)) nZ)))))
  (ap (gE 3 (bm 10 (aB m_5 (ag (bw (ag (af 2) (ag (aB m_3 (ag (af 3) nZ)) nZ))) (ag (aI (bu 1 [] (a9 (af 6)) (aG 0) kY (aI (ar 0)))) (ag (aB Af (ag (af 7) (ag (af 5) nZ))) nZ))))))
  (bd (iT (aB uR (ag (af 7) (ag (af 9) (ag (af 5) nZ)))) (aB uR (ag (af 7) (ag (af 10) (ag (af 5) nZ)))))))))))))))))
abbrev m_0:=aW 11 b_0
variable{P:cH}{w:World}{K:aV}{mg:MGT}{base:Heap}{a:Wa}
def Oj(W:Wd K mg a):qD P w K mg base a 1 "_law_is_sheet" a.e_28 ["_law_found","_law_sheet_here"] Ab:=by
 refine W.e_28.pk (bh (F:=uM) W.e_28.F z8 λ_ _ _ _ _ _ c=>?_);have b:=c.units;unfold uM;exact (aw (bU (DW.dt (ju (g6 (da (DE.db (lA (T:="list") W.is_list rfl W.z_isinstance ik rfl W.z_list (DE.db (dv 0)))))) (lw (bj (mm b) ml (DE.db (dB eQ eR rfl W.z_len eO (cv (DE.db (dv 0)) cV))) (DE.db (dB eQ eR rfl W.z_len eO (cv (DE.db (dv 1)) cV))))))) (aq (bn cu)) bY)
 (aw (dZ c7 rfl (KF rfl W.z_zip (ah (dv 0) (ah (dv 1) ak))) (g9 rfl (cS (cW 2 4 z8.nd) (cS (cW 3 4 z8.nd) g8))) (aq (bU (DW.dt (ju (DW.dt (o7 (bj mi mj (DE.db (dv 2)) (DE.db cJ)) (qJ (g6 (da (DE.db (lA (T:="bool") W.is_bool rfl W.z_isinstance boot_bool rfl W.z_bool (DE.db (dv 2))))))))) (lw (DW.dt (o7 (bj mi mj (DE.db (dv 3)) (DE.db cJ)) (qJ (bj (mm b) ml (DE.db (dv 2)) (DE.db (dv 3))))))))) (aq (bn cu)) bY)))
 (aq (bn cu))))
def Ol(W:Wd K mg a):qD P w K mg base a 1 "_law_is_step" a.e_40 ["_law_step","_law_many"] Ac:=by
 refine W.e_40.pk (bh (F:=uN) W.e_40.F Fk λ_ _ _ _ _ _ c=>?_);have b:=c.units;unfold uN;exact (aw (bU (DW.dt (ju (g6 (da (DE.db (lA (T:="tuple") W.is_tuple rfl W.z_isinstance boot_tuple rfl W.z_tuple (DE.db (dv 0)))))) (lw (bj (mm b) ml (DE.db (dB eQ eR rfl W.z_len eO (cv (DE.db (dv 0)) cV))) (DE.db aj))))) (aq (bn cu)) bY)
 (aw (bR 2 Fk.nd (az (dvC 0) aj))
 (aw (bU (bj fO fP (DE.db (dv 2)) (DE.db cJ)) (aq (bn cu)) bY)
 (aw (bU (DW.dt (ju (g6 (da (DE.db (lA (T:="tuple") W.is_tuple rfl W.z_isinstance boot_tuple rfl W.z_tuple (DE.db (dv 2)))))) (ju (bj (mm b) ml (DE.db (dB eQ eR rfl W.z_len eO (cv (DE.db (dv 2)) cV))) (DE.db aj)) (lw (g6 (da (DE.db (lA (T:="bool") W.is_bool rfl W.z_isinstance boot_bool rfl W.z_bool (DE.db (az (dvC 2) aj)))))))))) (aq (bn cu)) bY)
 (aq (bn (o9 (lA (T:="int") W.is_int rfl W.z_isinstance boot_int rfl W.z_int (DE.db (az (dvC 2) aj))) (o9 (Dc (lA (T:="bool") W.is_bool rfl W.z_isinstance boot_bool rfl W.z_bool (DE.db (az (dvC 2) aj)))) (nH (Mh Dd Dg tN tP (DE.db aj) (DE.db (az (dvC 2) aj)) (DE.db (dv 1))))))))))))
def Fs(W:Wd K mg a):qD P w K mg base a 2 "_law_end" a.e_29 ["_law_found","_law_sheet_here"] uP:=by
 refine W.e_29.pk (bh (F:=uO) W.e_29.F NR λ_ _ _ _ _ _ b=>?_);have c:=b.units;unfold uO;exact (aw (bU (DW.dt (ju (g6 (da (DE.db (lA (T:="tuple") W.is_tuple rfl W.z_isinstance boot_tuple rfl W.z_tuple (DE.db (dv 0)))))) (ju (bj (mm c) ml (DE.db (dB eQ eR rfl W.z_len eO (cv (DE.db (dv 0)) cV))) (DE.db aj)) (lw (g6 (da (DE.db (bg (Oj W) b (ah (az (dvC 0) aj) (ah (dv 1) ak)))))))))) (aq (bn cu)) bY)
 (aw (bU (g6 (da (DE.db (lA (T:="list") W.is_list rfl W.z_isinstance ik rfl W.z_list (DE.db (az (dvC 0) aj)))))) (aq (bn cu)) bY)
 (aq (bn (dB (Ld rfl) Lf rfl W.z_all boot_all (cv (DE.db (DO.de (dg 1 [1] ["_law_step","_law_sheet_here"] rfl (DI.de (bL (az (dvC 0) aj))) (λ_ _ _ _ _=>(dgc 0 1)) (λ_ _ _ _ _=>eC) (λ_ _ _ _ _=>(bg (Ol W) b (ah (dvc 0) (ah (dB eQ eR (glc rfl) W.z_len eO (cv (DE.db (dvc 1)) cV)) ak))))))) cV))))))
def A9(W:Wd K mg a):qD P w K mg base a 1 "_law_ended" a.e_23 ["_law_found"] rG:=by
 refine W.e_23.pk (bh (F:=Ad) W.e_23.F NS λ_ _ _ _ _ _ b=>?_);have c:=b.units;unfold Ad;exact(aq (bn (o9 (fN (mm c) ml (DE.db (az (dvC 0) aj)) (DE.db (DO.de (bK ak)))) (nH (fN fO fP (DE.db (az (DE.dc (az (DE.dc (az (dvC 0) aj)) (Kq aj))) aj)) (DE.db cJ))))))
def Ft(W:Wd K mg a):qD P w K mg base a 3 "_law_alike" a.e_31 ["_law_first","_law_second","_law_sheet_here"] uR:=by
 refine W.e_31.pk (bh (F:=uQ) W.e_31.F NT λ_ _ _ _ _ _ b=>?_);have c:=b.units;unfold uQ;exact (aw (bU (DW.dt (ju (g6 (da (DE.db (bg (Fs W) b (ah (dv 1) (ah (dv 2) ak)))))) (lw (bj (mm c) ml (DE.db (bg (A9 W) b (ah (dv 0) ak))) (DE.db (bg (A9 W) b (ah (dv 1) ak))))))) (aq (bn cu)) bY)
 (aq (bn (Db (bg (A9 W) b (ah (dv 0) ak)) (nH (fN (dQ c) dP (DE.db (az (dvC 0) aj)) (DE.db (az (dvC 1) aj))))))))
def rR(W:Wd K mg a):qD P w K mg base a 1 "_law_mixed" a.e_2 ["_law_cell","_law_many"] m_2:=by
 refine W.e_2.pk (bh (F:=b_2) W.e_2.F rp λ_ _ _ _ _ _ b=>?_);unfold b_2;exact (aw (j9 2 rp.nd (bK ak))
 (aw (bR 3 rp.nd (aK fh (aK jE (aK ce (dv 0) aj) aj) aj))
 (aw (dZ c7 rfl (ph rfl W.z_range (ah (dv 1) ak)) (cW 4 5 rp.nd) (aw (bR 3 rp.nd (aK ce (aK fh (aK fh (aK jE (dv 3) (aK fh (dv 3) aj)) (aK jE aj (dv 4))) aj) aj))
 (aq (lB (fL (fM fI ip iq ix (pv 2) (dz (dv 3) c8)))))))
 (aq (nQ 2)))))
def Om(W:Wd K mg a):qD P w K mg base a 2 "_law_bar" a.e_27 ["_law_cell","_law_many"] uT:=by
 refine W.e_27.pk (bh (F:=uS) W.e_27.F Fi λ_ _ _ _ _ _ c=>?_);have b:=c.units;unfold uS;exact (aw (bR 2 Fi.nd (bg (rR W) c (ah (dv 0) (ah aj ak))))
 (aw (bU (DW.dt (ju (bj (dQ b) dP (DE.db (dv 1)) (DE.db aj)) (lw (bj (dQ b) dP (DE.db (aK ce (az (dvC 2) aj) aj)) (DE.db aj))))) (aq (dR (bK ak))) bY)
 (aq (dR (dg 1 [1,2] ["_law_k","_law_many","_law_xs"] rfl (DI.de (ph rfl W.z_range (ah (aK fh aj (aK ce (az (dvC 2) aj) (Ky (MO rfl) rfl W.z_min boot_min (ah aj (ah (dv 1) ak))))) ak))) (λ_ _ _ _ _=>(dgc 0 1)) (λ_ _ _ _ _=>eC) (λ_ _ _ _ _=>(bX (ah (aK ce (aK fh (az (fS 2) aj) (dvc 0)) (dvc 1)) (ah (fN (dQ b) dP (DE.db (aK ce (az (fS 2) (aK fh aj (dvc 0))) aj)) (DE.db aj)) ak)))))))))
def Ba(W:Wd K mg a):qD P w K mg base a 1 "_law_cell_at" a.e_15 ["_law_script","_law_k"] pX:=by
 refine W.e_15.pk (bh (F:=Ae) W.e_15.F NP λ_ _ _ _ _ _ b=>?_);unfold Ae;exact (aw (bU (bj tN tP (DE.db (dv 1)) (DE.db (dB eQ eR rfl W.z_len eO (cv (DE.db (dv 0)) cV)))) (aq (bn (az (dvC 0) (dv 1)))) bY)
 (aq (bn aj)))
def Bb(W:Wd K mg a):qD P w K mg base a 1 "_law_copy" a.e_3 ["_law_rules"] m_3:=by
 refine W.e_3.pk (bh (F:=b_3) W.e_3.F mG λ_ _ _ _ _ _ b=>?_);have c:=b.units;unfold b_3;exact (aw (j9 1 mG.nd (bK ak))
 (aw (dZ c7 rfl (bL (dv 0)) (g9 rfl (cS (cW 2 7 mG.nd) (cS (cW 3 7 mG.nd) (cS (cW 4 7 mG.nd) g8)))) (aw (j9 5 mG.nd (bK ak))
 (aw (dZ c7 rfl (bL (dv 4)) (cW 6 7 mG.nd) (aw (bU (bj (dQ c) dP (DE.db (dB eQ eR rfl W.z_len eO (cv (DE.db (dv 6)) cV))) (DE.db aj)) (aq (bR 6 mG.nd (bX (ah (az (dvC 6) aj) (ah (az (dvC 6) aj) (ah (DO.de (j8 ik rfl W.z_list (DE.dc (az (dvC 6) aj)))) ak)))))) bY)
 (aq (lB (fL (fM fI ip iq ix (pv 5) (dz (dv 6) c8)))))))
 (aq (jz 5 (lB (fL (fM fI ip iq ix (pv 1) (dz (bX (ah (dv 2) (ah (dv 3) (ah (dv 5) ak)))) c8)))))))))
 (aq (nQ 1))))
def On(W:Wd K mg a):qD P w K mg base a 1 "_law_half" a.e_30 ["_law_found","_law_sheet_here"] Af:=by
 refine W.e_30.pk (bh (F:=uU) W.e_30.F z9 λ_ _ _ _ _ _ d=>?_);unfold uU;exact (aw (j9 2 z9.nd (j8 ik rfl W.z_list (dvC 1)))
 (aw (dZ c7 rfl (bL (DO.de (by refine ly ?a ?b ?c; (case a=>exact (az (dvC 0) aj)); (case b=>exact nN); (case c=>exact (jw (aK lx (aK fh (dB eQ eR rfl W.z_len eO (cv (DE.db (az (dvC 0) aj)) cV)) aj) aj)))))) (cW 3 4 z9.nd) (aq (bU (bj mi mj (DE.db (az (dvC 3) aj)) (DE.db cJ)) (aq (D5 (pv 2) (az (DE.dc (az (dvC 3) aj)) aj) (az (DE.dc (az (dvC 3) aj)) aj))) bY)))
 (aq (nQ 2))))
def Oo(W:Wd K mg a):qO P w K mg base a 1 "_law_ring" a.e_10 ["_law_kind","_law_many"] Ag:=by
 refine W.e_10.pk (xS (F:=rH) W.e_10.F rq λ_ _ _ _ _ _ b=>?_);unfold rH;exact (aw (j9 2 rq.nd (bK ak))
 (aw (dZ c7 rfl (ph rfl W.z_range (ah (dv 1) ak)) (cW 3 6 rq.nd) (aw (bR 4 rq.nd (aK ce (aK fh (dv 3) aj) (dv 1)))
 (aw (bR 5 rq.nd (az (DO.dc (bK (ah cJ (ah (bX (ah cR (ah (dv 3) ak))) (ah (bX (ah cR (ah (dv 3) ak))) (ah (bX (ah cR (ah aj (ah (DO.de (bK (ah (bX (ah (dv 3) (ah aj ak))) (ah (bX (ah (dv 4) (ah aj ak))) ak)))) ak)))) (ah (bX (ah cR (ah aj (ah (DO.de (bK (ah (bX (ah (dv 3) (ah aj ak))) ak))) ak)))) ak))))))) (dv 0)))
 (aq (bU (bj mi mj (DE.db (dv 5)) (DE.db cJ)) (aq (lB (fL (fM fI ip iq ix (pv 2) (dz (bX (ah (az (DO.dc (bK (ah cR (ah cR ak)))) (aK lx (aK ce (aK jE (dv 3) (dv 0)) aj) aj)) (ah (dv 4) (ah (DO.de (bK (ah (dv 5) ak))) ak)))) c8))))) bY)))))
 (aq (nQ 2))))
def Op(W:Wd K mg a):qD P w K mg base a 1 "_law_worth" a.e_25 ["_law_x"] rJ:=by
 refine W.e_25.pk (bh (F:=uV) W.e_25.F NQ λ_ _ _ _ _ _ b=>?_);have c:=b.units;unfold uV;exact (aw (bU (bj (dQ c) dP (DE.db (aK ce (dv 0) aj)) (DE.db aj)) (aq (bn (aK ce (aK jE (aK jE (aK jE (dv 0) (dv 0)) (dv 0)) (dv 0)) (aK Kp aj aj)))) bY)
 (aq (bn (az (DO.dc (bK (ah aj (ah aj (ah aj (ah aj (ah aj (ah aj (ah aj (ah aj ak)))))))))) (aK ce (aK lx (dv 0) aj) aj)))))
def Oq(W:Wd K mg a):qD P w K mg base a 2 "_law_part" a.e_16 ["_law_xs","_law_many"] uX:=by
 refine W.e_16.pk (bh (F:=uW) W.e_16.F uK λ_ _ _ _ _ _ d=>?_);have e:=d.units;unfold uW;exact (aw (bR 2 uK.nd (az (DO.dc (bK (ah cR (ah cR (ah cR (ah cR (ah cR ak))))))) (aK ce (az (dvC 0) aj) aj)))
 (aw (bU (DW.dt (ju (bj (dQ e) dP (DE.db (dv 2)) (DE.db cR)) (lw (bj (dQ e) dP (DE.db (dv 2)) (DE.db cR))))) (aq (bn (bX (ah (dv 2) (ah (aK ce (az (dvC 0) aj) (dv 1)) ak))))) bY)
 (aw (t4 3 1 [1,0] ["_law_k","_law_many","_law_xs"] uK.nd rfl (DI.de (ph rfl W.z_range (ah (aK ce (az (dvC 0) aj) aj) ak))) (λ_ _ _ _ _=>(dgc 0 1)) (λ_ _ _ _ _=>eC) (λ_ _ _ _ _=>(bX (ah (aK ce (az (fS 2) (aK fh aj (aK jE aj (dvc 0)))) (dvc 1)) (ah (bg (Op W) d (ah (az (fS 2) (aK fh aj (aK jE aj (dvc 0)))) ak)) ak)))))
 (aw (bR 4 uK.nd (dB (xI rfl) xJ rfl W.z_sum boot_sum (cv (DE.db (DO.de (dg 2 [] ["_law_thing","_law_worth_here"] rfl (DI.de (bL (DO.de (by refine ly ?a ?b ?c; (case a=>exact (dv 3)); (case b=>exact nN); (case c=>exact (jw (aK ce (az (dvC 0) aj) aj))))))) (λ_ _ _ _ _=>(g9 rfl (cS (dgc 0 2) (cS (dgc 1 2) g8)))) (λ_ _ _ _ _=>eC) (λ_ _ _ _ _=>(dvc 1))))) cV)))
 (aq (bn (bX (ah (dv 2) (ah (aK tM (aK fh (dv 4) (aK ce (aK lx (az (dvC 0) aj) aj) aj)) aj) (ah (dv 3) ak))))))))))
def Os(W:Wd K mg a):qD P w K mg base a 3 "_law_rule" a.e_26 ["_law_cell","_law_many","_law_calm"] Ah:=by
 refine W.e_26.pk (bh (F:=uY) W.e_26.F z7 λ_ _ _ _ _ _ e=>?_);have d:=e.units;unfold uY;refine (aw (bR 3 z7.nd (bg (rR W) e (ah (dv 0) (ah aj ak))))
 (aw (bU (bj (dQ d) dP (DE.db (dv 1)) (DE.db aj)) ?hole0 bY)
 (aw (t4 4 1 [1,3] ["_law_k","_law_many","_law_xs"] z7.nd rfl (DI.de (ph rfl W.z_range (ah (az (DO.dc (bK (ah aj (ah aj (ah aj (ah aj (ah aj (ah aj ak)))))))) (aK ce (az (dvC 3) aj) aj)) ak))) (λ_ _ _ _ _=>(dgc 0 1)) (λ_ _ _ _ _=>eC) (λ_ _ _ _ _=>(bg (Oq W) e (ah (DO.de (by refine ly ?a ?b ?c; (case a=>exact (dvc 2)); (case b=>exact (jw (aK fh aj (aK jE aj (dvc 0))))); (case c=>exact (jw (aK fh aj (aK jE aj (dvc 0))))))) (ah (dvc 1) ak)))))
 (aw (bU (DW.dt (o7 (bj (dQ d) dP (DE.db (aK ce (az (dvC 3) aj) aj)) (DE.db aj)) (o7 (g6 (da (DE.db (dv 2)))) (qJ (DW.dt (ju (bj (mm d) ml (DE.db (dv 4)) (DE.db (DO.de (bK ak)))) (lw (bj (dQ d) dP (DE.db (aK ce (az (dvC 3) aj) aj)) (DE.db aj))))))))) (aq (bn (bX (ah cR (ah cJ (ah (dv 4) ak)))))) bY)
 (aq (bn (bX (ah (az (DO.dc (bK (ah cR (ah cR ak)))) (aK ce (aK lx (az (dvC 3) aj) aj) aj)) (ah (aK ce (aK lx (az (dvC 3) aj) aj) (dv 1)) (ah (dv 4) ak))))))))))
 (case hole0=>refine aq ?_;refine bn ?_;refine bX ?_;refine ah ?_ ?_;(focus exact cR);refine ah ?_ ?_;(focus exact cJ);refine ah ?_ ?_;(focus (refine DO.de ?_;exact(by refine ly ?a ?b ?c;(case a=>exact(DO.de (bK (ah (bX (ah (az (DO.dc (bK (ah cR (ah cR ak)))) (aK ce (az (dvC 3) aj) aj)) (ah (aK tM (aK ce (az (dvC 3) aj) aj) aj) (ah (DO.de (bK ak)) ak)))) ak))));(case b=>exact nN);(case c=>exact(jw (aK ce (az (dvC 3) aj) aj))))));exact ak)
def Ot(W:Wd K mg a):qD P w K mg base a 2 "_law_sheet" a.e_39 ["_law_cell","_law_many"] Ai:=by
 refine W.e_39.pk (bh (F:=uZ) W.e_39.F Fj λ_ _ _ _ _ _ d=>?_);have e:=d.units;unfold uZ;exact (aw (bR 2 Fj.nd (bg (rR W) d (ah (dv 0) (ah (aK fh (dv 1) aj) ak))))
 (aw (bU (bj (dQ e) dP (DE.db (aK ce (az (dvC 2) (dv 1)) aj)) (DE.db aj)) (aq (dR (dg 1 [] ["_law_x"] rfl (DI.de (bL (DO.de (by refine ly ?a ?b ?c; (case a=>exact (dv 2)); (case b=>exact nN); (case c=>exact (jw (dv 1))))))) (λ_ _ _ _ _=>(dgc 0 1)) (λ_ _ _ _ _=>eC) (λ_ _ _ _ _=>cJ)))) bY)
 (aq (dR (dg 1 [] ["_law_x"] rfl (DI.de (bL (DO.de (by refine ly ?a ?b ?c;(case a=>exact(dv 2));(case b=>exact nN);(case c=>exact(jw (dv 1))))))) (λ_ _ _ _ _=>(dgc 0 1)) (λ_ _ _ _ _=>eC) (λ_ _ _ _ _=>(az (DO.dc (bK (ah cJ (ah cJ (ah cJ (ah cu (ah cu ak))))))) (aK ce (dvc 0) aj))))))))
def Fu(W:Wd K mg a):qD P w K mg base a 1 "_law_turned" a.e_9 ["_law_rows","_law_x"] m_9:=by
 refine W.e_9.pk (bh (F:=b_9) W.e_9.F rA λ_ _ _ _ _ _ e=>?_);have d:=e.units;unfold b_9;exact (aw (bR 2 rA.nd (aK ce (aK lx (dv 1) aj) (aK fh (dB eQ eR rfl W.z_len eO (cv (DE.db (dv 0)) cV)) aj)))
 (aw (bR 3 rA.nd (DO.de (yw (DO.de (by refine ly ?a ?b ?c; (case a=>exact (dv 0)); (case b=>exact (jw (dv 2))); (case c=>exact nN))) (DO.de (by refine ly ?a ?b ?c; (case a=>exact (dv 0)); (case b=>exact nN); (case c=>exact (jw (dv 2))))))))
 (aw (bU (bj (dQ d) dP (DE.db (aK ce (dv 1) aj)) (DE.db aj)) (aq (bR 3 rA.nd (DO.de (MN 3 rfl rfl W.z_list rfl W.z_reversed)))) bY)
 (aw (bU (bj (dQ d) dP (DE.db (aK ce (aK lx (dv 1) aj) aj)) (DE.db aj)) (aq (bR 3 rA.nd (DO.de (yw (dv 3) (dv 3))))) bY)
 (aq (nQ 3))))))
def Ou(W:Wd K mg a):Pm P w K mg base CX0 1 (a.cl "Spreading") "drop_wider" a.e_12 ["self","bar"] (fX ⟨K,a.cl⟩ ["self","bar"].length Aj):=by
 refine W.e_12.pk W.cl_Spreading (lJ (F:=u4) W.e_12.F pW λ_ _ _ _ _ _ c=>?_);have b:=c.units;unfold u4
 exact (ND (w:=2) (pr:=3) (by decide) (NE (by decide)) NF (by decide) (nA pW.nd rfl (by first | exact b7 rfl | exact bB rfl) (Cb (da (DE.db (dv 1))) (yT (hu1 b) (dD "Spreading" W.cl_Spreading W.na_Spreading_watches (cz (pv 0))) (az (dvC 1) aj) ⟨rfl,rfl,rfl,rfl⟩) (tf c8))) (Ch c7 rfl (bL (dv 1)) (wR pW.nd rfl (by first | exact b7 rfl | exact bB rfl)) (Cd (xB (g:=tDG _ (aG 0)) (tt:=tDT _ (mB (m2 iC (af 0) (aI (i6 (bv "Spreading" "watches" (aX 2)) (af 1)))))) (te:=tD _ (af 0)) 1 [3,0] ["why","pair","self"] pW.nd rfl (by first | exact b7 rfl | exact bB rfl) rfl (wV (pv 2)) (λ_ _ _ _ _=>DG.pg (dgc 0 1)) (λ_ _ _ _ _=>(iW (bj (D9 b) D7 (DE.db (dvc 0)) (DL.db (yT (hu1 b) (dD "Spreading" W.cl_Spreading W.na_Spreading_watches (cz (pvc 2))) (dvc 1) ⟨rfl,rfl,rfl,rfl⟩))))) (λ_ _ _ _ _=>(dvc 0)))))
 (aq (jz 2 (dZ c7 rfl (bL (dv 2)) (cW 4 5 pW.nd) (aq (bU (bj (dQ b) dP (DE.db (az (dvC 4) aj)) (DE.db cR)) (aq (dZ c7 rfl (bL (az (DL.dc (yS (dD "Spreading" W.cl_Spreading W.na_Spreading_bars (cz (pv 0))))) (az (dvC 4) aj))) (cW 3 5 pW.nd) (aq (NA (fL (fM fI PySem.F.slot_list_remove PySem.F.type_list_remove (Nz b) (EX (hu1 b) (dD "Spreading" W.cl_Spreading W.na_Spreading_watches (cz (pv 0))) (dv 3)) (dz (dv 4) c8))))))) bY))))))
def Fv(W:Wd K mg a):Pm P w K mg base CX0 1 (a.cl "In") "named" a.e_41 ["self"] (spD ⟨K,a.cl⟩ ["self"].length u5):=by
 refine W.e_41.pk W.cl_In (bh (F:=Ak) W.e_41.F NV λ_ _ _ _ _ _ b=>?_);unfold Ak;exact(aq (dR (bK (ah (bZ "In" W.cl_In W.na_In_thing (dv 0)) ak))))
def Ov(W:Wd K mg a):Pm P w K mg base CX0 1 (a.cl "In") "wants" a.e_51 ["self"] (spD ⟨K,a.cl⟩ ["self"].length Am):=by
 refine W.e_51.pk W.cl_In (bh (F:=Al) W.e_51.F NW λ_ _ _ _ _ _ b=>?_);unfold Al;exact(aq (bn cu))
def Fw(W:Wd K mg a):qD P w K mg base a 1 "things_of" a.e_38 ["items"] u6:=by
 refine W.e_38.pk (bh (F:=An) W.e_38.F NK λ_ _ _ _ _ _ b=>?_);unfold An;exact(aq (dR (L9 rfl rfl W.z_sorted rfl W.z_set (DO.de (dg 2 [] ["thing","worth"] rfl (DI.de (bL (dv 0))) (λ_ _ _ _ _=>(g9 rfl (cS (dgc 0 2) (cS (dgc 1 2) g8)))) (λ_ _ _ _ _=>eC) (λ_ _ _ _ _=>(dvc 0)))))))
def Fx(W:Wd K mg a):Pm P w K mg base CX0 2 (a.cl "Least") "named" a.e_43 ["self"] (spD ⟨K,a.cl⟩ ["self"].length u7):=by
 refine W.e_43.pk W.cl_Least (bh (F:=Ao) W.e_43.F N7 λ_ _ _ _ _ _ b=>?_);unfold Ao;exact(aq (bn (bg (Fw W) b (ah (bZ "Least" W.cl_Least W.na_Least_pieces (dv 0)) ak))))
def Ow(W:Wd K mg a):Pm P w K mg base CX0 1 (a.cl "Least") "wants" a.e_58 ["self"] (spD ⟨K,a.cl⟩ ["self"].length Aq):=by
 refine W.e_58.pk W.cl_Least (bh (F:=Ap) W.e_58.F N8 λ_ _ _ _ _ _ b=>?_);unfold Ap;exact(aq (bn cu))
def Fy(W:Wd K mg a):Pm P w K mg base CX0 2 (a.cl "Most") "named" a.e_45 ["self"] (spD ⟨K,a.cl⟩ ["self"].length u8):=by
 refine W.e_45.pk W.cl_Most (bh (F:=Ar) W.e_45.F Oc λ_ _ _ _ _ _ b=>?_);unfold Ar;exact(aq (bn (bg (Fw W) b (ah (bZ "Most" W.cl_Most W.na_Most_pieces (dv 0)) ak))))
def Ox(W:Wd K mg a):Pm P w K mg base CX0 1 (a.cl "Most") "wants" a.e_60 ["self"] (spD ⟨K,a.cl⟩ ["self"].length At):=by
 refine W.e_60.pk W.cl_Most (bh (F:=As) W.e_60.F Od λ_ _ _ _ _ _ b=>?_);unfold As;exact(aq (bn cu))
def Fz(W:Wd K mg a):Pm P w K mg base CX0 1 (a.cl "Out") "named" a.e_42 ["self"] (spD ⟨K,a.cl⟩ ["self"].length u9):=by
 refine W.e_42.pk W.cl_Out (bh (F:=Au) W.e_42.F N1 λ_ _ _ _ _ _ b=>?_);unfold Au;exact(aq (dR (bK (ah (bZ "Out" W.cl_Out W.na_Out_thing (dv 0)) ak))))
def Oy(W:Wd K mg a):Pm P w K mg base CX0 1 (a.cl "Out") "wants" a.e_55 ["self"] (spD ⟨K,a.cl⟩ ["self"].length Aw):=by
 refine W.e_55.pk W.cl_Out (bh (F:=Av) W.e_55.F N2 λ_ _ _ _ _ _ b=>?_);unfold Av;exact(aq (bn cu))
def FA(W:Wd K mg a):Pm P w K mg base CX0 3 (a.cl "Spreading") "take_guard" a.e_11 ["self","why","guard"] (fX ⟨K,a.cl⟩ ["self","why","guard"].length rK):=by
 refine W.e_11.pk W.cl_Spreading (lJ (F:=va) W.e_11.F Aa λ_ _ _ _ _ _ b=>?_);have c:=b.units;unfold va;exact (aw (Nj (CU (hu1 c) (dD "Spreading" W.cl_Spreading W.na_Spreading_guards (cz (pv 0))) (dv 1) (dv 2) rfl))
 (aw (dZ c7 rfl (bL (dv 2)) (cW 3 5 Aa.nd) (aq (dZ c7 rfl (bL (DE.orE (iY "In" (dv 3) (Fv W) b) (DE.orE (iY "Out" (dv 3) (Fz W) b) (DE.orE (iY "Least" (dv 3) (Fx W) b) (iY "Most" (dv 3) (Fy W) b))))) (cW 4 5 Aa.nd) (aq (Np (fL (fM fI ip iq ix (No (hu1 c) (dD "Spreading" W.cl_Spreading W.na_Spreading_watches (cz (pv 0))) (bX (ah (dv 4) (ah (DE.orE (iY "In" (dv 3) (Ov W) b) (DE.orE (iY "Out" (dv 3) (Oy W) b) (DE.orE (iY "Least" (dv 3) (Ow W) b) (iY "Most" (dv 3) (Ox W) b)))) ak))) (tf c8) ⟨rfl,rfl,rfl,rfl⟩) (dz (pv 1) c8))))))))
 (aq (yU (fL (fM fI ip iq ix (dD "Spreading" W.cl_Spreading W.na_Spreading_waiting (cz (pv 0))) (dz (dv 1) c8)))))))
def FB(W:Wd K mg a):Pm P w K mg base CX0 1 (a.cl "In") "__init__" a.e_64 ["self","thing"] (spI ⟨K,a.cl⟩ "In" ["self","thing"].length Ax):=
 W.e_64.pk W.cl_In (t7 W.e_64.F NU λ_ _ _ _ _ _ b=>(py W.cl_In W.na_In_thing (pv 0) (dv 1) t6))
def Bc(W:Wd K mg a):Pm P w K mg base CX0 1 (a.cl "Out") "__init__" a.e_54 ["self","thing"] (spI ⟨K,a.cl⟩ "Out" ["self","thing"].length vb):=
 W.e_54.pk W.cl_Out (t7 W.e_54.F N0 λ_ _ _ _ _ _ b=>(py W.cl_Out W.na_Out_thing (pv 0) (dv 1) t6))
def Oz(W:Wd K mg a):qD P w K mg base a 3 "guard_of_bar" a.e_50 ["bar"] Az:=by
 refine W.e_50.pk (bh (F:=Ay) W.e_50.F NO λ_ _ _ _ _ _ c=>?_);unfold Ay;exact(aq (dR (dg 2 [] ["thing","truth"] rfl (DI.de (bL (dv 0))) (λ_ _ _ _ _=>(g9 rfl (cS (dgc 0 2) (cS (dgc 1 2) g8)))) (λ_ _ _ _ _=>eC) (λ_ _ _ _ _=>(tK (da (DE.db (dvc 1))) (mn "In" W.mk_In (FB W).ok (c.mono (by decide)) (glc rfl) W.g_In W.e_64.b (ah (dvc 0) ak)) (mn "Out" W.mk_Out (Bc W).ok (c.mono (by decide)) (glc rfl) W.g_Out W.e_54.b (ah (dvc 0) ak)))))))
def OA(W:Wd K mg a):Pm P w K mg base CX0 4 (a.cl "Spreading") "take_bar" a.e_47 ["self","bar"] (fX ⟨K,a.cl⟩ ["self","bar"].length AA):=by
 refine W.e_47.pk W.cl_Spreading (lJ (F:=vc) W.e_47.F Fp λ_ _ _ _ _ _ b=>?_);unfold vc;exact (aw (pK (pS "Spreading" (pv 0) (Ou W) b (i5 (DE.dx (dv 1)) pN)))
 (aw (bR 2 Fp.nd (bX (ah cR (ah (dB eQ eR rfl W.z_len eO (cv (pO (dD "Spreading" W.cl_Spreading W.na_Spreading_bars (cz (pv 0)))) cV)) ak))))
 (aw (yU (fL (fM fI ip iq ix (dD "Spreading" W.cl_Spreading W.na_Spreading_bars (cz (pv 0))) (dz (dv 1) c8))))
 (aq (pK (pS "Spreading" (pv 0) (FA W) b (i5 (DE.dx (dv 2)) (i5 (DE.dx (bg (Oz W) b (ah (dv 1) ak))) pN))))))))
def FC(W:Wd K mg a):Pm P w K mg base CX0 1 (a.cl "Least") "__init__" a.e_65 ["self","bound","items"] (spI ⟨K,a.cl⟩ "Least" ["self","bound","items"].length AB):=
 W.e_65.pk W.cl_Least (t7 W.e_65.F N6 λ_ _ _ _ _ _ b=>(py W.cl_Least W.na_Least_bound (pv 0) (dv 1) (py W.cl_Least W.na_Least_pieces (pv 0) (DO.de (j8 ik rfl W.z_list (dvC 2))) t6)))
def OB(W:Wd K mg a):Pm P w K mg base CX0 1 (a.cl "Most") "__init__" a.e_66 ["self","bound","items"] (spI ⟨K,a.cl⟩ "Most" ["self","bound","items"].length Fq):=
 W.e_66.pk W.cl_Most (t7 W.e_66.F Ob λ_ _ _ _ _ _ b=>(py W.cl_Most W.na_Most_bound (pv 0) (dv 1) (py W.cl_Most W.na_Most_pieces (pv 0) (DO.de (j8 ik rfl W.z_list (dvC 2))) t6)))
def FD(W:Wd K mg a):qD P w K mg base a 3 "part_of" a.e_37 ["told"] AD:=by
 refine W.e_37.pk (bh (F:=AC) W.e_37.F Fd λ_ _ _ _ _ _ c=>?_);have d:=c.units;unfold AC;exact (aw (bR 1 Fd.nd (az (dvC 0) aj))
 (aw (bU (bj (dQ d) dP (DE.db (dv 1)) (DE.db cR)) (aq (bn (mn "In" W.mk_In (FB W).ok (c.mono (by decide)) rfl W.g_In W.e_64.b (ah (az (dvC 0) aj) ak)))) bY)
 (aw (bU (bj (dQ d) dP (DE.db (dv 1)) (DE.db cR)) (aq (bn (mn "Out" W.mk_Out (Bc W).ok (c.mono (by decide)) rfl W.g_Out W.e_54.b (ah (az (dvC 0) aj) ak)))) bY)
 (aw (bU (bj (dQ d) dP (DE.db (dv 1)) (DE.db cR)) (aq (bn (mn "Least" W.mk_Least (FC W).ok (c.mono (by decide)) rfl W.g_Least W.e_65.b (ah (az (dvC 0) aj) (ah (az (dvC 0) aj) ak))))) bY)
 (aq (bn (mn "Most" W.mk_Most (OB W).ok (c.mono (by decide)) rfl W.g_Most W.e_66.b (ah (az (dvC 0) aj) (ah (az (dvC 0) aj) ak)))))))))
def OC(W:Wd K mg a):qD P w K mg base a 4 "body_of" a.e_1 ["rule"] m_1:=by
 refine W.e_1.pk (bh (F:=b_1) W.e_1.F Ff λ_ _ _ _ _ _ b=>?_);unfold b_1;exact(aq (dR (dg 1 [] ["told"] rfl (DI.de (bL (az (dvC 0) aj))) (λ_ _ _ _ _=>(dgc 0 1)) (λ_ _ _ _ _=>eC) (λ_ _ _ _ _=>(bg (FD W) b (ah (dvc 0) ak))))))
def OE(W:Wd K mg a):qO P w K mg base a 4 "body_of" a.e_1 ["rule"] o_1:=by
 refine W.e_1.pk (xS (F:=b_1) W.e_1.F Ff λ_ _ _ _ _ _ b=>?_);unfold b_1;exact(aq (dR (dg 1 [] ["told"] rfl (DI.de (bL (az (dvC 0) aj))) (λ_ _ _ _ _=>(dgc 0 1)) (λ_ _ _ _ _=>eC) (λ_ _ _ _ _=>(bg (FD W) b (ah (dvc 0) ak))))))
def OF(W:Wd K mg a):qD P w K mg base a 5 "guard_of" a.e_24 ["rule"] ve:=by
 refine W.e_24.pk (bh (F:=vd) W.e_24.F Fg λ_ _ _ _ _ _ c=>?_);have d:=c.units;unfold vd;exact (aw (bU (bj (dQ d) dP (DE.db (az (dvC 0) aj)) (DE.db cR)) (aq (dR (bK (ah (mn "Least" W.mk_Least (FC W).ok (c.mono (by decide)) rfl W.g_Least W.e_65.b (ah aj (ah (DO.de (bK ak)) ak))) ak)))) bY)
 (aw (j9 1 Fg.nd (Dz (OE W) c (ah (dv 0) ak)))
 (aw (bU (bj (dQ d) dP (DE.db (az (dvC 0) aj)) (DE.db cR)) (aq (lB (fL (fM fI ip iq ix (pv 1) (dz (mn "Out" W.mk_Out (Bc W).ok (c.mono (by decide)) rfl W.g_Out W.e_54.b (ah (az (dvC 0) aj) ak)) c8))))) bY)
 (aq (nQ 1)))))
def OG(W:Wd K mg a):Pm P w K mg base CX0 6 (a.cl "Spreading") "__init__" a.e_8 ["self","plain","bars","sheet"] (fX ⟨K,a.cl⟩ ["self","plain","bars","sheet"].length m_8):=by
 refine W.e_8.pk W.cl_Spreading (lJ (F:=b_8) W.e_8.F uL λ_ _ _ _ _ _ b=>?_);unfold b_8;exact (aw (mE "Spreading" W.cl_Spreading W.na_Spreading_sheet (ls (cz (pv 0)) (uu (j8 ik rfl W.z_list (dvC 3))) rfl))
 (aw (mE "Spreading" W.cl_Spreading W.na_Spreading_steps (ls (cz (pv 0)) (uu (bK ak)) rfl))
 (aw (mE "Spreading" W.cl_Spreading W.na_Spreading_bars (ls (cz (pv 0)) (uu (bK ak)) rfl))
 (aw (mE "Spreading" W.cl_Spreading W.na_Spreading_guards (ls (cz (pv 0)) E8 rfl))
 (aw (mE "Spreading" W.cl_Spreading W.na_Spreading_watches (ls (cz (pv 0)) E8 rfl))
 (aw (mE "Spreading" W.cl_Spreading W.na_Spreading_waiting (ls (cz (pv 0)) (uu (bK ak)) rfl))
 (aw (mE "Spreading" W.cl_Spreading W.na_Spreading_makers (ls (cz (pv 0)) (EJ (DO.de (dg 1 [] ["rule"] rfl (DI.de (bL (az (dvC 1) aj))) (λ_ _ _ _ _=>(dgc 0 1)) (λ_ _ _ _ _=>(iW (bj mi mj (DE.db (az (fS 0) aj)) (DE.db cJ)))) (λ_ _ _ _ _=>(bX (ah (az (fS 0) aj) (ah (bg (OC W) b (ah (dvc 0) ak)) ak))))))) rfl))
 (aw (dZ c7 rfl (D1 rfl W.z_enumerate (ah (az (dvC 1) aj) ak)) (g9 rfl (cS (cW 5 7 uL.nd) (cS (cW 4 7 uL.nd) g8))) (aq (pK (pS "Spreading" (pv 0) (FA W) b (i5 (DE.dx (bX (ah cR (ah (dv 5) ak)))) (i5 (DE.dx (bg (OF W) b (ah (dv 4) ak))) pN))))))
 (aq (dZ c7 rfl (bL (dv 2)) (cW 6 7 uL.nd) (aq (pK (pS "Spreading" (pv 0) (OA W) b (i5 (DE.dx (dv 6)) pN))))))))))))))
def FE(W:Wd K mg a):Pm P w K mg base CX0 1 (a.cl "Spreading") "put" a.e_36 ["self","thing","truth","why"] (fX ⟨K,a.cl⟩ ["self","thing","truth","why"].length vg):=by
 refine W.e_36.pk W.cl_Spreading (lJ (F:=vf) W.e_36.F Og λ_ _ _ _ _ _ b=>?_);have c:=b.units;unfold vf;exact (aw (Ng (Cg (dv 2) (Cf (dD "Spreading" W.cl_Spreading W.na_Spreading_sheet (cz (pv 0))) (dv 1) CG (by intro _; rfl)) rfl rfl rfl))
 (aw (yU (fL (fM fI ip iq ix (dD "Spreading" W.cl_Spreading W.na_Spreading_steps (cz (pv 0))) (dz (bX (ah (bX (ah (dv 1) (ah (dv 2) ak))) (ah (dv 3) ak))) c8))))
 (aq (Nd (fL (fM fI PySem.F.slot_list_extend PySem.F.type_list_extend CJ (dD "Spreading" W.cl_Spreading W.na_Spreading_waiting (cz (pv 0))) (dz (yT (hu1 c) (dD "Spreading" W.cl_Spreading W.na_Spreading_watches (cz (pv 0))) (bX (ah (dv 1) (ah (dv 2) ak))) ⟨rfl,rfl,rfl,rfl⟩) c8)))))))
def OH(W:Wd K mg a):Pm P w K mg base CX0 1 (a.cl "In") "sure" a.e_52 ["self","sheet"] (spD ⟨K,a.cl⟩ ["self","sheet"].length AF):=by
 refine W.e_52.pk W.cl_In (bh (F:=AE) W.e_52.F NX λ_ _ _ _ _ _ b=>?_);unfold AE;exact(aq (bn (fN fO fP (DE.db (az (dvC 1) (bZ "In" W.cl_In W.na_In_thing (dv 0)))) (DE.db cu))))
def OI(W:Wd K mg a):Pm P w K mg base CX0 1 (a.cl "In") "tips" a.e_53 ["self","sheet"] (spD ⟨K,a.cl⟩ ["self","sheet"].length AH):=by
 refine W.e_53.pk W.cl_In (bh (F:=AG) W.e_53.F NY λ_ _ _ _ _ _ b=>?_);unfold AG;exact(aq (bn (tK (bj fO fP (DE.db (az (dvC 1) (bZ "In" W.cl_In W.na_In_thing (dv 0)))) (DE.db cJ)) (DO.de (bK (ah (bX (ah (bZ "In" W.cl_In W.na_In_thing (dv 0)) (ah cu ak))) ak))) (DO.de (bK ak)))))
def Bd(W:Wd K mg a):qD P w K mg base a 1 "worth_in" a.e_20 ["items","entries"] rL:=by
 refine W.e_20.pk (bh (F:=AI) W.e_20.F NL λ_ _ _ _ _ _ b=>?_);unfold AI;exact(aq (bn (dB (xI rfl) xJ rfl W.z_sum boot_sum (cv (DE.db (DO.de (dg 2 [1] ["thing","worth","entries"] rfl (DI.de (bL (dv 0))) (λ_ _ _ _ _=>(g9 rfl (cS (dgc 0 2) (cS (dgc 1 2) g8)))) (λ_ _ _ _ _=>(iW (bj fO fP (DE.db (az (fS 2) (dvc 0))) (DE.db cu)))) (λ_ _ _ _ _=>(dvc 1))))) cV))))
def OJ(W:Wd K mg a):Pm P w K mg base CX0 2 (a.cl "Least") "sure" a.e_59 ["self","sheet"] (spD ⟨K,a.cl⟩ ["self","sheet"].length AK):=by
 refine W.e_59.pk W.cl_Least (bh (F:=AJ) W.e_59.F N9 λ_ _ _ _ _ _ b=>?_);unfold AJ;exact(aq (bn (fN De Dh (DE.db (bg (Bd W) b (ah (bZ "Least" W.cl_Least W.na_Least_pieces (dv 0)) (ah (dv 1) ak)))) (DE.db (bZ "Least" W.cl_Least W.na_Least_bound (dv 0))))))
def OK(W:Wd K mg a):qD P w K mg base a 1 "weights_of" a.e_22 ["items"] AL:=by
 refine W.e_22.pk (bh (F:=vh) W.e_22.F uI λ_ _ _ _ _ _ c=>?_);have b:=c.units;unfold vh;exact (aw (D3 1 uI.nd)
 (aw (dZ c7 rfl (bL (dv 0)) (g9 rfl (cS (cW 2 4 uI.nd) (cS (cW 3 4 uI.nd) g8))) (aq (D4 b (pv 1) (dv 2) (aK fh (M1 b (pv 1) (dv 2) aj ⟨rfl,rfl,rfl,rfl⟩) (dv 3)))))
 (aq (M4 1 (bn (dv 1))))))
def FF(W:Wd K mg a):qD P w K mg base a 2 "heavy" a.e_21 ["items","sheet","lack"] vj:=by
 refine W.e_21.pk (bh (F:=vi) W.e_21.F Fe λ_ _ _ _ _ _ b=>?_);have c:=b.units;unfold vi;exact (aw (bR 3 Fe.nd (bg (OK W) b (ah (DO.de (dg 1 [1] ["item","sheet"] rfl (DI.de (bL (dv 0))) (λ_ _ _ _ _=>(dgc 0 1)) (λ_ _ _ _ _=>(iW (bj fO fP (DE.db (az (fS 1) (az (fS 0) aj))) (DE.db cJ)))) (λ_ _ _ _ _=>(dvc 0)))) ak)))
 (aq (dR (dg 1 [2,3] ["thing","lack","weights"] rfl (DI.de (MY (dv 3))) (λ_ _ _ _ _=>(dgc 0 1)) (λ_ _ _ _ _=>(iW (bj De Dh (DE.db (M0 c (dvc 2) (dvc 0))) (DE.db (dvc 1))))) (λ_ _ _ _ _=>(dvc 0))))))
def OL(W:Wd K mg a):Pm P w K mg base CX0 3 (a.cl "Least") "tips" a.e_44 ["self","sheet"] (spD ⟨K,a.cl⟩ ["self","sheet"].length AM):=by
 refine W.e_44.pk W.cl_Least (bh (F:=vm) W.e_44.F Fm λ_ _ _ _ _ _ b=>?_);unfold vm;exact (aw (bR 2 Fm.nd (aK tM (bZ "Least" W.cl_Least W.na_Least_bound (dv 0)) (bg (Bd W) b (ah (bZ "Least" W.cl_Least W.na_Least_pieces (dv 0)) (ah (dv 1) ak)))))
 (aq (dR (dg 1 [] ["thing"] rfl (DI.de (bL (bg (FF W) b (ah (bZ "Least" W.cl_Least W.na_Least_pieces (dv 0)) (ah (dv 1) (ah (dv 2) ak)))))) (λ_ _ _ _ _=>(dgc 0 1)) (λ_ _ _ _ _=>eC) (λ_ _ _ _ _=>(bX (ah (dvc 0) (ah cu ak))))))))
def Be(W:Wd K mg a):qD P w K mg base a 1 "worth_not_out" a.e_13 ["items","sheet"] pY:=by
 refine W.e_13.pk (bh (F:=AN) W.e_13.F NM λ_ _ _ _ _ _ b=>?_);unfold AN;exact(aq (bn (dB (xI rfl) xJ rfl W.z_sum boot_sum (cv (DE.db (DO.de (dg 2 [1] ["thing","worth","sheet"] rfl (DI.de (bL (dv 0))) (λ_ _ _ _ _=>(g9 rfl (cS (dgc 0 2) (cS (dgc 1 2) g8)))) (λ_ _ _ _ _=>(iW (bj mi mj (DE.db (az (fS 2) (dvc 0))) (DE.db cu)))) (λ_ _ _ _ _=>(dvc 1))))) cV))))
def OM(W:Wd K mg a):Pm P w K mg base CX0 2 (a.cl "Most") "sure" a.e_61 ["self","sheet"] (spD ⟨K,a.cl⟩ ["self","sheet"].length AQ):=by
 refine W.e_61.pk W.cl_Most (bh (F:=AO) W.e_61.F Oe λ_ _ _ _ _ _ b=>?_);unfold AO;exact(aq (bn (fN Dd Dg (DE.db (bg (Be W) b (ah (bZ "Most" W.cl_Most W.na_Most_pieces (dv 0)) (ah (dv 1) ak)))) (DE.db (bZ "Most" W.cl_Most W.na_Most_bound (dv 0))))))
def ON(W:Wd K mg a):Pm P w K mg base CX0 3 (a.cl "Most") "tips" a.e_46 ["self","sheet"] (spD ⟨K,a.cl⟩ ["self","sheet"].length AR):=by
 refine W.e_46.pk W.cl_Most (bh (F:=vn) W.e_46.F Fo λ_ _ _ _ _ _ b=>?_);unfold vn;exact (aw (bR 2 Fo.nd (aK tM (bg (Be W) b (ah (bZ "Most" W.cl_Most W.na_Most_pieces (dv 0)) (ah (dv 1) ak))) (bZ "Most" W.cl_Most W.na_Most_bound (dv 0))))
 (aq (dR (dg 1 [] ["thing"] rfl (DI.de (bL (bg (FF W) b (ah (bZ "Most" W.cl_Most W.na_Most_pieces (dv 0)) (ah (dv 1) (ah (dv 2) ak)))))) (λ_ _ _ _ _=>(dgc 0 1)) (λ_ _ _ _ _=>eC) (λ_ _ _ _ _=>(bX (ah (dvc 0) (ah cu ak))))))))
def OO(W:Wd K mg a):Pm P w K mg base CX0 1 (a.cl "Out") "sure" a.e_56 ["self","sheet"] (spD ⟨K,a.cl⟩ ["self","sheet"].length AT):=by
 refine W.e_56.pk W.cl_Out (bh (F:=AS) W.e_56.F N3 λ_ _ _ _ _ _ b=>?_);unfold AS;exact(aq (bn (fN fO fP (DE.db (az (dvC 1) (bZ "Out" W.cl_Out W.na_Out_thing (dv 0)))) (DE.db cu))))
def OP(W:Wd K mg a):Pm P w K mg base CX0 1 (a.cl "Out") "tips" a.e_57 ["self","sheet"] (spD ⟨K,a.cl⟩ ["self","sheet"].length AV):=by
 refine W.e_57.pk W.cl_Out (bh (F:=AU) W.e_57.F N4 λ_ _ _ _ _ _ b=>?_);unfold AU;exact(aq (bn (tK (bj fO fP (DE.db (az (dvC 1) (bZ "Out" W.cl_Out W.na_Out_thing (dv 0)))) (DE.db cJ)) (DO.de (bK (ah (bX (ah (bZ "Out" W.cl_Out W.na_Out_thing (dv 0)) (ah cu ak))) ak))) (DO.de (bK ak)))))
def OQ(W:Wd K mg a):Pk P w K mg base CX0 4 "pressed_by" a.e_63 ["guard","sheet"] (spN ⟨K,a.cl⟩ ["guard","sheet"].length AW):=by
 refine W.e_63.pk (NB (F:=vo) W.e_63.F rn λ_ _ _ _ _ _ b=>?_);have c:=b.units;unfold vo;exact (aw (bR 2 rn.nd cJ)
 (aw (dZ c7 rfl (bL (dv 0)) (cW 3 5 rn.nd) (aq (bU (g6 (da (DE.db (DE.orE (fq "In" (dv 3) (OH W) b (ah (dv 1) ak)) (DE.orE (fq "Out" (dv 3) (OO W) b (ah (dv 1) ak)) (DE.orE (fq "Least" (dv 3) (OJ W) b (ah (dv 1) ak)) (fq "Most" (dv 3) (OM W) b (ah (dv 1) ak)))))))) (aw (bR 4 rn.nd (DE.orE (fq "In" (dv 3) (OI W) b (ah (dv 1) ak)) (DE.orE (fq "Out" (dv 3) (OP W) b (ah (dv 1) ak)) (DE.orE (fq "Least" (dv 3) (OL W) b (ah (dv 1) ak)) (fq "Most" (dv 3) (ON W) b (ah (dv 1) ak))))))
 (aw (bR 2 rn.nd (tK (bj fO fP (DE.db (dv 2)) (DE.db cJ)) (dv 4) (DO.de (dg 1 [4] ["pair","tips"] rfl (DI.de (bL (dv 2))) (λ_ _ _ _ _=>(dgc 0 1)) (λ_ _ _ _ _=>(iW (bj (D9 c) D7 (DE.db (dvc 0)) (DE.db (dvc 1))))) (λ_ _ _ _ _=>(dvc 0))))))
 (aq (bU (g6 (da (DE.db (dv 2)))) (aq (dR (bK ak))) bY)))) bY)))
 (aw (bU (bj fO fP (DE.db (dv 2)) (DE.db cJ)) (aq (bn cJ)) bY)
 (aq (dR (dg 2 [] ["thing","truth"] rfl (DI.de (bL (dv 2))) (λ_ _ _ _ _=>(g9 rfl (cS (dgc 0 2) (cS (dgc 1 2) g8)))) (λ_ _ _ _ _=>eC) (λ_ _ _ _ _=>(bX (ah (dvc 0) (ah (Dc (dvc 1)) ak))))))))))
def OR(W:Wd K mg a):Pm P w K mg base CX0 5 (a.cl "Spreading") "look_round" a.e_18 ["self"] (fX ⟨K,a.cl⟩ ["self"].length AX):=by
 refine W.e_18.pk W.cl_Spreading (lJ (F:=vp) W.e_18.F rC λ_ _ _ _ _ _ b=>?_);have c:=b.units;unfold vp;exact (aw (t5 1000000000 c7 (da (pO (dD "Spreading" W.cl_Spreading W.na_Spreading_waiting (cz (pv 0))))) (aw (rb 1 rC.nd (Nf (fM fI PySem.F.slot_list_pop PySem.F.type_list_pop JM (dD "Spreading" W.cl_Spreading W.na_Spreading_waiting (cz (pv 0))) (dz B9 c8))))
 (aw (bR 2 rC.nd (NC (OQ W) b (cv (pO (EX (hu1 c) (dD "Spreading" W.cl_Spreading W.na_Spreading_guards (cz (pv 0))) (dv 1))) (cv (pO (dD "Spreading" W.cl_Spreading W.na_Spreading_sheet (cz (pv 0)))) cV))))
 (aw (bU (bj fO fP (DE.db (dv 2)) (DE.db cJ)) (aq (pi (dv 1))) bY)
 (aq (dZ c7 rfl (bL (dv 2)) (g9 rfl (cS (cW 3 5 rC.nd) (cS (cW 4 5 rC.nd) g8))) (aq (pK (pS "Spreading" (pv 0) (FE W) b (i5 (DE.dx (dv 3)) (i5 (DE.dx (dv 4)) (i5 (DE.dx (dv 1)) pN))))))))))))
 (aq (pi cJ)))
def FG(W:Wd K mg a):Pm P w K mg base CX0 1 (a.cl "In") "lost" a.e_32 ["self","sheet","without"] (spD ⟨K,a.cl⟩ ["self","sheet","without"].length rM):=by
 refine W.e_32.pk W.cl_In (bh (F:=AY) W.e_32.F NZ λ_ _ _ _ _ _ b=>?_);unfold AY;exact(aq (bn (Db (fN fO fP (DE.db (az (dvC 1) (bZ "In" W.cl_In W.na_In_thing (dv 0)))) (DE.db cu)) (nH (az (dvC 2) (bZ "In" W.cl_In W.na_In_thing (dv 0)))))))
def OS(W:Wd K mg a):qD P w K mg base a 1 "outside" a.e_49 ["items","without"] A0:=by
 refine W.e_49.pk (bh (F:=AZ) W.e_49.F NN λ_ _ _ _ _ _ b=>?_);unfold AZ;exact(aq (dR (dg 1 [1] ["item","without"] rfl (DI.de (bL (dv 0))) (λ_ _ _ _ _=>(dgc 0 1)) (λ_ _ _ _ _=>(iW (g6 (da (DE.db (az (fS 1) (az (fS 0) aj))))))) (λ_ _ _ _ _=>(dvc 0)))))
def FH(W:Wd K mg a):Pm P w K mg base CX0 2 (a.cl "Least") "lost" a.e_34 ["self","sheet","without"] (spD ⟨K,a.cl⟩ ["self","sheet","without"].length rN):=by
 refine W.e_34.pk W.cl_Least (bh (F:=A1) W.e_34.F Oa λ_ _ _ _ _ _ b=>?_);unfold A1;exact(aq (bn (fN tN tP (DE.db (bg (Be W) b (ah (bg (OS W) b (ah (bZ "Least" W.cl_Least W.na_Least_pieces (dv 0)) (ah (dv 2) ak))) (ah (dv 1) ak)))) (DE.db (bZ "Least" W.cl_Least W.na_Least_bound (dv 0))))))
def FI(W:Wd K mg a):Pm P w K mg base CX0 2 (a.cl "Most") "lost" a.e_35 ["self","sheet","without"] (spD ⟨K,a.cl⟩ ["self","sheet","without"].length rO):=by
 refine W.e_35.pk W.cl_Most (bh (F:=A2) W.e_35.F Of λ_ _ _ _ _ _ b=>?_);unfold A2;exact(aq (bn (fN xE xF (DE.db (bg (Bd W) b (ah (bZ "Most" W.cl_Most W.na_Most_pieces (dv 0)) (ah (dv 1) ak)))) (DE.db (bZ "Most" W.cl_Most W.na_Most_bound (dv 0))))))
def FJ(W:Wd K mg a):Pm P w K mg base CX0 1 (a.cl "Out") "lost" a.e_33 ["self","sheet","without"] (spD ⟨K,a.cl⟩ ["self","sheet","without"].length rP):=by
 refine W.e_33.pk W.cl_Out (bh (F:=A3) W.e_33.F N5 λ_ _ _ _ _ _ b=>?_);unfold A3;exact(aq (bn (fN fO fP (DE.db (az (dvC 1) (bZ "Out" W.cl_Out W.na_Out_thing (dv 0)))) (DE.db cu))))
def vz(W:Wd K mg a):qD P w K mg base a 1 "marks" a.e_7 ["many","some"] m_7:=by
 refine W.e_7.pk (bh (F:=b_7) W.e_7.F z6 λ_ _ _ _ _ _ c=>?_);have b:=c.units;unfold b_7;exact (aw (D3 2 z6.nd)
 (aw (dZ c7 rfl (bL (dv 1)) (cW 3 4 z6.nd) (aq (D4 b (pv 2) (dv 3) cu)))
 (aq (jz 2 (dR (dg 1 [2] ["thing","listed"] rfl (DI.de (ph rfl W.z_range (ah (dv 0) ak))) (λ_ _ _ _ _=>(dgc 0 1)) (λ_ _ _ _ _=>eC) (λ_ _ _ _ _=>(Lq b (dvc 0) (dvc 1)))))))))
def OU(W:Wd K mg a):Pm P w K mg base CX0 3 (a.cl "Spreading") "keeping" a.e_48 ["self","part","without"] (spD ⟨K,a.cl⟩ ["self","part","without"].length A4):=by
 refine W.e_48.pk W.cl_Spreading (bh (F:=vq) W.e_48.F Oi λ_ _ _ _ _ _ b=>?_);unfold vq;exact (aw (bU (da (DE.db (DE.orE (fq "In" (dv 1) (FG W) b (ah (bZ "Spreading" W.cl_Spreading W.na_Spreading_sheet (dv 0)) (ah (bg (vz W) b (ah (dB eQ eR rfl W.z_len eO (cv (DE.db (bZ "Spreading" W.cl_Spreading W.na_Spreading_sheet (dv 0))) cV)) (ah (DO.de (bK ak)) ak))) ak))) (DE.orE (fq "Out" (dv 1) (FJ W) b (ah (bZ "Spreading" W.cl_Spreading W.na_Spreading_sheet (dv 0)) (ah (bg (vz W) b (ah (dB eQ eR rfl W.z_len eO (cv (DE.db (bZ "Spreading" W.cl_Spreading W.na_Spreading_sheet (dv 0))) cV)) (ah (DO.de (bK ak)) ak))) ak))) (DE.orE (fq "Least" (dv 1) (FH W) b (ah (bZ "Spreading" W.cl_Spreading W.na_Spreading_sheet (dv 0)) (ah (bg (vz W) b (ah (dB eQ eR rfl W.z_len eO (cv (DE.db (bZ "Spreading" W.cl_Spreading W.na_Spreading_sheet (dv 0))) cV)) (ah (DO.de (bK ak)) ak))) ak))) (fq "Most" (dv 1) (FI W) b (ah (bZ "Spreading" W.cl_Spreading W.na_Spreading_sheet (dv 0)) (ah (bg (vz W) b (ah (dB eQ eR rfl W.z_len eO (cv (DE.db (bZ "Spreading" W.cl_Spreading W.na_Spreading_sheet (dv 0))) cV)) (ah (DO.de (bK ak)) ak))) ak)))))))) (aq (dR (bK ak))) bY)
 (aq (dR (dg 1 [2] ["thing","without"] rfl (DI.de (bL (DE.orE (iY "In" (dv 1) (Fv W) b) (DE.orE (iY "Out" (dv 1) (Fz W) b) (DE.orE (iY "Least" (dv 1) (Fx W) b) (iY "Most" (dv 1) (Fy W) b)))))) (λ_ _ _ _ _=>(dgc 0 1)) (λ_ _ _ _ _=>(iW (da (DE.db (az (fS 1) (dvc 0)))))) (λ_ _ _ _ _=>(dvc 0))))))
def FK(W:Wd K mg a):qD P w K mg base a 3 "lost_part" a.e_14 ["body","sheet","without"] rQ:=by
 refine W.e_14.pk (bh (F:=vt) W.e_14.F Fh λ_ _ _ _ _ _ b=>?_);unfold vt;exact (aw (dZ c7 rfl (bL (dv 0)) (cW 3 4 Fh.nd) (aq (bU (da (DE.db (DE.orE (fq "In" (dv 3) (FG W) b (ah (dv 1) (ah (dv 2) ak))) (DE.orE (fq "Out" (dv 3) (FJ W) b (ah (dv 1) (ah (dv 2) ak))) (DE.orE (fq "Least" (dv 3) (FH W) b (ah (dv 1) (ah (dv 2) ak))) (fq "Most" (dv 3) (FI W) b (ah (dv 1) (ah (dv 2) ak)))))))) (aq (nQ 3)) bY)))
 (aq (bn cJ)))
def OV(W:Wd K mg a):Pm P w K mg base CX0 4 (a.cl "Spreading") "lost_parts" a.e_62 ["self","thing","without"] (spD ⟨K,a.cl⟩ ["self","thing","without"].length A6):=by
 refine W.e_62.pk W.cl_Spreading (bh (F:=A5) W.e_62.F Oh λ_ _ _ _ _ _ b=>?_);have c:=b.units;unfold A5;exact(aq (dR (dg 2 [2,0,1] ["head","body","without","self","thing"] rfl (DI.de (bL (bZ "Spreading" W.cl_Spreading W.na_Spreading_makers (dv 0)))) (λ_ _ _ _ _=>(g9 rfl (cS (dgc 0 2) (cS (dgc 1 2) g8)))) (λ_ _ _ _ _=>(iW (bj (dQ c) dP (DE.db (dvc 0)) (DE.db (dvc 4))))) (λ_ _ _ _ _=>(bg (FK W) b (ah (dvc 1) (ah (bZ "Spreading" W.cl_Spreading W.na_Spreading_sheet (dvc 3)) (ah (dvc 2) ak))))))))
def FL(W:Wd K mg a):Pm P w K mg base CX0 5 (a.cl "Spreading") "kernel" a.e_4 ["self","thing","without"] (spO ⟨K,a.cl⟩ ["self","thing","without"].length o_4):=by
 refine W.e_4.pk W.cl_Spreading (xS (F:=b_4) W.e_4.F rF λ_ _ _ _ _ _ b=>?_);unfold b_4;exact (aw (j9 3 rF.nd (bK (ah (dv 1) ak)))
 (aw (bR 4 rF.nd aj)
 (aw (t5 1000000000 c7 (bj tN tP (DE.db (dv 4)) (DE.db (dB eQ eR rfl W.z_len eO (cv (dvB 3) cV)))) (aw (dZ c7 rfl (bL (fq "Spreading" (dv 0) (OV W) b (ah (az (dvC 3) (dv 4)) (ah (dv 2) ak)))) (cW 5 6 rF.nd) (aq (KO (fL (fM fI PySem.F.slot_list_extend PySem.F.type_list_extend CJ (pv 3) (dz (DO.de (dg 1 [3] ["other","found"] rfl (DI.de (bL (fq "Spreading" (dv 0) (OU W) b (ah (dv 5) (ah (dv 2) ak))))) (λ_ _ _ _ _=>(dgc 0 1)) (λ_ _ _ _ _=>(iW (bj Ku Kr (DE.db (dvc 0)) (KI 1)))) (λ_ _ _ _ _=>(dvc 0)))) c8))))))
 (aq (M8 4 rF.nd (DE.dx aj)))))
 (aq (jz 3 (dR (Mm rfl rfl W.z_sorted (dv 3))))))))
def OW(W:Wd K mg a):Pm P w K mg base CX0 4 (a.cl "Spreading") "loose_marks" a.e_6 ["self"] (fX ⟨K,a.cl⟩ ["self"].length m_6):=by
 refine W.e_6.pk W.cl_Spreading (lJ (F:=b_6) W.e_6.F km λ_ _ _ _ _ _ b=>?_);unfold b_6;exact (aw (KL 1 1 [] ["entry"] km.nd rfl (Nw (yS (dD "Spreading" W.cl_Spreading W.na_Spreading_sheet (cz (pv 0))))) (λ_ _ _ _ _=>(dgc 0 1)) (λ_ _ _ _ _=>eC) (λ_ _ _ _ _=>(fN mi mj (DE.db (dvc 0)) (DE.db cu))))
 (aw (j9 2 km.nd (bK ak))
 (aw (bR 3 km.nd (EY (dD "Spreading" W.cl_Spreading W.na_Spreading_makers (cz (pv 0)))))
 (aw (bR 4 km.nd cu)
 (aw (t5 1000000000 c7 (da (DE.db (dv 4))) (aw (bR 5 km.nd (dB eQ eR rfl W.z_len eO (cv (dvB 2) cV)))
 (aw (j9 6 km.nd (bK ak))
 (aw (dZ c7 rfl (bL (dv 3)) (cW 7 8 km.nd) (aq (bU (DW.dt (o7 (da (DE.db (az (dvC 1) (az (dvC 7) aj)))) (qJ (bj fO fP (Mf (FK W) b (cv (DE.db (az (dvC 7) aj)) (cv (pO (dD "Spreading" W.cl_Spreading W.na_Spreading_sheet (cz (pv 0)))) (cv (dvB 1) cV)))) (DE.db cJ))))) (aw (D5 (pv 1) (az (dvC 7) aj) cu)
 (aq (lB (fL (fM fI ip iq ix (pv 2) (dz (dv 7) c8)))))) (aq (lB (fL (fM fI ip iq ix (pv 6) (dz (dv 7) c8))))))))
 (aw (jz 6 (bR 3 km.nd (dv 6)))
 (aq (bR 4 km.nd (o9 (fN xE xF (DE.db (dB eQ eR rfl W.z_len eO (cv (dvB 2) cV))) (DE.db (dv 5))) (nH (dB (Le rfl) Lg rfl W.z_any boot_any (cv (dvB 1) cV)))))))))))
 (aw (jz 2 (mE "Spreading" W.cl_Spreading W.na_Spreading_makers (ls (cz (pv 0)) (EJ (DO.de (yw (dv 2) (dv 3)))) rfl)))
 (aq (jz 1 (pi (dv 1))))))))))
def OX(W:Wd K mg a):Pm P w K mg base CX0 6 (a.cl "Spreading") "put_loose_out" a.e_19 ["self"] (fX ⟨K,a.cl⟩ ["self"].length A7):=by
 refine W.e_19.pk W.cl_Spreading (lJ (F:=vv) W.e_19.F rE λ_ _ _ _ _ _ b=>?_);unfold vv;exact (aw (rb 1 rE.nd (yV "Spreading" (pv 0) (OW W) b))
 (aw (t4 3 2 [1] ["thing","entry","without"] rE.nd rfl (Nx rfl W.z_enumerate (yS (dD "Spreading" W.cl_Spreading W.na_Spreading_sheet (cz (pv 0))))) (λ_ _ _ _ _=>(g9 rfl (cS (dgc 0 2) (cS (dgc 1 2) g8)))) (λ_ _ _ _ _=>(iW (DW.dt (o7 (da (DE.db (az (fS 2) (dvc 0)))) (qJ (bj fO fP (DE.db (dvc 1)) (DE.db cu))))))) (λ_ _ _ _ _=>(dvc 0)))
 (aw (bU (da (DE.db (dv 3))) (aq (pi (bX (ah cR (ah (DO.de (Fb "Spreading" (dvB 0) (FL W) b (cv (DE.db (az (dvC 3) aj)) (cv (DE.db (dv 1)) cV)))) ak))))) bY)
 (aw (dZ c7 rfl (D1 rfl W.z_enumerate (ah (dv 1) ak)) (g9 rfl (cS (cW 2 5 rE.nd) (cS (cW 4 5 rE.nd) g8))) (aq (bU (da (DE.db (dv 4))) (aq (pK (pS "Spreading" (pv 0) (FE W) b (i5 (DE.dx (dv 2)) (i5 (DE.dx cu) (i5 (DE.dx (bX (ah cR (ah (DO.de (Fb "Spreading" (dvB 0) (FL W) b (cv (DE.db (dv 2)) (cv (DE.db (dv 1)) cV)))) ak)))) pN)))))) bY)))
 (aq (pi cJ))))))
def OY(W:Wd K mg a):Pm P w K mg base CX0 7 (a.cl "Spreading") "settle" a.e_17 ["self"] (fX ⟨K,a.cl⟩ ["self"].length A8):=by
 refine W.e_17.pk W.cl_Spreading (lJ (F:=vw) W.e_17.F rB λ_ _ _ _ _ _ b=>?_);unfold vw;exact (aw (bR 1 rB.nd cu)
 (aw (t5 1000000000 c7 (da (DE.db (dv 1))) (aw (rb 2 rB.nd (yV "Spreading" (pv 0) (OR W) b))
 (aw (bU (bj fO fP (DE.db (dv 2)) (DE.db cJ)) (aq (rb 2 rB.nd (yV "Spreading" (pv 0) (OX W) b))) bY)
 (aq (bR 1 rB.nd (o9 (fN fO fP (DE.db (dv 2)) (DE.db cJ)) (nH (fN xE xF (DE.db (dB eQ eR rfl W.z_len eO (cv (pO (dD "Spreading" W.cl_Spreading W.na_Spreading_waiting (cz (pv 0)))) cV))) (DE.db aj)))))))))
 (aq (pi (dv 2)))))
def Bf(W:Wd K mg a):qD P w K mg base a 8 "spread" a.e_5 ["plain","bars","sheet"] m_5:=by
 refine W.e_5.pk (bh (F:=b_5) W.e_5.F uJ λ_ _ _ _ _ _ c=>?_);unfold b_5;exact (aw (MP 3 uJ.nd (Nv "Spreading" W.mk_Spreading (OG W).ok (c.mono (by decide)) rfl W.g_Spreading W.e_8.b (ah (dv 0) (ah (dv 1) (ah (dv 2) ak)))))
 (aw (rb 4 uJ.nd (Nt "Spreading" (pv 3) (OY W) c))
 (aw (NJ (nA uJ.nd rfl (by first | exact b7 rfl | exact bB rfl) (dD "Spreading" W.cl_Spreading W.na_Spreading_steps (cz (pv 3)))))
 (aw (bU (bj mi mj (DE.db (dv 4)) (DE.db cJ)) (aq (lB (fL (fM fI ip iq ix (pv 5) (dz (bX (ah cJ (ah (dv 4) ak))) c8))))) bY)
 (aq (jz 5 (NI 3 "Spreading" "sheet" (bn (bX (ah (EY (dD "Spreading" W.cl_Spreading W.na_Spreading_sheet (cz (pv 3)))) (ah (dv 5) ak)))))))))))
def OZ(W:Wd K mg a):qD P w K mg base a 9 "law" a.e_0 ["_law_script"] m_0:=by
 refine W.e_0.pk (bh (F:=b_0) W.e_0.F jI λ_ _ _ _ _ _ d=>?_);have e:=d.units;unfold b_0;exact (aw (bR 1 jI.nd (bg (rR W) d (ah (bg (Ba W) d (ah (dv 0) (ah aj ak))) (ah aj ak))))
 (aw (bR 2 jI.nd (aK lx (aK fh (aK ce (az (dvC 1) aj) aj) aj) aj))
 (aw (j9 3 jI.nd (Dz (Oo W) d (ah (aK ce (az (dvC 1) aj) aj) (ah (dv 2) ak))))
 (aw (dZ c7 rfl (bL (DO.de (by refine ly ?a ?b ?c; (case a=>exact (dv 0)); (case b=>exact (jw aj)); (case c=>exact (jw aj))))) (cW 4 11 jI.nd) (aq (lB (fL (fM fI ip iq ix (pv 3) (dz (bg (Os W) d (ah (dv 4) (ah (dv 2) (ah (fN (dQ e) dP (DE.db (aK ce (az (dvC 1) aj) aj)) (DE.db aj)) ak)))) c8))))))
 (aw (bR 5 jI.nd (bg (Ot W) d (ah (bg (Ba W) d (ah (dv 0) (ah aj ak))) (ah (dv 2) ak))))
 (aw (t4 6 1 [2] ["_law_x","_law_many"] jI.nd rfl (DI.de (bL (bg (rR W) d (ah (bg (Ba W) d (ah (dv 0) (ah aj ak))) (ah (aK ce (az (dvC 1) aj) aj) ak))))) (λ_ _ _ _ _=>(dgc 0 1)) (λ_ _ _ _ _=>eC) (λ_ _ _ _ _=>(bg (Om W) d (ah (dvc 0) (ah (dvc 1) ak)))))
 (aw (jz 3 (bR 7 jI.nd (bg (Bf W) d (ah (bX (ah (dv 2) (ah (bg (Bb W) d (ah (dv 3) ak)) ak))) (ah (DO.de (dg 1 [] ["_law_bar_here"] rfl (DI.de (bL (dv 6))) (λ_ _ _ _ _=>(dgc 0 1)) (λ_ _ _ _ _=>eC) (λ_ _ _ _ _=>(DO.de (j8 ik (glc rfl) W.z_list (fS 0)))))) (ah (DO.de (j8 ik rfl W.z_list (dvC 5))) ak))))))
 (aw (bU (g6 (da (DE.db (bg (Fs W) d (ah (dv 7) (ah (dv 5) ak)))))) (aq (bn cu)) bY)
 (aw (jz 3 (bR 8 jI.nd (DO.de (bK (ah (bg (Fu W) d (ah (dv 3) (ah (az (dvC 1) aj) ak))) (ah (DO.de (dg 1 [] ["_law_bar_here"] rfl (DI.de (bL (bg (Fu W) d (ah (dv 6) (ah (az (dvC 1) aj) ak))))) (λ_ _ _ _ _=>(dgc 0 1)) (λ_ _ _ _ _=>eC) (λ_ _ _ _ _=>(DO.de (j8 ik (glc rfl) W.z_list (fS 0)))))) ak))))))
 (aw (bR 9 jI.nd (bg (Bf W) d (ah (bX (ah (dv 2) (ah (bg (Bb W) d (ah (az (dvC 8) aj) ak)) ak))) (ah (az (dvC 8) aj) (ah (DO.de (j8 ik rfl W.z_list (dvC 5))) ak)))))
 (aw (jz 3 (bR 10 jI.nd (bg (Bf W) d (ah (bX (ah (dv 2) (ah (bg (Bb W) d (ah (dv 3) ak)) ak))) (ah (DO.de (dg 1 [] ["_law_bar_here"] rfl (DI.de (bL (dv 6))) (λ_ _ _ _ _=>(dgc 0 1)) (λ_ _ _ _ _=>eC) (λ_ _ _ _ _=>(DO.de (j8 ik (glc rfl) W.z_list (fS 0)))))) (ah (bg (On W) d (ah (dv 7) (ah (dv 5) ak))) ak))))))
 (aq (bn (o9 (bg (Ft W) d (ah (dv 7) (ah (dv 9) (ah (dv 5) ak)))) (nH (bg (Ft W) d (ah (dv 7) (ah (dv 10) (ah (dv 5) ak)))))))))))))))))))
local macro_rules | `(tactic| walk_at "evS")=>`(tactic| first | decide | lia | assumption | exact ⟨by decide,by decide⟩ | exact ⟨by lia,by lia⟩ | exact .inl ⟨by decide,by decide⟩ | exact .inr ⟨by decide,by decide⟩ | exact .inl ⟨by lia,by lia⟩ | exact .inr ⟨by lia,by lia⟩ | exact ⟨by decide,by decide,by decide⟩)
local macro_rules | `(tactic| walk_at "evO")=>`(tactic| first | with_reducible exact my | with_reducible exact yA | with_reducible exact dLt_eq | with_reducible exact ut | with_reducible exact dLe_eq | with_reducible exact Ex | with_reducible exact mo _ _ | with_reducible exact dNe_int _ _ | ((with_reducible apply jD); (focus walk_at "evS")) | ((with_reducible apply ur); (focus walk_at "evS")) | ((with_reducible apply dMul_eq); (focus walk_at "evS")) | ((with_reducible apply Mp); (focus first | assumption | exact .inl (by walk_at "evS") | exact .inr ⟨by lia,by lia⟩)) | ((with_reducible apply Mb); (focus walk_at "evS")) | ((with_reducible apply dShr_eq); (focus walk_at "evS")) | with_reducible exact K1 _ _ | with_reducible exact dNe_str _ _ | with_reducible exact dEq_bl _ _ | with_reducible exact dAndB_eq | exact dEq_nil _ _ | exact EA _ _ | assumption | rfl)
local macro_rules | `(tactic| walk_at "ev")=>`(tactic| first
 | with_reducible assumption
 | ((with_reducible apply aP); (focus walk_at "ev"); (focus walk_at "ev"); (focus walk_at "evO"))
 | ((with_reducible apply cK); (focus walk_at "ev"))
 | ((with_reducible apply iA); (focus walk_at "ev"); (focus first | assumption | rfl))
 | ((with_reducible apply xU); (focus walk_at "ev"); (focus walk_at "ev"))
 | ((with_reducible apply K5); (focus walk_at "ev"); (focus walk_at "ev"))
 | ((with_reducible apply iZ); (focus walk_at "ev"))
 | ((with_reducible apply lD); (focus walk_at "ev"); (focus walk_at "ev"))
 | ((with_reducible apply xV); (focus walk_at "ev"); (focus walk_at "ev"))
 | ((with_reducible apply K6); (focus walk_at "ev"))
 | ((with_reducible apply ax); (focus walk_at "ev"); (focus walk_at "ev"))
 | ((with_reducible apply eV); (focus walk_at "ev"))
 | ((with_reducible apply bV); (focus walk_at "ev"))
 | ((with_reducible apply aS); (focus walk_at "ev"); (focus first | with_reducible assumption | with_reducible exact ib _ _ | assumption | exact ib _ _ | exact len_kl _ _ | rfl))
 | ((with_reducible apply callS_is); (focus walk_at "ev"); (focus assumption); (focus rfl))
 | ((with_reducible apply aT); (focus walk_at "ev"); (focus walk_at "ev"); (focus first | assumption | rfl))
 | ((with_reducible apply Ez); (focus walk_at "ev"); (focus rfl); (focus rfl))
 | ((with_reducible apply mz); (focus walk_at "ev"); (focus rfl); (focus rfl))
 | ((with_reducible apply dn); (focus walk_at "ev"); (focus rfl))
 | rfl)
local macro_rules | `(tactic| walk_at "nrm")=>`(tactic| simp only [Et,qo,sE])
local macro_rules | `(tactic| walk_at "set")=>`(tactic| (apply ay; (first | with_reducible apply bM | with_reducible apply kh); (focus walk_at "ev"); walk_at "nrm"))
local macro_rules | `(tactic| walk_at "if0")=>`(tactic| ((with_reducible first | apply bq | apply hV); (focus walk_at "ev")))
def Bg(ns:List Int)(i:Int)(b:0<=i):∃v,pX [.kl (ns.map D.int),.int i]=aa (.int v):=by
 by_cases h:i<ns.length
 .obtain⟨x,_,e⟩:=c6 (f:=D.int) b h;refine⟨x,fU (KQ (KR (congrArg aa (decide_eq_true ?_)) (fT e)))⟩;rw[aH];exact h
 .refine⟨0,fU (xT (KS (congrArg aa (decide_eq_false ?_)) rfl) rfl)⟩;rw[aH];exact h
def p60:(0:Int)<10 ^ (60:Int).toNat:=by decide
def O0:oQ 10 60:=⟨by decide,by decide,by decide⟩
abbrev Nm(x:Int):Prop:=0<=x/\x<2305843009213693951
def rS(c n:Int)(j:0<=n)(r:n<=124):∃d,m_2 [.int c,.int n]=aa d/\∃xs:List Int,d=.lst (xs.map D.int)/\(xs.length:Int)=n/\∀x∈xs,Nm x:=by
 apply lH;unfold b_2;show wp _ [.im (.int c),.im (.int n),.no,.no,.no] _;have p:0<=c % 2305843009213693951:=dU _ (by decide);have q:c % 2305843009213693951<2305843009213693951:=d8 _ (by decide);walk_at "set";walk_at "set";apply ay
 refine eE (bI n.toNat) (λ(i:Nat)=>D.int i) (λpre ρ=>∃(xs:List Int) (y:Int) (v:Sl),ρ=[.im (.int c),.im (.int n),.own (xs.map D.int),.im (.int y),v]/\0<=y/\y<2 ^ 100/\xs.length=pre.length/\∀x∈xs,Nm x)
  (pE (by walk_at "ev") j (by lia)) ⟨[],_,.no,rfl,by lia,by lia,rfl,λx hx=>nomatch hx⟩ ?_ ?_
 .rintro pre i post ρ ex ⟨xs,y,v,rfl,y0,l,b,hx⟩
  have g:pre.length<n.toNat:=by
   have:pre.length<(bI n.toNat).length:=by rw[ex];simp
   simpa using this
  refine⟨_,rfl,?_⟩;walk_at "nrm";generalize hz:(y*(y+69621)+7*(i:Int)+1) % 2305843009213693951=z;have f:0<=z:=by rw[<- hz];exact dU _ (by decide)
  have m:z<2305843009213693951:=by rw[<- hz];exact d8 _ (by decide)
  apply ay;refine bM (by walk_at "ev") ?_;rw[hz];walk_at "nrm";refine lG rfl rfl (by rw[aH];lia) ?_;refine⟨xs++[z],z,.im (.int i),by rw[bO];rfl,f,by lia,by rw[a8,a8,b];rfl,λx e=>?_⟩
  rcases bT.mp e with h |h
  .exact hx x h
  .have:x=z:=by simpa using h
   subst this;exact⟨f,m⟩
 .rintro ρ ⟨xs,y,v,rfl,y0,l,b,hx⟩;rw[cT]at b;exact pJ rfl (gi ⟨xs,rfl,by lia,hx⟩)
def worth(x:Int)(hx:Nm x):∃d,rJ [.int x]=aa d/\∃w:Int,d=.int w/\0<=w:=by
 obtain⟨l,m⟩:=hx;apply lH;unfold uV;show wp _ [.im (.int x)] _;have e:=p60;have b:=O0;have m1:kj x x:=.inl (.inl ⟨by lia,by lia⟩);have m2:kj (x*x) x:=.inl (.inr ⟨by lia,by lia⟩);have j:kj (x*x*x) x:=.inl (.inr ⟨by lia,by lia⟩);apply ay;walk_at "if0"
 .intro _;walk_at "if0";exact d5 ⟨_,rfl,dU _ (Int.ne_of_gt e)⟩
 .intro _;apply ca;walk_at "nrm";obtain⟨w,c,h⟩:=c6 (f:=D.int) (xs:=[1,1,2,0,3,1,1,2]) (i:=x / 8 % 8) (dU _ (by decide)) (d8 _ (by decide));have g:∀x∈([1,1,2,0,3,1,1,2]:List Int),0<=x:=by decide
  walk_at "if0";exact d5 ⟨w,rfl,g w (dM c)⟩
variable{js:LN}{fi:MF2}{ρ:LS}
def Bh{i c:Type}{k:Nat}{g:D->LS->Option LS}{ft:MF4}{fe:MF1}(xs:List i)(f:i->D)(q:c->D)(P:c->Prop)
 (hi:fi ρ=aa (xs.map f))(hz:xs.length<=16777216)(m:∀x∈xs,∃z,P z/\fR g ft fe (eB k js ρ) (f x)=aa (aa (q z))):∃b:List c,bu k js fi g ft fe ρ=aa (b.map q)/\b.length=xs.length/\∀z∈b,P z:=by
 have key:∀ys:List i,(∀x∈ys,∃z,P z/\fR g ft fe (eB k js ρ) (f x)=aa (aa (q z)))->∃b:List c,fj (fR g ft fe (eB k js ρ)) (ys.map f)=aa (b.map q)/\b.length=ys.length/\∀z∈b,P z:=by
  intro ys
  induction ys with
  |nil=>intro _;exact⟨[],rfl,rfl,λz hz=>nomatch hz⟩
  |cons y ys n=>
   intro h;obtain⟨z,r,j⟩:=h y aN;obtain⟨b,e,l,p⟩:=n λx hx=>h x (bo _ hx);refine⟨z::b,?_,by rw[cp,cp,l],λw d=>?_⟩
   .rw[bp];unfold fj;rw[j,e];rfl
   .rcases aQ.mp d with rfl |d
    .exact r
    .exact p w d
 obtain⟨b,e,l,p⟩:=key xs m;refine⟨b,?_,l,p⟩;unfold bu;rw[hi];show(if (xs.map f).length<=16777216 then _ else ac)=_;rw[aH,if_pos hz];exact e
abbrev nmP:Prt->List Int
 |.inn t=>[t]
 |.out t=>[t]
 |.least _ its=>its.map (·.1)
 |.most _ its=>its.map (·.1)
variable{i:Nat}
def O1{xs:List Int}{x:Int}(h:∀x∈xs,Nm x)(e:xs[i]?=aa x):Nm x:=h x (dM e)
def O2{ys:List Int}{n:Int}(q:∀y∈ys,Nm y)(C:1<=n){t:Nat}(B:4+2*t<=ys.length)(m:t<=100)(hi:fi ρ=aa ((bI t).map λ(i:Nat)=>D.int i))(j:eB 1 js ρ=[.no,.im (.int n),.im (.lst (ys.map D.int))]):
  ∃its:List (Int×Int),bu 1 js fi (aG 0) kY (bw (ag (m2 bx (mIx (ar 2) (m2 cy (kI 4) (m2 dJ (kI 2) (af 0)))) (af 1)) (ag (aB rJ (ag (mIx (ar 2) (m2 cy (kI 5) (m2 dJ (kI 2) (af 0)))) nZ)) nZ))) ρ=aa (its.map itD)/\its.length=t/\InN n.toNat its:=by
 obtain⟨its,e,l,p⟩:=Bh (k:=1) (js:=js) (fi:=fi) (g:=aG 0) (ft:=λ_=>aa ab) (fe:=(bw (ag (m2 bx (mIx (ar 2) (m2 cy (kI 4) (m2 dJ (kI 2) (af 0)))) (af 1)) (ag (aB rJ (ag (mIx (ar 2) (m2 cy (kI 5) (m2 dJ (kI 2) (af 0)))) nZ)) nZ)))) (ρ:=ρ) (bI t) (λ(i:Nat)=>D.int i) itD (λz=>0<=z.1/\z.1<(n.toNat:Int)/\0<=z.2) hi (by rw[cT];lia) λi c=>by
  have c:=eM.mp c;obtain⟨a,_,v⟩:=c6 (f:=D.int) (xs:=ys) (i:=4+2*(i:Int)) (by lia) (by lia);obtain⟨b,h,x⟩:=c6 (f:=D.int) (xs:=ys) (i:=5+2*(i:Int)) (by lia) (by lia);obtain⟨d,A,w,rfl,u⟩:=worth b (O1 q h);have r:=dU a (show n≠0 by lia);have E:=d8 a (show 0<n by lia);refine⟨(a % n,w),⟨r,by show a % n<_;lia,u⟩,?_⟩;rw[j];exact fu (y:=.tup [.int (a % n),.int w]) rfl rfl (by walk_at "ev")
 exact⟨its,e,by rw[l,cT],p⟩
variable{its:List (Int×Int)}
def O3(hi:fi ρ=aa (its.map itD))(hz:its.length<=1000):aB jx (ag (aI (bu 2 [] fi (eS (b8 (aG 0) (b8 (aG 1) fQ))) kY (af 1))) nZ) ρ=aa (.int (its.map (·.2)).sum):=by
 refine aS (ax (bV (gG its itD (λz=>D.int z.2) hi (by lia) λz _=>fu rfl rfl rfl)) rfl) ?_;rw[Md];exact DM
def O4(ys:List Int)(n:Int)(N:10<=ys.length)(x:∀y∈ys,Nm y)(z:1<=n)(A:n<=60):∃d,uX [.lst (ys.map D.int),.int n]=aa d/\∃p:Prt,d=p.toD/\p.Ok n.toNat/\(nmP p).length<=3:=by
 apply lH;unfold uW;show wp _ [.im (.lst (ys.map D.int)),.im (.int n),.no,.no,.no] _;obtain⟨u,I,e0⟩:=c6 (f:=D.int) (xs:=ys) (i:=0) (by decide) (by lia);obtain⟨e,J,C⟩:=c6 (f:=D.int) (xs:=ys) (i:=1) (by decide) (by lia);obtain⟨j,L,E⟩:=c6 (f:=D.int) (xs:=ys) (i:=2) (by decide) (by lia);obtain⟨q,M,G⟩:=c6 (f:=D.int) (xs:=ys) (i:=3) (by decide) (by lia);obtain⟨r,l,H⟩:=c6 (f:=D.str) (xs:=["in","out","in","least","most"]) (i:=u % 5) (dU _ (by decide)) (d8 _ (by decide));have b:=dM l;simp only[aQ,cG,or_false]at b;walk_at "set";apply ay;walk_at "if0"
 .intro c;have m:=dU e (show n≠0 by lia);have T:=d8 e (show 0<n by lia);walk_at "if0";apply d5
  rcases b with rfl |rfl |rfl |rfl |rfl
  .exact⟨.inn (e % n),rfl,⟨m,by lia⟩,by show 1<=3;decide⟩
  .exact⟨.out (e % n),rfl,⟨m,by lia⟩,by show 1<=3;decide⟩
  .exact⟨.inn (e % n),rfl,⟨m,by lia⟩,by show 1<=3;decide⟩
  .exact kG (show ae=ab from c)
  .exact kG (show ae=ab from c)
 .intro c;apply ca;walk_at "nrm";have B:0<=j % 4:=dU _ (by decide);have U:j % 4<4:=d8 _ (by decide);obtain⟨its,v,Q,h⟩:=O2 (ys:=ys) (n:=n) x z (t:=(j % 4).toNat) (by lia) (by lia) (fi:=iV (ag (m2 bx (mIx (ar 0) (kI 2)) (kI 4)) nZ)) (ρ:=[.im (.lst (ys.map D.int)),.im (.int n),.im (.str r),.no,.no]) (js:=[1,0]) (pE (by walk_at "ev") B (by lia)) rfl;apply ay;refine bM (bV v) ?_;walk_at "nrm";apply ay;refine bM (O3 (dn (bV (mz rfl rfl (hi:=aa (q % 5)) (by unfold mPt;rw[show(m2 bx (mIx (ar 0) (kI 3)) (kI 5)) [.im (.lst (ys.map D.int)),.im (.int n),.im (.str r),.im (.lst (its.map itD)),.no]=aa (.int (q % 5)) by walk_at "ev"];rfl))) rfl) (by rw[jT,kO];lia)) ?_;walk_at "nrm";walk_at "if0";apply d5;have g:(its.map (·.1)).length<=3:=by rw[aH];lia
  rcases b with rfl |rfl |rfl |rfl |rfl
  .exact kG (show ab=ae from c)
  .exact kG (show ab=ae from c)
  .exact kG (show ab=ae from c)
  .exact⟨.least _ its,rfl,⟨h,by lia⟩,g⟩
  .exact⟨.most _ its,rfl,⟨h,by lia⟩,g⟩
variable{f g:MF1}
def Bi{a b:LD}(h:f ρ=aa (.lst a))(h':g ρ=aa (.lst b))(c:a.length+b.length<=16777216):mw f g ρ=aa (a++b):=by
 unfold mw;rw[h,h'];show(if a.length+b.length<=16777216 then aa (a++b) else ac)=_;rw[if_pos c]
abbrev inS(xs:List Int)(i:Nat):Bool:=xs.any λx=>x==(i:Int)
def O5(ks:List Key)(k j:Key):fV (gh ks k) j=(fV ks j || decide (k=j)):=by
 unfold gh
 by_cases e:fV ks k=ab
 .rw[if_pos e]
  by_cases h:k=j
  .subst h;rw[e];rfl
  .rw[decide_eq_false h,sx]
 .rw[if_neg e];unfold fV;rw[any_append];simp
def O6(ks:List Key)(k:Key):(gh ks k).length<=ks.length+1:=by
 unfold gh;split
 .omega
 .rw[a8];exact aL _
variable{fk fv:MF1}{d:D}{xs:LD}
def O7{x:D}{k:Key}{ks:List Key}(b:fv ρ=aa d)(c:fk ρ=aa x)(e:kg x=aa k)(h:ρ[i]?=aa (.ownd ks xs))(j:ks.length<16777216):
  lE i fk fv ρ=aa (.nx (ρ.set i (.ownd (gh ks k) (gK ks xs k d)))):=by
 unfold lE;rw[b,aA,c,aA,e,aA,h];show(if ks.length<16777216 then _ else ac)=_;rw[if_pos j]
def O8(n:Int)(xs:List Int)(m:0<=n)(v:n<=60)(r:xs.length<=63):m_7 [.int n,.lst (xs.map D.int)]=aa (.lst (((bI n.toNat).map (inS xs)).map D.bl)):=by
 obtain⟨ρ',e,ks,ds,b,rfl,l,c⟩:=KZ (g:=aG 3) (F:=lE 2 (af 3) (kBl ab)) (fi:=a9 (af 1)) (ρ:=[.im (.int n),.im (.lst (xs.map D.int)),.ownd [] [],.no]) xs D.int
  (λpre ρ=>∃(ks:List Key) (ds:LD) (b:Sl),ρ=[.im (.int n),.im (.lst (xs.map D.int)),.ownd ks ds,b]/\ks.length<=pre.length/\∀k:Int,fV ks (.inl k)=pre.any λx=>x==k)
  rfl ⟨[],[],.no,rfl,aL _,λ_=>rfl⟩ (by
   rintro pre x post ρ ex ⟨ks,ds,b,rfl,l,c⟩;have u:pre.length<xs.length:=by rw[ex];simp
   refine⟨_,_,rfl,.inl (O7 (ks:=ks) (xs:=ds) (k:=.inl x) rfl rfl rfl rfl (by lia)),gh ks (.inl x),_,_,rfl,?_,λk=>?_⟩
   .have:=O6 ks (.inl x);rw[a8];show _<=pre.length+1;lia
   .rw[O5,c,any_append]
    congr 1
    rw[gS,any_nil,sx]
    by_cases h:x=k
    .subst h;simp
    .rw[decide_eq_false (λq=>h (nt q))];exact(beq_eq_false_iff_ne.mpr h).symm)
 refine pA (xT rfl (xT e ?_));show kZ Fl.rtO (bu _ _ _ _ _ _ [.im (.int n),.im (.lst (xs.map D.int)),.im (.dic ks ds),b])=_;rw[map_map];refine congrArg (kZ Fl.rtO) (gG (bI n.toNat) (λ(i:Nat)=>D.int i) _ (pE rfl m (by lia)) (by rw[cT];lia) λj p=>?_);refine fu rfl rfl (aP (x:=.int j) (y:=.dic ks ds) rfl rfl ?_);show aa (D.bl (fV ks (.inl (j:Int))))=_;rw[c];rfl
abbrev oa(ws:List Bool):List Int:=((bI ws.length).filter λi=>ws.getD i ae).map λ(i:Nat)=>(i:Int)
def vA(ws:List Bool)(i:Int):i∈oa ws↔0<=i/\ws.getD i.toNat ae=ab:=by
 unfold oa;rw[bf];constructor
 .rintro⟨j,c,rfl⟩;obtain⟨_,b⟩:=dX.mp c;exact⟨by lia,by simpa using b⟩
 .rintro⟨l,h⟩;refine⟨i.toNat,dX.mpr ⟨eM.mpr ?_,h⟩,by lia⟩
  by_cases e:i.toNat<ws.length
  .exact e
  .rw[bD,cY (by lia)]at h;cases h
def FM(p:Prt):AD [p.toD]=aa p.obj:=by
 cases p <;> rfl
variable{es:List (Option Bool)}
def Bj(h:InN es.length its)(hz:its.length<=100000):rL [.lst (its.map itD),.lst (es.map shD)]=aa (.int (bc (·==aa ab) es its)):=by
 refine fU (fT (aS (ax (bV (jA its itD (λz=>es.getD z.1.toNat ac==aa ab) (λz=>D.int z.2) rfl (by lia) λz b=>?_)) rfl) (DR (λt=>es.getD t.toNat ac==aa ab) its)));exact gH rfl (cK (aP (aT rfl rfl (kf (h z b).1 (h z b).2.1)) rfl (qT _ _))) λ_=>rfl
def Bk(h:InN es.length its)(hz:its.length<=100000):pY [.lst (its.map itD),.lst (es.map shD)]=aa (.int (bc (λe=>!(e==aa ae)) es its)):=by
 refine fU (fT (aS (ax (bV (jA its itD (λz=>!(es.getD z.1.toNat ac==aa ae)) (λz=>D.int z.2) rfl (by lia) λz b=>?_)) rfl) (DR (λt=>!(es.getD t.toNat ac==aa ae)) its)));exact gH rfl (cK (aP (aT rfl rfl (kf (h z b).1 (h z b).2.1)) rfl (DQ _ _))) λ_=>rfl
variable{ws:List Bool}
def O9(h:InN es.length its)(e:ws.length=es.length)(hz:its.length<=100000):
  A0 [.lst (its.map itD),.lst (ws.map D.bl)]=aa (.lst ((its.filter λz=>!(ws.getD z.1.toNat ae)).map itD)):=by
 refine pA (congrArg (kZ Fl.rtO) (jA its itD (λz=>!(ws.getD z.1.toNat ae)) itD rfl (by lia) λz b=>?_));have c:=h z b;exact gH rfl (iZ (iA (aT rfl rfl (qS c.1 (by rw[e];exact c.2.1))) rfl)) λ_=>rfl
def Pa(h:InN es.length its)(hz:its.length<=100000):
  pY [.lst ((its.filter λz=>!(ws.getD z.1.toNat ae)).map itD),.lst (es.map shD)]=aa (.int (jt (λt=>!(es.getD t.toNat ac==aa ae) && !(ws.getD t.toNat ae)) its)):=by
 have e:=kM (λz:Int×Int=>!(ws.getD z.1.toNat ae)) its;have b:InN es.length (its.filter λz=>!(ws.getD z.1.toNat ae)):=λz c=>h z (dX.mp c).1;refine(Bk b (by lia)).trans ?_;rw[lu];exact congrArg (λz=>aa (D.int z)) (Kl (λt=>!(es.getD t.toNat ac==aa ae)) (λt=>!(ws.getD t.toNat ae)) its)
def Pb(p:Prt)(h:p.Ok es.length)(b:ws.length=es.length):∀m,m=(match p with |.inn _=>rM |.out _=>rP |.least _ _=>rN |.most _ _=>rO) ->
  m [p.obj,.lst (es.map shD),.lst (ws.map D.bl)]=aa (.bl (p.lost es ws)):=by
 intro m e;subst e
 cases p with
 |inn t=>exact fU (fT (xV (aP (aT rfl rfl (kf h.1 h.2)) rfl (qT _ _)) (aT rfl rfl (qS h.1 (by rw[b];exact h.2)))))
 |out t=>exact fU (fT (aP (aT rfl rfl (kf h.1 h.2)) rfl (qT _ _)))
 |least k its=>exact fU (fT (aP (aS (ax (aS rfl (O9 h.1 b h.2)) (ax rfl rfl)) (Pa h.1 h.2)) rfl rfl))
 |most k its=>exact fU (fT (aP (aS rfl (Bj h.1 h.2)) rfl rfl))
variable{fo:MF1}{fa:MF2}
def FN(p:Prt)(h:p.Ok es.length)(c:ws.length=es.length)(b:fo ρ=aa p.obj)(ha:fa ρ=aa [.lst (es.map shD),.lst (ws.map D.bl)]):
  bG (aY "In" "lost" rM fo fa) (bG (aY "Out" "lost" rP fo fa) (bG (aY "Least" "lost" rN fo fa) (aY "Most" "lost" rO fo fa))) ρ=aa (.bl (p.lost es ws)):=by
 have hm:=Pb (ws:=ws) p h c _ rfl
 cases p with
 |inn t=>exact gJ ((dS b rfl ha).trans hm)
 |out t=>exact cL (cM b (by decide)) (gJ ((dS b rfl ha).trans hm))
 |least k its=>exact cL (cM b (by decide)) (cL (cM b (by decide)) (gJ ((dS b rfl ha).trans hm)))
 |most k its=>exact cL (cM b (by decide)) (cL (cM b (by decide)) (cL (cM b (by decide)) ((dS b rfl ha).trans hm)))
def Pc(p:Prt)(h:p.Ok es.length)(b:fo ρ=aa p.obj)(ha:fa ρ=aa [.lst (es.map shD)]):
  bG (aY "In" "sure" AF fo fa) (bG (aY "Out" "sure" AT fo fa) (bG (aY "Least" "sure" AK fo fa) (aY "Most" "sure" AQ fo fa))) ρ=aa (.bl (p.sure es)):=by
 cases p with
 |inn t=>exact gJ ((dS b rfl ha).trans (fU (fT (aP (aT rfl rfl (kf h.1 h.2)) rfl (qT _ _)))))
 |out t=>exact cL (cM b (by decide)) (gJ ((dS b rfl ha).trans (fU (fT (aP (aT rfl rfl (kf h.1 h.2)) rfl (qT _ _))))))
 |least k its=>exact cL (cM b (by decide)) (cL (cM b (by decide)) (gJ ((dS b rfl ha).trans (fU (fT (aP (aS rfl (Bj h.1 h.2)) rfl rfl))))))
 |most k its=>exact cL (cM b (by decide)) (cL (cM b (by decide)) (cL (cM b (by decide)) ((dS b rfl ha).trans (fU (fT (aP (aS rfl (Bk h.1 h.2)) rfl rfl))))))
variable{n:Nat}
def FO(r:Rul)(h:r.Ok n):m_1 [r.toD]=aa (.lst (r.ps.map Prt.obj)):=
 pA (congrArg (kZ Fl.rtO) (gG r.ps Prt.toD Prt.obj rfl (by have:=h.len;lia) λp _=>fu rfl rfl (aS rfl (FM p))))
structure Spr where
 es:List (Option Bool)
 st:LD
 bs:LD
 gk:List (List Key)
 gd:LD
 ws:List (List Key×LD)
 wt:LD
 mks:D
abbrev lsO(ds:LD):O:=.lst (ds.map .fz)
abbrev wsO(ws:List (List Key×LD)):O:=.dT (ws.map (·.1)) (ws.map λp=>lsO p.2)
@[reducible]noncomputable def spN:LSt:=["sheet","steps","bars","guards","watches","waiting","makers"]
abbrev Spr.o(s:Spr):O:=.ins "Spreading" spN [lsO (s.es.map shD),lsO s.st,lsO s.bs,.dT s.gk (s.gd.map .fz),wsO s.ws,lsO s.wt,.fz s.mks]
variable{l:Addr}{s:Spr}
def rT:bv "Spreading" "sheet" (aX 0) (.deep (.at l s.o)::ρ)=aa (lsO (s.es.map shD),λx=>.at l (.ins "Spreading" spN [x,lsO s.st,lsO s.bs,.dT s.gk (s.gd.map .fz),wsO s.ws,lsO s.wt,.fz s.mks])):=rfl
def Pd:bv "Spreading" "steps" (aX 0) (.deep (.at l s.o)::ρ)=aa (lsO s.st,λx=>.at l (.ins "Spreading" spN [lsO (s.es.map shD),x,lsO s.bs,.dT s.gk (s.gd.map .fz),wsO s.ws,lsO s.wt,.fz s.mks])):=rfl
def Bl:bv "Spreading" "bars" (aX 0) (.deep (.at l s.o)::ρ)=aa (lsO s.bs,λx=>.at l (.ins "Spreading" spN [lsO (s.es.map shD),lsO s.st,x,.dT s.gk (s.gd.map .fz),wsO s.ws,lsO s.wt,.fz s.mks])):=rfl
def FP:bv "Spreading" "guards" (aX 0) (.deep (.at l s.o)::ρ)=aa (.dT s.gk (s.gd.map .fz),λx=>.at l (.ins "Spreading" spN [lsO (s.es.map shD),lsO s.st,lsO s.bs,x,wsO s.ws,lsO s.wt,.fz s.mks])):=rfl
def vB:bv "Spreading" "watches" (aX 0) (.deep (.at l s.o)::ρ)=aa (wsO s.ws,λx=>.at l (.ins "Spreading" spN [lsO (s.es.map shD),lsO s.st,lsO s.bs,.dT s.gk (s.gd.map .fz),x,lsO s.wt,.fz s.mks])):=rfl
def oe:bv "Spreading" "waiting" (aX 0) (.deep (.at l s.o)::ρ)=aa (lsO s.wt,λx=>.at l (.ins "Spreading" spN [lsO (s.es.map shD),lsO s.st,lsO s.bs,.dT s.gk (s.gd.map .fz),wsO s.ws,x,.fz s.mks])):=rfl
def Pe:bv "Spreading" "makers" (aX 0) (.deep (.at l s.o)::ρ)=aa (.fz s.mks,λx=>.at l (.ins "Spreading" spN [lsO (s.es.map shD),lsO s.st,lsO s.bs,.dT s.gk (s.gd.map .fz),wsO s.ws,lsO s.wt,x])):=rfl
variable{p:Xp}{ds:LD}{R:O->O}
def Bm(h:p ρ=aa (lsO ds,R)):pC p ρ=aa ds:=by
 unfold pC;rw[h];exact yR ds
def mH:∀(ds:LD),O.kns (ds.map .fz)=ab
 | []=>by rw[map_nil,O.kns]
 |d::ds=>by rw[bp,O.kns,O.kn,mH ds];rfl
def oh(h:p ρ=aa (lsO ds,R)):pB p ρ=aa (.lst ds):=by
 unfold pB lsO at *;rw[h,aA];dsimp only;rw[O.kn,mH,if_pos rfl,O.toD,C5]
def Pf(h:p ρ=aa (.fz d,R)):pD p ρ=aa d:=by
 unfold pD;rw[h];rfl
variable{K:Fl->Prop}
def Bo(h:p ρ=aa (lsO ds,R))(b:f ρ=aa d)(hz:ds.length<16777216)(k:K (.nx (ρ.set i (.deep (R (lsO (ds++[d]))))))):wp (pQ i p f) ρ K:=⟨_,by
 unfold pQ lsO at *;rw[h,aA,b,aA];show(if (ds.map O.fz).length<16777216 then aa (O.lst (ds.map .fz++[.fz d])) else ac).map _=_;rw[if_pos (by rw[aH];exact hz),show ds.map O.fz++[.fz d]=(ds++[d]).map .fz by rw[bO];rfl];rfl,k⟩
variable{ks:List (List Key)}{os:List O}{y:D}{k:List Key}
def Pg(hv:fv ρ=aa d)(h:p ρ=aa (.dT ks os,R))(b:fk ρ=aa y)(c:mD y=aa k)(hn:aU k ks=ac)(hz:ks.length<16777216)
 (q:K (.nx (ρ.set i (.deep (R (.dT (ks++[k]) (os++[.fz d]))))))):wp (uC i p fk fv) ρ K:=⟨_,by
 unfold uC;rw[hv,aA,h,aA,b,aA,c,aA];show(if aU k ks=ac/\ks.length<16777216 then aa (O.dT (ks++[k]) (os++[.fz d])) else ac).map _=_;rw[if_pos ⟨hn,hz⟩];rfl,q⟩
abbrev gN(k:List Key)(y:D):List (List Key×LD)->List (List Key×LD)
 | []=>[(k,[y])]
 |p::ws=>if p.1=k then (p.1,p.2++[y])::ws else p::gN k y ws
def Bp{k:List Key}{y:D}:∀{ws:List (List Key×LD)},aU k (ws.map (·.1))=ac->gN k y ws=ws++[(k,[y])]
 | [],_=>rfl
 |p::ws,h=>by
  rw[bp]at h;unfold aU at h;split at h
  .cases h
  .rename_i e;unfold gN;rw[if_neg e]
   cases h':aU k (ws.map (·.1))with
   |none=>rw[Bp h'];rfl
   |some j=>rw[h']at h;cases h
def Bq{k:List Key}{y:D}:∀{ws:List (List Key×LD)} {j:Nat},aU k (ws.map (·.1))=aa j->∃p,ws[j]?=aa p/\p.1=k/\gN k y ws=ws.set j (p.1,p.2++[y])
 | [],_,h=>by cases h
 |p::ws,j,h=>by
  rw[bp]at h;unfold aU at h;split at h
  .rename_i e;cases h;refine⟨p,rfl,e,?_⟩;unfold gN;rw[if_pos e];rfl
  .rename_i e
   cases h':aU k (ws.map (·.1))with
   |none=>rw[h']at h;cases h
   |some i=>
    rw[h']at h;cases h;obtain⟨q,a,b,c⟩:=Bq (y:=y) h';refine⟨q,by rw[eJ];exact a,b,?_⟩;unfold gN;rw[if_neg e,c];rfl
structure b4(c:Nat)(ws:List (List Key×LD)):Prop where
 ln:ws.length<=c
 al:∀p∈ws,p.2.length<=c
variable{c:Nat}{ws:List (List Key×LD)}
def b4.add(h:b4 c ws)(k:List Key)(y:D):b4 (c+1) (gN k y ws):=by
 cases b:aU k (ws.map (·.1))with
 |none=>
  rw[Bp b];refine⟨by rw[a8,dW];have:=h.ln;lia,λp r=>?_⟩
  rcases bT.mp r with q |q
  .have:=h.al p q;lia
  .rw[dF.mp q];exact Nat.succ_le_succ (c4 _)
 |some j=>
  obtain⟨p,e,_,m⟩:=Bq (y:=y) b;rw[m];refine⟨by rw[jc];have:=h.ln;lia,λq u=>?_⟩
  rcases mem_or_eq_of_mem_set u with z |z
  .have:=h.al q z;lia
  .rw[z];have:=h.al p (dM e);show(p.2++[y]).length<=_;rw[a8,dW];lia
def Ph(h:aU k ks=ac)(hz:ks.length<16777216):(O.dT ks os).apdK k d=aa (.dT (ks++[k]) (os++[.lst [.fz d]])):=by
 unfold O.apdK;dsimp only;rw[h];exact if_pos hz
variable{j:Nat}{o2:O}
def Pi{o1:O}(h:aU k ks=aa j)(b:os[j]?=aa o1)(e:o1.appd d=aa o2):(O.dT ks os).apdK k d=aa (.dT ks (os.set j o2)):=by
 unfold O.apdK;dsimp only;rw[h];dsimp only;rw[b,aA,e];rfl
def Pj(h:ds.length<16777216):(lsO ds).appd y=aa (lsO (ds++[y])):=by
 unfold lsO O.appd;dsimp only;rw[aH,if_pos h,bO];rfl
def Pl(h:b4 c ws)(q:c<16777216)(k:List Key)(y:D):(wsO ws).apdK k y=aa (wsO (gN k y ws)):=by
 unfold wsO
 cases b:aU k (ws.map (·.1))with
 |none=>
  rw[Ph b (by rw[aH];have:=h.ln;lia),Bp b,bO,bO]
  rfl
 |some j=>
  obtain⟨p,e,_,m⟩:=Bq (y:=y) b;rw[Pi b (o1:=lsO p.2) (by rw[cA,e];rfl) (Pj (by have:=h.al p (dM e);lia)),m,kP,kP];dsimp only;rw[rf (l:=ws.map (·.1)) (k:=j) (x:=p.1) (by rw[cA,e];rfl)]
def Pn(h:p ρ=aa (wsO ws,R))(e:g ρ=aa y)(r:mD y=aa k)(m:af j ρ=aa d)(ok:b4 c ws)(b:c<16777216)(q:K (.nx (ρ.set i (.deep (R (wsO (gN k d ws))))))):wp (uD i j p g) ρ K:=⟨_,by
 unfold uD;rw[h,aA,e,aA,r,aA,m,aA];dsimp only;rw[Pl ok b];rfl,q⟩
variable{m:MTf}{hI:LS}{o o':O}
def lK{cn b:Str}{f:Xa}{e:O}(h:ρ[i]?=aa (.deep (.at l e)))(hi:e.isIns cn b=ab)(r:f ρ=aa (ds,hI))(q:hI[i]?=aa (.deep (.at l o)))(hm:m l ds o=aa (o',d)):gj i cn b m f ρ=aa (d,hI.set i (.deep (.at l o'))):=by
 unfold gj;rw[h];show(if e.isIns cn b=ab then _ else ac)=_;rw[if_pos hi,r,aA];dsimp only;rw[q];show(m l ds o).map _=_;rw[hm];rfl
def Po{cn:Str}(h:fa ρ=aa ds)(hm:∀l,m l ds (.ins cn [] [])=aa (o,.non)):pT cn m fa ρ=aa o:=by
 unfold pT;rw[h,aA];have hx:∃o,∀l,m l ds (.ins cn [] [])=aa (o,.non):=⟨o,hm⟩;rw[dif_pos hx];have:=hx.choose_spec 0;rw[hm 0]at this;exact congrArg aa (qt (cN this)).1.symm
abbrev FQ(l:Addr)(Q:O->D->Prop)(r:Fl):Prop:=match r with
 |.nx ρ=>∃o,ρ[0]?=aa (.deep (.at l o))/\Q o .non
 |.rtS d ρ=>∃o,ρ[0]?=aa (.deep (.at l o))/\Q o d
 | _=>False
variable{N:Nat}{F:MF3}
def Pp{Q:O->D->Prop}(h:wp F (rk N l ds o) (FQ l Q)):∃o' d,ie N F l ds o=aa (o',d)/\Q o' d:=by
 obtain⟨r,e,q⟩:=h;unfold ie;rw[e,aA]
 cases r with
 |nx ρ=>obtain⟨o',b,q⟩:=q;exact⟨o',.non,by dsimp only;rw[E4 b];rfl,q⟩
 |rtS d ρ=>obtain⟨o',b,q⟩:=q;exact⟨o',d,by dsimp only;rw[E4 b];rfl,q⟩
 | _=>exact q.elim
def lL(h:wp F (rk N l ds o) (FQ l λx y=>x=o'/\y=d)):ie N F l ds o=aa (o',d):=by
 obtain⟨a,b,e,rfl,rfl⟩:=Pp h;exact e
def pZ(h:f ρ=aa d)(k:K (.rtS d ρ)):wp (kc f) ρ K:=⟨_,by unfold kc;rw[h];rfl,k⟩
def mJ{cn f:Str}{g:LS->Option O}{x:O}{q:O×(O->O)}(b:g ρ=aa x)(h:p ρ=aa q)(e:q.1.setF cn f x=aa o2)(k:K (.nx (ρ.set i (.deep (q.2 o2))))):wp (jH i cn f p g) ρ K:=⟨_,by
 unfold jH;rw[b,aA,h,aA,e];rfl,k⟩
def p7{f:Xe}{ρ':LS}(h:f ρ=aa (d,ρ'))(k:K (.nx ρ')):wp (jF f) ρ K:=⟨_,by unfold jF;rw[h];rfl,k⟩
def vC{f:MF2}(h:f ρ=aa ds):mC f ρ=aa (lsO ds):=by unfold mC lsO;rw[h];rfl
def FR(h:f ρ=aa d):pL f ρ=aa (.fz d):=by unfold pL;rw[h];rfl
variable{ns:List Int}
def Pq(h:f ρ=aa (.lst (ns.map D.int)))(b:ns.length<4000)(e:(b9 ns).length<64):qV f ρ=aa ((b9 ns).map D.int):=by
 unfold qV;rw[h,aA];show(i4 (ns.map D.int)).bind _=_;rw[yu,aA,if_pos ⟨b,e⟩]
def Br(h:∀x∈ns,0<=x/\x<(n:Int)):(b9 ns).length<=n:=by
 have nd:(b9 ns).Nodup:=(nY ns).imp λh=>Int.ne_of_lt h
 by_cases e:(b9 ns).length<=n
 .exact e
 .have q:∀x∈b9 ns,x∈(bI n).map λ(i:Nat)=>(i:Int):=λx hx=>by
   obtain⟨a,b⟩:=h x ((nX x ns).mp hx);exact bf.mpr ⟨x.toNat,eM.mpr (by lia),by lia⟩
  have p:=pI (b9 ns) _ nd q (by rw[aH,cT];lia);have:=p.length_eq;rw[aH,cT]at this;lia
def Ps(h:f ρ=aa (.lst ds))(h':ρ[i]?=aa (.own xs))(b:xs.length+ds.length<=16777216):qN i (qM f) ρ=aa (.nx (ρ.set i (.own (xs++ds)))):=by
 unfold qN qM;rw[h]
 show(match ρ[i]? with |some (.own xs)=>if xs.length+ds.length<=16777216 then aa (Fl.nx (ρ.set i (.own (xs++ds)))) else ac | _=>ac)=_
 rw[h'];show(if xs.length+ds.length<=16777216 then _ else ac)=_;rw[if_pos b]
variable{p:Prt}
def rV(h:p.Ok n):∀x∈nmP p,0<=x/\x<(n:Int):=λx hx=>by
 cases p with
 |inn t=>
  have:x=t:=by simpa[nmP]using hx
  subst this
  exact h
 |out t=>
  have:x=t:=by simpa[nmP]using hx
  subst this
  exact h
 |least k its=>obtain⟨z,hz,rfl⟩:=bf.mp hx;exact⟨(h.1 z hz).1,(h.1 z hz).2.1⟩
 |most k its=>obtain⟨z,hz,rfl⟩:=bf.mp hx;exact⟨(h.1 z hz).1,(h.1 z hz).2.1⟩
abbrev put(es:List (Option Bool))(k:Nat)(b:Bool):List (Option Bool):=es.set k (aa b)
def d3(es:List (Option Bool))(k:Nat)(b:Bool):(put es k b).length=es.length:=jc
variable{k:Nat}
def gO(es:List (Option Bool))(b:Bool)(h:j≠k):(put es k b).getD j ac=es.getD j ac:=by
 unfold put;rw[bD,bD,kH (eZ h)]
def ko(es:List (Option Bool))(b:Bool)(h:k<es.length):(put es k b).getD k ac=aa b:=by
 unfold put;rw[bD,jR h];rfl
variable{es':List (Option Bool)}
def FS{q:Option Bool->Bool}(h:∀z∈its,q (es'.getD z.1.toNat ac)=q (es.getD z.1.toNat ac)):bc q es' its=bc q es its:=by
 unfold bc;rw[filter_congr h]
def Pt{b:Bool}(q:p.Ok es.length)(h:(k:Int)∉nmP p):p.sure (put es k b)=p.sure es:=by
 have ne:∀t:Int,0<=t->t∈nmP p->t.toNat≠k:=λt u r e=>by
  have:(k:Int)=t:=by lia
  exact h (this▸r)
 cases p with
 |inn t=>
  have:=ne t q.1 (by simp[nmP]);show((put es k b).getD t.toNat ac==aa ab)=_;rw[gO es b this]
  rfl
 |out t=>
  have:=ne t q.1 (by simp[nmP]);show((put es k b).getD t.toNat ac==aa ae)=_;rw[gO es b this]
  rfl
 |least c its=>
  show decide (c<=bc _ (put es k b) its)=decide (c<=bc _ es its)
  rw[FS (es:=es) λz hz=>by rw[gO es b (ne z.1 (q.1 z hz).1 (bf.mpr ⟨z,hz,rfl⟩))]]
 |most c its=>
  show decide (bc _ (put es k b) its<=c)=decide (bc _ es its<=c);rw[FS (es:=es) λz hz=>by rw[gO es b (ne z.1 (q.1 z hz).1 (bf.mpr ⟨z,hz,rfl⟩))]]
abbrev opn(es:List (Option Bool))(t:Int):Bool:=es.getD t.toNat ac==ac
abbrev nmL:Prt->List Int
 |.inn t=>[t]
 |.out t=>[t]
 |.least _ its=>b9 (its.map (·.1))
 |.most _ its=>b9 (its.map (·.1))
abbrev gP:Prt->Bool
 |.inn _=>ab
 |.out _=>ae
 |.least _ _=>ab
 |.most _ _=>ae
def rW(h:p.Ok n)(hn:n<=60):(nmL p).length<64:=by
 cases p with
 |inn t=>show 1<64;decide
 |out t=>show 1<64;decide
 |least k its=>have:=Br (rV h);show(b9 (its.map (·.1))).length<64;exact oy this (by lia)
 |most k its=>have:=Br (rV h);show(b9 (its.map (·.1))).length<64;exact oy this (by lia)
variable{t:Int}
def vE:t∈nmL p↔t∈nmP p:=by
 cases p with
 |inn u=>exact ja
 |out u=>exact ja
 |least k its=>exact nX t _
 |most k its=>exact nX t _
def FT(e:its.length<=1000)(b:(b9 (its.map (·.1))).length<64):u6 [.lst (its.map itD)]=aa (.lst ((b9 (its.map (·.1))).map D.int)):=by
 refine pA (congrArg (kZ Fl.rtO) (Pq (bV ?_) (by rw[aH];lia) b));rw[map_map];exact gG its itD (λz=>D.int z.1) rfl (by lia) λz _=>fu rfl rfl rfl
def FU(p:Prt)(h:p.Ok n)(hn:n<=60)(q:(nmP p).length<=1000)(b:fo ρ=aa p.obj):
  bG (aY "In" "named" u5 fo λ_=>aa []) (bG (aY "Out" "named" u9 fo λ_=>aa []) (bG (aY "Least" "named" u7 fo λ_=>aa []) (aY "Most" "named" u8 fo λ_=>aa []))) ρ=aa (.lst ((nmL p).map D.int)):=by
 have r:=rW h hn
 cases p with
 |inn t=>exact gJ ((dS b rfl rfl).trans rfl)
 |out t=>exact cL (cM b (by decide)) (gJ ((dS b rfl rfl).trans rfl))
 |least k its=>
  have e:=FT (its:=its) (by simpa[nmP]using q) r
  exact cL (cM b (by decide)) (cL (cM b (by decide)) (gJ ((dS b rfl rfl).trans (fU (fT (aS rfl e))))))
 |most k its=>
  have e:=FT (its:=its) (by simpa[nmP]using q) r;exact cL (cM b (by decide)) (cL (cM b (by decide)) (cL (cM b (by decide)) ((dS b rfl rfl).trans (fU (fT (aS rfl e))))))
def Pu(p:Prt)(b:fo ρ=aa p.obj):
  bG (aY "In" "wants" Am fo λ_=>aa []) (bG (aY "Out" "wants" Aw fo λ_=>aa []) (bG (aY "Least" "wants" Aq fo λ_=>aa []) (aY "Most" "wants" At fo λ_=>aa []))) ρ=aa (.bl (gP p)):=by
 cases p with
 |inn t=>exact gJ ((dS b rfl rfl).trans rfl)
 |out t=>exact cL (cM b (by decide)) (gJ ((dS b rfl rfl).trans rfl))
 |least k its=>exact cL (cM b (by decide)) (cL (cM b (by decide)) (gJ ((dS b rfl rfl).trans rfl)))
 |most k its=>exact cL (cM b (by decide)) (cL (cM b (by decide)) (cL (cM b (by decide)) ((dS b rfl rfl).trans rfl)))
@[reducible]noncomputable def Wss:=List (List Key×LD)
abbrev fw(t:Int)(b:Bool):List Key:=[.inl t,.inl (cond b 1 0)]
abbrev vF(y:D)(ws:Wss)(p:Prt):Wss:=(nmL p).foldl (λws t=>gN (fw t (gP p)) y ws) ws
abbrev mK(y:D)(ps:List Prt)(ws:Wss):Wss:=ps.foldl (vF y) ws
def b4.ts{c:Nat}{b:Bool}{y:D}:∀(ts:List Int) {ws:Wss},b4 c ws->b4 (c+ts.length) (ts.foldl (λws t=>gN (fw t b) y ws) ws)
 | [],_,h=>h
 |t::ts,ws,h=>by
  have:=b4.ts (c:=c+1) (b:=b) (y:=y) ts (h.add (fw t b) y);rw[cp,show c+(ts.length+1)=c+1+ts.length by lia];exact this
def b4.le{b:Nat}{ws:Wss}(h:b4 c ws)(e:c<=b):b4 b ws:=⟨c3 h.ln e,λp q=>c3 (h.al p q) e⟩
abbrev PrK(n:Nat)(p:Prt):Prop:=p.Ok n/\(nmP p).length<=1000
def b4.prt{ws:Wss}(h:b4 c ws)(b:PrK n p)(hn:n<=60):b4 (c+64) (vF y ws p):=by
 have:=rW b.1 hn;exact(b4.ts (nmL p) h).le (by lia)
def b4.reg{n:Nat}{y:D}(hn:n<=60):∀{ps:List Prt} {c:Nat} {ws:Wss},(∀p∈ps,PrK n p)->b4 c ws->b4 (c+64*ps.length) (mK y ps ws)
 | [],_,_,_,h=>h
 |p::ps,c,ws,hp,h=>by
  have:=b4.reg (y:=y) hn (ps:=ps) (λq b=>hp q (bo _ b)) (h.prt (y:=y) (hp p aN) hn);rw[cp,show c+64*(ps.length+1)=c+64+64*ps.length by lia];exact this
abbrev vG(s:Spr)(y:D)(k:List Key)(ps:List Prt):Spr:={s with gk:=s.gk++[k],gd:=s.gd++[.lst (ps.map Prt.obj)],ws:=mK y ps s.ws,wt:=s.wt++[y]}
def Pw(ds:LD)(d:D):ds.map O.fz++[.fz d]=(ds++[d]).map .fz:=by rw[bO];rfl
def FV{k:List Key}(s:Spr)(ps:List Prt)(J:mD y=aa k)(B:aU k s.gk=ac)(A:s.gk.length<16777216)(x:∀p∈ps,PrK n p)(hn:n<=60)(I:b4 c s.ws)(L:c+64*ps.length<16777216)(hz:s.wt.length<16777216)(E:ps.length<=100000):
  rK l [y,.lst (ps.map Prt.obj)] s.o=aa ((vG s y k ps).o,.non):=by
 apply lL;unfold va;show wp _ [.deep (.at l s.o),.im y,.im (.lst (ps.map Prt.obj)),.no,.no] _;apply ay;refine Pg rfl FP rfl J B A ?_;rw[Pw]
 show wp _ [.deep (.at l ({s with gk:=s.gk++[k],gd:=s.gd++[.lst (ps.map Prt.obj)]}:Spr).o),.im y,.im (.lst (ps.map Prt.obj)),.no,.no] _
 apply ay
 refine eE ps Prt.obj (λpre ρ=>∃v b,ρ=[.deep (.at l ({s with gk:=s.gk++[k],gd:=s.gd++[.lst (ps.map Prt.obj)],ws:=mK y pre s.ws}:Spr).o),.im y,.im (.lst (ps.map Prt.obj)),v,b]) rfl ⟨_,_,rfl⟩ ?_ ?_
 .rintro pre p post ρ ex ⟨v,b,rfl⟩;have r:p∈ps:=by rw[ex];simp
  have e:=x p r;have z:pre.length<ps.length:=by rw[ex];simp
  have u:b4 (c+64*pre.length) (mK y pre s.ws):=b4.reg hn (λq H=>x q (by rw[ex];simp[H])) I;have C:=rW e.1 hn;refine⟨_,rfl,?_⟩;walk_at "nrm"
  refine eE (nmL p) D.int (λpr ρ=>∃b,ρ=[.deep (.at l ({s with gk:=s.gk++[k],gd:=s.gd++[.lst (ps.map Prt.obj)],ws:=pr.foldl (λws t=>gN (fw t (gP p)) y ws) (mK y pre s.ws)}:Spr).o),.im y,.im (.lst (ps.map Prt.obj)),.im p.obj,b]) (dn (FU p e.1 hn e.2 rfl) rfl) ⟨_,rfl⟩ ?_ ?_
  .rintro pr t po ρ h ⟨b,rfl⟩;have G:pr.length<(nmL p).length:=by rw[h];simp
   refine⟨_,rfl,?_⟩;walk_at "nrm";refine Pn vB (eV (ax rfl (ax (Pu p rfl) rfl))) rfl rfl (b4.ts pr u) (by lia) ?_;refine⟨.im (.int t),?_⟩;rw[fE];rfl
  .rintro ρ ⟨b,rfl⟩;refine⟨.im p.obj,b,?_⟩;unfold mK;rw[fE];rfl
 .rintro ρ ⟨v,b,rfl⟩;refine Bo oe rfl hz ?_;exact⟨_,rfl,rfl,rfl⟩
abbrev mkD(r:Rul):D:=.tup [.int r.hd,.lst (r.ps.map Prt.obj)]
abbrev lM(rs:List Rul):List Rul:=rs.filter λr=>r.w != .never
abbrev grd(r:Rul):List Prt:=match r.w with
 |.may=>[.least 1 []]
 |.make=>r.ps++[.out r.hd]
 |.never=>r.ps
structure RuK(n:Nat)(r:Rul):Prop where
 ok:r.Ok n
 nm:∀p∈r.ps,(nmP p).length<=1000
 len:r.ps.length<=1000
variable{r:Rul}
def rX(h:RuK n r):∀p∈grd r,PrK n p:=λp b=>by
 obtain⟨w,hd,ps⟩:=r
 cases w with
 |may=>
  have:p=.least 1 []:=by simpa[grd]using b
  subst this
  exact⟨⟨(λz hz=>nomatch hz),c4 _⟩,c4 _⟩
 |make=>
  rcases bT.mp (show p∈ps++[Prt.out hd]from b)with q |q
  .exact⟨h.ok.ps p q,h.nm p q⟩
  .rw[dF.mp q]
   exact⟨h.ok.hd (λz=>by cases z),by show 1<=1000;decide⟩
 |never=>exact⟨h.ok.ps p b,h.nm p b⟩
def FW(h:RuK n r):(grd r).length<=1001:=by
 obtain⟨w,hd,ps⟩:=r;have b:ps.length<=1000:=h.len
 cases w with
 |may=>show 1<=1001;decide
 |make=>show(ps++[Prt.out hd]).length<=1001;rw[a8,dW];lia
 |never=>show ps.length<=1001;lia
def FX(r:Rul)(h:r.Ok n):o_1 [r.toD]=aa (r.ps.map Prt.obj):=
 yE (congrArg (kZ Fl.rtO) (gG r.ps Prt.toD Prt.obj rfl (by have:=h.len;lia) λp _=>fu rfl rfl (aS rfl (FM p))))
def Px(r:Rul)(h:RuK n r):ve [r.toD]=aa (.lst ((grd r).map Prt.obj)):=by
 have e:=FO r h.ok;have q:=h.len;apply hZ;unfold vd;obtain⟨w,hd,ps⟩:=r
 cases w with
 |may=>
  show wp _ [.im (Rul.toD ⟨.may,hd,ps⟩),.no] _;apply ay;refine bq (b:=ab) rfl (λ_=>?_) (λz=>by cases z)
  first |exact hX rfl (gi rfl) |exact hV rfl (d5 rfl)
 |make=>
  show wp _ [.im (Rul.toD ⟨.make,hd,ps⟩),.no] _;apply ay;refine bq (b:=ae) rfl (λz=>by cases z) (λ_=>ca ?_);walk_at "nrm";apply ay
  refine kh (d:=ps.map Prt.obj) (by first |exact yD rfl (FX ⟨.make,hd,ps⟩ h.ok) |exact e) ?_
  walk_at "nrm";apply ay;refine bq (b:=ab) rfl (λ_=>?_) (λz=>by cases z);refine lG (d:=(Prt.out hd).obj) rfl rfl (by rw[aH];show ps.length<_;have:ps.length<=1000:=q;lia) ?_;walk_at "nrm";refine pJ rfl (gi ?_);show D.lst (ps.map Prt.obj++[(Prt.out hd).obj])=D.lst ((ps++[Prt.out hd]).map Prt.obj);rw[bO]
  rfl
 |never=>
  show wp _ [.im (Rul.toD ⟨.never,hd,ps⟩),.no] _;apply ay;refine bq (b:=ae) rfl (λz=>by cases z) (λ_=>ca ?_);walk_at "nrm";apply ay
  refine kh (d:=ps.map Prt.obj) (by first |exact yD rfl (FX ⟨.never,hd,ps⟩ h.ok) |exact e) ?_
  walk_at "nrm";apply ay;refine bq (b:=ae) rfl (λz=>by cases z) (λ_=>ca ?_);walk_at "nrm";exact pJ rfl (gi rfl)
abbrev oi(i:Nat):D:=.tup [.str "rule",.int i]
abbrev ku(i:Nat):List Key:=[.inr "rule",.inl i]
def Py(h:ku i=ku j):i=j:=by
 unfold ku at h;have b:=ox (ox h).2;have:=nt b.1;lia
def Bs{b:Type}[DecidableEq b]{f:b}:∀{ns:List b},f∉ns->aU f ns=ac
 | [],_=>rfl
 |n::ns,h=>by
  unfold aU;rw[if_neg (λe=>h (by rw[e];exact aN)),Bs (λq=>h (bo _ q))];rfl
abbrev sp0(es:List (Option Bool))(rs:List Rul):Spr:=⟨es,[],[],[],[],[],[],.lst ((lM rs).map mkD)⟩
abbrev mL(s:Spr)(p:Nat×Rul):Spr:=vG s (oi p.1) (ku p.1) (grd p.2)
structure SpK(n i c:Nat)(s:Spr):Prop where
 gk:s.gk=(bI i).map ku
 gl:s.gd.length=i
 ws:b4 c s.ws
 wt:s.wt=(bI i).map oi
def SpK.step(h:SpK n i c s)(b:RuK n r)(hn:n<=60):SpK n (i+1) (c+65000) (mL s (i,r)):=by
 refine⟨?_,?_,?_,?_⟩
 .show s.gk++[ku i]=_;rw[range_succ,bO,h.gk];rfl
 .show(s.gd++[_]).length=_;rw[a8,h.gl];rfl
 .have:=b4.reg (y:=oi i) hn (rX b) h.ws;have e:=FW b;exact this.le (by lia)
 .show s.wt++[oi i]=_;rw[range_succ,bO,h.wt];rfl
def SpK.fresh(h:SpK n i c s):aU (ku i) s.gk=ac:=Bs λq=>by
 rw[h.gk]at q;obtain⟨j,b,e⟩:=bf.mp q;have:=Py e;subst this;exact gt _ (eM.mp b)
abbrev fA:Nat->List Rul->List (Nat×Rul)
 | _,[]=>[]
 |i,r::rs=>(i,r)::fA (i+1) rs
def FY:∀(i:Nat) (rs:List Rul),iB i (rs.map Rul.toD)=(fA i rs).map λp=>D.tup [.int p.1,p.2.toD]
 | _,[]=>rfl
 |i,r::rs=>by rw[bp,iB,FY (i+1) rs];rfl
def rY:∀(i:Nat) (rs:List Rul) (j:Nat),(fA i rs)[j]?=(rs[j]?).map λr=>(i+j,r)
 | _,[],_=>rfl
 |i,r::rs,0=>rfl
 |i,r::rs,j+1=>by rw[fA,eJ,eJ,rY (i+1) rs j,show i+1+j=i+(j+1) by lia]
variable{rs:List Rul}
def FZ{pre post:List (Nat×Rul)}{p:Nat×Rul}(h:fA 0 rs=pre++p::post):p.1=pre.length/\p.2∈rs/\pre.length<rs.length:=by
 have b:(fA 0 rs)[pre.length]?=aa p:=by rw[h,lQ (aL _),Nat.sub_self];rfl
 rw[rY]at b
 cases e:rs[pre.length]? with
 |none=>rw[e]at b;cases b
 |some r=>
  rw[e]at b;cases b;exact⟨lV _,dM e,(dq.mp e).1⟩
abbrev pl0(n:Int)(rs:List Rul):D:=.tup [.int n,.lst (rs.map Rul.toD)]
def Pz(hi:fi ρ=aa (rs.map Rul.toD))(hok:∀r∈rs,r.Ok n)(hz:rs.length<=1000):
  bu 1 [] fi (aG 0) (mB (m2 gD (mIx (ar 0) (kI 1)) kN)) (bw (ag (mIx (ar 0) (kI 1)) (ag (aB m_1 (ag (af 0) nZ)) nZ))) ρ=aa ((lM rs).map mkD):=by
 refine jA rs Rul.toD (λr=>r.w != .never) mkD hi (by lia) λr e=>?_;have b:=FO r (hok r e);obtain⟨w,hd,ps⟩:=r
 cases w with
 |never=>exact gH rfl rfl λz=>by cases z
 |make=>exact gH rfl rfl λ_=>eV (ax rfl (ax (aS rfl b) rfl))
 |may=>exact gH rfl rfl λ_=>eV (ax rfl (ax (aS rfl b) rfl))
def i7{g:Xa}(h:f ρ=aa d)(h':g ρ=aa (ds,ρ)):eX (mX f) g ρ=aa (d::ds,ρ):=by
 unfold eX mX;rw[h];show(g ρ).map _=_;rw[h'];rfl
def F0{f:MF2}(h:f ρ=aa [.lst xs]):nW f ρ=aa (iB 0 xs):=by
 unfold nW;rw[h];rfl
abbrev spI(es:List (Option Bool))(rs:List Rul):Spr:=(fA 0 rs).foldl mL (sp0 es rs)
def SpK.foldT{n:Nat}(hn:n<=60){es:List (Option Bool)}{rs:List Rul}(b:∀r∈rs,RuK n r):∀(k:Nat),k<=rs.length->SpK n k (65000*k) (((fA 0 rs).take k).foldl mL (sp0 es rs))
 | 0,_=>⟨rfl,rfl,⟨c4 _,λ_ h=>nomatch h⟩,rfl⟩
 |k+1,h=>by
  have e:(fA 0 rs)[k]?=aa (k,rs[k]):=by rw[rY,cj h];simp
  have:=(SpK.foldT hn (es:=es) b k (Nat.le_of_succ_le h)).step (b rs[k] (kL h)) hn;rw[take_succ,e,fE,show 65000*(k+1)=65000*k+65000 by lia];exact this
def SpK.fold(hn:n<=60)(b:∀r∈rs,RuK n r){pre post:List (Nat×Rul)}{p:Nat×Rul}(h:fA 0 rs=pre++p::post):SpK n pre.length (65000*pre.length) (pre.foldl mL (sp0 es rs)):=by
 have:=SpK.foldT hn (es:=es) b pre.length (f7 (FZ h).2.2);rw[h,take_left' rfl]at this;exact this
variable{v:Int}
def PB{bars:LD}(hn:n<=60)(u:∀r∈rs,RuK n r)(hz:rs.length<=250)
 (k:∀e h,K (.nx [.deep (.at l (spI es rs).o),.im (pl0 v rs),.im (.lst bars),.im (.lst (es.map shD)),e,h,.no])):
  wp (cX (nW (ag (mIx (ar 1) (kI 1)) nZ)) (eS (b8 (aG 5) (b8 (aG 4) fQ))) (jF (gj 0 "Spreading" "take_guard" rK (eX (mX (bw (ag (kSt "rule") (ag (af 5) nZ)))) (eX (mX (aB ve (ag (af 4) nZ))) ic)))))
   [.deep (.at l (sp0 es rs).o),.im (pl0 v rs),.im (.lst bars),.im (.lst (es.map shD)),.no,.no,.no] K:=by
 refine eE (fA 0 rs) (λp=>D.tup [.int p.1,p.2.toD]) (λpre ρ=>∃e h,ρ=[.deep (.at l (pre.foldl mL (sp0 es rs)).o),.im (pl0 v rs),.im (.lst bars),.im (.lst (es.map shD)),e,h,.no]) ?_ ⟨_,_,rfl⟩ ?_ ?_
 .rw[<- FY];exact F0 (ax (aT rfl rfl rfl) rfl)
 .rintro pre p post ρ ex ⟨e,h,rfl⟩;obtain⟨x,z,C⟩:=FZ ex;have q:=SpK.fold (es:=es) hn u ex;have b:=u p.2 z;have A:=Px p.2 b;have B:=FW b;have tg:=FV (l:=l) (y:=oi p.1) (k:=ku p.1) (pre.foldl mL (sp0 es rs)) (grd p.2) rfl (by rw[x];exact q.fresh) (by rw[q.gk,aH,cT];lia) (rX b) hn q.ws (by lia) (by rw[q.wt,aH,cT];lia) (by lia);refine⟨_,rfl,?_⟩;walk_at "nrm";refine p7 (lK rfl rfl (i7 rfl (i7 (aS rfl A) rfl)) rfl tg) ?_;refine⟨.im p.2.toD,.im (.int p.1),?_⟩;rw[fE];rfl
 .rintro ρ ⟨e,h,rfl⟩;exact k e h
abbrev hup(es:List (Option Bool))(wo:List Bool)(r:Rul):Bool:=r.w != .never && (wo.getD r.hd.toNat ae && !(r.bodyLost es wo))
def F6(h:r.w≠.never):(r.w != .never)=ab:=by
 obtain⟨w,hd,ps⟩:=r
 cases w <;> first |rfl |exact absurd rfl h
inductive lN(rs:List Rul)(es:List (Option Bool))(a:List Bool):List Bool->Prop
 |refl:lN rs es a a
 |step {b:List Bool} {r:Rul}:lN rs es a b->r∈rs->hup es b r=ab->lN rs es a (b.set r.hd.toNat ae)
def rZ(l:List Bool)(k j:Nat):(l.set k ae).getD j ae=(l.getD j ae && !(k==j)):=by
 rw[bD,bD]
 by_cases e:k=j
 .subst e;rw[List.getElem?_set];simp
  split <;> rfl
 .rw[kH e];simp[e]
variable{a b:List Bool}
def lN.len(h:lN rs es a b):b.length=a.length:=by
 induction h with
 |refl=>rfl
 |step _ _ _ e=>rw[jc,e]
def lN.sub(h:lN rs es a b)(i:Nat):b.getD i ae=ab->a.getD i ae=ab:=by
 induction h with
 |refl=>exact id
 |step _ _ _ e=>
  rw[rZ];intro q;exact e (by simpa using (cx _ _▸q).1)
variable{wo:List Bool}
def F7(h:hup es wo r=ab):r.w≠.never/\wo.getD r.hd.toNat ae=ab/\r.bodyLost es wo=ae:=by
 unfold hup at h;have:(r.w≠.never)/\(wo.getD r.hd.toNat ae=ab/\r.bodyLost es wo=ae):=by simpa using h
 exact⟨this.1,this.2.1,this.2.2⟩
variable{le:List Bool}
def PD(z:r.Ok es.length)(g:pH le wo)(h:hup es wo r=ab)(x:le.getD r.hd.toNat ae=ab):hup es le r=ab:=by
 obtain⟨a,b,c⟩:=F7 h
 have u:r.bodyLost es le=ae:=by
  cases q:r.bodyLost es le with
  |false=>rfl
  |true=>
   obtain⟨p,e,A⟩:=any_eq_true.mp q;have:r.bodyLost es wo=ab:=any_eq_true.mpr ⟨p,e,DY (bH.refl es) g (z.ps p e) A⟩;rw[c]at this;cases this
 unfold hup;rw[F6 a,x,u];rfl
def PF{fin:List Bool}(hok:∀r∈rs,r.Ok es.length)(h:lN rs es a b)(E:le.length=a.length)(B:∀i,le.getD i ae=ab->a.getD i ae=ab)(z:∀i,fin.getD i ae=ab->b.getD i ae=ab)
 (H:∀r∈rs,hup es le r=ab->fin.getD r.hd.toNat ae=ab):∀i,le.getD i ae=ab->b.getD i ae=ab:=by
 induction h with
 |refl=>exact B
 | @step b r G A C u=>
  have x:∀i,fin.getD i ae=ab->b.getD i ae=ab:=λi q=>by
   have:=z i q;rw[rZ]at this
   simpa using (cx _ _▸this).1
  have u:=u x;intro i q;rw[rZ,u i q,qe]
  cases e:(r.hd.toNat==i)with
  |false=>rfl
  |true=>
   exfalso;have e:r.hd.toNat=i:=by simpa using e
   subst e;have w:pH le b:=⟨by rw[G.len,E],u⟩;have:=z _ (H r A (PD (hok r A) w C q));rw[rZ]at this;simp at this
abbrev ct(bs:List Bool):Nat:=(bs.filter λb=>b).length
def PH(bs:List Bool):ct bs<=bs.length:=kM _ _
def F8:∀(bs:List Bool) (k:Nat),bs.getD k ae=ab->ct (bs.set k ae)+1=ct bs
 | [],k,h=>by simp at h
 |b::bs,0,h=>by
  have h:b=ab:=h;subst h
  rfl
 |b::bs,k+1,h=>by
  have e:=F8 bs k (by simpa using h)
  cases b with
  |false=>exact e
  |true=>
   show(ct (bs.set k ae)+1)+1=ct bs+1;rw[e]
def PJ(bs:List Bool)(k:Nat)(b:Bool):(bs.map D.bl).set k (.bl b)=(bs.set k b).map D.bl:=by rw[kP]
abbrev jJ(es:List (Option Bool)):List Bool:=es.map λe=>!(e==aa ae)
def PK(hi:fi ρ=aa (es.map shD))(hz:es.length<=1000):bu 1 [] fi (aG 0) kY (m2 gD (af 0) (kBl ae)) ρ=aa ((jJ es).map D.bl):=by
 unfold jJ;rw[<- Mc];exact gG es shD (λe=>D.bl (!(e==aa ae))) hi (by lia) λe _=>fu rfl rfl (aP rfl rfl (DQ _ _))
abbrev Bt:Option Prt->D
 |some p=>p.obj
 |none=>.non
def F9(ps:List Prt)(h:∀p∈ps,p.Ok es.length)(B:wo.length=es.length):rQ [.lst (ps.map Prt.obj),.lst (es.map shD),.lst (wo.map D.bl)]=aa (Bt (ps.find? λp=>p.lost es wo)):=by
 apply hZ;unfold vt;show wp _ [.im (.lst (ps.map Prt.obj)),.im (.lst (es.map shD)),.im (.lst (wo.map D.bl)),.no] _;apply ay;refine eE ps Prt.obj (λpre ρ=>∃x,ρ=[.im (.lst (ps.map Prt.obj)),.im (.lst (es.map shD)),.im (.lst (wo.map D.bl)),x]/\∀p∈pre,p.lost es wo=ae) rfl ⟨_,rfl,λ_ h=>nomatch h⟩ ?_ ?_
 .rintro pre p post ρ ex ⟨x,rfl,e⟩;have A:p∈ps:=by rw[ex];simp
  refine⟨_,rfl,?_⟩;walk_at "nrm";refine bq (iA (FN p (h p A) B rfl rfl) rfl) (λz=>?_) (λz=>ca ?_)
  .refine yB (d:=p.obj) rfl (d5 ?_);rw[ex,find?_append,qp.mpr λq u=>by rw[e q u];exact ba,qi z];rfl
  .refine⟨.im p.obj,rfl,λq u=>?_⟩
   rcases bT.mp u with y |y
   .exact e q y
   .rw[dF.mp y];exact z
 .rintro ρ ⟨x,rfl,e⟩;refine hV (d:=.non) rfl (d5 ?_);rw[qp.mpr λq u=>by rw[e q u];exact ba];rfl
def PL(x:Option Prt):dIs (Bt x) .non=aa (.bl x.isNone):=by
 cases x with
 |none=>rfl
 |some p=>cases p <;> rfl
def Ga(r:Rul):(r.ps.find? λp=>p.lost es wo).isNone=!(r.bodyLost es wo):=by
 unfold Rul.bodyLost
 cases h:r.ps.any (λp=>p.lost es wo)with
 |true=>
  obtain⟨p,e,x⟩:=any_eq_true.mp h
  cases u:r.ps.find? (λp=>p.lost es wo)with
  |none=>exact absurd x (qp.mp u p e)
  |some q=>rfl
 |false=>rw[qp.mpr λp e q=>by rw[any_eq_true.mpr ⟨p,e,q⟩]at h;cases h];rfl
abbrev i8(es:List (Option Bool))(wo:List Bool)(r:Rul):Bool:=wo.getD r.hd.toNat ae && !(r.bodyLost es wo)
@[reducible]noncomputable def jK:=List Bool×List Rul×List Rul
abbrev bN(es:List (Option Bool))(a:jK)(r:Rul):jK:=if i8 es a.1 r then (a.1.set r.hd.toNat ae,a.2.1++[r],a.2.2) else (a.1,a.2.1,a.2.2++[r])
abbrev dL(es:List (Option Bool))(wo:List Bool)(us rest:List Rul):jK:=rest.foldl (bN es) (wo,us,[])
abbrev oj(es:List (Option Bool)):Nat->List Bool->List Rul->List Rul->jK
 | 0,wo,us,rest=>(wo,us,rest)
 |k+1,wo,us,rest=>if us.length<(dL es wo us rest).2.1.length/\(dL es wo us rest).1.any id=ab then oj es k (dL es wo us rest).1 (dL es wo us rest).2.1 (dL es wo us rest).2.2 else dL es wo us rest
abbrev cf(es:List (Option Bool))(ms:List Rul):jK:=oj es (ms.length+1) (jJ es) [] ms
structure L3(es:List (Option Bool))(ms:List Rul)(a:jK)(q:List Rul):Prop where
 len:a.1.length=es.length
 pe:lN ms es (jJ es) a.1
 us:∀r∈a.2.1,a.1.getD r.hd.toNat ae=ae
 pm:(a.2.1++a.2.2++q).Perm ms
variable{ms:List Rul}
def L3.step{a:jK}{q:List Rul}(h:L3 es ms a (r::q))(A:∀r∈ms,r.w≠.never):L3 es ms (bN es a r) q:=by
 have u:r∈ms:=h.pm.mem_iff.mp (by simp);unfold bN
 by_cases e:i8 es a.1 r=ab
 .rw[if_pos e];refine⟨by rw[jc];exact h.len,.step h.pe u ?_,λx hx=>?_,?_⟩
  .unfold hup;rw[F6 (A r u),qe];exact e
  .show(a.1.set r.hd.toNat ae).getD _ ae=ae;rw[rZ]
   rcases bT.mp hx with z |z
   .rw[h.us x z];rfl
   .rw[dF.mp z];simp
  .refine List.Perm.trans ?_ h.pm;show(a.2.1++[r]++a.2.2++q).Perm _;rw[fZ,fZ,fZ];refine wu _ ?_;show(r::(a.2.2++q)).Perm (a.2.2++r::q);exact perm_middle.symm
 .rw[if_neg e];refine⟨h.len,h.pe,h.us,?_⟩;have:a.2.1++(a.2.2++[r])++q=a.2.1++a.2.2++r::q:=by simp
  show(a.2.1++(a.2.2++[r])++q).Perm ms;rw[this];exact h.pm
def L3.fold{es:List (Option Bool)}{ms:List Rul}(e:∀r∈ms,r.w≠.never):∀{q:List Rul} {a:jK},L3 es ms a q->L3 es ms (q.foldl (bN es) a) []
 | [],_,h=>h
 |r::q,a,h=>L3.fold (q:=q) (a:=bN es a r) e (h.step e)
def r6{es:List (Option Bool)}:∀(q:List Rul) (a:jK),(q.foldl (bN es) a).2.1.length+(q.foldl (bN es) a).2.2.length=a.2.1.length+a.2.2.length+q.length/\a.2.1.length<=(q.foldl (bN es) a).2.1.length
 | [],a=>⟨by simp,aL _⟩
 |r::q,a=>by
  obtain⟨u,e⟩:=r6 q (bN es a r);rw[du,u];unfold bN at *
  split at e <;> rename_i h
  .rw[if_pos h]at *;rw[a8]at e;refine⟨by show(a.2.1++[r]).length+_+_=_;rw[a8,cp];simp;lia,c3 (oz _ _) e⟩
  .rw[if_neg h]at *;refine⟨by show _+(a.2.2++[r]).length+_=_;rw[a8,cp];simp;lia,e⟩
def Gb{es:List (Option Bool)}:∀(q:List Rul) (a:jK),(q.foldl (bN es) a).2.1.length=a.2.1.length->(q.foldl (bN es) a).1=a.1/\(q.foldl (bN es) a).2.2=a.2.2++q/\∀r∈q,i8 es a.1 r=ae
 | [],a,_=>⟨rfl,(cB _).symm,λ_ h=>nomatch h⟩
 |r::q,a,h=>by
  rw[du]at h ⊢;have u:=(r6 (es:=es) q (bN es a r)).2
  by_cases A:i8 es a.1 r=ab
  .exfalso;have e:bN es a r=(a.1.set r.hd.toNat ae,a.2.1++[r],a.2.2):=by unfold bN;rw[if_pos A]
   rw[e]at h u;have:(a.2.1++[r]).length=a.2.1.length+1:=by simp
   rw[h]at u;have B:(a.2.1++[r]).length<=a.2.1.length:=u;lia
  .have e:bN es a r=(a.1,a.2.1,a.2.2++[r]):=by unfold bN;rw[if_neg A]
   rw[e]at h ⊢;obtain⟨B,C,E⟩:=Gb q _ h;refine⟨B,by rw[C];simp,λx hx=>?_⟩
   rcases aQ.mp hx with z |z
   .rw[z];exact Bool.not_eq_true _▸A
   .exact E x z
def PM{bs:List Bool}(h:bs.any id=ae)(i:Nat):bs.getD i ae=ae:=by
 rw[bD]
 cases e:bs[i]? with
 |none=>rfl
 |some b=>
  cases b with
  |false=>rfl
  |true=>rw[any_eq_true.mpr ⟨ab,dM e,rfl⟩]at h;cases h
def Ge{es:List (Option Bool)}{ms:List Rul}(A:∀r∈ms,r.w≠.never):∀(k:Nat) (wo:List Bool) (us rest:List Rul),L3 es ms (wo,us,[]) rest->rest.length<k->L3 es ms (oj es k wo us rest) []/\∀r∈ms,i8 es (oj es k wo us rest).1 r=ae
 | 0,_,_,_,_,h=>absurd h (jd _)
 |k+1,wo,us,rest,h,hk=>by
  have e:L3 es ms (dL es wo us rest) []:=L3.fold A h;have x:=r6 (es:=es) rest (wo,us,[]);unfold oj;split
  .rename_i u;refine Ge A k _ _ _ ⟨e.len,e.pe,e.us,?_⟩ ?_
   .have:=e.pm;rw[cB]at this ⊢;exact this
   .have:(dL es wo us rest).2.1.length+(dL es wo us rest).2.2.length=us.length+0+rest.length:=x.1;have:=u.1;lia
  .rename_i u;refine⟨e,λr E=>?_⟩
   cases ha:(dL es wo us rest).1.any id with
   |false=>unfold i8;rw[PM ha];rfl
   |true=>
    have C:(dL es wo us rest).2.1.length=us.length:=by
     have:us.length<=(dL es wo us rest).2.1.length:=x.2;have:=mt (λz=>And.intro z ha) u;lia
    obtain⟨q,G,B⟩:=Gb (es:=es) rest (wo,us,[]) C;have q:(dL es wo us rest).1=wo:=q
    rcases bT.mp (h.pm.mem_iff.mpr E)with z |z
    .rw[cB]at z;rw[q];unfold i8;rw[h.us r z];rfl
    .rw[q];exact B r z
def Gf(e:∀r∈ms,r.w≠.never):L3 es ms (cf es ms) []/\∀r∈ms,i8 es (cf es ms).1 r=ae:=
 Ge e _ _ _ _ ⟨by unfold jJ;rw[aH],.refl,(λ_ h=>nomatch h),by simp⟩ (dh _)
def PN(hm:s.mks=.lst (ms.map mkD))(h60:s.es.length<=60)(hok:∀r∈ms,r.Ok s.es.length)(hw:∀r∈ms,r.w≠.never)(hz:ms.length<=1000):
  m_6 l [] s.o=aa (({s with mks:=.lst (((cf s.es ms).2.1++(cf s.es ms).2.2).map mkD)}:Spr).o,.lst ((cf s.es ms).1.map D.bl)):=by
 have M:(jJ s.es).length=s.es.length:=by unfold jJ;rw[aH]
 apply lL;unfold b_6;show wp _ [.deep (.at l s.o),.no,.no,.no,.no,.no,.no,.no] _;apply ay;refine kh (PK (Bm rT) (by lia)) ?_;walk_at "nrm";apply ay;refine kh (d:=[]) rfl ?_;walk_at "nrm";apply ay;refine bM (d:=.lst (ms.map mkD)) ((Pf Pe).trans (by rw[hm])) ?_;walk_at "nrm";apply ay;refine bM (d:=.bl ab) rfl ?_;walk_at "nrm";apply ay;refine qW (λm ρ=>∃(wo:List Bool) (us rest:List Rul) (g:Bool) (U Y B:Sl),ρ=[.deep (.at l s.o),.own (wo.map D.bl),.own (us.map mkD),.im (.lst (rest.map mkD)),.im (.bl g),U,Y,B]/\wo.length=s.es.length/\(us++rest).Perm ms/\(g=ab->oj s.es m wo us rest=cf s.es ms/\rest.length<m)/\(g=ae->(wo,us,rest)=cf s.es ms)) ?_ _ (ms.length+1) _ ⟨jJ s.es,[],ms,ab,_,_,_,rfl,M,sG _,λ_=>⟨rfl,dh _⟩,λz=>by cases z⟩ (by lia)
 .rintro m ρ ⟨wo,us,rest,g,U,Y,B,rfl,T,u,hT,hF⟩;refine⟨g,rfl,?_,?_⟩
  .rintro rfl;obtain⟨C,L⟩:=hT rfl;have Q:us.length+rest.length=ms.length:=by have:=u.length_eq;rw[a8]at this;exact this
   apply ay;refine bM (d:=.int us.length) (aS rfl (ib us mkD)) ?_;walk_at "nrm";apply ay;refine kh (d:=[]) rfl ?_;walk_at "nrm";apply ay;refine eE rest mkD (λpre ρ=>∃(B:Sl),ρ=[.deep (.at l s.o),.own ((pre.foldl (bN s.es) (wo,us,[])).1.map D.bl),.own ((pre.foldl (bN s.es) (wo,us,[])).2.1.map mkD),.im (.lst (rest.map mkD)),.im (.bl ab),.im (.int us.length),.own ((pre.foldl (bN s.es) (wo,us,[])).2.2.map mkD),B]/\(pre.foldl (bN s.es) (wo,us,[])).1.length=s.es.length) rfl ⟨_,rfl,T⟩ ?_ ?_
   .rintro pre r post ρ ex ⟨B,rfl,e⟩;have H:r∈ms:=u.mem_iff.mp (by rw[ex];simp);have hr:=hok r H;obtain⟨h0,h1⟩:=hr.hd (hw r H);have kr:pre.length<rest.length:=by rw[ex];simp
    have h:=r6 (es:=s.es) pre (wo,us,[]);have G:(pre.foldl (bN s.es) (wo,us,[])).2.1.length+(pre.foldl (bN s.es) (wo,us,[])).2.2.length=us.length+0+pre.length:=h.1;generalize E:pre.foldl (bN s.es) (wo,us,[])=A at *;have el:=F9 (wo:=A.1) r.ps hr.ps e;refine⟨_,rfl,?_⟩;walk_at "nrm"
    have ht:(g5 (cw (mIx (ar 1) (mIx (ar 7) (kI 0)))) (mB (m2 dIs (aB rQ (ag (mIx (ar 7) (kI 1)) (ag (pB (bv "Spreading" "sheet" (aX 0))) (ag (g4 1) nZ)))) kN))) [.deep (.at l s.o),.own (A.1.map D.bl),.own (A.2.1.map mkD),.im (.lst (rest.map mkD)),.im (.bl ab),.im (.int us.length),.own (A.2.2.map mkD),.im (mkD r)]=aa (i8 s.es A.1 r):=by
     unfold i8;rw[<- Ga];exact xU (iA (aT rfl (aT rfl rfl rfl) (qS h0 (by lia))) rfl) (cK (aP (aS (ax (aT rfl rfl rfl) (ax (oh rT) (ax rfl rfl))) el) rfl (PL _)))
    refine bq ht (λz=>?_) (λz=>?_)
    .apply ay;refine Ev (k:=r.hd) (xs:=A.1.map D.bl) rfl (aT rfl rfl rfl) rfl h0 (by rw[aH];lia) ?_;walk_at "nrm";refine lG (d:=mkD r) rfl rfl (by rw[aH];lia) ?_;refine⟨.im (mkD r),?_,?_⟩
     .rw[fE,E];show _=[_,Sl.own ((bN s.es A r).1.map D.bl),.own ((bN s.es A r).2.1.map mkD),_,_,_,.own ((bN s.es A r).2.2.map mkD),_];unfold bN;rw[if_pos z,<- PJ];show _=[_,_,Sl.own ((A.2.1++[r]).map mkD),_,_,_,_,_];rw[bO];rfl
     .rw[fE,E];show(bN s.es A r).1.length=_;unfold bN;rw[if_pos z,jc];exact e
    .refine lG (d:=mkD r) rfl rfl (by rw[aH];lia) ?_;have z':¬i8 s.es A.1 r=ab:=by rw[z];exact ba
     refine⟨.im (mkD r),?_,?_⟩
     .rw[fE,E];show _=[_,Sl.own ((bN s.es A r).1.map D.bl),.own ((bN s.es A r).2.1.map mkD),_,_,_,.own ((bN s.es A r).2.2.map mkD),_];unfold bN;rw[if_neg z'];show _=[_,_,_,_,_,_,Sl.own ((A.2.2++[r]).map mkD),_];rw[bO];rfl
     .rw[fE,E];show(bN s.es A r).1.length=_;unfold bN;rw[if_neg z'];exact e
   .rintro ρ ⟨B,rfl,e⟩;have h:=r6 (es:=s.es) rest (wo,us,[]);have G:(dL s.es wo us rest).2.1.length+(dL s.es wo us rest).2.2.length=us.length+0+rest.length:=h.1;have hge:us.length<=(dL s.es wo us rest).2.1.length:=h.2;show wp _ [.deep (.at l s.o),.own ((dL s.es wo us rest).1.map D.bl),.own ((dL s.es wo us rest).2.1.map mkD),.im (.lst (rest.map mkD)),.im (.bl ab),.im (.int us.length),.own ((dL s.es wo us rest).2.2.map mkD),B] _;replace e:(dL s.es wo us rest).1.length=s.es.length:=e
    have x:((dL s.es wo us rest).2.1++(dL s.es wo us rest).2.2).Perm ms:=by
     have gen:∀(q:List Rul) (a:jK),((q.foldl (bN s.es) a).2.1++(q.foldl (bN s.es) a).2.2).Perm (a.2.1++a.2.2++q):=by
      intro q
      induction q with
      |nil=>intro a;simp
      |cons r q ih=>
       intro a;rw[du];refine(ih _).trans ?_;unfold bN;split
       .show(a.2.1++[r]++a.2.2++q).Perm _;rw[fZ,fZ,fZ];refine wu _ ?_;show(r::(a.2.2++q)).Perm (a.2.2++r::q);exact perm_middle.symm
       .show(a.2.1++(a.2.2++[r])++q).Perm _;rw[show a.2.1++(a.2.2++[r])++q=a.2.1++a.2.2++r::q by simp]
     refine(gen rest (wo,us,[])).trans ?_;show(us++[]++rest).Perm ms;rw[cB];exact u
    cases m with
    |zero=>exact absurd L (jd _)
    |succ m=>
     unfold oj at C;generalize E:dL s.es wo us rest=A at *;apply ay;refine jC rfl ?_;refine bM (d:=.lst (A.2.2.map mkD)) rfl ?_;walk_at "nrm";refine bM (d:=.bl (decide ((us.length:Int)<A.2.1.length) && A.1.any id)) (lD (aP (aS rfl (ib A.2.1 mkD)) rfl ut) (aS rfl (Li A.1))) ?_
     by_cases I:us.length<A.2.1.length/\A.1.any id=ab
     .rw[if_pos I]at C;have J:(decide ((us.length:Int)<A.2.1.length) && A.1.any id)=ab:=by rw[I.2,decide_eq_true (by lia)];rfl
      rw[J];exact⟨m,dh _,A.1,A.2.1,A.2.2,ab,_,_,_,rfl,e,x,λ_=>⟨C,by lia⟩,λz=>by cases z⟩
     .rw[if_neg I]at C
      have J:(decide ((us.length:Int)<A.2.1.length) && A.1.any id)=ae:=by
       cases ha:A.1.any id with
       |false=>exact sw _
       |true=>
        have:¬us.length<A.2.1.length:=λq=>I ⟨q,ha⟩;rw[decide_eq_false (by lia)];rfl
      rw[J];exact⟨0,qr _,A.1,A.2.1,A.2.2,ae,_,_,_,rfl,e,x,(λz=>by cases z),λ_=>C⟩
  .rintro rfl;have eF:=hF rfl;have Q:us.length+rest.length=ms.length:=by have:=u.length_eq;rw[a8]at this;exact this
   rw[<- eF];apply ay;refine jC rfl ?_;refine mJ (FR (bV (Bi (a:=us.map mkD) (b:=rest.map mkD) rfl rfl (by rw[aH,aH];lia)))) rfl rfl ?_;rw[<- bO]
   show wp _ [.deep (.at l ({s with mks:=.lst ((us++rest).map mkD)}:Spr).o),.own (wo.map D.bl),.im (.lst (us.map mkD)),.im (.lst (rest.map mkD)),.im (.bl ae),U,Y,B] _
   refine jC rfl ?_;exact pZ (d:=.lst (wo.map D.bl)) rfl ⟨_,rfl,rfl,rfl⟩
abbrev prD(z:Int×Bool):D:=.tup [.int z.1,.bl z.2]
def Bu(es:List (Option Bool))(t:Int):dIs (shD (es.getD t.toNat ac)) .non=aa (.bl (opn es t)):=by
 unfold opn
 cases es.getD t.toNat ac with
 |none=>rfl
 |some b=>cases b <;> rfl
abbrev wt(its:List (Int×Int))(j:Int):Int:=((its.filter λz=>z.1==j).map (·.2)).sum
abbrev kW(W:List (Int×Int)):List Key:=W.map λz=>.inl z.1
abbrev xW(W:List (Int×Int)):LD:=W.map λz=>.int z.2
abbrev jL(W:List (Int×Int))(j:Int):Int:=((W.find? λz=>z.1==j).map (·.2)).getD 0
abbrev upW(W:List (Int×Int))(j v:Int):List (Int×Int):=if W.any (λz=>z.1==j) then W.map (λz=>if z.1=j then (z.1,v) else z) else W++[(j,v)]
def Gg(W:List (Int×Int))(j:Int):fV (kW W) (.inl j)=W.any λz=>z.1==j:=by
 unfold fV kW;rw[any_map]
 congr 1
 funext z;exact jQ.mpr (by simp)
def PP(W:List (Int×Int))(j v:Int):gh (kW W) (.inl j)=kW (upW W j v):=by
 unfold gh upW;rw[Gg];split
 .unfold kW;rw[map_map];refine sC λz _=>?_;show _=gW (if z.1=j then (z.1,v) else z).1
  split <;> rfl
 .unfold kW;rw[bO];rfl
def PQ(W:List (Int×Int))(j v:Int):gK (kW W) (xW W) (.inl j) (.int v)=xW (upW W j v):=by
 unfold gK upW;rw[Gg];split
 .rename_i e;clear e;unfold kW xW
  induction W with
  |nil=>rfl
  |cons z W u=>
   rw[bp,bp,sy,u,bp,bp]
   congr 1
   by_cases h:z.1=j
   .rw[if_pos (by rw[h]),if_pos h]
   .rw[if_neg λq=>h (nt q),if_neg h]
 .unfold xW;rw[bO];rfl
def Gh(W:List (Int×Int))(j:Int):jG (kW W) (xW W) (.inl j)=(W.find? λz=>z.1==j).map λz=>D.int z.2:=by
 unfold jG kW xW
 induction W with
 |nil=>rfl
 |cons z W e=>
  rw[bp,bp,d9]
  by_cases h:z.1=j
  .rw[qi (by simp[h]),qi (by simp[h])];rfl
  .rw[find?_cons_of_neg (by simp[h]),find?_cons_of_neg (by simp[h])];exact e
def PR(W:List (Int×Int))(j:Int):(jG (kW W) (xW W) (.inl j)).getD (.int 0)=.int (jL W j):=by
 rw[Gh];unfold jL
 cases (W.find? λz=>z.1==j) <;> rfl
abbrev r9(W:List (Int×Int))(z:Int×Int):List (Int×Int):=upW W z.1 (jL W z.1+z.2)
abbrev wts(its:List (Int×Int)):List (Int×Int):=its.foldl r9 []
structure WOk(W its:List (Int×Int)):Prop where
 nd:(W.map (·.1)).Nodup
 ks:∀j,j∈W.map (·.1)↔j∈its.map (·.1)
 vs:∀z∈W,z.2=wt its z.1
 ln:W.length<=its.length
def Gi(its:List (Int×Int))(z:Int×Int)(j:Int):wt (its++[z]) j=wt its j+if z.1=j then z.2 else 0:=by
 unfold wt;rw[sF,bO,sum_append]
 congr 1
 by_cases h:z.1=j
 .rw[if_pos h,kK (by simp[h])];simp
 .rw[if_neg h,mO (by simp[h])];rfl
def Bv{j:Int}(h:j∉its.map (·.1)):wt its j=0:=by
 unfold wt
 rw[filter_eq_nil_iff.mpr λz hz=>by
  simp only[beq_iff_eq];exact λe=>h (e▸bf.mpr ⟨z,hz,rfl⟩)]
 rfl
def WOk.get{W its:List (Int×Int)}(h:WOk W its)(j:Int):jL W j=wt its j:=by
 unfold jL
 cases e:W.find? (λz=>z.1==j)with
 |none=>
  have hn:j∉W.map (·.1):=λq=>by
   obtain⟨z,hz,u⟩:=bf.mp q;have:=qp.mp e z hz;simp[u]at this
  rw[Bv λq=>hn ((h.ks j).mpr q)]
  rfl
 |some z=>
  have hz:=mem_of_find?_eq_some e;have u:z.1=j:=by have:=find?_some e;simpa using this
  show z.2=_;rw[h.vs z hz,u]
def WOk.step{W its:List (Int×Int)}(h:WOk W its)(z:Int×Int):WOk (r9 W z) (its++[z]):=by
 unfold r9 upW;rw[h.get]
 by_cases A:W.any (λy=>y.1==z.1)=ab
 .rw[if_pos A]
  have B:(W.map λy=>if y.1=z.1 then (y.1,wt its z.1+z.2) else y).map (·.1)=W.map (·.1):=by
   rw[map_map];refine sC λy _=>?_;show(if y.1=z.1 then (y.1,wt its z.1+z.2) else y).1=_
   split <;> rfl
  refine⟨by rw[B];exact h.nd,λj=>?_,λy u=>?_,by rw[aH,a8];have:=h.ln;lia⟩
  .rw[B,h.ks j,bO,bT];refine⟨.inl,λq=>q.elim id λq=>?_⟩;obtain⟨y,u,e⟩:=any_eq_true.mp A;have C:j=z.1:=by simpa using q
   rw[C,<- (beq_iff_eq.mp e)];exact(h.ks _).mp (bf.mpr ⟨y,u,rfl⟩)
  .obtain⟨x,hx,ex⟩:=bf.mp u;rw[Gi]
   by_cases e:x.1=z.1
   .rw[if_pos e]at ex;rw[<- ex];show wt its z.1+z.2=wt its x.1+_;rw[if_pos e.symm,e]
   .rw[if_neg e]at ex;rw[<- ex,if_neg λq=>e q.symm,h.vs x hx];lia
 .rw[if_neg A]
  have hn : z.1∉W.map (·.1):=λq=>A (by
   obtain⟨y,u,e⟩:=bf.mp q;exact any_eq_true.mpr ⟨y,u,by simp[e]⟩)
  refine⟨?_,λj=>?_,λy u=>?_,by rw[a8,a8];have:=h.ln;show _+1<=_+1;lia⟩
  .rw[bO];refine gR.mpr ⟨h.nd,by simp,λa ha b E=>?_⟩;have:b=z.1:=by simpa using E
   rw[this];exact λq=>hn (q▸ha)
  .rw[bO,bO,bT,bT,h.ks j];rfl
  .rw[Gi]
   rcases bT.mp u with q |q
   .have ne:z.1≠y.1:=λe=>hn (e▸bf.mpr ⟨y,q,rfl⟩);rw[if_neg ne,h.vs y q];lia
   .have:y=(z.1,wt its z.1+z.2):=by simpa using q
    rw[this,if_pos rfl]
def sd(its:List (Int×Int)):WOk (wts its) its:=by
 have go:∀(post pre W:List (Int×Int)),WOk W pre->WOk (post.foldl r9 W) (pre++post):=by
  intro post
  induction post with
  |nil=>intro pre W h;rw[cB];exact h
  |cons z post e=>
   intro pre W h;have:=e (pre++[z]) (r9 W z) (h.step z);rw[fZ]at this;exact this
 exact go its [] [] ⟨f6,λ_=>ja,λz h=>(cG h).elim,aL _⟩
def PU(its:List (Int×Int))(B:its.length<=100000):AL [.lst (its.map itD)]=aa (.kd (kW (wts its)) (xW (wts its))):=by
 apply hZ;unfold vh;show wp _ [.im (.lst (its.map itD)),.no,.no,.no] _;apply ay;refine Eu (o:=.nx [.im (.lst (its.map itD)),.ownd (kW []) (xW []),.no,.no]) rfl ?_;apply ay;refine eE its itD (λpre ρ=>∃e h,ρ=[.im (.lst (its.map itD)),.ownd (kW (wts pre)) (xW (wts pre)),e,h]) rfl ⟨_,_,rfl⟩ ?_ ?_
 .rintro pre z post ρ x ⟨e,h,rfl⟩;refine⟨_,rfl,?_⟩;show wp _ [.im (.lst (its.map itD)),.ownd (kW (wts pre)) (xW (wts pre)),.im (.int z.1),.im (.int z.2)] _;have C:pre.length<=its.length:=by rw[x,a8];lia
  have A:=(sd pre).ln
  have u:wts (pre++[z])=upW (wts pre) z.1 (jL (wts pre) z.1+z.2):=by
   unfold wts;rw[fE];rfl
  rw[u];generalize wts pre=W at A
  have q:uw 1 (af 2) (kI 0) [.im (.lst (its.map itD)),.ownd (kW W) (xW W),.im (.int z.1),.im (.int z.2)]=aa (.int (jL W z.1)):=by
   show aa ((jG (kW W) (xW W) (.inl z.1)).getD (.int 0))=_;rw[PR]
  refine Eu (o:=.nx [.im (.lst (its.map itD)),.ownd (kW (upW W z.1 (jL W z.1+z.2))) (xW (upW W z.1 (jL W z.1+z.2))),.im (.int z.1),.im (.int z.2)]) ?_ ⟨_,_,rfl⟩;unfold lE;rw[aP q rfl my,aA];show(if (kW W).length<16777216 then aa (Fl.nx [.im (.lst (its.map itD)),.ownd (gh (kW W) (.inl z.1)) (gK (kW W) (xW W) (.inl z.1) (.int (jL W z.1+z.2))),.im (.int z.1),.im (.int z.2)]) else ac)=_;rw[if_pos (by unfold kW;rw[aH];lia),PP W z.1 (jL W z.1+z.2),PQ]
 .rintro ρ ⟨e,h,rfl⟩;refine M5 rfl ?_;exact hV rfl (d5 rfl)
abbrev opI(es:List (Option Bool))(its:List (Int×Int)):List (Int×Int):=its.filter λz=>opn es z.1
abbrev hv(es:List (Option Bool))(its:List (Int×Int))(lack:Int):List Int:=((wts (opI es its)).filter λz=>decide (z.2≥lack)).map (·.1)
def Gj(h:InN es.length its)(B:its.length<=100000)(lack:Int):vj [.lst (its.map itD),.lst (es.map shD),.int lack]=aa (.lst ((hv es its lack).map D.int)):=by
 have A:(opI es its).length<=its.length:=kM _ _;have ok:=sd (opI es its);have u:=ok.ln;apply hZ;unfold vi;show wp _ [.im (.lst (its.map itD)),.im (.lst (es.map shD)),.im (.int lack),.no] _;apply ay;refine bM (d:=.kd (kW (wts (opI es its))) (xW (wts (opI es its)))) (aS (ax (bV (ds:=(opI es its).map itD) ?_) rfl) (PU _ (by lia))) ?_
 .refine jA its itD (λz=>opn es z.1) itD rfl (by lia) λz hz=>?_;have e:=h z hz;exact gH rfl (cK (aP (aT rfl (aT rfl rfl rfl) (kf e.1 e.2.1)) rfl (Bu es z.1))) λ_=>rfl
 generalize q:wts (opI es its)=W at ok u;refine hX (d:=(hv es its lack).map D.int) ?_ (gi rfl);unfold hv;rw[q,map_map];refine jA W (λz=>D.int z.1) (λz=>decide (z.2≥lack)) (D.int ∘ (·.1)) ?_ (by lia) λz hz=>?_
 .show aa ((kW W).map kD)=_;unfold kW;rw[map_map];rfl
 .refine gH rfl (cK (aP (x:=.int z.2) (y:=.int lack) ?_ rfl Ex)) λ_=>rfl;show jG (kW W) (xW W) (.inl z.1)=_;rw[Gh,ES W ok.nd z hz];rfl
abbrev tps(es:List (Option Bool)):Prt->List (Int×Bool)
 |.inn t=>if opn es t then [(t,ab)] else []
 |.out t=>if opn es t then [(t,ae)] else []
 |.least k its=>(hv es its (k-bc (·==aa ab) es its)).map λt=>(t,ab)
 |.most k its=>(hv es its (bc (λe=>!(e==aa ae)) es its-k)).map λt=>(t,ae)
def vH(lack:Int):(hv es its lack).length<=its.length:=by
 unfold hv;rw[aH];have e:=kM (λz:Int×Int=>decide (z.2≥lack)) (wts (opI es its));have h:=(sd (opI es its)).ln;have q:(opI es its).length<=its.length:=kM _ _;lia
def PV(p:Prt)(h:p.Ok es.length)(q:fo ρ=aa p.obj)(ha:fa ρ=aa [.lst (es.map shD)]):
  bG (aY "In" "tips" AH fo fa) (bG (aY "Out" "tips" AV fo fa) (bG (aY "Least" "tips" AM fo fa) (aY "Most" "tips" AR fo fa))) ρ=aa (.lst ((tps es p).map prD)):=by
 cases p with
 |inn t=>
  refine gJ ((dS q rfl ha).trans (fU (fT (yy (cK (aP (aT rfl rfl (kf h.1 h.2)) rfl (Bu es t))) (λe=>?_) λe=>?_))))
  .show _=aa (D.lst ((if opn es t then [(t,ab)] else []).map prD));rw[if_pos e];rfl
  .show _=aa (D.lst ((if opn es t then [(t,ab)] else []).map prD));rw[if_neg (by rw[e];exact ba)]
   rfl
 |out t=>
  refine cL (cM q (by decide)) (gJ ((dS q rfl ha).trans (fU (fT (yy (cK (aP (aT rfl rfl (kf h.1 h.2)) rfl (Bu es t))) (λe=>?_) λe=>?_)))))
  .show _=aa (D.lst ((if opn es t then [(t,ae)] else []).map prD));rw[if_pos e];rfl
  .show _=aa (D.lst ((if opn es t then [(t,ae)] else []).map prD));rw[if_neg (by rw[e];exact ba)]
   rfl
 |least k its=>
  have x:=vH (es:=es) (its:=its) (k-bc (·==aa ab) es its);have u:=h.2;refine cL (cM q (by decide)) (cL (cM q (by decide)) (gJ ((dS q rfl ha).trans ?_)));apply hZ;unfold vm;show wp _ [.im (Prt.obj (.least k its)),.im (.lst (es.map shD)),.no] _;apply ay;refine bM (d:=.int (k-bc (·==aa ab) es its)) (aP rfl (aS rfl (Bj h.1 h.2)) yA) ?_;refine hX (d:=(tps es (.least k its)).map prD) ?_ (gi rfl);show _=aa (((hv es its _).map λt=>(t,ab)).map prD);rw[map_map]
  exact gG (hv es its (k-bc (·==aa ab) es its)) D.int _ (dn (aS rfl (Gj h.1 h.2 _)) rfl) (by lia) λt _=>fu rfl rfl rfl
 |most k its=>
  have x:=vH (es:=es) (its:=its) (bc (λe=>!(e==aa ae)) es its-k);have u:=h.2;refine cL (cM q (by decide)) (cL (cM q (by decide)) (cL (cM q (by decide)) ((dS q rfl ha).trans ?_)));apply hZ;unfold vn;show wp _ [.im (Prt.obj (.most k its)),.im (.lst (es.map shD)),.no] _;apply ay;refine bM (d:=.int (bc (λe=>!(e==aa ae)) es its-k)) (aP (aS rfl (Bk h.1 h.2)) rfl yA) ?_;refine hX (d:=(tps es (.most k its)).map prD) ?_ (gi rfl);show _=aa (((hv es its _).map λt=>(t,ae)).map prD);rw[map_map];exact gG (hv es its (bc (λe=>!(e==aa ae)) es its-k)) D.int _ (dn (aS rfl (Gj h.1 h.2 _)) rfl) (by lia) λt _=>fu rfl rfl rfl
abbrev neg(z:Int×Bool):Int×Bool:=(z.1,!z.2)
abbrev pnx(es:List (Option Bool))(p:Prt):Option (List (Int×Bool))->List (Int×Bool)
 |none=>tps es p
 |some l=>l.filter λz=>decide (z∈tps es p)
abbrev pst(es:List (Option Bool))(e:Option (List (Int×Bool)))(p:Prt):Option (List (Int×Bool)):=if p.sure es then e else aa (pnx es p e)
abbrev kz:Option (List (Int×Bool))->D
 |none=>.non
 |some l=>.lst (l.map prD)
def Gk(es:List (Option Bool)):∀G:List Prt,G.foldl (pst es) (aa [])=aa []
 | []=>rfl
 |p::G=>by
  have:pst es (aa []) p=aa []:=by unfold pst;split <;> rfl
  rw[du,this];exact Gk es G
def PY(h:p.Ok es.length):(tps es p).length<=100000:=by
 cases p with
 |inn t=>
  show(if opn es t then [(t,ab)] else []).length<=100000;split
  .exact(by decide:1<=100000)
  .exact c4 _
 |out t=>
  show(if opn es t then [(t,ae)] else []).length<=100000;split
  .exact(by decide:1<=100000)
  .exact c4 _
 |least k its=>unfold tps;rw[aH];exact c3 (vH _) h.2
 |most k its=>unfold tps;rw[aH];exact c3 (vH _) h.2
def PZ(x:Int×Bool)(l:List (Int×Bool)):iC (prD x) (.lst (l.map prD))=aa (.bl (decide (x∈l))):=by
 have e:∀l:List (Int×Bool),fW (prD x) (l.map prD)=aa (decide (x∈l)):=by
  intro l
  induction l with
  |nil=>rfl
  |cons z l h=>
   show((deq 19 (prD z) (prD x)).bind λb=>(fW (prD x) (l.map prD)).map λr=>b || r)=_;rw[show deq 19 (prD z) (prD x)=aa (z.1==x.1 && (z.2==x.2 && ab))from rfl,h];show aa _=_
   congr 1
   obtain⟨a,b⟩:=z;obtain⟨c,d⟩:=x;apply jQ.mpr;simp only[i9,cx,beq_iff_eq,decide_eq_true_eq,aQ,Prod.mk.injEq,and_true];exact⟨λq=>q.imp (λ⟨u,v⟩=>⟨u.symm,v.symm⟩) id,λq=>q.imp (λ⟨u,v⟩=>⟨u.symm,v.symm⟩) id⟩
 show((fW (prD x) (l.map prD)).map D.bl)=_;rw[e];rfl
abbrev Bw:Option (List (Int×Bool))->LD ⊕ D
 |none=>.inr .non
 |some l=>.inl (l.map prD)
abbrev prs(G:List Prt)(es:List (Option Bool)):Option (List (Int×Bool)):=(G.foldl (pst es) ac).map λl=>l.map neg
abbrev kRN(x:LD ⊕ D):Fl->Prop
 |.rtO ds=>x=.inl ds
 |.rt d=>d.scalar=ab/\x=.inr d
 | _=>False
def P0{x:LD ⊕ D}(h:wp F (eU N ds) (kRN x)):uF N F ds=aa x:=by
 obtain⟨r,e,q⟩:=h;show(F (eU N ds)).bind Fa=aa x;rw[e,aA]
 cases r with
 |rtO us=>rw[show x=.inl us from q];rfl
 |rt d=>
  obtain⟨u,z⟩:=q;rw[z]
  exact if_pos u
 | _=>exact q.elim
def P1(G:List Prt)(hG:∀p∈G,p.Ok es.length):AW [.lst (G.map Prt.obj),.lst (es.map shD)]=aa (Bw (prs G es)):=by
 apply P0;unfold vo;generalize J:D.lst (G.map Prt.obj)=u;show wp _ [.im u,.im (.lst (es.map shD)),.no,.no,.no] _;apply ay;refine bM (d:=kz ac) rfl ?_;show wp _ [.im u,.im (.lst (es.map shD)),.im (kz ac),.no,.no] _;apply ay;refine eE G Prt.obj (λpre ρ=>∃H C,ρ=[.im u,.im (.lst (es.map shD)),.im (kz (pre.foldl (pst es) ac)),H,C]/\∀l,pre.foldl (pst es) ac=aa l->l.length<=100000) (by subst J;rfl) ⟨_,_,rfl,λl e=>by cases e⟩ ?_ ?_
 .rintro pre p post ρ T ⟨H,C,rfl,x⟩;have L:p.Ok es.length:=hG p (by rw[T];simp);have M:=PY L;have q:G.foldl (pst es) ac=post.foldl (pst es) (pst es (pre.foldl (pst es) ac) p):=by rw[T,fE,du]
  rw[fE,du,foldl_nil];generalize pre.foldl (pst es) ac=h at x q;refine⟨_,rfl,?_⟩;show wp _ [.im u,.im (.lst (es.map shD)),.im (kz h),.im p.obj,C] _;refine bq (b:=!p.sure es) (iZ (iA (Pc p L rfl rfl) rfl)) (λe=>?_) λe=>ca ?_
  .rw[Bool.not_eq_true']at e;have E:pst es h p=aa (pnx es p h):=by unfold pst;rw[if_neg (by rw[e];exact ba)]
   apply ay;refine bM (d:=.lst ((tps es p).map prD)) (PV p L rfl rfl) ?_;show wp _ [.im u,.im (.lst (es.map shD)),.im (kz h),.im p.obj,.im (.lst ((tps es p).map prD))] _;apply ay
   have U:(vIf (mB (m2 dIs (af 2) kN)) (af 4) (aI (bu 1 [4] (a9 (af 2)) (aG 0) (mB (m2 iC (af 0) (af 1))) (af 0)))) [.im u,.im (.lst (es.map shD)),.im (kz h),.im p.obj,.im (.lst ((tps es p).map prD))]=aa (kz (pst es h p))/\∀l,pst es h p=aa l->l.length<=100000:=by
    rw[E]
    cases h with
    |none=>exact⟨rfl,λl e=>by cases e;exact M⟩
    |some Y=>
     have Q:=x Y rfl;refine⟨yy (b:=ae) rfl (λe=>by cases e) λ_=>bV (jA Y prD (λz=>decide (z∈tps es p)) prD rfl (by lia) λz _=>gH rfl (cK (aP rfl rfl (PZ z _))) λ_=>rfl),λl e=>?_⟩;cases e;exact c3 (kM _ _) Q
   refine bM U.1 ?_;obtain⟨B,I⟩:∃B,pst es h p=aa B:=⟨_,E⟩;have A:=U.2;rw[I]at q A ⊢;show wp _ [.im u,.im (.lst (es.map shD)),.im (.lst (B.map prD)),.im p.obj,.im (.lst ((tps es p).map prD))] _
   cases B with
   |nil=>
    refine bq (b:=ab) rfl (λ_=>?_) λe=>by cases e
    refine hX (d:=[]) rfl (show Bw (prs G es)=.inl []from ?_);unfold prs;rw[q,Gk]
    rfl
   |cons z B=>
    refine bq (b:=ae) rfl (λe=>by cases e) λ_=>ca ?_;exact⟨_,_,rfl,A⟩
  .rw[Bool.not_eq_false']at e;have E:pst es h p=h:=by unfold pst;rw[if_pos e]
   rw[E];exact⟨_,_,rfl,x⟩
 .rintro ρ ⟨H,C,rfl,x⟩;unfold prs;generalize G.foldl (pst es) ac=h at x;apply ay
  cases h with
  |none=>
   refine bq (b:=ab) rfl (λ_=>?_) λe=>by cases e
   exact hV rfl ⟨rfl,rfl⟩
  |some l=>
   have Q:=x l rfl;refine bq (b:=ae) rfl (λe=>by cases e) λ_=>ca ?_;refine hX (d:=(l.map neg).map prD) ?_ rfl;rw[map_map];exact gG l prD _ rfl (by lia) λz _=>fu rfl rfl rfl
def p8(h:opn es t=ab):es.getD t.toNat ac=ac:=by simpa[opn]using h
def Gm(h:opn es t=ab):wt (opI es its) t=wt its t:=by
 unfold wt opI;rw[filter_filter]
 congr 2
 refine filter_congr λz _=>?_
 by_cases e:z.1=t
 .rw[e,h];simp
 .simp[e]
def vI{lack:Int}:t∈hv es its lack↔opn es t=ab/\t∈its.map (·.1)/\wt its t≥lack:=by
 have ok:=sd (opI es its);unfold hv;constructor
 .intro h;obtain⟨z,hz,rfl⟩:=bf.mp h;obtain⟨q,u⟩:=dX.mp hz;have u:=of_decide_eq_true u;obtain⟨y,x,e⟩:=bf.mp ((ok.ks z.1).mp (bf.mpr ⟨z,q,rfl⟩));obtain⟨E,A⟩:=dX.mp x;rw[e]at A;refine⟨A,bf.mpr ⟨y,E,e⟩,?_⟩;rw[<- Gm A,<- ok.vs z q];exact u
 .rintro⟨q,u,C⟩;obtain⟨y,x,e⟩:=bf.mp u;obtain⟨z,hz,B⟩:=bf.mp ((ok.ks t).mpr (bf.mpr ⟨y,dX.mpr ⟨x,by rw[e];exact q⟩,e⟩));refine bf.mpr ⟨z,dX.mpr ⟨hz,decide_eq_true ?_⟩,B⟩;rw[ok.vs z hz,B,Gm q];exact C
def Gn(es:List (Option Bool))(its:List (Int×Int))(lack:Int):(hv es its lack).Nodup:=by
 unfold hv;exact wn ((qk (p:=λz:Int×Int=>decide (z.2≥lack))).map (·.1)) (sd (opI es its)).nd
def Bx(z:Int×Int)(its:List (Int×Int))(t:Int):wt (z::its) t=(if z.1=t then z.2 else 0)+wt its t:=by
 unfold wt
 by_cases e:z.1=t
 .rw[if_pos e,kK (by simp[e]),bp,sum_cons]
 .rw[if_neg e,mO (by simp[e])];lia
def vJ(q:Option Bool->Bool)(es:List (Option Bool))(z:Int×Int)(its:List (Int×Int)):bc q es (z::its)=(if q (es.getD z.1.toNat ac) then z.2 else 0)+bc q es its:=by
 unfold bc
 by_cases e:q (es.getD z.1.toNat ac)=ab
 .rw[if_pos e,kK (p:=λz:Int×Int=>q (es.getD z.1.toNat ac)) e,bp,sum_cons]
 .rw[if_neg e,mO (p:=λz:Int×Int=>q (es.getD z.1.toNat ac)) e];lia
def Go(h:InN n its)(t:Int):0<=wt its t:=by
 induction its with
 |nil=>exact Int.le_refl _
 |cons z its q=>
  have u:=h z aN;have x:=q λy e=>h y (bo _ e);rw[Bx]
  split <;> lia
def mx{j:Int}{b:Bool}(q:0<=t)(u:t<(es.length:Int))(h:0<=j):(put es t.toNat b).getD j.toNat ac=if j=t then aa b else es.getD j.toNat ac:=by
 by_cases e:j=t
 .rw[if_pos e,e];exact ko es b (by lia)
 .rw[if_neg e];exact gO es b (by lia)
def vK(h:InN es.length its)(A:0<=t)(B:t<(es.length:Int))(u:opn es t=ab)(b:Bool):bc (·==aa ab) (put es t.toNat b) its=bc (·==aa ab) es its+if b then wt its t else 0:=by
 induction its with
 |nil=>cases b <;> rfl
 |cons z its q=>
  have hz:=h z aN;have q:=q λy x=>h y (bo _ x);rw[vJ,vJ,Bx,q,mx A B hz.1]
  by_cases e:z.1=t
  .rw[if_pos e,if_pos e,e,p8 u]
   cases b with
   |true=>
    show z.2+(bc _ es its+wt its t)=0+bc _ es its+(z.2+wt its t)
    lia
   |false=>
    show 0+(bc _ es its+0)=0+bc _ es its+0;lia
  .rw[if_neg e,if_neg e]
   split <;> split <;> lia
def vL(h:InN es.length its)(A:0<=t)(B:t<(es.length:Int))(u:opn es t=ab)(b:Bool):bc (λe=>!(e==aa ae)) (put es t.toNat b) its=bc (λe=>!(e==aa ae)) es its-if b then 0 else wt its t:=by
 induction its with
 |nil=>cases b <;> rfl
 |cons z its q=>
  have hz:=h z aN;have q:=q λy x=>h y (bo _ x);rw[vJ,vJ,Bx,q,mx A B hz.1]
  by_cases e:z.1=t
  .rw[if_pos e,if_pos e,e,p8 u]
   cases b with
   |true=>
    show z.2+(bc _ es its-0)=z.2+bc _ es its-0
    lia
   |false=>
    show 0+(bc _ es its-wt its t)=z.2+bc _ es its-(z.2+wt its t);lia
  .rw[if_neg e,if_neg e]
   split <;> split <;> lia
def By(J:p.Ok es.length)(G:p.sure es=ae)(t:Int)(b:Bool):(t,b)∈tps es p↔(0<=t/\t<(es.length:Int))/\opn es t=ab/\p.sure (put es t.toNat b)=ab:=by
 cases p with
 |inn B=>
  obtain⟨H,I⟩:=(J:0<=B/\B<(es.length:Int));show(t,b)∈(if opn es B then [(B,ab)] else [])↔_
  have es':0<=t->t<(es.length:Int)->(Prt.sure (put es t.toNat b) (.inn B)=ab↔(if B=t then aa b else es.getD B.toNat ac)=aa ab):=λx y=>by
   rw[<- mx x y H];exact beq_iff_eq
  have G:¬es.getD B.toNat ac=aa ab:=λq=>by
   have:(es.getD B.toNat ac==aa ab)=ae:=G;rw[q]at this;exact absurd this (by decide)
  constructor
  .intro h;split at h
   .rename_i C;have:(t,b)=(B,ab):=by simpa using h
    cases this;exact⟨⟨H,I⟩,C,(es' H I).mpr (if_pos rfl)⟩
   .cases h
  .rintro⟨⟨x,y⟩,C,A⟩;have A:=(es' x y).mp A
   by_cases e:B=t
   .rw[if_pos e]at A;cases A;rw[e,if_pos C];exact aN
   .rw[if_neg e]at A
    exact absurd A G
 |out B=>
  obtain⟨H,I⟩:=(J:0<=B/\B<(es.length:Int));show(t,b)∈(if opn es B then [(B,ae)] else [])↔_
  have es':0<=t->t<(es.length:Int)->(Prt.sure (put es t.toNat b) (.out B)=ab↔(if B=t then aa b else es.getD B.toNat ac)=aa ae):=λx y=>by
   rw[<- mx x y H];exact beq_iff_eq
  have G:¬es.getD B.toNat ac=aa ae:=λq=>by
   have:(es.getD B.toNat ac==aa ae)=ae:=G;rw[q]at this;exact absurd this (by decide)
  constructor
  .intro h;split at h
   .rename_i C;have:(t,b)=(B,ae):=by simpa using h
    cases this;exact⟨⟨H,I⟩,C,(es' H I).mpr (if_pos rfl)⟩
   .cases h
  .rintro⟨⟨x,y⟩,C,A⟩;have A:=(es' x y).mp A
   by_cases e:B=t
   .rw[if_pos e]at A;cases A;rw[e,if_pos C];exact aN
   .rw[if_neg e]at A
    exact absurd A G
 |least k its=>
  have hi:InN es.length its:=J.1;have G:¬k<=bc (·==aa ab) es its:=of_decide_eq_false G;show(t,b)∈(hv es its (k-bc (·==aa ab) es its)).map (λt=>(t,ab))↔(_/\_/\decide (k<=bc (·==aa ab) (put es t.toNat b) its)=ab);rw[decide_eq_true_iff];constructor
  .intro h;obtain⟨u,hm,e⟩:=bf.mp h;cases e;obtain⟨C,hn,M⟩:=vI.mp hm;obtain⟨z,hz,L⟩:=bf.mp hn;have E:=hi z hz;rw[L]at E;refine⟨⟨E.1,E.2.1⟩,C,?_⟩;rw[vK hi E.1 E.2.1 C,if_pos rfl];lia
  .rintro⟨⟨x,y⟩,C,A⟩;rw[vK hi x y C]at A
   cases b with
   |false=>rw[if_neg (by decide)]at A;lia
   |true=>
    rw[if_pos rfl]at A;refine bf.mpr ⟨t,vI.mpr ⟨C,?_,by lia⟩,rfl⟩
    by_cases q:t∈its.map (·.1)
    .exact q
    .rw[Bv q]at A
     lia
 |most k its=>
  have hi:InN es.length its:=J.1;have G:¬bc (λe=>!(e==aa ae)) es its<=k:=of_decide_eq_false G;show(t,b)∈(hv es its (bc (λe=>!(e==aa ae)) es its-k)).map (λt=>(t,ae))↔(_/\_/\decide (bc (λe=>!(e==aa ae)) (put es t.toNat b) its<=k)=ab);rw[decide_eq_true_iff];constructor
  .intro h;obtain⟨u,hm,e⟩:=bf.mp h;cases e;obtain⟨C,hn,M⟩:=vI.mp hm;obtain⟨z,hz,L⟩:=bf.mp hn;have E:=hi z hz;rw[L]at E;refine⟨⟨E.1,E.2.1⟩,C,?_⟩;rw[vL hi E.1 E.2.1 C,if_neg (by decide)];lia
  .rintro⟨⟨x,y⟩,C,A⟩;rw[vL hi x y C]at A
   cases b with
   |true=>rw[if_pos rfl]at A;lia
   |false=>
    rw[if_neg (by decide)]at A;refine bf.mpr ⟨t,vI.mpr ⟨C,?_,by lia⟩,rfl⟩
    by_cases q:t∈its.map (·.1)
    .exact q
    .rw[Bv q]at A;lia
def Gp(x:p.Ok es.length)(z:0<=t)(A:t<(es.length:Int))(B:opn es t=ab)(b:Bool)(h:p.sure es=ab):p.sure (put es t.toNat b)=ab:=by
 have C:=p8 B
 cases p with
 |inn u=>
  have q:es.getD u.toNat ac=aa ab:=beq_iff_eq.mp h;show((put es t.toNat b).getD u.toNat ac==aa ab)=ab;rw[mx z A x.1,if_neg (λe=>by rw[e,C]at q;cases q),q]
  rfl
 |out u=>
  have q:es.getD u.toNat ac=aa ae:=beq_iff_eq.mp h;show((put es t.toNat b).getD u.toNat ac==aa ae)=ab;rw[mx z A x.1,if_neg (λe=>by rw[e,C]at q;cases q),q]
  rfl
 |least k its=>
  have h:k<=bc (·==aa ab) es its:=of_decide_eq_true h;show decide (k<=bc (·==aa ab) (put es t.toNat b) its)=ab;have:=Go x.1 t;rw[decide_eq_true_iff,vK x.1 z A B]
  split <;> lia
 |most k its=>
  have h:bc (λe=>!(e==aa ae)) es its<=k:=of_decide_eq_true h;show decide (bc (λe=>!(e==aa ae)) (put es t.toNat b) its<=k)=ab;have:=Go x.1 t;rw[decide_eq_true_iff,vL x.1 z A B]
  split <;> lia
def P2(es:List (Option Bool))(p:Prt):((tps es p).map (·.1)).Nodup:=by
 have one:∀(q:Bool) (z:Int×Bool),((if q then [z] else []).map (·.1)).Nodup:=λq z=>by
  cases q
  .exact f6
  .exact cZ.mpr ⟨λh=>(cG h).elim,f6⟩
 cases p with
 |inn t=>exact one _ _
 |out t=>exact one _ _
 |least k its=>
  show(((hv es its _).map λt=>(t,ab)).map (·.1)).Nodup;rw[map_map]
  exact(map_id (hv es its _)).symm▸Gn es its _
 |most k its=>
  show(((hv es its _).map λt=>(t,ae)).map (·.1)).Nodup;rw[map_map];exact(map_id (hv es its _)).symm▸Gn es its _
abbrev Bz(es:List (Option Bool))(G:List Prt):Option (List (Int×Bool))->Prop
 |none=>∀p∈G,p.sure es=ab
 |some l=>(∃p∈G,p.sure es=ae)/\(∀z,z∈l↔∀p∈G,p.sure es=ae->z∈tps es p)/\(l.map (·.1)).Nodup
def Gq(es:List (Option Bool))(G:List Prt):Bz es G (G.foldl (pst es) ac):=by
 have go:∀(post pre:List Prt) (u:Option (List (Int×Bool))),Bz es pre u->Bz es (pre++post) (post.foldl (pst es) u):=by
  intro post
  induction post with
  |nil=>intro pre u h;rw[cB];exact h
  |cons p post I=>
   intro pre u h;have:=I (pre++[p]) (pst es u p) ?_
   .rw[fZ]at this;exact this
   unfold pst
   cases B:p.sure es with
   |true=>
    rw[if_pos rfl];have hm:∀q,q∈pre++[p]->q∈pre\/q=p:=λq x=>(bT.mp x).imp id λe=>by simpa using e
    cases u with
    |none=>exact λq x=>(hm q x).elim (h q) λe=>e▸B
    |some l=>
     obtain⟨⟨q,x,H⟩,C,E⟩:=h;refine⟨⟨q,fD _ x,H⟩,λz=>?_,E⟩;rw[C z]
     exact⟨λa q x e=>(hm q x).elim (λw=>a q w e) λw=>(by rw[w,B]at e;cases e),λa q x=>a q (fD _ x)⟩
   |false=>
    rw[if_neg ba];have A:p∈pre++[p]:=by simp
    cases u with
    |none=>
     refine⟨⟨p,A,B⟩,λz=>?_,P2 es p⟩;refine⟨λa q x e=>?_,λa=>a p A B⟩
     rcases bT.mp x with w |w
     .rw[h q w]at e;cases e
     .have:q=p:=by simpa using w
      rw[this];exact a
    |some l=>
     obtain⟨_,C,E⟩:=h;refine⟨⟨p,A,B⟩,λz=>?_,wn ((qk (p:=λz=>decide (z∈tps es p))).map (·.1)) E⟩;show z∈l.filter _↔_;rw[dX,C z,decide_eq_true_iff];refine⟨λ⟨a,b⟩ q x e=>?_,λa=>⟨λq x=>a q (fD _ x),a p A B⟩⟩
     rcases bT.mp x with w |w
     .exact a q w e
     .have:q=p:=by simpa using w
      rw[this];exact b
 exact go G [] ac λp A=>(cG A).elim
@[reducible]noncomputable def Pr:=Int×Bool
@[reducible]noncomputable def Wy:=Bool×Nat
@[reducible]noncomputable def Wt:=List (Pr×List Wy)
abbrev wyS(b:Bool):Str:=cond b "bar" "rule"
abbrev wyD(y:Wy):D:=.tup [.str (wyS y.1),.int y.2]
abbrev wyK(y:Wy):List Key:=[.inr (wyS y.1),.inl y.2]
abbrev bA(b:List Pr):D:=.lst (b.map prD)
abbrev brP(z:Pr):Prt:=if z.2 then .inn z.1 else .out z.1
abbrev brg(b:List Pr):List Prt:=b.map brP
variable{y:Wy}
def Gr{x:Wy}(h:wyK x=wyK y):x=y:=by
 obtain⟨a,i⟩:=x;obtain⟨b,j⟩:=y;unfold wyK at h;obtain⟨e,q⟩:=ox h;have A:=nt (ox q).1;have u:i=j:=by lia
 subst u;have z:wyS a=wyS b:=j5.inj e
 cases a <;> cases b <;> first |rfl |exact absurd z (by decide)
variable{p q:Pr}
def Gs(h:fw p.1 p.2=fw q.1 q.2):p=q:=by
 obtain⟨a,i⟩:=p;obtain⟨b,j⟩:=q;unfold fw at h;obtain⟨e,u⟩:=ox h;have x:a=b:=nt e;have z:(cond i 1 0:Int)=cond j 1 0:=nt (ox u).1;subst x
 cases i <;> cases j <;> first |rfl |exact absurd z (by decide)
abbrev gf(p:Pr)(y:Wy):Wt->Wt
 | []=>[(p,[y])]
 |q::tw=>if q.1=p then (q.1,q.2++[y])::tw else q::gf p y tw
abbrev gm(p:Pr)(y:Wy):Wt->Wt
 | []=>[]
 |q::tw=>if q.1=p then (q.1,q.2.erase y)::tw else q::gm p y tw
abbrev look(tw:Wt)(p:Pr):List Wy:=match tw with
 | []=>[]
 |q::tw=>if q.1=p then q.2 else look tw p
abbrev wtW(tw:Wt):Wss:=tw.map λq=>(fw q.1.1 q.1.2,q.2.map wyD)
def Gu(p:Pr)(y:Wy):∀tw:Wt,gN (fw p.1 p.2) (wyD y) (wtW tw)=wtW (gf p y tw)
 | []=>rfl
 |q::tw=>by
  show gN _ _ ((fw q.1.1 q.1.2,q.2.map wyD)::wtW tw)=_;unfold gN gf
  by_cases e:q.1=p
  .rw[if_pos (by rw[e]),if_pos e];show _=(_,(q.2++[y]).map wyD)::wtW tw;rw[bO];rfl
  .rw[if_neg (λz=>e (Gs z)),if_neg e,Gu p y tw];rfl
def ixW(p:Pr):∀tw:Wt,(aU (fw p.1 p.2) ((wtW tw).map (·.1))=ac/\look tw p=[])\/∃j q,aU (fw p.1 p.2) ((wtW tw).map (·.1))=aa j/\tw[j]?=aa q/\q.1=p/\look tw p=q.2/\∀y,gm p y tw=tw.set j (q.1,q.2.erase y)
 | []=>.inl ⟨rfl,rfl⟩
 |q::tw=>by
  show(aU _ (fw q.1.1 q.1.2::(wtW tw).map (·.1))=ac/\_)\/∃j x,aU _ (fw q.1.1 q.1.2::(wtW tw).map (·.1))=aa j/\_;unfold aU look
  by_cases e:q.1=p
  .refine .inr ⟨0,q,if_pos (by rw[e]),rfl,e,if_pos e,λy=>?_⟩;unfold gm;rw[if_pos e];rfl
  .rw[if_neg (λz=>e (Gs z)),if_neg e]
   rcases ixW p tw with⟨h,u⟩ |⟨j,x,h,u,A,B,C⟩
   .exact .inl ⟨by rw[h];rfl,u⟩
   .refine .inr ⟨j+1,x,by rw[h];rfl,by rw[eJ];exact u,A,B,λy=>?_⟩;unfold gm;rw[if_neg e,C y];rfl
def se(ds:LD):(lsO ds).items=aa ds:=yR ds
def P3(tw:Wt)(p:Pr):(wsO (wtW tw)).got (fw p.1 p.2)=aa ((look tw p).map wyD):=by
 unfold wsO O.got;dsimp only
 rcases ixW p tw with⟨e,h⟩ |⟨j,q,e,h,x,u,z⟩
 .rw[e,h];rfl
 .rw[e,u];dsimp only;rw[cA,wtW,cA,h];exact se _
variable{tw:Wt}{pp:Xp}
def BA(h:pp ρ=aa (wsO (wtW tw),R))(e:g ρ=aa (prD p)):i6 pp g ρ=aa ((look tw p).map wyD):=by
 unfold i6;rw[h,aA,e,aA];exact P3 tw p
def P4(h:pp ρ=aa (wsO (wtW tw),R))(C:g ρ=aa (prD p))(E:look tw p≠[]):∃u,n8 pp g ρ=aa (lsO ((look tw p).map wyD),u)/\∀y,u (lsO (((look tw p).erase y).map wyD))=R (wsO (wtW (gm p y tw))):=by
 rcases ixW p tw with⟨z,e⟩ |⟨j,q,z,e,G,A,B⟩
 .exact absurd e E
 .refine⟨λx=>R (.dT ((wtW tw).map (·.1)) (((wtW tw).map λp=>lsO p.2).set j x)),?_,λy=>?_⟩
  .unfold n8;rw[h,aA,C,aA];show((wsO (wtW tw)).key (fw p.1 p.2)).map _=_;unfold wsO O.key;dsimp only;rw[z,aA,cA,wtW,cA,e,A];rfl
  .rw[B y,A];unfold wsO wtW;rw[kP,kP,kP];dsimp only;rw[rf (l:=(tw.map λq=>(fw q.1.1 q.1.2,q.2.map wyD)).map (·.1)) (k:=j) (x:=fw q.1.1 q.1.2) (by rw[cA,cA,e];rfl)]
def Gv(z y:Wy):deq 19 (wyD z) (wyD y)=aa (z==y):=by
 rw[show deq 19 (wyD z) (wyD y)=aa ((wyS z.1==wyS y.1) && (((z.2:Int)==(y.2:Int)) && ab))from rfl]
 congr 1
 obtain⟨a,i⟩:=z;obtain⟨b,j⟩:=y;apply jQ.mpr;simp only[cx,beq_iff_eq,Prod.mk.injEq,and_true];constructor
 .rintro⟨u,v⟩;refine⟨?_,by lia⟩
  cases a <;> cases b <;> first |rfl |exact absurd u (by decide)
 .rintro⟨rfl,rfl⟩;exact⟨rfl,rfl⟩
def BC(y:Wy):∀L:List Wy,fW (wyD y) (L.map wyD)=aa (decide (y∈L))
 | []=>rfl
 |z::L=>by
  show((deq 19 (wyD z) (wyD y)).bind λb=>(fW (wyD y) (L.map wyD)).map λr=>b || r)=_;rw[Gv,BC y L];show aa _=_
  congr 1
  apply jQ.mpr;simp only[i9,beq_iff_eq,decide_eq_true_eq,aQ];exact⟨λq=>q.imp Eq.symm id,λq=>q.imp Eq.symm id⟩
def Gw(y:Wy):∀L:List Wy,y∈L->(L.map wyD).eraseIdx ((L.map wyD).findIdx (isE (wyD y)))=(L.erase y).map wyD
 | [],h=>nomatch h
 |z::L,h=>by
  have u:isE (wyD y) (wyD z)=(z==y):=by
   unfold isE;rw[Gv]
   cases z==y <;> rfl
  rw[bp,findIdx_cons,u,erase_cons]
  cases e:z==y with
  |true=>rfl
  |false=>
   have:y∈L:=by
    rcases aQ.mp h with q |q
    .rw[q,beq_self_eq_true]at e;cases e
    .exact q
   show wyD z::(L.map wyD).eraseIdx _=_;rw[Gw y L this];rfl
def P5{L:List Wy}(h:y∈L):(lsO (L.map wyD)).remd (wyD y)=aa (lsO ((L.erase y).map wyD)):=by
 unfold O.remd;rw[se,aA,BC,decide_eq_true h,if_pos rfl,Gw y L h];rfl
def P6(y:Wy)(L:List Wy):iC (wyD y) (.lst (L.map wyD))=aa (.bl (decide (y∈L))):=by
 show((fW (wyD y) (L.map wyD)).map D.bl)=_;rw[BC];rfl
abbrev gys(r b:Nat):List Wy:=(bI r).map (λi=>(ae,i))++(bI b).map λi=>(ab,i)
abbrev cg(rs:List Rul)(bs:List (List Pr))(y:Wy):List Prt:=cond y.1 (brg (bs.getD y.2 [])) (((rs[y.2]?).map grd).getD [])
abbrev gdD(rs:List Rul)(bs:List (List Pr))(y:Wy):D:=.lst ((cg rs bs y).map Prt.obj)
def P7(r b:Nat):(gys r b).Nodup:=by
 unfold gys;refine gR.mpr ⟨?_,?_,?_⟩
 .exact wq _ (λa b h e=>h (qt e).2) nodup_range
 .exact wq _ (λa b h e=>h (qt e).2) nodup_range
 .rintro x hx y u rfl;obtain⟨i,_,rfl⟩:=bf.mp hx;obtain⟨j,_,e⟩:=bf.mp u;cases e
variable{r:Nat}
def jM{b:Nat}:y∈gys r b↔y.2<cond y.1 b r:=by
 unfold gys;obtain⟨a,i⟩:=y
 cases a <;> simp
def P8(r b:Nat):(gys r b).length=r+b:=by unfold gys;simp
def sg(r b:Nat):gys r (b+1)=gys r b++[(ab,b)]:=by unfold gys;rw[range_succ];simp
def Gy{u A:Type}[DecidableEq A]{f:u->A}(z:∀x y,f x=f y->x=y):∀{l:List u} {j:Nat} {a:u},l.Nodup->l[j]?=aa a->aU (f a) (l.map f)=aa j
 | [],_,_,_,h=>by cases h
 |x::l,0,a,_,h=>by
  cases h
  exact if_pos rfl
 |x::l,j+1,a,nd,h=>by
  rw[eJ]at h;obtain⟨B,C⟩:=cZ.mp nd;rw[bp];unfold aU;rw[if_neg (λe=>B (by rw[z _ _ e];exact dM h)),Gy z C h];rfl
structure Spt where
 es:List (Option Bool)
 st:LD
 bs:List (List Pr)
 tw:Wt
 wt:List Wy
 ms:List Rul
abbrev Spt.S(rs:List Rul)(s:Spt):Spr:=⟨s.es,s.st,s.bs.map bA,(gys rs.length s.bs.length).map wyK,(gys rs.length s.bs.length).map (gdD rs s.bs),wtW s.tw,s.wt.map wyD,.lst (s.ms.map mkD)⟩
def P9{s:Spt}(x:y∈gys rs.length s.bs.length)(u:g (.deep (.at l (s.S rs).o)::ρ)=aa (wyD y)):pB (n8 (bv "Spreading" "guards" (aX 0)) g) (.deep (.at l (s.S rs).o)::ρ)=aa (gdD rs s.bs y):=by
 obtain⟨j,h⟩:=ou x;have e:=Gy (f:=wyK) (λ_ _=>Gr) (P7 _ _) h;unfold pB n8;rw[FP,aA,u,aA];show(((O.dT ((gys rs.length s.bs.length).map wyK) (((gys rs.length s.bs.length).map (gdD rs s.bs)).map .fz)).key (wyK y)).map _).bind _=_;unfold O.key;dsimp only;rw[e,aA,cA,cA,h];rfl
abbrev lO(y:Wy)(tw:Wt)(p:Prt):Wt:=(nmL p).foldl (λtw t=>gf (t,gP p) y tw) tw
abbrev gn(y:Wy)(ps:List Prt)(tw:Wt):Wt:=ps.foldl (lO y) tw
def Qa(y:Wy)(p:Prt)(tw:Wt):vF (wyD y) (wtW tw) p=wtW (lO y tw p):=by
 unfold vF lO;generalize nmL p=ts
 induction ts generalizing tw with
 |nil=>rfl
 |cons t ts e=>rw[du,du,Gu (t,gP p),e]
def vM(y:Wy)(ps:List Prt)(tw:Wt):mK (wyD y) ps (wtW tw)=wtW (gn y ps tw):=by
 unfold mK gn
 induction ps generalizing tw with
 |nil=>rfl
 |cons p ps e=>rw[du,du,Qa,e]
abbrev mM:Nat->List Rul->Wt->Wt
 | _,[],tw=>tw
 |i,r::rs,tw=>mM (i+1) rs (gn (ae,i) (grd r) tw)
def Gz:∀(rs:List Rul) (i:Nat) (s:Spr) (tw:Wt),s.ws=wtW tw->(fA i rs).foldl mL s=⟨s.es,s.st,s.bs,s.gk++(fA i rs).map (λp=>ku p.1),s.gd++(fA i rs).map (λp=>.lst ((grd p.2).map Prt.obj)),wtW (mM i rs tw),s.wt++(fA i rs).map (λp=>oi p.1),s.mks⟩
 | [],i,s,tw,h=>by
  obtain⟨a,b,c,d,e,f,g,m⟩:=s;cases h;simp[fA,mM]
  rfl
 |r::rs,i,s,tw,h=>by
  rw[fA,du,Gz rs (i+1) _ (gn (ae,i) (grd r) tw) (by rw[<- vM,<- h];rfl)];simp[mL,vG,mM]
def GA{e:Type}(f:Nat->e)(rs:List Rul):(fA 0 rs).map (λp=>f p.1)=(bI rs.length).map f:=by
 apply lT;intro j;rw[cA,rY,cA]
 by_cases h:j<rs.length
 .rw[cj h,qg h];simp
 .rw[cY (by lia),cY (by rw[cT];lia)];rfl
abbrev spT(es:List (Option Bool))(rs:List Rul):Spt:=⟨es,[],[],mM 0 rs [],(bI rs.length).map λi=>(ae,i),lM rs⟩
def Qb(es:List (Option Bool))(rs:List Rul):spI es rs=(spT es rs).S rs:=by
 unfold spI;rw[Gz rs 0 _ [] rfl,GA ku,GA oi];unfold Spt.S spT sp0 gys;simp only[nil_append,map_nil,length_nil,range_zero,cB,map_map]
 congr 1
 apply lT;intro j;rw[cA,rY,cA]
 by_cases h:j<rs.length
 .rw[qg h];simp[gdD,cg,cj h]
 .rw[cY (by lia),cY (by rw[cT];lia)];rfl
def sh(p q:Pr)(y:Wy):∀tw:Wt,look (gf p y tw) q=if q=p then look tw q++[y] else look tw q
 | []=>by
  show(if p=q then [y] else [])=if q=p then []++[y] else []
  by_cases e:q=p
  .rw[if_pos e,if_pos e.symm];rfl
  .rw[if_neg e,if_neg (λz=>e z.symm)]
 |r::tw=>by
  have h:=sh p q y tw
  by_cases e:r.1=p
  .rw[gf,if_pos e];show(if r.1=q then r.2++[y] else look tw q)=if q=p then (if r.1=q then r.2 else look tw q)++[y] else (if r.1=q then r.2 else look tw q)
   by_cases f:q=p
   .rw[if_pos f,if_pos (e.trans f.symm),if_pos (e.trans f.symm)]
   .rw[if_neg f,if_neg (λz=>f (z.symm.trans e)),if_neg (λz=>f (z.symm.trans e))]
  .rw[gf,if_neg e];show(if r.1=q then r.2 else look (gf p y tw) q)=if q=p then (if r.1=q then r.2 else look tw q)++[y] else (if r.1=q then r.2 else look tw q);rw[h]
   by_cases f:q=p
   .rw[if_pos f,if_pos f,if_neg (by rw[f];exact e),if_neg (by rw[f];exact e)]
   .rw[if_neg f,if_neg f]
def GB(p q:Pr)(y:Wy):∀tw:Wt,look (gm p y tw) q=if q=p then (look tw q).erase y else look tw q
 | []=>by
  show([]:List Wy)=if q=p then ([]:List Wy).erase y else []
  split <;> rfl
 |r::tw=>by
  have h:=GB p q y tw
  by_cases e:r.1=p
  .rw[gm,if_pos e];show(if r.1=q then r.2.erase y else look tw q)=if q=p then (if r.1=q then r.2 else look tw q).erase y else (if r.1=q then r.2 else look tw q)
   by_cases f:q=p
   .rw[if_pos f,if_pos (e.trans f.symm),if_pos (e.trans f.symm)]
   .rw[if_neg f,if_neg (λz=>f (z.symm.trans e)),if_neg (λz=>f (z.symm.trans e))]
  .rw[gm,if_neg e];show(if r.1=q then r.2 else look (gm p y tw) q)=if q=p then (if r.1=q then r.2 else look tw q).erase y else (if r.1=q then r.2 else look tw q);rw[h]
   by_cases f:q=p
   .rw[if_pos f,if_pos f,if_neg (by rw[f];exact e),if_neg (by rw[f];exact e)]
   .rw[if_neg f,if_neg f]
@[reducible]noncomputable def cn(tw:Wt)(p:Pr)(y:Wy):Nat:=(look tw p).count y
def ig:y∈look tw p↔0<cn tw p y:=count_pos_iff.symm
def Qc{z:Wy}(h:z≠y):cn (gf p y tw) q z=cn tw q z:=by
 unfold cn;rw[sh];split
 .rw[count_append,count_singleton,if_neg (by rw[beq_iff_eq];exact λe=>h e.symm)];rfl
 .rfl
def ol{y z:Wy}(h:z≠y)(q:Pr):∀(ps:List Prt) (tw:Wt),cn (gn y ps tw) q z=cn tw q z
 | [],_=>rfl
 |p::ps,tw=>by
  show cn (gn y ps (lO y tw p)) q z=_;rw[ol h q ps];unfold lO;generalize nmL p=ts
  induction ts generalizing tw with
  |nil=>rfl
  |cons t ts e=>rw[du,e,Qc h]
def Qd(y:Wy)(tw:Wt)(z:Pr):lO y tw (brP z)=gf z y tw:=by
 obtain⟨t,b⟩:=z
 cases b <;> rfl
def BD(y:Wy)(q:Pr):∀(b:List Pr) (tw:Wt),cn (gn y (brg b) tw) q y=cn tw q y+b.count q
 | [],_=>rfl
 |z::b,tw=>by
  show cn (gn y (brg b) (lO y tw (brP z))) q y=_;rw[BD y q b,Qd,count_cons]
  have:cn (gf z y tw) q y=cn tw q y+if z==q then 1 else 0:=by
   unfold cn;rw[sh]
   by_cases e:q=z
   .rw[if_pos e,count_append,if_pos (by rw[e];exact beq_self_eq_true z),count_singleton,if_pos (beq_self_eq_true y)]
   .rw[if_neg e,if_neg (by rw[beq_iff_eq];exact λx=>e x.symm)];rfl
  lia
abbrev kA(y:Wy)(ps:List Pr)(tw:Wt):Wt:=ps.foldl (λtw p=>gm p y tw) tw
def Qe(p q:Pr)(y z:Wy)(tw:Wt):cn (gm p y tw) q z=if q=p/\z=y then cn tw q z-1 else cn tw q z:=by
 unfold cn;rw[GB]
 by_cases e:q=p
 .rw[if_pos e]
  by_cases f:z=y
  .rw[if_pos ⟨e,f⟩,f,count_erase_self]
  .rw[if_neg (λx=>f x.2),count_erase_of_ne f]
 .rw[if_neg e,if_neg (λx=>e x.1)]
def BE(q:Pr)(y z:Wy):∀(ps:List Pr) (tw:Wt),ps.Nodup->cn (kA y ps tw) q z=if q∈ps/\z=y then cn tw q z-1 else cn tw q z
 | [],tw,_=>by rw[if_neg (λx=>nomatch x.1)];rfl
 |p::ps,tw,nd=>by
  obtain⟨h,A⟩:=cZ.mp nd;show cn (kA y ps (gm p y tw)) q z=_;rw[BE q y z ps _ A,Qe]
  by_cases f:z=y
  .by_cases e:q=p
   .rw[if_neg (λx=>h (by rw[<- e];exact x.1)),if_pos ⟨e,f⟩,if_pos ⟨by rw[e];exact aN,f⟩]
   .rw[if_neg (λx:q=p/\z=y=>e x.1)]
    by_cases g:q∈ps
    .rw[if_pos ⟨g,f⟩,if_pos ⟨bo _ g,f⟩]
    .rw[if_neg (λx=>g x.1),if_neg (λx=>by rcases aQ.mp x.1 with u |u;exact e u;exact g u)]
  .rw[if_neg (λx=>f x.2),if_neg (λx=>f x.2),if_neg (λx=>f x.2)]
def Qf(h:b4 c (wtW tw)):b4 c (wtW (gm p y tw)):=by
 have gen:∀tw:Wt,(gm p y tw).length=tw.length/\∀q∈gm p y tw,∃A∈tw,q.2.length<=A.2.length:=by
  intro tw
  induction tw with
  |nil=>exact⟨rfl,λq h=>nomatch h⟩
  |cons r tw C=>
   unfold gm;split
   .refine⟨rfl,λq u=>?_⟩
    rcases aQ.mp u with e |e
    .rw[e];exact⟨r,aN,(erase_sublist).length_le⟩
    .exact⟨q,bo _ e,aL _⟩
   .refine⟨by rw[cp,C.1];rfl,λq u=>?_⟩
    rcases aQ.mp u with e |e
    .rw[e];exact⟨r,aN,aL _⟩
    .obtain⟨A,z,B⟩:=C.2 q e;exact⟨A,bo _ z,B⟩
 obtain⟨E,G⟩:=gen tw;refine⟨by unfold wtW;rw[aH,E];have:=h.ln;unfold wtW at this;rwa [aH]at this,λq u=>?_⟩;unfold wtW at u;obtain⟨x,hx,rfl⟩:=bf.mp u;obtain⟨H,z,B⟩:=G x hx;have:=h.al _ (bf.mpr ⟨H,z,rfl⟩);dsimp only at this ⊢;rw[aH]at this ⊢;lia
def GC{c:Nat}{y:Wy}:∀{ps:List Pr} {tw:Wt},b4 c (wtW tw)->b4 c (wtW (kA y ps tw))
 | [],_,h=>h
 | _::ps,_,h=>GC (ps:=ps) (Qf h)
def BF(h:b4 c (wtW tw))(p:Pr):(look tw p).length<=c:=by
 rcases ixW p tw with⟨_,e⟩ |⟨j,q,x,e,z,u,A⟩
 .rw[e];exact c4 _
 .rw[u];have:=h.al _ (bf.mpr ⟨q,dM e,rfl⟩);dsimp only at this
  rwa [aH]at this
def GD(nd:ns.Nodup)(h:∀x∈ns,0<=x/\x<(n:Int)):ns.length<=n:=by
 by_cases e:ns.length<=n
 .exact e
 .have u:∀x∈ns,x∈(bI n).map λ(i:Nat)=>(i:Int):=λx hx=>by
   obtain⟨a,b⟩:=h x hx;exact bf.mpr ⟨x.toNat,eM.mpr (by lia),by lia⟩
  have p:=pI ns _ nd u (by rw[aH,cT];lia);have:=p.length_eq;rw[aH,cT]at this;lia
structure cF(n:Nat)(b:List Pr):Prop where
 nn:∀z∈b,0<=z.1/\z.1<(n:Int)
 nd:(b.map (·.1)).Nodup
variable{b:List Pr}
def cF.pd(h:cF n b):b.Nodup:=List.Pairwise.of_map _ (λ_ _ z e=>z (by rw[e])) h.nd
def cF.len(h:cF n b):b.length<=n:=by
 have:(b.map (·.1)).length<=n:=GD h.nd λx hx=>by
  obtain⟨z,hz,rfl⟩:=bf.mp hx;exact h.nn z hz
 rwa [aH]at this
def cF.nil(n:Nat):cF n []:=⟨(λ_ h=>nomatch h),f6⟩
structure gQ(c r:Nat)(bs:List (List Pr))(tw:Wt):Prop where
 wk:b4 c (wtW tw)
 vl:∀p,∀y∈look tw p,y∈gys r bs.length
 br:∀j,(∀p,cn tw p (ab,j)=0)\/(∀p,cn tw p (ab,j)=if p∈bs.getD j [] then 1 else 0)
abbrev wider(tw:Wt):List Pr->List Wy
 | []=>[]
 |p::b=>(p::b).foldl (λL q=>L.filter λy=>decide (y∈look tw q)) (look tw p)
def GE(tw:Wt):∀(b:List Pr) (L:List Wy),(b.foldl (λL q=>L.filter λy=>decide (y∈look tw q)) L).Sublist L/\∀y∈b.foldl (λL q=>L.filter λy=>decide (y∈look tw q)) L,∀p∈b,y∈look tw p
 | [],L=>⟨List.Sublist.refl _,λ_ _ _ h=>nomatch h⟩
 |q::b,L=>by
  obtain⟨u,z⟩:=GE tw b (L.filter λy=>decide (y∈look tw q));refine⟨u.trans qk,λy x p A=>?_⟩
  rcases aQ.mp A with e |e
  .rw[e];exact of_decide_eq_true (dX.mp (u.subset x)).2
  .exact z y x p e
abbrev gq(bs:List (List Pr))(tw:Wt)(y:Wy):Wt:=cond y.1 (kA y (bs.getD y.2 []) tw) tw
abbrev jN(bs:List (List Pr))(tw:Wt)(b:List Pr):Wt:=(wider tw b).foldl (gq bs) tw
def p9{bs:List (List Pr)}(u:∀b∈bs,b.Nodup)(p:Pr)(z:Wy):cn (gq bs tw y) p z=if y.1=ab/\p∈bs.getD y.2 []/\z=y then cn tw p z-1 else cn tw p z:=by
 unfold gq;obtain⟨a,j⟩:=y
 cases a with
 |false=>rw[if_neg (λx=>by cases x.1)];rfl
 |true=>
  have nd:(bs.getD j []).Nodup:=by
   rw[bD]
   cases e:bs[j]? with
   |none=>exact f6
   |some b=>exact u b (dM e)
  show cn (kA (ab,j) (bs.getD j []) tw) p z=_;rw[BE p (ab,j) z _ _ nd]
  by_cases h:p∈bs.getD j []/\z=(ab,j)
  .rw[if_pos h,if_pos ⟨rfl,h⟩]
  .rw[if_neg h,if_neg (λx=>h x.2)]
def vN{bs:List (List Pr)}(e:∀b∈bs,b.Nodup)(p:Pr)(z:Wy):∀(L:List Wy) (tw:Wt),z∉L->cn (L.foldl (gq bs) tw) p z=cn tw p z
 | [],_,_=>rfl
 |y::L,tw,h=>by
  rw[du,vN e p z L _ (λq=>h (bo _ q)),p9 e,if_neg (λx=>h (by rw[x.2.2];exact aN))]
def BG{bs:List (List Pr)}(e:∀b∈bs,b.Nodup)(p:Pr)(z:Wy):∀(L:List Wy) (tw:Wt),cn (L.foldl (gq bs) tw) p z<=cn tw p z
 | [],_=>aL _
 |y::L,tw=>by
  rw[du];refine c3 (BG e p z L _) ?_;rw[p9 e]
  split <;> lia
def GF{c:Nat}{bs:List (List Pr)}:∀{L:List Wy} {tw:Wt},b4 c (wtW tw)->b4 c (wtW (L.foldl (gq bs) tw))
 | [],_,h=>h
 |y::L,tw,h=>by
  rw[du];refine GF (L:=L) ?_;unfold gq
  cases y.1 with
  |false=>exact h
  |true=>exact GC h
def gQ.wide{bs:List (List Pr)}(h:gQ c r bs tw)(x:(ab,j)∈wider tw b):(∀p,cn tw p (ab,j)=if p∈bs.getD j [] then 1 else 0)/\(wider tw b).count (ab,j)=1/\(∀p∈b,p∈bs.getD j [])/\j<bs.length:=by
 cases b with
 |nil=>cases x
 |cons u b=>
  obtain⟨A,B⟩:=GE tw (u::b) (look tw u)
  have ha:∀p,cn tw p (ab,j)=if p∈bs.getD j [] then 1 else 0:=by
   rcases h.br j with z |z
   .have:=ig.mp (A.subset x);rw[z u]at this;lia
   .exact z
  refine⟨ha,?_,λp C=>?_,jM.mp (h.vl u _ (A.subset x))⟩
  .have G:0<(wider tw (u::b)).count (ab,j):=count_pos_iff.mpr x;have H:(wider tw (u::b)).count (ab,j)<=cn tw u (ab,j):=A.count_le _;have E:=ha u
   split at E <;> lia
  .have:=ig.mp (B _ x p C);rw[ha p]at this
   by_cases e:p∈bs.getD j []
   .exact e
   .rw[if_neg e]at this;lia
def gQ.dropped{bs:List (List Pr)}(h:gQ c r bs tw)(u:∀b∈bs,b.Nodup)(b:List Pr):gQ c r bs (jN bs tw b):=by
 refine⟨GF h.wk,λp y E=>h.vl p y (ig.mpr (fF (ig.mp E) (BG u p y _ _))),λj=>?_⟩
 by_cases A:(ab,j)∈wider tw b
 .refine .inl λp=>?_;obtain⟨ha,H,_⟩:=h.wide A
  have gen:∀(L:List Wy) (tw:Wt),(ab,j)∈L->(∀p,p∉bs.getD j []->cn tw p (ab,j)=0)->(∀p,cn tw p (ab,j)<=1)->cn (L.foldl (gq bs) tw) p (ab,j)=0:=by
   intro L
   induction L with
   |nil=>intro tw h;cases h
   |cons y L G=>
    intro tw hm B C;rw[du]
    by_cases e:(ab,j)=y
    .have:cn (gq bs tw y) p (ab,j)=0:=by
      rw[p9 u]
      by_cases g:p∈bs.getD j []
      .rw[if_pos ⟨by rw[<- e],by rw[<- e];exact g,e⟩];have:=C p;lia
      .rw[B p g]
       split <;> rfl
     have:=BG u p (ab,j) L (gq bs tw y);lia
    .refine G _ (by rcases aQ.mp hm with z |z;exact absurd z e;exact z) (λp g=>?_) λp=>?_
     .rw[p9 u,if_neg (λx=>e x.2.2)];exact B p g
     .rw[p9 u,if_neg (λx=>e x.2.2)];exact C p
  exact gen _ _ A (λp g=>by rw[ha p,if_neg g]) λp=>by rw[ha p];split <;> lia
 .have e:∀p,cn (jN bs tw b) p (ab,j)=cn tw p (ab,j):=λp=>vN u p _ _ _ A
  rcases h.br j with z |z
  .exact .inl λp=>by rw[e];exact z p
  .exact .inr λp=>by rw[e];exact z p
def Qg(u:n<ρ.length)(h:wp F ρ K):wp (λρ=>if n<ρ.length then F ρ else ac) ρ K:=by
 obtain⟨o,e,k⟩:=h;exact⟨o,(if_pos u).trans e,k⟩
variable{p:Xp}
def Qh{q:O×(O->O)}(h:p ρ=aa q)(e:f ρ=aa d)(u:q.1.remd d=aa o2)(k:K (.nx (ρ.set i (.deep (q.2 o2))))):wp (uE i p f) ρ K:=⟨_,by
 unfold uE;rw[h,aA,e,aA,u];rfl,k⟩
def Qi{a b:Sl}:bv "Spreading" "watches" (aX 2) [a,b,.deep (.at l s.o)]=aa (wsO s.ws,λx=>.at l (.ins "Spreading" spN [lsO (s.es.map shD),lsO s.st,lsO s.bs,.dT s.gk (s.gd.map .fz),x,lsO s.wt,.fz s.mks])):=rfl
def GG{l:Addr}{s:Spr}{tw:Wt}(A:s.ws=wtW tw):∀(b:List Pr) (v1 u x z:Sl) (L:List Wy),L.length<=16777216->∃h,mF 2 3 1 [3,0] (aG 0) (mB (m2 iC (af 0) (aI (i6 (bv "Spreading" "watches" (aX 2)) (af 1))))) (af 0) (b.map prD) [.deep (.at l s.o),v1,u,x,z] (L.map wyD)=aa ([.deep (.at l s.o),v1,u,h,z],(b.foldl (λL q=>L.filter λy=>decide (y∈look tw q)) L).map wyD)
 | [],_,_,x,_,_,_=>⟨x,rfl⟩
 |p::b,v1,u,x,z,L,hL=>by
  obtain⟨h,B⟩:=GG A b v1 u (.im (prD p)) z (L.filter λy=>decide (y∈look tw p)) (c3 (kM _ _) hL);refine⟨h,?_⟩;rw[bp];unfold mF;rw[if_pos (by rw[aH];exact hL)]
  have e:fj (fR (aG 0) (mB (m2 iC (af 0) (aI (i6 (bv "Spreading" "watches" (aX 2)) (af 1))))) (af 0) [.no,.im (prD p),.deep (.at l s.o)]) (L.map wyD)=aa ((L.filter λy=>decide (y∈look tw p)).map wyD):=
   t8 wyD (λy=>decide (y∈look tw p)) wyD L λy _=>gH rfl (cK (aP rfl (bV (BA (tw:=tw) (p:=p) (Qi.trans (by rw[A])) rfl)) (P6 y _))) λ_=>rfl
  show(fj (fR (aG 0) (mB (m2 iC (af 0) (aI (i6 (bv "Spreading" "watches" (aX 2)) (af 1))))) (af 0) [.no,.im (prD p),.deep (.at l s.o)]) (L.map wyD)).bind _=_;rw[e,aA];exact B
def Qj(u:s.ws=wtW tw)(z:b4 c (wtW tw))(x:c<=16777216)(k:∀A,K (.nx [.deep (.at l s.o),.im (bA b),.own ((wider tw b).map wyD),A,.no])):
  wp (pV 2 3 (cw (af 1)) (i6 (bv "Spreading" "watches" (aX 0)) (mIx (ar 1) (kI 0))) (a9 (af 1)) 1 [3,0] (aG 0) (mB (m2 iC (af 0) (aI (i6 (bv "Spreading" "watches" (aX 2)) (af 1))))) (af 0)) [.deep (.at l s.o),.im (bA b),.no,.no,.no] K:=by
 cases b with
 |nil=>exact⟨_,rfl,k .no⟩
 |cons p b=>
  obtain⟨h,e⟩:=GG (l:=l) u (p::b) (.im (bA (p::b))) .no .no .no (look tw p) (c3 (BF z p) x);refine⟨_,?_,k h⟩;unfold pV;rw[show cw (af 1) [.deep (.at l s.o),.im (bA (p::b)),.no,.no,.no]=aa ab from rfl,aA,show a9 (af 1) ([Sl.deep (.at l s.o),.im (bA (p::b)),.no,.no,.no].set 2 .no)=aa ((p::b).map prD)from rfl,aA,if_pos (show ab=!((p::b).map prD).isEmpty from rfl),BA (tw:=tw) (p:=p) (vB.trans (by rw[u])) (aT (ds:=(p::b).map prD) rfl rfl (nU (0,ae) (by decide) (by rw[cp];lia))),if_pos rfl,aA,e];rfl
def GH{bs:List (List Pr)}(h:∀b∈bs,cF n b)(j:Nat):cF n (bs.getD j []):=by
 rw[bD]
 cases e:bs[j]? with
 |none=>exact cF.nil n
 |some b=>exact h b (dM e)
def Qk(s:Spt)(b:List Pr)(ok:gQ c rs.length s.bs s.tw)(U:c<16777216)(M:∀b∈s.bs,cF n b):Aj l [bA b] (s.S rs).o=aa ((({s with tw:=jN s.bs s.tw b}:Spt).S rs).o,.non):=by
 apply lL;unfold u4;show wp _ [.deep (.at l (s.S rs).o),.im (bA b),.no,.no,.no] _;apply Qg (show 2<5 by decide);apply ay;refine Qj (s:=s.S rs) (tw:=s.tw) rfl ok.wk (f7 U) λe=>?_;show wp _ _ _;refine jC rfl ?_
 refine eE (wider s.tw b) wyD (λpre ρ=>∃e L,ρ=[.deep (.at l (({s with tw:=pre.foldl (gq s.bs) s.tw}:Spt).S rs).o),.im (bA b),.im (.lst ((wider s.tw b).map wyD)),e,L]) rfl ⟨_,_,rfl⟩ ?_ ?_
 .rintro pre ⟨a,j⟩ post ρ ex ⟨e,L,rfl⟩;refine⟨_,rfl,?_⟩;walk_at "nrm"
  cases a with
  |false=>
   refine bq (b:=ae) rfl (λz=>by cases z) (λ_=>ca ?_);refine⟨e,.im (wyD (ae,j)),?_⟩;rw[fE]
   rfl
  |true=>
   obtain⟨ha,B,_,Y⟩:=ok.wide (b:=b) (j:=j) (by rw[ex];simp)
   have G:(ab,j)∉pre:=λq=>by
    rw[ex,count_append,count_cons_self]at B;have:=count_pos_iff.mpr q;lia
   have A:=GH M j;have E:∀b∈s.bs,b.Nodup:=λb h=>(M b h).pd;refine bq (b:=ab) rfl (λ_=>?_) (λz=>by cases z)
   refine eE (s.bs.getD j []) prD (λpr ρ=>∃e,ρ=[.deep (.at l (({s with tw:=kA (ab,j) pr (pre.foldl (gq s.bs) s.tw)}:Spt).S rs).o),.im (bA b),.im (.lst ((wider s.tw b).map wyD)),e,.im (wyD (ab,j))]) (dn (aT (Bm Bl) (aT rfl rfl rfl) (nU [] (by lia) (by show((j:Nat):Int)<((s.bs.length:Nat):Int);lia))) rfl) ⟨_,rfl⟩ ?_ ?_
   .rintro pr p po ρ u ⟨e,rfl⟩;have I:p∈s.bs.getD j []:=by rw[u];simp
    have H:p∉pr:=λq=>by
     have:=A.pd;rw[u]at this;exact(gR.mp this).2.2 p q p aN rfl
    have J:pr.Nodup:=by
     have:=A.pd;rw[u]at this;exact(gR.mp this).1
    have C : (ab,j)∈look (kA (ab,j) pr (pre.foldl (gq s.bs) s.tw)) p:=ig.mpr (by
     rw[BE p _ _ pr _ J,if_neg (λx=>H x.1),vN E p _ _ _ G,ha p,if_pos I];exact Nat.one_pos)
    refine⟨_,rfl,?_⟩;walk_at "nrm"
    obtain⟨R',Q,T⟩:=P4 (tw:=kA (ab,j) pr (pre.foldl (gq s.bs) s.tw)) (p:=p) (g:=af 3) (ρ:=[.deep (.at l (({s with tw:=kA (ab,j) pr (pre.foldl (gq s.bs) s.tw)}:Spt).S rs).o),.im (bA b),.im (.lst ((wider s.tw b).map wyD)),.im (prD p),.im (wyD (ab,j))]) vB rfl (ne_nil_of_mem C)
    refine Qh Q (d:=wyD (ab,j)) rfl (P5 C) ?_;dsimp only;rw[T];refine⟨.im (prD p),?_⟩;unfold kA;rw[fE];rfl
   .rintro ρ ⟨e,rfl⟩;refine⟨e,.im (wyD (ab,j)),?_⟩;rw[fE];rfl
 .rintro ρ ⟨e,L,rfl⟩;exact⟨_,rfl,rfl,rfl⟩
def Ql(b:List Pr)(hz:b.length<=16777216):Az [bA b]=aa (.lst ((brg b).map Prt.obj)):=by
 rw[show(brg b).map Prt.obj=b.map λz=>(brP z).obj from map_map]
 exact pA (congrArg (kZ Fl.rtO) (gG b prD (λz=>(brP z).obj) rfl hz λz _=>fu rfl rfl (by
  obtain⟨t,x⟩:=z
  cases x <;> rfl)))
def vO(h:cF n b):∀p∈brg b,PrK n p:=λp e=>by
 obtain⟨z,hz,rfl⟩:=bf.mp e;have:=h.nn z hz;obtain⟨t,x⟩:=z
 cases x <;> exact⟨this,(by decide:1<=1000)⟩
def om{e:Type}(l:List e)(a d:e)(j:Nat):(l++[a]).getD j d=if j=l.length then a else l.getD j d:=by
 rw[bD,bD]
 by_cases h:j=l.length
 .rw[if_pos h,h,lQ (aL _),Nat.sub_self];rfl
 .rw[if_neg h]
  by_cases g:j<l.length
  .rw[lR g]
  .rw[cY (by rw[a8,dW];lia),cY (by lia)]
def gQ.bar{bs:List (List Pr)}(h:gQ c r bs tw)(u:cF n b)(hn:n<=60):gQ (c+3840) r (bs++[b]) (gn (ab,bs.length) (brg b) tw):=by
 have A:∀p,cn tw p (ab,bs.length)=0:=λp=>Nat.eq_zero_of_not_pos λq=>by
  have:bs.length<bs.length:=jM.mp (h.vl p _ (ig.mpr q));exact gt _ this
 have x:∀p,cn (gn (ab,bs.length) (brg b) tw) p (ab,bs.length)=if p∈b then 1 else 0:=λp=>by
  rw[BD,A p,lV,u.pd.count]
 refine⟨?_,λp y B=>?_,λj=>?_⟩
 .rw[<- vM];refine(b4.reg hn (vO u) h.wk).le ?_;unfold brg;rw[aH];have:=u.len;lia
 .rw[a8,dW,sg]
  by_cases e:y=(ab,bs.length)
  .rw[e];simp
  .refine fD _ (h.vl p y (ig.mpr ?_));rw[<- ol e p (brg b)];exact ig.mp B
 .rw[om]
  by_cases e:j=bs.length
  .rw[if_pos e,e];exact .inr x
  .have ne:((ab,j):Wy)≠(ab,bs.length):=λz=>e (qt z).2;rw[if_neg e]
   rcases h.br j with z |z
   .exact .inl λp=>by rw[ol ne];exact z p
   .exact .inr λp=>by rw[ol ne];exact z p
abbrev Spt.bar(s:Spt)(b:List Pr):Spt:={s with bs:=s.bs++[b],tw:=gn (ab,s.bs.length) (brg b) (jN s.bs s.tw b),wt:=s.wt++[(ab,s.bs.length)]}
def Qm{bs:List (List Pr)}:(gys rs.length (bs.length+1)).map (gdD rs (bs++[b]))=(gys rs.length bs.length).map (gdD rs bs)++[.lst ((brg b).map Prt.obj)]:=by
 rw[sg,bO]
 congr 1
 .refine sC λy e=>?_;have:=jM.mp e;obtain⟨a,j⟩:=y
  cases a with
  |false=>rfl
  |true=>
   have:j<bs.length:=this;unfold gdD cg;show D.lst ((brg ((bs++[b]).getD j [])).map Prt.obj)=D.lst ((brg (bs.getD j [])).map Prt.obj);rw[om,if_neg (by lia)]
 .show[D.lst ((brg ((bs++[b]).getD bs.length [])).map Prt.obj)]=_;rw[om,if_pos rfl]
def Qn(s:Spt)(b:List Pr)(ok:gQ c rs.length s.bs s.tw)(H:c+3840<16777216)(z:∀b∈s.bs,cF n b)(u:cF n b)(hn:n<=60)(I:rs.length+s.bs.length<100000)(G:s.wt.length<16777216):
  AA l [bA b] (s.S rs).o=aa (((s.bar b).S rs).o,.non):=by
 have E:=u.len;have x:=ok.dropped (λb h=>(z b h).pd) b;have C:((gys rs.length s.bs.length).map wyK).length=rs.length+s.bs.length:=by rw[aH,P8]
 apply lL;unfold vc;show wp _ [.deep (.at l (s.S rs).o),.im (bA b),.no] _;apply ay;refine p7 (lK rfl rfl (i7 rfl rfl) rfl (Qk s b ok (by lia) z)) ?_
 show wp _ [.deep (.at l (({s with tw:=jN s.bs s.tw b}:Spt).S rs).o),.im (bA b),.no] _
 apply ay;refine bM (d:=wyD (ab,s.bs.length)) (eV (ax rfl (ax (aS (ax (oh Bl) rfl) (ib s.bs bA)) rfl))) ?_;walk_at "nrm";apply ay;refine Bo Bl rfl (by show(s.bs.map bA).length<_;rw[aH];lia) ?_;have B:s.bs.map bA++[bA b]=(s.bs++[b]).map bA:=by rw[bO];rfl
 show wp _ [.deep (.at l (⟨s.es,s.st,s.bs.map bA++[bA b],(gys rs.length s.bs.length).map wyK,(gys rs.length s.bs.length).map (gdD rs s.bs),wtW (jN s.bs s.tw b),s.wt.map wyD,.lst (s.ms.map mkD)⟩:Spr).o),.im (bA b),.im (wyD (ab,s.bs.length))] _;rw[B];refine p7 (lK rfl rfl (i7 rfl (i7 (aS rfl (Ql b (by lia))) rfl)) rfl (FV (k:=wyK (ab,s.bs.length)) _ (brg b) rfl (Bs λq=>?_) ?_ (vO u) hn x.wk ?_ ?_ ?_)) ?_
 .obtain⟨y,A,e⟩:=bf.mp q;rw[Gr e]at A;have:s.bs.length<s.bs.length:=jM.mp A;exact gt _ this
 .show((gys rs.length s.bs.length).map wyK).length<_;lia
 .unfold brg;rw[aH];lia
 .show(s.wt.map wyD).length<_;rw[aH];exact G
 .unfold brg;rw[aH];lia
 .refine⟨_,rfl,?_,rfl⟩
  congr 1
  unfold vG Spt.bar Spt.S;dsimp only;rw[vM,a8,dW,Qm,sg,bO,bO,bO];rfl
def si{f:Xe}(h:f ρ=aa (d,hI))(k:K (.nx (hI.set i (.im d)))):wp (lI i f) ρ K:=⟨_,by unfold lI;rw[h];rfl,k⟩
def Qo{k:Int}(hv:fv ρ=aa d)(h:p ρ=aa (lsO ds,R))(x:fk ρ=aa (.int k))(e:0<=k)(u:k<ds.length)(q:K (.nx (ρ.set i (.deep (R (lsO (ds.set k.toNat d))))))):wp (uB i p fk fv) ρ K:=⟨_,by
 unfold uB;rw[hv,aA,h,aA,x,aA];show(((lsO ds).items.bind λds=>(ixN ds.length k).map λj=>O.lst ((ds.set j d).map .fz))).map _=_;rw[se,aA,show ixN ds.length k=aa k.toNat by unfold ixN;rw[if_pos e,if_pos u]];rfl,q⟩
def Qp{f:MF2}{es:LD}(h:p ρ=aa (lsO ds,R))(e:f ρ=aa es)(hz:ds.length+es.length<=16777216)(q:K (.nx (ρ.set i (.deep (R (lsO (ds++es))))))):wp (uz i p f) ρ K:=⟨_,by
 unfold uz;rw[h,aA,e,aA];show(if (ds.map O.fz).length+es.length<=16777216 then aa (O.lst (ds.map .fz++es.map .fz)) else ac).map _=_;rw[if_pos (by rw[aH];exact hz),<- bO];rfl,q⟩
abbrev gs(es:List (Option Bool)):Nat:=ct (es.map (·==ac))
variable{b:Bool}
def Qq(h:0<=t)(u:t<(es.length:Int))(e:opn es t=ab):gs (put es t.toNat b)+1=gs es:=by
 unfold gs put;rw[kP];refine F8 _ _ ?_;unfold opn at e;rw[bD]at e ⊢;rw[cA,cj (by lia)]at *;exact e
def Qr(es:List (Option Bool)):gs es<=es.length:=by
 have:=PH (es.map (·==ac))
 rwa [aH]at this
abbrev Spt.pt(s:Spt)(t:Int)(b:Bool)(w:D):Spt:={s with es:=put s.es t.toNat b,st:=s.st++[.tup [prD (t,b),w]],wt:=s.wt++look s.tw (t,b)}
structure SpJ(n c B:Nat)(rs:List Rul)(s:Spt):Prop where
 es:s.es.length=n
 bk:∀b∈s.bs,cF n b
 tw:gQ c rs.length s.bs s.tw
 wv:∀y∈s.wt,y∈gys rs.length s.bs.length
 ms:s.ms.Perm (lM rs)
 mB:gs s.es*(c+1)+s.wt.length<=B
 sB:s.st.length+gs s.es<=B
 sv:∀d∈s.st,∃(z:Pr) (w:D),d=.tup [prD z,w]/\(0<=z.1/\z.1<(n:Int))/\s.es.getD z.1.toNat ac=aa z.2
@[reducible]noncomputable def Me(c:Nat)(s:Spt):Nat:=gs s.es*(c+1)+s.wt.length
variable{u:Int}
def BH(x:0<=u)(e:0<=t)(h:u≠t):opn (put es t.toNat b) u=opn es u:=by
 unfold opn;rw[gO es b (by lia)]
variable{B:Nat}{s:Spt}{w:D}
def SpJ.pt(h:SpJ n c B rs s)(C:0<=t)(E:t<(n:Int))(A:opn s.es t=ab):SpJ n c B rs (s.pt t b w)/\Me c (s.pt t b w)<Me c s:=by
 have G:=Qq (b:=b) C (by rw[h.es];exact E) A;have L:=BF h.tw.wk (t,b)
 have hm:Me c (s.pt t b w)<Me c s:=by
  show gs (put s.es t.toNat b)*(c+1)+(s.wt++look s.tw (t,b)).length<gs s.es*(c+1)+s.wt.length;rw[<- G,a8,Nat.succ_mul];lia
 refine⟨⟨(d3 _ _ _).trans h.es,h.bk,h.tw,λy H=>?_,h.ms,c3 (f7 hm) h.mB,?_,λd hd=>?_⟩,hm⟩
 .rcases bT.mp H with q |q
  .exact h.wv y q
  .exact h.tw.vl _ y q
 .show(s.st++[_]).length+gs (put s.es t.toNat b)<=B;rw[a8,dW];have:=h.sB;lia
 .rcases bT.mp hd with q |q
  .obtain⟨z,I,e,J,x⟩:=h.sv d q;refine⟨z,I,e,J,?_⟩;show(put s.es t.toNat b).getD z.1.toNat ac=_;rw[gO s.es b (λq=>by rw[q,p8 A]at x;cases x)];exact x
  .exact⟨(t,b),w,dF.mp q,⟨C,E⟩,ko s.es b (by rw[h.es];lia)⟩
def GI(h:SpJ n c B rs s)(E:B+c<16777216)(x:0<=t)(H:t<(n:Int)):vg l [.int t,.bl b,w] (s.S rs).o=aa (((s.pt t b w).S rs).o,.non):=by
 have G:=BF h.tw.wk (t,b);have z:=h.mB;have A:=h.sB;have C:=h.es;apply lL;unfold vf;show wp _ [.deep (.at l (s.S rs).o),.im (.int t),.im (.bl b),.im w] _;apply ay;refine Qo (d:=.bl b) rfl rT rfl x (by rw[aH];show t<(s.es.length:Int);lia) ?_;have e:(s.es.map shD).set t.toNat (.bl b)=(put s.es t.toNat b).map shD:=by unfold put;rw[kP];rfl
 show wp _ [.deep (.at l (.ins "Spreading" spN [lsO ((s.es.map shD).set t.toNat (.bl b)),lsO s.st,lsO (s.bs.map bA),.dT ((gys rs.length s.bs.length).map wyK) (((gys rs.length s.bs.length).map (gdD rs s.bs)).map .fz),wsO (wtW s.tw),lsO (s.wt.map wyD),.fz (.lst (s.ms.map mkD))])),.im (.int t),.im (.bl b),.im w] _;rw[e]
 show wp _ [.deep (.at l (({s with es:=put s.es t.toNat b}:Spt).S rs).o),.im (.int t),.im (.bl b),.im w] _
 apply ay;refine Bo (d:=.tup [prD (t,b),w]) Pd (eV (ax (eV (ax rfl (ax rfl rfl))) (ax rfl rfl))) (by show s.st.length<_;lia) ?_
 show wp _ [.deep (.at l (({s with es:=put s.es t.toNat b,st:=s.st++[.tup [prD (t,b),w]]}:Spt).S rs).o),.im (.int t),.im (.bl b),.im w] _
 refine Qp oe (BA (tw:=s.tw) (p:=(t,b)) vB (eV (ax rfl (ax rfl rfl)))) (by show(s.wt.map wyD).length+((look s.tw (t,b)).map wyD).length<=_;rw[aH,aH];lia) ?_;refine⟨_,rfl,?_,rfl⟩;show _=((s.pt t b w).S rs).o;unfold Spt.pt Spt.S;dsimp only;rw[bO];rfl
abbrev puts(s:Spt)(w:D)(ps:List Pr):Spt:=ps.foldl (λs p=>s.pt p.1 p.2 w) s
structure eG(es:List (Option Bool))(ps:List Pr):Prop where
 nd:(ps.map (·.1)).Nodup
 op:∀z∈ps,(0<=z.1/\z.1<(es.length:Int))/\opn es z.1=ab
variable{ps:List Pr}
def eG.tail{z:Pr}(h:eG es (z::ps)):eG (put es z.1.toNat z.2) ps:=by
 obtain⟨A,C⟩:=cZ.mp h.nd;refine⟨C,λy x=>?_⟩;obtain⟨⟨a,b⟩,c⟩:=h.op y (bo _ x);have E:=(h.op z aN).1.1;refine⟨⟨a,by rw[d3];exact b⟩,?_⟩;rw[BH a E (λe=>A (bf.mpr ⟨y,x,e⟩))];exact c
def eG.pre{pre post:List Pr}(h:eG es (pre++post)):eG es pre:=⟨by have:=h.nd;rw[bO]at this;exact(gR.mp this).1,λz hz=>h.op z (fD _ hz)⟩
def sj{n c B:Nat}{rs:List Rul}{w:D}:∀{ps:List Pr} {s:Spt},SpJ n c B rs s->eG s.es ps->SpJ n c B rs (puts s w ps)/\Me c (puts s w ps)<=Me c s
 | [],_,h,_=>⟨h,aL _⟩
 |z::ps,s,h,k=>by
  obtain⟨⟨a,b⟩,e⟩:=k.op z aN;obtain⟨x,A⟩:=h.pt (w:=w) (b:=z.2) a (by rw[<- h.es];exact b) e;obtain⟨C,E⟩:=sj (w:=w) (ps:=ps) x k.tail;exact⟨C,c3 E (f7 A)⟩
def eG.post{w:D}:∀{pre:List Pr} {s:Spt} {post:List Pr},eG s.es (pre++post)->eG (puts s w pre).es post
 | [],_,_,h=>h
 |z::pre,s,post,h=>eG.post (w:=w) (pre:=pre) (s:=s.pt z.1 z.2 w) (eG.tail h)
variable{G:List Prt}
def Qs(h:prs G es=ac):∀p∈G,p.sure es=ab:=by
 have:=Gq es G;unfold prs at h
 cases e:G.foldl (pst es) ac with
 |none=>rw[e]at this;exact this
 |some l=>rw[e]at h;cases h
def vP{l:List Pr}(E:∀p∈G,p.Ok es.length)(h:prs G es=aa l):eG es l/\(∀z:Pr,z∈l↔(0<=z.1/\z.1<(es.length:Int))/\opn es z.1=ab/\∀p∈G,p.sure (put es z.1.toNat (!z.2))=ab)/\∃p∈G,p.sure es=ae:=by
 have:=Gq es G;unfold prs at h
 cases e:G.foldl (pst es) ac with
 |none=>rw[e]at h;cases h
 |some J=>
  rw[e]at h this;cases h;obtain⟨⟨q,I,x⟩,M,Q⟩:=this
  have hm:∀z:Pr,z∈J.map neg↔(z.1,!z.2)∈J:=λz=>by
   constructor
   .intro hz;obtain⟨y,T,rfl⟩:=bf.mp hz;unfold neg;dsimp only;rw[Bool.not_not];exact T
   .intro hz;refine bf.mpr ⟨_,hz,?_⟩;unfold neg;dsimp only;rw[Bool.not_not]
  have key:∀z:Pr,z∈J.map neg↔(0<=z.1/\z.1<(es.length:Int))/\opn es z.1=ab/\∀p∈G,p.sure (put es z.1.toNat (!z.2))=ab:=λz=>by
   rw[hm,M];constructor
   .intro a;obtain⟨H,L,_⟩:=(By (E q I) x _ _).mp (a q I x);refine⟨H,L,λp A=>?_⟩
    cases C:p.sure es with
    |true=>exact Gp (E p A) H.1 H.2 L _ C
    |false=>exact((By (E p A) C _ _).mp (a p A C)).2.2
   .rintro⟨a,b,c⟩ p A C;exact(By (E p A) C _ _).mpr ⟨a,b,c p A⟩
  refine⟨⟨?_,λz hz=>?_⟩,key,q,I,x⟩
  .rw[map_map];exact Q
  .obtain⟨a,b,_⟩:=(key z).mp hz;exact⟨a,b⟩
structure Grp(rs:List Rul)(es:List (Option Bool))(wo:List Bool):Prop where
 len:wo.length=es.length
 no:∀i,wo.getD i ae=ab->es.getD i ac≠aa ae
 up:∀r∈lM rs,wo.getD r.hd.toNat ae=ab->r.bodyLost es wo=ab
abbrev lP(es:List (Option Bool))(wo:List Bool):List (Option Bool):=(oa wo).foldl (λes t=>put es t.toNat ae) es
inductive Mvs(rs:List Rul)(bs:List (List Pr))(e0:List (Option Bool)):List (Option Bool)->Prop
 |refl:Mvs rs bs e0 e0
 |press {es:List (Option Bool)} {t:Int} {b:Bool} {y:Wy}:Mvs rs bs e0 es->y∈gys rs.length bs.length->0<=t->t<(es.length:Int)->opn es t=ab->(∀p∈cg rs bs y,p.sure (put es t.toNat (!b))=ab)->Mvs rs bs e0 (put es t.toNat b)
 |out {es:List (Option Bool)} {wo:List Bool}:Mvs rs bs e0 es->Grp rs es wo->(∀i,wo.getD i ae=ab->es.getD i ac=ac)->Mvs rs bs e0 (lP es wo)
variable{e0 e1 e2:List (Option Bool)}
def Mvs.trans{bs:List (List Pr)}(h:Mvs rs bs e0 e1)(h':Mvs rs bs e1 e2):Mvs rs bs e0 e2:=by
 induction h' with
 |refl=>exact h
 |press _ a b c d e x=>exact .press x a b c d e
 |out _ a b x=>exact .out x a b
def GJ{a:Bool}(h:i≠j):put (put es i a) j b=put (put es j b) i a:=by
 unfold put;exact set_comm _ _ h
def GK(z:0<=u)(x:0<=t)(h:u≠t)(e:opn es u=ab):opn (put es t.toNat b) u=ab:=by rw[BH z x h];exact e
def GL{rs:List Rul}{bs:List (List Pr)}{y:Wy}{w:D}(h:y∈gys rs.length bs.length):∀{ps:List Pr} {s:Spt},(∀p∈cg rs bs y,p.Ok s.es.length)->eG s.es ps->(∀z∈ps,∀p∈cg rs bs y,p.sure (put s.es z.1.toNat (!z.2))=ab)->Mvs rs bs s.es (puts s w ps).es
 | [],_,_,_,_=>.refl
 |z::ps,s,hG,k,hp=>by
  obtain⟨⟨a,b⟩,e⟩:=k.op z aN;obtain⟨C,H⟩:=cZ.mp k.nd;have A:Mvs rs bs s.es (s.pt z.1 z.2 w).es:=.press .refl h a b e (hp z aN);refine A.trans (GL h (ps:=ps) (s:=s.pt z.1 z.2 w) (λp q=>by show p.Ok (put s.es z.1.toNat z.2).length;rw[d3];exact hG p q) k.tail λx hx p q=>?_);obtain⟨⟨E,I⟩,J⟩:=k.op x (bo _ hx);have ne:z.1≠x.1:=λe=>C (bf.mpr ⟨x,hx,e.symm⟩);show p.sure (put (put s.es z.1.toNat z.2) x.1.toNat (!x.2))=ab;rw[GJ (by lia)];exact Gp (by rw[d3];exact hG p q) a (by rw[d3];exact b) (GK a E ne e) _ (hp x (bo _ hx) p q)
abbrev GM:Option Wy->D
 |none=>.non
 |some y=>wyD y
abbrev lrF(rs:List Rul):Nat->Spt->Option Wy×Spt
 | 0,s=>(ac,s)
 |k+1,s=>match s.wt with
  | []=>(ac,s)
  |y::wt=>match prs (cg rs s.bs y) s.es with
   |none=>(aa y,{s with wt:=wt})
   |some ps=>lrF rs k (puts {s with wt:=wt} (wyD y) ps)
def vQ(h:s.wt=[]):lrF rs (k+1) s=(ac,s):=by
 unfold lrF;rw[h]
def vR{wt:List Wy}(h:s.wt=y::wt)(e:prs (cg rs s.bs y) s.es=ac):lrF rs (k+1) s=(aa y,{s with wt:=wt}):=by
 unfold lrF;rw[h];dsimp only;rw[e]
def vS{wt:List Wy}(h:s.wt=y::wt)(e:prs (cg rs s.bs y) s.es=aa ps):lrF rs (k+1) s=lrF rs k (puts {s with wt:=wt} (wyD y) ps):=by
 rw[lrF];rw[h];dsimp only;rw[e]
def vT{bs:List (List Pr)}(z:∀r∈rs,RuK n r)(x:∀b∈bs,cF n b):∀p∈cg rs bs y,p.Ok n:=by
 obtain⟨a,j⟩:=y;intro p h
 cases a with
 |true=>exact(vO (GH x j) p h).1
 |false=>
  replace h:p∈((rs[j]?).map grd).getD []:=h
  cases e:rs[j]? with
  |none=>rw[e]at h;cases h
  |some r=>rw[e]at h;exact(rX (z r (dM e)) p h).1
def SpJ.pop{wt:List Wy}(h:SpJ n c B rs s)(e:s.wt=y::wt):SpJ n c B rs {s with wt:=wt}/\Me c {s with wt:=wt} < Me c s/\y∈gys rs.length s.bs.length:=by
 have hm:=h.mB;have x:s.wt.length=wt.length+1:=by rw[e];rfl
 refine⟨⟨h.es,h.bk,h.tw,λz hz=>h.wv z (by rw[e];exact bo _ hz),h.ms,?_,h.sB,h.sv⟩,?_,h.wv y (by rw[e];exact aN)⟩
 .show gs s.es*(c+1)+wt.length<=B;lia
 .show gs s.es*(c+1)+wt.length<gs s.es*(c+1)+s.wt.length;lia
def BI(w:D):∀(ps:List Pr) (s:Spt),(puts s w ps).bs=s.bs/\(puts s w ps).tw=s.tw/\(puts s w ps).ms=s.ms
 | [],_=>⟨rfl,rfl,rfl⟩
 |z::ps,s=>BI w ps (s.pt z.1 z.2 w)
structure Qt(n c B:Nat)(rs:List Rul)(s:Spt)(R:Option Wy×Spt):Prop where
 ok:SpJ n c B rs R.2
 bs:R.2.bs=s.bs
 mv:Mvs rs s.bs s.es R.2.es
 no:R.1=ac->R.2.wt=[]
 ye:∀y,R.1=aa y->y∈gys rs.length s.bs.length/\∀p∈cg rs s.bs y,p.sure R.2.es=ab
 le:Me c R.2<=Me c s
def vU{n c B:Nat}{rs:List Rul}(I:∀r∈rs,RuK n r):∀(k:Nat) (s:Spt),SpJ n c B rs s->Me c s<k->Qt n c B rs s (lrF rs k s)
 | 0,_,_,h=>absurd h (jd _)
 |k+1,s,h,hk=>by
  cases A:s.wt with
  |nil=>
   rw[vQ A]
   exact⟨h,rfl,.refl,(λ_=>A),(λy e=>by cases e),aL _⟩
  |cons y wt=>
   obtain⟨E,M,J⟩:=h.pop A;have H:∀p∈cg rs s.bs y,p.Ok s.es.length:=by rw[h.es];exact vT I h.bk
   cases C:prs (cg rs s.bs y) s.es with
   |none=>
    rw[vR A C]
    exact⟨E,rfl,.refl,(λz=>by cases z),(λz e=>by cases e;exact⟨J,Qs C⟩),f7 M⟩
   |some ps=>
    rw[vS A C];obtain⟨L,Q,_⟩:=vP H C;obtain⟨T,U⟩:=sj (w:=wyD y) E L
    obtain⟨e1,_,_⟩:=BI (wyD y) ps {s with wt:=wt}
    have x:=vU I k _ T (by lia)
    have m1:Mvs rs s.bs s.es (puts {s with wt:=wt} (wyD y) ps).es:=GL J (s:={s with wt:=wt}) H L λz hz=>((Q z).mp hz).2.2
    replace e1:(puts {s with wt:=wt} (wyD y) ps).bs=s.bs:=e1
    refine⟨x.ok,x.bs.trans e1,m1.trans (by have:=x.mv;rw[e1]at this;exact this),x.no,λz e=>?_,by have:=x.le;lia⟩;have:=x.ye z e;rw[e1]at this;exact this
def Qu{m:LD->Option (LD ⊕ D)}{f:MF2}{x:Option (List Pr)}(h:f ρ=aa ds)(h':m ds=aa (Bw x)):rm m f ρ=aa (kz x):=by
 unfold rm;rw[h,aA,h',aA]
 cases x with
 |none=>rfl
 |some l=>
  show(if (l.map prD).all D.flat=ab then aa (D.lst (l.map prD)) else ac)=_;rw[if_pos (all_eq_true.mpr λd hd=>by obtain⟨z,_,rfl⟩:=bf.mp hd;rfl)];rfl
def Qv{wt:List Wy}(h:s.wt=y::wt):uA 0 (bv "Spreading" "waiting" (aX 0)) (.deep (.at l (s.S rs).o)::ρ)=aa (wyD y,.deep (.at l (({s with wt:=wt}:Spt).S rs).o)::ρ):=by
 unfold uA;rw[oe,aA];show((lsO (s.wt.map wyD)).pop0).map _=_;rw[h];rfl
def Qw(U:∀r∈rs,RuK n r)(Q:B+c<16777216)(h:SpJ n c B rs s)(T:Me c s<k)(M:k<1000000000):AX l [] (s.S rs).o=aa (((lrF rs k s).2.S rs).o,GM (lrF rs k s).1):=by
 apply lL;unfold vp;show wp _ [.deep (.at l (s.S rs).o),.no,.no,.no,.no] _;apply ay;refine qW (λm ρ=>∃s' v1 I e x,ρ=[.deep (.at l (Spt.S rs s').o),v1,I,e,x]/\SpJ n c B rs s'/\Me c s'<m/\lrF rs m s'=lrF rs k s) ?_ _ k _ ⟨s,_,_,_,_,rfl,h,T,rfl⟩ M;rintro m ρ ⟨s',v1,I,e,x,rfl,h',hm,E⟩
 cases m with
 |zero=>exact absurd hm (jd _)
 |succ m=>
  cases A:s'.wt with
  |nil=>
   refine⟨ae,iA (oh oe) (by show qI (.lst (s'.wt.map wyD))=_;rw[A];rfl),(λz=>by cases z),λ_=>?_⟩;rw[<- E,vQ A]
   exact pZ (d:=.non) rfl ⟨_,rfl,rfl,rfl⟩
  |cons y wt=>
   obtain⟨J,h2,Y⟩:=h'.pop A;have L:∀p∈cg rs s'.bs y,p.Ok s'.es.length:=by rw[h'.es];exact vT U h'.bk
   refine⟨ab,iA (oh oe) (by show qI (.lst (s'.wt.map wyD))=_;rw[A];rfl),λ_=>?_,λz=>by cases z⟩;apply ay;refine si (Qv A) ?_
   show wp _ [.deep (.at l (({s' with wt:=wt}:Spt).S rs).o),.im (wyD y),I,e,x] _
   apply ay
   refine bM (d:=kz (prs (cg rs s'.bs y) s'.es)) (Qu (ax (P9 (s:={s' with wt:=wt}) Y rfl) (ax (oh rT) rfl)) (P1 _ L)) ?_
   show wp _ [.deep (.at l (({s' with wt:=wt}:Spt).S rs).o),.im (wyD y),.im (kz (prs (cg rs s'.bs y) s'.es)),e,x] _
   apply ay
   cases H:prs (cg rs s'.bs y) s'.es with
   |none=>
    refine bq (b:=ab) rfl (λ_=>?_) (λz=>by cases z);rw[<- E,vR A H]
    exact pZ (d:=wyD y) rfl ⟨_,rfl,rfl,rfl⟩
   |some ps=>
    obtain⟨C,p2,_⟩:=vP L H;obtain⟨q1,q2⟩:=sj (w:=wyD y) J C;refine bq (b:=ae) rfl (λz=>by cases z) (λ_=>ca ?_)
    refine eE ps prD (λpre ρ=>∃e x,ρ=[.deep (.at l ((puts {s' with wt:=wt} (wyD y) pre).S rs).o),.im (wyD y),.im (.lst (ps.map prD)),e,x]) rfl ⟨_,_,rfl⟩ ?_ ?_
    .rintro pre z post ρ ex ⟨e,x,rfl⟩;rw[ex]at C;obtain⟨r1,_⟩:=sj (w:=wyD y) J C.pre;obtain⟨⟨z0,z1⟩,_⟩:=C.op z (by simp);refine⟨_,rfl,?_⟩;walk_at "nrm";refine p7 (lK rfl rfl (i7 (d:=.int z.1) rfl (i7 (d:=.bl z.2) rfl (i7 (d:=wyD y) rfl rfl))) rfl (GI r1 Q z0 (by rw[<- h'.es];exact z1))) ?_;refine⟨.im (.int z.1),.im (.bl z.2),?_⟩;unfold puts;rw[fE];rfl
    .rintro ρ ⟨e,x,rfl⟩;refine⟨m,dh _,_,_,_,_,_,rfl,q1,by lia,?_⟩;rw[<- E,vS A H]
abbrev slf(es:List (Option Bool))(a b c d e:D)(ms:List Rul):D:=.ins "Spreading" spN [.lst (es.map shD),a,b,c,d,e,.lst (ms.map mkD)]
abbrev fdL(r:Rul)(es:List (Option Bool))(wo:List Bool):D:=Bt (r.ps.find? λp=>p.lost es wo)
variable{a b c e:D}
def Qx(hok:∀r∈ms,r.Ok es.length)(x:wo.length=es.length)(hz:ms.length<=1000):A6 [slf es a b c d e ms,.int t,.lst (wo.map D.bl)]=aa (.lst ((ms.filter λr=>r.hd==t).map λr=>fdL r es wo)):=
 pA (congrArg (kZ Fl.rtO) (jA ms mkD (λr=>r.hd==t) (λr=>fdL r es wo) rfl (by lia) λr h=>gH rfl (cK (aP rfl rfl (by show dEq (.int r.hd) (.int t)=_;rfl))) λ_=>aS rfl (F9 r.ps (hok r h).ps x)))
abbrev kpL(p:Prt)(es:List (Option Bool))(wo:List Bool):List Int:=if p.lost es ((bI es.length).map (inS [])) then [] else (nmL p).filter λt=>wo.getD t.toNat ae
variable{p:Prt}
def Qy(h:p.Ok es.length)(hn:es.length<=60)(hm:(nmP p).length<=1000)(E:wo.length=es.length):A4 [slf es a b c d e ms,p.obj,.lst (wo.map D.bl)]=aa (.lst ((kpL p es wo).map D.int)):=by
 have x:m_7 [.int es.length,.lst []]=aa (.lst (((bI es.length).map (inS [])).map D.bl)):=by
  have:=O8 es.length [] (by lia) (by lia) (by decide);rw[eI]at this;exact this
 have C:=rW h hn;apply hZ;unfold vq;show wp _ [.im (slf es a b c d e ms),.im p.obj,.im (.lst (wo.map D.bl))] _;apply ay;refine bq (iA (FN (ws:=(bI es.length).map (inS [])) p h (by rw[aH,cT]) rfl (ax rfl (ax (aS (ax (aS rfl (ib es shD)) rfl) x) rfl))) rfl) (λz=>?_) (λz=>ca ?_)
 .refine hX (d:=[]) rfl (gi ?_);unfold kpL;rw[if_pos z];rfl
 .refine hX (d:=((nmL p).filter λt=>wo.getD t.toNat ae).map D.int) (jA (nmL p) D.int (λt=>wo.getD t.toNat ae) D.int (dn (FU p h hn hm rfl) rfl) (by lia) λt A=>gH rfl (iA (aT rfl rfl (qS (rV h t (vE.mp A)).1 (by rw[E];exact(rV h t (vE.mp A)).2))) rfl) λ_=>rfl) (gi ?_);unfold kpL;rw[if_neg (by rw[z];exact ba)]
def Qz(p:Prt):(nmL p).Nodup:=by
 cases p with
 |inn t=>exact cZ.mpr ⟨(λh=>nomatch h),f6⟩
 |out t=>exact cZ.mpr ⟨(λh=>nomatch h),f6⟩
 |least k its=>exact(nY _).imp λh=>by lia
 |most k its=>exact(nY _).imp λh=>by lia
structure KOk(n:Nat)(wo:List Bool)(fd:List Int):Prop where
 nd:fd.Nodup
 el:∀x∈fd,(0<=x/\x<(n:Int))/\wo.getD x.toNat ae=ab
variable{fd:List Int}
def KOk.len(h:KOk n wo fd):fd.length<=n:=GD h.nd λx hx=>(h.el x hx).1
def KOk.more(h:KOk n wo fd)(H:p.Ok n):KOk n wo (fd++(kpL p es wo).filter λt=>!(fd.any λx=>x==t)):=by
 have C:(kpL p es wo).Sublist (nmL p):=by
  unfold kpL;split
  .exact nil_sublist _
  .exact qk
 refine⟨gR.mpr ⟨h.nd,(wn C (Qz p)).sublist qk,λx hx y I e=>?_⟩,λx hx=>?_⟩
 .have:=(dX.mp I).2;have E:(fd.any λz=>z==y)=ab:=any_eq_true.mpr ⟨x,hx,by rw[e];exact beq_self_eq_true y⟩;rw[E]at this;cases this
 .rcases bT.mp hx with q |q
  .exact h.el x q
  .have A:=(dX.mp q).1;refine⟨rV H x (vE.mp (C.subset A)),?_⟩;unfold kpL at A;split at A
   .cases A
   .exact(dX.mp A).2
def QA(xs:List Int)(i:Int):pf (.int i) (.lst (xs.map D.int))=aa (.bl (!(xs.any λx=>x==i))):=by
 unfold pf inD;show kZ _ (if ((D.int i).scalar && (xs.map D.int).all D.scalar)=ab then aa ((xs.map D.int).any λd=>eqX d (.int i)) else ac)=_;rw[if_pos (by rw[sD];exact(cx _ _).mpr ⟨rfl,all_eq_true.mpr λ_ _=>rfl⟩),any_map];rfl
def QB{n m:Int}(h:ρ[i]?=aa (.im (.int n)))(k:K (.nx (ρ.set i (.im (.int (n+m)))))):wp (q9 i (mX λ_=>aa (.int m))) ρ K:=⟨_,by
 unfold q9;rw[h];rfl,k⟩
def QC(hn:es.length<=60)(hok:∀r∈ms,r.Ok es.length)(hnm:∀r∈ms,∀p∈r.ps,(nmP p).length<=1000)(hw:wo.length=es.length)(hz:ms.length<=1000)(hl:∀r∈ms,wo.getD r.hd.toNat ae=ab->r.bodyLost es wo=ab)(t0:0<=t)(t1:t<(es.length:Int))(ht:wo.getD t.toNat ae=ab):
  ∃ks:List Int,o_4 [slf es a b c d e ms,.int t,.lst (wo.map D.bl)]=aa (ks.map D.int)/\ks.length<=60:=by
 suffices h:wp b_4 (eU 6 [slf es a b c d e ms,.int t,.lst (wo.map D.bl)]) (λr=>∃ks:List Int,r=.rtO (ks.map D.int)/\ks.length<=60) by
  obtain⟨r,e,ks,rfl,h⟩:=h;exact⟨ks,yE e,h⟩
 unfold b_4;show wp _ [.im (slf es a b c d e ms),.im (.int t),.im (.lst (wo.map D.bl)),.no,.no,.no] _;apply ay;refine kh (d:=[.int t]) rfl ?_;walk_at "nrm";apply ay;refine bM (d:=.int 0) rfl ?_;walk_at "nrm";apply ay;refine qW (λm ρ=>∃(fd:List Int) (pl:Nat) (C:Sl),ρ=[.im (slf es a b c d e ms),.im (.int t),.im (.lst (wo.map D.bl)),.own (fd.map D.int),.im (.int pl),C]/\KOk es.length wo fd/\pl<=fd.length/\m+pl=61) ?_ _ 61 _ ⟨[t],0,_,rfl,⟨cZ.mpr ⟨(λh=>nomatch h),f6⟩,λx hx=>by rw[dF.mp hx];exact⟨⟨t0,t1⟩,ht⟩⟩,c4 _,rfl⟩ (by decide);rintro m ρ ⟨fd,pl,C,rfl,L,hp,hm⟩;have hfl:=L.len;refine⟨decide ((pl:Int)<fd.length),cK (aP rfl (aS rfl (ib fd D.int)) rfl),λz=>?_,λz=>?_⟩
 .have Y:pl<fd.length:=by have:=of_decide_eq_true z;lia
  obtain⟨x,hx⟩:∃x,fd[pl]?=aa x:=⟨_,cj Y⟩;obtain⟨⟨x0,x1⟩,xw⟩:=L.el x (dM hx)
  have T:atI (fd.map D.int) (pl:Int)=aa (.int x):=by
   rw[nU 0 (by lia) (by lia),eI,bD,hx];rfl
  apply ay;refine eE (ms.filter λr=>r.hd==x) (λr=>fdL r es wo) (λpre ρ=>∃(A:List Int) (C:Sl),ρ=[.im (slf es a b c d e ms),.im (.int t),.im (.lst (wo.map D.bl)),.own (A.map D.int),.im (.int pl),C]/\KOk es.length wo A/\fd.length<=A.length) (dn ((dS rfl rfl (ax (aT rfl rfl T) (ax rfl rfl))).trans (Qx hok hw hz)) rfl) ⟨fd,C,rfl,L,aL _⟩ ?_ ?_
  .rintro pre r post ρ ex ⟨A,C,rfl,E,U⟩;have hrm:r∈ms.filter λr=>r.hd==x:=by rw[ex];simp
   obtain⟨hr,I⟩:=dX.mp hrm;have I:r.hd=x:=by simpa using I
   have hb:=hl r hr (by rw[I];exact xw)
   obtain⟨p,Q,hp2⟩:∃p,p∈r.ps/\fdL r es wo=p.obj:=by
    unfold fdL
    cases hf:r.ps.find? (λp=>p.lost es wo)with
    |none=>
     have:=Ga (es:=es) (wo:=wo) r;rw[hf,hb]at this
     cases this
    |some p=>exact⟨p,mem_of_find?_eq_some hf,rfl⟩
   have H:=(hok r hr).ps p Q;have M:=E.more (es:=es) H;have J:=M.len;rw[a8]at J;refine⟨_,rfl,?_⟩;walk_at "nrm";rw[hp2];refine⟨_,Ps (ds:=((kpL p es wo).filter λt=>!(A.any λx=>x==t)).map D.int) (bV (jA (kpL p es wo) D.int (λt=>!(A.any λx=>x==t)) D.int (dn ((dS rfl rfl (ax rfl (ax rfl rfl))).trans (Qy H hn (hnm r hr p Q) hw)) rfl) ?_ λy _=>gH rfl (cK (aP rfl rfl (QA A y))) λ_=>rfl)) rfl (by rw[aH,aH];lia),?_⟩
   .have:(kpL p es wo).length<=(nmL p).length:=by
     unfold kpL;split
     .exact c4 _
     .exact kM _ _
    have:=rW H hn;lia
   .refine⟨_,.im p.obj,?_,M,?_⟩
    .rw[bO];rfl
    .rw[a8];lia
  .rintro ρ ⟨A,C,rfl,E,U⟩;refine QB rfl ?_;exact⟨m-1,by lia,A,pl+1,C,rfl,E,by lia,by lia⟩
 .refine jC rfl ?_;refine hX (Mn (ns:=fd) rfl (by lia) L.nd) ⟨_,rfl,?_⟩;exact c3 (Br (n:=es.length) λx hx=>(L.el x hx).1) hn
abbrev iE{h:Type}:Nat->List h->List (Nat×h)
 | _,[]=>[]
 |i,x::xs=>(i,x)::iE (i+1) xs
def BJ{h:Type}(f:h->D):∀(i:Nat) (xs:List h),iB i (xs.map f)=(iE i xs).map λp=>D.tup [.int p.1,f p.2]
 | _,[]=>rfl
 |i,x::xs=>by rw[bp,iB,BJ f (i+1) xs];rfl
def vV{h:Type}:∀(i:Nat) (xs:List h) (j:Nat),(iE i xs)[j]?=(xs[j]?).map λx=>(i+j,x)
 | _,[],_=>rfl
 |i,x::xs,0=>rfl
 |i,x::xs,j+1=>by rw[iE,eJ,eJ,vV (i+1) xs j,show i+1+j=i+(j+1) by lia]
def vW{A:Type}{xs:List A}{p:Nat×A}(h:p∈iE 0 xs):xs[p.1]?=aa p.2:=by
 obtain⟨j,z⟩:=ou h;rw[vV]at z
 cases e:xs[j]? with
 |none=>rw[e]at z;cases z
 |some x=>
  rw[e]at z;cases z;rw[lV];exact e
def GN{h:Type}:∀(i:Nat) (xs:List h),(iE i xs).length=xs.length
 | _,[]=>rfl
 |i,x::xs=>by rw[iE,cp,cp,GN (i+1) xs]
abbrev inL(es:List (Option Bool))(wo:List Bool):List Int:=((iE 0 es).filter λp=>wo.getD p.1 ae && p.2==aa ab).map λp=>(p.1:Int)
abbrev jO(wo:List Bool):List Int:=((iE 0 wo).filter λp=>p.2).map λp=>(p.1:Int)
def QD(wo:List Bool):iE 0 wo=(bI wo.length).map λi=>(i,wo.getD i ae):=by
 apply lT;intro j;rw[vV,cA]
 by_cases h:j<wo.length
 .rw[cj h,qg h];simp[bD,cj h]
 .rw[cY (by lia),cY (by rw[cT];lia)];rfl
def vX(wo:List Bool):jO wo=oa wo:=by
 unfold jO oa;rw[QD,filter_map,map_map];rfl
def GO:∀(ws:Wss),O.kns (ws.map λp=>lsO p.2)=ab
 | []=>by rw[map_nil,O.kns]
 |p::ws=>by rw[bp,O.kns,GO ws,lsO,O.kn,mH];rfl
abbrev Spt.D(rs:List Rul)(s:Spt):L2.D:=(s.S rs).o.toD
def QE(rs:List Rul)(s:Spt):∃a b c d e,s.D rs=slf s.es a b c d e s.ms:=by
 refine⟨.lst s.st,.lst (s.bs.map bA),(O.dT ((gys rs.length s.bs.length).map wyK) (((gys rs.length s.bs.length).map (gdD rs s.bs)).map .fz)).toD,(wsO (wtW s.tw)).toD,.lst (s.wt.map wyD),?_⟩;unfold Spt.D Spr.o Spt.S slf;dsimp only;simp only[lsO,O.toD,O.toDs,C5]
def QF(rs:List Rul)(s:Spt):(s.S rs).o.kn=ab:=by
 unfold Spr.o Spt.S lsO wsO;dsimp only;rw[O.kn,O.kns,O.kns,O.kns,O.kns,O.kns,O.kns,O.kns,O.kns,O.kn,O.kn,O.kn,O.kn,O.kn,O.kn,O.kn,mH,mH,mH,mH,GO,mH];rfl
def GP:g4 0 (.deep (.at l (s.S rs).o)::ρ)=aa (s.D rs):=by
 show(if (O.at l (s.S rs).o).kn=ab then aa (O.at l (s.S rs).o).toD else ac)=_;rw[O.kn,QF,if_pos rfl,O.toD];rfl
abbrev BK(rs:List Rul)(s:Spt)(wo:List Bool)(t:Int):LD:=(o_4 [s.D rs,.int t,.lst (wo.map D.bl)]).getD []
abbrev kB(rs:List Rul)(s:Spt)(wo:List Bool)(t:Int):D:=.tup [.str "group",.lst (BK rs s wo t)]
structure jP(n:Nat)(ms:List Rul):Prop where
 ok:∀r∈ms,r.Ok n
 nm:∀r∈ms,∀p∈r.ps,(nmP p).length<=1000
 ne:∀r∈ms,r.w≠.never
 len:ms.length<=1000
def jP.of(x:∀r∈rs,RuK n r)(hz:rs.length<=1000)(h:ms.Perm (lM rs)):jP n ms:=by
 have hm:∀r∈ms,r∈rs/\r.w≠.never:=λr q=>by
  obtain⟨a,b⟩:=dX.mp (h.mem_iff.mp q);exact⟨a,λe=>by rw[e]at b;cases b⟩
 exact⟨λr q=>(x r (hm r q).1).ok,λr q=>(x r (hm r q).1).nm,λr q=>(hm r q).2,by rw[h.length_eq];exact c3 (kM _ _) hz⟩
abbrev GpL(ms:List Rul)(es:List (Option Bool))(wo:List Bool):Prop:=wo.length=es.length/\∀r∈ms,wo.getD r.hd.toNat ae=ab->r.bodyLost es wo=ab
def GpL.up(h:GpL ms es wo)(f:bH es es')(hok:∀r∈ms,r.Ok es.length):GpL ms es' wo:=⟨by rw[h.1,f.len],λr x C=>uc (λp A z=>DY f (pH.refl _) ((hok r x).ps p A) z) (h.2 r x C)⟩
def GQ{b:Bool}(x:0<=t)(h:opn es t=ab):bH es (put es t.toNat b):=by
 refine⟨d3 _ _ _,λi=>?_⟩
 by_cases e:i=t.toNat
 .rw[e];exact .inl (p8 h)
 .exact .inr (gO es b e)
def GR(hn:n<=60)(h:s.es.length=n)(hm:jP n s.ms)(x:GpL s.ms s.es wo)(J:0<=t)(L:t<(n:Int))(I:wo.getD t.toNat ae=ab)(H:fo ρ=aa (s.D rs))(ha:fa ρ=aa [.int t,.lst (wo.map D.bl)]):
  pU "Spreading" "kernel" o_4 fo fa ρ=aa (BK rs s wo t):=by
 obtain⟨a,b,c,d,e,C⟩:=QE rs s;obtain⟨ks,E,_⟩:=QC (a:=a) (b:=b) (c:=c) (d:=d) (e:=e) (by lia) (by rw[h];exact hm.ok) hm.nm x.1 hm.len x.2 J (by rw[h];exact L) I;unfold pU;rw[H,aA];unfold BK;rw[C];show(if "Spreading"="Spreading" /\ spN.contains "kernel"=ae then (fa ρ).bind λA=>(o_4 (slf s.es a b c d e s.ms::A)).bind λrs=>if rs.all D.flat then aa rs else ac else ac)=_;rw[if_pos ⟨rfl,rfl⟩,ha,aA,E,aA,if_pos (all_eq_true.mpr λd hd=>by obtain⟨z,_,rfl⟩:=bf.mp hd;rfl)];rfl
abbrev fY(rs:List Rul)(wo:List Bool)(s:Spt)(ts:List Int):Spt:=ts.foldl (λs t=>s.pt t ae (kB rs s wo t)) s
def vY{n c B:Nat}{rs:List Rul}{wo:List Bool}:∀{ts:List Int} {s:Spt},SpJ n c B rs s->eG s.es (ts.map λt=>(t,ae))->SpJ n c B rs (fY rs wo s ts)/\Me c (fY rs wo s ts)+ts.length<=Me c s/\(fY rs wo s ts).es=ts.foldl (λes t=>put es t.toNat ae) s.es/\bH s.es (fY rs wo s ts).es/\(fY rs wo s ts).bs=s.bs/\(fY rs wo s ts).ms=s.ms
 | [],s,h,_=>⟨h,aL _,rfl,bH.refl _,rfl,rfl⟩
 |t::ts,s,h,k=>by
  obtain⟨⟨a,b⟩,e⟩:=k.op (t,ae) aN;obtain⟨A,C⟩:=h.pt (w:=kB rs s wo t) (b:=ae) a (by rw[<- h.es];exact b) e;obtain⟨H,I,L,x,M,Q⟩:=vY (wo:=wo) (ts:=ts) A k.tail;refine⟨H,?_,L,?_,M,Q⟩
  .have J:Me c (fY rs wo (s.pt t ae (kB rs s wo t)) ts)+ts.length<=Me c (s.pt t ae (kB rs s wo t)):=I;have E:Me c (s.pt t ae (kB rs s wo t))<Me c s:=C;show Me c (fY rs wo (s.pt t ae (kB rs s wo t)) ts)+(ts.length+1)<=_;lia
  .have f1:bH s.es (put s.es t.toNat ae):=GQ a e;refine⟨x.len.trans f1.len,λi=>?_⟩
   rcases f1.at' i with q |q
   .exact .inl q
   .rcases x.at' i with z |z
    .exact .inl (q.symm.trans z)
    .exact .inr (z.trans q)
def psT{pre post:List Int}(h:eG es ((pre++post).map λt=>(t,ae))):eG es (pre.map λt=>(t,ae)):=by
 rw[bO]at h;exact h.pre
abbrev reM(s:Spt):Spt:={s with ms:=(cf s.es s.ms).2.1++(cf s.es s.ms).2.2}
abbrev ci(rs:List Rul)(s:Spt):OD×Spt:=match inL s.es (cf s.es s.ms).1 with
 |x::_=>(aa (kB rs (reM s) (cf s.es s.ms).1 x),reM s)
 | []=>(ac,fY rs (cf s.es s.ms).1 (reM s) (jO (cf s.es s.ms).1))
variable{c:Nat}
def SpJ.rem'(h:SpJ n c B rs s)(hm:jP n s.ms):SpJ n c B rs (reM s)/\GpL s.ms s.es (cf s.es s.ms).1/\(reM s).ms.Perm s.ms/\∀i,(cf s.es s.ms).1.getD i ae=ab->s.es.getD i ac≠aa ae:=by
 obtain⟨z,E⟩:=Gf (es:=s.es) hm.ne;have pm:((cf s.es s.ms).2.1++(cf s.es s.ms).2.2).Perm s.ms:=by have:=z.pm;rw[cB]at this;exact this
 refine⟨⟨h.es,h.bk,h.tw,h.wv,pm.trans h.ms,h.mB,h.sB,h.sv⟩,⟨z.len,λr A C=>?_⟩,pm,λi hi e=>?_⟩
 .have:=E r A;unfold i8 at this;rw[C,qe]at this
  simpa using this
 .have:=z.pe.sub i hi;unfold jJ at this;rw[bD,cA]at this;rw[bD]at e
  cases h:s.es[i]? with
  |none=>rw[h]at e;cases e
  |some x=>
   rw[h]at e this;have e:x=aa ae:=e;rw[e]at this;cases this
def GpL.grp(h:GpL ms es wo)(pm:ms.Perm (lM rs))(hn:∀i,wo.getD i ae=ab->es.getD i ac≠aa ae):Grp rs es wo:=⟨h.1,hn,λr x=>h.2 r (pm.mem_iff.mpr x)⟩
def QG:t∈jO wo↔0<=t/\wo.getD t.toNat ae=ab:=by rw[vX];exact vA wo t
def QH(wo:List Bool):(jO wo).Nodup:=by
 rw[vX];unfold oa;exact wq _ (λa b h e=>h (by lia)) (nodup_range.filter _)
def GS(h:inL es wo=[])(i:Nat)(z:wo.getD i ae=ab):es.getD i ac≠aa ab:=λe=>by
 rw[bD]at e
 cases hx:es[i]? with
 |none=>rw[hx]at e;cases e
 |some x=>
  rw[hx]at e;have e:x=aa ab:=e;have hm:(i,x)∈iE 0 es:=dM (i:=i) (by rw[vV,hx];simp);have:(i:Int)∈inL es wo:=bf.mpr ⟨(i,x),dX.mpr ⟨hm,by rw[z,e];rfl⟩,rfl⟩;rw[h]at this;cases this
def vZ(H:wo.length=es.length)(h:inL es wo=[])(hn:∀i,wo.getD i ae=ab->es.getD i ac≠aa ae):eG es ((jO wo).map λt=>(t,ae)):=by
 refine⟨by rw[map_map];have:=QH wo;simpa[Function.comp_def]using this,λz hz=>?_⟩;obtain⟨t,C,rfl⟩:=bf.mp hz;obtain⟨E,tw⟩:=QG.mp C
 have lt:t.toNat<wo.length:=by
  refine wx λq=>?_;rw[bD,cY q]at tw;cases tw
 refine⟨⟨E,by show t<_;lia⟩,?_⟩;unfold opn;have x:=GS h _ tw;have A:=hn _ tw;show(es.getD t.toNat ac==ac)=ab
 cases hx:es.getD t.toNat ac with
 |none=>rfl
 |some b=>cases b with
  |true=>exact absurd hx x
  |false=>exact absurd hx A
def BL(U:∀r∈rs,RuK n r)(hz:rs.length<=1000)(h:SpJ n c B rs s):SpJ n c B rs (ci rs s).2/\(ci rs s).2.bs=s.bs/\Mvs rs s.bs s.es (ci rs s).2.es/\Me c (ci rs s).2<=Me c s/\((ci rs s).1=ac->s.wt=[]->(ci rs s).2.wt≠[]->Me c (ci rs s).2<Me c s)/\((ci rs s).1≠ac->∃wo,Grp rs (ci rs s).2.es wo/\∃i,wo.getD i ae=ab/\(ci rs s).2.es.getD i ac=aa ab):=by
 have hm:=jP.of U hz h.ms;obtain⟨L,H,pm,z⟩:=h.rem' hm;unfold ci
 cases E:inL s.es (cf s.es s.ms).1 with
 |cons x xs=>
  dsimp only;refine⟨L,rfl,.refl,aL _,(λe=>by cases e),λ_=>⟨_,H.grp h.ms z,?_⟩⟩;have hx:x∈inL s.es (cf s.es s.ms).1:=by rw[E];exact aN
  obtain⟨p,T,rfl⟩:=bf.mp hx;obtain⟨I,J⟩:=dX.mp T;have Q:=vW I;have ⟨h4,h5⟩:=(cx _ _).mp J;refine⟨p.1,h4,?_⟩;show s.es.getD p.1 ac=aa ab;rw[bD,Q]
  exact eq_of_beq h5
 |nil=>
  dsimp only;have ps:=vZ H.1 E z;obtain⟨o1,o2,o3,o4,o5,o6⟩:=vY (wo:=(cf s.es s.ms).1) (s:=reM s) L ps;have C:Me c (fY rs (cf s.es s.ms).1 (reM s) (jO (cf s.es s.ms).1))+(jO (cf s.es s.ms).1).length<=Me c s:=o2;refine⟨o1,o5,?_,by lia,λ_ Y A=>?_,λe=>absurd rfl e⟩
  .rw[o3,vX];refine .out .refl (H.grp h.ms z) λi hi=>?_;show s.es.getD i ac=ac
   cases hx:s.es.getD i ac with
   |none=>rfl
   |some b=>cases b with
    |true=>exact absurd hx (GS E i hi)
    |false=>exact absurd hx (z i hi)
  .cases M:jO (cf s.es s.ms).1 with
   |nil=>
    rw[M]at A
    exact absurd Y A
   |cons t ts=>
    rw[M]at C;rw[cp]at C;lia
def QI(hr:∀r∈rs,RuK n r)(hz:rs.length<=1000)(hn:n<=60)(hB:B+c<16777216)(h:SpJ n c B rs s):A7 l [] (s.S rs).o=aa (((ci rs s).2.S rs).o,(ci rs s).1.getD .non):=by
 have hm:=jP.of hr hz h.ms;obtain⟨h1,M,pm,Y⟩:=h.rem' hm;have I:(s.S rs).es=s.es:=rfl;have A:=h.es;have mk:=PN (l:=l) (s:=s.S rs) (ms:=s.ms) rfl (by rw[I];lia) (by rw[I,A];exact hm.ok) hm.ne hm.len;have C:jP n (reM s).ms:=⟨λr q=>hm.ok r (pm.mem_iff.mp q),λr q=>hm.nm r (pm.mem_iff.mp q),λr q=>hm.ne r (pm.mem_iff.mp q),by rw[pm.length_eq];exact hm.len⟩;have E:GpL (reM s).ms s.es (cf s.es s.ms).1:=⟨M.1,λr q=>M.2 r (pm.mem_iff.mp q)⟩;have H:=M.1;unfold ci;generalize hwo:(cf s.es s.ms).1=wo at *;apply lL;unfold vv;show wp _ [.deep (.at l (s.S rs).o),.no,.no,.no,.no] _;apply ay;refine si (lK rfl rfl rfl rfl mk) ?_;show wp _ [.deep (.at l ((reM s).S rs).o),.im (.lst ((cf s.es s.ms).1.map D.bl)),.no,.no,.no] _;rw[hwo];apply ay;refine bM (d:=.lst ((inL s.es wo).map D.int)) (bV ?_) ?_
 .unfold inL;rw[map_map];refine jA (iE 0 s.es) (λp=>D.tup [.int p.1,shD p.2]) (λp=>wo.getD p.1 ae && p.2==aa ab) (λp=>D.int p.1) ?_ (by rw[GN];lia) λp hp=>?_
  .rw[<- BJ];show(pC (bv "Spreading" "sheet" (aX 0)) _).map (iB 0)=_;rw[Bm rT];rfl
  .have U:p.1<s.es.length:=(dq.mp (vW hp)).1;refine gH rfl (xU (iA (aT rfl rfl (qS (by lia) (by lia))) rfl) (cK (aP rfl rfl ?_))) λ_=>rfl;obtain⟨i,x⟩:=p
   cases x with
   |none=>rfl
   |some b=>cases b <;> rfl
 .show wp _ [.deep (.at l ((reM s).S rs).o),.im (.lst (wo.map D.bl)),.no,.im (.lst ((inL s.es wo).map D.int)),.no] _;apply ay
  cases hL:inL s.es wo with
  |cons x xs=>
   have hx:x∈inL s.es wo:=by rw[hL];exact aN
   obtain⟨p,hp,ep⟩:=bf.mp hx;obtain⟨hp1,hp2⟩:=dX.mp hp;have h3:=(dq.mp (vW hp1)).1;have ⟨h4,h5⟩:=(cx _ _).mp hp2;refine bq (b:=ab) rfl (λ_=>?_) (λz=>by cases z);refine pZ (d:=kB rs (reM s) wo x) (eV (ax rfl (ax (bV (GR (n:=n) hn A C E (by lia) (by lia) (by rw[<- ep,eI];exact h4) GP (ax (aT (ds:=(x::xs).map D.int) rfl rfl (nU 0 (by decide) (by rw[cp];lia))) (ax rfl rfl)))) rfl))) ?_
   exact⟨_,rfl,rfl,rfl⟩
  |nil=>
   have ps:=vZ H hL Y;refine bq (b:=ae) rfl (λz=>by cases z) (λ_=>ca ?_);apply ay;refine eE (iE 0 wo) (λp=>D.tup [.int p.1,.bl p.2]) (λpre ρ=>∃v2 v4,ρ=[.deep (.at l ((fY rs wo (reM s) ((pre.filter λp=>p.2).map λp=>(p.1:Int))).S rs).o),.im (.lst (wo.map D.bl)),v2,.im (.lst ([].map D.int)),v4]) ?_ ⟨_,_,rfl⟩ ?_ ?_
   .rw[<- BJ];exact F0 rfl
   .rintro pre p post ρ ex ⟨v2,v4,rfl⟩;refine⟨_,rfl,?_⟩;walk_at "nrm";have hx:=vW (p:=p) (by rw[ex];simp);have U:=(dq.mp hx).1
    cases J:p.2 with
    |false=>
     refine bq (b:=ae) rfl (λz=>by cases z) (λ_=>ca ?_);refine⟨.im (.int p.1),.im (.bl ae),?_⟩
     rw[sF,mO (by rw[J];exact ba),filter_nil,cB]
    |true=>
     have L:jO wo=(pre.filter λp=>p.2).map (λp=>(p.1:Int))++(p.1:Int)::(post.filter λp=>p.2).map λp=>(p.1:Int):=by
      unfold jO;rw[ex,sF,kK J,bO,bp]
     rw[L]at ps;obtain⟨o1,o2,o3,o4,o5,o6⟩:=vY (wo:=wo) (s:=reM s) h1 (psT ps);generalize hT:(pre.filter λp=>p.2).map (λp=>(p.1:Int))=T at *;have Q:GpL (fY rs wo (reM s) T).ms (fY rs wo (reM s) T).es wo:=by rw[o6];exact E.up o4 (by show ∀r∈(reM s).ms,r.Ok s.es.length;rw[A];exact C.ok)
     have hwp:wo.getD (p.1:Int).toNat ae=ab:=by rw[eI,bD,hx,J];rfl
     refine bq (b:=ab) rfl (λ_=>?_) (λz=>by cases z);refine p7 (lK rfl rfl (i7 (d:=.int p.1) rfl (i7 (d:=.bl ae) rfl (i7 (d:=kB rs (fY rs wo (reM s) T) wo p.1) (eV (ax rfl (ax (bV (GR (n:=n) hn o1.es (by rw[o6];exact C) Q (by lia) (by lia) hwp GP (ax rfl (ax rfl rfl)))) rfl))) rfl))) rfl (GI o1 hB (by lia) (by lia))) ?_;refine⟨.im (.int p.1),.im (.bl ab),?_⟩;rw[sF,kK J,bO,hT];unfold fY;rw[filter_nil,bp,map_nil,fE];rfl
   .rintro ρ ⟨v2,v4,rfl⟩;exact pZ (d:=.non) rfl ⟨_,rfl,rfl,rfl⟩
abbrev stF(rs:List Rul)(c:Nat):Nat->Spt->OD×Spt
 | 0,s=>(ac,s)
 |k+1,s=>if (lrF rs (Me c s+1) s).1.isSome then ((lrF rs (Me c s+1) s).1.map wyD,(lrF rs (Me c s+1) s).2) else if ((ci rs (lrF rs (Me c s+1) s).2).1.isSome || (ci rs (lrF rs (Me c s+1) s).2).2.wt.isEmpty) then ci rs (lrF rs (Me c s+1) s).2 else stF rs c k (ci rs (lrF rs (Me c s+1) s).2).2
abbrev BM(rs:List Rul)(bs:List (List Pr))(es:List (Option Bool)):Prop:=(∃y∈gys rs.length bs.length,∀p∈cg rs bs y,p.sure es=ab)\/∃wo,Grp rs es wo/\∃i,wo.getD i ae=ab/\es.getD i ac=aa ab
structure QJ(n c B:Nat)(rs:List Rul)(s:Spt)(R:OD×Spt):Prop where
 ok:SpJ n c B rs R.2
 bs:R.2.bs=s.bs
 mv:Mvs rs s.bs s.es R.2.es
 en:R.1≠ac->BM rs s.bs R.2.es
 tp:∀w,R.1=aa w->∃ds,w=.tup ds
def QK(h:(ci rs s).1=aa w):∃ds,w=.tup ds:=by
 unfold ci at h;split at h
 .cases h;exact⟨_,rfl⟩
 .cases h
def none_of{z:Type}{x:Option z}(h:¬x.isSome=ab):x=ac:=by cases x with
 |none=>rfl
 |some a=>exact absurd rfl h
def v8{n c B:Nat}{rs:List Rul}(C:∀r∈rs,RuK n r)(hz:rs.length<=1000):∀(k:Nat) (s:Spt),SpJ n c B rs s->Me c s<k->QJ n c B rs s (stF rs c k s)
 | 0,_,_,h=>absurd h (jd _)
 |k+1,s,h,hk=>by
  have l:=vU C (Me c s+1) s h (dh _);unfold stF;generalize lrF rs (Me c s+1) s=R at l;split
  .rename_i E;obtain⟨y,J⟩:=wy.mp E;exact⟨l.ok,l.bs,l.mv,(λ_=>.inl ⟨y,l.ye y J⟩),λw z=>by rw[J]at z;cases z;exact⟨_,rfl⟩⟩
  .rename_i E;have z:=l.no (none_of E);obtain⟨L,M,H,p4,U,Y⟩:=BL C hz l.ok;rw[l.bs]at H;have ll:=l.le;have pt:=λw=>QK (rs:=rs) (s:=R.2) (w:=w);generalize ci rs R.2=P at *;split
   .exact⟨L,M.trans l.bs,l.mv.trans H,(λe=>.inr (Y e)),pt⟩
   .rename_i I;have Q:P.1=ac:=none_of λe=>I (by rw[e];rfl);have T:P.2.wt≠[]:=λe=>I (by rw[e];exact qf _);have h3:=U Q z T;have x:=v8 C hz k P.2 L (by lia);have A:=M.trans l.bs;exact⟨x.ok,x.bs.trans A,(l.mv.trans H).trans (by have:=x.mv;rw[A]at this;exact this),(λe=>by have:=x.en e;rw[A]at this;exact this),x.tp⟩
def QL(rs:List Rul)(s:Spt):dIs ((ci rs s).1.getD .non) .non=aa (.bl (!(ci rs s).1.isSome)):=by
 unfold ci
 split <;> rfl
def QM(C:∀r∈rs,RuK n r)(hz:rs.length<=1000)(hn:n<=60)(M:B+c<16777216)(h:SpJ n c B rs s)(hk:Me c s<k)(Y:k<1000000000):A8 l [] (s.S rs).o=aa (((stF rs c k s).2.S rs).o,(stF rs c k s).1.getD .non):=by
 apply lL;unfold vw;show wp _ [.deep (.at l (s.S rs).o),.no,.no] _;apply ay;refine bM (d:=.bl ab) rfl ?_;walk_at "nrm";apply ay;refine qW (λm ρ=>∃(s':Spt) (g:Bool) (I:Sl),ρ=[.deep (.at l (s'.S rs).o),.im (.bl g),I]/\(g=ab->SpJ n c B rs s'/\Me c s'<m/\stF rs c m s'=stF rs c k s)/\(g=ae->∃w:OD,I=.im (w.getD .non)/\(w,s')=stF rs c k s)) ?_ _ k _ ⟨s,ab,_,rfl,λ_=>⟨h,hk,rfl⟩,λz=>by cases z⟩ Y;rintro m ρ ⟨s',g,I,rfl,T,Q⟩;generalize stF rs c k s=Z at T Q ⊢;refine⟨g,rfl,?_,?_⟩
 .rintro rfl;obtain⟨h',hm,x⟩:=T rfl
  cases m with
  |zero=>exact absurd hm (jd _)
  |succ m=>
   have E:=vU C (Me c s'+1) s' h' (dh _);have mB:=h'.mB;have e1:=Qw (l:=l) C M h' (dh _) (by show Me c s'+1<_;show gs s'.es*(c+1)+s'.wt.length+1<_;lia);unfold stF at x;generalize lrF rs (Me c s'+1) s'=R at *;apply ay;refine si (lK rfl rfl rfl rfl e1) ?_;show wp _ [.deep (.at l (R.2.S rs).o),.im (.bl ab),.im (GM R.1)] _;apply ay
   cases hR:R.1 with
   |some y=>
    rw[if_pos (by rw[hR];rfl),hR]at x;refine bq (b:=ae) rfl (λz=>by cases z) (λ_=>ca ?_);refine bM (d:=.bl ae) ((lD (a:=ae) rfl (aP (aS (ax (oh oe) rfl) (ib R.2.wt wyD)) rfl ut)).trans rfl) ?_
    exact⟨0,qr _,R.2,ae,_,rfl,(λz=>by cases z),λ_=>⟨aa (wyD y),rfl,x⟩⟩
   |none=>
    rw[if_neg (by rw[hR];exact ba)]at x;have hw:=E.no hR;obtain⟨p1,p2,p3,p4,p5,p6⟩:=BL C hz E.ok;have e2:=QI (l:=l) C hz hn M E.ok;have U:=QL rs R.2;have ll:=E.le;generalize ci rs R.2=P at *;refine bq (b:=ab) rfl (λ_=>?_) (λz=>by cases z);refine si (lK rfl rfl rfl rfl e2) ?_;show wp _ [.deep (.at l (P.2.S rs).o),.im (.bl ab),.im (P.1.getD .non)] _;refine bM (d:=.bl (!P.1.isSome && decide ((0:Int)<P.2.wt.length))) (lD (aP rfl rfl U) (aP (aS (ax (oh oe) rfl) (ib P.2.wt wyD)) rfl ut)) ?_
    by_cases A:(P.1.isSome || P.2.wt.isEmpty)=ab
    .rw[if_pos A]at x
     have H:(!P.1.isSome && decide ((0:Int)<P.2.wt.length))=ae:=by
      rcases(i9 _ _).mp A with z |z
      .rw[z];rfl
      .rw[isEmpty_iff.mp z];exact sw _
     rw[H];exact⟨0,qr _,P.2,ae,_,rfl,(λz=>by cases z),λ_=>⟨P.1,rfl,x⟩⟩
    .rw[if_neg A]at x;have J:P.1=ac:=none_of λe=>A (by rw[e];rfl);have L:P.2.wt≠[]:=λe=>A (by rw[e];exact qf _);have h3:=p5 J hw L
     have H:(!P.1.isSome && decide ((0:Int)<P.2.wt.length))=ab:=by
      have:=length_pos_iff.mpr L;rw[J,decide_eq_true (by lia)];rfl
     rw[H];exact⟨m,dh _,P.2,ab,_,rfl,(λ_=>⟨p1,by lia,x⟩),λz=>by cases z⟩
 .rintro rfl;obtain⟨w,rfl,e⟩:=Q rfl;rw[<- e];exact pZ (d:=w.getD .non) rfl ⟨_,rfl,rfl,rfl⟩
structure SpB(n c:Nat)(rs:List Rul)(s:Spt):Prop where
 es:s.es.length=n
 bk:∀b∈s.bs,cF n b
 tw:gQ c rs.length s.bs s.tw
 wv:∀y∈s.wt,y∈gys rs.length s.bs.length
 ms:s.ms.Perm (lM rs)
 st:s.st=[]
 wl:s.wt.length=rs.length+s.bs.length
def SpB.bar{b:List Pr}(h:SpB n c rs s)(A:cF n b)(hn:n<=60):SpB n (c+3840) rs (s.bar b):=by
 have z:∀b∈s.bs,b.Nodup:=λb q=>(h.bk b q).pd;refine⟨h.es,λx hx=>?_,(h.tw.dropped z b).bar A hn,λy C=>?_,h.ms,h.st,?_⟩
 .rcases bT.mp hx with q |q
  .exact h.bk x q
  .rw[dF.mp q];exact A
 .show y∈gys rs.length (s.bs++[b]).length;rw[a8,dW,sg]
  rcases bT.mp C with q |q
  .exact fD _ (h.wv y q)
  .exact dE _ q
 .show(s.wt++[_]).length=rs.length+(s.bs++[b]).length;rw[a8,a8,dW,dW,h.wl];lia
def GT{n q R:Nat}(hn:n<=60):∀(rs:List Rul) (i c:Nat) (tw:Wt),(∀r∈rs,RuK n r/\(grd r).length<=q)->i+rs.length<=R->gQ c R [] tw->gQ (c+64*q*rs.length) R [] (mM i rs tw)
 | [],_,_,_,_,_,h=>h
 |r::rs,i,c,tw,hr,hi,h=>by
  obtain⟨E,H⟩:=hr r aN;rw[cp]at hi
  have A:gQ (c+64*q) R [] (gn (ae,i) (grd r) tw):=by
   refine⟨?_,λp y C=>?_,λj=>?_⟩
   .rw[<- vM];refine(b4.reg hn (rX E) h.wk).le ?_;have:=Nat.mul_le_mul_left 64 H;lia
   .by_cases e:y=(ae,i)
    .rw[e];refine jM.mpr ?_;show i<R;lia
    .refine h.vl p y (ig.mpr ?_);rw[<- ol e p (grd r)];exact ig.mp C
   .refine .inl λp=>?_;rw[ol (λe=>by cases e)]
    rcases h.br j with z |z
    .exact z p
    .rw[z p]
     exact if_neg λx=>by
      rw[getD_nil]at x;cases x
  have:=GT hn rs (i+1) (c+64*q) _ (λx hx=>hr x (bo _ hx)) (by lia) A;rw[cp,Nat.mul_succ,show c+(64*q*rs.length+64*q)=c+64*q+64*q*rs.length by lia];exact this
variable{q:Nat}
def BN(hn:n<=60)(x:es.length=n)(z:∀r∈rs,RuK n r/\(grd r).length<=q):SpB n (64*q*rs.length) rs (spT es rs):=by
 refine⟨x,(λb h=>nomatch h),?_,λy A=>?_,sG _,rfl,by show((bI rs.length).map _).length=_;rw[aH,cT];rfl⟩
 .have:=GT (R:=rs.length) hn rs 0 0 [] z (by lia) ⟨⟨c4 _,λp h=>nomatch h⟩,(λp y h=>nomatch h),λj=>.inl λp=>rfl⟩;rw[lV]at this;exact this
 .obtain⟨i,hi,rfl⟩:=bf.mp A;exact jM.mpr (eM.mp hi)
def BO{n:Nat}{rs:List Rul}(hn:n<=60):∀(bars:List (List Pr)) (s:Spt) (c:Nat),(∀b∈bars,cF n b)->SpB n c rs s->SpB n (c+3840*bars.length) rs (bars.foldl Spt.bar s)
 | [],_,_,_,h=>h
 |b::bars,s,c,hb,h=>by
  have:=BO hn bars (s.bar b) (c+3840) (λx hx=>hb x (bo _ hx)) (h.bar (hb b aN) hn);rw[cp,du,show c+3840*(bars.length+1)=c+3840+3840*bars.length by lia];exact this
def sn:∀(bars:List (List Pr)) (s:Spt),(bars.foldl Spt.bar s).bs=s.bs++bars/\(bars.foldl Spt.bar s).es=s.es
 | [],s=>⟨(cB _).symm,rfl⟩
 |b::bars,s=>by
  obtain⟨h,x⟩:=sn bars (s.bar b);refine⟨?_,x⟩;rw[du,h];show s.bs++[b]++bars=_;rw[fZ];rfl
variable{bars:List (List Pr)}
def QN(hn:n<=60)(C:es.length=n)(E:∀r∈rs,RuK n r/\(grd r).length<=q)(hz:rs.length<=250)(I:∀b∈bars,cF n b)(Y:64*q*rs.length+3840*bars.length+3840<16777216)(L:bars.length<=1000)(l:Addr):
  m_8 l [pl0 v rs,.lst (bars.map bA),.lst (es.map shD)] (.ins "Spreading" [] [])=aa (((bars.foldl Spt.bar (spT es rs)).S rs).o,.non):=by
 have J:=BN hn C E;apply lL;unfold b_8;show wp _ [.deep (.at l (.ins "Spreading" [] [])),.im (pl0 v rs),.im (.lst (bars.map bA)),.im (.lst (es.map shD)),.no,.no,.no] _;apply ay;refine mJ (vC (ds:=es.map shD) rfl) rfl rfl ?_;apply ay;refine mJ (vC (ds:=[]) rfl) rfl rfl ?_;apply ay;refine mJ (vC (ds:=[]) rfl) rfl rfl ?_;apply ay;refine mJ rfl rfl rfl ?_;apply ay;refine mJ rfl rfl rfl ?_;apply ay;refine mJ (vC (ds:=[]) rfl) rfl rfl ?_;apply ay;refine mJ (FR (bV (Pz (n:=n) (dn (aT rfl rfl rfl) rfl) (λr h=>(E r h).1.ok) (by lia)))) rfl rfl ?_;show wp _ [.deep (.at l (sp0 es rs).o),.im (pl0 v rs),.im (.lst (bars.map bA)),.im (.lst (es.map shD)),.no,.no,.no] _;apply ay;refine PB hn (λr h=>(E r h).1) hz λT U=>?_;show wp _ _ _;rw[Qb];refine eE bars bA (λpre ρ=>∃H,ρ=[.deep (.at l ((pre.foldl Spt.bar (spT es rs)).S rs).o),.im (pl0 v rs),.im (.lst (bars.map bA)),.im (.lst (es.map shD)),T,U,H]) rfl ⟨_,rfl⟩ ?_ ?_
 .rintro pre b post ρ ex ⟨H,rfl⟩;have M:∀x∈pre,cF n x:=λx hx=>I x (by rw[ex];simp[hx]);have Q:pre.length<bars.length:=by rw[ex];simp
  have A:=BO hn pre (spT es rs) _ M J;have z:(pre.foldl Spt.bar (spT es rs)).bs.length=pre.length:=by rw[(sn pre _).1];rfl
  refine⟨_,rfl,?_⟩;walk_at "nrm";refine p7 (lK rfl rfl (i7 (d:=bA b) rfl rfl) rfl (Qn _ b A.tw (by lia) A.bk (I b (by rw[ex];simp)) hn (by rw[z];lia) (by rw[A.wl,z];lia))) ?_;refine⟨.im (bA b),?_⟩;rw[fE];rfl
 .rintro ρ ⟨H,rfl⟩;exact⟨_,rfl,rfl,rfl⟩
def QO{cn z x:Str}{ns:LSt}{f:Xa}(h:ρ[i]?=aa (.deep (.ins x ns os)))(hi:(O.ins x ns os).isIns cn z=ab)(C:f ρ=aa (ds,hI))(A:hI[i]?=aa (.deep (.ins x ns os)))(hm:∀l,m l ds (.ins x ns os)=aa (o',d)):pR i cn z m f ρ=aa (d,hI.set i (.deep o')):=by
 unfold pR;rw[h];show(if (O.ins x ns os).isIns cn z=ab then _ else ac)=_;rw[if_pos hi,C,aA];dsimp only;rw[A];have hx:∃q,∀l,m l ds (.ins x ns os)=aa q:=⟨_,hm⟩;dsimp only;rw[dif_pos hx];have:=hx.choose_spec 0;rw[hm 0]at this;rw[<- cN this]
def QP{cn f:Str}(h:bv cn f (aX i) ρ=aa (lsO ds,R))(x:i≠j)(k:K (.nx ((ρ.set i (.deep (R .any))).set j (.own ds)))):wp (uH i j cn f) ρ K:=⟨_,by
 unfold uH;rw[h,aA,se,aA,if_neg x],k⟩
def GU{cn f:Str}(h:bv cn f (aX i) ρ=aa (lsO ds,R))(k:wp F (ρ.set i (.deep (R (.fz (.lst ds))))) K):wp (uG i cn f F) ρ K:=by
 obtain⟨o,e,q⟩:=k;exact⟨o,by unfold uG;rw[h,aA,se,aA];exact e,q⟩
abbrev fB:OD->LD
 |none=>[]
 |some w=>[.tup [.non,w]]
structure kC(n:Nat)(rs:List Rul)(bars:List (List Pr))(es es':List (Option Bool))(st:LD)(w:OD):Prop where
 len:es'.length=n
 mv:Mvs rs bars es es'
 en:w≠ac->BM rs bars es'
 sv:∀d∈st,∃(z:Pr) (w:D),d=.tup [prD z,w]/\(0<=z.1/\z.1<(n:Int))/\es'.getD z.1.toNat ac=aa z.2
 sl:st.length<16777216
abbrev d7(es:List (Option Bool))(rs:List Rul)(bars:List (List Pr)):Spt:=bars.foldl Spt.bar (spT es rs)
def QQ(hn:n<=60)(C:es.length=n)(M:∀r∈rs,RuK n r/\(grd r).length<=q)(hz:rs.length<=250)(T:∀b∈bars,cF n b)(J:bars.length<=1000)(hc:64*q*rs.length+3840*bars.length+3840<=c)(hB:n*(c+1)+n+rs.length+bars.length<=B)(I:B+c<16777216):
  SpJ n c B rs (d7 es rs bars)/\m_5 [pl0 v rs,.lst (bars.map bA),.lst (es.map shD)]=aa (.tup [.lst ((stF rs c (Me c (d7 es rs bars)+1) (d7 es rs bars)).2.es.map shD),.lst ((stF rs c (Me c (d7 es rs bars)+1) (d7 es rs bars)).2.st++fB (stF rs c (Me c (d7 es rs bars)+1) (d7 es rs bars)).1)]):=by
 have E:∀r∈rs,RuK n r:=λr h=>(M r h).1;have x:=BO hn bars _ _ T (BN hn C M);obtain⟨e1,e2⟩:=sn bars (spT es rs);have e1:(bars.foldl Spt.bar (spT es rs)).bs=bars:=e1;have e2:(bars.foldl Spt.bar (spT es rs)).es=es:=e2;have H:=λl=>QN (v:=v) (bars:=bars) hn C M hz T (by lia) J l;unfold d7;generalize bars.foldl Spt.bar (spT es rs)=s at x e1 e2 H ⊢;have hop:=Qr es;have U:gs es*(c+1)<=n*(c+1):=Nat.mul_le_mul_right _ (by lia);have A:SpJ n c B rs s:=⟨x.es,x.bk,⟨x.tw.wk.le (by lia),x.tw.vl,x.tw.br⟩,x.wv,x.ms,by rw[x.wl,e1,e2];lia,by rw[x.st,e2,length_nil];lia,λd hd=>by rw[x.st]at hd;cases hd⟩;refine⟨A,?_⟩;have mB:=A.mB;have Q:=v8 E (by lia) (Me c s+1) s A (dh _);have Y:=λl=>QM (l:=l) E (by lia) hn I A (dh _) (by show gs s.es*(c+1)+s.wt.length+1<_;lia);generalize stF rs c (Me c s+1) s=R at Q Y ⊢;have hst:=Q.ok.sB;apply hZ;unfold b_5;show wp _ [.im (pl0 v rs),.im (.lst (bars.map bA)),.im (.lst (es.map shD)),.no,.no,.no] _;apply ay;refine MQ (Po rfl H) ?_;show wp _ [.im (pl0 v rs),.im (.lst (bars.map bA)),.im (.lst (es.map shD)),.deep (s.S rs).o,.no,.no] _;apply ay;refine si (QO rfl rfl rfl rfl Y) ?_;show wp _ [.im (pl0 v rs),.im (.lst (bars.map bA)),.im (.lst (es.map shD)),.deep (R.2.S rs).o,.im (R.1.getD .non),.no] _;apply ay;refine QP (ds:=R.2.st) rfl (by decide) ?_;walk_at "nrm";apply ay
 cases hR:R.1 with
 |none=>
  refine bq (b:=ae) rfl (λz=>by cases z) (λ_=>ca ?_);refine jC rfl ?_;refine GU (ds:=R.2.es.map shD) rfl ?_;refine hV (d:=.tup [.lst (R.2.es.map shD),.lst R.2.st]) rfl (d5 ?_)
  rw[show fB ac=[]from rfl,cB]
 |some w=>
  have L:gD w .non=aa (.bl ab):=by
   obtain⟨ds,rfl⟩:=Q.tp w hR;rfl
  refine bq (b:=ab) (cK (aP rfl rfl L)) (λ_=>?_) (λz=>by cases z);refine lG (d:=.tup [.non,w]) rfl rfl (by lia) ?_;walk_at "nrm";refine jC rfl ?_;refine GU (ds:=R.2.es.map shD) rfl ?_;exact hV (d:=.tup [.lst (R.2.es.map shD),.lst (R.2.st++[.tup [.non,w]])]) rfl (d5 rfl)
variable{e:List (Option Bool)}{b:Bool}
def GV(z:p.Ok e.length)(C:0<=t)(E:t<(e.length:Int))(x:opn e t=ab)(h:t∉nmP p\/gP p≠b):p.sure (put e t.toNat b)=p.sure e:=by
 rcases h with h |h
 .exact Pt z (by rw[show((t.toNat:Nat):Int)=t by lia];exact h)
 .have A:=p8 x
  cases p with
  |inn u=>
   cases b with
   |true=>exact absurd rfl h
   |false=>
    show((put e t.toNat ae).getD u.toNat ac==aa ab)=(e.getD u.toNat ac==aa ab)
    by_cases q:u.toNat=t.toNat
    .rw[q,ko e ae (by lia),A];rfl
    .rw[gO e ae q]
  |out u=>
   cases b with
   |false=>exact absurd rfl h
   |true=>
    show((put e t.toNat ab).getD u.toNat ac==aa ae)=(e.getD u.toNat ac==aa ae)
    by_cases q:u.toNat=t.toNat
    .rw[q,ko e ab (by lia),A];rfl
    .rw[gO e ab q]
  |least k its=>
   cases b with
   |true=>exact absurd rfl h
   |false=>
    show decide (k<=bc (·==aa ab) (put e t.toNat ae) its)=decide (k<=bc (·==aa ab) e its);rw[vK z.1 C E x ae]
    simp
  |most k its=>
   cases b with
   |false=>exact absurd rfl h
   |true=>
    show decide (bc (λe=>!(e==aa ae)) (put e t.toNat ab) its<=k)=decide (bc (λe=>!(e==aa ae)) e its<=k);rw[vL z.1 C E x ab];simp
nonrec abbrev GW(G:List Prt)(es:List (Option Bool)):Prop:=∀p∈G,p.sure es=ab
structure eY(G:List Prt)(es:List (Option Bool))(S:List Int):Prop where
 ns:¬GW G es
 np:∀(t:Int) (b:Bool),0<=t->t<(es.length:Int)->opn es t=ab->GW G (put es t.toNat (!b))->t∈S
variable{S:List Int}
def eY.pt(h:eY G es (t::S))(H:∀p∈G,p.Ok es.length)(z:0<=t)(J:t<(es.length:Int))(I:opn es t=ab)(hn:∀p∈G,t∉nmP p\/gP p≠b):eY G (put es t.toNat b) S:=by
 refine⟨λq=>h.ns λp x=>by rw[<- GV (H p x) z J I (hn p x)];exact q p x,λu c C L A q=>?_⟩;rw[d3]at L
 have ne:u≠t:=λe=>by
  unfold opn at A;rw[e,ko es b (by lia)]at A;cases A
 have E:opn es u=ab:=by rw[<- BH (b:=b) C z ne];exact A
 have:=h.np u c C L E λp x=>by
  have e:=GV (e:=put es u.toNat (!c)) (b:=b) (by rw[d3];exact H p x) z (by rw[d3];exact J) (GK z C (λe=>ne e.symm) I) (hn p x);rw[<- e,GJ (by lia)];exact q p x
 rcases aQ.mp this with e |e
 .exact absurd e ne
 .exact e
def eY.of_prs(A:∀p∈G,p.Ok es.length)(h:prs G es=aa ps):eY G es (ps.map (·.1)):=by
 obtain⟨_,z,p,E,x⟩:=vP A h;refine⟨(λq=>by rw[q p E]at x;cases x),λt b H I C q=>?_⟩;exact bf.mpr ⟨(t,b),(z (t,b)).mpr ⟨⟨H,I⟩,C,q⟩,rfl⟩
abbrev Wch(rs:List Rul)(bs:List (List Pr))(tw:Wt)(y:Wy):Prop:=∀p∈cg rs bs y,∀t∈nmL p,y∈look tw (t,gP p)
abbrev Jq(rs:List Rul)(s:Spt)(y0:Wy)(S:List Int):Prop:=∀y∈gys rs.length s.bs.length,Wch rs s.bs s.tw y->y∈s.wt\/eY (cg rs s.bs y) s.es (if y=y0 then S else [])
def eY.more{x:List Int}(h:eY G es S)(z:∀t∈S,t∈x):eY G es x:=⟨h.ns,λt b a c d e=>z t (h.np t b a c d e)⟩
variable{y0:Wy}
def Jq.pt(M:∀r∈rs,RuK n r)(k:SpJ n c B rs s)(h:Jq rs s y0 (t::S))(T:0<=t)(U:t<(n:Int))(L:opn s.es t=ab):Jq rs (s.pt t b w) y0 S:=λy Q E=>by
 have J:∀p∈cg rs s.bs y,p.Ok s.es.length:=by rw[k.es];exact vT M k.bk
 rcases h y Q E with q |q
 .exact .inl (fD _ q)
 .by_cases hn:∀p∈cg rs s.bs y,t∉nmP p\/gP p≠b
  .refine .inr (eY.pt (q.more ?_) J T (by rw[k.es];exact U) L hn);intro u x
   by_cases e:y=y0
   .rw[if_pos e]at x ⊢;exact x
   .rw[if_neg e]at x;cases x
  .obtain⟨p,A⟩:=Classical.not_forall.mp hn;obtain⟨A,C⟩:=Classical.not_imp.mp A;have H:t∈nmP p:=Classical.not_not.mp λz=>C (.inl z);have I:gP p=b:=Classical.not_not.mp λz=>C (.inr z);refine .inl (dE _ ?_);have:=E p A t (vE.mpr H);rw[I]at this;exact this
def Jq.puts{n c B:Nat}{rs:List Rul}{y0:Wy}{w:D}(x:∀r∈rs,RuK n r):∀{ps:List Pr} {s:Spt},SpJ n c B rs s->eG s.es ps->Jq rs s y0 (ps.map (·.1))->Jq rs (puts s w ps) y0 []
 | [],_,_,_,h=>h
 |z::ps,s,k,p,h=>by
  obtain⟨⟨a,b⟩,e⟩:=p.op z aN;have b:z.1<(n:Int):=by rw[<- k.es];exact b
  exact Jq.puts x (ps:=ps) (k.pt a b e).1 p.tail (Jq.pt x k h a b e)
abbrev Jr(rs:List Rul)(s:Spt):Prop:=∀y0,Jq rs s y0 []
def Jr.of(h:Jq rs s y0 []):Jr rs s:=λ_ y z x=>by
 rcases h y z x with q |q
 .exact .inl q
 .refine .inr ?_
  have:(if y=y0 then ([]:List Int) else [])=[]:=by split <;> rfl
  rw[this]at q
  split <;> exact q
def GX{n c B:Nat}{rs:List Rul}(E:∀r∈rs,RuK n r):∀(k:Nat) (s:Spt),SpJ n c B rs s->Me c s<k->Jr rs s->(lrF rs k s).1=ac->Jr rs (lrF rs k s).2
 | 0,_,_,h,_,_=>absurd h (jd _)
 |k+1,s,h,hk,hj,he=>by
  cases A:s.wt with
  |nil=>rw[vQ A];exact hj
  |cons y wt=>
   obtain⟨I,Q,T⟩:=h.pop A;have J:∀p∈cg rs s.bs y,p.Ok s.es.length:=by rw[h.es];exact vT E h.bk
   cases C:prs (cg rs s.bs y) s.es with
   |none=>rw[vR A C]at he;cases he
   |some ps=>
    rw[vS A C]at he ⊢;obtain⟨L,U,_⟩:=vP J C;obtain⟨M,Y⟩:=sj (w:=wyD y) I L;refine GX E k _ M (by lia) (Jr.of (Jq.puts (y0:=y) E I L ?_)) he;intro x hx H
    by_cases e:x=y
    .rw[if_pos e];exact .inr (by rw[e];exact eY.of_prs J C)
    .rw[if_neg e]
     rcases hj x x hx H with q |q
     .rw[A]at q
      rcases aQ.mp q with z |z
      .exact absurd z e
      .exact .inl z
     .rw[if_pos rfl]at q;exact .inr q
def GY{n c B:Nat}{rs:List Rul}{wo:List Bool}(x:∀r∈rs,RuK n r):∀{ts:List Int} {s:Spt},SpJ n c B rs s->eG s.es (ts.map λt=>(t,ae))->Jr rs s->Jr rs (fY rs wo s ts)
 | [],_,_,_,h=>h
 |t::ts,s,k,p,h=>by
  obtain⟨⟨a,b⟩,e⟩:=p.op (t,ae) aN;have b:t<(n:Int):=by rw[<- k.es];exact b
  refine GY x (ts:=ts) (k.pt (b:=ae) a b e).1 p.tail (Jr.of (y0:=(ae,0)) (Jq.pt x k (λy C A=>?_) a b e))
  rcases h y y C A with q |q
  .exact .inl q
  .rw[if_pos rfl]at q;exact .inr (q.more λu z=>nomatch z)
abbrev v9(rs:List Rul)(es:List (Option Bool)):Prop:=∀wo,Grp rs es wo->∀i,wo.getD i ae=ae
def QR(hm:jP es.length ms)(pm:ms.Perm (lM rs))(g:Grp rs es wo)(i:Nat)(hi:wo.getD i ae=ab):(cf es ms).1.getD i ae=ab:=by
 obtain⟨I,_⟩:=Gf (es:=es) hm.ne;refine PF (le:=wo) (fin:=[]) hm.ok I.pe (by rw[g.len];unfold jJ;rw[aH]) (λj h=>?_) (λj h=>by rw[getD_nil]at h;cases h) (λr E H=>?_) i hi
 .have z:=g.no j h
  have x:j<es.length:=by
   rw[<- g.len];refine wx λq=>?_;rw[bD,cY q]at h;cases h
  unfold jJ;rw[bD,cA,cj x];rw[bD,cj x]at z;have z:es[j]≠aa ae:=z;show(!(es[j]==aa ae))=ab;rw[beq_false_of_ne z];rfl
 .obtain⟨_,C,A⟩:=F7 H;rw[g.up r (pm.mem_iff.mp E) C]at A;cases A
def BP(wo:List Bool)(es:List (Option Bool))(L:wo.length=es.length)(i:Nat):(lP es wo).getD i ac=if wo.getD i ae=ab then aa ae else es.getD i ac:=by
 unfold lP
 have gen:∀(ts:List Int) (e:List (Option Bool)),e.length=es.length->(∀t∈ts,0<=t/\t<(es.length:Int))->(ts.foldl (λes t=>put es t.toNat ae) e).getD i ac=if (i:Int)∈ts then aa ae else e.getD i ac:=by
  intro ts
  induction ts with
  |nil=>intro e _ _;rfl
  |cons t ts I=>
   intro e E A;obtain⟨a,b⟩:=A t aN;rw[du,I _ (by rw[d3];exact E) λu H=>A u (bo _ H)]
   by_cases x:(i:Int)∈ts
   .rw[if_pos x,if_pos (bo _ x)]
   .rw[if_neg x]
    by_cases C:(i:Int)=t
    .rw[if_pos (by rw[C];exact aN),show i=t.toNat by lia,ko e ae (by lia)]
    .rw[if_neg (λq=>by rcases aQ.mp q with z |z;exact C z;exact x z),gO e ae (by lia)]
 rw[gen (oa wo) es rfl λt A=>?_]
 .by_cases h:wo.getD i ae=ab
  .rw[if_pos h,if_pos ((vA wo i).mpr ⟨by lia,by rw[eI];exact h⟩)]
  .rw[if_neg h,if_neg (λq=>h (by have:=((vA wo i).mp q).2;rwa [eI]at this))]
 .obtain⟨J,tw⟩:=(vA wo t).mp A;refine⟨J,?_⟩
  have:t.toNat<wo.length:=by
   refine wx λq=>?_;rw[bD,cY q]at tw;cases tw
  lia
def BQ{x:List Bool}(h:p.Ok es.length)(A:∀i,es.getD i ac=aa ab->es'.getD i ac=aa ab)(C:∀i,(es.getD i ac=aa ae\/wo.getD i ae=ab)->(es'.getD i ac=aa ae\/x.getD i ae=ab))(s:p.lost es wo=ab):p.lost es' x=ab:=by
 cases p with
 |inn t=>
  have s:((es.getD t.toNat ac==aa ae) || wo.getD t.toNat ae)=ab:=s;show((es'.getD t.toNat ac==aa ae) || x.getD t.toNat ae)=ab;rw[i9]at s ⊢
  rcases C t.toNat (s.imp beq_iff_eq.mp id)with q |q
  .exact .inl (beq_iff_eq.mpr q)
  .exact .inr q
 |out t=>exact beq_iff_eq.mpr (A _ (beq_iff_eq.mp s))
 |least k its=>
  have s:=of_decide_eq_true (show decide (_<k)=ab from s);refine decide_eq_true (Int.lt_of_le_of_lt (nV λz hz=>⟨(h.1 z hz).2.2,λq=>?_⟩) s);have q:(!(es'.getD z.1.toNat ac==aa ae) && !(x.getD z.1.toNat ae))=ab:=q;show(!(es.getD z.1.toNat ac==aa ae) && !(wo.getD z.1.toNat ae))=ab
  cases hx:(!(es.getD z.1.toNat ac==aa ae) && !(wo.getD z.1.toNat ae))with
  |true=>rfl
  |false=>
   have:es.getD z.1.toNat ac=aa ae\/wo.getD z.1.toNat ae=ab:=by
    cases ha:(es.getD z.1.toNat ac==aa ae)with
    |true=>exact .inl (beq_iff_eq.mp ha)
    |false=>
     rw[ha]at hx
     cases E:wo.getD z.1.toNat ae with
     |true=>exact .inr rfl
     |false=>rw[E]at hx;cases hx
   rcases C _ this with u |u
   .rw[u]at q;cases q
   .rw[u,Bool.and_comm]at q;cases q
 |most k its=>
  have s:=of_decide_eq_true (show decide (k<_)=ab from s);refine decide_eq_true (Int.lt_of_lt_of_le s ?_);rw[lu,lu];exact nV λz hz=>⟨(h.1 z hz).2.2,λq=>beq_iff_eq.mpr (A _ (beq_iff_eq.mp q))⟩
def QS(hr:∀r∈rs,RuK n r)(hz:rs.length<=1000)(h:SpJ n c B rs s)(U:(ci rs s).1=ac):v9 rs (ci rs s).2.es:=by
 have hm:=jP.of hr hz h.ms;obtain⟨h1,L,pm,Q⟩:=h.rem' hm;unfold ci at U ⊢
 cases hL:inL s.es (cf s.es s.ms).1 with
 |cons x xs=>rw[hL]at U;cases U
 |nil=>
  dsimp only;have ps:=vZ L.1 hL Q;obtain⟨_,_,o3,_,_,_⟩:=vY (wo:=(cf s.es s.ms).1) (s:=reM s) h1 ps;rw[o3,vX];show v9 rs (lP s.es (cf s.es s.ms).1);have A:=BP (cf s.es s.ms).1 s.es L.1;have M:jP s.es.length s.ms:=by rw[h.es];exact hm
  have Y:=λwo i=>QR (wo:=wo) M h.ms (i:=i);generalize (cf s.es s.ms).1=wo at *
  have E:(lP s.es wo).length=s.es.length:=by
   unfold lP
   have:∀(ts:List Int) (e:List (Option Bool)),(ts.foldl (λes t=>put es t.toNat ae) e).length=e.length:=by
    intro ts
    induction ts with
    |nil=>intro e;rfl
    |cons t ts ih=>intro e;rw[du,ih,d3]
   exact this _ _
  intro I J i
  cases hi:I.getD i ae with
  |false=>rfl
  |true=>
   exfalso
   have C:∀j,(lS (· || ·) wo I).getD j ae=(wo.getD j ae || I.getD j ae):=λj=>by
    have hl2:I.length=wo.length:=by rw[J.len,E,L.1]
    rw[bD,bD,bD,List.getElem?_zipWith]
    by_cases q:j<wo.length
    .rw[cj q,cj (by lia)];rfl
    .rw[cY (by lia),cY (by lia)];rfl
   have gu:Grp rs s.es (lS (· || ·) wo I):=by
    refine⟨by rw[length_zipWith,J.len,E,L.1,sH],λj hj=>?_,λr H hw=>?_⟩
    .rw[C]at hj
     rcases(i9 _ _).mp hj with q |q
     .exact Q j q
     .intro e;refine J.no j q ?_;rw[A];split
      .rfl
      .exact e
    .have T:r.Ok s.es.length:=M.ok r (h.ms.mem_iff.mpr H);rw[C]at hw
     rcases(i9 _ _).mp hw with q |q
     .exact uc (λp hp z=>BQ (T.ps p hp) (λj e=>e) (λj e=>e.imp id λu=>by rw[C,u];rfl) z) (L.2 r (h.ms.mem_iff.mpr H) q)
     .refine uc (λp hp z=>BQ (es:=lP s.es wo) (wo:=I) (by rw[E];exact T.ps p hp) (λj e=>?_) (λj e=>?_) z) (J.up r H q)
      .rw[A]at e;split at e
       .cases e
       .exact e
      .rw[C]
       rcases e with e |e
       .rw[A]at e;split at e
        .rename_i u;exact .inr (by rw[u];rfl)
        .exact .inl e
       .exact .inr (by rw[e];exact qf _)
   have hin:=Y _ i gu (by rw[C,hi];exact qf _);refine J.no i hi ?_;rw[A,if_pos hin]
def QT(E:∀r∈rs,RuK n r)(hz:rs.length<=1000)(h:SpJ n c B rs s)(J:Jr rs s)(z:(ci rs s).1=ac):Jr rs (ci rs s).2:=by
 have hm:=jP.of E hz h.ms;obtain⟨H,I,pm,A⟩:=h.rem' hm;unfold ci at z ⊢
 cases C:inL s.es (cf s.es s.ms).1 with
 |cons x xs=>rw[C]at z;cases z
 |nil=>exact GY E (s:=reM s) H (vZ I.1 C A) J
def GZ{n c B:Nat}{rs:List Rul}(z:∀r∈rs,RuK n r)(hz:rs.length<=1000):∀(k:Nat) (s:Spt),SpJ n c B rs s->Me c s<k->Jr rs s->(stF rs c k s).1=ac->Jr rs (stF rs c k s).2/\(stF rs c k s).2.wt=[]/\v9 rs (stF rs c k s).2.es/\(stF rs c k s).2.tw=s.tw
 | 0,_,_,h,_,_=>absurd h (jd _)
 |k+1,s,h,hk,hj,he=>by
  have l:=vU z (Me c s+1) s h (dh _);have E:=GX z (Me c s+1) s h (dh _) hj
  have lt:(lrF rs (Me c s+1) s).2.tw=s.tw:=by
   have gen:∀(k:Nat) (s:Spt),(lrF rs k s).2.tw=s.tw:=by
    intro k
    induction k with
    |zero=>intro s;rfl
    |succ k H=>
     intro s
     cases C:s.wt with
     |nil=>rw[vQ C]
     |cons y wt=>
      cases J:prs (cg rs s.bs y) s.es with
      |none=>rw[vR C J]
      |some ps=>rw[vS C J,H];exact(BI (wyD y) ps _).2.1
   exact gen _ _
  unfold stF at he ⊢;generalize lrF rs (Me c s+1) s=R at l E lt he ⊢
  by_cases A:R.1.isSome=ab
  .rw[if_pos A]at he;obtain⟨y,T⟩:=wy.mp A;rw[T]at he;cases he
  .rw[if_neg A]at he ⊢;have C:=l.no (none_of A);have E:=E (none_of A);obtain⟨U,p2,p3,p4,Y,p6⟩:=BL z hz l.ok;have L:=QT z hz l.ok E;have pg:=QS z hz l.ok
   have pt:(ci rs R.2).2.tw=R.2.tw:=by
    have gen:∀(wo:List Bool) (ts:List Int) (s:Spt),(fY rs wo s ts).tw=s.tw:=by
     intro wo ts
     induction ts with
     |nil=>intro s;rfl
     |cons t ts H=>intro s;exact H (s.pt t ae (kB rs s wo t))
    unfold ci;split
    .rfl
    .exact gen _ _ _
   have ll:=l.le;generalize ci rs R.2=P at *
   by_cases x:(P.1.isSome || P.2.wt.isEmpty)=ab
   .rw[if_pos x]at he ⊢;rw[he]at x;exact⟨L he,isEmpty_iff.mp x,pg he,pt.trans lt⟩
   .rw[if_neg x]at he ⊢;have I:P.1=ac:=none_of λe=>x (by rw[e];rfl);have Q:P.2.wt≠[]:=λe=>x (by rw[e];exact qf _);have h3:=Y I C Q;obtain⟨a,b,M,d⟩:=GZ z hz k P.2 U (by lia) (L I) he;exact⟨a,b,M,d.trans (pt.trans lt)⟩
abbrev Ind(bs:List (List Pr))(tw:Wt)(j:Nat):Prop:=∀p,cn tw p (ab,j)=if p∈bs.getD j [] then 1 else 0
structure Dm(rs:List Rul)(s:Spt):Prop where
 ru:∀i,i<rs.length->Wch rs s.bs s.tw (ae,i)
 br:∀j,j<s.bs.length->Ind s.bs s.tw j\/∃j2,j<j2/\j2<s.bs.length/\∀p∈s.bs.getD j2 [],p∈s.bs.getD j []
 al:∀y∈gys rs.length s.bs.length,y∈s.wt
def QU{p q:Pr}{z:Wy}(h:z∈look tw q):z∈look (gf p y tw) q:=by
 rw[sh];split
 .exact fD _ h
 .exact h
def BR{b:Bool}{q:Pr}{y z:Wy}:∀(ts:List Int) {tw:Wt},z∈look tw q->z∈look (ts.foldl (λtw t=>gf (t,b) y tw) tw) q
 | [],_,h=>h
 |t::ts,tw,h=>BR ts (tw:=gf (t,b) y tw) (QU h)
def wa{q:Pr}{y z:Wy}:∀(ps:List Prt) {tw:Wt},z∈look tw q->z∈look (gn y ps tw) q
 | [],_,h=>h
 |p::ps,tw,h=>wa ps (tw:=lO y tw p) (BR (nmL p) h)
def G0{y:Wy}:∀(ps:List Prt) {tw:Wt} {p:Prt} {t:Int},p∈ps->t∈nmL p->y∈look (gn y ps tw) (t,gP p)
 | [],_,_,_,h,_=>nomatch h
 |q::ps,tw,p,t,h,ht=>by
  rcases aQ.mp h with e |e
  .refine wa ps (tw:=lO y tw q) ?_;rw[<- e]
   have gen:∀(ts:List Int) (tw:Wt),t∈ts->y∈look (ts.foldl (λtw t=>gf (t,gP p) y tw) tw) (t,gP p):=by
    intro ts
    induction ts with
    |nil=>intro tw h;cases h
    |cons u ts x=>
     intro tw h;rw[du]
     rcases aQ.mp h with e |e
     .refine BR ts ?_;rw[sh,if_pos (by rw[e])];exact dE _ aN
     .exact x _ e
   exact gen (nmL p) tw ht
  .exact G0 ps e ht
def G1{q:Pr}{z:Wy}:∀(rs:List Rul) (i:Nat) {tw:Wt},z∈look tw q->z∈look (mM i rs tw) q
 | [],_,_,h=>h
 |r::rs,i,tw,h=>G1 rs (i+1) (wa (grd r) h)
def G2:∀(rs:List Rul) (i j:Nat) (tw:Wt) (r:Rul),rs[j]?=aa r->∀p∈grd r,∀t∈nmL p,(ae,i+j)∈look (mM i rs tw) (t,gP p)
 | [],_,_,_,_,h,_,_,_,_=>by cases h
 |r'::rs,i,0,tw,r,h,p,hp,t,ht=>by
  cases h
  exact G1 rs (i+1) (G0 (grd r') hp ht)
 |r'::rs,i,j+1,tw,r,h,p,hp,t,ht=>by
  rw[eJ]at h;have:=G2 rs (i+1) j (gn (ae,i) (grd r') tw) r h p hp t ht;rw[show i+1+j=i+(j+1) by lia]at this;exact this
def QV(es:List (Option Bool))(rs:List Rul):Dm rs (spT es rs):=by
 refine⟨λi hi p x t z=>?_,λj h=>absurd h (jd _),λy A=>?_⟩
 .have e:cg rs [] (ae,i)=grd rs[i]:=by
   show((rs[i]?).map grd).getD []=_;rw[cj hi];rfl
  have x:p∈cg rs [] (ae,i):=x;rw[e]at x;have:=G2 rs 0 i [] rs[i] (cj hi) p x t z;rw[lV]at this;exact this
 .obtain⟨a,j⟩:=y;have h:=jM.mp A
  cases a with
  |true=>exact absurd h (jd _)
  |false=>exact bf.mpr ⟨j,eM.mpr h,rfl⟩
def G3{bs:List (List Pr)}(h:∀b∈bs,b.Nodup)(p:Pr)(i:Nat):∀(L:List Wy) (tw:Wt),cn (L.foldl (gq bs) tw) p (ae,i)=cn tw p (ae,i)
 | [],_=>rfl
 |y::L,tw=>by
  rw[du,G3 h p i L,p9 h,if_neg (λx=>by rw[<- x.2.2]at x;cases x.1)]
def Dm.bar{b:List Pr}(h:Dm rs s)(k:SpB n c rs s)(M:cF n b):Dm rs (s.bar b):=by
 have x:∀b∈s.bs,b.Nodup:=λb q=>(k.bk b q).pd;refine⟨λi hi p A t Q=>?_,λj H=>?_,λy E=>?_⟩
 .have:=h.ru i hi p A t Q;refine wa (brg b) (ig.mpr ?_);unfold jN;rw[G3 x];exact ig.mp this
 .have H:j<(s.bs++[b]).length:=H;rw[a8,dW]at H;have J:∀p,j≠s.bs.length->cn (s.bar b).tw p (ab,j)=cn (jN s.bs s.tw b) p (ab,j):=λp e=>ol (λz=>e (qt z).2) p (brg b) _;show(∀p,cn (s.bar b).tw p (ab,j)=if p∈(s.bs++[b]).getD j [] then 1 else 0)\/∃j2,j<j2/\j2<(s.bs++[b]).length/\∀p∈(s.bs++[b]).getD j2 [],p∈(s.bs++[b]).getD j []
  by_cases e:j=s.bs.length
  .refine .inl λp=>?_;rw[om,if_pos e,e]
   have L:cn (jN s.bs s.tw b) p (ab,s.bs.length)=0:=Nat.eq_zero_of_not_pos λq=>by
    have:s.bs.length<s.bs.length:=jM.mp ((k.tw.dropped x b).vl p _ (ig.mpr q));exact gt _ this
   show cn (gn (ab,s.bs.length) (brg b) (jN s.bs s.tw b)) p (ab,s.bs.length)=_;rw[BD,L,lV,M.pd.count]
  .have C:j<s.bs.length:=by lia
   rw[om,if_neg e]
   by_cases I:(ab,j)∈wider s.tw b
   .refine .inr ⟨s.bs.length,C,by rw[a8,dW];lia,λp A=>?_⟩;rw[om,if_pos rfl]at A;exact(k.tw.wide I).2.2.1 p A
   .rcases h.br j C with q |⟨j2,q1,q2,q3⟩
    .refine .inl λp=>?_;rw[J p e];unfold jN;rw[vN x p _ _ _ I];exact q p
    .refine .inr ⟨j2,q1,by rw[a8,dW];lia,λp A=>?_⟩;rw[om,if_neg (by lia)]at A;exact q3 p A
 .have E:y∈gys rs.length (s.bs++[b]).length:=E;rw[a8,dW,sg]at E
  rcases bT.mp E with q |q
  .exact fD _ (h.al y q)
  .exact dE _ q
def G4{n:Nat}{rs:List Rul}(hn:n<=60):∀(bars:List (List Pr)) (s:Spt) (c:Nat),(∀b∈bars,cF n b)->SpB n c rs s->Dm rs s->Dm rs (bars.foldl Spt.bar s)
 | [],_,_,_,_,h=>h
 |b::bars,s,c,hb,k,h=>G4 hn bars (s.bar b) (c+3840) (λx hx=>hb x (bo _ hx)) (k.bar (hb b aN) hn) (h.bar k (hb b aN))
structure iF(rs:List Rul)(bars:List (List Pr))(es:List (Option Bool)):Prop where
 ru:∀r∈rs,eY (grd r) es []
 br:∀b∈bars,eY (brg b) es []
 gr:v9 rs es
def eY.sub{z:List Prt}(h:eY G es S)(A:∀p∈G,p∈z):eY z es S:=⟨λq=>h.ns λp x=>q p (A p x),λt b a c d e=>h.np t b a c d λp x=>e p (A p x)⟩
def Ind.wch{bs:List (List Pr)}(h:Ind bs tw j):Wch rs bs tw (ab,j):=λp x t A=>by
 have x:p∈brg (bs.getD j []):=x;obtain⟨z,hz,rfl⟩:=bf.mp x
 have e:t=z.1/\gP (brP z)=z.2:=by
  obtain⟨u,b⟩:=z
  cases b with
  |true=>exact⟨dF.mp A,rfl⟩
  |false=>exact⟨dF.mp A,rfl⟩
 rw[e.1,e.2];refine ig.mpr ?_;rw[h z,if_pos hz];exact Nat.one_pos
def QW(hn:n<=60)(T:es.length=n)(hr:∀r∈rs,RuK n r/\(grd r).length<=q)(hz:rs.length<=250)(hb:∀b∈bars,cF n b)(J:SpJ n c B rs (d7 es rs bars))(he:(stF rs c (Me c (d7 es rs bars)+1) (d7 es rs bars)).1=ac):iF rs bars (stF rs c (Me c (d7 es rs bars)+1) (d7 es rs bars)).2.es:=by
 have H:∀r∈rs,RuK n r:=λr h=>(hr r h).1;have L:Dm rs (d7 es rs bars):=G4 hn bars _ _ hb (BN hn T hr) (QV es rs);have e1:(d7 es rs bars).bs=bars:=(sn bars (spT es rs)).1;have jr:Jr rs (d7 es rs bars):=λ_ y Y _=>.inl (L.al y Y);have k1:=v8 H (by lia) (Me c (d7 es rs bars)+1) _ J (dh _);obtain⟨j1,j2,j3,j4⟩:=GZ H (by lia) _ _ J (dh _) jr he;generalize d7 es rs bars=s at *;generalize stF rs c (Me c s+1) s=R at *;have M:R.2.bs=bars:=k1.bs.trans e1
 have hq:∀y∈gys rs.length bars.length,Wch rs bars s.tw y->eY (cg rs bars y) R.2.es []:=λy Y hw=>by
  rcases j1 y y (by rw[M];exact Y) (by rw[M,j4];exact hw)with z |z
  .rw[j2]at z;cases z
  .rw[if_pos rfl,M]at z;exact z
 have I:=L.ru;have C:=L.br;rw[e1]at I C
 have A:∀(m j:Nat),bars.length-j=m->j<bars.length->eY (brg (bars.getD j [])) R.2.es []:=by
  intro m
  induction m using Nat.strongRecOn with
  |ind m ih=>
   intro j hm E
   rcases C j E with z |⟨j2,z1,z2,z3⟩
   .exact hq (ab,j) (jM.mpr E) z.wch
   .refine(ih (bars.length-j2) (by lia) j2 rfl z2).sub λp hp=>?_;obtain⟨u,hu,rfl⟩:=bf.mp hp;exact bf.mpr ⟨u,z3 u hu,rfl⟩
 refine⟨λr U=>?_,λb Q=>?_,j3⟩
 .obtain⟨i,hi⟩:=ou U;have x:=(dq.mp hi).1;have:=hq (ae,i) (jM.mpr x) (I i x)
  have e:cg rs bars (ae,i)=grd r:=by
   show((rs[i]?).map grd).getD []=_;rw[hi];rfl
  rw[e]at this;exact this
 .obtain⟨j,E⟩:=ou Q;have x:=(dq.mp E).1;have:=A _ j rfl x;rw[bD,E]at this;exact this
def QX{bs:List (List Pr)}(x:y∈gys rs.length bs.length):(∃r∈rs,cg rs bs y=grd r)\/∃b∈bs,cg rs bs y=brg b:=by
 obtain⟨a,j⟩:=y;have h:=jM.mp x
 cases a with
 |false=>
  have h:j<rs.length:=h;refine .inl ⟨rs[j],kL h,?_⟩;show((rs[j]?).map grd).getD []=_;rw[cj h]
  rfl
 |true=>
  have h:j<bs.length:=h;refine .inr ⟨bs[j],kL h,?_⟩;show brg (bs.getD j [])=_;rw[bD,cj h];rfl
variable{F:List (Option Bool)}
def BS{t:Nat}(f:bH e F)(h:F.getD t ac=aa b):bH (put e t b) F:=by
 refine⟨by rw[d3];exact f.len,λi=>?_⟩
 by_cases q:i=t
 .by_cases x:t<e.length
  .rw[q,ko e b x];exact .inr h
  .exact .inl (by rw[q,bD,cY (by rw[d3];lia)];rfl)
 .rw[gO e b q];exact f.at' i
def QY{t:Nat}(f:bH e F)(h:t<e.length):bH (put e t b) (put F t b):=by
 refine⟨by rw[d3,d3];exact f.len,λi=>?_⟩
 by_cases q:i=t
 .rw[q,ko e b h,ko F b (by rw[f.len];exact h)];exact .inr rfl
 .rw[gO e b q,gO F b q];exact f.at' i
structure oq(n:Nat)(rs:List Rul)(bs:List (List Pr))(rs2:List Rul)(bs2:List (List Pr)):Prop where
 ru:∀r,r∈rs2↔r∈rs
 br:∀b,b∈bs2↔b∈bs
 ok:∀r∈rs,RuK n r
 bk:∀b∈bs,cF n b
variable{rs2:List Rul}{bs2:List (List Pr)}
def iF.guard{bs:List (List Pr)}(h:iF rs bs F)(m:oq F.length rs bs rs2 bs2)(H:y∈gys rs2.length bs2.length):eY (cg rs2 bs2 y) F []/\∀p∈cg rs2 bs2 y,p.Ok F.length:=by
 rcases QX H with⟨r,E,e⟩ |⟨b,C,e⟩
 .rw[e];have z:=(m.ru r).mp E;exact⟨h.ru r z,λp A=>(rX (m.ok r z) p A).1⟩
 .rw[e];have x:=(m.br b).mp C;exact⟨h.br b x,λp A=>(vO (m.bk b x) p A).1⟩
abbrev wb(F:List (Option Bool))(wo:List Bool):List Bool:=(bI wo.length).map λi=>wo.getD i ae && !(F.getD i ac==aa ae)
def wc(F:List (Option Bool))(wo:List Bool)(i:Nat):(wb F wo).getD i ae=(wo.getD i ae && !(F.getD i ac==aa ae)):=by
 unfold wb;rw[bD,cA]
 by_cases h:i<wo.length
 .rw[qg h];rfl
 .rw[cY (by rw[cT];lia),bD,cY (by lia)];rfl
def iF.grp{bs:List (List Pr)}(h:iF rs bs F)(m:oq F.length rs bs rs2 bs2)(f:bH e F)(g:Grp rs2 e wo)(i:Nat)(hi:wo.getD i ae=ab):F.getD i ac=aa ae:=by
 have H:Grp rs F (wb F wo):=by
  refine⟨by unfold wb;rw[aH,cT,g.len,f.len],λj A e=>?_,λr L C=>?_⟩
  .rw[wc,e,Bool.and_comm]at A;cases A
  .rw[wc]at C;obtain⟨I,Q⟩:=(cx _ _).mp C;obtain⟨E,M⟩:=dX.mp L;refine uc (λp J z=>BQ (by rw[<- f.len];exact(m.ok r E).ok.ps p J) (λj q=>?_) (λj q=>?_) z) (g.up r (dX.mpr ⟨(m.ru r).mpr E,M⟩) I)
   .rcases f.at' j with u |u
    .rw[q]at u;cases u
    .exact u.trans q
   .by_cases x:F.getD j ac=aa ae
    .exact .inl x
    .rcases q with q |q
     .rcases f.at' j with u |u
      .rw[q]at u;cases u
      .exact .inl (u.trans q)
     .refine .inr ?_;rw[wc,q,beq_false_of_ne x];rfl
 have:=h.gr _ H i;rw[wc,hi,qe]at this;exact eq_of_beq (by simpa using this)
variable{e':List (Option Bool)}
def iF.mvs{bs:List (List Pr)}(h:iF rs bs F)(m:oq F.length rs bs rs2 bs2)(f:bH e F)(k:Mvs rs2 bs2 e e'):bH e' F:=by
 induction k with
 |refl=>exact f
 | @press e1 t b y _ J L M H E z=>
  obtain⟨q,ok⟩:=h.guard m J;have hok:∀p∈cg rs2 bs2 y,p.Ok (put e1 t.toNat (!b)).length:=λp A=>by rw[d3,<- z.len];exact ok p A
  refine BS z ?_
  cases C:F.getD t.toNat ac with
  |none=>
   exact absurd (q.np t b L (by rw[z.len];exact M) (by unfold opn;rw[C];rfl) λp A=>xZ (QY z (by lia)) (hok p A) (E p A)) (λx=>nomatch x)
  |some v=>
   by_cases hv:v=b
   .rw[hv]
   .have hv:v=!b:=by cases v <;> cases b <;> first |rfl |exact absurd rfl hv
    exact absurd (λp A=>xZ (BS z (by rw[C,hv])) (hok p A) (E p A)) q.ns
 | @out e1 wo _ g H z=>
  refine⟨?_,λi=>?_⟩
  .rw[z.len];unfold lP
   have:∀(ts:List Int) (e:List (Option Bool)),(ts.foldl (λes t=>put es t.toNat ae) e).length=e.length:=by
    intro ts
    induction ts with
    |nil=>intro e;rfl
    |cons t ts z=>intro e;rw[du,z,d3]
   exact(this _ _).symm
  .rw[BP wo e1 g.len];split
   .rename_i I;exact .inr (h.grp m z g i I)
   .exact z.at' i
def iF.ended{bs:List (List Pr)}(h:iF rs bs F)(m:oq F.length rs bs rs2 bs2)(f:bH e F)(k:BM rs2 bs2 e):False:=by
 rcases k with⟨y,E,C⟩ |⟨wo,g,i,hi,x⟩
 .obtain⟨q,ok⟩:=h.guard m E;exact q.ns λp z=>xZ f (by rw[<- f.len];exact ok p z) (C p z)
 .have A:=h.grp m f g i hi
  rcases f.at' i with u |u
  .rw[x]at u;cases u
  .rw[A,x]at u;cases u
def Mvs.full{bs:List (List Pr)}(k:Mvs rs bs e e'):bH e e':=by
 have A:∀{a b c:List (Option Bool)},bH a b->bH b c->bH a c:=λf g=>⟨g.len.trans f.len,λi=>by
  rcases f.at' i with q |q
  .exact .inl q
  .rcases g.at' i with z |z
   .exact .inl (q.symm.trans z)
   .exact .inr (z.trans q)⟩
 induction k with
 |refl=>exact bH.refl _
 |press _ _ E _ x _ h=>exact A h (GQ E x)
 | @out e1 wo _ g x h=>
  refine A h ⟨?_,λi=>?_⟩
  .unfold lP
   have:∀(ts:List Int) (e:List (Option Bool)),(ts.foldl (λes t=>put es t.toNat ae) e).length=e.length:=by
    intro ts
    induction ts with
    |nil=>intro e;rfl
    |cons t ts h=>intro e;rw[du,h,d3]
   exact this _ _
  .rw[BP wo e1 g.len];split
   .rename_i C;exact .inl (x i C)
   .exact .inr rfl
def QZ(f:bH e F)(g:bH F e):e=F:=by
 apply lT;intro i
 by_cases h:i<e.length
 .have h':i<F.length:=by rw[f.len];exact h
  have a:=f.at' i;have b:=g.at' i;rw[bD,bD,cj h,cj h']at a b;rw[cj h,cj h'];have a:e[i]=ac\/F[i]=e[i]:=a;have b:F[i]=ac\/e[i]=F[i]:=b
  rcases a with q |q
  .rcases b with z |z
   .rw[q,z]
   .rw[z]
  .rw[q]
 .rw[cY (by lia),cY (by rw[f.len];lia)]
abbrev sr(r:Rul):Prop:=∀p∈r.ps,(nmP p).length<=3
def we{z:Type}{xs:List z}{a b:Nat}{x:z}(h:x∈(xs.drop a).take b):x∈xs:=mem_of_mem_drop (mem_of_mem_take h)
def Q0(I:Bool)(c n:Int)(n0:0<=n)(U:n<=60):∃d,Ah [.int c,.int n,.bl I]=aa d/\∃r:Rul,d=r.toD/\r.Ok n.toNat/\r.ps.length<=3/\sr r:=by
 apply lH;unfold uY;show wp _ [.im (.int c),.im (.int n),.im (.bl I),.no,.no] _;obtain⟨d,em,xs,rfl,hl,hx⟩:=rS c 33 (by decide) (by decide);have hl':xs.length=33:=by lia
 obtain⟨Y,h0,e0⟩:=c6 (f:=D.int) (xs:=xs) (i:=0) (by decide) (by lia);obtain⟨J,h1,e1⟩:=c6 (f:=D.int) (xs:=xs) (i:=1) (by decide) (by lia);obtain⟨H,h2,e2⟩:=c6 (f:=D.int) (xs:=xs) (i:=2) (by decide) (by lia);walk_at "set";apply ay;walk_at "if0"
 .intro M;have hn:n=0:=by simpa using M
  subst hn;obtain⟨wd,T,ew⟩:=c6 (f:=D.str) (xs:=["least","most"]) (i:=Y % 2) (dU _ (by decide)) (d8 _ (by decide));have A:=dM T;simp only[aQ,cG,or_false]at A
  obtain⟨p,L,C,E⟩:∃p:Prt,p.toD=.tup [.str wd,.int (J % 3-1),.lst []]/\p.Ok 0/\(nmP p).length<=3:=by
   rcases A with rfl |rfl
   .exact⟨.least (J % 3-1) [],rfl,⟨(λz hz=>nomatch hz),by decide⟩,c4 _⟩
   .exact⟨.most (J % 3-1) [],rfl,⟨(λz hz=>nomatch hz),by decide⟩,c4 _⟩
  have es:mSl (aI (ag (bw (ag (mIx (ag (kSt "least") (ag (kSt "most") nZ)) (m2 bx (mIx (ar 3) (kI 0)) (kI 2))) (ag (m2 nI (m2 bx (mIx (ar 3) (kI 1)) (kI 3)) (kI 1)) (ag (aI nZ) nZ)))) nZ)) (λ_=>aa ac) (mPt (m2 bx (mIx (ar 3) (kI 2)) (kI 6))) [.im (.int c),.im (.int 0),.im (.bl I),.im (.lst (xs.map D.int)),.no]=aa ((([p].drop (HT.sIx [p].length 0 ac)).take (HT.sIx [p].length [p].length (aa (H % 6))-HT.sIx [p].length 0 ac)).map Prt.toD):=by
   refine mz (xs:=[p]) (g:=Prt.toD) ?_ rfl ?_
   .rw[bp,map_nil,L];walk_at "ev"
   .unfold mPt;rw[show(m2 bx (mIx (ar 3) (kI 2)) (kI 6)) [.im (.int c),.im (.int 0),.im (.bl I),.im (.lst (xs.map D.int)),.no]=aa (.int (H % 6)) by walk_at "ev"];rfl
  refine hV (eV (ax rfl (ax rfl (ax (bV es) rfl)))) (d5 ⟨⟨.never,0,_⟩,rfl,⟨λh=>absurd rfl h,λq Q=>?_,?_⟩,?_,λq Q=>?_⟩)
  .have:q=p:=by simpa using we Q
   rw[this];exact C
  .show(List.take _ (List.drop _ [p])).length<=_;rw[jT,kO];show min _ (1-_)<=_;lia
  .show(List.take _ (List.drop _ [p])).length<=_;rw[jT,kO];show min _ (1-_)<=_;lia
  .have:q=p:=by simpa using we Q
   rw[this];exact E
 .intro M;have hn:n≠0:=by simpa using M
  have n1:1<=n:=by lia
  apply ca;walk_at "nrm";obtain⟨t,ht,et⟩:=c6 (f:=D.int) (xs:=[1,1,2,2,3,0]) (i:=Y % 6) (dU _ (by decide)) (d8 _ (by decide))
  have t3:0<=t/\t<=3:=by
   have:∀x∈([1,1,2,2,3,0]:List Int),0<=x/\x<=3:=by decide
   exact this t (dM ht)
  obtain⟨ps,L,lp,C⟩:=Bh (k:=1) (js:=[1,3]) (fi:=(iV (ag (mIx (ag (kI 1) (ag (kI 1) (ag (kI 2) (ag (kI 2) (ag (kI 3) (ag (kI 0) nZ)))))) (m2 bx (mIx (ar 3) (kI 0)) (kI 6))) nZ))) (g:=aG 0) (ft:=λ_=>aa ab) (fe:=(aB uX (ag (aI (mSl (af 2) (mPt (m2 cy (kI 3) (m2 dJ (kI 10) (af 0)))) (mPt (m2 cy (kI 13) (m2 dJ (kI 10) (af 0)))))) (ag (af 1) nZ)))) (ρ:=[.im (.int c),.im (.int n),.im (.bl I),.im (.lst (xs.map D.int)),.no]) (bI t.toNat) (λ(i:Nat)=>D.int i) Prt.toD (λp=>p.Ok n.toNat/\(nmP p).length<=3) (pE (by walk_at "ev") t3.1 (by lia)) (by rw[cT];lia) λi hi=>by
   have hi:=eM.mp hi
   have es:mSl (af 2) (mPt (m2 cy (kI 3) (m2 dJ (kI 10) (af 0)))) (mPt (m2 cy (kI 13) (m2 dJ (kI 10) (af 0)))) [.im (.int i),.im (.int n),.im (.lst (xs.map D.int))]=aa ((((xs.drop (HT.sIx xs.length 0 (aa (3+10*(i:Int)))))).take (HT.sIx xs.length xs.length (aa (13+10*(i:Int)))-HT.sIx xs.length 0 (aa (3+10*(i:Int))))).map D.int):=by
    refine mz rfl ?_ ?_
    .unfold mPt;rw[show(m2 cy (kI 3) (m2 dJ (kI 10) (af 0))) [.im (.int i),.im (.int n),.im (.lst (xs.map D.int))]=aa (.int (3+10*(i:Int))) by walk_at "ev"];rfl
    .unfold mPt;rw[show(m2 cy (kI 13) (m2 dJ (kI 10) (af 0))) [.im (.int i),.im (.int n),.im (.lst (xs.map D.int))]=aa (.int (13+10*(i:Int))) by walk_at "ev"];rfl
   obtain ⟨d,ed,p,rfl,C,E⟩:=O4 ((xs.drop (HT.sIx xs.length 0 (aa (3 + 10 * (i:Int))))).take (HT.sIx xs.length xs.length (aa (13 + 10 * (i:Int))) - HT.sIx xs.length 0 (aa (3 + 10 * (i:Int))))) n (by
    rw[jT,kO,show(3+10*(i:Int))=((3+10*i:Nat):Int) by lia,show(13+10*(i:Int))=((13+10*i:Nat):Int) by lia,HT.sIx_nat,HT.sIx_nat];lia) (λy hy=>hx y (we hy)) n1 U
   exact⟨p,⟨C,E⟩,fu rfl rfl (aS (ax (bV es) (ax rfl rfl)) ed)⟩
  rw[cT]at lp;apply ay;refine bM (bV L) ?_;walk_at "nrm";have eN:(m2 dNe (af 4) (aI nZ)) [.im (.int c),.im (.int n),.im (.bl I),.im (.lst (xs.map D.int)),.im (.lst (ps.map Prt.toD))]=aa (.bl (!ps.isEmpty)):=aP rfl rfl (EA _ _);apply ay;walk_at "if0"
  .intro _;walk_at "if0";exact d5 ⟨⟨.never,0,ps⟩,rfl,⟨λh=>absurd rfl h,λp h=>(C p h).1,by show ps.length<=_;lia⟩,by show ps.length<=3;lia,λp h=>(C p h).2⟩
  .intro _;apply ca;walk_at "nrm";obtain⟨w,hw,ew⟩:=c6 (f:=λw:Wrd=>D.str w.s) (xs:=[.make,.may]) (i:=J / 8 % 2) (dU _ (by decide)) (d8 _ (by decide));have q0:=dU (H / 4) (show n≠0 by lia);have q1:=d8 (H / 4) (show 0<n by lia);walk_at "if0";refine d5 ⟨⟨w,H / 4 % n,ps⟩,?_,⟨λ_=>⟨q0,by show H / 4 % n<_;lia⟩,λp h=>(C p h).1,by show ps.length<=_;lia⟩,by show ps.length<=3;lia,λp h=>(C p h).2⟩;have A:=dM hw;simp only[aQ,cG,or_false]at A
   rcases A with rfl |rfl <;> rfl
def Q1(kind k h n:Int)(E:0<=kind)(A:kind<5)(x:0<=k)(H:k<n)(C:0<=h)(o1:h<n):(atI [D.non,.tup [.str "in",.int k],.tup [.str "out",.int k],.tup [.str "least",.int 2,.lst [.tup [.int k,.int 2],.tup [.int h,.int 1]]],.tup [.str "most",.int 0,.lst [.tup [.int k,.int 1]]]] kind=aa .non)\/∃p:Prt,(p.Ok n.toNat/\(nmP p).length<=3)/\atI [D.non,.tup [.str "in",.int k],.tup [.str "out",.int k],.tup [.str "least",.int 2,.lst [.tup [.int k,.int 2],.tup [.int h,.int 1]]],.tup [.str "most",.int 0,.lst [.tup [.int k,.int 1]]]] kind=aa p.toD:=by
 have:kind=0\/kind=1\/kind=2\/kind=3\/kind=4:=by lia
 rcases this with rfl |rfl |rfl |rfl |rfl
 .exact .inl rfl
 .exact .inr ⟨.inn k,⟨⟨x,by lia⟩,by show 1<=3;decide⟩,rfl⟩
 .exact .inr ⟨.out k,⟨⟨x,by lia⟩,by show 1<=3;decide⟩,rfl⟩
 .refine .inr ⟨.least 2 [(k,2),(h,1)],⟨⟨λz hz=>?_,by show 2<=100000;decide⟩,by show 2<=3;decide⟩,rfl⟩;simp only[aQ,cG,or_false]at hz
  rcases hz with rfl |rfl
  .exact⟨x,by show k<_;lia,by show(0:Int)<=2;decide⟩
  .exact⟨C,by show h<_;lia,by show(0:Int)<=1;decide⟩
 .refine .inr ⟨.most 0 [(k,1)],⟨⟨λz hz=>?_,by show 1<=100000;decide⟩,by show 1<=3;decide⟩,rfl⟩;have:z=(k,1):=by simpa using hz
  subst this;exact⟨x,by show k<_;lia,by show(0:Int)<=1;decide⟩
def Q2(kind n:Int)(T:0<=kind)(E:kind<5)(n0:0<=n)(n60:n<=60):∃rs:List Rul,Ag [.int kind,.int n]=aa (rs.map Rul.toD)/\(∀r∈rs,r.Ok n.toNat/\r.ps.length<=3/\sr r)/\rs.length<=60:=by
 have h:wp rH (eU 6 [.int kind,.int n]) (λo=>∃rs:List Rul,o=.rtO (rs.map Rul.toD)/\(∀r∈rs,r.Ok n.toNat/\r.ps.length<=3/\sr r)/\rs.length<=60):=by
  unfold rH;show wp _ [.im (.int kind),.im (.int n),.no,.no,.no,.no] _;walk_at "set";apply ay
  refine eE (bI n.toNat) (λ(i:Nat)=>D.int i) (λpre ρ=>∃(rs:List Rul) (I J L:Sl),ρ=[.im (.int kind),.im (.int n),.own (rs.map Rul.toD),I,J,L]/\(∀r∈rs,r.Ok n.toNat/\r.ps.length<=3/\sr r)/\rs.length<=pre.length)
   (pE (by walk_at "ev") n0 (by lia)) ⟨[],.no,.no,.no,rfl,(λz hz=>nomatch hz),aL _⟩ ?_ ?_
  .rintro pre i post ρ ex ⟨rs,I,J,L,rfl,x,A⟩;have hi:i<n.toNat:=eM.mp (by rw[ex];simp)
   have U:pre.length<n.toNat:=by
    have:pre.length<(bI n.toNat).length:=by rw[ex];simp
    simpa using this
   have hn:0<n:=by lia
   have M:=dU ((i:Int)+1) (show n≠0 by lia);have q1:=d8 ((i:Int)+1) hn;refine⟨_,rfl,?_⟩;walk_at "nrm";walk_at "set"
   rcases Q1 kind i (((i:Int)+1) % n) n T E (by lia) (by lia) M q1 with e |⟨p,hp,e⟩
   .apply ay;refine bM (by walk_at "ev") ?_;walk_at "nrm";refine bq (b:=ae) rfl (λh=>by cases h) (λ_=>ca ?_);exact⟨rs,_,_,_,rfl,x,by rw[a8];exact Nat.le_succ_of_le A⟩
   .apply ay;refine bM (by walk_at "ev") ?_;walk_at "nrm";clear e;have w0:0<=(i:Int)*kind % 5 / 4:=Int.ediv_nonneg (dU _ (by decide)) (by decide)
    have w1:(i:Int)*kind % 5 / 4<2:=by
     have:=d8 ((i:Int)*kind) (show(0:Int)<5 by decide);lia
    obtain⟨w,hw,Q⟩:=c6 (f:=λw:Wrd=>D.str w.s) (xs:=[.make,.may]) (i:=(i:Int)*kind % 5 / 4) w0 w1
    refine bq (b:=ab) (cK (aP rfl rfl (by cases p <;> rfl))) (λ_=>?_) (λh=>by cases h)
    refine lG (eV (ax (aT (by walk_at "ev") (by walk_at "ev") Q) (ax rfl (ax (bV (ax rfl rfl)) rfl)))) rfl (by rw[aH];lia) ?_;have C:=dM hw;simp only[aQ,cG,or_false]at C;refine⟨rs++[⟨w,((i:Int)+1) % n,[p]⟩],.im (.int i),.im (.int (((i:Int)+1) % n)),.im p.toD,?_,λr Y=>?_,by rw[a8,a8];exact Nat.add_le_add_right A 1⟩
    .rw[bO]
     rcases C with rfl |rfl <;> rfl
    .rcases bT.mp Y with h |h
     .exact x r h
     .have:r=⟨w,((i:Int)+1) % n,[p]⟩:=by simpa using h
      subst this;refine⟨⟨λ_=>⟨M,by show((i:Int)+1) % n<_;lia⟩,λq H=>?_,by show 1<=_;decide⟩,by show 1<=3;decide,λq H=>?_⟩
      .have:q=p:=by simpa using H
       subst this;exact hp.1
      .have:q=p:=by simpa using H
       subst this;exact hp.2
  .rintro ρ ⟨rs,I,J,L,rfl,x,A⟩;rw[cT]at A;exact pJ rfl ⟨rs,rfl,x,by lia⟩
 obtain⟨o,e,rs,rfl,x,A⟩:=h;exact⟨rs,yE e,x,A⟩
def Q3{h:Type}(f:h->Bool)(xs:List h):pG [.lst (xs.map λx=>D.bl (f x))]=aa (.bl (xs.all f)):=by
 have e:(xs.map λx=>D.bl (f x))=(xs.map f).map D.bl:=by rw[map_map];rfl
 rw[e];show(hU ((xs.map f).map D.bl)).map (λbs=>D.bl (bs.all id))=_;rw[xY,Option.map_some,sD];rfl
def Q4(xs:List Int)(n:Int)(x:0<=n)(h:n<=(xs.length:Int)):((xs.drop (HT.sIx xs.length 0 ac)).take (HT.sIx xs.length xs.length (aa n)-HT.sIx xs.length 0 ac)).length=n.toNat:=by
 obtain⟨k,rfl⟩:∃k:Nat,n=(k:Int):=⟨n.toNat,by lia⟩;rw[show HT.sIx xs.length 0 ac=0 from rfl,HT.sIx_nat,jT,kO,eI];lia
def Q5(rs:List Rul)(hz:rs.length<=1000)(I:∀r∈rs,r.ps.length<=1000):m_3 [.lst (rs.map Rul.toD)]=aa (.lst (rs.map Rul.toD)):=by
 apply hZ;unfold b_3;show wp _ [.im (.lst (rs.map Rul.toD)),.no,.no,.no,.no,.no,.no] _;walk_at "set";apply ay;refine eE rs Rul.toD (λpre ρ=>∃A C E H h,ρ=[.im (.lst (rs.map Rul.toD)),.own (pre.map Rul.toD),A,C,E,H,h]) rfl ⟨_,_,_,_,_,rfl⟩ ?_ ?_
 .rintro pre r post ρ ex ⟨A,C,E,H,h,rfl⟩;have M:r∈rs:=by rw[ex];simp
  have J:pre.length<rs.length:=by rw[ex];simp
  have I:=I r M;refine⟨_,rfl,?_⟩;walk_at "nrm";apply ay;refine kh (d:=[]) rfl ?_;walk_at "nrm";apply ay;refine eE r.ps Prt.toD (λpr ρ=>∃h,ρ=[.im (.lst (rs.map Rul.toD)),.own (pre.map Rul.toD),.im (.str r.w.s),.im r.hdD,.im (.lst (r.ps.map Prt.toD)),.own (pr.map Prt.toD),h]) rfl ⟨_,rfl⟩ ?_ ?_
  .rintro pr p po ρ x ⟨h,rfl⟩;have L:pr.length<r.ps.length:=by rw[x];simp
   refine⟨_,rfl,?_⟩;walk_at "nrm";refine EB (λρ'=>ρ'=[.im (.lst (rs.map Rul.toD)),.own (pre.map Rul.toD),.im (.str r.w.s),.im r.hdD,.im (.lst (r.ps.map Prt.toD)),.own (pr.map Prt.toD),.im p.toD]) ?_ ?_
   .cases p with
    |inn t=>exact bq (b:=ae) rfl (λz=>by cases z) (λ_=>ca (k_J rfl))
    |out t=>exact bq (b:=ae) rfl (λz=>by cases z) (λ_=>ca (k_J rfl))
    |least k its=>exact bq (b:=ab) rfl (λ_=>bM (eV (ax (aT rfl rfl rfl) (ax (aT rfl rfl rfl) (ax (bV (dn (aT rfl rfl rfl) rfl)) rfl)))) (k_J rfl)) (λz=>by cases z)
    |most k its=>exact bq (b:=ab) rfl (λ_=>bM (eV (ax (aT rfl rfl rfl) (ax (aT rfl rfl rfl) (ax (bV (dn (aT rfl rfl rfl) rfl)) rfl)))) (k_J rfl)) (λz=>by cases z)
   .rintro ρ' rfl;refine lG rfl rfl (by rw[aH];lia) ?_;exact⟨.im p.toD,by rw[bO];rfl⟩
  .rintro ρ ⟨h,rfl⟩;refine jC rfl ?_;refine lG (eV (ax rfl (ax rfl (ax rfl rfl)))) rfl (by rw[aH];lia) ?_;exact⟨.im (.str r.w.s),.im r.hdD,.im (.lst (r.ps.map Prt.toD)),.im (.lst (r.ps.map Prt.toD)),h,by rw[bO];rfl⟩
 .rintro ρ ⟨A,C,E,H,h,rfl⟩;exact pJ rfl (gi rfl)
def Q6(c n:Int)(z:0<=n)(I:n<=60):∃d,Ai [.int c,.int n]=aa d/\∃es:List (Option Bool),d=.lst (es.map shD)/\(es.length:Int)=n:=by
 apply lH;unfold uZ;show wp _ [.im (.int c),.im (.int n),.no] _;obtain⟨d,em,xs,rfl,E,hx⟩:=rS c (n+1) (by lia) (by lia);apply ay;refine bM (aS (ax rfl (ax (aP rfl rfl my) rfl)) em) ?_;walk_at "nrm";obtain⟨y,H,A⟩:=c6 (f:=D.int) (xs:=xs) (i:=n) z (by lia);have C:=Q4 xs n z (by lia);generalize h:(xs.drop (HT.sIx xs.length 0 ac)).take (HT.sIx xs.length xs.length (aa n)-HT.sIx xs.length 0 ac)=ys at C
 have es:mSl (af 2) (λ_=>aa ac) (mPt (af 1)) [.im (.int c),.im (.int n),.im (.lst (xs.map D.int))]=aa (ys.map D.int):=by
  rw[<- h];exact mz rfl rfl rfl
 apply ay;refine bq (cK (aP (aP (aT rfl rfl A) rfl (jD (by decide))) rfl (mo _ _))) (λ_=>?_) (λ_=>ca ?_)
 .refine hX (gG ys D.int (λx=>D.non) (dn (bV es) rfl) (by lia) λx _=>fu rfl rfl rfl) (gi ⟨ys.map λx=>ac,by rw[map_map];rfl,by rw[aH];lia⟩)
 .walk_at "nrm";refine hX (gG ys D.int (λx=>shD ([ac,ac,ac,aa ab,aa ae].getD (x % 5).toNat ac)) (dn (bV es) rfl) (by lia) λx _=>fu rfl rfl (aT rfl (aP rfl rfl (jD (by decide))) (kf (es:=[ac,ac,ac,aa ab,aa ae]) (dU _ (by decide)) (d8 _ (by decide))))) (gi ⟨ys.map λx=>[ac,ac,ac,aa ab,aa ae].getD (x % 5).toNat ac,by rw[map_map];rfl,by rw[aH];lia⟩)
def Q7{a n:Int}(hi:(i:Int)<n)(C:(j:Int)<n)(h:(a+i) % n=(a+j) % n):i=j:=by
 have A:=Int.emod_emod_of_dvd (a+i) (Int.dvd_refl n);have x:n ∣ (a+i)-(a+j):=Int.dvd_of_emod_eq_zero (by rw[Int.sub_emod,h,Int.sub_self,Int.zero_emod]);obtain⟨k,E⟩:=x;have z:(i:Int)-j=n*k:=by lia
 rcases Int.lt_trichotomy k 0 with q |q |q
 .have:n*k<=n*(-1):=BV (by lia) (by lia);lia
 .rw[q,Int.mul_zero]at z;lia
 .have:n*1<=n*k:=BV (by lia) (by lia);lia
def Q8(c n:Int)(U:0<=n)(Y:n<=60):∃d,uT [.int c,.int n]=aa d/\∃b:List Pr,d=bA b/\cF n.toNat b:=by
 apply lH;unfold uS;show wp _ [.im (.int c),.im (.int n),.no] _;obtain⟨d,em,xs,rfl,T,hx⟩:=rS c 6 (by decide) (by decide);apply ay;refine bM (aS (ax rfl (ax rfl rfl)) em) ?_;walk_at "nrm";obtain⟨I,L,e0⟩:=c6 (f:=D.int) (xs:=xs) (i:=0) (by decide) (by lia);obtain⟨A,M,e1⟩:=c6 (f:=D.int) (xs:=xs) (i:=1) (by decide) (by lia);obtain⟨h,Q,e2⟩:=c6 (f:=D.int) (xs:=xs) (i:=2) (by decide) (by lia);apply ay
 by_cases hn:n=0
 .refine bq (b:=ab) (DN (cK (aP rfl rfl (by rw[hn];rfl)))) (λ_=>?_) (λz=>by cases z);exact hX (d:=[]) rfl (gi ⟨[],rfl,cF.nil _⟩)
 .have x:0<n:=by lia
  refine bq (b:=(I % 16==0)) (lC (cK (aP rfl rfl (by rw[mo,beq_false_of_ne hn]))) (cK (aP (aP (aT rfl rfl e0) rfl (jD (by decide))) rfl (mo _ _)))) (λ_=>?_) (λ_=>ca ?_)
  .exact hX (d:=[]) rfl (gi ⟨[],rfl,cF.nil _⟩)
  .have hm:0<(if n<3 then n else 3):=by split <;> lia
   have t0:=dU A (show(if n<3 then n else 3)≠0 by lia);have t1:=d8 A hm
   have t2:(if n<3 then n else 3)<=n:=by split <;> lia
   have t3:(if n<3 then n else 3)<=3:=by split <;> lia
   generalize J:1+A % (if n<3 then n else 3)=t;have E:t<=n/\t<=3/\0<=t:=by lia
   refine hX (d:=((bI t.toNat).map λi:Nat=>((h+(i:Int)) % n,xs.getD (3+(i:Int)).toNat 0 % 2==0)).map prD) ?_ (gi ⟨_,rfl,⟨λz hz=>?_,?_⟩⟩)
   .rw[map_map];refine gG (bI t.toNat) (λ(i:Nat)=>D.int i) _ (pE (n:=t) (ax (aP rfl (aP (aT rfl rfl e1) (aS (ax rfl (ax rfl rfl)) rfl) (jD hm)) (by rw[my,J])) rfl) E.2.2 (by lia)) (by rw[cT];lia) λi hi=>?_;have hi:=eM.mp hi;exact fu rfl rfl (eV (ax (aP (aP (aT rfl rfl e2) rfl my) rfl (jD x)) (ax (aP (aP (aT rfl (aP rfl rfl my) (nU (f:=D.int) (xs:=xs) 0 (by lia) (by lia))) rfl (jD (by decide))) rfl (mo _ _)) rfl)))
   .obtain⟨i,hi,rfl⟩:=bf.mp hz;have:=dU (h+(i:Int)) hn;have:=d8 (h+(i:Int)) x;show 0<=(h+(i:Int)) % n/\(h+(i:Int)) % n<(n.toNat:Int);lia
   .rw[map_map];refine pairwise_map.mpr (List.Pairwise.imp_of_mem ?_ nodup_range);intro i j hi H C e;have hi:=eM.mp hi;have H:=eM.mp H;exact C (Q7 (by lia) (by lia) e)
def Q9(xs:LD)(d:D):atI (xs++[d]) (-1)=aa d:=by
 unfold atI ixN;rw[if_neg (by decide),if_pos (by rw[a8,dW];lia),aA,a8,dW,lQ (by lia)];rw[show((-1:Int)+((xs.length+1:Nat):Int)).toNat-xs.length=0 by lia];rfl
variable{st:LD}{w:OD}
def Ra(h:kC n rs bars es es' st w):(st++fB w=[]/\w=ac)\/∃xs a b,st++fB w=xs++[.tup [a,b]]/\((a=.non/\w≠ac)\/((∃z,a=prD z)/\w=ac)):=by
 cases w with
 |some x=>exact .inr ⟨st,.non,x,rfl,.inl ⟨rfl,λe=>by cases e⟩⟩
 |none=>
  rw[show fB ac=[]from rfl,cB]
  rcases eq_nil_or_concat st with e |⟨xs,d,e⟩
  .exact .inl ⟨e,rfl⟩
  .have e:st=xs++[d]:=by rw[e,concat_eq_append]
   obtain⟨z,w,A,_⟩:=h.sv d (by rw[e];simp);exact .inr ⟨xs,prD z,w,by rw[e,A],.inr ⟨⟨z,rfl⟩,rfl⟩⟩
def Rb(xs:LD)(d:D):dNe (.lst (xs++[d])) (.lst [])=aa (.bl ab):=by cases xs <;> rfl
def Rc(h:f ρ=aa (.bl ae)):iT f g ρ=aa (.bl ae):=by
 unfold iT mB;rw[h];rfl
def Re(a b:Option Bool):deq 19 (shD a) (shD b)=aa (a==b):=by
 cases a with
 |none=>cases b with
  |none=>rfl
  |some y=>cases y <;> rfl
 |some x=>cases b with
  |none=>cases x <;> rfl
  |some y=>cases x <;> cases y <;> rfl
def G5:∀(xs ys:List (Option Bool)),xs.length=ys.length->df (deq 19) (xs.map shD) (ys.map shD)=aa (xs==ys)
 | [],[],_=>rfl
 |x::xs,y::ys,h=>by
  show((deq 19 (shD x) (shD y)).bind λb=>(df (deq 19) (xs.map shD) (ys.map shD)).map λr=>b && r)=_;rw[Re,G5 xs ys (by simpa using h)]
  rfl
 | [],_::_,h=>by cases h
 | _::_,[],h=>by cases h
def Rf(xs ys:List (Option Bool))(h:xs.length=ys.length):dEq (.lst (xs.map shD)) (.lst (ys.map shD))=aa (.bl (xs==ys)):=by
 show((if (xs.map shD).length=(ys.map shD).length then df (deq 19) (xs.map shD) (ys.map shD) else aa ae)).map D.bl=_;rw[if_pos (by rw[aH,aH,h]),G5 xs ys h];rfl
def Rg(f:bH es es')(hz:es.length<=1000):Ab [.lst (es'.map shD),.lst (es.map shD)]=aa (.bl ab):=by
 have H:=f.len
 have A:tX (ag (af 0) (ag (af 1) nZ)) [.im (.lst (es'.map shD)),.im (.lst (es.map shD)),.no,.no]=aa ((es'.zip es).map λz=>D.tup [shD z.1,shD z.2]):=by
  show aa (lS (λa b=>D.tup [a,b]) (es'.map shD) (es.map shD))=_;rw[zipWith_map,List.zip,map_zipWith]
 apply hZ;unfold uM;show wp _ [.im (.lst (es'.map shD)),.im (.lst (es.map shD)),.no,.no] _;apply ay;refine bq (b:=ae) (lC (iZ (b:=ab) rfl) (cK (aP (aS rfl (ib es' shD)) (aS rfl (ib es shD)) (by rw[H];show aa (D.bl (!((es.length:Int)==es.length)))=_;rw[beq_self_eq_true];rfl)))) (λz=>by cases z) (λ_=>ca ?_);walk_at "nrm";apply ay;refine eE (es'.zip es) (λz=>D.tup [shD z.1,shD z.2]) (λ_ ρ=>∃C E,ρ=[.im (.lst (es'.map shD)),.im (.lst (es.map shD)),C,E]) A ⟨_,_,rfl⟩ ?_ ?_
 .rintro pre z post ρ ex ⟨C,E,rfl⟩;refine⟨_,rfl,?_⟩;walk_at "nrm"
  have h:z.2=ac\/z.1=z.2:=by
   obtain⟨i,hi⟩:=ou (show z∈es'.zip es by rw[ex];simp);rw[List.getElem?_zip_eq_some]at hi
   rcases f.at' i with q |q
   .rw[bD,hi.2]at q;exact .inl q
   .rw[bD,bD,hi.1,hi.2]at q;exact .inr q
  refine bq (b:=ae) ?_ (λz=>by cases z) (λ_=>ca ⟨_,_,rfl⟩);obtain⟨a,b⟩:=z;have h:b=ac\/a=b:=h
  cases b with
  |none=>cases a with
   |none=>rfl
   |some x=>cases x <;> rfl
  |some y=>
   rcases h with q |q
   .cases q
   .subst q
    cases y <;> rfl
 .rintro ρ ⟨C,E,rfl⟩;exact hV (d:=.bl ab) rfl (d5 rfl)
abbrev BU(n:Nat)(d:D):Prop:=∃a w,d=.tup [a,w]/\(a=.non\/∃z:Pr,a=prD z/\0<=z.1/\z.1<(n:Int))
def Rh(h:BU n d):Ac [d,.int n]=aa (.bl ab):=by
 obtain⟨a,w,rfl,h⟩:=h;apply hZ;unfold uN;show wp _ [.im (.tup [a,w]),.im (.int n),.no] _;apply ay;refine bq (b:=ae) (lC (iZ (b:=ab) rfl) (cK (b:=ae) rfl)) (λz=>by cases z) (λ_=>ca ?_);walk_at "nrm";apply ay;refine bM (d:=a) (aT rfl rfl rfl) ?_;walk_at "nrm";apply ay
 rcases h with rfl |⟨z,rfl,z0,z1⟩
 .refine bq (b:=ab) rfl (λ_=>?_) (λz=>by cases z);exact hV (d:=.bl ab) rfl (d5 rfl)
 .refine bq (b:=ae) rfl (λz=>by cases z) (λ_=>ca ?_);walk_at "nrm";apply ay;refine bq (b:=ae) (lC (iZ (b:=ab) rfl) (lC (cK (b:=ae) rfl) (iZ (b:=ab) rfl))) (λz=>by cases z) (λ_=>ca ?_);walk_at "nrm";refine hV (d:=.bl ab) ?_ (d5 rfl);have e:n6 dLe dLt (kI 0) (mIx (ar 2) (kI 0)) (af 1) [.im (.tup [prD z,w]),.im (.int n),.im (prD z)]=aa (.bl (decide (0<=z.1) && decide (z.1<(n:Int)))):=Mi rfl (aT rfl rfl rfl) rfl rfl rfl;rw[decide_eq_true z0,decide_eq_true z1]at e;exact(lD (a:=ab) (b:=ab) rfl ((lD (a:=ab) (b:=ab) rfl e).trans rfl)).trans rfl
abbrev iG(es:List (Option Bool))(L:LD):D:=.tup [.lst (es.map shD),.lst L]
def G6{L:LD}(f:bH es es')(hz:es.length<=1000)(h:∀d∈L,BU es.length d)(x:L.length<=16777216):uP [iG es' L,.lst (es.map shD)]=aa (.bl ab):=by
 apply hZ;unfold uO;show wp _ [.im (iG es' L),.im (.lst (es.map shD))] _;apply ay;refine bq (b:=ae) (lC (iZ (b:=ab) rfl) (lC (cK (b:=ae) rfl) (iZ (b:=ab) (iA (aS (ax (aT rfl rfl rfl) (ax rfl rfl)) (Rg f hz)) rfl)))) (λz=>by cases z) (λ_=>ca ?_);walk_at "nrm";apply ay;refine bq (b:=ae) (iZ (b:=ab) rfl) (λz=>by cases z) (λ_=>ca ?_);walk_at "nrm";refine hV (d:=.bl ab) (aS (ax (bV (gG L id (λ_=>D.bl ab) (dn (aT rfl rfl rfl) (by rw[map_id];rfl)) x λd hd=>fu rfl rfl (aS (ax rfl (ax (aS rfl (ib es shD)) rfl)) (Rh (h d hd))))) rfl) ((Q3 (λ_=>ab) L).trans ?_)) (d5 rfl);rw[all_eq_true.mpr λ_ _=>rfl]
def G7(h:kC n rs bars es es' st w):rG [iG es' (st++fB w)]=aa (.bl w.isSome):=by
 refine fU (fT ?_)
 rcases Ra h with⟨E,J⟩ |⟨xs,a,b,E,H⟩
 .rw[E,J];exact Rc rfl
 .rw[E];have C:=Rb xs (.tup [a,b]);have A:=Q9 xs (.tup [a,b])
  rcases H with⟨rfl,I⟩ |⟨⟨z,rfl⟩,I⟩
  .have:w.isSome=ab:=by cases w with
    |none=>exact absurd rfl I
    |some x=>rfl
   rw[this];exact lD (a:=ab) (b:=ab) (aP (aT rfl rfl rfl) rfl C) (aP (aT (dn (aT (dn (aT rfl rfl rfl) rfl) rfl A) rfl) rfl rfl) rfl rfl)
  .rw[I];exact lD (a:=ab) (b:=ae) (aP (aT rfl rfl rfl) rfl C) (aP (aT (dn (aT (dn (aT rfl rfl rfl) rfl) rfl A) rfl) rfl rfl) rfl rfl)
def G8(h:kC n rs bars es es' st w):(∀d∈st++fB w,BU n d)/\(st++fB w).length<=16777216:=by
 refine⟨λd hd=>?_,?_⟩
 .rcases bT.mp hd with q |q
  .obtain⟨z,w,e,A,_⟩:=h.sv d q;exact⟨_,_,e,.inr ⟨z,rfl,A.1,A.2⟩⟩
  .cases w with
   |none=>cases q
   |some x=>exact⟨_,_,dF.mp q,.inl rfl⟩
 .have:=h.sl;rw[a8]
  cases w with
  |none=>show st.length+0<=_;lia
  |some x=>show st.length+1<=_;lia
variable{li:LD}{w2:OD}
def G9{A:List (List Pr)}(hn:es.length=n)(J:n<=60)(h:kC n rs bars es e1 st w)(C:kC n rs2 A e0 e2 li w2)(f:bH es e0)(Q:w.isSome=w2.isSome)(M:w=ac->e1=e2):uR [iG e1 (st++fB w),iG e2 (li++fB w2),.lst (es.map shD)]=aa (.bl ab):=by
 have f2:bH es e2:=by
  have g:=C.mv.full;refine⟨g.len.trans f.len,λi=>?_⟩
  rcases f.at' i with q |q
  .exact .inl q
  .rcases g.at' i with z |z
   .exact .inl (q.symm.trans z)
   .exact .inr (z.trans q)
 obtain⟨s1,s2⟩:=G8 C;have I:=G6 (L:=li++fB w2) f2 (by lia) (by rw[hn];exact s1) s2;have E:=G7 h;have H:=G7 C;apply hZ;unfold uQ;show wp _ [.im (iG e1 (st++fB w)),.im (iG e2 (li++fB w2)),.im (.lst (es.map shD))] _;apply ay;refine bq (b:=ae) (lC (iZ (b:=ab) (iA (aS (ax rfl (ax rfl rfl)) I) rfl)) (cK (aP (aS (ax rfl rfl) E) (aS (ax rfl rfl) H) (by rw[Q,K2,beq_self_eq_true];rfl)))) (λz=>by cases z) (λ_=>ca ?_);walk_at "nrm";refine hV (d:=.bl (w.isSome || e1==e2)) (xV (aS (ax rfl rfl) E) (aP (aT rfl rfl rfl) (aT rfl rfl rfl) (Rf _ _ (by rw[h.len,C.len])))) (d5 ?_)
 cases w with
 |some x=>rfl
 |none=>rw[M rfl,beq_self_eq_true];rfl
def Ri(hn:es.length=n)(h:kC n rs bars es es' st w):∃d,Af [iG es' (st++fB w),.lst (es.map shD)]=aa d/\∃A:List (Option Bool),d=.lst (A.map shD)/\bH es A/\bH A es':=by
 have g:=h.mv.full;apply lH;unfold uU;show wp _ [.im (iG es' (st++fB w)),.im (.lst (es.map shD)),.no,.no] _;apply ay;refine kh (d:=es.map shD) rfl ?_;walk_at "nrm";apply ay;generalize U:st++fB w=L
 have C:∀d∈L,∃a w,d=.tup [a,w]/\(a=.non\/∃z:Pr,a=prD z/\(0<=z.1/\z.1<(n:Int))/\es'.getD z.1.toNat ac=aa z.2):=λd hd=>by
  rw[<- U]at hd
  rcases bT.mp hd with q |q
  .obtain⟨z,w,e,M,H⟩:=h.sv d q;exact⟨_,_,e,.inr ⟨z,rfl,M,H⟩⟩
  .cases w with
   |none=>cases q
   |some x=>exact⟨_,_,dF.mp q,.inl rfl⟩
 have E:mSl (mIx (ar 0) (kI 1)) (λ_=>aa ac) (mPt (m2 iU (m2 cy (aB dC (ag (mIx (ar 0) (kI 1)) nZ)) (kI 1)) (kI 2))) [.im (iG es' L),.im (.lst (es.map shD)),.own (es.map shD),.no]=aa (((L.drop (HT.sIx L.length 0 ac)).take (HT.sIx L.length L.length (aa (((L.length:Int)+1) / 2))-HT.sIx L.length 0 ac)).map id):=by
  refine mz (g:=id) (xs:=L) ?_ rfl ?_
  .rw[map_id];exact aT rfl rfl rfl
  .unfold mPt;have:=ib L (id:D->D);rw[map_id]at this;rw[aP (aP (aS (ax (aT rfl rfl rfl) rfl) this) rfl my) rfl (ur ⟨by decide,by decide⟩)];rfl
 generalize Y:(L.drop (HT.sIx L.length 0 ac)).take (HT.sIx L.length L.length (aa (((L.length:Int)+1) / 2))-HT.sIx L.length 0 ac)=T at E;have I:∀d∈T,d∈L:=λd hd=>by rw[<- Y]at hd;exact we hd
 refine eE T id (λ_ ρ=>∃(A:List (Option Bool)) (J:Sl),ρ=[.im (iG es' L),.im (.lst (es.map shD)),.own (A.map shD),J]/\bH es A/\bH A es') (dn (bV E) rfl) ⟨es,_,rfl,bH.refl _,g⟩ ?_ ?_
 .rintro pre d post ρ ex ⟨A,J,rfl,f1,f2⟩;obtain⟨a,w',rfl,ha⟩:=C d (I d (by rw[ex];simp));refine⟨_,rfl,?_⟩;walk_at "nrm"
  rcases ha with rfl |⟨z,rfl,M,H⟩
  .exact bq (b:=ae) rfl (λz=>by cases z) (λ_=>ca ⟨A,_,rfl,f1,f2⟩)
  .have Q:A.length=n:=by rw[f1.len,hn]
   refine bq (b:=ab) rfl (λ_=>?_) (λz=>by cases z);refine Ev (k:=z.1) (xs:=A.map shD) (d:=.bl z.2) (aT (dn (aT rfl rfl rfl) rfl) rfl rfl) (aT (dn (aT rfl rfl rfl) rfl) rfl rfl) rfl M.1 (by rw[aH];lia) ?_;refine⟨put A z.1.toNat z.2,.im (.tup [prD z,w']),?_,⟨by rw[d3];exact f1.len,λi=>?_⟩,BS f2 H⟩
   .unfold put;rw[kP];rfl
   .by_cases q:i=z.1.toNat
    .rw[q,ko A z.2 (by lia)]
     rcases g.at' z.1.toNat with u |u
     .exact .inl u
     .exact .inr (H.symm.trans u)
    .rw[gO A z.2 q];exact f1.at' i
 .rintro ρ ⟨A,J,rfl,f1,f2⟩;exact pJ (d:=A.map shD) rfl (gi ⟨A,rfl,f1,f2⟩)
def Ha{C:Type}(f:C->D)(xs:List C)(x:Int)(hz:xs.length<=1000):∃d,m_9 [.lst (xs.map f),.int x]=aa d/\∃ys:List C,d=.lst (ys.map f)/\(∀y,y∈ys↔y∈xs)/\ys.length<=2*xs.length:=by
 apply lH;unfold b_9;show wp _ [.im (.lst (xs.map f)),.im (.int x),.no,.no] _;have H:(0:Int)<(xs.length:Int)+1:=by lia
 have I:=dU (x / 4) (show(xs.length:Int)+1≠0 by lia);have J:=d8 (x / 4) H;generalize Q:x / 4 % ((xs.length:Int)+1)=c at I J;obtain⟨k,rfl⟩:∃k:Nat,c=(k:Int):=⟨c.toNat,by lia⟩;apply ay;refine bM (d:=.int k) (aP (aP rfl rfl (ur ⟨by decide,by decide⟩)) (aP (aS rfl (ib xs f)) rfl my) ((jD H).trans (by rw[Q]))) ?_;walk_at "nrm"
 have L:mSl (af 0) (mPt (af 2)) (λ_=>aa ac) [.im (.lst (xs.map f)),.im (.int x),.im (.int k),.no]=aa ((xs.drop k).map f):=by
  have:=mz (f:=af 0) (l:=mPt (af 2)) (h:=λ_=>aa ac) (ρ:=[.im (.lst (xs.map f)),.im (.int x),.im (.int k),.no]) (g:=f) (xs:=xs) (lo:=aa (k:Int)) (hi:=ac) rfl rfl rfl;rw[HT.sIx_nat,show HT.sIx xs.length xs.length ac=xs.length from rfl,Nat.min_eq_left (by lia),take_of_length_le (by rw[kO];exact aL _)]at this;exact this
 have M:mSl (af 0) (λ_=>aa ac) (mPt (af 2)) [.im (.lst (xs.map f)),.im (.int x),.im (.int k),.no]=aa ((xs.take k).map f):=by
  have:=mz (f:=af 0) (l:=λ_=>aa ac) (h:=mPt (af 2)) (ρ:=[.im (.lst (xs.map f)),.im (.int x),.im (.int k),.no]) (g:=f) (xs:=xs) (lo:=ac) (hi:=aa (k:Int)) rfl rfl rfl;rw[HT.sIx_nat,show HT.sIx xs.length 0 ac=0 from rfl,Nat.min_eq_left (by lia),Nat.sub_zero,drop_zero]at this;exact this
 apply ay;refine bM (d:=.lst ((xs.drop k++xs.take k).map f)) (bV ?_) ?_
 .rw[bO];exact Bi (bV L) (bV M) (by rw[aH,aH,kO,jT];lia)
 have m1:∀y,y∈xs.drop k++xs.take k↔y∈xs:=λy=>by
  rw[bT];constructor
  .rintro(q |q)
   .exact mem_of_mem_drop q
   .exact mem_of_mem_take q
  .intro q;rw[<- take_append_drop k xs]at q;exact(bT.mp q).symm
 have E:(xs.drop k++xs.take k).length=xs.length:=by rw[a8,kO,jT];lia
 generalize xs.drop k++xs.take k=ys at m1 E;walk_at "nrm";refine EB (λρ'=>∃z:List C,ρ'=[.im (.lst (xs.map f)),.im (.int x),.im (.int k),.im (.lst (z.map f))]/\(∀y,y∈z↔y∈xs)/\z.length=xs.length) ?_ ?_
 .refine bq (cK (aP (aP rfl rfl (jD (by decide))) rfl (mo _ _))) (λ_=>?_) (λ_=>ca (k_J ⟨ys,rfl,m1,E⟩));refine bM (d:=.lst (ys.reverse.map f)) (bV (by show aa ((ys.map f).reverse)=_;rw[map_reverse])) ?_;exact k_J ⟨ys.reverse,rfl,λy=>by rw[mem_reverse];exact m1 y,by rw[length_reverse];exact E⟩
 .rintro ρ' ⟨z,rfl,A,T⟩;apply ay;refine bq (cK (aP (aP (aP rfl rfl (ur ⟨by decide,by decide⟩)) rfl (jD (by decide))) rfl (mo _ _))) (λ_=>?_) (λ_=>ca ?_)
  .refine bM (d:=.lst ((z++z).map f)) (bV (by rw[bO];exact Bi rfl rfl (by rw[aH];lia))) ?_;walk_at "nrm";exact yB (d:=.lst ((z++z).map f)) rfl (d5 ⟨z++z,rfl,λy=>by rw[bT,or_self];exact A y,by rw[a8];lia⟩)
  .walk_at "nrm";exact yB (d:=.lst (z.map f)) rfl (d5 ⟨z,rfl,A,by lia⟩)
def Rj{a b c:List (Option Bool)}(f:bH a b)(g:bH b c):bH a c:=⟨g.len.trans f.len,λi=>by
 rcases f.at' i with q |q
 .exact .inl q
 .rcases g.at' i with z |z
  .exact .inl (q.symm.trans z)
  .exact .inr (z.trans q)⟩
def Rk(hn:n<=60)(x:es.length=n)(H:∀r∈rs,RuK n r/\(grd r).length<=q)(hz:rs.length<=250)(I:∀b∈bars,cF n b)(E:bars.length<=1000)(L:64*q*rs.length+3840*bars.length+3840<=c)(J:n*(c+1)+n+rs.length+bars.length<=B)(C:B+c<16777216):
  ∃es' st w,m_5 [pl0 v rs,.lst (bars.map bA),.lst (es.map shD)]=aa (iG es' (st++fB w))/\kC n rs bars es es' st w/\(w=ac->iF rs bars es'):=by
 obtain⟨A,e⟩:=QQ (v:=v) hn x H hz I E L J C;refine⟨_,_,_,e,?_,QW hn x H hz I A⟩;obtain⟨e1,e2⟩:=sn bars (spT es rs);have e1:(d7 es rs bars).bs=bars:=e1;have e2:(d7 es rs bars).es=es:=e2;have z:=v8 (λr h=>(H r h).1) (by lia) (Me c (d7 es rs bars)+1) _ A (dh _);have M:=z.ok.sB;exact⟨z.ok.es,by have:=z.mv;rw[e1,e2]at this;exact this,λe=>by have:=z.en e;rw[e1]at this;exact this,z.ok.sv,by lia⟩
def Hb{bs bs2:List (List Pr)}(m:oq n rs bs rs2 bs2)(h:kC n rs bs es e1 st w)(E:kC n rs2 bs2 e0 e2 li w2)(H:w=ac->iF rs bs e1)(I:w2=ac->iF rs2 bs2 e2)(f:bH es e0)(f1:w=ac->bH e0 e1):w.isSome=w2.isSome/\(w=ac->e1=e2):=by
 have J:oq n rs2 bs2 rs bs:=⟨λr=>(m.ru r).symm,λb=>(m.br b).symm,λr M=>m.ok r ((m.ru r).mp M),λb L=>m.bk b ((m.br b).mp L)⟩
 have back:w2=ac->w=ac/\bH e1 e2:=λq=>by
  have g:=(I q).mvs (by rw[E.len];exact J) (Rj f E.mv.full) h.mv;refine⟨?_,g⟩
  cases C:w with
  |none=>rfl
  |some x=>exact((I q).ended (by rw[E.len];exact J) g (h.en (by rw[C];exact λz=>by cases z))).elim
 cases C:w with
 |none=>
  have g:=(H C).mvs (by rw[h.len];exact m) (f1 C) E.mv
  have q:w2=ac:=by
   cases A:w2 with
   |none=>rfl
   |some x=>exact((H C).ended (by rw[h.len];exact m) g (E.en (by rw[A];exact λz=>by cases z))).elim
  exact⟨by rw[q],λ_=>QZ (back q).2 g⟩
 |some x=>
  refine⟨?_,λz=>by cases z⟩
  cases A:w2 with
  |some y=>rfl
  |none=>
   have:=(back A).1;rw[C]at this;cases this
def Rl(ns:List Int)(hns:ns.length<=63):m_0 [.kl (ns.map D.int)]=aa (.bl ab):=by
 apply hZ;unfold b_0;show wp _ [.im (.kl (ns.map D.int)),.no,.no,.no,.no,.no,.no,.no,.no,.no,.no] _;obtain⟨c0,k0⟩:=Bg ns 0 (by decide);obtain⟨c1,k1⟩:=Bg ns 1 (by decide);obtain⟨c2,k2⟩:=Bg ns 2 (by decide);obtain⟨d,em,M,rfl,hl,hx⟩:=rS c0 6 (by decide) (by decide);obtain⟨a0,h0,e0⟩:=c6 (f:=D.int) (xs:=M) (i:=0) (by decide) (by lia);obtain⟨a1,h1,e1⟩:=c6 (f:=D.int) (xs:=M) (i:=1) (by decide) (by lia);obtain⟨a2,h2,e2⟩:=c6 (f:=D.int) (xs:=M) (i:=2) (by decide) (by lia);obtain⟨a3,h3,e3⟩:=c6 (f:=D.int) (xs:=M) (i:=3) (by decide) (by lia);obtain⟨a4,h4,e4⟩:=c6 (f:=D.int) (xs:=M) (i:=4) (by decide) (by lia);obtain⟨a5,h5,e5⟩:=c6 (f:=D.int) (xs:=M) (i:=5) (by decide) (by lia);walk_at "set";walk_at "set";have b0:0<=a0 % 20:=dU _ (by decide);have b1:a0 % 20<20:=d8 _ (by decide);have b2:0<=a3 % 5:=dU _ (by decide);have b3:a3 % 5<5:=d8 _ (by decide);generalize hn:(a0 % 20+2) / 3=n;have n0:0<=n:=by lia
 have n7:n<=7:=by lia
 have L:n<=60:=by lia
 obtain⟨rs0,er0,hr0,hl0⟩:=Q2 (a1 % 5) n (dU _ (by decide)) (d8 _ (by decide)) n0 L;apply ay;refine kh (yD (by walk_at "ev") er0) ?_;walk_at "nrm"
 have hcl:((ns.drop (HT.sIx ns.length 0 (aa 3))).take (HT.sIx ns.length ns.length (aa 33)-HT.sIx ns.length 0 (aa 3))).length<=30:=by
  rw[jT,show(aa 33:Option Int)=aa ((33:Nat):Int)from rfl,show(aa 3:Option Int)=aa ((3:Nat):Int)from rfl,HT.sIx_nat,HT.sIx_nat];lia
 generalize hcs:(ns.drop (HT.sIx ns.length 0 (aa 3))).take (HT.sIx ns.length ns.length (aa 33)-HT.sIx ns.length 0 (aa 3))=cs at hcl;apply ay;refine eE cs D.int (λpre ρ=>∃(rs:List Rul) (v4:Sl),ρ=[.im (.kl (ns.map D.int)),.im (.lst (M.map D.int)),.im (.int n),.own (rs.map Rul.toD),v4,.no,.no,.no,.no,.no,.no]/\(∀r∈rs,r.Ok n.toNat/\r.ps.length<=3/\sr r)/\rs.length<=60+pre.length) (by rw[<- hcs];exact dn (bV (Ez rfl rfl rfl)) rfl) ⟨rs0,_,rfl,hr0,by simpa using hl0⟩ ?_ ?_
 .rintro pre c post ρ ex ⟨rs,v4,rfl,J,hlr⟩;have kr:pre.length<cs.length:=by rw[ex];simp
  obtain⟨d,er,r,rfl,I,hr3,hrf⟩:=Q0 (a2 % 2==0) c n n0 L;refine⟨_,rfl,?_⟩;walk_at "nrm";refine lG (aS (ax rfl (ax rfl (ax (aP (aP (aT rfl rfl e2) rfl (jD (by decide))) rfl (mo _ _)) rfl))) er) rfl (by rw[aH];lia) ?_;refine⟨rs++[r],.im (.int c),by rw[bO];rfl,λq hq=>?_,by rw[a8,a8];show _+1<=60+(_+1);lia⟩
  rcases bT.mp hq with h |h
  .exact J q h
  .have:q=r:=by simpa using h
   subst this;exact⟨I,hr3,hrf⟩
 .rintro ρ ⟨rs,v4,rfl,J,hlr⟩;walk_at "nrm";obtain⟨d,esh,es,rfl,hes⟩:=Q6 c1 n n0 L;apply ay;refine bM (aS (by walk_at "ev") esh) ?_;walk_at "nrm";obtain⟨d,em2,ys,rfl,hly,hy⟩:=rS c2 (a3 % 5) b2 (by lia)
  obtain⟨bars,eb,lb,hb⟩:=Bh (k:=1) (js:=[2]) (fi:=(a9 (aB m_2 (ag (aB pX (ag (af 0) (ag (kI 2) nZ))) (ag (m2 bx (mIx (ar 1) (kI 3)) (kI 5)) nZ))))) (g:=aG 0) (ft:=λ_=>aa ab) (fe:=(aB uT (ag (af 0) (ag (af 1) nZ)))) (ρ:=[.im (.kl (ns.map D.int)),.im (.lst (M.map D.int)),.im (.int n),.own (rs.map Rul.toD),v4,.im (.lst (es.map shD)),.no,.no,.no,.no,.no]) ys D.int bA (λb=>cF n.toNat b) (dn (aS (by walk_at "ev") em2) rfl) (by lia) λy _=>by
   obtain⟨d,e,b,rfl,hb⟩:=Q8 y n n0 L;exact⟨b,hb,fu rfl rfl (aS (ax rfl (ax rfl rfl)) e)⟩
  apply ay;refine bM (bV eb) ?_;walk_at "nrm";have H:es.length=n.toNat:=by lia
  have hrk:∀r∈rs,RuK n.toNat r/\(grd r).length<=4:=λr I=>by
   obtain⟨r1,r2,r3⟩:=J r I;refine⟨⟨r1,λp hp=>by have:=r3 p hp;lia,by lia⟩,?_⟩;obtain⟨w,hd,ps⟩:=r;have r2:ps.length<=3:=r2
   cases w with
   |may=>exact(by decide:1<=4)
   |make=>show(ps++[Prt.out hd]).length<=4;rw[a8,dW];lia
   |never=>show ps.length<=4;lia
  have hbl:bars.length<=4:=by lia
  obtain⟨cc,hcc⟩:∃c:Nat,c=100000:=⟨_,rfl⟩;obtain⟨BB,hBB⟩:∃c:Nat,c=1000000:=⟨_,rfl⟩;have hnc:n.toNat*(cc+1)<=7*(cc+1):=Nat.mul_le_mul_right _ (by lia);have hrl:rs.length<=90:=by lia
  have h64:∀k:Nat,k<=180->64*4*k<=64*4*180:=λk h=>Nat.mul_le_mul_left _ h;have Q:∀A:List Rul,(∀r,r∈A↔r∈rs)->A.length<=180->m_3 [.lst (A.map Rul.toD)]=aa (.lst (A.map Rul.toD)):=λA hm hl=>Q5 A (by lia) (λr I=>by have:=(J r ((hm r).mp I)).2.1;lia)
  have run:∀(A:List Rul) (x:List (List Pr)) (e:List (Option Bool)),(∀r,r∈A↔r∈rs)->A.length<=180->(∀b,b∈x↔b∈bars)->x.length<=8->e.length=n.toNat->∃es' st w,m_5 [pl0 n A,.lst (x.map bA),.lst (e.map shD)]=aa (iG es' (st++fB w))/\kC n.toNat A x e es' st w/\(w=ac->iF A x es'):=λA x e hm hl T hbl' he=>by
   have:=h64 A.length hl;exact Rk (v:=n) (q:=4) (c:=cc) (B:=BB) (by lia) he (λr I=>hrk r ((hm r).mp I)) (by lia) (λb hb'=>hb b ((T b).mp hb')) (by lia) (by lia) (by lia) (by lia)
  have U:∀(x:List (List Pr)) (fi:MF2) (ρ:LS),fi ρ=aa (x.map bA)->x.length<=8->aI (bu 1 [] fi (aG 0) kY (aI (ar 0))) ρ=aa (.lst (x.map bA)):=λx fi ρ hf hl=>bV (gG x bA bA hf (by lia) λb _=>fu rfl rfl (bV rfl));obtain⟨f1,st1,w1,es1,E,Y⟩:=run rs bars es (λ_=>ja) (by lia) (λ_=>ja) (by lia) H;apply ay;refine jC rfl ?_;refine bM (aS (ax (eV (ax rfl (ax (aS rfl (Q rs (λ_=>ja) (by lia))) rfl))) (ax (U bars _ _ rfl (by lia)) (ax (bV rfl) rfl))) es1) ?_;walk_at "nrm";obtain⟨s1,s2⟩:=G8 E;apply ay;refine bq (b:=ae) (iZ (b:=ab) (iA (aS (ax rfl (ax rfl rfl)) (G6 E.mv.full (by lia) (by rw[H];exact s1) s2)) rfl)) (λz=>by cases z) (λ_=>ca ?_);walk_at "nrm";obtain⟨d,et1,rs2,rfl,mr,lr⟩:=Ha Rul.toD rs a4 (by lia);obtain⟨d,et2,C,rfl,mb,lb2⟩:=Ha bA bars a5 (by lia);apply ay;refine jC rfl ?_;refine bM (d:=.lst [.lst (rs2.map Rul.toD),.lst (C.map bA)]) (bV (ax (aS (ax rfl (ax (aT rfl rfl e4) rfl)) et1) (ax (U C _ _ (dn (aS (ax rfl (ax (aT rfl rfl e5) rfl)) et2) rfl) (by lia)) rfl))) ?_;walk_at "nrm";obtain⟨f2,li,w2,es2,ok2,cl2⟩:=run rs2 C es mr (by lia) mb (by lia) H;apply ay;refine bM (aS (ax (eV (ax rfl (ax (aS (ax (aT rfl rfl rfl) rfl) (Q rs2 mr (by lia))) rfl))) (ax (aT rfl rfl rfl) (ax (bV rfl) rfl))) es2) ?_;walk_at "nrm";obtain⟨d,eh0,eh,rfl,g1,g2⟩:=Ri H E;obtain⟨f3,st3,w3,es3,ok3,cl3⟩:=run rs bars eh (λ_=>ja) (by lia) (λ_=>ja) (by lia) (by rw[g1.len,H]);apply ay;refine jC rfl ?_;refine bM (aS (ax (eV (ax rfl (ax (aS rfl (Q rs (λ_=>ja) (by lia))) rfl))) (ax (U bars _ _ rfl (by lia)) (ax (aS (ax rfl (ax rfl rfl)) eh0) rfl))) es3) ?_;walk_at "nrm";have sm:∀(A:List Rul) (x:List (List Pr)),(∀r,r∈A↔r∈rs)->(∀b,b∈x↔b∈bars)->oq n.toNat rs bars A x:=λA x hm T=>⟨hm,T,λr I=>(hrk r I).1,hb⟩;obtain⟨q1,q2⟩:=Hb (sm rs2 C mr mb) E ok2 Y cl2 (bH.refl _) λ_=>E.mv.full;obtain⟨q3,q4⟩:=Hb (sm rs bars (λ_=>ja) λ_=>ja) E ok3 Y cl3 g1 λ_=>g2;exact hV (d:=.bl ab) ((lD (aS (ax rfl (ax rfl (ax rfl rfl))) (G9 H (by lia) E ok2 (bH.refl _) q1 q2)) (aS (ax rfl (ax rfl (ax rfl rfl))) (G9 H (by lia) E ok3 g1 q3 q4))).trans rfl) (d5 rfl)
abbrev sp_law(K:aV):Sp:=λvs H Q _=>∃(a:Addr) (ns:List Int),vs=[.ref a]/\SqL K H a (ns.map V.int)/\ns.length<=63/\∀H',Q (.bl ab) H'
variable{K:aV}
def sp_law_of{H:Hp}{a:Addr}{E:XK}(x:ns.length<=63)(h:SqL K H a (ns.map V.int)):sp_law K [.ref a] H (λv _=>v=.bl ab) E:=⟨a,ns,rfl,h,x,λ_=>rfl⟩
variable{w:World}
def law_ok{a:Wa}(W:Wd K mg a):c9 P w K mg base CX0 9 a.e_0.1 a.e_0.2 ["_law_script"] (sp_law K):=(OZ W).ok.imp λvs H Q E ⟨a,ns,h,z,A,k⟩=>
 ⟨H,[.kl (ns.map D.int)],.bl ab,av.refl _,⟨.ref a,[],h,⟨a,_,rfl,z,ao.ints ns⟩,rfl⟩,rfl,Rl ns A,λv Hf' H' x r=>by rw[show v=V.bl ab from r];exact k H'⟩
variable{P:LVa->Prop}
def wf(h:P []):∀us:LVa,us.length=0->P us:=λus e=>by
 rw[eq_nil_of_length_eq_zero e];exact h
def kE(h:∀a (us:LVa),us.length=n->P (a::us)):∀us:LVa,us.length=n+1->P us:=λus e=>by
 cases us with
 |nil=>cases e
 |cons a us=>exact h a us (Nat.succ.inj e)
def Hc(h:∀x:Value,P [x]):∀us:LVa,us.length=1->P us:=kE (P:=λus=>P (us)) λx=>wf (h x)
def Rm(h:∀x z:Value,P [x,z]):∀us:LVa,us.length=2->P us:=kE (P:=λus=>P (us)) λx=>kE (P:=λus=>P (x::us)) λz=>wf (h x z)
def Rn(h:∀x z A:Value,P [x,z,A]):∀us:LVa,us.length=3->P us:=kE (P:=λus=>P (us)) λx=>kE (P:=λus=>P (x::us)) λz=>kE (P:=λus=>P (x::z::us)) λA=>wf (h x z A)
def Ro(h:∀x z A C:Value,P [x,z,A,C]):∀us:LVa,us.length=4->P us:=kE (P:=λus=>P (us)) λx=>kE (P:=λus=>P (x::us)) λz=>kE (P:=λus=>P (x::z::us)) λA=>kE (P:=λus=>P (x::z::A::us)) λC=>wf (h x z A C)
local macro_rules | `(tactic| walk_at "bd")=>`(tactic| exact λ_ _ _ _ _ _=>by first | exact Hc λ_=>rfl | exact Rm λ_ _=>rfl | exact Rn λ_ _ _=>rfl | exact Ro λ_ _ _ _=>rfl)
set_option autoImplicit true in
def all_mk{h:Heap}{fd_7 fd_37 fd_38 fd_20 fd_13 fd_49 fd_21 fd_22 fd_1 fd_24 fd_50 fd_63 fd_14 fd_5 fd_15 fd_2 fd_25 fd_16 fd_26 Y fd_3 fd_27 fd_39 fd_9 fd_28 fd_40 fd_29 fd_23 fd_30 fd_31 fd_0 fd_64 fd_41 fd_51 fd_52 fd_53 fd_32 fd_54 fd_42 fd_55 fd_56 fd_57 fd_33 fd_65 fd_43 fd_58 fd_59 fd_44 fd_34 fd_66 fd_45 fd_60 fd_61 fd_46 fd_35 fd_8 fd_11 fd_47 fd_12 fd_36 fd_17 fd_18 fd_19 fd_6 fd_4 fd_62 fd_48:eA}{fa:Addr}(X:K.In h)(G:h.Ns cq mg)(hfa:mg "law"=aa (.ref fa))
 (aC_In:dO K cq "In"=aa (aa (.ref C_In)))
 (aC_Out:dO K cq "Out"=aa (aa (.ref C_Out)))
 (I:dO K cq "Least"=aa (aa (.ref C_Least)))
 (U:dO K cq "Most"=aa (aa (.ref C_Most)))
 (x:dO K cq "Spreading"=aa (aa (.ref C_Spreading)))
 (q_7:Dq K "marks" s_7 f_7 fd_7)
 (q_37:Dq K "part_of" yW f_37 fd_37)
 (q_38:Dq K "things_of" yX f_38 fd_38)
 (q_20:Dq K "worth_in" yY f_20 fd_20)
 (q_13:Dq K "worth_not_out" yZ f_13 fd_13)
 (q_49:Dq K "outside" y3 f_49 fd_49)
 (q_21:Dq K "heavy" y4 f_21 fd_21)
 (q_22:Dq K "weights_of" y6 f_22 fd_22)
 (q_1:Dq K "body_of" s_1 f_1 fd_1)
 (q_24:Dq K "guard_of" y7 f_24 fd_24)
 (q_50:Dq K "guard_of_bar" y8 f_50 fd_50)
 (q_63:Dq K "pressed_by" y9 f_63 fd_63)
 (q_14:Dq K "lost_part" za f_14 fd_14)
 (q_5:Dq K "spread" s_5 f_5 fd_5)
 (q_15:Dq K "_law_cell_at" zb f_15 fd_15)
 (q_2:Dq K "_law_mixed" s_2 f_2 fd_2)
 (q_25:Dq K "_law_worth" zc f_25 fd_25)
 (q_16:Dq K "_law_part" zd f_16 fd_16)
 (q_26:Dq K "_law_rule" zf f_26 fd_26)
 (q_10:Dq K "_law_ring" zg f_10 Y)
 (q_3:Dq K "_law_copy" s_3 f_3 fd_3)
 (q_27:Dq K "_law_bar" zh f_27 fd_27)
 (q_39:Dq K "_law_sheet" zi f_39 fd_39)
 (q_9:Dq K "_law_turned" s_9 f_9 fd_9)
 (q_28:Dq K "_law_is_sheet" zj f_28 fd_28)
 (q_40:Dq K "_law_is_step" zk f_40 fd_40)
 (q_29:Dq K "_law_end" zl f_29 fd_29)
 (q_23:Dq K "_law_ended" zm f_23 fd_23)
 (q_30:Dq K "_law_half" zn f_30 fd_30)
 (q_31:Dq K "_law_alike" zo f_31 fd_31)
 (q_0:Dq K "law" s_0 f_0 fd_0)
 (q_64:Dp K C_In "__init__" "In.__init__" zp f_64 fd_64)
 (q_41:Dp K C_In "named" "In.named" zq f_41 fd_41)
 (q_51:Dp K C_In "wants" "In.wants" zt f_51 fd_51)
 (q_52:Dp K C_In "sure" "In.sure" zu f_52 fd_52)
 (q_53:Dp K C_In "tips" "In.tips" zw f_53 fd_53)
 (q_32:Dp K C_In "lost" "In.lost" zx f_32 fd_32)
 (q_54:Dp K C_Out "__init__" "Out.__init__" zy f_54 fd_54)
 (q_42:Dp K C_Out "named" "Out.named" zA f_42 fd_42)
 (q_55:Dp K C_Out "wants" "Out.wants" zB f_55 fd_55)
 (q_56:Dp K C_Out "sure" "Out.sure" zC f_56 fd_56)
 (q_57:Dp K C_Out "tips" "Out.tips" zD f_57 fd_57)
 (q_33:Dp K C_Out "lost" "Out.lost" zE f_33 fd_33)
 (q_65:Dp K C_Least "__init__" "Least.__init__" zF f_65 fd_65)
 (q_43:Dp K C_Least "named" "Least.named" zG f_43 fd_43)
 (q_58:Dp K C_Least "wants" "Least.wants" zH f_58 fd_58)
 (q_59:Dp K C_Least "sure" "Least.sure" zJ f_59 fd_59)
 (q_44:Dp K C_Least "tips" "Least.tips" zK f_44 fd_44)
 (q_34:Dp K C_Least "lost" "Least.lost" zM f_34 fd_34)
 (q_66:Dp K C_Most "__init__" "Most.__init__" zN f_66 fd_66)
 (q_45:Dp K C_Most "named" "Most.named" zO f_45 fd_45)
 (q_60:Dp K C_Most "wants" "Most.wants" zP f_60 fd_60)
 (q_61:Dp K C_Most "sure" "Most.sure" zQ f_61 fd_61)
 (q_46:Dp K C_Most "tips" "Most.tips" zR f_46 fd_46)
 (q_35:Dp K C_Most "lost" "Most.lost" zS f_35 fd_35)
 (q_8:Dp K C_Spreading "__init__" "Spreading.__init__" s_8 f_8 fd_8)
 (q_11:Dp K C_Spreading "take_guard" "Spreading.take_guard" zT f_11 fd_11)
 (q_47:Dp K C_Spreading "take_bar" "Spreading.take_bar" zU f_47 fd_47)
 (q_12:Dp K C_Spreading "drop_wider" "Spreading.drop_wider" zV f_12 fd_12)
 (q_36:Dp K C_Spreading "put" "Spreading.put" zW f_36 fd_36)
 (q_17:Dp K C_Spreading "settle" "Spreading.settle" zX f_17 fd_17)
 (q_18:Dp K C_Spreading "look_round" "Spreading.look_round" zY f_18 fd_18)
 (q_19:Dp K C_Spreading "put_loose_out" "Spreading.put_loose_out" zZ f_19 fd_19)
 (q_6:Dp K C_Spreading "loose_marks" "Spreading.loose_marks" s_6 f_6 fd_6)
 (q_4:Dp K C_Spreading "kernel" "Spreading.kernel" s_4 f_4 fd_4)
 (q_62:Dp K C_Spreading "lost_parts" "Spreading.lost_parts" z4 f_62 fd_62)
 (q_48:Dp K C_Spreading "keeping" "Spreading.keeping" z5 f_48 fd_48)
 (pg_In:lc K C_In oO=ab)
 (hd_In:l8 K C_In=ab)
 (po_In:nj K C_In=ab)
 (sa_In:cP K (.ref C_In) "__setattr__"=aa (aa (.builtin "object.__setattr__")))
 (mk_In:nr K C_In=ab)
 (kc_In:ji K (.ref C_In)=ab)
 (na_In_thing:cP K (.ref C_In) "thing"=aa ac)
 (pg_Out:lc K C_Out oO=ab)
 (hd_Out:l8 K C_Out=ab)
 (po_Out:nj K C_Out=ab)
 (sa_Out:cP K (.ref C_Out) "__setattr__"=aa (aa (.builtin "object.__setattr__")))
 (mk_Out:nr K C_Out=ab)
 (kc_Out:ji K (.ref C_Out)=ab)
 (na_Out_thing:cP K (.ref C_Out) "thing"=aa ac)
 (M:lc K C_Least oO=ab)
 (J:l8 K C_Least=ab)
 (Q:nj K C_Least=ab)
 (T:cP K (.ref C_Least) "__setattr__"=aa (aa (.builtin "object.__setattr__")))
 (mk_Least:nr K C_Least=ab)
 (L:ji K (.ref C_Least)=ab)
 (na_Least_bound:cP K (.ref C_Least) "bound"=aa ac)
 (na_Least_pieces:cP K (.ref C_Least) "pieces"=aa ac)
 (pg_Most:lc K C_Most oO=ab)
 (hd_Most:l8 K C_Most=ab)
 (po_Most:nj K C_Most=ab)
 (sa_Most:cP K (.ref C_Most) "__setattr__"=aa (aa (.builtin "object.__setattr__")))
 (mk_Most:nr K C_Most=ab)
 (kc_Most:ji K (.ref C_Most)=ab)
 (na_Most_bound:cP K (.ref C_Most) "bound"=aa ac)
 (na_Most_pieces:cP K (.ref C_Most) "pieces"=aa ac)
 (C:lc K C_Spreading oO=ab)
 (z:l8 K C_Spreading=ab)
 (E:nj K C_Spreading=ab)
 (H:cP K (.ref C_Spreading) "__setattr__"=aa (aa (.builtin "object.__setattr__")))
 (mk_Spreading:nr K C_Spreading=ab)
 (A:ji K (.ref C_Spreading)=ab)
 (na_Spreading_sheet:cP K (.ref C_Spreading) "sheet"=aa ac)
 (na_Spreading_steps:cP K (.ref C_Spreading) "steps"=aa ac)
 (na_Spreading_bars:cP K (.ref C_Spreading) "bars"=aa ac)
 (na_Spreading_guards:cP K (.ref C_Spreading) "guards"=aa ac)
 (na_Spreading_watches:cP K (.ref C_Spreading) "watches"=aa ac)
 (na_Spreading_waiting:cP K (.ref C_Spreading) "waiting"=aa ac)
 (na_Spreading_makers:cP K (.ref C_Spreading) "makers"=aa ac)
 (z_all:dO K cq "all"=aa ac)
 (z_any:dO K cq "any"=aa ac)
 (z_bool:dO K cq "bool"=aa ac)
 (z_enumerate:dO K cq "enumerate"=aa ac)
 (z_int:dO K cq "int"=aa ac)
 (z_isinstance:dO K cq "isinstance"=aa ac)
 (z_len:dO K cq "len"=aa ac)
 (z_list:dO K cq "list"=aa ac)
 (z_min:dO K cq "min"=aa ac)
 (z_range:dO K cq "range"=aa ac)
 (z_reversed:dO K cq "reversed"=aa ac)
 (z_set:dO K cq "set"=aa ac)
 (z_sorted:dO K cq "sorted"=aa ac)
 (z_sum:dO K cq "sum"=aa ac)
 (z_tuple:dO K cq "tuple"=aa ac)
 (z_zip:dO K cq "zip"=aa ac)
 (is_bool:lz K "bool")
 (is_int:lz K "int")
 (is_list:lz K "list")
 (is_tuple:lz K "tuple")
  : ∃a:Wa,∃W:Wd K mg a,a.e_0.1=fa/\∀(s:ai) (v:Value),BindsTo s a.e_0.2 ⟨[v],[]⟩ [("_law_script",v)]:=by
 have e:=hfa.symm.trans (W.mg_of X G q_0.a);cases e;have hc:∃cl:Str->Addr,C_In=cl "In" /\ C_Out=cl "Out" /\ C_Least=cl "Least" /\ C_Most=cl "Most" /\ C_Spreading=cl "Spreading":=⟨λs=>if s="In" then C_In else if s="Out" then C_Out else if s="Least" then C_Least else if s="Most" then C_Most else if s="Spreading" then C_Spreading else 0,by dsimp only;rw[if_pos rfl],by dsimp only;rw[if_neg (by decide +kernel)];rw[if_pos rfl],by dsimp only;rw[if_neg (by decide +kernel)];rw[if_neg (by decide +kernel)];rw[if_pos rfl],by dsimp only;rw[if_neg (by decide +kernel)];rw[if_neg (by decide +kernel)];rw[if_neg (by decide +kernel)];rw[if_pos rfl],by dsimp only;rw[if_neg (by decide +kernel)];rw[if_neg (by decide +kernel)];rw[if_neg (by decide +kernel)];rw[if_neg (by decide +kernel)];rw[if_pos rfl]⟩;obtain⟨cl,rfl,rfl,rfl,rfl,rfl⟩:=hc
 exact⟨{
  e_7:=(f_7,fd_7),e_37:=(f_37,fd_37),e_38:=(f_38,fd_38),e_20:=(f_20,fd_20),e_13:=(f_13,fd_13),e_49:=(f_49,fd_49),e_21:=(f_21,fd_21),e_22:=(f_22,fd_22),e_1:=(f_1,fd_1),e_24:=(f_24,fd_24),e_50:=(f_50,fd_50),e_63:=(f_63,fd_63),e_14:=(f_14,fd_14),e_5:=(f_5,fd_5),e_15:=(f_15,fd_15),e_2:=(f_2,fd_2),e_25:=(f_25,fd_25),e_16:=(f_16,fd_16),e_26:=(f_26,fd_26),e_10:=(f_10,Y),e_3:=(f_3,fd_3),e_27:=(f_27,fd_27),e_39:=(f_39,fd_39),e_9:=(f_9,fd_9),e_28:=(f_28,fd_28),e_40:=(f_40,fd_40),e_29:=(f_29,fd_29),e_23:=(f_23,fd_23),e_30:=(f_30,fd_30),e_31:=(f_31,fd_31),e_0:=(f_0,fd_0),e_64:=(f_64,fd_64),e_41:=(f_41,fd_41),e_51:=(f_51,fd_51),e_52:=(f_52,fd_52),e_53:=(f_53,fd_53),e_32:=(f_32,fd_32),e_54:=(f_54,fd_54),e_42:=(f_42,fd_42),e_55:=(f_55,fd_55),e_56:=(f_56,fd_56),e_57:=(f_57,fd_57),e_33:=(f_33,fd_33),e_65:=(f_65,fd_65),e_43:=(f_43,fd_43),e_58:=(f_58,fd_58),e_59:=(f_59,fd_59),e_44:=(f_44,fd_44),e_34:=(f_34,fd_34),e_66:=(f_66,fd_66),e_45:=(f_45,fd_45),e_60:=(f_60,fd_60),e_61:=(f_61,fd_61),e_46:=(f_46,fd_46),e_35:=(f_35,fd_35),e_8:=(f_8,fd_8),e_11:=(f_11,fd_11),e_47:=(f_47,fd_47),e_12:=(f_12,fd_12),e_36:=(f_36,fd_36),e_17:=(f_17,fd_17),e_18:=(f_18,fd_18),e_19:=(f_19,fd_19),e_6:=(f_6,fd_6),e_4:=(f_4,fd_4),e_62:=(f_62,fd_62),e_48:=(f_48,fd_48),cl:=cl},{
  g_In:=W.mg_of X G aC_In,
  cl_In:=⟨pg_In,hd_In,po_In,sa_In⟩,
  mk_In:=⟨mk_In,q_64.a,q_64.i,kc_In⟩,
  na_In_thing:=na_In_thing,
  g_Out:=W.mg_of X G aC_Out,
  cl_Out:=⟨pg_Out,hd_Out,po_Out,sa_Out⟩,
  mk_Out:=⟨mk_Out,q_54.a,q_54.i,kc_Out⟩,
  na_Out_thing:=na_Out_thing,
  g_Least:=W.mg_of X G I,
  cl_Least:=⟨M,J,Q,T⟩,
  mk_Least:=⟨mk_Least,q_65.a,q_65.i,L⟩,
  na_Least_bound:=na_Least_bound,
  na_Least_pieces:=na_Least_pieces,
  g_Most:=W.mg_of X G U,
  cl_Most:=⟨pg_Most,hd_Most,po_Most,sa_Most⟩,
  mk_Most:=⟨mk_Most,q_66.a,q_66.i,kc_Most⟩,
  na_Most_bound:=na_Most_bound,
  na_Most_pieces:=na_Most_pieces,
  g_Spreading:=W.mg_of X G x,
  cl_Spreading:=⟨C,z,E,H⟩,
  mk_Spreading:=⟨mk_Spreading,q_8.a,q_8.i,A⟩,
  na_Spreading_sheet:=na_Spreading_sheet,
  na_Spreading_steps:=na_Spreading_steps,
  na_Spreading_bars:=na_Spreading_bars,
  na_Spreading_guards:=na_Spreading_guards,
  na_Spreading_watches:=na_Spreading_watches,
  na_Spreading_waiting:=na_Spreading_waiting,
  na_Spreading_makers:=na_Spreading_makers,
  z_all:=gc X G z_all,
  z_any:=gc X G z_any,
  z_bool:=gc X G z_bool,
  z_enumerate:=gc X G z_enumerate,
  z_int:=gc X G z_int,
  z_isinstance:=gc X G z_isinstance,
  z_len:=gc X G z_len,
  z_list:=gc X G z_list,
  z_min:=gc X G z_min,
  z_range:=gc X G z_range,
  z_reversed:=gc X G z_reversed,
  z_set:=gc X G z_set,
  z_sorted:=gc X G z_sorted,
  z_sum:=gc X G z_sum,
  z_tuple:=gc X G z_tuple,
  z_zip:=gc X G z_zip,
  e_7:=q_7.mk2 X G,
  e_37:=q_37.mk2 X G,
  e_38:=q_38.mk2 X G,
  e_20:=q_20.mk2 X G,
  e_13:=q_13.mk2 X G,
  e_49:=q_49.mk2 X G,
  e_21:=q_21.mk2 X G,
  e_22:=q_22.mk2 X G,
  e_1:=q_1.mk2 X G,
  e_24:=q_24.mk2 X G,
  e_50:=q_50.mk2 X G,
  e_63:=q_63.mk2 X G,
  e_14:=q_14.mk2 X G,
  e_5:=q_5.mk2 X G,
  e_15:=q_15.mk2 X G,
  e_2:=q_2.mk2 X G,
  e_25:=q_25.mk2 X G,
  e_16:=q_16.mk2 X G,
  e_26:=q_26.mk2 X G,
  e_10:=q_10.mk2 X G,
  e_3:=q_3.mk2 X G,
  e_27:=q_27.mk2 X G,
  e_39:=q_39.mk2 X G,
  e_9:=q_9.mk2 X G,
  e_28:=q_28.mk2 X G,
  e_40:=q_40.mk2 X G,
  e_29:=q_29.mk2 X G,
  e_23:=q_23.mk2 X G,
  e_30:=q_30.mk2 X G,
  e_31:=q_31.mk2 X G,
  e_0:=q_0.mk2 X G,
  e_64:=q_64.mk2,
  e_41:=q_41.mk2,
  e_51:=q_51.mk2,
  e_52:=q_52.mk2,
  e_53:=q_53.mk2,
  e_32:=q_32.mk2,
  e_54:=q_54.mk2,
  e_42:=q_42.mk2,
  e_55:=q_55.mk2,
  e_56:=q_56.mk2,
  e_57:=q_57.mk2,
  e_33:=q_33.mk2,
  e_65:=q_65.mk2,
  e_43:=q_43.mk2,
  e_58:=q_58.mk2,
  e_59:=q_59.mk2,
  e_44:=q_44.mk2,
  e_34:=q_34.mk2,
  e_66:=q_66.mk2,
  e_45:=q_45.mk2,
  e_60:=q_60.mk2,
  e_61:=q_61.mk2,
  e_46:=q_46.mk2,
  e_35:=q_35.mk2,
  e_8:=q_8.mk2,
  e_11:=q_11.mk2,
  e_47:=q_47.mk2,
  e_12:=q_12.mk2,
  e_36:=q_36.mk2,
  e_17:=q_17.mk2,
  e_18:=q_18.mk2,
  e_19:=q_19.mk2,
  e_6:=q_6.mk2,
  e_4:=q_4.mk2,
  e_62:=q_62.mk2,
  e_48:=q_48.mk2,
  is_bool:=is_bool,
  is_int:=is_int,
  is_list:=is_list,
  is_tuple:=is_tuple},rfl,q_0.bt (λ_ _ _ _ _ _=>Hc λ_=>rfl)⟩
end N_k36
structure PySem.W.Fast:Prop where
 (te3140513124315865538 te4885386587029148271 te11475557209163071323 te15750499962148332590 te5640722244755702158 te9140074298287974004 te552202399172815421 te12155913819232418632 te1971534656328529657 te911758148393338862 te12246941884808539160 te16382044484118495959 te5097642297306424055 te3180631319143645364 te16571714323474627316 te13986787932734629773 te1007349697865249364 te12673202351521749053 te7637712432598295542 te4537830161638843378 te9107432981377054705 te126685373467064451 te14280741685691986898 te6332768395409507984 te9853354122383214671 te10194032261130323986 te1668045732807484693 te10210272279327535518 te13262424576139383874 te3231602632561378936 te5471999281573276953 te14196268319929603060 te10397027247404924542 te11388532957716280386 te11162908495792258013 te10277048222773416511 te9982518462615851568 te13818156996460320618 te8496601473458502349 te4888116335552690704 te5158155815963519915 te16189730978278213218 te15694233645220958626 te10117684335966545992 te1400820645220119600 te1893833419497988867 te15467800289537579487 te7985461285265964152 te17040528964763086081 te3226384340441763933 te15154946043068641753 te10392182442390495718 te15224620771538041448 te843912321551223516 te11350708997112202583 te14757917186708648675 te18361906657636797596 te6326540348904920943 te12087018228062031137 te13408899775392068567 te7865684800174613170 te7114180346344539336 te12985852705137240442 te17971370968349855028 te9076460704314056874 te2440920533941352404 te4334445069572994799 te15488876487812911768 te6586237565267209664 te15946280904547021695 te16266843438046729729 te14726294264748213838 te17092725630510315968 te14337578089490394684 te17456444042840179617 te10096649336823139188 te1463625484428057313 te3994691540785334630 te9654801022139152116 te14914373890569019929 te893314591620497121 te16385648423793507307 te16124852516631914866 te6156489159564414361 te2753105311802324112 te9476698293772115644 te14022540985962639914 te9485648384841502039 te8030783411464918922 te1470058661094375526 te9437804632150600453 te7071986071198436375 te8385962963178344732 te15397622451509809538 te5953543889525378503 te6548218419793078854 te14690239464233185747 te15314874535318422130 te2046824089339976385 te5524730512726391316 te10470110233029598512 te17274078704856932037 te8145408917661495219 te17859325589509608947 te11834611100721089794 te11221166784832906733 te554022519832714695 te13482891370198887208 te9532945176301606549 te15616163648589550456 te12505430913608022022 te4165673137055261037 te12420229369689644504 te11222716568560824458 te15562603095864801283 te4918173113090747894 te16119502229227499197 te5512272666959332785 te4704999650120298594 te11940743497165402622 te14324362054583397055 te16883497633517014727 te15083020813932488848 te16901951714813125021 te9092131946695823844 te13536361176555404759 te140228531386040346 te14147459645594124706 te1338048558995907875 te17329147565525855902 te18041698042296943977 te4811713760224434999 te8475232687022659356 te12842724347960226353 te6453144526700623964 te7068055587219078017 te15500203150498396277 te15947199310618082002 te12087926970435164019 te6027635970919632644 te6138353977872928406 te2439611289997162922 te12411030116116295351 te3853597667790149064 te8667931327744916770 te9211859107343652593 te3042223477491968113 te15470548341891820737 te12849109042438743543 te2434916141914033712 te517078610728540133 te5662803301963322768 te9548281925346180864 te9165683374125702214 te13756628851958848439 te4003058268438476230 te8992554874550315640 te7836238553708390863 te2777354166232890750 te14734985234863863243 te7916514924731072189 te14337061733057536956 te6783870507030886123 te16787377469633123042 te9778739290090820485 te10638817827096441211 te10259304678794582055 te184789733150120190 te9744683963284522820 te4800432959829937239 te14908076853445149967 te16747864809004649065 te7667033397472520374 te17031197251316189986 te9313549431426195057 te2637238900704112300 te1460440726950363134 te18136979513916091987 te1657270866187170894 te18297706652009213239 te14023625265788980035 te566573123564842867 te8482164278715838176 te2489581213397000123 te9418469952647496118 te13607794239708977907 te8281507212219681808 te10430544025582413767 te6897650652766149894 te2522888061204158138 te9528827729227204134 te45266349578313773 te11325203127436681371 te12567114888986614062 te2495901207764659889 te17425375059528594497 te15035019109336261852 te8137200687112393200 te12159330982631775519 te129268528452826637 te17380776051690081369 te9216940929134388534 te5988471522802048091 te4107098217517254842 te16582741553580668686 te15121032522043251510 te16853055547496207403 te5967986473995307954 te1442410242406019489 te6439085010478858069 te8506896115457425536 te15937253336266961884 te18208967514567890598 te2433201094651479648 te16035244819027133581 te14235702700520906387 te8768451467941203764 te10895348810460618827 te1356242277810658011 te5635042885685780261 te14984965169484185649 te3798495464966079231 te13701643857906967588 te10484089761867210900 te1023615425268110080 te8008671866593126110 te10828962743772756609 te14985157668247388796 te7612096038362254895 te224419615889194092 te5237010108959832211 te6309761344848938606 te4128518443986013185 te2189176627705443264 te861407733343866450 te8471913553549987055 te1943623638348549257 te3560201816360813356 te2721106171563883788 te3344337004684800036 te3808528682494659151 te10123711929262405422 te14213077146249697843 te46961376041382898 te16294870404113272460 te7822789182645805590 te1576605263276017682 te8162266780255550841 te502901896409848363 te925506803705652701 te4120984204321184230 te16031517573165589995 te14633125890902316957 te7913043341241620510 te331706214903046743 te17819919623994832611 te3020604977258687285 te5093371700336838588 te6791930936206572297 te8271958188718333619 te10798842685367064562 te16278149737564458893 te13377161004526835212 te3466929345596528708 te16737727397812827151 te13959814540796126339 te17280644311878308145 te11497536369813372517 te18384318143036269332 te1816638569294483706:True)
open PySem PySem.W PyProof.Rows
set_option maxRecDepth 100000 in
set_option maxHeartbeats 0 in
theorem PySem.Challenge.cw_standstill_k36_spread_in_any_order_holds : PySem.Challenge.rw_standstill_k36_spread_in_any_order.Holds := by
 w_on; o_law; k_head; (case hw=>w_witness2)
 k_fill
 refine L2.walk_ofK (l:=PySem.Challenge.rw_standstill_k36_spread_in_any_order) (n:=63) (k:=9) (x:="_law_script") (CX:=L2.CX0) (sp:=N_k36.sp_law) rfl (by decide) rfl ⟨rfl,by decide,by decide⟩ (fun w h Y=>PySem.W.kIn_of Y) ?F (fun _ _ a ns hl _ hS=>N_k36.sp_law_of hl hS) (fun _ _ _ _ z=>z)
 case F =>
  intro w mg fa h KX G hmg
  have TT : ∃ a : N_k36.Wa,∃ W : N_k36.Wd (L2.KOf KX) mg a,a.e_0.1=fa /\ ∀ (s:Shared) (v:Value),BindsTo s a.e_0.2 ⟨[v],[]⟩ [("_law_script",v)]:=by
   dsimp only [L2.KOf]
   refine' N_k36.all_mk KX G hmg ..
   all_goals first | k_is | kit_is | k_exc | exact ⟨by k_is,L2.fun_mk (by k_is) (by k_is) (by k_is)⟩ | exact ⟨by k_is,by k_is,L2.fun_mk (by k_is) (by k_is) (by k_is)⟩ | (intro t ht; simp only [List.mem_cons,List.not_mem_nil,or_false] at ht; rcases ht with rfl | rfl | rfl | rfl | rfl | rfl | rfl <;> kit_is) | skip
  obtain ⟨a,W,e1,hb⟩:=TT
  subst e1
  exact ⟨_,hb,fun base kb nb=>N_k36.law_ok W⟩
