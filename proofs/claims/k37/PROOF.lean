import PyProof.Rows.All
import Wide.All
import OpenK.AllK
import Wide.FinOn
import Lean
import PyProof.EqAt
import PyProof.EqKinds
import PyProof.TupleCall
import PyProof.NeKinds
import PySem.Challenge.RW_standstill_k37_whole_no_world_lost
set_option compiler.extract_closed false
set_option bootstrap.genMatcherCode false
set_option Elab.async false
set_option genSizeOf false
set_option linter.all false
set_option maxRecDepth 100000
open Array renaming length_toList->iq,getElem?_eq_getElem->lK,getElem?_toList->oY,getD->oZ,toList_push->va
open Bool renaming false->ae,true->ab,false_ne_true->bd,and_eq_true->cg,eq_iff_iff->jo,or_eq_true->jp,noConfusion->jT,false_and->o7,and_false->rk,false_eq_true->vb
open False renaming elim->hE
open ForInStep renaming yield->ni
open Int renaming emod_lt_of_pos->eK,emod_nonneg->d7,toNat_natCast->fP,mul_le_mul_of_nonneg_left->A7
open List renaming getD_eq_getElem?_getD->bD,mem_cons_self->aO,length_map->aH,length_append->a9,mem_cons_of_mem->bv,getElem?_eq_getElem->dk,getElem?_eq_some_iff->dH,getElem?_map->cD,getElem?_eq_none->d8,getElem?_cons_succ->eW,range->bF,mem_cons->aW,map_append->bN,length_cons->b9,mem_of_getElem?->dJ,mem_append_right->dX,map_cons->bn,length_range->cX,not_mem_nil->cE,mem_append->ci,append_nil->cr,getElem?_set_self->ir,length_singleton->fD,mem_map->bj,zip_cons_cons->d9,nodup_cons->cY,mem_singleton->eM,getElem?_set_ne->iV,mem_append_left->gh,getElem?_append_right->kL,getElem?_append_left->kM,replicate->gK,lookup_cons->eO,foldl_append->fE,append_assoc->fQ,mem_filter->eA,filter_cons_of_pos->jU,foldl_cons->eX,nodup_append->gL,getElem_mem->jV,length_filter_le->jW,mem_range->eY,length_set->gj,nodup_nil->fR,filter_cons_of_neg->lL,lookup->iW,getElem?_replicate->rm,length_replicate->nj,any_cons->gM,length_eq_zero_iff->o8,getElem?_of_mem->rn,find?_cons_of_pos->o9,getElem?_range->rp,zipWith->np,getElem?_eq_none_iff->vc,length_take->lM,length_drop->lN,ext_getElem?->nr,filterMap_cons->pb,filter_sublist->pc,find?_cons->lO,length_zip->lP,zipWith_cons_cons->rq,pairwise_cons->pf,set_cons_succ->ph,find?_eq_none->pi,map_congr_left->rA,all_map->rB,map_set->jX,all_cons->lQ,set_cons_zero->rC,filter_append->rE
open List.Nodup renaming sublist->vd
open List.Pairwise renaming map->ve,sublist->A8
open List.Perm renaming append_left->vf,refl->rF,cons->vg
open List.cons renaming inj->nt
open Nat renaming le_refl->aL,ne_of_lt->ca,lt_succ_self->dY,lt_of_lt_of_le->fF,le_trans->cZ,zero_le->da,le_of_lt->gN,lt_succ_of_lt->jY,lt_irrefl->iu,lt_of_le_of_lt->nu,not_lt_zero->lR,le_add_right->nv,le_succ->jZ,lt_trans->lS,le_of_not_lt->pq,ne_of_gt->nz,zero_add->nA,succ_pos->px,succ_le_succ->vh,lt_of_not_le->vi
open Ne renaming symm->gm
open Option renaming some->aa,none->ac,bind_some->aC,getD_some->nB,map->j1,map_some->vj
open Option.some renaming inj->cF
open Or renaming inr->bO,inl->cv
open Prod.mk renaming inj->rG
open PyProof.Rows renaming callWith_type1->py,firstMet->eZ,callWith_builtin1->vm,IntsAre->e7,boot_list->kO,envOfC->gO,AllBare->j2,boot_sum->lT
open PyProof.Rows.F renaming plain_set_update_loop->vn
open PySem renaming wpAny_bind->ap,Shared->ai,wpAny_pure->aJ,sizeLine->aS,starEach->ba,mainGlobals->cG,sizeLine_eq->dL,boot_len->fS,compareOp->c3,Program->cH,wpAny_newObj_type->j3,wpAny_mono->fT,rawInt->cq,FuncData->eB,sysModules->gP,wpAny_Call_Name_kw->lU,wpAny_truthy_bool->lV,swapsWith->gn,foldedSetIterable->lW,codeAny_builtin->kP,bootBuiltins->jq,wpAny_holding->j4,backTo->c4,wpAny_call_entry->lX,binaryOp->fU,NameKind->fV,wpAny_setField_rec->nC,intKind->eP,wpAny_passesOwn->lY,keywordEach->jr,behindInMarks->kQ,assignEach->iX,mem_of_lookup->pA,wpAny_setState_of->nE,Around->cP,holding->fG,wpAny_setEntries_of->pE,wpAny_loadPart'->rH,tupleKind_room_in1->pG,wpAny_callSpecial?_slot->rJ,getMethod->jt,pickOrder->hJ,attributeBase->nF,plainId_quiet->nG,sliceBounds->lZ,codeAny_mono->nH,backToKw->ju,standAt->iw,codeAny->ix,wpAny_pyIter_list->rK,scanBound->kS,wpAny_rule->l5,Spec->P1,tupleKind->l6,wpAny_execs_nil->rL,pyNext->hU,letOwnedTupleGo->rM,Builtin->fW,builtinLookup_eq_fast->vo,callWith->kU,assign->iy,wpAny_fieldsOf->rN,firstArgMember->rO,Paired->hV,SetTable->dC,relayAll->l7,wpAny_attempt->rP
open PySem.Around renaming under_plainId->l8,in1_units->nI
open PySem.Builtin.Frozenset renaming sizeOf->A9
open PySem.Builtin.Int renaming intBits->rQ,intTooBig->Ba
open PySem.Builtin.List renaming listTooLong->vp,listExtendWith->Bb,listSameRef->Bc
open PySem.Calls renaming spliced_cons->kX,callWith_builtin->vq,evalArgs_plain->vt,spliced_nil->vv
open PySem.F renaming plainAttrs_list->e8,slot_list_append->gQ,type_list_append->gR,called_set->kZ,slot_dict_get->vw,slot_dict_setdefault->Bd
open PySem.Heap renaming get?_push_of_some->bT,lt_size->bA,get?_push_size->dn,size_push->iz,SameBut->gS,get?_update_other->rR,get?_update_self->rS
open PySem.Heap.SameBut renaming update->pH
open PySem.NameKind renaming free->dR,cell->iA
open PySem.Obj renaming mapSeq->iB
open PySem.Paired renaming length->nJ
open PySem.PassesOwn renaming never->cT
open PySem.SeqAt renaming EqAt->cw
open PySem.SeqAt.EqAt renaming int_str->vz,str_int->vA,same->vB
open PySem.SetTable renaming below->cj,grown->l9
open PySem.SetTable.below renaming go->rT
open PySem.Str renaming empty->nK,ofString->rV
open PySem.Value renaming ref->cI,bool->gq,none->iY,type->j5,int->ma,str->nM
open PySem.W renaming Frag->aX,findIn->cQ,mg_none_of->hX,emptyDict->j6,kia_one->iZ,plainGet->j7,hasDictIn->k4,nsIn->eQ,keepIn->i0,plainOver->me,instObj->k5,makesIn->mf
open Sum renaming inl->gT,inr->jw
open Sum.inl renaming inj->mh
open True renaming intro->iC
abbrev PRS:=PySem.Value->PySem.Shared->Prop
abbrev MGT:=PySem.Str->Option PySem.Value
abbrev PNS:=List (PySem.Addr×PySem.Obj)
abbrev LN:=List Nat
abbrev L2N:=List LN
abbrev LSt:=List PySem.Str
abbrev LVa:=List PySem.Value
abbrev LAd:=List PySem.Addr
abbrev LEx:=List PySem.Expr
namespace L2
open List
open PySem PySem.Spec PyProof.Rows
noncomputable abbrev Key:=Sum Int Str
noncomputable def k6:Key->Value->Bool
 |.inl k,v=>Value.isInt k v
 |.inr x,v=>Value.isStrOf x v
noncomputable def Be(w:World):Key->Int
 |.inl k=>hashInt k
 |.inr x=>hashStr w x
theorem i4:∀{k:Key} {v:Value},k6 k v=ab->(∃i t,k=gT i/\v=ma i t)\/(∃x t,k=jw x/\v=nM x t)
 |.inl i,v,h=>by
  obtain⟨t,e⟩:=Value.isInt_shape (k:=i) (v:=v) h
  exact .inl ⟨i,t,rfl,e⟩
 |.inr x,v,h=>by
  obtain⟨t,e⟩:=Value.isStrOf_shape (x:=x) (v:=v) h;exact .inr ⟨x,t,rfl,e⟩
theorem Bf(i:Int)(t:Tok):k6 (.inl i) (.int i t)=ab:=by simp[k6,Value.isInt]
theorem Bg(x:Str)(t:Tok):k6 (.inr x) (.str x t)=ab:=by simp[k6,Value.isStrOf]
theorem rW(a b:Int):decide ((gT a:Key)=gT b)=(a==b):=by
 by_cases e:a=b
 .subst e;simp
 .have h:¬(gT a:Key)=gT b:=λq=>e (mh q);rw[decide_eq_false h];exact(beq_eq_false_iff_ne.mpr e).symm
theorem Bh(a b:Str):decide ((jw a:Key)=jw b)=decide (a=b):=by
 by_cases e:a=b
 .subst e;simp
 .have h:¬(jw a:Key)=jw b:=λq=>e (jw.inj q);rw[decide_eq_false h,decide_eq_false e]
theorem vC(a:Int)(b:Str):decide ((gT a:Key)=jw b)=ae:=decide_eq_false (λq=>nomatch q)
theorem vE(a:Str)(b:Int):decide ((jw a:Key)=gT b)=ae:=decide_eq_false (λq=>nomatch q)
noncomputable def iD(prog:cH)(w:World):PySem.KeyKind prog w Key where
 is:=k6
 hash:=Be w
 inj:=λv a b ha hb=>by
  rcases i4 ha with⟨i,t,rfl,rfl⟩ |⟨x,t,rfl,rfl⟩
  .rcases i4 hb with⟨j,u,rfl,e⟩ |⟨y,u,rfl,e⟩
   .injection e with e1 _;rw[e1]
   .exact nomatch e
  .rcases i4 hb with⟨j,u,rfl,e⟩ |⟨y,u,rfl,e⟩
   .exact nomatch e
   .injection e with e1 _;rw[e1]
 byValue:=λk v h=>by
  rcases i4 h with⟨i,t,rfl,rfl⟩ |⟨x,t,rfl,rfl⟩ <;> rfl
 pyHash:=λhv h=>by
  rcases i4 hv with⟨i,t,rfl,rfl⟩ |⟨x,t,rfl,rfl⟩
  .exact wpAny_pyHash_int h
  .exact wpAny_pyHash_str h
 eqBool:=λhu hv h=>by
  rcases i4 hu with⟨i,t,rfl,rfl⟩ |⟨x,t,rfl,rfl⟩
  .rcases i4 hv with⟨j,u,rfl,rfl⟩ |⟨y,u,rfl,rfl⟩
   .rw[rW]at h;exact wpAny_eqBool_int h
   .rw[vC]at h;exact vz i t y u _ _ _ _ h
  .rcases i4 hv with⟨j,u,rfl,rfl⟩ |⟨y,u,rfl,rfl⟩
   .rw[vE]at h;exact vA x t j u _ _ _ _ h
   .rw[Bh]at h;exact wpAny_eqBool_str h
 «strs»:=λk x t v h=>by
  rcases i4 h with⟨i,u,rfl,e⟩ |⟨y,u,rfl,e⟩
  .exact nomatch e
  .injection e with e1 _
   subst e1
   cases v <;> rfl
theorem Gg(prog:cH)(w:World)(i:Int)(t:Tok):(iD prog w).is (.inl i) (.int i t)=ab:=Bf i t
theorem Gh(prog:cH)(w:World)(x:Str)(t:Tok):(iD prog w).is (.inr x) (.str x t)=ab:=Bg x t
inductive V where
 |non |bl (b:Bool) |int (i:Int) |str (x:Str) |byt (b:Array UInt8) |flt (b:UInt64) |ref (a:Addr) |ty (n:String)
 deriving DecidableEq
def aF:V->Value->Prop
 |.non,u=>u=iY
 |.bl b,u=>u=gq b
 |.int i,u=>∃t,u=ma i t
 |.str x,u=>∃t,u=nM x t
 |.byt b,u=>∃t,u=Value.bytes b t
 |.flt b,u=>∃t,u=Value.float b t
 |.ref a,u=>u=cI a
 |.ty n,u=>u=j5 n
abbrev aG:List V->LVa->Prop:=hV aF
variable{xs:List V}{us:LVa}
theorem aG.length(r:aG xs us):xs.length=us.length:=nJ r
theorem aG.get:∀{xs:List V} {us:LVa} {i:Nat} {x:V},aG xs us->xs[i]?=aa x->∃u,us[i]?=aa u/\aF x u
 | _,_,_,_,.nil,e=>by simp at e
 | _,_,0,_,.cons r _,e=>by simp at e;subst e;exact⟨_,rfl,r⟩
 | _,_,i+1,x,.cons _ t,e=>by
  obtain⟨u,h1,h2⟩:=aG.get (i:=i) (x:=x) t (by simpa using e);exact⟨u,by simpa using h1,h2⟩
theorem aG.set{x:V}{u:Value}(r:aF x u):∀{xs:List V} {us:LVa} (i:Nat),aG xs us->aG (xs.set i x) (us.set i u)
 | _,_,_,.nil=>.nil
 | _,_,0,.cons _ t=>.cons r t
 | _,_,i+1,.cons q t=>.cons q (aG.set r i t)
theorem aG.append:∀{xs ys:List V} {us ws:LVa},aG xs us->aG ys ws->aG (xs++ys) (us++ws)
 | _,_,_,_,.nil,s=>s
 | _,_,_,_,.cons r t,s=>.cons r (aG.append t s)
theorem aG.take:∀{xs:List V} {us:LVa} (n:Nat),aG xs us->aG (xs.take n) (us.take n)
 | _,_,0,_=>.nil
 | _,_,_+1,.nil=>.nil
 | _,_,n+1,.cons r t=>.cons r (aG.take n t)
theorem aG.drop:∀{xs:List V} {us:LVa} (n:Nat),aG xs us->aG (xs.drop n) (us.drop n)
 | _,_,0,r=>r
 | _,_,_+1,.nil=>.nil
 | _,_,n+1,.cons _ t=>aG.drop n t
theorem aG.none_of:∀{xs:List V} {us:LVa} {i:Nat},aG xs us->xs[i]?=ac->us[i]?=ac:=λ{xs us i} r e=>by
 have h1:=r.length;have h2:xs.length<=i:=vc.mp e;exact vc.mpr (by omega)
def e9:Option V->Option Value->Prop
 |some v,aa u=>aF v u
 |none,ac=>True
 | _,_=>False
def KV{κ:Type}:List (κ×V)->List (κ×Value)->Prop:=hV λ(p:κ×V) (q:κ×Value)=>p.1=q.1/\aF p.2 q.2
noncomputable def kV:Key->V
 |.inl i=>.int i
 |.inr x=>.str x
def kR:Key->V->Prop
 |.inl i,v=>v=.int i\/∃b:Bool,v=.bl b/\i=cond b 1 0
 |.inr x,v=>v=.str x
noncomputable def vF:Key->Value->Bool
 |.inl k,.bool b=>decide (k=cond b 1 0)
 |k,v=>k6 k v
theorem mi{k:Key}{v:Value}(h:vF k v=ab):(∃i t,k=.inl i/\v=.int i t)\/(∃b:Bool,k=.inl (cond b 1 0)/\v=.bool b)\/(∃x t,k=.inr x/\v=.str x t):=by
 unfold vF at h;split at h
 .rename_i k' b;exact .inr (.inl ⟨b,by rw[of_decide_eq_true h],rfl⟩)
 .rcases i4 h with q |q
  .exact .inl q
  .exact .inr (.inr q)
theorem Gi(a b:Bool):decide ((gT (cond a 1 0):Key)=gT (cond b 1 0))=(a==b):=by cases a <;> cases b <;> decide
theorem Gj(a:Bool)(j:Int):decide ((gT (cond a 1 0):Key)=gT j)=((if a then 1 else 0)==j):=by rw[rW];cases a <;> rfl
theorem Gk(j:Int)(a:Bool):decide ((gT j:Key)=gT (cond a 1 0))=(j==(if a then 1 else 0)):=by rw[rW];cases a <;> rfl
variable{prog:cH}{w:World}{A:cP}{E:PRS}
theorem Gm{s:ai}{b:Bool}{Q:Int->ai->Prop}(h:Q (hashInt (cond b 1 0)) {s with toks:=s.toks+1}):wpAny (model prog w) A (pyHash (.bool b)) Q E s:=by
 refine W.pyHash_slot (T:="bool") rfl PySem.F.slot_bool_hash PySem.entry_int_hash (PySem.args_int_hash _) (beq_builtin_none _) (.inl rfl) ?_;cases b
 .exact(show wpAny _ _ (do ret (<- mkInt 0)) _ _ s from ap (wpAny_mkInt (aJ ⟨_,_,rfl,h⟩)))
 .exact(show wpAny _ _ (do ret (<- mkInt 1)) _ _ s from ap (wpAny_mkInt (aJ ⟨_,_,rfl,h⟩)))
noncomputable def j8(prog:cH)(w:World):PySem.KeyKind prog w Key where
 is:=vF
 hash:=Be w
 inj:=λv a b ha hb=>by
  rcases mi ha with⟨i,t,rfl,rfl⟩ |⟨c,rfl,rfl⟩ |⟨x,t,rfl,rfl⟩ <;> rcases mi hb with⟨j,u,rfl,e⟩ |⟨d,rfl,e⟩ |⟨y,u,rfl,e⟩ <;> cases e <;> rfl
 byValue:=λk v h=>by
  rcases mi h with⟨i,t,rfl,rfl⟩ |⟨c,rfl,rfl⟩ |⟨x,t,rfl,rfl⟩ <;> rfl
 pyHash:=λhv h=>by
  rcases mi hv with⟨i,t,rfl,rfl⟩ |⟨c,rfl,rfl⟩ |⟨x,t,rfl,rfl⟩
  .exact wpAny_pyHash_int h
  .exact Gm h
  .exact wpAny_pyHash_str h
 eqBool:=λhu hv h=>by
  rcases mi hu with⟨i,t,rfl,rfl⟩ |⟨c,rfl,rfl⟩ |⟨x,t,rfl,rfl⟩ <;> rcases mi hv with⟨j,u,rfl,rfl⟩ |⟨d,rfl,rfl⟩ |⟨y,u,rfl,rfl⟩
  .rw[rW]at h;exact cw.int_int _ _ _ _ _ _ _ _ h
  .rw[Gk]at h;exact cw.int_bool _ _ _ _ _ _ _ h
  .rw[vC]at h;exact vz _ _ _ _ _ _ _ _ h
  .rw[Gj]at h;exact cw.bool_int _ _ _ _ _ _ _ h
  .rw[Gi]at h;exact cw.bool_bool _ _ _ _ _ _ h
  .rw[vC]at h;exact cw.bool_str _ _ _ _ _ _ _ h
  .rw[vE]at h;exact vA _ _ _ _ _ _ _ _ h
  .rw[vE]at h;exact cw.str_bool _ _ _ _ _ _ _ h
  .rw[Bh]at h;exact wpAny_eqBool_str h
 «strs»:=λk x t v h=>by
  rcases mi h with⟨i,u,rfl,e⟩ |⟨c,rfl,e⟩ |⟨y,u,rfl,e⟩
  .exact nomatch e
  .exact nomatch e
  .injection e with e1 _
   subst e1
   cases v <;> rfl
variable{P:cH}{v:V}
theorem Gn{k:Key}{u:Value}(q:kR k v)(r:aF v u):(j8 P w).is k u=ab:=by
 cases k with
 |inl i=>
  rcases q with rfl |⟨b,rfl,rfl⟩
  .obtain⟨t,e⟩:=(show ∃t,u=ma i t from r);subst e;exact Bf i t
  .cases (show u=gq b from r);cases b <;> rfl
 |inr x=>cases (show v=V.str x from q);obtain⟨t,e⟩:=(show ∃t,u=nM x t from r);subst e;exact Bg x t
abbrev KRs:List Key->List V->Prop:=hV kR
theorem Bi{P:cH}{w:World}:∀{ks:List Key} {vs:List V} {us:LVa},KRs ks vs->aG vs us->ItemsAre (j8 P w) ks us
 | _,_,_,.nil,r=>by cases r;exact .nil
 | _,_,_,.cons q t,r=>by
  cases r with
  |cons h t'=>exact .cons (Gn q h) (Bi t t')
inductive HO where
 |lst (xs:List V)
 |tup (xs:List V)
 |dK (kvs:List (Key×V)) |dT (kvs:List (List Key×V))
 |set (S:Int->Bool) (n:Nat)
 |ins (C dx:Addr) (fs:List (Str×V))
 |own (x:Addr)
 |xd (fs:List (Str×V))
 |met (f x:Addr)
 |rng (lo hi:Int)
 |frz (o:Obj) (u:HO)
 |tbl (ps:Array Value)
 |ext (φ:Heap->Prop)
noncomputable abbrev Hp:=Addr->Option HO
def fH(H:Hp)(b:Addr)(k:List Key):Prop:=∃vs,H b=aa (.tup vs)/\KRs k vs
variable{H H':Hp}{b:Addr}
theorem fH.up{k:List Key}(h:fH H b k)(ht:∀b xs,H b=aa (.tup xs)->H' b=aa (.tup xs)):fH H' b k:=let ⟨vs,e,q⟩:=h;⟨vs,ht _ _ e,q⟩
noncomputable def upd(H:Hp)(a:Addr)(o:HO):Hp:=λb=>if b=a then aa o else H b
variable{a:Addr}
theorem be{o:HO}:upd H a o a=aa o:=by unfold upd;rw[if_pos rfl]
theorem aK{o:HO}(h:b≠a):upd H a o b=H b:=by unfold upd;rw[if_neg h]
theorem Bj{o u:HO}(h:H a=aa o)(h':H b=aa u)(d:o≠u):a≠b:=by
 intro e;subst e;rw[h]at h';exact d (cF h')
theorem fI{o:HO}(h:H a=aa o)(h':H b=ac):a≠b:=by
 intro e;subst e;rw[h]at h';cases h'
section
variable(P:cH)(w:World)
def cU(H:Hp)(h:Heap)(a:Addr):HO->Prop
 |.lst xs=>xs.length<=aS/\∃(its:LVa) (n:Nat),aG xs its/\h.get? a=aa {cls:=.type "list",data:=.seq its.toArray n}
 |.tup xs=>xs.length<=aS/\∃its:LVa,aG xs its/\IsTup h a its.toArray
 |.dK kvs=>kvs.length<=aS/\(a==gP)=ae/\∃vs,KV kvs vs/\h.DictOf (iD P w) a vs
 |.dT kvs=>kvs.length<=aS/\(a==gP)=ae/\∃xs:List (List Key×Addr×Value),
   hV (λ(p:List Key×V) (q:List Key×Addr×Value)=>p.1=q.1/\fH H q.2.1 p.1/\aF p.2 q.2.2) kvs xs /\
   ∃o es ep,h.get? a=aa o/\o.ExactDict/\o.data=.dict es ep/\es.toList=xs.map (entryOfKey (l6 (j8 P w)))/\(xs.map (·.1)).Nodup
 |.set S n=>h.SetOf (eP P w) a S n
 |.ins C dx fs=>H dx=aa (.own a)/\fs.length<=1000/\dx≠a/\h.get? a=aa (k5 C dx) /\
   ∃mA,h.Ns1 dx mA/\(∀f,e9 (fs.lookup f) (mA f))/\PySem.Within mA (fs.map (·.1))
 |.own _=>∃o,h.get? a=aa o
 |.xd fs=>∃mA,h.Ns1 a mA/\∀f,e9 (fs.lookup f) (mA f)
 |.rng lo hi=>∃t u v,h.get? a=aa {cls:=.type "range",data:=.fields #[.int lo t,.int hi u,.int 1 v]}
 |.frz o u=>h.get? a=aa o/\cU H h a u
 |.tbl ps=>h.get? a=aa {cls:=.none,data:=.fields ps}
 |.met f x=>h.get? a=aa (W.methodObj (.ref f) (.ref x))
 |.ext φ=>φ h/\(∃o,h.get? a=aa o)/\∀h1 h2:Heap,φ h1->(∀o,h1.get? a=aa o->h2.get? a=aa o)->φ h2
def HOk(H:Hp)(h:Heap):Prop:=∀a o,H a=aa o->cU P w H h a o
end
variable{h:Heap}
section
variable{o:HO}
theorem cU.lt(x:cU P w H h a o):a<h.objs.size:=by
 cases o with
 |lst xs=>obtain⟨_,_,_,_,e⟩:=x;exact bA e
 |tup xs=>obtain⟨_,_,_,p⟩:=x;exact p.lt
 |dK kvs=>obtain⟨_,_,_,_,o,_,_,e,_⟩:=x;exact bA e
 |dT kvs=>obtain⟨_,_,_,_,o,_,_,e,_⟩:=x;exact bA e
 |set S n=>obtain⟨o,_,_,_,e,_⟩:=x;exact bA e
 |ins C dx fs=>obtain⟨_,_,_,e,_⟩:=x;exact bA e
 |own y=>obtain⟨_,e⟩:=x;exact bA e
 |xd fs=>obtain⟨_,⟨_,_,_,e,_⟩,_⟩:=x;exact bA e
 |rng lo hi=>obtain⟨_,_,_,e⟩:=x;exact bA e
 |frz ob u=>obtain⟨e,_⟩:=x;exact bA e
 |tbl ps=>exact bA (show h.get? a=aa _ from x)
 |met f y=>exact bA (show h.get? a=aa _ from x)
 |ext φ=>obtain⟨_,⟨_,e⟩,_⟩:=x;exact bA e
end
theorem hV.mapP{α β:Type}{F G:α->β->Prop}:∀{l₁:List α} {l₂:List β},hV F l₁ l₂->(∀a b,F a b->G a b)->hV G l₁ l₂
 | _,_,.nil,_=>.nil
 | _,_,.cons r t,f=>.cons (f _ _ r) (hV.mapP t f)
variable{h':Heap}
section
variable{o:HO}
theorem cU.stay(x:cU P w H h a o)(k:∀b u,(b=a\/H b=aa (.own a))->h.get? b=aa u->h'.get? b=aa u)
 (ho:∀b,H b=aa (.own a)->H' b=aa (.own a))(ht:∀b xs,H b=aa (.tup xs)->H' b=aa (.tup xs)):cU P w H' h' a o:=by
 induction o with
 |lst xs=>obtain⟨z,its,n,r,e⟩:=x;exact⟨z,its,n,r,k _ _ (.inl rfl) e⟩
 |tup xs=>obtain⟨z,its,r,ob,e,c⟩:=x;exact⟨z,its,r,ob,k _ _ (.inl rfl) e,c⟩
 |dK kvs=>obtain⟨z,y,vs,r,ob,es,ep,e,c⟩:=x;exact⟨z,y,vs,r,ob,es,ep,k _ _ (.inl rfl) e,c⟩
 |dT kvs=>
  obtain⟨z,y,xs,r,ob,es,ep,e,c⟩:=x
  exact⟨z,y,xs,hV.mapP r λp q z=>⟨z.1,z.2.1.up ht,z.2.2⟩,ob,es,ep,k _ _ (.inl rfl) e,c⟩
 |set S n=>obtain⟨ob,es,ep,t,e,c⟩:=x;exact⟨ob,es,ep,t,k _ _ (.inl rfl) e,c⟩
 |ins C dx fs=>
  obtain⟨d,z,ne,e,mA,⟨od,es,ep,e2,c⟩,r⟩:=x
  exact⟨ho _ d,z,ne,k _ _ (.inl rfl) e,mA,⟨od,es,ep,k _ _ (.inr d) e2,c⟩,r⟩
 |own y=>obtain⟨ob,e⟩:=x;exact⟨ob,k _ _ (.inl rfl) e⟩
 |xd fs=>obtain⟨mA,⟨od,es,ep,e,c⟩,r⟩:=x;exact⟨mA,⟨od,es,ep,k _ _ (.inl rfl) e,c⟩,r⟩
 |rng lo hi=>obtain⟨t,u,v,e⟩:=x;exact⟨t,u,v,k _ _ (.inl rfl) e⟩
 |frz ob u ih=>obtain⟨e,q⟩:=x;exact⟨k _ _ (.inl rfl) e,ih q⟩
 |tbl ps=>
  have e:h.get? a=aa {cls:=.none,data:=.fields ps}:=x;show h'.get? a=aa {cls:=.none,data:=.fields ps}
  exact k a _ (.inl rfl) e
 |met f y=>
  have e:h.get? a=aa (W.methodObj (.ref f) (.ref y)):=x;show h'.get? a=aa (W.methodObj (.ref f) (.ref y))
  exact k a _ (.inl rfl) e
 |ext φ=>obtain⟨p,⟨o,e⟩,st⟩:=x;exact⟨st _ _ p λo q=>k _ _ (.inl rfl) q,⟨o,k _ _ (.inl rfl) e⟩,st⟩
end
section
variable{o:HO}
theorem HOk.lt(x:HOk P w H h)(e:H a=aa o):a<h.objs.size:=(x a o e).lt
end
theorem HOk.fresh(x:HOk P w H h)(e:h.objs.size<=a):H a=ac:=by
 cases q:H a with
 |none=>rfl
 |some u=>exact absurd (fF (x.lt q) e) (iu _)
theorem HOk.kept(x:HOk P w H h)(k:∀b u,h.get? b=aa u->h'.get? b=aa u):HOk P w H h':=λa o e=>
 (x a o e).stay (λb u _ q=>k b u q) (λ_ q=>q) λ_ _ q=>q
section
variable{o:HO}
theorem HOk.laid(x:HOk P w H h)(k:∀b u,h.get? b=aa u->h'.get? b=aa u)(hp:h.objs.size<=a)(new:cU P w (upd H a o) h' a o):HOk P w (upd H a o) h':=λb u e=>by
 have hn:=x.fresh hp
 by_cases hb:b=a
 .subst hb;rw[be]at e;cases e;exact new
 .rw[aK hb]at e;exact(x b u e).stay (λc v _ q=>k c v q) (λc q=>by rw[aK (fI q hn)];exact q) λc xs q=>by rw[aK (fI q hn)];exact q
end
def Rd(H:Hp)(a:Addr)(u:HO):Prop:=H a=aa u\/∃o,H a=aa (.frz o u)
theorem Rd.ok{u:HO}(r:Rd H a u)(x:HOk P w H h):cU P w H h a u:=by
 rcases r with r |⟨o,r⟩
 .exact x a u r
 .obtain⟨_,q⟩:=x a _ r;exact q
def Mut:Option HO->Prop
 |some (.lst _)=>True
 |some (.dK _)=>True
 |some (.dT _)=>True
 |some (.set _ _)=>True
 |some (.ins _ _ _)=>True
 |some (.ext _)=>True
 | _=>False
variable{x e:Addr}{o':HO}
theorem HOk.write(ok:HOk P w H h)(mu:Mut (H x))(he:e=x\/H e=aa (.own x))(k:∀b u,b≠e->h.get? b=aa u->h'.get? b=aa u)(heo:∃u,h'.get? e=aa u)
 (new:cU P w (upd H x o') h' x o'):HOk P w (upd H x o') h':=λb u q=>by
 have nown:∀c y,H c=aa (.own y)->c≠x:=λc y r z=>by subst z;rw[r]at mu;exact mu
 have ntup:∀c xs,H c=aa (.tup xs)->c≠x:=λc xs r z=>by subst z;rw[r]at mu;exact mu
 by_cases hb:b=x
 .subst hb;rw[be]at q;cases q;exact new
 .rw[aK hb]at q
  by_cases hbe:b=e
  .have q':H b=aa (.own x):=by
    rcases he with z |z
    .exact absurd (hbe.trans z) hb
    .rw[hbe];exact z
   rw[q]at q';cases q';obtain⟨v,hv⟩:=heo;exact⟨v,by rw[hbe];exact hv⟩
  .refine(ok b u q).stay (λc v hc r=>k c v ?_ r) (λc r=>by rw[aK (nown c b r)];exact r) λc xs r=>by rw[aK (ntup c xs r)];exact r
   rcases hc with rfl |hc
   .exact hbe
   .rintro rfl
    rcases he with z |z
    .exact nown c b hc z
    .rw[hc]at z;cases z;exact hb rfl
structure Un(fs ex:LAd)(H H':Hp)(h h':Heap):Prop where
 keep:∀b o,h.get? b=aa o->H b=ac->b∉fs->b∉ex->h'.get? b=aa o
 slot:∀b o,h.get? b=aa o->H b=ac->b∈fs->b∉ex->∃sl,h'.get? b=aa {o with slots:=sl}
 free:∀b o,h.get? b=aa o->H b=ac->b∉ex->H' b=ac
 there:∀b o,h.get? b=aa o->b∉ex->∃o',h'.get? b=aa o'
 tups:∀b xs,H b=aa (.tup xs)->H' b=aa (.tup xs)
 frzs:∀b o u,H b=aa (.frz o u)->H' b=aa (.frz o u)
 tbls:∀b ps,H b=aa (.tbl ps)->∃more,H' b=aa (.tbl (ps++more))
variable{ex:LAd}{H1:Hp}{h1:Heap}
section
variable{fs:LAd}
theorem Un.any(u:Un fs ex H H1 h h1){ob:Obj}(q:h.get? b=aa ob)(n:H b=ac)(hx:b∉ex):∃sl,h1.get? b=aa {ob with slots:=sl}:=by
 by_cases hb:b∈fs
 .exact u.slot b ob q n hb hx
 .exact⟨ob.slots,u.keep b ob q n hb hx⟩
end
variable{H2:Hp}{h2:Heap}
section
variable{fs:LAd}
theorem Un.trans(a:Un fs ex H H1 h h1)(b:Un fs ex H1 H2 h1 h2):Un fs ex H H2 h h2 where
 keep:=λc ob q n hc hx=>b.keep c ob (a.keep c ob q n hc hx) (a.free c ob q n hx) hc hx
 slot:=λc ob q n hc hx=>by
  obtain⟨sl,e1⟩:=a.slot c ob q n hc hx;obtain⟨sl',e2⟩:=b.slot c _ e1 (a.free c ob q n hx) hc hx;exact⟨sl',e2⟩
 free:=λc ob q n hx=>by
  obtain⟨o',e1⟩:=a.there c ob q hx;exact b.free c o' e1 (a.free c ob q n hx) hx
 there:=λc ob q hx=>by
  obtain⟨o',e1⟩:=a.there c ob q hx;exact b.there c o' e1 hx
 tups:=λc xs q=>b.tups c xs (a.tups c xs q)
 frzs:=λc ob xs q=>b.frzs c ob xs (a.frzs c ob xs q)
 tbls:=λc ps q=>by
  obtain⟨m1,e1⟩:=a.tbls c ps q;obtain⟨m2,e2⟩:=b.tbls c _ e1;exact⟨m1++m2,by rw[e2,Array.append_assoc]⟩
end
section
variable{fs:LAd}
theorem Un.kept(k:∀b u,h.get? b=aa u->h'.get? b=aa u):Un fs ex H H h h':=
 ⟨λb ob q _ _ _=>k b ob q,λb ob q _ _ _=>⟨ob.slots,k b ob q⟩,λ_ _ _ n _=>n,λb ob q _=>⟨ob,k b ob q⟩,λ_ _ q=>q,λ_ _ _ q=>q,λ_ ps q=>⟨#[],by rw[q];simp⟩⟩
end
section
variable{fs:LAd}
theorem Un.refl:Un fs ex H H h h:=Un.kept λ_ _ q=>q
end
section
variable{fs:LAd}{o:HO}
theorem Un.laid(k:∀b u,h.get? b=aa u->h'.get? b=aa u)(hp:h.objs.size<=a)(hn:H a=ac):Un fs ex H (upd H a o) h h' where
 keep:=λb u q _ _ _=>k b u q
 slot:=λb u q _ _ _=>⟨u.slots,k b u q⟩
 free:=λb u q n _=>by rw[aK (ca (fF (bA q) hp))];exact n
 there:=λb u q _=>⟨u,k b u q⟩
 tups:=λb xs q=>by rw[aK (fI q hn)];exact q
 frzs:=λb u xs q=>by rw[aK (fI q hn)];exact q
 tbls:=λb ps q=>⟨#[],by rw[aK (fI q hn),q];simp⟩
end
section
variable{fs:LAd}{o:HO}
theorem Un.write(mu:Mut (H x))(he:e=x\/H e=aa (.own x))(k:∀b u,b≠e->h.get? b=aa u->h'.get? b=aa u)(heo:∃u,h'.get? e=aa u):Un fs ex H (upd H x o) h h':=by
 have hx:∀b,H b=ac->b≠x:=λb n z=>by subst z;rw[n]at mu;exact mu
 have hb:∀b,H b=ac->b≠e:=λb n z=>by
  subst z
  rcases he with r |r
  .exact hx b n r
  .rw[n]at r;cases r
 have hm:∀b u,H b=aa u->¬Mut (aa u)->b≠x:=λb u q nm z=>by subst z;rw[q]at mu;exact nm mu
 refine⟨λb u q n _ _=>k b u (hb b n) q,λb u q n _ _=>⟨u.slots,k b u (hb b n) q⟩,λb u q n _=>by rw[aK (hx b n)];exact n,λb u q _=>?_,
  λb xs q=>by rw[aK (hm b _ q λz=>z)];exact q,λb u xs q=>by rw[aK (hm b _ q λz=>z)];exact q,λb ps q=>⟨#[],by rw[aK (hm b _ q λz=>z),q];simp⟩⟩
 by_cases hbe:b=e
 .subst hbe;exact heo
 .exact⟨u,k b u hbe q⟩
end
noncomputable def trk(h:Heap)(H:Hp):LAd:=(bF h.objs.size).filter λa=>(H a).isSome
noncomputable def j9(h:Heap)(H:Hp):Heap:=W.hideAll h (trk h H)
theorem Go(h:Heap)(H:Hp):(j9 h H).objs.size=h.objs.size:=W.hideAll_size _ _
theorem Gp{o:Obj}(e:h.get? b=aa o)(n:H b=ac):(j9 h H).get? b=aa o:=
 W.hideAll_get _ e λhm=>by
  have q:(H b).isSome=ab:=(eA.mp hm).2;rw[n]at q;simp at q
theorem Gq{o:Obj}(e:(j9 h H).get? b=aa o):h.get? b=aa o/\H b=ac:=by
 have e':h.get? b=aa o:=W.of_hideAll (trk h H) e;refine⟨e',?_⟩
 cases q:H b with
 |none=>rfl
 |some x=>
  have hm:b∈trk h H:=eA.mpr ⟨eY.mpr (bA e'),by simp[q]⟩;have z:(j9 h H).get? b=ac:=W.hideAll_none (trk h H) hm;rw[z]at e;cases e
noncomputable def Gr(g h:Heap)(L:Addr):PNS:=(bF h.objs.size).filterMap λa=>if a=L\/(g.get? a).isSome=ab then ac else (h.get? a).map λo=>(a,o)
noncomputable def rest(g h:Heap)(L d:Addr):PNS:=(Gr g h L).filter λp=>decide (p.1≠d)
structure Mod(K:aX)(mg:MGT)(base:Heap):Prop where
 kin:K.In base
 glob:base.Ns cG mg
 blt:∃mb,base.Ns builtinsNs mb/\∀x:Str,x ≠ "__name__" -> mb x=jq x
 nolimit:base.NoLimit
set_option genInjectivity false in
structure Cx where
 prog:cH
 w:World
 K:aX
 mg:Str->Option Value
 base:Heap
 A:cP
 N:LSt
 s₀:ai
 H₀:Hp
 env:Env
 outer:List Env
 stack:List Env
 ex:LAd
 fn:Str->Bool
 calm:Bool
 pn:PNS
 xe:Value->ai->Prop
abbrev NDb(x:Str):=(x==("__debug__":Str))=ae
abbrev NCd(x:Str):=(x==("__classdict__":Str))=ae
abbrev StE(X:Cx)(e:Expr)(es:LEx):=ba (e::es) X.env=(ae,eval e X.env)::ba es X.env
abbrev BkE(X:Cx)(pos:Pos)(es:LEx):=(c4 pos (ba es X.env)).any (·.1)=ae
abbrev LcF(X:Cx)(x:Str):=X.fn x=ab\/X.env.scope.names.lookup x=aa .local
noncomputable def frs(l:List Env):LAd:=l.filterMap (·.frame)
noncomputable abbrev Cx.fs(X:Cx):LAd:=frs X.outer
def Vis(sc:Scope)(x:Str):Prop:=sc.names.lookup x=aa .local\/sc.names.lookup x=aa .cell\/sc.names.lookup x=aa .free
def Loc(sc:Scope)(x:Str):Prop:=sc.names.lookup x=aa .local\/sc.names.lookup x=aa .cell
def Gs(env:Env)(h:Heap)(m:MGT)(x:Str)(u:Value):Prop:=
 (env.kindOf x=aa .local/\m x=aa u)\/((env.kindOf x=aa .cell\/env.kindOf x=aa .free)/\∃c,env.cells.lookup x=aa c/\h.IsCell c (aa u))
structure Cx.Ok(X:Cx):Prop where
 mod:Mod X.K X.mg X.base
 kind:X.env.scope.kind=.function
 glob:X.env.globals=cG
 blt:X.env.builtins=builtinsNs
 above:X.s₀.heap.objs.size<=X.env.locals
 inj:∀x y c,X.env.cells.lookup x=aa c->X.env.cells.lookup y=aa c->x=y
 has:∀x,(X.env.kindOf x=aa .cell\/X.env.kindOf x=aa .free)->∃c,X.env.cells.lookup x=aa c
 cab:∀x c,X.fn x=ab->X.env.cells.lookup x=aa c->X.s₀.heap.objs.size<=c
 hd:X.calm=ab->X.A.handled=ac
 frames:X.A.frames=aa X.stack
 stk:X.stack=X.outer\/(X.stack=X.env::X.outer/\X.env.frame=aa X.env.locals)
 exf:∀b∈X.ex,b≠X.env.locals/\∀x c,X.env.cells.lookup x=aa c->c≠b
 bs:∀b o,X.base.get? b=aa o->X.s₀.heap.get? b=aa o/\X.H₀ b=ac
 bsz:X.base.objs.size<=X.s₀.heap.objs.size
 noex:∀b o,X.base.get? b=aa o->b∉X.ex
 exfs:∀b∈X.ex,b∉X.fs
 funs:X.s₀.heap.FunFrames X.base X.outer
 frf:∀b∈X.fs,X.H₀ b=ac
structure Inv(X:Cx)(pins:PNS)(σ:List (Option V))(H:Hp)(s:ai):Prop where
 ok:X.Ok
 os:s.os=X.s₀.os
 bare:j2 s.gens
 base:Un X.fs X.ex X.H₀ H X.s₀.heap s.heap
 loc:∃m,s.heap.Ns X.env.locals m/\∀(i:Nat) (x:Str) (v:V),X.N[i]?=aa x->σ[i]?=aa (aa v)->Vis X.env.scope x->∃u,aF v u/\Gs X.env s.heap m x u
 cell:∀x c,X.env.cells.lookup x=aa c->∃v,s.heap.IsCell c v
 free:H X.env.locals=ac
 freeC:∀x c,X.env.cells.lookup x=aa c->H c=ac
 pin:∀p∈X.pn++pins,s.heap.get? p.1=aa p.2/\H p.1=ac/\p.1≠X.env.locals/\p.1∉X.fs/\∀v,p.2.data≠.cell v
 hok:HOk X.prog X.w H s.heap
 len:σ.length=X.N.length
variable{X:Cx}
theorem Cx.Ok.nofr(ok:X.Ok){o:Obj}(e:X.base.get? b=aa o):b∉X.fs:=λhb=>by
 have:=(ok.funs.mem hb).1;rw[e]at this;cases this
variable{pins:PNS}{σ:List (Option V)}
section
variable{s:ai}
theorem Inv.bs(I:Inv X pins σ H s):∀b o,X.base.get? b=aa o->s.heap.get? b=aa o/\H b=ac:=λb o e=>
 ⟨I.base.keep b o (I.ok.bs b o e).1 (I.ok.bs b o e).2 (I.ok.nofr e) (I.ok.noex b o e),I.base.free b o (I.ok.bs b o e).1 (I.ok.bs b o e).2 (I.ok.noex b o e)⟩
end
section
variable{s:ai}
theorem Inv.bk(I:Inv X pins σ H s):∀b o,X.base.get? b=aa o->s.heap.get? b=aa o:=λb o e=>(I.bs b o e).1
end
section
variable{s:ai}
theorem Inv.mod(I:Inv X pins σ H s):Mod X.K X.mg X.base:=I.ok.mod
end
section
variable{s:ai}
theorem Inv.kIn(I:Inv X pins σ H s):X.K.In s.heap:=I.ok.mod.kin.keeps I.bk
end
section
variable{s:ai}
theorem Inv.lt(I:Inv X pins σ H s):X.env.locals<s.heap.objs.size:=let ⟨_,hn,_⟩:=I.loc;hn.lt
end
section
variable{s:ai}
theorem Inv.sz(I:Inv X pins σ H s):X.s₀.heap.objs.size<=s.heap.objs.size:=cZ I.ok.above (gN I.lt)
end
section
variable{s:ai}
theorem Inv.nofs(I:Inv X pins σ H s)(h:s.heap.objs.size<=a):a∉X.fs:=λhb=>by
 obtain⟨_,o,ho,_⟩:=I.ok.funs.mem hb;exact absurd (fF (bA ho) (cZ I.sz h)) (iu _)
end
section
variable{s:ai}
theorem Inv.cne(I:Inv X pins σ H s):∀x c,X.env.cells.lookup x=aa c->c≠X.env.locals:=λx c e z=>by
 obtain⟨v,o,ho,hd⟩:=I.cell x c e;obtain⟨m,⟨o',es,ep,ho',hd',_⟩,_⟩:=I.loc;rw[z,ho']at ho;cases ho;rw[hd']at hd;cases hd
end
section
variable{s:ai}
theorem Inv.funs(I:Inv X pins σ H s):s.heap.FunFrames X.base X.outer:=by
 have all:∀(l:List Env),(∀b∈frs l,b∈X.fs)->X.s₀.heap.FunFrames X.base l->s.heap.FunFrames X.base l:=by
  intro l
  induction l with
  |nil=>intro _ _;trivial
  |cons env r ih=>
   intro hs hl;obtain⟨hk,⟨L,o,hf,hn,ho,hd⟩,hr⟩:=hl;have hL:L∈X.fs:=hs L (by unfold frs;rw[pb,hf];exact aO);obtain⟨sl,e⟩:=I.base.slot L o ho (I.ok.frf L hL) hL λz=>I.ok.exfs L z hL;exact⟨hk,⟨L,_,hf,hn,e,hd⟩,ih (λb hb=>hs b (by unfold frs;rw[pb,hf];exact bv _ hb)) hr⟩
 exact all X.outer (λ_ hb=>hb) I.ok.funs
end
section
variable{s:ai}
theorem Inv.stack(I:Inv X pins σ H s):s.heap.FunFrames X.base X.stack:=by
 rcases I.ok.stk with e |⟨e,hf⟩
 .rw[e];exact I.funs
 .rw[e];obtain⟨m,hn,_⟩:=I.loc;refine .cons (by rw[I.ok.kind];decide) hf hn ?_ I.funs;exact Heap.get?_none_of_le (cZ I.ok.bsz I.ok.above)
end
section
variable{s:ai}
theorem Inv.stkSub(I:Inv X pins σ H s):∀b∈frs X.stack,b∈X.env.locals::X.fs:=λb hb=>by
 rcases I.ok.stk with e |⟨e,hf⟩
 .rw[e]at hb;exact bv _ hb
 .rw[e]at hb;unfold frs at hb;rw[pb,hf]at hb;exact hb
end
section
variable{s:ai}
theorem Inv.stkFree(I:Inv X pins σ H s):∀b∈frs X.stack,H b=ac:=λb hb=>by
 rcases aW.mp (I.stkSub b hb)with e |hb
 .rw[e];exact I.free
 .obtain⟨_,o,ho,_⟩:=I.ok.funs.mem hb;exact I.base.free b o ho (I.ok.frf b hb) λz=>I.ok.exfs b z hb
end
variable{g':Array GenState}{t':Nat}{d':Drawn}{ch:LAd}
section
variable{s:ai}
theorem Inv.step(I:Inv X pins σ H s)
 (hch:∀b∈ch,(b∈X.ex\/X.s₀.heap.objs.size<=b)/\b≠X.env.locals/\(∀x c,X.env.cells.lookup x=aa c->c≠b)/\∀p∈X.pn++pins,p.1≠b)
 (keep:∀b o,b≠X.env.locals->b∉X.fs->b∉ch->s.heap.get? b=aa o->H b=ac->h'.get? b=aa o)
 (slot:∀b o,b≠X.env.locals->b∈X.fs->b∉ch->s.heap.get? b=aa o->H b=ac->∃sl,h'.get? b=aa {o with slots:=sl})(free:∀b o,b∉ch->s.heap.get? b=aa o->H b=ac->H' b=ac)
 (there:∀b o,b∉ch->s.heap.get? b=aa o->∃o',h'.get? b=aa o')
 (tups:∀b xs,H b=aa (.tup xs)->H' b=aa (.tup xs))(frzs:∀b o u,H b=aa (.frz o u)->H' b=aa (.frz o u))(tbls:∀b ps,H b=aa (.tbl ps)->∃more,H' b=aa (.tbl (ps++more)))
 (ns:∀m,s.heap.Ns X.env.locals m->h'.Ns X.env.locals m)(hok:HOk X.prog X.w H' h')(hg:j2 g'):
  Inv X pins σ H' {s with heap:=h',gens:=g',drawn:=d',toks:=t'}:=by
 have neL:∀b o,X.s₀.heap.get? b=aa o->b≠X.env.locals:=λb o e=>ca (fF (bA e) I.ok.above)
 have neC:∀b o,X.s₀.heap.get? b=aa o->b∉X.ex->b∉ch:=λb o e hx hb=>by
  rcases(hch b hb).1 with z |z
  .exact hx z
  .exact absurd (fF (bA e) z) (iu _)
 have cellK:∀x c,X.env.cells.lookup x=aa c->∀v,s.heap.IsCell c v->h'.IsCell c v:=λx c e v q_=>by
  obtain⟨o,ho,hd⟩:=q_;have nch:c∉ch:=λz=>(hch c z).2.2.1 x c e rfl
  by_cases hc:c∈X.fs
  .obtain⟨sl,q⟩:=slot c o (I.cne x c e) hc nch ho (I.freeC x c e);exact⟨_,q,hd⟩
  .exact⟨o,keep c o (I.cne x c e) hc nch ho (I.freeC x c e),hd⟩
 refine⟨I.ok,I.os,hg,⟨λb o e n hb hx=>?_,λb o e n hb hx=>?_,λb o e n hx=>?_,λb o e hx=>?_,λb xs e=>tups b xs (I.base.tups b xs e),λb o xs e=>frzs b o xs (I.base.frzs b o xs e),λb ps e=>?_⟩,?_,λx c e=>?_,?_,λx c e=>?_,λp hp=>?_,hok,I.len⟩
 .exact keep b o (neL b o e) hb (neC b o e hx) (I.base.keep b o e n hb hx) (I.base.free b o e n hx)
 .obtain⟨sl,e1⟩:=I.base.slot b o e n hb hx;obtain⟨sl',e2⟩:=slot b _ (neL b o e) hb (neC b o e hx) e1 (I.base.free b o e n hx);exact⟨sl',e2⟩
 .obtain⟨o',e1⟩:=I.base.there b o e hx;exact free b o' (neC b o e hx) e1 (I.base.free b o e n hx)
 .obtain⟨o',e1⟩:=I.base.there b o e hx;exact there b o' (neC b o e hx) e1
 .obtain⟨m1,e1⟩:=I.base.tbls b ps e;obtain⟨m2,e2⟩:=tbls b _ e1;exact⟨m1++m2,by rw[e2,Array.append_assoc]⟩
 .obtain⟨m,hn,hl⟩:=I.loc;refine⟨m,ns m hn,λi x v e1 e2 e3=>?_⟩;obtain⟨u,r,l⟩:=hl i x v e1 e2 e3;refine⟨u,r,?_⟩
  rcases l with l |⟨k,c,e,z⟩
  .exact .inl l
  .exact .inr ⟨k,c,e,cellK x c e _ z⟩
 .obtain⟨v,z⟩:=I.cell x c e;exact⟨v,cellK x c e v z⟩
 .obtain⟨m,⟨o,_,_,ho,_⟩,_⟩:=I.loc;exact free _ o (λz=>(hch _ z).2.1 rfl) ho I.free
 .obtain⟨v,o,ho,hd⟩:=I.cell x c e;exact free c o (λz=>(hch c z).2.2.1 x c e rfl) ho (I.freeC x c e)
 .obtain⟨e,n,ne,nf,d⟩:=I.pin p hp;have nch:p.1∉ch:=λz=>(hch p.1 z).2.2.2 p hp rfl;exact⟨keep p.1 p.2 ne nf nch e n,free p.1 p.2 nch e n,ne,nf,d⟩
end
section
variable{s:ai}
theorem Inv.un(I:Inv X pins σ H s)(u:Un X.fs [] H H' s.heap h')(hok:HOk X.prog X.w H' h'):Inv X pins σ H' {s with heap:=h',toks:=t'}:=by
 obtain⟨m,⟨o,es,ep,ho,r⟩,_⟩:=id I.loc;obtain⟨sl,hL⟩:=u.any ho I.free (by simp)
 exact I.step (g':=s.gens) (d':=s.drawn) (ch:=[]) (λ_ z=>nomatch z) (λb o _ hb _ e n=>u.keep b o e n hb (by simp)) (λb o _ hb _ e n=>u.slot b o e n hb (by simp)) (λb o _ e n=>u.free b o e n (by simp)) (λb o _ e=>u.there b o e (by simp)) u.tups u.frzs u.tbls (λm' hm=>by
  obtain⟨o',es',ep',ho',r'⟩:=hm;rw[ho]at ho';cases ho';exact⟨_,es',ep',hL,r'⟩) hok I.bare
end
section
variable{s:ai}
theorem Inv.call(I:Inv X pins σ H s)(u:Un (frs X.stack) ch H H' s.heap h')(hok:HOk X.prog X.w H' h')(hg:j2 g')
 (hch:∀b∈ch,(b∈X.ex\/X.s₀.heap.objs.size<=b)/\b≠X.env.locals/\(∀x c,X.env.cells.lookup x=aa c->c≠b)/\∀p∈X.pn++pins,p.1≠b):
  Inv X pins σ H' {s with heap:=h',gens:=g',drawn:=d',toks:=t'}:=by
 obtain⟨m,⟨o,es,ep,ho,r⟩,_⟩:=id I.loc;obtain⟨sl,hL⟩:=u.any ho I.free λz=>(hch _ z).2.1 rfl
 exact I.step (ch:=ch) hch (λb o hL hb hc e n=>u.keep b o e n (λz=>(aW.mp (I.stkSub b z)).elim hL hb) hc) (λb o _ _ hc e n=>u.any e n hc) (λb o hc e n=>u.free b o e n hc) (λb o hc e=>u.there b o e hc) u.tups u.frzs u.tbls (λm' hm=>by
  obtain⟨o',es',ep',ho',r'⟩:=hm;rw[ho]at ho';cases ho';exact⟨_,es',ep',hL,r'⟩) hok hg
end
variable{it:Addr}
section
variable{s:ai}
theorem Inv.turned(I:Inv X pins σ H s)(k:∀b o,b≠it->s.heap.get? b=aa o->h'.get? b=aa o)(hn:H it=ac)(hL:it≠X.env.locals)
 (h1:it∈X.ex\/X.s₀.heap.objs.size<=it)(h2:∀x c,X.env.cells.lookup x=aa c->c≠it)(h3:∀p∈X.pn++pins,p.1≠it):Inv X pins σ H {s with heap:=h',toks:=t'}:=by
 have nit:∀b u,H b=aa u->b≠it:=λb u e z=>by rw[z,hn]at e;cases e
 refine I.step (g':=s.gens) (d':=s.drawn) (ch:=[it]) (λb hb=>?_) (λb o _ _ hc e _=>k b o (λz=>hc (by simp[z])) e) (λb o _ _ hc e _=>⟨o.slots,k b o (λz=>hc (by simp[z])) e⟩) (λ_ _ _ _ n=>n)
  (λb o hc e=>⟨o,k b o (λz=>hc (by simp[z])) e⟩) (λ_ _ e=>e) (λ_ _ _ e=>e) (λb ps e=>⟨#[],by rw[e];simp⟩) (λm hm=>?_) (λb u e=>?_) I.bare
 .have e:b=it:=by simpa using hb
  subst e;exact⟨h1,hL,h2,h3⟩
 .obtain⟨o,es,ep,ho,r⟩:=hm;exact⟨o,es,ep,k _ o (gm hL) ho,r⟩
 .refine(I.hok b u e).stay (λc v hc q=>k c v ?_ q) (λ_ q=>q) λ_ _ q=>q
  rcases hc with z |z
  .rw[z];exact nit b u e
  .exact nit c _ z
end
section
variable{s:ai}
theorem Inv.tok(I:Inv X pins σ H s)(t:Nat):Inv X pins σ H {s with toks:=t}:=I.un (h':=s.heap) (t':=t) Un.refl I.hok
end
section
variable{s:ai}
theorem Inv.kept(I:Inv X pins σ H s)(k:∀b u,s.heap.get? b=aa u->h'.get? b=aa u):Inv X pins σ H {s with heap:=h',toks:=t'}:=I.un (Un.kept k) (I.hok.kept k)
end
section
variable{s:ai}
theorem Inv.laid{o:HO}(I:Inv X pins σ H s)(k:∀b u,s.heap.get? b=aa u->h'.get? b=aa u)(hp:s.heap.objs.size<=a)(new:cU X.prog X.w (upd H a o) h' a o):
  Inv X pins σ (upd H a o) {s with heap:=h',toks:=t'}:=I.un (Un.laid k hp (I.hok.fresh hp)) (I.hok.laid k hp new)
end
section
variable{s:ai}
theorem Inv.write{o:HO}(I:Inv X pins σ H s)(mu:Mut (H x))(he:e=x\/H e=aa (.own x))(k:∀b u,b≠e->s.heap.get? b=aa u->h'.get? b=aa u)(heo:∃u,h'.get? e=aa u)
 (new:cU X.prog X.w (upd H x o) h' x o):Inv X pins σ (upd H x o) {s with heap:=h',toks:=t'}:=I.un (Un.write mu he k heo) (I.hok.write mu he k heo new)
end
section
variable{s:ai}
theorem Inv.pins_of{pins':PNS}(I:Inv X pins σ H s)(h:∀p∈pins',s.heap.get? p.1=aa p.2/\H p.1=ac/\p.1≠X.env.locals/\p.1∉X.fs/\∀v,p.2.data≠.cell v):Inv X pins' σ H s:=
 ⟨I.ok,I.os,I.bare,I.base,I.loc,I.cell,I.free,I.freeC,λp hp=>(ci.mp hp).elim (λz=>I.pin p (gh _ z)) (h p),I.hok,I.len⟩
end
variable{N:LSt}{i:Nat}{x:Str}
theorem Bk(hN:N.Nodup){j:Nat}(a:N[i]?=aa x)(b:N[j]?=aa x):i=j:=by
 obtain⟨h1,e1⟩:=dH.mp a;obtain⟨h2,e2⟩:=dH.mp b;exact(List.getElem_inj hN).mp (e1.trans e2.symm)
variable{M:Model}{u:Value}{Q:Unit->ai->Prop}
section
variable{s:ai}
theorem Bl(I:Inv X pins σ H s)(hN:X.N.Nodup)(hi:X.N[i]?=aa x)(hx:Loc X.env.scope x)(r:aF v u)
 (h:∀s',Inv X pins (σ.set i (aa v)) H s'->(∃a,gS a s.heap s'.heap/\(a=X.env.locals\/X.env.cells.lookup x=aa a))->Q () s')(hf:LcF X x:=by first |exact .inl rfl |exact .inr rfl |assumption):wpAny M A (storeName X.env x u) Q E s:=by
 obtain⟨m,hn,hl⟩:=id I.loc;have hcls:(X.env.scope.kind==.class || (X.env.scope.kind==.module && X.env.locals != X.env.globals))=ae:=by rw[I.ok.kind];rfl
 have hiσ:i<σ.length:=by rw[I.len];exact(dH.mp hi).1
 have cne:=I.cne
 have tracked:∀{a:Addr} {h':Heap},(∃o,s.heap.get? a=aa o/\H a=ac)->gS a s.heap h'->HOk X.prog X.w H h':=λ{a h'} ha hs b ob e=>by
  obtain⟨_,_,hfree⟩:=ha;refine(I.hok b ob e).stay (λc w' hc q=>(hs.2 c ?_).trans q) (λ_ q=>q) λ_ _ q=>q;rintro rfl
  rcases hc with rfl |hc
  .rw[hfree]at e;cases e
  .rw[hfree]at hc;cases hc
 rcases hx with hk |hk
 .refine wpAny_storeName_local hk hn (λh' hn' hs=>?_) hcls;obtain⟨oL,_,_,hoL,_⟩:=id hn;refine h _ ⟨I.ok,I.os,I.bare,⟨λb o e n hb hx=>?_,λb o e n hb hx=>?_,I.base.free,λb o e hx=>?_,I.base.tups,I.base.frzs,I.base.tbls⟩,⟨_,hn',λj y v' e1 e2 e3=>?_⟩,λy c e=>?_,I.free,I.freeC,λp hp=>?_,tracked ⟨oL,hoL,I.free⟩ hs,by simpa using I.len⟩ ⟨_,hs,.inl rfl⟩
  .exact(hs.2 b (ca (fF (bA e) I.ok.above))).trans (I.base.keep b o e n hb hx)
  .obtain⟨sl,e1⟩:=I.base.slot b o e n hb hx;exact⟨sl,(hs.2 b (ca (fF (bA e) I.ok.above))).trans e1⟩
  .obtain⟨o',e1⟩:=I.base.there b o e hx;exact⟨o',(hs.2 b (ca (fF (bA e) I.ok.above))).trans e1⟩
  .by_cases hj:j=i
   .subst hj;rw[hi]at e1;cases e1;rw[ir hiσ]at e2;cases e2;exact⟨u,r,.inl ⟨hk,by simp⟩⟩
   .rw[iV (gm hj)]at e2;obtain⟨u',r',q⟩:=hl j y v' e1 e2 e3;refine⟨u',r',?_⟩
    rcases q with⟨k,e⟩ |⟨k,c,e,z⟩
    .refine .inl ⟨k,?_⟩;have:y≠x:=λe=>hj (Bk hN e1 (e▸hi));simp[this,e]
    .exact .inr ⟨k,c,e,z.sameBut hs (cne y c e)⟩
  .obtain⟨w',z⟩:=I.cell y c e;exact⟨w',z.sameBut hs (cne y c e)⟩
  .obtain⟨e,n,ne,nf,d⟩:=I.pin p hp;exact⟨(hs.2 p.1 ne).trans e,n,ne,nf,d⟩
 .have hfn:X.fn x=ab:=by
   rcases hf with z |z
   .exact z
   .rw[z]at hk;cases hk
  obtain⟨c,hc⟩:=I.ok.has x (.inl hk);obtain⟨w',z⟩:=I.cell x c hc;refine wpAny_storeName_cell I.ok.kind hk hc z (λh' hc' hs=>?_);obtain⟨oc,hoc,hocd⟩:=id z
  refine h {s with heap:=h'} ⟨I.ok,I.os,I.bare,⟨λb o e n hb hx=>?_,λb o e n hb hx=>?_,I.base.free,λb o e hx=>?_,I.base.tups,I.base.frzs,I.base.tbls⟩,⟨m,hn.sameBut hs (gm (cne x c hc)),λj y v' e1 e2 e3=>?_⟩,λy c' e=>?_,I.free,I.freeC,λp hp=>?_,tracked ⟨oc,hoc,I.freeC x c hc⟩ hs,by simpa using I.len⟩ ⟨c,hs,.inr hc⟩
  .exact(hs.2 b (ca (fF (bA e) (I.ok.cab x c hfn hc)))).trans (I.base.keep b o e n hb hx)
  .obtain⟨sl,e1⟩:=I.base.slot b o e n hb hx;exact⟨sl,(hs.2 b (ca (fF (bA e) (I.ok.cab x c hfn hc)))).trans e1⟩
  .obtain⟨o',e1⟩:=I.base.there b o e hx;exact⟨o',(hs.2 b (ca (fF (bA e) (I.ok.cab x c hfn hc)))).trans e1⟩
  .by_cases hj:j=i
   .subst hj;rw[hi]at e1;cases e1;rw[ir hiσ]at e2;cases e2;exact⟨u,r,.inr ⟨.inl hk,c,hc,hc'⟩⟩
   .rw[iV (gm hj)]at e2;obtain⟨u',r',q⟩:=hl j y v' e1 e2 e3;refine⟨u',r',?_⟩
    rcases q with q |⟨k,c',e,z'⟩
    .exact .inl q
    .refine .inr ⟨k,c',e,z'.sameBut hs ?_⟩;rintro rfl;exact hj (Bk hN e1 (I.ok.inj _ _ _ e hc▸hi))
  .by_cases hcc:c'=c
   .subst hcc;exact⟨_,hc'⟩
   .obtain⟨w2,z2⟩:=I.cell y c' e;exact⟨w2,z2.sameBut hs hcc⟩
  .obtain⟨e,n,ne,nf,d⟩:=I.pin p hp;refine⟨(hs.2 p.1 ?_).trans e,n,ne,nf,d⟩;intro q;rw[q,hoc]at e;have q':oc=p.2:=cF e;exact d w' (by rw[<- q'];exact hocd)
end
section
variable{s:ai}
theorem vG(I:Inv X pins σ H s)(hN:X.N.Nodup)(hi:X.N[i]?=aa x)(hx:Loc X.env.scope x)(r:aF v u)
 (h:∀s',Inv X pins (σ.set i (aa v)) H s'->Q () s')(hf:LcF X x:=by first |exact .inl rfl |exact .inr rfl |assumption):wpAny M A (storeName X.env x u) Q E s:=
 Bl I hN hi hx r (λs' I' _=>h s' I') hf
end
variable{s':ai}
section
variable{s:ai}
theorem Inv.call'(I:Inv X pins σ H s)(ho:s'.os=s.os)(u:Un (frs X.stack) ch H H' s.heap s'.heap)(hok:HOk X.prog X.w H' s'.heap)(hg:j2 s'.gens)
 (hch:∀b∈ch,(b∈X.ex\/X.s₀.heap.objs.size<=b)/\b≠X.env.locals/\(∀x c,X.env.cells.lookup x=aa c->c≠b)/\∀p∈X.pn++pins,p.1≠b):Inv X pins σ H' s':=by
 obtain⟨h',g',d',t',o'⟩:=s';have e:o'=s.os:=ho;subst e;exact I.call (g':=g') (t':=t') (d':=d') u hok hg hch
end
noncomputable abbrev XK:=Value->Option Addr->Hp->Prop
noncomputable abbrev St:=List (Option V)
noncomputable abbrev VK:=V->Hp->Prop
noncomputable abbrev TE:=St->Hp->VK->Prop
noncomputable abbrev TT:=St->Hp->(Bool->Hp->Prop)->Prop
noncomputable abbrev TA:=St->Hp->(List V->Hp->Prop)->Prop
structure jx where
 nx:St->Hp->Prop
 rt:VK
 bk:St->Hp->Prop:=λ_ _=>False
 ct:St->Hp->Prop:=λ_ _=>False
noncomputable abbrev TS:=jx->St->Hp->Prop
def EP(X:Cx)(pins:PNS)(σ:St)(Q:VK)(u:Value)(s':ai):Prop:=∃v H',Inv X pins σ H' s'/\aF v u/\Q v H'
def TP(X:Cx)(pins:PNS)(σ:St)(Q:Bool->Hp->Prop)(b:Bool)(s':ai):Prop:=∃H',Inv X pins σ H' s'/\Q b H'
def AP(X:Cx)(pins:PNS)(σ:St)(Q:List V->Hp->Prop)(us:LVa)(s':ai):Prop:=∃vs H',Inv X pins σ H' s'/\aG vs us/\Q vs H'
def SP(X:Cx)(pins:PNS)(D:jx)(f:Flow)(s':ai):Prop:=
 match f with
 |.next=>∃σ' H',Inv X pins σ' H' s'/\D.nx σ' H'
 |.brk=>∃σ' H',Inv X pins σ' H' s'/\D.bk σ' H'
 |.cont=>∃σ' H',Inv X pins σ' H' s'/\D.ct σ' H'
 |.ret u=>∃v σ' H',Inv X pins σ' H' s'/\aF v u/\D.rt v H'
def PE(X:Cx)(e:Expr)(t:TE):Prop:=
 ∀(pins:PNS) (s:ai) (σ:St) (H:Hp) (Q:VK),Inv X pins σ H s->t σ H Q->wpAny (model X.prog X.w) X.A (eval e X.env) (EP X pins σ Q) X.xe s
def PT(X:Cx)(e:Expr)(t:TT):Prop:=
 ∀(pins:PNS) (s:ai) (σ:St) (H:Hp) (Q:Bool->Hp->Prop),Inv X pins σ H s->t σ H Q->wpAny (model X.prog X.w) X.A (isTrue e X.env (eval e X.env)) (TP X pins σ Q) X.xe s
def PW(X:Cx)(e:Expr)(t:TT):Prop:=
 ∀(whole:Sem Value) (pins:PNS) (s:ai) (σ:St) (H:Hp) (Q:Bool->Hp->Prop),Inv X pins σ H s->t σ H Q->wpAny (model X.prog X.w) X.A (isTrue e X.env whole) (TP X pins σ Q) X.xe s
variable{e:Expr}
theorem PW.pt{t:TT}(h:PW X e t):PT X e t:=h _
def PA(X:Cx)(es:LEx)(t:TA):Prop:=
 ∀(pos:Pos) (pins:PNS) (s:ai) (σ:St) (H:Hp) (Q:List V->Hp->Prop),Inv X pins σ H s->t σ H Q->wpAny (model X.prog X.w) X.A (spliced (c4 pos (ba es X.env))) (AP X pins σ Q) X.xe s
def PS(X:Cx)(st:Stmt)(t:TS):Prop:=
 ∀(pins:PNS) (s:ai) (σ:St) (H:Hp) (D:jx),Inv X pins σ H s->t D σ H->wpAny (model X.prog X.w) X.A (exec st X.env) (SP X pins D) X.xe s
def PSs(X:Cx)(st:List Stmt)(t:TS):Prop:=
 ∀(pins:PNS) (s:ai) (σ:St) (H:Hp) (D:jx),Inv X pins σ H s->t D σ H->wpAny (model X.prog X.w) X.A (execs st X.env) (SP X pins D) X.xe s
theorem thn{α:Type}{t:Sem α}{Q Q':α->ai->Prop}{s:ai}(h:wpAny M A t Q E s)(hQ:∀a s,Q a s->Q' a s):wpAny M A t Q' E s:=fT h hQ λ_ _ x=>x
def dq(i:Nat):TE:=λσ H Q=>∃v,σ[i]?=aa (aa v)/\Q v H
def tC(v:V):TE:=λ_ H Q=>Q v H
variable{pos:Pos}
theorem nN(hN:X.N[i]?=aa x)(hv:Vis X.env.scope x)(hd:NDb x:=by decide)(hcd:NCd x:=by decide):PE X (.Name x pos) (dq i):=by
 intro pins s σ H Q I h;obtain⟨v,e,h⟩:=h;obtain⟨m,hn,hl⟩:=I.loc;obtain⟨u,r,l⟩:=hl i x v hN e hv;have fin:EP X pins σ Q u s:=⟨v,H,I,r,h⟩
 rcases l with⟨hk,hm⟩ |⟨hk,c,hc,hcell⟩
 .exact wpAny_Name (wpAny_loadName_local I.ok.kind hk hn hm fin) hd
 .rcases hk with hk |hk
  .exact wpAny_Name (wpAny_loadName_cell I.ok.kind hk hc hcell fin) hd
  .exact wpAny_Name (wpAny_loadName_free I.ok.kind hk hc hcell fin hcd) hd
theorem Bm{i j pos}:PE X (.Constant (.int i) j pos) (tC (.int i)):=λ_ _ _ H _ I h=>wpAny_Constant_int ⟨.int i,H,I.tok _,⟨_,rfl⟩,h⟩
theorem Gu{b j pos}:PE X (.Constant (.bool b) j pos) (tC (.bl b)):=λ_ _ _ H _ I h=>Constant_bool ⟨.bl b,H,I,rfl,h⟩
theorem Gv{j pos}:PE X (.Constant .none j pos) (tC .non):=λ_ _ _ H _ I h=>Constant_none ⟨.non,H,I,rfl,h⟩
theorem Gw{x j pos}:PE X (.Constant (.str x) j pos) (tC (.str x)):=λ_ _ _ H _ I h=>Calls.Constant_str ⟨.str x,H,I.tok _,⟨_,rfl⟩,h⟩
def Gl(X:Cx)(x:Str):Prop:=X.env.kindOf x=aa .globalImplicit
variable{σ:St}
theorem Bn{s:ai}{Q:PRS}(I:Inv X pins σ H s)(hg:Gl X x)(hm:X.mg x=aa u)(h:Q u s)
 (hd:NDb x:=by decide):wpAny (model X.prog X.w) X.A (eval (.Name x pos) X.env) Q E s:=
 Calls.Name_function_global I.ok.kind hg (Calls.loadGlobal_global (by rw[I.ok.glob];exact I.mod.glob.keeps I.bk) hm h) hd
theorem kc{s:ai}{Q:PRS}(I:Inv X pins σ H s)(hg:Gl X x)(hm:X.mg x=ac)(hv:jq x=aa u)(h:Q u s)
 (hn:x ≠ "__name__":=by decide)(hd:NDb x:=by decide):wpAny (model X.prog X.w) X.A (eval (.Name x pos) X.env) Q E s:=by
 obtain⟨mb,h1,h2⟩:=I.mod.blt;exact Calls.Name_function_global I.ok.kind hg (Calls.loadGlobal_builtin (by rw[I.ok.glob];exact I.mod.glob.keeps I.bk) hm (by rw[I.ok.blt];exact h1.keeps I.bk) ((h2 x hn).trans hv) h) hd
theorem Gy(hg:Gl X x)(hm:X.mg x=ac)(hv:jq x=aa u)(r:aF v u)(hn:x ≠ "__name__":=by decide)(hd:NDb x:=by decide):PE X (.Name x pos) (tC v):=
 λ_ _ _ H _ I h=>kc I hg hm hv ⟨v,H,I,r,h⟩ hn hd
def t2I(ta tb:TE)(k:Int->Int->Hp->Prop):St->Hp->Prop:=λσ H=>ta σ H λx H1=>tb σ H1 λy H2=>∃i j,x=.int i/\y=.int j/\k i j H2
def iE(ta tb:TE):TE:=λσ H Q=>t2I ta tb (λi j H2=>Q (.int (i+j)) H2) σ H
def PC(X:Cx)(op:CmpOp)(a b:Expr)(t:TE):Prop:=
 ∀(pins:PNS) (s:ai) (σ:St) (H:Hp) (Q:VK),Inv X pins σ H s->t σ H Q ->
  wpAny (model X.prog X.w) X.A (eval a X.env) (λv s₁=>wpAny (model X.prog X.w) X.A (eval b X.env) (λu s₂=>wpAny (model X.prog X.w) X.A (c3 op v u) (EP X pins σ Q) X.xe s₂) X.xe s₁) X.xe s
variable{a b:Expr}
theorem Gz{op:CmpOp}{t:TE}(h:PC X op a b t)(h1:kQ op b=ae:=by first |exact nobehind _ (by decide) (by decide) |rfl):PE X (.Compare a [op] [b] pos) t:=λpins s σ H Q I hw=>wpAny_Compare1 (h pins s σ H Q I hw) h1
def GA(t u:TT):TT:=λσ H Q=>t σ H λc H1=>if c=ab then u σ H1 Q else Q ae H1
def tOr(t u:TT):TT:=λσ H Q=>t σ H λc H1=>if c=ab then Q ab H1 else u σ H1 Q
def GB(t:TT):TT:=λσ H Q=>t σ H λc H1=>Q (!c) H1
variable{tA:TT}
theorem GC(ha:PT X a tA):PW X (.BoolOp .And [a] pos) tA:=by
 intro wh pins s σ H Q I h;refine isTrue_and (thn (ha pins s σ H Q I h) λc s1 e=>?_)
 cases c with
 |true=>exact isTrue_and_nil e
 |false=>exact e
theorem GD(ha:PT X a tA):PW X (.BoolOp .Or [a] pos) tA:=by
 intro wh pins s σ H Q I h;refine isTrue_or (thn (ha pins s σ H Q I h) λc s1 e=>?_)
 cases c with
 |false=>exact isTrue_or_nil e
 |true=>exact e
variable{tB':TT}
section
variable{rest:LEx}
theorem GE(ha:PT X a tA)(hb:PW X (.BoolOp .And (b::rest) pos) tB'):PW X (.BoolOp .And (a::b::rest) pos) (GA tA tB'):=by
 intro wh pins s σ H Q I h;refine isTrue_and (thn (ha pins s σ H _ I h) λc s1 q_=>?_);obtain⟨H1,I1,q1⟩:=q_
 cases c with
 |true=>exact hb wh pins s1 σ H1 Q I1 q1
 |false=>exact⟨H1,I1,q1⟩
end
section
variable{rest:LEx}
theorem GF(ha:PT X a tA)(hb:PW X (.BoolOp .Or (b::rest) pos) tB'):PW X (.BoolOp .Or (a::b::rest) pos) (tOr tA tB'):=by
 intro wh pins s σ H Q I h;refine isTrue_or (thn (ha pins s σ H _ I h) λc s1 q_=>?_);obtain⟨H1,I1,q1⟩:=q_
 cases c with
 |true=>exact⟨H1,I1,q1⟩
 |false=>exact hb wh pins s1 σ H1 Q I1 q1
end
theorem GG(ha:PT X a tA):PT X (.UnaryOp .Not a pos) (GB tA):=by
 intro pins s σ H Q I h;exact isTrue_not (ha pins s σ H (λc H1=>Q (!c) H1) I h)
def GH(ta tb:TE):TE:=λσ H Q=>ta σ H λx H1=>∃c,x=.bl c/\if c=ab then tb σ H1 Q else Q (.bl ae) H1
def GI(ta tb:TE):TE:=λσ H Q=>ta σ H λx H1=>∃c,x=.bl c/\if c=ab then Q (.bl ab) H1 else tb σ H1 Q
def GJ(ta:TE):TE:=λσ H Q=>ta σ H λx H1=>∃c,x=.bl c/\Q (.bl (!c)) H1
theorem GK{op}{t:TE}(h:PE X a t):PE X (.BoolOp op [a] pos) t:=λpins s σ H Q I hw=>BoolOp_one (h pins s σ H Q I hw)
variable{ta tb:TE}
section
variable{rest:LEx}
theorem GL(ha:PE X a ta)(hb:PE X (.BoolOp .And (b::rest) pos) tb):PE X (.BoolOp .And (a::b::rest) pos) (GH ta tb):=by
 intro pins s σ H Q I h;refine BoolOp_and (thn (ha pins s σ H _ I h) λv s1 q_=>?_);obtain⟨x,H1,I1,r1,q1⟩:=q_;obtain⟨c,rfl,q1⟩:=q1;cases r1;refine lV ?_
 cases c with
 |true=>exact hb pins s1 σ H1 Q I1 q1
 |false=>exact⟨.bl ae,H1,I1,rfl,q1⟩
end
section
variable{rest:LEx}
theorem GM(ha:PE X a ta)(hb:PE X (.BoolOp .Or (b::rest) pos) tb):PE X (.BoolOp .Or (a::b::rest) pos) (GI ta tb):=by
 intro pins s σ H Q I h;refine BoolOp_or (thn (ha pins s σ H _ I h) λv s1 q_=>?_);obtain⟨x,H1,I1,r1,q1⟩:=q_;obtain⟨c,rfl,q1⟩:=q1;cases r1;refine lV ?_
 cases c with
 |false=>exact hb pins s1 σ H1 Q I1 q1
 |true=>exact⟨.bl ab,H1,I1,rfl,q1⟩
end
theorem GN(ha:PE X a ta):PE X (.UnaryOp .Not a pos) (GJ ta):=by
 intro pins s σ H Q I h;refine UnaryOp_ (thn (ha pins s σ H _ I h) λv s1 q_=>?_);obtain⟨x,H1,I1,r1,q1⟩:=q_;obtain⟨c,rfl,q1⟩:=q1;cases r1;exact not_of (lV ⟨.bl (!c),H1,I1,rfl,q1⟩)
def tIf(t:TT)(ta tb:TE):TE:=λσ H Q=>t σ H λc H1=>if c=ab then ta σ H1 Q else tb σ H1 Q
variable{c:Expr}
theorem Bo(hc:PT X c tA)(ha:PE X a ta)(hb:PE X b tb):PE X (.IfExp c a b pos) (tIf tA ta tb):=by
 intro pins s σ H Q I h;refine wpAny_IfExp (thn (hc pins s σ H _ I h) λd s1 q_=>?_);obtain⟨H1,I1,q1⟩:=q_
 cases d with
 |true=>exact ha pins s1 σ H1 Q I1 q1
 |false=>exact hb pins s1 σ H1 Q I1 q1
def SqL(K:aX)(H:Hp)(a:Addr)(xs:List V):Prop:=
 Rd H a (.lst xs) \/
  ∃(o:Obj) (its:Array Value) (n:Nat),K.lookup a=aa o/\o.cls=.type "list" /\ o.dict=ac/\o.data=.seq its n/\its.size<=aS/\aG xs its.toList
def SqT(K:aX)(H:Hp)(a:Addr)(xs:List V):Prop:=
 Rd H a (.tup xs) \/
  ∃(o:Obj) (its:Array Value) (n:Nat),K.lookup a=aa o/\o.cls=.type "tuple" /\ o.data=.seq its n/\its.size<=aS/\aG xs its.toList
noncomputable def GO:Value->Option V
 |.none=>aa .non
 |.bool b=>aa (.bl b)
 |.int i _=>aa (.int i)
 |.str x _=>aa (.str x)
 |.bytes b _=>aa (.byt b)
 |.float b _=>aa (.flt b)
 |.ref a=>aa (.ref a)
 |.type n=>aa (.ty n)
 | _=>ac
theorem aF.abs{x:V}(r:aF x u):GO u=aa x:=by
 cases x with
 |non=>cases r;rfl
 |bl _=>cases r;rfl
 |int _=>obtain⟨t,rfl⟩:=r;rfl
 |str _=>obtain⟨t,rfl⟩:=r;rfl
 |byt _=>obtain⟨t,rfl⟩:=r;rfl
 |flt _=>obtain⟨t,rfl⟩:=r;rfl
 |ref _=>cases r;rfl
 |ty _=>cases r;rfl
variable{y:V}
theorem aF.inj{x:V}(r:aF x u)(q:aF y u):x=y:=cF (r.abs.symm.trans q.abs)
theorem aG.inj:∀{xs ys:List V} {us:LVa},aG xs us->aG ys us->xs=ys
 | _,_,_,.nil,.nil=>rfl
 | _,_,_,.cons r t,.cons r' t'=>by rw[r.inj r',aG.inj t t']
variable{a:Addr}{K:aX}
theorem SqL.of(h:H a=aa (.lst xs)):SqL K H a xs:=.inl (.inl h)
theorem SqT.of(h:H a=aa (.tup xs)):SqT K H a xs:=.inl (.inl h)
section
variable{s:ai}
theorem Inv.list(I:Inv X pins σ H s)(h:SqL X.K H a xs):∃its:LVa,aG xs its/\PlainL s.heap a its.toArray/\xs.length<=aS:=by
 rcases h with h |⟨o,its,n,hk,hc,hd,hs,hz,r⟩
 .obtain⟨z,its,n,r,e⟩:=h.ok I.hok;exact⟨its,r,⟨_,n,e,rfl,rfl,rfl⟩,z⟩
 .refine⟨its.toList,r,⟨o,n,I.kIn a o hk,hc,hd,by simpa using hs⟩,?_⟩;have e:=r.length;simp only[iq]at e;omega
end
section
variable{s:ai}
theorem Inv.tuple(I:Inv X pins σ H s)(h:SqT X.K H a xs):∃its:LVa,aG xs its/\IsTup s.heap a its.toArray/\xs.length<=aS:=by
 rcases h with h |⟨o,its,n,hk,hc,hs,hz,r⟩
 .obtain⟨z,its,r,p⟩:=h.ok I.hok;exact⟨its,r,p,z⟩
 .refine⟨its.toList,r,⟨o,I.kIn a o hk,hc,n,by simpa using hs⟩,?_⟩;have e:=r.length;simp only[iq]at e;omega
end
variable{ys:List V}
section
variable{s:ai}
theorem Inv.list_inj(I:Inv X pins σ H s)(h:SqL X.K H a xs)(h':SqL X.K H a ys):xs=ys:=by
 obtain⟨its,r,⟨o,n,e,_,_,d⟩,_⟩:=I.list h;obtain⟨its',r',⟨o',n',e',_,_,d'⟩,_⟩:=I.list h';rw[e]at e';cases e';rw[d]at d'
 injection d' with d1 _
 have:its=its':=by simpa using congrArg Array.toList d1
 subst this;exact r.inj r'
end
section
variable{s:ai}
theorem Inv.tuple_inj(I:Inv X pins σ H s)(h:SqT X.K H a xs)(h':SqT X.K H a ys):xs=ys:=by
 obtain⟨its,r,⟨o,e,_,n,d⟩,_⟩:=I.tuple h;obtain⟨its',r',⟨o',e',_,n',d'⟩,_⟩:=I.tuple h';rw[e]at e';cases e';rw[d]at d'
 injection d' with d1 _
 have:its=its':=by simpa using congrArg Array.toList d1
 subst this;exact r.inj r'
end
noncomputable abbrev Cx.wish(X:Cx)(E:PRS):Cx:={X with xe:=E}
noncomputable abbrev Cx.nox(X:Cx):Cx:=X.wish λ_ _=>False
theorem Cx.Ok.wish(ok:X.Ok)(E:PRS):(X.wish E).Ok:=
 ⟨ok.mod,ok.kind,ok.glob,ok.blt,ok.above,ok.inj,ok.has,ok.cab,ok.hd,ok.frames,ok.stk,ok.exf,ok.bs,ok.bsz,ok.noex,ok.exfs,ok.funs,ok.frf⟩
theorem Cx.Ok.unwish(ok:(X.wish E).Ok):X.Ok:=
 ⟨ok.mod,ok.kind,ok.glob,ok.blt,ok.above,ok.inj,ok.has,ok.cab,ok.hd,ok.frames,ok.stk,ok.exf,ok.bs,ok.bsz,ok.noex,ok.exfs,ok.funs,ok.frf⟩
section
variable{s:ai}
theorem Inv.wish(I:Inv X pins σ H s)(E:PRS):Inv (X.wish E) pins σ H s:=⟨I.ok.wish E,I.os,I.bare,I.base,I.loc,I.cell,I.free,I.freeC,I.pin,I.hok,I.len⟩
end
section
variable{s:ai}
theorem Inv.unwish(I:Inv (X.wish E) pins σ H s):Inv X pins σ H s:=⟨I.ok.unwish,I.os,I.bare,I.base,I.loc,I.cell,I.free,I.freeC,I.pin,I.hok,I.len⟩
end
theorem SP.unwish{D:jx}{f:Flow}(h:SP (X.wish E) pins D f s'):SP X pins D f s':=by
 cases f with
 |next=>obtain⟨σ',H',I,q⟩:=h;exact⟨σ',H',I.unwish,q⟩
 |brk=>obtain⟨σ',H',I,q⟩:=h;exact⟨σ',H',I.unwish,q⟩
 |cont=>obtain⟨σ',H',I,q⟩:=h;exact⟨σ',H',I.unwish,q⟩
 |ret u=>obtain⟨v,σ',H',I,r,q⟩:=h;exact⟨v,σ',H',I.unwish,r,q⟩
theorem PSs.nox{st:List Stmt}{t:TS}(h:PSs X.nox st t):PSs X st t:=λpins s σ H D I hw=>
 fT (h pins s σ H D (I.wish _) hw) (λ_ _ q=>q.unwish) λ_ _ z=>hE z
def GP:TS:=λD σ H=>D.nx σ H
def GQ(t u:TS):TS:=λD σ H=>t {D with nx:=u D} σ H
theorem Bp:PSs X [] GP:=λ_ _ σ H _ I h=>rL ⟨σ,H,I,h⟩
variable{st:Stmt}{u:TS}
section
variable{rest:List Stmt}{t:TS}
theorem rX(h1:PS X st t)(h2:PSs X rest u):PSs X (st::rest) (GQ t u):=by
 intro pins s σ H D I h
 refine wpAny_execs_cons (thn (h1 pins s σ H {D with nx:=u D} I h) λf s1 q=>?_)
 cases f with
 |next=>
  obtain⟨σ',H',I',q⟩:=q
  exact h2 pins s1 σ' H' D I' q
 |ret v=>exact q
 |brk=>exact q
 |cont=>exact q
end
section
variable{t:TS}
theorem Bq(h1:PS X st t):PSs X [st] t:=by
 intro pins s σ H D I h;refine wpAny_execs_cons (thn (h1 pins s σ H D I h) λf s1 q=>?_)
 cases f with
 |next=>exact rL q
 |ret v=>exact q
 |brk=>exact q
 |cont=>exact q
end
theorem Inv.quiet{s:ai}(I:Inv X pins σ H s):interactive X.env=ae:=by simp[interactive,I.ok.kind]
def mj(te:TE):TS:=λD σ H=>te σ H λ_ H1=>D.nx σ H1
variable{te:TE}
theorem fc(he:PE X e te)(hs:gn e ac pos.line X.env=pure ae:=by rfl):PS X (.Expr e pos) (mj te):=by
 intro pins s σ H D I h;exact wpAny_Expr_any (thn (he pins s σ H _ I h) λv s1 ⟨x,H1,I1,r1,q1⟩=>⟨σ,H1,I1,q1⟩) I.quiet hs
def GR(te:TE):TS:=λD σ H=>te σ H D.rt
theorem rY(he:PE X e te):PS X (.Return (aa e) pos) (GR te):=by
 intro pins s σ H D I h;exact wpAny_Return_some (thn (he pins s σ H _ I h) λv s1 ⟨x,H1,I1,r1,q1⟩=>⟨x,σ,H1,I1,r1,q1⟩)
def GS(c:TT)(t u:TS):TS:=λD σ H=>c σ H λb H1=>if b=ab then t D σ H1 else u D σ H1
variable{tc:TT}
section
variable{t:TS}
theorem GT{a b:List Stmt}(hc:PT X c tc)(ha:PSs X a t)(hb:PSs X b u):PS X (.If c a b pos) (GS tc t u):=by
 intro pins s σ H D I h;refine wpAny_If (thn (hc pins s σ H _ I h) λd s1 q_=>?_);obtain⟨H1,I1,q1⟩:=q_
 cases d with
 |true=>exact ha pins s1 σ H1 D I1 q1
 |false=>exact hb pins s1 σ H1 D I1 q1
end
noncomputable abbrev TG:=V->St->Hp->(St->Hp->Prop)->Prop
noncomputable abbrev TGs:=List V->St->Hp->(St->Hp->Prop)->Prop
def PG(X:Cx)(target:Expr)(t:TG):Prop:=
 ∀(pins:PNS) (s:ai) (σ:St) (H:Hp) (v:V) (u:Value) (Q:St->Hp->Prop),Inv X pins σ H s->aF v u->t v σ H Q ->
  wpAny (model X.prog X.w) X.A (iy target X.env u) (λ_ s'=>∃σ' H',Inv X pins σ' H' s'/\Q σ' H') X.xe s
def PGs(X:Cx)(ts:LEx)(t:TGs):Prop:=
 ∀(pins:PNS) (s:ai) (σ:St) (H:Hp) (vs:List V) (us:LVa) (Q:St->Hp->Prop),Inv X pins σ H s->aG vs us->t vs σ H Q ->
  wpAny (model X.prog X.w) X.A (assignInOrder ((iX ts X.env).map (·.2)) us) (λ_ s'=>∃σ' H',Inv X pins σ' H' s'/\Q σ' H') X.xe s
noncomputable abbrev vH:=V->V->V->Hp->(Hp->Prop)->Prop
def Br(X:Cx)(t:vH):Prop:=
 ∀(pins:PNS) (s:ai) (σ:St) (H:Hp) (o i v:V) (ov iv u:Value) (Q:Hp->Prop),Inv X pins σ H s->aF o ov->aF i iv->aF v u->t o i v H Q ->
  wpAny (model X.prog X.w) X.A (setItem ov iv u) (λ_ s'=>∃H',Inv X pins σ H' s'/\Q H') X.xe s
noncomputable abbrev TIp:=V->V->Hp->VK->Prop
def PIp(X:Cx)(op:Operator)(t:TIp):Prop:=
 ∀(pins:PNS) (s:ai) (σ:St) (H:Hp) (x y:V) (v u:Value) (Q:VK),Inv X pins σ H s->aF x v->aF y u->t x y H Q ->
  wpAny (model X.prog X.w) X.A (inplaceOp op v u) (EP X pins σ Q) X.xe s
def gU(i:Nat):TG:=λv σ H Q=>Q (σ.set i (aa v)) H
theorem vI(hN:X.N.Nodup)(hi:X.N[i]?=aa x)(hx:Loc X.env.scope x)(hf:LcF X x:=by first |exact .inl rfl |exact .inr rfl |assumption):PG X (.Name x pos) (gU i):=by
 intro pins s σ H v u Q I r h;exact wpAny_assign_Name (vG I hN hi hx r (λs' I'=>⟨_,H,I',h⟩) hf)
def GU:TGs:=λvs σ H Q=>vs=[]/\Q σ H
def GV(t:TG)(u:TGs):TGs:=λvs σ H Q=>∃v r,vs=v::r/\t v σ H λσ' H'=>u r σ' H' Q
theorem GW:PGs X [] GU:=by
 intro pins s σ H vs us Q I r h;obtain⟨e,h⟩:=h;subst e;cases r;exact assignInOrder_nil ⟨σ,H,I,h⟩
variable{es:LEx}
theorem GX{t:TG}{u:TGs}(h1:PG X e t)(h2:PGs X es u)
 (hs:(iX (e::es) X.env).map (·.2)=iy e X.env::(iX es X.env).map (·.2):=by rfl):PGs X (e::es) (GV t u):=by
 intro pins s σ H vs us Q I r h;obtain⟨v,vr,e1,h⟩:=h;subst e1
 cases r with
 |cons r rr=>
  rw[hs];refine assignInOrder_cons (thn (h1 pins s σ H _ _ _ I r h) λ_ s1 q_=>?_);obtain⟨σ1,H1,I1,q1⟩:=q_;exact h2 pins s1 σ1 H1 _ _ Q I1 rr q1
def GY(K:aX)(n:Nat)(t:TGs):TG:=λv σ H Q=>∃a xs,v=.ref a/\SqT K H a xs/\xs.length=n/\t xs σ H Q
theorem GZ{k:Nat}{t:TGs}{n:Nat}(hc:X.calm=ab)(h:PGs X es t)
 (hn:(iX es X.env).length=n:=by rfl)(hst:(iX es X.env).findIdx? (·.1)=ac:=by rfl):PG X (.Tuple es k pos) (GY X.K n t):=by
 intro pins s σ H v u Q I r hw;obtain⟨a,xs,e1,hq,hl,hw⟩:=hw;subst e1;cases r;obtain⟨its,rv,ht,hz⟩:=I.tuple hq;refine assign_Tuple_tuple (I.ok.hd hc) ht (by simp[hn,<- hl,rv.length]) hst λh' hx=>?_
 have I1:Inv X pins σ H {s with heap:=h'}:=I.kept (t':=s.toks) λb o e=>hx b o (ca (bA e)) e
 exact h pins _ σ H xs _ Q I1 (by simpa using rv) hw
def vJ(to ti:TE)(t:vH):TG:=λv σ H Q=>to σ H λo H1=>ti σ H1 λi H2=>t o i v H2 λH3=>Q σ H3
theorem Bs{o i:Expr}{to ti:TE}{t:vH}(ho:PE X o to)(hi:PE X i ti)(hs:Br X t)
 (ha:∀ v,iy (.Subscript o i pos) X.env v=(do
   let ov <- fG [v] (eval o X.env)
   let iv <- fG [v,ov] (eval i X.env)
   iw pos
   fG [v,ov,iv] (setItem ov iv v)
   release [v,ov,iv] []):=by intro _;rfl):PG X (.Subscript o i pos) (vJ to ti t):=by
 intro pins s σ H v u Q I r h;rw[ha];refine ap (j4 (thn (ho pins s σ H _ I h) λov s1 q_=>?_));obtain⟨x,H1,I1,r1,q1⟩:=q_;refine ap (j4 (thn (hi pins s1 σ H1 _ I1 q1) λiv s2 q_=>?_));obtain⟨y,H2,I2,r2,q2⟩:=q_;refine ap (wpAny_standAt (ap (j4 (thn (hs pins s2 σ H2 x y v ov iv u _ I2 r1 r2 r q2) λ_ s3 q_=>?_))));obtain⟨H3,I3,q3⟩:=q_;exact wpAny_release ⟨σ,H3,I3,q3⟩
def iF(te:TE)(g:TG):TS:=λD σ H=>te σ H λx H1=>g x σ H1 D.nx
variable{tg:Expr}{g:TG}
theorem Bt(he:PE X e te)(hg:PG X tg g)(hs:swapsWithSole [tg] e pos.line X.env=pure ae:=by rfl)(hw:swappedStores [tg] e X.env=pure ac:=by rfl)
 (h1:(iX [tg] X.env).map (·.2)=[iy tg X.env]:=by rfl):PS X (.Assign [tg] e pos) (iF te g):=by
 intro pins s σ H D I h;refine wpAny_Assign_stores (thn (he pins s σ H _ I h) λv s1 q_=>?_) hs hw;obtain⟨x,H1,I1,r1,q1⟩:=q_;rw[h1];exact thn (hg pins s1 σ H1 x v _ I1 r1 q1) λ_ s2 q=>q
variable{pos':Pos}
theorem ml(hN:X.N.Nodup)(hi:X.N[i]?=aa x)(hx:Loc X.env.scope x)(he:PE X e te)(hs:gn e (aa (.Name x pos')) pos.line X.env=pure ae:=by rfl)(hf:LcF X x:=by first |exact .inl rfl |exact .inr rfl |assumption):
  PS X (.Assign [.Name x pos'] e pos) (iF te (gU i)):=by
 intro pins s σ H D I h;refine wpAny_Assign_Name (thn (he pins s σ H _ I h) λv s1 q_=>?_) hs;obtain⟨y,H1,I1,r1,q1⟩:=q_;exact vG I1 hN hi hx r1 (λs2 I2=>⟨_,H1,I2,q1⟩) hf
def G0(i:Nat)(te:TE)(ti:TIp):TS:=λD σ H=>∃x,σ[i]?=aa (aa x)/\te σ H λy H1=>ti x y H1 λz H2=>D.nx (σ.set i (aa z)) H2
variable{op:Operator}
theorem G1{ti:TIp}(hN:X.N.Nodup)(hi:X.N[i]?=aa x)(hx:Loc X.env.scope x)(he:PE X e te)(ho:PIp X op ti)(hf:LcF X x:=by first |exact .inl rfl |exact .inr rfl |assumption):
  PS X (.AugAssign (.Name x pos') op e pos) (G0 i te ti):=by
 intro pins s σ H D I h;obtain⟨v,e1,h⟩:=h;obtain⟨m,hn,hl⟩:=I.loc
 have vis:Vis X.env.scope x:=by rcases hx with k |k;exact .inl k;exact .inr (.inl k)
 obtain⟨u,r,l⟩:=hl i x v hi e1 vis;refine wpAny_AugAssign_Name ?_
 have go:wpAny (model X.prog X.w) X.A (eval e X.env) (λw s₂=>wpAny (model X.prog X.w) X.A (inplaceOp op u w) (λr s₃=>wpAny (model X.prog X.w) X.A (storeName X.env x r) (λ_=>SP X pins D .next) X.xe s₃) X.xe s₂) X.xe s:=by
  refine thn (he pins s σ H _ I h) λw s1 q_=>?_;obtain⟨y,H1,I1,r1,q1⟩:=q_;refine thn (ho pins s1 σ H1 v y u w _ I1 r r1 q1) λz s2 q_=>?_;obtain⟨zv,H2,I2,r2,q2⟩:=q_;exact vG I2 hN hi hx r2 (λs3 I3=>⟨_,H2,I3,q2⟩) hf
 rcases l with⟨hk,hm⟩ |⟨hk,c,hc,hcell⟩
 .exact wpAny_loadName_local I.ok.kind hk hn hm go
 .rcases hk with hk |hk
  .exact wpAny_loadName_cell I.ok.kind hk hc hcell go
  .rcases hx with k |k
   .have:X.env.scope.names.lookup x=aa .free:=hk;rw[k]at this;cases this
   .have:X.env.scope.names.lookup x=aa .free:=hk;rw[k]at this;cases this
def ipI(f:Int->Int->Int):TIp:=λx y H Q=>∃i j,x=.int i/\y=.int j/\Q (.int (f i j)) H
theorem G2:PIp X .Add (ipI λi j=>i+j):=by
 intro pins s σ H x y v u Q I r1 r2 h;obtain⟨i,j,e1,e2,q⟩:=h;subst e1;subst e2;obtain⟨t,rfl⟩:=r1;obtain⟨t',rfl⟩:=r2;exact iadd_int ⟨.int _,H,I.tok _,⟨_,rfl⟩,q⟩
def G3(c:TT)(tb:TS):TS:=λD σ H=>∃W:Nat->St->Hp->Prop,(∃m,W m σ H)/\∀m σ H,W m σ H ->
 c σ H λb H1=>if b=ab then ∃N:St->Hp->Prop,(∀σ' H',N σ' H'->∃m',m'<m/\W m' σ' H')/\tb {D with nx:=N,ct:=N,bk:=D.nx} σ H1 else D.nx σ H1
variable{body:List Stmt}
theorem G4{tb:TS}(hp:PassesOwn (model X.prog X.w) X.A X.env X.xe)(hc:PT X c tc)(hb:PSs X body tb):PS X (.While c body [] pos) (G3 tc tb):=by
 intro pins s σ H D I h;obtain⟨W,⟨m0,w0⟩,turn⟩:=h;refine wpAny_While (codeAny_whileLoop (λn s'=>∃σ' H',Inv X pins σ' H' s'/\W n σ' H') ?_ m0 ⟨σ,H,I,w0⟩);rintro n s1 ⟨σ1,H1,I1,w1⟩;refine lY hp (thn (hc pins s1 σ1 H1 _ I1 (turn n σ1 H1 w1)) λb s2 q_=>?_);obtain⟨H2,I2,q2⟩:=q_
 cases b with
 |true=>
  obtain⟨N,hN,q2⟩:=q2;rw[if_pos rfl];refine lY hp (thn (hb pins s2 σ1 H2 _ I2 q2) λf s3 q3=>?_)
  cases f with
  |next=>
   obtain⟨σ3,H3,I3,n3⟩:=q3;obtain⟨m',hm,w3⟩:=hN σ3 H3 n3
   exact⟨m',hm,σ3,H3,I3,w3⟩
  |cont=>
   obtain⟨σ3,H3,I3,n3⟩:=q3;obtain⟨m',hm,w3⟩:=hN σ3 H3 n3
   exact⟨m',hm,σ3,H3,I3,w3⟩
  |brk=>exact q3
  |ret v=>exact q3
 |false=>
  rw[if_neg bd];exact rL ⟨σ1,H2,I2,q2⟩
structure It where
 go:Nat->Hp->Prop
 yld:Nat->Hp->V->Hp->Prop
 stop:Nat->Hp->Prop
def hZ(X:Cx)(pins:PNS)(H:Hp)(b:Addr):Prop:=
 H b=ac/\b≠X.env.locals/\b∉X.fs/\(b∈X.ex\/X.s₀.heap.objs.size<=b)/\(∀x c,X.env.cells.lookup x=aa c->c≠b)/\∀p∈X.pn++pins,p.1≠b
theorem Inv.fpOk{s:ai}{b:Addr}(I:Inv X pins σ H s)(hb:s.heap.objs.size<=b)(hn:H' b=ac):hZ X pins H' b:=by
 refine⟨hn,nz (fF I.lt hb),I.nofs hb,.inr (cZ I.sz hb),λx c e z=>?_,λp hp z=>?_⟩
 .obtain⟨v,q⟩:=I.cell x c e;exact absurd (fF q.lt (by rw[z];exact hb)) (iu _)
 .exact absurd (fF (bA (I.pin p hp).1) (by rw[z];exact hb)) (iu _)
structure ke(P:cH)(w:World)(K:aX)(tg:Expr)(J:It)(fp:LAd)(it:Addr)(tn:Nat->Heap->Prop):Prop where
 mem:it∈fp
 obj:∀i h,tn i h->∀b∈fp,∃o,h.get? b=aa o/\∀v,o.data≠.cell v
 keep:∀i h h',tn i h->(∀b∈fp,∀o,h.get? b=aa o->h'.get? b=aa o)->tn i h'
 item:∀(X:Cx),X.prog=P->X.w=w->X.K=K->X.calm=ab->∀(i:Nat) (pins:PNS) (s:ai) (σ:St) (H:Hp) (E:PRS),Inv X pins σ H s->(∀b∈fp,hZ X pins H b)->tn i s.heap->J.go i H ->
  wpAny (model P w) X.A (hU (.ref it)) (λr s1=>∃ u,r=aa u /\
   wpAny (model P w) X.A (rM tg (.ref it) u) (λ_ s2=>∃x H',Inv X pins σ H' s2/\aF x u/\J.yld i H x H'/\tn (i+1) s2.heap/\∀b∈fp,H' b=ac) E s1) E s
 done:∀(X:Cx),X.prog=P->X.w=w->X.K=K->X.calm=ab->∀(i:Nat) (pins:PNS) (s:ai) (σ:St) (H:Hp) (E:PRS),Inv X pins σ H s->(∀b∈fp,hZ X pins H b)->tn i s.heap->J.stop i H ->
  wpAny (model P w) X.A (hU (.ref it)) (λr s1=>r=ac/\Inv X pins σ H s1) E s
 self:∀(A:cP) (i:Nat) (s:ai) (Q:PRS) (E:PRS),tn i s.heap->Q (.ref it) s->wpAny (model P w) A (pyIter (.ref it)) Q E s
noncomputable abbrev TI:=St->Hp->(It->Hp->Prop)->Prop
def PIE(X:Cx)(pins:PNS)(σ:St)(tg:Expr)(R:It->Hp->Prop)(itv:Value)(s2:ai):Prop:=
 ∃(it:Addr) (fp:LAd) (tn:Nat->Heap->Prop) (J:It) (H':Hp),itv=.ref it/\Inv X pins σ H' s2/\ke X.prog X.w X.K tg J fp it tn/\tn 0 s2.heap/\(∀b∈fp,hZ X pins H' b)/\R J H'
def PI(X:Cx)(tg iter:Expr)(wi:TI):Prop:=
 ∀(pins:PNS) (s:ai) (σ:St) (H:Hp) (R:It->Hp->Prop),Inv X pins σ H s->wi σ H R ->
  wpAny (model X.prog X.w) X.A (eval iter X.env) (λv s1=>wpAny (model X.prog X.w) X.A (pyIter v) (PIE X pins σ tg R) X.xe s1) X.xe s
variable{u:Value}
theorem vK{s:ai}{o:Obj}{n:String}{vs:Array Value}(ho:s.heap.get? it = aa o)(hc:o.cls = .type n)(hd:o.data = .fields vs)
   (hn:["enumerate", "zip", "dict_itemiterator", "dict_reverseitemiterator", "odict_iterator", "itertools.zip_longest", "itertools.pairwise"].contains n = ae)(hQ:Q () s):wpAny M A (rM tg (.ref it) u) Q E s:= by
  unfold rM
  cases tg <;> first
    |exact aJ hQ
    | (cases u <;> first
        |exact aJ hQ
        | (refine ap (wpAny_load ho ?_)
           rw[hc, hd];show wpAny M A (if (["enumerate", "zip", "dict_itemiterator", "dict_reverseitemiterator", "odict_iterator", "itertools.zip_longest", "itertools.pairwise"].contains n && vs[0]?==aa (cq _)) = ab then _ else _) Q E s;rw[if_neg (by intro h;rw[hn, o7]at h;cases h)];exact aJ hQ))
noncomputable def Itl(K:aX)(a:Addr):It:=
 ⟨λi H=>∃xs x,SqL K H a xs/\xs[i]?=aa x,λi H x H'=>H'=H/\∀xs,SqL K H a xs->xs[i]?=aa x,λi H=>∃xs,SqL K H a xs/\xs.length<=i⟩
noncomputable def Itt(K:aX)(a:Addr):It:=
 ⟨λi H=>∃xs x,SqT K H a xs/\xs[i]?=aa x,λi H x H'=>H'=H/\∀xs,SqT K H a xs->xs[i]?=aa x,λi H=>∃xs,SqT K H a xs/\xs.length<=i⟩
noncomputable def Itr(lo:Int)(n:Nat):It:=⟨λi _=>i<n,λi H x H'=>H'=H/\x=.int (lo+i),λi _=>n<=i⟩
theorem G5(a it:Addr):ke P w K tg (Itl K a) [it] it (λi h=>h.IsListIter it a i) where
 mem:=by simp
 obj:=λi h st b hb=>by
  have e:b=it:=by simpa using hb
  subst e;obtain⟨o,e,c,d⟩:=st;exact⟨o,e,λv z=>by rw[d]at z;cases z⟩
 keep:=λi h h' st k=>st.at λo e=>k it (by simp) o e
 item:=by
  intro X hP hw hK hc i pins s σ H E I hf st hg;subst hP hw hK;obtain⟨xs,x,hq,hx⟩:=hg;obtain⟨its,rv,p,hz⟩:=I.list hq;obtain⟨u,hu,ru⟩:=rv.get hx;obtain⟨f0,f1,f2,f3,f4,f5⟩:=hf it (by simp);refine wpAny_pyNext_list_item st p.isList (x:=u) (by simpa using hu) λh' st' sb=>?_
  have I1:Inv X pins σ H {s with heap:=h'}:=I.turned (t':=s.toks) (λb o hb e=>(sb.2 b hb).trans e) f0 f1 f3 f4 f5
  obtain⟨o,e,c,d⟩:=id st'
  exact⟨u,rfl,vK (s:={s with heap:=h'}) e c d (by decide) ⟨x,H,I1,ru,⟨rfl,λys hy=>by rw[I.list_inj hy hq];exact hx⟩,st',λb hb=>(hf b hb).1⟩⟩
 done:=by
  intro X hP hw hK hc i pins s σ H E I hf st hg;subst hP hw hK;obtain⟨xs,hq,hx⟩:=hg;obtain⟨its,rv,p,hz⟩:=I.list hq;obtain⟨f0,f1,f2,f3,f4,f5⟩:=hf it (by simp);have hl:=rv.length;exact wpAny_pyNext_list_end (I.ok.hd hc) st p.isList (by simp;omega) λh' eb=>⟨rfl,I.turned (t':=s.toks) (λb o hb e=>eb b o hb e) f0 f1 f3 f4 f5⟩
 self:=λ_ _ _ _ _ st h=>wpAny_pyIter_listiter st h
theorem G6(a it:Addr):ke P w K tg (Itt K a) [it] it (λi h=>h.IsTupleIter it a i) where
 mem:=by simp
 obj:=λi h st b hb=>by
  have e:b=it:=by simpa using hb
  subst e;obtain⟨o,e,c,d⟩:=st;exact⟨o,e,λv z=>by rw[d]at z;cases z⟩
 keep:=λi h h' st k=>st.at λo e=>k it (by simp) o e
 item:=by
  intro X hP hw hK hc i pins s σ H E I hf st hg;subst hP hw hK;obtain⟨xs,x,hq,hx⟩:=hg;obtain⟨its,rv,p,hz⟩:=I.tuple hq;obtain⟨u,hu,ru⟩:=rv.get hx;obtain⟨f0,f1,f2,f3,f4,f5⟩:=hf it (by simp);refine wpAny_pyNext_tuple_item st (show s.heap.IsTuple a its.toArray from p) (x:=u) (by simpa using hu) λh' st' sb=>?_
  have I1:Inv X pins σ H {s with heap:=h'}:=I.turned (t':=s.toks) (λb o hb e=>(sb.2 b hb).trans e) f0 f1 f3 f4 f5
  obtain⟨o,e,c,d⟩:=id st'
  exact⟨u,rfl,vK (s:={s with heap:=h'}) e c d (by decide) ⟨x,H,I1,ru,⟨rfl,λys hy=>by rw[I.tuple_inj hy hq];exact hx⟩,st',λb hb=>(hf b hb).1⟩⟩
 done:=by
  intro X hP hw hK hc i pins s σ H E I hf st hg;subst hP hw hK;obtain⟨xs,hq,hx⟩:=hg;obtain⟨its,rv,p,hz⟩:=I.tuple hq;obtain⟨f0,f1,f2,f3,f4,f5⟩:=hf it (by simp);have hl:=rv.length;exact wpAny_pyNext_tuple_end (I.ok.hd hc) st (show s.heap.IsTuple a its.toArray from p) (by simp;omega) λh' eb=>⟨rfl,I.turned (t':=s.toks) (λb o hb e=>eb b o hb e) f0 f1 f3 f4 f5⟩
 self:=λ_ _ _ _ _ st h=>wpAny_pyIter_tupleiter st h
theorem G7(it:Addr)(lo:Int)(n:Nat):ke P w K tg (Itr lo n) [it] it (λi h=>IsRangeIter h it (lo+(i:Nat)*1) ((n:Int)-(i:Nat)) 1) where
 mem:=by simp
 obj:=λi h st b hb=>by
  have e:b=it:=by simpa using hb
  subst e
  exact⟨_,st,λv z=>by
   have z':Data.fields _=Data.cell v:=z;cases z'⟩
 keep:=λi h h' st k=>k it (by simp) _ st
 item:=by
  intro X hP hw hK hc i pins s σ H E I hf st hg;subst hP hw hK;obtain⟨f0,f1,f2,f3,f4,f5⟩:=hf it (by simp);have W:=Walks.range (prog:=X.prog) (w:=X.w) (I.ok.hd hc) it lo 1 n;refine W.item i s _ _ hg st λv h' tk hv st' kk=>?_;obtain⟨t,rfl⟩:=hv
  have I1:Inv X pins σ H {s with heap:=h',toks:=tk}:=I.turned (λb o hb e=>kk b o (by simpa using hb) e) f0 f1 f3 f4 f5
  refine⟨_,rfl,vK (s:={s with heap:=h',toks:=tk}) (n:="range_iterator") st' rfl rfl (by decide) ⟨.int (lo+i),H,I1,⟨t,?_⟩,⟨rfl,rfl⟩,st',λb hb=>(hf b hb).1⟩⟩
  rw[Int.mul_one]
 done:=by
  intro X hP hw hK hc i pins s σ H E I hf st hg;subst hP hw hK;obtain⟨f0,f1,f2,f3,f4,f5⟩:=hf it (by simp);exact wpAny_pyNext_range_end (I.ok.hd hc) st (by have:n<=i:=hg;omega) λh' eb=>⟨rfl,I.turned (t':=s.toks) (λb o hb e=>eb b o hb e) f0 f1 f3 f4 f5⟩
 self:=λ_ _ _ _ _ st h=>wpAny_pyIter_rangeiter st h
def vL(K:aX)(tl:TE):TI:=λσ H R=>tl σ H λx H1=>∃a,x=.ref a/\(∃xs,SqL K H1 a xs)/\R (Itl K a) H1
def G8(K:aX)(tl:TE):TI:=λσ H R=>tl σ H λx H1=>∃a,x=.ref a/\(∃xs,SqT K H1 a xs)/\R (Itt K a) H1
variable{l:Expr}{tl:TE}
theorem vM(hl:PE X l tl):PI X tg l (vL X.K tl):=by
 intro pins s σ H R I h;refine thn (hl pins s σ H _ I h) λv s1 q_=>?_;obtain⟨x,H1,I1,r1,q1⟩:=q_;obtain⟨a,e,⟨xs,hq⟩,q⟩:=q1;subst e;cases r1;obtain⟨its,rv,p,hz⟩:=I1.list hq;refine rK p.isList ?_;refine⟨s1.heap.objs.size,[s1.heap.objs.size],_,_,H1,rfl,I1.kept (t':=s1.toks) λb o e=>bT _ e,G5 a _,⟨_,dn _ rfl,rfl,rfl⟩,λb hb=>?_,q⟩;have e:b=s1.heap.objs.size:=by simpa using hb
 subst e;exact I1.fpOk (aL _) (I1.hok.fresh (aL _))
theorem G9(hl:PE X l tl):PI X tg l (G8 X.K tl):=by
 intro pins s σ H R I h;refine thn (hl pins s σ H _ I h) λv s1 q_=>?_;obtain⟨x,H1,I1,r1,q1⟩:=q_;obtain⟨a,e,⟨xs,hq⟩,q⟩:=q1;subst e;cases r1;obtain⟨its,rv,p,hz⟩:=I1.tuple hq;refine wpAny_pyIter_tuple (show s1.heap.IsTuple a its.toArray from p) ?_;refine⟨s1.heap.objs.size,[s1.heap.objs.size],_,_,H1,rfl,I1.kept (t':=s1.toks) λb o e=>bT _ e,G6 a _,⟨_,dn _ rfl,rfl,rfl⟩,λb hb=>?_,q⟩;have e:b=s1.heap.objs.size:=by simpa using hb
 subst e;exact I1.fpOk (aL _) (I1.hok.fresh (aL _))
theorem Ha{s:ai}{R:It->Hp->Prop}{lo hi:Int}{t u v:Tok}{tk:Nat}(I:Inv X pins σ H s)(h1:-(2 ^ 62)<=lo)(h2:lo<2 ^ 62)(h3:-(2 ^ 62)<=hi)(h4:hi<2 ^ 62)
 (q:R (Itr lo (hi-lo).toNat) H):wpAny (model X.prog X.w) X.A (pyIter (.ref s.heap.objs.size)) (PIE X pins σ tg R) E {s with heap:=s.heap.push {cls:=.type "range",data:=.fields #[.int lo t,.int hi u,.int 1 v]},toks:=tk}:=by
 refine wpAny_pyIter_range (IsRange.new ..) (small_one h1 h2 h3 h4) ?_
 have I1:Inv X pins σ H {s with heap:=s.heap.push {cls:=.type "range",data:=.fields #[.int lo t,.int hi u,.int 1 v]},toks:=tk}:=I.kept λb o e=>bT _ e
 refine⟨(s.heap.push {cls:=.type "range",data:=.fields #[.int lo t,.int hi u,.int 1 v]}).objs.size,[(s.heap.push {cls:=.type "range",data:=.fields #[.int lo t,.int hi u,.int 1 v]}).objs.size],_,_,H,rfl,
  I1.kept (t':=tk) λb o e=>bT _ e,G7 _ lo (hi-lo).toNat,?_,λb hb=>?_,q⟩
 .have e1:lo+((0:Nat):Int)*1=lo:=by simp
  have e2:(((hi-lo).toNat:Nat):Int)-((0:Nat):Int)=fW.Range.rangeSize lo hi 1:=by rw[rangeSize_one];split <;> omega
  show IsRangeIter _ _ (lo+((0:Nat):Int)*1) ((((hi-lo).toNat:Nat):Int)-((0:Nat):Int)) 1;rw[e1,e2];exact dn _ rfl
 .have e:b=(s.heap.push {cls:=.type "range",data:=.fields #[.int lo t,.int hi u,.int 1 v]}).objs.size:=by simpa using hb
  subst e;exact I1.fpOk (aL _) (I1.hok.fresh (aL _))
def Hb(ta:TA):TI:=λσ H R=>ta σ H λvs H1=>∃j:Int,vs=[.int j]/\-(2 ^ 62)<=j/\j<2 ^ 62/\R (Itr 0 j.toNat) H1
variable{a:Expr}
theorem Hc{ta:TA}{p:Pos}(hg:Gl X "range")(hm:X.mg "range"=ac)(ha:PA X [a] ta)(hs:ba [a] X.env=[(ae,eval a X.env)]:=by rfl):PI X tg (.Call (.Name "range" p) [a] [] pos) (Hb ta):=by
 intro pins s σ H R I h;refine Call_ (kc I hg hm boot_range (py (thn (ha pos pins s σ H _ I h) λus s1 ⟨vs,H1,I1,r1,q1⟩=>?_) hs rfl));obtain⟨j,e,q1,q2,q⟩:=q1;subst e
 cases r1 with
 |cons r rr=>
  cases rr;obtain⟨t,rfl⟩:=r;exact call_range_1 (Ha I1 (by omega) (by omega) q1 q2 (by simpa using q))
def vN(wi:TI)(g:TG)(tb:TS):TS:=λD σ H=>wi σ H λJ H1=>∃W:Nat->Nat->St->Hp->Prop,(∃m,W 0 m σ H1)/\∀i m σ H,W i m σ H ->
 (J.stop i H/\D.nx σ H)\/(J.go i H/\∃N:St->Hp->Prop,(∀σ' H',N σ' H'->∃m',m'<m/\W (i+1) m' σ' H')/\∀x H',J.yld i H x H'->g x σ H' λσ2 H2=>tb {D with nx:=N,ct:=N,bk:=D.nx} σ2 H2)
noncomputable def pI(fp:LAd)(h:Heap):PNS:=fp.filterMap λb=>(h.get? b).map λo=>(b,o)
variable{fp:LAd}
theorem rZ{b:Addr}{o:Obj}(hb:b∈fp)(e:h.get? b=aa o):(b,o)∈pI fp h:=mem_filterMap.mpr ⟨b,hb,by rw[e];rfl⟩
theorem Hd{p:Addr×Obj}(hp:p∈pI fp h):p.1∈fp/\h.get? p.1=aa p.2:=by
 obtain⟨b,hb,e⟩:=mem_filterMap.mp hp
 cases q:h.get? b with
 |none=>rw[q]at e;cases e
 |some o=>
  rw[q]at e;have e':(b,o)=p:=cF e;subst e';exact⟨hb,q⟩
theorem Inv.pinned{s:ai}(I:Inv X pins σ H s)(hf:∀b∈fp,hZ X pins H b)(ho:∀b∈fp,∃o,s.heap.get? b=aa o/\∀v,o.data≠.cell v):Inv X (pins++pI fp s.heap) σ H s:=
 I.pins_of λp hp=>(ci.mp hp).elim (λz=>I.pin p (dX _ z)) λz=>by
  obtain⟨hb,e⟩:=Hd z;obtain⟨f0,f1,f2,_⟩:=hf p.1 hb;obtain⟨o,e',d⟩:=ho p.1 hb;rw[e]at e';cases e';exact⟨e,f0,f1,f2,d⟩
theorem Inv.unpinned{pl:PNS}{s:ai}(I:Inv X (pins++pl) σ H s):Inv X pins σ H s:=I.pins_of λp hp=>I.pin p (dX _ (gh _ hp))
variable{iter:Expr}{wi:TI}
theorem Bu{tb:TS}(hp:PassesOwn (model X.prog X.w) X.A X.env X.xe)(hc:X.calm=ab)(hi:PI X tg iter wi)(hg:PG X tg g)(hb:PSs X body tb)
 (hs:∀x,lW iter X.env x=pure x:=by intro _;rfl):PS X (.For tg iter body [] pos) (vN wi g tb):=by
 intro pins s σ H D I h;refine wpAny_For (thn (hi pins s σ H _ I h) λv s1 h1=>thn h1 λitv s2 h2=>?_) hs;obtain⟨it,fp,tn,J,H2,e,I2,T,st2,f2,W,⟨m0,w0⟩,turn⟩:=h2;subst e;have stat:∀{H':Hp},(∀b∈fp,H' b=ac)->∀b∈fp,hZ X pins H' b:=λhn b hb=>⟨hn b hb,(f2 b hb).2⟩;refine codeAny_forLoop_any (λn s'=>∃i σ' H',Inv X pins σ' H' s'/\tn i s'.heap/\(∀b∈fp,H' b=ac)/\W i n σ' H') ?_ m0 ⟨0,σ,H2,I2,st2,λb hb=>(f2 b hb).1,w0⟩;rintro n s3 ⟨i,σ3,H3,I3,st3,fr3,w3⟩
 rcases turn i n σ3 H3 w3 with⟨stop,qn⟩ |⟨go,N,hN,step⟩
 .refine lY hp (thn (T.done X rfl rfl rfl hc i pins s3 σ3 H3 X.xe I3 (stat fr3) st3 stop) λr s4 ⟨hr,I4⟩=>?_);subst hr;exact rL ⟨σ3,H3,I4,qn⟩
 .refine lY hp (thn (T.item X rfl rfl rfl hc i pins s3 σ3 H3 X.xe I3 (stat fr3) st3 go) λr s4 q_=>?_);obtain⟨u,hr,h4⟩:=q_;subst hr;refine lY hp (thn h4 λ_ s5 q_=>?_);obtain⟨x,H5,I5,r5,y5,st5,fr5⟩:=q_;have I5':=I5.pinned (stat fr5) (T.obj _ _ st5);refine lY hp (thn (hg _ s5 σ3 H5 x u _ I5' r5 (step x H5 y5)) λ_ s6 q_=>?_);obtain⟨σ6,H6,I6,q6⟩:=q_;refine lY hp (thn (hb _ s6 σ6 H6 _ I6 q6) λf s7 q7=>?_)
  have again:∀{σ7:St} {H7:Hp},Inv X (pins++pI fp s5.heap) σ7 H7 s7->N σ7 H7->∃m,m<n/\∃i σ' H',Inv X pins σ' H' s7/\tn i s7.heap/\(∀b∈fp,H' b=ac)/\W i m σ' H':=λ{σ7 H7} I7 n7=>by
   obtain⟨m',hm,w7⟩:=hN σ7 H7 n7;refine⟨m',hm,i+1,σ7,H7,I7.unpinned,T.keep _ _ _ st5 λb hb o e=>(I7.pin (b,o) (dX _ (dX _ (rZ hb e)))).1,λb hb=>?_,w7⟩;obtain⟨o,e,d⟩:=T.obj _ _ st5 b hb;exact(I7.pin (b,o) (dX _ (dX _ (rZ hb e)))).2.1
  cases f with
  |next=>obtain⟨σ7,H7,I7,n7⟩:=q7;exact again I7 n7
  |cont=>obtain⟨σ7,H7,I7,n7⟩:=q7;exact again I7 n7
  |brk=>obtain⟨σ7,H7,I7,q7⟩:=q7;exact⟨σ7,H7,I7.unpinned,q7⟩
  |ret v=>obtain⟨x7,σ7,H7,I7,r7,q7⟩:=q7;exact⟨x7,σ7,H7,I7.unpinned,r7,q7⟩
noncomputable abbrev R2:=V->V->Hp->VK->Prop
def OpR(X:Cx)(f:Value->Value->Sem Value)(r:R2):Prop:=
 ∀(pins:PNS) (s:ai) (σ:St) (H:Hp) (x y:V) (v u:Value) (Q:VK),Inv X pins σ H s->aF x v->aF y u->r x y H Q ->
  wpAny (model X.prog X.w) X.A (f v u) (EP X pins σ Q) X.xe s
def UnR(X:Cx)(f:Value->Sem Value)(r:V->Hp->VK->Prop):Prop:=
 ∀(pins:PNS) (s:ai) (σ:St) (H:Hp) (x:V) (v:Value) (Q:VK),Inv X pins σ H s->aF x v->r x H Q ->
  wpAny (model X.prog X.w) X.A (f v) (EP X pins σ Q) X.xe s
def ia(X:Cx)(f:Value)(r:List V->Hp->VK->Prop):Prop:=
 ∀(pins:PNS) (s:ai) (σ:St) (H:Hp) (xs:List V) (us:LVa) (Q:VK),Inv X pins σ H s->aG xs us->r xs H Q ->
  wpAny (model X.prog X.w) X.A (call f us) (EP X pins σ Q) X.xe s
def He(X:Cx)(r:V->Hp->(Bool->Hp->Prop)->Prop):Prop:=
 ∀(pins:PNS) (s:ai) (σ:St) (H:Hp) (x:V) (v:Value) (Q:Bool->Hp->Prop),Inv X pins σ H s->aF x v->r x H Q ->
  wpAny (model X.prog X.w) X.A (truthy v) (TP X pins σ Q) X.xe s
def tOp(r:R2)(ta tb:TE):TE:=λσ H Q=>ta σ H λx H1=>tb σ H1 λy H2=>r x y H2 Q
def tUn(r:V->Hp->VK->Prop)(ta:TE):TE:=λσ H Q=>ta σ H λx H1=>r x H1 Q
def rI(C:Int->Int->Prop)(g:Int->Int->V):R2:=λx y H Q=>∃i j,x=.int i/\y=.int j/\C i j/\Q (g i j) H
def rI0(g:Int->Int->V):R2:=λx y H Q=>∃i j,x=.int i/\y=.int j/\Q (g i j) H
def rU(g:Int->V):V->Hp->VK->Prop:=λx H Q=>∃i,x=.int i/\Q (g i) H
variable{f:Value->Value->Sem Value}
theorem vO(ha:PE X a ta)(hb:PE X b tb){s:ai}{R:V->V->Hp->Prop}(I:Inv X pins σ H s)
 (h:ta σ H λx H1=>tb σ H1 λy H2=>R x y H2){Q:PRS}
 (hf:∀v u s2 x y H2,Inv X pins σ H2 s2->aF x v->aF y u->R x y H2->wpAny (model X.prog X.w) X.A (f v u) Q X.xe s2):
  wpAny (model X.prog X.w) X.A (eval a X.env) (λv s₁=>wpAny (model X.prog X.w) X.A (eval b X.env) (λu s₂=>wpAny (model X.prog X.w) X.A (f v u) Q X.xe s₂) X.xe s₁) X.xe s:=by
 refine thn (ha pins s σ H _ I h) λv s1 q_=>?_;obtain⟨x,H1,I1,r1,q1⟩:=q_;refine thn (hb pins s1 σ H1 _ I1 q1) λu s2 q_=>?_;obtain⟨y,H2,I2,r2,q2⟩:=q_;exact hf v u s2 x y H2 I2 r1 r2 q2
theorem Bv{r:R2}(ho:OpR X (fU op) r)(ha:PE X a ta)(hb:PE X b tb):PE X (.BinOp a op b pos) (tOp r ta tb):=by
 intro pins s σ H Q I h;exact wpAny_BinOp (vO ha hb I h λv u s2 x y H2 I2 rx ry q=>ho pins s2 σ H2 x y v u Q I2 rx ry q)
theorem Hg{op:UnaryOp}{r:V->Hp->VK->Prop}(ho:UnR X (unaryOp op) r)(ha:PE X a ta):PE X (.UnaryOp op a pos) (tUn r ta):=by
 intro pins s σ H Q I h;exact UnaryOp_ (thn (ha pins s σ H _ I h) λv s1 ⟨x,H1,I1,r1,q1⟩=>ho pins s1 σ H1 x v Q I1 r1 q1)
theorem opI{C:Int->Int->Prop}{g:Int->Int->Int}
 (rule:∀(i j:Int) (t u:Tok) (s:ai) (Q:PRS) (E:PRS),C i j->Q (.int (g i j) s.toks) {s with toks:=s.toks+1}->wpAny (model X.prog X.w) X.A (f (.int i t) (.int j u)) Q E s):
  OpR X f (rI C λi j=>.int (g i j)):=by
 intro pins s σ H x y v u Q I rx ry h;obtain⟨i,j,rfl,rfl,hc,q⟩:=h;obtain⟨t,rfl⟩:=rx;obtain⟨t',rfl⟩:=ry;exact rule i j t t' s _ _ hc ⟨.int (g i j),H,I.tok _,⟨_,rfl⟩,q⟩
theorem Bw{g:Int->Int->Int}
 (rule:∀(i j:Int) (t u:Tok) (s:ai) (Q:PRS) (E:PRS),Q (.int (g i j) s.toks) {s with toks:=s.toks+1}->wpAny (model X.prog X.w) X.A (f (.int i t) (.int j u)) Q E s):
  OpR X f (rI0 λi j=>.int (g i j)):=by
 intro pins s σ H x y v u Q I rx ry h;obtain⟨i,j,rfl,rfl,q⟩:=h;obtain⟨t,rfl⟩:=rx;obtain⟨t',rfl⟩:=ry;exact rule i j t t' s _ _ ⟨.int (g i j),H,I.tok _,⟨_,rfl⟩,q⟩
theorem r6{g:Int->Int->Bool}
 (rule:∀(i j:Int) (t u:Tok) (s:ai) (Q:PRS) (E:PRS),Q (.bool (g i j)) s->wpAny (model X.prog X.w) X.A (f (.int i t) (.int j u)) Q E s):
  OpR X f (rI0 λi j=>.bl (g i j)):=by
 intro pins s σ H x y v u Q I rx ry h;obtain⟨i,j,rfl,rfl,q⟩:=h;obtain⟨t,rfl⟩:=rx;obtain⟨t',rfl⟩:=ry;exact rule i j t t' s _ _ ⟨.bl (g i j),H,I,rfl,q⟩
def pJ(i j:Int):Prop:=0<j/\j<1073741824
def nO(i j:Int):Prop:=0<=j/\j<=1000000/\i.natAbs<2 ^ 64
def pK(i j:Int):Prop:=(-(2 ^ 64)<i/\i<2 ^ 64)\/(-(2 ^ 64)<j/\j<2 ^ 64)
variable{j:Int}
theorem pK.ok{i:Int}(h:pK i j):IntMulOk i j:=by
 rcases h with⟨h1,h2⟩ |⟨h1,h2⟩
 .exact .of_left (intBits_le_64 h1 h2)
 .exact .of_right (intBits_le_64 h1 h2)
theorem Hh:OpR X (fU .Add) (rI0 λi j=>.int (i+j)):=Bw λ_ _ _ _ _ _ _ q=>add_int q
theorem Hi:OpR X (fU .Sub) (rI0 λi j=>.int (i-j)):=Bw λ_ _ _ _ _ _ _ q=>sub_int q
theorem Hj:OpR X (fU .FloorDiv) (rI pJ λi j=>.int (i / j)):=opI λi j _ _ _ _ _ hc q=>by
 have h1:(0:Int)<j:=hc.1;have h2:j<1073741824:=hc.2;exact floordiv_int (by omega) (by rw[Int.fdiv_eq_ediv_of_nonneg i (by omega)];exact q) (.inl (PyProof.noPylong_small (by omega)))
theorem Hk:OpR X (fU .Mod) (rI (λ_ j=>0<j) λi j=>.int (i % j)):=opI λi j _ _ _ _ _ hc q=>by
 have h1:(0:Int)<j:=hc;exact mod_int' (by omega) (by rw[Int.fmod_eq_emod_of_nonneg i (by omega)];exact q)
theorem Hl:OpR X (fU .Pow) (rI nO λi j=>.int (i ^ j.toNat)):=opI λ_ _ _ _ _ _ _ hc q=>pow_int_small hc.1 hc.2.1 hc.2.2 q
theorem unI{f:Value->Sem Value}{g:Int->Int}
 (rule:∀(i:Int) (t:Tok) (s:ai) (Q:PRS) (E:PRS),Q (.int (g i) s.toks) {s with toks:=s.toks+1}->wpAny (model X.prog X.w) X.A (f (.int i t)) Q E s):
  UnR X f (rU λi=>.int (g i)):=by
 intro pins s σ H x v Q I rx h;obtain⟨i,rfl,q⟩:=h;obtain⟨t,rfl⟩:=rx;exact rule i t s _ _ ⟨.int (g i),H,I.tok _,⟨_,rfl⟩,q⟩
theorem Hm:UnR X (unaryOp .USub) (rU λi=>.int (-i)):=unI λ_ _ _ _ _ q=>neg_int q
noncomputable def vP:V->V->Bool
 |.non,.non=>ab |.non,.int _=>ab |.int _,.non=>ab |.non,.bl _=>ab |.bl _,.non=>ab |.non,.str _=>ab |.str _,.non=>ab
 |.int _,.int _=>ab |.bl _,.bl _=>ab |.str _,.str _=>ab |.byt _,.byt _=>ab
 |.int _,.str _=>ab |.str _,.int _=>ab |.bl _,.str _=>ab |.str _,.bl _=>ab
 | _,_=>ae
def rEq:R2:=λx y H Q=>vP x y=ab/\Q (.bl (decide (x=y))) H
def rNe:R2:=λx y H Q=>vP x y=ab/\Q (.bl (!decide (x=y))) H
theorem vQ{i:Int}:decide (V.int i=V.int j)=(i==j):=by
 rw[jo];simp
theorem pL{i j:Bool}:decide (V.bl i=V.bl j)=(i==j):=by
 rw[jo];simp
theorem vR{i j:Str}:decide (V.str i=V.str j)=(i==j):=by
 rw[jo];simp
theorem Bx{i j:Array UInt8}:decide (V.byt i=V.byt j)=(i.toList==j.toList):=by
 rw[jo];cases i;cases j;simp
theorem bZ{s:ai}{Q:VK}{k k':Bool}(I:Inv X pins σ H s)(q:Q (.bl k) H)(e:k=k'):EP X pins σ Q (.bool k') s:=by
 subst e;exact⟨.bl k,H,I,rfl,q⟩
theorem Ho:OpR X (c3 .Eq) rEq:=by
 intro pins s σ H x y v u Q I rx ry h;obtain⟨hs,q⟩:=h
 cases x with
 |non=>
  cases rx
  cases y with
  |non=>cases ry;exact PySem.EqNone.eq_none_none (bZ I q (by simp))
  |bl j=>cases ry;exact PySem.EqNone.eq_none_bool (bZ I q (by simp))
  |int j=>obtain⟨t',rfl⟩:=ry;exact PySem.EqNone.eq_none_int (bZ I q (by simp))
  |str j=>obtain⟨t',rfl⟩:=ry;exact PySem.EqNone.eq_none_str (bZ I q (by simp))
  | _=>exact absurd (show ae=ab from hs) bd
 |bl i=>
  cases rx
  cases y with
  |non=>cases ry;exact PySem.EqNone.eq_bool_none (bZ I q (by simp))
  |bl j=>cases ry;exact eq_bool (bZ I q pL)
  |str j=>obtain⟨t',rfl⟩:=ry;exact PySem.EqMixed.eq_bool_str (bZ I q (by simp))
  | _=>exact absurd (show ae=ab from hs) bd
 |int i=>
  obtain⟨t,rfl⟩:=rx
  cases y with
  |non=>cases ry;exact PySem.EqNone.eq_int_none (bZ I q (by simp))
  |int j=>obtain⟨t',rfl⟩:=ry;exact eq_int (bZ I q vQ)
  |str j=>obtain⟨t',rfl⟩:=ry;exact PySem.EqMixed.eq_int_str (bZ I q (by simp))
  | _=>exact absurd (show ae=ab from hs) bd
 |str i=>
  obtain⟨t,rfl⟩:=rx
  cases y with
  |non=>cases ry;exact PySem.EqNone.eq_str_none (bZ I q (by simp))
  |bl j=>cases ry;exact PySem.EqMixed.eq_str_bool (bZ I q (by simp))
  |int j=>obtain⟨t',rfl⟩:=ry;exact PySem.EqMixed.eq_str_int (bZ I q (by simp))
  |str j=>obtain⟨t',rfl⟩:=ry;exact eq_str (bZ I q vR)
  | _=>exact absurd (show ae=ab from hs) bd
 |byt i=>
  obtain⟨t,rfl⟩:=rx
  cases y with
  |byt j=>obtain⟨t',rfl⟩:=ry;exact W.eq_bytes (bZ I q Bx)
  | _=>exact absurd (show ae=ab from hs) bd
 | _=>cases y <;> exact absurd (show ae=ab from hs) bd
theorem Hq:OpR X (c3 .NotEq) rNe:=by
 intro pins s σ H x y v u Q I rx ry h;obtain⟨hs,q⟩:=h
 cases x with
 |non=>
  cases rx
  cases y with
  |non=>cases ry;exact PySem.EqNone.ne_none_none (bZ I q (by simp))
  |bl j=>cases ry;exact PySem.EqNone.ne_none_bool (bZ I q (by simp))
  |int j=>obtain⟨t',rfl⟩:=ry;exact PySem.EqNone.ne_none_int (bZ I q (by simp))
  |str j=>obtain⟨t',rfl⟩:=ry;exact PySem.EqNone.ne_none_str (bZ I q (by simp))
  | _=>exact absurd (show ae=ab from hs) bd
 |bl i=>
  cases rx
  cases y with
  |non=>cases ry;exact PySem.EqNone.ne_bool_none (bZ I q (by simp))
  |bl j=>cases ry;exact ne_bool (bZ I q (congrArg not pL))
  |str j=>obtain⟨t',rfl⟩:=ry;exact PySem.EqMixed.ne_bool_str (bZ I q (by simp))
  | _=>exact absurd (show ae=ab from hs) bd
 |int i=>
  obtain⟨t,rfl⟩:=rx
  cases y with
  |non=>cases ry;exact PySem.EqNone.ne_int_none (bZ I q (by simp))
  |int j=>obtain⟨t',rfl⟩:=ry;exact ne_int (bZ I q (congrArg not vQ))
  |str j=>obtain⟨t',rfl⟩:=ry;exact PySem.EqMixed.ne_int_str (bZ I q (by simp))
  | _=>exact absurd (show ae=ab from hs) bd
 |str i=>
  obtain⟨t,rfl⟩:=rx
  cases y with
  |non=>cases ry;exact PySem.EqNone.ne_str_none (bZ I q (by simp))
  |bl j=>cases ry;exact PySem.EqMixed.ne_str_bool (bZ I q (by simp))
  |int j=>obtain⟨t',rfl⟩:=ry;exact PySem.EqMixed.ne_str_int (bZ I q (by simp))
  |str j=>obtain⟨t',rfl⟩:=ry;exact ne_str (bZ I q (congrArg not vR))
  | _=>exact absurd (show ae=ab from hs) bd
 |byt i=>
  obtain⟨t,rfl⟩:=rx
  cases y with
  |byt j=>obtain⟨t',rfl⟩:=ry;exact W.ne_bytes (bZ I q (congrArg not Bx))
  | _=>exact absurd (show ae=ab from hs) bd
 | _=>cases y <;> exact absurd (show ae=ab from hs) bd
theorem Hr:OpR X (c3 .Lt) (rI0 λi j=>.bl (decide (i<j))):=r6 λ_ _ _ _ _ _ _ q=>lt_int q
theorem Hs:OpR X (c3 .LtE) (rI0 λi j=>.bl (decide (i<=j))):=r6 λ_ _ _ _ _ _ _ q=>le_int q
theorem Ht:OpR X (c3 .Gt) (rI0 λi j=>.bl (decide (j<i))):=r6 λ_ _ _ _ _ _ _ q=>gt_int q
theorem Hu:OpR X (c3 .GtE) (rI0 λi j=>.bl (decide (j<=i))):=r6 λ_ _ _ _ _ _ _ q=>ge_int q
theorem Hv:OpR X (c3 .Is) (λx y H Q=>y=.non/\Q (.bl (decide (x=.non))) H):=by
 intro pins s σ H x y v u Q I rx ry h;obtain⟨rfl,q⟩:=h;cases ry;refine is_none_gen (bZ I q ?_)
 cases x <;> first
  |(cases rx;rfl)
  |(obtain⟨t,rfl⟩:=rx;rfl)
theorem Hw:OpR X (c3 .IsNot) (λx y H Q=>y=.non/\Q (.bl (!decide (x=.non))) H):=by
 intro pins s σ H x y v u Q I rx ry h;obtain⟨rfl,q⟩:=h;cases ry;refine isnot_none_gen (bZ I q ?_)
 cases x <;> first
  |(cases rx;rfl)
  |(obtain⟨t,rfl⟩:=rx;rfl)
variable{op:CmpOp}
theorem By(b:Expr)(h:op≠.In:=by decide)(h2:op≠.NotIn:=by decide):kQ op b=ae:=by
 have e1:(op==CmpOp.In)=ae:=by cases op <;> first |rfl |exact absurd rfl h
 have e2:(op==CmpOp.NotIn)=ae:=by cases op <;> first |rfl |exact absurd rfl h2
 cases b <;> simp[kQ,e1,e2]
variable{r:R2}
theorem Hx(ho:OpR X (c3 op) r)(ha:PE X a ta)(hb:PE X b tb)(hm:kQ op b=ae):PE X (.Compare a [op] [b] pos) (tOp r ta tb):=by
 intro pins s σ H Q I h;exact wpAny_Compare1 (vO ha hb I h λv u s2 x y H2 I2 rx ry q=>ho pins s2 σ H2 x y v u Q I2 rx ry q) hm
def Hy(t:TE):TT:=λσ H Q=>t σ H λx H'=>∃k,x=.bl k/\Q k H'
theorem Hz(ho:OpR X (c3 op) r)(ha:PE X a ta)(hb:PE X b tb)(hm:kQ op b=ae):PT X (.Compare a [op] [b] pos) (Hy (tOp r ta tb)):=by
 intro pins s σ H Q I h
 refine wpAny_isTrue_Compare1 (thn (ha pins s σ H _ I h) λv s1 ⟨x,H1,I1,r1,q1⟩=>thn (hb pins s1 σ H1 _ I1 q1) λu s2 ⟨y,H2,I2,r2,q2⟩ =>
  thn (ho pins s2 σ H2 x y v u _ I2 r1 r2 q2) λc s3 ⟨z,H3,I3,r3,k,e,q3⟩=>?_) hm
 subst e;cases r3;exact lV ⟨H3,I3,q3⟩
def vS(K:aX)(x:V)(H:Hp)(k:Bool):Prop:=
 match x with
 |.non=>k=ae
 |.bl b=>k=b
 |.int i=>k=(i != 0)
 |.str y=>y.length<=aS/\k=((y.length:Int) != 0)
 |.byt y=>y.size<=aS/\k=((y.size:Int) != 0)
 |.ref p=>(∃xs,SqL K H p xs/\k=!xs.isEmpty)\/(∃xs,SqT K H p xs/\k=!xs.isEmpty)\/∃kvs,H p=aa (.dK kvs)/\k=!kvs.isEmpty
 | _=>False
theorem HA{κ:Type}{kvs:List (κ×V)}{vs:List (κ×Value)}(r:KV kvs vs):(!vs.isEmpty)=!kvs.isEmpty:=by
 cases r <;> rfl
variable{its:LVa}
theorem Bz(r:aG xs its):(!its.toArray.isEmpty)=!xs.isEmpty:=by
 cases r <;> simp
theorem nP:(aS:Nat)<2 ^ 63:=by rw[dL];decide
theorem HB:He X (λx H Q=>∃k,vS X.K x H k/\Q k H):=by
 intro pins s σ H x v Q I rx h;obtain⟨k,e,q⟩:=h;have hl:=nP;have hs:aS=16777216:=dL
 cases x with
 |non=>
  cases rx;have e':k=ae:=e;subst e'
  exact truthy_none ⟨H,I,q⟩
 |bl b=>
  cases rx;have e':k=b:=e;subst e'
  exact lV ⟨H,I,q⟩
 |int i=>
  obtain⟨t,rfl⟩:=rx;have e':k=(i != 0):=e;subst e'
  exact PySem.P.truthy_int ⟨H,I,q⟩
 |str y=>
  obtain⟨t,rfl⟩:=rx;obtain⟨hy,e'⟩:y.length<=aS/\k=((y.length:Int) != 0):=e;subst e'
  exact PySem.P.truthy_str (by omega) ⟨H,I.tok _,q⟩
 |byt y=>
  obtain⟨t,rfl⟩:=rx;obtain⟨hy,e'⟩:y.size<=aS/\k=((y.size:Int) != 0):=e;subst e'
  exact W.truthy_bytes (by omega) ⟨H,I.tok _,q⟩
 |ref p=>
  cases rx;have e':(∃xs,SqL X.K H p xs/\k=!xs.isEmpty)\/(∃xs,SqT X.K H p xs/\k=!xs.isEmpty)\/∃kvs,H p=aa (.dK kvs)/\k=!kvs.isEmpty:=e
  rcases e' with⟨xs,hx,e'⟩ |⟨xs,hx,e'⟩ |⟨kvs,hx,e'⟩
  .subst e';obtain⟨its,r,pl,hz⟩:=I.list hx;have hlen:=r.length;exact wpAny_truthy_list pl.isList (by simp only[size_toArray];omega) ⟨H,I.tok _,by rw[Bz r];exact q⟩
  .subst e';obtain⟨its,r,pl,hz⟩:=I.tuple hx;have hlen:=r.length;exact truthy_tuple pl (by simp only[size_toArray];omega) ⟨H,I.tok _,by rw[Bz r];exact q⟩
  .subst e';obtain⟨hz,hS,vs,r,m⟩:kvs.length<=aS/\(p==gP)=ae/\∃vs,KV kvs vs/\s.heap.DictOf (iD X.prog X.w) p vs:=I.hok p _ hx;have hlen:kvs.length=vs.length:=nJ r
   exact wpAny_truthy_dict hS m (by omega) ⟨H,I.tok _,by rw[HA r];exact q⟩
 | _=>exact(show False from e).elim
theorem HC(ha:PE X a ta)(he:∀whole,isTrue a X.env whole=(do let v <- whole;iw a.pos;fG [v] (truthy v))):
  PT X a (λσ H Q=>ta σ H λx H'=>∃k,vS X.K x H' k/\Q k H'):=by
 intro pins s σ H Q I h;exact isTrue_plain (thn (ha pins s σ H _ I h) λv s1 ⟨x,H1,I1,r1,q1⟩=>HB pins s1 σ H1 x v Q I1 r1 q1) (he _)
theorem HD:OpR X (fU .Add) (λx y H Q=>∃i j,x=.str i/\y=.str j/\i.length+j.length<=aS/\Q (.str (i++j)) H):=by
 intro pins s σ H x y v u Q I rx ry h;obtain⟨i,j,rfl,rfl,hz,q⟩:=h;obtain⟨t,rfl⟩:=rx;obtain⟨t',rfl⟩:=ry;exact add_str (λt' tk=>⟨.str (i++j),H,I.tok _,⟨_,rfl⟩,q⟩) hz
theorem HE:OpR X (inplaceOp .Add) (λx y H Q=>∃i j,x=.str i/\y=.str j/\i.length+j.length<=aS/\Q (.str (i++j)) H):=by
 intro pins s σ H x y v u Q I rx ry h;obtain⟨i,j,rfl,rfl,hz,q⟩:=h;obtain⟨t,rfl⟩:=rx;obtain⟨t',rfl⟩:=ry;exact iadd_str (λt' tk=>⟨.str (i++j),H,I.tok _,⟨_,rfl⟩,q⟩) hz
theorem mm{x:V}(r:aG [x] us):∃u,us=[u]/\aF x u:=by
 cases r with
 |cons r1 r2=>cases r2;exact⟨_,rfl,r1⟩
theorem BA{x:V}(r:aG [x,y] us):∃u w',us=[u,w']/\aF x u/\aF y w':=by
 cases r with
 |cons r1 r2=>
  cases r2 with
  |cons r3 r4=>cases r4;exact⟨_,_,rfl,r1,r3⟩
structure mn(h:Heap)(x dx C:Addr)(mA:MGT):Prop where
 obj:h.get? x=aa (k5 C dx)
 ns:h.Ns1 dx mA
 ne:dx≠x
variable{mA:MGT}
theorem HF{dx:Addr}(n:h.Ns1 dx mA):∃od,h.get? dx=aa od/\∀name,W.lookIn name od=aa (mA name):=by
 obtain⟨o,es,ep,ho,hd,hk,_,hm⟩:=n;refine⟨o,ho,λname=>?_⟩;have e:=hm name;unfold nsFind findBy at e;rw[<- Array.find?_toList]at e;unfold W.lookIn;rw[hd];dsimp only;split
 .rename_i y q;rw[q]at e;exact congrArg aa e
 .rename_i q;rw[q]at e
  have a:es.toList.any (·.refKey)=ae:=by
   rw[any_eq_false];intro y hy;obtain⟨z,t,hkey⟩:=hk y (Array.mem_toList_iff.mp hy);simp[DictEntry.refKey,hkey]
  have a':¬es.toList.any (·.refKey)=ab:=by rw[a];exact bd
  rw[if_neg a'];exact congrArg aa e
theorem mn.look{x dx C:Addr}(I:mn h x dx C mA):∃od,W.InstAt h x (k5 C dx) C (aa od)/\∀name,W.lookIn name od=aa (mA name):=
 let ⟨od,ho,hl⟩:=HF I.ns
 ⟨od,⟨I.obj,rfl,rfl,ho⟩,hl⟩
variable{x C:Addr}{name:Str}{v:Value}
section
variable{s:ai}{dx:Addr}
theorem HG{expr:Bool}{Q:PRS}(X:K.In s.heap)(I:mn s.heap x dx C mA)(hg:j7 K C name=ab)(hh:k4 K C=ab)
 (ha:cQ K (.ref C) name=aa ac)(hv:mA name=aa v)(hv':W.handedIn v=ab)(h:Q v {s with toks:=s.toks+1}):
  wpAny (model prog w) A (getAttr (.ref x) name expr) Q E s:=by
 obtain⟨od,J,hl⟩:=I.look;exact W.get_value X J (W.plainGet_of hg).1 (W.findObj_own hh ha rfl (by rw[hl,hv])) hv' h
end
variable{f:Addr}{pl:Sem Bool}
section
variable{s:ai}{dx:Addr}
theorem HH{Q:Value×LVa->ai->Prop}(X:K.In s.heap)(I:mn s.heap x dx C mA)(hg:j7 K C name=ab)
 (hf:cQ K (.ref C) name=aa (aa (.ref f)))(ht:W.isFn K (.ref f)=ab)(hv:mA name=ac)(h:Q (.ref f,[.ref x]) s):
  wpAny (model prog w) A (jt (.ref x) name pl) Q E s:=by
 obtain⟨od,J,hl⟩:=I.look;exact W.method_fn X J (W.plainGet_of hg).1 (W.plainGet_of hg).2 hf (beq_iff_eq.mp ht) (by show(W.lookIn name od).map (·.isSome)=aa ae;rw[hl,hv];rfl) h
end
section
variable{s:ai}{dx:Addr}
theorem HI{ns:LSt}(X:K.In s.heap)(I:mn s.heap x dx C mA)
 (hs:cQ K (.ref C) "__setattr__"=aa (aa (.builtin "object.__setattr__")))(hp:me K C=ab)(ht:W.takerIn K C name=aa ac)(hh:k4 K C=ab)
 (hw:PySem.Within mA ns)(hsz:ns.length<=aS)
 (h:∀h',mn h' x dx C (λy=>if y=name then aa v else mA y)->gS dx s.heap h'->Q () {s with heap:=h',toks:=s.toks+2}):
  wpAny (model prog w) A (setAttr (.ref x) name v) Q E s:=by
 obtain⟨od,J,hl⟩:=I.look
 refine W.set_plain X J hs (W.osa_open (s:={s with toks:=s.toks+1}) (r:=ac) X J hp ht λb=>?_)
 obtain⟨cd,hc,hd'⟩:=W.any_some hh;have hx:s.heap.get? x=aa ⟨.ref C,aa dx,.plain,#[]⟩:=I.obj
 refine ap (aJ (ap (ap (wpAny_loadPart hx (ap (W.Looks.here (s:={s with toks:=s.toks+1}) (W.looks_clsIn X hc) ?_))))))
 rw[hd'];refine aJ (a:=aa dx) (ap (aJ (ap ?_)))
 refine wpAny_nsSet1 (s:={s with toks:=s.toks+1}) I.ns λh' hn2 hs2=>?_
 obtain⟨oD,esD,epD,hoD,hdD,hcD⟩:=hn2.count (PySem.Within.cons name v hw);refine ap (wpAny_lookBehind hoD (by rw[hdD];exact pastItsLine_dict (cZ hcD (by rw[b9];omega))) ?_);exact aJ (h _ ⟨(hs2.2 _ (gm I.ne)).trans I.obj,hn2,I.ne⟩ hs2)
end
variable{R:Result->ai->Prop}{kw:List (Str×Value)}
section
variable{s:ai}
theorem HJ{vs:LVa}(X:K.In s.heap)(hm:mf K C=ab)
 (hi:cQ K (.ref C) "__init__"=aa (aa (.ref f)))(hf:W.typeIn K (.ref f)=aa (.type "function"))
 (h:ix (model prog w) (A.under (.builtin "type.__call__" ⟨.ref C::vs,kw⟩)) (.call (.ref f) ⟨.ref (s.heap.objs.size + 1)::vs,kw⟩) (W.InitBack (s.heap.objs.size + 1) R)
   {s with heap:=(s.heap.push j6).push (k5 C s.heap.objs.size)}):
  ix (model prog w) A (.call (.ref C) ⟨vs,kw⟩) R s:=by
 obtain⟨hh,g,d,t,os⟩:=s;exact W.make_core (W.makes_of X hm) (W.looks_findIn X hi) (λself=>W.bind_fn X self hf) (.inl rfl) h
end
noncomputable def c5(f:Str)(v:V):List (Str×V)->List (Str×V)
 | []=>[(f,v)]
 |(g,x)::r=>if g=f then (g,v)::r else (g,x)::c5 f v r
theorem BC(f g:Str)(v:V):∀fs:List (Str×V),(c5 f v fs).lookup g=if g=f then aa v else fs.lookup g
 | []=>by
  show iW g [(f,v)]=_
  by_cases h:g=f
  .have hb:(g==f)=ab:=beq_iff_eq.mpr h;simp only[iW,hb,if_pos h]
  .have hb:(g==f)=ae:=beq_eq_false_iff_ne.mpr h
   simp only[iW,hb,if_neg h]
 |(k,x)::r=>by
  have ih:=BC f g v r;rw[show c5 f v ((k,x)::r)=(if k=f then (k,v)::r else (k,x)::c5 f v r)from rfl]
  by_cases hk:k=f
  .rw[if_pos hk]
   by_cases h:g=k
   .have hb:(g==k)=ab:=beq_iff_eq.mpr h;simp only[iW,hb,if_pos (h.trans hk)]
   .have hb:(g==k)=ae:=beq_eq_false_iff_ne.mpr h;simp only[iW,hb,if_neg (λe:g=f=>h (e.trans hk.symm))]
  .rw[if_neg hk]
   by_cases h:g=k
   .have hb:(g==k)=ab:=beq_iff_eq.mpr h;simp only[iW,hb,if_neg (λe:g=f=>hk (h.symm.trans e))]
   .have hb:(g==k)=ae:=beq_eq_false_iff_ne.mpr h;simp only[iW,hb];exact ih
theorem vT(f:Str)(v:V):∀fs:List (Str×V),f∈(c5 f v fs).map (·.1)/\∀g,g∈fs.map (·.1)->g∈(c5 f v fs).map (·.1)
 | []=>⟨by simp[c5],λg h=>by simp at h⟩
 |(k,x)::r=>by
  obtain⟨i1,i2⟩:=vT f v r;rw[show c5 f v ((k,x)::r)=(if k=f then (k,v)::r else (k,x)::c5 f v r)from rfl]
  by_cases hk:k=f
  .rw[if_pos hk];subst hk;exact⟨by simp,λg h=>by simpa using h⟩
  .rw[if_neg hk];refine⟨?_,λg h=>?_⟩
   .rw[bn];exact bv _ i1
   .rw[bn]at h ⊢
    rcases aW.mp h with e |e
    .exact aW.mpr (.inl e)
    .exact bv _ (i2 g e)
theorem BD(f:Str)(v:V):∀fs:List (Str×V),(c5 f v fs).length<=fs.length+1
 | []=>by simp[c5]
 |(k,x)::r=>by
  have ih:=BD f v r;rw[show c5 f v ((k,x)::r)=(if k=f then (k,v)::r else (k,x)::c5 f v r)from rfl]
  by_cases hk:k=f
  .rw[if_pos hk,b9,b9];omega
  .rw[if_neg hk,b9,b9];omega
variable{v:V}
theorem e9.some_of{o:Option Value}(r:e9 (aa v) o):∃u,o=aa u/\aF v u:=by
 cases o with
 |none=>exact(show False from r).elim
 |some u=>exact⟨u,rfl,r⟩
theorem e9.none_of{o:Option Value}(r:e9 ac o):o=ac:=by
 cases o with
 |none=>rfl
 |some u=>exact(show False from r).elim
theorem HK(r:aF v u):W.handedIn u=ab:=by
 cases v with
 |non=>cases (show u=iY from r);rfl
 |bl b=>cases (show u=gq b from r);rfl
 |int i=>obtain⟨t,e⟩:=(show ∃t,u=ma i t from r);cases e;rfl
 |str x=>obtain⟨t,e⟩:=(show ∃t,u=nM x t from r);cases e;rfl
 |byt b=>obtain⟨t,e⟩:=(show ∃t,u=Value.bytes b t from r);cases e;rfl
 |flt b=>obtain⟨t,e⟩:=(show ∃t,u=Value.float b t from r);cases e;rfl
 |ref a=>cases (show u=cI a from r);rfl
 |ty n=>cases (show u=j5 n from r);rfl
variable{a:Addr}{fs:List (Str×V)}
section
variable{dx:Addr}
theorem r9(hok:HOk P w H h)(e:H a=aa (.ins C dx fs)):∃mA,mn h a dx C mA/\(∀f,e9 (fs.lookup f) (mA f))/\PySem.Within mA (fs.map (·.1))/\fs.length<=1000/\H dx=aa (.own a):=by
 obtain⟨d,z,ne,ob,mA,n,r,q⟩:=(show cU P w H h a (.ins C dx fs)from hok a _ e);exact⟨mA,⟨ob,n,ne⟩,r,q,z,d⟩
end
structure Cls(K:aX)(C:Addr):Prop where
 pg:j7 K C nK=ab
 hd:k4 K C=ab
 po:me K C=ab
 sa:cQ K (.ref C) "__setattr__"=aa (aa (.builtin "object.__setattr__"))
theorem Cls.get(c:Cls K C)(f:Str):j7 K C f=ab:=c.pg
def dM(K:aX)(C:Addr)(f:Str):Prop:=cQ K (.ref C) f=aa ac
variable{f:Str}
theorem dM.taker(n:dM K C f):W.takerIn K C f=aa ac:=by
 unfold W.takerIn;rw[show cQ K (.ref C) f=aa ac from n];rfl
structure pM(K:aX)(C:Addr)(m:Str)(f:Addr):Prop where
 at_:cQ K (.ref C) m=aa (aa (.ref f))
 fn:W.isFn K (.ref f)=ab
 kp:i0 K (.ref f)=ab
section
variable{s:ai}{dx:Addr}
theorem HL{b:Bool}{Q:PRS}(I:Inv X pins σ H s)(e:H a=aa (.ins C dx fs))(c:Cls X.K C)(n:dM X.K C f)(l:fs.lookup f=aa v)
 (h:∀u s',Inv X pins σ H s'->aF v u->Q u s'):wpAny (model X.prog X.w) A (getAttr (.ref a) f b) Q E s:=by
 obtain⟨mA,O,r,_,_,_⟩:=r9 I.hok e;obtain⟨u,hu,ru⟩:=e9.some_of (v:=v) (o:=mA f) (by rw[<- l];exact r f);exact HG I.kIn O (c.get f) c.hd n hu (HK ru) (h u _ (I.tok _) ru)
end
variable{m:Str}
section
variable{s:ai}{dx:Addr}
theorem BE{g:Addr}{Q:Value×LVa->ai->Prop}(I:Inv X pins σ H s)(e:H a=aa (.ins C dx fs))(c:Cls X.K C)(k:pM X.K C m g)(l:fs.lookup m=ac)
 (h:Q (.ref g,[.ref a]) s):wpAny (model X.prog X.w) A (jt (.ref a) m pl) Q E s:=by
 obtain⟨mA,O,r,_,_,_⟩:=r9 I.hok e;have hn:mA m=ac:=e9.none_of (by rw[<- l];exact r m);exact HH I.kIn O (c.get m) k.at_ k.fn hn h
end
section
variable{s:ai}{dx:Addr}
theorem HM(I:Inv X pins σ H s)(e:H a=aa (.ins C dx fs))(c:Cls X.K C)(n:dM X.K C f)(hl:fs.length<1000)(ry:aF y u)
 (h:∀s',Inv X pins σ (upd H a (.ins C dx (c5 f y fs))) s'->Q () s'):wpAny (model X.prog X.w) A (setAttr (.ref a) f u) Q E s:=by
 obtain⟨mA,O,r,wi,_,ho⟩:=r9 I.hok e;have hz:(fs.map (·.1)).length<=aS:=by rw[aH,dL];omega
 refine HI I.kIn O c.sa c.po n.taker c.hd wi hz λh' O' sb=>h _ ?_;have hd:∃o,h'.get? dx=aa o:=let ⟨o,_,_,e',_⟩:=O'.ns;⟨o,e'⟩;refine I.write (x:=a) (e:=dx) (by rw[e];exact iC) (.inr ho) (λb q hb z=>(sb.2 b hb).trans z) hd ?_;refine⟨by rw[aK O.ne];exact ho,?_,O.ne,O'.obj,_,O'.ns,λg=>?_,λg hg=>?_⟩
 .have:=BD f y fs;omega
 .show e9 ((c5 f y fs).lookup g) (if g=f then aa u else mA g);rw[BC]
  by_cases q:g=f
  .rw[if_pos q,if_pos q];exact ry
  .rw[if_neg q,if_neg q];exact r g
 .by_cases q:g=f
  .rw[q];exact(vT f y fs).1
  .refine(vT f y fs).2 g (wi g λz=>hg ?_);show(if g=f then aa u else mA g)=ac;rw[if_neg q];exact z
end
section
variable{s:ai}
theorem Inv.made(I:Inv X pins σ H s):Inv X pins σ (upd (upd H s.heap.objs.size (.own (s.heap.objs.size+1))) (s.heap.objs.size+1) (.ins C s.heap.objs.size []))
  {s with heap:=(s.heap.push j6).push (k5 C s.heap.objs.size)}:=by
 have e1:(s.heap.push j6).get? s.heap.objs.size=aa j6:=dn s.heap rfl
 have e2:((s.heap.push j6).push (k5 C s.heap.objs.size)).get? (s.heap.objs.size+1)=aa (k5 C s.heap.objs.size):=by
  have:=dn (s.heap.push j6) (o:=k5 C s.heap.objs.size) rfl
  rwa [iz]at this
 have e3:(s.heap.push j6).Ns s.heap.objs.size (λ_=>ac):=⟨j6,#[],_,e1,rfl,(λe he=>absurd he (by simp)),λ_=>rfl⟩;have I1:=I.laid (a:=s.heap.objs.size) (o:=.own (s.heap.objs.size+1)) (h':=s.heap.push j6) (t':=s.toks) (λb u q=>bT _ q) (aL _) ⟨_,e1⟩;refine I1.laid (a:=s.heap.objs.size+1) (o:=.ins C s.heap.objs.size []) (t':=s.toks) (λb u q=>bT _ q) (Nat.le_of_eq (iz _ _)) ?_;have ne:s.heap.objs.size≠s.heap.objs.size+1:=ca (dY _);refine⟨by rw[aK ne,be],da _,ne,e2,λ_=>ac,(Heap.Ns1.of_empty e3).at λo q=>bT _ q,λ_=>iC,λy hy=>absurd rfl hy⟩
end
variable{env:Env}
theorem HN{s:ai}{Q:PRS}(hb:nF e f env (eval e env)=eval e env)
 (h:wpAny (model prog w) A (eval e env) (λo s₁=>wpAny (model prog w) A (getAttr o f ab) Q E s₁) E s):wpAny (model prog w) A (eval (.Attribute e f pos) env) Q E s:=
 Attribute_any_ h (by rw[arm_eval_Attribute,hb])
def HP(K:aX)(ta:TE)(f:Str):TE:=λσ H Q=>ta σ H λx H1=>∃a C dx fs v,x=.ref a/\H1 a=aa (.ins C dx fs)/\Cls K C/\dM K C f/\fs.lookup f=aa v/\Q v H1
def BF(K:aX)(ta tv:TE)(f:Str):TS:=λD σ H=>tv σ H λy H1=>ta σ H1 λx H2=>∃a C dx fs,x=.ref a/\H2 a=aa (.ins C dx fs)/\Cls K C/\dM K C f/\fs.length<1000 /\
 D.nx σ (upd H2 a (.ins C dx (c5 f y fs)))
theorem BG(he:PE X e ta)(hb:nF e f X.env (eval e X.env)=eval e X.env):PE X (.Attribute e f pos) (HP X.K ta f):=by
 intro pins s σ H Q I h;refine HN hb (thn (he pins s σ H _ I h) λu s1 q_=>?_);obtain⟨x,H1,I1,rx,a,C,dx,fs,v,ex,ea,c,n,l,q⟩:=q_;subst ex;obtain rfl:u=cI a:=rx;exact HL I1 ea c n l λu' s2 I2 ru=>⟨v,H1,I2,ru,q⟩
variable{value:Expr}{tv:TE}
section
variable{o:Expr}
theorem kf(ha:PE X o ta)(hv:PE X value tv)(hs:gn value (aa (.Attribute o f pos')) pos.line X.env=pure ae):PS X (.Assign [.Attribute o f pos'] value pos) (BF X.K ta tv f):=by
 intro pins s σ H D I h;refine plainObj_wpAny_Assign_Attribute (thn (hv pins s σ H _ I h) λu s1 ⟨y,H1,I1,ry,q⟩=>thn (ha pins s1 σ H1 _ I1 q) λov s2 q_=>?_) hs;obtain⟨x,H2,I2,rx,a,C,dx,fs,ex,ea,c,n,l,q2⟩:=q_;subst ex;obtain rfl:ov=cI a:=rx;exact HM I2 ea c n l ry λs3 I3=>⟨σ,_,I3,q2⟩
end
inductive gV(K:aX)(H:Hp):V->Value->Prop where
 |non:gV K H .non (.type "NoneType")
 |bl (x:Bool):gV K H (.bl x) (.type "bool")
 |int (i:Int):gV K H (.int i) (.type "int")
 |str (x:Str):gV K H (.str x) (.type "str")
 |flt (x:UInt64):gV K H (.flt x) (.type "float")
 |lst {a:Addr} {xs:List V} (e:H a=aa (.lst xs)):gV K H (.ref a) (.type "list")
 |frz {a:Addr} {o:Obj} {xs:List V} (e:H a=aa (.frz o (.lst xs))):gV K H (.ref a) (.type "list")
 |tup {a:Addr} {xs:List V} (e:H a=aa (.tup xs)):gV K H (.ref a) (.type "tuple")
 |dK {a:Addr} {kvs:List (Key×V)} (e:H a=aa (.dK kvs)):gV K H (.ref a) (.type "dict")
 |dT {a:Addr} {kvs:List (List Key×V)} (e:H a=aa (.dT kvs)):gV K H (.ref a) (.type "dict")
 |ins {a C dx:Addr} {fs:List (Str×V)} (e:H a=aa (.ins C dx fs)) (cl:Cls K C) (ha:cQ K (.ref C) "__class__"=aa (aa (.builtin "object.__class__")))
   (hn:W.specialIn K (.builtin "object.__class__") "__get__"=aa (aa (.builtin "getset_descriptor.__get__"))) (htk:W.takesIn K (.builtin "object.__class__")=aa ab)
   (hm:W.mroIn K C (.type "object")=aa ab):gV K H (.ref a) (.ref C)
variable{Q:PRS}{c:Value}{b:Bool}
section
variable{s:ai}
theorem HQ{x:V}{u t:Value}(I:Inv X pins σ H s)(rx:aF x u)(ty:gV X.K H x t)(e:W.kitOne X.K t c=aa b)(h:∀tk,Q (.bool b) {s with toks:=tk}):
  wpAny (model X.prog X.w) A (call (.builtin "isinstance") [u,c]) Q E s:=by
 cases ty with
 |non=>cases (show u=iY from rx);exact iZ W.kitx_none I.kIn iC e (λz=>nomatch z) h
 |bl y=>cases (show u=gq y from rx);exact iZ W.kitx_bool I.kIn iC e (λz=>nomatch z) h
 |int i=>obtain⟨t,q⟩:=(show ∃t,u=ma i t from rx);cases q;exact iZ W.kitx_int I.kIn iC e (λz=>nomatch z) h
 |str y=>obtain⟨t,q⟩:=(show ∃t,u=nM y t from rx);cases q;exact iZ W.kitx_str I.kIn iC e (λz=>nomatch z) h
 |flt y=>obtain⟨t,q⟩:=(show ∃t,u=Value.float y t from rx);cases q;exact iZ W.kitx_float I.kIn iC e (λz=>nomatch z) h
 | @lst a xs ea=>
  cases (show u=cI a from rx);obtain⟨_,_,n,_,h1⟩:=(show cU X.prog X.w H s.heap a (.lst xs)from I.hok a _ ea)
  exact iZ W.kitx_list I.kIn ⟨_,h1,rfl⟩ e (λz=>nomatch z) h
 | @frz a ob xs ea=>
  cases (show u=cI a from rx);obtain⟨_,_,_,n,_,h1⟩:=(show cU X.prog X.w H s.heap a (.frz ob (.lst xs))from I.hok a _ ea)
  exact iZ W.kitx_list I.kIn ⟨_,h1,rfl⟩ e (λz=>nomatch z) h
 | @tup a xs ea=>
  cases (show u=cI a from rx);obtain⟨_,_,_,p⟩:=(show cU X.prog X.w H s.heap a (.tup xs)from I.hok a _ ea);obtain⟨o,h1,h2,_⟩:=p
  exact iZ W.kitx_tuple I.kIn ⟨o,h1,h2⟩ e (λz=>nomatch z) h
 | @dK a kvs ea=>
  cases (show u=cI a from rx);obtain⟨_,_,vs,_,p⟩:=(show cU X.prog X.w H s.heap a (.dK kvs)from I.hok a _ ea);obtain⟨o,es,ep,h1,h2,_⟩:=p
  exact iZ W.kitx_dict I.kIn ⟨o,h1,h2.1⟩ e (λz=>nomatch z) h
 | @dT a kvs ea=>
  cases (show u=cI a from rx);obtain⟨_,_,xs,_,o,es,ep,h1,h2,_⟩:=(show cU X.prog X.w H s.heap a (.dT kvs)from I.hok a _ ea)
  exact iZ W.kitx_dict I.kIn ⟨o,h1,h2.1⟩ e (λz=>nomatch z) h
 | @ins a C dx fs ea cl ha hn htk hm=>
  cases (show u=cI a from rx);obtain⟨mA,O,_⟩:=r9 I.hok ea;obtain⟨od,J,_⟩:=O.look;exact iZ (W.kitx_own (cl.get _) cl.hd ha hn htk hm) I.kIn J e (λz=>nomatch z) h
end
structure bG(k:Nat)(A:cP):Prop where
 hd:A.handled=ac
 dp:A.depth+3*k+5<recursionLimit
 un:A.units+16*k+200<cLine
theorem bG.mono{j k:Nat}(r:bG k A)(h:j<=k):bG j A:=⟨r.hd,by have:=r.dp;omega,by have:=r.un;omega⟩
theorem bG.deeper{k:Nat}(r:bG (k+1) A)(env:Env):bG k (A.deeper env):=
 ⟨r.hd,by have:=r.dp;show A.depth+1+3*k+5<_;omega,by have:=r.un;show A.units+3+16*k+200<_;omega⟩
theorem HR:(A.under (.builtin "type.__call__" ⟨.ref C::us,kw⟩)).depth=A.depth+1:=by
 first |rfl |simp[cP.under,Code.weight,Code.isCreation,Code.isGuard,Code.isCaller,Code.frames,Code.isFrame,guardIds]
theorem HS:(A.under (.builtin "type.__call__" ⟨.ref C::us,kw⟩)).units=A.units+1:=by
 first |rfl |simp[cP.under,Code.cUnits,Code.frames,Code.isFrame]
theorem bG.make{k:Nat}(r:bG (k+1) A)(C:Addr)(us:LVa)(kw:List (Str×Value)):bG k (A.under (.builtin "type.__call__" ⟨.ref C::us,kw⟩)):=
 ⟨r.hd,by have:=r.dp;rw[HR];omega,by have:=r.un;rw[HS];omega⟩
theorem bG.depth{k:Nat}(r:bG k A):A.depth<recursionLimit:=by have:=r.dp;omega
theorem bG.units{k:Nat}(r:bG k A):A.units+64<cLine:=by have:=r.un;omega
def i5:TA:=λ_ H Q=>Q [] H
def k7(ta:TE)(tr:TA):TA:=λσ H Q=>ta σ H λx H1=>tr σ H1 λxs H2=>Q (x::xs) H2
theorem c6:PA X [] i5:=λ_ _ _ _ H Q I h=>vv ⟨[],H,I,.nil,h⟩
section
variable{t:TA}
theorem du(ha:PE X e te)(hr:PA X es t)(hs:StE X e es:=by rfl):PA X (e::es) (k7 te t):=by
 intro pos pins s σ H Q I h;rw[hs];show wpAny _ _ (spliced ((ae,eval e X.env)::c4 pos (ba es X.env))) _ _ s;refine kX (thn (ha pins s σ H _ I h) λu s1 q_=>?_);obtain⟨x,H1,I1,r1,q1⟩:=q_;exact thn (hr pos pins s1 σ H1 _ I1 q1) λus s2 ⟨xs,H2,I2,r2,q2⟩=>⟨x::xs,H2,I2,.cons r1 r2,q2⟩
end
def HU(t:TA):TE:=λσ H Q=>t σ H λxs H1=>xs.length<=aS/\∀p,H1 p=ac->Q (.ref p) (upd H1 p (.tup xs))
def vU(t:TA):TE:=λσ H Q=>t σ H λxs H1=>xs.length<=aS/\∀p,H1 p=ac->Q (.ref p) (upd H1 p (.lst xs))
section
variable{t:TA}
theorem HV{x1}(h:PA X es t):PE X (.Tuple es x1 pos) (HU t):=by
 intro pins s σ H Q I hq;refine wpAny_Tuple_spliced (thn (h pos pins s σ H _ I hq) λus s1 ⟨xs,H1,I1,r,z,q⟩=>⟨by rw[<- r.length];exact z,?_⟩);have hf:H1 s1.heap.objs.size=ac:=I1.hok.fresh (aL _);refine⟨.ref s1.heap.objs.size,upd H1 s1.heap.objs.size (.tup xs),I1.laid (t':=s1.toks) (λb u e=>bT _ e) (aL _) ?_,rfl,q _ hf⟩;exact⟨z,us,r,⟨_,dn _ rfl,rfl,_,rfl⟩⟩
end
section
variable{t:TA}
theorem sd(h:PA X es t):PE X (.List es pos) (vU t):=by
 intro pins s σ H Q I hq;refine wpAny_List_spliced (thn (h pos pins s σ H _ I hq) λus s1 ⟨xs,H1,I1,r,z,q⟩=>⟨by rw[<- r.length];exact z,?_⟩);have hf:H1 s1.heap.objs.size=ac:=I1.hok.fresh (aL _);refine⟨.ref s1.heap.objs.size,upd H1 s1.heap.objs.size (.lst xs),I1.laid (t':=s1.toks) (λb u e=>bT _ e) (aL _) ?_,rfl,q _ hf⟩;exact⟨z,us,0,r,dn _ rfl⟩
end
noncomputable abbrev Sp:=List V->Hp->VK->XK->Prop
noncomputable abbrev CXT:=List Env->Hp->ai->XK->PRS
structure mo(P:cH)(w:World)(K:aX)(mg:MGT)(base:Heap)(A:cP)(outer:List Env)(s:ai)(H:Hp):Prop where
 frames:A.frames=aa outer
 mod:Mod K mg base
 bs:∀b o,base.get? b=aa o->s.heap.get? b=aa o/\H b=ac
 bsz:base.objs.size<=s.heap.objs.size
 funs:s.heap.FunFrames base outer
 frf:∀b∈frs outer,H b=ac
 hok:HOk P w H s.heap
 bare:j2 s.gens
def CE(outer:List Env)(P:cH)(w:World)(H:Hp)(s:ai)(Q:VK)(u:Value)(s':ai):Prop:=
 ∃v H',s'.os=s.os/\j2 s'.gens/\Un (frs outer) [] H H' s.heap s'.heap/\HOk P w H' s'.heap/\aF v u/\Q v H'
def CR(CX:CXT)(outer:List Env)(P:cH)(w:World)(H:Hp)(s:ai)(Q:VK)(E:XK)(r:Result)(s':ai):Prop:=
 match r with
 |.ok (.ret u)=>CE outer P w H s Q u s'
 |.ok _=>False
 |.error e=>CX outer H s E e s'
structure df(P:cH)(w:World)(K:aX)(mg:MGT)(base:Heap)(CX:CXT)(k:Nat)(f:Addr)(fd:eB)(ps:LSt)(sp:Sp):Prop where
 len:∀vs H Q E,sp vs H Q E->vs.length=ps.length
 run:∀(A:cP) (outer:List Env) (s:ai) (H:Hp) (args:Args) (us:LVa) (vs:List V) (Q:VK) (E:XK),bG k A->mo P w K mg base A outer s H->BindsTo s fd args (ps.zip us)->aG vs us->sp vs H Q E ->
  ix (model P w) A (.call (.ref f) args) (CR CX outer P w H s Q E) s
variable{mg:MGT}{base:Heap}{CX:CXT}{f:Addr}{fd:eB}{ps:LSt}{sp:Sp}
theorem df.imp{k:Nat}{sp':Sp}(F:df P w K mg base CX k f fd ps sp)
 (h:∀vs H Q E,sp' vs H Q E->sp vs H Q E):df P w K mg base CX k f fd ps sp':=
 ⟨λvs H Q E q=>F.len vs H Q E (h _ _ _ _ q),λA outer s H args us vs Q E hr he hb hv hs=>F.run A outer s H args us vs Q E hr he hb hv (h _ _ _ _ hs)⟩
variable{outer:List Env}
theorem mo.make{s:ai}(e:mo P w K mg base A outer s H)(C:Addr)(us:LVa)(kw:List (Str×Value)):
  mo P w K mg base (A.under (.builtin "type.__call__" ⟨.ref C::us,kw⟩)) outer s H:=⟨by first |exact e.frames |(simpa[cP.under,Code.envs,Code.isFrame,pushEnvs]using e.frames),e.mod,e.bs,e.bsz,e.funs,e.frf,e.hok,e.bare⟩
section
variable{s:ai}
theorem Inv.env0(I:Inv X pins σ H s):mo X.prog X.w X.K X.mg X.base X.A X.stack s H:=
 ⟨I.ok.frames,I.ok.mod,I.bs,cZ I.ok.bsz I.sz,I.stack,I.stkFree,I.hok,I.bare⟩
end
variable{Q:VK}
section
variable{s:ai}
theorem Inv.after(I:Inv X pins σ H s)(h:CE X.stack X.prog X.w H s Q u s'):EP X pins σ Q u s':=by
 obtain⟨v,H',os,bare,un,hok,r,q⟩:=h;obtain⟨hh,g,d,t,os'⟩:=s';obtain rfl:os'=s.os:=os;exact⟨v,H',I.call (h':=hh) (g':=g) (d':=d) (t':=t) (ch:=[]) un hok bare (λb z=>absurd z (by simp)),r,q⟩
end
def HW(sp:Sp)(dvs:List V)(E:XK)(t:TA):TE:=λσ H Q=>t σ H λvs H1=>sp (vs++dvs) H1 Q E
def se(C:Addr)(m:Str)(sp:Sp)(dvs:List V)(E:XK)(ta:TE)(t:TA):TE:=λσ H Q=>ta σ H λx H1=>∃a dx fs,x=.ref a/\H1 a=aa (.ins C dx fs)/\fs.lookup m=ac /\
 t σ H1 λvs H2=>sp (x::(vs++dvs)) H2 Q E
def BH(C:Addr)(sp:Sp)(dvs:List V)(E:XK)(t:TA):TE:=λσ H Q=>t σ H λvs H1=>∀x dx,H1 x=ac->H1 dx=ac->dx≠x ->
 sp (.ref x::(vs++dvs)) (upd (upd H1 dx (.own x)) x (.ins C dx [])) (λv H2=>v=.non/\Q (.ref x) H2) E
def gr(K:aX)(fd:eB)(ps:LSt)(ds:LVa):Prop:=
 ∀(s:ai) (us:LVa),K.In s.heap->(us++ds).length=ps.length->BindsTo s fd ⟨us,[]⟩ (ps.zip (us++ds))
theorem gr.all(h:∀us:LVa,us.length=ps.length->bindArgs fd ⟨us,[]⟩=pure (ps.zip us)):gr K fd ps []:=λs us _ hl=>by
 rw[cr]at hl ⊢;exact .of_eq (h us hl)
def mq(CX:CXT)(X:Cx)(E:XK):Prop:=∀(pins:PNS) (σ:St) (H:Hp) (s:ai) (e:Value) (s':ai),Inv X pins σ H s->CX X.stack H s E e s'->X.xe e s'
variable{dvs vs:List V}{ds:LVa}{E:XK}
section
variable{k:Nat}
theorem vV{s:ai}(F:df X.prog X.w X.K X.mg X.base CX k f fd ps sp)(hr:bG k X.A)(hb:gr X.K fd ps ds)(hd:aG dvs ds)(hx:mq CX X E)
 (I:Inv X pins σ H s)(r:aG vs us)(h:sp (vs++dvs) H Q E):wpAny (model X.prog X.w) X.A (call (.ref f) us) (EP X pins σ Q) X.xe s:=by
 have r2:aG (vs++dvs) (us++ds):=r.append hd;have hl:(us++ds).length=ps.length:=by rw[<- r2.length];exact F.len _ _ _ _ h
 refine wpAny_call (nH (F.run X.A X.stack s H ⟨us,[]⟩ (us++ds) (vs++dvs) Q E hr I.env0 (hb s us I.kIn hl) r2 h) λr s' hq=>?_)
 cases r with
 |error e=>exact hx pins σ H s e s' I hq
 |ok fl=>
  cases fl with
  |ret u=>exact I.after hq
  |next=>exact hE hq
  |brk=>exact hE hq
  |cont=>exact hE hq
end
variable{x:Str}{p:Pos}
section
variable{k:Nat}{t:TA}
theorem pN(F:df X.prog X.w X.K X.mg X.base CX k f fd ps sp)(hr:bG k X.A)(hg:Gl X x)(hm:X.mg x=aa (.ref f))(hk:i0 X.K (.ref f)=ab)(hb:gr X.K fd ps ds)(hd:aG dvs ds)(hx:mq CX X E)
 (ha:PA X (e::es) t)(hdb:NDb x:=by decide)(he:StE X e es:=by rfl)(hpl:BkE X pos es:=by rfl):
  PE X (.Call (.Name x p) (e::es) [] pos) (HW sp dvs E t):=by
 intro pins s σ H Q I h;refine lU (Bn I hg hm ?_ hdb);refine W.callWith_K (h₀:=X.base) I.ok.mod.kin hk (thn (ha pos pins s σ H _ I h) λus s1 ⟨vs,H1,I1,r,q⟩=>⟨I1.kIn,?_⟩) he hpl;exact vV F hr hb hd hx I1 r q
end
variable{apos:Pos}
section
variable{k:Nat}{o:Expr}{t:TA}
theorem vW(he:PE X o ta)(c:Cls X.K C)(hm:pM X.K C m f)(F:df X.prog X.w X.K X.mg X.base CX k f fd ps sp)(hr:bG k X.A)(hb:gr X.K fd ps ds)(hd:aG dvs ds)(hx:mq CX X E)(ha:PA X (e::es) t)
 (hst:StE X e es:=by rfl)(hpl:BkE X pos es:=by rfl)
 (ht:eval (.Call (.Attribute o m apos) (e::es) [] pos) X.env=(do
   let ov <- eval o X.env
   iw apos.atName
   let (f,first) <- fG [ov] (jt ov m pl)
   kU pos f first (c4 pos (ba (e::es) X.env)) (ju pos (jr [] X.env))):=by rfl):
  PE X (.Call (.Attribute o m apos) (e::es) [] pos) (se C m sp dvs E ta t):=by
 intro pins s σ H Q I h;refine W.methodCall_KW (pl:=pl) (thn (he pins s σ H _ I h) λu s1 q_=>?_) ht;obtain⟨x,H1,I1,rx,a,dx,fs,ex,ea,l,q⟩:=q_;subst ex;obtain rfl:u=cI a:=rx;refine BE I1 ea c hm l ?_
 refine W.callWith_K (first:=[.ref a]) (h₀:=X.base) I.ok.mod.kin hm.kp (thn (ha pos pins s1 σ H1 _ I1 q) λus s2 ⟨vs,H2,I2,r,q2⟩=>⟨I2.kIn,?_⟩) hst hpl
 exact vV (us:=.ref a::us) (vs:=.ref a::vs) F hr hb hd hx I2 (.cons rfl r) q2
end
section
variable{k:Nat}{o:Expr}
theorem vX(he:PE X o ta)(c:Cls X.K C)(hm:pM X.K C m f)(F:df X.prog X.w X.K X.mg X.base CX k f fd ps sp)(hr:bG k X.A)(hb:gr X.K fd ps ds)(hd:aG dvs ds)(hx:mq CX X E)
 (ht:eval (.Call (.Attribute o m apos) [] [] pos) X.env=(do
   let ov <- eval o X.env
   iw apos.atName
   let (f,first) <- fG [ov] (jt ov m pl)
   kU pos f first (c4 pos (ba [] X.env)) (ju pos (jr [] X.env))):=by rfl):
  PE X (.Call (.Attribute o m apos) [] [] pos) (se C m sp dvs E ta i5):=by
 intro pins s σ H Q I h;refine W.methodCall_KW (pl:=pl) (thn (he pins s σ H _ I h) λu s1 q_=>?_) ht;obtain⟨x,H1,I1,rx,a,dx,fs,ex,ea,l,q⟩:=q_;subst ex;obtain rfl:u=cI a:=rx;refine BE I1 ea c hm l ?_
 exact W.callWith_K0 (first:=[.ref a]) I1.kIn hm.kp (vV (us:=[.ref a]) (vs:=[.ref a]) F hr hb hd hx I1 (.cons rfl .nil) q)
end
structure Mk(K:aX)(C f:Addr):Prop where
 makes:mf K C=ab
 init:cQ K (.ref C) "__init__"=aa (aa (.ref f))
 fn:W.isFn K (.ref f)=ab
 kp:i0 K (.ref C)=ab
section
variable{k:Nat}
theorem HX{s:ai}(M:Mk X.K C f)(F:df X.prog X.w X.K X.mg X.base CX k f fd ps sp)(hr:bG (k+1) X.A)(hb:gr X.K fd ps ds)(hd:aG dvs ds)
 (hx:mq CX X E)(I:Inv X pins σ H s)(r:aG vs us)
 (h:∀x dx,H x=ac->H dx=ac->dx≠x->sp (.ref x::(vs++dvs)) (upd (upd H dx (.own x)) x (.ins C dx [])) (λv H2=>v=.non/\Q (.ref x) H2) E):
  wpAny (model X.prog X.w) X.A (call (.ref C) us) (EP X pins σ Q) X.xe s:=by
 have hq:=h (s.heap.objs.size+1) s.heap.objs.size (I.hok.fresh (jZ _)) (I.hok.fresh (aL _)) (ca (dY _));have I2:=Inv.made (C:=C) I;have r2:aG (V.ref (s.heap.objs.size+1)::(vs++dvs)) (cI (s.heap.objs.size+1)::(us++ds)):=.cons rfl (r.append hd)
 have hl:(cI (s.heap.objs.size+1)::us++ds).length=ps.length:=by
  have e:=r2.length;rw[F.len _ _ _ _ hq]at e;exact e.symm
 refine wpAny_call (HJ (f:=f) I.kIn M.makes M.init (beq_iff_eq.mp M.fn) (nH (F.run _ X.stack _ _ ⟨cI (s.heap.objs.size + 1)::us,[]⟩ (cI (s.heap.objs.size + 1)::(us++ds)) _ _ E (hr.make C us [])
  (I2.env0.make C us []) (hb _ (cI (s.heap.objs.size+1)::us) I2.kIn hl) r2 hq) λr s' hq'=>?_))
 cases r with
 |error e=>exact hx pins σ _ _ e s' I2 hq'
 |ok fl=>
  cases fl with
  |ret u=>
   obtain⟨v,H',I3,rv,ev,q3⟩:=I2.after hq';subst ev
   exact⟨rv,⟨V.ref (s.heap.objs.size+1),H',I3,rfl,q3⟩⟩
  |next=>exact hE hq'
  |brk=>exact hE hq'
  |cont=>exact hE hq'
end
section
variable{k:Nat}{t:TA}
theorem BI(M:Mk X.K C f)(F:df X.prog X.w X.K X.mg X.base CX k f fd ps sp)(hr:bG (k+1) X.A)(hg:Gl X x)(hm:X.mg x=aa (.ref C))(hb:gr X.K fd ps ds)(hd:aG dvs ds)(hx:mq CX X E)
 (ha:PA X (e::es) t)(hdb:NDb x:=by decide)(he:StE X e es:=by rfl)(hpl:BkE X pos es:=by rfl):
  PE X (.Call (.Name x p) (e::es) [] pos) (BH C sp dvs E t):=by
 intro pins s σ H Q I h;refine lU (Bn I hg hm ?_ hdb);refine W.callWith_K (h₀:=X.base) I.ok.mod.kin M.kp (thn (ha pos pins s σ H _ I h) λus s1 ⟨vs,H1,I1,r,q⟩=>⟨I1.kIn,?_⟩) he hpl;exact HX M F hr hb hd hx I1 r q
end
structure aM(N P:LSt)(sc:Scope):Prop where
 kind:sc.kind=.function
 co:sc.isCoroutine=ae
 gen:sc.isGenerator=ae
 nd:N.Nodup
 pre:N.take P.length=P
 par:∀x∈P,sc.names.lookup x=aa .local\/sc.names.lookup x=aa .cell
 nofree:∀y∈sc.names,y.2≠.free
theorem BJ{kindOf:Str->Option fV}{x:Str}:∀{binds:List (Str×Value)} {m:MGT},(∀v,(x,v)∉binds)->bindL kindOf binds m x=m x
 | [],_,_=>rfl
 |(n,v)::r,m,h=>by
  unfold bindL;rw[BJ λw hw=>h w (bv _ hw)];split
  .have:x≠n:=by rintro rfl;exact h v aO
   simp[this]
  .rfl
theorem BK{kindOf:Str->Option fV}{x:Str}:∀{binds:List (Str×Value)} {m:MGT},(∀v,(x,v)∉binds)->bindC kindOf binds m x=m x
 | [],_,_=>rfl
 |(n,v)::r,m,h=>by
  unfold bindC;rw[BK λw hw=>h w (bv _ hw)];split
  .rfl
  .have:x≠n:=by rintro rfl;exact h v aO
   simp[this]
theorem BL{kindOf:Str->Option fV}{x:Str}{v:Value}:∀{P:LSt} {vs:LVa} {i:Nat} {m:MGT},P.Nodup->P[i]?=aa x->vs[i]?=aa v->kindOf x=aa .local ->
  bindL kindOf (P.zip vs) m x=aa v
 | [],_,_,_,_,h,_,_=>by simp at h
 | _::_,[],_,_,_,_,h,_=>by simp at h
 |p::P,w::vs,0,m,nd,h1,h2,hk=>by
  simp at h1 h2;subst h1;subst h2;show bindL kindOf ((p,w)::P.zip vs) m p=_;unfold bindL;rw[BJ λv hv=>(cY.mp nd).1 (of_mem_zip hv).1,if_pos hk]
  simp
 |p::P,w::vs,i+1,m,nd,h1,h2,hk=>by
  show bindL kindOf ((p,w)::P.zip vs) m x=_;unfold bindL;exact BL (i:=i) (cY.mp nd).2 (by simpa using h1) (by simpa using h2) hk
theorem BM{kindOf:Str->Option fV}{x:Str}{v:Value}:∀{P:LSt} {vs:LVa} {i:Nat} {m:MGT},P.Nodup->P[i]?=aa x->vs[i]?=aa v->kindOf x≠aa .local ->
  bindC kindOf (P.zip vs) m x=aa v
 | [],_,_,_,_,h,_,_=>by simp at h
 | _::_,[],_,_,_,_,h,_=>by simp at h
 |p::P,w::vs,0,m,nd,h1,h2,hk=>by
  simp at h1 h2;subst h1;subst h2;show bindC kindOf ((p,w)::P.zip vs) m p=_;unfold bindC;rw[BK λv hv=>(cY.mp nd).1 (of_mem_zip hv).1,if_neg hk]
  simp
 |p::P,w::vs,i+1,m,nd,h1,h2,hk=>by
  show bindC kindOf ((p,w)::P.zip vs) m x=_;unfold bindC;exact BM (i:=i) (cY.mp nd).2 (by simpa using h1) (by simpa using h2) hk
noncomputable def start(N:LSt)(vs:List V):St:=vs.map aa++gK (N.length-vs.length) ac
noncomputable def i6(CX:CXT)(P:cH)(w:World)(K:aX)(mg:MGT)(base:Heap)(N:LSt)(qual:Str)(scope:Scope)(f:Addr)(cd:Value)(A:cP)(outer:List Env)(s:ai)(H:Hp)(E:XK):Cx where
 prog:=P
 w:=w
 K:=K
 mg:=mg
 base:=base
 A:=A.deeper (gO qual scope s.heap.objs.size f cd)
 N:=N
 s₀:=s
 H₀:=H
 env:=gO qual scope s.heap.objs.size f cd
 outer:=outer
 stack:=gO qual scope s.heap.objs.size f cd::outer
 ex:=[]
 calm:=ab
 fn:=λ_=>ab
 pn:=[]
 xe:=λe s'=>wpAny (model P w) (A.deeper (gO qual scope s.heap.objs.size f cd)) (leaving (gO qual scope s.heap.objs.size f cd) e) (λ_ s''=>CX outer H s E e s'') (λe' s''=>CX outer H s E e' s'') s'
variable{n:Nat}
theorem BN{sc:Scope}(h:sc.names.lookup x=aa .cell):∃c,(cellsFrom n sc.names []).lookup x=aa c:=by
 have q:=W.cellsFrom_some sc.names n [] (.inl h);exact Option.isSome_iff_exists.mp q
variable{qual:Str}{scope:Scope}
theorem HY{cd:Value}{s s1:ai}
 (S:aM N ps scope)(hd:A.handled=ac)(e0:mo P w K mg base A outer s H)(hl:vs.length=ps.length)(r:aG vs us)
 (x:InCallC s s.heap.objs.size (bindL (gO qual scope s.heap.objs.size f cd).kindOf (ps.zip us) λ_=>ac) (cellsFrom (s.heap.objs.size+1) scope.names []) (bindC (gO qual scope s.heap.objs.size f cd).kindOf (ps.zip us) λ_=>ac) s1):
  Inv (i6 CX P w K mg base N qual scope f cd A outer s H E) [] (start N vs) H s1:=by
 have hpl:ps.length<=N.length:=by have:=congrArg List.length S.pre;rw[lM]at this;omega
 obtain⟨h1,tk,rfl,hk⟩:=x.done;have noA:∀b:Addr,b∉(i6 CX P w K mg base N qual scope f cd A outer s H E).ex:=λb z=>absurd (show b∈([]:LAd)from z) (by simp)
 refine⟨⟨e0.mod,S.kind,rfl,rfl,aL _,λy z c h1 h2=>?_,λy hy=>?_,λy c _ h=>?_,λ_=>hd,cP.frames_deeper e0.frames,.inr ⟨rfl,rfl⟩,λb z=>absurd z (noA b),e0.bs,e0.bsz,λb _ _=>noA b,λb z=>absurd z (noA b),e0.funs,e0.frf⟩,
  rfl,e0.bare,Un.kept hk,⟨_,x.toInCall.ns,λi y v h1 h2 h3=>?_⟩,λy c h=>⟨_,x.cell y c h⟩,e0.hok.fresh (aL _),λy c h=>?_,λp hp=>absurd (show p∈([]:PNS)from hp) (by simp),e0.hok.kept hk,?_⟩
 .exact name_of_addr x.apart (pA h1) (pA h2)
 .have hy:scope.names.lookup y=aa .cell\/scope.names.lookup y=aa .free:=hy
  rcases hy with hy |hy
  .exact BN hy
  .exact absurd rfl (S.nofree _ (pA hy))
 .exact gN (x.above y c (pA h))
 .have hi:i<vs.length:=by
   unfold start at h2
   by_cases hi:i<vs.length
   .exact hi
   .rw[kL (by simpa using hi)]at h2;rw[rm]at h2
    split at h2 <;> cases h2
  have ha:vs[i]?=aa v:=by
   unfold start at h2;rw[kM (by simpa using hi),cD]at h2
   cases e:vs[i]? with
   |none=>rw[e]at h2;cases h2
   |some a=>rw[e]at h2;cases h2;rfl
  obtain⟨u,hu,rv⟩:=r.get ha
  have hp:ps[i]?=aa y:=by
   rw[<- S.pre,List.getElem?_take_of_lt (by omega)];exact h1
  have ndP:ps.Nodup:=by rw[<- S.pre];exact S.nd.sublist (take_sublist _ _)
  refine⟨u,rv,?_⟩
  rcases S.par y (dJ hp)with k |k
  .exact .inl ⟨k,BL ndP hp hu k⟩
  .obtain⟨c,e⟩:=BN (n:=s.heap.objs.size+1) k;refine .inr ⟨.inl k,c,e,?_⟩;have q:=x.cell y c e;rw[BM ndP hp hu (by show scope.names.lookup y≠_;rw[k];decide)]at q;exact q
 .exact e0.hok.fresh (gN (x.above y c (pA h)))
 .unfold start;show _=N.length;rw[a9,aH,nj];omega
variable{an od:Option Addr}{osl:Array (Option Value)}
theorem HZ{k:Nat}{params:Arguments}{dV kV doc pm cdv ct oc:Value}
  (lk:K.lookup f=aa ⟨oc,od,.func (W.fnOf name qual params body scope dV kV doc pm an cdv ct),osl⟩)(hcd:W.codeIn K cdv qual=ab)(S:aM N ps scope)
 (len:∀vs H Q E,sp vs H Q E->vs.length=ps.length)
 (hbody:∀ (A:cP) (outer:List Env) (s:ai) (H:Hp) (vs:List V) (Q:VK) (E:XK),bG k (A.deeper (gO qual scope s.heap.objs.size f cdv))->sp vs H Q E ->
   ∃t,PSs (i6 CX P w K mg base N qual scope f cdv A outer s H E) body t/\t {nx:=λ_ H'=>Q .non H',rt:=Q} (start N vs) H):
  df P w K mg base CX (k+1) f (W.fnOf name qual params body scope dV kV doc pm an cdv ct) ps sp:=by
 refine⟨len,λA outer s H args us vs Q E hr e0 hb r hsp=>?_⟩;have hl:=len _ _ _ _ hsp;have KX:K.In s.heap:=e0.mod.kin.keeps λb o e=>(e0.bs b o e).1;have lim:s.heap.NoLimit:=e0.mod.nolimit.keeps λb o e=>(e0.bs b o e).1
 have hkind:∀y∈ps.zip us,scope.names.lookup y.1=aa .local\/(scope.names.lookup y.1=aa .cell/\((cellsFrom (s.heap.objs.size+1) scope.names []).lookup y.1).isSome=ab):=λ⟨n,v⟩ hy=>by
  rcases S.par n (of_mem_zip hy).1 with q |q
  .exact .inl q
  .exact .inr ⟨q,W.cellsFrom_some _ _ _ (.inl q)⟩
 refine codeAny_call_function hr.depth (KX _ _ lk) rfl S.co S.gen rfl (W.codeRec_of KX hcd) (hb _ _ _ _ ?_);refine wpAny_newFunctionEnv_cells S.kind hkind λenv he s1 x=>?_;subst he;refine⟨lim.keeps x.toInCall.keep,codeAny_func ?_⟩;obtain⟨t,ht,hq⟩:=hbody A outer s H vs Q E (hr.deeper _) hsp;have I:Inv (i6 CX P w K mg base N qual scope f cdv A outer s H E) [] (start N vs) H s1:=HY S hr.hd e0 hl r x;refine fT (ht [] s1 (start N vs) H _ I hq) (λfl s' hs=>?_) λe s' hs=>hs
 have fin:∀{σ':St} {H':Hp} {v:V} {u:Value},Inv (i6 CX P w K mg base N qual scope f cdv A outer s H E) [] σ' H' s'->aF v u->Q v H'->CE outer P w H s Q u s':=
  λ{σ' H' v u} J rv q=>⟨v,H',J.os,J.bare,J.base,J.hok,rv,q⟩
 cases fl with
 |ret u=>
  obtain⟨v,σ',H',J,rv,q⟩:=hs
  exact fin J rv q
 |next=>
  obtain⟨σ',H',J,q⟩:=hs
  exact fin (v:=V.non) (u:=iY) J rfl q
 |brk=>
  obtain⟨_,_,_,q⟩:=hs
  exact hE q
 |cont=>
  obtain⟨_,_,_,q⟩:=hs;exact hE q
def tCB(r:List V->Hp->VK->Prop)(t:TA):TE:=λσ H Q=>t σ H λvs H1=>r vs H1 Q
variable{r:List V->Hp->VK->Prop}
section
variable{t:TA}{id:String}
theorem vY(hc:ia X (.builtin id) r)(hg:Gl X x)(hm:X.mg x=ac)(hv:jq x=aa (.builtin id))(ha:PA X (e::es) t)(hn:x ≠ "__name__":=by decide)(hdb:NDb x:=by decide)
 (he:StE X e es:=by rfl)(hpl:BkE X pos es:=by rfl):PE X (.Call (.Name x p) (e::es) [] pos) (tCB r t):=by
 intro pins s σ H Q I h;refine lU (kc I hg hm hv ?_ hn hdb);exact vm (thn (ha pos pins s σ H _ I h) λus s1 ⟨vs,H1,I1,r1,q1⟩=>hc pins s1 σ H1 vs us Q I1 r1 q1) he hpl
end
variable{T:String}
section
variable{t:TA}
theorem H9(hc:ia X (.type T) r)(hg:Gl X x)(hm:X.mg x=ac)(hv:jq x=aa (.type T))(ha:PA X (e::es) t)(hn:x ≠ "__name__":=by decide)(hdb:NDb x:=by decide)
 (he:StE X e es:=by rfl)(hpl:BkE X pos es:=by rfl):PE X (.Call (.Name x p) (e::es) [] pos) (tCB r t):=by
 intro pins s σ H Q I h;refine lU (kc I hg hm hv ?_ hn hdb);exact py (thn (ha pos pins s σ H _ I h) λus s1 ⟨vs,H1,I1,r1,q1⟩=>hc pins s1 σ H1 vs us Q I1 r1 q1) he hpl
end
end L2
namespace HT
open List
open PySem PyProof.Rows
open PySem.SeqAt
open PySem.AutoSeq1 (wpAny_loadPart')
open PySem.MeetsSeq PySem.MeetsSeq2 PySem.MeetsSeq3
noncomputable def sIx(n d:Nat):Option Int->Nat
 |none=>d
 |some v=>if v<0 then (v+(n:Int)).toNat else min v.toNat n
theorem sIx_nat(n d k:Nat):sIx n d (aa (k:Int))=min k n:=by
 show(if (k:Int)<0 then ((k:Int)+(n:Int)).toNat else min (k:Int).toNat n)=min k n;rw[if_neg (by omega),fP]
end HT
namespace L2
open List
open PySem PySem.Spec PyProof.Rows
noncomputable abbrev TO:=St->Hp->(Option Int->Hp->Prop)->Prop
def PO(X:Cx)(e:Option Expr)(t:TO):Prop:=
 ∀(pins:PNS) (s:ai) (σ:St) (H:Hp) (Q:Option Int->Hp->Prop),Inv X pins σ H s->t σ H Q ->
  wpAny (model X.prog X.w) X.A (evalPart e X.env) (λu s'=>∃o H',Inv X pins σ H' s'/\IsPart u o/\Q o H') X.xe s
def Ia:TO:=λ_ H Q=>Q ac H
def Ib(t:TE):TO:=λσ H Q=>t σ H λx H1=>∃i,x=.int i/\Q (aa i) H1
variable{ns:List Int}
theorem Ic:∀{us:LVa},aG (ns.map V.int) us->e7 us ns:=by
 induction ns with
 |nil=>intro us r;rw[map_nil]at r;cases r;exact .nil
 |cons n ns ih=>
  intro us r;rw[bn]at r
  cases r with
  |cons r1 r2=>
   obtain⟨t,e⟩:=r1;subst e;exact .cons n t (ih r2)
variable{X:Cx}
theorem Ie:PO X ac Ia:=by
 intro pins s σ H Q I h;rw[evalPart_none];exact aJ ⟨ac,H,I,.none,h⟩
variable{e:Expr}{te:TE}
theorem Ig(h:PE X e te):PO X (aa e) (Ib te):=by
 intro pins s σ H Q I hw;rw[evalPart_some];refine thn (h pins s σ H _ I hw) λu s1 q_=>?_;obtain⟨x,H1,I1,r1,q1⟩:=q_;obtain⟨i,rfl,q⟩:=q1;obtain⟨t,rfl⟩:=r1;exact⟨aa i,H1,I1,.int i t,q⟩
variable{lo hi:Option Expr}
def SlR(X:Cx)(r:V->Option Int->Option Int->Hp->VK->Prop):Prop:=
 ∀(pins:PNS) (s:ai) (σ:St) (H:Hp) (x:V) (v vl vu:Value) (lo hi:Option Int) (sl:Addr) (Q:VK),Inv X pins σ H s->aF x v->s.heap.IsSliceOf sl vl vu .none->IsPart vl lo->IsPart vu hi->r x lo hi H Q ->
  ∃T id,typeLookup (.type T) "__getitem__"=pure (aa (.builtin id))/\s.TypeIs v T/\wpAny (model X.prog X.w) X.A (getItem v (.ref sl)) (EP X pins σ Q) X.xe s
def tSl(r:V->Option Int->Option Int->Hp->VK->Prop)(te:TE)(tl th:TO):TE:=λσ H Q=>te σ H λx H1=>tl σ H1 λl H2=>th σ H2 λu H3=>r x l u H3 Q
variable{tl th:TO}{pos p2:Pos}
theorem Ih{r:V->Option Int->Option Int->Hp->VK->Prop}(hr:SlR X r)(he:PE X e te)(hl:PO X lo tl)(hu:PO X hi th):PE X (.Subscript e (.Slice lo hi ac p2) pos) (tSl r te tl th):=by
 intro pins s σ H Q I h;refine Subscript_ (thn (he pins s σ H _ I h) λv s1 q_=>?_);obtain⟨x,H1,I1,r1,q1⟩:=q_;refine wpAny_Slice (thn (hl pins s1 σ H1 _ I1 q1) λvl s2 ⟨l,H2,I2,pl,q2⟩=>thn (hu pins s2 σ H2 _ I2 q2) λvu s3 q_=>?_);obtain⟨u,H3,I3,pu,q3⟩:=q_;rw[evalPart_none];refine aJ ?_
 have I4:Inv X pins σ H3 {s3 with heap:=s3.heap.push {cls:=.type "slice",data:=.fields #[vl,vu,.none]}}:=I3.kept (t':=s3.toks) λb ob q=>bT _ q
 obtain⟨T,id,hT,ht,hg⟩:=hr pins {s3 with heap:=s3.heap.push {cls:=.type "slice",data:=.fields #[vl,vu,.none]}} σ H3 x v vl vu l u s3.heap.objs.size Q I4 r1 (Heap.IsSliceOf.new ..) pl pu q3
 show wpAny (model X.prog X.w) X.A (subscriptTail e (.Slice lo hi ac p2) v (.ref s3.heap.objs.size)) (EP X pins σ Q) X.xe {s3 with heap:=s3.heap.push {cls:=.type "slice",data:=.fields #[vl,vu,.none]}}
 exact tail_any (ops:=[.ref s3.heap.objs.size,v]) ht hT hg (by with_unfolding_all rfl)
noncomputable def k8(xs:List V)(lo hi:Option Int):List V:=(xs.drop (HT.sIx xs.length 0 lo)).take (HT.sIx xs.length xs.length hi-HT.sIx xs.length 0 lo)
theorem Ii(xs:List V)(lo hi:Option Int):(k8 xs lo hi).length<=xs.length:=by
 unfold k8;rw[lM,lN];omega
noncomputable def ixN(n:Nat)(i:Int):Option Nat:=if 0<=i then (if i<n then aa i.toNat else ac) else if -(n:Int)<=i then aa (i+n).toNat else ac
noncomputable def atI{α:Type}(xs:List α)(i:Int):Option α:=(ixN xs.length i).bind λj=>xs[j]?
variable{n j:Nat}{i:Int}
theorem BO(h:ixN n i=aa j):seqIndex? i n=aa j/\j<n/\-(n:Int)<=i/\i<n:=by
 unfold ixN at h
 by_cases h0:0<=i
 .rw[if_pos h0]at h
  by_cases h1:i<n
  .rw[if_pos h1]at h;have e:i.toNat=j:=cF h;exact⟨by rw[seqIndex_of h0 h1,e],by omega,by omega,h1⟩
  .rw[if_neg h1]at h;cases h
 .rw[if_neg h0]at h
  by_cases h1:-(n:Int)<=i
  .rw[if_pos h1]at h;have e:(i+n).toNat=j:=cF h;exact⟨by rw[seqIndex_neg (by omega) h1,e],by omega,h1,by omega⟩
  .rw[if_neg h1]at h;cases h
theorem BP{α:Type}{xs:List α}{v:α}(h:atI xs i=aa v):∃j,seqIndex? i xs.length=aa j/\xs[j]?=aa v/\j<xs.length/\-(xs.length:Int)<=i/\i<xs.length:=by
 unfold atI at h
 cases e:ixN xs.length i with
 |none=>rw[e]at h;cases h
 |some j=>
  rw[e]at h;obtain⟨h1,h2,h3,h4⟩:=BO e;exact⟨j,h1,h,h2,h3,h4⟩
theorem Ij{α:Type}{xs:List α}{v:α}(h:xs[j]?=aa v):atI xs (j:Int)=aa v:=by
 have hj:j<xs.length:=(dH.mp h).1
 have e:ixN xs.length (j:Int)=aa j:=by
  unfold ixN;rw[if_pos (by omega),if_pos (by omega)];simp
 unfold atI;rw[e];exact h
def BQ(b:Expr):Prop:=∀o i,subscripted b ae o i=operate [o,i] (getItem o i)
def IxR(X:Cx)(r:R2):Prop:=
 ∀(value slice:Expr) (pins:PNS) (s:ai) (σ:St) (H:Hp) (x y:V) (v u:Value) (Q:VK),Inv X pins σ H s->aF x v->aF y u->r x y H Q ->
  subscripted slice ae v u=operate [v,u] (getItem v u)->wpAny (model X.prog X.w) X.A (subscriptTail value slice v u) (EP X pins σ Q) X.xe s
def MtR(X:Cx)(id:String)(r:V->List V->Hp->VK->Prop):Prop:=
 ∀(pins:PNS) (s:ai) (σ:St) (H:Hp) (x:V) (xs:List V) (v:Value) (us:LVa) (Q:VK),Inv X pins σ H s->aF x v->aG xs us->r x xs H Q ->
  wpAny (model X.prog X.w) X.A (call (.builtin id) (v::us)) (EP X pins σ Q) X.xe s
variable{r r':R2}
theorem IxR.or(h:IxR X r)(h':IxR X r'):IxR X (λx y H Q=>r x y H Q\/r' x y H Q):=by
 intro value slice pins s σ H x y v u Q I rx ry q hs
 rcases q with q |q
 .exact h value slice pins s σ H x y v u Q I rx ry q hs
 .exact h' value slice pins s σ H x y v u Q I rx ry q hs
variable{a b:Expr}{ta tb:TE}
theorem Ik(hr:IxR X r)(ha:PE X a ta)(hb:PE X b tb)(hs:BQ b):PE X (.Subscript a b pos) (tOp r ta tb):=by
 intro pins s σ H Q I h;exact Subscript_ (vO ha hb I h λv u s2 x y H2 I2 rx ry q=>hr a b pins s2 σ H2 x y v u Q I2 rx ry q (hs _ _))
def Il(K:aX):R2:=λx y H Q=>∃p xs i v,x=.ref p/\y=.int i/\SqL K H p xs/\atI xs i=aa v/\Q v H
def Im(K:aX):R2:=λx y H Q=>∃p xs i v,x=.ref p/\y=.int i/\SqT K H p xs/\atI xs i=aa v/\Q v H
theorem Io:IxR X (Il X.K):=by
 intro value slice pins s σ H x y v u Q I rx ry h hs;obtain⟨p,xs,i,z,rfl,rfl,hq,he,q⟩:=h;cases rx;obtain⟨t,rfl⟩:=ry;obtain⟨its,r,pl,hz⟩:=I.list hq;obtain⟨j,h1,h2,h3,h4,h5⟩:=BP he;obtain⟨w,ew,rw'⟩:=r.get h2;have hl:=r.length;have hn:=nP;have fin:EP X pins σ Q w s:=⟨z,H,I,rw',q⟩
 by_cases h0:0<=i
 .have hj:i.toNat=j:=by
   rw[seqIndex_of h0 h5]at h1;exact cF h1
  exact item_listR pl.isList h0 (by omega) (by rw[hj];simpa using ew) fin hs
 .have hj:(i+(its.toArray.size:Int)).toNat=j:=by
   rw[seqIndex_neg (by omega) h4]at h1;rw[size_toArray,<- hl];exact cF h1
  exact subscriptTail_builtinR (x:=w) pl.isList.typeIs slot_list_getitem.lookup
   (wpAny_getItem_list_neg (Q:=λr s'=>r=w/\EP X pins σ Q r s') pl.isList (by omega) (by rw[size_toArray] <;> omega) (by omega) (by rw[hj];simpa using ew) ⟨rfl,fin⟩) hs
theorem Ip:IxR X (Im X.K):=by
 intro value slice pins s σ H x y v u Q I rx ry h hs;obtain⟨p,xs,i,z,rfl,rfl,hq,he,q⟩:=h;cases rx;obtain⟨t,rfl⟩:=ry;obtain⟨its,r,pl,hz⟩:=I.tuple hq;obtain⟨j,h1,h2,h3,h4,h5⟩:=BP he;obtain⟨w,ew,rw'⟩:=r.get h2;have hl:=r.length;have hn:=nP;have fin:EP X pins σ Q w s:=⟨z,H,I,rw',q⟩
 exact subscriptTail_builtinR (x:=w) pl.typeIs slot_tuple_getitem.lookup
  (getItem_tuple (j:=j) (Q:=λr s'=>r=w/\EP X pins σ Q r s') pl (by omega) (by omega) (by rw[size_toArray,<- hl];exact h1) (by simpa using ew) ⟨rfl,fin⟩) hs
theorem Iq(its:LVa)(n j:Nat)(u:Value):iB (·.setIfInBounds j u) {cls:=.type "list",data:=.seq its.toArray n}={cls:=.type "list",data:=.seq (its.set j u).toArray n}:=by
 simp[iB]
variable{pins:PNS}{σ:St}{H:Hp}{p:Addr}{xs:List V}
theorem Inv.lst{s:ai}(I:Inv X pins σ H s)(h:H p=aa (.lst xs)):
  ∃(its:LVa) (n:Nat),aG xs its/\s.heap.get? p=aa {cls:=.type "list",data:=.seq its.toArray n}/\xs.length<=aS:=by
 obtain⟨z,its,n,r,e⟩:=I.hok p _ h;exact⟨its,n,r,e,z⟩
variable{ys:List V}{its its':LVa}{n':Nat}
theorem Inv.lstUpd{s:ai}{f:Obj->Obj}(I:Inv X pins σ H s)(h:H p=aa (.lst xs))
 (ho:s.heap.get? p=aa {cls:=.type "list",data:=.seq its.toArray n})(hf:f {cls:=.type "list",data:=.seq its.toArray n}={cls:=.type "list",data:=.seq its'.toArray n'})(r:aG ys its')(hz:ys.length<=aS)(t:Nat):
  Inv X pins σ (upd H p (.lst ys)) {s with heap:=s.heap.update p f,toks:=t}:=by
 have e:(s.heap.update p f).get? p=aa {cls:=.type "list",data:=.seq its'.toArray n'}:=by
  rw[rS f ho (by rw[hf] <;> rfl),hf]
 refine I.write (x:=p) (e:=p) (by rw[h];trivial) (.inl rfl) (λb u hb q=>(rR _ _ (gm hb)).trans q) ⟨_,e⟩ ?_;exact⟨hz,its',n',r,e⟩
def vZ:V->V->V->Hp->(Hp->Prop)->Prop:=λo i v H Q=>∃p xs k j,o=.ref p/\i=.int k/\H p=aa (.lst xs)/\ixN xs.length k=aa j/\Q (upd H p (.lst (xs.set j v)))
theorem BR:Br X vZ:=by
 intro pins s σ H o i v ov iv u Q I ro ri rv h;obtain⟨p,xs,k,j,rfl,rfl,hp,hj,q⟩:=h;cases ro;obtain⟨t,rfl⟩:=ri;obtain⟨its,n,r,ho,hz⟩:=I.lst hp;obtain⟨h1,h2,h3,h4⟩:=BO hj;have hl:=r.length;have hn:=nP
 have I':Inv X pins σ (upd H p (.lst (xs.set j v))) {s with heap:=s.heap.update p (iB (·.setIfInBounds j u))}:=
  I.lstUpd hp ho (Iq its n j u) (r.set rv j) (by rw[gj];exact hz) s.toks
 by_cases h0:0<=k
 .have hk:k.toNat=j:=by
   rw[seqIndex_of h0 h4]at h1;exact cF h1
  exact W.ki_setAt ho h0 (by omega) (by rw[size_toArray,<- hl];exact h4) (by rw[hk];exact⟨_,I',q⟩)
 .have hk:(k+(its.toArray.size:Int)).toNat=j:=by
   rw[seqIndex_neg (by omega) h3]at h1;rw[size_toArray,<- hl];exact cF h1
  exact W.ki_setBack ho (by omega) (by rw[size_toArray,<- hl];exact h3) (by omega) (by rw[hk];exact⟨_,I',q⟩)
theorem Ir(lo hi:Option Int)(n:Nat):(lZ lo hi ac n).1=((HT.sIx n 0 lo:Nat):Int)/\(lZ lo hi ac n).2.1=((HT.sIx n n hi:Nat):Int)/\(lZ lo hi ac n).2.2=1:=by
 refine⟨?_,?_,rfl⟩
 .cases lo with
  |none=>simp[lZ,HT.sIx]
  |some i=>
   simp only[lZ,HT.sIx,Option.getD_none,show(1:Int)>0 by decide,if_true]
   by_cases h:i<0
   .simp only[h,if_true] <;> omega
   .simp only[h,if_false] <;> omega
 .cases hi with
  |none=>simp[lZ,HT.sIx]
  |some i=>
   simp only[lZ,HT.sIx,Option.getD_none,show(1:Int)>0 by decide,if_true]
   by_cases h:i<0
   .simp only[h,if_true] <;> omega
   .simp only[h,if_false] <;> omega
theorem Iu(its:LVa)(lo hi:Option Int):slicePick its.toArray lo hi ac=((its.drop (HT.sIx its.length 0 lo)).take (HT.sIx its.length its.length hi-HT.sIx its.length 0 lo)).toArray:=by
 obtain⟨h1,h2,h3⟩:=Ir lo hi its.toArray.size;unfold slicePick;rw[h1,h2,h3]
 simp only[sliceRange_one,pick_run,size_toArray] <;> rfl
def Iv(K:aX):V->Option Int->Option Int->Hp->VK->Prop:=λx lo hi H Q=>∃a xs,x=.ref a/\SqL K H a xs/\∀p,H p=ac->Q (.ref p) (upd H p (.lst (k8 xs lo hi)))
theorem Iw:SlR X (Iv X.K):=by
 intro pins s σ H x v vl vu lo hi sl Q I rx hs pl pu h;obtain⟨a,xs,rfl,hx,q⟩:=h;cases rx;obtain⟨its,r,ht,hz⟩:=I.list hx;have hlen:=r.length;refine⟨"list",_,slot_list_getitem.lookup,ht.isList.typeIs,?_⟩
 refine wpAny_getItem_list_slice ht.isList hs pl pu .none (by simp) ?_ (by rw[size_toArray] <;> omega)
 rw[Iu,<- hlen];refine⟨.ref s.heap.objs.size,_,I.laid (t':=s.toks) (o:=.lst (k8 xs lo hi)) (λb ob q=>bT _ q) (aL _) ?_,rfl,q _ (I.hok.fresh (aL _))⟩;exact⟨cZ (Ii xs lo hi) hz,_,0,(r.drop (HT.sIx xs.length 0 lo)).take (HT.sIx xs.length xs.length hi-HT.sIx xs.length 0 lo),dn _ rfl⟩
noncomputable def fX:V->Bool
 |.non=>ab
 |.bl _=>ab
 |.int _=>ab
 |.str _=>ab
 | _=>ae
noncomputable def eqV:V->V->Bool
 |.non,.non=>ab
 |.bl a,.bl b=>a==b
 |.bl a,.int b=>(if a then 1 else 0)==b
 |.int a,.bl b=>a==(if b then 1 else 0)
 |.int a,.int b=>a==b
 |.str a,.str b=>a==b
 | _,_=>ae
variable{y x:V}{u v:Value}
theorem BS{A:cP}{s:ai}(ry:aF y u)(rx:aF x v)(fy:fX y=ab)(fx:fX x=ab):cw A s u v (eqV y x):=by
 cases y with
 |non=>
  cases ry
  cases x with
  |non=>cases rx;exact vB _
  |bl b=>cases rx;exact cw.none_bool b
  |int b=>obtain⟨t,rfl⟩:=rx;exact cw.none_int b t
  |str b=>obtain⟨t,rfl⟩:=rx;exact cw.none_str b t
  | _=>exact absurd (show ae=ab from fx) bd
 |bl a=>
  cases ry
  cases x with
  |non=>cases rx;exact cw.bool_none a
  |bl b=>cases rx;exact cw.bool_bool a b
  |int b=>obtain⟨t,rfl⟩:=rx;exact cw.bool_int a b t
  |str b=>obtain⟨t,rfl⟩:=rx;exact cw.bool_str a b t
  | _=>exact absurd (show ae=ab from fx) bd
 |int a=>
  obtain⟨t',rfl⟩:=ry
  cases x with
  |non=>cases rx;exact cw.int_none a t'
  |bl b=>cases rx;exact cw.int_bool a t' b
  |int b=>obtain⟨t,rfl⟩:=rx;exact cw.int_int a t' b t
  |str b=>obtain⟨t,rfl⟩:=rx;exact vz a t' b t
  | _=>exact absurd (show ae=ab from fx) bd
 |str a=>
  obtain⟨t',rfl⟩:=ry
  cases x with
  |non=>cases rx;exact cw.str_none a t'
  |bl b=>cases rx;exact cw.str_bool a t' b
  |int b=>obtain⟨t,rfl⟩:=rx;exact vA a t' b t
  |str b=>obtain⟨t,rfl⟩:=rx;exact cw.str_str a t' b t
  | _=>exact absurd (show ae=ab from fx) bd
 | _=>exact absurd (show ae=ab from fy) bd
noncomputable def eqU(x:V)(u:Value):Bool:=match u with
 |.none=>eqV .non x
 |.bool b=>eqV (.bl b) x
 |.int i _=>eqV (.int i) x
 |.str z _=>eqV (.str z) x
 | _=>ae
theorem BU(r:aF y u)(f:fX y=ab):eqU x u=eqV y x:=by
 cases y with
 |non=>cases r;rfl
 |bl b=>cases r;rfl
 |int i=>obtain⟨t,rfl⟩:=r;rfl
 |str z=>obtain⟨t,rfl⟩:=r;rfl
 | _=>exact absurd (show ae=ab from f) bd
theorem v8{x:V}:∀{xs:List V} {us:LVa},aG xs us->xs.all fX=ab->us.any (eqU x)=xs.any λy=>eqV y x
 | _,_,.nil,_=>rfl
 |y::xs,u::us,.cons r t,f=>by
  rw[lQ,cg]at f;rw[gM,gM,BU r f.1,v8 t f.2]
theorem v9{A:cP}{s:ai}{x:V}{v:Value}(rx:aF x v)(fx:fX x=ab):∀{xs:List V} {us:LVa},aG xs us->xs.all fX=ab->∀u∈us,cw A s u v (eqU x u)
 | _,_,.nil,_=>λu hu=>by cases hu
 |y::xs,u::us,.cons r t,f=>λu' hu=>by
  rw[lQ,cg]at f
  rcases aW.mp hu with rfl |hu
  .rw[BU r f.1];exact BS r rx f.1 fx
  .exact v9 rx fx t f.2 u' hu
noncomputable def inV(x:V)(xs:List V):Bool:=xs.any λy=>eqV y x
def rIn(K:aX)(neg:Bool):R2:=λx y H Q=>∃p xs,y=.ref p/\(SqL K H p xs\/SqT K H p xs)/\fX x=ab/\xs.all fX=ab/\Q (.bl (if neg then !inV x xs else inV x xs)) H
theorem Ix:OpR X (c3 .NotIn) (rIn X.K ab):=by
 intro pins s σ H x y v u Q I rx ry h;obtain⟨p,xs,rfl,hq,fx,fs,q⟩:=h;cases ry
 rcases hq with hq |hq
 .obtain⟨its,r,pl,hz⟩:=I.list hq;refine SeqAt.notIn_listAt (eqU x) pl.isList (λw hw=>v9 rx fx r fs w (by simpa using hw)) ⟨.bl _,H,I,rfl,?_⟩;rw[show its.toArray.any (eqU x)=its.any (eqU x) by simp,v8 r fs];exact q
 .obtain⟨its,r,pl,hz⟩:=I.tuple hq;refine SeqAt.notIn_tupleAt (eqU x) pl (λw hw=>v9 rx fx r fs w (by simpa using hw)) ⟨.bl _,H,I,rfl,?_⟩;rw[show its.toArray.any (eqU x)=its.any (eqU x) by simp,v8 r fs];exact q
theorem Iy:ia X (.builtin "len") (λxs H Q=>∃p ys,xs=[.ref p]/\(SqL X.K H p ys\/SqT X.K H p ys)/\Q (.int ys.length) H):=by
 intro pins s σ H xs us Q I r h;obtain⟨p,ys,rfl,hq,q⟩:=h;obtain⟨u,rfl,rx⟩:=mm r;cases rx;have hn:=nP
 rcases hq with hq |hq
 .obtain⟨its,r',pl,hz⟩:=I.list hq;have hlen:=r'.length
  exact Calls.call_len_list pl.isList (by simp only[size_toArray] <;> omega) ⟨.int ys.length,H,I.tok _,⟨s.toks+1,by rw[size_toArray,hlen]⟩,q⟩
 .obtain⟨its,r',pl,hz⟩:=I.tuple hq;have hlen:=r'.length
  exact len_tuple pl (by simp only[size_toArray] <;> omega) ⟨.int ys.length,H,I.tok _,⟨s.toks+1,by rw[size_toArray,hlen]⟩,q⟩
theorem Iz:ia X (.builtin "len") (λxs H Q=>∃z,xs=[.str z]/\z.length<=aS/\Q (.int z.length) H):=by
 intro pins s σ H xs us Q I r h;obtain⟨z,rfl,hz,q⟩:=h;obtain⟨u,rfl,t,rfl⟩:=mm r;have hn:=nP;exact len_str (by omega) ⟨.int z.length,H,I.tok _,⟨_,rfl⟩,q⟩
theorem IA:ia X (.type "list") (λxs H Q=>∃p ys,xs=[.ref p]/\(SqL X.K H p ys\/SqT X.K H p ys)/\∀l,H l=ac->Q (.ref l) (upd H l (.lst ys))):=by
 intro pins s σ H xs us Q I r h;obtain⟨p,ys,rfl,hq,q⟩:=h;obtain⟨u,rfl,rx⟩:=mm r;cases rx
 have fin:∀(its:LVa),aG ys its->ys.length<=aS->∀(h':Heap) (c':Nat),(∀b o',s.heap.get? b=aa o'->h'.get? b=aa o') ->
   h'.get? s.heap.objs.size=aa {cls:=.type "list",dict:=ac,data:=.seq its.toArray c',slots:=#[]}->EP X pins σ Q (.ref s.heap.objs.size) {s with heap:=h'}:=λits r' hz h' c' kp e=>
  ⟨.ref s.heap.objs.size,_,I.laid (t':=s.toks) kp (aL _) (show cU X.prog X.w _ h' _ (.lst ys)from⟨hz,its,c',r',e⟩),rfl,q _ (I.hok.fresh (aL _))⟩
 rcases hq with hq |hq
 .obtain⟨its,r',pl,hz⟩:=I.list hq;have hlen:=r'.length;obtain⟨o,ho,hc,n,hd⟩:=pl.isList
  exact call_list_seq p (.inl rfl) ho hc hd (λh' c' kp e=>fin its r' hz h' c' kp e) (by simp only[size_toArray] <;> omega)
 .obtain⟨its,r',pl,hz⟩:=I.tuple hq;have hlen:=r'.length;obtain⟨o,ho,hc,n,hd⟩:=pl
  exact call_list_seq p (.inr rfl) ho hc hd (λh' c' kp e=>fin its r' hz h' c' kp e) (by simp only[size_toArray] <;> omega)
def tyV(K:aX)(T:String)(x:V)(H:Hp):Prop:=match x with
 |.str _=>T="str"
 |.int _=>T="int"
 |.ref p=>(T="list" /\ ∃xs,SqL K H p xs)\/(T="tuple" /\ ∃o,K.lookup p=aa o/\o.cls=.type "tuple" /\ o.dict=ac) \/
   (T="dict" /\ ((∃kvs,H p=aa (.dK kvs))\/∃kvs,H p=aa (.dT kvs)))\/(T="set" /\ ∃S n,H p=aa (.set S n))
 | _=>False
variable{T:String}
theorem IB{s:ai}(I:Inv X pins σ H s)(r:aF x v)(ty:tyV X.K T x H):
  s.TypeIs v T/\∀a,v=.ref a->∃ob,s.heap.get? a=aa ob/\ob.dict=ac:=by
 cases x with
 |str z=>
  obtain⟨t,rfl⟩:=r;cases (show T="str" from ty)
  exact⟨typeIs_str s z t,λ_ e=>nomatch e⟩
 |int i=>
  obtain⟨t,rfl⟩:=r;cases (show T="int" from ty)
  exact⟨typeIs_int s i t,λ_ e=>nomatch e⟩
 |ref p=>
  cases r
  rcases ty with⟨rfl,xs,hq⟩ |⟨rfl,o,hk,hc,hd⟩ |⟨rfl,hk⟩ |⟨rfl,S,n,hk⟩
  .obtain⟨its,_,pl,_⟩:=I.list hq;refine⟨pl.isList.typeIs,λa e=>?_⟩;cases e;obtain⟨o,n,e,c,hd,_⟩:=pl;exact⟨o,e,hd⟩
  .refine⟨⟨o,I.kIn p o hk,hc⟩,λa e=>?_⟩;cases e;exact⟨o,I.kIn _ o hk,hd⟩
  .have z:∃o,s.heap.get? p=aa o/\o.ExactDict:=by
    rcases hk with⟨kvs,hk⟩ |⟨kvs,hk⟩
    .obtain⟨_,_,_,_,o,_,_,e,ex,_⟩:=I.hok p _ hk;exact⟨o,e,ex⟩
    .obtain⟨_,_,_,_,o,_,_,e,ex,_⟩:=I.hok p _ hk;exact⟨o,e,ex⟩
   obtain⟨o,e,ex⟩:=z;refine⟨⟨o,e,ex.1⟩,λa e2=>?_⟩;cases e2;exact⟨o,e,ex.2.1⟩
  .obtain⟨o,_,_,_,e,ex,_⟩:=I.hok p _ hk;refine⟨⟨o,e,ex.1⟩,λa e2=>?_⟩;cases e2
   exact⟨o,e,ex.2.1⟩
 | _=>exact hE ty
def tBM(K:aX)(T:String)(r:V->List V->Hp->VK->Prop)(to:TE)(t:TA):TE:=λσ H Q=>to σ H λx H1=>tyV K T x H1/\t σ H1 λxs H2=>r x xs H2 Q
variable{es:LEx}{name:Str}{apos cpos:Pos}{r:V->List V->Hp->VK->Prop}
section
variable{o:Expr}{to:TE}{t:TA}{id:String}
theorem fh(pa:PlainAttrs T)(slot:Slot T name id)(hty:typeOf (.builtin id)=pure (.type "method_descriptor"))(hm:MtR X id r)(ho:PE X o to)(ha:PA X (e::es) t)
 (hbase:nF o name X.env (eval o X.env)=eval o X.env:=by rfl)
 (hfew:((c4 cpos (ba (e::es) X.env)).all (λx=>!x.1) && (ju cpos (jr [] X.env)).all (λx=>x.1.isSome)
   && decide ((e::es).length+([]:List Keyword).length+(if ([]:List Keyword).isEmpty then 0 else 1)<30))=ab:=by rfl)
 (hline:(apos.endLine==cpos.line)=ab:=by rfl)(hs:StE X e es:=by rfl)(hplain:(c4 cpos (ba es X.env)).any (·.1)=ae:=by rfl):
  PE X (.Call (.Attribute o name apos) (e::es) [] cpos) (tBM X.K T r to t):=by
 intro pins s σ H Q I h;refine wpAny_Call_method_late hbase hfew hline rfl (thn (ho pins s σ H _ I h) λv s1 q_=>?_);obtain⟨x,H1,I1,r1,ty,q1⟩:=q_;obtain⟨h1,h2⟩:=IB I1 r1 ty;refine⟨T,id,pa,slot,hty,h1,h2,?_⟩;have hA:=ha cpos pins s1 σ H1 _ I1 q1;rw[hs]at hA ⊢
 refine vq (by show(ae || (c4 cpos (ba es X.env)).any (·.1))=ae;rw[hplain] <;> rfl) (vt ?_)
 exact thn hA λus s2 ⟨vs,H2,I2,r2,q2⟩=>hm pins s2 σ H2 x vs v us Q I2 r1 r2 q2
end
def MtM(X:Cx)(id:String)(r:V->List V->Hp->VK->Prop):Prop:=
 ∀(pins:PNS) (s:ai) (σ:St) (H:Hp) (x:V) (xs:List V) (v:Value) (us:LVa) (Q:VK),Inv X pins σ H s->aF x v->aG xs us->r x xs H Q ->
  wpAny (model X.prog X.w) X.A (call (.builtin id) (v::us)) (EP X pins σ Q) X.xe s
theorem aG.one:∀{x:V} {us:LVa},aG [x] us->∃u,us=[u]/\aF x u:=λh=>by
 cases h with
 |cons r h=>
  cases h;exact⟨_,rfl,r⟩
theorem aG.two:∀{x y:V} {us:LVa},aG [x,y] us->∃u v,us=[u,v]/\aF x u/\aF y v:=λh=>by
 cases h with
 |cons r h=>
  cases h with
  |cons q h=>
   cases h;exact⟨_,_,rfl,r,q⟩
theorem aG.zero:∀{us:LVa},aG [] us->us=[]
 | _,.nil=>rfl
theorem aG.eraseIdx:∀{xs:List V} {us:LVa} (i:Nat),aG xs us->aG (xs.eraseIdx i) (us.eraseIdx i)
 | _,_,_,.nil=>.nil
 | _,_,0,.cons _ t=>t
 | _,_,i+1,.cons r t=>.cons r (aG.eraseIdx i t)
theorem aG.rep{xs:List V}{us:LVa}(h:aG xs us):∀k:Nat,aG (gK k xs).flatten (gK k us).flatten
 | 0=>.nil
 |k+1=>by
  rw[replicate_succ,replicate_succ,flatten_cons,flatten_cons];exact aG.append h (aG.rep h k)
theorem wa{α:Type}:∀(l:List α) (i:Nat),(l.eraseIdx i).length<=l.length
 | [],_=>aL _
 | _::_,0=>jZ _
 | _::r,i+1=>vh (wa r i)
variable{l:Addr}{t':Nat}
section
variable{s:ai}
theorem Inv.lset{f:Array Value->Array Value}(I:Inv X pins σ H s)(hH:H l=aa (.lst xs))
 (e:s.heap.get? l=aa {cls:=.type "list",data:=.seq its.toArray n})(hf:f its.toArray=its'.toArray)(hv:aG ys its')(hz:ys.length<=aS):
  Inv X pins σ (upd H l (.lst ys)) {s with heap:=s.heap.update l (iB f),toks:=t'}:=by
 have q:=PySem.IsL.update e f;rw[hf]at q;refine I.write (x:=l) (e:=l) (by rw[hH];exact trivial) (.inl rfl) (λb' u hb hu=>(rR s.heap (iB f) (gm hb)).trans hu) ⟨_,q⟩ ?_;exact⟨hz,its',_,hv,q⟩
end
section
variable{s:ai}
theorem Inv.lnew(I:Inv X pins σ H s)(hv:aG ys its)(hz:ys.length<=aS):
  Inv X pins σ (upd H s.heap.objs.size (.lst ys)) {s with heap:=s.heap.push {cls:=.type "list",data:=.seq its.toArray},toks:=t'}:=
 I.laid (λ_ _ q=>bT _ q) (aL _) ⟨hz,its,0,hv,dn _ rfl⟩
end
section
variable{s:ai}
theorem Inv.fresh(I:Inv X pins σ H s):H s.heap.objs.size=ac:=I.hok.fresh (aL _)
end
section
variable{s:ai}
theorem Inv.lstM(I:Inv X pins σ H s)(hH:H l=aa (.lst xs)):xs.length<=aS/\∃(its:LVa) (n:Nat),aG xs its/\xs.length=its.length/\s.heap.get? l=aa {cls:=.type "list",data:=.seq its.toArray n}:=by
 obtain⟨z,its,n,r,e⟩:=I.hok l _ hH;exact⟨z,its,n,r,r.length,e⟩
end
theorem IC(h:n<=aS):vp n=ae:=by
 unfold vp;exact decide_eq_false (by omega)
def sg:V->List V->Hp->VK->Prop:=λx vs H Q=>∃l xs y,x=.ref l/\vs=[y]/\H l=aa (.lst xs)/\xs.length<aS/\Q .non (upd H l (.lst (xs++[y])))
theorem gW:MtM X "list.append" sg:=by
 intro pins s σ H x vs v us Q I rx rv h;obtain⟨l,xs,y,rfl,rfl,hH,hz,q⟩:=h;cases rx;obtain⟨u,rfl,ru⟩:=rv.one;obtain⟨z,its,n,r,hl,e⟩:=I.lstM hH;refine call_meets F.slot_list_append ⟨_,e,rfl⟩ F.entry_list_append (F.args_list_append_2 _ _) (PySem.list_append l its.toArray n u (by rw[size_toArray];omega)) ⟨e,?_⟩;refine⟨.non,_,I.lset (its':=its++[u]) hH e (by simp) (r.append (.cons ru .nil)) ?_,rfl,q⟩;rw[a9,fD];omega
def wb:V->List V->Hp->VK->Prop:=λx vs H Q=>∃l b xs zs,x=.ref l/\vs=[.ref b]/\H l=aa (.lst xs)/\H b=aa (.lst zs)/\xs.length+zs.length<=aS/\Q .non (upd H l (.lst (xs++zs)))
theorem BV:MtM X "list.extend" wb:=by
 intro pins s σ H x vs v us Q I rx rv h;obtain⟨l,b,xs,zs,rfl,rfl,hH,hB,hz,q⟩:=h;cases rx;obtain⟨u,rfl,ru⟩:=rv.one;cases ru;obtain⟨z,its,n,r,hl,e⟩:=I.lstM hH;obtain⟨z2,its2,n2,r2,hl2,e2⟩:=I.lstM hB;have hsz:its.toArray.size+its2.toArray.size<=aS:=by rw[size_toArray,size_toArray];omega
 have hlong:¬(!its.toArray.isEmpty && vp (its.toArray.size+its2.toArray.size))=ab:=by
  rw[IC hsz,rk];exact bd
 refine call_meets F.slot_list_extend ⟨_,e,rfl⟩ F.entry_list_extend (F.args_list_extend_2 _ _)
  (AutoSeq1.list_extend_list_list_0 l its.toArray n b its2.toArray n2 hlong (by rw[size_toArray];omega) (by omega)) ⟨e,e2,?_⟩
 refine⟨.non,_,I.lset (its':=its++its2) hH e (by simp) (r.append r2) ?_,rfl,q⟩;rw[a9];omega
def BW:V->List V->Hp->VK->Prop:=λx vs H Q=>∃l xs i k y,x=.ref l/\vs=[.int i]/\H l=aa (.lst xs)/\-(2 ^ 63)<=i/\i<2 ^ 63/\seqIndex? i xs.length=aa k/\xs[k]?=aa y/\Q y (upd H l (.lst (xs.eraseIdx k)))
theorem ID:MtM X "list.pop" BW:=by
 intro pins s σ H x vs v us Q I rx rv h;obtain⟨l,xs,i,k,y,rfl,rfl,hH,h1,h2,hk,hy,q⟩:=h;cases rx;obtain⟨u,rfl,ru⟩:=rv.one;obtain⟨t,rfl⟩:=ru;obtain⟨z,its,n,r,hl,e⟩:=I.lstM hH;obtain⟨w,hw,rw'⟩:=r.get hy
 refine call_meets F.slot_list_pop ⟨_,e,rfl⟩ F.entry_list_pop (F.args_list_pop_2 _ _)
  (MeetsSeq.list_pop_at l its.toArray n i t k w (fitsIndex_both h1 h2) (by rw[size_toArray,<- hl];exact hk) (by rw[<- oY];exact hw) (by rw[size_toArray];omega)) ⟨e,?_⟩
 refine⟨y,_,I.lset (its':=its.eraseIdx k) hH e ?_ (r.eraseIdx k) ?_,rw',q⟩
 .show its.toArray.eraseIdxIfInBounds k=(its.eraseIdx k).toArray;rw[eraseIdxIfInBounds_toArray]
 .have:=wa xs k;omega
def IE:R2:=λx y H Q=>∃l b xs zs,x=.ref l/\y=.ref b/\H l=aa (.lst xs)/\H b=aa (.lst zs)/\xs.length+zs.length<=aS/\∀p,H p=ac->Q (.ref p) (upd H p (.lst (xs++zs)))
theorem BX:OpR X (fU .Add) IE:=by
 intro pins s σ H x y v u Q I rx ry h;obtain⟨l,b,xs,zs,rfl,rfl,hH,hB,hz,q⟩:=h;cases rx;cases ry;obtain⟨z,its,n,r,hl,e⟩:=I.lstM hH;obtain⟨z2,its2,n2,r2,hl2,e2⟩:=I.lstM hB;refine PySem.P.add_list e e2 ?_ (by rw[size_toArray,size_toArray];omega);have ea:its.toArray++its2.toArray=(its++its2).toArray:=by simp
 rw[ea];exact⟨.ref _,_,I.lnew (t':=s.toks) (r.append r2) (by rw[a9];omega),rfl,q _ I.fresh⟩
end L2
namespace Att
open List
open PySem PySem.W PySem.Calls PyProof.Rows
variable{P:Params}{h:Heap}
theorem IF:∀(ns:List Int) (vs:LVa),WellAll P h vs (ns.map WData.int)->e7 vs ns:=by
 intro ns
 induction ns with
 |nil=>
  intro vs w;rw[map_nil]at w;cases w
  exact .nil
 |cons n ns ih=>
  intro vs w;rw[bn]at w
  cases w with
  |cons a b=>
   cases a;exact .cons _ _ (ih _ b)
variable{l:OpenLaw}{n:Nat}{vals:LVa}
theorem IG(hn:l.most=aa n){args:List WData}
 (hpre:l.row.toRowW.claim.pre args=ab)(hwl:WellAll P h vals args):
  ∃a vs ns,vals=[cI a]/\args=[WData.list (ns.map WData.int)]/\h.get? a=aa {cls:=.type "list",data:=.seq vs.toArray}/\e7 vs ns/\ns.length<=n:=by
 have hsh:WShape.hasAll [] args [.list .int]=ab:=(pre_splitW hpre).1;have hc:l.pre.holds [] {args:=args}=ab:=(pre_splitW hpre).2;obtain⟨d,r,rfl,h1,h2⟩:=hasAllW_cons hsh;obtain rfl:=hasAllW_nil h2;obtain⟨xs,rfl,h3⟩:=hasW_list h1;obtain⟨ns,rfl⟩:=items_int h3
 have hlen:ns.length<=n:=by
  unfold OpenLaw.pre at hc
  have h4:(WTm.not (.lt (.lit (.int (n:Int))) (.len (.arg 0)))).holds [] {args:=[.list (ns.map .int)]}=ab:=by
   have h4:=(holds_andW hc).1;rw[hn]at h4;exact h4
  have h5:=condW_of h4 (w_not (w_lt w_lit (w_len_list (w_arg rfl))));rw[aH]at h5;refine pq λq=>?_;have q':(n:Int)<((ns.length:Nat):Int):=by omega
  first
   |(rw[decide_eq_true q']at h5;exact absurd h5 (by decide))
   |(simp at h5;omega)
 cases hwl with
 |cons w1 w2=>
  cases w2
  cases w1 with
  |list ho hall=>exact⟨_,_,ns,rfl,rfl,ho,IF ns _ hall,hlen⟩
theorem IH(l:OpenLaw)(args:List WData):l.row.toRowW.claim.post args (.bool ab) args=ab:=
 postW_of (r:=l.row.toRowW) (X:=(ab==ab))
  (show WShape.has [] (.bool ab) .bool=ab by first |rfl |decide |simp[WShape.has,WShape.arms,WShape.armsAll])
  (show(WTm.eq .res (.lit (.bool ab))).value [] {args:=args,res:=aa (.bool ab),after:=args}=aa (.bool (ab==ab))from w_eq_bool (w_res rfl) w_lit) rfl
variable{q:cH}{loose:LSt}{XP:MGT->Heap->Prop}{YP:World->Heap->Prop}{d:DefRec}
theorem attach_call
 (hn:l.most=aa n)(hdf:d.params.defaults=[])
 (call:∀ (w:World) (s₀ s₁:ai) (mg mb:MGT) (fa:Addr) (o:Obj) (pm cd doc:Value) (a:Addr) (vs:LVa) (ns:List Int),
   Ground q loose [] XP w s₀ mg mb s₁.heap->YP w s₁.heap ->
   s₁.heap.get? fa=aa o->o.data=.func (docDef d.name d.params d.body d.scope pm cd doc)->s₁.heap.CodeRec cd d.name->mg d.name=aa (.ref fa) ->
   s₁.heap.get? a=aa {cls:=.type "list",data:=.seq vs.toArray}->e7 vs ns->ns.length<=n->s₁.gens=#[] ->
   ix (model l.prog w) callerA (.call (.ref fa) ⟨[.ref a],[]⟩) (λr s'=>r=.ok (.ret (.bool ab))/\OldK s₁.heap s'.heap/\s'.os=s₁.os/\j2 s'.gens) s₁):
  WalkO q loose XP YP l.row.toRowW d [] (λf vs=>PySem.call f vs):=by
 intro w s₀ s₁ mg mb G Y fa o pm cd doc dV kV ho hd hcd hD hmg hg args vals as hpre hlay hrd hwl hlo;obtain rfl:dV=.none:=Dflts.none hD hdf;obtain rfl:kV=.none:=Dflts.noKw hD;obtain⟨a,vs,ns,rfl,rfl,hobj,hints,hlen⟩:=IG hn hpre hwl;refine enter_call (nH (call w s₀ s₁ mg mb fa o pm cd doc a vs ns G Y ho (fd_plain hd) hcd hmg hobj hints hlen hg) λr s' hq=>?_);obtain⟨rfl,h2,h3,h4⟩:=hq;exact⟨.inl ⟨.bool ab,.bool ab,[],rfl,λ_=>rfl,.bool ab,IH l _,λ_=>⟨List.Pairwise.nil,λ_ hm=>(nomatch hm)⟩⟩,h2,h3,h4⟩
end Att
namespace L2
open List
open PySem PySem.Spec PyProof.Rows
theorem BY:∀{vs:LVa} {ns:List Int},e7 vs ns->aG (ns.map V.int) vs
 | _,_,.nil=>.nil
 | _,_,.cons n t h=>.cons ⟨t,rfl⟩ (BY h)
def sh(H:Hp):Prop:=∀b,H b=ac\/∃o xs,H b=aa (.frz o (.lst xs))
variable{P:cH}{w:World}{K:aX}{mg:MGT}{a:Addr}{fd:eB}{x:Str}{ns:List Int}
theorem II{mb:MGT}{CX:CXT}{k:Nat}{fa:Addr}{sp:Sp}{s₁:ai}{vs:LVa}
 (KX:K.In s₁.heap)(hns:s₁.heap.Ns cG mg)(hb:s₁.heap.Ns builtinsNs mb)(hbb:∀x:Str,x ≠ "__name__" -> mb x=jq x)(hlim:s₁.heap.NoLimit)(hg:s₁.gens=#[])
 (ha:s₁.heap.get? a=aa {cls:=.type "list",data:=.seq vs.toArray})(hi:e7 vs ns)(hl:ns.length<=aS)(hr:bG k callerA)
 (F:∀base:Heap,K.In base->base.Ns cG mg->df P w K mg base CX k fa fd [x] sp)(hbind:∀(s:ai) (u:Value),BindsTo s fd ⟨[u],[]⟩ [(x,u)])
 (hsp:∀H:Hp,sh H->SqL K H a (ns.map V.int)->sp [.ref a] H (λv _=>v=.bl ab) λ_ _ _=>False)
 (hCX:∀H e s',CX [] H s₁ (λ_ _ _=>False) e s'->False):
  ix (model P w) callerA (.call (.ref fa) ⟨[.ref a],[]⟩) (λr s'=>r=.ok (.ret (.bool ab))/\OldK s₁.heap s'.heap/\s'.os=s₁.os/\j2 s'.gens) s₁:=by
 have rv:=BY hi;have lenV:=hi.length
 have core:∀H:Hp,sh H->SqL K H a (ns.map V.int)->HOk P w H s₁.heap->(∀b,H b≠ac->b=a)->(H a≠ac->K.lookup a=ac) ->
   ix (model P w) callerA (.call (.ref fa) ⟨[.ref a],[]⟩) (λr s'=>r=.ok (.ret (.bool ab))/\OldK s₁.heap s'.heap/\s'.os=s₁.os/\j2 s'.gens) s₁:=by
  intro H hO hS hok hA hK;have base_of:∀{b:Addr} {o:Obj},s₁.heap.get? b=aa o->H b=ac->(j9 s₁.heap H).get? b=aa o:=λe n=>Gp e n
  have noA:∀{b:Addr} {o:Obj} {es:Array DictEntry} {ep:Nat},s₁.heap.get? b=aa o->o.data=.dict es ep->H b=ac:=λ{b o es ep} e d=>by
   cases q:H b with
   |none=>rfl
   |some u=>
    have e':b=a:=hA b (by rw[q];simp);subst e';rw[ha]at e;cases e;have d':Data.seq vs.toArray _=Data.dict es ep:=d;cases d'
  have nsK:∀{b:Addr} {m:MGT},s₁.heap.Ns b m->(j9 s₁.heap H).Ns b m:=λ{b m} ⟨o,es,ep,e,d,r⟩=>⟨o,es,ep,base_of e (noA e d),d,r⟩
  have hKb : K.In (j9 s₁.heap H):=λb o e=>base_of (KX b o e) (by
   cases q:H b with
   |none=>rfl
   |some u=>
    have e':b=a:=hA b (by rw[q];simp);subst e';rw[hK (by rw[q];simp)]at e;cases e)
  have hM:Mod K mg (j9 s₁.heap H):=⟨hKb,nsK hns,⟨mb,nsK hb,hbb⟩,let ⟨mc,h1,h2⟩:=hlim;⟨mc,nsK h1,h2⟩⟩;have e0:mo P w K mg (j9 s₁.heap H) callerA [] s₁ H:=⟨rfl,hM,λb o e=>Gq e,Nat.le_of_eq (Go _ _),trivial,λb hb=>absurd (show b∈([]:LAd)from hb) (by simp),hok,.of_eq hg⟩;refine nH ((F _ hKb (nsK hns)).run callerA [] s₁ H ⟨[.ref a],[]⟩ [.ref a] [.ref a] _ _ hr e0 (hbind s₁ (.ref a)) (.cons rfl .nil) (hsp H hO hS)) λr s' h=>?_
  cases r with
  |error e=>exact(hCX H e s' h).elim
  |ok fl=>
   cases fl with
   |next=>exact hE h
   |brk=>exact hE h
   |cont=>exact hE h
   |ret u=>
    obtain⟨v,H',os,bare,un,hok',r',q⟩:=h;have q':v=.bl ab:=q;subst q';obtain rfl:u=gq ab:=r';refine⟨rfl,OldK.of_keep λb o e=>?_,os,bare⟩
    cases q:H b with
    |none=>exact un.keep b o e q (by intro z;exact absurd (show b∈([]:LAd)from z) (by simp)) (by simp)
    |some u=>
     rcases hO b with z |⟨ob,xs,z⟩
     .rw[q]at z;cases z
     .have z2:=un.frzs b ob _ z;obtain⟨e1,_⟩:=hok b _ z;obtain⟨e2,_⟩:=hok' b _ z2;rw[e]at e1;cases e1;exact e2
 cases hk:K.lookup a with
 |some o=>
  have e:=KX a o hk;rw[ha]at e;cases e
  refine core (λ_=>ac) (λ_=>.inl rfl) (.inr ⟨_,vs.toArray,_,hk,rfl,rfl,rfl,by rw[size_toArray,lenV];exact hl,by simpa using rv⟩) (λb u z=>by have z':(ac:Option HO)=aa u:=z;cases z') (λb z=>absurd rfl z) λz=>absurd rfl z
 |none=>
  refine core (λb=>if b=a then aa (.frz {cls:=.type "list",data:=.seq vs.toArray} (.lst (ns.map V.int))) else ac) (λb=>?_) (.inl (.inr ⟨{cls:=.type "list",data:=.seq vs.toArray},if_pos rfl⟩)) (λb u z=>?_) (λb z=>?_) λ_=>hk
  .by_cases hb:b=a
   .exact .inr ⟨_,_,if_pos hb⟩
   .exact .inl (if_neg hb)
  .by_cases hb:b=a
   .have z':=(if_pos hb).symm.trans z;cases z';subst hb;exact⟨ha,by rw[aH];exact hl,vs,_,rv,ha⟩
   .have z':=(if_neg hb).symm.trans z;cases z'
  .by_cases hb:b=a
   .exact hb
   .exact absurd (if_neg hb) z
variable{h:Heap}
noncomputable abbrev KOf(_:K.In h):aX:=K
variable{l:W.OpenLaw}{q:cH}{loose:LSt}{XP:MGT->Heap->Prop}{YP:World->Heap->Prop}{d:DefRec}
theorem IJ{n k:Nat}{K:Params->aX}{CX:World->CXT}{sp:World->Sp}
 (hn:l.most=aa n)(hn2:n<=aS)(hdf:d.params.defaults=[])(hr:bG k callerA)
 (hY:∀(w:World) (h:Heap),YP w h->(K w.params).In h)
 (F:∀ (w:World) (mg:MGT) (fa:Addr) (h:Heap),(K w.params).In h->h.Ns cG mg->mg d.name=aa (.ref fa) ->
   ∃fd:eB,(∀(s:ai) (u:Value),BindsTo s fd ⟨[u],[]⟩ [(x,u)]) /\
    ∀base:Heap,(K w.params).In base->base.Ns cG mg->df l.prog w (K w.params) mg base (CX w) k fa fd [x] (sp w))
 (hsp:∀(w:World) (H:Hp) (a:Addr) (ns:List Int),ns.length<=n->sh H->SqL (K w.params) H a (ns.map V.int)->sp w [.ref a] H (λv _=>v=.bl ab) λ_ _ _=>False)
 (hCX:∀(w:World) (H:Hp) (s:ai) (e:Value) (s':ai),CX w [] H s (λ_ _ _=>False) e s'->False):
  W.WalkO q loose XP YP l.row.toRowW d [] (λf vs=>PySem.call f vs):=by
 refine Att.attach_call hn hdf λw s₀ s₁ mg mb fa o pm cd doc a vs ns G Y ho hd hcd hmg hobj hints hlen hg=>?_;have KX:=hY w _ Y;obtain⟨fd,hb,hF⟩:=F w mg fa _ KX G.T.g hmg;exact II KX G.T.g G.T.b G.T.builtins G.T.nolimit hg hobj hints (cZ hlen hn2) hr hF hb (λH hO hS=>hsp w H a ns hlen hO hS) λH e s'=>hCX w H s₁ e s'
variable{CX:CXT}
theorem walk_ofK{n k:Nat}{K:Params->aX}{sp:aX->Sp}
 (hn:l.most=aa n)(hn2:n<=aS)(hdf:d.params.defaults=[])(hr:bG k callerA)
 (hY:∀(w:World) (h:Heap),YP w h->(K w.params).In h)
 (F:∀ (w:World) (mg:MGT) (fa:Addr) (h:Heap),(K w.params).In h->h.Ns cG mg->mg d.name=aa (.ref fa) ->
   ∃fd:eB,(∀(s:ai) (u:Value),BindsTo s fd ⟨[u],[]⟩ [(x,u)]) /\
    ∀base:Heap,(K w.params).In base->base.Ns cG mg->df l.prog w (K w.params) mg base CX k fa fd [x] (sp (K w.params)))
 (hsp:∀(K:aX) (H:Hp) (a:Addr) (ns:List Int),ns.length<=n->sh H->SqL K H a (ns.map V.int)->sp K [.ref a] H (λv _=>v=.bl ab) λ_ _ _=>False)
 (hCX:∀(H:Hp) (s:ai) (e:Value) (s':ai),CX [] H s (λ_ _ _=>False) e s'->False):
  W.WalkO q loose XP YP l.row.toRowW d [] (λf vs=>PySem.call f vs):=
 IJ (K:=K) (CX:=λ_=>CX) (sp:=λw=>sp (K w.params)) hn hn2 hdf hr hY F (λw H a ns h1 h2 h3=>hsp (K w.params) H a ns h1 h2 h3) λ_ H s e s'=>hCX H s e s'
noncomputable def b4(s:Stmt)(j:Nat):Stmt:=match s with
 |.ClassDef _ _ _ body _ _ _ _ _ _ _=>body.getD j (.Pass ⟨0,0,0,0⟩)
 | _=>.Pass ⟨0,0,0,0⟩
noncomputable def pO(s:Stmt):Arguments:=match s with
 |.FunctionDef _ a _ _ _ _ _ _ _ _=>a
 | _=>{posonlyargs:=[],args:=[],vararg:=ac,kwonlyargs:=[],kw_defaults:=[],kwarg:=ac,defaults:=[]}
noncomputable def i7(s:Stmt):List Stmt:=match s with
 |.FunctionDef _ _ b _ _ _ _ _ _ _=>b
 | _=>[]
noncomputable def aD(s:Stmt):Scope:=match s with
 |.FunctionDef _ _ _ _ _ _ sc _ _ _=>sc
 | _=>{kind:=.function,names:=[],isGenerator:=ae,isCoroutine:=ae}
abbrev CX0:CXT:=λ_ _ _ _ _ _=>False
abbrev E0:XK:=λ_ _ _=>False
variable{X:Cx}
theorem ib:mq CX0 X E0:=λ_ _ _ _ _ _ _ h=>h.elim
structure Fun(K:aX)(x qual:Str)(st:Stmt)(f:Addr)(fd:eB):Prop where
 ex:∃(oc:Value) (od:Option Addr) (kV doc pm:Value) (an:Option Addr) (cdv ct:Value) (osl:Array (Option Value)),
  fd=W.fnOf x qual (pO st) (i7 st) (aD st) .none kV doc pm an cdv ct/\K.lookup f=aa ⟨oc,od,.func fd,osl⟩/\W.codeIn K cdv qual=ab
 kp:i0 K (.ref f)=ab
variable{base:Heap}{qual:Str}{st:Stmt}{f:Addr}{N ps:LSt}{sp:Sp}
theorem Fun.ok{k:Nat}(F:Fun K x qual st f fd)(S:aM N ps (aD st))(len:∀vs H Q E,sp vs H Q E->vs.length=ps.length)
 (hbody:∀ (cdv:Value) (A:cP) (outer:List Env) (s:ai) (H:Hp) (vs:List V) (Q:VK) (E:XK),bG k (A.deeper (gO qual (aD st) s.heap.objs.size f cdv))->sp vs H Q E ->
   ∃t,PSs (i6 CX0 P w K mg base N qual (aD st) f cdv A outer s H E).nox (i7 st) t/\t {nx:=λ_ H'=>Q .non H',rt:=Q} (start N vs) H):df P w K mg base CX0 (k+1) f fd ps sp:=by
 obtain⟨oc,od,kV,doc,pm,an,cdv,ct,osl,rfl,lk,hcd⟩:=F.ex;refine HZ lk hcd S len λA outer s H vs Q E hr hsp=>?_;obtain⟨t,h,q⟩:=hbody cdv A outer s H vs Q E hr hsp;exact⟨t,h.nox,q⟩
theorem Fun.binds(F:Fun K x qual st f fd)
 (h:∀(kV doc pm:Value) (an:Option Addr) (cdv ct:Value) (us:LVa),us.length=ps.length->bindArgs (W.fnOf x qual (pO st) (i7 st) (aD st) .none kV doc pm an cdv ct) ⟨us,[]⟩=pure (ps.zip us)):gr K fd ps []:=by
 obtain⟨oc,od,kV,doc,pm,an,cdv,ct,osl,rfl,lk,hcd⟩:=F.ex;exact .all (h kV doc pm an cdv ct)
theorem fun_mk{oc:Value}{od an:Option Addr}{osl:Array (Option Value)}{kV doc pm cdv ct:Value}(l:K.lookup f=aa ⟨oc,od,.func (W.fnOf x qual (pO st) (i7 st) (aD st) .none kV doc pm an cdv ct),osl⟩)
 (c:W.codeIn K cdv qual=ab)(k:i0 K (.ref f)=ab):Fun K x qual st f (W.fnOf x qual (pO st) (i7 st) (aD st) .none kV doc pm an cdv ct):=⟨⟨oc,od,kV,doc,pm,an,cdv,ct,osl,rfl,l,c⟩,k⟩
structure Df(K:aX)(mg:MGT)(x:Str)(st:Stmt)(ps:LSt)(e:Addr×eB):Prop where
 F:Fun K x x st e.1 e.2
 b:gr K e.2 ps []
 g:mg x=aa (.ref e.1)
structure Dm(K:aX)(C:Addr)(x q:Str)(st:Stmt)(ps:LSt)(e:Addr×eB):Prop where
 F:Fun K x q st e.1 e.2
 b:gr K e.2 ps []
 m:pM K C x e.1
structure Pk(P:cH)(w:World)(K:aX)(mg:MGT)(base:Heap)(CX:CXT)(k:Nat)(x:Str)(e:Addr×eB)(ps:LSt)(sp:Sp):Prop where
 ok:df P w K mg base CX k e.1 e.2 ps sp
 g:mg x=aa (.ref e.1)
 kp:i0 K (.ref e.1)=ab
 b:gr K e.2 ps []
structure Pm(P:cH)(w:World)(K:aX)(mg:MGT)(base:Heap)(CX:CXT)(k:Nat)(C:Addr)(x:Str)(e:Addr×eB)(ps:LSt)(sp:Sp):Prop where
 ok:df P w K mg base CX k e.1 e.2 ps sp
 c:Cls K C
 m:pM K C x e.1
 b:gr K e.2 ps []
variable{e:Addr×eB}
section
variable{k:Nat}
theorem Df.pk(E:Df K mg x st ps e)(o:df P w K mg base CX k e.1 e.2 ps sp):Pk P w K mg base CX k x e ps sp:=⟨o,E.g,E.F.kp,E.b⟩
end
variable{q:Str}{C:Addr}
section
variable{k:Nat}
theorem Dm.pk(E:Dm K C x q st ps e)(c:Cls K C)(o:df P w K mg base CX k e.1 e.2 ps sp):Pm P w K mg base CX k C x e ps sp:=⟨o,c,E.m,E.b⟩
end
structure Dq(K:aX)(x:Str)(st:Stmt)(f:Addr)(fd:eB):Prop where
 a:eQ K cG x=aa (aa (.ref f))
 F:Fun K x x st f fd
structure Dp(K:aX)(C:Addr)(x q:Str)(st:Stmt)(f:Addr)(fd:eB):Prop where
 a:cQ K (.ref C) x=aa (aa (.ref f))
 i:W.isFn K (.ref f)=ab
 F:Fun K x q st f fd
abbrev wc(x q:Str)(st:Stmt)(ps:LSt):Prop:=∀(kV doc pm:Value) (an:Option Addr) (cdv ct:Value) (us:LVa),us.length=ps.length->bindArgs (W.fnOf x q (pO st) (i7 st) (aD st) .none kV doc pm an cdv ct) ⟨us,[]⟩=pure (ps.zip us)
theorem Dq.mk2(d:Dq K x st f fd)(X:K.In h)(G:h.Ns cG mg)(b:wc x x st ps:=by walk_at "bd"):Df K mg x st ps (f,fd):=⟨d.F,d.F.binds b,W.mg_of X G d.a⟩
theorem Dp.mk2(d:Dp K C x q st f fd)(b:wc x q st ps:=by walk_at "bd"):Dm K C x q st ps (f,fd):=⟨d.F,d.F.binds b,⟨d.a,d.i,d.F.kp⟩⟩
theorem Dq.bt{p:Str}(d:Dq K x st f fd)(b:wc x x st [p])(s:ai)(v:Value):BindsTo s fd ⟨[v],[]⟩ [(p,v)]:=by
 obtain⟨oc,od,kV,doc,pm,an,cdv,ct,osl,rfl,lk,hcd⟩:=d.F.ex;exact .of_eq (b kV doc pm an cdv ct [v] rfl)
variable{n:Nat}
theorem BZ(h:n<=1000):n<aS:=nu h (by decide)
variable{pos:Pos}
theorem pv(i:Nat)(hN:X.N[i]?=aa x:=by rfl)(hv:Vis X.env.scope x:=by first |exact cv rfl |exact bO (cv rfl) |exact bO (bO rfl))(hd:NDb x:=by decide)
 (hcd:NCd x:=by decide):PE X (.Name x pos) (dq i):=nN hN hv hd hcd
variable{A B:Prop}
theorem we(h:B):if ae=ab then A else B:=by
 rw[if_neg bd];exact h
theorem wf(h:A):if ab=ab then A else B:=by
 rw[if_pos rfl];exact h
def aw(H H':Hp):Prop:=∀b o,H b=aa o->H' b=aa o
theorem aw.refl(H:Hp):aw H H:=λ_ _ h=>h
variable{H H1 H2:Hp}
theorem aw.trans(a:aw H H1)(b:aw H1 H2):aw H H2:=λc o h=>b c o (a c o h)
variable{H':Hp}{l:Addr}
theorem aw.free(e:aw H H')(h:H' l=Option.none):H l=Option.none:=by
 cases q:H l with
 |none=>rfl
 |some o=>
  rw[e l o q]at h;cases h
theorem aw.seq{xs:List V}(e:aw H H')(h:SqL K H a xs):SqL K H' a xs:=by
 rcases h with(h |⟨o,h⟩) |h
 .exact .inl (.inl (e _ _ h))
 .exact .inl (.inr ⟨o,e _ _ h⟩)
 .exact .inr h
section
variable{κ:Type}[DecidableEq κ]
noncomputable def cR(kvs:List (κ×V))(k:κ):Option V:=(kvs.find? λkv=>decide (kv.1=k)).map (·.2)
noncomputable def dD(kvs:List (κ×V))(k:κ)(v:V):List (κ×V):=
 if (kvs.any λkv=>decide (kv.1=k))=ab then kvs.map (λkv=>if kv.1=k then (kv.1,v) else kv) else kvs++[(k,v)]
theorem B0{k:κ}:cR ([]:List (κ×V)) k=ac:=rfl
theorem pP{p:κ×V}{r:List (κ×V)}{k:κ}(e:p.1=k):cR (p::r) k=aa p.2:=by simp[cR,lO,e]
theorem nQ{p:κ×V}{r:List (κ×V)}{k:κ}(e:¬p.1=k):cR (p::r) k=cR r k:=by simp[cR,lO,e]
theorem si(k:κ):∀kvs:List (κ×V),(kvs.any λkv=>decide (kv.1=k))=(cR kvs k).isSome
 | []=>rfl
 |p::r=>by
  rw[gM]
  by_cases e:p.1=k
  .simp only[pP e,decide_eq_true e,Bool.true_or,Option.isSome_some]
  .rw[nQ e,decide_eq_false e,Bool.false_or];exact si k r
theorem wg(kvs:List (κ×V))(k:κ)(v:V):(dD kvs k v).length<=kvs.length+1:=by
 unfold dD;split
 .rw[aH];omega
 .rw[a9,b9,length_nil];omega
theorem e9.isSome_eq{o:Option V}{u:Option Value}(r:e9 o u):o.isSome=u.isSome:=by
 cases o with
 |none=>cases u with
  |none=>rfl
  |some _=>exact(show False from r).elim
 |some _=>cases u with
  |none=>exact(show False from r).elim
  |some _=>rfl
theorem e9.getD{o:Option V}{u:Option Value}{d:V}{d':Value}(r:e9 o u)(rd:aF d d'):aF (o.getD d) (u.getD d'):=by
 cases o with
 |none=>cases u with
  |none=>exact rd
  |some _=>exact(show False from r).elim
 |some _=>cases u with
  |none=>exact(show False from r).elim
  |some _=>exact r
theorem KV.val{kvs:List (κ×V)}{vs:List (κ×Value)}(r:KV kvs vs)(k:κ):e9 (cR kvs k) (valueAt vs k):=by
 unfold KV at r
 induction r with
 |nil=>exact iC
 | @cons p q ps qs h t ih=>
  obtain⟨h1,h2⟩:=h
  by_cases e:p.1=k
  .have e':q.1=k:=h1.symm.trans e;have b:valueAt (q::qs) k=aa q.2:=by simp[valueAt,lO,e']
   rw[pP e,b];exact h2
  .have e':¬q.1=k:=λz=>e (h1.trans z);have b:valueAt (q::qs) k=valueAt qs k:=by simp[valueAt,lO,e']
   rw[nQ e,b];exact ih
theorem KV.any{kvs:List (κ×V)}{vs:List (κ×Value)}(r:KV kvs vs)(k:κ):(kvs.any λkv=>decide (kv.1=k))=vs.any λkv=>decide (kv.1=k):=by
 unfold KV at r
 induction r with
 |nil=>rfl
 |cons h t ih=>rw[gM,gM,ih,h.1]
theorem KV.repl{kvs:List (κ×V)}{vs:List (κ×Value)}(r:KV kvs vs)(k:κ){y:V}{u:Value}(ry:aF y u):
  KV (kvs.map λkv=>if kv.1=k then (kv.1,y) else kv) (vs.map λkv=>if kv.1=k then (kv.1,u) else kv):=by
 unfold KV at r ⊢
 induction r with
 |nil=>exact .nil
 | @cons p q ps qs h t ih=>
  rw[bn,bn];refine .cons ?_ ih;obtain⟨h1,h2⟩:=h
  by_cases e:p.1=k
  .rw[if_pos e,if_pos (h1.symm.trans e)];exact⟨h1,ry⟩
  .rw[if_neg e,if_neg (λz=>e (h1.trans z))];exact⟨h1,h2⟩
theorem KV.put{kvs:List (κ×V)}{vs:List (κ×Value)}(r:KV kvs vs)(k:κ){y:V}{u:Value}(ry:aF y u):KV (dD kvs k y) (stored vs k u):=by
 unfold dD stored;rw[r.any k]
 by_cases e:(vs.any λkv=>decide (kv.1=k))=ab
 .rw[if_pos e,if_pos e];exact r.repl k ry
 .rw[if_neg e,if_neg e];exact hV.snoc r ⟨rfl,ry⟩
theorem KV.length{kvs:List (κ×V)}{vs:List (κ×Value)}(r:KV kvs vs):kvs.length=vs.length:=nJ r
end
variable{u:Value}
theorem sj{k:Key}(r:aF (kV k) u):(iD P w).is k u=ab:=by
 cases k with
 |inl i=>obtain⟨t,e⟩:=(show ∃t,u=ma i t from r);subst e;exact Gg P w i t
 |inr x=>obtain⟨t,e⟩:=(show ∃t,u=nM x t from r);subst e;exact Gh P w x t
abbrev KT(H:Hp):List (List Key×V)->List (List Key×Addr×Value)->Prop:=hV λp q=>p.1=q.1/\fH H q.2.1 p.1/\aF p.2 q.2.2
variable{kvs:List (List Key×V)}{xs:List (List Key×Addr×Value)}
theorem KT.val(r:KT H kvs xs)(k:List Key):e9 (cR kvs k) ((atKey xs k).map (·.2)):=by
 induction r with
 |nil=>exact iC
 | @cons p q ps qs h t ih=>
  obtain⟨h1,_,h2⟩:=h
  by_cases e:p.1=k
  .have e':q.1=k:=h1.symm.trans e;have b:atKey (q::qs) k=aa q.2:=by simp[atKey,lO,e']
   rw[pP e,b];exact h2
  .have e':¬q.1=k:=λz=>e (h1.trans z);have b:atKey (q::qs) k=atKey qs k:=by simp[atKey,lO,e']
   rw[nQ e,b];exact ih
variable{y:V}
theorem KT.repl(r:KT H kvs xs)(k:List Key)(ry:aF y u):
  KT H (kvs.map λkv=>if kv.1=k then (kv.1,y) else kv) (xs.map (putAt k u)):=by
 induction r with
 |nil=>exact .nil
 | @cons p q ps qs h t ih=>
  rw[bn,bn];refine .cons ?_ ih;obtain⟨h1,h2,h3⟩:=h;unfold putAt
  by_cases e:p.1=k
  .rw[if_pos e,if_pos (h1.symm.trans e)];exact⟨h1,h2,ry⟩
  .rw[if_neg e,if_neg (λz=>e (h1.trans z))];exact⟨h1,h2,h3⟩
variable{b:Addr}
theorem KT.put(r:KT H kvs xs)(k:List Key)(hb:fH H b k)(ry:aF y u):
  KT H (dD kvs k y) (storedH xs k b u):=by
 have e:(kvs.any λkv=>decide (kv.1=k))=(atKey xs k).isSome:=by
  rw[si,(r.val k).isSome_eq,Option.isSome_map]
 unfold dD storedH;rw[e]
 by_cases q:(atKey xs k).isSome=ab
 .rw[if_pos q,if_pos q];exact r.repl k ry
 .rw[if_neg q,if_neg q];exact hV.snoc r ⟨rfl,hb,ry⟩
theorem KT.keeps(r:KT H kvs xs)(ht:∀b ys,H b=aa (.tup ys)->H' b=aa (.tup ys)):KT H' kvs xs:=
 hV.mapP r λ_ _ z=>⟨z.1,z.2.1.up ht,z.2.2⟩
theorem B1{u:HO}(ok:HOk P w H h)(e:Rd H a u):cU P w H h a u:=e.ok ok
theorem nR{kvs:List (Key×V)}(ok:HOk P w H h)(e:Rd H a (.dK kvs)):kvs.length<=aS/\(a==gP)=ae/\∃vs,KV kvs vs/\h.DictOf (iD P w) a vs:=
 show cU P w H h a (.dK kvs)from B1 ok e
theorem B2{kvs:List (Key×V)}(ok:HOk P w H h)(e:H a=aa (.dK kvs)):kvs.length<=aS/\(a==gP)=ae/\∃vs,KV kvs vs/\h.DictOf (iD P w) a vs:=nR ok (.inl e)
variable{ks:List Key}
theorem nS(ok:HOk P w H h)(e:fH H a ks):(l6 (j8 P w)).is h ks a:=by
 obtain⟨vs,e,kr⟩:=e;obtain⟨_,its,r,o,h1,h2,n,h3⟩:=(show cU P w H h a (.tup vs)from ok a _ e);exact⟨o,its.toArray,n,h1,h2,h3,by simpa using Bi kr r⟩
theorem nU(ok:HOk P w H h)(e:Rd H a (.dT kvs)):kvs.length<=aS/\(a==gP)=ae /\
  ∃xs,KT H kvs xs/\h.DictOfH (l6 (j8 P w)) a xs:=by
 obtain⟨z,y,xs,r,o,es,ep,h1,h2,h3,h4,h5⟩:=(show cU P w H h a (.dT kvs)from B1 ok e);refine⟨z,y,xs,r,o,es,ep,h1,h2,h3,h4,λx hx=>?_,h5⟩
 have all:∀{l:List (List Key×V)} {m:List (List Key×Addr×Value)},KT H l m->∀x∈m,(l6 (j8 P w)).is h x.1 x.2.1:=by
  intro l m q
  induction q with
  |nil=>intro x hx;exact nomatch hx
  | @cons p q ps qs hq t ih=>
   intro x hx
   rcases aW.mp hx with e |hx
   .subst e;exact nS ok (by rw[<- hq.1];exact hq.2.1)
   .exact ih x hx
 exact all r x hx
theorem B3(ok:HOk P w H h)(e:H a=aa (.dT kvs)):kvs.length<=aS/\(a==gP)=ae /\
  ∃xs,KT H kvs xs/\h.DictOfH (l6 (j8 P w)) a xs:=nU ok (.inl e)
def gs(H:Hp)(a:Addr)(y:V)(r:Option V):Prop:=
 (∃kvs k,Rd H a (.dK kvs)/\y=kV k/\r=cR kvs k)\/∃kvs k b,Rd H a (.dT kvs)/\y=.ref b/\fH H b k/\r=cR kvs k
def k9(H:Hp)(a:Addr)(y v:V)(H':Hp):Prop:=
 (∃kvs k,H a=aa (.dK kvs)/\y=kV k/\kvs.length<aS/\H'=upd H a (.dK (dD kvs k v))) \/
 ∃kvs k b,H a=aa (.dT kvs)/\y=.ref b/\fH H b k/\kvs.length<aS/\H'=upd H a (.dT (dD kvs k v))
theorem gs.k{kvs:List (Key×V)}{k:Key}(e:H a=aa (.dK kvs)):gs H a (kV k) (cR kvs k):=.inl ⟨kvs,k,.inl e,rfl,rfl⟩
theorem gs.t{k:List Key}(e:H a=aa (.dT kvs))(eb:fH H b k):gs H a (.ref b) (cR kvs k):=.inr ⟨kvs,k,b,.inl e,rfl,eb,rfl⟩
variable{v:V}
theorem k9.k{kvs:List (Key×V)}{k:Key}(e:H a=aa (.dK kvs))(hl:kvs.length<aS):k9 H a (kV k) v (upd H a (.dK (dD kvs k v))):=.inl ⟨kvs,k,e,rfl,hl,rfl⟩
theorem k9.t{k:List Key}(e:H a=aa (.dT kvs))(eb:fH H b k)(hl:kvs.length<aS):
  k9 H a (.ref b) v (upd H a (.dT (dD kvs k v))):=.inr ⟨kvs,k,b,e,rfl,eb,hl,rfl⟩
variable{pins:PNS}{σ:St}
section
variable{s:ai}
theorem Inv.big(I:Inv X pins σ H s):gP<s.heap.objs.size:=by
 have h:cG<s.heap.objs.size:=(I.mod.glob.keeps I.bk).lt;exact lS (by decide) h
end
variable{A:cP}{E Q:PRS}
section
variable{s:ai}
theorem IK(hu:A.units+1<cLine)(I:Inv X pins σ H s)(g:gs H a y (aa v))(ry:aF y u)(h:∀w' s',Inv X pins σ H s'->aF v w'->Q w' s'):
  wpAny (model X.prog X.w) A (getItem (.ref a) u) Q E s:=by
 rcases g with⟨kvs,k,e,ey,l⟩ |⟨kvs,k,b,e,ey,eb,l⟩
 .subst ey;obtain⟨z,hd,vs,rel,dd⟩:=nR I.hok e;obtain⟨w',hw,rw'⟩:=e9.some_of (v:=v) (o:=valueAt vs k) (by rw[l];exact rel.val k);exact wpAny_getItem_of (sj ry) dd.mapOf hw (h w' _ (I.tok _) rw')
 .subst ey;cases (show u=cI b from ry);obtain⟨z,hd,xs,rel,dd⟩:=nU I.hok e;obtain⟨w',hw,rw'⟩:=e9.some_of (v:=v) (o:=(atKey xs k).map (·.2)) (by rw[l];exact rel.val k);obtain⟨p,hp,hp2⟩:=Option.map_eq_some_iff.mp hw;refine wpAny_getItem_heap (pG hu) (nS I.hok eb) dd hp ?_;rw[hp2];exact h w' _ (I.tok _) rw'
end
section
variable{s:ai}{o:Option V}
theorem IL(hu:A.units+1<cLine)(I:Inv X pins σ H s)(g:gs H a y o)(ry:aF y u)(h:∀s',Inv X pins σ H s'->Q (.bool o.isSome) s'):
  wpAny (model X.prog X.w) A (c3 .In u (.ref a)) Q E s:=by
 rcases g with⟨kvs,k,e,ey,l⟩ |⟨kvs,k,b,e,ey,eb,l⟩
 .subst ey;obtain⟨z,hd,vs,rel,dd⟩:=nR I.hok e;refine wpAny_in_of (sj ry) hd dd.mapOf ?_;rw[<- (rel.val k).isSome_eq,<- l];exact h _ (I.tok _)
 .subst ey;cases (show u=cI b from ry);obtain⟨z,hd,xs,rel,dd⟩:=nU I.hok e;refine wpAny_in_heap (pG hu) (nS I.hok eb) hd dd ?_;have q:=(rel.val k).isSome_eq;rw[Option.isSome_map]at q;rw[<- q,<- l];exact h _ (I.tok _)
end
variable{h':Heap}{t':Nat}
section
variable{s:ai}
theorem wj{ob:HO}(I:Inv X pins σ H s)(mu:Mut (H a))(hs:gS a s.heap h')(he:∃q,h'.get? a=aa q)(new:cU X.prog X.w (upd H a ob) h' a ob):
  Inv X pins σ (upd H a ob) {s with heap:=h',toks:=t'}:=
 I.write (x:=a) (e:=a) mu (.inl rfl) (λb q hb z=>(hs.2 b hb).trans z) he new
end
theorem IM{kvs:List (Key×V)}{vs:List (Key×Value)}(z:kvs.length<=aS)(hd:(a==gP)=ae)(rel:KV kvs vs)(dd:h'.DictOf (iD P w) a vs):
  cU P w H' h' a (.dK kvs):=⟨z,hd,vs,rel,dd⟩
variable{r:Value}
section
variable{s:ai}
theorem IN{Q:Unit->ai->Prop}(hu:A.units+1<cLine)(I:Inv X pins σ H s)(g:k9 H a y v H')(ry:aF y u)(rv:aF v r)(h:∀s',Inv X pins σ H' s'->Q () s'):
  wpAny (model X.prog X.w) A (setItem (.ref a) u r) Q E s:=by
 rcases g with⟨kvs,k,e,ey,l,eH⟩ |⟨kvs,k,b,e,ey,eb,l,eH⟩
 .subst ey eH;obtain⟨z,hd,vs,rel,dd⟩:=B2 I.hok e;have hz:vs.length<=aS:=by rw[<- rel.length];exact z
  have hl:(dD kvs k v).length<=aS:=by have:=wg kvs k v;omega
  refine wpAny_setItem_pairs (hsz:=hz) (sj ry) dd λh' dd' hs=>h _ ?_;have he:∃q,h'.get? a=aa q:=let ⟨q,_,_,hq,_⟩:=dd';⟨q,hq⟩;exact wj I (by rw[e];exact iC) hs he (IM hl hd (rel.put k rv) dd')
 .subst ey eH;cases (show u=cI b from ry);obtain⟨z,hd,xs,rel,dd⟩:=B3 I.hok e;have hz:xs.length<=aS:=by rw[<- nJ rel];exact z
  have hl:(dD kvs k v).length<=aS:=by have:=wg kvs k v;omega
  refine wpAny_setItem_heap (hsz:=hz) (pG hu) (nS I.hok eb) dd λh' dd' hs=>h _ ?_;obtain⟨q,es,ep,hq,h2,h3,h4,_,h5⟩:=dd';refine wj I (by rw[e];exact iC) hs ⟨q,hq⟩ ⟨hl,hd,_,(rel.put k eb rv).keeps λc ys ec=>?_,q,es,ep,hq,h2,h3,h4,h5⟩;rw[aK (Bj ec e (λz=>nomatch z))];exact ec
end
def sm(i:Expr):Prop:=∀ov iv,subscripted i ae ov iv=operate [ov,iv] (getItem ov iv)
variable{prog:cH}{env:Env}{value:Expr}
theorem IP{s:ai}{slice:Expr}{T id:String}
 (hl:typeLookup (.type T) "__getitem__"=pure (aa (.builtin id)))(hs:sm slice)
 (h:wpAny (model prog w) A (eval value env) (λo s₁=>wpAny (model prog w) A (eval slice env) (λi s₂=>s₂.TypeIs o T/\wpAny (model prog w) A (getItem o i) Q E s₂) E s₁) E s):
  wpAny (model prog w) A (eval (.Subscript value slice pos) env) Q E s:=by
 refine Subscript_ (fT h (λo s₁ h₁=>fT h₁ (λi s₂ h₂=>?_) λ_ _ x=>x) λ_ _ x=>x);obtain⟨hT,h₂⟩:=h₂;unfold subscriptTail;refine ap ?_;rw[getitemInPython_of_ne hT.not_modules];refine ap (wpAny_specialOf hT hl ?_)
 have fin:wpAny (model prog w) A (subscripted slice ae o i) (λr s₃=>wpAny (model prog w) A (letTemporaryGo value o r >>= λ_=>pure r) Q E s₃) E s₂:=by
  rw[hs o i];exact wpAny_operating (fT h₂ (λr s₃ h₃=>ap (wpAny_letTemporaryGo (aJ h₃))) λ_ _ x=>x)
 first
  |exact aJ (ap fin)
  |exact ap (aJ (ap fin))
  |exact ap fin
theorem IQ{s:ai}{o:Option V}(I:Inv X pins σ H s)(g:gs H a y o):s.TypeIs (.ref a) "dict":=by
 rcases g with⟨kvs,k,e,_,_⟩ |⟨kvs,k,b,e,_,_,_⟩
 .obtain⟨_,_,vs,_,dd⟩:=nR I.hok e;exact dd.typeIs
 .obtain⟨_,_,xs,_,dd⟩:=nU I.hok e;exact dd.typeIs
def IR(td ty:TE):TE:=λσ H Q=>td σ H λx H1=>ty σ H1 λy H2=>∃a v,x=.ref a/\gs H2 a y (aa v)/\Q v H2
def IS(ty td:TE):TE:=λσ H Q=>ty σ H λy H1=>td σ H1 λx H2=>∃a o,x=.ref a/\gs H2 a y o/\Q (.bl o.isSome) H2
def wm(td ty tv:TE):TS:=λD σ H=>tv σ H λv H1=>td σ H1 λx H2=>ty σ H2 λy H3=>∃a H4,x=.ref a/\k9 H3 a y v H4/\D.nx σ H4
variable{i:Expr}{td ty:TE}
section
variable{o:Expr}
theorem B4(hu:X.A.units+1<cLine)(ho:PE X o td)(hi:PE X i ty)(hs:sm i):PE X (.Subscript o i pos) (IR td ty):=by
 intro pins s σ H Q I h;refine IP PySem.F.slot_dict_getitem.lookup hs (thn (ho pins s σ H _ I h) λu s1 ⟨x,H1,I1,rx,q1⟩=>thn (hi pins s1 σ H1 _ I1 q1) λiv s2 q_=>?_);obtain⟨y,H2,I2,ry,a,v,ex,g,q2⟩:=q_;subst ex;obtain rfl:u=cI a:=rx;exact⟨IQ I2 g,IK hu I2 g ry λw' s3 I3 rw'=>⟨v,H2,I3,rw',q2⟩⟩
end
section
variable{o:Expr}
theorem IT(hu:X.A.units+1<cLine)(hi:PE X i ty)(ho:PE X o td):PC X .In i o (IS ty td):=by
 intro pins s σ H Q I h;refine thn (hi pins s σ H _ I h) λiv s1 ⟨y,H1,I1,ry,q1⟩=>thn (ho pins s1 σ H1 _ I1 q1) λu s2 q_=>?_;obtain⟨x,H2,I2,rx,a,ov,ex,g,q2⟩:=q_;subst ex;obtain rfl:u=cI a:=rx;exact IL hu I2 g ry λs3 I3=>⟨.bl ov.isSome,H2,I3,rfl,q2⟩
end
variable{pos':Pos}{tv:TE}
section
variable{o:Expr}
theorem B5(hu:X.A.units+1<cLine)(ho:PE X o td)(hi:PE X i ty)(hv:PE X value tv)(hs:gn value (aa (.Subscript o i pos')) pos.line X.env=pure ae):
  PS X (.Assign [.Subscript o i pos'] value pos) (wm td ty tv):=by
 intro pins s σ H D I h;refine wpAny_Assign_Subscript (thn (hv pins s σ H _ I h) λr s1 ⟨v,H1,I1,rv,q1⟩=>thn (ho pins s1 σ H1 _ I1 q1) λu s2 ⟨x,H2,I2,rx,q2⟩=>thn (hi pins s2 σ H2 _ I2 q2) λiv s3 q_=>?_) hs;obtain⟨y,H3,I3,ry,a,H4,ex,g,q3⟩:=q_;subst ex;obtain rfl:u=cI a:=rx;exact IN hu I3 g ry rv λs4 I4=>⟨σ,H4,I4,q3⟩
end
theorem IU(h:Heap)(hb:gP<h.objs.size):cU P w H (h.push {cls:=.type "dict",data:=.dict #[]}) h.objs.size (.dK []):=
 ⟨da _,beq_eq_false_iff_ne.mpr (gm (ca hb)),[],.nil,Heap.DictOf.new h⟩
theorem IV(h:Heap)(hb:gP<h.objs.size):cU P w H (h.push {cls:=.type "dict",data:=.dict #[]}) h.objs.size (.dT []):=
 ⟨da _,beq_eq_false_iff_ne.mpr (gm (ca hb)),[],.nil,_,#[],0,dn _ rfl,⟨rfl,rfl,rfl⟩,rfl,rfl,fR⟩
def B6:TE:=λ_ H Q=>∀p,H p=ac->Q (.ref p) (upd H p (.dK []))
def IW:TE:=λ_ H Q=>∀p,H p=ac->Q (.ref p) (upd H p (.dT []))
theorem IX:PE X (.Dict [] [] pos) B6:=λpins s σ H Q I h=>
 wpAny_Dict_empty ⟨.ref s.heap.objs.size,_,I.laid (a:=s.heap.objs.size) (o:=.dK []) (t':=s.toks) (λ_ _ q=>bT _ q) (aL _) (IU s.heap I.big),rfl,h _ (I.hok.fresh (aL _))⟩
theorem IY:PE X (.Dict [] [] pos) IW:=λpins s σ H Q I h=>
 wpAny_Dict_empty ⟨.ref s.heap.objs.size,_,I.laid (a:=s.heap.objs.size) (o:=.dT []) (t':=s.toks) (λ_ _ q=>bT _ q) (aL _) (IV s.heap I.big),rfl,h _ (I.hok.fresh (aL _))⟩
structure M2(X:Cx)(o:Expr)(m:Str)(apos:Pos)(e f:Expr)(cpos:Pos):Prop where
 base:nF o m X.env (eval o X.env)=eval o X.env
 few : ((c4 cpos (ba [e,f] X.env)).all (λx=>!x.1) && (ju cpos (jr [] X.env)).all (λx=>x.1.isSome)
  && decide (([e,f]:LEx).length+([]:List Keyword).length+(if ([]:List Keyword).isEmpty then 0 else 1)<30))=ab
 line:(apos.endLine==cpos.line)=ab
 trees:c4 cpos (ba [e,f] X.env)=[(ae,eval e X.env),(ae,eval f X.env)]
def IsD(H:Hp)(a:Addr):Prop:=(∃kvs,Rd H a (.dK kvs))\/∃kvs,Rd H a (.dT kvs)
theorem B7{s:ai}(I:Inv X pins σ H s)(d:IsD H a):
  s.TypeIs (.ref a) "dict" /\ (∀b,cI a=.ref b->∃ob,s.heap.get? b=aa ob/\ob.dict=ac)/\(a==gP)=ae:=by
 rcases d with⟨kvs,e⟩ |⟨kvs,e⟩
 .obtain⟨_,hd,vs,_,dd⟩:=nR I.hok e;refine⟨dd.typeIs,λb q=>?_,hd⟩;cases q;obtain⟨ob,_,_,h1,h2,_⟩:=dd;exact⟨ob,h1,h2.2.1⟩
 .obtain⟨_,hd,xs,_,dd⟩:=nU I.hok e;refine⟨dd.typeIs,λb q=>?_,hd⟩;cases q;obtain⟨ob,_,_,h1,h2,_⟩:=dd;exact⟨ob,h1,h2.2.1⟩
variable{d:V}
section
variable{s:ai}{o:Option V}
theorem IZ(hu:A.units+1<cLine)(I:Inv X pins σ H s)(g:gs H a y o)(ry:aF y u)(rd:aF d r)(h:∀w' s',Inv X pins σ H s'->aF (o.getD d) w'->Q w' s'):
  wpAny (model X.prog X.w) A (call (.builtin "dict.get") [.ref a,u,r]) Q E s:=by
 rcases g with⟨kvs,k,e,ey,l⟩ |⟨kvs,k,b,e,ey,eb,l⟩
 .subst ey;obtain⟨z,hd,vs,rel,dd⟩:=nR I.hok e;refine call_meetsIn vw dd.typeIs PySem.F.entry_dict_get (PySem.F.args_dict_get_3 _ _ _) (meets_dict_get_default (iD X.prog X.w) a (sj ry) hd r) ⟨_,dd.mapOf,h _ _ (I.tok _) ?_⟩;rw[l];exact(rel.val k).getD rd
 .subst ey;cases (show u=cI b from ry);obtain⟨z,hd,xs,rel,dd⟩:=nU I.hok e;refine call_meetsIn vw dd.typeIs PySem.F.entry_dict_get (PySem.F.args_dict_get_3 _ _ _) (meetsH_dict_get_default (l6 (j8 X.prog X.w)) a b hd r) ⟨pG hu,k,xs,nS I.hok eb,dd,h _ _ (I.tok _) ?_⟩;rw[l];exact(rel.val k).getD rd
end
def I0(td ty tx:TE):TE:=λσ H Q=>td σ H λx H1=>∃a,x=.ref a/\IsD H1 a/\ty σ H1 λy H2=>tx σ H2 λz H3=>∃o,gs H3 a y o/\Q (o.getD z) H3
variable{e f:Expr}{apos cpos:Pos}{tx:TE}
section
variable{o:Expr}
theorem B8(hu:X.A.units+1<cLine)(ho:PE X o td)(he:PE X e ty)(hf:PE X f tx)(m:M2 X o "get" apos e f cpos):PE X (.Call (.Attribute o "get" apos) [e,f] [] cpos) (I0 td ty tx):=by
 intro pins s σ H Q I h;refine wpAny_Call_method m.base m.few m.line PySem.F.plainAttrs_dict vw PySem.F.type_dict_get (thn (ho pins s σ H _ I h) λu s1 q_=>?_);obtain⟨x,H1,I1,rx,a,ex,d,q1⟩:=q_;subst ex;obtain rfl:u=cI a:=rx;obtain⟨t1,t2,_⟩:=B7 I1 d;refine⟨t1,t2,?_⟩;rw[m.trees]
 refine vq rfl (vt (kX (thn (he pins s1 σ H1 _ I1 q1) λiv s2 ⟨y,H2,I2,ry,q2⟩ =>
  kX (thn (hf pins s2 σ H2 _ I2 q2) λfv s3 ⟨z,H3,I3,rz,ov,g,q3⟩=>vv ?_))))
 exact IZ hu I3 g ry rz λw' s4 I4 rw'=>⟨_,H3,I4,rw',q3⟩
end
section
variable{κ:Type}[DecidableEq κ]
end
end L2
set_option maxHeartbeats 4000000
namespace L2
open List
open PySem
theorem wn{env:Env}(f:(Str×fV)->List (Str×Addr)->Sem (ForInStep (List (Str×Addr))))
 (h1:∀n k r,k≠dR->f (n,k) r=pure (.yield r))
 (h2:∀n r c,env.cells.lookup n=aa c->f (n,.free) r=pure (.yield ((n,c)::r))):
  ∀(l:List (Str×fV)) (acc:List (Str×Addr)),(∀x∈l,x.2=.free->∃c,env.cells.lookup x.1=aa c) ->
   (∀x c,acc.lookup x=aa c->env.cells.lookup x=aa c) ->
   ∃cl,forIn l acc f=(pure cl:Sem _)/\(∀x c,cl.lookup x=aa c->env.cells.lookup x=aa c) /\
    (∀x,((∃c,acc.lookup x=aa c)\/(x,dR)∈l)->∃c,cl.lookup x=aa c)
 | [],acc,_,ha=>⟨acc,rfl,ha,λx hx=>hx.elim id (λz=>nomatch z)⟩
 |(n,k)::l,acc,hl,ha=>by
  have hl':∀x∈l,x.2=.free->∃c,env.cells.lookup x.1=aa c:=λx hx=>hl x (bv _ hx)
  by_cases hk:k=.free
  .subst hk;obtain⟨c,hc⟩:=hl (n,.free) aO rfl;have hc':env.cells.lookup n=aa c:=hc
   have ha':∀x c',((n,c)::acc).lookup x=aa c'->env.cells.lookup x=aa c':=λx c' hx=>by
    rw[eO]at hx
    cases e:x==n with
    |true=>
     rw[e]at hx;cases hx
     rw[eq_of_beq e];exact hc'
    |false=>
     rw[e]at hx;exact ha x c' hx
   obtain⟨cl,e,a1,a2⟩:=wn f h1 h2 l ((n,c)::acc) hl' ha';refine⟨cl,?_,a1,λx hx=>a2 x ?_⟩
   .rw[forIn_cons,h2 n acc c hc',pure_bind];exact e
   .have here:∀c',acc.lookup x=aa c'->∃c'',((n,c)::acc).lookup x=aa c'':=λc' z=>by
     rw[eO]
     cases e:x==n with
     |true=>exact⟨c,rfl⟩
     |false=>exact⟨c',z⟩
    rcases hx with⟨c',z⟩ |hx
    .exact .inl (here c' z)
    .rcases aW.mp hx with z |z
     .cases z;refine .inl ⟨c,?_⟩;rw[eO,beq_self_eq_true]
     .exact .inr z
  .obtain⟨cl,e,a1,a2⟩:=wn f h1 h2 l acc hl' ha;refine⟨cl,?_,a1,λx hx=>a2 x ?_⟩
   .rw[forIn_cons,h1 n k acc hk,pure_bind];exact e
   .rcases hx with hx |hx
    .exact .inl hx
    .rcases aW.mp hx with z |z
     .cases z;exact absurd rfl hk
     .exact .inr z
variable{scope:Scope}{env:Env}
theorem B9(h:∀x∈scope.names,x.2=.free->∃c,env.cells.lookup x.1=aa c):
  ∃cl,closureFor scope env=pure cl/\(∀x c,cl.lookup x=aa c->env.cells.lookup x=aa c)/\(∀x,(x,dR)∈scope.names->∃c,cl.lookup x=aa c):=by
 unfold closureFor
 obtain ⟨cl,e,a1,a2⟩:=wn (env:=env) (λ(x:Str×fV) (r:List (Str×Addr))=>(match x with
   |(name,kind)=>if (kind==dR)=ab then (do let a <- cellOf env name;pure (ni ((name,a)::r))) else (pure (ni r):Sem _)))
  (λn k r hk=>by
   have:(k==dR)=ae:=by simpa using hk
   simp only[this,vb,if_false])
  (λn r c hc=>by
   simp only[beq_self_eq_true,if_true,cellOf,hc,pure_bind])
  scope.names [] h (λx c z=>by cases z)
 refine⟨cl,?_,a1,λx hx=>a2 x (.inr hx)⟩;refine(congrArg (λ(t:Sem (List (Str×Addr)))=>t >>= pure) ?_).trans ((congrArg (λ(t:Sem (List (Str×Addr)))=>t >>= pure) e).trans (pure_bind _ _));rfl
abbrev E00:Value->ai->Prop:=λ_ _=>False
variable{prog:cH}{w:World}{A:cP}{R:Result->ai->Prop}{elt iter:Expr}{ifs:LEx}{pos:Pos}
section
variable{s:ai}
theorem Ja{target:Expr}{it acc:Value}(I:Nat->ai->Prop)
 (turn:∀ n s,I n s->wpAny (model prog w) A (hU it) (λr s₁=>match r with
   |none=>R (.ok .next) s₁
   | some v=>wpAny (model prog w) A (rM target it v) (λ_ s₁'=>wpAny (model prog w) A (iy target env v) (λ_ s₂ =>
     wpAny (model prog w) A (forIn ifs ab λc r=>if r=ab then do let ok <- isTrue c env (eval c env); pure (ni ok) else pure (ni r)) (λok s₃ =>
      if ok=ab then wpAny (model prog w) A (eval elt env) (λx s₄ =>
       wpAny (model prog w) A (call (.builtin "list.append") [acc,x]) (λ_ s₅=>∃m,m<n/\I m s₅) (notedBy (model prog w) A env λx s'=>R (.error x) s') s₄) (notedBy (model prog w) A env λx s'=>R (.error x) s') s₃
      else ∃m,m<n/\I m s₃) (notedBy (model prog w) A env λx s'=>R (.error x) s') s₂) (notedBy (model prog w) A env λx s'=>R (.error x) s') s₁') (notedBy (model prog w) A env λx s'=>R (.error x) s') s₁) (notedBy (model prog w) A env λx s'=>R (.error x) s') s)
 (n:Nat)(h:I n s):
  ix (model prog w) A (.compLoop (.ListComp elt [⟨target,iter,ifs,0⟩] scope pos) 0 it acc env) R s:=by
 refine codeAny_loop rfl I (λn s hI=>?_) n h;show wpAny _ A ((compTurn (.ListComp elt [⟨target,iter,ifs,0⟩] scope pos) 0 it acc env).onRaise (λx=>do noteFrame x env;theTreesLotGoes x)) _ _ s;refine wpAny_noted ?_;rw[compTurn_list];refine ap (wpAny_standAt (ap (fT (turn n s hI) (λr s₁ h₁=>?_) λ_ _ h'=>h')))
 cases r with
 |none=>exact aJ h₁
 |some v=>
  refine ap (fT h₁ (λ_ s₁' h₁'=>?_) λ_ _ h'=>h');refine ap (fT h₁' (λ_ s₂ h₂=>ap (fT h₂ (λok s₃ h₃=>?_) λ_ _ h'=>h')) λ_ _ h'=>h')
  cases ok with
  |false=>exact aJ ⟨rfl,h₃⟩
  |true=>
   exact ap (ap (fT h₃ (λx s₄ h₄=>ap (fT h₄ (λ_ s₅ h₅=>aJ (aJ ⟨rfl,h₅⟩)) λ_ _ h'=>h')) λ_ _ h'=>h'))
end
open PySem.Spec PyProof.Rows
noncomputable abbrev Cx.comp(X:Cx)(scope:Scope)(Nc:LSt)(cl:List (Str×Addr))(C:Addr)(ex:LAd)(s₂:ai)(H₂:Hp):Cx:=
 {X with N:=Nc,s₀:=s₂,H₀:=H₂,env:=compEnvC scope cl C X.env,outer:=X.stack,ex:=ex,fn:=λ_=>ae,pn:=[],xe:=E00}
theorem wq{env:Env}:∀{names:List (Str×fV)} {x:Str},names.lookup x=aa .free ->
  (names.map λ(n,k)=>if (k==dR && env.scope.kind==.function && env.kindOf n==aa .cell) then (n,iA) else (n,k)).lookup x=aa .cell \/
  (names.map λ(n,k)=>if (k==dR && env.scope.kind==.function && env.kindOf n==aa .cell) then (n,iA) else (n,k)).lookup x=aa .free
 | [],_,h=>by simp at h
 |(n,k)::r,x,h=>by
  have ih:=@wq env r x;rw[bn];show iW x ((if (k==dR && env.scope.kind==.function && env.kindOf n==aa .cell)=ab then (n,iA) else (n,k))::_)=_\/iW x ((if (k==dR && env.scope.kind==.function && env.kindOf n==aa .cell)=ab then (n,iA) else (n,k))::_)=_;rw[eO]at h
  cases hx:x==n with
  |true=>
   rw[hx]at h;cases h;split
   .left;rw[eO,hx]
   .right;rw[eO,hx]
  |false=>
   rw[hx]at h;split
   .rw[eO,hx];exact ih h
   .rw[eO,hx];exact ih h
theorem wu{env:Env}{k':fV}(hk':k'=.cell\/k'=.free):∀{names:List (Str×fV)} {x:Str},
  (names.map λ(n,k)=>if (k==dR && env.scope.kind==.function && env.kindOf n==aa .cell) then (n,iA) else (n,k)).lookup x=aa k' ->
  (x,dR)∈names\/(x,iA)∈names
 | [],_,h=>by simp at h
 |(n,k)::r,x,h=>by
  have ih:=@wu env k' hk' r x;rw[bn]at h;have h':iW x ((if (k==dR && env.scope.kind==.function && env.kindOf n==aa .cell)=ab then (n,iA) else (n,k))::(r.map λ(n,k)=>if (k==dR && env.scope.kind==.function && env.kindOf n==aa .cell) then (n,iA) else (n,k)))=aa k':=h
  cases hx:x==n with
  |true=>
   have e:=eq_of_beq hx;subst e;split at h'
   .rename_i hc
    have hk:k=.free:=by
     rw[cg,cg]at hc;exact eq_of_beq hc.1.1
    subst hk;exact .inl aO
   .rw[eO,hx]at h';have e:k=k':=cF h';subst e
    rcases hk' with z |z
    .subst z;exact .inr aO
    .subst z;exact .inl aO
  |false=>
   have h2:(r.map λ(n,k)=>if (k==dR && env.scope.kind==.function && env.kindOf n==aa .cell) then (n,iA) else (n,k)).lookup x=aa k':=by
    split at h' <;> (rw[eO,hx]at h';exact h')
   rcases ih h2 with z |z
   .exact .inl (bv _ z)
   .exact .inr (bv _ z)
noncomputable def mr(scope:Scope)(outer:List (Str×fV))(N Nc:LSt)(k:Nat)(js:LN):Bool:=
 scope.names.all (λx=>(x.2 != .free || outer.lookup x.1==aa .cell || outer.lookup x.1==aa .free) && x.2 != .cell && (x.2 != .local || scope.names.lookup x.1==aa .local)) &&
 scope.kind==.function && Nc.length==k+js.length &&
 (bF js.length).all (λi=>match Nc[k + i]?,js[i]? with
  |some x,aa j=>N[j]?==aa x && scope.names.lookup x==aa .free
  | _,_=>ae)
structure nV(scope:Scope)(outer:List (Str×fV))(N Nc:LSt)(k:Nat)(js:LN):Prop where
 free:∀x∈scope.names,x.2=.free->outer.lookup x.1=aa .cell\/outer.lookup x.1=aa .free
 nocell:∀x∈scope.names,x.2≠.cell
 loc:∀x∈scope.names,x.2=.local->scope.names.lookup x.1=aa .local
 kind:scope.kind=.function
 len:Nc.length=k+js.length
 at':∀i j,js[i]?=aa j->∃x,Nc[k+i]?=aa x/\N[j]?=aa x/\scope.names.lookup x=aa .free
variable{N Nc:LSt}{k:Nat}{js:LN}
theorem nV.of{outer:List (Str×fV)}(h:mr scope outer N Nc k js=ab):nV scope outer N Nc k js:=by
 unfold mr at h;rw[cg,cg,cg]at h;obtain⟨⟨⟨h1,h2⟩,h3⟩,h4⟩:=h;rw[all_eq_true]at h1 h4;refine⟨λx hx e=>?_,λx hx e=>?_,λx hx e=>?_,eq_of_beq h2,eq_of_beq h3,λi j e=>?_⟩
 .have:=h1 x hx;simp only[cg,jp,bne_iff_ne,beq_iff_eq]at this
  rcases this.1.1 with(z |z) |z
  .exact absurd e z
  .exact .inl z
  .exact .inr z
 .have:=h1 x hx;simp only[cg,jp,bne_iff_ne,beq_iff_eq]at this;exact this.1.2 e
 .have:=h1 x hx;simp only[cg,jp,bne_iff_ne,beq_iff_eq]at this
  rcases this.2 with z |z
  .exact absurd e z
  .exact z
 .have hi:i<js.length:=(dH.mp e).1;have:=h4 i (eY.mpr hi);rw[e]at this
  cases q:Nc[k+i]? with
  |none=>rw[q]at this;cases this
  |some x=>
   rw[q]at this;simp only[cg,beq_iff_eq]at this;exact⟨x,rfl,this.1,this.2⟩
noncomputable def i8(k:Nat)(js:LN)(σ:St):St:=gK k ac++js.map λj=>(σ[j]?).getD ac
def PTs(X:Cx)(ifs:LEx)(t:TT):Prop:=
 ∀(pins:PNS) (s:ai) (σ:St) (H:Hp) (Q:Bool->Hp->Prop),Inv X pins σ H s->t σ H Q ->
  wpAny (model X.prog X.w) X.A (forIn ifs ab λc r=>if r=ab then do let ok <- isTrue c X.env (eval c X.env);pure (ni ok) else pure (ni r)) (TP X pins σ Q) X.xe s
def Jb:TT:=λ_ H Q=>Q ab H
variable{X:Cx}
theorem Jc:PTs X [] Jb:=λ_ _ _ H _ I h=>wpAny_tests_nil ⟨H,I,h⟩
theorem Jd{c:Expr}{t:TT}(h:PT X c t):PTs X [c] t:=λpins s σ H Q I q=>wpAny_tests_one (h pins s σ H Q I q)
def ww(J:It)(g:TG)(tt:TT)(te:TE)(σ0:St)(H1:Hp)(Q:VK):Prop:=
 ∃W:Nat->Nat->List V->St->Hp->Prop,(∃m,W 0 m [] σ0 H1)/\∀i m ys σ' H',W i m ys σ' H' ->
  (J.stop i H'/\ys.length<=aS/\∀D,H1 D=ac->H' D=ac->Q (.ref D) (upd H' D (.lst ys))) \/
  (J.go i H'/\ys.length<=aS/\∃ N : List V->St->Hp->Prop,(∀ ys' σ2 H2,N ys' σ2 H2->∃ m',m' < m/\W (i + 1) m' ys' σ2 H2) /\
   ∀x H2,J.yld i H' x H2->g x σ' H2 λσ3 H3=>tt σ3 H3 λb H4=>if b=ab then te σ3 H4 λy H5=>N (ys++[y]) σ3 H5 else N ys σ3 H4)
def nW(k:Nat)(js:LN)(wi:TI)(g:TG)(tt:TT)(te:TE):TE:=λσ H Q=>wi σ H λJ H1=>ww J g tt te (i8 k js σ) H1 Q
noncomputable abbrev Cx.to(X:Cx)(pn:PNS)(xe:PRS):Cx:={X with pn:=pn,xe:=xe}
variable{Y:Cx}{xe:PRS}{pins:PNS}{σ:St}{H:Hp}
theorem Ca{s:ai}(I:Inv Y pins σ H s):Inv {Y with xe:=xe} pins σ H s:=
 ⟨⟨I.ok.mod,I.ok.kind,I.ok.glob,I.ok.blt,I.ok.above,I.ok.inj,I.ok.has,I.ok.cab,I.ok.hd,I.ok.frames,I.ok.stk,I.ok.exf,I.ok.bs,I.ok.bsz,I.ok.noex,I.ok.exfs,I.ok.funs,I.ok.frf⟩,I.os,I.bare,I.base,I.loc,I.cell,I.free,I.freeC,I.pin,I.hok,I.len⟩
theorem Cb{s:ai}(I:Inv {Y with xe:=xe} pins σ H s):Inv Y pins σ H s:=
 ⟨⟨I.ok.mod,I.ok.kind,I.ok.glob,I.ok.blt,I.ok.above,I.ok.inj,I.ok.has,I.ok.cab,I.ok.hd,I.ok.frames,I.ok.stk,I.ok.exf,I.ok.bs,I.ok.bsz,I.ok.noex,I.ok.exfs,I.ok.funs,I.ok.frf⟩,I.os,I.bare,I.base,I.loc,I.cell,I.free,I.freeC,I.pin,I.hok,I.len⟩
variable{e:Expr}{t:TE}
theorem PE.to0(h:PE {Y with pn:=[],xe:=E00} e t):PE {Y with pn:=[],xe:=xe} e t:=λpins s σ H Q I q=>
 fT (h pins s σ H Q (Cb (xe:=xe) I) q) (λu s' ⟨v,H',I',r,q'⟩=>⟨v,H',Ca (xe:=xe) I',r,q'⟩) λ_ _ z=>z.elim
noncomputable abbrev i9(us:LVa)(n:Nat):Obj:={cls:=.type "list",data:=.seq us.toArray n}
variable{tg:Expr}{g:TG}{tt:TT}{te:TE}{H2:Hp}{s2:ai}{it:Addr}{fp:LAd}{tn:Nat->Heap->Prop}{J:It}{cl:List (Str×Addr)}{Q:VK}{RR:Value->Addr->Result->ai->Prop}{E:PRS}
theorem Je{PX:Cx->Prop}
 (hc:X.calm=ab)(ck:nV scope X.env.scope.names X.N Nc k js)
 (hg:∀cl C ex s₂ H₂,PG (X.comp scope Nc cl C ex s₂ H₂) tg g)(ht:∀cl C ex s₂ H₂,PTs (X.comp scope Nc cl C ex s₂ H₂) ifs tt)(he:∀cl C ex s₂ H₂ xe,PX ((X.comp scope Nc cl C ex s₂ H₂).to [] xe)->PE ((X.comp scope Nc cl C ex s₂ H₂).to [] xe) elt te)
 (a1:∀x c,cl.lookup x=aa c->X.env.cells.lookup x=aa c)(a2:∀x,(x,dR)∈scope.names->∃c,cl.lookup x=aa c)
 (I2:Inv X pins σ H2 s2)(T:ke X.prog X.w X.K tg J fp it tn)(st2:tn 0 s2.heap)(f2:∀b∈fp,hZ X pins H2 b)(hW:ww J g tt te (i8 k js σ) H2 Q)
 (hRR:∀(D C:Addr) (s':ai) (H':Hp),Inv X pins σ H' s'->(∃m,s'.heap.Ns C m)->hZ X pins H' C->Q (.ref D) H'->RR (.ref D) C (.ok .next) s')
 (hPX:∀D C,s2.heap.objs.size=D->D<C->(∀b∈frs X.stack,b<D)->PX ((X.comp scope Nc cl C fp s2 H2).to [] (notedBy (model X.prog X.w) X.A (compEnvC scope cl C X.env) λx s'=>RR (.ref D) C (.error x) s'))):
  wpAny (model X.prog X.w) X.A (newList []) (λacc s₃=>wpAny (model X.prog X.w) X.A (newFunctionEnv scope X.env.globals cl [] X.env.qual ac .none (aa X.env)) (λcenv s₄ =>
   ix (model X.prog X.w) X.A (.compStart (.ListComp elt [⟨tg,iter,ifs,0⟩] scope pos) 0 (.ref it) acc {cenv with scope:=relabel scope X.env}) (RR acc cenv.locals) s₄) E s₃) E s2:=by
 obtain⟨W,⟨m0,w0⟩,turn⟩:=hW;refine j3 (wpAny_newFunctionEnv ck.nocell (by intro y hy;simp at hy) (λh₁ hns₁ hsb₁=>?_) ck.kind);dsimp only at hns₁ hsb₁ ⊢;generalize hP:s2.heap.push {cls:=.type "list",dict:=ac,data:=.seq ([]:LVa).toArray}=P at hns₁ hsb₁ ⊢;generalize hD:s2.heap.objs.size=D at hP hns₁ hsb₁ ⊢;have hCs:P.objs.size=D+1:=by rw[<- hP,iz,hD]
 generalize hC:P.objs.size=C at hCs hns₁ hsb₁ ⊢;have hDC':D<C:=by rw[hCs];exact dY _
 have hDC:D≠C:=ca hDC';have below:∀b o,s2.heap.get? b=aa o->b<D:=λb o e=>hD▸bA e
 have old:∀b o,s2.heap.get? b=aa o->h₁.get? b=aa o:=λb o e=>by
  have hb:=below b o e;exact hsb₁.extBut b o (ca (lS hb hDC')) (bT _ (hP▸bT _ e))
 have hDo:h₁.get? D=aa (i9 [] 0):=hsb₁.extBut _ _ hDC (bT _ (by rw[<- hP,<- hD];exact dn _ rfl));have Hn:∀b,D<=b->H2 b=ac:=λb hb=>I2.hok.fresh (by omega);have fpo:∀b∈fp,b<D:=λb hb=>by obtain⟨o,e,_⟩:=T.obj 0 _ st2 b hb;exact below b o e
 have clo:∀x c,cl.lookup x=aa c->c<D:=λx c e=>by
  obtain⟨v,o,ho,_⟩:=I2.cell x c (a1 x c e);exact below c o ho
 have stko:∀b∈frs X.stack,b<D:=λb hb=>by
  obtain⟨_,o,ho,_⟩:=I2.stack.mem hb;exact below b o ho
 let Y:Cx:=X.comp scope Nc cl C fp s2 H2
 have yk:Y.Ok:=by
  refine⟨I2.ok.mod,ck.kind,I2.ok.glob,I2.ok.blt,?_,?_,?_,?_,I2.ok.hd,I2.ok.frames,.inl rfl,?_,I2.bs,?_,?_,?_,I2.stack,I2.stkFree⟩
  .show s2.heap.objs.size<=C;omega
  .exact λx y c h1 h2=>I2.ok.inj x y c (a1 x c h1) (a1 y c h2)
  .intro x hx
   have:(x,dR)∈scope.names\/(x,iA)∈scope.names:=by
    rcases hx with hx |hx
    .exact wu (.inl rfl) hx
    .exact wu (.inr rfl) hx
   rcases this with z |z
   .exact a2 x z
   .exact absurd rfl (ck.nocell _ z)
  .exact λx c z=>nomatch z
  .intro b hb;refine⟨?_,λx c e=>?_⟩
   .exact ca (lS (fpo b hb) hDC')
   .exact(f2 b hb).2.2.2.2.1 x c (a1 x c e)
  .exact cZ I2.ok.bsz I2.sz
  .intro b o e hb
   rcases(f2 b hb).2.2.2.1 with z |z
   .exact I2.ok.noex b o e z
   .exact absurd (fF (bA e) (cZ I2.ok.bsz z)) (iu _)
  .intro b hb z
   rcases aW.mp (I2.stkSub b z)with e |e
   .exact(f2 b hb).2.1 e
   .exact(f2 b hb).2.2.1 e
 have I4:Inv Y [(D,i9 [] 0)] (i8 k js σ) H2 {s2 with heap:=h₁,toks:=s2.toks+([]:List (Str×Value)).length}:=by
  refine⟨yk,rfl,I2.bare,Un.kept old,⟨_,hns₁,λi x v e1 e2 e3=>?_⟩,λx c e=>?_,Hn C (by omega),λx c e=>I2.freeC x c (a1 x c e),λp hp=>?_,I2.hok.kept old,?_⟩
  .have e1:Nc[i]?=aa x:=e1;unfold i8 at e2
   have hik:k<=i:=by
    rcases Nat.lt_or_ge i k with z |z
    .rw[kM (by simpa using z),rm]at e2;simp[z]at e2
    .exact z
   rw[kL (by simpa using hik),cD]at e2;simp only[nj]at e2
   cases q:js[i-k]? with
   |none=>rw[q]at e2;cases e2
   |some j=>
    rw[q]at e2;obtain⟨x',q1,q2,q3⟩:=ck.at' _ _ q;rw[show k+(i-k)=i by omega,e1]at q1;cases q1;have e2:(σ[j]?).getD ac=aa v:=cF e2
    have e2':σ[j]?=aa (aa v):=by
     cases z:σ[j]? with
     |none=>rw[z]at e2;cases e2
     |some y=>rw[z]at e2;rw[show y=aa v from e2]
    have hmem:(x,dR)∈scope.names:=by
     have:∀l:List (Str×fV),l.lookup x=aa .free->(x,dR)∈l:=by
      intro l
      induction l with
      |nil=>intro z;cases z
      |cons a l ih=>
       intro z;obtain⟨n,kk⟩:=a;rw[eO]at z
       cases hb:x==n with
       |true=>
        rw[hb]at z;cases z
        rw[eq_of_beq hb];exact aO
       |false=>rw[hb]at z;exact bv _ (ih z)
     exact this _ q3
    have hout:X.env.kindOf x=aa .cell\/X.env.kindOf x=aa .free:=ck.free _ hmem rfl;obtain⟨m,hn,hl⟩:=I2.loc
    have vis:Vis X.env.scope x:=by
     rcases hout with z |z
     .exact .inr (.inl z)
     .exact .inr (.inr z)
    obtain⟨u,r,l⟩:=hl j x v q2 e2' vis;refine⟨u,r,.inr ⟨wq q3,?_⟩⟩
    rcases l with⟨z,_⟩ |⟨_,c,hcl,hcell⟩
    .rcases hout with y |y <;> (rw[y]at z;cases z)
    .obtain⟨c',hc'⟩:=a2 x hmem;have:=a1 x c' hc';rw[hcl]at this;cases this;exact⟨c,hc',hcell.keeps old⟩
  .obtain⟨v,z⟩:=I2.cell x c (a1 x c e);exact⟨v,z.keeps old⟩
  .have hp:p∈[(D,i9 [] 0)]:=(ci.mp hp).elim (λz=>nomatch (show p∈([]:PNS)from z)) id;have hp:p=(D,i9 [] 0):=eM.mp hp;subst hp;refine⟨hDo,Hn D (aL _),hDC,λz=>?_,λv z=>by cases z⟩;exact absurd (stko D z) (iu _)
  .show(i8 k js σ).length=Nc.length;rw[ck.len];simp[i8]
 have st1:tn 0 h₁:=T.keep 0 _ _ st2 λb _ o e=>old b o e
 have fpY:∀{H':Hp} {p:PNS},(∀q∈p,q.1=D)->(∀b∈fp,H' b=ac)->∀b∈fp,hZ Y p H' b:=λ{H' p} hp hn b hb=>by
  refine⟨hn b hb,(yk.exf b hb).1,yk.exfs b hb,.inl hb,λx c e=>(yk.exf b hb).2 x c e,λq hq=>?_⟩;have hq:q∈p:=(ci.mp hq).elim (λz=>nomatch (show q∈([]:PNS)from z)) id;rw[hp q hq];exact nz (fpo b hb)
 let xe:Value->ai->Prop:=notedBy (model X.prog X.w) X.A (compEnvC scope cl C X.env) λx s'=>RR (.ref D) C (.error x) s'
 have hp:PX (Y.to [] xe):=hPX D C hD hDC' stko
 have loop:ix (model X.prog X.w) X.A (.compLoop (.ListComp elt [⟨tg,iter,ifs,0⟩] scope pos) 0 (.ref it) (.ref D) (compEnvC scope cl C X.env)) (RR (.ref D) C) {s2 with heap:=h₁,toks:=s2.toks+([]:List (Str×Value)).length}:=by
  refine Ja (λn s'=>∃i ys us nn σ' H',Inv Y [(D,i9 us nn)] σ' H' s'/\tn i s'.heap/\(∀b∈fp,H' b=ac)/\aG ys us/\W i n ys σ' H') ?_ m0
   ⟨0,[],[],0,i8 k js σ,H2,I4,st1,λb hb=>(f2 b hb).1,.nil,w0⟩
  rintro n s3 ⟨i,ys,us,nn,σ3,H3,I3,st3,fr3,rv,w3⟩
  have one:∀q∈[(D,i9 us nn)],q.1=D:=λq hq=>by
   have:q=(D,i9 us nn):=by simpa using hq
   rw[this]
  rcases turn i n ys σ3 H3 w3 with⟨stop,hz,qn⟩ |⟨go,hz,N,hN,step⟩
  .refine thn (T.done Y rfl rfl rfl hc i _ s3 σ3 H3 _ I3 (fpY one fr3) st3 stop) λr s4 ⟨hr,I5⟩=>?_;subst hr;show RR (.ref D) C (.ok .next) s4;obtain⟨pD,nD,_,_,_⟩:=I5.pin (D,i9 us nn) (by simp);have bs:Un (frs X.stack) fp H2 H3 s2.heap s4.heap:=I5.base;have h2D:∀b o,H2 b=aa o->b≠D:=λb o e z=>by rw[z,Hn D (aL _)]at e;cases e
   have I6:Inv X pins σ (upd H3 D (.lst ys)) s4:=by
    refine I2.call' (ch:=fp) I5.os ⟨bs.keep,bs.slot,λb o e n hx=>?_,bs.there,λb xs e=>?_,λb o u e=>?_,λb ps e=>?_⟩ (λb u e=>?_) I5.bare λb hb=>?_
    .rw[aK (ca (below b o e))];exact bs.free b o e n hx
    .rw[aK (h2D b _ e)];exact bs.tups b xs e
    .rw[aK (h2D b _ e)];exact bs.frzs b o u e
    .rw[aK (h2D b _ e)];exact bs.tbls b ps e
    .by_cases hb:b=D
     .subst hb;rw[be]at e;cases e;exact⟨hz,us,nn,rv,pD⟩
     .rw[aK hb]at e;exact(I5.hok b u e).stay (λc v _ q=>q) (λc q=>by rw[aK (fI q nD)];exact q) λc xs q=>by rw[aK (fI q nD)];exact q
    .obtain⟨_,f1,_,f3,f4,f5⟩:=f2 b hb;exact⟨f3,f1,f4,f5⟩
   obtain⟨m,hn,_⟩:=I5.loc;refine hRR D C s4 _ I6 ⟨m,hn⟩ (I2.fpOk (by omega) ?_) (qn D (Hn D (aL _)) nD);rw[aK hDC.symm];exact I5.free
  .refine thn (T.item Y rfl rfl rfl hc i _ s3 σ3 H3 _ I3 (fpY one fr3) st3 go) λr s4 q_=>?_;obtain⟨u,hr,h4⟩:=q_;subst hr;refine thn h4 λ_ s5 q_=>?_;obtain⟨x,H5,I5,r5,y5,st5,fr5⟩:=q_;have I5':=I5.pinned (fpY one fr5) (T.obj _ _ st5);refine fT (hg cl C fp s2 H2 _ s5 σ3 H5 x u _ I5' r5 (step x H5 y5)) (λ_ s6 ⟨σ6,H6,I6,q6⟩=>?_) λ_ _ z=>z.elim;refine fT (ht cl C fp s2 H2 _ s6 σ6 H6 _ I6 q6) (λb s7 ⟨H7,I7,q7⟩=>?_) λ_ _ z=>z.elim
   have kp:∀{H8:Hp} {s8:ai},Inv Y ([(D,i9 us nn)]++pI fp s5.heap) σ6 H8 s8->tn (i+1) s8.heap/\(∀b∈fp,H8 b=ac):=λ{H8 s8} I8=>by
    refine⟨T.keep _ _ _ st5 λb hb o e=>(I8.pin (b,o) (dX _ (dX _ (rZ hb e)))).1,λb hb=>?_⟩;obtain⟨o,e,d⟩:=T.obj _ _ st5 b hb;exact(I8.pin (b,o) (dX _ (dX _ (rZ hb e)))).2.1
   cases b with
   |false=>
    rw[if_neg bd]at q7 ⊢;obtain⟨m',hm,w7⟩:=hN _ _ _ q7;obtain⟨st7,fr7⟩:=kp I7
    exact⟨m',hm,i+1,ys,us,nn,σ6,H7,I7.unpinned,st7,fr7,rv,w7⟩
   |true=>
    rw[if_pos rfl]at q7 ⊢;refine thn (he cl C fp s2 H2 xe hp _ s7 σ6 H7 _ (Ca I7) q7) λuy s8 q_=>?_;obtain⟨y,H8,I8',r8,q8⟩:=q_;have I8:=Cb I8';obtain⟨m',hm,w8⟩:=hN _ _ _ q8;obtain⟨st8,fr8⟩:=kp I8;obtain⟨pD,nD,pC,pF,_⟩:=I8.pin (D,i9 us nn) (by simp);have hl:=rv.length
    refine wpAny_list_append_plain (items:=us.toArray) ⟨nn,pD⟩ (λh' hl' sb=>?_) (by simp only[size_toArray] <;> omega)
    obtain⟨n',e'⟩:=hl';have I8n:Inv Y [] σ6 H8 s8:=I8.pins_of (λ_ z=>nomatch z)
    have I9:Inv Y [] σ6 H8 {s8 with heap:=h'}:=I8n.turned (t':=s8.toks) (it:=D) (λb o hb e=>(sb.2 b hb).trans e) nD pC (.inr (by show s2.heap.objs.size<=D;omega)) (λx c e=>ca (clo x c e)) (λp hp=>nomatch hp)
    refine⟨m',hm,i+1,ys++[y],us++[uy],n',σ6,H8,I9.pins_of (λp hp=>?_),?_,fr8,rv.append (.cons r8 .nil),w8⟩
    .have hp:p=(D,i9 (us++[uy]) n'):=by simpa using hp
     subst hp;refine⟨?_,nD,pC,pF,λv z=>by cases z⟩;have e2:h'.get? D=aa {cls:=.type "list",data:=.seq (us.toArray.push uy) n'}:=e';show h'.get? D=aa {cls:=.type "list",data:=.seq (us++[uy]).toArray n'};rw[e2];simp
    .exact T.keep _ _ _ st8 λb hb o e=>(sb.2 b (ca (fpo b hb))).trans e
 exact codeAny_compStart_list loop (T.self X.A 0 _ _ _ st1 loop)
theorem Cc
 (hc:X.calm=ab)(ck:nV scope X.env.scope.names X.N Nc k js)
 (hg:∀cl C ex s₂ H₂,PG (X.comp scope Nc cl C ex s₂ H₂) tg g)(ht:∀cl C ex s₂ H₂,PTs (X.comp scope Nc cl C ex s₂ H₂) ifs tt)(he:∀cl C ex s₂ H₂,PE (X.comp scope Nc cl C ex s₂ H₂) elt te)
 (a1:∀x c,cl.lookup x=aa c->X.env.cells.lookup x=aa c)(a2:∀x,(x,dR)∈scope.names->∃c,cl.lookup x=aa c)
 (I2:Inv X pins σ H2 s2)(T:ke X.prog X.w X.K tg J fp it tn)(st2:tn 0 s2.heap)(f2:∀b∈fp,hZ X pins H2 b)(hW:ww J g tt te (i8 k js σ) H2 Q)
 (hRR:∀(D C:Addr) (s':ai) (H':Hp),Inv X pins σ H' s'->(∃m,s'.heap.Ns C m)->hZ X pins H' C->Q (.ref D) H'->RR (.ref D) C (.ok .next) s'):
  wpAny (model X.prog X.w) X.A (newList []) (λacc s₃=>wpAny (model X.prog X.w) X.A (newFunctionEnv scope X.env.globals cl [] X.env.qual ac .none (aa X.env)) (λcenv s₄ =>
   ix (model X.prog X.w) X.A (.compStart (.ListComp elt [⟨tg,iter,ifs,0⟩] scope pos) 0 (.ref it) acc {cenv with scope:=relabel scope X.env}) (RR acc cenv.locals) s₄) E s₃) E s2:=
 Je (PX:=λ_=>True) hc ck hg ht (λcl C ex s₂ H₂ xe _=>PE.to0 (he cl C ex s₂ H₂)) a1 a2 I2 T st2 f2 hW hRR λ_ _ _ _ _=>trivial
variable{wi:TI}
theorem Jf(k:Nat)(js:LN)(Nc:LSt)(hc:X.calm=ab)(hi:PI X tg iter wi)
 (hg:∀cl C ex s₂ H₂,PG (X.comp scope Nc cl C ex s₂ H₂) tg g)(ht:∀cl C ex s₂ H₂,PTs (X.comp scope Nc cl C ex s₂ H₂) ifs tt)(he:∀cl C ex s₂ H₂,PE (X.comp scope Nc cl C ex s₂ H₂) elt te)
 (ck:mr scope X.env.scope.names X.N Nc k js=ab:=by rfl)(hs:∀x,lW iter X.env x=pure x:=by intro _;rfl):
  PE X (.ListComp elt [⟨tg,iter,ifs,0⟩] scope pos) (nW k js wi g tt te):=by
 intro pins s σ H Q I h;have ck:=nV.of ck;rw[eval_ListComp];obtain⟨cl,hcl,a1,a2⟩:=B9 (scope:=scope) (env:=X.env) λx hx e=>I.ok.has x.1 (ck.free x hx e);refine wpAny_comprehension_free (use:=ac) rfl hs hcl ck.kind ck.loc (thn (hi pins s σ H _ I h) λv s1 h1=>thn h1 λitv s2 h2=>?_);obtain⟨it,fp,tn,J,H2,e,I2,T,st2,f2,hW⟩:=h2;subst e;refine Cc (RR:=λacc C=>compPost (model X.prog X.w) X.A X.xe ac (EP X pins σ Q) acc C) hc ck hg ht he a1 a2 I2 T st2 f2 hW λD C s' H' I' ⟨m,hn⟩ fC q=>?_;obtain⟨f0,f1,_,f3,f4,f5⟩:=fC;exact⟨m,hn,λh' hs'=>⟨.ref D,H',I'.turned (t':=s'.toks) (λb o hb e=>(hs'.2 b hb).trans e) f0 f1 f3 f4 f5,rfl,q⟩⟩
variable{i:Nat}{x:Str}{pos' spos:Pos}
theorem wx(k:Nat)(js:LN)(Nc:LSt)(hN:X.N.Nodup)(hi':X.N[i]?=aa x)(hx:Loc X.env.scope x)(hc:X.calm=ab)(hi:PI X tg iter wi)
 (hg:∀cl C ex s₂ H₂,PG (X.comp scope Nc cl C ex s₂ H₂) tg g)(ht:∀cl C ex s₂ H₂,PTs (X.comp scope Nc cl C ex s₂ H₂) ifs tt)(he:∀cl C ex s₂ H₂,PE (X.comp scope Nc cl C ex s₂ H₂) elt te)
 (hsw:gn (.ListComp elt [⟨tg,iter,ifs,0⟩] scope pos) (aa (.Name x pos')) spos.line X.env=pure ab:=by rfl)
 (ck:mr scope X.env.scope.names X.N Nc k js=ab:=by rfl)(hs:∀x,lW iter X.env x=pure x:=by intro _;rfl)
 (hf:LcF X x:=by first |exact .inl rfl |exact .inr rfl |assumption):
  PS X (.Assign [.Name x pos'] (.ListComp elt [⟨tg,iter,ifs,0⟩] scope pos) spos) (iF (nW k js wi g tt te) (gU i)):=by
 intro pins s σ H D I h;have ck:=nV.of ck;rw[exec_Assign_Name_used _ _ _ _ hsw];refine ap (wpAny_standAt (ap ?_))
 show wpAny _ X.A (do let _ <- comprehension (.ListComp elt [⟨tg,iter,ifs,0⟩] scope pos) scope X.env _ (newList []) ae (eval iter X.env) (aa (iy (.Name x pos') X.env))) _ _ s
 obtain⟨cl,hcl,a1,a2⟩:=B9 (scope:=scope) (env:=X.env) λx hx e=>I.ok.has x.1 (ck.free x hx e)
 refine ap (fT (wpAny_comprehension_free (use:=aa (iy (.Name x pos') X.env)) (Q:=λ_ s'=>SP X pins D .next s') rfl hs hcl ck.kind ck.loc
  (thn (hi pins s σ H _ I h) λv s1 h1=>thn h1 λitv s2 h2=>?_)) (λ_ s' hq=>aJ (aJ hq)) λ_ _ e=>e)
 obtain⟨it,fp,tn,J,H2,e,I2,T,st2,f2,hW⟩:=h2;subst e;refine Cc (RR:=λacc C=>compPost (model X.prog X.w) X.A X.xe (aa (iy (.Name x pos') X.env)) (λ_ s'=>SP X pins D .next s') acc C) hc ck hg ht he a1 a2 I2 T st2 f2 hW λD' C s' H' I' ⟨m,hn⟩ fC q=>?_;obtain⟨f0,f1,f2',f3,f4,f5⟩:=fC;show wpAny _ X.A (iy (.Name x pos') X.env (.ref D')) _ _ _;refine wpAny_assign_Name (Bl (v:=.ref D') I' hN hi' hx rfl (λs'' I'' ⟨a,sb,ha⟩=>?_) hf)
 have hCa:C≠a:=by
  rcases ha with z |z
  .rw[z];exact f1
  .exact(f4 x a z).symm
 exact⟨m,hn.sameBut sb hCa,λh' hs'=>⟨_,H',I''.turned (t':=s''.toks) (λb o hb e=>(hs'.2 b hb).trans e) f0 f1 f3 f4 f5,q⟩⟩
theorem Cd:OpR X (c3 .Is) (λx y H Q=>∃b,y=.bl b/\(x=.non\/∃c,x=.bl c)/\Q (.bl (decide (x=.bl b))) H):=by
 intro pins s σ H x y v u Q I rx ry h;obtain⟨b,rfl,hx,q⟩:=h;cases ry
 rcases hx with rfl |⟨c,rfl⟩
 .cases rx
  exact wpAny_is_plain rfl (bZ I q (by cases b <;> rfl))
 .cases rx
  exact wpAny_is_plain rfl (bZ I q (by cases b <;> cases c <;> rfl))
theorem Ce:OpR X (c3 .IsNot) (λx y H Q=>∃b,y=.bl b/\(x=.non\/∃c,x=.bl c)/\Q (.bl (!decide (x=.bl b))) H):=by
 intro pins s σ H x y v u Q I rx ry h;obtain⟨b,rfl,hx,q⟩:=h;cases ry
 rcases hx with rfl |⟨c,rfl⟩
 .cases rx
  exact wpAny_isNot_plain rfl (bZ I q (by cases b <;> rfl))
 .cases rx
  exact wpAny_isNot_plain rfl (bZ I q (by cases b <;> cases c <;> rfl))
theorem Jg(hc:X.calm=ab):ia X (.builtin "sum") (λxs H Q=>∃(p:Addr) (ns:List Int),xs=[.ref p]/\SqL X.K H p (ns.map V.int)/\Q (.int ns.sum) H):=by
 intro pins s σ H xs us Q I r h;obtain⟨p,ns,rfl,hq,q⟩:=h;obtain⟨u,rfl,rx⟩:=mm r;cases rx;obtain⟨its,r',pl,hz⟩:=I.list hq;have hi:e7 its ns:=Ic r';obtain⟨xs,e⟩:=hi.allInts.items;refine sum_intListG (I.ok.hd hc) (xs:=xs) (by rw[<- e];exact pl.isList) λh' tk t' hk=>?_
 have es:preSum (numAt xs) xs.size=ns.sum:=by
  rw[preSum_eq,take_of_length_le (by simp),<- nums_intItems,<- e];show(numsOf its).sum=ns.sum;rw[hi.numsOf]
 rw[es];exact⟨.int ns.sum,H,I.kept hk,⟨_,rfl⟩,q⟩
theorem Jh:ia X (.builtin "isinstance") (λxs H Q=>∃x T t b,xs=[x,.ty T]/\gV X.K H x t/\W.kitOne X.K t (.type T)=aa b/\Q (.bl b) H):=by
 intro pins s σ H xs us Q I r h;obtain⟨x,T,t,b,rfl,ty,e,q⟩:=h;obtain⟨u,w',rfl,rx,rc⟩:=BA r;cases (show w'=j5 T from rc);exact HQ I rx ty e λtk=>⟨.bl b,H,I.tok tk,rfl,q⟩
variable{xs:List V}
theorem aG.at'{us:LVa}{u:Value}(r:aG xs us)(e:us[i]?=aa u):∃x,xs[i]?=aa x/\aF x u:=by
 have hl:=r.length;have hi:i<xs.length:=by have:=(dH.mp e).1;omega
 refine⟨xs[i],by simp[hi],?_⟩;obtain⟨u',e',r'⟩:=r.get (i:=i) (x:=xs[i]) (by simp[hi]);rw[e]at e';cases e';exact r'
theorem nX{env:Env}{k':fV}(hk:k'≠.free):∀{names:List (Str×fV)} {x:Str},names.lookup x=aa k' ->
  (names.map λ(n,k)=>if (k==dR && env.scope.kind==.function && env.kindOf n==aa .cell) then (n,iA) else (n,k)).lookup x=aa k'
 | [],_,h=>by simp at h
 |(n,k)::r,x,h=>by
  have ih:=@nX env k' hk r x;rw[bn];show iW x ((if (k==dR && env.scope.kind==.function && env.kindOf n==aa .cell)=ab then (n,iA) else (n,k))::_)=_;rw[eO]at h
  cases hx:x==n with
  |true=>
   rw[hx]at h;have e:k=k':=cF h;subst e;have hf:(k==dR)=ae:=by simpa using hk
   rw[hf,o7,o7,if_neg bd,eO,hx]
  |false=>
   rw[hx]at h;split
   .rw[eO,hx];exact ih h
   .rw[eO,hx];exact ih h
theorem Ji(h:Vis scope x):Vis (relabel scope env) x:=by
 rcases h with h |h |h
 .exact .inl (nX (by decide) h)
 .exact .inr (.inl (nX (by decide) h))
 .rcases wq (env:=env) h with z |z
  .exact .inr (.inl z)
  .exact .inr (.inr z)
variable{C:Addr}{ex:LAd}{s₂:ai}{H₂:Hp}
theorem pvc(i:Nat)(hN:Nc[i]?=aa x:=by rfl)(hv:Vis scope x:=by first |exact cv rfl |exact bO (cv rfl) |exact bO (bO rfl))(hd:NDb x:=by decide)
 (hcd:NCd x:=by decide):PE (X.comp scope Nc cl C ex s₂ H₂) (.Name x pos) (dq i):=nN hN (Ji hv) hd hcd
theorem pgc(i:Nat)(hN:Nc.Nodup:=by decide +kernel)(hi:Nc[i]?=aa x:=by rfl)(hl:scope.names.lookup x=aa .local:=by rfl):PG (X.comp scope Nc cl C ex s₂ H₂) (.Name x pos) (gU i):=
 vI (X:=X.comp scope Nc cl C ex s₂ H₂) hN hi (.inl (nX (by decide) hl)) (.inr (nX (by decide) hl))
theorem glc(h:scope.names.lookup x=aa .globalImplicit):Gl (X.comp scope Nc cl C ex s₂ H₂) x:=nX (env:=X.env) (by decide) h
variable{p:Addr}
theorem bR{o:HO}(h:H p=ac):aw H (upd H p o):=λb u e=>by rw[aK (fI e h)];exact e
variable{K:aX}{H':Hp}
theorem aw.tup{a:Addr}(e:aw H H')(h:SqT K H a xs):SqT K H' a xs:=by
 rcases h with(h |⟨o,h⟩) |h
 .exact .inl (.inl (e _ _ h))
 .exact .inl (.inr ⟨o,e _ _ h⟩)
 .exact .inr h
def nY(p:Addr)(H H':Hp):Prop:=∀b o,H b=aa o->b≠p->H' b=aa o
theorem nY.refl(p:Addr)(H:Hp):nY p H H:=λ_ _ h _=>h
variable{H1:Hp}
theorem nY.trans(a:nY p H H1)(b:nY p H1 H2):nY p H H2:=λc o h n=>b c o (a c o h n) n
noncomputable def bx(p:Option Bool->Bool)(es:List (Option Bool))(its:List (Int×Int)):Int:=((its.filter λz=>p (es.getD z.1.toNat ac)).map (·.2)).sum
inductive Prt where
 |inn (t:Int) |out (t:Int) |least (k:Int) (its:List (Int×Int)) |most (k:Int) (its:List (Int×Int))
noncomputable def bs(l:List Bool):List (Option Bool):=l.map aa
noncomputable def Prt.holds(rs ws:List Bool):Prt->Bool
 |.inn t=>(rs.getD t.toNat ae)
 |.out t=>!(ws.getD t.toNat ae)
 |.least k its=>decide (k<=bx (·==aa ab) (bs rs) its)
 |.most k its=>decide (bx (·==aa ab) (bs ws) its<=k)
variable{h':Heap}
section
variable{s:ai}
theorem Inv.turnedMany{t':Nat}{ch:LAd}(I:Inv X pins σ H s)(k:∀b o,b∉ch->s.heap.get? b=aa o->h'.get? b=aa o)(hf:∀b∈ch,hZ X pins H b):Inv X pins σ H {s with heap:=h',toks:=t'}:=by
 refine I.step (g':=s.gens) (d':=s.drawn) (ch:=ch) (λb hb=>?_) (λb o _ _ hc e _=>k b o hc e) (λb o _ _ hc e _=>⟨o.slots,k b o hc e⟩) (λ_ _ _ _ n=>n)
  (λb o hc e=>⟨o,k b o hc e⟩) (λ_ _ e=>e) (λ_ _ _ e=>e) (λb ps e=>⟨#[],by rw[e];simp⟩) (λm hm=>?_) (λb u e=>?_) I.bare
 .obtain⟨_,f1,_,f3,f4,f5⟩:=hf b hb;exact⟨f3,f1,f4,f5⟩
 .obtain⟨o,es,ep,ho,r⟩:=hm;exact⟨o,es,ep,k _ o (λz=>(hf _ z).2.1 rfl) ho,r⟩
 .refine(I.hok b u e).stay (λc v hc q=>k c v (λz=>?_) q) (λ_ q=>q) λ_ _ q=>q;have hn:=(hf c z).1
  rcases hc with y |y
  .rw[y,e]at hn;cases hn
  .rw[hn]at y;cases y
end
section
variable{s:ai}
theorem Inv.track{o:HO}(I:Inv X pins σ H s)(f:hZ X pins H p)(ob:cU X.prog X.w (upd H p o) s.heap p o):Inv X pins σ (upd H p o) s:=by
 obtain⟨f0,f1,f2,f3,f4,f5⟩:=f;have ne:∀b u,H b=aa u->b≠p:=λb u e=>fI e f0;have one:∀b:Addr,b∉[p]->b≠p:=λb hb z=>hb (by rw[z];simp)
 refine I.step (g':=s.gens) (d':=s.drawn) (t':=s.toks) (h':=s.heap) (ch:=[p]) (λb hb=>?_) (λb o _ _ hc e _=>e) (λb o _ _ hc e _=>⟨o.slots,e⟩) (λb o hc e n=>?_)
  (λb o hc e=>⟨o,e⟩) (λb xs e=>?_) (λb o u e=>?_) (λb ps e=>⟨#[],?_⟩) (λm hm=>hm) (λb u e=>?_) I.bare
 .have e:b=p:=by simpa using hb
  subst e;exact⟨f3,f1,f4,f5⟩
 .rw[aK (one b hc)];exact n
 .rw[aK (ne b _ e)];exact e
 .rw[aK (ne b _ e)];exact e
 .rw[aK (ne b _ e),e];simp
 .by_cases hb:b=p
  .subst hb;rw[be]at e;cases e;exact ob
  .rw[aK hb]at e;exact(I.hok b u e).stay (λc v _ q=>q) (λc q=>by rw[aK (ne c _ q)];exact q) λc xs q=>by rw[aK (ne c _ q)];exact q
end
noncomputable def Itz(K:aX)(l1 l2:Addr):It:=
  ⟨λi H=> ∃xs ys x y, SqL K H l1 xs/\SqL K H l2 ys/\xs[i]? = aa x/\ys[i]? = aa y,
   λi H v H'=> ∃p x y, v = .ref p/\H p = ac/\H' = upd H p (.tup [x, y])/\(∀xs, SqL K H l1 xs->xs[i]? = aa x)/\(∀ys, SqL K H l2 ys->ys[i]? = aa y),
   λi H=> ∃xs ys, SqL K H l1 xs/\SqL K H l2 ys/\(xs.length<=i\/ys.length<=i)⟩
variable{P:cH}{elts:LEx}{kx:Nat}
theorem Jj(z TI TO i1 i2 l1 l2:Addr)(D:ZipApart z TI TO i1 i2 l1 l2):
  ke P w K (.Tuple elts kx pos) (Itz K l1 l2) [z,TI,TO,i1,i2] z (λi h=>IsZip h z TI TO .none/\IsPair h TI (.ref i1) (.ref i2)/\(∃a b,IsPair h TO a b)/\h.IsListIter i1 l1 i/\h.IsListIter i2 l2 i) where
 mem:=by simp
 obj:=λi h st b hb=>by
  obtain⟨hz,hTI,⟨a,c,hTO⟩,⟨o1,e1,_,d1⟩,⟨o2,e2,_,d2⟩⟩:=st;simp only[aW,cE,or_false]at hb
  rcases hb with rfl |rfl |rfl |rfl |rfl
  .exact⟨_,hz,λv q=>by cases q⟩
  .exact⟨_,hTI,λv q=>by cases q⟩
  .exact⟨_,hTO,λv q=>by cases q⟩
  .exact⟨o1,e1,λv q=>by rw[d1]at q;cases q⟩
  .exact⟨o2,e2,λv q=>by rw[d2]at q;cases q⟩
 keep:=λi h h' st k=>by
  obtain⟨hz,hTI,⟨a,c,hTO⟩,h1,h2⟩:=st;exact⟨k z (by simp) _ hz,k TI (by simp) _ hTI,⟨a,c,k TO (by simp) _ hTO⟩,h1.at λo e=>k i1 (by simp) o e,h2.at λo e=>k i2 (by simp) o e⟩
 item:=by
  intro X hP hw hK hc i pins s σ H E I hf st hg;subst hP hw hK;obtain⟨hz,hTI,⟨a,c,hTO⟩,h1,h2⟩:=st;obtain⟨xs,ys,x,y,q1,q2,hx,hy⟩:=hg;obtain⟨its1,r1,p1,z1⟩:=I.list q1;obtain⟨its2,r2,p2,z2⟩:=I.list q2;obtain⟨u1,e1,ru1⟩:=r1.get hx;obtain⟨u2,e2,ru2⟩:=r2.get hy;refine wpAny_pyNext_zip_item D hz hTI hTO h1 h2 p1.isList p2.isList (x:=u1) (y:=u2) (by simpa using e1) (by simpa using e2) λh' a1 a2 a3 a4 a5 a6 a7=>⟨_,rfl,?_⟩
  refine wpAny_letOwnedTupleGo_zip (s:={s with heap:=h'}) a1 λh'' b1 b2=>?_
  have lt:∀b∈[z,TI,TO,i1,i2],b<s.heap.objs.size:=λb hb=>by
   simp only[aW,cE,or_false]at hb
   rcases hb with rfl |rfl |rfl |rfl |rfl
   .exact bA hz
   .exact bA hTI
   .exact bA hTO
   .obtain⟨o,e,_⟩:=h1;exact bA e
   .obtain⟨o,e,_⟩:=h2;exact bA e
  have kk:∀b o,b∉[z,TI,TO,i1,i2]->s.heap.get? b=aa o->h''.get? b=aa o:=λb o hb e=>by
   simp only[aW,cE,or_false,not_or]at hb;obtain⟨n1,n2,n3,n4,n5⟩:=hb;exact(b2.2 b n1).trans (a7 b o n1 n3 n4 n5 e)
  have fr:H s.heap.objs.size=ac:=I.hok.fresh (aL _)
  have I1:Inv X pins σ H {s with heap:=h''}:=I.turnedMany (t':=s.toks) kk hf
  have hp:h''.get? s.heap.objs.size=aa {cls:=.type "tuple",data:=.seq #[u1,u2]}:=(b2.2 _ (nz (lt z (by simp)))).trans a5
  have I2:Inv X pins σ (upd H s.heap.objs.size (.tup [x,y])) {s with heap:=h''}:=
   I1.track (I.fpOk (aL _) fr) ⟨(by show 2<=aS;decide),[u1,u2],.cons ru1 (.cons ru2 .nil),⟨_,hp,rfl,_,rfl⟩⟩
  refine⟨.ref s.heap.objs.size,_,I2,rfl,⟨_,x,y,rfl,fr,rfl,λxs' h=>by rw[I.list_inj h q1];exact hx,λys' h=>by rw[I.list_inj h q2];exact hy⟩,⟨b1,?_,⟨u1,u2,?_⟩,?_,?_⟩,λb hb=>?_⟩
  .exact(b2.2 TI D.TIz).trans (a7 TI _ D.TIz D.TITO D.TIi1 D.TIi2 hTI)
  .exact(b2.2 TO D.TOz).trans a2
  .exact a3.at λo e=>(b2.2 i1 D.i1z).trans e
  .exact a4.at λo e=>(b2.2 i2 D.i2z).trans e
  .rw[aK (ca (lt b hb))];exact(hf b hb).1
 done:=by
  intro X hP hw hK hc i pins s σ H E I hf st hg;subst hP hw hK;obtain⟨hz,hTI,⟨a,c,hTO⟩,h1,h2⟩:=st;obtain⟨xs,ys,q1,q2,hend⟩:=hg;obtain⟨its1,r1,p1,z1⟩:=I.list q1;obtain⟨its2,r2,p2,z2⟩:=I.list q2;have l1':=r1.length;have l2':=r2.length;refine wpAny_pyNext_zip_end (I.ok.hd hc) D hz hTI hTO h1 h2 p1.isList p2.isList ?_ λh' kk=>⟨rfl,I.turnedMany (t':=s.toks) (ch:=[z,TI,TO,i1,i2]) (λb o hb e=>?_) hf⟩
  .rcases hend with q |q
   .exact .inl (by simp;omega)
   .exact .inr (by simp;omega)
  .simp only[aW,cE,or_false,not_or]at hb;obtain⟨n1,n2,n3,n4,n5⟩:=hb;exact kk b o n1 n3 n4 n5 e
 self:=λ_ _ _ _ _ st h=>wpAny_pyIter_zip st.1 h
def Jk(K:aX)(ta:TA):TI:=λσ H R=>ta σ H λvs H1=>∃l1 l2,vs=[.ref l1,.ref l2]/\(∃xs,SqL K H1 l1 xs)/\(∃ys,SqL K H1 l2 ys)/\R (Itz K l1 l2) H1
variable{tpos:Pos}{b:Expr}{ta:TA}
theorem Jl{a:Expr}{p:Pos}(hg:Gl X "zip")(hm:X.mg "zip"=ac)(ha:PA X [a,b] ta)(hs:ba [a,b] X.env=[(ae,eval a X.env),(ae,eval b X.env)]:=by rfl)(hs2:ba [b] X.env=[(ae,eval b X.env)]:=by rfl):
  PI X (.Tuple elts kx tpos) (.Call (.Name "zip" p) [a,b] [] pos) (Jk X.K ta):=by
 intro pins s σ H R I h;refine Call_ (kc I hg hm boot_zip (py (thn (ha pos pins s σ H _ I h) λus s1 ⟨vs,H1,I1,r1,q1⟩=>?_) (by rw[hs,hs2]) (by rw[hs2];rfl)));obtain⟨l1,l2,e,⟨xs,h1⟩,⟨ys,h2⟩,q⟩:=q1;subst e;obtain⟨u,v,rfl,ru,rv⟩:=BA r1;cases ru;cases rv;obtain⟨its1,r1,p1,z1⟩:=I1.list h1;obtain⟨its2,r2,p2,z2⟩:=I1.list h2;refine call_zip_2 p1.isList p2.isList λh' a1 a2 a3 a4 a5 a6 a7=>?_;refine wpAny_pyIter_zip a1 ?_
 have I2:Inv X pins σ H1 {s1 with heap:=h'}:=I1.kept (t':=s1.toks) a7
 refine⟨_,[s1.heap.objs.size+4,s1.heap.objs.size+2,s1.heap.objs.size+3,s1.heap.objs.size,s1.heap.objs.size+1],_,_,H1,rfl,I2,Jj _ _ _ _ _ _ _ (zipApart_new p1.lt p2.lt),⟨a1,a2,⟨_,_,a3⟩,a4,a5⟩,λb hb=>?_,q⟩;simp only[aW,cE,or_false]at hb
 have hle:s1.heap.objs.size<=b:=by
  rcases hb with rfl |rfl |rfl |rfl |rfl
  .exact nv _ _
  .exact nv _ _
  .exact nv _ _
  .exact aL _
  .exact nv _ _
 exact I1.fpOk hle (I1.hok.fresh hle)
noncomputable def gt(p:Int->Bool)(its:List (Int×Int)):Int:=((its.filter λz=>p z.1).map (·.2)).sum
theorem kg(p:Option Bool->Bool)(es:List (Option Bool))(its:List (Int×Int)):bx p es its=gt (λt=>p (es.getD t.toNat ac)) its:=rfl
theorem Jm(p q:Int->Bool)(its:List (Int×Int)):gt p (its.filter λz=>q z.1)=gt (λt=>p t && q t) its:=by
 unfold gt;rw[filter_filter]
noncomputable def Prt.sure(es:List (Option Bool)):Prt->Bool
 |.inn t=>es.getD t.toNat ac==aa ab
 |.out t=>es.getD t.toNat ac==aa ae
 |.least k its=>decide (k<=bx (·==aa ab) es its)
 |.most k its=>decide (bx (λe=>!(e==aa ae)) es its<=k)
noncomputable def Prt.lost(es:List (Option Bool))(ws:List Bool):Prt->Bool
 |.inn t=>(es.getD t.toNat ac==aa ae) || ws.getD t.toNat ae
 |.out t=>es.getD t.toNat ac==aa ab
 |.least k its=>decide (gt (λt=>!(es.getD t.toNat ac==aa ae) && !(ws.getD t.toNat ae)) its<k)
 |.most k its=>decide (k<bx (·==aa ab) es its)
inductive D where
 |non
 |bl (b:Bool)
 |int (i:Int)
 |str (x:Str)
 |lst (xs:List D)
 |tup (xs:List D)
 |kl (xs:List D)
 |kt (xs:List D)
 |dic (ks:List Key) (xs:List D)
 |ins (c:Str) (ns:LSt) (xs:List D)
 |kd (ks:List Key) (xs:List D)
 |dT (ks:List (List Key)) (xs:List D)
 deriving Inhabited
abbrev OD:=Option D
abbrev LD:=List D
abbrev OLD:=Option LD
set_option genInjectivity false in
structure Gc where
 K:aX
 cl:Str->Addr
mutual
def Rep(G:Gc)(H:Hp):D->V->Prop
 |.non,v=>v=.non
 |.bl b,v=>v=.bl b
 |.int i,v=>v=.int i
 |.str x,v=>v=.str x
 |.lst ds,v=>∃a vs,v=.ref a/\H a=aa (.lst vs)/\am G H ds vs
 |.tup ds,v=>∃a vs,v=.ref a/\H a=aa (.tup vs)/\am G H ds vs
 |.kl ds,v=>∃a vs,v=.ref a/\SqL G.K H a vs/\am G H ds vs
 |.kt ds,v=>∃a vs,v=.ref a/\SqT G.K H a vs/\am G H ds vs
 |.dic ks ds,v=>∃a vs,v=.ref a/\H a=aa (.dK (ks.zip vs))/\ks.length=vs.length/\am G H ds vs
 |.ins c ns ds,v=>∃a dx vs,v=.ref a/\H a=aa (.ins (G.cl c) dx (ns.zip vs))/\ns.length=vs.length/\am G H ds vs
 |.kd ks ds,v=>∃a od vs,v=.ref a/\H a=aa (.frz od (.dK (ks.zip vs)))/\ks.length=vs.length/\am G H ds vs
 |.dT ks ds,v=>∃a vs,v=.ref a/\H a=aa (.dT (ks.zip vs))/\ks.length=vs.length/\am G H ds vs
def am(G:Gc)(H:Hp):LD->List V->Prop
 | [],vs=>vs=[]
 |d::ds,vs=>∃v r,vs=v::r/\Rep G H d v/\am G H ds r
end
mutual
theorem Rep.upM(s:aw H H'):∀(d:D) (v:V),Rep G H d v->Rep G H' d v
 |.non,_,h=>h
 |.bl _,_,h=>h
 |.int _,_,h=>h
 |.str _,_,h=>h
 |.lst ds,_,h_=>by obtain⟨a,vs,e,q,r⟩:=h_;exact⟨a,vs,e,s _ _ q,am.upM s ds vs r⟩
 |.tup ds,_,h_=>by obtain⟨a,vs,e,q,r⟩:=h_;exact⟨a,vs,e,s _ _ q,am.upM s ds vs r⟩
 |.kl ds,_,h_=>by obtain⟨a,vs,e,q,r⟩:=h_;exact⟨a,vs,e,s.seq q,am.upM s ds vs r⟩
 |.kt ds,_,h_=>by obtain⟨a,vs,e,q,r⟩:=h_;exact⟨a,vs,e,s.tup q,am.upM s ds vs r⟩
 |.dic _ ds,_,h_=>by obtain⟨a,vs,e,q,l,r⟩:=h_;exact⟨a,vs,e,s _ _ q,l,am.upM s ds vs r⟩
 |.ins _ _ ds,_,h_=>by obtain⟨a,dx,vs,e,q,l,r⟩:=h_;exact⟨a,dx,vs,e,s _ _ q,l,am.upM s ds vs r⟩
 |.kd _ ds,_,h_=>by obtain⟨a,od,vs,e,q,l,r⟩:=h_;exact⟨a,od,vs,e,s _ _ q,l,am.upM s ds vs r⟩
 |.dT _ ds,_,h_=>by obtain⟨a,vs,e,q,l,r⟩:=h_;exact⟨a,vs,e,s _ _ q,l,am.upM s ds vs r⟩
theorem am.upM(s:aw H H'):∀(ds:LD) (vs:List V),am G H ds vs->am G H' ds vs
 | [],_,h=>h
 |d::ds,_,h_=>by obtain⟨v,r,e,h1,h2⟩:=h_;exact⟨v,r,e,Rep.upM s d v h1,am.upM s ds r h2⟩
end
variable{G:Gc}{d:D}{v:V}
theorem Rep.up(r:Rep G H d v)(s:aw H H'):Rep G H' d v:=Rep.upM s d v r
variable{ds:LD}{vs:List V}
theorem am.up(r:am G H ds vs)(s:aw H H'):am G H' ds vs:=am.upM s ds vs r
theorem am.nil:am G H [] []:=rfl
theorem am.cons(h:Rep G H d v)(t:am G H ds vs):am G H (d::ds) (v::vs):=⟨v,vs,rfl,h,t⟩
theorem am.length:∀{ds:LD} {vs:List V},am G H ds vs->ds.length=vs.length
 | [],_,h=>by cases (show _=[]from h);rfl
 |d::ds,_,⟨v,r,e,_,h⟩=>by subst e;simp[am.length h]
theorem am.append:∀{ds es:LD} {vs us:List V},am G H ds vs->am G H es us->am G H (ds++es) (vs++us)
 | [],_,_,_,h,t=>by cases (show _=[]from h);exact t
 |d::ds,_,_,_,⟨v,r,e,h1,h2⟩,t=>by subst e;exact⟨v,r++_,rfl,h1,am.append h2 t⟩
theorem am.get:∀{ds:LD} {vs:List V} {i:Nat} {d:D},am G H ds vs->ds[i]?=aa d->∃v,vs[i]?=aa v/\Rep G H d v
 | [],_,_,_,_,e=>by simp at e
 |d::ds,_,0,_,⟨v,r,e,h1,_⟩,e'=>by subst e;simp at e';subst e';exact⟨v,rfl,h1⟩
 |d::ds,_,i+1,d',q4_,e'=>by
  obtain⟨v,r,e,_,h2⟩:=q4_;subst e;obtain⟨u,a,b⟩:=am.get (i:=i) (d:=d') h2 (by simpa using e');exact⟨u,by simpa using a,b⟩
theorem am.get':∀{ds:LD} {vs:List V} {i:Nat} {v:V},am G H ds vs->vs[i]?=aa v->∃d,ds[i]?=aa d/\Rep G H d v:=λ{ds vs i v} h e=>by
 have hl:=h.length;have hi:i<ds.length:=by have:=(dH.mp e).1;omega
 obtain⟨u,a,b⟩:=h.get (i:=i) (d:=ds[i]) (by simp[hi]);rw[e]at a;cases a;exact⟨ds[i],by simp[hi],b⟩
theorem am.ints:∀(ns:List Int),am G H (ns.map D.int) (ns.map V.int)
 | []=>rfl
 |n::ns=>⟨_,_,rfl,rfl,am.ints ns⟩
theorem am.take:∀{ds:LD} {vs:List V} (n:Nat),am G H ds vs->am G H (ds.take n) (vs.take n)
 | _,_,0,_=>rfl
 | [],_,n+1,h=>by cases (show _=[]from h);rfl
 |d::ds,_,n+1,⟨v,r,e,h1,h2⟩=>by subst e;exact⟨v,r.take n,rfl,h1,am.take n h2⟩
theorem am.drop:∀{ds:LD} {vs:List V} (n:Nat),am G H ds vs->am G H (ds.drop n) (vs.drop n)
 | _,_,0,h=>h
 | [],_,n+1,h=>by cases (show _=[]from h);rfl
 |d::ds,_,n+1,⟨v,r,e,h1,h2⟩=>by subst e;exact am.drop n h2
theorem am.set:∀{ds:LD} {vs:List V} (i:Nat) {d:D} {v:V},am G H ds vs->Rep G H d v->am G H (ds.set i d) (vs.set i v)
 | [],_,_,_,_,h,_=>by cases (show _=[]from h);exact .nil
 |e::ds,_,0,_,_,⟨v,r,e',_,h2⟩,q=>by subst e';exact⟨_,r,rfl,q,h2⟩
 |e::ds,_,i+1,_,_,⟨v,r,e',h1,h2⟩,q=>by subst e';exact⟨v,r.set i _,rfl,h1,am.set i h2 q⟩
noncomputable def iG:HO->Bool
 |.tup _=>ab
 | _=>ae
structure Ext(Hf H Hf' H':Hp):Prop where
 f:aw Hf Hf'
 h:aw H H'
 s:aw Hf' H'
 n:∀l o,H l=aa o->iG o=ae->Hf' l=Hf l
variable{Hf:Hp}
theorem Ext.refl(s:aw Hf H):Ext Hf H Hf H:=⟨aw.refl _,aw.refl _,s,λ_ _ _ _=>rfl⟩
variable{Hf1 Hf2:Hp}
theorem Ext.trans(a:Ext Hf H Hf1 H1)(b:Ext Hf1 H1 Hf2 H2):Ext Hf H Hf2 H2:=⟨a.f.trans b.f,a.h.trans b.h,b.s,λl o e t=>(b.n l o (a.h l o e) t).trans (a.n l o e t)⟩
section
variable{o:HO}
theorem Ext.new(s:aw Hf H)(h:H p=ac):Ext Hf H (upd Hf p o) (upd H p o):=
 ⟨bR (s.free h),bR h,λb u e=>by
  by_cases hb:b=p
  .subst hb;rw[be]at e ⊢;exact e
  .rw[aK hb]at e ⊢;exact s b u e,λl u e _=>by rw[aK (fI e h)]⟩
end
section
variable{o:HO}
theorem Ext.tmp(s:aw Hf H)(h:H p=ac):Ext Hf H Hf (upd H p o):=⟨aw.refl _,bR h,s.trans (bR h),λ_ _ _ _=>rfl⟩
end
theorem Ext.grow(s:aw Hf H)(g:aw H H1):Ext Hf H Hf H1:=⟨aw.refl _,g,s.trans g,λ_ _ _ _=>rfl⟩
section
variable{o:HO}
theorem Ext.fix(a:Ext Hf H Hf1 H1)(hn:H p=ac)(hf:Hf1 p=ac)(hp:H1 p=aa o):Ext Hf H (upd Hf1 p o) H1:=
 ⟨a.f.trans (bR hf),a.h,λb u e=>by
  by_cases hb:b=p
  .subst hb;rw[be]at e;rw[hp];exact e
  .rw[aK hb]at e;exact a.s b u e,λl u e t=>by rw[aK (fI e hn)];exact a.n l u e t⟩
end
inductive O where
 |fz (d:D)
 |lst (xs:List O)
 |tup (xs:List O)
 |dic (ks:List Key) (xs:List O)
 |ins (c:Str) (ns:LSt) (xs:List O)
 |jnk (n:Nat)
 |dT (ks:List (List Key)) (xs:List O)
 |at (l:Addr) (o:O)
 |any
 deriving Inhabited
mutual
def OT(G:Gc)(Hf H:Hp):O->V->LAd->Prop
 |.fz d,v,fp=>Rep G Hf d v/\fp=[]
 |.lst os,v,fp=>∃a vs fs,v=.ref a/\H a=aa (.lst vs)/\OTs G Hf H os vs fs/\fp=a::fs
 |.tup os,v,fp=>∃a vs,v=.ref a/\H a=aa (.tup vs)/\OTs G Hf H os vs fp
 |.dic ks os,v,fp=>∃a vs fs,v=.ref a/\H a=aa (.dK (ks.zip vs))/\ks.length=vs.length/\OTs G Hf H os vs fs/\fp=a::fs
 |.ins c ns os,v,fp=>∃a dx vs fs,v=.ref a/\H a=aa (.ins (G.cl c) dx (ns.zip vs))/\ns.length=vs.length/\OTs G Hf H os vs fs/\fp=a::fs
 |.jnk n,v,fp=>∃a vs,v=.ref a/\H a=aa (.lst vs)/\vs.length<=n/\fp=[a]
 |.dT ks os,v,fp=>∃a vs fs,v=.ref a/\H a=aa (.dT (ks.zip vs))/\ks.length=vs.length/\OTs G Hf H os vs fs/\fp=a::fs
 |.at l o,v,fp=>v=.ref l/\OT G Hf H o v fp
 |.any,_,fp=>fp=[]
def OTs(G:Gc)(Hf H:Hp):List O->List V->LAd->Prop
 | [],vs,fp=>vs=[]/\fp=[]
 |o::os,vs,fp=>∃v r f1 f2,vs=v::r/\OT G Hf H o v f1/\OTs G Hf H os r f2/\fp=f1++f2
end
mutual
noncomputable def O.toD:O->D
 |.fz d=>d
 |.lst os=>.lst (O.toDs os)
 |.tup os=>.tup (O.toDs os)
 |.dic ks os=>.dic ks (O.toDs os)
 |.ins c ns os=>.ins c ns (O.toDs os)
 |.at _ o=>o.toD
 |.jnk _=>.non
 |.dT ks os=>.dT ks (O.toDs os)
 |.any=>.non
noncomputable def O.toDs:List O->LD
 | []=>[]
 |o::os=>o.toD::O.toDs os
end
mutual
noncomputable def O.kn:O->Bool
 |.fz _=>ab
 |.lst os=>O.kns os
 |.tup os=>O.kns os
 |.dic _ os=>O.kns os
 |.ins _ _ os=>O.kns os
 |.at _ o=>o.kn
 |.jnk _=>ae
 |.dT _ os=>O.kns os
 |.any=>ae
noncomputable def O.kns:List O->Bool
 | []=>ab
 |o::os=>o.kn && O.kns os
end
mutual
theorem OT.frameM(f:aw Hf Hf'):∀(o:O) (v:V) (fp:LAd),OT G Hf H o v fp->(∀b u,H b=aa u->(iG u=ab\/b∈fp)->H' b=aa u)->OT G Hf' H' o v fp
 |.fz d,_,_,h,_=>⟨h.1.up f,h.2⟩
 |.lst os,_,fp,h_,k=>by obtain⟨a,vs,fs,e,q,r,ef⟩:=h_;exact⟨a,vs,fs,e,k _ _ q (.inr (by rw[ef];exact aO)),OTs.frameM f os vs fs r (λb u hb hm=>k b u hb (hm.imp_right λz=>by rw[ef];exact bv _ z)),ef⟩
 |.tup os,_,fp,h_,k=>by obtain⟨a,vs,e,q,r⟩:=h_;exact⟨a,vs,e,k _ _ q (.inl rfl),OTs.frameM f os vs fp r k⟩
 |.dic ks os,_,fp,h_,k=>by obtain⟨a,vs,fs,e,q,z,r,ef⟩:=h_;exact⟨a,vs,fs,e,k _ _ q (.inr (by rw[ef];exact aO)),z,OTs.frameM f os vs fs r (λb u hb hm=>k b u hb (hm.imp_right λz=>by rw[ef];exact bv _ z)),ef⟩
 |.ins c ns os,_,fp,h_,k=>by obtain⟨a,dx,vs,fs,e,q,z,r,ef⟩:=h_;exact⟨a,dx,vs,fs,e,k _ _ q (.inr (by rw[ef];exact aO)),z,OTs.frameM f os vs fs r (λb u hb hm=>k b u hb (hm.imp_right λz=>by rw[ef];exact bv _ z)),ef⟩
 |.jnk n,_,fp,h_,k=>by obtain⟨a,vs,e,q,z,ef⟩:=h_;exact⟨a,vs,e,k _ _ q (.inr (by rw[ef];exact aO)),z,ef⟩
 |.dT ks os,_,fp,h_,k=>by obtain⟨a,vs,fs,e,q,z,r,ef⟩:=h_;exact⟨a,vs,fs,e,k _ _ q (.inr (by rw[ef];exact aO)),z,OTs.frameM f os vs fs r (λb u hb hm=>k b u hb (hm.imp_right λz=>by rw[ef];exact bv _ z)),ef⟩
 |.at _ o,v,fp,h_,k=>by obtain⟨e,r⟩:=h_;exact⟨e,OT.frameM f o v fp r k⟩
 |.any,_,_,h,_=>h
theorem OTs.frameM(f:aw Hf Hf'):∀(os:List O) (vs:List V) (fp:LAd),OTs G Hf H os vs fp->(∀b u,H b=aa u->(iG u=ab\/b∈fp)->H' b=aa u)->OTs G Hf' H' os vs fp
 | [],_,_,h,_=>h
 |o::os,_,fp,h_,k=>by obtain⟨v,r,f1,f2,e,h1,h2,ef⟩:=h_;exact⟨v,r,f1,f2,e,OT.frameM f o v f1 h1 (λb u hb hm=>k b u hb (hm.imp_right λz=>by rw[ef];exact gh _ z)),OTs.frameM f os r f2 h2 (λb u hb hm=>k b u hb (hm.imp_right λz=>by rw[ef];exact dX _ z)),ef⟩
end
variable{Hf':Hp}
theorem OT.frame{o:O}(h:OT G Hf H o v fp)(f:aw Hf Hf')(k:∀b u,H b=aa u->(iG u=ab\/b∈fp)->H' b=aa u):OT G Hf' H' o v fp:=OT.frameM f o v fp h k
theorem OT.up{o:O}(h:OT G Hf H o v fp)(f:aw Hf Hf')(s:aw H H'):OT G Hf' H' o v fp:=h.frame f λb u e _=>s b u e
theorem sn{α β:Type}:∀{ks:List α} {vs us:List β},ks.length=vs.length->ks.length=us.length->ks.zip vs=ks.zip us->vs=us
 | [],[],[],_,_,_=>rfl
 |k::ks,v::vs,u::us,h1,h2,e=>by
  rw[d9,d9]at e
  injection e with e1 e2
  injection e1 with _ e3
  rw[e3,sn (by simpa using h1) (by simpa using h2) e2]
 | [],_::_,_,h,_,_=>by cases h
 | [],[],_::_,_,h,_=>by cases h
 | _::_,[],_,h,_,_=>by cases h
 | _::_,_::_,[],_,h,_=>by cases h
mutual
theorem OT.funM:∀(o:O) (v:V) (f f':LAd),OT G Hf H o v f->OT G Hf' H o v f'->f=f'
 |.fz d,_,_,_,h,h'=>h.2.trans h'.2.symm
 |.lst os,_,_,_,q4_,q5_=>by
  obtain⟨a,vs,fs,e,q,r,ef⟩:=q4_;obtain⟨a',vs',fs',e',q',r',ef'⟩:=q5_;subst e ef ef';cases e';rw[q]at q';cases q'
  rw[OTs.funM os vs fs fs' r r']
 |.tup os,_,f,f',q4_,q5_=>by
  obtain⟨a,vs,e,q,r⟩:=q4_;obtain⟨a',vs',e',q',r'⟩:=q5_;subst e;cases e';rw[q]at q';cases q'
  exact OTs.funM os vs f f' r r'
 |.dic ks os,_,_,_,q4_,q5_=>by
  obtain⟨a,vs,fs,e,q,z,r,ef⟩:=q4_;obtain⟨a',vs',fs',e',q',z',r',ef'⟩:=q5_;subst e ef ef';cases e';rw[q]at q';have:=sn z z' (HO.dK.inj (cF q'));subst this
  rw[OTs.funM os vs fs fs' r r']
 |.ins c ns os,_,_,_,q4_,q5_=>by
  obtain⟨a,dx,vs,fs,e,q,z,r,ef⟩:=q4_;obtain⟨a',dx',vs',fs',e',q',z',r',ef'⟩:=q5_;subst e ef ef';cases e';rw[q]at q';have:=sn z z' (HO.ins.inj (cF q')).2.2;subst this
  rw[OTs.funM os vs fs fs' r r']
 |.jnk n,_,_,_,q4_,q5_=>by
  obtain⟨a,vs,e,q,z,ef⟩:=q4_;obtain⟨a',vs',e',q',z',ef'⟩:=q5_;subst e ef ef';cases e'
  rfl
 |.dT ks os,_,_,_,q4_,q5_=>by
  obtain⟨a,vs,fs,e,q,z,r,ef⟩:=q4_;obtain⟨a',vs',fs',e',q',z',r',ef'⟩:=q5_;subst e ef ef';cases e';rw[q]at q';have:=sn z z' (HO.dT.inj (cF q'));subst this
  rw[OTs.funM os vs fs fs' r r']
 |.at _ o,v,f,f',h,h'=>OT.funM o v f f' h.2 h'.2
 |.any,_,_,_,h,h'=>(show _=[]from h).trans (show _=[]from h').symm
theorem OTs.funM:∀(os:List O) (vs:List V) (f f':LAd),OTs G Hf H os vs f->OTs G Hf' H os vs f'->f=f'
 | [],_,_,_,h,h'=>h.2.trans h'.2.symm
 |o::os,_,_,_,q4_,q5_=>by
  obtain⟨v,r,f1,f2,e,h1,h2,ef⟩:=q4_;obtain⟨v',r',f1',f2',e',h1',h2',ef'⟩:=q5_;subst e ef ef';cases e';rw[OT.funM o v f1 f1' h1 h1',OTs.funM os r f2 f2' h2 h2']
end
mutual
theorem OT.memM:∀(o:O) (v:V) (f:LAd),OT G Hf H o v f->∀a∈f,∃u,H a=aa u/\iG u=ae
 |.fz d,_,_,h,a,ha=>by rw[h.2]at ha;cases ha
 |.lst os,_,_,q3_,b,hb=>by
  obtain⟨a,vs,fs,e,q,r,ef⟩:=q3_;subst ef
  rcases aW.mp hb with z |z
  .subst z;exact⟨_,q,rfl⟩
  .exact OTs.memM os vs fs r b z
 |.tup os,_,f,⟨a,vs,e,q,r⟩,b,hb=>OTs.memM os vs f r b hb
 |.dic ks os,_,_,q3_,b,hb=>by
  obtain⟨a,vs,fs,e,q,z,r,ef⟩:=q3_;subst ef
  rcases aW.mp hb with z |z
  .subst z;exact⟨_,q,rfl⟩
  .exact OTs.memM os vs fs r b z
 |.ins c ns os,_,_,q3_,b,hb=>by
  obtain⟨a,dx,vs,fs,e,q,z,r,ef⟩:=q3_;subst ef
  rcases aW.mp hb with z |z
  .subst z;exact⟨_,q,rfl⟩
  .exact OTs.memM os vs fs r b z
 |.jnk n,_,_,q3_,b,hb=>by
  obtain⟨a,vs,e,q,z,ef⟩:=q3_;subst ef;rw[eM.mp hb]
  exact⟨_,q,rfl⟩
 |.dT ks os,_,_,q3_,b,hb=>by
  obtain⟨a,vs,fs,e,q,z,r,ef⟩:=q3_;subst ef
  rcases aW.mp hb with z |z
  .subst z;exact⟨_,q,rfl⟩
  .exact OTs.memM os vs fs r b z
 |.at _ o,v,f,h,a,ha=>OT.memM o v f h.2 a ha
 |.any,_,_,h,a,ha=>by rw[show _=[]from h]at ha;cases ha
theorem OTs.memM:∀(os:List O) (vs:List V) (f:LAd),OTs G Hf H os vs f->∀a∈f,∃u,H a=aa u/\iG u=ae
 | [],_,_,h,a,ha=>by rw[h.2]at ha;cases ha
 |o::os,_,_,q3_,a,ha=>by
  obtain⟨v,r,f1,f2,e,h1,h2,ef⟩:=q3_;subst ef
  rcases ci.mp ha with z |z
  .exact OT.memM o v f1 h1 a z
  .exact OTs.memM os r f2 h2 a z
end
mutual
theorem OT.repM(s:aw Hf H):∀(o:O) (v:V) (f:LAd),o.kn=ab->OT G Hf H o v f->Rep G H o.toD v
 |.fz d,_,_,_,h=>by rw[O.toD];exact h.1.up s
 |.lst os,_,_,hk,h_=>by obtain⟨a,vs,fs,e,q,r,ef⟩:=h_;rw[O.kn]at hk;rw[O.toD];exact⟨a,vs,e,q,OTs.repM s os vs fs hk r⟩
 |.tup os,_,f,hk,h_=>by obtain⟨a,vs,e,q,r⟩:=h_;rw[O.kn]at hk;rw[O.toD];exact⟨a,vs,e,q,OTs.repM s os vs f hk r⟩
 |.dic ks os,_,_,hk,h_=>by obtain⟨a,vs,fs,e,q,z,r,ef⟩:=h_;rw[O.kn]at hk;rw[O.toD];exact⟨a,vs,e,q,z,OTs.repM s os vs fs hk r⟩
 |.ins c ns os,_,_,hk,h_=>by obtain⟨a,dx,vs,fs,e,q,z,r,ef⟩:=h_;rw[O.kn]at hk;rw[O.toD];exact⟨a,dx,vs,e,q,z,OTs.repM s os vs fs hk r⟩
 |.at _ o,v,f,hk,h=>by rw[O.kn]at hk;rw[O.toD];exact OT.repM s o v f hk h.2
 |.jnk _,_,_,hk,_=>by rw[O.kn]at hk;cases hk
 |.dT ks os,_,_,hk,h_=>by obtain⟨a,vs,fs,e,q,z,r,ef⟩:=h_;rw[O.kn]at hk;rw[O.toD];exact⟨a,vs,e,q,z,OTs.repM s os vs fs hk r⟩
 |.any,_,_,hk,_=>by rw[O.kn]at hk;cases hk
theorem OTs.repM(s:aw Hf H):∀(os:List O) (vs:List V) (f:LAd),O.kns os=ab->OTs G Hf H os vs f->am G H (O.toDs os) vs
 | [],_,_,_,h=>by rw[O.toDs];exact h.1
 |o::os,_,_,hk,h_=>by
  obtain⟨v,r,f1,f2,e,h1,h2,ef⟩:=h_;rw[O.kns,cg]at hk;rw[O.toDs];exact⟨v,r,e,OT.repM s o v f1 hk.1 h1,OTs.repM s os r f2 hk.2 h2⟩
end
theorem OT.rep{o:O}{f:LAd}(h:OT G Hf H o v f)(s:aw Hf H)(hk:o.kn=ab):Rep G H o.toD v:=OT.repM s o v f hk h
theorem OTs.fz:∀{ds:LD} {vs:List V},am G Hf ds vs->OTs G Hf H (ds.map .fz) vs []
 | [],_,h=>⟨h,rfl⟩
 |d::ds,_,⟨v,r,e,h1,h2⟩=>⟨v,r,[],[],e,⟨h1,rfl⟩,OTs.fz h2,rfl⟩
theorem Cf(ds:LD):O.toDs (ds.map .fz)=ds:=by
 induction ds with
 |nil=>rfl
 |cons d ds ih=>rw[bn,O.toDs,O.toD,ih]
inductive Sl where
 |no
 |im (d:D)
 |own (xs:LD)
 |ownd (ks:List Key) (xs:LD)
 |obj (c:Str) (ns:LSt) (xs:LD)
 |pin (l:Addr) (xs:LD)
 |pind (l:Addr) (ks:List Key) (xs:LD)
 |pino (l:Addr) (c:Str) (ns:LSt) (xs:LD)
 |deep (o:O)
 |val (u:V)
abbrev LS:=List Sl
noncomputable abbrev nZ{α:Type}:LS->Option (List α):=λ_=>aa []
noncomputable abbrev kY:LS->Option Bool:=λ_=>aa ab
noncomputable abbrev kN:LS->OD:=λ_=>aa .non
noncomputable abbrev kI(i:Int):LS->OD:=λ_=>aa (.int i)
noncomputable abbrev kSt(x:Str):LS->OD:=λ_=>aa (.str x)
noncomputable abbrev kBl(b:Bool):LS->OD:=λ_=>aa (.bl b)
abbrev MF1:=LS->OD
abbrev MF2:=LS->OLD
abbrev MF4:=LS->Option Bool
noncomputable def Sl.isOwn:Sl->Bool
 |.own _=>ab
 |.ownd _ _=>ab
 |.obj _ _ _=>ab
 |.pin _ _=>ab
 |.pind _ _ _=>ab
 |.pino _ _ _ _=>ab
 | _=>ae
noncomputable def Sl.calm:Sl->Bool
 |.no=>ab
 |.im _=>ab
 | _=>ae
def ic(G:Gc)(Hf H:Hp)(l:Addr):Sl->Prop
 |.own ds=>∃vs,H l=aa (.lst vs)/\am G Hf ds vs
 |.ownd ks ds=>∃vs,H l=aa (.dK (ks.zip vs))/\ks.length=vs.length/\am G Hf ds vs
 |.obj c ns ds=>∃dx vs,H l=aa (.ins (G.cl c) dx (ns.zip vs))/\ns.length=vs.length/\am G Hf ds vs
 |.pin l0 ds=>l=l0/\∃vs,H l=aa (.lst vs)/\am G Hf ds vs
 |.pind l0 ks ds=>l=l0/\∃vs,H l=aa (.dK (ks.zip vs))/\ks.length=vs.length/\am G Hf ds vs
 |.pino l0 c ns ds=>l=l0/\∃dx vs,H l=aa (.ins (G.cl c) dx (ns.zip vs))/\ns.length=vs.length/\am G Hf ds vs
 | _=>False
variable{l:Addr}
theorem ic.there{s:Sl}(h:ic G Hf H l s):∃o,H l=aa o:=by
 cases s with
 |own ds=>obtain⟨vs,h,_⟩:=h;exact⟨_,h⟩
 |ownd ks ds=>obtain⟨vs,h,_⟩:=h;exact⟨_,h⟩
 |obj c ns ds=>obtain⟨dx,vs,h,_⟩:=h;exact⟨_,h⟩
 |pin l0 ds=>obtain⟨_,vs,h,_⟩:=h;exact⟨_,h⟩
 |pind l0 ks ds=>obtain⟨_,vs,h,_⟩:=h;exact⟨_,h⟩
 |pino l0 c ns ds=>obtain⟨_,dx,vs,h,_⟩:=h;exact⟨_,h⟩
 | _=>exact h.elim
theorem ic.there2{s:Sl}(h:ic G Hf H l s):∃o,H l=aa o/\iG o=ae:=by
 cases s with
 |own ds=>obtain⟨vs,h,_⟩:=h;exact⟨_,h,rfl⟩
 |ownd ks ds=>obtain⟨vs,h,_⟩:=h;exact⟨_,h,rfl⟩
 |obj c ns ds=>obtain⟨dx,vs,h,_⟩:=h;exact⟨_,h,rfl⟩
 |pin l0 ds=>obtain⟨_,vs,h,_⟩:=h;exact⟨_,h,rfl⟩
 |pind l0 ks ds=>obtain⟨_,vs,h,_⟩:=h;exact⟨_,h,rfl⟩
 |pino l0 c ns ds=>obtain⟨_,dx,vs,h,_⟩:=h;exact⟨_,h,rfl⟩
 | _=>exact h.elim
theorem ic.up{s:Sl}(h:ic G Hf H l s)(f:aw Hf Hf')(e:∀o,H l=aa o->H' l=aa o):ic G Hf' H' l s:=by
 cases s with
 |own ds=>obtain⟨vs,h,r⟩:=h;exact⟨vs,e _ h,r.up f⟩
 |ownd ks ds=>obtain⟨vs,h,z,r⟩:=h;exact⟨vs,e _ h,z,r.up f⟩
 |obj c ns ds=>obtain⟨dx,vs,h,z,r⟩:=h;exact⟨dx,vs,e _ h,z,r.up f⟩
 |pin l0 ds=>obtain⟨q,vs,h,r⟩:=h;exact⟨q,vs,e _ h,r.up f⟩
 |pind l0 ks ds=>obtain⟨q,vs,h,z,r⟩:=h;exact⟨q,vs,e _ h,z,r.up f⟩
 |pino l0 c ns ds=>obtain⟨q,dx,vs,h,z,r⟩:=h;exact⟨q,dx,vs,e _ h,z,r.up f⟩
 | _=>exact h.elim
def gX(G:Gc)(H0 Hf H:Hp)(v:Option V):Sl->Prop
 |.no=>True
 |.im d=>∃u,v=aa u/\Rep G Hf d u
 |.deep o=>∃u fp,v=aa u/\OT G Hf H o u fp/\fp.Nodup/\∀a∈fp,H0 a=ac/\Hf a=ac
 |.val u=>v=aa u
 |s=>∃l,v=aa (.ref l)/\H0 l=ac/\Hf l=ac/\ic G Hf H l s
variable{H0:Hp}
theorem gX.own{v:Option V}{s:Sl}(hs:s.isOwn=ab)(h:gX G H0 Hf H v s):∃l,v=aa (.ref l)/\H0 l=ac/\Hf l=ac/\ic G Hf H l s:=by
 cases s <;> first |exact h |cases hs
theorem gX.ofOwn{v:Option V}{s:Sl}(hs:s.isOwn=ab)(h:∃l,v=aa (.ref l)/\H0 l=ac/\Hf l=ac/\ic G Hf H l s):gX G H0 Hf H v s:=by
 cases s <;> first |exact h |cases hs
def Holds(G:Gc)(Hf H:Hp)(s:Sl)(v:V)(a:Addr):Prop:=match s with
 |.deep o=>∃fp,OT G Hf H o v fp/\a∈fp
 |s=>s.isOwn=ab/\v=.ref a
variable{a:Addr}
theorem Holds.own{s:Sl}(hs:s.isOwn=ab):Holds G Hf H s v a↔v=.ref a:=by
 cases s <;> first |exact⟨λh=>h.2,λh=>⟨rfl,h⟩⟩ |cases hs
theorem Holds.calm{s:Sl}(h:Holds G Hf H s v a)(hs:s.calm=ab):False:=by
 cases s <;> first |exact jT h.1 |cases hs
theorem gX.back{s:Sl}(q:gX G H0 Hf H (aa v) s)(k:∀o fp,s=.deep o->OT G Hf H o v fp->OT G Hf' H' o v fp)(h:Holds G Hf' H' s v a):Holds G Hf H s v a:=by
 cases s with
 |deep o=>
  obtain⟨u,fp,e,r,_⟩:=q;cases e;obtain⟨fp',r',ha⟩:=h;have:=OT.funM o v fp fp' (k o fp rfl r) r';subst this
  exact⟨fp,r,ha⟩
 | _=>exact h
theorem gX.there{s:Sl}(q:gX G H0 Hf H (aa v) s)(h:Holds G Hf H s v a):∃o,H a=aa o/\iG o=ae:=by
 cases hs:s.isOwn with
 |true=>
  obtain⟨l,e,_,_,ho⟩:=q.own hs;have e2:=(Holds.own hs).mp h;cases e;cases e2
  exact ho.there2
 |false=>
  cases s with
  |deep o=>
   obtain⟨fp,r,ha⟩:=h
   exact OT.memM o v fp r a ha
  | _=>first |exact jT h.1 |cases hs
structure av(G:Gc)(Hf0 H0 Hf H:Hp)(σ:St)(U:LS):Prop where
 ext:Ext Hf0 H0 Hf H
 len:σ.length=U.length
 at':∀(i:Nat) (v:Option V) (s:Sl),σ[i]?=aa v->U[i]?=aa s->gX G H0 Hf H v s
 dj:∀(i j:Nat) (s t:Sl) (v w:V) (a:Addr),U[i]?=aa s->U[j]?=aa t->σ[i]?=aa (aa v)->σ[j]?=aa (aa w)->Holds G Hf H s v a->Holds G Hf H t w a->i=j
variable{Hf0:Hp}{U:LS}
theorem av.sub(h:av G Hf0 H0 Hf H σ U):aw Hf H:=h.ext.s
theorem av.inj(h:av G Hf0 H0 Hf H σ U)(i j:Nat)(s t:Sl)(l:Addr)(a:U[i]?=aa s)(b:U[j]?=aa t)(hs:s.isOwn=ab)(ht:t.isOwn=ab)(c:σ[i]?=aa (aa (.ref l)))(d:σ[j]?=aa (aa (.ref l))):i=j:=
 h.dj i j s t _ _ l a b c d ((Holds.own hs).mpr rfl) ((Holds.own ht).mpr rfl)
variable{ρ':LS}
theorem av.re{Hf0' H0':Hp}(h:av G Hf0 H0 Hf H σ U)(x:Ext Hf0' H0' Hf' H')(hl:ρ'.length=U.length)(ha:∀(i:Nat) (v:Option V) (s:Sl),σ[i]?=aa v->ρ'[i]?=aa s->gX G H0' Hf' H' v s)
 (hd:∀(i:Nat) (s:Sl) (v:V) (a:Addr),ρ'[i]?=aa s->σ[i]?=aa (aa v)->Holds G Hf' H' s v a->∃t,U[i]?=aa t/\Holds G Hf H t v a):av G Hf0' H0' Hf' H' σ ρ':=
 ⟨x,h.len.trans hl.symm,ha,λi j s t v w a b c e f p q=>by
  obtain⟨s0,b0,p0⟩:=hd i s v a b e p;obtain⟨t0,c0,q0⟩:=hd j t w a c f q;exact h.dj i j s0 t0 v w a b0 c0 e f p0 q0⟩
theorem av.step(h:av G Hf0 H0 Hf H σ U)(e:Ext Hf H Hf' H'):av G Hf0 H0 Hf' H' σ U:=by
 refine h.re (h.ext.trans e) rfl (λi v s a b=>?_) λi s v a b c d=>⟨s,b,(h.at' i _ s c b).back (λo fp _ r=>r.up e.f e.h) d⟩;have q:=h.at' i v s a b
 cases hs:s.isOwn with
 |true=>
  obtain⟨l,e1,e2,e3,e4⟩:=q.own hs;obtain⟨o,ho,ht⟩:=e4.there2
  exact .ofOwn hs ⟨l,e1,e2,by rw[e.n l o ho ht];exact e3,e4.up e.f λo ho=>e.h _ _ ho⟩
 |false=>
  cases s with
  |no=>trivial
  |im d=>obtain⟨u,e1,r⟩:=q;exact⟨u,e1,r.up e.f⟩
  |val u=>exact q
  |deep o=>
   obtain⟨u,fp,e1,r,n,z⟩:=q;refine⟨u,fp,e1,r.up e.f e.h,n,λa ha=>⟨(z a ha).1,?_⟩⟩;obtain⟨oo,ho,ht⟩:=OT.memM o u fp r a ha;rw[e.n a oo ho ht]
   exact(z a ha).2
  | _=>cases hs
theorem av.slot{s:Sl}(h:av G Hf0 H0 Hf H σ U)(e:U[i]?=aa s):∃v,σ[i]?=aa v/\gX G H0 Hf H v s:=by
 have hi:i<σ.length:=by rw[h.len];exact(dH.mp e).1
 exact⟨σ[i],by simp[hi],h.at' i _ s (by simp[hi]) e⟩
theorem av.imm(h:av G Hf0 H0 Hf H σ U)(e:U[i]?=aa (.im d)):∃v,σ[i]?=aa (aa v)/\Rep G Hf d v:=by
 obtain⟨v,e1,u,e2,r⟩:=h.slot e;subst e2;exact⟨u,e1,r⟩
theorem av.ownAt{s:Sl}(hs:s.isOwn=ab)(h:av G Hf0 H0 Hf H σ U)(e:U[i]?=aa s):∃l,σ[i]?=aa (aa (.ref l))/\H0 l=ac/\Hf l=ac/\ic G Hf H l s:=by
 obtain⟨v,e1,q⟩:=h.slot e;obtain⟨l,e2,q2⟩:=q.own hs;rw[e2]at e1;exact⟨l,e1,q2⟩
variable{j:Nat}
theorem cx{α:Type}{l:List α}{x y:α}(h:(l.set i x)[j]?=aa y):(j=i/\y=x/\i<l.length)\/(j≠i/\l[j]?=aa y):=by
 by_cases hj:j=i
 .subst hj;left;have hi:j<l.length:=by have:=(dH.mp h).1;simpa using this
  rw[ir hi]at h;exact⟨rfl,(cF h).symm,hi⟩
 .right;rw[iV (gm hj)]at h;exact⟨hj,h⟩
theorem av.setIm(h:av G Hf0 H0 Hf H σ U)(r:Rep G Hf d v):av G Hf0 H0 Hf H (σ.set i (aa v)) (U.set i (.im d)):=by
 refine⟨h.ext,by simpa using h.len,λj u s a b=>?_,λj k s t u w l a b c d' p q=>?_⟩
 .rcases cx b with⟨e,e',_⟩ |⟨e,b⟩
  .subst e e'
   rcases cx a with⟨_,e',_⟩ |⟨e,_⟩
   .subst e';exact⟨v,rfl,r⟩
   .exact absurd rfl e
  .rcases cx a with⟨e',_⟩ |⟨_,a⟩
   .exact absurd e' e
   .exact h.at' j u s a b
 .rcases cx a with⟨e,e',_⟩ |⟨e,a⟩
  .subst e';exact(p.calm rfl).elim
  .rcases cx b with⟨e2,e',_⟩ |⟨e2,b⟩
   .subst e';exact(q.calm rfl).elim
   .rcases cx c with⟨e',_⟩ |⟨_,c⟩
    .exact absurd e' e
    .rcases cx d' with⟨e',_⟩ |⟨_,d'⟩
     .exact absurd e' e2
     .exact h.dj j k s t u w l a b c d' p q
theorem av.setNo(h:av G Hf0 H0 Hf H σ U):av G Hf0 H0 Hf H σ (U.set i .no):=by
 refine h.re h.ext (by simp) (λj u s a b=>?_) λj s v a b c d=>?_
 .rcases cx b with⟨e,e',_⟩ |⟨e,b⟩
  .subst e';trivial
  .exact h.at' j u s a b
 .rcases cx b with⟨e,e',_⟩ |⟨e,b⟩
  .subst e';exact(d.calm rfl).elim
  .exact⟨s,b,d⟩
variable{u:V}
theorem av.setNew{s:Sl}(h:av G Hf0 H0 Hf H σ U)(e:Ext Hf H Hf' H')(ho:gX G H0 Hf' H' (aa u) s)(hn:∀a,Holds G Hf' H' s u a->H a=ac):
  av G Hf0 H0 Hf' H' (σ.set i (aa u)) (U.set i s):=by
 have h':=h.step e
 have no:∀(j:Nat) (t:Sl) (w:V) (a:Addr),U[j]?=aa t->σ[j]?=aa (aa w)->Holds G Hf' H' t w a->Holds G Hf' H' s u a->False:=λj t w a b c p q=>by
  have p0:=(h.at' j _ t c b).back (λo fp _ r=>r.up e.f e.h) p;obtain⟨o,ho,_⟩:=(h.at' j _ t c b).there p0;rw[hn a q]at ho;cases ho
 refine⟨h'.ext,by simpa using h.len,λj w t a b=>?_,λj k t t' v w l a b c d' p q=>?_⟩
 .rcases cx b with⟨e,e',_⟩ |⟨e,b⟩
  .subst e e'
   rcases cx a with⟨_,e',_⟩ |⟨e,_⟩
   .subst e';exact ho
   .exact absurd rfl e
  .rcases cx a with⟨e',_⟩ |⟨_,a⟩
   .exact absurd e' e
   .exact h'.at' j w t a b
 .rcases cx a with⟨e1,e1',_⟩ |⟨e1,a⟩
  .rcases cx b with⟨e2,e2',_⟩ |⟨e2,b⟩
   .rw[e1,e2]
   .rcases cx c with⟨_,e',_⟩ |⟨e',_⟩
    .cases e';rw[e1']at p
     rcases cx d' with⟨e',_⟩ |⟨_,d'⟩
     .exact absurd e' e2
     .exact(no k t' w l b d' q p).elim
    .exact absurd e1 e'
  .rcases cx c with⟨e',_⟩ |⟨_,c⟩
   .exact absurd e' e1
   .rcases cx b with⟨e2,e2',_⟩ |⟨e2,b⟩
    .rcases cx d' with⟨_,e',_⟩ |⟨e',_⟩
     .cases e';rw[e2']at q;exact(no j t v l a c p q).elim
     .exact absurd e2 e'
    .rcases cx d' with⟨e',_⟩ |⟨_,d'⟩
     .exact absurd e' e2
     .exact h'.dj j k t t' v w l a b c d' p q
theorem av.setOwn{s:Sl}(hs:s.isOwn=ab)(h:av G Hf0 H0 Hf H σ U)(e:Ext Hf H Hf' H')(hn:H l=ac)(hf:Hf' l=ac)(ho:ic G Hf' H' l s):
  av G Hf0 H0 Hf' H' (σ.set i (aa (.ref l))) (U.set i s):=
 h.setNew e (.ofOwn hs ⟨l,rfl,h.ext.h.free hn,hf,ho⟩) λa p=>by cases (Holds.own hs).mp p;exact hn
theorem av.chg{s s':Sl}(h:av G Hf0 H0 Hf H σ U)(e:U[i]?=aa s)(el:σ[i]?=aa (aa v))(k:∀b u,H b=aa u->Holds G Hf H s v b\/H' b=aa u)(ho:gX G H0 Hf H' (aa v) s')
 (hh:∀a,Holds G Hf H' s' v a->Holds G Hf H s v a\/∀(j:Nat) (t:Sl) (w:V),U[j]?=aa t->σ[j]?=aa (aa w)->Holds G Hf H t w a->False):av G Hf0 H0 Hf H' σ (U.set i s'):=by
 have q:=h.at' i _ s el e
 have gone:∀b,Holds G Hf H s v b->H0 b=ac/\Hf b=ac:=λb p=>by
  cases hs:s.isOwn with
  |true=>
   obtain⟨l,e1,h0,hf,_⟩:=q.own hs;have e2:=(Holds.own hs).mp p;cases e1;cases e2
   exact⟨h0,hf⟩
  |false=>
   cases s with
   |deep o=>
    obtain⟨u,fp,e1,r,n,z⟩:=q;cases e1;obtain⟨fp',r',ha⟩:=p;have:=OT.funM o v fp fp' r r';subst this
    exact z b ha
   | _=>first |exact jT p.1 |cases hs
 have fr:∀(j:Nat) (t:Sl) (w:V),j≠i->U[j]?=aa t->σ[j]?=aa (aa w)->∀o fp,t=.deep o->OT G Hf H o w fp->OT G Hf H' o w fp:=λj t w hj b c o fp et r=>by
  subst et;refine r.frame (aw.refl _) λx u hx hm=>?_
  rcases k x u hx with z |z
  .rcases hm with hm |hm
   .obtain⟨o',ho',ht'⟩:=q.there z;rw[hx]at ho';cases ho';rw[hm]at ht';cases ht'
   .exact absurd (h.dj j i _ s w v x b e c el ⟨fp,r,hm⟩ z) hj
  .exact z
 refine⟨⟨h.ext.f,λb u e=>?_,λb u e=>?_,h.ext.n⟩,by simpa using h.len,λj u t a b=>?_,λj j' t t' w w' a b c b' c' p p'=>?_⟩
 .rcases k b u (h.ext.h b u e)with z |z
  .rw[(gone b z).1]at e;cases e
  .exact z
 .rcases k b u (h.ext.s b u e)with z |z
  .rw[(gone b z).2]at e;cases e
  .exact z
 .rcases cx b with⟨e',e2,_⟩ |⟨en,b⟩
  .subst e' e2;rw[el]at a;cases a;exact ho
  .have q':=h.at' j u t a b
   cases ht:t.isOwn with
   |false=>
    cases t with
    |no=>trivial
    |im d=>exact q'
    |val u=>exact q'
    |deep o=>
     obtain⟨w,fp,e1,r,n,z⟩:=q';subst e1
     exact⟨w,fp,rfl,fr j _ w en b a o fp rfl r,n,z⟩
    | _=>cases ht
   |true=>
    obtain⟨l2,e2,e3,e4,q2⟩:=q'.own ht;subst e2;refine .ofOwn ht ⟨l2,rfl,e3,e4,q2.up (aw.refl _) λo' ho'=>?_⟩
    rcases k l2 o' ho' with z |z
    .exact absurd (h.dj j i t s _ v l2 b e a el ((Holds.own ht).mpr rfl) z) en
    .exact z
 .have old:∀(j:Nat) (t:Sl) (w:V),(U.set i s')[j]?=aa t->σ[j]?=aa (aa w)->Holds G Hf H' t w a->(j=i/\∀(j:Nat) (t:Sl) (w:V),U[j]?=aa t->σ[j]?=aa (aa w)->Holds G Hf H t w a->False)\/∃t0,U[j]?=aa t0/\Holds G Hf H t0 w a:=λj t w b y p=>by
   rcases cx b with⟨e',e2,_⟩ |⟨en,b⟩
   .rw[e2]at p;rw[e',el]at y;cases y;rw[e']
    rcases hh a p with z |z
    .exact .inr ⟨s,e,z⟩
    .exact .inl ⟨rfl,z⟩
   .exact .inr ⟨t,b,(h.at' j _ t y b).back (fr j t w en b y) p⟩
  rcases old j t w b b' p with⟨z1,z2⟩ |⟨t0,z1,z2⟩
  .rcases old j' t' w' c c' p' with⟨y1,y2⟩ |⟨t1,y1,y2⟩
   .rw[z1,y1]
   .exact(z2 j' t1 w' y1 c' y2).elim
  .rcases old j' t' w' c c' p' with⟨y1,y2⟩ |⟨t1,y1,y2⟩
   .exact(y2 j t0 w z1 b' z2).elim
   .exact h.dj j j' t0 t1 w w' a z1 y1 b' c' z2 y2
theorem av.chgX{s s':Sl}(h:av G Hf0 H0 Hf H σ U)(x:Ext Hf H Hf' H1)(e:U[i]?=aa s)(el:σ[i]?=aa (aa v))(k:∀b u,H1 b=aa u->Holds G Hf H s v b\/H' b=aa u)(ho:gX G H0 Hf' H' (aa v) s')
 (hh:∀a,Holds G Hf' H' s' v a->Holds G Hf H s v a\/H a=ac):av G Hf0 H0 Hf' H' σ (U.set i s'):=by
 have up:∀b,Holds G Hf H s v b->Holds G Hf' H1 s v b:=λb p=>by
  cases s with
  |deep o=>obtain⟨fp,r,hb⟩:=p;exact⟨fp,r.up x.f x.h,hb⟩
  | _=>exact p
 refine(h.step x).chg e el (λb u hb=>(k b u hb).imp_left (up b)) ho λa p=>?_
 rcases hh a p with z |z
 .exact .inl (up a z)
 .refine .inr λj t w b c q=>?_;obtain⟨o,ho,_⟩:=(h.at' j _ t c b).there ((h.at' j _ t c b).back (λo fp _ r=>r.up x.f x.h) q);rw[z]at ho;cases ho
theorem av.mutd{s s':Sl}{o:HO}(hs:s.isOwn=ab)(hs':s'.isOwn=ab)(h:av G Hf0 H0 Hf H σ U)(e:U[i]?=aa s)(el:σ[i]?=aa (aa (.ref l)))(ho:ic G Hf (upd H l o) l s'):
  av G Hf0 H0 Hf (upd H l o) σ (U.set i s'):=by
 obtain⟨l',e1,h0,hf,q⟩:=h.ownAt hs e;rw[el]at e1;cases e1;refine h.chg e el (λb u hb=>?_) (.ofOwn hs' ⟨l,rfl,h0,hf,ho⟩) λa p=>.inl ?_
 .by_cases hl:b=l
  .subst hl;exact .inl ((Holds.own hs).mpr rfl)
  .exact .inr (by rw[aK hl];exact hb)
 .exact(Holds.own hs).mpr ((Holds.own hs').mp p)
theorem av.fixd{s:Sl}{o:HO}(hs:s.isOwn=ab)(h:av G Hf0 H0 Hf H σ U)(e:U[i]?=aa s)(el:σ[i]?=aa (aa (.ref l)))(ho:H l=aa o)(hr:Rep G (upd Hf l o) d (.ref l)):
  av G Hf0 H0 (upd Hf l o) H σ (U.set i (.im d)):=by
 obtain⟨l',e1,h0,hf,q⟩:=h.ownAt hs e;rw[el]at e1;cases e1;refine h.re (h.ext.fix h0 hf ho) (by simp) (λj u t a b=>?_) λj t v a b c p=>?_
 .rcases cx b with⟨e,e',_⟩ |⟨en,b⟩
  .subst e e';rw[el]at a;cases a;exact⟨_,rfl,hr⟩
  .have q:=h.at' j u t a b
   cases ht:t.isOwn with
   |false=>
    cases t with
    |no=>trivial
    |im d=>obtain⟨u',e1,r⟩:=q;exact⟨u',e1,r.up (bR hf)⟩
    |val u'=>exact q
    |deep o=>
     obtain⟨w,fp,e1,r,n,z⟩:=q;subst e1;refine⟨w,fp,rfl,r.up (bR hf) (aw.refl _),n,λx hx=>⟨(z x hx).1,?_⟩⟩;rw[aK (λy=>?_)]
     .exact(z x hx).2
     .subst y
      exact en (h.dj j i _ s w _ x b e a el ⟨fp,r,hx⟩ ((Holds.own hs).mpr rfl))
    | _=>cases ht
   |true=>
    obtain⟨l2,e2,e3,e4,q2⟩:=q.own ht;subst e2;refine .ofOwn ht ⟨l2,rfl,e3,?_,q2.up (bR hf) λo' ho'=>ho'⟩;rw[aK (λz=>?_)]
    .exact e4
    .subst z;exact en (h.inj j i t s l2 b e ht hs a el)
 .rcases cx b with⟨_,e',_⟩ |⟨_,b⟩
  .subst e';exact(p.calm rfl).elim
  .exact⟨t,b,(h.at' j _ t c b).back (λo fp _ r=>r.up (bR hf) (aw.refl _)) p⟩
theorem PE.imp{t':TE}(h:PE X e t)(i:∀σ H Q,t' σ H Q->t σ H Q):PE X e t':=λpins s σ H Q I q=>h pins s σ H Q I (i σ H Q q)
variable{t':TT}
theorem PT.imp{t:TT}(h:PT X e t)(i:∀σ H Q,t' σ H Q->t σ H Q):PT X e t':=λpins s σ H Q I q=>h pins s σ H Q I (i σ H Q q)
theorem PW.imp{t:TT}(h:PW X e t)(i:∀σ H Q,t' σ H Q->t σ H Q):PW X e t':=λwh pins s σ H Q I q=>h wh pins s σ H Q I (i σ H Q q)
variable{es:LEx}
theorem PA.imp{t t':TA}(h:PA X es t)(i:∀σ H Q,t' σ H Q->t σ H Q):PA X es t':=λpos pins s σ H Q I q=>h pos pins s σ H Q I (i σ H Q q)
theorem PS.imp{st:Stmt}{t t':TS}(h:PS X st t)(i:∀E σ H,t' E σ H->t E σ H):PS X st t':=λpins s σ H E I q=>h pins s σ H E I (i E σ H q)
theorem PSs.imp{st:List Stmt}{t t':TS}(h:PSs X st t)(i:∀E σ H,t' E σ H->t E σ H):PSs X st t':=λpins s σ H E I q=>h pins s σ H E I (i E σ H q)
theorem PG.imp{t t':TG}(h:PG X e t)(i:∀v σ H Q,t' v σ H Q->t v σ H Q):PG X e t':=λpins s σ H v u Q I r q=>h pins s σ H v u Q I r (i v σ H Q q)
theorem PGs.imp{t t':TGs}(h:PGs X es t)(i:∀v σ H Q,t' v σ H Q->t v σ H Q):PGs X es t':=λpins s σ H v u Q I r q=>h pins s σ H v u Q I r (i v σ H Q q)
theorem PI.imp{t t':TI}(h:PI X tg e t)(i:∀σ H R,t' σ H R->t σ H R):PI X tg e t':=λpins s σ H R I q=>h pins s σ H R I (i σ H R q)
theorem PTs.imp{t:TT}(h:PTs X ifs t)(i:∀σ H Q,t' σ H Q->t σ H Q):PTs X ifs t':=λpins s σ H Q I q=>h pins s σ H Q I (i σ H Q q)
theorem OpR.imp{f:Value->Value->Sem Value}{r r':R2}(h:OpR X f r)(i:∀x y H Q,r' x y H Q->r x y H Q):OpR X f r':=λpins s σ H x y v u Q I rx ry q=>h pins s σ H x y v u Q I rx ry (i x y H Q q)
theorem ia.imp{f:Value}{r r':List V->Hp->VK->Prop}(h:ia X f r)(i:∀xs H Q,r' xs H Q->r xs H Q):ia X f r':=λpins s σ H xs us Q I rx q=>h pins s σ H xs us Q I rx (i xs H Q q)
noncomputable abbrev Gx(c:Str->Addr)(X:Cx):Gc:=⟨X.K,c⟩
def tD(G:Gc)(f:MF1):TE:=λσ H Q=>∃Hf0 H0 Hf U d,av G Hf0 H0 Hf H σ U/\f U=aa d/\∀v Hf' H',Ext Hf H Hf' H'->Rep G Hf' d v->Q v H'
def tDB(G:Gc)(f:MF1):TE:=λσ H Q=>∃Hf0 H0 Hf U d,av G Hf0 H0 Hf H σ U/\f U=aa d/\∀v Hf' H',Ext Hf H Hf' H'->Rep G H' d v->Q v H'
def tDC(G:Gc)(f:MF2):TE:=λσ H Q=>∃Hf0 H0 Hf U ds,av G Hf0 H0 Hf H σ U/\f U=aa ds/\∀a vs Hf' H',Ext Hf H Hf' H'->(SqL G.K H' a vs\/SqT G.K H' a vs)->am G Hf' ds vs->Q (.ref a) H'
def tDO(G:Gc)(f:MF2):TE:=λσ H Q=>∃Hf0 H0 Hf U ds,av G Hf0 H0 Hf H σ U/\f U=aa ds /\
 ∀l vs Hf' H',Ext Hf H Hf' H'->H l=ac->Hf' l=ac->H' l=aa (.lst vs)->am G Hf' ds vs->Q (.ref l) H'
def tDA(G:Gc)(f:MF2):TA:=λσ H Q=>∃Hf0 H0 Hf U ds,av G Hf0 H0 Hf H σ U/\f U=aa ds/\∀vs Hf' H',Ext Hf H Hf' H'->am G Hf' ds vs->Q vs H'
def Jn(G:Gc)(f:MF2):TA:=λσ H Q=>∃Hf0 H0 Hf U ds,av G Hf0 H0 Hf H σ U/\f U=aa ds/\∀vs Hf' H',Ext Hf H Hf' H'->am G H' ds vs->Q vs H'
def tDT(G:Gc)(f:MF4):TT:=λσ H Q=>∃Hf0 H0 Hf U b,av G Hf0 H0 Hf H σ U/\f U=aa b/\∀Hf' H',Ext Hf H Hf' H'->Q b H'
def DE(c:Str->Addr)(X:Cx)(e:Expr)(f:MF1):Prop:=PE X e (tD (Gx c X) f)
def DB(c:Str->Addr)(X:Cx)(e:Expr)(f:MF1):Prop:=PE X e (tDB (Gx c X) f)
def DC(c:Str->Addr)(X:Cx)(e:Expr)(f:MF2):Prop:=PE X e (tDC (Gx c X) f)
def DO(c:Str->Addr)(X:Cx)(e:Expr)(f:MF2):Prop:=PE X e (tDO (Gx c X) f)
structure DA(c:Str->Addr)(X:Cx)(es:LEx)(f:MF2):Prop where
 pa:PA X es (tDA (Gx c X) f)
 len:∀U ds,f U=aa ds->ds.length=es.length
structure DAB(c:Str->Addr)(X:Cx)(es:LEx)(f:MF2):Prop where
 pa:PA X es (Jn (Gx c X) f)
 len:∀U ds,f U=aa ds->ds.length=es.length
def DT(c:Str->Addr)(X:Cx)(e:Expr)(f:MF4):Prop:=PT X e (tDT (Gx c X) f)
def DW(c:Str->Addr)(X:Cx)(e:Expr)(f:MF4):Prop:=PW X e (tDT (Gx c X) f)
noncomputable def D.scalar:D->Bool
 |.non=>ab
 |.bl _=>ab
 |.int _=>ab
 |.str _=>ab
 | _=>ae
theorem Rep.sc(hs:d.scalar=ab)(r:Rep G H d v):Rep G H' d v:=by
 cases d <;> first |exact r |cases hs
noncomputable def iH:D->OLD
 |.lst xs=>aa xs
 |.tup xs=>aa xs
 |.kl xs=>aa xs
 |.kt xs=>aa xs
 | _=>ac
theorem pQ(e:iH d=aa ds)(r:Rep G H d v):∃a vs,v=.ref a/\(SqL G.K H a vs\/SqT G.K H a vs)/\am G H ds vs:=by
 cases d with
 |lst xs=>cases e;obtain⟨a,vs,e1,q,r⟩:=r;exact⟨a,vs,e1,.inl (SqL.of q),r⟩
 |tup xs=>cases e;obtain⟨a,vs,e1,q,r⟩:=r;exact⟨a,vs,e1,.inr (SqT.of q),r⟩
 |kl xs=>cases e;obtain⟨a,vs,e1,q,r⟩:=r;exact⟨a,vs,e1,.inl q,r⟩
 |kt xs=>cases e;obtain⟨a,vs,e1,q,r⟩:=r;exact⟨a,vs,e1,.inr q,r⟩
 | _=>cases e
theorem wy(s:aw H H')(h:SqL K H a vs\/SqT K H a vs):SqL K H' a vs\/SqT K H' a vs:=h.imp s.seq s.tup
noncomputable def aE(f:MF2)(U:LS):OD:=(f U).map .lst
noncomputable def bE(f:MF2)(U:LS):OD:=(f U).map .tup
noncomputable def aP(f:MF1)(U:LS):OLD:=(f U).bind iH
noncomputable def bJ(f g:MF1)(U:LS):OD:=(f U).or (g U)
variable{c:Str->Addr}{f:MF1}
theorem DE.db(h:DE c X e f):DB c X e f:=PE.imp h λσ H Q q_=>by
 obtain⟨Hf0,H0,Hf,U,d,st,ef,k⟩:=q_;exact(⟨Hf0,H0,Hf,U,d,st,ef,λv Hf' H' x r=>k v Hf' H' x (r.up x.s)⟩)
theorem DE.dc(h:DE c X e f):DC c X e (aP f):=PE.imp h λσ H Q q_=>by
 obtain⟨Hf0,H0,Hf,U,ds,st,ef,k⟩:=q_;unfold aP at ef
 cases ed:f U with
 |none=>rw[ed]at ef;cases ef
 |some d=>
  rw[ed]at ef;refine⟨Hf0,H0,Hf,U,d,st,ed,λv Hf' H' x r=>?_⟩;obtain⟨a,vs,e1,q,rs⟩:=pQ ef r;subst e1;exact k a vs Hf' H' x (wy x.s q) rs
theorem DO.de{f:MF2}(h:DO c X e f):DE c X e (aE f):=PE.imp h λσ H Q q_=>by
 obtain⟨Hf0,H0,Hf,U,d,st,ef,k⟩:=q_;unfold aE at ef
 cases ed:f U with
 |none=>rw[ed]at ef;cases ef
 |some ds=>
  rw[ed]at ef;have ef:D.lst ds=d:=cF ef;subst ef;exact⟨Hf0,H0,Hf,U,ds,st,ed,λl vs Hf' H' x hn hf hl r=>k _ (upd Hf' l (.lst vs)) H' (x.fix hn hf hl) ⟨l,vs,rfl,be,r.up (bR hf)⟩⟩
theorem DO.dc{f:MF2}(h:DO c X e f):DC c X e f:=PE.imp h λσ H Q q_=>by
 obtain ⟨Hf0,H0,Hf,U,ds,st,ef,k⟩:=q_;exact (
 ⟨Hf0,H0,Hf,U,ds,st,ef,λl vs Hf' H' x hn hf hl r=>k l vs Hf' H' x (.inl (SqL.of hl)) r⟩)
theorem DE.orE{g:MF1}(h:DE c X e f)(h':DE c X e g):DE c X e (bJ f g):=λpins s σ H Q I q_=>by
 obtain⟨Hf0,H0,Hf,U,d,st,ef,k⟩:=q_;unfold bJ at ef
 cases ed:f U with
 |some d'=>
  rw[ed]at ef;cases ef
  exact h pins s σ H Q I ⟨Hf0,H0,Hf,U,_,st,ed,k⟩
 |none=>
  rw[ed]at ef;exact h' pins s σ H Q I ⟨Hf0,H0,Hf,U,d,st,ef,k⟩
noncomputable def af(i:Nat)(U:LS):OD:=match U[i]? with
 |some (.im d)=>aa d
 | _=>ac
noncomputable def gu(i:Nat)(U:LS):OD:=match U[i]? with
 |some (.im d)=>aa d
 |some (.own xs)=>aa (.lst xs)
 |some (.ownd ks xs)=>aa (.dic ks xs)
 |some (.deep o)=>if o.kn then aa o.toD else ac
 | _=>ac
noncomputable def ao(i:Nat)(U:LS):OLD:=match U[i]? with
 |some (.im d)=>iH d
 |some (.own xs)=>aa xs
 | _=>ac
theorem Cg(h:af i U=aa d):U[i]?=aa (.im d):=by
 unfold af at h
 cases e:U[i]? with
 |none=>rw[e]at h;cases h
 |some s=>rw[e]at h;cases s <;> cases h;rfl
theorem Ch(h:PE X e (dq i)):DE c X e (af i):=PE.imp h λσ H Q q_=>by
 obtain⟨Hf0,H0,Hf,U,d,st,ef,k⟩:=q_;obtain⟨v,e1,r⟩:=st.imm (Cg ef);exact⟨v,e1,k v Hf H (Ext.refl st.sub) r⟩
theorem Ci(h:PE X e (dq i)):DC c X e (ao i):=PE.imp h λσ H Q q_=>by
 obtain⟨Hf0,H0,Hf,U,ds,st,ef,k⟩:=q_;unfold ao at ef
 cases es:U[i]? with
 |none=>rw[es]at ef;cases ef
 |some s=>
  rw[es]at ef
  cases s with
  |im d=>
   obtain⟨v,e1,r⟩:=st.imm es;obtain⟨a,vs,e2,q,rs⟩:=pQ ef r;subst e2
   exact⟨_,e1,k a vs Hf H (Ext.refl st.sub) (wy st.sub q) rs⟩
  |own xs=>
   cases ef;obtain⟨l,e1,_,_,vs,q,r⟩:=st.ownAt rfl es
   exact⟨_,e1,k l vs Hf H (Ext.refl st.sub) (.inl (SqL.of q)) r⟩
  | _=>cases ef
theorem Cj(h:PE X e (dq i)):DB c X e (gu i):=PE.imp h λσ H Q q_=>by
 obtain⟨Hf0,H0,Hf,U,d,st,ef,k⟩:=q_;unfold gu at ef
 cases es:U[i]? with
 |none=>rw[es]at ef;cases ef
 |some s=>
  rw[es]at ef
  cases s with
  |im d=>
   cases ef;obtain⟨v,e1,r⟩:=st.imm es
   exact⟨_,e1,k v Hf H (Ext.refl st.sub) (r.up st.sub)⟩
  |own xs=>
   cases ef;obtain⟨l,e1,_,_,vs,q,r⟩:=st.ownAt rfl es
   exact⟨_,e1,k _ Hf H (Ext.refl st.sub) ⟨l,vs,rfl,q,r.up st.sub⟩⟩
  |ownd ks xs=>
   cases ef;obtain⟨l,e1,_,_,vs,q,z,r⟩:=st.ownAt rfl es
   exact⟨_,e1,k _ Hf H (Ext.refl st.sub) ⟨l,vs,rfl,q,z,r.up st.sub⟩⟩
  |deep o=>
   replace ef:(if o.kn=ab then aa o.toD else ac)=aa d:=ef;split at ef
   .rename_i hk;cases ef;obtain⟨v,e1,u,fp,e2,r,_⟩:=st.slot es;subst e2;exact⟨_,e1,k _ Hf H (Ext.refl st.sub) (r.rep st.sub hk)⟩
   .cases ef
  | _=>cases ef
theorem sr(h:PE X e (tC v))(r:∀G H,Rep G H d v):DE c X e (λ_=>aa d):=PE.imp h λσ H Q q_=>by
 obtain⟨Hf0,H0,Hf,U,d',st,ef,k⟩:=q_;cases ef;exact k v Hf H (Ext.refl st.sub) (r _ _)
theorem aj{i:Int}{j}:DE c X (.Constant (.int i) j pos) (λ_=>aa (.int i)):=sr Bm λ_ _=>rfl
theorem b5{i:Bool}{j}:DE c X (.Constant (.bool i) j pos) (λ_=>aa (.bl i)):=sr Gu λ_ _=>rfl
theorem c7{j}:DE c X (.Constant .none j pos) kN:=sr Gv λ_ _=>rfl
theorem bU{i:Str}{j}:DE c X (.Constant (.str i) j pos) (λ_=>aa (.str i)):=sr Gw λ_ _=>rfl
theorem dv(i:Nat)(hN:X.N[i]?=aa x:=by rfl)(hv:Vis X.env.scope x:=by first |exact cv rfl |exact bO (cv rfl) |exact bO (bO rfl))(hd:NDb x:=by decide)
 (hcd:NCd x:=by decide):DE c X (.Name x pos) (af i):=Ch (nN hN hv hd hcd)
theorem dvC(i:Nat)(hN:X.N[i]?=aa x:=by rfl)(hv:Vis X.env.scope x:=by first |exact cv rfl |exact bO (cv rfl) |exact bO (bO rfl))(hd:NDb x:=by decide)
 (hcd:NCd x:=by decide):DC c X (.Name x pos) (ao i):=Ci (nN hN hv hd hcd)
theorem dvB(i:Nat)(hN:X.N[i]?=aa x:=by rfl)(hv:Vis X.env.scope x:=by first |exact cv rfl |exact bO (cv rfl) |exact bO (bO rfl))(hd:NDb x:=by decide)
 (hcd:NCd x:=by decide):DB c X (.Name x pos) (gu i):=Cj (nN hN hv hd hcd)
noncomputable def ag(f:MF1)(g:MF2)(U:LS):OLD:=(f U).bind λd=>(g U).map λds=>d::ds
variable{g:MF2}
theorem ss(h:ag f g U=aa ds):∃d r,f U=aa d/\g U=aa r/\ds=d::r:=by
 unfold ag at h
 cases e1:f U with
 |none=>rw[e1]at h;cases h
 |some d=>
  cases e2:g U with
  |none=>rw[e1,e2]at h;cases h
  |some r=>rw[e1,e2]at h;cases h;exact⟨d,r,rfl,rfl,rfl⟩
theorem ak:DA c X [] nZ:=⟨PA.imp c6 λσ H Q q_=>by obtain⟨Hf0,H0,Hf,U,ds,st,ef,k⟩:=q_;cases ef;exact k [] Hf H (Ext.refl st.sub) rfl,λU ds h=>by cases h;rfl⟩
theorem ah(ha:DE c X e f)(hr:DA c X es g)(hs:StE X e es:=by rfl):DA c X (e::es) (ag f g):=by
 refine⟨PA.imp (du ha hr.pa hs) λσ H Q q_=>?_,λU ds h=>?_⟩
 .obtain⟨Hf0,H0,Hf,U,ds,st,ef,k⟩:=q_;obtain⟨d,r,e1,e2,rfl⟩:=ss ef;exact⟨Hf0,H0,Hf,U,d,st,e1,λv Hf1 H1 x1 r1=>⟨Hf0,H0,Hf1,U,r,st.step x1,e2,λvs Hf2 H2 x2 r2=>k _ Hf2 H2 (x1.trans x2) (.cons (r1.up x2.f) r2)⟩⟩
 .obtain⟨d,r,e1,e2,rfl⟩:=ss h;simp[hr.len U r e2]
theorem b6:DAB c X [] nZ:=⟨PA.imp c6 λσ H Q q_=>by obtain⟨Hf0,H0,Hf,U,ds,st,ef,k⟩:=q_;cases ef;exact k [] Hf H (Ext.refl st.sub) rfl,λU ds h=>by cases h;rfl⟩
theorem bH(ha:DB c X e f)(hr:DAB c X es g)(hs:StE X e es:=by rfl):DAB c X (e::es) (ag f g):=by
 refine⟨PA.imp (du ha hr.pa hs) λσ H Q q_=>?_,λU ds h=>?_⟩
 .obtain⟨Hf0,H0,Hf,U,ds,st,ef,k⟩:=q_;obtain⟨d,r,e1,e2,rfl⟩:=ss ef;exact⟨Hf0,H0,Hf,U,d,st,e1,λv Hf1 H1 x1 r1=>⟨Hf0,H0,Hf1,U,r,st.step x1,e2,λvs Hf2 H2 x2 r2=>k _ Hf2 H2 (x1.trans x2) (.cons (r1.up x2.h) r2)⟩⟩
 .obtain⟨d,r,e1,e2,rfl⟩:=ss h;simp[hr.len U r e2]
theorem bq{f:MF2}(h:DA c X es f)(hz:es.length<=1000:=by exact Nat.le_of_ble_eq_true rfl):DO c X (.List es pos) f:=PE.imp (sd h.pa) λσ H Q q_=>by
 obtain ⟨Hf0,H0,Hf,U,ds,st,ef,k⟩:=q_;exact (
 ⟨Hf0,H0,Hf,U,ds,st,ef,λvs Hf' H' x r=>⟨by
  rw[<- r.length,h.len U ds ef];exact gN (BZ hz),λp hp=>k p vs Hf' (upd H' p (.lst vs)) (x.trans (Ext.tmp x.s hp)) (x.h.free hp) (x.s.free hp) be r⟩⟩)
theorem cb{f:MF2}{k':Nat}(h:DA c X es f)(hz:es.length<=1000:=by exact Nat.le_of_ble_eq_true rfl):DE c X (.Tuple es k' pos) (bE f):=PE.imp (HV h.pa) λσ H Q q_=>by
 obtain⟨Hf0,H0,Hf,U,d,st,ef,k⟩:=q_;unfold bE at ef
 cases ed:f U with
 |none=>rw[ed]at ef;cases ef
 |some ds=>
  rw[ed]at ef;have ef:D.tup ds=d:=cF ef;subst ef
  exact⟨Hf0,H0,Hf,U,ds,st,ed,λvs Hf' H' x r=>⟨by
   rw[<- r.length,h.len U ds ed];exact gN (BZ hz),λp hp=>k _ (upd Hf' p (.tup vs)) (upd H' p (.tup vs)) (x.trans (Ext.new x.s hp)) ⟨p,vs,rfl,be,r.up (bR (x.s.free hp))⟩⟩⟩
def rD(G:Gc)(m:D->D->OD):R2:=λvx vy H Q=>∃Hf x y d,aw Hf H/\Rep G Hf x vx/\Rep G Hf y vy/\m x y=aa d/\∀v Hf' H',Ext Hf H Hf' H'->Rep G Hf' d v->Q v H'
abbrev OpD(c:Str->Addr)(X:Cx)(f:Value->Value->Sem Value)(m:D->D->OD):Prop:=OpR X f (rD (Gx c X) m)
noncomputable def m2(m:D->D->OD)(f g:MF1)(U:LS):OD:=(f U).bind λx=>(g U).bind λy=>m x y
variable{m:D->D->OD}{g:MF1}
theorem sw(h:m2 m f g U=aa d):∃x y,f U=aa x/\g U=aa y/\m x y=aa d:=by
 unfold m2 at h
 cases e1:f U with
 |none=>rw[e1]at h;cases h
 |some x=>
  cases e2:g U with
  |none=>rw[e1,e2]at h;cases h
  |some y=>rw[e1,e2]at h;exact⟨x,y,rfl,rfl,h⟩
variable{r:R2}
theorem two(hr:∀x y H Q,rD (Gx c X) m x y H Q->r x y H Q)(h:tD (Gx c X) (m2 m f g) σ H Q):tOp r (tD (Gx c X) f) (tD (Gx c X) g) σ H Q:=by
 obtain⟨Hf0,H0,Hf,U,d,st,ef,k⟩:=h;obtain⟨x,y,e1,e2,e3⟩:=sw ef;exact⟨Hf0,H0,Hf,U,x,st,e1,λv Hf1 H1 x1 r1=>⟨Hf0,H0,Hf1,U,y,st.step x1,e2,λu Hf2 H2 x2 r2=>hr _ _ _ _ ⟨Hf2,x,y,d,x2.s,r1.up x2.f,r2,e3,λw Hf3 H3 x3 r3=>k w Hf3 H3 ((x1.trans x2).trans x3) r3⟩⟩⟩
theorem Ck(hr:∀x y H Q,rD (Gx c X) m x y H Q->r x y H Q)(hs:∀x y d,m x y=aa d->d.scalar=ab)(h:tD (Gx c X) (m2 m f g) σ H Q):tOp r (tDB (Gx c X) f) (tDB (Gx c X) g) σ H Q:=by
 obtain⟨Hf0,H0,Hf,U,d,st,ef,k⟩:=h;obtain⟨x,y,e1,e2,e3⟩:=sw ef
 exact⟨Hf0,H0,Hf,U,x,st,e1,λv Hf1 H1 x1 r1=>⟨Hf0,H0,Hf1,U,y,st.step x1,e2,λu Hf2 H2 x2 r2=>hr _ _ _ _ ⟨H2,x,y,d,aw.refl _,r1.up x2.h,r2,e3,λw Hf3 H3 x3 r3=>
  k w Hf2 H3 ((x1.trans x2).trans (Ext.grow x2.s x3.h)) (r3.sc (hs _ _ _ e3))⟩⟩⟩
variable{a:Expr}
theorem aQ{op:Operator}(ho:OpD c X (fU op) m)(ha:DE c X a f)(hb:DE c X b g):DE c X (.BinOp a op b pos) (m2 m f g):=
 PE.imp (Bv ho ha hb) λ_ _ _ h=>two (λ_ _ _ _ h=>h) h
variable{op:CmpOp}
theorem dw(ho:OpD c X (c3 op) m)(hs:∀x y d,m x y=aa d->d.scalar=ab)(ha:DB c X a f)(hb:DB c X b g)(hm:kQ op b=ae:=by first |exact By _ |rfl):
  DE c X (.Compare a [op] [b] pos) (m2 m f g):=PE.imp (Hx ho ha hb hm) λ_ _ _ h=>Ck (λ_ _ _ _ h=>h) hs h
noncomputable def mB(f:MF1)(U:LS):Option Bool:=(f U).bind λd=>match d with
 |.bl b=>aa b
 | _=>ac
theorem sx{b:Bool}(h:mB f U=aa b):f U=aa (.bl b):=by
 unfold mB at h
 cases e:f U with
 |none=>rw[e]at h;cases h
 |some d=>rw[e]at h;cases d <;> cases h;rfl
theorem bc(ho:OpD c X (c3 op) m)(hs:∀x y d,m x y=aa d->d.scalar=ab)(ha:DB c X a f)(hb:DB c X b g)(hm:kQ op b=ae:=by first |exact By _ |rfl):
  DT c X (.Compare a [op] [b] pos) (mB (m2 m f g)):=PT.imp (Hz ho ha hb hm) λσ H Q q_=>by
 obtain ⟨Hf0,H0,Hf,U,b,st,ef,k⟩:=q_;exact (
 Ck (λ_ _ _ _ h=>h) hs ⟨Hf0,H0,Hf,U,.bl b,st,sx ef,λv Hf' H' x r=>⟨b,r,k Hf' H' x⟩⟩)
noncomputable def pR:D->Option Bool
 |.non=>aa ae
 |.bl b=>aa b
 |.int i=>aa (i != 0)
 |.str x=>if x.length<=16777216 then aa ((x.length:Int) != 0) else ac
 |.lst xs=>aa (!xs.isEmpty)
 |.tup xs=>aa (!xs.isEmpty)
 |.kl xs=>aa (!xs.isEmpty)
 |.kt xs=>aa (!xs.isEmpty)
 |.dic ks _=>aa (!ks.isEmpty)
 | _=>ac
theorem am.empty(r:am G H ds vs):ds.isEmpty=vs.isEmpty:=by
 cases ds with
 |nil=>cases (show vs=[]from r);rfl
 |cons d ds=>obtain⟨v,r',e,_⟩:=r;subst e;rfl
theorem Jo{α β:Type}{ks:List α}{vs:List β}(h:ks.length=vs.length):(ks.zip vs).isEmpty=ks.isEmpty:=by
 cases ks <;> cases vs <;> first |rfl |cases h
theorem Jp{b:Bool}(e:pR d=aa b)(r:Rep G H d v):vS G.K v H b:=by
 cases d with
 |non=>cases e;cases r;rfl
 |bl x=>cases e;cases r;rfl
 |int i=>cases e;cases r;rfl
 |str x=>
  cases r;replace e:(if x.length<=16777216 then aa ((x.length:Int) != 0) else ac)=aa b:=e;split at e
  .rename_i hl;cases e;exact⟨by rw[dL];exact hl,rfl⟩
  .cases e
 |lst xs=>cases e;obtain⟨a,vs,e1,q,r⟩:=r;subst e1;exact .inl ⟨vs,SqL.of q,by rw[r.empty]⟩
 |tup xs=>cases e;obtain⟨a,vs,e1,q,r⟩:=r;subst e1;exact .inr (.inl ⟨vs,SqT.of q,by rw[r.empty]⟩)
 |kl xs=>cases e;obtain⟨a,vs,e1,q,r⟩:=r;subst e1;exact .inl ⟨vs,q,by rw[r.empty]⟩
 |kt xs=>cases e;obtain⟨a,vs,e1,q,r⟩:=r;subst e1;exact .inr (.inl ⟨vs,q,by rw[r.empty]⟩)
 |dic ks xs=>cases e;obtain⟨a,vs,e1,q,l,r⟩:=r;subst e1;exact .inr (.inr ⟨_,q,by rw[Jo l]⟩)
 |ins _ _ _=>cases e
 |kd _ _=>cases e
 |dT _ _=>cases e
noncomputable def b7(f:MF1)(U:LS):Option Bool:=(f U).bind pR
theorem cV(ha:DB c X a f)(he:∀whole,isTrue a X.env whole=(do let v <- whole;iw a.pos;fG [v] (truthy v)):=by intro _;rfl):DT c X a (b7 f):=
 PT.imp (HC ha he) λσ H Q q_=>by
  obtain⟨Hf0,H0,Hf,U,b,st,ef,k⟩:=q_;unfold b7 at ef
  cases ed:f U with
  |none=>rw[ed]at ef;cases ef
  |some d=>
   rw[ed]at ef;exact⟨Hf0,H0,Hf,U,d,st,ed,λv Hf' H' x r=>⟨b,Jp ef r,k Hf' H' x⟩⟩
noncomputable def fj(f g:MF4)(U:LS):Option Bool:=(f U).bind λb=>if b then g U else aa ae
noncomputable def mOr(f g:MF4)(U:LS):Option Bool:=(f U).bind λb=>if b then aa ab else g U
noncomputable def gY(f:MF4)(U:LS):Option Bool:=(f U).map not
variable{f:MF4}
theorem DW.dt(h:DW c X e f):DT c X e f:=PW.pt h
theorem lc(h:DT c X a f):DW c X (.BoolOp .And [a] pos) f:=GC h
theorem mw(h:DT c X a f):DW c X (.BoolOp .Or [a] pos) f:=GD h
theorem jy{g:MF4}{rest:LEx}(h:DT c X a f)(h':DW c X (.BoolOp .And (b::rest) pos) g):DW c X (.BoolOp .And (a::b::rest) pos) (fj f g):=PW.imp (GE h h') λσ H Q q_=>by
 obtain⟨Hf0,H0,Hf,U,b,st,ef,k⟩:=q_;unfold fj at ef
 cases e1:f U with
 |none=>rw[e1]at ef;cases ef
 |some x=>
  rw[e1]at ef;refine⟨Hf0,H0,Hf,U,x,st,e1,λHf1 H1 x1=>?_⟩
  cases x with
  |true=>rw[if_pos rfl];exact⟨Hf0,H0,Hf1,U,b,st.step x1,ef,λHf2 H2 x2=>k Hf2 H2 (x1.trans x2)⟩
  |false=>cases ef;rw[if_neg bd];exact k Hf1 H1 x1
theorem lg{g:MF4}{rest:LEx}(h:DT c X a f)(h':DW c X (.BoolOp .Or (b::rest) pos) g):DW c X (.BoolOp .Or (a::b::rest) pos) (mOr f g):=PW.imp (GF h h') λσ H Q q_=>by
 obtain⟨Hf0,H0,Hf,U,b,st,ef,k⟩:=q_;unfold mOr at ef
 cases e1:f U with
 |none=>rw[e1]at ef;cases ef
 |some x=>
  rw[e1]at ef;refine⟨Hf0,H0,Hf,U,x,st,e1,λHf1 H1 x1=>?_⟩
  cases x with
  |false=>rw[if_neg bd];exact⟨Hf0,H0,Hf1,U,b,st.step x1,ef,λHf2 H2 x2=>k Hf2 H2 (x1.trans x2)⟩
  |true=>cases ef;rw[if_pos rfl];exact k Hf1 H1 x1
theorem jz(h:DT c X a f):DT c X (.UnaryOp .Not a pos) (gY f):=PT.imp (GG h) λσ H Q q_=>by
 obtain⟨Hf0,H0,Hf,U,b,st,ef,k⟩:=q_;unfold gY at ef
 cases e1:f U with
 |none=>rw[e1]at ef;cases ef
 |some x=>
  rw[e1]at ef;cases ef;exact⟨Hf0,H0,Hf,U,x,st,e1,λHf1 H1 x1=>k Hf1 H1 x1⟩
noncomputable def n6(f g:MF1)(U:LS):OD:=(mB f U).bind λb=>if b then g U else aa (.bl ae)
noncomputable def vOr(f g:MF1)(U:LS):OD:=(mB f U).bind λb=>if b then aa (.bl ab) else g U
noncomputable def n8(f:MF1)(U:LS):OD:=(mB f U).map λb=>.bl (!b)
variable{f:MF1}
theorem sy{op}(h:DE c X a f):DE c X (.BoolOp op [a] pos) f:=GK h
theorem Cm{rest:LEx}(h:DE c X a f)(h':DE c X (.BoolOp .And (b::rest) pos) g):DE c X (.BoolOp .And (a::b::rest) pos) (n6 f g):=PE.imp (GL h h') λσ H Q q_=>by
 obtain⟨Hf0,H0,Hf,U,d,st,ef,k⟩:=q_;unfold n6 at ef
 cases e1:mB f U with
 |none=>rw[e1]at ef;cases ef
 |some x=>
  rw[e1]at ef;refine⟨Hf0,H0,Hf,U,.bl x,st,sx e1,λv Hf1 H1 x1 r1=>⟨x,r1,?_⟩⟩
  cases x with
  |true=>rw[if_pos rfl];exact⟨Hf0,H0,Hf1,U,d,st.step x1,ef,λv Hf2 H2 x2 r2=>k v Hf2 H2 (x1.trans x2) r2⟩
  |false=>cases ef;rw[if_neg bd];exact k _ Hf1 H1 x1 rfl
theorem Cn{rest:LEx}(h:DE c X a f)(h':DE c X (.BoolOp .Or (b::rest) pos) g):DE c X (.BoolOp .Or (a::b::rest) pos) (vOr f g):=PE.imp (GM h h') λσ H Q q_=>by
 obtain⟨Hf0,H0,Hf,U,d,st,ef,k⟩:=q_;unfold vOr at ef
 cases e1:mB f U with
 |none=>rw[e1]at ef;cases ef
 |some x=>
  rw[e1]at ef;refine⟨Hf0,H0,Hf,U,.bl x,st,sx e1,λv Hf1 H1 x1 r1=>⟨x,r1,?_⟩⟩
  cases x with
  |false=>rw[if_neg bd];exact⟨Hf0,H0,Hf1,U,d,st.step x1,ef,λv Hf2 H2 x2 r2=>k v Hf2 H2 (x1.trans x2) r2⟩
  |true=>cases ef;rw[if_pos rfl];exact k _ Hf1 H1 x1 rfl
theorem Co(h:DE c X a f):DE c X (.UnaryOp .Not a pos) (n8 f):=PE.imp (GN h) λσ H Q q_=>by
 obtain⟨Hf0,H0,Hf,U,d,st,ef,k⟩:=q_;unfold n8 at ef
 cases e1:mB f U with
 |none=>rw[e1]at ef;cases ef
 |some x=>
  rw[e1]at ef;cases ef;exact⟨Hf0,H0,Hf,U,.bl x,st,sx e1,λv Hf1 H1 x1 r1=>⟨x,r1,k _ Hf1 H1 x1 rfl⟩⟩
noncomputable def vIf(t:MF4)(f g:MF1)(U:LS):OD:=(t U).bind λb=>if b then f U else g U
variable{cd:Expr}
theorem sA{t:MF4}(hc:DT c X cd t)(ha:DE c X a f)(hb:DE c X b g):DE c X (.IfExp cd a b pos) (vIf t f g):=PE.imp (Bo hc ha hb) λσ H Q q_=>by
 obtain⟨Hf0,H0,Hf,U,d,st,ef,k⟩:=q_;unfold vIf at ef
 cases e1:t U with
 |none=>rw[e1]at ef;cases ef
 |some x=>
  rw[e1]at ef;refine⟨Hf0,H0,Hf,U,x,st,e1,λHf1 H1 x1=>?_⟩
  cases x with
  |true=>rw[if_pos rfl];exact⟨Hf0,H0,Hf1,U,d,st.step x1,ef,λv Hf2 H2 x2 r=>k v Hf2 H2 (x1.trans x2) r⟩
  |false=>rw[if_neg bd];exact⟨Hf0,H0,Hf1,U,d,st.step x1,ef,λv Hf2 H2 x2 r=>k v Hf2 H2 (x1.trans x2) r⟩
noncomputable instance {i j:Int}:Decidable (pJ i j):=by unfold pJ;infer_instance
noncomputable instance {i j:Int}:Decidable (nO i j):=by unfold nO;infer_instance
noncomputable instance {i j:Int}:Decidable (pK i j):=by unfold pK;infer_instance
noncomputable def dI(C:Int->Int->Prop)[∀i j,Decidable (C i j)](g:Int->Int->D):D->D->OD
 |.int i,.int j=>if C i j then aa (g i j) else ac
 | _,_=>ac
noncomputable def dI0(g:Int->Int->D):D->D->OD
 |.int i,.int j=>aa (g i j)
 | _,_=>ac
noncomputable def cS:D->D->OD
 |.int i,.int j=>aa (.int (i+j))
 |.str a,.str b=>if a.length+b.length<=16777216 then aa (.str (a++b)) else ac
 |.lst a,.lst b=>if a.length+b.length<=16777216 then aa (.lst (a++b)) else ac
 | _,_=>ac
noncomputable abbrev mx:D->D->OD:=dI0 λi j=>.int (i-j)
noncomputable abbrev lh:D->D->OD:=dI pJ λi j=>.int (i / j)
noncomputable abbrev bI:D->D->OD:=dI (λ_ j=>0<j) λi j=>.int (i % j)
noncomputable abbrev wz:D->D->OD:=dI nO λi j=>.int (i ^ j.toNat)
noncomputable abbrev dLt:D->D->OD:=dI0 λi j=>.bl (decide (i<j))
noncomputable abbrev dLe:D->D->OD:=dI0 λi j=>.bl (decide (i<=j))
noncomputable abbrev dGt:D->D->OD:=dI0 λi j=>.bl (decide (j<i))
noncomputable abbrev dGe:D->D->OD:=dI0 λi j=>.bl (decide (j<=i))
variable{gd:Int->Int->D}
theorem sC{f:Value->Value->Sem Value}{C:Int->Int->Prop}[∀i j,Decidable (C i j)]{g:Int->Int->V}(h:OpR X f (rI C g))(hg:∀G H i j,Rep G H (gd i j) (g i j)):OpD c X f (dI C gd):=by
 rintro pins s σ H vx vy v u Q I rx ry ⟨Hf,x,y,d,s0,r1,r2,e,k⟩;unfold dI at e;split at e
 .split at e
  .rename_i hc;cases e;exact h pins s σ H vx vy v u Q I rx ry ⟨_,_,r1,r2,hc,k _ Hf H (Ext.refl s0) (hg _ _ _ _)⟩
  .cases e
 .cases e
theorem pS{f:Value->Value->Sem Value}{g:Int->Int->V}(h:OpR X f (rI0 g))(hg:∀G H i j,Rep G H (gd i j) (g i j)):OpD c X f (dI0 gd):=by
 rintro pins s σ H vx vy v u Q I rx ry ⟨Hf,x,y,d,s0,r1,r2,e,k⟩;unfold dI0 at e;split at e
 .cases e;exact h pins s σ H vx vy v u Q I rx ry ⟨_,_,r1,r2,k _ Hf H (Ext.refl s0) (hg _ _ _ _)⟩
 .cases e
theorem fY:OpD c X (fU .Add) cS:=by
 rintro pins s σ H vx vy v u Q I rx ry ⟨Hf,x,y,d,s0,r1,r2,e,k⟩;unfold cS at e;split at e
 .cases e;exact Hh pins s σ H vx vy v u Q I rx ry ⟨_,_,r1,r2,k _ Hf H (Ext.refl s0) rfl⟩
 .split at e
  .rename_i hl;cases e;exact HD pins s σ H vx vy v u Q I rx ry ⟨_,_,r1,r2,by rw[dL];exact hl,k _ Hf H (Ext.refl s0) rfl⟩
  .cases e
 .split at e
  .rename_i hl;cases e;obtain⟨a,vs,e1,q1,r1⟩:=r1;obtain⟨b,us,e2,q2,r2⟩:=r2
   exact BX pins s σ H vx vy v u Q I rx ry ⟨a,b,vs,us,e1,e2,s0 _ _ q1,s0 _ _ q2,by rw[dL,<- r1.length,<- r2.length];exact hl,
    λp hp=>k _ (upd Hf p (.lst (vs++us))) (upd H p (.lst (vs++us))) (Ext.new s0 hp) ⟨p,_,rfl,be,(r1.append r2).up (bR (s0.free hp))⟩⟩
  .cases e
 .cases e
theorem sD:OpD c X (fU .Sub) mx:=pS Hi λ_ _ _ _=>rfl
theorem n9:OpD c X (fU .FloorDiv) lh:=sC Hj λ_ _ _ _=>rfl
theorem cy:OpD c X (fU .Mod) bI:=sC Hk λ_ _ _ _=>rfl
theorem Jq:OpD c X (fU .Pow) wz:=sC Hl λ_ _ _ _=>rfl
theorem wA:OpD c X (c3 .Lt) dLt:=pS Hr λ_ _ _ _=>rfl
theorem wB:OpD c X (c3 .LtE) dLe:=pS Hs λ_ _ _ _=>rfl
theorem wC:OpD c X (c3 .Gt) dGt:=pS Ht λ_ _ _ _=>rfl
theorem sE:OpD c X (c3 .GtE) dGe:=pS Hu λ_ _ _ _=>rfl
theorem sF{g:Int->Int->D}(hg:∀i j,(g i j).scalar=ab):∀x y d,dI0 g x y=aa d->d.scalar=ab:=by
 intro x y d e;unfold dI0 at e;split at e
 .cases e;exact hg _ _
 .cases e
theorem wD:∀x y d,dLt x y=aa d->d.scalar=ab:=sF λ_ _=>rfl
theorem wE:∀x y d,dLe x y=aa d->d.scalar=ab:=sF λ_ _=>rfl
theorem wF:∀x y d,dGt x y=aa d->d.scalar=ab:=sF λ_ _=>rfl
theorem sG:∀x y d,dGe x y=aa d->d.scalar=ab:=sF λ_ _=>rfl
noncomputable def sH:D->OD
 |.int i=>aa (.int (-i))
 | _=>ac
noncomputable def m1(m:D->OD)(f:MF1)(U:LS):OD:=(f U).bind m
theorem wG(ha:DE c X a f):DE c X (.UnaryOp .USub a pos) (m1 sH f):=PE.imp (Hg Hm ha) λσ H Q q_=>by
 obtain⟨Hf0,H0,Hf,U,d,st,ef,k⟩:=q_;unfold m1 at ef
 cases e1:f U with
 |none=>rw[e1]at ef;cases ef
 |some y=>
  rw[e1]at ef
  cases y with
  |int i=>cases ef;exact⟨Hf0,H0,Hf,U,.int i,st,e1,λv Hf' H' x r=>⟨i,r,k _ Hf' H' x rfl⟩⟩
  | _=>cases ef
noncomputable def Cp:D->Bool
 |.non=>ab
 | _=>ae
theorem Cq{x:D}(r:Rep G H x v):decide (v=.non)=Cp x:=by
 cases x with
 |non=>cases r;rfl
 |bl b=>cases r;rfl
 |int i=>cases r;rfl
 |str x=>cases r;rfl
 |lst _=>obtain⟨a,_,e,_⟩:=r;subst e;rfl
 |tup _=>obtain⟨a,_,e,_⟩:=r;subst e;rfl
 |kl _=>obtain⟨a,_,e,_⟩:=r;subst e;rfl
 |kt _=>obtain⟨a,_,e,_⟩:=r;subst e;rfl
 |dic _ _=>obtain⟨a,_,e,_⟩:=r;subst e;rfl
 |ins _ _ _=>obtain⟨a,_,_,e,_⟩:=r;subst e;rfl
 |kd _ _=>obtain⟨a,_,_,e,_⟩:=r;subst e;rfl
 |dT _ _=>obtain⟨a,_,e,_⟩:=r;subst e;rfl
noncomputable def isD(x y:D):Option Bool:=match y with
 |.non=>aa (Cp x)
 |.bl b=>match x with
  |.non=>aa ae
  |.bl a=>aa (a==b)
  | _=>ac
 | _=>ac
noncomputable def dIs(x y:D):OD:=(isD x y).map .bl
noncomputable def gx(x y:D):OD:=(isD x y).map λb=>.bl (!b)
theorem eC:OpD c X (c3 .Is) dIs:=by
 rintro pins s σ H vx vy v u Q I rx ry ⟨Hf,x,y,d,s0,r1,r2,e,k⟩;unfold dIs isD at e
 cases y with
 |non=>
  cases e
  exact Hv pins s σ H vx vy v u Q I rx ry ⟨r2,by rw[Cq r1];exact k _ Hf H (Ext.refl s0) rfl⟩
 |bl b=>
  cases x with
  |non=>cases e;cases r1;exact Cd pins s σ H _ vy v u Q I rx ry ⟨b,r2,.inl rfl,k _ Hf H (Ext.refl s0) rfl⟩
  |bl a=>cases e;cases r1;exact Cd pins s σ H _ vy v u Q I rx ry ⟨b,r2,.inr ⟨a,rfl⟩,by rw[pL];exact k _ Hf H (Ext.refl s0) rfl⟩
  | _=>cases e
 | _=>cases e
theorem my:OpD c X (c3 .IsNot) gx:=by
 rintro pins s σ H vx vy v u Q I rx ry ⟨Hf,x,y,d,s0,r1,r2,e,k⟩;unfold gx isD at e
 cases y with
 |non=>
  cases e
  exact Hw pins s σ H vx vy v u Q I rx ry ⟨r2,by rw[Cq r1];exact k _ Hf H (Ext.refl s0) rfl⟩
 |bl b=>
  cases x with
  |non=>cases e;cases r1;exact Ce pins s σ H _ vy v u Q I rx ry ⟨b,r2,.inl rfl,k _ Hf H (Ext.refl s0) rfl⟩
  |bl a=>cases e;cases r1;exact Ce pins s σ H _ vy v u Q I rx ry ⟨b,r2,.inr ⟨a,rfl⟩,by rw[pL];exact k _ Hf H (Ext.refl s0) rfl⟩
  | _=>cases e
 | _=>cases e
theorem oa{x:Option Bool}{g:Bool->Bool}:∀d,x.map (λb=>D.bl (g b))=aa d->d.scalar=ab:=by
 intro d e
 cases x with
 |none=>cases e
 |some b=>cases e;rfl
theorem eE:∀x y d,dIs x y=aa d->d.scalar=ab:=λ_ _ d e=>oa (g:=id) d e
theorem mz:∀x y d,gx x y=aa d->d.scalar=ab:=λ_ _ d e=>oa (g:=not) d e
noncomputable def eqF:D->D->Bool
 |.non,.non=>ab
 |.bl a,.bl b=>a==b
 |.int a,.int b=>a==b
 |.str a,.str b=>a==b
 | _,_=>ae
noncomputable def dg(f:D->D->Option Bool):LD->LD->Option Bool
 | [],[]=>aa ab
 |x::xs,y::ys=>(f x y).bind λb=>(dg f xs ys).map λr=>b && r
 | _,_=>aa ae
noncomputable def wH:D->D->Bool
 |.bl _,.int _=>ab
 |.int _,.bl _=>ab
 | _,_=>ae
noncomputable def mC(f:D->D->Option Bool):D->D->Option Bool
 |.lst xs,.lst ys=>if xs.length=ys.length then dg f xs ys else aa ae
 |.tup xs,.tup ys=>if xs.length=ys.length then dg f xs ys else ac
 |x,y=>if x.scalar && y.scalar && !wH x y then aa (eqF x y) else ac
noncomputable def deq:Nat->D->D->Option Bool
 | 0,_,_=>ac
 |n+1,x,y=>mC (deq n) x y
noncomputable def dEq(x y:D):OD:=(deq 20 x y).map .bl
noncomputable def dNe(x y:D):OD:=(deq 20 x y).map λb=>.bl (!b)
theorem cz:∀x y d,dEq x y=aa d->d.scalar=ab:=λ_ _ d e=>oa (g:=id) d e
theorem mD:∀x y d,dNe x y=aa d->d.scalar=ab:=λ_ _ d e=>oa (g:=not) d e
variable{x y:D}{xs ys:LD}{b:Bool}
theorem sI{f:D->D->Option Bool}(h:dg f (x::xs) (y::ys)=aa b):∃b1 b2,f x y=aa b1/\dg f xs ys=aa b2/\b=(b1 && b2):=by
 unfold dg at h
 cases e1:f x y with
 |none=>rw[e1]at h;cases h
 |some b1=>
  cases e2:dg f xs ys with
  |none=>rw[e1,e2]at h;cases h
  |some b2=>rw[e1,e2]at h;cases h;exact⟨b1,b2,rfl,rfl,rfl⟩
theorem mE{f:D->D->Option Bool}:∀{xs ys:LD} {b:Bool},xs.length=ys.length->dg f xs ys=aa b->∃e:Nat->Bool,(∀j x y,xs[j]?=aa x->ys[j]?=aa y->f x y=aa (e j))/\(bF xs.length).all e=b
 | [],[],b,_,h=>by cases h;exact⟨λ_=>ab,λj x y e=>by simp at e,rfl⟩
 |x::xs,y::ys,b,hl,h=>by
  obtain⟨b1,b2,h1,h2,rfl⟩:=sI h;obtain⟨e,he,ha⟩:=mE (by simpa using hl) h2
  refine⟨λj=>match j with | 0=>b1 |j+1=>e j,λj x' y' ex ey=>?_,?_⟩
  .cases j with
   |zero=>simp at ex ey;subst ex ey;exact h1
   |succ j=>exact he j x' y' (by simpa using ex) (by simpa using ey)
  .rw[b9,range_succ_eq_map,lQ,rB,<- ha]
   rfl
 | [],_::_,_,hl,_=>by cases hl
 | _::_,[],_,hl,_=>by cases hl
theorem sJ(s:d.scalar=ab):d=.non\/(∃b,d=.bl b)\/(∃i,d=.int i)\/∃z,d=.str z:=by
 cases d with
 |non=>exact .inl rfl
 |bl b=>exact .inr (.inl ⟨b,rfl⟩)
 |int i=>exact .inr (.inr (.inl ⟨i,rfl⟩))
 |str z=>exact .inr (.inr (.inr ⟨z,rfl⟩))
 | _=>cases s
theorem sK(hs:(x.scalar && y.scalar && !wH x y)=ab)(r1:Rep G H x v)(r2:Rep G H y u):fX v=ab/\fX u=ab/\eqV v u=eqF x y/\vP v u=ab/\decide (v=u)=eqF x y:=by
 rw[cg,cg]at hs
 rcases sJ hs.1.1 with rfl |⟨a,rfl⟩ |⟨a,rfl⟩ |⟨a,rfl⟩ <;> rcases sJ hs.1.2 with rfl |⟨b,rfl⟩ |⟨b,rfl⟩ |⟨b,rfl⟩ <;> first
  |(cases hs.2;done)
  |(cases r1;cases r2;refine⟨rfl,rfl,rfl,rfl,?_⟩;first |exact pL |exact vQ |exact vR |rfl)
variable{n:Nat}
theorem sL(hs:¬(∃xs ys,x=.lst xs/\y=.lst ys)/\¬(∃xs ys,x=.tup xs/\y=.tup ys))(h:deq (n+1) x y=aa b):(x.scalar && y.scalar && !wH x y)=ab/\b=eqF x y:=by
 replace h:mC (deq n) x y=aa b:=h;unfold mC at h;split at h
 .exact absurd ⟨_,_,rfl,rfl⟩ hs.1
 .exact absurd ⟨_,_,rfl,rfl⟩ hs.2
 .split at h
  .rename_i hc;cases h;exact⟨hc,rfl⟩
  .cases h
theorem Cr:∀(n:Nat) {x y:D} {b:Bool} {v:V},deq n x y=aa b->Rep G H x v->Rep G H y v->b=ab:=by
 intro n
 induction n with
 |zero=>intro x y b v h;cases h
 |succ n ih=>
  have all:∀(xs ys:LD) (vs:List V) (b:Bool),am G H xs vs->am G H ys vs->dg (deq n) xs ys=aa b->b=ab:=by
   intro xs
   induction xs with
   |nil=>
    intro ys vs b r1 r2 h;cases (show vs=[]from r1);have:ys=[]:=o8.mp r2.length;subst this
    cases h;rfl
   |cons x xs ihx=>
    intro ys vs b r1 r2 h;obtain⟨v,r,e,h1,h2⟩:=r1;subst e
    cases ys with
    |nil=>cases (show v::r=[]from r2)
    |cons y ys=>
     obtain⟨v',r',e,h1',h2'⟩:=r2;cases e;obtain⟨b1,b2,e1,e2,rfl⟩:=sI h;rw[ih e1 h1 h1',ihx ys _ b2 h2 h2' e2];rfl
  intro x y b v h r1 r2
  by_cases hl:∃xs ys,x=.lst xs/\y=.lst ys
  .obtain⟨xs,ys,rfl,rfl⟩:=hl;obtain⟨a,vs,e,q,r1⟩:=r1;obtain⟨a',vs',e',q',r2⟩:=r2;subst e;cases e';rw[q]at q';cases q';have hlen:xs.length=ys.length:=r1.length.trans r2.length.symm;replace h:(if xs.length=ys.length then dg (deq n) xs ys else aa ae)=aa b:=h;rw[if_pos hlen]at h;exact all xs ys vs b r1 r2 h
  .by_cases ht:∃xs ys,x=.tup xs/\y=.tup ys
   .obtain⟨xs,ys,rfl,rfl⟩:=ht;obtain⟨a,vs,e,q,r1⟩:=r1;obtain⟨a',vs',e',q',r2⟩:=r2;subst e;cases e';rw[q]at q';cases q';have hlen:xs.length=ys.length:=r1.length.trans r2.length.symm;replace h:(if xs.length=ys.length then dg (deq n) xs ys else ac)=aa b:=h;rw[if_pos hlen]at h;exact all xs ys vs b r1 r2 h
   .obtain⟨hs,rfl⟩:=sL ⟨hl,ht⟩ h;obtain⟨_,_,_,_,e⟩:=sK hs r1 r2;rw[<- e];exact decide_eq_true rfl
variable{us:List V}
section
variable{s:ai}
theorem oe{its its2:LVa}{e:Nat->Bool}(r1:am G H xs vs)(r2:am G H ys us)(r:aG vs its)(r':aG us its2)
 (he:∀j x y,xs[j]?=aa x->ys[j]?=aa y->deq n x y=aa (e j))
 (ih:∀{x y:D} {b:Bool} {v u:V} {w w':Value},deq n x y=aa b->Rep G H x v->Rep G H y u->aF v w->aF u w'->cw A s w w' b):
  ∀j (h1:j<its.toArray.size) (h2:j<its2.toArray.size),cw A s its.toArray[j] its2.toArray[j] (e j):=λj h1 h2=>by
 have h1':j<its.length:=by simpa using h1
 have h2':j<its2.length:=by simpa using h2
 obtain⟨v,ev,rv⟩:=r.at' (i:=j) (u:=its[j]) (by simp[h1']);obtain⟨u,eu,ru⟩:=r'.at' (i:=j) (u:=its2[j]) (by simp[h2']);obtain⟨x,ex,rx⟩:=r1.get' ev;obtain⟨y,ey,ry⟩:=r2.get' eu;exact ih (he j x y ex ey) rx ry rv ru
end
section
variable{s:ai}
theorem wI(I:Inv X pins σ H s):∀(n:Nat) {A:cP} {x y:D} {b:Bool} {v u:V} {w w':Value},A.units+n<cLine->deq n x y=aa b->Rep (Gx c X) H x v->Rep (Gx c X) H y u->aF v w->aF u w'->cw A s w w' b:=by
 intro n
 induction n with
 |zero=>intro A x y b v u w w' _ h;cases h
 |succ n ih=>
  intro A x y b v u w w' hu h r1 r2 rv ru;have hin:∀{x y:D} {b:Bool} {v u:V} {w w':Value},deq n x y=aa b->Rep (Gx c X) H x v->Rep (Gx c X) H y u->aF v w->aF u w'->cw A.in1 s w w' b:=λh a b c d=>ih (by rw[nI];omega) h a b c d
  by_cases hl:∃xs ys,x=.lst xs/\y=.lst ys
  .obtain⟨xs,ys,rfl,rfl⟩:=hl;obtain⟨a,vs,e,q,rs1⟩:=id r1;obtain⟨a',vs',e',q',rs2⟩:=id r2;subst e e';cases rv;cases ru
   by_cases hab:a=a'
   .subst hab;have:=Cr (n+1) h (show Rep (Gx c X) H (.lst xs) (.ref a)from⟨a,vs,rfl,q,rs1⟩) ⟨a,vs',rfl,q',rs2⟩;subst this;exact vB _
   .refine cw.of_refs hab ?_;obtain⟨its,rr,pl,hz⟩:=I.list (SqL.of (K:=X.K) q);obtain⟨its2,rr2,pl2,hz2⟩:=I.list (SqL.of (K:=X.K) q');have l1:=rr.length;have l2:=rr2.length;have l3:=rs1.length;have l4:=rs2.length;replace h:(if xs.length=ys.length then dg (deq n) xs ys else aa ae)=aa b:=h;split at h
    .rename_i hlen;obtain⟨ee,he,ha⟩:=mE hlen h;have:=SeqAt.RcAt.lists (A:=A) (s:=s) pl.isList pl2.isList (by simp only[size_toArray];omega) (by omega) (oe (A:=A.in1) (s:=s) rs1 rs2 rr rr2 he hin);rw[size_toArray,<- l1,<- l3,ha]at this;exact this
    .rename_i hlen;cases h;exact SeqAt.RcAt.lists_lengths (A:=A) (s:=s) pl.isList pl2.isList (by simp only[size_toArray,bne_iff_ne,ne_eq];omega) (by omega)
  .by_cases ht:∃xs ys,x=.tup xs/\y=.tup ys
   .obtain⟨xs,ys,rfl,rfl⟩:=ht;obtain⟨a,vs,e,q,rs1⟩:=id r1;obtain⟨a',vs',e',q',rs2⟩:=id r2;subst e e';cases rv;cases ru
    by_cases hab:a=a'
    .subst hab;have:=Cr (n+1) h (show Rep (Gx c X) H (.tup xs) (.ref a)from⟨a,vs,rfl,q,rs1⟩) ⟨a,vs',rfl,q',rs2⟩;subst this;exact vB _
    .refine cw.of_refs hab ?_;obtain⟨its,rr,pl,hz⟩:=I.tuple (SqT.of (K:=X.K) q);obtain⟨its2,rr2,pl2,hz2⟩:=I.tuple (SqT.of (K:=X.K) q');have l1:=rr.length;have l2:=rr2.length;have l3:=rs1.length;have l4:=rs2.length;replace h:(if xs.length=ys.length then dg (deq n) xs ys else ac)=aa b:=h;split at h
     .rename_i hlen;obtain⟨ee,he,ha⟩:=mE hlen h;have:=SeqAt.RcAt.tuples (A:=A) (s:=s) (show s.heap.IsTuple a its.toArray from pl) (show s.heap.IsTuple a' its2.toArray from pl2) (by omega) (oe (A:=A.in1) (s:=s) rs1 rs2 rr rr2 he hin);have hsz:its.toArray.size=its2.toArray.size:=by simp only[size_toArray];omega
      rw[<- hsz,Nat.min_self,beq_self_eq_true,Bool.and_true,size_toArray,<- l1,<- l3,ha]at this;exact this
     .cases h
   .obtain⟨hs,rfl⟩:=sL ⟨hl,ht⟩ h;obtain⟨f1,f2,e,_,_⟩:=sK hs r1 r2;rw[<- e];exact BS rv ru f1 f2
end
theorem cA(hu:X.A.units+64<cLine):OpD c X (c3 .Eq) dEq:=by
 rintro pins s σ H v u w w' Q I rv ru ⟨Hf,x,y,d,s0,r1,r2,e,k⟩;unfold dEq at e
 cases h:deq 20 x y with
 |none=>rw[h]at e;cases e
 |some b=>
  rw[h]at e;cases e;have q0:=k (.bl b) Hf H (Ext.refl s0) rfl;have fin:EP X pins σ Q (.bool b) s:=⟨.bl b,H,I,rfl,q0⟩;have r1:=r1.up s0;have r2:=r2.up s0;have hin:∀{x y:D} {b:Bool} {v u:V} {w w':Value},deq 19 x y=aa b->Rep (Gx c X) H x v->Rep (Gx c X) H y u->aF v w->aF u w'->cw X.A.in1 s w w' b:=λh a b c d=>wI I 19 (by rw[nI];omega) h a b c d
  by_cases hl:∃xs ys,x=.lst xs/\y=.lst ys
  .obtain⟨xs,ys,rfl,rfl⟩:=hl;obtain⟨a,vs,e,q,rs1⟩:=id r1;obtain⟨a',vs',e',q',rs2⟩:=id r2;subst e e';cases rv;cases ru;obtain⟨its,rr,pl,hz⟩:=I.list (SqL.of (K:=X.K) q);obtain⟨its2,rr2,pl2,hz2⟩:=I.list (SqL.of (K:=X.K) q');have l1:=rr.length;have l2:=rr2.length;have l3:=rs1.length;have l4:=rs2.length;replace h:(if xs.length=ys.length then dg (deq 19) xs ys else aa ae)=aa b:=h;split at h
   .rename_i hlen;obtain⟨ee,he,ha⟩:=mE hlen h;refine SeqAt.eq_listAt pl.isList pl2.isList (by simp only[size_toArray];omega) (by omega) (oe rs1 rs2 rr rr2 he hin) ?_;rw[size_toArray,<- l1,<- l3,ha];exact fin
   .rename_i hlen;cases h;exact SeqAt.eq_list_lengthsAt pl.isList pl2.isList (by simp only[size_toArray,bne_iff_ne,ne_eq];omega) (by omega) fin
  .by_cases ht:∃xs ys,x=.tup xs/\y=.tup ys
   .obtain⟨xs,ys,rfl,rfl⟩:=ht;obtain⟨a,vs,e,q,rs1⟩:=id r1;obtain⟨a',vs',e',q',rs2⟩:=id r2;subst e e';cases rv;cases ru;obtain⟨its,rr,pl,hz⟩:=I.tuple (SqT.of (K:=X.K) q);obtain⟨its2,rr2,pl2,hz2⟩:=I.tuple (SqT.of (K:=X.K) q');have l1:=rr.length;have l2:=rr2.length;have l3:=rs1.length;have l4:=rs2.length;replace h:(if xs.length=ys.length then dg (deq 19) xs ys else ac)=aa b:=h;split at h
    .rename_i hlen;obtain⟨ee,he,ha⟩:=mE hlen h;refine SeqAt.eq_tupleAt (show s.heap.IsTuple a its.toArray from pl) (show s.heap.IsTuple a' its2.toArray from pl2) (by omega) (oe rs1 rs2 rr rr2 he hin) ?_;have hsz:its.toArray.size=its2.toArray.size:=by simp only[size_toArray];omega
     rw[<- hsz,Nat.min_self,beq_self_eq_true,Bool.and_true,size_toArray,<- l1,<- l3,ha];exact fin
    .cases h
   .obtain⟨hs,rfl⟩:=sL ⟨hl,ht⟩ h;obtain⟨_,_,_,hsc,e⟩:=sK hs r1 r2;exact Ho pins s σ H v u w w' Q I rv ru ⟨hsc,by rw[e];exact q0⟩
theorem mF(hu:X.A.units+64<cLine):OpD c X (c3 .NotEq) dNe:=by
 rintro pins s σ H v u w w' Q I rv ru ⟨Hf,x,y,d,s0,r1,r2,e,k⟩;unfold dNe at e
 cases h:deq 20 x y with
 |none=>rw[h]at e;cases e
 |some b=>
  rw[h]at e;cases e;have q0:=k (.bl (!b)) Hf H (Ext.refl s0) rfl;have fin:EP X pins σ Q (.bool (!b)) s:=⟨.bl (!b),H,I,rfl,q0⟩;have r1:=r1.up s0;have r2:=r2.up s0;have hin:∀{x y:D} {b:Bool} {v u:V} {w w':Value},deq 19 x y=aa b->Rep (Gx c X) H x v->Rep (Gx c X) H y u->aF v w->aF u w'->cw X.A.in1 s w w' b:=λh a b c d=>wI I 19 (by rw[nI];omega) h a b c d
  by_cases hl:∃xs ys,x=.lst xs/\y=.lst ys
  .obtain⟨xs,ys,rfl,rfl⟩:=hl;obtain⟨a,vs,e,q,rs1⟩:=id r1;obtain⟨a',vs',e',q',rs2⟩:=id r2;subst e e';cases rv;cases ru;obtain⟨its,rr,pl,hz⟩:=I.list (SqL.of (K:=X.K) q);obtain⟨its2,rr2,pl2,hz2⟩:=I.list (SqL.of (K:=X.K) q');have l1:=rr.length;have l2:=rr2.length;have l3:=rs1.length;have l4:=rs2.length;replace h:(if xs.length=ys.length then dg (deq 19) xs ys else aa ae)=aa b:=h;split at h
   .rename_i hlen;obtain⟨ee,he,ha⟩:=mE hlen h;refine SeqAt.RcNeAt.lists (A:=X.A) (s:=s) pl.isList pl2.isList (by simp only[size_toArray];omega) (by omega) (oe rs1 rs2 rr rr2 he hin) X.prog X.w X.xe _ ?_;rw[size_toArray,<- l1,<- l3,ha];exact fin
   .rename_i hlen;cases h;exact SeqAt.RcNeAt.lists_lengths (A:=X.A) (s:=s) pl.isList pl2.isList (by simp only[size_toArray,bne_iff_ne,ne_eq];omega) (by omega) X.prog X.w X.xe _ fin
  .by_cases ht:∃xs ys,x=.tup xs/\y=.tup ys
   .obtain⟨xs,ys,rfl,rfl⟩:=ht;obtain⟨a,vs,e,q,rs1⟩:=id r1;obtain⟨a',vs',e',q',rs2⟩:=id r2;subst e e';cases rv;cases ru;obtain⟨its,rr,pl,hz⟩:=I.tuple (SqT.of (K:=X.K) q);obtain⟨its2,rr2,pl2,hz2⟩:=I.tuple (SqT.of (K:=X.K) q');have l1:=rr.length;have l2:=rr2.length;have l3:=rs1.length;have l4:=rs2.length;replace h:(if xs.length=ys.length then dg (deq 19) xs ys else ac)=aa b:=h;split at h
    .rename_i hlen;obtain⟨ee,he,ha⟩:=mE hlen h;refine SeqAt.RcNeAt.tuples (A:=X.A) (s:=s) (show s.heap.IsTuple a its.toArray from pl) (show s.heap.IsTuple a' its2.toArray from pl2) (by omega) (oe rs1 rs2 rr rr2 he hin) X.prog X.w X.xe _ ?_;have hsz:its.toArray.size=its2.toArray.size:=by simp only[size_toArray];omega
     rw[<- hsz,Nat.min_self,beq_self_eq_true,Bool.and_true,size_toArray,<- l1,<- l3,ha];exact fin
    .cases h
   .obtain⟨hs,rfl⟩:=sL ⟨hl,ht⟩ h;obtain⟨_,_,_,hsc,e⟩:=sK hs r1 r2;exact Hq pins s σ H v u w w' Q I rv ru ⟨hsc,by rw[e];exact q0⟩
noncomputable def eqX:D->D->Bool
 |.non,.non=>ab
 |.bl a,.bl b=>a==b
 |.bl a,.int b=>(if a then 1 else 0)==b
 |.int a,.bl b=>a==(if b then 1 else 0)
 |.int a,.int b=>a==b
 |.str a,.str b=>a==b
 | _,_=>ae
noncomputable def inD(x y:D):Option Bool:=(iH y).bind λds=>if x.scalar && ds.all D.scalar then aa (ds.any λd=>eqX d x) else ac
noncomputable def oh(x y:D):OD:=(inD x y).map λb=>.bl (!b)
theorem Jr:∀x y d,oh x y=aa d->d.scalar=ab:=λ_ _ d e=>oa (g:=not) d e
theorem Js(hx:x.scalar=ab)(hy:y.scalar=ab)(r1:Rep G H x v)(r2:Rep G H y u):fX v=ab/\fX u=ab/\eqV v u=eqX x y:=by
 rcases sJ hx with rfl |⟨a,rfl⟩ |⟨a,rfl⟩ |⟨a,rfl⟩ <;> rcases sJ hy with rfl |⟨b,rfl⟩ |⟨b,rfl⟩ |⟨b,rfl⟩ <;> (cases r1;cases r2;exact⟨rfl,rfl,rfl⟩)
theorem Cs{G:Gc}{H:Hp}{x:D}{v:V}(hx:x.scalar=ab)(r:Rep G H x v):∀{ds:LD} {vs:List V},ds.all D.scalar=ab->am G H ds vs->vs.all fX=ab/\inV v vs=ds.any λd=>eqX d x
 | [],_,_,h=>by cases (show _=[]from h);exact⟨rfl,rfl⟩
 |d::ds,_,ha,q3_=>by
  obtain⟨u,r',e,h1,h2⟩:=q3_;subst e;rw[lQ,cg]at ha;obtain⟨f1,f2,e⟩:=Js ha.1 hx h1 r;obtain⟨g1,g2⟩:=Cs hx r ha.2 h2;refine⟨by rw[lQ,f1,g1];rfl,?_⟩;unfold inV at g2 ⊢;rw[gM,gM,e,g2]
theorem Jt(e:inD x y=aa b)(r1:Rep G H x v)(r2:Rep G H y u):∃p vs,u=.ref p/\(SqL G.K H p vs\/SqT G.K H p vs)/\fX v=ab/\vs.all fX=ab/\inV v vs=b:=by
 unfold inD at e
 cases es:iH y with
 |none=>rw[es]at e;cases e
 |some ds=>
  rw[es]at e;replace e:(if (x.scalar && ds.all D.scalar)=ab then aa (ds.any λd=>eqX d x) else ac)=aa b:=e;split at e
  .rename_i hc;cases e;rw[cg]at hc;obtain⟨a,vs,e1,q,r⟩:=pQ es r2;obtain⟨g1,g2⟩:=Cs hc.1 r1 hc.2 r
   have f:fX v=ab:=by cases x <;> first |(cases r1;rfl) |(cases hc.1)
   exact⟨a,vs,e1,q,f,g1,g2⟩
  .cases e
theorem Ju:OpD c X (c3 .NotIn) oh:=by
 rintro pins s σ H v u w w' Q I rv ru ⟨Hf,x,y,d,s0,r1,r2,e,k⟩;unfold oh at e
 cases h:inD x y with
 |none=>rw[h]at e;cases e
 |some b=>
  rw[h]at e;cases e;obtain⟨p,vs,e1,q,f1,f2,e2⟩:=Jt h (r1.up s0) (r2.up s0);refine Ix pins s σ H v u w w' Q I rv ru ⟨p,vs,e1,q,f1,f2,?_⟩;rw[if_pos rfl,e2];exact k _ Hf H (Ext.refl s0) rfl
theorem Jv{i:Int}(h:atI ds i=aa d)(r:am G H ds vs):∃v,atI vs i=aa v/\Rep G H d v:=by
 unfold atI at h ⊢;rw[<- r.length]
 cases e:ixN ds.length i with
 |none=>rw[e]at h;cases h
 |some j=>
  rw[e]at h;exact r.get h
noncomputable def ixD(ds:LD):D->OD
 |.int k=>atI ds k
 | _=>ac
noncomputable def mIx(f:MF2)(g:MF1)(U:LS):OD:=(f U).bind λds=>(g U).bind λi=>ixD ds i
variable{b:Expr}
theorem au{f:MF2}(ha:DC c X a f)(hb:DE c X b g)(hs:BQ b:=by exact λ_ _=>rfl):DE c X (.Subscript a b pos) (mIx f g):=
 PE.imp (Ik (Io.or Ip) ha hb hs) λσ H Q q_=>by
  obtain⟨Hf0,H0,Hf,U,d,st,ef,k⟩:=q_;unfold mIx at ef
  cases e1:f U with
  |none=>rw[e1]at ef;cases ef
  |some ds=>
   cases e2:g U with
   |none=>rw[e1,e2]at ef;cases ef
   |some i=>
    rw[e1,e2]at ef;replace ef:ixD ds i=aa d:=ef
    cases i with
    |int n=>
     replace ef:atI ds n=aa d:=ef;refine⟨Hf0,H0,Hf,U,ds,st,e1,λl vs Hf1 H1 x1 q r=>⟨Hf0,H0,Hf1,U,.int n,st.step x1,e2,λu Hf2 H2 x2 r2=>?_⟩⟩;cases (show u=V.int n from r2);obtain⟨v,ev,rv⟩:=Jv ef r;have fin:=k v Hf2 H2 (x1.trans x2) (rv.up x2.f)
     rcases q with q |q
     .exact .inl ⟨l,vs,n,v,rfl,rfl,x2.h.seq q,ev,fin⟩
     .exact .inr ⟨l,vs,n,v,rfl,rfl,x2.h.tup q,ev,fin⟩
    | _=>cases ef
noncomputable def mG(xs:LD)(lo hi:Option Int):LD:=(xs.drop (HT.sIx xs.length 0 lo)).take (HT.sIx xs.length xs.length hi-HT.sIx xs.length 0 lo)
noncomputable def lsD:D->OLD
 |.lst xs=>aa xs
 |.kl xs=>aa xs
 | _=>ac
theorem jA(e:lsD d=aa ds)(r:Rep G H d v):∃a vs,v=.ref a/\SqL G.K H a vs/\am G H ds vs:=by
 cases d with
 |lst xs=>cases e;obtain⟨a,vs,e1,q,r⟩:=r;exact⟨a,vs,e1,SqL.of q,r⟩
 |kl xs=>cases e;obtain⟨a,vs,e1,q,r⟩:=r;exact⟨a,vs,e1,q,r⟩
 | _=>cases e
def Jw(G:Gc)(f:LS->Option (Option Int)):TO:=λσ H Q=>∃Hf0 H0 Hf U i,av G Hf0 H0 Hf H σ U/\f U=aa i/\∀Hf' H',Ext Hf H Hf' H'->Q i H'
def DPt(c:Str->Addr)(X:Cx)(e:Option Expr)(f:LS->Option (Option Int)):Prop:=PO X e (Jw (Gx c X) f)
theorem sM:DPt c X ac (λ_=>aa ac):=λpins s σ H Q I q_=>by
 obtain⟨Hf0,H0,Hf,U,i,st,ef,k⟩:=q_;exact(Ie pins s σ H Q I (by cases ef;exact k Hf H (Ext.refl st.sub)))
noncomputable def mPt(f:MF1)(U:LS):Option (Option Int):=(f U).bind λd=>match d with
 |.int i=>aa (aa i)
 | _=>ac
theorem lj(h:DE c X e f):DPt c X (aa e) (mPt f):=λpins s σ H Q I q_=>by
 obtain⟨Hf0,H0,Hf,U,i,st,ef,k⟩:=q_
 exact (Ig h pins s σ H Q I (by
 unfold mPt at ef
 cases e1:f U with
 |none=>rw[e1]at ef;cases ef
 |some d=>
  rw[e1]at ef
  cases d with
  |int n=>cases ef;exact⟨Hf0,H0,Hf,U,.int n,st,e1,λv Hf' H' x r=>⟨n,r,k Hf' H' x⟩⟩
  | _=>cases ef))
noncomputable def mSl(f:MF1)(l h:LS->Option (Option Int))(U:LS):OLD:=(f U).bind λd=>(lsD d).bind λds=>(l U).bind λlo=>(h U).map λhi=>mG ds lo hi
theorem Jx(r:am G H ds vs)(lo hi:Option Int):am G H (mG ds lo hi) (k8 vs lo hi):=by
 unfold mG k8;rw[r.length];exact(r.drop _).take _
variable{p2:Pos}
theorem oi{l h:LS->Option (Option Int)}{lo hi:Option Expr}(ha:DE c X e f)(hl:DPt c X lo l)(hh:DPt c X hi h):DO c X (.Subscript e (.Slice lo hi ac p2) pos) (mSl f l h):=
 PE.imp (Ih Iw ha hl hh) λσ H Q q_=>by
  obtain⟨Hf0,H0,Hf,U,rs,st,ef,k⟩:=q_;unfold mSl at ef
  cases e1:f U with
  |none=>rw[e1]at ef;cases ef
  |some d=>
   cases e2:lsD d with
   |none=>rw[e1]at ef;replace ef:(lsD d).bind _=_:=ef;rw[e2]at ef;cases ef
   |some ds=>
    cases e3:l U with
    |none=>rw[e1]at ef;replace ef:(lsD d).bind _=_:=ef;rw[e2,e3]at ef;cases ef
    |some lo'=>
     cases e4:h U with
     |none=>rw[e1]at ef;replace ef:(lsD d).bind _=_:=ef;rw[e2,e3,e4]at ef;cases ef
     |some hi'=>
      rw[e1]at ef;replace ef:(lsD d).bind _=_:=ef;rw[e2,e3,e4]at ef;cases ef;refine⟨Hf0,H0,Hf,U,d,st,e1,λv Hf1 H1 x1 r1=>⟨Hf0,H0,Hf1,U,lo',st.step x1,e3,λHf2 H2 x2=>⟨Hf0,H0,Hf2,U,hi',(st.step x1).step x2,e4,λHf3 H3 x3=>?_⟩⟩⟩;obtain⟨a,vs,ea,q,r⟩:=jA e2 r1;subst ea;have x:=(x1.trans x2).trans x3;have y:=(x2.trans x3);refine⟨a,vs,rfl,(x1.s.trans y.h).seq q,λp hp=>?_⟩;exact k p (k8 vs lo' hi') Hf3 (upd H3 p (.lst (k8 vs lo' hi'))) (x.trans (Ext.tmp x.s hp)) (x.h.free hp) (x.s.free hp) be (Jx (r.up y.f) _ _)
def rCD(G:Gc)(m:LD->OD):List V->Hp->VK->Prop:=λvs H Q=>∃Hf ds d,aw Hf H/\am G Hf ds vs/\m ds=aa d/\∀v Hf' H',Ext Hf H Hf' H'->Rep G Hf' d v->Q v H'
abbrev mH(c:Str->Addr)(X:Cx)(f:Value)(m:LD->OD):Prop:=ia X f (rCD (Gx c X) m)
noncomputable def aB(m:LD->OD)(f:MF2)(U:LS):OD:=(f U).bind m
variable{m:LD->OD}{f:MF2}
theorem sN(h:aB m f U=aa d):∃ds,f U=aa ds/\m ds=aa d:=by
 unfold aB at h
 cases e:f U with
 |none=>rw[e]at h;cases h
 |some ds=>rw[e]at h;exact⟨ds,rfl,h⟩
variable{p:Pos}{x:Str}
theorem Jy{id:String}(hc:mH c X (.builtin id) m)(hg:Gl X x)(hm:X.mg x=ac)(hv:jq x=aa (.builtin id))(ha:DA c X (e::es) f)(hn:x ≠ "__name__":=by decide)(hdb:NDb x:=by decide)
 (he:StE X e es:=by rfl)(hpl:BkE X pos es:=by rfl):
  DE c X (.Call (.Name x p) (e::es) [] pos) (aB m f):=PE.imp (vY hc hg hm hv ha.pa hn hdb he hpl) λσ H Q q_=>by
 obtain⟨Hf0,H0,Hf,U,d,st,ef,k⟩:=q_;obtain⟨ds,e1,e2⟩:=sN ef;exact⟨Hf0,H0,Hf,U,ds,st,e1,λvs Hf' H' x r=>⟨Hf',ds,d,x.s,r,e2,λv Hf2 H2 x2 r2=>k v Hf2 H2 (x.trans x2) r2⟩⟩
theorem cB{id:String}(hc:mH c X (.builtin id) m)(hs:∀ds d,m ds=aa d->d.scalar=ab)(hg:Gl X x)(hm:X.mg x=ac)(hv:jq x=aa (.builtin id))(ha:DAB c X (e::es) f)(hn:x ≠ "__name__":=by decide)(hdb:NDb x:=by decide)
 (he:StE X e es:=by rfl)(hpl:BkE X pos es:=by rfl):
  DE c X (.Call (.Name x p) (e::es) [] pos) (aB m f):=PE.imp (vY hc hg hm hv ha.pa hn hdb he hpl) λσ H Q q_=>by
 obtain⟨Hf0,H0,Hf,U,d,st,ef,k⟩:=q_;obtain⟨ds,e1,e2⟩:=sN ef;exact⟨Hf0,H0,Hf,U,ds,st,e1,λvs Hf' H' x r=>⟨H',ds,d,aw.refl _,r,e2,λv Hf2 H2 x2 r2=>k v Hf' H2 (x.trans (Ext.grow x.s x2.h)) (r2.sc (hs _ _ e2))⟩⟩
noncomputable def eG:LD->OD
 | [.lst xs]=>aa (.int xs.length)
 | [.tup xs]=>aa (.int xs.length)
 | [.kl xs]=>aa (.int xs.length)
 | [.kt xs]=>aa (.int xs.length)
 | [.str x]=>if x.length<=16777216 then aa (.int x.length) else ac
 | _=>ac
theorem am.one(r:am G H [d] vs):∃v,vs=[v]/\Rep G H d v:=by
 obtain⟨v,r',e,h,q⟩:=r;cases (show r'=[]from q);exact⟨v,e,h⟩
theorem am.two{d':D}(r:am G H [d,d'] vs):∃v v',vs=[v,v']/\Rep G H d v/\Rep G H d' v':=by
 obtain⟨v,r',e,h,q⟩:=r;obtain⟨v',e',h'⟩:=q.one;subst e';exact⟨v,v',e,h,h'⟩
theorem Ct(e:eG ds=aa d):∃d0,ds=[d0]/\((∃xs,iH d0=aa xs/\d=.int xs.length)\/∃x,d0=.str x/\x.length<=16777216/\d=.int x.length):=by
 cases ds with
 |nil=>cases e
 |cons d0 ds=>
  cases ds with
  |cons _ _=>cases d0 <;> cases e
  |nil=>
   refine⟨d0,rfl,?_⟩
   cases d0 with
   |lst xs=>cases e;exact .inl ⟨xs,rfl,rfl⟩
   |tup xs=>cases e;exact .inl ⟨xs,rfl,rfl⟩
   |kl xs=>cases e;exact .inl ⟨xs,rfl,rfl⟩
   |kt xs=>cases e;exact .inl ⟨xs,rfl,rfl⟩
   |str x=>
    replace e:(if x.length<=16777216 then aa (D.int x.length) else ac)=aa d:=e
    by_cases h:x.length<=16777216
    .rw[if_pos h]at e;cases e;exact .inr ⟨x,rfl,h,rfl⟩
    .rw[if_neg h]at e;cases e
   | _=>cases e
theorem fZ:mH c X (.builtin "len") eG:=by
 rintro pins s σ H vs us Q I rv ⟨Hf,ds,d,s0,r,e,k⟩
 have sq:∀(d0:D) (xs:LD),ds=[d0]->iH d0=aa xs->d=.int xs.length->wpAny (model X.prog X.w) X.A (call (.builtin "len") us) (EP X pins σ Q) X.xe s:=λd0 xs ed es e0=>by
  subst ed e0;obtain⟨v,e1,r1⟩:=r.one;subst e1;obtain⟨a,ws,e2,q,rs⟩:=pQ es r1;subst e2;refine Iy pins s σ H _ us Q I rv ⟨a,ws,rfl,wy s0 q,?_⟩;rw[<- rs.length];exact k _ Hf H (Ext.refl s0) rfl
 obtain⟨d0,ed,⟨xs,e1,e2⟩ |⟨x,rfl,hl,rfl⟩⟩:=Ct e
 .exact sq d0 xs ed e1 e2
 .subst ed;obtain⟨v,e1,r1⟩:=r.one;subst e1;exact Iz pins s σ H _ us Q I rv ⟨_,by rw[show v=V.str _ from r1],by rw[dL];exact hl,k _ Hf H (Ext.refl s0) rfl⟩
theorem f6:∀ds d,eG ds=aa d->d.scalar=ab:=by
 intro ds d e
 obtain⟨d0,ed,⟨xs,e1,rfl⟩ |⟨x,rfl,hl,rfl⟩⟩:=Ct e <;> rfl
noncomputable def gZ:LD->Option (List Int)
 | []=>aa []
 |.int i::ds=>(gZ ds).map λr=>i::r
 | _=>ac
theorem Cu{G:Gc}{H:Hp}:∀{ds:LD} {ns:List Int} {vs:List V},gZ ds=aa ns->am G H ds vs->vs=ns.map V.int
 | [],_,_,e,r=>by cases e;exact r
 |.int i::ds,_,_,e,q4_=>by
  obtain⟨v,r',e',h1,h2⟩:=q4_;subst e'
  cases es:gZ ds with
  |none=>rw[gZ,es]at e;cases e
  |some ns=>
   rw[gZ,es]at e;cases e;rw[Cu es h2,show v=V.int i from h1]
   rfl
 |.non::_,_,_,e,_=>by cases e
 |.bl _::_,_,_,e,_=>by cases e
 |.str _::_,_,_,e,_=>by cases e
 |.lst _::_,_,_,e,_=>by cases e
 |.tup _::_,_,_,e,_=>by cases e
 |.kl _::_,_,_,e,_=>by cases e
 |.kt _::_,_,_,e,_=>by cases e
 |.dic _ _::_,_,_,e,_=>by cases e
 |.ins _ _ _::_,_,_,e,_=>by cases e
theorem Jz(ns:List Int):gZ (ns.map D.int)=aa ns:=by
 induction ns with
 |nil=>rfl
 |cons n ns ih=>rw[bn,gZ,ih];rfl
noncomputable def f7:LD->OD
 | [d]=>(lsD d).bind λds=>(gZ ds).map λns=>.int ns.sum
 | _=>ac
theorem mJ(hc:X.calm=ab):mH c X (.builtin "sum") f7:=by
 rintro pins s σ H vs us Q I rv ⟨Hf,ds,d,s0,r,e,k⟩;unfold f7 at e;split at e
 .rename_i d0
  cases e1:lsD d0 with
  |none=>rw[e1]at e;cases e
  |some xs=>
   cases e2:gZ xs with
   |none=>rw[e1]at e;replace e:(gZ xs).map _=_:=e;rw[e2]at e;cases e
   |some ns=>
    rw[e1]at e;replace e:(gZ xs).map _=_:=e;rw[e2]at e;cases e;obtain⟨v,ev,r1⟩:=r.one;subst ev;obtain⟨a,ws,ea,q,rs⟩:=jA e1 r1;subst ea;refine Jg hc pins s σ H _ us Q I rv ⟨a,ns,rfl,?_,k _ Hf H (Ext.refl s0) rfl⟩;rw[<- Cu e2 rs];exact s0.seq q
 .cases e
theorem mK:∀ds d,f7 ds=aa d->d.scalar=ab:=by
 intro ds d e;unfold f7 at e;split at e
 .rename_i d0
  cases e1:lsD d0 with
  |none=>rw[e1]at e;cases e
  |some xs=>
   rw[e1]at e;replace e:(gZ xs).map _=_:=e
   cases e2:gZ xs with
   |none=>rw[e2]at e;cases e
   |some ns=>rw[e2]at e;cases e;rfl
 .cases e
theorem oj(hx:jq x=aa (.type "list"))(hg:Gl X x)(hm:X.mg x=ac)(ha:DC c X e f)(hs:ba [e] X.env=(ae,eval e X.env)::ba [] X.env:=by rfl)(hn:x ≠ "__name__":=by decide)(hdb:NDb x:=by decide)
 (hpl:(c4 pos (ba [] X.env)).any (·.1)=ae:=by rfl):DO c X (.Call (.Name x p) [e] [] pos) f:=
 PE.imp (H9 IA hg hm hx (du ha c6 hs) hn hdb hs hpl) λσ H Q q_=>by
 obtain⟨Hf0,H0,Hf,U,ds,st,ef,k⟩:=q_
 exact (
  ⟨Hf0,H0,Hf,U,ds,st,ef,λa vs Hf' H' x q r=>⟨a,vs,rfl,q,λl hl=>k l vs Hf' (upd H' l (.lst vs)) (x.trans (Ext.tmp x.s hl)) (x.h.free hl) (x.s.free hl) be r⟩⟩)
noncomputable def tyN:D->Option String
 |.non=>aa "NoneType"
 |.bl _=>aa "bool"
 |.int _=>aa "int"
 |.str _=>aa "str"
 |.lst _=>aa "list"
 |.tup _=>aa "tuple"
 |.dic _ _=>aa "dict"
 | _=>ac
noncomputable def wJ(T:String)(d:D):OD:=(tyN d).map λt=>.bl (t==T || (t == "bool" && T == "int"))
theorem JA{t:String}(e:tyN d=aa t)(r:Rep G H d v):gV G.K H v (.type t):=by
 cases d with
 |non=>cases e;cases r;exact .non
 |bl b=>cases e;cases r;exact .bl b
 |int i=>cases e;cases r;exact .int i
 |str x=>cases e;cases r;exact .str x
 |lst xs=>cases e;obtain⟨a,vs,e1,q,r⟩:=r;subst e1;exact .lst q
 |tup xs=>cases e;obtain⟨a,vs,e1,q,r⟩:=r;subst e1;exact .tup q
 |dic ks xs=>cases e;obtain⟨a,vs,e1,q,l,r⟩:=r;subst e1;exact .dK q
 | _=>cases e
def pT(K:aX)(T:String):Prop:=∀t∈["NoneType","bool","int","str","list","tuple","dict"],W.kitOne K (.type t) (.type T)=aa (t==T || (t == "bool" && T == "int"))
theorem JB{t:String}(e:tyN d=aa t):t∈["NoneType","bool","int","str","list","tuple","dict"]:=by
 cases d <;> first |(cases e;decide) |cases e
noncomputable def mL(T:String)(f:MF1)(U:LS):OD:=(f U).bind (wJ T)
theorem sO{f:MF1}{T:String}{q1:Pos}{y:Str}(hk:pT X.K T)(hg:Gl X "isinstance")(hm:X.mg "isinstance"=ac)(hy:jq y=aa (.type T))(hgy:Gl X y)(hmy:X.mg y=ac)(ha:DB c X e f)
 (hs:ba [e,.Name y q1] X.env=(ae,eval e X.env)::ba [.Name y q1] X.env:=by rfl)(hs2:ba [.Name y q1] X.env=(ae,eval (.Name y q1) X.env)::ba [] X.env:=by rfl)
 (hn:y ≠ "__name__":=by decide)(hdb:(y==("__debug__":Str))=ae:=by decide)(hpl:(c4 pos (ba [.Name y q1] X.env)).any (·.1)=ae:=by rfl):
  DE c X (.Call (.Name "isinstance" p) [e,.Name y q1] [] pos) (mL T f):=
 PE.imp (vY Jh hg hm boot_isinstance (du ha (du (Gy (v:=.ty T) hgy hmy hy rfl hn hdb) c6 hs2) hs) (by decide) (by decide) hs hpl) λσ H Q q_=>by
  obtain⟨Hf0,H0,Hf,U,d,st,ef,k⟩:=q_;unfold mL at ef
  cases e1:f U with
  |none=>rw[e1]at ef;cases ef
  |some x=>
   rw[e1]at ef;replace ef:wJ T x=aa d:=ef;unfold wJ at ef
   cases e2:tyN x with
   |none=>rw[e2]at ef;cases ef
   |some t=>
    rw[e2]at ef;cases ef;exact⟨Hf0,H0,Hf,U,x,st,e1,λv Hf' H' x1 r=>⟨v,T,.type t,_,rfl,JA e2 r,hk t (JB e2),k _ Hf' H' x1 rfl⟩⟩
def tDG(G:Gc)(g:D->LS->Option LS):TG:=λv σ H Q=>∃Hf0 H0 Hf U d ρ',av G Hf0 H0 Hf H σ U/\Rep G Hf d v/\g d U=aa ρ'/\∀σ',av G Hf0 H0 Hf H σ' ρ'->Q σ' H
def JC(G:Gc)(g:LD->LS->Option LS):TGs:=λvs σ H Q=>∃Hf0 H0 Hf U ds ρ',av G Hf0 H0 Hf H σ U/\am G Hf ds vs/\g ds U=aa ρ'/\∀σ',av G Hf0 H0 Hf H σ' ρ'->Q σ' H
structure DG(c:Str->Addr)(X:Cx)(tg:Expr)(k:Nat)(g:D->LS->Option LS):Prop where
 pg:PG X tg (tDG (Gx c X) g)
 len:∀d U ρ',g d U=aa ρ'->ρ'.length=U.length
 keep:∀d U ρ' i,g d U=aa ρ'->k<=i->ρ'[i]?=U[i]?
structure DGs(c:Str->Addr)(X:Cx)(tg:LEx)(k:Nat)(g:LD->LS->Option LS):Prop where
 pg:PGs X tg (JC (Gx c X) g)
 len:∀d U ρ',g d U=aa ρ'->ρ'.length=U.length
 keep:∀d U ρ' i,g d U=aa ρ'->k<=i->ρ'[i]?=U[i]?
 many:∀ds U ρ',g ds U=aa ρ'->ds.length=tg.length
noncomputable def az(i:Nat)(d:D)(U:LS):Option LS:=aa (U.set i (.im d))
theorem Cv(h:PG X e (gU i))(hk:i<k):DG c X e k (az i):=
 ⟨PG.imp h λv σ H Q q_=>by obtain⟨Hf0,H0,Hf,U,d,ρ',st,r,eg,q⟩:=q_;cases eg;exact q _ (st.setIm r),λd U ρ' h=>by cases h;simp,λd U ρ' j h hj=>by
  cases h;rw[iV (by omega)]⟩
theorem cC(i k:Nat)(hN:X.N.Nodup)(hk:i<k:=by decide)(hi:X.N[i]?=aa x:=by rfl)(hx:Loc X.env.scope x:=by first |exact cv rfl |exact bO rfl)(hf:LcF X x:=by first |exact .inl rfl |exact .inr rfl):DG c X (.Name x pos) k (az i):=
 Cv (vI hN hi hx hf) hk
noncomputable def dE(ds:LD)(U:LS):Option LS:=match ds with
 | []=>aa U
 | _=>ac
noncomputable def bm(g:D->LS->Option LS)(h:LD->LS->Option LS)(ds:LD)(U:LS):Option LS:=match ds with
 |d::ds=>(g d U).bind λρ1=>h ds ρ1
 | []=>ac
theorem eI:DGs c X [] k dE:=by
 refine⟨PGs.imp GW λvs σ H Q q_=>?_,λd U ρ' h=>?_,λd U ρ' i h _=>?_,λd U ρ' h=>?_⟩
 .obtain⟨Hf0,H0,Hf,U,ds,ρ',st,r,eg,q⟩:=q_
  cases ds with
  |nil=>cases eg;exact⟨r,q _ st⟩
  |cons d ds=>cases eg
 .cases d with
  |nil=>cases h;rfl
  |cons a b=>cases h
 .cases d with
  |nil=>cases h;rfl
  |cons a b=>cases h
 .cases d with
  |nil=>cases h;rfl
  |cons a b=>cases h
variable{h:LD->LS->Option LS}
theorem sP{g:D->LS->Option LS}(e:bm g h ds U=aa ρ'):∃d r ρ1,ds=d::r/\g d U=aa ρ1/\h r ρ1=aa ρ':=by
 cases ds with
 |nil=>cases e
 |cons d r=>
  replace e:(g d U).bind _=_:=e
  cases e1:g d U with
  |none=>rw[e1]at e;cases e
  |some ρ1=>rw[e1]at e;exact⟨d,r,ρ1,rfl,e1,e⟩
theorem bK{g:D->LS->Option LS}(h1:DG c X e k g)(h2:DGs c X es k h)(hs:(iX (e::es) X.env).map (·.2)=iy e X.env::(iX es X.env).map (·.2):=by rfl):DGs c X (e::es) k (bm g h):=by
 refine⟨PGs.imp (GX h1.pg h2.pg hs) λvs σ H Q q_=>?_,λd U ρ' h=>?_,λd U ρ' i h hi=>?_,λd U ρ' h=>?_⟩
 .obtain⟨Hf0,H0,Hf,U,ds,ρ',st,r,eg,q⟩:=q_;obtain⟨d,dr,ρ1,rfl,e1,e2⟩:=sP eg;obtain⟨v,vr,ev,rv,rr⟩:=r;exact⟨v,vr,ev,Hf0,H0,Hf,U,d,ρ1,st,rv,e1,λσ1 st1=>⟨Hf0,H0,Hf,ρ1,dr,ρ',st1,rr,e2,q⟩⟩
 .obtain⟨d,dr,ρ1,rfl,e1,e2⟩:=sP h;rw[h2.len _ _ _ e2,h1.len _ _ _ e1]
 .obtain⟨d,dr,ρ1,rfl,e1,e2⟩:=sP h;rw[h2.keep _ _ _ _ e2 hi,h1.keep _ _ _ _ e1 hi]
 .obtain⟨d,dr,ρ1,rfl,e1,e2⟩:=sP h;rw[b9,b9,h2.many _ _ _ e2]
noncomputable def tpD:D->OLD
 |.tup xs=>aa xs
 |.kt xs=>aa xs
 | _=>ac
theorem Cw(e:tpD d=aa ds)(r:Rep G H d v):∃a vs,v=.ref a/\SqT G.K H a vs/\am G H ds vs:=by
 cases d with
 |tup xs=>cases e;obtain⟨a,vs,e1,q,r⟩:=r;exact⟨a,vs,e1,SqT.of q,r⟩
 |kt xs=>cases e;obtain⟨a,vs,e1,q,r⟩:=r;exact⟨a,vs,e1,q,r⟩
 | _=>cases e
noncomputable def dh(g:LD->LS->Option LS)(d:D)(U:LS):Option LS:=(tpD d).bind λds=>g ds U
theorem wK{g:LD->LS->Option LS}(h:dh g d U=aa ρ'):∃ds,tpD d=aa ds/\g ds U=aa ρ':=by
 unfold dh at h
 cases e:tpD d with
 |none=>rw[e]at h;cases h
 |some ds=>rw[e]at h;exact⟨ds,rfl,h⟩
variable{kk:Nat}
theorem eJ{g:LD->LS->Option LS}(hc:X.calm=ab)(h:DGs c X es k g)(hn:(iX es X.env).length=es.length:=by rfl)(hst:(iX es X.env).findIdx? (·.1)=ac:=by rfl):DG c X (.Tuple es kk pos) k (dh g):=by
 refine⟨PG.imp (GZ hc h.pg hn hst) λv σ H Q q_=>?_,λd U ρ' h'=>?_,λd U ρ' i h' hi=>?_⟩
 .obtain⟨Hf0,H0,Hf,U,d,ρ',st,r,eg,q⟩:=q_;obtain⟨ds,e1,e2⟩:=wK eg;obtain⟨a,vs,ea,qa,ra⟩:=Cw e1 r;exact⟨a,vs,ea,st.sub.tup qa,by rw[<- ra.length];exact h.many _ _ _ e2,Hf0,H0,Hf,U,ds,ρ',st,ra,e2,q⟩
 .obtain⟨ds,e1,e2⟩:=wK h';exact h.len _ _ _ e2
 .obtain⟨ds,e1,e2⟩:=wK h';exact h.keep _ _ _ _ e2 hi
def pU(G:Gc)(Hf:Hp)(J:It)(ds:LD):Prop:=∀Hf' H',aw Hf Hf'->aw Hf' H'->∀i:Nat,
 (∀d,ds[i]?=aa d->J.go i H'/\∀x H2,J.yld i H' x H2->∃Hf2,Ext Hf' H' Hf2 H2/\Rep G Hf2 d x)/\(i=ds.length->J.stop i H')
def sQ(G:Gc)(Hf H:Hp)(J:It)(ds:LD):Prop:=∀Hf' H',Ext Hf H Hf' H'->∀i:Nat,
 (∀d,ds[i]?=aa d->J.go i H'/\∀x H2,J.yld i H' x H2->∃Hf2,Ext Hf' H' Hf2 H2/\Rep G Hf2 d x)/\(i=ds.length->J.stop i H')
theorem pU.toE(h:pU G Hf J ds):sQ G Hf H J ds:=λHf' H' x i=>h Hf' H' x.f x.s i
def tDI(G:Gc)(f:MF2):TI:=λσ H R=>∃Hf0 H0 Hf U ds,av G Hf0 H0 Hf H σ U/\f U=aa ds/\∀J Hf' H',Ext Hf H Hf' H'->pU G Hf' J ds->R J H'
def Cy(G:Gc)(f:MF2):TI:=λσ H R=>∃Hf0 H0 Hf U ds,av G Hf0 H0 Hf H σ U/\f U=aa ds/\∀J Hf' H',Ext Hf H Hf' H'->sQ G Hf' H' J ds->R J H'
def DI(c:Str->Addr)(X:Cx)(tg iter:Expr)(f:MF2):Prop:=PI X tg iter (tDI (Gx c X) f)
def DIe(c:Str->Addr)(X:Cx)(tg iter:Expr)(f:MF2):Prop:=PI X tg iter (Cy (Gx c X) f)
theorem DI.de(h:DI c X tg e f):DIe c X tg e f:=PI.imp h λσ H R q_=>by
 obtain⟨Hf0,H0,Hf,U,ds,st,ef,k⟩:=q_;exact(⟨Hf0,H0,Hf,U,ds,st,ef,λJ Hf' H' x i=>k J Hf' H' x i.toE⟩)
theorem Cz(q:SqL G.K H l vs)(r:am G Hf ds vs):sQ G Hf H (Itl G.K l) ds:=λHf' H' xx i=>by
 have q':SqL G.K H' l vs:=xx.h.seq q;refine⟨λd ed=>?_,λei=>⟨vs,q',by rw[<- r.length,ei];exact aL _⟩⟩;obtain⟨v,ev,rv⟩:=r.get ed;refine⟨⟨vs,v,q',ev⟩,λx H2 ⟨e2,y⟩=>?_⟩;subst e2;have:=y vs q';rw[ev]at this;cases this;exact⟨Hf',Ext.refl xx.s,rv.up xx.f⟩
theorem JD(q:SqT G.K Hf l vs)(r:am G Hf ds vs):pU G Hf (Itt G.K l) ds:=λHf' H' f s i=>by
 have q':SqT G.K H' l vs:=(f.trans s).tup q;refine⟨λd ed=>?_,λei=>⟨vs,q',by rw[<- r.length,ei];exact aL _⟩⟩;obtain⟨v,ev,rv⟩:=r.get ed;refine⟨⟨vs,v,q',ev⟩,λx H2 ⟨e2,y⟩=>?_⟩;subst e2;have:=y vs q';rw[ev]at this;cases this;exact⟨Hf',Ext.refl s,rv.up f⟩
theorem bh{f:MF1}(h:DE c X e f):DI c X tg e (aP f):=λpins s σ H R I q_=>by
 obtain⟨Hf0,H0,Hf,U,ds,st,ef,k⟩:=q_;unfold aP at ef
 cases e1:f U with
 |none=>rw[e1]at ef;cases ef
 |some d=>
  rw[e1]at ef;replace ef:iH d=aa ds:=ef;have un:∀{l:Addr} {H':Hp} {us vs:List V},SqL X.K H' l us->SqL X.K H' l vs->us=vs\/True:=λ_ _=>.inr trivial
  cases e2:lsD d with
  |some ds'=>
   have:ds'=ds:=by cases d <;> first |(cases e2;done) |(cases e2;cases ef;rfl)
   subst this;refine vM h pins s σ H R I ⟨Hf0,H0,Hf,U,d,st,e1,λv Hf' H' x r=>?_⟩;obtain⟨a,vs,ea,q,rs⟩:=jA e2 r
   exact⟨a,ea,⟨vs,x.s.seq q⟩,k _ Hf' H' x λHf2 H2 f2 s2 i=>by
    have q':SqL X.K H2 a vs:=(f2.trans s2).seq q;refine⟨λd ed=>?_,λei=>⟨vs,q',by rw[<- rs.length,ei];exact aL _⟩⟩;obtain⟨v,ev,rv⟩:=rs.get ed;refine⟨⟨vs,v,q',ev⟩,λx H3 ⟨e3,y⟩=>?_⟩;subst e3;have:=y vs q';rw[ev]at this;cases this
    exact⟨Hf2,Ext.refl s2,rv.up f2⟩⟩
  |none=>
   have e3:tpD d=aa ds:=by cases d <;> first |(cases e2;done) |(cases ef;done) |(cases ef;rfl)
   refine G9 h pins s σ H R I ⟨Hf0,H0,Hf,U,d,st,e1,λv Hf' H' x r=>?_⟩;obtain⟨a,vs,ea,q,rs⟩:=Cw e3 r;exact⟨a,ea,⟨vs,x.s.tup q⟩,k _ Hf' H' x (JD q rs)⟩
noncomputable def rng(lo:Int)(n:Nat):LD:=(bF n).map λ(i:Nat)=>.int (lo+i)
theorem JE{lo:Int}:pU G Hf (Itr lo n) (rng lo n):=λHf' H' f s i=>by
 refine⟨λd ed=>?_,λei=>?_⟩
 .unfold rng at ed;rw[cD]at ed
  cases e:(bF n)[i]? with
  |none=>rw[e]at ed;cases ed
  |some j=>
   rw[e]at ed;obtain⟨hi,ej⟩:=dH.mp e;rw[cX]at hi;rw[List.getElem_range]at ej;subst ej;cases ed;exact⟨hi,λx H2 ⟨e2,y⟩=>by subst e2;exact⟨Hf',Ext.refl s,y⟩⟩
 .unfold rng at ei;rw[aH,cX]at ei;exact Nat.le_of_eq ei.symm
noncomputable def wL:LD->OLD
 | [.int j]=>if -(2 ^ 62)<=j/\j<2 ^ 62 then aa (rng 0 j.toNat) else ac
 | [.int i,.int j]=>if -(2 ^ 62)<=i/\i<2 ^ 62/\-(2 ^ 62)<=j/\j<2 ^ 62 then aa (rng i (j-i).toNat) else ac
 | _=>ac
noncomputable def g4(f:MF2)(U:LS):OLD:=(f U).bind wL
theorem lq(hg:Gl X "range")(hm:X.mg "range"=ac)(ha:DA c X [a] f)(hs:ba [a] X.env=[(ae,eval a X.env)]:=by rfl):DI c X tg (.Call (.Name "range" p) [a] [] pos) (g4 f):=
 PI.imp (Hc hg hm ha.pa hs) λσ H R q_=>by
  obtain⟨Hf0,H0,Hf,U,ds,st,ef,k⟩:=q_;unfold g4 at ef
  cases e1:f U with
  |none=>rw[e1]at ef;cases ef
  |some as=>
   rw[e1]at ef;replace ef:wL as=aa ds:=ef;have hl:=ha.len U as e1;refine⟨Hf0,H0,Hf,U,as,st,e1,λvs Hf' H' x r=>?_⟩;unfold wL at ef;split at ef
   .split at ef
    .rename_i j hj;cases ef;obtain⟨v,ev,rv⟩:=r.one;cases (show v=V.int j from rv);exact⟨j,ev,hj.1,hj.2,k _ Hf' H' x JE⟩
    .cases ef
   .cases hl
   .cases ef
noncomputable def wM:LD->OLD
 | [x,y]=>(lsD x).bind λxs=>(lsD y).map λys=>np (λa b=>.tup [a,b]) xs ys
 | _=>ac
noncomputable def sR(f:MF2)(U:LS):OLD:=(f U).bind wM
theorem JF(hg:Gl X "zip")(hm:X.mg "zip"=ac)(ha:DA c X [a,b] f)(hs:ba [a,b] X.env=[(ae,eval a X.env),(ae,eval b X.env)]:=by rfl)(hs2:ba [b] X.env=[(ae,eval b X.env)]:=by rfl):
  DI c X (.Tuple elts kx tpos) (.Call (.Name "zip" p) [a,b] [] pos) (sR f):=
 PI.imp (Jl hg hm ha.pa hs hs2) λσ H R q_=>by
  obtain⟨Hf0,H0,Hf,U,ds,st,ef,k⟩:=q_;unfold sR at ef
  cases e1:f U with
  |none=>rw[e1]at ef;cases ef
  |some as=>
   rw[e1]at ef;replace ef:wM as=aa ds:=ef;refine⟨Hf0,H0,Hf,U,as,st,e1,λvs Hf' H' x r=>?_⟩;unfold wM at ef;split at ef
   .rename_i dx dy
    cases ex:lsD dx with
    |none=>rw[ex]at ef;cases ef
    |some xs=>
     rw[ex]at ef;replace ef:(lsD dy).map _=_:=ef
     cases ey:lsD dy with
     |none=>rw[ey]at ef;cases ef
     |some ys=>
      rw[ey]at ef;cases ef;obtain⟨v,v',ev,rv,rv'⟩:=r.two;obtain⟨l1,w1,el1,q1,r1⟩:=jA ex rv;obtain⟨l2,w2,el2,q2,r2⟩:=jA ey rv';subst el1 el2;refine⟨l1,l2,ev,⟨w1,x.s.seq q1⟩,⟨w2,x.s.seq q2⟩,k _ Hf' H' x λHf2 H2 f2 s2 i=>?_⟩;have g1:SqL X.K H2 l1 w1:=(f2.trans s2).seq q1;have g2:SqL X.K H2 l2 w2:=(f2.trans s2).seq q2;have h1:=r1.length;have h2:=r2.length;refine⟨λd ed=>?_,λei=>⟨w1,w2,g1,g2,?_⟩⟩
      .rw[List.getElem?_zipWith]at ed
       cases hx:xs[i]? with
       |none=>rw[hx]at ed;cases ed
       |some x'=>
        cases hy:ys[i]? with
        |none=>rw[hx,hy]at ed;cases ed
        |some y'=>
         rw[hx,hy]at ed;cases ed;obtain⟨u1,eu1,ru1⟩:=r1.get hx;obtain⟨u2,eu2,ru2⟩:=r2.get hy;refine⟨⟨w1,w2,u1,u2,g1,g2,eu1,eu2⟩,λz H3 ⟨pp,z1,z2,ez,hp,eh,y1,y2⟩=>?_⟩;subst ez eh;have a1:=y1 w1 g1;have a2:=y2 w2 g2;rw[eu1]at a1;cases a1;rw[eu2]at a2;cases a2;exact⟨upd Hf2 pp (.tup [u1,u2]),Ext.new s2 hp,pp,[u1,u2],rfl,be,.cons (ru1.up (f2.trans (bR (s2.free hp)))) (.cons (ru2.up (f2.trans (bR (s2.free hp)))) .nil)⟩
      .rw[length_zipWith]at ei
       by_cases hh:xs.length<=ys.length
       .exact .inl (by omega)
       .exact .inr (by omega)
   .cases ef
noncomputable def dZ(k:Nat)(js:LN)(U:LS):LS:=gK k .no++js.map λj=>(U[j]?).getD .no
theorem av.weak(h:av G Hf0 H0 Hf H σ U)(hl:ρ'.length=U.length)(hw:∀(i:Nat) (s:Sl),ρ'[i]?=aa s->s=.no\/U[i]?=aa s):av G Hf0 H0 Hf H σ ρ':=by
 refine h.re h.ext hl (λi v s a b=>?_) λi s v a b c p=>?_
 .rcases hw i s b with e |e
  .subst e;trivial
  .exact h.at' i v s a e
 .rcases hw i s b with e |e
  .subst e;exact(p.calm rfl).elim
  .exact⟨s,e,p⟩
theorem sS{α:Type}{x:α}{l:List α}{y:α}(h:(gK k x++l)[i]?=aa y):(i<k/\y=x)\/(k<=i/\l[i-k]?=aa y):=by
 by_cases hi:i<k
 .left;rw[kM (by simpa using hi),rm,if_pos hi]at h;exact⟨hi,(cF h).symm⟩
 .right;rw[kL (by simpa using pq hi),nj]at h;exact⟨pq hi,h⟩
theorem mM{α β:Type}{f:α->β}{l:List α}{y:β}(h:(l.map f)[i]?=aa y):∃x,l[i]?=aa x/\y=f x:=by
 rw[cD]at h
 cases e:l[i]? with
 |none=>rw[e]at h;cases h
 |some x=>rw[e]at h;exact⟨x,rfl,(cF h).symm⟩
theorem JG(h:js.Nodup){x:Nat}(a:js[i]?=aa x)(b:js[j]?=aa x):i=j:=by
 obtain⟨h1,e1⟩:=dH.mp a;obtain⟨h2,e2⟩:=dH.mp b;exact(List.getElem_inj h).mp (e1.trans e2.symm)
theorem av.comp(k:Nat)(h:av G Hf0 H0 Hf H σ U)(hj:js.Nodup):av G Hf0 H0 Hf H (i8 k js σ) (dZ k js U):=by
 have own:∀(i:Nat) (s:Sl),(dZ k js U)[i]?=aa s->s.calm=ae->∃j,k<=i/\js[i-k]?=aa j/\U[j]?=aa s:=λi s a hs=>by
  rcases sS a with⟨_,e⟩ |⟨hi,a⟩
  .subst e;cases hs
  .obtain⟨j,ej,es⟩:=mM a
   cases e:U[j]? with
   |none=>rw[e]at es;subst es;cases hs
   |some t=>rw[e]at es;replace es:s=t:=es;subst es;exact⟨j,hi,ej,e⟩
 have val:∀(i:Nat) (v:Option V) (j:Nat),(i8 k js σ)[i]?=aa v->k<=i->js[i-k]?=aa j->v=(σ[j]?).getD ac:=λi v j a hi ej=>by
  rcases sS a with⟨hi',_⟩ |⟨_,a⟩
  .omega
  .obtain⟨j',ej',es⟩:=mM a;rw[ej]at ej';cases ej';exact es
 refine⟨h.ext,by simp[i8,dZ],λi v s a b=>?_,λi j s t y z l a b c d p q=>?_⟩
 .rcases sS b with⟨_,e⟩ |⟨hi,b⟩
  .subst e;trivial
  .obtain⟨j,ej,es⟩:=mM b;have ev:=val i v j a hi ej
   cases e:U[j]? with
   |none=>rw[e]at es;subst es;trivial
   |some t=>
    rw[e]at es;replace es:s=t:=es;subst es;obtain⟨u,eu,q⟩:=h.slot e;rw[eu]at ev;replace ev:v=u:=ev;subst ev;exact q
 .have hs:s.calm=ae:=by
   cases hc:s.calm with
   |true=>exact(p.calm hc).elim
   |false=>rfl
  have ht:t.calm=ae:=by
   cases hc:t.calm with
   |true=>exact(q.calm hc).elim
   |false=>rfl
  obtain⟨i',hi,ei,e1⟩:=own i s a hs;obtain⟨j',hj',ej,e2⟩:=own j t b ht;have v1:=val i _ i' c hi ei;have v2:=val j _ j' d hj' ej;obtain⟨u1,eu1,_⟩:=h.slot e1;obtain⟨u2,eu2,_⟩:=h.slot e2;rw[eu1]at v1;rw[eu2]at v2;replace v1:aa y=u1:=v1;replace v2:aa z=u2:=v2;subst v1 v2;have:=h.dj i' j' s t y z l e1 e2 eu1 eu2 p q;subst this;have:=JG hj ei ej;omega
noncomputable def fm(h:D->Option OD):LD->OLD
 | []=>aa []
 |d::ds=>(h d).bind λo=>(fm h ds).map λr=>match o with
  |some y=>y::r
  |none=>r
theorem JH{h:D->Option OD}{r:LD}(e:fm h (d::ds)=aa r):∃o r',h d=aa o/\fm h ds=aa r'/\r=(match o with |some y=>y::r' |none=>r'):=by
 unfold fm at e
 cases e1:h d with
 |none=>rw[e1]at e;cases e
 |some o=>
  cases e2:fm h ds with
  |none=>rw[e1,e2]at e;cases e
  |some r'=>
   rw[e1,e2]at e;cases e;refine⟨o,r',rfl,rfl,?_⟩
   cases o <;> rfl
noncomputable def fJ(g:D->LS->Option LS)(ft:MF4)(fe:MF1)(U:LS)(d:D):Option OD:=(g d U).bind λρ1=>(ft ρ1).bind λb=>if b then (fe ρ1).map aa else aa ac
noncomputable def aU(k:Nat)(js:LN)(fi:MF2)(g:D->LS->Option LS)(ft:MF4)(fe:MF1)(U:LS):OLD:=
 (fi U).bind λds=>if ds.length<=16777216 then fm (fJ g ft fe (dZ k js U)) ds else ac
theorem wN{α:Type}{l:List α}(h:i<l.length):∃x,l[i]?=aa x/\l.drop i=x::l.drop (i+1):=⟨l[i],by simp[h],(drop_eq_getElem_cons h)⟩
def DTs(c:Str->Addr)(X:Cx)(ifs:LEx)(f:MF4):Prop:=PTs X ifs (tDT (Gx c X) f)
theorem c8:DTs c X [] kY:=PTs.imp Jc λσ H Q q_=>by
 obtain⟨Hf0,H0,Hf,U,b,st,ef,k⟩:=q_;exact(by cases ef;exact k Hf H (Ext.refl st.sub))
theorem f8{f:MF4}(h:DT c X e f):DTs c X [e] f:=Jd h
variable{g:D->LS->Option LS}{ft:MF4}{fe:MF1}{rs:LD}
theorem CA(hj:js.Nodup)(hk:∀d U ρ' i,g d U=aa ρ'->k<=i->ρ'[i]?=U[i]?)(hlen:∀d U ρ',g d U=aa ρ'->ρ'.length=U.length){ti:TI}(st:av G Hf0 H0 Hf H σ U)
 (hti:∀R:It->Hp->Prop,(∀J Hf1 H1,Ext Hf H Hf1 H1->sQ G Hf1 H1 J ds->R J H1)->ti σ H R)(hz:ds.length<=16777216)(ef:fm (fJ g ft fe (dZ k js U)) ds=aa rs)
 (kq:∀l vs Hf' H',Ext Hf H Hf' H'->H l=ac->Hf' l=ac->H' l=aa (.lst vs)->am G Hf' rs vs->Q (.ref l) H'):nW k js ti (tDG G g) (tDT G ft) (tD G fe) σ H Q:=by
 refine hti _ λJ Hf1 H1 x1 it=>?_
 refine⟨λi m ys σ' H'=>m=ds.length-i/\i<=ds.length/\∃Hf' as rest,Ext Hf1 H1 Hf' H'/\av G Hf0 H0 Hf' H' σ' (dZ k js U)/\am G Hf' as ys/\fm (fJ g ft fe (dZ k js U)) (ds.drop i)=aa rest/\rs=as++rest/\as.length<=i,
  ⟨ds.length,rfl,da _,Hf1,[],rs,Ext.refl x1.s,(st.step x1).comp k hj,rfl,ef,rfl,aL _⟩,?_⟩
 rintro i m ys σ' H' ⟨rfl,hi,Hf',as,rest,x2,st2,ra,ec,er,hal⟩;have hys:ys.length<=aS:=by rw[dL,<- ra.length];omega
 obtain⟨it1,it2⟩:=it Hf' H' x2 i
 by_cases hlt:i<ds.length
 .obtain⟨d,ed,edr⟩:=wN hlt;obtain⟨go,yl⟩:=it1 d ed
  refine .inr ⟨go,hys,λys' σ2 H2=>ds.length-(i+1)=ds.length-(i+1)/\i+1<=ds.length/\∃Hf' as rest,Ext Hf1 H1 Hf' H2/\av G Hf0 H0 Hf' H2 σ2 (dZ k js U)/\am G Hf' as ys'/\fm (fJ g ft fe (dZ k js U)) (ds.drop (i+1))=aa rest/\rs=as++rest/\as.length<=i+1,
   λys' σ2 H2 w=>⟨ds.length-(i+1),by omega,w⟩,λx H2 y=>?_⟩
  obtain⟨Hf2,x3,rx⟩:=yl x H2 y;rw[edr]at ec;obtain⟨o,r',eo,ec',erest⟩:=JH ec;unfold fJ at eo
  cases eg:g d (dZ k js U)with
  |none=>rw[eg]at eo;cases eo
  |some ρ1=>
   rw[eg]at eo;replace eo:(ft ρ1).bind _=_:=eo
   cases et:ft ρ1 with
   |none=>rw[et]at eo;cases eo
   |some b=>
    rw[et]at eo;replace eo:(if b=ab then (fe ρ1).map aa else aa ac)=aa o:=eo;refine⟨Hf0,H0,Hf2,dZ k js U,d,ρ1,st2.step x3,rx,eg,λσ3 st3=>⟨Hf0,H0,Hf2,ρ1,b,st3,et,λHf4 H4 x4=>?_⟩⟩
    have back:∀{Hf5 H5:Hp},av G Hf0 H0 Hf5 H5 σ3 ρ1->av G Hf0 H0 Hf5 H5 σ3 (dZ k js U):=λ{Hf5 H5} s5=>s5.weak (hlen _ _ _ eg).symm λj s hs=>by
     rcases sS hs with⟨_,e⟩ |⟨hj',_⟩
     .exact .inl e
     .exact .inr (by rw[hk _ _ _ _ eg hj'];exact hs)
    cases b with
    |true=>
     rw[if_pos rfl]at eo;refine wf ?_
     cases ee:fe ρ1 with
     |none=>rw[ee]at eo;cases eo
     |some y'=>
      rw[ee]at eo;cases eo;refine⟨Hf0,H0,Hf4,ρ1,y',st3.step x4,ee,λv Hf5 H5 x5 r5=>?_⟩;have x:=(x3.trans x4).trans x5;refine⟨rfl,hlt,Hf5,as++[y'],r',x2.trans x,back ((st3.step x4).step x5),(ra.up x.f).append (.cons r5 .nil),ec',?_,by rw[a9,fD];omega⟩;rw[er,erest,fQ]
      rfl
    |false=>
     rw[if_neg bd]at eo;refine we ?_;cases eo;have x:=x3.trans x4;exact⟨rfl,hlt,Hf4,as,r',x2.trans x,back (st3.step x4),ra.up x.f,ec',by rw[er,erest],by omega⟩
 .have ei:i=ds.length:=by omega
  subst ei;refine .inl ⟨it2 rfl,hys,λl h1 h2=>?_⟩;rw[drop_eq_nil_of_le (aL _)]at ec;cases ec;rw[cr]at er;subst er;have x:=x1.trans x2;exact kq l ys Hf' (upd H' l (.lst ys)) (x.trans (Ext.tmp x.s h2)) (x.h.free h2) (x.s.free h2) be ra
variable{fi:MF2}
theorem wO(hj:js.Nodup)(hk:∀d U ρ' i,g d U=aa ρ'->k<=i->ρ'[i]?=U[i]?)(hlen:∀d U ρ',g d U=aa ρ'->ρ'.length=U.length)(h:tDO G (aU k js fi g ft fe) σ H Q):
  nW k js (Cy G fi) (tDG G g) (tDT G ft) (tD G fe) σ H Q:=by
 obtain⟨Hf0,H0,Hf,U,rs,st,ef,kq⟩:=h;unfold aU at ef
 cases e1:fi U with
 |none=>rw[e1]at ef;cases ef
 |some ds=>
  rw[e1]at ef;replace ef:(if ds.length<=16777216 then fm (fJ g ft fe (dZ k js U)) ds else ac)=aa rs:=ef
  by_cases hz:ds.length<=16777216
  .rw[if_pos hz]at ef;exact CA hj hk hlen st (λR q=>⟨Hf0,H0,Hf,U,ds,st,e1,λJ Hf1 H1 x1 it=>q J Hf1 H1 x1 it⟩) hz ef kq
  .rw[if_neg hz]at ef;cases ef
theorem bV(k:Nat)(js:LN)(Nc:LSt)(hc:X.calm=ab)(hi:DIe c X tg iter fi)(hg:∀cl C ex s₂ H₂,DG c (X.comp scope Nc cl C ex s₂ H₂) tg k g)(ht:∀cl C ex s₂ H₂,DTs c (X.comp scope Nc cl C ex s₂ H₂) ifs ft)
 (he:∀cl C ex s₂ H₂,DE c (X.comp scope Nc cl C ex s₂ H₂) elt fe)(ck:mr scope X.env.scope.names X.N Nc k js=ab:=by rfl)(hs:∀x,lW iter X.env x=pure x:=by intro _;rfl)(hj:js.Nodup:=by decide):
  DO c X (.ListComp elt [⟨tg,iter,ifs,0⟩] scope pos) (aU k js fi g ft fe):=
 PE.imp (Jf (g:=tDG (Gx c X) g) (tt:=tDT (Gx c X) ft) (te:=tD (Gx c X) fe) k js Nc hc hi (λcl C ex s₂ H₂=>(hg cl C ex s₂ H₂).pg) ht he ck hs) λσ H Q h=>
  wO hj (hg [] 0 [] X.s₀ X.H₀).keep (hg [] 0 [] X.s₀ X.H₀).len h
theorem dvc(i:Nat)(hN:Nc[i]?=aa x:=by rfl)(hv:Vis scope x:=by first |exact cv rfl |exact bO (cv rfl) |exact bO (bO rfl))(hd:NDb x:=by decide)
 (hcd:NCd x:=by decide):DE c (X.comp scope Nc cl C ex s₂ H₂) (.Name x pos) (af i):=Ch (pvc i hN hv hd hcd)
theorem CB(i:Nat)(hN:Nc[i]?=aa x:=by rfl)(hv:Vis scope x:=by first |exact cv rfl |exact bO (cv rfl) |exact bO (bO rfl))(hd:NDb x:=by decide)
 (hcd:NCd x:=by decide):DB c (X.comp scope Nc cl C ex s₂ H₂) (.Name x pos) (gu i):=Cj (pvc i hN hv hd hcd)
theorem d3(i:Nat)(hN:Nc[i]?=aa x:=by rfl)(hv:Vis scope x:=by first |exact cv rfl |exact bO (cv rfl) |exact bO (bO rfl))(hd:NDb x:=by decide)
 (hcd:NCd x:=by decide):DC c (X.comp scope Nc cl C ex s₂ H₂) (.Name x pos) (ao i):=Ci (pvc i hN hv hd hcd)
theorem dgc(i k:Nat)(hk:i<k:=by decide)(hN:Nc.Nodup:=by decide +kernel)(hi:Nc[i]?=aa x:=by rfl)(hl:scope.names.lookup x=aa .local:=by rfl):DG c (X.comp scope Nc cl C ex s₂ H₂) (.Name x pos) k (az i):=
 Cv (pgc i hN hi hl) hk
inductive Fl where
 |nx (U:LS)
 |bk (U:LS)
 |ct (U:LS)
 |rt (d:D)
 |rtO (ds:LD)
 |rtS (d:D) (U:LS)
 |rtT (o:O)
abbrev MF3:=LS->Option Fl
def sT(G:Gc)(Hf0 H0 Hf:Hp)(E:jx):Fl->Prop
 |.nx ρ'=>∀σ' Hf' H',aw Hf Hf'->av G Hf0 H0 Hf' H' σ' ρ'->E.nx σ' H'
 |.bk ρ'=>∀σ' Hf' H',aw Hf Hf'->av G Hf0 H0 Hf' H' σ' ρ'->E.bk σ' H'
 |.ct ρ'=>∀σ' Hf' H',aw Hf Hf'->av G Hf0 H0 Hf' H' σ' ρ'->E.ct σ' H'
 |.rt d=>∀v Hf' H',Ext Hf0 H0 Hf' H'->Rep G Hf' d v->E.rt v H'
 |.rtO ds=>∀l vs Hf' H',Ext Hf0 H0 Hf' H'->H0 l=ac->Hf' l=ac->H' l=aa (.lst vs)->am G Hf' ds vs->E.rt (.ref l) H'
 |.rtS d U=>∀v σ' Hf' H',av G Hf0 H0 Hf' H' σ' U->Rep G Hf' d v->E.rt v H'
 |.rtT o=>∀u fp Hf' H',Ext Hf0 H0 Hf' H'->OT G Hf' H' o u fp->fp.Nodup->(∀a∈fp,H0 a=ac/\Hf' a=ac)->E.rt u H'
def tDS(G:Gc)(F:MF3):TS:=λE σ H=>∃Hf0 H0 Hf U o,av G Hf0 H0 Hf H σ U/\F U=aa o/\sT G Hf0 H0 Hf E o
def DS(c:Str->Addr)(X:Cx)(st:Stmt)(F:MF3):Prop:=PS X st (tDS (Gx c X) F)
def DSs(c:Str->Addr)(X:Cx)(st:List Stmt)(F:MF3):Prop:=PSs X st (tDS (Gx c X) F)
noncomputable def bL(U:LS):Option Fl:=aa (.nx U)
noncomputable def ar(F F':MF3)(U:LS):Option Fl:=(F U).bind λo=>match o with
 |.nx ρ'=>F' ρ'
 |o=>aa o
noncomputable def bo(t:MF4)(F F':MF3)(U:LS):Option Fl:=(t U).bind λb=>if b then F U else F' U
noncomputable def bz(i:Nat)(f:MF1)(U:LS):Option Fl:=(f U).map λd=>.nx (U.set i (.im d))
noncomputable def eR(i:Nat)(f:MF2)(U:LS):Option Fl:=(f U).map λd=>.nx (U.set i (.own d))
noncomputable def aY(f:MF1)(U:LS):Option Fl:=(f U).map .rt
noncomputable def dz(f:MF2)(U:LS):Option Fl:=(f U).map .rtO
noncomputable def g5(i:Nat)(U:LS):Option Fl:=match U[i]? with
 |some (.im d)=>aa (.rt d)
 |some (.own xs)=>aa (.rtO xs)
 | _=>ac
noncomputable def iI(g:D->LS->Option LS)(F:MF3):LD->MF3
 | [],U=>aa (.nx U)
 |d::ds,U=>(g d U).bind λρ1=>(F ρ1).bind λo=>match o with
  |.nx ρ2=>iI g F ds ρ2
  |.ct ρ2=>iI g F ds ρ2
  |.bk ρ2=>aa (.nx ρ2)
  |.rt d=>aa (.rt d)
  |.rtO d=>aa (.rtO d)
  |.rtS d ρ2=>aa (.rtS d ρ2)
  |.rtT o=>aa (.rtT o)
noncomputable def cJ(fi:MF2)(g:D->LS->Option LS)(F:MF3)(U:LS):Option Fl:=(fi U).bind λds=>iI g F ds U
noncomputable def ie(t:MF4)(F:MF3):Nat->MF3
 | 0,_=>ac
 |n+1,U=>(t U).bind λb=>if b then (F U).bind λo=>match o with
   |.nx ρ2=>ie t F n ρ2
   |.ct ρ2=>ie t F n ρ2
   |.bk ρ2=>aa (.nx ρ2)
   |.rt d=>aa (.rt d)
   |.rtO d=>aa (.rtO d)
   |.rtS d ρ2=>aa (.rtS d ρ2)
   |.rtT o=>aa (.rtT o)
  else aa (.nx U)
noncomputable def wP(i:Nat)(U:LS):LS:=match U[i]? with
 |some (.own xs)=>U.set i (.im (.lst xs))
 |some (.ownd ks xs)=>U.set i (.im (.dic ks xs))
 |some (.obj c ns xs)=>U.set i (.im (.ins c ns xs))
 | _=>U
noncomputable def gy(i:Nat)(F:MF3)(U:LS):Option Fl:=F (wP i U)
noncomputable def gz(i:Nat)(f:MF1)(U:LS):Option Fl:=(f U).bind λd=>match U[i]? with
 |some (.own xs)=>if xs.length<16777216 then aa (.nx (U.set i (.own (xs++[d])))) else ac
 | _=>ac
noncomputable def pV(f:MF1)(U:LS):OLD:=(f U).bind λd=>match d with
 |.lst xs=>aa xs
 | _=>ac
noncomputable def pW(i:Nat)(f:MF2)(U:LS):Option Fl:=(f U).bind λds=>match U[i]? with
 |some (.own xs)=>if xs.length+ds.length<=16777216 then aa (.nx (U.set i (.own (xs++ds)))) else ac
 | _=>ac
theorem bP:DSs c X [] bL:=PSs.imp Bp λE σ H q_=>by
 obtain⟨Hf0,H0,Hf,U,o,so,ef,k⟩:=q_;exact(by cases ef;exact k σ Hf H (aw.refl _) so)
theorem sT.up{E:jx}{o:Fl}(h:sT G Hf0 H0 Hf E o)(s:aw Hf Hf'):sT G Hf0 H0 Hf' E o:=by
 cases o with
 |nx U=>exact λσ' Hf2 H2 s2 q=>h σ' Hf2 H2 (s.trans s2) q
 |bk U=>exact λσ' Hf2 H2 s2 q=>h σ' Hf2 H2 (s.trans s2) q
 |ct U=>exact λσ' Hf2 H2 s2 q=>h σ' Hf2 H2 (s.trans s2) q
 |rt d=>exact h
 |rtO d=>exact h
 |rtS d U=>exact h
 |rtT o=>exact h
variable{st:Stmt}{sts:List Stmt}{F F':MF3}
theorem ax(h1:DS c X st F)(h2:DSs c X sts F'):DSs c X (st::sts) (ar F F'):=PSs.imp (rX h1 h2) λE σ H q_=>by
 obtain⟨Hf0,H0,Hf,U,o,so,ef,k⟩:=q_;unfold ar at ef
 cases e1:F U with
 |none=>rw[e1]at ef;cases ef
 |some o1=>
  rw[e1]at ef;refine⟨Hf0,H0,Hf,U,o1,so,e1,?_⟩
  cases o1 with
  |nx ρ1=>exact λσ1 Hf1 H1 s1 so1=>⟨Hf0,H0,Hf1,ρ1,o,so1,ef,k.up s1⟩
  |bk ρ1=>cases ef;exact k
  |ct ρ1=>cases ef;exact k
  |rt d=>cases ef;exact k
  |rtO d=>cases ef;exact k
  |rtS d ρ1=>cases ef;exact k
  |rtT o'=>cases ef;exact k
theorem aq(h1:DS c X st F):DSs c X [st] F:=Bq h1
variable{a b:List Stmt}{t:MF4}
theorem bM(hc:DT c X cd t)(ha:DSs c X a F)(hb:DSs c X b F'):DS c X (.If cd a b pos) (bo t F F'):=PS.imp (GT hc ha hb) λE σ H q_=>by
 obtain⟨Hf0,H0,Hf,U,o,so,ef,k⟩:=q_;unfold bo at ef
 cases e1:t U with
 |none=>rw[e1]at ef;cases ef
 |some x=>
  rw[e1]at ef;refine⟨Hf0,H0,Hf,U,x,so,e1,λHf1 H1 x1=>?_⟩
  cases x with
  |true=>rw[if_pos rfl];exact⟨Hf0,H0,Hf1,U,o,so.step x1,ef,k.up x1.f⟩
  |false=>rw[if_neg bd];exact⟨Hf0,H0,Hf1,U,o,so.step x1,ef,k.up x1.f⟩
theorem CC{f:MF1}(hp:PS X st (iF te (gU i)))(hi:∀σ H Q,tD (Gx c X) f σ H Q->te σ H Q):DS c X st (bz i f):=PS.imp hp λE σ H q_=>by
 obtain⟨Hf0,H0,Hf,U,o,so,ef,k⟩:=q_;unfold bz at ef
 cases e1:f U with
 |none=>rw[e1]at ef;cases ef
 |some d=>
  rw[e1]at ef;cases ef;exact hi _ _ _ ⟨Hf0,H0,Hf,U,d,so,e1,λv Hf' H' x r=>k _ Hf' H' x.f ((so.step x).setIm r)⟩
theorem CD(hp:PS X st (iF te (gU i)))(hi:∀σ H Q,tDO (Gx c X) f σ H Q->te σ H Q):DS c X st (eR i f):=PS.imp hp λE σ H q_=>by
 obtain⟨Hf0,H0,Hf,U,o,so,ef,k⟩:=q_;unfold eR at ef
 cases e1:f U with
 |none=>rw[e1]at ef;cases ef
 |some d=>
  rw[e1]at ef;cases ef;exact hi _ _ _ ⟨Hf0,H0,Hf,U,d,so,e1,λl vs Hf' H' x hn hf hl r=>k _ Hf' H' x.f (so.setOwn (s:=.own d) rfl x hn hf ⟨vs,hl,r⟩)⟩
theorem ce(i:Nat){f:MF1}(hN:X.N.Nodup)(he:DE c X e f)(hi:X.N[i]?=aa x:=by rfl)(hx:Loc X.env.scope x:=by first |exact cv rfl |exact bO rfl)(hs:gn e (aa (.Name x pos')) pos.line X.env=pure ae:=by rfl)(hf:LcF X x:=by first |exact .inl rfl |exact .inr rfl):
  DS c X (.Assign [.Name x pos'] e pos) (bz i f):=CC (ml hN hi hx he hs hf) λ_ _ _ h=>h
theorem ja(i:Nat)(hN:X.N.Nodup)(he:DO c X e f)(hi:X.N[i]?=aa x:=by rfl)(hx:Loc X.env.scope x:=by first |exact cv rfl |exact bO rfl)(hs:gn e (aa (.Name x pos')) pos.line X.env=pure ae:=by rfl)(hf:LcF X x:=by first |exact .inl rfl |exact .inr rfl):
  DS c X (.Assign [.Name x pos'] e pos) (eR i f):=CD (ml hN hi hx he hs hf) λ_ _ _ h=>h
theorem JI(h:tD G (aE f) σ H Q):tDO G f σ H Q:=by
 obtain⟨Hf0,H0,Hf,U,d,st,ef,k⟩:=h;unfold aE at ef
 cases ed:f U with
 |none=>rw[ed]at ef;cases ef
 |some ds=>
  rw[ed]at ef;have ef:D.lst ds=d:=cF ef;subst ef;exact⟨Hf0,H0,Hf,U,ds,st,ed,λl vs Hf' H' x hn hf hl r=>k _ (upd Hf' l (.lst vs)) H' (x.fix hn hf hl) ⟨l,vs,rfl,be,r.up (bR hf)⟩⟩
theorem JJ(i:Nat)(k:Nat)(js:LN)(Nc:LSt)(hN:X.N.Nodup)(hc:X.calm=ab)(hi:DIe c X tg iter fi)
 (hg:∀cl C ex s₂ H₂,DG c (X.comp scope Nc cl C ex s₂ H₂) tg k g)(ht:∀cl C ex s₂ H₂,DTs c (X.comp scope Nc cl C ex s₂ H₂) ifs ft)(he:∀cl C ex s₂ H₂,DE c (X.comp scope Nc cl C ex s₂ H₂) elt fe)
 (hi':X.N[i]?=aa x:=by rfl)(hx:Loc X.env.scope x:=by first |exact cv rfl |exact bO rfl)
 (hsw:gn (.ListComp elt [⟨tg,iter,ifs,0⟩] scope pos) (aa (.Name x pos')) spos.line X.env=pure ab:=by rfl)
 (ck:mr scope X.env.scope.names X.N Nc k js=ab:=by rfl)(hs:∀x,lW iter X.env x=pure x:=by intro _;rfl)(hj:js.Nodup:=by decide)
 (hf:LcF X x:=by first |exact .inl rfl |exact .inr rfl):
  DS c X (.Assign [.Name x pos'] (.ListComp elt [⟨tg,iter,ifs,0⟩] scope pos) spos) (eR i (aU k js fi g ft fe)):=
 CD (wx (g:=tDG (Gx c X) g) (tt:=tDT (Gx c X) ft) (te:=tD (Gx c X) fe) k js Nc hN hi' hx hc hi (λcl C ex s₂ H₂=>(hg cl C ex s₂ H₂).pg) ht he hsw ck hs hf) λσ H Q h=>wO hj (hg [] 0 [] X.s₀ X.H₀).keep (hg [] 0 [] X.s₀ X.H₀).len h
theorem sU(i:Nat)(k:Nat)(js:LN)(Nc:LSt)(hN:X.N.Nodup)(hc:X.calm=ab)(hi:DIe c X tg iter fi)
 (hg:∀cl C ex s₂ H₂,DG c (X.comp scope Nc cl C ex s₂ H₂) tg k g)(ht:∀cl C ex s₂ H₂,DTs c (X.comp scope Nc cl C ex s₂ H₂) ifs ft)(he:∀cl C ex s₂ H₂,DE c (X.comp scope Nc cl C ex s₂ H₂) elt fe)
 (hi':X.N[i]?=aa x:=by rfl)(hx:Loc X.env.scope x:=by first |exact cv rfl |exact bO rfl)
 (hsw:gn (.ListComp elt [⟨tg,iter,ifs,0⟩] scope pos) (aa (.Name x pos')) spos.line X.env=pure ab:=by rfl)
 (ck:mr scope X.env.scope.names X.N Nc k js=ab:=by rfl)(hs:∀x,lW iter X.env x=pure x:=by intro _;rfl)(hj:js.Nodup:=by decide)
 (hf:LcF X x:=by first |exact .inl rfl |exact .inr rfl):
  DS c X (.Assign [.Name x pos'] (.ListComp elt [⟨tg,iter,ifs,0⟩] scope pos) spos) (bz i (aE (aU k js fi g ft fe))):=
 CC (wx (g:=tDG (Gx c X) g) (tt:=tDT (Gx c X) ft) (te:=tD (Gx c X) fe) k js Nc hN hi' hx hc hi (λcl C ex s₂ H₂=>(hg cl C ex s₂ H₂).pg) ht he hsw ck hs hf) λσ H Q h=>wO hj (hg [] 0 [] X.s₀ X.H₀).keep (hg [] 0 [] X.s₀ X.H₀).len (JI h)
theorem bg{f:MF1}(he:DE c X e f):DS c X (.Return (aa e) pos) (aY f):=PS.imp (rY he) λE σ H q_=>by
 obtain⟨Hf0,H0,Hf,U,o,so,ef,k⟩:=q_;unfold aY at ef
 cases e1:f U with
 |none=>rw[e1]at ef;cases ef
 |some d=>
  rw[e1]at ef;cases ef;exact⟨Hf0,H0,Hf,U,d,so,e1,λv Hf' H' x r=>k v Hf' H' (so.ext.trans x) r⟩
noncomputable def jB(f:MF1)(U:LS):Option Fl:=(f U).map λd=>.rtS d U
theorem ol{f:MF1}(he:DE c X e f):DS c X (.Return (aa e) pos) (jB f):=PS.imp (rY he) λE σ H q_=>by
 obtain⟨Hf0,H0,Hf,U,o,so,ef,k⟩:=q_;unfold jB at ef
 cases e1:f U with
 |none=>rw[e1]at ef;cases ef
 |some d=>
  rw[e1]at ef;cases ef;exact⟨Hf0,H0,Hf,U,d,so,e1,λv Hf' H' x r=>k v σ Hf' H' (so.step x) r⟩
theorem dS(he:DO c X e f):DS c X (.Return (aa e) pos) (dz f):=PS.imp (rY he) λE σ H q_=>by
 obtain⟨Hf0,H0,Hf,U,o,so,ef,k⟩:=q_;unfold dz at ef
 cases e1:f U with
 |none=>rw[e1]at ef;cases ef
 |some d=>
  rw[e1]at ef;cases ef;exact⟨Hf0,H0,Hf,U,d,so,e1,λl vs Hf' H' x hn hf hl r=>k l vs Hf' H' (so.ext.trans x) (so.ext.h.free hn) hf hl r⟩
theorem JK(he:PE X e (dq i)):DS c X (.Return (aa e) pos) (g5 i):=PS.imp (rY he) λE σ H q_=>by
 obtain⟨Hf0,H0,Hf,U,o,so,ef,k⟩:=q_;unfold g5 at ef
 cases es:U[i]? with
 |none=>rw[es]at ef;cases ef
 |some s=>
  rw[es]at ef
  cases s with
  |im d=>
   cases ef;obtain⟨v,e1,r⟩:=so.imm es
   exact⟨_,e1,k v Hf H so.ext r⟩
  |own xs=>
   cases ef;obtain⟨l,e1,h0,hf,vs,q,r⟩:=so.ownAt rfl es
   exact⟨_,e1,k l vs Hf H so.ext h0 hf q r⟩
  | _=>cases ef
theorem mN(i:Nat)(hN:X.N[i]?=aa x:=by rfl)(hv:Vis X.env.scope x:=by first |exact cv rfl |exact bO (cv rfl) |exact bO (bO rfl))(hd:NDb x:=by decide)
 (hcd:NCd x:=by decide):DS c X (.Return (aa (.Name x p)) pos) (g5 i):=JK (nN hN hv hd hcd)
theorem dN(hp:PassesOwn (model X.prog X.w) X.A X.env X.xe)(hc:X.calm=ab)(hi:DI c X tg iter fi)(hg:DG c X tg kk g)(hb:DSs c X a F)(hs:∀x,lW iter X.env x=pure x:=by intro _;rfl):
  DS c X (.For tg iter a [] pos) (cJ fi g F):=PS.imp (Bu hp hc hi hg.pg hb hs) λE σ H q_=>by
 obtain⟨Hf0,H0,Hf,U,o,so,ef,k⟩:=q_;unfold cJ at ef
 cases e1:fi U with
 |none=>rw[e1]at ef;cases ef
 |some ds=>
  rw[e1]at ef;replace ef:iI g F ds U=aa o:=ef;refine⟨Hf0,H0,Hf,U,ds,so,e1,λJ Hf1 H1 x1 it=>?_⟩;refine⟨λi m σ' H'=>m=ds.length-i/\i<=ds.length/\∃Hf' ρ',av (Gx c X) Hf0 H0 Hf' H' σ' ρ'/\aw Hf1 Hf'/\iI g F (ds.drop i) ρ'=aa o,⟨ds.length,rfl,da _,Hf1,U,so.step x1,aw.refl _,ef⟩,?_⟩;rintro i m σ' H' ⟨rfl,hi',Hf',ρ',so',s1,em⟩;obtain⟨it1,it2⟩:=it Hf' H' s1 so'.sub i
  by_cases hlt:i<ds.length
  .obtain⟨d,ed,edr⟩:=wN hlt;obtain⟨go,yl⟩:=it1 d ed;rw[edr]at em;unfold iI at em;refine .inr ⟨go,λσ2 H2=>ds.length-(i+1)=ds.length-(i+1)/\i+1<=ds.length/\∃Hf' ρ',av (Gx c X) Hf0 H0 Hf' H2 σ2 ρ'/\aw Hf1 Hf'/\iI g F (ds.drop (i+1)) ρ'=aa o,λσ2 H2 w=>⟨ds.length-(i+1),by omega,w⟩,λx H2 y=>?_⟩;obtain⟨Hf2,x2,rx⟩:=yl x H2 y
   cases eg:g d ρ' with
   |none=>rw[eg]at em;cases em
   |some ρ1=>
    rw[eg]at em;replace em:(F ρ1).bind _=_:=em
    cases eF:F ρ1 with
    |none=>rw[eF]at em;cases em
    |some o1=>
     rw[eF]at em;refine⟨Hf0,H0,Hf2,ρ',d,ρ1,so'.step x2,rx,eg,λσ3 so3=>⟨Hf0,H0,Hf2,ρ1,o1,so3,eF,?_⟩⟩;have sf:=s1.trans x2.f
     cases o1 with
     |nx ρ2=>exact λσ4 Hf4 H4 s4 so4=>⟨rfl,hlt,Hf4,ρ2,so4,sf.trans s4,em⟩
     |ct ρ2=>exact λσ4 Hf4 H4 s4 so4=>⟨rfl,hlt,Hf4,ρ2,so4,sf.trans s4,em⟩
     |bk ρ2=>cases em;exact λσ4 Hf4 H4 s4 so4=>k σ4 Hf4 H4 ((x1.f.trans sf).trans s4) so4
     |rt d=>cases em;exact k
     |rtO d=>cases em;exact k
     |rtS d ρ2=>cases em;exact k
     |rtT o'=>cases em;exact k
  .have ei:i=ds.length:=by omega
   subst ei;rw[drop_eq_nil_of_le (aL _)]at em;cases em;exact .inl ⟨it2 rfl,k σ' Hf' H' (x1.f.trans s1) so'⟩
theorem sV(n:Nat)(hp:PassesOwn (model X.prog X.w) X.A X.env X.xe)(hc:DT c X cd t)(hb:DSs c X a F):DS c X (.While cd a [] pos) (ie t F n):=PS.imp (G4 hp hc hb) λE σ H q_=>by
 obtain⟨Hf0,H0,Hf,U,o,so,ef,k⟩:=q_;refine⟨λm σ' H'=>∃Hf' ρ',av (Gx c X) Hf0 H0 Hf' H' σ' ρ'/\aw Hf Hf'/\ie t F m ρ'=aa o,⟨n,Hf,U,so,aw.refl _,ef⟩,?_⟩;rintro m σ' H' ⟨Hf',ρ',so',s1,em⟩
 cases m with
 |zero=>cases em
 |succ m=>
  unfold ie at em
  cases et:t ρ' with
  |none=>rw[et]at em;cases em
  |some b=>
   rw[et]at em;replace em:(if b=ab then (F ρ').bind _ else aa (.nx ρ'))=aa o:=em;refine⟨Hf0,H0,Hf',ρ',b,so',et,λHf2 H2 x2=>?_⟩
   cases b with
   |false=>
    rw[if_neg bd]at em;refine we ?_;cases em
    exact k σ' Hf2 H2 (s1.trans x2.f) (so'.step x2)
   |true=>
    rw[if_pos rfl]at em;refine wf ?_
    cases eF:F ρ' with
    |none=>rw[eF]at em;cases em
    |some o1=>
     rw[eF]at em;refine⟨λσ3 H3=>∃Hf' ρ',av (Gx c X) Hf0 H0 Hf' H3 σ3 ρ'/\aw Hf Hf'/\ie t F m ρ'=aa o,λσ3 H3 w=>⟨m,dY _,w⟩,Hf0,H0,Hf2,ρ',o1,so'.step x2,eF,?_⟩;have sf:=s1.trans x2.f
     cases o1 with
     |nx ρ2=>exact λσ4 Hf4 H4 s4 so4=>⟨Hf4,ρ2,so4,sf.trans s4,em⟩
     |ct ρ2=>exact λσ4 Hf4 H4 s4 so4=>⟨Hf4,ρ2,so4,sf.trans s4,em⟩
     |bk ρ2=>cases em;exact λσ4 Hf4 H4 s4 so4=>k σ4 Hf4 H4 (sf.trans s4) so4
     |rt d=>cases em;exact k
     |rtO d=>cases em;exact k
     |rtS d ρ2=>cases em;exact k
     |rtT o'=>cases em;exact k
theorem JL{E:jx}(h:tDS G (gy i F) E σ H):tDS G F E σ H:=by
 obtain⟨Hf0,H0,Hf,U,o,so,ef,k⟩:=h;unfold gy wP at ef;split at ef
 .rename_i xs es;obtain⟨l,e1,h0,hf,vs,q,r⟩:=so.ownAt rfl es;exact⟨Hf0,H0,_,_,o,so.fixd (d:=.lst xs) rfl es e1 q ⟨l,vs,rfl,be,r.up (bR hf)⟩,ef,k.up (bR hf)⟩
 .rename_i ks xs es;obtain⟨l,e1,h0,hf,vs,q,z,r⟩:=so.ownAt rfl es;exact⟨Hf0,H0,_,_,o,so.fixd (d:=.dic ks xs) rfl es e1 q ⟨l,vs,rfl,be,z,r.up (bR hf)⟩,ef,k.up (bR hf)⟩
 .rename_i c' ns xs es;obtain⟨l,e1,h0,hf,dx,vs,q,z,r⟩:=so.ownAt rfl es;exact⟨Hf0,H0,_,_,o,so.fixd (d:=.ins c' ns xs) rfl es e1 q ⟨l,dx,vs,rfl,be,z,r.up (bR hf)⟩,ef,k.up (bR hf)⟩
 .exact⟨Hf0,H0,Hf,U,o,so,ef,k⟩
theorem jb(i:Nat)(h:DS c X st F):DS c X st (gy i F):=PS.imp h λ_ _ _=>JL
theorem jC{f:MF1}(h:PS X st (mj (tBM X.K "list" sg (dq i) (k7 (tD (Gx c X) f) i5)))):DS c X st (gz i f):=PS.imp h λE σ H q_=>by
 obtain⟨Hf0,H0,Hf,U,o,so,ef,k⟩:=q_;unfold gz at ef
 cases e1:f U with
 |none=>rw[e1]at ef;cases ef
 |some d=>
  rw[e1]at ef
  replace ef:(match U[i]? with |some (.own xs)=>if xs.length<16777216 then aa (Fl.nx (U.set i (.own (xs++[d])))) else ac | _=>ac)=aa o:=ef
  split at ef
  .rename_i xs es;split at ef
   .rename_i hl;cases ef;obtain⟨l,e2,h0,hf,vs,q,r⟩:=so.ownAt rfl es;refine⟨_,e2,.inl ⟨rfl,_,SqL.of q⟩,Hf0,H0,Hf,U,d,so,e1,λv Hf' H' x r'=>?_⟩;have so':=so.step x;have q':=x.h _ _ q;refine⟨l,vs,v,rfl,rfl,q',by rw[dL,<- r.length];exact hl,k σ Hf' _ x.f (so'.mutd (s:=.own xs) (s':=.own (xs++[d])) rfl rfl es e2 ⟨vs++[v],be,(r.up x.f).append (.cons r' .nil)⟩)⟩
   .cases ef
  .cases ef
theorem JM{f:MF1}(h:PS X st (mj (tBM X.K "list" wb (dq i) (k7 (tD (Gx c X) f) i5)))):DS c X st (pW i (pV f)):=PS.imp h λE σ H q_=>by
 obtain⟨Hf0,H0,Hf,U,o,so,ef,k⟩:=q_;unfold pW pV at ef
 cases e1:f U with
 |none=>rw[e1]at ef;cases ef
 |some d=>
  rw[e1]at ef
  cases d with
  |lst ds=>
   replace ef:(match U[i]? with |some (.own xs)=>if xs.length+ds.length<=16777216 then aa (Fl.nx (U.set i (.own (xs++ds)))) else ac | _=>ac)=aa o:=ef
   split at ef
   .rename_i xs es;split at ef
    .rename_i hl;cases ef;obtain⟨l,e2,h0,hf,vs,q,r⟩:=so.ownAt rfl es;refine⟨_,e2,.inl ⟨rfl,_,SqL.of q⟩,Hf0,H0,Hf,U,.lst ds,so,e1,λv Hf' H' x r'=>?_⟩;obtain⟨a,us,ea,qa,ra⟩:=r';subst ea;have so':=so.step x;have q':=x.h _ _ q;refine⟨l,a,vs,us,rfl,rfl,q',x.s _ _ qa,by rw[dL,<- r.length,<- ra.length];exact hl,k σ Hf' _ x.f (so'.mutd (s:=.own xs) (s':=.own (xs++ds)) rfl rfl es e2 ⟨vs++us,be,(r.up x.f).append ra⟩)⟩
    .cases ef
   .cases ef
  | _=>cases ef
noncomputable def wQ:Fl->OD
 |.rt d=>aa d
 |.rtO ds=>aa (.lst ds)
 |.rtS d _=>aa d
 |.nx _=>aa .non
 | _=>ac
noncomputable def eS(n:Nat)(ds:LD):LS:=ds.map .im++gK (n-ds.length) .no
noncomputable def aV(n:Nat)(F:MF3)(ds:LD):OD:=(F (eS n ds)).bind wQ
noncomputable def mO(n:Nat)(F:MF3)(ds:LD):OLD:=(F (eS n ds)).bind λo=>match o with
 |.rtO ds=>aa ds
 | _=>ac
def spD(G:Gc)(n:Nat)(m:LD->OD):Sp:=λvs H Q _=>∃Hf ds d,aw Hf H/\am G Hf ds vs/\ds.length=n/\m ds=aa d/\∀v Hf' H',Ext Hf H Hf' H'->Rep G Hf' d v->Q v H'
def spO(G:Gc)(n:Nat)(m:LD->OLD):Sp:=λvs H Q _=>∃Hf ds rs,aw Hf H/\am G Hf ds vs/\ds.length=n/\m ds=aa rs /\
 ∀l us Hf' H',Ext Hf H Hf' H'->H l=ac->Hf' l=ac->H' l=aa (.lst us)->am G Hf' rs us->Q (.ref l) H'
theorem av.start(s0:aw Hf H)(r:am G Hf ds vs):av G Hf H Hf H (start N vs) (eS N.length ds):=by
 have hl:=r.length
 have im:∀(i:Nat) (s:Sl),(eS N.length ds)[i]?=aa s->s=.no\/∃d,ds[i]?=aa d/\s=.im d:=λi s b=>by
  unfold eS at b
  by_cases hi:i<ds.length
  .rw[kM (by simpa using hi)]at b;obtain⟨d,ed,es⟩:=mM b;exact .inr ⟨d,ed,es⟩
  .rw[kL (by simpa using pq hi)]at b;obtain⟨_,e⟩:=dH.mp b;rw[List.getElem_replicate]at e;exact .inl e.symm
 refine⟨Ext.refl s0,by simp[L2.start,eS,hl],λi v s a b=>?_,λi j s t v w l a b c d p q=>?_⟩
 .rcases im i s b with e |⟨d,ed,es⟩
  .subst e;trivial
  .subst es;obtain⟨u,eu,ru⟩:=r.get ed;refine⟨u,?_,ru⟩;have hi:i<vs.length:=(dH.mp eu).1;unfold L2.start at a;rw[kM (by simpa using hi),cD,eu]at a;exact(cF a).symm
 .rcases im i s a with e |⟨d,ed,es⟩
  .subst e;exact(p.calm rfl).elim
  .subst es;exact(p.calm rfl).elim
variable{mg:MGT}{base:Heap}{n_:Nat}{qual:Str}{f:Addr}{fd:eB}{ps:LSt}
theorem bi(Fn:Fun K x qual st f fd)(S:aM N ps (aD st))
 (h:∀(cdv:Value) (A:cP) (outer:List Env) (s:ai) (H:Hp) (E:XK),bG k (A.deeper (gO qual (aD st) s.heap.objs.size f cdv))->DSs c (i6 CX0 P w K mg base N qual (aD st) f cdv A outer s H E).nox (i7 st) F)(hn_:N.length=n_:=by rfl):
  df P w K mg base CX0 (k+1) f fd ps (spD ⟨K,c⟩ ps.length (aV n_ F)):=by
 subst hn_;refine Fn.ok S (λvs H Q E q_=>by obtain⟨Hf,ds,d,s0,r,hl,_⟩:=q_;rw[<- r.length];exact hl) λcdv A outer s H vs Q E hr q_=>?_;obtain⟨Hf,ds,d,s0,r,hl,e,kq⟩:=q_;refine⟨_,h cdv A outer s H E hr,?_⟩;unfold aV at e
 cases eF:F (eS N.length ds)with
 |none=>rw[eF]at e;cases e
 |some o=>
  rw[eF]at e;replace e:wQ o=aa d:=e;refine⟨Hf,H,Hf,_,o,av.start s0 r,eF,?_⟩
  cases o with
  |nx U=>cases e;exact λσ' Hf' H' _ so=>kq _ Hf' H' so.ext rfl
  |bk U=>cases e
  |ct U=>cases e
  |rt d=>cases e;exact kq
  |rtO rs=>cases e;exact λl vs Hf' H' x hn hf hl r=>kq _ (upd Hf' l (.lst vs)) H' (x.fix hn hf hl) ⟨l,vs,rfl,be,r.up (bR hf)⟩
  |rtS d U=>cases e;exact λv σ' Hf' H' so r=>kq v Hf' H' so.ext r
  |rtT o=>cases e
theorem wR(Fn:Fun K x qual st f fd)(S:aM N ps (aD st))
 (h:∀(cdv:Value) (A:cP) (outer:List Env) (s:ai) (H:Hp) (E:XK),bG k (A.deeper (gO qual (aD st) s.heap.objs.size f cdv))->DSs c (i6 CX0 P w K mg base N qual (aD st) f cdv A outer s H E).nox (i7 st) F)(hn_:N.length=n_:=by rfl):
  df P w K mg base CX0 (k+1) f fd ps (spO ⟨K,c⟩ ps.length (mO n_ F)):=by
 subst hn_;refine Fn.ok S (λvs H Q E q_=>by obtain⟨Hf,ds,d,s0,r,hl,_⟩:=q_;rw[<- r.length];exact hl) λcdv A outer s H vs Q E hr q_=>?_;obtain⟨Hf,ds,rs,s0,r,hl,e,kq⟩:=q_;refine⟨_,h cdv A outer s H E hr,?_⟩;unfold mO at e
 cases eF:F (eS N.length ds)with
 |none=>rw[eF]at e;cases e
 |some o=>
  rw[eF]at e;refine⟨Hf,H,Hf,_,o,av.start s0 r,eF,?_⟩
  cases o with
  |rtO rs'=>cases e;exact kq
  | _=>cases e
variable{fa:MF2}{k0:Nat}
theorem bB(pk:Pk X.prog X.w X.K X.mg X.base CX0 k x (f,fd) ps (spD (Gx c X) ps.length m))(hr0:bG k0 X.A)(ha:DA c X (e::es) fa)(hl:(e::es).length=ps.length:=by rfl)(hdb:NDb x:=by decide)(he:StE X e es:=by rfl)(hpl:BkE X pos es:=by rfl)(hk0:k<=k0:=by decide)(hg:Gl X x:=by first |rfl |exact glc rfl):
  DE c X (.Call (.Name x p) (e::es) [] pos) (aB m fa):=PE.imp (pN pk.ok (hr0.mono hk0) hg pk.g pk.kp pk.b .nil ib ha.pa hdb he hpl) λσ H Q q_=>by
 obtain⟨Hf0,H0,Hf,U,d,st,ef,kq⟩:=q_;obtain⟨ds,e1,e2⟩:=sN ef;refine⟨Hf0,H0,Hf,U,ds,st,e1,λvs Hf' H' x r=>?_⟩;dsimp only;rw[cr];exact⟨Hf',ds,d,x.s,r,(ha.len U ds e1).trans hl,e2,λv Hf2 H2 x2 r2=>kq v Hf2 H2 (x.trans x2) r2⟩
noncomputable def om(m:LD->OLD)(f:MF2)(U:LS):OLD:=(f U).bind m
theorem CF{m:LD->OLD}(pk:Pk X.prog X.w X.K X.mg X.base CX0 k x (f,fd) ps (spO (Gx c X) ps.length m))(hr0:bG k0 X.A)(ha:DA c X (e::es) fa)(hl:(e::es).length=ps.length:=by rfl)(hdb:NDb x:=by decide)(he:StE X e es:=by rfl)(hpl:BkE X pos es:=by rfl)(hk0:k<=k0:=by decide)(hg:Gl X x:=by first |rfl |exact glc rfl):
  DO c X (.Call (.Name x p) (e::es) [] pos) (om m fa):=PE.imp (pN pk.ok (hr0.mono hk0) hg pk.g pk.kp pk.b .nil ib ha.pa hdb he hpl) λσ H Q q_=>by
 obtain⟨Hf0,H0,Hf,U,rs,st,ef,kq⟩:=q_;unfold om at ef
 cases e1:fa U with
 |none=>rw[e1]at ef;cases ef
 |some ds=>
  rw[e1]at ef;refine⟨Hf0,H0,Hf,U,ds,st,e1,λvs Hf' H' x r=>?_⟩;dsimp only;rw[cr];exact⟨Hf',ds,rs,x.s,r,(ha.len U ds e1).trans hl,ef,λl us Hf2 H2 x2 hn hf hl' r2=>kq l us Hf2 H2 (x.trans x2) (x.h.free hn) hf hl' r2⟩
theorem CG{G:Gc}{H:Hp}{f:Str}{d:D}:∀{ns:LSt} {ds:LD} {vs:List V},(ns.zip ds).lookup f=aa d->am G H ds vs->∃v,(ns.zip vs).lookup f=aa v/\Rep G H d v
 | [],_,_,e,_=>by simp at e
 |n::ns,[],_,e,_=>by simp at e
 |n::ns,x::ds,_,e,q4_=>by
  obtain⟨v,r,ev,h1,h2⟩:=q4_;subst ev;rw[d9,eO]at e;rw[d9,eO]
  cases hf:f==n with
  |true=>rw[hf]at e;cases e;exact⟨v,rfl,h1⟩
  |false=>rw[hf]at e;exact CG e h2
theorem oq{f:Str}:∀{ns:LSt} {vs:List V},ns.contains f=ae->(ns.zip vs).lookup f=ac
 | [],_,_=>by simp
 |n::ns,[],_=>by simp
 |n::ns,v::vs,h=>by
  rw[contains_cons,Bool.or_eq_false_iff]at h;rw[d9,eO,h.1];exact oq h.2
noncomputable def CH(cn f:Str):D->OD
 |.ins c' ns ds=>if c'=cn then (ns.zip ds).lookup f else ac
 | _=>ac
noncomputable def bS(cn f:Str)(m:MF1)(U:LS):OD:=(m U).bind (CH cn f)
noncomputable def a8(cn f:Str)(m:LD->OD)(fo:MF1)(fa:MF2)(U:LS):OD:=(fo U).bind λd=>match d with
 |.ins c' ns ds=>if c'=cn/\ns.contains f=ae then (fa U).bind λas=>m (.ins c' ns ds::as) else ac
 | _=>ac
variable{fl:Str}{fo:MF1}
section
variable{o:Expr}
theorem bW(cn:Str)(hc:Cls X.K (c cn))(hn:dM X.K (c cn) fl)(ho:DE c X o fo)(hb:nF o fl X.env (eval o X.env)=eval o X.env:=by rfl):DE c X (.Attribute o fl pos) (bS cn fl fo):=
 PE.imp (BG ho hb) λσ H Q q_=>by
  obtain⟨Hf0,H0,Hf,U,d,st,ef,k⟩:=q_;unfold bS at ef
  cases e1:fo U with
  |none=>rw[e1]at ef;cases ef
  |some y=>
   rw[e1]at ef;replace ef:CH cn fl y=aa d:=ef
   cases y with
   |ins c' ns ds=>
    replace ef:(if c'=cn then (ns.zip ds).lookup fl else ac)=aa d:=ef;split at ef
    .rename_i hcc;subst hcc;refine⟨Hf0,H0,Hf,U,_,st,e1,λv Hf' H' x r=>?_⟩;obtain⟨a,dx,vs,ev,q,hl,rs⟩:=r;obtain⟨u,eu,ru⟩:=CG ef rs;exact⟨a,c c',dx,ns.zip vs,u,ev,x.s _ _ q,hc,hn,eu,k u Hf' H' x ru⟩
    .cases ef
   | _=>cases ef
end
variable{apos:Pos}{pl:Sem Bool}
section
variable{o:Expr}
theorem fq(cn:Str)(ho:DE c X o fo)(pk:Pm X.prog X.w X.K X.mg X.base CX0 k (c cn) fl (f,fd) ps (spD (Gx c X) ps.length m))(hr0:bG k0 X.A)(ha:DA c X (e::es) fa)(hl:(e::es).length+1=ps.length:=by rfl)(hst:StE X e es:=by rfl)(hpl:BkE X pos es:=by rfl)(ht:eval (.Call (.Attribute o fl apos) (e::es) [] pos) X.env=(do
   let ov <- eval o X.env
   iw apos.atName
   let (f,first) <- fG [ov] (jt ov fl pl)
   kU pos f first (c4 pos (ba (e::es) X.env)) (ju pos (jr [] X.env))):=by rfl)(hk0:k<=k0:=by decide):
  DE c X (.Call (.Attribute o fl apos) (e::es) [] pos) (a8 cn fl m fo fa):=PE.imp (vW ho pk.c pk.m pk.ok (hr0.mono hk0) pk.b .nil ib ha.pa hst hpl ht) λσ H Q q_=>by
 obtain⟨Hf0,H0,Hf,U,d,st,ef,kq⟩:=q_;unfold a8 at ef
 cases e1:fo U with
 |none=>rw[e1]at ef;cases ef
 |some y=>
  rw[e1]at ef
  cases y with
  |ins c' ns ds=>
   replace ef:(if c'=cn/\ns.contains fl=ae then (fa U).bind λas=>m (.ins c' ns ds::as) else ac)=aa d:=ef;split at ef
   .rename_i hcc;obtain⟨rfl,hno⟩:=hcc
    cases e2:fa U with
    |none=>rw[e2]at ef;cases ef
    |some as=>
     rw[e2]at ef;replace ef:m (.ins c' ns ds::as)=aa d:=ef;refine⟨Hf0,H0,Hf,U,_,st,e1,λv Hf' H' x r=>?_⟩;obtain⟨a,dx,vs,ev,q,hlen,rs⟩:=id r;refine⟨a,dx,ns.zip vs,ev,x.s _ _ q,oq hno,Hf0,H0,Hf',U,as,st.step x,e2,λws Hf2 H2 x2 r2=>?_⟩;dsimp only;rw[cr];exact⟨Hf2,.ins c' ns ds::as,d,x2.s,.cons (r.up x2.f) r2,by rw[b9,ha.len U as e2];exact hl,ef,λu Hf3 H3 x3 r3=>kq u Hf3 H3 ((x.trans x2).trans x3) r3⟩
   .cases ef
  | _=>cases ef
end
section
variable{o:Expr}
theorem iJ(cn:Str)(ho:DE c X o fo)(pk:Pm X.prog X.w X.K X.mg X.base CX0 k (c cn) fl (f,fd) ps (spD (Gx c X) ps.length m))(hr0:bG k0 X.A)(hl:1=ps.length:=by rfl)(ht:eval (.Call (.Attribute o fl apos) [] [] pos) X.env=(do
   let ov <- eval o X.env
   iw apos.atName
   let (f,first) <- fG [ov] (jt ov fl pl)
   kU pos f first (c4 pos (ba [] X.env)) (ju pos (jr [] X.env))):=by rfl)(hk0:k<=k0:=by decide):
  DE c X (.Call (.Attribute o fl apos) [] [] pos) (a8 cn fl m fo λ_=>aa []):=PE.imp (vX ho pk.c pk.m pk.ok (hr0.mono hk0) pk.b .nil ib ht) λσ H Q q_=>by
 obtain⟨Hf0,H0,Hf,U,d,st,ef,kq⟩:=q_;unfold a8 at ef
 cases e1:fo U with
 |none=>rw[e1]at ef;cases ef
 |some y=>
  rw[e1]at ef
  cases y with
  |ins c' ns ds=>
   replace ef:(if c'=cn/\ns.contains fl=ae then (aa []).bind λas=>m (.ins c' ns ds::as) else ac)=aa d:=ef;split at ef
   .rename_i hcc;obtain⟨rfl,hno⟩:=hcc;replace ef:m [.ins c' ns ds]=aa d:=ef;refine⟨Hf0,H0,Hf,U,_,st,e1,λv Hf' H' x r=>?_⟩;obtain⟨a,dx,vs,ev,q,hlen,rs⟩:=id r;refine⟨a,dx,ns.zip vs,ev,x.s _ _ q,oq hno,?_⟩;exact⟨Hf',[.ins c' ns ds],d,x.s,.cons r .nil,hl,ef,λu Hf3 H3 x3 r3=>kq u Hf3 H3 (x.trans x3) r3⟩
   .cases ef
  | _=>cases ef
end
noncomputable def pX:List (Str×(MF1))->LS->LSt->LD->Option (LSt×LD)
 | [],_,ns,ds=>aa (ns,ds)
 |(f,m)::r,U,ns,ds=>(m U).bind λd=>if ns.contains f then ac else pX r U (ns++[f]) (ds++[d])
def JN(G:Gc)(cn:Str)(fs:List (Str×(MF1))):TS:=λE σ H=>∃x dx Hf0 H0 Hf U ns us ds r,σ[0]?=aa (aa (.ref x))/\(∀s∈U,Sl.calm s=ab)/\av G Hf0 H0 Hf H σ U/\H0 x=ac/\Hf x=ac /\
 H x=aa (.ins (G.cl cn) dx (ns.zip us))/\ns.length=us.length/\ns.length+fs.length<=900/\am G Hf ds us/\pX fs U ns ds=aa r /\
 ∀us' Hf' H',Ext Hf0 H0 Hf' H'->Hf' x=ac->H' x=aa (.ins (G.cl cn) dx (r.1.zip us'))->r.1.length=us'.length->am G Hf' r.2 us'->E.nx σ H'
def DSI(c:Str->Addr)(X:Cx)(cn:Str)(sts:List Stmt)(fs:List (Str×(MF1))):Prop:=PSs X sts (JN (Gx c X) cn fs)
theorem pY{f:Str}{v:V}:∀{ns:LSt} {us:List V},ns.length=us.length->ns.contains f=ae->c5 f v (ns.zip us)=(ns++[f]).zip (us++[v])
 | [],[],_,_=>rfl
 |n::ns,u::us,hl,h=>by
  rw[contains_cons,Bool.or_eq_false_iff]at h;have h1:¬(n=f):=λz=>by rw[z,beq_self_eq_true]at h;cases h.1
  rw[d9];unfold c5
  first
   |(rw[if_neg h1,pY (by simpa using hl) h.2];rfl)
   |(rw[if_neg (λz=>h1 (Eq.symm z)),pY (by simpa using hl) h.2];rfl)
   |(rw[if_neg (by simpa using h1),pY (by simpa using hl) h.2];rfl)
   |(rw[if_neg (by simpa using λz=>h1 (Eq.symm z)),pY (by simpa using hl) h.2];rfl)
 | [],_::_,hl,_=>by cases hl
 | _::_,[],hl,_=>by cases hl
section
variable{cn:Str}
theorem sW:DSI c X cn [] []:=PSs.imp Bp λE σ H q=>by
 obtain⟨x,dx,Hf0,H0,Hf,U,ns,us,ds,r,e0,no,so,h0,hf,hx,hl,hz,rd,em,k⟩:=q;cases em;exact k us Hf H so.ext hf hx hl rd
end
variable{m:MF1}{fs:List (Str×(MF1))}
section
variable{cn:Str}{o:Expr}
theorem ot(hc:Cls X.K (c cn))(hn:dM X.K (c cn) fl)(ho:PE X o (dq 0))(he:DE c X e m)(h:DSI c X cn sts fs)(hs:gn e (aa (.Attribute o fl pos')) pos.line X.env=pure ae:=by rfl):
  DSI c X cn (.Assign [.Attribute o fl pos'] e pos::sts) ((fl,m)::fs):=PSs.imp (rX (kf ho he hs) h) λE σ H q=>by
 obtain⟨x,dx,Hf0,H0,Hf,U,ns,us,ds,r,e0,no,so,h0,hf,hx,hl,hz,rd,em,k⟩:=q;unfold pX at em
 cases e1:m U with
 |none=>rw[e1]at em;cases em
 |some d=>
  rw[e1]at em;replace em:(if ns.contains fl=ab then ac else pX fs U (ns++[fl]) (ds++[d]))=aa r:=em;split at em
  .cases em
  .rename_i hnc;have hnc:ns.contains fl=ae:=by simpa using hnc
   refine⟨Hf0,H0,Hf,U,d,so,e1,λv Hf' H' xx rv=>⟨_,e0,x,c cn,dx,ns.zip us,rfl,xx.h _ _ hx,hc,hn,?_,?_⟩⟩
   .have h1:=lP (l₁:=ns) (l₂:=us);rw[b9]at hz;omega
   .have hf':Hf' x=ac:=by rw[xx.n _ _ hx rfl];exact hf
    have so':=so.step xx
    have so2:av (Gx c X) Hf0 H0 Hf' (upd H' x (.ins (c cn) dx (c5 fl v (ns.zip us)))) σ U:=by
     refine so'.re ⟨so'.ext.f,λb u e=>?_,λb u e=>?_,so'.ext.n⟩ rfl (λi w s a b=>?_) λi s w a b _ p=>(p.calm (no s (dJ b))).elim
     .rw[aK (fI e h0)];exact so'.ext.h b u e
     .rw[aK (fI e hf')];exact so'.ext.s b u e
     .have hs:=no s (dJ b);have q:=so'.at' i w s a b
      cases s with
      |no=>trivial
      |im d=>exact q
      | _=>cases hs
    refine⟨x,dx,Hf0,H0,Hf',U,ns++[fl],us++[v],ds++[d],r,e0,no,so2,h0,hf',?_,by rw[a9,a9,hl];rfl,by rw[b9]at hz;rw[a9,fD];omega,(rd.up xx.f).append (.cons rv .nil),em,k⟩;rw[be,pY hl hnc]
end
noncomputable def del(H:Hp)(x:Addr):Hp:=λb=>if b=x then ac else H b
theorem CI{x:Addr}:del H x x=ac:=if_pos rfl
theorem CJ{x b:Addr}(h:b≠x):del H x b=H b:=if_neg h
noncomputable def pZ(n:Nat)(fs:List (Str×(MF1)))(as:LD):Option (LSt×LD):=pX fs (.no::(as.map .im++gK (n-1-as.length) .no)) [] []
def spI(G:Gc)(cn:Str)(n:Nat)(m:LD->Option (LSt×LD)):Sp:=λvs H Q _=>∃x dx Hf as vs' r,vs=.ref x::vs'/\H x=aa (.ins (G.cl cn) dx [])/\Hf x=ac/\aw Hf H/\am G Hf as vs'/\as.length+1=n/\m as=aa r /\
 ∀us Hf' H',Ext Hf (del H x) Hf' H'->Hf' x=ac->H' x=aa (.ins (G.cl cn) dx (r.1.zip us))->r.1.length=us.length->am G Hf' r.2 us->Q .non H'
theorem sX{x qual cn:Str}(Fn:Fun K x qual st f fd)(S:aM N ps (aD st))
 (h:∀(cdv:Value) (A:cP) (outer:List Env) (s:ai) (H:Hp) (E:XK),bG k (A.deeper (gO qual (aD st) s.heap.objs.size f cdv))->DSI c (i6 CX0 P w K mg base N qual (aD st) f cdv A outer s H E).nox cn (i7 st) fs)
 (hz:fs.length<=900:=by decide)(hn_:N.length=n_:=by rfl):df P w K mg base CX0 (k+1) f fd ps (spI ⟨K,c⟩ cn ps.length (pZ n_ fs)):=by
 subst hn_;refine Fn.ok S (λvs H Q E q=>by obtain⟨x,dx,Hf,as,vs',r,ev,_,_,_,ra,hl,_⟩:=q;subst ev;rw[b9,<- ra.length];exact hl) λcdv A outer s H vs Q E hr q=>⟨_,h cdv A outer s H E hr,?_⟩;obtain⟨x,dx,Hf,as,vs',r,ev,hx,hf,s0,ra,hl,e,kq⟩:=q;subst ev;have la:=ra.length
 have im:∀(i:Nat) (s:Sl),(Sl.no::(as.map Sl.im++gK (N.length-1-as.length) .no))[i]?=aa s->s=.no\/∃d j,i=j+1/\as[j]?=aa d/\s=.im d:=λi s b=>by
  cases i with
  |zero=>left;simpa using b.symm
  |succ i=>
   rw[eW]at b
   by_cases hi:i<as.length
   .rw[kM (by simpa using hi)]at b;obtain⟨d,ed,es⟩:=mM b;exact .inr ⟨d,i,rfl,ed,es⟩
   .rw[kL (by simpa using pq hi)]at b;obtain⟨_,e⟩:=dH.mp b;rw[List.getElem_replicate]at e;exact .inl e.symm
 have no:∀s∈(Sl.no::(as.map Sl.im++gK (N.length-1-as.length) .no)),Sl.calm s=ab:=λs hs=>by
  obtain⟨i,hi⟩:=rn hs
  rcases im i s hi with e |⟨d,_,_,_,e⟩ <;> (subst e;rfl)
 refine⟨x,dx,Hf,del H x,Hf,_,[],[],[],r,rfl,no,⟨⟨aw.refl _,λb o e=>?_,s0,λ_ _ _ _=>rfl⟩,?_,λi v s a b=>?_,λi j s t v w l a b _ _ p _=>?_⟩,CI,hf,hx,rfl,by simpa using hz,rfl,e,λus Hf' H' xx h1 h2 h3 h4=>kq us Hf' H' xx h1 h2 h3 h4⟩
 .by_cases hb:b=x
  .subst hb;rw[CI]at e;cases e
  .rw[CJ hb]at e;exact e
 .unfold L2.start;simp only[a9,aH,b9,nj];omega
 .rcases im i s b with e |⟨d,j,ei,ed,es⟩
  .subst e;trivial
  .subst es ei;obtain⟨u,eu,ru⟩:=ra.get ed;refine⟨u,?_,ru⟩;have hi:j<vs'.length:=(dH.mp eu).1;unfold L2.start at a;rw[bn,cons_append,eW,kM (by simpa using hi),cD,eu]at a;exact(cF a).symm
 .exact(p.calm (no s (dJ a))).elim
noncomputable def jD(cn:Str)(m:LD->Option (LSt×LD))(fa:MF2)(U:LS):OD:=(fa U).bind λas=>(m as).map λr=>.ins cn r.1 r.2
theorem lr{m:LD->Option (LSt×LD)}(cn:Str)(M:Mk X.K (c cn) f)(F:df X.prog X.w X.K X.mg X.base CX0 k f fd ps (spI (Gx c X) cn ps.length m))(hr:bG (k+1) X.A)(hg:Gl X x)(hm:X.mg x=aa (.ref (c cn)))(hb:gr X.K fd ps [])(ha:DA c X (e::es) fa)
 (hl:(e::es).length+1=ps.length:=by rfl)(hdb:NDb x:=by decide)(he:StE X e es:=by rfl)(hpl:BkE X pos es:=by rfl):
  DE c X (.Call (.Name x p) (e::es) [] pos) (jD cn m fa):=PE.imp (BI M F hr hg hm hb .nil ib ha.pa hdb he hpl) λσ H Q q_=>by
 obtain⟨Hf0,H0,Hf,U,d,st,ef,kq⟩:=q_;unfold jD at ef
 cases e1:fa U with
 |none=>rw[e1]at ef;cases ef
 |some as=>
  rw[e1]at ef;replace ef:(m as).map _=_:=ef
  cases e2:m as with
  |none=>rw[e2]at ef;cases ef
  |some r=>
   rw[e2]at ef;cases ef;refine⟨Hf0,H0,Hf,U,as,st,e1,λvs Hf' H' xx rv y dx ny ndx nex=>?_⟩
   try dsimp only
   rw[cr];have hy:(upd H' dx (.own y)) y=ac:=by rw[aK nex.symm];exact ny
   have s1:aw H' (upd H' dx (.own y)):=bR ndx;have s2:=s1.trans (bR (o:=.ins (c cn) dx []) hy)
   have s3:aw H' (del (upd (upd H' dx (.own y)) y (.ins (c cn) dx [])) y):=λb u q=>by
    have:=fI q ny;rw[CJ this];exact s2 b u q
   refine⟨y,dx,Hf',as,vs,r,rfl,be,xx.s.free ny,xx.s.trans s2,rv,by rw[ha.len U as e1];exact hl,e2,λus Hf2 H2 x2 hf2 hy2 hlen r2=>⟨rfl,?_⟩⟩;have x3:Ext Hf' H' Hf2 H2:=⟨x2.f,s3.trans x2.h,x2.s,λl u q t=>x2.n l u (s3 l u q) t⟩;exact kq _ _ H2 ((xx.trans x3).fix (xx.h.free ny) hf2 hy2) ⟨y,dx,us,rfl,be,hlen,r2.up (bR hf2)⟩
variable{r:Option Fl}
theorem fK(h:F U=aa (.nx ρ'))(h':F' ρ'=r):ar F F' U=r:=by
 unfold ar;rw[h];exact h'
theorem kh(h:F U=aa (.rt d)):ar F F' U=aa (.rt d):=by
 unfold ar;rw[h];rfl
theorem ki(h:t U=aa ab)(h':F U=r):bo t F F' U=r:=by
 unfold bo;rw[h];exact h'
theorem gA(h:t U=aa ae)(h':F' U=r):bo t F F' U=r:=by
 unfold bo;rw[h];exact h'
theorem JO{f:MF1}(h:f U=aa d):bz i f U=aa (.nx (U.set i (.im d))):=by
 unfold bz;rw[h];rfl
theorem JP{f:MF2}{d:LD}(h:f U=aa d):eR i f U=aa (.nx (U.set i (.own d))):=by
 unfold eR;rw[h];rfl
theorem cW{f:MF1}(h:f U=aa d):aY f U=aa (.rt d):=by
 unfold aY;rw[h];rfl
theorem cK(h:F (eS n ds)=aa (.rt d)):aV n F ds=aa d:=by
 unfold aV;rw[h];rfl
theorem ou{d:LD}(h:F (eS n ds)=aa (.rtO d)):aV n F ds=aa (.lst d):=by
 unfold aV;rw[h];rfl
theorem aR{m:LD->OD}{f:MF2}(h:f U=aa ds)(h':m ds=aa d):aB m f U=aa d:=by
 unfold aB;rw[h];exact h'
theorem sY{α:Type}{h:D->Option OD}(f:α->D)(p:α->Bool)(q:α->D):∀(xs:List α),(∀x∈xs,h (f x)=aa (if p x then aa (q x) else ac))->fm h (xs.map f)=aa ((xs.filter p).map q)
 | [],_=>rfl
 |x::xs,hh=>by
  rw[bn];unfold fm;rw[hh x aO,sY f p q xs λy hy=>hh y (bv _ hy)]
  cases hp:p x with
  |true=>rw[jU hp];rfl
  |false=>rw[lL (by rw[hp];exact bd)];rfl
theorem JQ{α:Type}{h:D->Option OD}(f:α->D)(q:α->D)(xs:List α)(hh:∀x∈xs,h (f x)=aa (aa (q x))):fm h (xs.map f)=aa (xs.map q):=by
 have:=sY (h:=h) f (λ_=>ab) q xs λx hx=>(hh x hx).trans rfl;rw[this,filter_eq_self.mpr λ_ _=>rfl]
theorem g6{α:Type}(xs:List α)(f:α->D)(p:α->Bool)(q:α->D)
 (hi:fi U=aa (xs.map f))(hz:xs.length<=16777216)(hh:∀x∈xs,fJ g ft fe (dZ k js U) (f x)=aa (if p x then aa (q x) else ac)):aU k js fi g ft fe U=aa ((xs.filter p).map q):=by
 unfold aU;rw[hi];show(if (xs.map f).length<=16777216 then _ else ac)=_;rw[aH,if_pos hz];exact sY f p q xs hh
theorem dO{α:Type}(xs:List α)(f:α->D)(q:α->D)
 (hi:fi U=aa (xs.map f))(hz:xs.length<=16777216)(hh:∀x∈xs,fJ g ft fe (dZ k js U) (f x)=aa (aa (q x))):aU k js fi g ft fe U=aa (xs.map q):=by
 unfold aU;rw[hi];show(if (xs.map f).length<=16777216 then _ else ac)=_;rw[aH,if_pos hz];exact JQ f q xs hh
theorem CK{α:Type}{g:D->LS->Option LS}{F:MF3}(f:α->D)(I:List α->LS->Prop):∀(post pre:List α) (U:LS),I pre U ->
  (∀pre' x post' U,pre++post=pre'++x::post'->I pre' U->∃ρ1 ρ2,g (f x) U=aa ρ1/\(F ρ1=aa (.nx ρ2)\/F ρ1=aa (.ct ρ2))/\I (pre'++[x]) ρ2)->∃ρ',iI g F (post.map f) U=aa (.nx ρ')/\I (pre++post) ρ'
 | [],pre,U,h,_=>⟨U,rfl,by rw[cr];exact h⟩
 |x::post,pre,U,h,hs=>by
  obtain⟨ρ1,ρ2,e1,e2,h2⟩:=hs pre x post U rfl h;obtain⟨ρ',e3,h3⟩:=CK f I post (pre++[x]) ρ2 h2 (by rw[fQ];exact hs);refine⟨ρ',?_,by rw[fQ]at h3;exact h3⟩;rw[bn];unfold iI;rw[e1];show(F ρ1).bind _=_
  rcases e2 with e2 |e2
  .rw[e2];exact e3
  .rw[e2];exact e3
theorem JR{α:Type}(xs:List α)(f:α->D)(I:List α->LS->Prop)(hi:fi U=aa (xs.map f))(h0:I [] U)
 (hs:∀pre x post U,xs=pre++x::post->I pre U->∃ρ1 ρ2,g (f x) U=aa ρ1/\(F ρ1=aa (.nx ρ2)\/F ρ1=aa (.ct ρ2))/\I (pre++[x]) ρ2):∃ρ',cJ fi g F U=aa (.nx ρ')/\I xs ρ':=by
 unfold cJ;rw[hi];exact CK f I xs [] U h0 hs
theorem JS(lo:Int)(n:Nat):rng lo n=(bF n).map λ(i:Nat)=>D.int (lo+i):=rfl
theorem CL{ns:List Int}:f7 [.lst (ns.map D.int)]=aa (.int ns.sum):=by
 unfold f7 lsD;show(gZ (ns.map D.int)).map _=_;rw[Jz];rfl
variable{i:Int}
theorem dA{α:Type}{f:α->D}{xs:List α}(h0:0<=i)(h1:i<xs.length):∃x,xs[i.toNat]?=aa x/\atI (xs.map f) i=aa (f x):=by
 have hl:i.toNat<xs.length:=by omega
 refine⟨xs[i.toNat],by simp[hl],?_⟩;have:=Ij (xs:=xs.map f) (j:=i.toNat) (v:=f xs[i.toNat]) (by simp[hl]);rw[show((i.toNat:Nat):Int)=i by omega]at this;exact this
theorem mP{α:Type}{f:α->D}{xs:List α}(d:α)(h0:0<=i)(h1:i<xs.length):atI (xs.map f) i=aa (f (xs.getD i.toNat d)):=by
 obtain⟨x,e1,e2⟩:=dA (f:=f) h0 h1;rw[e2,bD,e1];rfl
theorem ow(i j:Int):dEq (.int i) (.int j)=aa (.bl (i==j)):=rfl
theorem JT(i j:Str):dEq (.str i) (.str j)=aa (.bl (i==j)):=rfl
variable{f:MF1}
theorem aN{m:D->D->OD}{g:MF1}{x:D}(h1:f U=aa x)(h2:g U=aa y)(h3:m x y=aa d):m2 m f g U=aa d:=by
 unfold m2;rw[h1,h2];exact h3
variable{b:Bool}
theorem b8(h:f U=aa (.bl b)):mB f U=aa b:=by
 unfold mB;rw[h];rfl
theorem fu(h:f U=aa d)(h':pR d=aa b):b7 f U=aa b:=by
 unfold b7;rw[h];exact h'
variable{f:MF4}
theorem kj(h:f U=aa b):gY f U=aa (!b):=by
 unfold gY;rw[h];rfl
variable{g:MF4}
theorem mQ{r:Option Bool}(h:f U=aa ab)(h':g U=r):fj f g U=r:=by
 unfold fj;rw[h];exact h'
theorem p7(h:f U=aa ae):fj f g U=aa ae:=by
 unfold fj;rw[h];rfl
theorem wS(h:f U=aa ab):mOr f g U=aa ab:=by
 unfold mOr;rw[h];rfl
theorem km{r:Option Bool}(h:f U=aa ae)(h':g U=r):mOr f g U=r:=by
 unfold mOr;rw[h];exact h'
variable{a:Bool}
theorem p8(h:f U=aa a)(h':g U=aa b):fj f g U=aa (a && b):=by
 cases a with
 |true=>exact mQ h h'
 |false=>exact p7 h
theorem JU(h:f U=aa a)(h':g U=aa b):mOr f g U=aa (a || b):=by
 cases a with
 |true=>exact wS h
 |false=>exact km h h'
variable{f:MF1}
theorem sZ{g:MF1}(h:f U=aa (.bl a))(h':g U=aa (.bl b)):n6 f g U=aa (.bl (a && b)):=by
 unfold n6;rw[b8 h]
 cases a with
 |true=>exact h'
 |false=>rfl
theorem wT{g:MF1}(h:f U=aa (.bl a))(h':g U=aa (.bl b)):vOr f g U=aa (.bl (a || b)):=by
 unfold vOr;rw[b8 h]
 cases a with
 |true=>rfl
 |false=>exact h'
theorem CM(h:f U=aa (.bl a)):n8 f U=aa (.bl (!a)):=by
 unfold n8;rw[b8 h];rfl
theorem ay{g:MF2}(h:f U=aa d)(h':g U=aa ds):ag f g U=aa (d::ds):=by
 unfold ag;rw[h,h'];rfl
variable{f:MF2}
theorem fL(h:f U=aa ds):bE f U=aa (.tup ds):=by
 unfold bE;rw[h];rfl
theorem bC(h:f U=aa ds):aE f U=aa (.lst ds):=by
 unfold aE;rw[h];rfl
theorem aI{g:MF1}{r:OD}(h:f U=aa ds)(h':g U=aa (.int i))(h2:atI ds i=r):mIx f g U=r:=by
 unfold mIx;rw[h,h'];exact h2
theorem s9{C:Int->Int->Prop}[∀i j,Decidable (C i j)]{g:Int->Int->D}{j:Int}(h:C i j):dI C g (.int i) (.int j)=aa (g i j):=by
 show(if C i j then aa (g i j) else ac)=_;rw[if_pos h]
variable{f:MF1}
theorem JV{i:Nat}(h:f U=aa d)(h':U[i]?=aa (.own xs))(hl:xs.length<16777216):gz i f U=aa (.nx (U.set i (.own (xs++[d])))):=by
 unfold gz;rw[h]
 show(match U[i]? with |some (.own xs)=>if xs.length<16777216 then aa (Fl.nx (U.set i (.own (xs++[d])))) else ac | _=>ac)=_
 rw[h'];show(if xs.length<16777216 then _ else ac)=_;rw[if_pos hl]
variable{ρ1:LS}
theorem fw{g:D->LS->Option LS}(h1:g d U=aa ρ1)(h2:ft ρ1=aa b)(h3:b=ab->fe ρ1=aa y):fJ g ft fe U d=aa (if b then aa y else ac):=by
 unfold fJ;rw[h1];show(ft ρ1).bind _=_;rw[h2];show(if b=ab then (fe ρ1).map aa else aa ac)=_
 cases b with
 |true=>rw[h3 rfl];rfl
 |false=>rfl
theorem di{g:D->LS->Option LS}(h1:g d U=aa ρ1)(h2:ft ρ1=aa ab)(h3:fe ρ1=aa y):fJ g ft fe U d=aa (aa y):=fw h1 h2 λ_=>h3
theorem cL(h:f U=aa d)(h':iH d=aa ds):aP f U=aa ds:=by
 unfold aP;rw[h];exact h'
variable{g:MF1}
theorem gB(h:f U=aa d):bJ f g U=aa d:=by
 unfold bJ;rw[h];rfl
theorem cM{r:OD}(h:f U=ac)(h':g U=r):bJ f g U=r:=by
 unfold bJ;rw[h];exact h'
theorem ls{f:MF2}{n:Int}(h:f U=aa [.int n])(h0:0<=n)(h1:n<2 ^ 62):g4 f U=aa ((bF n.toNat).map λ(i:Nat)=>D.int i):=by
 unfold g4;rw[h];show(if -(2 ^ 62)<=n/\n<2 ^ 62 then aa (rng 0 n.toNat) else ac)=_;rw[if_pos ⟨by omega,h1⟩,JS]
 congr 1
 refine rA λi _=>?_;rw[Int.zero_add]
variable{m:LD->OD}{ns:LSt}
theorem dU{cn f:Str}{as:LD}(h:fo U=aa (.ins cn ns ds))(hn:ns.contains f=ae)(h':fa U=aa as):a8 cn f m fo fa U=m (.ins cn ns ds::as):=by
 unfold a8;rw[h];show(if cn=cn/\ns.contains f=ae then (fa U).bind λas=>m (.ins cn ns ds::as) else ac)=_;rw[if_pos ⟨rfl,hn⟩,h'];rfl
theorem cN{cn f c':Str}(h:fo U=aa (.ins c' ns ds))(hn:c'≠cn):a8 cn f m fo fa U=ac:=by
 unfold a8;rw[h];show(if c'=cn/\ns.contains f=ae then (fa U).bind λas=>m (.ins c' ns ds::as) else ac)=_;rw[if_neg λz=>hn z.1]
noncomputable def itD(z:Int×Int):D:=.tup [.int z.1,.int z.2]
noncomputable def shD:Option Bool->D
 |none=>.non
 |some b=>.bl b
def InN(n:Nat)(its:List (Int×Int)):Prop:=∀z∈its,0<=z.1/\z.1<(n:Int)/\0<=z.2
theorem f9{es:List (Option Bool)}(h0:0<=i)(h1:i<es.length):atI (es.map shD) i=aa (shD (es.getD i.toNat ac)):=mP ac h0 h1
theorem jE{es:List Bool}(h0:0<=i)(h1:i<es.length):atI (es.map D.bl) i=aa (.bl (es.getD i.toNat ae)):=mP ae h0 h1
theorem lu(e:Option Bool)(b:Bool):dIs (shD e) (.bl b)=aa (.bl (e==aa b)):=by
 cases e with
 |none=>rfl
 |some c=>cases b <;> cases c <;> rfl
theorem tf(e:Option Bool)(b:Bool):gx (shD e) (.bl b)=aa (.bl (!(e==aa b))):=by
 cases e with
 |none=>rfl
 |some c=>cases b <;> cases c <;> rfl
noncomputable def Prt.toD:Prt->D
 |.inn t=>.tup [.str "in",.int t]
 |.out t=>.tup [.str "out",.int t]
 |.least k its=>.tup [.str "least",.int k,.lst (its.map itD)]
 |.most k its=>.tup [.str "most",.int k,.lst (its.map itD)]
noncomputable def Prt.obj:Prt->D
 |.inn t=>.ins "In" ["thing"] [.int t]
 |.out t=>.ins "Out" ["thing"] [.int t]
 |.least k its=>.ins "Least" ["bound","pieces"] [.int k,.lst (its.map itD)]
 |.most k its=>.ins "Most" ["bound","pieces"] [.int k,.lst (its.map itD)]
def Prt.Ok(n:Nat):Prt->Prop
 |.inn t=>0<=t/\t<(n:Int)
 |.out t=>0<=t/\t<(n:Int)
 |.least _ its=>InN n its/\its.length<=100000
 |.most _ its=>InN n its/\its.length<=100000
theorem JW(p:Int->Bool)(its:List (Int×Int)):((its.filter λz=>p z.1).map λz=>D.int z.2)=((its.filter λz=>p z.1).map (·.2)).map D.int:=by
 rw[map_map];rfl
theorem p9(p:Int->Bool)(its:List (Int×Int)):f7 [.lst ((its.filter λz=>p z.1).map λz=>D.int z.2)]=aa (.int (gt p its)):=by
 rw[JW,CL];rfl
theorem wU:∀{bs:List Bool} {us:LVa},aG (bs.map V.bl) us->us=bs.map gq
 | [],_,.nil=>rfl
 |b::bs,_,.cons r t=>by
  rw[wU t];cases (show _=gq b from r);rfl
theorem JX(bs:List Bool):((bF bs.length).all λi=>(bs[i]?).getD ab)=bs.all id:=by
 rw[jo,all_eq_true,all_eq_true];constructor
 .intro h b hb;obtain⟨i,hi,e⟩:=List.getElem_of_mem hb;have:=h i (eY.mpr hi);simp only[dk hi,nB,e]at this;exact this
 .intro h i hi;have hi':=eY.mp hi;simp only[dk hi',nB];exact h _ (jV hi')
theorem JY(bs:List Bool):((bF bs.length).any λi=>(bs[i]?).getD ae)=bs.any id:=by
 rw[jo,any_eq_true,any_eq_true];constructor
 .rintro⟨i,hi,e⟩;have hi':=eY.mp hi;simp only[dk hi',nB]at e;exact⟨_,jV hi',e⟩
 .rintro⟨b,hb,e⟩;obtain⟨i,hi,rfl⟩:=List.getElem_of_mem hb;exact⟨i,eY.mpr hi,by simp only[dk hi,nB];exact e⟩
theorem CN{h:Heap}{o:Obj}(hk:∀b x,b∉[h.objs.size]->(h.push o).get? b=aa x->h'.get? b=aa x):∀b x,h.get? b=aa x->h'.get? b=aa x:=
 λb x e=>hk b x (λhm=>by rw[eM.mp hm]at e;exact iu _ (bA e)) (bT _ e)
theorem JZ(hc:X.calm=ab):ia X (.builtin "all") (λxs H Q=>∃(p:Addr) (bs:List Bool),xs=[.ref p]/\SqL X.K H p (bs.map V.bl)/\Q (.bl (bs.all id)) H):=by
 intro pins s σ H xs us Q I r h;obtain⟨l,bs,rfl,hq,q⟩:=h;obtain⟨u,rfl,rx⟩:=mm r;cases rx;obtain⟨its,r',pl,hz⟩:=I.list hq;have e:=wU r';subst e;have hl:=pl.isList;have hlt:l<s.heap.objs.size:=by obtain⟨_,e,_⟩:=hl;exact bA e
 refine call_all_walk (rK hl ?_)
 refine⟨s.heap.objs.size,[s.heap.objs.size,l],[s.heap.objs.size],(bs.map gq).toArray.size,_,_,λi=>(bs[i]?).getD ab,rfl,Walks.list (A:=X.A.in1) (I.ok.hd hc) _ l (ca hlt) (bs.map gq).toArray,
  ⟨⟨_,dn _ rfl,rfl,rfl⟩,hl.push _⟩,λi v s' Q' E' hP hQ=>?_,λh' tk hk=>?_⟩
 .have hP':(bs.map gq)[i]?=aa v:=by simpa using hP
  obtain⟨b,e,rfl⟩:=mM hP';simp only[e,nB]at hQ;exact lV hQ
 .have e:((bF (bs.map gq).toArray.size).all λi=>(bs[i]?).getD ab)=bs.all id:=by
   rw[size_toArray,aH];exact JX bs
  rw[e];exact⟨.bl (bs.all id),H,I.kept (CN hk),rfl,q⟩
theorem J0(hc:X.calm=ab):ia X (.builtin "any") (λxs H Q=>∃(p:Addr) (bs:List Bool),xs=[.ref p]/\SqL X.K H p (bs.map V.bl)/\Q (.bl (bs.any id)) H):=by
 intro pins s σ H xs us Q I r h;obtain⟨l,bs,rfl,hq,q⟩:=h;obtain⟨u,rfl,rx⟩:=mm r;cases rx;obtain⟨its,r',pl,hz⟩:=I.list hq;have e:=wU r';subst e;have hl:=pl.isList;have hlt:l<s.heap.objs.size:=by obtain⟨_,e,_⟩:=hl;exact bA e
 refine call_any_walk (rK hl ?_)
 refine⟨s.heap.objs.size,[s.heap.objs.size,l],[s.heap.objs.size],(bs.map gq).toArray.size,_,_,λi=>(bs[i]?).getD ae,rfl,Walks.list (A:=X.A.in1) (I.ok.hd hc) _ l (ca hlt) (bs.map gq).toArray,
  ⟨⟨_,dn _ rfl,rfl,rfl⟩,hl.push _⟩,λi v s' Q' E' hP hQ=>?_,λh' tk hk=>?_⟩
 .have hP':(bs.map gq)[i]?=aa v:=by simpa using hP
  obtain⟨b,e,rfl⟩:=mM hP';simp only[e,nB]at hQ;exact lV hQ
 .have e:((bF (bs.map gq).toArray.size).any λi=>(bs[i]?).getD ae)=bs.any id:=by
   rw[size_toArray,aH];exact JY bs
  rw[e];exact⟨.bl (bs.any id),H,I.kept (CN hk),rfl,q⟩
noncomputable def gC:LD->Option (List Bool)
 | []=>aa []
 |.bl b::ds=>(gC ds).map λr=>b::r
 | _=>ac
theorem CO:∀{ds:LD} {bs:List Bool},gC ds=aa bs->ds=bs.map D.bl
 | [],_,e=>by cases e;rfl
 |.bl b::ds,_,e=>by
  unfold gC at e
  cases es:gC ds with
  |none=>rw[es]at e;cases e
  |some r=>rw[es]at e;cases e;rw[CO es];rfl
 |.int _::_,_,e=>by cases e
 |.non::_,_,e=>by cases e
 |.str _::_,_,e=>by cases e
 |.lst _::_,_,e=>by cases e
 |.tup _::_,_,e=>by cases e
 |.kl _::_,_,e=>by cases e
 |.kt _::_,_,e=>by cases e
 |.dic _ _::_,_,e=>by cases e
 |.ins _ _ _::_,_,e=>by cases e
theorem tj(bs:List Bool):gC (bs.map D.bl)=aa bs:=by
 induction bs with
 |nil=>rfl
 |cons n ns ih=>rw[bn,gC,ih];rfl
theorem am.bls{G:Gc}{H:Hp}:∀{bs:List Bool} {vs:List V},am G H (bs.map D.bl) vs->vs=bs.map V.bl
 | [],_,h=>h
 |b::bs,_,q2_=>by
  obtain⟨v,r,e,h1,h2⟩:=q2_;subst e;rw[am.bls h2,show v=V.bl b from h1];rfl
noncomputable def iK:LD->OD
 | [d]=>(lsD d).bind λds=>(gC ds).map λbs=>.bl (bs.all id)
 | _=>ac
noncomputable def mR:LD->OD
 | [d]=>(lsD d).bind λds=>(gC ds).map λbs=>.bl (bs.any id)
 | _=>ac
theorem tm{f:List Bool->D}(e:(match ds with | [d]=>(lsD d).bind λds=>(gC ds).map f | _=>ac)=aa d):∃d0 xs bs,ds=[d0]/\lsD d0=aa xs/\xs=bs.map D.bl/\d=f bs:=by
 split at e
 .rename_i d0
  cases e1:lsD d0 with
  |none=>rw[e1]at e;cases e
  |some xs=>
   rw[e1]at e;replace e:(gC xs).map f=aa d:=e
   cases e2:gC xs with
   |none=>rw[e2]at e;cases e
   |some bs=>rw[e2]at e;cases e;exact⟨d0,xs,bs,rfl,e1,CO e2,rfl⟩
 .cases e
theorem qb(hc:X.calm=ab):mH c X (.builtin "all") iK:=by
 rintro pins s σ H vs us Q I rv ⟨Hf,ds,d,s0,r,e,k⟩;obtain⟨d0,xs,bs,rfl,e1,rfl,rfl⟩:=tm e;obtain⟨v,ev,r1⟩:=r.one;subst ev;obtain⟨a,ws,ea,q,rs⟩:=jA e1 r1;subst ea;refine JZ hc pins s σ H _ us Q I rv ⟨a,bs,rfl,?_,k _ Hf H (Ext.refl s0) rfl⟩;rw[<- rs.bls];exact s0.seq q
theorem wV(hc:X.calm=ab):mH c X (.builtin "any") mR:=by
 rintro pins s σ H vs us Q I rv ⟨Hf,ds,d,s0,r,e,k⟩;obtain⟨d0,xs,bs,rfl,e1,rfl,rfl⟩:=tm e;obtain⟨v,ev,r1⟩:=r.one;subst ev;obtain⟨a,ws,ea,q,rs⟩:=jA e1 r1;subst ea;refine J0 hc pins s σ H _ us Q I rv ⟨a,bs,rfl,?_,k _ Hf H (Ext.refl s0) rfl⟩;rw[<- rs.bls];exact s0.seq q
theorem qd:∀ds d,iK ds=aa d->d.scalar=ab:=λds d e=>by
 obtain⟨d0,xs,bs,rfl,e1,rfl,rfl⟩:=tm e;rfl
theorem wW:∀ds d,mR ds=aa d->d.scalar=ab:=λds d e=>by
 obtain⟨d0,xs,bs,rfl,e1,rfl,rfl⟩:=tm e;rfl
theorem J1(bs:List Bool):iK [.lst (bs.map D.bl)]=aa (.bl (bs.all id)):=by
 show(gC (bs.map D.bl)).map _=_;rw[tj];rfl
theorem J2(bs:List Bool):mR [.lst (bs.map D.bl)]=aa (.bl (bs.any id)):=by
 show(gC (bs.map D.bl)).map _=_;rw[tj];rfl
inductive Wrd where
 |make |may |never
 deriving DecidableEq
noncomputable def Wrd.s:Wrd->Str
 |.make=>"make"
 |.may=>"may"
 |.never=>"never"
structure Rul where
 w:Wrd
 hd:Int
 ps:List Prt
noncomputable def Rul.hdD(r:Rul):D:=match r.w with
 |.never=>.non
 | _=>.int r.hd
noncomputable def Rul.toD(r:Rul):D:=.tup [.str r.w.s,r.hdD,.lst (r.ps.map Prt.toD)]
structure Rul.Ok(n:Nat)(r:Rul):Prop where
 hd:r.w≠.never->0<=r.hd/\r.hd<(n:Int)
 ps:∀p∈r.ps,p.Ok n
 len:r.ps.length<=100000
noncomputable def Rul.bodySure(r:Rul)(es:List (Option Bool)):Bool:=r.ps.all λp=>p.sure es
noncomputable def Rul.bodyLost(r:Rul)(es:List (Option Bool))(ws:List Bool):Bool:=r.ps.any λp=>p.lost es ws
noncomputable def Rul.surely(r:Rul)(es:List (Option Bool)):Bool:=match r.w with
 |.may=>ae
 |.make=>(es.getD r.hd.toNat ac==aa ae) && r.bodySure es
 |.never=>r.bodySure es
theorem J3{α:Type}(f:α->Bool)(xs:List α):(xs.map λx=>D.bl (f x))=(xs.map f).map D.bl:=by
 rw[map_map];rfl
theorem all_map(f:Prt->Bool)(xs:List Prt):iK [.lst (xs.map λx=>D.bl (f x))]=aa (.bl (xs.all f)):=by
 rw[J3,J1,rB];rfl
theorem J4(l:List Bool):(bs l).map shD=l.map D.bl:=by
 unfold bs;rw[map_map];rfl
variable{i:Nat}
theorem mS{l:List Bool}(h:i<l.length):(bs l).getD i ac=aa (l.getD i ae):=by
 unfold bs;rw[bD,bD,cD];simp[h]
theorem ox{p q:Int->Bool}:∀{its:List (Int×Int)},(∀z∈its,0<=z.2/\(p z.1=ab->q z.1=ab))->gt p its<=gt q its
 | [],_=>Int.le_refl _
 |z::its,h=>by
  have ih:=ox (its:=its) λy hy=>h y (bv _ hy);obtain⟨h0,h1⟩:=h z aO;unfold gt at ih ⊢
  cases hp:p z.1 with
  |true=>
   have hq:=h1 hp;rw[jU (by simpa using hp),jU (by simpa using hq),bn,bn,sum_cons,sum_cons]
   omega
  |false=>
   rw[lL (by simp[hp])]
   cases hq:q z.1 with
   |true=>
    rw[jU (by simpa using hq),bn,sum_cons]
    omega
   |false=>
    rw[lL (by simp[hq])];exact ih
structure dF(es es':List (Option Bool)):Prop where
 len:es'.length=es.length
 at':∀i,es.getD i ac=ac\/es'.getD i ac=es.getD i ac
structure qe(ws ws':List Bool):Prop where
 len:ws'.length=ws.length
 at':∀i,ws.getD i ae=ab->ws'.getD i ae=ab
theorem dF.refl(es:List (Option Bool)):dF es es:=⟨rfl,λ_=>.inr rfl⟩
theorem qe.refl(ws:List Bool):qe ws ws:=⟨rfl,λ_ h=>h⟩
variable{es es':List (Option Bool)}
theorem J5{p:Prt}(f:dF es es')(h:p.Ok es.length)(s:p.sure es=ab):p.sure es'=ab:=by
 have key:∀{i:Nat} {b:Bool},(es.getD i ac==aa b)=ab->(es'.getD i ac==aa b)=ab:=λ{i b} e=>by
  rcases f.at' i with z |z
  .rw[z]at e;cases b <;> cases e
  .rw[z];exact e
 have key2:∀{i:Nat},(!(es'.getD i ac==aa ae))=ab->(!(es.getD i ac==aa ae))=ab:=λ{i} e=>by
  cases q:(es.getD i ac==aa ae)with
  |false=>rfl
  |true=>rw[key q]at e;exact e
 cases p with
 |inn t=>exact key s
 |out t=>exact key s
 |least k its=>
  have s:k<=bx (·==aa ab) es its:=of_decide_eq_true s;refine decide_eq_true (Int.le_trans s ?_);rw[kg,kg]
  exact ox λz hz=>⟨(h.1 z hz).2.2,λe=>key e⟩
 |most k its=>
  have s:bx (λe=>!(e==aa ae)) es its<=k:=of_decide_eq_true s;refine decide_eq_true (Int.le_trans ?_ s);rw[kg,kg];exact ox λz hz=>⟨(h.1 z hz).2.2,λe=>key2 e⟩
variable{ws:List Bool}
theorem CP{ws':List Bool}{p:Prt}(f:dF es es')(g:qe ws ws')(h:p.Ok es.length)(s:p.lost es ws=ab):p.lost es' ws'=ab:=by
 have key:∀{i:Nat} {b:Bool},(es.getD i ac==aa b)=ab->(es'.getD i ac==aa b)=ab:=λ{i b} e=>by
  rcases f.at' i with z |z
  .rw[z]at e;cases b <;> cases e
  .rw[z];exact e
 cases p with
 |inn t=>
  have s:((es.getD t.toNat ac==aa ae) || ws.getD t.toNat ae)=ab:=s;show((es'.getD t.toNat ac==aa ae) || ws'.getD t.toNat ae)=ab;rw[jp]at s ⊢
  exact s.imp key (g.at' _)
 |out t=>exact key s
 |least k its=>
  have s:gt (λt=>!(es.getD t.toNat ac==aa ae) && !(ws.getD t.toNat ae)) its<k:=of_decide_eq_true s;refine decide_eq_true (Int.lt_of_le_of_lt (ox λz hz=>⟨(h.1 z hz).2.2,λe=>?_⟩) s);rw[cg]at e ⊢;refine⟨?_,?_⟩
  .cases q:(es.getD z.1.toNat ac==aa ae)with
   |false=>rfl
   |true=>rw[key q]at e;exact e.1
  .cases q:ws.getD z.1.toNat ae with
   |false=>rfl
   |true=>rw[g.at' _ q]at e;exact e.2
 |most k its=>
  have s:k<bx (·==aa ab) es its:=of_decide_eq_true s;refine decide_eq_true (Int.lt_of_lt_of_le s ?_);rw[kg,kg];exact ox λz hz=>⟨(h.1 z hz).2.2,λe=>key e⟩
theorem tq{l:List Bool}{t:Int}(h0:0<=t)(h1:t<(l.length:Int))(b:Bool):((bs l).getD t.toNat ac==aa b)=(l.getD t.toNat ae==b):=by
 rw[mS (by omega)]
 cases l.getD t.toNat ae <;> cases b <;> rfl
theorem J6{α:Type}{p q:α->Bool}{xs:List α}(h:∀x∈xs,p x=ab->q x=ab)(s:xs.all p=ab):xs.all q=ab:=by
 rw[all_eq_true]at s ⊢;exact λx hx=>h x hx (s x hx)
theorem CQ{α:Type}{p q:α->Bool}{xs:List α}(h:∀x∈xs,p x=ab->q x=ab)(s:xs.any p=ab):xs.any q=ab:=by
 rw[any_eq_true]at s ⊢;obtain⟨x,hx,e⟩:=s;exact⟨x,hx,h x hx e⟩
theorem J7{r:Rul}(f:dF es es')(h:r.Ok es.length)(s:r.surely es=ab):r.surely es'=ab:=by
 have hb:r.bodySure es=ab->r.bodySure es'=ab:=λs=>J6 (λp hp s=>J5 f (h.ps p hp) s) s;obtain⟨w,hd,ps⟩:=r
 cases w with
 |may=>cases s
 |never=>exact hb s
 |make=>
  have s:((es.getD hd.toNat ac==aa ae) && Rul.bodySure ⟨.make,hd,ps⟩ es)=ab:=s;show((es'.getD hd.toNat ac==aa ae) && Rul.bodySure ⟨.make,hd,ps⟩ es')=ab;rw[cg]at s ⊢;refine⟨?_,hb s.2⟩
  rcases f.at' hd.toNat with z |z
  .rw[z]at s;cases s.1
  .rw[z];exact s.1
noncomputable def Ite(K:aX)(l:Addr):It:=
  ⟨λi H=> ∃xs x, SqL K H l xs/\xs[i]? = aa x,
   λi H v H'=> ∃p x, v = .ref p/\H p = ac/\H' = upd H p (.tup [.int i, x])/\(∀xs, SqL K H l xs->xs[i]? = aa x),
   λi H=> ∃xs, SqL K H l xs/\xs.length<=i⟩
theorem J8(e it l:Addr)(ne:e≠it):
  ke P w K (.Tuple elts kx pos) (Ite K l) [e,it] e (λi h=>(∃old,IsEnum h e it (i:Int) old)/\h.IsListIter it l i) where
 mem:=by simp
 obj:=λi h st b hb=>by
  obtain⟨⟨old,he⟩,⟨o1,e1,_,d1⟩⟩:=st;simp only[aW,cE,or_false]at hb
  rcases hb with rfl |rfl
  .exact⟨_,he,λv q=>by cases q⟩
  .exact⟨o1,e1,λv q=>by rw[d1]at q;cases q⟩
 keep:=λi h h' st k=>by
  obtain⟨⟨old,he⟩,h1⟩:=st;exact⟨⟨old,k e (by simp) _ he⟩,h1.at λo q=>k it (by simp) o q⟩
 item:=by
  intro X hP hw hK hc i pins s σ H E I hf st hg;subst hP hw hK;obtain⟨⟨old,he⟩,h1⟩:=st;obtain⟨xs,x,q1,hx⟩:=hg;obtain⟨its1,r1,p1,z1⟩:=I.list q1;obtain⟨u1,e1,ru1⟩:=r1.get hx;refine wpAny_pyNext_enum_item he h1 p1.isList (x:=u1) (by simpa using e1) ne λh' a1 a3 a5 a6 a7=>⟨_,rfl,?_⟩
  refine wpAny_letOwnedTupleGo_enum (s:={s with heap:=h',toks:=s.toks+1}) a1 λh'' b1 b2=>?_
  have lt:∀b∈[e,it],b<s.heap.objs.size:=λb hb=>by
   simp only[aW,cE,or_false]at hb
   rcases hb with rfl |rfl
   .exact bA he
   .obtain⟨o,e,_⟩:=h1;exact bA e
  have kk:∀b o,b∉[e,it]->s.heap.get? b=aa o->h''.get? b=aa o:=λb o hb e=>by
   simp only[aW,cE,or_false,not_or]at hb;obtain⟨n1,n2⟩:=hb;exact(b2.2 b n1).trans (a7 b o n1 n2 e)
  have fr:H s.heap.objs.size=ac:=I.hok.fresh (aL _)
  have I1:Inv X pins σ H {s with heap:=h'',toks:=s.toks+1}:=I.turnedMany (t':=s.toks+1) kk hf
  have hp:h''.get? s.heap.objs.size=aa {cls:=.type "tuple",data:=.seq #[.int i s.toks,u1]}:=(b2.2 _ (nz (lt e (by simp)))).trans a5
  have I2:Inv X pins σ (upd H s.heap.objs.size (.tup [.int i,x])) {s with heap:=h'',toks:=s.toks+1}:=
   I1.track (I.fpOk (aL _) fr) ⟨(by show 2<=aS;decide),[.int i s.toks,u1],.cons ⟨s.toks,rfl⟩ (.cons ru1 .nil),⟨_,hp,rfl,_,rfl⟩⟩
  refine⟨.ref s.heap.objs.size,_,I2,rfl,⟨_,x,rfl,fr,rfl,λxs' h=>by rw[I.list_inj h q1];exact hx⟩,⟨⟨u1,?_⟩,?_⟩,λb hb=>?_⟩
  .have:((i+1:Nat):Int)=(i:Int)+1:=by push_cast;rfl
   rw[this];exact b1
  .exact a3.at λo q=>(b2.2 it (gm ne)).trans q
  .rw[aK (ca (lt b hb))];exact(hf b hb).1
 done:=by
  intro X hP hw hK hc i pins s σ H E I hf st hg;subst hP hw hK;obtain⟨⟨old,he⟩,h1⟩:=st;obtain⟨xs,q1,hend⟩:=hg;obtain⟨its1,r1,p1,z1⟩:=I.list q1;have l1':=r1.length;refine wpAny_pyNext_enum_end (I.ok.hd hc) he h1 p1.isList (by simp;omega) λh' kk=>⟨rfl,I.turnedMany (t':=s.toks) (ch:=[e,it]) (λb o hb q=>?_) hf⟩;simp only[aW,cE,or_false,not_or]at hb;exact kk b o hb.2 q
 self:=λ_ _ _ _ _ st h=>by obtain⟨⟨old,he⟩,_⟩:=st;exact wpAny_pyIter_enum he h
def J9(K:aX)(ta:TA):TI:=λσ H R=>ta σ H λvs H1=>∃l,vs=[.ref l]/\(∃xs,SqL K H1 l xs)/\R (Ite K l) H1
variable{a:Expr}
theorem CS(hg:Gl X "enumerate")(hm:X.mg "enumerate"=ac)(ha:PA X [a] ta)(hs:ba [a] X.env=[(ae,eval a X.env)]:=by rfl):
  PI X (.Tuple elts kx tpos) (.Call (.Name "enumerate" p) [a] [] pos) (J9 X.K ta):=by
 intro pins s σ H R I h;refine Call_ (kc I hg hm boot_enumerate (py (thn (ha pos pins s σ H _ I h) λus s1 ⟨vs,H1,I1,r1,q1⟩=>?_) (by rw[hs];rfl) (by rfl)));obtain⟨l,e,⟨xs,h1⟩,q⟩:=q1;subst e;obtain⟨u,rfl,ru⟩:=mm r1;cases ru;obtain⟨its1,r1,p1,z1⟩:=I1.list h1;refine call_enumerate_list p1.isList λh' a1 a4 a6 a7=>?_;refine wpAny_pyIter_enum a1 ?_
 have I2:Inv X pins σ H1 {s1 with heap:=h'}:=I1.kept (t':=s1.toks) a7
 refine⟨_,[s1.heap.objs.size+1,s1.heap.objs.size],_,_,H1,rfl,I2,J8 _ _ _ (Nat.succ_ne_self _),⟨⟨_,a1⟩,a4⟩,λb hb=>?_,q⟩;simp only[aW,cE,or_false]at hb
 have hle:s1.heap.objs.size<=b:=by
  rcases hb with rfl |rfl
  .exact nv _ _
  .exact aL _
 exact I1.fpOk hle (I1.hok.fresh hle)
noncomputable def ig:Nat->LD->LD
 | _,[]=>[]
 |i,x::xs=>.tup [.int i,x]::ig (i+1) xs
theorem wX:∀(i:Nat) (xs:LD),(ig i xs).length=xs.length
 | _,[]=>rfl
 |i,x::xs=>by rw[ig,b9,b9,wX]
theorem wY:∀(k:Nat) (xs:LD) (i:Nat),(ig k xs)[i]?=(xs[i]?).map λx=>.tup [.int (k+i:Nat),x]
 | _,[],_=>rfl
 |k,x::xs,0=>rfl
 |k,x::xs,i+1=>by rw[ig,eW,eW,wY (k+1) xs i,show k+1+i=k+(i+1) by omega]
noncomputable def wZ:LD->OLD
 | [x]=>(lsD x).map (ig 0)
 | _=>ac
noncomputable def mT(f:MF2)(U:LS):OLD:=(f U).bind wZ
theorem CT{f:MF2}(hg:Gl X "enumerate")(hm:X.mg "enumerate"=ac)(ha:DA c X [a] f)(hs:ba [a] X.env=[(ae,eval a X.env)]:=by rfl):
  DI c X (.Tuple elts kx tpos) (.Call (.Name "enumerate" p) [a] [] pos) (mT f):=
 PI.imp (CS hg hm ha.pa hs) λσ H R q_=>by
  obtain⟨Hf0,H0,Hf,U,ds,st,ef,k⟩:=q_;unfold mT at ef
  cases e1:f U with
  |none=>rw[e1]at ef;cases ef
  |some as=>
   rw[e1]at ef;replace ef:wZ as=aa ds:=ef;refine⟨Hf0,H0,Hf,U,as,st,e1,λvs Hf' H' x r=>?_⟩;unfold wZ at ef;split at ef
   .rename_i dx
    cases ex:lsD dx with
    |none=>rw[ex]at ef;cases ef
    |some xs=>
     rw[ex]at ef;cases ef;obtain⟨v,ev,rv⟩:=r.one;obtain⟨l1,w1,el1,q1,r1⟩:=jA ex rv;subst el1;refine⟨l1,ev,⟨w1,x.s.seq q1⟩,k _ Hf' H' x λHf2 H2 f2 s2 i=>?_⟩;have g1:SqL X.K H2 l1 w1:=(f2.trans s2).seq q1;have h1:=r1.length;refine⟨λd ed=>?_,λei=>⟨w1,g1,by rw[wX]at ei;omega⟩⟩;rw[wY]at ed
     cases hx:xs[i]? with
     |none=>rw[hx]at ed;cases ed
     |some x'=>
      rw[hx]at ed;cases ed;obtain⟨u1,eu1,ru1⟩:=r1.get hx;refine⟨⟨w1,u1,g1,eu1⟩,λz H3 ⟨pp,z1,ez,hp,eh,y1⟩=>?_⟩;subst ez eh;have a1:=y1 w1 g1;rw[eu1]at a1;cases a1;exact⟨upd Hf2 pp (.tup [.int i,u1]),Ext.new s2 hp,pp,[.int i,u1],rfl,be,.cons (by rw[nA];rfl) (.cons (ru1.up (f2.trans (bR (s2.free hp)))) .nil)⟩
   .cases ef
noncomputable def jF:D->Option Key
 |.int i=>aa (.inl i)
 |.str x=>aa (.inr x)
 | _=>ac
variable{k:Key}
theorem tu(e:jF d=aa k)(r:Rep G H d v):v=kV k:=by
 cases d <;> first |(cases e;done) |(cases e;exact r)
noncomputable def fM(ks:List Key)(k:Key):Bool:=ks.any λj=>decide (j=k)
noncomputable def gD{α:Type}(ks:List Key)(xs:List α)(k:Key)(x:α):List α:=if fM ks k=ab then np (λj y=>if j=k then x else y) ks xs else xs++[x]
noncomputable def ga(ks:List Key)(k:Key):List Key:=if fM ks k=ab then ks else ks++[k]
theorem CU{ks:List Key}{k:Key}{v:V}:∀{ks:List Key} {vs:List V},(ks.zip vs).map (λkv=>if kv.1=k then (kv.1,v) else kv)=ks.zip (np (λj y=>if j=k then v else y) ks vs)
 | [],_=>rfl
 | _::_,[]=>rfl
 |j::ks,y::vs=>by
  rw[d9,bn,rq,d9,CU (ks:=ks)]
  by_cases h:j=k
  .subst h;simp
  .simp[h]
theorem w4{k:Key}:∀{ks:List Key} {vs:List V},ks.length=vs.length->((ks.zip vs).any λkv=>decide (kv.1=k))=fM ks k
 | [],[],_=>rfl
 | [],_::_,h=>by cases h
 | _::_,[],h=>by cases h
 |j::ks,y::vs,h=>by
  unfold fM;rw[d9,gM,gM,w4 (by simpa using h)];rfl
variable{ks:List Key}
theorem Ka(h:ks.length=vs.length):dD (ks.zip vs) k v=(ga ks k).zip (gD ks vs k v):=by
 unfold dD ga gD;rw[w4 h]
 by_cases e:fM ks k=ab
 .rw[if_pos e,if_pos e,if_pos e,CU (ks:=ks)]
 .rw[if_neg e,if_neg e,if_neg e,zip_append h];rfl
theorem lw{α:Type}{vs:List α}{v:α}(h:ks.length=vs.length):(ga ks k).length=(gD ks vs k v).length:=by
 unfold ga gD
 by_cases e:fM ks k=ab
 .rw[if_pos e,if_pos e,length_zipWith];omega
 .rw[if_neg e,if_neg e,a9,a9,h];rfl
theorem am.zipW{G:Gc}{H:Hp}{k:Key}{d:D}{v:V}(q:Rep G H d v):∀{ks:List Key} {ds:LD} {vs:List V},am G H ds vs->am G H (np (λj y=>if j=k then d else y) ks ds) (np (λj y=>if j=k then v else y) ks vs)
 | [],_,_,_=>.nil
 | _::_,[],_,h=>by cases (show _=[]from h);exact .nil
 |j::ks,x::ds,_,q3_=>by
  obtain⟨u,r,e,h1,h2⟩:=q3_;subst e;rw[rq,rq];refine .cons ?_ (am.zipW q h2)
  by_cases e:j=k
  .rw[if_pos e,if_pos e];exact q
  .rw[if_neg e,if_neg e];exact h1
theorem am.put(r:am G H ds vs)(q:Rep G H d v):am G H (gD ks ds k d) (gD ks vs k v):=by
 unfold gD
 by_cases e:fM ks k=ab
 .rw[if_pos e,if_pos e];exact r.zipW q
 .rw[if_neg e,if_neg e];exact r.append (.cons q .nil)
noncomputable def tz(i:Nat)(U:LS):Option Fl:=aa (.nx (U.set i (.ownd [] [])))
noncomputable def ko(i:Nat)(fk fv:MF1)(U:LS):Option Fl:=(fv U).bind λd=>(fk U).bind λx=>(jF x).bind λk=>match U[i]? with
 |some (.ownd ks xs)=>if ks.length<16777216 then aa (.nx (U.set i (.ownd (ga ks k) (gD ks xs k d)))) else ac
 | _=>ac
noncomputable def w5(x y:D):OD:=(jF x).bind λk=>match y with
 |.dic ks _=>aa (.bl (fM ks k))
 | _=>ac
theorem Kb(hp:PS X st (iF B6 (gU i))):DS c X st (tz i):=PS.imp hp λE σ H q_=>by
 obtain⟨Hf0,H0,Hf,U,o,so,ef,k⟩:=q_;cases ef;intro q hq;have x:Ext Hf H Hf (upd H q (.dK [])):=Ext.tmp so.sub hq;exact k _ Hf _ x.f (so.setOwn (s:=.ownd [] []) rfl x hq (so.sub.free hq) ⟨[],be,rfl,.nil⟩)
variable{p':Pos}
theorem CV(i:Nat)(hN:X.N.Nodup)(hi:X.N[i]?=aa x:=by rfl)(hx:Loc X.env.scope x:=by first |exact cv rfl |exact bO rfl)(hs:gn (.Dict [] [] pos) (aa (.Name x pos')) p'.line X.env=pure ae:=by rfl)(hf:LcF X x:=by first |exact .inl rfl |exact .inr rfl):
  DS c X (.Assign [.Name x pos'] (.Dict [] [] pos) p') (tz i):=Kb (ml hN hi hx IX hs hf)
variable{fk fv:MF1}
theorem Kc(hp:PS X st (wm (dq i) (tD (Gx c X) fk) (tD (Gx c X) fv))):DS c X st (ko i fk fv):=PS.imp hp λE σ H q_=>by
 obtain⟨Hf0,H0,Hf,U,o,so,ef,k⟩:=q_;unfold ko at ef
 cases e1:fv U with
 |none=>rw[e1]at ef;cases ef
 |some d=>
  rw[e1]at ef
  cases e2:fk U with
  |none=>rw[e2]at ef;cases ef
  |some x=>
   rw[e2]at ef
   cases e3:jF x with
   |none=>rw[aC,aC,e3]at ef;cases ef
   |some ky=>
    rw[aC,aC,e3]at ef
    replace ef:(match U[i]? with |some (.ownd ks xs)=>if ks.length<16777216 then aa (Fl.nx (U.set i (.ownd (ga ks ky) (gD ks xs ky d)))) else ac | _=>ac)=aa o:=ef
    split at ef
    .rename_i ks xs es;split at ef
     .rename_i hl;cases ef;refine⟨Hf0,H0,Hf,U,d,so,e1,λv Hf1 H1 x1 r1=>?_⟩;have so1:=so.step x1;obtain⟨l,el,h0,hf,vs,q,z,r⟩:=so1.ownAt rfl es;refine⟨_,el,Hf0,H0,Hf1,U,x,so1,e2,λy Hf2 H2 x2 r2=>?_⟩;have so2:=so1.step x2;have q2:=x2.h _ _ q;have ey:=tu e3 r2;subst ey;refine⟨l,_,rfl,k9.k q2 (by rw[dL,lP];omega),?_⟩;refine k σ Hf2 _ (x1.f.trans x2.f) (so2.mutd (s:=.ownd ks xs) (s':=.ownd (ga ks ky) (gD ks xs ky d)) rfl rfl es el ⟨gD ks vs ky v,?_,lw z,(r.up x2.f).put (r1.up x2.f)⟩);rw[be,Ka z]
     .cases ef
    .cases ef
variable{i' value:Expr}
theorem CW(hu:X.A.units+64<cLine)(ho:PE X e (dq i))(hk:DE c X i' fk)(hv:DE c X value fv)(hs:gn value (aa (.Subscript e i' pos')) pos.line X.env=pure ae:=by rfl):
  DS c X (.Assign [.Subscript e i' pos'] value pos) (ko i fk fv):=Kc (B5 (by omega) ho hk hv hs)
theorem Kd:∀{ks:List Key} {vs:List V},ks.length=vs.length->(cR (ks.zip vs) k).isSome=fM ks k:=λ{ks vs} h=>by
 rw[<- si,w4 h]
variable{b:Expr}
theorem Ke(hu:X.A.units+64<cLine)(ha:DE c X a f)(hb:DE c X b g)(hm:kQ .In b=ae:=by first |exact nobehind _ (by decide) (by decide) |rfl):DE c X (.Compare a [.In] [b] pos) (m2 w5 f g):=
 PE.imp (Gz (IT (by omega) ha hb) hm) λσ H Q q_=>by
  obtain⟨Hf0,H0,Hf,U,d,st,ef,k⟩:=q_;obtain⟨x,y,e1,e2,e3⟩:=sw ef;refine⟨Hf0,H0,Hf,U,x,st,e1,λv Hf1 H1 x1 r1=>⟨Hf0,H0,Hf1,U,y,st.step x1,e2,λu Hf2 H2 x2 r2=>?_⟩⟩;unfold w5 at e3
  cases ek:jF x with
  |none=>rw[ek]at e3;cases e3
  |some ky=>
   rw[ek]at e3
   cases y with
   |dic ks xs=>
    cases e3;obtain⟨l,vs,el,q,z,r⟩:=r2;have ev:=tu ek r1;subst ev el;refine⟨l,_,rfl,gs.k (x2.s _ _ q),k _ Hf2 H2 (x1.trans x2) ?_⟩;rw[Kd z]
    rfl
   | _=>cases e3
noncomputable def lx(i:Nat)(fk fv:MF1)(U:LS):Option Fl:=(fv U).bind λd=>(fk U).bind λx=>match x with
 | .int k=>(match U[i]? with
  |some (.own xs)=>(ixN xs.length k).map λj=>.nx (U.set i (.own (xs.set j d)))
  | _=>ac)
 | _=>ac
theorem Kf(hp:PS X st (iF (tD (Gx c X) fv) (vJ (dq i) (tD (Gx c X) fk) vZ))):DS c X st (lx i fk fv):=PS.imp hp λE σ H q_=>by
 obtain⟨Hf0,H0,Hf,U,o,so,ef,k⟩:=q_;unfold lx at ef
 cases e1:fv U with
 |none=>rw[e1]at ef;cases ef
 |some d=>
  rw[e1]at ef
  cases e2:fk U with
  |none=>rw[e2]at ef;cases ef
  |some x=>
   rw[e2]at ef
   obtain⟨ky,rfl⟩:∃ky,x=.int ky:=by cases x <;> first |exact⟨_,rfl⟩ |cases ef
   replace ef:(match U[i]? with |some (.own xs)=>(ixN xs.length ky).map λj=>Fl.nx (U.set i (.own (xs.set j d))) | _=>ac)=aa o:=ef
   split at ef
   .rename_i xs es
    cases ej:ixN xs.length ky with
    |none=>rw[ej]at ef;cases ef
    |some j=>
     rw[ej]at ef;cases ef;refine⟨Hf0,H0,Hf,U,d,so,e1,λv Hf1 H1 x1 r1=>?_⟩;have so1:=so.step x1;obtain⟨l,el,h0,hf,vs,q,r⟩:=so1.ownAt rfl es;refine⟨_,el,Hf0,H0,Hf1,U,.int ky,so1,e2,λy Hf2 H2 x2 r2=>?_⟩;have so2:=so1.step x2;have q2:=x2.h _ _ q;refine⟨l,vs,ky,j,rfl,r2,q2,by rw[<- r.length];exact ej,?_⟩;exact k σ Hf2 _ (x1.f.trans x2.f) (so2.mutd (s:=.own xs) (s':=.own (xs.set j d)) rfl rfl es el ⟨vs.set j v,be,(r.up x2.f).set j (r1.up x2.f)⟩)
   .cases ef
theorem CY(ho:PE X e (dq i))(hk:DE c X i' fk)(hv:DE c X value fv)(hs:swapsWithSole [.Subscript e i' pos'] value pos.line X.env=pure ae:=by rfl)(hw:swappedStores [.Subscript e i' pos'] value X.env=pure ac:=by rfl)
 (h1:(iX [.Subscript e i' pos'] X.env).map (·.2)=[iy (.Subscript e i' pos') X.env]:=by rfl)
 (ha:∀ v,iy (.Subscript e i' pos') X.env v=(do
   let ov <- fG [v] (eval e X.env)
   let iv <- fG [v,ov] (eval i' X.env)
   iw pos'
   fG [v,ov,iv] (setItem ov iv v)
   release [v,ov,iv] []):=by intro _;rfl):
  DS c X (.Assign [.Subscript e i' pos'] value pos) (lx i fk fv):=Kf (Bt hv (Bs ho hk BR ha) hs hw h1)
theorem w6{G:Gc}{H:Hp}{f:D->D->Option Bool}(hf:∀(d1 d2 x:D) (b1 b2:Bool) (v:V),Rep G H d1 v->Rep G H d2 v->f d1 x=aa b1->f d2 x=aa b2->b1=b2):
  ∀{xs1 xs2 ys:LD} {b1 b2:Bool} {vs:List V},am G H xs1 vs->am G H xs2 vs->dg f xs1 ys=aa b1->dg f xs2 ys=aa b2->b1=b2
 | [],[],[],_,_,_,_,_,h1,h2=>by cases h1;cases h2;rfl
 | [],[],_::_,_,_,_,_,_,h1,h2=>by cases h1;cases h2;rfl
 | [],_::_,_,_,_,_,r1,r2,_,_=>by have:=r1.length;have:=r2.length;simp at *;omega
 | _::_,[],_,_,_,_,r1,r2,_,_=>by have:=r1.length;have:=r2.length;simp at *;omega
 | _::_,_::_,[],_,_,_,_,_,h1,h2=>by cases h1;cases h2;rfl
 |d1::xs1,d2::xs2,y::ys,b1,b2,vs,r1,r2,h1,h2=>by
  obtain⟨v,r,e,p1,q1⟩:=r1;obtain⟨v',r',e',p2,q2⟩:=r2;subst e;cases e';obtain⟨a1,a2,e1,e2,rfl⟩:=sI h1;obtain⟨c1,c2,g1,g2,rfl⟩:=sI h2;have z1:a1=c1:=hf _ _ _ _ _ _ p1 p2 e1 g1;have z2:a2=c2:=w6 (f:=f) hf q1 q2 e2 g2;rw[z1,z2]
noncomputable def vD:V->D
 |.bl b=>.bl b
 |.int i=>.int i
 |.str x=>.str x
 | _=>.non
theorem CZ(s:d.scalar=ab)(r:Rep G H d v):d=vD v:=by
 cases d <;> first |(cases s;done) |(rw[show v=_ from r];rfl)
theorem tB{a:Addr}(s:d.scalar=ab)(r:Rep G H d (.ref a)):False:=by
 cases d <;> first |(cases s;done) |(cases (show _=_ from r))
theorem tE{G:Gc}{H:Hp}:∀(n:Nat) {d1 d2 x:D} {b1 b2:Bool} {v:V},Rep G H d1 v->Rep G H d2 v->deq n d1 x=aa b1->deq n d2 x=aa b2->b1=b2
 | 0,_,_,_,_,_,_,_,_,h,_=>by cases h
 |n+1,d1,d2,x,b1,b2,v,r1,r2,h1,h2=>by
  replace h1:mC (deq n) d1 x=aa b1:=h1;replace h2:mC (deq n) d2 x=aa b2:=h2
  have L:∀{xs ys:LD},d1=.lst xs->d2=.lst ys->b1=b2:=λ{xs ys} e1 e2=>by
   subst e1 e2;obtain⟨a,vs,e,q,rs⟩:=r1;obtain⟨a',vs',e',q',rs'⟩:=r2;rw[e]at e';cases e';rw[q]at q';cases q';have l1:=rs.length;have l2:=rs'.length
   cases x with
   |lst zs=>
    replace h1:(if xs.length=zs.length then dg (deq n) xs zs else aa ae)=aa b1:=h1;replace h2:(if ys.length=zs.length then dg (deq n) ys zs else aa ae)=aa b2:=h2
    by_cases hl:xs.length=zs.length
    .rw[if_pos hl]at h1;rw[if_pos (by omega)]at h2;exact w6 (f:=deq n) (λ_ _ _ _ _ _=>tE n) rs rs' h1 h2
    .rw[if_neg hl]at h1;rw[if_neg (by omega)]at h2
     cases h1;cases h2;rfl
   | _=>cases h1
  have T:∀{xs ys:LD},d1=.tup xs->d2=.tup ys->b1=b2:=λ{xs ys} e1 e2=>by
   subst e1 e2;obtain⟨a,vs,e,q,rs⟩:=r1;obtain⟨a',vs',e',q',rs'⟩:=r2;rw[e]at e';cases e';rw[q]at q';cases q';have l1:=rs.length;have l2:=rs'.length
   cases x with
   |tup zs=>
    replace h1:(if xs.length=zs.length then dg (deq n) xs zs else ac)=aa b1:=h1;replace h2:(if ys.length=zs.length then dg (deq n) ys zs else ac)=aa b2:=h2
    by_cases hl:xs.length=zs.length
    .rw[if_pos hl]at h1;rw[if_pos (by omega)]at h2;exact w6 (f:=deq n) (λ_ _ _ _ _ _=>tE n) rs rs' h1 h2
    .rw[if_neg hl]at h1
     cases h1
   | _=>cases h1
  have no:∀{d:D} {b:Bool},mC (deq n) d x=aa b->d.scalar=ab\/(∃xs,d=.lst xs)\/∃xs,d=.tup xs:=λ{d b} h=>by
   unfold mC at h;split at h
   .exact .inr (.inl ⟨_,rfl⟩)
   .exact .inr (.inr ⟨_,rfl⟩)
   .split at h
    .rename_i hc;rw[cg,cg]at hc;exact .inl hc.1.1
    .cases h
  rcases no h1 with s1 |⟨xs,e1⟩ |⟨xs,e1⟩
  .have:d1=d2:=by
    rcases no h2 with s2 |⟨ys,e2⟩ |⟨ys,e2⟩
    .rw[CZ s1 r1,<- CZ s2 r2]
    .subst e2;obtain⟨a,_,e,_⟩:=r2;subst e;exact(tB s1 r1).elim
    .subst e2;obtain⟨a,_,e,_⟩:=r2;subst e;exact(tB s1 r1).elim
   subst this;rw[h1]at h2;cases h2;rfl
  .rcases no h2 with s2 |⟨ys,e2⟩ |⟨ys,e2⟩
   .subst e1;obtain⟨a,_,e,_⟩:=r1;subst e;exact(tB s2 r2).elim
   .exact L e1 e2
   .subst e1 e2;obtain⟨a,vs,e,q,rs⟩:=r1;obtain⟨a',vs',e',q',rs'⟩:=r2;rw[e]at e';cases e';rw[q]at q';cases q'
  .rcases no h2 with s2 |⟨ys,e2⟩ |⟨ys,e2⟩
   .subst e1;obtain⟨a,_,e,_⟩:=r1;subst e;exact(tB s2 r2).elim
   .subst e1 e2;obtain⟨a,vs,e,q,rs⟩:=r1;obtain⟨a',vs',e',q',rs'⟩:=r2;rw[e]at e';cases e';rw[q]at q';cases q'
   .exact T e1 e2
noncomputable def fN(x:D):LD->Option Bool
 | []=>aa ae
 |d::ds=>(deq 19 d x).bind λb=>(fN x ds).map λr=>b || r
noncomputable def ij(x y:D):OD:=((iH y).bind (fN x)).map .bl
theorem C0:∀x y d,ij x y=aa d->d.scalar=ab:=λ_ _ d e=>oa (g:=id) d e
theorem C1{x:D}{b:Bool}(h:fN x (d::ds)=aa b):∃b1 b2,deq 19 d x=aa b1/\fN x ds=aa b2/\b=(b1 || b2):=by
 unfold fN at h
 cases e1:deq 19 d x with
 |none=>rw[e1]at h;cases h
 |some b1=>
  cases e2:fN x ds with
  |none=>rw[e1,e2]at h;cases h
  |some b2=>rw[e1,e2]at h;cases h;exact⟨b1,b2,rfl,rfl,rfl⟩
theorem w9{α:Type}{f g:α->Bool}:∀{l:List α},(∀x∈l,f x=g x)->l.any f=l.any g
 | [],_=>rfl
 |x::l,h=>by rw[gM,gM,h x aO,w9 λy hy=>h y (bv _ hy)]
open Classical in
theorem tF{pins:PNS}{σ:St}{H:Hp}{s:ai}{A:cP}{x:D}{vx:V}{u:Value}(I:Inv X pins σ H s)(hu:A.units+19<cLine)(rx:Rep (Gx c X) H x vx)(ru:aF vx u):
  ∀{ds:LD} {vs:List V} {us:LVa} {b:Bool},am (Gx c X) H ds vs->aG vs us->fN x ds=aa b ->
   ∃f:Value->Bool,(∀y∈us,cw A s y u (f y)/\∃d v,Rep (Gx c X) H d v/\aF v y/\deq 19 d x=aa (f y))/\us.any f=b
 | [],_,_,b,r,rv,h=>by
  cases (show _=[]from r);cases rv;cases h
  exact⟨λ_=>ae,(λy hy=>by cases hy),rfl⟩
 |d::ds,_,_,b,q4_,rv,h=>by
  obtain⟨v,r',ev,r1,r2⟩:=q4_;subst ev;obtain⟨b1,b2,h1,h2,rfl⟩:=C1 h
  cases rv with
  | @cons _ y _ us rvy rvs=>
   obtain⟨f,hf,ha⟩:=tF I hu rx ru r2 rvs h2;have eqy:cw A s y u b1:=wI I 19 hu h1 r1 rx rvy ru;refine⟨λz=>if z=y then b1 else f z,λz hz=>?_,?_⟩
   .by_cases e:z=y
    .subst e;simp only[if_true];exact⟨eqy,d,v,r1,rvy,h1⟩
    .simp only[e,if_false];exact hf z ((aW.mp hz).resolve_left e)
   .rw[gM,if_pos rfl,<- ha]
    congr 1
    by_cases hy:y∈us
    .obtain⟨_,d',v',r',rv',h'⟩:=hf y hy;have ev:v'=v:=aF.inj rv' rvy;subst ev;have eb:f y=b1:=tE 19 r' r1 h' h1;refine w9 λz hz=>?_
     by_cases e:z=y
     .subst e;simp[eb]
     .simp[e]
    .refine w9 λz hz=>?_;have e:z≠y:=λq=>hy (q▸hz);simp[e]
theorem C2(hu:X.A.units+64<cLine):OpD c X (c3 .In) ij:=by
 rintro pins s σ H v u w w' Q I rv ru ⟨Hf,x,y,d,s0,r1,r2,e,k⟩;unfold ij at e
 cases h:(iH y).bind (fN x)with
 |none=>rw[h]at e;cases e
 |some b=>
  rw[h]at e;cases e
  cases es:iH y with
  |none=>rw[es]at h;cases h
  |some ds=>
   rw[es]at h;obtain⟨a,vs,e1,q,r⟩:=pQ es (r2.up s0);subst e1;cases ru;have fin:∃v' H',Inv X pins σ H' s/\aF v' (.bool b)/\Q v' H':=⟨.bl b,H,I,rfl,k _ Hf H (Ext.refl s0) rfl⟩
   rcases q with q |q
   .obtain⟨its,rr,pl,hz⟩:=I.list q;obtain⟨f,hf,ha⟩:=tF (A:=X.A.in1) I (by rw[nI];omega) (r1.up s0) rv r rr h;refine SeqAt.in_listAt f pl.isList (λz hz=>(hf z (by simpa using hz)).1) ?_;rw[show its.toArray.any f=its.any f by simp,ha];exact fin
   .obtain⟨its,rr,pl,hz⟩:=I.tuple q;obtain⟨f,hf,ha⟩:=tF (A:=X.A.in1) I (by rw[nI];omega) (r1.up s0) rv r rr h;refine SeqAt.in_tupleAt f pl (λz hz=>(hf z (by simpa using hz)).1) ?_;rw[show its.toArray.any f=its.any f by simp,ha];exact fin
def Ris(xs:Array Nat):Prop:=xs.toList.Pairwise (· < ·)
variable{xs:Array Nat}
theorem C3(h:Ris xs){a b:Nat}(hab:a<b)(hb:b<xs.size):xs.getD a j<xs.getD b j:=by
 have h1:=pairwise_iff_getElem.mp h a b (by simpa using lS hab hb) (by simpa using hb) hab;rw[oZ,oZ,dif_pos (lS hab hb),dif_pos hb]
 simpa using h1
theorem xc(h:Ris xs){a b:Nat}(hab:a<=b)(hb:b<xs.size):xs.getD a j<=xs.getD b j:=by
 rcases Nat.eq_or_lt_of_le hab with e |e
 .subst e;exact aL _
 .exact gN (C3 h e hb)
theorem xf{xs:Array Nat}{j:Nat}(h:Ris xs):∀(fuel lo hi:Nat),lo<=hi->hi<=xs.size->hi-lo<=fuel->(∀i,i<lo->xs.getD i j<j)->(∀i,hi<=i->i<xs.size->¬xs.getD i j<j) ->
  rT xs j fuel lo hi<=xs.size/\(∀i,i<rT xs j fuel lo hi->xs.getD i j<j)/\∀i,rT xs j fuel lo hi<=i->i<xs.size->¬xs.getD i j<j
 | 0,lo,hi,h1,h2,h3,h4,h5=>by
  have e:lo=hi:=by omega
  subst e
  exact⟨h2,h4,h5⟩
 |fuel+1,lo,hi,h1,h2,h3,h4,h5=>by
  unfold rT
  by_cases hl:lo<hi
  .rw[if_pos hl]
   by_cases hm:xs.getD ((lo+hi) / 2) j<j
   .simp only[hm,if_true];refine xf h fuel ((lo+hi) / 2+1) hi (by omega) h2 (by omega) (λi hi'=>?_) h5;exact nu (xc h (by omega) (by omega)) hm
   .simp only[hm,if_false];refine xf h fuel lo ((lo+hi) / 2) (by omega) (by omega) (by omega) h4 λi hi' hs hc=>?_;exact hm (nu (xc h hi' hs) hc)
  .rw[if_neg hl];have e:lo=hi:=by omega
   subst e;exact⟨h2,h4,h5⟩
theorem xg(h:Ris xs)(j:Nat):cj xs j<=xs.size/\(∀i,i<cj xs j->xs.getD i j<j)/\∀i,cj xs j<=i->i<xs.size->¬xs.getD i j<j:=
 xf h xs.size 0 xs.size (da _) (aL _) (by omega) (λi hi=>by omega) λi hi hs=>by omega
theorem Kg(h:Ris xs)(hi:i<xs.size):cj xs (xs[i]+1)=i+1:=by
 obtain⟨h1,h2,h3⟩:=xg h (xs[i]+1);have e:xs.getD i (xs[i]+1)=xs[i]:=by rw[oZ,dif_pos hi];rfl
 by_cases hlt:cj xs (xs[i]+1)<=i
 .exact absurd (by rw[e];omega) (h3 i hlt hi)
 .by_cases hgt:i+1<cj xs (xs[i]+1)
  .have a:=h2 (i+1) hgt;have b:=C3 h (j:=xs[i]+1) (show i<i+1 by omega) (by omega);rw[e]at b;omega
  .omega
theorem Kh(h:Ris xs):cj xs 0=0:=by
 obtain⟨h1,h2,h3⟩:=xg h 0
 by_cases e:0<cj xs 0
 .have:=h2 0 e;omega
 .omega
theorem Ki(h:Ris xs)(hn:xs[cj xs j]?≠aa j):Ris (dC.insertAt xs (cj xs j) j):=by
 obtain⟨h1,h2,h3⟩:=xg h j;unfold Ris dC.insertAt;have g:∀i,(hi:i<xs.size)->xs.getD i j=xs[i]:=λi hi=>by rw[oZ,dif_pos hi];rfl
 rw[Array.toList_append,va,Array.toList_extract,Array.toList_extract];simp only[extract_eq_drop_take,Nat.sub_zero,drop_zero]
 have hlt:∀x∈xs.toList.take (cj xs j),x<j:=λx hx=>by
  obtain⟨i,hi,e⟩:=mem_take_iff_getElem.mp hx;have hi':i<cj xs j:=by omega
  have:=h2 i hi';rw[g i (by omega)]at this;rw[<- e]
  simpa using this
 have hgt:∀x∈xs.toList.drop (cj xs j),j<x:=λx hx=>by
  obtain⟨i,hi,e⟩:=mem_drop_iff_getElem.mp hx;have hs:cj xs j+i<xs.size:=by simpa[Nat.add_comm]using hi
  have a:=h3 (cj xs j+i) (by omega) hs;rw[g _ hs]at a;have ex:x=xs[cj xs j+i]:=by rw[<- e];simp
  rw[ex]
  rcases Nat.lt_or_ge j xs[cj xs j+i]with q |q
  .exact q
  .exfalso;have ej:xs[cj xs j+i]=j:=by omega
   have hb:cj xs j<xs.size:=by omega
   have b:=xc h (j:=j) (show cj xs j<=cj xs j+i by omega) hs;rw[g _ hs,g _ hb,ej]at b;have c:=h3 (cj xs j) (aL _) hb;rw[g _ hb]at c;exact hn (by rw[lK hb];congr 1;omega)
 have ed:List.take (xs.size-cj xs j) (List.drop (cj xs j) xs.toList)=List.drop (cj xs j) xs.toList:=take_of_length_le (by simp);rw[ed];refine pairwise_append.mpr ⟨pairwise_append.mpr ⟨A8 (take_sublist _ _) h,by simp,λa ha b hb=>?_⟩,A8 (drop_sublist _ _) h,λa ha b hb=>?_⟩
 .have:b=j:=by simpa using hb
  subst this;exact hlt a ha
 .rcases ci.mp ha with ha |ha
  .exact lS (hlt a ha) (hgt b hb)
  .have:a=j:=by simpa using ha
   subst this;exact hgt b hb
theorem Kj(n:Nat):Ris (Array.range n):=by
 unfold Ris;rw[Array.toList_range];exact pairwise_lt_range
variable{t:dC}
theorem C4(h:t.slot j=.empty\/t.slot j=.dummy):t.place[cj t.place j]?≠aa j:=λe=>by
 have:t.slot j=.live (cj t.place j):=by
  unfold dC.slot;simp only[e,beq_self_eq_true,if_true]
 rw[this]at h
 rcases h with h |h <;> cases h
theorem xh{t:dC}{h:Int}:∀(fuel:Nat) (p:dC.Probe) {j:Nat} {d:Option Nat},(∀d',p.dummy=aa d'->t.place[cj t.place d']?≠aa d')->dC.probe.go t (λ_=>h+1) h fuel p=aa (.empty j d) ->
  t.place[cj t.place j]?≠aa j/\∀d',d=aa d'->t.place[cj t.place d']?≠aa d'
 | 0,_,_,_,_,e=>by cases e
 |fuel+1,p,j,d,hd,e=>by
  unfold dC.probe.go at e;split at e
  .rename_i hs;cases e;exact⟨C4 (.inl hs),hd⟩
  .rename_i hs;refine xh fuel _ (λd' q=>?_) e
   have:d'=p.j:=by
    unfold dC.advance at q;split at q
    .exact(cF q).symm
    .exact(cF q).symm
   subst this;exact C4 (.inr hs)
  .rename_i i hs;split at e
   .cases e
   .refine xh fuel _ (λd' q=>hd d' ?_) e;unfold dC.advance at q
    split at q <;> exact q
theorem Kk{h:Int}{w:Bool}(e:t.freeSlot h=aa (j,w)):t.place[cj t.place j]?≠aa j:=by
 unfold dC.freeSlot at e;split at e
 .rename_i j' d hp;obtain⟨h1,h2⟩:=xh _ _ (λd' q=>by cases q) hp
  cases d with
  |none=>cases e;exact h1
  |some d'=>cases e;exact h2 _ rfl
 .cases e
theorem tG(t:dC)(n:Nat):Ris (t.standIn n).place/\(t.standIn n).led=t.led:=⟨Kj n,rfl⟩
theorem Kl(n:Nat)(h:Ris t.place):Ris (t.orStandIn n).place/\(t.orStandIn n).led=t.led:=by
 unfold dC.orStandIn;split
 .exact⟨h,rfl⟩
 .exact tG t n
theorem Km(es:Array (Int×Value))(h:Int)(x:Value)(hr:Ris t.place):Ris (layNew t es h x).2.1.place/\(layNew t es h x).2.1.led=t.led:=by
 unfold layNew;split
 .rename_i slot wd hf;exact Kl (t:=(t.put slot).1) _ (Ki hr (Kk hf))
 .exact tG t _
variable{led:Bool}
theorem Kn{mask finger moves:Nat}{plain:Bool}{hashes:Array Int}{t':dC}{order:Array Nat}(e:dC.laid mask finger moves led plain hashes=aa (t',order)):Ris t'.place/\t'.led=led:=by
 unfold dC.laid at e
 cases ho:dC.layClean mask hashes with
 |none=>rw[ho]at e;cases e
 |some owner=>
  rw[ho]at e;cases e;refine⟨?_,rfl⟩;unfold Ris;show List.Pairwise _ (List.map _ _);rw[pairwise_map,pairwise_filterMap];refine List.Pairwise.imp (λ{a b} hab=>?_) pairwise_lt_range;intro p hp q hq
  cases ha:owner.getD a ac with
  |none=>rw[ha]at hp;cases hp
  |some ka=>
   cases hb:owner.getD b ac with
   |none=>rw[hb]at hq;cases hq
   |some kb=>rw[ha]at hp;rw[hb]at hq;cases hp;cases hq;exact hab
theorem Ko(es:Array (Int×Value))(wanted:Nat):Ris (l7 t es wanted).2.1.place/\(l7 t es wanted).2.1.led=t.led:=by
 unfold l7;split
 .rename_i t' order hl;have hr:Ris t'.place/\t'.led=t.led:=Kn hl;dsimp only;split
  .exact hr
  .exact tG t _
 .exact tG t _
def d4(P:cH)(w:World)(h:Heap)(a:Addr)(led:Bool)(S:Int->Bool)(n:Nat):Prop:=
 ∃o ents ep tb,h.get? a=aa o/\o.ExactSet/\o.data=.set ents ep tb/\ElemsOf (eP P w) ents.toList/\(∀k,S k=ab↔∃e∈ents.toList,(eP P w).is k e.2=ab)
  /\ ents.size<kS/\tb.fits ents.size=ab/\ents.size=n/\Ris tb.place/\tb.led=led
variable{h:Heap}{a:Addr}
theorem d4.stay{S:Int->Bool}(q:d4 P w h a led S n)(k:∀o,h.get? a=aa o->h'.get? a=aa o):d4 P w h' a led S n:=by
 obtain⟨o,ents,ep,tb,ho,r⟩:=q;exact⟨o,ents,ep,tb,k o ho,r⟩
theorem d4.congr{S S':Int->Bool}{n':Nat}(q:d4 P w h a led S n)(e:∀k,S k=S' k)(en:n=n'):d4 P w h a led S' n':=by
 have:S=S':=funext e;subst this en;exact q
variable{ents:Array (Int×Value)}{ep:Nat}{tb:dC}
theorem C5{o:Obj}{ents':Array (Int×Value)}{tb':dC}{S:Int->Bool}(ho:h.get? a=aa o)(hex:o.ExactSet)(hd:o.data=.set ents ep tb)
 (hel:ElemsOf (eP P w) ents'.toList)(hm:∀k,S k=ab↔∃e∈ents'.toList,(eP P w).is k e.2=ab)(hb:ents'.size<kS)(hf:tb'.fits ents'.size=ab)(hr:Ris tb'.place)(hled:tb'.led=led):
  (h.update a (Obj.putSet ents' tb')).get? a=aa {o with data:=.set ents' (ep+1) tb'}/\d4 P w (h.update a (Obj.putSet ents' tb')) a led S ents'.size:=by
 have g1:=(SetOf_store (knd:=eP P w) ho hex hd hel hm hb hf).1;exact⟨g1,_,ents',ep+1,tb',g1,hex,rfl,hel,hm,hb,hf,rfl,hr,hled⟩
variable{s:ai}
theorem C6{g:Bool->Sem Unit}(hg:∀(b:Bool) (s₁:ai) (Q':Unit->ai->Prop),Q' () s₁->wpAny (model P w) A (g b) Q' E s₁){o:Obj}{ents1:Array (Int×Value)}{tb1:dC}{S:Int->Bool}
 (ho:s.heap.get? a=aa o)(hex:o.ExactSet)(hd:o.data=.set ents ep tb)(hel:ElemsOf (eP P w) ents1.toList)(hm:∀k,S k=ab↔∃e∈ents1.toList,(eP P w).is k e.2=ab)
 (hb:ents1.size<kS)(hf:tb1.fits ents1.size=ab)(hr:Ris tb1.place)(hled:tb1.led=led){dm:Bool}{R:Option Bool->ai->Prop}
 (h:∀h',gS a s.heap h'->d4 P w h' a led S ents1.size->R (aa ab) {s with heap:=h'}):
  wpAny (model P w) A (do
    storeSet a ents1 tb1
    if (!dm && tb1.tooFull)=ab then do
      g (l7 tb1 ents1 (l9 ents1.size)).2.2
      storeSet a (l7 tb1 ents1 (l9 ents1.size)).1 (l7 tb1 ents1 (l9 ents1.size)).2.1
      pure (aa ab)
     else pure (aa ab)) R E s:=by
 refine ap (wpAny_storeSet_of ho hd ?_ (fits_of_scanBound hb));obtain⟨ho1,q1⟩:=C5 (P:=P) (w:=w) ho hex hd hel hm hb hf hr hled;have sb:=pH s.heap a (Obj.putSet ents1 tb1);split
 .have pp:=relayAll_perm tb1 ents1 (l9 ents1.size);have ff:=relayAll_fits tb1 ents1 (l9 ents1.size);have rr:=Ko (t:=tb1) ents1 (l9 ents1.size);generalize l7 tb1 ents1 (l9 ents1.size)=z at pp ff rr ⊢;obtain⟨ents2,tb2,gv⟩:=z;dsimp only at pp ff rr ⊢;have zz:ents2.size=ents1.size:=by rw[<- iq,pp.length_eq,iq]
  refine ap (hg _ _ _ (ap (wpAny_storeSet_of ho1 rfl ?_ (fits_of_scanBound (by rw[zz];exact hb)))));have q2:=(C5 (P:=P) (w:=w) (led:=led) (S:=S) ho1 hex rfl (hel.perm pp) (λk=>(hm k).trans ⟨λ⟨e,he,q⟩=>⟨e,pp.mem_iff.mpr he,q⟩,λ⟨e,he,q⟩=>⟨e,pp.mem_iff.mp he,q⟩⟩) (by rw[zz];exact hb) ff rr.1 (rr.2.trans hled)).2;rw[zz]at q2;exact aJ (h _ (sb.trans (pH _ a _)) q2)
 .exact aJ (h _ sb q1)
variable{k:Int}
theorem Kp{S:Int->Bool}{x:Value}{Q:Bool->ai->Prop}(hk:(eP P w).is k x=ab)(hx:x.scannable=ab)(q:d4 P w s.heap a led S n)(room:n+1<kS)
 (h:∀h',gS a s.heap h'->d4 P w h' a led (λk'=>S k' || decide (k'=k)) (if S k then n else n+1)->Q (!S k) {s with heap:=h'}):wpAny (model P w) A (setAddHashed a x ((eP P w).hash k)) Q E s:=by
 obtain⟨o,ents,ep,tb,ho,hex,hd,hel,hm,hb,hf,hn,hr,hled⟩:=q;unfold setAddHashed setAddHashedIn;refine j4 (ap (nE ho hd hf ?_));dsimp only;rw[byScan_of hx hb hel,if_pos rfl];unfold setAddByScan;refine ap (ap (l5 (ap (wpAny_setScan_of hk ho hd hf hel ?_))))
 cases hi:List.findIdx? (λe=>(eP P w).is k e.2) ents.toList with
 |some j=>
  dsimp only;obtain⟨hj,pj,_⟩:=findIdx?_eq_some_iff_getElem.mp hi;have sk:S k=ab:=(hm k).mpr ⟨ents.toList[j],jV hj,pj⟩;refine aJ (aJ ?_)
  have es:s={s with heap:=s.heap}:=by cases s;rfl
  have fin:=h s.heap (gS.refl a s.heap) ⟨o,ents,ep,tb,ho,hex,hd,hel,λk'=>by
   rw[jp,decide_eq_true_eq,<- hm k'];exact⟨λz=>z.elim id (λe=>e▸sk),.inl⟩,hb,hf,by rw[sk];exact hn,hr,hled⟩
  rw[sk]at fin;rw[es]
  exact fin
 |none=>
  dsimp only
  have sk:S k=ae:=by
   cases hs:S k with
   |false=>rfl
   |true=>
    obtain⟨e,he,pe⟩:=(hm k).mp hs;have:=findIdx?_eq_none_iff.mp hi e he;rw[pe]at this;cases this
  have gw:∀(b:Bool) (s₁:ai) (Q':Unit->ai->Prop),Q' () s₁->wpAny (model P w) A (match b with |true=>rule "set.scan.the-table-gave-way" |false=>pure ()) Q' E s₁:=
   λb s₁ Q' hq=>by cases b <;> first |exact aJ hq |exact l5 hq
  have pp:=layNew_perm tb ents ((eP P w).hash k) x;have ff:=layNew_fits tb ents ((eP P w).hash k) x;have rr:=Km ents ((eP P w).hash k) x hr;generalize layNew tb ents ((eP P w).hash k) x=z at pp ff rr ⊢;obtain⟨ents1,tb1,dm,gv⟩:=z;dsimp only at pp ff rr ⊢;rw[va]at pp;have z1:ents1.size=n+1:=by rw[<- iq,pp.length_eq,a9,iq,hn];rfl
  have fin:∀h',gS a s.heap h'->d4 P w h' a led (λk'=>S k' || decide (k'=k)) ents1.size->Q ab {s with heap:=h'}:=λh' sb q'=>by
   have:=h h' sb;rw[sk]at this;rw[z1]at q';exact this q'
  refine ap (gw _ _ _ ?_);split
  .refine ap ?_;rw[hashByValue_scannable 8 hx];refine aJ (C6 (led:=led) (S:=λk'=>S k' || decide (k'=k)) ?_ ho hex hd ((hel.push hk hx).perm pp) (mem_push_iff hk hm pp) (by rw[z1];exact room) ?_ ?_ ?_ λh' sb q'=>?_)
   .exact λb s₁ Q' hq=>by cases b <;> first |exact aJ hq |exact l5 hq
   .split
    .exact ff
    .exact dC.fits_plain_off ff
   .split
    .exact rr.1
    .exact rr.1
   .split
    .exact rr.2.trans hled
    .exact rr.2.trans hled
   .dsimp only;exact aJ (fin h' sb q')
  .refine ap (aJ ?_);simp only[↓reduceIte];refine C6 (led:=led) (S:=λk'=>S k' || decide (k'=k)) ?_ ho hex hd ((hel.push hk hx).perm pp) (mem_push_iff hk hm pp) (by rw[z1];exact room) ff rr.1 (rr.2.trans hled) λh' sb q'=>?_
   .exact λb s₁ Q' hq=>by cases b <;> first |exact aJ hq |exact l5 hq
   .dsimp only;exact aJ (fin h' sb q')
set_option maxRecDepth 100000
noncomputable def eT(w:World):Bool:=!(w.params.followText "set-order")
variable{I:Addr}{wr:LAd}{G:Array GenState->Array GenState->Prop}{Pv:Nat->Value->Prop}
section
variable{St:Nat->ai->Prop}
theorem Kq(W:WalksS P w A.in1 I fp wr G n Pv St)(S:Addr)(hS:S∉fp)(val:Nat->Int)(hv:∀i v,Pv i v->∃t,v=.int (val i) t)(hb:n+1<kS):
  ∀(k i:Nat) (s:ai),n-i=k->i<=n->St i s->d4 P w s.heap S led (λj=>(eZ val i).any (·==j)) (eZ val i).length ->
   (∀s',Moved (S::wr) G s s'->d4 P w s'.heap S led (λj=>(eZ val n).any (·==j)) (eZ val n).length->R (.ok (.ret .none)) s') ->
   ix (model P w) A (.builtin "set.update.loop" ⟨[.ref S,.ref I],[]⟩) R s:=by
 have hw:S∉wr:=λh=>hS (W.sub _ h);have sub:∀b∈wr,b∈S::wr:=λb h=>bv _ h;intro k
 induction k with
 |zero=>
  intro i s hk hi st q fin;obtain rfl:i=n:=by omega
  refine kP F.entry_set_update_loop ?_;rw[l8 vn _];show wpAny _ A.in1 (hU (.ref I) >>= _) _ _ s;refine ap (W.done s _ _ st λs' m=>?_);show wpAny _ A.in1 (ret iY) _ _ s'
  exact aJ (fin s' (m.mono sub) (q.stay λo e=>m.heap S o hw e))
 |succ k ih=>
  intro i s hk hi st q fin;have lt:i<n:=by omega
  refine kP F.entry_set_update_loop ?_;rw[l8 vn _];show wpAny _ A.in1 (hU (.ref I) >>= _) _ _ s;refine ap (W.item i s _ _ lt st λv s' hP st' m=>?_);obtain⟨t,rfl⟩:=hv i v hP;have q1:=q.stay λo e=>m.heap S o hw e;show wpAny _ A.in1 (fG [ma (val i) t] (setAdd S (.int (val i) t)) >>= _) _ _ s';refine ap (j4 ?_);unfold setAdd;refine j4 (ap ((eP P w).pyHash (k:=val i) (intKind_is _ _ _ _) ?_));have room:(eZ val i).length+1<kS:=by have:=firstMet_length_le val i;omega
  refine Kp (s:={s' with toks:=s'.toks+1}) (k:=val i) (intKind_is _ _ _ _) rfl q1 room λh' sb q2=>?_
  have q3:d4 P w h' S led (λj=>(eZ val (i+1)).any (·==j)) (eZ val (i+1)).length:=q2.congr (λj=>by rw[firstMet_succ,step_any]) (by rw[firstMet_succ,step_length]);refine aJ ⟨nG vn _,ih (i+1) _ (by omega) lt (W.frame _ s' _ _ st' (jZ _) λb hb' o e=>?_) q3 λs2 m2 q4=>?_⟩
  .rw[sb.2 b λh=>hS (by rw[<- h];exact hb')];exact e
  .refine fin s2 (Moved.trans W.gtrans ((m.mono sub).then_heap (jZ _) λb o hb' e=>?_) m2) q4;rw[sb.2 b λh=>hb' (by rw[h];exact aO)];exact e
end
noncomputable abbrev jc(led:Bool):Obj:={cls:=.type "set",dict:=ac,data:=.set #[] 0 (.fresh 0 0 led)}
theorem Kr(a:Value){Q:PRS}(h:Q (.ref s.heap.objs.size) {s with heap:=s.heap.push (jc (eT w))}):
  ix (model P w) A (.call (.builtin "set.__new__") ⟨[.type "set",a],[]⟩) (wants Q E) s:=by
 refine codeAny_of_tree ?_
 show wpAny _ A.in1 (do checkBuiltinCall "set.__new__" ⟨[.type "set",a],[]⟩;again (.builtin "set.__new__" ⟨[.type "set",a],[]⟩)) _ _ s
 refine ap (wpAny_of_eq (F.newCall_set_1 a) (aJ ⟨nG F.plain_set_new _,kP F.entry_set_new ?_⟩));rw[l8 F.plain_set_new _];unfold fW.«set.__new__» fW.Frozenset.newClass;have hsub:=sub_set_self;obtain⟨hp,g,d,tk,os⟩:=s;dsimp only
 wp_walk
 refine wpAny_askSetting (aJ ?_);dsimp only;simp only[newObj];refine ap (wpAny_alloc (aJ ?_));exact aJ h
theorem Ks(h:Heap)(led:Bool):d4 P w (h.push (jc led)) h.objs.size led (λ_=>ae) 0:=
 ⟨_,#[],0,_,dn _ rfl,⟨rfl,rfl,rfl⟩,rfl,λe he=>by simp at he,λk=>by simp,by decide,rfl,rfl,by unfold Ris;simp[dC.fresh],rfl⟩
set_option maxRecDepth 100000
variable{ns:List Int}
set_option maxHeartbeats 8000000 in
theorem Kt{items:Array Value}{Q:PRS}(hh:A.handled=ac)(hl:s.heap.IsList l items)(hi:e7 items.toList ns)(hb:items.size+1<kS)
 (h:∀ (h':Heap) (tk:Nat),d4 P w h' s.heap.objs.size (eT w) (λj=>(eZ (λi=>ns.getD i 0) items.size).any (·==j)) (eZ (λi=>ns.getD i 0) items.size).length ->
   (∀b o,b<s.heap.objs.size->s.heap.get? b=aa o->h'.get? b=aa o)->s.toks<=tk->Q (.ref s.heap.objs.size) {s with heap:=h',toks:=tk}):
  wpAny (model P w) A (call (.type "set") [.ref l]) Q E s:=by
 obtain⟨c,tl,hmro⟩:=kZ.mro;have hmade:=kZ.made;have hsub:=kZ.sub;refine wpAny_call (codeAny_of_tree ?_);show wpAny _ _ (callAny (.type "set") _) _ _ _;refine aJ ⟨Code.quiet_builtin _ (by decide +kernel),kP F.entry_type_call ?_⟩;rw[cP.under_plain (weight_type_call_type "set" [.ref l] []) rfl];have h1:=kZ.notType;have h2:=kZ.canCreate;have hct:=F.typeCall_set_1 (.ref l)
 repeat (any_goals (first |assumption |wp_step))
 refine nH (Kr (.ref l) (E:=E) (Q:=λob s₁=>ob=.ref s.heap.objs.size/\s₁={s with heap:=s.heap.push (jc (eT w))}) ⟨rfl,rfl⟩) λr s₁ hr=>?_
 cases r with
 |error e=>exact hr
 |ok fl=>
  cases fl with
  |ret ob=>
   obtain⟨rfl,rfl⟩:=hr;have g0:(s.heap.push (jc (eT w))).get? s.heap.objs.size=aa (jc (eT w)):=dn _ rfl
   have hT:ai.TypeIs {s with heap:=s.heap.push (jc (eT w))} (.ref s.heap.objs.size) "set":=⟨_,g0,rfl⟩
   have hli:=kZ.init.lookup;have hbi:=kZ.init.bind (.ref s.heap.objs.size)
   repeat (any_goals (first |assumption |wp_step))
   refine nH (codeAny_call_builtin (R:=wants (λr s₂=>r=.none/\∃ h' tk,s₂={ s with heap:=h',toks:=tk }/\s.toks<=tk /\
     d4 P w h' s.heap.objs.size (eT w) (λj=>(eZ (λi=>ns.getD i 0) items.size).any (·==j)) (eZ (λi=>ns.getD i 0) items.size).length /\
     (∀b o,b<s.heap.objs.size->s.heap.get? b=aa o->h'.get? b=aa o)) E) kZ.init.plain F.entry_set_init (check_set_init_1 hT ?_)) λr₂ s₂ hr₂=>?_
   .obtain⟨⟨oc,od,odt,os⟩,hol,hcl,nl,hdl⟩:=hl;simp only at hcl hdl;subst hcl hdl;have hol':(s.heap.push (jc (eT w))).get? l=aa {cls:=.type "list",dict:=od,data:=.seq items nl,slots:=os}:=bT _ hol;have k1:=F.sub_list_set;have k2:=F.sub_list_frozenset;have k3:(j5 "list" == j5 "dict")=ae:=by decide
    have hl1:(s.heap.push (jc (eT w))).IsList l items:=⟨_,hol',rfl,nl,rfl⟩;unfold fW.«set.__init__» noKeywords fW.Frozenset.updateFrom;generalize hPI:pyIter=PI
    wp_walk
    subst hPI;refine rK hl1 (ap (wpAny_runValue ?_));have lt:l<s.heap.objs.size:=bA hol;have hh3:A.in1.in1.in1.handled=ac:=by simp[hh]
    have ne1:l≠(s.heap.push (jc (eT w))).objs.size:=by rw[iz];exact ca (jY lt)
    have nin:s.heap.objs.size∉[(s.heap.push (jc (eT w))).objs.size,l]:=by
     rw[iz];simp only[aW,cE,or_false,not_or];exact⟨ca (dY _),nz lt⟩
    have hv:∀(i:Nat) (v:Value),items[i]?=aa v->∃t,v=.int ((λi=>ns.getD i 0) i) t:=λi v hv=>e7.int_at hi i v (by rw[oY];exact hv);refine Kq (led:=eT w) ((Walks.list hh3 _ l ne1 items).toS) s.heap.objs.size nin (λi=>ns.getD i 0) hv hb (items.size-0) 0 _ (by omega) (da _) ⟨⟨_,dn _ rfl,rfl,rfl⟩,(hl1.push _)⟩ ?hS0 ?hR
    case hS0=>exact((Ks (P:=P) (w:=w) s.heap (eT w)).stay λo e=>bT _ e).congr (λ_=>rfl) rfl
    case hR=>
     intro s' hm hS';obtain⟨h',g',d',tk',os'⟩:=s';have eg:g'=s.gens:=hm.gens;have ed:d'=s.drawn:=hm.drawn;have eo:os'=s.os:=hm.os;subst eg ed eo;show wpAny _ _ _ _ _ _;refine aJ ?_;show wpAny _ _ (ret iY) _ _ _;refine aJ ⟨rfl,h',tk',rfl,hm.toks,hS',λb o hb' e=>?_⟩;have n2:b≠(s.heap.push (jc (eT w))).objs.size:=by rw[iz];exact ca (jY hb')
     refine hm.heap b o ?_ (bT _ (bT _ e));simp only[aW,cE,or_false,not_or];exact⟨ca hb',n2⟩
   .cases r₂ with
    |error e=>exact hr₂
    |ok fl₂=>
     cases fl₂ with
     |ret r=>
      obtain⟨rfl,h',tk,rfl,htk,q',kk⟩:=hr₂
      repeat (any_goals (first |assumption |wp_step))
      exact h _ _ q' kk htk
     | _=>exact hr₂.elim
  | _=>exact hr.elim
set_option maxRecDepth 100000
theorem xi{α:Type}:∀(l:List α) (i:Nat) (x:α),l[i]?=aa x->(x::l.eraseIdx i).Perm l
 | [],_,_,h=>by simp at h
 |y::l,0,x,h=>by simp at h;subst h;simp
 |y::l,i+1,x,h=>by
  have:=xi l i x (by simpa using h);rw[eraseIdx_cons_succ];exact(List.Perm.swap y x _).trans (vg y this)
theorem C7{α:Type}(next:Nat->Nat):∀(fuel k:Nat) (left:List α) (out:Array α),left.length=fuel->(hJ.go next fuel k left out).toList.Perm (out.toList++left)
 | 0,k,left,out,h=>by
  obtain rfl:left=[]:=o8.mp h;unfold hJ.go
  simp
 |fuel+1,k,left,out,h=>by
  unfold hJ.go
  have hlt:next k % left.length<left.length:=Nat.mod_lt _ (by omega)
  have hx:left[next k % left.length]?=aa left[next k % left.length]:=dk hlt;rw[hx];dsimp only
  refine(C7 next fuel (k+1) _ _ (by rw[length_eraseIdx_of_lt hlt];omega)).trans ?_
  rw[va,fQ];exact vf _ (xi left _ _ hx)
theorem xj{α:Type}(next:Nat->Nat)(xs:Array α):(hJ next xs).toList.Perm xs.toList:=by
 have:=C7 next xs.size 0 xs.toList #[] (by simp)
 simpa[hJ]using this
theorem Ku{src:Source}{Q:Nat->ai->Prop}(hn:n≠0)(h:∀i,i<n->Q i {s with drawn:=s.drawn.bump src}):wpAny (model P w) A (choose src n) Q E s:=λΓ p hΓ=>
 ⟨hn,h _ (Nat.mod_lt _ (Nat.pos_of_ne_zero hn))⟩
theorem C8{α:Type}:∀(n:Nat) (xs:List α) {s:ai} {Q:List α->ai->Prop},xs.length=n->(∀ys d,ys.Perm xs->Q ys {s with drawn:=d})->wpAny (model P w) A (drawOrder n xs) Q E s
 | 0,xs,s,Q,hl,h=>by
  obtain rfl:xs=[]:=o8.mp hl;unfold drawOrder;have:=h [] s.drawn (rF _)
  exact aJ (by cases s;exact this)
 |n+1,[],s,Q,hl,h=>by cases hl
 |n+1,x::xs,s,Q,hl,h=>by
  unfold drawOrder;refine ap (Ku (by simp) λi hi=>?_);have hx:(x::xs)[i]?=aa ((x::xs)[i]):=dk hi;rw[hx];dsimp only;refine ap (C8 n _ (by rw[length_eraseIdx_of_lt hi];omega) λys d hp=>aJ ?_);exact h _ d ((vg _ hp).trans (xi _ _ _ hx))
set_option maxRecDepth 100000
theorem iL:Slot "set_iterator" "__next__" "set_iterator.__next__" :=
 .of (owner:="set_iterator") (n:="__next__") (by rw[typeLookup_type,vo];kernel_rfl) (by decide +kernel) (by decide +kernel) (by decide +kernel) (by first |exact .inl (by decide +kernel) |exact .inr (by decide +kernel)) (by rw[isSubtype_type];kernel_rfl)
theorem tH:entryFor table "set_iterator.__next__"=aa fW.«set_iterator.__next__»:=entryFor_of_fast (by kernel_rfl)
theorem tI(a:Value):argsOk "set_iterator.__next__" ⟨[a],[]⟩:=by unfold argsOk;kernel_rfl
theorem C9:Slot "set_iterator" "__iter__" "set_iterator.__iter__" :=
 .of (owner:="set_iterator") (n:="__iter__") (by rw[typeLookup_type,vo];kernel_rfl) (by decide +kernel) (by decide +kernel) (by decide +kernel) (by first |exact .inl (by decide +kernel) |exact .inr (by decide +kernel)) (by rw[isSubtype_type];kernel_rfl)
theorem Kv:entryFor table "set_iterator.__iter__"=aa fW.«dict_keyiterator.__iter__»:=
 entryFor_alias (id':="dict_keyiterator.__iter__") (by kernel_rfl) (by first |rfl |decide +kernel |(unfold String.splitOn;simp +decide [String.splitOnAux])) (by decide +kernel) (by kernel_rfl)
theorem Kw(a:Value):argsOk "set_iterator.__iter__" ⟨[a],[]⟩:=by unfold argsOk;kernel_rfl
abbrev ik(h:Heap)(I:Addr)(first:Value)(i:Nat)(a:Addr)(n ep:Nat):Prop:=
 h.get? I=aa {cls:=.type "set_iterator",dict:=ac,data:=.fields #[first,cq i,.ref a,cq n,cq ep],slots:=#[]}
variable{slot:Nat}{Q:Option Value->ai->Prop}
theorem Da{slot':Nat}{o:Obj}{v:Value}(hI:ik s.heap I (cq slot) i a n ep)(ho:s.heap.get? a=aa o)(hd:o.data=.set ents ep tb)(hf:tb.fits ents.size=ab)(hn:ents.size=n)
 (hN:∀(A':cP) (E':PRS) (R:Option (Value×Nat)->ai->Prop),R (aa (v,slot')) s->wpAny (model P w) A' (setNext a slot i ep) R E' s)
 (hQ:∀h',ik h' I (cq slot') (i+1) a n ep->gS I s.heap h'->Q (aa v) {s with heap:=h'}):wpAny (model P w) A (hU (.ref I)) Q E s:=by
 have hT:s.TypeIs (.ref I) "set_iterator":=⟨_,hI,rfl⟩;unfold hU;refine ap (rP (rJ (name:=rV "__next__") hT iL (lX iL hT tH ?_ (tI _))));show wpAny _ _ (fieldsOf (.ref I) >>= _) _ _ s;refine ap (rN hI rfl ?_);show wpAny _ _ (setEntries a >>= _) _ _ s;refine ap (pE ho hd hf ?_);have e1:(((ents.size:Nat):Int) != (n:Int))=ae:=by rw[hn];simp
 show wpAny _ _ (if (((ents.size:Nat):Int) != (n:Int))=ab then _ else _) _ _ s;rw[e1,if_neg bd];show wpAny _ _ (setNext a ((slot:Nat):Int).toNat ((i:Nat):Int).toNat ((ep:Nat):Int).toNat >>= _) _ _ s;rw[fP,fP,fP];refine ap (hN _ _ _ ?_);refine ap (nC hI (by simp) λh1 g1 s1=>?_);refine ap (nC g1 (by simp) λh2 g2 s2=>aJ ⟨v,rfl,aJ (hQ h2 ?_ (gS.trans s1 s2))⟩);show h2.get? I=_;rw[g2];simp[cq]
theorem Db{o:Obj}(hh:A.handled=ac)(hI:ik s.heap I (cq slot) i a n ep)(ho:s.heap.get? a=aa o)(hd:o.data=.set ents ep tb)(hf:tb.fits ents.size=ab)(hn:ents.size=n)
 (hN:∀(A':cP) (E':PRS) (R:Option (Value×Nat)->ai->Prop),R ac s->wpAny (model P w) A' (setNext a slot i ep) R E' s)
 (hQ:∀h',Heap.ExtBut I s.heap h'->Q ac {s with heap:=h'}):wpAny (model P w) A (hU (.ref I)) Q E s:=by
 have hT:s.TypeIs (.ref I) "set_iterator":=⟨_,hI,rfl⟩;unfold hU;refine ap (rP (rJ (name:=rV "__next__") hT iL (lX iL hT tH ?_ (tI _))));show wpAny _ _ (fieldsOf (.ref I) >>= _) _ _ s;refine ap (rN hI rfl ?_);show wpAny _ _ (setEntries a >>= _) _ _ s;refine ap (pE ho hd hf ?_);have e1:(((ents.size:Nat):Int) != (n:Int))=ae:=by rw[hn];simp
 show wpAny _ _ (if (((ents.size:Nat):Int) != (n:Int))=ab then _ else _) _ _ s;rw[e1,if_neg bd];show wpAny _ _ (setNext a ((slot:Nat):Int).toNat ((i:Nat):Int).toNat ((ep:Nat):Int).toNat >>= _) _ _ s;rw[fP,fP,fP];refine ap (hN _ _ _ ?_);refine ap (nC hI (by simp) λh1 g1 s1=>?_);show wpAny _ _ (newExc (.type "StopIteration") [] >>= _) _ _ _;refine ap ?_;simp only[newExc,newTuple];refine ap (j3 ?_ (by size_fits))
 refine ap (m:=rO _ _) (wpAny_of_eq (a:=iY) (by first |rfl |(simp only[rO];rfl)) ?_)
 refine j3 ?_ (by size_fits);simp only[raiseNew];refine ap (wpAny_handled ?_);rw[show A.in1.handled=ac from hh];refine ap (aJ (wpAny_throw ?_));refine ap (wpAny_isInstance (T:="StopIteration") (b:=ab) ⟨_,dn _ rfl,rfl⟩ isSubtype_stop ?_);exact aJ (hQ _ ((s1.extBut.push _).push _))
variable{T:Addr}{pls:Array Value}
theorem Kx{pl:Nat}{o:Obj}{hx:Int}{v:Value}(hI:ik s.heap I (.ref T) i a n ep)(ho:s.heap.get? a=aa o)(hd:o.data=.set ents ep tb)(hf:tb.fits ents.size=ab)(hn:ents.size=n)
 (hT:s.heap.get? T=aa {cls:=.type "tuple",data:=.seq pls})(hp:pls[i]?=aa (cq pl))(he:ents[pl]?=aa (hx,v))
 (hQ:∀h',ik h' I (.ref T) (i+1) a n ep->gS I s.heap h'->Q (aa v) {s with heap:=h'}):wpAny (model P w) A (hU (.ref I)) Q E s:=by
 have hTy:s.TypeIs (.ref I) "set_iterator":=⟨_,hI,rfl⟩;unfold hU;refine ap (rP (rJ (name:=rV "__next__") hTy iL (lX iL hTy tH ?_ (tI _))));show wpAny _ _ (fieldsOf (.ref I) >>= _) _ _ s;refine ap (rN hI rfl ?_);show wpAny _ _ (setEntries a >>= _) _ _ s;refine ap (pE ho hd hf ?_);have e1:(((ents.size:Nat):Int) != (n:Int))=ae:=by rw[hn];simp
 show wpAny _ _ (if (((ents.size:Nat):Int) != (n:Int))=ab then _ else _) _ _ s;rw[e1,if_neg bd];show wpAny _ _ (seqItems? (.ref T) >>= _) _ _ s;refine ap (wpAny_seqItems hT rfl ?_)
 show wpAny _ _ (match pls[((i:Nat):Int).toNat]? with |some (.int place _)=>_ |some _=>_ |none=>_) _ _ s
 rw[fP,hp];show wpAny _ _ (setNextDrawn a ((pl:Nat):Int).toNat ((ep:Nat):Int).toNat >>= _) _ _ s;rw[fP,fP];refine ap ?_;unfold setNextDrawn;refine ap (nE ho hd hf ?_);dsimp only;rw[if_neg (by simp)];rw[he];refine aJ ?_;refine ap (nC hI (by simp) λh1 g1 s1=>aJ ⟨v,rfl,aJ (hQ h1 ?_ s1)⟩);show h1.get? I=_;rw[g1];simp[cq]
theorem Ky{o:Obj}(hh:A.handled=ac)(hI:ik s.heap I (.ref T) i a n ep)(ho:s.heap.get? a=aa o)(hd:o.data=.set ents ep tb)(hf:tb.fits ents.size=ab)(hn:ents.size=n)
 (hTu:s.heap.get? T=aa {cls:=.type "tuple",data:=.seq pls})(hp:pls[i]?=ac)
 (hQ:∀h',Heap.ExtBut I s.heap h'->Q ac {s with heap:=h'}):wpAny (model P w) A (hU (.ref I)) Q E s:=by
 have hT:s.TypeIs (.ref I) "set_iterator":=⟨_,hI,rfl⟩;unfold hU;refine ap (rP (rJ (name:=rV "__next__") hT iL (lX iL hT tH ?_ (tI _))));show wpAny _ _ (fieldsOf (.ref I) >>= _) _ _ s;refine ap (rN hI rfl ?_);show wpAny _ _ (setEntries a >>= _) _ _ s;refine ap (pE ho hd hf ?_);have e1:(((ents.size:Nat):Int) != (n:Int))=ae:=by rw[hn];simp
 show wpAny _ _ (if (((ents.size:Nat):Int) != (n:Int))=ab then _ else _) _ _ s;rw[e1,if_neg bd];show wpAny _ _ (seqItems? (.ref T) >>= _) _ _ s;refine ap (wpAny_seqItems hTu rfl ?_)
 show wpAny _ _ (match pls[((i:Nat):Int).toNat]? with |some (.int place _)=>_ |some _=>_ |none=>_) _ _ s
 rw[fP,hp];refine ap (nC hI (by simp) λh0 g0 s0=>?_);refine ap (nC g0 (by simp) λh1 g1 s1=>?_);show wpAny _ _ (newExc (.type "StopIteration") [] >>= _) _ _ _;refine ap ?_;simp only[newExc,newTuple];refine ap (j3 ?_ (by size_fits))
 refine ap (m:=rO _ _) (wpAny_of_eq (a:=iY) (by first |rfl |(simp only[rO];rfl)) ?_)
 refine j3 ?_ (by size_fits);simp only[raiseNew];refine ap (wpAny_handled ?_);rw[show A.in1.handled=ac from hh];refine ap (aJ (wpAny_throw ?_));refine ap (wpAny_isInstance (T:="StopIteration") (b:=ab) ⟨_,dn _ rfl,rfl⟩ isSubtype_stop ?_);exact aJ (hQ _ (((gS.trans s0 s1).extBut.push _).push _))
set_option maxRecDepth 100000
theorem Kz:entryFor table "set.__iter__"=aa fW.«frozenset.__iter__»:=
 entryFor_alias (id':="frozenset.__iter__") (by kernel_rfl) (by first |rfl |decide +kernel |(unfold String.splitOn;simp +decide [String.splitOnAux])) (by decide +kernel) (by kernel_rfl)
noncomputable def qf(pl:Array Nat):Nat->Nat
 | 0=>0
 |i+1=>pl.getD i 0+1
theorem Dc{pl:Array Nat}(hi:i<pl.size):qf pl (i+1)=pl[i]+1:=by
 show pl.getD i 0+1=_;simp[oZ,hi]
theorem Dd{α β:Type}{f:α->Option β}{g:α->β}:∀(l:List α),(∀x∈l,f x=aa (g x))->l.filterMap f=l.map g
 | [],_=>rfl
 |x::l,h=>by rw[pb,h x aO,bn,Dd l λy hy=>h y (bv _ hy)]
theorem De{pl:Array Nat}(h:Ris pl):∀i,i<=pl.size->cj pl (qf pl i)=i
 | 0,_=>Kh h
 |i+1,hi=>by
  rw[Dc (by omega)];exact Kg h (by omega)
theorem tJ{Q:Bool->ai->Prop}(h:Q (w.params.followText "set-order") s):wpAny (model P w) A setsByText Q E s:=by
 unfold setsByText;exact ap (wpAny_askSetting (aJ h))
section
variable{o:Obj}
theorem Dg{R:Option (Value×Nat)->ai->Prop}(ho:s.heap.get? a=aa o)(hd:o.data=.set ents ep tb)(hf:tb.fits ents.size=ab)(ht:w.params.followText "set-order"=ab)
 (h:R (((hJ (w.params.setOrder a ep) ents)[i]?).map λe=>(e.2,slot)) s):wpAny (model P w) A (setNext a slot i ep) R E s:=by
 unfold setNext;refine ap (nE ho hd hf ?_);dsimp only;refine ap (tJ ?_);rw[ht,if_pos rfl,if_neg (by simp)];refine ap ?_;unfold setWalk;refine ap (nE ho hd hf ?_);dsimp only;refine ap (tJ ?_);rw[ht,if_pos rfl];refine ap (wpAny_askSetting (aJ (aJ ?_)));exact h
end
section
variable{o:Obj}
theorem Dh{R:Option (Value×Nat)->ai->Prop}(ho:s.heap.get? a=aa o)(hd:o.data=.set ents ep tb)(hf:tb.fits ents.size=ab)(ht:w.params.followText "set-order"=ae)(hw:(!tb.plain && decide (ents.size>1))=ae)(hled:tb.led=ab)
 (h:R (match ents[cj tb.place slot]?,tb.place[cj tb.place slot]? with |some (_,x),aa j=>aa (x,j+1) | _,_=>ac) s):wpAny (model P w) A (setNext a slot i ep) R E s:=by
 unfold setNext;refine ap (nE ho hd hf ?_);dsimp only;refine ap (tJ ?_);rw[ht,if_neg bd];show wpAny _ _ (if (!tb.plain && decide (ents.size>1))=ab then _ else _) _ _ s;rw[hw,if_neg bd];show wpAny _ _ ((if (!tb.led && !ents.isEmpty)=ab then unsupported "set:maker-not-led" else pure ()) >>= _) _ _ s;rw[hled,Bool.not_true,o7,if_neg bd];exact ap (aJ (aJ h))
end
theorem xk{first:Value}{Q:PRS}(hI:ik s.heap I first i a n ep)(h:Q (.ref I) s):wpAny (model P w) A (pyIter (.ref I)) Q E s:=by
 have hT:s.TypeIs (.ref I) "set_iterator":=⟨_,hI,rfl⟩;refine wpAny_pyIter_slot hT C9 (lX C9 hT Kv ?_ (Kw _));show wpAny _ _ (ret (.ref I)) _ _ s;exact aJ ⟨_,rfl,"set_iterator",_,hT,iL.lookup,h⟩
section
variable{o:Obj}
theorem KA(hh:A.handled=ac)(ne:a≠I)(hd:o.data=.set ents ep tb)(hf:tb.fits ents.size=ab)(hn:ents.size=n)(ht:w.params.followText "set-order"=ab):
  WalksS P w A I [I,a] [I] (λx y=>y=x) n (λi v=>((hJ (w.params.setOrder a ep) ents).toList.map (·.2))[i]?=aa v) (λi s=>ik s.heap I (cq ((0:Nat):Int)) i a n ep/\s.heap.get? a=aa o) where
 sub:=λb hb=>by simp at hb;simp[hb]
 grefl:=λ_=>rfl
 gtrans:=λ_ _ _ h1 h2=>h2.trans h1
 frame:=λi s h' tk st _ hk=>⟨hk I (by simp) _ st.1,hk a (by simp) _ st.2⟩
 item:=λi s Q E hi st hQ=>by
  have hz:(hJ (w.params.setOrder a ep) ents).size=n:=by rw[<- iq,(xj _ _).length_eq,iq,hn]
  have hx:(hJ (w.params.setOrder a ep) ents)[i]?=aa (hJ (w.params.setOrder a ep) ents)[i]:=lK (by omega);refine Da st.1 st.2 hd hf hn (v:=((hJ (w.params.setOrder a ep) ents)[i]'(by omega)).2) (slot':=0) (λA' E' R r=>Dg st.2 hd hf ht (by rw[hx];exact r)) λh' g sb=>?_;refine hQ _ _ (by rw[cD,oY,hx];rfl) ⟨g,(sb.2 a ne).trans st.2⟩ ⟨λb o' hb e=>(sb.2 b (λh=>hb (by simp[h]))).trans e,rfl,rfl,rfl,aL _⟩
 done:=λs Q E st hQ=>by
  have hz:(hJ (w.params.setOrder a ep) ents).size=n:=by rw[<- iq,(xj _ _).length_eq,iq,hn]
  have hx:(hJ (w.params.setOrder a ep) ents)[n]?=ac:=Array.getElem?_eq_none (by omega);exact Db hh st.1 st.2 hd hf hn (λA' E' R r=>Dg st.2 hd hf ht (by rw[hx];exact r)) λh' eb=>hQ _ ⟨λb o' hb e=>eb b o' (λh=>hb (by simp[h])) e,rfl,rfl,rfl,aL _⟩
 self:=λi s Q E st hQ=>xk st.1 hQ
end
section
variable{o:Obj}
theorem KB(hh:A.handled=ac)(ne:a≠I)(hd:o.data=.set ents ep tb)(hf:tb.fits ents.size=ab)(hn:ents.size=n)(ht:w.params.followText "set-order"=ae)(hw:(!tb.plain && decide (ents.size>1))=ae)(hled:tb.led=ab)(hr:Ris tb.place):
  WalksS P w A I [I,a] [I] (λx y=>y=x) n (λi v=>(ents.toList.map (·.2))[i]?=aa v) (λi s=>ik s.heap I (cq ((qf tb.place i:Nat):Int)) i a n ep/\s.heap.get? a=aa o) where
 sub:=λb hb=>by simp at hb;simp[hb]
 grefl:=λ_=>rfl
 gtrans:=λ_ _ _ h1 h2=>h2.trans h1
 frame:=λi s h' tk st _ hk=>⟨hk I (by simp) _ st.1,hk a (by simp) _ st.2⟩
 item:=λi s Q E hi st hQ=>by
  have hz:tb.place.size=ents.size:=by simp only[dC.fits,cg,beq_iff_eq]at hf;exact hf.1
  have hb:=De hr i (by omega);have hx:ents[i]?=aa ents[i]:=lK (by omega);have hp:tb.place[i]?=aa tb.place[i]:=lK (by omega);have es:qf tb.place (i+1)=tb.place[i]'(by omega)+1:=Dc (by omega);refine Da st.1 st.2 hd hf hn (v:=(ents[i]'(by omega)).2) (slot':=qf tb.place (i+1)) (λA' E' R r=>Dh st.2 hd hf ht hw hled (by rw[hb,hx,hp];rw[es]at r;exact r)) λh' g sb=>?_;refine hQ _ _ (by rw[cD,oY,hx];rfl) ⟨g,(sb.2 a ne).trans st.2⟩ ⟨λb o' hb e=>(sb.2 b (λh=>hb (by simp[h]))).trans e,rfl,rfl,rfl,aL _⟩
 done:=λs Q E st hQ=>by
  have hz:tb.place.size=ents.size:=by simp only[dC.fits,cg,beq_iff_eq]at hf;exact hf.1
  have hb:=De hr n (by omega);have hx:ents[n]?=ac:=Array.getElem?_eq_none (by omega);exact Db hh st.1 st.2 hd hf hn (λA' E' R r=>Dh st.2 hd hf ht hw hled (by rw[hb,hx];exact r)) λh' eb=>hQ _ ⟨λb o' hb e=>eb b o' (λh=>hb (by simp[h])) e,rfl,rfl,rfl,aL _⟩
 self:=λi s Q E st hQ=>xk st.1 hQ
end
section
variable{o:Obj}
theorem KC(hh:A.handled=ac)(ne:a≠I)(nT:T≠I)(hd:o.data=.set ents ep tb)(hf:tb.fits ents.size=ab)(hn:ents.size=n){ord:LN}(hp:ord.Perm (bF n)):
  WalksS P w A I [I,a,T] [I] (λx y=>y=x) n (λi v=>(ord.filterMap λj=>(ents[j]?).map (·.2))[i]?=aa v)
   (λi s=>ik s.heap I (.ref T) i a n ep/\s.heap.get? a=aa o/\s.heap.get? T=aa {cls:=.type "tuple",data:=.seq (ord.map λ(j:Nat)=>cq j).toArray}) where
 sub:=λb hb=>by simp at hb;simp[hb]
 grefl:=λ_=>rfl
 gtrans:=λ_ _ _ h1 h2=>h2.trans h1
 frame:=λi s h' tk st _ hk=>⟨hk I (by simp) _ st.1,hk a (by simp) _ st.2.1,hk T (by simp) _ st.2.2⟩
 item:=λi s Q E hi st hQ=>by
  have hl:ord.length=n:=by rw[hp.length_eq,cX]
  have lt:∀j∈ord,j<ents.size:=λj hj=>by rw[hn];exact eY.mp (hp.mem_iff.mp hj)
  have hj:ord[i]?=aa (ord[i]'(by omega)):=dk (by omega);have hlt:ord[i]'(by omega)<ents.size:=lt _ (jV _);have hx:ents[ord[i]'(by omega)]?=aa (ents[ord[i]'(by omega)]):=lK hlt
  have em:(ord.filterMap λj=>(ents[j]?).map (·.2))=ord.map λj=>((ents[j]?).map (·.2)).getD .none:=by
   refine Dd ord λj hj=>?_;have:ents[j]?=aa (ents[j]'(lt j hj)):=lK (lt j hj);rw[this];rfl
  refine Kx st.1 st.2.1 hd hf hn st.2.2 (pl:=ord[i]'(by omega)) (hx:=(ents[ord[i]'(by omega)]).1) (v:=(ents[ord[i]'(by omega)]).2) (by rw[List.getElem?_toArray,cD,hj];rfl) hx λh' g sb=>?_;refine hQ _ _ ?_ ⟨g,(sb.2 a ne).trans st.2.1,(sb.2 T nT).trans st.2.2⟩ ⟨λb o' hb e=>(sb.2 b (λh=>hb (by simp[h]))).trans e,rfl,rfl,rfl,aL _⟩;rw[em,cD,hj];simp only[vj,hx];rfl
 done:=λs Q E st hQ=>by
  have hl:ord.length=n:=by rw[hp.length_eq,cX]
  exact Ky hh st.1 st.2.1 hd hf hn st.2.2 (by rw[List.getElem?_toArray];exact d8 (by simp;omega)) λh' eb=>hQ _ ⟨λb o' hb e=>eb b o' (λh=>hb (by simp[h])) e,rfl,rfl,rfl,aL _⟩
 self:=λi s Q E st hQ=>xk st.1 hQ
end
set_option maxRecDepth 100000
theorem Di{P:cH}{w:World}:∀(l:List (Int×Value)),ElemsOf (eP P w) l->∃ns:List Int,e7 (l.map (·.2)) ns/\∀k,(∃e∈l,(eP P w).is k e.2=ab)↔k∈ns
 | [],_=>⟨[],.nil,λk=>by simp⟩
 |e::l,h=>by
  obtain⟨ns,h1,h2⟩:=Di l h.tail;obtain⟨⟨k,hk,_⟩,_⟩:=h.head;obtain⟨t,et⟩:=Value.isInt_shape hk;refine⟨k::ns,by rw[bn,et];exact .cons k t h1,λj=>?_⟩;rw[aW,<- h2 j];constructor
  .rintro⟨x,hx,q⟩
   rcases aW.mp hx with rfl |hx
   .exact .inl ((eP P w).inj _ _ _ q hk)
   .exact .inr ⟨x,hx,q⟩
  .rintro(rfl |⟨x,hx,q⟩)
   .exact⟨e,aO,hk⟩
   .exact⟨x,bv _ hx,q⟩
theorem Dj{α:Type}(xs:List α):∀(n k:Nat),k+n=xs.length->(List.range' k n).filterMap (λj=>xs[j]?)=xs.drop k
 | 0,k,h=>by rw[range'_zero,filterMap_nil,drop_of_length_le (by omega)]
 |n+1,k,h=>by
  rw[range'_succ,pb,dk (show k<xs.length by omega),Dj xs n (k+1) (by omega),drop_eq_getElem_cons (show k<xs.length by omega)]
theorem KD{α:Type}(xs:Array α):(bF xs.size).filterMap (λj=>xs[j]?)=xs.toList:=by
 have:=Dj xs.toList xs.size 0 (by simp);rw[drop_zero]at this;rw[range_eq_range',<- this];simp
theorem KE{S:Int->Bool}{Q:PRS}(q:d4 P w s.heap a (eT w) S n)
 (hQ:∀ (I:Addr) (fp:LAd) (vals:LVa) (ns:List Int) (St:Nat->ai->Prop) (h':Heap) (d':Drawn),(∀ A' : cP,A'.handled=ac->WalksS P w A' I fp [I] (λx y=>y=x) n (λi v=>vals[i]?=aa v) St) ->
   St 0 {s with heap:=h',drawn:=d'}->(∀b o,s.heap.get? b=aa o->h'.get? b=aa o)->s.heap.objs.size<=I->I∈fp->(∀b∈fp,b<h'.objs.size/\(b=a\/s.heap.objs.size<=b))->e7 vals ns->ns.length=n->(∀k,S k=ab↔k∈ns)->Q (.ref I) {s with heap:=h',drawn:=d'}):
  wpAny (model P w) A (pyIter (.ref a)) Q E s:=by
 obtain⟨o,ents,ep,tb,ho,hex,hd,hel,hm,hb,hf,hn,hr,hled⟩:=q;have hT:s.TypeIs (.ref a) "set":=⟨o,ho,hex.1⟩;have la:a<s.heap.objs.size:=bA ho
 have fin:∀(vs:List (Int×Value)),vs.Perm ents.toList->∃ns,e7 (vs.map (·.2)) ns/\ns.length=n/\∀k,S k=ab↔k∈ns:=λvs hp=>by
  obtain⟨ns,h1,h2⟩:=Di vs (hel.perm hp);refine⟨ns,h1,?_,λk=>?_⟩
  .rw[<- h1.length,aH,hp.length_eq,iq,hn]
  .rw[hm k,<- h2 k];exact⟨λ⟨e,he,x⟩=>⟨e,hp.mem_iff.mpr he,x⟩,λ⟨e,he,x⟩=>⟨e,hp.mem_iff.mp he,x⟩⟩
 refine wpAny_pyIter_slot hT F.slot_set_iter (lX F.slot_set_iter hT Kz ?_ (F.args_set_iter_1 _));show wpAny _ _ (A9 a >>= _) _ _ s;refine ap ?_;unfold A9;refine ap (pE ho hd hf (aJ ?_));refine ap ?_;unfold setDrawn;refine ap (nE ho hd hf ?_);dsimp only;refine ap (tJ (aJ ?_));show wpAny _ _ (if (!w.params.followText "set-order" && (!tb.plain && decide (ents.size>1)))=ab then _ else _) _ _ s
 cases ht:w.params.followText "set-order" with
 |true=>
  rw[Bool.not_true,o7,if_neg bd];refine ap (aJ (ap (wpAny_setEpoch_of ho hd hf ?_)));refine ap (j3 ?_ (by size_fits));refine aJ ?_;obtain⟨ns,i1,i2,i3⟩:=fin _ (xj (w.params.setOrder a ep) ents);have hI:ik (s.heap.push {cls:=.type "set_iterator",dict:=ac,data:=.fields #[cq ((0:Nat):Int),cq ((0:Nat):Int),.ref a,cq n,cq ep],slots:=#[]}) s.heap.objs.size (cq ((0:Nat):Int)) 0 a n ep:=dn _ rfl;rw[hn];refine⟨_,rfl,"set_iterator",_,⟨_,hI,rfl⟩,iL.lookup,?_⟩;refine hQ s.heap.objs.size [s.heap.objs.size,a] _ ns _ _ s.drawn (λA' hh=>KA hh (ca la) hd hf hn ht) ⟨hI,bT _ ho⟩ (λb o' e=>bT _ e) (aL _) (by simp) (λb hb'=>?_) i1 i2 i3;rw[iz];simp only[aW,cE,or_false]at hb'
  rcases hb' with rfl |rfl
  .exact⟨dY _,.inr (aL _)⟩
  .exact⟨jY la,.inl rfl⟩
 |false=>
  rw[Bool.not_false,Bool.true_and];have hled':tb.led=ab:=by rw[hled];unfold eT;rw[ht];rfl
  cases hw:(!tb.plain && decide (ents.size>1))with
  |false=>
   rw[if_neg bd];refine ap (aJ (ap (wpAny_setEpoch_of ho hd hf ?_)));refine ap (j3 ?_ (by size_fits));refine aJ ?_;obtain⟨ns,i1,i2,i3⟩:=fin _ (rF _);have hI:ik (s.heap.push {cls:=.type "set_iterator",dict:=ac,data:=.fields #[cq ((0:Nat):Int),cq ((0:Nat):Int),.ref a,cq n,cq ep],slots:=#[]}) s.heap.objs.size (cq ((0:Nat):Int)) 0 a n ep:=dn _ rfl;rw[hn];refine⟨_,rfl,"set_iterator",_,⟨_,hI,rfl⟩,iL.lookup,?_⟩;refine hQ s.heap.objs.size [s.heap.objs.size,a] _ ns _ _ s.drawn (λA' hh=>KB hh (ca la) hd hf hn ht hw hled' hr) ⟨hI,bT _ ho⟩ (λb o' e=>bT _ e) (aL _) (by simp) (λb hb'=>?_) i1 i2 i3;rw[iz];simp only[aW,cE,or_false]at hb'
   rcases hb' with rfl |rfl
   .exact⟨dY _,.inr (aL _)⟩
   .exact⟨jY la,.inl rfl⟩
  |true=>
   rw[if_pos rfl];refine ap (C8 _ _ (by rw[cX]) λord d hp=>?_);rw[hn]at hp;have hsz:((ord.map λ(i:Nat)=>cq i)).length<=aS:=by rw[aH,hp.length_eq,cX];exact fits_of_scanBound (by omega)
   refine ap (wpAny_newTuple ?_ hsz)
   refine ap (wpAny_setEpoch_of (s:={s with heap:=s.heap.push {cls:=.type "tuple",data:=.seq (ord.map λ(i:Nat)=>cq i).toArray},drawn:=d}) (bT _ ho) hd hf ?_)
   refine ap (j3 ?_ (by size_fits));refine aJ ?_
   have pv:(ord.filterMap λj=>ents[j]?).Perm ents.toList:=by
    have:=hp.filterMap λj=>ents[j]?;rw[<- hn,KD]at this;exact this
   obtain⟨ns,i1,i2,i3⟩:=fin _ pv;rw[map_filterMap]at i1
   have hI:ik ((s.heap.push {cls:=.type "tuple",data:=.seq (ord.map λ(i:Nat)=>cq i).toArray}).push {cls:=.type "set_iterator",dict:=ac,data:=.fields #[.ref s.heap.objs.size,cq ((0:Nat):Int),.ref a,cq n,cq ep],slots:=#[]})
     (s.heap.push {cls:=.type "tuple",data:=.seq (ord.map λ(i:Nat)=>cq i).toArray}).objs.size (.ref s.heap.objs.size) 0 a n ep:=dn _ rfl
   rw[hn];refine⟨_,rfl,"set_iterator",_,⟨_,hI,rfl⟩,iL.lookup,?_⟩;have zI:(s.heap.push {cls:=.type "tuple",data:=.seq (ord.map λ(i:Nat)=>cq i).toArray}).objs.size=s.heap.objs.size+1:=iz ..;refine hQ _ [(s.heap.push {cls:=.type "tuple",data:=.seq (ord.map λ(i:Nat)=>cq i).toArray}).objs.size,a,s.heap.objs.size] _ ns _ _ d (λA' hh=>KC hh (by rw[zI];exact ca (jY la)) (by rw[zI];exact ca (dY _)) hd hf hn hp) ⟨hI,bT _ (bT _ ho),bT _ (dn _ rfl)⟩ (λb o' e=>bT _ (bT _ e)) (by rw[zI];exact jZ _) (by simp) (λb hb'=>?_) i1 i2 i3;rw[iz];simp only[aW,cE,or_false]at hb'
   rcases hb' with rfl |rfl |rfl
   .exact⟨dY _,.inr (by rw[zI];exact jZ _)⟩
   .exact⟨by rw[zI];exact jY (jY la),.inl rfl⟩
   .exact⟨by rw[zI];exact jY (dY _),.inr (aL _)⟩
set_option maxRecDepth 100000
theorem KF{vals:LVa}{acc:Array Value}(h:ItemsOf (λi v=>vals[i]?=aa v) acc n)(hl:vals.length=n):acc.toList=vals:=by
 refine nr λi=>?_
 by_cases hi:i<n
 .have e:acc[i]?=aa (acc[i]'(by rw[h.1];exact hi)):=lK _;rw[oY,e];exact(h.2 i _ e).symm
 .rw[d8 (by rw[iq,h.1];omega),d8 (by omega)]
theorem KG:typeLookup (.type "set") "__len__"=pure (aa (.builtin "set.__len__")):=by rw[typeLookup_type,vo];kernel_rfl
theorem KH:splitId "set.__len__"=aa ("set","__len__"):=by decide +kernel
theorem KI{S:Int->Bool}{Q:LVa->ai->Prop}(hh:A.handled=ac)(q:d4 P w s.heap a (eT w) S n)(hn:n<=aS)
 (hQ:∀(h':Heap) (d':Drawn) (tk:Nat) (vals:LVa) (ns:List Int),(∀b o,s.heap.get? b=aa o->h'.get? b=aa o)->s.heap.objs.size<=h'.objs.size->s.toks<=tk->e7 vals ns->ns.length=n->(∀k,S k=ab↔k∈ns)->Q vals {s with heap:=h',drawn:=d',toks:=tk}):
  wpAny (model P w) A (collect (.ref a)) Q E s:=by
 unfold collect;refine ap (wpAny_runValue (kP PySem.F.entry_proto_collect ?_));rw[l8 PySem.F.plain_proto_collect _];show wpAny _ A.in1 (newList [] >>= λl=>again (.builtin "list.__iadd__" ⟨[l,.ref a],[]⟩)) _ _ s;refine ap (j3 ?_);refine aJ ⟨nG PySem.F.plain_list_iadd _,kP PySem.F.entry_list_iadd ?_⟩;rw[l8 PySem.F.plain_list_iadd _];show wpAny _ A.in1 (Bb (.ref s.heap.objs.size) (.ref a) (.ref s.heap.objs.size)) _ _ _;unfold Bb;obtain⟨o,ents,ep,tb,ho,hex,rest⟩:=id q;have la:a<s.heap.objs.size:=bA ho;have q1:d4 P w (s.heap.push {cls:=.type "list",data:=.seq ([]:LVa).toArray}) a (eT w) S n:=q.stay λo e=>bT _ e
 have hT:ai.TypeIs {s with heap:=s.heap.push {cls:=.type "list",data:=.seq ([]:LVa).toArray}} (.ref a) "set":=⟨o,bT _ ho,hex.1⟩
 refine ap (wpAny_typeOf hT ?_);have k1:Bc (.ref s.heap.objs.size) (.ref a)=ae:=by simp[Bc,nz la]
 have k2:(j5 "set" == j5 "list")=ae:=by decide
 have k3:(j5 "set" == j5 "tuple")=ae:=by decide
 simp only[k1,k2,k3,Bool.or_false,vb,if_false];refine ap (KE q1 λI fp vals ns St h1 d1 W st0 keep gI mI fpl i1 i2 i3=>?_)
 have hT1:ai.TypeIs {s with heap:=h1,drawn:=d1} (.ref a) "set":=⟨o,keep _ _ (bT _ ho),hex.1⟩
 have zL:(s.heap.push {cls:=.type "list",data:=.seq ([]:LVa).toArray}).objs.size=s.heap.objs.size+1:=iz ..
 have nL:s.heap.objs.size∉fp:=λhm=>by
  rcases(fpl _ hm).2 with e |e
  .exact iu _ (by rw[<- e]at la;exact la)
  .rw[zL]at e;exact Nat.not_succ_le_self _ e
 refine ap (j4 ?_);unfold fW.List.listLengthHint;refine ap (wpAny_specialOf hT1 KG ?_);dsimp only;rw[KH];dsimp only;refine ap (wpAny_isInstance hT1 sub_set_self ?_);simp only[Bool.not_true,vb,if_false];refine ap (wpAny_typeOf hT1 (aJ ?_))
 show wpAny _ A.in1 (rule "list.extend.makes-room" >>= λ_=>fW.List.listTouch (.ref s.heap.objs.size) >>= λ_ =>
  again (.builtin "list.extend.loop" ⟨[.ref s.heap.objs.size,.ref I,.ref s.heap.objs.size],[]⟩)) _ _ _
 refine ap (l5 ?_);have g1:h1.get? s.heap.objs.size=aa {cls:=.type "list",data:=.seq ([]:LVa).toArray}:=keep _ _ (dn _ rfl);refine ap ?_;show wpAny _ A.in1 (updateSeq s.heap.objs.size (·.push .none) >>= λ_=>updateSeq s.heap.objs.size (·.pop)) _ _ _
 refine ap (wpAny_updateSeq (s:={s with heap:=h1,drawn:=d1}) g1 rfl ?_)
 have g2:=rS (iB (·.push iY)) g1 rfl
 refine wpAny_updateSeq (s:={s with heap:=h1.update s.heap.objs.size (iB (·.push iY)),drawn:=d1}) g2 rfl ?_
 have g3:=rS (iB (·.pop)) g2 rfl
 have oth:∀b o,b≠s.heap.objs.size->h1.get? b=aa o->((h1.update s.heap.objs.size (iB (·.push iY))).update s.heap.objs.size (iB (·.pop))).get? b=aa o:=
  λb o hb e=>(rR _ _ (gm hb)).trans ((rR _ _ (gm hb)).trans e)
 have W1:=W A.in1 (by simp[hh])
 refine aJ ⟨nG PySem.F.plain_extend_loop _,codeAny_extend_loopS W1 hn _ nL _ n 0 _ _ _ rfl (da _)
  (W1.frame 0 ({s with heap:=h1,drawn:=d1}:ai) _ s.toks st0 (aL _) λb hb o e=>oth b o (λh=>nL (h▸hb)) e) g3 (ItemsOf.nil _) λs' acc' c' hm hS' hacc=>?_⟩
 show wpAny _ A (load s.heap.objs.size >>= _) _ _ s';refine ap (wpAny_load hS' (aJ ?_));have lv:vals.length=n:=by rw[i1.length,i2]
 rw[KF hacc lv];obtain⟨h2,g',d',tk',os'⟩:=s';have eg:g'=s.gens:=hm.gens;have ed:d'=d1:=hm.drawn;have eo:os'=s.os:=hm.os;subst eg ed eo;refine hQ h2 d' tk' vals ns (λb o' e=>?_) (gN (bA hS')) hm.toks i1 i2 i3;have lb:b<s.heap.objs.size:=bA e;refine hm.heap b o' ?_ (oth b o' (ca lb) (keep _ _ (bT _ e)));simp only[aW,cE,or_false,not_or];exact⟨ca lb,ca (fF lb (cZ (by rw[zL];exact jZ _) gI))⟩
theorem KJ{S:Int->Bool}{Q:PRS}(hh:A.handled=ac)(q:d4 P w s.heap a (eT w) S n)(h64:n<64)
 (hQ:∀ (p:Addr) (h':Heap) (d':Drawn) (tk e:Nat) (out:Array Value) (ns:List Int),(∀ b o,s.heap.get? b=aa o->h'.get? b=aa o)->s.heap.objs.size<=p->s.toks<=tk->h'.get? p=aa (seqObj "list" out e)->e7 out.toList ns->ns.Pairwise (·<=·)->ns.length=n->(∀ k,S k=ab↔k∈ns) ->
   Q (.ref p) {s with heap:=h',drawn:=d',toks:=tk}):wpAny (model P w) A (call (.builtin "sorted") [.ref a]) Q E s:=by
 refine Calls.call_function_entry kind_sorted plain_sorted entry_sorted (args_sorted1 _) ?_;unfold fW.«sorted»;refine ap (m:=checkCount "sorted" 1 1 _) (aJ ?_);refine ap (KI (by simp[hh]) q (by rw[dL];omega) λh1 d1 tk vals ns keep grow htk i1 i2 i3=>?_);refine ap (wpAny_newList ?_ (by rw[i1.length,i2,dL];omega));have g0:(h1.push (seqObj "list" vals.toArray 0)).get? h1.objs.size=aa (seqObj "list" vals.toArray 0):=dn _ rfl
 refine ap (j4 (lX (s:={s with heap:=h1.push (seqObj "list" vals.toArray 0),drawn:=d1,toks:=tk}) slot_list_sort ⟨_,g0,rfl⟩ entry_list_sort (list_sort_tree g0 i1 (by rw[i1.length,i2];exact h64) λout ns' o1 o2 o3=>⟨_,rfl,?_⟩) (args_list_sort _)))
 obtain⟨e,ge⟩:=sortedHeap_at (out:=out) g0;refine aJ ⟨_,rfl,hQ _ _ d1 tk e out ns' (λb o eb=>?_) grow htk ge o1 o3 (by rw[o2.length_eq,i2]) λk=>(i3 k).trans (o2.mem_iff).symm⟩;have lb:b<h1.objs.size:=bA (keep b o eb);rw[sortedHeap_old (ca lb) (by rw[iz];exact jY lb)];exact bT _ (keep b o eb)
noncomputable def ku(x:Int):List Int->List Int
 | []=>[x]
 |y::r=>if x<y then x::y::r else if x=y then y::r else y::ku x r
noncomputable def cf(ns:List Int):List Int:=ns.foldr ku []
theorem xl(x k:Int):∀l:List Int,k∈ku x l↔k=x\/k∈l
 | []=>by simp[ku]
 |y::r=>by
  unfold ku;split
  .simp
  .split
   .rename_i e;subst e;simp
   .rw[aW,xl x k r,aW];constructor
    .rintro(h |h |h)
     .exact .inr (.inl h)
     .exact .inl h
     .exact .inr (.inr h)
    .rintro(h |h |h)
     .exact .inr (.inl h)
     .exact .inl h
     .exact .inr (.inr h)
theorem Dk(x:Int):∀l:List Int,l.Pairwise (· < ·)->(ku x l).Pairwise (· < ·)
 | [],_=>by simp[ku]
 |y::r,h=>by
  obtain⟨h1,h2⟩:=pf.mp h;unfold ku;split
  .rename_i hx;refine pf.mpr ⟨λk hk=>?_,h⟩
   rcases aW.mp hk with e |hk
   .subst e;exact hx
   .exact Int.lt_trans hx (h1 k hk)
  .split
   .exact h
   .rename_i a b;refine pf.mpr ⟨λk hk=>?_,Dk x r h2⟩
    rcases(xl x k r).mp hk with e |hk
    .subst e;omega
    .exact h1 k hk
theorem mU(k:Int):∀l:List Int,k∈cf l↔k∈l
 | []=>by simp[cf]
 |x::l=>by
  show k∈ku x (cf l)↔_;rw[xl,mU k l,aW]
theorem mV:∀l:List Int,(cf l).Pairwise (· < ·)
 | []=>by simp[cf]
 |x::l=>Dk x _ (mV l)
theorem xm:∀(l m:List Int),l.Pairwise (· < ·)->m.Pairwise (· < ·)->(∀k,k∈l↔k∈m)->l=m
 | [],[],_,_,_=>rfl
 | [],y::m,_,_,h=>by have:=(h y).mpr aO;simp at this
 |x::l,[],_,_,h=>by have:=(h x).mp aO;simp at this
 |x::l,y::m,hl,hm,h=>by
  obtain⟨l1,l2⟩:=pf.mp hl;obtain⟨m1,m2⟩:=pf.mp hm
  have e:x=y:=by
   rcases aW.mp ((h x).mp aO)with e |hx
   .exact e
   .rcases aW.mp ((h y).mpr aO)with e |hy
    .exact e.symm
    .have:=m1 x hx;have:=l1 y hy;omega
  subst e;rw[xm l m l2 m2 λk=>?_];constructor
  .intro hk
   rcases aW.mp ((h k).mp (bv _ hk))with e |q
   .have:=l1 k hk;omega
   .exact q
  .intro hk
   rcases aW.mp ((h k).mpr (bv _ hk))with e |q
   .have:=m1 k hk;omega
   .exact q
theorem oy:∀(F L:List Int),F.Nodup->(∀x∈F,x∈L)->L.length<=F.length->L.Perm F
 | [],L,_,_,h=>by
  obtain rfl:L=[]:=o8.mp (by simpa using h)
  exact .refl _
 |x::F,L,hn,hs,h=>by
  obtain⟨n1,n2⟩:=cY.mp hn;have hx:=hs x aO;have p:=perm_cons_erase hx;refine p.trans (vg x (oy F (L.erase x) n2 (λy hy=>?_) ?_))
  .have ne:y≠x:=λe=>by subst e;exact n1 hy
   exact(mem_erase_of_ne ne).mpr (hs y (bv _ hy))
  .rw[length_erase_of_mem hx];simp at h;omega
theorem tK(val:Nat->Int):∀i,(eZ val i).Nodup
 | 0=>by rw[firstMet_zero];exact fR
 |i+1=>by
  rw[firstMet_succ];unfold step_dedup;split
  .exact tK val i
  .rename_i h;refine gL.mpr ⟨tK val i,by simp,λa ha b hb e=>?_⟩;have:b=val i:=by simpa using hb
   rw[e,this]at ha;exact h (any_eq_true.mpr ⟨_,ha,by simp⟩)
theorem Dl(ns:List Int)(k:Int):(eZ (λi=>ns.getD i 0) ns.length).any (·==k)=ab↔k∈ns:=by
 rw[firstMet_any]
 have e:(bF ns.length).map (λi=>ns.getD i 0)=ns:=by
  refine nr λi=>?_;rw[cD]
  by_cases hi:i<ns.length
  .rw[rp hi];simp[bD,hi]
  .rw[d8 (by rw[cX];omega),d8 (by omega)];rfl
 rw[e,any_eq_true];exact⟨λq_=>by obtain⟨x,hx,q⟩:=q_;have:=beq_iff_eq.mp q;exact this▸hx,λh=>⟨k,h,by simp⟩⟩
variable{out:List Int}
theorem KL(hs:out.Pairwise (·<=·))(hl:out.length=(eZ (λi=>ns.getD i 0) ns.length).length)(hm:∀k,(eZ (λi=>ns.getD i 0) ns.length).any (·==k)=ab↔k∈out):out=cf ns:=by
 have nd:=tK (λi=>ns.getD i 0) ns.length;have p:=oy _ out nd (λx hx=>(hm x).mp (any_eq_true.mpr ⟨x,hx,by simp⟩)) (by omega);have nd':out.Nodup:=p.nodup_iff.mpr nd
 have lt:out.Pairwise (· < ·):=by
  refine List.Pairwise.imp₂ (λa b h1 h2=>?_) hs nd';exact Int.lt_iff_le_and_ne.mpr ⟨h1,h2⟩
 exact xm _ _ lt (mV ns) λk=>by rw[<- hm k,Dl,mU]
theorem KM(ns:List Int):(cf ns).length=(eZ (λi=>ns.getD i 0) ns.length).length:=by
 have nd:=tK (λi=>ns.getD i 0) ns.length;have nd':(cf ns).Nodup:=(mV ns).imp λh=>Int.ne_of_lt h
 have m:∀x,x∈eZ (λi=>ns.getD i 0) ns.length↔x∈cf ns:=λx=>by
  refine Iff.trans ?_ (mU x ns).symm;refine Iff.trans ?_ (Dl ns x);rw[any_eq_true];exact⟨λh=>⟨x,h,by simp⟩,λq_=>by obtain⟨y,hy,q⟩:=q_;have:=beq_iff_eq.mp q;exact this▸hy⟩
 rcases Nat.le_total (cf ns).length (eZ (λi=>ns.getD i 0) ns.length).length with h |h
 .exact(oy _ _ nd (λx hx=>(m x).mp hx) h).length_eq
 .exact(oy _ _ nd' (λx hx=>(m x).mpr hx) h).length_eq.symm
theorem Inv.draws(I:Inv X pins σ H s)(d':Drawn):Inv X pins σ H {s with drawn:=d'}:=by
 refine I.step (g':=s.gens) (d':=d') (t':=s.toks) (h':=s.heap) (ch:=[]) (λb hb=>by cases hb) (λb o _ _ _ e _=>e) (λb o _ _ _ e _=>⟨o.slots,e⟩) (λ_ _ _ _ n=>n)
  (λb o _ e=>⟨o,e⟩) (λ_ _ e=>e) (λ_ _ _ e=>e) (λb ps e=>⟨#[],by rw[e];simp⟩) (λm hm=>hm) I.hok I.bare
theorem xn:∀{vs:LVa} {ns:List Int},e7 vs ns->aG (ns.map V.int) vs
 | _,_,.nil=>.nil
 | _,_,.cons n t h=>.cons ⟨t,rfl⟩ (xn h)
theorem xp:∀{ns:List Int} {vs:LVa},aG (ns.map V.int) vs->e7 vs ns
 | [],_,.nil=>.nil
 |n::ns,_,.cons ⟨t,e⟩ h=>by subst e;exact .cons n t (xp h)
def tSS(K:aX)(te:TE):TE:=λσ H Q=>te σ H λx H1=>∃l ns,x=.ref l/\SqL K H1 l (ns.map V.int)/\ns.length<4000/\(cf ns).length<64/\∀p,H1 p=ac->Q (.ref p) (upd H1 p (.lst ((cf ns).map V.int)))
variable{pos2:Pos}
theorem KN(hc:X.calm=ab)(hgs:Gl X "sorted")(hms:X.mg "sorted"=ac)(hgt:Gl X "set")(hmt:X.mg "set"=ac)(he:PE X e te)
 (h1:ba [.Call (.Name "set" p2) [e] [] pos2] X.env=(ae,eval (.Call (.Name "set" p2) [e] [] pos2) X.env)::ba [] X.env:=by rfl)(h2:ba [e] X.env=(ae,eval e X.env)::ba [] X.env:=by rfl)
 (hpl:(c4 pos (ba [] X.env)).any (·.1)=ae:=by rfl)(hpl2:(c4 pos2 (ba [] X.env)).any (·.1)=ae:=by rfl):
  PE X (.Call (.Name "sorted" p) [.Call (.Name "set" p2) [e] [] pos2] [] pos) (tSS X.K te):=by
 intro pins s σ H Q I h;refine lU (kc I hgs hms boot_sorted ?_);refine vm ?_ h1 hpl;rw[h1];show wpAny _ _ (spliced ((ae,eval (.Call (.Name "set" p2) [e] [] pos2) X.env)::c4 pos (ba [] X.env))) _ _ s;refine kX (lU (kc I hgt hmt boot_set ?_));refine py ?_ h2 hpl2;rw[h2];show wpAny _ _ (spliced ((ae,eval e X.env)::c4 pos2 (ba [] X.env))) _ _ s;refine kX (thn (he pins s σ H _ I h) λu s1 q_=>?_);obtain⟨x,H1,I1,r1,l,ns,e1,hq,hb,h64,q⟩:=q_;subst e1;cases r1;refine aJ ?_;obtain⟨its,rr,pl,hz⟩:=I1.list hq;have ii:e7 its ns:=xp rr;have zz:its.toArray.size=ns.length:=by rw[size_toArray,ii.length]
 refine Kt (items:=its.toArray) (ns:=ns) (I1.ok.hd hc) pl.isList (by simpa using ii) (by rw[zz];unfold kS;omega) λh' tk qs keep htk=>?_;rw[zz]at qs;refine aJ ?_;have lt:s1.heap.objs.size<h'.objs.size:=by obtain⟨o,_,_,_,ho,_⟩:=id qs;exact bA ho
 refine KJ (s:={s1 with heap:=h',toks:=tk}) (I1.ok.hd hc) qs (by rw[<- KM];exact h64) λpp h'' d'' tk'' ep out ns' keep2 gp htk2 ge o1 o3 o4 o5=>?_
 have en:ns'=cf ns:=KL o3 o4 o5;subst en;refine⟨.ref pp,_,((I1.laid (h':=h'') (t':=tk'') (a:=pp) (o:=.lst ((cf ns).map V.int)) (λb u g=>keep2 _ _ (keep b u (bA g) g)) (cZ (gN lt) gp) ?_).draws d''),rfl,q pp (I1.hok.fresh (cZ (gN lt) gp))⟩;exact⟨by rw[aH,dL];omega,out.toList,ep,xn o1,by simpa using ge⟩
noncomputable def iM:LD->Option (List Int)
 | []=>aa []
 |.int i::r=>(iM r).map (i::·)
 | _::_=>ac
theorem xq:∀{ds:LD} {ns:List Int},iM ds=aa ns->ds=ns.map D.int
 | [],_,h=>by cases h;rfl
 |.int i::r,ns,h=>by
  replace h:(iM r).map (i::·)=aa ns:=h
  cases e:iM r with
  |none=>rw[e]at h;cases h
  |some m=>rw[e]at h;cases h;rw[xq e];rfl
 |.non::_,_,h=>by cases h
 |.bl _::_,_,h=>by cases h
 |.str _::_,_,h=>by cases h
 |.lst _::_,_,h=>by cases h
 |.tup _::_,_,h=>by cases h
 |.kl _::_,_,h=>by cases h
 |.kt _::_,_,h=>by cases h
 |.dic _ _::_,_,h=>by cases h
 |.ins _ _ _::_,_,h=>by cases h
theorem xr:∀(ns:List Int),iM (ns.map D.int)=aa ns
 | []=>rfl
 |n::ns=>by show(iM (ns.map D.int)).map (n::·)=_;rw[xr ns];rfl
theorem xt{G:Gc}{H:Hp}:∀{ns:List Int} {vs:List V},am G H (ns.map D.int) vs->vs=ns.map V.int
 | [],_,h=>h
 |n::ns,_,⟨v,r,e,h1,h2⟩=>by rw[e,show v=V.int n from h1,xt h2];rfl
noncomputable def qg(f:MF1)(U:LS):OLD:=(f U).bind λd=>(lsD d).bind λds=>(iM ds).bind λns=>if ns.length<4000/\(cf ns).length<64 then aa ((cf ns).map .int) else ac
theorem KO(hc:X.calm=ab)(hgs:Gl X "sorted")(hms:X.mg "sorted"=ac)(hgt:Gl X "set")(hmt:X.mg "set"=ac)(ha:DE c X e f)
 (h1:ba [.Call (.Name "set" p2) [e] [] pos2] X.env=(ae,eval (.Call (.Name "set" p2) [e] [] pos2) X.env)::ba [] X.env:=by rfl)(h2:ba [e] X.env=(ae,eval e X.env)::ba [] X.env:=by rfl)
 (hpl:(c4 pos (ba [] X.env)).any (·.1)=ae:=by rfl)(hpl2:(c4 pos2 (ba [] X.env)).any (·.1)=ae:=by rfl):DO c X (.Call (.Name "sorted" p) [.Call (.Name "set" p2) [e] [] pos2] [] pos) (qg f):=
 PE.imp (KN hc hgs hms hgt hmt ha h1 h2 hpl hpl2) λσ H Q q_=>by
  obtain⟨Hf0,H0,Hf,U,ds,st,ef,k⟩:=q_;unfold qg at ef
  cases e1:f U with
  |none=>rw[e1]at ef;cases ef
  |some d=>
   rw[e1]at ef
   cases e2:lsD d with
   |none=>rw[aC,e2]at ef;cases ef
   |some xs=>
    rw[aC,e2]at ef
    cases e3:iM xs with
    |none=>rw[aC,e3]at ef;cases ef
    |some ns=>
     rw[aC,e3,aC]at ef;split at ef
     .rename_i hl;cases ef;refine⟨Hf0,H0,Hf,U,d,st,e1,λv Hf' H' x r=>?_⟩;obtain⟨l,vs,el,q,rs⟩:=jA e2 r;rw[xq e3]at rs;have ev:=xt rs;subst ev el;exact⟨l,ns,rfl,x.s.seq q,hl.1,hl.2,λpp hp=>k pp _ Hf' _ (x.trans (Ext.tmp x.s hp)) (x.h.free hp) (x.s.free hp) be (am.ints _)⟩
     .cases ef
noncomputable def jG(f g:MF1)(U:LS):OLD:=(f U).bind λx=>(g U).bind λy=>match x,y with
 |.lst a,.lst b=>if a.length+b.length<=16777216 then aa (a++b) else ac
 | _,_=>ac
theorem KP(h:jG f g U=aa ds):∃a b,f U=aa (.lst a)/\g U=aa (.lst b)/\a.length+b.length<=16777216/\ds=a++b:=by
 unfold jG at h
 cases e1:f U with
 |none=>rw[e1]at h;cases h
 |some x=>
  cases e2:g U with
  |none=>rw[e1,e2]at h;cases h
  |some y=>
   rw[e1,e2,aC,aC]at h;split at h
   .split at h
    .rename_i a b hl;cases h;exact⟨a,b,rfl,rfl,hl,rfl⟩
    .cases h
   .cases h
theorem tL{a:Expr}(ha:DE c X a f)(hb:DE c X b g):DO c X (.BinOp a .Add b pos) (jG f g):=PE.imp (Bv BX ha hb) λσ H Q q_=>by
 obtain⟨Hf0,H0,Hf,U,ds,st,ef,k⟩:=q_;obtain⟨xs,ys,e1,e2,hl,rfl⟩:=KP ef;refine⟨Hf0,H0,Hf,U,_,st,e1,λv Hf1 H1 x1 r1=>⟨Hf0,H0,Hf1,U,_,st.step x1,e2,λu Hf2 H2 x2 r2=>?_⟩⟩;obtain⟨l,vs,el,q1,s1⟩:=r1.up x2.f;obtain⟨m,us,em,q2,s2⟩:=r2;subst el em;have x:=x1.trans x2;exact⟨l,m,vs,us,rfl,rfl,x2.s _ _ q1,x2.s _ _ q2,by rw[dL,<- s1.length,<- s2.length];exact hl,λp hp=>k p _ Hf2 _ (x.trans (Ext.tmp x.s hp)) (x.h.free hp) (x.s.free hp) be (s1.append s2)⟩
def wp(F:MF3)(U:LS)(K:Fl->Prop):Prop:=∃o,F U=aa o/\K o
def Dn(F:MF3)(K:Fl->Prop):Fl->Prop
 |.nx U=>wp F U K
 |o=>K o
def xu(J:LS->Prop)(K:Fl->Prop):Fl->Prop
 |.nx U=>J U
 |.ct U=>J U
 |.bk U=>K (.nx U)
 |o=>K o
def tM(Q:D->Prop)(o:Fl):Prop:=∃d,wQ o=aa d/\Q d
variable{K:Fl->Prop}
theorem aA(h:wp F U (Dn F' K)):wp (ar F F') U K:=by
 obtain⟨o,e,k⟩:=h;unfold wp ar;rw[e]
 cases o with
 |nx ρ'=>exact k
 | _=>exact⟨_,rfl,k⟩
theorem cp(h:K (.nx U)):wp bL U K:=⟨_,rfl,h⟩
theorem bX(h:f U=aa d)(k:K (.nx (U.set i (.im d)))):wp (bz i f) U K:=⟨_,JO h,k⟩
theorem jd{f:MF2}{d:LD}(h:f U=aa d)(k:K (.nx (U.set i (.own d)))):wp (eR i f) U K:=⟨_,JP h,k⟩
theorem il(h:f U=aa d)(k:K (.rt d)):wp (aY f) U K:=⟨_,cW h,k⟩
theorem g7{f:MF2}{d:LD}(h:f U=aa d)(k:K (.rtO d)):wp (dz f) U K:=⟨_,by unfold dz;rw[h];rfl,k⟩
theorem Do{o:Fl}(h:F U=aa o)(k:K o):wp F U K:=⟨_,h,k⟩
variable{b:Bool}
theorem bw{t:MF4}(h:t U=aa b)(kT:b=ab->wp F U K)(kF:b=ae->wp F' U K):wp (bo t F F') U K:=by
 unfold wp bo;rw[h]
 cases b with
 |true=>exact kT rfl
 |false=>exact kF rfl
theorem iN(e:wP i U=ρ')(h:wp F ρ' K):wp (gy i F) U K:=by
 subst e;exact h
variable{xs:LD}
theorem jH(h:f U=aa d)(h':U[i]?=aa (.own xs))(hl:xs.length<16777216)(k:K (.nx (U.set i (.own (xs++[d]))))):wp (gz i f) U K:=⟨_,JV h h' hl,k⟩
theorem ly(hv:fv U=aa d)(hk:fk U=aa (.int k))(h':U[i]?=aa (.own xs))(h0:0<=k)(h1:k<xs.length):lx i fk fv U=aa (.nx (U.set i (.own (xs.set k.toNat d)))):=by
 have e:ixN xs.length k=aa k.toNat:=by
  unfold ixN;rw[if_pos h0,if_pos h1]
 unfold lx;rw[hv,aC,hk,aC]
 show(match U[i]? with |some (.own xs)=>(ixN xs.length k).map λj=>Fl.nx (U.set i (.own (xs.set j d))) | _=>ac)=_
 rw[h'];show(ixN xs.length k).map _=_;rw[e];rfl
theorem Dr(hv:fv U=aa d)(hk:fk U=aa (.int k))(h':U[i]?=aa (.own xs))(h0:0<=k)(h1:k<xs.length)(q:K (.nx (U.set i (.own (xs.set k.toNat d))))):wp (lx i fk fv) U K:=⟨_,ly hv hk h' h0 h1,q⟩
theorem Ds{α:Type}{g:D->LS->Option LS}{F:MF3}{K:Fl->Prop}(f:α->D)(I:List α->LS->Prop):∀(post pre:List α) (U:LS),I pre U ->
  (∀pre' x post' U,pre++post=pre'++x::post'->I pre' U->∃ρ1,g (f x) U=aa ρ1/\wp F ρ1 (xu (I (pre'++[x])) K))->(∀ρ',I (pre++post) ρ'->K (.nx ρ'))->wp (iI g F (post.map f)) U K
 | [],pre,U,h,_,hk=>⟨_,rfl,hk U (by rw[cr];exact h)⟩
 |x::post,pre,U,h,hs,hk=>by
  obtain⟨ρ1,e1,o,e2,k2⟩:=hs pre x post U rfl h;unfold wp;rw[bn];unfold iI;rw[e1,aC,e2,aC]
  have go:∀ρ2,I (pre++[x]) ρ2->wp (iI g F (post.map f)) ρ2 K:=λρ2 h2=>
   Ds f I post (pre++[x]) ρ2 h2 (by rw[fQ];exact hs) (by rw[fQ];exact hk)
  cases o with
  |nx ρ2=>exact go ρ2 k2
  |ct ρ2=>exact go ρ2 k2
  |bk ρ2=>exact⟨_,rfl,k2⟩
  |rt d=>exact⟨_,rfl,k2⟩
  |rtO d=>exact⟨_,rfl,k2⟩
  |rtS d ρ2=>exact⟨_,rfl,k2⟩
  |rtT o=>exact⟨_,rfl,k2⟩
theorem dW{α:Type}{g:D->LS->Option LS}(xs:List α)(f:α->D)(I:List α->LS->Prop)(hi:fi U=aa (xs.map f))(h0:I [] U)
 (hs:∀pre x post U,xs=pre++x::post->I pre U->∃ρ1,g (f x) U=aa ρ1/\wp F ρ1 (xu (I (pre++[x])) K))(hk:∀ρ',I xs ρ'->K (.nx ρ')):wp (cJ fi g F) U K:=by
 obtain⟨o,e,k⟩:=Ds f I xs [] U h0 hs hk;refine⟨o,?_,k⟩;unfold cJ;rw[hi];exact e
theorem qh{t:MF4}{F:MF3}{K:Fl->Prop}(I:Nat->LS->Prop)(hs:∀m U,I m U->∃b,t U=aa b/\(b=ab->wp F U (xu (λρ'=>∃m',m'<m/\I m' ρ') K))/\(b=ae->K (.nx U))):
  ∀(n m:Nat) (U:LS),I m U->m<n->wp (ie t F n) U K
 | 0,m,U,_,h=>absurd h (lR _)
 |n+1,m,U,h,hn=>by
  obtain⟨b,e,kT,kF⟩:=hs m U h;unfold wp;unfold ie;rw[e,aC]
  cases b with
  |false=>exact⟨_,rfl,kF rfl⟩
  |true=>
   rw[if_pos rfl];obtain⟨o,e2,k2⟩:=kT rfl;rw[e2,aC]
   have go:∀ρ2,(∃m',m'<m/\I m' ρ2)->wp (ie t F n) ρ2 K:=λρ2 q=>by
    obtain⟨m',hm,h2⟩:=q;exact qh I hs n m' ρ2 h2 (by omega)
   cases o with
   |nx ρ2=>exact go ρ2 k2
   |ct ρ2=>exact go ρ2 k2
   |bk ρ2=>exact⟨_,rfl,k2⟩
   |rt d=>exact⟨_,rfl,k2⟩
   |rtO d=>exact⟨_,rfl,k2⟩
   |rtS d ρ2=>exact⟨_,rfl,k2⟩
   |rtT o=>exact⟨_,rfl,k2⟩
variable{Q:D->Prop}
theorem jI(h:wp F (eS n ds) (tM Q)):∃d,aV n F ds=aa d/\Q d:=by
 obtain⟨o,e,d,e',q⟩:=h;refine⟨d,?_,q⟩;unfold aV;rw[e];exact e'
theorem jJ{r:D}(h:wp F (eS n ds) (tM λd=>d=r)):aV n F ds=aa r:=by
 obtain⟨d,e,q⟩:=jI h;rw[e,q]
theorem eU(h:Q d):tM Q (.rt d):=⟨d,rfl,h⟩
theorem gb{d:LD}(h:Q (.lst d)):tM Q (.rtO d):=⟨.lst d,rfl,h⟩
theorem xv{t:MF4}{r:OD}(h:t U=aa b)(hT:b=ab->f U=r)(hF:b=ae->g U=r):vIf t f g U=r:=by
 unfold vIf;rw[h]
 cases b with
 |true=>exact hT rfl
 |false=>exact hF rfl
variable{i j:Int}
theorem lz(h:0<j):bI (.int i) (.int j)=aa (.int (i % j)):=s9 h
theorem KQ(h:pJ i j):lh (.int i) (.int j)=aa (.int (i / j)):=s9 h
theorem KR(h:nO i j):wz (.int i) (.int j)=aa (.int (i ^ j.toNat)):=s9 h
theorem oz:cS (.int i) (.int j)=aa (.int (i+j)):=rfl
theorem xy:mx (.int i) (.int j)=aa (.int (i-j)):=rfl
theorem tN:dGt (.int i) (.int j)=aa (.bl (decide (j<i))):=rfl
theorem Dt:dGe (.int i) (.int j)=aa (.bl (decide (j<=i))):=rfl
theorem iO{α:Type}(xs:List α)(f:α->D):eG [.lst (xs.map f)]=aa (.int xs.length):=by
 show aa (D.int ((xs.map f).length:Int))=_;rw[aH]
theorem Du{α:Type}(f:α->D)(xs:List α)(lo hi:Option Int):mG (xs.map f) lo hi=((xs.drop (HT.sIx xs.length 0 lo)).take (HT.sIx xs.length xs.length hi-HT.sIx xs.length 0 lo)).map f:=by
 unfold mG;rw[aH,map_take,map_drop]
variable{lo hi:Option Int}
theorem qi{α:Type}{l h:LS->Option (Option Int)}{g:α->D}{xs:List α}(e:f U=aa (.lst (xs.map g)))(e1:l U=aa lo)(e2:h U=aa hi):mSl f l h U=aa (((xs.drop (HT.sIx xs.length 0 lo)).take (HT.sIx xs.length xs.length hi-HT.sIx xs.length 0 lo)).map g):=by
 unfold mSl;rw[e,aC];show(l U).bind (λlo=>(h U).map λhi=>mG (xs.map g) lo hi)=_;rw[e1,aC,e2,<- Du];rfl
theorem Dv{α:Type}{l h:LS->Option (Option Int)}{g:α->D}{xs:List α}(e:f U=aa (.kl (xs.map g)))(e1:l U=aa lo)(e2:h U=aa hi):mSl f l h U=aa (((xs.drop (HT.sIx xs.length 0 lo)).take (HT.sIx xs.length xs.length hi-HT.sIx xs.length 0 lo)).map g):=by
 unfold mSl;rw[e,aC];show(l U).bind (λlo=>(h U).map λhi=>mG (xs.map g) lo hi)=_;rw[e1,aC,e2,<- Du];rfl
theorem Dw{α:Type}(xs:List α)(f:α->D):dNe (.lst (xs.map f)) (.lst [])=aa (.bl (!xs.isEmpty)):=by cases xs <;> rfl
theorem KS{α:Type}(f:α->Bool)(xs:List α):(xs.map λx=>D.bl (f x))=(xs.map f).map D.bl:=by
 rw[map_map];rfl
theorem KU{α:Type}(f:α->Int)(xs:List α):(xs.map λx=>D.int (f x))=(xs.map f).map D.int:=by
 rw[map_map];rfl
def kJ(J:LS->Prop)(o:Fl):Prop:=∃ρ',o=.nx ρ'/\J ρ'
theorem k_J{J:LS->Prop}(h:J U):kJ J (.nx U):=⟨U,rfl,h⟩
theorem KW{S F:MF3}(J:LS->Prop)(h:wp S U (kJ J))(k:∀ρ',J ρ'->wp F ρ' K):wp (ar S F) U K:=by
 apply aA;obtain⟨o,e,ρ',rfl,j⟩:=h;exact⟨_,e,k ρ' j⟩
theorem Dx{i:Nat}(h:U[i]?=aa (.im d))(k:K (.rt d)):wp (g5 i) U K:=⟨_,by unfold g5;rw[h],k⟩
theorem oA{i:Nat}{d:LD}(h:U[i]?=aa (.own d))(k:K (.rtO d)):wp (g5 i) U K:=⟨_,by unfold g5;rw[h],k⟩
noncomputable def D.flat:D->Bool
 |.tup xs=>xs.all D.scalar
 |d=>d.scalar
noncomputable def je(Hf H:Hp):Hp:=λa=>match H a with
 |some (.tup vs)=>aa (.tup vs)
 | _=>Hf a
theorem xz(h:H a=aa (.tup vs)):je Hf H a=aa (.tup vs):=by
 unfold je;rw[h]
theorem qj(h:∀vs,H a≠aa (.tup vs)):je Hf H a=Hf a:=by
 unfold je;split
 .rename_i vs e;exact absurd e (h vs)
 .rfl
theorem xA(s:aw Hf H)(g:aw H H'):Ext Hf H (je Hf H') H':=by
 refine⟨λb u e=>?_,g,λb u e=>?_,λl o e t=>qj λvs q=>?_⟩
 .have e':=g b u (s b u e)
  cases u with
  |tup vs=>exact xz e'
  | _=>
   rw[qj (λvs q=>by rw[e']at q;cases q)];exact e
 .by_cases h:∃vs,H' b=aa (.tup vs)
  .obtain⟨vs,h⟩:=h;rw[xz h]at e;rw[h];exact e
  .rw[qj (λvs q=>h ⟨vs,q⟩)]at e;exact g b u (s b u e)
 .rw[g l o e]at q;cases q;cases t
theorem am.sc{G:Gc}{H H':Hp}:∀{ds:LD} {vs:List V},ds.all D.scalar=ab->am G H ds vs->am G H' ds vs
 | [],_,_,h=>h
 |d::ds,_,hs,q3_=>by
  obtain⟨v,r,e,h1,h2⟩:=q3_;rw[lQ,cg]at hs;exact⟨v,r,e,h1.sc hs.1,am.sc hs.2 h2⟩
variable{G:Gc}
theorem Rep.flat(hs:d.flat=ab)(r:Rep G H d v):Rep G (je Hf H) d v:=by
 cases d with
 |tup xs=>
  obtain⟨a,vs,e,h,q⟩:=r
  exact⟨a,vs,e,xz h,q.sc hs⟩
 |non=>exact r.sc hs
 |bl _=>exact r.sc hs
 |int _=>exact r.sc hs
 |str _=>exact r.sc hs
 |lst _=>cases hs
 |kl _=>cases hs
 |kt _=>cases hs
 |dic _ _=>cases hs
 |ins _ _ _=>cases hs
 |kd _ _=>cases hs
 |dT _ _=>cases hs
noncomputable def qk(m:LD->OD)(f:MF2)(U:LS):OD:=(f U).bind λds=>(m ds).bind λd=>if d.flat then aa d else ac
variable{es:LEx}{k:Nat}{f:Addr}
theorem KY(pk:Pk X.prog X.w X.K X.mg X.base CX0 k x (f,fd) ps (spD (Gx c X) ps.length m))(hr0:bG k0 X.A)(ha:DAB c X (e::es) fa)(hl:(e::es).length=ps.length:=by rfl)(hdb:NDb x:=by decide)(he:StE X e es:=by rfl)(hpl:BkE X pos es:=by rfl)(hk0:k<=k0:=by decide)(hg:Gl X x:=by first |rfl |exact glc rfl):
  DE c X (.Call (.Name x p) (e::es) [] pos) (qk m fa):=PE.imp (pN pk.ok (hr0.mono hk0) hg pk.g pk.kp pk.b .nil ib ha.pa hdb he hpl) λσ H Q q_=>by
 obtain⟨Hf0,H0,Hf,U,d,st,ef,kq⟩:=q_;unfold qk at ef
 cases e1:fa U with
 |none=>rw[e1]at ef;cases ef
 |some ds=>
  rw[e1]at ef;replace ef:(m ds).bind _=_:=ef
  cases e2:m ds with
  |none=>rw[e2]at ef;cases ef
  |some d'=>
   rw[e2]at ef;replace ef:(if d'.flat=ab then aa d' else ac)=aa d:=ef;split at ef
   .rename_i hs;cases ef;refine⟨Hf0,H0,Hf,U,ds,st,e1,λvs Hf' H' x r=>?_⟩;dsimp only;rw[cr];exact⟨H',ds,_,aw.refl _,r,(ha.len U ds e1).trans hl,e2,λv Hf2 H2 x2 r2=>kq v (je Hf' H2) H2 (x.trans (xA x.s x2.h)) ((r2.up x2.s).flat hs)⟩
   .cases ef
theorem KZ(pk:Pk X.prog X.w X.K X.mg X.base CX0 k x (f,fd) ps (spD (Gx c X) ps.length m))(hr0:bG k0 X.A)(ha:DAB c X (e::es) fa)(hl:(e::es).length=ps.length:=by rfl)(hdb:NDb x:=by decide)(he:StE X e es:=by rfl)(hpl:BkE X pos es:=by rfl)(hk0:k<=k0:=by decide)(hg:Gl X x:=by first |rfl |exact glc rfl):
  DB c X (.Call (.Name x p) (e::es) [] pos) (aB m fa):=PE.imp (pN pk.ok (hr0.mono hk0) hg pk.g pk.kp pk.b .nil ib ha.pa hdb he hpl) λσ H Q q_=>by
 obtain⟨Hf0,H0,Hf,U,d,st,ef,kq⟩:=q_;obtain⟨ds,e1,e2⟩:=sN ef;refine⟨Hf0,H0,Hf,U,ds,st,e1,λvs Hf' H' x r=>?_⟩;dsimp only;rw[cr];exact⟨H',ds,d,aw.refl _,r,(ha.len U ds e1).trans hl,e2,λv Hf2 H2 x2 r2=>kq v Hf' H2 (x.trans (Ext.grow x.s x2.h)) (r2.up x2.s)⟩
theorem am.flat{G:Gc}{Hf H:Hp}:∀{ds:LD} {vs:List V},ds.all D.flat=ab->am G H ds vs->am G (je Hf H) ds vs
 | [],_,_,h=>h
 |d::ds,_,hs,q3_=>by
  obtain⟨v,r,e,h1,h2⟩:=q3_;rw[lQ,cg]at hs;exact⟨v,r,e,h1.flat hs.1,am.flat hs.2 h2⟩
theorem xB{m:LD->OLD}{f:MF2}(h:f U=aa ds)(h':m ds=aa rs):om m f U=aa rs:=by
 unfold om;rw[h,aC,h']
theorem xC(h:F (eS n ds)=aa (.rtO rs)):mO n F ds=aa rs:=by
 unfold mO;rw[h];rfl
theorem K0{f:MF2}(h:f U=aa ds)(h':m ds=aa d)(hs:d.flat=ab):qk m f U=aa d:=by
 unfold qk;rw[h,aC,h',aC,if_pos hs]
def tSL(K:aX)(te:TE):TE:=λσ H Q=>te σ H λx H1=>∃l ns,x=.ref l/\SqL K H1 l (ns.map V.int)/\ns.length<64/\ns.Nodup/\∀p,H1 p=ac->Q (.ref p) (upd H1 p (.lst ((cf ns).map V.int)))
theorem K1(nd:ns.Nodup)(p:out.Perm ns)(hs:out.Pairwise (·<=·)):out=cf ns:=by
 have nd':out.Nodup:=p.nodup_iff.mpr nd
 have lt:out.Pairwise (· < ·):=by
  refine List.Pairwise.imp₂ (λa b h1 h2=>?_) hs nd';exact Int.lt_iff_le_and_ne.mpr ⟨h1,h2⟩
 exact xm _ _ lt (mV _) λk=>by rw[mU];exact p.mem_iff
theorem K2(hgs:Gl X "sorted")(hms:X.mg "sorted"=ac)(he:PE X e te)(h1:ba [e] X.env=(ae,eval e X.env)::ba [] X.env:=by rfl)(hpl:(c4 pos (ba [] X.env)).any (·.1)=ae:=by rfl):
  PE X (.Call (.Name "sorted" p) [e] [] pos) (tSL X.K te):=by
 intro pins s σ H Q I h;refine lU (kc I hgs hms boot_sorted ?_);refine vm ?_ h1 hpl;rw[h1];show wpAny _ _ (spliced ((ae,eval e X.env)::c4 pos (ba [] X.env))) _ _ s;refine kX (thn (he pins s σ H _ I h) λu s1 q_=>?_);obtain⟨x,H1,I1,r1,l,ns,e1,hq,h64,nd,q⟩:=q_;subst e1;cases r1;refine aJ ?_;obtain⟨its,rr,pl,hz⟩:=I1.list hq;have ii:e7 its ns:=xp rr;refine sorted_ints pl.isList ii (by rw[ii.length];exact h64) λout ns' o1 o2 o3=>?_;obtain⟨ep,ge⟩:=sortedAll_at s1.heap its out;have en:ns'=cf ns:=K1 nd o2 o3;subst en;have hl:=o2.length_eq;refine⟨.ref (s1.heap.objs.size+1),_,(I1.laid (t':=s1.toks) (a:=s1.heap.objs.size+1) (o:=.lst ((cf ns).map V.int)) (λb u g=>sortedAll_old g) (jZ _) ?_),rfl,q _ (I1.hok.fresh (jZ _))⟩;exact⟨by rw[aH,dL];omega,out.toList,ep,xn o1,by simpa using ge⟩
noncomputable def qm(f:MF1)(U:LS):OLD:=(f U).bind λd=>(lsD d).bind λds=>(iM ds).bind λns=>if ns.length<64/\ns.Nodup then aa ((cf ns).map .int) else ac
theorem K3{f:MF1}(_hc:X.calm=ab)(hgs:Gl X "sorted")(hms:X.mg "sorted"=ac)(ha:DE c X e f)
 (h1:ba [e] X.env=(ae,eval e X.env)::ba [] X.env:=by rfl)(hpl:(c4 pos (ba [] X.env)).any (·.1)=ae:=by rfl):DO c X (.Call (.Name "sorted" p) [e] [] pos) (qm f):=
 PE.imp (K2 hgs hms ha h1 hpl) λσ H Q q_=>by
  obtain⟨Hf0,H0,Hf,U,ds,st,ef,k⟩:=q_;unfold qm at ef
  cases e1:f U with
  |none=>rw[e1]at ef;cases ef
  |some d=>
   rw[e1]at ef
   cases e2:lsD d with
   |none=>rw[aC,e2]at ef;cases ef
   |some xs=>
    rw[aC,e2]at ef
    cases e3:iM xs with
    |none=>rw[aC,e3]at ef;cases ef
    |some ns=>
     rw[aC,e3,aC]at ef;split at ef
     .rename_i hl;cases ef;refine⟨Hf0,H0,Hf,U,d,st,e1,λv Hf' H' x r=>?_⟩;obtain⟨l,vs,el,q,rs⟩:=jA e2 r;rw[xq e3]at rs;have ev:=xt rs;subst ev el;exact⟨l,ns,rfl,x.s.seq q,hl.1,hl.2,λpp hp=>k pp _ Hf' _ (x.trans (Ext.tmp x.s hp)) (x.h.free hp) (x.s.free hp) be (am.ints _)⟩
     .cases ef
theorem K4{f:MF1}(h:f U=aa (.lst (ns.map D.int)))(h1:ns.length<64)(h2:ns.Nodup):qm f U=aa ((cf ns).map D.int):=by
 unfold qm;rw[h,aC];show(iM (ns.map D.int)).bind _=_;rw[xr,aC,if_pos ⟨h1,h2⟩]
theorem Dy{k:Int}(h:k.natAbs<2 ^ n):rQ k<=n:=by
 unfold rQ;split
 .exact da _
 .rename_i hk;have:k.natAbs≠0:=λz=>hk (by rw[Int.natAbs_eq_zero.mp z];rfl);exact(Nat.log2_lt this).mpr h
def jK(i j:Int):Prop:=pK i j\/(i.natAbs<2 ^ 200/\j.natAbs<2 ^ 200)
theorem jK.ok(h:jK i j):IntMulOk i j:=by
 rcases h with h |⟨h1,h2⟩
 .exact h.ok
 .have a:=Dy h1;have b:=Dy h2;unfold IntMulOk
  have:Ba (rQ i+rQ j)=ae:=by
   unfold Ba;have c:(400:Int)<=bitsLine:=by decide
   exact decide_eq_false (by omega)
  rw[this,rk];exact bd
noncomputable instance {i j:Int}:Decidable (jK i j):=by unfold jK;infer_instance
noncomputable abbrev dP:D->D->OD:=dI jK λi j=>.int (i*j)
theorem K5:OpR X (fU .Mult) (rI jK λi j=>.int (i*j)):=opI λ_ _ _ _ _ _ _ hc q=>mul_int q hc.ok
theorem jf:OpD c X (fU .Mult) dP:=sC K5 λ_ _ _ _=>rfl
theorem K6(h:jK i j):dP (.int i) (.int j)=aa (.int (i*j)):=s9 h
def tDX(G:Gc)(f:LS->Option (D×LS)):TE:=λσ H Q=>∃Hf0 H0 Hf U d ρ',av G Hf0 H0 Hf H σ U/\f U=aa (d,ρ')/\∀v Hf' H',aw Hf Hf'->av G Hf0 H0 Hf' H' σ ρ'->Rep G Hf' d v->Q v H'
def DX(c:Str->Addr)(X:Cx)(e:Expr)(f:LS->Option (D×LS)):Prop:=PE X e (tDX (Gx c X) f)
noncomputable def xD:LD->OD
 | [.int a,.int b]=>aa (.int (if b<a then b else a))
 | _=>ac
theorem K7(hc:X.calm=ab):mH c X (.builtin "min") xD:=by
 rintro pins s σ H vs us Q I rv ⟨Hf,ds,d,s0,r,e,k⟩;unfold xD at e;split at e
 .rename_i a b;cases e;obtain⟨v1,vs1,rfl,h1,v2,vs2,rfl,h2,h3⟩:=r;cases (show vs2=[]from h3);cases (show v1=V.int a from h1);cases (show v2=V.int b from h2)
  cases rv with
  |cons r1 rr=>
   cases rr with
   |cons r2 rr=>
    cases rr;obtain⟨t,rfl⟩:=r1;obtain⟨u,rfl⟩:=r2;refine PySem.min_two_ints (I.ok.hd hc) λh' tk hold=>?_;refine⟨.int (if b<a then b else a),H,I.kept hold,?_,k _ Hf H (Ext.refl s0) rfl⟩
    by_cases hba:b<a
    .rw[if_pos hba,if_pos hba];exact⟨u,rfl⟩
    .rw[if_neg hba,if_neg hba];exact⟨t,rfl⟩
 .cases e
open Classical in
noncomputable def jg(f:LS->Option (D×LS))(U:LS):Option Fl:=(f U).map λp=>.nx p.2
theorem oB{f:LS->Option (D×LS)}(he:DX c X e f)(hs:gn e ac pos.line X.env=pure ae:=by rfl):DS c X (.Expr e pos) (jg f):=PS.imp (fc he hs) λE σ H q_=>by
 obtain⟨Hf0,H0,Hf,U,o,so,ef,k⟩:=q_;unfold jg at ef
 cases e1:f U with
 |none=>rw[e1]at ef;cases ef
 |some p=>
  rw[e1]at ef;cases ef;exact⟨Hf0,H0,Hf,U,p.1,p.2,so,e1,λv Hf' H' s so' r=>k σ Hf' H' s so'⟩
theorem am.erase{G:Gc}{H:Hp}:∀{ds:LD} {vs:List V} (k:Nat),am G H ds vs->am G H (ds.eraseIdx k) (vs.eraseIdx k)
 | [],_,_,h=>by cases (show _=[]from h);exact .nil
 |d::ds,_,0,⟨v,r,e,_,h2⟩=>by subst e;exact h2
 |d::ds,_,k+1,⟨v,r,e,h1,h2⟩=>by subst e;exact⟨v,r.eraseIdx k,rfl,h1,am.erase k h2⟩
def Fre(B Hf:Hp)(fp:LAd):Prop:=fp.Nodup/\∀a∈fp,B a=ac/\Hf a=ac
variable{B:Hp}
theorem Fre.nil:Fre B Hf []:=⟨.nil,λ_ h=>nomatch h⟩
theorem Fre.one(h:B l=ac)(h':Hf l=ac):Fre B Hf [l]:=⟨cY.mpr ⟨cE,fR⟩,λa ha=>by rw[eM.mp ha];exact⟨h,h'⟩⟩
theorem Fre.imp{B':Hp}(h:Fre B Hf fp)(k:∀a,B a=ac->B' a=ac):Fre B' Hf fp:=⟨h.1,λa ha=>⟨k a (h.2 a ha).1,(h.2 a ha).2⟩⟩
noncomputable def bsH(b:Bool)(H0 H:Hp):Hp:=bif b then H else H0
theorem xE(s:aw H0 H)(h:H a=ac):bsH b H0 H a=ac:=by
 cases b with
 |true=>exact h
 |false=>exact s.free h
def tDZ(G:Gc)(b:Bool)(f:LS->Option O):TE:=λσ H Q=>∃Hf0 H0 Hf U o,av G Hf0 H0 Hf H σ U/\f U=aa o/\∀u fp Hf' H',Ext Hf H Hf' H'->OT G Hf' H' o u fp->Fre (bsH b H0 H) Hf' fp->Q u H'
def DZ(c:Str->Addr)(X:Cx)(b:Bool)(e:Expr)(f:LS->Option O):Prop:=PE X e (tDZ (Gx c X) b f)
noncomputable def oC(f:MF1)(U:LS):Option O:=(f U).map .fz
noncomputable def lA(f:MF2)(U:LS):Option O:=(f U).map λds=>.lst (ds.map .fz)
theorem Dz{f:MF1}(h:DE c X e f):DZ c X b e (oC f):=PE.imp h λσ H Q q_=>by
 obtain⟨Hf0,H0,Hf,U,t,st,ef,k⟩:=q_;unfold oC at ef
 cases ed:f U with
 |none=>rw[ed]at ef;cases ef
 |some d=>
  rw[ed]at ef;cases ef;exact⟨Hf0,H0,Hf,U,d,st,ed,λv Hf' H' x r=>k v [] Hf' H' x ⟨r,rfl⟩ .nil⟩
theorem tO{f:MF2}(h:DO c X e f):DZ c X b e (lA f):=PE.imp h λσ H Q q_=>by
 obtain⟨Hf0,H0,Hf,U,t,st,ef,k⟩:=q_;unfold lA at ef
 cases ed:f U with
 |none=>rw[ed]at ef;cases ef
 |some ds=>
  rw[ed]at ef;cases ef;exact⟨Hf0,H0,Hf,U,ds,st,ed,λl vs Hf' H' x hn hf hl r=>k _ [l] Hf' H' x ⟨l,vs,[],rfl,hl,OTs.fz r,rfl⟩ (.one (xE st.ext.h hn) hf)⟩
def spT(G:Gc)(n:Nat)(m:LD->Option O):Sp:=λvs H Q _=>∃Hf ds o,aw Hf H/\am G Hf ds vs/\ds.length=n/\m ds=aa o/\∀u fp Hf' H',Ext Hf H Hf' H'->OT G Hf' H' o u fp->Fre H Hf' fp->Q u H'
mutual
noncomputable def O.flat:O->Bool
 |.fz d=>d.flat
 |.lst os=>O.flats os
 |.tup os=>O.flats os
 |.dic _ os=>O.flats os
 |.ins _ _ os=>O.flats os
 |.dT _ os=>O.flats os
 |.at _ o=>o.flat
 |.jnk _=>ab
 |.any=>ab
noncomputable def O.flats:List O->Bool
 | []=>ab
 |o::os=>o.flat && O.flats os
end
noncomputable def qo(i:Nat)(f:LS->Option O)(U:LS):Option Fl:=(f U).map λo=>.nx (U.set i (.deep o))
theorem K8(i:Nat){f:LS->Option O}(hN:X.N.Nodup)(he:DZ c X ab e f)(hi:X.N[i]?=aa x:=by rfl)(hx:Loc X.env.scope x:=by first |exact cv rfl |exact bO rfl)(hs:gn e (aa (.Name x pos')) pos.line X.env=pure ae:=by rfl)(hf:LcF X x:=by first |exact .inl rfl |exact .inr rfl):
  DS c X (.Assign [.Name x pos'] e pos) (qo i f):=PS.imp (ml hN hi hx he hs hf) λE σ H q_=>by
 obtain⟨Hf0,H0,Hf,U,o,so,ef,k⟩:=q_;unfold qo at ef
 cases e1:f U with
 |none=>rw[e1]at ef;cases ef
 |some t=>
  rw[e1]at ef;cases ef;refine⟨Hf0,H0,Hf,U,t,so,e1,λu fp Hf' H' x r z=>k _ Hf' H' x.f (so.setNew x ⟨u,fp,rfl,r,z.1,λa ha=>⟨so.ext.h.free (z.2 a ha).1,(z.2 a ha).2⟩⟩ λa p=>?_)⟩;obtain⟨fp',r',ha⟩:=p;have:=OT.funM t u fp fp' r r';subst this;exact(z.2 a ha).1
theorem OTs.at:∀{G:Gc} {Hf H:Hp} {os:List O} {vs:List V} {fp:LAd} {k:Nat} {o:O},OTs G Hf H os vs fp->os[k]?=aa o->∃v f,vs[k]?=aa v/\OT G Hf H o v f/\∀a∈f,a∈fp
 | _,_,_,[],_,_,_,_,_,e=>by simp at e
 | _,_,_,o::os,_,_,0,o',q8_,e'=>by
  obtain⟨v,r,f1,f2,e,h1,h2,ef⟩:=q8_;rw[List.getElem?_cons_zero]at e';cases e';subst e ef
  exact⟨v,f1,rfl,h1,λa ha=>gh _ ha⟩
 | _,_,_,o::os,_,_,k+1,o',q8_,e'=>by
  obtain⟨v,r,f1,f2,e,h1,h2,ef⟩:=q8_;rw[eW]at e';subst e ef;obtain⟨v',f,a,b,m⟩:=OTs.at h2 e';exact⟨v',f,by rw[eW];exact a,b,λa ha=>dX _ (m a ha)⟩
variable{i:Nat}
theorem K9{f:LS->Option O}{o:O}(h:f U=aa o)(k:K (.nx (U.set i (.deep o)))):wp (qo i f) U K:=⟨_,by unfold qo;rw[h];rfl,k⟩
theorem OTs.length{G:Gc}{Hf H:Hp}:∀{os:List O} {vs:List V} {fp:LAd},OTs G Hf H os vs fp->os.length=vs.length
 | [],_,_,h=>by rw[h.1];rfl
 |o::os,_,_,⟨v,r,f1,f2,e,h1,h2,ef⟩=>by subst e;simp[OTs.length h2]
theorem OTs.append{G:Gc}{Hf H:Hp}:∀{os ps:List O} {vs us:List V} {f g:LAd},OTs G Hf H os vs f->OTs G Hf H ps us g->OTs G Hf H (os++ps) (vs++us) (f++g)
 | [],_,_,_,_,_,h,t=>by obtain⟨a,b⟩:=h;subst a b;exact t
 |o::os,_,_,_,_,_,⟨v,r,f1,f2,e,h1,h2,ef⟩,t=>by subst e ef;exact⟨v,r++_,f1,f2++_,rfl,h1,OTs.append h2 t,fQ _ _ _⟩
theorem OTs.one{o:O}{f:LAd}(h:OT G Hf H o v f):OTs G Hf H [o] [v] f:=⟨v,[],f,[],rfl,h,⟨rfl,rfl⟩,(cr _).symm⟩
noncomputable def O.appd(o:O)(d:D):Option O:=match o with
 |.lst xs=>if xs.length<16777216 then aa (.lst (xs++[.fz d])) else ac
 |.jnk n=>if n<16777216 then aa (.jnk (n+1)) else ac
 | _=>ac
theorem DD{o o':O}{fk:LAd}(h:o.appd d=aa o')(r:OT G Hf H o v fk):∃l us,v=.ref l/\H l=aa (.lst us)/\us.length<16777216/\l∈fk /\
  ∀Hf' H' w,fk.Nodup->aw Hf Hf'->(∀b u,b≠l->H b=aa u->H' b=aa u)->H' l=aa (.lst (us++[w]))->Rep G Hf' d w->OT G Hf' H' o' v fk:=by
 cases o with
 |lst xs=>
  replace h:(if xs.length<16777216 then aa (O.lst (xs++[.fz d])) else ac)=aa o':=h;split at h
  .rename_i hl;cases h;obtain⟨l,us,fs,e,q,rs,ef⟩:=r;subst e ef;refine⟨l,us,rfl,q,by rw[<- rs.length];exact hl,aO,λHf' H' w n f k2 q' rw'=>?_⟩
   have o1 : OTs G Hf' H' xs us fs:=OTs.frameM f xs us fs rs λb u hb hm=>k2 b u (λz=>by
    subst z;rw[q]at hb;cases hb
    rcases hm with hm |hm
    .cases hm
    .exact(cY.mp n).1 hm) hb
   have o2:=o1.append (.one (o:=.fz d) (v:=w) (f:=[]) ⟨rw',rfl⟩);rw[cr]at o2;exact⟨l,us++[w],fs,rfl,q',o2,rfl⟩
  .cases h
 |jnk n=>
  replace h:(if n<16777216 then aa (O.jnk (n+1)) else ac)=aa o':=h;split at h
  .rename_i hl;cases h;obtain⟨l,us,e,q,z,ef⟩:=r;subst e ef;exact⟨l,us,rfl,q,by omega,aO,λHf' H' w _ f k2 q' rw'=>⟨l,us++[w],rfl,q',by rw[a9,fD];omega,rfl⟩⟩
  .cases h
 | _=>cases h
def DF(G:Gc)(Hf H:Hp)(σ:St)(U:LS)(a:Addr):Prop:=∀(k:Nat) (t:Sl) (w:V),U[k]?=aa t->σ[k]?=aa (aa w)->Holds G Hf H t w a->False
def DH(ks:LN)(a b:LS):Prop:=a.length=b.length/\∀m,m∉ks->a[m]?=b[m]?
theorem DH.refl(ks:LN)(a:LS):DH ks a a:=⟨rfl,λ_ _=>rfl⟩
noncomputable def gE(H:Hp)(fp:LAd):Hp:=λa=>if a∈fp then ac else H a
theorem xF(h:a∈fp):gE H fp a=ac:=by unfold gE;rw[if_pos h]
theorem tP(h:a∉fp):gE H fp a=H a:=by unfold gE;rw[if_neg h]
theorem La:aw (gE H fp) H:=λa o e=>by
 by_cases h:a∈fp
 .rw[xF h]at e;cases e
 .rw[tP h]at e;exact e
theorem DJ{F:Hp}(s:aw F H)(h:∀a∈fp,F a=ac):aw F (gE H fp):=λa o e=>by
 rw[tP (λz=>by rw[h a z]at e;cases e)];exact s a o e
variable{kvs:List (Key×V)}
theorem Inv.freeze(I:Inv X pins σ H s)(e:H l=aa (.dK kvs)):∃od,Inv X pins σ (upd H l (.frz od (.dK kvs))) s:=by
 obtain⟨z,ns,vs,rel,od,es,ep,ho,r⟩:=B2 I.hok e;refine⟨od,?_⟩
 have fr:∀b u,H b=aa u->(∀w,u≠.dK w)->upd H l (.frz od (.dK kvs)) b=aa u:=λb u hb hu=>by
  rw[aK (λq=>by subst q;rw[e]at hb;cases hb;exact hu _ rfl)];exact hb
 have:=I.step (g':=s.gens) (t':=s.toks) (d':=s.drawn) (h':=s.heap) (ch:=[]) (H':=upd H l (.frz od (.dK kvs))) (λb hb=>nomatch hb) (λb o _ _ _ e _=>e) (λb o _ _ _ e _=>⟨o.slots,e⟩) (λb o _ _ n=>by rw[aK (λq=>by subst q;rw[e]at n;cases n)];exact n)
  (λb o _ e=>⟨o,e⟩) (λb xs hb=>fr b _ hb (λw q=>by cases q)) (λb o u hb=>fr b _ hb (λw q=>by cases q)) (λb ps hb=>⟨#[],by rw[fr b _ hb (λw q=>by cases q)];simp⟩) (λm hm=>hm) (λb u hb=>?_) I.bare
 .exact this
 .by_cases q:b=l
  .subst q;rw[be]at hb;cases hb;exact⟨ho,z,ns,vs,rel,od,es,ep,ho,r⟩
  .rw[aK q]at hb;exact(I.hok b u hb).stay (λc v _ h=>h) (λc h=>fr c _ h (λw q=>by cases q)) (λc xs h=>fr c _ h (λw q=>by cases q))
noncomputable def Itk(od:Obj)(d:Addr):It:=
  ⟨λi H=> ∃kvs k v, H d = aa (.frz od (.dK kvs))/\kvs[i]? = aa (k, v),
   λi H x H'=> H' = H/\∀kvs, H d = aa (.frz od (.dK kvs))->∃k v, kvs[i]? = aa (k, v)/\x = kV k,
   λi H=> ∃kvs, H d = aa (.frz od (.dK kvs))/\kvs.length<=i⟩
theorem KV.get:∀{xs:List (Key×V)} {us:List (Key×Value)} {i:Nat} {x:Key×V},KV xs us->xs[i]?=aa x->∃u,us[i]?=aa u/\x.1=u.1/\aF x.2 u.2
 | _,_,_,_,.nil,e=>by simp at e
 | _,_,0,_,.cons r _,e=>by simp at e;subst e;exact⟨_,rfl,r⟩
 | _,_,i+1,x,.cons _ t,e=>by
  obtain⟨u,h1,h2⟩:=KV.get (i:=i) (x:=x) t (by simpa using e);exact⟨u,by simpa using h1,h2⟩
theorem Lb{k:Key}{v:Value}(h:k6 k v=ab):aF (kV k) v:=by
 rcases i4 h with⟨i,t,rfl,rfl⟩ |⟨x,t,rfl,rfl⟩
 .exact⟨t,rfl⟩
 .exact⟨t,rfl⟩
theorem Lc{K:aX}{od:Obj}{es:Array DictEntry}(hd:od.data=.dict es ep)(d it:Addr):ke P w K tg (Itk od d) [it] it (λi h=>h.IsKeyIter it d i es.size ep) where
 mem:=by simp
 obj:=λi h st b hb=>by
  have e:b=it:=by simpa using hb
  subst e;obtain⟨o,e,c,d⟩:=st;exact⟨o,e,λv z=>by rw[d]at z;cases z⟩
 keep:=λi h h' st k=>st.at λo e=>k it (by simp) o e
 item:=by
  intro X hP hw hK hc i pins s σ H E I hf st hg;subst hP hw hK;obtain⟨kvs,k,v,hH,hx⟩:=hg;obtain⟨ho,z,ns,vs,rel,od',es',ep',ho',ex,hd',kk,pp,nd⟩:=I.hok d _ hH;rw[ho]at ho';cases ho';rw[hd]at hd';cases hd';have hm:s.heap.DictAt (iD X.prog X.w) d vs ep:=⟨od,es,ho,ex,hd,kk,pp,nd⟩;have hl:es.size=vs.length:=by rw[<- pp.length];simp
  obtain⟨⟨k',v'⟩,hv,ek,rv⟩:=KV.get rel hx;have ek:k=k':=ek;subst ek;obtain⟨f0,f1,f2,f3,f4,f5⟩:=hf it (by simp);rw[hl]at st;refine wpAny_pyNext_dict_item st hm hv λkey h' hkey st' sb=>?_
  have I1:Inv X pins σ H {s with heap:=h'}:=I.turned (t':=s.toks) (λb o hb e=>(sb.2 b hb).trans e) f0 f1 f3 f4 f5
  refine⟨key,rfl,letGo_keyiter (s':={s with heap:=h'}) st' ⟨kV k,H,I1,Lb hkey,⟨rfl,λkvs2 h2=>?_⟩,by rw[hl];exact st',λb hb=>(hf b hb).1⟩⟩
  rw[hH]at h2;cases h2;exact⟨k,v,hx,rfl⟩
 done:=by
  intro X hP hw hK hc i pins s σ H E I hf st hg;subst hP hw hK;obtain⟨kvs,hH,hx⟩:=hg;obtain⟨ho,z,ns,vs,rel,od',es',ep',ho',ex,hd',kk,pp,nd⟩:=I.hok d _ hH;rw[ho]at ho';cases ho';rw[hd]at hd';cases hd';have hm:s.heap.DictAt (iD X.prog X.w) d vs ep:=⟨od,es,ho,ex,hd,kk,pp,nd⟩;have hl:es.size=vs.length:=by rw[<- pp.length];simp
  have hv:kvs.length=vs.length:=nJ rel;obtain⟨f0,f1,f2,f3,f4,f5⟩:=hf it (by simp);rw[hl]at st;exact wpAny_pyNext_dict_end (I.ok.hd hc) st hm (d8 (by omega)) λh' eb=>⟨rfl,I.turned (t':=s.toks) (λb o hb e=>eb b o hb e) f0 f1 f3 f4 f5⟩
 self:=λ_ _ _ _ _ st h=>wpAny_pyIter_keyiter st h
def Ld(te:TE):TI:=λσ H R=>te σ H λx H1=>∃d od kvs,x=.ref d/\H1 d=aa (.frz od (.dK kvs))/\R (Itk od d) H1
theorem Le(he:PE X e te):PI X tg e (Ld te):=by
 intro pins s σ H R I h;refine thn (he pins s σ H _ I h) λv s1 q_=>?_;obtain⟨x,H1,I1,r1,q1⟩:=q_;obtain⟨d,od,kvs,ex,hH,q⟩:=q1;subst ex;cases r1;obtain⟨ho,z,ns,vs,rel,od',es,ep,ho',exd,hd',kk,pp,nd⟩:=I1.hok d _ hH;rw[ho]at ho';cases ho';have hm:s1.heap.DictAt (iD X.prog X.w) d vs ep:=⟨od,es,ho,exd,hd',kk,pp,nd⟩;have hl:es.size=vs.length:=by rw[<- pp.length];simp
 refine wpAny_pyIter_dict ns hm ?_;refine⟨s1.heap.objs.size,[s1.heap.objs.size],_,_,H1,rfl,I1.kept (t':=s1.toks) λb o e=>bT _ e,Lc hd' d _,⟨_,dn _ rfl,rfl,by rw[hl];rfl⟩,λb hb=>?_,q⟩;have e:b=s1.heap.objs.size:=by simpa using hb
 subst e;exact I1.fpOk (aL _) (I1.hok.fresh (aL _))
noncomputable def kD:Key->D
 |.inl i=>.int i
 |.inr x=>.str x
theorem Lf(k:Key):Rep G H (kD k) (kV k):=by cases k <;> rfl
noncomputable def Lg:D->OLD
 |.kd ks _=>aa (ks.map kD)
 | _=>ac
noncomputable def xG(f:MF1)(U:LS):OLD:=(f U).bind Lg
theorem DK{α β:Type}:∀{ks:List α} {vs:List β} {i:Nat} {k:α},ks.length=vs.length->ks[i]?=aa k->∃v,(ks.zip vs)[i]?=aa (k,v)
 | [],_,_,_,_,e=>by simp at e
 | _::_,[],_,_,h,_=>by cases h
 |k::ks,v::vs,0,_,_,e=>by simp at e;subst e;exact⟨v,rfl⟩
 |k::ks,v::vs,i+1,_,h,e=>by
  obtain⟨u,hu⟩:=DK (i:=i) (ks:=ks) (vs:=vs) (by simpa using h) (by simpa using e);exact⟨u,by simpa using hu⟩
variable{f:MF1}
theorem Lh(he:DE c X e f):DI c X tg e (xG f):=PI.imp (Le he) λσ H R q_=>by
 obtain⟨Hf0,H0,Hf,U,ds,st,ef,k⟩:=q_;unfold xG at ef
 cases e1:f U with
 |none=>rw[e1]at ef;cases ef
 |some d=>
  rw[e1,aC]at ef
  cases d with
  |kd ks xs=>
   cases ef;refine⟨Hf0,H0,Hf,U,_,st,e1,λv Hf' H' x r=>?_⟩;obtain⟨a,od,vs,ev,q,z,rs⟩:=r;refine⟨a,od,_,ev,x.s _ _ q,k _ Hf' H' x λHf2 H2 f2 s2 i=>?_⟩;have q2:H2 a=aa (.frz od (.dK (ks.zip vs))):=(f2.trans s2) _ _ q;refine⟨λd ed=>?_,λei=>⟨_,q2,by rw[lP,<- z];rw[aH]at ei;omega⟩⟩;rw[cD]at ed
   cases hk:ks[i]? with
   |none=>rw[hk]at ed;cases ed
   |some ky=>
    rw[hk]at ed;cases ed;obtain⟨u,hu⟩:=DK z hk;refine⟨⟨_,ky,u,q2,hu⟩,λy H3 ⟨e3,hy⟩=>?_⟩;subst e3;obtain⟨k2,v2,h2,ey⟩:=hy _ q2;rw[hu]at h2;cases h2;subst ey
    exact⟨Hf2,Ext.refl s2,Lf ky⟩
  | _=>cases ef
noncomputable def jh(ks:List Key)(xs:LD)(k:Key):OD:=((ks.zip xs).find? λkv=>decide (kv.1=k)).map (·.2)
theorem xH{G:Gc}{H:Hp}{k:Key}:∀{ks:List Key} {xs:LD} {vs:List V},ks.length=vs.length->am G H xs vs->(∀d,jh ks xs k=aa d->∃v,cR (ks.zip vs) k=aa v/\Rep G H d v)/\(jh ks xs k=ac->cR (ks.zip vs) k=ac)
 | [],_,_,_,_=>⟨λd h=>(by cases h),λ_=>rfl⟩
 | _::_,_,[],h,_=>by cases h
 |j::ks,[],v::vs,_,r=>by cases (show _=[]from r)
 |j::ks,x::xs,v::vs,h,q4_=>by
  obtain⟨u,r',e,h1,h2⟩:=q4_
  injection e with e1 e2
  subst e1 e2;obtain⟨a,b⟩:=xH (k:=k) (ks:=ks) (xs:=xs) (vs:=vs) (by simpa using h) h2;unfold jh;rw[d9,d9]
  by_cases q:j=k
  .subst q;refine⟨λd hd=>⟨v,pP rfl,?_⟩,λhd=>?_⟩
   .rw[o9 (by simp)]at hd;cases hd;exact h1
   .rw[o9 (by simp)]at hd;cases hd
  .rw[find?_cons_of_neg (by simpa using q),nQ q];exact⟨a,b⟩
noncomputable def xI:D->Option (List Key×LD)
 |.dic ks xs=>aa (ks,xs)
 |.kd ks xs=>aa (ks,xs)
 | _=>ac
variable{a:Expr}
theorem Li{p:List Key×LD}(e:xI d=aa p)(r:Rep G H d v):∃a vs,v=.ref a/\Rd H a (.dK (p.1.zip vs))/\p.1.length=vs.length/\am G H p.2 vs:=by
 cases d with
 |dic ks xs=>cases e;obtain⟨a,vs,ev,q,z,r⟩:=r;exact⟨a,vs,ev,.inl q,z,r⟩
 |kd ks xs=>cases e;obtain⟨a,od,vs,ev,q,z,r⟩:=r;exact⟨a,vs,ev,.inr ⟨od,q⟩,z,r⟩
 | _=>cases e
variable{u:HO}
theorem Rd.up{a:Addr}(h:Rd H a u)(s:aw H H'):Rd H' a u:=h.imp (s _ _) λq_=>by
 obtain⟨o,e⟩:=q_;exact(⟨o,s _ _ e⟩)
noncomputable def xJ(x y:D):OD:=(xI x).bind λp=>(jF y).bind λk=>jh p.1 p.2 k
variable{b:Expr}
theorem Lj(hu:X.A.units+64<cLine)(ha:DE c X a f)(hb:DE c X b g)(hs:sm b:=by exact λ_ _=>rfl):DE c X (.Subscript a b pos) (m2 xJ f g):=
 PE.imp (B4 (by omega) ha hb hs) λσ H Q q_=>by
  obtain⟨Hf0,H0,Hf,U,d,st,ef,k⟩:=q_;obtain⟨x,y,e1,e2,e3⟩:=sw ef;refine⟨Hf0,H0,Hf,U,x,st,e1,λv Hf1 H1 x1 r1=>⟨Hf0,H0,Hf1,U,y,st.step x1,e2,λu Hf2 H2 x2 r2=>?_⟩⟩;unfold xJ at e3
  cases ed:xI x with
  |none=>rw[ed]at e3;cases e3
  |some p=>
   rw[ed,aC]at e3
   cases ek:jF y with
   |none=>rw[ek]at e3;cases e3
   |some ky=>
    rw[ek,aC]at e3;obtain⟨l,vs,el,q,z,r⟩:=Li ed (r1.up x2.f);have ev:=tu ek r2;subst ev el;obtain⟨w,hw,rw'⟩:=(xH z r).1 d e3;exact⟨l,w,rfl,.inl ⟨_,ky,q.up x2.s,rfl,hw.symm⟩,k _ Hf2 H2 (x1.trans x2) rw'⟩
noncomputable def tQ(i:Nat)(fk fx:MF1)(U:LS):OD:=match U[i]? with
 |some (.ownd ks xs)=>(fk U).bind λy=>(jF y).bind λk=>(fx U).map λx=>(jh ks xs k).getD x
 | _=>ac
variable{cpos:Pos}
section
variable{o:Expr}
theorem Lk(hu:X.A.units+64<cLine){fx:MF1}(ho:PE X o (dq i))(hk:DE c X a fk)(hx:DE c X b fx)(m:M2 X o "get" apos a b cpos):DE c X (.Call (.Attribute o "get" apos) [a,b] [] cpos) (tQ i fk fx):=
 PE.imp (B8 (by omega) ho hk hx m) λσ H Q q_=>by
  obtain⟨Hf0,H0,Hf,U,d,st,ef,k⟩:=q_;unfold tQ at ef;split at ef
  .rename_i ks xs es
   cases e1:fk U with
   |none=>rw[e1]at ef;cases ef
   |some y=>
    rw[e1,aC]at ef
    cases ek:jF y with
    |none=>rw[ek]at ef;cases ef
    |some ky=>
     rw[ek,aC]at ef
     cases e2:fx U with
     |none=>rw[e2]at ef;cases ef
     |some x=>
      rw[e2]at ef;cases ef;obtain⟨l,el,h0,hf,vs,q,z,r⟩:=st.ownAt rfl es;refine⟨_,el,l,rfl,.inl ⟨_,.inl q⟩,Hf0,H0,Hf,U,y,st,e1,λv Hf1 H1 x1 r1=>⟨Hf0,H0,Hf1,U,x,st.step x1,e2,λu Hf2 H2 x2 r2=>?_⟩⟩;have q2:=(x1.trans x2).h _ _ q;have r':=r.up (x1.trans x2).f;have ev:=tu ek r1;subst ev;refine⟨cR (ks.zip vs) ky,gs.k q2,k _ Hf2 H2 (x1.trans x2) ?_⟩;obtain⟨h1,h2⟩:=xH (k:=ky) z r'
      cases hv:jh ks xs ky with
      |none=>rw[h2 hv];exact r2
      |some d=>
       obtain⟨w,hw,rw'⟩:=h1 d hv;rw[hw];exact rw'
  .cases ef
end
noncomputable def oE(i:Nat)(F:MF3)(U:LS):Option Fl:=match U[i]? with
 |some (.ownd ks xs)=>F (U.set i (.im (.kd ks xs)))
 | _=>F U
theorem Ll{E:jx}(I:Inv X pins σ H s)(h:tDS (Gx c X) (oE i F) E σ H):∃H',Inv X pins σ H' s/\tDS (Gx c X) F E σ H':=by
 obtain⟨Hf0,H0,Hf,U,o,so,ef,k⟩:=h;unfold oE at ef;split at ef
 .rename_i ks xs es;obtain⟨l,e1,h0,hf,vs,q,z,r⟩:=so.ownAt rfl es;obtain⟨od,I'⟩:=I.freeze q;refine⟨_,I',Hf0,H0,upd Hf l (.frz od (.dK (ks.zip vs))),U.set i (.im (.kd ks xs)),o,?_,ef,k.up (bR hf)⟩
  have s1 : av (Gx c X) Hf0 H0 Hf (upd H l (.frz od (.dK (ks.zip vs)))) σ (U.set i .no):=so.chg es e1 (λb u hb=>by
   by_cases hb':b=l
   .subst hb';exact .inl ((Holds.own rfl).mpr rfl)
   .exact .inr (by rw[aK hb'];exact hb)) trivial λa p=>(p.calm rfl).elim
  have s2:av (Gx c X) Hf0 H0 (upd Hf l (.frz od (.dK (ks.zip vs)))) (upd H l (.frz od (.dK (ks.zip vs)))) σ (U.set i .no):=by
   have fr:DF (Gx c X) Hf H σ (U.set i .no) l:=λm t w b cc p=>by
    rcases cx b with⟨_,e',_⟩ |⟨ne,b⟩
    .subst e';exact p.calm rfl
    .exact ne (so.dj m i t (.ownd ks xs) w _ l b es cc e1 p ((Holds.own rfl).mpr rfl))
   have fr':DF (Gx c X) Hf (upd H l (.frz od (.dK (ks.zip vs)))) σ (U.set i .no) l:=λm t w b cc p=>by
    obtain⟨oo,hoo,hto⟩:=(s1.at' m _ t cc b).there p
    cases ht:t.isOwn with
    |true=>
     have ew:=(Holds.own ht).mp p
     exact fr m t w b cc ((Holds.own ht).mpr ew)
    |false=>
     cases t with
     |deep o'=>
      obtain⟨fp,rr,ha⟩:=p
      obtain ⟨u,fp',eu,r2,_⟩:=so.at' m _ _ cc (by
       rcases cx b with⟨_,e',_⟩ |⟨ne,b⟩
       .cases e'
       .exact b)
      cases eu
      have r3:OT (Gx c X) Hf (upd H l (.frz od (.dK (ks.zip vs)))) o' w fp':=r2.frame (aw.refl _) λb' u' hb' hm'=>by
       rw[aK (λqq=>?_)]
       .exact hb'
       .subst qq
        rcases hm' with hm' |hm'
        .rw[q]at hb';cases hb';cases hm'
        .exact fr m _ w b cc ⟨fp',r2,hm'⟩
      have:=OT.funM o' w _ _ r3 rr;subst this
      exact fr m _ w b cc ⟨fp',r2,ha⟩
     | _=>first |exact jT p.1 |cases ht
   have x:Ext Hf (upd H l (.frz od (.dK (ks.zip vs)))) (upd Hf l (.frz od (.dK (ks.zip vs)))) (upd H l (.frz od (.dK (ks.zip vs))))->True:=λ_=>trivial;refine s1.re ⟨s1.ext.f.trans (bR hf),s1.ext.h,λb u e=>?_,λb u e t=>?_⟩ rfl (λm v t a b=>?_) λm t v a b cc p=>?_
   .by_cases hb:b=l
    .subst hb;rw[be]at e ⊢;exact e
    .rw[aK hb]at e;exact s1.ext.s b u e
   .rw[aK (λz=>by subst z;rw[h0]at e;cases e)];exact s1.ext.n b u e t
   .have qq:=s1.at' m v t a b
    cases ht:t.isOwn with
    |true=>
     obtain⟨l2,e2,e3,e4,q2⟩:=qq.own ht;subst e2;refine .ofOwn ht ⟨l2,rfl,e3,?_,q2.up (bR hf) λo' ho'=>ho'⟩;rw[aK (λz=>by subst z;exact fr' m t _ b a ((Holds.own ht).mpr rfl))]
     exact e4
    |false=>
     cases t with
     |no=>trivial
     |im d=>obtain⟨u',e1,r⟩:=qq;exact⟨u',e1,r.up (bR hf)⟩
     |val u'=>exact qq
     |deep o'=>
      obtain⟨w,fp,e1,r,n,zz⟩:=qq;subst e1;refine⟨w,fp,rfl,r.up (bR hf) (aw.refl _),n,λy hy=>⟨(zz y hy).1,?_⟩⟩;rw[aK (λz=>by subst z;exact fr' m _ w b a ⟨fp,r,hy⟩)]
      exact(zz y hy).2
     | _=>cases ht
   .exact⟨t,b,(s1.at' m _ t cc b).back (λo' fp _ r=>r.up (bR hf) (aw.refl _)) p⟩
  have res:=s2.setIm (i:=i) (d:=.kd ks xs) (v:=.ref l) ⟨l,od,vs,rfl,be,z,r.up (bR hf)⟩
  have e3:σ.set i (aa (.ref l))=σ:=by
   apply nr;intro jj
   by_cases hj:i=jj
   .subst hj;rw[ir (dH.mp e1).1,e1]
   .rw[iV hj]
  rw[e3,set_set]at res;exact res
 .exact⟨H,I,Hf0,H0,Hf,U,o,so,ef,k⟩
theorem Lm(i:Nat)(h:DS c X st F):DS c X st (oE i F):=λpins s σ H E I q=>by
 obtain⟨H',I',q'⟩:=Ll I q;exact h pins s σ H' E I' q'
theorem Ln(h:U[i]?=aa (.ownd ks xs))(k:wp F (U.set i (.im (.kd ks xs))) K):wp (oE i F) U K:=by
 obtain⟨o,e,q⟩:=k;exact⟨o,by unfold oE;rw[h];exact e,q⟩
noncomputable abbrev Xe:=LS->Option (D×LS)
noncomputable abbrev Xa:=LS->Option (LD×LS)
noncomputable def mX(f:MF1):Xe:=λU=>(f U).map λd=>(d,U)
noncomputable def g8:Xa:=λU=>aa ([],U)
noncomputable def eV(f:Xe)(g:Xa):Xa:=λU=>(f U).bind λp=>(g p.2).map λq=>(p.1::q.1,q.2)
theorem Lo(h:mX f U=aa (d,ρ')):f U=aa d/\ρ'=U:=by
 unfold mX at h
 cases e:f U with
 |none=>rw[e]at h;cases h
 |some d'=>rw[e]at h;cases h;exact⟨rfl,rfl⟩
theorem DM{f:Xe}{g:Xa}(h:eV f g U=aa (ds,ρ')):∃d r ρ1,f U=aa (d,ρ1)/\g ρ1=aa (r,ρ')/\ds=d::r:=by
 unfold eV at h
 cases e1:f U with
 |none=>rw[e1]at h;cases h
 |some p=>
  rw[e1,aC]at h
  cases e2:g p.2 with
  |none=>rw[e2]at h;cases h
  |some q=>rw[e2]at h;cases h;exact⟨p.1,q.1,p.2,rfl,e2,rfl⟩
def xK(G:Gc)(f:Xa):TA:=λσ H Q=>∃Hf0 H0 Hf U ds ρ',av G Hf0 H0 Hf H σ U/\f U=aa (ds,ρ')/\∀vs Hf' H',aw Hf Hf'->av G Hf0 H0 Hf' H' σ ρ'->am G Hf' ds vs->Q vs H'
structure DAX(c:Str->Addr)(X:Cx)(es:LEx)(f:Xa):Prop where
 pa:PA X es (xK (Gx c X) f)
 len:∀U ds ρ',f U=aa (ds,ρ')->ds.length=es.length
theorem DE.dx(h:DE c X e f):DX c X e (mX f):=PE.imp h λσ H Q q_=>by
 obtain⟨Hf0,H0,Hf,U,d,ρ',st,ef,k⟩:=q_;obtain⟨e1,rfl⟩:=Lo ef;exact⟨Hf0,H0,Hf,_,d,st,e1,λv Hf' H' x r=>k v Hf' H' x.f (st.step x) r⟩
theorem oF:DAX c X [] g8:=⟨PA.imp c6 λσ H Q q_=>by obtain⟨Hf0,H0,Hf,U,ds,ρ',st,ef,k⟩:=q_;cases ef;exact k [] Hf H (aw.refl _) st rfl,λU ds ρ' h=>by cases h;rfl⟩
variable{f:Xe}
theorem iP{g:Xa}(ha:DX c X e f)(hr:DAX c X es g)(hs:StE X e es:=by rfl):DAX c X (e::es) (eV f g):=by
 refine⟨PA.imp (du ha hr.pa hs) λσ H Q q_=>?_,λU ds ρ' h=>?_⟩
 .obtain⟨Hf0,H0,Hf,U,ds,ρ',st,ef,k⟩:=q_;obtain⟨d,r,ρ1,e1,e2,rfl⟩:=DM ef;exact⟨Hf0,H0,Hf,U,d,ρ1,st,e1,λv Hf1 H1 f1 st1 r1=>⟨Hf0,H0,Hf1,ρ1,r,ρ',st1,e2,λvs Hf2 H2 f2 st2 r2=>k _ Hf2 H2 (f1.trans f2) st2 (.cons (r1.up f2) r2)⟩⟩
 .obtain⟨d,r,ρ1,e1,e2,rfl⟩:=DM h;simp[hr.len ρ1 r ρ' e2]
noncomputable def kz(i:Nat)(f:Xe)(U:LS):Option Fl:=(f U).map λp=>.nx (p.2.set i (.im p.1))
noncomputable def xL:D->D->OD
 |.int i,.int j=>aa (.int (i+j))
 |.str a,.str b=>if a.length+b.length<=16777216 then aa (.str (a++b)) else ac
 | _,_=>ac
noncomputable def qp(i:Nat)(f:Xe)(U:LS):Option Fl:=match U[i]? with
 |some (.im x)=>(f U).bind λp=>(xL x p.1).map λz=>.nx (p.2.set i (.im z))
 | _=>ac
theorem qr(i:Nat)(hN:X.N.Nodup)(he:DX c X e f)(hi:X.N[i]?=aa x:=by rfl)(hx:Loc X.env.scope x:=by first |exact cv rfl |exact bO rfl)(hs:gn e (aa (.Name x pos')) pos.line X.env=pure ae:=by rfl)(hf:LcF X x:=by first |exact .inl rfl |exact .inr rfl):
  DS c X (.Assign [.Name x pos'] e pos) (kz i f):=PS.imp (ml hN hi hx he hs hf) λE σ H q_=>by
 obtain⟨Hf0,H0,Hf,U,o,so,ef,k⟩:=q_;unfold kz at ef
 cases e1:f U with
 |none=>rw[e1]at ef;cases ef
 |some p=>
  rw[e1]at ef;cases ef;exact⟨Hf0,H0,Hf,U,p.1,p.2,so,e1,λv Hf' H' s so' r=>k _ Hf' H' s (so'.setIm r)⟩
theorem Lp:PIp X .Add (rD (Gx c X) xL):=λpins s σ H x y v u Q I rx ry q_=>by
 obtain⟨Hf,dx,dy,d,s0,r1,r2,e,k⟩:=q_
 exact (by
 cases dx with
 |int i=>
  cases dy with
  |int j=>
   cases r1;cases r2;cases e
   exact G2 pins s σ H _ _ v u Q I rx ry ⟨_,_,rfl,rfl,k _ Hf H (Ext.refl s0) rfl⟩
  | _=>cases e
 |str a=>
  cases dy with
  |str b=>
   cases r1;cases r2;replace e:(if _ then aa (D.str _) else ac)=aa d:=e;split at e
   .rename_i hl;cases e;exact HE pins s σ H _ _ v u Q I rx ry ⟨_,_,rfl,rfl,by rw[dL];exact hl,k _ Hf H (Ext.refl s0) rfl⟩
   .cases e
  | _=>cases e
 | _=>cases e)
theorem Lq(i:Nat)(hN:X.N.Nodup)(he:DX c X e f)(hi:X.N[i]?=aa x:=by rfl)(hx:Loc X.env.scope x:=by first |exact cv rfl |exact bO rfl)(hf:LcF X x:=by first |exact .inl rfl |exact .inr rfl):
  DS c X (.AugAssign (.Name x pos') .Add e pos) (qp i f):=PS.imp (G1 hN hi hx he (Lp (c:=c)) hf) λE σ H q_=>by
 obtain⟨Hf0,H0,Hf,U,o,so,ef,k⟩:=q_;unfold qp at ef;split at ef
 .rename_i d es
  cases e1:f U with
  |none=>rw[e1]at ef;cases ef
  |some p=>
   rw[e1,aC]at ef
   cases e2:xL d p.1 with
   |none=>rw[e2]at ef;cases ef
   |some z=>
    rw[e2]at ef;cases ef;obtain⟨v,ev,w,ew,rw'⟩:=so.slot es;cases ew;exact⟨_,ev,Hf0,H0,Hf,U,p.1,p.2,so,e1,λu Hf' H' s so' r=>⟨Hf',d,p.1,z,so'.sub,rw'.up s,r,e2,λy Hf2 H2 x2 r2=>k _ Hf2 H2 (s.trans x2.f) ((so'.step x2).setIm r2)⟩⟩
 .cases ef
noncomputable def isE(x d:D):Bool:=deq 19 d x==aa ab
theorem DN{x:D}:∀{ds:LD} {b:Bool},fN x ds=aa b->(∀d∈ds,∃b',deq 19 d x=aa b')/\ds.any (isE x)=b
 | [],_,h=>by cases h;exact⟨λd hd=>(cE hd).elim,rfl⟩
 |d::ds,b,h=>by
  obtain⟨b1,b2,h1,h2,rfl⟩:=C1 h;obtain⟨k1,k2⟩:=DN h2;refine⟨λd' hd=>?_,?_⟩
  .rcases aW.mp hd with e |e
   .rw[e];exact⟨b1,h1⟩
   .exact k1 d' e
  .rw[gM,k2];unfold isE;rw[h1]
   cases b1 <;> rfl
theorem DQ{α:Type}:∀(zs:List (Int×α)),(zs.map (·.1)).Nodup->∀z∈zs,zs.find? (λy=>y.1==z.1)=aa z
 | [],_,_,h=>(cE h).elim
 |y::zs,nd,z,h=>by
  rw[bn,cY]at nd;rw[lO]
  rcases aW.mp h with e |e
  .rw[e,beq_self_eq_true]
  .have:(y.1==z.1)=ae:=beq_eq_false_iff_ne.mpr λq=>nd.1 (bj.mpr ⟨z,e,q.symm⟩);rw[this];exact DQ zs nd.2 z e
structure Foc(G:Gc)(Hf H:Hp)(o:O)(v:V)(fp:LAd)(o1:O)(v1:V)(f1:LAd)(R:O->O):Prop where
 r:OT G Hf H o1 v1 f1
 n:f1.Nodup
 sub:∀a∈f1,a∈fp
 back:∀(Hf' H':Hp) (o2:O) (f2:LAd),aw Hf Hf'->(∀b u,H b=aa u->b∉f1->H' b=aa u)->OT G Hf' H' o2 v1 f2 ->
  ∃fp',OT G Hf' H' (R o2) v fp'/\(∀a∈fp',a∈f2\/(a∈fp/\a∉f1))/\(f2.Nodup->(∀a∈f2,a∈fp->a∈f1)->fp'.Nodup)
theorem Foc.refl{o:O}(h:OT G Hf H o v fp)(n:fp.Nodup):Foc G Hf H o v fp o v fp id:=
 ⟨h,n,λ_ h=>h,λ_ _ _ f2 _ _ q=>⟨f2,q,λ_ h=>.inl h,λn _=>n⟩⟩
variable{v1:V}{f1 f2:LAd}{R R':O->O}
theorem Foc.trans{o o1 o2:O}{v2:V}(F:Foc G Hf H o v fp o1 v1 f1 R)(F':Foc G Hf H o1 v1 f1 o2 v2 f2 R'):Foc G Hf H o v fp o2 v2 f2 (λx=>R (R' x)):=by
 refine⟨F'.r,F'.n,λa h=>F.sub a (F'.sub a h),λHf' H' o3 f3 s k h=>?_⟩;obtain⟨f1',r1,m1,n1⟩:=F'.back Hf' H' o3 f3 s k h;obtain⟨fp',r2,m2,n2⟩:=F.back Hf' H' (R' o3) f1' s (λb u e hb=>k b u e λz=>hb (F'.sub b z)) r1;refine⟨fp',r2,λa ha=>?_,λnf hf=>n2 (n1 nf λa ha hb=>hf a ha (F.sub a hb)) λa ha hb=>?_⟩
 .rcases m2 a ha with z |⟨z,z'⟩
  .rcases m1 a z with y |⟨y,y'⟩
   .exact .inl y
   .exact .inr ⟨F.sub a y,y'⟩
  .exact .inr ⟨z,λy=>z' (F'.sub a y)⟩
 .rcases m1 a ha with y |⟨y,_⟩
  .exact F'.sub a (hf a y hb)
  .exact y
variable{b:Addr}
theorem DR{o:O}{f:LAd}(h:OT G Hf H o v f)(e:H b=aa u)(t:iG u=ab):b∉f:=λz=>by
 obtain⟨u',hu,ht⟩:=OT.memM o v f h b z;rw[e]at hu;cases hu;rw[t]at ht;cases ht
theorem OTs.foc:∀{os:List O} {vs:List V} {fp:LAd} {k:Nat} {o1:O},OTs G Hf H os vs fp->fp.Nodup->os[k]?=aa o1->∃v1 f1,vs[k]?=aa v1/\OT G Hf H o1 v1 f1/\f1.Nodup/\(∀a∈f1,a∈fp) /\
  ∀(Hf' H':Hp) (o2:O) (v2:V) (f2:LAd),aw Hf Hf'->(∀b u,H b=aa u->(iG u=ab\/b∈fp)->b∉f1->H' b=aa u)->OT G Hf' H' o2 v2 f2 ->
  ∃fp',OTs G Hf' H' (os.set k o2) (vs.set k v2) fp'/\(∀a∈fp',a∈f2\/(a∈fp/\a∉f1))/\(f2.Nodup->(∀a∈f2,a∈fp->a∈f1)->fp'.Nodup)
 | [],_,_,_,_,_,_,e=>by simp at e
 |o::os,_,_,0,o1,q5_,n,e'=>by
  obtain⟨v,r,f1,g,e,h1,h2,ef⟩:=q5_;rw[List.getElem?_cons_zero]at e';cases e';subst e ef;obtain⟨n1,n2,dj⟩:=gL.mp n;refine⟨v,f1,rfl,h1,n1,λa ha=>gh _ ha,λHf' H' o2 v2 f2 s k h=>⟨f2++g,?_,λa ha=>?_,λnf hf=>?_⟩⟩
  .rw[rC,rC];refine⟨v2,r,f2,g,rfl,h,OTs.frameM s os r g h2 λb u hb hm=>k b u hb (hm.imp_right λy=>dX _ y) λz=>?_,rfl⟩
   rcases hm with t |t
   .exact DR h1 hb t z
   .exact dj b z b t rfl
  .rcases ci.mp ha with z |z
   .exact .inl z
   .exact .inr ⟨dX _ z,λy=>dj a y a z rfl⟩
  .exact gL.mpr ⟨nf,n2,λa ha b hb z=>by subst z;exact dj a (hf a ha (dX _ hb)) a hb rfl⟩
 |o::os,_,_,k+1,o1,q5_,n,e'=>by
  obtain⟨v,r,f,g,e,h1,h2,ef⟩:=q5_;rw[eW]at e';subst e ef;obtain⟨n1,n2,dj⟩:=gL.mp n;obtain⟨v1,f1,ev,q,nq,sb,bk⟩:=OTs.foc h2 n2 e';refine⟨v1,f1,by rw[eW];exact ev,q,nq,λa ha=>dX _ (sb a ha),λHf' H' o2 v2 f2 s k h=>?_⟩;obtain⟨g',r',m',n'⟩:=bk Hf' H' o2 v2 f2 s (λb u hb hm=>k b u hb (hm.imp_right λy=>dX _ y)) h;refine⟨f++g',?_,λa ha=>?_,λnf hf=>?_⟩
  .rw[ph,ph];refine⟨v,_,f,g',rfl,h1.frame s λb u hb hm=>k b u hb (hm.imp_right λy=>gh _ y) λz=>?_,r',rfl⟩
   rcases hm with t |t
   .exact DR q hb t z
   .exact dj b t b (sb b z) rfl
  .rcases ci.mp ha with z |z
   .exact .inr ⟨gh _ z,λy=>dj a z a (sb a y) rfl⟩
   .rcases m' a z with y |⟨y,y'⟩
    .exact .inl y
    .exact .inr ⟨dX _ y,y'⟩
  .refine gL.mpr ⟨n1,n' nf λa ha hb=>hf a ha (dX _ hb),λa ha b hb z=>?_⟩;subst z
   rcases m' a hb with y |⟨y,_⟩
   .exact dj a ha a (sb a (hf a y (gh _ ha))) rfl
   .exact dj a ha a y rfl
theorem qt{α:Type}:∀{l:List α} {k:Nat} {x:α},l[k]?=aa x->l.set k x=l
 | [],_,_,e=>by simp at e
 | _::_,0,_,e=>by simp at e;subst e;rfl
 |a::l,k+1,x,e=>by rw[eW]at e;rw[ph,qt e]
variable{os:List O}{o1:O}
theorem Foc.root{o:O}{a:Addr}{fs:LAd}{W:List O->O}(ha:H a=aa u)(ht:iG u=ae)(rs:OTs G Hf H os vs fs)(n:(a::fs).Nodup)(e:os[k]?=aa o1)
 (mk:∀Hf' H' os' fs',H' a=aa u->OTs G Hf' H' os' vs fs'->os'.length=os.length->OT G Hf' H' (W os') (.ref a) (a::fs')):∃v1 f1,vs[k]?=aa v1/\Foc G Hf H o (.ref a) (a::fs) o1 v1 f1 (λx=>W (os.set k x)):=by
 obtain⟨na,nf⟩:=cY.mp n;obtain⟨v1,f1,ev,q,nq,sb,bk⟩:=rs.foc nf e;refine⟨v1,f1,ev,q,nq,λb hb=>bv _ (sb b hb),λHf' H' o2 f2 s k' h=>?_⟩;obtain⟨fs',r',m',n'⟩:=bk Hf' H' o2 v1 f2 s (λb u hb _=>k' b u hb) h;rw[qt ev]at r';refine⟨a::fs',mk Hf' H' _ fs' (k' a u ha λz=>na (sb a z)) r' (by simp),λb hb=>?_,λnf2 hf=>cY.mpr ⟨λz=>?_,n' nf2 λb hb hc=>hf b hb (bv _ hc)⟩⟩
 .rcases aW.mp hb with z |z
  .subst z;exact .inr ⟨aO,λy=>na (sb b y)⟩
  .rcases m' b z with y |⟨y,y'⟩
   .exact .inl y
   .exact .inr ⟨bv _ y,y'⟩
 .rcases m' a z with y |⟨y,_⟩
  .exact na (sb a (hf a y aO))
  .exact na y
theorem Foc.at{o:O}(h:OT G Hf H (.at l o) v fp)(n:fp.Nodup):Foc G Hf H (.at l o) v fp o v fp (.at l):=
 ⟨h.2,n,λ_ h=>h,λ_ _ _ f2 _ _ q=>⟨f2,⟨h.1,q⟩,λ_ h=>.inl h,λn _=>n⟩⟩
theorem av.foc{o o1 o2:O}(so:av G Hf0 H0 Hf H σ U)(es:U[i]?=aa (.deep o))(e2:σ[i]?=aa (aa v))(r:OT G Hf' H1 o v fp)(x:Ext Hf H Hf' H1)(F:Foc G Hf' H1 o v fp o1 v1 f1 R)
 (kk:∀b u,H1 b=aa u->b∉f1->H2 b=aa u)(new:OT G Hf' H2 o2 v1 f2)(n2:f2.Nodup)(h2:∀a∈f2,a∈f1\/(H a=ac/\Hf' a=ac)):av G Hf0 H0 Hf' H2 σ (U.set i (.deep (R o2))):=by
 have sl:=so.at' i _ _ e2 es;obtain⟨v',fp0,e3,r0,n,z⟩:=sl;cases e3;have:=OT.funM o v fp fp0 r (r0.up x.f x.h);subst this;obtain⟨fp',r',mem,nd⟩:=F.back Hf' H2 o2 f2 (aw.refl _) kk new
 have old:∀a∈fp',a∈fp\/(H a=ac/\Hf' a=ac):=λa ha=>by
  rcases mem a ha with y |⟨y,_⟩
  .rcases h2 a y with w |w
   .exact .inl (F.sub a w)
   .exact .inr w
  .exact .inl y
 refine so.chgX x es e2 (λb u hb=>?_) ⟨v,fp',rfl,r',nd n2 λa ha hb=>?_,λa ha=>?_⟩ λa p=>?_
 .by_cases h:b∈f1
  .exact .inl ⟨fp,r0,F.sub b h⟩
  .exact .inr (kk b u hb h)
 .rcases h2 a ha with y |y
  .exact y
  .obtain⟨u,hu,_⟩:=OT.memM o v fp r0 a hb;rw[y.1]at hu;cases hu
 .rcases old a ha with y |y
  .obtain⟨u,hu,ht⟩:=OT.memM o v fp r0 a y;refine⟨(z a y).1,?_⟩;rw[x.n a u hu ht];exact(z a y).2
  .exact⟨so.ext.h.free y.1,y.2⟩
 .obtain⟨fp'',r'',ha⟩:=p;have:=OT.funM _ _ _ _ r' r'';subst this
  rcases old a ha with y |y
  .exact .inl ⟨fp,r0,y⟩
  .exact .inr y.1
theorem av.was{o:O}(so:av G Hf0 H0 Hf H σ U)(es:U[i]?=aa (.deep o))(e2:σ[i]?=aa (aa v))(x:Ext Hf H Hf' H1)(r:OT G Hf' H1 o v fp):∀a∈fp,H a≠ac:=λa ha=>by
 obtain⟨v',fp0,e3,r0,n,z⟩:=so.at' i _ _ e2 es;cases e3;have:=OT.funM o v fp fp0 r (r0.up x.f x.h);subst this;obtain⟨u,hu,_⟩:=OT.memM o v fp r0 a ha;rw[hu];exact λz=>nomatch z
noncomputable def xM:D->Option Key
 |.int i=>aa (.inl i)
 |.bl b=>aa (.inl (cond b 1 0))
 |.str x=>aa (.inr x)
 | _=>ac
noncomputable def qu:LD->Option (List Key)
 | []=>aa []
 |d::ds=>(xM d).bind λk=>(qu ds).map (k::·)
noncomputable def lB:D->Option (List Key)
 |.tup ds=>qu ds
 | _=>ac
theorem Lr{k:Key}(h:xM d=aa k)(r:Rep G H d v):kR k v:=by
 cases d with
 |int i=>cases h;exact .inl r
 |bl b=>cases h;exact .inr ⟨b,r,rfl⟩
 |str x=>cases h;exact r
 | _=>cases h
theorem DU{G:Gc}{H:Hp}:∀{ds:LD} {ks:List Key} {vs:List V},qu ds=aa ks->am G H ds vs->KRs ks vs
 | [],_,_,h,r=>by cases h;cases (show _=[]from r);exact .nil
 |d::ds,ks,_,h,q4_=>by
  obtain⟨v,r,e,h1,h2⟩:=q4_;subst e;unfold qu at h
  cases e1:xM d with
  |none=>rw[e1]at h;cases h
  |some k=>
   rw[e1,aC]at h
   cases e2:qu ds with
   |none=>rw[e2]at h;cases h
   |some ks'=>rw[e2]at h;cases h;exact .cons (Lr e1 h1) (DU e2 h2)
variable{k:List Key}
theorem tR(h:lB d=aa k)(r:Rep G H d v):∃b,v=.ref b/\fH H b k:=by
 cases d with
 |tup ds=>obtain⟨a,vs,e,q,rs⟩:=r;exact⟨a,e,vs,q,DU h rs⟩
 | _=>cases h
noncomputable def aT{α:Type}[DecidableEq α](f:α):List α->Option Nat
 | []=>ac
 |n::ns=>if n=f then aa 0 else (aT f ns).map (· + 1)
theorem xN{α:Type}[DecidableEq α]{f:α}:∀{ns:List α} {k:Nat},aT f ns=aa k->k<ns.length
 | [],_,e=>by cases e
 |n::ns,k,e=>by
  unfold aT at e;split at e
  .cases e;exact px _
  .cases h:aT f ns with
   |none=>rw[h]at e;cases e
   |some j=>rw[h]at e;cases e;exact Nat.succ_lt_succ (xN h)
theorem DV{α:Type}[DecidableEq α]{β:Type}{f:α}:∀{ns:List α} {k:Nat} (vs:List β),aT f ns=aa k->(ns.zip vs).lookup f=vs[k]?
 | [],_,_,e=>by cases e
 | _::_,_,[],_=>by simp
 |n::ns,k,v::vs,e=>by
  unfold aT at e;rw[d9,eO];split at e
  .rename_i h;subst h;cases e;rw[beq_self_eq_true];rfl
  .rename_i h;rw[beq_eq_false_iff_ne.mpr (gm h)]
   cases h':aT f ns with
   |none=>rw[h']at e;cases e
   |some j=>
    rw[h']at e;cases e;rw[eW];exact DV vs h'
theorem qv{α:Type}[DecidableEq α]{f:α}:∀{ns:List α} {k:Nat} (vs:List V),aT f ns=aa k->cR (ns.zip vs) f=vs[k]?
 | [],_,_,e=>by cases e
 | _::_,_,[],_=>by simp[B0]
 |n::ns,k,v::vs,e=>by
  unfold aT at e;rw[d9];split at e
  .rename_i h;cases e;rw[pP h];rfl
  .rename_i h;rw[nQ h]
   cases h':aT f ns with
   |none=>rw[h']at e;cases e
   |some j=>
    rw[h']at e;cases e;rw[eW];exact qv vs h'
theorem qw{α:Type}[DecidableEq α]{f:α}:∀{ns:List α} (vs:List V),aT f ns=ac->cR (ns.zip vs) f=ac
 | [],_,_=>rfl
 | _::_,[],_=>by simp[B0]
 |n::ns,v::vs,e=>by
  unfold aT at e;rw[d9];split at e
  .cases e
  .rename_i h;rw[nQ h]
   cases h':aT f ns with
   |none=>exact qw vs h'
   |some j=>rw[h']at e;cases e
theorem Foc.up{o o1:O}(F:Foc G Hf H o v fp o1 v1 f1 R)(f:aw Hf Hf')(s:aw H H'):Foc G Hf' H' o v fp o1 v1 f1 R:=
 ⟨F.r.up f s,F.n,F.sub,λHf2 H2 o2 f2 s2 k h=>F.back Hf2 H2 o2 f2 (f.trans s2) (λb u e hb=>k b u (s b u e) hb) h⟩
noncomputable abbrev Xp:=LS->Option (O×(O->O))
def tDP(G:Gc)(i:Nat)(f:Xp):TE:=λσ H Q=>∃Hf0 H0 Hf U o1 R,av G Hf0 H0 Hf H σ U/\f U=aa (o1,R) /\
 ∀o v fp v1 f1 Hf' H',U[i]?=aa (.deep o)->σ[i]?=aa (aa v)->Ext Hf H Hf' H'->OT G Hf' H' o v fp->Foc G Hf' H' o v fp o1 v1 f1 R->Q v1 H'
def DP(c:Str->Addr)(X:Cx)(e:Expr)(i:Nat)(f:Xp):Prop:=PE X e (tDP (Gx c X) i f)
noncomputable def aZ(i:Nat):Xp:=λU=>match U[i]? with
 |some (.deep (.at l o))=>aa (o,.at l)
 |some (.deep o)=>aa (o,id)
 | _=>ac
noncomputable def O.fld(cn f:Str):O->Option (O×(O->O))
 |.ins c ns os=>if c=cn then (aT f ns).bind λk=>(os[k]?).map λo1=>(o1,λx=>.ins c ns (os.set k x)) else ac
 | _=>ac
noncomputable def bu(cn f:Str)(p:Xp):Xp:=λU=>(p U).bind λq=>(q.1.fld cn f).map λr=>(r.1,λx=>q.2 (r.2 x))
noncomputable def O.key(k:List Key):O->Option (O×(O->O))
 |.dT ks os=>(aT k ks).bind λj=>(os[j]?).map λo1=>(o1,λx=>.dT ks (os.set j x))
 | _=>ac
noncomputable def mW(p:Xp)(g:MF1):Xp:=λU=>(p U).bind λq=>(g U).bind λd=>(lB d).bind λk=>(q.1.key k).map λr=>(r.1,λx=>q.2 (r.2 x))
noncomputable def fzs:List O->OLD
 | []=>aa []
 |.fz d::os=>(fzs os).map (d::·)
 | _=>ac
theorem xO:∀(ds:LD),fzs (ds.map .fz)=aa ds
 | []=>rfl
 |d::ds=>by rw[bn,fzs,xO ds];rfl
theorem DY:∀{os:List O} {ds:LD},fzs os=aa ds->os=ds.map .fz
 | [],_,h=>by cases h;rfl
 |o::os,ds,h=>by
  cases o with
  |fz d=>
   rw[fzs]at h
   cases e:fzs os with
   |none=>rw[e]at h;cases h
   |some ds'=>rw[e]at h;cases h;rw[bn,<- DY e]
  | _=>cases h
theorem OTs.unfz{G:Gc}{Hf H:Hp}:∀{ds:LD} {vs:List V} {fs:LAd},OTs G Hf H (ds.map .fz) vs fs->am G Hf ds vs/\fs=[]
 | [],_,_,h=>⟨h.1,h.2⟩
 |d::ds,_,_,q3_=>by
  obtain⟨v,r,f1,f2,e,h1,h2,ef⟩:=q3_;obtain⟨a,b⟩:=OTs.unfz h2;refine⟨⟨v,r,e,h1.1,a⟩,?_⟩;rw[ef,h1.2,b];rfl
noncomputable def pD(p:Xp)(U:LS):OD:=(p U).bind λq=>match q.1 with
 |.fz d=>aa d
 | _=>ac
noncomputable def pB(p:Xp)(U:LS):OD:=(p U).bind λq=>if q.1.kn then aa q.1.toD else ac
noncomputable def O.items:O->OLD
 |.lst os=>fzs os
 | _=>ac
noncomputable def pC(p:Xp)(U:LS):OLD:=(p U).bind λq=>q.1.items
def tDL(G:Gc)(f:MF2):TE:=λσ H Q=>∃Hf0 H0 Hf U ds,av G Hf0 H0 Hf H σ U/\f U=aa ds/\∀a vs Hf' H',Ext Hf H Hf' H'->H' a=aa (.lst vs)->am G Hf' ds vs->Q (.ref a) H'
def DL(c:Str->Addr)(X:Cx)(e:Expr)(f:MF2):Prop:=PE X e (tDL (Gx c X) f)
theorem bf{α β:Type}{a:Option α}{f:α->Option β}{b:β}(h:a.bind f=aa b):∃x,a=aa x/\f x=aa b:=by
 cases a with
 |none=>cases h
 |some x=>exact⟨x,rfl,h⟩
theorem d5{α β:Type}{a:Option α}{f:α->β}{b:β}(h:a.map f=aa b):∃x,a=aa x/\f x=b:=by
 cases a with
 |none=>cases h
 |some x=>cases h;exact⟨x,rfl,rfl⟩
theorem cu(h:PE X e (dq i)):DP c X e i (aZ i):=PE.imp h λσ H Q q_=>by
 obtain⟨Hf0,H0,Hf,U,o1,R,so,ef,kq⟩:=q_
 have main:∀o,U[i]?=aa (.deep o)->(∀v fp,OT (Gx c X) Hf H o v fp->fp.Nodup->Foc (Gx c X) Hf H o v fp o1 v fp R)->dq i σ H Q:=λo es F=>by
  obtain⟨v,e1,u,fp,e2,r,n,z⟩:=so.slot es;subst e2;exact⟨u,e1,kq o u fp u fp Hf H es e1 (Ext.refl so.sub) r (F u fp r n)⟩
 unfold aZ at ef;split at ef
 .rename_i l o es;cases ef;exact main _ es λv fp r n=>Foc.at r n
 .rename_i o _ es;cases ef;exact main _ es λv fp r n=>Foc.refl r n
 .cases ef
variable{o2:O}
theorem Ls{cn f:Str}(h:o1.fld cn f=aa (o2,R)):∃ns os k,o1=.ins cn ns os/\aT f ns=aa k/\os[k]?=aa o2/\R=λx=>.ins cn ns (os.set k x):=by
 cases o1 with
 |ins c ns os=>
  replace h:(if c=cn then (aT f ns).bind λk=>(os[k]?).map λo1=>(o1,λx=>O.ins c ns (os.set k x)) else ac)=aa (o2,R):=h;split at h
  .rename_i hc;subst hc;obtain⟨k,e1,h⟩:=bf h;obtain⟨o,e2,h⟩:=d5 h;cases h;exact⟨ns,os,k,rfl,e1,e2,rfl⟩
  .cases h
 | _=>cases h
theorem Foc.fld{o o1 o2:O}{cn f:Str}(F:Foc G Hf H o v fp o1 v1 f1 R)(h:o1.fld cn f=aa (o2,R')):∃(a dx:Addr) (ns:LSt) (vs:List V) (v2:V) (f2:LAd),v1=.ref a/\H a=aa (.ins (G.cl cn) dx (ns.zip vs))/\(ns.zip vs).lookup f=aa v2/\Foc G Hf H o v fp o2 v2 f2 (λx=>R (R' x)):=by
 obtain⟨ns,os,k,rfl,e1,e2,rfl⟩:=Ls h;obtain⟨a,dx,vs,fs,rfl,ha,hz,rs,rfl⟩:=F.r;obtain⟨v2,f2,ev,F2⟩:=Foc.root (o:=.ins cn ns os) (W:=.ins cn ns) ha rfl rs F.n e2 λHf' H' os' fs' ha' r _=>⟨a,dx,vs,fs',rfl,ha',hz,r,rfl⟩;exact⟨a,dx,ns,vs,v2,f2,rfl,ha,(DV vs e1).trans ev,F.trans F2⟩
variable{p:Xp}
section
variable{o:Expr}
theorem dG(cn:Str)(hc:Cls X.K (c cn))(hn:dM X.K (c cn) fl)(ho:DP c X o i p)(hb:nF o fl X.env (eval o X.env)=eval o X.env:=by rfl):DP c X (.Attribute o fl pos) i (bu cn fl p):=PE.imp (BG ho hb) λσ H Q q_=>by
 obtain⟨Hf0,H0,Hf,U,o2,R,so,ef,kq⟩:=q_;obtain⟨q,e1,ef⟩:=bf ef;obtain⟨r,e2,ef⟩:=d5 ef;cases ef;refine⟨Hf0,H0,Hf,U,q.1,q.2,so,e1,λt v fp v1 f1 Hf' H' es ev x rt F=>?_⟩;obtain⟨a,dx,ns,vs,v2,f2,ea,ha,el,F2⟩:=F.fld e2;exact⟨a,_,dx,_,v2,ea,ha,hc,hn,el,kq t v fp v2 f2 Hf' H' es ev x rt F2⟩
end
theorem fH.same(h:fH H b k)(s:aw H H'):fH H' b k:=h.up λb xs e=>s _ _ e
theorem Lu(h:o1.key k=aa (o2,R)):∃ks os j,o1=.dT ks os/\aT k ks=aa j/\os[j]?=aa o2/\R=λx=>.dT ks (os.set j x):=by
 cases o1 with
 |dT ks os=>
  unfold O.key at h;obtain⟨j,e1,h⟩:=bf h;obtain⟨o,e2,h⟩:=d5 h;cases h
  exact⟨ks,os,j,rfl,e1,e2,rfl⟩
 | _=>cases h
theorem Foc.key{o o1 o2:O}(F:Foc G Hf H o v fp o1 v1 f1 R)(h:o1.key k=aa (o2,R')):∃a kvs v2 f2,v1=.ref a/\H a=aa (.dT kvs)/\cR kvs k=aa v2/\Foc G Hf H o v fp o2 v2 f2 (λx=>R (R' x)):=by
 obtain⟨ks,os,j,rfl,e1,e2,rfl⟩:=Lu h;obtain⟨a,vs,fs,rfl,ha,hz,rs,rfl⟩:=F.r;obtain⟨v2,f2,ev,F2⟩:=Foc.root (o:=.dT ks os) (W:=.dT ks) ha rfl rs F.n e2 λHf' H' os' fs' ha' r _=>⟨a,vs,fs',rfl,ha',hz,r,rfl⟩;exact⟨a,ks.zip vs,v2,f2,rfl,ha,(qv vs e1).trans ev,F.trans F2⟩
section
variable{o:Expr}
theorem D0(hu:X.A.units+1<cLine)(ho:DP c X o i p)(hk:DE c X e g)(hs:sm e:=by exact λ_ _=>rfl):DP c X (.Subscript o e pos) i (mW p g):=PE.imp (B4 hu ho hk hs) λσ H Q q_=>by
 obtain⟨Hf0,H0,Hf,U,o2,R,so,ef,kq⟩:=q_;obtain⟨q,e1,ef⟩:=bf ef;obtain⟨d,e2,ef⟩:=bf ef;obtain⟨k,e3,ef⟩:=bf ef;obtain⟨r,e4,ef⟩:=d5 ef;cases ef;refine⟨Hf0,H0,Hf,U,q.1,q.2,so,e1,λt v fp v1 f1 Hf1 H1 es ev x rt F=>⟨Hf0,H0,Hf1,U,d,so.step x,e2,λy Hf2 H2 x2 r2=>?_⟩⟩;obtain⟨b,eb,tk⟩:=tR e3 r2;obtain⟨a,kvs,v2,f2,ea,ha,el,F2⟩:=(F.up x2.f x2.h).key e4;subst eb;refine⟨a,v2,ea,?_,kq t v fp v2 f2 Hf2 H2 es ev (x.trans x2) (rt.up x2.f x2.h) F2⟩;rw[<- el];exact gs.t ha (tk.same x2.s)
end
theorem D1(h:DP c X e i p):DE c X e (pD p):=PE.imp h λσ H Q q_=>by
 obtain⟨Hf0,H0,Hf,U,d,so,ef,kq⟩:=q_;obtain⟨q,e1,ef⟩:=bf ef;refine⟨Hf0,H0,Hf,U,q.1,q.2,so,e1,λt v fp v1 f1 Hf1 H1 es ev x rt F=>?_⟩
 cases h1:q.1 with
 |fz d'=>rw[h1]at ef;cases ef;have r:=F.r;rw[h1]at r;exact kq _ _ _ x r.1
 | _=>rw[h1]at ef;cases ef
theorem oG(h:DP c X e i p):DB c X e (pB p):=PE.imp h λσ H Q q_=>by
 obtain⟨Hf0,H0,Hf,U,d,so,ef,kq⟩:=q_;obtain⟨q,e1,ef⟩:=bf ef;split at ef
 .rename_i hk;cases ef;exact⟨Hf0,H0,Hf,U,q.1,q.2,so,e1,λt v fp v1 f1 Hf1 H1 es ev x rt F=>kq _ _ _ x (F.r.rep x.s hk)⟩
 .cases ef
theorem oH(h:o1.items=aa ds):o1=.lst (ds.map .fz):=by
 cases o1 with
 |lst os=>rw[DY h]
 | _=>cases h
theorem xP(h:DP c X e i p):DL c X e (pC p):=PE.imp h λσ H Q q_=>by
 obtain⟨Hf0,H0,Hf,U,ds,so,ef,kq⟩:=q_;obtain⟨q,e1,ef⟩:=bf ef;refine⟨Hf0,H0,Hf,U,q.1,q.2,so,e1,λt v fp v1 f1 Hf1 H1 es ev x rt F=>?_⟩;have r:=F.r;rw[oH ef]at r;obtain⟨a,vs,fs,rfl,ha,rs,_⟩:=r;exact kq a vs Hf1 H1 x ha rs.unfz.1
theorem DL.dc{f:MF2}(h:DL c X e f):DC c X e f:=PE.imp h λσ H Q q_=>by
 obtain⟨Hf0,H0,Hf,U,ds,st,ef,k⟩:=q_;exact⟨Hf0,H0,Hf,U,ds,st,ef,λl vs Hf' H' x hl r=>k l vs Hf' H' x (.inl (SqL.of hl)) r⟩
theorem DL.db{f:MF2}(h:DL c X e f):DB c X e (aE f):=PE.imp h λσ H Q q_=>by
 obtain⟨Hf0,H0,Hf,U,d,st,ef,k⟩:=q_;obtain⟨ds,e1,ef⟩:=d5 ef;cases ef;exact⟨Hf0,H0,Hf,U,ds,st,e1,λl vs Hf' H' x hl r=>k _ Hf' H' x ⟨l,vs,rfl,hl,r.up x.s⟩⟩
noncomputable def O.got(k:List Key):O->OLD
 |.dT ks os=>match aT k ks with
  |some j=>(os[j]?).bind O.items
  |none=>aa []
 | _=>ac
noncomputable def iQ(p:Xp)(g:MF1)(U:LS):OLD:=(p U).bind λq=>(g U).bind λd=>(lB d).bind λk=>q.1.got k
section
variable{o:Expr}
theorem xQ{lpos:Pos}(hu:X.A.units+1<cLine)(ho:DP c X o i p)(hk:DE c X e g)(m:M2 X o "get" apos e (.List [] lpos) pos):DL c X (.Call (.Attribute o "get" apos) [e,.List [] lpos] [] pos) (iQ p g):=PE.imp (B8 hu ho hk (sd c6) m) λσ H Q q_=>by
 obtain⟨Hf0,H0,Hf,U,ds,so,ef,kq⟩:=q_;obtain⟨q,e1,ef⟩:=bf ef;obtain⟨d,e2,ef⟩:=bf ef;obtain⟨k,e3,ef⟩:=bf ef;refine⟨Hf0,H0,Hf,U,q.1,q.2,so,e1,λt v fp v1 f1 Hf1 H1 es ev x rt F=>?_⟩
 cases h1:q.1 with
 |dT ks os=>
  rw[h1]at ef F;obtain⟨a,vs,fs,rfl,ha,hz,rs,rfl⟩:=F.r;refine⟨a,rfl,.inr ⟨_,.inl ha⟩,Hf0,H0,Hf1,U,d,so.step x,e2,λy Hf2 H2 x2 r2=>⟨da _,λl hl=>?_⟩⟩;obtain⟨b,eb,tk⟩:=tR e3 r2;subst eb;have x3:Ext Hf2 H2 Hf2 (upd H2 l (.lst [])):=Ext.tmp x2.s hl;have ha3:=x3.h _ _ (x2.h _ _ ha);refine⟨cR (ks.zip vs) k,gs.t ha3 (tk.same (x2.s.trans x3.h)),?_⟩
  replace ef:(match aT k ks with |some j=>(os[j]?).bind O.items |none=>aa [])=aa ds:=ef
  cases hj:aT k ks with
  |none=>
   rw[hj]at ef;cases ef;rw[qw vs hj]
   exact kq l [] Hf2 _ ((x.trans x2).trans x3) be .nil
  |some j=>
   rw[hj]at ef;obtain⟨o2,eo,ef⟩:=bf ef;obtain⟨v2,f2,ev2,F2⟩:=Foc.root (o:=.dT ks os) (W:=.dT ks) ha rfl rs F.n eo λHf' H' os' fs' ha' r _=>⟨a,vs,fs',rfl,ha',hz,r,rfl⟩;have r2:=(F2.up (x2.f.trans x3.f) (x2.h.trans x3.h)).r;rw[oH ef]at r2;obtain⟨b2,ws,fs2,rfl,hb,rs2,_⟩:=r2;rw[qv vs hj,ev2]
   exact kq b2 ws Hf2 _ ((x.trans x2).trans x3) hb rs2.unfz.1
 | _=>rw[h1]at ef;cases ef
end
theorem OTs.stay{fs:LAd}{u0:HO}(r:OTs G Hf H os us fs)(hl:H l=aa u0)(ht:iG u0=ae)(hn:l∉fs)(f:aw Hf Hf')(s:∀b u,b≠l->H b=aa u->H' b=aa u):OTs G Hf' H' os us fs:=
 OTs.frameM f os us fs r λb u hb hm=>s b u (λz=>by
  subst z;rw[hl]at hb;cases hb
  rcases hm with t |t
  .rw[t]at ht;cases ht
  .exact hn t) hb
noncomputable def oI(i:Nat)(p:Xp)(f:MF1)(U:LS):Option Fl:=(p U).bind λq=>(f U).bind λd=>(q.1.appd d).map λo2=>.nx (U.set i (.deep (q.2 o2)))
noncomputable def O.extd(ds:LD):O->Option O
 |.lst os=>if os.length+ds.length<=16777216 then aa (.lst (os++ds.map .fz)) else ac
 | _=>ac
noncomputable def tS(i:Nat)(p:Xp)(f:MF2)(U:LS):Option Fl:=(p U).bind λq=>(f U).bind λds=>(q.1.extd ds).map λo2=>.nx (U.set i (.deep (q.2 o2)))
noncomputable def O.pop0:O->Option (D×O)
 |.lst (.fz d::os)=>aa (d,.lst os)
 | _=>ac
noncomputable def tT(i:Nat)(p:Xp):Xe:=λU=>(p U).bind λq=>q.1.pop0.map λr=>(r.1,U.set i (.deep (q.2 r.2)))
noncomputable def O.setAt(k:D)(d:D)(o:O):Option O:=match k with
 |.int n=>o.items.bind λds=>(ixN ds.length n).map λj=>.lst ((ds.set j d).map .fz)
 | _=>ac
noncomputable def tU(i:Nat)(p:Xp)(fk fv:MF1)(U:LS):Option Fl:=(fv U).bind λd=>(p U).bind λq=>(fk U).bind λx=>(q.1.setAt x d).map λo2=>.nx (U.set i (.deep (q.2 o2)))
noncomputable def O.putNew(o x:O)(k:List Key):Option O:=match o with
 |.dT ks os=>if aT k ks=ac/\ks.length<16777216 then aa (.dT (ks++[k]) (os++[x])) else ac
 | _=>ac
noncomputable def tV(i:Nat)(p:Xp)(fk fv:MF1)(U:LS):Option Fl:=(fv U).bind λd=>(p U).bind λq=>(fk U).bind λx=>(lB x).bind λk=>(q.1.putNew (.fz d) k).map λo2=>.nx (U.set i (.deep (q.2 o2)))
theorem xR{f:MF1}(h:PS X st (mj (tBM X.K "list" sg (tDP (Gx c X) i p) (k7 (tD (Gx c X) f) i5)))):DS c X st (oI i p f):=PS.imp h λE σ H q_=>by
 obtain⟨Hf0,H0,Hf,U,o,so,ef,kq⟩:=q_;obtain⟨q,e1,ef⟩:=bf ef;obtain⟨d,e2,ef⟩:=bf ef;obtain⟨o2,e3,ef⟩:=d5 ef;subst ef;refine⟨Hf0,H0,Hf,U,q.1,q.2,so,e1,λt v fp v1 f1 Hf1 H1 es ev x rt F=>?_⟩;obtain⟨l,us,el,ql,hz,lm,next⟩:=DD e3 F.r;subst el;refine⟨.inl ⟨rfl,_,SqL.of ql⟩,Hf0,H0,Hf1,U,d,so.step x,e2,λw Hf2 H2 x2 r2=>?_⟩;refine⟨l,us,w,rfl,rfl,x2.h _ _ ql,by rw[dL];exact hz,kq σ Hf2 _ (x.trans x2).f ?_⟩
 exact so.foc es ev (rt.up x2.f x2.h) (x.trans x2) (F.up x2.f x2.h) (λb u hb hn=>by rw[aK (λz=>hn (by rw[z];exact lm))];exact hb)
  (next Hf2 _ w F.n x2.f (λb u hb e=>by rw[aK hb];exact x2.h b u e) be r2) F.n λa ha=>.inl ha
theorem Lv{f:MF2}(h:PS X st (mj (tBM X.K "list" wb (tDP (Gx c X) i p) (k7 (tDL (Gx c X) f) i5)))):DS c X st (tS i p f):=PS.imp h λE σ H q_=>by
 obtain⟨Hf0,H0,Hf,U,o,so,ef,kq⟩:=q_;obtain⟨q,e1,ef⟩:=bf ef;obtain⟨ds,e2,ef⟩:=bf ef;obtain⟨o2,e3,ef⟩:=d5 ef;subst ef;refine⟨Hf0,H0,Hf,U,q.1,q.2,so,e1,λt v fp v1 f1 Hf1 H1 es ev x rt F=>?_⟩
 cases h1:q.1 with
 |lst os=>
  rw[h1]at e3 F;replace e3:(if os.length+ds.length<=16777216 then aa (O.lst (os++ds.map .fz)) else ac)=aa o2:=e3;split at e3
  .rename_i hz;cases e3;obtain⟨l,us,fs,rfl,ql,rs,rfl⟩:=F.r;refine⟨.inl ⟨rfl,_,SqL.of ql⟩,Hf0,H0,Hf1,U,ds,so.step x,e2,λb zs Hf2 H2 x2 hb rz=>?_⟩;have ql2:=x2.h _ _ ql;refine⟨l,b,us,zs,rfl,rfl,ql2,hb,by rw[dL,<- rs.length,<- rz.length];exact hz,kq σ Hf2 _ (x.trans x2).f ?_⟩;have nl:=(cY.mp F.n).1;have o1:OTs (Gx c X) Hf2 (upd H2 l (.lst (us++zs))) os us fs:=rs.stay ql rfl nl x2.f λb u hb e=>by rw[aK hb];exact x2.h b u e
   have o3:=o1.append (OTs.fz (H:=upd H2 l (.lst (us++zs))) rz);rw[cr]at o3
   exact so.foc es ev (rt.up x2.f x2.h) (x.trans x2) (F.up x2.f x2.h) (λb u hb hn=>by rw[aK (λz=>hn (by rw[z];exact aO))];exact hb)
    (o2:=.lst (os++ds.map .fz)) ⟨l,us++zs,fs,rfl,be,o3,rfl⟩ F.n λa ha=>.inl ha
  .cases e3
 | _=>rw[h1]at e3;cases e3
theorem Lw(h:PE X e (tBM X.K "list" BW (tDP (Gx c X) i p) (k7 (tC (.int 0)) i5))):DX c X e (tT i p):=PE.imp h λσ H Q q_=>by
 obtain⟨Hf0,H0,Hf,U,d,ρ',so,ef,kq⟩:=q_;obtain⟨q,e1,ef⟩:=bf ef;obtain⟨r,e3,ef⟩:=d5 ef;cases ef;refine⟨Hf0,H0,Hf,U,q.1,q.2,so,e1,λt v fp v1 f1 Hf1 H1 es ev x rt F=>?_⟩
 cases h1:q.1 with
 |lst os=>
  rw[h1]at e3 F
  cases os with
  |nil=>cases e3
  |cons o1 os=>
   cases o1 with
   |fz d=>
    cases e3;obtain⟨l,us,fs,rfl,ql,rs,rfl⟩:=F.r;obtain⟨w,us',g1,g2,rfl,rw1,rs',rfl⟩:=rs;obtain⟨rd,rfl⟩:=rw1;refine⟨.inl ⟨rfl,_,SqL.of ql⟩,l,w::us',0,0,w,rfl,rfl,ql,by decide,by decide,?_,rfl,?_⟩
    .have hq:(decide ((0:Int)<=0) && decide ((0:Int)<((w::us').length:Int)))=ab:=by simp
     unfold seqIndex?;dsimp only;rw[if_neg (show ¬(0:Int)<0 by decide),if_pos hq];rfl
    .have nl:=(cY.mp F.n).1;rw[nil_append]at nl;refine kq w Hf1 _ x.f ?_ rd;have o1:OTs (Gx c X) Hf1 (upd H1 l (.lst us')) os us' g2:=rs'.stay ql rfl nl (aw.refl _) λb u hb e=>by rw[aK hb];exact e
     exact so.foc es ev rt x F (λb u hb hn=>by rw[aK (λz=>hn (by rw[z];exact aO))];exact hb)
      (o2:=.lst os) (f2:=l::g2) ⟨l,us',g2,rfl,be,o1,rfl⟩ F.n λa ha=>.inl ha
   | _=>cases e3
 | _=>rw[h1]at e3;cases e3
theorem Lx(hp:PS X st (iF (tD (Gx c X) fv) (vJ (tDP (Gx c X) i p) (tD (Gx c X) fk) vZ))):DS c X st (tU i p fk fv):=PS.imp hp λE σ H q_=>by
 obtain⟨Hf0,H0,Hf,U,o,so,ef,kq⟩:=q_;obtain⟨d,e1,ef⟩:=bf ef;obtain⟨q,e2,ef⟩:=bf ef;obtain⟨k,e3,ef⟩:=bf ef;obtain⟨o2,e4,ef⟩:=d5 ef;subst ef;refine⟨Hf0,H0,Hf,U,d,so,e1,λw Hf1 H1 x1 r1=>⟨Hf0,H0,Hf1,U,q.1,q.2,so.step x1,e2,λt v fp v1 f1 Hf2 H2 es ev x2 rt F=>⟨Hf0,H0,Hf2,U,k,(so.step x1).step x2,e3,λy Hf3 H3 x3 r3=>?_⟩⟩⟩
 cases k with
 |int n=>
  obtain⟨ds,e5,e4⟩:=bf (show q.1.items.bind _=_ from e4);obtain⟨j,e6,e4⟩:=d5 e4;subst e4;have F3:=F.up x3.f x3.h;rw[oH e5]at F3;obtain⟨l,us,fs,rfl,ql,rs,ef⟩:=F3.r;obtain⟨rd,rfl⟩:=rs.unfz;refine⟨l,us,n,j,rfl,r3,ql,by rw[<- rd.length];exact e6,kq σ Hf3 _ ((x1.trans x2).trans x3).f ?_⟩;have nf:OTs (Gx c X) Hf3 (upd H3 l (.lst (us.set j w))) ((ds.set j d).map .fz) (us.set j w) []:=OTs.fz (rd.set j (r1.up (x2.f.trans x3.f)))
  have:=(so.step x1).foc es ev (rt.up x3.f x3.h) (x2.trans x3) F3 (H2:=upd H3 l (.lst (us.set j w))) (λb u hb hn=>by rw[aK (λz=>hn (by rw[ef,z];exact aO))];exact hb)
   (o2:=.lst ((ds.set j d).map .fz)) (f2:=[l]) ⟨l,us.set j w,[],rfl,be,nf,rfl⟩ (by rw[<- ef];exact F3.n) λa ha=>.inl (by rw[ef];exact ha)
  exact this
 | _=>cases e4
theorem Ly{α:Type}[DecidableEq α]{k:α}{ks:List α}(hz:ks.length=vs.length)(h:aT k ks=ac):dD (ks.zip vs) k v=(ks++[k]).zip (vs++[v]):=by
 unfold dD;rw[si,qw vs h,if_neg (by simp),zip_append hz];rfl
theorem D2{ks:List (List Key)}{x:O}{g:LAd}{w:V}(r:OT G Hf H (.dT ks os) (.ref l) f1)(n:f1.Nodup)(hk:aT k ks=ac)(f:aw Hf Hf')(s:∀b u,b≠l->H b=aa u->H' b=aa u):
  ∃kvs,H l=aa (.dT kvs)/\kvs.length=ks.length/\cR kvs k=ac/\l∈f1/\(H' l=aa (.dT (dD kvs k w))->OT G Hf' H' x w g->OT G Hf' H' (.dT (ks++[k]) (os++[x])) (.ref l) (f1++g)):=by
 obtain⟨l',vs,fs,el,ql,hz,rs,rfl⟩:=r;cases el;refine⟨ks.zip vs,ql,by rw[lP];omega,qw vs hk,aO,λhl rx=>⟨l,vs++[w],fs++g,rfl,?_,by simp[hz],?_,rfl⟩⟩
 .rw[hl,Ly hz hk]
 .exact(rs.stay ql rfl (cY.mp n).1 f s).append (.one rx)
theorem Lz{x:O}(h:o1.putNew x k=aa o2):∃ks os,o1=.dT ks os/\aT k ks=ac/\ks.length<16777216/\o2=.dT (ks++[k]) (os++[x]):=by
 cases o1 with
 |dT ks os=>
  replace h:(if aT k ks=ac/\ks.length<16777216 then aa (O.dT (ks++[k]) (os++[x])) else ac)=aa o2:=h;split at h
  .rename_i hh;cases h;exact⟨ks,os,rfl,hh.1,hh.2,rfl⟩
  .cases h
 | _=>cases h
theorem LA(hp:PS X st (wm (tDP (Gx c X) i p) (tD (Gx c X) fk) (tD (Gx c X) fv))):DS c X st (tV i p fk fv):=PS.imp hp λE σ H q_=>by
 obtain⟨Hf0,H0,Hf,U,o,so,ef,kq⟩:=q_;obtain⟨d,e1,ef⟩:=bf ef;obtain⟨q,e2,ef⟩:=bf ef;obtain⟨y,e3,ef⟩:=bf ef;obtain⟨k,e5,ef⟩:=bf ef;obtain⟨o2,e4,ef⟩:=d5 ef;subst ef;refine⟨Hf0,H0,Hf,U,d,so,e1,λw Hf1 H1 x1 r1=>⟨Hf0,H0,Hf1,U,q.1,q.2,so.step x1,e2,λt v fp v1 f1 Hf2 H2 es ev x2 rt F=>⟨Hf0,H0,Hf2,U,y,(so.step x1).step x2,e3,λz Hf3 H3 x3 r3=>?_⟩⟩⟩;obtain⟨ks,os,h1,hk,hlt,rfl⟩:=Lz e4;have F3:=F.up x3.f x3.h;rw[h1]at F3;obtain⟨b,rfl,tk⟩:=tR e5 r3;obtain⟨l,vs,fs,rfl,ql,hz,rs,ef⟩:=id F3.r;obtain⟨kvs,ql',hkv,hv,lm,nw⟩:=D2 (Hf':=Hf3) (H':=upd H3 l (.dT (dD (ks.zip vs) k w))) (w:=w) (x:=.fz d) (g:=[]) F3.r F3.n hk (aw.refl _) λb u hb e=>by rw[aK hb];exact e
 rw[ql]at ql';cases ql';refine⟨l,_,rfl,k9.t ql (tk.same x3.s) (by rw[dL,hkv];exact hlt),kq σ Hf3 _ ((x1.trans x2).trans x3).f ?_⟩
 exact(so.step x1).foc es ev (rt.up x3.f x3.h) (x2.trans x3) F3 (λb u hb hn=>by rw[aK (λz=>hn (by rw[z];exact lm))];exact hb)
  (nw be ⟨r1.up (x2.f.trans x3.f),rfl⟩) (by rw[cr];exact F3.n) λa ha=>.inl (by rw[cr]at ha;exact ha)
section
variable{prog:cH}{w:World}{K:Type}[DecidableEq K]{kn:HeapKind prog w K}{A:cP}{E:PRS}{s:ai}
theorem LB{d b:Addr}{xs:List (K×Addr×Value)}{k:K}{dv:Value}{Q:PRS}(hu:kn.room A)(hk:kn.is s.heap k b)(hm:s.heap.DictOfH kn d xs)(hz:xs.length<=aS)
 (h1:∀q,atKey xs k=aa q->Q q.2 {s with toks:=s.toks+kn.draws k})
 (h2:atKey xs k=ac->∀h',h'.DictOfH kn d (storedH xs k b dv)->gS d s.heap h'->Q dv {s with heap:=h',toks:=s.toks+kn.draws k}):
  wpAny (model prog w) A (dictSetDefault d (.ref b) dv) Q E s:=by
 obtain⟨ob,ens,ep,go,hx,ed,el,all,nd⟩:=hm;unfold dictSetDefault
 try with_reducible refine j4 ?_
 refine ap (kn.pyHash hu hk ?_)
 refine ap (wpAny_dictFind_heap (s:={s with toks:=s.toks+kn.draws k}) hu hk go ed el all nd (λno=>?_) λj q hj=>?_)
 .have nk:k∉xs.map (·.1):=not_mem_keys_of_get no;have z:atKey xs k=ac:=atKey_none_of_get no
  refine ap (l5 (ap (wpAny_updateDictKeys (hz:=by have e:=size_of_entries el; omega) (s:={ s with toks:=s.toks + kn.draws k }) go ed (aJ (h2 z _ ⟨_,_,ep + 1,rS _ go (Obj.isFreed_of_dict (Obj.data_mapDictKeys ed _)),
   hx.mapDictKeys _,Obj.data_mapDictKeys ed _,?_,?_,?_⟩ (pH ..))))))
  .rw[storedH_new z];simp[el,entryOfKey]
  .rw[storedH_new z];intro y hy
   rcases ci.mp hy with hy |hy
   .exact kn.keeps (all y hy) go ed (pH ..)
   .rw[eM.mp hy];exact kn.keeps hk go ed (pH ..)
  .rw[storedH_new z,bN,gL];refine⟨nd,cY.mpr ⟨cE,fR⟩,λy hy y' hy' e=>?_⟩;rw[bn,map_nil]at hy';rw[eM.mp hy']at e;exact nk ((show y=k from e)▸hy)
 .refine ap (wpAny_dictEntries (s:={s with toks:=s.toks+kn.draws k}) go ed ?_)
  rw[entry_at el j,hj];exact ap (l5 (aJ (h1 q (atKey_of_get nd hj))))
theorem LC(kn:HeapKind prog w K)(d b:Addr)(hd:(d==gP)=ae)(dv:Value):
  MeetsIn prog w (fW.«dict.setdefault» ⟨[.ref d,.ref b,dv],[]⟩) (λA R s=>kn.room A.in1/\∃ k xs,kn.is s.heap k b/\s.heap.DictOfH kn d xs/\xs.length<=aS /\
   (∀q,atKey xs k=aa q->R (.ok (.ret q.2)) {s with toks:=s.toks+kn.draws k}) /\
   (atKey xs k=ac->∀h',h'.DictOfH kn d (storedH xs k b dv)->gS d s.heap h'->R (.ok (.ret dv)) {s with heap:=h',toks:=s.toks+kn.draws k})):=
 .of_wp λA R s q_=>by
  obtain⟨hu,k,xs,hk,hm,hz,h1,h2⟩:=q_;unfold fW.«dict.setdefault»;refine ap ?_;unfold fW.Dict.keyAndDefault;refine ap (wpAny_notOrdered_dict hm.typeIs ?_);show wpAny _ _ (pure (d,cI b,aa dv)) _ _ s;refine aJ ?_;show wpAny _ _ (if (d==gP)=ab then _ else (dictSetDefault d (.ref b) dv >>= _)) _ _ s;rw[hd,if_neg (λz=>nomatch z)];exact ap (LB hu hk hm hz (λq hq=>aJ ⟨q.2,rfl,h1 q hq⟩) λhn h' hm' hs'=>aJ ⟨dv,rfl,h2 hn h' hm' hs'⟩)
end
variable{a:Addr}{z:V}{r:Value}{kvs:List (List Key×V)}
theorem LF{Q:PRS}(hu:A.units+1<cLine)(I:Inv X pins σ H s)(e:H a=aa (.dT kvs))(tk:fH H b k)(rz:aF z r)
 (h1:∀v u s',cR kvs k=aa v->Inv X pins σ H s'->aF v u->Q u s')(h2:cR kvs k=ac->kvs.length<aS/\∀s',Inv X pins σ (upd H a (.dT (dD kvs k z))) s'->Q r s'):
  wpAny (model X.prog X.w) A (call (.builtin "dict.setdefault") [.ref a,.ref b,r]) Q E s:=by
 obtain⟨hl,hd,xs,rel,dd⟩:=B3 I.hok e;refine call_meetsIn Bd dd.typeIs PySem.F.entry_dict_setdefault (PySem.F.args_dict_setdefault_3 _ _ _) (LC (l6 (j8 X.prog X.w)) a b hd r) ⟨pG hu,k,xs,nS I.hok tk,dd,by rw[<- nJ rel];exact hl,λq hq=>?_,λhn h' dd' hs=>?_⟩
 .have rv:=rel.val k;rw[hq]at rv
  cases hv:cR kvs k with
  |none=>rw[hv]at rv;exact rv.elim
  |some v=>rw[hv]at rv;exact h1 v q.2 _ hv (I.tok _) rv
 .have hv:cR kvs k=ac:=by
   have rv:=rel.val k;rw[hn]at rv
   cases hv:cR kvs k with
   |none=>rfl
   |some v=>rw[hv]at rv;exact rv.elim
  obtain⟨hlt,hq⟩:=h2 hv;obtain⟨q,es,ep,hq1,e2,e3,e4,_,e5⟩:=dd';have hl':(dD kvs k z).length<=aS:=by have:=wg kvs k z;omega
  refine hq _ (wj I (by rw[e];exact iC) hs ⟨q,hq1⟩ ⟨hl',hd,_,(rel.put k tk rz).keeps λc ys ec=>?_,q,es,ep,hq1,e2,e3,e4,e5⟩);rw[aK (Bj ec e (λz=>nomatch z))];exact ec
def D3(td ty tx:TE):TE:=λσ H Q=>td σ H λx H1=>∃a,x=.ref a/\IsD H1 a/\ty σ H1 λy H2=>tx σ H2 λz H3=>∃kvs k b,H3 a=aa (.dT kvs)/\y=.ref b/\fH H3 b k /\
 (∀v,cR kvs k=aa v->Q v H3)/\(cR kvs k=ac->kvs.length<aS/\Q z (upd H3 a (.dT (dD kvs k z))))
variable{f:Expr}{td ty tx:TE}
section
variable{o:Expr}
theorem LG(hu:X.A.units+1<cLine)(ho:PE X o td)(he:PE X e ty)(hf:PE X f tx)(m:M2 X o "setdefault" apos e f cpos):PE X (.Call (.Attribute o "setdefault" apos) [e,f] [] cpos) (D3 td ty tx):=by
 intro pins s σ H Q I h;refine wpAny_Call_method m.base m.few m.line PySem.F.plainAttrs_dict Bd PySem.F.type_dict_setdefault (thn (ho pins s σ H _ I h) λu s1 q_=>?_);obtain⟨x,H1,I1,rx,a,ex,d,q1⟩:=q_;subst ex;obtain rfl:u=cI a:=rx;obtain⟨t1,t2,_⟩:=B7 I1 d;refine⟨t1,t2,?_⟩;rw[m.trees];refine vq rfl (vt (kX (thn (he pins s1 σ H1 _ I1 q1) λiv s2 q2_=>?_)));obtain⟨y,H2,I2,ry,q2⟩:=q2_;refine kX (thn (hf pins s2 σ H2 _ I2 q2) λfv s3 q3_=>vv ?_);obtain⟨z,H3,I3,rz,kvs,k,b,ea,ey,tk,q3,q4⟩:=q3_;subst ey;cases (show iv=cI b from ry);exact LF hu I3 ea tk rz (λv u s4 hv I4 ru=>⟨v,H3,I4,ru,q3 v hv⟩) λhn=>⟨(q4 hn).1,λs4 I4=>⟨z,_,I4,rz,(q4 hn).2⟩⟩
end
noncomputable def O.apdK(o:O)(k:List Key)(d:D):Option O:=match o with
 |.dT ks os=>match aT k ks with
  |some j=>(os[j]?).bind λo1=>(o1.appd d).map λo2=>.dT ks (os.set j o2)
  |none=>if ks.length<16777216 then aa (.dT (ks++[k]) (os++[.lst [.fz d]])) else ac
 | _=>ac
noncomputable def tW(i j:Nat)(p:Xp)(g:MF1)(U:LS):Option Fl:=(p U).bind λq=>(g U).bind λy=>(lB y).bind λk=>(af j U).bind λd=>(q.1.apdK k d).map λo2=>.nx (U.set i (.deep (q.2 o2)))
theorem LH{jv:Nat}(h:PS X st (mj (tBM X.K "list" sg (D3 (tDP (Gx c X) i p) (tD (Gx c X) g) (vU i5)) (k7 (dq jv) i5)))):DS c X st (tW i jv p g):=PS.imp h λE σ H q_=>by
 obtain⟨Hf0,H0,Hf,U,o,so,ef,kq⟩:=q_;obtain⟨q,e1,ef⟩:=bf ef;obtain⟨y,e2,ef⟩:=bf ef;obtain⟨k,e3,ef⟩:=bf ef;obtain⟨d,e4,ef⟩:=bf ef;obtain⟨o2,e5,ef⟩:=d5 ef;subst ef;obtain⟨w,ew,rw0⟩:=so.imm (Cg e4);refine⟨Hf0,H0,Hf,U,q.1,q.2,so,e1,λt v fp v1 f1 Hf1 H1 es ev x rt F=>?_⟩
 cases h1:q.1 with
 |dT ks os=>
  rw[h1]at e5 F;obtain⟨a,vs,fs,rfl,ha,hz,rs,rfl⟩:=id F.r;refine⟨a,rfl,.inr ⟨_,.inl ha⟩,Hf0,H0,Hf1,U,y,so.step x,e2,λu Hf2 H2 x2 r2=>⟨da _,λl hl=>?_⟩⟩;obtain⟨b,eb,tk⟩:=tR e3 r2;subst eb;have x3:Ext Hf2 H2 Hf2 (upd H2 l (.lst [])):=Ext.tmp x2.s hl;have x23:=x2.trans x3;have xa:=x.trans x23;have ha3:=x23.h _ _ ha;have F3:=F.up x23.f x23.h;have rt3:=rt.up x23.f x23.h;refine⟨ks.zip vs,k,b,ha3,rfl,tk.same (x2.s.trans x3.h),λv2 hv2=>?_,λhn=>?_⟩
  .cases hj:aT k ks with
   |none=>rw[qw vs hj]at hv2;cases hv2
   |some j=>
    replace e5:(match aT k ks with |some j=>(os[j]?).bind λo1=>(o1.appd d).map λo2=>O.dT ks (os.set j o2) |none=>if ks.length<16777216 then aa (.dT (ks++[k]) (os++[.lst [.fz d]])) else ac)=aa o2:=e5
    rw[hj]at e5;obtain⟨ok,eo,e5⟩:=bf e5;obtain⟨on,ea,e5⟩:=d5 e5;subst e5;obtain⟨v3,f3,ev3,F4⟩:=Foc.root (o:=.dT ks os) (W:=.dT ks) ha rfl rs F.n eo λHf' H' os' fs' ha' r _=>⟨a,vs,fs',rfl,ha',hz,r,rfl⟩;rw[qv vs hj,ev3]at hv2;cases hv2;have F5:=(F.trans F4).up x23.f x23.h;obtain⟨l2,us,el,ql,hz2,lm,next⟩:=DD ea F5.r;subst el;refine⟨.inl ⟨rfl,_,SqL.of ql⟩,w,ew,l2,us,w,rfl,rfl,ql,by rw[dL];exact hz2,kq σ Hf2 _ xa.f ?_⟩
    have:=so.foc es ev rt3 xa F5 (H2:=upd (upd H2 l (.lst [])) l2 (.lst (us++[w]))) (λb u hb hn=>by rw[aK (λz=>hn (by rw[z];exact lm))];exact hb)
     (next Hf2 _ w F5.n (aw.refl _) (λb u hb e=>by rw[aK hb];exact e) be (rw0.up xa.f)) F5.n λa ha=>.inl ha
    exact this
  .cases hj:aT k ks with
   |some j=>
    rw[qv vs hj]at hn;have:=xN hj;rw[vc]at hn
    omega
   |none=>
    replace e5:(match aT k ks with |some j=>(os[j]?).bind λo1=>(o1.appd d).map λo2=>O.dT ks (os.set j o2) |none=>if ks.length<16777216 then aa (.dT (ks++[k]) (os++[.lst [.fz d]])) else ac)=aa o2:=e5
    rw[hj]at e5;replace e5:(if ks.length<16777216 then aa (O.dT (ks++[k]) (os++[.lst [.fz d]])) else ac)=aa o2:=e5;split at e5
    .rename_i hlt;cases e5;have nal:a≠l:=fI (x2.h _ _ ha) hl
     have lf:∀g,g∈fp->g≠l:=λg hg z=>by
      have:=so.was es ev x rt g hg;subst z;exact this ((x.h.trans x2.h).free hl)
     have hl4:upd (upd H2 l (.lst [])) a (.dT (dD (ks.zip vs) k (.ref l))) l=aa (.lst []):=by rw[aK nal.symm,be]
     refine⟨by rw[dL,lP];omega,.inl ⟨rfl,_,SqL.of hl4⟩,w,ew,l,[],w,rfl,rfl,hl4,by rw[dL];exact px _,kq σ Hf2 _ xa.f ?_⟩;have xb:=x.trans x2;have F2:=F.up x2.f x2.h
     have keep:∀b u,b≠a->H2 b=aa u->upd (upd (upd H2 l (.lst [])) a (.dT (dD (ks.zip vs) k (.ref l)))) l (.lst ([]++[w])) b=aa u:=λb u hb e=>by
      have nb:=fI e hl;rw[aK nb,aK hb,aK nb];exact e
     obtain⟨kvs,ql',hkv,hv,lm,nw⟩:=D2 (Hf':=Hf2) (H':=upd (upd (upd H2 l (.lst [])) a (.dT (dD (ks.zip vs) k (.ref l)))) l (.lst ([]++[w]))) (w:=.ref l) (x:=.lst [.fz d]) (g:=[l]) F2.r F2.n hj (aw.refl _) keep;rw[x2.h _ _ ha]at ql';cases ql';refine so.foc es ev (rt.up x2.f x2.h) xb F2 (λb u hb hn=>keep b u (λz=>hn (by rw[z];exact lm)) hb) (nw (by rw[aK nal,be]) ⟨l,[w],[],rfl,be,OTs.one (o:=.fz d) ⟨rw0.up xb.f,rfl⟩,rfl⟩) ?_ λg hg=>?_
     .exact gL.mpr ⟨F2.n,cY.mpr ⟨cE,fR⟩,λg hg g' hg' z=>by rw[eM.mp hg']at z;exact lf g (F2.sub g hg) z⟩
     .rcases ci.mp hg with y |y
      .exact .inl y
      .rw[eM.mp y];exact .inr ⟨xb.h.free hl,xb.s.free hl⟩
    .cases e5
 | _=>rw[h1]at e5;cases e5
theorem D4{f:Str}{v:V}:∀{ns:LSt} {vs:List V} {k:Nat},ns.length=vs.length->aT f ns=aa k->c5 f v (ns.zip vs)=ns.zip (vs.set k v)
 | [],_,_,_,h=>by cases h
 | _::_,[],_,hl,_=>by cases hl
 |n::ns,u::vs,k,hl,h=>by
  unfold aT at h;rw[d9];unfold c5;split at h
  .rename_i e;cases h;rw[if_pos e,rC,d9]
  .rename_i e;rw[if_neg e]
   cases h':aT f ns with
   |none=>rw[h']at h;cases h
   |some j=>
    rw[h']at h;cases h;rw[ph,d9,D4 (by simpa using hl) h']
theorem D5{f:Str}{v:V}:∀{ns:LSt} {vs:List V},ns.length=vs.length->aT f ns=ac->c5 f v (ns.zip vs)=(ns++[f]).zip (vs++[v])
 | [],[],_,_=>rfl
 | [],_::_,hl,_=>by cases hl
 | _::_,[],hl,_=>by cases hl
 |n::ns,u::vs,hl,h=>by
  unfold aT at h;rw[d9];unfold c5;split at h
  .cases h
  .rename_i e;rw[if_neg e]
   cases h':aT f ns with
   |none=>rw[cons_append,cons_append,d9,D5 (by simpa using hl) h']
   |some j=>rw[h']at h;cases h
noncomputable def O.setF(o:O)(cn f:Str)(x:O):Option O:=match o with
 | .ins c ns os=>if c=cn/\ns.length < 1000 then (match aT f ns with
  |some k=>aa (.ins c ns (os.set k x))
  |none=>aa (.ins c (ns++[f]) (os++[x]))) else ac
 | _=>ac
noncomputable def ji(i:Nat)(cn f:Str)(p:Xp)(g:LS->Option O)(U:LS):Option Fl:=(g U).bind λx=>(p U).bind λq=>(q.1.setF cn f x).map λo2=>.nx (U.set i (.deep (q.2 o2)))
theorem OTs.len{G:Gc}{Hf H:Hp}:∀{os:List O} {vs:List V} {fs:LAd},OTs G Hf H os vs fs->os.length=vs.length
 | [],_,_,h=>by rw[h.1];rfl
 |o::os,_,_,⟨v,r,f1,f2,e,_,h2,_⟩=>by subst e;simp[OTs.len h2]
theorem lC{g:LS->Option O}(cn:Str)(hc:Cls X.K (c cn))(hn:dM X.K (c cn) fl)(hp:PS X st (BF X.K (tDP (Gx c X) i p) (tDZ (Gx c X) ab g) fl)):DS c X st (ji i cn fl p g):=PS.imp hp λE σ H q_=>by
 obtain⟨Hf0,H0,Hf,U,o,so,ef,kq⟩:=q_;obtain⟨x,e1,ef⟩:=bf ef;obtain⟨q,e2,ef⟩:=bf ef;obtain⟨o2,e3,ef⟩:=d5 ef;subst ef;refine⟨Hf0,H0,Hf,U,x,so,e1,λu gp Hf1 H1 x1 rx fre=>⟨Hf0,H0,Hf1,U,q.1,q.2,so.step x1,e2,λt v fp v1 f1 Hf2 H2 es ev x2 rt F=>?_⟩⟩;have x12:=x1.trans x2;have was:=so.was es ev x12 rt
 have hg:∀b∈gp,H b=ac/\Hf2 b=ac:=λb hb=>by
  refine⟨(fre.2 b hb).1,?_⟩;obtain⟨w,hw,ht⟩:=OT.memM x u gp rx b hb;rw[x2.n b w hw ht];exact(fre.2 b hb).2
 have ng:∀b∈gp,b∉fp:=λb hb hf=>was b hf (hg b hb).1
 cases h1:q.1 with
 |ins c' ns os=>
  rw[h1]at e3 F
  replace e3 : (if c'=cn/\ns.length < 1000 then (match aT fl ns with
   |some k=>aa (O.ins c' ns (os.set k x))
   |none=>aa (.ins c' (ns++[fl]) (os++[x]))) else ac)=aa o2:=e3
  split at e3
  .rename_i hcc;obtain⟨rfl,hlt⟩:=hcc;obtain⟨a,dx,vs,fs,rfl,ha,hz,rs,rfl⟩:=id F.r;obtain⟨na,nfs⟩:=cY.mp F.n;have nag:a∉gp:=λz=>ng a z (F.sub a aO);refine⟨a,_,dx,ns.zip vs,rfl,ha,hc,hn,by rw[lP];omega,kq σ Hf2 _ x12.f ?_⟩;have keep:∀b w,b≠a->H2 b=aa w->upd H2 a (.ins (c c') dx (c5 fl u (ns.zip vs))) b=aa w:=λb w hb e=>by rw[aK hb];exact e
   have rx2 : OT (Gx c X) Hf2 (upd H2 a (.ins (c c') dx (c5 fl u (ns.zip vs)))) x u gp:=(rx.up x2.f x2.h).frame (aw.refl _) λb w hb hm=>keep b w (λz=>by
    subst z;rw[ha]at hb;cases hb
    rcases hm with hm |hm
    .cases hm
    .exact nag hm) hb
   have kk:∀b w,H2 b=aa w->b∉a::fs->upd H2 a (.ins (c c') dx (c5 fl u (ns.zip vs))) b=aa w:=λb w hb hn=>keep b w (λz=>hn (by rw[z];exact aO)) hb
   cases hk:aT fl ns with
   |some k=>
    rw[hk]at e3;cases e3;have hkl:k<os.length:=by rw[rs.len,<- hz];exact xN hk
    obtain⟨vk,fk,evk,_,_,sb,bk⟩:=rs.foc nfs (dk hkl)
    obtain ⟨fs',r',m',n'⟩:=bk Hf2 _ x u gp (aw.refl _) (λb w hb hm _=>keep b w (λz=>by
     subst z;rw[ha]at hb;cases hb
     rcases hm with hm |hm
     .cases hm
     .exact na hm) hb) rx2
    refine so.foc es ev rt x12 F kk (o2:=.ins c' ns (os.set k x)) (f2:=a::fs') ⟨a,dx,vs.set k u,fs',rfl,by rw[be,D4 hz hk],by simp[hz],r',rfl⟩ (cY.mpr ⟨λz=>?_,n' fre.1 λb hb hf=>absurd (F.sub b (bv _ hf)) (ng b hb)⟩) λb hb=>?_
    .rcases m' a z with y |⟨y,_⟩
     .exact nag y
     .exact na y
    .rcases aW.mp hb with z |z
     .rw[z];exact .inl aO
     .rcases m' b z with y |⟨y,_⟩
      .exact .inr (hg b y)
      .exact .inl (bv _ y)
   |none=>
    rw[hk]at e3;cases e3;have r':=(rs.stay (H':=upd H2 a (.ins (c c') dx (c5 fl u (ns.zip vs)))) ha rfl na (aw.refl _) keep).append (.one rx2);refine so.foc es ev rt x12 F kk (o2:=.ins c' (ns++[fl]) (os++[x])) (f2:=a::(fs++gp)) ⟨a,dx,vs++[u],fs++gp,rfl,by rw[be,D5 hz hk],by simp[hz],r',rfl⟩ (cY.mpr ⟨λz=>?_,gL.mpr ⟨nfs,fre.1,λb hb b' hb' z=>by subst z;exact ng b hb' (F.sub b (bv _ hb))⟩⟩) λb hb=>?_
    .rcases ci.mp z with y |y
     .exact na y
     .exact nag y
    .rcases aW.mp hb with z |z
     .rw[z];exact .inl aO
     .rcases ci.mp z with y |y
      .exact .inl (bv _ y)
      .exact .inr (hg b y)
  .cases e3
 | _=>rw[h1]at e3;cases e3
noncomputable abbrev MTf:=Addr->LD->O->Option (O×D)
def fO(G:Gc)(n:Nat)(m:MTf):Sp:=λvs H Q _=>∃Hf ds o o' d l fp vs1,vs=.ref l::vs1/\aw Hf H/\OT G Hf H o (.ref l) fp/\fp.Nodup/\(∀a∈fp,Hf a=ac)/\am G Hf ds vs1/\1+ds.length=n/\m l ds o=aa (o',d) /\
 ∀v Hf' H' fp',Ext Hf (gE H fp) Hf' H'->OT G Hf' H' o' (.ref l) fp'->fp'.Nodup->(∀a∈fp',gE H fp a=ac/\Hf' a=ac)->Rep G Hf' d v->Q v H'
noncomputable def qx(N:Nat)(l:Addr)(ds:LD)(o:O):LS:=(eS N (.non::ds)).set 0 (.deep (.at l o))
open Classical in
noncomputable def mY(l:Addr)(U:LS):Option O:=match (U[0]?:Option Sl)with
 |some (Sl.deep (.at l' o))=>if l'=l then aa o else ac
 | _=>ac
theorem LI{o:O}(h:mY l U=aa o):U[0]?=aa (.deep (.at l o)):=by
 unfold mY at h;split at h
 .rename_i e;split at h
  .rename_i q;subst q;cases h;exact e
  .cases h
 .cases h
theorem D6{o:O}(h:U[0]?=aa (.deep (.at l o))):mY l U=aa o:=by
 unfold mY;rw[h];exact if_pos rfl
noncomputable def g9(N:Nat)(F:MF3):MTf:=λl ds o=>(F (qx N l ds o)).bind λr=>match r with
 |.nx U=>(mY l U).map λo'=>(o',.non)
 |.rtS d U=>(mY l U).map λo'=>(o',d)
 | _=>ac
theorem av.startMT{o:O}{vs1:List V}(s0:aw Hf H)(ro:OT G Hf H o (.ref l) fp)(n:fp.Nodup)(hf:∀a∈fp,Hf a=ac)(r:am G Hf ds vs1):
  av G Hf (gE H fp) Hf H (L2.start N (.ref l::vs1)) (qx N.length l ds o):=by
 have st0:=av.start (N:=N) (DJ s0 hf) (.cons (d:=.non) (v:=.non) rfl r)
 exact st0.setNew (i:=0) (u:=.ref l) (s:=.deep (.at l o)) (Ext.grow (DJ s0 hf) La) ⟨.ref l,fp,rfl,⟨rfl,ro⟩,n,λa ha=>⟨xF ha,hf a ha⟩⟩ λa p=>by
  obtain⟨fp',r',ha⟩:=p;have:=OT.funM o _ fp fp' ro r'.2;subst this;exact xF ha
variable{K:aX}{f:Addr}{k:Nat}
theorem kA(Fn:Fun K x qual st f fd)(S:aM N ps (aD st))
 (h:∀(cdv:Value) (A:cP) (outer:List Env) (s:ai) (H:Hp) (E:XK),bG k (A.deeper (gO qual (aD st) s.heap.objs.size f cdv))->DSs c (i6 CX0 P w K mg base N qual (aD st) f cdv A outer s H E).nox (i7 st) F)(hn_:N.length=n_:=by rfl):
  df P w K mg base CX0 (k+1) f fd ps (fO ⟨K,c⟩ ps.length (g9 n_ F)):=by
 subst hn_;refine Fn.ok S (λvs H Q E q_=>by obtain⟨Hf,ds,o,o',d,l,fp,vs1,ev,s0,ro,n,hf,r,hn,_⟩:=q_;rw[ev,b9,<- r.length];omega) λcdv A outer s H vs Q E hr q_=>?_;obtain⟨Hf,ds,o,o',d,l,fp,vs1,ev,s0,ro,n,hf,r,hn,e,kq⟩:=q_;refine⟨_,h cdv A outer s H E hr,?_⟩;subst ev;unfold g9 at e
 cases eF:F (qx N.length l ds o)with
 |none=>rw[eF]at e;cases e
 |some z=>
  rw[eF,aC]at e;refine⟨Hf,gE H fp,Hf,_,z,av.startMT s0 ro n hf r,eF,?_⟩
  have fin:∀(U:LS) (d':D),(mY l U).map (λo'=>(o',d'))=aa (o',d)->∀v σ' Hf' H',av ⟨K,c⟩ Hf (gE H fp) Hf' H' σ' U->Rep ⟨K,c⟩ Hf' d' v->Q v H':=λU d' e v σ' Hf' H' so rv=>by
   obtain⟨t,e1,e⟩:=d5 e;cases e;obtain⟨u,e2,u',fp',e3,rt,n',z'⟩:=so.slot (LI e1);cases rt.1;exact kq v Hf' H' fp' so.ext rt.2 n' z' rv
  cases z with
  |nx U=>exact λσ' Hf' H' _ so=>fin U .non e .non σ' Hf' H' so rfl
  |rtS d' U=>exact λv σ' Hf' H' so rv=>fin U d' e v σ' Hf' H' so rv
  | _=>cases e
theorem av.treeBack{o o':O}{fp':LAd}(so:av G Hf0 H0 Hf H σ U)(es:U[i]?=aa (.deep o))(ev:σ[i]?=aa (aa v))(r:OT G Hf H o v fp)(x:Ext Hf (gE H fp) Hf' H')(r':OT G Hf' H' o' v fp')(n':fp'.Nodup)(z':∀a∈fp',gE H fp a=ac/\Hf' a=ac):av G Hf0 H0 Hf' H' σ (U.set i (.deep o')):=by
 have s1 : av G Hf0 H0 Hf (gE H fp) σ (U.set i .no):=so.chg es ev (λb y hb=>by
  by_cases hbl:b∈fp
  .exact .inl ⟨fp,r,hbl⟩
  .exact .inr (by rw[tP hbl];exact hb)) trivial λa p=>(p.calm rfl).elim
 have s2:=s1.setNew (i:=i) (u:=v) (s:=.deep o') x ⟨v,fp',rfl,r',n',λa ha=>⟨s1.ext.h.free (z' a ha).1,(z' a ha).2⟩⟩ λa p=>by
  obtain⟨g,r2,ha⟩:=p;have:=OT.funM o' v fp' g r' r2;subst this;exact(z' a ha).1
 rw[qt ev,set_set]at s2;exact s2
noncomputable def O.isIns(cn fl:Str):O->Bool
 |.ins c ns _=>decide (c=cn) && !ns.contains fl
 | _=>ae
theorem D7{cn fl:Str}{o:O}(h:o.isIns cn fl=ab):∃ns os,o=.ins cn ns os/\ns.contains fl=ae:=by
 cases o with
 |ins c ns os=>
  replace h:(decide (c=cn) && !ns.contains fl)=ab:=h;rw[cg,decide_eq_true_eq,Bool.not_eq_true']at h;obtain⟨e,h⟩:=h;subst e
  exact⟨ns,os,rfl,h⟩
 | _=>cases h
noncomputable def gc(i:Nat)(cn fl:Str)(m:MTf)(f:Xa):Xe:=λU=>match U[i]? with
 |some (.deep (.at _ o0))=>if o0.isIns cn fl then (f U).bind λp=>match p.2[i]? with
  |some (.deep (.at l o))=>(m l p.1 o).map λq=>(q.2,p.2.set i (.deep (.at l q.1)))
  | _=>ac else ac
 | _=>ac
open Classical in
noncomputable def oJ(i:Nat)(cn fl:Str)(m:MTf)(f:Xa):Xe:=λU=>match U[i]? with
 |some (.deep o0)=>if o0.isIns cn fl then (f U).bind λp=>match p.2[i]? with
  |some (.deep (.ins c' ns os))=>if h:∃q,∀l,m l p.1 (.ins c' ns os)=aa q then aa (h.choose.2,p.2.set i (.deep h.choose.1)) else ac
  | _=>ac else ac
 | _=>ac
variable{fa:Xa}{m:MTf}{Q:VK}{t:TA}
theorem D8(cn:Str)(ht:∀σ H Q,xK (Gx c X) fa σ H Q->t σ H Q)(hn:∀U ds ρ',fa U=aa (ds,ρ')->1+ds.length=ps.length)(q_:tDX (Gx c X) (gc i cn fl m fa) σ H Q):se (c cn) fl (fO (Gx c X) ps.length m) [] E0 (dq i) t σ H Q:=by
 obtain⟨Hf0,H0,Hf,U,d,ρ',st,ef,kq⟩:=q_;unfold gc at ef;split at ef
 .rename_i l0 o0 es0;split at ef
  .rename_i hi;obtain⟨ns,os,rfl,hno⟩:=D7 hi;obtain⟨pp,e1,ef⟩:=bf ef;obtain⟨ds,ρ1⟩:=pp;dsimp only at ef;split at ef
   .rename_i l o1 es1;obtain⟨q,e2,ef⟩:=d5 ef;cases ef;obtain⟨u,eu,u',fp,e3,rt,n,z⟩:=st.slot es0;subst e3;obtain⟨el,a,dx,vs,fs,ea,ha,hz,rs,efp⟩:=rt;subst el;cases ea;refine⟨_,eu,l0,dx,ns.zip vs,rfl,ha,oq hno,ht _ _ _ ⟨Hf0,H0,Hf,U,ds,ρ1,st,e1,λus Hf' H' f1 st1 r=>?_⟩⟩;dsimp only;rw[cr];obtain⟨w,ew,w',gp,e4,rt1,n1,z1⟩:=st1.slot es1;subst e4;rw[eu]at ew;cases ew;obtain⟨el2,rt2⟩:=rt1;cases el2;exact⟨Hf',ds,o1,q.1,q.2,l0,gp,us,rfl,st1.sub,rt2,n1,λa ha=>(z1 a ha).2,r,hn _ _ _ e1,e2,λv Hf3 H3 fp3 x3 r3 n3 z3 rv=>kq v Hf3 H3 (f1.trans x3.f) (st1.treeBack es1 eu ⟨rfl,rt2⟩ x3 ⟨rfl,r3⟩ n3 z3) rv⟩
   .cases ef
  .cases ef
 .cases ef
theorem LJ(cn:Str)(ht:∀σ H Q,xK (Gx c X) fa σ H Q->t σ H Q)(hn:∀U ds ρ',fa U=aa (ds,ρ')->1+ds.length=ps.length)(q_:tDX (Gx c X) (oJ i cn fl m fa) σ H Q):se (c cn) fl (fO (Gx c X) ps.length m) [] E0 (dq i) t σ H Q:=by
 obtain⟨Hf0,H0,Hf,U,d,ρ',st,ef,kq⟩:=q_;unfold oJ at ef;split at ef
 .rename_i o0 es0;split at ef
  .rename_i hi;obtain⟨ns,os,rfl,hno⟩:=D7 hi;obtain⟨pp,e1,ef⟩:=bf ef;obtain⟨ds,ρ1⟩:=pp;dsimp only at ef;split at ef
   .rename_i c' ns' os' es1;split at ef
    .rename_i hq;have e2:=hq.choose_spec;generalize hq.choose=q at ef e2;cases ef;obtain⟨u,eu,u',fp,e3,rt,n,z⟩:=st.slot es0;subst e3;obtain⟨a,dx,vs,fs,ea,ha,hz,rs,efp⟩:=rt;subst ea;refine⟨_,eu,a,dx,ns.zip vs,rfl,ha,oq hno,ht _ _ _ ⟨Hf0,H0,Hf,U,ds,ρ1,st,e1,λus Hf' H' f1 st1 r=>?_⟩⟩;dsimp only;rw[cr];obtain⟨w,ew,w',gp,e4,rt1,n1,z1⟩:=st1.slot es1;subst e4;rw[eu]at ew;cases ew;exact⟨Hf',ds,.ins c' ns' os',q.1,q.2,a,gp,us,rfl,st1.sub,rt1,n1,λa ha=>(z1 a ha).2,r,hn _ _ _ e1,e2 a,λv Hf3 H3 fp3 x3 r3 n3 z3 rv=>kq v Hf3 H3 (f1.trans x3.f) (st1.treeBack es1 eu rt1 x3 r3 n3 z3) rv⟩
    .cases ef
   .cases ef
  .cases ef
 .cases ef
section
variable{o:Expr}
theorem oK(cn:Str)(ho:PE X o (dq i))(pk:Pm X.prog X.w X.K X.mg X.base CX0 k (c cn) fl (f,fd) ps (fO (Gx c X) ps.length m))(hr0:bG k0 X.A)(ha:DAX c X (e::es) fa)(hl:(e::es).length+1=ps.length:=by rfl)(hst:StE X e es:=by rfl)(hpl:BkE X pos es:=by rfl)(ht:eval (.Call (.Attribute o fl apos) (e::es) [] pos) X.env=(do
   let ov <- eval o X.env
   iw apos.atName
   let (f,first) <- fG [ov] (jt ov fl pl)
   kU pos f first (c4 pos (ba (e::es) X.env)) (ju pos (jr [] X.env))):=by rfl)(hk0:k<=k0:=by decide):
  DX c X (.Call (.Attribute o fl apos) (e::es) [] pos) (gc i cn fl m fa):=PE.imp (vW ho pk.c pk.m pk.ok (hr0.mono hk0) pk.b .nil ib ha.pa hst hpl ht) λσ H Q q_=>D8 cn (λ_ _ _ h=>h) (λU ds ρ' h=>by have:=ha.len U ds ρ' h;omega) q_
end
section
variable{o:Expr}
theorem xS(cn:Str)(ho:PE X o (dq i))(pk:Pm X.prog X.w X.K X.mg X.base CX0 k (c cn) fl (f,fd) ps (fO (Gx c X) ps.length m))(hr0:bG k0 X.A)(hl:1=ps.length:=by rfl)(ht:eval (.Call (.Attribute o fl apos) [] [] pos) X.env=(do
   let ov <- eval o X.env
   iw apos.atName
   let (f,first) <- fG [ov] (jt ov fl pl)
   kU pos f first (c4 pos (ba [] X.env)) (ju pos (jr [] X.env))):=by rfl)(hk0:k<=k0:=by decide):
  DX c X (.Call (.Attribute o fl apos) [] [] pos) (gc i cn fl m g8):=PE.imp (vX ho pk.c pk.m pk.ok (hr0.mono hk0) pk.b .nil ib ht) λσ H Q q_=>D8 cn (λσ H Q q_=>by obtain⟨Hf0,H0,Hf,U,ds,ρ',st,ef,k⟩:=q_;cases ef;exact k [] Hf H (aw.refl _) st rfl) (λU ds ρ' h=>by cases h;exact hl) q_
end
section
variable{o:Expr}
theorem LK(cn:Str)(ho:PE X o (dq i))(pk:Pm X.prog X.w X.K X.mg X.base CX0 k (c cn) fl (f,fd) ps (fO (Gx c X) ps.length m))(hr0:bG k0 X.A)(hl:1=ps.length:=by rfl)(ht:eval (.Call (.Attribute o fl apos) [] [] pos) X.env=(do
   let ov <- eval o X.env
   iw apos.atName
   let (f,first) <- fG [ov] (jt ov fl pl)
   kU pos f first (c4 pos (ba [] X.env)) (ju pos (jr [] X.env))):=by rfl)(hk0:k<=k0:=by decide):
  DX c X (.Call (.Attribute o fl apos) [] [] pos) (oJ i cn fl m g8):=PE.imp (vX ho pk.c pk.m pk.ok (hr0.mono hk0) pk.b .nil ib ht) λσ H Q q_=>LJ cn (λσ H Q q_=>by obtain⟨Hf0,H0,Hf,U,ds,ρ',st,ef,k⟩:=q_;cases ef;exact k [] Hf H (aw.refl _) st rfl) (λU ds ρ' h=>by cases h;exact hl) q_
end
open Classical in
noncomputable def oM(cn:Str)(m:MTf)(fa:MF2)(U:LS):Option O:=(fa U).bind λds=>if h:∃o,∀l,m l ds (.ins cn [] [])=aa (o,.non) then aa h.choose else ac
variable{bb:Bool}{fa:MF2}
theorem LL{cn:Str}(hC:C=G.cl cn)(ht:∀σ H Q,tDA G fa σ H Q->t σ H Q)(hn:∀U ds,fa U=aa ds->1+ds.length=ps.length)(q_:tDZ G bb (oM cn m fa) σ H Q):BH C (fO G ps.length m) [] E0 t σ H Q:=by
 obtain⟨Hf0,H0,Hf,U,o,st,ef,kq⟩:=q_;unfold oM at ef;obtain⟨ds,e1,ef⟩:=bf ef;split at ef
 .rename_i hq;have e2:=hq.choose_spec;generalize hq.choose=o' at ef e2;cases ef;refine ht _ _ _ ⟨Hf0,H0,Hf,U,ds,st,e1,λvs Hf1 H1 x1 r y dx ny ndx nex=>?_⟩
  try dsimp only
  rw[cr];subst hC;have hy:(upd H1 dx (.own y)) y=ac:=by rw[aK nex.symm];exact ny
  have s1:aw H1 (upd H1 dx (.own y)):=bR ndx;have s2:=s1.trans (bR (o:=.ins (G.cl cn) dx []) hy)
  have s3:aw H1 (gE (upd (upd H1 dx (.own y)) y (.ins (G.cl cn) dx [])) [y]):=λb u q=>by
   rw[tP (λz=>fI q ny (eM.mp z))];exact s2 b u q
  refine⟨Hf1,ds,.ins cn [] [],o,.non,y,[y],vs,rfl,x1.s.trans s2,⟨y,dx,[],[],rfl,be,rfl,⟨rfl,rfl⟩,rfl⟩,cY.mpr ⟨cE,fR⟩,λa ha=>by rw[eM.mp ha];exact x1.s.free ny,r,hn U ds e1,e2 y,λv Hf2 H2 fp2 x2 r2 n2 z2 rv=>⟨rv,?_⟩⟩;have x3:Ext Hf1 H1 Hf2 H2:=⟨x2.f,s3.trans x2.h,x2.s,λl u q t=>x2.n l u (s3 l u q) t⟩;exact kq _ fp2 Hf2 H2 (x1.trans x3) r2 ⟨n2,λa ha=>⟨xE st.ext.h (x1.h.free (s3.free (z2 a ha).1)),(z2 a ha).2⟩⟩
 .cases ef
variable{p:Pos}
theorem LM(cn:Str)(M:Mk X.K (c cn) f)(F:df X.prog X.w X.K X.mg X.base CX0 k f fd ps (fO (Gx c X) ps.length m))(hr:bG (k+1) X.A)(hg:Gl X x)(hm:X.mg x=aa (.ref (c cn)))(hb:gr X.K fd ps [])(ha:DA c X (e::es) fa)
 (hl:(e::es).length+1=ps.length:=by rfl)(hdb:NDb x:=by decide)(he:StE X e es:=by rfl)(hpl:BkE X pos es:=by rfl):
  DZ c X bb (.Call (.Name x p) (e::es) [] pos) (oM cn m fa):=PE.imp (BI M F hr hg hm hb .nil ib ha.pa hdb he hpl) λσ H Q q_=>LL rfl (λ_ _ _ h=>h) (λU ds h=>by have:=ha.len U ds h;omega) q_
theorem hu1{u:Nat}(h:u+64<cLine):u+1<cLine:=nu (Nat.add_le_add_left (by decide) u) h
theorem LO{f:MF2}(h:DL c X e f):DIe c X tg e f:=PI.imp (vM h) λσ H R q_=>by
 obtain⟨Hf0,H0,Hf,U,ds,st,ef,k⟩:=q_;exact⟨Hf0,H0,Hf,U,ds,st,ef,λl vs Hf' H' x hl r=>⟨l,rfl,⟨vs,SqL.of hl⟩,k _ Hf' H' x (Cz (SqL.of hl) r)⟩⟩
noncomputable def D9(f:MF2)(U:LS):OLD:=(f U).map (ig 0)
variable{a:Expr}
theorem LP{f:MF2}(hg:Gl X "enumerate")(hm:X.mg "enumerate"=ac)(ha:DL c X a f)(hs:ba [a] X.env=[(ae,eval a X.env)]:=by rfl):
  DIe c X (.Tuple elts kx tpos) (.Call (.Name "enumerate" p) [a] [] pos) (D9 f):=PI.imp (CS hg hm (du ha c6 hs) hs) λσ H R q_=>by
 obtain⟨Hf0,H0,Hf,U,ds,st,ef,k⟩:=q_;obtain⟨xs,e1,ef⟩:=d5 ef;subst ef;refine⟨Hf0,H0,Hf,U,xs,st,e1,λl vs Hf' H' x hl r=>⟨l,rfl,⟨vs,SqL.of hl⟩,k _ Hf' H' x λHf2 H2 x2 i=>?_⟩⟩;have g1:SqL X.K H2 l vs:=SqL.of (x2.h _ _ hl);have h1:=r.length;refine⟨λd ed=>?_,λei=>⟨vs,g1,by rw[wX]at ei;omega⟩⟩;rw[wY]at ed;obtain⟨y,ey,ed⟩:=d5 ed;subst ed;obtain⟨u,eu,ru⟩:=r.get ey;refine⟨⟨vs,u,g1,eu⟩,λz H3 yz=>?_⟩;obtain⟨pp,z1,ez,hp,eh,y1⟩:=yz;subst ez eh;have a1:=y1 vs g1;rw[eu]at a1;cases a1;exact⟨upd Hf2 pp (.tup [.int i,u]),Ext.new x2.s hp,pp,[.int i,u],rfl,be,.cons (by rw[nA];rfl) (.cons (ru.up (x2.f.trans (bR (x2.s.free hp)))) .nil)⟩
theorem Ea:DZ c X bb (.Dict [] [] pos) (λ_=>aa (.dT [] [])):=PE.imp IY λσ H Q q_=>by
 obtain⟨Hf0,H0,Hf,U,o,st,ef,k⟩:=q_;cases ef;intro l hl;exact k _ [l] Hf _ (Ext.tmp st.sub hl) ⟨l,[],[],rfl,be,rfl,⟨rfl,rfl⟩,rfl⟩ (.one (xE st.ext.h hl) (st.sub.free hl))
end L2
namespace HT
open List
open PySem PyProof.Rows
open PySem.SeqAt
open PySem.AutoSeq1 (wpAny_loadPart')
open PySem.MeetsSeq PySem.MeetsSeq2 PySem.MeetsSeq3
theorem LQ(l:Addr)(its:Array Value)(n:Nat)(x:Value)(f:Value->Bool)(j:Nat)(hj:j<its.size)(hit:f its[j]=ab)(hz:its.size<=aS)(k:Nat):
  ∀i:Nat,j-i=k->i<=j->(∀m (hm:m<its.size),i<=m->m<j->f its[m]=ae)->Meets (fW.«list.remove.loop» ⟨[.ref l,x,cq i],[]⟩)
   (λA R s=>s.heap.get? l=aa {cls:=.type "list",dict:=ac,data:=.seq its n,slots:=#[]}/\(∀y,y∈its->EqAt A.in1 s y x (f y))/\R (.ok (.ret .none)) {s with heap:=s.heap.update l (iB λxs=>xs.eraseIdxIfInBounds j)}):=by
 induction k with
 |zero=>
  intro i hk hij hno prog w A R s h;obtain⟨hp,g,d,tk,os⟩:=s;obtain⟨hl,he,h⟩:=h;obtain rfl:i=j:=by omega
  wp_walk using rH hl
  rw[show its[((i:Nat):Int).toNat]?=aa its[i] by simp[hj]];refine ap (he _ (Array.getElem_mem hj) prog w _ _ ?_);rw[hit];have hz':(its.eraseIdxIfInBounds i).size<=aS+1:=cZ (size_erased its _) (Nat.le_succ_of_le hz)
  wp_walk using (wpAny_updateSeq hl rfl (hz:=hz) (_hz':=hz')),rH hl
  simpa using h
 |succ k ih=>
  intro i hk hij hno prog w A R s h;obtain⟨hp,g,d,tk,os⟩:=s;obtain⟨hl,he,h⟩:=h;have hlt:i<its.size:=by omega
  wp_walk using rH hl
  rw[show its[((i:Nat):Int).toNat]?=aa its[i] by simp[hlt]];refine ap (he _ (Array.getElem_mem hlt) prog w _ _ ?_);rw[hno i hlt (aL _) (by omega)]
  wp_walk
  rw[show((i:Int)+1)=((i+1:Nat):Int) by push_cast;rfl]
  exact ⟨nG plain_remove_loop _,kP entry_remove_loop (by
   rw[l8 plain_remove_loop _];exact ih (i+1) (by omega) (by omega) (λm hm h1 h2=>hno m hm (by omega) h2) prog w A R _ ⟨hl,he,h⟩)⟩
theorem remAt(l:Addr)(its:Array Value)(n:Nat)(x:Value)(f:Value->Bool)(j:Nat)(hj:j<its.size)(hit:f its[j]=ab)(hno:∀m (hm:m<its.size),m<j->f its[m]=ae)(hz:its.size<=aS):Meets (fW.«list.remove» ⟨[.ref l,x],[]⟩)
   (λA R s=>s.heap.get? l=aa {cls:=.type "list",dict:=ac,data:=.seq its n,slots:=#[]}/\(∀y,y∈its->EqAt A.in1 s y x (f y))/\R (.ok (.ret .none)) {s with heap:=s.heap.update l (iB λxs=>xs.eraseIdxIfInBounds j)}):=by
 intro prog w A R s h;obtain⟨hp,g,d,tk,os⟩:=s;obtain⟨hl,he,h⟩:=h
 wp_walk using rH hl
 exact ⟨nG plain_remove_loop _,kP entry_remove_loop (by
  rw[l8 plain_remove_loop _];exact LQ l its n x f j hj hit hz _ 0 rfl (da _) (λm hm _ h2=>hno m hm h2) prog w A R _ ⟨hl,he,h⟩)⟩
end HT
namespace L2
open List
open PySem PySem.Spec PyProof.Rows
def Eb(G:Gc):V->List V->Hp->VK->Prop:=λvx vs H Q=>∃Hf l us ds x w,vx=.ref l/\vs=[w]/\aw Hf H/\H l=aa (.lst us)/\am G Hf ds us/\Rep G Hf x w/\fN x ds=aa ab/\Q .non (upd H l (.lst (us.eraseIdx (ds.findIdx (isE x)))))
noncomputable def O.remd(x:D)(o:O):Option O:=o.items.bind λds=>if fN x ds=aa ab then aa (.lst ((ds.eraseIdx (ds.findIdx (isE x))).map .fz)) else ac
noncomputable def tX(i:Nat)(p:Xp)(f:MF1)(U:LS):Option Fl:=(p U).bind λq=>(f U).bind λd=>(q.1.remd d).map λo2=>.nx (U.set i (.deep (q.2 o2)))
variable{c:Str->Addr}{X:Cx}
theorem LR(hu:X.A.units+64<cLine):MtM X "list.remove" (Eb (Gx c X)):=by
 rintro pins s σ H x xs v us Q I rx rv ⟨Hf,l,vs,ds,z,w,rfl,rfl,s0,q,rs,r2,hany,k⟩;cases rx;obtain⟨u,rfl,ru⟩:=rv.one;obtain⟨z1,its,n,rr,hl,e0⟩:=I.lstM q;obtain⟨f,hf,ha⟩:=tF (A:=X.A.in1) I (by rw[nI];omega) (r2.up s0) ru (rs.up s0) rr hany;obtain⟨k1,k2⟩:=DN hany
 have same:∀(m:Nat) (hm:m<its.length),f its[m]=isE z (ds.getD m .non):=λm hm=>by
  have md:m<ds.length:=by rw[rs.length,hl];exact hm
  obtain⟨v1,ev1,rv1⟩:=rs.get (dk md);obtain⟨u1,eu1,ru1⟩:=rr.get ev1;rw[dk hm]at eu1;cases eu1;obtain⟨_,d',v',r',rv',h'⟩:=hf its[m] (jV hm);have ev:=aF.inj rv' ru1;subst ev;obtain⟨b1,hb1⟩:=k1 ds[m] (jV md);have eb:=tE 19 r' (rv1.up s0) h' hb1;rw[bD,dk md];show _=isE z ds[m];unfold isE;rw[hb1,eb]
  cases b1 <;> rfl
 have hj:ds.findIdx (isE z)<ds.length:=findIdx_lt_length_of_exists (any_eq_true.mp k2);have hj':ds.findIdx (isE z)<its.length:=by rw[<- hl,<- rs.length];exact hj
 refine call_meets F.slot_list_remove ⟨_,e0,rfl⟩ F.entry_list_remove (F.args_list_remove_2 _ _) (HT.remAt l its.toArray n u f (ds.findIdx (isE z)) (by rw[size_toArray];exact hj') ?_ ?_ (by rw[size_toArray];omega)) ⟨e0,λy hy=>(hf y (by simpa using hy)).1,?_⟩
 .rw[List.getElem_toArray,same _ hj',bD,dk hj];exact findIdx_getElem
 .intro m hm hlt;rw[List.getElem_toArray,same m (by rw[size_toArray]at hm;exact hm),bD,dk (lS hlt hj)];have:=not_of_lt_findIdx hlt
  simpa using this
 .refine⟨.non,_,I.lset (its':=its.eraseIdx (ds.findIdx (isE z))) q e0 ?_ (rr.eraseIdx _) ?_,rfl,k⟩
  .show its.toArray.eraseIdxIfInBounds _=(its.eraseIdx _).toArray;rw[eraseIdxIfInBounds_toArray]
  .have:=wa vs (ds.findIdx (isE z));omega
variable{st:Stmt}{i:Nat}{p:Xp}
theorem LU{f:MF1}(h:PS X st (mj (tBM X.K "list" (Eb (Gx c X)) (tDP (Gx c X) i p) (k7 (tD (Gx c X) f) i5)))):DS c X st (tX i p f):=PS.imp h λE σ H q_=>by
 obtain⟨Hf0,H0,Hf,U,o,so,ef,kq⟩:=q_;obtain⟨q,e1,ef⟩:=bf ef;obtain⟨d,e2,ef⟩:=bf ef;obtain⟨o2,e3,ef⟩:=d5 ef;subst ef;obtain⟨ds,e4,e3⟩:=bf (show q.1.items.bind _=_ from e3);split at e3
 .rename_i hany;cases e3;refine⟨Hf0,H0,Hf,U,q.1,q.2,so,e1,λt v fp v1 f1 Hf1 H1 es ev x rt F=>?_⟩;have r1:=F.r;rw[oH e4]at r1;obtain⟨l,us,fs,rfl,ql,rs,ef1⟩:=r1;obtain⟨rd,rfl⟩:=rs.unfz;refine⟨.inl ⟨rfl,_,SqL.of ql⟩,Hf0,H0,Hf1,U,d,so.step x,e2,λw Hf2 H2 x2 r2=>?_⟩;refine⟨Hf2,l,us,ds,d,w,rfl,rfl,x2.s,x2.h _ _ ql,rd.up x2.f,r2,hany,kq σ Hf2 _ (x.trans x2).f ?_⟩;have F2:=F.up x2.f x2.h
  have:=so.foc es ev (rt.up x2.f x2.h) (x.trans x2) F2 (H2:=upd H2 l (.lst (us.eraseIdx (ds.findIdx (isE d))))) (λb u hb hn=>by rw[aK (λz=>hn (by rw[ef1,z];exact aO))];exact hb)
   (o2:=.lst ((ds.eraseIdx (ds.findIdx (isE d))).map .fz)) (f2:=[l]) ⟨l,_,[],rfl,be,OTs.fz ((rd.up x2.f).erase _),rfl⟩ (by rw[<- ef1];exact F2.n) λa ha=>.inl (by rw[ef1];exact ha)
  exact this
 .cases e3
noncomputable def oN(cn f:Str)(m:LD->OLD)(fo:MF1)(fa:MF2)(U:LS):OLD:=(fo U).bind λd=>match d with
 |.ins c' ns ds=>if c'=cn/\ns.contains f=ae then (fa U).bind λas=>(m (.ins c' ns ds::as)).bind λrs=>if rs.all D.flat then aa rs else ac else ac
 | _=>ac
noncomputable def Ec:Fl->Option (LD ⊕ D)
 |.rtO ds=>aa (.inl ds)
 |.rt d=>if d.scalar then aa (.inr d) else ac
 | _=>ac
noncomputable def tY(n:Nat)(F:MF3)(ds:LD):Option (LD ⊕ D):=(F (eS n ds)).bind Ec
def spN(G:Gc)(n:Nat)(m:LD->Option (LD ⊕ D)):Sp:=λvs H Q _=>∃Hf ds r,aw Hf H/\am G Hf ds vs/\ds.length=n/\m ds=aa r/\(∀rs,r=.inl rs->∀l us Hf' H',Ext Hf H Hf' H'->H l=ac->Hf' l=ac->H' l=aa (.lst us)->am G Hf' rs us->Q (.ref l) H') /\
 ∀d,r=.inr d->d.scalar=ab/\∀v Hf' H',Ext Hf H Hf' H'->Rep G Hf' d v->Q v H'
variable{P:cH}{w:World}{K:aX}{mg:MGT}{base:Heap}{x:Str}{f:Addr}{fd:eB}{ps:LSt}{k:Nat}{F:MF3}
theorem LV{n_:Nat}{qual:Str}{N:LSt}(Fn:Fun K x qual st f fd)(S:aM N ps (aD st))
 (h:∀(cdv:Value) (A:cP) (outer:List Env) (s:ai) (H:Hp) (E:XK),bG k (A.deeper (gO qual (aD st) s.heap.objs.size f cdv))->DSs c (i6 CX0 P w K mg base N qual (aD st) f cdv A outer s H E).nox (i7 st) F)(hn_:N.length=n_:=by rfl):
  df P w K mg base CX0 (k+1) f fd ps (spN ⟨K,c⟩ ps.length (tY n_ F)):=by
 subst hn_;refine Fn.ok S (λvs H Q E q_=>by obtain⟨Hf,ds,d,s0,r,hl,_⟩:=q_;rw[<- r.length];exact hl) λcdv A outer s H vs Q E hr q_=>?_;obtain⟨Hf,ds,r,s0,rd,hl,e,k1,k2⟩:=q_;refine⟨_,h cdv A outer s H E hr,?_⟩;unfold tY at e;obtain⟨o,eF,e⟩:=bf e;refine⟨Hf,H,Hf,_,o,av.start s0 rd,eF,?_⟩
 cases o with
 |rtO rs=>cases e;exact k1 rs rfl
 |rt d=>
  replace e:(if d.scalar then aa (jw d) else ac)=aa r:=e;split at e
  .cases e;exact(k2 d rfl).2
  .cases e
 | _=>cases e
noncomputable def qy(m:LD->Option (LD ⊕ D))(f:MF2)(U:LS):OD:=(f U).bind λds=>(m ds).bind λr=>match r with
 |.inl rs=>if rs.all D.flat then aa (.lst rs) else ac
 |.inr d=>if d.scalar then aa d else ac
variable{e:Expr}{es:LEx}{p pos:Pos}{fa:MF2}{k0:Nat}
theorem LW{m:LD->Option (LD ⊕ D)}(pk:Pk X.prog X.w X.K X.mg X.base CX0 k x (f,fd) ps (spN (Gx c X) ps.length m))(hr0:bG k0 X.A)(ha:DAB c X (e::es) fa)(hl:(e::es).length=ps.length:=by rfl)(hdb:NDb x:=by decide)(he:StE X e es:=by rfl)(hpl:BkE X pos es:=by rfl)(hk0:k<=k0:=by decide)(hg:Gl X x:=by first |rfl |exact glc rfl):
  DE c X (.Call (.Name x p) (e::es) [] pos) (qy m fa):=PE.imp (pN pk.ok (hr0.mono hk0) hg pk.g pk.kp pk.b .nil ib ha.pa hdb he hpl) λσ H Q q_=>by
 obtain⟨Hf0,H0,Hf,U,d,st,ef,kq⟩:=q_;unfold qy at ef;obtain⟨ds,e1,ef⟩:=bf ef;obtain⟨r,e2,ef⟩:=bf ef;refine⟨Hf0,H0,Hf,U,ds,st,e1,λvs Hf' H' x rv=>?_⟩;dsimp only;rw[cr];refine⟨H',ds,r,aw.refl _,rv,(ha.len U ds e1).trans hl,e2,λrs er l us Hf2 H2 x2 hn hf hl' r2=>?_,λd' er=>?_⟩
 .subst er;replace ef:(if rs.all D.flat then aa (D.lst rs) else ac)=aa d:=ef;split at ef
  .rename_i hs;cases ef;have hl2:je Hf' H2 l=ac:=by rw[qj (λvs q=>by rw[hl']at q;cases q)];exact x.s.free hn
   have x3:=x.trans (xA x.s x2.h);exact kq _ (upd (je Hf' H2) l (.lst us)) H2 (x3.fix (x.h.free hn) hl2 hl') ⟨l,us,rfl,be,((r2.up x2.s).flat hs).up (bR hl2)⟩
  .cases ef
 .subst er;replace ef:(if d'.scalar then aa d' else ac)=aa d:=ef;split at ef
  .rename_i hs;cases ef;exact⟨hs,λv Hf2 H2 x2 r2=>kq v Hf' H2 (x.trans (Ext.grow x.s x2.h)) (r2.sc hs)⟩
  .cases ef
variable{fl:Str}{apos:Pos}{fo:MF1}
section
variable{o:Expr}
theorem Ed{m:LD->OLD}{pl:Sem Bool}(cn:Str)(ho:DB c X o fo)(pk:Pm X.prog X.w X.K X.mg X.base CX0 k (c cn) fl (f,fd) ps (spO (Gx c X) ps.length m))(hr0:bG k0 X.A)(ha:DAB c X (e::es) fa)(hl:(e::es).length+1=ps.length:=by rfl)(hst:StE X e es:=by rfl)(hpl:BkE X pos es:=by rfl)(ht:eval (.Call (.Attribute o fl apos) (e::es) [] pos) X.env=(do
   let ov <- eval o X.env
   iw apos.atName
   let (f,first) <- fG [ov] (jt ov fl pl)
   kU pos f first (c4 pos (ba (e::es) X.env)) (ju pos (jr [] X.env))):=by rfl)(hk0:k<=k0:=by decide):
  DO c X (.Call (.Attribute o fl apos) (e::es) [] pos) (oN cn fl m fo fa):=PE.imp (vW ho pk.c pk.m pk.ok (hr0.mono hk0) pk.b .nil ib ha.pa hst hpl ht) λσ H Q q_=>by
 obtain⟨Hf0,H0,Hf,U,rs,st,ef,kq⟩:=q_;unfold oN at ef;obtain⟨d,e1,eg⟩:=bf ef;clear ef
 cases d with
 |ins c' ns ds=>
  have ef:(if c'=cn/\ns.contains fl=ae then (fa U).bind λas=>(m (.ins c' ns ds::as)).bind λrs=>if rs.all D.flat then aa rs else ac else ac)=aa rs:=eg;clear eg;split at ef
  .rename_i hcc;obtain⟨hc1,hno⟩:=hcc;subst hc1;obtain⟨as,e2,eg⟩:=bf ef;clear ef;obtain⟨rs',e3,ef⟩:=bf eg;clear eg;split at ef
   .rename_i hs;cases ef;refine⟨Hf0,H0,Hf,U,_,st,e1,λv Hf1 H1 x1 r=>?_⟩;obtain⟨a,dx,vs,ev,q,hlen,rr⟩:=id r;subst ev;refine⟨a,dx,ns.zip vs,rfl,q,oq hno,Hf0,H0,Hf1,U,as,st.step x1,e2,λws Hf2 H2 x2 r2=>?_⟩
    try dsimp only
    rw[cr];have x:=x1.trans x2;refine⟨H2,.ins c' ns ds::as,_,aw.refl _,.cons (r.up x2.h) r2,by rw[b9,ha.len U as e2];exact hl,e3,λl us Hf3 H3 x3 hn hf hl' r3=>?_⟩;exact kq l us (je Hf2 H3) H3 (x.trans (xA x.s x3.h)) (x.h.free hn) (by rw[qj (λvs q=>by rw[hl']at q;cases q)];exact x.s.free hn) hl' ((r3.up x3.s).flat hs)
   .cases ef
  .cases ef
 | _=>cases eg
end
noncomputable def lD(w pr k:Nat)(js:LN)(g:D->LS->Option LS)(ft:MF4)(fe:MF1):LD->LS->LD->Option (LS×LD)
 | [],U,L=>aa (U,L)
 |b::bs,U,L=>if L.length<=16777216 then (fm (fJ g ft fe (dZ k js ((U.set pr (.im b)).set w .no))) L).bind λL'=>lD w pr k js g ft fe bs (U.set pr (.im b)) L' else ac
noncomputable def oO(w pr:Nat)(ft0:MF4)(fg fb:MF2)(k:Nat)(js:LN)(g:D->LS->Option LS)(ft:MF4)(fe:MF1)(U:LS):Option Fl:=
 (ft0 U).bind λb=>(fb (U.set w .no)).bind λbs=>if b=!bs.isEmpty then (if b then fg U else aa []).bind λL0=>(lD w pr k js g ft fe bs U L0).map λp=>.nx (p.1.set w (.own p.2)) else ac
variable{G:Gc}{Hf0 H0 Hf H:Hp}{σ:St}{U:LS}{v:V}
theorem av.setAny(h:av G Hf0 H0 Hf H σ U):av G Hf0 H0 Hf H (σ.set i (aa v)) (U.set i .no):=h.setNew (Ext.refl h.sub) (s:=.no) trivial λa p=>(p.calm rfl).elim
variable{w pr:Nat}{js:LN}{fb:MF2}{g:D->LS->Option LS}{ft:MF4}{fe:MF1}{ρ1:LS}
theorem Ee(hG:G.K=X.K)(hj:js.Nodup)(hk:∀d U ρ' i,g d U=aa ρ'->k<=i->ρ'[i]?=U[i]?)(hlen:∀d U ρ',g d U=aa ρ'->ρ'.length=U.length)(hpw:pr≠w){bs L0 L1:LD}{E:jx}{a0:Addr}{vs0:List V}
 (st:av G Hf0 H0 Hf H σ (U.set w .no))(hw:w<U.length)(ew:σ[w]?=aa (aa (.ref a0)))(ha:H a0=aa (.lst vs0))(r0:am G Hf L0 vs0)(hb:fb (U.set w .no)=aa bs)(fr:bs=[]->av G Hf0 H0 Hf H σ (U.set w (.own L0)))
 (el:lD w pr k js g ft fe bs U L0=aa (ρ1,L1))(kq:∀σ' Hf' H',aw Hf Hf'->av G Hf0 H0 Hf' H' σ' (ρ1.set w (.own L1))->E.nx σ' H'):
  vN (tDI G fb) (gU pr) (iF (nW k js (vL X.K (dq w)) (tDG G g) (tDT G ft) (tD G fe)) (gU w)) E σ H:=by
 refine⟨Hf0,H0,Hf,_,bs,st,hb,λJ Hf1 H1 x1 it=>?_⟩
 refine⟨λi m σ' H'=>m=bs.length-i/\i<=bs.length/\∃Hf' ρ' L a vs,av G Hf0 H0 Hf' H' σ' (ρ'.set w .no)/\w<ρ'.length/\σ'[w]?=aa (aa (.ref a))/\H' a=aa (.lst vs)/\am G Hf' L vs/\aw Hf1 Hf'/\lD w pr k js g ft fe (bs.drop i) ρ' L=aa (ρ1,L1)/\(i=bs.length->av G Hf0 H0 Hf' H' σ' (ρ'.set w (.own L))),
  ⟨bs.length,rfl,da _,Hf1,U,L0,a0,vs0,st.step x1,hw,ew,x1.h _ _ ha,r0.up x1.f,aw.refl _,el,λe=>(fr (o8.mp e.symm)).step x1⟩,?_⟩
 rintro i m σ' H' ⟨rfl,hi,Hf',ρ',L,a,vs,st',hw',ew',ha',r',s1,el',own⟩;obtain⟨it1,it2⟩:=it Hf' H' s1 st'.sub i
 by_cases hlt:i<bs.length
 .obtain⟨d,ed,edr⟩:=wN hlt;obtain⟨go,yl⟩:=it1 d ed;rw[edr]at el';unfold lD at el';split at el'
  .rename_i hz;obtain⟨L',ec,el2⟩:=bf el';refine .inr ⟨go,λσ2 H2=>bs.length-(i+1)=bs.length-(i+1)/\i+1<=bs.length/\∃Hf' ρ' L a vs,av G Hf0 H0 Hf' H2 σ2 (ρ'.set w .no)/\w<ρ'.length/\σ2[w]?=aa (aa (.ref a))/\H2 a=aa (.lst vs)/\am G Hf' L vs/\aw Hf1 Hf'/\lD w pr k js g ft fe (bs.drop (i+1)) ρ' L=aa (ρ1,L1)/\(i+1=bs.length->av G Hf0 H0 Hf' H2 σ2 (ρ'.set w (.own L))),λσ2 H2 z=>⟨bs.length-(i+1),by omega,z⟩,λx H2 y=>?_⟩;obtain⟨Hf2,x2,rx⟩:=yl x H2 y
   have st2:av G Hf0 H0 Hf2 H2 (σ'.set pr (aa x)) ((ρ'.set pr (.im d)).set w .no):=by
    have:=(st'.step x2).setIm (i:=pr) (d:=d) rx;rw[set_comm _ _ hpw.symm]at this;exact this
   have ew2:(σ'.set pr (aa x))[w]?=aa (aa (.ref a)):=by rw[iV hpw];exact ew'
   refine CA hj hk hlen st2 (ds:=L) (λR q=>⟨.ref a,ew2,a,rfl,⟨vs,SqL.of (x2.h _ _ ha')⟩,?_⟩) hz ec λl us Hf3 H3 x3 hn hf hl rl=>?_
   .have:=q (Itl G.K a) Hf2 H2 (Ext.refl st2.sub) (Cz (SqL.of (x2.h _ _ ha')) (r'.up x2.f));rw[hG]at this;exact this
   .have st3:=st2.setOwn (i:=w) (l:=l) (s:=.own L') rfl x3 hn hf ⟨us,hl,rl⟩;rw[set_set]at st3;have hsl:w<(σ'.set pr (aa x)).length:=by rw[gj];exact(dH.mp ew').1
    refine⟨rfl,hlt,Hf3,ρ'.set pr (.im d),L',l,us,?_,by rw[gj];exact hw',ir hsl,hl,rl,(s1.trans x2.f).trans x3.f,el2,λ_=>st3⟩;have:=st3.setNo (i:=w);rw[set_set]at this;exact this
  .cases el'
 .have ei:i=bs.length:=by omega
  subst ei;rw[drop_eq_nil_of_le (aL _)]at el';cases el';exact .inl ⟨it2 rfl,kq σ' Hf' H' (x1.f.trans s1) (own rfl)⟩
variable{fg:MF2}{ft0:MF4}
theorem LX{s1 s2:Stmt}{rest:List Stmt}(hj:js.Nodup)(hk:∀d U ρ' i,g d U=aa ρ'->k<=i->ρ'[i]?=U[i]?)(hlen:∀d U ρ',g d U=aa ρ'->ρ'.length=U.length)(hpw:pr≠w)
 (h1:PS X s1 (iF (tIf (tDT (Gx c X) ft0) (tDL (Gx c X) fg) (vU i5)) (gU w)))(h2:PS X s2 (vN (tDI (Gx c X) fb) (gU pr) (iF (nW k js (vL X.K (dq w)) (tDG (Gx c X) g) (tDT (Gx c X) ft) (tD (Gx c X) fe)) (gU w))))(hr:DSs c X rest F):
  DSs c X (s1::s2::rest) (λU=>if w<U.length then ar (oO w pr ft0 fg fb k js g ft fe) F U else ac):=PSs.imp (rX h1 (rX h2 hr)) λE σ H q_=>by
 obtain⟨Hf0,H0,Hf,U,o,so,ef,kq⟩:=q_;dsimp only at ef;split at ef
 .rename_i hw;obtain⟨r,e1,ef⟩:=bf (show(oO w pr ft0 fg fb k js g ft fe U).bind _=_ from ef);unfold oO at e1;obtain⟨b,e2,e1⟩:=bf e1;obtain⟨bs,e3,e1⟩:=bf e1;split at e1
  .rename_i hb;obtain⟨L0,e4,e1⟩:=bf e1;obtain⟨p,e5,e1⟩:=d5 e1;subst e1;replace ef:F (p.1.set w (.own p.2))=aa o:=ef;refine⟨Hf0,H0,Hf,U,b,so,e2,λHf1 H1 x1=>?_⟩;have hws:w<σ.length:=by rw[so.len];exact hw
   have fin:∀{Hf2:Hp},aw Hf Hf2->∀σ' Hf' H',aw Hf2 Hf'->av (Gx c X) Hf0 H0 Hf' H' σ' (p.1.set w (.own p.2))->tDS (Gx c X) F E σ' H':=λs0 σ' Hf' H' s1 so'=>⟨Hf0,H0,Hf',_,o,so',ef,by
    cases o with
    |nx U=>exact λσ2 Hf3 H3 s2 so2=>kq σ2 Hf3 H3 ((s0.trans s1).trans s2) so2
    |bk U=>exact λσ2 Hf3 H3 s2 so2=>kq σ2 Hf3 H3 ((s0.trans s1).trans s2) so2
    |ct U=>exact λσ2 Hf3 H3 s2 so2=>kq σ2 Hf3 H3 ((s0.trans s1).trans s2) so2
    |rt d=>exact kq
    |rtO d=>exact kq
    |rtS d U=>exact kq
    |rtT t=>exact kq⟩
   cases b with
   |true=>
    refine wf ?_;rw[if_pos rfl]at e4;refine⟨Hf0,H0,Hf1,U,L0,so.step x1,e4,λa vs Hf2 H2 x2 ha r=>?_⟩
    refine Ee (E:={E with nx:=tDS (Gx c X) F E}) rfl hj hk hlen hpw ((so.step x1).step x2).setAny hw (ir hws) ha r e3 (λz=>by rw[z]at hb;cases hb) e5 (λσ' Hf' H' s1 so'=>fin (x1.f.trans x2.f) σ' Hf' H' s1 so')
   |false=>
    refine we ?_;rw[if_neg bd]at e4;cases e4;refine⟨da _,λl hl=>?_⟩;have x2:Ext Hf1 H1 Hf1 (upd H1 l (.lst [])):=Ext.tmp x1.s hl;have so2:=(so.step x1).setOwn (i:=w) (l:=l) (s:=.own []) rfl x2 hl (x1.s.free hl) ⟨[],be,.nil⟩;have so3:=so2.setNo (i:=w);rw[set_set]at so3
    exact Ee (E:={E with nx:=tDS (Gx c X) F E}) rfl hj hk hlen hpw so3 hw (ir hws) be .nil e3 (λ_=>so2) e5 (λσ' Hf' H' s1 so'=>fin x1.f σ' Hf' H' s1 so')
  .cases e1
 .cases ef
theorem LY(h:i<k):∀d (U ρ':LS) j,az i d U=aa ρ'->k<=j->ρ'[j]?=U[j]?:=λd U ρ' j e hj=>by cases e;exact iV (by omega)
theorem LZ:∀d (U ρ':LS),az i d U=aa ρ'->ρ'.length=U.length:=λd U ρ' e=>by cases e;exact gj
variable{o1:O}{R:O->O}
theorem L4(so:av G Hf0 H0 Hf H σ U)(h:aZ i U=aa (o1,R)):∃o v fp,U[i]?=aa (.deep o)/\σ[i]?=aa (aa v)/\OT G Hf H o v fp/\fp.Nodup/\(∀a∈fp,H0 a=ac/\Hf a=ac)/\Foc G Hf H o v fp o1 v fp R:=by
 have main:∀o,U[i]?=aa (.deep o)->(∀v fp,OT G Hf H o v fp->fp.Nodup->Foc G Hf H o v fp o1 v fp R)->∃o v fp,U[i]?=aa (.deep o)/\σ[i]?=aa (aa v)/\OT G Hf H o v fp/\fp.Nodup/\(∀a∈fp,H0 a=ac/\Hf a=ac)/\Foc G Hf H o v fp o1 v fp R:=λo es F=>by
  obtain⟨v,e1,u,fp,e2,r,n,z⟩:=so.slot es;subst e2;exact⟨o,u,fp,es,e1,r,n,z,F u fp r n⟩
 unfold aZ at h;split at h
 .rename_i l o es;cases h;exact main _ es λv fp r n=>Foc.at r n
 .rename_i o _ es;cases h;exact main _ es λv fp r n=>Foc.refl r n
 .cases h
theorem L5{cn f:Str}(so:av G Hf0 H0 Hf H σ U)(h:bu cn f (aZ i) U=aa (o1,R)):∃o v fp v1 f1,U[i]?=aa (.deep o)/\σ[i]?=aa (aa v)/\OT G Hf H o v fp/\fp.Nodup/\(∀a∈fp,H0 a=ac/\Hf a=ac)/\Foc G Hf H o v fp o1 v1 f1 R:=by
 obtain⟨q,e1,h⟩:=bf h;obtain⟨r,e2,h⟩:=d5 h;cases h;obtain⟨o,v,fp,es,ev,rt,n,z,F⟩:=L4 so e1;obtain⟨a,dx,ns,vs,v2,f2,_,_,_,F2⟩:=F.fld e2;exact⟨o,v,fp,v2,f2,es,ev,rt,n,z,F2⟩
variable{ds:LD}{l:Addr}
theorem av.focFix{o:O}{fp:LAd}{vs:List V}(so:av G Hf0 H0 Hf H σ U)(es:U[i]?=aa (.deep o))(ev:σ[i]?=aa (aa v))(r:OT G Hf H o v fp)(n:fp.Nodup)(z:∀a∈fp,H0 a=ac/\Hf a=ac)(F:Foc G Hf H o v fp (.lst (ds.map .fz)) (.ref l) [l] R)(ql:H l=aa (.lst vs))(rd:am G Hf ds vs):
  av G Hf0 H0 (upd Hf l (.lst vs)) H σ (U.set i (.deep (R (.fz (.lst ds))))):=by
 have lf:l∈fp:=F.sub l aO;have hf:=(z l lf).2;have su:aw Hf (upd Hf l (.lst vs)):=bR hf;obtain⟨fp',r',mem,nd⟩:=F.back (upd Hf l (.lst vs)) H (.fz (.lst ds)) [] su (λb u e _=>e) ⟨⟨l,vs,rfl,be,rd.up su⟩,rfl⟩;have nn:=nd fR λa ha=>nomatch ha
 have old:∀a∈fp',a∈fp/\a≠l:=λa ha=>by
  rcases mem a ha with y |⟨y,y'⟩
  .exact nomatch y
  .exact⟨y,λe=>y' (by rw[e];exact aO)⟩
 have nl:∀(j:Nat) (t:Sl) (w:V),j≠i->U[j]?=aa t->σ[j]?=aa (aa w)->Holds G Hf H t w l->False:=λj t w hj b cc p=>hj (so.dj j i t _ w v l b es cc ev p ⟨fp,r,lf⟩);refine so.re (so.ext.fix (z l lf).1 hf ql) (by simp) (λj u t a b=>?_) λj t w a b cc p=>?_
 .rcases cx b with⟨e,e',_⟩ |⟨en,b⟩
  .subst e e';rw[ev]at a;cases a;exact⟨v,fp',rfl,r',nn,λx hx=>⟨(z x (old x hx).1).1,by rw[aK (old x hx).2];exact(z x (old x hx).1).2⟩⟩
  .have q:=so.at' j u t a b
   cases ht:t.isOwn with
   |false=>
    cases t with
    |no=>trivial
    |im d=>obtain⟨u',e1,r2⟩:=q;exact⟨u',e1,r2.up su⟩
    |val u'=>exact q
    |deep o'=>
     obtain⟨w,gp,e1,r2,n2,z2⟩:=q;subst e1;refine⟨w,gp,rfl,r2.up su (aw.refl _),n2,λx hx=>⟨(z2 x hx).1,?_⟩⟩;rw[aK (λy=>nl j _ w en b a ⟨gp,r2,by rw[<- y];exact hx⟩)]
     exact(z2 x hx).2
    | _=>cases ht
   |true=>
    obtain⟨l2,e2,e3,e4,q2⟩:=q.own ht;subst e2;refine .ofOwn ht ⟨l2,rfl,e3,?_,q2.up su λo' ho'=>ho'⟩;rw[aK (λy=>nl j t _ en b a ((Holds.own ht).mpr (by rw[y])))];exact e4
 .rcases cx b with⟨e,e',_⟩ |⟨_,b⟩
  .subst e e';rw[ev]at cc;cases cc;obtain⟨g,r2,ha⟩:=p;have:=OT.funM _ _ _ _ r' r2;subst this;exact⟨_,es,⟨fp,r,(old a ha).1⟩⟩
  .exact⟨t,b,(so.at' j _ t cc b).back (λo fp _ r=>r.up su (aw.refl _)) p⟩
noncomputable def tZ(i:Nat)(cn f:Str)(F:MF3)(U:LS):Option Fl:=(bu cn f (aZ i) U).bind λq=>q.1.items.bind λds=>F (U.set i (.deep (q.2 (.fz (.lst ds)))))
noncomputable def t4(i j:Nat)(cn f:Str)(U:LS):Option Fl:=(bu cn f (aZ i) U).bind λq=>q.1.items.bind λds=>if i=j then ac else aa (.nx ((U.set i (.deep (q.2 .any))).set j (.own ds)))
theorem L6(i:Nat)(cn f:Str)(h:DS c X st F):DS c X st (tZ i cn f F):=PS.imp h λE σ H q_=>by
 obtain⟨Hf0,H0,Hf,U,o,so,ef,k⟩:=q_;obtain⟨q,e1,ef⟩:=bf ef;obtain⟨ds,e2,ef⟩:=bf ef;obtain⟨t,v,fp,v1,f1,es,ev,rt,n,z,F1⟩:=L5 so (o1:=q.1) (R:=q.2) e1;rw[oH e2]at F1;obtain⟨l,vs,fs,rfl,ql,rs,rfl⟩:=id F1.r;obtain⟨rd,rfl⟩:=rs.unfz;exact⟨Hf0,H0,_,_,o,so.focFix es ev rt n z F1 ql rd,ef,k.up (bR (z l (F1.sub l aO)).2)⟩
variable{j:Nat}
theorem L7{cn f:Str}(h:PS X st (iF (tDP (Gx c X) i (bu cn f (aZ i))) (gU j))):DS c X st (t4 i j cn f):=PS.imp h λE σ H q_=>by
 obtain⟨Hf0,H0,Hf,U,o,so,ef,kq⟩:=q_;obtain⟨q,e1,ef⟩:=bf ef;obtain⟨ds,e2,ef⟩:=bf ef;split at ef
 .cases ef
 .rename_i hij;cases ef;refine⟨Hf0,H0,Hf,U,q.1,q.2,so,e1,λt v fp v1 f1 Hf1 H1 es ev x rt F1=>?_⟩;rw[oH e2]at F1;obtain⟨l,vs,fs,rfl,ql,rs,rfl⟩:=id F1.r;obtain⟨rd,rfl⟩:=rs.unfz;have so1:=so.step x;have s1:av (Gx c X) Hf0 H0 Hf1 H1 σ (U.set i (.deep (q.2 .any))):=so.foc es ev rt x F1 (λb u e _=>e) (o2:=.any) (f2:=[]) rfl fR λa ha=>nomatch ha;obtain⟨fp',r',mem,nd⟩:=F1.back Hf1 H1 .any [] (aw.refl _) (λb u e _=>e) rfl;obtain⟨v0,fp0,e3,r0,n0,z0⟩:=so1.at' i _ _ ev es;cases e3;have:=OT.funM t v fp fp0 rt r0;subst this;have lf:l∈fp:=F1.sub l aO;have s2:=s1.setAny (i:=j) (v:=.ref l);have hjl:j<σ.length\/¬j<σ.length:=Nat.lt_or_ge j σ.length |>.imp id Nat.not_lt.mpr;refine kq _ Hf1 H1 x.f ?_
  rcases hjl with hj |hj
  .have hjr:j<(U.set i (.deep (q.2 .any))).length:=by rw[gj,<- so.len];exact hj
   have s3:=s2.chg (i:=j) (s:=.no) (s':=.own ds) (v:=.ref l) (ir hjr) (ir hj) (H':=H1) (λb u e=>.inr e) ⟨l,rfl,(z0 l lf).1,(z0 l lf).2,vs,ql,rd⟩ λa p=>.inr λk t' w b cc p'=>?_
   .rw[set_set]at s3;exact s3
   .have ea:a=l:=by have:=(Holds.own (s:=Sl.own ds) rfl).mp p;cases this;rfl
    subst ea
    rcases cx b with⟨_,e',_⟩ |⟨en,b⟩
    .subst e';exact p'.calm rfl
    .rcases cx cc with⟨e',_⟩ |⟨_,cc⟩
     .exact en e'
     .rcases cx b with⟨e,e',_⟩ |⟨en2,b⟩
      .subst e e';rw[ev]at cc;cases cc;obtain⟨g,r2,hg⟩:=p';have:=OT.funM _ _ _ _ r' r2;subst this
       rcases mem a hg with y |⟨_,y⟩
       .exact nomatch y
       .exact y aO
      .exact en2 (so1.dj k i t' _ w v a b es cc ev p' ⟨fp,rt,lf⟩)
  .have e1:σ.set j (aa (.ref l))=σ:=set_eq_of_length_le (by omega);have e2:(U.set i (.deep (q.2 .any))).set j (.own ds)=U.set i (.deep (q.2 .any)):=set_eq_of_length_le (by rw[gj,<- so.len];omega);rw[e1,e2];exact s1
end L2
namespace N_k37
open List
open PySem PySem.Spec PyProof.Rows L2
local macro_rules | `(tactic| walk_at "sc")=>`(tactic| exact ⟨rfl,rfl,rfl,by decide +kernel,rfl,by decide +kernel,by decide +kernel⟩)
noncomputable def top(i:Nat):Stmt:=PySem.Challenge.pw_standstill_k37_whole_no_world_lost.main.body.getD i (.Pass ⟨0,0,0,0⟩)
noncomputable abbrev s_5:=top 2
noncomputable abbrev xT:=top 9
noncomputable abbrev xU:=top 10
noncomputable abbrev xV:=top 11
noncomputable abbrev xX:=top 12
noncomputable abbrev xY:=top 13
noncomputable abbrev xZ:=top 14
noncomputable abbrev x6:=top 15
noncomputable abbrev s_1:=top 17
noncomputable abbrev x8:=top 18
noncomputable abbrev x9:=top 20
noncomputable abbrev ya:=top 21
noncomputable abbrev yb:=top 22
noncomputable abbrev yc:=top 25
noncomputable abbrev yd:=top 27
noncomputable abbrev s_2:=top 28
noncomputable abbrev yf:=top 29
noncomputable abbrev yg:=top 30
noncomputable abbrev yh:=top 31
noncomputable abbrev s_9:=top 32
noncomputable abbrev s_6:=top 33
noncomputable abbrev yi:=top 34
noncomputable abbrev yj:=top 35
noncomputable abbrev ym:=top 36
noncomputable abbrev yn:=top 37
noncomputable abbrev yo:=top 38
noncomputable abbrev yp:=top 39
noncomputable abbrev s_7:=top 40
noncomputable abbrev yq:=top 41
noncomputable abbrev yr:=top 42
noncomputable abbrev yt:=top 43
noncomputable abbrev s_0:=top 44
noncomputable abbrev yu:=b4 (top 5) 0
noncomputable abbrev yv:=b4 (top 5) 2
noncomputable abbrev yw:=b4 (top 5) 3
noncomputable abbrev yx:=b4 (top 5) 5
noncomputable abbrev yy:=b4 (top 5) 7
noncomputable abbrev yA:=b4 (top 5) 8
noncomputable abbrev yB:=b4 (top 6) 0
noncomputable abbrev yC:=b4 (top 6) 2
noncomputable abbrev yD:=b4 (top 6) 3
noncomputable abbrev yE:=b4 (top 6) 5
noncomputable abbrev yF:=b4 (top 6) 7
noncomputable abbrev yG:=b4 (top 6) 8
noncomputable abbrev yH:=b4 (top 7) 0
noncomputable abbrev yI:=b4 (top 7) 2
noncomputable abbrev yJ:=b4 (top 7) 3
noncomputable abbrev yK:=b4 (top 7) 5
noncomputable abbrev yL:=b4 (top 7) 7
noncomputable abbrev yM:=b4 (top 7) 8
noncomputable abbrev yN:=b4 (top 8) 0
noncomputable abbrev yO:=b4 (top 8) 2
noncomputable abbrev yP:=b4 (top 8) 3
noncomputable abbrev yQ:=b4 (top 8) 5
noncomputable abbrev yR:=b4 (top 8) 7
noncomputable abbrev yS:=b4 (top 8) 8
noncomputable abbrev s_8:=b4 (top 23) 0
noncomputable abbrev yT:=b4 (top 23) 1
noncomputable abbrev yU:=b4 (top 23) 2
noncomputable abbrev yV:=b4 (top 23) 3
noncomputable abbrev yW:=b4 (top 23) 4
noncomputable abbrev yX:=b4 (top 23) 6
noncomputable abbrev yY:=b4 (top 23) 7
noncomputable abbrev yZ:=b4 (top 23) 8
noncomputable abbrev s_4:=b4 (top 23) 9
noncomputable abbrev s_3:=b4 (top 23) 10
noncomputable abbrev y3:=b4 (top 23) 11
noncomputable abbrev y4:=b4 (top 23) 12
theorem y6:aM ["many","some","listed","thing"] ["many","some"] (aD s_5):=by walk_at "sc"
theorem Ef:aM ["told","word"] ["told"] (aD xT):=by walk_at "sc"
theorem L8:aM ["items"] ["items"] (aD xU):=by walk_at "sc"
theorem L9:aM ["items","entries"] ["items","entries"] (aD xV):=by walk_at "sc"
theorem Ma:aM ["items","sheet"] ["items","sheet"] (aD xX):=by walk_at "sc"
theorem Mb:aM ["items","without"] ["items","without"] (aD xY):=by walk_at "sc"
theorem Eg:aM ["items","sheet","lack","weights"] ["items","sheet","lack"] (aD xZ):=by walk_at "sc"
theorem t5:aM ["items","weights","thing","worth"] ["items"] (aD x6):=by walk_at "sc"
theorem Eh:aM ["rule"] ["rule"] (aD s_1):=by walk_at "sc"
theorem Ei:aM ["rule","guard"] ["rule"] (aD x8):=by walk_at "sc"
theorem Mc:aM ["bar"] ["bar"] (aD x9):=by walk_at "sc"
theorem qz:aM ["guard","sheet","pairs","part","tips"] ["guard","sheet"] (aD ya):=by walk_at "sc"
theorem Ej:aM ["body","sheet","without","part"] ["body","sheet","without"] (aD yb):=by walk_at "sc"
theorem t6:aM ["plain","bars","sheet","spreading","why","steps"] ["plain","bars","sheet"] (aD yc):=by walk_at "sc"
theorem Md:aM ["_law_script","_law_k"] ["_law_script","_law_k"] (aD yd):=by walk_at "sc"
theorem qA:aM ["_law_cell","_law_many","_law_found","_law_number","_law_k"] ["_law_cell","_law_many"] (aD s_2):=by walk_at "sc"
theorem Mf:aM ["_law_x"] ["_law_x"] (aD yf):=by walk_at "sc"
theorem t7:aM ["_law_xs","_law_many","_law_word","_law_items","_law_near"] ["_law_xs","_law_many"] (aD yg):=by walk_at "sc"
theorem y7:aM ["_law_cell","_law_many","_law_calm","_law_xs","_law_parts"] ["_law_cell","_law_many","_law_calm"] (aD yh):=by walk_at "sc"
theorem qB:aM ["_law_kind","_law_many","_law_rules","_law_k","_law_on","_law_part_here"] ["_law_kind","_law_many"] (aD s_9):=by walk_at "sc"
theorem lE:aM ["_law_rules","_law_found","_law_word","_law_head","_law_parts","_law_mine","_law_part_here"] ["_law_rules"] (aD s_6):=by walk_at "sc"
theorem Mg:aM ["_law_part_here","_law_sheet_here"] ["_law_part_here","_law_sheet_here"] (aD yi):=by walk_at "sc"
theorem Mh:aM ["_law_rule_here","_law_sheet_here"] ["_law_rule_here","_law_sheet_here"] (aD yj):=by walk_at "sc"
theorem Mi:aM ["_law_sheet_here","_law_bar_here"] ["_law_sheet_here","_law_bar_here"] (aD ym):=by walk_at "sc"
theorem Ek:aM ["_law_cell","_law_many","_law_xs"] ["_law_cell","_law_many"] (aD yn):=by walk_at "sc"
theorem El:aM ["_law_cell","_law_many","_law_xs"] ["_law_cell","_law_many"] (aD yo):=by walk_at "sc"
theorem Mj:aM ["_law_part_here","_law_rising","_law_held"] ["_law_part_here","_law_rising","_law_held"] (aD yp):=by walk_at "sc"
theorem oP:aM ["_law_rules","_law_held","_law_rising","_law_turn","_law_word","_law_head","_law_parts"] ["_law_rules","_law_held"] (aD s_7):=by walk_at "sc"
theorem t8:aM ["_law_many","_law_rows","_law_k"] ["_law_many"] (aD yq):=by walk_at "sc"
theorem Ml:aM ["_law_held","_law_sheet_here"] ["_law_held","_law_sheet_here"] (aD yr):=by walk_at "sc"
theorem y8:aM ["_law_rules","_law_bars","_law_sheet_here","_law_found","_law_held"] ["_law_rules","_law_bars","_law_sheet_here"] (aD yt):=by walk_at "sc"
theorem jL:aM ["_law_script","_law_hs","_law_many","_law_rules","_law_cell","_law_sheet_here","_law_bars","_law_handed","_law_found","_law_some"] ["_law_script"] (aD s_0):=by walk_at "sc"
theorem Mm:aM ["self","thing"] ["self","thing"] (aD yu):=by walk_at "sc"
theorem Mn:aM ["self"] ["self"] (aD yv):=by walk_at "sc"
theorem Mo:aM ["self"] ["self"] (aD yw):=by walk_at "sc"
theorem Mp:aM ["self","sheet"] ["self","sheet"] (aD yx):=by walk_at "sc"
theorem Mq:aM ["self","sheet"] ["self","sheet"] (aD yy):=by walk_at "sc"
theorem Mr:aM ["self","sheet","without"] ["self","sheet","without"] (aD yA):=by walk_at "sc"
theorem Ms:aM ["self","thing"] ["self","thing"] (aD yB):=by walk_at "sc"
theorem Mt:aM ["self"] ["self"] (aD yC):=by walk_at "sc"
theorem Mu:aM ["self"] ["self"] (aD yD):=by walk_at "sc"
theorem Mv:aM ["self","sheet"] ["self","sheet"] (aD yE):=by walk_at "sc"
theorem Mw:aM ["self","sheet"] ["self","sheet"] (aD yF):=by walk_at "sc"
theorem Mx:aM ["self","sheet","without"] ["self","sheet","without"] (aD yG):=by walk_at "sc"
theorem My:aM ["self","bound","items"] ["self","bound","items"] (aD yH):=by walk_at "sc"
theorem Mz:aM ["self"] ["self"] (aD yI):=by walk_at "sc"
theorem MA:aM ["self"] ["self"] (aD yJ):=by walk_at "sc"
theorem MB:aM ["self","sheet"] ["self","sheet"] (aD yK):=by walk_at "sc"
theorem Em:aM ["self","sheet","lack"] ["self","sheet"] (aD yL):=by walk_at "sc"
theorem MC:aM ["self","sheet","without"] ["self","sheet","without"] (aD yM):=by walk_at "sc"
theorem MD:aM ["self","bound","items"] ["self","bound","items"] (aD yN):=by walk_at "sc"
theorem ME:aM ["self"] ["self"] (aD yO):=by walk_at "sc"
theorem MF:aM ["self"] ["self"] (aD yP):=by walk_at "sc"
theorem MG:aM ["self","sheet"] ["self","sheet"] (aD yQ):=by walk_at "sc"
theorem En:aM ["self","sheet","lack"] ["self","sheet"] (aD yR):=by walk_at "sc"
theorem MH:aM ["self","sheet","without"] ["self","sheet","without"] (aD yS):=by walk_at "sc"
theorem t9:aM ["self","plain","bars","sheet","rule","number","bar"] ["self","plain","bars","sheet"] (aD s_8):=by walk_at "sc"
theorem y9:aM ["self","why","guard","part","thing"] ["self","why","guard"] (aD yT):=by walk_at "sc"
theorem Eo:aM ["self","bar","why"] ["self","bar"] (aD yU):=by walk_at "sc"
theorem oQ:aM ["self","bar","wider","pair","why"] ["self","bar"] (aD yV):=by walk_at "sc"
theorem MI:aM ["self","thing","truth","why"] ["self","thing","truth","why"] (aD yW):=by walk_at "sc"
theorem qC:aM ["self","going","why"] ["self"] (aD yX):=by walk_at "sc"
theorem qE:aM ["self","why","pairs","thing","truth"] ["self"] (aD yY):=by walk_at "sc"
theorem qF:aM ["self","without","thing","things","is_loose"] ["self"] (aD yZ):=by walk_at "sc"
theorem jM:aM ["self","without","used","rest","going","before","unused","maker"] ["self"] (aD s_4):=by walk_at "sc"
theorem qG:aM ["self","thing","without","found","place","part"] ["self","thing","without"] (aD s_3):=by walk_at "sc"
theorem MJ:aM ["self","thing","without"] ["self","thing","without"] (aD y3):=by walk_at "sc"
theorem MK:aM ["self","part","without"] ["self","part","without"] (aD y4):=by walk_at "sc"
set_option genInjectivity false
set_option genSizeOf false
structure Wa where
(e_5 e_35 e_36 e_20 e_12 e_47 e_21 e_22 e_1 e_24 e_48 e_64 e_13 e_14 e_15 e_2 e_25 e_16 e_26 e_9 e_6 e_45 e_49 e_50 e_27 e_37 e_51 e_7 e_23 e_28 e_29 e_0 e_65 e_38 e_52 e_53 e_54 e_30 e_55 e_39 e_56 e_57 e_58 e_31 e_66 e_40 e_59 e_60 e_41 e_32 e_67 e_42 e_61 e_62 e_43 e_33 e_8 e_10 e_44 e_11 e_34 e_17 e_18 e_19 e_4 e_3 e_63 e_46:Addr×eB)
 cl:Str->Addr
structure Wd(K:aX)(mg:MGT)(a:Wa):Prop where
 e_5:Df K mg "marks" s_5 ["many","some"] a.e_5
 e_35:Df K mg "part_of" xT ["told"] a.e_35
 e_36:Df K mg "things_of" xU ["items"] a.e_36
 e_20:Df K mg "worth_in" xV ["items","entries"] a.e_20
 e_12:Df K mg "worth_not_out" xX ["items","sheet"] a.e_12
 e_47:Df K mg "outside" xY ["items","without"] a.e_47
 e_21:Df K mg "heavy" xZ ["items","sheet","lack"] a.e_21
 e_22:Df K mg "weights_of" x6 ["items"] a.e_22
 e_1:Df K mg "body_of" s_1 ["rule"] a.e_1
 e_24:Df K mg "guard_of" x8 ["rule"] a.e_24
 e_48:Df K mg "guard_of_bar" x9 ["bar"] a.e_48
 e_64:Df K mg "pressed_by" ya ["guard","sheet"] a.e_64
 e_13:Df K mg "lost_part" yb ["body","sheet","without"] a.e_13
 e_14:Df K mg "spread" yc ["plain","bars","sheet"] a.e_14
 e_15:Df K mg "_law_cell_at" yd ["_law_script","_law_k"] a.e_15
 e_2:Df K mg "_law_mixed" s_2 ["_law_cell","_law_many"] a.e_2
 e_25:Df K mg "_law_worth" yf ["_law_x"] a.e_25
 e_16:Df K mg "_law_part" yg ["_law_xs","_law_many"] a.e_16
 e_26:Df K mg "_law_rule" yh ["_law_cell","_law_many","_law_calm"] a.e_26
 e_9:Df K mg "_law_ring" s_9 ["_law_kind","_law_many"] a.e_9
 e_6:Df K mg "_law_copy" s_6 ["_law_rules"] a.e_6
 e_45:Df K mg "_law_part_sure" yi ["_law_part_here","_law_sheet_here"] a.e_45
 e_49:Df K mg "_law_broken" yj ["_law_rule_here","_law_sheet_here"] a.e_49
 e_50:Df K mg "_law_fits" ym ["_law_sheet_here","_law_bar_here"] a.e_50
 e_27:Df K mg "_law_bar" yn ["_law_cell","_law_many"] a.e_27
 e_37:Df K mg "_law_sheet" yo ["_law_cell","_law_many"] a.e_37
 e_51:Df K mg "_law_holds" yp ["_law_part_here","_law_rising","_law_held"] a.e_51
 e_7:Df K mg "_law_stands" s_7 ["_law_rules","_law_held"] a.e_7
 e_23:Df K mg "_law_all" yq ["_law_many"] a.e_23
 e_28:Df K mg "_law_agrees" yr ["_law_held","_law_sheet_here"] a.e_28
 e_29:Df K mg "_law_left" yt ["_law_rules","_law_bars","_law_sheet_here"] a.e_29
 e_0:Df K mg "law" s_0 ["_law_script"] a.e_0
 e_65:Dm K (a.cl "In") "__init__" "In.__init__" yu ["self","thing"] a.e_65
 e_38:Dm K (a.cl "In") "named" "In.named" yv ["self"] a.e_38
 e_52:Dm K (a.cl "In") "wants" "In.wants" yw ["self"] a.e_52
 e_53:Dm K (a.cl "In") "sure" "In.sure" yx ["self","sheet"] a.e_53
 e_54:Dm K (a.cl "In") "tips" "In.tips" yy ["self","sheet"] a.e_54
 e_30:Dm K (a.cl "In") "lost" "In.lost" yA ["self","sheet","without"] a.e_30
 e_55:Dm K (a.cl "Out") "__init__" "Out.__init__" yB ["self","thing"] a.e_55
 e_39:Dm K (a.cl "Out") "named" "Out.named" yC ["self"] a.e_39
 e_56:Dm K (a.cl "Out") "wants" "Out.wants" yD ["self"] a.e_56
 e_57:Dm K (a.cl "Out") "sure" "Out.sure" yE ["self","sheet"] a.e_57
 e_58:Dm K (a.cl "Out") "tips" "Out.tips" yF ["self","sheet"] a.e_58
 e_31:Dm K (a.cl "Out") "lost" "Out.lost" yG ["self","sheet","without"] a.e_31
 e_66:Dm K (a.cl "Least") "__init__" "Least.__init__" yH ["self","bound","items"] a.e_66
 e_40:Dm K (a.cl "Least") "named" "Least.named" yI ["self"] a.e_40
 e_59:Dm K (a.cl "Least") "wants" "Least.wants" yJ ["self"] a.e_59
 e_60:Dm K (a.cl "Least") "sure" "Least.sure" yK ["self","sheet"] a.e_60
 e_41:Dm K (a.cl "Least") "tips" "Least.tips" yL ["self","sheet"] a.e_41
 e_32:Dm K (a.cl "Least") "lost" "Least.lost" yM ["self","sheet","without"] a.e_32
 e_67:Dm K (a.cl "Most") "__init__" "Most.__init__" yN ["self","bound","items"] a.e_67
 e_42:Dm K (a.cl "Most") "named" "Most.named" yO ["self"] a.e_42
 e_61:Dm K (a.cl "Most") "wants" "Most.wants" yP ["self"] a.e_61
 e_62:Dm K (a.cl "Most") "sure" "Most.sure" yQ ["self","sheet"] a.e_62
 e_43:Dm K (a.cl "Most") "tips" "Most.tips" yR ["self","sheet"] a.e_43
 e_33:Dm K (a.cl "Most") "lost" "Most.lost" yS ["self","sheet","without"] a.e_33
 e_8:Dm K (a.cl "Spreading") "__init__" "Spreading.__init__" s_8 ["self","plain","bars","sheet"] a.e_8
 e_10:Dm K (a.cl "Spreading") "take_guard" "Spreading.take_guard" yT ["self","why","guard"] a.e_10
 e_44:Dm K (a.cl "Spreading") "take_bar" "Spreading.take_bar" yU ["self","bar"] a.e_44
 e_11:Dm K (a.cl "Spreading") "drop_wider" "Spreading.drop_wider" yV ["self","bar"] a.e_11
 e_34:Dm K (a.cl "Spreading") "put" "Spreading.put" yW ["self","thing","truth","why"] a.e_34
 e_17:Dm K (a.cl "Spreading") "settle" "Spreading.settle" yX ["self"] a.e_17
 e_18:Dm K (a.cl "Spreading") "look_round" "Spreading.look_round" yY ["self"] a.e_18
 e_19:Dm K (a.cl "Spreading") "put_loose_out" "Spreading.put_loose_out" yZ ["self"] a.e_19
 e_4:Dm K (a.cl "Spreading") "loose_marks" "Spreading.loose_marks" s_4 ["self"] a.e_4
 e_3:Dm K (a.cl "Spreading") "kernel" "Spreading.kernel" s_3 ["self","thing","without"] a.e_3
 e_63:Dm K (a.cl "Spreading") "lost_parts" "Spreading.lost_parts" y3 ["self","thing","without"] a.e_63
 e_46:Dm K (a.cl "Spreading") "keeping" "Spreading.keeping" y4 ["self","part","without"] a.e_46
 g_In:mg "In"=aa (.ref (a.cl "In"))
 cl_In:Cls K (a.cl "In")
 mk_In:Mk K (a.cl "In") a.e_65.1
 na_In_thing:dM K (a.cl "In") "thing"
 g_Out:mg "Out"=aa (.ref (a.cl "Out"))
 cl_Out:Cls K (a.cl "Out")
 mk_Out:Mk K (a.cl "Out") a.e_55.1
 na_Out_thing:dM K (a.cl "Out") "thing"
 g_Least:mg "Least"=aa (.ref (a.cl "Least"))
 cl_Least:Cls K (a.cl "Least")
 mk_Least:Mk K (a.cl "Least") a.e_66.1
 na_Least_bound:dM K (a.cl "Least") "bound"
 na_Least_pieces:dM K (a.cl "Least") "pieces"
 g_Most:mg "Most"=aa (.ref (a.cl "Most"))
 cl_Most:Cls K (a.cl "Most")
 mk_Most:Mk K (a.cl "Most") a.e_67.1
 na_Most_bound:dM K (a.cl "Most") "bound"
 na_Most_pieces:dM K (a.cl "Most") "pieces"
 g_Spreading:mg "Spreading"=aa (.ref (a.cl "Spreading"))
 cl_Spreading:Cls K (a.cl "Spreading")
 mk_Spreading:Mk K (a.cl "Spreading") a.e_8.1
 na_Spreading_sheet:dM K (a.cl "Spreading") "sheet"
 na_Spreading_steps:dM K (a.cl "Spreading") "steps"
 na_Spreading_bars:dM K (a.cl "Spreading") "bars"
 na_Spreading_guards:dM K (a.cl "Spreading") "guards"
 na_Spreading_watches:dM K (a.cl "Spreading") "watches"
 na_Spreading_waiting:dM K (a.cl "Spreading") "waiting"
 na_Spreading_makers:dM K (a.cl "Spreading") "makers"
 z_all:mg "all"=ac
 z_any:mg "any"=ac
 z_enumerate:mg "enumerate"=ac
 z_isinstance:mg "isinstance"=ac
 z_len:mg "len"=ac
 z_list:mg "list"=ac
 z_min:mg "min"=ac
 z_range:mg "range"=ac
 z_set:mg "set"=ac
 z_sorted:mg "sorted"=ac
 z_sum:mg "sum"=ac
 z_tuple:mg "tuple"=ac
 z_zip:mg "zip"=ac
 is_list:pT K "list"
 is_tuple:pT K "tuple"
set_option genInjectivity true
set_option genSizeOf true
abbrev qD(P:cH)(w:World)(K:aX)(mg:MGT)(base:Heap)(a:Wa)(k:Nat)(x:Str)(e:Addr×eB)(ps:LSt)(m:LD->OD):Prop:=Pk P w K mg base CX0 k x e ps (spD ⟨K,a.cl⟩ ps.length m)
abbrev qO(P:cH)(w:World)(K:aX)(mg:MGT)(base:Heap)(a:Wa)(k:Nat)(x:Str)(e:Addr×eB)(ps:LSt)(m:LD->OLD):Prop:=Pk P w K mg base CX0 k x e ps (spO ⟨K,a.cl⟩ ps.length m)
noncomputable def za:MF3:=
 (aY (aB iK (ag (aE (aU 2 [] (sR (ag (af 1) (ag (af 0) nZ))) (dh (bm (az 0) (bm (az 1) dE))) kY (vOr (m2 dIs (af 0) kN) (m2 dEq (af 0) (af 1))))) nZ)))
noncomputable def qH:=aV 2 za
noncomputable def b_2:MF3:=
 (ar (eR 2 nZ)
  (ar (bz 3 (m2 cS (m2 dP (m2 bI (af 0) (kI 2305843009213693951)) (kI 1315423911)) (kI 48271)))
  (ar (cJ (g4 (ag (af 1) nZ)) (az 4) (ar (bz 3 (m2 bI (m2 cS (m2 cS (m2 dP (af 3) (m2 cS (af 3) (kI 69621))) (m2 dP (kI 7) (af 4))) (kI 1)) (kI 2305843009213693951)))
  (gz 2 (af 3))))
  (g5 2))))
noncomputable def m_2:=aV 5 b_2
noncomputable def ua:MF3:=
 (ar (bz 2 (aB m_2 (ag (af 0) (ag (kI 6) nZ))))
  (ar (bo (mOr (mB (m2 dEq (af 1) (kI 0))) (mB (m2 dEq (m2 bI (mIx (ao 2) (kI 0)) (kI 16)) (kI 0)))) (dz nZ) bL)
  (dz (aU 1 [1,2] (g4 (ag (m2 cS (kI 1) (m2 bI (mIx (ao 2) (kI 1)) (aB xD (ag (kI 3) (ag (af 1) nZ))))) nZ)) (az 0) kY (bE (ag (m2 bI (m2 cS (mIx (ao 2) (kI 2)) (af 0)) (af 1)) (ag (m2 dEq (m2 bI (mIx (ao 2) (m2 cS (kI 3) (af 0))) (kI 2)) (kI 0)) nZ)))))))
noncomputable def ub:=aV 3 ua
noncomputable def zb:MF3:=
 (ar (bo (mB (m2 dLt (af 1) (aB eG (ag (af 0) nZ)))) (aY (mIx (ao 0) (af 1))) bL)
  (aY (kI 0)))
noncomputable def oR:=aV 2 zb
noncomputable def b_6:MF3:=
 (ar (eR 1 nZ)
  (ar (cJ (aP (af 0)) (dh (bm (az 2) (bm (az 3) (bm (az 4) dE)))) (ar (eR 5 nZ)
  (ar (cJ (aP (af 4)) (az 6) (ar (bo (mB (m2 dEq (aB eG (ag (af 6) nZ)) (kI 3))) (bz 6 (bE (ag (mIx (ao 6) (kI 0)) (ag (mIx (ao 6) (kI 1)) (ag (aE (aP (mIx (ao 6) (kI 2)))) nZ))))) bL)
  (gz 5 (af 6))))
  (gy 5 (gz 1 (bE (ag (af 2) (ag (af 3) (ag (af 5) nZ)))))))))
  (g5 1)))
noncomputable def m_6:=aV 7 b_6
noncomputable def uc:MF3:=
 (ar (bz 1 (aE (ag (aE nZ) nZ)))
  (ar (cJ (g4 (ag (af 0) nZ)) (az 2) (bz 1 (aE (jG (aE (aU 1 [] (aP (af 1)) (az 0) kY (aE (jG (af 0) (aE (ag (kBl ab) nZ)))))) (aE (aU 1 [] (aP (af 1)) (az 0) kY (aE (jG (af 0) (aE (ag (kBl ae) nZ))))))))))
  (g5 1)))
noncomputable def zc:=aV 3 uc
noncomputable def zd:MF3:=
 (aY (aB iK (ag (aE (aU 2 [0] (aP (af 1)) (dh (bm (az 0) (bm (az 1) dE))) kY (m2 dEq (mIx (ao 2) (af 0)) (af 1)))) nZ)))
noncomputable def ze:=aV 2 zd
noncomputable def zf:MF3:=
 (ar (bo (mB (m2 dEq (mIx (ao 0) (kI 0)) (kSt "in"))) (aY (m2 dIs (mIx (ao 1) (mIx (ao 0) (kI 1))) (kBl ab))) bL)
  (ar (bo (mB (m2 dEq (mIx (ao 0) (kI 0)) (kSt "out"))) (aY (m2 dIs (mIx (ao 1) (mIx (ao 0) (kI 1))) (kBl ae))) bL)
  (ar (bo (mB (m2 dEq (mIx (ao 0) (kI 0)) (kSt "least"))) (aY (m2 dGe (aB f7 (ag (aE (aU 2 [1] (aP (mIx (ao 0) (kI 2))) (dh (bm (az 0) (bm (az 1) dE))) (mB (m2 dIs (mIx (ao 2) (af 0)) (kBl ab))) (af 1))) nZ)) (mIx (ao 0) (kI 1)))) bL)
  (aY (m2 dLe (aB f7 (ag (aE (aU 2 [1] (aP (mIx (ao 0) (kI 2))) (dh (bm (az 0) (bm (az 1) dE))) (mB (m2 gx (mIx (ao 2) (af 0)) (kBl ae))) (af 1))) nZ)) (mIx (ao 0) (kI 1)))))))
noncomputable def ud:=aV 2 zf
noncomputable def zg:MF3:=
 (ar (bo (mOr (mB (m2 dEq (mIx (ao 0) (kI 0)) (kSt "may"))) (fj (mB (m2 dEq (mIx (ao 0) (kI 0)) (kSt "make"))) (mB (m2 gx (mIx (ao 1) (mIx (ao 0) (kI 1))) (kBl ae))))) (aY (kBl ae)) bL)
  (aY (aB iK (ag (aE (aU 1 [1] (aP (mIx (ao 0) (kI 2))) (az 0) kY (aB ud (ag (af 0) (ag (af 1) nZ))))) nZ))))
noncomputable def zh:=aV 2 zg
noncomputable def zi:MF3:=
 (ar (bo (mB (m2 dEq (mIx (ao 0) (kI 0)) (kSt "in"))) (aY (mIx (ao 1) (mIx (ao 0) (kI 1)))) bL)
  (ar (bo (mB (m2 dEq (mIx (ao 0) (kI 0)) (kSt "out"))) (aY (n8 (mIx (ao 2) (mIx (ao 0) (kI 1))))) bL)
  (ar (bo (mB (m2 dEq (mIx (ao 0) (kI 0)) (kSt "least"))) (aY (m2 dGe (aB f7 (ag (aE (aU 2 [1] (aP (mIx (ao 0) (kI 2))) (dh (bm (az 0) (bm (az 1) dE))) (b7 (mIx (ao 2) (af 0))) (af 1))) nZ)) (mIx (ao 0) (kI 1)))) bL)
  (aY (m2 dLe (aB f7 (ag (aE (aU 2 [2] (aP (mIx (ao 0) (kI 2))) (dh (bm (az 0) (bm (az 1) dE))) (b7 (mIx (ao 2) (af 0))) (af 1))) nZ)) (mIx (ao 0) (kI 1)))))))
noncomputable def zj:=aV 3 zi
noncomputable def b_7:MF3:=
 (ar (bo (b7 (aB mR (ag (aE (aU 1 [1] (aP (af 0)) (az 0) kY (aB zh (ag (af 0) (ag (af 1) nZ))))) nZ))) (aY (kBl ae)) bL)
  (ar (eR 2 (aU 1 [] (aP (af 1)) (az 0) kY (kBl ae)))
  (ar (cJ (g4 (ag (aB eG (ag (af 1) nZ)) nZ)) (az 3) (cJ (aP (af 0)) (dh (bm (az 4) (bm (az 5) (bm (az 6) dE)))) (bo (fj (mB (m2 dNe (af 4) (kSt "never"))) (fj (b7 (mIx (ao 1) (af 5))) (gY (b7 (mIx (ao 2) (af 5)))))) (lx 2 (af 5) (aB iK (ag (aE (aU 1 [2,1] (aP (af 6)) (az 0) kY (qk zj (ag (af 0) (ag (gu 1) (ag (af 2) nZ)))))) nZ))) bL)))
  (gy 2 (aY (m2 dEq (af 2) (af 1)))))))
noncomputable def m_7:=aV 7 b_7
noncomputable def ue:MF3:=
 (ar (eR 3 nZ)
  (ar (cJ (aP (aB zc (ag (aB eG (ag (af 2) nZ)) nZ))) (az 4) (bo (fj (b7 (aB qH (ag (af 4) (ag (af 2) nZ)))) (gY (b7 (aB mR (ag (aE (aU 1 [4] (aP (af 1)) (az 0) kY (aB ze (ag (af 1) (ag (af 0) nZ))))) nZ))))) (bo (b7 (aB m_7 (ag (af 0) (ag (af 4) nZ)))) (gz 3 (af 4)) bL) bL))
  (g5 3)))
noncomputable def zk:=aV 5 ue
noncomputable def b_9:MF3:=
 (ar (eR 2 nZ)
  (ar (cJ (g4 (ag (af 1) nZ)) (az 3) (ar (bz 4 (m2 bI (m2 cS (af 3) (kI 1)) (af 1)))
  (ar (bz 5 (mIx (ag kN (ag (bE (ag (kSt "in") (ag (af 3) nZ))) (ag (bE (ag (kSt "out") (ag (af 3) nZ))) (ag (bE (ag (kSt "least") (ag (kI 2) (ag (aE (ag (bE (ag (af 3) (ag (kI 2) nZ))) (ag (bE (ag (af 4) (ag (kI 1) nZ))) nZ))) nZ)))) (ag (bE (ag (kSt "most") (ag (kI 0) (ag (aE (ag (bE (ag (af 3) (ag (kI 1) nZ))) nZ)) nZ)))) nZ))))) (af 0)))
  (bo (mB (m2 gx (af 5) kN)) (gz 2 (bE (ag (mIx (ag (kSt "make") (ag (kSt "may") nZ)) (m2 lh (m2 bI (m2 dP (af 3) (af 0)) (kI 5)) (kI 4))) (ag (af 4) (ag (aE (ag (af 5) nZ)) nZ))))) bL))))
  (g5 2)))
noncomputable def o_9:=mO 6 b_9
noncomputable def uf:MF3:=
 (ar (bo (mB (m2 dEq (m2 bI (af 0) (kI 8)) (kI 5))) (aY (m2 bI (m2 dP (m2 dP (m2 dP (af 0) (af 0)) (af 0)) (af 0)) (m2 wz (kI 10) (kI 60)))) bL)
  (aY (mIx (ag (kI 1) (ag (kI 1) (ag (kI 2) (ag (kI 0) (ag (kI 3) (ag (kI 1) (ag (kI 1) (ag (kI 2) nZ)))))))) (m2 bI (m2 lh (af 0) (kI 8)) (kI 8)))))
noncomputable def qI:=aV 1 uf
noncomputable def ug:MF3:=
 (ar (bz 2 (mIx (ag (kSt "in") (ag (kSt "out") (ag (kSt "in") (ag (kSt "least") (ag (kSt "most") nZ))))) (m2 bI (mIx (ao 0) (kI 0)) (kI 5))))
  (ar (bo (mOr (mB (m2 dEq (af 2) (kSt "in"))) (mB (m2 dEq (af 2) (kSt "out")))) (aY (bE (ag (af 2) (ag (m2 bI (mIx (ao 0) (kI 1)) (af 1)) nZ)))) bL)
  (ar (bz 3 (aE (aU 1 [1,0] (g4 (ag (m2 bI (mIx (ao 0) (kI 2)) (kI 4)) nZ)) (az 0) kY (bE (ag (m2 bI (mIx (ao 2) (m2 cS (kI 4) (m2 dP (kI 2) (af 0)))) (af 1)) (ag (aB qI (ag (mIx (ao 2) (m2 cS (kI 5) (m2 dP (kI 2) (af 0)))) nZ)) nZ))))))
  (ar (bz 4 (aB f7 (ag (aE (aU 2 [] (aP (aE (mSl (af 3) (λ_=>aa ac) (mPt (m2 bI (mIx (ao 0) (kI 3)) (kI 5)))))) (dh (bm (az 0) (bm (az 1) dE))) kY (af 1))) nZ)))
  (aY (bE (ag (af 2) (ag (m2 mx (m2 cS (af 4) (m2 bI (m2 lh (mIx (ao 0) (kI 3)) (kI 5)) (kI 3))) (kI 1)) (ag (af 3) nZ)))))))))
noncomputable def uh:=aV 5 ug
noncomputable def ui:MF3:=
 (ar (bz 3 (aB m_2 (ag (af 0) (ag (kI 33) nZ))))
  (ar (bo (mB (m2 dEq (af 1) (kI 0))) (aY (bE (ag (kSt "never") (ag kN (ag (aE (mSl (aE (ag (bE (ag (mIx (ag (kSt "least") (ag (kSt "most") nZ)) (m2 bI (mIx (ao 3) (kI 0)) (kI 2))) (ag (m2 mx (m2 bI (mIx (ao 3) (kI 1)) (kI 3)) (kI 1)) (ag (aE nZ) nZ)))) nZ)) (λ_=>aa ac) (mPt (m2 bI (mIx (ao 3) (kI 2)) (kI 6))))) nZ))))) bL)
  (ar (bz 4 (aE (aU 1 [1,3] (g4 (ag (mIx (ag (kI 1) (ag (kI 1) (ag (kI 2) (ag (kI 2) (ag (kI 3) (ag (kI 0) nZ)))))) (m2 bI (mIx (ao 3) (kI 0)) (kI 6))) nZ)) (az 0) kY (aB uh (ag (aE (mSl (af 2) (mPt (m2 cS (kI 3) (m2 dP (kI 10) (af 0)))) (mPt (m2 cS (kI 13) (m2 dP (kI 10) (af 0)))))) (ag (af 1) nZ))))))
  (ar (bo (fj (mB (m2 dEq (m2 bI (mIx (ao 3) (kI 1)) (kI 8)) (kI 0))) (fj (gY (b7 (af 2))) (mOr (mB (m2 dNe (af 4) (aE nZ))) (mB (m2 dEq (m2 bI (mIx (ao 3) (kI 2)) (kI 4)) (kI 0)))))) (aY (bE (ag (kSt "never") (ag kN (ag (af 4) nZ))))) bL)
  (aY (bE (ag (mIx (ag (kSt "make") (ag (kSt "may") nZ)) (m2 bI (m2 lh (mIx (ao 3) (kI 1)) (kI 8)) (kI 2))) (ag (m2 bI (m2 lh (mIx (ao 3) (kI 2)) (kI 4)) (af 1)) (ag (af 4) nZ)))))))))
noncomputable def zl:=aV 5 ui
noncomputable def uj:MF3:=
 (ar (bz 2 (aB m_2 (ag (af 0) (ag (m2 cS (af 1) (kI 1)) nZ))))
  (ar (bo (mB (m2 dEq (m2 bI (mIx (ao 2) (af 1)) (kI 3)) (kI 0))) (dz (aU 1 [] (aP (aE (mSl (af 2) (λ_=>aa ac) (mPt (af 1))))) (az 0) kY kN)) bL)
  (dz (aU 1 [] (aP (aE (mSl (af 2) (λ_=>aa ac) (mPt (af 1))))) (az 0) kY (mIx (ag kN (ag kN (ag kN (ag (kBl ab) (ag (kBl ae) nZ))))) (m2 bI (af 0) (kI 5)))))))
noncomputable def zm:=aV 3 uj
noncomputable def uk:MF3:=
 (λU=>if 2 < U.length then ar (oO 2 3 (b7 (af 1)) (iQ (bu "Spreading" "watches" (aZ 0)) (mIx (ao 1) (kI 0))) (aP (af 1)) 1 [3,0] (az 0) (mB (m2 ij (af 0) (aE (iQ (bu "Spreading" "watches" (aZ 2)) (af 1))))) (af 0))
  (gy 2 (cJ (aP (af 2)) (az 4) (bo (mB (m2 dEq (mIx (ao 4) (kI 0)) (kSt "bar"))) (cJ (aP (mIx (pC (bu "Spreading" "bars" (aZ 0))) (mIx (ao 4) (kI 1)))) (az 3) (tX 0 (mW (bu "Spreading" "watches" (aZ 0)) (af 3)) (af 4))) bL))) U else ac)
noncomputable def zn:MTf:=g9 5 uk
noncomputable def zo:MF3:=
 (dz (ag (bS "In" "thing" (af 0)) nZ))
noncomputable def ul:=aV 1 zo
noncomputable def zp:MF3:=
 (aY (kBl ab))
noncomputable def zq:=aV 1 zp
noncomputable def zt:MF3:=
 (dz (qg (aE (aU 2 [] (aP (af 0)) (dh (bm (az 0) (bm (az 1) dE))) kY (af 0)))))
noncomputable def um:=aV 1 zt
noncomputable def zu:MF3:=
 (aY (aB um (ag (bS "Least" "pieces" (af 0)) nZ)))
noncomputable def uo:=aV 1 zu
noncomputable def zw:MF3:=
 (aY (kBl ab))
noncomputable def zx:=aV 1 zw
noncomputable def zy:MF3:=
 (aY (aB um (ag (bS "Most" "pieces" (af 0)) nZ)))
noncomputable def uq:=aV 1 zy
noncomputable def zA:MF3:=
 (aY (kBl ae))
noncomputable def zB:=aV 1 zA
noncomputable def zC:MF3:=
 (dz (ag (bS "Out" "thing" (af 0)) nZ))
noncomputable def ur:=aV 1 zC
noncomputable def zD:MF3:=
 (aY (kBl ae))
noncomputable def zE:=aV 1 zD
noncomputable def ut:MF3:=
 (ar (tV 0 (bu "Spreading" "guards" (aZ 0)) (af 1) (af 2))
  (ar (cJ (aP (af 2)) (az 3) (cJ (aP (bJ (a8 "In" "named" ul (af 3) λ_=>aa []) (bJ (a8 "Out" "named" ur (af 3) λ_=>aa []) (bJ (a8 "Least" "named" uo (af 3) λ_=>aa []) (a8 "Most" "named" uq (af 3) λ_=>aa []))))) (az 4) (tW 0 1 (bu "Spreading" "watches" (aZ 0)) (bE (ag (af 4) (ag (bJ (a8 "In" "wants" zq (af 3) λ_=>aa []) (bJ (a8 "Out" "wants" zE (af 3) λ_=>aa []) (bJ (a8 "Least" "wants" zx (af 3) λ_=>aa []) (a8 "Most" "wants" zB (af 3) λ_=>aa [])))) nZ))))))
  (oI 0 (bu "Spreading" "waiting" (aZ 0)) (af 1))))
noncomputable def qJ:MTf:=g9 5 ut
noncomputable def zF(as:LD):Option (LSt×LD):=pZ 2 [("thing",(af 1))] as
noncomputable def uu(as:LD):Option (LSt×LD):=pZ 2 [("thing",(af 1))] as
noncomputable def zG:MF3:=
 (dz (aU 2 [] (aP (af 0)) (dh (bm (az 0) (bm (az 1) dE))) kY (vIf (b7 (af 1)) (jD "In" zF (ag (af 0) nZ)) (jD "Out" uu (ag (af 0) nZ)))))
noncomputable def zH:=aV 1 zG
noncomputable def uv:MF3:=
 (ar (jg (gc 0 "Spreading" "drop_wider" zn (eV (mX (af 1)) g8)))
  (ar (bz 2 (bE (ag (kSt "bar") (ag (aB eG (ag (pB (bu "Spreading" "bars" (aZ 0))) nZ)) nZ))))
  (ar (oI 0 (bu "Spreading" "bars" (aZ 0)) (af 1))
  (jg (gc 0 "Spreading" "take_guard" qJ (eV (mX (af 2)) (eV (mX (aB zH (ag (af 1) nZ))) g8)))))))
noncomputable def zJ:MTf:=g9 3 uv
noncomputable def zK(as:LD):Option (LSt×LD):=pZ 3 [("bound",(af 1)),("pieces",(aE (ao 2)))] as
noncomputable def Ep(as:LD):Option (LSt×LD):=pZ 3 [("bound",(af 1)),("pieces",(aE (ao 2)))] as
noncomputable def zM:MF3:=
 (ar (bz 1 (mIx (ao 0) (kI 0)))
  (ar (bo (mB (m2 dEq (af 1) (kSt "in"))) (aY (jD "In" zF (ag (mIx (ao 0) (kI 1)) nZ))) bL)
  (ar (bo (mB (m2 dEq (af 1) (kSt "out"))) (aY (jD "Out" uu (ag (mIx (ao 0) (kI 1)) nZ))) bL)
  (ar (bo (mB (m2 dEq (af 1) (kSt "least"))) (aY (jD "Least" zK (ag (mIx (ao 0) (kI 1)) (ag (mIx (ao 0) (kI 2)) nZ)))) bL)
  (aY (jD "Most" Ep (ag (mIx (ao 0) (kI 1)) (ag (mIx (ao 0) (kI 2)) nZ))))))))
noncomputable def zN:=aV 2 zM
noncomputable def b_1:MF3:=
 (dz (aU 1 [] (aP (mIx (ao 0) (kI 2))) (az 0) kY (aB zN (ag (af 0) nZ))))
noncomputable def m_1:=aV 1 b_1
noncomputable def o_1:=mO 1 b_1
noncomputable def uw:MF3:=
 (ar (bo (mB (m2 dEq (mIx (ao 0) (kI 0)) (kSt "may"))) (dz (ag (jD "Least" zK (ag (kI 1) (ag (aE nZ) nZ))) nZ)) bL)
  (ar (eR 1 (om o_1 (ag (af 0) nZ)))
  (ar (bo (mB (m2 dEq (mIx (ao 0) (kI 0)) (kSt "make"))) (gz 1 (jD "Out" uu (ag (mIx (ao 0) (kI 1)) nZ))) bL)
  (g5 1))))
noncomputable def ux:=aV 2 uw
noncomputable def b_8:MF3:=
 (ar (ji 0 "Spreading" "sheet" (aZ 0) (lA (ao 3)))
  (ar (ji 0 "Spreading" "steps" (aZ 0) (lA nZ))
  (ar (ji 0 "Spreading" "bars" (aZ 0) (lA nZ))
  (ar (ji 0 "Spreading" "guards" (aZ 0) (λ_=>aa (.dT [] [])))
  (ar (ji 0 "Spreading" "watches" (aZ 0) (λ_=>aa (.dT [] [])))
  (ar (ji 0 "Spreading" "waiting" (aZ 0) (lA nZ))
  (ar (ji 0 "Spreading" "makers" (aZ 0) (oC (aE (aU 1 [] (aP (mIx (ao 1) (kI 1))) (az 0) (mB (m2 gx (mIx (ao 0) (kI 1)) kN)) (bE (ag (mIx (ao 0) (kI 1)) (ag (aB m_1 (ag (af 0) nZ)) nZ)))))))
  (ar (cJ (mT (ag (mIx (ao 1) (kI 1)) nZ)) (dh (bm (az 5) (bm (az 4) dE))) (jg (gc 0 "Spreading" "take_guard" qJ (eV (mX (bE (ag (kSt "rule") (ag (af 5) nZ)))) (eV (mX (aB ux (ag (af 4) nZ))) g8)))))
  (cJ (aP (af 2)) (az 6) (jg (gc 0 "Spreading" "take_bar" zJ (eV (mX (af 6)) g8))))))))))))
noncomputable def m_8:MTf:=g9 7 b_8
noncomputable def uz:MF3:=
 (ar (tU 0 (bu "Spreading" "sheet" (aZ 0)) (af 1) (af 2))
  (ar (oI 0 (bu "Spreading" "steps" (aZ 0)) (bE (ag (bE (ag (af 1) (ag (af 2) nZ))) (ag (af 3) nZ))))
  (tS 0 (bu "Spreading" "waiting" (aZ 0)) (iQ (bu "Spreading" "watches" (aZ 0)) (bE (ag (af 1) (ag (af 2) nZ)))))))
noncomputable def uA:MTf:=g9 4 uz
noncomputable def zO:MF3:=
 (aY (m2 dIs (mIx (ao 1) (bS "In" "thing" (af 0))) (kBl ab)))
noncomputable def zP:=aV 2 zO
noncomputable def zQ:MF3:=
 (aY (vIf (mB (m2 dIs (mIx (ao 1) (bS "In" "thing" (af 0))) kN)) (aE (ag (bE (ag (bS "In" "thing" (af 0)) (ag (kBl ab) nZ))) nZ)) (aE nZ)))
noncomputable def zR:=aV 2 zQ
noncomputable def zS:MF3:=
 (aY (aB f7 (ag (aE (aU 2 [1] (aP (af 0)) (dh (bm (az 0) (bm (az 1) dE))) (mB (m2 dIs (mIx (ao 2) (af 0)) (kBl ab))) (af 1))) nZ)))
noncomputable def qK:=aV 2 zS
noncomputable def zT:MF3:=
 (aY (m2 dGe (aB qK (ag (bS "Least" "pieces" (af 0)) (ag (af 1) nZ))) (bS "Least" "bound" (af 0))))
noncomputable def zU:=aV 2 zT
noncomputable def uB:MF3:=
 (ar (tz 1)
  (ar (cJ (aP (af 0)) (dh (bm (az 2) (bm (az 3) dE))) (ko 1 (af 2) (m2 cS (tQ 1 (af 2) (kI 0)) (af 3))))
  (oE 1 (aY (af 1)))))
noncomputable def zV:=aV 4 uB
noncomputable def uC:MF3:=
 (ar (bz 3 (aB zV (ag (aE (aU 1 [1] (aP (af 0)) (az 0) (mB (m2 dIs (mIx (ao 1) (mIx (ao 0) (kI 0))) kN)) (af 0))) nZ)))
  (dz (aU 1 [2,3] (xG (af 3)) (az 0) (mB (m2 dGe (m2 xJ (af 2) (af 0)) (af 1))) (af 0))))
noncomputable def uD:=aV 4 uC
noncomputable def uE:MF3:=
 (ar (bz 2 (m2 mx (bS "Least" "bound" (af 0)) (aB qK (ag (bS "Least" "pieces" (af 0)) (ag (af 1) nZ)))))
  (dz (aU 1 [] (aP (aB uD (ag (bS "Least" "pieces" (af 0)) (ag (af 1) (ag (af 2) nZ))))) (az 0) kY (bE (ag (af 0) (ag (kBl ab) nZ))))))
noncomputable def zW:=aV 3 uE
noncomputable def zX:MF3:=
 (aY (aB f7 (ag (aE (aU 2 [1] (aP (af 0)) (dh (bm (az 0) (bm (az 1) dE))) (mB (m2 gx (mIx (ao 2) (af 0)) (kBl ae))) (af 1))) nZ)))
noncomputable def oS:=aV 2 zX
noncomputable def zY:MF3:=
 (aY (m2 dLe (aB oS (ag (bS "Most" "pieces" (af 0)) (ag (af 1) nZ))) (bS "Most" "bound" (af 0))))
noncomputable def zZ:=aV 2 zY
noncomputable def uF:MF3:=
 (ar (bz 2 (m2 mx (aB oS (ag (bS "Most" "pieces" (af 0)) (ag (af 1) nZ))) (bS "Most" "bound" (af 0))))
  (dz (aU 1 [] (aP (aB uD (ag (bS "Most" "pieces" (af 0)) (ag (af 1) (ag (af 2) nZ))))) (az 0) kY (bE (ag (af 0) (ag (kBl ae) nZ))))))
noncomputable def z4:=aV 3 uF
noncomputable def z5:MF3:=
 (aY (m2 dIs (mIx (ao 1) (bS "Out" "thing" (af 0))) (kBl ae)))
noncomputable def z6:=aV 2 z5
noncomputable def z7:MF3:=
 (aY (vIf (mB (m2 dIs (mIx (ao 1) (bS "Out" "thing" (af 0))) kN)) (aE (ag (bE (ag (bS "Out" "thing" (af 0)) (ag (kBl ae) nZ))) nZ)) (aE nZ)))
noncomputable def z8:=aV 2 z7
noncomputable def uG:MF3:=
 (ar (bz 2 kN)
  (ar (cJ (aP (af 0)) (az 3) (bo (gY (b7 (bJ (a8 "In" "sure" zP (af 3) (ag (af 1) nZ)) (bJ (a8 "Out" "sure" z6 (af 3) (ag (af 1) nZ)) (bJ (a8 "Least" "sure" zU (af 3) (ag (af 1) nZ)) (a8 "Most" "sure" zZ (af 3) (ag (af 1) nZ))))))) (ar (bz 4 (bJ (a8 "In" "tips" zR (af 3) (ag (af 1) nZ)) (bJ (a8 "Out" "tips" z8 (af 3) (ag (af 1) nZ)) (bJ (a8 "Least" "tips" zW (af 3) (ag (af 1) nZ)) (a8 "Most" "tips" z4 (af 3) (ag (af 1) nZ))))))
  (ar (bz 2 (vIf (mB (m2 dIs (af 2) kN)) (af 4) (aE (aU 1 [4] (aP (af 2)) (az 0) (mB (m2 ij (af 0) (af 1))) (af 0)))))
  (bo (gY (b7 (af 2))) (dz nZ) bL))) bL))
  (ar (bo (mB (m2 dIs (af 2) kN)) (aY kN) bL)
  (dz (aU 2 [] (aP (af 2)) (dh (bm (az 0) (bm (az 1) dE))) kY (bE (ag (af 0) (ag (n8 (af 1)) nZ))))))))
noncomputable def z9(as:LD):Option (LD ⊕ D):=tY 5 uG as
noncomputable def uH:MF3:=
 (ar (ie (b7 (pB (bu "Spreading" "waiting" (aZ 0)))) (ar (kz 1 (tT 0 (bu "Spreading" "waiting" (aZ 0))))
  (ar (bz 2 (qy z9 (ag (pB (mW (bu "Spreading" "guards" (aZ 0)) (af 1))) (ag (pB (bu "Spreading" "sheet" (aZ 0))) nZ))))
  (ar (bo (mB (m2 dIs (af 2) kN)) (jB (af 1)) bL)
  (cJ (aP (af 2)) (dh (bm (az 3) (bm (az 4) dE))) (jg (gc 0 "Spreading" "put" uA (eV (mX (af 3)) (eV (mX (af 4)) (eV (mX (af 1)) g8))))))))) 1000000000)
  (jB kN))
noncomputable def Aa:MTf:=g9 5 uH
noncomputable def Ab:MF3:=
 (aY (vOr (m2 dIs (mIx (ao 1) (bS "In" "thing" (af 0))) (kBl ae)) (mIx (ao 2) (bS "In" "thing" (af 0)))))
noncomputable def qL:=aV 3 Ab
noncomputable def Ac:MF3:=
 (dz (aU 1 [1] (aP (af 0)) (az 0) (gY (b7 (mIx (ao 1) (mIx (ao 0) (kI 0))))) (af 0)))
noncomputable def Ad:=aV 2 Ac
noncomputable def Ae:MF3:=
 (aY (m2 dLt (aB oS (ag (aB Ad (ag (bS "Least" "pieces" (af 0)) (ag (af 2) nZ))) (ag (af 1) nZ))) (bS "Least" "bound" (af 0))))
noncomputable def qM:=aV 3 Ae
noncomputable def Af:MF3:=
 (aY (m2 dGt (aB qK (ag (bS "Most" "pieces" (af 0)) (ag (af 1) nZ))) (bS "Most" "bound" (af 0))))
noncomputable def qN:=aV 3 Af
noncomputable def Ag:MF3:=
 (aY (m2 dIs (mIx (ao 1) (bS "Out" "thing" (af 0))) (kBl ab)))
noncomputable def qP:=aV 3 Ag
noncomputable def b_5:MF3:=
 (ar (tz 2)
  (ar (cJ (aP (af 1)) (az 3) (ko 2 (af 3) (kBl ab)))
  (gy 2 (dz (aU 1 [2] (g4 (ag (af 0) nZ)) (az 0) kY (m2 w5 (af 0) (af 1)))))))
noncomputable def m_5:=aV 4 b_5
noncomputable def uI:MF3:=
 (ar (bo (b7 (bJ (a8 "In" "lost" qL (af 1) (ag (bS "Spreading" "sheet" (af 0)) (ag (aB m_5 (ag (aB eG (ag (bS "Spreading" "sheet" (af 0)) nZ)) (ag (aE nZ) nZ))) nZ))) (bJ (a8 "Out" "lost" qP (af 1) (ag (bS "Spreading" "sheet" (af 0)) (ag (aB m_5 (ag (aB eG (ag (bS "Spreading" "sheet" (af 0)) nZ)) (ag (aE nZ) nZ))) nZ))) (bJ (a8 "Least" "lost" qM (af 1) (ag (bS "Spreading" "sheet" (af 0)) (ag (aB m_5 (ag (aB eG (ag (bS "Spreading" "sheet" (af 0)) nZ)) (ag (aE nZ) nZ))) nZ))) (a8 "Most" "lost" qN (af 1) (ag (bS "Spreading" "sheet" (af 0)) (ag (aB m_5 (ag (aB eG (ag (bS "Spreading" "sheet" (af 0)) nZ)) (ag (aE nZ) nZ))) nZ))))))) (dz nZ) bL)
  (dz (aU 1 [2] (aP (bJ (a8 "In" "named" ul (af 1) λ_=>aa []) (bJ (a8 "Out" "named" ur (af 1) λ_=>aa []) (bJ (a8 "Least" "named" uo (af 1) λ_=>aa []) (a8 "Most" "named" uq (af 1) λ_=>aa []))))) (az 0) (b7 (mIx (ao 1) (af 0))) (af 0))))
noncomputable def Ah:=aV 3 uI
noncomputable def uJ:MF3:=
 (ar (cJ (aP (af 0)) (az 3) (bo (b7 (bJ (a8 "In" "lost" qL (af 3) (ag (af 1) (ag (af 2) nZ))) (bJ (a8 "Out" "lost" qP (af 3) (ag (af 1) (ag (af 2) nZ))) (bJ (a8 "Least" "lost" qM (af 3) (ag (af 1) (ag (af 2) nZ))) (a8 "Most" "lost" qN (af 3) (ag (af 1) (ag (af 2) nZ))))))) (g5 3) bL))
  (aY kN))
noncomputable def qQ:=aV 4 uJ
noncomputable def Ai:MF3:=
 (dz (aU 2 [2,0,1] (aP (bS "Spreading" "makers" (af 0))) (dh (bm (az 0) (bm (az 1) dE))) (mB (m2 dEq (af 0) (af 4))) (aB qQ (ag (af 1) (ag (bS "Spreading" "sheet" (af 3)) (ag (af 2) nZ))))))
noncomputable def Aj:=aV 3 Ai
noncomputable def b_3:MF3:=
 (ar (eR 3 (ag (af 1) nZ))
  (ar (bz 4 (kI 0))
  (ar (ie (mB (m2 dLt (af 4) (aB eG (ag (gu 3) nZ)))) (ar (cJ (aP (a8 "Spreading" "lost_parts" Aj (af 0) (ag (mIx (ao 3) (af 4)) (ag (af 2) nZ)))) (az 5) (pW 3 (pV (aE (aU 1 [3] (aP (a8 "Spreading" "keeping" Ah (af 0) (ag (af 5) (ag (af 2) nZ)))) (az 0) (mB (m2 oh (af 0) (gu 1))) (af 0))))))
  (qp 4 (mX (kI 1)))) 1000000000)
  (gy 3 (dz (qm (af 3)))))))
noncomputable def m_3:=aV 6 b_3
noncomputable def o_3:=mO 6 b_3
noncomputable def b_4:MF3:=
 (ar (eR 1 (aU 1 [] (pC (bu "Spreading" "sheet" (aZ 0))) (az 0) kY (m2 gx (af 0) (kBl ae))))
  (ar (eR 2 nZ)
  (ar (bz 3 (pD (bu "Spreading" "makers" (aZ 0))))
  (ar (bz 4 (kBl ab))
  (ar (ie (b7 (af 4)) (ar (bz 5 (aB eG (ag (gu 2) nZ)))
  (ar (eR 6 nZ)
  (ar (cJ (aP (af 3)) (az 7) (bo (fj (b7 (mIx (ao 1) (mIx (ao 7) (kI 0)))) (mB (m2 dIs (aB qQ (ag (mIx (ao 7) (kI 1)) (ag (pB (bu "Spreading" "sheet" (aZ 0))) (ag (gu 1) nZ)))) kN))) (ar (lx 1 (mIx (ao 7) (kI 0)) (kBl ae))
  (gz 2 (af 7))) (gz 6 (af 7))))
  (ar (gy 6 (bz 3 (af 6)))
  (bz 4 (n6 (m2 dGt (aB eG (ag (gu 2) nZ)) (af 5)) (aB mR (ag (gu 1) nZ)))))))) 1000000000)
  (ar (gy 2 (ji 0 "Spreading" "makers" (aZ 0) (oC (aE (jG (af 2) (af 3))))))
  (gy 1 (jB (af 1)))))))))
noncomputable def m_4:MTf:=g9 8 b_4
noncomputable def uK:MF3:=
 (ar (kz 1 (gc 0 "Spreading" "loose_marks" m_4 g8))
  (ar (bz 3 (aE (aU 2 [1] (D9 (pC (bu "Spreading" "sheet" (aZ 0)))) (dh (bm (az 0) (bm (az 1) dE))) (fj (b7 (mIx (ao 2) (af 0))) (mB (m2 dIs (af 1) (kBl ab)))) (af 0))))
  (ar (bo (b7 (af 3)) (jB (bE (ag (kSt "group") (ag (aE (oN "Spreading" "kernel" o_3 (gu 0) (ag (mIx (ao 3) (kI 0)) (ag (af 1) nZ)))) nZ)))) bL)
  (ar (cJ (mT (ag (af 1) nZ)) (dh (bm (az 2) (bm (az 4) dE))) (bo (b7 (af 4)) (jg (gc 0 "Spreading" "put" uA (eV (mX (af 2)) (eV (mX (kBl ae)) (eV (mX (bE (ag (kSt "group") (ag (aE (oN "Spreading" "kernel" o_3 (gu 0) (ag (af 2) (ag (af 1) nZ)))) nZ)))) g8))))) bL))
  (jB kN)))))
noncomputable def Ak:MTf:=g9 5 uK
noncomputable def uL:MF3:=
 (ar (bz 1 (kBl ab))
  (ar (ie (b7 (af 1)) (ar (kz 2 (gc 0 "Spreading" "look_round" Aa g8))
  (ar (bo (mB (m2 dIs (af 2) kN)) (kz 2 (gc 0 "Spreading" "put_loose_out" Ak g8)) bL)
  (bz 1 (n6 (m2 dIs (af 2) kN) (m2 dGt (aB eG (ag (pB (bu "Spreading" "waiting" (aZ 0))) nZ)) (kI 0)))))) 1000000000)
  (jB (af 2))))
noncomputable def Al:MTf:=g9 3 uL
noncomputable def uM:MF3:=
 (ar (qo 3 (oM "Spreading" m_8 (ag (af 0) (ag (af 1) (ag (af 2) nZ)))))
  (ar (kz 4 (oJ 3 "Spreading" "settle" Al g8))
  (ar (t4 3 5 "Spreading" "steps")
  (ar (bo (mB (m2 gx (af 4) kN)) (gz 5 (bE (ag kN (ag (af 4) nZ)))) bL)
  (gy 5 (tZ 3 "Spreading" "sheet" (aY (bE (ag (pD (bu "Spreading" "sheet" (aZ 3))) (ag (af 5) nZ))))))))))
noncomputable def uN:=aV 6 uM
noncomputable def b_0:MF3:=
 (ar (bz 1 (aB m_2 (ag (aB oR (ag (af 0) (ag (kI 0) nZ))) (ag (kI 4) nZ))))
  (ar (bz 2 (m2 lh (m2 cS (m2 bI (mIx (ao 1) (kI 0)) (kI 13)) (kI 2)) (kI 3)))
  (ar (eR 3 (om o_9 (ag (m2 bI (mIx (ao 1) (kI 1)) (kI 5)) (ag (af 2) nZ))))
  (ar (cJ (aP (aE (mSl (af 0) (mPt (kI 3)) (mPt (kI 63))))) (az 4) (gz 3 (aB zl (ag (af 4) (ag (af 2) (ag (m2 dEq (m2 bI (mIx (ao 1) (kI 2)) (kI 2)) (kI 0)) nZ))))))
  (ar (bz 5 (aB zm (ag (aB oR (ag (af 0) (ag (kI 1) nZ))) (ag (af 2) nZ))))
  (ar (bz 6 (aE (aU 1 [2] (aP (aB m_2 (ag (aB oR (ag (af 0) (ag (kI 2) nZ))) (ag (m2 bI (mIx (ao 1) (kI 3)) (kI 5)) nZ)))) (az 0) kY (aB ub (ag (af 0) (ag (af 1) nZ))))))
  (ar (gy 3 (bz 7 (aE (ag (bE (ag (af 2) (ag (aB m_6 (ag (af 3) nZ)) nZ))) (ag (aE (aU 1 [] (aP (af 6)) (az 0) kY (aE (ao 0)))) (ag (aE (ao 5)) nZ))))))
  (ar (bz 8 (aB uN (ag (mIx (ao 7) (kI 0)) (ag (mIx (ao 7) (kI 1)) (ag (mIx (ao 7) (kI 2)) nZ)))))
  (ar (bo (mOr (gY (b7 (mL "tuple" (af 8)))) (mOr (mB (m2 dNe (aB eG (ag (af 8) nZ)) (kI 2))) (gY (b7 (mL "list" (mIx (ao 8) (kI 1))))))) (aY (kBl ae)) bL)
  (ar (bo (mOr (gY (b7 (mL "list" (mIx (ao 8) (kI 0))))) (mB (m2 dNe (aB eG (ag (mIx (ao 8) (kI 0)) nZ)) (af 2)))) (aY (kBl ae)) bL)
  (ar (bo (fj (mB (m2 dNe (mIx (ao 8) (kI 1)) (aE nZ))) (mOr (gY (b7 (mL "tuple" (mIx (aP (mIx (ao 8) (kI 1))) (m1 sH (kI 1)))))) (mB (m2 dNe (aB eG (ag (mIx (aP (mIx (ao 8) (kI 1))) (m1 sH (kI 1))) nZ)) (kI 2))))) (aY (kBl ae)) bL)
  (ar (gy 3 (bz 9 (aB zk (ag (af 3) (ag (af 6) (ag (af 5) nZ))))))
  (ar (bo (fj (mB (m2 dNe (mIx (ao 8) (kI 1)) (aE nZ))) (mB (m2 dIs (mIx (aP (mIx (aP (mIx (ao 8) (kI 1))) (m1 sH (kI 1)))) (kI 0)) kN))) (aY (m2 dEq (af 9) (aE nZ))) bL)
  (aY (aB iK (ag (aE (aU 1 [8] (aP (af 9)) (az 0) kY (aB qH (ag (af 0) (ag (mIx (ao 1) (kI 0)) nZ))))) nZ))))))))))))))))
noncomputable def m_0:=aV 10 b_0
variable{P:cH}{w:World}{K:aX}{mg:MGT}{base:Heap}{a:Wa}
theorem Er(W:Wd K mg a):qD P w K mg base a 1 "_law_agrees" a.e_28 ["_law_held","_law_sheet_here"] qH:=by
 refine W.e_28.pk (bi (F:=za) W.e_28.F Ml λ_ _ _ _ _ _ hr=>?_);have hu:=hr.units;unfold za;exact(aq (bg (cB (qb rfl) qd rfl W.z_all boot_all (bH (DE.db (DO.de (bV 2 [] ["_law_entry","_law_truth"] rfl (DI.de (JF rfl W.z_zip (ah (dv 1) (ah (dv 0) ak)))) (λ_ _ _ _ _=>(eJ rfl (bK (dgc 0 2) (bK (dgc 1 2) eI)))) (λ_ _ _ _ _=>c8) (λ_ _ _ _ _=>(Cn (dw eC eE (DE.db (dvc 0)) (DE.db c7)) (sy (dw (cA hu) cz (DE.db (dvc 0)) (DE.db (dvc 1))))))))) b6))))
theorem qR(W:Wd K mg a):qD P w K mg base a 1 "_law_mixed" a.e_2 ["_law_cell","_law_many"] m_2:=by
 refine W.e_2.pk (bi (F:=b_2) W.e_2.F qA λ_ _ _ _ _ _ hr=>?_);unfold b_2;exact (ax (ja 2 qA.nd (bq ak))
 (ax (ce 3 qA.nd (aQ fY (aQ jf (aQ cy (dv 0) aj) aj) aj))
 (ax (dN cT rfl (lq rfl W.z_range (ah (dv 1) ak)) (cC 4 5 qA.nd) (ax (ce 3 qA.nd (aQ cy (aQ fY (aQ fY (aQ jf (dv 3) (aQ fY (dv 3) aj)) (aQ jf aj (dv 4))) aj) aj))
 (aq (jC (fc (fh e8 gQ gR gW (pv 2) (du (dv 3) c6)))))))
 (aq (mN 2)))))
theorem ML(W:Wd K mg a):qD P w K mg base a 2 "_law_bar" a.e_27 ["_law_cell","_law_many"] ub:=by
 refine W.e_27.pk (bi (F:=ua) W.e_27.F Ek λ_ _ _ _ _ _ hr=>?_);have hu:=hr.units;unfold ua;exact (ax (ce 2 Ek.nd (bB (qR W) hr (ah (dv 0) (ah aj ak))))
 (ax (bM (DW.dt (lg (bc (cA hu) cz (DE.db (dv 1)) (DE.db aj)) (mw (bc (cA hu) cz (DE.db (aQ cy (au (dvC 2) aj) aj)) (DE.db aj))))) (aq (dS (bq ak))) bP)
 (aq (dS (bV 1 [1,2] ["_law_k","_law_many","_law_xs"] rfl (DI.de (lq rfl W.z_range (ah (aQ fY aj (aQ cy (au (dvC 2) aj) (Jy (K7 rfl) rfl W.z_min boot_min (ah aj (ah (dv 1) ak))))) ak))) (λ_ _ _ _ _=>(dgc 0 1)) (λ_ _ _ _ _=>c8) (λ_ _ _ _ _=>(cb (ah (aQ cy (aQ fY (au (d3 2) aj) (dvc 0)) (dvc 1)) (ah (dw (cA hu) cz (DE.db (aQ cy (au (d3 2) (aQ fY aj (dvc 0))) aj)) (DE.db aj)) ak)))))))))
theorem Am(W:Wd K mg a):qD P w K mg base a 1 "_law_cell_at" a.e_15 ["_law_script","_law_k"] oR:=by
 refine W.e_15.pk (bi (F:=zb) W.e_15.F Md λ_ _ _ _ _ _ hr=>?_);unfold zb;exact (ax (bM (bc wA wD (DE.db (dv 1)) (DE.db (cB fZ f6 rfl W.z_len fS (bH (DE.db (dv 0)) b6)))) (aq (bg (au (dvC 0) (dv 1)))) bP)
 (aq (bg aj)))
theorem MM(W:Wd K mg a):qD P w K mg base a 1 "_law_copy" a.e_6 ["_law_rules"] m_6:=by
 refine W.e_6.pk (bi (F:=b_6) W.e_6.F lE λ_ _ _ _ _ _ hr=>?_);have hu:=hr.units;unfold b_6;exact (ax (ja 1 lE.nd (bq ak))
 (ax (dN cT rfl (bh (dv 0)) (eJ rfl (bK (cC 2 7 lE.nd) (bK (cC 3 7 lE.nd) (bK (cC 4 7 lE.nd) eI)))) (ax (ja 5 lE.nd (bq ak))
 (ax (dN cT rfl (bh (dv 4)) (cC 6 7 lE.nd) (ax (bM (bc (cA hu) cz (DE.db (cB fZ f6 rfl W.z_len fS (bH (DE.db (dv 6)) b6))) (DE.db aj)) (aq (ce 6 lE.nd (cb (ah (au (dvC 6) aj) (ah (au (dvC 6) aj) (ah (DO.de (oj kO rfl W.z_list (DE.dc (au (dvC 6) aj)))) ak)))))) bP)
 (aq (jC (fc (fh e8 gQ gR gW (pv 5) (du (dv 6) c6)))))))
 (aq (jb 5 (jC (fc (fh e8 gQ gR gW (pv 1) (du (cb (ah (dv 2) (ah (dv 3) (ah (dv 5) ak)))) c6)))))))))
 (aq (mN 1))))
theorem MN(W:Wd K mg a):qD P w K mg base a 1 "_law_all" a.e_23 ["_law_many"] zc:=by
 refine W.e_23.pk (bi (F:=uc) W.e_23.F t8 λ_ _ _ _ _ _ hr=>?_);unfold uc;exact (ax (ce 1 t8.nd (DO.de (bq (ah (DO.de (bq ak)) ak))))
 (ax (dN cT rfl (lq rfl W.z_range (ah (dv 0) ak)) (cC 2 3 t8.nd) (aq (ce 1 t8.nd (DO.de (tL (DO.de (bV 1 [] ["_law_row"] rfl (DI.de (bh (dv 1))) (λ_ _ _ _ _=>(dgc 0 1)) (λ_ _ _ _ _=>c8) (λ_ _ _ _ _=>(DO.de (tL (dvc 0) (DO.de (bq (ah b5 ak)))))))) (DO.de (bV 1 [] ["_law_row"] rfl (DI.de (bh (dv 1))) (λ_ _ _ _ _=>(dgc 0 1)) (λ_ _ _ _ _=>c8) (λ_ _ _ _ _=>(DO.de (tL (dvc 0) (DO.de (bq (ah b5 ak)))))))))))))
 (aq (mN 1))))
theorem MO(W:Wd K mg a):qD P w K mg base a 1 "_law_fits" a.e_50 ["_law_sheet_here","_law_bar_here"] ze:=by
 refine W.e_50.pk (bi (F:=zd) W.e_50.F Mi λ_ _ _ _ _ _ hr=>?_);have hu:=hr.units;unfold zd;exact(aq (bg (cB (qb rfl) qd rfl W.z_all boot_all (bH (DE.db (DO.de (bV 2 [0] ["_law_thing","_law_truth","_law_sheet_here"] rfl (DI.de (bh (dv 1))) (λ_ _ _ _ _=>(eJ rfl (bK (dgc 0 2) (bK (dgc 1 2) eI)))) (λ_ _ _ _ _=>c8) (λ_ _ _ _ _=>(dw (cA hu) cz (DE.db (au (d3 2) (dvc 0))) (DE.db (dvc 1))))))) b6))))
theorem MP(W:Wd K mg a):qD P w K mg base a 1 "_law_part_sure" a.e_45 ["_law_part_here","_law_sheet_here"] ud:=by
 refine W.e_45.pk (bi (F:=zf) W.e_45.F Mg λ_ _ _ _ _ _ hr=>?_);have hu:=hr.units;unfold zf;exact (ax (bM (bc (cA hu) cz (DE.db (au (dvC 0) aj)) (DE.db bU)) (aq (bg (dw eC eE (DE.db (au (dvC 1) (au (dvC 0) aj))) (DE.db b5)))) bP)
 (ax (bM (bc (cA hu) cz (DE.db (au (dvC 0) aj)) (DE.db bU)) (aq (bg (dw eC eE (DE.db (au (dvC 1) (au (dvC 0) aj))) (DE.db b5)))) bP)
 (ax (bM (bc (cA hu) cz (DE.db (au (dvC 0) aj)) (DE.db bU)) (aq (bg (dw sE sG (DE.db (cB (mJ rfl) mK rfl W.z_sum lT (bH (DE.db (DO.de (bV 2 [1] ["_law_thing","_law_worth_here","_law_sheet_here"] rfl (DI.de (bh (au (dvC 0) aj))) (λ_ _ _ _ _=>(eJ rfl (bK (dgc 0 2) (bK (dgc 1 2) eI)))) (λ_ _ _ _ _=>(f8 (bc eC eE (DE.db (au (d3 2) (dvc 0))) (DE.db b5)))) (λ_ _ _ _ _=>(dvc 1))))) b6))) (DE.db (au (dvC 0) aj))))) bP)
 (aq (bg (dw wB wE (DE.db (cB (mJ rfl) mK rfl W.z_sum lT (bH (DE.db (DO.de (bV 2 [1] ["_law_thing","_law_worth_here","_law_sheet_here"] rfl (DI.de (bh (au (dvC 0) aj))) (λ_ _ _ _ _=>(eJ rfl (bK (dgc 0 2) (bK (dgc 1 2) eI)))) (λ_ _ _ _ _=>(f8 (bc my mz (DE.db (au (d3 2) (dvc 0))) (DE.db b5)))) (λ_ _ _ _ _=>(dvc 1))))) b6))) (DE.db (au (dvC 0) aj))))))))
theorem MQ(W:Wd K mg a):qD P w K mg base a 2 "_law_broken" a.e_49 ["_law_rule_here","_law_sheet_here"] zh:=by
 refine W.e_49.pk (bi (F:=zg) W.e_49.F Mh λ_ _ _ _ _ _ hr=>?_);have hu:=hr.units;unfold zg;exact (ax (bM (DW.dt (lg (bc (cA hu) cz (DE.db (au (dvC 0) aj)) (DE.db bU)) (mw (DW.dt (jy (bc (cA hu) cz (DE.db (au (dvC 0) aj)) (DE.db bU)) (lc (bc my mz (DE.db (au (dvC 1) (au (dvC 0) aj))) (DE.db b5)))))))) (aq (bg b5)) bP)
 (aq (bg (cB (qb rfl) qd rfl W.z_all boot_all (bH (DE.db (DO.de (bV 1 [1] ["_law_part_here","_law_sheet_here"] rfl (DI.de (bh (au (dvC 0) aj))) (λ_ _ _ _ _=>(dgc 0 1)) (λ_ _ _ _ _=>c8) (λ_ _ _ _ _=>(bB (MP W) hr (ah (dvc 0) (ah (dvc 1) ak))))))) b6)))))
theorem MR(W:Wd K mg a):qD P w K mg base a 1 "_law_holds" a.e_51 ["_law_part_here","_law_rising","_law_held"] zj:=by
 refine W.e_51.pk (bi (F:=zi) W.e_51.F Mj λ_ _ _ _ _ _ hr=>?_);have hu:=hr.units;unfold zi;exact (ax (bM (bc (cA hu) cz (DE.db (au (dvC 0) aj)) (DE.db bU)) (aq (bg (au (dvC 1) (au (dvC 0) aj)))) bP)
 (ax (bM (bc (cA hu) cz (DE.db (au (dvC 0) aj)) (DE.db bU)) (aq (bg (Co (au (dvC 2) (au (dvC 0) aj))))) bP)
 (ax (bM (bc (cA hu) cz (DE.db (au (dvC 0) aj)) (DE.db bU)) (aq (bg (dw sE sG (DE.db (cB (mJ rfl) mK rfl W.z_sum lT (bH (DE.db (DO.de (bV 2 [1] ["_law_thing","_law_worth_here","_law_rising"] rfl (DI.de (bh (au (dvC 0) aj))) (λ_ _ _ _ _=>(eJ rfl (bK (dgc 0 2) (bK (dgc 1 2) eI)))) (λ_ _ _ _ _=>(f8 (cV (DE.db (au (d3 2) (dvc 0)))))) (λ_ _ _ _ _=>(dvc 1))))) b6))) (DE.db (au (dvC 0) aj))))) bP)
 (aq (bg (dw wB wE (DE.db (cB (mJ rfl) mK rfl W.z_sum lT (bH (DE.db (DO.de (bV 2 [2] ["_law_thing","_law_worth_here","_law_held"] rfl (DI.de (bh (au (dvC 0) aj))) (λ_ _ _ _ _=>(eJ rfl (bK (dgc 0 2) (bK (dgc 1 2) eI)))) (λ_ _ _ _ _=>(f8 (cV (DE.db (au (d3 2) (dvc 0)))))) (λ_ _ _ _ _=>(dvc 1))))) b6))) (DE.db (au (dvC 0) aj))))))))
theorem MS(W:Wd K mg a):qD P w K mg base a 3 "_law_stands" a.e_7 ["_law_rules","_law_held"] m_7:=by
 refine W.e_7.pk (bi (F:=b_7) W.e_7.F oP λ_ _ _ _ _ _ hr=>?_);have hu:=hr.units;unfold b_7;exact (ax (bM (cV (DE.db (cB (wV rfl) wW rfl W.z_any boot_any (bH (DE.db (DO.de (bV 1 [1] ["_law_rule_here","_law_held"] rfl (DI.de (bh (dv 0))) (λ_ _ _ _ _=>(dgc 0 1)) (λ_ _ _ _ _=>c8) (λ_ _ _ _ _=>(bB (MQ W) hr (ah (dvc 0) (ah (dvc 1) ak))))))) b6)))) (aq (bg b5)) bP)
 (ax (ja 2 oP.nd (bV 1 [] ["_law_truth"] rfl (DI.de (bh (dv 1))) (λ_ _ _ _ _=>(dgc 0 1)) (λ_ _ _ _ _=>c8) (λ_ _ _ _ _=>b5)))
 (ax (dN cT rfl (lq rfl W.z_range (ah (cB fZ f6 rfl W.z_len fS (bH (DE.db (dv 1)) b6)) ak)) (cC 3 7 oP.nd) (aq (dN cT rfl (bh (dv 0)) (eJ rfl (bK (cC 4 7 oP.nd) (bK (cC 5 7 oP.nd) (bK (cC 6 7 oP.nd) eI)))) (aq (bM (DW.dt (jy (bc (mF hu) mD (DE.db (dv 4)) (DE.db bU)) (jy (cV (DE.db (au (dvC 1) (dv 5)))) (lc (jz (cV (DE.db (au (dvC 2) (dv 5))))))))) (aq (CY (pv 2) (dv 5) (cB (qb rfl) qd rfl W.z_all boot_all (bH (DE.db (DO.de (bV 1 [2,1] ["_law_part_here","_law_rising","_law_held"] rfl (DI.de (bh (dv 6))) (λ_ _ _ _ _=>(dgc 0 1)) (λ_ _ _ _ _=>c8) (λ_ _ _ _ _=>(KY (MR W) hr (bH (DE.db (dvc 0)) (bH (CB 1) (bH (DE.db (dvc 2)) b6)))))))) b6)))) bP)))))
 (aq (jb 2 (bg (dw (cA hu) cz (DE.db (dv 2)) (DE.db (dv 1)))))))))
theorem MT(W:Wd K mg a):qD P w K mg base a 4 "_law_left" a.e_29 ["_law_rules","_law_bars","_law_sheet_here"] zk:=by
 refine W.e_29.pk (bi (F:=ue) W.e_29.F y8 λ_ _ _ _ _ _ hr=>?_);unfold ue;exact (ax (ja 3 y8.nd (bq ak))
 (ax (dN cT rfl (bh (bB (MN W) hr (ah (cB fZ f6 rfl W.z_len fS (bH (DE.db (dv 2)) b6)) ak))) (cC 4 5 y8.nd) (aq (bM (DW.dt (jy (cV (DE.db (bB (Er W) hr (ah (dv 4) (ah (dv 2) ak))))) (lc (jz (cV (DE.db (cB (wV rfl) wW rfl W.z_any boot_any (bH (DE.db (DO.de (bV 1 [4] ["_law_bar_here","_law_held"] rfl (DI.de (bh (dv 1))) (λ_ _ _ _ _=>(dgc 0 1)) (λ_ _ _ _ _=>c8) (λ_ _ _ _ _=>(bB (MO W) hr (ah (dvc 1) (ah (dvc 0) ak))))))) b6)))))))) (aq (bM (cV (DE.db (bB (MS W) hr (ah (dv 0) (ah (dv 4) ak))))) (aq (jC (fc (fh e8 gQ gR gW (pv 3) (du (dv 4) c6))))) bP)) bP)))
 (aq (mN 3))))
theorem MU(W:Wd K mg a):qO P w K mg base a 1 "_law_ring" a.e_9 ["_law_kind","_law_many"] o_9:=by
 refine W.e_9.pk (wR (F:=b_9) W.e_9.F qB λ_ _ _ _ _ _ hr=>?_);unfold b_9;exact (ax (ja 2 qB.nd (bq ak))
 (ax (dN cT rfl (lq rfl W.z_range (ah (dv 1) ak)) (cC 3 6 qB.nd) (ax (ce 4 qB.nd (aQ cy (aQ fY (dv 3) aj) (dv 1)))
 (ax (ce 5 qB.nd (au (DO.dc (bq (ah c7 (ah (cb (ah bU (ah (dv 3) ak))) (ah (cb (ah bU (ah (dv 3) ak))) (ah (cb (ah bU (ah aj (ah (DO.de (bq (ah (cb (ah (dv 3) (ah aj ak))) (ah (cb (ah (dv 4) (ah aj ak))) ak)))) ak)))) (ah (cb (ah bU (ah aj (ah (DO.de (bq (ah (cb (ah (dv 3) (ah aj ak))) ak))) ak)))) ak))))))) (dv 0)))
 (aq (bM (bc my mz (DE.db (dv 5)) (DE.db c7)) (aq (jC (fc (fh e8 gQ gR gW (pv 2) (du (cb (ah (au (DO.dc (bq (ah bU (ah bU ak)))) (aQ n9 (aQ cy (aQ jf (dv 3) (dv 0)) aj) aj)) (ah (dv 4) (ah (DO.de (bq (ah (dv 5) ak))) ak)))) c6))))) bP)))))
 (aq (mN 2))))
theorem MV(W:Wd K mg a):qD P w K mg base a 1 "_law_worth" a.e_25 ["_law_x"] qI:=by
 refine W.e_25.pk (bi (F:=uf) W.e_25.F Mf λ_ _ _ _ _ _ hr=>?_);have hu:=hr.units;unfold uf;exact (ax (bM (bc (cA hu) cz (DE.db (aQ cy (dv 0) aj)) (DE.db aj)) (aq (bg (aQ cy (aQ jf (aQ jf (aQ jf (dv 0) (dv 0)) (dv 0)) (dv 0)) (aQ Jq aj aj)))) bP)
 (aq (bg (au (DO.dc (bq (ah aj (ah aj (ah aj (ah aj (ah aj (ah aj (ah aj (ah aj ak)))))))))) (aQ cy (aQ n9 (dv 0) aj) aj)))))
theorem MW(W:Wd K mg a):qD P w K mg base a 2 "_law_part" a.e_16 ["_law_xs","_law_many"] uh:=by
 refine W.e_16.pk (bi (F:=ug) W.e_16.F t7 λ_ _ _ _ _ _ hr=>?_);have hu:=hr.units;unfold ug;exact (ax (ce 2 t7.nd (au (DO.dc (bq (ah bU (ah bU (ah bU (ah bU (ah bU ak))))))) (aQ cy (au (dvC 0) aj) aj)))
 (ax (bM (DW.dt (lg (bc (cA hu) cz (DE.db (dv 2)) (DE.db bU)) (mw (bc (cA hu) cz (DE.db (dv 2)) (DE.db bU))))) (aq (bg (cb (ah (dv 2) (ah (aQ cy (au (dvC 0) aj) (dv 1)) ak))))) bP)
 (ax (sU 3 1 [1,0] ["_law_k","_law_many","_law_xs"] t7.nd rfl (DI.de (lq rfl W.z_range (ah (aQ cy (au (dvC 0) aj) aj) ak))) (λ_ _ _ _ _=>(dgc 0 1)) (λ_ _ _ _ _=>c8) (λ_ _ _ _ _=>(cb (ah (aQ cy (au (d3 2) (aQ fY aj (aQ jf aj (dvc 0)))) (dvc 1)) (ah (bB (MV W) hr (ah (au (d3 2) (aQ fY aj (aQ jf aj (dvc 0)))) ak)) ak)))))
 (ax (ce 4 t7.nd (cB (mJ rfl) mK rfl W.z_sum lT (bH (DE.db (DO.de (bV 2 [] ["_law_thing","_law_worth_here"] rfl (DI.de (bh (DO.de (by refine oi ?a ?b ?c; (case a=>exact (dv 3)); (case b=>exact sM); (case c=>exact (lj (aQ cy (au (dvC 0) aj) aj))))))) (λ_ _ _ _ _=>(eJ rfl (bK (dgc 0 2) (bK (dgc 1 2) eI)))) (λ_ _ _ _ _=>c8) (λ_ _ _ _ _=>(dvc 1))))) b6)))
 (aq (bg (cb (ah (dv 2) (ah (aQ sD (aQ fY (dv 4) (aQ cy (aQ n9 (au (dvC 0) aj) aj) aj)) aj) (ah (dv 3) ak))))))))))
theorem MX(W:Wd K mg a):qD P w K mg base a 3 "_law_rule" a.e_26 ["_law_cell","_law_many","_law_calm"] zl:=by
 refine W.e_26.pk (bi (F:=ui) W.e_26.F y7 λ_ _ _ _ _ _ hr=>?_);have hu:=hr.units;unfold ui;refine (ax (ce 3 y7.nd (bB (qR W) hr (ah (dv 0) (ah aj ak))))
 (ax (bM (bc (cA hu) cz (DE.db (dv 1)) (DE.db aj)) ?hole0 bP)
 (ax (sU 4 1 [1,3] ["_law_k","_law_many","_law_xs"] y7.nd rfl (DI.de (lq rfl W.z_range (ah (au (DO.dc (bq (ah aj (ah aj (ah aj (ah aj (ah aj (ah aj ak)))))))) (aQ cy (au (dvC 3) aj) aj)) ak))) (λ_ _ _ _ _=>(dgc 0 1)) (λ_ _ _ _ _=>c8) (λ_ _ _ _ _=>(bB (MW W) hr (ah (DO.de (by refine oi ?a ?b ?c; (case a=>exact (dvc 2)); (case b=>exact (lj (aQ fY aj (aQ jf aj (dvc 0))))); (case c=>exact (lj (aQ fY aj (aQ jf aj (dvc 0))))))) (ah (dvc 1) ak)))))
 (ax (bM (DW.dt (jy (bc (cA hu) cz (DE.db (aQ cy (au (dvC 3) aj) aj)) (DE.db aj)) (jy (jz (cV (DE.db (dv 2)))) (lc (DW.dt (lg (bc (mF hu) mD (DE.db (dv 4)) (DE.db (DO.de (bq ak)))) (mw (bc (cA hu) cz (DE.db (aQ cy (au (dvC 3) aj) aj)) (DE.db aj))))))))) (aq (bg (cb (ah bU (ah c7 (ah (dv 4) ak)))))) bP)
 (aq (bg (cb (ah (au (DO.dc (bq (ah bU (ah bU ak)))) (aQ cy (aQ n9 (au (dvC 3) aj) aj) aj)) (ah (aQ cy (aQ n9 (au (dvC 3) aj) aj) (dv 1)) (ah (dv 4) ak))))))))))
 (case hole0=>refine aq ?_;refine bg ?_;refine cb ?_;refine ah ?_ ?_;(focus exact bU);refine ah ?_ ?_;(focus exact c7);refine ah ?_ ?_;(focus (refine DO.de ?_;exact(by refine oi ?a ?b ?c;(case a=>exact(DO.de (bq (ah (cb (ah (au (DO.dc (bq (ah bU (ah bU ak)))) (aQ cy (au (dvC 3) aj) aj)) (ah (aQ sD (aQ cy (au (dvC 3) aj) aj) aj) (ah (DO.de (bq ak)) ak)))) ak))));(case b=>exact sM);(case c=>exact(lj (aQ cy (au (dvC 3) aj) aj))))));exact ak)
theorem MY(W:Wd K mg a):qD P w K mg base a 2 "_law_sheet" a.e_37 ["_law_cell","_law_many"] zm:=by
 refine W.e_37.pk (bi (F:=uj) W.e_37.F El λ_ _ _ _ _ _ hr=>?_);have hu:=hr.units;unfold uj;exact (ax (ce 2 El.nd (bB (qR W) hr (ah (dv 0) (ah (aQ fY (dv 1) aj) ak))))
 (ax (bM (bc (cA hu) cz (DE.db (aQ cy (au (dvC 2) (dv 1)) aj)) (DE.db aj)) (aq (dS (bV 1 [] ["_law_x"] rfl (DI.de (bh (DO.de (by refine oi ?a ?b ?c; (case a=>exact (dv 2)); (case b=>exact sM); (case c=>exact (lj (dv 1))))))) (λ_ _ _ _ _=>(dgc 0 1)) (λ_ _ _ _ _=>c8) (λ_ _ _ _ _=>c7)))) bP)
 (aq (dS (bV 1 [] ["_law_x"] rfl (DI.de (bh (DO.de (by refine oi ?a ?b ?c;(case a=>exact(dv 2));(case b=>exact sM);(case c=>exact(lj (dv 1))))))) (λ_ _ _ _ _=>(dgc 0 1)) (λ_ _ _ _ _=>c8) (λ_ _ _ _ _=>(au (DO.dc (bq (ah c7 (ah c7 (ah c7 (ah b5 (ah b5 ak))))))) (aQ cy (dvc 0) aj))))))))
theorem MZ(W:Wd K mg a):Pm P w K mg base CX0 1 (a.cl "Spreading") "drop_wider" a.e_11 ["self","bar"] (fO ⟨K,a.cl⟩ ["self","bar"].length zn):=by
 refine W.e_11.pk W.cl_Spreading (kA (F:=uk) W.e_11.F oQ λ_ _ _ _ _ _ hr=>?_);have hu:=hr.units;unfold uk
 exact (LX (w:=2) (pr:=3) (by decide) (LY (by decide)) LZ (by decide) (ml oQ.nd rfl (by first | exact cv rfl | exact bO rfl) (Bo (cV (DE.db (dv 1))) (xQ (hu1 hu) (dG "Spreading" W.cl_Spreading W.na_Spreading_watches (cu (pv 0))) (au (dvC 1) aj) ⟨rfl,rfl,rfl,rfl⟩) (sd c6))) (Bu cT rfl (bh (dv 1)) (vI oQ.nd rfl (by first | exact cv rfl | exact bO rfl)) (Bq (wx (g:=tDG _ (az 0)) (tt:=tDT _ (mB (m2 ij (af 0) (aE (iQ (bu "Spreading" "watches" (aZ 2)) (af 1)))))) (te:=tD _ (af 0)) 1 [3,0] ["why","pair","self"] oQ.nd rfl (by first | exact cv rfl | exact bO rfl) rfl (vM (pv 2)) (λ_ _ _ _ _=>DG.pg (dgc 0 1)) (λ_ _ _ _ _=>(f8 (bc (C2 hu) C0 (DE.db (dvc 0)) (DL.db (xQ (hu1 hu) (dG "Spreading" W.cl_Spreading W.na_Spreading_watches (cu (pvc 2))) (dvc 1) ⟨rfl,rfl,rfl,rfl⟩))))) (λ_ _ _ _ _=>(dvc 0)))))
 (aq (jb 2 (dN cT rfl (bh (dv 2)) (cC 4 5 oQ.nd) (aq (bM (bc (cA hu) cz (DE.db (au (dvC 4) aj)) (DE.db bU)) (aq (dN cT rfl (bh (au (DL.dc (xP (dG "Spreading" W.cl_Spreading W.na_Spreading_bars (cu (pv 0))))) (au (dvC 4) aj))) (cC 3 5 oQ.nd) (aq (LU (fc (fh e8 PySem.F.slot_list_remove PySem.F.type_list_remove (LR hu) (D0 (hu1 hu) (dG "Spreading" W.cl_Spreading W.na_Spreading_watches (cu (pv 0))) (dv 3)) (du (dv 4) c6))))))) bP))))))
theorem Es(W:Wd K mg a):Pm P w K mg base CX0 1 (a.cl "In") "named" a.e_38 ["self"] (spD ⟨K,a.cl⟩ ["self"].length ul):=by
 refine W.e_38.pk W.cl_In (bi (F:=zo) W.e_38.F Mn λ_ _ _ _ _ _ hr=>?_);unfold zo;exact(aq (dS (bq (ah (bW "In" W.cl_In W.na_In_thing (dv 0)) ak))))
theorem M0(W:Wd K mg a):Pm P w K mg base CX0 1 (a.cl "In") "wants" a.e_52 ["self"] (spD ⟨K,a.cl⟩ ["self"].length zq):=by
 refine W.e_52.pk W.cl_In (bi (F:=zp) W.e_52.F Mo λ_ _ _ _ _ _ hr=>?_);unfold zp;exact(aq (bg b5))
theorem Et(W:Wd K mg a):qD P w K mg base a 1 "things_of" a.e_36 ["items"] um:=by
 refine W.e_36.pk (bi (F:=zt) W.e_36.F L8 λ_ _ _ _ _ _ hr=>?_);unfold zt;exact(aq (dS (KO rfl rfl W.z_sorted rfl W.z_set (DO.de (bV 2 [] ["thing","worth"] rfl (DI.de (bh (dv 0))) (λ_ _ _ _ _=>(eJ rfl (bK (dgc 0 2) (bK (dgc 1 2) eI)))) (λ_ _ _ _ _=>c8) (λ_ _ _ _ _=>(dvc 0)))))))
theorem Eu(W:Wd K mg a):Pm P w K mg base CX0 2 (a.cl "Least") "named" a.e_40 ["self"] (spD ⟨K,a.cl⟩ ["self"].length uo):=by
 refine W.e_40.pk W.cl_Least (bi (F:=zu) W.e_40.F Mz λ_ _ _ _ _ _ hr=>?_);unfold zu;exact(aq (bg (bB (Et W) hr (ah (bW "Least" W.cl_Least W.na_Least_pieces (dv 0)) ak))))
theorem M1(W:Wd K mg a):Pm P w K mg base CX0 1 (a.cl "Least") "wants" a.e_59 ["self"] (spD ⟨K,a.cl⟩ ["self"].length zx):=by
 refine W.e_59.pk W.cl_Least (bi (F:=zw) W.e_59.F MA λ_ _ _ _ _ _ hr=>?_);unfold zw;exact(aq (bg b5))
theorem Ev(W:Wd K mg a):Pm P w K mg base CX0 2 (a.cl "Most") "named" a.e_42 ["self"] (spD ⟨K,a.cl⟩ ["self"].length uq):=by
 refine W.e_42.pk W.cl_Most (bi (F:=zy) W.e_42.F ME λ_ _ _ _ _ _ hr=>?_);unfold zy;exact(aq (bg (bB (Et W) hr (ah (bW "Most" W.cl_Most W.na_Most_pieces (dv 0)) ak))))
theorem M3(W:Wd K mg a):Pm P w K mg base CX0 1 (a.cl "Most") "wants" a.e_61 ["self"] (spD ⟨K,a.cl⟩ ["self"].length zB):=by
 refine W.e_61.pk W.cl_Most (bi (F:=zA) W.e_61.F MF λ_ _ _ _ _ _ hr=>?_);unfold zA;exact(aq (bg b5))
theorem Ew(W:Wd K mg a):Pm P w K mg base CX0 1 (a.cl "Out") "named" a.e_39 ["self"] (spD ⟨K,a.cl⟩ ["self"].length ur):=by
 refine W.e_39.pk W.cl_Out (bi (F:=zC) W.e_39.F Mt λ_ _ _ _ _ _ hr=>?_);unfold zC;exact(aq (dS (bq (ah (bW "Out" W.cl_Out W.na_Out_thing (dv 0)) ak))))
theorem M4(W:Wd K mg a):Pm P w K mg base CX0 1 (a.cl "Out") "wants" a.e_56 ["self"] (spD ⟨K,a.cl⟩ ["self"].length zE):=by
 refine W.e_56.pk W.cl_Out (bi (F:=zD) W.e_56.F Mu λ_ _ _ _ _ _ hr=>?_);unfold zD;exact(aq (bg b5))
theorem Ex(W:Wd K mg a):Pm P w K mg base CX0 3 (a.cl "Spreading") "take_guard" a.e_10 ["self","why","guard"] (fO ⟨K,a.cl⟩ ["self","why","guard"].length qJ):=by
 refine W.e_10.pk W.cl_Spreading (kA (F:=ut) W.e_10.F y9 λ_ _ _ _ _ _ hr=>?_);have hu:=hr.units;unfold ut;exact (ax (LA (B5 (hu1 hu) (dG "Spreading" W.cl_Spreading W.na_Spreading_guards (cu (pv 0))) (dv 1) (dv 2) rfl))
 (ax (dN cT rfl (bh (dv 2)) (cC 3 5 y9.nd) (aq (dN cT rfl (bh (DE.orE (iJ "In" (dv 3) (Es W) hr) (DE.orE (iJ "Out" (dv 3) (Ew W) hr) (DE.orE (iJ "Least" (dv 3) (Eu W) hr) (iJ "Most" (dv 3) (Ev W) hr))))) (cC 4 5 y9.nd) (aq (LH (fc (fh e8 gQ gR gW (LG (hu1 hu) (dG "Spreading" W.cl_Spreading W.na_Spreading_watches (cu (pv 0))) (cb (ah (dv 4) (ah (DE.orE (iJ "In" (dv 3) (M0 W) hr) (DE.orE (iJ "Out" (dv 3) (M4 W) hr) (DE.orE (iJ "Least" (dv 3) (M1 W) hr) (iJ "Most" (dv 3) (M3 W) hr)))) ak))) (sd c6) ⟨rfl,rfl,rfl,rfl⟩) (du (pv 1) c6))))))))
 (aq (xR (fc (fh e8 gQ gR gW (dG "Spreading" W.cl_Spreading W.na_Spreading_waiting (cu (pv 0))) (du (dv 1) c6)))))))
theorem Ey(W:Wd K mg a):Pm P w K mg base CX0 1 (a.cl "In") "__init__" a.e_65 ["self","thing"] (spI ⟨K,a.cl⟩ "In" ["self","thing"].length zF):=
 W.e_65.pk W.cl_In (sX W.e_65.F Mm λ_ _ _ _ _ _ hr=>(ot W.cl_In W.na_In_thing (pv 0) (dv 1) sW))
theorem An(W:Wd K mg a):Pm P w K mg base CX0 1 (a.cl "Out") "__init__" a.e_55 ["self","thing"] (spI ⟨K,a.cl⟩ "Out" ["self","thing"].length uu):=
 W.e_55.pk W.cl_Out (sX W.e_55.F Ms λ_ _ _ _ _ _ hr=>(ot W.cl_Out W.na_Out_thing (pv 0) (dv 1) sW))
theorem M5(W:Wd K mg a):qD P w K mg base a 3 "guard_of_bar" a.e_48 ["bar"] zH:=by
 refine W.e_48.pk (bi (F:=zG) W.e_48.F Mc λ_ _ _ _ _ _ hr=>?_);unfold zG;exact(aq (dS (bV 2 [] ["thing","truth"] rfl (DI.de (bh (dv 0))) (λ_ _ _ _ _=>(eJ rfl (bK (dgc 0 2) (bK (dgc 1 2) eI)))) (λ_ _ _ _ _=>c8) (λ_ _ _ _ _=>(sA (cV (DE.db (dvc 1))) (lr "In" W.mk_In (Ey W).ok (hr.mono (by decide)) (glc rfl) W.g_In W.e_65.b (ah (dvc 0) ak)) (lr "Out" W.mk_Out (An W).ok (hr.mono (by decide)) (glc rfl) W.g_Out W.e_55.b (ah (dvc 0) ak)))))))
theorem M6(W:Wd K mg a):Pm P w K mg base CX0 4 (a.cl "Spreading") "take_bar" a.e_44 ["self","bar"] (fO ⟨K,a.cl⟩ ["self","bar"].length zJ):=by
 refine W.e_44.pk W.cl_Spreading (kA (F:=uv) W.e_44.F Eo λ_ _ _ _ _ _ hr=>?_);unfold uv;exact (ax (oB (oK "Spreading" (pv 0) (MZ W) hr (iP (DE.dx (dv 1)) oF)))
 (ax (ce 2 Eo.nd (cb (ah bU (ah (cB fZ f6 rfl W.z_len fS (bH (oG (dG "Spreading" W.cl_Spreading W.na_Spreading_bars (cu (pv 0)))) b6)) ak))))
 (ax (xR (fc (fh e8 gQ gR gW (dG "Spreading" W.cl_Spreading W.na_Spreading_bars (cu (pv 0))) (du (dv 1) c6))))
 (aq (oB (oK "Spreading" (pv 0) (Ex W) hr (iP (DE.dx (dv 2)) (iP (DE.dx (bB (M5 W) hr (ah (dv 1) ak))) oF))))))))
theorem Ez(W:Wd K mg a):Pm P w K mg base CX0 1 (a.cl "Least") "__init__" a.e_66 ["self","bound","items"] (spI ⟨K,a.cl⟩ "Least" ["self","bound","items"].length zK):=
 W.e_66.pk W.cl_Least (sX W.e_66.F My λ_ _ _ _ _ _ hr=>(ot W.cl_Least W.na_Least_bound (pv 0) (dv 1) (ot W.cl_Least W.na_Least_pieces (pv 0) (DO.de (oj kO rfl W.z_list (dvC 2))) sW)))
theorem M7(W:Wd K mg a):Pm P w K mg base CX0 1 (a.cl "Most") "__init__" a.e_67 ["self","bound","items"] (spI ⟨K,a.cl⟩ "Most" ["self","bound","items"].length Ep):=
 W.e_67.pk W.cl_Most (sX W.e_67.F MD λ_ _ _ _ _ _ hr=>(ot W.cl_Most W.na_Most_bound (pv 0) (dv 1) (ot W.cl_Most W.na_Most_pieces (pv 0) (DO.de (oj kO rfl W.z_list (dvC 2))) sW)))
theorem EA(W:Wd K mg a):qD P w K mg base a 3 "part_of" a.e_35 ["told"] zN:=by
 refine W.e_35.pk (bi (F:=zM) W.e_35.F Ef λ_ _ _ _ _ _ hr=>?_);have hu:=hr.units;unfold zM;exact (ax (ce 1 Ef.nd (au (dvC 0) aj))
 (ax (bM (bc (cA hu) cz (DE.db (dv 1)) (DE.db bU)) (aq (bg (lr "In" W.mk_In (Ey W).ok (hr.mono (by decide)) rfl W.g_In W.e_65.b (ah (au (dvC 0) aj) ak)))) bP)
 (ax (bM (bc (cA hu) cz (DE.db (dv 1)) (DE.db bU)) (aq (bg (lr "Out" W.mk_Out (An W).ok (hr.mono (by decide)) rfl W.g_Out W.e_55.b (ah (au (dvC 0) aj) ak)))) bP)
 (ax (bM (bc (cA hu) cz (DE.db (dv 1)) (DE.db bU)) (aq (bg (lr "Least" W.mk_Least (Ez W).ok (hr.mono (by decide)) rfl W.g_Least W.e_66.b (ah (au (dvC 0) aj) (ah (au (dvC 0) aj) ak))))) bP)
 (aq (bg (lr "Most" W.mk_Most (M7 W).ok (hr.mono (by decide)) rfl W.g_Most W.e_67.b (ah (au (dvC 0) aj) (ah (au (dvC 0) aj) ak)))))))))
theorem M8(W:Wd K mg a):qD P w K mg base a 4 "body_of" a.e_1 ["rule"] m_1:=by
 refine W.e_1.pk (bi (F:=b_1) W.e_1.F Eh λ_ _ _ _ _ _ hr=>?_);unfold b_1;exact(aq (dS (bV 1 [] ["told"] rfl (DI.de (bh (au (dvC 0) aj))) (λ_ _ _ _ _=>(dgc 0 1)) (λ_ _ _ _ _=>c8) (λ_ _ _ _ _=>(bB (EA W) hr (ah (dvc 0) ak))))))
theorem M9(W:Wd K mg a):qO P w K mg base a 4 "body_of" a.e_1 ["rule"] o_1:=by
 refine W.e_1.pk (wR (F:=b_1) W.e_1.F Eh λ_ _ _ _ _ _ hr=>?_);unfold b_1;exact(aq (dS (bV 1 [] ["told"] rfl (DI.de (bh (au (dvC 0) aj))) (λ_ _ _ _ _=>(dgc 0 1)) (λ_ _ _ _ _=>c8) (λ_ _ _ _ _=>(bB (EA W) hr (ah (dvc 0) ak))))))
theorem Na(W:Wd K mg a):qD P w K mg base a 5 "guard_of" a.e_24 ["rule"] ux:=by
 refine W.e_24.pk (bi (F:=uw) W.e_24.F Ei λ_ _ _ _ _ _ hr=>?_);have hu:=hr.units;unfold uw;exact (ax (bM (bc (cA hu) cz (DE.db (au (dvC 0) aj)) (DE.db bU)) (aq (dS (bq (ah (lr "Least" W.mk_Least (Ez W).ok (hr.mono (by decide)) rfl W.g_Least W.e_66.b (ah aj (ah (DO.de (bq ak)) ak))) ak)))) bP)
 (ax (ja 1 Ei.nd (CF (M9 W) hr (ah (dv 0) ak)))
 (ax (bM (bc (cA hu) cz (DE.db (au (dvC 0) aj)) (DE.db bU)) (aq (jC (fc (fh e8 gQ gR gW (pv 1) (du (lr "Out" W.mk_Out (An W).ok (hr.mono (by decide)) rfl W.g_Out W.e_55.b (ah (au (dvC 0) aj) ak)) c6))))) bP)
 (aq (mN 1)))))
theorem Nb(W:Wd K mg a):Pm P w K mg base CX0 6 (a.cl "Spreading") "__init__" a.e_8 ["self","plain","bars","sheet"] (fO ⟨K,a.cl⟩ ["self","plain","bars","sheet"].length m_8):=by
 refine W.e_8.pk W.cl_Spreading (kA (F:=b_8) W.e_8.F t9 λ_ _ _ _ _ _ hr=>?_);unfold b_8;exact (ax (lC "Spreading" W.cl_Spreading W.na_Spreading_sheet (kf (cu (pv 0)) (tO (oj kO rfl W.z_list (dvC 3))) rfl))
 (ax (lC "Spreading" W.cl_Spreading W.na_Spreading_steps (kf (cu (pv 0)) (tO (bq ak)) rfl))
 (ax (lC "Spreading" W.cl_Spreading W.na_Spreading_bars (kf (cu (pv 0)) (tO (bq ak)) rfl))
 (ax (lC "Spreading" W.cl_Spreading W.na_Spreading_guards (kf (cu (pv 0)) Ea rfl))
 (ax (lC "Spreading" W.cl_Spreading W.na_Spreading_watches (kf (cu (pv 0)) Ea rfl))
 (ax (lC "Spreading" W.cl_Spreading W.na_Spreading_waiting (kf (cu (pv 0)) (tO (bq ak)) rfl))
 (ax (lC "Spreading" W.cl_Spreading W.na_Spreading_makers (kf (cu (pv 0)) (Dz (DO.de (bV 1 [] ["rule"] rfl (DI.de (bh (au (dvC 1) aj))) (λ_ _ _ _ _=>(dgc 0 1)) (λ_ _ _ _ _=>(f8 (bc my mz (DE.db (au (d3 0) aj)) (DE.db c7)))) (λ_ _ _ _ _=>(cb (ah (au (d3 0) aj) (ah (bB (M8 W) hr (ah (dvc 0) ak)) ak))))))) rfl))
 (ax (dN cT rfl (CT rfl W.z_enumerate (ah (au (dvC 1) aj) ak)) (eJ rfl (bK (cC 5 7 t9.nd) (bK (cC 4 7 t9.nd) eI))) (aq (oB (oK "Spreading" (pv 0) (Ex W) hr (iP (DE.dx (cb (ah bU (ah (dv 5) ak)))) (iP (DE.dx (bB (Na W) hr (ah (dv 4) ak))) oF))))))
 (aq (dN cT rfl (bh (dv 2)) (cC 6 7 t9.nd) (aq (oB (oK "Spreading" (pv 0) (M6 W) hr (iP (DE.dx (dv 6)) oF))))))))))))))
theorem EB(W:Wd K mg a):Pm P w K mg base CX0 1 (a.cl "Spreading") "put" a.e_34 ["self","thing","truth","why"] (fO ⟨K,a.cl⟩ ["self","thing","truth","why"].length uA):=by
 refine W.e_34.pk W.cl_Spreading (kA (F:=uz) W.e_34.F MI λ_ _ _ _ _ _ hr=>?_);have hu:=hr.units;unfold uz;exact (ax (Lx (Bt (dv 2) (Bs (dG "Spreading" W.cl_Spreading W.na_Spreading_sheet (cu (pv 0))) (dv 1) BR (by intro _; rfl)) rfl rfl rfl))
 (ax (xR (fc (fh e8 gQ gR gW (dG "Spreading" W.cl_Spreading W.na_Spreading_steps (cu (pv 0))) (du (cb (ah (cb (ah (dv 1) (ah (dv 2) ak))) (ah (dv 3) ak))) c6))))
 (aq (Lv (fc (fh e8 PySem.F.slot_list_extend PySem.F.type_list_extend BV (dG "Spreading" W.cl_Spreading W.na_Spreading_waiting (cu (pv 0))) (du (xQ (hu1 hu) (dG "Spreading" W.cl_Spreading W.na_Spreading_watches (cu (pv 0))) (cb (ah (dv 1) (ah (dv 2) ak))) ⟨rfl,rfl,rfl,rfl⟩) c6)))))))
theorem Nd(W:Wd K mg a):Pm P w K mg base CX0 1 (a.cl "In") "sure" a.e_53 ["self","sheet"] (spD ⟨K,a.cl⟩ ["self","sheet"].length zP):=by
 refine W.e_53.pk W.cl_In (bi (F:=zO) W.e_53.F Mp λ_ _ _ _ _ _ hr=>?_);unfold zO;exact(aq (bg (dw eC eE (DE.db (au (dvC 1) (bW "In" W.cl_In W.na_In_thing (dv 0)))) (DE.db b5))))
theorem Nf(W:Wd K mg a):Pm P w K mg base CX0 1 (a.cl "In") "tips" a.e_54 ["self","sheet"] (spD ⟨K,a.cl⟩ ["self","sheet"].length zR):=by
 refine W.e_54.pk W.cl_In (bi (F:=zQ) W.e_54.F Mq λ_ _ _ _ _ _ hr=>?_);unfold zQ;exact(aq (bg (sA (bc eC eE (DE.db (au (dvC 1) (bW "In" W.cl_In W.na_In_thing (dv 0)))) (DE.db c7)) (DO.de (bq (ah (cb (ah (bW "In" W.cl_In W.na_In_thing (dv 0)) (ah b5 ak))) ak))) (DO.de (bq ak)))))
theorem Ao(W:Wd K mg a):qD P w K mg base a 1 "worth_in" a.e_20 ["items","entries"] qK:=by
 refine W.e_20.pk (bi (F:=zS) W.e_20.F L9 λ_ _ _ _ _ _ hr=>?_);unfold zS;exact(aq (bg (cB (mJ rfl) mK rfl W.z_sum lT (bH (DE.db (DO.de (bV 2 [1] ["thing","worth","entries"] rfl (DI.de (bh (dv 0))) (λ_ _ _ _ _=>(eJ rfl (bK (dgc 0 2) (bK (dgc 1 2) eI)))) (λ_ _ _ _ _=>(f8 (bc eC eE (DE.db (au (d3 2) (dvc 0))) (DE.db b5)))) (λ_ _ _ _ _=>(dvc 1))))) b6))))
theorem Ng(W:Wd K mg a):Pm P w K mg base CX0 2 (a.cl "Least") "sure" a.e_60 ["self","sheet"] (spD ⟨K,a.cl⟩ ["self","sheet"].length zU):=by
 refine W.e_60.pk W.cl_Least (bi (F:=zT) W.e_60.F MB λ_ _ _ _ _ _ hr=>?_);unfold zT;exact(aq (bg (dw sE sG (DE.db (bB (Ao W) hr (ah (bW "Least" W.cl_Least W.na_Least_pieces (dv 0)) (ah (dv 1) ak)))) (DE.db (bW "Least" W.cl_Least W.na_Least_bound (dv 0))))))
theorem Nh(W:Wd K mg a):qD P w K mg base a 1 "weights_of" a.e_22 ["items"] zV:=by
 refine W.e_22.pk (bi (F:=uB) W.e_22.F t5 λ_ _ _ _ _ _ hr=>?_);have hu:=hr.units;unfold uB;exact (ax (CV 1 t5.nd)
 (ax (dN cT rfl (bh (dv 0)) (eJ rfl (bK (cC 2 4 t5.nd) (bK (cC 3 4 t5.nd) eI))) (aq (CW hu (pv 1) (dv 2) (aQ fY (Lk hu (pv 1) (dv 2) aj ⟨rfl,rfl,rfl,rfl⟩) (dv 3)))))
 (aq (Lm 1 (bg (dv 1))))))
theorem EC(W:Wd K mg a):qD P w K mg base a 2 "heavy" a.e_21 ["items","sheet","lack"] uD:=by
 refine W.e_21.pk (bi (F:=uC) W.e_21.F Eg λ_ _ _ _ _ _ hr=>?_);have hu:=hr.units;unfold uC;exact (ax (ce 3 Eg.nd (bB (Nh W) hr (ah (DO.de (bV 1 [1] ["item","sheet"] rfl (DI.de (bh (dv 0))) (λ_ _ _ _ _=>(dgc 0 1)) (λ_ _ _ _ _=>(f8 (bc eC eE (DE.db (au (d3 1) (au (d3 0) aj))) (DE.db c7)))) (λ_ _ _ _ _=>(dvc 0)))) ak)))
 (aq (dS (bV 1 [2,3] ["thing","lack","weights"] rfl (DI.de (Lh (dv 3))) (λ_ _ _ _ _=>(dgc 0 1)) (λ_ _ _ _ _=>(f8 (bc sE sG (DE.db (Lj hu (dvc 2) (dvc 0))) (DE.db (dvc 1))))) (λ_ _ _ _ _=>(dvc 0))))))
theorem Ni(W:Wd K mg a):Pm P w K mg base CX0 3 (a.cl "Least") "tips" a.e_41 ["self","sheet"] (spD ⟨K,a.cl⟩ ["self","sheet"].length zW):=by
 refine W.e_41.pk W.cl_Least (bi (F:=uE) W.e_41.F Em λ_ _ _ _ _ _ hr=>?_);unfold uE;exact (ax (ce 2 Em.nd (aQ sD (bW "Least" W.cl_Least W.na_Least_bound (dv 0)) (bB (Ao W) hr (ah (bW "Least" W.cl_Least W.na_Least_pieces (dv 0)) (ah (dv 1) ak)))))
 (aq (dS (bV 1 [] ["thing"] rfl (DI.de (bh (bB (EC W) hr (ah (bW "Least" W.cl_Least W.na_Least_pieces (dv 0)) (ah (dv 1) (ah (dv 2) ak)))))) (λ_ _ _ _ _=>(dgc 0 1)) (λ_ _ _ _ _=>c8) (λ_ _ _ _ _=>(cb (ah (dvc 0) (ah b5 ak))))))))
theorem Ap(W:Wd K mg a):qD P w K mg base a 1 "worth_not_out" a.e_12 ["items","sheet"] oS:=by
 refine W.e_12.pk (bi (F:=zX) W.e_12.F Ma λ_ _ _ _ _ _ hr=>?_);unfold zX;exact(aq (bg (cB (mJ rfl) mK rfl W.z_sum lT (bH (DE.db (DO.de (bV 2 [1] ["thing","worth","sheet"] rfl (DI.de (bh (dv 0))) (λ_ _ _ _ _=>(eJ rfl (bK (dgc 0 2) (bK (dgc 1 2) eI)))) (λ_ _ _ _ _=>(f8 (bc my mz (DE.db (au (d3 2) (dvc 0))) (DE.db b5)))) (λ_ _ _ _ _=>(dvc 1))))) b6))))
theorem Nj(W:Wd K mg a):Pm P w K mg base CX0 2 (a.cl "Most") "sure" a.e_62 ["self","sheet"] (spD ⟨K,a.cl⟩ ["self","sheet"].length zZ):=by
 refine W.e_62.pk W.cl_Most (bi (F:=zY) W.e_62.F MG λ_ _ _ _ _ _ hr=>?_);unfold zY;exact(aq (bg (dw wB wE (DE.db (bB (Ap W) hr (ah (bW "Most" W.cl_Most W.na_Most_pieces (dv 0)) (ah (dv 1) ak)))) (DE.db (bW "Most" W.cl_Most W.na_Most_bound (dv 0))))))
theorem Nk(W:Wd K mg a):Pm P w K mg base CX0 3 (a.cl "Most") "tips" a.e_43 ["self","sheet"] (spD ⟨K,a.cl⟩ ["self","sheet"].length z4):=by
 refine W.e_43.pk W.cl_Most (bi (F:=uF) W.e_43.F En λ_ _ _ _ _ _ hr=>?_);unfold uF;exact (ax (ce 2 En.nd (aQ sD (bB (Ap W) hr (ah (bW "Most" W.cl_Most W.na_Most_pieces (dv 0)) (ah (dv 1) ak))) (bW "Most" W.cl_Most W.na_Most_bound (dv 0))))
 (aq (dS (bV 1 [] ["thing"] rfl (DI.de (bh (bB (EC W) hr (ah (bW "Most" W.cl_Most W.na_Most_pieces (dv 0)) (ah (dv 1) (ah (dv 2) ak)))))) (λ_ _ _ _ _=>(dgc 0 1)) (λ_ _ _ _ _=>c8) (λ_ _ _ _ _=>(cb (ah (dvc 0) (ah b5 ak))))))))
theorem Nl(W:Wd K mg a):Pm P w K mg base CX0 1 (a.cl "Out") "sure" a.e_57 ["self","sheet"] (spD ⟨K,a.cl⟩ ["self","sheet"].length z6):=by
 refine W.e_57.pk W.cl_Out (bi (F:=z5) W.e_57.F Mv λ_ _ _ _ _ _ hr=>?_);unfold z5;exact(aq (bg (dw eC eE (DE.db (au (dvC 1) (bW "Out" W.cl_Out W.na_Out_thing (dv 0)))) (DE.db b5))))
theorem Nn(W:Wd K mg a):Pm P w K mg base CX0 1 (a.cl "Out") "tips" a.e_58 ["self","sheet"] (spD ⟨K,a.cl⟩ ["self","sheet"].length z8):=by
 refine W.e_58.pk W.cl_Out (bi (F:=z7) W.e_58.F Mw λ_ _ _ _ _ _ hr=>?_);unfold z7;exact(aq (bg (sA (bc eC eE (DE.db (au (dvC 1) (bW "Out" W.cl_Out W.na_Out_thing (dv 0)))) (DE.db c7)) (DO.de (bq (ah (cb (ah (bW "Out" W.cl_Out W.na_Out_thing (dv 0)) (ah b5 ak))) ak))) (DO.de (bq ak)))))
theorem No(W:Wd K mg a):Pk P w K mg base CX0 4 "pressed_by" a.e_64 ["guard","sheet"] (spN ⟨K,a.cl⟩ ["guard","sheet"].length z9):=by
 refine W.e_64.pk (LV (F:=uG) W.e_64.F qz λ_ _ _ _ _ _ hr=>?_);have hu:=hr.units;unfold uG;exact (ax (ce 2 qz.nd c7)
 (ax (dN cT rfl (bh (dv 0)) (cC 3 5 qz.nd) (aq (bM (jz (cV (DE.db (DE.orE (fq "In" (dv 3) (Nd W) hr (ah (dv 1) ak)) (DE.orE (fq "Out" (dv 3) (Nl W) hr (ah (dv 1) ak)) (DE.orE (fq "Least" (dv 3) (Ng W) hr (ah (dv 1) ak)) (fq "Most" (dv 3) (Nj W) hr (ah (dv 1) ak)))))))) (ax (ce 4 qz.nd (DE.orE (fq "In" (dv 3) (Nf W) hr (ah (dv 1) ak)) (DE.orE (fq "Out" (dv 3) (Nn W) hr (ah (dv 1) ak)) (DE.orE (fq "Least" (dv 3) (Ni W) hr (ah (dv 1) ak)) (fq "Most" (dv 3) (Nk W) hr (ah (dv 1) ak))))))
 (ax (ce 2 qz.nd (sA (bc eC eE (DE.db (dv 2)) (DE.db c7)) (dv 4) (DO.de (bV 1 [4] ["pair","tips"] rfl (DI.de (bh (dv 2))) (λ_ _ _ _ _=>(dgc 0 1)) (λ_ _ _ _ _=>(f8 (bc (C2 hu) C0 (DE.db (dvc 0)) (DE.db (dvc 1))))) (λ_ _ _ _ _=>(dvc 0))))))
 (aq (bM (jz (cV (DE.db (dv 2)))) (aq (dS (bq ak))) bP)))) bP)))
 (ax (bM (bc eC eE (DE.db (dv 2)) (DE.db c7)) (aq (bg c7)) bP)
 (aq (dS (bV 2 [] ["thing","truth"] rfl (DI.de (bh (dv 2))) (λ_ _ _ _ _=>(eJ rfl (bK (dgc 0 2) (bK (dgc 1 2) eI)))) (λ_ _ _ _ _=>c8) (λ_ _ _ _ _=>(cb (ah (dvc 0) (ah (Co (dvc 1)) ak))))))))))
theorem Np(W:Wd K mg a):Pm P w K mg base CX0 5 (a.cl "Spreading") "look_round" a.e_18 ["self"] (fO ⟨K,a.cl⟩ ["self"].length Aa):=by
 refine W.e_18.pk W.cl_Spreading (kA (F:=uH) W.e_18.F qE λ_ _ _ _ _ _ hr=>?_);have hu:=hr.units;unfold uH;exact (ax (sV 1000000000 cT (cV (oG (dG "Spreading" W.cl_Spreading W.na_Spreading_waiting (cu (pv 0))))) (ax (qr 1 qE.nd (Lw (fh e8 PySem.F.slot_list_pop PySem.F.type_list_pop ID (dG "Spreading" W.cl_Spreading W.na_Spreading_waiting (cu (pv 0))) (du Bm c6))))
 (ax (ce 2 qE.nd (LW (No W) hr (bH (oG (D0 (hu1 hu) (dG "Spreading" W.cl_Spreading W.na_Spreading_guards (cu (pv 0))) (dv 1))) (bH (oG (dG "Spreading" W.cl_Spreading W.na_Spreading_sheet (cu (pv 0)))) b6))))
 (ax (bM (bc eC eE (DE.db (dv 2)) (DE.db c7)) (aq (ol (dv 1))) bP)
 (aq (dN cT rfl (bh (dv 2)) (eJ rfl (bK (cC 3 5 qE.nd) (bK (cC 4 5 qE.nd) eI))) (aq (oB (oK "Spreading" (pv 0) (EB W) hr (iP (DE.dx (dv 3)) (iP (DE.dx (dv 4)) (iP (DE.dx (dv 1)) oF))))))))))))
 (aq (ol c7)))
theorem ED(W:Wd K mg a):Pm P w K mg base CX0 1 (a.cl "In") "lost" a.e_30 ["self","sheet","without"] (spD ⟨K,a.cl⟩ ["self","sheet","without"].length qL):=by
 refine W.e_30.pk W.cl_In (bi (F:=Ab) W.e_30.F Mr λ_ _ _ _ _ _ hr=>?_);unfold Ab;exact(aq (bg (Cn (dw eC eE (DE.db (au (dvC 1) (bW "In" W.cl_In W.na_In_thing (dv 0)))) (DE.db b5)) (sy (au (dvC 2) (bW "In" W.cl_In W.na_In_thing (dv 0)))))))
theorem Nq(W:Wd K mg a):qD P w K mg base a 1 "outside" a.e_47 ["items","without"] Ad:=by
 refine W.e_47.pk (bi (F:=Ac) W.e_47.F Mb λ_ _ _ _ _ _ hr=>?_);unfold Ac;exact(aq (dS (bV 1 [1] ["item","without"] rfl (DI.de (bh (dv 0))) (λ_ _ _ _ _=>(dgc 0 1)) (λ_ _ _ _ _=>(f8 (jz (cV (DE.db (au (d3 1) (au (d3 0) aj))))))) (λ_ _ _ _ _=>(dvc 0)))))
theorem EE(W:Wd K mg a):Pm P w K mg base CX0 2 (a.cl "Least") "lost" a.e_32 ["self","sheet","without"] (spD ⟨K,a.cl⟩ ["self","sheet","without"].length qM):=by
 refine W.e_32.pk W.cl_Least (bi (F:=Ae) W.e_32.F MC λ_ _ _ _ _ _ hr=>?_);unfold Ae;exact(aq (bg (dw wA wD (DE.db (bB (Ap W) hr (ah (bB (Nq W) hr (ah (bW "Least" W.cl_Least W.na_Least_pieces (dv 0)) (ah (dv 2) ak))) (ah (dv 1) ak)))) (DE.db (bW "Least" W.cl_Least W.na_Least_bound (dv 0))))))
theorem EF(W:Wd K mg a):Pm P w K mg base CX0 2 (a.cl "Most") "lost" a.e_33 ["self","sheet","without"] (spD ⟨K,a.cl⟩ ["self","sheet","without"].length qN):=by
 refine W.e_33.pk W.cl_Most (bi (F:=Af) W.e_33.F MH λ_ _ _ _ _ _ hr=>?_);unfold Af;exact(aq (bg (dw wC wF (DE.db (bB (Ao W) hr (ah (bW "Most" W.cl_Most W.na_Most_pieces (dv 0)) (ah (dv 1) ak)))) (DE.db (bW "Most" W.cl_Most W.na_Most_bound (dv 0))))))
theorem EG(W:Wd K mg a):Pm P w K mg base CX0 1 (a.cl "Out") "lost" a.e_31 ["self","sheet","without"] (spD ⟨K,a.cl⟩ ["self","sheet","without"].length qP):=by
 refine W.e_31.pk W.cl_Out (bi (F:=Ag) W.e_31.F Mx λ_ _ _ _ _ _ hr=>?_);unfold Ag;exact(aq (bg (dw eC eE (DE.db (au (dvC 1) (bW "Out" W.cl_Out W.na_Out_thing (dv 0)))) (DE.db b5))))
theorem uO(W:Wd K mg a):qD P w K mg base a 1 "marks" a.e_5 ["many","some"] m_5:=by
 refine W.e_5.pk (bi (F:=b_5) W.e_5.F y6 λ_ _ _ _ _ _ hr=>?_);have hu:=hr.units;unfold b_5;exact (ax (CV 2 y6.nd)
 (ax (dN cT rfl (bh (dv 1)) (cC 3 4 y6.nd) (aq (CW hu (pv 2) (dv 3) b5)))
 (aq (jb 2 (dS (bV 1 [2] ["thing","listed"] rfl (DI.de (lq rfl W.z_range (ah (dv 0) ak))) (λ_ _ _ _ _=>(dgc 0 1)) (λ_ _ _ _ _=>c8) (λ_ _ _ _ _=>(Ke hu (dvc 0) (dvc 1)))))))))
theorem Nr(W:Wd K mg a):Pm P w K mg base CX0 3 (a.cl "Spreading") "keeping" a.e_46 ["self","part","without"] (spD ⟨K,a.cl⟩ ["self","part","without"].length Ah):=by
 refine W.e_46.pk W.cl_Spreading (bi (F:=uI) W.e_46.F MK λ_ _ _ _ _ _ hr=>?_);unfold uI;exact (ax (bM (cV (DE.db (DE.orE (fq "In" (dv 1) (ED W) hr (ah (bW "Spreading" W.cl_Spreading W.na_Spreading_sheet (dv 0)) (ah (bB (uO W) hr (ah (cB fZ f6 rfl W.z_len fS (bH (DE.db (bW "Spreading" W.cl_Spreading W.na_Spreading_sheet (dv 0))) b6)) (ah (DO.de (bq ak)) ak))) ak))) (DE.orE (fq "Out" (dv 1) (EG W) hr (ah (bW "Spreading" W.cl_Spreading W.na_Spreading_sheet (dv 0)) (ah (bB (uO W) hr (ah (cB fZ f6 rfl W.z_len fS (bH (DE.db (bW "Spreading" W.cl_Spreading W.na_Spreading_sheet (dv 0))) b6)) (ah (DO.de (bq ak)) ak))) ak))) (DE.orE (fq "Least" (dv 1) (EE W) hr (ah (bW "Spreading" W.cl_Spreading W.na_Spreading_sheet (dv 0)) (ah (bB (uO W) hr (ah (cB fZ f6 rfl W.z_len fS (bH (DE.db (bW "Spreading" W.cl_Spreading W.na_Spreading_sheet (dv 0))) b6)) (ah (DO.de (bq ak)) ak))) ak))) (fq "Most" (dv 1) (EF W) hr (ah (bW "Spreading" W.cl_Spreading W.na_Spreading_sheet (dv 0)) (ah (bB (uO W) hr (ah (cB fZ f6 rfl W.z_len fS (bH (DE.db (bW "Spreading" W.cl_Spreading W.na_Spreading_sheet (dv 0))) b6)) (ah (DO.de (bq ak)) ak))) ak)))))))) (aq (dS (bq ak))) bP)
 (aq (dS (bV 1 [2] ["thing","without"] rfl (DI.de (bh (DE.orE (iJ "In" (dv 1) (Es W) hr) (DE.orE (iJ "Out" (dv 1) (Ew W) hr) (DE.orE (iJ "Least" (dv 1) (Eu W) hr) (iJ "Most" (dv 1) (Ev W) hr)))))) (λ_ _ _ _ _=>(dgc 0 1)) (λ_ _ _ _ _=>(f8 (cV (DE.db (au (d3 1) (dvc 0)))))) (λ_ _ _ _ _=>(dvc 0))))))
theorem EH(W:Wd K mg a):qD P w K mg base a 3 "lost_part" a.e_13 ["body","sheet","without"] qQ:=by
 refine W.e_13.pk (bi (F:=uJ) W.e_13.F Ej λ_ _ _ _ _ _ hr=>?_);unfold uJ;exact (ax (dN cT rfl (bh (dv 0)) (cC 3 4 Ej.nd) (aq (bM (cV (DE.db (DE.orE (fq "In" (dv 3) (ED W) hr (ah (dv 1) (ah (dv 2) ak))) (DE.orE (fq "Out" (dv 3) (EG W) hr (ah (dv 1) (ah (dv 2) ak))) (DE.orE (fq "Least" (dv 3) (EE W) hr (ah (dv 1) (ah (dv 2) ak))) (fq "Most" (dv 3) (EF W) hr (ah (dv 1) (ah (dv 2) ak)))))))) (aq (mN 3)) bP)))
 (aq (bg c7)))
theorem Nt(W:Wd K mg a):Pm P w K mg base CX0 4 (a.cl "Spreading") "lost_parts" a.e_63 ["self","thing","without"] (spD ⟨K,a.cl⟩ ["self","thing","without"].length Aj):=by
 refine W.e_63.pk W.cl_Spreading (bi (F:=Ai) W.e_63.F MJ λ_ _ _ _ _ _ hr=>?_);have hu:=hr.units;unfold Ai;exact(aq (dS (bV 2 [2,0,1] ["head","body","without","self","thing"] rfl (DI.de (bh (bW "Spreading" W.cl_Spreading W.na_Spreading_makers (dv 0)))) (λ_ _ _ _ _=>(eJ rfl (bK (dgc 0 2) (bK (dgc 1 2) eI)))) (λ_ _ _ _ _=>(f8 (bc (cA hu) cz (DE.db (dvc 0)) (DE.db (dvc 4))))) (λ_ _ _ _ _=>(bB (EH W) hr (ah (dvc 1) (ah (bW "Spreading" W.cl_Spreading W.na_Spreading_sheet (dvc 3)) (ah (dvc 2) ak))))))))
theorem EI(W:Wd K mg a):Pm P w K mg base CX0 5 (a.cl "Spreading") "kernel" a.e_3 ["self","thing","without"] (spO ⟨K,a.cl⟩ ["self","thing","without"].length o_3):=by
 refine W.e_3.pk W.cl_Spreading (wR (F:=b_3) W.e_3.F qG λ_ _ _ _ _ _ hr=>?_);unfold b_3;exact (ax (ja 3 qG.nd (bq (ah (dv 1) ak)))
 (ax (ce 4 qG.nd aj)
 (ax (sV 1000000000 cT (bc wA wD (DE.db (dv 4)) (DE.db (cB fZ f6 rfl W.z_len fS (bH (dvB 3) b6)))) (ax (dN cT rfl (bh (fq "Spreading" (dv 0) (Nt W) hr (ah (au (dvC 3) (dv 4)) (ah (dv 2) ak)))) (cC 5 6 qG.nd) (aq (JM (fc (fh e8 PySem.F.slot_list_extend PySem.F.type_list_extend BV (pv 3) (du (DO.de (bV 1 [3] ["other","found"] rfl (DI.de (bh (fq "Spreading" (dv 0) (Nr W) hr (ah (dv 5) (ah (dv 2) ak))))) (λ_ _ _ _ _=>(dgc 0 1)) (λ_ _ _ _ _=>(f8 (bc Ju Jr (DE.db (dvc 0)) (CB 1)))) (λ_ _ _ _ _=>(dvc 0)))) c6))))))
 (aq (Lq 4 qG.nd (DE.dx aj)))))
 (aq (jb 3 (dS (K3 rfl rfl W.z_sorted (dv 3))))))))
theorem Nu(W:Wd K mg a):Pm P w K mg base CX0 4 (a.cl "Spreading") "loose_marks" a.e_4 ["self"] (fO ⟨K,a.cl⟩ ["self"].length m_4):=by
 refine W.e_4.pk W.cl_Spreading (kA (F:=b_4) W.e_4.F jM λ_ _ _ _ _ _ hr=>?_);unfold b_4;exact (ax (JJ 1 1 [] ["entry"] jM.nd rfl (LO (xP (dG "Spreading" W.cl_Spreading W.na_Spreading_sheet (cu (pv 0))))) (λ_ _ _ _ _=>(dgc 0 1)) (λ_ _ _ _ _=>c8) (λ_ _ _ _ _=>(dw my mz (DE.db (dvc 0)) (DE.db b5))))
 (ax (ja 2 jM.nd (bq ak))
 (ax (ce 3 jM.nd (D1 (dG "Spreading" W.cl_Spreading W.na_Spreading_makers (cu (pv 0)))))
 (ax (ce 4 jM.nd b5)
 (ax (sV 1000000000 cT (cV (DE.db (dv 4))) (ax (ce 5 jM.nd (cB fZ f6 rfl W.z_len fS (bH (dvB 2) b6)))
 (ax (ja 6 jM.nd (bq ak))
 (ax (dN cT rfl (bh (dv 3)) (cC 7 8 jM.nd) (aq (bM (DW.dt (jy (cV (DE.db (au (dvC 1) (au (dvC 7) aj)))) (lc (bc eC eE (KZ (EH W) hr (bH (DE.db (au (dvC 7) aj)) (bH (oG (dG "Spreading" W.cl_Spreading W.na_Spreading_sheet (cu (pv 0)))) (bH (dvB 1) b6)))) (DE.db c7))))) (ax (CY (pv 1) (au (dvC 7) aj) b5)
 (aq (jC (fc (fh e8 gQ gR gW (pv 2) (du (dv 7) c6)))))) (aq (jC (fc (fh e8 gQ gR gW (pv 6) (du (dv 7) c6))))))))
 (ax (jb 6 (ce 3 jM.nd (dv 6)))
 (aq (ce 4 jM.nd (Cm (dw wC wF (DE.db (cB fZ f6 rfl W.z_len fS (bH (dvB 2) b6))) (DE.db (dv 5))) (sy (cB (wV rfl) wW rfl W.z_any boot_any (bH (dvB 1) b6)))))))))))
 (ax (jb 2 (lC "Spreading" W.cl_Spreading W.na_Spreading_makers (kf (cu (pv 0)) (Dz (DO.de (tL (dv 2) (dv 3)))) rfl)))
 (aq (jb 1 (ol (dv 1))))))))))
theorem Nv(W:Wd K mg a):Pm P w K mg base CX0 6 (a.cl "Spreading") "put_loose_out" a.e_19 ["self"] (fO ⟨K,a.cl⟩ ["self"].length Ak):=by
 refine W.e_19.pk W.cl_Spreading (kA (F:=uK) W.e_19.F qF λ_ _ _ _ _ _ hr=>?_);unfold uK;exact (ax (qr 1 qF.nd (xS "Spreading" (pv 0) (Nu W) hr))
 (ax (sU 3 2 [1] ["thing","entry","without"] qF.nd rfl (LP rfl W.z_enumerate (xP (dG "Spreading" W.cl_Spreading W.na_Spreading_sheet (cu (pv 0))))) (λ_ _ _ _ _=>(eJ rfl (bK (dgc 0 2) (bK (dgc 1 2) eI)))) (λ_ _ _ _ _=>(f8 (DW.dt (jy (cV (DE.db (au (d3 2) (dvc 0)))) (lc (bc eC eE (DE.db (dvc 1)) (DE.db b5))))))) (λ_ _ _ _ _=>(dvc 0)))
 (ax (bM (cV (DE.db (dv 3))) (aq (ol (cb (ah bU (ah (DO.de (Ed "Spreading" (dvB 0) (EI W) hr (bH (DE.db (au (dvC 3) aj)) (bH (DE.db (dv 1)) b6)))) ak))))) bP)
 (ax (dN cT rfl (CT rfl W.z_enumerate (ah (dv 1) ak)) (eJ rfl (bK (cC 2 5 qF.nd) (bK (cC 4 5 qF.nd) eI))) (aq (bM (cV (DE.db (dv 4))) (aq (oB (oK "Spreading" (pv 0) (EB W) hr (iP (DE.dx (dv 2)) (iP (DE.dx b5) (iP (DE.dx (cb (ah bU (ah (DO.de (Ed "Spreading" (dvB 0) (EI W) hr (bH (DE.db (dv 2)) (bH (DE.db (dv 1)) b6)))) ak)))) oF)))))) bP)))
 (aq (ol c7))))))
theorem Nw(W:Wd K mg a):Pm P w K mg base CX0 7 (a.cl "Spreading") "settle" a.e_17 ["self"] (fO ⟨K,a.cl⟩ ["self"].length Al):=by
 refine W.e_17.pk W.cl_Spreading (kA (F:=uL) W.e_17.F qC λ_ _ _ _ _ _ hr=>?_);unfold uL;exact (ax (ce 1 qC.nd b5)
 (ax (sV 1000000000 cT (cV (DE.db (dv 1))) (ax (qr 2 qC.nd (xS "Spreading" (pv 0) (Np W) hr))
 (ax (bM (bc eC eE (DE.db (dv 2)) (DE.db c7)) (aq (qr 2 qC.nd (xS "Spreading" (pv 0) (Nv W) hr))) bP)
 (aq (ce 1 qC.nd (Cm (dw eC eE (DE.db (dv 2)) (DE.db c7)) (sy (dw wC wF (DE.db (cB fZ f6 rfl W.z_len fS (bH (oG (dG "Spreading" W.cl_Spreading W.na_Spreading_waiting (cu (pv 0)))) b6))) (DE.db aj)))))))))
 (aq (ol (dv 2)))))
theorem Nx(W:Wd K mg a):qD P w K mg base a 8 "spread" a.e_14 ["plain","bars","sheet"] uN:=by
 refine W.e_14.pk (bi (F:=uM) W.e_14.F t6 λ_ _ _ _ _ _ hr=>?_);unfold uM;exact (ax (K8 3 t6.nd (LM "Spreading" W.mk_Spreading (Nb W).ok (hr.mono (by decide)) rfl W.g_Spreading W.e_8.b (ah (dv 0) (ah (dv 1) (ah (dv 2) ak)))))
 (ax (qr 4 t6.nd (LK "Spreading" (pv 3) (Nw W) hr))
 (ax (L7 (ml t6.nd rfl (by first | exact cv rfl | exact bO rfl) (dG "Spreading" W.cl_Spreading W.na_Spreading_steps (cu (pv 3)))))
 (ax (bM (bc my mz (DE.db (dv 4)) (DE.db c7)) (aq (jC (fc (fh e8 gQ gR gW (pv 5) (du (cb (ah c7 (ah (dv 4) ak))) c6))))) bP)
 (aq (jb 5 (L6 3 "Spreading" "sheet" (bg (cb (ah (D1 (dG "Spreading" W.cl_Spreading W.na_Spreading_sheet (cu (pv 3)))) (ah (dv 5) ak)))))))))))
theorem Ny(W:Wd K mg a):qD P w K mg base a 9 "law" a.e_0 ["_law_script"] m_0:=by
 refine W.e_0.pk (bi (F:=b_0) W.e_0.F jL λ_ _ _ _ _ _ hr=>?_);have hu:=hr.units;unfold b_0;exact (ax (ce 1 jL.nd (bB (qR W) hr (ah (bB (Am W) hr (ah (dv 0) (ah aj ak))) (ah aj ak))))
 (ax (ce 2 jL.nd (aQ n9 (aQ fY (aQ cy (au (dvC 1) aj) aj) aj) aj))
 (ax (ja 3 jL.nd (CF (MU W) hr (ah (aQ cy (au (dvC 1) aj) aj) (ah (dv 2) ak))))
 (ax (dN cT rfl (bh (DO.de (by refine oi ?a ?b ?c; (case a=>exact (dv 0)); (case b=>exact (lj aj)); (case c=>exact (lj aj))))) (cC 4 10 jL.nd) (aq (jC (fc (fh e8 gQ gR gW (pv 3) (du (bB (MX W) hr (ah (dv 4) (ah (dv 2) (ah (dw (cA hu) cz (DE.db (aQ cy (au (dvC 1) aj) aj)) (DE.db aj)) ak)))) c6))))))
 (ax (ce 5 jL.nd (bB (MY W) hr (ah (bB (Am W) hr (ah (dv 0) (ah aj ak))) (ah (dv 2) ak))))
 (ax (sU 6 1 [2] ["_law_x","_law_many"] jL.nd rfl (DI.de (bh (bB (qR W) hr (ah (bB (Am W) hr (ah (dv 0) (ah aj ak))) (ah (aQ cy (au (dvC 1) aj) aj) ak))))) (λ_ _ _ _ _=>(dgc 0 1)) (λ_ _ _ _ _=>c8) (λ_ _ _ _ _=>(bB (ML W) hr (ah (dvc 0) (ah (dvc 1) ak)))))
 (ax (jb 3 (ce 7 jL.nd (DO.de (bq (ah (cb (ah (dv 2) (ah (bB (MM W) hr (ah (dv 3) ak)) ak))) (ah (DO.de (bV 1 [] ["_law_bar_here"] rfl (DI.de (bh (dv 6))) (λ_ _ _ _ _=>(dgc 0 1)) (λ_ _ _ _ _=>c8) (λ_ _ _ _ _=>(DO.de (oj kO (glc rfl) W.z_list (d3 0)))))) (ah (DO.de (oj kO rfl W.z_list (dvC 5))) ak)))))))
 (ax (ce 8 jL.nd (bB (Nx W) hr (ah (au (dvC 7) aj) (ah (au (dvC 7) aj) (ah (au (dvC 7) aj) ak)))))
 (ax (bM (DW.dt (lg (jz (cV (DE.db (sO (T:="tuple") W.is_tuple rfl W.z_isinstance boot_tuple rfl W.z_tuple (DE.db (dv 8)))))) (lg (bc (mF hu) mD (DE.db (cB fZ f6 rfl W.z_len fS (bH (DE.db (dv 8)) b6))) (DE.db aj)) (mw (jz (cV (DE.db (sO (T:="list") W.is_list rfl W.z_isinstance kO rfl W.z_list (DE.db (au (dvC 8) aj)))))))))) (aq (bg b5)) bP)
 (ax (bM (DW.dt (lg (jz (cV (DE.db (sO (T:="list") W.is_list rfl W.z_isinstance kO rfl W.z_list (DE.db (au (dvC 8) aj)))))) (mw (bc (mF hu) mD (DE.db (cB fZ f6 rfl W.z_len fS (bH (DE.db (au (dvC 8) aj)) b6))) (DE.db (dv 2)))))) (aq (bg b5)) bP)
 (ax (bM (DW.dt (jy (bc (mF hu) mD (DE.db (au (dvC 8) aj)) (DE.db (DO.de (bq ak)))) (lc (DW.dt (lg (jz (cV (DE.db (sO (T:="tuple") W.is_tuple rfl W.z_isinstance boot_tuple rfl W.z_tuple (DE.db (au (DE.dc (au (dvC 8) aj)) (wG aj))))))) (mw (bc (mF hu) mD (DE.db (cB fZ f6 rfl W.z_len fS (bH (DE.db (au (DE.dc (au (dvC 8) aj)) (wG aj))) b6))) (DE.db aj)))))))) (aq (bg b5)) bP)
 (ax (jb 3 (ce 9 jL.nd (bB (MT W) hr (ah (dv 3) (ah (dv 6) (ah (dv 5) ak))))))
 (ax (bM (DW.dt (jy (bc (mF hu) mD (DE.db (au (dvC 8) aj)) (DE.db (DO.de (bq ak)))) (lc (bc eC eE (DE.db (au (DE.dc (au (DE.dc (au (dvC 8) aj)) (wG aj))) aj)) (DE.db c7))))) (aq (bg (dw (cA hu) cz (DE.db (dv 9)) (DE.db (DO.de (bq ak)))))) bP)
 (aq (bg (cB (qb rfl) qd rfl W.z_all boot_all (bH (DE.db (DO.de (bV 1 [8] ["_law_held","_law_found"] rfl (DI.de (bh (dv 9))) (λ_ _ _ _ _=>(dgc 0 1)) (λ_ _ _ _ _=>c8) (λ_ _ _ _ _=>(bB (Er W) hr (ah (dvc 0) (ah (au (d3 1) aj) ak))))))) b6)))))))))))))))))
local macro_rules | `(tactic| walk_at "evS")=>`(tactic| first | decide | omega | assumption | exact ⟨by decide,by decide⟩ | exact ⟨by omega,by omega⟩ | exact .inl ⟨by decide,by decide⟩ | exact .inr ⟨by decide,by decide⟩ | exact .inl ⟨by omega,by omega⟩ | exact .inr ⟨by omega,by omega⟩ | exact ⟨by decide,by decide,by decide⟩)
local macro_rules | `(tactic| walk_at "evO")=>`(tactic| first | with_reducible exact oz | with_reducible exact xy | with_reducible exact dLt_eq | with_reducible exact tN | with_reducible exact dLe_eq | with_reducible exact Dt | with_reducible exact ow _ _ | with_reducible exact dNe_int _ _ | ((with_reducible apply lz); (focus walk_at "evS")) | ((with_reducible apply KQ); (focus walk_at "evS")) | ((with_reducible apply dMul_eq); (focus walk_at "evS")) | ((with_reducible apply K6); (focus first | assumption | exact .inl (by walk_at "evS") | exact .inr ⟨by omega,by omega⟩)) | ((with_reducible apply KR); (focus walk_at "evS")) | ((with_reducible apply dShr_eq); (focus walk_at "evS")) | with_reducible exact JT _ _ | with_reducible exact dNe_str _ _ | with_reducible exact dEq_bl _ _ | with_reducible exact dAndB_eq | exact dEq_nil _ _ | exact Dw _ _ | assumption | rfl)
local macro_rules | `(tactic| walk_at "ev")=>`(tactic| first
 | with_reducible assumption
 | ((with_reducible apply aN); (focus walk_at "ev"); (focus walk_at "ev"); (focus walk_at "evO"))
 | ((with_reducible apply b8); (focus walk_at "ev"))
 | ((with_reducible apply fu); (focus walk_at "ev"); (focus first | assumption | rfl))
 | ((with_reducible apply p8); (focus walk_at "ev"); (focus walk_at "ev"))
 | ((with_reducible apply JU); (focus walk_at "ev"); (focus walk_at "ev"))
 | ((with_reducible apply kj); (focus walk_at "ev"))
 | ((with_reducible apply sZ); (focus walk_at "ev"); (focus walk_at "ev"))
 | ((with_reducible apply wT); (focus walk_at "ev"); (focus walk_at "ev"))
 | ((with_reducible apply CM); (focus walk_at "ev"))
 | ((with_reducible apply ay); (focus walk_at "ev"); (focus walk_at "ev"))
 | ((with_reducible apply fL); (focus walk_at "ev"))
 | ((with_reducible apply bC); (focus walk_at "ev"))
 | ((with_reducible apply aR); (focus walk_at "ev"); (focus first | with_reducible assumption | with_reducible exact iO _ _ | assumption | exact iO _ _ | exact len_kl _ _ | rfl))
 | ((with_reducible apply callS_is); (focus walk_at "ev"); (focus assumption); (focus rfl))
 | ((with_reducible apply aI); (focus walk_at "ev"); (focus walk_at "ev"); (focus first | assumption | rfl))
 | ((with_reducible apply Dv); (focus walk_at "ev"); (focus rfl); (focus rfl))
 | ((with_reducible apply qi); (focus walk_at "ev"); (focus rfl); (focus rfl))
 | ((with_reducible apply cL); (focus walk_at "ev"); (focus rfl))
 | rfl)
local macro_rules | `(tactic| walk_at "nrm")=>`(tactic| simp only [Dn,ph,rC])
local macro_rules | `(tactic| walk_at "set")=>`(tactic| (apply aA; (first | with_reducible apply bX | with_reducible apply jd); (focus walk_at "ev"); walk_at "nrm"))
local macro_rules | `(tactic| walk_at "if0")=>`(tactic| ((with_reducible first | apply bw | apply il); (focus walk_at "ev")))
theorem Aq(ns:List Int)(i:Int)(h0:0<=i):∃v,oR [.kl (ns.map D.int),.int i]=aa (.int v):=by
 by_cases h:i<ns.length
 .obtain⟨x,_,e⟩:=dA (f:=D.int) h0 h;refine⟨x,cK (kh (ki (congrArg aa (decide_eq_true ?_)) (cW e)))⟩;rw[aH];exact h
 .refine⟨0,cK (fK (gA (congrArg aa (decide_eq_false ?_)) rfl) rfl)⟩;rw[aH];exact h
theorem p60:(0:Int)<10 ^ (60:Int).toNat:=by decide
theorem Nz:nO 10 60:=⟨by decide,by decide,by decide⟩
def Nm(x:Int):Prop:=0<=x/\x<2305843009213693951
theorem qS(c n:Int)(n0:0<=n)(n1:n<=124):∃d,m_2 [.int c,.int n]=aa d/\∃xs:List Int,d=.lst (xs.map D.int)/\(xs.length:Int)=n/\∀x∈xs,Nm x:=by
 apply jI;unfold b_2;show wp _ [.im (.int c),.im (.int n),.no,.no,.no] _;have a0:0<=c % 2305843009213693951:=d7 _ (by decide);have a1:c % 2305843009213693951<2305843009213693951:=eK _ (by decide);walk_at "set";walk_at "set";apply aA
 refine dW (bF n.toNat) (λ(i:Nat)=>D.int i) (λpre U=>∃(xs:List Int) (y:Int) (v:Sl),U=[.im (.int c),.im (.int n),.own (xs.map D.int),.im (.int y),v]/\0<=y/\y<2 ^ 100/\xs.length=pre.length/\∀x∈xs,Nm x)
  (ls (by walk_at "ev") n0 (by omega)) ⟨[],_,.no,rfl,by omega,by omega,rfl,λx hx=>nomatch hx⟩ ?_ ?_
 .rintro pre i post U ex ⟨xs,y,v,rfl,y0,y1,hl,hx⟩
  have hpl:pre.length<n.toNat:=by
   have:pre.length<(bF n.toNat).length:=by rw[ex];simp
   simpa using this
  refine⟨_,rfl,?_⟩;walk_at "nrm";generalize hz:(y*(y+69621)+7*(i:Int)+1) % 2305843009213693951=z;have z0:0<=z:=by rw[<- hz];exact d7 _ (by decide)
  have z1:z<2305843009213693951:=by rw[<- hz];exact eK _ (by decide)
  apply aA;refine bX (by walk_at "ev") ?_;rw[hz];walk_at "nrm";refine jH rfl rfl (by rw[aH];omega) ?_;refine⟨xs++[z],z,.im (.int i),by rw[bN];rfl,z0,by omega,by rw[a9,a9,hl];rfl,λx hx'=>?_⟩
  rcases ci.mp hx' with h |h
  .exact hx x h
  .have:x=z:=by simpa using h
   subst this;exact⟨z0,z1⟩
 .rintro U ⟨xs,y,v,rfl,y0,y1,hl,hx⟩;rw[cX]at hl;exact oA rfl (gb ⟨xs,rfl,by omega,hx⟩)
theorem worth(x:Int)(hx:Nm x):∃d,qI [.int x]=aa d/\∃w:Int,d=.int w/\0<=w:=by
 obtain⟨x0,x1⟩:=hx;apply jI;unfold uf;show wp _ [.im (.int x)] _;have pw:=p60;have hcp:=Nz;have m1:jK x x:=.inl (.inl ⟨by omega,by omega⟩);have m2:jK (x*x) x:=.inl (.inr ⟨by omega,by omega⟩);have m3:jK (x*x*x) x:=.inl (.inr ⟨by omega,by omega⟩);apply aA;walk_at "if0"
 .intro _;walk_at "if0";exact eU ⟨_,rfl,d7 _ (Int.ne_of_gt pw)⟩
 .intro _;apply cp;walk_at "nrm";obtain⟨w,hw,ew⟩:=dA (f:=D.int) (xs:=[1,1,2,0,3,1,1,2]) (i:=x / 8 % 8) (d7 _ (by decide)) (eK _ (by decide));have w0:∀x∈([1,1,2,0,3,1,1,2]:List Int),0<=x:=by decide
  walk_at "if0";exact eU ⟨w,rfl,w0 w (dJ hw)⟩
variable{js:LN}{fi:MF2}{U:LS}
theorem Ar{α β:Type}{k:Nat}{g:D->LS->Option LS}{ft:MF4}{fe:MF1}(xs:List α)(f:α->D)(q:β->D)(P:β->Prop)
 (hi:fi U=aa (xs.map f))(hz:xs.length<=16777216)(hh:∀x∈xs,∃z,P z/\fJ g ft fe (dZ k js U) (f x)=aa (aa (q z))):∃zs:List β,aU k js fi g ft fe U=aa (zs.map q)/\zs.length=xs.length/\∀z∈zs,P z:=by
 have key:∀ys:List α,(∀x∈ys,∃z,P z/\fJ g ft fe (dZ k js U) (f x)=aa (aa (q z)))->∃zs:List β,fm (fJ g ft fe (dZ k js U)) (ys.map f)=aa (zs.map q)/\zs.length=ys.length/\∀z∈zs,P z:=by
  intro ys
  induction ys with
  |nil=>intro _;exact⟨[],rfl,rfl,λz hz=>nomatch hz⟩
  |cons y ys ih=>
   intro h;obtain⟨z,pz,ez⟩:=h y aO;obtain⟨zs,e,l,p⟩:=ih λx hx=>h x (bv _ hx);refine⟨z::zs,?_,by rw[b9,b9,l],λw hw=>?_⟩
   .rw[bn];unfold fm;rw[ez,e];rfl
   .rcases aW.mp hw with rfl |hw
    .exact pz
    .exact p w hw
 obtain⟨zs,e,l,p⟩:=key xs hh;refine⟨zs,?_,l,p⟩;unfold aU;rw[hi];show(if (xs.map f).length<=16777216 then _ else ac)=_;rw[aH,if_pos hz];exact e
noncomputable def nmP:Prt->List Int
 |.inn t=>[t]
 |.out t=>[t]
 |.least _ its=>its.map (·.1)
 |.most _ its=>its.map (·.1)
variable{i:Nat}
theorem NA{xs:List Int}{x:Int}(h:∀x∈xs,Nm x)(e:xs[i]?=aa x):Nm x:=h x (dJ e)
theorem NB{ys:List Int}{n:Int}(hy:∀y∈ys,Nm y)(n1:1<=n){t:Nat}(ht:4+2*t<=ys.length)(ht2:t<=100)(hi:fi U=aa ((bF t).map λ(i:Nat)=>D.int i))(hj:dZ 1 js U=[.no,.im (.int n),.im (.lst (ys.map D.int))]):
  ∃its:List (Int×Int),aU 1 js fi (az 0) kY (bE (ag (m2 bI (mIx (ao 2) (m2 cS (kI 4) (m2 dP (kI 2) (af 0)))) (af 1)) (ag (aB qI (ag (mIx (ao 2) (m2 cS (kI 5) (m2 dP (kI 2) (af 0)))) nZ)) nZ))) U=aa (its.map itD)/\its.length=t/\InN n.toNat its:=by
 obtain⟨its,e,l,p⟩:=Ar (k:=1) (js:=js) (fi:=fi) (g:=az 0) (ft:=λ_=>aa ab) (fe:=(bE (ag (m2 bI (mIx (ao 2) (m2 cS (kI 4) (m2 dP (kI 2) (af 0)))) (af 1)) (ag (aB qI (ag (mIx (ao 2) (m2 cS (kI 5) (m2 dP (kI 2) (af 0)))) nZ)) nZ)))) (U:=U) (bF t) (λ(i:Nat)=>D.int i) itD (λz=>0<=z.1/\z.1<(n.toNat:Int)/\0<=z.2) hi (by rw[cX];omega) λi hi'=>by
  have hi':=eY.mp hi';obtain⟨a,_,ea⟩:=dA (f:=D.int) (xs:=ys) (i:=4+2*(i:Int)) (by omega) (by omega);obtain⟨b,hb,eb⟩:=dA (f:=D.int) (xs:=ys) (i:=5+2*(i:Int)) (by omega) (by omega);obtain⟨d,ew,w,rfl,w0⟩:=worth b (NA hy hb);have q0:=d7 a (show n≠0 by omega);have q1:=eK a (show 0<n by omega);refine⟨(a % n,w),⟨q0,by show a % n<_;omega,w0⟩,?_⟩;rw[hj];exact di (y:=.tup [.int (a % n),.int w]) rfl rfl (by walk_at "ev")
 exact⟨its,e,by rw[l,cX],p⟩
variable{its:List (Int×Int)}
theorem NC(hi:fi U=aa (its.map itD))(hz:its.length<=1000):aB f7 (ag (aE (aU 2 [] fi (dh (bm (az 0) (bm (az 1) dE))) kY (af 1))) nZ) U=aa (.int (its.map (·.2)).sum):=by
 refine aR (ay (bC (dO its itD (λz=>D.int z.2) hi (by omega) λz _=>di rfl rfl rfl)) rfl) ?_;rw[KU];exact CL
theorem ND(ys:List Int)(n:Int)(hl:10<=ys.length)(hy:∀y∈ys,Nm y)(n1:1<=n)(n60:n<=60):∃d,uh [.lst (ys.map D.int),.int n]=aa d/\∃p:Prt,d=p.toD/\p.Ok n.toNat/\(nmP p).length<=3:=by
 apply jI;unfold ug;show wp _ [.im (.lst (ys.map D.int)),.im (.int n),.no,.no,.no] _;obtain⟨a0,h0,e0⟩:=dA (f:=D.int) (xs:=ys) (i:=0) (by decide) (by omega);obtain⟨a1,h1,e1⟩:=dA (f:=D.int) (xs:=ys) (i:=1) (by decide) (by omega);obtain⟨a2,h2,e2⟩:=dA (f:=D.int) (xs:=ys) (i:=2) (by decide) (by omega);obtain⟨a3,h3,e3⟩:=dA (f:=D.int) (xs:=ys) (i:=3) (by decide) (by omega);obtain⟨wd,hwd,ew⟩:=dA (f:=D.str) (xs:=["in","out","in","least","most"]) (i:=a0 % 5) (d7 _ (by decide)) (eK _ (by decide));have hw2:=dJ hwd;simp only[aW,cE,or_false]at hw2;walk_at "set";apply aA;walk_at "if0"
 .intro hb;have q0:=d7 a1 (show n≠0 by omega);have q1:=eK a1 (show 0<n by omega);walk_at "if0";apply eU
  rcases hw2 with rfl |rfl |rfl |rfl |rfl
  .exact⟨.inn (a1 % n),rfl,⟨q0,by omega⟩,by show 1<=3;decide⟩
  .exact⟨.out (a1 % n),rfl,⟨q0,by omega⟩,by show 1<=3;decide⟩
  .exact⟨.inn (a1 % n),rfl,⟨q0,by omega⟩,by show 1<=3;decide⟩
  .exact jT (show ae=ab from hb)
  .exact jT (show ae=ab from hb)
 .intro hb;apply cp;walk_at "nrm";have t0:0<=a2 % 4:=d7 _ (by decide);have t1:a2 % 4<4:=eK _ (by decide);obtain⟨its,ei,li,hin⟩:=NB (ys:=ys) (n:=n) hy n1 (t:=(a2 % 4).toNat) (by omega) (by omega) (fi:=g4 (ag (m2 bI (mIx (ao 0) (kI 2)) (kI 4)) nZ)) (U:=[.im (.lst (ys.map D.int)),.im (.int n),.im (.str wd),.no,.no]) (js:=[1,0]) (ls (by walk_at "ev") t0 (by omega)) rfl;apply aA;refine bX (bC ei) ?_;walk_at "nrm";apply aA;refine bX (NC (cL (bC (qi rfl rfl (hi:=aa (a3 % 5)) (by unfold mPt;rw[show(m2 bI (mIx (ao 0) (kI 3)) (kI 5)) [.im (.lst (ys.map D.int)),.im (.int n),.im (.str wd),.im (.lst (its.map itD)),.no]=aa (.int (a3 % 5)) by walk_at "ev"];rfl))) rfl) (by rw[lM,lN];omega)) ?_;walk_at "nrm";walk_at "if0";apply eU;have h3':(its.map (·.1)).length<=3:=by rw[aH];omega
  rcases hw2 with rfl |rfl |rfl |rfl |rfl
  .exact jT (show ab=ae from hb)
  .exact jT (show ab=ae from hb)
  .exact jT (show ab=ae from hb)
  .exact⟨.least _ its,rfl,⟨hin,by omega⟩,h3'⟩
  .exact⟨.most _ its,rfl,⟨hin,by omega⟩,h3'⟩
variable{f g:MF1}
theorem As{a b:LD}(h:f U=aa (.lst a))(h':g U=aa (.lst b))(hl:a.length+b.length<=16777216):jG f g U=aa (a++b):=by
 unfold jG;rw[h,h'];show(if a.length+b.length<=16777216 then aa (a++b) else ac)=_;rw[if_pos hl]
noncomputable def inS(xs:List Int)(i:Nat):Bool:=xs.any λx=>x==(i:Int)
theorem NE(ks:List Key)(k j:Key):fM (ga ks k) j=(fM ks j || decide (k=j)):=by
 unfold ga
 by_cases e:fM ks k=ab
 .rw[if_pos e]
  by_cases h:k=j
  .subst h;rw[e];rfl
  .rw[decide_eq_false h,Bool.or_false]
 .rw[if_neg e];unfold fM;rw[any_append];simp
theorem NF(ks:List Key)(k:Key):(ga ks k).length<=ks.length+1:=by
 unfold ga;split
 .omega
 .rw[a9];exact aL _
variable{fk fv:MF1}{d:D}{xs:LD}
theorem NG{x:D}{k:Key}{ks:List Key}(h1:fv U=aa d)(h2:fk U=aa x)(h3:jF x=aa k)(h4:U[i]?=aa (.ownd ks xs))(hl:ks.length<16777216):
  ko i fk fv U=aa (.nx (U.set i (.ownd (ga ks k) (gD ks xs k d)))):=by
 unfold ko;rw[h1,aC,h2,aC,h3,aC,h4];show(if ks.length<16777216 then _ else ac)=_;rw[if_pos hl]
theorem NH(n:Int)(xs:List Int)(n0:0<=n)(n1:n<=60)(hl:xs.length<=63):m_5 [.int n,.lst (xs.map D.int)]=aa (.lst (((bF n.toNat).map (inS xs)).map D.bl)):=by
 obtain⟨ρ',e,ks,ds,s3,rfl,hk,hh⟩:=JR (g:=az 3) (F:=ko 2 (af 3) (kBl ab)) (fi:=aP (af 1)) (U:=[.im (.int n),.im (.lst (xs.map D.int)),.ownd [] [],.no]) xs D.int
  (λpre U=>∃(ks:List Key) (ds:LD) (s3:Sl),U=[.im (.int n),.im (.lst (xs.map D.int)),.ownd ks ds,s3]/\ks.length<=pre.length/\∀k:Int,fM ks (.inl k)=pre.any λx=>x==k)
  rfl ⟨[],[],.no,rfl,aL _,λ_=>rfl⟩ (by
   rintro pre x post U ex ⟨ks,ds,s3,rfl,hk,hh⟩;have hp:pre.length<xs.length:=by rw[ex];simp
   refine⟨_,_,rfl,.inl (NG (ks:=ks) (xs:=ds) (k:=.inl x) rfl rfl rfl rfl (by omega)),ga ks (.inl x),_,_,rfl,?_,λk=>?_⟩
   .have:=NF ks (.inl x);rw[a9];show _<=pre.length+1;omega
   .rw[NE,hh,any_append]
    congr 1
    rw[gM,any_nil,Bool.or_false]
    by_cases h:x=k
    .subst h;simp
    .rw[decide_eq_false (λq=>h (mh q))];exact(beq_eq_false_iff_ne.mpr h).symm)
 refine ou (fK rfl (fK e ?_));show j1 Fl.rtO (aU _ _ _ _ _ _ [.im (.int n),.im (.lst (xs.map D.int)),.im (.dic ks ds),s3])=_;rw[map_map];refine congrArg (j1 Fl.rtO) (dO (bF n.toNat) (λ(i:Nat)=>D.int i) _ (ls rfl n0 (by omega)) (by rw[cX];omega) λj hj=>?_);refine di rfl rfl (aN (x:=.int j) (y:=.dic ks ds) rfl rfl ?_);show aa (D.bl (fM ks (.inl (j:Int))))=_;rw[hh];rfl
noncomputable def mZ(ws:List Bool):List Int:=((bF ws.length).filter λi=>ws.getD i ae).map λ(i:Nat)=>(i:Int)
theorem EJ(ws:List Bool)(i:Int):i∈mZ ws↔0<=i/\ws.getD i.toNat ae=ab:=by
 unfold mZ;rw[bj];constructor
 .rintro⟨j,hj,rfl⟩;obtain⟨_,b⟩:=eA.mp hj;exact⟨by omega,by simpa using b⟩
 .rintro⟨h0,h⟩;refine⟨i.toNat,eA.mpr ⟨eY.mpr ?_,h⟩,by omega⟩
  by_cases hl:i.toNat<ws.length
  .exact hl
  .rw[bD,d8 (by omega)]at h;cases h
theorem EK(p:Prt):zN [p.toD]=aa p.obj:=by
 cases p <;> rfl
variable{es:List (Option Bool)}
theorem At(h:InN es.length its)(hz:its.length<=100000):qK [.lst (its.map itD),.lst (es.map shD)]=aa (.int (bx (·==aa ab) es its)):=by
 refine cK (cW (aR (ay (bC (g6 its itD (λz=>es.getD z.1.toNat ac==aa ab) (λz=>D.int z.2) rfl (by omega) λz hz'=>?_)) rfl) (p9 (λt=>es.getD t.toNat ac==aa ab) its)));exact fw rfl (b8 (aN (aI rfl rfl (f9 (h z hz').1 (h z hz').2.1)) rfl (lu _ _))) λ_=>rfl
theorem Au(h:InN es.length its)(hz:its.length<=100000):oS [.lst (its.map itD),.lst (es.map shD)]=aa (.int (bx (λe=>!(e==aa ae)) es its)):=by
 refine cK (cW (aR (ay (bC (g6 its itD (λz=>!(es.getD z.1.toNat ac==aa ae)) (λz=>D.int z.2) rfl (by omega) λz hz'=>?_)) rfl) (p9 (λt=>!(es.getD t.toNat ac==aa ae)) its)));exact fw rfl (b8 (aN (aI rfl rfl (f9 (h z hz').1 (h z hz').2.1)) rfl (tf _ _))) λ_=>rfl
variable{ws:List Bool}
theorem NI(h:InN es.length its)(hw:ws.length=es.length)(hz:its.length<=100000):
  Ad [.lst (its.map itD),.lst (ws.map D.bl)]=aa (.lst ((its.filter λz=>!(ws.getD z.1.toNat ae)).map itD)):=by
 refine ou (congrArg (j1 Fl.rtO) (g6 its itD (λz=>!(ws.getD z.1.toNat ae)) itD rfl (by omega) λz hz'=>?_));have hb:=h z hz';exact fw rfl (kj (fu (aI rfl rfl (jE hb.1 (by rw[hw];exact hb.2.1))) rfl)) λ_=>rfl
theorem NJ(h:InN es.length its)(hz:its.length<=100000):
  oS [.lst ((its.filter λz=>!(ws.getD z.1.toNat ae)).map itD),.lst (es.map shD)]=aa (.int (gt (λt=>!(es.getD t.toNat ac==aa ae) && !(ws.getD t.toNat ae)) its)):=by
 have hl:=jW (λz:Int×Int=>!(ws.getD z.1.toNat ae)) its;have hin:InN es.length (its.filter λz=>!(ws.getD z.1.toNat ae)):=λz hz'=>h z (eA.mp hz').1;refine(Au hin (by omega)).trans ?_;rw[kg];exact congrArg (λz=>aa (D.int z)) (Jm (λt=>!(es.getD t.toNat ac==aa ae)) (λt=>!(ws.getD t.toNat ae)) its)
theorem NK(p:Prt)(h:p.Ok es.length)(hw:ws.length=es.length):∀m,m=(match p with |.inn _=>qL |.out _=>qP |.least _ _=>qM |.most _ _=>qN) ->
  m [p.obj,.lst (es.map shD),.lst (ws.map D.bl)]=aa (.bl (p.lost es ws)):=by
 intro m e;subst e
 cases p with
 |inn t=>exact cK (cW (wT (aN (aI rfl rfl (f9 h.1 h.2)) rfl (lu _ _)) (aI rfl rfl (jE h.1 (by rw[hw];exact h.2)))))
 |out t=>exact cK (cW (aN (aI rfl rfl (f9 h.1 h.2)) rfl (lu _ _)))
 |least k its=>exact cK (cW (aN (aR (ay (aR rfl (NI h.1 hw h.2)) (ay rfl rfl)) (NJ h.1 h.2)) rfl rfl))
 |most k its=>exact cK (cW (aN (aR rfl (At h.1 h.2)) rfl rfl))
variable{fo:MF1}{fa:MF2}
theorem EL(p:Prt)(h:p.Ok es.length)(hw:ws.length=es.length)(ho:fo U=aa p.obj)(ha:fa U=aa [.lst (es.map shD),.lst (ws.map D.bl)]):
  bJ (a8 "In" "lost" qL fo fa) (bJ (a8 "Out" "lost" qP fo fa) (bJ (a8 "Least" "lost" qM fo fa) (a8 "Most" "lost" qN fo fa))) U=aa (.bl (p.lost es ws)):=by
 have hm:=NK (ws:=ws) p h hw _ rfl
 cases p with
 |inn t=>exact gB ((dU ho rfl ha).trans hm)
 |out t=>exact cM (cN ho (by decide)) (gB ((dU ho rfl ha).trans hm))
 |least k its=>exact cM (cN ho (by decide)) (cM (cN ho (by decide)) (gB ((dU ho rfl ha).trans hm)))
 |most k its=>exact cM (cN ho (by decide)) (cM (cN ho (by decide)) (cM (cN ho (by decide)) ((dU ho rfl ha).trans hm)))
theorem NL(p:Prt)(h:p.Ok es.length)(ho:fo U=aa p.obj)(ha:fa U=aa [.lst (es.map shD)]):
  bJ (a8 "In" "sure" zP fo fa) (bJ (a8 "Out" "sure" z6 fo fa) (bJ (a8 "Least" "sure" zU fo fa) (a8 "Most" "sure" zZ fo fa))) U=aa (.bl (p.sure es)):=by
 cases p with
 |inn t=>exact gB ((dU ho rfl ha).trans (cK (cW (aN (aI rfl rfl (f9 h.1 h.2)) rfl (lu _ _)))))
 |out t=>exact cM (cN ho (by decide)) (gB ((dU ho rfl ha).trans (cK (cW (aN (aI rfl rfl (f9 h.1 h.2)) rfl (lu _ _))))))
 |least k its=>exact cM (cN ho (by decide)) (cM (cN ho (by decide)) (gB ((dU ho rfl ha).trans (cK (cW (aN (aR rfl (At h.1 h.2)) rfl rfl))))))
 |most k its=>exact cM (cN ho (by decide)) (cM (cN ho (by decide)) (cM (cN ho (by decide)) ((dU ho rfl ha).trans (cK (cW (aN (aR rfl (Au h.1 h.2)) rfl rfl))))))
variable{n:Nat}
theorem EM(r:Rul)(h:r.Ok n):m_1 [r.toD]=aa (.lst (r.ps.map Prt.obj)):=
 ou (congrArg (j1 Fl.rtO) (dO r.ps Prt.toD Prt.obj rfl (by have:=h.len;omega) λp _=>di rfl rfl (aR rfl (EK p))))
structure Spr where
 es:List (Option Bool)
 st:LD
 bs:LD
 gk:List (List Key)
 gd:LD
 ws:List (List Key×LD)
 wt:LD
 mks:D
noncomputable def lsO(ds:LD):O:=.lst (ds.map .fz)
noncomputable def wsO(ws:List (List Key×LD)):O:=.dT (ws.map (·.1)) (ws.map λp=>lsO p.2)
noncomputable abbrev spN:LSt:=["sheet","steps","bars","guards","watches","waiting","makers"]
noncomputable def Spr.o(s:Spr):O:=.ins "Spreading" spN [lsO (s.es.map shD),lsO s.st,lsO s.bs,.dT s.gk (s.gd.map .fz),wsO s.ws,lsO s.wt,.fz s.mks]
variable{l:Addr}{s:Spr}
theorem qT:bu "Spreading" "sheet" (aZ 0) (.deep (.at l s.o)::U)=aa (lsO (s.es.map shD),λx=>.at l (.ins "Spreading" spN [x,lsO s.st,lsO s.bs,.dT s.gk (s.gd.map .fz),wsO s.ws,lsO s.wt,.fz s.mks])):=rfl
theorem NM:bu "Spreading" "steps" (aZ 0) (.deep (.at l s.o)::U)=aa (lsO s.st,λx=>.at l (.ins "Spreading" spN [lsO (s.es.map shD),x,lsO s.bs,.dT s.gk (s.gd.map .fz),wsO s.ws,lsO s.wt,.fz s.mks])):=rfl
theorem Av:bu "Spreading" "bars" (aZ 0) (.deep (.at l s.o)::U)=aa (lsO s.bs,λx=>.at l (.ins "Spreading" spN [lsO (s.es.map shD),lsO s.st,x,.dT s.gk (s.gd.map .fz),wsO s.ws,lsO s.wt,.fz s.mks])):=rfl
theorem EN:bu "Spreading" "guards" (aZ 0) (.deep (.at l s.o)::U)=aa (.dT s.gk (s.gd.map .fz),λx=>.at l (.ins "Spreading" spN [lsO (s.es.map shD),lsO s.st,lsO s.bs,x,wsO s.ws,lsO s.wt,.fz s.mks])):=rfl
theorem uP:bu "Spreading" "watches" (aZ 0) (.deep (.at l s.o)::U)=aa (wsO s.ws,λx=>.at l (.ins "Spreading" spN [lsO (s.es.map shD),lsO s.st,lsO s.bs,.dT s.gk (s.gd.map .fz),x,lsO s.wt,.fz s.mks])):=rfl
theorem m4:bu "Spreading" "waiting" (aZ 0) (.deep (.at l s.o)::U)=aa (lsO s.wt,λx=>.at l (.ins "Spreading" spN [lsO (s.es.map shD),lsO s.st,lsO s.bs,.dT s.gk (s.gd.map .fz),wsO s.ws,x,.fz s.mks])):=rfl
theorem NN:bu "Spreading" "makers" (aZ 0) (.deep (.at l s.o)::U)=aa (.fz s.mks,λx=>.at l (.ins "Spreading" spN [lsO (s.es.map shD),lsO s.st,lsO s.bs,.dT s.gk (s.gd.map .fz),wsO s.ws,lsO s.wt,x])):=rfl
variable{p:Xp}{ds:LD}{R:O->O}
theorem Aw(h:p U=aa (lsO ds,R)):pC p U=aa ds:=by
 unfold pC;rw[h];exact xO ds
theorem lF:∀(ds:LD),O.kns (ds.map .fz)=ab
 | []=>by rw[map_nil,O.kns]
 |d::ds=>by rw[bn,O.kns,O.kn,lF ds];rfl
theorem m5(h:p U=aa (lsO ds,R)):pB p U=aa (.lst ds):=by
 unfold pB lsO at *;rw[h,aC];dsimp only;rw[O.kn,lF,if_pos rfl,O.toD,Cf]
theorem NO(h:p U=aa (.fz d,R)):pD p U=aa d:=by
 unfold pD;rw[h];rfl
variable{K:Fl->Prop}
theorem Ax(h:p U=aa (lsO ds,R))(hf:f U=aa d)(hz:ds.length<16777216)(k:K (.nx (U.set i (.deep (R (lsO (ds++[d]))))))):wp (oI i p f) U K:=⟨_,by
 unfold oI lsO at *;rw[h,aC,hf,aC];show(if (ds.map O.fz).length<16777216 then aa (O.lst (ds.map .fz++[.fz d])) else ac).map _=_;rw[if_pos (by rw[aH];exact hz),show ds.map O.fz++[.fz d]=(ds++[d]).map .fz by rw[bN];rfl];rfl,k⟩
variable{ks:List (List Key)}{os:List O}{y:D}{k:List Key}
theorem NP(hv:fv U=aa d)(h:p U=aa (.dT ks os,R))(hk:fk U=aa y)(hy:lB y=aa k)(hn:aT k ks=ac)(hz:ks.length<16777216)
 (q:K (.nx (U.set i (.deep (R (.dT (ks++[k]) (os++[.fz d]))))))):wp (tV i p fk fv) U K:=⟨_,by
 unfold tV;rw[hv,aC,h,aC,hk,aC,hy,aC];show(if aT k ks=ac/\ks.length<16777216 then aa (O.dT (ks++[k]) (os++[.fz d])) else ac).map _=_;rw[if_pos ⟨hn,hz⟩];rfl,q⟩
noncomputable def gF(k:List Key)(y:D):List (List Key×LD)->List (List Key×LD)
 | []=>[(k,[y])]
 |p::ws=>if p.1=k then (p.1,p.2++[y])::ws else p::gF k y ws
theorem Ay{k:List Key}{y:D}:∀{ws:List (List Key×LD)},aT k (ws.map (·.1))=ac->gF k y ws=ws++[(k,[y])]
 | [],_=>rfl
 |p::ws,h=>by
  rw[bn]at h;unfold aT at h;split at h
  .cases h
  .rename_i e;unfold gF;rw[if_neg e]
   cases h':aT k (ws.map (·.1))with
   |none=>rw[Ay h'];rfl
   |some j=>rw[h']at h;cases h
theorem Az{k:List Key}{y:D}:∀{ws:List (List Key×LD)} {j:Nat},aT k (ws.map (·.1))=aa j->∃p,ws[j]?=aa p/\p.1=k/\gF k y ws=ws.set j (p.1,p.2++[y])
 | [],_,h=>by cases h
 |p::ws,j,h=>by
  rw[bn]at h;unfold aT at h;split at h
  .rename_i e;cases h;refine⟨p,rfl,e,?_⟩;unfold gF;rw[if_pos e];rfl
  .rename_i e
   cases h':aT k (ws.map (·.1))with
   |none=>rw[h']at h;cases h
   |some i=>
    rw[h']at h;cases h;obtain⟨q,a,b,c⟩:=Az (y:=y) h';refine⟨q,by rw[eW];exact a,b,?_⟩;unfold gF;rw[if_neg e,c];rfl
structure bY(c:Nat)(ws:List (List Key×LD)):Prop where
 ln:ws.length<=c
 al:∀p∈ws,p.2.length<=c
variable{c:Nat}{ws:List (List Key×LD)}
theorem bY.add(h:bY c ws)(k:List Key)(y:D):bY (c+1) (gF k y ws):=by
 cases hj:aT k (ws.map (·.1))with
 |none=>
  rw[Ay hj];refine⟨by rw[a9,fD];have:=h.ln;omega,λp hp=>?_⟩
  rcases ci.mp hp with q |q
  .have:=h.al p q;omega
  .rw[eM.mp q];exact vh (da _)
 |some j=>
  obtain⟨p,e1,_,e2⟩:=Az (y:=y) hj;rw[e2];refine⟨by rw[gj];have:=h.ln;omega,λq hq=>?_⟩
  rcases mem_or_eq_of_mem_set hq with z |z
  .have:=h.al q z;omega
  .rw[z];have:=h.al p (dJ e1);show(p.2++[y]).length<=_;rw[a9,fD];omega
theorem NQ(h:aT k ks=ac)(hz:ks.length<16777216):(O.dT ks os).apdK k d=aa (.dT (ks++[k]) (os++[.lst [.fz d]])):=by
 unfold O.apdK;dsimp only;rw[h];exact if_pos hz
variable{j:Nat}{o2:O}
theorem NR{o1:O}(h:aT k ks=aa j)(h1:os[j]?=aa o1)(h2:o1.appd d=aa o2):(O.dT ks os).apdK k d=aa (.dT ks (os.set j o2)):=by
 unfold O.apdK;dsimp only;rw[h];dsimp only;rw[h1,aC,h2];rfl
theorem NS(h:ds.length<16777216):(lsO ds).appd y=aa (lsO (ds++[y])):=by
 unfold lsO O.appd;dsimp only;rw[aH,if_pos h,bN];rfl
theorem NT(h:bY c ws)(hc:c<16777216)(k:List Key)(y:D):(wsO ws).apdK k y=aa (wsO (gF k y ws)):=by
 unfold wsO
 cases hj:aT k (ws.map (·.1))with
 |none=>
  rw[NQ hj (by rw[aH];have:=h.ln;omega),Ay hj,bN,bN]
  rfl
 |some j=>
  obtain⟨p,e1,_,e2⟩:=Az (y:=y) hj;rw[NR hj (o1:=lsO p.2) (by rw[cD,e1];rfl) (NS (by have:=h.al p (dJ e1);omega)),e2,jX,jX];dsimp only;rw[qt (l:=ws.map (·.1)) (k:=j) (x:=p.1) (by rw[cD,e1];rfl)]
theorem NU(h:p U=aa (wsO ws,R))(hg:g U=aa y)(hy:lB y=aa k)(hj:af j U=aa d)(ok:bY c ws)(hc:c<16777216)(q:K (.nx (U.set i (.deep (R (wsO (gF k d ws))))))):wp (tW i j p g) U K:=⟨_,by
 unfold tW;rw[h,aC,hg,aC,hy,aC,hj,aC];dsimp only;rw[NT ok hc];rfl,q⟩
variable{m:MTf}{ρ1:LS}{o o':O}
theorem kB{cn fl:Str}{f:Xa}{o0:O}(h:U[i]?=aa (.deep (.at l o0)))(hi:o0.isIns cn fl=ab)(hf:f U=aa (ds,ρ1))(h1:ρ1[i]?=aa (.deep (.at l o)))(hm:m l ds o=aa (o',d)):gc i cn fl m f U=aa (d,ρ1.set i (.deep (.at l o'))):=by
 unfold gc;rw[h];show(if o0.isIns cn fl=ab then _ else ac)=_;rw[if_pos hi,hf,aC];dsimp only;rw[h1];show(m l ds o).map _=_;rw[hm];rfl
theorem NV{cn:Str}(h:fa U=aa ds)(hm:∀l,m l ds (.ins cn [] [])=aa (o,.non)):oM cn m fa U=aa o:=by
 unfold oM;rw[h,aC];have hx:∃o,∀l,m l ds (.ins cn [] [])=aa (o,.non):=⟨o,hm⟩;rw[dif_pos hx];have:=hx.choose_spec 0;rw[hm 0]at this;exact congrArg aa (rG (cF this)).1.symm
def EO(l:Addr)(Q:O->D->Prop)(r:Fl):Prop:=match r with
 |.nx U=>∃o,U[0]?=aa (.deep (.at l o))/\Q o .non
 |.rtS d U=>∃o,U[0]?=aa (.deep (.at l o))/\Q o d
 | _=>False
variable{N:Nat}{F:MF3}
theorem NW{Q:O->D->Prop}(h:wp F (qx N l ds o) (EO l Q)):∃o' d,g9 N F l ds o=aa (o',d)/\Q o' d:=by
 obtain⟨r,e,q⟩:=h;unfold g9;rw[e,aC]
 cases r with
 |nx U=>obtain⟨o',e1,q⟩:=q;exact⟨o',.non,by dsimp only;rw[D6 e1];rfl,q⟩
 |rtS d U=>obtain⟨o',e1,q⟩:=q;exact⟨o',d,by dsimp only;rw[D6 e1];rfl,q⟩
 | _=>exact q.elim
theorem kC(h:wp F (qx N l ds o) (EO l λx y=>x=o'/\y=d)):g9 N F l ds o=aa (o',d):=by
 obtain⟨a,b,e,rfl,rfl⟩:=NW h;exact e
theorem oT(h:f U=aa d)(k:K (.rtS d U)):wp (jB f) U K:=⟨_,by unfold jB;rw[h];rfl,k⟩
theorem lG{cn f:Str}{g:LS->Option O}{x:O}{q:O×(O->O)}(hg:g U=aa x)(h:p U=aa q)(hs:q.1.setF cn f x=aa o2)(k:K (.nx (U.set i (.deep (q.2 o2))))):wp (ji i cn f p g) U K:=⟨_,by
 unfold ji;rw[hg,aC,h,aC,hs];rfl,k⟩
theorem oU{f:Xe}{ρ':LS}(h:f U=aa (d,ρ'))(k:K (.nx ρ')):wp (jg f) U K:=⟨_,by unfold jg;rw[h];rfl,k⟩
theorem uQ{f:MF2}(h:f U=aa ds):lA f U=aa (lsO ds):=by unfold lA lsO;rw[h];rfl
theorem EQ(h:f U=aa d):oC f U=aa (.fz d):=by unfold oC;rw[h];rfl
variable{ns:List Int}
theorem NX(h:f U=aa (.lst (ns.map D.int)))(h1:ns.length<4000)(h2:(cf ns).length<64):qg f U=aa ((cf ns).map D.int):=by
 unfold qg;rw[h,aC];show(iM (ns.map D.int)).bind _=_;rw[xr,aC,if_pos ⟨h1,h2⟩]
theorem AA(h:∀x∈ns,0<=x/\x<(n:Int)):(cf ns).length<=n:=by
 have nd:(cf ns).Nodup:=(mV ns).imp λh=>Int.ne_of_lt h
 by_cases hl:(cf ns).length<=n
 .exact hl
 .have hs:∀x∈cf ns,x∈(bF n).map λ(i:Nat)=>(i:Int):=λx hx=>by
   obtain⟨a,b⟩:=h x ((mU x ns).mp hx);exact bj.mpr ⟨x.toNat,eY.mpr (by omega),by omega⟩
  have p:=oy (cf ns) _ nd hs (by rw[aH,cX];omega);have:=p.length_eq;rw[aH,cX]at this;omega
theorem NY(h:f U=aa (.lst ds))(h':U[i]?=aa (.own xs))(hl:xs.length+ds.length<=16777216):pW i (pV f) U=aa (.nx (U.set i (.own (xs++ds)))):=by
 unfold pW pV;rw[h]
 show(match U[i]? with |some (.own xs)=>if xs.length+ds.length<=16777216 then aa (Fl.nx (U.set i (.own (xs++ds)))) else ac | _=>ac)=_
 rw[h'];show(if xs.length+ds.length<=16777216 then _ else ac)=_;rw[if_pos hl]
variable{p:Prt}
theorem qU(h:p.Ok n):∀x∈nmP p,0<=x/\x<(n:Int):=λx hx=>by
 cases p with
 |inn t=>
  have:x=t:=by simpa[nmP]using hx
  subst this
  exact h
 |out t=>
  have:x=t:=by simpa[nmP]using hx
  subst this
  exact h
 |least k its=>obtain⟨z,hz,rfl⟩:=bj.mp hx;exact⟨(h.1 z hz).1,(h.1 z hz).2.1⟩
 |most k its=>obtain⟨z,hz,rfl⟩:=bj.mp hx;exact⟨(h.1 z hz).1,(h.1 z hz).2.1⟩
noncomputable def put(es:List (Option Bool))(k:Nat)(b:Bool):List (Option Bool):=es.set k (aa b)
theorem lw(es:List (Option Bool))(k:Nat)(b:Bool):(put es k b).length=es.length:=gj
theorem uR(es:List (Option Bool)){k:Nat}(b:Bool)(h:j≠k):(put es k b).getD j ac=es.getD j ac:=by
 unfold put;rw[bD,bD,iV (gm h)]
theorem ER(es:List (Option Bool)){k:Nat}(b:Bool)(h:k<es.length):(put es k b).getD k ac=aa b:=by
 unfold put;rw[bD,ir h];rfl
noncomputable def opn(es:List (Option Bool))(t:Int):Bool:=es.getD t.toNat ac==ac
noncomputable def nmL:Prt->List Int
 |.inn t=>[t]
 |.out t=>[t]
 |.least _ its=>cf (its.map (·.1))
 |.most _ its=>cf (its.map (·.1))
noncomputable def qV:Prt->Bool
 |.inn _=>ab
 |.out _=>ae
 |.least _ _=>ab
 |.most _ _=>ae
theorem qW(h:p.Ok n)(hn:n<=60):(nmL p).length<64:=by
 cases p with
 |inn t=>show 1<64;decide
 |out t=>show 1<64;decide
 |least k its=>have:=AA (qU h);show(cf (its.map (·.1))).length<64;exact nu this (by omega)
 |most k its=>have:=AA (qU h);show(cf (its.map (·.1))).length<64;exact nu this (by omega)
variable{t:Int}
theorem AB:t∈nmL p↔t∈nmP p:=by
 cases p with
 |inn u=>exact Iff.rfl
 |out u=>exact Iff.rfl
 |least k its=>exact mU t _
 |most k its=>exact mU t _
theorem ES(h1:its.length<=1000)(h2:(cf (its.map (·.1))).length<64):um [.lst (its.map itD)]=aa (.lst ((cf (its.map (·.1))).map D.int)):=by
 refine ou (congrArg (j1 Fl.rtO) (NX (bC ?_) (by rw[aH];omega) h2));rw[map_map];exact dO its itD (λz=>D.int z.1) rfl (by omega) λz _=>di rfl rfl rfl
theorem ET(p:Prt)(h:p.Ok n)(hn:n<=60)(hf:(nmP p).length<=1000)(ho:fo U=aa p.obj):
  bJ (a8 "In" "named" ul fo λ_=>aa []) (bJ (a8 "Out" "named" ur fo λ_=>aa []) (bJ (a8 "Least" "named" uo fo λ_=>aa []) (a8 "Most" "named" uq fo λ_=>aa []))) U=aa (.lst ((nmL p).map D.int)):=by
 have hl:=qW h hn
 cases p with
 |inn t=>exact gB ((dU ho rfl rfl).trans rfl)
 |out t=>exact cM (cN ho (by decide)) (gB ((dU ho rfl rfl).trans rfl))
 |least k its=>
  have e:=ES (its:=its) (by simpa[nmP]using hf) hl
  exact cM (cN ho (by decide)) (cM (cN ho (by decide)) (gB ((dU ho rfl rfl).trans (cK (cW (aR rfl e))))))
 |most k its=>
  have e:=ES (its:=its) (by simpa[nmP]using hf) hl;exact cM (cN ho (by decide)) (cM (cN ho (by decide)) (cM (cN ho (by decide)) ((dU ho rfl rfl).trans (cK (cW (aR rfl e))))))
theorem NZ(p:Prt)(ho:fo U=aa p.obj):
  bJ (a8 "In" "wants" zq fo λ_=>aa []) (bJ (a8 "Out" "wants" zE fo λ_=>aa []) (bJ (a8 "Least" "wants" zx fo λ_=>aa []) (a8 "Most" "wants" zB fo λ_=>aa []))) U=aa (.bl (qV p)):=by
 cases p with
 |inn t=>exact gB ((dU ho rfl rfl).trans rfl)
 |out t=>exact cM (cN ho (by decide)) (gB ((dU ho rfl rfl).trans rfl))
 |least k its=>exact cM (cN ho (by decide)) (cM (cN ho (by decide)) (gB ((dU ho rfl rfl).trans rfl)))
 |most k its=>exact cM (cN ho (by decide)) (cM (cN ho (by decide)) (cM (cN ho (by decide)) ((dU ho rfl rfl).trans rfl)))
noncomputable abbrev Wss:=List (List Key×LD)
noncomputable def fA(t:Int)(b:Bool):List Key:=[.inl t,.inl (cond b 1 0)]
noncomputable def uS(y:D)(ws:Wss)(p:Prt):Wss:=(nmL p).foldl (λws t=>gF (fA t (qV p)) y ws) ws
noncomputable def lH(y:D)(ps:List Prt)(ws:Wss):Wss:=ps.foldl (uS y) ws
theorem bY.ts{c:Nat}{b:Bool}{y:D}:∀(ts:List Int) {ws:Wss},bY c ws->bY (c+ts.length) (ts.foldl (λws t=>gF (fA t b) y ws) ws)
 | [],_,h=>h
 |t::ts,ws,h=>by
  have:=bY.ts (c:=c+1) (b:=b) (y:=y) ts (h.add (fA t b) y);rw[b9,show c+(ts.length+1)=c+1+ts.length by omega];exact this
theorem bY.le{c':Nat}{ws:Wss}(h:bY c ws)(hc:c<=c'):bY c' ws:=⟨cZ h.ln hc,λp hp=>cZ (h.al p hp) hc⟩
def PrK(n:Nat)(p:Prt):Prop:=p.Ok n/\(nmP p).length<=1000
theorem bY.prt{ws:Wss}(h:bY c ws)(hp:PrK n p)(hn:n<=60):bY (c+64) (uS y ws p):=by
 have:=qW hp.1 hn;exact(bY.ts (nmL p) h).le (by omega)
theorem bY.reg{n:Nat}{y:D}(hn:n<=60):∀{ps:List Prt} {c:Nat} {ws:Wss},(∀p∈ps,PrK n p)->bY c ws->bY (c+64*ps.length) (lH y ps ws)
 | [],_,_,_,h=>h
 |p::ps,c,ws,hp,h=>by
  have:=bY.reg (y:=y) hn (ps:=ps) (λq hq=>hp q (bv _ hq)) (h.prt (y:=y) (hp p aO) hn);rw[b9,show c+64*(ps.length+1)=c+64+64*ps.length by omega];exact this
noncomputable def uT(s:Spr)(y:D)(k:List Key)(ps:List Prt):Spr:={s with gk:=s.gk++[k],gd:=s.gd++[.lst (ps.map Prt.obj)],ws:=lH y ps s.ws,wt:=s.wt++[y]}
theorem N0(ds:LD)(d:D):ds.map O.fz++[.fz d]=(ds++[d]).map .fz:=by rw[bN];rfl
theorem EU(s:Spr)(ps:List Prt)(hy:lB y=aa k)(hk:aT k s.gk=ac)(hg:s.gk.length<16777216)(hp:∀p∈ps,PrK n p)(hn:n<=60)(hw:bY c s.ws)(hc:c+64*ps.length<16777216)(hz:s.wt.length<16777216)(hpl:ps.length<=100000):
  qJ l [y,.lst (ps.map Prt.obj)] s.o=aa ((uT s y k ps).o,.non):=by
 apply kC;unfold ut;show wp _ [.deep (.at l s.o),.im y,.im (.lst (ps.map Prt.obj)),.no,.no] _;apply aA;refine NP rfl EN rfl hy hk hg ?_;rw[N0]
 show wp _ [.deep (.at l ({s with gk:=s.gk++[k],gd:=s.gd++[.lst (ps.map Prt.obj)]}:Spr).o),.im y,.im (.lst (ps.map Prt.obj)),.no,.no] _
 apply aA
 refine dW ps Prt.obj (λpre U=>∃v3 v4,U=[.deep (.at l ({s with gk:=s.gk++[k],gd:=s.gd++[.lst (ps.map Prt.obj)],ws:=lH y pre s.ws}:Spr).o),.im y,.im (.lst (ps.map Prt.obj)),v3,v4]) rfl ⟨_,_,rfl⟩ ?_ ?_
 .rintro pre p post U ex ⟨v3,v4,rfl⟩;have hpm:p∈ps:=by rw[ex];simp
  have hpk:=hp p hpm;have hpl':pre.length<ps.length:=by rw[ex];simp
  have okp:bY (c+64*pre.length) (lH y pre s.ws):=bY.reg hn (λq hq=>hp q (by rw[ex];simp[hq])) hw;have hnl:=qW hpk.1 hn;refine⟨_,rfl,?_⟩;walk_at "nrm"
  refine dW (nmL p) D.int (λpr U=>∃v4,U=[.deep (.at l ({s with gk:=s.gk++[k],gd:=s.gd++[.lst (ps.map Prt.obj)],ws:=pr.foldl (λws t=>gF (fA t (qV p)) y ws) (lH y pre s.ws)}:Spr).o),.im y,.im (.lst (ps.map Prt.obj)),.im p.obj,v4]) (cL (ET p hpk.1 hn hpk.2 rfl) rfl) ⟨_,rfl⟩ ?_ ?_
  .rintro pr t po U ex2 ⟨v4,rfl⟩;have hpr:pr.length<(nmL p).length:=by rw[ex2];simp
   refine⟨_,rfl,?_⟩;walk_at "nrm";refine NU uP (fL (ay rfl (ay (NZ p rfl) rfl))) rfl rfl (bY.ts pr okp) (by omega) ?_;refine⟨.im (.int t),?_⟩;rw[fE];rfl
  .rintro U ⟨v4,rfl⟩;refine⟨.im p.obj,v4,?_⟩;unfold lH;rw[fE];rfl
 .rintro U ⟨v3,v4,rfl⟩;refine Ax m4 rfl hz ?_;exact⟨_,rfl,rfl,rfl⟩
noncomputable def mkD(r:Rul):D:=.tup [.int r.hd,.lst (r.ps.map Prt.obj)]
noncomputable def kE(rs:List Rul):List Rul:=rs.filter λr=>r.w != .never
noncomputable def grd(r:Rul):List Prt:=match r.w with
 |.may=>[.least 1 []]
 |.make=>r.ps++[.out r.hd]
 |.never=>r.ps
structure RuK(n:Nat)(r:Rul):Prop where
 ok:r.Ok n
 nm:∀p∈r.ps,(nmP p).length<=1000
 len:r.ps.length<=1000
variable{r:Rul}
theorem uU(h:RuK n r):∀p∈grd r,PrK n p:=λp hp=>by
 obtain⟨w,hd,ps⟩:=r
 cases w with
 |may=>
  have:p=.least 1 []:=by simpa[grd]using hp
  subst this
  exact⟨⟨(λz hz=>nomatch hz),da _⟩,da _⟩
 |make=>
  rcases ci.mp (show p∈ps++[Prt.out hd]from hp)with q |q
  .exact⟨h.ok.ps p q,h.nm p q⟩
  .rw[eM.mp q]
   exact⟨h.ok.hd (λz=>by cases z),by show 1<=1000;decide⟩
 |never=>exact⟨h.ok.ps p hp,h.nm p hp⟩
theorem EV(h:RuK n r):(grd r).length<=1001:=by
 obtain⟨w,hd,ps⟩:=r;have hl:ps.length<=1000:=h.len
 cases w with
 |may=>show 1<=1001;decide
 |make=>show(ps++[Prt.out hd]).length<=1001;rw[a9,fD];omega
 |never=>show ps.length<=1001;omega
theorem EW(r:Rul)(h:r.Ok n):o_1 [r.toD]=aa (r.ps.map Prt.obj):=
 xC (congrArg (j1 Fl.rtO) (dO r.ps Prt.toD Prt.obj rfl (by have:=h.len;omega) λp _=>di rfl rfl (aR rfl (EK p))))
theorem N1(r:Rul)(h:RuK n r):ux [r.toD]=aa (.lst ((grd r).map Prt.obj)):=by
 have eb:=EM r h.ok;have hl:=h.len;apply jJ;unfold uw;obtain⟨w,hd,ps⟩:=r
 cases w with
 |may=>
  show wp _ [.im (Rul.toD ⟨.may,hd,ps⟩),.no] _;apply aA;refine bw (b:=ab) rfl (λ_=>?_) (λz=>by cases z)
  first |exact g7 rfl (gb rfl) |exact il rfl (eU rfl)
 |make=>
  show wp _ [.im (Rul.toD ⟨.make,hd,ps⟩),.no] _;apply aA;refine bw (b:=ae) rfl (λz=>by cases z) (λ_=>cp ?_);walk_at "nrm";apply aA
  refine jd (d:=ps.map Prt.obj) (by first |exact xB rfl (EW ⟨.make,hd,ps⟩ h.ok) |exact eb) ?_
  walk_at "nrm";apply aA;refine bw (b:=ab) rfl (λ_=>?_) (λz=>by cases z);refine jH (d:=(Prt.out hd).obj) rfl rfl (by rw[aH];show ps.length<_;have:ps.length<=1000:=hl;omega) ?_;walk_at "nrm";refine oA rfl (gb ?_);show D.lst (ps.map Prt.obj++[(Prt.out hd).obj])=D.lst ((ps++[Prt.out hd]).map Prt.obj);rw[bN]
  rfl
 |never=>
  show wp _ [.im (Rul.toD ⟨.never,hd,ps⟩),.no] _;apply aA;refine bw (b:=ae) rfl (λz=>by cases z) (λ_=>cp ?_);walk_at "nrm";apply aA
  refine jd (d:=ps.map Prt.obj) (by first |exact xB rfl (EW ⟨.never,hd,ps⟩ h.ok) |exact eb) ?_
  walk_at "nrm";apply aA;refine bw (b:=ae) rfl (λz=>by cases z) (λ_=>cp ?_);walk_at "nrm";exact oA rfl (gb rfl)
noncomputable def m6(i:Nat):D:=.tup [.str "rule",.int i]
noncomputable def jN(i:Nat):List Key:=[.inr "rule",.inl i]
theorem N2(h:jN i=jN j):i=j:=by
 unfold jN at h;have h2:=nt (nt h).2;have:=mh h2.1;omega
theorem AC{α:Type}[DecidableEq α]{f:α}:∀{ns:List α},f∉ns->aT f ns=ac
 | [],_=>rfl
 |n::ns,h=>by
  unfold aT;rw[if_neg (λe=>h (by rw[e];exact aO)),AC (λq=>h (bv _ q))];rfl
noncomputable def sp0(es:List (Option Bool))(rs:List Rul):Spr:=⟨es,[],[],[],[],[],[],.lst ((kE rs).map mkD)⟩
noncomputable def lI(s:Spr)(p:Nat×Rul):Spr:=uT s (m6 p.1) (jN p.1) (grd p.2)
structure SpK(n i c:Nat)(s:Spr):Prop where
 gk:s.gk=(bF i).map jN
 gl:s.gd.length=i
 ws:bY c s.ws
 wt:s.wt=(bF i).map m6
theorem SpK.step(h:SpK n i c s)(hr:RuK n r)(hn:n<=60):SpK n (i+1) (c+65000) (lI s (i,r)):=by
 refine⟨?_,?_,?_,?_⟩
 .show s.gk++[jN i]=_;rw[range_succ,bN,h.gk];rfl
 .show(s.gd++[_]).length=_;rw[a9,h.gl];rfl
 .have:=bY.reg (y:=m6 i) hn (uU hr) h.ws;have hl:=EV hr;exact this.le (by omega)
 .show s.wt++[m6 i]=_;rw[range_succ,bN,h.wt];rfl
theorem SpK.fresh(h:SpK n i c s):aT (jN i) s.gk=ac:=AC λq=>by
 rw[h.gk]at q;obtain⟨j,hj,e⟩:=bj.mp q;have:=N2 e;subst this;exact iu _ (eY.mp hj)
noncomputable def fB:Nat->List Rul->List (Nat×Rul)
 | _,[]=>[]
 |i,r::rs=>(i,r)::fB (i+1) rs
theorem EX:∀(i:Nat) (rs:List Rul),ig i (rs.map Rul.toD)=(fB i rs).map λp=>D.tup [.int p.1,p.2.toD]
 | _,[]=>rfl
 |i,r::rs=>by rw[bn,ig,EX (i+1) rs];rfl
theorem qX:∀(i:Nat) (rs:List Rul) (j:Nat),(fB i rs)[j]?=(rs[j]?).map λr=>(i+j,r)
 | _,[],_=>rfl
 |i,r::rs,0=>rfl
 |i,r::rs,j+1=>by rw[fB,eW,eW,qX (i+1) rs j,show i+1+j=i+(j+1) by omega]
variable{rs:List Rul}
theorem EY{pre post:List (Nat×Rul)}{p:Nat×Rul}(h:fB 0 rs=pre++p::post):p.1=pre.length/\p.2∈rs/\pre.length<rs.length:=by
 have h1:(fB 0 rs)[pre.length]?=aa p:=by rw[h,kL (aL _),Nat.sub_self];rfl
 rw[qX]at h1
 cases hr:rs[pre.length]? with
 |none=>rw[hr]at h1;cases h1
 |some r=>
  rw[hr]at h1;cases h1;exact⟨nA _,dJ hr,(dH.mp hr).1⟩
noncomputable def pl0(n:Int)(rs:List Rul):D:=.tup [.int n,.lst (rs.map Rul.toD)]
theorem N3(hi:fi U=aa (rs.map Rul.toD))(hok:∀r∈rs,r.Ok n)(hz:rs.length<=1000):
  aU 1 [] fi (az 0) (mB (m2 gx (mIx (ao 0) (kI 1)) kN)) (bE (ag (mIx (ao 0) (kI 1)) (ag (aB m_1 (ag (af 0) nZ)) nZ))) U=aa ((kE rs).map mkD):=by
 refine g6 rs Rul.toD (λr=>r.w != .never) mkD hi (by omega) λr hr=>?_;have eb:=EM r (hok r hr);obtain⟨w,hd,ps⟩:=r
 cases w with
 |never=>exact fw rfl rfl λz=>by cases z
 |make=>exact fw rfl rfl λ_=>fL (ay rfl (ay (aR rfl eb) rfl))
 |may=>exact fw rfl rfl λ_=>fL (ay rfl (ay (aR rfl eb) rfl))
theorem iR{g:Xa}(h:f U=aa d)(h':g U=aa (ds,U)):eV (mX f) g U=aa (d::ds,U):=by
 unfold eV mX;rw[h];show(g U).map _=_;rw[h'];rfl
theorem EZ{f:MF2}(h:f U=aa [.lst xs]):mT f U=aa (ig 0 xs):=by
 unfold mT;rw[h];rfl
noncomputable def spI(es:List (Option Bool))(rs:List Rul):Spr:=(fB 0 rs).foldl lI (sp0 es rs)
theorem SpK.foldT{n:Nat}(hn:n<=60){es:List (Option Bool)}{rs:List Rul}(hr:∀r∈rs,RuK n r):∀(k:Nat),k<=rs.length->SpK n k (65000*k) (((fB 0 rs).take k).foldl lI (sp0 es rs))
 | 0,_=>⟨rfl,rfl,⟨da _,λ_ h=>nomatch h⟩,rfl⟩
 |k+1,h=>by
  have hg:(fB 0 rs)[k]?=aa (k,rs[k]):=by rw[qX,dk h];simp
  have:=(SpK.foldT hn (es:=es) hr k (Nat.le_of_succ_le h)).step (hr rs[k] (jV h)) hn;rw[take_succ,hg,fE,show 65000*(k+1)=65000*k+65000 by omega];exact this
theorem SpK.fold(hn:n<=60)(hr:∀r∈rs,RuK n r){pre post:List (Nat×Rul)}{p:Nat×Rul}(h:fB 0 rs=pre++p::post):SpK n pre.length (65000*pre.length) (pre.foldl lI (sp0 es rs)):=by
 have:=SpK.foldT hn (es:=es) hr pre.length (gN (EY h).2.2);rw[h,take_left' rfl]at this;exact this
variable{v:Int}
theorem N4{bars:LD}(hn:n<=60)(hr:∀r∈rs,RuK n r)(hz:rs.length<=250)
 (k:∀v4 v5,K (.nx [.deep (.at l (spI es rs).o),.im (pl0 v rs),.im (.lst bars),.im (.lst (es.map shD)),v4,v5,.no])):
  wp (cJ (mT (ag (mIx (ao 1) (kI 1)) nZ)) (dh (bm (az 5) (bm (az 4) dE))) (jg (gc 0 "Spreading" "take_guard" qJ (eV (mX (bE (ag (kSt "rule") (ag (af 5) nZ)))) (eV (mX (aB ux (ag (af 4) nZ))) g8)))))
   [.deep (.at l (sp0 es rs).o),.im (pl0 v rs),.im (.lst bars),.im (.lst (es.map shD)),.no,.no,.no] K:=by
 refine dW (fB 0 rs) (λp=>D.tup [.int p.1,p.2.toD]) (λpre U=>∃v4 v5,U=[.deep (.at l (pre.foldl lI (sp0 es rs)).o),.im (pl0 v rs),.im (.lst bars),.im (.lst (es.map shD)),v4,v5,.no]) ?_ ⟨_,_,rfl⟩ ?_ ?_
 .rw[<- EX];exact EZ (ay (aI rfl rfl rfl) rfl)
 .rintro pre p post U ex ⟨v4,v5,rfl⟩;obtain⟨e1,e2,e3⟩:=EY ex;have sk:=SpK.fold (es:=es) hn hr ex;have hrk:=hr p.2 e2;have hg:=N1 p.2 hrk;have hgl:=EV hrk;have tg:=EU (l:=l) (y:=m6 p.1) (k:=jN p.1) (pre.foldl lI (sp0 es rs)) (grd p.2) rfl (by rw[e1];exact sk.fresh) (by rw[sk.gk,aH,cX];omega) (uU hrk) hn sk.ws (by omega) (by rw[sk.wt,aH,cX];omega) (by omega);refine⟨_,rfl,?_⟩;walk_at "nrm";refine oU (kB rfl rfl (iR rfl (iR (aR rfl hg) rfl)) rfl tg) ?_;refine⟨.im p.2.toD,.im (.int p.1),?_⟩;rw[fE];rfl
 .rintro U ⟨v4,v5,rfl⟩;exact k v4 v5
noncomputable def hup(es:List (Option Bool))(wo:List Bool)(r:Rul):Bool:=r.w != .never && (wo.getD r.hd.toNat ae && !(r.bodyLost es wo))
theorem N5(h:r.w≠.never):(r.w != .never)=ab:=by
 obtain⟨w,hd,ps⟩:=r
 cases w <;> first |rfl |exact absurd rfl h
inductive lJ(rs:List Rul)(es:List (Option Bool))(a:List Bool):List Bool->Prop
 |refl:lJ rs es a a
 |step {b:List Bool} {r:Rul}:lJ rs es a b->r∈rs->hup es b r=ab->lJ rs es a (b.set r.hd.toNat ae)
theorem E1(l:List Bool)(k j:Nat):(l.set k ae).getD j ae=(l.getD j ae && !(k==j)):=by
 rw[bD,bD]
 by_cases e:k=j
 .subst e;rw[List.getElem?_set];simp
  split <;> rfl
 .rw[iV e];simp[e]
variable{b:List Bool}
theorem lJ.len{a:List Bool}(h:lJ rs es a b):b.length=a.length:=by
 induction h with
 |refl=>rfl
 |step _ _ _ ih=>rw[gj,ih]
theorem lJ.sub{a:List Bool}(h:lJ rs es a b)(i:Nat):b.getD i ae=ab->a.getD i ae=ab:=by
 induction h with
 |refl=>exact id
 |step _ _ _ ih=>
  rw[E1];intro q;exact ih (by simpa using (cg _ _▸q).1)
noncomputable def ct(bs:List Bool):Nat:=(bs.filter λb=>b).length
theorem N6(bs:List Bool):ct bs<=bs.length:=jW _ _
theorem E2:∀(bs:List Bool) (k:Nat),bs.getD k ae=ab->ct (bs.set k ae)+1=ct bs
 | [],k,h=>by simp at h
 |b::bs,0,h=>by
  have h:b=ab:=h;subst h
  rfl
 |b::bs,k+1,h=>by
  have ih:=E2 bs k (by simpa using h)
  cases b with
  |false=>exact ih
  |true=>
   show(ct (bs.set k ae)+1)+1=ct bs+1;rw[ih]
theorem N7(bs:List Bool)(k:Nat)(b:Bool):(bs.map D.bl).set k (.bl b)=(bs.set k b).map D.bl:=by rw[jX]
noncomputable def kG(es:List (Option Bool)):List Bool:=es.map λe=>!(e==aa ae)
theorem N8(hi:fi U=aa (es.map shD))(hz:es.length<=1000):aU 1 [] fi (az 0) kY (m2 gx (af 0) (kBl ae)) U=aa ((kG es).map D.bl):=by
 unfold kG;rw[<- KS];exact dO es shD (λe=>D.bl (!(e==aa ae))) hi (by omega) λe _=>di rfl rfl (aN rfl rfl (tf _ _))
noncomputable def AD:Option Prt->D
 |some p=>p.obj
 |none=>.non
variable{wo:List Bool}
theorem E3(ps:List Prt)(h:∀p∈ps,p.Ok es.length)(hw:wo.length=es.length):qQ [.lst (ps.map Prt.obj),.lst (es.map shD),.lst (wo.map D.bl)]=aa (AD (ps.find? λp=>p.lost es wo)):=by
 apply jJ;unfold uJ;show wp _ [.im (.lst (ps.map Prt.obj)),.im (.lst (es.map shD)),.im (.lst (wo.map D.bl)),.no] _;apply aA;refine dW ps Prt.obj (λpre U=>∃v3,U=[.im (.lst (ps.map Prt.obj)),.im (.lst (es.map shD)),.im (.lst (wo.map D.bl)),v3]/\∀p∈pre,p.lost es wo=ae) rfl ⟨_,rfl,λ_ h=>nomatch h⟩ ?_ ?_
 .rintro pre p post U ex ⟨v3,rfl,hpre⟩;have hp:p∈ps:=by rw[ex];simp
  refine⟨_,rfl,?_⟩;walk_at "nrm";refine bw (fu (EL p (h p hp) hw rfl rfl) rfl) (λz=>?_) (λz=>cp ?_)
  .refine Dx (d:=p.obj) rfl (eU ?_);rw[ex,find?_append,pi.mpr λq hq=>by rw[hpre q hq];exact bd,o9 z];rfl
  .refine⟨.im p.obj,rfl,λq hq=>?_⟩
   rcases ci.mp hq with y |y
   .exact hpre q y
   .rw[eM.mp y];exact z
 .rintro U ⟨v3,rfl,hpre⟩;refine il (d:=.non) rfl (eU ?_);rw[pi.mpr λq hq=>by rw[hpre q hq];exact bd];rfl
theorem N9(x:Option Prt):dIs (AD x) .non=aa (.bl x.isNone):=by
 cases x with
 |none=>rfl
 |some p=>cases p <;> rfl
theorem E4(r:Rul):(r.ps.find? λp=>p.lost es wo).isNone=!(r.bodyLost es wo):=by
 unfold Rul.bodyLost
 cases h:r.ps.any (λp=>p.lost es wo)with
 |true=>
  obtain⟨p,hp,hl⟩:=any_eq_true.mp h
  cases hf:r.ps.find? (λp=>p.lost es wo)with
  |none=>exact absurd hl (pi.mp hf p hp)
  |some q=>rfl
 |false=>rw[pi.mpr λp hp q=>by rw[any_eq_true.mpr ⟨p,hp,q⟩]at h;cases h];rfl
noncomputable def iS(es:List (Option Bool))(wo:List Bool)(r:Rul):Bool:=wo.getD r.hd.toNat ae && !(r.bodyLost es wo)
noncomputable abbrev jk:=List Bool×List Rul×List Rul
noncomputable def bQ(es:List (Option Bool))(a:jk)(r:Rul):jk:=if iS es a.1 r then (a.1.set r.hd.toNat ae,a.2.1++[r],a.2.2) else (a.1,a.2.1,a.2.2++[r])
noncomputable def dQ(es:List (Option Bool))(wo:List Bool)(us rest:List Rul):jk:=rest.foldl (bQ es) (wo,us,[])
noncomputable def m7(es:List (Option Bool)):Nat->List Bool->List Rul->List Rul->jk
 | 0,wo,us,rest=>(wo,us,rest)
 |k+1,wo,us,rest=>if us.length<(dQ es wo us rest).2.1.length/\(dQ es wo us rest).1.any id=ab then m7 es k (dQ es wo us rest).1 (dQ es wo us rest).2.1 (dQ es wo us rest).2.2 else dQ es wo us rest
noncomputable def c9(es:List (Option Bool))(ms:List Rul):jk:=m7 es (ms.length+1) (kG es) [] ms
structure L3(es:List (Option Bool))(ms:List Rul)(a:jk)(q:List Rul):Prop where
 len:a.1.length=es.length
 pe:lJ ms es (kG es) a.1
 us:∀r∈a.2.1,a.1.getD r.hd.toNat ae=ae
 pm:(a.2.1++a.2.2++q).Perm ms
variable{ms:List Rul}
theorem L3.step{a:jk}{q:List Rul}(h:L3 es ms a (r::q))(hw:∀r∈ms,r.w≠.never):L3 es ms (bQ es a r) q:=by
 have hr:r∈ms:=h.pm.mem_iff.mp (by simp);unfold bQ
 by_cases hh:iS es a.1 r=ab
 .rw[if_pos hh];refine⟨by rw[gj];exact h.len,.step h.pe hr ?_,λx hx=>?_,?_⟩
  .unfold hup;rw[N5 (hw r hr),Bool.true_and];exact hh
  .show(a.1.set r.hd.toNat ae).getD _ ae=ae;rw[E1]
   rcases ci.mp hx with z |z
   .rw[h.us x z];rfl
   .rw[eM.mp z];simp
  .refine List.Perm.trans ?_ h.pm;show(a.2.1++[r]++a.2.2++q).Perm _;rw[fQ,fQ,fQ];refine vf _ ?_;show(r::(a.2.2++q)).Perm (a.2.2++r::q);exact perm_middle.symm
 .rw[if_neg hh];refine⟨h.len,h.pe,h.us,?_⟩;have:a.2.1++(a.2.2++[r])++q=a.2.1++a.2.2++r::q:=by simp
  show(a.2.1++(a.2.2++[r])++q).Perm ms;rw[this];exact h.pm
theorem L3.fold{es:List (Option Bool)}{ms:List Rul}(hw:∀r∈ms,r.w≠.never):∀{q:List Rul} {a:jk},L3 es ms a q->L3 es ms (q.foldl (bQ es) a) []
 | [],_,h=>h
 |r::q,a,h=>L3.fold (q:=q) (a:=bQ es a r) hw (h.step hw)
theorem qY{es:List (Option Bool)}:∀(q:List Rul) (a:jk),(q.foldl (bQ es) a).2.1.length+(q.foldl (bQ es) a).2.2.length=a.2.1.length+a.2.2.length+q.length/\a.2.1.length<=(q.foldl (bQ es) a).2.1.length
 | [],a=>⟨by simp,aL _⟩
 |r::q,a=>by
  obtain⟨h1,h2⟩:=qY q (bQ es a r);rw[eX,h1];unfold bQ at *
  split at h2 <;> rename_i hh
  .rw[if_pos hh]at *;rw[a9]at h2;refine⟨by show(a.2.1++[r]).length+_+_=_;rw[a9,b9];simp;omega,cZ (nv _ _) h2⟩
  .rw[if_neg hh]at *;refine⟨by show _+(a.2.2++[r]).length+_=_;rw[a9,b9];simp;omega,h2⟩
theorem E5{es:List (Option Bool)}:∀(q:List Rul) (a:jk),(q.foldl (bQ es) a).2.1.length=a.2.1.length->(q.foldl (bQ es) a).1=a.1/\(q.foldl (bQ es) a).2.2=a.2.2++q/\∀r∈q,iS es a.1 r=ae
 | [],a,_=>⟨rfl,(cr _).symm,λ_ h=>nomatch h⟩
 |r::q,a,h=>by
  rw[eX]at h ⊢;have h2:=(qY (es:=es) q (bQ es a r)).2
  by_cases hh:iS es a.1 r=ab
  .exfalso;have e:bQ es a r=(a.1.set r.hd.toNat ae,a.2.1++[r],a.2.2):=by unfold bQ;rw[if_pos hh]
   rw[e]at h h2;have:(a.2.1++[r]).length=a.2.1.length+1:=by simp
   rw[h]at h2;have h3:(a.2.1++[r]).length<=a.2.1.length:=h2;omega
  .have e:bQ es a r=(a.1,a.2.1,a.2.2++[r]):=by unfold bQ;rw[if_neg hh]
   rw[e]at h ⊢;obtain⟨h3,h4,h5⟩:=E5 q _ h;refine⟨h3,by rw[h4];simp,λx hx=>?_⟩
   rcases aW.mp hx with z |z
   .rw[z];exact Bool.not_eq_true _▸hh
   .exact h5 x z
theorem Oa{bs:List Bool}(h:bs.any id=ae)(i:Nat):bs.getD i ae=ae:=by
 rw[bD]
 cases e:bs[i]? with
 |none=>rfl
 |some b=>
  cases b with
  |false=>rfl
  |true=>rw[any_eq_true.mpr ⟨ab,dJ e,rfl⟩]at h;cases h
theorem E6{es:List (Option Bool)}{ms:List Rul}(hw:∀r∈ms,r.w≠.never):∀(k:Nat) (wo:List Bool) (us rest:List Rul),L3 es ms (wo,us,[]) rest->rest.length<k->L3 es ms (m7 es k wo us rest) []/\∀r∈ms,iS es (m7 es k wo us rest).1 r=ae
 | 0,_,_,_,_,h=>absurd h (lR _)
 |k+1,wo,us,rest,h,hk=>by
  have h1:L3 es ms (dQ es wo us rest) []:=L3.fold hw h;have hl:=qY (es:=es) rest (wo,us,[]);unfold m7;split
  .rename_i hh;refine E6 hw k _ _ _ ⟨h1.len,h1.pe,h1.us,?_⟩ ?_
   .have:=h1.pm;rw[cr]at this ⊢;exact this
   .have:(dQ es wo us rest).2.1.length+(dQ es wo us rest).2.2.length=us.length+0+rest.length:=hl.1;have:=hh.1;omega
  .rename_i hh;refine⟨h1,λr hr=>?_⟩
   cases ha:(dQ es wo us rest).1.any id with
   |false=>unfold iS;rw[Oa ha];rfl
   |true=>
    have he:(dQ es wo us rest).2.1.length=us.length:=by
     have:us.length<=(dQ es wo us rest).2.1.length:=hl.2;have:=mt (λz=>And.intro z ha) hh;omega
    obtain⟨e1,e2,e3⟩:=E5 (es:=es) rest (wo,us,[]) he;have e1:(dQ es wo us rest).1=wo:=e1
    rcases ci.mp (h.pm.mem_iff.mpr hr)with z |z
    .rw[cr]at z;rw[e1];unfold iS;rw[h.us r z];rfl
    .rw[e1];exact e3 r z
theorem Ob(hw:∀r∈ms,r.w≠.never):L3 es ms (c9 es ms) []/\∀r∈ms,iS es (c9 es ms).1 r=ae:=
 E6 hw _ _ _ _ ⟨by unfold kG;rw[aH],.refl,(λ_ h=>nomatch h),by simp⟩ (dY _)
theorem Oc(hm:s.mks=.lst (ms.map mkD))(h60:s.es.length<=60)(hok:∀r∈ms,r.Ok s.es.length)(hw:∀r∈ms,r.w≠.never)(hz:ms.length<=1000):
  m_4 l [] s.o=aa (({s with mks:=.lst (((c9 s.es ms).2.1++(c9 s.es ms).2.2).map mkD)}:Spr).o,.lst ((c9 s.es ms).1.map D.bl)):=by
 have hno:(kG s.es).length=s.es.length:=by unfold kG;rw[aH]
 apply kC;unfold b_4;show wp _ [.deep (.at l s.o),.no,.no,.no,.no,.no,.no,.no] _;apply aA;refine jd (N8 (Aw qT) (by omega)) ?_;walk_at "nrm";apply aA;refine jd (d:=[]) rfl ?_;walk_at "nrm";apply aA;refine bX (d:=.lst (ms.map mkD)) ((NO NN).trans (by rw[hm])) ?_;walk_at "nrm";apply aA;refine bX (d:=.bl ab) rfl ?_;walk_at "nrm";apply aA;refine qh (λm U=>∃(wo:List Bool) (us rest:List Rul) (g:Bool) (v5 v6 v7:Sl),U=[.deep (.at l s.o),.own (wo.map D.bl),.own (us.map mkD),.im (.lst (rest.map mkD)),.im (.bl g),v5,v6,v7]/\wo.length=s.es.length/\(us++rest).Perm ms/\(g=ab->m7 s.es m wo us rest=c9 s.es ms/\rest.length<m)/\(g=ae->(wo,us,rest)=c9 s.es ms)) ?_ _ (ms.length+1) _ ⟨kG s.es,[],ms,ab,_,_,_,rfl,hno,rF _,λ_=>⟨rfl,dY _⟩,λz=>by cases z⟩ (by omega)
 .rintro m U ⟨wo,us,rest,g,v5,v6,v7,rfl,hwl,hpm,hT,hF⟩;refine⟨g,rfl,?_,?_⟩
  .rintro rfl;obtain⟨eL,hlt⟩:=hT rfl;have hul:us.length+rest.length=ms.length:=by have:=hpm.length_eq;rw[a9]at this;exact this
   apply aA;refine bX (d:=.int us.length) (aR rfl (iO us mkD)) ?_;walk_at "nrm";apply aA;refine jd (d:=[]) rfl ?_;walk_at "nrm";apply aA;refine dW rest mkD (λpre U=>∃(v7:Sl),U=[.deep (.at l s.o),.own ((pre.foldl (bQ s.es) (wo,us,[])).1.map D.bl),.own ((pre.foldl (bQ s.es) (wo,us,[])).2.1.map mkD),.im (.lst (rest.map mkD)),.im (.bl ab),.im (.int us.length),.own ((pre.foldl (bQ s.es) (wo,us,[])).2.2.map mkD),v7]/\(pre.foldl (bQ s.es) (wo,us,[])).1.length=s.es.length) rfl ⟨_,rfl,hwl⟩ ?_ ?_
   .rintro pre r post U ex ⟨v7,rfl,hl1⟩;have hrm:r∈ms:=hpm.mem_iff.mp (by rw[ex];simp);have hr:=hok r hrm;obtain⟨h0,h1⟩:=hr.hd (hw r hrm);have hpl:pre.length<rest.length:=by rw[ex];simp
    have hln:=qY (es:=s.es) pre (wo,us,[]);have hln0:(pre.foldl (bQ s.es) (wo,us,[])).2.1.length+(pre.foldl (bQ s.es) (wo,us,[])).2.2.length=us.length+0+pre.length:=hln.1;generalize hA:pre.foldl (bQ s.es) (wo,us,[])=A at *;have el:=E3 (wo:=A.1) r.ps hr.ps hl1;refine⟨_,rfl,?_⟩;walk_at "nrm"
    have ht:(fj (b7 (mIx (ao 1) (mIx (ao 7) (kI 0)))) (mB (m2 dIs (aB qQ (ag (mIx (ao 7) (kI 1)) (ag (pB (bu "Spreading" "sheet" (aZ 0))) (ag (gu 1) nZ)))) kN))) [.deep (.at l s.o),.own (A.1.map D.bl),.own (A.2.1.map mkD),.im (.lst (rest.map mkD)),.im (.bl ab),.im (.int us.length),.own (A.2.2.map mkD),.im (mkD r)]=aa (iS s.es A.1 r):=by
     unfold iS;rw[<- E4];exact p8 (fu (aI rfl (aI rfl rfl rfl) (jE h0 (by omega))) rfl) (b8 (aN (aR (ay (aI rfl rfl rfl) (ay (m5 qT) (ay rfl rfl))) el) rfl (N9 _)))
    refine bw ht (λz=>?_) (λz=>?_)
    .apply aA;refine Dr (k:=r.hd) (xs:=A.1.map D.bl) rfl (aI rfl rfl rfl) rfl h0 (by rw[aH];omega) ?_;walk_at "nrm";refine jH (d:=mkD r) rfl rfl (by rw[aH];omega) ?_;refine⟨.im (mkD r),?_,?_⟩
     .rw[fE,hA];show _=[_,Sl.own ((bQ s.es A r).1.map D.bl),.own ((bQ s.es A r).2.1.map mkD),_,_,_,.own ((bQ s.es A r).2.2.map mkD),_];unfold bQ;rw[if_pos z,<- N7];show _=[_,_,Sl.own ((A.2.1++[r]).map mkD),_,_,_,_,_];rw[bN];rfl
     .rw[fE,hA];show(bQ s.es A r).1.length=_;unfold bQ;rw[if_pos z,gj];exact hl1
    .refine jH (d:=mkD r) rfl rfl (by rw[aH];omega) ?_;have z':¬iS s.es A.1 r=ab:=by rw[z];exact bd
     refine⟨.im (mkD r),?_,?_⟩
     .rw[fE,hA];show _=[_,Sl.own ((bQ s.es A r).1.map D.bl),.own ((bQ s.es A r).2.1.map mkD),_,_,_,.own ((bQ s.es A r).2.2.map mkD),_];unfold bQ;rw[if_neg z'];show _=[_,_,_,_,_,_,Sl.own ((A.2.2++[r]).map mkD),_];rw[bN];rfl
     .rw[fE,hA];show(bQ s.es A r).1.length=_;unfold bQ;rw[if_neg z'];exact hl1
   .rintro U ⟨v7,rfl,hl1⟩;have hln:=qY (es:=s.es) rest (wo,us,[]);have hln0:(dQ s.es wo us rest).2.1.length+(dQ s.es wo us rest).2.2.length=us.length+0+rest.length:=hln.1;have hge:us.length<=(dQ s.es wo us rest).2.1.length:=hln.2;show wp _ [.deep (.at l s.o),.own ((dQ s.es wo us rest).1.map D.bl),.own ((dQ s.es wo us rest).2.1.map mkD),.im (.lst (rest.map mkD)),.im (.bl ab),.im (.int us.length),.own ((dQ s.es wo us rest).2.2.map mkD),v7] _;replace hl1:(dQ s.es wo us rest).1.length=s.es.length:=hl1
    have hpm2:((dQ s.es wo us rest).2.1++(dQ s.es wo us rest).2.2).Perm ms:=by
     have gen:∀(q:List Rul) (a:jk),((q.foldl (bQ s.es) a).2.1++(q.foldl (bQ s.es) a).2.2).Perm (a.2.1++a.2.2++q):=by
      intro q
      induction q with
      |nil=>intro a;simp
      |cons r q ih=>
       intro a;rw[eX];refine(ih _).trans ?_;unfold bQ;split
       .show(a.2.1++[r]++a.2.2++q).Perm _;rw[fQ,fQ,fQ];refine vf _ ?_;show(r::(a.2.2++q)).Perm (a.2.2++r::q);exact perm_middle.symm
       .show(a.2.1++(a.2.2++[r])++q).Perm _;rw[show a.2.1++(a.2.2++[r])++q=a.2.1++a.2.2++r::q by simp]
     refine(gen rest (wo,us,[])).trans ?_;show(us++[]++rest).Perm ms;rw[cr];exact hpm
    cases m with
    |zero=>exact absurd hlt (lR _)
    |succ m=>
     unfold m7 at eL;generalize hA:dQ s.es wo us rest=A at *;apply aA;refine iN rfl ?_;refine bX (d:=.lst (A.2.2.map mkD)) rfl ?_;walk_at "nrm";refine bX (d:=.bl (decide ((us.length:Int)<A.2.1.length) && A.1.any id)) (sZ (aN (aR rfl (iO A.2.1 mkD)) rfl tN) (aR rfl (J2 A.1))) ?_
     by_cases hh:us.length<A.2.1.length/\A.1.any id=ab
     .rw[if_pos hh]at eL;have hg:(decide ((us.length:Int)<A.2.1.length) && A.1.any id)=ab:=by rw[hh.2,decide_eq_true (by omega)];rfl
      rw[hg];exact⟨m,dY _,A.1,A.2.1,A.2.2,ab,_,_,_,rfl,hl1,hpm2,λ_=>⟨eL,by omega⟩,λz=>by cases z⟩
     .rw[if_neg hh]at eL
      have hg:(decide ((us.length:Int)<A.2.1.length) && A.1.any id)=ae:=by
       cases ha:A.1.any id with
       |false=>exact rk _
       |true=>
        have:¬us.length<A.2.1.length:=λq=>hh ⟨q,ha⟩;rw[decide_eq_false (by omega)];rfl
      rw[hg];exact⟨0,px _,A.1,A.2.1,A.2.2,ae,_,_,_,rfl,hl1,hpm2,(λz=>by cases z),λ_=>eL⟩
  .rintro rfl;have eF:=hF rfl;have hul:us.length+rest.length=ms.length:=by have:=hpm.length_eq;rw[a9]at this;exact this
   rw[<- eF];apply aA;refine iN rfl ?_;refine lG (EQ (bC (As (a:=us.map mkD) (b:=rest.map mkD) rfl rfl (by rw[aH,aH];omega)))) rfl rfl ?_;rw[<- bN]
   show wp _ [.deep (.at l ({s with mks:=.lst ((us++rest).map mkD)}:Spr).o),.own (wo.map D.bl),.im (.lst (us.map mkD)),.im (.lst (rest.map mkD)),.im (.bl ae),v5,v6,v7] _
   refine iN rfl ?_;exact oT (d:=.lst (wo.map D.bl)) rfl ⟨_,rfl,rfl,rfl⟩
noncomputable def prD(z:Int×Bool):D:=.tup [.int z.1,.bl z.2]
theorem AE(es:List (Option Bool))(t:Int):dIs (shD (es.getD t.toNat ac)) .non=aa (.bl (opn es t)):=by
 unfold opn
 cases es.getD t.toNat ac with
 |none=>rfl
 |some b=>cases b <;> rfl
noncomputable def wt(its:List (Int×Int))(j:Int):Int:=((its.filter λz=>z.1==j).map (·.2)).sum
noncomputable def kW(W:List (Int×Int)):List Key:=W.map λz=>.inl z.1
noncomputable def xW(W:List (Int×Int)):LD:=W.map λz=>.int z.2
noncomputable def jl(W:List (Int×Int))(j:Int):Int:=((W.find? λz=>z.1==j).map (·.2)).getD 0
noncomputable def upW(W:List (Int×Int))(j v:Int):List (Int×Int):=if W.any (λz=>z.1==j) then W.map (λz=>if z.1=j then (z.1,v) else z) else W++[(j,v)]
theorem E7(W:List (Int×Int))(j:Int):fM (kW W) (.inl j)=W.any λz=>z.1==j:=by
 unfold fM kW;rw[any_map]
 congr 1
 funext z;exact jo.mpr (by simp)
theorem Od(W:List (Int×Int))(j v:Int):ga (kW W) (.inl j)=kW (upW W j v):=by
 unfold ga upW;rw[E7];split
 .unfold kW;rw[map_map];refine rA λz _=>?_;show _=gT (if z.1=j then (z.1,v) else z).1
  split <;> rfl
 .unfold kW;rw[bN];rfl
theorem Oe(W:List (Int×Int))(j v:Int):gD (kW W) (xW W) (.inl j) (.int v)=xW (upW W j v):=by
 unfold gD upW;rw[E7];split
 .rename_i hq;clear hq;unfold kW xW
  induction W with
  |nil=>rfl
  |cons z W ih=>
   rw[bn,bn,rq,ih,bn,bn]
   congr 1
   by_cases h:z.1=j
   .rw[if_pos (by rw[h]),if_pos h]
   .rw[if_neg λq=>h (mh q),if_neg h]
 .unfold xW;rw[bN];rfl
theorem E8(W:List (Int×Int))(j:Int):jh (kW W) (xW W) (.inl j)=(W.find? λz=>z.1==j).map λz=>D.int z.2:=by
 unfold jh kW xW
 induction W with
 |nil=>rfl
 |cons z W ih=>
  rw[bn,bn,d9]
  by_cases h:z.1=j
  .rw[o9 (by simp[h]),o9 (by simp[h])];rfl
  .rw[find?_cons_of_neg (by simp[h]),find?_cons_of_neg (by simp[h])];exact ih
theorem Of(W:List (Int×Int))(j:Int):(jh (kW W) (xW W) (.inl j)).getD (.int 0)=.int (jl W j):=by
 rw[E8];unfold jl
 cases (W.find? λz=>z.1==j) <;> rfl
noncomputable def qZ(W:List (Int×Int))(z:Int×Int):List (Int×Int):=upW W z.1 (jl W z.1+z.2)
noncomputable def wts(its:List (Int×Int)):List (Int×Int):=its.foldl qZ []
structure WOk(W its:List (Int×Int)):Prop where
 nd:(W.map (·.1)).Nodup
 ks:∀j,j∈W.map (·.1)↔j∈its.map (·.1)
 vs:∀z∈W,z.2=wt its z.1
 ln:W.length<=its.length
theorem E9(its:List (Int×Int))(z:Int×Int)(j:Int):wt (its++[z]) j=wt its j+if z.1=j then z.2 else 0:=by
 unfold wt;rw[rE,bN,sum_append]
 congr 1
 by_cases h:z.1=j
 .rw[if_pos h,jU (by simp[h])];simp
 .rw[if_neg h,lL (by simp[h])];rfl
theorem AF{j:Int}(h:j∉its.map (·.1)):wt its j=0:=by
 unfold wt
 rw[filter_eq_nil_iff.mpr λz hz=>by
  simp only[beq_iff_eq];exact λe=>h (e▸bj.mpr ⟨z,hz,rfl⟩)]
 rfl
theorem WOk.get{W its:List (Int×Int)}(h:WOk W its)(j:Int):jl W j=wt its j:=by
 unfold jl
 cases e:W.find? (λz=>z.1==j)with
 |none=>
  have hn:j∉W.map (·.1):=λq=>by
   obtain⟨z,hz,ez⟩:=bj.mp q;have:=pi.mp e z hz;simp[ez]at this
  rw[AF λq=>hn ((h.ks j).mpr q)]
  rfl
 |some z=>
  have hz:=mem_of_find?_eq_some e;have ez:z.1=j:=by have:=find?_some e;simpa using this
  show z.2=_;rw[h.vs z hz,ez]
theorem WOk.step{W its:List (Int×Int)}(h:WOk W its)(z:Int×Int):WOk (qZ W z) (its++[z]):=by
 unfold qZ upW;rw[h.get]
 by_cases hh:W.any (λy=>y.1==z.1)=ab
 .rw[if_pos hh]
  have e1:(W.map λy=>if y.1=z.1 then (y.1,wt its z.1+z.2) else y).map (·.1)=W.map (·.1):=by
   rw[map_map];refine rA λy _=>?_;show(if y.1=z.1 then (y.1,wt its z.1+z.2) else y).1=_
   split <;> rfl
  refine⟨by rw[e1];exact h.nd,λj=>?_,λy hy=>?_,by rw[aH,a9];have:=h.ln;omega⟩
  .rw[e1,h.ks j,bN,ci];refine⟨.inl,λq=>q.elim id λq=>?_⟩;obtain⟨y,hy,e⟩:=any_eq_true.mp hh;have ej:j=z.1:=by simpa using q
   rw[ej,<- (beq_iff_eq.mp e)];exact(h.ks _).mp (bj.mpr ⟨y,hy,rfl⟩)
  .obtain⟨x,hx,ex⟩:=bj.mp hy;rw[E9]
   by_cases e:x.1=z.1
   .rw[if_pos e]at ex;rw[<- ex];show wt its z.1+z.2=wt its x.1+_;rw[if_pos e.symm,e]
   .rw[if_neg e]at ex;rw[<- ex,if_neg λq=>e q.symm,h.vs x hx];omega
 .rw[if_neg hh]
  have hn : z.1∉W.map (·.1):=λq=>hh (by
   obtain⟨y,hy,e⟩:=bj.mp q;exact any_eq_true.mpr ⟨y,hy,by simp[e]⟩)
  refine⟨?_,λj=>?_,λy hy=>?_,by rw[a9,a9];have:=h.ln;show _+1<=_+1;omega⟩
  .rw[bN];refine gL.mpr ⟨h.nd,by simp,λa ha b hb=>?_⟩;have:b=z.1:=by simpa using hb
   rw[this];exact λq=>hn (q▸ha)
  .rw[bN,bN,ci,ci,h.ks j];rfl
  .rw[E9]
   rcases ci.mp hy with q |q
   .have ne:z.1≠y.1:=λe=>hn (e▸bj.mpr ⟨y,q,rfl⟩);rw[if_neg ne,h.vs y q];omega
   .have:y=(z.1,wt its z.1+z.2):=by simpa using q
    rw[this,if_pos rfl]
theorem q5(its:List (Int×Int)):WOk (wts its) its:=by
 have go:∀(post pre W:List (Int×Int)),WOk W pre->WOk (post.foldl qZ W) (pre++post):=by
  intro post
  induction post with
  |nil=>intro pre W h;rw[cr];exact h
  |cons z post ih=>
   intro pre W h;have:=ih (pre++[z]) (qZ W z) (h.step z);rw[fQ]at this;exact this
 exact go its [] [] ⟨fR,λ_=>Iff.rfl,λz h=>(cE h).elim,aL _⟩
theorem Og(its:List (Int×Int))(hl:its.length<=100000):zV [.lst (its.map itD)]=aa (.kd (kW (wts its)) (xW (wts its))):=by
 apply jJ;unfold uB;show wp _ [.im (.lst (its.map itD)),.no,.no,.no] _;apply aA;refine Do (o:=.nx [.im (.lst (its.map itD)),.ownd (kW []) (xW []),.no,.no]) rfl ?_;apply aA;refine dW its itD (λpre U=>∃a2 a3,U=[.im (.lst (its.map itD)),.ownd (kW (wts pre)) (xW (wts pre)),a2,a3]) rfl ⟨_,_,rfl⟩ ?_ ?_
 .rintro pre z post U he ⟨a2,a3,rfl⟩;refine⟨_,rfl,?_⟩;show wp _ [.im (.lst (its.map itD)),.ownd (kW (wts pre)) (xW (wts pre)),.im (.int z.1),.im (.int z.2)] _;have hp:pre.length<=its.length:=by rw[he,a9];omega
  have hw:=(q5 pre).ln
  have ew:wts (pre++[z])=upW (wts pre) z.1 (jl (wts pre) z.1+z.2):=by
   unfold wts;rw[fE];rfl
  rw[ew];generalize wts pre=W at hw
  have eg:tQ 1 (af 2) (kI 0) [.im (.lst (its.map itD)),.ownd (kW W) (xW W),.im (.int z.1),.im (.int z.2)]=aa (.int (jl W z.1)):=by
   show aa ((jh (kW W) (xW W) (.inl z.1)).getD (.int 0))=_;rw[Of]
  refine Do (o:=.nx [.im (.lst (its.map itD)),.ownd (kW (upW W z.1 (jl W z.1+z.2))) (xW (upW W z.1 (jl W z.1+z.2))),.im (.int z.1),.im (.int z.2)]) ?_ ⟨_,_,rfl⟩;unfold ko;rw[aN eg rfl oz,aC];show(if (kW W).length<16777216 then aa (Fl.nx [.im (.lst (its.map itD)),.ownd (ga (kW W) (.inl z.1)) (gD (kW W) (xW W) (.inl z.1) (.int (jl W z.1+z.2))),.im (.int z.1),.im (.int z.2)]) else ac)=_;rw[if_pos (by unfold kW;rw[aH];omega),Od W z.1 (jl W z.1+z.2),Oe]
 .rintro U ⟨a2,a3,rfl⟩;refine Ln rfl ?_;exact il rfl (eU rfl)
noncomputable def opI(es:List (Option Bool))(its:List (Int×Int)):List (Int×Int):=its.filter λz=>opn es z.1
noncomputable def hv(es:List (Option Bool))(its:List (Int×Int))(lack:Int):List Int:=((wts (opI es its)).filter λz=>decide (z.2≥lack)).map (·.1)
theorem Fa(h:InN es.length its)(hl:its.length<=100000)(lack:Int):uD [.lst (its.map itD),.lst (es.map shD),.int lack]=aa (.lst ((hv es its lack).map D.int)):=by
 have hf:(opI es its).length<=its.length:=jW _ _;have ok:=q5 (opI es its);have hw:=ok.ln;apply jJ;unfold uC;show wp _ [.im (.lst (its.map itD)),.im (.lst (es.map shD)),.im (.int lack),.no] _;apply aA;refine bX (d:=.kd (kW (wts (opI es its))) (xW (wts (opI es its)))) (aR (ay (bC (ds:=(opI es its).map itD) ?_) rfl) (Og _ (by omega))) ?_
 .refine g6 its itD (λz=>opn es z.1) itD rfl (by omega) λz hz=>?_;have hb:=h z hz;exact fw rfl (b8 (aN (aI rfl (aI rfl rfl rfl) (f9 hb.1 hb.2.1)) rfl (AE es z.1))) λ_=>rfl
 generalize hW:wts (opI es its)=W at ok hw;refine g7 (d:=(hv es its lack).map D.int) ?_ (gb rfl);unfold hv;rw[hW,map_map];refine g6 W (λz=>D.int z.1) (λz=>decide (z.2≥lack)) (D.int ∘ (·.1)) ?_ (by omega) λz hz=>?_
 .show aa ((kW W).map kD)=_;unfold kW;rw[map_map];rfl
 .refine fw rfl (b8 (aN (x:=.int z.2) (y:=.int lack) ?_ rfl Dt)) λ_=>rfl;show jh (kW W) (xW W) (.inl z.1)=_;rw[E8,DQ W ok.nd z hz];rfl
noncomputable def tps(es:List (Option Bool)):Prt->List (Int×Bool)
 |.inn t=>if opn es t then [(t,ab)] else []
 |.out t=>if opn es t then [(t,ae)] else []
 |.least k its=>(hv es its (k-bx (·==aa ab) es its)).map λt=>(t,ab)
 |.most k its=>(hv es its (bx (λe=>!(e==aa ae)) es its-k)).map λt=>(t,ae)
theorem uV(lack:Int):(hv es its lack).length<=its.length:=by
 unfold hv;rw[aH];have h1:=jW (λz:Int×Int=>decide (z.2≥lack)) (wts (opI es its));have h2:=(q5 (opI es its)).ln;have h3:(opI es its).length<=its.length:=jW _ _;omega
theorem Oh(p:Prt)(h:p.Ok es.length)(ho:fo U=aa p.obj)(ha:fa U=aa [.lst (es.map shD)]):
  bJ (a8 "In" "tips" zR fo fa) (bJ (a8 "Out" "tips" z8 fo fa) (bJ (a8 "Least" "tips" zW fo fa) (a8 "Most" "tips" z4 fo fa))) U=aa (.lst ((tps es p).map prD)):=by
 cases p with
 |inn t=>
  refine gB ((dU ho rfl ha).trans (cK (cW (xv (b8 (aN (aI rfl rfl (f9 h.1 h.2)) rfl (AE es t))) (λe=>?_) λe=>?_))))
  .show _=aa (D.lst ((if opn es t then [(t,ab)] else []).map prD));rw[if_pos e];rfl
  .show _=aa (D.lst ((if opn es t then [(t,ab)] else []).map prD));rw[if_neg (by rw[e];exact bd)]
   rfl
 |out t=>
  refine cM (cN ho (by decide)) (gB ((dU ho rfl ha).trans (cK (cW (xv (b8 (aN (aI rfl rfl (f9 h.1 h.2)) rfl (AE es t))) (λe=>?_) λe=>?_)))))
  .show _=aa (D.lst ((if opn es t then [(t,ae)] else []).map prD));rw[if_pos e];rfl
  .show _=aa (D.lst ((if opn es t then [(t,ae)] else []).map prD));rw[if_neg (by rw[e];exact bd)]
   rfl
 |least k its=>
  have hl:=uV (es:=es) (its:=its) (k-bx (·==aa ab) es its);have h2:=h.2;refine cM (cN ho (by decide)) (cM (cN ho (by decide)) (gB ((dU ho rfl ha).trans ?_)));apply jJ;unfold uE;show wp _ [.im (Prt.obj (.least k its)),.im (.lst (es.map shD)),.no] _;apply aA;refine bX (d:=.int (k-bx (·==aa ab) es its)) (aN rfl (aR rfl (At h.1 h.2)) xy) ?_;refine g7 (d:=(tps es (.least k its)).map prD) ?_ (gb rfl);show _=aa (((hv es its _).map λt=>(t,ab)).map prD);rw[map_map]
  exact dO (hv es its (k-bx (·==aa ab) es its)) D.int _ (cL (aR rfl (Fa h.1 h.2 _)) rfl) (by omega) λt _=>di rfl rfl rfl
 |most k its=>
  have hl:=uV (es:=es) (its:=its) (bx (λe=>!(e==aa ae)) es its-k);have h2:=h.2;refine cM (cN ho (by decide)) (cM (cN ho (by decide)) (cM (cN ho (by decide)) ((dU ho rfl ha).trans ?_)));apply jJ;unfold uF;show wp _ [.im (Prt.obj (.most k its)),.im (.lst (es.map shD)),.no] _;apply aA;refine bX (d:=.int (bx (λe=>!(e==aa ae)) es its-k)) (aN (aR rfl (Au h.1 h.2)) rfl xy) ?_;refine g7 (d:=(tps es (.most k its)).map prD) ?_ (gb rfl);show _=aa (((hv es its _).map λt=>(t,ae)).map prD);rw[map_map];exact dO (hv es its (bx (λe=>!(e==aa ae)) es its-k)) D.int _ (cL (aR rfl (Fa h.1 h.2 _)) rfl) (by omega) λt _=>di rfl rfl rfl
noncomputable def neg(z:Int×Bool):Int×Bool:=(z.1,!z.2)
noncomputable def pnx(es:List (Option Bool))(p:Prt):Option (List (Int×Bool))->List (Int×Bool)
 |none=>tps es p
 |some l=>l.filter λz=>decide (z∈tps es p)
noncomputable def pst(es:List (Option Bool))(acc:Option (List (Int×Bool)))(p:Prt):Option (List (Int×Bool)):=if p.sure es then acc else aa (pnx es p acc)
noncomputable def jO:Option (List (Int×Bool))->D
 |none=>.non
 |some l=>.lst (l.map prD)
theorem Fb(es:List (Option Bool)):∀G:List Prt,G.foldl (pst es) (aa [])=aa []
 | []=>rfl
 |p::G=>by
  have:pst es (aa []) p=aa []:=by unfold pst;split <;> rfl
  rw[eX,this];exact Fb es G
theorem Oi(h:p.Ok es.length):(tps es p).length<=100000:=by
 cases p with
 |inn t=>
  show(if opn es t then [(t,ab)] else []).length<=100000;split
  .exact(by decide:1<=100000)
  .exact da _
 |out t=>
  show(if opn es t then [(t,ae)] else []).length<=100000;split
  .exact(by decide:1<=100000)
  .exact da _
 |least k its=>unfold tps;rw[aH];exact cZ (uV _) h.2
 |most k its=>unfold tps;rw[aH];exact cZ (uV _) h.2
theorem Oj(x:Int×Bool)(l:List (Int×Bool)):ij (prD x) (.lst (l.map prD))=aa (.bl (decide (x∈l))):=by
 have e:∀l:List (Int×Bool),fN (prD x) (l.map prD)=aa (decide (x∈l)):=by
  intro l
  induction l with
  |nil=>rfl
  |cons z l ih=>
   show((deq 19 (prD z) (prD x)).bind λb=>(fN (prD x) (l.map prD)).map λr=>b || r)=_;rw[show deq 19 (prD z) (prD x)=aa (z.1==x.1 && (z.2==x.2 && ab))from rfl,ih];show aa _=_
   congr 1
   obtain⟨a,b⟩:=z;obtain⟨c,d⟩:=x;apply jo.mpr;simp only[jp,cg,beq_iff_eq,decide_eq_true_eq,aW,Prod.mk.injEq,and_true];exact⟨λq=>q.imp (λ⟨u,v⟩=>⟨u.symm,v.symm⟩) id,λq=>q.imp (λ⟨u,v⟩=>⟨u.symm,v.symm⟩) id⟩
 show((fN (prD x) (l.map prD)).map D.bl)=_;rw[e];rfl
noncomputable def AG:Option (List (Int×Bool))->LD ⊕ D
 |none=>.inr .non
 |some l=>.inl (l.map prD)
noncomputable def prs(G:List Prt)(es:List (Option Bool)):Option (List (Int×Bool)):=(G.foldl (pst es) ac).map λl=>l.map neg
def kRN(x:LD ⊕ D):Fl->Prop
 |.rtO ds=>x=.inl ds
 |.rt d=>d.scalar=ab/\x=.inr d
 | _=>False
theorem Ol{x:LD ⊕ D}(h:wp F (eS N ds) (kRN x)):tY N F ds=aa x:=by
 obtain⟨r,e,q⟩:=h;show(F (eS N ds)).bind Ec=aa x;rw[e,aC]
 cases r with
 |rtO us=>rw[show x=.inl us from q];rfl
 |rt d=>
  obtain⟨q1,q2⟩:=q;rw[q2]
  exact if_pos q1
 | _=>exact q.elim
theorem Om(G:List Prt)(hG:∀p∈G,p.Ok es.length):z9 [.lst (G.map Prt.obj),.lst (es.map shD)]=aa (AG (prs G es)):=by
 apply Ol;unfold uG;generalize hGd:D.lst (G.map Prt.obj)=Gd;show wp _ [.im Gd,.im (.lst (es.map shD)),.no,.no,.no] _;apply aA;refine bX (d:=jO ac) rfl ?_;show wp _ [.im Gd,.im (.lst (es.map shD)),.im (jO ac),.no,.no] _;apply aA;refine dW G Prt.obj (λpre U=>∃a3 a4,U=[.im Gd,.im (.lst (es.map shD)),.im (jO (pre.foldl (pst es) ac)),a3,a4]/\∀l,pre.foldl (pst es) ac=aa l->l.length<=100000) (by subst hGd;rfl) ⟨_,_,rfl,λl e=>by cases e⟩ ?_ ?_
 .rintro pre p post U he ⟨a3,a4,rfl,hl⟩;have hp:p.Ok es.length:=hG p (by rw[he];simp);have htl:=Oi hp;have hfull:G.foldl (pst es) ac=post.foldl (pst es) (pst es (pre.foldl (pst es) ac) p):=by rw[he,fE,eX]
  rw[fE,eX,foldl_nil];generalize pre.foldl (pst es) ac=acc at hl hfull;refine⟨_,rfl,?_⟩;show wp _ [.im Gd,.im (.lst (es.map shD)),.im (jO acc),.im p.obj,a4] _;refine bw (b:=!p.sure es) (kj (fu (NL p hp rfl rfl) rfl)) (λe=>?_) λe=>cp ?_
  .rw[Bool.not_eq_true']at e;have ep:pst es acc p=aa (pnx es p acc):=by unfold pst;rw[if_neg (by rw[e];exact bd)]
   apply aA;refine bX (d:=.lst ((tps es p).map prD)) (Oh p hp rfl rfl) ?_;show wp _ [.im Gd,.im (.lst (es.map shD)),.im (jO acc),.im p.obj,.im (.lst ((tps es p).map prD))] _;apply aA
   have hs:(vIf (mB (m2 dIs (af 2) kN)) (af 4) (aE (aU 1 [4] (aP (af 2)) (az 0) (mB (m2 ij (af 0) (af 1))) (af 0)))) [.im Gd,.im (.lst (es.map shD)),.im (jO acc),.im p.obj,.im (.lst ((tps es p).map prD))]=aa (jO (pst es acc p))/\∀l,pst es acc p=aa l->l.length<=100000:=by
    rw[ep]
    cases acc with
    |none=>exact⟨rfl,λl e=>by cases e;exact htl⟩
    |some l0=>
     have h0:=hl l0 rfl;refine⟨xv (b:=ae) rfl (λe=>by cases e) λ_=>bC (g6 l0 prD (λz=>decide (z∈tps es p)) prD rfl (by omega) λz _=>fw rfl (b8 (aN rfl rfl (Oj z _))) λ_=>rfl),λl e=>?_⟩;cases e;exact cZ (jW _ _) h0
   refine bX hs.1 ?_;obtain⟨l1,el1⟩:∃l1,pst es acc p=aa l1:=⟨_,ep⟩;have hl1:=hs.2;rw[el1]at hfull hl1 ⊢;show wp _ [.im Gd,.im (.lst (es.map shD)),.im (.lst (l1.map prD)),.im p.obj,.im (.lst ((tps es p).map prD))] _
   cases l1 with
   |nil=>
    refine bw (b:=ab) rfl (λ_=>?_) λe=>by cases e
    refine g7 (d:=[]) rfl (show AG (prs G es)=.inl []from ?_);unfold prs;rw[hfull,Fb]
    rfl
   |cons z l1=>
    refine bw (b:=ae) rfl (λe=>by cases e) λ_=>cp ?_;exact⟨_,_,rfl,hl1⟩
  .rw[Bool.not_eq_false']at e;have ep:pst es acc p=acc:=by unfold pst;rw[if_pos e]
   rw[ep];exact⟨_,_,rfl,hl⟩
 .rintro U ⟨a3,a4,rfl,hl⟩;unfold prs;generalize G.foldl (pst es) ac=acc at hl;apply aA
  cases acc with
  |none=>
   refine bw (b:=ab) rfl (λ_=>?_) λe=>by cases e
   exact il rfl ⟨rfl,rfl⟩
  |some l=>
   have h0:=hl l rfl;refine bw (b:=ae) rfl (λe=>by cases e) λ_=>cp ?_;refine g7 (d:=(l.map neg).map prD) ?_ rfl;rw[map_map];exact dO l prD _ rfl (by omega) λz _=>di rfl rfl rfl
theorem q9(h:opn es t=ab):es.getD t.toNat ac=ac:=by simpa[opn]using h
theorem Fc(h:opn es t=ab):wt (opI es its) t=wt its t:=by
 unfold wt opI;rw[filter_filter]
 congr 2
 refine filter_congr λz _=>?_
 by_cases e:z.1=t
 .rw[e,h];simp
 .simp[e]
theorem uW{lack:Int}:t∈hv es its lack↔opn es t=ab/\t∈its.map (·.1)/\wt its t≥lack:=by
 have ok:=q5 (opI es its);unfold hv;constructor
 .intro h;obtain⟨z,hz,rfl⟩:=bj.mp h;obtain⟨h1,h2⟩:=eA.mp hz;have h2:=of_decide_eq_true h2;obtain⟨y,hy,ey⟩:=bj.mp ((ok.ks z.1).mp (bj.mpr ⟨z,h1,rfl⟩));obtain⟨y1,y2⟩:=eA.mp hy;rw[ey]at y2;refine⟨y2,bj.mpr ⟨y,y1,ey⟩,?_⟩;rw[<- Fc y2,<- ok.vs z h1];exact h2
 .rintro⟨h1,h2,h3⟩;obtain⟨y,hy,ey⟩:=bj.mp h2;obtain⟨z,hz,ez⟩:=bj.mp ((ok.ks t).mpr (bj.mpr ⟨y,eA.mpr ⟨hy,by rw[ey];exact h1⟩,ey⟩));refine bj.mpr ⟨z,eA.mpr ⟨hz,decide_eq_true ?_⟩,ez⟩;rw[ok.vs z hz,ez,Fc h1];exact h3
theorem Fd(es:List (Option Bool))(its:List (Int×Int))(lack:Int):(hv es its lack).Nodup:=by
 unfold hv;exact vd ((pc (p:=λz:Int×Int=>decide (z.2≥lack))).map (·.1)) (q5 (opI es its)).nd
theorem AH(z:Int×Int)(its:List (Int×Int))(t:Int):wt (z::its) t=(if z.1=t then z.2 else 0)+wt its t:=by
 unfold wt
 by_cases e:z.1=t
 .rw[if_pos e,jU (by simp[e]),bn,sum_cons]
 .rw[if_neg e,lL (by simp[e])];omega
theorem uX(q:Option Bool->Bool)(es:List (Option Bool))(z:Int×Int)(its:List (Int×Int)):bx q es (z::its)=(if q (es.getD z.1.toNat ac) then z.2 else 0)+bx q es its:=by
 unfold bx
 by_cases e:q (es.getD z.1.toNat ac)=ab
 .rw[if_pos e,jU (p:=λz:Int×Int=>q (es.getD z.1.toNat ac)) e,bn,sum_cons]
 .rw[if_neg e,lL (p:=λz:Int×Int=>q (es.getD z.1.toNat ac)) e];omega
theorem Fe(h:InN n its)(t:Int):0<=wt its t:=by
 induction its with
 |nil=>exact Int.le_refl _
 |cons z its ih=>
  have h1:=h z aO;have h2:=ih λy hy=>h y (bv _ hy);rw[AH]
  split <;> omega
theorem ly{j:Int}{b:Bool}(t0:0<=t)(t1:t<(es.length:Int))(j0:0<=j):(put es t.toNat b).getD j.toNat ac=if j=t then aa b else es.getD j.toNat ac:=by
 by_cases e:j=t
 .rw[if_pos e,e];exact ER es b (by omega)
 .rw[if_neg e];exact uR es b (by omega)
theorem AI(h:InN es.length its)(t0:0<=t)(t1:t<(es.length:Int))(ho:opn es t=ab)(b:Bool):bx (·==aa ab) (put es t.toNat b) its=bx (·==aa ab) es its+if b then wt its t else 0:=by
 induction its with
 |nil=>cases b <;> rfl
 |cons z its ih=>
  have hz:=h z aO;have ih:=ih λy hy=>h y (bv _ hy);rw[uX,uX,AH,ih,ly t0 t1 hz.1]
  by_cases e:z.1=t
  .rw[if_pos e,if_pos e,e,q9 ho]
   cases b with
   |true=>
    show z.2+(bx _ es its+wt its t)=0+bx _ es its+(z.2+wt its t)
    omega
   |false=>
    show 0+(bx _ es its+0)=0+bx _ es its+0;omega
  .rw[if_neg e,if_neg e]
   split <;> split <;> omega
theorem AJ(h:InN es.length its)(t0:0<=t)(t1:t<(es.length:Int))(ho:opn es t=ab)(b:Bool):bx (λe=>!(e==aa ae)) (put es t.toNat b) its=bx (λe=>!(e==aa ae)) es its-if b then 0 else wt its t:=by
 induction its with
 |nil=>cases b <;> rfl
 |cons z its ih=>
  have hz:=h z aO;have ih:=ih λy hy=>h y (bv _ hy);rw[uX,uX,AH,ih,ly t0 t1 hz.1]
  by_cases e:z.1=t
  .rw[if_pos e,if_pos e,e,q9 ho]
   cases b with
   |true=>
    show z.2+(bx _ es its-0)=z.2+bx _ es its-0
    omega
   |false=>
    show 0+(bx _ es its-wt its t)=z.2+bx _ es its-(z.2+wt its t);omega
  .rw[if_neg e,if_neg e]
   split <;> split <;> omega
theorem AK(hp:p.Ok es.length)(hu:p.sure es=ae)(t:Int)(b:Bool):(t,b)∈tps es p↔(0<=t/\t<(es.length:Int))/\opn es t=ab/\p.sure (put es t.toNat b)=ab:=by
 cases p with
 |inn t0=>
  obtain⟨a0,a1⟩:=(hp:0<=t0/\t0<(es.length:Int));show(t,b)∈(if opn es t0 then [(t0,ab)] else [])↔_
  have es':0<=t->t<(es.length:Int)->(Prt.sure (put es t.toNat b) (.inn t0)=ab↔(if t0=t then aa b else es.getD t0.toNat ac)=aa ab):=λx y=>by
   rw[<- ly x y a0];exact beq_iff_eq
  have hu:¬es.getD t0.toNat ac=aa ab:=λq=>by
   have:(es.getD t0.toNat ac==aa ab)=ae:=hu;rw[q]at this;exact absurd this (by decide)
  constructor
  .intro h;split at h
   .rename_i ho;have:(t,b)=(t0,ab):=by simpa using h
    cases this;exact⟨⟨a0,a1⟩,ho,(es' a0 a1).mpr (if_pos rfl)⟩
   .cases h
  .rintro⟨⟨x,y⟩,ho,hs⟩;have hs:=(es' x y).mp hs
   by_cases e:t0=t
   .rw[if_pos e]at hs;cases hs;rw[e,if_pos ho];exact aO
   .rw[if_neg e]at hs
    exact absurd hs hu
 |out t0=>
  obtain⟨a0,a1⟩:=(hp:0<=t0/\t0<(es.length:Int));show(t,b)∈(if opn es t0 then [(t0,ae)] else [])↔_
  have es':0<=t->t<(es.length:Int)->(Prt.sure (put es t.toNat b) (.out t0)=ab↔(if t0=t then aa b else es.getD t0.toNat ac)=aa ae):=λx y=>by
   rw[<- ly x y a0];exact beq_iff_eq
  have hu:¬es.getD t0.toNat ac=aa ae:=λq=>by
   have:(es.getD t0.toNat ac==aa ae)=ae:=hu;rw[q]at this;exact absurd this (by decide)
  constructor
  .intro h;split at h
   .rename_i ho;have:(t,b)=(t0,ae):=by simpa using h
    cases this;exact⟨⟨a0,a1⟩,ho,(es' a0 a1).mpr (if_pos rfl)⟩
   .cases h
  .rintro⟨⟨x,y⟩,ho,hs⟩;have hs:=(es' x y).mp hs
   by_cases e:t0=t
   .rw[if_pos e]at hs;cases hs;rw[e,if_pos ho];exact aO
   .rw[if_neg e]at hs
    exact absurd hs hu
 |least k its=>
  have hi:InN es.length its:=hp.1;have hu:¬k<=bx (·==aa ab) es its:=of_decide_eq_false hu;show(t,b)∈(hv es its (k-bx (·==aa ab) es its)).map (λt=>(t,ab))↔(_/\_/\decide (k<=bx (·==aa ab) (put es t.toNat b) its)=ab);rw[decide_eq_true_iff];constructor
  .intro h;obtain⟨u,hm,e⟩:=bj.mp h;cases e;obtain⟨ho,hn,hw⟩:=uW.mp hm;obtain⟨z,hz,ez⟩:=bj.mp hn;have hr:=hi z hz;rw[ez]at hr;refine⟨⟨hr.1,hr.2.1⟩,ho,?_⟩;rw[AI hi hr.1 hr.2.1 ho,if_pos rfl];omega
  .rintro⟨⟨x,y⟩,ho,hs⟩;rw[AI hi x y ho]at hs
   cases b with
   |false=>rw[if_neg (by decide)]at hs;omega
   |true=>
    rw[if_pos rfl]at hs;refine bj.mpr ⟨t,uW.mpr ⟨ho,?_,by omega⟩,rfl⟩
    by_cases q:t∈its.map (·.1)
    .exact q
    .rw[AF q]at hs
     omega
 |most k its=>
  have hi:InN es.length its:=hp.1;have hu:¬bx (λe=>!(e==aa ae)) es its<=k:=of_decide_eq_false hu;show(t,b)∈(hv es its (bx (λe=>!(e==aa ae)) es its-k)).map (λt=>(t,ae))↔(_/\_/\decide (bx (λe=>!(e==aa ae)) (put es t.toNat b) its<=k)=ab);rw[decide_eq_true_iff];constructor
  .intro h;obtain⟨u,hm,e⟩:=bj.mp h;cases e;obtain⟨ho,hn,hw⟩:=uW.mp hm;obtain⟨z,hz,ez⟩:=bj.mp hn;have hr:=hi z hz;rw[ez]at hr;refine⟨⟨hr.1,hr.2.1⟩,ho,?_⟩;rw[AJ hi hr.1 hr.2.1 ho,if_neg (by decide)];omega
  .rintro⟨⟨x,y⟩,ho,hs⟩;rw[AJ hi x y ho]at hs
   cases b with
   |true=>rw[if_pos rfl]at hs;omega
   |false=>
    rw[if_neg (by decide)]at hs;refine bj.mpr ⟨t,uW.mpr ⟨ho,?_,by omega⟩,rfl⟩
    by_cases q:t∈its.map (·.1)
    .exact q
    .rw[AF q]at hs;omega
theorem Ff(hp:p.Ok es.length)(t0:0<=t)(t1:t<(es.length:Int))(ho:opn es t=ab)(b:Bool)(h:p.sure es=ab):p.sure (put es t.toNat b)=ab:=by
 have og:=q9 ho
 cases p with
 |inn u=>
  have hu:es.getD u.toNat ac=aa ab:=beq_iff_eq.mp h;show((put es t.toNat b).getD u.toNat ac==aa ab)=ab;rw[ly t0 t1 hp.1,if_neg (λe=>by rw[e,og]at hu;cases hu),hu]
  rfl
 |out u=>
  have hu:es.getD u.toNat ac=aa ae:=beq_iff_eq.mp h;show((put es t.toNat b).getD u.toNat ac==aa ae)=ab;rw[ly t0 t1 hp.1,if_neg (λe=>by rw[e,og]at hu;cases hu),hu]
  rfl
 |least k its=>
  have h:k<=bx (·==aa ab) es its:=of_decide_eq_true h;show decide (k<=bx (·==aa ab) (put es t.toNat b) its)=ab;have:=Fe hp.1 t;rw[decide_eq_true_iff,AI hp.1 t0 t1 ho]
  split <;> omega
 |most k its=>
  have h:bx (λe=>!(e==aa ae)) es its<=k:=of_decide_eq_true h;show decide (bx (λe=>!(e==aa ae)) (put es t.toNat b) its<=k)=ab;have:=Fe hp.1 t;rw[decide_eq_true_iff,AJ hp.1 t0 t1 ho]
  split <;> omega
theorem On(es:List (Option Bool))(p:Prt):((tps es p).map (·.1)).Nodup:=by
 have one:∀(q:Bool) (z:Int×Bool),((if q then [z] else []).map (·.1)).Nodup:=λq z=>by
  cases q
  .exact fR
  .exact cY.mpr ⟨λh=>(cE h).elim,fR⟩
 cases p with
 |inn t=>exact one _ _
 |out t=>exact one _ _
 |least k its=>
  show(((hv es its _).map λt=>(t,ab)).map (·.1)).Nodup;rw[map_map]
  exact(map_id (hv es its _)).symm▸Fd es its _
 |most k its=>
  show(((hv es its _).map λt=>(t,ae)).map (·.1)).Nodup;rw[map_map];exact(map_id (hv es its _)).symm▸Fd es its _
def AL(es:List (Option Bool))(G:List Prt):Option (List (Int×Bool))->Prop
 |none=>∀p∈G,p.sure es=ab
 |some l=>(∃p∈G,p.sure es=ae)/\(∀z,z∈l↔∀p∈G,p.sure es=ae->z∈tps es p)/\(l.map (·.1)).Nodup
theorem Fg(es:List (Option Bool))(G:List Prt):AL es G (G.foldl (pst es) ac):=by
 have go:∀(post pre:List Prt) (acc:Option (List (Int×Bool))),AL es pre acc->AL es (pre++post) (post.foldl (pst es) acc):=by
  intro post
  induction post with
  |nil=>intro pre acc h;rw[cr];exact h
  |cons p post ih=>
   intro pre acc h;have:=ih (pre++[p]) (pst es acc p) ?_
   .rw[fQ]at this;exact this
   unfold pst
   cases hs:p.sure es with
   |true=>
    rw[if_pos rfl];have hm:∀q,q∈pre++[p]->q∈pre\/q=p:=λq hq=>(ci.mp hq).imp id λe=>by simpa using e
    cases acc with
    |none=>exact λq hq=>(hm q hq).elim (h q) λe=>e▸hs
    |some l=>
     obtain⟨⟨q,hq,hqs⟩,h2,h3⟩:=h;refine⟨⟨q,gh _ hq,hqs⟩,λz=>?_,h3⟩;rw[h2 z]
     exact⟨λa q hq e=>(hm q hq).elim (λw=>a q w e) λw=>(by rw[w,hs]at e;cases e),λa q hq=>a q (gh _ hq)⟩
   |false=>
    rw[if_neg bd];have hp:p∈pre++[p]:=by simp
    cases acc with
    |none=>
     refine⟨⟨p,hp,hs⟩,λz=>?_,On es p⟩;refine⟨λa q hq e=>?_,λa=>a p hp hs⟩
     rcases ci.mp hq with w |w
     .rw[h q w]at e;cases e
     .have:q=p:=by simpa using w
      rw[this];exact a
    |some l=>
     obtain⟨_,h2,h3⟩:=h;refine⟨⟨p,hp,hs⟩,λz=>?_,vd ((pc (p:=λz=>decide (z∈tps es p))).map (·.1)) h3⟩;show z∈l.filter _↔_;rw[eA,h2 z,decide_eq_true_iff];refine⟨λ⟨a,b⟩ q hq e=>?_,λa=>⟨λq hq=>a q (gh _ hq),a p hp hs⟩⟩
     rcases ci.mp hq with w |w
     .exact a q w e
     .have:q=p:=by simpa using w
      rw[this];exact b
 exact go G [] ac λp hp=>(cE hp).elim
noncomputable abbrev Pr:=Int×Bool
noncomputable abbrev Wy:=Bool×Nat
noncomputable abbrev Wt:=List (Pr×List Wy)
noncomputable def wyS(b:Bool):Str:=cond b "bar" "rule"
noncomputable def wyD(y:Wy):D:=.tup [.str (wyS y.1),.int y.2]
noncomputable def wyK(y:Wy):List Key:=[.inr (wyS y.1),.inl y.2]
noncomputable def bp(b:List Pr):D:=.lst (b.map prD)
noncomputable def brP(z:Pr):Prt:=if z.2 then .inn z.1 else .out z.1
noncomputable def brg(b:List Pr):List Prt:=b.map brP
variable{y:Wy}
theorem Fh{x:Wy}(h:wyK x=wyK y):x=y:=by
 obtain⟨a,i⟩:=x;obtain⟨b,j⟩:=y;unfold wyK at h;obtain⟨h1,h2⟩:=nt h;have h3:=mh (nt h2).1;have h4:i=j:=by omega
 subst h4;have h5:wyS a=wyS b:=jw.inj h1
 cases a <;> cases b <;> first |rfl |exact absurd h5 (by decide)
variable{p q:Pr}
theorem Fi(h:fA p.1 p.2=fA q.1 q.2):p=q:=by
 obtain⟨a,i⟩:=p;obtain⟨b,j⟩:=q;unfold fA at h;obtain⟨h1,h2⟩:=nt h;have h3:a=b:=mh h1;have h4:(cond i 1 0:Int)=cond j 1 0:=mh (nt h2).1;subst h3
 cases i <;> cases j <;> first |rfl |exact absurd h4 (by decide)
noncomputable def iE(p:Pr)(y:Wy):Wt->Wt
 | []=>[(p,[y])]
 |q::tw=>if q.1=p then (q.1,q.2++[y])::tw else q::iE p y tw
noncomputable def gf(p:Pr)(y:Wy):Wt->Wt
 | []=>[]
 |q::tw=>if q.1=p then (q.1,q.2.erase y)::tw else q::gf p y tw
noncomputable def look(tw:Wt)(p:Pr):List Wy:=match tw with
 | []=>[]
 |q::tw=>if q.1=p then q.2 else look tw p
noncomputable def wtW(tw:Wt):Wss:=tw.map λq=>(fA q.1.1 q.1.2,q.2.map wyD)
theorem Fj(p:Pr)(y:Wy):∀tw:Wt,gF (fA p.1 p.2) (wyD y) (wtW tw)=wtW (iE p y tw)
 | []=>rfl
 |q::tw=>by
  show gF _ _ ((fA q.1.1 q.1.2,q.2.map wyD)::wtW tw)=_;unfold gF iE
  by_cases e:q.1=p
  .rw[if_pos (by rw[e]),if_pos e];show _=(_,(q.2++[y]).map wyD)::wtW tw;rw[bN];rfl
  .rw[if_neg (λz=>e (Fi z)),if_neg e,Fj p y tw];rfl
theorem ixW(p:Pr):∀tw:Wt,(aT (fA p.1 p.2) ((wtW tw).map (·.1))=ac/\look tw p=[])\/∃j q,aT (fA p.1 p.2) ((wtW tw).map (·.1))=aa j/\tw[j]?=aa q/\q.1=p/\look tw p=q.2/\∀y,gf p y tw=tw.set j (q.1,q.2.erase y)
 | []=>.inl ⟨rfl,rfl⟩
 |q::tw=>by
  show(aT _ (fA q.1.1 q.1.2::(wtW tw).map (·.1))=ac/\_)\/∃j q',aT _ (fA q.1.1 q.1.2::(wtW tw).map (·.1))=aa j/\_;unfold aT look
  by_cases e:q.1=p
  .refine .inr ⟨0,q,if_pos (by rw[e]),rfl,e,if_pos e,λy=>?_⟩;unfold gf;rw[if_pos e];rfl
  .rw[if_neg (λz=>e (Fi z)),if_neg e]
   rcases ixW p tw with⟨h1,h2⟩ |⟨j,q',h1,h2,h3,h4,h5⟩
   .exact .inl ⟨by rw[h1];rfl,h2⟩
   .refine .inr ⟨j+1,q',by rw[h1];rfl,by rw[eW];exact h2,h3,h4,λy=>?_⟩;unfold gf;rw[if_neg e,h5 y];rfl
theorem rb(ds:LD):(lsO ds).items=aa ds:=xO ds
theorem Oo(tw:Wt)(p:Pr):(wsO (wtW tw)).got (fA p.1 p.2)=aa ((look tw p).map wyD):=by
 unfold wsO O.got;dsimp only
 rcases ixW p tw with⟨h1,h2⟩ |⟨j,q,h1,h2,h3,h4,h5⟩
 .rw[h1,h2];rfl
 .rw[h1,h4];dsimp only;rw[cD,wtW,cD,h2];exact rb _
variable{tw:Wt}{pp:Xp}
theorem AM(h:pp U=aa (wsO (wtW tw),R))(hg:g U=aa (prD p)):iQ pp g U=aa ((look tw p).map wyD):=by
 unfold iQ;rw[h,aC,hg,aC];exact Oo tw p
theorem Op(h:pp U=aa (wsO (wtW tw),R))(hg:g U=aa (prD p))(hl:look tw p≠[]):∃R',mW pp g U=aa (lsO ((look tw p).map wyD),R')/\∀y,R' (lsO (((look tw p).erase y).map wyD))=R (wsO (wtW (gf p y tw))):=by
 rcases ixW p tw with⟨h1,h2⟩ |⟨j,q,h1,h2,h3,h4,h5⟩
 .exact absurd h2 hl
 .refine⟨λx=>R (.dT ((wtW tw).map (·.1)) (((wtW tw).map λp=>lsO p.2).set j x)),?_,λy=>?_⟩
  .unfold mW;rw[h,aC,hg,aC];show((wsO (wtW tw)).key (fA p.1 p.2)).map _=_;unfold wsO O.key;dsimp only;rw[h1,aC,cD,wtW,cD,h2,h4];rfl
  .rw[h5 y,h4];unfold wsO wtW;rw[jX,jX,jX];dsimp only;rw[qt (l:=(tw.map λq=>(fA q.1.1 q.1.2,q.2.map wyD)).map (·.1)) (k:=j) (x:=fA q.1.1 q.1.2) (by rw[cD,cD,h2];rfl)]
theorem Fk(z y:Wy):deq 19 (wyD z) (wyD y)=aa (z==y):=by
 rw[show deq 19 (wyD z) (wyD y)=aa ((wyS z.1==wyS y.1) && (((z.2:Int)==(y.2:Int)) && ab))from rfl]
 congr 1
 obtain⟨a,i⟩:=z;obtain⟨b,j⟩:=y;apply jo.mpr;simp only[cg,beq_iff_eq,Prod.mk.injEq,and_true];constructor
 .rintro⟨u,v⟩;refine⟨?_,by omega⟩
  cases a <;> cases b <;> first |rfl |exact absurd u (by decide)
 .rintro⟨rfl,rfl⟩;exact⟨rfl,rfl⟩
theorem AN(y:Wy):∀L:List Wy,fN (wyD y) (L.map wyD)=aa (decide (y∈L))
 | []=>rfl
 |z::L=>by
  show((deq 19 (wyD z) (wyD y)).bind λb=>(fN (wyD y) (L.map wyD)).map λr=>b || r)=_;rw[Fk,AN y L];show aa _=_
  congr 1
  apply jo.mpr;simp only[jp,beq_iff_eq,decide_eq_true_eq,aW];exact⟨λq=>q.imp Eq.symm id,λq=>q.imp Eq.symm id⟩
theorem Fm(y:Wy):∀L:List Wy,y∈L->(L.map wyD).eraseIdx ((L.map wyD).findIdx (isE (wyD y)))=(L.erase y).map wyD
 | [],h=>nomatch h
 |z::L,h=>by
  have ez:isE (wyD y) (wyD z)=(z==y):=by
   unfold isE;rw[Fk]
   cases z==y <;> rfl
  rw[bn,findIdx_cons,ez,erase_cons]
  cases e:z==y with
  |true=>rfl
  |false=>
   have:y∈L:=by
    rcases aW.mp h with q |q
    .rw[q,beq_self_eq_true]at e;cases e
    .exact q
   show wyD z::(L.map wyD).eraseIdx _=_;rw[Fm y L this];rfl
theorem Oq{L:List Wy}(h:y∈L):(lsO (L.map wyD)).remd (wyD y)=aa (lsO ((L.erase y).map wyD)):=by
 unfold O.remd;rw[rb,aC,AN,decide_eq_true h,if_pos rfl,Fm y L h];rfl
theorem Os(y:Wy)(L:List Wy):ij (wyD y) (.lst (L.map wyD))=aa (.bl (decide (y∈L))):=by
 show((fN (wyD y) (L.map wyD)).map D.bl)=_;rw[AN];rfl
noncomputable def gys(r b:Nat):List Wy:=(bF r).map (λi=>(ae,i))++(bF b).map λi=>(ab,i)
noncomputable def d6(rs:List Rul)(bs:List (List Pr))(y:Wy):List Prt:=cond y.1 (brg (bs.getD y.2 [])) (((rs[y.2]?).map grd).getD [])
noncomputable def gdD(rs:List Rul)(bs:List (List Pr))(y:Wy):D:=.lst ((d6 rs bs y).map Prt.obj)
theorem Ot(r b:Nat):(gys r b).Nodup:=by
 unfold gys;refine gL.mpr ⟨?_,?_,?_⟩
 .exact ve _ (λa b h e=>h (rG e).2) nodup_range
 .exact ve _ (λa b h e=>h (rG e).2) nodup_range
 .rintro x hx y hy rfl;obtain⟨i,_,rfl⟩:=bj.mp hx;obtain⟨j,_,e⟩:=bj.mp hy;cases e
variable{r:Nat}
theorem m8{b:Nat}:y∈gys r b↔y.2<cond y.1 b r:=by
 unfold gys;obtain⟨a,i⟩:=y
 cases a <;> simp
theorem Ou(r b:Nat):(gys r b).length=r+b:=by unfold gys;simp
theorem uY(r b:Nat):gys r (b+1)=gys r b++[(ab,b)]:=by unfold gys;rw[range_succ];simp
theorem Fo{α β:Type}[DecidableEq β]{f:α->β}(hf:∀x y,f x=f y->x=y):∀{l:List α} {j:Nat} {a:α},l.Nodup->l[j]?=aa a->aT (f a) (l.map f)=aa j
 | [],_,_,_,h=>by cases h
 |x::l,0,a,_,h=>by
  cases h
  exact if_pos rfl
 |x::l,j+1,a,nd,h=>by
  rw[eW]at h;obtain⟨n1,n2⟩:=cY.mp nd;rw[bn];unfold aT;rw[if_neg (λe=>n1 (by rw[hf _ _ e];exact dJ h)),Fo hf n2 h];rfl
structure Spt where
 es:List (Option Bool)
 st:LD
 bs:List (List Pr)
 tw:Wt
 wt:List Wy
 ms:List Rul
noncomputable def Spt.S(rs:List Rul)(s:Spt):Spr:=⟨s.es,s.st,s.bs.map bp,(gys rs.length s.bs.length).map wyK,(gys rs.length s.bs.length).map (gdD rs s.bs),wtW s.tw,s.wt.map wyD,.lst (s.ms.map mkD)⟩
theorem Ov{s:Spt}(hy:y∈gys rs.length s.bs.length)(hg:g (.deep (.at l (s.S rs).o)::U)=aa (wyD y)):pB (mW (bu "Spreading" "guards" (aZ 0)) g) (.deep (.at l (s.S rs).o)::U)=aa (gdD rs s.bs y):=by
 obtain⟨j,hj⟩:=rn hy;have e:=Fo (f:=wyK) (λ_ _=>Fh) (Ot _ _) hj;unfold pB mW;rw[EN,aC,hg,aC];show(((O.dT ((gys rs.length s.bs.length).map wyK) (((gys rs.length s.bs.length).map (gdD rs s.bs)).map .fz)).key (wyK y)).map _).bind _=_;unfold O.key;dsimp only;rw[e,aC,cD,cD,hj];rfl
noncomputable def m9(y:Wy)(tw:Wt)(p:Prt):Wt:=(nmL p).foldl (λtw t=>iE (t,qV p) y tw) tw
noncomputable def iT(y:Wy)(ps:List Prt)(tw:Wt):Wt:=ps.foldl (m9 y) tw
theorem Ow(y:Wy)(p:Prt)(tw:Wt):uS (wyD y) (wtW tw) p=wtW (m9 y tw p):=by
 unfold uS m9;generalize nmL p=ts
 induction ts generalizing tw with
 |nil=>rfl
 |cons t ts ih=>rw[eX,eX,Fj (t,qV p),ih]
theorem uZ(y:Wy)(ps:List Prt)(tw:Wt):lH (wyD y) ps (wtW tw)=wtW (iT y ps tw):=by
 unfold lH iT
 induction ps generalizing tw with
 |nil=>rfl
 |cons p ps ih=>rw[eX,eX,Ow,ih]
noncomputable def oV:Nat->List Rul->Wt->Wt
 | _,[],tw=>tw
 |i,r::rs,tw=>oV (i+1) rs (iT (ae,i) (grd r) tw)
theorem Fp:∀(rs:List Rul) (i:Nat) (s:Spr) (tw:Wt),s.ws=wtW tw->(fB i rs).foldl lI s=⟨s.es,s.st,s.bs,s.gk++(fB i rs).map (λp=>jN p.1),s.gd++(fB i rs).map (λp=>.lst ((grd p.2).map Prt.obj)),wtW (oV i rs tw),s.wt++(fB i rs).map (λp=>m6 p.1),s.mks⟩
 | [],i,s,tw,h=>by
  obtain⟨a,b,c,d,e,f,g,m⟩:=s;cases h;simp[fB,oV]
  rfl
 |r::rs,i,s,tw,h=>by
  rw[fB,eX,Fp rs (i+1) _ (iT (ae,i) (grd r) tw) (by rw[<- uZ,<- h];rfl)];simp[lI,uT,oV]
theorem Fq{α:Type}(f:Nat->α)(rs:List Rul):(fB 0 rs).map (λp=>f p.1)=(bF rs.length).map f:=by
 apply nr;intro j;rw[cD,qX,cD]
 by_cases h:j<rs.length
 .rw[dk h,rp h];simp
 .rw[d8 (by omega),d8 (by rw[cX];omega)];rfl
noncomputable def spT(es:List (Option Bool))(rs:List Rul):Spt:=⟨es,[],[],oV 0 rs [],(bF rs.length).map λi=>(ae,i),kE rs⟩
theorem Ox(es:List (Option Bool))(rs:List Rul):spI es rs=(spT es rs).S rs:=by
 unfold spI;rw[Fp rs 0 _ [] rfl,Fq jN,Fq m6];unfold Spt.S spT sp0 gys;simp only[nil_append,map_nil,length_nil,range_zero,cr,map_map]
 congr 1
 apply nr;intro j;rw[cD,qX,cD]
 by_cases h:j<rs.length
 .rw[rp h];simp[gdD,d6,dk h]
 .rw[d8 (by omega),d8 (by rw[cX];omega)];rfl
theorem AO(p q:Pr)(y:Wy):∀tw:Wt,look (iE p y tw) q=if q=p then look tw q++[y] else look tw q
 | []=>by
  show(if p=q then [y] else [])=if q=p then []++[y] else []
  by_cases e:q=p
  .rw[if_pos e,if_pos e.symm];rfl
  .rw[if_neg e,if_neg (λz=>e z.symm)]
 |r::tw=>by
  have ih:=AO p q y tw
  by_cases e:r.1=p
  .rw[iE,if_pos e];show(if r.1=q then r.2++[y] else look tw q)=if q=p then (if r.1=q then r.2 else look tw q)++[y] else (if r.1=q then r.2 else look tw q)
   by_cases f:q=p
   .rw[if_pos f,if_pos (e.trans f.symm),if_pos (e.trans f.symm)]
   .rw[if_neg f,if_neg (λz=>f (z.symm.trans e)),if_neg (λz=>f (z.symm.trans e))]
  .rw[iE,if_neg e];show(if r.1=q then r.2 else look (iE p y tw) q)=if q=p then (if r.1=q then r.2 else look tw q)++[y] else (if r.1=q then r.2 else look tw q);rw[ih]
   by_cases f:q=p
   .rw[if_pos f,if_pos f,if_neg (by rw[f];exact e),if_neg (by rw[f];exact e)]
   .rw[if_neg f,if_neg f]
theorem Fs(p q:Pr)(y:Wy):∀tw:Wt,look (gf p y tw) q=if q=p then (look tw q).erase y else look tw q
 | []=>by
  show([]:List Wy)=if q=p then ([]:List Wy).erase y else []
  split <;> rfl
 |r::tw=>by
  have ih:=Fs p q y tw
  by_cases e:r.1=p
  .rw[gf,if_pos e];show(if r.1=q then r.2.erase y else look tw q)=if q=p then (if r.1=q then r.2 else look tw q).erase y else (if r.1=q then r.2 else look tw q)
   by_cases f:q=p
   .rw[if_pos f,if_pos (e.trans f.symm),if_pos (e.trans f.symm)]
   .rw[if_neg f,if_neg (λz=>f (z.symm.trans e)),if_neg (λz=>f (z.symm.trans e))]
  .rw[gf,if_neg e];show(if r.1=q then r.2 else look (gf p y tw) q)=if q=p then (if r.1=q then r.2 else look tw q).erase y else (if r.1=q then r.2 else look tw q);rw[ih]
   by_cases f:q=p
   .rw[if_pos f,if_pos f,if_neg (by rw[f];exact e),if_neg (by rw[f];exact e)]
   .rw[if_neg f,if_neg f]
noncomputable abbrev cn(tw:Wt)(p:Pr)(y:Wy):Nat:=(look tw p).count y
theorem jP:y∈look tw p↔0<cn tw p y:=count_pos_iff.symm
theorem Oy{z:Wy}(h:z≠y):cn (iE p y tw) q z=cn tw q z:=by
 unfold cn;rw[AO];split
 .rw[count_append,count_singleton,if_neg (by rw[beq_iff_eq];exact λe=>h e.symm)];rfl
 .rfl
theorem oW{y z:Wy}(h:z≠y)(q:Pr):∀(ps:List Prt) (tw:Wt),cn (iT y ps tw) q z=cn tw q z
 | [],_=>rfl
 |p::ps,tw=>by
  show cn (iT y ps (m9 y tw p)) q z=_;rw[oW h q ps];unfold m9;generalize nmL p=ts
  induction ts generalizing tw with
  |nil=>rfl
  |cons t ts ih=>rw[eX,ih,Oy h]
theorem Oz(y:Wy)(tw:Wt)(z:Pr):m9 y tw (brP z)=iE z y tw:=by
 obtain⟨t,b⟩:=z
 cases b <;> rfl
theorem Ft(y:Wy)(q:Pr):∀(b:List Pr) (tw:Wt),cn (iT y (brg b) tw) q y=cn tw q y+b.count q
 | [],_=>rfl
 |z::b,tw=>by
  show cn (iT y (brg b) (m9 y tw (brP z))) q y=_;rw[Ft y q b,Oz,count_cons]
  have:cn (iE z y tw) q y=cn tw q y+if z==q then 1 else 0:=by
   unfold cn;rw[AO]
   by_cases e:q=z
   .rw[if_pos e,count_append,if_pos (by rw[e];exact beq_self_eq_true z),count_singleton,if_pos (beq_self_eq_true y)]
   .rw[if_neg e,if_neg (by rw[beq_iff_eq];exact λx=>e x.symm)];rfl
  omega
noncomputable def jQ(y:Wy)(ps:List Pr)(tw:Wt):Wt:=ps.foldl (λtw p=>gf p y tw) tw
theorem OA(p q:Pr)(y z:Wy)(tw:Wt):cn (gf p y tw) q z=if q=p/\z=y then cn tw q z-1 else cn tw q z:=by
 unfold cn;rw[Fs]
 by_cases e:q=p
 .rw[if_pos e]
  by_cases f:z=y
  .rw[if_pos ⟨e,f⟩,f,count_erase_self]
  .rw[if_neg (λx=>f x.2),count_erase_of_ne f]
 .rw[if_neg e,if_neg (λx=>e x.1)]
theorem AQ(q:Pr)(y z:Wy):∀(ps:List Pr) (tw:Wt),ps.Nodup->cn (jQ y ps tw) q z=if q∈ps/\z=y then cn tw q z-1 else cn tw q z
 | [],tw,_=>by rw[if_neg (λx=>nomatch x.1)];rfl
 |p::ps,tw,nd=>by
  obtain⟨n1,n2⟩:=cY.mp nd;show cn (jQ y ps (gf p y tw)) q z=_;rw[AQ q y z ps _ n2,OA]
  by_cases f:z=y
  .by_cases e:q=p
   .rw[if_neg (λx=>n1 (by rw[<- e];exact x.1)),if_pos ⟨e,f⟩,if_pos ⟨by rw[e];exact aO,f⟩]
   .rw[if_neg (λx:q=p/\z=y=>e x.1)]
    by_cases g:q∈ps
    .rw[if_pos ⟨g,f⟩,if_pos ⟨bv _ g,f⟩]
    .rw[if_neg (λx=>g x.1),if_neg (λx=>by rcases aW.mp x.1 with u |u;exact e u;exact g u)]
  .rw[if_neg (λx=>f x.2),if_neg (λx=>f x.2),if_neg (λx=>f x.2)]
theorem OB(h:bY c (wtW tw)):bY c (wtW (gf p y tw)):=by
 have gen:∀tw:Wt,(gf p y tw).length=tw.length/\∀q∈gf p y tw,∃q'∈tw,q.2.length<=q'.2.length:=by
  intro tw
  induction tw with
  |nil=>exact⟨rfl,λq h=>nomatch h⟩
  |cons r tw ih=>
   unfold gf;split
   .refine⟨rfl,λq hq=>?_⟩
    rcases aW.mp hq with e |e
    .rw[e];exact⟨r,aO,(erase_sublist).length_le⟩
    .exact⟨q,bv _ e,aL _⟩
   .refine⟨by rw[b9,ih.1];rfl,λq hq=>?_⟩
    rcases aW.mp hq with e |e
    .rw[e];exact⟨r,aO,aL _⟩
    .obtain⟨q',h1,h2⟩:=ih.2 q e;exact⟨q',bv _ h1,h2⟩
 obtain⟨g1,g2⟩:=gen tw;refine⟨by unfold wtW;rw[aH,g1];have:=h.ln;unfold wtW at this;rwa [aH]at this,λq hq=>?_⟩;unfold wtW at hq;obtain⟨x,hx,rfl⟩:=bj.mp hq;obtain⟨x',h1,h2⟩:=g2 x hx;have:=h.al _ (bj.mpr ⟨x',h1,rfl⟩);dsimp only at this ⊢;rw[aH]at this ⊢;omega
theorem Fu{c:Nat}{y:Wy}:∀{ps:List Pr} {tw:Wt},bY c (wtW tw)->bY c (wtW (jQ y ps tw))
 | [],_,h=>h
 | _::ps,_,h=>Fu (ps:=ps) (OB h)
theorem AR(h:bY c (wtW tw))(p:Pr):(look tw p).length<=c:=by
 rcases ixW p tw with⟨_,h2⟩ |⟨j,q,h1,h2,h3,h4,h5⟩
 .rw[h2];exact da _
 .rw[h4];have:=h.al _ (bj.mpr ⟨q,dJ h2,rfl⟩);dsimp only at this
  rwa [aH]at this
theorem Fv(nd:ns.Nodup)(h:∀x∈ns,0<=x/\x<(n:Int)):ns.length<=n:=by
 by_cases hl:ns.length<=n
 .exact hl
 .have hs:∀x∈ns,x∈(bF n).map λ(i:Nat)=>(i:Int):=λx hx=>by
   obtain⟨a,b⟩:=h x hx;exact bj.mpr ⟨x.toNat,eY.mpr (by omega),by omega⟩
  have p:=oy ns _ nd hs (by rw[aH,cX];omega);have:=p.length_eq;rw[aH,cX]at this;omega
structure cO(n:Nat)(b:List Pr):Prop where
 nn:∀z∈b,0<=z.1/\z.1<(n:Int)
 nd:(b.map (·.1)).Nodup
variable{b:List Pr}
theorem cO.pd(h:cO n b):b.Nodup:=List.Pairwise.of_map _ (λ_ _ z e=>z (by rw[e])) h.nd
theorem cO.len(h:cO n b):b.length<=n:=by
 have:(b.map (·.1)).length<=n:=Fv h.nd λx hx=>by
  obtain⟨z,hz,rfl⟩:=bj.mp hx;exact h.nn z hz
 rwa [aH]at this
theorem cO.nil(n:Nat):cO n []:=⟨(λ_ h=>nomatch h),fR⟩
structure gG(c r:Nat)(bs:List (List Pr))(tw:Wt):Prop where
 wk:bY c (wtW tw)
 vl:∀p,∀y∈look tw p,y∈gys r bs.length
 br:∀j,(∀p,cn tw p (ab,j)=0)\/(∀p,cn tw p (ab,j)=if p∈bs.getD j [] then 1 else 0)
noncomputable def wider(tw:Wt):List Pr->List Wy
 | []=>[]
 |p::b=>(p::b).foldl (λL q=>L.filter λy=>decide (y∈look tw q)) (look tw p)
theorem Fw(tw:Wt):∀(b:List Pr) (L:List Wy),(b.foldl (λL q=>L.filter λy=>decide (y∈look tw q)) L).Sublist L/\∀y∈b.foldl (λL q=>L.filter λy=>decide (y∈look tw q)) L,∀p∈b,y∈look tw p
 | [],L=>⟨List.Sublist.refl _,λ_ _ _ h=>nomatch h⟩
 |q::b,L=>by
  obtain⟨h1,h2⟩:=Fw tw b (L.filter λy=>decide (y∈look tw q));refine⟨h1.trans pc,λy hy p hp=>?_⟩
  rcases aW.mp hp with e |e
  .rw[e];exact of_decide_eq_true (eA.mp (h1.subset hy)).2
  .exact h2 y hy p e
noncomputable def gH(bs:List (List Pr))(tw:Wt)(y:Wy):Wt:=cond y.1 (jQ y (bs.getD y.2 []) tw) tw
noncomputable def oX(bs:List (List Pr))(tw:Wt)(b:List Pr):Wt:=(wider tw b).foldl (gH bs) tw
theorem rf{bs:List (List Pr)}(hb:∀b∈bs,b.Nodup)(p:Pr)(z:Wy):cn (gH bs tw y) p z=if y.1=ab/\p∈bs.getD y.2 []/\z=y then cn tw p z-1 else cn tw p z:=by
 unfold gH;obtain⟨a,j⟩:=y
 cases a with
 |false=>rw[if_neg (λx=>by cases x.1)];rfl
 |true=>
  have nd:(bs.getD j []).Nodup:=by
   rw[bD]
   cases e:bs[j]? with
   |none=>exact fR
   |some b=>exact hb b (dJ e)
  show cn (jQ (ab,j) (bs.getD j []) tw) p z=_;rw[AQ p (ab,j) z _ _ nd]
  by_cases h:p∈bs.getD j []/\z=(ab,j)
  .rw[if_pos h,if_pos ⟨rfl,h⟩]
  .rw[if_neg h,if_neg (λx=>h x.2)]
theorem AS{bs:List (List Pr)}(hb:∀b∈bs,b.Nodup)(p:Pr)(z:Wy):∀(L:List Wy) (tw:Wt),z∉L->cn (L.foldl (gH bs) tw) p z=cn tw p z
 | [],_,_=>rfl
 |y::L,tw,h=>by
  rw[eX,AS hb p z L _ (λq=>h (bv _ q)),rf hb,if_neg (λx=>h (by rw[x.2.2];exact aO))]
theorem AT{bs:List (List Pr)}(hb:∀b∈bs,b.Nodup)(p:Pr)(z:Wy):∀(L:List Wy) (tw:Wt),cn (L.foldl (gH bs) tw) p z<=cn tw p z
 | [],_=>aL _
 |y::L,tw=>by
  rw[eX];refine cZ (AT hb p z L _) ?_;rw[rf hb]
  split <;> omega
theorem Fx{c:Nat}{bs:List (List Pr)}:∀{L:List Wy} {tw:Wt},bY c (wtW tw)->bY c (wtW (L.foldl (gH bs) tw))
 | [],_,h=>h
 |y::L,tw,h=>by
  rw[eX];refine Fx (L:=L) ?_;unfold gH
  cases y.1 with
  |false=>exact h
  |true=>exact Fu h
theorem gG.wide{bs:List (List Pr)}(h:gG c r bs tw)(hj:(ab,j)∈wider tw b):(∀p,cn tw p (ab,j)=if p∈bs.getD j [] then 1 else 0)/\(wider tw b).count (ab,j)=1/\(∀p∈b,p∈bs.getD j [])/\j<bs.length:=by
 cases b with
 |nil=>cases hj
 |cons p0 b=>
  obtain⟨h1,h2⟩:=Fw tw (p0::b) (look tw p0)
  have ha:∀p,cn tw p (ab,j)=if p∈bs.getD j [] then 1 else 0:=by
   rcases h.br j with z |z
   .have:=jP.mp (h1.subset hj);rw[z p0]at this;omega
   .exact z
  refine⟨ha,?_,λp hp=>?_,m8.mp (h.vl p0 _ (h1.subset hj))⟩
  .have u1:0<(wider tw (p0::b)).count (ab,j):=count_pos_iff.mpr hj;have u2:(wider tw (p0::b)).count (ab,j)<=cn tw p0 (ab,j):=h1.count_le _;have u3:=ha p0
   split at u3 <;> omega
  .have:=jP.mp (h2 _ hj p hp);rw[ha p]at this
   by_cases e:p∈bs.getD j []
   .exact e
   .rw[if_neg e]at this;omega
theorem gG.dropped{bs:List (List Pr)}(h:gG c r bs tw)(hb:∀b∈bs,b.Nodup)(b:List Pr):gG c r bs (oX bs tw b):=by
 refine⟨Fx h.wk,λp y hy=>h.vl p y (jP.mpr (fF (jP.mp hy) (AT hb p y _ _))),λj=>?_⟩
 by_cases hj:(ab,j)∈wider tw b
 .refine .inl λp=>?_;obtain⟨ha,hc,_⟩:=h.wide hj
  have gen:∀(L:List Wy) (tw:Wt),(ab,j)∈L->(∀p,p∉bs.getD j []->cn tw p (ab,j)=0)->(∀p,cn tw p (ab,j)<=1)->cn (L.foldl (gH bs) tw) p (ab,j)=0:=by
   intro L
   induction L with
   |nil=>intro tw h;cases h
   |cons y L ih=>
    intro tw hm h1 h2;rw[eX]
    by_cases e:(ab,j)=y
    .have:cn (gH bs tw y) p (ab,j)=0:=by
      rw[rf hb]
      by_cases g:p∈bs.getD j []
      .rw[if_pos ⟨by rw[<- e],by rw[<- e];exact g,e⟩];have:=h2 p;omega
      .rw[h1 p g]
       split <;> rfl
     have:=AT hb p (ab,j) L (gH bs tw y);omega
    .refine ih _ (by rcases aW.mp hm with z |z;exact absurd z e;exact z) (λp g=>?_) λp=>?_
     .rw[rf hb,if_neg (λx=>e x.2.2)];exact h1 p g
     .rw[rf hb,if_neg (λx=>e x.2.2)];exact h2 p
  exact gen _ _ hj (λp g=>by rw[ha p,if_neg g]) λp=>by rw[ha p];split <;> omega
 .have e:∀p,cn (oX bs tw b) p (ab,j)=cn tw p (ab,j):=λp=>AS hb p _ _ _ hj
  rcases h.br j with z |z
  .exact .inl λp=>by rw[e];exact z p
  .exact .inr λp=>by rw[e];exact z p
theorem OC(hl:n<U.length)(h:wp F U K):wp (λU=>if n<U.length then F U else ac) U K:=by
 obtain⟨o,e,k⟩:=h;exact⟨o,(if_pos hl).trans e,k⟩
variable{p:Xp}
theorem OE{q:O×(O->O)}(h:p U=aa q)(hf:f U=aa d)(hr:q.1.remd d=aa o2)(k:K (.nx (U.set i (.deep (q.2 o2))))):wp (tX i p f) U K:=⟨_,by
 unfold tX;rw[h,aC,hf,aC,hr];rfl,k⟩
theorem OF{a b:Sl}:bu "Spreading" "watches" (aZ 2) [a,b,.deep (.at l s.o)]=aa (wsO s.ws,λx=>.at l (.ins "Spreading" spN [lsO (s.es.map shD),lsO s.st,lsO s.bs,.dT s.gk (s.gd.map .fz),x,lsO s.wt,.fz s.mks])):=rfl
theorem Fy{l:Addr}{s:Spr}{tw:Wt}(hs:s.ws=wtW tw):∀(b:List Pr) (v1 v2 v3 v4:Sl) (L:List Wy),L.length<=16777216->∃v3',lD 2 3 1 [3,0] (az 0) (mB (m2 ij (af 0) (aE (iQ (bu "Spreading" "watches" (aZ 2)) (af 1))))) (af 0) (b.map prD) [.deep (.at l s.o),v1,v2,v3,v4] (L.map wyD)=aa ([.deep (.at l s.o),v1,v2,v3',v4],(b.foldl (λL q=>L.filter λy=>decide (y∈look tw q)) L).map wyD)
 | [],_,_,v3,_,_,_=>⟨v3,rfl⟩
 |p::b,v1,v2,v3,v4,L,hL=>by
  obtain⟨v3',ih⟩:=Fy hs b v1 v2 (.im (prD p)) v4 (L.filter λy=>decide (y∈look tw p)) (cZ (jW _ _) hL);refine⟨v3',?_⟩;rw[bn];unfold lD;rw[if_pos (by rw[aH];exact hL)]
  have e:fm (fJ (az 0) (mB (m2 ij (af 0) (aE (iQ (bu "Spreading" "watches" (aZ 2)) (af 1))))) (af 0) [.no,.im (prD p),.deep (.at l s.o)]) (L.map wyD)=aa ((L.filter λy=>decide (y∈look tw p)).map wyD):=
   sY wyD (λy=>decide (y∈look tw p)) wyD L λy _=>fw rfl (b8 (aN rfl (bC (AM (tw:=tw) (p:=p) (OF.trans (by rw[hs])) rfl)) (Os y _))) λ_=>rfl
  show(fm (fJ (az 0) (mB (m2 ij (af 0) (aE (iQ (bu "Spreading" "watches" (aZ 2)) (af 1))))) (af 0) [.no,.im (prD p),.deep (.at l s.o)]) (L.map wyD)).bind _=_;rw[e,aC];exact ih
theorem OG(hs:s.ws=wtW tw)(hw:bY c (wtW tw))(hc:c<=16777216)(k:∀v3,K (.nx [.deep (.at l s.o),.im (bp b),.own ((wider tw b).map wyD),v3,.no])):
  wp (oO 2 3 (b7 (af 1)) (iQ (bu "Spreading" "watches" (aZ 0)) (mIx (ao 1) (kI 0))) (aP (af 1)) 1 [3,0] (az 0) (mB (m2 ij (af 0) (aE (iQ (bu "Spreading" "watches" (aZ 2)) (af 1))))) (af 0)) [.deep (.at l s.o),.im (bp b),.no,.no,.no] K:=by
 cases b with
 |nil=>exact⟨_,rfl,k .no⟩
 |cons p b=>
  obtain⟨v3',e⟩:=Fy (l:=l) hs (p::b) (.im (bp (p::b))) .no .no .no (look tw p) (cZ (AR hw p) hc);refine⟨_,?_,k v3'⟩;unfold oO;rw[show b7 (af 1) [.deep (.at l s.o),.im (bp (p::b)),.no,.no,.no]=aa ab from rfl,aC,show aP (af 1) ([Sl.deep (.at l s.o),.im (bp (p::b)),.no,.no,.no].set 2 .no)=aa ((p::b).map prD)from rfl,aC,if_pos (show ab=!((p::b).map prD).isEmpty from rfl),AM (tw:=tw) (p:=p) (uP.trans (by rw[hs])) (aI (ds:=(p::b).map prD) rfl rfl (mP (0,ae) (by decide) (by rw[b9];omega))),if_pos rfl,aC,e];rfl
theorem Fz{bs:List (List Pr)}(hb:∀b∈bs,cO n b)(j:Nat):cO n (bs.getD j []):=by
 rw[bD]
 cases e:bs[j]? with
 |none=>exact cO.nil n
 |some b=>exact hb b (dJ e)
theorem OH(s:Spt)(b:List Pr)(ok:gG c rs.length s.bs s.tw)(hc:c<16777216)(hb:∀b∈s.bs,cO n b):zn l [bp b] (s.S rs).o=aa ((({s with tw:=oX s.bs s.tw b}:Spt).S rs).o,.non):=by
 apply kC;unfold uk;show wp _ [.deep (.at l (s.S rs).o),.im (bp b),.no,.no,.no] _;apply OC (show 2<5 by decide);apply aA;refine OG (s:=s.S rs) (tw:=s.tw) rfl ok.wk (gN hc) λv3=>?_;show wp _ _ _;refine iN rfl ?_
 refine dW (wider s.tw b) wyD (λpre U=>∃v3 v4,U=[.deep (.at l (({s with tw:=pre.foldl (gH s.bs) s.tw}:Spt).S rs).o),.im (bp b),.im (.lst ((wider s.tw b).map wyD)),v3,v4]) rfl ⟨_,_,rfl⟩ ?_ ?_
 .rintro pre ⟨a,j⟩ post U ex ⟨v3,v4,rfl⟩;refine⟨_,rfl,?_⟩;walk_at "nrm"
  cases a with
  |false=>
   refine bw (b:=ae) rfl (λz=>by cases z) (λ_=>cp ?_);refine⟨v3,.im (wyD (ae,j)),?_⟩;rw[fE]
   rfl
  |true=>
   obtain⟨ha,hcnt,_,hjl⟩:=ok.wide (b:=b) (j:=j) (by rw[ex];simp)
   have hnp:(ab,j)∉pre:=λq=>by
    rw[ex,count_append,count_cons_self]at hcnt;have:=count_pos_iff.mpr q;omega
   have hbk:=Fz hb j;have hnd:∀b∈s.bs,b.Nodup:=λb h=>(hb b h).pd;refine bw (b:=ab) rfl (λ_=>?_) (λz=>by cases z)
   refine dW (s.bs.getD j []) prD (λpr U=>∃v3,U=[.deep (.at l (({s with tw:=jQ (ab,j) pr (pre.foldl (gH s.bs) s.tw)}:Spt).S rs).o),.im (bp b),.im (.lst ((wider s.tw b).map wyD)),v3,.im (wyD (ab,j))]) (cL (aI (Aw Av) (aI rfl rfl rfl) (mP [] (by omega) (by show((j:Nat):Int)<((s.bs.length:Nat):Int);omega))) rfl) ⟨_,rfl⟩ ?_ ?_
   .rintro pr p po U ex2 ⟨v3,rfl⟩;have hpm:p∈s.bs.getD j []:=by rw[ex2];simp
    have hp2:p∉pr:=λq=>by
     have:=hbk.pd;rw[ex2]at this;exact(gL.mp this).2.2 p q p aO rfl
    have hpn:pr.Nodup:=by
     have:=hbk.pd;rw[ex2]at this;exact(gL.mp this).1
    have hin : (ab,j)∈look (jQ (ab,j) pr (pre.foldl (gH s.bs) s.tw)) p:=jP.mpr (by
     rw[AQ p _ _ pr _ hpn,if_neg (λx=>hp2 x.1),AS hnd p _ _ _ hnp,ha p,if_pos hpm];exact Nat.one_pos)
    refine⟨_,rfl,?_⟩;walk_at "nrm"
    obtain⟨R',e1,e2⟩:=Op (tw:=jQ (ab,j) pr (pre.foldl (gH s.bs) s.tw)) (p:=p) (g:=af 3) (U:=[.deep (.at l (({s with tw:=jQ (ab,j) pr (pre.foldl (gH s.bs) s.tw)}:Spt).S rs).o),.im (bp b),.im (.lst ((wider s.tw b).map wyD)),.im (prD p),.im (wyD (ab,j))]) uP rfl (ne_nil_of_mem hin)
    refine OE e1 (d:=wyD (ab,j)) rfl (Oq hin) ?_;dsimp only;rw[e2];refine⟨.im (prD p),?_⟩;unfold jQ;rw[fE];rfl
   .rintro U ⟨v3,rfl⟩;refine⟨v3,.im (wyD (ab,j)),?_⟩;rw[fE];rfl
 .rintro U ⟨v3,v4,rfl⟩;exact⟨_,rfl,rfl,rfl⟩
theorem OI(b:List Pr)(hz:b.length<=16777216):zH [bp b]=aa (.lst ((brg b).map Prt.obj)):=by
 rw[show(brg b).map Prt.obj=b.map λz=>(brP z).obj from map_map]
 exact ou (congrArg (j1 Fl.rtO) (dO b prD (λz=>(brP z).obj) rfl hz λz _=>di rfl rfl (by
  obtain⟨t,x⟩:=z
  cases x <;> rfl)))
theorem AU(h:cO n b):∀p∈brg b,PrK n p:=λp hp=>by
 obtain⟨z,hz,rfl⟩:=bj.mp hp;have:=h.nn z hz;obtain⟨t,x⟩:=z
 cases x <;> exact⟨this,(by decide:1<=1000)⟩
theorem AV{α:Type}(l:List α)(a d:α)(j:Nat):(l++[a]).getD j d=if j=l.length then a else l.getD j d:=by
 rw[bD,bD]
 by_cases h:j=l.length
 .rw[if_pos h,h,kL (aL _),Nat.sub_self];rfl
 .rw[if_neg h]
  by_cases g:j<l.length
  .rw[kM g]
  .rw[d8 (by rw[a9,fD];omega),d8 (by omega)]
theorem gG.bar{bs:List (List Pr)}(h:gG c r bs tw)(hb:cO n b)(hn:n<=60):gG (c+3840) r (bs++[b]) (iT (ab,bs.length) (brg b) tw):=by
 have h0:∀p,cn tw p (ab,bs.length)=0:=λp=>Nat.eq_zero_of_not_pos λq=>by
  have:bs.length<bs.length:=m8.mp (h.vl p _ (jP.mpr q));exact iu _ this
 have e1:∀p,cn (iT (ab,bs.length) (brg b) tw) p (ab,bs.length)=if p∈b then 1 else 0:=λp=>by
  rw[Ft,h0 p,nA,hb.pd.count]
 refine⟨?_,λp y hy=>?_,λj=>?_⟩
 .rw[<- uZ];refine(bY.reg hn (AU hb) h.wk).le ?_;unfold brg;rw[aH];have:=hb.len;omega
 .rw[a9,fD,uY]
  by_cases e:y=(ab,bs.length)
  .rw[e];simp
  .refine gh _ (h.vl p y (jP.mpr ?_));rw[<- oW e p (brg b)];exact jP.mp hy
 .rw[AV]
  by_cases e:j=bs.length
  .rw[if_pos e,e];exact .inr e1
  .have ne:((ab,j):Wy)≠(ab,bs.length):=λz=>e (rG z).2;rw[if_neg e]
   rcases h.br j with z |z
   .exact .inl λp=>by rw[oW ne];exact z p
   .exact .inr λp=>by rw[oW ne];exact z p
noncomputable def Spt.bar(s:Spt)(b:List Pr):Spt:={s with bs:=s.bs++[b],tw:=iT (ab,s.bs.length) (brg b) (oX s.bs s.tw b),wt:=s.wt++[(ab,s.bs.length)]}
theorem OJ{bs:List (List Pr)}:(gys rs.length (bs.length+1)).map (gdD rs (bs++[b]))=(gys rs.length bs.length).map (gdD rs bs)++[.lst ((brg b).map Prt.obj)]:=by
 rw[uY,bN]
 congr 1
 .refine rA λy hy=>?_;have:=m8.mp hy;obtain⟨a,j⟩:=y
  cases a with
  |false=>rfl
  |true=>
   have:j<bs.length:=this;unfold gdD d6;show D.lst ((brg ((bs++[b]).getD j [])).map Prt.obj)=D.lst ((brg (bs.getD j [])).map Prt.obj);rw[AV,if_neg (by omega)]
 .show[D.lst ((brg ((bs++[b]).getD bs.length [])).map Prt.obj)]=_;rw[AV,if_pos rfl]
theorem OK(s:Spt)(b:List Pr)(ok:gG c rs.length s.bs s.tw)(hc:c+3840<16777216)(hb:∀b∈s.bs,cO n b)(hbk:cO n b)(hn:n<=60)(hl:rs.length+s.bs.length<100000)(hw:s.wt.length<16777216):
  zJ l [bp b] (s.S rs).o=aa (((s.bar b).S rs).o,.non):=by
 have hlb:=hbk.len;have okd:=ok.dropped (λb h=>(hb b h).pd) b;have hgl:((gys rs.length s.bs.length).map wyK).length=rs.length+s.bs.length:=by rw[aH,Ou]
 apply kC;unfold uv;show wp _ [.deep (.at l (s.S rs).o),.im (bp b),.no] _;apply aA;refine oU (kB rfl rfl (iR rfl rfl) rfl (OH s b ok (by omega) hb)) ?_
 show wp _ [.deep (.at l (({s with tw:=oX s.bs s.tw b}:Spt).S rs).o),.im (bp b),.no] _
 apply aA;refine bX (d:=wyD (ab,s.bs.length)) (fL (ay rfl (ay (aR (ay (m5 Av) rfl) (iO s.bs bp)) rfl))) ?_;walk_at "nrm";apply aA;refine Ax Av rfl (by show(s.bs.map bp).length<_;rw[aH];omega) ?_;have eb:s.bs.map bp++[bp b]=(s.bs++[b]).map bp:=by rw[bN];rfl
 show wp _ [.deep (.at l (⟨s.es,s.st,s.bs.map bp++[bp b],(gys rs.length s.bs.length).map wyK,(gys rs.length s.bs.length).map (gdD rs s.bs),wtW (oX s.bs s.tw b),s.wt.map wyD,.lst (s.ms.map mkD)⟩:Spr).o),.im (bp b),.im (wyD (ab,s.bs.length))] _;rw[eb];refine oU (kB rfl rfl (iR rfl (iR (aR rfl (OI b (by omega))) rfl)) rfl (EU (k:=wyK (ab,s.bs.length)) _ (brg b) rfl (AC λq=>?_) ?_ (AU hbk) hn okd.wk ?_ ?_ ?_)) ?_
 .obtain⟨y,hy,e⟩:=bj.mp q;rw[Fh e]at hy;have:s.bs.length<s.bs.length:=m8.mp hy;exact iu _ this
 .show((gys rs.length s.bs.length).map wyK).length<_;omega
 .unfold brg;rw[aH];omega
 .show(s.wt.map wyD).length<_;rw[aH];exact hw
 .unfold brg;rw[aH];omega
 .refine⟨_,rfl,?_,rfl⟩
  congr 1
  unfold uT Spt.bar Spt.S;dsimp only;rw[uZ,a9,fD,OJ,uY,bN,bN,bN];rfl
theorem rg{f:Xe}(h:f U=aa (d,ρ1))(k:K (.nx (ρ1.set i (.im d)))):wp (kz i f) U K:=⟨_,by unfold kz;rw[h];rfl,k⟩
theorem OL{k:Int}(hv:fv U=aa d)(h:p U=aa (lsO ds,R))(hk:fk U=aa (.int k))(h0:0<=k)(h1:k<ds.length)(q:K (.nx (U.set i (.deep (R (lsO (ds.set k.toNat d))))))):wp (tU i p fk fv) U K:=⟨_,by
 unfold tU;rw[hv,aC,h,aC,hk,aC];show(((lsO ds).items.bind λds=>(ixN ds.length k).map λj=>O.lst ((ds.set j d).map .fz))).map _=_;rw[rb,aC,show ixN ds.length k=aa k.toNat by unfold ixN;rw[if_pos h0,if_pos h1]];rfl,q⟩
theorem OM{f:MF2}{es:LD}(h:p U=aa (lsO ds,R))(hf:f U=aa es)(hz:ds.length+es.length<=16777216)(q:K (.nx (U.set i (.deep (R (lsO (ds++es))))))):wp (tS i p f) U K:=⟨_,by
 unfold tS;rw[h,aC,hf,aC];show(if (ds.map O.fz).length+es.length<=16777216 then aa (O.lst (ds.map .fz++es.map .fz)) else ac).map _=_;rw[if_pos (by rw[aH];exact hz),<- bN];rfl,q⟩
noncomputable def gg(es:List (Option Bool)):Nat:=ct (es.map (·==ac))
variable{b:Bool}
theorem ON(t0:0<=t)(t1:t<(es.length:Int))(ho:opn es t=ab):gg (put es t.toNat b)+1=gg es:=by
 unfold gg put;rw[jX];refine E2 _ _ ?_;unfold opn at ho;rw[bD]at ho ⊢;rw[cD,dk (by omega)]at *;exact ho
theorem OO(es:List (Option Bool)):gg es<=es.length:=by
 have:=N6 (es.map (·==ac))
 rwa [aH]at this
noncomputable def Spt.pt(s:Spt)(t:Int)(b:Bool)(w:D):Spt:={s with es:=put s.es t.toNat b,st:=s.st++[.tup [prD (t,b),w]],wt:=s.wt++look s.tw (t,b)}
structure SpJ(n c B:Nat)(rs:List Rul)(s:Spt):Prop where
 es:s.es.length=n
 bk:∀b∈s.bs,cO n b
 tw:gG c rs.length s.bs s.tw
 wv:∀y∈s.wt,y∈gys rs.length s.bs.length
 ms:s.ms.Perm (kE rs)
 mB:gg s.es*(c+1)+s.wt.length<=B
 sB:s.st.length+gg s.es<=B
 sv:∀d∈s.st,∃(z:Pr) (w:D),d=.tup [prD z,w]/\(0<=z.1/\z.1<(n:Int))/\s.es.getD z.1.toNat ac=aa z.2
noncomputable abbrev Me(c:Nat)(s:Spt):Nat:=gg s.es*(c+1)+s.wt.length
variable{u:Int}
theorem FA(u0:0<=u)(t0:0<=t)(h:u≠t):opn (put es t.toNat b) u=opn es u:=by
 unfold opn;rw[uR es b (by omega)]
variable{B:Nat}{s:Spt}{w:D}
theorem SpJ.pt(h:SpJ n c B rs s)(t0:0<=t)(t1:t<(n:Int))(ho:opn s.es t=ab):SpJ n c B rs (s.pt t b w)/\Me c (s.pt t b w)<Me c s:=by
 have e1:=ON (b:=b) t0 (by rw[h.es];exact t1) ho;have hl:=AR h.tw.wk (t,b)
 have hm:Me c (s.pt t b w)<Me c s:=by
  show gg (put s.es t.toNat b)*(c+1)+(s.wt++look s.tw (t,b)).length<gg s.es*(c+1)+s.wt.length;rw[<- e1,a9,Nat.succ_mul];omega
 refine⟨⟨(lw _ _ _).trans h.es,h.bk,h.tw,λy hy=>?_,h.ms,cZ (gN hm) h.mB,?_,λd hd=>?_⟩,hm⟩
 .rcases ci.mp hy with q |q
  .exact h.wv y q
  .exact h.tw.vl _ y q
 .show(s.st++[_]).length+gg (put s.es t.toNat b)<=B;rw[a9,fD];have:=h.sB;omega
 .rcases ci.mp hd with q |q
  .obtain⟨z,w',e,zr,ez⟩:=h.sv d q;refine⟨z,w',e,zr,?_⟩;show(put s.es t.toNat b).getD z.1.toNat ac=_;rw[uR s.es b (λq=>by rw[q,q9 ho]at ez;cases ez)];exact ez
  .exact⟨(t,b),w,eM.mp q,⟨t0,t1⟩,ER s.es b (by rw[h.es];omega)⟩
theorem FB(h:SpJ n c B rs s)(hB:B+c<16777216)(t0:0<=t)(t1:t<(n:Int)):uA l [.int t,.bl b,w] (s.S rs).o=aa (((s.pt t b w).S rs).o,.non):=by
 have hl:=AR h.tw.wk (t,b);have h1:=h.mB;have h2:=h.sB;have h3:=h.es;apply kC;unfold uz;show wp _ [.deep (.at l (s.S rs).o),.im (.int t),.im (.bl b),.im w] _;apply aA;refine OL (d:=.bl b) rfl qT rfl t0 (by rw[aH];show t<(s.es.length:Int);omega) ?_;have e:(s.es.map shD).set t.toNat (.bl b)=(put s.es t.toNat b).map shD:=by unfold put;rw[jX];rfl
 show wp _ [.deep (.at l (.ins "Spreading" spN [lsO ((s.es.map shD).set t.toNat (.bl b)),lsO s.st,lsO (s.bs.map bp),.dT ((gys rs.length s.bs.length).map wyK) (((gys rs.length s.bs.length).map (gdD rs s.bs)).map .fz),wsO (wtW s.tw),lsO (s.wt.map wyD),.fz (.lst (s.ms.map mkD))])),.im (.int t),.im (.bl b),.im w] _;rw[e]
 show wp _ [.deep (.at l (({s with es:=put s.es t.toNat b}:Spt).S rs).o),.im (.int t),.im (.bl b),.im w] _
 apply aA;refine Ax (d:=.tup [prD (t,b),w]) NM (fL (ay (fL (ay rfl (ay rfl rfl))) (ay rfl rfl))) (by show s.st.length<_;omega) ?_
 show wp _ [.deep (.at l (({s with es:=put s.es t.toNat b,st:=s.st++[.tup [prD (t,b),w]]}:Spt).S rs).o),.im (.int t),.im (.bl b),.im w] _
 refine OM m4 (AM (tw:=s.tw) (p:=(t,b)) uP (fL (ay rfl (ay rfl rfl)))) (by show(s.wt.map wyD).length+((look s.tw (t,b)).map wyD).length<=_;rw[aH,aH];omega) ?_;refine⟨_,rfl,?_,rfl⟩;show _=((s.pt t b w).S rs).o;unfold Spt.pt Spt.S;dsimp only;rw[bN];rfl
noncomputable def iU(s:Spt)(w:D)(ps:List Pr):Spt:=ps.foldl (λs p=>s.pt p.1 p.2 w) s
structure io(es:List (Option Bool))(ps:List Pr):Prop where
 nd:(ps.map (·.1)).Nodup
 op:∀z∈ps,(0<=z.1/\z.1<(es.length:Int))/\opn es z.1=ab
variable{ps:List Pr}
theorem io.tail{z:Pr}(h:io es (z::ps)):io (put es z.1.toNat z.2) ps:=by
 obtain⟨n1,n2⟩:=cY.mp h.nd;refine⟨n2,λy hy=>?_⟩;obtain⟨⟨a,b⟩,c⟩:=h.op y (bv _ hy);have z0:=(h.op z aO).1.1;refine⟨⟨a,by rw[lw];exact b⟩,?_⟩;rw[FA a z0 (λe=>n1 (bj.mpr ⟨y,hy,e⟩))];exact c
theorem io.pre{pre post:List Pr}(h:io es (pre++post)):io es pre:=⟨by have:=h.nd;rw[bN]at this;exact(gL.mp this).1,λz hz=>h.op z (gh _ hz)⟩
theorem u4{n c B:Nat}{rs:List Rul}{w:D}:∀{ps:List Pr} {s:Spt},SpJ n c B rs s->io s.es ps->SpJ n c B rs (iU s w ps)/\Me c (iU s w ps)<=Me c s
 | [],_,h,_=>⟨h,aL _⟩
 |z::ps,s,h,k=>by
  obtain⟨⟨a,b⟩,e⟩:=k.op z aO;obtain⟨h1,h2⟩:=h.pt (w:=w) (b:=z.2) a (by rw[<- h.es];exact b) e;obtain⟨h3,h4⟩:=u4 (w:=w) (ps:=ps) h1 k.tail;exact⟨h3,cZ h4 (gN h2)⟩
variable{G:List Prt}
theorem OP(h:prs G es=ac):∀p∈G,p.sure es=ab:=by
 have:=Fg es G;unfold prs at h
 cases e:G.foldl (pst es) ac with
 |none=>rw[e]at this;exact this
 |some l=>rw[e]at h;cases h
theorem FC{l:List Pr}(hG:∀p∈G,p.Ok es.length)(h:prs G es=aa l):io es l/\(∀z:Pr,z∈l↔(0<=z.1/\z.1<(es.length:Int))/\opn es z.1=ab/\∀p∈G,p.sure (put es z.1.toNat (!z.2))=ab)/\∃p∈G,p.sure es=ae:=by
 have:=Fg es G;unfold prs at h
 cases e:G.foldl (pst es) ac with
 |none=>rw[e]at h;cases h
 |some l0=>
  rw[e]at h this;cases h;obtain⟨⟨q,hq,hqs⟩,h2,h3⟩:=this
  have hm:∀z:Pr,z∈l0.map neg↔(z.1,!z.2)∈l0:=λz=>by
   constructor
   .intro hz;obtain⟨y,hy,rfl⟩:=bj.mp hz;unfold neg;dsimp only;rw[Bool.not_not];exact hy
   .intro hz;refine bj.mpr ⟨_,hz,?_⟩;unfold neg;dsimp only;rw[Bool.not_not]
  have key:∀z:Pr,z∈l0.map neg↔(0<=z.1/\z.1<(es.length:Int))/\opn es z.1=ab/\∀p∈G,p.sure (put es z.1.toNat (!z.2))=ab:=λz=>by
   rw[hm,h2];constructor
   .intro a;obtain⟨b1,b2,_⟩:=(AK (hG q hq) hqs _ _).mp (a q hq hqs);refine⟨b1,b2,λp hp=>?_⟩
    cases hs:p.sure es with
    |true=>exact Ff (hG p hp) b1.1 b1.2 b2 _ hs
    |false=>exact((AK (hG p hp) hs _ _).mp (a p hp hs)).2.2
   .rintro⟨a,b,c⟩ p hp hs;exact(AK (hG p hp) hs _ _).mpr ⟨a,b,c p hp⟩
  refine⟨⟨?_,λz hz=>?_⟩,key,q,hq,hqs⟩
  .rw[map_map];exact h3
  .obtain⟨a,b,_⟩:=(key z).mp hz;exact⟨a,b⟩
structure Grp(rs:List Rul)(es:List (Option Bool))(wo:List Bool):Prop where
 len:wo.length=es.length
 no:∀i,wo.getD i ae=ab->es.getD i ac≠aa ae
 up:∀r∈kE rs,wo.getD r.hd.toNat ae=ab->r.bodyLost es wo=ab
noncomputable def OQ(es:List (Option Bool))(wo:List Bool):List (Option Bool):=(mZ wo).foldl (λes t=>put es t.toNat ae) es
inductive Mvs(rs:List Rul)(bs:List (List Pr))(e0:List (Option Bool)):List (Option Bool)->Prop
 |refl:Mvs rs bs e0 e0
 |press {es:List (Option Bool)} {t:Int} {b:Bool} {y:Wy}:Mvs rs bs e0 es->y∈gys rs.length bs.length->0<=t->t<(es.length:Int)->opn es t=ab->(∀p∈d6 rs bs y,p.sure (put es t.toNat (!b))=ab)->Mvs rs bs e0 (put es t.toNat b)
 |out {es:List (Option Bool)} {wo:List Bool}:Mvs rs bs e0 es->Grp rs es wo->(∀i,wo.getD i ae=ab->es.getD i ac=ac)->Mvs rs bs e0 (OQ es wo)
theorem Mvs.trans{bs:List (List Pr)}{e0 e1 e2:List (Option Bool)}(h:Mvs rs bs e0 e1)(h':Mvs rs bs e1 e2):Mvs rs bs e0 e2:=by
 induction h' with
 |refl=>exact h
 |press _ a b c d e ih=>exact .press ih a b c d e
 |out _ a b ih=>exact .out ih a b
theorem OR{a:Bool}(h:i≠j):put (put es i a) j b=put (put es j b) i a:=by
 unfold put;exact set_comm _ _ h
theorem OS(u0:0<=u)(t0:0<=t)(h:u≠t)(ho:opn es u=ab):opn (put es t.toNat b) u=ab:=by rw[FA u0 t0 h];exact ho
theorem FD{rs:List Rul}{bs:List (List Pr)}{y:Wy}{w:D}(hy:y∈gys rs.length bs.length):∀{ps:List Pr} {s:Spt},(∀p∈d6 rs bs y,p.Ok s.es.length)->io s.es ps->(∀z∈ps,∀p∈d6 rs bs y,p.sure (put s.es z.1.toNat (!z.2))=ab)->Mvs rs bs s.es (iU s w ps).es
 | [],_,_,_,_=>.refl
 |z::ps,s,hG,k,hp=>by
  obtain⟨⟨a,b⟩,e⟩:=k.op z aO;obtain⟨n1,n2⟩:=cY.mp k.nd;have h1:Mvs rs bs s.es (s.pt z.1 z.2 w).es:=.press .refl hy a b e (hp z aO);refine h1.trans (FD hy (ps:=ps) (s:=s.pt z.1 z.2 w) (λp q=>by show p.Ok (put s.es z.1.toNat z.2).length;rw[lw];exact hG p q) k.tail λx hx p q=>?_);obtain⟨⟨x0,x1⟩,xo⟩:=k.op x (bv _ hx);have ne:z.1≠x.1:=λe=>n1 (bj.mpr ⟨x,hx,e.symm⟩);show p.sure (put (put s.es z.1.toNat z.2) x.1.toNat (!x.2))=ab;rw[OR (by omega)];exact Ff (by rw[lw];exact hG p q) a (by rw[lw];exact b) (OS a x0 ne e) _ (hp x (bv _ hx) p q)
noncomputable def FE:Option Wy->D
 |none=>.non
 |some y=>wyD y
noncomputable def lrF(rs:List Rul):Nat->Spt->Option Wy×Spt
 | 0,s=>(ac,s)
 |k+1,s=>match s.wt with
  | []=>(ac,s)
  |y::wt=>match prs (d6 rs s.bs y) s.es with
   |none=>(aa y,{s with wt:=wt})
   |some ps=>lrF rs k (iU {s with wt:=wt} (wyD y) ps)
variable{k:Nat}
theorem FF(h:s.wt=[]):lrF rs (k+1) s=(ac,s):=by
 unfold lrF;rw[h]
theorem FG{wt:List Wy}(h:s.wt=y::wt)(hp:prs (d6 rs s.bs y) s.es=ac):lrF rs (k+1) s=(aa y,{s with wt:=wt}):=by
 unfold lrF;rw[h];dsimp only;rw[hp]
theorem FH{wt:List Wy}(h:s.wt=y::wt)(hp:prs (d6 rs s.bs y) s.es=aa ps):lrF rs (k+1) s=lrF rs k (iU {s with wt:=wt} (wyD y) ps):=by
 rw[lrF];rw[h];dsimp only;rw[hp]
theorem FI{bs:List (List Pr)}(hr:∀r∈rs,RuK n r)(hb:∀b∈bs,cO n b):∀p∈d6 rs bs y,p.Ok n:=by
 obtain⟨a,j⟩:=y;intro p hp
 cases a with
 |true=>exact(AU (Fz hb j) p hp).1
 |false=>
  replace hp:p∈((rs[j]?).map grd).getD []:=hp
  cases e:rs[j]? with
  |none=>rw[e]at hp;cases hp
  |some r=>rw[e]at hp;exact(uU (hr r (dJ e)) p hp).1
theorem SpJ.pop{wt:List Wy}(h:SpJ n c B rs s)(e:s.wt=y::wt):SpJ n c B rs {s with wt:=wt}/\Me c {s with wt:=wt} < Me c s/\y∈gys rs.length s.bs.length:=by
 have hm:=h.mB;have h1:s.wt.length=wt.length+1:=by rw[e];rfl
 refine⟨⟨h.es,h.bk,h.tw,λz hz=>h.wv z (by rw[e];exact bv _ hz),h.ms,?_,h.sB,h.sv⟩,?_,h.wv y (by rw[e];exact aO)⟩
 .show gg s.es*(c+1)+wt.length<=B;omega
 .show gg s.es*(c+1)+wt.length<gg s.es*(c+1)+s.wt.length;omega
theorem FJ(w:D):∀(ps:List Pr) (s:Spt),(iU s w ps).bs=s.bs/\(iU s w ps).tw=s.tw/\(iU s w ps).ms=s.ms
 | [],_=>⟨rfl,rfl,rfl⟩
 |z::ps,s=>FJ w ps (s.pt z.1 z.2 w)
structure OU(n c B:Nat)(rs:List Rul)(s:Spt)(R:Option Wy×Spt):Prop where
 ok:SpJ n c B rs R.2
 bs:R.2.bs=s.bs
 mv:Mvs rs s.bs s.es R.2.es
 no:R.1=ac->R.2.wt=[]
 ye:∀y,R.1=aa y->y∈gys rs.length s.bs.length/\∀p∈d6 rs s.bs y,p.sure R.2.es=ab
 le:Me c R.2<=Me c s
theorem AW{n c B:Nat}{rs:List Rul}(hr:∀r∈rs,RuK n r):∀(k:Nat) (s:Spt),SpJ n c B rs s->Me c s<k->OU n c B rs s (lrF rs k s)
 | 0,_,_,h=>absurd h (lR _)
 |k+1,s,h,hk=>by
  cases hw:s.wt with
  |nil=>
   rw[FF hw]
   exact⟨h,rfl,.refl,(λ_=>hw),(λy e=>by cases e),aL _⟩
  |cons y wt=>
   obtain⟨h1,h2,hy⟩:=h.pop hw;have hG:∀p∈d6 rs s.bs y,p.Ok s.es.length:=by rw[h.es];exact FI hr h.bk
   cases hp:prs (d6 rs s.bs y) s.es with
   |none=>
    rw[FG hw hp]
    exact⟨h1,rfl,.refl,(λz=>by cases z),(λz e=>by cases e;exact⟨hy,OP hp⟩),gN h2⟩
   |some ps=>
    rw[FH hw hp];obtain⟨p1,p2,_⟩:=FC hG hp;obtain⟨q1,q2⟩:=u4 (w:=wyD y) h1 p1
    obtain⟨e1,_,_⟩:=FJ (wyD y) ps {s with wt:=wt}
    have ih:=AW hr k _ q1 (by omega)
    have m1:Mvs rs s.bs s.es (iU {s with wt:=wt} (wyD y) ps).es:=FD hy (s:={s with wt:=wt}) hG p1 λz hz=>((p2 z).mp hz).2.2
    replace e1:(iU {s with wt:=wt} (wyD y) ps).bs=s.bs:=e1
    refine⟨ih.ok,ih.bs.trans e1,m1.trans (by have:=ih.mv;rw[e1]at this;exact this),ih.no,λz e=>?_,by have:=ih.le;omega⟩;have:=ih.ye z e;rw[e1]at this;exact this
theorem OV{m:LD->Option (LD ⊕ D)}{f:MF2}{x:Option (List Pr)}(h:f U=aa ds)(h':m ds=aa (AG x)):qy m f U=aa (jO x):=by
 unfold qy;rw[h,aC,h',aC]
 cases x with
 |none=>rfl
 |some l=>
  show(if (l.map prD).all D.flat=ab then aa (D.lst (l.map prD)) else ac)=_;rw[if_pos (all_eq_true.mpr λd hd=>by obtain⟨z,_,rfl⟩:=bj.mp hd;rfl)];rfl
theorem OW{wt:List Wy}(h:s.wt=y::wt):tT 0 (bu "Spreading" "waiting" (aZ 0)) (.deep (.at l (s.S rs).o)::U)=aa (wyD y,.deep (.at l (({s with wt:=wt}:Spt).S rs).o)::U):=by
 unfold tT;rw[m4,aC];show((lsO (s.wt.map wyD)).pop0).map _=_;rw[h];rfl
theorem OX(hr:∀r∈rs,RuK n r)(hB:B+c<16777216)(h:SpJ n c B rs s)(hk:Me c s<k)(h9:k<1000000000):Aa l [] (s.S rs).o=aa (((lrF rs k s).2.S rs).o,FE (lrF rs k s).1):=by
 apply kC;unfold uH;show wp _ [.deep (.at l (s.S rs).o),.no,.no,.no,.no] _;apply aA;refine qh (λm U=>∃s' v1 v2 v3 v4,U=[.deep (.at l (Spt.S rs s').o),v1,v2,v3,v4]/\SpJ n c B rs s'/\Me c s'<m/\lrF rs m s'=lrF rs k s) ?_ _ k _ ⟨s,_,_,_,_,rfl,h,hk,rfl⟩ h9;rintro m U ⟨s',v1,v2,v3,v4,rfl,h',hm,eL⟩
 cases m with
 |zero=>exact absurd hm (lR _)
 |succ m=>
  cases hw:s'.wt with
  |nil=>
   refine⟨ae,fu (m5 m4) (by show pR (.lst (s'.wt.map wyD))=_;rw[hw];rfl),(λz=>by cases z),λ_=>?_⟩;rw[<- eL,FF hw]
   exact oT (d:=.non) rfl ⟨_,rfl,rfl,rfl⟩
  |cons y wt=>
   obtain⟨h1,h2,hy⟩:=h'.pop hw;have hG:∀p∈d6 rs s'.bs y,p.Ok s'.es.length:=by rw[h'.es];exact FI hr h'.bk
   refine⟨ab,fu (m5 m4) (by show pR (.lst (s'.wt.map wyD))=_;rw[hw];rfl),λ_=>?_,λz=>by cases z⟩;apply aA;refine rg (OW hw) ?_
   show wp _ [.deep (.at l (({s' with wt:=wt}:Spt).S rs).o),.im (wyD y),v2,v3,v4] _
   apply aA
   refine bX (d:=jO (prs (d6 rs s'.bs y) s'.es)) (OV (ay (Ov (s:={s' with wt:=wt}) hy rfl) (ay (m5 qT) rfl)) (Om _ hG)) ?_
   show wp _ [.deep (.at l (({s' with wt:=wt}:Spt).S rs).o),.im (wyD y),.im (jO (prs (d6 rs s'.bs y) s'.es)),v3,v4] _
   apply aA
   cases hp:prs (d6 rs s'.bs y) s'.es with
   |none=>
    refine bw (b:=ab) rfl (λ_=>?_) (λz=>by cases z);rw[<- eL,FG hw hp]
    exact oT (d:=wyD y) rfl ⟨_,rfl,rfl,rfl⟩
   |some ps=>
    obtain⟨p1,p2,_⟩:=FC hG hp;obtain⟨q1,q2⟩:=u4 (w:=wyD y) h1 p1;refine bw (b:=ae) rfl (λz=>by cases z) (λ_=>cp ?_)
    refine dW ps prD (λpre U=>∃v3 v4,U=[.deep (.at l ((iU {s' with wt:=wt} (wyD y) pre).S rs).o),.im (wyD y),.im (.lst (ps.map prD)),v3,v4]) rfl ⟨_,_,rfl⟩ ?_ ?_
    .rintro pre z post U ex ⟨v3,v4,rfl⟩;rw[ex]at p1;obtain⟨r1,_⟩:=u4 (w:=wyD y) h1 p1.pre;obtain⟨⟨z0,z1⟩,_⟩:=p1.op z (by simp);refine⟨_,rfl,?_⟩;walk_at "nrm";refine oU (kB rfl rfl (iR (d:=.int z.1) rfl (iR (d:=.bl z.2) rfl (iR (d:=wyD y) rfl rfl))) rfl (FB r1 hB z0 (by rw[<- h'.es];exact z1))) ?_;refine⟨.im (.int z.1),.im (.bl z.2),?_⟩;unfold iU;rw[fE];rfl
    .rintro U ⟨v3,v4,rfl⟩;refine⟨m,dY _,_,_,_,_,_,rfl,q1,by omega,?_⟩;rw[<- eL,FH hw hp]
noncomputable def slf(es:List (Option Bool))(a b c d e:D)(ms:List Rul):D:=.ins "Spreading" spN [.lst (es.map shD),a,b,c,d,e,.lst (ms.map mkD)]
noncomputable def fdL(r:Rul)(es:List (Option Bool))(wo:List Bool):D:=AD (r.ps.find? λp=>p.lost es wo)
variable{a b c e:D}
theorem OY(hok:∀r∈ms,r.Ok es.length)(hw:wo.length=es.length)(hz:ms.length<=1000):Aj [slf es a b c d e ms,.int t,.lst (wo.map D.bl)]=aa (.lst ((ms.filter λr=>r.hd==t).map λr=>fdL r es wo)):=
 ou (congrArg (j1 Fl.rtO) (g6 ms mkD (λr=>r.hd==t) (λr=>fdL r es wo) rfl (by omega) λr hr=>fw rfl (b8 (aN rfl rfl (by show dEq (.int r.hd) (.int t)=_;rfl))) λ_=>aR rfl (E3 r.ps (hok r hr).ps hw)))
noncomputable def kpL(p:Prt)(es:List (Option Bool))(wo:List Bool):List Int:=if p.lost es ((bF es.length).map (inS [])) then [] else (nmL p).filter λt=>wo.getD t.toNat ae
theorem OZ{p:Prt}(hp:p.Ok es.length)(hn:es.length<=60)(hm:(nmP p).length<=1000)(hw:wo.length=es.length):Ah [slf es a b c d e ms,p.obj,.lst (wo.map D.bl)]=aa (.lst ((kpL p es wo).map D.int)):=by
 have hmk:m_5 [.int es.length,.lst []]=aa (.lst (((bF es.length).map (inS [])).map D.bl)):=by
  have:=NH es.length [] (by omega) (by omega) (by decide);rw[fP]at this;exact this
 have hnl:=qW hp hn;apply jJ;unfold uI;show wp _ [.im (slf es a b c d e ms),.im p.obj,.im (.lst (wo.map D.bl))] _;apply aA;refine bw (fu (EL (ws:=(bF es.length).map (inS [])) p hp (by rw[aH,cX]) rfl (ay rfl (ay (aR (ay (aR rfl (iO es shD)) rfl) hmk) rfl))) rfl) (λz=>?_) (λz=>cp ?_)
 .refine g7 (d:=[]) rfl (gb ?_);unfold kpL;rw[if_pos z];rfl
 .refine g7 (d:=((nmL p).filter λt=>wo.getD t.toNat ae).map D.int) (g6 (nmL p) D.int (λt=>wo.getD t.toNat ae) D.int (cL (ET p hp hn hm rfl) rfl) (by omega) λt ht=>fw rfl (fu (aI rfl rfl (jE (qU hp t (AB.mp ht)).1 (by rw[hw];exact(qU hp t (AB.mp ht)).2))) rfl) λ_=>rfl) (gb ?_);unfold kpL;rw[if_neg (by rw[z];exact bd)]
theorem O0(p:Prt):(nmL p).Nodup:=by
 cases p with
 |inn t=>exact cY.mpr ⟨(λh=>nomatch h),fR⟩
 |out t=>exact cY.mpr ⟨(λh=>nomatch h),fR⟩
 |least k its=>exact(mV _).imp λh=>by omega
 |most k its=>exact(mV _).imp λh=>by omega
structure KOk(n:Nat)(wo:List Bool)(fd:List Int):Prop where
 nd:fd.Nodup
 el:∀x∈fd,(0<=x/\x<(n:Int))/\wo.getD x.toNat ae=ab
variable{fd:List Int}
theorem KOk.len(h:KOk n wo fd):fd.length<=n:=Fv h.nd λx hx=>(h.el x hx).1
theorem KOk.more{p:Prt}(h:KOk n wo fd)(hp:p.Ok n):KOk n wo (fd++(kpL p es wo).filter λt=>!(fd.any λx=>x==t)):=by
 have hk:(kpL p es wo).Sublist (nmL p):=by
  unfold kpL;split
  .exact nil_sublist _
  .exact pc
 refine⟨gL.mpr ⟨h.nd,(vd hk (O0 p)).sublist pc,λx hx y hy e=>?_⟩,λx hx=>?_⟩
 .have:=(eA.mp hy).2;have h2:(fd.any λz=>z==y)=ab:=any_eq_true.mpr ⟨x,hx,by rw[e];exact beq_self_eq_true y⟩;rw[h2]at this;cases this
 .rcases ci.mp hx with q |q
  .exact h.el x q
  .have h1:=(eA.mp q).1;refine⟨qU hp x (AB.mp (hk.subset h1)),?_⟩;unfold kpL at h1;split at h1
   .cases h1
   .exact(eA.mp h1).2
theorem O1(xs:List Int)(i:Int):oh (.int i) (.lst (xs.map D.int))=aa (.bl (!(xs.any λx=>x==i))):=by
 unfold oh inD;show j1 _ (if ((D.int i).scalar && (xs.map D.int).all D.scalar)=ab then aa ((xs.map D.int).any λd=>eqX d (.int i)) else ac)=_;rw[if_pos (by rw[rB];exact(cg _ _).mpr ⟨rfl,all_eq_true.mpr λ_ _=>rfl⟩),any_map];rfl
theorem O2{n m:Int}(h0:U[i]?=aa (.im (.int n)))(k:K (.nx (U.set i (.im (.int (n+m)))))):wp (qp i (mX λ_=>aa (.int m))) U K:=⟨_,by
 unfold qp;rw[h0];rfl,k⟩
theorem O3(hn:es.length<=60)(hok:∀r∈ms,r.Ok es.length)(hnm:∀r∈ms,∀p∈r.ps,(nmP p).length<=1000)(hw:wo.length=es.length)(hz:ms.length<=1000)(hl:∀r∈ms,wo.getD r.hd.toNat ae=ab->r.bodyLost es wo=ab)(t0:0<=t)(t1:t<(es.length:Int))(ht:wo.getD t.toNat ae=ab):
  ∃ks:List Int,o_3 [slf es a b c d e ms,.int t,.lst (wo.map D.bl)]=aa (ks.map D.int)/\ks.length<=60:=by
 suffices h:wp b_3 (eS 6 [slf es a b c d e ms,.int t,.lst (wo.map D.bl)]) (λr=>∃ks:List Int,r=.rtO (ks.map D.int)/\ks.length<=60) by
  obtain⟨r,e,ks,rfl,h⟩:=h;exact⟨ks,xC e,h⟩
 unfold b_3;show wp _ [.im (slf es a b c d e ms),.im (.int t),.im (.lst (wo.map D.bl)),.no,.no,.no] _;apply aA;refine jd (d:=[.int t]) rfl ?_;walk_at "nrm";apply aA;refine bX (d:=.int 0) rfl ?_;walk_at "nrm";apply aA;refine qh (λm U=>∃(fd:List Int) (pl:Nat) (v5:Sl),U=[.im (slf es a b c d e ms),.im (.int t),.im (.lst (wo.map D.bl)),.own (fd.map D.int),.im (.int pl),v5]/\KOk es.length wo fd/\pl<=fd.length/\m+pl=61) ?_ _ 61 _ ⟨[t],0,_,rfl,⟨cY.mpr ⟨(λh=>nomatch h),fR⟩,λx hx=>by rw[eM.mp hx];exact⟨⟨t0,t1⟩,ht⟩⟩,da _,rfl⟩ (by decide);rintro m U ⟨fd,pl,v5,rfl,hk,hp,hm⟩;have hfl:=hk.len;refine⟨decide ((pl:Int)<fd.length),b8 (aN rfl (aR rfl (iO fd D.int)) rfl),λz=>?_,λz=>?_⟩
 .have hlt:pl<fd.length:=by have:=of_decide_eq_true z;omega
  obtain⟨x,hx⟩:∃x,fd[pl]?=aa x:=⟨_,dk hlt⟩;obtain⟨⟨x0,x1⟩,xw⟩:=hk.el x (dJ hx)
  have hat:atI (fd.map D.int) (pl:Int)=aa (.int x):=by
   rw[mP 0 (by omega) (by omega),fP,bD,hx];rfl
  apply aA;refine dW (ms.filter λr=>r.hd==x) (λr=>fdL r es wo) (λpre U=>∃(fd':List Int) (v5:Sl),U=[.im (slf es a b c d e ms),.im (.int t),.im (.lst (wo.map D.bl)),.own (fd'.map D.int),.im (.int pl),v5]/\KOk es.length wo fd'/\fd.length<=fd'.length) (cL ((dU rfl rfl (ay (aI rfl rfl hat) (ay rfl rfl))).trans (OY hok hw hz)) rfl) ⟨fd,v5,rfl,hk,aL _⟩ ?_ ?_
  .rintro pre r post U ex ⟨fd',v5,rfl,hk',hle⟩;have hrm:r∈ms.filter λr=>r.hd==x:=by rw[ex];simp
   obtain⟨hr,hx2⟩:=eA.mp hrm;have hx2:r.hd=x:=by simpa using hx2
   have hb:=hl r hr (by rw[hx2];exact xw)
   obtain⟨p,hp1,hp2⟩:∃p,p∈r.ps/\fdL r es wo=p.obj:=by
    unfold fdL
    cases hf:r.ps.find? (λp=>p.lost es wo)with
    |none=>
     have:=E4 (es:=es) (wo:=wo) r;rw[hf,hb]at this
     cases this
    |some p=>exact⟨p,mem_of_find?_eq_some hf,rfl⟩
   have hpo:=(hok r hr).ps p hp1;have hkm:=hk'.more (es:=es) hpo;have hfl':=hkm.len;rw[a9]at hfl';refine⟨_,rfl,?_⟩;walk_at "nrm";rw[hp2];refine⟨_,NY (ds:=((kpL p es wo).filter λt=>!(fd'.any λx=>x==t)).map D.int) (bC (g6 (kpL p es wo) D.int (λt=>!(fd'.any λx=>x==t)) D.int (cL ((dU rfl rfl (ay rfl (ay rfl rfl))).trans (OZ hpo hn (hnm r hr p hp1) hw)) rfl) ?_ λy _=>fw rfl (b8 (aN rfl rfl (O1 fd' y))) λ_=>rfl)) rfl (by rw[aH,aH];omega),?_⟩
   .have:(kpL p es wo).length<=(nmL p).length:=by
     unfold kpL;split
     .exact da _
     .exact jW _ _
    have:=qW hpo hn;omega
   .refine⟨_,.im p.obj,?_,hkm,?_⟩
    .rw[bN];rfl
    .rw[a9];omega
  .rintro U ⟨fd',v5,rfl,hk',hle⟩;refine O2 rfl ?_;exact⟨m-1,by omega,fd',pl+1,v5,rfl,hk',by omega,by omega⟩
 .refine iN rfl ?_;refine g7 (K4 (ns:=fd) rfl (by omega) hk.nd) ⟨_,rfl,?_⟩;exact cZ (AA (n:=es.length) λx hx=>(hk.el x hx).1) hn
noncomputable def ip{α:Type}:Nat->List α->List (Nat×α)
 | _,[]=>[]
 |i,x::xs=>(i,x)::ip (i+1) xs
theorem AX{α:Type}(f:α->D):∀(i:Nat) (xs:List α),ig i (xs.map f)=(ip i xs).map λp=>D.tup [.int p.1,f p.2]
 | _,[]=>rfl
 |i,x::xs=>by rw[bn,ig,AX f (i+1) xs];rfl
theorem u5{α:Type}:∀(i:Nat) (xs:List α) (j:Nat),(ip i xs)[j]?=(xs[j]?).map λx=>(i+j,x)
 | _,[],_=>rfl
 |i,x::xs,0=>rfl
 |i,x::xs,j+1=>by rw[ip,eW,eW,u5 (i+1) xs j,show i+1+j=i+(j+1) by omega]
theorem u6{α:Type}{xs:List α}{p:Nat×α}(h:p∈ip 0 xs):xs[p.1]?=aa p.2:=by
 obtain⟨j,hj⟩:=rn h;rw[u5]at hj
 cases e:xs[j]? with
 |none=>rw[e]at hj;cases hj
 |some x=>
  rw[e]at hj;cases hj;rw[nA];exact e
theorem FK{α:Type}:∀(i:Nat) (xs:List α),(ip i xs).length=xs.length
 | _,[]=>rfl
 |i,x::xs=>by rw[ip,b9,b9,FK (i+1) xs]
noncomputable def inL(es:List (Option Bool))(wo:List Bool):List Int:=((ip 0 es).filter λp=>wo.getD p.1 ae && p.2==aa ab).map λp=>(p.1:Int)
noncomputable def jm(wo:List Bool):List Int:=((ip 0 wo).filter λp=>p.2).map λp=>(p.1:Int)
theorem O4(wo:List Bool):ip 0 wo=(bF wo.length).map λi=>(i,wo.getD i ae):=by
 apply nr;intro j;rw[u5,cD]
 by_cases h:j<wo.length
 .rw[dk h,rp h];simp[bD,dk h]
 .rw[d8 (by omega),d8 (by rw[cX];omega)];rfl
theorem AY(wo:List Bool):jm wo=mZ wo:=by
 unfold jm mZ;rw[O4,filter_map,map_map];rfl
theorem FL:∀(ws:Wss),O.kns (ws.map λp=>lsO p.2)=ab
 | []=>by rw[map_nil,O.kns]
 |p::ws=>by rw[bn,O.kns,FL ws,lsO,O.kn,lF];rfl
noncomputable def Spt.D(rs:List Rul)(s:Spt):L2.D:=(s.S rs).o.toD
theorem O5(rs:List Rul)(s:Spt):∃a b c d e,s.D rs=slf s.es a b c d e s.ms:=by
 refine⟨.lst s.st,.lst (s.bs.map bp),(O.dT ((gys rs.length s.bs.length).map wyK) (((gys rs.length s.bs.length).map (gdD rs s.bs)).map .fz)).toD,(wsO (wtW s.tw)).toD,.lst (s.wt.map wyD),?_⟩;unfold Spt.D Spr.o Spt.S slf;dsimp only;simp only[lsO,O.toD,O.toDs,Cf]
theorem O6(rs:List Rul)(s:Spt):(s.S rs).o.kn=ab:=by
 unfold Spr.o Spt.S lsO wsO;dsimp only;rw[O.kn,O.kns,O.kns,O.kns,O.kns,O.kns,O.kns,O.kns,O.kns,O.kn,O.kn,O.kn,O.kn,O.kn,O.kn,O.kn,lF,lF,lF,lF,FL,lF];rfl
theorem FM:gu 0 (.deep (.at l (s.S rs).o)::U)=aa (s.D rs):=by
 show(if (O.at l (s.S rs).o).kn=ab then aa (O.at l (s.S rs).o).toD else ac)=_;rw[O.kn,O6,if_pos rfl,O.toD];rfl
noncomputable def AZ(rs:List Rul)(s:Spt)(wo:List Bool)(t:Int):LD:=(o_3 [s.D rs,.int t,.lst (wo.map D.bl)]).getD []
noncomputable def kH(rs:List Rul)(s:Spt)(wo:List Bool)(t:Int):D:=.tup [.str "group",.lst (AZ rs s wo t)]
structure nc(n:Nat)(ms:List Rul):Prop where
 ok:∀r∈ms,r.Ok n
 nm:∀r∈ms,∀p∈r.ps,(nmP p).length<=1000
 ne:∀r∈ms,r.w≠.never
 len:ms.length<=1000
theorem nc.of(hr:∀r∈rs,RuK n r)(hz:rs.length<=1000)(h:ms.Perm (kE rs)):nc n ms:=by
 have hm:∀r∈ms,r∈rs/\r.w≠.never:=λr q=>by
  obtain⟨a,b⟩:=eA.mp (h.mem_iff.mp q);exact⟨a,λe=>by rw[e]at b;cases b⟩
 exact⟨λr q=>(hr r (hm r q).1).ok,λr q=>(hr r (hm r q).1).nm,λr q=>(hm r q).2,by rw[h.length_eq];exact cZ (jW _ _) hz⟩
def GpL(ms:List Rul)(es:List (Option Bool))(wo:List Bool):Prop:=wo.length=es.length/\∀r∈ms,wo.getD r.hd.toNat ae=ab->r.bodyLost es wo=ab
variable{es':List (Option Bool)}
theorem GpL.up(h:GpL ms es wo)(f:dF es es')(hok:∀r∈ms,r.Ok es.length):GpL ms es' wo:=⟨by rw[h.1,f.len],λr hr hw=>CQ (λp hp z=>CP f (qe.refl _) ((hok r hr).ps p hp) z) (h.2 r hr hw)⟩
theorem O7{b:Bool}(t0:0<=t)(ho:opn es t=ab):dF es (put es t.toNat b):=by
 refine⟨lw _ _ _,λi=>?_⟩
 by_cases e:i=t.toNat
 .rw[e];exact .inl (q9 ho)
 .exact .inr (uR es b e)
theorem FN(hn:n<=60)(hes:s.es.length=n)(hm:nc n s.ms)(hg:GpL s.ms s.es wo)(t0:0<=t)(t1:t<(n:Int))(ht:wo.getD t.toNat ae=ab)(ho:fo U=aa (s.D rs))(ha:fa U=aa [.int t,.lst (wo.map D.bl)]):
  oN "Spreading" "kernel" o_3 fo fa U=aa (AZ rs s wo t):=by
 obtain⟨a,b,c,d,e,eD⟩:=O5 rs s;obtain⟨ks,ek,_⟩:=O3 (a:=a) (b:=b) (c:=c) (d:=d) (e:=e) (by omega) (by rw[hes];exact hm.ok) hm.nm hg.1 hm.len hg.2 t0 (by rw[hes];exact t1) ht;unfold oN;rw[ho,aC];unfold AZ;rw[eD];show(if "Spreading"="Spreading" /\ spN.contains "kernel"=ae then (fa U).bind λas=>(o_3 (slf s.es a b c d e s.ms::as)).bind λrs=>if rs.all D.flat then aa rs else ac else ac)=_;rw[if_pos ⟨rfl,rfl⟩,ha,aC,ek,aC,if_pos (all_eq_true.mpr λd hd=>by obtain⟨z,_,rfl⟩:=bj.mp hd;rfl)];rfl
noncomputable def gJ(rs:List Rul)(wo:List Bool)(s:Spt)(ts:List Int):Spt:=ts.foldl (λs t=>s.pt t ae (kH rs s wo t)) s
theorem A0{n c B:Nat}{rs:List Rul}{wo:List Bool}:∀{ts:List Int} {s:Spt},SpJ n c B rs s->io s.es (ts.map λt=>(t,ae))->SpJ n c B rs (gJ rs wo s ts)/\Me c (gJ rs wo s ts)+ts.length<=Me c s/\(gJ rs wo s ts).es=ts.foldl (λes t=>put es t.toNat ae) s.es/\dF s.es (gJ rs wo s ts).es/\(gJ rs wo s ts).bs=s.bs/\(gJ rs wo s ts).ms=s.ms
 | [],s,h,_=>⟨h,aL _,rfl,dF.refl _,rfl,rfl⟩
 |t::ts,s,h,k=>by
  obtain⟨⟨a,b⟩,e⟩:=k.op (t,ae) aO;obtain⟨h1,h2⟩:=h.pt (w:=kH rs s wo t) (b:=ae) a (by rw[<- h.es];exact b) e;obtain⟨h3,h4,h5,h6,h7,h8⟩:=A0 (wo:=wo) (ts:=ts) h1 k.tail;refine⟨h3,?_,h5,?_,h7,h8⟩
  .have h4':Me c (gJ rs wo (s.pt t ae (kH rs s wo t)) ts)+ts.length<=Me c (s.pt t ae (kH rs s wo t)):=h4;have h2':Me c (s.pt t ae (kH rs s wo t))<Me c s:=h2;show Me c (gJ rs wo (s.pt t ae (kH rs s wo t)) ts)+(ts.length+1)<=_;omega
  .have f1:dF s.es (put s.es t.toNat ae):=O7 a e;refine⟨h6.len.trans f1.len,λi=>?_⟩
   rcases f1.at' i with q |q
   .exact .inl q
   .rcases h6.at' i with z |z
    .exact .inl (q.symm.trans z)
    .exact .inr (z.trans q)
theorem psT{pre post:List Int}(h:io es ((pre++post).map λt=>(t,ae))):io es (pre.map λt=>(t,ae)):=by
 rw[bN]at h;exact h.pre
noncomputable def reM(s:Spt):Spt:={s with ms:=(c9 s.es s.ms).2.1++(c9 s.es s.ms).2.2}
noncomputable def dB(rs:List Rul)(s:Spt):OD×Spt:=match inL s.es (c9 s.es s.ms).1 with
 |x::_=>(aa (kH rs (reM s) (c9 s.es s.ms).1 x),reM s)
 | []=>(ac,gJ rs (c9 s.es s.ms).1 (reM s) (jm (c9 s.es s.ms).1))
variable{c:Nat}
theorem SpJ.rem'(h:SpJ n c B rs s)(hm:nc n s.ms):SpJ n c B rs (reM s)/\GpL s.ms s.es (c9 s.es s.ms).1/\(reM s).ms.Perm s.ms/\∀i,(c9 s.es s.ms).1.getD i ae=ab->s.es.getD i ac≠aa ae:=by
 obtain⟨l1,l2⟩:=Ob (es:=s.es) hm.ne;have pm:((c9 s.es s.ms).2.1++(c9 s.es s.ms).2.2).Perm s.ms:=by have:=l1.pm;rw[cr]at this;exact this
 refine⟨⟨h.es,h.bk,h.tw,h.wv,pm.trans h.ms,h.mB,h.sB,h.sv⟩,⟨l1.len,λr hr hw=>?_⟩,pm,λi hi e=>?_⟩
 .have:=l2 r hr;unfold iS at this;rw[hw,Bool.true_and]at this
  simpa using this
 .have:=l1.pe.sub i hi;unfold kG at this;rw[bD,cD]at this;rw[bD]at e
  cases h:s.es[i]? with
  |none=>rw[h]at e;cases e
  |some x=>
   rw[h]at e this;have e:x=aa ae:=e;rw[e]at this;cases this
theorem GpL.grp(h:GpL ms es wo)(pm:ms.Perm (kE rs))(hn:∀i,wo.getD i ae=ab->es.getD i ac≠aa ae):Grp rs es wo:=⟨h.1,hn,λr hr=>h.2 r (pm.mem_iff.mpr hr)⟩
theorem O8:t∈jm wo↔0<=t/\wo.getD t.toNat ae=ab:=by rw[AY];exact EJ wo t
theorem O9(wo:List Bool):(jm wo).Nodup:=by
 rw[AY];unfold mZ;exact ve _ (λa b h e=>h (by omega)) (nodup_range.filter _)
theorem FO(h:inL es wo=[])(i:Nat)(hw:wo.getD i ae=ab):es.getD i ac≠aa ab:=λe=>by
 rw[bD]at e
 cases hx:es[i]? with
 |none=>rw[hx]at e;cases e
 |some x=>
  rw[hx]at e;have e:x=aa ab:=e;have hm:(i,x)∈ip 0 es:=dJ (i:=i) (by rw[u5,hx];simp);have:(i:Int)∈inL es wo:=bj.mpr ⟨(i,x),eA.mpr ⟨hm,by rw[hw,e];rfl⟩,rfl⟩;rw[h]at this;cases this
theorem FP(hl:wo.length=es.length)(h:inL es wo=[])(hn:∀i,wo.getD i ae=ab->es.getD i ac≠aa ae):io es ((jm wo).map λt=>(t,ae)):=by
 refine⟨by rw[map_map];have:=O9 wo;simpa[Function.comp_def]using this,λz hz=>?_⟩;obtain⟨t,ht,rfl⟩:=bj.mp hz;obtain⟨t0,tw⟩:=O8.mp ht
 have lt:t.toNat<wo.length:=by
  refine vi λq=>?_;rw[bD,d8 q]at tw;cases tw
 refine⟨⟨t0,by show t<_;omega⟩,?_⟩;unfold opn;have h1:=FO h _ tw;have h2:=hn _ tw;show(es.getD t.toNat ac==ac)=ab
 cases hx:es.getD t.toNat ac with
 |none=>rfl
 |some b=>cases b with
  |true=>exact absurd hx h1
  |false=>exact absurd hx h2
theorem FQ(hr:∀r∈rs,RuK n r)(hz:rs.length<=1000)(h:SpJ n c B rs s):SpJ n c B rs (dB rs s).2/\(dB rs s).2.bs=s.bs/\Mvs rs s.bs s.es (dB rs s).2.es/\Me c (dB rs s).2<=Me c s/\((dB rs s).1=ac->s.wt=[]->(dB rs s).2.wt≠[]->Me c (dB rs s).2<Me c s)/\((dB rs s).1≠ac->∃wo,Grp rs (dB rs s).2.es wo/\∃i,wo.getD i ae=ab/\(dB rs s).2.es.getD i ac=aa ab):=by
 have hm:=nc.of hr hz h.ms;obtain⟨h1,hg,pm,hno⟩:=h.rem' hm;unfold dB
 cases hL:inL s.es (c9 s.es s.ms).1 with
 |cons x xs=>
  dsimp only;refine⟨h1,rfl,.refl,aL _,(λe=>by cases e),λ_=>⟨_,hg.grp h.ms hno,?_⟩⟩;have hx:x∈inL s.es (c9 s.es s.ms).1:=by rw[hL];exact aO
  obtain⟨p,hp,rfl⟩:=bj.mp hx;obtain⟨hp1,hp2⟩:=eA.mp hp;have h3:=u6 hp1;have ⟨h4,h5⟩:=(cg _ _).mp hp2;refine⟨p.1,h4,?_⟩;show s.es.getD p.1 ac=aa ab;rw[bD,h3]
  exact eq_of_beq h5
 |nil=>
  dsimp only;have ps:=FP hg.1 hL hno;obtain⟨o1,o2,o3,o4,o5,o6⟩:=A0 (wo:=(c9 s.es s.ms).1) (s:=reM s) h1 ps;have o2':Me c (gJ rs (c9 s.es s.ms).1 (reM s) (jm (c9 s.es s.ms).1))+(jm (c9 s.es s.ms).1).length<=Me c s:=o2;refine⟨o1,o5,?_,by omega,λ_ hw hne=>?_,λe=>absurd rfl e⟩
  .rw[o3,AY];refine .out .refl (hg.grp h.ms hno) λi hi=>?_;show s.es.getD i ac=ac
   cases hx:s.es.getD i ac with
   |none=>rfl
   |some b=>cases b with
    |true=>exact absurd hx (FO hL i hi)
    |false=>exact absurd hx (hno i hi)
  .cases hl:jm (c9 s.es s.ms).1 with
   |nil=>
    rw[hl]at hne
    exact absurd hw hne
   |cons t ts=>
    rw[hl]at o2';rw[b9]at o2';omega
theorem Pa(hr:∀r∈rs,RuK n r)(hz:rs.length<=1000)(hn:n<=60)(hB:B+c<16777216)(h:SpJ n c B rs s):Ak l [] (s.S rs).o=aa (((dB rs s).2.S rs).o,(dB rs s).1.getD .non):=by
 have hm:=nc.of hr hz h.ms;obtain⟨h1,hg,pm,hno⟩:=h.rem' hm;have hme:(s.S rs).es=s.es:=rfl;have hes:=h.es;have mk:=Oc (l:=l) (s:=s.S rs) (ms:=s.ms) rfl (by rw[hme];omega) (by rw[hme,hes];exact hm.ok) hm.ne hm.len;have hm1:nc n (reM s).ms:=⟨λr q=>hm.ok r (pm.mem_iff.mp q),λr q=>hm.nm r (pm.mem_iff.mp q),λr q=>hm.ne r (pm.mem_iff.mp q),by rw[pm.length_eq];exact hm.len⟩;have hg1:GpL (reM s).ms s.es (c9 s.es s.ms).1:=⟨hg.1,λr q=>hg.2 r (pm.mem_iff.mp q)⟩;have hlen:=hg.1;unfold dB;generalize hwo:(c9 s.es s.ms).1=wo at *;apply kC;unfold uK;show wp _ [.deep (.at l (s.S rs).o),.no,.no,.no,.no] _;apply aA;refine rg (kB rfl rfl rfl rfl mk) ?_;show wp _ [.deep (.at l ((reM s).S rs).o),.im (.lst ((c9 s.es s.ms).1.map D.bl)),.no,.no,.no] _;rw[hwo];apply aA;refine bX (d:=.lst ((inL s.es wo).map D.int)) (bC ?_) ?_
 .unfold inL;rw[map_map];refine g6 (ip 0 s.es) (λp=>D.tup [.int p.1,shD p.2]) (λp=>wo.getD p.1 ae && p.2==aa ab) (λp=>D.int p.1) ?_ (by rw[FK];omega) λp hp=>?_
  .rw[<- AX];show(pC (bu "Spreading" "sheet" (aZ 0)) _).map (ig 0)=_;rw[Aw qT];rfl
  .have hlt:p.1<s.es.length:=(dH.mp (u6 hp)).1;refine fw rfl (p8 (fu (aI rfl rfl (jE (by omega) (by omega))) rfl) (b8 (aN rfl rfl ?_))) λ_=>rfl;obtain⟨i,x⟩:=p
   cases x with
   |none=>rfl
   |some b=>cases b <;> rfl
 .show wp _ [.deep (.at l ((reM s).S rs).o),.im (.lst (wo.map D.bl)),.no,.im (.lst ((inL s.es wo).map D.int)),.no] _;apply aA
  cases hL:inL s.es wo with
  |cons x xs=>
   have hx:x∈inL s.es wo:=by rw[hL];exact aO
   obtain⟨p,hp,ep⟩:=bj.mp hx;obtain⟨hp1,hp2⟩:=eA.mp hp;have h3:=(dH.mp (u6 hp1)).1;have ⟨h4,h5⟩:=(cg _ _).mp hp2;refine bw (b:=ab) rfl (λ_=>?_) (λz=>by cases z);refine oT (d:=kH rs (reM s) wo x) (fL (ay rfl (ay (bC (FN (n:=n) hn hes hm1 hg1 (by omega) (by omega) (by rw[<- ep,fP];exact h4) FM (ay (aI (ds:=(x::xs).map D.int) rfl rfl (mP 0 (by decide) (by rw[b9];omega))) (ay rfl rfl)))) rfl))) ?_
   exact⟨_,rfl,rfl,rfl⟩
  |nil=>
   have ps:=FP hlen hL hno;refine bw (b:=ae) rfl (λz=>by cases z) (λ_=>cp ?_);apply aA;refine dW (ip 0 wo) (λp=>D.tup [.int p.1,.bl p.2]) (λpre U=>∃v2 v4,U=[.deep (.at l ((gJ rs wo (reM s) ((pre.filter λp=>p.2).map λp=>(p.1:Int))).S rs).o),.im (.lst (wo.map D.bl)),v2,.im (.lst ([].map D.int)),v4]) ?_ ⟨_,_,rfl⟩ ?_ ?_
   .rw[<- AX];exact EZ rfl
   .rintro pre p post U ex ⟨v2,v4,rfl⟩;refine⟨_,rfl,?_⟩;walk_at "nrm";have hx:=u6 (p:=p) (by rw[ex];simp);have hlt:=(dH.mp hx).1
    cases hb:p.2 with
    |false=>
     refine bw (b:=ae) rfl (λz=>by cases z) (λ_=>cp ?_);refine⟨.im (.int p.1),.im (.bl ae),?_⟩
     rw[rE,lL (by rw[hb];exact bd),filter_nil,cr]
    |true=>
     have esp:jm wo=(pre.filter λp=>p.2).map (λp=>(p.1:Int))++(p.1:Int)::(post.filter λp=>p.2).map λp=>(p.1:Int):=by
      unfold jm;rw[ex,rE,jU hb,bN,bn]
     rw[esp]at ps;obtain⟨o1,o2,o3,o4,o5,o6⟩:=A0 (wo:=wo) (s:=reM s) h1 (psT ps);generalize hT:(pre.filter λp=>p.2).map (λp=>(p.1:Int))=T at *;have hgS:GpL (gJ rs wo (reM s) T).ms (gJ rs wo (reM s) T).es wo:=by rw[o6];exact hg1.up o4 (by show ∀r∈(reM s).ms,r.Ok s.es.length;rw[hes];exact hm1.ok)
     have hwp:wo.getD (p.1:Int).toNat ae=ab:=by rw[fP,bD,hx,hb];rfl
     refine bw (b:=ab) rfl (λ_=>?_) (λz=>by cases z);refine oU (kB rfl rfl (iR (d:=.int p.1) rfl (iR (d:=.bl ae) rfl (iR (d:=kH rs (gJ rs wo (reM s) T) wo p.1) (fL (ay rfl (ay (bC (FN (n:=n) hn o1.es (by rw[o6];exact hm1) hgS (by omega) (by omega) hwp FM (ay rfl (ay rfl rfl)))) rfl))) rfl))) rfl (FB o1 hB (by omega) (by omega))) ?_;refine⟨.im (.int p.1),.im (.bl ab),?_⟩;rw[rE,jU hb,bN,hT];unfold gJ;rw[filter_nil,bn,map_nil,fE];rfl
   .rintro U ⟨v2,v4,rfl⟩;exact oT (d:=.non) rfl ⟨_,rfl,rfl,rfl⟩
noncomputable def stF(rs:List Rul)(c:Nat):Nat->Spt->OD×Spt
 | 0,s=>(ac,s)
 |k+1,s=>if (lrF rs (Me c s+1) s).1.isSome then ((lrF rs (Me c s+1) s).1.map wyD,(lrF rs (Me c s+1) s).2) else if ((dB rs (lrF rs (Me c s+1) s).2).1.isSome || (dB rs (lrF rs (Me c s+1) s).2).2.wt.isEmpty) then dB rs (lrF rs (Me c s+1) s).2 else stF rs c k (dB rs (lrF rs (Me c s+1) s).2).2
def A1(rs:List Rul)(bs:List (List Pr))(es:List (Option Bool)):Prop:=(∃y∈gys rs.length bs.length,∀p∈d6 rs bs y,p.sure es=ab)\/∃wo,Grp rs es wo/\∃i,wo.getD i ae=ab/\es.getD i ac=aa ab
structure Pb(n c B:Nat)(rs:List Rul)(s:Spt)(R:OD×Spt):Prop where
 ok:SpJ n c B rs R.2
 bs:R.2.bs=s.bs
 mv:Mvs rs s.bs s.es R.2.es
 en:R.1≠ac->A1 rs s.bs R.2.es
 tp:∀w,R.1=aa w->∃ds,w=.tup ds
theorem Pc(h:(dB rs s).1=aa w):∃ds,w=.tup ds:=by
 unfold dB at h;split at h
 .cases h;exact⟨_,rfl⟩
 .cases h
theorem none_of{α:Type}{x:Option α}(h:¬x.isSome=ab):x=ac:=by cases x with
 |none=>rfl
 |some a=>exact absurd rfl h
theorem A2{n c B:Nat}{rs:List Rul}(hr:∀r∈rs,RuK n r)(hz:rs.length<=1000):∀(k:Nat) (s:Spt),SpJ n c B rs s->Me c s<k->Pb n c B rs s (stF rs c k s)
 | 0,_,_,h=>absurd h (lR _)
 |k+1,s,h,hk=>by
  have l:=AW hr (Me c s+1) s h (dY _);unfold stF;generalize lrF rs (Me c s+1) s=R at l;split
  .rename_i hs;obtain⟨y,hy⟩:=Option.isSome_iff_exists.mp hs;exact⟨l.ok,l.bs,l.mv,(λ_=>.inl ⟨y,l.ye y hy⟩),λw hw=>by rw[hy]at hw;cases hw;exact⟨_,rfl⟩⟩
  .rename_i hs;have hw:=l.no (none_of hs);obtain⟨p1,p2,p3,p4,p5,p6⟩:=FQ hr hz l.ok;rw[l.bs]at p3;have ll:=l.le;have pt:=λw=>Pc (rs:=rs) (s:=R.2) (w:=w);generalize dB rs R.2=P at *;split
   .exact⟨p1,p2.trans l.bs,l.mv.trans p3,(λe=>.inr (p6 e)),pt⟩
   .rename_i hc;have h1:P.1=ac:=none_of λe=>hc (by rw[e];rfl);have h2:P.2.wt≠[]:=λe=>hc (by rw[e];exact Bool.or_true _);have h3:=p5 h1 hw h2;have ih:=A2 hr hz k P.2 p1 (by omega);have eb:=p2.trans l.bs;exact⟨ih.ok,ih.bs.trans eb,(l.mv.trans p3).trans (by have:=ih.mv;rw[eb]at this;exact this),(λe=>by have:=ih.en e;rw[eb]at this;exact this),ih.tp⟩
theorem Pd(rs:List Rul)(s:Spt):dIs ((dB rs s).1.getD .non) .non=aa (.bl (!(dB rs s).1.isSome)):=by
 unfold dB
 split <;> rfl
theorem Pe(hr:∀r∈rs,RuK n r)(hz:rs.length<=1000)(hn:n<=60)(hB:B+c<16777216)(h:SpJ n c B rs s)(hk:Me c s<k)(h9:k<1000000000):Al l [] (s.S rs).o=aa (((stF rs c k s).2.S rs).o,(stF rs c k s).1.getD .non):=by
 apply kC;unfold uL;show wp _ [.deep (.at l (s.S rs).o),.no,.no] _;apply aA;refine bX (d:=.bl ab) rfl ?_;walk_at "nrm";apply aA;refine qh (λm U=>∃(s':Spt) (g:Bool) (v2:Sl),U=[.deep (.at l (s'.S rs).o),.im (.bl g),v2]/\(g=ab->SpJ n c B rs s'/\Me c s'<m/\stF rs c m s'=stF rs c k s)/\(g=ae->∃w:OD,v2=.im (w.getD .non)/\(w,s')=stF rs c k s)) ?_ _ k _ ⟨s,ab,_,rfl,λ_=>⟨h,hk,rfl⟩,λz=>by cases z⟩ h9;rintro m U ⟨s',g,v2,rfl,hT,hF⟩;generalize stF rs c k s=Z at hT hF ⊢;refine⟨g,rfl,?_,?_⟩
 .rintro rfl;obtain⟨h',hm,eL⟩:=hT rfl
  cases m with
  |zero=>exact absurd hm (lR _)
  |succ m=>
   have l1:=AW hr (Me c s'+1) s' h' (dY _);have mB:=h'.mB;have e1:=OX (l:=l) hr hB h' (dY _) (by show Me c s'+1<_;show gg s'.es*(c+1)+s'.wt.length+1<_;omega);unfold stF at eL;generalize lrF rs (Me c s'+1) s'=R at *;apply aA;refine rg (kB rfl rfl rfl rfl e1) ?_;show wp _ [.deep (.at l (R.2.S rs).o),.im (.bl ab),.im (FE R.1)] _;apply aA
   cases hR:R.1 with
   |some y=>
    rw[if_pos (by rw[hR];rfl),hR]at eL;refine bw (b:=ae) rfl (λz=>by cases z) (λ_=>cp ?_);refine bX (d:=.bl ae) ((sZ (a:=ae) rfl (aN (aR (ay (m5 m4) rfl) (iO R.2.wt wyD)) rfl tN)).trans rfl) ?_
    exact⟨0,px _,R.2,ae,_,rfl,(λz=>by cases z),λ_=>⟨aa (wyD y),rfl,eL⟩⟩
   |none=>
    rw[if_neg (by rw[hR];exact bd)]at eL;have hw:=l1.no hR;obtain⟨p1,p2,p3,p4,p5,p6⟩:=FQ hr hz l1.ok;have e2:=Pa (l:=l) hr hz hn hB l1.ok;have e3:=Pd rs R.2;have ll:=l1.le;generalize dB rs R.2=P at *;refine bw (b:=ab) rfl (λ_=>?_) (λz=>by cases z);refine rg (kB rfl rfl rfl rfl e2) ?_;show wp _ [.deep (.at l (P.2.S rs).o),.im (.bl ab),.im (P.1.getD .non)] _;refine bX (d:=.bl (!P.1.isSome && decide ((0:Int)<P.2.wt.length))) (sZ (aN rfl rfl e3) (aN (aR (ay (m5 m4) rfl) (iO P.2.wt wyD)) rfl tN)) ?_
    by_cases hc:(P.1.isSome || P.2.wt.isEmpty)=ab
    .rw[if_pos hc]at eL
     have hg:(!P.1.isSome && decide ((0:Int)<P.2.wt.length))=ae:=by
      rcases(jp _ _).mp hc with z |z
      .rw[z];rfl
      .rw[isEmpty_iff.mp z];exact rk _
     rw[hg];exact⟨0,px _,P.2,ae,_,rfl,(λz=>by cases z),λ_=>⟨P.1,rfl,eL⟩⟩
    .rw[if_neg hc]at eL;have h1:P.1=ac:=none_of λe=>hc (by rw[e];rfl);have h2:P.2.wt≠[]:=λe=>hc (by rw[e];exact Bool.or_true _);have h3:=p5 h1 hw h2
     have hg:(!P.1.isSome && decide ((0:Int)<P.2.wt.length))=ab:=by
      have:=length_pos_iff.mpr h2;rw[h1,decide_eq_true (by omega)];rfl
     rw[hg];exact⟨m,dY _,P.2,ab,_,rfl,(λ_=>⟨p1,by omega,eL⟩),λz=>by cases z⟩
 .rintro rfl;obtain⟨w,rfl,e⟩:=hF rfl;rw[<- e];exact oT (d:=w.getD .non) rfl ⟨_,rfl,rfl,rfl⟩
structure SpB(n c:Nat)(rs:List Rul)(s:Spt):Prop where
 es:s.es.length=n
 bk:∀b∈s.bs,cO n b
 tw:gG c rs.length s.bs s.tw
 wv:∀y∈s.wt,y∈gys rs.length s.bs.length
 ms:s.ms.Perm (kE rs)
 st:s.st=[]
 wl:s.wt.length=rs.length+s.bs.length
theorem SpB.bar{b:List Pr}(h:SpB n c rs s)(hb:cO n b)(hn:n<=60):SpB n (c+3840) rs (s.bar b):=by
 have hnd:∀b∈s.bs,b.Nodup:=λb q=>(h.bk b q).pd;refine⟨h.es,λx hx=>?_,(h.tw.dropped hnd b).bar hb hn,λy hy=>?_,h.ms,h.st,?_⟩
 .rcases ci.mp hx with q |q
  .exact h.bk x q
  .rw[eM.mp q];exact hb
 .show y∈gys rs.length (s.bs++[b]).length;rw[a9,fD,uY]
  rcases ci.mp hy with q |q
  .exact gh _ (h.wv y q)
  .exact dX _ q
 .show(s.wt++[_]).length=rs.length+(s.bs++[b]).length;rw[a9,a9,fD,fD,h.wl];omega
theorem FR{n q R:Nat}(hn:n<=60):∀(rs:List Rul) (i c:Nat) (tw:Wt),(∀r∈rs,RuK n r/\(grd r).length<=q)->i+rs.length<=R->gG c R [] tw->gG (c+64*q*rs.length) R [] (oV i rs tw)
 | [],_,_,_,_,_,h=>h
 |r::rs,i,c,tw,hr,hi,h=>by
  obtain⟨r1,r2⟩:=hr r aO;rw[b9]at hi
  have h1:gG (c+64*q) R [] (iT (ae,i) (grd r) tw):=by
   refine⟨?_,λp y hy=>?_,λj=>?_⟩
   .rw[<- uZ];refine(bY.reg hn (uU r1) h.wk).le ?_;have:=Nat.mul_le_mul_left 64 r2;omega
   .by_cases e:y=(ae,i)
    .rw[e];refine m8.mpr ?_;show i<R;omega
    .refine h.vl p y (jP.mpr ?_);rw[<- oW e p (grd r)];exact jP.mp hy
   .refine .inl λp=>?_;rw[oW (λe=>by cases e)]
    rcases h.br j with z |z
    .exact z p
    .rw[z p]
     exact if_neg λx=>by
      rw[getD_nil]at x;cases x
  have:=FR hn rs (i+1) (c+64*q) _ (λx hx=>hr x (bv _ hx)) (by omega) h1;rw[b9,Nat.mul_succ,show c+(64*q*rs.length+64*q)=c+64*q+64*q*rs.length by omega];exact this
variable{q:Nat}
theorem FS(hn:n<=60)(hes:es.length=n)(hr:∀r∈rs,RuK n r/\(grd r).length<=q):SpB n (64*q*rs.length) rs (spT es rs):=by
 refine⟨hes,(λb h=>nomatch h),?_,λy hy=>?_,rF _,rfl,by show((bF rs.length).map _).length=_;rw[aH,cX];rfl⟩
 .have:=FR (R:=rs.length) hn rs 0 0 [] hr (by omega) ⟨⟨da _,λp h=>nomatch h⟩,(λp y h=>nomatch h),λj=>.inl λp=>rfl⟩;rw[nA]at this;exact this
 .obtain⟨i,hi,rfl⟩:=bj.mp hy;exact m8.mpr (eY.mp hi)
theorem A3{n:Nat}{rs:List Rul}(hn:n<=60):∀(bars:List (List Pr)) (s:Spt) (c:Nat),(∀b∈bars,cO n b)->SpB n c rs s->SpB n (c+3840*bars.length) rs (bars.foldl Spt.bar s)
 | [],_,_,_,h=>h
 |b::bars,s,c,hb,h=>by
  have:=A3 hn bars (s.bar b) (c+3840) (λx hx=>hb x (bv _ hx)) (h.bar (hb b aO) hn);rw[b9,eX,show c+3840*(bars.length+1)=c+3840+3840*bars.length by omega];exact this
theorem u7:∀(bars:List (List Pr)) (s:Spt),(bars.foldl Spt.bar s).bs=s.bs++bars/\(bars.foldl Spt.bar s).es=s.es
 | [],s=>⟨(cr _).symm,rfl⟩
 |b::bars,s=>by
  obtain⟨h1,h2⟩:=u7 bars (s.bar b);refine⟨?_,h2⟩;rw[eX,h1];show s.bs++[b]++bars=_;rw[fQ];rfl
variable{bars:List (List Pr)}
theorem Pf(hn:n<=60)(hes:es.length=n)(hr:∀r∈rs,RuK n r/\(grd r).length<=q)(hz:rs.length<=250)(hb:∀b∈bars,cO n b)(hc:64*q*rs.length+3840*bars.length+3840<16777216)(hbl:bars.length<=1000)(l:Addr):
  m_8 l [pl0 v rs,.lst (bars.map bp),.lst (es.map shD)] (.ins "Spreading" [] [])=aa (((bars.foldl Spt.bar (spT es rs)).S rs).o,.non):=by
 have h0:=FS hn hes hr;apply kC;unfold b_8;show wp _ [.deep (.at l (.ins "Spreading" [] [])),.im (pl0 v rs),.im (.lst (bars.map bp)),.im (.lst (es.map shD)),.no,.no,.no] _;apply aA;refine lG (uQ (ds:=es.map shD) rfl) rfl rfl ?_;apply aA;refine lG (uQ (ds:=[]) rfl) rfl rfl ?_;apply aA;refine lG (uQ (ds:=[]) rfl) rfl rfl ?_;apply aA;refine lG rfl rfl rfl ?_;apply aA;refine lG rfl rfl rfl ?_;apply aA;refine lG (uQ (ds:=[]) rfl) rfl rfl ?_;apply aA;refine lG (EQ (bC (N3 (n:=n) (cL (aI rfl rfl rfl) rfl) (λr h=>(hr r h).1.ok) (by omega)))) rfl rfl ?_;show wp _ [.deep (.at l (sp0 es rs).o),.im (pl0 v rs),.im (.lst (bars.map bp)),.im (.lst (es.map shD)),.no,.no,.no] _;apply aA;refine N4 hn (λr h=>(hr r h).1) hz λv4 v5=>?_;show wp _ _ _;rw[Ox];refine dW bars bp (λpre U=>∃v6,U=[.deep (.at l ((pre.foldl Spt.bar (spT es rs)).S rs).o),.im (pl0 v rs),.im (.lst (bars.map bp)),.im (.lst (es.map shD)),v4,v5,v6]) rfl ⟨_,rfl⟩ ?_ ?_
 .rintro pre b post U ex ⟨v6,rfl⟩;have hp:∀x∈pre,cO n x:=λx hx=>hb x (by rw[ex];simp[hx]);have hpl:pre.length<bars.length:=by rw[ex];simp
  have okp:=A3 hn pre (spT es rs) _ hp h0;have hbl2:(pre.foldl Spt.bar (spT es rs)).bs.length=pre.length:=by rw[(u7 pre _).1];rfl
  refine⟨_,rfl,?_⟩;walk_at "nrm";refine oU (kB rfl rfl (iR (d:=bp b) rfl rfl) rfl (OK _ b okp.tw (by omega) okp.bk (hb b (by rw[ex];simp)) hn (by rw[hbl2];omega) (by rw[okp.wl,hbl2];omega))) ?_;refine⟨.im (bp b),?_⟩;rw[fE];rfl
 .rintro U ⟨v6,rfl⟩;exact⟨_,rfl,rfl,rfl⟩
theorem Pg{cn fl c':Str}{ns:LSt}{f:Xa}(h:U[i]?=aa (.deep (.ins c' ns os)))(hi:(O.ins c' ns os).isIns cn fl=ab)(hf:f U=aa (ds,ρ1))(h1:ρ1[i]?=aa (.deep (.ins c' ns os)))(hm:∀l,m l ds (.ins c' ns os)=aa (o',d)):oJ i cn fl m f U=aa (d,ρ1.set i (.deep o')):=by
 unfold oJ;rw[h];show(if (O.ins c' ns os).isIns cn fl=ab then _ else ac)=_;rw[if_pos hi,hf,aC];dsimp only;rw[h1];have hx:∃q,∀l,m l ds (.ins c' ns os)=aa q:=⟨_,hm⟩;dsimp only;rw[dif_pos hx];have:=hx.choose_spec 0;rw[hm 0]at this;rw[<- cF this]
theorem Ph{cn f:Str}(h:bu cn f (aZ i) U=aa (lsO ds,R))(hij:i≠j)(k:K (.nx ((U.set i (.deep (R .any))).set j (.own ds)))):wp (t4 i j cn f) U K:=⟨_,by
 unfold t4;rw[h,aC,rb,aC,if_neg hij],k⟩
theorem FT{cn f:Str}(h:bu cn f (aZ i) U=aa (lsO ds,R))(k:wp F (U.set i (.deep (R (.fz (.lst ds))))) K):wp (tZ i cn f F) U K:=by
 obtain⟨o,e,q⟩:=k;exact⟨o,by unfold tZ;rw[h,aC,rb,aC];exact e,q⟩
noncomputable def nh:OD->LD
 |none=>[]
 |some w=>[.tup [.non,w]]
structure FU(n:Nat)(rs:List Rul)(bars:List (List Pr))(es es':List (Option Bool))(st:LD)(w:OD):Prop where
 len:es'.length=n
 mv:Mvs rs bars es es'
 en:w≠ac->A1 rs bars es'
 sv:∀d∈st,∃(z:Pr) (w:D),d=.tup [prD z,w]/\(0<=z.1/\z.1<(n:Int))/\es'.getD z.1.toNat ac=aa z.2
 sl:st.length<16777216
noncomputable def jn(es:List (Option Bool))(rs:List Rul)(bars:List (List Pr)):Spt:=bars.foldl Spt.bar (spT es rs)
theorem Pi(hn:n<=60)(hes:es.length=n)(hr:∀r∈rs,RuK n r/\(grd r).length<=q)(hz:rs.length<=250)(hb:∀b∈bars,cO n b)(hbl:bars.length<=1000)(hc:64*q*rs.length+3840*bars.length+3840<=c)(hB:n*(c+1)+n+rs.length+bars.length<=B)(hB2:B+c<16777216):
  SpJ n c B rs (jn es rs bars)/\uN [pl0 v rs,.lst (bars.map bp),.lst (es.map shD)]=aa (.tup [.lst ((stF rs c (Me c (jn es rs bars)+1) (jn es rs bars)).2.es.map shD),.lst ((stF rs c (Me c (jn es rs bars)+1) (jn es rs bars)).2.st++nh (stF rs c (Me c (jn es rs bars)+1) (jn es rs bars)).1)]):=by
 have hr1:∀r∈rs,RuK n r:=λr h=>(hr r h).1;have hb0:=A3 hn bars _ _ hb (FS hn hes hr);obtain⟨e1,e2⟩:=u7 bars (spT es rs);have e1:(bars.foldl Spt.bar (spT es rs)).bs=bars:=e1;have e2:(bars.foldl Spt.bar (spT es rs)).es=es:=e2;have ini:=λl=>Pf (v:=v) (bars:=bars) hn hes hr hz hb (by omega) hbl l;unfold jn;generalize bars.foldl Spt.bar (spT es rs)=s at hb0 e1 e2 ini ⊢;have hop:=OO es;have hmul:gg es*(c+1)<=n*(c+1):=Nat.mul_le_mul_right _ (by omega);have okJ:SpJ n c B rs s:=⟨hb0.es,hb0.bk,⟨hb0.tw.wk.le (by omega),hb0.tw.vl,hb0.tw.br⟩,hb0.wv,hb0.ms,by rw[hb0.wl,e1,e2];omega,by rw[hb0.st,e2,length_nil];omega,λd hd=>by rw[hb0.st]at hd;cases hd⟩;refine⟨okJ,?_⟩;have mB:=okJ.mB;have k1:=A2 hr1 (by omega) (Me c s+1) s okJ (dY _);have k2:=λl=>Pe (l:=l) hr1 (by omega) hn hB2 okJ (dY _) (by show gg s.es*(c+1)+s.wt.length+1<_;omega);generalize stF rs c (Me c s+1) s=R at k1 k2 ⊢;have hst:=k1.ok.sB;apply jJ;unfold uM;show wp _ [.im (pl0 v rs),.im (.lst (bars.map bp)),.im (.lst (es.map shD)),.no,.no,.no] _;apply aA;refine K9 (NV rfl ini) ?_;show wp _ [.im (pl0 v rs),.im (.lst (bars.map bp)),.im (.lst (es.map shD)),.deep (s.S rs).o,.no,.no] _;apply aA;refine rg (Pg rfl rfl rfl rfl k2) ?_;show wp _ [.im (pl0 v rs),.im (.lst (bars.map bp)),.im (.lst (es.map shD)),.deep (R.2.S rs).o,.im (R.1.getD .non),.no] _;apply aA;refine Ph (ds:=R.2.st) rfl (by decide) ?_;walk_at "nrm";apply aA
 cases hR:R.1 with
 |none=>
  refine bw (b:=ae) rfl (λz=>by cases z) (λ_=>cp ?_);refine iN rfl ?_;refine FT (ds:=R.2.es.map shD) rfl ?_;refine il (d:=.tup [.lst (R.2.es.map shD),.lst R.2.st]) rfl (eU ?_)
  rw[show nh ac=[]from rfl,cr]
 |some w=>
  have hnn:gx w .non=aa (.bl ab):=by
   obtain⟨ds,rfl⟩:=k1.tp w hR;rfl
  refine bw (b:=ab) (b8 (aN rfl rfl hnn)) (λ_=>?_) (λz=>by cases z);refine jH (d:=.tup [.non,w]) rfl rfl (by omega) ?_;walk_at "nrm";refine iN rfl ?_;refine FT (ds:=R.2.es.map shD) rfl ?_;exact il (d:=.tup [.lst (R.2.es.map shD),.lst (R.2.st++[.tup [.non,w]])]) rfl (eU rfl)
theorem Pj(hn:n<=60)(hes:es.length=n)(hr:∀r∈rs,RuK n r/\(grd r).length<=q)(hz:rs.length<=250)(hb:∀b∈bars,cO n b)(hbl:bars.length<=1000)(hc:64*q*rs.length+3840*bars.length+3840<=c)(hB:n*(c+1)+n+rs.length+bars.length<=B)(hB2:B+c<16777216):
  ∃es' st w,uN [pl0 v rs,.lst (bars.map bp),.lst (es.map shD)]=aa (.tup [.lst (es'.map shD),.lst (st++nh w)])/\FU n rs bars es es' st w:=by
 obtain⟨okJ,e⟩:=Pi (v:=v) hn hes hr hz hb hbl hc hB hB2;refine⟨_,_,_,e,?_⟩;obtain⟨e1,e2⟩:=u7 bars (spT es rs);have e1:(jn es rs bars).bs=bars:=e1;have e2:(jn es rs bars).es=es:=e2;have k1:=A2 (λr h=>(hr r h).1) (by omega) (Me c (jn es rs bars)+1) _ okJ (dY _);have hst:=k1.ok.sB;exact⟨k1.ok.es,by have:=k1.mv;rw[e1,e2]at this;exact this,λe=>by have:=k1.en e;rw[e1]at this;exact this,k1.ok.sv,by omega⟩
def rh(r:Rul):Prop:=∀p∈r.ps,(nmP p).length<=3
theorem A4{α:Type}{xs:List α}{a b:Nat}{x:α}(h:x∈(xs.drop a).take b):x∈xs:=mem_of_mem_drop (mem_of_mem_take h)
theorem Pl(cm:Bool)(c n:Int)(n0:0<=n)(n60:n<=60):∃d,zl [.int c,.int n,.bl cm]=aa d/\∃r:Rul,d=r.toD/\r.Ok n.toNat/\r.ps.length<=3/\rh r:=by
 apply jI;unfold ui;show wp _ [.im (.int c),.im (.int n),.im (.bl cm),.no,.no] _;obtain⟨d,em,xs,rfl,hl,hx⟩:=qS c 33 (by decide) (by decide);have hl':xs.length=33:=by omega
 obtain⟨a0,h0,e0⟩:=dA (f:=D.int) (xs:=xs) (i:=0) (by decide) (by omega);obtain⟨a1,h1,e1⟩:=dA (f:=D.int) (xs:=xs) (i:=1) (by decide) (by omega);obtain⟨a2,h2,e2⟩:=dA (f:=D.int) (xs:=xs) (i:=2) (by decide) (by omega);walk_at "set";apply aA;walk_at "if0"
 .intro hb;have hn:n=0:=by simpa using hb
  subst hn;obtain⟨wd,hwd,ew⟩:=dA (f:=D.str) (xs:=["least","most"]) (i:=a0 % 2) (d7 _ (by decide)) (eK _ (by decide));have hw2:=dJ hwd;simp only[aW,cE,or_false]at hw2
  obtain⟨p,ep,hp,hp3⟩:∃p:Prt,p.toD=.tup [.str wd,.int (a1 % 3-1),.lst []]/\p.Ok 0/\(nmP p).length<=3:=by
   rcases hw2 with rfl |rfl
   .exact⟨.least (a1 % 3-1) [],rfl,⟨(λz hz=>nomatch hz),by decide⟩,da _⟩
   .exact⟨.most (a1 % 3-1) [],rfl,⟨(λz hz=>nomatch hz),by decide⟩,da _⟩
  have es:mSl (aE (ag (bE (ag (mIx (ag (kSt "least") (ag (kSt "most") nZ)) (m2 bI (mIx (ao 3) (kI 0)) (kI 2))) (ag (m2 mx (m2 bI (mIx (ao 3) (kI 1)) (kI 3)) (kI 1)) (ag (aE nZ) nZ)))) nZ)) (λ_=>aa ac) (mPt (m2 bI (mIx (ao 3) (kI 2)) (kI 6))) [.im (.int c),.im (.int 0),.im (.bl cm),.im (.lst (xs.map D.int)),.no]=aa ((([p].drop (HT.sIx [p].length 0 ac)).take (HT.sIx [p].length [p].length (aa (a2 % 6))-HT.sIx [p].length 0 ac)).map Prt.toD):=by
   refine qi (xs:=[p]) (g:=Prt.toD) ?_ rfl ?_
   .rw[bn,map_nil,ep];walk_at "ev"
   .unfold mPt;rw[show(m2 bI (mIx (ao 3) (kI 2)) (kI 6)) [.im (.int c),.im (.int 0),.im (.bl cm),.im (.lst (xs.map D.int)),.no]=aa (.int (a2 % 6)) by walk_at "ev"];rfl
  refine il (fL (ay rfl (ay rfl (ay (bC es) rfl)))) (eU ⟨⟨.never,0,_⟩,rfl,⟨λh=>absurd rfl h,λq hq=>?_,?_⟩,?_,λq hq=>?_⟩)
  .have:q=p:=by simpa using A4 hq
   rw[this];exact hp
  .show(List.take _ (List.drop _ [p])).length<=_;rw[lM,lN];show min _ (1-_)<=_;omega
  .show(List.take _ (List.drop _ [p])).length<=_;rw[lM,lN];show min _ (1-_)<=_;omega
  .have:q=p:=by simpa using A4 hq
   rw[this];exact hp3
 .intro hb;have hn:n≠0:=by simpa using hb
  have n1:1<=n:=by omega
  apply cp;walk_at "nrm";obtain⟨t,ht,et⟩:=dA (f:=D.int) (xs:=[1,1,2,2,3,0]) (i:=a0 % 6) (d7 _ (by decide)) (eK _ (by decide))
  have t3:0<=t/\t<=3:=by
   have:∀x∈([1,1,2,2,3,0]:List Int),0<=x/\x<=3:=by decide
   exact this t (dJ ht)
  obtain⟨ps,ep,lp,hp⟩:=Ar (k:=1) (js:=[1,3]) (fi:=(g4 (ag (mIx (ag (kI 1) (ag (kI 1) (ag (kI 2) (ag (kI 2) (ag (kI 3) (ag (kI 0) nZ)))))) (m2 bI (mIx (ao 3) (kI 0)) (kI 6))) nZ))) (g:=az 0) (ft:=λ_=>aa ab) (fe:=(aB uh (ag (aE (mSl (af 2) (mPt (m2 cS (kI 3) (m2 dP (kI 10) (af 0)))) (mPt (m2 cS (kI 13) (m2 dP (kI 10) (af 0)))))) (ag (af 1) nZ)))) (U:=[.im (.int c),.im (.int n),.im (.bl cm),.im (.lst (xs.map D.int)),.no]) (bF t.toNat) (λ(i:Nat)=>D.int i) Prt.toD (λp=>p.Ok n.toNat/\(nmP p).length<=3) (ls (by walk_at "ev") t3.1 (by omega)) (by rw[cX];omega) λi hi=>by
   have hi:=eY.mp hi
   have es:mSl (af 2) (mPt (m2 cS (kI 3) (m2 dP (kI 10) (af 0)))) (mPt (m2 cS (kI 13) (m2 dP (kI 10) (af 0)))) [.im (.int i),.im (.int n),.im (.lst (xs.map D.int))]=aa ((((xs.drop (HT.sIx xs.length 0 (aa (3+10*(i:Int)))))).take (HT.sIx xs.length xs.length (aa (13+10*(i:Int)))-HT.sIx xs.length 0 (aa (3+10*(i:Int))))).map D.int):=by
    refine qi rfl ?_ ?_
    .unfold mPt;rw[show(m2 cS (kI 3) (m2 dP (kI 10) (af 0))) [.im (.int i),.im (.int n),.im (.lst (xs.map D.int))]=aa (.int (3+10*(i:Int))) by walk_at "ev"];rfl
    .unfold mPt;rw[show(m2 cS (kI 13) (m2 dP (kI 10) (af 0))) [.im (.int i),.im (.int n),.im (.lst (xs.map D.int))]=aa (.int (13+10*(i:Int))) by walk_at "ev"];rfl
   obtain ⟨d,ed,p,rfl,hp,hp3⟩:=ND ((xs.drop (HT.sIx xs.length 0 (aa (3 + 10 * (i:Int))))).take (HT.sIx xs.length xs.length (aa (13 + 10 * (i:Int))) - HT.sIx xs.length 0 (aa (3 + 10 * (i:Int))))) n (by
    rw[lM,lN,show(3+10*(i:Int))=((3+10*i:Nat):Int) by omega,show(13+10*(i:Int))=((13+10*i:Nat):Int) by omega,HT.sIx_nat,HT.sIx_nat];omega) (λy hy=>hx y (A4 hy)) n1 n60
   exact⟨p,⟨hp,hp3⟩,di rfl rfl (aR (ay (bC es) (ay rfl rfl)) ed)⟩
  rw[cX]at lp;apply aA;refine bX (bC ep) ?_;walk_at "nrm";have eN:(m2 dNe (af 4) (aE nZ)) [.im (.int c),.im (.int n),.im (.bl cm),.im (.lst (xs.map D.int)),.im (.lst (ps.map Prt.toD))]=aa (.bl (!ps.isEmpty)):=aN rfl rfl (Dw _ _);apply aA;walk_at "if0"
  .intro _;walk_at "if0";exact eU ⟨⟨.never,0,ps⟩,rfl,⟨λh=>absurd rfl h,λp h=>(hp p h).1,by show ps.length<=_;omega⟩,by show ps.length<=3;omega,λp h=>(hp p h).2⟩
  .intro _;apply cp;walk_at "nrm";obtain⟨w,hw,ew⟩:=dA (f:=λw:Wrd=>D.str w.s) (xs:=[.make,.may]) (i:=a1 / 8 % 2) (d7 _ (by decide)) (eK _ (by decide));have q0:=d7 (a2 / 4) (show n≠0 by omega);have q1:=eK (a2 / 4) (show 0<n by omega);walk_at "if0";refine eU ⟨⟨w,a2 / 4 % n,ps⟩,?_,⟨λ_=>⟨q0,by show a2 / 4 % n<_;omega⟩,λp h=>(hp p h).1,by show ps.length<=_;omega⟩,by show ps.length<=3;omega,λp h=>(hp p h).2⟩;have hw2:=dJ hw;simp only[aW,cE,or_false]at hw2
   rcases hw2 with rfl |rfl <;> rfl
theorem Pn(kind k on n:Int)(hk:0<=kind)(hk5:kind<5)(k0:0<=k)(k1:k<n)(o0:0<=on)(o1:on<n):(atI [D.non,.tup [.str "in",.int k],.tup [.str "out",.int k],.tup [.str "least",.int 2,.lst [.tup [.int k,.int 2],.tup [.int on,.int 1]]],.tup [.str "most",.int 0,.lst [.tup [.int k,.int 1]]]] kind=aa .non)\/∃p:Prt,(p.Ok n.toNat/\(nmP p).length<=3)/\atI [D.non,.tup [.str "in",.int k],.tup [.str "out",.int k],.tup [.str "least",.int 2,.lst [.tup [.int k,.int 2],.tup [.int on,.int 1]]],.tup [.str "most",.int 0,.lst [.tup [.int k,.int 1]]]] kind=aa p.toD:=by
 have:kind=0\/kind=1\/kind=2\/kind=3\/kind=4:=by omega
 rcases this with rfl |rfl |rfl |rfl |rfl
 .exact .inl rfl
 .exact .inr ⟨.inn k,⟨⟨k0,by omega⟩,by show 1<=3;decide⟩,rfl⟩
 .exact .inr ⟨.out k,⟨⟨k0,by omega⟩,by show 1<=3;decide⟩,rfl⟩
 .refine .inr ⟨.least 2 [(k,2),(on,1)],⟨⟨λz hz=>?_,by show 2<=100000;decide⟩,by show 2<=3;decide⟩,rfl⟩;simp only[aW,cE,or_false]at hz
  rcases hz with rfl |rfl
  .exact⟨k0,by show k<_;omega,by show(0:Int)<=2;decide⟩
  .exact⟨o0,by show on<_;omega,by show(0:Int)<=1;decide⟩
 .refine .inr ⟨.most 0 [(k,1)],⟨⟨λz hz=>?_,by show 1<=100000;decide⟩,by show 1<=3;decide⟩,rfl⟩;have:z=(k,1):=by simpa using hz
  subst this;exact⟨k0,by show k<_;omega,by show(0:Int)<=1;decide⟩
theorem Po(kind n:Int)(hk:0<=kind)(hk5:kind<5)(n0:0<=n)(n60:n<=60):∃rs:List Rul,o_9 [.int kind,.int n]=aa (rs.map Rul.toD)/\(∀r∈rs,r.Ok n.toNat/\r.ps.length<=3/\rh r)/\rs.length<=60:=by
 have h:wp b_9 (eS 6 [.int kind,.int n]) (λo=>∃rs:List Rul,o=.rtO (rs.map Rul.toD)/\(∀r∈rs,r.Ok n.toNat/\r.ps.length<=3/\rh r)/\rs.length<=60):=by
  unfold b_9;show wp _ [.im (.int kind),.im (.int n),.no,.no,.no,.no] _;walk_at "set";apply aA
  refine dW (bF n.toNat) (λ(i:Nat)=>D.int i) (λpre U=>∃(rs:List Rul) (v3 v4 v5:Sl),U=[.im (.int kind),.im (.int n),.own (rs.map Rul.toD),v3,v4,v5]/\(∀r∈rs,r.Ok n.toNat/\r.ps.length<=3/\rh r)/\rs.length<=pre.length)
   (ls (by walk_at "ev") n0 (by omega)) ⟨[],.no,.no,.no,rfl,(λz hz=>nomatch hz),aL _⟩ ?_ ?_
  .rintro pre i post U ex ⟨rs,v3,v4,v5,rfl,hrs,hl⟩;have hi:i<n.toNat:=eY.mp (by rw[ex];simp)
   have hpl:pre.length<n.toNat:=by
    have:pre.length<(bF n.toNat).length:=by rw[ex];simp
    simpa using this
   have hn:0<n:=by omega
   have q0:=d7 ((i:Int)+1) (show n≠0 by omega);have q1:=eK ((i:Int)+1) hn;refine⟨_,rfl,?_⟩;walk_at "nrm";walk_at "set"
   rcases Pn kind i (((i:Int)+1) % n) n hk hk5 (by omega) (by omega) q0 q1 with e |⟨p,hp,e⟩
   .apply aA;refine bX (by walk_at "ev") ?_;walk_at "nrm";refine bw (b:=ae) rfl (λh=>by cases h) (λ_=>cp ?_);exact⟨rs,_,_,_,rfl,hrs,by rw[a9];exact Nat.le_succ_of_le hl⟩
   .apply aA;refine bX (by walk_at "ev") ?_;walk_at "nrm";clear e;have w0:0<=(i:Int)*kind % 5 / 4:=Int.ediv_nonneg (d7 _ (by decide)) (by decide)
    have w1:(i:Int)*kind % 5 / 4<2:=by
     have:=eK ((i:Int)*kind) (show(0:Int)<5 by decide);omega
    obtain⟨w,hw,ew⟩:=dA (f:=λw:Wrd=>D.str w.s) (xs:=[.make,.may]) (i:=(i:Int)*kind % 5 / 4) w0 w1
    refine bw (b:=ab) (b8 (aN rfl rfl (by cases p <;> rfl))) (λ_=>?_) (λh=>by cases h)
    refine jH (fL (ay (aI (by walk_at "ev") (by walk_at "ev") ew) (ay rfl (ay (bC (ay rfl rfl)) rfl)))) rfl (by rw[aH];omega) ?_;have hw2:=dJ hw;simp only[aW,cE,or_false]at hw2;refine⟨rs++[⟨w,((i:Int)+1) % n,[p]⟩],.im (.int i),.im (.int (((i:Int)+1) % n)),.im p.toD,?_,λr hr=>?_,by rw[a9,a9];exact Nat.add_le_add_right hl 1⟩
    .rw[bN]
     rcases hw2 with rfl |rfl <;> rfl
    .rcases ci.mp hr with h |h
     .exact hrs r h
     .have:r=⟨w,((i:Int)+1) % n,[p]⟩:=by simpa using h
      subst this;refine⟨⟨λ_=>⟨q0,by show((i:Int)+1) % n<_;omega⟩,λq hq=>?_,by show 1<=_;decide⟩,by show 1<=3;decide,λq hq=>?_⟩
      .have:q=p:=by simpa using hq
       subst this;exact hp.1
      .have:q=p:=by simpa using hq
       subst this;exact hp.2
  .rintro U ⟨rs,v3,v4,v5,rfl,hrs,hl⟩;rw[cX]at hl;exact oA rfl ⟨rs,rfl,hrs,by omega⟩
 obtain⟨o,e,rs,rfl,hrs,hl⟩:=h;exact⟨rs,xC e,hrs,hl⟩
theorem u8{α:Type}(f:α->Bool)(xs:List α):iK [.lst (xs.map λx=>D.bl (f x))]=aa (.bl (xs.all f)):=by
 have e:(xs.map λx=>D.bl (f x))=(xs.map f).map D.bl:=by rw[map_map];rfl
 rw[e];show(gC ((xs.map f).map D.bl)).map (λbs=>D.bl (bs.all id))=_;rw[tj,vj,rB];rfl
theorem FV{α:Type}(f:α->Bool)(xs:List α):mR [.lst (xs.map λx=>D.bl (f x))]=aa (.bl (xs.any f)):=by
 have e:(xs.map λx=>D.bl (f x))=(xs.map f).map D.bl:=by rw[map_map];rfl
 rw[e];show(gC ((xs.map f).map D.bl)).map (λbs=>D.bl (bs.any id))=_;rw[tj,vj,any_map];rfl
theorem FW(e:Option Bool)(b:Bool):dEq (shD e) (.bl b)=aa (.bl (e==aa b)):=by
 cases e with
 |none=>cases b <;> rfl
 |some c=>cases b <;> cases c <;> rfl
noncomputable def rj(es:List (Option Bool))(zs:List (Int×Bool)):Bool:=zs.all λz=>es.getD z.1.toNat ac==aa z.2
theorem Pp(xs:List Int)(n:Int)(n0:0<=n)(h:n<=(xs.length:Int)):((xs.drop (HT.sIx xs.length 0 ac)).take (HT.sIx xs.length xs.length (aa n)-HT.sIx xs.length 0 ac)).length=n.toNat:=by
 obtain⟨k,rfl⟩:∃k:Nat,n=(k:Int):=⟨n.toNat,by omega⟩;rw[show HT.sIx xs.length 0 ac=0 from rfl,HT.sIx_nat,lM,lN,fP];omega
theorem FX:∀(es:List (Option Bool)) (bs:List Bool),es.length=bs.length->dg (deq 19) (es.map shD) (bs.map D.bl)=aa (es==bs.map aa)
 | [],[],_=>rfl
 | [],_::_,h=>by cases h
 | _::_,[],h=>by cases h
 |e::es,b::bs,h=>by
  have ih:=FX es bs (by simpa using h)
  have e1:deq 19 (shD e) (.bl b)=aa (e==aa b):=by
   cases e with
   |none=>cases b <;> rfl
   |some c=>cases b <;> cases c <;> rfl
  show((deq 19 (shD e) (.bl b)).bind λx=>(dg (deq 19) (es.map shD) (bs.map D.bl)).map λr=>x && r)=_;rw[e1,ih];rfl
theorem Pq(es:List (Option Bool))(bs:List Bool)(h:es.length=bs.length):dEq (.lst (es.map shD)) (.lst (bs.map D.bl))=aa (.bl (es==bs.map aa)):=by
 show((if (es.map shD).length=(bs.map D.bl).length then dg (deq 19) (es.map shD) (bs.map D.bl) else aa ae):Option Bool).map D.bl=_;rw[if_pos (by rw[aH,aH];exact h),FX es bs h];rfl
theorem Ps(p:Prt)(h:p.Ok es.length):ud [p.toD,.lst (es.map shD)]=aa (.bl (p.sure es)):=by
 cases p with
 |inn t=>exact cK (kh (ki rfl (cW (aN (aI rfl (aI rfl rfl rfl) (f9 h.1 h.2)) rfl (lu _ _)))))
 |out t=>exact cK (fK (gA rfl rfl) (kh (ki rfl (cW (aN (aI rfl (aI rfl rfl rfl) (f9 h.1 h.2)) rfl (lu _ _))))))
 |least k its=>
  refine cK (fK (gA rfl rfl) (fK (gA rfl rfl) (kh (ki rfl (cW (aN (aR (ay (bC (g6 its itD (λz=>es.getD z.1.toNat ac==aa ab) (λz=>D.int z.2) (cL (aI rfl rfl rfl) rfl) (by have:=h.2;omega) λz hz=>?_)) rfl) (p9 (λt=>es.getD t.toNat ac==aa ab) its)) (aI rfl rfl rfl) rfl))))));have hb:=h.1 z hz
  exact fw rfl (b8 (aN (aI rfl rfl (f9 hb.1 hb.2.1)) rfl (lu _ _))) λ_=>rfl
 |most k its=>
  refine cK (fK (gA rfl rfl) (fK (gA rfl rfl) (fK (gA rfl rfl) (cW (aN (aR (ay (bC (g6 its itD (λz=>!(es.getD z.1.toNat ac==aa ae)) (λz=>D.int z.2) (cL (aI rfl rfl rfl) rfl) (by have:=h.2;omega) λz hz=>?_)) rfl) (p9 (λt=>!(es.getD t.toNat ac==aa ae)) its)) (aI rfl rfl rfl) rfl)))));have hb:=h.1 z hz;exact fw rfl (b8 (aN (aI rfl rfl (f9 hb.1 hb.2.1)) rfl (tf _ _))) λ_=>rfl
theorem Pt(r:Rul)(h:r.Ok es.length):zh [r.toD,.lst (es.map shD)]=aa (.bl (r.surely es)):=by
 have hb:∀U:LS,U=[.im r.toD,.im (.lst (es.map shD))]->(aB iK (ag (aE (aU 1 [1] (aP (mIx (ao 0) (kI 2))) (az 0) kY (aB ud (ag (af 0) (ag (af 1) nZ))))) nZ)) U=aa (.bl (r.bodySure es)):=λU e=>by
  subst e;exact aR (ay (bC (dO r.ps Prt.toD (λp=>D.bl (p.sure es)) (cL (aI rfl rfl rfl) rfl) (by have:=h.len;omega) λp hp=>di rfl rfl (aR rfl (Ps p (h.ps p hp))))) rfl) (all_map _ _)
 have hh:=h.hd;have hb:=hb _ rfl;obtain⟨w,hd,ps⟩:=r
 cases w with
 |may=>exact cK (kh (ki (wS rfl) rfl))
 |never=>exact cK (fK (gA (km rfl (p7 rfl)) rfl) (cW hb))
 |make=>
  obtain⟨h0,h1⟩:=hh (λz=>by cases z)
  have e:mB (m2 gx (mIx (ao 1) (mIx (ao 0) (kI 1))) (kBl ae)) [.im (Rul.toD ⟨.make,hd,ps⟩),.im (.lst (es.map shD))]=aa (!(es.getD hd.toNat ac==aa ae)):=
   b8 (aN (aI rfl (aI rfl rfl rfl) (f9 h0 h1)) rfl (tf _ _))
  cases hc:(es.getD hd.toNat ac==aa ae)with
  |true=>
   rw[hc]at e;refine(cK (fK (gA (km rfl (mQ rfl e)) rfl) (cW hb))).trans ?_;show _=aa (D.bl ((es.getD hd.toNat ac==aa ae) && _));rw[hc]
   rfl
  |false=>
   rw[hc]at e;refine(cK (kh (ki (km rfl (mQ rfl e)) rfl))).trans ?_;show _=aa (D.bl ((es.getD hd.toNat ac==aa ae) && _));rw[hc];rfl
theorem Pu{p q:Int->Bool}(h:∀z∈its,p z.1=q z.1):gt p its=gt q its:=by
 unfold gt;rw[filter_congr h]
theorem Pw{l:List Bool}(h:InN l.length its):bx (·==aa ab) (bs l) its=gt (λt=>l.getD t.toNat ae) its:=by
 rw[kg];refine Pu λz hz=>?_;have:=h z hz;rw[mS (by omega)]
 cases l.getD z.1.toNat ae <;> rfl
theorem FY{l:List Bool}(h:InN l.length its)(hz:its.length<=100000)(hi:fi U=aa (its.map itD))(hj:dZ 2 js U=[.no,.no,.im (.lst (l.map D.bl))]):
  aB f7 (ag (aE (aU 2 js fi (dh (bm (az 0) (bm (az 1) dE))) (b7 (mIx (ao 2) (af 0))) (af 1))) nZ) U=aa (.int (bx (·==aa ab) (bs l) its)):=by
 rw[Pw h];refine aR (ay (bC (g6 its itD (λz=>l.getD z.1.toNat ae) (λz=>D.int z.2) hi (by omega) λz hz'=>?_)) rfl) (p9 (λt=>l.getD t.toNat ae) its);rw[hj];exact fw rfl (fu (aI rfl rfl (jE (h z hz').1 (h z hz').2.1)) rfl) λ_=>rfl
variable{ws:List Bool}
theorem Px{rs:List Bool}(p:Prt)(h:p.Ok rs.length)(hw:ws.length=rs.length):zj [p.toD,.lst (rs.map D.bl),.lst (ws.map D.bl)]=aa (.bl (p.holds rs ws)):=by
 cases p with
 |inn t=>exact cK (kh (ki rfl (cW (aI rfl rfl (jE h.1 h.2)))))
 |out t=>exact cK (fK (gA rfl rfl) (kh (ki rfl (cW (CM (aI rfl rfl (jE h.1 (by rw[hw];exact h.2))))))))
 |least k its=>exact cK (fK (gA rfl rfl) (fK (gA rfl rfl) (kh (ki rfl (cW (aN (FY h.1 h.2 rfl rfl) rfl rfl))))))
 |most k its=>exact cK (fK (gA rfl rfl) (fK (gA rfl rfl) (fK (gA rfl rfl) (cW (aN (FY (by rw[hw];exact h.1) h.2 rfl rfl) rfl rfl)))))
structure A5(rs:List Rul)(ws:List Bool):Prop where
 nb:∀r∈rs,r.surely (L2.bs ws)=ae
 ng:∀g:List Bool,g.length=ws.length->(∀r∈rs,hup (L2.bs ws) g r=ae)->∀i,g.getD i ae=ab->ws.getD i ae=ae
theorem kK(ws:List Bool):(L2.bs ws).length=ws.length:=by unfold L2.bs;rw[aH]
theorem FZ(f:dF es (L2.bs ws)){b:Bool}(hi:i<ws.length)(h:es.getD i ac=aa b):ws.getD i ae=b:=by
 rcases f.at' i with q |q
 .rw[h]at q;cases q
 .rw[h,mS hi]at q;exact cF q
variable{ri:List Bool}
theorem Py{g:List Bool}{p:Prt}(h:p.Ok ws.length)(hl:p.lost (L2.bs ws) g=ab)(hr:∀i,ri.getD i ae=ab->ws.getD i ae=ab)(hg:∀i,g.getD i ae=ab->ri.getD i ae=ae)(hn:ri.length=ws.length):p.holds ri ws=ae:=by
 cases p with
 |inn t=>
  show ri.getD t.toNat ae=ae;have hl:(((L2.bs ws).getD t.toNat ac==aa ae) || g.getD t.toNat ae)=ab:=hl;rw[jp]at hl
  rcases hl with q |q
  .rw[tq h.1 h.2]at q
   cases e:ri.getD t.toNat ae with
   |false=>rfl
   |true=>rw[hr _ e]at q;cases q
  .exact hg _ q
 |out t=>
  have hl:((L2.bs ws).getD t.toNat ac==aa ab)=ab:=hl;rw[tq h.1 h.2]at hl;show(!(ws.getD t.toNat ae))=ae;rw[beq_iff_eq.mp hl]
  rfl
 |least k its=>
  have hl:=of_decide_eq_true (show decide (_<k)=ab from hl);refine decide_eq_false λq=>?_;rw[kg]at q
  have:=ox (p:=λt=>(L2.bs ri).getD t.toNat ac==aa ab) (q:=λt=>!((L2.bs ws).getD t.toNat ac==aa ae) && !(g.getD t.toNat ae)) (its:=its) λz hz=>by
   have hz:=h.1 z hz;refine⟨hz.2.2,λe=>?_⟩;rw[tq hz.1 (by rw[hn];exact hz.2.1)]at e;have e:=beq_iff_eq.mp e;show(!((L2.bs ws).getD z.1.toNat ac==aa ae) && !(g.getD z.1.toNat ae))=ab;rw[tq hz.1 hz.2.1,hr _ e]
   cases eg:g.getD z.1.toNat ae with
   |false=>rfl
   |true=>rw[hg _ eg]at e;cases e
  omega
 |most k its=>
  have hl:=of_decide_eq_true (show decide (k<_)=ab from hl);refine decide_eq_false λq=>?_;omega
theorem A6{t:Nat}{b:Bool}(f:dF es (L2.bs ws))(ht:t<ws.length)(h:ws.getD t ae=b):dF (es.set t (aa b)) (L2.bs ws):=by
 have hen:es.length=ws.length:=by rw[<- kK ws,f.len]
 refine⟨by rw[kK,gj,hen],λi=>?_⟩
 by_cases q:i=t
 .subst q;right;rw[mS ht,h,bD,ir (by omega)];rfl
 .rw[bD,iV (λe=>q e.symm),<- bD];exact f.at' i
theorem F0(ws:List Bool):ws.map D.bl=(ws.map aa).map shD:=by rw[map_map];rfl
theorem F6(n i:Nat):(gK n ae).getD i ae=ae:=by
 rw[bD,rm]
 split <;> rfl
theorem F7:∀ws:List Bool,gK ws.length (D.bl ae)=ws.map λ_=>D.bl ae
 | []=>rfl
 | _::ws=>by rw[b9,replicate_succ,F7 ws];rfl
theorem F8(xs:List Bool)(k i:Nat)(v:Bool):(xs.set k v).getD i ae=ab->(i=k/\v=ab)\/xs.getD i ae=ab:=by
 intro h
 by_cases q:i=k
 .subst q
  by_cases hl:i<xs.length
  .rw[bD,ir hl]at h;exact .inl ⟨rfl,h⟩
  .rw[bD,d8 (by rw[gj];omega)]at h;cases h
 .rw[bD,iV (λe=>q e.symm),<- bD]at h;exact .inr h
structure Ris(rs:List Rul)(ws ri:List Bool):Prop where
 len:ri.length=ws.length
 sub:∀i,ri.getD i ae=ab->ws.getD i ae=ab
 ng:∀g:List Bool,g.length=ws.length->(∀r∈rs,hup (L2.bs ws) g r=ae)->∀i,g.getD i ae=ab->ri.getD i ae=ae
theorem Ris.put(h:Ris rs ws ri){r:Rul}(hr:r∈rs)(hk:r.Ok ws.length)(hn:r.w≠.never)(hw:ws.getD r.hd.toNat ae=ab):Ris rs ws (ri.set r.hd.toNat (r.ps.all λp=>p.holds ri ws)):=by
 refine⟨by rw[gj];exact h.len,λi q=>?_,λg hg hgr i gi=>?_⟩
 .rcases F8 _ _ _ _ q with⟨rfl,_⟩ |q
  .exact hw
  .exact h.sub i q
 .cases q:(ri.set r.hd.toNat (r.ps.all λp=>p.holds ri ws)).getD i ae with
  |false=>rfl
  |true=>
   rcases F8 _ _ _ _ q with⟨rfl,ha⟩ |q
   .have hu:=hgr r hr;unfold hup at hu
    have hn':(r.w != .never)=ab:=by cases hw2:r.w <;> first |rfl |exact absurd hw2 hn
    rw[hn',gi]at hu
    have hl:r.bodyLost (L2.bs ws) g=ab:=by
     cases hb:r.bodyLost (L2.bs ws) g with
     |true=>rfl
     |false=>rw[hb]at hu;cases hu
    obtain⟨p,hp,pl⟩:=any_eq_true.mp hl;have:=Py (hk.ps p hp) pl h.sub (h.ng g hg hgr) h.len;rw[all_eq_true.mp ha p hp]at this;cases this
   .rw[h.ng g hg hgr i gi]at q;cases q
theorem F9(rs:List Rul)(n:Nat)(n60:n<=60)(hok:∀r∈rs,r.Ok n)(hz:rs.length<=1000)(ws:List Bool)(hw:ws.length=n):∃d,m_7 [.lst (rs.map Rul.toD),.lst (ws.map D.bl)]=aa d/\∃b,d=.bl b/\(b=ab->A5 rs ws):=by
 apply jI;unfold b_7;show wp _ [.im (.lst (rs.map Rul.toD)),.im (.lst (ws.map D.bl)),.no,.no,.no,.no,.no] _;apply aA;refine bw (fu (aR (ay (bC (dO rs Rul.toD (λr=>D.bl (r.surely (ws.map aa))) rfl (by omega) λr hr=>di rfl rfl (aR (ay rfl (ay rfl rfl)) ?_))) rfl) (FV _ _)) rfl) (λ_=>il rfl (eU ⟨ae,rfl,λe=>(by cases e)⟩)) (λnbr=>cp ?_)
 .rw[F0];exact Pt r (by rw[aH,hw];exact hok r hr)
 walk_at "nrm";apply aA;refine jd (d:=(gK n ae).map D.bl) ?_ ?_
 .have:(gK n ae).map D.bl=ws.map λ_=>D.bl ae:=by rw[map_replicate,<- hw];exact F7 ws
  rw[this];exact dO ws D.bl (λ_=>D.bl ae) (cL rfl rfl) (by omega) λx _=>di rfl rfl rfl
 walk_at "nrm";apply aA;refine dW (bF n) (λ(i:Nat)=>D.int i) (λ_ U=>∃(ri:List Bool) (v3 v4 v5 v6:Sl),U=[.im (.lst (rs.map Rul.toD)),.im (.lst (ws.map D.bl)),.own (ri.map D.bl),v3,v4,v5,v6]/\ri.length=n/\Ris rs ws ri) (ls (n:=(n:Int)) (ay (aR rfl (by rw[<- hw];exact iO _ _)) rfl) (by omega) (by omega)) ⟨_,_,_,_,_,rfl,nj,⟨by rw[nj,hw],λi q=>(by rw[F6]at q;cases q),λg _ _ i _=>F6 _ _⟩⟩ ?_ ?_
 .rintro pre i post U ex ⟨ri,v3,v4,v5,v6,rfl,hri,hR⟩;refine⟨_,rfl,?_⟩;walk_at "nrm";refine dW rs Rul.toD (λ_ U=>∃(ri:List Bool) (v4 v5 v6:Sl),U=[.im (.lst (rs.map Rul.toD)),.im (.lst (ws.map D.bl)),.own (ri.map D.bl),.im (.int i),v4,v5,v6]/\ri.length=n/\Ris rs ws ri) (cL rfl rfl) ⟨_,_,_,_,rfl,hri,hR⟩ ?_ ?_
  .rintro pre r post U ex ⟨ri,v4,v5,v6,rfl,hri,hR⟩;have hr:=hok r (by rw[ex];simp);refine⟨_,rfl,?_⟩;walk_at "nrm"
   by_cases hn:r.w=.never
   .have e1:mB (m2 dNe (af 4) (kSt "never")) [.im (.lst (rs.map Rul.toD)),.im (.lst (ws.map D.bl)),.own (ri.map D.bl),.im (.int i),.im (.str r.w.s),.im r.hdD,.im (.lst (r.ps.map Prt.toD))]=aa ae:=by
     rw[hn];rfl
    exact bw (b:=ae) (p7 e1) (λq=>by cases q) (λ_=>cp ⟨_,_,_,_,rfl,hri,hR⟩)
   .obtain⟨h0,h1⟩:=hr.hd hn
    have e1:mB (m2 dNe (af 4) (kSt "never")) [.im (.lst (rs.map Rul.toD)),.im (.lst (ws.map D.bl)),.own (ri.map D.bl),.im (.int i),.im (.str r.w.s),.im (.int r.hd),.im (.lst (r.ps.map Prt.toD))]=aa ab:=by
     cases hw:r.w with
     |never=>exact absurd hw hn
     |make=>rfl
     |may=>rfl
    have eh:r.hdD=.int r.hd:=by
     unfold Rul.hdD
     cases hw:r.w with
     |never=>exact absurd hw hn
     |make=>rfl
     |may=>rfl
    rw[eh];refine bw (mQ e1 (p8 (fu (aI rfl rfl (jE h0 (by rw[hw];exact h1))) rfl) (kj (fu (aI rfl rfl (jE h0 (by rw[hri];exact h1))) rfl)))) (λqc=>?_) (λ_=>cp ⟨_,_,_,_,rfl,hri,hR⟩);refine Dr (k:=r.hd) (xs:=ri.map D.bl) (d:=.bl (r.ps.all λp=>p.holds ri ws)) (aR (ay (bC (dO r.ps Prt.toD (λp=>D.bl (p.holds ri ws)) (cL rfl rfl) (by have:=hr.len;omega) λp hp=>di rfl rfl (K0 (ay rfl (ay rfl (ay rfl rfl))) (Px p (by rw[hri];exact hr.ps p hp) (by rw[hw,hri])) rfl))) rfl) (u8 _ _)) rfl rfl h0 (by rw[aH,hri];exact h1) ?_;exact⟨ri.set r.hd.toNat (r.ps.all λp=>p.holds ri ws),_,_,_,by rw[jX];rfl,by rw[gj];exact hri,hR.put (by rw[ex];simp) (by rw[hw];exact hr) hn (by rw[cg]at qc;exact qc.1)⟩
  .rintro U ⟨ri,v4,v5,v6,rfl,hri,hR⟩;exact⟨_,_,_,_,_,rfl,hri,hR⟩
 .rintro U ⟨ri,v3,v4,v5,v6,rfl,hri,hR⟩;walk_at "nrm";refine iN rfl ?_;have hrw:(ri.map aa).length=ws.length:=by rw[aH,hri,hw]
  refine il (d:=.bl (ri.map aa==ws.map aa)) (aN rfl rfl ?_) (eU ⟨_,rfl,λe=>?_⟩)
  .rw[F0 ri];exact Pq _ _ hrw
  have e:ri=ws:=by
   have e:=beq_iff_eq.mp e;exact map_inj_right (λa b h=>cF h) |>.mp e
  subst e
  exact⟨λr hr=>by
   cases q:r.surely (L2.bs ri)with
   |false=>rfl
   |true=>exact absurd (any_eq_true.mpr ⟨r,hr,q⟩) (by rw[show(rs.any λr=>r.surely (L2.bs ri))=ae from nbr];exact bd),hR.ng⟩
noncomputable def stB(rs:List Rul)(ws:List Bool):Bool:=match m_7 [.lst (rs.map Rul.toD),.lst (ws.map D.bl)]with
 |some (.bl b)=>b
 | _=>ae
theorem Pz(rs:List Rul)(n:Nat)(n60:n<=60)(hok:∀r∈rs,r.Ok n)(hz:rs.length<=1000)(ws:List Bool)(hw:ws.length=n):m_7 [.lst (rs.map Rul.toD),.lst (ws.map D.bl)]=aa (.bl (stB rs ws)):=by
 obtain⟨d,e,b,rfl,_⟩:=F9 rs n n60 hok hz ws hw;unfold stB;rw[e]
theorem PB(rs:List Rul)(n:Nat)(n60:n<=60)(hok:∀r∈rs,r.Ok n)(hz:rs.length<=1000)(ws:List Bool)(hw:ws.length=n)(h:stB rs ws=ab):A5 rs ws:=by
 obtain⟨d,e,b,rfl,hb⟩:=F9 rs n n60 hok hz ws hw;unfold stB at h;rw[e]at h;exact hb h
noncomputable def roD(r:List Bool):D:=.lst (r.map D.bl)
theorem PD(rs:List Rul)(hz:rs.length<=1000)(hp:∀r∈rs,r.ps.length<=1000):m_6 [.lst (rs.map Rul.toD)]=aa (.lst (rs.map Rul.toD)):=by
 apply jJ;unfold b_6;show wp _ [.im (.lst (rs.map Rul.toD)),.no,.no,.no,.no,.no,.no] _;walk_at "set";apply aA;refine dW rs Rul.toD (λpre U=>∃v2 v3 v4 v5 v6,U=[.im (.lst (rs.map Rul.toD)),.own (pre.map Rul.toD),v2,v3,v4,v5,v6]) rfl ⟨_,_,_,_,_,rfl⟩ ?_ ?_
 .rintro pre r post U ex ⟨v2,v3,v4,v5,v6,rfl⟩;have hr:r∈rs:=by rw[ex];simp
  have hpl:pre.length<rs.length:=by rw[ex];simp
  have hp:=hp r hr;refine⟨_,rfl,?_⟩;walk_at "nrm";apply aA;refine jd (d:=[]) rfl ?_;walk_at "nrm";apply aA;refine dW r.ps Prt.toD (λpr U=>∃v6,U=[.im (.lst (rs.map Rul.toD)),.own (pre.map Rul.toD),.im (.str r.w.s),.im r.hdD,.im (.lst (r.ps.map Prt.toD)),.own (pr.map Prt.toD),v6]) rfl ⟨_,rfl⟩ ?_ ?_
  .rintro pr p po U ex2 ⟨v6,rfl⟩;have hpp:pr.length<r.ps.length:=by rw[ex2];simp
   refine⟨_,rfl,?_⟩;walk_at "nrm";refine KW (λρ'=>ρ'=[.im (.lst (rs.map Rul.toD)),.own (pre.map Rul.toD),.im (.str r.w.s),.im r.hdD,.im (.lst (r.ps.map Prt.toD)),.own (pr.map Prt.toD),.im p.toD]) ?_ ?_
   .cases p with
    |inn t=>exact bw (b:=ae) rfl (λz=>by cases z) (λ_=>cp (k_J rfl))
    |out t=>exact bw (b:=ae) rfl (λz=>by cases z) (λ_=>cp (k_J rfl))
    |least k its=>exact bw (b:=ab) rfl (λ_=>bX (fL (ay (aI rfl rfl rfl) (ay (aI rfl rfl rfl) (ay (bC (cL (aI rfl rfl rfl) rfl)) rfl)))) (k_J rfl)) (λz=>by cases z)
    |most k its=>exact bw (b:=ab) rfl (λ_=>bX (fL (ay (aI rfl rfl rfl) (ay (aI rfl rfl rfl) (ay (bC (cL (aI rfl rfl rfl) rfl)) rfl)))) (k_J rfl)) (λz=>by cases z)
   .rintro ρ' rfl;refine jH rfl rfl (by rw[aH];omega) ?_;exact⟨.im p.toD,by rw[bN];rfl⟩
  .rintro U ⟨v6,rfl⟩;refine iN rfl ?_;refine jH (fL (ay rfl (ay rfl (ay rfl rfl)))) rfl (by rw[aH];omega) ?_;exact⟨.im (.str r.w.s),.im r.hdD,.im (.lst (r.ps.map Prt.toD)),.im (.lst (r.ps.map Prt.toD)),v6,by rw[bN];rfl⟩
 .rintro U ⟨v2,v3,v4,v5,v6,rfl⟩;exact oA rfl (gb rfl)
theorem PF(c n:Int)(n0:0<=n)(n7:n<=60):∃d,zm [.int c,.int n]=aa d/\∃es:List (Option Bool),d=.lst (es.map shD)/\(es.length:Int)=n:=by
 apply jI;unfold uj;show wp _ [.im (.int c),.im (.int n),.no] _;obtain⟨d,em,xs,rfl,hl,hx⟩:=qS c (n+1) (by omega) (by omega);apply aA;refine bX (aR (ay rfl (ay (aN rfl rfl oz) rfl)) em) ?_;walk_at "nrm";obtain⟨y,hy,ey⟩:=dA (f:=D.int) (xs:=xs) (i:=n) n0 (by omega);have hc:=Pp xs n n0 (by omega);generalize hys:(xs.drop (HT.sIx xs.length 0 ac)).take (HT.sIx xs.length xs.length (aa n)-HT.sIx xs.length 0 ac)=ys at hc
 have es:mSl (af 2) (λ_=>aa ac) (mPt (af 1)) [.im (.int c),.im (.int n),.im (.lst (xs.map D.int))]=aa (ys.map D.int):=by
  rw[<- hys];exact qi rfl rfl rfl
 apply aA;refine bw (b8 (aN (aN (aI rfl rfl ey) rfl (lz (by decide))) rfl (ow _ _))) (λ_=>?_) (λ_=>cp ?_)
 .refine g7 (dO ys D.int (λx=>D.non) (cL (bC es) rfl) (by omega) λx _=>di rfl rfl rfl) (gb ⟨ys.map λx=>ac,by rw[map_map];rfl,by rw[aH];omega⟩)
 .walk_at "nrm";refine g7 (dO ys D.int (λx=>shD ([ac,ac,ac,aa ab,aa ae].getD (x % 5).toNat ac)) (cL (bC es) rfl) (by omega) λx _=>di rfl rfl (aI rfl (aN rfl rfl (lz (by decide))) (f9 (es:=[ac,ac,ac,aa ab,aa ae]) (d7 _ (by decide)) (eK _ (by decide))))) (gb ⟨ys.map λx=>[ac,ac,ac,aa ab,aa ae].getD (x % 5).toNat ac,by rw[map_map];rfl,by rw[aH];omega⟩)
theorem PH{a n:Int}(hi:(i:Int)<n)(hj:(j:Int)<n)(h:(a+i) % n=(a+j) % n):i=j:=by
 have h1:=Int.emod_emod_of_dvd (a+i) (Int.dvd_refl n);have h2:n ∣ (a+i)-(a+j):=Int.dvd_of_emod_eq_zero (by rw[Int.sub_emod,h,Int.sub_self,Int.zero_emod]);obtain⟨k,hk⟩:=h2;have h3:(i:Int)-j=n*k:=by omega
 rcases Int.lt_trichotomy k 0 with q |q |q
 .have:n*k<=n*(-1):=A7 (by omega) (by omega);omega
 .rw[q,Int.mul_zero]at h3;omega
 .have:n*1<=n*k:=A7 (by omega) (by omega);omega
theorem PJ(c n:Int)(n0:0<=n)(n7:n<=60):∃d,ub [.int c,.int n]=aa d/\∃b:List Pr,d=bp b/\cO n.toNat b:=by
 apply jI;unfold ua;show wp _ [.im (.int c),.im (.int n),.no] _;obtain⟨d,em,xs,rfl,hl,hx⟩:=qS c 6 (by decide) (by decide);apply aA;refine bX (aR (ay rfl (ay rfl rfl)) em) ?_;walk_at "nrm";obtain⟨a0,h0,e0⟩:=dA (f:=D.int) (xs:=xs) (i:=0) (by decide) (by omega);obtain⟨a1,h1,e1⟩:=dA (f:=D.int) (xs:=xs) (i:=1) (by decide) (by omega);obtain⟨a2,h2,e2⟩:=dA (f:=D.int) (xs:=xs) (i:=2) (by decide) (by omega);apply aA
 by_cases hn:n=0
 .refine bw (b:=ab) (wS (b8 (aN rfl rfl (by rw[hn];rfl)))) (λ_=>?_) (λz=>by cases z);exact g7 (d:=[]) rfl (gb ⟨[],rfl,cO.nil _⟩)
 .have hn1:0<n:=by omega
  refine bw (b:=(a0 % 16==0)) (km (b8 (aN rfl rfl (by rw[ow,beq_false_of_ne hn]))) (b8 (aN (aN (aI rfl rfl e0) rfl (lz (by decide))) rfl (ow _ _)))) (λ_=>?_) (λ_=>cp ?_)
  .exact g7 (d:=[]) rfl (gb ⟨[],rfl,cO.nil _⟩)
  .have hm:0<(if n<3 then n else 3):=by split <;> omega
   have t0:=d7 a1 (show(if n<3 then n else 3)≠0 by omega);have t1:=eK a1 hm
   have t2:(if n<3 then n else 3)<=n:=by split <;> omega
   have t3:(if n<3 then n else 3)<=3:=by split <;> omega
   generalize ht:1+a1 % (if n<3 then n else 3)=t;have htn:t<=n/\t<=3/\0<=t:=by omega
   refine g7 (d:=((bF t.toNat).map λi:Nat=>((a2+(i:Int)) % n,xs.getD (3+(i:Int)).toNat 0 % 2==0)).map prD) ?_ (gb ⟨_,rfl,⟨λz hz=>?_,?_⟩⟩)
   .rw[map_map];refine dO (bF t.toNat) (λ(i:Nat)=>D.int i) _ (ls (n:=t) (ay (aN rfl (aN (aI rfl rfl e1) (aR (ay rfl (ay rfl rfl)) rfl) (lz hm)) (by rw[oz,ht])) rfl) htn.2.2 (by omega)) (by rw[cX];omega) λi hi=>?_;have hi:=eY.mp hi;exact di rfl rfl (fL (ay (aN (aN (aI rfl rfl e2) rfl oz) rfl (lz hn1)) (ay (aN (aN (aI rfl (aN rfl rfl oz) (mP (f:=D.int) (xs:=xs) 0 (by omega) (by omega))) rfl (lz (by decide))) rfl (ow _ _)) rfl)))
   .obtain⟨i,hi,rfl⟩:=bj.mp hz;have:=d7 (a2+(i:Int)) hn;have:=eK (a2+(i:Int)) hn1;show 0<=(a2+(i:Int)) % n/\(a2+(i:Int)) % n<(n.toNat:Int);omega
   .rw[map_map];refine pairwise_map.mpr (List.Pairwise.imp_of_mem ?_ nodup_range);intro i j hi hj hne e;have hi:=eY.mp hi;have hj:=eY.mp hj;exact hne (PH (by omega) (by omega) e)
theorem PK(r:Rul)(es:List (Option Bool))(h:∀p∈grd r,p.sure es=ab):r.surely es=ab:=by
 obtain⟨w,hd,ps⟩:=r
 cases w with
 |may=>
  have:=h (.least 1 []) aO
  cases this
 |never=>exact all_eq_true.mpr h
 |make=>
  show((es.getD hd.toNat ac==aa ae) && ps.all λp=>p.sure es)=ab;rw[cg,all_eq_true];exact⟨h (.out hd) (dX _ aO),λp hp=>h p (gh _ hp)⟩
structure jR(rs:List Rul)(bars:List (List Pr))(ws:List Bool):Prop where
 st:A5 rs ws
 ok:∀r∈rs,r.Ok ws.length
 bk:∀b∈bars,cO ws.length b
 nb:∀b∈bars,rj (L2.bs ws) b=ae
theorem jR.guard(h:jR rs bars ws)(f:dF es (L2.bs ws))(hy:y∈gys rs.length bars.length)(hs:∀p∈d6 rs bars y,p.sure es=ab):False:=by
 have hen:es.length=ws.length:=by rw[<- kK ws,f.len]
 obtain⟨a,j⟩:=y;have hj:=m8.mp hy
 cases a with
 |false=>
  have hj:j<rs.length:=hj
  have e:d6 rs bars (ae,j)=grd rs[j]:=by
   show((rs[j]?).map grd).getD []=_;rw[dk hj];rfl
  have hm:=jV hj;rw[e]at hs;have:=J7 f (by rw[hen];exact h.ok _ hm) (PK _ _ hs);rw[h.st.nb _ hm]at this
  cases this
 |true=>
  have hj:j<bars.length:=hj
  have e:d6 rs bars (ab,j)=brg bars[j]:=by
   show brg (bars.getD j [])=_;rw[bD,dk hj];rfl
  have hm:=jV hj;rw[e]at hs
  have:rj (L2.bs ws) bars[j]=ab:=by
   refine all_eq_true.mpr λz hz=>?_;have hzk:=(h.bk _ hm).nn z hz;have:=hs (brP z) (bj.mpr ⟨z,hz,rfl⟩)
   have e2:es.getD z.1.toNat ac=aa z.2:=by
    obtain⟨t,b⟩:=z
    cases b <;> exact eq_of_beq this
   rw[mS (by omega),FZ f (by omega) e2];exact beq_iff_eq.mpr rfl
  rw[h.nb _ hm]at this;cases this
theorem jR.grp(h:jR rs bars ws)(f:dF es (L2.bs ws))(g:Grp rs es wo)(i:Nat)(hi:wo.getD i ae=ab):ws.getD i ae=ae:=by
 have hen:es.length=ws.length:=by rw[<- kK ws,f.len]
 refine h.st.ng wo (by rw[g.len,hen]) (λr hr=>?_) i hi;unfold hup
 cases hw:(r.w != .never)with
 |false=>rfl
 |true=>
  cases h2:wo.getD r.hd.toNat ae with
  |false=>rfl
  |true=>
   have hm:r∈kE rs:=eA.mpr ⟨hr,hw⟩;have hb:r.bodyLost (L2.bs ws) wo=ab:=CQ (λp hp e=>CP f (qe.refl _) (by rw[hen];exact(h.ok r hr).ps p hp) e) (g.up r hm h2);rw[hb];rfl
theorem Ga:∀(ts:List Int) (es:List (Option Bool)),dF es (L2.bs ws)->(∀t∈ts,t.toNat<ws.length/\ws.getD t.toNat ae=ae)->dF (ts.foldl (λes t=>put es t.toNat ae) es) (L2.bs ws)
 | [],_,f,_=>f
 |t::ts,es,f,h=>Ga ts (put es t.toNat ae) (A6 f (h t aO).1 (h t aO).2) λx hx=>h x (bv _ hx)
theorem jR.mvs(h:jR rs bars ws)(f:dF es (L2.bs ws))(m:Mvs rs bars es es'):dF es' (L2.bs ws):=by
 induction m with
 |refl=>exact f
 | @press e1 t b y _ hy t0 t1 ho hs ih=>
  have hen:e1.length=ws.length:=by rw[<- kK ws,ih.len]
  refine A6 ih (by omega) ?_
  cases hb:(ws.getD t.toNat ae==b)with
  |true=>exact eq_of_beq hb
  |false=>
   have hb2:ws.getD t.toNat ae=!b:=by
    cases b <;> cases hx:ws.getD t.toNat ae <;> first |rfl |(rw[hx]at hb;cases hb)
   exact(h.guard (A6 ih (by omega) hb2) hy hs).elim
 | @out e1 wo _ g ho ih=>
  refine Ga (mZ wo) e1 ih λt ht=>?_;obtain⟨t0,tw⟩:=(EJ wo t).mp ht;have hen:e1.length=ws.length:=by rw[<- kK ws,ih.len]
  refine⟨?_,h.grp ih g _ tw⟩;rw[<- hen,<- g.len];refine vi λq=>?_;rw[bD,d8 q]at tw;cases tw
theorem jR.ended(h:jR rs bars ws)(f:dF es (L2.bs ws))(e:A1 rs bars es):False:=by
 rcases e with⟨y,hy,hs⟩ |⟨wo,g,i,hi,ei⟩
 .exact h.guard f hy hs
 .have hg:=h.grp f g i hi;have hen:es.length=ws.length:=by rw[<- kK ws,f.len]
  have hlt:i<ws.length:=by
   rw[<- hen,<- g.len];refine vi λq=>?_;rw[bD,d8 q]at hi;cases hi
  rw[FZ f hlt ei]at hg;cases hg
noncomputable def agB(es:List (Option Bool))(ws:List Bool):Bool:=(es.zip ws).all λz=>z.1==ac || z.1==aa z.2
theorem Gb(hl:es.length=ws.length):agB es ws=ab↔dF es (L2.bs ws):=by
 unfold agB;rw[all_eq_true];constructor
 .intro h;refine⟨by rw[kK,hl],λi=>?_⟩
  by_cases hi:i<ws.length
  .have h1:es[i]?=aa es[i]:=dk (by omega);have h2:ws[i]?=aa ws[i]:=dk hi;have hz:(es[i],ws[i])∈es.zip ws:=dJ (i:=i) (by rw[List.getElem?_zip_eq_some];exact⟨h1,h2⟩);have:=h _ hz;rw[mS hi,bD,bD,h1,h2]
   rcases(jp _ _).mp this with q |q
   .exact .inl (eq_of_beq q)
   .exact .inr (eq_of_beq q).symm
  .exact .inl (by rw[bD,d8 (by omega)];rfl)
 .intro f z hz;obtain⟨i,hi⟩:=rn hz;rw[List.getElem?_zip_eq_some]at hi;obtain⟨h1,h2⟩:=hi;have hlt:=(dH.mp h2).1
  rcases f.at' i with q |q
  .rw[bD,h1]at q;rw[show z.1=ac from q];rfl
  .rw[mS hlt,bD,bD,h1,h2]at q;rw[show z.1=aa z.2 from q.symm]
   cases z.2 <;> rfl
theorem PL{b:List Pr}(h:cO es.length b)(hz:b.length<=1000):ze [.lst (es.map shD),bp b]=aa (.bl (rj es b)):=
 cK (cW (aR (ay (bC (dO b prD (λz=>D.bl (es.getD z.1.toNat ac==aa z.2)) rfl (by omega) λz hz=>di rfl rfl (aN (aI rfl rfl (f9 (h.nn z hz).1 (h.nn z hz).2)) rfl (FW _ _)))) rfl) (u8 _ _)))
theorem PM(e:Option Bool):dIs (shD e) .non=aa (.bl (e==ac)):=by
 cases e with
 |none=>rfl
 |some b=>cases b <;> rfl
theorem Ge(hz:es.length<=1000):qH [.lst (ws.map D.bl),.lst (es.map shD)]=aa (.bl (agB es ws)):=by
 have hzz:sR (ag (af 1) (ag (af 0) nZ)) [.im (.lst (ws.map D.bl)),.im (.lst (es.map shD))]=aa ((es.zip ws).map λz=>D.tup [shD z.1,.bl z.2]):=by
  show aa (np (λa b=>D.tup [a,b]) (es.map shD) (ws.map D.bl))=_;rw[zipWith_map,List.zip,map_zipWith]
 have hl:(es.zip ws).length<=es.length:=by rw[lP];omega
 exact cK (cW (aR (ay (bC (dO (es.zip ws) (λz=>D.tup [shD z.1,.bl z.2]) (λz=>D.bl (z.1==ac || z.1==aa z.2)) hzz (by omega) λz _=>di rfl rfl (wT (aN rfl rfl (PM _)) (aN rfl rfl (FW _ _))))) rfl) (u8 _ _)))
theorem PN(n:Nat)(n7:n<=7):∃d,zc [.int n]=aa d/\∃ro:List (List Bool),d=.lst (ro.map roD)/\(∀r∈ro,r.length=n)/\ro.length<=128:=by
 apply jI;unfold uc;show wp _ [.im (.int n),.no,.no] _;apply aA;refine bX (d:=.lst ([[]].map roD)) rfl ?_;walk_at "nrm";apply aA;refine dW (bF n) (λ(i:Nat)=>D.int i) (λpre U=>∃(ro:List (List Bool)) (v2:Sl),U=[.im (.int n),.im (.lst (ro.map roD)),v2]/\(∀r∈ro,r.length=pre.length)/\ro.length<=2 ^ pre.length) (ls (n:=(n:Int)) (ay rfl rfl) (by omega) (by omega)) ⟨[[]],_,rfl,λr hr=>by rw[eM.mp hr];rfl,aL 1⟩ ?_ ?_
 .rintro pre i post U ex ⟨ro,v3,rfl,hro,hrl⟩
  have hp:pre.length<n:=by
   have:pre.length<(bF n).length:=by rw[ex];simp
   simpa using this
  have h2:2 ^ pre.length<=2 ^ 7:=Nat.pow_le_pow_right (by decide) (by omega);have hrl':ro.length<=128:=by omega
  refine⟨_,rfl,?_⟩;walk_at "nrm"
  have ec:∀b:Bool,∀f:MF1,(∀U,f U=aa (.bl b))->aU 1 [] (aP (af 1)) (az 0) kY (aE (jG (af 0) (aE (ag f nZ)))) [.im (.int n),.im (.lst (ro.map roD)),.im (.int i)]=aa ((ro.map (·++[b])).map roD):=λb f hf=>by
   rw[map_map];refine dO ro roD (λr=>roD (r++[b])) (cL rfl rfl) (by omega) λr hr=>di rfl rfl (bC ?_);rw[bN];refine As rfl (bC (ay (hf _) rfl)) ?_;rw[aH,hro r hr];show _+1<=_;omega
  refine bX (d:=.lst ((ro.map (·++[ab])++ro.map (·++[ae])).map roD)) (bC ?_) ?_
  .rw[bN];refine As (bC (ec ab _ λ_=>rfl)) (bC (ec ae _ λ_=>rfl)) ?_;simp only[aH];omega
  .refine⟨_,_,rfl,λr hr=>?_,?_⟩
   .rw[a9]
    rcases ci.mp hr with h |h
    .obtain⟨q,hq,rfl⟩:=bj.mp h;rw[a9,hro q hq];rfl
    .obtain⟨q,hq,rfl⟩:=bj.mp h;rw[a9,hro q hq];rfl
   .simp only[a9,aH,b9,length_nil];rw[Nat.pow_succ];omega
 .rintro U ⟨ro,v3,rfl,hro,hrl⟩;rw[cX]at hro hrl;have h2:2 ^ n<=2 ^ 7:=Nat.pow_le_pow_right (by decide) (by omega);exact Dx (d:=.lst (ro.map roD)) rfl (eU ⟨ro,rfl,hro,by omega⟩)
theorem PP(n7:n<=7)(hes:es.length=n)(hok:∀r∈rs,r.Ok n)(hz:rs.length<=1000)(hb:∀b∈bars,cO n b)(hbl:bars.length<=1000):∃d,zk [.lst (rs.map Rul.toD),.lst (bars.map bp),.lst (es.map shD)]=aa d/\∃ro:List (List Bool),d=.lst (ro.map roD)/\ro.length<=128/\∀ws∈ro,ws.length=n/\dF es (L2.bs ws)/\jR rs bars ws:=by
 obtain⟨d,ea,al,rfl,hal,hal2⟩:=PN n n7;apply jI;unfold ue;show wp _ [.im (.lst (rs.map Rul.toD)),.im (.lst (bars.map bp)),.im (.lst (es.map shD)),.no,.no] _;apply aA;refine jd (d:=[]) rfl ?_;walk_at "nrm";apply aA;refine dW al roD (λpre U=>∃(ro:List (List Bool)) (v4:Sl),U=[.im (.lst (rs.map Rul.toD)),.im (.lst (bars.map bp)),.im (.lst (es.map shD)),.own (ro.map roD),v4]/\ro.length<=pre.length/\∀ws∈ro,ws.length=n/\dF es (L2.bs ws)/\jR rs bars ws) (cL (aR (ay (aR rfl (by rw[iO,hes])) rfl) ea) rfl) ⟨[],_,rfl,aL _,λ_ h=>nomatch h⟩ ?_ ?_
 .rintro pre ws post U ex ⟨ro,v4,rfl,hrl,hro⟩;have hw:ws.length=n:=hal ws (by rw[ex];simp);have hpl:pre.length<al.length:=by rw[ex];simp
  refine⟨_,rfl,?_⟩;walk_at "nrm";refine bw (p8 (fu (aR (ay rfl (ay rfl rfl)) (Ge (by omega))) rfl) (kj (fu (aR (ay (bC (dO bars bp (λb=>D.bl (rj (L2.bs ws) b)) rfl (by omega) λb hbm=>di rfl rfl (aR (ay rfl (ay rfl rfl)) ?_))) rfl) (FV _ _)) rfl))) (λz=>?_) (λ_=>cp ?_)
  .have:=(hb b hbm).len;have e:=PL (es:=L2.bs ws) (b:=b) (by rw[kK,hw];exact hb b hbm) (by omega);rw[J4]at e;exact e
  .obtain⟨z1,z2⟩:=(cg _ _).mp z;refine bw (fu (aR (ay rfl (ay rfl rfl)) (Pz rs n (by omega) hok hz ws hw)) rfl) (λq=>?_) (λ_=>cp ?_)
   .refine jH (d:=roD ws) rfl rfl (by rw[aH];omega) ?_;refine⟨ro++[ws],.im (roD ws),by rw[bN];rfl,by rw[a9,a9];exact vh hrl,λx hx=>?_⟩
    rcases ci.mp hx with u |u
    .exact hro x u
    .rw[eM.mp u];refine⟨hw,(Gb (by rw[hes,hw])).mp z1,⟨PB rs n (by omega) hok hz ws hw q,by rw[hw];exact hok,by rw[hw];exact hb,λb hbm=>?_⟩⟩
     cases hf:rj (L2.bs ws) b with
     |false=>rfl
     |true=>rw[any_eq_true.mpr ⟨b,hbm,hf⟩]at z2;cases z2
   .exact⟨ro,_,rfl,by rw[a9];omega,hro⟩
  .exact⟨ro,_,rfl,by rw[a9];omega,hro⟩
 .rintro U ⟨ro,v4,rfl,hrl,hro⟩;exact oA (d:=ro.map roD) rfl (gb ⟨ro,rfl,by omega,hro⟩)
theorem PQ(xs:LD)(d:D):atI (xs++[d]) (-1)=aa d:=by
 unfold atI ixN;rw[if_neg (by decide),if_pos (by rw[a9,fD];omega),aC,a9,fD,kL (by omega)];rw[show((-1:Int)+((xs.length+1:Nat):Int)).toNat-xs.length=0 by omega];rfl
theorem PR{st:LD}{w:OD}(h:FU n rs bars es es' st w):(st++nh w=[]/\w=ac)\/∃xs a b,st++nh w=xs++[.tup [a,b]]/\((a=.non/\w≠ac)\/((∃z,a=prD z)/\w=ac)):=by
 cases w with
 |some x=>exact .inr ⟨st,.non,x,rfl,.inl ⟨rfl,λe=>by cases e⟩⟩
 |none=>
  rw[show nh ac=[]from rfl,cr]
  rcases eq_nil_or_concat st with e |⟨xs,d,e⟩
  .exact .inl ⟨e,rfl⟩
  .have e:st=xs++[d]:=by rw[e,concat_eq_append]
   obtain⟨z,w,ed,_⟩:=h.sv d (by rw[e];simp);exact .inr ⟨xs,prD z,w,by rw[e,ed],.inr ⟨⟨z,rfl⟩,rfl⟩⟩
theorem PU(xs:LD)(d:D):dNe (.lst (xs++[d])) (.lst [])=aa (.bl ab):=by cases xs <;> rfl
theorem PV(ns:List Int)(hns:ns.length<=63):m_0 [.kl (ns.map D.int)]=aa (.bl ab):=by
 apply jJ;unfold b_0;show wp _ [.im (.kl (ns.map D.int)),.no,.no,.no,.no,.no,.no,.no,.no,.no] _;obtain⟨c0,k0⟩:=Aq ns 0 (by decide);obtain⟨c1,k1⟩:=Aq ns 1 (by decide);obtain⟨c2,k2⟩:=Aq ns 2 (by decide);obtain⟨d,em,hs,rfl,hl,hx⟩:=qS c0 4 (by decide) (by decide);obtain⟨a0,h0,e0⟩:=dA (f:=D.int) (xs:=hs) (i:=0) (by decide) (by omega);obtain⟨a1,h1,e1⟩:=dA (f:=D.int) (xs:=hs) (i:=1) (by decide) (by omega);obtain⟨a2,h2,e2⟩:=dA (f:=D.int) (xs:=hs) (i:=2) (by decide) (by omega);obtain⟨a3,h3,e3⟩:=dA (f:=D.int) (xs:=hs) (i:=3) (by decide) (by omega);walk_at "set";walk_at "set";have b0:0<=a0 % 13:=d7 _ (by decide);have b1:a0 % 13<13:=eK _ (by decide);have b2:0<=a3 % 5:=d7 _ (by decide);have b3:a3 % 5<5:=eK _ (by decide);generalize hn:(a0 % 13+2) / 3=n;have n0:0<=n:=by omega
 have n4:n<=4:=by omega
 have n60:n<=60:=by omega
 obtain⟨rs0,er0,hr0,hl0⟩:=Po (a1 % 5) n (d7 _ (by decide)) (eK _ (by decide)) n0 n60;apply aA;refine jd (xB (by walk_at "ev") er0) ?_;walk_at "nrm";have hcl:=length_take_le' (HT.sIx ns.length ns.length (aa 63)-HT.sIx ns.length 0 (aa 3)) (ns.drop (HT.sIx ns.length 0 (aa 3)));rw[lN]at hcl;generalize hcs:(ns.drop (HT.sIx ns.length 0 (aa 3))).take (HT.sIx ns.length ns.length (aa 63)-HT.sIx ns.length 0 (aa 3))=cs at hcl;apply aA;refine dW cs D.int (λpre U=>∃(rs:List Rul) (v4:Sl),U=[.im (.kl (ns.map D.int)),.im (.lst (hs.map D.int)),.im (.int n),.own (rs.map Rul.toD),v4,.no,.no,.no,.no,.no]/\(∀r∈rs,r.Ok n.toNat/\r.ps.length<=3/\rh r)/\rs.length<=60+pre.length) (by rw[<- hcs];exact cL (bC (Dv rfl rfl rfl)) rfl) ⟨rs0,_,rfl,hr0,by simpa using hl0⟩ ?_ ?_
 .rintro pre c post U ex ⟨rs,v4,rfl,hrs,hlr⟩;have hpl:pre.length<cs.length:=by rw[ex];simp
  obtain⟨d,er,r,rfl,hr,hr3,hrf⟩:=Pl (a2 % 2==0) c n n0 n60;refine⟨_,rfl,?_⟩;walk_at "nrm";refine jH (aR (ay rfl (ay rfl (ay (aN (aN (aI rfl rfl e2) rfl (lz (by decide))) rfl (ow _ _)) rfl))) er) rfl (by rw[aH];omega) ?_;refine⟨rs++[r],.im (.int c),by rw[bN];rfl,λq hq=>?_,by rw[a9,a9];show _+1<=60+(_+1);omega⟩
  rcases ci.mp hq with h |h
  .exact hrs q h
  .have:q=r:=by simpa using h
   subst this;exact⟨hr,hr3,hrf⟩
 .rintro U ⟨rs,v4,rfl,hrs,hlr⟩;walk_at "nrm";obtain⟨d,esh,es,rfl,hes⟩:=PF c1 n n0 n60;apply aA;refine bX (aR (by walk_at "ev") esh) ?_;walk_at "nrm";obtain⟨d,em2,ys,rfl,hly,hy⟩:=qS c2 (a3 % 5) b2 (by omega)
  obtain⟨bars,eb,lb,hb⟩:=Ar (k:=1) (js:=[2]) (fi:=(aP (aB m_2 (ag (aB oR (ag (af 0) (ag (kI 2) nZ))) (ag (m2 bI (mIx (ao 1) (kI 3)) (kI 5)) nZ))))) (g:=az 0) (ft:=λ_=>aa ab) (fe:=(aB ub (ag (af 0) (ag (af 1) nZ)))) (U:=[.im (.kl (ns.map D.int)),.im (.lst (hs.map D.int)),.im (.int n),.own (rs.map Rul.toD),v4,.im (.lst (es.map shD)),.no,.no,.no,.no]) ys D.int bp (λb=>cO n.toNat b) (cL (aR (by walk_at "ev") em2) rfl) (by omega) λy _=>by
   obtain⟨d,e,b,rfl,hb⟩:=PJ y n n0 n60;exact⟨b,hb,di rfl rfl (aR (ay rfl (ay rfl rfl)) e)⟩
  apply aA;refine bX (bC eb) ?_;walk_at "nrm";have hen:es.length=n.toNat:=by omega
  have hrk:∀r∈rs,RuK n.toNat r/\(grd r).length<=4:=λr hr=>by
   obtain⟨r1,r2,r3⟩:=hrs r hr;refine⟨⟨r1,λp hp=>by have:=r3 p hp;omega,by omega⟩,?_⟩;obtain⟨w,hd,ps⟩:=r;have r2:ps.length<=3:=r2
   cases w with
   |may=>exact(by decide:1<=4)
   |make=>show(ps++[Prt.out hd]).length<=4;rw[a9,fD];omega
   |never=>show ps.length<=4;omega
  have hbl:bars.length<=4:=by omega
  obtain⟨cc,hcc⟩:∃c:Nat,c=100000:=⟨_,rfl⟩;obtain⟨BB,hBB⟩:∃c:Nat,c=1000000:=⟨_,rfl⟩;have hnc:n.toNat*(cc+1)<=4*(cc+1):=Nat.mul_le_mul_right _ (by omega);have hrl:64*4*rs.length<=64*4*123:=Nat.mul_le_mul_left _ (by omega);obtain⟨es',st,w,esp,ok⟩:=Pj (v:=n) (q:=4) (c:=cc) (B:=BB) (bars:=bars) (by omega) hen hrk (by omega) hb (by omega) (by omega) (by omega) (by omega);have ecp:=PD rs (by omega) (λr hr=>by have:=(hrs r hr).2.1;omega);apply aA;refine iN rfl ?_;refine bX (d:=.lst [pl0 n rs,.lst (bars.map bp),.lst (es.map shD)]) (bC (ay (fL (ay rfl (ay (aR rfl ecp) rfl))) (ay (bC (dO bars bp bp rfl (by omega) λb _=>di rfl rfl (bC rfl))) (ay (bC rfl) rfl)))) ?_;walk_at "nrm";apply aA;refine bX (aR (ay (aI rfl rfl rfl) (ay (aI rfl rfl rfl) (ay (aI rfl rfl rfl) rfl))) esp) ?_;walk_at "nrm";apply aA;refine bw (b:=ae) (km (kj (b:=ab) rfl) (km (b8 (b:=ae) rfl) (kj (b:=ab) rfl))) (λz=>by cases z) (λ_=>cp ?_);walk_at "nrm";apply aA;refine bw (b:=ae) (km (kj (b:=ab) rfl) (b8 (aN (aR (ay (aI rfl rfl rfl) rfl) (iO es' shD)) rfl (by rw[ok.len,show((n.toNat:Nat):Int)=n by omega];show aa (D.bl (!(n==n)))=_;rw[beq_self_eq_true];rfl)))) (λz=>by cases z) (λ_=>cp ?_);walk_at "nrm";obtain⟨d,elf,ro,rfl,hro,hgood⟩:=PP (n:=n.toNat) (rs:=rs) (bars:=bars) (by omega) hen (λr hr=>(hrs r hr).1) (by omega) hb (by omega);have hful:∀ws∈ro,dF es' (L2.bs ws):=λws hw=>(hgood ws hw).2.2.mvs (hgood ws hw).2.1 ok.mv
  have hall:aB iK (ag (aE (aU 1 [8] (aP (af 9)) (az 0) kY (aB qH (ag (af 0) (ag (mIx (ao 1) (kI 0)) nZ))))) nZ) [.im (.kl (ns.map D.int)),.im (.lst (hs.map D.int)),.im (.int n),.im (.lst (rs.map Rul.toD)),v4,.im (.lst (es.map shD)),.im (.lst (bars.map bp)),.im (.lst [pl0 n rs,.lst (bars.map bp),.lst (es.map shD)]),.im (.tup [.lst (es'.map shD),.lst (st++nh w)]),.im (.lst (ro.map roD))]=aa (.bl ab):=by
   refine aR (ay (bC (dO ro roD (λws=>D.bl (agB es' ws)) rfl (by omega) λws _=>di rfl rfl (aR (ay rfl (ay (aI rfl rfl rfl) rfl)) (Ge (by rw[ok.len];omega))))) rfl) ((u8 _ _).trans ?_);rw[all_eq_true.mpr λws hw=>(Gb (by rw[ok.len,(hgood ws hw).1])).mpr (hful ws hw)]
  rcases PR ok with⟨eL,ew⟩ |⟨xs,a,b,eL,hab⟩
  .rw[eL]at hall ⊢;apply aA;refine bw (b:=ae) (p7 (b8 (aN (aI rfl rfl rfl) rfl rfl))) (λz=>by cases z) (λ_=>cp ?_);walk_at "nrm";apply aA;refine iN rfl ?_;refine bX (aR (ay rfl (ay rfl (ay rfl rfl))) elf) ?_;walk_at "nrm";apply aA;refine bw (b:=ae) (p7 (b8 (aN (aI rfl rfl rfl) rfl rfl))) (λz=>by cases z) (λ_=>cp ?_);walk_at "nrm";exact il hall (eU rfl)
  .rw[eL]at hall ⊢;have hne:=PU xs (.tup [a,b]);have hla:=PQ xs (.tup [a,b]);apply aA;refine bw (b:=ae) (mQ (b8 (aN (aI rfl rfl rfl) rfl hne)) (km (kj (b:=ab) (fu (by unfold mL;rw[aI (cL (aI rfl rfl rfl) rfl) rfl hla];rfl) rfl)) (b8 (aN (aR (ay (aI (cL (aI rfl rfl rfl) rfl) rfl hla) rfl) rfl) rfl rfl)))) (λz=>by cases z) (λ_=>cp ?_);walk_at "nrm";apply aA;refine iN rfl ?_;refine bX (aR (ay rfl (ay rfl (ay rfl rfl))) elf) ?_;walk_at "nrm";apply aA
   rcases hab with⟨rfl,hw⟩ |⟨⟨z,rfl⟩,hw⟩
   .refine bw (b:=ab) (mQ (b8 (aN (aI rfl rfl rfl) rfl hne)) (b8 (aN (aI (cL (aI (cL (aI rfl rfl rfl) rfl) rfl hla) rfl) rfl rfl) rfl rfl))) (λ_=>?_) (λz=>by cases z)
    have hnil:ro=[]:=by
     cases ro with
     |nil=>rfl
     |cons ws ro=>exact((hgood ws aO).2.2.ended (hful ws aO) (ok.en hw)).elim
    subst hnil;exact il (d:=.bl ab) rfl (eU rfl)
   .refine bw (b:=ae) (mQ (b8 (aN (aI rfl rfl rfl) rfl hne)) (b8 (aN (aI (cL (aI (cL (aI rfl rfl rfl) rfl) rfl hla) rfl) rfl rfl) rfl rfl))) (λz=>by cases z) (λ_=>cp ?_);walk_at "nrm";exact il hall (eU rfl)
def sp_law(K:aX):Sp:=λvs H Q _=>∃(a:Addr) (ns:List Int),vs=[.ref a]/\SqL K H a (ns.map V.int)/\ns.length<=63/\∀H',Q (.bl ab) H'
variable{K:aX}
theorem sp_law_of{H:Hp}{a:Addr}{E:XK}(hl:ns.length<=63)(hS:SqL K H a (ns.map V.int)):sp_law K [.ref a] H (λv _=>v=.bl ab) E:=⟨a,ns,rfl,hS,hl,λ_=>rfl⟩
variable{w:World}
theorem law_ok{a:Wa}(W:Wd K mg a):df P w K mg base CX0 9 a.e_0.1 a.e_0.2 ["_law_script"] (sp_law K):=(Ny W).ok.imp λvs H Q E ⟨a,ns,ev,hS,hl,k⟩=>
 ⟨H,[.kl (ns.map D.int)],.bl ab,aw.refl _,⟨.ref a,[],ev,⟨a,_,rfl,hS,am.ints ns⟩,rfl⟩,rfl,PV ns hl,λv Hf' H' x r=>by rw[show v=V.bl ab from r];exact k H'⟩
variable{P:LVa->Prop}
theorem u9(h:P []):∀us:LVa,us.length=0->P us:=λus e=>by
 rw[eq_nil_of_length_eq_zero e];exact h
theorem jS(h:∀a (us:LVa),us.length=n->P (a::us)):∀us:LVa,us.length=n+1->P us:=λus e=>by
 cases us with
 |nil=>cases e
 |cons a us=>exact h a us (Nat.succ.inj e)
theorem Gf(h:∀a0:Value,P [a0]):∀us:LVa,us.length=1->P us:=jS (P:=λus=>P (us)) λa0=>u9 (h a0)
theorem PY(h:∀a0 a1:Value,P [a0,a1]):∀us:LVa,us.length=2->P us:=jS (P:=λus=>P (us)) λa0=>jS (P:=λus=>P (a0::us)) λa1=>u9 (h a0 a1)
theorem PZ(h:∀a0 a1 a2:Value,P [a0,a1,a2]):∀us:LVa,us.length=3->P us:=jS (P:=λus=>P (us)) λa0=>jS (P:=λus=>P (a0::us)) λa1=>jS (P:=λus=>P (a0::a1::us)) λa2=>u9 (h a0 a1 a2)
theorem P0(h:∀a0 a1 a2 a3:Value,P [a0,a1,a2,a3]):∀us:LVa,us.length=4->P us:=jS (P:=λus=>P (us)) λa0=>jS (P:=λus=>P (a0::us)) λa1=>jS (P:=λus=>P (a0::a1::us)) λa2=>jS (P:=λus=>P (a0::a1::a2::us)) λa3=>u9 (h a0 a1 a2 a3)
local macro_rules | `(tactic| walk_at "bd")=>`(tactic| exact λ_ _ _ _ _ _=>by first | exact Gf λ_=>rfl | exact PY λ_ _=>rfl | exact PZ λ_ _ _=>rfl | exact P0 λ_ _ _ _=>rfl)
set_option autoImplicit true in
theorem all_mk{h:Heap}{fd_5 fd_35 fd_36 fd_20 fd_12 fd_47 fd_21 fd_22 fd_1 fd_24 fd_48 fd_64 fd_13 fd_14 fd_15 fd_2 fd_25 fd_16 fd_26 fd_9 fd_6 fd_45 fd_49 fd_50 fd_27 fd_37 fd_51 fd_7 fd_23 fd_28 fd_29 fd_0 fd_65 fd_38 fd_52 fd_53 fd_54 fd_30 fd_55 fd_39 fd_56 fd_57 fd_58 fd_31 fd_66 fd_40 fd_59 fd_60 fd_41 fd_32 fd_67 fd_42 fd_61 fd_62 fd_43 fd_33 fd_8 fd_10 fd_44 fd_11 fd_34 fd_17 fd_18 fd_19 fd_4 fd_3 fd_63 fd_46:eB}{fa:Addr}(X:K.In h)(G:h.Ns cG mg)(hfa:mg "law"=aa (.ref fa))
 (aC_In:eQ K cG "In"=aa (aa (.ref C_In)))
 (aC_Out:eQ K cG "Out"=aa (aa (.ref C_Out)))
 (aC_Least:eQ K cG "Least"=aa (aa (.ref C_Least)))
 (aC_Most:eQ K cG "Most"=aa (aa (.ref C_Most)))
 (aC_Spreading:eQ K cG "Spreading"=aa (aa (.ref C_Spreading)))
 (q_5:Dq K "marks" s_5 f_5 fd_5)
 (q_35:Dq K "part_of" xT f_35 fd_35)
 (q_36:Dq K "things_of" xU f_36 fd_36)
 (q_20:Dq K "worth_in" xV f_20 fd_20)
 (q_12:Dq K "worth_not_out" xX f_12 fd_12)
 (q_47:Dq K "outside" xY f_47 fd_47)
 (q_21:Dq K "heavy" xZ f_21 fd_21)
 (q_22:Dq K "weights_of" x6 f_22 fd_22)
 (q_1:Dq K "body_of" s_1 f_1 fd_1)
 (q_24:Dq K "guard_of" x8 f_24 fd_24)
 (q_48:Dq K "guard_of_bar" x9 f_48 fd_48)
 (q_64:Dq K "pressed_by" ya f_64 fd_64)
 (q_13:Dq K "lost_part" yb f_13 fd_13)
 (q_14:Dq K "spread" yc f_14 fd_14)
 (q_15:Dq K "_law_cell_at" yd f_15 fd_15)
 (q_2:Dq K "_law_mixed" s_2 f_2 fd_2)
 (q_25:Dq K "_law_worth" yf f_25 fd_25)
 (q_16:Dq K "_law_part" yg f_16 fd_16)
 (q_26:Dq K "_law_rule" yh f_26 fd_26)
 (q_9:Dq K "_law_ring" s_9 f_9 fd_9)
 (q_6:Dq K "_law_copy" s_6 f_6 fd_6)
 (q_45:Dq K "_law_part_sure" yi f_45 fd_45)
 (q_49:Dq K "_law_broken" yj f_49 fd_49)
 (q_50:Dq K "_law_fits" ym f_50 fd_50)
 (q_27:Dq K "_law_bar" yn f_27 fd_27)
 (q_37:Dq K "_law_sheet" yo f_37 fd_37)
 (q_51:Dq K "_law_holds" yp f_51 fd_51)
 (q_7:Dq K "_law_stands" s_7 f_7 fd_7)
 (q_23:Dq K "_law_all" yq f_23 fd_23)
 (q_28:Dq K "_law_agrees" yr f_28 fd_28)
 (q_29:Dq K "_law_left" yt f_29 fd_29)
 (q_0:Dq K "law" s_0 f_0 fd_0)
 (q_65:Dp K C_In "__init__" "In.__init__" yu f_65 fd_65)
 (q_38:Dp K C_In "named" "In.named" yv f_38 fd_38)
 (q_52:Dp K C_In "wants" "In.wants" yw f_52 fd_52)
 (q_53:Dp K C_In "sure" "In.sure" yx f_53 fd_53)
 (q_54:Dp K C_In "tips" "In.tips" yy f_54 fd_54)
 (q_30:Dp K C_In "lost" "In.lost" yA f_30 fd_30)
 (q_55:Dp K C_Out "__init__" "Out.__init__" yB f_55 fd_55)
 (q_39:Dp K C_Out "named" "Out.named" yC f_39 fd_39)
 (q_56:Dp K C_Out "wants" "Out.wants" yD f_56 fd_56)
 (q_57:Dp K C_Out "sure" "Out.sure" yE f_57 fd_57)
 (q_58:Dp K C_Out "tips" "Out.tips" yF f_58 fd_58)
 (q_31:Dp K C_Out "lost" "Out.lost" yG f_31 fd_31)
 (q_66:Dp K C_Least "__init__" "Least.__init__" yH f_66 fd_66)
 (q_40:Dp K C_Least "named" "Least.named" yI f_40 fd_40)
 (q_59:Dp K C_Least "wants" "Least.wants" yJ f_59 fd_59)
 (q_60:Dp K C_Least "sure" "Least.sure" yK f_60 fd_60)
 (q_41:Dp K C_Least "tips" "Least.tips" yL f_41 fd_41)
 (q_32:Dp K C_Least "lost" "Least.lost" yM f_32 fd_32)
 (q_67:Dp K C_Most "__init__" "Most.__init__" yN f_67 fd_67)
 (q_42:Dp K C_Most "named" "Most.named" yO f_42 fd_42)
 (q_61:Dp K C_Most "wants" "Most.wants" yP f_61 fd_61)
 (q_62:Dp K C_Most "sure" "Most.sure" yQ f_62 fd_62)
 (q_43:Dp K C_Most "tips" "Most.tips" yR f_43 fd_43)
 (q_33:Dp K C_Most "lost" "Most.lost" yS f_33 fd_33)
 (q_8:Dp K C_Spreading "__init__" "Spreading.__init__" s_8 f_8 fd_8)
 (q_10:Dp K C_Spreading "take_guard" "Spreading.take_guard" yT f_10 fd_10)
 (q_44:Dp K C_Spreading "take_bar" "Spreading.take_bar" yU f_44 fd_44)
 (q_11:Dp K C_Spreading "drop_wider" "Spreading.drop_wider" yV f_11 fd_11)
 (q_34:Dp K C_Spreading "put" "Spreading.put" yW f_34 fd_34)
 (q_17:Dp K C_Spreading "settle" "Spreading.settle" yX f_17 fd_17)
 (q_18:Dp K C_Spreading "look_round" "Spreading.look_round" yY f_18 fd_18)
 (q_19:Dp K C_Spreading "put_loose_out" "Spreading.put_loose_out" yZ f_19 fd_19)
 (q_4:Dp K C_Spreading "loose_marks" "Spreading.loose_marks" s_4 f_4 fd_4)
 (q_3:Dp K C_Spreading "kernel" "Spreading.kernel" s_3 f_3 fd_3)
 (q_63:Dp K C_Spreading "lost_parts" "Spreading.lost_parts" y3 f_63 fd_63)
 (q_46:Dp K C_Spreading "keeping" "Spreading.keeping" y4 f_46 fd_46)
 (pg_In:j7 K C_In nK=ab)
 (hd_In:k4 K C_In=ab)
 (po_In:me K C_In=ab)
 (sa_In:cQ K (.ref C_In) "__setattr__"=aa (aa (.builtin "object.__setattr__")))
 (mk_In:mf K C_In=ab)
 (kc_In:i0 K (.ref C_In)=ab)
 (na_In_thing:cQ K (.ref C_In) "thing"=aa ac)
 (pg_Out:j7 K C_Out nK=ab)
 (hd_Out:k4 K C_Out=ab)
 (po_Out:me K C_Out=ab)
 (sa_Out:cQ K (.ref C_Out) "__setattr__"=aa (aa (.builtin "object.__setattr__")))
 (mk_Out:mf K C_Out=ab)
 (kc_Out:i0 K (.ref C_Out)=ab)
 (na_Out_thing:cQ K (.ref C_Out) "thing"=aa ac)
 (pg_Least:j7 K C_Least nK=ab)
 (hd_Least:k4 K C_Least=ab)
 (po_Least:me K C_Least=ab)
 (sa_Least:cQ K (.ref C_Least) "__setattr__"=aa (aa (.builtin "object.__setattr__")))
 (mk_Least:mf K C_Least=ab)
 (kc_Least:i0 K (.ref C_Least)=ab)
 (na_Least_bound:cQ K (.ref C_Least) "bound"=aa ac)
 (na_Least_pieces:cQ K (.ref C_Least) "pieces"=aa ac)
 (pg_Most:j7 K C_Most nK=ab)
 (hd_Most:k4 K C_Most=ab)
 (po_Most:me K C_Most=ab)
 (sa_Most:cQ K (.ref C_Most) "__setattr__"=aa (aa (.builtin "object.__setattr__")))
 (mk_Most:mf K C_Most=ab)
 (kc_Most:i0 K (.ref C_Most)=ab)
 (na_Most_bound:cQ K (.ref C_Most) "bound"=aa ac)
 (na_Most_pieces:cQ K (.ref C_Most) "pieces"=aa ac)
 (pg_Spreading:j7 K C_Spreading nK=ab)
 (hd_Spreading:k4 K C_Spreading=ab)
 (po_Spreading:me K C_Spreading=ab)
 (sa_Spreading:cQ K (.ref C_Spreading) "__setattr__"=aa (aa (.builtin "object.__setattr__")))
 (mk_Spreading:mf K C_Spreading=ab)
 (kc_Spreading:i0 K (.ref C_Spreading)=ab)
 (na_Spreading_sheet:cQ K (.ref C_Spreading) "sheet"=aa ac)
 (na_Spreading_steps:cQ K (.ref C_Spreading) "steps"=aa ac)
 (na_Spreading_bars:cQ K (.ref C_Spreading) "bars"=aa ac)
 (na_Spreading_guards:cQ K (.ref C_Spreading) "guards"=aa ac)
 (na_Spreading_watches:cQ K (.ref C_Spreading) "watches"=aa ac)
 (na_Spreading_waiting:cQ K (.ref C_Spreading) "waiting"=aa ac)
 (na_Spreading_makers:cQ K (.ref C_Spreading) "makers"=aa ac)
 (z_all:eQ K cG "all"=aa ac)
 (z_any:eQ K cG "any"=aa ac)
 (z_enumerate:eQ K cG "enumerate"=aa ac)
 (z_isinstance:eQ K cG "isinstance"=aa ac)
 (z_len:eQ K cG "len"=aa ac)
 (z_list:eQ K cG "list"=aa ac)
 (z_min:eQ K cG "min"=aa ac)
 (z_range:eQ K cG "range"=aa ac)
 (z_set:eQ K cG "set"=aa ac)
 (z_sorted:eQ K cG "sorted"=aa ac)
 (z_sum:eQ K cG "sum"=aa ac)
 (z_tuple:eQ K cG "tuple"=aa ac)
 (z_zip:eQ K cG "zip"=aa ac)
 (is_list:pT K "list")
 (is_tuple:pT K "tuple")
  : ∃a:Wa,∃W:Wd K mg a,a.e_0.1=fa/\∀(s:ai) (v:Value),BindsTo s a.e_0.2 ⟨[v],[]⟩ [("_law_script",v)]:=by
 have e:=hfa.symm.trans (W.mg_of X G q_0.a);cases e;have hc:∃cl:Str->Addr,C_In=cl "In" /\ C_Out=cl "Out" /\ C_Least=cl "Least" /\ C_Most=cl "Most" /\ C_Spreading=cl "Spreading":=⟨λs=>if s="In" then C_In else if s="Out" then C_Out else if s="Least" then C_Least else if s="Most" then C_Most else if s="Spreading" then C_Spreading else 0,by dsimp only;rw[if_pos rfl],by dsimp only;rw[if_neg (by decide +kernel)];rw[if_pos rfl],by dsimp only;rw[if_neg (by decide +kernel)];rw[if_neg (by decide +kernel)];rw[if_pos rfl],by dsimp only;rw[if_neg (by decide +kernel)];rw[if_neg (by decide +kernel)];rw[if_neg (by decide +kernel)];rw[if_pos rfl],by dsimp only;rw[if_neg (by decide +kernel)];rw[if_neg (by decide +kernel)];rw[if_neg (by decide +kernel)];rw[if_neg (by decide +kernel)];rw[if_pos rfl]⟩;obtain⟨cl,rfl,rfl,rfl,rfl,rfl⟩:=hc
 exact⟨{
  e_5:=(f_5,fd_5),e_35:=(f_35,fd_35),e_36:=(f_36,fd_36),e_20:=(f_20,fd_20),e_12:=(f_12,fd_12),e_47:=(f_47,fd_47),e_21:=(f_21,fd_21),e_22:=(f_22,fd_22),e_1:=(f_1,fd_1),e_24:=(f_24,fd_24),e_48:=(f_48,fd_48),e_64:=(f_64,fd_64),e_13:=(f_13,fd_13),e_14:=(f_14,fd_14),e_15:=(f_15,fd_15),e_2:=(f_2,fd_2),e_25:=(f_25,fd_25),e_16:=(f_16,fd_16),e_26:=(f_26,fd_26),e_9:=(f_9,fd_9),e_6:=(f_6,fd_6),e_45:=(f_45,fd_45),e_49:=(f_49,fd_49),e_50:=(f_50,fd_50),e_27:=(f_27,fd_27),e_37:=(f_37,fd_37),e_51:=(f_51,fd_51),e_7:=(f_7,fd_7),e_23:=(f_23,fd_23),e_28:=(f_28,fd_28),e_29:=(f_29,fd_29),e_0:=(f_0,fd_0),e_65:=(f_65,fd_65),e_38:=(f_38,fd_38),e_52:=(f_52,fd_52),e_53:=(f_53,fd_53),e_54:=(f_54,fd_54),e_30:=(f_30,fd_30),e_55:=(f_55,fd_55),e_39:=(f_39,fd_39),e_56:=(f_56,fd_56),e_57:=(f_57,fd_57),e_58:=(f_58,fd_58),e_31:=(f_31,fd_31),e_66:=(f_66,fd_66),e_40:=(f_40,fd_40),e_59:=(f_59,fd_59),e_60:=(f_60,fd_60),e_41:=(f_41,fd_41),e_32:=(f_32,fd_32),e_67:=(f_67,fd_67),e_42:=(f_42,fd_42),e_61:=(f_61,fd_61),e_62:=(f_62,fd_62),e_43:=(f_43,fd_43),e_33:=(f_33,fd_33),e_8:=(f_8,fd_8),e_10:=(f_10,fd_10),e_44:=(f_44,fd_44),e_11:=(f_11,fd_11),e_34:=(f_34,fd_34),e_17:=(f_17,fd_17),e_18:=(f_18,fd_18),e_19:=(f_19,fd_19),e_4:=(f_4,fd_4),e_3:=(f_3,fd_3),e_63:=(f_63,fd_63),e_46:=(f_46,fd_46),cl:=cl},{
  g_In:=W.mg_of X G aC_In,
  cl_In:=⟨pg_In,hd_In,po_In,sa_In⟩,
  mk_In:=⟨mk_In,q_65.a,q_65.i,kc_In⟩,
  na_In_thing:=na_In_thing,
  g_Out:=W.mg_of X G aC_Out,
  cl_Out:=⟨pg_Out,hd_Out,po_Out,sa_Out⟩,
  mk_Out:=⟨mk_Out,q_55.a,q_55.i,kc_Out⟩,
  na_Out_thing:=na_Out_thing,
  g_Least:=W.mg_of X G aC_Least,
  cl_Least:=⟨pg_Least,hd_Least,po_Least,sa_Least⟩,
  mk_Least:=⟨mk_Least,q_66.a,q_66.i,kc_Least⟩,
  na_Least_bound:=na_Least_bound,
  na_Least_pieces:=na_Least_pieces,
  g_Most:=W.mg_of X G aC_Most,
  cl_Most:=⟨pg_Most,hd_Most,po_Most,sa_Most⟩,
  mk_Most:=⟨mk_Most,q_67.a,q_67.i,kc_Most⟩,
  na_Most_bound:=na_Most_bound,
  na_Most_pieces:=na_Most_pieces,
  g_Spreading:=W.mg_of X G aC_Spreading,
  cl_Spreading:=⟨pg_Spreading,hd_Spreading,po_Spreading,sa_Spreading⟩,
  mk_Spreading:=⟨mk_Spreading,q_8.a,q_8.i,kc_Spreading⟩,
  na_Spreading_sheet:=na_Spreading_sheet,
  na_Spreading_steps:=na_Spreading_steps,
  na_Spreading_bars:=na_Spreading_bars,
  na_Spreading_guards:=na_Spreading_guards,
  na_Spreading_watches:=na_Spreading_watches,
  na_Spreading_waiting:=na_Spreading_waiting,
  na_Spreading_makers:=na_Spreading_makers,
  z_all:=hX X G z_all,
  z_any:=hX X G z_any,
  z_enumerate:=hX X G z_enumerate,
  z_isinstance:=hX X G z_isinstance,
  z_len:=hX X G z_len,
  z_list:=hX X G z_list,
  z_min:=hX X G z_min,
  z_range:=hX X G z_range,
  z_set:=hX X G z_set,
  z_sorted:=hX X G z_sorted,
  z_sum:=hX X G z_sum,
  z_tuple:=hX X G z_tuple,
  z_zip:=hX X G z_zip,
  e_5:=q_5.mk2 X G,
  e_35:=q_35.mk2 X G,
  e_36:=q_36.mk2 X G,
  e_20:=q_20.mk2 X G,
  e_12:=q_12.mk2 X G,
  e_47:=q_47.mk2 X G,
  e_21:=q_21.mk2 X G,
  e_22:=q_22.mk2 X G,
  e_1:=q_1.mk2 X G,
  e_24:=q_24.mk2 X G,
  e_48:=q_48.mk2 X G,
  e_64:=q_64.mk2 X G,
  e_13:=q_13.mk2 X G,
  e_14:=q_14.mk2 X G,
  e_15:=q_15.mk2 X G,
  e_2:=q_2.mk2 X G,
  e_25:=q_25.mk2 X G,
  e_16:=q_16.mk2 X G,
  e_26:=q_26.mk2 X G,
  e_9:=q_9.mk2 X G,
  e_6:=q_6.mk2 X G,
  e_45:=q_45.mk2 X G,
  e_49:=q_49.mk2 X G,
  e_50:=q_50.mk2 X G,
  e_27:=q_27.mk2 X G,
  e_37:=q_37.mk2 X G,
  e_51:=q_51.mk2 X G,
  e_7:=q_7.mk2 X G,
  e_23:=q_23.mk2 X G,
  e_28:=q_28.mk2 X G,
  e_29:=q_29.mk2 X G,
  e_0:=q_0.mk2 X G,
  e_65:=q_65.mk2,
  e_38:=q_38.mk2,
  e_52:=q_52.mk2,
  e_53:=q_53.mk2,
  e_54:=q_54.mk2,
  e_30:=q_30.mk2,
  e_55:=q_55.mk2,
  e_39:=q_39.mk2,
  e_56:=q_56.mk2,
  e_57:=q_57.mk2,
  e_58:=q_58.mk2,
  e_31:=q_31.mk2,
  e_66:=q_66.mk2,
  e_40:=q_40.mk2,
  e_59:=q_59.mk2,
  e_60:=q_60.mk2,
  e_41:=q_41.mk2,
  e_32:=q_32.mk2,
  e_67:=q_67.mk2,
  e_42:=q_42.mk2,
  e_61:=q_61.mk2,
  e_62:=q_62.mk2,
  e_43:=q_43.mk2,
  e_33:=q_33.mk2,
  e_8:=q_8.mk2,
  e_10:=q_10.mk2,
  e_44:=q_44.mk2,
  e_11:=q_11.mk2,
  e_34:=q_34.mk2,
  e_17:=q_17.mk2,
  e_18:=q_18.mk2,
  e_19:=q_19.mk2,
  e_4:=q_4.mk2,
  e_3:=q_3.mk2,
  e_63:=q_63.mk2,
  e_46:=q_46.mk2,
  is_list:=is_list,
  is_tuple:=is_tuple},rfl,q_0.bt (λ_ _ _ _ _ _=>Gf λ_=>rfl)⟩
end N_k37
structure PySem.W.Fast:Prop where
 (te5704759068411019292 te10531270182609656389 te256271910378766253 te2789042532122450144 te2217115475510163008 te2692321961713749018 te5268529553817208203 te4808437616927147670 te16078886011216800255 te13085534348312035665 te11909619460396226246 te4887504417153377612 te7689948347871957594 te2475495631049058231 te17456031261980416089 te1061502840211672474 te10334012599589171450 te1027201067022067916 te15847162860444616510 te2793840335815016675 te4756867661912917996 te16978725176044738728 te1279485878269831227 te12094429202688650549 te5220731063490344843 te18421559196414139235 te416569550982373616 te4436567715722918175 te8808307349811946153 te10556696108457799068 te2662423115348586903 te13224013146336811234 te1927388867972278540 te7466665137948104997 te16816135126500079142 te15182899533227999618 te17686773085566615419 te9905011311024819769 te6734965220964367806 te7205911494372167376 te17348664141222940746 te7255255195497254300 te6054082683149041226 te14511054924526045191 te17292850742001041446 te1954701193695404220 te14278513594665568605 te8392727994235619550 te17831334225595816117 te1326156203340818911 te8221539990239797348 te7599427024403901622 te2252504589035750293 te1530707946572050353 te8390676289804820953 te11219977412524099682 te4837683876988629932 te11674166075936302392 te13563024683180153033 te15884639614894851028 te42014540222360316 te16698420958771736538 te2268910524910242990 te6742659480645378062 te16005231735546734358 te8959848516182323610 te16529342923860438180 te3179144168214366471 te8647840970698776295 te5452176223734643017 te4279814388123837861 te13424894438867037727 te15876738011068538690 te4854394066348260721 te14096398452940266936 te1828341181647854536 te13223587467230732593 te1438713780954805626 te3380176858172099997 te17732365556657363687 te14732760970541471609 te3335944626585244686 te9466802451081517788 te7001800781139835684 te16415093838879636162 te6669745889644103152 te2176073267592128256 te2196488531767641861 te1543036623044153528 te3555394967081097907 te11822063866733288730 te13851895940775827615 te7970047878176522648 te12768509069530511015 te17787739537547112715 te3176585669331683187 te9391419167244242758 te8506927870370113457 te17911378529587068764 te3232677723560857726 te1299713419960990596 te5690386994960363969 te5658005042767788443 te4310859142941617157 te18047056774861337530 te6401685675224145772 te10060010332487191011 te1971205998176688771 te5488449282238303943 te1060587585278211550 te5657388227422159297 te17735552068091040550 te8419810611435655857 te2899300602355969461 te16810871965134364187 te10142562730527469399 te17205034990122234230 te6401183596398865623 te14482099233912401542 te15734408761477205672 te15112684766449326863 te11653383472092160267 te4682805073133499480 te2790479921040362518 te1297539989843958256 te834542299974854807 te16514518653742460036 te6777112967930052476 te18243157683471812053 te10843516810926475684 te10280644921518236990 te6725920583126365884 te13608669051388452039 te13665683225397834568 te8031886580733922233 te10811948761675805008 te866463257712270017 te6386877748690041150 te7753570384182216170 te16028530965997794449 te14072148285410322411 te14746507548467334092 te16095137330628499249 te10567083283592266631 te3324683702696891452 te3933342562044464862 te6438571590816478744 te877912523735286334 te14454532465243690793 te16855519430379123316 te12730544285001281432 te5051925653297848593 te17481807193032660931 te13707899537198362190 te6774585113955855882 te13672148284023837777 te11333750698245256983 te7670985012117171909 te6293451691465973250 te6692924901905688723 te13456452526982929148 te11716956360584816080 te17572744791843630717 te6829734620211089958 te17482158672953432937 te532993167252967272 te1326473663758163473 te5110324944207284381 te7628889942536702794 te7597930455263186274 te8660286016404547635 te2021040785555362896 te17919495243432904909 te12464066251766271009 te1026139808288020736 te10257115983877964624 te11223666501656095759 te8915933957532631319 te13222803712493719086 te11503992226933494140 te4604151595391200069 te7824716327820161037 te6598086674362499729 te8031828319727574632 te17143227003048238514 te12737611313155017662 te17811796708429656741 te8419750791178009056 te2296838148417054713 te15943425416473766727 te16706277951587096261 te1055383596029028519 te14340719532426827384 te3396818345903892295 te17843929045883930861 te5803288880579343579 te13446064081233401502 te8333235023920489166 te13402257029658419688 te15354306706009804887 te15010448881660903700 te5189715023374340906 te729978864211919020 te3472391311164152152 te18245062826143847618 te12784148875427315577 te9489315118898657217 te13417017732326981418 te16094997346784904437 te17859831759891791765 te17328618932778815252 te13881630302413214471 te2099137834937390395 te5802847162737025509 te16766110662566410766 te7272376777783875757 te2055630612492841778 te14320286662701509608 te2554797712243489211 te11233046886936617181 te4212999395651714225 te9066874700698251103 te18334574427374810130 te10994110656709175577 te6531778588737229545 te7599559919111294105 te8460008549665964822 te15571017065139567325 te8363344290630211869 te15473493075150401810 te5639639555092715322 te12918169872065120084 te9922640347181298874 te378140861384999104 te1263853110578986711 te11565343821626060658 te16960792385862707468 te16101447504513833259 te2105119127469542874 te127981056567350832 te11963138663984066672 te192347541592086389 te15435032234994893902 te8543405643028953732 te16842872213777171960 te15356734606289046483 te707603196364980882 te16834610673986460157 te14710057655570776989 te11409742661000344043 te7642864786644331181 te16163039488093366301 te12164963919844565051 te9124976795490282808 te15822077150548283304 te6684222954299791412 te17883380102334945739 te11662840735799373615 te6953399816322740671 te463076714306343859 te17299001316142750103 te12897041765631091427 te11011014762402644779 te15144554889348907397 te4592264951388802247 te395661848573150476 te13630258745220916670 te1196704921277209166 te6528503121669964307 te14889339611895845756 te3251034418549031830 te10791797445205026750 te16581277613991087189 te16249794846249171502 te17423809689130283982 te6646751596987376808 te782361937146105267 te12800058896981632836 te7287810382955422537 te584238854300510181 te4305604380160638920 te17273460366249291135 te17037112712450649676 te1639562460754253804 te16110454409351698313 te15937353482124207138 te14730994381781451394 te13886393517338009769 te13432857026713868935 te13200626567495015392 te12913296332899871776 te10487471585733173667 te9537299944712059736 te9205950092125656044 te3677985609141314519 te12265311819507336348 te467476032506245754 te10783434155215596447 te4227562327612240860 te12011533338500058204 te2824341969837683228 te16566076229442568650 te13036503414727590161 te1271245994729751031 te10087108848294544045 te1339782903853742607 te9138710944142508108 te4504551412164432972 te4121427293984463807 te2623217103529785725 te2423296489743895645 te15678846382734514643 te9572131550585438368 te1388762382977408549 te11783291336572898342 te8459529250745865090 te843759747078026062 te29469754880090729 te2263540937517782340 te1924006442951969891 te17076359534163808852 te11692023953918339426 te11130381317875611233 te9545305181378217322 te6380554038530595491 te2996106813483160582 te16537352157931447499 te16155257823787223908 te13016349944236903087 te944905011476941022 te2049136515748889782 te13341974041121271091 te8534352125108270516 te16320983929193522967 te4159476895743272531 te15062401051941645784 te1124513329820811993 te17843956349503613271 te7061209425653765726 te44201577972580945 te4251046228699210073 te5044032925561346747 te15890108342813508248 te12535882258969860558 te5780272268524803311 te5040294469181914521 te3086130440535489281 te7912756088809374187 te2968265079800183446 te12280894457741221539 te8376218027170366969 te2717894376246359959 te4027576554783666492 te1483812581209855962 te2292691876984703029 te14809971205173359279 te5742329028765292264 te9411210898965087704 te13717590763174693276 te1097458404446444104 te9808286002258887306 te7187427689079598768 te6607416833166614656:True)
open PySem PySem.W PyProof.Rows
set_option maxRecDepth 100000 in
set_option maxHeartbeats 0 in
theorem PySem.Challenge.cw_standstill_k37_whole_no_world_lost_holds : PySem.Challenge.rw_standstill_k37_whole_no_world_lost.Holds := by
 w_on; o_law; k_head; (case hw=>w_witness2)
 k_fill
 refine L2.walk_ofK (l:=PySem.Challenge.rw_standstill_k37_whole_no_world_lost) (n:=63) (k:=9) (x:="_law_script") (CX:=L2.CX0) (sp:=N_k37.sp_law) rfl (by decide) rfl ⟨rfl,by decide,by decide⟩ (fun w h Y=>PySem.W.kIn_of Y) ?F (fun _ _ a ns hl _ hS=>N_k37.sp_law_of hl hS) (fun _ _ _ _ z=>z)
 case F =>
  intro w mg fa h KX G hmg
  have TT : ∃ a : N_k37.Wa,∃ W : N_k37.Wd (L2.KOf KX) mg a,a.e_0.1=fa /\ ∀ (s:Shared) (v:Value),BindsTo s a.e_0.2 ⟨[v],[]⟩ [("_law_script",v)]:=by
   dsimp only [L2.KOf]
   refine' N_k37.all_mk KX G hmg ..
   all_goals first | k_is | kit_is | k_exc | exact ⟨by k_is,L2.fun_mk (by k_is) (by k_is) (by k_is)⟩ | exact ⟨by k_is,by k_is,L2.fun_mk (by k_is) (by k_is) (by k_is)⟩ | (intro t ht; simp only [List.mem_cons,List.not_mem_nil,or_false] at ht; rcases ht with rfl | rfl | rfl | rfl | rfl | rfl | rfl <;> kit_is) | skip
  obtain ⟨a,W,e1,hb⟩:=TT
  subst e1
  exact ⟨_,hb,fun base kb nb=>N_k37.law_ok W⟩
