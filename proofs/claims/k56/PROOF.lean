import PyProof.Rows.All
import Wide.All
import OpenK.AllK
import Wide.FinOn
import Lean
import PyProof.EqAt
import PyProof.EqKinds
import PyProof.TupleCall
import PyProof.NeKinds
import PySem.Challenge.RW_standstill_k56_turned_about
set_option Elab.async false
def L2.rc:Nat->Lean.Term->Lean.MacroM (Lean.TSyntax `rcasesPat)
|0,_=>Lean.Macro.throwUnsupported
|n+1,t=>do
 let b:=match t with|`(($a,$b,*))=>#[a]++b.getElems|`(⟨$b,*⟩)=>b.getElems|_=>#[]
 if b.size>0 then
  let l<-b.mapM fun x=>do let y<-rc n x;`(Lean.Parser.Tactic.rcasesPatLo|$y:rcasesPat)
  return<-`(rcasesPat|⟨$l,*⟩)
 match t with|`($i:ident)=>`(rcasesPat|$i:ident)|_=>`(rcasesPat|_)
set_option genSizeOf false
set_option linter.all false
set_option compiler.extract_closed false
set_option bootstrap.genMatcherCode false
local macro_rules
|`(def $d:declId $b* :$t $v:declVal)=>`(theorem $d $b* :$t $v:declVal)
|`(nonrec def $d:declId $s:optDeclSig $v:declVal)=>`(@[reducible] noncomputable def $d $s:optDeclSig $v:declVal)
|`(abbrev $d:declId $s:optDeclSig $v:declVal)=>`(noncomputable def $d $s:optDeclSig $v:declVal)
|`(def $d:declId $v:declVal)=>`(noncomputable def $d $v:declVal)
local macro_rules
|`(tactic|have $p:term:=$e)=>do let q<-L2.rc 9 p;`(tactic|obtain $q:rcasesPat:=$e)
|`(tactic|show%$s $e)=>if s.getHeadInfo matches .original .. then `(tactic|refine $e)else Lean.Macro.throwUnsupported
local macro_rules
|`((%$s $a,$b,*))=>if b.elemsAndSeps.size%2=1&&s.getHeadInfo matches .original .. then `(⟨$a,$b,*⟩)else Lean.Macro.throwUnsupported
set_option maxRecDepth 100000
open Array renaming length_toList->iQ,getElem?_eq_getElem->lU,getElem?_toList->pY,getD->pZ,toList_push->wu
open Bool renaming true->ac,false->af,false_ne_true->bG,and_eq_true->cB,eq_iff_iff->jT,or_eq_true->jU,and_true->p7,true_and->p8,noConfusion->sL,or_true->p9,and_false->sM,or_false->sN
open Classical renaming byContradiction->ww
open False renaming elim->gU
open ForInStep renaming yield->nO
open Int renaming toNat_natCast->dF,emod_nonneg->dG,emod_lt_of_pos->fY,ne_of_gt->sO
open List renaming mem_cons_self->az,getD_eq_getElem?_getD->bH,getElem?_eq_getElem->b6,length_map->aA,length_append->aR,mem_cons_of_mem->bh,getElem?_eq_some_iff->cU,mem_singleton->bw,mem_append_left->bT,mem_append_right->cg,getElem?_map->cH,map_append->a9,mem_append->bu,mem_map->aJ,mem_cons->aZ,range->bO,append_nil->bQ,mem_of_getElem?->dH,append_assoc->cI,getElem?_cons_succ->gV,length_cons->cr,length_range->cV,nodup_cons->b7,mem_filter->ci,getElem?_eq_none->ig,map_cons->bF,not_mem_nil->dq,length_singleton->fZ,zip_cons_cons->e7,getElem?_set_self->jV,length_filter_le->gW,foldl_append->eE,getElem_mem->ij,nodup_append->e8,replicate->gX,getElem?_append_left->lV,mem_reverse->e9,getElem?_set_ne->kK,length_reverse->ik,getElem?_append_right->nP,reverse_reverse->iR,getElem?_replicate->nQ,foldl_cons->fH,mem_range->fI,reverse_cons->iS,nodup_nil->fJ,getElem?_of_mem->nR,length_replicate->lW,length_set->il,filter_append->kL,reverse_append->lX,any_cons->gx,pairwise_cons->lY,filter_cons_of_pos->qb,append_of_mem->lZ,cons_append->kM,getElem_toArray->sP,filter_sublist->nU,ext_getElem?->l5,zipWith->nV,lookup_cons->l6,findIdx_lt_length_of_exists->wx,map_set->gY,map_reverse->l7,length_eq_zero_iff->sQ,filterMap_cons->qc,take_of_length_le->sR,zipWith_cons_cons->sS,set_cons_succ->qd,getElem?_range->wz,pairwise_append->sT,findIdx_cons->qe,length_zip->nW,nil_append->nX,mem_of_find?_eq_some->wA,sublist_append_left->wB,all_cons->l8,set_cons_zero->sU
open List.Nodup renaming sublist->wC
open List.Pairwise renaming map->wE,sublist->DH
open List.Perm renaming append_left->wF,refl->sV,cons->wG
open List.Sublist renaming refl->qf
open List.cons renaming inj->qg
open Nat renaming le_refl->aL,lt_succ_self->c6,ne_of_lt->bW,zero_le->cj,le_trans->cN,lt_of_lt_of_le->fh,le_of_lt->fj,not_lt_zero->io,lt_irrefl->gy,lt_succ_of_lt->jW,lt_of_le_of_lt->l9,le_of_not_lt->nY,le_succ->jX,ne_of_gt->kO,zero_add->kP,lt_trans->ma,succ_pos->qh,mul_le_mul_right->wH,min_self->sW
open Ne renaming symm->eG
open Option renaming some->aa,none->ab,bind_some->ay,bind_eq_some_iff->sX,isSome_iff_exists->wI
open Option.some renaming inj->c9
open Or renaming inr->bA,inl->bX
open Prod.mk renaming inj->sY
open PyProof.Rows renaming callWith_type1->jY,firstMet->eI,callWith_builtin1->wJ,IntsAre->f6,envOfC->f7,AllBare->jZ,boot_list->n4
open PySem renaming wpAny_bind->aj,wpAny_pure->aD,Shared->ah,starEach->aN,sizeLine->aS,mainGlobals->cC,sizeLine_eq->du,compareOp->cW,wpAny_Call_Name_kw->iT,builtinLookup_eq_fast->j4,wpAny_newObj_type->iU,FuncData->cO,Program->cb,wpAny_call_entry->jA,wpAny_mono->fK,wpAny_callSpecial?_slot->n6,foldedSetIterable->kS,backTo->ce,codeAny_builtin->j5,typeLookup_type->j6,rawInt->cm,wpAny_holding->jB,keywordEach->ip,sysModules->gZ,swapsWith->f8,bootBuiltins->jC,Around->b8,binaryOp->fL,wpAny_setField_rec->n8,wpAny_passesOwn->me,getMethod->g4,behindInMarks->kU,wpAny_truthy_bool->n9,assignEach->iV,NameKind->f9,mem_of_lookup->qi,wpAny_setState_of->oa,holding->eJ,isSubtype_type->mf,wpAny_setEntries_of->qj,codeAny_mono->kX,intKind->fM,wpAny_loadPart'->sZ,tupleKind_room_in1->qk,plainId_quiet->mh,backToKw->iq,standAt->gz,codeAny->gA,wpAny_isInstance->qm,attributeBase->oe,wpAny_attempt->oh,wpAny_rule->kZ,Spec->JX,sliceBounds->mi,Builtin->eK,callWith->jD,firstArgMember->qo,typeLookup->mj,scanBound->k4,pickOrder->iW,wpAny_execs_nil->s9,pyNext->g6,wpAny_specialOf->tf,wpAny_updateSeq->tj,codeAny_call_builtin->wK,wpAny_fieldsOf->tm,wpAny_seqItems->tq,wpAny_of_eq->qp,Paired->g7,SetTable->dz,relayAll->ml,entryFor->mn
open PySem.Around renaming in1_units->qr
open PySem.Builtin.Int renaming intBits->tu
open PySem.Builtin.List renaming listSameRef->tz,listExtendWith->wL,listLengthHint->DJ,listTooLong->DK
open PySem.Calls renaming spliced_cons->iX,callWith_builtin->wM,evalArgs_plain->wN,spliced_nil->wO
open PySem.F renaming plainAttrs_list->jE,called_set->k5,slot_list_reversed->wP,slot_list_append->wQ,type_list_append->wR,slot_list_extend->wT,type_list_extend->wU,slot_dict_get->wV,slot_dict_setdefault->DM
open PySem.Heap renaming get?_push_of_some->bx,get?_push_size->cP,lt_size->bz,size_push->iY,SameBut->ga,get?_update_other->oi,get?_update_self->oj
open PySem.Heap.SameBut renaming update->om
open PySem.NameKind renaming free->fN,cell->mo
open PySem.Obj renaming mapSeq->g8
open PySem.Paired renaming length->oq
open PySem.PassesOwn renaming never->dJ
open PySem.SeqAt renaming EqAt->cu
open PySem.SeqAt.EqAt renaming int_str->wW,str_int->wX,same->wY
open PySem.SetTable renaming below->cD,grown->ot
open PySem.SetTable.below renaming go->tB
open PySem.Shared renaming TypeIs->tE
open PySem.Str renaming empty->ou,ofString->tF
open PySem.Value renaming ref->eM,type->j7,bool->k6,none->mq
open PySem.W renaming Frag->aQ,findIn->cq,mg_none_of->iu,keepIn->gb,kia_one->iZ,nsIn->dY,plainGet->j8,hasDictIn->k7,emptyDict->k8,plainOver->mr,instObj->k9,makesIn->mw,mg_of->j9,fnOf->i0
open Sum renaming inl->iw
open Sum.inl renaming inj->tG
open True renaming intro->ix
nonrec abbrev LB0:=List Bool
nonrec abbrev LI0:=List Int
nonrec abbrev LII:=List (Int×Int)
nonrec abbrev LOB:=List (Option Bool)
nonrec abbrev PRS:=PySem.Value->PySem.Shared->Prop
nonrec abbrev MGT:=PySem.Str->Option PySem.Value
nonrec abbrev PNS:=List (PySem.Addr×PySem.Obj)
nonrec abbrev LN:=List Nat
nonrec abbrev L2N:=List LN
nonrec abbrev LSt:=List PySem.Str
nonrec abbrev LVa:=List PySem.Value
nonrec abbrev LAd:=List PySem.Addr
nonrec abbrev LEx:=List PySem.Expr
namespace L2
open List
open PySem PySem.Spec PyProof.Rows
nonrec def Key:=Sum Int Str
abbrev lc:Key->Value->Bool
 |.inl k,v=>Value.isInt k v
 |.inr x,v=>Value.isStrOf x v
abbrev DN(w:World):Key->Int
 |.inl k=>hashInt k
 |.inr x=>hashStr w x
def i4:∀{k:Key} {v:Value},lc k v=ac->(∃i t,k=iw i/\v=Value.int i t)\/(∃x t,k=Sum.inr x/\v=Value.str x t)
 |.inl i,v,h=>by
  have(t,e):=Value.isInt_shape h
  show .inl (i,t,rfl,e)
 |.inr x,v,h=>by
  have(t,e):=Value.isStrOf_shape h;show .inr (x,t,rfl,e)
def DQ(i:Int)(t:Tok):lc (.inl i) (.int i t)=ac:=by simp[lc,Value.isInt]
def DR(x:Str)(t:Tok):lc (.inr x) (.str x t)=ac:=by simp[lc,Value.isStrOf]
def tH(a b:Int):decide ((iw a:Key)=iw b)=(a==b):=by grind
def DU(a b:Str):decide ((Sum.inr a:Key)=Sum.inr b)=decide (a=b):=by grind
def wZ(a:Int)(b:Str):decide ((iw a:Key)=Sum.inr b)=af:=decide_eq_false (λq=>nomatch q)
def w5(a:Str)(b:Int):decide ((Sum.inr a:Key)=iw b)=af:=decide_eq_false (λq=>nomatch q)
abbrev lg(prog:cb)(w:World):PySem.KeyKind prog w Key where
 is:=lc
 hash:=DN w
 inj:=λv a b ha hb=>by
  rcases i4 ha with⟨i,t,rfl,rfl⟩ |⟨x,t,rfl,rfl⟩
  .rcases i4 hb with⟨j,u,rfl,e⟩ |⟨y,u,rfl,e⟩
   .injection e with e1 _;rw[e1]
   .show nomatch e
  .rcases i4 hb with⟨j,u,rfl,e⟩ |⟨y,u,rfl,e⟩
   .show nomatch e
   .injection e with e1 _;rw[e1]
 byValue:=λk v h=>by
  rcases i4 h with⟨i,t,rfl,rfl⟩ |⟨x,t,rfl,rfl⟩ <;> rfl
 pyHash:=λhv h=>by
  rcases i4 hv with⟨i,t,rfl,rfl⟩ |⟨x,t,rfl,rfl⟩
  .show wpAny_pyHash_int h
  .show wpAny_pyHash_str h
 eqBool:=λhu hv h=>by
  rcases i4 hu with⟨i,t,rfl,rfl⟩ |⟨x,t,rfl,rfl⟩
  .rcases i4 hv with⟨j,u,rfl,rfl⟩ |⟨y,u,rfl,rfl⟩
   .rw[tH]at h;show wpAny_eqBool_int h
   .rw[wZ]at h;show wW i t y u _ _ _ _ h
  .rcases i4 hv with⟨j,u,rfl,rfl⟩ |⟨y,u,rfl,rfl⟩
   .rw[w5]at h;show wX x t j u _ _ _ _ h
   .rw[DU]at h;show wpAny_eqBool_str h
 «strs»:=λk x t v h=>by
  rcases i4 h with⟨i,u,rfl,e⟩ |⟨y,u,rfl,e⟩
  .show nomatch e
  .injection e with e1 _
   subst e1
   cases v <;> rfl
def JY(prog:cb)(w:World)(i:Int)(t:Tok):(lg prog w).is (.inl i) (.int i t)=ac:=DQ i t
def JZ(prog:cb)(w:World)(x:Str)(t:Tok):(lg prog w).is (.inr x) (.str x t)=ac:=DR x t
inductive V where
 |non |bl (b:Bool) |int (i:Int) |str (x:Str) |byt (b:Array UInt8) |flt (b:UInt64) |ref (a:Addr) |ty (n:String)
 deriving DecidableEq
nonrec abbrev LVv:=List V
abbrev aB:V->Value->Prop
 |.non,u=>u=mq
 |.bl b,u=>u=k6 b
 |.int i,u=>∃t,u=Value.int i t
 |.str x,u=>∃t,u=Value.str x t
 |.byt b,u=>∃t,u=Value.bytes b t
 |.flt b,u=>∃t,u=Value.float b t
 |.ref a,u=>u=eM a
 |.ty n,u=>u=j7 n
nonrec abbrev aG:LVv->LVa->Prop:=g7 aB
variable{C:LVv}{us:LVa}
def aG.length(r:aG C us):C.length=us.length:=oq r
def aG.get:∀{C:LVv} {us:LVa} {i:Nat} {x:V},aG C us->C[i]?=aa x->∃u,us[i]?=aa u/\aB x u
 | _,_,_,_,.nil,e=>by simp at e
 | _,_,0,_,.cons r _,e=>by simp at e;subst e;show(_,rfl,r)
 | _,_,i+1,x,.cons _ t,e=>by
  have(u,a,h2):=aG.get t (by simpa using e);show(u,by simpa using a,h2)
def aG.set{x:V}{u:Value}(r:aB x u):∀{C:LVv} {us:LVa} (i:Nat),aG C us->aG (C.set i x) (us.set i u)
 | _,_,_,.nil=>.nil
 | _,_,0,.cons _ t=>.cons r t
 | _,_,i+1,.cons q t=>.cons q (aG.set r i t)
def aG.append:∀{C a:LVv} {us ws:LVa},aG C us->aG a ws->aG (C++a) (us++ws)
 | _,_,_,_,.nil,s=>s
 | _,_,_,_,.cons r t,s=>.cons r (aG.append t s)
def aG.take:∀{C:LVv} {us:LVa} (n:Nat),aG C us->aG (C.take n) (us.take n)
 | _,_,0,_=>.nil
 | _,_,_+1,.nil=>.nil
 | _,_,n+1,.cons r t=>.cons r (aG.take n t)
def aG.drop:∀{C:LVv} {us:LVa} (n:Nat),aG C us->aG (C.drop n) (us.drop n)
 | _,_,0,r=>r
 | _,_,_+1,.nil=>.nil
 | _,_,n+1,.cons _ t=>aG.drop n t
abbrev eN:Option V->Option Value->Prop
 |some v,aa u=>aB v u
 |none,ab=>True
 | _,_=>False
abbrev KV{a:Type}:List (a×V)->List (a×Value)->Prop:=g7 λ(p:a×V) (q:a×Value)=>p.1=q.1/\aB p.2 q.2
abbrev kV:Key->V
 |.inl i=>.int i
 |.inr x=>.str x
abbrev kR:Key->V->Prop
 |.inl i,v=>v=.int i\/∃b:Bool,v=.bl b/\i=cond b 1 0
 |.inr x,v=>v=.str x
abbrev w6:Key->Value->Bool
 |.inl k,.bool b=>decide (k=cond b 1 0)
 |k,v=>lc k v
def mx{k:Key}{v:Value}(h:w6 k v=ac):(∃i t,k=.inl i/\v=.int i t)\/(∃b:Bool,k=.inl (cond b 1 0)/\v=.bool b)\/(∃x t,k=.inr x/\v=.str x t):=by
 unfold w6 at h;split at h
 .rename_i a b;show .inr (.inl (b,by rw[of_decide_eq_true h],rfl))
 .rcases i4 h with q |q
  .show .inl q
  .show .inr (.inr q)
def J0(a b:Bool):decide ((iw (cond a 1 0):Key)=iw (cond b 1 0))=(a==b):=by cases a <;> cases b <;> decide
def J4(a:Bool)(j:Int):decide ((iw (cond a 1 0):Key)=iw j)=((if a then 1 else 0)==j):=by rw[tH];cases a <;> rfl
def J5(j:Int)(a:Bool):decide ((iw j:Key)=iw (cond a 1 0))=(j==(if a then 1 else 0)):=by rw[tH];cases a <;> rfl
variable{prog:cb}{w:World}{A:b8}{V4:PRS}
def J6{s:ah}{b:Bool}{Q:Int->ah->Prop}(h:Q (hashInt (cond b 1 0)) {s with toks:=s.toks+1}):wpAny (model prog w) A (pyHash (.bool b)) Q V4 s:=by
 show W.pyHash_slot (T:="bool") rfl PySem.F.slot_bool_hash PySem.entry_int_hash (PySem.args_int_hash _) (beq_builtin_none _) (.inl rfl) ?_;cases b
 .show(show wpAny _ _ (do ret (<- mkInt 0)) _ _ s from aj (wpAny_mkInt (aD (_,_,rfl,h))))
 .show(show wpAny _ _ (do ret (<- mkInt 1)) _ _ s from aj (wpAny_mkInt (aD (_,_,rfl,h))))
abbrev mC(prog:cb)(w:World):PySem.KeyKind prog w Key where
 is:=w6
 hash:=DN w
 inj:=λv a b ha hb=>by
  rcases mx ha with⟨i,t,rfl,rfl⟩ |⟨c,rfl,rfl⟩ |⟨x,t,rfl,rfl⟩ <;> rcases mx hb with⟨j,u,rfl,e⟩ |⟨d,rfl,e⟩ |⟨y,u,rfl,e⟩ <;> cases e <;> rfl
 byValue:=λk v h=>by
  rcases mx h with⟨i,t,rfl,rfl⟩ |⟨c,rfl,rfl⟩ |⟨x,t,rfl,rfl⟩ <;> rfl
 pyHash:=λhv h=>by
  rcases mx hv with⟨i,t,rfl,rfl⟩ |⟨c,rfl,rfl⟩ |⟨x,t,rfl,rfl⟩
  .show wpAny_pyHash_int h
  .show J6 h
  .show wpAny_pyHash_str h
 eqBool:=λhu hv h=>by
  rcases mx hu with⟨i,t,rfl,rfl⟩ |⟨c,rfl,rfl⟩ |⟨x,t,rfl,rfl⟩ <;> rcases mx hv with⟨j,u,rfl,rfl⟩ |⟨d,rfl,rfl⟩ |⟨y,u,rfl,rfl⟩
  .rw[tH]at h;show cu.int_int _ _ _ _ _ _ _ _ h
  .rw[J5]at h;show cu.int_bool _ _ _ _ _ _ _ h
  .rw[wZ]at h;show wW _ _ _ _ _ _ _ _ h
  .rw[J4]at h;show cu.bool_int _ _ _ _ _ _ _ h
  .rw[J0]at h;show cu.bool_bool _ _ _ _ _ _ h
  .rw[wZ]at h;show cu.bool_str _ _ _ _ _ _ _ h
  .rw[w5]at h;show wX _ _ _ _ _ _ _ _ h
  .rw[w5]at h;show cu.str_bool _ _ _ _ _ _ _ h
  .rw[DU]at h;show wpAny_eqBool_str h
 «strs»:=λk x t v h=>by
  rcases mx h with⟨i,u,rfl,e⟩ |⟨c,rfl,e⟩ |⟨y,u,rfl,e⟩
  .show nomatch e
  .show nomatch e
  .injection e with e1 _
   subst e1
   cases v <;> rfl
variable{P:cb}{v:V}
def J7{k:Key}{u:Value}(q:kR k v)(r:aB v u):(mC P w).is k u=ac:=by
 cases k with
 |inl i=>
  rcases q with rfl |⟨b,rfl,rfl⟩
  .have(t,e):=(show ∃t,u=Value.int i t from r);subst e;show DQ i t
  .cases (show u=k6 b from r);cases b <;> rfl
 |inr x=>cases (show v=V.str x from q);have(t,e):=(show ∃t,u=Value.str x t from r);subst e;show DR x t
nonrec abbrev KRs:List Key->LVv->Prop:=g7 kR
def DV{P:cb}{w:World}:∀{ks:List Key} {vs:LVv} {us:LVa},KRs ks vs->aG vs us->ItemsAre (mC P w) ks us
 | _,_,_,.nil,r=>by cases r;show .nil
 | _,_,_,.cons q t,r=>by
  cases r with
  |cons h t'=>show .cons (J7 q h) (DV t t')
inductive HO where
 |lst (C:LVv)
 |tup (C:LVv)
 |dK (kvs:List (Key×V)) |dT (kvs:List (List Key×V))
 |set (S:Int->Bool) (n:Nat)
 |ins (V5 dx:Addr) (fs:List (Str×V))
 |own (x:Addr)
 |xd (fs:List (Str×V))
 |met (f x:Addr)
 |rng (lo hi:Int)
 |frz (o:Obj) (u:HO)
 |tbl (ps:Array Value)
 |ext (φ:Heap->Prop)
nonrec def Hp:=Addr->Option HO
abbrev fm(H:Hp)(b:Addr)(k:List Key):Prop:=∃vs,H b=aa (.tup vs)/\KRs k vs
variable{H H':Hp}{b:Addr}
def fm.up{k:List Key}(h:fm H b k)(a:∀b C,H b=aa (.tup C)->H' b=aa (.tup C)):fm H' b k:=let (vs,e,q):=h;(vs,a _ _ e,q)
abbrev upd(H:Hp)(a:Addr)(o:HO):Hp:=λb=>if b=a then aa o else H b
variable{a:Addr}
def a8{o:HO}:upd H a o a=aa o:=by unfold upd;rw[if_pos rfl]
def aK{o:HO}(h:b≠a):upd H a o b=H b:=by unfold upd;rw[if_neg h]
def DY{o u:HO}(h:H a=aa o)(h':H b=aa u)(d:o≠u):a≠b:=by grind
def fq{o:HO}(h:H a=aa o)(h':H b=ab):a≠b:=by
 intro e;subst e;rw[h]at h';cases h'
section
variable(P:cb)(w:World)
abbrev dR(H:Hp)(h:Heap)(a:Addr):HO->Prop
 |.lst C=>C.length<=aS/\∃(B:LVa) (n:Nat),aG C B/\h.get? a=aa {cls:=.type "list",data:=.seq B.toArray n}
 |.tup C=>C.length<=aS/\∃B:LVa,aG C B/\IsTup h a B.toArray
 |.dK kvs=>kvs.length<=aS/\(a==gZ)=af/\∃vs,KV kvs vs/\h.DictOf (lg P w) a vs
 |.dT kvs=>kvs.length<=aS/\(a==gZ)=af/\∃C:List (List Key×Addr×Value),
   g7 (λ(p:List Key×V) (q:List Key×Addr×Value)=>p.1=q.1/\fm H q.2.1 p.1/\aB p.2 q.2.2) kvs C /\
   ∃o es c,h.get? a=aa o/\o.ExactDict/\o.data=.dict es c/\es.toList=C.map (entryOfKey (tupleKind (mC P w)))/\(C.map (·.1)).Nodup
 |.set S n=>h.SetOf (fM P w) a S n
 |.ins V5 dx fs=>H dx=aa (.own a)/\fs.length<=1000/\dx≠a/\h.get? a=aa (k9 V5 dx) /\
   ∃mA,h.Ns1 dx mA/\(∀f,eN (fs.lookup f) (mA f))/\PySem.Within mA (fs.map (·.1))
 |.own _=>∃o,h.get? a=aa o
 |.xd fs=>∃mA,h.Ns1 a mA/\∀f,eN (fs.lookup f) (mA f)
 |.rng lo hi=>∃t u v,h.get? a=aa {cls:=.type "range",data:=.fields #[.int lo t,.int hi u,.int 1 v]}
 |.frz o u=>h.get? a=aa o/\dR H h a u
 |.tbl ps=>h.get? a=aa {cls:=.none,data:=.fields ps}
 |.met f x=>h.get? a=aa (W.methodObj (.ref f) (.ref x))
 |.ext φ=>φ h/\(∃o,h.get? a=aa o)/\∀b h2:Heap,φ b->(∀o,b.get? a=aa o->h2.get? a=aa o)->φ h2
abbrev HOk(H:Hp)(h:Heap):Prop:=∀a o,H a=aa o->dR P w H h a o
end
variable{h:Heap}
def dR.lt{o:HO}(x:dR P w H h a o):a<h.objs.size:=by
 cases o with
 |lst C=>have(_,_,_,_,e):=x;show bz e
 |tup C=>have(_,_,_,p):=x;show p.lt
 |dK kvs=>have(_,_,_,_,o,_,_,e,_):=x;show bz e
 |dT kvs=>have(_,_,_,_,o,_,_,e,_):=x;show bz e
 |set S n=>have(o,_,_,_,e,_):=x;show bz e
 |ins V5 dx fs=>have(_,_,_,e,_):=x;show bz e
 |own y=>have(_,e):=x;show bz e
 |xd fs=>have(_,(_,_,_,e,_),_):=x;show bz e
 |rng lo hi=>have(_,_,_,e):=x;show bz e
 |frz b u=>have(e,_):=x;show bz e
 |tbl ps=>show bz (x)
 |met f y=>show bz (x)
 |ext φ=>have(_,(_,e),_):=x;show bz e
def g7.mapP{e g:Type}{F G:e->g->Prop}:∀{c:List e} {d:List g},g7 F c d->(∀a b,F a b->G a b)->g7 G c d
 | _,_,.nil,_=>.nil
 | _,_,.cons r t,f=>.cons (f _ _ r) (g7.mapP t f)
variable{h':Heap}
section
variable{o:HO}
def dR.stay(x:dR P w H h a o)(k:∀b u,(b=a\/H b=aa (.own a))->h.get? b=aa u->h'.get? b=aa u)
 (l:∀b,H b=aa (.own a)->H' b=aa (.own a))(m:∀b C,H b=aa (.tup C)->H' b=aa (.tup C)):dR P w H' h' a o:=by
 induction o with
 |lst C=>have(z,B,n,r,e):=x;show(z,B,n,r,k _ _ (.inl rfl) e)
 |tup C=>have(z,B,r,g,e,c):=x;show(z,B,r,g,k _ _ (.inl rfl) e,c)
 |dK kvs=>have(z,y,vs,r,g,es,i,e,c):=x;show(z,y,vs,r,g,es,i,k _ _ (.inl rfl) e,c)
 |dT kvs=>
  have(z,y,C,r,g,es,i,e,c):=x
  show(z,y,C,g7.mapP r λp q z=>(z.1,z.2.1.up m,z.2.2),g,es,i,k _ _ (.inl rfl) e,c)
 |set S n=>have(g,es,i,t,e,c):=x;show(g,es,i,t,k _ _ (.inl rfl) e,c)
 |ins V5 dx fs=>
  have(d,z,ne,e,mA,(od,es,i,j,c),r):=x
  show(l _ d,z,ne,k _ _ (.inl rfl) e,mA,(od,es,i,k _ _ (.inr d) j,c),r)
 |own y=>have(g,e):=x;show(g,k _ _ (.inl rfl) e)
 |xd fs=>have(mA,(od,es,i,e,c),r):=x;show(mA,(od,es,i,k _ _ (.inl rfl) e,c),r)
 |rng lo hi=>have(t,u,v,e):=x;show(t,u,v,k _ _ (.inl rfl) e)
 |frz g u A=>have(e,q):=x;show(k _ _ (.inl rfl) e,A q)
 |tbl ps=>
  have e:=x
  show k a _ (.inl rfl) e
 |met f y=>
  have e:=x
  show k a _ (.inl rfl) e
 |ext φ=>have(p,(o,e),st):=x;show(st _ _ p λo q=>k _ _ (.inl rfl) q,(o,k _ _ (.inl rfl) e),st)
end
def HOk.lt{o:HO}(x:HOk P w H h)(e:H a=aa o):a<h.objs.size:=(x a o e).lt
def HOk.fresh(x:HOk P w H h)(e:h.objs.size<=a):H a=ab:=by
 cases q:H a with
 |none=>rfl
 |some u=>show absurd (fh (x.lt q) e) (gy _)
def HOk.kept(x:HOk P w H h)(k:∀b u,h.get? b=aa u->h'.get? b=aa u):HOk P w H h':=λa o e=>
 (x a o e).stay (λb u _ q=>k b u q) (λ_ q=>q) λ_ _ q=>q
def HOk.laid{o:HO}(x:HOk P w H h)(k:∀b u,h.get? b=aa u->h'.get? b=aa u)(f:h.objs.size<=a)(new:dR P w (upd H a o) h' a o):HOk P w (upd H a o) h':=λb u e=>by
 have hn:=x.fresh f
 by_cases d:b=a
 .subst d;rw[a8]at e;cases e;show new
 .rw[aK d]at e;show(x b u e).stay (λc v _ q=>k c v q) (λc q=>by rw[aK (fq q hn)];show q) λc C q=>by rw[aK (fq q hn)];show q
abbrev Rd(H:Hp)(a:Addr)(u:HO):Prop:=H a=aa u\/∃o,H a=aa (.frz o u)
def Rd.ok{u:HO}(r:Rd H a u)(x:HOk P w H h):dR P w H h a u:=by
 rcases r with r |⟨o,r⟩
 .show x a u r
 .have(_,q):=x a _ r;show q
abbrev Mut:Option HO->Prop
 |some (.lst _)=>True
 |some (.dK _)=>True
 |some (.dT _)=>True
 |some (.set _ _)=>True
 |some (.ins _ _ _)=>True
 |some (.ext _)=>True
 | _=>False
variable{x e:Addr}{o':HO}
def HOk.write(ok:HOk P w H h)(f:Mut (H x))(n:e=x\/H e=aa (.own x))(k:∀b u,b≠e->h.get? b=aa u->h'.get? b=aa u)(i:∃u,h'.get? e=aa u)
 (new:dR P w (upd H x o') h' x o'):HOk P w (upd H x o') h':=λb u q=>by
 have a:∀c y,H c=aa (.own y)->c≠x:=λc y r z=>by subst z;rw[r]at f;show f
 have d:∀c C,H c=aa (.tup C)->c≠x:=λc C r z=>by subst z;rw[r]at f;show f
 by_cases j:b=x
 .subst j;rw[a8]at q;grind
 .rw[aK j]at q
  by_cases g:b=e
  .have l:H b=aa (.own x):=by
    grind
   rw[q]at l;cases l;have(v,hv):=i;show(v,by rw[g];show hv)
  .show(ok b u q).stay (λc v m r=>k c v ?_ r) (λc r=>by rw[aK (a c b r)];show r) λc C r=>by rw[aK (d c C r)];show r
   grind
structure Un(fs ex:LAd)(H H':Hp)(h h':Heap):Prop where
 keep:∀b o,h.get? b=aa o->H b=ab->b∉fs->b∉ex->h'.get? b=aa o
 slot:∀b o,h.get? b=aa o->H b=ab->b∈fs->b∉ex->∃sl,h'.get? b=aa {o with slots:=sl}
 free:∀b o,h.get? b=aa o->H b=ab->b∉ex->H' b=ab
 there:∀b o,h.get? b=aa o->b∉ex->∃o',h'.get? b=aa o'
 tups:∀b C,H b=aa (.tup C)->H' b=aa (.tup C)
 frzs:∀b o u,H b=aa (.frz o u)->H' b=aa (.frz o u)
 tbls:∀b ps,H b=aa (.tbl ps)->∃more,H' b=aa (.tbl (ps++more))
variable{ex:LAd}{H1:Hp}{h1:Heap}
def Un.any{fs:LAd}(u:Un fs ex H H1 h h1){a:Obj}(q:h.get? b=aa a)(n:H b=ab)(d:b∉ex):∃sl,h1.get? b=aa {a with slots:=sl}:=by
 by_cases c:b∈fs
 .show u.slot b a q n c d
 .show(a.slots,u.keep b a q n c d)
variable{H2:Hp}{h2:Heap}
def Un.trans{fs:LAd}(a:Un fs ex H H1 h h1)(b:Un fs ex H1 H2 h1 h2):Un fs ex H H2 h h2 where
 keep:=λc ob q n hc hx=>b.keep c ob (a.keep c ob q n hc hx) (a.free c ob q n hx) hc hx
 slot:=λc ob q n hc hx=>by
  have(sl,e1):=a.slot c ob q n hc hx;have(sl',e2):=b.slot c _ e1 (a.free c ob q n hx) hc hx;show(sl',e2)
 free:=λc ob q n hx=>by
  have(o',e1):=a.there c ob q hx;show b.free c o' e1 (a.free c ob q n hx) hx
 there:=λc ob q hx=>by
  have(o',e1):=a.there c ob q hx;show b.there c o' e1 hx
 tups:=λc C q=>b.tups c C (a.tups c C q)
 frzs:=λc ob C q=>b.frzs c ob C (a.frzs c ob C q)
 tbls:=λc ps q=>by
  have(m1,e1):=a.tbls c ps q;have(m2,e2):=b.tbls c _ e1;show(m1++m2,by rw[e2,Array.append_assoc])
def Un.kept{fs:LAd}(k:∀b u,h.get? b=aa u->h'.get? b=aa u):Un fs ex H H h h':=
 (λb a q _ _ _=>k b a q,λb a q _ _ _=>(a.slots,k b a q),λ_ _ _ n _=>n,λb a q _=>(a,k b a q),λ_ _ q=>q,λ_ _ _ q=>q,λ_ ps q=>(#[],by rw[q];simp))
def Un.refl{fs:LAd}:Un fs ex H H h h:=Un.kept λ_ _ q=>q
def Un.laid{fs:LAd}{o:HO}(k:∀b u,h.get? b=aa u->h'.get? b=aa u)(hp:h.objs.size<=a)(hn:H a=ab):Un fs ex H (upd H a o) h h' where
 keep:=λb u q _ _ _=>k b u q
 slot:=λb u q _ _ _=>(u.slots,k b u q)
 free:=λb u q n _=>by rw[aK (bW (fh (bz q) hp))];show n
 there:=λb u q _=>(u,k b u q)
 tups:=λb C q=>by rw[aK (fq q hn)];show q
 frzs:=λb u C q=>by rw[aK (fq q hn)];show q
 tbls:=λb ps q=>(#[],by rw[aK (fq q hn),q];simp)
def Un.write{fs:LAd}{o:HO}(a:Mut (H x))(g:e=x\/H e=aa (.own x))(k:∀b u,b≠e->h.get? b=aa u->h'.get? b=aa u)(d:∃u,h'.get? e=aa u):Un fs ex H (upd H x o) h h':=by
 have f:∀b,H b=ab->b≠x:=λb n z=>by subst z;rw[n]at a;show a
 have c:∀b,H b=ab->b≠e:=λb n z=>by
  grind
 have hm:∀b u,H b=aa u->¬Mut (aa u)->b≠x:=λb u q nm z=>by subst z;rw[q]at a;show nm a
 show(λb u q n _ _=>k b u (c b n) q,λb u q n _ _=>(u.slots,k b u (c b n) q),λb u q n _=>by rw[aK (f b n)];show n,λb u q _=>?_,
  λb C q=>by rw[aK (hm b _ q λz=>z)];show q,λb u C q=>by rw[aK (hm b _ q λz=>z)];show q,λb ps q=>(#[],by rw[aK (hm b _ q λz=>z),q];simp))
 grind
abbrev trk(h:Heap)(H:Hp):LAd:=(bO h.objs.size).filter λa=>(H a).isSome
abbrev ow(h:Heap)(H:Hp):Heap:=W.hideAll h (trk h H)
def J8(h:Heap)(H:Hp):(ow h H).objs.size=h.objs.size:=W.hideAll_size _ _
def J9{o:Obj}(e:h.get? b=aa o)(n:H b=ab):(ow h H).get? b=aa o:=
 W.hideAll_get _ e λhm=>by
  have q:=(ci.mp hm).2
  grind
def Ka{o:Obj}(e:(ow h H).get? b=aa o):h.get? b=aa o/\H b=ab:=by
 have e':=W.of_hideAll _ e;show(e',?_)
 cases q:H b with
 |none=>rfl
 |some x=>
  have hm:b∈trk h H:=ci.mpr (fI.mpr (bz e'),by simp[q]);have z:(ow h H).get? b=ab:=W.hideAll_none _ hm
  grind
abbrev Kb(g h:Heap)(V2:Addr):PNS:=(bO h.objs.size).filterMap λa=>if a=V2\/(g.get? a).isSome=ac then ab else (h.get? a).map λo=>(a,o,)
abbrev rest(g h:Heap)(V2 d:Addr):PNS:=(Kb g h V2).filter λp=>decide (p.1≠d)
structure Mod(K:aQ)(mg:MGT)(base:Heap):Prop where
 kin:K.In base
 glob:base.Ns cC mg
 blt:∃mb,base.Ns builtinsNs mb/\∀x:Str,x ≠ "__name__" -> mb x=jC x
 nolimit:base.NoLimit
set_option genInjectivity false in
structure Cx where
 prog:cb
 w:World
 K:aQ
 mg:Str->Option Value
 base:Heap
 A:b8
 N:LSt
 s₀:ah
 H₀:Hp
 env:Env
 outer:List Env
 stack:List Env
 ex:LAd
 fn:Str->Bool
 calm:Bool
 pn:PNS
 xe:Value->ah->Prop
nonrec abbrev NDb(x:Str):=(x==("__debug__":Str))=af
nonrec abbrev NCd(x:Str):=(x==("__classdict__":Str))=af
nonrec abbrev StE(X:Cx)(e:Expr)(es:LEx):=aN (e::es) X.env=(af,eval e X.env,)::aN es X.env
nonrec abbrev BkE(X:Cx)(pos:Pos)(es:LEx):=(ce pos (aN es X.env)).any (·.1)=af
nonrec abbrev LcF(X:Cx)(x:Str):=X.fn x=ac\/X.env.scope.names.lookup x=aa .local
abbrev frs(l:List Env):LAd:=l.filterMap (·.frame)
nonrec def Cx.fs(X:Cx):LAd:=frs X.outer
abbrev Vis(sc:Scope)(x:Str):Prop:=sc.names.lookup x=aa .local\/sc.names.lookup x=aa .cell\/sc.names.lookup x=aa .free
abbrev Loc(sc:Scope)(x:Str):Prop:=sc.names.lookup x=aa .local\/sc.names.lookup x=aa .cell
abbrev Kc(env:Env)(h:Heap)(m:MGT)(x:Str)(u:Value):Prop:=
 (env.kindOf x=aa .local/\m x=aa u)\/((env.kindOf x=aa .cell\/env.kindOf x=aa .free)/\∃c,env.cells.lookup x=aa c/\h.IsCell c (aa u))
structure Cx.Ok(X:Cx):Prop where
 mod:Mod X.K X.mg X.base
 kind:X.env.scope.kind=.function
 glob:X.env.globals=cC
 blt:X.env.builtins=builtinsNs
 above:X.s₀.heap.objs.size<=X.env.locals
 inj:∀x y c,X.env.cells.lookup x=aa c->X.env.cells.lookup y=aa c->x=y
 has:∀x,(X.env.kindOf x=aa .cell\/X.env.kindOf x=aa .free)->∃c,X.env.cells.lookup x=aa c
 cab:∀x c,X.fn x=ac->X.env.cells.lookup x=aa c->X.s₀.heap.objs.size<=c
 hd:X.calm=ac->X.A.handled=ab
 frames:X.A.frames=aa X.stack
 stk:X.stack=X.outer\/(X.stack=X.env::X.outer/\X.env.frame=aa X.env.locals)
 exf:∀b∈X.ex,b≠X.env.locals/\∀x c,X.env.cells.lookup x=aa c->c≠b
 bs:∀b o,X.base.get? b=aa o->X.s₀.heap.get? b=aa o/\X.H₀ b=ab
 bsz:X.base.objs.size<=X.s₀.heap.objs.size
 noex:∀b o,X.base.get? b=aa o->b∉X.ex
 exfs:∀b∈X.ex,b∉X.fs
 funs:X.s₀.heap.FunFrames X.base X.outer
 frf:∀b∈X.fs,X.H₀ b=ab
structure Inv(X:Cx)(U:PNS)(E:List (Option V))(H:Hp)(s:ah):Prop where
 ok:X.Ok
 os:s.os=X.s₀.os
 bare:jZ s.gens
 base:Un X.fs X.ex X.H₀ H X.s₀.heap s.heap
 loc:∃m,s.heap.Ns X.env.locals m/\∀(i:Nat) (x:Str) (v:V),X.N[i]?=aa x->E[i]?=aa (aa v)->Vis X.env.scope x->∃u,aB v u/\Kc X.env s.heap m x u
 cell:∀x c,X.env.cells.lookup x=aa c->∃v,s.heap.IsCell c v
 free:H X.env.locals=ab
 freeC:∀x c,X.env.cells.lookup x=aa c->H c=ab
 pin:∀p∈X.pn++U,s.heap.get? p.1=aa p.2/\H p.1=ab/\p.1≠X.env.locals/\p.1∉X.fs/\∀v,p.2.data≠.cell v
 hok:HOk X.prog X.w H s.heap
 len:E.length=X.N.length
variable{X:Cx}
def Cx.Ok.nofr(ok:X.Ok){o:Obj}(e:X.base.get? b=aa o):b∉X.fs:=λa=>by
 have:=(ok.funs.mem a).1
 grind
variable{U:PNS}{E:List (Option V)}
def Inv.bs{s:ah}(I:Inv X U E H s):∀b o,X.base.get? b=aa o->s.heap.get? b=aa o/\H b=ab:=λb o e=>
 (I.base.keep b o (I.ok.bs b o e).1 (I.ok.bs b o e).2 (I.ok.nofr e) (I.ok.noex b o e),I.base.free b o (I.ok.bs b o e).1 (I.ok.bs b o e).2 (I.ok.noex b o e))
def Inv.bk{s:ah}(I:Inv X U E H s):∀b o,X.base.get? b=aa o->s.heap.get? b=aa o:=λb o e=>(I.bs b o e).1
def Inv.mod{s:ah}(I:Inv X U E H s):Mod X.K X.mg X.base:=I.ok.mod
def Inv.kIn{s:ah}(I:Inv X U E H s):X.K.In s.heap:=I.ok.mod.kin.keeps I.bk
def Inv.lt{s:ah}(I:Inv X U E H s):X.env.locals<s.heap.objs.size:=let (_,hn,_):=I.loc;hn.lt
def Inv.sz{s:ah}(I:Inv X U E H s):X.s₀.heap.objs.size<=s.heap.objs.size:=cN I.ok.above (fj I.lt)
def Inv.nofs{s:ah}(I:Inv X U E H s)(h:s.heap.objs.size<=a):a∉X.fs:=λb=>by
 have(_,o,c,_):=I.ok.funs.mem b;show absurd (fh (bz c) (cN I.sz h)) (gy _)
def Inv.cne{s:ah}(I:Inv X U E H s):∀x c,X.env.cells.lookup x=aa c->c≠X.env.locals:=λx c e z=>by
 have(v,o,f,hd):=I.cell x c e;have(m,(o',es,d,b,a,_),_):=I.loc
 grind
def Inv.funs{s:ah}(I:Inv X U E H s):s.heap.FunFrames X.base X.outer:=by
 have all:∀l,(∀b∈frs l,b∈X.fs)->X.s₀.heap.FunFrames X.base l->s.heap.FunFrames X.base l:=by
  intro l
  induction l with
  |nil=>intro _ _;trivial
  |cons env r j=>
   intro f h;have(g,(V2,o,d,hn,i,hd),hr):=h;have a:=f V2 (by unfold frs;rw[qc,d];show az);have(sl,e):=I.base.slot V2 o i (I.ok.frf V2 a) a λz=>I.ok.exfs V2 z a;show(g,(V2,_,d,hn,e,hd),j (λb c=>f b (by unfold frs;rw[qc,d];show bh _ c)) hr)
 show all X.outer (λ_ c=>c) I.ok.funs
def Inv.stack{s:ah}(I:Inv X U E H s):s.heap.FunFrames X.base X.stack:=by
 rcases I.ok.stk with e |⟨e,hf⟩
 .rw[e];show I.funs
 .rw[e];have(m,hn,_):=I.loc;show .cons (by rw[I.ok.kind];decide) hf hn (Heap.get?_none_of_le (cN I.ok.bsz I.ok.above)) I.funs
def Inv.stkSub{s:ah}(I:Inv X U E H s):∀b∈frs X.stack,b∈X.env.locals::X.fs:=λb a=>by
 rcases I.ok.stk with e |⟨e,hf⟩
 .rw[e]at a;show bh _ a
 .rw[e]at a;unfold frs at a;rw[qc,hf]at a;show a
def Inv.stkFree{s:ah}(I:Inv X U E H s):∀b∈frs X.stack,H b=ab:=λb a=>by
 rcases aZ.mp (I.stkSub b a)with e |a
 .rw[e];show I.free
 .have(_,o,c,_):=I.ok.funs.mem a;show I.base.free b o c (I.ok.frf b a) λz=>I.ok.exfs b z a
variable{g':Array GenState}{t':Nat}{d':Drawn}
section
variable{s:ah}
def Inv.step{ch:LAd}(I:Inv X U E H s)
 (g:∀b∈ch,(b∈X.ex\/X.s₀.heap.objs.size<=b)/\b≠X.env.locals/\(∀x c,X.env.cells.lookup x=aa c->c≠b)/\∀p∈X.pn++U,p.1≠b)
 (keep:∀b o,b≠X.env.locals->b∉X.fs->b∉ch->s.heap.get? b=aa o->H b=ab->h'.get? b=aa o)
 (slot:∀b o,b≠X.env.locals->b∈X.fs->b∉ch->s.heap.get? b=aa o->H b=ab->∃sl,h'.get? b=aa {o with slots:=sl})(free:∀b o,b∉ch->s.heap.get? b=aa o->H b=ab->H' b=ab)
 (there:∀b o,b∉ch->s.heap.get? b=aa o->∃o',h'.get? b=aa o')
 (tups:∀b C,H b=aa (.tup C)->H' b=aa (.tup C))(frzs:∀b o u,H b=aa (.frz o u)->H' b=aa (.frz o u))(tbls:∀b ps,H b=aa (.tbl ps)->∃more,H' b=aa (.tbl (ps++more)))
 (ns:∀m,s.heap.Ns X.env.locals m->h'.Ns X.env.locals m)(hok:HOk X.prog X.w H' h')(T:jZ g'):
  Inv X U E H' {s with heap:=h',gens:=g',drawn:=d',toks:=t'}:=by
 have J:∀b o,X.s₀.heap.get? b=aa o->b≠X.env.locals:=λb o e=>bW (fh (bz e) I.ok.above)
 have y:∀b o,X.s₀.heap.get? b=aa o->b∉X.ex->b∉ch:=λb o e a A=>by
  rcases(g b A).1 with z |z
  .show a z
  .show absurd (fh (bz e) z) (gy _)
 have f:∀x c,X.env.cells.lookup x=aa c->∀v,s.heap.IsCell c v->h'.IsCell c v:=λx c e v q_=>by
  have(o,B,hd):=q_;have h:=λz=>(g c z).2.2.1 x c e rfl
  by_cases M:c∈X.fs
  .have(sl,q):=slot c o (I.cne x c e) M h B (I.freeC x c e);show(_,q,hd)
  .show(o,keep c o (I.cne x c e) M h B (I.freeC x c e),hd)
 show(I.ok,I.os,T,(λb o e n A a=>(keep b o (J b o e) A (y b o e a) (I.base.keep b o e n A a) (I.base.free b o e n a)),λb o e n A a=>?_,λb o e n a=>?_,λb o e a=>?_,λb C e=>tups b C (I.base.tups b C e),λb o C e=>frzs b o C (I.base.frzs b o C e),λb ps e=>?_),?_,λx c e=>?_,?_,λx c e=>?_,λp N=>?_,hok,I.len)
 .have(sl,j):=I.base.slot b o e n A a;have(L,G):=slot b _ (J b o e) A (y b o e a) j (I.base.free b o e n a);show(L,G)
 .have(o',j):=I.base.there b o e a;show free b o' (y b o e a) j (I.base.free b o e n a)
 .have(o',j):=I.base.there b o e a;show there b o' (y b o e a) j
 .have(m1,j):=I.base.tbls b ps e;have(m2,G):=tbls b _ j;show(m1++m2,by rw[G,Array.append_assoc])
 .have(m,hn,Y):=I.loc;show(m,ns m hn,λi x v j G Q=>?_);have(u,r,l):=Y i x v j G Q;show(u,r,?_)
  rcases l with l |⟨k,c,e,z⟩
  .show .inl l
  .show .inr (k,c,e,f x c e _ z)
 .have(v,z):=I.cell x c e;show(v,f x c e v z)
 .have(m,(o,_,_,B,_),_):=I.loc;show free _ o (λz=>(g _ z).2.1 rfl) B I.free
 .have(v,o,B,hd):=I.cell x c e;show free c o (λz=>(g c z).2.2.1 x c e rfl) B (I.freeC x c e)
 .have(e,n,ne,nf,d):=I.pin p N;have h:=λz=>(g p.1 z).2.2.2 p N rfl;show(keep p.1 p.2 ne nf h e n,free p.1 p.2 h e n,ne,nf,d)
end
section
variable{s:ah}
def Inv.un(I:Inv X U E H s)(u:Un X.fs [] H H' s.heap h')(hok:HOk X.prog X.w H' h'):Inv X U E H' {s with heap:=h',toks:=t'}:=by
 have(m,(o,es,i,f,r),_):=id I.loc;have(sl,g):=u.any f I.free (by simp)
 show I.step (ch:=[]) (λ_ z=>nomatch z) (λb o _ d _ e n=>u.keep b o e n d (by simp)) (λb o _ d _ e n=>u.slot b o e n d (by simp)) (λb o _ e n=>u.free b o e n (by simp)) (λb o _ e=>u.there b o e (by simp)) u.tups u.frzs u.tbls (λj hm=>by
  have(o',es',c,a,h):=hm;rw[f]at a;cases a;show(_,es',c,g,h)) hok I.bare
end
section
variable{s:ah}
def Inv.call{ch:LAd}(I:Inv X U E H s)(u:Un (frs X.stack) ch H H' s.heap h')(hok:HOk X.prog X.w H' h')(l:jZ g')
 (d:∀b∈ch,(b∈X.ex\/X.s₀.heap.objs.size<=b)/\b≠X.env.locals/\(∀x c,X.env.cells.lookup x=aa c->c≠b)/\∀p∈X.pn++U,p.1≠b):
  Inv X U E H' {s with heap:=h',gens:=g',drawn:=d',toks:=t'}:=by
 have(m,(o,es,v,i,r),_):=id I.loc;have(sl,h):=u.any i I.free λz=>(d _ z).2.1 rfl
 show I.step d (λb o h j a e n=>u.keep b o e n (λz=>(aZ.mp (I.stkSub b z)).elim h j) a) (λb o _ _ a e n=>u.any e n a) (λb o a e n=>u.free b o e n a) (λb o a e=>u.there b o e a) u.tups u.frzs u.tbls (λy hm=>by
  have(o',es',g,f,q):=hm;rw[i]at f;cases f;show(_,es',g,h,q)) hok l
end
variable{it:Addr}
section
variable{s:ah}
def Inv.turned(I:Inv X U E H s)(k:∀b o,b≠it->s.heap.get? b=aa o->h'.get? b=aa o)(hn:H it=ab)(f:it≠X.env.locals)
 (h1:it∈X.ex\/X.s₀.heap.objs.size<=it)(h2:∀x c,X.env.cells.lookup x=aa c->c≠it)(h:∀p∈X.pn++U,p.1≠it):Inv X U E H {s with heap:=h',toks:=t'}:=by
 have d:∀b u,H b=aa u->b≠it:=λb u e z=>by rw[z,hn]at e;nomatch e
 show I.step (ch:=[it]) (λb i=>?_) (λb o _ _ a e _=>k b o (λz=>a (by simp[z])) e) (λb o _ _ a e _=>(o.slots,k b o (λz=>a (by simp[z])) e)) (λ_ _ _ _ n=>n)
  (λb o a e=>(o,k b o (λz=>a (by simp[z])) e)) (λ_ _ e=>e) (λ_ _ _ e=>e) (λb ps e=>(#[],by rw[e];simp)) (λm hm=>?_) (λb u e=>?_) I.bare
 .have e:b=it:=by simpa using i
  subst e;show(h1,f,h2,h)
 .have(o,es,g,j,r):=hm;show(o,es,g,k _ o (eG f) j,r)
 .show(I.hok b u e).stay (λc v a q=>k c v ?_ q) (λ_ q=>q) λ_ _ q=>q
  rcases a with z |z
  .rw[z];show d b u e
  .show d c _ z
end
section
variable{s:ah}
def Inv.tok(I:Inv X U E H s)(t:Nat):Inv X U E H {s with toks:=t}:=I.un Un.refl I.hok
end
section
variable{s:ah}
def Inv.kept(I:Inv X U E H s)(k:∀b u,s.heap.get? b=aa u->h'.get? b=aa u):Inv X U E H {s with heap:=h',toks:=t'}:=I.un (Un.kept k) (I.hok.kept k)
end
section
variable{s:ah}
def Inv.laid{o:HO}(I:Inv X U E H s)(k:∀b u,s.heap.get? b=aa u->h'.get? b=aa u)(c:s.heap.objs.size<=a)(new:dR X.prog X.w (upd H a o) h' a o):
  Inv X U E (upd H a o) {s with heap:=h',toks:=t'}:=I.un (Un.laid k c (I.hok.fresh c)) (I.hok.laid k c new)
end
section
variable{s:ah}
def Inv.write{o:HO}(I:Inv X U E H s)(d:Mut (H x))(c:e=x\/H e=aa (.own x))(k:∀b u,b≠e->s.heap.get? b=aa u->h'.get? b=aa u)(a:∃u,h'.get? e=aa u)
 (new:dR X.prog X.w (upd H x o) h' x o):Inv X U E (upd H x o) {s with heap:=h',toks:=t'}:=I.un (Un.write d c k a) (I.hok.write d c k a new)
end
def Inv.pins_of{s:ah}{a:PNS}(I:Inv X U E H s)(h:∀p∈a,s.heap.get? p.1=aa p.2/\H p.1=ab/\p.1≠X.env.locals/\p.1∉X.fs/\∀v,p.2.data≠.cell v):Inv X a E H s:=
 (I.ok,I.os,I.bare,I.base,I.loc,I.cell,I.free,I.freeC,λp b=>(bu.mp b).elim (λz=>I.pin p (bT _ z)) (h p),I.hok,I.len)
variable{N:LSt}{i:Nat}{x:Str}
def D0(e:N.Nodup){j:Nat}(a:N[i]?=aa x)(b:N[j]?=aa x):i=j:=by
 have(h1,c):=cU.mp a;have(h2,d):=cU.mp b;show(List.getElem_inj e).mp (c.trans d.symm)
variable{V1:Model}{u:Value}{Q:Unit->ah->Prop}
section
variable{s:ah}
def D3(I:Inv X U E H s)(hN:X.N.Nodup)(hi:X.N[i]?=aa x)(B:Loc X.env.scope x)(r:aB v u)
 (h:∀s',Inv X U (E.set i (aa v)) H s'->(∃a,ga a s.heap s'.heap/\(a=X.env.locals\/X.env.cells.lookup x=aa a))->Q () s')(hf:LcF X x:=by first |exact .inl rfl |exact .inr rfl |assumption):wpAny V1 A (storeName X.env x u) Q V4 s:=by
 have(m,hn,hl):=id I.loc;have hcls:(X.env.scope.kind==.class || (X.env.scope.kind==.module && X.env.locals != X.env.globals))=af:=by rw[I.ok.kind];rfl
 have J:i<E.length:=by rw[I.len];show(cU.mp hi).1
 have cne:=I.cne
 have l:∀{a:Addr} {h':Heap},(∃o,s.heap.get? a=aa o/\H a=ab)->ga a s.heap h'->HOk X.prog X.w H h':=λ{a h'} ha f b ob e=>by
  have(_,_,hfree):=ha;show(I.hok b ob e).stay (λc w' C q=>(f.2 c ?_).trans q) (λ_ q=>q) λ_ _ q=>q
  grind
 rcases B with hk |hk
 .show wpAny_storeName_local hk hn (λh' hn' f=>?_) hcls;have(oL,_,_,hoL,_):=id hn;show h _ (I.ok,I.os,I.bare,(λb o e n L B=>((f.2 b (bW (fh (bz e) I.ok.above))).trans (I.base.keep b o e n L B)),λb o e n L B=>?_,I.base.free,λb o e B=>?_,I.base.tups,I.base.frzs,I.base.tbls),(_,hn',λj y v' g G e3=>?_),λy c e=>?_,I.free,I.freeC,λp hp=>?_,l (oL,hoL,I.free) f,by simpa using I.len) (_,f,.inl rfl)
  .have(sl,g):=I.base.slot b o e n L B;show(sl,(f.2 b (bW (fh (bz e) I.ok.above))).trans g)
  .have(o',g):=I.base.there b o e B;show(o',(f.2 b (bW (fh (bz e) I.ok.above))).trans g)
  .by_cases T:j=i
   .subst T;rw[hi]at g;cases g;rw[jV J]at G;cases G;show(u,r,.inl (hk,by simp))
   .rw[kK (eG T)]at G;have(u',r',q):=hl j y v' g G e3;show(u',r',?_)
    rcases q with⟨k,e⟩ |⟨k,c,e,z⟩
    .show .inl (k,?_);have:y≠x:=λe=>T (D0 hN g (e▸hi))
     grind
    .show .inr (k,c,e,z.sameBut f (cne y c e))
  .have(w',z):=I.cell y c e;show(w',z.sameBut f (cne y c e))
  .have(e,n,ne,nf,d):=I.pin p hp;show((f.2 p.1 ne).trans e,n,ne,nf,d)
 .have M:X.fn x=ac:=by
   grind
  have(c,C):=I.ok.has x (.inl hk);have(w',z):=I.cell x c C;show wpAny_storeName_cell I.ok.kind hk C z (λh' Y f=>?_);have(oc,hoc,hocd):=id z
  show h {s with heap:=h'} (I.ok,I.os,I.bare,(λb o e n L B=>((f.2 b (bW (fh (bz e) (I.ok.cab x c M C)))).trans (I.base.keep b o e n L B)),λb o e n L B=>?_,I.base.free,λb o e B=>?_,I.base.tups,I.base.frzs,I.base.tbls),(m,hn.sameBut f (eG (cne x c C)),λj y v' g G e3=>?_),λy c' e=>?_,I.free,I.freeC,λp hp=>?_,l (oc,hoc,I.freeC x c C) f,by simpa using I.len) (c,f,.inr C)
  .have(sl,g):=I.base.slot b o e n L B;show(sl,(f.2 b (bW (fh (bz e) (I.ok.cab x c M C)))).trans g)
  .have(o',g):=I.base.there b o e B;show(o',(f.2 b (bW (fh (bz e) (I.ok.cab x c M C)))).trans g)
  .by_cases T:j=i
   .subst T;rw[hi]at g;cases g;rw[jV J]at G;cases G;show(u,r,.inr (.inl hk,c,C,Y))
   .rw[kK (eG T)]at G;have(u',r',q):=hl j y v' g G e3;show(u',r',?_)
    rcases q with q |⟨k,c',e,z'⟩
    .show .inl q
    .show .inr (k,c',e,z'.sameBut f ?_);rintro rfl;show T (D0 hN g (I.ok.inj _ _ _ e C▸hi))
  .by_cases hcc:c'=c
   .subst hcc;show(_,Y)
   .have(w2,z2):=I.cell y c' e;show(w2,z2.sameBut f hcc)
  .have(e,n,ne,nf,d):=I.pin p hp;show((f.2 p.1 ?_).trans e,n,ne,nf,d);intro q;rw[q,hoc]at e;show d w' (by rw[<- (c9 e)];show hocd)
end
def w9{s:ah}(I:Inv X U E H s)(c:X.N.Nodup)(hi:X.N[i]?=aa x)(e:Loc X.env.scope x)(r:aB v u)
 (h:∀a,Inv X U (E.set i (aa v)) H a->Q () a)(d:LcF X x:=by first |exact .inl rfl |exact .inr rfl |assumption):wpAny V1 A (storeName X.env x u) Q V4 s:=
 D3 I c hi e r (λa b _=>h a b) d
variable{s':ah}
def Inv.call'{s:ah}{ch:LAd}(I:Inv X U E H s)(e:s'.os=s.os)(u:Un (frs X.stack) ch H H' s.heap s'.heap)(hok:HOk X.prog X.w H' s'.heap)(d:jZ s'.gens)
 (a:∀b∈ch,(b∈X.ex\/X.s₀.heap.objs.size<=b)/\b≠X.env.locals/\(∀x c,X.env.cells.lookup x=aa c->c≠b)/\∀p∈X.pn++U,p.1≠b):Inv X U E H' s':=by
 have(h',g',d',t',o'):=s';subst e;show I.call u hok d a
nonrec def XK:=Value->Option Addr->Hp->Prop
nonrec def St:=List (Option V)
nonrec def VK:=V->Hp->Prop
nonrec def TE:=St->Hp->VK->Prop
nonrec def TT:=St->Hp->(Bool->Hp->Prop)->Prop
nonrec def TA:=St->Hp->(LVv->Hp->Prop)->Prop
structure i5 where
 nx:St->Hp->Prop
 rt:VK
 bk:St->Hp->Prop:=λ_ _=>False
 ct:St->Hp->Prop:=λ_ _=>False
nonrec def TS:=i5->St->Hp->Prop
abbrev EP(X:Cx)(U:PNS)(E:St)(Q:VK)(u:Value)(s':ah):Prop:=∃v H',Inv X U E H' s'/\aB v u/\Q v H'
abbrev TP(X:Cx)(U:PNS)(E:St)(Q:Bool->Hp->Prop)(b:Bool)(s':ah):Prop:=∃H',Inv X U E H' s'/\Q b H'
abbrev AP(X:Cx)(U:PNS)(E:St)(Q:LVv->Hp->Prop)(us:LVa)(s':ah):Prop:=∃vs H',Inv X U E H' s'/\aG vs us/\Q vs H'
abbrev SP(X:Cx)(U:PNS)(D:i5)(f:Flow)(s':ah):Prop:=
 match f with
 |.next=>∃σ' H',Inv X U σ' H' s'/\D.nx σ' H'
 |.brk=>∃σ' H',Inv X U σ' H' s'/\D.bk σ' H'
 |.cont=>∃σ' H',Inv X U σ' H' s'/\D.ct σ' H'
 |.ret u=>∃v σ' H',Inv X U σ' H' s'/\aB v u/\D.rt v H'
abbrev PE(X:Cx)(e:Expr)(t:TE):Prop:=
 ∀(U:PNS) (s:ah) (E:St) (H:Hp) (Q:VK),Inv X U E H s->t E H Q->wpAny (model X.prog X.w) X.A (eval e X.env) (EP X U E Q) X.xe s
abbrev PT(X:Cx)(e:Expr)(t:TT):Prop:=
 ∀(U:PNS) (s:ah) (E:St) (H:Hp) (Q:Bool->Hp->Prop),Inv X U E H s->t E H Q->wpAny (model X.prog X.w) X.A (isTrue e X.env (eval e X.env)) (TP X U E Q) X.xe s
abbrev PW(X:Cx)(e:Expr)(t:TT):Prop:=
 ∀(a:Sem Value) (U:PNS) (s:ah) (E:St) (H:Hp) (Q:Bool->Hp->Prop),Inv X U E H s->t E H Q->wpAny (model X.prog X.w) X.A (isTrue e X.env a) (TP X U E Q) X.xe s
variable{e:Expr}
def PW.pt{t:TT}(h:PW X e t):PT X e t:=h _
abbrev PA(X:Cx)(es:LEx)(t:TA):Prop:=
 ∀(pos:Pos) (U:PNS) (s:ah) (E:St) (H:Hp) (Q:LVv->Hp->Prop),Inv X U E H s->t E H Q->wpAny (model X.prog X.w) X.A (spliced (ce pos (aN es X.env))) (AP X U E Q) X.xe s
abbrev PS(X:Cx)(st:Stmt)(t:TS):Prop:=
 ∀(U:PNS) (s:ah) (E:St) (H:Hp) (D:i5),Inv X U E H s->t D E H->wpAny (model X.prog X.w) X.A (exec st X.env) (SP X U D) X.xe s
abbrev PSs(X:Cx)(st:List Stmt)(t:TS):Prop:=
 ∀(U:PNS) (s:ah) (E:St) (H:Hp) (D:i5),Inv X U E H s->t D E H->wpAny (model X.prog X.w) X.A (execs st X.env) (SP X U D) X.xe s
def thn{c:Type}{t:Sem c}{Q b:c->ah->Prop}{s:ah}(h:wpAny V1 A t Q V4 s)(d:∀a s,Q a s->b a s):wpAny V1 A t b V4 s:=fK h d λ_ _ x=>x
abbrev cQ(i:Nat):TE:=λE H Q=>∃v,E[i]?=aa (aa v)/\Q v H
abbrev tC(v:V):TE:=λ_ H Q=>Q v H
variable{pos:Pos}
def mD(g:X.N[i]?=aa x)(hv:Vis X.env.scope x)(hd:NDb x:=by decide)(d:NCd x:=by decide):PE X (.Name x pos) (cQ i):=by
 intro U s E H Q I h;have(v,e,h):=h;have(m,hn,j):=I.loc;have(u,r,l):=j i x v g e hv;have fin:EP X U E Q u s:=(v,H,I,r,h)
 rcases l with⟨b,hm⟩ |⟨b,c,f,a⟩
 .show wpAny_Name (wpAny_loadName_local I.ok.kind b hn hm fin) hd
 .rcases b with b |b
  .show wpAny_Name (wpAny_loadName_cell I.ok.kind b f a fin) hd
  .show wpAny_Name (wpAny_loadName_free I.ok.kind b f a fin d) hd
def D4{i j pos}:PE X (.Constant (.int i) j pos) (tC (.int i)):=λ_ _ _ H _ I h=>wpAny_Constant_int (.int i,H,I.tok _,(_,rfl),h)
def Kd{b j pos}:PE X (.Constant (.bool b) j pos) (tC (.bl b)):=λ_ _ _ H _ I h=>Constant_bool (.bl b,H,I,rfl,h)
def Ke{j pos}:PE X (.Constant .none j pos) (tC .non):=λ_ _ _ H _ I h=>Constant_none (.non,H,I,rfl,h)
def Kf{x j pos}:PE X (.Constant (.str x) j pos) (tC (.str x)):=λ_ _ _ H _ I h=>Calls.Constant_str (.str x,H,I.tok _,(_,rfl),h)
abbrev Gl(X:Cx)(x:Str):Prop:=X.env.kindOf x=aa .globalImplicit
variable{E:St}
def xc{s:ah}{Q:PRS}(I:Inv X U E H s)(a:Gl X x)(hm:X.mg x=aa u)(h:Q u s)
 (hd:NDb x:=by decide):wpAny (model X.prog X.w) X.A (eval (.Name x pos) X.env) Q V4 s:=
 Calls.Name_function_global I.ok.kind a (Calls.loadGlobal_global (by rw[I.ok.glob];show I.mod.glob.keeps I.bk) hm h) hd
def g9{s:ah}{Q:PRS}(I:Inv X U E H s)(a:Gl X x)(hm:X.mg x=ab)(hv:jC x=aa u)(h:Q u s)
 (hn:x ≠ "__name__":=by decide)(hd:NDb x:=by decide):wpAny (model X.prog X.w) X.A (eval (.Name x pos) X.env) Q V4 s:=by
 have(mb,h1,h2):=I.mod.blt;show Calls.Name_function_global I.ok.kind a (Calls.loadGlobal_builtin (by rw[I.ok.glob];show I.mod.glob.keeps I.bk) hm (by rw[I.ok.blt];show h1.keeps I.bk) ((h2 x hn).trans hv) h) hd
def Kg(a:Gl X x)(hm:X.mg x=ab)(hv:jC x=aa u)(r:aB v u)(hn:x ≠ "__name__":=by decide)(hd:NDb x:=by decide):PE X (.Name x pos) (tC v):=
 λ_ _ _ H _ I h=>g9 I a hm hv (v,H,I,r,h) hn hd
abbrev t2I(a b:TE)(k:Int->Int->Hp->Prop):St->Hp->Prop:=λE H=>a E H λx H1=>b E H1 λy H2=>∃i j,x=.int i/\y=.int j/\k i j H2
abbrev gB(a b:TE):TE:=λE H Q=>t2I a b (λi j H2=>Q (.int (i+j)) H2) E H
abbrev PC(X:Cx)(op:CmpOp)(a b:Expr)(t:TE):Prop:=
 ∀(U:PNS) (s:ah) (E:St) (H:Hp) (Q:VK),Inv X U E H s->t E H Q ->
  wpAny (model X.prog X.w) X.A (eval a X.env) (λv c=>wpAny (model X.prog X.w) X.A (eval b X.env) (λu d=>wpAny (model X.prog X.w) X.A (cW op v u) (EP X U E Q) X.xe d) X.xe c) X.xe s
variable{a b:Expr}
def Kh{op:CmpOp}{t:TE}(h:PC X op a b t)(h1:kU op b=af:=by first |exact nobehind _ (by decide) (by decide) |rfl):PE X (.Compare a [op] [b] pos) t:=λU s E H Q I c=>wpAny_Compare1 (h U s E H Q I c) h1
abbrev Ki(t u:TT):TT:=λE H Q=>t E H λc H1=>if c=ac then u E H1 Q else Q af H1
abbrev tOr(t u:TT):TT:=λE H Q=>t E H λc H1=>if c=ac then Q ac H1 else u E H1 Q
abbrev Kj(t:TT):TT:=λE H Q=>t E H λc H1=>Q (!c) H1
variable{tA:TT}
def Kk(ha:PT X a tA):PW X (.BoolOp .And [a] pos) tA:=by
 intro wh U s E H Q I h;show isTrue_and (thn (ha U s E H Q I h) λc s1 e=>?_)
 cases c with
 |true=>show isTrue_and_nil e
 |false=>show e
def Kl(ha:PT X a tA):PW X (.BoolOp .Or [a] pos) tA:=by
 intro wh U s E H Q I h;show isTrue_or (thn (ha U s E H Q I h) λc s1 e=>?_)
 cases c with
 |false=>show isTrue_or_nil e
 |true=>show e
variable{tB':TT}
def Km{rest:LEx}(ha:PT X a tA)(f:PW X (.BoolOp .And (b::rest) pos) tB'):PW X (.BoolOp .And (a::b::rest) pos) (Ki tA tB'):=by
 intro wh U s E H Q I h;show isTrue_and (thn (ha U s E H _ I h) λc s1 g=>?_);have(H1,d,e):=g
 cases c with
 |true=>show f wh U s1 E H1 Q d e
 |false=>show(H1,d,e)
def Kn{rest:LEx}(ha:PT X a tA)(f:PW X (.BoolOp .Or (b::rest) pos) tB'):PW X (.BoolOp .Or (a::b::rest) pos) (tOr tA tB'):=by
 intro wh U s E H Q I h;show isTrue_or (thn (ha U s E H _ I h) λc s1 g=>?_);have(H1,d,e):=g
 cases c with
 |true=>show(H1,d,e)
 |false=>show f wh U s1 E H1 Q d e
def Ko(ha:PT X a tA):PT X (.UnaryOp .Not a pos) (Kj tA):=by
 intro U s E H Q I h;show isTrue_not (ha U s E H _ I h)
abbrev Kq(a b:TE):TE:=λE H Q=>a E H λx H1=>∃c,x=.bl c/\if c=ac then b E H1 Q else Q (.bl af) H1
abbrev Kr(a b:TE):TE:=λE H Q=>a E H λx H1=>∃c,x=.bl c/\if c=ac then Q (.bl ac) H1 else b E H1 Q
abbrev Ks(a:TE):TE:=λE H Q=>a E H λx H1=>∃c,x=.bl c/\Q (.bl (!c)) H1
def Kt{op}{t:TE}(h:PE X a t):PE X (.BoolOp op [a] pos) t:=λU s E H Q I b=>BoolOp_one (h U s E H Q I b)
variable{ta tb:TE}
def Ku{rest:LEx}(ha:PE X a ta)(f:PE X (.BoolOp .And (b::rest) pos) tb):PE X (.BoolOp .And (a::b::rest) pos) (Kq ta tb):=by
 intro U s E H Q I h;show BoolOp_and (thn (ha U s E H _ I h) λv s1 g=>?_);have(x,H1,e,i,d):=g;have(c,rfl,d):=d;subst i;show n9 ?_
 cases c with
 |true=>show f U s1 E H1 Q e d
 |false=>show(.bl af,H1,e,rfl,d)
def Kv{rest:LEx}(ha:PE X a ta)(f:PE X (.BoolOp .Or (b::rest) pos) tb):PE X (.BoolOp .Or (a::b::rest) pos) (Kr ta tb):=by
 intro U s E H Q I h;show BoolOp_or (thn (ha U s E H _ I h) λv s1 g=>?_);have(x,H1,e,i,d):=g;have(c,rfl,d):=d;subst i;show n9 ?_
 cases c with
 |false=>show f U s1 E H1 Q e d
 |true=>show(.bl ac,H1,e,rfl,d)
def Kw(ha:PE X a ta):PE X (.UnaryOp .Not a pos) (Ks ta):=by
 intro U s E H Q I h;show UnaryOp_ (thn (ha U s E H _ I h) λv s1 e=>?_);have(x,H1,d,f,b):=e;have(c,rfl,b):=b;subst f;show not_of (n9 (.bl (!c),H1,d,rfl,b))
abbrev tIf(t:TT)(ta tb:TE):TE:=λE H Q=>t E H λc H1=>if c=ac then ta E H1 Q else tb E H1 Q
variable{c:Expr}
def D5(i:PT X c tA)(ha:PE X a ta)(g:PE X b tb):PE X (.IfExp c a b pos) (tIf tA ta tb):=by
 intro U s E H Q I h;show wpAny_IfExp (thn (i U s E H _ I h) λd s1 j=>?_);have(H1,e,f):=j
 cases d with
 |true=>show ha U s1 E H1 Q e f
 |false=>show g U s1 E H1 Q e f
abbrev SqL(K:aQ)(H:Hp)(a:Addr)(C:LVv):Prop:=
 Rd H a (.lst C) \/
  ∃(o:Obj) (B:Array Value) (n:Nat),K.lookup a=aa o/\o.cls=.type "list" /\ o.dict=ab/\o.data=.seq B n/\B.size<=aS/\aG C B.toList
abbrev SqT(K:aQ)(H:Hp)(a:Addr)(C:LVv):Prop:=
 Rd H a (.tup C) \/
  ∃(o:Obj) (B:Array Value) (n:Nat),K.lookup a=aa o/\o.cls=.type "tuple" /\ o.data=.seq B n/\B.size<=aS/\aG C B.toList
abbrev Kx:Value->Option V
 |.none=>aa .non
 |.bool b=>aa (.bl b)
 |.int i _=>aa (.int i)
 |.str x _=>aa (.str x)
 |.bytes b _=>aa (.byt b)
 |.float b _=>aa (.flt b)
 |.ref a=>aa (.ref a)
 |.type n=>aa (.ty n)
 | _=>ab
def aB.abs{x:V}(r:aB x u):Kx u=aa x:=by
 cases x with
 |non=>subst r;rfl
 |bl _=>subst r;rfl
 |int _=>have(t,rfl):=r;rfl
 |str _=>have(t,rfl):=r;rfl
 |byt _=>have(t,rfl):=r;rfl
 |flt _=>have(t,rfl):=r;rfl
 |ref _=>subst r;rfl
 |ty _=>subst r;rfl
variable{y:V}
def aB.inj{x:V}(r:aB x u)(q:aB y u):x=y:=c9 (r.abs.symm.trans q.abs)
def aG.inj:∀{C a:LVv} {us:LVa},aG C us->aG a us->C=a
 | _,_,_,.nil,.nil=>rfl
 | _,_,_,.cons r t,.cons r' t'=>by rw[r.inj r',aG.inj t t']
variable{a:Addr}{K:aQ}
def SqL.of(h:H a=aa (.lst C)):SqL K H a C:=.inl (.inl h)
def SqT.of(h:H a=aa (.tup C)):SqT K H a C:=.inl (.inl h)
def Inv.list{s:ah}(I:Inv X U E H s)(h:SqL X.K H a C):∃B:LVa,aG C B/\PlainL s.heap a B.toArray/\C.length<=aS:=by
 rcases h with h |⟨o,B,n,hk,hc,hd,hs,hz,r⟩
 .have(z,B,n,r,e):=h.ok I.hok;show(B,r,(_,n,e,rfl,rfl,rfl),z)
 .show(B.toList,r,(o,n,I.kIn a o hk,hc,hd,by simpa using hs),?_);have e:=r.length
  grind
def Inv.tuple{s:ah}(I:Inv X U E H s)(h:SqT X.K H a C):∃B:LVa,aG C B/\IsTup s.heap a B.toArray/\C.length<=aS:=by
 rcases h with h |⟨o,B,n,hk,hc,hs,hz,r⟩
 .have(z,B,r,p):=h.ok I.hok;show(B,r,p,z)
 .show(B.toList,r,(o,I.kIn a o hk,hc,n,by simpa using hs),?_);have e:=r.length;simp only[iQ]at e
  lia
variable{ys:LVv}
def Inv.list_inj{s:ah}(I:Inv X U E H s)(h:SqL X.K H a C)(h':SqL X.K H a ys):C=ys:=by
 have(B,r,(o,n,e,_,_,d),_):=I.list h;have(b,c,(o',f,e',_,_,d'),_):=I.list h';rw[e]at e';cases e';rw[d]at d'
 injection d' with d1 _
 have:B=b:=by simpa using congrArg Array.toList d1
 subst this;show r.inj c
def Inv.tuple_inj{s:ah}(I:Inv X U E H s)(h:SqT X.K H a C)(h':SqT X.K H a ys):C=ys:=by
 have(B,r,(o,e,_,n,d),_):=I.tuple h;have(b,c,(o',e',_,f,d'),_):=I.tuple h';rw[e]at e';cases e';rw[d]at d'
 injection d' with d1 _
 have:B=b:=by simpa using congrArg Array.toList d1
 subst this;show r.inj c
nonrec def Cx.wish(X:Cx)(V4:PRS):Cx:={X with xe:=V4}
nonrec def Cx.nox(X:Cx):Cx:=X.wish λ_ _=>False
def Cx.Ok.wish(ok:X.Ok)(V4:PRS):(X.wish V4).Ok:=
 (ok.mod,ok.kind,ok.glob,ok.blt,ok.above,ok.inj,ok.has,ok.cab,ok.hd,ok.frames,ok.stk,ok.exf,ok.bs,ok.bsz,ok.noex,ok.exfs,ok.funs,ok.frf)
def Cx.Ok.unwish(ok:(X.wish V4).Ok):X.Ok:=
 (ok.mod,ok.kind,ok.glob,ok.blt,ok.above,ok.inj,ok.has,ok.cab,ok.hd,ok.frames,ok.stk,ok.exf,ok.bs,ok.bsz,ok.noex,ok.exfs,ok.funs,ok.frf)
def Inv.wish{s:ah}(I:Inv X U E H s)(V4:PRS):Inv (X.wish V4) U E H s:=(I.ok.wish V4,I.os,I.bare,I.base,I.loc,I.cell,I.free,I.freeC,I.pin,I.hok,I.len)
def Inv.unwish{s:ah}(I:Inv (X.wish V4) U E H s):Inv X U E H s:=(I.ok.unwish,I.os,I.bare,I.base,I.loc,I.cell,I.free,I.freeC,I.pin,I.hok,I.len)
def SP.unwish{D:i5}{f:Flow}(h:SP (X.wish V4) U D f s'):SP X U D f s':=by
 cases f with
 |next=>have(σ',H',I,q):=h;show(σ',H',I.unwish,q)
 |brk=>have(σ',H',I,q):=h;show(σ',H',I.unwish,q)
 |cont=>have(σ',H',I,q):=h;show(σ',H',I.unwish,q)
 |ret u=>have(v,σ',H',I,r,q):=h;show(v,σ',H',I.unwish,r,q)
def PSs.nox{st:List Stmt}{t:TS}(h:PSs X.nox st t):PSs X st t:=λU s E H D I a=>
 fK (h U s E H D (I.wish _) a) (λ_ _ q=>q.unwish) λ_ _ z=>gU z
abbrev Ky:TS:=λD E H=>D.nx E H
abbrev Kz(t u:TS):TS:=λD E H=>t {D with nx:=u D} E H
def D6:PSs X [] Ky:=λ_ _ E H _ I h=>s9 (E,H,I,h)
variable{st:Stmt}{u:TS}
def tI{rest:List Stmt}{t:TS}(h1:PS X st t)(h2:PSs X rest u):PSs X (st::rest) (Kz t u):=by
 intro U s E H D I h
 show wpAny_execs_cons (thn (h1 U s E H {D with nx:=u D} I h) λf s1 q=>?_)
 cases f with
 |next=>
  have(σ',H',a,q):=q
  show h2 U s1 σ' H' D a q
 |ret v=>show q
 |brk=>show q
 |cont=>show q
def D7{t:TS}(h1:PS X st t):PSs X [st] t:=by
 intro U s E H D I h;show wpAny_execs_cons (thn (h1 U s E H D I h) λf s1 q=>?_)
 cases f with
 |next=>show s9 q
 |ret v=>show q
 |brk=>show q
 |cont=>show q
def Inv.quiet{s:ah}(I:Inv X U E H s):interactive X.env=af:=by simp[interactive,I.ok.kind]
abbrev mE(te:TE):TS:=λD E H=>te E H λ_ H1=>D.nx E H1
variable{te:TE}
def lh(b:PE X e te)(c:f8 e ab pos.line X.env=pure af:=by rfl):PS X (.Expr e pos) (mE te):=by
 intro U s E H D I h;show wpAny_Expr_any (thn (b U s E H _ I h) λv s1 (x,H1,a,f,d)=>(E,H1,a,d)) I.quiet c
abbrev KA(te:TE):TS:=λD E H=>te E H D.rt
def tJ(b:PE X e te):PS X (.Return (aa e) pos) (KA te):=by
 intro U s E H D I h;show wpAny_Return_some (thn (b U s E H _ I h) λv s1 (x,H1,a,d,c)=>(x,E,H1,a,d,c))
abbrev KB(c:TT)(t u:TS):TS:=λD E H=>c E H λb H1=>if b=ac then t D E H1 else u D E H1
variable{tc:TT}
def KC{t:TS}{a b:List Stmt}(i:PT X c tc)(ha:PSs X a t)(g:PSs X b u):PS X (.If c a b pos) (KB tc t u):=by
 intro U s E H D I h;show wpAny_If (thn (i U s E H _ I h) λd s1 j=>?_);have(H1,e,f):=j
 cases d with
 |true=>show ha U s1 E H1 D e f
 |false=>show g U s1 E H1 D e f
nonrec def TG:=V->St->Hp->(St->Hp->Prop)->Prop
nonrec def TGs:=LVv->St->Hp->(St->Hp->Prop)->Prop
abbrev PG(X:Cx)(a:Expr)(t:TG):Prop:=
 ∀(U:PNS) (s:ah) (E:St) (H:Hp) (v:V) (u:Value) (Q:St->Hp->Prop),Inv X U E H s->aB v u->t v E H Q ->
  wpAny (model X.prog X.w) X.A (assign a X.env u) (λ_ s'=>∃σ' H',Inv X U σ' H' s'/\Q σ' H') X.xe s
abbrev PGs(X:Cx)(ts:LEx)(t:TGs):Prop:=
 ∀(U:PNS) (s:ah) (E:St) (H:Hp) (vs:LVv) (us:LVa) (Q:St->Hp->Prop),Inv X U E H s->aG vs us->t vs E H Q ->
  wpAny (model X.prog X.w) X.A (assignInOrder ((iV ts X.env).map (·.2)) us) (λ_ s'=>∃σ' H',Inv X U σ' H' s'/\Q σ' H') X.xe s
nonrec def xf:=V->V->V->Hp->(Hp->Prop)->Prop
abbrev D8(X:Cx)(t:xf):Prop:=
 ∀(U:PNS) (s:ah) (E:St) (H:Hp) (o i v:V) (b a u:Value) (Q:Hp->Prop),Inv X U E H s->aB o b->aB i a->aB v u->t o i v H Q ->
  wpAny (model X.prog X.w) X.A (setItem b a u) (λ_ s'=>∃H',Inv X U E H' s'/\Q H') X.xe s
nonrec def TIp:=V->V->Hp->VK->Prop
abbrev PIp(X:Cx)(op:Operator)(t:TIp):Prop:=
 ∀(U:PNS) (s:ah) (E:St) (H:Hp) (x y:V) (v u:Value) (Q:VK),Inv X U E H s->aB x v->aB y u->t x y H Q ->
  wpAny (model X.prog X.w) X.A (inplaceOp op v u) (EP X U E Q) X.xe s
abbrev hE(i:Nat):TG:=λv E H Q=>Q (E.set i (aa v)) H
def xg(b:X.N.Nodup)(hi:X.N[i]?=aa x)(d:Loc X.env.scope x)(c:LcF X x:=by first |exact .inl rfl |exact .inr rfl |assumption):PG X (.Name x pos) (hE i):=by
 intro U s E H v u Q I r h;show wpAny_assign_Name (w9 I b hi d r (λs' a=>(_,H,a,h)) c)
abbrev KD:TGs:=λvs E H Q=>vs=[]/\Q E H
abbrev KE(t:TG)(u:TGs):TGs:=λvs E H Q=>∃v r,vs=v::r/\t v E H λσ' H'=>u r σ' H' Q
def KF:PGs X [] KD:=by
 intro U s E H vs us Q I r h;have(e,h):=h;show assignInOrder_nil (E,H,I,h)
variable{es:LEx}
def KG{t:TG}{u:TGs}(h1:PG X e t)(h2:PGs X es u)
 (d:(iV (e::es) X.env).map (·.2)=assign e X.env::(iV es X.env).map (·.2):=by rfl):PGs X (e::es) (KE t u):=by
 intro U s E H vs us Q I r h;have(v,i,c,h):=h;subst c
 cases r with
 |cons r g=>
  rw[d];show assignInOrder_cons (thn (h1 U s E H _ _ _ I r h) λ_ s1 (a,H1,b,f)=>(h2 U s1 a H1 _ _ Q b g f))
abbrev KH(K:aQ)(n:Nat)(t:TGs):TG:=λv E H Q=>∃a C,v=.ref a/\SqT K H a C/\C.length=n/\t C E H Q
def KI{k:Nat}{t:TGs}{n:Nat}(g:X.calm=ac)(h:PGs X es t)
 (hn:(iV es X.env).length=n:=by rfl)(c:(iV es X.env).findIdx? (·.1)=ab:=by rfl):PG X (.Tuple es k pos) (KH X.K n t):=by
 intro U s E H v u Q I r d;have(a,C,f,j,i,d):=d;subst f;subst r;have(B,rv,l,hz):=I.tuple j;show assign_Tuple_tuple (I.ok.hd g) l (by simp[hn,<- i,rv.length]) c λh' m=>?_;show h U _ E H C _ Q (I.kept λb o e=>m b o (bW (bz e)) e) (by simpa using rv) d
abbrev xh(to b:TE)(t:xf):TG:=λv E H Q=>to E H λo H1=>b E H1 λi H2=>t o i v H2 λa=>Q E a
def xi{o i:Expr}{to d:TE}{t:xf}(l:PE X o to)(hi:PE X i d)(m:D8 X t)
 (ha:∀ v,assign (.Subscript o i pos) X.env v=(do
   let a <- eJ [v] (eval o X.env)
   let b <- eJ [v,a] (eval i X.env)
   gz pos
   eJ [v,a,b] (setItem a b v)
   release [v,a,b] []):=by intro _;rfl):PG X (.Subscript o i pos) (xh to d t):=by
 intro U s E H v u Q I r h;show aj (jB (thn (l U s E H _ I h) λa s1 c=>?_));have(x,H1,f,w,n):=c;show aj (jB (thn (hi U s1 E H1 _ f n) λb s2 c=>?_));have(y,H2,g,z,p):=c;show aj (wpAny_standAt (aj (jB (thn (m U s2 E H2 x y v a b u _ g w z r p) λ_ A (e,j,q)=>(wpAny_release (E,e,j,q))))))
abbrev i6(te:TE)(g:TG):TS:=λD E H=>te E H λx H1=>g x E H1 D.nx
variable{tg:Expr}{g:TG}
def xj(b:PE X e te)(c:PG X tg g)(d:swapsWithSole [tg] e pos.line X.env=pure af:=by rfl)(f:swappedStores [tg] e X.env=pure ab:=by rfl)
 (h1:(iV [tg] X.env).map (·.2)=[assign tg X.env]:=by rfl):PS X (.Assign [tg] e pos) (i6 te g):=by
 intro U s E H D I h;show wpAny_Assign_stores (thn (b U s E H _ I h) λv s1 j=>?_) d f;have(x,H1,a,l,i):=j;rw[h1];show thn (c U s1 E H1 x v _ a l i) λ_ s2 q=>q
variable{b4:Pos}
def ox(c:X.N.Nodup)(hi:X.N[i]?=aa x)(j:Loc X.env.scope x)(d:PE X e te)(g:f8 e (aa (.Name x b4)) pos.line X.env=pure af:=by rfl)(f:LcF X x:=by first |exact .inl rfl |exact .inr rfl |assumption):
  PS X (.Assign [.Name x b4] e pos) (i6 te (hE i)):=by
 intro U s E H D I h;show wpAny_Assign_Name (thn (d U s E H _ I h) λv s1 (y,H1,a,m,l)=>(w9 a c hi j m (λs2 b=>(_,H1,b,l)) f)) g
abbrev KJ(i:Nat)(te:TE)(a:TIp):TS:=λD E H=>∃x,E[i]?=aa (aa x)/\te E H λy H1=>a x y H1 λz H2=>D.nx (E.set i (aa z)) H2
variable{op:Operator}
def D9{n:TIp}(G:X.N.Nodup)(hi:X.N[i]?=aa x)(g:Loc X.env.scope x)(L:PE X e te)(T:PIp X op n)(M:LcF X x:=by first |exact .inl rfl |exact .inr rfl |assumption):
  PS X (.AugAssign (.Name x b4) op e pos) (KJ i te n):=by
 intro U s E H D I h;have(v,C,h):=h;have(m,hn,Q):=I.loc
 have j:Vis X.env.scope x:=by rcases g with k |k;show .inl k;show .inr (.inl k)
 have(u,r,l):=Q i x v hi C j;show wpAny_AugAssign_Name ?_
 have go:wpAny (model X.prog X.w) X.A (eval e X.env) (λw d=>wpAny (model X.prog X.w) X.A (inplaceOp op u w) (λr f=>wpAny (model X.prog X.w) X.A (storeName X.env x r) (λ_=>SP X U D .next) X.xe f) X.xe d) X.xe s:=by
  show thn (L U s E H _ I h) λw s1 q_=>?_;have(y,H1,p,r1,Y):=q_;show thn (T U s1 E H1 v y u w _ p r r1 Y) λz s2 (zv,H2,q,r2,q2)=>(w9 q G hi g r2 (λs3 B=>(_,H2,B,q2)) M)
 rcases l with⟨a,hm⟩ |⟨a,c,J,b⟩
 .show wpAny_loadName_local I.ok.kind a hn hm go
 .rcases a with a |a
  .show wpAny_loadName_cell I.ok.kind a J b go
  .rcases g with k |k
   .have:X.env.scope.names.lookup x=aa .free:=a;rw[k]at this;nomatch this
   .have:X.env.scope.names.lookup x=aa .free:=a;rw[k]at this;nomatch this
abbrev ipI(f:Int->Int->Int):TIp:=λx y H Q=>∃i j,x=.int i/\y=.int j/\Q (.int (f i j)) H
def KL:PIp X .Add (ipI λi j=>i+j):=by
 intro U s E H x y v u Q I c d h;have(i,j,a,b,q):=h;subst a;subst b;have(t,rfl):=c;have(t',rfl):=d;show iadd_int (.int _,H,I.tok _,(_,rfl),q)
def KM:PIp X .Sub (ipI λi j=>i-j):=by
 intro U s E H x y v u Q I c d h;have(i,j,a,b,q):=h;subst a;subst b;have(t,rfl):=c;have(t',rfl):=d;show isub_int (.int _,H,I.tok _,(_,rfl),q)
abbrev KN(c:TT)(tb:TS):TS:=λD E H=>∃W:Nat->St->Hp->Prop,(∃m,W m E H)/\∀m E H,W m E H ->
 c E H λb H1=>if b=ac then ∃N:St->Hp->Prop,(∀σ' H',N σ' H'->∃a,a<m/\W a σ' H')/\tb {D with nx:=N,ct:=N,bk:=D.nx} E H1 else D.nx E H1
variable{body:List Stmt}
def KO{tb:TS}(x:PassesOwn (model X.prog X.w) X.A X.env X.xe)(B:PT X c tc)(z:PSs X body tb):PS X (.While c body [] pos) (KN tc tb):=by
 intro U s E H D I h;have(W,(C,J),g):=h;show wpAny_While (codeAny_whileLoop (λn s'=>∃σ' H',Inv X U σ' H' s'/\W n σ' H') ?_ C (E,H,I,J));rintro n s1 ⟨d,H1,y,L⟩;show me x (thn (B U s1 d H1 _ y (g n d H1 L)) λb s2 G=>?_);have(H2,r,i):=G
 cases b with
 |true=>
  have(N,u,i):=i;show me x (thn (z U s2 d H2 _ r i) λf M j=>?_)
  cases f with
  |next=>
   have(a,e,l,p):=j;have(m,hm,q):=u a e p
   show(m,hm,a,e,l,q)
  |cont=>
   have(a,e,l,p):=j;have(m,hm,q):=u a e p
   show(m,hm,a,e,l,q)
  |brk=>show j
  |ret v=>show j
 |false=>
  show s9 (d,H2,r,i)
structure It where
 go:Nat->Hp->Prop
 yld:Nat->Hp->V->Hp->Prop
 stop:Nat->Hp->Prop
abbrev hJ(X:Cx)(U:PNS)(H:Hp)(b:Addr):Prop:=
 H b=ab/\b≠X.env.locals/\b∉X.fs/\(b∈X.ex\/X.s₀.heap.objs.size<=b)/\(∀x c,X.env.cells.lookup x=aa c->c≠b)/\∀p∈X.pn++U,p.1≠b
def Inv.fpOk{s:ah}{b:Addr}(I:Inv X U E H s)(a:s.heap.objs.size<=b)(hn:H' b=ab):hJ X U H' b:=by
 show(hn,kO (fh I.lt a),I.nofs a,.inr (cN I.sz a),λx c e z=>?_,λp d z=>(absurd (fh (bz (I.pin p d).1) (by rw[z];show a)) (gy _)));have(v,q):=I.cell x c e;show absurd (fh q.lt (by rw[z];show a)) (gy _)
structure ka(P:cb)(w:World)(K:aQ)(tg:Expr)(J:It)(fp:LAd)(it:Addr)(tn:Nat->Heap->Prop):Prop where
 mem:it∈fp
 obj:∀i h,tn i h->∀b∈fp,∃o,h.get? b=aa o/\∀v,o.data≠.cell v
 keep:∀i h h',tn i h->(∀b∈fp,∀o,h.get? b=aa o->h'.get? b=aa o)->tn i h'
 item:∀(X:Cx),X.prog=P->X.w=w->X.K=K->X.calm=ac->∀(i:Nat) (U:PNS) (s:ah) (E:St) (H:Hp) (V4:PRS),Inv X U E H s->(∀b∈fp,hJ X U H b)->tn i s.heap->J.go i H ->
  wpAny (model P w) X.A (g6 (.ref it)) (λr s1=>∃ u,r=aa u /\
   wpAny (model P w) X.A (letOwnedTupleGo tg (.ref it) u) (λ_ s2=>∃x H',Inv X U E H' s2/\aB x u/\J.yld i H x H'/\tn (i+1) s2.heap/\∀b∈fp,H' b=ab) V4 s1) V4 s
 done:∀(X:Cx),X.prog=P->X.w=w->X.K=K->X.calm=ac->∀(i:Nat) (U:PNS) (s:ah) (E:St) (H:Hp) (V4:PRS),Inv X U E H s->(∀b∈fp,hJ X U H b)->tn i s.heap->J.stop i H ->
  wpAny (model P w) X.A (g6 (.ref it)) (λr s1=>r=ab/\Inv X U E H s1) V4 s
 self:∀(A:b8) (i:Nat) (s:ah) (Q:PRS) (V4:PRS),tn i s.heap->Q (.ref it) s->wpAny (model P w) A (pyIter (.ref it)) Q V4 s
nonrec def TI:=St->Hp->(It->Hp->Prop)->Prop
abbrev PIE(X:Cx)(U:PNS)(E:St)(tg:Expr)(R:It->Hp->Prop)(a:Value)(s2:ah):Prop:=
 ∃(it:Addr) (fp:LAd) (tn:Nat->Heap->Prop) (J:It) (H':Hp),a=.ref it/\Inv X U E H' s2/\ka X.prog X.w X.K tg J fp it tn/\tn 0 s2.heap/\(∀b∈fp,hJ X U H' b)/\R J H'
abbrev PI(X:Cx)(tg iter:Expr)(a:TI):Prop:=
 ∀(U:PNS) (s:ah) (E:St) (H:Hp) (R:It->Hp->Prop),Inv X U E H s->a E H R ->
  wpAny (model X.prog X.w) X.A (eval iter X.env) (λv s1=>wpAny (model X.prog X.w) X.A (pyIter v) (PIE X U E tg R) X.xe s1) X.xe s
variable{u:Value}
def tK{s:ah}{o:Obj}{n:String}{vs:Array Value}(c:s.heap.get? it = aa o)(b:o.cls = .type n)(hd:o.data = .fields vs)
   (hn:["enumerate", "zip", "dict_itemiterator", "dict_reverseitemiterator", "odict_iterator", "itertools.zip_longest", "itertools.pairwise"].contains n = af)(a:Q () s):wpAny V1 A (letOwnedTupleGo tg (.ref it) u) Q V4 s:= by
  cases tg <;> first
    |show aD a
    | (cases u <;> first
        |show aD a
        | (show aj (wpAny_load c ?_)
           rw[b, hd];change wpAny V1 A (if _ = ac then _ else _) Q V4 s;rw[if_neg (by intro h;rw[hn, Bool.false_and]at h;nomatch h)];show aD a))
abbrev Itl(K:aQ)(a:Addr):It:=
 (λi H=>∃C x,SqL K H a C/\C[i]?=aa x,λi H x H'=>H'=H/\∀C,SqL K H a C->C[i]?=aa x,λi H=>∃C,SqL K H a C/\C.length<=i)
abbrev Itt(K:aQ)(a:Addr):It:=
 (λi H=>∃C x,SqT K H a C/\C[i]?=aa x,λi H x H'=>H'=H/\∀C,SqT K H a C->C[i]?=aa x,λi H=>∃C,SqT K H a C/\C.length<=i)
abbrev Itr(lo:Int)(n:Nat):It:=(λi _=>i<n,λi H x H'=>H'=H/\x=.int (lo+i),λi _=>n<=i)
def KP(a it:Addr):ka P w K tg (Itl K a) [it] it (λi h=>h.IsListIter it a i) where
 mem:=by simp
 obj:=λi h st b hb=>by
  have e:b=it:=by simpa using hb
  subst e;have(o,e,c,d):=st;show⟨o,e,λv z=>by rw[d]at z;nomatch z⟩
 keep:=λi h h' st k=>st.at λo e=>k it (by simp) o e
 item:=by
  intro X hP hw hK hc i U s E H V4 I hf st hg;subst hP hw hK;have(C,x,hq,hx):=hg;have(B,rv,p,hz):=I.list hq;have(u,hu,ru):=rv.get hx;have(f0,f1,f2,f3,f4,f5):=hf it (by simp);show wpAny_pyNext_list_item st p.isList (by simpa using hu) λh' eh sb=>?_;have(o,e,c,d):=id eh;show(u,rfl,tK e c d (rfl) (x,H,(I.turned (λb o hb e=>(sb.2 b hb).trans e) f0 f1 f3 f4 f5),ru,(rfl,λys hy=>by rw[I.list_inj hy hq];show hx),eh,λb hb=>(hf b hb).1))
 done:=by
  intro X hP hw hK hc i U s E H V4 I hf st hg;subst hP hw hK;have(C,hq,hx):=hg;have(B,rv,p,hz):=I.list hq;have(f0,f1,f2,f3,f4,f5):=hf it (by simp);have hl:=rv.length;show wpAny_pyNext_list_end (I.ok.hd hc) st p.isList (by simp;lia) λh' eb=>(rfl,I.turned (λb o hb e=>eb b o hb e) f0 f1 f3 f4 f5)
 self:=λ_ _ _ _ _ st h=>wpAny_pyIter_listiter st h
def KQ(a it:Addr):ka P w K tg (Itt K a) [it] it (λi h=>h.IsTupleIter it a i) where
 mem:=by simp
 obj:=λi h st b hb=>by
  have e:b=it:=by simpa using hb
  subst e;have(o,e,c,d):=st;show⟨o,e,λv z=>by rw[d]at z;nomatch z⟩
 keep:=λi h h' st k=>st.at λo e=>k it (by simp) o e
 item:=by
  intro X hP hw hK hc i U s E H V4 I hf st hg;subst hP hw hK;have(C,x,hq,hx):=hg;have(B,rv,p,hz):=I.tuple hq;have(u,hu,ru):=rv.get hx;have(f0,f1,f2,f3,f4,f5):=hf it (by simp);show wpAny_pyNext_tuple_item st (p) (by simpa using hu) λh' eh sb=>?_;have(o,e,c,d):=id eh;show(u,rfl,tK e c d (rfl) (x,H,(I.turned (λb o hb e=>(sb.2 b hb).trans e) f0 f1 f3 f4 f5),ru,(rfl,λys hy=>by rw[I.tuple_inj hy hq];show hx),eh,λb hb=>(hf b hb).1))
 done:=by
  intro X hP hw hK hc i U s E H V4 I hf st hg;subst hP hw hK;have(C,hq,hx):=hg;have(B,rv,p,hz):=I.tuple hq;have(f0,f1,f2,f3,f4,f5):=hf it (by simp);have hl:=rv.length;show wpAny_pyNext_tuple_end (I.ok.hd hc) st (p) (by simp;lia) λh' eb=>(rfl,I.turned (λb o hb e=>eb b o hb e) f0 f1 f3 f4 f5)
 self:=λ_ _ _ _ _ st h=>wpAny_pyIter_tupleiter st h
def KR(it:Addr)(lo:Int)(n:Nat):ka P w K tg (Itr lo n) [it] it (λi h=>IsRangeIter h it (lo+(i:Nat)*1) ((n:Int)-(i:Nat)) 1) where
 mem:=by simp
 obj:=λi h st b hb=>by
  have e:b=it:=by simpa using hb
  subst e
  show⟨_,st,λv z=>by
   nomatch z⟩
 keep:=λi h h' st k=>k it (by simp) _ st
 item:=by
  intro X hP hw hK hc i U s E H V4 I hf st hg;have(f0,f1,f2,f3,f4,f5):=hf it (by simp);show(Walks.range (I.ok.hd hc) it lo 1 n).item i s _ _ hg st λv h' tk hv eh kk=>?_;have(t,rfl):=hv
  have I1:Inv X U E H {s with heap:=h',toks:=tk}:=I.turned (λb o hb e=>kk b o (by simpa using hb) e) f0 f1 f3 f4 f5
  show(_,rfl,tK eh rfl rfl (rfl) (.int _,H,I1,(t,?_),(rfl,rfl),eh,λb hb=>(hf b hb).1));rw[Int.mul_one]
 done:=by
  intro X hP hw hK hc i U s E H V4 I hf st hg;have(f0,f1,f2,f3,f4,f5):=hf it (by simp);show wpAny_pyNext_range_end (I.ok.hd hc) st (by have:n<=i:=hg;lia) λh' eb=>(rfl,I.turned (λb o hb e=>eb b o hb e) f0 f1 f3 f4 f5)
 self:=λ_ _ _ _ _ st h=>wpAny_pyIter_rangeiter st h
abbrev xk(K:aQ)(tl:TE):TI:=λE H R=>tl E H λx H1=>∃a,x=.ref a/\(∃C,SqL K H1 a C)/\R (Itl K a) H1
abbrev KS(K:aQ)(tl:TE):TI:=λE H R=>tl E H λx H1=>∃a,x=.ref a/\(∃C,SqT K H1 a C)/\R (Itt K a) H1
variable{l:Expr}{tl:TE}
def xl(f:PE X l tl):PI X tg l (xk X.K tl):=by
 intro U s E H R I h;show thn (f U s E H _ I h) λv s1 j=>?_;have(x,H1,c,m,i):=j;have(a,e,(C,g),q):=i;subst e;subst m;have(B,rv,p,hz):=c.list g;show wpAny_pyIter_list p.isList ?_;show(s1.heap.objs.size,_,_,_,H1,rfl,c.kept λb o e=>bx _ e,KP a _,(_,cP _ rfl,rfl,rfl),λb d=>?_,q);have e:b=s1.heap.objs.size:=by simpa using d
 subst e;show c.fpOk (aL _) (c.hok.fresh (aL _))
def KU(f:PE X l tl):PI X tg l (KS X.K tl):=by
 intro U s E H R I h;show thn (f U s E H _ I h) λv s1 j=>?_;have(x,H1,c,m,i):=j;have(a,e,(C,g),q):=i;subst e;subst m;have(B,rv,p,hz):=c.tuple g;show wpAny_pyIter_tuple (p) ?_;show(s1.heap.objs.size,_,_,_,H1,rfl,c.kept λb o e=>bx _ e,KQ a _,(_,cP _ rfl,rfl,rfl),λb d=>?_,q);have e:b=s1.heap.objs.size:=by simpa using d
 subst e;show c.fpOk (aL _) (c.hok.fresh (aL _))
def KW{s:ah}{R:It->Hp->Prop}{lo hi:Int}{t u v:Tok}{c:Nat}(I:Inv X U E H s)(h1:-(2 ^ 62)<=lo)(h2:lo<2 ^ 62)(g:-(2 ^ 62)<=hi)(h:hi<2 ^ 62)
 (q:R (Itr lo (hi-lo).toNat) H):wpAny (model X.prog X.w) X.A (pyIter (.ref s.heap.objs.size)) (PIE X U E tg R) V4 {s with heap:=s.heap.push {cls:=.type "range",data:=.fields #[.int lo t,.int hi u,.int 1 v]},toks:=c}:=by
 show wpAny_pyIter_range (IsRange.new ..) (small_one h1 h2 g h) ?_
 have a:Inv X U E H {s with heap:=s.heap.push {cls:=.type "range",data:=.fields #[.int lo t,.int hi u,.int 1 v]},toks:=c}:=I.kept λb o e=>bx _ e
 show((s.heap.push {cls:=.type "range",data:=.fields #[.int lo t,.int hi u,.int 1 v]}).objs.size,_,_,_,H,rfl,
  a.kept λb o e=>bx _ e,KR _ lo (hi-lo).toNat,?_,λb i=>?_,q)
 .have d:lo+((0:Nat):Int)*1=lo:=by simp
  have f:(((hi-lo).toNat:Nat):Int)-((0:Nat):Int)=eK.Range.rangeSize lo hi 1:=by rw[rangeSize_one];split <;> lia
  rw[d,f];show cP _ rfl
 .have e:b=(s.heap.push {cls:=.type "range",data:=.fields #[.int lo t,.int hi u,.int 1 v]}).objs.size:=by simpa using i
  subst e;show a.fpOk (aL _) (a.hok.fresh (aL _))
abbrev KY(ta:TA):TI:=λE H R=>ta E H λvs H1=>∃j:Int,vs=[.int j]/\-(2 ^ 62)<=j/\j<2 ^ 62/\R (Itr 0 j.toNat) H1
variable{a:Expr}
def KZ{ta:TA}{p:Pos}(d:Gl X "range")(hm:X.mg "range"=ab)(ha:PA X [a] ta)(f:aN [a] X.env=[(af,eval a X.env,)]:=by rfl):PI X tg (.Call (.Name "range" p) [a] [] pos) (KY ta):=by
 intro U s E H R I h;show Call_ (g9 I d hm boot_range (jY (thn (ha pos U s E H _ I h) λus s1 (vs,H1,c,i,b)=>?_) f rfl));have(j,e,b,g,q):=b;subst e
 cases i with
 |cons r l=>
  cases l;have(t,rfl):=r;show call_range_1 (KW c (by lia) (by lia) b g (by simpa using q))
abbrev xm(c:TI)(g:TG)(tb:TS):TS:=λD E H=>c E H λJ H1=>∃W:Nat->Nat->St->Hp->Prop,(∃m,W 0 m E H1)/\∀i m E H,W i m E H ->
 (J.stop i H/\D.nx E H)\/(J.go i H/\∃N:St->Hp->Prop,(∀σ' H',N σ' H'->∃b,b<m/\W (i+1) b σ' H')/\∀x H',J.yld i H x H'->g x E H' λa H2=>tb {D with nx:=N,ct:=N,bk:=D.nx} a H2)
abbrev tL(fp:LAd)(h:Heap):PNS:=fp.filterMap λb=>(h.get? b).map λo=>(b,o,)
variable{fp:LAd}
def tM{b:Addr}{o:Obj}(a:b∈fp)(e:h.get? b=aa o):(b,o,)∈tL fp h:=mem_filterMap.mpr (b,a,by rw[e];rfl)
def K0{p:Addr×Obj}(a:p∈tL fp h):p.1∈fp/\h.get? p.1=aa p.2:=by
 have(b,c,e):=mem_filterMap.mp a
 cases q:h.get? b with
 |none=>rw[q]at e;nomatch e
 |some o=>
  grind
def Inv.pinned{s:ah}(I:Inv X U E H s)(c:∀b∈fp,hJ X U H b)(g:∀b∈fp,∃o,s.heap.get? b=aa o/\∀v,o.data≠.cell v):Inv X (U++tL fp s.heap) E H s:=
 I.pins_of λp d=>(bu.mp d).elim (λz=>I.pin p (cg _ z)) λz=>by
  have(a,e):=K0 z;have(f,f1,f2,_):=c p.1 a
  grind
def Inv.unpinned{b:PNS}{s:ah}(I:Inv X (U++b) E H s):Inv X U E H s:=I.pins_of λp a=>I.pin p (cg _ (bT _ a))
variable{iter:Expr}{wi:TI}
def Ea{tb:TS}(C:PassesOwn (model X.prog X.w) X.A X.env X.xe)(hc:X.calm=ac)(hi:PI X tg iter wi)(hg:PG X tg g)(l:PSs X body tb)
 (hs:∀x,kS iter X.env x=pure x:=by intro _;rfl):PS X (.For tg iter body [] pos) (xm wi g tb):=by
 intro U s E H D I h;show wpAny_For (thn (hi U s E H _ I h) λv s1 h1=>thn h1 λitv s2 h2=>?_) hs;have(it,fp,tn,J,H2,e,I2,T,st2,f2,W,(m0,w0),Q):=h2;subst e;have p:∀{H':Hp},(∀b∈fp,H' b=ab)->∀b∈fp,hJ X U H' b:=λhn b l=>(hn b l,(f2 b l).2);show codeAny_forLoop_any (λn s'=>∃i σ' H',Inv X U σ' H' s'/\tn i s'.heap/\(∀b∈fp,H' b=ab)/\W i n σ' H') ?_ m0 (0,E,H2,I2,st2,λb l=>(f2 b l).1,w0);rintro n s3 ⟨i,q,Y,I3,M,B,w3⟩
 rcases Q i n q Y w3 with⟨stop,qn⟩ |⟨go,N,hN,step⟩
 .show me C (thn (T.done X rfl rfl rfl hc i U s3 q Y X.xe I3 (p B) M stop) λr s4 (hr,I4)=>?_);subst hr;show s9 (q,Y,I4,qn)
 .show me C (thn (T.item X rfl rfl rfl hc i U s3 q Y X.xe I3 (p B) M go) λr s4 L=>?_);have(u,hr,h4):=L;subst hr;show me C (thn h4 λ_ s5 L=>?_);have(x,H5,I5,r5,y5,z,fr5):=L;show me C (thn (hg _ s5 q H5 x u _ (I5.pinned (p fr5) (T.obj _ _ z)) r5 (step x H5 y5)) λ_ s6 L=>?_);have(σ6,H6,I6,q6):=L;show me C (thn (l _ s6 σ6 H6 _ I6 q6) λf s7 y=>?_)
  have again:∀{a:St} {c:Hp},Inv X _ a c s7->N a c->∃m,m<n/\∃i σ' H',Inv X U σ' H' s7/\tn i s7.heap/\(∀b∈fp,H' b=ab)/\W i m σ' H':=λ{a c} j G=>by
   have(m',hm,w7):=hN a c G;show(m',hm,i+1,a,c,j.unpinned,T.keep _ _ _ z λb l o e=>(j.pin _ (cg _ (cg _ (tM l e)))).1,λb l=>?_,w7);have(o,e,d):=T.obj _ _ z b l;show(j.pin _ (cg _ (cg _ (tM l e)))).2.1
  cases f with
  |next=>have(a,c,j,G):=y;show again j G
  |cont=>have(a,c,j,G):=y;show again j G
  |brk=>have(a,c,j,y):=y;show(a,c,j.unpinned,y)
  |ret v=>have(x7,a,c,j,r7,y):=y;show(x7,a,c,j.unpinned,r7,y)
nonrec def R2:=V->V->Hp->VK->Prop
abbrev OpR(X:Cx)(f:Value->Value->Sem Value)(r:R2):Prop:=
 ∀(U:PNS) (s:ah) (E:St) (H:Hp) (x y:V) (v u:Value) (Q:VK),Inv X U E H s->aB x v->aB y u->r x y H Q ->
  wpAny (model X.prog X.w) X.A (f v u) (EP X U E Q) X.xe s
abbrev UnR(X:Cx)(f:Value->Sem Value)(r:V->Hp->VK->Prop):Prop:=
 ∀(U:PNS) (s:ah) (E:St) (H:Hp) (x:V) (v:Value) (Q:VK),Inv X U E H s->aB x v->r x H Q ->
  wpAny (model X.prog X.w) X.A (f v) (EP X U E Q) X.xe s
abbrev iy(X:Cx)(f:Value)(r:LVv->Hp->VK->Prop):Prop:=
 ∀(U:PNS) (s:ah) (E:St) (H:Hp) (C:LVv) (us:LVa) (Q:VK),Inv X U E H s->aG C us->r C H Q ->
  wpAny (model X.prog X.w) X.A (call f us) (EP X U E Q) X.xe s
abbrev K1(X:Cx)(r:V->Hp->(Bool->Hp->Prop)->Prop):Prop:=
 ∀(U:PNS) (s:ah) (E:St) (H:Hp) (x:V) (v:Value) (Q:Bool->Hp->Prop),Inv X U E H s->aB x v->r x H Q ->
  wpAny (model X.prog X.w) X.A (truthy v) (TP X U E Q) X.xe s
abbrev tOp(r:R2)(ta tb:TE):TE:=λE H Q=>ta E H λx H1=>tb E H1 λy H2=>r x y H2 Q
abbrev tUn(r:V->Hp->VK->Prop)(ta:TE):TE:=λE H Q=>ta E H λx H1=>r x H1 Q
abbrev rI(V5:Int->Int->Prop)(g:Int->Int->V):R2:=λx y H Q=>∃i j,x=.int i/\y=.int j/\V5 i j/\Q (g i j) H
abbrev rI0(g:Int->Int->V):R2:=λx y H Q=>∃i j,x=.int i/\y=.int j/\Q (g i j) H
abbrev rU(g:Int->V):V->Hp->VK->Prop:=λx H Q=>∃i,x=.int i/\Q (g i) H
variable{f:Value->Value->Sem Value}
def xn(ha:PE X a ta)(i:PE X b tb){s:ah}{R:V->V->Hp->Prop}(I:Inv X U E H s)
 (h:ta E H λx H1=>tb E H1 λy H2=>R x y H2){Q:PRS}
 (j:∀v u s2 x y H2,Inv X U E H2 s2->aB x v->aB y u->R x y H2->wpAny (model X.prog X.w) X.A (f v u) Q X.xe s2):
  wpAny (model X.prog X.w) X.A (eval a X.env) (λv c=>wpAny (model X.prog X.w) X.A (eval b X.env) (λu d=>wpAny (model X.prog X.w) X.A (f v u) Q X.xe d) X.xe c) X.xe s:=by
 show thn (ha U s E H _ I h) λv s1 n=>?_;have(x,H1,e,p,l):=n;show thn (i U s1 E H1 _ e l) λu s2 (y,H2,g,q,m)=>(j v u s2 x y H2 g p q m)
def Eb{r:R2}(e:OpR X (fL op) r)(ha:PE X a ta)(d:PE X b tb):PE X (.BinOp a op b pos) (tOp r ta tb):=by
 intro U s E H Q I h;show wpAny_BinOp (xn ha d I h λv u s2 x y H2 c f g q=>e U s2 E H2 x y v u Q c f g q)
def K2{op:UnaryOp}{r:V->Hp->VK->Prop}(c:UnR X (unaryOp op) r)(ha:PE X a ta):PE X (.UnaryOp op a pos) (tUn r ta):=by
 intro U s E H Q I h;show UnaryOp_ (thn (ha U s E H _ I h) λv s1 (x,H1,b,e,d)=>c U s1 E H1 x v Q b e d)
def opI{V5:Int->Int->Prop}{g:Int->Int->Int}
 (rule:∀(i j:Int) (t u:Tok) (s:ah) (Q:PRS) (V4:PRS),V5 i j->Q (.int (g i j) s.toks) {s with toks:=s.toks+1}->wpAny (model X.prog X.w) X.A (f (.int i t) (.int j u)) Q V4 s):
  OpR X f (rI V5 λi j=>.int (g i j)):=by
 intro U s E H x y v u Q I b c h;have(i,j,rfl,rfl,a,q):=h;have(t,rfl):=b;have(t',rfl):=c;show rule i j t t' s _ _ a (.int _,H,I.tok _,(_,rfl),q)
def Ec{g:Int->Int->Int}
 (rule:∀(i j:Int) (t u:Tok) (s:ah) (Q:PRS) (V4:PRS),Q (.int (g i j) s.toks) {s with toks:=s.toks+1}->wpAny (model X.prog X.w) X.A (f (.int i t) (.int j u)) Q V4 s):
  OpR X f (rI0 λi j=>.int (g i j)):=by
 intro U s E H x y v u Q I a b h;have(i,j,rfl,rfl,q):=h;have(t,rfl):=a;have(t',rfl):=b;show rule i j t t' s _ _ (.int _,H,I.tok _,(_,rfl),q)
def tN{g:Int->Int->Bool}
 (rule:∀(i j:Int) (t u:Tok) (s:ah) (Q:PRS) (V4:PRS),Q (.bool (g i j)) s->wpAny (model X.prog X.w) X.A (f (.int i t) (.int j u)) Q V4 s):
  OpR X f (rI0 λi j=>.bl (g i j)):=by
 intro U s E H x y v u Q I a b h;have(i,j,rfl,rfl,q):=h;have(t,rfl):=a;have(t',rfl):=b;show rule i j t t' s _ _ (.bl _,H,I,rfl,q)
abbrev qt(i j:Int):Prop:=0<j/\j<1073741824
abbrev mF(i j:Int):Prop:=0<=j/\j<=1000000/\i.natAbs<2 ^ 64
abbrev qu(i j:Int):Prop:=(-(2 ^ 64)<i/\i<2 ^ 64)\/(-(2 ^ 64)<j/\j<2 ^ 64)
variable{j:Int}
def qu.ok{i:Int}(h:qu i j):IntMulOk i j:=by
 rcases h with⟨h1,h2⟩ |⟨h1,h2⟩
 .show .of_left (intBits_le_64 h1 h2)
 .show .of_right (intBits_le_64 h1 h2)
def K3:OpR X (fL .Add) (rI0 λi j=>.int (i+j)):=Ec λ_ _ _ _ _ _ _ q=>add_int q
def K4:OpR X (fL .Sub) (rI0 λi j=>.int (i-j)):=Ec λ_ _ _ _ _ _ _ q=>sub_int q
def K5:OpR X (fL .FloorDiv) (rI qt λi j=>.int (i / j)):=opI λi j _ _ _ _ _ a q=>by
 have h1:=a.1;have h2:=a.2;show floordiv_int (by lia) (by rw[Int.fdiv_eq_ediv_of_nonneg i (by lia)];show q) (.inl (PyProof.noPylong_small (by lia)))
def K6:OpR X (fL .Mod) (rI (λ_ j=>0<j) λi j=>.int (i % j)):=opI λi j _ _ _ _ _ a q=>by
 show mod_int' (by lia) (by rw[Int.fmod_eq_emod_of_nonneg i (by lia)];show q)
def K7:OpR X (fL .Pow) (rI mF λi j=>.int (i ^ j.toNat)):=opI λ_ _ _ _ _ _ _ a q=>pow_int_small a.1 a.2.1 a.2.2 q
def unI{f:Value->Sem Value}{g:Int->Int}
 (rule:∀(i:Int) (t:Tok) (s:ah) (Q:PRS) (V4:PRS),Q (.int (g i) s.toks) {s with toks:=s.toks+1}->wpAny (model X.prog X.w) X.A (f (.int i t)) Q V4 s):
  UnR X f (rU λi=>.int (g i)):=by
 intro U s E H x v Q I a h;have(i,rfl,q):=h;have(t,rfl):=a;show rule i t s _ _ (.int _,H,I.tok _,(_,rfl),q)
def K8:UnR X (unaryOp .USub) (rU λi=>.int (-i)):=unI λ_ _ _ _ _ q=>neg_int q
abbrev xp:V->V->Bool
 |.non,.non=>ac |.non,.int _=>ac |.int _,.non=>ac |.non,.bl _=>ac |.bl _,.non=>ac |.non,.str _=>ac |.str _,.non=>ac
 |.int _,.int _=>ac |.bl _,.bl _=>ac |.str _,.str _=>ac |.byt _,.byt _=>ac
 |.int _,.str _=>ac |.str _,.int _=>ac |.bl _,.str _=>ac |.str _,.bl _=>ac
 | _,_=>af
abbrev rEq:R2:=λx y H Q=>xp x y=ac/\Q (.bl (decide (x=y))) H
abbrev rNe:R2:=λx y H Q=>xp x y=ac/\Q (.bl (!decide (x=y))) H
def xq{i:Int}:decide (V.int i=V.int j)=(i==j):=by
 rw[jT];simp
def qv{i j:Bool}:decide (V.bl i=V.bl j)=(i==j):=by
 rw[jT];simp
def xr{i j:Str}:decide (V.str i=V.str j)=(i==j):=by
 rw[jT];simp
def Ed{i j:Array UInt8}:decide (V.byt i=V.byt j)=(i.toList==j.toList):=by
 rw[jT];cases i;cases j;simp
def bU{s:ah}{Q:VK}{k a:Bool}(I:Inv X U E H s)(q:Q (.bl k) H)(e:k=a):EP X U E Q (.bool a) s:=by
 subst e;show(.bl k,H,I,rfl,q)
def K9:OpR X (cW .Eq) rEq:=by
 intro U s E H x y v u Q I c a h;have(b,q):=h
 cases x with
 |non=>
  cases c
  cases y with
  |non=>subst a;show PySem.EqNone.eq_none_none (bU I q (by rfl))
  |bl j=>subst a;show PySem.EqNone.eq_none_bool (bU I q (by rfl))
  |int j=>have(t',rfl):=a;show PySem.EqNone.eq_none_int (bU I q (by rfl))
  |str j=>have(t',rfl):=a;show PySem.EqNone.eq_none_str (bU I q (by rfl))
  | _=>show absurd (b) bG
 |bl i=>
  subst c
  cases y with
  |non=>subst a;show PySem.EqNone.eq_bool_none (bU I q (by simp))
  |bl j=>subst a;show eq_bool (bU I q qv)
  |str j=>have(t',rfl):=a;show PySem.EqMixed.eq_bool_str (bU I q (by simp))
  | _=>show absurd (b) bG
 |int i=>
  have(t,rfl):=c
  cases y with
  |non=>subst a;show PySem.EqNone.eq_int_none (bU I q (by simp))
  |int j=>have(t',rfl):=a;show eq_int (bU I q xq)
  |str j=>have(t',rfl):=a;show PySem.EqMixed.eq_int_str (bU I q (by simp))
  | _=>show absurd (b) bG
 |str i=>
  have(t,rfl):=c
  cases y with
  |non=>subst a;show PySem.EqNone.eq_str_none (bU I q (by simp))
  |bl j=>subst a;show PySem.EqMixed.eq_str_bool (bU I q (by simp))
  |int j=>have(t',rfl):=a;show PySem.EqMixed.eq_str_int (bU I q (by simp))
  |str j=>have(t',rfl):=a;show eq_str (bU I q xr)
  | _=>show absurd (b) bG
 |byt i=>
  have(t,rfl):=c
  cases y with
  |byt j=>have(t',rfl):=a;show W.eq_bytes (bU I q Ed)
  | _=>show absurd (b) bG
 | _=>cases y <;> show absurd (show af=ac from b) bG
def La:OpR X (cW .NotEq) rNe:=by
 intro U s E H x y v u Q I c a h;have(b,q):=h
 cases x with
 |non=>
  cases c
  cases y with
  |non=>subst a;show PySem.EqNone.ne_none_none (bU I q (by rfl))
  |bl j=>subst a;show PySem.EqNone.ne_none_bool (bU I q (by rfl))
  |int j=>have(t',rfl):=a;show PySem.EqNone.ne_none_int (bU I q (by rfl))
  |str j=>have(t',rfl):=a;show PySem.EqNone.ne_none_str (bU I q (by rfl))
  | _=>show absurd (b) bG
 |bl i=>
  subst c
  cases y with
  |non=>subst a;show PySem.EqNone.ne_bool_none (bU I q (by rfl))
  |bl j=>subst a;show ne_bool (bU I q (congrArg not qv))
  |str j=>have(t',rfl):=a;show PySem.EqMixed.ne_bool_str (bU I q (by simp))
  | _=>show absurd (b) bG
 |int i=>
  have(t,rfl):=c
  cases y with
  |non=>subst a;show PySem.EqNone.ne_int_none (bU I q (by simp))
  |int j=>have(t',rfl):=a;show ne_int (bU I q (congrArg not xq))
  |str j=>have(t',rfl):=a;show PySem.EqMixed.ne_int_str (bU I q (by simp))
  | _=>show absurd (b) bG
 |str i=>
  have(t,rfl):=c
  cases y with
  |non=>subst a;show PySem.EqNone.ne_str_none (bU I q (by simp))
  |bl j=>subst a;show PySem.EqMixed.ne_str_bool (bU I q (by simp))
  |int j=>have(t',rfl):=a;show PySem.EqMixed.ne_str_int (bU I q (by simp))
  |str j=>have(t',rfl):=a;show ne_str (bU I q (congrArg not xr))
  | _=>show absurd (b) bG
 |byt i=>
  have(t,rfl):=c
  cases y with
  |byt j=>have(t',rfl):=a;show W.ne_bytes (bU I q (congrArg not Ed))
  | _=>show absurd (show af=ac from b) bG
 | _=>cases y <;> show absurd (show af=ac from b) bG
def Lb:OpR X (cW .Lt) (rI0 λi j=>.bl (decide (i<j))):=tN λ_ _ _ _ _ _ _ q=>lt_int q
def Lc:OpR X (cW .LtE) (rI0 λi j=>.bl (decide (i<=j))):=tN λ_ _ _ _ _ _ _ q=>le_int q
def Ld:OpR X (cW .Gt) (rI0 λi j=>.bl (decide (j<i))):=tN λ_ _ _ _ _ _ _ q=>gt_int q
def Le:OpR X (cW .GtE) (rI0 λi j=>.bl (decide (j<=i))):=tN λ_ _ _ _ _ _ _ q=>ge_int q
def Lf:OpR X (cW .Is) (λx y H Q=>y=.non/\Q (.bl (decide (x=.non))) H):=by
 intro U s E H x y v u Q I a b h;have(rfl,q):=h;subst b;show is_none_gen (bU I q ?_)
 cases x <;> first
  |(subst a;rfl)
  |(have(t,rfl):=a;rfl)
def Lg:OpR X (cW .IsNot) (λx y H Q=>y=.non/\Q (.bl (!decide (x=.non))) H):=by
 intro U s E H x y v u Q I a b h;have(rfl,q):=h;subst b;show isnot_none_gen (bU I q ?_)
 cases x <;> first
  |(subst a;rfl)
  |(have(t,rfl):=a;rfl)
variable{op:CmpOp}
def Ee(b:Expr)(h:op≠.In:=by decide)(h2:op≠.NotIn:=by decide):kU op b=af:=by
 have a:(op==CmpOp.In)=af:=by grind
 have c:(op==CmpOp.NotIn)=af:=by grind
 cases b <;> simp[kU,a,c]
variable{r:R2}
def Lh(e:OpR X (cW op) r)(ha:PE X a ta)(d:PE X b tb)(hm:kU op b=af):PE X (.Compare a [op] [b] pos) (tOp r ta tb):=by
 intro U s E H Q I h;show wpAny_Compare1 (xn ha d I h λv u s2 x y H2 c f g q=>e U s2 E H2 x y v u Q c f g q) hm
abbrev Li(t:TE):TT:=λE H Q=>t E H λx H'=>∃k,x=.bl k/\Q k H'
def Lj(l:OpR X (cW op) r)(ha:PE X a ta)(j:PE X b tb)(hm:kU op b=af):PT X (.Compare a [op] [b] pos) (Li (tOp r ta tb)):=by
 intro U s E H Q I h
 show wpAny_isTrue_Compare1 (thn (ha U s E H _ I h) λv s1 (x,H1,f,q,m)=>thn (j U s1 E H1 _ f m) λu s2 (y,H2,g,w,n) =>
  thn (l U s2 E H2 x y v u _ g q w n) λc B (z,d,i,A,k,e,p)=>?_) hm
 subst e;subst A;show n9 (d,i,p)
abbrev xu(K:aQ)(x:V)(H:Hp)(k:Bool):Prop:=
 match x with
 |.non=>k=af
 |.bl b=>k=b
 |.int i=>k=(i != 0)
 |.str y=>y.length<=aS/\k=((y.length:Int) != 0)
 |.byt y=>y.size<=aS/\k=((y.size:Int) != 0)
 |.ref p=>(∃C,SqL K H p C/\k=!C.isEmpty)\/(∃C,SqT K H p C/\k=!C.isEmpty)\/∃kvs,H p=aa (.dK kvs)/\k=!kvs.isEmpty
 | _=>False
def Lk{a:Type}{kvs:List (a×V)}{vs:List (a×Value)}(r:KV kvs vs):(!vs.isEmpty)=!kvs.isEmpty:=by
 cases r <;> rfl
variable{B:LVa}
def Ef(r:aG C B):(!B.toArray.isEmpty)=!C.isEmpty:=by
 cases r <;> simp
def qw:(aS:Nat)<2 ^ 63:=by rw[du];decide
def Ll:K1 X (λx H Q=>∃k,xu X.K x H k/\Q k H):=by
 intro U s E H x v Q I c h;have(k,e,q):=h;have l:=du
 cases x with
 |non=>
  subst c;have e':=e;subst e'
  show truthy_none (H,I,q)
 |bl b=>
  subst c;have e':=e;subst e'
  show n9 (H,I,q)
 |int i=>
  have(t,rfl):=c;have e':=e;subst e'
  show PySem.P.truthy_int (H,I,q)
 |str y=>
  have(t,rfl):=c;obtain⟨j,e'⟩:y.length<=aS/\k=_:=e;subst e'
  show PySem.P.truthy_str (by lia) (H,I.tok _,q)
 |byt y=>
  have(t,rfl):=c;obtain⟨j,e'⟩:y.size<=aS/\k=_:=e;subst e'
  show W.truthy_bytes (by lia) (H,I.tok _,q)
 |ref p=>
  subst c;have e':=e
  rcases e' with⟨C,d,e'⟩ |⟨C,d,e'⟩ |⟨kvs,d,e'⟩
  .subst e';have(B,r,f,hz):=I.list d;have a:=r.length;show wpAny_truthy_list f.isList (by simp only[size_toArray];lia) (H,I.tok _,by rw[Ef r];show q)
  .subst e';have(B,r,f,hz):=I.tuple d;have a:=r.length;show truthy_tuple f (by simp only[size_toArray];lia) (H,I.tok _,by rw[Ef r];show q)
  .subst e';obtain⟨hz,g,vs,r,m⟩:kvs.length<=aS/\(p==gZ)=af/\∃vs,KV kvs vs/\s.heap.DictOf (lg X.prog X.w) p vs:=I.hok p _ d;have a:=oq r
   show wpAny_truthy_dict g m (by lia) (H,I.tok _,by rw[Lk r];show q)
 | _=>show(show False from e).elim
def Lm(ha:PE X a ta)(d:∀b,isTrue a X.env b=(do let v <- b;gz a.pos;eJ [v] (truthy v))):
  PT X a (λE H Q=>ta E H λx H'=>∃k,xu X.K x H' k/\Q k H'):=by
 intro U s E H Q I h;show isTrue_plain (thn (ha U s E H _ I h) λv s1 (x,H1,c,f,e)=>Ll U s1 E H1 x v Q c f e) (d _)
def Ln:OpR X (fL .Add) (λx y H Q=>∃i j,x=.str i/\y=.str j/\i.length+j.length<=aS/\Q (.str (i++j)) H):=by
 intro U s E H x y v u Q I a b h;have(i,j,rfl,rfl,hz,q):=h;have(t,rfl):=a;have(t',rfl):=b;show add_str (λt' c=>(.str _,H,I.tok _,(_,rfl),q)) hz
def Lo:OpR X (inplaceOp .Add) (λx y H Q=>∃i j,x=.str i/\y=.str j/\i.length+j.length<=aS/\Q (.str (i++j)) H):=by
 intro U s E H x y v u Q I a b h;have(i,j,rfl,rfl,hz,q):=h;have(t,rfl):=a;have(t',rfl):=b;show iadd_str (λt' c=>(.str _,H,I.tok _,(_,rfl),q)) hz
def mG{x:V}(r:aG [x] us):∃u,us=[u]/\aB x u:=by
 cases r with
 |cons a b=>cases b;show(_,rfl,a)
def Lp{x:V}(r:aG [x,y] us):∃u a,us=[u,a]/\aB x u/\aB y a:=by
 cases r with
 |cons b c=>
  cases c with
  |cons d e=>cases e;show(_,_,rfl,b,d)
structure mH(h:Heap)(x dx V5:Addr)(mA:MGT):Prop where
 obj:h.get? x=aa (k9 V5 dx)
 ns:h.Ns1 dx mA
 ne:dx≠x
variable{mA:MGT}
def Lq{dx:Addr}(n:h.Ns1 dx mA):∃od,h.get? dx=aa od/\∀name,W.lookIn name od=aa (mA name):=by
 have(o,es,g,d,hd,c,_,hm):=n;show(o,d,λname=>?_);have e:=hm name;unfold nsFind findBy at e;rw[<- Array.find?_toList]at e;unfold W.lookIn;rw[hd];dsimp only;split
 .grind
 .rename_i q;rw[q]at e
  have a:es.toList.any (·.refKey)=af:=by
   rw[any_eq_false];intro y f;have(z,t,b):=c y (Array.mem_toList_iff.mp f);simp[DictEntry.refKey,b]
  grind
def mH.look{x dx V5:Addr}(I:mH h x dx V5 mA):∃od,W.InstAt h x (k9 V5 dx) V5 (aa od)/\∀name,W.lookIn name od=aa (mA name):=
 let (od,ho,hl):=Lq I.ns
 (od,(I.obj,rfl,rfl,ho),hl)
variable{x V5:Addr}{name:Str}{v:Value}
section
variable{s:ah}{dx:Addr}
def Lr{a:Bool}{Q:PRS}(X:K.In s.heap)(I:mH s.heap x dx V5 mA)(c:j8 K V5 name=ac)(d:k7 K V5=ac)
 (ha:cq K (.ref V5) name=aa ab)(hv:mA name=aa v)(b:W.handedIn v=ac)(h:Q v {s with toks:=s.toks+1}):
  wpAny (model prog w) A (getAttr (.ref x) name a) Q V4 s:=by
 have(od,J,e):=I.look;show W.get_value X J (W.plainGet_of c).1 (W.findObj_own d ha rfl (by rw[e,hv])) b h
end
variable{f:Addr}{pl:Sem Bool}
def Lu{s:ah}{dx:Addr}{Q:Value×LVa->ah->Prop}(X:K.In s.heap)(I:mH s.heap x dx V5 mA)(a:j8 K V5 name=ac)
 (b:cq K (.ref V5) name=aa (aa (.ref f)))(d:W.isFn K (.ref f)=ac)(hv:mA name=ab)(h:Q (.ref f,[.ref x],) s):
  wpAny (model prog w) A (g4 (.ref x) name pl) Q V4 s:=by
 have(od,J,c):=I.look;show W.method_fn X J (W.plainGet_of a).1 (W.plainGet_of a).2 b (beq_iff_eq.mp d) (by change(W.lookIn name od).map (·.isSome)=aa af;rw[c,hv];rfl) h
section
variable{s:ah}{dx:Addr}
def Lv{ns:LSt}(X:K.In s.heap)(I:mH s.heap x dx V5 mA)
 (n:cq K (.ref V5) "__setattr__"=aa (aa (.builtin "object.__setattr__")))(m:mr K V5=ac)(q:W.takerIn K V5 name=aa ab)(l:k7 K V5=ac)
 (r:PySem.Within mA ns)(p:ns.length<=aS)
 (h:∀h',mH h' x dx V5 (λy=>if y=name then aa v else mA y)->ga dx s.heap h'->Q () {s with heap:=h',toks:=s.toks+2}):
  wpAny (model prog w) A (setAttr (.ref x) name v) Q V4 s:=by
 have(od,J,z):=I.look;show W.set_plain X J n (W.osa_open X J m q λb=>?_);have(u,j,e):=W.any_some l;show aj (aD (aj (aj (wpAny_loadPart I.obj (aj (W.Looks.here (W.looks_clsIn X j) ?_))))));rw[e];show aD (aj (aD (aj ?_)));show wpAny_nsSet1 I.ns λh' a c=>?_;have(B,i,g,f,hdD,d):=a.count (PySem.Within.cons name v r);show aj (wpAny_lookBehind f (by rw[hdD];show pastItsLine_dict (cN d (by rw[cr];lia))) (aD (h _ ((c.2 _ (eG I.ne)).trans I.obj,a,I.ne) c)))
end
variable{R:Result->ah->Prop}{kw:List (Str×Value)}
section
variable{s:ah}
def Lw{vs:LVa}(X:K.In s.heap)(hm:mw K V5=ac)
 (hi:cq K (.ref V5) "__init__"=aa (aa (.ref f)))(a:W.typeIn K (.ref f)=aa (.type "function"))
 (h:gA (model prog w) (A.under (.builtin "type.__call__" (.ref V5::vs,kw))) (.call (.ref f) (.ref (s.heap.objs.size + 1)::vs,kw)) (W.InitBack (s.heap.objs.size + 1) R)
   {s with heap:=(s.heap.push k8).push (k9 V5 s.heap.objs.size)}):
  gA (model prog w) A (.call (.ref V5) (vs,kw)) R s:=by
 show W.make_core (W.makes_of X hm) (W.looks_findIn X hi) (λself=>W.bind_fn X self a) (.inl rfl) h
end
abbrev c7(f:Str)(v:V):List (Str×V)->List (Str×V)
 | []=>[(f,v,)]
 |(g,x,)::r=>if g=f then (g,v,)::r else (g,x,)::c7 f v r
def Eg(f g:Str)(v:V):∀fs:List (Str×V),(c7 f v fs).lookup g=if g=f then aa v else fs.lookup g
 | []=>by
  change List.lookup g [_]=_
  grind
 |(k,x,)::r=>by
  rw[show c7 f v _=(if k=f then _::r else _::c7 f v r)from rfl]
  by_cases b:k=f
  .grind
  .rw[if_neg b]
   by_cases h:g=k
   .grind
   .have a:=beq_eq_false_iff_ne.mpr h;simp only[List.lookup,a];show(Eg f g v r)
def xv(f:Str)(v:V):∀fs:List (Str×V),f∈(c7 f v fs).map (·.1)/\∀g,g∈fs.map (·.1)->g∈(c7 f v fs).map (·.1)
 | []=>(by simp[c7],λg h=>by simp at h)
 |(k,x,)::r=>by
  have(a,b):=xv f v r;rw[show c7 f v _=(if k=f then _::r else _::c7 f v r)from rfl]
  grind
def Eh(f:Str)(v:V):∀fs:List (Str×V),(c7 f v fs).length<=fs.length+1
 | []=>by simp[c7]
 |(k,x,)::r=>by
  have a:=Eh f v r;rw[show c7 f v _=(if k=f then _::r else _::c7 f v r)from rfl]
  grind
variable{v:V}
def eN.some_of{o:Option Value}(r:eN (aa v) o):∃u,o=aa u/\aB v u:=by
 cases o with
 |none=>show(r).elim
 |some u=>show(u,rfl,r)
def eN.none_of{o:Option Value}(r:eN ab o):o=ab:=by
 cases o with
 |none=>rfl
 |some u=>show(r).elim
def Lx(r:aB v u):W.handedIn u=ac:=by
 cases v with
 |non=>cases (r);rfl
 |bl b=>cases (r);rfl
 |int i=>have(t,e):=(r);subst e;rfl
 |str x=>have(t,e):=(r);subst e;rfl
 |byt b=>have(t,e):=(r);subst e;rfl
 |flt b=>have(t,e):=(r);subst e;rfl
 |ref a=>cases (r);rfl
 |ty n=>cases (r);rfl
variable{a:Addr}{fs:List (Str×V)}
def tO{dx:Addr}(hok:HOk P w H h)(e:H a=aa (.ins V5 dx fs)):∃mA,mH h a dx V5 mA/\(∀f,eN (fs.lookup f) (mA f))/\PySem.Within mA (fs.map (·.1))/\fs.length<=1000/\H dx=aa (.own a):=by
 have(d,z,ne,b,mA,n,r,q):=(hok a _ e);show(mA,(b,n,ne),r,q,z,d)
structure Cls(K:aQ)(V5:Addr):Prop where
 pg:j8 K V5 ou=ac
 hd:k7 K V5=ac
 po:mr K V5=ac
 sa:cq K (.ref V5) "__setattr__"=aa (aa (.builtin "object.__setattr__"))
def Cls.get(c:Cls K V5)(f:Str):j8 K V5 f=ac:=c.pg
abbrev cJ(K:aQ)(V5:Addr)(f:Str):Prop:=cq K (.ref V5) f=aa ab
variable{f:Str}
def cJ.taker(n:cJ K V5 f):W.takerIn K V5 f=aa ab:=by
 unfold W.takerIn;rw[show cq K _ f=aa ab from n];rfl
structure qx(K:aQ)(V5:Addr)(m:Str)(f:Addr):Prop where
 at_:cq K (.ref V5) m=aa (aa (.ref f))
 fn:W.isFn K (.ref f)=ac
 kp:gb K (.ref f)=ac
def Ei{s:ah}{dx:Addr}{b:Bool}{Q:PRS}(I:Inv X U E H s)(e:H a=aa (.ins V5 dx fs))(c:Cls X.K V5)(n:cJ X.K V5 f)(l:fs.lookup f=aa v)
 (h:∀u s',Inv X U E H s'->aB v u->Q u s'):wpAny (model X.prog X.w) A (getAttr (.ref a) f b) Q V4 s:=by
 have(mA,O,r,_,_,_):=tO I.hok e;have(u,d,ru):=eN.some_of (by rw[<- l];show r f);show Lr I.kIn O (c.get f) c.hd n d (Lx ru) (h u _ (I.tok _) ru)
variable{m:Str}
def Ej{s:ah}{dx:Addr}{g:Addr}{Q:Value×LVa->ah->Prop}(I:Inv X U E H s)(e:H a=aa (.ins V5 dx fs))(c:Cls X.K V5)(k:qx X.K V5 m g)(l:fs.lookup m=ab)
 (h:Q (.ref g,[.ref a],) s):wpAny (model X.prog X.w) A (g4 (.ref a) m pl) Q V4 s:=by
 have(mA,O,r,_,_,_):=tO I.hok e;show Lu I.kIn O (c.get m) k.at_ k.fn (eN.none_of (by rw[<- l];show r m)) h
def Ek{s:ah}{dx:Addr}(I:Inv X U E H s)(e:H a=aa (.ins V5 dx fs))(c:Cls X.K V5)(n:cJ X.K V5 f)(v:fs.length<1000)(m:aB y u)
 (h:∀s',Inv X U E (upd H a (.ins V5 dx (c7 f y fs))) s'->Q () s'):wpAny (model X.prog X.w) A (setAttr (.ref a) f u) Q V4 s:=by
 have(mA,O,r,wi,_,i):=tO I.hok e;have hz:(fs.map (·.1)).length<=aS:=by rw[aA,du];lia
 show Lv I.kIn O c.sa c.po n.taker c.hd wi hz λh' d p=>h _ ?_;have hd:∃o,h'.get? dx=aa o:=let (o,_,_,e',_):=d.ns;(o,e');show I.write (by rw[e];show ix) (.inr i) (λb q j z=>(p.2 b j).trans z) hd ?_;show(by rw[aK O.ne];show i,?_,O.ne,d.obj,_,d.ns,λg=>?_,λg l=>?_)
 .have:=Eh f y fs;lia
 .change eN _ _;rw[Eg]
  by_cases q:g=f
  .rw[if_pos q,if_pos q];show m
  .grind
 .by_cases q:g=f
  .rw[q];show(xv f y fs).1
  .show(xv f y fs).2 g (wi g λz=>l ?_)
   grind
section
variable{s:ah}
def Inv.made(I:Inv X U E H s):Inv X U E (upd (upd H s.heap.objs.size (.own (s.heap.objs.size+1))) (s.heap.objs.size+1) (.ins V5 s.heap.objs.size []))
  {s with heap:=(s.heap.push k8).push (k9 V5 s.heap.objs.size)}:=by
 have a:(s.heap.push k8).get? s.heap.objs.size=aa k8:=cP s.heap rfl
 have c:((s.heap.push k8).push (k9 V5 s.heap.objs.size)).get? (s.heap.objs.size+1)=aa (k9 V5 s.heap.objs.size):=by
  have:=cP (s.heap.push k8) (o:=k9 V5 s.heap.objs.size) rfl
  simp_all
 have d:(s.heap.push k8).Ns s.heap.objs.size _:=(k8,#[],_,a,rfl,(λe f=>absurd f (by simp)),λ_=>rfl);show(I.laid (o:=.own _) (t':=s.toks) (λb u q=>bx _ q) (aL _) (_,a)).laid (λb u q=>bx _ q) (Nat.le_of_eq (iY _ _)) ?_;have ne:s.heap.objs.size≠s.heap.objs.size+1:=bW (c6 _);show(by rw[aK ne,a8],cj _,ne,c,λ_=>ab,(Heap.Ns1.of_empty d).at λo q=>bx _ q,λ_=>ix,λy g=>absurd rfl g)
end
variable{env:Env}
def Ly{s:ah}{Q:PRS}(b:oe e f env (eval e env)=eval e env)
 (h:wpAny (model prog w) A (eval e env) (λo a=>wpAny (model prog w) A (getAttr o f ac) Q V4 a) V4 s):wpAny (model prog w) A (eval (.Attribute e f pos) env) Q V4 s:=
 Attribute_any_ h (by rw[arm_eval_Attribute,b])
abbrev Lz(K:aQ)(ta:TE)(f:Str):TE:=λE H Q=>ta E H λx H1=>∃a V5 dx fs v,x=.ref a/\H1 a=aa (.ins V5 dx fs)/\Cls K V5/\cJ K V5 f/\fs.lookup f=aa v/\Q v H1
abbrev El(K:aQ)(ta b:TE)(f:Str):TS:=λD E H=>b E H λy H1=>ta E H1 λx H2=>∃a V5 dx fs,x=.ref a/\H2 a=aa (.ins V5 dx fs)/\Cls K V5/\cJ K V5 f/\fs.length<1000 /\
 D.nx E (upd H2 a (.ins V5 dx (c7 f y fs)))
abbrev Em(X:Cx)(op:Operator)(rd:V->V->Hp->VK->Prop):Prop:=
 ∀(U:PNS) (s:ah) (E:St) (H:Hp) (x y:V) (u v:Value) (Q:VK),Inv X U E H s->aB x u->aB y v->rd x y H Q->wpAny (model X.prog X.w) X.A (inplaceOp op u v) (EP X U E Q) X.xe s
abbrev LA(K:aQ)(ta e:TE)(rd:V->V->Hp->VK->Prop)(f:Str):TS:=λD E H=>ta E H λx H1=>∃a V5 dx fs v,x=.ref a/\H1 a=aa (.ins V5 dx fs)/\Cls K V5/\cJ K V5 f/\fs.lookup f=aa v /\
 e E H1 λy H2=>rd v y H2 λz d=>∃c b,d a=aa (.ins V5 c b)/\b.length<1000/\D.nx E (upd d a (.ins V5 c (c7 f z b)))
def En(j:PE X e ta)(i:oe e f X.env (eval e X.env)=eval e X.env):PE X (.Attribute e f pos) (Lz X.K ta f):=by
 intro U s E H Q I h;show Ly i (thn (j U s E H _ I h) λu s1 m=>?_);have(x,H1,b,p,a,V5,dx,fs,v,ex,g,c,n,l,q):=m;subst ex;obtain rfl:u=eM a:=p;show Ei b g c n l λr s2 d ru=>(v,H1,d,ru,q)
variable{value:Expr}{tv:TE}
def xy{o:Expr}(ha:PE X o ta)(hv:PE X value tv)(i:f8 value (aa (.Attribute o f b4)) pos.line X.env=pure af):PS X (.Assign [.Attribute o f b4] value pos) (El X.K ta tv f):=by
 intro U s E H D I h;show plainObj_wpAny_Assign_Attribute (thn (hv U s E H _ I h) λu s1 (y,H1,b,v,q)=>thn (ha U s1 E H1 _ b q) λj s2 p=>?_) i;have(x,H2,d,r,a,V5,dx,fs,ex,g,c,n,l,m):=p;subst ex;obtain rfl:j=eM a:=r;show Ek d g c n l v λw e=>(E,_,e,m)
variable{gw:Pos}
def LB{o:Expr}{op:Operator}{rd:V->V->Hp->VK->Prop}(ha:PE X o ta)(hv:PE X value tv)(d:Em X op rd):PS X (.AugAssign (.Attribute o f gw) op value pos) (LA X.K ta tv rd f):=by
 intro U s E H D I h;show wpAny_AugAssign_AttributeAny (thn (ha U s E H _ I h) λB s1 J=>?_);have(x,H1,e,L,a,V5,dx,fs,v,ex,r,c,n,l,q):=J;subst ex;obtain rfl:B=eM a:=L;show Ei e r c n l λu s2 g ru=>thn (hv U s2 E H1 _ g q) λT Q (y,H2,i,M,C)=>thn (d U Q E H2 v y u T _ i ru M C) λw4 s4 (z,Y,j,N,p,w,b,A,G)=>(Ek j b c n A N λs5 m=>(E,_,m,G))
abbrev LC:V->V->Hp->VK->Prop:=λx y H Q=>∃i j,x=.int i/\y=.int j/\Q (.int (i+j)) H
def LF:Em X .Add LC:=by
 rintro U s E H x y u v Q I a b ⟨i,j,rfl,rfl,q⟩;have(t,rfl):=(a);have(t',rfl):=(b);show PyProof.Rows.iadd_int (.int _,H,I.tok _,(_,rfl),q)
inductive gC(K:aQ)(H:Hp):V->Value->Prop where
 |non:gC K H .non (.type "NoneType")
 |bl (x:Bool):gC K H (.bl x) (.type "bool")
 |int (i:Int):gC K H (.int i) (.type "int")
 |str (x:Str):gC K H (.str x) (.type "str")
 |flt (x:UInt64):gC K H (.flt x) (.type "float")
 |lst {a:Addr} {C:LVv} (e:H a=aa (.lst C)):gC K H (.ref a) (.type "list")
 |frz {a:Addr} {o:Obj} {C:LVv} (e:H a=aa (.frz o (.lst C))):gC K H (.ref a) (.type "list")
 |tup {a:Addr} {C:LVv} (e:H a=aa (.tup C)):gC K H (.ref a) (.type "tuple")
 |dK {a:Addr} {kvs:List (Key×V)} (e:H a=aa (.dK kvs)):gC K H (.ref a) (.type "dict")
 |dT {a:Addr} {kvs:List (List Key×V)} (e:H a=aa (.dT kvs)):gC K H (.ref a) (.type "dict")
 |ins {a V5 dx:Addr} {fs:List (Str×V)} (e:H a=aa (.ins V5 dx fs)) (cl:Cls K V5) (ha:cq K (.ref V5) "__class__"=aa (aa (.builtin "object.__class__")))
   (hn:W.specialIn K (.builtin "object.__class__") "__get__"=aa (aa (.builtin "getset_descriptor.__get__"))) (htk:W.takesIn K (.builtin "object.__class__")=aa ac)
   (hm:W.mroIn K V5 (.type "object")=aa ac):gC K H (.ref a) (.ref V5)
variable{Q:PRS}{c:Value}{b:Bool}
section
variable{s:ah}
def LG{x:V}{u t:Value}(I:Inv X U E H s)(f:aB x u)(ty:gC X.K H x t)(e:W.kitOne X.K t c=aa b)(h:∀j,Q (.bool b) {s with toks:=j}):
  wpAny (model X.prog X.w) A (call (.builtin "isinstance") [u,c]) Q V4 s:=by
 cases ty with
 |non=>cases (f);show iZ W.kitx_none I.kIn ix e (λz=>nomatch z) h
 |bl y=>cases (f);show iZ W.kitx_bool I.kIn ix e (λz=>nomatch z) h
 |int i=>have(t,q):=(f);subst q;show iZ W.kitx_int I.kIn ix e (λz=>nomatch z) h
 |str y=>have(t,q):=(f);subst q;show iZ W.kitx_str I.kIn ix e (λz=>nomatch z) h
 |flt y=>have(t,q):=(f);subst q;show iZ W.kitx_float I.kIn ix e (λz=>nomatch z) h
 | @lst a C d=>
  cases (f);have(_,_,n,_,h1):=(I.hok a _ d)
  show iZ W.kitx_list I.kIn (_,h1,rfl) e (λz=>nomatch z) h
 | @frz a l C d=>
  cases (f);have(_,_,_,n,_,h1):=(I.hok a _ d)
  show iZ W.kitx_list I.kIn (_,h1,rfl) e (λz=>nomatch z) h
 | @tup a C d=>
  cases (f);have(_,_,_,p):=(I.hok a _ d);have(o,h1,h2,_):=p
  show iZ W.kitx_tuple I.kIn (o,h1,h2) e (λz=>nomatch z) h
 | @dK a kvs d=>
  cases (f);have(_,_,vs,_,p):=(I.hok a _ d);have(o,es,g,h1,h2,_):=p
  show iZ W.kitx_dict I.kIn (o,h1,h2.1) e (λz=>nomatch z) h
 | @dT a kvs d=>
  cases (f);have(_,_,C,_,o,es,g,h1,h2,_):=(I.hok a _ d)
  show iZ W.kitx_dict I.kIn (o,h1,h2.1) e (λz=>nomatch z) h
 | @ins a V5 dx fs d cl ha hn htk hm=>
  cases (f);have(mA,O,_):=tO I.hok d;have(od,J,_):=O.look;show iZ (W.kitx_own (cl.get _) cl.hd ha hn htk hm) I.kIn J e (λz=>nomatch z) h
end
structure bv(k:Nat)(A:b8):Prop where
 hd:A.handled=ab
 dp:A.depth+3*k+5<recursionLimit
 un:A.units+16*k+200<cLine
def bv.mono{j k:Nat}(r:bv k A)(h:j<=k):bv j A:=(r.hd,by have:=r.dp;lia,by have:=r.un;lia)
def bv.deeper{k:Nat}(r:bv (k+1) A)(env:Env):bv k (A.deeper env):=
 (r.hd,by have:=r.dp;change A.depth+1+3*k+5<_;lia,by have:=r.un;change A.units+3+16*k+200<_;lia)
def LH:(A.under (.builtin "type.__call__" (.ref V5::us,kw))).depth=A.depth+1:=by
 first |rfl |simp[b8.under]
def LI:(A.under (.builtin "type.__call__" (.ref V5::us,kw))).units=A.units+1:=by
 first |rfl |simp[b8.under]
def bv.make{k:Nat}(r:bv (k+1) A)(V5:Addr)(us:LVa)(kw:List (Str×Value)):bv k (A.under (.builtin "type.__call__" (.ref V5::us,kw))):=
 (r.hd,by have:=r.dp;rw[LH];lia,by have:=r.un;rw[LI];lia)
def bv.depth{k:Nat}(r:bv k A):A.depth<recursionLimit:=by have:=r.dp;lia
def bv.units{k:Nat}(r:bv k A):A.units+64<cLine:=by have:=r.un;lia
abbrev hU:TA:=λ_ H Q=>Q [] H
abbrev i7(ta:TE)(tr:TA):TA:=λE H Q=>ta E H λx H1=>tr E H1 λC H2=>Q (x::C) H2
def dZ:PA X [] hU:=λ_ _ _ _ H Q I h=>wO ([],H,I,.nil,h)
def eO{t:TA}(ha:PE X e te)(hr:PA X es t)(c:StE X e es:=by rfl):PA X (e::es) (i7 te t):=by
 intro pos U s E H Q I h;rw[c];show iX (thn (ha U s E H _ I h) λu s1 (x,H1,a,g,d)=>(thn (hr pos U s1 E H1 _ a d) λus s2 (C,H2,b,i,f)=>(x::C,H2,b,.cons g i,f)))
abbrev LJ(t:TA):TE:=λE H Q=>t E H λC H1=>C.length<=aS/\∀p,H1 p=ab->Q (.ref p) (upd H1 p (.tup C))
abbrev xz(t:TA):TE:=λE H Q=>t E H λC H1=>C.length<=aS/\∀p,H1 p=ab->Q (.ref p) (upd H1 p (.lst C))
def LK{t:TA}{x1}(h:PA X es t):PE X (.Tuple es x1 pos) (LJ t):=by
 intro U s E H Q I c;show wpAny_Tuple_spliced (thn (h pos U s E H _ I c) λus s1 (C,H1,a,r,z,q)=>(by rw[<- r.length];show z,?_));show(.ref s1.heap.objs.size,upd H1 s1.heap.objs.size _,a.laid (λb u e=>bx _ e) (aL _) ?_,rfl,q _ (a.hok.fresh (aL _)));show(z,us,r,(_,cP _ rfl,rfl,_,rfl))
def tP{t:TA}(h:PA X es t):PE X (.List es pos) (xz t):=by
 intro U s E H Q I c;show wpAny_List_spliced (thn (h pos U s E H _ I c) λus s1 (C,H1,a,r,z,q)=>(by rw[<- r.length];show z,?_));show(.ref s1.heap.objs.size,upd H1 s1.heap.objs.size _,a.laid (λb u e=>bx _ e) (aL _) ?_,rfl,q _ (a.hok.fresh (aL _)));show(z,us,0,r,cP _ rfl)
nonrec def Sp:=LVv->Hp->VK->XK->Prop
nonrec def CXT:=List Env->Hp->ah->XK->PRS
structure mJ(P:cb)(w:World)(K:aQ)(mg:MGT)(base:Heap)(A:b8)(outer:List Env)(s:ah)(H:Hp):Prop where
 frames:A.frames=aa outer
 mod:Mod K mg base
 bs:∀b o,base.get? b=aa o->s.heap.get? b=aa o/\H b=ab
 bsz:base.objs.size<=s.heap.objs.size
 funs:s.heap.FunFrames base outer
 frf:∀b∈frs outer,H b=ab
 hok:HOk P w H s.heap
 bare:jZ s.gens
abbrev CE(outer:List Env)(P:cb)(w:World)(H:Hp)(s:ah)(Q:VK)(u:Value)(s':ah):Prop:=
 ∃v H',s'.os=s.os/\jZ s'.gens/\Un (frs outer) [] H H' s.heap s'.heap/\HOk P w H' s'.heap/\aB v u/\Q v H'
abbrev CR(CX:CXT)(outer:List Env)(P:cb)(w:World)(H:Hp)(s:ah)(Q:VK)(V4:XK)(r:Result)(s':ah):Prop:=
 match r with
 |.ok (.ret u)=>CE outer P w H s Q u s'
 |.ok _=>False
 |.error e=>CX outer H s V4 e s'
structure cv(P:cb)(w:World)(K:aQ)(mg:MGT)(base:Heap)(CX:CXT)(k:Nat)(f:Addr)(fd:cO)(ps:LSt)(sp:Sp):Prop where
 len:∀vs H Q V4,sp vs H Q V4->vs.length=ps.length
 run:∀(A:b8) (outer:List Env) (s:ah) (H:Hp) (args:Args) (us:LVa) (vs:LVv) (Q:VK) (V4:XK),bv k A->mJ P w K mg base A outer s H->BindsTo s fd args (ps.zip us)->aG vs us->sp vs H Q V4 ->
  gA (model P w) A (.call (.ref f) args) (CR CX outer P w H s Q V4) s
variable{mg:MGT}{base:Heap}{CX:CXT}{f:Addr}{fd:cO}{ps:LSt}{sp:Sp}
def cv.imp{k:Nat}{a:Sp}(F:cv P w K mg base CX k f fd ps sp)
 (h:∀vs H Q V4,a vs H Q V4->sp vs H Q V4):cv P w K mg base CX k f fd ps a:=
 (λvs H Q V4 q=>F.len vs H Q V4 (h _ _ _ _ q),λA outer s H args us vs Q V4 hr c b hv d=>F.run A outer s H args us vs Q V4 hr c b hv (h _ _ _ _ d))
variable{outer:List Env}
def mJ.make{s:ah}(e:mJ P w K mg base A outer s H)(V5:Addr)(us:LVa)(kw:List (Str×Value)):
  mJ P w K mg base (A.under (.builtin "type.__call__" (.ref V5::us,kw))) outer s H:=⟨by first |show e.frames |(simpa[b8.under]using e.frames),e.mod,e.bs,e.bsz,e.funs,e.frf,e.hok,e.bare⟩
def Inv.env0{s:ah}(I:Inv X U E H s):mJ X.prog X.w X.K X.mg X.base X.A X.stack s H:=
 (I.ok.frames,I.ok.mod,I.bs,cN I.ok.bsz I.sz,I.stack,I.stkFree,I.hok,I.bare)
variable{Q:VK}
def Inv.after{s:ah}(I:Inv X U E H s)(h:CE X.stack X.prog X.w H s Q u s'):EP X U E Q u s':=by
 have(v,H',os,bare,un,hok,r,q):=h;have(c,g,d,t,a):=s';obtain rfl:a=s.os:=os;show(v,H',I.call un hok bare (λb z=>absurd z (by simp)),r,q)
abbrev xA(sp:Sp)(a:LVv)(V4:XK)(t:TA):TE:=λE H Q=>t E H λvs H1=>sp (vs++a) H1 Q V4
abbrev tQ(V5:Addr)(m:Str)(sp:Sp)(b:LVv)(V4:XK)(ta:TE)(t:TA):TE:=λE H Q=>ta E H λx H1=>∃a dx fs,x=.ref a/\H1 a=aa (.ins V5 dx fs)/\fs.lookup m=ab /\
 t E H1 λvs H2=>sp (x::(vs++b)) H2 Q V4
abbrev Eo(V5:Addr)(sp:Sp)(a:LVv)(V4:XK)(t:TA):TE:=λE H Q=>t E H λvs H1=>∀x dx,H1 x=ab->H1 dx=ab->dx≠x ->
 sp (.ref x::(vs++a)) (upd (upd H1 dx (.own x)) x (.ins V5 dx [])) (λv H2=>v=.non/\Q (.ref x) H2) V4
abbrev dS(K:aQ)(fd:cO)(ps:LSt)(ds:LVa):Prop:=
 ∀(s:ah) (us:LVa),K.In s.heap->(us++ds).length=ps.length->BindsTo s fd (us,[]) (ps.zip (us++ds))
def dS.all(h:∀us:LVa,us.length=ps.length->bindArgs fd (us,[])=pure (ps.zip us)):dS K fd ps []:=λs us _ a=>by
 rw[bQ]at a ⊢;show .of_eq (h us a)
abbrev mK(CX:CXT)(X:Cx)(V4:XK):Prop:=∀(U:PNS) (E:St) (H:Hp) (s:ah) (e:Value) (s':ah),Inv X U E H s->CX X.stack H s V4 e s'->X.xe e s'
variable{e6 vs:LVv}{ds:LVa}{V4:XK}
def tR{k:Nat}{s:ah}(F:cv X.prog X.w X.K X.mg X.base CX k f fd ps sp)(hr:bv k X.A)(d:dS X.K fd ps ds)(hd:aG e6 ds)(i:mK CX X V4)
 (I:Inv X U E H s)(r:aG vs us)(h:sp (vs++e6) H Q V4):wpAny (model X.prog X.w) X.A (call (.ref f) us) (EP X U E Q) X.xe s:=by
 have b:=r.append hd;have g:(us++ds).length=ps.length:=by rw[<- b.length];show F.len _ _ _ _ h
 show wpAny_call (kX (F.run X.A X.stack s H (us,[]) _ _ Q V4 hr I.env0 (d s us I.kIn g) b h) λr s' a=>?_)
 cases r with
 |error e=>show i U E H s e s' I a
 |ok c=>
  cases c with
  |ret u=>show I.after a
  |next=>show gU a
  |brk=>show gU a
  |cont=>show gU a
variable{x:Str}{p:Pos}
def qy{k:Nat}{t:TA}(F:cv X.prog X.w X.K X.mg X.base CX k f fd ps sp)(hr:bv k X.A)(i:Gl X x)(hm:X.mg x=aa (.ref f))(j:gb X.K (.ref f)=ac)(d:dS X.K fd ps ds)(hd:aG e6 ds)(l:mK CX X V4)
 (ha:PA X (e::es) t)(a:NDb x:=by decide)(g:StE X e es:=by rfl)(b:BkE X pos es:=by rfl):
  PE X (.Call (.Name x p) (e::es) [] pos) (xA sp e6 V4 t):=by
 intro U s E H Q I h;show iT (xc I i hm ?_ a);show W.callWith_K I.ok.mod.kin j (thn (ha pos U s E H _ I h) λus s1 (vs,H1,c,r,q)=>(c.kIn,(tR F hr d hd l c r q))) g b
variable{apos:Pos}
def xB{k:Nat}{o:Expr}{t:TA}(p:PE X o ta)(c:Cls X.K V5)(hm:qx X.K V5 m f)(F:cv X.prog X.w X.K X.mg X.base CX k f fd ps sp)(hr:bv k X.A)(n:dS X.K fd ps ds)(hd:aG e6 ds)(y:mK CX X V4)(ha:PA X (e::es) t)
 (d:StE X e es:=by rfl)(b:BkE X pos es:=by rfl)
 (v:eval (.Call (.Attribute o m apos) (e::es) [] pos) X.env=(do
   let ov <- eval o X.env
   gz apos.atName
   let (f,first,) <- eJ [ov] (g4 ov m pl)
   jD pos f first (ce pos (aN (e::es) X.env)) (iq pos (ip [] X.env))):=by rfl):
  PE X (.Call (.Attribute o m apos) (e::es) [] pos) (tQ V5 m sp e6 V4 ta t):=by
 intro U s E H Q I h;show W.methodCall_KW (thn (p U s E H _ I h) λu s1 B=>?_) v;have(x,H1,g,C,a,dx,fs,ex,j,l,q):=B;subst ex;obtain rfl:u=eM a:=C;show Ej g j c hm l ?_;show W.callWith_K I.ok.mod.kin hm.kp (thn (ha pos U s1 E H1 _ g q) λus s2 (vs,H2,i,r,z)=>(i.kIn,(tR (vs:=.ref a::vs) F hr n hd y i (.cons rfl r) z))) d b
def xC{k:Nat}{o:Expr}(g:PE X o ta)(c:Cls X.K V5)(hm:qx X.K V5 m f)(F:cv X.prog X.w X.K X.mg X.base CX k f fd ps sp)(hr:bv k X.A)(e:dS X.K fd ps ds)(hd:aG e6 ds)(j:mK CX X V4)
 (i:eval (.Call (.Attribute o m apos) [] [] pos) X.env=(do
   let ov <- eval o X.env
   gz apos.atName
   let (f,first,) <- eJ [ov] (g4 ov m pl)
   jD pos f first (ce pos (aN [] X.env)) (iq pos (ip [] X.env))):=by rfl):
  PE X (.Call (.Attribute o m apos) [] [] pos) (tQ V5 m sp e6 V4 ta hU):=by
 intro U s E H Q I h;show W.methodCall_KW (thn (g U s E H _ I h) λu s1 n=>?_) i;have(x,H1,b,p,a,dx,fs,ex,d,l,q):=n;subst ex;obtain rfl:u=eM a:=p;show Ej b d c hm l (W.callWith_K0 b.kIn hm.kp (tR (vs:=[.ref a]) F hr e hd j b (.cons rfl .nil) q))
structure Mk(K:aQ)(V5 f:Addr):Prop where
 makes:mw K V5=ac
 init:cq K (.ref V5) "__init__"=aa (aa (.ref f))
 fn:W.isFn K (.ref f)=ac
 kp:gb K (.ref V5)=ac
def LL{k:Nat}{s:ah}(V1:Mk X.K V5 f)(F:cv X.prog X.w X.K X.mg X.base CX k f fd ps sp)(hr:bv (k+1) X.A)(l:dS X.K fd ps ds)(hd:aG e6 ds)
 (n:mK CX X V4)(I:Inv X U E H s)(r:aG vs us)
 (h:∀x dx,H x=ab->H dx=ab->dx≠x->sp (.ref x::(vs++e6)) (upd (upd H dx (.own x)) x (.ins V5 dx [])) (λv H2=>v=.non/\Q (.ref x) H2) V4):
  wpAny (model X.prog X.w) X.A (call (.ref V5) us) (EP X U E Q) X.xe s:=by
 have c:=h _ s.heap.objs.size (I.hok.fresh (jX _)) (I.hok.fresh (aL _)) (bW (c6 _));have b:=Inv.made (V5:=V5) I;have d:aG (V.ref _::_) (eM (s.heap.objs.size+1)::_):=.cons rfl (r.append hd)
 have m:(eM (s.heap.objs.size+1)::us++ds).length=ps.length:=by
  have e:=d.length;rw[F.len _ _ _ _ c]at e;show e.symm
 show wpAny_call (Lw I.kIn V1.makes V1.init (beq_iff_eq.mp V1.fn) (kX (F.run _ X.stack _ _ (eM _::us,[]) _ _ _ V4 (hr.make V5 us [])
  (b.env0.make V5 us []) (l _ _ b.kIn m) d c) λr s' a=>?_))
 cases r with
 |error e=>show n U E _ _ e s' b a
 |ok j=>
  cases j with
  |ret u=>
   have(v,H',g,rv,i,p):=b.after a;subst i
   show(rv,(V.ref _,H',g,rfl,p))
  |next=>show gU a
  |brk=>show gU a
  |cont=>show gU a
def Ep{k:Nat}{t:TA}(V1:Mk X.K V5 f)(F:cv X.prog X.w X.K X.mg X.base CX k f fd ps sp)(hr:bv (k+1) X.A)(i:Gl X x)(hm:X.mg x=aa (.ref V5))(d:dS X.K fd ps ds)(hd:aG e6 ds)(j:mK CX X V4)
 (ha:PA X (e::es) t)(a:NDb x:=by decide)(g:StE X e es:=by rfl)(b:BkE X pos es:=by rfl):
  PE X (.Call (.Name x p) (e::es) [] pos) (Eo V5 sp e6 V4 t):=by
 intro U s E H Q I h;show iT (xc I i hm ?_ a);show W.callWith_K I.ok.mod.kin V1.kp (thn (ha pos U s E H _ I h) λus s1 (vs,H1,c,r,q)=>(c.kIn,(LL V1 F hr d hd j c r q))) g b
structure aC(N P:LSt)(sc:Scope):Prop where
 kind:sc.kind=.function
 co:sc.isCoroutine=af
 gen:sc.isGenerator=af
 nd:N.Nodup
 pre:N.take P.length=P
 par:∀x∈P,sc.names.lookup x=aa .local\/sc.names.lookup x=aa .cell
 nofree:∀y∈sc.names,y.2≠.free
def Er{kindOf:Str->Option f9}{x:Str}:∀{binds:List (Str×Value)} {m:MGT},(∀v,(x,v,)∉binds)->bindL kindOf binds m x=m x
 | [],_,_=>rfl
 |(n,v,)::r,m,h=>by
  unfold bindL;rw[Er λw a=>h w (bh _ a)];split
  .grind
  .rfl
def Es{kindOf:Str->Option f9}{x:Str}:∀{binds:List (Str×Value)} {m:MGT},(∀v,(x,v,)∉binds)->bindC kindOf binds m x=m x
 | [],_,_=>rfl
 |(n,v,)::r,m,h=>by
  unfold bindC;rw[Es λw a=>h w (bh _ a)];split
  .rfl
  .grind
def Et{kindOf:Str->Option f9}{x:Str}{v:Value}:∀{P:LSt} {vs:LVa} {i:Nat} {m:MGT},P.Nodup->P[i]?=aa x->vs[i]?=aa v->kindOf x=aa .local ->
  bindL kindOf (P.zip vs) m x=aa v
 | [],_,_,_,_,h,_,_=>by simp at h
 | _::_,[],_,_,_,_,h,_=>by simp at h
 |p::P,w::vs,0,m,nd,h1,h2,hk=>by
  simp at h1 h2;subst h1;subst h2;change bindL kindOf (_::P.zip vs) m p=_;dsimp only[bindL];rw[Er λv hv=>(b7.mp nd).1 (of_mem_zip hv).1,if_pos hk]
  simp
 |p::P,w::vs,i+1,m,nd,h1,h2,hk=>by
  change bindL kindOf (_::P.zip vs) m x=_;show Et (b7.mp nd).2 (by simpa using h1) (by simpa using h2) hk
def Eu{kindOf:Str->Option f9}{x:Str}{v:Value}:∀{P:LSt} {vs:LVa} {i:Nat} {m:MGT},P.Nodup->P[i]?=aa x->vs[i]?=aa v->kindOf x≠aa .local ->
  bindC kindOf (P.zip vs) m x=aa v
 | [],_,_,_,_,h,_,_=>by simp at h
 | _::_,[],_,_,_,_,h,_=>by simp at h
 |p::P,w::vs,0,m,nd,h1,h2,hk=>by
  simp at h1 h2;subst h1;subst h2;change bindC kindOf (_::P.zip vs) m p=_;dsimp only[bindC];rw[Es λv hv=>(b7.mp nd).1 (of_mem_zip hv).1,if_neg hk]
  simp
 |p::P,w::vs,i+1,m,nd,h1,h2,hk=>by
  change bindC kindOf (_::P.zip vs) m x=_;show Eu (b7.mp nd).2 (by simpa using h1) (by simpa using h2) hk
abbrev start(N:LSt)(vs:LVv):St:=vs.map aa++gX (N.length-vs.length) ab
abbrev iz(CX:CXT)(P:cb)(w:World)(K:aQ)(mg:MGT)(base:Heap)(N:LSt)(qual:Str)(scope:Scope)(f:Addr)(cd:Value)(A:b8)(outer:List Env)(s:ah)(H:Hp)(V4:XK):Cx where
 prog:=P
 w:=w
 K:=K
 mg:=mg
 base:=base
 A:=A.deeper (f7 qual scope s.heap.objs.size f cd)
 N:=N
 s₀:=s
 H₀:=H
 env:=f7 qual scope s.heap.objs.size f cd
 outer:=outer
 stack:=f7 qual scope s.heap.objs.size f cd::outer
 ex:=[]
 calm:=ac
 fn:=λ_=>ac
 pn:=[]
 xe:=λe s'=>wpAny (model P w) (A.deeper (f7 qual scope s.heap.objs.size f cd)) (leaving (f7 qual scope s.heap.objs.size f cd) e) (λ_ s''=>CX outer H s V4 e s'') (λe' s''=>CX outer H s V4 e' s'') s'
variable{n:Nat}
def Ev{sc:Scope}(h:sc.names.lookup x=aa .cell):∃c,(cellsFrom n sc.names []).lookup x=aa c:=by
 show wI.mp (W.cellsFrom_some sc.names n [] (.inl h))
variable{qual:Str}{scope:Scope}
def LM{m:Value}{s s1:ah}
 (S:aC N ps scope)(hd:A.handled=ab)(e0:mJ P w K mg base A outer s H)(G:vs.length=ps.length)(r:aG vs us)
 (x:InCallC s s.heap.objs.size (bindL (f7 qual scope s.heap.objs.size f m).kindOf (ps.zip us) λ_=>ab) (cellsFrom (s.heap.objs.size+1) scope.names []) (bindC (f7 qual scope s.heap.objs.size f m).kindOf (ps.zip us) λ_=>ab) s1):
  Inv (iz CX P w K mg base N qual scope f m A outer s H V4) [] (start N vs) H s1:=by
 have C:ps.length<=N.length:=by have:=congrArg List.length S.pre;rw[length_take]at this;lia
 have(h1,I,rfl,n):=x.done;have g:∀b:Addr,b∉(iz CX P w K mg base N qual scope f m A outer s H V4).ex:=λb z=>absurd (show b∈([]:LAd)from z) (by simp)
 show((e0.mod,S.kind,rfl,rfl,aL _,λy z c h1 h2=>?_,λy d=>?_,λy c _ h=>?_,λ_=>hd,b8.frames_deeper e0.frames,.inr (rfl,rfl),λb z=>absurd z (g b),e0.bs,e0.bsz,λb _ _=>g b,λb z=>absurd z (g b),e0.funs,e0.frf),
  rfl,e0.bare,Un.kept n,(_,x.toInCall.ns,λi y v h1 h2 E=>?_),λy c h=>(_,x.cell y c h),e0.hok.fresh (aL _),λy c h=>?_,λp j=>absurd (show p∈([]:List _)from j) (by simp),e0.hok.kept n,?_)
 .show name_of_addr x.apart (qi h1) (qi h2)
 .have d:=d
  rcases d with d |d
  .show Ev d
  .show absurd rfl (S.nofree _ (qi d))
 .show fj (x.above y c (qi h))
 .have hi:i<vs.length:=by
   unfold start at h2
   by_cases hi:i<vs.length
   .show hi
   .rw[nP (by simpa using hi)]at h2;rw[nQ]at h2
    split at h2 <;> nomatch h2
  have ha:vs[i]?=aa v:=by
   unfold start at h2;rw[lV (by simpa using hi),cH]at h2
   cases e:vs[i]? with
   |none=>rw[e]at h2;nomatch h2
   |some a=>rw[e]at h2;cases h2;rfl
  have(u,B,rv):=r.get ha
  have j:ps[i]?=aa y:=by
   rw[<- S.pre,List.getElem?_take_of_lt (by lia)];show h1
  have l:ps.Nodup:=by rw[<- S.pre];show S.nd.sublist (take_sublist _ _)
  show(u,rv,?_)
  rcases S.par y (dH j)with k |k
  .show .inl (k,Et l j B k)
  .have(c,e):=Ev k;show .inr (.inl k,c,e,?_);have q:=x.cell y c e;rw[Eu l j B (by change scope.names.lookup y≠_;rw[k];decide)]at q;show q
 .show e0.hok.fresh (fj (x.above y c (qi h)))
 .unfold start;change _=N.length;rw[aR,aA,lW]
  lia
variable{an od:Option Addr}{osl:Array (Option Value)}
def Ew{k:Nat}{params:Arguments}{dV kV doc pm cdv ct oc:Value}
  (C:K.lookup f=aa (oc,od,.func (i0 name qual params body scope dV kV doc pm an cdv ct),osl))(h:W.codeIn K cdv qual=ac)(S:aC N ps scope)
 (len:∀vs H Q V4,sp vs H Q V4->vs.length=ps.length)
 (a:∀ (A:b8) (outer:List Env) (s:ah) (H:Hp) (vs:LVv) (Q:VK) (V4:XK),bv k (A.deeper (f7 qual scope s.heap.objs.size f cdv))->sp vs H Q V4 ->
   ∃t,PSs (iz CX P w K mg base N qual scope f cdv A outer s H V4) body t/\t {nx:=λ_ H'=>Q .non H',rt:=Q} (start N vs) H):
  cv P w K mg base CX (k+1) f (i0 name qual params body scope dV kV doc pm an cdv ct) ps sp:=by
 show(len,λA outer s H args us vs Q V4 hr e0 l r g=>?_);have i:=e0.mod.kin.keeps λb o e=>(e0.bs b o e).1
 have c:∀y∈ps.zip us,scope.names.lookup y.1=aa .local\/(scope.names.lookup y.1=aa .cell/\((cellsFrom (s.heap.objs.size+1) scope.names []).lookup y.1).isSome=ac):=λ(n,v) B=>by
  rcases S.par n (of_mem_zip B).1 with q |q
  .show .inl q
  .show .inr (q,W.cellsFrom_some _ _ _ (.inl q))
 show codeAny_call_function hr.depth (i _ _ C) rfl S.co S.gen rfl (W.codeRec_of i h) (l _ _ _ _ ?_);show wpAny_newFunctionEnv_cells S.kind c λenv m s1 x=>?_;subst m;show((e0.mod.nolimit.keeps λb o e=>(e0.bs b o e).1).keeps x.toInCall.keep,codeAny_func ?_);have(t,z,p):=a A outer s H vs Q V4 (hr.deeper _) g;have I:Inv (iz CX P w K mg base N qual scope f cdv A outer s H V4) [] _ H s1:=LM S hr.hd e0 (len _ _ _ _ g) r x;show fK (z [] s1 _ H _ I p) (λj s' d=>?_) λe s' d=>d
 have fin:∀{σ':St} {H':Hp} {v:V} {u:Value},Inv (iz CX P w K mg base N qual scope f cdv A outer s H V4) [] σ' H' s'->aB v u->Q v H'->CE outer P w H s Q u s':=
  λ{σ' H' v u} J rv q=>(v,H',J.os,J.bare,J.base,J.hok,rv,q)
 cases j with
 |ret u=>
  have(v,σ',H',J,rv,q):=d
  show fin J rv q
 |next=>
  have(σ',H',J,q):=d
  show fin (v:=V.non) J rfl q
 |brk=>
  have(_,_,_,q):=d
  show gU q
 |cont=>
  have(_,_,_,q):=d;show gU q
abbrev tCB(r:LVv->Hp->VK->Prop)(t:TA):TE:=λE H Q=>t E H λvs H1=>r vs H1 Q
variable{r:LVv->Hp->VK->Prop}
def Ex{t:TA}{id:String}(d:iy X (.builtin id) r)(g:Gl X x)(hm:X.mg x=ab)(hv:jC x=aa (.builtin id))(ha:PA X (e::es) t)(hn:x ≠ "__name__":=by decide)(a:NDb x:=by decide)
 (f:StE X e es:=by rfl)(b:BkE X pos es:=by rfl):PE X (.Call (.Name x p) (e::es) [] pos) (tCB r t):=by
 intro U s E H Q I h;show iT (g9 I g hm hv (wJ (thn (ha pos U s E H _ I h) λus s1 (vs,H1,c,j,i)=>d U s1 E H1 vs us Q c j i) f b) hn a)
variable{T:String}
def LO{t:TA}(d:iy X (.type T) r)(g:Gl X x)(hm:X.mg x=ab)(hv:jC x=aa (.type T))(ha:PA X (e::es) t)(hn:x ≠ "__name__":=by decide)(a:NDb x:=by decide)
 (f:StE X e es:=by rfl)(b:BkE X pos es:=by rfl):PE X (.Call (.Name x p) (e::es) [] pos) (tCB r t):=by
 intro U s E H Q I h;show iT (g9 I g hm hv (jY (thn (ha pos U s E H _ I h) λus s1 (vs,H1,c,j,i)=>d U s1 E H1 vs us Q c j i) f b) hn a)
end L2
namespace HT
open List
open PySem PyProof.Rows
open PySem.SeqAt
open PySem.AutoSeq1 (wpAny_loadPart')
open PySem.MeetsSeq PySem.MeetsSeq2 PySem.MeetsSeq3
abbrev sIx(n d:Nat):Option Int->Nat
 |none=>d
 |some v=>if v<0 then (v+(n:Int)).toNat else min v.toNat n
def sIx_none(n d:Nat):sIx n d ab=d:=rfl
def sIx_nat(n d k:Nat):sIx n d (aa (k:Int))=min k n:=by rfl
end HT
namespace L2
open List
open PySem PySem.Spec PyProof.Rows
nonrec def TO:=St->Hp->(Option Int->Hp->Prop)->Prop
abbrev PO(X:Cx)(e:Option Expr)(t:TO):Prop:=
 ∀(U:PNS) (s:ah) (E:St) (H:Hp) (Q:Option Int->Hp->Prop),Inv X U E H s->t E H Q ->
  wpAny (model X.prog X.w) X.A (evalPart e X.env) (λu a=>∃o H',Inv X U E H' a/\IsPart u o/\Q o H') X.xe s
abbrev LP:TO:=λ_ H Q=>Q ab H
abbrev LQ(t:TE):TO:=λE H Q=>t E H λx a=>∃i,x=.int i/\Q (aa i) a
variable{ns:LI0}
def LR:∀{us:LVa},aG (ns.map V.int) us->f6 us ns:=by
 induction ns with
 |nil=>intro us r;rw[map_nil]at r;cases r;show .nil
 |cons n ns a=>
  intro us r
  cases r with
  |cons b c=>
   have(t,e):=b;subst e;show .cons n t (a c)
variable{X:Cx}
def LU:PO X ab LP:=by
 intro U s E H Q I h;show aD (ab,H,I,.none,h)
variable{e:Expr}{te:TE}
def LV(h:PE X e te):PO X (aa e) (LQ te):=by
 intro U s E H Q I c;show thn (h U s E H _ I c) λu s1 f=>?_;have(x,a,b,g,d):=f;have(i,rfl,q):=d;have(t,rfl):=g;show(aa i,a,b,.int i t,q)
variable{lo hi:Option Expr}
abbrev SlR(X:Cx)(r:V->Option Int->Option Int->Hp->VK->Prop):Prop:=
 ∀(U:PNS) (s:ah) (E:St) (H:Hp) (x:V) (v vl a:Value) (lo hi:Option Int) (sl:Addr) (Q:VK),Inv X U E H s->aB x v->s.heap.IsSliceOf sl vl a .none->IsPart vl lo->IsPart a hi->r x lo hi H Q ->
  ∃T id,mj (.type T) "__getitem__"=pure (aa (.builtin id))/\s.TypeIs v T/\wpAny (model X.prog X.w) X.A (getItem v (.ref sl)) (EP X U E Q) X.xe s
abbrev tSl(r:V->Option Int->Option Int->Hp->VK->Prop)(te:TE)(tl d:TO):TE:=λE H Q=>te E H λx a=>tl E a λl b=>d E b λu c=>r x l u c Q
variable{tl th:TO}{pos p2:Pos}
def LW{r:V->Option Int->Option Int->Hp->VK->Prop}(hr:SlR X r)(y:PE X e te)(A:PO X lo tl)(C:PO X hi th):PE X (.Subscript e (.Slice lo hi ab p2) pos) (tSl r te tl th):=by
 intro U s E H Q I h;show Subscript_ (thn (y U s E H _ I h) λv s1 c=>?_);have(x,g,j,Y,L):=c;show wpAny_Slice (thn (A U s1 E g _ j L) λvl s2 (l,i,m,G,M)=>thn (C U s2 E i _ m M) λd a c=>?_);have(u,f,n,J,N):=c;show aD ?_
 have p:Inv X U E f {a with heap:=a.heap.push {cls:=.type "slice",data:=.fields #[vl,d,.none]}}:=n.kept λb ob q=>bx _ q
 have(T,id,w,B,z):=hr U {a with heap:=a.heap.push {cls:=.type "slice",data:=.fields #[vl,d,.none]}} E f x v vl d l u a.heap.objs.size Q p Y (Heap.IsSliceOf.new ..) G J N
 show tail_any B w z (by with_unfolding_all rfl)
abbrev qz(C:LVv)(lo hi:Option Int):LVv:=(C.drop (HT.sIx C.length 0 lo)).take (HT.sIx C.length C.length hi-HT.sIx C.length 0 lo)
def LX(C:LVv)(lo hi:Option Int):(qz C lo hi).length<=C.length:=by
 unfold qz;rw[length_take,length_drop]
 lia
abbrev ixN(n:Nat)(i:Int):Option Nat:=if 0<=i then (if i<n then aa i.toNat else ab) else if -(n:Int)<=i then aa (i+n).toNat else ab
abbrev atI{a:Type}(C:List a)(i:Int):Option a:=(ixN C.length i).bind λj=>C[j]?
variable{n j:Nat}{i:Int}
def Ey(h:ixN n i=aa j):seqIndex? i n=aa j/\j<n/\-(n:Int)<=i/\i<n:=by
 unfold ixN at h
 by_cases b:0<=i
 .rw[if_pos b]at h
  by_cases a:i<n
  .rw[if_pos a]at h;have e:=c9 h;show(by rw[seqIndex_of b a,e],by lia,by lia,a)
  .rw[if_neg a]at h;nomatch h
 .rw[if_neg b]at h
  by_cases a:-n<=i
  .rw[if_pos a]at h;have e:=c9 h;show(by rw[seqIndex_neg (by lia) a,e],by lia,a,by lia)
  .rw[if_neg a]at h;nomatch h
def Ez{a:Type}{C:List a}{v:a}(h:atI C i=aa v):∃j,seqIndex? i C.length=aa j/\C[j]?=aa v/\j<C.length/\-(C.length:Int)<=i/\i<C.length:=by
 unfold atI at h
 cases e:ixN C.length i with
 |none=>rw[e]at h;nomatch h
 |some j=>
  rw[e]at h;have(b,h2,c,d):=Ey e;show(j,b,h,h2,c,d)
def LY{a:Type}{C:List a}{v:a}(h:C[j]?=aa v):atI C (j:Int)=aa v:=by
 have b:=(cU.mp h).1
 have e:ixN C.length j=aa j:=by
  unfold ixN;rw[if_pos (by lia),if_pos (by lia)];simp
 unfold atI;rw[e];show h
abbrev EA(b:Expr):Prop:=∀o i,subscripted b af o i=operate [o,i] (getItem o i)
abbrev IxR(X:Cx)(r:R2):Prop:=
 ∀(value a:Expr) (U:PNS) (s:ah) (E:St) (H:Hp) (x y:V) (v u:Value) (Q:VK),Inv X U E H s->aB x v->aB y u->r x y H Q ->
  subscripted a af v u=operate [v,u] (getItem v u)->wpAny (model X.prog X.w) X.A (subscriptTail value a v u) (EP X U E Q) X.xe s
abbrev MtR(X:Cx)(id:String)(r:V->LVv->Hp->VK->Prop):Prop:=
 ∀(U:PNS) (s:ah) (E:St) (H:Hp) (x:V) (C:LVv) (v:Value) (us:LVa) (Q:VK),Inv X U E H s->aB x v->aG C us->r x C H Q ->
  wpAny (model X.prog X.w) X.A (call (.builtin id) (v::us)) (EP X U E Q) X.xe s
variable{r r':R2}
def IxR.or(h:IxR X r)(h':IxR X r'):IxR X (λx y H Q=>r x y H Q\/r' x y H Q):=by
 intro value a U s E H x y v u Q I c d q b
 rcases q with q |q
 .show h value a U s E H x y v u Q I c d q b
 .show h' value a U s E H x y v u Q I c d q b
variable{a b:Expr}{ta tb:TE}
def LZ(hr:IxR X r)(ha:PE X a ta)(e:PE X b tb)(f:EA b):PE X (.Subscript a b pos) (tOp r ta tb):=by
 intro U s E H Q I h;show Subscript_ (xn ha e I h λv u s2 x y c d g i q=>hr a b U s2 E c x y v u Q d g i q (f _ _))
abbrev L4(K:aQ):R2:=λx y H Q=>∃p C i v,x=.ref p/\y=.int i/\SqL K H p C/\atI C i=aa v/\Q v H
abbrev L5(K:aQ):R2:=λx y H Q=>∃p C i v,x=.ref p/\y=.int i/\SqT K H p C/\atI C i=aa v/\Q v H
def L6:IxR X (L4 X.K):=by
 intro value e U s E H x y v u Q I L M h l;have(p,C,i,z,rfl,rfl,J,A,q):=h;subst L;have(t,rfl):=M;have(B,r,c,hz):=I.list J;have(j,a,h2,N,m,n):=Ez A;have(w,f,d):=r.get h2;have G:=r.length;have hn:=qw;have fin:EP X U E Q w s:=(z,H,I,d,q)
 by_cases g:0<=i
 .have b:i.toNat=j:=by
   rw[seqIndex_of g n]at a;show c9 a
  show item_listR c.isList g (by lia) (by rw[b];simpa using f) fin l
 .have b:(i+B.toArray.size).toNat=j:=by
   rw[seqIndex_neg (by lia) m]at a;rw[size_toArray,<- G];show c9 a
  show subscriptTail_builtinR c.isList.typeIs slot_list_getitem.lookup
   (wpAny_getItem_list_neg c.isList (by lia) (by rw[size_toArray] <;> lia) (by lia) (by rw[b];simpa using f) (rfl,fin)) l
def L7:IxR X (L5 X.K):=by
 intro value b U s E H x y v u Q I m n h l;have(p,C,i,z,rfl,rfl,g,f,q):=h;subst m;have(t,rfl):=n;have(B,r,c,hz):=I.tuple g;have(j,e,h2,A,G,J):=Ez f;have(w,d,a):=r.get h2;have hn:=qw;have fin:EP X U E Q w s:=(z,H,I,a,q)
 show subscriptTail_builtinR c.typeIs slot_tuple_getitem.lookup
  (getItem_tuple c (by lia) (by lia) (by rw[size_toArray,<- r.length];show e) (by simpa using d) (rfl,fin)) l
def L8(B:LVa)(n j:Nat)(u:Value):g8 (·.setIfInBounds j u) {cls:=.type "list",data:=.seq B.toArray n}={cls:=.type "list",data:=.seq (B.set j u).toArray n}:=by
 simp[g8]
variable{U:PNS}{E:St}{H:Hp}{p:Addr}{C:LVv}
def Inv.lst{s:ah}(I:Inv X U E H s)(h:H p=aa (.lst C)):
  ∃(B:LVa) (n:Nat),aG C B/\s.heap.get? p=aa {cls:=.type "list",data:=.seq B.toArray n}/\C.length<=aS:=by
 have(z,B,n,r,e):=I.hok p _ h;show(B,n,r,e,z)
variable{ys:LVv}{B dr:LVa}{n':Nat}
def Inv.lstUpd{s:ah}{f:Obj->Obj}(I:Inv X U E H s)(h:H p=aa (.lst C))
 (d:s.heap.get? p=aa {cls:=.type "list",data:=.seq B.toArray n})(a:f {cls:=.type "list",data:=.seq B.toArray n}={cls:=.type "list",data:=.seq dr.toArray n'})(r:aG ys dr)(hz:ys.length<=aS)(t:Nat):
  Inv X U E (upd H p (.lst ys)) {s with heap:=s.heap.update p f,toks:=t}:=by
 have e:(s.heap.update p f).get? p=aa {cls:=.type "list",data:=.seq dr.toArray n'}:=by
  rw[oj f d (by rw[a] <;> rfl),a]
 show I.write (by rw[h];trivial) (.inl rfl) (λb u c q=>(oi _ _ (eG c)).trans q) (_,e) (hz,dr,n',r,e)
abbrev xD:V->V->V->Hp->(Hp->Prop)->Prop:=λo i v H Q=>∃p C k j,o=.ref p/\i=.int k/\H p=aa (.lst C)/\ixN C.length k=aa j/\Q (upd H p (.lst (C.set j v)))
def xE:D8 X xD:=by
 intro U s E H o i v A z u Q I y x rv h;have(p,C,k,j,rfl,rfl,m,w,q):=h;subst y;have(t,rfl):=x;have(B,n,r,d,hz):=I.lst m;have(a,h2,g,l):=Ey w;have c:=r.length;have hn:=qw
 have e:Inv X U E _ {s with heap:=s.heap.update p _}:=
  I.lstUpd m d (L8 B n j u) (r.set rv j) (by rw[il];show hz) s.toks
 by_cases f:0<=k
 .have b:k.toNat=j:=by
   rw[seqIndex_of f l]at a;show c9 a
  show W.ki_setAt d f (by lia) (by rw[size_toArray,<- c];show l) (by rw[b];show(_,e,q))
 .have b:(k+B.toArray.size).toNat=j:=by
   rw[seqIndex_neg (by lia) g]at a;rw[size_toArray,<- c];show c9 a
  show W.ki_setBack d (by lia) (by rw[size_toArray,<- c];show g) (by lia) (by rw[b];show(_,e,q))
def L9(lo hi:Option Int)(n:Nat):(mi lo hi ab n).1=((HT.sIx n 0 lo:Nat):Int)/\(mi lo hi ab n).2.1=((HT.sIx n n hi:Nat):Int)/\(mi lo hi ab n).2.2=1:=by
 show(?_,?_,rfl)
 .cases lo with
  |none=>simp[mi,HT.sIx]
  |some i=>
   simp only[mi,HT.sIx,Option.getD_none]
   grind
 .cases hi with
  |none=>simp[mi,HT.sIx]
  |some i=>
   simp only[mi,HT.sIx,Option.getD_none]
   grind
def Ma(B:LVa)(lo hi:Option Int):slicePick B.toArray lo hi ab=((B.drop (HT.sIx B.length 0 lo)).take (HT.sIx B.length B.length hi-HT.sIx B.length 0 lo)).toArray:=by
 have(a,h2,b):=L9 lo hi B.toArray.size;unfold slicePick;rw[a,h2,b]
 simp only[sliceRange_one,pick_run] <;> rfl
abbrev Mb(K:aQ):V->Option Int->Option Int->Hp->VK->Prop:=λx lo hi H Q=>∃a C,x=.ref a/\SqL K H a C/\∀p,H p=ab->Q (.ref p) (upd H p (.lst (qz C lo hi)))
def Mc:SlR X (Mb X.K):=by
 intro U s E H x v vl m lo hi sl Q I j e g i h;have(a,C,rfl,f,q):=h;subst j;have(B,r,d,hz):=I.list f;have c:=r.length;show("list",_,slot_list_getitem.lookup,d.isList.typeIs,?_);show wpAny_getItem_list_slice d.isList e g i .none (by simp) ?_ (by grind);rw[Ma,<- c];show(.ref s.heap.objs.size,_,I.laid (λb l q=>bx _ q) (aL _) ?_,rfl,q _ (I.hok.fresh (aL _)));show(cN (LX C lo hi) hz,_,0,(r.drop _).take _,cP _ rfl)
abbrev fO:V->Bool
 |.non=>ac
 |.bl _=>ac
 |.int _=>ac
 |.str _=>ac
 | _=>af
abbrev eqV:V->V->Bool
 |.non,.non=>ac
 |.bl a,.bl b=>a==b
 |.bl a,.int b=>(if a then 1 else 0)==b
 |.int a,.bl b=>a==(if b then 1 else 0)
 |.int a,.int b=>a==b
 |.str a,.str b=>a==b
 | _,_=>af
variable{A:b8}{y x:V}{u v:Value}
def EB{s:ah}(e:aB y u)(c:aB x v)(f:fO y=ac)(d:fO x=ac):cu A s u v (eqV y x):=by
 cases y with
 |non=>
  cases e
  cases x with
  |non=>subst c;show wY _
  |bl b=>subst c;show cu.none_bool b
  |int b=>have(t,rfl):=c;show cu.none_int b t
  |str b=>have(t,rfl):=c;show cu.none_str b t
  | _=>show absurd (d) bG
 |bl a=>
  subst e
  cases x with
  |non=>subst c;show cu.bool_none a
  |bl b=>subst c;show cu.bool_bool a b
  |int b=>have(t,rfl):=c;show cu.bool_int a b t
  |str b=>have(t,rfl):=c;show cu.bool_str a b t
  | _=>show absurd (d) bG
 |int a=>
  have(t',rfl):=e
  cases x with
  |non=>subst c;show cu.int_none a t'
  |bl b=>subst c;show cu.int_bool a t' b
  |int b=>have(t,rfl):=c;show cu.int_int a t' b t
  |str b=>have(t,rfl):=c;show wW a t' b t
  | _=>show absurd (d) bG
 |str a=>
  have(t',rfl):=e
  cases x with
  |non=>subst c;show cu.str_none a t'
  |bl b=>subst c;show cu.str_bool a t' b
  |int b=>have(t,rfl):=c;show wX a t' b t
  |str b=>have(t,rfl):=c;show cu.str_str a t' b t
  | _=>show absurd (d) bG
 | _=>show absurd (f) bG
abbrev eqU(x:V)(u:Value):Bool:=match u with
 |.none=>eqV .non x
 |.bool b=>eqV (.bl b) x
 |.int i _=>eqV (.int i) x
 |.str z _=>eqV (.str z) x
 | _=>af
def EC(r:aB y u)(f:fO y=ac):eqU x u=eqV y x:=by
 cases y with
 |non=>subst r;rfl
 |bl b=>subst r;rfl
 |int i=>have(t,rfl):=r;rfl
 |str z=>have(t,rfl):=r;rfl
 | _=>show absurd (f) bG
def xF{x:V}:∀{C:LVv} {us:LVa},aG C us->C.all fO=ac->us.any (eqU x)=C.any λy=>eqV y x
 | _,_,.nil,_=>rfl
 |y::C,u::us,.cons r t,f=>by
  rw[l8,cB]at f;rw[gx,gx,EC r f.1,xF t f.2]
def xG{A:b8}{s:ah}{x:V}{v:Value}(c:aB x v)(b:fO x=ac):∀{C:LVv} {us:LVa},aG C us->C.all fO=ac->∀u∈us,cu A s u v (eqU x u)
 | _,_,.nil,_=>λu a=>by nomatch a
 |y::C,u::us,.cons r t,f=>λd a=>by
  simp only[l8,cB]at f
  rcases aZ.mp a with rfl |a
  .rw[EC r f.1];show EB r c f.1 b
  .show xG c b t f.2 d a
abbrev inV(x:V)(C:LVv):Bool:=C.any λy=>eqV y x
abbrev rIn(K:aQ)(neg:Bool):R2:=λx y H Q=>∃p C,y=.ref p/\(SqL K H p C\/SqT K H p C)/\fO x=ac/\C.all fO=ac/\Q (.bl (if neg then !inV x C else inV x C)) H
def Md:OpR X (cW .NotIn) (rIn X.K ac):=by
 intro U s E H x y v u Q I e f h;have(p,C,rfl,a,d,fs,q):=h;subst f
 rcases a with a |a
 .have(B,r,c,hz):=I.list a;show SeqAt.notIn_listAt _ c.isList (λw b=>xG e d r fs w (by simpa using b)) (.bl _,H,I,rfl,?_);rw[show B.toArray.any _=B.any (eqU x) by simp,xF r fs];show q
 .have(B,r,c,hz):=I.tuple a;show SeqAt.notIn_tupleAt _ c (λw b=>xG e d r fs w (by simpa using b)) (.bl _,H,I,rfl,?_);rw[show B.toArray.any _=B.any (eqU x) by simp,xF r fs];show q
def Mf:iy X (.builtin "len") (λC H Q=>∃p ys,C=[.ref p]/\(SqL X.K H p ys\/SqT X.K H p ys)/\Q (.int ys.length) H):=by
 intro U s E H C us Q I r h;have(p,ys,rfl,b,q):=h;have(u,rfl,d):=mG r;subst d;have hn:=qw
 rcases b with b |b
 .have(B,r',c,hz):=I.list b;have a:=r'.length;show Calls.call_len_list c.isList (by grind) (.int ys.length,H,I.tok _,(s.toks+1,by rw[size_toArray,a]),q)
 .have(B,r',c,hz):=I.tuple b;have a:=r'.length;show len_tuple c (by grind) (.int ys.length,H,I.tok _,(s.toks+1,by rw[size_toArray,a]),q)
def Mg:iy X (.builtin "len") (λC H Q=>∃z,C=[.str z]/\z.length<=aS/\Q (.int z.length) H):=by
 intro U s E H C us Q I r h;have(z,rfl,hz,q):=h;have(u,rfl,t,rfl):=mG r;have hn:=qw;show len_str (by lia) (.int z.length,H,I.tok _,(_,rfl),q)
def Mh:iy X (.type "list") (λC H Q=>∃p ys,C=[.ref p]/\(SqL X.K H p ys\/SqT X.K H p ys)/\∀l,H l=ab->Q (.ref l) (upd H l (.lst ys))):=by
 intro U s E H C us Q I r h;have(p,ys,rfl,c,q):=h;have(u,rfl,i):=mG r;subst i
 have fin:∀B,aG ys B->ys.length<=aS->∀h' a,_ ->
   h'.get? s.heap.objs.size=aa {cls:=.type "list",dict:=ab,data:=.seq B.toArray a,slots:=#[]}->EP X U E Q _ {s with heap:=h'}:=λB r' hz h' a kp e=>
  (.ref s.heap.objs.size,_,I.laid kp (aL _) (show dR X.prog X.w _ h' _ (.lst ys)from(hz,B,a,r',e)),rfl,q _ (I.hok.fresh (aL _)))
 rcases c with c |c
 .have(B,r',g,hz):=I.list c;have b:=r'.length;have(o,f,d,n,hd):=g.isList;show call_list_seq p (.inl rfl) f d hd (λh' a kp e=>fin B r' hz h' a kp e) (by grind)
 .have(B,r',g,hz):=I.tuple c;have b:=r'.length;have(o,f,d,n,hd):=g;show call_list_seq p (.inr rfl) f d hd (λh' a kp e=>fin B r' hz h' a kp e) (by grind)
abbrev tyV(K:aQ)(T:String)(x:V)(H:Hp):Prop:=match x with
 |.str _=>T="str"
 |.int _=>T="int"
 |.ref p=>(T="list" /\ ∃C,SqL K H p C)\/(T="tuple" /\ ∃o,K.lookup p=aa o/\o.cls=.type "tuple" /\ o.dict=ab) \/
   (T="dict" /\ ((∃kvs,H p=aa (.dK kvs))\/∃kvs,H p=aa (.dT kvs)))\/(T="set" /\ ∃S n,H p=aa (.set S n))
 | _=>False
variable{T:String}
def Mi{s:ah}(I:Inv X U E H s)(r:aB x v)(ty:tyV X.K T x H):
  s.TypeIs v T/\∀a,v=.ref a->∃f,s.heap.get? a=aa f/\f.dict=ab:=by
 cases x with
 |str z=>
  have(t,rfl):=r;cases (ty)
  show⟨typeIs_str s z t,λ_ e=>nomatch e⟩
 |int i=>
  have(t,rfl):=r;cases (ty)
  show⟨typeIs_int s i t,λ_ e=>nomatch e⟩
 |ref p=>
  subst r
  rcases ty with⟨rfl,C,j⟩ |⟨rfl,o,b,h,hd⟩ |⟨rfl,b⟩ |⟨rfl,S,n,b⟩
  .have(B,_,g,_):=I.list j;show(g.isList.typeIs,λa e=>?_);cases e;have(o,n,e,c,hd,_):=g;show(o,e,hd)
  .show((o,I.kIn p o b,h),λa e=>?_);cases e;show(o,I.kIn _ o b,hd)
  .have z:∃o,s.heap.get? p=aa o/\o.ExactDict:=by
    rcases b with⟨kvs,b⟩ |⟨kvs,b⟩
    .have(_,_,_,_,o,_,_,e,ex,_):=I.hok p _ b;show(o,e,ex)
    .have(_,_,_,_,o,_,_,e,ex,_):=I.hok p _ b;show(o,e,ex)
   have(o,e,ex):=z;show((o,e,ex.1),λa d=>?_);cases d;show(o,e,ex.2.1)
  .have(o,_,_,_,e,ex,_):=I.hok p _ b;show((o,e,ex.1),λa d=>?_);cases d
   show(o,e,ex.2.1)
 | _=>show gU ty
abbrev tBM(K:aQ)(T:String)(r:V->LVv->Hp->VK->Prop)(to:TE)(t:TA):TE:=λE H Q=>to E H λx a=>tyV K T x a/\t E a λC b=>r x C b Q
variable{es:LEx}{name:Str}{apos cpos:Pos}{r:V->LVv->Hp->VK->Prop}
def jF{o:Expr}{to:TE}{t:TA}{id:String}(pa:PlainAttrs T)(slot:Slot T name id)(f:typeOf (.builtin id)=pure (.type "method_descriptor"))(hm:MtR X id r)(q:PE X o to)(ha:PA X (e::es) t)
 (b:oe o name X.env (eval o X.env)=eval o X.env:=by rfl)
 (d:((ce cpos (aN (e::es) X.env)).all (λx=>!x.1) && (iq cpos (ip [] X.env)).all (λx=>x.1.isSome)
   && decide ((e::es).length+([]:List Keyword).length+(if ([]:List Keyword).isEmpty then 0 else 1)<30))=ac:=by rfl)
 (c:(apos.endLine==cpos.line)=ac:=by rfl)(u:StE X e es:=by rfl)(a:(ce cpos (aN es X.env)).any (·.1)=af:=by rfl):
  PE X (.Call (.Attribute o name apos) (e::es) [] cpos) (tBM X.K T r to t):=by
 intro U s E H Q I h;show wpAny_Call_method_late b d c rfl (thn (q U s E H _ I h) λv s1 z=>?_);have(x,l,g,j,ty,w):=z;have(p,h2):=Mi g j ty;show(T,id,pa,slot,f,p,h2,?_);have i:=ha cpos U s1 E l _ g w;rw[u]at i ⊢
 show wM (by change(af || (ce cpos _).any (·.1))=af;rw[a] <;> rfl) (wN (thn i λus s2 (vs,m,n,A,y)=>hm U s2 E m x vs v us Q n j A y))
abbrev MtM(X:Cx)(id:String)(r:V->LVv->Hp->VK->Prop):Prop:=
 ∀(U:PNS) (s:ah) (E:St) (H:Hp) (x:V) (C:LVv) (v:Value) (us:LVa) (Q:VK),Inv X U E H s->aB x v->aG C us->r x C H Q ->
  wpAny (model X.prog X.w) X.A (call (.builtin id) (v::us)) (EP X U E Q) X.xe s
def aG.one:∀{x:V} {us:LVa},aG [x] us->∃u,us=[u]/\aB x u:=λh=>by
 cases h with
 |cons r h=>
  cases h;show(_,rfl,r)
def aG.two:∀{x y:V} {us:LVa},aG [x,y] us->∃u v,us=[u,v]/\aB x u/\aB y v:=λh=>by
 cases h with
 |cons r h=>
  cases h with
  |cons q h=>
   cases h;show(_,_,rfl,r,q)
def aG.eraseIdx:∀{C:LVv} {us:LVa} (i:Nat),aG C us->aG (C.eraseIdx i) (us.eraseIdx i)
 | _,_,_,.nil=>.nil
 | _,_,0,.cons _ t=>t
 | _,_,i+1,.cons r t=>.cons r (aG.eraseIdx i t)
variable{us:LVa}
def aG.reverse(h:aG C us):aG C.reverse us.reverse:=by
 induction h with
 |nil=>show .nil
 |cons r t a=>rw[iS,iS];show aG.append a (.cons r .nil)
def xH{a:Type}:∀(l:List a) (i:Nat),(l.eraseIdx i).length<=l.length
 | [],_=>aL _
 | _::_,0=>jX _
 | _::r,i+1=>Nat.succ_le_succ (xH r i)
variable{l:Addr}{t':Nat}
section
variable{s:ah}
def Inv.lset{f:Array Value->Array Value}(I:Inv X U E H s)(a:H l=aa (.lst C))
 (e:s.heap.get? l=aa {cls:=.type "list",data:=.seq B.toArray n})(c:f B.toArray=dr.toArray)(hv:aG ys dr)(hz:ys.length<=aS):
  Inv X U E (upd H l (.lst ys)) {s with heap:=s.heap.update l (g8 f),toks:=t'}:=by
 have q:=PySem.IsL.update e f;rw[c]at q;show I.write (by rw[a];show trivial) (.inl rfl) (λg u b d=>(oi s.heap _ (eG b)).trans d) (_,q) (hz,dr,_,hv,q)
end
section
variable{s:ah}
def Inv.lnew(I:Inv X U E H s)(hv:aG ys B)(hz:ys.length<=aS):
  Inv X U E (upd H s.heap.objs.size (.lst ys)) {s with heap:=s.heap.push {cls:=.type "list",data:=.seq B.toArray},toks:=t'}:=
 I.laid (λ_ _ q=>bx _ q) (aL _) (hz,B,0,hv,cP _ rfl)
end
def Inv.fresh{s:ah}(I:Inv X U E H s):H s.heap.objs.size=ab:=I.hok.fresh (aL _)
def Inv.lstM{s:ah}(I:Inv X U E H s)(a:H l=aa (.lst C)):C.length<=aS/\∃(B:LVa) (n:Nat),aG C B/\C.length=B.length/\s.heap.get? l=aa {cls:=.type "list",data:=.seq B.toArray n}:=by
 have(z,B,n,r,e):=I.hok l _ a;show(z,B,n,r,r.length,e)
def Mj(h:n<=aS):DK n=af:=by
 show decide_eq_false (by lia)
abbrev tS:V->LVv->Hp->VK->Prop:=λx vs H Q=>∃l C y,x=.ref l/\vs=[y]/\H l=aa (.lst C)/\C.length<aS/\Q .non (upd H l (.lst (C++[y])))
def xI:MtM X "list.append" tS:=by
 intro U s E H x vs v us Q I b rv h;have(l,C,y,rfl,rfl,a,hz,q):=h;subst b;have(u,rfl,ru):=rv.one;have(z,B,n,r,c,e):=I.lstM a;show call_meets F.slot_list_append (_,e,rfl) F.entry_list_append (F.args_list_append_2 _ _) (PySem.list_append l B.toArray n u (by rw[size_toArray];lia)) (e,?_);show(.non,_,I.lset a e (by simp) (r.append (.cons ru .nil)) ?_,rfl,q);rw[aR,fZ]
 lia
abbrev xJ:V->LVv->Hp->VK->Prop:=λx vs H Q=>∃l b C a,x=.ref l/\vs=[.ref b]/\H l=aa (.lst C)/\H b=aa (.lst a)/\C.length+a.length<=aS/\Q .non (upd H l (.lst (C++a)))
def xK:MtM X "list.extend" xJ:=by
 intro U s E H x vs v us Q I p rv h;have(l,b,C,A,rfl,rfl,f,hB,hz,q):=h;subst p;have(u,rfl,ru):=rv.one;subst ru;have(z,B,n,r,w,e):=I.lstM f;have(y,a,j,m,i,g):=I.lstM hB;have d:B.toArray.size+a.toArray.size<=aS:=by grind
 have c:¬(!B.toArray.isEmpty && DK (B.toArray.size+a.toArray.size))=ac:=by
  rw[Mj d,sM]
  grind
 show call_meets F.slot_list_extend (_,e,rfl) F.entry_list_extend (F.args_list_extend_2 _ _)
  (AutoSeq1.list_extend_list_list_0 l B.toArray n b a.toArray j c (by grind) (by lia)) (e,g,?_)
 show(.non,_,I.lset f e (by simp) (r.append m) ?_,rfl,q)
 grind
abbrev ED:V->LVv->Hp->VK->Prop:=λx vs H Q=>∃l C i k y,x=.ref l/\vs=[.int i]/\H l=aa (.lst C)/\-(2 ^ 63)<=i/\i<2 ^ 63/\seqIndex? i C.length=aa k/\C[k]?=aa y/\Q y (upd H l (.lst (C.eraseIdx k)))
def Ml:MtM X "list.pop" ED:=by
 intro U s E H x vs v us Q I m rv h;have(l,C,i,k,y,rfl,rfl,b,c,h2,d,j,q):=h;subst m;have(u,rfl,ru):=rv.one;have(t,rfl):=ru;have(z,B,n,r,f,e):=I.lstM b;have(w,g,a):=r.get j
 show call_meets F.slot_list_pop (_,e,rfl) F.entry_list_pop (F.args_list_pop_2 _ _)
  (MeetsSeq.list_pop_at l B.toArray n i t k w (fitsIndex_both c h2) (by rw[size_toArray,<- f];show d) (by rw[<- pY];show g) (by rw[size_toArray];lia)) (e,?_)
 show(y,_,I.lset b e ?_ (r.eraseIdx k) ?_,a,q)
 .change B.toArray.eraseIdxIfInBounds k=(B.eraseIdx k).toArray;rw[eraseIdxIfInBounds_toArray]
 .have:=xH C k
  lia
abbrev Mm:R2:=λx y H Q=>∃l b C a,x=.ref l/\y=.ref b/\H l=aa (.lst C)/\H b=aa (.lst a)/\C.length+a.length<=aS/\∀p,H p=ab->Q (.ref p) (upd H p (.lst (C++a)))
def EE:OpR X (fL .Add) Mm:=by
 intro U s E H x y v u Q I j m h;have(l,b,C,G,rfl,rfl,f,hB,hz,q):=h;subst j;subst m;have(z,B,n,r,p,e):=I.lstM f;have(A,a,w,i,g,c):=I.lstM hB;show PySem.P.add_list e c ?_ (by grind);have d:B.toArray++a.toArray=(B++a).toArray:=by simp
 rw[d];show(.ref _,_,I.lnew (r.append i) (by grind),rfl,q _ I.fresh)
end L2
namespace Att
open List
open PySem PySem.W PySem.Calls PyProof.Rows
variable{P:Params}{h:Heap}
def Mn:∀(ns:LI0) (vs:LVa),WellAll P h vs (ns.map WData.int)->f6 vs ns:=by
 intro ns
 induction ns with
 |nil=>
  intro vs w;cases w
  show .nil
 |cons n ns c=>
  intro vs w
  cases w with
  |cons a b=>
   cases a;show .cons _ _ (c _ b)
variable{l:OpenLaw}{n:Nat}{vals:LVa}
def Mo(hn:l.most=aa n){args:List WData}
 (b:l.row.toRowW.claim.pre args=ac)(g:WellAll P h vals args):
  ∃a vs ns,vals=[eM a]/\args=[WData.list (ns.map WData.int)]/\h.get? a=aa {cls:=.type "list",data:=.seq vs.toArray}/\f6 vs ns/\ns.length<=n:=by
 have(d,r,rfl,i,h2):=hasAllW_cons ((pre_splitW b).1);obtain rfl:=hasAllW_nil h2;have(C,rfl,j):=hasW_list i;have(ns,rfl):=items_int j
 have e:ns.length<=n:=by
  have f:(WTm.not (.lt (.lit (.int n)) (.len (.arg 0)))).holds [] {args:=[.list (ns.map .int)]}=ac:=by
   have f:=(holds_andW ((pre_splitW b).2)).1;rw[hn]at f;show f
  have u:=condW_of f (w_not (w_lt w_lit (w_len_list (w_arg rfl))))
  grind
 cases g with
 |cons p q=>
  cases q
  cases p with
  |list m c=>show(_,_,ns,rfl,rfl,m,Mn ns _ c,e)
def Mp(l:OpenLaw)(args:List WData):l.row.toRowW.claim.post args (.bool ac) args=ac:=
 postW_of
  (show WShape.has [] _ .bool=ac by first |rfl |decide |simp[WShape.has])
  (w_eq_bool (w_res rfl) w_lit) rfl
variable{q:cb}{dd:LSt}{XP:MGT->Heap->Prop}{YP:World->Heap->Prop}{d:DefRec}
def attach_call
 (hn:l.most=aa n)(p:d.params.defaults=[])
 (call:∀ (w:World) (s₀ b:ah) (mg mb:MGT) (fa:Addr) (o:Obj) (pm i doc:Value) (a:Addr) (vs:LVa) (ns:LI0),
   Ground q dd [] XP w s₀ mg mb b.heap->YP w b.heap ->
   b.heap.get? fa=aa o->o.data=.func (docDef d.name d.params d.body d.scope pm i doc)->b.heap.CodeRec i d.name->mg d.name=aa (.ref fa) ->
   b.heap.get? a=aa {cls:=.type "list",data:=.seq vs.toArray}->f6 vs ns->ns.length<=n->b.gens=#[] ->
   gA (model l.prog w) callerA (.call (.ref fa) ([.ref a],[])) (λr j=>r=.ok (.ret (.bool ac))/\OldK b.heap j.heap/\j.os=b.os/\jZ j.gens) b):
  WalkO q dd XP YP l.row.toRowW d [] (λf vs=>PySem.call f vs):=by
 intro w s₀ b mg mb G Y fa o pm i doc dV kV E hd m x u B args vals as h y I v C;obtain rfl:dV=.none:=Dflts.none x p;obtain rfl:kV=.none:=Dflts.noKw x;have(a,vs,ns,rfl,rfl,g,c,e):=Mo hn h v;show enter_call (kX (call w s₀ b mg mb fa o pm i doc a vs ns G Y E (fd_plain hd) m u g c e B) λr j H=>?_);have(rfl,h2,z,A):=H;show(.inl (.bool ac,.bool ac,[],rfl,λ_=>rfl,.bool ac,Mp l _,λ_=>(List.Pairwise.nil,λ_ hm=>(nomatch hm))),h2,z,A)
end Att
namespace L2
open List
open PySem PySem.Spec PyProof.Rows
def EF:∀{vs:LVa} {ns:LI0},f6 vs ns->aG (ns.map V.int) vs
 | _,_,.nil=>.nil
 | _,_,.cons n t h=>.cons (t,rfl) (EF h)
abbrev tT(H:Hp):Prop:=∀b,H b=ab\/∃o C,H b=aa (.frz o (.lst C))
variable{P:cb}{w:World}{K:aQ}{mg:MGT}{a:Addr}{fd:cO}{x:Str}{ns:LI0}
def Mq{mb:MGT}{CX:CXT}{k:Nat}{fa:Addr}{sp:Sp}{c:ah}{vs:LVa}
 (T:K.In c.heap)(B:c.heap.Ns cC mg)(p:c.heap.Ns builtinsNs mb)(J:∀x:Str,x ≠ "__name__" -> mb x=jC x)(A:c.heap.NoLimit)(hg:c.gens=#[])
 (ha:c.heap.get? a=aa {cls:=.type "list",data:=.seq vs.toArray})(hi:f6 vs ns)(hl:ns.length<=aS)(hr:bv k callerA)
 (F:∀base:Heap,K.In base->base.Ns cC mg->cv P w K mg base CX k fa fd [x] sp)(l:∀(s:ah) (u:Value),BindsTo s fd ([u],[]) [(x,u,)])
 (M:∀H:Hp,tT H->SqL K H a (ns.map V.int)->sp [.ref a] H (λv _=>v=.bl ac) λ_ _ _=>False)
 (I:∀H e g,CX [] H c (λ_ _ _=>False) e g->False):
  gA (model P w) callerA (.call (.ref fa) ([.ref a],[])) (λr g=>r=.ok (.ret (.bool ac))/\OldK c.heap g.heap/\g.os=c.os/\jZ g.gens) c:=by
 have rv:=EF hi
 have j:∀H:Hp,tT H->SqL K H a (ns.map V.int)->HOk P w H c.heap->(∀b,H b≠ab->b=a)->(H a≠ab->K.lookup a=ab) ->
   gA (model P w) callerA (.call (.ref fa) ([.ref a],[])) (λr g=>r=.ok (.ret (.bool ac))/\OldK c.heap g.heap/\g.os=c.os/\jZ g.gens) c:=by
  intro H U hS hok hA hK;have f:∀{b:Addr} {o:Obj},c.heap.get? b=aa o->H b=ab->(ow c.heap H).get? b=aa o:=λe n=>J9 e n
  have N:∀{b:Addr} {o:Obj} {es:Array DictEntry} {G:Nat},c.heap.get? b=aa o->o.data=.dict es G->H b=ab:=λ{b o es G} e d=>by
   grind
  have i:∀{b:Addr} {m:MGT},c.heap.Ns b m->(ow c.heap H).Ns b m:=λ{b m} (o,es,G,e,d,r)=>(o,es,G,f e (N e d),d,r)
  have y:=λb o e=>f (T b o e) (by
   cases q:H b with
   |none=>rfl
   |some u=>
    have e':=hA b (by grind);subst e';rw[hK (by grind)]at e;nomatch e)
  have hM:Mod K mg _:=(y,i B,(mb,i p,J),let (mc,h1,h2):=A;(mc,i h1,h2));have e0:mJ P w K mg _ callerA [] c H:=(rfl,hM,λb o e=>Ka e,Nat.le_of_eq (J8 _ _),trivial,λb p=>absurd (show b∈([]:LAd)from p) (by simp),hok,.of_eq hg);show kX ((F _ y (i B)).run callerA [] c H ([.ref a],[]) _ [.ref a] _ _ hr e0 (l c _) (.cons rfl .nil) (M H U hS)) λr g h=>?_
  cases r with
  |error e=>show(I H e g h).elim
  |ok Y=>
   cases Y with
   |next=>show gU h
   |brk=>show gU h
   |cont=>show gU h
   |ret u=>
    have(v,H',os,bare,un,E,r',q):=h;subst q;obtain rfl:u=k6 ac:=r';show(rfl,OldK.of_keep λb o e=>?_,os,bare)
    cases q:H b with
    |none=>show un.keep b o e q (by intro z;show absurd (show b∈([]:LAd)from z) (by simp)) (by simp)
    |some u=>
     rcases U b with z |⟨ob,C,z⟩
     .grind
     .have z2:=un.frzs b ob _ z;have(e1,_):=hok b _ z;have(e2,_):=E b _ z2
      grind
 cases L:K.lookup a with
 |some o=>
  have e:=T a o L;rw[ha]at e;cases e
  show j _ (λ_=>.inl rfl) (.inr (_,vs.toArray,_,L,rfl,rfl,rfl,by rw[size_toArray,hi.length];grind)) (λb u z=>by have Q:_=aa u:=z;nomatch Q) (λb z=>absurd rfl z) λz=>absurd rfl z
 |none=>
  show j (λb=>if b=a then aa _ else ab) (λb=>?_) (.inl (.inr ({cls:=.type "list",data:=.seq vs.toArray},if_pos rfl))) (λb u z=>?_) (λb z=>?_) λ_=>L
  .grind
  .by_cases p:b=a
   .have Q:=(if_pos p).symm.trans z;cases Q;subst p;show(ha,by rw[aA];show hl,vs,_,rv,ha)
   .grind
  .grind
variable{h:Heap}
nonrec def KOf(_:K.In h):aQ:=K
variable{l:W.OpenLaw}{q:cb}{dd:LSt}{XP:MGT->Heap->Prop}{YP:World->Heap->Prop}{d:DefRec}
def Mr{n k:Nat}{K:Params->aQ}{CX:World->CXT}{sp:World->Sp}
 (hn:l.most=aa n)(z:n<=aS)(r:d.params.defaults=[])(hr:bv k callerA)
 (L:∀(w:World) (h:Heap),YP w h->(K w.params).In h)
 (F:∀ (w:World) (mg:MGT) (fa:Addr) (h:Heap),(K w.params).In h->h.Ns cC mg->mg d.name=aa (.ref fa) ->
   ∃fd:cO,(∀(s:ah) (u:Value),BindsTo s fd ([u],[]) [(x,u,)]) /\
    ∀base:Heap,(K w.params).In base->base.Ns cC mg->cv l.prog w (K w.params) mg base (CX w) k fa fd [x] (sp w))
 (A:∀(w:World) (H:Hp) (a:Addr) (ns:LI0),ns.length<=n->tT H->SqL (K w.params) H a (ns.map V.int)->sp w [.ref a] H (λv _=>v=.bl ac) λ_ _ _=>False)
 (p:∀(w:World) (H:Hp) (s:ah) (e:Value) (B:ah),CX w [] H s (λ_ _ _=>False) e B->False):
  W.WalkO q dd XP YP l.row.toRowW d [] (λf vs=>PySem.call f vs):=by
 show Att.attach_call hn r λw s₀ m mg mb fa o pm U doc a vs ns G Y ho hd N y j i c Q=>?_;have C:=L w _ Y;have(fd,M,E):=F w mg fa _ C G.T.g y;show Mq C G.T.g G.T.b G.T.builtins G.T.nolimit Q j i (cN c z) hr E M (λH I J=>A w H a ns c I J) λH e B=>p w H m e B
variable{CX:CXT}
def walk_ofK{n k:Nat}{K:Params->aQ}{sp:aQ->Sp}
 (hn:l.most=aa n)(g:n<=aS)(c:d.params.defaults=[])(hr:bv k callerA)
 (r:∀(w:World) (h:Heap),YP w h->(K w.params).In h)
 (F:∀ (w:World) (mg:MGT) (fa:Addr) (h:Heap),(K w.params).In h->h.Ns cC mg->mg d.name=aa (.ref fa) ->
   ∃fd:cO,(∀(s:ah) (u:Value),BindsTo s fd ([u],[]) [(x,u,)]) /\
    ∀base:Heap,(K w.params).In base->base.Ns cC mg->cv l.prog w (K w.params) mg base CX k fa fd [x] (sp (K w.params)))
 (i:∀(K:aQ) (H:Hp) (a:Addr) (ns:LI0),ns.length<=n->tT H->SqL K H a (ns.map V.int)->sp K [.ref a] H (λv _=>v=.bl ac) λ_ _ _=>False)
 (b:∀(H:Hp) (s:ah) (e:Value) (j:ah),CX [] H s (λ_ _ _=>False) e j->False):
  W.WalkO q dd XP YP l.row.toRowW d [] (λf vs=>PySem.call f vs):=
 Mr hn g c hr r F (λw H a ns m h2 p=>i _ H a ns m h2 p) λ_ H s e j=>b H s e j
abbrev bj(s:Stmt)(j:Nat):Stmt:=match s with
 |.ClassDef _ _ _ body _ _ _ _ _ _ _=>body.getD j (.Pass (0,0,0,0))
 | _=>.Pass (0,0,0,0)
abbrev kc(s:Stmt):Arguments:=match s with
 |.FunctionDef _ a _ _ _ _ _ _ _ _=>a
 | _=>{posonlyargs:=[],args:=[],vararg:=ab,kwonlyargs:=[],kw_defaults:=[],kwarg:=ab,defaults:=[]}
abbrev fP(s:Stmt):List Stmt:=match s with
 |.FunctionDef _ _ b _ _ _ _ _ _ _=>b
 | _=>[]
abbrev au(s:Stmt):Scope:=match s with
 |.FunctionDef _ _ _ _ _ _ sc _ _ _=>sc
 | _=>{kind:=.function,names:=[],isGenerator:=af,isCoroutine:=af}
nonrec abbrev CX0:CXT:=λ_ _ _ _ _ _=>False
nonrec abbrev E0:XK:=λ_ _ _=>False
variable{X:Cx}
def gD:mK CX0 X E0:=λ_ _ _ _ _ _ _ h=>h.elim
structure Fun(K:aQ)(x qual:Str)(st:Stmt)(f:Addr)(fd:cO):Prop where
 ex:∃(oc:Value) (od:Option Addr) (kV doc pm:Value) (an:Option Addr) (cdv ct:Value) (osl:Array (Option Value)),
  fd=i0 x qual (kc st) (fP st) (au st) .none kV doc pm an cdv ct/\K.lookup f=aa (oc,od,.func fd,osl)/\W.codeIn K cdv qual=ac
 kp:gb K (.ref f)=ac
variable{base:Heap}{qual:Str}{st:Stmt}{f:Addr}{N ps:LSt}{sp:Sp}
def Fun.ok{k:Nat}(F:Fun K x qual st f fd)(S:aC N ps (au st))(len:∀vs H Q V4,sp vs H Q V4->vs.length=ps.length)
 (a:∀ (cdv:Value) (A:b8) (outer:List Env) (s:ah) (H:Hp) (vs:LVv) (Q:VK) (V4:XK),bv k (A.deeper (f7 qual (au st) s.heap.objs.size f cdv))->sp vs H Q V4 ->
   ∃t,PSs (iz CX0 P w K mg base N qual (au st) f cdv A outer s H V4).nox (fP st) t/\t {nx:=λ_ H'=>Q .non H',rt:=Q} (start N vs) H):cv P w K mg base CX0 (k+1) f fd ps sp:=by
 have(oc,od,kV,doc,pm,an,cdv,ct,osl,rfl,d,b):=F.ex;show Ew d b S len λA outer s H vs Q V4 hr c=>?_;have(t,h,q):=a cdv A outer s H vs Q V4 hr c;show(t,h.nox,q)
def Fun.binds(F:Fun K x qual st f fd)
 (h:∀(kV doc pm:Value) (an:Option Addr) (cdv ct:Value) (us:LVa),us.length=ps.length->bindArgs (i0 x qual (kc st) (fP st) (au st) .none kV doc pm an cdv ct) (us,[])=pure (ps.zip us)):dS K fd ps []:=by
 have(oc,od,kV,doc,pm,an,cdv,ct,osl,rfl,b,a):=F.ex;show .all (h kV doc pm an cdv ct)
variable{oc:Value}{an:Option Addr}{osl:Array (Option Value)}
def fun_mk{od:Option Addr}{kV doc pm cdv ct:Value}(l:K.lookup f=aa (oc,od,.func (i0 x qual (kc st) (fP st) (au st) .none kV doc pm an cdv ct),osl))
 (c:W.codeIn K cdv qual=ac)(k:gb K (.ref f)=ac):Fun K x qual st f (i0 x qual (kc st) (fP st) (au st) .none kV doc pm an cdv ct):=((oc,od,kV,doc,pm,an,cdv,ct,osl,rfl,l,c),k)
structure Df(K:aQ)(mg:MGT)(x:Str)(st:Stmt)(ps:LSt)(e:Addr×cO):Prop where
 F:Fun K x x st e.1 e.2
 b:dS K e.2 ps []
 g:mg x=aa (.ref e.1)
structure Dm(K:aQ)(V5:Addr)(x q:Str)(st:Stmt)(ps:LSt)(e:Addr×cO):Prop where
 F:Fun K x q st e.1 e.2
 b:dS K e.2 ps []
 m:qx K V5 x e.1
structure Pk(P:cb)(w:World)(K:aQ)(mg:MGT)(base:Heap)(CX:CXT)(k:Nat)(x:Str)(e:Addr×cO)(ps:LSt)(sp:Sp):Prop where
 ok:cv P w K mg base CX k e.1 e.2 ps sp
 g:mg x=aa (.ref e.1)
 kp:gb K (.ref e.1)=ac
 b:dS K e.2 ps []
structure Pm(P:cb)(w:World)(K:aQ)(mg:MGT)(base:Heap)(CX:CXT)(k:Nat)(V5:Addr)(x:Str)(e:Addr×cO)(ps:LSt)(sp:Sp):Prop where
 ok:cv P w K mg base CX k e.1 e.2 ps sp
 c:Cls K V5
 m:qx K V5 x e.1
 b:dS K e.2 ps []
variable{e:Addr×cO}
def Df.pk{k:Nat}(V4:Df K mg x st ps e)(o:cv P w K mg base CX k e.1 e.2 ps sp):Pk P w K mg base CX k x e ps sp:=(o,V4.g,V4.F.kp,V4.b)
variable{q:Str}{V5:Addr}
def Dm.pk{k:Nat}(V4:Dm K V5 x q st ps e)(c:Cls K V5)(o:cv P w K mg base CX k e.1 e.2 ps sp):Pm P w K mg base CX k V5 x e ps sp:=(o,c,V4.m,V4.b)
structure Dq(K:aQ)(x:Str)(st:Stmt)(f:Addr)(fd:cO):Prop where
 a:dY K cC x=aa (aa (.ref f))
 F:Fun K x x st f fd
structure Dp(K:aQ)(V5:Addr)(x q:Str)(st:Stmt)(f:Addr)(fd:cO):Prop where
 a:cq K (.ref V5) x=aa (aa (.ref f))
 i:W.isFn K (.ref f)=ac
 F:Fun K x q st f fd
nonrec abbrev tU(x q:Str)(st:Stmt)(ps:LSt):Prop:=∀(kV doc pm:Value) (an:Option Addr) (cdv ct:Value) (us:LVa),us.length=ps.length->bindArgs (i0 x q (kc st) (fP st) (au st) .none kV doc pm an cdv ct) (us,[])=pure (ps.zip us)
def Dq.mk2(d:Dq K x st f fd)(X:K.In h)(G:h.Ns cC mg)(b:tU x x st ps:=by walk_at "bd"):Df K mg x st ps (f,fd,):=(d.F,d.F.binds b,j9 X G d.a)
def Dp.mk2(d:Dp K V5 x q st f fd)(b:tU x q st ps:=by walk_at "bd"):Dm K V5 x q st ps (f,fd,):=(d.F,d.F.binds b,(d.a,d.i,d.F.kp))
def Dq.bt{p:Str}(d:Dq K x st f fd)(b:tU x x st [p])(s:ah)(v:Value):BindsTo s fd ([v],[]) [(p,v,)]:=by
 have(oc,od,kV,doc,pm,an,cdv,ct,osl,rfl,c,a):=d.F.ex;show .of_eq (b kV doc pm an cdv ct [v] rfl)
variable{n:Nat}
def EG(h:n<=1000):n<aS:=l9 h (by decide)
variable{pos:Pos}
def pv(i:Nat)(b:X.N[i]?=aa x:=by rfl)(hv:Vis X.env.scope x:=by first |exact bX rfl |exact bA (bX rfl) |exact bA (bA rfl))(hd:NDb x:=by decide)
 (a:NCd x:=by decide):PE X (.Name x pos) (cQ i):=mD b hv hd a
abbrev aq(H H':Hp):Prop:=∀b o,H b=aa o->H' b=aa o
def aq.refl(H:Hp):aq H H:=λ_ _ h=>h
variable{H H1 H2:Hp}
def aq.trans(a:aq H H1)(b:aq H1 H2):aq H H2:=λc o h=>b c o (a c o h)
variable{H':Hp}{l:Addr}
def aq.free(e:aq H H')(h:H' l=Option.none):H l=Option.none:=by
 cases q:H l with
 |none=>rfl
 |some o=>
  rw[e l o q]at h
  nomatch h
def aq.seq{C:LVv}(e:aq H H')(h:SqL K H a C):SqL K H' a C:=by
 rcases h with(h |⟨o,h⟩) |h
 .show .inl (.inl (e _ _ h))
 .show .inl (.inr (o,e _ _ h))
 .show .inr h
section
variable{κ:Type}[DecidableEq κ]
abbrev cK(kvs:List (κ×V))(k:κ):Option V:=(kvs.find? λa=>decide (a.1=k)).map (·.2)
abbrev dL(kvs:List (κ×V))(k:κ)(v:V):List (κ×V):=
 if (kvs.any λa=>decide (a.1=k))=ac then kvs.map (λa=>if a.1=k then (a.1,v,) else a) else kvs++[(k,v,)]
def qA{p:κ×V}{r:List (κ×V)}{k:κ}(e:p.1=k):cK (p::r) k=aa p.2:=by simp[cK,find?_cons,e]
def oA{p:κ×V}{r:List (κ×V)}{k:κ}(e:¬p.1=k):cK (p::r) k=cK r k:=by simp[cK,find?_cons,e]
def tV(k:κ):∀kvs:List (κ×V),(kvs.any λa=>decide (a.1=k))=(cK kvs k).isSome
 | []=>rfl
 |p::r=>by
  rw[gx]
  by_cases e:p.1=k
  .simp only[qA e,decide_eq_true e,Bool.true_or,Option.isSome_some]
  .rw[oA e,decide_eq_false e,Bool.false_or];show tV k r
def xL(kvs:List (κ×V))(k:κ)(v:V):(dL kvs k v).length<=kvs.length+1:=by
 unfold dL;split
 .rw[aA];lia
 .simp only[aR,cr,length_nil];lia
def eN.isSome_eq{o:Option V}{u:Option Value}(r:eN o u):o.isSome=u.isSome:=by
 cases o with
 |none=>cases u with
  |none=>rfl
  |some _=>show(r).elim
 |some _=>cases u with
  |none=>show(r).elim
  |some _=>rfl
def eN.getD{o:Option V}{u:Option Value}{d:V}{d':Value}(r:eN o u)(rd:aB d d'):aB (o.getD d) (u.getD d'):=by
 cases o with
 |none=>cases u with
  |none=>show rd
  |some _=>show(r).elim
 |some _=>cases u with
  |none=>show(r).elim
  |some _=>show r
def KV.val{kvs:List (κ×V)}{vs:List (κ×Value)}(r:KV kvs vs)(k:κ):eN (cK kvs k) (valueAt vs k):=by
 induction r with
 |nil=>show ix
 | @cons p q ps a h t d=>
  have(c,h2):=h
  by_cases e:p.1=k
  .have e':=c.symm.trans e;have b:valueAt (q::a) k=aa q.2:=by simp[valueAt,e']
   rw[qA e,b];show h2
  .have e':¬q.1=k:=λz=>e (c.trans z);have b:valueAt (q::a) k=valueAt a k:=by simp[valueAt,e']
   rw[oA e,b];show d
def KV.any{kvs:List (κ×V)}{vs:List (κ×Value)}(r:KV kvs vs)(k:κ):(kvs.any λa=>decide (a.1=k))=vs.any λa=>decide (a.1=k):=by
 induction r with
 |nil=>rfl
 |cons h t b=>simp only[gx,gx,b,h.1]
def KV.repl{kvs:List (κ×V)}{vs:List (κ×Value)}(r:KV kvs vs)(k:κ){y:V}{u:Value}(d:aB y u):
  KV (kvs.map λa=>if a.1=k then (a.1,y,) else a) (vs.map λa=>if a.1=k then (a.1,u,) else a):=by
 induction r with
 |nil=>show .nil
 | @cons p q ps f h t c=>
  rw[bF,bF];show .cons ?_ c;have(b,h2):=h
  by_cases e:p.1=k
  .rw[if_pos e,if_pos (b.symm.trans e)];show(b,d)
  .rw[if_neg e,if_neg (λz=>e (b.trans z))];show(b,h2)
def KV.put{kvs:List (κ×V)}{vs:List (κ×Value)}(r:KV kvs vs)(k:κ){y:V}{u:Value}(a:aB y u):KV (dL kvs k y) (stored vs k u):=by
 unfold dL stored;rw[r.any k]
 by_cases e:(vs.any λb=>decide (b.1=k))=ac
 .rw[if_pos e,if_pos e];show r.repl k a
 .rw[if_neg e,if_neg e];show g7.snoc r (rfl,a)
def KV.length{kvs:List (κ×V)}{vs:List (κ×Value)}(r:KV kvs vs):kvs.length=vs.length:=oq r
end
variable{u:Value}
def tW{k:Key}(r:aB (kV k) u):(lg P w).is k u=ac:=by
 cases k with
 |inl i=>have(t,e):=(r);subst e;show JY P w i t
 |inr x=>have(t,e):=(r);subst e;show JZ P w x t
nonrec abbrev KT(H:Hp):List (List Key×V)->List (List Key×Addr×Value)->Prop:=g7 λp q=>p.1=q.1/\fm H q.2.1 p.1/\aB p.2 q.2.2
variable{kvs:List (List Key×V)}{C:List (List Key×Addr×Value)}
def KT.val(r:KT H kvs C)(k:List Key):eN (cK kvs k) ((atKey C k).map (·.2)):=by
 induction r with
 |nil=>show ix
 | @cons p q ps a h t d=>
  have(c,_,h2):=h
  by_cases e:p.1=k
  .have e':=c.symm.trans e;have b:atKey (q::a) k=aa q.2:=by simp[atKey,e']
   rw[qA e,b];show h2
  .have e':¬q.1=k:=λz=>e (c.trans z);have b:atKey (q::a) k=atKey a k:=by simp[atKey,e']
   rw[oA e,b];show d
variable{y:V}
def KT.repl(r:KT H kvs C)(k:List Key)(f:aB y u):
  KT H (kvs.map λb=>if b.1=k then (b.1,y,) else b) (C.map (putAt k u)):=by
 induction r with
 |nil=>show .nil
 | @cons p q ps g h t d=>
  rw[bF,bF];show .cons ?_ d;have(a,h2,c):=h;unfold putAt
  by_cases e:p.1=k
  .rw[if_pos e,if_pos (a.symm.trans e)];show(a,h2,f)
  .rw[if_neg e,if_neg (λz=>e (a.trans z))];show(a,h2,c)
variable{b:Addr}
def KT.put(r:KT H kvs C)(k:List Key)(c:fm H b k)(a:aB y u):
  KT H (dL kvs k y) (storedH C k b u):=by
 have e:(kvs.any λd=>decide (d.1=k))=(atKey C k).isSome:=by
  rw[tV,(r.val k).isSome_eq,Option.isSome_map]
 unfold dL storedH;rw[e]
 by_cases q:(atKey C k).isSome=ac
 .rw[if_pos q,if_pos q];show r.repl k a
 .rw[if_neg q,if_neg q];show g7.snoc r (rfl,c,a)
def KT.keeps(r:KT H kvs C)(c:∀b a,H b=aa (.tup a)->H' b=aa (.tup a)):KT H' kvs C:=
 g7.mapP r λ_ _ z=>(z.1,z.2.1.up c,z.2.2)
def EH{u:HO}(ok:HOk P w H h)(e:Rd H a u):dR P w H h a u:=e.ok ok
def oB{kvs:List (Key×V)}(ok:HOk P w H h)(e:Rd H a (.dK kvs)):kvs.length<=aS/\(a==gZ)=af/\∃vs,KV kvs vs/\h.DictOf (lg P w) a vs:=
 show dR P w H h a (.dK kvs)from EH ok e
def EI{kvs:List (Key×V)}(ok:HOk P w H h)(e:H a=aa (.dK kvs)):kvs.length<=aS/\(a==gZ)=af/\∃vs,KV kvs vs/\h.DictOf (lg P w) a vs:=oB ok (.inl e)
variable{ks:List Key}
def oC(ok:HOk P w H h)(e:fm H a ks):(tupleKind (mC P w)).is h ks a:=by
 have(vs,e,d):=e;have(_,B,r,o,b,h2,n,c):=(show dR P w H h a (.tup vs)from ok a _ e);show(o,B.toArray,n,b,h2,c,by simpa using DV d r)
def oF(ok:HOk P w H h)(e:Rd H a (.dT kvs)):kvs.length<=aS/\(a==gZ)=af /\
  ∃C,KT H kvs C/\h.DictOfH (tupleKind (mC P w)) a C:=by
 have(z,y,C,r,o,es,d,f,h2,g,i,j):=(EH ok e);show(z,y,C,r,o,es,d,f,h2,g,i,λx b=>?_,j)
 have all:∀{l:List _} {m:List _},KT H l m->∀x∈m,(tupleKind (mC P w)).is h x.1 x.2.1:=by
  intro l m q
  induction q with
  |nil=>intro x b;show nomatch b
  | @cons p q ps u c t n=>
   intro x b
   rcases aZ.mp b with e |b
   .subst e;show oC ok (by rw[<- c.1];show c.2.1)
   .show n x b
 show all r x b
def EJ(ok:HOk P w H h)(e:H a=aa (.dT kvs)):kvs.length<=aS/\(a==gZ)=af /\
  ∃C,KT H kvs C/\h.DictOfH (tupleKind (mC P w)) a C:=oF ok (.inl e)
abbrev fQ(H:Hp)(a:Addr)(y:V)(r:Option V):Prop:=
 (∃kvs k,Rd H a (.dK kvs)/\y=kV k/\r=cK kvs k)\/∃kvs k b,Rd H a (.dT kvs)/\y=.ref b/\fm H b k/\r=cK kvs k
abbrev li(H:Hp)(a:Addr)(y v:V)(H':Hp):Prop:=
 (∃kvs k,H a=aa (.dK kvs)/\y=kV k/\kvs.length<aS/\H'=upd H a (.dK (dL kvs k v))) \/
 ∃kvs k b,H a=aa (.dT kvs)/\y=.ref b/\fm H b k/\kvs.length<aS/\H'=upd H a (.dT (dL kvs k v))
def fQ.k{kvs:List (Key×V)}{k:Key}(e:H a=aa (.dK kvs)):fQ H a (kV k) (cK kvs k):=.inl (kvs,k,.inl e,rfl,rfl)
def fQ.t{k:List Key}(e:H a=aa (.dT kvs))(c:fm H b k):fQ H a (.ref b) (cK kvs k):=.inr (kvs,k,b,.inl e,rfl,c,rfl)
variable{v:V}
def li.k{kvs:List (Key×V)}{k:Key}(e:H a=aa (.dK kvs))(b:kvs.length<aS):li H a (kV k) v (upd H a (.dK (dL kvs k v))):=.inl (kvs,k,e,rfl,b,rfl)
def li.t{k:List Key}(e:H a=aa (.dT kvs))(c:fm H b k)(d:kvs.length<aS):
  li H a (.ref b) v (upd H a (.dT (dL kvs k v))):=.inr (kvs,k,b,e,rfl,c,d,rfl)
variable{U:PNS}{E:St}
def Inv.big{s:ah}(I:Inv X U E H s):gZ<s.heap.objs.size:=by
 show ma (by decide) ((I.mod.glob.keeps I.bk).lt)
variable{A:b8}{V4 Q:PRS}
def Ms{s:ah}(G:A.units+1<cLine)(I:Inv X U E H s)(g:fQ H a y (aa v))(q:aB y u)(h:∀f r,Inv X U E H r->aB v f->Q f r):
  wpAny (model X.prog X.w) A (getItem (.ref a) u) Q V4 s:=by
 rcases g with⟨kvs,k,e,j,l⟩ |⟨kvs,k,b,e,j,x,l⟩
 .subst j;have(z,hd,vs,c,i):=oB I.hok e;have(f,n,d):=eN.some_of (by rw[l];show c.val k);show wpAny_getItem_of (tW q) i.mapOf n (h f _ (I.tok _) d)
 .subst j;cases (q);have(z,hd,C,c,i):=oF I.hok e;have(f,n,d):=eN.some_of (by rw[l];show c.val k);have(p,B,m):=Option.map_eq_some_iff.mp n;show wpAny_getItem_heap (qk G) (oC I.hok x) i B ?_;rw[m];show h f _ (I.tok _) d
def Mt{s:ah}{o:Option V}(n:A.units+1<cLine)(I:Inv X U E H s)(g:fQ H a y o)(i:aB y u)(h:∀j,Inv X U E H j->Q (.bool o.isSome) j):
  wpAny (model X.prog X.w) A (cW .In u (.ref a)) Q V4 s:=by
 rcases g with⟨kvs,k,e,f,l⟩ |⟨kvs,k,b,e,f,m,l⟩
 .subst f;have(z,hd,vs,c,d):=oB I.hok e;show wpAny_in_of (tW i) hd d.mapOf ?_;rw[<- (c.val k).isSome_eq,<- l];show h _ (I.tok _)
 .subst f;cases (i);have(z,hd,C,c,d):=oF I.hok e;show wpAny_in_heap (qk n) (oC I.hok m) hd d ?_;have q:=(c.val k).isSome_eq;rw[Option.isSome_map]at q;rw[<- q,<- l];show h _ (I.tok _)
variable{h':Heap}{t':Nat}
section
variable{s:ah}
def xM{c:HO}(I:Inv X U E H s)(g:Mut (H a))(f:ga a s.heap h')(e:∃q,h'.get? a=aa q)(new:dR X.prog X.w (upd H a c) h' a c):
  Inv X U E (upd H a c) {s with heap:=h',toks:=t'}:=
 I.write g (.inl rfl) (λb q d z=>(f.2 b d).trans z) e new
end
def Mu{kvs:List (Key×V)}{vs:List (Key×Value)}(z:kvs.length<=aS)(hd:(a==gZ)=af)(b:KV kvs vs)(c:h'.DictOf (lg P w) a vs):
  dR P w H' h' a (.dK kvs):=(z,hd,vs,b,c)
variable{r:Value}
def Mv{s:ah}{Q:Unit->ah->Prop}(hu:A.units+1<cLine)(I:Inv X U E H s)(g:li H a y v H')(J:aB y u)(rv:aB v r)(h:∀L,Inv X U E H' L->Q () L):
  wpAny (model X.prog X.w) A (setItem (.ref a) u r) Q V4 s:=by
 rcases g with⟨kvs,k,e,n,l,m⟩ |⟨kvs,k,b,e,n,B,l,m⟩
 .subst n m;have(z,hd,vs,d,j):=EI I.hok e;have hz:vs.length<=aS:=by rw[<- d.length];show z
  have p:(dL kvs k v).length<=aS:=by have:=xL kvs k v;lia
  show wpAny_setItem_pairs (tW J) j λh' f x=>h _ ?_;have he:∃q,h'.get? a=aa q:=let (q,_,_,i,_):=f;(q,i);show xM I (by rw[e];show ix) x he (Mu p hd (d.put k rv) f)
 .subst n m;cases (J);have(z,hd,C,d,j):=EJ I.hok e;have hz:C.length<=aS:=by rw[<- oq d];show z
  have p:(dL kvs k v).length<=aS:=by have:=xL kvs k v;lia
  show wpAny_setItem_heap (qk hu) (oC I.hok B) j λh' f x=>h _ ?_;have(q,es,M,i,h2,N,T,_,Y):=f;show xM I (by rw[e];show ix) x (q,i) (p,hd,_,(d.put k B rv).keeps λc ys G=>?_,q,es,M,i,h2,N,T,Y);rw[aK (DY G e (λz=>nomatch z))];show G
abbrev qB(i:Expr):Prop:=∀b a,subscripted i af b a=operate [b,a] (getItem b a)
variable{prog:cb}{env:Env}{value:Expr}
def Mw{s:ah}{a:Expr}{T id:String}
 (l:mj (.type T) "__getitem__"=pure (aa (.builtin id)))(m:qB a)
 (h:wpAny (model prog w) A (eval value env) (λo d=>wpAny (model prog w) A (eval a env) (λi b=>b.TypeIs o T/\wpAny (model prog w) A (getItem o i) Q V4 b) V4 d) V4 s):
  wpAny (model prog w) A (eval (.Subscript value a pos) env) Q V4 s:=by
 show Subscript_ (fK h (λo d f=>fK f (λi b c=>?_) λ_ _ x=>x) λ_ _ x=>x);have(j,c):=c;show aj ?_;show aj (tf j l ?_)
 have fin:wpAny (model prog w) A (subscripted a af o i) (λr e=>wpAny (model prog w) A (letTemporaryGo value o r >>= λ_=>pure r) Q V4 e) V4 b:=by
  rw[m o i];show wpAny_operating (fK c (λr e g=>aj (wpAny_letTemporaryGo (aD g))) λ_ _ x=>x)
 first
  |show aD (aj fin)
  |show aj _
  |show aj fin
def Mx{s:ah}{o:Option V}(I:Inv X U E H s)(g:fQ H a y o):s.TypeIs (.ref a) "dict":=by
 rcases g with⟨kvs,k,e,_,_⟩ |⟨kvs,k,b,e,_,_,_⟩
 .have(_,_,vs,_,c):=oB I.hok e;show c.typeIs
 .have(_,_,C,_,c):=oF I.hok e;show c.typeIs
abbrev My(b ty:TE):TE:=λE H Q=>b E H λx H1=>ty E H1 λy H2=>∃a v,x=.ref a/\fQ H2 a y (aa v)/\Q v H2
abbrev Mz(ty b:TE):TE:=λE H Q=>ty E H λy H1=>b E H1 λx H2=>∃a o,x=.ref a/\fQ H2 a y o/\Q (.bl o.isSome) H2
abbrev xN(d ty e:TE):TS:=λD E H=>e E H λv H1=>d E H1 λx H2=>ty E H2 λy c=>∃a b,x=.ref a/\li c a y v b/\D.nx E b
variable{i:Expr}{td:TE}
def xO{o:Expr}{ty:TE}(l:X.A.units+1<cLine)(f:PE X o td)(hi:PE X i ty)(j:qB i):PE X (.Subscript o i pos) (My td ty):=by
 intro U s E H Q I h;show Mw PySem.F.slot_dict_getitem.lookup j (thn (f U s E H _ I h) λu s1 (x,H1,d,q,m)=>thn (hi U s1 E H1 _ d m) λw s2 p=>?_);have(y,H2,c,r,a,v,ex,g,n):=p;subst ex;obtain rfl:u=eM a:=q;show(Mx c g,Ms l c g r λB z e b=>(v,H2,e,b,n))
def MA{o:Expr}{ty:TE}(f:X.A.units+1<cLine)(hi:PE X i ty)(e:PE X o td):PC X .In i o (Mz ty td):=by
 intro U s E H Q I h;show thn (hi U s E H _ I h) λr s1 (y,H1,b,q,l)=>thn (e U s1 E H1 _ b l) λu s2 n=>?_;have(x,H2,c,p,a,j,ex,g,m):=n;subst ex;obtain rfl:u=eM a:=p;show Mt f c g q λv d=>(.bl j.isSome,H2,d,rfl,m)
variable{b4:Pos}{tv:TE}
def EK{o:Expr}{ty:TE}(m:X.A.units+1<cLine)(j:PE X o td)(hi:PE X i ty)(hv:PE X value tv)(l:f8 value (aa (.Subscript o i b4)) pos.line X.env=pure af):
  PS X (.Assign [.Subscript o i b4] value pos) (xN td ty tv):=by
 intro U s E H D I h;show wpAny_Assign_Subscript (thn (hv U s E H _ I h) λr s1 (v,H1,c,rv,n)=>thn (j U s1 E H1 _ c n) λu s2 (x,H2,d,z,p)=>thn (hi U s2 E H2 _ d p) λG J w=>?_) l;have(y,C,e,B,a,b,ex,g,q):=w;subst ex;obtain rfl:u=eM a:=z;show Mv m e g B rv λL f=>(E,b,f,q)
def MB(h:Heap)(a:gZ<h.objs.size):dR P w H (h.push {cls:=.type "dict",data:=.dict #[]}) h.objs.size (.dK []):=
 (cj _,beq_eq_false_iff_ne.mpr (eG (bW a)),[],.nil,Heap.DictOf.new h)
def MC(h:Heap)(a:gZ<h.objs.size):dR P w H (h.push {cls:=.type "dict",data:=.dict #[]}) h.objs.size (.dT []):=
 (cj _,beq_eq_false_iff_ne.mpr (eG (bW a)),[],.nil,_,#[],0,cP _ rfl,(rfl,rfl,rfl),rfl,rfl,fJ)
abbrev EL:TE:=λ_ H Q=>∀p,H p=ab->Q (.ref p) (upd H p (.dK []))
abbrev MD:TE:=λ_ H Q=>∀p,H p=ab->Q (.ref p) (upd H p (.dT []))
def ME:PE X (.Dict [] [] pos) EL:=λU s E H Q I h=>
 wpAny_Dict_empty (.ref s.heap.objs.size,_,I.laid (λ_ _ q=>bx _ q) (aL _) (MB s.heap I.big),rfl,h _ (I.hok.fresh (aL _)))
def MF:PE X (.Dict [] [] pos) MD:=λU s E H Q I h=>
 wpAny_Dict_empty (.ref s.heap.objs.size,_,I.laid (λ_ _ q=>bx _ q) (aL _) (MC s.heap I.big),rfl,h _ (I.hok.fresh (aL _)))
structure M2(X:Cx)(o:Expr)(m:Str)(apos:Pos)(e f:Expr)(cpos:Pos):Prop where
 base:oe o m X.env (eval o X.env)=eval o X.env
 few : ((ce cpos (aN [e,f] X.env)).all (λx=>!x.1) && (iq cpos (ip [] X.env)).all (λx=>x.1.isSome)
  && decide (([e,f]:LEx).length+([]:List Keyword).length+(if ([]:List Keyword).isEmpty then 0 else 1)<30))=ac
 line:(apos.endLine==cpos.line)=ac
 trees:ce cpos (aN [e,f] X.env)=[(af,eval e X.env,),(af,eval f X.env,)]
abbrev IsD(H:Hp)(a:Addr):Prop:=(∃kvs,Rd H a (.dK kvs))\/∃kvs,Rd H a (.dT kvs)
def EM{s:ah}(I:Inv X U E H s)(d:IsD H a):
  s.TypeIs (.ref a) "dict" /\ (∀b,eM a=.ref b->∃c,s.heap.get? b=aa c/\c.dict=ab)/\(a==gZ)=af:=by
 rcases d with⟨kvs,e⟩ |⟨kvs,e⟩
 .have(_,hd,vs,_,f):=oB I.hok e;show(f.typeIs,λb q=>?_,hd);cases q;have(c,_,_,g,h2,_):=f;show(c,g,h2.2.1)
 .have(_,hd,C,_,f):=oF I.hok e;show(f.typeIs,λb q=>?_,hd);cases q;have(c,_,_,g,h2,_):=f;show(c,g,h2.2.1)
variable{d:V}
def MG{s:ah}{o:Option V}(q:A.units+1<cLine)(I:Inv X U E H s)(g:fQ H a y o)(j:aB y u)(rd:aB d r)(h:∀n m,Inv X U E H m->aB (o.getD d) n->Q n m):
  wpAny (model X.prog X.w) A (call (.builtin "dict.get") [.ref a,u,r]) Q V4 s:=by
 rcases g with⟨kvs,k,e,i,l⟩ |⟨kvs,k,b,e,i,p,l⟩
 .subst i;have(z,hd,vs,c,f):=oB I.hok e;show call_meetsIn wV f.typeIs PySem.F.entry_dict_get (PySem.F.args_dict_get_3 _ _ _) (meets_dict_get_default _ a (tW j) hd r) (_,f.mapOf,h _ _ (I.tok _) ?_);rw[l];show(c.val k).getD rd
 .subst i;cases (j);have(z,hd,C,c,f):=oF I.hok e;show call_meetsIn wV f.typeIs PySem.F.entry_dict_get (PySem.F.args_dict_get_3 _ _ _) (meetsH_dict_get_default _ a b hd r) (qk q,k,C,oC I.hok p,f,h _ _ (I.tok _) ?_);rw[l];show(c.val k).getD rd
abbrev MH(td ty c:TE):TE:=λE H Q=>td E H λx H1=>∃a,x=.ref a/\IsD H1 a/\ty E H1 λy H2=>c E H2 λz b=>∃o,fQ b a y o/\Q (o.getD z) b
variable{e f:Expr}{apos cpos:Pos}{tx:TE}
def xP{o:Expr}{ty:TE}(v:X.A.units+1<cLine)(r:PE X o td)(p:PE X e ty)(q:PE X f tx)(m:M2 X o "get" apos e f cpos):PE X (.Call (.Attribute o "get" apos) [e,f] [] cpos) (MH td ty tx):=by
 intro U s E H Q I h;show wpAny_Call_method m.base m.few m.line PySem.F.plainAttrs_dict wV PySem.F.type_dict_get (thn (r U s E H _ I h) λu s1 G=>?_);have(x,H1,c,J,a,ex,d,w):=G;subst ex;obtain rfl:u=eM a:=J;have(t1,N,_):=EM c d;show(t1,N,?_);rw[m.trees]
 show wM rfl (wN (iX (thn (p U s1 E H1 _ c w) λY s2 (y,H2,j,L,B) =>
  iX (thn (q U s2 E H2 _ j B) λT s3 (z,i,l,M,ov,g,C)=>wO ?_))))
 show MG v l g L M λw' s4 n b=>(_,i,n,b,C)
section
variable{κ:Type}[DecidableEq κ]
end
end L2
set_option maxHeartbeats 4000000
namespace L2
open List
open PySem
def xQ{env:Env}(f:(Str×f9)->List (Str×Addr)->Sem (ForInStep (List (Str×Addr))))
 (i:∀n k r,k≠fN->f (n,k,) r=pure (.yield r))
 (h2:∀n r c,env.cells.lookup n=aa c->f (n,.free,) r=pure (.yield ((n,c,)::r))):
  ∀(l:List (Str×f9)) (a:List (Str×Addr)),(∀x∈l,x.2=.free->∃c,env.cells.lookup x.1=aa c) ->
   (∀x c,a.lookup x=aa c->env.cells.lookup x=aa c) ->
   ∃cl,forIn l a f=(pure cl:Sem _)/\(∀x c,cl.lookup x=aa c->env.cells.lookup x=aa c) /\
    (∀x,((∃c,a.lookup x=aa c)\/(x,fN,)∈l)->∃c,cl.lookup x=aa c)
 | [],a,_,ha=>(a,rfl,ha,λx d=>d.elim id (λz=>nomatch z))
 |(n,k,)::l,a,hl,ha=>by
  have b:=λx d=>hl x (bh _ d)
  by_cases u:k=.free
  .subst u;have(c,p):=hl _ az rfl;have q:=p
   have h:∀x g,((n,c,)::a).lookup x=aa g->env.cells.lookup x=aa g:=λx g d=>by
    grind
   have(cl,e,j,m):=xQ f i h2 l _ b h
   grind
  .have(cl,e,j,m):=xQ f i h2 l a b ha
   grind
variable{scope:Scope}{env:Env}
def EN(h:∀x∈scope.names,x.2=.free->∃c,env.cells.lookup x.1=aa c):
  ∃cl,closureFor scope env=pure cl/\(∀x c,cl.lookup x=aa c->env.cells.lookup x=aa c)/\(∀x,(x,fN,)∈scope.names->∃c,cl.lookup x=aa c):=by
 have (cl,e,b,d):=xQ (λx r=>(match x with
   |(name,kind)=>if (kind==fN)=ac then (do let a <- cellOf env name;pure (nO ((name,a,)::r))) else (pure (nO r):Sem _)))
  (λn k r g=>by
   have:(k==fN)=af:=by simpa using g
   simp only[this,Bool.false_eq_true,if_false])
  (λn r c f=>by
   simp only[beq_self_eq_true,if_true,cellOf,f,pure_bind])
  scope.names [] h (λx c z=>by nomatch z)
 show(cl,?_,b,λx i=>d x (.inr i));show(congrArg _ ?_).trans ((congrArg (λt=>t >>= pure) e).trans (pure_bind _ _));rfl
nonrec abbrev E00:Value->ah->Prop:=λ_ _=>False
variable{prog:cb}{w:World}{A:b8}{R:Result->ah->Prop}{c5 iter:Expr}{c3:LEx}{pos:Pos}
section
variable{s:ah}
def MI{a:Expr}{it u:Value}(I:Nat->ah->Prop)
 (C:∀ n s,I n s->wpAny (model prog w) A (g6 it) (λr d=>match r with
   |none=>R (.ok .next) d
   | some v=>wpAny (model prog w) A (letOwnedTupleGo a it v) (λ_ e=>wpAny (model prog w) A (assign a env v) (λ_ j =>
     wpAny (model prog w) A (forIn c3 ac λc r=>if r=ac then do let ok <- isTrue c env (eval c env); pure (nO ok) else pure (nO r)) (λok f =>
      if ok=ac then wpAny (model prog w) A (eval c5 env) (λx l =>
       wpAny (model prog w) A (call (.builtin "list.append") [u,x]) (λ_ p=>∃m,m<n/\I m p) (notedBy (model prog w) A env λx b=>R (.error x) b) l) (notedBy (model prog w) A env λx b=>R (.error x) b) f
      else ∃m,m<n/\I m f) (notedBy (model prog w) A env λx b=>R (.error x) b) j) (notedBy (model prog w) A env λx b=>R (.error x) b) e) (notedBy (model prog w) A env λx b=>R (.error x) b) d) (notedBy (model prog w) A env λx b=>R (.error x) b) s)
 (n:Nat)(h:I n s):
  gA (model prog w) A (.compLoop (.ListComp c5 [(a,iter,c3,0)] scope pos) 0 it u env) R s:=by
 show codeAny_loop rfl I (λn s E=>?_) n h;show wpAny_noted ?_;show aj (wpAny_standAt (aj (fK (C n s E) (λr d g=>?_) λ_ _ h'=>h')))
 cases r with
 |none=>show aD g
 |some v=>
  show aj (fK g (λ_ e q=>?_) λ_ _ h'=>h');show aj (fK q (λ_ j y=>aj (fK y (λok f i=>?_) λ_ _ h'=>h')) λ_ _ h'=>h')
  cases ok with
  |false=>show aD (rfl,i)
  |true=>
   show aj (aj (fK i (λx l z=>aj (fK z (λ_ p B=>aD (aD (rfl,B))) λ_ _ h'=>h')) λ_ _ h'=>h'))
end
open PySem.Spec PyProof.Rows
nonrec def Cx.comp(X:Cx)(scope:Scope)(Nc:LSt)(cl:List (Str×Addr))(V5:Addr)(ex:LAd)(b:ah)(a:Hp):Cx:=
 {X with N:=Nc,s₀:=b,H₀:=a,env:=compEnvC scope cl V5 X.env,outer:=X.stack,ex:=ex,fn:=λ_=>af,pn:=[],xe:=E00}
def xR{env:Env}:∀{names:List (Str×f9)} {x:Str},names.lookup x=aa .free ->
  (names.map λ(n,k,)=>if (k==fN && env.scope.kind==.function && env.kindOf n==aa .cell) then (n,mo,) else (n,k,)).lookup x=aa .cell \/
  (names.map λ(n,k,)=>if (k==fN && env.scope.kind==.function && env.kindOf n==aa .cell) then (n,mo,) else (n,k,)).lookup x=aa .free
 | [],_,h=>by simp at h
 |(n,k,)::r,x,h=>by
  have a:=@xR env r x
  grind
def xS{env:Env}{a:f9}(b:a=.cell\/a=.free):∀{names:List (Str×f9)} {x:Str},
  (names.map λ(n,k,)=>if (k==fN && env.scope.kind==.function && env.kindOf n==aa .cell) then (n,mo,) else (n,k,)).lookup x=aa a ->
  (x,fN,)∈names\/(x,mo,)∈names
 | [],_,h=>by simp at h
 |(n,k,)::r,x,h=>by
  have h':List.lookup x ((if _=ac then _ else _)::_)=aa a:=h
  cases c:x==n with
  |true=>
   have e:=eq_of_beq c;subst e;split at h'
   .rename_i d
    have f:k=.free:=by
     rw[cB,cB]at d;show eq_of_beq d.1.1
    subst f;show .inl az
   .simp only[l6,c]at h';have e:=c9 h';subst e
    rcases b with z |z
    .subst z;show .inr az
    .subst z;show .inl az
  |false=>
   have h2:(r.map λ(n,k,)=>if (k==fN && env.scope.kind==.function && env.kindOf n==aa .cell) then (n,mo,) else (n,k,)).lookup x=aa a:=by
    split at h' <;> (rw[l6,c]at h';show h')
   rcases(@xS env a b r x) h2 with z |z
   .show .inl (bh _ z)
   .show .inr (bh _ z)
abbrev lq(scope:Scope)(outer:List (Str×f9))(N Nc:LSt)(k:Nat)(js:LN):Bool:=
 scope.names.all (λx=>(x.2 != .free || outer.lookup x.1==aa .cell || outer.lookup x.1==aa .free) && x.2 != .cell && (x.2 != .local || scope.names.lookup x.1==aa .local)) &&
 scope.kind==.function && Nc.length==k+js.length &&
 (bO js.length).all (λi=>match Nc[k + i]?,js[i]? with
  |some x,aa j=>N[j]?==aa x && scope.names.lookup x==aa .free
  | _,_=>af)
structure oG(scope:Scope)(outer:List (Str×f9))(N Nc:LSt)(k:Nat)(js:LN):Prop where
 free:∀x∈scope.names,x.2=.free->outer.lookup x.1=aa .cell\/outer.lookup x.1=aa .free
 nocell:∀x∈scope.names,x.2≠.cell
 loc:∀x∈scope.names,x.2=.local->scope.names.lookup x.1=aa .local
 kind:scope.kind=.function
 len:Nc.length=k+js.length
 at':∀i j,js[i]?=aa j->∃x,Nc[k+i]?=aa x/\N[j]?=aa x/\scope.names.lookup x=aa .free
variable{N Nc:LSt}{js:LN}
def oG.of{outer:List (Str×f9)}{k:Nat}(h:lq scope outer N Nc k js=ac):oG scope outer N Nc k js:=by
 unfold lq at h;rw[cB,cB,cB]at h;have(((b,h2),d),c):=h;rw[all_eq_true]at b c;show(λx a e=>?_,λx a e=>?_,λx a e=>?_,eq_of_beq h2,eq_of_beq d,λi j e=>?_)
 .have:=b x a;simp only[cB,jU,bne_iff_ne,beq_iff_eq]at this
  rcases this.1.1 with(z |z) |z
  .show absurd e z
  .show .inl z
  .show .inr z
 .have:=b x a;simp only[cB,bne_iff_ne]at this;show this.1.2 e
 .have:=b x a;simp only[cB,jU,bne_iff_ne,beq_iff_eq]at this
  rcases this.2 with z |z
  .show absurd e z
  .show z
 .have hi:=(cU.mp e).1;have:=c i (fI.mpr hi);rw[e]at this
  cases q:Nc[k+i]? with
  |none=>simp only[q]at this;nomatch this
  |some x=>
   rw[q]at this;simp only[cB,beq_iff_eq]at this;show(x,rfl,this.1,this.2)
abbrev i8(k:Nat)(js:LN)(E:St):St:=gX k ab++js.map λj=>(E[j]?).getD ab
abbrev PTs(X:Cx)(c3:LEx)(t:TT):Prop:=
 ∀(U:PNS) (s:ah) (E:St) (H:Hp) (Q:Bool->Hp->Prop),Inv X U E H s->t E H Q ->
  wpAny (model X.prog X.w) X.A (forIn c3 ac λc r=>if r=ac then do let ok <- isTrue c X.env (eval c X.env);pure (nO ok) else pure (nO r)) (TP X U E Q) X.xe s
abbrev MJ:TT:=λ_ H Q=>Q ac H
variable{X:Cx}
def MK:PTs X [] MJ:=λ_ _ _ H _ I h=>wpAny_tests_nil (H,I,h)
def ML{c:Expr}{t:TT}(h:PT X c t):PTs X [c] t:=λU s E H Q I q=>wpAny_tests_one (h U s E H Q I q)
abbrev xT(J:It)(g:TG)(tt:TT)(te:TE)(h:St)(j:Hp)(Q:VK):Prop:=
 ∃W:Nat->Nat->LVv->St->Hp->Prop,(∃m,W 0 m [] h j)/\∀i m c σ' H',W i m c σ' H' ->
  (J.stop i H'/\c.length<=aS/\∀D,j D=ab->H' D=ab->Q (.ref D) (upd H' D (.lst c))) \/
  (J.go i H'/\c.length<=aS/\∃ N : LVv->St->Hp->Prop,(∀ e f d,N e f d->∃ n,n < m/\W (i + 1) n e f d) /\
   ∀x d,J.yld i H' x d->g x σ' d λa p=>tt a p λb l=>if b=ac then te a l λy q=>N (c++[y]) a q else N c a l)
abbrev oH(k:Nat)(js:LN)(b:TI)(g:TG)(tt:TT)(te:TE):TE:=λE H Q=>b E H λJ a=>xT J g tt te (i8 k js E) a Q
nonrec def Cx.to(X:Cx)(pn:PNS)(xe:PRS):Cx:={X with pn:=pn,xe:=xe}
variable{Y:Cx}{xe:PRS}{U:PNS}{E:St}{H:Hp}
def EO{s:ah}(I:Inv Y U E H s):Inv {Y with xe:=xe} U E H s:=
 ((I.ok.mod,I.ok.kind,I.ok.glob,I.ok.blt,I.ok.above,I.ok.inj,I.ok.has,I.ok.cab,I.ok.hd,I.ok.frames,I.ok.stk,I.ok.exf,I.ok.bs,I.ok.bsz,I.ok.noex,I.ok.exfs,I.ok.funs,I.ok.frf),I.os,I.bare,I.base,I.loc,I.cell,I.free,I.freeC,I.pin,I.hok,I.len)
def EQ{s:ah}(I:Inv {Y with xe:=xe} U E H s):Inv Y U E H s:=
 ((I.ok.mod,I.ok.kind,I.ok.glob,I.ok.blt,I.ok.above,I.ok.inj,I.ok.has,I.ok.cab,I.ok.hd,I.ok.frames,I.ok.stk,I.ok.exf,I.ok.bs,I.ok.bsz,I.ok.noex,I.ok.exfs,I.ok.funs,I.ok.frf),I.os,I.bare,I.base,I.loc,I.cell,I.free,I.freeC,I.pin,I.hok,I.len)
variable{e:Expr}{t:TE}
def PE.to0(h:PE {Y with pn:=[],xe:=E00} e t):PE {Y with pn:=[],xe:=xe} e t:=λU s E H Q I q=>
 fK (h U s E H Q (EQ I) q) (λu c (v,H',a,r,b)=>(v,H',EO a,r,b)) λ_ _ z=>z.elim
nonrec def jG(us:LVa)(n:Nat):Obj:={cls:=.type "list",data:=.seq us.toArray n}
variable{tg:Expr}{g:TG}{tt:TT}{te:TE}{H2:Hp}{s2:ah}{it:Addr}{fp:LAd}{tn:Nat->Heap->Prop}{J:It}{Q:VK}{RR:Value->Addr->Result->ah->Prop}{V4:PRS}
def MM{k:Nat}{PX:Cx->Prop}{cl:List (Str×Addr)}
 (hc:X.calm=ac)(ck:oG scope X.env.scope.names X.N Nc k js)
 (hg:∀cl V5 ex I H,PG (X.comp scope Nc cl V5 ex I H) tg g)(ht:∀cl V5 ex I H,PTs (X.comp scope Nc cl V5 ex I H) c3 tt)(he:∀cl V5 ex I H xe,PX ((X.comp scope Nc cl V5 ex I H).to [] xe)->PE ((X.comp scope Nc cl V5 ex I H).to [] xe) c5 te)
 (a1:∀x c,cl.lookup x=aa c->X.env.cells.lookup x=aa c)(a2:∀x,(x,fN,)∈scope.names->∃c,cl.lookup x=aa c)
 (G:Inv X U E H2 s2)(T:ka X.prog X.w X.K tg J fp it tn)(st2:tn 0 s2.heap)(f2:∀b∈fp,hJ X U H2 b)(hW:xT J g tt te (i8 k js E) H2 Q)
 (hRR:∀(D V5:Addr) (s':ah) (H':Hp),Inv X U E H' s'->(∃m,s'.heap.Ns V5 m)->hJ X U H' V5->Q (.ref D) H'->RR (.ref D) V5 (.ok .next) s')
 (hPX:∀D V5,s2.heap.objs.size=D->D<V5->(∀b∈frs X.stack,b<D)->PX ((X.comp scope Nc cl V5 fp s2 H2).to [] (notedBy (model X.prog X.w) X.A (compEnvC scope cl V5 X.env) λx s'=>RR (.ref D) V5 (.error x) s'))):
  wpAny (model X.prog X.w) X.A (newList []) (λc4 s₃=>wpAny (model X.prog X.w) X.A (newFunctionEnv scope X.env.globals cl [] X.env.qual ab .none (aa X.env)) (λcenv s₄ =>
   gA (model X.prog X.w) X.A (.compStart (.ListComp c5 [(tg,iter,c3,0)] scope pos) 0 (.ref it) c4 {cenv with scope:=relabel scope X.env}) (RR c4 cenv.locals) s₄) V4 s₃) V4 s2:=by
 have(W,(m0,w0),turn):=hW;show iU (wpAny_newFunctionEnv ck.nocell (by intro y hy;simp at hy) (λh₁ B h=>?_) ck.kind);dsimp only at B h ⊢;generalize hP:s2.heap.push {cls:=.type "list",dict:=ab,data:=.seq ([]:LVa).toArray}=P at B h ⊢;generalize hD:s2.heap.objs.size=D at hP B h ⊢;have hCs:P.objs.size=D+1:=by rw[<- hP,iY,hD]
 generalize hC:P.objs.size=V5 at hCs B h ⊢;have hDC':D<V5:=by rw[hCs];show c6 _
 have hDC:D≠V5:=bW hDC';have below:∀b o,s2.heap.get? b=aa o->b<D:=λb o e=>hD▸bz e
 have old:∀b o,s2.heap.get? b=aa o->h₁.get? b=aa o:=λb o e=>by
  have f:=below b o e;show h.extBut b o (bW (ma f hDC')) (bx _ (hP▸bx _ e))
 have hDo:h₁.get? D=aa (jG [] 0):=h.extBut _ _ hDC (bx _ (by rw[<- hP,<- hD];show cP _ rfl));have Hn:∀b,D<=b->H2 b=ab:=λb f=>G.hok.fresh (by lia);have fpo:∀b∈fp,b<D:=λb f=>by have(o,e,_):=T.obj 0 _ st2 b f;show below b o e
 have clo:∀x c,cl.lookup x=aa c->c<D:=λx c e=>by
  have(v,o,ho,_):=G.cell x c (a1 x c e);show below c o ho
 have stko:∀b∈frs X.stack,b<D:=λb f=>by
  have(_,o,ho,_):=G.stack.mem f;show below b o ho
 let Y:Cx:=X.comp scope Nc cl V5 fp s2 H2
 have yk:Y.Ok:=by
  show(G.ok.mod,ck.kind,G.ok.glob,G.ok.blt,?_,?_,?_,?_,G.ok.hd,G.ok.frames,.inl rfl,?_,G.bs,?_,?_,?_,G.stack,G.stkFree)
  .change s2.heap.objs.size<=V5;lia
  .show λx y c h1 h2=>G.ok.inj x y c (a1 x c h1) (a1 y c h2)
  .intro x hx
   have:(x,fN,)∈scope.names\/(x,mo,)∈scope.names:=by
    rcases hx with hx |hx
    .show xS (.inl rfl) hx
    .show xS (.inr rfl) hx
   rcases this with z |z
   .show a2 x z
   .show absurd rfl (ck.nocell _ z)
  .show λx c z=>nomatch z
  .intro b f;show(?_,λx c e=>?_)
   .show bW (ma (fpo b f) hDC')
   .show(f2 b f).2.2.2.2.1 x c (a1 x c e)
  .show cN G.ok.bsz G.sz
  .intro b o e f
   rcases(f2 b f).2.2.2.1 with z |z
   .show G.ok.noex b o e z
   .show absurd (fh (bz e) (cN G.ok.bsz z)) (gy _)
  .intro b f z
   rcases aZ.mp (G.stkSub b z)with e |e
   .show(f2 b f).2.1 e
   .show(f2 b f).2.2.1 e
 have I4:Inv Y [(D,jG [] 0,)] (i8 k js E) H2 {s2 with heap:=h₁,toks:=s2.toks+([]:List (Str×Value)).length}:=by
  show(yk,rfl,G.bare,Un.kept old,(_,B,λi x v e1 L e3=>?_),λx c e=>?_,Hn V5 (by lia),λx c e=>G.freeC x c (a1 x c e),λp M=>?_,G.hok.kept old,?_)
  .have e1:Nc[i]?=aa x:=e1;unfold i8 at L
   have hik:k<=i:=by
    rcases Nat.lt_or_ge i k with z |z
    .rw[lV (by simpa using z),nQ]at L;simp[z]at L
    .show z
   rw[nP (by simpa using hik),cH]at L;simp only[lW]at L
   cases q:js[i-k]? with
   |none=>rw[q]at L;cases L
   |some j=>
    rw[q]at L;have(x',q1,q2,q3):=ck.at' _ _ q;rw[show k+(i-k)=i by lia,e1]at q1;cases q1;have L:(E[j]?).getD ab=aa v:=c9 L
    have e2':E[j]?=aa (aa v):=by
     cases z:E[j]? with
     |none=>rw[z]at L;nomatch L
     |some y=>rw[z]at L;rw[show y=aa v from L]
    have hmem:(x,fN,)∈scope.names:=by
     have:∀l:List (Str×f9),l.lookup x=aa .free->(x,fN,)∈l:=by
      intro l
      induction l with
      |nil=>intro z;nomatch z
      |cons a l ih=>
       intro z;have(n,kk):=a;simp only[l6]at z
       cases f:x==n with
       |true=>
        rw[f]at z;cases z
        rw[eq_of_beq f];show az
       |false=>rw[f]at z;show bh _ (ih z)
     show this _ q3
    have hout:X.env.kindOf x=aa .cell\/X.env.kindOf x=aa .free:=ck.free _ hmem rfl;have(m,hn,hl):=G.loc
    have vis:Vis X.env.scope x:=by
     rcases hout with z |z
     .show .inr (.inl z)
     .show .inr (.inr z)
    have(u,r,l):=hl j x v q2 e2' vis;show(u,r,.inr (xR q3,?_))
    rcases l with⟨z,_⟩ |⟨_,c,hcl,hcell⟩
    .rcases hout with y |y <;> (rw[y]at z;nomatch z)
    .have(c',hc'):=a2 x hmem;have:=a1 x c' hc';rw[hcl]at this;cases this;show(c,hc',hcell.keeps old)
  .have(v,z):=G.cell x c (a1 x c e);show(v,z.keeps old)
  .have M:p∈[(D,jG [] 0,)]:=(bu.mp M).elim (λz=>nomatch (show p∈([]:PNS)from z)) id;have M:=bw.mp M;subst M;show⟨hDo,Hn D (aL _),hDC,λz=>?_,λv z=>by nomatch z⟩;show absurd (stko D z) (gy _)
  .change(i8 k js E).length=Nc.length;rw[ck.len];simp[i8]
 have st1:=T.keep 0 _ _ st2 λb _ o e=>old b o e
 have fpY:∀{H':Hp} {p:PNS},(∀q∈p,q.1=D)->(∀b∈fp,H' b=ab)->∀b∈fp,hJ Y p H' b:=λ{H' p} M hn b f=>by
  show(hn b f,(yk.exf b f).1,yk.exfs b f,.inl f,λx c e=>(yk.exf b f).2 x c e,λq hq=>?_);rw[M q hq];show kO (fpo b f)
 let xe:Value->ah->Prop:=notedBy (model X.prog X.w) X.A (compEnvC scope cl V5 X.env) λx s'=>RR (.ref D) V5 (.error x) s'
 have M:=hPX D V5 hD hDC' stko
 have loop:gA (model X.prog X.w) X.A (.compLoop (.ListComp c5 [(tg,iter,c3,0)] scope pos) 0 (.ref it) (.ref D) (compEnvC scope cl V5 X.env)) (RR (.ref D) V5) {s2 with heap:=h₁,toks:=s2.toks+([]:List (Str×Value)).length}:=by
  show MI (λn s'=>∃i ys us nn σ' H',Inv Y [(D,jG us nn,)] σ' H' s'/\tn i s'.heap/\(∀b∈fp,H' b=ab)/\aG ys us/\W i n ys σ' H') ?_ m0
   (0,[],[],0,i8 k js E,H2,I4,st1,λb f=>(f2 b f).1,.nil,w0)
  rintro n s3 ⟨i,ys,us,nn,σ3,H3,I3,st3,fr3,rv,w3⟩
  have one:∀q∈[(D,jG us nn,)],q.1=D:=λq hq=>by
   have:q=(D,jG us nn,):=by simpa using hq
   rw[this]
  rcases turn i n ys σ3 H3 w3 with⟨stop,hz,qn⟩ |⟨go,hz,N,hN,step⟩
  .show thn (T.done Y rfl rfl rfl hc i _ s3 σ3 H3 _ I3 (fpY one fr3) st3 stop) λr s4 (hr,I5)=>?_;subst hr;have(pD,nD,_,_,_):=I5.pin (D,jG us nn,) (by simp);have bs:=I5.base;have h2D:∀b o,H2 b=aa o->b≠D:=λb o e z=>by rw[z,Hn D (aL _)]at e;nomatch e
   have I6:Inv X U E (upd H3 D (.lst ys)) s4:=by
    show G.call' (ch:=fp) I5.os (bs.keep,bs.slot,λb o e n hx=>?_,bs.there,λb C e=>?_,λb o u e=>?_,λb ps e=>?_) (λb u e=>?_) I5.bare λb f=>?_
    .rw[aK (bW (below b o e))];show bs.free b o e n hx
    .rw[aK (h2D b _ e)];show bs.tups b C e
    .rw[aK (h2D b _ e)];show bs.frzs b o u e
    .rw[aK (h2D b _ e)];show bs.tbls b ps e
    .by_cases f:b=D
     .subst f;rw[a8]at e;cases e;show(hz,us,nn,rv,pD)
     .rw[aK f]at e;show(I5.hok b u e).stay (λc v _ q=>q) (λc q=>by rw[aK (fq q nD)];show q) λc C q=>by rw[aK (fq q nD)];show q
    .have(_,f1,_,f3,f4,f5):=f2 b f;show(f3,f1,f4,f5)
   have(m,hn,_):=I5.loc;show hRR D V5 s4 _ I6 (m,hn) (G.fpOk (by lia) ?_) (qn D (Hn D (aL _)) nD);rw[aK hDC.symm];show I5.free
  .show thn (T.item Y rfl rfl rfl hc i _ s3 σ3 H3 _ I3 (fpY one fr3) st3 go) λr s4 q_=>?_;have(u,hr,h4):=q_;subst hr;show thn h4 λ_ s5 q_=>?_;have(x,H5,I5,r5,y5,st5,fr5):=q_;have I5':=I5.pinned (fpY one fr5) (T.obj _ _ st5);show fK (hg cl V5 fp s2 H2 _ s5 σ3 H5 x u _ I5' r5 (step x H5 y5)) (λ_ s6 (σ6,H6,I6,q6)=>?_) λ_ _ z=>z.elim;show fK (ht cl V5 fp s2 H2 _ s6 σ6 H6 _ I6 q6) (λb s7 (H7,I7,q7)=>?_) λ_ _ z=>z.elim
   have kp:∀{H8:Hp} {s8:ah},Inv Y ([(D,jG us nn,)]++tL fp s5.heap) σ6 H8 s8->tn (i+1) s8.heap/\(∀b∈fp,H8 b=ab):=λ{H8 s8} I8=>by
    show(T.keep _ _ _ st5 λb f o e=>(I8.pin (b,o,) (cg _ (cg _ (tM f e)))).1,λb f=>?_);have(o,e,d):=T.obj _ _ st5 b f;show(I8.pin (b,o,) (cg _ (cg _ (tM f e)))).2.1
   cases b with
   |false=>
    have(m',hm,w7):=hN _ _ _ q7;have(st7,fr7):=kp I7
    show(m',hm,i+1,ys,us,nn,σ6,H7,I7.unpinned,st7,fr7,rv,w7)
   |true=>
    show thn (he cl V5 fp s2 H2 xe M _ s7 σ6 H7 _ (EO I7) q7) λuy s8 q_=>?_;have(y,H8,I8',r8,q8):=q_;have I8:=EQ I8';have(m',hm,w8):=hN _ _ _ q8;have(st8,fr8):=kp I8;have(pD,nD,pC,pF,_):=I8.pin (D,jG us nn,) (by simp);have hl:=rv.length
    show wpAny_list_append_plain (items:=us.toArray) (nn,pD) (λh' hl' sb=>?_) (by simp only[size_toArray] <;> lia)
    have(n',e'):=hl';have I8n:Inv Y [] σ6 H8 s8:=I8.pins_of (λ_ z=>nomatch z);have I9:=I8n.turned (t':=s8.toks) (it:=D) (λb o f e=>(sb.2 b f).trans e) nD pC (.inr (by change s2.heap.objs.size<=D;lia)) (λx c e=>bW (clo x c e)) (λp M=>nomatch M);show(m',hm,i+1,ys++[y],us++[uy],n',σ6,H8,I9.pins_of (λp M=>?_),?_,fr8,rv.append (.cons r8 .nil),w8)
    .have M:p=(D,jG (us++[uy]) n',):=by simpa using M
     subst M;show⟨?_,nD,pC,pF,λv z=>by nomatch z⟩;have L:=e';rw[L];simp
    .show T.keep _ _ _ st8 λb f o e=>(sb.2 b (bW (fpo b f))).trans e
 show codeAny_compStart_list loop (T.self X.A 0 _ _ _ st1 loop)
def ER{k:Nat}{cl:List (Str×Addr)}
 (y:X.calm=ac)(u:oG scope X.env.scope.names X.N Nc k js)
 (B:∀cl V5 ex d a,PG (X.comp scope Nc cl V5 ex d a) tg g)(C:∀cl V5 ex d a,PTs (X.comp scope Nc cl V5 ex d a) c3 tt)(z:∀cl V5 ex d a,PE (X.comp scope Nc cl V5 ex d a) c5 te)
 (q:∀x c,cl.lookup x=aa c->X.env.cells.lookup x=aa c)(r:∀x,(x,fN,)∈scope.names->∃c,cl.lookup x=aa c)
 (p:Inv X U E H2 s2)(T:ka X.prog X.w X.K tg J fp it tn)(n:tn 0 s2.heap)(f2:∀b∈fp,hJ X U H2 b)(v:xT J g tt te (i8 k js E) H2 Q)
 (j:∀(D V5:Addr) (l:ah) (H':Hp),Inv X U E H' l->(∃m,l.heap.Ns V5 m)->hJ X U H' V5->Q (.ref D) H'->RR (.ref D) V5 (.ok .next) l):
  wpAny (model X.prog X.w) X.A (newList []) (λf h=>wpAny (model X.prog X.w) X.A (newFunctionEnv scope X.env.globals cl [] X.env.qual ab .none (aa X.env)) (λe i =>
   gA (model X.prog X.w) X.A (.compStart (.ListComp c5 [(tg,iter,c3,0)] scope pos) 0 (.ref it) f {e with scope:=relabel scope X.env}) (RR f e.locals) i) V4 h) V4 s2:=
 MM (PX:=λ_=>True) y u B C (λcl V5 ex d a xe _=>PE.to0 (z cl V5 ex d a)) q r p T n f2 v j λ_ _ _ _ _=>trivial
variable{wi:TI}
def MN(k:Nat)(js:LN)(Nc:LSt)(L:X.calm=ac)(hi:PI X tg iter wi)
 (Y:∀cl V5 ex c a,PG (X.comp scope Nc cl V5 ex c a) tg g)(ht:∀cl V5 ex c a,PTs (X.comp scope Nc cl V5 ex c a) c3 tt)(M:∀cl V5 ex c a,PE (X.comp scope Nc cl V5 ex c a) c5 te)
 (d:lq scope X.env.scope.names X.N Nc k js=ac:=by rfl)(hs:∀x,kS iter X.env x=pure x:=by intro _;rfl):
  PE X (.ListComp c5 [(tg,iter,c3,0)] scope pos) (oH k js wi g tt te):=by
 intro U s E H Q I h;have d:=oG.of d;have(cl,f,p,r):=EN λx hx e=>I.ok.has x.1 (d.free x hx e);show wpAny_comprehension_free rfl hs f d.kind d.loc (thn (hi U s E H _ I h) λv s1 B=>thn B λitv s2 h2=>?_);have(it,fp,tn,J,H2,e,n,T,j,f2,C):=h2;subst e;show ER L d Y ht M p r n T j f2 C λD V5 s' H' l (m,hn) A q=>?_;have(u,f1,_,w,y,z):=A;show(m,hn,λh' i=>(.ref D,H',l.turned (λb o G e=>(i.2 b G).trans e) u f1 w y z,rfl,q))
variable{i:Nat}{x:Str}{b4 eH:Pos}
def xU(k:Nat)(js:LN)(Nc:LSt)(hN:X.N.Nodup)(p:X.N[i]?=aa x)(w:Loc X.env.scope x)(hc:X.calm=ac)(hi:PI X tg iter wi)
 (hg:∀cl V5 ex d c,PG (X.comp scope Nc cl V5 ex d c) tg g)(ht:∀cl V5 ex d c,PTs (X.comp scope Nc cl V5 ex d c) c3 tt)(he:∀cl V5 ex d c,PE (X.comp scope Nc cl V5 ex d c) c5 te)
 (u:f8 (.ListComp c5 [(tg,iter,c3,0)] scope pos) (aa (.Name x b4)) eH.line X.env=pure ac:=by rfl)
 (f:lq scope X.env.scope.names X.N Nc k js=ac:=by rfl)(hs:∀x,kS iter X.env x=pure x:=by intro _;rfl)
 (hf:LcF X x:=by first |exact .inl rfl |exact .inr rfl |assumption):
  PS X (.Assign [.Name x b4] (.ListComp c5 [(tg,iter,c3,0)] scope pos) eH) (i6 (oH k js wi g tt te) (hE i)):=by
 intro U s E H D I h;have f:=oG.of f;rw[exec_Assign_Name_used _ _ _ _ u];show aj (wpAny_standAt (aj ?_));have(cl,n,L,M):=EN λx w e=>I.ok.has x.1 (f.free x w e)
 show aj (fK (wpAny_comprehension_free rfl hs n f.kind f.loc
  (thn (hi U s E H _ I h) λv s1 h1=>thn h1 λitv s2 h2=>?_)) (λ_ s' hq=>aD (aD hq)) λ_ _ e=>e)
 have(it,fp,tn,J,H2,e,G,T,y,f2,hW):=h2;subst e;show ER hc f hg ht he L M G T y f2 hW λB V5 s' H' C (m,hn) fC q=>?_;have(Q,f1,Y,f3,A,f5):=fC;show wpAny_assign_Name (D3 (v:=.ref B) C hN p w rfl (λs'' j (a,sb,ha)=>?_) hf)
 have l:V5≠a:=by
  rcases ha with z |z
  .rw[z];show f1
  .show(A x a z).symm
 show(m,hn.sameBut sb l,λh' r=>(_,H',j.turned (λb o hb e=>(r.2 b hb).trans e) Q f1 f3 A f5,q))
def ES:OpR X (cW .Is) (λx y H Q=>∃b,y=.bl b/\(x=.non\/∃c,x=.bl c)/\Q (.bl (decide (x=.bl b))) H):=by
 intro U s E H x y v u Q I a e h;have(b,rfl,d,q):=h;subst e
 rcases d with rfl |⟨c,rfl⟩
 .subst a
  show wpAny_is_plain rfl (bU I q (by cases b <;> rfl))
 .subst a
  show wpAny_is_plain rfl (bU I q (by cases b <;> cases c <;> rfl))
def ET:OpR X (cW .IsNot) (λx y H Q=>∃b,y=.bl b/\(x=.non\/∃c,x=.bl c)/\Q (.bl (!decide (x=.bl b))) H):=by
 intro U s E H x y v u Q I a e h;have(b,rfl,d,q):=h;subst e
 rcases d with rfl |⟨c,rfl⟩
 .subst a
  show wpAny_isNot_plain rfl (bU I q (by cases b <;> rfl))
 .subst a
  show wpAny_isNot_plain rfl (bU I q (by cases b <;> cases c <;> rfl))
def MO(a:X.calm=ac):iy X (.builtin "sum") (λC H Q=>∃(p:Addr) (ns:LI0),C=[.ref p]/\SqL X.K H p (ns.map V.int)/\Q (.int ns.sum) H):=by
 intro U s E H C us Q I r h;have(p,ns,rfl,c,q):=h;have(u,rfl,g):=mG r;subst g;have(B,f,d,hz):=I.list c;have hi:=LR f;have(C,e):=hi.allInts.items;show sum_intListG (I.ok.hd a) (by rw[<- e];show d.isList) λh' i t' b=>?_
 have es:preSum (numAt C) C.size=ns.sum:=by
  rw[preSum_eq,sR (by simp),<- nums_intItems,<- e,hi.numsOf]
 rw[es];show(.int ns.sum,H,I.kept b,(_,rfl),q)
def MP:iy X (.builtin "isinstance") (λC H Q=>∃x T t b,C=[x,.ty T]/\gC X.K H x t/\W.kitOne X.K t (.type T)=aa b/\Q (.bl b) H):=by
 intro U s E H C us Q I r h;have(x,T,t,b,rfl,ty,e,q):=h;have(u,f,rfl,c,a):=Lp r;cases (a);show LG I c ty e λd=>(.bl b,H,I.tok d,rfl,q)
variable{C:LVv}
def aG.at'{us:LVa}{u:Value}(r:aG C us)(e:us[i]?=aa u):∃x,C[i]?=aa x/\aB x u:=by
 have b:=r.length;have hi:i<C.length:=by have:=(cU.mp e).1;lia
 show(C[i],by simp[hi],?_);have(c,e',a):=r.get (i:=i) (x:=C[i]) (by simp[hi]);rw[e]at e';cases e';show a
def oI{env:Env}{a:f9}(b:a≠.free):∀{names:List (Str×f9)} {x:Str},names.lookup x=aa a ->
  (names.map λ(n,k,)=>if (k==fN && env.scope.kind==.function && env.kindOf n==aa .cell) then (n,mo,) else (n,k,)).lookup x=aa a
 | [],_,h=>by simp at h
 |(n,k,)::r,x,h=>by
  have c:=@oI env a b r x
  grind
def MQ(h:Vis scope x):Vis (relabel scope env) x:=by
 rcases h with h |h |h
 .show .inl (oI (by decide) h)
 .show .inr (.inl (oI (by decide) h))
 .rcases xR h with z |z
  .show .inr (.inl z)
  .show .inr (.inr z)
variable{V5:Addr}{ex:LAd}{cc:ah}{cs:Hp}
def pvc{cl:List (Str×Addr)}(i:Nat)(b:Nc[i]?=aa x:=by rfl)(hv:Vis scope x:=by first |exact bX rfl |exact bA (bX rfl) |exact bA (bA rfl))(hd:NDb x:=by decide)
 (a:NCd x:=by decide):PE (X.comp scope Nc cl V5 ex cc cs) (.Name x pos) (cQ i):=mD b (MQ hv) hd a
def pgc{cl:List (Str×Addr)}(i:Nat)(b:Nc.Nodup:=by decide +kernel)(hi:Nc[i]?=aa x:=by rfl)(a:scope.names.lookup x=aa .local:=by rfl):PG (X.comp scope Nc cl V5 ex cc cs) (.Name x pos) (hE i):=
 xg b hi (.inl (oI (by decide) a)) (.inr (oI (by decide) a))
def glc{cl:List (Str×Addr)}(h:scope.names.lookup x=aa .globalImplicit):Gl (X.comp scope Nc cl V5 ex cc cs) x:=oI (by decide) h
variable{p:Addr}
def bP{o:HO}(h:H p=ab):aq H (upd H p o):=λb u e=>by rw[aK (fq e h)];show e
variable{K:aQ}{H':Hp}{a:Addr}
def aq.tup(e:aq H H')(h:SqT K H a C):SqT K H' a C:=by
 rcases h with(h |⟨o,h⟩) |h
 .show .inl (.inl (e _ _ h))
 .show .inl (.inr (o,e _ _ h))
 .show .inr h
abbrev lr(p:Addr)(H H':Hp):Prop:=∀b o,H b=aa o->b≠p->H' b=aa o
def lr.refl(p:Addr)(H:Hp):lr p H H:=λ_ _ h _=>h
variable{H1:Hp}
def lr.trans(a:lr p H H1)(b:lr p H1 H2):lr p H H2:=λc o h n=>b c o (a c o h n) n
def lr.seq(e:lr p H H')(n:a≠p)(h:SqL K H a C):SqL K H' a C:=by
 rcases h with(h |⟨o,h⟩) |h
 .show .inl (.inl (e _ _ h n))
 .show .inl (.inr (o,e _ _ h n))
 .show .inr h
abbrev xV(K:aQ)(H:Hp)(V2:Addr)(B:LII):Prop:=
 ∃a:List (Addr×Int×Int),SqL K H V2 (a.map λz=>V.ref z.1)/\(∀z∈a,SqT K H z.1 [.int z.2.1,.int z.2.2])/\B=a.map (·.2)/\a.length<=1000
abbrev cE(p:Option Bool->Bool)(es:LOB)(B:LII):Int:=((B.filter λz=>p (es.getD z.1.toNat ab)).map (·.2)).sum
inductive Prt where
 |inn (t:Int) |out (t:Int) |least (k:Int) (B:LII) |most (k:Int) (B:LII)
abbrev MR(K:aQ)(H:Hp)(p:Addr):Prt->Prop
 |.inn t=>SqT K H p [.str "in",.int t]
 |.out t=>SqT K H p [.str "out",.int t]
 |.least k B=>∃V2,SqT K H p [.str "least",.int k,.ref V2]/\xV K H V2 B
 |.most k B=>∃V2,SqT K H p [.str "most",.int k,.ref V2]/\xV K H V2 B
abbrev bs(l:LB0):LOB:=l.map aa
abbrev Prt.holds(L ws:LB0):Prt->Bool
 |.inn t=>(L.getD t.toNat af)
 |.out t=>!(ws.getD t.toNat af)
 |.least k B=>decide (k<=cE (·==aa ac) (bs L) B)
 |.most k B=>decide (cE (·==aa ac) (bs ws) B<=k)
variable{h':Heap}
section
variable{s:ah}
def Inv.turnedMany{t':Nat}{ch:LAd}(I:Inv X U E H s)(k:∀b o,b∉ch->s.heap.get? b=aa o->h'.get? b=aa o)(d:∀b∈ch,hJ X U H b):Inv X U E H {s with heap:=h',toks:=t'}:=by
 show I.step (λb j=>?_) (λb o _ _ a e _=>k b o a e) (λb o _ _ a e _=>(o.slots,k b o a e)) (λ_ _ _ _ n=>n)
  (λb o a e=>(o,k b o a e)) (λ_ _ e=>e) (λ_ _ _ e=>e) (λb ps e=>(#[],by rw[e];simp)) (λm hm=>?_) (λb u e=>?_) I.bare
 .have(_,f1,_,g,h,i):=d b j;show(g,f1,h,i)
 .have(o,es,f,l,r):=hm;show(o,es,f,k _ o (λz=>(d _ z).2.1 rfl) l,r)
 .show(I.hok b u e).stay (λc v a q=>k c v (λz=>?_) q) (λ_ q=>q) λ_ _ q=>q;have hn:=(d c z).1
  rcases a with y |y
  .rw[y,e]at hn;nomatch hn
  .rw[hn]at y;nomatch y
end
def Inv.track{s:ah}{o:HO}(I:Inv X U E H s)(f:hJ X U H p)(l:dR X.prog X.w (upd H p o) s.heap p o):Inv X U E (upd H p o) s:=by
 have(g,f1,f2,h,i,j):=f;have ne:∀b u,H b=aa u->b≠p:=λb u e=>fq e g;have one:∀b:Addr,b∉[p]->b≠p:=λb a z=>a (by rw[z];simp)
 show I.step (ch:=[p]) (λb a=>?_) (λb o _ _ d e _=>e) (λb o _ _ d e _=>(o.slots,e)) (λb o d e n=>?_)
  (λb o d e=>(o,e)) (λb C e=>?_) (λb o u e=>?_) (λb ps e=>(#[],?_)) (λm hm=>hm) (λb u e=>?_) I.bare
 .have e:b=p:=by simpa using a
  subst e;show(h,f1,i,j)
 .rw[aK (one b d)];show n
 .rw[aK (ne b _ e)];show e
 .rw[aK (ne b _ e)];show e
 .rw[aK (ne b _ e),e];rfl
 .by_cases a:b=p
  .subst a;rw[a8]at e;cases e;show l
  .rw[aK a]at e;show(I.hok b u e).stay (λc v _ q=>q) (λc q=>by rw[aK (ne c _ q)];show q) λc C q=>by rw[aK (ne c _ q)];show q
abbrev bY(p:Int->Bool)(B:LII):Int:=((B.filter λz=>p z.1).map (·.2)).sum
def ls(p:Option Bool->Bool)(es:LOB)(B:LII):cE p es B=bY (λt=>p (es.getD t.toNat ab)) B:=rfl
def EU(p q:Int->Bool)(B:LII):bY p (B.filter λz=>q z.1)=bY (λt=>p t && q t) B:=by
 unfold bY
 rw[filter_filter]
abbrev Prt.sure(es:LOB):Prt->Bool
 |.inn t=>es.getD t.toNat ab==aa ac
 |.out t=>es.getD t.toNat ab==aa af
 |.least k B=>decide (k<=cE (·==aa ac) es B)
 |.most k B=>decide (cE (λe=>!(e==aa af)) es B<=k)
abbrev Prt.lost(es:LOB)(ws:LB0):Prt->Bool
 |.inn t=>(es.getD t.toNat ab==aa af) || ws.getD t.toNat af
 |.out t=>es.getD t.toNat ab==aa ac
 |.least k B=>decide (bY (λt=>!(es.getD t.toNat ab==aa af) && !(ws.getD t.toNat af)) B<k)
 |.most k B=>decide (k<cE (·==aa ac) es B)
abbrev EV(V2:Addr)(B:LII)(vs:LVv):Prt->Prop
 |.inn t=>vs=[.str "in",.int t]
 |.out t=>vs=[.str "out",.int t]
 |.least k i=>vs=[.str "least",.int k,.ref V2]/\i=B
 |.most k i=>vs=[.str "most",.int k,.ref V2]/\i=B
variable{vs:LVv}
def EV.at{V2:Addr}{B:LII}{r:Prt}(t:EV V2 B vs r)(a:H p=aa (.tup vs))(b:xV K H V2 B):MR K H p r:=by
 cases r with
 |inn t'=>subst t;show SqT.of a
 |out t'=>subst t;show SqT.of a
 |least k i=>have(rfl,rfl):=t;show(V2,SqT.of a,b)
 |most k i=>have(rfl,rfl):=t;show(V2,SqT.of a,b)
inductive D where
 |non
 |bl (b:Bool)
 |int (i:Int)
 |str (x:Str)
 |lst (C:List D)
 |tup (C:List D)
 |kl (C:List D)
 |kt (C:List D)
 |dic (ks:List Key) (C:List D)
 |ins (c:Str) (ns:LSt) (C:List D)
 |kd (ks:List Key) (C:List D)
 |dT (ks:List (List Key)) (C:List D)
 deriving Inhabited
nonrec abbrev OD:=Option D
nonrec abbrev LD:=List D
nonrec abbrev OLD:=Option LD
set_option genInjectivity false in
structure Gc where
 K:aQ
 cl:Str->Addr
mutual
def Rep(G:Gc)(H:Hp):D->V->Prop
 |.non,v=>v=.non
 |.bl b,v=>v=.bl b
 |.int i,v=>v=.int i
 |.str x,v=>v=.str x
 |.lst ds,v=>∃a vs,v=.ref a/\H a=aa (.lst vs)/\am G H ds vs
 |.tup ds,v=>∃a vs,v=.ref a/\H a=aa (.tup vs)/\am G H ds vs
 |.kl ds,v=>∃a vs,v=.ref a/\SqL G.K H a vs/\am G H ds vs
 |.kt ds,v=>∃a vs,v=.ref a/\SqT G.K H a vs/\am G H ds vs
 |.dic ks ds,v=>∃a vs,v=.ref a/\H a=aa (.dK (ks.zip vs))/\ks.length=vs.length/\am G H ds vs
 |.ins c ns ds,v=>∃a dx vs,v=.ref a/\H a=aa (.ins (G.cl c) dx (ns.zip vs))/\ns.length=vs.length/\am G H ds vs
 |.kd ks ds,v=>∃a od vs,v=.ref a/\H a=aa (.frz od (.dK (ks.zip vs)))/\ks.length=vs.length/\am G H ds vs
 |.dT ks ds,v=>∃a vs,v=.ref a/\H a=aa (.dT (ks.zip vs))/\ks.length=vs.length/\am G H ds vs
def am(G:Gc)(H:Hp):LD->LVv->Prop
 | [],vs=>vs=[]
 |d::ds,vs=>∃v r,vs=v::r/\Rep G H d v/\am G H ds r
end
mutual
theorem Rep.upM(s:aq H H'):∀(d:D) (v:V),Rep G H d v->Rep G H' d v
 |.non,_,h=>h
 |.bl _,_,h=>h
 |.int _,_,h=>h
 |.str _,_,h=>h
 |.lst ds,_,h_=>by have(a,vs,e,q,r):=h_;show(a,vs,e,s _ _ q,am.upM s ds vs r)
 |.tup ds,_,h_=>by have(a,vs,e,q,r):=h_;show(a,vs,e,s _ _ q,am.upM s ds vs r)
 |.kl ds,_,h_=>by have(a,vs,e,q,r):=h_;show(a,vs,e,s.seq q,am.upM s ds vs r)
 |.kt ds,_,h_=>by have(a,vs,e,q,r):=h_;show(a,vs,e,s.tup q,am.upM s ds vs r)
 |.dic _ ds,_,h_=>by have(a,vs,e,q,l,r):=h_;show(a,vs,e,s _ _ q,l,am.upM s ds vs r)
 |.ins _ _ ds,_,h_=>by have(a,dx,vs,e,q,l,r):=h_;show(a,dx,vs,e,s _ _ q,l,am.upM s ds vs r)
 |.kd _ ds,_,h_=>by have(a,od,vs,e,q,l,r):=h_;show(a,od,vs,e,s _ _ q,l,am.upM s ds vs r)
 |.dT _ ds,_,h_=>by have(a,vs,e,q,l,r):=h_;show(a,vs,e,s _ _ q,l,am.upM s ds vs r)
theorem am.upM(s:aq H H'):∀(ds:LD) (vs:LVv),am G H ds vs->am G H' ds vs
 | [],_,h=>h
 |d::ds,_,h_=>by have(v,r,e,a,h2):=h_;show(v,r,e,Rep.upM s d v a,am.upM s ds r h2)
end
variable{G:Gc}{d:D}{v:V}
def Rep.up(r:Rep G H d v)(s:aq H H'):Rep G H' d v:=Rep.upM s d v r
variable{ds:LD}
def am.up(r:am G H ds vs)(s:aq H H'):am G H' ds vs:=am.upM s ds vs r
def am.nil:am G H [] []:=rfl
def am.cons(h:Rep G H d v)(t:am G H ds vs):am G H (d::ds) (v::vs):=(v,vs,rfl,h,t)
def am.length:∀{ds:LD} {vs:LVv},am G H ds vs->ds.length=vs.length
 | [],_,h=>by cases (h);rfl
 |d::ds,_,(v,r,e,_,h)=>by subst e;simp[am.length h]
def am.append:∀{ds es:LD} {vs us:LVv},am G H ds vs->am G H es us->am G H (ds++es) (vs++us)
 | [],_,_,_,h,t=>by cases (h);show t
 |d::ds,_,_,_,(v,r,e,h1,h2),t=>by subst e;show(v,r++_,rfl,h1,am.append h2 t)
def am.get:∀{ds:LD} {vs:LVv} {i:Nat} {d:D},am G H ds vs->ds[i]?=aa d->∃v,vs[i]?=aa v/\Rep G H d v
 | [],_,_,_,_,e=>by simp at e
 |d::ds,_,0,_,(v,r,e,h1,_),e'=>by subst e;simp at e';subst e';show(v,rfl,h1)
 |d::ds,_,i+1,d',q4_,e'=>by
  have(v,r,e,_,h2):=q4_;subst e;have(u,a,b):=am.get h2 (by simpa using e');show(u,by simpa using a,b)
def am.get':∀{ds:LD} {vs:LVv} {i:Nat} {v:V},am G H ds vs->vs[i]?=aa v->∃d,ds[i]?=aa d/\Rep G H d v:=λ{ds vs i v} h e=>by
 have c:=h.length;have hi:i<ds.length:=by have:=(cU.mp e).1;lia
 have(u,a,b):=h.get (i:=i) (d:=ds[i]) (by simp[hi]);rw[e]at a;cases a;show(ds[i],by simp[hi],b)
def am.ints:∀(ns:LI0),am G H (ns.map D.int) (ns.map V.int)
 | []=>rfl
 |n::ns=>(_,_,rfl,rfl,am.ints ns)
def am.take:∀{ds:LD} {vs:LVv} (n:Nat),am G H ds vs->am G H (ds.take n) (vs.take n)
 | _,_,0,_=>rfl
 | [],_,n+1,h=>by cases (h);rfl
 |d::ds,_,n+1,(v,r,e,h1,h2)=>by subst e;show(v,r.take n,rfl,h1,am.take n h2)
def am.drop:∀{ds:LD} {vs:LVv} (n:Nat),am G H ds vs->am G H (ds.drop n) (vs.drop n)
 | _,_,0,h=>h
 | [],_,n+1,h=>by cases (h);rfl
 |d::ds,_,n+1,(v,r,e,h1,h2)=>by subst e;show am.drop n h2
def am.reverse:∀{ds:LD} {vs:LVv},am G H ds vs->am G H ds.reverse vs.reverse
 | [],_,h=>by cases (h);rfl
 |d::ds,_,q2_=>by
  have(v,r,e,a,h2):=q2_;subst e;rw[iS,iS];show(am.reverse h2).append (.cons a .nil)
def am.set:∀{ds:LD} {vs:LVv} (i:Nat) {d:D} {v:V},am G H ds vs->Rep G H d v->am G H (ds.set i d) (vs.set i v)
 | [],_,_,_,_,h,_=>by cases (h);show .nil
 |e::ds,_,0,_,_,(v,r,e',_,h2),q=>by subst e';show(_,r,rfl,q,h2)
 |e::ds,_,i+1,_,_,(v,r,e',h1,h2),q=>by subst e';show(v,r.set i _,rfl,h1,am.set i h2 q)
abbrev iA:HO->Bool
 |.tup _=>ac
 | _=>af
structure Ext(Hf H Hf' H':Hp):Prop where
 f:aq Hf Hf'
 h:aq H H'
 s:aq Hf' H'
 n:∀l o,H l=aa o->iA o=af->Hf' l=Hf l
variable{Hf:Hp}
def Ext.refl(s:aq Hf H):Ext Hf H Hf H:=(aq.refl _,aq.refl _,s,λ_ _ _ _=>rfl)
variable{b3 bm:Hp}
def Ext.trans(a:Ext Hf H b3 H1)(b:Ext b3 H1 bm H2):Ext Hf H bm H2:=(a.f.trans b.f,a.h.trans b.h,b.s,λl o e t=>(b.n l o (a.h l o e) t).trans (a.n l o e t))
def Ext.new{o:HO}(s:aq Hf H)(h:H p=ab):Ext Hf H (upd Hf p o) (upd H p o):=
 (bP (s.free h),bP h,λb u e=>by
  by_cases a:b=p
  .subst a;rw[a8]at e ⊢;show e
  .rw[aK a]at e ⊢;show s b u e,λl u e _=>by rw[aK (fq e h)])
def Ext.tmp{o:HO}(s:aq Hf H)(h:H p=ab):Ext Hf H Hf (upd H p o):=(aq.refl _,bP h,s.trans (bP h),λ_ _ _ _=>rfl)
def Ext.grow(s:aq Hf H)(g:aq H H1):Ext Hf H Hf H1:=(aq.refl _,g,s.trans g,λ_ _ _ _=>rfl)
def Ext.fix{o:HO}(a:Ext Hf H b3 H1)(hn:H p=ab)(d:b3 p=ab)(g:H1 p=aa o):Ext Hf H (upd b3 p o) H1:=
 (a.f.trans (bP d),a.h,λb u e=>by
  by_cases c:b=p
  .subst c;rw[a8]at e;rw[g];show e
  .rw[aK c]at e;show a.s b u e,λl u e t=>by rw[aK (fq e hn)];show a.n l u e t)
inductive O where
 |fz (d:D)
 |lst (C:List O)
 |tup (C:List O)
 |dic (ks:List Key) (C:List O)
 |ins (c:Str) (ns:LSt) (C:List O)
 |jnk (n:Nat)
 |dT (ks:List (List Key)) (C:List O)
 |at (l:Addr) (o:O)
 |any
 deriving Inhabited
mutual
def OT(G:Gc)(Hf H:Hp):O->V->LAd->Prop
 |.fz d,v,fp=>Rep G Hf d v/\fp=[]
 |.lst os,v,fp=>∃a vs fs,v=.ref a/\H a=aa (.lst vs)/\OTs G Hf H os vs fs/\fp=a::fs
 |.tup os,v,fp=>∃a vs,v=.ref a/\H a=aa (.tup vs)/\OTs G Hf H os vs fp
 |.dic ks os,v,fp=>∃a vs fs,v=.ref a/\H a=aa (.dK (ks.zip vs))/\ks.length=vs.length/\OTs G Hf H os vs fs/\fp=a::fs
 |.ins c ns os,v,fp=>∃a dx vs fs,v=.ref a/\H a=aa (.ins (G.cl c) dx (ns.zip vs))/\ns.length=vs.length/\OTs G Hf H os vs fs/\fp=a::fs
 |.jnk n,v,fp=>∃a vs,v=.ref a/\H a=aa (.lst vs)/\vs.length<=n/\fp=[a]
 |.dT ks os,v,fp=>∃a vs fs,v=.ref a/\H a=aa (.dT (ks.zip vs))/\ks.length=vs.length/\OTs G Hf H os vs fs/\fp=a::fs
 |.at l o,v,fp=>v=.ref l/\OT G Hf H o v fp
 |.any,_,fp=>fp=[]
def OTs(G:Gc)(Hf H:Hp):List O->LVv->LAd->Prop
 | [],vs,fp=>vs=[]/\fp=[]
 |o::os,vs,fp=>∃v r f1 f2,vs=v::r/\OT G Hf H o v f1/\OTs G Hf H os r f2/\fp=f1++f2
end
mutual
noncomputable def O.toD:O->D
 |.fz d=>d
 |.lst os=>.lst (O.toDs os)
 |.tup os=>.tup (O.toDs os)
 |.dic ks os=>.dic ks (O.toDs os)
 |.ins c ns os=>.ins c ns (O.toDs os)
 |.at _ o=>o.toD
 |.jnk _=>.non
 |.dT ks os=>.dT ks (O.toDs os)
 |.any=>.non
noncomputable def O.toDs:List O->LD
 | []=>[]
 |o::os=>o.toD::O.toDs os
end
mutual
noncomputable def O.kn:O->Bool
 |.fz _=>ac
 |.lst os=>O.kns os
 |.tup os=>O.kns os
 |.dic _ os=>O.kns os
 |.ins _ _ os=>O.kns os
 |.at _ o=>o.kn
 |.jnk _=>af
 |.dT _ os=>O.kns os
 |.any=>af
noncomputable def O.kns:List O->Bool
 | []=>ac
 |o::os=>o.kn && O.kns os
end
mutual
theorem OT.frameM(f:aq Hf Hf'):∀(o:O) (v:V) (fp:LAd),OT G Hf H o v fp->(∀b u,H b=aa u->(iA u=ac\/b∈fp)->H' b=aa u)->OT G Hf' H' o v fp
 |.fz d,_,_,h,_=>(h.1.up f,h.2)
 |.lst os,_,fp,h_,k=>by have(a,vs,fs,e,q,r,g):=h_;show(a,vs,fs,e,k _ _ q (.inr (by rw[g];show az)),OTs.frameM f os vs fs r (λb u i hm=>k b u i (hm.imp_right λz=>by rw[g];show bh _ z)),g)
 |.tup os,_,fp,h_,k=>by have(a,vs,e,q,r):=h_;show(a,vs,e,k _ _ q (.inl rfl),OTs.frameM f os vs fp r k)
 |.dic ks os,_,fp,h_,k=>by have(a,vs,fs,e,q,z,r,g):=h_;show(a,vs,fs,e,k _ _ q (.inr (by rw[g];show az)),z,OTs.frameM f os vs fs r (λb u i hm=>k b u i (hm.imp_right λz=>by rw[g];show bh _ z)),g)
 |.ins c ns os,_,fp,h_,k=>by have(a,dx,vs,fs,e,q,z,r,g):=h_;show(a,dx,vs,fs,e,k _ _ q (.inr (by rw[g];show az)),z,OTs.frameM f os vs fs r (λb u i hm=>k b u i (hm.imp_right λz=>by rw[g];show bh _ z)),g)
 |.jnk n,_,fp,h_,k=>by have(a,vs,e,q,z,g):=h_;show(a,vs,e,k _ _ q (.inr (by rw[g];show az)),z,g)
 |.dT ks os,_,fp,h_,k=>by have(a,vs,fs,e,q,z,r,g):=h_;show(a,vs,fs,e,k _ _ q (.inr (by rw[g];show az)),z,OTs.frameM f os vs fs r (λb u i hm=>k b u i (hm.imp_right λz=>by rw[g];show bh _ z)),g)
 |.at _ o,v,fp,h_,k=>by have(e,r):=h_;show(e,OT.frameM f o v fp r k)
 |.any,_,_,h,_=>h
theorem OTs.frameM(f:aq Hf Hf'):∀(os:List O) (vs:LVv) (fp:LAd),OTs G Hf H os vs fp->(∀b u,H b=aa u->(iA u=ac\/b∈fp)->H' b=aa u)->OTs G Hf' H' os vs fp
 | [],_,_,h,_=>h
 |o::os,_,fp,h_,k=>by have(v,r,f1,f2,e,d,h2,a):=h_;show(v,r,f1,f2,e,OT.frameM f o v f1 d (λb u c hm=>k b u c (hm.imp_right λz=>by rw[a];show bT _ z)),OTs.frameM f os r f2 h2 (λb u c hm=>k b u c (hm.imp_right λz=>by rw[a];show cg _ z)),a)
end
variable{Hf':Hp}
def OT.frame{o:O}(h:OT G Hf H o v fp)(f:aq Hf Hf')(k:∀b u,H b=aa u->(iA u=ac\/b∈fp)->H' b=aa u):OT G Hf' H' o v fp:=OT.frameM f o v fp h k
def OT.up{o:O}(h:OT G Hf H o v fp)(f:aq Hf Hf')(s:aq H H'):OT G Hf' H' o v fp:=h.frame f λb u e _=>s b u e
def tX{a b:Type}:∀{ks:List a} {vs us:List b},ks.length=vs.length->ks.length=us.length->ks.zip vs=ks.zip us->vs=us
 | [],[],[],_,_,_=>rfl
 |k::ks,v::vs,u::us,h1,h2,e=>by
  injection e with e1 e2
  injection e1 with _ e3
  rw[e3,tX (by simpa using h1) (by simpa using h2) e2]
 | [],_::_,_,h,_,_=>by cases h
 | [],[],_::_,_,h,_=>by cases h
 | _::_,[],_,h,_,_=>by cases h
 | _::_,_::_,[],_,h,_=>by cases h
mutual
theorem OT.funM:∀(o:O) (v:V) (f p:LAd),OT G Hf H o v f->OT G Hf' H o v p->f=p
 |.fz d,_,_,_,h,h'=>h.2.trans h'.2.symm
 |.lst os,_,_,_,q4_,q5_=>by
  have(a,vs,fs,e,q,r,l):=q4_;have(w,j,g,e',i,m,b):=q5_;subst e l b;cases e';rw[q]at i;cases i
  rw[OTs.funM os vs fs g r m]
 |.tup os,_,f,p,q4_,q5_=>by
  have(a,vs,e,q,r):=q4_;have(w,j,e',i,m):=q5_;subst e;cases e';rw[q]at i;cases i
  show OTs.funM os vs f p r m
 |.dic ks os,_,_,_,q4_,q5_=>by
  have(a,vs,fs,e,q,z,r,l):=q4_;have(w,j,g,e',i,u,m,b):=q5_;subst e l b;cases e';rw[q]at i;have:=tX z u (HO.dK.inj (c9 i));subst this
  rw[OTs.funM os vs fs g r m]
 |.ins c ns os,_,_,_,q4_,q5_=>by
  have(a,dx,vs,fs,e,q,z,r,l):=q4_;have(w,x,j,g,e',i,u,m,b):=q5_;subst e l b;cases e';rw[q]at i;have:=tX z u (HO.ins.inj (c9 i)).2.2;subst this
  rw[OTs.funM os vs fs g r m]
 |.jnk n,_,_,_,q4_,q5_=>by
  have(a,vs,e,q,z,l):=q4_;have(w,j,e',i,u,b):=q5_;subst e l b;cases e'
  rfl
 |.dT ks os,_,_,_,q4_,q5_=>by
  have(a,vs,fs,e,q,z,r,l):=q4_;have(w,j,g,e',i,u,m,b):=q5_;subst e l b;cases e';rw[q]at i;have:=tX z u (HO.dT.inj (c9 i));subst this
  rw[OTs.funM os vs fs g r m]
 |.at _ o,v,f,p,h,h'=>OT.funM o v f p h.2 h'.2
 |.any,_,_,_,h,h'=>(show _=[]from h).trans (show _=[]from h').symm
theorem OTs.funM:∀(os:List O) (vs:LVv) (f i:LAd),OTs G Hf H os vs f->OTs G Hf' H os vs i->f=i
 | [],_,_,_,h,h'=>h.2.trans h'.2.symm
 |o::os,_,_,_,q4_,q5_=>by
  have(v,r,f1,f2,e,l,h2,j):=q4_;have(n,m,b,c,e',d,g,a):=q5_;subst e j a;cases e';rw[OT.funM o v f1 b l d,OTs.funM os r f2 c h2 g]
end
mutual
theorem OT.memM:∀(o:O) (v:V) (f:LAd),OT G Hf H o v f->∀a∈f,∃u,H a=aa u/\iA u=af
 |.fz d,_,_,h,a,ha=>by rw[h.2]at ha;cases ha
 |.lst os,_,_,q3_,b,hb=>by
  have(a,vs,fs,e,q,r,g):=q3_;subst g
  rcases aZ.mp hb with z |z
  .subst z;show(_,q,rfl)
  .show OTs.memM os vs fs r b z
 |.tup os,_,f,(a,vs,e,q,r),b,hb=>OTs.memM os vs f r b hb
 |.dic ks os,_,_,q3_,b,hb=>by
  have(a,vs,fs,e,q,z,r,g):=q3_;subst g
  rcases aZ.mp hb with z |z
  .subst z;show(_,q,rfl)
  .show OTs.memM os vs fs r b z
 |.ins c ns os,_,_,q3_,b,hb=>by
  have(a,dx,vs,fs,e,q,z,r,g):=q3_;subst g
  rcases aZ.mp hb with z |z
  .subst z;show(_,q,rfl)
  .show OTs.memM os vs fs r b z
 |.jnk n,_,_,q3_,b,hb=>by
  have(a,vs,e,q,z,g):=q3_;subst g;rw[bw.mp hb]
  show(_,q,rfl)
 |.dT ks os,_,_,q3_,b,hb=>by
  have(a,vs,fs,e,q,z,r,g):=q3_;subst g
  rcases aZ.mp hb with z |z
  .subst z;show(_,q,rfl)
  .show OTs.memM os vs fs r b z
 |.at _ o,v,f,h,a,ha=>OT.memM o v f h.2 a ha
 |.any,_,_,h,a,ha=>by rw[show _=[]from h]at ha;cases ha
theorem OTs.memM:∀(os:List O) (vs:LVv) (f:LAd),OTs G Hf H os vs f->∀a∈f,∃u,H a=aa u/\iA u=af
 | [],_,_,h,a,ha=>by rw[h.2]at ha;cases ha
 |o::os,_,_,q3_,a,ha=>by
  have(v,r,f1,f2,e,c,h2,b):=q3_;subst b
  rcases bu.mp ha with z |z
  .show OT.memM o v f1 c a z
  .show OTs.memM os r f2 h2 a z
end
mutual
theorem OT.repM(s:aq Hf H):∀(o:O) (v:V) (f:LAd),o.kn=ac->OT G Hf H o v f->Rep G H o.toD v
 |.fz d,_,_,_,h=>by rw[O.toD];show h.1.up s
 |.lst os,_,_,hk,h_=>by have(a,vs,fs,e,q,r,b):=h_;rw[O.kn]at hk;rw[O.toD];show(a,vs,e,q,OTs.repM s os vs fs hk r)
 |.tup os,_,f,hk,h_=>by have(a,vs,e,q,r):=h_;rw[O.kn]at hk;rw[O.toD];show(a,vs,e,q,OTs.repM s os vs f hk r)
 |.dic ks os,_,_,hk,h_=>by have(a,vs,fs,e,q,z,r,b):=h_;rw[O.kn]at hk;rw[O.toD];show(a,vs,e,q,z,OTs.repM s os vs fs hk r)
 |.ins c ns os,_,_,hk,h_=>by have(a,dx,vs,fs,e,q,z,r,b):=h_;rw[O.kn]at hk;rw[O.toD];show(a,dx,vs,e,q,z,OTs.repM s os vs fs hk r)
 |.at _ o,v,f,hk,h=>by rw[O.kn]at hk;rw[O.toD];show OT.repM s o v f hk h.2
 |.jnk _,_,_,hk,_=>by rw[O.kn]at hk;cases hk
 |.dT ks os,_,_,hk,h_=>by have(a,vs,fs,e,q,z,r,b):=h_;rw[O.kn]at hk;rw[O.toD];show(a,vs,e,q,z,OTs.repM s os vs fs hk r)
 |.any,_,_,hk,_=>by rw[O.kn]at hk;cases hk
theorem OTs.repM(s:aq Hf H):∀(os:List O) (vs:LVv) (f:LAd),O.kns os=ac->OTs G Hf H os vs f->am G H (O.toDs os) vs
 | [],_,_,_,h=>by rw[O.toDs];show h.1
 |o::os,_,_,hk,h_=>by
  have(v,r,f1,f2,e,a,h2,b):=h_;rw[O.kns,cB]at hk;rw[O.toDs];show(v,r,e,OT.repM s o v f1 hk.1 a,OTs.repM s os r f2 hk.2 h2)
end
def OT.rep{o:O}{f:LAd}(h:OT G Hf H o v f)(s:aq Hf H)(a:o.kn=ac):Rep G H o.toD v:=OT.repM s o v f a h
def OTs.fz:∀{ds:LD} {vs:LVv},am G Hf ds vs->OTs G Hf H (ds.map .fz) vs []
 | [],_,h=>(h,rfl)
 |d::ds,_,(v,r,e,h1,h2)=>(v,r,[],[],e,(h1,rfl),OTs.fz h2,rfl)
def xX(ds:LD):O.toDs (ds.map .fz)=ds:=by
 induction ds with
 |nil=>rfl
 |cons d ds a=>rw[bF,O.toDs,O.toD,a]
inductive Sl where
 |no
 |im (d:D)
 |own (C:LD)
 |ownd (ks:List Key) (C:LD)
 |obj (c:Str) (ns:LSt) (C:LD)
 |pin (l:Addr) (C:LD)
 |pind (l:Addr) (ks:List Key) (C:LD)
 |pino (l:Addr) (c:Str) (ns:LSt) (C:LD)
 |deep (o:O)
 |val (u:V)
nonrec abbrev LS:=List Sl
nonrec def nZ{a:Type}:LS->Option (List a):=λ_=>aa []
nonrec def kY:LS->Option Bool:=λ_=>aa ac
nonrec def kN:LS->OD:=λ_=>aa .non
nonrec def kI(i:Int):LS->OD:=λ_=>aa (.int i)
nonrec def kSt(x:Str):LS->OD:=λ_=>aa (.str x)
nonrec def kBl(b:Bool):LS->OD:=λ_=>aa (.bl b)
nonrec abbrev MF1:=LS->OD
nonrec abbrev MF2:=LS->OLD
nonrec abbrev MF4:=LS->Option Bool
abbrev Sl.isOwn:Sl->Bool
 |.own _=>ac
 |.ownd _ _=>ac
 |.obj _ _ _=>ac
 |.pin _ _=>ac
 |.pind _ _ _=>ac
 |.pino _ _ _ _=>ac
 | _=>af
abbrev Sl.calm:Sl->Bool
 |.no=>ac
 |.im _=>ac
 | _=>af
abbrev i9(G:Gc)(Hf H:Hp)(l:Addr):Sl->Prop
 |.own ds=>∃vs,H l=aa (.lst vs)/\am G Hf ds vs
 |.ownd ks ds=>∃vs,H l=aa (.dK (ks.zip vs))/\ks.length=vs.length/\am G Hf ds vs
 |.obj c ns ds=>∃dx vs,H l=aa (.ins (G.cl c) dx (ns.zip vs))/\ns.length=vs.length/\am G Hf ds vs
 |.pin a ds=>l=a/\∃vs,H l=aa (.lst vs)/\am G Hf ds vs
 |.pind a ks ds=>l=a/\∃vs,H l=aa (.dK (ks.zip vs))/\ks.length=vs.length/\am G Hf ds vs
 |.pino a c ns ds=>l=a/\∃dx vs,H l=aa (.ins (G.cl c) dx (ns.zip vs))/\ns.length=vs.length/\am G Hf ds vs
 | _=>False
variable{l:Addr}
def i9.there2{s:Sl}(h:i9 G Hf H l s):∃o,H l=aa o/\iA o=af:=by
 cases s with
 |own ds=>have(vs,h,_):=h;show(_,h,rfl)
 |ownd ks ds=>have(vs,h,_):=h;show(_,h,rfl)
 |obj c ns ds=>have(dx,vs,h,_):=h;show(_,h,rfl)
 |pin a ds=>have(_,vs,h,_):=h;show(_,h,rfl)
 |pind a ks ds=>have(_,vs,h,_):=h;show(_,h,rfl)
 |pino a c ns ds=>have(_,dx,vs,h,_):=h;show(_,h,rfl)
 | _=>show h.elim
def i9.up{s:Sl}(h:i9 G Hf H l s)(f:aq Hf Hf')(e:∀o,H l=aa o->H' l=aa o):i9 G Hf' H' l s:=by
 cases s with
 |own ds=>have(vs,h,r):=h;show(vs,e _ h,r.up f)
 |ownd ks ds=>have(vs,h,z,r):=h;show(vs,e _ h,z,r.up f)
 |obj c ns ds=>have(dx,vs,h,z,r):=h;show(dx,vs,e _ h,z,r.up f)
 |pin a ds=>have(q,vs,h,r):=h;show(q,vs,e _ h,r.up f)
 |pind a ks ds=>have(q,vs,h,z,r):=h;show(q,vs,e _ h,z,r.up f)
 |pino a c ns ds=>have(q,dx,vs,h,z,r):=h;show(q,dx,vs,e _ h,z,r.up f)
 | _=>show h.elim
abbrev gE(G:Gc)(H0 Hf H:Hp)(v:Option V):Sl->Prop
 |.no=>True
 |.im d=>∃u,v=aa u/\Rep G Hf d u
 |.deep o=>∃u fp,v=aa u/\OT G Hf H o u fp/\fp.Nodup/\∀a∈fp,H0 a=ab/\Hf a=ab
 |.val u=>v=aa u
 |s=>∃l,v=aa (.ref l)/\H0 l=ab/\Hf l=ab/\i9 G Hf H l s
variable{H0:Hp}
def gE.own{v:Option V}{s:Sl}(a:s.isOwn=ac)(h:gE G H0 Hf H v s):∃l,v=aa (.ref l)/\H0 l=ab/\Hf l=ab/\i9 G Hf H l s:=by
 cases s <;> first |show h |cases a
def gE.ofOwn{v:Option V}{s:Sl}(a:s.isOwn=ac)(h:∃l,v=aa (.ref l)/\H0 l=ab/\Hf l=ab/\i9 G Hf H l s):gE G H0 Hf H v s:=by
 cases s <;> first |show h |cases a
abbrev Holds(G:Gc)(Hf H:Hp)(s:Sl)(v:V)(a:Addr):Prop:=match s with
 |.deep o=>∃fp,OT G Hf H o v fp/\a∈fp
 |s=>s.isOwn=ac/\v=.ref a
def Holds.own{s:Sl}(b:s.isOwn=ac):Holds G Hf H s v a↔v=.ref a:=by
 cases s <;> first |show(λh=>h.2,λh=>(rfl,h)) |nomatch b
def Holds.calm{s:Sl}(h:Holds G Hf H s v a)(b:s.calm=ac):False:=by
 cases s <;> first |show sL h.1 |nomatch b
def gE.back{s:Sl}(q:gE G H0 Hf H (aa v) s)(k:∀o fp,s=.deep o->OT G Hf H o v fp->OT G Hf' H' o v fp)(h:Holds G Hf' H' s v a):Holds G Hf H s v a:=by
 cases s with
 |deep o=>
  have(u,fp,e,r,_):=q;cases e;have(fp',b,ha):=h;have:=OT.funM o v fp fp' (k o fp rfl r) b;subst this
  show(fp,r,ha)
 | _=>show h
def gE.there{s:Sl}(q:gE G H0 Hf H (aa v) s)(h:Holds G Hf H s v a):∃o,H a=aa o/\iA o=af:=by
 cases b:s.isOwn with
 |true=>
  have(l,e,_,_,c):=q.own b;cases e;cases ((Holds.own b).mp h)
  show c.there2
 |false=>
  cases s with
  |deep o=>
   have(fp,r,ha):=h
   show OT.memM o v fp r a ha
  | _=>first |show sL h.1 |nomatch b
structure ar(G:Gc)(Hf0 H0 Hf H:Hp)(E:St)(M:LS):Prop where
 ext:Ext Hf0 H0 Hf H
 len:E.length=M.length
 at':∀(i:Nat) (v:Option V) (s:Sl),E[i]?=aa v->M[i]?=aa s->gE G H0 Hf H v s
 dj:∀(i j:Nat) (s t:Sl) (v w:V) (a:Addr),M[i]?=aa s->M[j]?=aa t->E[i]?=aa (aa v)->E[j]?=aa (aa w)->Holds G Hf H s v a->Holds G Hf H t w a->i=j
variable{Hf0:Hp}{M:LS}
def ar.sub(h:ar G Hf0 H0 Hf H E M):aq Hf H:=h.ext.s
def ar.inj(h:ar G Hf0 H0 Hf H E M)(i j:Nat)(s t:Sl)(l:Addr)(a:M[i]?=aa s)(b:M[j]?=aa t)(e:s.isOwn=ac)(f:t.isOwn=ac)(c:E[i]?=aa (aa (.ref l)))(d:E[j]?=aa (aa (.ref l))):i=j:=
 h.dj i j s t _ _ l a b c d ((Holds.own e).mpr rfl) ((Holds.own f).mpr rfl)
variable{ρ':LS}
def ar.re{d g:Hp}(h:ar G Hf0 H0 Hf H E M)(x:Ext d g Hf' H')(l:ρ'.length=M.length)(ha:∀(i:Nat) (v:Option V) (s:Sl),E[i]?=aa v->ρ'[i]?=aa s->gE G g Hf' H' v s)
 (hd:∀(i:Nat) (s:Sl) (v:V) (a:Addr),ρ'[i]?=aa s->E[i]?=aa (aa v)->Holds G Hf' H' s v a->∃t,M[i]?=aa t/\Holds G Hf H t v a):ar G d g Hf' H' E ρ':=
 (x,h.len.trans l.symm,ha,λi j s t v w a b c e f p q=>by
  have(r,b0,m):=hd i s v a b e p;have(t0,c0,n):=hd j t w a c f q;show h.dj i j r t0 v w a b0 c0 e f m n)
def ar.step(h:ar G Hf0 H0 Hf H E M)(e:Ext Hf H Hf' H'):ar G Hf0 H0 Hf' H' E M:=by
 show h.re (h.ext.trans e) rfl (λi v s a b=>?_) λi s v a b c d=>(s,b,(h.at' i _ s c b).back (λo fp _ r=>r.up e.f e.h) d);have q:=h.at' i v s a b
 cases m:s.isOwn with
 |true=>
  have(l,g,x,y,w):=q.own m;have(o,j,p):=w.there2
  show .ofOwn m (l,g,x,by rw[e.n l o j p];show y,w.up e.f λo j=>e.h _ _ j)
 |false=>
  cases s with
  |no=>trivial
  |im d=>have(u,g,r):=q;show(u,g,r.up e.f)
  |val u=>show q
  |deep o=>
   have(u,fp,g,r,n,z):=q;show(u,fp,g,r.up e.f e.h,n,λa ha=>((z a ha).1,?_));have(A,j,p):=OT.memM o u fp r a ha;rw[e.n a A j p]
   show(z a ha).2
  | _=>nomatch m
def ar.slot{s:Sl}(h:ar G Hf0 H0 Hf H E M)(e:M[i]?=aa s):∃v,E[i]?=aa v/\gE G H0 Hf H v s:=by
 have hi:i<E.length:=by rw[h.len];show(cU.mp e).1
 show(E[i],by simp[hi],h.at' i _ s (by simp[hi]) e)
def ar.imm(h:ar G Hf0 H0 Hf H E M)(e:M[i]?=aa (.im d)):∃v,E[i]?=aa (aa v)/\Rep G Hf d v:=by
 have(v,a,u,b,r):=h.slot e;subst b;show(u,a,r)
def ar.ownAt{s:Sl}(c:s.isOwn=ac)(h:ar G Hf0 H0 Hf H E M)(e:M[i]?=aa s):∃l,E[i]?=aa (aa (.ref l))/\H0 l=ab/\Hf l=ab/\i9 G Hf H l s:=by
 have(v,a,q):=h.slot e;have(l,b,d):=q.own c;rw[b]at a;show(l,a,d)
variable{j:Nat}
def cR{b:Type}{l:List b}{x y:b}(h:(l.set i x)[j]?=aa y):(j=i/\y=x/\i<l.length)\/(j≠i/\l[j]?=aa y):=by
 by_cases a:j=i
 .subst a;left;have hi:j<l.length:=by have:=(cU.mp h).1;simpa using this
  rw[jV hi]at h;show(rfl,(c9 h).symm,hi)
 .right;rw[kK (eG a)]at h;show(a,h)
def ar.setIm(h:ar G Hf0 H0 Hf H E M)(r:Rep G Hf d v):ar G Hf0 H0 Hf H (E.set i (aa v)) (M.set i (.im d)):=by
 show(h.ext,by simpa using h.len,λj u s a b=>?_,λj k s t u w l a b c d' p q=>?_)
 .rcases cR b with⟨e,e',_⟩ |⟨e,b⟩
  .subst e e'
   rcases cR a with⟨_,e',_⟩ |⟨e,_⟩
   .subst e';show(v,rfl,r)
   .show absurd rfl e
  .rcases cR a with⟨e',_⟩ |⟨_,a⟩
   .show absurd e' e
   .show h.at' j u s a b
 .rcases cR a with⟨e,e',_⟩ |⟨e,a⟩
  .subst e';show(p.calm rfl).elim
  .rcases cR b with⟨f,e',_⟩ |⟨f,b⟩
   .subst e';show(q.calm rfl).elim
   .rcases cR c with⟨e',_⟩ |⟨_,c⟩
    .show absurd e' e
    .rcases cR d' with⟨e',_⟩ |⟨_,d'⟩
     .show absurd e' f
     .show h.dj j k s t u w l a b c d' p q
def ar.setNo(h:ar G Hf0 H0 Hf H E M):ar G Hf0 H0 Hf H E (M.set i .no):=by
 show h.re h.ext (by simp) (λj u s a b=>?_) λj s v a b c d=>?_
 .rcases cR b with⟨e,e',_⟩ |⟨e,b⟩
  .subst e';trivial
  .show h.at' j u s a b
 .rcases cR b with⟨e,e',_⟩ |⟨e,b⟩
  .subst e';show(d.calm rfl).elim
  .show(s,b,d)
variable{u:V}
def ar.setNew{s:Sl}(h:ar G Hf0 H0 Hf H E M)(e:Ext Hf H Hf' H')(n:gE G H0 Hf' H' (aa u) s)(hn:∀a,Holds G Hf' H' s u a->H a=ab):
  ar G Hf0 H0 Hf' H' (E.set i (aa u)) (M.set i s):=by
 have h':=h.step e
 have no:∀j t w a,M[j]?=aa t->E[j]?=aa _->Holds G Hf' H' t w a->Holds G Hf' H' s u a->False:=λj t w a b c p q=>by
  have(o,n,_):=(h.at' j _ t c b).there ((h.at' j _ t c b).back (λo fp _ r=>r.up e.f e.h) p);rw[hn a q]at n;nomatch n
 show(h'.ext,by simpa using h.len,λj w t a b=>?_,λj k t t' v w l a b c d' p q=>?_)
 .rcases cR b with⟨e,e',_⟩ |⟨e,b⟩
  .subst e e'
   rcases cR a with⟨_,e',_⟩ |⟨e,_⟩
   .subst e';show n
   .show absurd rfl e
  .rcases cR a with⟨e',_⟩ |⟨_,a⟩
   .show absurd e' e
   .show h'.at' j w t a b
 .rcases cR a with⟨m,x,_⟩ |⟨m,a⟩
  .rcases cR b with⟨d,g,_⟩ |⟨d,b⟩
   .rw[m,d]
   .rcases cR c with⟨_,e',_⟩ |⟨e',_⟩
    .cases e';rw[x]at p
     rcases cR d' with⟨e',_⟩ |⟨_,d'⟩
     .show absurd e' d
     .show(no k t' w l b d' q p).elim
    .show absurd m e'
  .rcases cR c with⟨e',_⟩ |⟨_,c⟩
   .show absurd e' m
   .rcases cR b with⟨d,g,_⟩ |⟨d,b⟩
    .rcases cR d' with⟨_,e',_⟩ |⟨e',_⟩
     .cases e';rw[g]at q;show(no j t v l a c p q).elim
     .show absurd d e'
    .rcases cR d' with⟨e',_⟩ |⟨_,d'⟩
     .show absurd e' d
     .show h'.dj j k t t' v w l a b c d' p q
def ar.setOwn{s:Sl}(b:s.isOwn=ac)(h:ar G Hf0 H0 Hf H E M)(e:Ext Hf H Hf' H')(hn:H l=ab)(c:Hf' l=ab)(d:i9 G Hf' H' l s):
  ar G Hf0 H0 Hf' H' (E.set i (aa (.ref l))) (M.set i s):=
 h.setNew e (.ofOwn b (l,rfl,h.ext.h.free hn,c,d)) λa p=>by cases (Holds.own b).mp p;show hn
def ar.chg{s s':Sl}(h:ar G Hf0 H0 Hf H E M)(e:M[i]?=aa s)(el:E[i]?=aa (aa v))(k:∀b u,H b=aa u->Holds G Hf H s v b\/H' b=aa u)(ho:gE G H0 Hf H' (aa v) s')
 (hh:∀a,Holds G Hf H' s' v a->Holds G Hf H s v a\/∀(j:Nat) (t:Sl) (w:V),M[j]?=aa t->E[j]?=aa (aa w)->Holds G Hf H t w a->False):ar G Hf0 H0 Hf H' E (M.set i s'):=by
 have q:=h.at' i _ s el e
 have m:∀b,Holds G Hf H s v b->H0 b=ab/\Hf b=ab:=λb p=>by
  cases hs:s.isOwn with
  |true=>
   have(l,J,h0,hf,_):=q.own hs;have A:=(Holds.own hs).mp p;cases J;cases A
   show(h0,hf)
  |false=>
   cases s with
   |deep o=>
    have(u,fp,J,r,n,z):=q;cases J;have(fp',r',ha):=p;have:=OT.funM o v fp fp' r r';subst this
    show z b ha
   | _=>first |show sL p.1 |nomatch hs
 have fr:∀j t w,j≠i->M[j]?=aa t->E[j]?=aa (aa w)->∀o fp,t=.deep o->OT G Hf H o w fp->OT G Hf H' o w fp:=λj t w hj b c o fp et r=>by
  subst et;show r.frame (aq.refl _) λx u hx hm=>?_
  rcases k x u hx with z |z
  .rcases hm with hm |hm
   .have(o',g,L):=q.there z;rw[hx]at g;cases g;rw[hm]at L
    nomatch L
   .show absurd (h.dj j i _ s w v x b e c el (fp,r,hm) z) hj
  .show z
 show((h.ext.f,λb u e=>?_,λb u e=>?_,h.ext.n),by simpa using h.len,λj u t a b=>?_,λj T t t' w Y a b c b' N p p'=>?_)
 .rcases k b u (h.ext.h b u e)with z |z
  .rw[(m b z).1]at e;nomatch e
  .show z
 .rcases k b u (h.ext.s b u e)with z |z
  .rw[(m b z).2]at e;nomatch e
  .show z
 .rcases cR b with⟨e',A,_⟩ |⟨en,b⟩
  .subst e' A;rw[el]at a;cases a;show ho
  .have U:=h.at' j u t a b
   cases Q:t.isOwn with
   |false=>
    cases t with
    |no=>trivial
    |im d=>show U
    |val u=>show U
    |deep o=>
     have(w,fp,J,r,n,z):=U;subst J
     show(w,fp,rfl,fr j _ w en b a o fp rfl r,n,z)
    | _=>nomatch Q
   |true=>
    have(l2,A,e3,e4,q2):=U.own Q;subst A;show .ofOwn Q (l2,rfl,e3,e4,q2.up (aq.refl _) λo' g=>?_)
    rcases k l2 o' g with z |z
    .show absurd (h.dj j i t s _ v l2 b e a el ((Holds.own Q).mpr rfl) z) en
    .show z
 .have B:∀j t w,_[j]?=aa t->E[j]?=aa (aa w)->Holds G Hf H' t w a->(j=i/\∀j t w,M[j]?=aa t->E[j]?=aa (aa w)->Holds G Hf H t w a->False)\/∃t0,M[j]?=aa t0/\Holds G Hf H t0 w a:=λj t w b y p=>by
   rcases cR b with⟨e',A,_⟩ |⟨en,b⟩
   .rw[A]at p;rw[e',el]at y;cases y;rw[e']
    rcases hh a p with z |z
    .show .inr (s,e,z)
    .show .inl (rfl,z)
   .show .inr (t,b,(h.at' j _ t y b).back (fr j t w en b y) p)
  rcases B j t w b b' p with⟨z1,z2⟩ |⟨t0,z1,z2⟩
  .rcases B T t' Y c N p' with⟨C,I⟩ |⟨t1,C,I⟩
   .rw[z1,C]
   .show(z2 T t1 Y C N I).elim
  .rcases B T t' Y c N p' with⟨C,I⟩ |⟨t1,C,I⟩
   .show(I j t0 w z1 b' z2).elim
   .show h.dj j T t0 t1 w Y a z1 C b' N z2 I
def ar.chgX{s l:Sl}(h:ar G Hf0 H0 Hf H E M)(x:Ext Hf H Hf' H1)(e:M[i]?=aa s)(el:E[i]?=aa (aa v))(k:∀b u,H1 b=aa u->Holds G Hf H s v b\/H' b=aa u)(d:gE G H0 Hf' H' (aa v) l)
 (m:∀a,Holds G Hf' H' l v a->Holds G Hf H s v a\/H a=ab):ar G Hf0 H0 Hf' H' E (M.set i l):=by
 have up:∀b,Holds G Hf H s v b->Holds G Hf' H1 s v b:=λb p=>by
  cases s with
  |deep o=>have(fp,r,g):=p;show(fp,r.up x.f x.h,g)
  | _=>show p
 show(h.step x).chg e el (λb u g=>(k b u g).imp_left (up b)) d λa p=>?_
 rcases m a p with z |z
 .show .inl (up a z)
 .show .inr λj t w b c q=>?_;have(o,d,_):=(h.at' j _ t c b).there ((h.at' j _ t c b).back (λo fp _ r=>r.up x.f x.h) q);rw[z]at d
  nomatch d
def ar.mutd{s f:Sl}{o:HO}(d:s.isOwn=ac)(c:f.isOwn=ac)(h:ar G Hf0 H0 Hf H E M)(e:M[i]?=aa s)(el:E[i]?=aa (aa (.ref l)))(v:i9 G Hf (upd H l o) l f):
  ar G Hf0 H0 Hf (upd H l o) E (M.set i f):=by
 have(w,g,m,r,q):=h.ownAt d e;rw[el]at g;cases g;show h.chg e el (λb u n=>?_) (.ofOwn c (l,rfl,m,r,v)) λa p=>.inl ((Holds.own d).mpr ((Holds.own c).mp p))
 by_cases j:b=l
 .subst j;show .inl ((Holds.own d).mpr rfl)
 .show .inr (by rw[aK j];show n)
def ar.fixd{s:Sl}{o:HO}(B:s.isOwn=ac)(h:ar G Hf0 H0 Hf H E M)(e:M[i]?=aa s)(el:E[i]?=aa (aa (.ref l)))(U:H l=aa o)(hr:Rep G (upd Hf l o) d (.ref l)):
  ar G Hf0 H0 (upd Hf l o) H E (M.set i (.im d)):=by
 have(l',f,T,g,q):=h.ownAt B e;rw[el]at f;cases f;show h.re (h.ext.fix T g U) (by simp) (λj u t a b=>?_) λj t v a b c p=>?_
 .rcases cR b with⟨e,e',_⟩ |⟨en,b⟩
  .subst e e';rw[el]at a;cases a;show(_,rfl,hr)
  .have q:=h.at' j u t a b
   cases m:t.isOwn with
   |false=>
    cases t with
    |no=>trivial
    |im d=>have(J,f,r):=q;show(J,f,r.up (bP g))
    |val J=>show q
    |deep o=>
     have(w,fp,f,r,n,z):=q;subst f;show(w,fp,rfl,r.up (bP g) (aq.refl _),n,λx C=>((z x C).1,?_));rw[aK (λy=>?_)]
     .show(z x C).2
     .subst y
      show en (h.dj j i _ s w _ x b e a el (fp,r,C) ((Holds.own B).mpr rfl))
    | _=>nomatch m
   |true=>
    have(I,L,N,Q,Y):=q.own m;subst L;show .ofOwn m (I,rfl,N,?_,Y.up (bP g) λo' A=>A);rw[aK (λz=>?_)]
    .show Q
    .subst z;show en (h.inj j i t s I b e m B a el)
 .rcases cR b with⟨_,e',_⟩ |⟨_,b⟩
  .subst e';show(p.calm rfl).elim
  .show(t,b,(h.at' j _ t c b).back (λo fp _ r=>r.up (bP g) (aq.refl _)) p)
def PE.imp{t':TE}(h:PE X e t)(i:∀E H Q,t' E H Q->t E H Q):PE X e t':=λU s E H Q I q=>h U s E H Q I (i E H Q q)
variable{t':TT}
def PT.imp{t:TT}(h:PT X e t)(i:∀E H Q,t' E H Q->t E H Q):PT X e t':=λU s E H Q I q=>h U s E H Q I (i E H Q q)
def PW.imp{t:TT}(h:PW X e t)(i:∀E H Q,t' E H Q->t E H Q):PW X e t':=λwh U s E H Q I q=>h wh U s E H Q I (i E H Q q)
variable{es:LEx}
def PA.imp{t t':TA}(h:PA X es t)(i:∀E H Q,t' E H Q->t E H Q):PA X es t':=λpos U s E H Q I q=>h pos U s E H Q I (i E H Q q)
def PS.imp{st:Stmt}{t t':TS}(h:PS X st t)(i:∀V4 E H,t' V4 E H->t V4 E H):PS X st t':=λU s E H V4 I q=>h U s E H V4 I (i V4 E H q)
def PSs.imp{st:List Stmt}{t t':TS}(h:PSs X st t)(i:∀V4 E H,t' V4 E H->t V4 E H):PSs X st t':=λU s E H V4 I q=>h U s E H V4 I (i V4 E H q)
def PG.imp{t t':TG}(h:PG X e t)(i:∀v E H Q,t' v E H Q->t v E H Q):PG X e t':=λU s E H v u Q I r q=>h U s E H v u Q I r (i v E H Q q)
def PGs.imp{t t':TGs}(h:PGs X es t)(i:∀v E H Q,t' v E H Q->t v E H Q):PGs X es t':=λU s E H v u Q I r q=>h U s E H v u Q I r (i v E H Q q)
def PI.imp{t t':TI}(h:PI X tg e t)(i:∀E H R,t' E H R->t E H R):PI X tg e t':=λU s E H R I q=>h U s E H R I (i E H R q)
def PTs.imp{t:TT}(h:PTs X c3 t)(i:∀E H Q,t' E H Q->t E H Q):PTs X c3 t':=λU s E H Q I q=>h U s E H Q I (i E H Q q)
def OpR.imp{f:Value->Value->Sem Value}{r a:R2}(h:OpR X f r)(i:∀x y H Q,a x y H Q->r x y H Q):OpR X f a:=λU s E H x y v u Q I b c q=>h U s E H x y v u Q I b c (i x y H Q q)
def iy.imp{f:Value}{r a:LVv->Hp->VK->Prop}(h:iy X f r)(i:∀C H Q,a C H Q->r C H Q):iy X f a:=λU s E H C us Q I b q=>h U s E H C us Q I b (i C H Q q)
nonrec def Gx(c:Str->Addr)(X:Cx):Gc:=(X.K,c)
inductive tD(G:Gc)(f:MF1)(E:St)(H:Hp)(Q:VK):Prop
 |mk:∀Hf0 H0 Hf M d,ar G Hf0 H0 Hf H E M->f M=aa d->(∀v Hf' H',Ext Hf H Hf' H'->Rep G Hf' d v->Q v H')->tD G f E H Q
inductive tDB(G:Gc)(f:MF1)(E:St)(H:Hp)(Q:VK):Prop
 |mk:∀Hf0 H0 Hf M d,ar G Hf0 H0 Hf H E M->f M=aa d->(∀v Hf' H',Ext Hf H Hf' H'->Rep G H' d v->Q v H')->tDB G f E H Q
inductive tDC(G:Gc)(f:MF2)(E:St)(H:Hp)(Q:VK):Prop
 |mk:∀Hf0 H0 Hf M ds,ar G Hf0 H0 Hf H E M->f M=aa ds->(∀a vs Hf' H',Ext Hf H Hf' H'->(SqL G.K H' a vs\/SqT G.K H' a vs)->am G Hf' ds vs->Q (.ref a) H')->tDC G f E H Q
inductive tDO(G:Gc)(f:MF2)(E:St)(H:Hp)(Q:VK):Prop
 |mk:∀Hf0 H0 Hf M ds,ar G Hf0 H0 Hf H E M->f M=aa ds->(∀l vs Hf' H',Ext Hf H Hf' H'->H l=ab->Hf' l=ab->H' l=aa (.lst vs)->am G Hf' ds vs->Q (.ref l) H')->tDO G f E H Q
inductive tDA(G:Gc)(f:MF2)(E:St)(H:Hp)(Q:LVv->Hp->Prop):Prop
 |mk:∀Hf0 H0 Hf M ds,ar G Hf0 H0 Hf H E M->f M=aa ds->(∀vs Hf' H',Ext Hf H Hf' H'->am G Hf' ds vs->Q vs H')->tDA G f E H Q
inductive EW(G:Gc)(f:MF2)(E:St)(H:Hp)(Q:LVv->Hp->Prop):Prop
 |mk:∀Hf0 H0 Hf M ds,ar G Hf0 H0 Hf H E M->f M=aa ds->(∀vs Hf' H',Ext Hf H Hf' H'->am G H' ds vs->Q vs H')->EW G f E H Q
inductive tDT(G:Gc)(f:MF4)(E:St)(H:Hp)(Q:Bool->Hp->Prop):Prop
 |mk:∀Hf0 H0 Hf M b,ar G Hf0 H0 Hf H E M->f M=aa b->(∀Hf' H',Ext Hf H Hf' H'->Q b H')->tDT G f E H Q
abbrev DE(c:Str->Addr)(X:Cx)(e:Expr)(f:MF1):Prop:=PE X e (tD (Gx c X) f)
abbrev DB(c:Str->Addr)(X:Cx)(e:Expr)(f:MF1):Prop:=PE X e (tDB (Gx c X) f)
abbrev DC(c:Str->Addr)(X:Cx)(e:Expr)(f:MF2):Prop:=PE X e (tDC (Gx c X) f)
abbrev DO(c:Str->Addr)(X:Cx)(e:Expr)(f:MF2):Prop:=PE X e (tDO (Gx c X) f)
structure DA(c:Str->Addr)(X:Cx)(es:LEx)(f:MF2):Prop where
 pa:PA X es (tDA (Gx c X) f)
 len:∀M ds,f M=aa ds->ds.length=es.length
structure DAB(c:Str->Addr)(X:Cx)(es:LEx)(f:MF2):Prop where
 pa:PA X es (EW (Gx c X) f)
 len:∀M ds,f M=aa ds->ds.length=es.length
abbrev DT(c:Str->Addr)(X:Cx)(e:Expr)(f:MF4):Prop:=PT X e (tDT (Gx c X) f)
abbrev DW(c:Str->Addr)(X:Cx)(e:Expr)(f:MF4):Prop:=PW X e (tDT (Gx c X) f)
abbrev D.scalar:D->Bool
 |.non=>ac
 |.bl _=>ac
 |.int _=>ac
 |.str _=>ac
 | _=>af
def Rep.sc(a:d.scalar=ac)(r:Rep G H d v):Rep G H' d v:=by
 cases d <;> first |show r |cases a
abbrev iB:D->OLD
 |.lst C=>aa C
 |.tup C=>aa C
 |.kl C=>aa C
 |.kt C=>aa C
 | _=>ab
def qC(e:iB d=aa ds)(r:Rep G H d v):∃a vs,v=.ref a/\(SqL G.K H a vs\/SqT G.K H a vs)/\am G H ds vs:=by
 cases d with
 |lst C=>cases e;have(a,vs,b,q,r):=r;show(a,vs,b,.inl (SqL.of q),r)
 |tup C=>cases e;have(a,vs,b,q,r):=r;show(a,vs,b,.inr (SqT.of q),r)
 |kl C=>cases e;have(a,vs,b,q,r):=r;show(a,vs,b,.inl q,r)
 |kt C=>cases e;have(a,vs,b,q,r):=r;show(a,vs,b,.inr q,r)
 | _=>nomatch e
def xY(s:aq H H')(h:SqL K H a vs\/SqT K H a vs):SqL K H' a vs\/SqT K H' a vs:=h.imp s.seq s.tup
abbrev aO(f:MF2)(M:LS):OD:=(f M).map .lst
abbrev bn(f:MF2)(M:LS):OD:=(f M).map .tup
abbrev aV(f:MF1)(M:LS):OLD:=(f M).bind iB
abbrev be(f g:MF1)(M:LS):OD:=(f M).or (g M)
variable{c:Str->Addr}{f:MF1}
def DE.db(h:DE c X e f):DB c X e f:=PE.imp h λE H Q b=>by
 have(Hf0,H0,Hf,M,d,st,a,k):=b;show((Hf0,H0,Hf,M,d,st,a,λv Hf' H' x r=>k v Hf' H' x (r.up x.s)))
def DE.dc(h:DE c X e f):DC c X e (aV f):=PE.imp h λE H Q j=>by
 have(Hf0,H0,Hf,M,ds,st,b,k):=j;unfold aV at b
 cases g:f M with
 |none=>rw[g]at b;nomatch b
 |some d=>
  rw[g]at b;show(Hf0,H0,Hf,M,d,st,g,λv Hf' H' x r=>?_);have(a,vs,i,q,L):=qC b r;subst i;show k a vs Hf' H' x (xY x.s q) L
def DO.de{f:MF2}(h:DO c X e f):DE c X e (aO f):=PE.imp h λE H Q j=>by
 have(Hf0,H0,Hf,M,d,st,a,k):=j;unfold aO at a
 cases b:f M with
 |none=>rw[b]at a;nomatch a
 |some ds=>
  rw[b]at a;have a:=c9 a;subst a;show(Hf0,H0,Hf,M,ds,st,b,λl vs Hf' H' x hn g i r=>k _ _ H' (x.fix hn g i) (l,vs,rfl,a8,r.up (bP g)))
def DO.dc{f:MF2}(h:DO c X e f):DC c X e f:=PE.imp h λE H Q d=>by
 have (Hf0,H0,Hf,M,ds,st,a,k):=d;show (
 (Hf0,H0,Hf,M,ds,st,a,λl vs Hf' H' x hn g b r=>k l vs Hf' H' x (.inl (SqL.of b)) r))
def DE.orE{g:MF1}(h:DE c X e f)(h':DE c X e g):DE c X e (be f g):=λU s E H Q I i=>by
 have(Hf0,H0,Hf,M,d,st,a,k):=i;unfold be at a
 cases b:f M with
 |some d'=>
  rw[b]at a;cases a
  show h U s E H Q I (Hf0,H0,Hf,M,_,st,b,k)
 |none=>
  rw[b]at a;show h' U s E H Q I (Hf0,H0,Hf,M,d,st,a,k)
abbrev ae(i:Nat)(M:LS):OD:=match M[i]? with
 |some (.im d)=>aa d
 | _=>ab
abbrev cF(i:Nat)(M:LS):OD:=match M[i]? with
 |some (.im d)=>aa d
 |some (.own C)=>aa (.lst C)
 |some (.ownd ks C)=>aa (.dic ks C)
 |some (.deep o)=>if o.kn then aa o.toD else ab
 | _=>ab
abbrev aw(i:Nat)(M:LS):OLD:=match M[i]? with
 |some (.im d)=>iB d
 |some (.own C)=>aa C
 | _=>ab
def EX(h:ae i M=aa d):M[i]?=aa (.im d):=by
 unfold ae at h
 grind
def EY(h:PE X e (cQ i)):DE c X e (ae i):=PE.imp h λE H Q f=>by
 have(Hf0,H0,Hf,M,d,st,b,k):=f;have(v,a,r):=st.imm (EX b);show(v,a,k v Hf H (Ext.refl st.sub) r)
def EZ(h:PE X e (cQ i)):DC c X e (aw i):=PE.imp h λE H Q j=>by
 have(Hf0,H0,Hf,M,ds,st,b,k):=j;unfold aw at b
 cases es:M[i]? with
 |none=>rw[es]at b;nomatch b
 |some s=>
  rw[es]at b
  cases s with
  |im d=>
   have(v,f,r):=st.imm es;have(a,vs,g,q,L):=qC b r;subst g
   show(_,f,k a vs Hf H (Ext.refl st.sub) (xY st.sub q) L)
  |own C=>
   cases b;have(l,f,_,_,vs,q,r):=st.ownAt rfl es
   show(_,f,k l vs Hf H (Ext.refl st.sub) (.inl (SqL.of q)) r)
  | _=>nomatch b
def E3(h:PE X e (cQ i)):DB c X e (cF i):=PE.imp h λE H Q j=>by
 have(Hf0,H0,Hf,M,d,st,a,k):=j;unfold cF at a
 cases es:M[i]? with
 |none=>simp only[es]at a;nomatch a
 |some s=>
  rw[es]at a
  cases s with
  |im d=>
   cases a;have(v,b,r):=st.imm es
   show(_,b,k v Hf H (Ext.refl st.sub) (r.up st.sub))
  |own C=>
   cases a;have(l,b,_,_,vs,q,r):=st.ownAt rfl es
   show(_,b,k _ Hf H (Ext.refl st.sub) (l,vs,rfl,q,r.up st.sub))
  |ownd ks C=>
   cases a;have(l,b,_,_,vs,q,z,r):=st.ownAt rfl es
   show(_,b,k _ Hf H (Ext.refl st.sub) (l,vs,rfl,q,z,r.up st.sub))
  |deep o=>
   replace a:(if o.kn=ac then aa o.toD else ab)=aa d:=a;split at a
   .rename_i g;cases a;have(v,b,u,fp,f,r,_):=st.slot es;subst f;show(_,b,k _ Hf H (Ext.refl st.sub) (r.rep st.sub g))
   .nomatch a
  | _=>nomatch a
def tY(h:PE X e (tC v))(r:∀G H,Rep G H d v):DE c X e (λ_=>aa d):=PE.imp h λE H Q b=>by
 have(Hf0,H0,Hf,M,d',st,a,k):=b;cases a;show k v Hf H (Ext.refl st.sub) (r _ _)
def E4{i:Int}{j}:DE c X (.Constant (.int i) j pos) (λ_=>aa (.int i)):=tY D4 λ_ _=>rfl
def E5{i:Bool}{j}:DE c X (.Constant (.bool i) j pos) (λ_=>aa (.bl i)):=tY Kd λ_ _=>rfl
def MS{j}:DE c X (.Constant .none j pos) kN:=tY Ke λ_ _=>rfl
def MT{i:Str}{j}:DE c X (.Constant (.str i) j pos) (λ_=>aa (.str i)):=tY Kf λ_ _=>rfl
def dv(i:Nat)(b:X.N[i]?=aa x:=by rfl)(hv:Vis X.env.scope x:=by first |exact bX rfl |exact bA (bX rfl) |exact bA (bA rfl))(hd:NDb x:=by decide)
 (a:NCd x:=by decide):DE c X (.Name x pos) (ae i):=EY (mD b hv hd a)
def dvC(i:Nat)(b:X.N[i]?=aa x:=by rfl)(hv:Vis X.env.scope x:=by first |exact bX rfl |exact bA (bX rfl) |exact bA (bA rfl))(hd:NDb x:=by decide)
 (a:NCd x:=by decide):DC c X (.Name x pos) (aw i):=EZ (mD b hv hd a)
def dvB(i:Nat)(b:X.N[i]?=aa x:=by rfl)(hv:Vis X.env.scope x:=by first |exact bX rfl |exact bA (bX rfl) |exact bA (bA rfl))(hd:NDb x:=by decide)
 (a:NCd x:=by decide):DB c X (.Name x pos) (cF i):=E3 (mD b hv hd a)
abbrev ag(f:MF1)(g:MF2)(M:LS):OLD:=(f M).bind λd=>(g M).map λds=>d::ds
variable{g:MF2}
def tZ(h:ag f g M=aa ds):∃d r,f M=aa d/\g M=aa r/\ds=d::r:=by
 unfold ag at h
 cases a:f M with
 |none=>rw[a]at h;nomatch h
 |some d=>
  cases b:g M with
  |none=>rw[a,b]at h;nomatch h
  |some r=>rw[a,b]at h;cases h;show(d,r,rfl,rfl,rfl)
def MU:DA c X [] nZ:=(PA.imp dZ λE H Q b=>by have(Hf0,H0,Hf,M,ds,st,a,k):=b;cases a;show k [] Hf H (Ext.refl st.sub) rfl,λM ds h=>by cases h;rfl)
def xZ(ha:DE c X e f)(hr:DA c X es g)(m:StE X e es:=by rfl):DA c X (e::es) (ag f g):=by
 show(PA.imp (eO ha hr.pa m) λE H Q n=>?_,λM ds h=>?_)
 .have(Hf0,H0,Hf,M,ds,st,l,k):=n;have(d,r,b,a,rfl):=tZ l;show(Hf0,H0,Hf,M,d,st,b,λv b3 H1 i p=>(Hf0,H0,b3,M,r,st.step i,a,λvs bm H2 j q=>k _ bm H2 (i.trans j) (.cons (p.up j.f) q)))
 .have(d,r,b,a,rfl):=tZ h;simp[hr.len M r a]
def MV:DAB c X [] nZ:=(PA.imp dZ λE H Q b=>by have(Hf0,H0,Hf,M,ds,st,a,k):=b;cases a;show k [] Hf H (Ext.refl st.sub) rfl,λM ds h=>by cases h;rfl)
def qE(ha:DB c X e f)(hr:DAB c X es g)(m:StE X e es:=by rfl):DAB c X (e::es) (ag f g):=by
 show(PA.imp (eO ha hr.pa m) λE H Q n=>?_,λM ds h=>?_)
 .have(Hf0,H0,Hf,M,ds,st,l,k):=n;have(d,r,b,a,rfl):=tZ l;show(Hf0,H0,Hf,M,d,st,b,λv b3 H1 i p=>(Hf0,H0,b3,M,r,st.step i,a,λvs bm H2 j q=>k _ bm H2 (i.trans j) (.cons (p.up j.h) q)))
 .have(d,r,b,a,rfl):=tZ h;simp[hr.len M r a]
def MW{f:MF2}(h:DA c X es f)(hz:es.length<=1000:=by exact Nat.le_of_ble_eq_true rfl):DO c X (.List es pos) f:=PE.imp (tP h.pa) λE H Q d=>by
 have (Hf0,H0,Hf,M,ds,st,b,k):=d;show (
 (Hf0,H0,Hf,M,ds,st,b,λvs Hf' H' x r=>(by
  rw[<- r.length,h.len M ds b];show fj (EG hz),λp a=>k p vs Hf' _ (x.trans (Ext.tmp x.s a)) (x.h.free a) (x.s.free a) a8 r)))
def E6{f:MF2}{g:Nat}(h:DA c X es f)(hz:es.length<=1000:=by exact Nat.le_of_ble_eq_true rfl):DE c X (.Tuple es g pos) (bn f):=PE.imp (LK h.pa) λE H Q i=>by
 have(Hf0,H0,Hf,M,d,st,a,k):=i;unfold bn at a
 cases b:f M with
 |none=>rw[b]at a;nomatch a
 |some ds=>
  rw[b]at a;have a:=c9 a;subst a
  show(Hf0,H0,Hf,M,ds,st,b,λvs Hf' H' x r=>(by
   rw[<- r.length,h.len M ds b];show fj (EG hz),λp e=>k _ _ _ (x.trans (Ext.new x.s e)) (p,vs,rfl,a8,r.up (bP (x.s.free e)))))
abbrev rD(G:Gc)(m:D->D->OD):R2:=λa b H Q=>∃Hf x y d,aq Hf H/\Rep G Hf x a/\Rep G Hf y b/\m x y=aa d/\∀v Hf' H',Ext Hf H Hf' H'->Rep G Hf' d v->Q v H'
nonrec abbrev OpD(c:Str->Addr)(X:Cx)(f:Value->Value->Sem Value)(m:D->D->OD):Prop:=OpR X f (rD (Gx c X) m)
abbrev m2(m:D->D->OD)(f g:MF1)(M:LS):OD:=(f M).bind λx=>(g M).bind λy=>m x y
variable{m:D->D->OD}{g:MF1}
def mL(h:m2 m f g M=aa d):∃x y,f M=aa x/\g M=aa y/\m x y=aa d:=by
 unfold m2 at h
 cases a:f M with
 |none=>rw[a]at h;nomatch h
 |some x=>
  cases b:g M with
  |none=>rw[a,b]at h;nomatch h
  |some y=>rw[a,b]at h;show(x,y,rfl,rfl,h)
variable{r:R2}
def two(hr:∀x y H Q,rD (Gx c X) m x y H Q->r x y H Q)(h:tD (Gx c X) (m2 m f g) E H Q):tOp r (tD (Gx c X) f) (tD (Gx c X) g) E H Q:=by
 have(Hf0,H0,Hf,M,d,st,p,k):=h;have(x,y,j,l,n):=mL p;show(Hf0,H0,Hf,M,x,st,j,λv b3 H1 e q=>(Hf0,H0,b3,M,y,st.step e,l,λu bm H2 b z=>hr _ _ _ _ (bm,x,y,d,b.s,q.up b.f,z,n,λw a i B A=>k w a i ((e.trans b).trans B) A)))
def E7(hr:∀x y H Q,rD (Gx c X) m x y H Q->r x y H Q)(q:∀x y d,m x y=aa d->d.scalar=ac)(h:tD (Gx c X) (m2 m f g) E H Q):tOp r (tDB (Gx c X) f) (tDB (Gx c X) g) E H Q:=by
 have(Hf0,H0,Hf,M,d,st,p,k):=h;have(x,y,l,n,b):=mL p
 show(Hf0,H0,Hf,M,x,st,l,λv b3 H1 e z=>(Hf0,H0,b3,M,y,st.step e,n,λu bm H2 a A=>hr _ _ _ _ (H2,x,y,d,aq.refl _,z.up a.h,A,b,λw j i C B=>
  k w bm i ((e.trans a).trans (Ext.grow a.s C.h)) (B.sc (q _ _ _ b)))))
variable{a b:Expr}
def x6{op:Operator}(e:OpD c X (fL op) m)(ha:DE c X a f)(d:DE c X b g):DE c X (.BinOp a op b pos) (m2 m f g):=
 PE.imp (Eb e ha d) λ_ _ _ h=>two (λ_ _ _ _ h=>h) h
variable{op:CmpOp}
def MX(i:OpD c X (cW op) m)(j:∀x y d,m x y=aa d->d.scalar=ac)(ha:DB c X a f)(e:DB c X b g)(hm:kU op b=af:=by first |exact Ee _ |rfl):
  DE c X (.Compare a [op] [b] pos) (m2 m f g):=PE.imp (Lh i ha e hm) λ_ _ _ h=>E7 (λ_ _ _ _ h=>h) j h
abbrev mB(f:MF1)(M:LS):Option Bool:=(f M).bind λd=>match d with
 |.bl b=>aa b
 | _=>ab
def t4{b:Bool}(h:mB f M=aa b):f M=aa (.bl b):=by
 unfold mB at h
 cases e:f M with
 |none=>rw[e]at h;nomatch h
 |some d=>rw[e]at h;cases d <;> cases h;rfl
def oJ(j:OpD c X (cW op) m)(l:∀x y d,m x y=aa d->d.scalar=ac)(ha:DB c X a f)(i:DB c X b g)(hm:kU op b=af:=by first |exact Ee _ |rfl):
  DT c X (.Compare a [op] [b] pos) (mB (m2 m f g)):=PT.imp (Lj j ha i hm) λE H Q n=>by
 have (Hf0,H0,Hf,M,b,st,e,k):=n;show (
 E7 (λ_ _ _ _ h=>h) l (Hf0,H0,Hf,M,.bl b,st,t4 e,λv Hf' H' x r=>(b,r,k Hf' H' x)))
abbrev mM:D->Option Bool
 |.non=>aa af
 |.bl b=>aa b
 |.int i=>aa (i != 0)
 |.str x=>if x.length<=16777216 then aa ((x.length:Int) != 0) else ab
 |.lst C=>aa (!C.isEmpty)
 |.tup C=>aa (!C.isEmpty)
 |.kl C=>aa (!C.isEmpty)
 |.kt C=>aa (!C.isEmpty)
 |.dic ks _=>aa (!ks.isEmpty)
 | _=>ab
def am.empty(r:am G H ds vs):ds.isEmpty=vs.isEmpty:=by
 cases ds with
 |nil=>cases (r);rfl
 |cons d ds=>have(v,a,e,_):=r;subst e;rfl
def MY{a b:Type}{ks:List a}{vs:List b}(h:ks.length=vs.length):(ks.zip vs).isEmpty=ks.isEmpty:=by
 cases ks <;> cases vs <;> first |rfl |cases h
def MZ{b:Bool}(e:mM d=aa b)(r:Rep G H d v):xu G.K v H b:=by
 cases d with
 |non=>cases e;subst r;rfl
 |bl x=>cases e;subst r;rfl
 |int i=>cases e;subst r;rfl
 |str x=>
  subst r;replace e:(if x.length<=16777216 then aa _ else ab)=aa b:=e;split at e
  .rename_i f;cases e;show(by rw[du];show f,rfl)
  .grind
 |lst C=>cases e;have(a,vs,c,q,r):=r;subst c;show .inl (vs,SqL.of q,by rw[r.empty])
 |tup C=>cases e;have(a,vs,c,q,r):=r;subst c;show .inr (.inl (vs,SqT.of q,by rw[r.empty]))
 |kl C=>cases e;have(a,vs,c,q,r):=r;subst c;show .inl (vs,q,by rw[r.empty])
 |kt C=>cases e;have(a,vs,c,q,r):=r;subst c;show .inr (.inl (vs,q,by rw[r.empty]))
 |dic ks C=>cases e;have(a,vs,c,q,l,r):=r;subst c;show .inr (.inr (_,q,by rw[MY l]))
 |ins _ _ _=>nomatch e
 |kd _ _=>nomatch e
 |dT _ _=>nomatch e
abbrev bK(f:MF1)(M:LS):Option Bool:=(f M).bind mM
def x8(ha:DB c X a f)(i:∀e,isTrue a X.env e=(do let v <- e;gz a.pos;eJ [v] (truthy v)):=by intro _;rfl):DT c X a (bK f):=
 PT.imp (Lm ha i) λE H Q j=>by
  have(Hf0,H0,Hf,M,b,st,g,k):=j;unfold bK at g
  cases h:f M with
  |none=>rw[h]at g;nomatch g
  |some d=>
   rw[h]at g;show(Hf0,H0,Hf,M,d,st,h,λv Hf' H' x r=>(b,MZ g r,k Hf' H' x))
abbrev dC(f g:MF4)(M:LS):Option Bool:=(f M).bind λb=>if b then g M else aa af
abbrev mOr(f g:MF4)(M:LS):Option Bool:=(f M).bind λb=>if b then aa ac else g M
abbrev gG(f:MF4)(M:LS):Option Bool:=(f M).map not
variable{f:MF4}
def DW.dt(h:DW c X e f):DT c X e f:=PW.pt h
def x9(h:DT c X a f):DW c X (.BoolOp .And [a] pos) f:=Kk h
def M0(h:DT c X a f):DW c X (.BoolOp .Or [a] pos) f:=Kl h
def ya{g:MF4}{rest:LEx}(h:DT c X a f)(h':DW c X (.BoolOp .And (b::rest) pos) g):DW c X (.BoolOp .And (a::b::rest) pos) (dC f g):=PW.imp (Km h h') λE H Q j=>by
 have(Hf0,H0,Hf,M,b,st,d,k):=j;unfold dC at d
 cases e:f M with
 |none=>rw[e]at d;nomatch d
 |some x=>
  rw[e]at d;show(Hf0,H0,Hf,M,x,st,e,λb3 H1 i=>?_)
  cases x with
  |true=>rw[if_pos rfl];show(Hf0,H0,b3,M,b,st.step i,d,λbm H2 l=>k bm H2 (i.trans l))
  |false=>cases d;rw[if_neg bG];show k b3 H1 i
def yb{g:MF4}{rest:LEx}(h:DT c X a f)(h':DW c X (.BoolOp .Or (b::rest) pos) g):DW c X (.BoolOp .Or (a::b::rest) pos) (mOr f g):=PW.imp (Kn h h') λE H Q j=>by
 have(Hf0,H0,Hf,M,b,st,d,k):=j;unfold mOr at d
 cases e:f M with
 |none=>rw[e]at d;nomatch d
 |some x=>
  rw[e]at d;show(Hf0,H0,Hf,M,x,st,e,λb3 H1 i=>?_)
  cases x with
  |false=>rw[if_neg bG];show(Hf0,H0,b3,M,b,st.step i,d,λbm H2 l=>k bm H2 (i.trans l))
  |true=>cases d;rw[if_pos rfl];show k b3 H1 i
def M1(h:DT c X a f):DT c X (.UnaryOp .Not a pos) (gG f):=PT.imp (Ko h) λE H Q g=>by
 have(Hf0,H0,Hf,M,b,st,d,k):=g;unfold gG at d
 cases e:f M with
 |none=>rw[e]at d;nomatch d
 |some x=>
  rw[e]at d;cases d;show(Hf0,H0,Hf,M,x,st,e,λb3 H1 i=>k b3 H1 i)
abbrev ja(f g:MF1)(M:LS):OD:=(mB f M).bind λb=>if b then g M else aa (.bl af)
abbrev vOr(f g:MF1)(M:LS):OD:=(mB f M).bind λb=>if b then aa (.bl ac) else g M
abbrev mN(f:MF1)(M:LS):OD:=(mB f M).map λb=>.bl (!b)
variable{f:MF1}
def E8{op}(h:DE c X a f):DE c X (.BoolOp op [a] pos) f:=Kt h
def E9{rest:LEx}(h:DE c X a f)(h':DE c X (.BoolOp .And (b::rest) pos) g):DE c X (.BoolOp .And (a::b::rest) pos) (ja f g):=PE.imp (Ku h h') λE H Q l=>by
 have(Hf0,H0,Hf,M,d,st,e,k):=l;unfold ja at e
 cases i:mB f M with
 |none=>rw[i]at e;nomatch e
 |some x=>
  rw[i]at e;show(Hf0,H0,Hf,M,.bl x,st,t4 i,λv b3 H1 j m=>(x,m,?_))
  cases x with
  |true=>rw[if_pos rfl];show(Hf0,H0,b3,M,d,st.step j,e,λv bm H2 p n=>k v bm H2 (j.trans p) n)
  |false=>cases e;rw[if_neg bG];show k _ b3 H1 j rfl
def M3{rest:LEx}(h:DE c X a f)(h':DE c X (.BoolOp .Or (b::rest) pos) g):DE c X (.BoolOp .Or (a::b::rest) pos) (vOr f g):=PE.imp (Kv h h') λE H Q l=>by
 have(Hf0,H0,Hf,M,d,st,e,k):=l;unfold vOr at e
 cases i:mB f M with
 |none=>rw[i]at e;nomatch e
 |some x=>
  rw[i]at e;show(Hf0,H0,Hf,M,.bl x,st,t4 i,λv b3 H1 j m=>(x,m,?_))
  cases x with
  |false=>rw[if_neg bG];show(Hf0,H0,b3,M,d,st.step j,e,λv bm H2 p n=>k v bm H2 (j.trans p) n)
  |true=>cases e;rw[if_pos rfl];show k _ b3 H1 j rfl
def Fa(h:DE c X a f):DE c X (.UnaryOp .Not a pos) (mN f):=PE.imp (Kw h) λE H Q g=>by
 have(Hf0,H0,Hf,M,d,st,b,k):=g;unfold mN at b
 cases e:mB f M with
 |none=>rw[e]at b;nomatch b
 |some x=>
  rw[e]at b;cases b;show(Hf0,H0,Hf,M,.bl x,st,t4 e,λv b3 H1 j i=>(x,i,k _ b3 H1 j rfl))
abbrev vIf(t:MF4)(f g:MF1)(M:LS):OD:=(t M).bind λb=>if b then f M else g M
variable{cd:Expr}
def Fb{t:MF4}(m:DT c X cd t)(ha:DE c X a f)(l:DE c X b g):DE c X (.IfExp cd a b pos) (vIf t f g):=PE.imp (D5 m ha l) λE H Q n=>by
 have(Hf0,H0,Hf,M,d,st,e,k):=n;unfold vIf at e
 cases i:t M with
 |none=>rw[i]at e;nomatch e
 |some x=>
  rw[i]at e;show(Hf0,H0,Hf,M,x,st,i,λb3 H1 h=>?_)
  cases x with
  |true=>rw[if_pos rfl];show(Hf0,H0,b3,M,d,st.step h,e,λv bm H2 j r=>k v bm H2 (h.trans j) r)
  |false=>rw[if_neg bG];show(Hf0,H0,b3,M,d,st.step h,e,λv bm H2 j r=>k v bm H2 (h.trans j) r)
noncomputable instance {i j:Int}:Decidable (qt i j):=by unfold qt;infer_instance
noncomputable instance {i j:Int}:Decidable (mF i j):=by unfold mF;infer_instance
noncomputable instance {i j:Int}:Decidable (qu i j):=by unfold qu;infer_instance
abbrev dI(V5:Int->Int->Prop)[∀i j,Decidable (V5 i j)](g:Int->Int->D):D->D->OD
 |.int i,.int j=>if V5 i j then aa (g i j) else ab
 | _,_=>ab
abbrev dI0(g:Int->Int->D):D->D->OD
 |.int i,.int j=>aa (g i j)
 | _,_=>ab
abbrev d7:D->D->OD
 |.int i,.int j=>aa (.int (i+j))
 |.str a,.str b=>if a.length+b.length<=16777216 then aa (.str (a++b)) else ab
 |.lst a,.lst b=>if a.length+b.length<=16777216 then aa (.lst (a++b)) else ab
 | _,_=>ab
nonrec def ke:D->D->OD:=dI0 λi j=>.int (i-j)
nonrec def kf:D->D->OD:=dI qt λi j=>.int (i / j)
nonrec def bL:D->D->OD:=dI (λ_ j=>0<j) λi j=>.int (i % j)
nonrec def qF:D->D->OD:=dI mF λi j=>.int (i ^ j.toNat)
nonrec def dLt:D->D->OD:=dI0 λi j=>.bl (decide (i<j))
nonrec def dLe:D->D->OD:=dI0 λi j=>.bl (decide (i<=j))
nonrec def dGt:D->D->OD:=dI0 λi j=>.bl (decide (j<i))
nonrec def dGe:D->D->OD:=dI0 λi j=>.bl (decide (j<=i))
variable{gd:Int->Int->D}
def t7{f:Value->Value->Sem Value}{V5:Int->Int->Prop}[∀i j,Decidable (V5 i j)]{g:Int->Int->V}(h:OpR X f (rI V5 g))(b:∀G H i j,Rep G H (gd i j) (g i j)):OpD c X f (dI V5 gd):=by
 rintro U s E H r w v u Q I n p ⟨Hf,x,y,d,q,l,m,e,k⟩;unfold dI at e;split at e
 .split at e
  .rename_i a;cases e;show h U s E H r w v u Q I n p (_,_,l,m,a,k _ Hf H (Ext.refl q) (b _ _ _ _))
  .nomatch e
 .nomatch e
def qG{f:Value->Value->Sem Value}{g:Int->Int->V}(h:OpR X f (rI0 g))(a:∀G H i j,Rep G H (gd i j) (g i j)):OpD c X f (dI0 gd):=by
 rintro U s E H q r v u Q I m n ⟨Hf,x,y,d,p,b,l,e,k⟩;unfold dI0 at e;split at e
 .cases e;show h U s E H q r v u Q I m n (_,_,b,l,k _ Hf H (Ext.refl p) (a _ _ _ _))
 .nomatch e
def M4:OpD c X (fL .Add) d7:=by
 rintro U s E H m n v u Q I j l ⟨Hf,x,y,d,h,f,g,e,k⟩;unfold d7 at e;split at e
 .cases e;show K3 U s E H m n v u Q I j l (_,_,f,g,k _ Hf H (Ext.refl h) rfl)
 .split at e
  .rename_i i;cases e;show Ln U s E H m n v u Q I j l (_,_,f,g,by rw[du];show i,k _ Hf H (Ext.refl h) rfl)
  .nomatch e
 .split at e
  .rename_i i;cases e;have(a,vs,r,z,f):=f;have(b,us,w,A,g):=g
   show EE U s E H m n v u Q I j l (a,b,vs,us,r,w,h _ _ z,h _ _ A,by rw[du,<- f.length,<- g.length];show i,
    λp q=>k _ _ _ (Ext.new h q) (p,_,rfl,a8,(f.append g).up (bP (h.free q))))
  .nomatch e
 .nomatch e
def M5:OpD c X (fL .Sub) ke:=qG K4 λ_ _ _ _=>rfl
def M6:OpD c X (fL .FloorDiv) kf:=t7 K5 λ_ _ _ _=>rfl
def M7:OpD c X (fL .Mod) bL:=t7 K6 λ_ _ _ _=>rfl
def M8:OpD c X (fL .Pow) qF:=t7 K7 λ_ _ _ _=>rfl
def M9:OpD c X (cW .Lt) dLt:=qG Lb λ_ _ _ _=>rfl
def Na:OpD c X (cW .LtE) dLe:=qG Lc λ_ _ _ _=>rfl
def Nb:OpD c X (cW .Gt) dGt:=qG Ld λ_ _ _ _=>rfl
def Nd:OpD c X (cW .GtE) dGe:=qG Le λ_ _ _ _=>rfl
def t8{g:Int->Int->D}(a:∀i j,(g i j).scalar=ac):∀x y d,dI0 g x y=aa d->d.scalar=ac:=by
 intro x y d e;unfold dI0 at e;split at e
 .cases e;show a _ _
 .nomatch e
def Nf:∀x y d,dLt x y=aa d->d.scalar=ac:=t8 λ_ _=>rfl
def Ng:∀x y d,dLe x y=aa d->d.scalar=ac:=t8 λ_ _=>rfl
def Nh:∀x y d,dGt x y=aa d->d.scalar=ac:=t8 λ_ _=>rfl
def Ni:∀x y d,dGe x y=aa d->d.scalar=ac:=t8 λ_ _=>rfl
abbrev qH:D->OD
 |.int i=>aa (.int (-i))
 | _=>ab
abbrev m1(m:D->OD)(f:MF1)(M:LS):OD:=(f M).bind m
def Nj(ha:DE c X a f):DE c X (.UnaryOp .USub a pos) (m1 qH f):=PE.imp (K2 K8 ha) λE H Q g=>by
 have(Hf0,H0,Hf,M,d,st,b,k):=g;unfold m1 at b
 cases e:f M with
 |none=>rw[e]at b;nomatch b
 |some y=>
  rw[e]at b
  cases y with
  |int i=>cases b;show(Hf0,H0,Hf,M,.int i,st,e,λv Hf' H' x r=>(i,r,k _ Hf' H' x rfl))
  | _=>nomatch b
abbrev Fc:D->Bool
 |.non=>ac
 | _=>af
def Fd{x:D}(r:Rep G H x v):decide (v=.non)=Fc x:=by
 cases x with
 |non=>subst r;rfl
 |bl b=>subst r;rfl
 |int i=>subst r;rfl
 |str x=>subst r;rfl
 |lst _=>have(a,_,e,_):=r;subst e;rfl
 |tup _=>have(a,_,e,_):=r;subst e;rfl
 |kl _=>have(a,_,e,_):=r;subst e;rfl
 |kt _=>have(a,_,e,_):=r;subst e;rfl
 |dic _ _=>have(a,_,e,_):=r;subst e;rfl
 |ins _ _ _=>have(a,_,_,e,_):=r;subst e;rfl
 |kd _ _=>have(a,_,_,e,_):=r;subst e;rfl
 |dT _ _=>have(a,_,e,_):=r;subst e;rfl
abbrev isD(x y:D):Option Bool:=match y with
 |.non=>aa (Fc x)
 |.bl b=>match x with
  |.non=>aa af
  |.bl a=>aa (a==b)
  | _=>ab
 | _=>ab
abbrev dIs(x y:D):OD:=(isD x y).map .bl
abbrev gc(x y:D):OD:=(isD x y).map λb=>.bl (!b)
def Fe:OpD c X (cW .Is) dIs:=by
 rintro U s E H m l v u Q I h i ⟨Hf,x,y,d,j,f,g,e,k⟩
 cases y with
 |non=>
  cases e
  show Lf U s E H m l v u Q I h i (g,by rw[Fd f];show k _ Hf H (Ext.refl j) rfl)
 |bl b=>
  cases x with
  |non=>cases e;subst f;show ES U s E H _ l v u Q I h i (b,g,.inl rfl,k _ Hf H (Ext.refl j) rfl)
  |bl a=>cases e;subst f;show ES U s E H _ l v u Q I h i (b,g,.inr (a,rfl),by rw[qv];show k _ Hf H (Ext.refl j) rfl)
  | _=>nomatch e
 | _=>nomatch e
def Nk:OpD c X (cW .IsNot) gc:=by
 rintro U s E H m l v u Q I h i ⟨Hf,x,y,d,j,f,g,e,k⟩
 cases y with
 |non=>
  cases e
  show Lg U s E H m l v u Q I h i (g,by rw[Fd f];show k _ Hf H (Ext.refl j) rfl)
 |bl b=>
  cases x with
  |non=>cases e;subst f;show ET U s E H _ l v u Q I h i (b,g,.inl rfl,k _ Hf H (Ext.refl j) rfl)
  |bl a=>cases e;subst f;show ET U s E H _ l v u Q I h i (b,g,.inr (a,rfl),by rw[qv];show k _ Hf H (Ext.refl j) rfl)
  | _=>nomatch e
 | _=>nomatch e
def oK{x:Option Bool}{g:Bool->Bool}:∀d,x.map (λb=>D.bl (g b))=aa d->d.scalar=ac:=by
 intro d e
 cases x with
 |none=>nomatch e
 |some b=>cases e;rfl
def Ff:∀x y d,dIs x y=aa d->d.scalar=ac:=λ_ _ d e=>oK d e
def Nl:∀x y d,gc x y=aa d->d.scalar=ac:=λ_ _ d e=>oK d e
abbrev eqF:D->D->Bool
 |.non,.non=>ac
 |.bl a,.bl b=>a==b
 |.int a,.int b=>a==b
 |.str a,.str b=>a==b
 | _,_=>af
abbrev cX(f:D->D->Option Bool):LD->LD->Option Bool
 | [],[]=>aa ac
 |x::C,y::ys=>(f x y).bind λb=>(cX f C ys).map λr=>b && r
 | _,_=>aa af
abbrev yc:D->D->Bool
 |.bl _,.int _=>ac
 |.int _,.bl _=>ac
 | _,_=>af
abbrev mO(f:D->D->Option Bool):D->D->Option Bool
 |.lst C,.lst ys=>if C.length=ys.length then cX f C ys else aa af
 |.tup C,.tup ys=>if C.length=ys.length then cX f C ys else ab
 |x,y=>if x.scalar && y.scalar && !yc x y then aa (eqF x y) else ab
abbrev deq:Nat->D->D->Option Bool
 | 0,_,_=>ab
 |n+1,x,y=>mO (deq n) x y
abbrev dEq(x y:D):OD:=(deq 20 x y).map .bl
abbrev dNe(x y:D):OD:=(deq 20 x y).map λb=>.bl (!b)
def Nm:∀x y d,dEq x y=aa d->d.scalar=ac:=λ_ _ d e=>oK d e
def Nn:∀x y d,dNe x y=aa d->d.scalar=ac:=λ_ _ d e=>oK d e
variable{x y:D}{C ys:LD}{b:Bool}
def t9{f:D->D->Option Bool}(h:cX f (x::C) (y::ys)=aa b):∃a c,f x y=aa a/\cX f C ys=aa c/\b=(a && c):=by
 dsimp only[cX]at h
 cases d:f x y with
 |none=>rw[d]at h;nomatch h
 |some a=>
  cases e:cX f C ys with
  |none=>rw[d,e]at h;nomatch h
  |some c=>rw[d,e]at h;cases h;show(a,c,rfl,rfl,rfl)
def mP{f:D->D->Option Bool}:∀{C ys:LD} {b:Bool},C.length=ys.length->cX f C ys=aa b->∃e:Nat->Bool,(∀j x y,C[j]?=aa x->ys[j]?=aa y->f x y=aa (e j))/\(bO C.length).all e=b
 | [],[],b,_,h=>by cases h;show(λ_=>ac,λj x y e=>by simp at e,rfl)
 |x::C,y::ys,b,hl,h=>by
  have(c,m,d,h2,rfl):=t9 h;have(e,g,ha):=mP (by simpa using hl) h2
  show(λj=>match j with | 0=>c |j+1=>e j,λj i l ex a=>?_,?_)
  .cases j with
   |zero=>simp at ex a;subst ex a;show d
   |succ j=>show g j i l (by simpa using ex) (by simpa using a)
  .rw[cr,range_succ_eq_map,l8,all_map,<- ha]
   rfl
 | [],_::_,_,hl,_=>by cases hl
 | _::_,[],_,hl,_=>by cases hl
def ua(s:d.scalar=ac):d=.non\/(∃b,d=.bl b)\/(∃i,d=.int i)\/∃z,d=.str z:=by
 cases d with
 |non=>show .inl rfl
 |bl b=>show .inr (.inl (b,rfl))
 |int i=>show .inr (.inr (.inl (i,rfl)))
 |str z=>show .inr (.inr (.inr (z,rfl)))
 | _=>nomatch s
def ub(c:(x.scalar && y.scalar && !yc x y)=ac)(d:Rep G H x v)(e:Rep G H y u):fO v=ac/\fO u=ac/\eqV v u=eqF x y/\xp v u=ac/\decide (v=u)=eqF x y:=by
 rw[cB,cB]at c
 rcases ua c.1.1 with rfl |⟨a,rfl⟩ |⟨a,rfl⟩ |⟨a,rfl⟩ <;> rcases ua c.1.2 with rfl |⟨b,rfl⟩ |⟨b,rfl⟩ |⟨b,rfl⟩ <;> first
  |(cases c.2;done)
  |(subst d;subst e;show(rfl,rfl,rfl,rfl,?_);first |show qv |show xq |show xr |rfl)
variable{n:Nat}
def uc(a:¬(∃C ys,x=.lst C/\y=.lst ys)/\¬(∃C ys,x=.tup C/\y=.tup ys))(h:deq (n+1) x y=aa b):(x.scalar && y.scalar && !yc x y)=ac/\b=eqF x y:=by
 replace h:mO _ x y=aa b:=h;unfold mO at h;split at h
 .show absurd (_,_,rfl,rfl) a.1
 .show absurd (_,_,rfl,rfl) a.2
 .split at h
  .rename_i c;cases h;show(c,rfl)
  .nomatch h
def Fg:∀(n:Nat) {x y:D} {b:Bool} {v:V},deq n x y=aa b->Rep G H x v->Rep G H y v->b=ac:=by
 intro n
 induction n with
 |zero=>intro x y b v h;nomatch h
 |succ n J=>
  have all:∀(C ys:LD) vs b,am G H C vs->am G H ys vs->cX (deq n) C ys=aa b->b=ac:=by
   intro C
   induction C with
   |nil=>
    intro ys vs b d c h;cases (d);have:ys=[]:=sQ.mp c.length;subst this
    cases h;rfl
   |cons x C l=>
    intro ys vs b d c h;have(v,r,e,E,h2):=d;subst e
    cases ys with
    |nil=>cases (c)
    |cons y ys=>
     have(N,M,e,i,j):=c;cases e;have(L,z,A,B,rfl):=t9 h;rw[J A E i,l ys _ z h2 j B];rfl
  intro x y b v h d c
  by_cases p:∃C ys,x=.lst C/\y=.lst ys
  .have(C,ys,rfl,rfl):=p;have(a,vs,e,q,d):=d;have(w,m,e',g,c):=c;subst e;cases e';rw[q]at g;cases g;have f:=d.length.trans c.length.symm;replace h:(if C.length=ys.length then cX _ C ys else aa af)=aa b:=h;rw[if_pos f]at h;show all C ys vs b d c h
  .by_cases u:∃C ys,x=.tup C/\y=.tup ys
   .have(C,ys,rfl,rfl):=u;have(a,vs,e,q,d):=d;have(w,m,e',g,c):=c;subst e;cases e';rw[q]at g;cases g;replace h:(if C.length=ys.length then cX _ C ys else ab)=aa b:=h;rw[if_pos (d.length.trans c.length.symm)]at h;show all C ys vs b d c h
   .have(I,rfl):=uc (p,u) h;have(_,_,_,_,e):=ub I d c;rw[<- e];show decide_eq_true rfl
variable{us:LVv}
def oM{s:ah}{B a:LVa}{e:Nat->Bool}(E:am G H C vs)(I:am G H ys us)(r:aG vs B)(z:aG us a)
 (p:∀j x y,C[j]?=aa x->ys[j]?=aa y->deq n x y=aa (e j))
 (q:∀{x y:D} {b:Bool} {v u:V} {w g:Value},deq n x y=aa b->Rep G H x v->Rep G H y u->aB v w->aB u g->cu A s w g b):
  ∀j (f:j<B.toArray.size) (h2:j<a.toArray.size),cu A s B.toArray[j] a.toArray[j] (e j):=λj f h2=>by
 have c:j<B.length:=by simpa using f
 have d:j<a.length:=by simpa using h2
 have(v,l,rv):=r.at' (i:=j) (u:=B[j]) (by simp[c]);have(u,h,ru):=z.at' (i:=j) (u:=a[j]) (by simp[d]);have(x,ex,J):=E.get' l;have(y,m,L):=I.get' h;show q (p j x y ex m) J L rv ru
def yd{s:ah}(I:Inv X U E H s):∀(n:Nat) {A:b8} {x y:D} {b:Bool} {v u:V} {w z:Value},A.units+n<cLine->deq n x y=aa b->Rep (Gx c X) H x v->Rep (Gx c X) H y u->aB v w->aB u z->cu A s w z b:=by
 intro n
 induction n with
 |zero=>intro A x y b v u w z _ h;nomatch h
 |succ n ih=>
  intro A x y b v u w z hu h r1 r2 rv ru;have G:∀{x y:D} {b:Bool} {v u:V} {w z:Value},deq n x y=aa b->Rep _ H x v->Rep _ H y u->aB v w->aB u z->cu A.in1 s w z b:=λh a b c d=>ih (by rw[qr];lia) h a b c d
  by_cases hl:∃C ys,x=.lst C/\y=.lst ys
  .have(C,ys,rfl,rfl):=hl;have(a,vs,e,q,f):=id r1;have(N,r,e',J,g):=id r2;subst e e';cases rv;subst ru
   by_cases j:a=N
   .subst j;have:=Fg _ h ((a,vs,rfl,q,f)) (a,r,rfl,J,g);subst this;show wY _
   .show cu.of_refs j ?_;have(B,L,M,hz):=I.list (SqL.of q);have(p,l,m,Y):=I.list (SqL.of J);have l1:=L.length;have l2:=l.length;have l3:=f.length;have l4:=g.length;replace h:(if C.length=ys.length then cX _ C ys else aa af)=aa b:=h;split at h
    .rename_i i;have(ee,Q,ha):=mP i h;have:=SeqAt.RcAt.lists M.isList m.isList (by simp only[size_toArray];lia) (by lia) (oM f g L l Q G);rw[size_toArray,<- l1,<- l3,ha]at this;show this
    .rename_i i;cases h;show SeqAt.RcAt.lists_lengths M.isList m.isList (by simp only[size_toArray,bne_iff_ne];lia) (by lia)
  .by_cases ht:∃C ys,x=.tup C/\y=.tup ys
   .have(C,ys,rfl,rfl):=ht;have(a,vs,e,q,f):=id r1;have(N,r,e',J,g):=id r2;subst e e';subst rv;subst ru
    by_cases j:a=N
    .subst j;have:=Fg _ h ((a,vs,rfl,q,f)) (a,r,rfl,J,g);subst this;show wY _
    .show cu.of_refs j ?_;have(B,L,M,hz):=I.tuple (SqT.of q);have(p,l,m,Y):=I.tuple (SqT.of J);have l1:=L.length;have l2:=l.length;have l3:=f.length;have l4:=g.length;replace h:(if C.length=ys.length then cX _ C ys else ab)=aa b:=h;split at h
     .rename_i i;have(ee,Q,ha):=mP i h;have:=SeqAt.RcAt.tuples (M) (m) (by lia) (oM f g L l Q G);have T:B.toArray.size=p.toArray.size:=by simp only[size_toArray];lia
      rw[<- T,sW,beq_self_eq_true,p7,size_toArray,<- l1,<- l3,ha]at this;show this
     .nomatch h
   .have(hs,rfl):=uc (hl,ht) h;have(f1,f2,e,_,_):=ub hs r1 r2;rw[<- e];show EB rv ru f1 f2
def No(hu:X.A.units+64<cLine):OpD c X (cW .Eq) dEq:=by
 rintro U s E H v u w J Q I rv ru ⟨Hf,x,y,d,s0,p,r,e,k⟩;unfold dEq at e
 cases h:deq 20 x y with
 |none=>rw[h]at e;nomatch e
 |some b=>
  rw[h]at e;cases e;have q0:=k _ Hf H (Ext.refl s0) rfl;have fin:EP X U E Q _ s:=(.bl b,H,I,rfl,q0);have p:=p.up s0;have r:=r.up s0;have n:∀{x y:D} {b:Bool} {v u:V} {w J:Value},deq 19 x y=aa b->Rep _ H x v->Rep (Gx c X) H y u->aB v w->aB u J->cu X.A.in1 s w J b:=λh a b c d=>yd I 19 (by rw[qr];lia) h a b c d
  by_cases hl:∃C ys,x=.lst C/\y=.lst ys
  .have(C,ys,rfl,rfl):=hl;have(a,vs,e,q,i):=id p;have(a',vs',e',q',j):=id r;subst e e';cases rv;subst ru;have(B,z,G,hz):=I.list (SqL.of q);have(m,g,l,T):=I.list (SqL.of q');have Y:=z.length;have l2:=g.length;have l3:=i.length;have l4:=j.length;replace h:(if C.length=ys.length then cX _ C ys else aa af)=aa b:=h;split at h
   .rename_i f;have(ee,L,ha):=mP f h;show SeqAt.eq_listAt G.isList l.isList (by simp only[size_toArray];lia) (by lia) (oM i j z g L n) ?_;rw[size_toArray,<- Y,<- l3,ha];show fin
   .rename_i f;cases h;show SeqAt.eq_list_lengthsAt G.isList l.isList (by simp only[size_toArray,bne_iff_ne];lia) (by lia) fin
  .by_cases ht:∃C ys,x=.tup C/\y=.tup ys
   .have(C,ys,rfl,rfl):=ht;have(a,vs,e,q,i):=id p;have(a',vs',e',q',j):=id r;subst e e';subst rv;subst ru;have(B,z,G,hz):=I.tuple (SqT.of q);have(m,g,l,T):=I.tuple (SqT.of q');have Y:=z.length;have l2:=g.length;have l3:=i.length;have l4:=j.length;replace h:(if C.length=ys.length then cX _ C ys else ab)=aa b:=h;split at h
    .rename_i f;have(ee,L,ha):=mP f h;show SeqAt.eq_tupleAt (G) (l) (by lia) (oM i j z g L n) ?_;have N:B.toArray.size=m.toArray.size:=by simp only[size_toArray];lia
     simp only[<- N,sW,beq_self_eq_true,p7,size_toArray,<- Y,<- l3,ha];show fin
    .nomatch h
   .have(hs,rfl):=uc (hl,ht) h;have(_,_,_,M,e):=ub hs p r;show K9 U s E H v u w J Q I rv ru (M,by rw[e];show q0)
def Np(hu:X.A.units+64<cLine):OpD c X (cW .NotEq) dNe:=by
 rintro U s E H v u w J Q I rv ru ⟨Hf,x,y,d,s0,p,r,e,k⟩;unfold dNe at e
 cases h:deq 20 x y with
 |none=>rw[h]at e;nomatch e
 |some b=>
  rw[h]at e;cases e;have q0:=k _ Hf H (Ext.refl s0) rfl;have fin:EP X U E Q _ s:=(.bl (!b),H,I,rfl,q0);have p:=p.up s0;have r:=r.up s0;have n:∀{x y:D} {b:Bool} {v u:V} {w J:Value},deq 19 x y=aa b->Rep _ H x v->Rep (Gx c X) H y u->aB v w->aB u J->cu X.A.in1 s w J b:=λh a b c d=>yd I 19 (by rw[qr];lia) h a b c d
  by_cases hl:∃C ys,x=.lst C/\y=.lst ys
  .have(C,ys,rfl,rfl):=hl;have(a,vs,e,q,i):=id p;have(a',vs',e',q',j):=id r;subst e e';cases rv;subst ru;have(B,z,G,hz):=I.list (SqL.of q);have(m,g,l,T):=I.list (SqL.of q');have Y:=z.length;have l2:=g.length;have l3:=i.length;have l4:=j.length;replace h:(if C.length=ys.length then cX _ C ys else aa af)=aa b:=h;split at h
   .rename_i f;have(ee,L,ha):=mP f h;show SeqAt.RcNeAt.lists G.isList l.isList (by simp only[size_toArray];lia) (by lia) (oM i j z g L n) X.prog X.w X.xe _ ?_;rw[size_toArray,<- Y,<- l3,ha];show fin
   .rename_i f;cases h;show SeqAt.RcNeAt.lists_lengths G.isList l.isList (by simp only[size_toArray,bne_iff_ne];lia) (by lia) X.prog X.w X.xe _ fin
  .by_cases ht:∃C ys,x=.tup C/\y=.tup ys
   .have(C,ys,rfl,rfl):=ht;have(a,vs,e,q,i):=id p;have(a',vs',e',q',j):=id r;subst e e';subst rv;subst ru;have(B,z,G,hz):=I.tuple (SqT.of q);have(m,g,l,T):=I.tuple (SqT.of q');have Y:=z.length;have l2:=g.length;have l3:=i.length;have l4:=j.length;replace h:(if C.length=ys.length then cX _ C ys else ab)=aa b:=h;split at h
    .rename_i f;have(ee,L,ha):=mP f h;show SeqAt.RcNeAt.tuples (G) (l) (by lia) (oM i j z g L n) X.prog X.w X.xe _ ?_;have N:B.toArray.size=m.toArray.size:=by simp only[size_toArray];lia
     simp only[<- N,sW,beq_self_eq_true,p7,size_toArray,<- Y,<- l3,ha];show fin
    .nomatch h
   .have(hs,rfl):=uc (hl,ht) h;have(_,_,_,M,e):=ub hs p r;show La U s E H v u w J Q I rv ru (M,by rw[e];show q0)
abbrev eqX:D->D->Bool
 |.non,.non=>ac
 |.bl a,.bl b=>a==b
 |.bl a,.int b=>(if a then 1 else 0)==b
 |.int a,.bl b=>a==(if b then 1 else 0)
 |.int a,.int b=>a==b
 |.str a,.str b=>a==b
 | _,_=>af
abbrev inD(x y:D):Option Bool:=(iB y).bind λds=>if x.scalar && ds.all D.scalar then aa (ds.any λd=>eqX d x) else ab
abbrev mQ(x y:D):OD:=(inD x y).map λb=>.bl (!b)
def Nq:∀x y d,mQ x y=aa d->d.scalar=ac:=λ_ _ d e=>oK d e
def Nr(c:x.scalar=ac)(d:y.scalar=ac)(e:Rep G H x v)(f:Rep G H y u):fO v=ac/\fO u=ac/\eqV v u=eqX x y:=by
 rcases ua c with rfl |⟨a,rfl⟩ |⟨a,rfl⟩ |⟨a,rfl⟩ <;> rcases ua d with rfl |⟨b,rfl⟩ |⟨b,rfl⟩ |⟨b,rfl⟩ <;> (subst e;subst f;show(rfl,rfl,rfl))
def Fh{G:Gc}{H:Hp}{x:D}{v:V}(b:x.scalar=ac)(r:Rep G H x v):∀{ds:LD} {vs:LVv},ds.all D.scalar=ac->am G H ds vs->vs.all fO=ac/\inV v vs=ds.any λd=>eqX d x
 | [],_,_,h=>by cases (h);show(rfl,rfl)
 |d::ds,_,ha,q3_=>by
  have(u,g,e,f,h2):=q3_;subst e;simp only[l8,cB]at ha;have(f1,f2,e):=Nr ha.1 b f r;have(c,a):=Fh b r ha.2 h2;show(by simp only[l8,f1,c];rfl,?_);unfold inV at a ⊢;simp only[gx,gx,e,a]
def Nt(e:inD x y=aa b)(d:Rep G H x v)(j:Rep G H y u):∃p vs,u=.ref p/\(SqL G.K H p vs\/SqT G.K H p vs)/\fO v=ac/\vs.all fO=ac/\inV v vs=b:=by
 unfold inD at e
 cases es:iB y with
 |none=>rw[es]at e;nomatch e
 |some ds=>
  rw[es]at e;replace e:(if _=ac then aa _ else ab)=aa b:=e;split at e
  .rename_i c;cases e;rw[cB]at c;have(a,vs,g,q,r):=qC es j;have(h,i):=Fh c.1 d c.2 r
   have f:fO v=ac:=by cases x <;> first |(subst d;rfl) |(cases c.1)
   show(a,vs,g,q,f,h,i)
  .nomatch e
def Nu:OpD c X (cW .NotIn) mQ:=by
 rintro U s E H v u w l Q I rv ru ⟨Hf,x,y,d,a,i,j,e,k⟩;unfold mQ at e
 cases h:inD x y with
 |none=>rw[h]at e;nomatch e
 |some b=>
  rw[h]at e;cases e;have(p,vs,f,q,f1,f2,g):=Nt h (i.up a) (j.up a);show Md U s E H v u w l Q I rv ru (p,vs,f,q,f1,f2,?_);rw[if_pos rfl,g];show k _ Hf H (Ext.refl a) rfl
def Nv{i:Int}(h:atI ds i=aa d)(r:am G H ds vs):∃v,atI vs i=aa v/\Rep G H d v:=by
 unfold atI at h ⊢;rw[<- r.length]
 cases e:ixN ds.length i with
 |none=>rw[e]at h;nomatch h
 |some j=>
  rw[e]at h;show r.get h
abbrev ixD(ds:LD):D->OD
 |.int k=>atI ds k
 | _=>ab
abbrev mIx(f:MF2)(g:MF1)(M:LS):OD:=(f M).bind λds=>(g M).bind λi=>ixD ds i
variable{b:Expr}
def oN{f:MF2}(ha:DC c X a f)(y:DE c X b g)(z:EA b:=by exact λ_ _=>rfl):DE c X (.Subscript a b pos) (mIx f g):=
 PE.imp (LZ (L6.or L7) ha y z) λE H Q A=>by
  have(Hf0,H0,Hf,M,d,st,e,k):=A;unfold mIx at e
  cases j:f M with
  |none=>rw[j]at e;nomatch e
  |some ds=>
   cases p:g M with
   |none=>rw[j,p]at e;nomatch e
   |some i=>
    rw[j,p]at e
    cases i with
    |int n=>
     show(Hf0,H0,Hf,M,ds,st,j,λl vs b3 H1 x q r=>(Hf0,H0,b3,M,.int n,st.step x,p,λu bm H2 m B=>?_));cases (B);have(v,w,rv):=Nv e r;have fin:=k v bm H2 (x.trans m) (rv.up m.f)
     rcases q with q |q
     .show .inl (l,vs,n,v,rfl,rfl,m.h.seq q,w,fin)
     .show .inr (l,vs,n,v,rfl,rfl,m.h.tup q,w,fin)
    | _=>nomatch e
abbrev qI(C:LD)(lo hi:Option Int):LD:=(C.drop (HT.sIx C.length 0 lo)).take (HT.sIx C.length C.length hi-HT.sIx C.length 0 lo)
abbrev lsD:D->OLD
 |.lst C=>aa C
 |.kl C=>aa C
 | _=>ab
def lu(e:lsD d=aa ds)(r:Rep G H d v):∃a vs,v=.ref a/\SqL G.K H a vs/\am G H ds vs:=by
 cases d with
 |lst C=>cases e;have(a,vs,b,q,r):=r;show(a,vs,b,SqL.of q,r)
 |kl C=>cases e;have(a,vs,b,q,r):=r;show(a,vs,b,q,r)
 | _=>nomatch e
inductive Fi(G:Gc)(f:LS->Option (Option Int))(E:St)(H:Hp)(Q:Option Int->Hp->Prop):Prop
 |mk:∀Hf0 H0 Hf M i,ar G Hf0 H0 Hf H E M->f M=aa i->(∀Hf' H',Ext Hf H Hf' H'->Q i H')->Fi G f E H Q
abbrev DPt(c:Str->Addr)(X:Cx)(e:Option Expr)(f:LS->Option (Option Int)):Prop:=PO X e (Fi (Gx c X) f)
def Fj:DPt c X ab (λ_=>aa ab):=λU s E H Q I b=>by
 have(Hf0,H0,Hf,M,i,st,a,k):=b;show(LU U s E H Q I (by cases a;show k Hf H (Ext.refl st.sub)))
abbrev mPt(f:MF1)(M:LS):Option (Option Int):=(f M).bind λd=>match d with
 |.int i=>aa (aa i)
 | _=>ab
def Fk(h:DE c X e f):DPt c X (aa e) (mPt f):=λU s E H Q I g=>by
 have(Hf0,H0,Hf,M,i,st,a,k):=g
 show (LV h U s E H Q I (by
 unfold mPt at a
 cases b:f M with
 |none=>rw[b]at a;nomatch a
 |some d=>
  rw[b]at a
  cases d with
  |int n=>cases a;show(Hf0,H0,Hf,M,.int n,st,b,λv Hf' H' x r=>(n,r,k Hf' H' x))
  | _=>nomatch a))
abbrev mSl(f:MF1)(l h:LS->Option (Option Int))(M:LS):OLD:=(f M).bind λd=>(lsD d).bind λds=>(l M).bind λlo=>(h M).map λhi=>qI ds lo hi
def Nw(r:am G H ds vs)(lo hi:Option Int):am G H (qI ds lo hi) (qz vs lo hi):=by
 unfold qI qz;rw[r.length];show(r.drop _).take _
variable{p2:Pos}
def Fm{l h:LS->Option (Option Int)}{lo hi:Option Expr}(ha:DE c X e f)(J:DPt c X lo l)(I:DPt c X hi h):DO c X (.Subscript e (.Slice lo hi ab p2) pos) (mSl f l h):=
 PE.imp (LW Mc ha J I) λE H Q N=>by
  have(Hf0,H0,Hf,M,L,st,b,k):=N;unfold mSl at b
  cases g:f M with
  |none=>rw[g]at b;nomatch b
  |some d=>
   cases i:lsD d with
   |none=>rw[g]at b;replace b:(lsD d).bind _=_:=b;rw[i]at b;nomatch b
   |some ds=>
    cases j:l M with
    |none=>rw[g]at b;replace b:(lsD d).bind _=_:=b;rw[i,j]at b;nomatch b
    |some A=>
     cases u:h M with
     |none=>rw[g]at b;replace b:(lsD d).bind _=_:=b;rw[i,j,u]at b;nomatch b
     |some w=>
      rw[g]at b;replace b:(lsD d).bind _=_:=b;rw[i,j,u]at b;cases b;show(Hf0,H0,Hf,M,d,st,g,λv b3 H1 m T=>(Hf0,H0,b3,M,A,st.step m,j,λbm H2 B=>(Hf0,H0,bm,M,w,(st.step m).step B,u,λn U C=>?_)));have(a,vs,G,q,r):=lu i T;subst G;have x:=(m.trans B).trans C;have y:=(B.trans C);show(a,vs,rfl,(m.s.trans y.h).seq q,λp z=>(k p _ n _ (x.trans (Ext.tmp x.s z)) (x.h.free z) (x.s.free z) a8 (Nw (r.up y.f) _ _)))
abbrev rCD(G:Gc)(m:LD->OD):LVv->Hp->VK->Prop:=λvs H Q=>∃Hf ds d,aq Hf H/\am G Hf ds vs/\m ds=aa d/\∀v Hf' H',Ext Hf H Hf' H'->Rep G Hf' d v->Q v H'
nonrec abbrev ud(c:Str->Addr)(X:Cx)(f:Value)(m:LD->OD):Prop:=iy X f (rCD (Gx c X) m)
abbrev av(m:LD->OD)(f:MF2)(M:LS):OD:=(f M).bind m
variable{m:LD->OD}{f:MF2}
def yf(h:av m f M=aa d):∃ds,f M=aa ds/\m ds=aa d:=by
 unfold av at h
 cases e:f M with
 |none=>rw[e]at h;nomatch h
 |some ds=>rw[e]at h;show(ds,rfl,h)
variable{p:Pos}{x:Str}
def qJ{id:String}(l:ud c X (.builtin id) m)(u:∀ds d,m ds=aa d->d.scalar=ac)(q:Gl X x)(hm:X.mg x=ab)(hv:jC x=aa (.builtin id))(ha:DAB c X (e::es) f)(hn:x ≠ "__name__":=by decide)(a:NDb x:=by decide)
 (n:StE X e es:=by rfl)(b:BkE X pos es:=by rfl):
  DE c X (.Call (.Name x p) (e::es) [] pos) (av m f):=PE.imp (Ex l q hm hv ha.pa hn a n b) λE H Q w=>by
 have(Hf0,H0,Hf,M,d,st,j,k):=w;have(ds,i,g):=yf j;show(Hf0,H0,Hf,M,ds,st,i,λvs Hf' H' x r=>(H',ds,d,aq.refl _,r,g,λv bm H2 z y=>k v Hf' H2 (x.trans (Ext.grow x.s z.h)) (y.sc (u _ _ g))))
abbrev cw:LD->OD
 | [.lst C]=>aa (.int C.length)
 | [.tup C]=>aa (.int C.length)
 | [.kl C]=>aa (.int C.length)
 | [.kt C]=>aa (.int C.length)
 | [.str x]=>if x.length<=16777216 then aa (.int x.length) else ab
 | _=>ab
def am.one(r:am G H [d] vs):∃v,vs=[v]/\Rep G H d v:=by
 have(v,a,e,h,q):=r;cases (q);show(v,e,h)
def Fo(e:cw ds=aa d):∃a,ds=[a]/\((∃C,iB a=aa C/\d=.int C.length)\/∃x,a=.str x/\x.length<=16777216/\d=.int x.length):=by
 cases ds with
 |nil=>nomatch e
 |cons a ds=>
  cases ds with
  |cons _ _=>cases a <;> nomatch e
  |nil=>
   show(a,rfl,?_)
   cases a with
   |lst C=>cases e;show .inl (C,rfl,rfl)
   |tup C=>cases e;show .inl (C,rfl,rfl)
   |kl C=>cases e;show .inl (C,rfl,rfl)
   |kt C=>cases e;show .inl (C,rfl,rfl)
   |str x=>
    replace e:(if x.length<=16777216 then aa _ else ab)=aa d:=e
    grind
   | _=>nomatch e
def Nx:ud c X (.builtin "len") cw:=by
 rintro U s E H vs us Q I rv ⟨Hf,ds,d,j,r,e,k⟩
 have sq:∀b C,ds=[b]->iB b=aa C->d=.int C.length->wpAny _ X.A _ _ X.xe s:=λb C g es e0=>by
  subst g e0;have(v,f,i):=r.one;subst f;have(a,ws,h,q,L):=qC es i;subst h;show Mf U s E H _ us Q I rv (a,ws,rfl,xY j q,?_);rw[<- L.length];show k _ Hf H (Ext.refl j) rfl
 obtain⟨b,g,⟨C,f,h⟩ |⟨x,rfl,l,rfl⟩⟩:=Fo e
 .show sq b C g f h
 .subst g;have(v,f,i):=r.one;subst f;show Mg U s E H _ us Q I rv (_,by rw[show v=V.str _ from i],by rw[du];show l,k _ Hf H (Ext.refl j) rfl)
def Ny:∀ds d,cw ds=aa d->d.scalar=ac:=by
 intro ds d e
 obtain⟨a,c,⟨C,b,rfl⟩ |⟨x,rfl,f,rfl⟩⟩:=Fo e <;> rfl
abbrev gH:LD->Option (LI0)
 | []=>aa []
 |.int i::ds=>(gH ds).map λr=>i::r
 | _=>ab
def Fp{G:Gc}{H:Hp}:∀{ds:LD} {ns:LI0} {vs:LVv},gH ds=aa ns->am G H ds vs->vs=ns.map V.int
 | [],_,_,e,r=>by cases e;show r
 |.int i::ds,_,_,e,q4_=>by
  have(v,b,e',a,h2):=q4_;subst e'
  cases es:gH ds with
  |none=>rw[gH,es]at e;cases e
  |some ns=>
   rw[gH,es]at e;cases e;rw[Fp es h2,show v=V.int i from a]
   rfl
 |.non::_,_,_,e,_=>by cases e
 |.bl _::_,_,_,e,_=>by cases e
 |.str _::_,_,_,e,_=>by cases e
 |.lst _::_,_,_,e,_=>by cases e
 |.tup _::_,_,_,e,_=>by cases e
 |.kl _::_,_,_,e,_=>by cases e
 |.kt _::_,_,_,e,_=>by cases e
 |.dic _ _::_,_,_,e,_=>by cases e
 |.ins _ _ _::_,_,_,e,_=>by cases e
def Nz(ns:LI0):gH (ns.map D.int)=aa ns:=by
 induction ns with
 |nil=>rfl
 |cons n ns a=>rw[bF,gH,a];rfl
abbrev jb:LD->OD
 | [d]=>(lsD d).bind λds=>(gH ds).map λns=>.int ns.sum
 | _=>ab
def yg(l:X.calm=ac):ud c X (.builtin "sum") jb:=by
 rintro U s E H vs us Q I rv ⟨Hf,ds,d,g,r,e,k⟩;unfold jb at e;split at e
 .rename_i h
  cases b:lsD h with
  |none=>rw[b]at e;nomatch e
  |some C=>
   cases f:gH C with
   |none=>rw[b]at e;replace e:(gH C).map _=_:=e;rw[f]at e;nomatch e
   |some ns=>
    rw[b]at e;replace e:(gH C).map _=_:=e;rw[f]at e;cases e;have(v,j,m):=r.one;subst j;have(a,ws,i,q,L):=lu b m;subst i;show MO l U s E H _ us Q I rv (a,ns,rfl,?_,k _ Hf H (Ext.refl g) rfl);rw[<- Fp f L];show g.seq q
 .nomatch e
def yh:∀ds d,jb ds=aa d->d.scalar=ac:=by
 intro ds d e;unfold jb at e;split at e
 .rename_i c
  cases a:lsD c with
  |none=>rw[a]at e;nomatch e
  |some C=>
   rw[a]at e;replace e:(gH C).map _=_:=e
   cases b:gH C with
   |none=>rw[b]at e;nomatch e
   |some ns=>rw[b]at e;cases e;rfl
 .nomatch e
def ue(n:jC x=aa (.type "list"))(m:Gl X x)(hm:X.mg x=ab)(ha:DC c X e f)(i:aN [e] X.env=(af,eval e X.env,)::aN [] X.env:=by rfl)(hn:x ≠ "__name__":=by decide)(b:NDb x:=by decide)
 (g:(ce pos (aN [] X.env)).any (·.1)=af:=by rfl):DO c X (.Call (.Name x p) [e] [] pos) f:=
 PE.imp (LO Mh m hm n (eO ha dZ i) hn b i g) λE H Q u=>by
 have(Hf0,H0,Hf,M,ds,st,j,k):=u
 show (
  (Hf0,H0,Hf,M,ds,st,j,λa vs Hf' H' x q r=>(a,vs,rfl,q,λl d=>k l vs Hf' _ (x.trans (Ext.tmp x.s d)) (x.h.free d) (x.s.free d) a8 r)))
abbrev tyN:D->Option String
 |.non=>aa "NoneType"
 |.bl _=>aa "bool"
 |.int _=>aa "int"
 |.str _=>aa "str"
 |.lst _=>aa "list"
 |.tup _=>aa "tuple"
 |.dic _ _=>aa "dict"
 | _=>ab
abbrev yi(T:String)(d:D):OD:=(tyN d).map λt=>.bl (t==T || (t == "bool" && T == "int"))
def NA{t:String}(e:tyN d=aa t)(r:Rep G H d v):gC G.K H v (.type t):=by
 cases d with
 |non=>cases e;subst r;show .non
 |bl b=>cases e;subst r;show .bl b
 |int i=>cases e;subst r;show .int i
 |str x=>cases e;subst r;show .str x
 |lst C=>cases e;have(a,vs,c,q,r):=r;subst c;show .lst q
 |tup C=>cases e;have(a,vs,c,q,r):=r;subst c;show .tup q
 |dic ks C=>cases e;have(a,vs,c,q,l,r):=r;subst c;show .dK q
 | _=>nomatch e
abbrev qK(K:aQ)(T:String):Prop:=∀t∈["NoneType","bool","int","str","list","tuple","dict"],W.kitOne K (.type t) (.type T)=aa (t==T || (t == "bool" && T == "int"))
def NB{t:String}(e:tyN d=aa t):t∈["NoneType","bool","int","str","list","tuple","dict"]:=by
 cases d <;> first |(cases e;decide) |cases e
abbrev mR(T:String)(f:MF1)(M:LS):OD:=(f M).bind (yi T)
def Fq{f:MF1}{T:String}{b:Pos}{y:Str}(w:qK X.K T)(u:Gl X "isinstance")(hm:X.mg "isinstance"=ab)(z:jC y=aa (.type T))(j:Gl X y)(l:X.mg y=ab)(ha:DB c X e f)
 (q:aN [e,.Name y b] X.env=(af,eval e X.env,)::aN [.Name y b] X.env:=by rfl)(n:aN [.Name y b] X.env=(af,eval (.Name y b) X.env,)::aN [] X.env:=by rfl)
 (hn:y ≠ "__name__":=by decide)(i:(y==("__debug__":Str))=af:=by decide)(m:(ce pos (aN [.Name y b] X.env)).any (·.1)=af:=by rfl):
  DE c X (.Call (.Name "isinstance" p) [e,.Name y b] [] pos) (mR T f):=
 PE.imp (Ex MP u hm boot_isinstance (eO ha (eO (Kg (v:=.ty T) j l z rfl hn i) dZ n) q) (by decide) (by decide) q m) λE H Q A=>by
  have(Hf0,H0,Hf,M,d,st,a,k):=A;unfold mR at a
  cases h:f M with
  |none=>rw[h]at a;nomatch a
  |some x=>
   rw[h]at a;replace a:yi T x=aa d:=a;unfold yi at a
   cases g:tyN x with
   |none=>rw[g]at a;nomatch a
   |some t=>
    rw[g]at a;cases a;show(Hf0,H0,Hf,M,x,st,h,λv Hf' H' B r=>(v,T,.type t,_,rfl,NA g r,w t (NB g),k _ Hf' H' B rfl))
inductive tDG(G:Gc)(g:D->LS->Option LS)(v:V)(E:St)(H:Hp)(Q:St->Hp->Prop):Prop
 |mk:∀Hf0 H0 Hf M d ρ',ar G Hf0 H0 Hf H E M->Rep G Hf d v->g d M=aa ρ'->(∀σ',ar G Hf0 H0 Hf H σ' ρ'->Q σ' H)->tDG G g v E H Q
inductive Ft(G:Gc)(g:LD->LS->Option LS)(vs:LVv)(E:St)(H:Hp)(Q:St->Hp->Prop):Prop
 |mk:∀Hf0 H0 Hf M ds ρ',ar G Hf0 H0 Hf H E M->am G Hf ds vs->g ds M=aa ρ'->(∀σ',ar G Hf0 H0 Hf H σ' ρ'->Q σ' H)->Ft G g vs E H Q
structure DG(c:Str->Addr)(X:Cx)(tg:Expr)(k:Nat)(g:D->LS->Option LS):Prop where
 pg:PG X tg (tDG (Gx c X) g)
 len:∀d M ρ',g d M=aa ρ'->ρ'.length=M.length
 keep:∀d M ρ' i,g d M=aa ρ'->k<=i->ρ'[i]?=M[i]?
structure DGs(c:Str->Addr)(X:Cx)(tg:LEx)(k:Nat)(g:LD->LS->Option LS):Prop where
 pg:PGs X tg (Ft (Gx c X) g)
 len:∀d M ρ',g d M=aa ρ'->ρ'.length=M.length
 keep:∀d M ρ' i,g d M=aa ρ'->k<=i->ρ'[i]?=M[i]?
 many:∀ds M ρ',g ds M=aa ρ'->ds.length=tg.length
abbrev ax(i:Nat)(d:D)(M:LS):Option LS:=aa (M.set i (.im d))
def Fu{i k:Nat}(h:PG X e (hE i))(g:i<k):DG c X e k (ax i):=
 (PG.imp h λv E H Q b=>by have(Hf0,H0,Hf,M,d,ρ',st,r,a,q):=b;cases a;show q _ (st.setIm r),λd M ρ' h=>by cases h;simp,λd M ρ' j h f=>by
  cases h;rw[kK (by lia)])
def NC(i k:Nat)(a:X.N.Nodup)(d:i<k:=by decide)(hi:X.N[i]?=aa x:=by rfl)(e:Loc X.env.scope x:=by first |exact bX rfl |exact bA rfl)(b:LcF X x:=by first |exact .inl rfl |exact .inr rfl):DG c X (.Name x pos) k (ax i):=
 Fu (xg a hi e b) d
abbrev da(ds:LD)(M:LS):Option LS:=match ds with
 | []=>aa M
 | _=>ab
abbrev bp(g:D->LS->Option LS)(h:LD->LS->Option LS)(ds:LD)(M:LS):Option LS:=match ds with
 |d::ds=>(g d M).bind λρ1=>h ds ρ1
 | []=>ab
def ND{k:Nat}:DGs c X [] k da:=by
 show(PGs.imp KF λvs E H Q f=>?_,λd M ρ' h=>?_,λd M ρ' i h _=>?_,λd M ρ' h=>?_)
 .have(Hf0,H0,Hf,M,ds,ρ',st,r,e,q):=f
  cases ds with
  |nil=>cases e;show(r,q _ st)
  |cons d ds=>nomatch e
 .cases d with
  |nil=>cases h;rfl
  |cons a b=>nomatch h
 .cases d with
  |nil=>cases h;rfl
  |cons a b=>nomatch h
 .cases d with
  |nil=>cases h;rfl
  |cons a b=>nomatch h
variable{h:LD->LS->Option LS}
def uf{g:D->LS->Option LS}(e:bp g h ds M=aa ρ'):∃d r ρ1,ds=d::r/\g d M=aa ρ1/\h r ρ1=aa ρ':=by
 cases ds with
 |nil=>nomatch e
 |cons d r=>
  replace e:(g d M).bind _=_:=e
  cases a:g d M with
  |none=>rw[a]at e;nomatch e
  |some ρ1=>rw[a]at e;show(d,r,ρ1,rfl,a,e)
def NE{k:Nat}{g:D->LS->Option LS}(j:DG c X e k g)(h2:DGs c X es k h)(n:(iV (e::es) X.env).map (·.2)=assign e X.env::(iV es X.env).map (·.2):=by rfl):DGs c X (e::es) k (bp g h):=by
 show(PGs.imp (KG j.pg h2.pg n) λvs E H Q p=>?_,λd M ρ' h=>?_,λd M ρ' i h hi=>?_,λd M ρ' h=>?_)
 .have(Hf0,H0,Hf,M,ds,ρ',st,r,l,q):=p;have(d,f,ρ1,rfl,b,a):=uf l;have(v,w,m,rv,u):=r;show(v,w,m,Hf0,H0,Hf,M,d,ρ1,st,rv,b,λx st1=>(Hf0,H0,Hf,ρ1,f,ρ',st1,u,a,q))
 .have(d,f,ρ1,rfl,b,a):=uf h;rw[h2.len _ _ _ a,j.len _ _ _ b]
 .have(d,f,ρ1,rfl,b,a):=uf h;rw[h2.keep _ _ _ _ a hi,j.keep _ _ _ _ b hi]
 .have(d,f,ρ1,rfl,b,a):=uf h;rw[cr,cr,h2.many _ _ _ a]
abbrev tpD:D->OLD
 |.tup C=>aa C
 |.kt C=>aa C
 | _=>ab
def Fv(e:tpD d=aa ds)(r:Rep G H d v):∃a vs,v=.ref a/\SqT G.K H a vs/\am G H ds vs:=by
 cases d with
 |tup C=>cases e;have(a,vs,b,q,r):=r;show(a,vs,b,SqT.of q,r)
 |kt C=>cases e;have(a,vs,b,q,r):=r;show(a,vs,b,q,r)
 | _=>nomatch e
abbrev cY(g:LD->LS->Option LS)(d:D)(M:LS):Option LS:=(tpD d).bind λds=>g ds M
def yj{g:LD->LS->Option LS}(h:cY g d M=aa ρ'):∃ds,tpD d=aa ds/\g ds M=aa ρ':=by
 unfold cY at h
 cases e:tpD d with
 |none=>rw[e]at h;nomatch h
 |some ds=>rw[e]at h;show(ds,rfl,h)
variable{kk:Nat}
def NF{k:Nat}{g:LD->LS->Option LS}(n:X.calm=ac)(h:DGs c X es k g)(hn:(iV es X.env).length=es.length:=by rfl)(f:(iV es X.env).findIdx? (·.1)=ab:=by rfl):DG c X (.Tuple es kk pos) k (cY g):=by
 show(PG.imp (KI n h.pg hn f) λv E H Q p=>?_,λd M ρ' h'=>?_,λd M ρ' i h' hi=>?_)
 .have(Hf0,H0,Hf,M,d,ρ',st,r,m,q):=p;have(ds,e,b):=yj m;have(a,vs,l,u,j):=Fv e r;show(a,vs,l,st.sub.tup u,by rw[<- j.length];show h.many _ _ _ b,Hf0,H0,Hf,M,ds,ρ',st,j,b,q)
 .have(ds,e,b):=yj h';show h.len _ _ _ b
 .have(ds,e,b):=yj h';show h.keep _ _ _ _ b hi
abbrev qL(G:Gc)(Hf:Hp)(J:It)(ds:LD):Prop:=∀Hf' H',aq Hf Hf'->aq Hf' H'->∀i:Nat,
 (∀d,ds[i]?=aa d->J.go i H'/\∀x H2,J.yld i H' x H2->∃bm,Ext Hf' H' bm H2/\Rep G bm d x)/\(i=ds.length->J.stop i H')
abbrev ug(G:Gc)(Hf H:Hp)(J:It)(ds:LD):Prop:=∀Hf' H',Ext Hf H Hf' H'->∀i:Nat,
 (∀d,ds[i]?=aa d->J.go i H'/\∀x H2,J.yld i H' x H2->∃bm,Ext Hf' H' bm H2/\Rep G bm d x)/\(i=ds.length->J.stop i H')
def qL.toE(h:qL G Hf J ds):ug G Hf H J ds:=λHf' H' x i=>h Hf' H' x.f x.s i
inductive tDI(G:Gc)(f:MF2)(E:St)(H:Hp)(R:It->Hp->Prop):Prop
 |mk:∀Hf0 H0 Hf M ds,ar G Hf0 H0 Hf H E M->f M=aa ds->(∀J Hf' H',Ext Hf H Hf' H'->qL G Hf' J ds->R J H')->tDI G f E H R
inductive ym(G:Gc)(f:MF2)(E:St)(H:Hp)(R:It->Hp->Prop):Prop
 |mk:∀Hf0 H0 Hf M ds,ar G Hf0 H0 Hf H E M->f M=aa ds->(∀J Hf' H',Ext Hf H Hf' H'->ug G Hf' H' J ds->R J H')->ym G f E H R
abbrev DI(c:Str->Addr)(X:Cx)(tg iter:Expr)(f:MF2):Prop:=PI X tg iter (tDI (Gx c X) f)
abbrev DIe(c:Str->Addr)(X:Cx)(tg iter:Expr)(f:MF2):Prop:=PI X tg iter (ym (Gx c X) f)
def DI.de(h:DI c X tg e f):DIe c X tg e f:=PI.imp h λE H R b=>by
 have(Hf0,H0,Hf,M,ds,st,a,k):=b;show((Hf0,H0,Hf,M,ds,st,a,λJ Hf' H' x i=>k J Hf' H' x i.toE))
def Fw(q:SqL G.K H l vs)(r:am G Hf ds vs):ug G Hf H (Itl G.K l) ds:=λHf' H' b i=>by
 have a:=b.h.seq q;show(λd g=>?_,λj=>(vs,a,by rw[<- r.length,j];show aL _));have(v,c,rv):=r.get g;show((vs,v,a,c),λx H2 (e,y)=>?_);subst e;have:=y vs a;rw[c]at this;cases this;show(Hf',Ext.refl b.s,rv.up b.f)
def NG(q:SqT G.K Hf l vs)(r:am G Hf ds vs):qL G Hf (Itt G.K l) ds:=λHf' H' f s i=>by
 have a:=(f.trans s).tup q;show(λd e=>?_,λg=>(vs,a,by rw[<- r.length,g];show aL _));have(v,b,rv):=r.get e;show((vs,v,a,b),λx H2 (c,y)=>?_);subst c;have:=y vs a;rw[b]at this;cases this;show(Hf',Ext.refl s,rv.up f)
def oO{f:MF1}(h:DE c X e f):DI c X tg e (aV f):=λU s E H R I A=>by
 have(Hf0,H0,Hf,M,ds,st,b,k):=A;unfold aV at b
 cases g:f M with
 |none=>rw[g]at b;nomatch b
 |some d=>
  rw[g]at b
  cases j:lsD d with
  |some l=>
   have:l=ds:=by cases d <;> first |(cases j;done) |(cases j;cases b;rfl)
   subst this;show xl h U s E H R I (Hf0,H0,Hf,M,d,st,g,λv Hf' H' x r=>?_);have(a,vs,n,q,L):=lu j r
   show⟨a,n,(vs,x.s.seq q),k _ Hf' H' x λbm H2 f2 s2 i=>by
    have p:=(f2.trans s2).seq q;show(λd w=>?_,λz=>(vs,p,by rw[<- L.length,z];show aL _));have(v,u,rv):=L.get w;show((vs,v,p,u),λx B (m,y)=>?_);subst m;have:=y vs p;rw[u]at this;cases this
    show(bm,Ext.refl s2,rv.up f2)⟩
  |none=>
   have m:tpD d=aa ds:=by cases d <;> first |(cases j;done) |(cases b;done) |(cases b;rfl)
   show KU h U s E H R I (Hf0,H0,Hf,M,d,st,g,λv Hf' H' x r=>?_);have(a,vs,n,q,L):=Fv m r;show(a,n,(vs,x.s.tup q),k _ Hf' H' x (NG q L))
abbrev rng(lo:Int)(n:Nat):LD:=(bO n).map λ(i:Nat)=>.int (lo+i)
def NH{lo:Int}:qL G Hf (Itr lo n) (rng lo n):=λHf' H' f s i=>by
 show(λd a=>?_,λb=>?_)
 .unfold rng at a;rw[cH]at a
  cases e:(bO n)[i]? with
  |none=>rw[e]at a;nomatch a
  |some j=>
   rw[e]at a;have(hi,c):=cU.mp e;rw[cV]at hi;rw[List.getElem_range]at c;subst c;cases a;show(hi,λx H2 (g,y)=>by subst g;show(Hf',Ext.refl s,y))
 .unfold rng at b;rw[aA,cV]at b;show Nat.le_of_eq b.symm
abbrev yn:LD->OLD
 | [.int j]=>if -(2 ^ 62)<=j/\j<2 ^ 62 then aa (rng 0 j.toNat) else ab
 | [.int i,.int j]=>if -(2 ^ 62)<=i/\i<2 ^ 62/\-(2 ^ 62)<=j/\j<2 ^ 62 then aa (rng i (j-i).toNat) else ab
 | _=>ab
abbrev iC(f:MF2)(M:LS):OLD:=(f M).bind yn
def NI(h:Gl X "range")(hm:X.mg "range"=ab)(ha:DA c X [a] f)(l:aN [a] X.env=[(af,eval a X.env,)]:=by rfl):DI c X tg (.Call (.Name "range" p) [a] [] pos) (iC f):=
 PI.imp (KZ h hm ha.pa l) λE H R m=>by
  have(Hf0,H0,Hf,M,ds,st,b,k):=m;unfold iC at b
  cases d:f M with
  |none=>rw[d]at b;nomatch b
  |some as=>
   rw[d]at b;replace b:yn as=aa ds:=b;have i:=ha.len M as d;show(Hf0,H0,Hf,M,as,st,d,λvs Hf' H' x r=>?_);unfold yn at b;split at b
   .split at b
    .rename_i j e;cases b;have(v,g,rv):=r.one;cases (rv);show(j,g,e.1,e.2,k _ Hf' H' x NH)
    .nomatch b
   .nomatch i
   .nomatch b
abbrev iD(k:Nat)(js:LN)(M:LS):LS:=gX k .no++js.map λj=>(M[j]?).getD .no
def ar.weak(h:ar G Hf0 H0 Hf H E M)(f:ρ'.length=M.length)(d:∀(i:Nat) (s:Sl),ρ'[i]?=aa s->s=.no\/M[i]?=aa s):ar G Hf0 H0 Hf H E ρ':=by
 show h.re h.ext f (λi v s a b=>?_) λi s v a b c p=>?_
 .rcases d i s b with e |e
  .subst e;trivial
  .show h.at' i v s a e
 .rcases d i s b with e |e
  .subst e;show(p.calm rfl).elim
  .show(s,e,p)
def uh{a:Type}{k:Nat}{x:a}{l:List a}{y:a}(h:(gX k x++l)[i]?=aa y):(i<k/\y=x)\/(k<=i/\l[i-k]?=aa y):=by
 by_cases hi:i<k
 .left;rw[lV (by simpa using hi),nQ,if_pos hi]at h;show(hi,(c9 h).symm)
 .right;rw[nP (by simpa using nY hi),lW]at h;show(nY hi,h)
def oP{a b:Type}{f:a->b}{l:List a}{y:b}(h:(l.map f)[i]?=aa y):∃x,l[i]?=aa x/\y=f x:=by
 rw[cH]at h
 cases e:l[i]? with
 |none=>rw[e]at h;nomatch h
 |some x=>rw[e]at h;show(x,rfl,(c9 h).symm)
def NJ(h:js.Nodup){x:Nat}(a:js[i]?=aa x)(b:js[j]?=aa x):i=j:=by
 have(e,c):=cU.mp a;have(h2,d):=cU.mp b;show(List.getElem_inj h).mp (c.trans d.symm)
def ar.comp(k:Nat)(h:ar G Hf0 H0 Hf H E M)(U:js.Nodup):ar G Hf0 H0 Hf H (i8 k js E) (iD k js M):=by
 have own:∀i s,(iD k js M)[i]?=aa s->s.calm=af->∃j,k<=i/\js[i-k]?=aa j/\M[j]?=aa s:=λi s a r=>by
  rcases uh a with⟨_,e⟩ |⟨hi,a⟩
  .subst e;nomatch r
  .have(j,f,es):=oP a
   cases e:M[j]? with
   |none=>rw[e]at es;subst es;nomatch r
   |some t=>rw[e]at es;replace es:s=t:=es;subst es;show(j,hi,f,e)
 have val:∀i v j,(i8 k js E)[i]?=aa v->k<=i->js[i-k]?=aa j->v=(E[j]?).getD ab:=λi v j a hi f=>by
  rcases uh a with⟨T,_⟩ |⟨_,a⟩
  .lia
  .have(A,g,es):=oP a;rw[f]at g;cases g;show es
 show(h.ext,by simp[i8,iD],λi v s a b=>?_,λi j s t y z l a b c d p q=>?_)
 .rcases uh b with⟨_,e⟩ |⟨hi,b⟩
  .subst e;trivial
  .have(j,f,es):=oP b;have J:=val i v j a hi f
   cases e:M[j]? with
   |none=>rw[e]at es;subst es;trivial
   |some t=>
    rw[e]at es;subst es;have(u,Q,q):=h.slot e;rw[Q]at J;subst J;show q
 .have r:s.calm=af:=by
   cases w:s.calm with
   |true=>show(p.calm w).elim
   |false=>rfl
  have Y:t.calm=af:=by
   cases w:t.calm with
   |true=>show(q.calm w).elim
   |false=>rfl
  have(L,hi,I,B):=own i s a r;have(A,x,f,C):=own j t b Y;have v1:=val i _ L c hi I;have N:=val j _ A d x f;have(u1,m,_):=h.slot B;have(u2,n,_):=h.slot C;rw[m]at v1;rw[n]at N;subst v1 N;have:=h.dj L A s t y z l B C m n p q;subst this;have:=NJ U I f
  lia
abbrev eP(h:D->Option OD):LD->OLD
 | []=>aa []
 |d::ds=>(h d).bind λo=>(eP h ds).map λr=>match o with
  |some y=>y::r
  |none=>r
def NK{h:D->Option OD}{r:LD}(e:eP h (d::ds)=aa r):∃o a,h d=aa o/\eP h ds=aa a/\r=(match o with |some y=>y::a |none=>a):=by
 dsimp only[eP]at e
 cases b:h d with
 |none=>rw[b]at e;nomatch e
 |some o=>
  cases c:eP h ds with
  |none=>rw[b,c]at e;nomatch e
  |some a=>
   rw[b,c]at e;cases e;show(o,a,rfl,rfl,?_)
   cases o <;> rfl
abbrev gJ(g:D->LS->Option LS)(ft:MF4)(fe:MF1)(M:LS)(d:D):Option OD:=(g d M).bind λρ1=>(ft ρ1).bind λb=>if b then (fe ρ1).map aa else aa ab
abbrev bq(k:Nat)(js:LN)(fi:MF2)(g:D->LS->Option LS)(ft:MF4)(fe:MF1)(M:LS):OLD:=
 (fi M).bind λds=>if ds.length<=16777216 then eP (gJ g ft fe (iD k js M)) ds else ab
def yo{a:Type}{l:List a}(h:i<l.length):∃x,l[i]?=aa x/\l.drop i=x::l.drop (i+1):=(l[i],by simp[h],(drop_eq_getElem_cons h))
abbrev DTs(c:Str->Addr)(X:Cx)(c3:LEx)(f:MF4):Prop:=PTs X c3 (tDT (Gx c X) f)
def NL:DTs c X [] kY:=PTs.imp MK λE H Q d=>by
 have(Hf0,H0,Hf,M,b,st,a,k):=d;show(by cases a;show k Hf H (Ext.refl st.sub))
def qM{f:MF4}(h:DT c X e f):DTs c X [e] f:=ML h
variable{g:D->LS->Option LS}{ft:MF4}{fe:MF1}{L:LD}
def Fx{k:Nat}(hj:js.Nodup)(hk:∀d M ρ' i,g d M=aa ρ'->k<=i->ρ'[i]?=M[i]?)(A:∀d M ρ',g d M=aa ρ'->ρ'.length=M.length){ti:TI}(st:ar G Hf0 H0 Hf H E M)
 (hti:∀R:It->Hp->Prop,(∀J b3 H1,Ext Hf H b3 H1->ug G b3 H1 J ds->R J H1)->ti E H R)(hz:ds.length<=16777216)(ef:eP (gJ g ft fe (iD k js M)) ds=aa L)
 (kq:∀l vs Hf' H',Ext Hf H Hf' H'->H l=ab->Hf' l=ab->H' l=aa (.lst vs)->am G Hf' L vs->Q (.ref l) H'):oH k js ti (tDG G g) (tDT G ft) (tD G fe) E H Q:=by
 show hti _ λJ b3 H1 x1 it=>?_
 show(λi m ys σ' H'=>m=ds.length-i/\i<=ds.length/\∃Hf' as rest,Ext b3 H1 Hf' H'/\ar G Hf0 H0 Hf' H' σ' _/\am G Hf' as ys/\eP _ (ds.drop i)=aa rest/\L=as++rest/\as.length<=i,
  (ds.length,rfl,cj _,b3,[],L,Ext.refl x1.s,(st.step x1).comp k hj,rfl,ef,rfl,aL _),?_)
 rintro i m ys σ' H' ⟨rfl,hi,Hf',as,rest,x2,st2,ra,Y,er,hal⟩;have B:ys.length<=aS:=by rw[du,<- ra.length];lia
 have(it1,it2):=it Hf' H' x2 i
 by_cases q:i<ds.length
 .have(d,ed,edr):=yo q;have(go,yl):=it1 d ed
  show .inr (go,B,λI N H2=>ds.length-_=ds.length-_/\i+1<=ds.length/\∃Hf' as rest,Ext b3 H1 Hf' H2/\ar G Hf0 H0 Hf' H2 N _/\am G Hf' as I/\eP _ _=aa rest/\L=as++rest/\as.length<=i+1,
   λI N H2 w=>(ds.length-(i+1),by lia,w),λx H2 y=>?_)
  have(bm,x3,rx):=yl x H2 y;rw[edr]at Y;have(o,r',a,u,n):=NK Y;unfold gJ at a
  cases z:g d _ with
  |none=>rw[z]at a;nomatch a
  |some ρ1=>
   rw[z]at a;replace a:(ft ρ1).bind _=_:=a
   cases et:ft ρ1 with
   |none=>rw[et]at a;nomatch a
   |some b=>
    rw[et]at a;show(Hf0,H0,bm,iD k js M,d,ρ1,st2.step x3,rx,z,λT p=>(Hf0,H0,bm,ρ1,b,p,et,λr H4 C=>?_))
    have back:∀{c U:Hp},ar G Hf0 H0 c U T ρ1->ar G Hf0 H0 c U T _:=λ{c U} s5=>s5.weak (A _ _ _ z).symm λj s hs=>by
     rcases uh hs with⟨_,e⟩ |⟨hj',_⟩
     .show .inl e
     .show .inr (by rw[hk _ _ _ _ z hj'];show hs)
    cases b with
    |true=>
     cases ee:fe ρ1 with
     |none=>rw[ee]at a;nomatch a
     |some y'=>
      rw[ee]at a;cases a;show(Hf0,H0,r,ρ1,y',p.step C,ee,λv c U x5 r5=>?_);have x:=(x3.trans C).trans x5;show(rfl,q,c,as++[y'],r',x2.trans x,back ((p.step C).step x5),(ra.up x.f).append (.cons r5 .nil),u,?_,by simp only[aR,fZ];lia);simp only[er,n,cI]
      rfl
    |false=>
     cases a;have x:=x3.trans C;show(rfl,q,r,as,r',x2.trans x,back (p.step C),ra.up x.f,u,by rw[er,n],by lia)
 .have ei:i=ds.length:=by lia
  subst ei;show .inl (it2 rfl,B,λl h1 h2=>?_);rw[drop_eq_nil_of_le (aL _)]at Y;cases Y;rw[bQ]at er;subst er;have x:=x1.trans x2;show kq l ys Hf' _ (x.trans (Ext.tmp x.s h2)) (x.h.free h2) (x.s.free h2) a8 ra
variable{fi:MF2}
def yp{k:Nat}(e:js.Nodup)(f:∀d M ρ' i,g d M=aa ρ'->k<=i->ρ'[i]?=M[i]?)(b:∀d M ρ',g d M=aa ρ'->ρ'.length=M.length)(h:tDO G (bq k js fi g ft fe) E H Q):
  oH k js (ym G fi) (tDG G g) (tDT G ft) (tD G fe) E H Q:=by
 have(Hf0,H0,Hf,M,L,st,a,j):=h;unfold bq at a
 cases c:fi M with
 |none=>rw[c]at a;nomatch a
 |some ds=>
  rw[c]at a;replace a:(if ds.length<=16777216 then eP _ ds else ab)=aa L:=a
  by_cases hz:ds.length<=16777216
  .rw[if_pos hz]at a;show Fx e f b st (λR q=>(Hf0,H0,Hf,M,ds,st,c,λJ b3 H1 l it=>q J b3 H1 l it)) hz a j
  .rw[if_neg hz]at a
   nomatch a
def kg(k:Nat)(js:LN)(Nc:LSt)(d:X.calm=ac)(hi:DIe c X tg iter fi)(a:∀cl V5 ex cc cs,DG c (X.comp scope Nc cl V5 ex cc cs) tg k g)(j:∀cl V5 ex cc cs,DTs c (X.comp scope Nc cl V5 ex cc cs) c3 ft)
 (e:∀cl V5 ex cc cs,DE c (X.comp scope Nc cl V5 ex cc cs) c5 fe)(b:lq scope X.env.scope.names X.N Nc k js=ac:=by rfl)(i:∀x,kS iter X.env x=pure x:=by intro _;rfl)(f:js.Nodup:=by decide):
  DO c X (.ListComp c5 [(tg,iter,c3,0)] scope pos) (bq k js fi g ft fe):=
 PE.imp (MN (tt:=tDT (Gx c X) ft) (te:=tD (Gx c X) fe) k js Nc d hi (λcl V5 ex cc cs=>(a cl V5 ex cc cs).pg) j e b i) λE H Q h=>
  yp f (a [] 0 [] X.s₀ X.H₀).keep (a [] 0 [] X.s₀ X.H₀).len h
def dvc{cl:List (Str×Addr)}(i:Nat)(b:Nc[i]?=aa x:=by rfl)(hv:Vis scope x:=by first |exact bX rfl |exact bA (bX rfl) |exact bA (bA rfl))(hd:NDb x:=by decide)
 (a:NCd x:=by decide):DE c (X.comp scope Nc cl V5 ex cc cs) (.Name x pos) (ae i):=EY (pvc i b hv hd a)
def NM{cl:List (Str×Addr)}(i:Nat)(b:Nc[i]?=aa x:=by rfl)(hv:Vis scope x:=by first |exact bX rfl |exact bA (bX rfl) |exact bA (bA rfl))(hd:NDb x:=by decide)
 (a:NCd x:=by decide):DB c (X.comp scope Nc cl V5 ex cc cs) (.Name x pos) (cF i):=E3 (pvc i b hv hd a)
def yq{cl:List (Str×Addr)}(i:Nat)(b:Nc[i]?=aa x:=by rfl)(hv:Vis scope x:=by first |exact bX rfl |exact bA (bX rfl) |exact bA (bA rfl))(hd:NDb x:=by decide)
 (a:NCd x:=by decide):DC c (X.comp scope Nc cl V5 ex cc cs) (.Name x pos) (aw i):=EZ (pvc i b hv hd a)
def dgc{cl:List (Str×Addr)}(i k:Nat)(b:i<k:=by decide)(a:Nc.Nodup:=by decide +kernel)(hi:Nc[i]?=aa x:=by rfl)(d:scope.names.lookup x=aa .local:=by rfl):DG c (X.comp scope Nc cl V5 ex cc cs) (.Name x pos) k (ax i):=
 Fu (pgc i a hi d) b
inductive Fl where
 |nx (M:LS)
 |bk (M:LS)
 |ct (M:LS)
 |rt (d:D)
 |rtO (ds:LD)
 |rtS (d:D) (M:LS)
 |rtT (o:O)
nonrec abbrev MF3:=LS->Option Fl
abbrev ui(G:Gc)(Hf0 H0 Hf:Hp)(V4:i5):Fl->Prop
 |.nx ρ'=>∀σ' Hf' H',aq Hf Hf'->ar G Hf0 H0 Hf' H' σ' ρ'->V4.nx σ' H'
 |.bk ρ'=>∀σ' Hf' H',aq Hf Hf'->ar G Hf0 H0 Hf' H' σ' ρ'->V4.bk σ' H'
 |.ct ρ'=>∀σ' Hf' H',aq Hf Hf'->ar G Hf0 H0 Hf' H' σ' ρ'->V4.ct σ' H'
 |.rt d=>∀v Hf' H',Ext Hf0 H0 Hf' H'->Rep G Hf' d v->V4.rt v H'
 |.rtO ds=>∀l vs Hf' H',Ext Hf0 H0 Hf' H'->H0 l=ab->Hf' l=ab->H' l=aa (.lst vs)->am G Hf' ds vs->V4.rt (.ref l) H'
 |.rtS d M=>∀v σ' Hf' H',ar G Hf0 H0 Hf' H' σ' M->Rep G Hf' d v->V4.rt v H'
 |.rtT o=>∀u fp Hf' H',Ext Hf0 H0 Hf' H'->OT G Hf' H' o u fp->fp.Nodup->(∀a∈fp,H0 a=ab/\Hf' a=ab)->V4.rt u H'
inductive tDS(G:Gc)(F:MF3)(V4:i5)(E:St)(H:Hp):Prop
 |mk:∀Hf0 H0 Hf M o,ar G Hf0 H0 Hf H E M->F M=aa o->ui G Hf0 H0 Hf V4 o->tDS G F V4 E H
abbrev DS(c:Str->Addr)(X:Cx)(st:Stmt)(F:MF3):Prop:=PS X st (tDS (Gx c X) F)
abbrev DSs(c:Str->Addr)(X:Cx)(st:List Stmt)(F:MF3):Prop:=PSs X st (tDS (Gx c X) F)
abbrev bM(M:LS):Option Fl:=aa (.nx M)
abbrev ai(F a:MF3)(M:LS):Option Fl:=(F M).bind λo=>match o with
 |.nx ρ'=>a ρ'
 |o=>aa o
abbrev bi(t:MF4)(F a:MF3)(M:LS):Option Fl:=(t M).bind λb=>if b then F M else a M
abbrev aX(i:Nat)(f:MF1)(M:LS):Option Fl:=(f M).map λd=>.nx (M.set i (.im d))
abbrev cL(i:Nat)(f:MF2)(M:LS):Option Fl:=(f M).map λd=>.nx (M.set i (.own d))
abbrev bf(f:MF1)(M:LS):Option Fl:=(f M).map .rt
abbrev cx(f:MF2)(M:LS):Option Fl:=(f M).map .rtO
abbrev fw(i:Nat)(M:LS):Option Fl:=match M[i]? with
 |some (.im d)=>aa (.rt d)
 |some (.own C)=>aa (.rtO C)
 | _=>ab
abbrev iE(g:D->LS->Option LS)(F:MF3):LD->MF3
 | [],M=>aa (.nx M)
 |d::ds,M=>(g d M).bind λρ1=>(F ρ1).bind λo=>match o with
  |.nx a=>iE g F ds a
  |.ct a=>iE g F ds a
  |.bk a=>aa (.nx a)
  |.rt d=>aa (.rt d)
  |.rtO d=>aa (.rtO d)
  |.rtS d a=>aa (.rtS d a)
  |.rtT o=>aa (.rtT o)
abbrev bZ(fi:MF2)(g:D->LS->Option LS)(F:MF3)(M:LS):Option Fl:=(fi M).bind λds=>iE g F ds M
abbrev df(t:MF4)(F:MF3):Nat->MF3
 | 0,_=>ab
 |n+1,M=>(t M).bind λb=>if b then (F M).bind λo=>match o with
   |.nx a=>df t F n a
   |.ct a=>df t F n a
   |.bk a=>aa (.nx a)
   |.rt d=>aa (.rt d)
   |.rtO d=>aa (.rtO d)
   |.rtS d a=>aa (.rtS d a)
   |.rtT o=>aa (.rtT o)
  else aa (.nx M)
abbrev yr(i:Nat)(M:LS):LS:=match M[i]? with
 |some (.own C)=>M.set i (.im (.lst C))
 |some (.ownd ks C)=>M.set i (.im (.dic ks C))
 |some (.obj c ns C)=>M.set i (.im (.ins c ns C))
 | _=>M
abbrev eQ(i:Nat)(F:MF3)(M:LS):Option Fl:=F (yr i M)
abbrev c8(i:Nat)(f:MF1)(M:LS):Option Fl:=(f M).bind λd=>match M[i]? with
 |some (.own C)=>if C.length<16777216 then aa (.nx (M.set i (.own (C++[d])))) else ab
 | _=>ab
abbrev kh(f:MF1)(M:LS):OLD:=(f M).bind λd=>match d with
 |.lst C=>aa C
 | _=>ab
abbrev ki(i:Nat)(f:MF2)(M:LS):Option Fl:=(f M).bind λds=>match M[i]? with
 |some (.own C)=>if C.length+ds.length<=16777216 then aa (.nx (M.set i (.own (C++ds)))) else ab
 | _=>ab
def NN:DSs c X [] bM:=PSs.imp D6 λV4 E H b=>by
 have(Hf0,H0,Hf,M,o,d,a,k):=b;show(by cases a;show k E Hf H (aq.refl _) d)
def ui.up{V4:i5}{o:Fl}(h:ui G Hf0 H0 Hf V4 o)(s:aq Hf Hf'):ui G Hf0 H0 Hf' V4 o:=by
 cases o with
 |nx M=>show λσ' bm H2 s2 q=>h σ' bm H2 (s.trans s2) q
 |bk M=>show λσ' bm H2 s2 q=>h σ' bm H2 (s.trans s2) q
 |ct M=>show λσ' bm H2 s2 q=>h σ' bm H2 (s.trans s2) q
 |rt d=>show h
 |rtO d=>show h
 |rtS d M=>show h
 |rtT o=>show h
variable{st:Stmt}{sts:List Stmt}{F':MF3}
def aF{F:MF3}(f:DS c X st F)(h2:DSs c X sts F'):DSs c X (st::sts) (ai F F'):=PSs.imp (tI f h2) λV4 E H g=>by
 have(Hf0,H0,Hf,M,o,h,a,k):=g;unfold ai at a
 cases b:F M with
 |none=>rw[b]at a;nomatch a
 |some o1=>
  rw[b]at a;show(Hf0,H0,Hf,M,o1,h,b,?_)
  cases o1 with
  |nx ρ1=>show λi b3 H1 s1 e=>(Hf0,H0,b3,ρ1,o,e,a,k.up s1)
  |bk ρ1=>cases a;show k
  |ct ρ1=>cases a;show k
  |rt d=>cases a;show k
  |rtO d=>cases a;show k
  |rtS d ρ1=>cases a;show k
  |rtT o'=>cases a;show k
def bI{F:MF3}(a:DS c X st F):DSs c X [st] F:=D7 a
variable{a b:List Stmt}{t:MF4}
def jc{F:MF3}(j:DT c X cd t)(ha:DSs c X a F)(i:DSs c X b F'):DS c X (.If cd a b pos) (bi t F F'):=PS.imp (KC j ha i) λV4 E H l=>by
 have(Hf0,H0,Hf,M,o,h,d,k):=l;unfold bi at d
 cases g:t M with
 |none=>rw[g]at d;nomatch d
 |some x=>
  rw[g]at d;show(Hf0,H0,Hf,M,x,h,g,λb3 H1 e=>?_)
  cases x with
  |true=>rw[if_pos rfl];show(Hf0,H0,b3,M,o,h.step e,d,k.up e.f)
  |false=>rw[if_neg bG];show(Hf0,H0,b3,M,o,h.step e,d,k.up e.f)
def Fy{f:MF1}(g:PS X st (i6 te (hE i)))(hi:∀E H Q,tD (Gx c X) f E H Q->te E H Q):DS c X st (aX i f):=PS.imp g λV4 E H h=>by
 have(Hf0,H0,Hf,M,o,e,a,k):=h;unfold aX at a
 cases b:f M with
 |none=>rw[b]at a;nomatch a
 |some d=>
  rw[b]at a;cases a;show hi _ _ _ (Hf0,H0,Hf,M,d,e,b,λv Hf' H' x r=>k _ Hf' H' x.f ((e.step x).setIm r))
def Fz(j:PS X st (i6 te (hE i)))(hi:∀E H Q,tDO (Gx c X) f E H Q->te E H Q):DS c X st (cL i f):=PS.imp j λV4 E H m=>by
 have(Hf0,H0,Hf,M,o,e,a,k):=m;unfold cL at a
 cases b:f M with
 |none=>rw[b]at a;nomatch a
 |some d=>
  rw[b]at a;cases a;show hi _ _ _ (Hf0,H0,Hf,M,d,e,b,λl vs Hf' H' x hn g h r=>k _ Hf' H' x.f (e.setOwn rfl x hn g (vs,h,r)))
def qN(i:Nat){f:MF1}(a:X.N.Nodup)(b:DE c X e f)(hi:X.N[i]?=aa x:=by rfl)(j:Loc X.env.scope x:=by first |exact bX rfl |exact bA rfl)(g:f8 e (aa (.Name x b4)) pos.line X.env=pure af:=by rfl)(d:LcF X x:=by first |exact .inl rfl |exact .inr rfl):
  DS c X (.Assign [.Name x b4] e pos) (aX i f):=Fy (ox a hi j b g d) λ_ _ _ h=>h
def uj(i:Nat)(a:X.N.Nodup)(b:DO c X e f)(hi:X.N[i]?=aa x:=by rfl)(j:Loc X.env.scope x:=by first |exact bX rfl |exact bA rfl)(g:f8 e (aa (.Name x b4)) pos.line X.env=pure af:=by rfl)(d:LcF X x:=by first |exact .inl rfl |exact .inr rfl):
  DS c X (.Assign [.Name x b4] e pos) (cL i f):=Fz (ox a hi j b g d) λ_ _ _ h=>h
def NO(h:tD G (aO f) E H Q):tDO G f E H Q:=by
 have(Hf0,H0,Hf,M,d,st,a,k):=h;unfold aO at a
 cases b:f M with
 |none=>rw[b]at a;nomatch a
 |some ds=>
  rw[b]at a;have a:=c9 a;subst a;show(Hf0,H0,Hf,M,ds,st,b,λl vs Hf' H' x hn c e r=>k _ _ H' (x.fix hn c e) (l,vs,rfl,a8,r.up (bP c)))
def NP(i:Nat)(k:Nat)(js:LN)(Nc:LSt)(f:X.N.Nodup)(j:X.calm=ac)(hi:DIe c X tg iter fi)
 (a:∀cl V5 ex cc cs,DG c (X.comp scope Nc cl V5 ex cc cs) tg k g)(q:∀cl V5 ex cc cs,DTs c (X.comp scope Nc cl V5 ex cc cs) c3 ft)(l:∀cl V5 ex cc cs,DE c (X.comp scope Nc cl V5 ex cc cs) c5 fe)
 (b:X.N[i]?=aa x:=by rfl)(r:Loc X.env.scope x:=by first |exact bX rfl |exact bA rfl)
 (d:f8 (.ListComp c5 [(tg,iter,c3,0)] scope pos) (aa (.Name x b4)) eH.line X.env=pure ac:=by rfl)
 (e:lq scope X.env.scope.names X.N Nc k js=ac:=by rfl)(p:∀x,kS iter X.env x=pure x:=by intro _;rfl)(n:js.Nodup:=by decide)
 (m:LcF X x:=by first |exact .inl rfl |exact .inr rfl):
  DS c X (.Assign [.Name x b4] (.ListComp c5 [(tg,iter,c3,0)] scope pos) eH) (cL i (bq k js fi g ft fe)):=
 Fz (xU (tt:=tDT (Gx c X) ft) (te:=tD (Gx c X) fe) k js Nc f b r j hi (λcl V5 ex cc cs=>(a cl V5 ex cc cs).pg) q l d e p m) λE H Q h=>yp n (a [] 0 [] X.s₀ X.H₀).keep (a [] 0 [] X.s₀ X.H₀).len h
def qP(i:Nat)(k:Nat)(js:LN)(Nc:LSt)(f:X.N.Nodup)(j:X.calm=ac)(hi:DIe c X tg iter fi)
 (a:∀cl V5 ex cc cs,DG c (X.comp scope Nc cl V5 ex cc cs) tg k g)(q:∀cl V5 ex cc cs,DTs c (X.comp scope Nc cl V5 ex cc cs) c3 ft)(l:∀cl V5 ex cc cs,DE c (X.comp scope Nc cl V5 ex cc cs) c5 fe)
 (b:X.N[i]?=aa x:=by rfl)(r:Loc X.env.scope x:=by first |exact bX rfl |exact bA rfl)
 (d:f8 (.ListComp c5 [(tg,iter,c3,0)] scope pos) (aa (.Name x b4)) eH.line X.env=pure ac:=by rfl)
 (e:lq scope X.env.scope.names X.N Nc k js=ac:=by rfl)(p:∀x,kS iter X.env x=pure x:=by intro _;rfl)(n:js.Nodup:=by decide)
 (m:LcF X x:=by first |exact .inl rfl |exact .inr rfl):
  DS c X (.Assign [.Name x b4] (.ListComp c5 [(tg,iter,c3,0)] scope pos) eH) (aX i (aO (bq k js fi g ft fe))):=
 Fy (xU (tt:=tDT (Gx c X) ft) (te:=tD (Gx c X) fe) k js Nc f b r j hi (λcl V5 ex cc cs=>(a cl V5 ex cc cs).pg) q l d e p m) λE H Q h=>yp n (a [] 0 [] X.s₀ X.H₀).keep (a [] 0 [] X.s₀ X.H₀).len (NO h)
def qQ{f:MF1}(h:DE c X e f):DS c X (.Return (aa e) pos) (bf f):=PS.imp (tJ h) λV4 E H i=>by
 have(Hf0,H0,Hf,M,o,g,a,k):=i;unfold bf at a
 cases b:f M with
 |none=>rw[b]at a;nomatch a
 |some d=>
  rw[b]at a;cases a;show(Hf0,H0,Hf,M,d,g,b,λv Hf' H' x r=>k v Hf' H' (g.ext.trans x) r)
abbrev fA(f:MF1)(M:LS):Option Fl:=(f M).map λd=>.rtS d M
def FA{f:MF1}(h:DE c X e f):DS c X (.Return (aa e) pos) (fA f):=PS.imp (tJ h) λV4 E H i=>by
 have(Hf0,H0,Hf,M,o,g,a,k):=i;unfold fA at a
 cases b:f M with
 |none=>rw[b]at a;nomatch a
 |some d=>
  rw[b]at a;cases a;show(Hf0,H0,Hf,M,d,g,b,λv Hf' H' x r=>k v E Hf' H' (g.step x) r)
def jH(i:DO c X e f):DS c X (.Return (aa e) pos) (cx f):=PS.imp (tJ i) λV4 E H n=>by
 have(Hf0,H0,Hf,M,o,g,a,k):=n;unfold cx at a
 cases b:f M with
 |none=>rw[b]at a;nomatch a
 |some d=>
  rw[b]at a;cases a;show(Hf0,H0,Hf,M,d,g,b,λl vs Hf' H' x hn j m r=>k l vs Hf' H' (g.ext.trans x) (g.ext.h.free hn) j m r)
def NQ(h:PE X e (cQ i)):DS c X (.Return (aa e) pos) (fw i):=PS.imp (tJ h) λV4 E H m=>by
 have(Hf0,H0,Hf,M,o,b,a,k):=m;unfold fw at a
 cases es:M[i]? with
 |none=>rw[es]at a;nomatch a
 |some s=>
  rw[es]at a
  cases s with
  |im d=>
   cases a;have(v,f,r):=b.imm es
   show(_,f,k v Hf H b.ext r)
  |own C=>
   cases a;have(l,f,g,j,vs,q,r):=b.ownAt rfl es
   show(_,f,k l vs Hf H b.ext g j q r)
  | _=>nomatch a
def NR(i:Nat)(b:X.N[i]?=aa x:=by rfl)(hv:Vis X.env.scope x:=by first |exact bX rfl |exact bA (bX rfl) |exact bA (bA rfl))(hd:NDb x:=by decide)
 (a:NCd x:=by decide):DS c X (.Return (aa (.Name x p)) pos) (fw i):=NQ (mD b hv hd a)
def gf{F:MF3}(hp:PassesOwn (model X.prog X.w) X.A X.env X.xe)(hc:X.calm=ac)(hi:DI c X tg iter fi)(hg:DG c X tg kk g)(hb:DSs c X a F)(hs:∀x,kS iter X.env x=pure x:=by intro _;rfl):
  DS c X (.For tg iter a [] pos) (bZ fi g F):=PS.imp (Ea hp hc hi hg.pg hb hs) λV4 E H q_=>by
 have(Hf0,H0,Hf,M,o,T,p,k):=q_;unfold bZ at p
 cases v:fi M with
 |none=>rw[v]at p;nomatch p
 |some ds=>
  rw[v]at p;show(Hf0,H0,Hf,M,ds,T,v,λJ b3 H1 Q it=>?_);show(λi m σ' H'=>m=ds.length-i/\i<=ds.length/\∃Hf' ρ',ar _ Hf0 H0 Hf' H' σ' ρ'/\aq b3 Hf'/\iE g F (ds.drop i) ρ'=aa o,(ds.length,rfl,cj _,b3,M,T.step Q,aq.refl _,p),?_);rintro i m σ' H' ⟨rfl,hi',Hf',ρ',l,s1,em⟩;have(G,I):=it Hf' H' s1 l.sub i
  by_cases j:i<ds.length
  .have(d,Y,B):=yo j;have(go,yl):=G d Y;rw[B]at em;dsimp only[iE]at em;show .inr (go,λr H2=>ds.length-_=ds.length-_/\i+1<=ds.length/\∃Hf' ρ',ar _ Hf0 H0 Hf' H2 r ρ'/\aq b3 Hf'/\iE g F _ ρ'=aa o,λr H2 w=>(ds.length-(i+1),by lia,w),λx H2 y=>?_);have(bm,U,rx):=yl x H2 y
   cases C:g d ρ' with
   |none=>rw[C]at em;nomatch em
   |some ρ1=>
    rw[C]at em;replace em:(F ρ1).bind _=_:=em
    cases z:F ρ1 with
    |none=>rw[z]at em;nomatch em
    |some o1=>
     rw[z]at em;show(Hf0,H0,bm,ρ',d,ρ1,l.step U,rx,C,λσ3 N=>(Hf0,H0,bm,ρ1,o1,N,z,?_));have L:=s1.trans U.f
     cases o1 with
     |nx h=>show λn b u q e=>(rfl,j,b,h,e,L.trans q,em)
     |ct h=>show λn b u q e=>(rfl,j,b,h,e,L.trans q,em)
     |bk h=>cases em;show λn b u q e=>k n b u ((Q.f.trans L).trans q) e
     |rt d=>cases em;show k
     |rtO d=>cases em;show k
     |rtS d h=>cases em;show k
     |rtT o'=>cases em;show k
  .have ei:i=ds.length:=by lia
   subst ei;rw[drop_eq_nil_of_le (aL _)]at em;cases em;show .inl (I rfl,k σ' Hf' H' (Q.f.trans s1) l)
def oQ{F:MF3}(n:Nat)(G:PassesOwn (model X.prog X.w) X.A X.env X.xe)(C:DT c X cd t)(B:DSs c X a F):DS c X (.While cd a [] pos) (df t F n):=PS.imp (KO G C B) λV4 E H I=>by
 have(Hf0,H0,Hf,M,o,J,z,k):=I;show(λm σ' H'=>∃Hf' ρ',ar _ Hf0 H0 Hf' H' σ' ρ'/\aq Hf Hf'/\df t F m ρ'=aa o,(n,Hf,M,J,aq.refl _,z),?_);rintro m σ' H' ⟨Hf',ρ',i,s1,em⟩
 cases m with
 |zero=>nomatch em
 |succ m=>
  dsimp only[df]at em
  cases v:t ρ' with
  |none=>rw[v]at em;nomatch em
  |some b=>
   rw[v]at em;show(Hf0,H0,Hf',ρ',b,i,v,λbm H2 q=>?_)
   cases b with
   |false=>
    cases em
    show k σ' bm H2 (s1.trans q.f) (i.step q)
   |true=>
    cases u:F ρ' with
    |none=>rw[u]at em;nomatch em
    |some o1=>
     rw[u]at em;show(λp y=>∃Hf' ρ',ar _ Hf0 H0 Hf' y p ρ'/\aq Hf Hf'/\df t F m ρ'=aa o,λp y w=>(m,c6 _,w),Hf0,H0,bm,ρ',o1,i.step q,u,?_);have x:=s1.trans q.f
     cases o1 with
     |nx h=>show λj e r l g=>(e,h,g,x.trans l,em)
     |ct h=>show λj e r l g=>(e,h,g,x.trans l,em)
     |bk h=>cases em;show λj e r l g=>k j e r (x.trans l) g
     |rt d=>cases em;show k
     |rtO d=>cases em;show k
     |rtS d h=>cases em;show k
     |rtT o'=>cases em;show k
def NS{F:MF3}{V4:i5}(h:tDS G (eQ i F) V4 E H):tDS G F V4 E H:=by
 have(Hf0,H0,Hf,M,o,b,c,k):=h;unfold eQ yr at c;split at c
 .rename_i C es;have(l,e,f,a,vs,q,r):=b.ownAt rfl es;show(Hf0,H0,_,_,o,b.fixd (d:=.lst C) rfl es e q (l,vs,rfl,a8,r.up (bP a)),c,k.up (bP a))
 .rename_i ks C es;have(l,e,f,a,vs,q,z,r):=b.ownAt rfl es;show(Hf0,H0,_,_,o,b.fixd (d:=.dic ks C) rfl es e q (l,vs,rfl,a8,z,r.up (bP a)),c,k.up (bP a))
 .rename_i g ns C es;have(l,e,f,a,dx,vs,q,z,r):=b.ownAt rfl es;show(Hf0,H0,_,_,o,b.fixd (d:=.ins g ns C) rfl es e q (l,dx,vs,rfl,a8,z,r.up (bP a)),c,k.up (bP a))
 .show(Hf0,H0,Hf,M,o,b,c,k)
def lw{F:MF3}(i:Nat)(h:DS c X st F):DS c X st (eQ i F):=PS.imp h λ_ _ _=>NS
def NT{f:MF1}(h:PS X st (mE (tBM X.K "list" tS (cQ i) (i7 (tD (Gx c X) f) hU)))):DS c X st (c8 i f):=PS.imp h λV4 E H m=>by
 have(Hf0,H0,Hf,M,o,e,a,k):=m;unfold c8 at a
 cases b:f M with
 |none=>rw[b]at a;nomatch a
 |some d=>
  rw[b]at a;split at a
  .rename_i C es;split at a
   .rename_i j;cases a;have(l,g,p,u,vs,q,r):=e.ownAt rfl es;show(_,g,.inl (rfl,_,SqL.of q),Hf0,H0,Hf,M,d,e,b,λv Hf' H' x n=>?_);show(l,vs,v,rfl,rfl,(x.h _ _ q),by rw[du,<- r.length];show j,k E Hf' _ x.f ((e.step x).mutd rfl rfl es g (vs++[v],a8,(r.up x.f).append (.cons n .nil))))
   .nomatch a
  .nomatch a
def FB{f:MF1}(h:PS X st (mE (tBM X.K "list" xJ (cQ i) (i7 (tD (Gx c X) f) hU)))):DS c X st (ki i (kh f)):=PS.imp h λV4 E H u=>by
 have(Hf0,H0,Hf,M,o,g,b,k):=u;unfold ki kh at b
 cases e:f M with
 |none=>rw[e]at b;nomatch b
 |some d=>
  rw[e]at b
  cases d with
  |lst ds=>
   replace b:(match M[i]? with |some (.own C)=>if C.length+ds.length<=16777216 then aa _ else ab | _=>ab)=aa o:=b
   split at b
   .rename_i C es;split at b
    .rename_i p;cases b;have(l,j,z,A,vs,q,r):=g.ownAt rfl es;show(_,j,.inl (rfl,_,SqL.of q),Hf0,H0,Hf,M,.lst ds,g,e,λv Hf' H' x y=>?_);have(a,us,n,w,m):=y;subst n;show(l,a,vs,us,rfl,rfl,(x.h _ _ q),x.s _ _ w,by rw[du,<- r.length,<- m.length];show p,k E Hf' _ x.f ((g.step x).mutd rfl rfl es j (vs++us,a8,(r.up x.f).append m)))
    .grind
   .grind
  | _=>nomatch b
abbrev FC:Fl->OD
 |.rt d=>aa d
 |.rtO ds=>aa (.lst ds)
 |.rtS d _=>aa d
 |.nx _=>aa .non
 | _=>ab
abbrev fR(n:Nat)(ds:LD):LS:=ds.map .im++gX (n-ds.length) .no
abbrev aP(n:Nat)(F:MF3)(ds:LD):OD:=(F (fR n ds)).bind FC
abbrev jd(n:Nat)(F:MF3)(ds:LD):OLD:=(F (fR n ds)).bind λo=>match o with
 |.rtO ds=>aa ds
 | _=>ab
abbrev spD(G:Gc)(n:Nat)(m:LD->OD):Sp:=λvs H Q _=>∃Hf ds d,aq Hf H/\am G Hf ds vs/\ds.length=n/\m ds=aa d/\∀v Hf' H',Ext Hf H Hf' H'->Rep G Hf' d v->Q v H'
abbrev spO(G:Gc)(n:Nat)(m:LD->OLD):Sp:=λvs H Q _=>∃Hf ds L,aq Hf H/\am G Hf ds vs/\ds.length=n/\m ds=aa L /\
 ∀l us Hf' H',Ext Hf H Hf' H'->H l=ab->Hf' l=ab->H' l=aa (.lst us)->am G Hf' L us->Q (.ref l) H'
def ar.start(h:aq Hf H)(r:am G Hf ds vs):ar G Hf H Hf H (start N vs) (fR N.length ds):=by
 have im:∀i (s:Sl),(fR N.length ds)[i]?=aa s->s=.no\/∃d,ds[i]?=aa d/\s=.im d:=λi s b=>by
  unfold fR at b
  by_cases hi:i<ds.length
  .rw[lV (by simpa using hi)]at b;have(d,f,es):=oP b;show .inr (d,f,es)
  .rw[nP (by simpa using nY hi)]at b;have(_,e):=cU.mp b;rw[List.getElem_replicate]at e;show .inl e.symm
 show(Ext.refl h,by simp[L2.start,fR,r.length],λi v s a b=>?_,λi j s t v w l a b c d p q=>?_)
 .rcases im i s b with e |⟨d,f,es⟩
  .subst e;trivial
  .subst es;have(u,g,ru):=r.get f;show(u,?_,ru);unfold L2.start at a;rw[lV (by simpa using ((cU.mp g).1)),cH,g]at a;show(c9 a).symm
 .rcases im i s a with e |⟨d,f,es⟩
  .subst e;show(p.calm rfl).elim
  .subst es;show(p.calm rfl).elim
variable{P:cb}{mg:MGT}{base:Heap}{n_:Nat}{qual:Str}{f:Addr}{fd:cO}{ps:LSt}
def ba{k:Nat}{F:MF3}(q:Fun K x qual st f fd)(S:aC N ps (au st))
 (h:∀(cdv:Value) (A:b8) (outer:List Env) (s:ah) (H:Hp) (V4:XK),bv k (A.deeper (f7 qual (au st) s.heap.objs.size f cdv))->DSs c (iz CX0 P w K mg base N qual (au st) f cdv A outer s H V4).nox (fP st) F)(i:N.length=n_:=by rfl):
  cv P w K mg base CX0 (k+1) f fd ps (spD (K,c) ps.length (aP n_ F)):=by
 subst i;show q.ok S (λvs H Q V4 j=>by have(Hf,ds,d,p,r,a,_):=j;rw[<- r.length];show a) λcdv A outer s H vs Q V4 hr j=>?_;have(Hf,ds,d,p,r,a,e,b):=j;show(_,h cdv A outer s H V4 hr,?_);unfold aP at e
 cases g:F _ with
 |none=>rw[g]at e;nomatch e
 |some o=>
  rw[g]at e;show(Hf,H,Hf,_,o,ar.start p r,g,?_)
  cases o with
  |nx M=>cases e;show λσ' Hf' H' _ m=>b _ Hf' H' m.ext rfl
  |bk M=>nomatch e
  |ct M=>nomatch e
  |rt d=>cases e;show b
  |rtO L=>cases e;show λl vs Hf' H' x hn n a r=>b _ _ H' (x.fix hn n a) (l,vs,rfl,a8,r.up (bP n))
  |rtS d M=>cases e;show λv σ' Hf' H' m r=>b v Hf' H' m.ext r
  |rtT o=>nomatch e
def mS{k:Nat}{F:MF3}(l:Fun K x qual st f fd)(S:aC N ps (au st))
 (h:∀(cdv:Value) (A:b8) (outer:List Env) (s:ah) (H:Hp) (V4:XK),bv k (A.deeper (f7 qual (au st) s.heap.objs.size f cdv))->DSs c (iz CX0 P w K mg base N qual (au st) f cdv A outer s H V4).nox (fP st) F)(b:N.length=n_:=by rfl):
  cv P w K mg base CX0 (k+1) f fd ps (spO (K,c) ps.length (jd n_ F)):=by
 subst b;show l.ok S (λvs H Q V4 g=>by have(Hf,ds,d,j,r,i,_):=g;rw[<- r.length];show i) λcdv A outer s H vs Q V4 hr g=>?_;have(Hf,ds,L,j,r,i,e,m):=g;show(_,h cdv A outer s H V4 hr,?_);unfold jd at e
 cases a:F _ with
 |none=>rw[a]at e;nomatch e
 |some o=>
  rw[a]at e;show(Hf,H,Hf,_,o,ar.start j r,a,?_)
  cases o with
  |rtO n=>cases e;show m
  | _=>nomatch e
variable{fa:MF2}{k0:Nat}
def NU{k:Nat}(pk:Pk X.prog X.w X.K X.mg X.base CX0 k x (f,fd,) ps (spD (Gx c X) ps.length m))(j:bv k0 X.A)(ha:DA c X (e::es) fa)(z:(e::es).length=ps.length:=by rfl)(a:NDb x:=by decide)(u:StE X e es:=by rfl)(i:BkE X pos es:=by rfl)(h:k<=k0:=by decide)(y:Gl X x:=by first |rfl |exact glc rfl):
  DE c X (.Call (.Name x p) (e::es) [] pos) (av m fa):=PE.imp (qy pk.ok (j.mono h) y pk.g pk.kp pk.b .nil gD ha.pa a u i) λE H Q C=>by
 have(Hf0,H0,Hf,M,d,st,q,B):=C;have(ds,l,n):=yf q;show(Hf0,H0,Hf,M,ds,st,l,λvs Hf' H' x r=>?_);rw[bQ];show(Hf',ds,d,x.s,r,(ha.len M ds l).trans z,n,λv bm H2 I G=>B v bm H2 (x.trans I) G)
abbrev kj(m:LD->OLD)(f:MF2)(M:LS):OLD:=(f M).bind m
def NV{k:Nat}{m:LD->OLD}(pk:Pk X.prog X.w X.K X.mg X.base CX0 k x (f,fd,) ps (spO (Gx c X) ps.length m))(u:bv k0 X.A)(ha:DA c X (e::es) fa)(B:(e::es).length=ps.length:=by rfl)(i:NDb x:=by decide)(v:StE X e es:=by rfl)(q:BkE X pos es:=by rfl)(j:k<=k0:=by decide)(z:Gl X x:=by first |rfl |exact glc rfl):
  DO c X (.Call (.Name x p) (e::es) [] pos) (kj m fa):=PE.imp (qy pk.ok (u.mono j) z pk.g pk.kp pk.b .nil gD ha.pa i v q) λE H Q G=>by
 have(Hf0,H0,Hf,M,L,st,a,C):=G;unfold kj at a
 cases d:fa M with
 |none=>rw[d]at a;nomatch a
 |some ds=>
  rw[d]at a;show(Hf0,H0,Hf,M,ds,st,d,λvs Hf' H' x r=>?_);rw[bQ];show(Hf',ds,L,x.s,r,(ha.len M ds d).trans B,a,λl us bm H2 J hn y n I=>C l us bm H2 (x.trans J) (x.h.free hn) y n I)
def FD{G:Gc}{H:Hp}{f:Str}{d:D}:∀{ns:LSt} {ds:LD} {vs:LVv},(ns.zip ds).lookup f=aa d->am G H ds vs->∃v,(ns.zip vs).lookup f=aa v/\Rep G H d v
 | [],_,_,e,_=>by simp at e
 |n::ns,[],_,e,_=>by simp at e
 |n::ns,x::ds,_,e,q4_=>by
  have(v,r,b,c,h2):=q4_;subst b;simp only[e7,l6]at e;simp only[e7,l6]
  cases a:f==n with
  |true=>rw[a]at e;cases e;show(v,rfl,c)
  |false=>rw[a]at e;show FD e h2
def oR{f:Str}:∀{ns:LSt} {vs:LVv},ns.contains f=af->(ns.zip vs).lookup f=ab
 | [],_,_=>by simp
 |n::ns,[],_=>by rfl
 |n::ns,v::vs,h=>by
  rw[contains_cons,Bool.or_eq_false_iff]at h;simp only[e7,l6,h.1];show oR h.2
abbrev NW(cn f:Str):D->OD
 |.ins a ns ds=>if a=cn then (ns.zip ds).lookup f else ab
 | _=>ab
abbrev bc(cn f:Str)(m:MF1)(M:LS):OD:=(m M).bind (NW cn f)
abbrev aM(cn f:Str)(m:LD->OD)(fo:MF1)(fa:MF2)(M:LS):OD:=(fo M).bind λd=>match d with
 |.ins a ns ds=>if a=cn/\ns.contains f=af then (fa M).bind λas=>m (.ins a ns ds::as) else ab
 | _=>ab
variable{fl:Str}{fo:MF1}
def NX{o:Expr}(cn:Str)(l:Cls X.K (c cn))(hn:cJ X.K (c cn) fl)(m:DE c X o fo)(j:oe o fl X.env (eval o X.env)=eval o X.env:=by rfl):DE c X (.Attribute o fl pos) (bc cn fl fo):=
 PE.imp (En m j) λE H Q n=>by
  have(Hf0,H0,Hf,M,d,st,b,k):=n;unfold bc at b
  cases e:fo M with
  |none=>rw[e]at b;nomatch b
  |some y=>
   rw[e]at b
   cases y with
   |ins g ns ds=>
    replace b:(if g=cn then (ns.zip ds).lookup fl else ab)=aa d:=b;split at b
    .rename_i f;subst f;show(Hf0,H0,Hf,M,_,st,e,λv Hf' H' x r=>?_);have(a,dx,vs,i,q,p,L):=r;have(u,h,ru):=FD b L;show(a,c g,dx,ns.zip vs,u,i,x.s _ _ q,l,hn,h,k u Hf' H' x ru)
    .grind
   | _=>nomatch b
variable{apos:Pos}{pl:Sem Bool}
def NY{k:Nat}{o:Expr}(cn:Str)(Y:DE c X o fo)(pk:Pm X.prog X.w X.K X.mg X.base CX0 k (c cn) fl (f,fd,) ps (spD (Gx c X) ps.length m))(B:bv k0 X.A)(ha:DA c X (e::es) fa)(U:(e::es).length+1=ps.length:=by rfl)(C:StE X e es:=by rfl)(z:BkE X pos es:=by rfl)(ht:eval (.Call (.Attribute o fl apos) (e::es) [] pos) X.env=(do
   let ov <- eval o X.env
   gz apos.atName
   let (f,first,) <- eJ [ov] (g4 ov fl pl)
   jD pos f first (ce pos (aN (e::es) X.env)) (iq pos (ip [] X.env))):=by rfl)(n:k<=k0:=by decide):
  DE c X (.Call (.Attribute o fl apos) (e::es) [] pos) (aM cn fl m fo fa):=PE.imp (xB Y pk.c pk.m pk.ok (B.mono n) pk.b .nil gD ha.pa C z ht) λE H Q q_=>by
 have(Hf0,H0,Hf,M,d,st,g,kq):=q_;unfold aM at g
 cases j:fo M with
 |none=>rw[j]at g;nomatch g
 |some y=>
  rw[j]at g
  cases y with
  |ins I ns ds=>
   replace g:(if I=cn/\ns.contains fl=af then (fa M).bind λas=>m _ else ab)=aa d:=g;split at g
   .rename_i l;have(rfl,p):=l
    cases h:fa M with
    |none=>rw[h]at g;nomatch g
    |some as=>
     rw[h]at g;show(Hf0,H0,Hf,M,_,st,j,λv Hf' H' x r=>?_);have(a,dx,vs,T,q,J,L):=id r;show(a,dx,ns.zip vs,T,x.s _ _ q,oR p,Hf0,H0,Hf',M,as,st.step x,h,λws bm H2 G r2=>?_);rw[bQ];show(bm,.ins I ns ds::as,d,G.s,.cons (r.up G.f) r2,by rw[cr,ha.len M as h];show U,g,λu i N x3 r3=>kq u i N ((x.trans G).trans x3) r3)
   .nomatch g
  | _=>nomatch g
def NZ{k:Nat}{o:Expr}(cn:Str)(I:DE c X o fo)(pk:Pm X.prog X.w X.K X.mg X.base CX0 k (c cn) fl (f,fd,) ps (spD (Gx c X) ps.length m))(n:bv k0 X.A)(G:1=ps.length:=by rfl)(J:eval (.Call (.Attribute o fl apos) [] [] pos) X.env=(do
   let ov <- eval o X.env
   gz apos.atName
   let (f,first,) <- eJ [ov] (g4 ov fl pl)
   jD pos f first (ce pos (aN [] X.env)) (iq pos (ip [] X.env))):=by rfl)(j:k<=k0:=by decide):
  DE c X (.Call (.Attribute o fl apos) [] [] pos) (aM cn fl m fo λ_=>aa []):=PE.imp (xC I pk.c pk.m pk.ok (n.mono j) pk.b .nil gD J) λE H Q T=>by
 have(Hf0,H0,Hf,M,d,st,e,N):=T;dsimp only[aM]at e
 cases h:fo M with
 |none=>rw[h]at e;nomatch e
 |some y=>
  simp only[h]at e
  cases y with
  |ins B ns ds=>
   replace e:(if B=cn/\ns.contains fl=af then (aa []).bind λas=>m _ else ab)=aa d:=e;split at e
   .rename_i i;have(rfl,l):=i;show(Hf0,H0,Hf,M,_,st,h,λv Hf' H' x r=>?_);have(a,dx,vs,C,q,p,L):=id r;show(a,dx,ns.zip vs,C,x.s _ _ q,oR l,(Hf',_,d,x.s,.cons r .nil,G,e,λu g z Y U=>N u g z (x.trans Y) U))
   .nomatch e
  | _=>nomatch e
abbrev uk:List (Str×(MF1))->LS->LSt->LD->Option (LSt×LD)
 | [],_,ns,ds=>aa (ns,ds,)
 |(f,m,)::r,M,ns,ds=>(m M).bind λd=>if ns.contains f then ab else uk r M (ns++[f]) (ds++[d])
abbrev N0(G:Gc)(cn:Str)(fs:List (Str×(MF1))):TS:=λV4 E H=>∃x dx Hf0 H0 Hf M ns us ds r,E[0]?=aa (aa (.ref x))/\(∀s∈M,Sl.calm s=ac)/\ar G Hf0 H0 Hf H E M/\H0 x=ab/\Hf x=ab /\
 H x=aa (.ins (G.cl cn) dx (ns.zip us))/\ns.length=us.length/\ns.length+fs.length<=900/\am G Hf ds us/\uk fs M ns ds=aa r /\
 ∀a Hf' H',Ext Hf0 H0 Hf' H'->Hf' x=ab->H' x=aa (.ins (G.cl cn) dx (r.1.zip a))->r.1.length=a.length->am G Hf' r.2 a->V4.nx E H'
abbrev DSI(c:Str->Addr)(X:Cx)(cn:Str)(sts:List Stmt)(fs:List (Str×(MF1))):Prop:=PSs X sts (N0 (Gx c X) cn fs)
def qR{f:Str}{v:V}:∀{ns:LSt} {us:LVv},ns.length=us.length->ns.contains f=af->c7 f v (ns.zip us)=(ns++[f]).zip (us++[v])
 | [],[],_,_=>rfl
 |n::ns,u::us,hl,h=>by
  rw[contains_cons,Bool.or_eq_false_iff]at h;have a:¬(n=f):=λz=>by rw[z,beq_self_eq_true]at h;cases h.1
  rw[e7];unfold c7
  first
   |(rw[if_neg a,qR (by simpa using hl) h.2];rfl)
   |(rw[if_neg _,qR (by simpa using hl) h.2];rfl)
   |(rw[if_neg (by simpa using a),qR (by simpa using hl) h.2];rfl)
   |(rw[if_neg (by simpa using λz=>a _),qR (by simpa using hl) h.2];rfl)
 | [],_::_,hl,_=>by cases hl
 | _::_,[],hl,_=>by cases hl
def um{cn:Str}:DSI c X cn [] []:=PSs.imp D6 λV4 E H q=>by
 have(x,dx,Hf0,H0,Hf,M,ns,us,ds,r,e0,no,e,f,a,d,b,hz,rd,em,k):=q;cases em;show k us Hf H e.ext a d b rd
variable{m:MF1}{fs:List (Str×(MF1))}
def oS{cn:Str}{o:Expr}(L:Cls X.K (c cn))(hn:cJ X.K (c cn) fl)(T:PE X o (cQ 0))(N:DE c X e m)(h:DSI c X cn sts fs)(A:f8 e (aa (.Attribute o fl b4)) pos.line X.env=pure af:=by rfl):
  DSI c X cn (.Assign [.Attribute o fl b4] e pos::sts) ((fl,m,)::fs):=PSs.imp (tI (xy T N A) h) λV4 E H q=>by
 have(x,dx,Hf0,H0,Hf,M,ns,us,ds,r,e0,no,J,C,Q,I,G,hz,rd,em,k):=q;unfold uk at em
 cases z:m M with
 |none=>rw[z]at em;nomatch em
 |some d=>
  rw[z]at em;split at em
  .grind
  .rename_i l;have l:ns.contains fl=af:=by grind
   show(Hf0,H0,Hf,M,d,J,z,λv Hf' H' y rv=>(_,e0,x,c cn,dx,ns.zip us,rfl,y.h _ _ I,L,hn,?_,?_))
   .grind
   .have j:Hf' x=ab:=by rw[y.n _ _ I rfl];show Q
    have g:=J.step y
    have B:ar (Gx c X) Hf0 H0 Hf' (upd H' x (.ins (c cn) dx (c7 fl v (ns.zip us)))) E M:=by
     show g.re (g.ext.f,λb u e=>?_,λb u e=>?_,g.ext.n) rfl (λi w s a b=>?_) λi s w a b _ p=>(p.calm (no s (dH b))).elim
     .rw[aK (fq e C)];show g.ext.h b u e
     .rw[aK (fq e j)];show g.ext.s b u e
     .have A:=no s (dH b);have q:=g.at' i w s a b
      cases s with
      |no=>trivial
      |im d=>show q
      | _=>nomatch A
    show(x,dx,Hf0,H0,Hf',M,ns++[fl],us++[v],ds++[d],r,e0,no,B,C,j,?_,by rw[aR,aR,G];rfl,by rw[cr]at hz;rw[aR,fZ];lia,(rd.up y.f).append (.cons rv .nil),em,k);rw[a8,qR G l]
abbrev del(H:Hp)(x:Addr):Hp:=λb=>if b=x then ab else H b
def FE{x:Addr}:del H x x=ab:=if_pos rfl
def FF{x b:Addr}(h:b≠x):del H x b=H b:=if_neg h
abbrev qS(n:Nat)(fs:List (Str×(MF1)))(as:LD):Option (LSt×LD):=uk fs (.no::(as.map .im++gX (n-1-as.length) .no)) [] []
abbrev spI(G:Gc)(cn:Str)(n:Nat)(m:LD->Option (LSt×LD)):Sp:=λvs H Q _=>∃x dx Hf as a r,vs=.ref x::a/\H x=aa (.ins (G.cl cn) dx [])/\Hf x=ab/\aq Hf H/\am G Hf as a/\as.length+1=n/\m as=aa r /\
 ∀us Hf' H',Ext Hf (del H x) Hf' H'->Hf' x=ab->H' x=aa (.ins (G.cl cn) dx (r.1.zip us))->r.1.length=us.length->am G Hf' r.2 us->Q .non H'
def uq{x qual cn:Str}{k:Nat}(G:Fun K x qual st f fd)(S:aC N ps (au st))
 (h:∀(cdv:Value) (A:b8) (outer:List Env) (s:ah) (H:Hp) (V4:XK),bv k (A.deeper (f7 qual (au st) s.heap.objs.size f cdv))->DSI c (iz CX0 P w K mg base N qual (au st) f cdv A outer s H V4).nox cn (fP st) fs)
 (hz:fs.length<=900:=by decide)(y:N.length=n_:=by rfl):cv P w K mg base CX0 (k+1) f fd ps (spI (K,c) cn ps.length (qS n_ fs)):=by
 subst y;show G.ok S (λvs H Q V4 q=>by have(x,dx,Hf,as,z,r,n,_,_,_,g,E,_):=q;subst n;rw[cr,<- g.length];show E) λcdv A outer s H vs Q V4 hr q=>(_,h cdv A outer s H V4 hr,?_);have(x,dx,Hf,as,z,r,n,U,M,s0,g,E,e,Y):=q;subst n;have la:=g.length
 have im:∀i s,(Sl.no::(as.map Sl.im++gX (N.length-1-as.length) .no))[i]?=aa s->s=.no\/∃d j,i=j+1/\as[j]?=aa d/\s=.im d:=λi s b=>by
  cases i with
  |zero=>left;simpa using b.symm
  |succ i=>
   rw[gV]at b
   by_cases hi:i<as.length
   .rw[lV (by simpa using hi)]at b;have(d,m,es):=oP b;show .inr (d,i,rfl,m,es)
   .rw[nP (by simpa using nY hi)]at b;have(_,e):=cU.mp b;rw[List.getElem_replicate]at e;show .inl e.symm
 have no:∀s∈_,Sl.calm s=ac:=λs T=>by
  have(i,hi):=nR T
  rcases im i s hi with e |⟨d,_,_,_,e⟩ <;> (subst e;rfl)
 show(x,dx,Hf,del H x,Hf,_,[],[],[],r,rfl,no,((aq.refl _,λb o e=>?_,s0,λ_ _ _ _=>rfl),?_,λi v s a b=>?_,λi j s t v w l a b _ _ p _=>((p.calm (no s (dH a))).elim)),FE,M,U,rfl,by simpa using hz,rfl,e,λus Hf' H' xx I h2 J L=>Y us Hf' H' xx I h2 J L)
 .by_cases C:b=x
  .subst C;rw[FE]at e;nomatch e
  .rw[FF C]at e;show e
 .unfold L2.start;simp only[aR,aA,cr,lW]
  lia
 .rcases im i s b with e |⟨d,j,ei,m,es⟩
  .subst e;trivial
  .subst es ei;have(u,B,ru):=g.get m;show(u,?_,ru);unfold L2.start at a;rw[bF,kM,gV,lV (by simpa using ((cU.mp B).1)),cH,B]at a;show(c9 a).symm
abbrev iF(cn:Str)(m:LD->Option (LSt×LD))(fa:MF2)(M:LS):OD:=(fa M).bind λas=>(m as).map λr=>.ins cn r.1 r.2
def oT{k:Nat}{m:LD->Option (LSt×LD)}(cn:Str)(U:Mk X.K (c cn) f)(F:cv X.prog X.w X.K X.mg X.base CX0 k f fd ps (spI (Gx c X) cn ps.length m))(hr:bv (k+1) X.A)(hg:Gl X x)(hm:X.mg x=aa (.ref (c cn)))(Y:dS X.K fd ps [])(ha:DA c X (e::es) fa)
 (hl:(e::es).length+1=ps.length:=by rfl)(G:NDb x:=by decide)(he:StE X e es:=by rfl)(I:BkE X pos es:=by rfl):
  DE c X (.Call (.Name x p) (e::es) [] pos) (iF cn m fa):=PE.imp (Ep U F hr hg hm Y .nil gD ha.pa G he I) λE H Q q_=>by
 have(Hf0,H0,Hf,M,d,st,a,kq):=q_;unfold iF at a
 cases j:fa M with
 |none=>rw[j]at a;nomatch a
 |some as=>
  rw[j]at a;replace a:(m as).map _=_:=a
  cases C:m as with
  |none=>rw[C]at a;nomatch a
  |some r=>
   rw[C]at a;cases a;show(Hf0,H0,Hf,M,as,st,j,λvs Hf' H' B rv y dx v L N=>?_);rw[bQ];have hy:(upd H' dx (.own y)) y=ab:=by rw[aK N.symm];show v
   have s1:aq H' (upd H' dx (.own y)):=bP L;have s2:=s1.trans (bP (o:=.ins (c cn) dx []) hy)
   have T:aq H' (del _ y):=λb u q=>by
    have:=fq q v;rw[FF this];show s2 b u q
   show(y,dx,Hf',as,vs,r,rfl,a8,B.s.free v,B.s.trans s2,rv,by rw[ha.len M as j];show hl,C,λus bm H2 z g J i r2=>(rfl,?_));have x3:Ext Hf' H' bm H2:=(z.f,T.trans z.h,z.s,λl u q t=>z.n l u (T l u q) t);show kq _ _ H2 ((B.trans x3).fix (B.h.free v) g J) (y,dx,us,rfl,a8,i,r2.up (bP g))
variable{r:Option Fl}
def ur{F F':MF3}(h:F M=aa (.nx ρ'))(h':F' ρ'=r):ai F F' M=r:=by
 unfold ai;rw[h];show h'
def N1{F F':MF3}(h:F M=aa (.rt d)):ai F F' M=aa (.rt d):=by
 unfold ai;rw[h];rfl
def N2{F F':MF3}(h:t M=aa ac)(h':F M=r):bi t F F' M=r:=by
 unfold bi;rw[h];show h'
def N3{F F':MF3}(h:t M=aa af)(h':F' M=r):bi t F F' M=r:=by
 unfold bi;rw[h];show h'
def FG{f:MF1}(h:f M=aa d):aX i f M=aa (.nx (M.set i (.im d))):=by
 unfold aX;rw[h];rfl
def N4{f:MF2}{d:LD}(h:f M=aa d):cL i f M=aa (.nx (M.set i (.own d))):=by
 unfold cL;rw[h];rfl
def dA{f:MF1}(h:f M=aa d):bf f M=aa (.rt d):=by
 unfold bf;rw[h];rfl
def dB{F:MF3}(h:F (fR n ds)=aa (.rt d)):aP n F ds=aa d:=by
 unfold aP;rw[h];rfl
def lx{F:MF3}{d:LD}(h:F (fR n ds)=aa (.rtO d)):aP n F ds=aa (.lst d):=by
 unfold aP;rw[h];rfl
def aE{m:LD->OD}{f:MF2}(h:f M=aa ds)(h':m ds=aa d):av m f M=aa d:=by
 unfold av;rw[h];show h'
def ut{a:Type}{h:D->Option OD}(f:a->D)(p:a->Bool)(q:a->D):∀(C:List a),(∀x∈C,h (f x)=aa (if p x then aa (q x) else ab))->eP h (C.map f)=aa ((C.filter p).map q)
 | [],_=>rfl
 |x::C,hh=>by
  rw[bF];unfold eP;rw[hh x az,ut f p q C λy b=>hh y (bh _ b)]
  grind
def N5{a:Type}{h:D->Option OD}(f:a->D)(q:a->D)(C:List a)(b:∀x∈C,h (f x)=aa (aa (q x))):eP h (C.map f)=aa (C.map q):=by
 have:=ut f (λ_=>ac) q C λx c=>(b x c).trans rfl;rw[this,filter_eq_self.mpr λ_ _=>rfl]
def eR{a:Type}{k:Nat}(C:List a)(f:a->D)(p:a->Bool)(q:a->D)
 (hi:fi M=aa (C.map f))(hz:C.length<=16777216)(b:∀x∈C,gJ g ft fe (iD k js M) (f x)=aa (if p x then aa (q x) else ab)):bq k js fi g ft fe M=aa ((C.filter p).map q):=by
 unfold bq;rw[hi];change(if (C.map f).length<=16777216 then _ else ab)=_;rw[aA,if_pos hz];show ut f p q C b
def gK{a:Type}{k:Nat}(C:List a)(f:a->D)(q:a->D)
 (hi:fi M=aa (C.map f))(hz:C.length<=16777216)(b:∀x∈C,gJ g ft fe (iD k js M) (f x)=aa (aa (q x))):bq k js fi g ft fe M=aa (C.map q):=by
 unfold bq;rw[hi];change(if (C.map f).length<=16777216 then _ else ab)=_;rw[aA,if_pos hz];show N5 f q C b
def FH{d:Type}{g:D->LS->Option LS}{F:MF3}(f:d->D)(I:List d->LS->Prop):∀(post pre:List d) (M:LS),I pre M ->
  (∀a x c M,pre++post=a++x::c->I a M->∃ρ1 b,g (f x) M=aa ρ1/\(F ρ1=aa (.nx b)\/F ρ1=aa (.ct b))/\I (a++[x]) b)->∃ρ',iE g F (post.map f) M=aa (.nx ρ')/\I (pre++post) ρ'
 | [],pre,M,h,_=>(M,rfl,by rw[bQ];show h)
 |x::post,pre,M,h,hs=>by
  have(ρ1,b,i,j,h2):=hs pre x post M rfl h;have(ρ',l,e):=FH f I post _ b h2 (by rw[cI];show hs);show(ρ',?_,by rw[cI]at e;show e);rw[bF];unfold iE
  grind
def N6{b:Type}{F:MF3}(C:List b)(f:b->D)(I:List b->LS->Prop)(hi:fi M=aa (C.map f))(c:I [] M)
 (d:∀pre x post M,C=pre++x::post->I pre M->∃ρ1 a,g (f x) M=aa ρ1/\(F ρ1=aa (.nx a)\/F ρ1=aa (.ct a))/\I (pre++[x]) a):∃ρ',bZ fi g F M=aa (.nx ρ')/\I C ρ':=by
 unfold bZ;rw[hi];show FH f I C [] M c d
def N7(lo:Int)(n:Nat):rng lo n=(bO n).map λ(i:Nat)=>D.int (lo+i):=rfl
def N8{ns:LI0}:jb [.lst (ns.map D.int)]=aa (.int ns.sum):=by
 change(gH _).map _=_;rw[Nz];rfl
variable{i:Int}
def km{b:Type}{f:b->D}{C:List b}(c:0<=i)(d:i<C.length):∃x,C[i.toNat]?=aa x/\atI (C.map f) i=aa (f x):=by
 have a:i.toNat<C.length:=by lia
 show(C[i.toNat],by simp[a],?_);have:=LY (C:=C.map f) (j:=i.toNat) (v:=f C[i.toNat]) (by simp[a]);rw[show i.toNat=i by lia]at this;show this
def ly{a:Type}{f:a->D}{C:List a}(d:a)(e:0<=i)(g:i<C.length):atI (C.map f) i=aa (f (C.getD i.toNat d)):=by
 have(x,b,c):=km e g;rw[c,bH,b];rfl
abbrev fS:Nat->D->Prop
 | 0,_=>False
 |n+1,d=>match d with
  |.lst C=>∀x∈C,fS n x
  |.tup C=>∀x∈C,fS n x
  |d=>d.scalar=ac
def yt{f:D->D->Option Bool}:∀(C:LD),(∀x∈C,f x x=aa ac)->cX f C C=aa ac
 | [],_=>rfl
 |x::C,h=>by
  unfold cX;rw[h x az,yt C λy a=>h y (bh _ a)];rfl
def yu:∀(n:Nat) (d:D),fS n d->deq n d d=aa ac
 | 0,_,h=>h.elim
 |n+1,d,h=>by
  cases d with
  |lst C=>
   change(if C.length=C.length then cX _ C C else aa af)=_;rw[if_pos rfl]
   show yt C λx a=>yu n x (h x a)
  |tup C=>
   change(if C.length=C.length then cX _ C C else ab)=_;rw[if_pos rfl]
   show yt C λx a=>yu n x (h x a)
  |non=>rfl
  |bl b=>change aa (b==b)=_;rw[beq_self_eq_true]
  |int b=>change aa (b==b)=_;rw[beq_self_eq_true]
  |str b=>change aa (b==b)=_;rw[beq_self_eq_true]
  | _=>cases h
def fS.mono:∀(n:Nat) (d:D),fS n d->fS (n+1) d
 | 0,_,h=>h.elim
 |n+1,d,h=>by
  cases d with
  |lst C=>show λx a=>fS.mono n x (h x a)
  |tup C=>show λx a=>fS.mono n x (h x a)
  | _=>show h
def fS.le{m:Nat}(h:fS n d)(hm:n<=m):fS m d:=by
 induction hm with
 |refl=>show h
 |step _ a=>show fS.mono _ _ a
def N9(h:fS 20 d):dEq d d=aa (.bl ac):=by
 unfold dEq;rw[yu 20 d h];rfl
def ko(i j:Int):dEq (.int i) (.int j)=aa (.bl (i==j)):=rfl
def qT(i j:Str):dEq (.str i) (.str j)=aa (.bl (i==j)):=rfl
variable{f:MF1}
def ap{m:D->D->OD}{g:MF1}{x:D}(a:f M=aa x)(h2:g M=aa y)(b:m x y=aa d):m2 m f g M=aa d:=by
 unfold m2;rw[a,h2];show b
variable{b:Bool}
def bB(h:f M=aa (.bl b)):mB f M=aa b:=by
 unfold mB;rw[h];rfl
def dh(h:f M=aa d)(h':mM d=aa b):bK f M=aa b:=by
 unfold bK;rw[h];show h'
variable{f:MF4}
def oU(h:f M=aa b):gG f M=aa (!b):=by
 unfold gG;rw[h];rfl
variable{g:MF4}
def Oa{r:Option Bool}(h:f M=aa ac)(h':g M=r):dC f g M=r:=by
 unfold dC;rw[h];show h'
def Ob(h:f M=aa af):dC f g M=aa af:=by
 unfold dC;rw[h];rfl
def Oc(h:f M=aa ac):mOr f g M=aa ac:=by
 unfold mOr;rw[h];rfl
def Od{r:Option Bool}(h:f M=aa af)(h':g M=r):mOr f g M=r:=by
 unfold mOr;rw[h];show h'
variable{a:Bool}
def jI(h:f M=aa a)(h':g M=aa b):dC f g M=aa (a && b):=by
 cases a with
 |true=>show Oa h h'
 |false=>show Ob h
def mT(h:f M=aa a)(h':g M=aa b):mOr f g M=aa (a || b):=by
 cases a with
 |true=>show Oc h
 |false=>show Od h h'
variable{f:MF1}
def jJ{g:MF1}(h:f M=aa (.bl a))(h':g M=aa (.bl b)):ja f g M=aa (.bl (a && b)):=by
 unfold ja;rw[bB h]
 grind
def FI{g:MF1}(h:f M=aa (.bl a))(h':g M=aa (.bl b)):vOr f g M=aa (.bl (a || b)):=by
 unfold vOr;rw[bB h]
 grind
def ao{g:MF2}(h:f M=aa d)(h':g M=aa ds):ag f g M=aa (d::ds):=by
 unfold ag;rw[h,h'];rfl
variable{f:MF2}
def cS(h:f M=aa ds):bn f M=aa (.tup ds):=by
 unfold bn;rw[h];rfl
def bR(h:f M=aa ds):aO f M=aa (.lst ds):=by
 unfold aO;rw[h];rfl
def bg{g:MF1}{r:OD}(h:f M=aa ds)(h':g M=aa (.int i))(h2:atI ds i=r):mIx f g M=r:=by
 unfold mIx;rw[h,h'];show h2
def uu{V5:Int->Int->Prop}[∀i j,Decidable (V5 i j)]{g:Int->Int->D}{j:Int}(h:V5 i j):dI V5 g (.int i) (.int j)=aa (g i j):=by
 change(if V5 i j then aa _ else ab)=_;rw[if_pos h]
variable{f:MF1}
def Oe{i:Nat}(h:f M=aa d)(h':M[i]?=aa (.own C))(a:C.length<16777216):c8 i f M=aa (.nx (M.set i (.own (C++[d])))):=by
 unfold c8;rw[h,h'];change(if C.length<16777216 then _ else ab)=_;rw[if_pos a]
variable{ρ1:LS}
def dM{g:D->LS->Option LS}(a:g d M=aa ρ1)(h2:ft ρ1=aa b)(c:b=ac->fe ρ1=aa y):gJ g ft fe M d=aa (if b then aa y else ab):=by
 unfold gJ
 grind
def gg{g:D->LS->Option LS}(a:g d M=aa ρ1)(h2:ft ρ1=aa ac)(b:fe ρ1=aa y):gJ g ft fe M d=aa (aa y):=dM a h2 λ_=>b
def eS(h:f M=aa d)(h':iB d=aa ds):aV f M=aa ds:=by
 unfold aV;rw[h];show h'
variable{g:MF1}
def dN(h:f M=aa d):be f g M=aa d:=by
 unfold be;rw[h];rfl
def bC{r:OD}(h:f M=ab)(h':g M=r):be f g M=r:=by
 unfold be;rw[h];show h'
def qU{f:MF2}{n:Int}(h:f M=aa [.int n])(b:0<=n)(a:n<2 ^ 62):iC f M=aa ((bO n.toNat).map λ(i:Nat)=>D.int i):=by
 unfold iC;rw[h];change(if -_<=n/\n<2 ^ 62 then aa _ else ab)=_;rw[if_pos (by lia,a),N7]
 grind
variable{m:LD->OD}{ns:LSt}
def cy{cn f:Str}{as:LD}(h:fo M=aa (.ins cn ns ds))(hn:ns.contains f=af)(h':fa M=aa as):aM cn f m fo fa M=m (.ins cn ns ds::as):=by
 unfold aM
 grind
def bD{cn f a:Str}(h:fo M=aa (.ins a ns ds))(hn:a≠cn):aM cn f m fo fa M=ab:=by
 unfold aM
 grind
abbrev itD(z:Int×Int):D:=.tup [.int z.1,.int z.2]
abbrev shD:Option Bool->D
 |none=>.non
 |some b=>.bl b
abbrev InN(n:Nat)(B:LII):Prop:=∀z∈B,0<=z.1/\z.1<(n:Int)/\0<=z.2
def Of(bs:LI0):fS 2 (.lst (bs.map D.int)):=λx a=>by
 have(b,_,rfl):=aJ.mp a;show rfl
def je{es:LOB}(a:0<=i)(b:i<es.length):atI (es.map shD) i=aa (shD (es.getD i.toNat ab)):=ly ab a b
def jK{es:LB0}(a:0<=i)(b:i<es.length):atI (es.map D.bl) i=aa (.bl (es.getD i.toNat af)):=ly af a b
def oV(e:Option Bool)(b:Bool):dIs (shD e) (.bl b)=aa (.bl (e==aa b)):=by
 cases e with
 |none=>rfl
 |some c=>cases b <;> cases c <;> rfl
def FJ(e:Option Bool)(b:Bool):gc (shD e) (.bl b)=aa (.bl (!(e==aa b))):=by
 cases e with
 |none=>rfl
 |some c=>cases b <;> cases c <;> rfl
abbrev Prt.toD:Prt->D
 |.inn t=>.tup [.str "in",.int t]
 |.out t=>.tup [.str "out",.int t]
 |.least k B=>.tup [.str "least",.int k,.lst (B.map itD)]
 |.most k B=>.tup [.str "most",.int k,.lst (B.map itD)]
abbrev Prt.obj:Prt->D
 |.inn t=>.ins "In" ["thing"] [.int t]
 |.out t=>.ins "Out" ["thing"] [.int t]
 |.least k B=>.ins "Least" ["bound","pieces"] [.int k,.lst (B.map itD)]
 |.most k B=>.ins "Most" ["bound","pieces"] [.int k,.lst (B.map itD)]
abbrev Prt.Ok(n:Nat):Prt->Prop
 |.inn t=>0<=t/\t<(n:Int)
 |.out t=>0<=t/\t<(n:Int)
 |.least _ B=>InN n B/\B.length<=100000
 |.most _ B=>InN n B/\B.length<=100000
def Og(p:Int->Bool)(B:LII):((B.filter λz=>p z.1).map λz=>D.int z.2)=((B.filter λz=>p z.1).map (·.2)).map D.int:=by
 rw[map_map];rfl
def yv(p:Int->Bool)(B:LII):jb [.lst ((B.filter λz=>p z.1).map λz=>D.int z.2)]=aa (.int (bY p B)):=by
 rw[Og,N8];rfl
def FK:∀{bs:LB0} {us:LVa},aG (bs.map V.bl) us->us=bs.map k6
 | [],_,.nil=>rfl
 |b::bs,_,.cons r t=>by
  rw[FK t];cases (r);rfl
def Oh(bs:LB0):((bO bs.length).any λi=>(bs[i]?).getD af)=bs.any id:=by
 rw[jT,any_eq_true,any_eq_true];constructor
 .rintro⟨i,hi,e⟩;have a:=fI.mp hi;simp only[b6 a]at e;show(_,ij a,e)
 .rintro⟨b,c,e⟩;have(i,hi,rfl):=List.getElem_of_mem c;show(i,fI.mpr hi,by simp only[b6 hi];show e)
def Oi{h:Heap}{o:Obj}(a:∀b x,b∉[h.objs.size]->(h.push o).get? b=aa x->h'.get? b=aa x):∀b x,h.get? b=aa x->h'.get? b=aa x:=
 λb x e=>a b x (λhm=>by rw[bw.mp hm]at e;show gy _ (bz e)) (bx _ e)
def Oj(j:X.calm=ac):iy X (.builtin "any") (λC H Q=>∃(p:Addr) (bs:LB0),C=[.ref p]/\SqL X.K H p (bs.map V.bl)/\Q (.bl (bs.any id)) H):=by
 intro U s E H C us Q I r h;have(l,bs,rfl,n,q):=h;have(u,rfl,x):=mG r;subst x;have(B,w,pl,hz):=I.list n;have e:=FK w;subst e;have c:=pl.isList;have d:l<s.heap.objs.size:=by have(_,e,_):=c;show bz e
 show call_any_walk (wpAny_pyIter_list c ?_)
 show(s.heap.objs.size,_,_,(bs.map k6).toArray.size,_,_,λi=>(bs[i]?).getD af,rfl,Walks.list (A:=X.A.in1) (I.ok.hd j) _ l (bW d) (bs.map k6).toArray,
  ((_,cP _ rfl,rfl,rfl),c.push _),λi v G z y g f=>?_,λh' J m=>?_)
 .have a:(bs.map k6)[i]?=aa v:=by simpa using g
  have(b,e,rfl):=oP a;simp only[e]at f;show n9 f
 .have e:((bO (bs.map k6).toArray.size).any λi=>(bs[i]?).getD af)=bs.any id:=by
   rw[size_toArray,aA];show Oh bs
  rw[e];show(.bl _,H,I.kept (Oi m),rfl,q)
abbrev jf:LD->Option (LB0)
 | []=>aa []
 |.bl b::ds=>(jf ds).map λr=>b::r
 | _=>ab
def FL:∀{ds:LD} {bs:LB0},jf ds=aa bs->ds=bs.map D.bl
 | [],_,e=>by cases e;rfl
 |.bl b::ds,_,e=>by
  dsimp only[jf]at e
  cases es:jf ds with
  |none=>rw[es]at e;cases e
  |some r=>rw[es]at e;cases e;rw[FL es];rfl
 |.int _::_,_,e=>by cases e
 |.non::_,_,e=>by cases e
 |.str _::_,_,e=>by cases e
 |.lst _::_,_,e=>by cases e
 |.tup _::_,_,e=>by cases e
 |.kl _::_,_,e=>by cases e
 |.kt _::_,_,e=>by cases e
 |.dic _ _::_,_,e=>by cases e
 |.ins _ _ _::_,_,e=>by cases e
def Ol(bs:LB0):jf (bs.map D.bl)=aa bs:=by
 induction bs with
 |nil=>rfl
 |cons n ns a=>rw[bF,jf,a];rfl
def am.bls{G:Gc}{H:Hp}:∀{bs:LB0} {vs:LVv},am G H (bs.map D.bl) vs->vs=bs.map V.bl
 | [],_,h=>h
 |b::bs,_,q2_=>by
  have(v,r,e,a,h2):=q2_;subst e;rw[am.bls h2,show v=V.bl b from a];rfl
abbrev oW:LD->OD
 | [d]=>(lsD d).bind λds=>(jf ds).map λbs=>.bl (bs.any id)
 | _=>ab
def FM{f:LB0->D}(e:(match ds with | [d]=>(lsD d).bind λds=>(jf ds).map f | _=>ab)=aa d):∃a C bs,ds=[a]/\lsD a=aa C/\C=bs.map D.bl/\d=f bs:=by
 split at e
 .rename_i a
  cases b:lsD a with
  |none=>rw[b]at e;nomatch e
  |some C=>
   rw[b]at e;replace e:(jf C).map f=aa d:=e
   cases c:jf C with
   |none=>rw[c]at e;nomatch e
   |some bs=>rw[c]at e;cases e;show(a,C,bs,rfl,b,FL c,rfl)
 .nomatch e
def Om(i:X.calm=ac):ud c X (.builtin "any") oW:=by
 rintro U s E H vs us Q I rv ⟨Hf,ds,d,b,r,e,k⟩;have(l,C,bs,rfl,f,rfl,rfl):=FM e;have(v,h,j):=r.one;subst h;have(a,ws,g,q,L):=lu f j;subst g;show Oj i U s E H _ us Q I rv (a,bs,rfl,?_,k _ Hf H (Ext.refl b) rfl);rw[<- L.bls];show b.seq q
def On:∀ds d,oW ds=aa d->d.scalar=ac:=λds d e=>by
 have(a,C,bs,rfl,b,rfl,rfl):=FM e;rfl
def Oo(bs:LB0):oW [.lst (bs.map D.bl)]=aa (.bl (bs.any id)):=by
 change(jf _).map _=_;rw[Ol];rfl
inductive Wrd where
 |make |may |never
 deriving DecidableEq
abbrev Wrd.s:Wrd->Str
 |.make=>"make"
 |.may=>"may"
 |.never=>"never"
structure Rul where
 w:Wrd
 hd:Int
 ps:List Prt
nonrec abbrev LRu:=List Rul
abbrev Rul.hdD(r:Rul):D:=match r.w with
 |.never=>.non
 | _=>.int r.hd
abbrev Rul.toD(r:Rul):D:=.tup [.str r.w.s,r.hdD,.lst (r.ps.map Prt.toD)]
structure Rul.Ok(n:Nat)(r:Rul):Prop where
 hd:r.w≠.never->0<=r.hd/\r.hd<(n:Int)
 ps:∀p∈r.ps,p.Ok n
 len:r.ps.length<=100000
abbrev Rul.bodyLost(r:Rul)(es:LOB)(ws:LB0):Bool:=r.ps.any λp=>p.lost es ws
def lz{p q:Int->Bool}:∀{B:LII},(∀z∈B,0<=z.2/\(p z.1=ac->q z.1=ac))->bY p B<=bY q B
 | [],_=>Int.le_refl _
 |z::B,h=>by
  have b:=lz λy a=>h y (bh _ a);have(c,d):=h z az;unfold bY at b ⊢
  grind
def FN{p q:Int->Bool}{B:LII}(h:∀z∈B,p z.1=q z.1):bY p B=bY q B:=by
 unfold bY
 rw[filter_congr h]
structure cM(es es':LOB):Prop where
 len:es'.length=es.length
 at':∀i,es.getD i ab=ab\/es'.getD i ab=es.getD i ab
structure mU(ws ws':LB0):Prop where
 len:ws'.length=ws.length
 at':∀i,ws.getD i af=ac->ws'.getD i af=ac
def cM.refl(es:LOB):cM es es:=(rfl,λ_=>.inr rfl)
def mU.refl(ws:LB0):mU ws ws:=(rfl,λ_ h=>h)
variable{es':LOB}
def Op{es:LOB}{p:Prt}(f:cM es es')(h:p.Ok es.length)(s:p.sure es=ac):p.sure es'=ac:=by
 have key:∀{i:Nat} {b:Bool},(es.getD i ab==aa b)=ac->(es'.getD i ab==aa b)=ac:=λ{i b} e=>by
  rcases f.at' i with z |z
  .grind
  .grind
 have a:∀{i:Nat},(!(es'.getD i ab==aa af))=ac->(!(es.getD i ab==aa af))=ac:=λ{i} e=>by
  grind
 cases p with
 |inn t=>show key s
 |out t=>show key s
 |least k B=>
  have s:=of_decide_eq_true s;show decide_eq_true (Int.le_trans s ?_);rw[ls,ls]
  show lz λz hz=>((h.1 z hz).2.2,λe=>key e)
 |most k B=>
  have s:=of_decide_eq_true s;show decide_eq_true (Int.le_trans ?_ s);rw[ls,ls];show lz λz hz=>((h.1 z hz).2.2,λe=>a e)
variable{ws:LB0}
def uv{es:LOB}{ws':LB0}{p:Prt}(f:cM es es')(g:mU ws ws')(h:p.Ok es.length)(s:p.lost es ws=ac):p.lost es' ws'=ac:=by
 have key:∀{i:Nat} {b:Bool},(es.getD i ab==aa b)=ac->(es'.getD i ab==aa b)=ac:=λ{i b} e=>by
  rcases f.at' i with z |z
  .rw[z]at e;cases b <;> cases e
  .rw[z];show e
 cases p with
 |inn t=>
  have s:(_ || ws.getD t.toNat af)=ac:=s;change(_ || ws'.getD t.toNat af)=ac;rw[jU]at s ⊢
  show s.imp key (g.at' _)
 |out t=>show key s
 |least k B=>
  have s:=of_decide_eq_true s;show decide_eq_true (Int.lt_of_le_of_lt (lz λz hz=>((h.1 z hz).2.2,λe=>?_)) s);rw[cB]at e ⊢;show(?_,?_)
  .cases q:(es.getD z.1.toNat ab==aa af)with
   |false=>rfl
   |true=>rw[key q]at e;show e.1
  .cases q:ws.getD z.1.toNat af with
   |false=>rfl
   |true=>rw[g.at' _ q]at e;show e.2
 |most k B=>
  have s:=of_decide_eq_true s;show decide_eq_true (Int.lt_of_lt_of_le s ?_);rw[ls,ls];show lz λz hz=>((h.1 z hz).2.2,λe=>key e)
def qV{a:Type}{p q:a->Bool}{C:List a}(h:∀x∈C,p x=ac->q x=ac)(s:C.any p=ac):C.any q=ac:=by grind
abbrev Ite(K:aQ)(l:Addr):It:=
  (λi H=> ∃C x, SqL K H l C/\C[i]? = aa x,
   λi H v H'=> ∃p x, v = .ref p/\H p = ab/\H' = upd H p (.tup [.int i, x])/\(∀C, SqL K H l C->C[i]? = aa x),
   λi H=> ∃C, SqL K H l C/\C.length<=i)
variable{elts:LEx}{kx:Nat}
def Oq(e it l:Addr)(ne:e≠it):
  ka P w K (.Tuple elts kx pos) (Ite K l) [e,it] e (λi h=>(∃old,IsEnum h e it (i:Int) old)/\h.IsListIter it l i) where
 mem:=by simp
 obj:=λi h st b hb=>by
  have((old,he),(o1,e1,_,d1)):=st;simp only[aZ,dq,or_false]at hb
  rcases hb with rfl |rfl
  .show⟨_,he,λv q=>by nomatch q⟩
  .show⟨o1,e1,λv q=>by rw[d1]at q;nomatch q⟩
 keep:=λi h h' st k=>by
  have((old,he),h1):=st;show((old,k e (by simp) _ he),h1.at λo q=>k it (by simp) o q)
 item:=by
  intro X hP hw hK hc i U s E H V4 I hf st hg;subst hP hw hK;have((old,he),h1):=st;have(C,x,q1,hx):=hg;have(its1,r1,p1,z1):=I.list q1;have(u1,e1,ru1):=r1.get hx;show wpAny_pyNext_enum_item he h1 p1.isList (by simpa using e1) ne λh' a1 a3 a5 a6 a7=>(_,rfl,?_);show wpAny_letOwnedTupleGo_enum a1 λh'' b1 b2=>?_
  have lt:∀b∈[e,it],b<s.heap.objs.size:=λb hb=>by
   simp only[aZ,dq,or_false]at hb
   rcases hb with rfl |rfl
   .show bz he
   .have(o,e,_):=h1;show bz e
  have kk:∀b o,b∉[e,it]->s.heap.get? b=aa o->h''.get? b=aa o:=λb o hb e=>by
   simp only[aZ,dq,or_false,not_or]at hb;have(n1,n2):=hb;show(b2.2 b n1).trans (a7 b o n1 n2 e)
  have fr:=I.hok.fresh (aL _)
  have I2:Inv X U E (upd H s.heap.objs.size (.tup [.int i,x])) {s with heap:=h'',toks:=s.toks+1}:=
   (I.turnedMany kk hf).track (I.fpOk (aL _) fr) ((by change 2<=aS;decide),_,.cons (s.toks,rfl) (.cons ru1 .nil),(_,((b2.2 _ (kO (lt e (by simp)))).trans a5),rfl,_,rfl))
  show(.ref s.heap.objs.size,_,I2,rfl,(_,x,rfl,fr,rfl,λxs' h=>by rw[I.list_inj h q1];show hx),((u1,?_),(a3.at λo q=>(b2.2 it (eG ne)).trans q)),λb hb=>?_)
  .have:((i+1:Nat):Int)=i+1:=by push_cast;rfl
   rw[this];show b1
  .rw[aK (bW (lt b hb))];show(hf b hb).1
 done:=by
  intro X hP hw hK hc i U s E H V4 I hf st hg;subst hP hw hK;have((old,he),h1):=st;have(C,q1,hend):=hg;have(its1,r1,p1,z1):=I.list q1;have l1':=r1.length;show wpAny_pyNext_enum_end (I.ok.hd hc) he h1 p1.isList (by simp;lia) λh' kk=>(rfl,I.turnedMany (λb o hb q=>?_) hf);simp only[aZ,dq,or_false,not_or]at hb;show kk b o hb.2 q
 self:=λ_ _ _ _ _ st h=>by have((old,he),_):=st;show wpAny_pyIter_enum he h
abbrev Os(K:aQ)(a:TA):TI:=λE H R=>a E H λvs H1=>∃l,vs=[.ref l]/\(∃C,SqL K H1 l C)/\R (Ite K l) H1
variable{gw:Pos}{a:Expr}{ta:TA}
def FO(v:Gl X "enumerate")(hm:X.mg "enumerate"=ab)(ha:PA X [a] ta)(w:aN [a] X.env=[(af,eval a X.env,)]:=by rfl):
  PI X (.Tuple elts kx gw) (.Call (.Name "enumerate" p) [a] [] pos) (Os X.K ta):=by
 intro U s E H R I h;show Call_ (g9 I v hm boot_enumerate (jY (thn (ha pos U s E H _ I h) λus s1 (vs,H1,d,j,y)=>?_) (by rw[w];rfl) (by rfl)));have(l,e,(C,r),q):=y;subst e;have(u,rfl,ru):=mG j;subst ru;have(i,j,x,A):=d.list r;show call_enumerate_list x.isList λh' f m z n=>?_;show wpAny_pyIter_enum f ?_;show(_,_,_,_,H1,rfl,(d.kept n),Oq _ _ _ (Nat.succ_ne_self _),((_,f),m),λb g=>?_,q);simp only[aZ,dq,or_false]at g
 have c:s1.heap.objs.size<=b:=by
  rcases g with rfl |rfl
  .show Nat.le_add_right _ _
  .show aL _
 show d.fpOk c (d.hok.fresh c)
abbrev iG:Nat->LD->LD
 | _,[]=>[]
 |i,x::C=>.tup [.int i,x]::iG (i+1) C
def yw:∀(i:Nat) (C:LD),(iG i C).length=C.length
 | _,[]=>rfl
 |i,x::C=>by simp only[iG,cr,cr,yw]
def yx:∀(k:Nat) (C:LD) (i:Nat),(iG k C)[i]?=(C[i]?).map λx=>.tup [.int (k+i:Nat),x]
 | _,[],_=>rfl
 |k,x::C,0=>rfl
 |k,x::C,i+1=>by simp only[iG,gV,gV,yx _ C i,show k+1+i=k+(i+1) by lia]
abbrev yy:LD->OLD
 | [x]=>(lsD x).map (iG 0)
 | _=>ab
abbrev jg(f:MF2)(M:LS):OLD:=(f M).bind yy
def Ot{f:MF2}(J:Gl X "enumerate")(hm:X.mg "enumerate"=ab)(ha:DA c X [a] f)(L:aN [a] X.env=[(af,eval a X.env,)]:=by rfl):
  DI c X (.Tuple elts kx gw) (.Call (.Name "enumerate" p) [a] [] pos) (jg f):=
 PI.imp (FO J hm ha.pa L) λE H R Q=>by
  have(Hf0,H0,Hf,M,ds,st,b,k):=Q;unfold jg at b
  cases j:f M with
  |none=>rw[j]at b;nomatch b
  |some as=>
   rw[j]at b;replace b:yy as=aa ds:=b;show(Hf0,H0,Hf,M,as,st,j,λvs Hf' H' x r=>?_);unfold yy at b;split at b
   .rename_i dx
    cases ex:lsD dx with
    |none=>rw[ex]at b;nomatch b
    |some C=>
     rw[ex]at b;cases b;have(v,G,rv):=r.one;have(N,h,l,w,y):=lu ex rv;subst l;show(N,G,(h,x.s.seq w),k _ Hf' H' x λbm H2 f2 s2 i=>?_);have m:=(f2.trans s2).seq w;have h1:=y.length;show(λd e=>?_,λB=>(h,m,by rw[yw]at B;lia));rw[yx]at e
     cases n:C[i]? with
     |none=>rw[n]at e;nomatch e
     |some x'=>
      rw[n]at e;cases e;have(T,g,ru1):=y.get n;show((h,T,m,g),λz Y (pp,z1,I,u,A,U)=>?_);subst I A;have q:=U h m;rw[g]at q;cases q;show(upd bm pp _,Ext.new s2 u,pp,_,rfl,a8,.cons (by rw[kP];rfl) (.cons (ru1.up (f2.trans (bP (s2.free u)))) .nil))
   .nomatch b
abbrev jh:D->Option Key
 |.int i=>aa (.inl i)
 |.str x=>aa (.inr x)
 | _=>ab
def qW{k:Key}(e:jh d=aa k)(r:Rep G H d v):v=kV k:=by
 cases d <;> first |(cases e;done) |(cases e;show r)
abbrev gh(ks:List Key)(k:Key):Bool:=ks.any λj=>decide (j=k)
abbrev iH{a:Type}(ks:List Key)(C:List a)(k:Key)(x:a):List a:=if gh ks k=ac then nV (λj y=>if j=k then x else y) ks C else C++[x]
abbrev hV(ks:List Key)(k:Key):List Key:=if gh ks k=ac then ks else ks++[k]
def FP{ks:List Key}{k:Key}{v:V}:∀{ks:List Key} {vs:LVv},(ks.zip vs).map (λa=>if a.1=k then (a.1,v,) else a)=ks.zip (nV (λj y=>if j=k then v else y) ks vs)
 | [],_=>rfl
 | _::_,[]=>rfl
 |j::ks,y::vs=>by
  simp only[e7,bF,sS,e7,FP (ks:=ks)]
  by_cases h:j=k
  .subst h;simp
  .simp[h]
def yA{k:Key}:∀{ks:List Key} {vs:LVv},ks.length=vs.length->((ks.zip vs).any λa=>decide (a.1=k))=gh ks k
 | [],[],_=>rfl
 | [],_::_,h=>by cases h
 | _::_,[],h=>by cases h
 |j::ks,y::vs,h=>by
  simp only[e7,gx,gx,yA (by simpa using h)];rfl
variable{ks:List Key}
def Ou{k:Key}(h:ks.length=vs.length):dL (ks.zip vs) k v=(hV ks k).zip (iH ks vs k v):=by
 unfold dL hV iH;rw[yA h]
 by_cases e:gh ks k=ac
 .rw[if_pos e,if_pos e,if_pos e,FP (ks:=ks)]
 .rw[if_neg e,if_neg e,if_neg e,zip_append h];rfl
def b9{a:Type}{vs:List a}{k:Key}{v:a}(h:ks.length=vs.length):(hV ks k).length=(iH ks vs k v).length:=by
 unfold hV iH
 by_cases e:gh ks k=ac
 .rw[if_pos e,if_pos e,length_zipWith];lia
 .rw[if_neg e,if_neg e,aR,aR,h];rfl
def am.zipW{G:Gc}{H:Hp}{k:Key}{d:D}{v:V}(q:Rep G H d v):∀{ks:List Key} {ds:LD} {vs:LVv},am G H ds vs->am G H (nV (λj y=>if j=k then d else y) ks ds) (nV (λj y=>if j=k then v else y) ks vs)
 | [],_,_,_=>.nil
 | _::_,[],_,h=>by cases (h);show .nil
 |j::ks,x::ds,_,q3_=>by
  have(u,r,e,a,h2):=q3_;subst e;rw[sS,sS];show .cons ?_ (am.zipW q h2)
  grind
def am.put{k:Key}(r:am G H ds vs)(q:Rep G H d v):am G H (iH ks ds k d) (iH ks vs k v):=by
 unfold iH
 by_cases e:gh ks k=ac
 .rw[if_pos e,if_pos e];show r.zipW q
 .rw[if_neg e,if_neg e];show r.append (.cons q .nil)
abbrev oX(i:Nat)(M:LS):Option Fl:=aa (.nx (M.set i (.ownd [] [])))
abbrev ji(i:Nat)(a b:MF1)(M:LS):Option Fl:=(b M).bind λd=>(a M).bind λx=>(jh x).bind λk=>match M[i]? with
 |some (.ownd ks C)=>if ks.length<16777216 then aa (.nx (M.set i (.ownd (hV ks k) (iH ks C k d)))) else ab
 | _=>ab
abbrev qX(x y:D):OD:=(jh x).bind λk=>match y with
 |.dic ks _=>aa (.bl (gh ks k))
 | _=>ab
variable{i:Nat}
def Ov(e:PS X st (i6 EL (hE i))):DS c X st (oX i):=PS.imp e λV4 E H g=>by
 have(Hf0,H0,Hf,M,o,b,d,k):=g;cases d;intro q a;have x:Ext Hf H Hf (upd H q (.dK [])):=Ext.tmp b.sub a;show k _ Hf _ x.f (b.setOwn rfl x a (b.sub.free a) ([],a8,rfl,.nil))
variable{p':Pos}
def yB(i:Nat)(a:X.N.Nodup)(hi:X.N[i]?=aa x:=by rfl)(e:Loc X.env.scope x:=by first |exact bX rfl |exact bA rfl)(d:f8 (.Dict [] [] pos) (aa (.Name x b4)) p'.line X.env=pure af:=by rfl)(b:LcF X x:=by first |exact .inl rfl |exact .inr rfl):
  DS c X (.Assign [.Name x b4] (.Dict [] [] pos) p') (oX i):=Ov (ox a hi e ME d b)
variable{fk fv:MF1}
def Ow(w:PS X st (xN (cQ i) (tD (Gx c X) fk) (tD (Gx c X) fv))):DS c X st (ji i fk fv):=PS.imp w λV4 E H B=>by
 have(Hf0,H0,Hf,M,o,n,a,k):=B;unfold ji at a
 cases g:fv M with
 |none=>rw[g]at a;nomatch a
 |some d=>
  rw[g]at a
  cases j:fk M with
  |none=>rw[j]at a;nomatch a
  |some x=>
   rw[j]at a
   cases m:jh x with
   |none=>rw[ay,ay,m]at a;nomatch a
   |some A=>
    simp only[ay,ay,m]at a;split at a
    .rename_i ks C es;split at a
     .rename_i N;cases a;show(Hf0,H0,Hf,M,d,n,g,λv b3 H1 p G=>?_);have b:=n.step p;have(l,el,J,L,vs,q,z,r):=b.ownAt rfl es;show(_,el,Hf0,H0,b3,M,x,b,j,λy bm H2 e I=>?_);have u:=qW m I;subst u;show(l,_,rfl,li.k (e.h _ _ q) (by rw[du,nW];lia),?_);show k E bm _ (p.f.trans e.f) ((b.step e).mutd rfl rfl es el (iH ks vs A v,?_,b9 z,(r.up e.f).put (G.up e.f)));rw[a8,Ou z]
     .nomatch a
    .nomatch a
variable{i' value:Expr}
def yC(f:X.A.units+64<cLine)(b:PE X e (cQ i))(a:DE c X i' fk)(hv:DE c X value fv)(d:f8 value (aa (.Subscript e i' b4)) pos.line X.env=pure af:=by rfl):
  DS c X (.Assign [.Subscript e i' b4] value pos) (ji i fk fv):=Ow (EK (by lia) b a hv d)
def Ox{k:Key}:∀{ks:List Key} {vs:LVv},ks.length=vs.length->(cK (ks.zip vs) k).isSome=gh ks k:=λ{ks vs} h=>by
 rw[<- tV,yA h]
variable{b:Expr}
def FQ(L:X.A.units+64<cLine)(ha:DE c X a f)(B:DE c X b g)(hm:kU .In b=af:=by first |exact nobehind _ (by decide) (by decide) |rfl):DE c X (.Compare a [.In] [b] pos) (m2 qX f g):=
 PE.imp (Kh (MA (by lia) ha B) hm) λE H Q G=>by
  have(Hf0,H0,Hf,M,d,st,p,k):=G;have(x,y,m,n,e):=mL p;show(Hf0,H0,Hf,M,x,st,m,λv b3 H1 i I=>(Hf0,H0,b3,M,y,st.step i,n,λu bm H2 j J=>?_));unfold qX at e
  cases h:jh x with
  |none=>rw[h]at e;nomatch e
  |some N=>
   rw[h]at e
   cases y with
   |dic ks C=>
    cases e;have(l,vs,el,q,z,r):=J;have w:=qW h I;subst w el;show(l,_,rfl,fQ.k (j.s _ _ q),k _ bm H2 (i.trans j) ?_);rw[Ox z]
    rfl
   | _=>nomatch e
abbrev gi(i:Nat)(fk fv:MF1)(M:LS):Option Fl:=(fv M).bind λd=>(fk M).bind λx=>match x with
 | .int k=>(match M[i]? with
  |some (.own C)=>(ixN C.length k).map λj=>.nx (M.set i (.own (C.set j d)))
  | _=>ab)
 | _=>ab
def Oy(z:PS X st (i6 (tD (Gx c X) fv) (xh (cQ i) (tD (Gx c X) fk) xD))):DS c X st (gi i fk fv):=PS.imp z λV4 E H A=>by
 have(Hf0,H0,Hf,M,o,u,a,k):=A;unfold gi at a
 cases m:fv M with
 |none=>rw[m]at a;nomatch a
 |some d=>
  rw[m]at a
  cases n:fk M with
  |none=>rw[n]at a;nomatch a
  |some x=>
   rw[n]at a;obtain⟨e,rfl⟩:∃e,x=.int e:=by grind
   replace a:(match M[i]? with |some (.own C)=>(ixN C.length e).map λj=>Fl.nx _ | _=>ab)=aa o:=a
   split at a
   .rename_i C es
    cases p:ixN C.length e with
    |none=>rw[p]at a;nomatch a
    |some j=>
     rw[p]at a;cases a;show(Hf0,H0,Hf,M,d,u,m,λv b3 H1 w B=>?_);have b:=u.step w;have(l,el,I,J,vs,q,r):=b.ownAt rfl es;show(_,el,Hf0,H0,b3,M,.int e,b,n,λy bm H2 g G=>?_);show(l,vs,e,j,rfl,G,(g.h _ _ q),by rw[<- r.length];show p,(k E bm _ (w.f.trans g.f) ((b.step g).mutd rfl rfl es el (vs.set j v,a8,(r.up g.f).set j (B.up g.f)))))
   .grind
def FR(d:PE X e (cQ i))(b:DE c X i' fk)(hv:DE c X value fv)(f:swapsWithSole [.Subscript e i' b4] value pos.line X.env=pure af:=by rfl)(g:swappedStores [.Subscript e i' b4] value X.env=pure ab:=by rfl)
 (a:(iV [.Subscript e i' b4] X.env).map (·.2)=[assign (.Subscript e i' b4) X.env]:=by rfl)
 (ha:∀ v,assign (.Subscript e i' b4) X.env v=(do
   let ov <- eJ [v] (eval e X.env)
   let iv <- eJ [v,ov] (eval i' X.env)
   gz b4
   eJ [v,ov,iv] (setItem ov iv v)
   release [v,ov,iv] []):=by intro _;rfl):
  DS c X (.Assign [.Subscript e i' b4] value pos) (gi i fk fv):=Oy (xj hv (xi d b xE ha) f g a)
def yD{G:Gc}{H:Hp}{f:D->D->Option Bool}(i:∀(g h x:D) (c d:Bool) (v:V),Rep G H g v->Rep G H h v->f g x=aa c->f h x=aa d->c=d):
  ∀{a b ys:LD} {c d:Bool} {vs:LVv},am G H a vs->am G H b vs->cX f a ys=aa c->cX f b ys=aa d->c=d
 | [],[],[],_,_,_,_,_,h1,h2=>by cases h1;cases h2;rfl
 | [],[],_::_,_,_,_,_,_,h1,h2=>by cases h1;cases h2;rfl
 | [],_::_,_,_,_,_,r1,r2,_,_=>by have:=r1.length;have:=r2.length;simp at *;lia
 | _::_,[],_,_,_,_,r1,r2,_,_=>by have:=r1.length;have:=r2.length;simp at *;lia
 | _::_,_::_,[],_,_,_,_,_,h1,h2=>by cases h1;cases h2;rfl
 |g::a,h::b,y::ys,c,d,vs,r1,r2,h1,h2=>by
  have(v,r,e,p,q):=r1;have(E,C,e',p2,u):=r2;subst e;cases e';have(w,z,j,l,rfl):=t9 h1;have(A,B,m,n,rfl):=t9 h2;rw[(i _ _ _ _ _ _ p p2 j m),(yD i q u l n)]
abbrev vD:V->D
 |.bl b=>.bl b
 |.int i=>.int i
 |.str x=>.str x
 | _=>.non
def FS(s:d.scalar=ac)(r:Rep G H d v):d=vD v:=by
 cases d <;> first |(cases s;done) |(rw[show v=_ from r];rfl)
def uw{a:Addr}(s:d.scalar=ac)(r:Rep G H d (.ref a)):False:=by
 cases d <;> first |(cases s;done) |(cases (r))
def qY{G:Gc}{H:Hp}:∀(n:Nat) {r u x:D} {m p:Bool} {v:V},Rep G H r v->Rep G H u v->deq n r x=aa m->deq n u x=aa p->m=p
 | 0,_,_,_,_,_,_,_,_,h,_=>by cases h
 |n+1,r,u,x,m,p,v,r1,r2,h1,h2=>by
  replace h1:mO _ r x=aa m:=h1;replace h2:mO _ u x=aa p:=h2
  have V2:∀{C ys:LD},r=.lst C->u=.lst ys->m=p:=λ{C ys} l g=>by
   subst l g;have(a,vs,e,q,L):=r1;have(y,w,e',i,c):=r2;rw[e]at e';cases e';rw[q]at i;cases i;have A:=L.length;have B:=c.length
   cases x with
   |lst j=>
    replace h1:(if C.length=j.length then cX _ C j else aa af)=aa m:=h1;replace h2:(if ys.length=j.length then cX _ ys j else aa af)=aa p:=h2
    by_cases z:C.length=j.length
    .rw[if_pos z]at h1;rw[if_pos (by lia)]at h2;show yD (f:=deq n) (λ_ _ _ _ _ _=>qY n) L c h1 h2
    .grind
   | _=>cases h1
  have T:∀{C ys:LD},r=.tup C->u=.tup ys->m=p:=λ{C ys} l g=>by
   subst l g;have(a,vs,e,q,L):=r1;have(y,w,e',i,c):=r2;rw[e]at e';cases e';rw[q]at i;cases i;have A:=L.length;have B:=c.length
   cases x with
   |tup j=>
    replace h1:(if C.length=j.length then cX _ C j else ab)=aa m:=h1;replace h2:(if ys.length=j.length then cX _ ys j else ab)=aa p:=h2
    by_cases z:C.length=j.length
    .rw[if_pos z]at h1;rw[if_pos (by lia)]at h2;show yD (f:=deq n) (λ_ _ _ _ _ _=>qY n) L c h1 h2
    .grind
   | _=>cases h1
  have no:∀{d:D} {b:Bool},mO (deq n) d x=aa b->d.scalar=ac\/(∃C,d=.lst C)\/∃C,d=.tup C:=λ{d b} h=>by
   unfold mO at h
   grind
  rcases no h1 with s1 |⟨C,l⟩ |⟨C,l⟩
  .have:r=u:=by
    rcases no h2 with s2 |⟨ys,g⟩ |⟨ys,g⟩
    .rw[FS s1 r1,<- FS s2 r2]
    .subst g;have(a,_,e,_):=r2;subst e;show(uw s1 r1).elim
    .subst g;have(a,_,e,_):=r2;subst e;show(uw s1 r1).elim
   grind
  .rcases no h2 with s2 |⟨ys,g⟩ |⟨ys,g⟩
   .subst l;have(a,_,e,_):=r1;subst e;show(uw s2 r2).elim
   .grind
   .subst l g;have(a,vs,e,q,L):=r1;have(y,w,e',i,c):=r2;rw[e]at e';cases e';rw[q]at i;cases i
  .rcases no h2 with s2 |⟨ys,g⟩ |⟨ys,g⟩
   .subst l;have(a,_,e,_):=r1;subst e;show(uw s2 r2).elim
   .subst l g;have(a,vs,e,q,L):=r1;have(y,w,e',i,c):=r2;rw[e]at e';cases e';rw[q]at i;cases i
   .show T l g
abbrev di(x:D):LD->Option Bool
 | []=>aa af
 |d::ds=>(deq 19 d x).bind λb=>(di x ds).map λr=>b || r
abbrev fT(x y:D):OD:=((iB y).bind (di x)).map .bl
def Oz:∀x y d,fT x y=aa d->d.scalar=ac:=λ_ _ d e=>oK d e
def FT{x:D}{b:Bool}(h:di x (d::ds)=aa b):∃a c,deq 19 d x=aa a/\di x ds=aa c/\b=(a || c):=by
 dsimp only[di]at h
 cases e:deq 19 d x with
 |none=>rw[e]at h;nomatch h
 |some a=>
  cases f:di x ds with
  |none=>rw[e,f]at h;nomatch h
  |some c=>rw[e,f]at h;cases h;show(a,c,rfl,rfl,rfl)
def yE{a:Type}{f g:a->Bool}:∀{l:List a},(∀x∈l,f x=g x)->l.any f=l.any g
 | [],_=>rfl
 |x::l,h=>by simp only[gx,gx,h x az,yE λy b=>h y (bh _ b)]
open Classical in
def qZ{U:PNS}{E:St}{H:Hp}{s:ah}{A:b8}{x:D}{L:V}{u:Value}(I:Inv X U E H s)(C:A.units+19<cLine)(J:Rep (Gx c X) H x L)(ru:aB L u):
  ∀{ds:LD} {vs:LVv} {us:LVa} {b:Bool},am (Gx c X) H ds vs->aG vs us->di x ds=aa b ->
   ∃f:Value->Bool,(∀y∈us,cu A s y u (f y)/\∃d v,Rep (Gx c X) H d v/\aB v y/\deq 19 d x=aa (f y))/\us.any f=b
 | [],_,_,b,r,rv,h=>by
  cases (show _=[]from r);cases rv;cases h
  show(λ_=>af,(λy g=>by cases g),rfl)
 |d::ds,_,_,b,q4_,rv,h=>by
  have(v,G,l,n,N):=q4_;subst l;have(i,T,m,h2,rfl):=FT h
  cases rv with
  | @cons _ y _ us a w=>
   have(f,B,ha):=qZ I C J ru N w h2;have j:cu A s y u i:=yd I 19 C m n J a ru;show(λz=>if z=y then i else f z,λz hz=>?_,?_)
   .by_cases e:z=y
    .subst e;simp only[if_true];show(j,d,v,n,a,m)
    .simp only[e,if_false];show B z ((aZ.mp hz).resolve_left e)
   .rw[gx,if_pos rfl,<- ha]
    congr 1
    by_cases g:y∈us
    .have(_,d',Q,G,p,h'):=B y g;have l:Q=v:=aB.inj p a;subst l;have M:f y=i:=qY 19 G n h' m;show yE λz hz=>?_
     by_cases e:z=y
     .subst e;simp[M]
     .simp[e]
    .show yE λz hz=>?_;have e:z≠y:=λq=>g (q▸hz);simp[e]
def OA(C:X.A.units+64<cLine):OpD c X (cW .In) fT:=by
 rintro U s E H v u w G Q I rv ru ⟨Hf,x,y,d,g,l,p,e,k⟩;unfold fT at e
 cases h:(iB y).bind _ with
 |none=>rw[h]at e;nomatch e
 |some b=>
  rw[h]at e;cases e
  cases es:iB y with
  |none=>rw[es]at h;nomatch h
  |some ds=>
   rw[es]at h;have(a,vs,n,q,r):=qC es (p.up g);subst n;subst ru;have fin:∃m H',Inv X U E H' s/\aB m _/\Q m H':=(.bl b,H,I,rfl,k _ Hf H (Ext.refl g) rfl)
   rcases q with q |q
   .have(B,j,pl,hz):=I.list q;have(f,i,ha):=qZ (A:=X.A.in1) I (by grind) (l.up g) rv r j h;show SeqAt.in_listAt f pl.isList (λz hz=>(i z (by grind)).1) ?_;rw[show B.toArray.any f=B.any f by simp,ha];show fin
   .have(B,j,pl,hz):=I.tuple q;have(f,i,ha):=qZ (A:=X.A.in1) I (by grind) (l.up g) rv r j h;show SeqAt.in_tupleAt f pl (λz hz=>(i z (by grind)).1) ?_;rw[show B.toArray.any f=B.any f by simp,ha];show fin
abbrev Ris(C:Array Nat):Prop:=C.toList.Pairwise (· < ·)
variable{C:Array Nat}
def FU(h:Ris C){a b:Nat}(c:a<b)(d:b<C.size):C.getD a j<C.getD b j:=by
 have e:=pairwise_iff_getElem.mp h a b (by simpa using ma c d) (by simpa using d) c;rw[pZ,pZ,dif_pos (ma c d),dif_pos d];show e
def yF(h:Ris C){a b:Nat}(c:a<=b)(d:b<C.size):C.getD a j<=C.getD b j:=by
 rcases Nat.eq_or_lt_of_le c with e |e
 .subst e;show aL _
 .show fj (FU h e d)
def yG{C:Array Nat}{j:Nat}(h:Ris C):∀(a lo hi:Nat),lo<=hi->hi<=C.size->hi-lo<=a->(∀i,i<lo->C.getD i j<j)->(∀i,hi<=i->i<C.size->¬C.getD i j<j) ->
  tB C j a lo hi<=C.size/\(∀i,i<tB C j a lo hi->C.getD i j<j)/\∀i,tB C j a lo hi<=i->i<C.size->¬C.getD i j<j
 | 0,lo,hi,h1,h2,h3,h4,h5=>by
  have e:lo=hi:=by lia
  subst e
  show(h2,h4,h5)
 |a+1,lo,hi,h1,h2,h3,h4,h5=>by
  dsimp only[tB]
  by_cases c:lo<hi
  .rw[if_pos c]
   by_cases hm:C.getD ((lo+hi) / 2) j<j
   .simp only[hm];show yG h a _ hi (by lia) h2 (by lia) (λi b=>(l9 (yF h (by lia) (by lia)) hm)) h5
   .simp only[hm];show yG h a lo _ (by lia) (by lia) (by lia) h4 λi b f d=>(hm (l9 (yF h b f) d))
  .rw[if_neg c];have e:lo=hi:=by lia
   subst e;show(h2,h4,h5)
def yH(h:Ris C)(j:Nat):cD C j<=C.size/\(∀i,i<cD C j->C.getD i j<j)/\∀i,cD C j<=i->i<C.size->¬C.getD i j<j:=
 yG h C.size 0 C.size (cj _) (aL _) (by lia) (λi hi=>by lia) λi hi a=>by lia
def OB(h:Ris C)(hi:i<C.size):cD C (C[i]+1)=i+1:=by
 have(g,h2,f):=yH h _;have e:C.getD i (C[i]+1)=C[i]:=by rw[pZ,dif_pos hi];rfl
 by_cases d:cD C (C[i]+1)<=i
 .show absurd (by rw[e];lia) (f i d hi)
 .by_cases c:i+1<cD C (C[i]+1)
  .have a:=h2 _ c;have b:=FU h (j:=C[i]+1) (show i<i+1 by lia) (by lia)
   lia
  .lia
def OC(h:Ris C):cD C 0=0:=by
 have(a,h2,b):=yH h 0
 by_cases e:0<cD C 0
 .have:=h2 0 e;lia
 .lia
def OE(h:Ris C)(hn:C[cD C j]?≠aa j):Ris (dz.insertAt C (cD C j) j):=by
 have(w,h2,r):=yH h j;unfold Ris dz.insertAt;have g:∀i,(hi:i<C.size)->C.getD i j=C[i]:=λi hi=>by rw[pZ,dif_pos hi];rfl
 simp only[Array.toList_append,wu,Array.toList_extract,Array.toList_extract];simp only[extract_eq_drop_take]
 have l:∀x∈C.toList.take (cD C j),x<j:=λx p=>by
  have(i,hi,e):=mem_take_iff_getElem.mp p;have n:i<cD C j:=by lia
  have:=h2 i n;rw[g i (by lia)]at this;rw[<- e];show this
 have f:∀x∈C.toList.drop _,j<x:=λx p=>by
  have(i,hi,e):=mem_drop_iff_getElem.mp p;have m:cD C j+i<C.size:=by simpa[Nat.add_comm]using hi
  have a:=r _ (by lia) m;rw[g _ m]at a;have ex:x=C[cD C j+i]:=by rw[<- e];simp
  rw[ex]
  rcases Nat.lt_or_ge j C[cD C j+i]with q |q
  .show q
  .exfalso;have v:C[cD C j+i]=j:=by lia
   have d:cD C j<C.size:=by lia
   have b:=yF h (j:=j) (show cD C j<=cD C j+i by lia) m;rw[g _ m,g _ d,v]at b;have c:=r _ (aL _) d;rw[g _ d]at c;show hn (by rw[lU d];congr 1;lia)
 have u:List.take (C.size-cD C j) _=List.drop (cD C j) C.toList:=sR (by simp);rw[u];show sT.mpr (sT.mpr (DH (take_sublist _ _) h,by simp,λa ha b d=>?_),DH (drop_sublist _ _) h,λa ha b d=>?_)
 .have:b=j:=by simpa using d
  subst this;show l a ha
 .rcases bu.mp ha with ha |ha
  .show ma (l a ha) (f b d)
  .have:a=j:=by simpa using ha
   subst this;show f b d
def OF(n:Nat):Ris (Array.range n):=by
 unfold Ris;rw[Array.toList_range];show pairwise_lt_range
variable{t:dz}
def FV(h:t.slot j=.empty\/t.slot j=.dummy):t.place[cD t.place j]?≠aa j:=λe=>by
 have:t.slot j=.live (cD t.place j):=by
  unfold dz.slot
  grind
 grind
def yI{t:dz}{h:Int}:∀(a:Nat) (p:dz.Probe) {j:Nat} {d:Option Nat},(∀d',p.dummy=aa d'->t.place[cD t.place d']?≠aa d')->dz.probe.go t (λ_=>h+1) h a p=aa (.empty j d) ->
  t.place[cD t.place j]?≠aa j/\∀d',d=aa d'->t.place[cD t.place d']?≠aa d'
 | 0,_,_,_,_,e=>by cases e
 |a+1,p,j,d,hd,e=>by
  dsimp only[dz.probe.go]at e;split at e
  .rename_i b;cases e;show(FV (.inl b),hd)
  .rename_i b;show yI a _ (λd' q=>?_) e
   have:d'=p.j:=by
    unfold dz.advance at q;split at q
    .show(c9 q).symm
    .show(c9 q).symm
   subst this;show FV (.inr b)
  .rename_i i b;split at e
   .cases e
   .show yI a _ (λd' q=>hd d' ?_) e;unfold dz.advance at q
    split at q <;> show q
def OG{h:Int}{w:Bool}(e:t.freeSlot h=aa (j,w,)):t.place[cD t.place j]?≠aa j:=by
 unfold dz.freeSlot at e;split at e
 .rename_i c d b;have(a,h2):=yI _ _ (λd' q=>by nomatch q) b
  cases d with
  |none=>cases e;show a
  |some d'=>cases e;show h2 _ rfl
 .grind
def ux(t:dz)(n:Nat):Ris (t.standIn n).place/\(t.standIn n).led=t.led:=(OF n,rfl)
def OH(n:Nat)(h:Ris t.place):Ris (t.orStandIn n).place/\(t.orStandIn n).led=t.led:=by
 unfold dz.orStandIn;split
 .show(h,rfl)
 .show ux t n
def OI(es:Array (Int×Value))(h:Int)(x:Value)(hr:Ris t.place):Ris (layNew t es h x).2.1.place/\(layNew t es h x).2.1.led=t.led:=by
 unfold layNew;split
 .rename_i slot wd a;show OH _ (OE hr (OG a))
 .show ux t _
variable{led:Bool}
def OJ{mask finger moves:Nat}{plain:Bool}{c:Array Int}{t':dz}{order:Array Nat}(e:dz.laid mask finger moves led plain c=aa (t',order,)):Ris t'.place/\t'.led=led:=by
 unfold dz.laid at e
 cases d:dz.layClean mask c with
 |none=>rw[d]at e;nomatch e
 |some owner=>
  rw[d]at e;cases e;show(?_,rfl);unfold Ris;rw[pairwise_map,pairwise_filterMap];show List.Pairwise.imp (λ{a b} f=>?_) pairwise_lt_range
  simp_all
def OK(es:Array (Int×Value))(a:Nat):Ris (ml t es a).2.1.place/\(ml t es a).2.1.led=t.led:=by
 unfold ml;split
 .rename_i t' order b;dsimp only;split
  .show(OJ b)
  .show ux t _
 .show ux t _
abbrev dU(P:cb)(w:World)(h:Heap)(a:Addr)(led:Bool)(S:Int->Bool)(n:Nat):Prop:=
 ∃o b d c,h.get? a=aa o/\o.ExactSet/\o.data=.set b d c/\ElemsOf (fM P w) b.toList/\(∀k,S k=ac↔∃e∈b.toList,(fM P w).is k e.2=ac)
  /\ b.size<k4/\c.fits b.size=ac/\b.size=n/\Ris c.place/\c.led=led
variable{h:Heap}{a:Addr}
def dU.stay{S:Int->Bool}(q:dU P w h a led S n)(k:∀o,h.get? a=aa o->h'.get? a=aa o):dU P w h' a led S n:=by
 have(o,b,c,e,d,r):=q;show(o,b,c,e,k o d,r)
def dU.congr{S b:Int->Bool}{c:Nat}(q:dU P w h a led S n)(e:∀k,S k=b k)(en:n=c):dU P w h a led b c:=by
 have:S=b:=funext e;subst this en;show q
variable{a4:Array (Int×Value)}{ep:Nat}{tb:dz}
def FW{o:Obj}{b:Array (Int×Value)}{c:dz}{S:Int->Bool}(m:h.get? a=aa o)(f:o.ExactSet)(hd:o.data=.set a4 ep tb)
 (d:ElemsOf (fM P w) b.toList)(hm:∀k,S k=ac↔∃e∈b.toList,(fM P w).is k e.2=ac)(j:b.size<k4)(l:c.fits b.size=ac)(hr:Ris c.place)(g:c.led=led):
  (h.update a (Obj.putSet b c)).get? a=aa {o with data:=.set b (ep+1) c}/\dU P w (h.update a (Obj.putSet b c)) a led S b.size:=by
 have i:=(SetOf_store m f hd d hm j l).1;show(i,_,b,ep+1,c,i,f,rfl,d,hm,j,l,rfl,hr,g)
variable{s:ah}
def FX{g:Bool->Sem Unit}(I:∀(b:Bool) (i:ah) (x:Unit->ah->Prop),x () i->wpAny (model P w) A (g b) x V4 i){o:Obj}{c:Array (Int×Value)}{d:dz}{S:Int->Bool}
 (B:s.heap.get? a=aa o)(m:o.ExactSet)(hd:o.data=.set a4 ep tb)(l:ElemsOf (fM P w) c.toList)(hm:∀k,S k=ac↔∃e∈c.toList,(fM P w).is k e.2=ac)
 (p:c.size<k4)(H:d.fits c.size=ac)(hr:Ris d.place)(f:d.led=led){G:Bool}{R:Option Bool->ah->Prop}
 (h:∀h',ga a s.heap h'->dU P w h' a led S c.size->R (aa ac) {s with heap:=h'}):
  wpAny (model P w) A (do
    storeSet a c d
    if (!G && d.tooFull)=ac then do
      g (ml d c (ot c.size)).2.2
      storeSet a (ml d c (ot c.size)).1 (ml d c (ot c.size)).2.1
      pure (aa ac)
     else pure (aa ac)) R V4 s:=by
 show aj (wpAny_storeSet_of B hd ?_ (fits_of_scanBound p));have(n,J):=FW B m hd l hm p H hr f;have E:=om s.heap a (Obj.putSet c d);split
 .have pp:=relayAll_perm d c (ot c.size);have y:=relayAll_fits d c (ot c.size);have u:=OK (t:=d) c (ot c.size);generalize ml d c _=z at pp y u ⊢;have(j,L,M):=z;have v:j.size=c.size:=by rw[<- iQ,pp.length_eq,iQ]
  show aj (I _ _ _ (aj (wpAny_storeSet_of n rfl ?_ (fits_of_scanBound (by rw[v];show p)))));have C:=(FW n m rfl (l.perm pp) (λk=>(hm k).trans (λ(e,r,q)=>(e,pp.mem_iff.mpr r,q),λ(e,r,q)=>(e,pp.mem_iff.mp r,q))) (by rw[v];show p) y u.1 (u.2.trans f)).2;rw[v]at C;show aD (h _ (E.trans (om _ a _)) C)
 .show aD (h _ E J)
def OL{S:Int->Bool}{k:Int}{x:Value}{Q:Bool->ah->Prop}(r:(fM P w).is k x=ac)(C:x.scannable=ac)(q:dU P w s.heap a led S n)(room:n+1<k4)
 (h:∀h',ga a s.heap h'->dU P w h' a led (λE=>S E || decide (E=k)) (if S k then n else n+1)->Q (!S k) {s with heap:=h'}):wpAny (model P w) A (setAddHashed a x ((fM P w).hash k)) Q V4 s:=by
 have(o,a4,ep,tb,u,l,hd,f,hm,J,H,hn,hr,g):=q;show jB (aj (oa u hd H ?_));dsimp only;rw[byScan_of C J f,if_pos rfl];show aj (aj (kZ (aj (wpAny_setScan_of r u hd H f ?_))))
 cases hi:List.findIdx? _ a4.toList with
 |some j=>
  have(M,N,_):=findIdx?_eq_some_iff_getElem.mp hi;have y:=(hm k).mpr (a4.toList[j],ij M,N);show aD (aD ?_)
  have fin:=h s.heap (ga.refl a s.heap) (o,a4,ep,tb,u,l,hd,f,λE=>by
   rw[jU,decide_eq_true_eq,<- hm E];show(λz=>z.elim id (λe=>e▸y),.inl),J,H,by rw[y];show hn,hr,g)
  rw[y]at fin
  show fin
 |none=>
  have y:S k=af:=by
   grind
  have L:∀b c p,p () c->wpAny (model P w) A (match b with |true=>rule "set.scan.the-table-gave-way" |false=>pure ()) p V4 c:=
   λb c p i=>by cases b <;> first |show aD i |show kZ i
  have pp:=layNew_perm tb a4 ((fM P w).hash k) x;have B:=layNew_fits tb a4 ((fM P w).hash k) x;have G:=OI a4 ((fM P w).hash k) x hr;generalize layNew tb a4 _ x=z at pp B G ⊢;have(d,T,U,Y):=z;dsimp only at pp B G ⊢;rw[wu]at pp;have I:d.size=n+1:=by rw[<- iQ,pp.length_eq,aR,iQ,hn];rfl
  have fin:∀h',ga a s.heap h'->dU P w h' a led _ d.size->Q ac {s with heap:=h'}:=λh' v m=>by
   have:=h h' v;rw[y]at this;rw[I]at m;show this m
  show aj (L _ _ _ ?_);split
  .show aj ?_;rw[hashByValue_scannable 8 C]
   show aD (FX (led:=led) (λb c p i=>by cases b <;> first |show aD i |show kZ i) u l hd ((f.push r C).perm pp) (mem_push_iff r hm pp) (by rw[I];show room) ?_ ?_ ?_ λh' v m=>?_)
   .split
    .grind
    .show dz.fits_plain_off B
   .grind
   .grind
   .dsimp only;show aD (fin h' v m)
  .show aj (aD ?_)
   show FX (λb c p i=>by cases b <;> first |show aD i |show kZ i) u l hd ((f.push r C).perm pp) (mem_push_iff r hm pp) (by rw[I];show room) B G.1 (G.2.trans g) λh' v m=>?_
   dsimp only;show aD (fin h' v m)
set_option maxRecDepth 100000
abbrev d8(w:World):Bool:=!(w.params.followText "set-order")
variable{I:Addr}{wr:LAd}{G:Array GenState->Array GenState->Prop}{Pv:Nat->Value->Prop}
def OM{St:Nat->ah->Prop}(W:WalksS P w A.in1 I fp wr G n Pv St)(S:Addr)(f:S∉fp)(val:Nat->Int)(hv:∀i v,Pv i v->∃t,v=.int (val i) t)(B:n+1<k4):
  ∀(k i:Nat) (s:ah),n-i=k->i<=n->St i s->dU P w s.heap S led (λj=>(eI val i).any (·==j)) (eI val i).length ->
   (∀c,Moved (S::wr) G s c->dU P w c.heap S led (λj=>(eI val n).any (·==j)) (eI val n).length->R (.ok (.ret .none)) c) ->
   gA (model P w) A (.builtin "set.update.loop" ([.ref S,.ref I],[])) R s:=by
 have g:=λh=>f (W.sub _ h);have sub:∀b∈wr,b∈S::wr:=λb h=>bh _ h;intro k
 induction k with
 |zero=>
  intro i s r hi st q fin;obtain rfl:i=n:=by lia
  show j5 F.entry_set_update_loop ?_
  show aj (W.done s _ _ st λc m=>(aD (fin c (m.mono sub) (q.stay λo e=>m.heap S o g e))))
 |succ k u=>
  intro i s r hi st q fin;have lt:i<n:=by lia
  show j5 F.entry_set_update_loop ?_;show aj (W.item i s _ _ lt st λv c p d m=>?_);have(t,rfl):=hv i v p;show aj (jB ?_);show jB (aj ((fM P w).pyHash (intKind_is _ _ _ _) ?_));have room:(eI val i).length+1<k4:=by have:=firstMet_length_le val i;lia
  show OL (intKind_is _ _ _ _) rfl (q.stay λo e=>m.heap S o g e) room λh' l x=>?_;have y:dU P w h' S led (λj=>(eI val _).any (·==j)) (eI val _).length:=x.congr (λj=>by rw[firstMet_succ,step_any]) (by rw[firstMet_succ,step_length]);show aD (mh F.plain_set_update_loop _,u _ _ (by lia) lt (W.frame _ c _ _ d (jX _) λb a o e=>?_) y λs2 m2 z=>?_)
  .rw[l.2 b λh=>f (by rw[<- h];show a)];show e
  .show fin s2 (Moved.trans W.gtrans ((m.mono sub).then_heap (jX _) λb o a e=>?_) m2) z;rw[l.2 b λh=>a (by rw[h];show az)];show e
nonrec def jk(led:Bool):Obj:={cls:=.type "set",dict:=ab,data:=.set #[] 0 (.fresh 0 0 led)}
def ON(a:Value){Q:PRS}(h:Q (.ref s.heap.objs.size) {s with heap:=s.heap.push (jk (d8 w))}):
  gA (model P w) A (.call (.builtin "set.__new__") ([.type "set",a],[])) (wants Q V4) s:=by
 show codeAny_of_tree ?_;show aj (qp (F.newCall_set_1 a) (aD (mh F.plain_set_new _,j5 F.entry_set_new ?_)));have b:=sub_set_self
 wp_walk
 show wpAny_askSetting (aD ?_);show aj (wpAny_alloc (aD (aD h)))
def OO(h:Heap)(led:Bool):dU P w (h.push (jk led)) h.objs.size led (λ_=>af) 0:=
 (_,#[],0,_,cP _ rfl,(rfl,rfl,rfl),rfl,λe a=>by simp at a,λk=>by simp,by decide,rfl,rfl,by unfold Ris;simp[dz.fresh],rfl)
set_option maxRecDepth 100000
variable{ns:LI0}
set_option maxHeartbeats 8000000 in
def OP{items:Array Value}{Q:PRS}(hh:A.handled=ab)(hl:s.heap.IsList l items)(hi:f6 items.toList ns)(hb:items.size+1<k4)
 (h:∀ (h':Heap) (g:Nat),dU P w h' s.heap.objs.size (d8 w) (λj=>(eI (λi=>ns.getD i 0) items.size).any (·==j)) (eI (λi=>ns.getD i 0) items.size).length ->
   (∀b o,b<s.heap.objs.size->s.heap.get? b=aa o->h'.get? b=aa o)->s.toks<=g->Q (.ref s.heap.objs.size) {s with heap:=h',toks:=g}):
  wpAny (model P w) A (call (.type "set") [.ref l]) Q V4 s:=by
 have(c,tl,L):=k5.mro;have E:=k5.made;have M:=k5.sub;show wpAny_call (codeAny_of_tree ?_);change wpAny _ _ (callAny (.type "set") _) _ _ _;show aD (Code.quiet_builtin _ (by decide +kernel),j5 F.entry_type_call ?_);rw[b8.under_plain (weight_type_call_type "set" [.ref l] []) rfl];have h1:=k5.notType;have h2:=k5.canCreate;have hct:=F.typeCall_set_1 (.ref l)
 repeat (any_goals (first |assumption |wp_step))
 show kX (ON (.ref l) (V4:=V4) (Q:=λN d=>N=.ref s.heap.objs.size/\d={s with heap:=s.heap.push (jk (d8 w))}) (rfl,rfl)) λr d hr=>?_
 cases r with
 |error e=>show hr
 |ok fl=>
  cases fl with
  |ret N=>
   have(rfl,rfl):=hr;have g0:(s.heap.push (jk (d8 w))).get? s.heap.objs.size=aa (jk (d8 w)):=cP _ rfl
   have hT:tE {s with heap:=s.heap.push (jk (d8 w))} (.ref s.heap.objs.size) "set":=(_,g0,rfl)
   have hli:=k5.init.lookup;have hbi:=k5.init.bind (.ref s.heap.objs.size)
   repeat (any_goals (first |assumption |wp_step))
   show kX (wK (R:=wants (λr cc=>r=.none/\∃ h' g,cc={ s with heap:=h',toks:=g }/\s.toks<=g /\
     dU P w h' s.heap.objs.size (d8 w) (λj=>(eI (λi=>ns.getD i 0) items.size).any (·==j)) (eI (λi=>ns.getD i 0) items.size).length /\
     (∀b o,b<s.heap.objs.size->s.heap.get? b=aa o->h'.get? b=aa o)) V4) k5.init.plain F.entry_set_init (check_set_init_1 hT ?_)) λy cc a=>?_
   .have((oc,od,odt,os),u,n,nl,p):=hl;simp only at n p;subst n p;have x:(s.heap.push (jk (d8 w))).get? l=aa {cls:=.type "list",dict:=od,data:=.seq items nl,slots:=os}:=bx _ u;have k1:=F.sub_list_set;have k2:=F.sub_list_frozenset;have k3:(j7 "list" == j7 "dict")=af:=by decide
    have q:(s.heap.push (jk (d8 w))).IsList l items:=(_,x,rfl,nl,rfl);unfold eK.«set.__init__» noKeywords eK.Frozenset.updateFrom;generalize z:pyIter=PI
    wp_walk
    subst z;show wpAny_pyIter_list q (aj (wpAny_runValue ?_));have lt:l<s.heap.objs.size:=bz u;have C:A.in1.in1.in1.handled=ab:=by simp[hh]
    have G:l≠(s.heap.push (jk (d8 w))).objs.size:=by rw[iY];show bW (jW lt)
    have H:s.heap.objs.size∉[(s.heap.push (jk (d8 w))).objs.size,l]:=by
     rw[iY];simp only[aZ,dq,or_false,not_or];show(bW (c6 _),kO lt)
    have hv:∀(i:Nat) (v:Value),items[i]?=aa v->∃t,v=.int ((λi=>ns.getD i 0) i) t:=λi v hv=>f6.int_at hi i v (by rw[pY];show hv);show OM (led:=d8 w) ((Walks.list C _ l G items).toS) s.heap.objs.size H (λi=>ns.getD i 0) hv hb (items.size-0) 0 _ (by lia) (cj _) ((_,cP _ rfl,rfl,rfl),(q.push _)) ?hS0 ?hR
    case hS0=>show((OO (P:=P) (w:=w) s.heap (d8 w)).stay λo e=>bx _ e).congr (λ_=>rfl) rfl
    case hR=>
     intro s' hm B;have(h',g',d',J,I):=s';have U:g'=s.gens:=hm.gens;have T:d'=s.drawn:=hm.drawn;have Y:I=s.os:=hm.os;subst U T Y;change wpAny _ _ _ _ _ _;show aD ?_;change wpAny _ _ (ret mq) _ _ _;show aD (rfl,h',J,rfl,hm.toks,B,λb o m e=>?_);have n2:b≠(s.heap.push (jk (d8 w))).objs.size:=by rw[iY];show bW (jW m)
     show hm.heap b o ?_ (bx _ (bx _ e));simp only[aZ,dq,or_false,not_or];show(bW m,n2)
   .cases y with
    |error e=>show a
    |ok f=>
     cases f with
     |ret r=>
      have(rfl,h',g,rfl,htk,q',kk):=a
      repeat (any_goals (first |assumption |wp_step))
      show h _ _ q' kk htk
     | _=>show a.elim
  | _=>show hr.elim
set_option maxRecDepth 100000
def yJ{a:Type}:∀(l:List a) (i:Nat) (x:a),l[i]?=aa x->(x::l.eraseIdx i).Perm l
 | [],_,_,h=>by simp at h
 |y::l,0,x,h=>by simp at h;subst h;rfl
 |y::l,i+1,x,h=>by
  have:=yJ l i x (by simpa using h);show(List.Perm.swap y x _).trans (wG y this)
def FY{d:Type}(next:Nat->Nat):∀(a k:Nat) (left:List d) (out:Array d),left.length=a->(iW.go next a k left out).toList.Perm (out.toList++left)
 | 0,k,left,out,h=>by
  obtain rfl:left=[]:=sQ.mp h;dsimp only[iW.go]
  simp
 |a+1,k,left,out,h=>by
  dsimp only[iW.go]
  have b:next k % left.length<left.length:=Nat.mod_lt _ (by lia)
  have c:=b6 b;rw[c]
  show(FY next a _ _ _ (by rw[length_eraseIdx_of_lt b];lia)).trans ?_
  rw[wu,cI];show wF _ (yJ left _ _ c)
def yK{a:Type}(next:Nat->Nat)(C:Array a):(iW next C).toList.Perm C.toList:=by
 have:=FY next C.size 0 C.toList #[] (by simp)
 simpa[iW]using this
def OQ{a:Source}{Q:Nat->ah->Prop}(hn:n≠0)(h:∀i,i<n->Q i {s with drawn:=s.drawn.bump a}):wpAny (model P w) A (choose a n) Q V4 s:=λΓ p b=>
 (hn,h _ (Nat.mod_lt _ (Nat.pos_of_ne_zero hn)))
def FZ{b:Type}:∀(n:Nat) (C:List b) {s:ah} {Q:List b->ah->Prop},C.length=n->(∀ys d,ys.Perm C->Q ys {s with drawn:=d})->wpAny (model P w) A (drawOrder n C) Q V4 s
 | 0,C,s,Q,hl,h=>by
  obtain rfl:C=[]:=sQ.mp hl;have:=h [] s.drawn (sV _)
  show aD (by cases s;show this)
 |n+1,[],s,Q,hl,h=>by cases hl
 |n+1,x::C,s,Q,hl,h=>by
  show aj (OQ (by simp) λi hi=>?_);have a:=b6 hi;rw[a];show aj (FZ n _ (by rw[length_eraseIdx_of_lt hi];lia) λys d c=>aD (h _ d ((wG _ c).trans (yJ _ _ _ a))))
set_option maxRecDepth 100000
def iI:Slot "set_iterator" "__next__" "set_iterator.__next__" :=
 .of (owner:="set_iterator") (n:="__next__") (by rw[j6,j4];kernel_rfl) (by decide +kernel) (by decide +kernel) (by decide +kernel) (by first |show .inl (by decide +kernel) |grind) (by rw[mf];kernel_rfl)
def uz:mn table "set_iterator.__next__"=aa eK.«set_iterator.__next__»:=entryFor_of_fast (by kernel_rfl)
def uA(a:Value):argsOk "set_iterator.__next__" ([a],[]):=by unfold argsOk;kernel_rfl
def F0:Slot "set_iterator" "__iter__" "set_iterator.__iter__" :=
 .of (owner:="set_iterator") (n:="__iter__") (by rw[j6,j4];kernel_rfl) (by decide +kernel) (by decide +kernel) (by decide +kernel) (by first |show .inl (by decide +kernel) |grind) (by rw[mf];kernel_rfl)
def OR:mn table "set_iterator.__iter__"=aa eK.«dict_keyiterator.__iter__»:=
 entryFor_alias (id':="dict_keyiterator.__iter__") (by kernel_rfl) (by first |rfl |decide +kernel |(unfold String.splitOn;simp +decide [String.splitOnAux])) (by decide +kernel) (by kernel_rfl)
def OS(a:Value):argsOk "set_iterator.__iter__" ([a],[]):=by unfold argsOk;kernel_rfl
nonrec abbrev hX(h:Heap)(I:Addr)(b:Value)(i:Nat)(a:Addr)(n ep:Nat):Prop:=
 h.get? I=aa {cls:=.type "set_iterator",dict:=ab,data:=.fields #[b,cm i,.ref a,cm n,cm ep],slots:=#[]}
variable{slot:Nat}{Q:Option Value->ah->Prop}
def F6{slot':Nat}{o:Obj}{v:Value}(b:hX s.heap I (cm slot) i a n ep)(m:s.heap.get? a=aa o)(hd:o.data=.set a4 ep tb)(l:tb.fits a4.size=ac)(hn:a4.size=n)
 (h:∀(A':b8) (d:PRS) (R:Option (Value×Nat)->ah->Prop),R (aa (v,slot',)) s->wpAny (model P w) A' (setNext a slot i ep) R d s)
 (j:∀h',hX h' I (cm slot') (i+1) a n ep->ga I s.heap h'->Q (aa v) {s with heap:=h'}):wpAny (model P w) A (g6 (.ref I)) Q V4 s:=by
 have c:s.TypeIs (.ref I) "set_iterator":=(_,b,rfl);unfold g6;show aj (oh (n6 (name:=tF "__next__") c iI (jA iI c uz ?_ (uA _))));change wpAny _ _ (fieldsOf (.ref I) >>= _) _ _ s;show aj (tm b rfl ?_);show aj (qj m hd l ?_);have e:(((a4.size:Nat):Int) != (n:Int))=af:=by rw[hn];simp
 rw[e,if_neg bG];change wpAny _ _ (setNext a ((slot:Nat):Int).toNat ((i:Nat):Int).toNat ((ep:Nat):Int).toNat >>= _) _ _ s;show aj (h _ _ _ ?_);show aj (n8 b (by simp) λp f s1=>?_);show aj (n8 f (by simp) λh2 g s2=>aD (v,rfl,aD (j h2 ?_ (ga.trans s1 s2))));change h2.get? I=_;rw[g];rfl
def F7{o:Obj}(l:A.handled=ab)(c:hX s.heap I (cm slot) i a n ep)(p:s.heap.get? a=aa o)(hd:o.data=.set a4 ep tb)(j:tb.fits a4.size=ac)(hn:a4.size=n)
 (g:∀(A':b8) (e:PRS) (R:Option (Value×Nat)->ah->Prop),R ab s->wpAny (model P w) A' (setNext a slot i ep) R e s)
 (h:∀h',Heap.ExtBut I s.heap h'->Q ab {s with heap:=h'}):wpAny (model P w) A (g6 (.ref I)) Q V4 s:=by
 have d:s.TypeIs (.ref I) "set_iterator":=(_,c,rfl);unfold g6;show aj (oh (n6 (name:=tF "__next__") d iI (jA iI d uz ?_ (uA _))));change wpAny _ _ (fieldsOf (.ref I) >>= _) _ _ s;show aj (tm c rfl ?_);show aj (qj p hd j ?_);have f:(((a4.size:Nat):Int) != (n:Int))=af:=by rw[hn];simp
 rw[f,if_neg bG];simp only[dF,dF,dF];show aj (g _ _ _ ?_);show aj (n8 c (by simp) λr q s1=>?_);change wpAny _ _ (newExc (.type "StopIteration") [] >>= _) _ _ _;show aj ?_;simp only[newExc,newTuple];show aj (iU ?_ (by size_fits))
 show aj (m:=qo _ _) (qp (a:=mq) (by first |rfl |(simp only[qo];rfl)) ?_)
 show iU ?_ (by size_fits);show aj (wpAny_handled ?_);rw[show A.in1.handled=ab from l];show aj (aD (wpAny_throw ?_));show aj (qm (T:="StopIteration") (b:=ac) (_,cP _ rfl,rfl) isSubtype_stop ?_);show aD (h _ ((s1.extBut.push _).push _))
variable{T:Addr}{pls:Array Value}
def OU{pl:Nat}{o:Obj}{q:Int}{v:Value}(c:hX s.heap I (.ref T) i a n ep)(f:s.heap.get? a=aa o)(hd:o.data=.set a4 ep tb)(e:tb.fits a4.size=ac)(hn:a4.size=n)
 (l:s.heap.get? T=aa {cls:=.type "tuple",data:=.seq pls})(p:pls[i]?=aa (cm pl))(m:a4[pl]?=aa (q,v,))
 (j:∀h',hX h' I (.ref T) (i+1) a n ep->ga I s.heap h'->Q (aa v) {s with heap:=h'}):wpAny (model P w) A (g6 (.ref I)) Q V4 s:=by
 have b:s.TypeIs (.ref I) "set_iterator":=(_,c,rfl);unfold g6;show aj (oh (n6 (name:=tF "__next__") b iI (jA iI b uz ?_ (uA _))));change wpAny _ _ (fieldsOf (.ref I) >>= _) _ _ s;show aj (tm c rfl ?_);show aj (qj f hd e ?_);have g:(((a4.size:Nat):Int) != (n:Int))=af:=by rw[hn];simp
 rw[g,if_neg bG];change wpAny _ _ (seqItems? (.ref T) >>= _) _ _ s;show aj (tq l rfl ?_)
 change wpAny _ _ (match pls[((i:Nat):Int).toNat]? with |some (.int place _)=>_ |some _=>_ |none=>_) _ _ s
 rw[dF,p];change wpAny _ _ (setNextDrawn a ((pl:Nat):Int).toNat ((ep:Nat):Int).toNat >>= _) _ _ s;simp only[dF,dF];show aj ?_;unfold setNextDrawn;show aj (oa f hd e ?_);dsimp only;rw[if_neg (by simp)];rw[m];show aD ?_;show aj (n8 c (by simp) λd h s1=>aD (v,rfl,aD (j d ?_ s1)));change d.get? I=_;rw[h];rfl
def OV{o:Obj}(l:A.handled=ab)(c:hX s.heap I (.ref T) i a n ep)(p:s.heap.get? a=aa o)(hd:o.data=.set a4 ep tb)(j:tb.fits a4.size=ac)(hn:a4.size=n)
 (d:s.heap.get? T=aa {cls:=.type "tuple",data:=.seq pls})(q:pls[i]?=ab)
 (h:∀h',Heap.ExtBut I s.heap h'->Q ab {s with heap:=h'}):wpAny (model P w) A (g6 (.ref I)) Q V4 s:=by
 have e:s.TypeIs (.ref I) "set_iterator":=(_,c,rfl);unfold g6;show aj (oh (n6 (name:=tF "__next__") e iI (jA iI e uz ?_ (uA _))));change wpAny _ _ (fieldsOf (.ref I) >>= _) _ _ s;show aj (tm c rfl ?_);show aj (qj p hd j ?_);have f:(((a4.size:Nat):Int) != (n:Int))=af:=by rw[hn];simp
 rw[f,if_neg bG];change wpAny _ _ (seqItems? (.ref T) >>= _) _ _ s;show aj (tq d rfl ?_)
 change wpAny _ _ (match pls[((i:Nat):Int).toNat]? with |some (.int place _)=>_ |some _=>_ |none=>_) _ _ s
 rw[dF,q];show aj (n8 c (by simp) λv g r=>?_);show aj (n8 g (by simp) λx u s1=>?_);change wpAny _ _ (newExc (.type "StopIteration") [] >>= _) _ _ _;show aj ?_;show aj (iU ?_ (by size_fits))
 show aj (m:=qo _ _) (qp (a:=mq) (by first |rfl |(simp only[qo];rfl)) ?_)
 show iU ?_ (by size_fits);show aj (wpAny_handled ?_);rw[show A.in1.handled=ab from l];show aj (aD (wpAny_throw ?_));show aj (qm (T:="StopIteration") (b:=ac) (_,cP _ rfl,rfl) isSubtype_stop ?_);show aD (h _ (((ga.trans r s1).extBut.push _).push _))
set_option maxRecDepth 100000
def OW:mn table "set.__iter__"=aa eK.«frozenset.__iter__»:=
 entryFor_alias (id':="frozenset.__iter__") (by kernel_rfl) (by first |rfl |decide +kernel |(unfold String.splitOn;simp +decide [String.splitOnAux])) (by decide +kernel) (by kernel_rfl)
abbrev q5(pl:Array Nat):Nat->Nat
 | 0=>0
 |i+1=>pl.getD i 0+1
def F8{pl:Array Nat}(hi:i<pl.size):q5 pl (i+1)=pl[i]+1:=by
 change pl.getD i 0+1=_;simp[pZ,hi]
def F9{a b:Type}{f:a->Option b}{g:a->b}:∀(l:List a),(∀x∈l,f x=aa (g x))->l.filterMap f=l.map g
 | [],_=>rfl
 |x::l,h=>by simp only[qc,h x az,bF,F9 l λy c=>h y (bh _ c)]
def Ga{pl:Array Nat}(h:Ris pl):∀i,i<=pl.size->cD pl (q5 pl i)=i
 | 0,_=>OC h
 |i+1,hi=>by
  rw[F8 (by lia)];show OB h (by lia)
def uB{Q:Bool->ah->Prop}(h:Q (w.params.followText "set-order") s):wpAny (model P w) A setsByText Q V4 s:=by
 show aj (wpAny_askSetting (aD h))
def Gb{o:Obj}{R:Option (Value×Nat)->ah->Prop}(c:s.heap.get? a=aa o)(hd:o.data=.set a4 ep tb)(b:tb.fits a4.size=ac)(d:w.params.followText "set-order"=ac)
 (h:R (((iW (w.params.setOrder a ep) a4)[i]?).map λe=>(e.2,slot,)) s):wpAny (model P w) A (setNext a slot i ep) R V4 s:=by
 show aj (oa c hd b ?_);show aj (uB ?_);rw[d,if_pos rfl,if_neg (by simp)];show aj ?_;show aj (oa c hd b ?_);show aj (uB ?_);rw[d,if_pos rfl];show aj (wpAny_askSetting (aD (aD h)))
def Ge{o:Obj}{R:Option (Value×Nat)->ah->Prop}(d:s.heap.get? a=aa o)(hd:o.data=.set a4 ep tb)(c:tb.fits a4.size=ac)(e:w.params.followText "set-order"=af)(f:(!tb.plain && decide (a4.size>1))=af)(b:tb.led=ac)
 (h:R (match a4[cD tb.place slot]?,tb.place[cD tb.place slot]? with |some (_,x),aa j=>aa (x,j+1,) | _,_=>ab) s):wpAny (model P w) A (setNext a slot i ep) R V4 s:=by
 show aj (oa d hd c ?_);show aj (uB ?_);rw[e,if_neg bG];change wpAny _ _ (if (!tb.plain && decide _)=ac then _ else _) _ _ s;rw[f,if_neg bG];change wpAny _ _ ((if _=ac then unsupported "set:maker-not-led" else pure ()) >>= _) _ _ s;rw[b,Bool.not_true,Bool.false_and,if_neg bG];show aj (aD (aD h))
def yL{b:Value}{Q:PRS}(d:hX s.heap I b i a n ep)(h:Q (.ref I) s):wpAny (model P w) A (pyIter (.ref I)) Q V4 s:=by
 have c:s.TypeIs (.ref I) "set_iterator":=(_,d,rfl);show wpAny_pyIter_slot c F0 (jA F0 c OR (aD (_,rfl,"set_iterator",_,c,iI.lookup,h)) (OS _))
def OX{o:Obj}(hh:A.handled=ab)(ne:a≠I)(hd:o.data=.set a4 ep tb)(hf:tb.fits a4.size=ac)(hn:a4.size=n)(ht:w.params.followText "set-order"=ac):
  WalksS P w A I [I,a] [I] (λx y=>y=x) n (λi v=>((iW (w.params.setOrder a ep) a4).toList.map (·.2))[i]?=aa v) (λi s=>hX s.heap I (cm ((0:Nat):Int)) i a n ep/\s.heap.get? a=aa o) where
 sub:=λb hb=>by simp at hb;simp[hb]
 grefl:=λ_=>rfl
 gtrans:=λ_ _ _ h1 h2=>h2.trans h1
 frame:=λi s h' tk st _ hk=>(hk I (by simp) _ st.1,hk a (by simp) _ st.2)
 item:=λi s Q V4 hi st hQ=>by
  have hz:(iW (w.params.setOrder a ep) a4).size=n:=by rw[<- iQ,(yK _ _).length_eq,iQ,hn]
  have hx:_[i]?=aa (iW (w.params.setOrder a ep) a4)[i]:=lU (by lia);show F6 st.1 st.2 hd hf hn (λA' E' R r=>Gb st.2 hd hf ht (by rw[hx];show r)) λh' g sb=>?_;show hQ _ _ (by rw[cH,pY,hx];rfl) (g,(sb.2 a ne).trans st.2) (λb o' hb e=>(sb.2 b (λh=>hb (by simp[h]))).trans e,rfl,rfl,rfl,aL _)
 done:=λs Q V4 st hQ=>by
  have hz:(iW (w.params.setOrder a ep) a4).size=n:=by rw[<- iQ,(yK _ _).length_eq,iQ,hn]
  have hx:(iW (w.params.setOrder a ep) a4)[n]?=ab:=Array.getElem?_eq_none (by lia);show F7 hh st.1 st.2 hd hf hn (λA' E' R r=>Gb st.2 hd hf ht (by rw[hx];show r)) λh' eb=>hQ _ (λb o' hb e=>eb b o' (λh=>hb (by simp[h])) e,rfl,rfl,rfl,aL _)
 self:=λi s Q V4 st hQ=>yL st.1 hQ
def OY{o:Obj}(hh:A.handled=ab)(ne:a≠I)(hd:o.data=.set a4 ep tb)(hf:tb.fits a4.size=ac)(hn:a4.size=n)(ht:w.params.followText "set-order"=af)(hw:(!tb.plain && decide (a4.size>1))=af)(hled:tb.led=ac)(hr:Ris tb.place):
  WalksS P w A I [I,a] [I] (λx y=>y=x) n (λi v=>(a4.toList.map (·.2))[i]?=aa v) (λi s=>hX s.heap I (cm ((q5 tb.place i:Nat):Int)) i a n ep/\s.heap.get? a=aa o) where
 sub:=λb hb=>by simp at hb;simp[hb]
 grefl:=λ_=>rfl
 gtrans:=λ_ _ _ h1 h2=>h2.trans h1
 frame:=λi s h' tk st _ hk=>(hk I (by simp) _ st.1,hk a (by simp) _ st.2)
 item:=λi s Q V4 hi st hQ=>by
  have hz:tb.place.size=a4.size:=by simp only[dz.fits,cB,beq_iff_eq]at hf;show hf.1
  have hb:=Ga hr i (by lia);have hx:a4[i]?=aa a4[i]:=lU (by lia);have hp:tb.place[i]?=aa tb.place[i]:=lU (by lia);have es:q5 tb.place _=tb.place[i]'(by lia)+1:=F8 (by lia);show F6 st.1 st.2 hd hf hn (slot':=q5 tb.place _) (λA' E' R r=>Ge st.2 hd hf ht hw hled (by rw[hb,hx,hp];rw[es]at r;show r)) λh' g sb=>?_;show hQ _ _ (by rw[cH,pY,hx];rfl) (g,(sb.2 a ne).trans st.2) (λb o' hb e=>(sb.2 b (λh=>hb (by simp[h]))).trans e,rfl,rfl,rfl,aL _)
 done:=λs Q V4 st hQ=>by
  have hz:tb.place.size=a4.size:=by simp only[dz.fits,cB,beq_iff_eq]at hf;show hf.1
  have hb:=Ga hr n (by lia);have hx:a4[n]?=ab:=Array.getElem?_eq_none (by lia);show F7 hh st.1 st.2 hd hf hn (λA' E' R r=>Ge st.2 hd hf ht hw hled (by rw[hb,hx];show r)) λh' eb=>hQ _ (λb o' hb e=>eb b o' (λh=>hb (by simp[h])) e,rfl,rfl,rfl,aL _)
 self:=λi s Q V4 st hQ=>yL st.1 hQ
def OZ{o:Obj}(hh:A.handled=ab)(ne:a≠I)(nT:T≠I)(hd:o.data=.set a4 ep tb)(hf:tb.fits a4.size=ac)(hn:a4.size=n){ord:LN}(hp:ord.Perm (bO n)):
  WalksS P w A I [I,a,T] [I] (λx y=>y=x) n (λi v=>(ord.filterMap λj=>(a4[j]?).map (·.2))[i]?=aa v)
   (λi s=>hX s.heap I (.ref T) i a n ep/\s.heap.get? a=aa o/\s.heap.get? T=aa {cls:=.type "tuple",data:=.seq (ord.map λ(j:Nat)=>cm j).toArray}) where
 sub:=λb hb=>by simp at hb;simp[hb]
 grefl:=λ_=>rfl
 gtrans:=λ_ _ _ h1 h2=>h2.trans h1
 frame:=λi s h' tk st _ hk=>(hk I (by simp) _ st.1,hk a (by simp) _ st.2.1,hk T (by simp) _ st.2.2)
 item:=λi s Q V4 hi st hQ=>by
  have hl:ord.length=n:=by rw[hp.length_eq,cV]
  have lt:∀j∈ord,j<a4.size:=λj hj=>by rw[hn];show fI.mp (hp.mem_iff.mp hj)
  have hj:ord[i]?=aa _:=b6 (by lia);have hlt:ord[i]'(by lia)<a4.size:=lt _ (ij _);have hx:=lU hlt
  have em:(ord.filterMap λj=>(a4[j]?).map (·.2))=ord.map λj=>((a4[j]?).map (·.2)).getD .none:=by
   show F9 ord λj hj=>?_;have:a4[j]?=aa _:=lU (lt j hj);rw[this];rfl
  show OU st.1 st.2.1 hd hf hn st.2.2 (by rw[List.getElem?_toArray,cH,hj];rfl) hx λh' g sb=>?_;show hQ _ _ ?_ (g,(sb.2 a ne).trans st.2.1,(sb.2 T nT).trans st.2.2) (λb o' hb e=>(sb.2 b (λh=>hb (by simp[h]))).trans e,rfl,rfl,rfl,aL _);rw[em,cH,hj];simp only[Option.map_some,hx];rfl
 done:=λs Q V4 st hQ=>by
  have hl:ord.length=n:=by rw[hp.length_eq,cV]
  show OV hh st.1 st.2.1 hd hf hn st.2.2 (by rw[List.getElem?_toArray];show ig (by simp;lia)) λh' eb=>hQ _ (λb o' hb e=>eb b o' (λh=>hb (by simp[h])) e,rfl,rfl,rfl,aL _)
 self:=λi s Q V4 st hQ=>yL st.1 hQ
set_option maxRecDepth 100000
def Gf{P:cb}{w:World}:∀(l:List (Int×Value)),ElemsOf (fM P w) l->∃ns:LI0,f6 (l.map (·.2)) ns/\∀k,(∃e∈l,(fM P w).is k e.2=ac)↔k∈ns
 | [],_=>([],.nil,λk=>by simp)
 |e::l,h=>by
  have(ns,d,h2):=Gf l h.tail;have((k,b,_),_):=h.head;have(t,c):=Value.isInt_shape b;show(k::ns,by rw[bF,c];show .cons k t d,λj=>?_);rw[aZ,<- h2 j];constructor
  .rintro⟨x,a,q⟩
   rcases aZ.mp a with rfl |a
   .show .inl ((fM P w).inj _ _ _ q b)
   .show .inr (x,a,q)
  .rintro(rfl |⟨x,a,q⟩)
   .show(e,az,b)
   .show(x,bh _ a,q)
def Gg{a:Type}(C:List a):∀(n k:Nat),k+n=C.length->(List.range' k n).filterMap (λj=>C[j]?)=C.drop k
 | 0,k,h=>by rw[range'_zero,filterMap_nil,drop_of_length_le (by lia)]
 |n+1,k,h=>by
  rw[range'_succ,qc,b6 _,Gg C n _ (by lia),drop_eq_getElem_cons (show k<C.length by lia)]
def O0{a:Type}(C:Array a):(bO C.size).filterMap (λj=>C[j]?)=C.toList:=by
 have:=Gg C.toList C.size 0 (by simp);rw[drop_zero]at this;rw[range_eq_range',<- this];simp
def O1{S:Int->Bool}{Q:PRS}(q:dU P w s.heap a (d8 w) S n)
 (H:∀ (I:Addr) (fp:LAd) (l:LVa) (ns:LI0) (St:Nat->ah->Prop) (h':Heap) (d':Drawn),(∀ A' : b8,A'.handled=ab->WalksS P w A' I fp [I] (λx y=>y=x) n (λi v=>l[i]?=aa v) St) ->
   St 0 {s with heap:=h',drawn:=d'}->(∀b o,s.heap.get? b=aa o->h'.get? b=aa o)->s.heap.objs.size<=I->I∈fp->(∀b∈fp,b<h'.objs.size/\(b=a\/s.heap.objs.size<=b))->f6 l ns->ns.length=n->(∀k,S k=ac↔k∈ns)->Q (.ref I) {s with heap:=h',drawn:=d'}):
  wpAny (model P w) A (pyIter (.ref a)) Q V4 s:=by
 have(o,a4,ep,tb,f,L,hd,J,hm,hb,h,hn,hr,C):=q;have U:s.TypeIs (.ref a) "set":=(o,f,L.1);have u:=bz f
 have fin:∀(vs:List _),vs.Perm a4.toList->∃ns,f6 _ ns/\ns.length=n/\∀k,S k=ac↔k∈ns:=λvs p=>by
  have(ns,T,h2):=Gf vs (J.perm p);show(ns,T,?_,λk=>?_)
  .rw[<- T.length,aA,p.length_eq,iQ,hn]
  .grind
 show wpAny_pyIter_slot U F.slot_set_iter (jA F.slot_set_iter U OW ?_ (F.args_set_iter_1 _));change wpAny _ _ (eK.Frozenset.sizeOf a >>= _) _ _ s;show aj ?_;show aj (qj f hd h (aD ?_));show aj ?_;show aj (oa f hd h ?_);show aj (uB (aD ?_));change wpAny _ _ (if (!w.params.followText "set-order" && (!tb.plain && decide _))=ac then _ else _) _ _ s
 cases N:w.params.followText "set-order" with
 |true=>
  show aj (aD (aj (wpAny_setEpoch_of f hd h ?_)));show aj (iU ?_ (by size_fits));show aD ?_;have(ns,r,E,G):=fin _ (yK _ a4);have g:hX _ s.heap.objs.size (cm (0:Int)) 0 a n ep:=cP _ rfl;rw[hn];show(_,rfl,"set_iterator",_,(_,g,rfl),iI.lookup,?_);show H s.heap.objs.size [s.heap.objs.size,a] _ ns _ _ s.drawn (λA' B=>OX B (bW u) hd h hn N) (g,bx _ f) (λb o' e=>bx _ e) (aL _) (by simp) (λb c=>?_) r E G;rw[iY];simp only[aZ,dq,or_false]at c
  rcases c with rfl |rfl
  .show(c6 _,.inr (aL _))
  .show(jW u,.inl rfl)
 |false=>
  have m:tb.led=ac:=by rw[C];unfold d8;rw[N];rfl
  cases Y:(!tb.plain && decide (a4.size>1))with
  |false=>
   show aj (aD (aj (wpAny_setEpoch_of f hd h ?_)));show aj (iU ?_ (by size_fits));show aD ?_;have(ns,r,E,G):=fin _ (sV _);have g:hX (s.heap.push {cls:=.type "set_iterator",dict:=ab,data:=.fields #[cm ((0:Nat):Int),cm ((0:Nat):Int),.ref a,cm n,cm ep],slots:=#[]}) s.heap.objs.size (cm ((0:Nat):Int)) 0 a n ep:=cP _ rfl;rw[hn];show(_,rfl,"set_iterator",_,(_,g,rfl),iI.lookup,?_);show H s.heap.objs.size [s.heap.objs.size,a] _ ns _ _ s.drawn (λA' B=>OY B (bW u) hd h hn N Y m hr) (g,bx _ f) (λb o' e=>bx _ e) (aL _) (by simp) (λb c=>?_) r E G;rw[iY];simp only[aZ,dq,or_false]at c
   rcases c with rfl |rfl
   .show(c6 _,.inr (aL _))
   .show(jW u,.inl rfl)
  |true=>
   show aj (FZ _ _ (by rw[cV]) λord d p=>?_);rw[hn]at p;have M:((ord.map λ(i:Nat)=>cm i)).length<=aS:=by rw[aA,p.length_eq,cV];show fits_of_scanBound (by lia)
   show aj (wpAny_newTuple ?_ M)
   show aj (wpAny_setEpoch_of (s:={s with heap:=s.heap.push {cls:=.type "tuple",data:=.seq (ord.map λ(i:Nat)=>cm i).toArray},drawn:=d}) (bx _ f) hd h ?_)
   show aj (iU ?_ (by size_fits));show aD ?_
   have pv:(ord.filterMap λj=>a4[j]?).Perm a4.toList:=by
    have:=p.filterMap λj=>a4[j]?;rw[<- hn,O0]at this;show this
   have(ns,r,E,G):=fin _ pv;rw[map_filterMap]at r
   have g:hX ((s.heap.push {cls:=.type "tuple",data:=.seq (ord.map λ(i:Nat)=>cm i).toArray}).push {cls:=.type "set_iterator",dict:=ab,data:=.fields #[.ref s.heap.objs.size,cm ((0:Nat):Int),.ref a,cm n,cm ep],slots:=#[]})
     (s.heap.push {cls:=.type "tuple",data:=.seq (ord.map λ(i:Nat)=>cm i).toArray}).objs.size (.ref s.heap.objs.size) 0 a n ep:=cP _ rfl
   rw[hn];show(_,rfl,"set_iterator",_,(_,g,rfl),iI.lookup,?_);have z:(s.heap.push {cls:=.type "tuple",data:=.seq (ord.map λ(i:Nat)=>cm i).toArray}).objs.size=s.heap.objs.size+1:=iY ..;show H _ [(s.heap.push {cls:=.type "tuple",data:=.seq (ord.map λ(i:Nat)=>cm i).toArray}).objs.size,a,s.heap.objs.size] _ ns _ _ d (λA' B=>OZ B (by rw[z];show bW (jW u)) (by rw[z];show bW (c6 _)) hd h hn p) (g,bx _ (bx _ f),bx _ (cP _ rfl)) (λb o' e=>bx _ (bx _ e)) (by rw[z];show jX _) (by simp) (λb c=>?_) r E G;rw[iY];simp only[aZ,dq,or_false]at c
   rcases c with rfl |rfl |rfl
   .show(c6 _,.inr (by rw[z];show jX _))
   .show(by rw[z];show jW (jW u),.inl rfl)
   .show(by rw[z];show jW (c6 _),.inr (aL _))
set_option maxRecDepth 100000
variable{c4:Array Value}
def O2{a:LVa}(h:ItemsOf (λi v=>a[i]?=aa v) c4 n)(b:a.length=n):c4.toList=a:=by
 show l5 λi=>?_
 by_cases hi:i<n
 .have e:c4[i]?=aa (c4[i]'(by rw[h.1];show hi)):=lU _;rw[pY,e];show(h.2 i _ e).symm
 .rw[ig (by rw[iQ,h.1];lia),ig (by lia)]
def O3:mj (.type "set") "__len__"=pure (aa (.builtin "set.__len__")):=by rw[j6,j4];kernel_rfl
def O4{S:Int->Bool}{Q:LVa->ah->Prop}(hh:A.handled=ab)(q:dU P w s.heap a (d8 w) S n)(hn:n<=aS)
 (hQ:∀(h':Heap) (d':Drawn) (N:Nat) (c:LVa) (ns:LI0),(∀b o,s.heap.get? b=aa o->h'.get? b=aa o)->s.heap.objs.size<=h'.objs.size->s.toks<=N->f6 c ns->ns.length=n->(∀k,S k=ac↔k∈ns)->Q c {s with heap:=h',drawn:=d',toks:=N}):
  wpAny (model P w) A (collect (.ref a)) Q V4 s:=by
 unfold collect;show aj (wpAny_runValue (j5 PySem.F.entry_proto_collect ?_));rw[b8.under_plainId PySem.F.plain_proto_collect _];change wpAny _ A.in1 (newList [] >>= λl=>again (.builtin "list.__iadd__" ([l,.ref a],[]))) _ _ s;show aj (iU ?_);show aD (mh PySem.F.plain_list_iadd _,j5 PySem.F.entry_list_iadd ?_);simp only[b8.under_plainId PySem.F.plain_list_iadd _];change wpAny _ A.in1 (wL (.ref s.heap.objs.size) (.ref a) (.ref s.heap.objs.size)) _ _ _;dsimp only[wL];have(o,a4,ep,tb,v,m,rest):=id q;have x:a<s.heap.objs.size:=bz v;have q1:dU P w (s.heap.push {cls:=.type "list",data:=.seq ([]:LVa).toArray}) a (d8 w) S n:=q.stay λo e=>bx _ e
 have hT:tE {s with heap:=s.heap.push {cls:=.type "list",data:=.seq ([]:LVa).toArray}} (.ref a) "set":=(o,bx _ v,m.1)
 show aj (wpAny_typeOf hT ?_);have k1:tz (.ref s.heap.objs.size) (.ref a)=af:=by simp[tz,kO x]
 have k2:(j7 "set" == j7 "list")=af:=by decide
 have k3:(j7 "set" == j7 "tuple")=af:=by decide
 simp only[k1,k2,k3,sN,Bool.false_eq_true,if_false];show aj (O1 q1 λI fp c ns St f g W z keep gI mI u J L i3=>?_)
 have d:tE {s with heap:=f,drawn:=g} (.ref a) "set":=(o,keep _ _ (bx _ v),m.1)
 have T:(s.heap.push {cls:=.type "list",data:=.seq ([]:LVa).toArray}).objs.size=s.heap.objs.size+1:=iY ..
 have M:s.heap.objs.size∉fp:=λhm=>by
  rcases(u _ hm).2 with e |e
  .show gy _ (by rw[<- e]at x;show x)
  .rw[T]at e;show Nat.not_succ_le_self _ e
 show aj (jB ?_);unfold DJ;show aj (tf d O3 ?_);dsimp only;show aj (qm d sub_set_self ?_);show aj (wpAny_typeOf d (aD ?_))
 change wpAny _ A.in1 (rule "list.extend.makes-room" >>= λ_=>eK.List.listTouch (.ref s.heap.objs.size) >>= λ_ =>
  again (.builtin "list.extend.loop" ([.ref s.heap.objs.size,.ref I,.ref s.heap.objs.size],[]))) _ _ _
 show aj (kZ ?_);have G:=keep _ _ (cP _ rfl);show aj ?_
 show aj (tj (s:={s with heap:=f,drawn:=g}) G rfl ?_)
 have H:=oj (g8 (·.push mq)) G rfl
 show tj (s:={s with heap:=f.update s.heap.objs.size (g8 (·.push mq)),drawn:=g}) H rfl ?_
 have g3:=oj (g8 (·.pop)) H rfl
 have p:∀b o,b≠s.heap.objs.size->f.get? b=aa o->((f.update s.heap.objs.size (g8 (·.push mq))).update s.heap.objs.size (g8 (·.pop))).get? b=aa o:=
  λb o r e=>(oi _ _ (eG r)).trans ((oi _ _ (eG r)).trans e)
 have C:=W A.in1 (by simp[hh])
 show aD (mh PySem.F.plain_extend_loop _,codeAny_extend_loopS C hn _ M _ n 0 _ _ _ rfl (cj _)
  (C.frame 0 ({s with heap:=f,drawn:=g}:ah) _ s.toks z (aL _) λb r o e=>p b o (λh=>M (h▸r)) e) g3 (ItemsOf.nil _) λs' E c' hm i j=>?_)
 show aj (wpAny_load i (aD ?_));have lv:c.length=n:=by rw[J.length,L]
 rw[O2 j lv];have(h2,g',d',B,os'):=s';have Y:=hm.gens;have U:d'=g:=hm.drawn;have eo:=hm.os;subst Y U eo;show hQ h2 d' B c ns (λb o' e=>?_) (fj (bz i)) hm.toks J L i3;have y:=bz e;show hm.heap b o' ?_ (p b o' (bW y) (keep _ _ (bx _ e)));simp only[aZ,dq,or_false,not_or];show(bW y,bW (fh y (cN (by rw[T];show jX _) gI)))
def O5{S:Int->Bool}{Q:PRS}(y:A.handled=ab)(q:dU P w s.heap a (d8 w) S n)(g:n<64)
 (x:∀ (p:Addr) (h':Heap) (d':Drawn) (d e:Nat) (out:Array Value) (ns:LI0),(∀ b o,s.heap.get? b=aa o->h'.get? b=aa o)->s.heap.objs.size<=p->s.toks<=d->h'.get? p=aa (seqObj "list" out e)->f6 out.toList ns->ns.Pairwise (·<=·)->ns.length=n->(∀ k,S k=ac↔k∈ns) ->
   Q (.ref p) {s with heap:=h',drawn:=d',toks:=d}):wpAny (model P w) A (call (.builtin "sorted") [.ref a]) Q V4 s:=by
 show Calls.call_function_entry kind_sorted plain_sorted entry_sorted (args_sorted1 _) ?_;show aj (aD ?_);show aj (O4 (by simp[y]) q (by rw[du];lia) λm u d c ns keep grow htk h i z=>?_);show aj (wpAny_newList ?_ (by rw[h.length,i,du];lia));have f:(m.push _).get? m.objs.size=aa (seqObj "list" c.toArray 0):=cP _ rfl;show aj (jB (jA slot_list_sort (_,f,rfl) entry_list_sort (list_sort_tree f h (by rw[h.length,i];show g) λout j o1 o2 B=>(_,rfl,?_)) (args_list_sort _)));have(e,v):=sortedHeap_at f;show aD (_,rfl,x _ _ u d e out j (λb o l=>?_) grow htk v o1 B (by rw[o2.length_eq,i]) λk=>(z k).trans (o2.mem_iff).symm);have r:=bz (keep b o l);rw[sortedHeap_old (bW r) (by rw[iY];show jW r)];show bx _ (keep b o l)
abbrev ku(x:Int):LI0->LI0
 | []=>[x]
 |y::r=>if x<y then x::y::r else if x=y then y::r else y::ku x r
abbrev dk(ns:LI0):LI0:=ns.foldr ku []
def yM(x k:Int):∀l:LI0,k∈ku x l↔k=x\/k∈l
 | []=>by simp[ku]
 |y::r=>by
  unfold ku;split
  .simp
  .split
   .grind
   .rw[aZ,yM x k r,aZ]
    grind
def Gh(x:Int):∀l:LI0,l.Pairwise (· < ·)->(ku x l).Pairwise (· < ·)
 | [],_=>by simp[ku]
 |y::r,h=>by
  have(d,h2):=lY.mp h;dsimp only[ku];split
  .rename_i f;show lY.mpr (λk c=>?_,h)
   rcases aZ.mp c with e |c
   .subst e;show f
   .show Int.lt_trans f (d k c)
  .split
   .show h
   .rename_i a b;show lY.mpr (λk c=>?_,Gh x r h2)
    rcases(yM x k r).mp c with e |c
    .subst e;lia
    .show d k c
def jl(k:Int):∀l:LI0,k∈dk l↔k∈l
 | []=>by rfl
 |x::l=>by
  change k∈ku x (dk l)↔_;rw[yM,jl k l,aZ]
def lA:∀l:LI0,(dk l).Pairwise (· < ·)
 | []=>by simp[dk]
 |x::l=>Gh x _ (lA l)
def yN:∀(l m:LI0),l.Pairwise (· < ·)->m.Pairwise (· < ·)->(∀k,k∈l↔k∈m)->l=m
 | [],[],_,_,_=>rfl
 | [],y::m,_,_,h=>by have:=(h y).mpr az;simp at this
 |x::l,[],_,_,h=>by have:=(h x).mp az;simp at this
 |x::l,y::m,hl,hm,h=>by
  have(b,a):=lY.mp hl;have(m1,m2):=lY.mp hm
  have e:x=y:=by
   rcases aZ.mp ((h x).mp az)with e |hx
   .lia
   .rcases aZ.mp ((h y).mpr az)with e |hy
    .grind
    .grind
  subst e;rw[yN l m a m2 λk=>?_]
  grind
def oY:∀(F V2:LI0),F.Nodup->(∀x∈F,x∈V2)->V2.length<=F.length->V2.Perm F
 | [],V2,_,_,h=>by
  grind
 |x::F,V2,hn,hs,h=>by
  have(d,b):=b7.mp hn;have a:=hs x az;show(perm_cons_erase a).trans (wG x (oY F _ b (λy c=>?_) ?_))
  .grind
  .grind
def uC(val:Nat->Int):∀i,(eI val i).Nodup
 | 0=>by rw[firstMet_zero];grind
 |i+1=>by
  rw[firstMet_succ];unfold step_dedup;split
  .show uC val i
  .rename_i h;show e8.mpr (uC val i,by simp,λa ha b c e=>?_)
   grind
def Gi(ns:LI0)(k:Int):(eI (λi=>ns.getD i 0) ns.length).any (·==k)=ac↔k∈ns:=by
 rw[firstMet_any]
 have e:(bO ns.length).map (λi=>ns.getD i 0)=ns:=by
  show l5 λi=>?_;rw[cH]
  by_cases hi:i<ns.length
  .rw[wz hi];simp[hi]
  .rw[ig (by rw[cV];lia),ig (by lia)];rfl
 rw[e,any_eq_true];show(λb=>by have(x,a,q):=b;have:=beq_iff_eq.mp q;show this▸a,λh=>(k,h,by simp))
variable{out:LI0}
def O6(d:out.Pairwise (·<=·))(f:out.length=(eI (λi=>ns.getD i 0) ns.length).length)(hm:∀k,(eI (λi=>ns.getD i 0) ns.length).any (·==k)=ac↔k∈out):out=dk ns:=by
 have nd:=uC (λi=>ns.getD i 0) ns.length
 have lt:out.Pairwise (· < ·):=by
  show List.Pairwise.imp₂ (λa b c h2=>(Int.lt_iff_le_and_ne.mpr (c,h2))) d ((oY _ out nd (λx e=>(hm x).mp (any_eq_true.mpr (x,e,by simp))) (by lia)).nodup_iff.mpr nd)
 show yN _ _ lt (lA ns) λk=>by rw[<- hm k,Gi,jl]
def O7(ns:LI0):(dk ns).length=(eI (λi=>ns.getD i 0) ns.length).length:=by
 have m:∀x,x∈eI _ ns.length↔x∈dk ns:=λx=>by
  show Iff.trans ?_ (jl x ns).symm;show Iff.trans ?_ (Gi ns x);rw[any_eq_true];show(λh=>(x,h,by simp),λc=>by have(y,b,q):=c;have:=beq_iff_eq.mp q;show this▸b)
 rcases Nat.le_total (dk ns).length (eI _ ns.length).length with h |h
 .show(oY _ _ (uC _ ns.length) (λx a=>(m x).mp a) h).length_eq
 .show(oY _ _ ((lA ns).imp λh=>Int.ne_of_lt h) (λx a=>(m x).mpr a) h).length_eq.symm
def Inv.draws(I:Inv X U E H s)(d':Drawn):Inv X U E H {s with drawn:=d'}:=by
 show I.step (ch:=[]) (λb a=>by nomatch a) (λb o _ _ _ e _=>e) (λb o _ _ _ e _=>(o.slots,e)) (λ_ _ _ _ n=>n)
  (λb o _ e=>(o,e)) (λ_ _ e=>e) (λ_ _ _ e=>e) (λb ps e=>(#[],by rw[e];simp)) (λm hm=>hm) I.hok I.bare
def yO:∀{vs:LVa} {ns:LI0},f6 vs ns->aG (ns.map V.int) vs
 | _,_,.nil=>.nil
 | _,_,.cons n t h=>.cons (t,rfl) (yO h)
def yP:∀{ns:LI0} {vs:LVa},aG (ns.map V.int) vs->f6 vs ns
 | [],_,.nil=>.nil
 |n::ns,_,.cons (t,e) h=>by subst e;show .cons n t (yP h)
abbrev tSS(K:aQ)(te:TE):TE:=λE H Q=>te E H λx H1=>∃l ns,x=.ref l/\SqL K H1 l (ns.map V.int)/\ns.length<4000/\(dk ns).length<64/\∀p,H1 p=ab->Q (.ref p) (upd H1 p (.lst ((dk ns).map V.int)))
variable{c2:Pos}
def O8(y:X.calm=ac)(j:Gl X "sorted")(n:X.mg "sorted"=ab)(m:Gl X "set")(r:X.mg "set"=ab)(T:PE X e te)
 (N:aN [.Call (.Name "set" p2) [e] [] c2] X.env=(af,eval (.Call (.Name "set" p2) [e] [] c2) X.env,)::aN [] X.env:=by rfl)(h2:aN [e] X.env=(af,eval e X.env,)::aN [] X.env:=by rfl)
 (v:(ce pos (aN [] X.env)).any (·.1)=af:=by rfl)(d:(ce c2 (aN [] X.env)).any (·.1)=af:=by rfl):
  PE X (.Call (.Name "sorted" p) [.Call (.Name "set" p2) [e] [] c2] [] pos) (tSS X.K te):=by
 intro U s E H Q I h;show iT (g9 I j n boot_sorted ?_);show wJ ?_ N v;show iX (iT (g9 I m r boot_set ?_));show jY ?_ h2 d;simp only[h2];show iX (thn (T U s E H _ I h) λu s1 q_=>?_);have(x,H1,c,r1,l,ns,J,hq,hb,i,q):=q_;subst J;subst r1;show aD ?_;have(B,rr,pl,hz):=c.list hq;have A:=yP rr;have G:B.toArray.size=ns.length:=by rw[size_toArray,A.length]
 show OP (c.ok.hd y) pl.isList (by simpa using A) (by rw[G];unfold k4;lia) λh' tk w keep htk=>?_;rw[G]at w;show aD ?_;have lt:s1.heap.objs.size<h'.objs.size:=by have(o,_,_,_,Y,_):=id w;show bz Y
 show O5 (c.ok.hd y) w (by rw[<- O7];show i) λpp M f C ep out ns' a gp z L o1 o3 o4 o5=>?_;have en:=O6 o3 o4 o5;subst en;show(.ref pp,_,((c.laid (λb u g=>a _ _ (keep b u (bz g) g)) (cN (fj lt) gp) ?_).draws f),rfl,q pp (c.hok.fresh (cN (fj lt) gp)));show(by rw[aA,du];lia,out.toList,ep,yO o1,by simpa using L)
abbrev iJ:LD->Option (LI0)
 | []=>aa []
 |.int i::r=>(iJ r).map (i::·)
 | _::_=>ab
def yQ:∀{ds:LD} {ns:LI0},iJ ds=aa ns->ds=ns.map D.int
 | [],_,h=>by cases h;rfl
 |.int i::r,ns,h=>by
  replace h:(iJ r).map _=aa ns:=h
  cases e:iJ r with
  |none=>rw[e]at h;cases h
  |some m=>rw[e]at h;cases h;rw[yQ e];rfl
 |.non::_,_,h=>by cases h
 |.bl _::_,_,h=>by cases h
 |.str _::_,_,h=>by cases h
 |.lst _::_,_,h=>by cases h
 |.tup _::_,_,h=>by cases h
 |.kl _::_,_,h=>by cases h
 |.kt _::_,_,h=>by cases h
 |.dic _ _::_,_,h=>by cases h
 |.ins _ _ _::_,_,h=>by cases h
def yR:∀(ns:LI0),iJ (ns.map D.int)=aa ns
 | []=>rfl
 |n::ns=>by change(iJ _).map _=_;rw[yR ns];rfl
def yS{G:Gc}{H:Hp}:∀{ns:LI0} {vs:LVv},am G H (ns.map D.int) vs->vs=ns.map V.int
 | [],_,h=>h
 |n::ns,_,(v,r,e,h1,h2)=>by rw[e,show v=V.int n from h1,yS h2];rfl
abbrev mV(f:MF1)(M:LS):OLD:=(f M).bind λd=>(lsD d).bind λds=>(iJ ds).bind λns=>if ns.length<4000/\(dk ns).length<64 then aa ((dk ns).map .int) else ab
def O9(I:X.calm=ac)(m:Gl X "sorted")(u:X.mg "sorted"=ab)(n:Gl X "set")(w:X.mg "set"=ab)(ha:DE c X e f)
 (G:aN [.Call (.Name "set" p2) [e] [] c2] X.env=(af,eval (.Call (.Name "set" p2) [e] [] c2) X.env,)::aN [] X.env:=by rfl)(h2:aN [e] X.env=(af,eval e X.env,)::aN [] X.env:=by rfl)
 (z:(ce pos (aN [] X.env)).any (·.1)=af:=by rfl)(b:(ce c2 (aN [] X.env)).any (·.1)=af:=by rfl):DO c X (.Call (.Name "sorted" p) [.Call (.Name "set" p2) [e] [] c2] [] pos) (mV f):=
 PE.imp (O8 I m u n w ha G h2 z b) λE H Q J=>by
  have(Hf0,H0,Hf,M,ds,st,a,k):=J;unfold mV at a
  cases g:f M with
  |none=>rw[g]at a;nomatch a
  |some d=>
   rw[g]at a
   cases i:lsD d with
   |none=>rw[ay,i]at a;nomatch a
   |some C=>
    rw[ay,i]at a
    cases j:iJ C with
    |none=>rw[ay,j]at a;nomatch a
    |some ns=>
     rw[ay,j,ay]at a;split at a
     .rename_i A;cases a;show(Hf0,H0,Hf,M,d,st,g,λv Hf' H' x r=>?_);have(l,vs,el,q,L):=lu i r;rw[yQ j]at L;have B:=yS L;subst B el;show(l,ns,rfl,x.s.seq q,A.1,A.2,λpp y=>k pp _ Hf' _ (x.trans (Ext.tmp x.s y)) (x.h.free y) (x.s.free y) a8 (am.ints _))
     .grind
abbrev jL(f g:MF1)(M:LS):OLD:=(f M).bind λx=>(g M).bind λy=>match x,y with
 |.lst a,.lst b=>if a.length+b.length<=16777216 then aa (a++b) else ab
 | _,_=>ab
def Pa(h:jL f g M=aa ds):∃a b,f M=aa (.lst a)/\g M=aa (.lst b)/\a.length+b.length<=16777216/\ds=a++b:=by
 unfold jL at h
 cases c:f M with
 |none=>rw[c]at h;nomatch h
 |some x=>
  cases d:g M with
  |none=>rw[c,d]at h;nomatch h
  |some y=>
   rw[c,d,ay,ay]at h;split at h
   .split at h
    .rename_i a b e;cases h;show(a,b,rfl,rfl,e,rfl)
    .nomatch h
   .nomatch h
def yT{a:Expr}(ha:DE c X a f)(r:DE c X b g):DO c X (.BinOp a .Add b pos) (jL f g):=PE.imp (Eb EE ha r) λE H Q A=>by
 have(Hf0,H0,Hf,M,ds,st,q,k):=A;have(C,ys,j,n,w,rfl):=Pa q;show(Hf0,H0,Hf,M,_,st,j,λv b3 H1 i B=>(Hf0,H0,b3,M,_,st.step i,n,λu bm H2 d G=>?_));have(l,vs,el,y,s1):=B.up d.f;have(m,us,em,z,s2):=G;subst el em;have x:=i.trans d;show(l,m,vs,us,rfl,rfl,d.s _ _ y,d.s _ _ z,by rw[du,<- s1.length,<- s2.length];show w,λp e=>k p _ bm _ (x.trans (Ext.tmp x.s e)) (x.h.free e) (x.s.free e) a8 (s1.append s2))
abbrev wp(F:MF3)(M:LS)(K:Fl->Prop):Prop:=∃o,F M=aa o/\K o
abbrev Gj(F:MF3)(K:Fl->Prop):Fl->Prop
 |.nx M=>wp F M K
 |o=>K o
abbrev yU(J:LS->Prop)(K:Fl->Prop):Fl->Prop
 |.nx M=>J M
 |.ct M=>J M
 |.bk M=>K (.nx M)
 |o=>K o
abbrev uD(Q:D->Prop)(o:Fl):Prop:=∃d,FC o=aa d/\Q d
variable{K:Fl->Prop}
def Pb{F:MF3}{a:Fl->Prop}(h:wp F M K)(b:∀o,K o->a o):wp F M a:=by
 have(o,e,k):=h;show(o,e,b o k)
def ak{F F':MF3}(h:wp F M (Gj F' K)):wp (ai F F') M K:=by
 have(o,e,k):=h;unfold wp ai;rw[e]
 cases o with
 |nx ρ'=>show k
 | _=>show(_,rfl,k)
def b5(h:K (.nx M)):wp bM M K:=(_,rfl,h)
def bo(h:f M=aa d)(k:K (.nx (M.set i (.im d)))):wp (aX i f) M K:=(_,FG h,k)
def dO{f:MF2}{d:LD}(h:f M=aa d)(k:K (.nx (M.set i (.own d)))):wp (cL i f) M K:=(_,N4 h,k)
def eT(h:f M=aa d)(k:K (.rt d)):wp (bf f) M K:=(_,dA h,k)
def jm{f:MF2}{d:LD}(h:f M=aa d)(k:K (.rtO d)):wp (cx f) M K:=(_,by unfold cx;rw[h];rfl,k)
def Gk{F:MF3}{o:Fl}(h:F M=aa o)(k:K o):wp F M K:=(_,h,k)
variable{b:Bool}
def aY{t:MF4}{F F':MF3}(h:t M=aa b)(c:b=ac->wp F M K)(a:b=af->wp F' M K):wp (bi t F F') M K:=by
 unfold wp bi;rw[h]
 cases b with
 |true=>show c rfl
 |false=>show a rfl
def lB{F:MF3}(e:yr i M=ρ')(h:wp F ρ' K):wp (eQ i F) M K:=by
 subst e;show h
variable{C:LD}
def fU(h:f M=aa d)(h':M[i]?=aa (.own C))(a:C.length<16777216)(k:K (.nx (M.set i (.own (C++[d]))))):wp (c8 i f) M K:=(_,Oe h h' a,k)
def lC{k:Int}(hv:fv M=aa d)(c:fk M=aa (.int k))(h':M[i]?=aa (.own C))(a:0<=k)(b:k<C.length):gi i fk fv M=aa (.nx (M.set i (.own (C.set k.toNat d)))):=by
 have e:ixN C.length k=aa k.toNat:=by
  unfold ixN;rw[if_pos a,if_pos b]
 unfold gi;simp only[hv,ay,c,ay,h'];change(ixN C.length k).map _=_;rw[e];rfl
def oZ{k:Int}(hv:fv M=aa d)(c:fk M=aa (.int k))(h':M[i]?=aa (.own C))(a:0<=k)(b:k<C.length)(q:K (.nx (M.set i (.own (C.set k.toNat d))))):wp (gi i fk fv) M K:=(_,lC hv c h' a b,q)
def Gm{i:Type}{g:D->LS->Option LS}{F:MF3}{K:Fl->Prop}(f:i->D)(I:List i->LS->Prop):∀(post pre:List i) (M:LS),I pre M ->
  (∀b x e M,pre++post=b++x::e->I b M->∃ρ1,g (f x) M=aa ρ1/\wp F ρ1 (yU (I (b++[x])) K))->(∀ρ',I (pre++post) ρ'->K (.nx ρ'))->wp (iE g F (post.map f)) M K
 | [],pre,M,h,_,hk=>(_,rfl,hk M (by rw[bQ];show h))
 |x::post,pre,M,h,hs,hk=>by
  have(ρ1,j,o,l,c):=hs pre x post M rfl h;unfold wp;rw[bF];dsimp only[iE];simp only[j,ay,l,ay]
  have go:=λa h2=>
   Gm f I post (pre++[x]) a h2 (by rw[cI];show hs) (by rw[cI];show hk)
  cases o with
  |nx a=>show go a c
  |ct a=>show go a c
  |bk a=>show(_,rfl,c)
  |rt d=>show(_,rfl,c)
  |rtO d=>show(_,rfl,c)
  |rtS d a=>show(_,rfl,c)
  |rtT o=>show(_,rfl,c)
def dD{a:Type}{g:D->LS->Option LS}{F:MF3}(C:List a)(f:a->D)(I:List a->LS->Prop)(hi:fi M=aa (C.map f))(b:I [] M)
 (d:∀pre x post M,C=pre++x::post->I pre M->∃ρ1,g (f x) M=aa ρ1/\wp F ρ1 (yU (I (pre++[x])) K))(c:∀ρ',I C ρ'->K (.nx ρ')):wp (bZ fi g F) M K:=by
 have(o,e,k):=Gm f I C [] M b d c;show(o,?_,k);unfold bZ;rw[hi];show e
def q9{t:MF4}{F:MF3}{K:Fl->Prop}(I:Nat->LS->Prop)(g:∀m M,I m M->∃b,t M=aa b/\(b=ac->wp F M (yU (λρ'=>∃f,f<m/\I f ρ') K))/\(b=af->K (.nx M))):
  ∀(n m:Nat) (M:LS),I m M->m<n->wp (df t F n) M K
 | 0,m,M,_,h=>absurd h (io _)
 |n+1,m,M,h,hn=>by
  have(b,e,l,j):=g m M h;unfold wp;dsimp only[df];simp only[e,ay]
  cases b with
  |false=>show(_,rfl,j rfl)
  |true=>
   have(o,i,c):=l rfl;rw[i,ay]
   have go:∀a,(∃f,f<m/\I f a)->wp _ a K:=λa q=>by
    have(f,hm,h2):=q;show q9 I g n f a h2 (by lia)
   cases o with
   |nx a=>show go a c
   |ct a=>show go a c
   |bk a=>show(_,rfl,c)
   |rt d=>show(_,rfl,c)
   |rtO d=>show(_,rfl,c)
   |rtS d a=>show(_,rfl,c)
   |rtT o=>show(_,rfl,c)
variable{Q:D->Prop}
def lD{F:MF3}(h:wp F (fR n ds) (uD Q)):∃d,aP n F ds=aa d/\Q d:=by
 have(o,e,d,e',q):=h;show(d,?_,q);unfold aP;rw[e];show e'
def jM{F:MF3}{r:D}(h:wp F (fR n ds) (uD λd=>d=r)):aP n F ds=aa r:=by
 have(d,e,q):=lD h;rw[e,q]
def fB(h:Q d):uD Q (.rt d):=(d,rfl,h)
def jN{d:LD}(h:Q (.lst d)):uD Q (.rtO d):=(.lst d,rfl,h)
def lE{t:MF4}{r:OD}(h:t M=aa b)(c:b=ac->f M=r)(a:b=af->g M=r):vIf t f g M=r:=by
 unfold vIf
 grind
variable{i j:Int}
def ca(h:0<j):bL (.int i) (.int j)=aa (.int (i % j)):=uu h
def lF(h:qt i j):kf (.int i) (.int j)=aa (.int (i / j)):=uu h
def uE(h:mF i j):qF (.int i) (.int j)=aa (.int (i ^ j.toNat)):=uu h
def gj:d7 (.int i) (.int j)=aa (.int (i+j)):=rfl
def lG:ke (.int i) (.int j)=aa (.int (i-j)):=rfl
def rb:dLt (.int i) (.int j)=aa (.bl (decide (i<j))):=rfl
def yV:dLe (.int i) (.int j)=aa (.bl (decide (i<=j))):=rfl
def mW:dGt (.int i) (.int j)=aa (.bl (decide (j<i))):=rfl
def Gn:dGe (.int i) (.int j)=aa (.bl (decide (j<=i))):=rfl
def d9{a:Type}(C:List a)(f:a->D):cw [.lst (C.map f)]=aa (.int C.length):=by
 change aa _=_;rw[aA]
def Go{a:Type}(C:List a)(f:a->D):cw [.kl (C.map f)]=aa (.int C.length):=by
 change aa _=_;rw[aA]
def Gp{a:Type}(f:a->D)(C:List a)(lo hi:Option Int):qI (C.map f) lo hi=((C.drop (HT.sIx C.length 0 lo)).take (HT.sIx C.length C.length hi-HT.sIx C.length 0 lo)).map f:=by
 unfold qI
 simp_all
variable{lo hi:Option Int}
def o7{a:Type}{l h:LS->Option (Option Int)}{g:a->D}{C:List a}(e:f M=aa (.lst (C.map g)))(b:l M=aa lo)(c:h M=aa hi):mSl f l h M=aa (((C.drop (HT.sIx C.length 0 lo)).take (HT.sIx C.length C.length hi-HT.sIx C.length 0 lo)).map g):=by
 unfold mSl;rw[e,ay];change(l M).bind _=_;rw[b,ay,c,<- Gp];rfl
def Gq{a:Type}{l h:LS->Option (Option Int)}{g:a->D}{C:List a}(e:f M=aa (.kl (C.map g)))(b:l M=aa lo)(c:h M=aa hi):mSl f l h M=aa (((C.drop (HT.sIx C.length 0 lo)).take (HT.sIx C.length C.length hi-HT.sIx C.length 0 lo)).map g):=by
 unfold mSl;rw[e,ay];change(l M).bind _=_;rw[b,ay,c,<- Gp];rfl
def Pc{a:Type}(f:a->Bool)(C:List a):(C.map λx=>D.bl (f x))=(C.map f).map D.bl:=by
 rw[map_map];rfl
abbrev kJ(J:LS->Prop)(o:Fl):Prop:=∃ρ',o=.nx ρ'/\J ρ'
def k_J{J:LS->Prop}(h:J M):kJ J (.nx M):=(M,rfl,h)
def uF{S F:MF3}(J:LS->Prop)(h:wp S M (kJ J))(k:∀ρ',J ρ'->wp F ρ' K):wp (ai S F) M K:=by
 apply ak;have(o,e,ρ',rfl,j):=h;show(_,e,k ρ' j)
def Pd{i:Nat}(h:M[i]?=aa (.im d))(k:K (.rt d)):wp (fw i) M K:=(_,by unfold fw;rw[h],k)
def mY{i:Nat}{d:LD}(h:M[i]?=aa (.own d))(k:K (.rtO d)):wp (fw i) M K:=(_,by unfold fw;rw[h],k)
abbrev D.flat:D->Bool
 |.tup C=>C.all D.scalar
 |d=>d.scalar
abbrev lH(Hf H:Hp):Hp:=λa=>match H a with
 |some (.tup vs)=>aa (.tup vs)
 | _=>Hf a
def yW(h:H a=aa (.tup vs)):lH Hf H a=aa (.tup vs):=by
 unfold lH;rw[h]
def o8(h:∀vs,H a≠aa (.tup vs)):lH Hf H a=Hf a:=by
 unfold lH
 grind
def yX(s:aq Hf H)(g:aq H H'):Ext Hf H (lH Hf H') H':=by
 show(λb u e=>?_,g,λb u e=>?_,λl o e t=>o8 λvs q=>?_)
 .have e':=g b u (s b u e)
  cases u with
  |tup vs=>show yW e'
  | _=>
   rw[o8 (λvs q=>by rw[e']at q;nomatch q)];show e
 .by_cases h:∃vs,H' b=aa (.tup vs)
  .have(vs,h):=h;rw[yW h]at e;rw[h];show e
  .rw[o8 (λvs q=>h (vs,q))]at e;show g b u (s b u e)
 .rw[g l o e]at q;cases q
  nomatch t
def am.sc{G:Gc}{H H':Hp}:∀{ds:LD} {vs:LVv},ds.all D.scalar=ac->am G H ds vs->am G H' ds vs
 | [],_,_,h=>h
 |d::ds,_,hs,q3_=>by
  have(v,r,e,a,h2):=q3_;rw[l8,cB]at hs;show(v,r,e,a.sc hs.1,am.sc hs.2 h2)
variable{G:Gc}
def Rep.flat(b:d.flat=ac)(r:Rep G H d v):Rep G (lH Hf H) d v:=by
 cases d with
 |tup C=>
  have(a,vs,e,h,q):=r
  show(a,vs,e,yW h,q.sc b)
 |non=>show r.sc b
 |bl _=>show r.sc b
 |int _=>show r.sc b
 |str _=>show r.sc b
 |lst _=>nomatch b
 |kl _=>nomatch b
 |kt _=>nomatch b
 |dic _ _=>nomatch b
 |ins _ _ _=>nomatch b
 |kd _ _=>nomatch b
 |dT _ _=>nomatch b
variable{f:Addr}
def Gr{k:Nat}(pk:Pk X.prog X.w X.K X.mg X.base CX0 k x (f,fd,) ps (spD (Gx c X) ps.length m))(l:bv k0 X.A)(ha:DAB c X (e::es) fa)(C:(e::es).length=ps.length:=by rfl)(a:NDb x:=by decide)(z:StE X e es:=by rfl)(j:BkE X pos es:=by rfl)(i:k<=k0:=by decide)(B:Gl X x:=by first |rfl |exact glc rfl):
  DB c X (.Call (.Name x p) (e::es) [] pos) (av m fa):=PE.imp (qy pk.ok (l.mono i) B pk.g pk.kp pk.b .nil gD ha.pa a z j) λE H Q I=>by
 have(Hf0,H0,Hf,M,d,st,y,G):=I;have(ds,n,u):=yf y;show(Hf0,H0,Hf,M,ds,st,n,λvs Hf' H' x r=>?_);rw[bQ];show(H',ds,d,aq.refl _,r,(ha.len M ds n).trans C,u,λv bm H2 q J=>G v Hf' H2 (x.trans (Ext.grow x.s q.h)) (J.up q.s))
abbrev o9(m:LD->OLD)(f:MF2)(M:LS):OLD:=(f M).bind λds=>(m ds).bind λL=>if L.all D.flat then aa L else ab
def am.flat{G:Gc}{Hf H:Hp}:∀{ds:LD} {vs:LVv},ds.all D.flat=ac->am G H ds vs->am G (lH Hf H) ds vs
 | [],_,_,h=>h
 |d::ds,_,hs,q3_=>by
  have(v,r,e,a,h2):=q3_;rw[l8,cB]at hs;show(v,r,e,a.flat hs.1,am.flat hs.2 h2)
def Pe{k:Nat}{m:LD->OLD}(pk:Pk X.prog X.w X.K X.mg X.base CX0 k x (f,fd,) ps (spO (Gx c X) ps.length m))(y:bv k0 X.A)(ha:DAB c X (e::es) fa)(G:(e::es).length=ps.length:=by rfl)(n:NDb x:=by decide)(B:StE X e es:=by rfl)(v:BkE X pos es:=by rfl)(u:k<=k0:=by decide)(C:Gl X x:=by first |rfl |exact glc rfl):
  DO c X (.Call (.Name x p) (e::es) [] pos) (o9 m fa):=PE.imp (qy pk.ok (y.mono u) C pk.g pk.kp pk.b .nil gD ha.pa n B v) λE H Q N=>by
 have(Hf0,H0,Hf,M,L,st,a,J):=N;unfold o9 at a
 cases i:fa M with
 |none=>rw[i]at a;nomatch a
 |some ds=>
  rw[i,ay]at a
  cases j:m ds with
  |none=>rw[j]at a;nomatch a
  |some U=>
   rw[j,ay]at a;split at a
   .rename_i I;cases a;show(Hf0,H0,Hf,M,ds,st,i,λvs Hf' H' x r=>?_);rw[bQ];show(H',ds,_,aq.refl _,r,(ha.len M ds i).trans G,j,λl us bm H2 z hn Y d T=>J l us _ H2 (x.trans (yX x.s z.h)) (x.h.free hn) (by rw[o8 (λvs q=>by rw[d]at q;nomatch q)];show x.s.free hn) d ((T.up z.s).flat I))
   .nomatch a
def uG{m:LD->OLD}{f:MF2}(h:f M=aa ds)(h':m ds=aa L):kj m f M=aa L:=by
 unfold kj;rw[h,ay,h']
def mZ{F:MF3}(h:F (fR n ds)=aa (.rtO L)):jd n F ds=aa L:=by
 unfold jd;rw[h];rfl
abbrev m6(ns:LI0):LI0:=ns.mergeSort λa b=>decide (a<=b)
abbrev tSL(K:aQ)(te:TE):TE:=λE H Q=>te E H λx H1=>∃l ns,x=.ref l/\SqL K H1 l (ns.map V.int)/\ns.length<64/\∀p,H1 p=ab->Q (.ref p) (upd H1 p (.lst ((m6 ns).map V.int)))
def yY(ns:LI0):(m6 ns).Perm ns:=mergeSort_perm _ _
def Gu(ns:LI0):(m6 ns).Pairwise (·<=·):=(pairwise_mergeSort (λa b c=>by simp only[decide_eq_true_iff];lia) (λa b=>by simp only[jU,decide_eq_true_iff];lia) ns).imp of_decide_eq_true
def Pf(p:out.Perm ns)(c:out.Pairwise (·<=·)):out=m6 ns:=List.Perm.eq_of_pairwise (λa b _ _=>Int.le_antisymm) c (Gu ns) (p.trans (yY ns).symm)
def Pg(nd:ns.Nodup):m6 ns=dk ns:=yN _ _ (List.Pairwise.imp₂ (λa b c h2=>(Int.lt_iff_le_and_ne.mpr (c,h2))) (Gu ns) ((yY ns).nodup_iff.mpr nd)) (lA _) λk=>by rw[jl];show(yY ns).mem_iff
def Ph(d:Gl X "sorted")(f:X.mg "sorted"=ab)(v:PE X e te)(j:aN [e] X.env=(af,eval e X.env,)::aN [] X.env:=by rfl)(i:(ce pos (aN [] X.env)).any (·.1)=af:=by rfl):
  PE X (.Call (.Name "sorted" p) [e] [] pos) (tSL X.K te):=by
 intro U s E H Q I h;show iT (g9 I d f boot_sorted ?_);show wJ ?_ j i;rw[j];show iX (thn (v U s E H _ I h) λu s1 A=>?_);have(x,H1,a,C,l,ns,n,w,c,q):=A;subst n;subst C;show aD ?_;have(B,G,pl,hz):=a.list w;have m:=yP G;show sorted_ints pl.isList m (by rw[m.length];show c) λout y o1 o2 z=>?_;have(ep,r):=sortedAll_at s1.heap B out;have en:=Pf o2 z;subst en;have J:=o2.length_eq;show(.ref _,_,(a.laid (o:=.lst _) (λb u g=>sortedAll_old g) (jX _) (by rw[aA,du];lia,out.toList,ep,yO o1,by simpa using r)),rfl,q _ (a.hok.fresh (jX _)))
abbrev lI(f:MF1)(M:LS):OLD:=(f M).bind λd=>(lsD d).bind λds=>(iJ ds).bind λns=>if ns.length<64 then aa ((m6 ns).map .int) else ab
variable{f:MF1}
def Pi(w:X.calm=ac)(j:Gl X "sorted")(m:X.mg "sorted"=ab)(ha:DE c X e f)
 (z:aN [e] X.env=(af,eval e X.env,)::aN [] X.env:=by rfl)(u:(ce pos (aN [] X.env)).any (·.1)=af:=by rfl):DO c X (.Call (.Name "sorted" p) [e] [] pos) (lI f):=
 PE.imp (Ph j m ha z u) λE H Q B=>by
  have(Hf0,H0,Hf,M,ds,st,a,k):=B;unfold lI at a
  cases b:f M with
  |none=>rw[b]at a;nomatch a
  |some d=>
   rw[b]at a
   cases g:lsD d with
   |none=>rw[ay,g]at a;nomatch a
   |some C=>
    rw[ay,g]at a
    cases i:iJ C with
    |none=>rw[ay,i]at a;nomatch a
    |some ns=>
     rw[ay,i,ay]at a;split at a
     .rename_i A;cases a;show(Hf0,H0,Hf,M,d,st,b,λv Hf' H' x r=>?_);have(l,vs,el,q,L):=lu g r;rw[yQ i]at L;have y:=yS L;subst y el;show(l,ns,rfl,x.s.seq q,A,λpp n=>k pp _ Hf' _ (x.trans (Ext.tmp x.s n)) (x.h.free n) (x.s.free n) a8 (am.ints _))
     .grind
def Pj(h:f M=aa (.lst (ns.map D.int)))(a:ns.length<64):lI f M=aa ((m6 ns).map D.int):=by
 unfold lI;rw[h,ay];change(iJ _).bind _=_;rw[yR,ay,if_pos a]
def Pl(h:f M=aa (.lst (ns.map D.int)))(a:ns.length<64)(h2:ns.Nodup):lI f M=aa ((dk ns).map D.int):=by rw[Pj h a,Pg h2]
def Gv{k:Int}(h:k.natAbs<2 ^ n):tu k<=n:=by
 unfold tu;split
 .show cj _
 .rename_i a;have:k.natAbs≠0:=λz=>a (by rw[Int.natAbs_eq_zero.mp z];rfl);show(Nat.log2_lt this).mpr h
abbrev m7(i j:Int):Prop:=qu i j\/(i.natAbs<2 ^ 200/\j.natAbs<2 ^ 200)
def m7.ok(h:m7 i j):IntMulOk i j:=by
 rcases h with h |⟨h1,h2⟩
 .show h.ok
 .have a:=Gv h1;have b:=Gv h2;unfold IntMulOk
  have:eK.Int.intTooBig (tu i+tu j)=af:=by
   have c:400<=bitsLine:=by decide
   show decide_eq_false (by lia)
  rw[this,sM];show bG
noncomputable instance {i j:Int}:Decidable (m7 i j):=by unfold m7;infer_instance
nonrec def lJ:D->D->OD:=dI m7 λi j=>.int (i*j)
def Pn:OpR X (fL .Mult) (rI m7 λi j=>.int (i*j)):=opI λ_ _ _ _ _ _ _ a q=>mul_int q a.ok
def Po:OpD c X (fL .Mult) lJ:=t7 Pn λ_ _ _ _=>rfl
def pc(h:m7 i j):lJ (.int i) (.int j)=aa (.int (i*j)):=uu h
set_option maxRecDepth 100000
def rf:Slot "list_reverseiterator" "__next__" "list_reverseiterator.__next__":=Slot.of (n:="__next__") (owner:="list_reverseiterator")
 (by rw[j6,j4];kernel_rfl) (by decide +kernel) (by decide +kernel) (by decide +kernel) (by first |show bX (by decide +kernel) |grind) (by rw[mf];kernel_rfl)
def Gw:Slot "list_reverseiterator" "__iter__" "list_reverseiterator.__iter__":=Slot.of (n:="__iter__") (owner:="list_reverseiterator")
 (by rw[j6,j4];kernel_rfl) (by decide +kernel) (by decide +kernel) (by decide +kernel) (by first |show bX (by decide +kernel) |grind) (by rw[mf];kernel_rfl)
def Gy:mn table "list_reverseiterator.__next__"=aa eK.«list_reverseiterator.__next__»:=by show entryFor_of_fast (by kernel_rfl)
def Pp:mn table "list_reverseiterator.__iter__"=aa eK.«dict_keyiterator.__iter__»:=by show entryFor_alias (id':="dict_keyiterator.__iter__") (by kernel_rfl) rfl (by decide +kernel) (by kernel_rfl)
def Gz(v:Value):argsOk "list_reverseiterator.__next__" ([v],[]):=by(unfold argsOk;kernel_rfl)
def Pq(v:Value):argsOk "list_reverseiterator.__iter__" ([v],[]):=by(unfold argsOk;kernel_rfl)
abbrev fV(h:Heap)(it l:Addr)(j:Int):Prop:=∃o,h.get? it=aa o/\o.cls=.type "list_reverseiterator" /\ o.data=.fields #[.ref l,cm j]
def fV.ty(h:fV s.heap it l j):s.TypeIs (.ref it) "list_reverseiterator":=by
 have(o,e,c,_):=h;show(o,e,c)
def uH{Q:PRS}(hr:fV s.heap it l j)(h:Q (.ref it) s):wpAny (model P w) A (pyIter (.ref it)) Q V4 s:=by
 show wpAny_pyIter_slot hr.ty Gw (jA Gw hr.ty Pp (aD (eM it,rfl,"list_reverseiterator",_,hr.ty,rf.lookup,h)) (Pq _))
variable{B:Array Value}
def GA{j:Nat}{x:Value}{Q:Option Value->ah->Prop}(hr:fV s.heap it l j)(e:s.heap.IsList l B)(f:B[j]?=aa x)
 (c:∀h',fV h' it l ((j:Int)-1)->ga it s.heap h'->Q (aa x) {s with heap:=h'}):wpAny (model P w) A (g6 (.ref it)) Q V4 s:=by
 have(o,a,d,hd):=id hr;have(o2,h2,_,g,b):=e;show aj (oh (n6 hr.ty rf (jA rf hr.ty Gy ?_ (Gz _))));change wpAny _ _ (field _ 1 >>= _) _ _ s;show aj (wpAny_field a hd rfl ?_);show aj (wpAny_field a hd rfl ?_);show aj (tq h2 b ?_);simp only[dF,f];show aj (wpAny_setField a hd (by simp) (aD (x,rfl,aD (c _ ?_ (om ..)))));show(_,oj _ a (Obj.isFreed_of_fields (Obj.data_mapFields hd _)),(Obj.cls_mapFields ..).trans d,?_);rw[Obj.data_mapFields hd];rfl
def GB(d:j<0){Q:Option Value->ah->Prop}(c:A.handled=ab)(hr:fV s.heap it l j)
 (a:∀h',Heap.ExtBut it s.heap h'->Q ab {s with heap:=h'}):wpAny (model P w) A (g6 (.ref it)) Q V4 s:=by
 have(o,f,h,hd):=id hr;show aj (oh (n6 hr.ty rf (jA rf hr.ty Gy ?_ (Gz _))));change wpAny _ _ (field _ 1 >>= _) _ _ s;show aj (wpAny_field f hd rfl ?_);change wpAny _ _ (if j<0 then _ else _) _ _ s;rw[if_pos d];show aj (kZ ?_);show aj ?_;change wpAny _ _ _ _ _ _;show aj ?_;simp only[newTuple]
 show aj (iU ?_ (by size_fits));show aj (qp (by first |rfl |(simp only[qo];rfl)) ?_)
 show iU ?_ (by size_fits);simp only[raiseNew];show aj (wpAny_handled ?_);rw[show A.in1.handled=ab from c];show aj (aD (wpAny_throw ?_));show aj (qm (_,cP _ rfl,rfl) isSubtype_stop ?_);show aD (a _ λb u g e=>(bx _ (bx _ e)))
def Ps{T n a:String}{m:eK}{args:LVa}{S:JX}{Q:PRS}{c:Value}{tl:LVa}
 (y:(j7 T==j7 "type")=af)(z:((Manifest.find? T).bind (·.mro.findSome? λt=>(Manifest.find? t).bind λb=>if b.noNew then aa ac else if b.attrs.any (·.1 == "__new__") then aa af else ab)).getD af=af)
 (p:mroOf (.type T)=pure (c::tl))(l:Bind.madeBy (.type T)=pure (aa a))(f:plainId a=ac)(q:isSubtype (.type n) (.type T)=pure af)
 (u:checkTypeCall T (args,[])=pure ())(j:checkBuiltinCall a (.type T::args,[])=pure ())(d:mn table a=aa m)(g:Meets (m (.type T::args,[])) S)
 (h:S A.in1 (wants (λobj i=>i.TypeIs obj n/\Q obj i) V4) s):wpAny (model P w) A (call (.type T) args) Q V4 s:=by
 show wpAny_call (codeAny_of_tree ?_);change wpAny _ _ _ _ _ _;show aD (Code.quiet_builtin _ (by decide +kernel),j5 F.entry_type_call ?_);simp only[b8.under_plain (weight_type_call_type T args []) (units_type_call_type T args [])]
 repeat (any_goals (first |assumption |wp_step))
 show kX (wK f d (qp j (g P w A.in1 _ s h))) λr s1 hr=>?_
 cases r with
 |error e=>show hr
 |ok fl=>
  cases fl with
  |ret obj=>
   have(v,x):=hr
   repeat (any_goals (first |assumption |wp_step))
  | _=>show hr.elim
def GC:mroOf (.type "reversed")=pure [.type "reversed",.type "object"]:=by(rw[mroOf_type];kernel_rfl)
def Pt:mj (.type "reversed") "__new__"=pure (aa (.builtin "reversed.__new__")):=by(rw[j6,j4];kernel_rfl)
def Pu:Bind.madeBy (.type "reversed")=pure (aa "reversed.__new__"):=madeBy_type GC Pt (by decide +kernel)
def Pw:isSubtype (.type "list_reverseiterator") (.type "reversed")=pure af:=by(rw[mf];kernel_rfl)
def Px:mn table "reversed.__new__"=aa eK.«reversed.__new__»:=by show entryFor_of_tree (by kernel_rfl)
def GD:jC "reversed"=aa (.type "reversed"):=by kernel_rfl
def Py:mj (.type "list") "__reversed__"=pure (aa (.builtin "list.__reversed__")):=by(rw[j6,j4];kernel_rfl)
def Pz(l:Addr)(B:Array Value)(n:Nat)(dc:Option Addr)(sl:Array (Option Value)):Meets (eK.«list.__reversed__» ([.ref l],[])) (λ_ R s=>s.heap.get? l=aa {cls:=.type "list",dict:=dc,data:=.seq B n,slots:=sl}/\R (.ok (.ret (.ref s.heap.objs.size))) {s with heap:=s.heap.push {cls:=.type "list_reverseiterator",data:=.fields #[.ref l,cm (((B.size:Nat):Int)-1)]}}):=
 .of_wp λprog w A R s h=>by
  have(a,h):=h
  wp_walk
  show(_,rfl,h)
def PB(l:Addr)(B:Array Value)(n:Nat)(dc:Option Addr)(sl:Array (Option Value)):Meets (eK.«reversed.__new__» ([.type "reversed",.ref l],[])) (λ_ R s=>s.heap.get? l=aa {cls:=.type "list",dict:=dc,data:=.seq B n,slots:=sl}/\R (.ok (.ret (.ref s.heap.objs.size))) {s with heap:=s.heap.push {cls:=.type "list_reverseiterator",data:=.fields #[.ref l,cm (((B.size:Nat):Int)-1)]}}):=
 .of_wp λprog w A R s h=>by
  have(a,g,d,b,os):=s;have(e,h):=h;have j:=Py;have f:isSubtype (.type "reversed") (.type "reversed")=pure ac:=by(rw[mf];kernel_rfl)
  have i:tE (a,g,d,b,os) (.ref l) "list":=(_,e,rfl);have m:=wP.bind (eM l)
  repeat (any_goals (first |assumption |wp_step))
  have step:gA _ A.in1 _ (λr c=>r=.ok _/\c=(a.push {cls:=.type "list_reverseiterator",data:=.fields #[.ref l,cm _]},g,d,b,os)) (a,g,d,b,os):=
   wK wP.plain PySem.F.entry_list_reversed (wP.check _ _ _ _ _ _ _ _ i (PySem.F.args_list_reversed_1 _) (Pz l B n dc sl prog w A.in1 (λr c=>r=.ok (.ret (.ref a.objs.size))/\c=(a.push {cls:=.type "list_reverseiterator",data:=.fields #[.ref l,cm (((B.size:Nat):Int)-1)]},g,d,b,os)) (a,g,d,b,os) (e,rfl,rfl)))
  show kX step λr s1 hr=>?_;have(rfl,rfl):=hr;show aD (_,rfl,h)
def GE{Q:PRS}(d:s.heap.IsList l B)
 (h:∀h',fV h' s.heap.objs.size l (((B.size:Nat):Int)-1)->(∀b o,s.heap.get? b=aa o->h'.get? b=aa o)->Q (.ref s.heap.objs.size) {s with heap:=h'}):wpAny (model P w) A (call (.type "reversed") [.ref l]) Q V4 s:=by
 have((c,a,dt,sl),g,f,n,hd):=d;subst f hd;have i:fV (s.heap.push {cls:=.type "list_reverseiterator",data:=.fields #[.ref l,cm _]}) s.heap.objs.size l ((B.size:Int)-1):=(_,cP _ rfl,rfl,rfl);show Ps (rfl) (by decide +kernel) GC Pu (by decide +kernel) Pw (by kernel_rfl) (by kernel_rfl) Px (PB l B n a sl) (g,((_,cP _ rfl,rfl),h _ i λb o e=>bx _ e))
abbrev Itv(K:aQ)(l:Addr)(n:Nat):It:=
  (λi H=> ∃C x, SqL K H l C/\C.length = n/\C.reverse[i]? = aa x,
   λi H v H'=> H' = H/\∀C, SqL K H l C->C.reverse[i]? = aa v,
   λi H=> n<=i)
def fV.stay(q:fV h it l j)(k:∀o,h.get? it=aa o->h'.get? it=aa o):fV h' it l j:=by
 have(o,e,c,d):=q;show(o,k o e,c,d)
def PD{K:aQ}(l it:Addr)(n:Nat):ka P w K tg (Itv K l n) [it] it (λi h=>fV h it l ((n:Int)-1-(i:Int))) where
 mem:=by simp
 obj:=λi h st b hb=>by
  have e:b=it:=by simpa using hb
  rw[e];have(o,e1,c,d):=st;show⟨o,e1,λv z=>by rw[d]at z;nomatch z⟩
 keep:=λi h h' st k=>st.stay λo e=>k it (by simp) o e
 item:=by
  intro X hP hw hK hc i U s E H V4 I hf st hg;subst hP hw hK;have(C,x,hq,hn,hx):=hg;have(B,rv,p,hz):=I.list hq
  have hi:i<C.length:=by
   have:=(cU.mp hx).1
   simpa using this
  have hx':C[n-1-i]?=aa x:=by
   rw[List.getElem?_reverse hi]at hx;rw[<- hn];show hx
  have(u,hu,ru):=rv.get hx';have(f0,f1,f2,f3,f4,f5):=hf it (by simp);have ej:(n-1-i)=((n-1-i:Nat):Int):=by lia
  rw[ej]at st;show GA st p.isList (by simpa using hu) λh' eh sb=>?_;have e2:((n-1-i:Nat):Int)-1=n-1-((i+1:Nat):Int):=by lia
  rw[e2]at eh;have(o,e,c,d):=id eh;show(u,rfl,tK e c d (rfl) (x,H,(I.turned (λb o hb e=>(sb.2 b hb).trans e) f0 f1 f3 f4 f5),ru,(rfl,λys hy=>by rw[I.list_inj hy hq];show hx),eh,λb hb=>(hf b hb).1))
 done:=by
  intro X hP hw hK hc i U s E H V4 I hf st hg;have hg:n<=i:=hg;have(f0,f1,f2,f3,f4,f5):=hf it (by simp);show GB (by lia) (I.ok.hd hc) st λh' eb=>(rfl,I.turned (λb o hb e=>eb b o hb e) f0 f1 f3 f4 f5)
 self:=λ_ _ _ _ _ st h=>uH st h
abbrev PF(K:aQ)(ta:TA):TI:=λE H R=>ta E H λvs H1=>∃l C,vs=[.ref l]/\SqL K H1 l C/\R (Itv K l C.length) H1
variable{a:Expr}
def PH(n:Gl X "reversed")(hm:X.mg "reversed"=ab)(ha:PA X [a] ta)(r:aN [a] X.env=[(af,eval a X.env,)]:=by rfl):PI X tg (.Call (.Name "reversed" p) [a] [] pos) (PF X.K ta):=by
 intro U s E H R I h;show Call_ (g9 I n hm GD (jY (thn (ha pos U s E H _ I h) λus s1 w=>?_) (by rw[r];rfl) (by rfl)));have(vs,H1,c,d,l,C,e,j,q):=w;subst e;have(u,rfl,ru):=mG d;subst ru;have(f,d,v,y):=c.list j;have x:=d.length;show GE v.isList λh' g i=>?_;show uH g ?_;show(_,_,_,_,H1,rfl,c.kept i,PD l _ C.length,?_,λb m=>?_,q)
 .grind
 .have e:b=s1.heap.objs.size:=by simpa using m
  rw[e];show c.fpOk (aL _) (c.hok.fresh (aL _))
abbrev yZ:LD->OLD
 | [x]=>(lsD x).map List.reverse
 | _=>ab
abbrev lK(f:MF2)(M:LS):OLD:=(f M).bind yZ
variable{f:MF2}
def PJ(G:Gl X "reversed")(hm:X.mg "reversed"=ab)(ha:DA c X [a] f)(I:aN [a] X.env=[(af,eval a X.env,)]:=by rfl):DI c X tg (.Call (.Name "reversed" p) [a] [] pos) (lK f):=
 PI.imp (PH G hm ha.pa I) λE H R L=>by
  have(Hf0,H0,Hf,M,ds,st,b,k):=L;unfold lK at b
  cases g:f M with
  |none=>rw[g]at b;nomatch b
  |some as=>
   rw[g]at b;replace b:yZ as=aa ds:=b;show(Hf0,H0,Hf,M,as,st,g,λvs Hf' H' x r=>?_);unfold yZ at b;split at b
   .rename_i dx
    cases ex:lsD dx with
    |none=>rw[ex]at b;nomatch b
    |some C=>
     rw[ex]at b;cases b;have(v,B,rv):=r.one;have(J,e,h,n,w):=lu ex rv;subst h;show(J,e,B,x.s.seq n,k _ Hf' H' x λbm H2 f2 s2 i=>?_);have m:=(f2.trans s2).seq n;have T:=w.length;show(λd y=>?_,λA=>?_)
     .have(u,l,ru):=w.reverse.get y;show((e,u,m,rfl,l),λz Q q=>?_);have(rfl,N):=q;have j:=N e m;rw[l]at j;cases j;show(bm,Ext.refl s2,ru.up f2)
     .rw[ik]at A;change e.length<=i
      lia
   .nomatch b
def PK{a:Type}{g:a->D}{C:List a}(h:f M=aa [.lst (C.map g)]):lK f M=aa (C.reverse.map g):=by
 unfold lK;rw[h];change aa (C.map g).reverse=_;simp
inductive tDX(G:Gc)(f:LS->Option (D×LS))(E:St)(H:Hp)(Q:VK):Prop
 |mk:∀Hf0 H0 Hf M d ρ',ar G Hf0 H0 Hf H E M->f M=aa (d,ρ',)->(∀v Hf' H',aq Hf Hf'->ar G Hf0 H0 Hf' H' E ρ'->Rep G Hf' d v->Q v H')->tDX G f E H Q
abbrev DX(c:Str->Addr)(X:Cx)(e:Expr)(f:LS->Option (D×LS)):Prop:=PE X e (tDX (Gx c X) f)
def PL:mj (.type "list_reverseiterator") "__len__"=pure ab:=by(rw[j6,j4];kernel_rfl)
def PM:mj (.type "list_reverseiterator") "__length_hint__"=pure (aa (.builtin "list_reverseiterator.__length_hint__")):=by(rw[j6,j4];kernel_rfl)
def PN:isSubtype (.type "list_reverseiterator") (.type "list_reverseiterator")=pure ac:=by(rw[mf];kernel_rfl)
def PP{Q:Bool->ah->Prop}(hr:fV s.heap it l j)(h:Q af s):wpAny (model P w) A (DJ (.ref it)) Q V4 s:=by
 show aj (tf hr.ty PL ?_);show aj (tf hr.ty PM ?_);show aj (qm hr.ty PN (aD h))
def PQ(hh:A.handled=ab)(hne:it≠l)(B:Array Value):Walks P w A it [it,l] [it] B.size (λi v=>B.toList.reverse[i]?=aa v) (λi h=>fV h it l ((B.size:Int)-1-(i:Int))/\h.IsList l B) where
 sub:=by simp
 frame:=λi h h' (a,o,e,c,n,d) k=>(a.stay λo e=>k it (by simp) o e,o,k l (by simp) o e,c,n,d)
 item:=λi s Q V4 hi st hQ=>by
  have(a,b):=st;have ej:(B.size-1-i)=((B.size-1-i:Nat):Int):=by lia
  rw[ej]at a;have hk:B.size-1-i<B.size:=by lia
  show GA a b (x:=B[B.size-1-i]) (by simp[hk]) λh' a' sb=>?_;have e2:((B.size-1-i:Nat):Int)-1=B.size-1-((i+1:Nat):Int):=by lia
  rw[e2]at a';have hl:∀b o,b∉[it]->s.heap.get? b=aa o->h'.get? b=aa o:=λb o hb e=>(sb.2 b (by simpa using hb)).trans e;show hQ _ h' s.toks ?_ (a',?_) hl
  .rw[List.getElem?_reverse (by simpa using hi)];simp[hk]
  .have(o,e,c,n,d):=b;show(o,hl l o (by simpa using eG hne) e,c,n,d)
 done:=λs Q V4 st hQ=>by
  have(a,b):=st;show GB (by lia) hh a λh' eb=>hQ h' s.toks λb o hb e=>eb b o (by simpa using hb) e
 self:=λi s Q V4 st h=>uH st.1 h
variable{c0:Nat}
def PR{S:Addr}(d:Value)(n:A.handled=ab)(j:it≠l)(g:S∉[it,l])(hr:fV s.heap it l ((B.size:Int)-1))(p:s.heap.IsList l B)(hn:B.size<=aS)
 (m:s.heap.get? S=aa {cls:=.type "list",dict:=ab,data:=.seq #[] c0,slots:=#[]})
 (kR:∀c c4 h,Moved (S::[it]) (λa b=>b=a) s c->c.heap.get? S=aa {cls:=.type "list",dict:=ab,data:=.seq c4 h,slots:=#[]}->ItemsOf (λi v=>B.toList.reverse[i]?=aa v) c4 B.size->R (.ok (.ret d)) c):
  wpAny (model P w) A.in1 (wL (.ref S) (.ref it) d) (λfin c=>match fin with |.done f=>R (.ok f) c |.again h=>h.quiet=ac/\gA (model P w) A h R c) (λe c=>R (.error e) c) s:=by
 have q:S≠it:=λz=>g (by rw[z];show az);show aj (wpAny_typeOf hr.ty ?_);have r:tz (.ref S) (.ref it)=af:=by simp[tz,q]
 simp only[r];show aj (uH hr ?_);show aj (jB (PP hr ?_));show aD (mh F.plain_extend_loop _,codeAny_extend_loopS ((PQ (show A.in1.handled=ab from n) j B).toS) hn S g d B.size 0 _ #[] c0 rfl (cj _) (by simpa using hr,p) m (ItemsOf.nil _) kR)
def PU{Q:PRS}(G:A.handled=ab)(y:it≠l)(hr:fV s.heap it l ((B.size:Int)-1))(C:s.heap.IsList l B)(hn:B.size<=aS)
 (I:∀j c4 q,Moved [s.heap.objs.size,it] (λa b=>b=a) {s with heap:=s.heap.push {cls:=.type "list",data:=.seq #[]}} j->j.heap.get? s.heap.objs.size=aa {cls:=.type "list",dict:=ab,data:=.seq c4 q,slots:=#[]}->ItemsOf (λi v=>B.toList.reverse[i]?=aa v) c4 B.size->Q (.ref s.heap.objs.size) j):
  wpAny (model P w) A (call (.type "list") [.ref it]) Q V4 s:=by
 have f:it<s.heap.objs.size:=by have(o,e,_):=hr;show bz e
 have g:l<s.heap.objs.size:=by have(o,e,_):=C;show bz e
 have nf:s.heap.objs.size∉_:=λhm=>by
  rcases aZ.mp hm with z |z
  .show absurd z (kO f)
  .show absurd (bw.mp z) (kO g)
 show callType_codes (Q₁:=λobj s1=>obj=.ref s.heap.objs.size/\s1={s with heap:=s.heap.push {cls:=.type "list",data:=.seq #[]}}) F.called_list (F.typeCall_list_1 _) F.entry_list_init (code_list_new _ (rfl,rfl)) λobj s1 L=>?_
 have(rfl,rfl):=L;have p:(s.heap.push {cls:=.type "list",data:=.seq #[]}).get? s.heap.objs.size=aa {cls:=.type "list",data:=.seq #[]}:=cP _ rfl;show((_,p,rfl),F.args_list_init_2 _ _,?_);apply aj;show aj (tq p rfl (aD ?_));apply aj;show tj p rfl ?_;apply aj;apply wpAny_letGo;have h:∀b o,b≠s.heap.objs.size->s.heap.get? b=aa o->((s.heap.push {cls:=.type "list",data:=.seq #[]}).update s.heap.objs.size (g8 (λ_=>(#[]:Array Value)))).get? b=aa o:=λb o u e=>(oi _ _ (eG u)).trans (bx _ e)
 have x:((s.heap.push {cls:=.type "list",data:=.seq #[]}).update s.heap.objs.size (g8 (λ_=>(#[]:Array Value)))).IsList l B:=by
  have(o,e,c,n,d):=C;show(o,h l o (bW g) e,c,n,d)
 show PR .none G y nf (hr.stay λo e=>h it o (bW f) e) x hn (oj _ p rfl) λj c4 q m r H=>?_
 have J:Moved [s.heap.objs.size,it] (λa b=>b=a) {s with heap:=s.heap.push {cls:=.type "list",data:=.seq #[]}} {s with heap:=(s.heap.push {cls:=.type "list",data:=.seq #[]}).update s.heap.objs.size (g8 (λ_=>(#[]:Array Value)))}:=
  (λb o u e=>(oi _ _ (eG (λz=>u (by rw[z];show az)))).trans e,rfl,rfl,rfl,aL _)
 show(rfl,I j c4 q (J.trans (λ_ _ _ E h2=>h2.trans E) m) r H)
abbrev tRL(K:aQ)(te:TE):TE:=λE H Q=>te E H λx H1=>∃l C,x=.ref l/\SqL K H1 l C/\∀p,H1 p=ab->Q (.ref p) (upd H1 p (.lst C.reverse))
def PV(h:ItemsOf (λi v=>B.toList.reverse[i]?=aa v) c4 B.size):c4.toList=B.toList.reverse:=by
 have(c,hi):=h;show l5 λi=>?_
 by_cases b:i<B.size
 .have a:i<c4.size:=by rw[c];show b
  rw[hi i c4[i] (by simp[a])];simp[a]
 .rw[ig (by simpa[c]using nY b),ig (by simpa using nY b)]
def PY(hc:X.calm=ac)(r:Gl X "list")(y:X.mg "list"=ab)(v:Gl X "reversed")(A:X.mg "reversed"=ab)(he:PE X e te)
 (Y:aN [.Call (.Name "reversed" p2) [e] [] c2] X.env=(af,eval (.Call (.Name "reversed" p2) [e] [] c2) X.env,)::aN [] X.env:=by rfl)(h2:aN [e] X.env=(af,eval e X.env,)::aN [] X.env:=by rfl)
 (G:(ce pos (aN [] X.env)).any (·.1)=af:=by rfl)(a:(ce c2 (aN [] X.env)).any (·.1)=af:=by rfl):
  PE X (.Call (.Name "list" p) [.Call (.Name "reversed" p2) [e] [] c2] [] pos) (tRL X.K te):=by
 intro U s E H Q I h;show iT (g9 I r y n4 ?_);show jY ?_ Y G;show iX (iT (g9 I v A GD ?_));show jY ?_ h2 a;rw[h2];show iX (thn (he U s E H _ I h) λu s1 q_=>?_);have(x,H1,f,r1,l,C,T,hq,q):=q_;subst T;subst r1;show aD ?_;have(B,M,pl,hz):=f.list hq;show GE pl.isList λh' J L=>?_;show aD ?_
 have w:h'.IsList l B.toArray:=by
  have(o,e,c,n,d):=pl.isList;show(o,L _ _ e,c,n,d)
 have lt:l<s1.heap.objs.size:=by have(o,e,_):=pl.isList;show bz e
 have le:s1.heap.objs.size<h'.objs.size:=by have(o,e,_):=J;show bz e
 show PU (f.ok.hd hc) (kO lt) J w (by rw[size_toArray,<- M.length];show hz) λs' c4 N m j ia=>?_;have(hp',g',d',tk',os'):=s';have(m1,m2,m3,m4,m5):=m;subst m2;subst m3;subst m4;show(.ref h'.objs.size,_,f.laid (λb u g=>m1 b u (λhm=>?_) (bx _ (L b u g))) (fj le) ?_,rfl,q _ (f.hok.fresh (fj le)))
 .have i:=bz g
  rcases aZ.mp hm with z |z
  .rw[z]at i;show gy _ (ma i le)
  .rw[bw.mp z]at i;show gy _ i
 .show(by rw[ik];show hz,c4.toList,N,?_,by simpa using j);rw[(PV ia)]
  simpa using M.reverse
abbrev lL(i:Nat)(M:LS):OLD:=match M[i]? with
 |some (.own C)=>aa C.reverse
 |some (.im (.lst C))=>aa C.reverse
 | _=>ab
variable{p3:Pos}
def PZ(i:Nat)(y:X.calm=ac)(g:Gl X "list")(j:X.mg "list"=ab)(h:Gl X "reversed")(m:X.mg "reversed"=ab)
 (w:X.N[i]?=aa x:=by rfl)(hv:Vis X.env.scope x:=by first |exact bX rfl |exact bA (bX rfl) |exact bA (bA rfl))(hd:NDb x:=by decide)(f:NCd x:=by decide)
 (u:aN [.Call (.Name "reversed" p2) [.Name x p3] [] c2] X.env=(af,eval (.Call (.Name "reversed" p2) [.Name x p3] [] c2) X.env,)::aN [] X.env:=by rfl)(h2:aN [.Name x p3] X.env=(af,eval (.Name x p3) X.env,)::aN [] X.env:=by rfl)
 (n:(ce pos (aN [] X.env)).any (·.1)=af:=by rfl)(b:(ce c2 (aN [] X.env)).any (·.1)=af:=by rfl):
  DO c X (.Call (.Name "list" p) [.Call (.Name "reversed" p2) [.Name x p3] [] c2] [] pos) (lL i):=PE.imp (PY y g j h m (mD w hv hd f) u h2 n b) λE H Q z=>by
 have(Hf0,H0,Hf,M,ds,st,d,k):=z;unfold lL at d;split at d
 .rename_i C es;cases d;have(l,e,A,B,vs,q,r):=st.ownAt rfl es;show(_,e,l,vs,rfl,SqL.of q,λp a=>k p _ Hf _ (Ext.tmp st.sub a) a (st.sub.free a) a8 r.reverse)
 .rename_i C es;cases d;have(v,e,l,vs,rfl,q,r):=st.imm es;show(_,e,l,vs,rfl,SqL.of (st.sub _ _ q),λp a=>k p _ Hf _ (Ext.tmp st.sub a) a (st.sub.free a) a8 r.reverse)
 .grind
def GF:∀(n lo:Nat) (us:LVa),us.length=n->(∀j v,us[j]?=aa v->∃t,v=Value.int ((lo+j:Nat):Int) t)->aG (((List.range' lo n).map λ(i:Nat)=>(i:Int)).map V.int) us
 | 0,_,[],_,_=>.nil
 | 0,_,_::_,h,_=>by cases h
 | _+1,_,[],h,_=>by cases h
 |n+1,lo,u::us,h,k=>by
  show .cons (k 0 u rfl) (GF n (lo+1) us (by simpa using h) λj v e=>?_);have:=k (j+1) v (by show e)
  rwa [show lo+(j+1)=lo+1+j by lia]at this
abbrev tRR(ta:TA):TE:=λE H Q=>ta E H λvs H1=>∃j:Int,vs=[.int j]/\0<=j/\j<=1048576/\∀p,H1 p=ab->Q (.ref p) (upd H1 p (.lst (((bO j.toNat).map λ(i:Nat)=>(i:Int)).map V.int)))
def P0(G:X.calm=ac)(f:Gl X "list")(m:X.mg "list"=ab)(l:Gl X "range")(w:X.mg "range"=ab)(ha:PA X [a] ta)
 (C:aN [.Call (.Name "range" p2) [a] [] c2] X.env=(af,eval (.Call (.Name "range" p2) [a] [] c2) X.env,)::aN [] X.env:=by rfl)(J:aN [a] X.env=[(af,eval a X.env,)]:=by rfl)
 (x:(ce pos (aN [] X.env)).any (·.1)=af:=by rfl):
  PE X (.Call (.Name "list" p) [.Call (.Name "range" p2) [a] [] c2] [] pos) (tRR ta):=by
 intro U s E H Q I h;show iT (g9 I f m n4 ?_);show jY ?_ C x;change wpAny _ _ (spliced ((af,eval (.Call (.Name "range" p2) [a] [] c2) X.env,)::ce pos (aN [] X.env))) _ _ s;show iX (iT (g9 I l w boot_range ?_));show jY (thn (ha c2 U s E H _ I h) λus s1 L=>?_) J rfl;have(vs,H1,c,M,j,e,Y,j1,q):=L;subst e
 cases M with
 |cons r N=>
  cases N;have(t,rfl):=r;show call_range_1 ?_;show aD ?_
  show call_list_range (n:=j.toNat) (c.ok.hd G) (IsRange.new ..) (small_one (by lia) (by lia) (by lia) (by lia)) (by rw[rangeSize_one];split <;> lia) (by lia) λh' T c4 z kp d y=>?_
  have le:s1.heap.objs.size<=(s1.heap.push {cls:=.type "range",data:=.fields #[.int 0 s1.toks,.int j t,.int 1 (s1.toks+1)]}).objs.size:=by
   simp[Heap.push]
  show(.ref _,_,c.laid (h':=h') (t':=T) (o:=.lst (((bO j.toNat).map λ(i:Nat)=>(i:Int)).map V.int)) (λb u g=>kp b u (bx _ g)) le ?_,rfl,q _ (c.hok.fresh le));show(by rw[aA,aA,cV];change _<=16777216;lia,c4.toList,z,?_,by show d);rw[range_eq_range'];show GF j.toNat 0 c4.toList (by simpa using y.1) λi v B=>?_;have(t,A):=y.2 i v (by simpa using B);show(t,by rw[A];simp)
abbrev lrD:LD->OLD
 | [.int j]=>if 0<=j/\j<=1048576 then aa (((bO j.toNat).map λ(i:Nat)=>(i:Int)).map D.int) else ab
 | _=>ab
abbrev m8(f:MF2)(M:LS):OLD:=(f M).bind lrD
def P1{n:Int}(h:f M=aa [.int n])(a:0<=n)(b:n<=1048576):m8 f M=aa (((bO n.toNat).map λ(i:Nat)=>(i:Int)).map D.int):=by
 unfold m8;rw[h];change(if 0<=n/\n<=1048576 then _ else ab)=_;rw[if_pos (a,b)]
def P2(z:X.calm=ac)(e:Gl X "list")(m:X.mg "list"=ab)(g:Gl X "range")(n:X.mg "range"=ab)(ha:DA c X [a] f)
 (y:aN [.Call (.Name "range" p2) [a] [] c2] X.env=(af,eval (.Call (.Name "range" p2) [a] [] c2) X.env,)::aN [] X.env:=by rfl)(A:aN [a] X.env=[(af,eval a X.env,)]:=by rfl)
 (q:(ce pos (aN [] X.env)).any (·.1)=af:=by rfl):
  DO c X (.Call (.Name "list" p) [.Call (.Name "range" p2) [a] [] c2] [] pos) (m8 f):=PE.imp (P0 z e m g n ha.pa y A q) λE H Q B=>by
 have(Hf0,H0,Hf,M,ds,st,b,k):=B;unfold m8 at b
 cases d:f M with
 |none=>rw[d]at b;cases b
 |some as=>
  rw[d]at b;replace b:lrD as=aa ds:=b;show(Hf0,H0,Hf,M,as,st,d,λvs Hf' H' x r=>?_);unfold lrD at b;split at b
  .split at b
   .rename_i j u;cases b;have(v,w,rv):=r.one;cases (show v=V.int j from rv);show(j,w,u.1,u.2,λl i=>k l _ Hf' _ (x.trans (Ext.tmp x.s i)) (x.h.free i) (x.s.free i) a8 (am.ints _))
   .cases b
  .cases b
open Classical in
abbrev dP(f:LS->Option (D×LS))(M:LS):Option Fl:=(f M).map λp=>.nx p.2
def y4{f:LS->Option (D×LS)}(g:DX c X e f)(h:f8 e ab pos.line X.env=pure af:=by rfl):DS c X (.Expr e pos) (dP f):=PS.imp (lh g h) λV4 E H i=>by
 have(Hf0,H0,Hf,M,o,j,a,k):=i;unfold dP at a
 cases b:f M with
 |none=>rw[b]at a;nomatch a
 |some p=>
  rw[b]at a;cases a;show(Hf0,H0,Hf,M,p.1,p.2,j,b,λv Hf' H' s d r=>k E Hf' H' s d)
def am.erase{G:Gc}{H:Hp}:∀{ds:LD} {vs:LVv} (k:Nat),am G H ds vs->am G H (ds.eraseIdx k) (vs.eraseIdx k)
 | [],_,_,h=>by cases (show _=[]from h);show .nil
 |d::ds,_,0,(v,r,e,_,h2)=>by subst e;show h2
 |d::ds,_,k+1,(v,r,e,h1,h2)=>by subst e;show(v,r.eraseIdx k,rfl,h1,am.erase k h2)
abbrev Fre(V3 Hf:Hp)(fp:LAd):Prop:=fp.Nodup/\∀a∈fp,V3 a=ab/\Hf a=ab
variable{V3:Hp}
def Fre.nil:Fre V3 Hf []:=⟨.nil,λ_ h=>nomatch h⟩
def Fre.one(h:V3 l=ab)(h':Hf l=ab):Fre V3 Hf [l]:=(b7.mpr (dq,fJ),λa ha=>by rw[bw.mp ha];show(h,h'))
def Fre.imp{b:Hp}(h:Fre V3 Hf fp)(k:∀a,V3 a=ab->b a=ab):Fre b Hf fp:=(h.1,λa ha=>(k a (h.2 a ha).1,(h.2 a ha).2))
abbrev bsH(b:Bool)(H0 H:Hp):Hp:=bif b then H else H0
variable{a:Addr}
def y6(s:aq H0 H)(h:H a=ab):bsH b H0 H a=ab:=by
 cases b with
 |true=>show h
 |false=>show s.free h
inductive tDZ(G:Gc)(b:Bool)(f:LS->Option O)(E:St)(H:Hp)(Q:VK):Prop
 |mk:∀Hf0 H0 Hf M o,ar G Hf0 H0 Hf H E M->f M=aa o->(∀u fp Hf' H',Ext Hf H Hf' H'->OT G Hf' H' o u fp->Fre (bsH b H0 H) Hf' fp->Q u H')->tDZ G b f E H Q
abbrev DZ(c:Str->Addr)(X:Cx)(b:Bool)(e:Expr)(f:LS->Option O):Prop:=PE X e (tDZ (Gx c X) b f)
abbrev jn(f:MF1)(M:LS):Option O:=(f M).map .fz
abbrev hZ(f:MF2)(M:LS):Option O:=(f M).map λds=>.lst (ds.map .fz)
def GG{f:MF1}(h:DE c X e f):DZ c X b e (jn f):=PE.imp h λE H Q i=>by
 have(Hf0,H0,Hf,M,t,st,a,k):=i;unfold jn at a
 cases g:f M with
 |none=>rw[g]at a;nomatch a
 |some d=>
  rw[g]at a;cases a;show(Hf0,H0,Hf,M,d,st,g,λv Hf' H' x r=>k v [] Hf' H' x (r,rfl) .nil)
def P3(h:DO c X e f):DZ c X b e (hZ f):=PE.imp h λE H Q j=>by
 have(Hf0,H0,Hf,M,t,st,a,k):=j;unfold hZ at a
 cases d:f M with
 |none=>rw[d]at a;nomatch a
 |some ds=>
  rw[d]at a;cases a;show(Hf0,H0,Hf,M,ds,st,d,λl vs Hf' H' x hn g i r=>k _ [l] Hf' H' x (l,vs,[],rfl,i,OTs.fz r,rfl) (.one (y6 st.ext.h hn) g))
abbrev spT(G:Gc)(n:Nat)(m:LD->Option O):Sp:=λvs H Q _=>∃Hf ds o,aq Hf H/\am G Hf ds vs/\ds.length=n/\m ds=aa o/\∀u fp Hf' H',Ext Hf H Hf' H'->OT G Hf' H' o u fp->Fre H Hf' fp->Q u H'
mutual
noncomputable def O.flat:O->Bool
 |.fz d=>d.flat
 |.lst os=>O.flats os
 |.tup os=>O.flats os
 |.dic _ os=>O.flats os
 |.ins _ _ os=>O.flats os
 |.dT _ os=>O.flats os
 |.at _ o=>o.flat
 |.jnk _=>ac
 |.any=>ac
noncomputable def O.flats:List O->Bool
 | []=>ac
 |o::os=>o.flat && O.flats os
end
abbrev m9(i:Nat)(f:LS->Option O)(M:LS):Option Fl:=(f M).map λo=>.nx (M.set i (.deep o))
def P4(i:Nat){f:LS->Option O}(j:X.N.Nodup)(l:DZ c X ac e f)(hi:X.N[i]?=aa x:=by rfl)(q:Loc X.env.scope x:=by first |exact bX rfl |exact bA rfl)(n:f8 e (aa (.Name x b4)) pos.line X.env=pure af:=by rfl)(m:LcF X x:=by first |exact .inl rfl |exact .inr rfl):
  DS c X (.Assign [.Name x b4] e pos) (m9 i f):=PS.imp (ox j hi q l n m) λV4 E H v=>by
 have(Hf0,H0,Hf,M,o,g,b,k):=v;unfold m9 at b
 cases d:f M with
 |none=>rw[d]at b;nomatch b
 |some t=>
  rw[d]at b;cases b;show(Hf0,H0,Hf,M,t,g,d,λu fp Hf' H' x r z=>k _ Hf' H' x.f (g.setNew x (u,fp,rfl,r,z.1,λa ha=>(g.ext.h.free (z.2 a ha).1,(z.2 a ha).2)) λa p=>?_));have(fp',w,ha):=p;have:=OT.funM t u fp fp' r w;subst this;show(z.2 a ha).1
def OTs.at:∀{G:Gc} {Hf H:Hp} {os:List O} {vs:LVv} {fp:LAd} {k:Nat} {o:O},OTs G Hf H os vs fp->os[k]?=aa o->∃v f,vs[k]?=aa v/\OT G Hf H o v f/\∀a∈f,a∈fp
 | _,_,_,[],_,_,_,_,_,e=>by simp at e
 | _,_,_,o::os,_,_,0,o',q8_,e'=>by
  have(v,r,f1,f2,e,d,h2,c):=q8_;cases e';subst e c
  show(v,f1,rfl,d,λa ha=>bT _ ha)
 | _,_,_,o::os,_,_,k+1,o',q8_,e'=>by
  have(v,r,f1,f2,e,d,h2,c):=q8_;subst e c;have(g,f,a,b,m):=OTs.at h2 e';show(g,f,by rw[gV];show a,b,λa ha=>cg _ (m a ha))
variable{i:Nat}
def P5{f:LS->Option O}{o:O}(h:f M=aa o)(k:K (.nx (M.set i (.deep o)))):wp (m9 i f) M K:=(_,by unfold m9;rw[h];rfl,k)
def OTs.length{G:Gc}{Hf H:Hp}:∀{os:List O} {vs:LVv} {fp:LAd},OTs G Hf H os vs fp->os.length=vs.length
 | [],_,_,h=>by rw[h.1];rfl
 |o::os,_,_,(v,r,f1,f2,e,h1,h2,ef)=>by subst e;simp[OTs.length h2]
def OTs.append{G:Gc}{Hf H:Hp}:∀{os ps:List O} {vs us:LVv} {f g:LAd},OTs G Hf H os vs f->OTs G Hf H ps us g->OTs G Hf H (os++ps) (vs++us) (f++g)
 | [],_,_,_,_,_,h,t=>by have(a,b):=h;subst a b;show t
 |o::os,_,_,_,_,_,(v,r,f1,f2,e,h1,h2,ef),t=>by subst e ef;show(v,r++_,f1,f2++_,rfl,h1,OTs.append h2 t,cI _ _ _)
def OTs.one{o:O}{f:LAd}(h:OT G Hf H o v f):OTs G Hf H [o] [v] f:=(v,[],f,[],rfl,h,(rfl,rfl),(bQ _).symm)
abbrev O.appd(o:O)(d:D):Option O:=match o with
 |.lst C=>if C.length<16777216 then aa (.lst (C++[.fz d])) else ab
 |.jnk n=>if n<16777216 then aa (.jnk (n+1)) else ab
 | _=>ab
def GH{o o':O}{fk:LAd}(h:o.appd d=aa o')(r:OT G Hf H o v fk):∃l us,v=.ref l/\H l=aa (.lst us)/\us.length<16777216/\l∈fk /\
  ∀Hf' H' w,fk.Nodup->aq Hf Hf'->(∀b u,b≠l->H b=aa u->H' b=aa u)->H' l=aa (.lst (us++[w]))->Rep G Hf' d w->OT G Hf' H' o' v fk:=by
 cases o with
 |lst C=>
  replace h:(if C.length<16777216 then aa _ else ab)=aa o':=h;split at h
  .rename_i j;cases h;have(l,us,fs,e,q,L,c):=r;subst e c;show(l,us,rfl,q,by rw[<- L.length];show j,az,λHf' H' w n f m i a=>?_)
   have o1:=OTs.frameM f C us fs L λb u g hm=>m b u (λz=>by
    subst z;rw[q]at g;cases g
    rcases hm with hm |hm
    .nomatch hm
    .show(b7.mp n).1 hm) g
   have o2:=o1.append (.one (o:=.fz d) (a,rfl));rw[bQ]at o2;show(l,us++[w],fs,rfl,i,o2,rfl)
  .nomatch h
 |jnk n=>
  replace h:(if n<16777216 then aa _ else ab)=aa o':=h;split at h
  .rename_i j;cases h;have(l,us,e,q,z,c):=r;subst e c;show(l,us,rfl,q,by lia,az,λHf' H' w _ f m i a=>(l,us++[w],rfl,i,by rw[aR,fZ];lia,rfl))
  .nomatch h
 | _=>nomatch h
abbrev GI(G:Gc)(Hf H:Hp)(E:St)(M:LS)(a:Addr):Prop:=∀(k:Nat) (t:Sl) (w:V),M[k]?=aa t->E[k]?=aa (aa w)->Holds G Hf H t w a->False
abbrev GJ(ks:LN)(a b:LS):Prop:=a.length=b.length/\∀m,m∉ks->a[m]?=b[m]?
def GJ.refl(ks:LN)(a:LS):GJ ks a a:=(rfl,λ_ _=>rfl)
abbrev gL(H:Hp)(fp:LAd):Hp:=λa=>if a∈fp then ab else H a
def y7(h:a∈fp):gL H fp a=ab:=by unfold gL;rw[if_pos h]
def uI(h:a∉fp):gL H fp a=H a:=by unfold gL;rw[if_neg h]
def P6:aq (gL H fp) H:=λa o e=>by
 by_cases h:a∈fp
 .rw[y7 h]at e;nomatch e
 .rw[uI h]at e;show e
def GK{F H:Hp}(s:aq F H)(h:∀a∈fp,F a=ab):aq F (gL H fp):=λa o e=>by
 rw[uI (λz=>by rw[h a z]at e;nomatch e)];show s a o e
variable{kvs:List (Key×V)}
def Inv.freeze(I:Inv X U E H s)(e:H l=aa (.dK kvs)):∃od,Inv X U E (upd H l (.frz od (.dK kvs))) s:=by
 have(z,ns,vs,f,od,es,ep,g,r):=EI I.hok e;show(od,?_)
 have d:∀b u,H b=aa u->(∀w,u≠.dK w)->upd H l (.frz od (.dK kvs)) b=aa u:=λb u a i=>by
  rw[aK (λq=>by subst q;rw[e]at a;cases a;show i _ rfl)];show a
 have:=I.step (t':=s.toks) (d':=s.drawn) (ch:=[]) (λb a=>nomatch a) (λb o _ _ _ e _=>e) (λb o _ _ _ e _=>(o.slots,e)) (λb o _ _ n=>by rw[aK (λq=>by subst q;rw[e]at n;nomatch n)];show n)
  (λb o _ e=>(o,e)) (λb C a=>d b _ a (λw q=>by nomatch q)) (λb o u a=>d b _ a (λw q=>by nomatch q)) (λb ps a=>(#[],by rw[d b _ a (λw q=>by nomatch q)];simp)) (λm hm=>hm) (λb u a=>?_) I.bare
 .show this
 .by_cases q:b=l
  .subst q;rw[a8]at a;cases a;show(g,z,ns,vs,f,od,es,ep,g,r)
  .rw[aK q]at a;show(I.hok b u a).stay (λc v _ h=>h) (λc h=>d c _ h (λw q=>by nomatch q)) (λc C h=>d c _ h (λw q=>by nomatch q))
abbrev Itk(od:Obj)(d:Addr):It:=
  (λi H=> ∃kvs k v, H d = aa (.frz od (.dK kvs))/\kvs[i]? = aa (k, v,),
   λi H x H'=> H' = H/\∀kvs, H d = aa (.frz od (.dK kvs))->∃k v, kvs[i]? = aa (k, v,)/\x = kV k,
   λi H=> ∃kvs, H d = aa (.frz od (.dK kvs))/\kvs.length<=i)
def KV.get:∀{C:List (Key×V)} {us:List (Key×Value)} {i:Nat} {x:Key×V},KV C us->C[i]?=aa x->∃u,us[i]?=aa u/\x.1=u.1/\aB x.2 u.2
 | _,_,_,_,.nil,e=>by simp at e
 | _,_,0,_,.cons r _,e=>by simp at e;subst e;show(_,rfl,r)
 | _,_,i+1,x,.cons _ t,e=>by
  have(u,a,h2):=KV.get t (by simpa using e);show(u,by simpa using a,h2)
def P7{k:Key}{v:Value}(h:lc k v=ac):aB (kV k) v:=by
 rcases i4 h with⟨i,t,rfl,rfl⟩ |⟨x,t,rfl,rfl⟩
 .show(t,rfl)
 .show(t,rfl)
variable{K:aQ}
def P8{od:Obj}{es:Array DictEntry}(hd:od.data=.dict es ep)(d it:Addr):ka P w K tg (Itk od d) [it] it (λi h=>h.IsKeyIter it d i es.size ep) where
 mem:=by simp
 obj:=λi h st b hb=>by
  have e:b=it:=by simpa using hb
  subst e;have(o,e,c,d):=st;show⟨o,e,λv z=>by rw[d]at z;nomatch z⟩
 keep:=λi h h' st k=>st.at λo e=>k it (by simp) o e
 item:=by
  intro X hP hw hK hc i U s E H V4 I hf st hg;subst hP hw hK;have(kvs,k,v,hH,hx):=hg;have(ho,z,ns,vs,rel,od',es',ep',ho',ex,hd',kk,pp,nd):=I.hok d _ hH;rw[ho]at ho';cases ho';rw[hd]at hd';cases hd';have hm:s.heap.DictAt _ d vs ep:=(od,es,ho,ex,hd,kk,pp,nd);have hl:es.size=vs.length:=by rw[<- pp.length];simp
  have((k',v'),hv,ek,rv):=KV.get rel hx;subst ek;have(f0,f1,f2,f3,f4,f5):=hf it (by simp);rw[hl]at st;show wpAny_pyNext_dict_item st hm hv λkey h' hkey eh sb=>?_;show(key,rfl,letGo_keyiter eh (kV k,H,(I.turned (λb o hb e=>(sb.2 b hb).trans e) f0 f1 f3 f4 f5),P7 hkey,(rfl,λkvs2 h2=>?_),by rw[hl];show eh,λb hb=>(hf b hb).1));rw[hH]at h2;cases h2;show(k,v,hx,rfl)
 done:=by
  intro X hP hw hK hc i U s E H V4 I hf st hg;subst hP hw hK;have(kvs,hH,hx):=hg;have(ho,z,ns,vs,rel,od',es',ep',ho',ex,hd',kk,pp,nd):=I.hok d _ hH;rw[ho]at ho';cases ho';rw[hd]at hd';cases hd';have hm:s.heap.DictAt _ d vs ep:=(od,es,ho,ex,hd,kk,pp,nd);have hl:es.size=vs.length:=by rw[<- pp.length];simp
  have hv:=oq rel;have(f0,f1,f2,f3,f4,f5):=hf it (by simp);rw[hl]at st;show wpAny_pyNext_dict_end (I.ok.hd hc) st hm (ig (by lia)) λh' eb=>(rfl,I.turned (λb o hb e=>eb b o hb e) f0 f1 f3 f4 f5)
 self:=λ_ _ _ _ _ st h=>wpAny_pyIter_keyiter st h
abbrev P9(te:TE):TI:=λE H R=>te E H λx H1=>∃d od kvs,x=.ref d/\H1 d=aa (.frz od (.dK kvs))/\R (Itk od d) H1
def Qa(m:PE X e te):PI X tg e (P9 te):=by
 intro U s E H R I h;show thn (m U s E H _ I h) λv s1 u=>?_;have(x,H1,f,w,r):=u;have(d,od,kvs,ex,j,q):=r;subst ex;subst w;have(i,z,ns,vs,y,p,es,ep,c,g,a,kk,pp,nd):=f.hok d _ j;rw[i]at c;cases c;have hm:s1.heap.DictAt _ d vs ep:=(od,es,i,g,a,kk,pp,nd);have n:es.size=vs.length:=by rw[<- pp.length];simp
 show wpAny_pyIter_dict ns hm ?_;show(s1.heap.objs.size,_,_,_,H1,rfl,f.kept λb o e=>bx _ e,P8 a d _,(_,cP _ rfl,rfl,by rw[n];rfl),λb l=>?_,q);have e:b=s1.heap.objs.size:=by simpa using l
 subst e;show f.fpOk (aL _) (f.hok.fresh (aL _))
abbrev kD:Key->D
 |.inl i=>.int i
 |.inr x=>.str x
def Qb(k:Key):Rep G H (kD k) (kV k):=by cases k <;> rfl
abbrev Qc:D->OLD
 |.kd ks _=>aa (ks.map kD)
 | _=>ab
abbrev rg(f:MF1)(M:LS):OLD:=(f M).bind Qc
def GL{a c:Type}:∀{ks:List a} {vs:List c} {i:Nat} {k:a},ks.length=vs.length->ks[i]?=aa k->∃v,(ks.zip vs)[i]?=aa (k,v,)
 | [],_,_,_,_,e=>by simp at e
 | _::_,[],_,_,h,_=>by cases h
 |k::ks,v::vs,0,_,_,e=>by simp at e;subst e;show(v,rfl)
 |k::ks,v::vs,i+1,_,h,e=>by
  have(u,b):=GL (by simpa using h) (by simpa using e);show(u,by simpa using b)
variable{f:MF1}
def Qd(G:DE c X e f):DI c X tg e (rg f):=PI.imp (Qa G) λE H R J=>by
 have(Hf0,H0,Hf,M,ds,st,b,k):=J;unfold rg at b
 cases h:f M with
 |none=>rw[h]at b;nomatch b
 |some d=>
  rw[h,ay]at b
  cases d with
  |kd ks C=>
   cases b;show(Hf0,H0,Hf,M,_,st,h,λv Hf' H' x r=>?_);have(a,od,vs,A,q,z,L):=r;show(a,od,_,A,x.s _ _ q,k _ Hf' H' x λbm H2 f2 s2 i=>?_);have l:=(f2.trans s2) _ _ q;show(λd g=>?_,λw=>(_,l,by rw[nW,<- z];rw[aA]at w;lia));rw[cH]at g
   cases j:ks[i]? with
   |none=>rw[j]at g;nomatch g
   |some n=>
    rw[j]at g;cases g;have(u,m):=GL z j;show((_,n,u,l,m),λy N (p,I)=>?_);subst p;have(Q,T,h2,B):=I _ l;rw[m]at h2;cases h2;subst B
    show(bm,Ext.refl s2,Qb n)
  | _=>nomatch b
abbrev gM(ks:List Key)(C:LD)(k:Key):OD:=((ks.zip C).find? λa=>decide (a.1=k)).map (·.2)
def uJ{G:Gc}{H:Hp}{k:Key}:∀{ks:List Key} {C:LD} {vs:LVv},ks.length=vs.length->am G H C vs->(∀d,gM ks C k=aa d->∃v,cK (ks.zip vs) k=aa v/\Rep G H d v)/\(gM ks C k=ab->cK (ks.zip vs) k=ab)
 | [],_,_,_,_=>(λd h=>(by cases h),λ_=>rfl)
 | _::_,_,[],h,_=>by cases h
 |j::ks,[],v::vs,_,r=>by cases (r)
 |j::ks,x::C,v::vs,h,q4_=>by
  have(u,f,e,c,h2):=q4_
  injection e with e1 e2
  subst e1 e2;have(a,b):=uJ (by simpa using h) h2;unfold gM;simp only[e7,e7]
  by_cases q:j=k
  .subst q;show(λd hd=>(v,qA rfl,?_),λhd=>?_)
   .rw[find?_cons_of_pos (by simp)]at hd;cases hd;show c
   .rw[find?_cons_of_pos (by simp)]at hd;cases hd
  .rw[find?_cons_of_neg (by simpa using q),oA q];show(a,b)
abbrev uK:D->Option (List Key×LD)
 |.dic ks C=>aa (ks,C,)
 |.kd ks C=>aa (ks,C,)
 | _=>ab
variable{a:Expr}
def GM{p:List Key×LD}(e:uK d=aa p)(r:Rep G H d v):∃a vs,v=.ref a/\Rd H a (.dK (p.1.zip vs))/\p.1.length=vs.length/\am G H p.2 vs:=by
 cases d with
 |dic ks C=>cases e;have(a,vs,b,q,z,r):=r;show(a,vs,b,.inl q,z,r)
 |kd ks C=>cases e;have(a,od,vs,b,q,z,r):=r;show(a,vs,b,.inr (od,q),z,r)
 | _=>nomatch e
variable{u:HO}
def Rd.up{a:Addr}(h:Rd H a u)(s:aq H H'):Rd H' a u:=h.imp (s _ _) λb=>by
 have(o,e):=b;show((o,s _ _ e))
abbrev rh(x y:D):OD:=(uK x).bind λp=>(jh y).bind λk=>gM p.1 p.2 k
variable{b:Expr}
def Qe(hu:X.A.units+64<cLine)(ha:DE c X a f)(J:DE c X b g)(L:qB b:=by exact λ_ _=>rfl):DE c X (.Subscript a b pos) (m2 rh f g):=
 PE.imp (xO (by lia) ha J L) λE H Q U=>by
  have(Hf0,H0,Hf,M,d,st,G,k):=U;have(x,y,B,C,e):=mL G;show(Hf0,H0,Hf,M,x,st,B,λv b3 H1 n Y=>(Hf0,H0,b3,M,y,st.step n,C,λu bm H2 m r2=>?_));unfold rh at e
  cases h:uK x with
  |none=>rw[h]at e;nomatch e
  |some p=>
   rw[h,ay]at e
   cases i:jh y with
   |none=>rw[i]at e;nomatch e
   |some T=>
    rw[i,ay]at e;have(l,vs,el,q,z,r):=GM h (Y.up m.f);have I:=qW i r2;subst I el;have(w,N,j):=(uJ z r).1 d e;show(l,w,rfl,.inl (_,T,q.up m.s,rfl,N.symm),k _ bm H2 (n.trans m) j)
abbrev pf(i:Nat)(fk a:MF1)(M:LS):OD:=match M[i]? with
 |some (.ownd ks C)=>(fk M).bind λy=>(jh y).bind λk=>(a M).map λx=>(gM ks C k).getD x
 | _=>ab
variable{cpos:Pos}
def Qf{o:Expr}(hu:X.A.units+64<cLine){B:MF1}(U:PE X o (cQ i))(T:DE c X a fk)(hx:DE c X b B)(m:M2 X o "get" apos a b cpos):DE c X (.Call (.Attribute o "get" apos) [a,b] [] cpos) (pf i fk B):=
 PE.imp (xP (by lia) U T hx m) λE H Q q_=>by
  have(Hf0,H0,Hf,M,d,st,e,k):=q_;unfold pf at e;split at e
  .rename_i ks C es
   cases j:fk M with
   |none=>rw[j]at e;nomatch e
   |some y=>
    rw[j,ay]at e
    cases p:jh y with
    |none=>rw[p]at e;nomatch e
    |some J=>
     rw[p,ay]at e
     cases n:B M with
     |none=>rw[n]at e;nomatch e
     |some x=>
      rw[n]at e;cases e;have(l,el,h0,hf,vs,q,z,r):=st.ownAt rfl es;show(_,el,l,rfl,.inl (_,.inl q),Hf0,H0,Hf,M,y,st,j,λv b3 H1 g r1=>(Hf0,H0,b3,M,x,st.step g,n,λu bm H2 I r2=>?_));have L:=qW p r1;subst L;show(cK _ J,fQ.k ((g.trans I).h _ _ q),k _ bm H2 (g.trans I) ?_);have(N,h2):=uJ z (r.up (g.trans I).f)
      cases hv:gM ks C J with
      |none=>rw[h2 hv];show r2
      |some d=>
       have(w,Y,G):=N d hv;rw[Y];show G
  .nomatch e
abbrev ph(i:Nat)(F:MF3)(M:LS):Option Fl:=match M[i]? with
 |some (.ownd ks C)=>F (M.set i (.im (.kd ks C)))
 | _=>F M
def Qg{F:MF3}{V4:i5}(I:Inv X U E H s)(h:tDS (Gx c X) (ph i F) V4 E H):∃H',Inv X U E H' s/\tDS (Gx c X) F V4 E H':=by
 have(Hf0,H0,Hf,M,o,Q,T,k):=h;unfold ph at T;split at T
 .rename_i ks C es;have(l,A,h0,G,vs,q,z,r):=Q.ownAt rfl es;have(od,I'):=I.freeze q;show(_,I',Hf0,H0,upd Hf l (.frz od (.dK (ks.zip vs))),M.set i _,o,?_,T,k.up (bP G))
  have s1 : ar _ Hf0 H0 Hf (upd H l (.frz od (.dK (ks.zip vs)))) E (M.set i .no):=Q.chg es A (λb u Y=>by
   by_cases g:b=l
   .subst g;show .inl ((Holds.own rfl).mpr rfl)
   .show .inr (by rw[aK g];show Y)) trivial λa p=>(p.calm rfl).elim
  have s2:ar (Gx c X) Hf0 H0 (upd Hf l (.frz od (.dK (ks.zip vs)))) (upd H l (.frz od (.dK (ks.zip vs)))) E (M.set i .no):=by
   have fr:GI (Gx c X) Hf H E (M.set i .no) l:=λm t w b x p=>by
    rcases cR b with⟨_,e',_⟩ |⟨ne,b⟩
    .subst e';show p.calm rfl
    .show ne (Q.dj m i t _ w _ l b es x A p ((Holds.own rfl).mpr rfl))
   have L:GI (Gx c X) Hf (upd H l (.frz od (.dK (ks.zip vs)))) E _ l:=λm t w b x p=>by
    cases B:t.isOwn with
    |true=>
     show fr m t w b x ((Holds.own B).mpr ((Holds.own B).mp p))
    |false=>
     cases t with
     |deep o'=>
      have(fp,rr,ha):=p
      have (u,fp',eu,r2,_):=Q.at' m _ _ x (by
       rcases cR b with⟨_,e',_⟩ |⟨ne,b⟩
       .nomatch e'
       .show b)
      cases eu
      have r3:OT _ Hf (upd H l (.frz od (.dK (ks.zip vs)))) o' w fp':=r2.frame (aq.refl _) λb' u' g j=>by
       rw[aK (λJ=>?_)]
       .show g
       .subst J
        rcases j with j |j
        .rw[q]at g;cases g;nomatch j
        .show fr m _ w b x (fp',r2,j)
      have:=OT.funM o' w _ _ r3 rr;subst this
      show fr m _ w b x (fp',r2,ha)
     | _=>first |show sL p.1 |nomatch B
   show s1.re (s1.ext.f.trans (bP G),s1.ext.h,λb u e=>?_,λb u e t=>?_) rfl (λm v t a b=>?_) λm t v a b x p=>(t,b,(s1.at' m _ t x b).back (λo' fp _ r=>r.up (bP G) (aq.refl _)) p)
   .by_cases Y:b=l
    .subst Y;rw[a8]at e ⊢;show e
    .rw[aK Y]at e;show s1.ext.s b u e
   .rw[aK (λz=>by subst z;rw[h0]at e;nomatch e)];show s1.ext.n b u e t
   .have J:=s1.at' m v t a b
    cases B:t.isOwn with
    |true=>
     have(l2,e2,e3,e4,q2):=J.own B;subst e2;show .ofOwn B (l2,rfl,e3,?_,q2.up (bP G) λo' ho'=>ho');rw[aK (λz=>by subst z;show L m t _ b a ((Holds.own B).mpr rfl))]
     show e4
    |false=>
     cases t with
     |no=>trivial
     |im d=>have(u',A,r):=J;show(u',A,r.up (bP G))
     |val u'=>show J
     |deep o'=>
      have(w,fp,A,r,n,zz):=J;subst A;show(w,fp,rfl,r.up (bP G) (aq.refl _),n,λy hy=>((zz y hy).1,?_));rw[aK (λz=>by subst z;show L m _ w b a (fp,r,hy))]
      show(zz y hy).2
     | _=>nomatch B
  have N:=s2.setIm (i:=i) (d:=.kd ks C) (l,od,vs,rfl,a8,z,r.up (bP G))
  have e3:E.set i (aa (.ref l))=E:=by
   apply l5;intro jj
   by_cases hj:i=jj
   .subst hj;rw[jV (cU.mp A).1,A]
   .rw[kK hj]
  rw[e3,set_set]at N;show N
 .show(H,I,Hf0,H0,Hf,M,o,Q,T,k)
def Qh{F:MF3}(i:Nat)(h:DS c X st F):DS c X st (ph i F):=λU s E H V4 I q=>by
 have(H',a,b):=Qg I q;show h U s E H' V4 a b
nonrec def Xe:=LS->Option (D×LS)
nonrec def Xa:=LS->Option (LD×LS)
nonrec def Xt:=LS->Option (Bool×LS)
abbrev mX(f:MF1):Xe:=λM=>(f M).map λd=>(d,M,)
abbrev cz:Xa:=λM=>aa ([],M,)
abbrev bJ(f:Xe)(g:Xa):Xa:=λM=>(f M).bind λp=>(g p.2).map λq=>(p.1::q.1,q.2,)
def Qi(h:mX f M=aa (d,ρ',)):f M=aa d/\ρ'=M:=by
 unfold mX at h
 cases e:f M with
 |none=>rw[e]at h;nomatch h
 |some d'=>rw[e]at h;cases h;show(rfl,rfl)
def GN{f:Xe}{g:Xa}(h:bJ f g M=aa (ds,ρ',)):∃d r ρ1,f M=aa (d,ρ1,)/\g ρ1=aa (r,ρ',)/\ds=d::r:=by
 unfold bJ at h
 cases b:f M with
 |none=>rw[b]at h;nomatch h
 |some p=>
  rw[b,ay]at h
  cases a:g p.2 with
  |none=>rw[a]at h;nomatch h
  |some q=>rw[a]at h;cases h;show(p.1,q.1,p.2,rfl,a,rfl)
inductive rj(G:Gc)(f:Xa)(E:St)(H:Hp)(Q:LVv->Hp->Prop):Prop
 |mk:∀Hf0 H0 Hf M ds ρ',ar G Hf0 H0 Hf H E M->f M=aa (ds,ρ',)->(∀vs Hf' H',aq Hf Hf'->ar G Hf0 H0 Hf' H' E ρ'->am G Hf' ds vs->Q vs H')->rj G f E H Q
structure DAX(c:Str->Addr)(X:Cx)(es:LEx)(f:Xa):Prop where
 pa:PA X es (rj (Gx c X) f)
 len:∀M ds ρ',f M=aa (ds,ρ',)->ds.length=es.length
def DE.dx(h:DE c X e f):DX c X e (mX f):=PE.imp h λE H Q g=>by
 have(Hf0,H0,Hf,M,d,ρ',st,b,k):=g;have(a,rfl):=Qi b;show(Hf0,H0,Hf,_,d,st,a,λv Hf' H' x r=>k v Hf' H' x.f (st.step x) r)
def Qj:DAX c X [] cz:=(PA.imp dZ λE H Q b=>by have(Hf0,H0,Hf,M,ds,ρ',st,a,k):=b;cases a;show k [] Hf H (aq.refl _) st rfl,λM ds ρ' h=>by cases h;rfl)
variable{f:Xe}
def GO{g:Xa}(ha:DX c X e f)(hr:DAX c X es g)(l:StE X e es:=by rfl):DAX c X (e::es) (bJ f g):=by
 show(PA.imp (eO ha hr.pa l) λE H Q m=>?_,λM ds ρ' h=>?_)
 .have(Hf0,H0,Hf,M,ds,ρ',st,j,k):=m;have(d,r,ρ1,i,a,rfl):=GN j;show(Hf0,H0,Hf,M,d,ρ1,st,i,λv b3 H1 f1 st1 n=>(Hf0,H0,b3,ρ1,r,ρ',st1,a,λvs bm H2 f2 b p=>k _ bm H2 (f1.trans f2) b (.cons (n.up f2) p)))
 .have(d,r,ρ1,i,a,rfl):=GN h;simp[hr.len ρ1 r ρ' a]
abbrev fW(i:Nat)(f:Xe)(M:LS):Option Fl:=(f M).map λp=>.nx (p.2.set i (.im p.1))
abbrev y8:D->D->OD
 |.int i,.int j=>aa (.int (i+j))
 |.str a,.str b=>if a.length+b.length<=16777216 then aa (.str (a++b)) else ab
 | _,_=>ab
abbrev nh(i:Nat)(f:Xe)(M:LS):Option Fl:=match M[i]? with
 |some (.im x)=>(f M).bind λp=>(y8 x p.1).map λz=>.nx (p.2.set i (.im z))
 | _=>ab
def uL(i:Nat)(g:X.N.Nodup)(h:DX c X e f)(hi:X.N[i]?=aa x:=by rfl)(m:Loc X.env.scope x:=by first |exact bX rfl |exact bA rfl)(l:f8 e (aa (.Name x b4)) pos.line X.env=pure af:=by rfl)(j:LcF X x:=by first |exact .inl rfl |exact .inr rfl):
  DS c X (.Assign [.Name x b4] e pos) (fW i f):=PS.imp (ox g hi m h l j) λV4 E H n=>by
 have(Hf0,H0,Hf,M,o,q,a,k):=n;unfold fW at a
 cases b:f M with
 |none=>rw[b]at a;nomatch a
 |some p=>
  rw[b]at a;cases a;show(Hf0,H0,Hf,M,p.1,p.2,q,b,λv Hf' H' s d r=>k _ Hf' H' s (d.setIm r))
def Qk:PIp X .Add (rD (Gx c X) y8):=λU s E H x y v u Q I l m q=>by
 have(Hf,dx,f,d,n,g,h,e,k):=q
 show (by
 cases dx with
 |int i=>
  cases f with
  |int j=>
   subst g;subst h;cases e
   show KL U s E H _ _ v u Q I l m (_,_,rfl,rfl,k _ Hf H (Ext.refl n) rfl)
  | _=>nomatch e
 |str a=>
  cases f with
  |str b=>
   subst g;subst h;replace e:(if _ then aa _ else ab)=aa d:=e;split at e
   .rename_i p;cases e;show Lo U s E H _ _ v u Q I l m (_,_,rfl,rfl,by rw[du];show p,k _ Hf H (Ext.refl n) rfl)
   .grind
  | _=>nomatch e
 | _=>nomatch e)
def Ql(i:Nat)(A:X.N.Nodup)(B:DX c X e f)(hi:X.N[i]?=aa x:=by rfl)(G:Loc X.env.scope x:=by first |exact bX rfl |exact bA rfl)(C:LcF X x:=by first |exact .inl rfl |exact .inr rfl):
  DS c X (.AugAssign (.Name x b4) .Add e pos) (nh i f):=PS.imp (D9 A hi G B (Qk) C) λV4 E H I=>by
 have(Hf0,H0,Hf,M,o,l,a,k):=I;unfold nh at a;split at a
 .rename_i d es
  cases g:f M with
  |none=>rw[g]at a;nomatch a
  |some p=>
   rw[g,ay]at a
   cases h:y8 d p.1 with
   |none=>rw[h]at a;nomatch a
   |some z=>
    rw[h]at a;cases a;have(v,n,w,q,j):=l.slot es;subst q;show(_,n,Hf0,H0,Hf,M,p.1,p.2,l,g,λu Hf' H' s b r=>(Hf',d,p.1,z,b.sub,j.up s,r,h,λy bm H2 m J=>k _ bm H2 (s.trans m.f) ((b.step m).setIm J)))
 .nomatch a
abbrev isE(x d:D):Bool:=deq 19 d x==aa ac
abbrev gN(y x:D):OD:=match y with
 |.lst ds=>if di x ds=aa ac then aa (.int ((ds.findIdx (isE x):Nat):Int)) else ab
 | _=>ab
def y9{x:D}:∀{ds:LD} {b:Bool},di x ds=aa b->(∀d∈ds,∃f,deq 19 d x=aa f)/\ds.any (isE x)=b
 | [],_,h=>by cases h;show(λd hd=>(dq hd).elim,rfl)
 |d::ds,b,h=>by
  have(a,j,c,h2,rfl):=FT h;have(g,i):=y9 h2;show(λd' hd=>?_,?_)
  .rcases aZ.mp hd with e |e
   .rw[e];show(a,c)
   .show g d' e
  .rw[gx,i];unfold isE;rw[c]
   cases a <;> rfl
abbrev za(G:Gc):V->LVv->Hp->VK->Prop:=λa vs H Q=>∃Hf y x d w,vs=[w]/\aq Hf H/\Rep G Hf y a/\Rep G Hf x w/\gN y x=aa d/\∀v Hf' H',Ext Hf H Hf' H'->Rep G Hf' d v->Q v H'
def GP(hu:X.A.units+64<cLine):MtM X "list.index" (za (Gx c X)):=by
 rintro U s E H x C v us Q I rx rv ⟨Hf,y,z,d,w,rfl,i,r1,r2,e,k⟩;unfold gN at e;split at e
 .rename_i ds;split at e
  .rename_i a;cases e;have(l,vs,el,q,L):=r1;subst el;subst rx;have(u,rfl,ru):=rv.one;have(z1,B,n,Y,T,e0):=I.lstM (i _ _ q);have(f,M,ha):=qZ (A:=X.A.in1) I (by rw[qr];lia) (r2.up i) ru (L.up i) Y a;have(k1,k2):=y9 a
   have same:∀m _,f B[m]=isE z (ds.getD m .non):=λm hm=>by
    have r:m<ds.length:=by rw[L.length,T];show hm
    have(v1,j,J):=L.get (b6 r);have(u1,b,ru1):=Y.get j;rw[b6 hm]at b;cases b;have(_,d',v',r',G,h'):=M B[m] (ij hm);have ev:=aB.inj G ru1;subst ev;have(b1,g):=k1 ds[m] (ij r);rw[bH,b6 r];change _=isE z ds[m];unfold isE;rw[g,(qY 19 r' (J.up i) h' g)]
    cases b1 <;> rfl
   have N:=wx (any_eq_true.mp k2);have h:ds.findIdx (isE z)<B.length:=by rw[<- T,<- L.length];show N
   show call_meets F.slot_list_index (_,e0,rfl) F.entry_list_index (F.args_list_index_2 _ _) (SeqAt.list_indexAt l B.toArray n ab #[] u f _ (by rw[size_toArray];show h) (by rw[du]at z1;lia) ?_ ?_) (e0,λy hy=>(M y (by simpa using hy)).1,(.int _,H,I.tok _,(_,rfl),k _ Hf H (Ext.refl i) rfl))
   .simp only[sP,same _ h,bH,b6 N];show findIdx_getElem
   .intro m hm p;rw[sP,same m (by rw[size_toArray]at hm;show hm),bH,b6 _];have:=not_of_lt_findIdx p;show this
  .nomatch e
 .nomatch e
def Qm{f:MF1}(h:PE X e (tBM X.K "list" (za (Gx c X)) (tD (Gx c X) f) (i7 (tD (Gx c X) g) hU))):DE c X e (m2 gN f g):=PE.imp h λE H Q A=>by
 have(Hf0,H0,Hf,M,d,st,z,k):=A;have(x,y,p,r,a):=mL z
 obtain⟨ds,rfl⟩:∃ds,x=.lst ds:=by
  unfold gN at a;split at a
  .show(_,rfl)
  .nomatch a
 show(Hf0,H0,Hf,M,_,st,p,λv b3 H1 i m=>?_);have(l,vs,el,q,L):=id m;subst el;show(.inl (rfl,_,SqL.of (i.s _ _ q)),Hf0,H0,b3,M,y,st.step i,r,λu bm H2 j B=>(bm,.lst ds,y,d,u,rfl,j.s,m.up j.f,B,a,λw b n G C=>k w b n ((i.trans j).trans G) C))
def GQ{b:Type}:∀(a:List (Int×b)),(a.map (·.1)).Nodup->∀z∈a,a.find? (λy=>y.1==z.1)=aa z
 | [],_,_,h=>(dq h).elim
 |y::a,nd,z,h=>by
  rw[bF,b7]at nd;rw[find?_cons]
  rcases aZ.mp h with e |e
  .rw[e,beq_self_eq_true]
  .have:_=af:=beq_eq_false_iff_ne.mpr λq=>nd.1 (aJ.mpr (z,e,q.symm));rw[this];show GQ a nd.2 z e
def DE.pe{f:MF1}(h:DE c X e f):PE X e (tD (Gx c X) f):=h
def DX.pe(h:DX c X e f):PE X e (tDX (Gx c X) f):=h
abbrev Qo(x y z:D):OD:=(uK x).bind λp=>(jh y).map λk=>(gM p.1 p.2 k).getD z
abbrev rm(f g h:MF1)(M:LS):OD:=(f M).bind λx=>(g M).bind λy=>(h M).bind λz=>Qo x y z
def Qp{o:Expr}(hu:X.A.units+64<cLine){f h:MF1}(ho:DE c X o f)(hk:DE c X a g)(hx:DE c X b h)(m:M2 X o "get" apos a b cpos):DE c X (.Call (.Attribute o "get" apos) [a,b] [] cpos) (rm f g h):=
 PE.imp (xP (by lia) ho hk hx m) λE H Q q_=>by
  have(Hf0,H0,Hf,M,d,st,e,k):=q_;unfold rm at e;have(x,I,e):=sX.mp e;have(y,J,e):=sX.mp e;have(z,L,e):=sX.mp e;have(p,N,e):=sX.mp e;have(n,T,e):=Option.map_eq_some_iff.mp e;show(Hf0,H0,Hf,M,x,st,I,λv b3 H1 j r1=>?_);have(l,vs,Y,rd,z0,r):=GM N r1;subst Y;show(l,rfl,.inl (_,rd.up j.s),Hf0,H0,b3,M,y,st.step j,J,λu bm H2 C r2=>(Hf0,H0,bm,M,z,(st.step j).step C,L,λw q G x3 r3=>?_));have U:=qW T r2;subst U;have i:=C.trans x3;show(cK (p.1.zip vs) n,.inl (_,n,(rd.up j.s).up i.h,rfl,rfl),k _ q G (j.trans i) ?_);have(h1,h2):=uJ (k:=n) z0 (r.up i.f);subst e
  cases hv:gM p.1 p.2 n with
  |none=>rw[h2 hv];show r3
  |some d=>
   have(w',hw,B):=h1 d hv;rw[hw];show B
structure Foc(G:Gc)(Hf H:Hp)(o:O)(v:V)(fp:LAd)(o1:O)(v1:V)(f1:LAd)(R:O->O):Prop where
 r:OT G Hf H o1 v1 f1
 n:f1.Nodup
 sub:∀a∈f1,a∈fp
 back:∀(Hf' H':Hp) (o2:O) (f2:LAd),aq Hf Hf'->(∀b u,H b=aa u->b∉f1->H' b=aa u)->OT G Hf' H' o2 v1 f2 ->
  ∃fp',OT G Hf' H' (R o2) v fp'/\(∀a∈fp',a∈f2\/(a∈fp/\a∉f1))/\(f2.Nodup->(∀a∈f2,a∈fp->a∈f1)->fp'.Nodup)
def Foc.refl{o:O}(h:OT G Hf H o v fp)(n:fp.Nodup):Foc G Hf H o v fp o v fp id:=
 (h,n,λ_ h=>h,λ_ _ _ f2 _ _ q=>(f2,q,λ_ h=>.inl h,λn _=>n))
variable{v1:V}{f1 f2:LAd}{R R':O->O}
def Foc.trans{o o1 o2:O}{g:V}(F:Foc G Hf H o v fp o1 v1 f1 R)(F':Foc G Hf H o1 v1 f1 o2 g f2 R'):Foc G Hf H o v fp o2 g f2 (λx=>R (R' x)):=by
 show(F'.r,F'.n,λa h=>F.sub a (F'.sub a h),λHf' H' m i s k h=>?_);have(d,p,m1,j):=F'.back Hf' H' m i s k h;have(fp',q,m2,l):=F.back Hf' H' _ d s (λb u e c=>k b u e λz=>c (F'.sub b z)) p;show(fp',q,λa ha=>?_,λnf f=>l (j nf λa ha c=>f a ha (F.sub a c)) λa ha c=>?_)
 .rcases m2 a ha with z |⟨z,z'⟩
  .rcases m1 a z with y |⟨y,y'⟩
   .show .inl y
   .show .inr (F.sub a y,y')
  .show .inr (z,λy=>z' (F'.sub a y))
 .rcases m1 a ha with y |⟨y,_⟩
  .show F'.sub a (f a y c)
  .show y
variable{b:Addr}
def GR{o:O}{f:LAd}(h:OT G Hf H o v f)(e:H b=aa u)(t:iA u=ac):b∉f:=λz=>by
 have(d,c,a):=OT.memM o v f h b z
 grind
def OTs.foc:∀{os:List O} {vs:LVv} {fp:LAd} {k:Nat} {o1:O},OTs G Hf H os vs fp->fp.Nodup->os[k]?=aa o1->∃v1 f1,vs[k]?=aa v1/\OT G Hf H o1 v1 f1/\f1.Nodup/\(∀a∈f1,a∈fp) /\
  ∀(Hf' H':Hp) (o2:O) (d:V) (f2:LAd),aq Hf Hf'->(∀b u,H b=aa u->(iA u=ac\/b∈fp)->b∉f1->H' b=aa u)->OT G Hf' H' o2 d f2 ->
  ∃fp',OTs G Hf' H' (os.set k o2) (vs.set k d) fp'/\(∀a∈fp',a∈f2\/(a∈fp/\a∉f1))/\(f2.Nodup->(∀a∈f2,a∈fp->a∈f1)->fp'.Nodup)
 | [],_,_,_,_,_,_,e=>by simp at e
 |o::os,_,_,0,o1,q5_,n,e'=>by
  have(v,r,f1,g,e,i,h2,m):=q5_;cases e';subst e m;have(p,w,dj):=e8.mp n;show(v,f1,rfl,i,p,λa ha=>bT _ ha,λHf' H' o2 d f2 s k h=>(f2++g,?_,λa ha=>?_,λnf j=>(e8.mpr (nf,w,λa ha b c z=>by subst z;show dj a (j a ha (cg _ c)) a c rfl))))
  .simp only[sU,sU];show(d,r,f2,g,rfl,h,OTs.frameM s os r g h2 λb u c hm=>k b u c (hm.imp_right λy=>cg _ y) λz=>?_,rfl)
   rcases hm with t |t
   .show GR i c t z
   .show dj b z b t rfl
  .rcases bu.mp ha with z |z
   .show .inl z
   .show .inr (cg _ z,λy=>dj a y a z rfl)
 |o::os,_,_,k+1,o1,q5_,n,e'=>by
  have(v,r,f,g,e,i,h2,m):=q5_;subst e m;have(p,w,dj):=e8.mp n;have(v1,f1,B,q,E,l,bk):=OTs.foc h2 w e';show(v1,f1,by simp only[gV];show B,q,E,λa ha=>cg _ (l a ha),λHf' H' o2 d f2 s k h=>?_);have(x,I,A,C):=bk Hf' H' o2 d f2 s (λb u c hm=>k b u c (hm.imp_right λy=>cg _ y)) h;show(f++x,?_,λa ha=>?_,λnf j=>?_)
  .simp only[qd,qd];show(v,_,f,x,rfl,i.frame s λb u c hm=>k b u c (hm.imp_right λy=>bT _ y) λz=>?_,I,rfl)
   rcases hm with t |t
   .show GR q c t z
   .show dj b t b (l b z) rfl
  .rcases bu.mp ha with z |z
   .show .inr (bT _ z,λy=>dj a z a (l a y) rfl)
   .rcases A a z with y |⟨y,y'⟩
    .show .inl y
    .show .inr (cg _ y,y')
  .show e8.mpr (p,C nf λa ha c=>j a ha (cg _ c),λa ha b c z=>?_);subst z
   rcases A a c with y |⟨y,_⟩
   .show dj a ha a (l a (j a y (bT _ ha))) rfl
   .show dj a ha a y rfl
def ni{b:Type}:∀{l:List b} {k:Nat} {x:b},l[k]?=aa x->l.set k x=l
 | [],_,_,e=>by simp at e
 | _::_,0,_,e=>by simp at e;subst e;rfl
 |a::l,k+1,x,e=>by rw[gV]at e;rw[qd,ni e]
variable{os:List O}{o1:O}
def Foc.root{o:O}{a:Addr}{fs:LAd}{k:Nat}{W:List O->O}(ha:H a=aa u)(C:iA u=af)(L:OTs G Hf H os vs fs)(n:(a::fs).Nodup)(e:os[k]?=aa o1)
 (mk:∀Hf' H' f c,H' a=aa u->OTs G Hf' H' f vs c->f.length=os.length->OT G Hf' H' (W f) (.ref a) (a::c)):∃v1 f1,vs[k]?=aa v1/\Foc G Hf H o (.ref a) (a::fs) o1 v1 f1 (λx=>W (os.set k x)):=by
 have(g,nf):=b7.mp n;have(v1,f1,l,q,B,i,bk):=L.foc nf e;show(v1,f1,l,q,B,λb d=>bh _ (i b d),λHf' H' o2 f2 s p h=>?_);have(c,v,r,A):=bk Hf' H' o2 v1 f2 s (λb u d _=>p b u d) h;rw[ni l]at v;show(a::c,mk Hf' H' _ c (p a u ha λz=>g (i a z)) v (by simp),λb d=>?_,λj m=>b7.mpr (λz=>?_,A j λb d w=>m b d (bh _ w)))
 .rcases aZ.mp d with z |z
  .subst z;show .inr (az,λy=>g (i b y))
  .rcases r b z with y |⟨y,y'⟩
   .show .inl y
   .show .inr (bh _ y,y')
 .rcases r a z with y |⟨y,_⟩
  .show g (i a (m a y az))
  .show g y
def Foc.at{o:O}(h:OT G Hf H (.at l o) v fp)(n:fp.Nodup):Foc G Hf H (.at l o) v fp o v fp (.at l):=
 (h.2,n,λ_ h=>h,λ_ _ _ f2 _ _ q=>(f2,(h.1,q),λ_ h=>.inl h,λn _=>n))
def ar.foc{o o1 o2:O}(m:ar G Hf0 H0 Hf H E M)(es:M[i]?=aa (.deep o))(q:E[i]?=aa (aa v))(r:OT G Hf' H1 o v fp)(x:Ext Hf H Hf' H1)(F:Foc G Hf' H1 o v fp o1 v1 f1 R)
 (kk:∀b u,H1 b=aa u->b∉f1->H2 b=aa u)(new:OT G Hf' H2 o2 v1 f2)(J:f2.Nodup)(h2:∀a∈f2,a∈f1\/(H a=ab/\Hf' a=ab)):ar G Hf0 H0 Hf' H2 E (M.set i (.deep (R o2))):=by
 have(L,g,C,d,n,z):=(m.at' i _ _ q es);cases C;have:=OT.funM o v fp g r (d.up x.f x.h);subst this;have(fp',B,mem,nd):=F.back Hf' H2 o2 f2 (aq.refl _) kk new
 have c:∀a∈fp',a∈fp\/_:=λa ha=>by
  rcases mem a ha with y |⟨y,_⟩
  .rcases h2 a y with w |w
   .show .inl (F.sub a w)
   .show .inr w
  .show .inl y
 show m.chgX x es q (λb u j=>?_) (v,fp',rfl,B,nd J λa ha j=>?_,λa ha=>?_) λa p=>?_
 .by_cases h:b∈f1
  .show .inl (fp,d,F.sub b h)
  .show .inr (kk b u j h)
 .rcases h2 a ha with y |y
  .show y
  .have(u,e,_):=OT.memM o v fp d a j;rw[y.1]at e
   nomatch e
 .rcases c a ha with y |y
  .have(u,e,I):=OT.memM o v fp d a y;show((z a y).1,?_);rw[x.n a u e I];show(z a y).2
  .show(m.ext.h.free y.1,y.2)
 .have(A,l,ha):=p;have:=OT.funM _ _ _ _ B l;subst this
  rcases c a ha with y |y
  .show .inl (fp,d,y)
  .show .inr y.1
def ar.was{o:O}(g:ar G Hf0 H0 Hf H E M)(es:M[i]?=aa (.deep o))(d:E[i]?=aa (aa v))(x:Ext Hf H Hf' H1)(r:OT G Hf' H1 o v fp):∀a∈fp,H a≠ab:=λa ha=>by
 have(l,b,e,c,n,z):=g.at' i _ _ d es;cases e;have:=OT.funM o v fp b r (c.up x.f x.h);subst this;have(u,j,_):=OT.memM o v fp c a ha
 grind
abbrev zb:D->Option Key
 |.int i=>aa (.inl i)
 |.bl b=>aa (.inl (cond b 1 0))
 |.str x=>aa (.inr x)
 | _=>ab
abbrev rn:LD->Option (List Key)
 | []=>aa []
 |d::ds=>(zb d).bind λk=>(rn ds).map (k::·)
abbrev kz:D->Option (List Key)
 |.tup ds=>rn ds
 | _=>ab
def Qq{k:Key}(h:zb d=aa k)(r:Rep G H d v):kR k v:=by
 cases d with
 |int i=>cases h;show .inl r
 |bl b=>cases h;show .inr (b,r,rfl)
 |str x=>cases h;show r
 | _=>nomatch h
def GS{G:Gc}{H:Hp}:∀{ds:LD} {ks:List Key} {vs:LVv},rn ds=aa ks->am G H ds vs->KRs ks vs
 | [],_,_,h,r=>by cases h;cases (r);show .nil
 |d::ds,ks,_,h,q4_=>by
  have(v,r,e,c,h2):=q4_;subst e;dsimp only[rn]at h
  cases a:zb d with
  |none=>rw[a]at h;cases h
  |some k=>
   simp only[a,ay]at h
   cases b:rn ds with
   |none=>rw[b]at h;cases h
   |some f=>rw[b]at h;cases h;show .cons (Qq a c) (GS b h2)
def rp{k:List Key}(h:kz d=aa k)(r:Rep G H d v):∃b,v=.ref b/\fm H b k:=by
 cases d with
 |tup ds=>have(a,vs,e,q,L):=r;show(a,e,vs,q,GS h L)
 | _=>nomatch h
abbrev aT{a:Type}[DecidableEq a](f:a):List a->Option Nat
 | []=>ab
 |n::ns=>if n=f then aa 0 else (aT f ns).map (· + 1)
def zc{a:Type}[DecidableEq a]{f:a}:∀{ns:List a} {k:Nat},aT f ns=aa k->k<ns.length
 | [],_,e=>by cases e
 |n::ns,k,e=>by
  dsimp only[aT]at e;split at e
  .cases e;show qh _
  .cases h:aT f ns with
   |none=>rw[h]at e;cases e
   |some j=>rw[h]at e;cases e;show Nat.succ_lt_succ (zc h)
def zd{a:Type}[DecidableEq a]{b:Type}{f:a}:∀{ns:List a} {k:Nat} (vs:List b),aT f ns=aa k->(ns.zip vs).lookup f=vs[k]?
 | [],_,_,e=>by cases e
 | _::_,_,[],_=>by rfl
 |n::ns,k,v::vs,e=>by
  dsimp only[aT]at e;simp only[e7,l6];split at e
  .rename_i h;subst h;cases e;rw[beq_self_eq_true];rfl
  .rename_i h;simp only[beq_eq_false_iff_ne.mpr (eG h)]
   cases h':aT f ns with
   |none=>rw[h']at e;cases e
   |some j=>
    rw[h']at e;cases e;show zd vs h'
def pi{a:Type}[DecidableEq a]{f:a}:∀{ns:List a} {k:Nat} (vs:LVv),aT f ns=aa k->cK (ns.zip vs) f=vs[k]?
 | [],_,_,e=>by cases e
 | _::_,_,[],_=>by rfl
 |n::ns,k,v::vs,e=>by
  dsimp only[aT]at e;simp only[e7];split at e
  .rename_i h;cases e;rw[qA h];rfl
  .rename_i h;rw[oA h]
   cases h':aT f ns with
   |none=>rw[h']at e;cases e
   |some j=>
    rw[h']at e;cases e;show pi vs h'
def rq{a:Type}[DecidableEq a]{f:a}:∀{ns:List a} (vs:LVv),aT f ns=ab->cK (ns.zip vs) f=ab
 | [],_,_=>rfl
 | _::_,[],_=>by rfl
 |n::ns,v::vs,e=>by
  dsimp only[aT]at e;simp only[e7];split at e
  .cases e
  .rename_i h;rw[oA h]
   cases h':aT f ns with
   |none=>show rq vs h'
   |some j=>rw[h']at e;cases e
def Foc.up{o o1:O}(F:Foc G Hf H o v fp o1 v1 f1 R)(f:aq Hf Hf')(s:aq H H'):Foc G Hf' H' o v fp o1 v1 f1 R:=
 (F.r.up f s,F.n,F.sub,λbm H2 o2 f2 s2 k h=>F.back bm H2 o2 f2 (f.trans s2) (λb u e a=>k b u (s b u e) a) h)
nonrec def Xp:=LS->Option (O×(O->O))
inductive tDP(G:Gc)(i:Nat)(f:Xp)(E:St)(H:Hp)(Q:VK):Prop
 |mk:∀Hf0 H0 Hf M o1 R,ar G Hf0 H0 Hf H E M->f M=aa (o1,R,)->(∀o v fp v1 f1 Hf' H',M[i]?=aa (.deep o)->E[i]?=aa (aa v)->Ext Hf H Hf' H'->OT G Hf' H' o v fp->Foc G Hf' H' o v fp o1 v1 f1 R->Q v1 H')->tDP G i f E H Q
abbrev DP(c:Str->Addr)(X:Cx)(e:Expr)(i:Nat)(f:Xp):Prop:=PE X e (tDP (Gx c X) i f)
abbrev aH(i:Nat):Xp:=λM=>match M[i]? with
 |some (.deep (.at l o))=>aa (o,.at l,)
 |some (.deep o)=>aa (o,id,)
 | _=>ab
abbrev O.fld(cn f:Str):O->Option (O×(O->O))
 |.ins c ns os=>if c=cn then (aT f ns).bind λk=>(os[k]?).map λo1=>(o1,λx=>.ins c ns (os.set k x),) else ab
 | _=>ab
abbrev aU(cn f:Str)(p:Xp):Xp:=λM=>(p M).bind λq=>(q.1.fld cn f).map λr=>(r.1,λx=>q.2 (r.2 x),)
abbrev O.key(k:List Key):O->Option (O×(O->O))
 |.dT ks os=>(aT k ks).bind λj=>(os[j]?).map λo1=>(o1,λx=>.dT ks (os.set j x),)
 | _=>ab
abbrev kA(p:Xp)(g:MF1):Xp:=λM=>(p M).bind λq=>(g M).bind λd=>(kz d).bind λk=>(q.1.key k).map λr=>(r.1,λx=>q.2 (r.2 x),)
abbrev fzs:List O->OLD
 | []=>aa []
 |.fz d::os=>(fzs os).map (d::·)
 | _=>ab
def ze:∀(ds:LD),fzs (ds.map .fz)=aa ds
 | []=>rfl
 |d::ds=>by rw[bF,fzs,ze ds];rfl
def GT:∀{os:List O} {ds:LD},fzs os=aa ds->os=ds.map .fz
 | [],_,h=>by cases h;rfl
 |o::os,ds,h=>by
  cases o with
  |fz d=>
   simp only[fzs]at h
   cases e:fzs os with
   |none=>rw[e]at h;cases h
   |some a=>rw[e]at h;cases h;rw[bF,<- GT e]
  | _=>cases h
def OTs.unfz{G:Gc}{Hf H:Hp}:∀{ds:LD} {vs:LVv} {fs:LAd},OTs G Hf H (ds.map .fz) vs fs->am G Hf ds vs/\fs=[]
 | [],_,_,h=>(h.1,h.2)
 |d::ds,_,_,q3_=>by
  have(v,r,f1,f2,e,c,h2,f):=q3_;have(a,b):=OTs.unfz h2;show((v,r,e,c.1,a),?_);rw[f,c.2,b];rfl
abbrev pD(p:Xp)(M:LS):OD:=(p M).bind λq=>match q.1 with
 |.fz d=>aa d
 | _=>ab
abbrev pB(p:Xp)(M:LS):OD:=(p M).bind λq=>if q.1.kn then aa q.1.toD else ab
abbrev O.items:O->OLD
 |.lst os=>fzs os
 | _=>ab
abbrev pC(p:Xp)(M:LS):OLD:=(p M).bind λq=>q.1.items
inductive tDL(G:Gc)(f:MF2)(E:St)(H:Hp)(Q:VK):Prop
 |mk:∀Hf0 H0 Hf M ds,ar G Hf0 H0 Hf H E M->f M=aa ds->(∀a vs Hf' H',Ext Hf H Hf' H'->H' a=aa (.lst vs)->am G Hf' ds vs->Q (.ref a) H')->tDL G f E H Q
abbrev DL(c:Str->Addr)(X:Cx)(e:Expr)(f:MF2):Prop:=PE X e (tDL (Gx c X) f)
def bd{c d:Type}{a:Option c}{f:c->Option d}{b:d}(h:a.bind f=aa b):∃x,a=aa x/\f x=aa b:=by
 cases a with
 |none=>nomatch h
 |some x=>show(x,rfl,h)
def dQ{c d:Type}{a:Option c}{f:c->d}{b:d}(h:a.map f=aa b):∃x,a=aa x/\f x=b:=by simp_all
def d3(h:PE X e (cQ i)):DP c X e i (aH i):=PE.imp h λE H Q j=>by
 have(Hf0,H0,Hf,M,o1,R,d,a,g):=j
 have main:∀o,M[i]?=aa (.deep o)->(∀v fp,OT _ Hf H o v fp->fp.Nodup->Foc _ Hf H o v fp o1 v fp R)->cQ i E H Q:=λo es F=>by
  have(v,b,u,fp,f,r,n,z):=d.slot es;subst f;show(u,b,g o u fp u fp Hf H es b (Ext.refl d.sub) r (F u fp r n))
 unfold aH at a;split at a
 .rename_i l o es;cases a;show main _ es λv fp r n=>Foc.at r n
 .rename_i o _ es;cases a;show main _ es λv fp r n=>Foc.refl r n
 .grind
variable{o2:O}
def Qr{cn f:Str}(h:o1.fld cn f=aa (o2,R,)):∃ns os k,o1=.ins cn ns os/\aT f ns=aa k/\os[k]?=aa o2/\R=λx=>.ins cn ns (os.set k x):=by
 cases o1 with
 |ins c ns os=>
  replace h:(if c=cn then (aT f ns).bind λk=>(os[k]?).map λo1=>_ else ab)=aa _:=h;split at h
  .rename_i d;subst d;have(k,a,h):=bd h;have(o,b,h):=dQ h;cases h;show(ns,os,k,rfl,a,b,rfl)
  .nomatch h
 | _=>nomatch h
def Foc.fld{o o1 o2:O}{cn f:Str}(F:Foc G Hf H o v fp o1 v1 f1 R)(h:o1.fld cn f=aa (o2,R',)):∃(a dx:Addr) (ns:LSt) (vs:LVv) (b:V) (f2:LAd),v1=.ref a/\H a=aa (.ins (G.cl cn) dx (ns.zip vs))/\(ns.zip vs).lookup f=aa b/\Foc G Hf H o v fp o2 b f2 (λx=>R (R' x)):=by
 have(ns,os,k,rfl,g,i,rfl):=Qr h;have(a,dx,vs,fs,rfl,ha,hz,L,rfl):=F.r;have(b,f2,j,e):=Foc.root (W:=.ins cn ns) ha rfl L F.n i λHf' H' l c d r _=>(a,dx,vs,c,rfl,d,hz,r,rfl);show(a,dx,ns,vs,b,f2,rfl,ha,(zd vs g).trans j,F.trans e)
variable{p:Xp}
def eq{o:Expr}(cn:Str)(m:Cls X.K (c cn))(hn:cJ X.K (c cn) fl)(n:DP c X o i p)(l:oe o fl X.env (eval o X.env)=eval o X.env:=by rfl):DP c X (.Attribute o fl pos) i (aU cn fl p):=PE.imp (En n l) λE H Q w=>by
 have(Hf0,H0,Hf,M,o2,R,y,b,u):=w;have(q,f,b):=bd b;have(r,g,b):=dQ b;cases b;show(Hf0,H0,Hf,M,q.1,q.2,y,f,λt v fp v1 f1 Hf' H' es j x rt F=>?_);have(a,dx,ns,vs,d,f2,h,ha,el,e):=F.fld g;show(a,_,dx,_,d,h,ha,m,hn,el,u t v fp d f2 Hf' H' es j x rt e)
def fm.same{k:List Key}(h:fm H b k)(s:aq H H'):fm H' b k:=h.up λb C e=>s _ _ e
def Qs{k:List Key}(h:o1.key k=aa (o2,R,)):∃ks os j,o1=.dT ks os/\aT k ks=aa j/\os[j]?=aa o2/\R=λx=>.dT ks (os.set j x):=by
 cases o1 with
 |dT ks os=>
  have(j,a,h):=bd h;have(o,b,h):=dQ h;cases h
  show(ks,os,j,rfl,a,b,rfl)
 | _=>nomatch h
def Foc.key{o o1 o2:O}{k:List Key}(F:Foc G Hf H o v fp o1 v1 f1 R)(h:o1.key k=aa (o2,R',)):∃a kvs b f2,v1=.ref a/\H a=aa (.dT kvs)/\cK kvs k=aa b/\Foc G Hf H o v fp o2 b f2 (λx=>R (R' x)):=by
 have(ks,os,j,rfl,f,g,rfl):=Qs h;have(a,vs,fs,rfl,ha,hz,L,rfl):=F.r;have(b,f2,i,e):=Foc.root (W:=.dT ks) ha rfl L F.n g λHf' H' l c d r _=>(a,vs,c,rfl,d,hz,r,rfl);show(a,ks.zip vs,b,f2,rfl,ha,(pi vs f).trans i,F.trans e)
def GU{o:Expr}(U:X.A.units+1<cLine)(N:DP c X o i p)(L:DE c X e g)(T:qB e:=by exact λ_ _=>rfl):DP c X (.Subscript o e pos) i (kA p g):=PE.imp (xO U N L T) λE H Q q_=>by
 have(Hf0,H0,Hf,M,o2,R,m,j,Y):=q_;have(q,w,j):=bd j;have(d,z,j):=bd j;have(k,B,j):=bd j;have(r,C,j):=dQ j;cases j;show(Hf0,H0,Hf,M,q.1,q.2,m,w,λt v fp v1 f1 b3 H1 es J x rt F=>(Hf0,H0,b3,M,d,m.step x,z,λy bm H2 l r2=>?_));have(b,I,tk):=rp B r2;have(a,kvs,n,f2,G,ha,el,u):=(F.up l.f l.h).key C;subst I;show(a,n,G,?_,Y t v fp n f2 bm H2 es J (x.trans l) (rt.up l.f l.h) u);rw[<- el];show fQ.t ha (tk.same l.s)
def GV(h:DP c X e i p):DE c X e (pD p):=PE.imp h λE H Q j=>by
 have(Hf0,H0,Hf,M,d,l,a,g):=j;have(q,f,a):=bd a;show(Hf0,H0,Hf,M,q.1,q.2,l,f,λt v fp v1 f1 b3 H1 es m x rt F=>?_)
 cases b:q.1 with
 |fz d'=>rw[b]at a;cases a;have r:=F.r;rw[b]at r;show g _ _ _ x r.1
 | _=>simp only[b]at a;nomatch a
def zf(h:DP c X e i p):DB c X e (pB p):=PE.imp h λE H Q j=>by
 have(Hf0,H0,Hf,M,d,l,a,g):=j;have(q,b,a):=bd a;split at a
 .rename_i f;cases a;show(Hf0,H0,Hf,M,q.1,q.2,l,b,λt v fp v1 f1 b3 H1 es m x rt F=>g _ _ _ x (F.r.rep x.s f))
 .grind
def rA(h:o1.items=aa ds):o1=.lst (ds.map .fz):=by
 cases o1 with
 |lst os=>rw[GT h]
 | _=>nomatch h
def zg(h:DP c X e i p):DL c X e (pC p):=PE.imp h λE H Q g=>by
 have(Hf0,H0,Hf,M,ds,j,b,f):=g;have(q,d,b):=bd b;show(Hf0,H0,Hf,M,q.1,q.2,j,d,λt v fp v1 f1 b3 H1 es l x rt F=>?_);have r:=F.r;rw[rA b]at r;have(a,vs,fs,rfl,ha,L,_):=r;show f a vs b3 H1 x ha L.unfz.1
def DL.dc{f:MF2}(h:DL c X e f):DC c X e f:=PE.imp h λE H Q d=>by
 have(Hf0,H0,Hf,M,ds,st,a,k):=d;show(Hf0,H0,Hf,M,ds,st,a,λl vs Hf' H' x b r=>k l vs Hf' H' x (.inl (SqL.of b)) r)
def DL.db{f:MF2}(h:DL c X e f):DB c X e (aO f):=PE.imp h λE H Q i=>by
 have(Hf0,H0,Hf,M,d,st,a,k):=i;have(ds,b,a):=dQ a;subst a;show(Hf0,H0,Hf,M,ds,st,b,λl vs Hf' H' x g r=>k _ Hf' H' x (l,vs,rfl,g,r.up x.s))
abbrev O.got(k:List Key):O->OLD
 |.dT ks os=>match aT k ks with
  |some j=>(os[j]?).bind O.items
  |none=>aa []
 | _=>ab
abbrev ib(p:Xp)(g:MF1)(M:LS):OLD:=(p M).bind λq=>(g M).bind λd=>(kz d).bind λk=>q.1.got k
section
variable{o:Expr}
def zh{w:Pos}(hu:X.A.units+1<cLine)(ho:DP c X o i p)(hk:DE c X e g)(m:M2 X o "get" apos e (.List [] w) pos):DL c X (.Call (.Attribute o "get" apos) [e,.List [] w] [] pos) (ib p g):=PE.imp (xP hu ho hk (tP dZ) m) λE H Q q_=>by
 have(Hf0,H0,Hf,M,ds,so,u,Y):=q_;have(q,e1,u):=bd u;have(d,e2,u):=bd u;have(k,e3,u):=bd u;show(Hf0,H0,Hf,M,q.1,q.2,so,e1,λt v fp v1 f1 b3 H1 es ev x rt F=>?_)
 cases U:q.1 with
 |dT ks os=>
  rw[U]at u F;have(a,vs,fs,rfl,ha,hz,L,rfl):=F.r;show(a,rfl,.inr (_,.inl ha),Hf0,H0,b3,M,d,so.step x,e2,λy bm H2 z G=>(cj _,λl hl=>?_));have(b,eb,tk):=rp e3 G;subst eb;have B:Ext bm H2 bm (upd H2 l (.lst [])):=Ext.tmp z.s hl;show(cK _ k,fQ.t (B.h _ _ (z.h _ _ ha)) (tk.same (z.s.trans B.h)),?_)
  replace u:(match aT k ks with |some j=>(os[j]?).bind O.items |none=>aa [])=aa ds:=u
  cases C:aT k ks with
  |none=>
   rw[C]at u;cases u;rw[rq vs C]
   show Y l [] bm _ ((x.trans z).trans B) a8 .nil
  |some j=>
   rw[C]at u;have(o2,eo,u):=bd u;have(v2,f2,I,F2):=Foc.root (o:=.dT ks os) (W:=.dT ks) ha rfl L F.n eo λHf' H' os' J N r _=>(a,vs,J,rfl,N,hz,r,rfl);have G:=(F2.up (z.f.trans B.f) (z.h.trans B.h)).r;rw[rA u]at G;have(b2,ws,fs2,rfl,hb,T,_):=G;rw[pi vs C,I]
   show Y b2 ws bm _ ((x.trans z).trans B) hb T.unfz.1
 | _=>rw[U]at u;nomatch u
end
def OTs.stay{fs:LAd}{c:HO}(r:OTs G Hf H os us fs)(d:H l=aa c)(e:iA c=af)(hn:l∉fs)(f:aq Hf Hf')(s:∀b u,b≠l->H b=aa u->H' b=aa u):OTs G Hf' H' os us fs:=
 OTs.frameM f os us fs r λb u a hm=>s b u (λz=>by
  subst z;rw[d]at a;cases a
  rcases hm with t |t
  .grind
  .show hn t) a
abbrev kB(i:Nat)(p:Xp)(f:MF1)(M:LS):Option Fl:=(p M).bind λq=>(f M).bind λd=>(q.1.appd d).map λo2=>.nx (M.set i (.deep (q.2 o2)))
abbrev O.extd(ds:LD):O->Option O
 |.lst os=>if os.length+ds.length<=16777216 then aa (.lst (os++ds.map .fz)) else ab
 | _=>ab
abbrev px(i:Nat)(p:Xp)(f:MF2)(M:LS):Option Fl:=(p M).bind λq=>(f M).bind λds=>(q.1.extd ds).map λo2=>.nx (M.set i (.deep (q.2 o2)))
abbrev O.pop0:O->Option (D×O)
 |.lst (.fz d::os)=>aa (d,.lst os,)
 | _=>ab
abbrev rB(i:Nat)(p:Xp):Xe:=λM=>(p M).bind λq=>q.1.pop0.map λr=>(r.1,M.set i (.deep (q.2 r.2)),)
abbrev O.setAt(k:D)(d:D)(o:O):Option O:=match k with
 |.int n=>o.items.bind λds=>(ixN ds.length n).map λj=>.lst ((ds.set j d).map .fz)
 | _=>ab
abbrev nj(i:Nat)(p:Xp)(fk fv:MF1)(M:LS):Option Fl:=(fv M).bind λd=>(p M).bind λq=>(fk M).bind λx=>(q.1.setAt x d).map λo2=>.nx (M.set i (.deep (q.2 o2)))
abbrev O.putNew(o x:O)(k:List Key):Option O:=match o with
 |.dT ks os=>if aT k ks=ab/\ks.length<16777216 then aa (.dT (ks++[k]) (os++[x])) else ab
 | _=>ab
abbrev py(i:Nat)(p:Xp)(fk fv:MF1)(M:LS):Option Fl:=(fv M).bind λd=>(p M).bind λq=>(fk M).bind λx=>(kz x).bind λk=>(q.1.putNew (.fz d) k).map λo2=>.nx (M.set i (.deep (q.2 o2)))
def Qt{f:MF1}(h:PS X st (mE (tBM X.K "list" tS (tDP (Gx c X) i p) (i7 (tD (Gx c X) f) hU)))):DS c X st (kB i p f):=PS.imp h λV4 E H N=>by
 have(Hf0,H0,Hf,M,o,y,j,J):=N;have(q,B,j):=bd j;have(d,C,j):=bd j;have(o2,G,j):=dQ j;subst j;show(Hf0,H0,Hf,M,q.1,q.2,y,B,λt v fp v1 f1 b3 H1 es I x rt F=>?_);have(l,us,el,A,hz,L,next):=GH G F.r;subst el;show(.inl (rfl,_,SqL.of A),Hf0,H0,b3,M,d,y.step x,C,λw bm H2 g Q=>?_);show(l,us,w,rfl,rfl,g.h _ _ A,by rw[du];show hz,J E bm _ (x.trans g).f ?_)
 show y.foc es I (rt.up g.f g.h) (x.trans g) (F.up g.f g.h) (λb u m hn=>by rw[aK (λz=>hn (by rw[z];show L))];show m)
  (next bm _ w F.n g.f (λb u m e=>by rw[aK m];show g.h b u e) a8 Q) F.n λa ha=>.inl ha
def Qu{f:MF2}(h:PS X st (mE (tBM X.K "list" xJ (tDP (Gx c X) i p) (i7 (tDL (Gx c X) f) hU)))):DS c X st (px i p f):=PS.imp h λV4 E H T=>by
 have(Hf0,H0,Hf,M,o,y,j,Q):=T;have(q,I,j):=bd j;have(ds,J,j):=bd j;have(o2,g,j):=dQ j;subst j;show(Hf0,H0,Hf,M,q.1,q.2,y,I,λt v fp v1 f1 b3 H1 es N x rt F=>?_)
 cases B:q.1 with
 |lst os=>
  rw[B]at g F;replace g:(if os.length+ds.length<=16777216 then aa _ else ab)=aa o2:=g;split at g
  .rename_i hz;cases g;have(l,us,fs,rfl,w,L,rfl):=F.r;show(.inl (rfl,_,SqL.of w),Hf0,H0,b3,M,ds,y.step x,J,λb A bm H2 d m G=>?_);show(l,b,us,A,rfl,rfl,(d.h _ _ w),m,by rw[du,<- L.length,<- G.length];show hz,Q E bm _ (x.trans d).f ?_);have o1:OTs _ bm (upd H2 l (.lst (us++A))) os us fs:=L.stay w rfl ((b7.mp F.n).1) d.f λb u m e=>by rw[aK m];show d.h b u e
   have C:=o1.append (OTs.fz G);rw[bQ]at C
   show y.foc es N (rt.up d.f d.h) (x.trans d) (F.up d.f d.h) (λb u m hn=>by rw[aK (λz=>hn (by rw[z];show az))];show m)
    (l,us++A,fs,rfl,a8,C,rfl) F.n λa ha=>.inl ha
  .nomatch g
 | _=>rw[B]at g;nomatch g
def Qv(h:PE X e (tBM X.K "list" ED (tDP (Gx c X) i p) (i7 (tC (.int 0)) hU))):DX c X e (rB i p):=PE.imp h λE H Q q_=>by
 have(Hf0,H0,Hf,M,d,ρ',J,m,Y):=q_;have(q,N,m):=bd m;have(r,j,m):=dQ m;cases m;show(Hf0,H0,Hf,M,q.1,q.2,J,N,λt v fp v1 f1 b3 H1 es T x rt F=>?_)
 cases I:q.1 with
 |lst os=>
  rw[I]at j F
  cases os with
  |nil=>nomatch j
  |cons o1 os=>
   cases o1 with
   |fz d=>
    cases j;have(l,us,fs,rfl,A,L,rfl):=F.r;have(w,g,g1,G,rfl,C,B,rfl):=L;have(rd,rfl):=C;show(.inl (rfl,_,SqL.of A),l,w::g,0,0,w,rfl,rfl,A,by decide,by decide,?_,rfl,?_)
    .have U:(decide ((0:Int)<=0) && decide (0<((w::g).length:Int)))=ac:=by simp
     unfold seqIndex?;rw[if_neg (show ¬(0:Int)<0 by decide),if_pos U];rfl
    .have nl:=(b7.mp F.n).1;show Y w b3 _ x.f ?_ rd;have o1:OTs _ b3 (upd H1 l (.lst g)) os g G:=B.stay A rfl nl (aq.refl _) λb u y e=>by rw[aK y];show e
     show J.foc es T rt x F (λb u y hn=>by rw[aK (λz=>hn (by rw[z];show az))];show y)
      (l,g,G,rfl,a8,o1,rfl) F.n λa ha=>.inl ha
   | _=>nomatch j
 | _=>rw[I]at j;nomatch j
def GW(hp:PS X st (i6 (tD (Gx c X) fv) (xh (tDP (Gx c X) i p) (tD (Gx c X) fk) xD))):DS c X st (nj i p fk fv):=PS.imp hp λV4 E H q_=>by
 have(Hf0,H0,Hf,M,o,B,e,kq):=q_;have(d,J,e):=bd e;have(q,N,e):=bd e;have(k,Q,e):=bd e;have(o2,m,e):=dQ e;subst e;show(Hf0,H0,Hf,M,d,B,J,λw b3 H1 C r1=>(Hf0,H0,b3,M,q.1,q.2,B.step C,N,λt v fp v1 f1 bm H2 es Y G rt F=>(Hf0,H0,bm,M,k,(B.step C).step G,Q,λy x I g r3=>?_)))
 cases k with
 |int n=>
  have(ds,T,m):=bd (m);have(j,U,m):=dQ m;subst m;have A:=F.up g.f g.h;rw[rA T]at A;have(l,us,fs,rfl,ql,L,e):=A.r;have(rd,rfl):=L.unfz;show(l,us,n,j,rfl,r3,ql,by rw[<- rd.length];show U,kq E x _ ((C.trans G).trans g).f ?_);have nf:OTs _ x (upd I l (.lst (us.set j w))) _ _ []:=OTs.fz (rd.set j (r1.up (G.f.trans g.f)))
  have:=(B.step C).foc es Y (rt.up g.f g.h) (G.trans g) A (λb u hb hn=>by rw[aK (λz=>hn (by rw[e,z];show az))];show hb)
   (o2:=.lst _) (l,us.set j w,[],rfl,a8,nf,rfl) (by rw[<- e];show A.n) λa ha=>.inl (by rw[e];show ha)
  show this
 | _=>nomatch m
def Qw{a:Type}[DecidableEq a]{k:a}{ks:List a}(hz:ks.length=vs.length)(h:aT k ks=ab):dL (ks.zip vs) k v=(ks++[k]).zip (vs++[v]):=by
 unfold dL;rw[tV,rq vs h,if_neg (by simp),zip_append hz];rfl
def GX{ks:List (List Key)}{x:O}{k:List Key}{g:LAd}{w:V}(r:OT G Hf H (.dT ks os) (.ref l) f1)(n:f1.Nodup)(a:aT k ks=ab)(f:aq Hf Hf')(s:∀b u,b≠l->H b=aa u->H' b=aa u):
  ∃kvs,H l=aa (.dT kvs)/\kvs.length=ks.length/\cK kvs k=ab/\l∈f1/\(H' l=aa (.dT (dL kvs k w))->OT G Hf' H' x w g->OT G Hf' H' (.dT (ks++[k]) (os++[x])) (.ref l) (f1++g)):=by
 have(h,vs,fs,el,c,hz,L,rfl):=r;cases el;show(ks.zip vs,c,by rw[nW];lia,rq vs a,az,λd e=>(l,vs++[w],fs++g,rfl,?_,by simp[hz],((L.stay c rfl (b7.mp n).1 f s).append (.one e)),rfl));rw[d,Qw hz a]
def Qx{x:O}{k:List Key}(h:o1.putNew x k=aa o2):∃ks os,o1=.dT ks os/\aT k ks=ab/\ks.length<16777216/\o2=.dT (ks++[k]) (os++[x]):=by
 cases o1 with
 |dT ks os=>
  replace h:(if aT k ks=ab/\ks.length<16777216 then aa _ else ab)=aa o2:=h;split at h
  .rename_i a;cases h;show(ks,os,rfl,a.1,a.2,rfl)
  .nomatch h
 | _=>nomatch h
def Qy(hp:PS X st (xN (tDP (Gx c X) i p) (tD (Gx c X) fk) (tD (Gx c X) fv))):DS c X st (py i p fk fv):=PS.imp hp λV4 E H q_=>by
 have(Hf0,H0,Hf,M,o,A,g,kq):=q_;have(d,U,g):=bd g;have(q,Y,g):=bd g;have(y,e3,g):=bd g;have(k,e5,g):=bd g;have(o2,e4,g):=dQ g;subst g;show(Hf0,H0,Hf,M,d,A,U,λw b3 H1 B r1=>(Hf0,H0,b3,M,q.1,q.2,A.step B,Y,λt v fp v1 f1 bm H2 es ev C rt F=>(Hf0,H0,bm,M,y,(A.step B).step C,e3,λz G T j r3=>?_)));have(ks,os,h1,hk,N,rfl):=Qx e4;have m:=F.up j.f j.h;rw[h1]at m;have(b,rfl,tk):=rp e5 r3;have(l,vs,fs,rfl,Q,hz,L,g):=id m.r;have(kvs,x,J,hv,lm,nw):=GX (H':=upd T l (.dT _)) m.r m.n hk (aq.refl _) λb u I e=>by rw[aK I];show e
 rw[Q]at x;cases x;show(l,_,rfl,li.t Q (tk.same j.s) (by rw[du,J];show N),kq E G _ ((B.trans C).trans j).f ?_)
 show(A.step B).foc es ev (rt.up j.f j.h) (C.trans j) m (λb u I hn=>by rw[aK (λz=>hn (by rw[z];show lm))];show I)
  (nw a8 (r1.up (C.f.trans j.f),rfl)) (by rw[bQ];show m.n) λa ha=>.inl (by rw[bQ]at ha;show ha)
section
variable{prog:cb}{w:World}{K:Type}[DecidableEq K]{kn:HeapKind prog w K}{A:b8}{V4:PRS}{s:ah}
def Qz{d b:Addr}{C:List (K×Addr×Value)}{k:K}{dv:Value}{Q:PRS}(i:kn.room A)(f:kn.is s.heap k b)(hm:s.heap.DictOfH kn d C)(hz:C.length<=aS)
 (m:∀q,atKey C k=aa q->Q q.2 {s with toks:=s.toks+kn.draws k})
 (h2:atKey C k=ab->∀h',h'.DictOfH kn d (storedH C k b dv)->ga d s.heap h'->Q dv {s with heap:=h',toks:=s.toks+kn.draws k}):
  wpAny (model prog w) A (dictSetDefault d (.ref b) dv) Q V4 s:=by
 have(r,l,ep,go,n,a,el,all,nd):=hm;unfold dictSetDefault
 try with_reducible show jB ?_
 show aj (kn.pyHash i f ?_);show aj (wpAny_dictFind_heap i f go a el all nd (λno=>?_) λj q h=>?_)
 .have p:=not_mem_keys_of_get no;have z:=atKey_none_of_get no
  show aj (kZ (aj (wpAny_updateDictKeys (hz:=by have e:=size_of_entries el; lia) go a (aD (h2 z _ (_,_,ep + 1,oj _ go (Obj.isFreed_of_dict (Obj.data_mapDictKeys a _)),
   n.mapDictKeys _,Obj.data_mapDictKeys a _,?_,?_,?_) (om ..))))))
  .rw[storedH_new z];simp[el,entryOfKey]
  .rw[storedH_new z];intro y c
   rcases bu.mp c with c |c
   .show kn.keeps (all y c) go a (om ..)
   .rw[bw.mp c];show kn.keeps f go a (om ..)
  .rw[storedH_new z,a9,e8];show(nd,b7.mpr (dq,fJ),λy c u g e=>?_);rw[bw.mp g]at e;show p ((show y=k from e)▸c)
 .show aj (wpAny_dictEntries go a ?_);rw[entry_at el j,h];show aj (kZ (aD (m q (atKey_of_get nd h))))
def QA(kn:HeapKind prog w K)(d b:Addr)(hd:(d==gZ)=af)(dv:Value):
  MeetsIn prog w (eK.«dict.setdefault» ([.ref d,.ref b,dv],[])) (λA R s=>kn.room A.in1/\∃ k C,kn.is s.heap k b/\s.heap.DictOfH kn d C/\C.length<=aS /\
   (∀q,atKey C k=aa q->R (.ok (.ret q.2)) {s with toks:=s.toks+kn.draws k}) /\
   (atKey C k=ab->∀h',h'.DictOfH kn d (storedH C k b dv)->ga d s.heap h'->R (.ok (.ret dv)) {s with heap:=h',toks:=s.toks+kn.draws k})):=
 .of_wp λA R s i=>by
  have(h,k,C,f,hm,hz,e,h2):=i;show aj ?_;show aj (wpAny_notOrdered_dict hm.typeIs ?_);show aD ?_;change wpAny _ _ (if _=ac then _ else _) _ _ s;rw[hd,if_neg (λz=>nomatch z)];show aj (Qz h f hm hz (λq g=>aD (q.2,rfl,e q g)) λhn h' a c=>aD (dv,rfl,h2 hn h' a c))
end
variable{a:Addr}{z:V}{r:Value}{kvs:List (List Key×V)}
def QB{k:List Key}{Q:PRS}(N:A.units+1<cLine)(I:Inv X U E H s)(e:H a=aa (.dT kvs))(n:fm H b k)(T:aB z r)
 (G:∀v u g,cK kvs k=aa v->Inv X U E H g->aB v u->Q u g)(h2:cK kvs k=ab->kvs.length<aS/\∀g,Inv X U E (upd H a (.dT (dL kvs k z))) g->Q r g):
  wpAny (model X.prog X.w) A (call (.builtin "dict.setdefault") [.ref a,.ref b,r]) Q V4 s:=by
 have(J,hd,C,d,l):=EJ I.hok e;show call_meetsIn DM l.typeIs PySem.F.entry_dict_setdefault (PySem.F.args_dict_setdefault_3 _ _ _) (QA _ a b hd r) (qk N,k,C,oC I.hok n,l,by rw[<- oq d];show J,λq j=>?_,λhn h' h M=>?_)
 .have rv:=d.val k;rw[j]at rv
  cases hv:cK kvs k with
  |none=>rw[hv]at rv;show rv.elim
  |some v=>rw[hv]at rv;show G v q.2 _ hv (I.tok _) rv
 .have hv:cK kvs k=ab:=by
   have rv:=d.val k;rw[hn]at rv
   cases hv:cK kvs k with
   |none=>rfl
   |some v=>rw[hv]at rv;show rv.elim
  have(L,j):=h2 hv;have(q,es,ep,f,p,x,y,_,B):=h;have i:(dL kvs k z).length<=aS:=by have:=xL kvs k z;lia
  show j _ (xM I (by rw[e];show ix) M (q,f) (i,hd,_,(d.put k n T).keeps λc ys m=>?_,q,es,ep,f,p,x,y,B));rw[aK (DY m e (λz=>nomatch z))];show m
abbrev GY(d ty e:TE):TE:=λE H Q=>d E H λx H1=>∃a,x=.ref a/\IsD H1 a/\ty E H1 λy H2=>e E H2 λz c=>∃kvs k b,c a=aa (.dT kvs)/\y=.ref b/\fm c b k /\
 (∀v,cK kvs k=aa v->Q v c)/\(cK kvs k=ab->kvs.length<aS/\Q z (upd c a (.dT (dL kvs k z))))
variable{f:Expr}{td ty tx:TE}
def QC{o:Expr}(L:X.A.units+1<cLine)(J:PE X o td)(C:PE X e ty)(G:PE X f tx)(m:M2 X o "setdefault" apos e f cpos):PE X (.Call (.Attribute o "setdefault" apos) [e,f] [] cpos) (GY td ty tx):=by
 intro U s E H Q I h;show wpAny_Call_method m.base m.few m.line PySem.F.plainAttrs_dict DM PySem.F.type_dict_setdefault (thn (J U s E H _ I h) λu s1 Y=>?_);have(x,H1,j,rx,a,ex,d,M):=Y;subst ex;obtain rfl:u=eM a:=rx;have(t1,t2,_):=EM j d;show(t1,t2,?_);rw[m.trees];show wM rfl (wN (iX (thn (C U s1 E H1 _ j M) λiv s2 g=>?_)));have(y,H2,q,ry,N):=g;show iX (thn (G U s2 E H2 _ q N) λfv s3 i=>wO ?_);have(z,p,r,n,kvs,k,b,w,B,tk,T,l):=i;subst B;cases (ry);show QB L r w tk n (λv u s4 hv c ru=>(v,p,c,ru,T v hv)) λhn=>((l hn).1,λs4 c=>(z,_,c,n,(l hn).2))
abbrev O.apdK(o:O)(k:List Key)(d:D):Option O:=match o with
 |.dT ks os=>match aT k ks with
  |some j=>(os[j]?).bind λo1=>(o1.appd d).map λo2=>.dT ks (os.set j o2)
  |none=>if ks.length<16777216 then aa (.dT (ks++[k]) (os++[.lst [.fz d]])) else ab
 | _=>ab
abbrev pA(i j:Nat)(p:Xp)(g:MF1)(M:LS):Option Fl:=(p M).bind λq=>(g M).bind λy=>(kz y).bind λk=>(ae j M).bind λd=>(q.1.apdK k d).map λo2=>.nx (M.set i (.deep (q.2 o2)))
def QD{jv:Nat}(h:PS X st (mE (tBM X.K "list" tS (GY (tDP (Gx c X) i p) (tD (Gx c X) g) (xz hU)) (i7 (cQ jv) hU)))):DS c X st (pA i jv p g):=PS.imp h λV4 E H q_=>by
 have(Hf0,H0,Hf,M,o,Q,B,kq):=q_;have(q,e1,B):=bd B;have(y,e2,B):=bd B;have(k,e3,B):=bd B;have(d,e4,B):=bd B;have(o2,m,B):=dQ B;subst B;have(w,ew,rw0):=Q.imm (EX e4);show(Hf0,H0,Hf,M,q.1,q.2,Q,e1,λt v fp v1 f1 b3 H1 es ev x rt F=>?_)
 cases h1:q.1 with
 |dT ks os=>
  rw[h1]at m F;have(a,vs,fs,rfl,ha,hz,L,rfl):=id F.r;show(a,rfl,.inr (_,.inl ha),Hf0,H0,b3,M,y,Q.step x,e2,λu bm H2 C r2=>(cj _,λl N=>?_));have(b,eb,tk):=rp e3 r2;subst eb;have x3:Ext bm H2 bm (upd H2 l (.lst [])):=Ext.tmp C.s N;have A:=C.trans x3;have xa:=x.trans A;show(ks.zip vs,k,b,(A.h _ _ ha),rfl,tk.same (C.s.trans x3.h),λv2 G=>?_,λhn=>?_)
  .cases I:aT k ks with
   |none=>rw[rq vs I]at G;nomatch G
   |some j=>
    replace m:(match aT k ks with |some j=>(os[j]?).bind λo1=>(o1.appd d).map λo2=>O.dT ks _ |none=>if ks.length<16777216 then aa _ else ab)=aa o2:=m
    simp only[I]at m;have(ok,eo,m):=bd m;have(on,ea,m):=dQ m;subst m;have(v3,f3,ev3,F4):=Foc.root (W:=.dT ks) ha rfl L F.n eo λHf' H' os' fs' ha' r _=>(a,vs,fs',rfl,ha',hz,r,rfl);rw[pi vs I,ev3]at G;cases G;have F5:=(F.trans F4).up A.f A.h;have(l2,us,el,ql,hz2,lm,next):=GH ea F5.r;subst el;show(.inl (rfl,_,SqL.of ql),w,ew,l2,us,w,rfl,rfl,ql,by rw[du];show hz2,kq E bm _ xa.f ?_)
    have:=Q.foc es ev (rt.up A.f A.h) xa F5 (λb u J hn=>by rw[aK (λz=>hn (by rw[z];show lm))];show J)
     (next bm _ w F5.n (aq.refl _) (λb u J e=>by rw[aK J];show e) a8 (rw0.up xa.f)) F5.n λa ha=>.inl ha
    show this
  .cases I:aT k ks with
   |some j=>
    rw[pi vs I]at hn;have:=zc I;rw[List.getElem?_eq_none_iff]at hn
    lia
   |none=>
    replace m:(match aT k ks with |some j=>(os[j]?).bind λo1=>(o1.appd d).map λo2=>O.dT ks _ |none=>if ks.length<16777216 then aa _ else ab)=aa o2:=m
    rw[I]at m;replace m:(if ks.length<16777216 then aa _ else ab)=aa o2:=m;split at m
    .rename_i hlt;cases m;have nal:=fq (C.h _ _ ha) N
     have lf:∀g,g∈fp->g≠l:=λg U z=>by
      have:=Q.was es ev x rt g U;subst z;show this ((x.h.trans C.h).free N)
     have Y:upd (upd H2 l (.lst [])) a (.dT (dL (ks.zip vs) k (.ref l))) l=aa (.lst []):=by rw[aK nal.symm,a8]
     show(by rw[du,nW];lia,.inl (rfl,_,SqL.of Y),w,ew,l,[],w,rfl,rfl,Y,by rw[du];show qh _,kq E bm _ xa.f ?_);have xb:=x.trans C;have T:=F.up C.f C.h
     have keep:∀b u,b≠a->H2 b=aa u->upd (upd (upd H2 l (.lst [])) a (.dT (dL (ks.zip vs) k (.ref l)))) l (.lst ([]++[w])) b=aa u:=λb u J e=>by
      have nb:=fq e N;rw[aK nb,aK J,aK nb];show e
     have(kvs,ql',hkv,hv,lm,nw):=GX T.r T.n I (aq.refl _) keep;rw[C.h _ _ ha]at ql';cases ql';show Q.foc es ev (rt.up C.f C.h) xb T (λb u J hn=>keep b u (λz=>hn (by rw[z];show lm)) J) (nw (by rw[aK nal,a8]) (l,[w],[],rfl,a8,OTs.one (rw0.up xb.f,rfl),rfl)) (e8.mpr (T.n,b7.mpr (dq,fJ),λg U g' hg' z=>by rw[bw.mp hg']at z;show lf g (T.sub g U) z)) λg U=>?_
     rcases bu.mp U with y |y
     .show .inl y
     .rw[bw.mp y];show .inr (xb.h.free N,xb.s.free N)
    .nomatch m
 | _=>rw[h1]at m;nomatch m
def zi{f:Str}{v:V}:∀{ns:LSt} {vs:LVv} {k:Nat},ns.length=vs.length->aT f ns=aa k->c7 f v (ns.zip vs)=ns.zip (vs.set k v)
 | [],_,_,_,h=>by cases h
 | _::_,[],_,hl,_=>by cases hl
 |n::ns,u::vs,k,hl,h=>by
  dsimp only[aT]at h;rw[e7];dsimp only[c7];split at h
  .rename_i e;cases h;simp only[if_pos e,sU,e7]
  .rename_i e;rw[if_neg e]
   cases h':aT f ns with
   |none=>rw[h']at h;cases h
   |some j=>
    rw[h']at h;cases h;simp only[qd,e7,zi (by simpa using hl) h']
def GZ{f:Str}{v:V}:∀{ns:LSt} {vs:LVv},ns.length=vs.length->aT f ns=ab->c7 f v (ns.zip vs)=(ns++[f]).zip (vs++[v])
 | [],[],_,_=>rfl
 | [],_::_,hl,_=>by cases hl
 | _::_,[],hl,_=>by cases hl
 |n::ns,u::vs,hl,h=>by
  dsimp only[aT]at h;rw[e7];dsimp only[c7];split at h
  .cases h
  .rename_i e;rw[if_neg e]
   cases h':aT f ns with
   |none=>simp only[kM,kM,e7,GZ (by simpa using hl) h']
   |some j=>rw[h']at h;nomatch h
abbrev O.setF(o:O)(cn f:Str)(x:O):Option O:=match o with
 | .ins c ns os=>if c=cn/\ns.length < 1000 then (match aT f ns with
  |some k=>aa (.ins c ns (os.set k x))
  |none=>aa (.ins c (ns++[f]) (os++[x]))) else ab
 | _=>ab
abbrev eB(i:Nat)(cn f:Str)(p:Xp)(g:LS->Option O)(M:LS):Option Fl:=(g M).bind λx=>(p M).bind λq=>(q.1.setF cn f x).map λo2=>.nx (M.set i (.deep (q.2 o2)))
def OTs.len{G:Gc}{Hf H:Hp}:∀{os:List O} {vs:LVv} {fs:LAd},OTs G Hf H os vs fs->os.length=vs.length
 | [],_,_,h=>by rw[h.1];rfl
 |o::os,_,_,(v,r,f1,f2,e,_,h2,_)=>by subst e;simp[OTs.len h2]
def G0{g:LS->Option O}(cn:Str)(hc:Cls X.K (c cn))(hn:cJ X.K (c cn) fl)(hp:PS X st (El X.K (tDP (Gx c X) i p) (tDZ (Gx c X) ac g) fl)):DS c X st (eB i cn fl p g):=PS.imp hp λV4 E H q_=>by
 have(Hf0,H0,Hf,M,o,J,A,kq):=q_;have(x,e1,A):=bd A;have(q,e2,A):=bd A;have(o2,j,A):=dQ A;subst A;show(Hf0,H0,Hf,M,x,J,e1,λu gp b3 H1 x1 rx l=>(Hf0,H0,b3,M,q.1,q.2,J.step x1,e2,λt v fp v1 f1 bm H2 es T Q rt F=>?_));have m:=x1.trans Q
 have hg:∀b∈gp,H b=ab/\bm b=ab:=λb d=>by
  show((l.2 b d).1,?_);have(w,hw,ht):=OT.memM x u gp rx b d;rw[Q.n b w hw ht];show(l.2 b d).2
 have ng:=λb d hf=>(J.was es T m rt) b hf (hg b d).1
 cases h1:q.1 with
 |ins c' ns os=>
  rw[h1]at j F;replace j:(if c'=cn/\ns.length<1000 then _ else ab)=aa o2:=j;split at j
  .rename_i hcc;have(rfl,hlt):=hcc;have(a,dx,vs,fs,rfl,ha,hz,L,rfl):=id F.r;have(N,G):=b7.mp F.n;have B:=λz=>ng a z (F.sub a az);show(a,_,dx,ns.zip vs,rfl,ha,hc,hn,by rw[nW];lia,kq E bm _ m.f ?_);have keep:∀b w,b≠a->H2 b=aa w->upd H2 a (.ins (c c') dx (c7 fl u (ns.zip vs))) b=aa w:=λb w d e=>by rw[aK d];show e
   have I:=(rx.up Q.f Q.h).frame (aq.refl _) λb w d hm=>keep b w (λz=>by
    subst z;rw[ha]at d;cases d
    rcases hm with hm |hm
    .nomatch hm
    .show B hm) d
   have kk:∀b w,H2 b=aa w->b∉a::fs->upd H2 a _ b=aa w:=λb w d hn=>keep b w (λz=>hn (by rw[z];show az)) d
   cases C:aT fl ns with
   |some k=>
    rw[C]at j;cases j;have hkl:k<os.length:=by rw[L.len,<- hz];show zc C
    have(vk,fk,evk,_,_,sb,bk):=L.foc G (b6 hkl)
    have (U,r',m',n'):=bk bm _ x u gp (aq.refl _) (λb w d hm _=>keep b w (λz=>by
     subst z;rw[ha]at d;cases d
     rcases hm with hm |hm
     .nomatch hm
     .show N hm) d) I
    show J.foc es T rt m F kk (a,dx,vs.set k u,U,rfl,by rw[a8,zi hz C],by simp[hz],r',rfl) (b7.mpr (λz=>?_,n' l.1 λb d hf=>absurd (F.sub b (bh _ hf)) (ng b d))) λb d=>?_
    .rcases m' a z with y |⟨y,_⟩
     .show B y
     .show N y
    .rcases aZ.mp d with z |z
     .rw[z];show .inl az
     .rcases m' b z with y |⟨y,_⟩
      .show .inr (hg b y)
      .show .inl (bh _ y)
   |none=>
    rw[C]at j;cases j;show J.foc es T rt m F kk (a,dx,vs++[u],fs++gp,rfl,by rw[a8,GZ hz C],by simp[hz],((L.stay ha rfl N (aq.refl _) keep).append (.one I)),rfl) (b7.mpr (λz=>?_,e8.mpr (G,l.1,λb d b' Y z=>by subst z;show ng b Y (F.sub b (bh _ d))))) λb d=>?_
    .rcases bu.mp z with y |y
     .show N y
     .show B y
    .rcases aZ.mp d with z |z
     .rw[z];show .inl az
     .rcases bu.mp z with y |y
      .show .inl (bh _ y)
      .show .inr (hg b y)
  .nomatch j
 | _=>rw[h1]at j;nomatch j
nonrec def MTf:=Addr->LD->O->Option (O×D)
abbrev ic(G:Gc)(n:Nat)(m:MTf):Sp:=λvs H Q _=>∃Hf ds o o' d l fp b,vs=.ref l::b/\aq Hf H/\OT G Hf H o (.ref l) fp/\fp.Nodup/\(∀a∈fp,Hf a=ab)/\am G Hf ds b/\1+ds.length=n/\m l ds o=aa (o',d,) /\
 ∀v Hf' H' fp',Ext Hf (gL H fp) Hf' H'->OT G Hf' H' o' (.ref l) fp'->fp'.Nodup->(∀a∈fp',gL H fp a=ab/\Hf' a=ab)->Rep G Hf' d v->Q v H'
abbrev uM(N:Nat)(l:Addr)(ds:LD)(o:O):LS:=(fR N (.non::ds)).set 0 (.deep (.at l o))
open Classical in
abbrev nr(l:Addr)(M:LS):Option O:=match (M[0]?:Option Sl)with
 |some (Sl.deep (.at l' o))=>if l'=l then aa o else ab
 | _=>ab
def QE{o:O}(h:nr l M=aa o):M[0]?=aa (.deep (.at l o)):=by
 unfold nr at h
 grind
def G1{o:O}(h:M[0]?=aa (.deep (.at l o))):nr l M=aa o:=by
 unfold nr;rw[h];show if_pos rfl
abbrev d4(N:Nat)(F:MF3):MTf:=λl ds o=>(F (uM N l ds o)).bind λr=>match r with
 |.nx M=>(nr l M).map λo'=>(o',.non,)
 |.rtS d M=>(nr l M).map λo'=>(o',d,)
 | _=>ab
def ar.startMT{o:O}{b:LVv}(f:aq Hf H)(e:OT G Hf H o (.ref l) fp)(n:fp.Nodup)(c:∀a∈fp,Hf a=ab)(r:am G Hf ds b):
  ar G Hf (gL H fp) Hf H (L2.start N (.ref l::b)) (uM N.length l ds o):=by
 show(ar.start (GK f c) (.cons (d:=.non) rfl r)).setNew (i:=0) (Ext.grow (GK f c) P6) (.ref l,fp,rfl,(rfl,e),n,λa ha=>(y7 ha,c a ha)) λa p=>by
  have(fp',g,ha):=p;have:=OT.funM o _ fp fp' e g.2;subst this;show y7 ha
variable{f:Addr}
def gm{k:Nat}{F:MF3}(B:Fun K x qual st f fd)(S:aC N ps (au st))
 (h:∀(cdv:Value) (A:b8) (outer:List Env) (s:ah) (H:Hp) (V4:XK),bv k (A.deeper (f7 qual (au st) s.heap.objs.size f cdv))->DSs c (iz CX0 P w K mg base N qual (au st) f cdv A outer s H V4).nox (fP st) F)(i:N.length=n_:=by rfl):
  cv P w K mg base CX0 (k+1) f fd ps (ic (K,c) ps.length (d4 n_ F)):=by
 subst i;show B.ok S (λvs H Q V4 j=>by have(Hf,ds,o,o',d,l,fp,m,g,y,q,n,p,r,hn,_):=j;rw[g,cr,<- r.length];lia) λcdv A outer s H vs Q V4 hr j=>?_;have(Hf,ds,o,o',d,l,fp,m,g,y,q,n,p,r,hn,e,E):=j;show(_,h cdv A outer s H V4 hr,?_);subst g;unfold d4 at e
 cases b:F _ with
 |none=>rw[b]at e;nomatch e
 |some z=>
  rw[b,ay]at e;show(Hf,gL H fp,Hf,_,z,ar.startMT y q n p r,b,?_)
  have fin:∀M d',(nr l M).map (λo'=>(o',d',))=aa (o',d,)->∀v σ' Hf' H',ar (K,c) Hf _ Hf' H' σ' M->Rep (K,c) Hf' d' v->Q v H':=λM d' e v σ' Hf' H' a rv=>by
   have(t,C,e):=dQ e;cases e;have(u,J,T,fp',L,rt,G,I):=a.slot (QE C);cases rt.1;show E v Hf' H' fp' a.ext rt.2 G I rv
  cases z with
  |nx M=>show λσ' Hf' H' _ a=>fin M .non e .non σ' Hf' H' a rfl
  |rtS d' M=>show λv σ' Hf' H' a rv=>fin M d' e v σ' Hf' H' a rv
  | _=>nomatch e
def ar.treeBack{o o':O}{fp':LAd}(n:ar G Hf0 H0 Hf H E M)(es:M[i]?=aa (.deep o))(e:E[i]?=aa (aa v))(r:OT G Hf H o v fp)(x:Ext Hf (gL H fp) Hf' H')(f:OT G Hf' H' o' v fp')(l:fp'.Nodup)(d:∀a∈fp',gL H fp a=ab/\Hf' a=ab):ar G Hf0 H0 Hf' H' E (M.set i (.deep o')):=by
 have s1 : ar G Hf0 H0 Hf (gL H fp) E (M.set i .no):=n.chg es e (λb y j=>by
  by_cases c:b∈fp
  .show .inl (fp,r,c)
  .show .inr (by rw[uI c];show j)) trivial λa p=>(p.calm rfl).elim
 have s2:=s1.setNew (i:=i) (s:=.deep o') x (v,fp',rfl,f,l,λa ha=>(s1.ext.h.free (d a ha).1,(d a ha).2)) λa p=>by
  have(g,m,ha):=p;have:=OT.funM o' v fp' g f m;subst this;show(d a ha).1
 rw[ni e,set_set]at s2;show s2
abbrev O.isIns(cn fl:Str):O->Bool
 |.ins c ns _=>decide (c=cn) && !ns.contains fl
 | _=>af
def zj{cn fl:Str}{o:O}(h:o.isIns cn fl=ac):∃ns os,o=.ins cn ns os/\ns.contains fl=af:=by
 cases o with
 |ins c ns os=>
  replace h:(decide _ && !ns.contains fl)=ac:=h
  simp_all
 | _=>nomatch h
abbrev cG(i:Nat)(cn fl:Str)(m:MTf)(f:Xa):Xe:=λM=>match M[i]? with
 |some (.deep (.at _ o0))=>if o0.isIns cn fl then (f M).bind λp=>match p.2[i]? with
  |some (.deep (.at l o))=>(m l p.1 o).map λq=>(q.2,p.2.set i (.deep (.at l q.1)),)
  | _=>ab else ab
 | _=>ab
open Classical in
abbrev jO(i:Nat)(cn fl:Str)(m:MTf)(f:Xa):Xe:=λM=>match M[i]? with
 |some (.deep o0)=>if o0.isIns cn fl then (f M).bind λp=>match p.2[i]? with
  |some (.deep (.ins c' ns os))=>if h:∃q,∀l,m l p.1 (.ins c' ns os)=aa q then aa (h.choose.2,p.2.set i (.deep h.choose.1),) else ab
  | _=>ab else ab
 | _=>ab
variable{fa:Xa}{m:MTf}{Q:VK}{t:TA}
def G2(cn:Str)(ht:∀E H Q,rj (Gx c X) fa E H Q->t E H Q)(hn:∀M ds ρ',fa M=aa (ds,ρ',)->1+ds.length=ps.length)(q_:tDX (Gx c X) (cG i cn fl m fa) E H Q):tQ (c cn) fl (ic (Gx c X) ps.length m) [] E0 (cQ i) t E H Q:=by
 have(Hf0,H0,Hf,M,d,ρ',st,b,kq):=q_;unfold cG at b;split at b
 .rename_i G o0 p;split at b
  .rename_i hi;have(ns,os,rfl,y):=zj hi;have(pp,B,b):=bd b;have(ds,ρ1):=pp;split at b
   .rename_i l o1 e;have(q,N,b):=dQ b;cases b;have(u,x,u',fp,T,rt,n,z):=st.slot p;subst T;have(el,a,dx,vs,fs,Y,ha,hz,L,efp):=rt;subst el;cases Y;show(_,x,G,dx,ns.zip vs,rfl,ha,oR y,ht _ _ _ (Hf0,H0,Hf,M,ds,ρ1,st,B,λus Hf' H' f1 st1 r=>?_));rw[bQ];have(w,C,w',gp,U,A,n1,z1):=st1.slot e;subst U;rw[x]at C;cases C;have(j,g):=A;cases j;show(Hf',ds,o1,q.1,q.2,G,gp,us,rfl,st1.sub,g,n1,λa ha=>(z1 a ha).2,r,hn _ _ _ B,N,λv h J fp3 I r3 n3 z3 rv=>kq v h J (f1.trans I.f) (st1.treeBack e x (rfl,g) I (rfl,r3) n3 z3) rv)
   .grind
  .grind
 .grind
def QF(cn:Str)(ht:∀E H Q,rj (Gx c X) fa E H Q->t E H Q)(hn:∀M ds ρ',fa M=aa (ds,ρ',)->1+ds.length=ps.length)(q_:tDX (Gx c X) (jO i cn fl m fa) E H Q):tQ (c cn) fl (ic (Gx c X) ps.length m) [] E0 (cQ i) t E H Q:=by
 have(Hf0,H0,Hf,M,d,ρ',st,b,kq):=q_;unfold jO at b;split at b
 .rename_i o0 j;split at b
  .rename_i hi;have(ns,os,rfl,p):=zj hi;have(pp,A,b):=bd b;have(ds,ρ1):=pp;split at b
   .rename_i N x y e;split at b
    .rename_i G;have B:=G.choose_spec;generalize G.choose=q at b B;cases b;have(u,l,u',fp,T,rt,n,z):=st.slot j;subst T;have(a,dx,vs,fs,Y,ha,hz,L,efp):=rt;subst Y;show(_,l,a,dx,ns.zip vs,rfl,ha,oR p,ht _ _ _ (Hf0,H0,Hf,M,ds,ρ1,st,A,λus Hf' H' f1 st1 r=>?_));rw[bQ];have(w,C,w',gp,U,g,n1,z1):=st1.slot e;subst U;rw[l]at C;cases C;show(Hf',ds,.ins N x y,q.1,q.2,a,gp,us,rfl,st1.sub,g,n1,λa ha=>(z1 a ha).2,r,hn _ _ _ A,B a,λv h J fp3 I r3 n3 z3 rv=>kq v h J (f1.trans I.f) (st1.treeBack e l g I r3 n3 z3) rv)
    .nomatch b
   .nomatch b
  .nomatch b
 .nomatch b
def G3{k:Nat}{o:Expr}(cn:Str)(l:PE X o (cQ i))(pk:Pm X.prog X.w X.K X.mg X.base CX0 k (c cn) fl (f,fd,) ps (ic (Gx c X) ps.length m))(g:bv k0 X.A)(ha:DAX c X (e::es) fa)(q:(e::es).length+1=ps.length:=by rfl)(j:StE X e es:=by rfl)(d:BkE X pos es:=by rfl)(n:eval (.Call (.Attribute o fl apos) (e::es) [] pos) X.env=(do
   let ov <- eval o X.env
   gz apos.atName
   let (f,first,) <- eJ [ov] (g4 ov fl pl)
   jD pos f first (ce pos (aN (e::es) X.env)) (iq pos (ip [] X.env))):=by rfl)(a:k<=k0:=by decide):
  DX c X (.Call (.Attribute o fl apos) (e::es) [] pos) (cG i cn fl m fa):=PE.imp (xB l pk.c pk.m pk.ok (g.mono a) pk.b .nil gD ha.pa j d n) λE H Q p=>G2 cn (λ_ _ _ h=>h) (λM ds ρ' h=>by have:=ha.len M ds ρ' h;lia) p
def QG{k:Nat}{o:Expr}(cn:Str)(l:PE X o (cQ i))(pk:Pm X.prog X.w X.K X.mg X.base CX0 k (c cn) fl (f,fd,) ps (ic (Gx c X) ps.length m))(d:bv k0 X.A)(j:1=ps.length:=by rfl)(n:eval (.Call (.Attribute o fl apos) [] [] pos) X.env=(do
   let ov <- eval o X.env
   gz apos.atName
   let (f,first,) <- eJ [ov] (g4 ov fl pl)
   jD pos f first (ce pos (aN [] X.env)) (iq pos (ip [] X.env))):=by rfl)(a:k<=k0:=by decide):
  DX c X (.Call (.Attribute o fl apos) [] [] pos) (cG i cn fl m cz):=PE.imp (xC l pk.c pk.m pk.ok (d.mono a) pk.b .nil gD n) λE H Q e=>G2 cn (λE H Q e=>by have(Hf0,H0,Hf,M,ds,ρ',st,g,k):=e;cases g;show k [] Hf H (aq.refl _) st rfl) (λM ds ρ' h=>by cases h;show j) e
def G4{k:Nat}{o:Expr}(cn:Str)(l:PE X o (cQ i))(pk:Pm X.prog X.w X.K X.mg X.base CX0 k (c cn) fl (f,fd,) ps (ic (Gx c X) ps.length m))(d:bv k0 X.A)(j:1=ps.length:=by rfl)(n:eval (.Call (.Attribute o fl apos) [] [] pos) X.env=(do
   let ov <- eval o X.env
   gz apos.atName
   let (f,first,) <- eJ [ov] (g4 ov fl pl)
   jD pos f first (ce pos (aN [] X.env)) (iq pos (ip [] X.env))):=by rfl)(a:k<=k0:=by decide):
  DX c X (.Call (.Attribute o fl apos) [] [] pos) (jO i cn fl m cz):=PE.imp (xC l pk.c pk.m pk.ok (d.mono a) pk.b .nil gD n) λE H Q e=>QF cn (λE H Q e=>by have(Hf0,H0,Hf,M,ds,ρ',st,g,k):=e;cases g;show k [] Hf H (aq.refl _) st rfl) (λM ds ρ' h=>by cases h;show j) e
open Classical in
abbrev nt(cn:Str)(m:MTf)(fa:MF2)(M:LS):Option O:=(fa M).bind λds=>if h:∃o,∀l,m l ds (.ins cn [] [])=aa (o,.non,) then aa h.choose else ab
variable{bb:Bool}{fa:MF2}
def QH{cn:Str}(hC:V5=G.cl cn)(I:∀E H Q,tDA G fa E H Q->t E H Q)(hn:∀M ds,fa M=aa ds->1+ds.length=ps.length)(T:tDZ G bb (nt cn m fa) E H Q):Eo V5 (ic G ps.length m) [] E0 t E H Q:=by
 have(Hf0,H0,Hf,M,o,st,c,L):=T;have(ds,x,c):=bd c;split at c
 .rename_i B;have A:=B.choose_spec;generalize B.choose=o' at c A;cases c;show I _ _ _ (Hf0,H0,Hf,M,ds,st,x,λvs b3 H1 d r y dx p i j=>?_);rw[bQ];subst hC;have J:(upd H1 dx (.own y)) y=ab:=by rw[aK j.symm];show p
  have s1:aq H1 (upd H1 dx (.own y)):=bP i;have s2:=s1.trans (bP (o:=.ins (G.cl cn) dx []) J)
  have w:aq H1 (gL _ [y]):=λb u q=>by
   rw[uI (λz=>fq q p (bw.mp z))];show s2 b u q
  show(b3,ds,.ins cn [] [],o,.non,y,[y],vs,rfl,d.s.trans s2,(y,dx,[],[],rfl,a8,rfl,(rfl,rfl),rfl),b7.mpr (dq,fJ),λa ha=>by rw[bw.mp ha];show d.s.free p,r,hn M ds x,A y,λv bm H2 g e U N C rv=>(rv,?_));have Y:Ext b3 H1 bm H2:=(e.f,w.trans e.h,e.s,λl u q t=>e.n l u (w l u q) t);show L _ g bm H2 (d.trans Y) U (N,λa ha=>(y6 st.ext.h (d.h.free (w.free (C a ha).1)),(C a ha).2))
 .nomatch c
variable{p:Pos}
def QI{k:Nat}(cn:Str)(d:Mk X.K (c cn) f)(F:cv X.prog X.w X.K X.mg X.base CX0 k f fd ps (ic (Gx c X) ps.length m))(hr:bv (k+1) X.A)(j:Gl X x)(hm:X.mg x=aa (.ref (c cn)))(g:dS X.K fd ps [])(ha:DA c X (e::es) fa)
 (n:(e::es).length+1=ps.length:=by rfl)(a:NDb x:=by decide)(i:StE X e es:=by rfl)(b:BkE X pos es:=by rfl):
  DZ c X bb (.Call (.Name x p) (e::es) [] pos) (nt cn m fa):=PE.imp (Ep d F hr j hm g .nil gD ha.pa a i b) λE H Q l=>QH rfl (λ_ _ _ h=>h) (λM ds h=>by have:=ha.len M ds h;lia) l
def hu1{u:Nat}(h:u+64<cLine):u+1<cLine:=l9 (Nat.add_le_add_left (by decide) u) h
def G5{f:MF2}(h:DL c X e f):DIe c X tg e f:=PI.imp (xl h) λE H R d=>by
 have(Hf0,H0,Hf,M,ds,st,b,k):=d;show(Hf0,H0,Hf,M,ds,st,b,λl vs Hf' H' x a r=>(l,rfl,(vs,SqL.of a),k _ Hf' H' x (Fw (SqL.of a) r)))
abbrev uN(f:MF2)(M:LS):OLD:=(f M).map (iG 0)
variable{a:Expr}
def QJ{f:MF2}(L:Gl X "enumerate")(hm:X.mg "enumerate"=ab)(ha:DL c X a f)(w:aN [a] X.env=[(af,eval a X.env,)]:=by rfl):
  DIe c X (.Tuple elts kx gw) (.Call (.Name "enumerate" p) [a] [] pos) (uN f):=PI.imp (FO L hm (eO ha dZ w) w) λE H R N=>by
 have(Hf0,H0,Hf,M,ds,st,g,k):=N;have(C,A,g):=dQ g;subst g;show(Hf0,H0,Hf,M,C,st,A,λl vs Hf' H' x q r=>(l,rfl,(vs,SqL.of q),k _ Hf' H' x λbm H2 e i=>?_));have j:SqL X.K H2 l vs:=SqL.of (e.h _ _ q);have Y:=r.length;show(λd b=>?_,λG=>(vs,j,by rw[yw]at G;lia));rw[yx]at b;have(y,I,b):=dQ b;subst b;have(u,n,ru):=r.get I;show((vs,u,j,n),λz U T=>?_);have(pp,z1,J,v,B,Q):=T;subst J B;have m:=Q vs j;rw[n]at m;cases m;show(upd bm pp _,Ext.new e.s v,pp,_,rfl,a8,.cons (by rw[kP];rfl) (.cons (ru.up (e.f.trans (bP (e.s.free v)))) .nil))
def QK:DZ c X bb (.Dict [] [] pos) (λ_=>aa (.dT [] [])):=PE.imp MF λE H Q d=>by
 have(Hf0,H0,Hf,M,o,st,b,k):=d;cases b;intro l a;show k _ [l] Hf _ (Ext.tmp st.sub a) (l,[],[],rfl,a8,rfl,(rfl,rfl),rfl) (.one (y6 st.ext.h a) (st.sub.free a))
end L2
namespace HT
open List
open PySem PyProof.Rows
open PySem.SeqAt
open PySem.AutoSeq1 (wpAny_loadPart')
open PySem.MeetsSeq PySem.MeetsSeq2 PySem.MeetsSeq3
def QL(l:Addr)(B:Array Value)(n:Nat)(x:Value)(f:Value->Bool)(j:Nat)(p:j<B.size)(q:f B[j]=ac)(hz:B.size<=aS)(k:Nat):
  ∀i:Nat,j-i=k->i<=j->(∀m (hm:m<B.size),i<=m->m<j->f B[m]=af)->Meets (eK.«list.remove.loop» ([.ref l,x,cm i],[]))
   (λA R s=>s.heap.get? l=aa {cls:=.type "list",dict:=ab,data:=.seq B n,slots:=#[]}/\(∀y,y∈B->EqAt A.in1 s y x (f y))/\R (.ok (.ret .none)) {s with heap:=s.heap.update l (g8 λC=>C.eraseIdxIfInBounds j)}):=by
 induction k with
 |zero=>
  intro i r e b prog w A R s h;have(c,d,h):=h;obtain rfl:i=j:=by lia
  wp_walk using sZ c
  rw[show B[(_:Int).toNat]?=aa B[i] by simp[p]];show aj (d _ (Array.getElem_mem p) prog w _ _ ?_);have g:(B.eraseIdxIfInBounds i).size<=aS+1:=cN (size_erased B _) (Nat.le_succ_of_le hz)
  wp_walk using (tj c rfl (_hz':=g)),sZ c
  show h
 |succ k u=>
  intro i r e b prog w A R s h;have(c,d,h):=h;have a:i<B.size:=by lia
  wp_walk using sZ c
  rw[show B[((i:Nat):Int).toNat]?=aa B[i] by simp[a]];show aj (d _ (Array.getElem_mem a) prog w _ _ ?_);rw[b i a (aL _) (by lia)]
  wp_walk
  show (mh plain_remove_loop _,j5 entry_remove_loop (by
   show u (i+1) (by lia) (by lia) (λm hm v h2=>b m hm (by lia) h2) prog w A R _ (c,d,h)))
def remAt(l:Addr)(B:Array Value)(n:Nat)(x:Value)(f:Value->Bool)(j:Nat)(e:j<B.size)(a:f B[j]=ac)(b:∀m (hm:m<B.size),m<j->f B[m]=af)(hz:B.size<=aS):Meets (eK.«list.remove» ([.ref l,x],[]))
   (λA R s=>s.heap.get? l=aa {cls:=.type "list",dict:=ab,data:=.seq B n,slots:=#[]}/\(∀y,y∈B->EqAt A.in1 s y x (f y))/\R (.ok (.ret .none)) {s with heap:=s.heap.update l (g8 λC=>C.eraseIdxIfInBounds j)}):=by
 intro prog w A R s h;have(c,d,h):=h
 wp_walk using sZ c
 show (mh plain_remove_loop _,j5 entry_remove_loop (by
  show QL l B n x f j e a hz _ 0 rfl (cj _) (λm hm _ h2=>b m hm h2) prog w A R _ (c,d,h)))
end HT
namespace L2
open List
open PySem PySem.Spec PyProof.Rows
abbrev G6(G:Gc):V->LVv->Hp->VK->Prop:=λa vs H Q=>∃Hf l us ds x w,a=.ref l/\vs=[w]/\aq Hf H/\H l=aa (.lst us)/\am G Hf ds us/\Rep G Hf x w/\di x ds=aa ac/\Q .non (upd H l (.lst (us.eraseIdx (ds.findIdx (isE x)))))
abbrev O.remd(x:D)(o:O):Option O:=o.items.bind λds=>if di x ds=aa ac then aa (.lst ((ds.eraseIdx (ds.findIdx (isE x))).map .fz)) else ab
abbrev pE(i:Nat)(p:Xp)(f:MF1)(M:LS):Option Fl:=(p M).bind λq=>(f M).bind λd=>(q.1.remd d).map λo2=>.nx (M.set i (.deep (q.2 o2)))
variable{c:Str->Addr}{X:Cx}
def QM(hu:X.A.units+64<cLine):MtM X "list.remove" (G6 (Gx c X)):=by
 rintro U s E H x C v us Q I rx rv ⟨Hf,l,vs,ds,z,w,rfl,rfl,G,q,L,r2,a,k⟩;subst rx;have(u,rfl,ru):=rv.one;have(z1,B,n,j,N,e0):=I.lstM q;have(f,J,ha):=qZ (A:=X.A.in1) I (by rw[qr];lia) (r2.up G) ru (L.up G) j a;have(k1,k2):=y9 a
 have same:∀m _,f B[m]=isE z (ds.getD m .non):=λm hm=>by
  have i:m<ds.length:=by rw[L.length,N];show hm
  have(v1,g,r):=L.get (b6 i);have(u1,b,ru1):=j.get g;rw[b6 hm]at b;cases b;have(_,d',v',r',p,h'):=J B[m] (ij hm);have Y:=aB.inj p ru1;subst Y;have(T,d):=k1 ds[m] (ij i);rw[bH,b6 i];change _=isE z ds[m];unfold isE;rw[d,(qY 19 r' (r.up G) h' d)]
  cases T <;> rfl
 have M:=wx (any_eq_true.mp k2);have e:ds.findIdx (isE z)<B.length:=by rw[<- N,<- L.length];show M
 show call_meets F.slot_list_remove (_,e0,rfl) F.entry_list_remove (F.args_list_remove_2 _ _) (HT.remAt l B.toArray n u f _ (by rw[size_toArray];show e) ?_ ?_ (by rw[size_toArray];lia)) (e0,λy hy=>(J y (by simpa using hy)).1,?_)
 .rw[sP,same _ e,bH,b6 M];show findIdx_getElem
 .intro m hm h;rw[sP,same m (by rw[size_toArray]at hm;show hm),bH,b6 _];have:=not_of_lt_findIdx h;show this
 .show(.non,_,I.lset q e0 ?_ (j.eraseIdx _) ?_,rfl,k)
  .change B.toArray.eraseIdxIfInBounds _=(B.eraseIdx _).toArray;rw[eraseIdxIfInBounds_toArray]
  .have:=xH vs (ds.findIdx (isE z))
   lia
variable{st:Stmt}{i:Nat}{p:Xp}
def QN{f:MF1}(h:PS X st (mE (tBM X.K "list" (G6 (Gx c X)) (tDP (Gx c X) i p) (i7 (tD (Gx c X) f) hU)))):DS c X st (pE i p f):=PS.imp h λV4 E H q_=>by
 have(Hf0,H0,Hf,M,o,C,g,kq):=q_;have(q,N,g):=bd g;have(d,Q,g):=bd g;have(o2,y,g):=dQ g;subst g;have(ds,T,y):=bd (y);split at y
 .rename_i A;cases y;show(Hf0,H0,Hf,M,q.1,q.2,C,N,λt v fp v1 f1 B H1 es U x rt F=>?_);have J:=F.r;rw[rA T]at J;have(l,us,fs,rfl,I,L,j):=J;have(rd,rfl):=L.unfz;show(.inl (rfl,_,SqL.of I),Hf0,H0,B,M,d,C.step x,Q,λw m H2 e r2=>?_);show(m,l,us,ds,d,w,rfl,rfl,e.s,e.h _ _ I,rd.up e.f,r2,A,kq E m _ (x.trans e).f ?_);have G:=F.up e.f e.h
  have:=C.foc es U (rt.up e.f e.h) (x.trans e) G (λb u Y hn=>by rw[aK (λz=>hn (by rw[j,z];show az))];show Y)
   (o2:=.lst ((ds.eraseIdx (ds.findIdx (isE d))).map .fz)) (l,_,[],rfl,a8,OTs.fz ((rd.up e.f).erase _),rfl) (by rw[<- j];show G.n) λa ha=>.inl (by rw[j];show ha)
  show this
 .nomatch y
abbrev ie(cn f:Str)(m:LD->OLD)(fo:MF1)(fa:MF2)(M:LS):OLD:=(fo M).bind λd=>match d with
 |.ins a ns ds=>if a=cn/\ns.contains f=af then (fa M).bind λas=>(m (.ins a ns ds::as)).bind λL=>if L.all D.flat then aa L else ab else ab
 | _=>ab
abbrev G7:Fl->Option (LD ⊕ D)
 |.rtO ds=>aa (.inl ds)
 |.rt d=>if d.scalar then aa (.inr d) else ab
 | _=>ab
abbrev zk(n:Nat)(F:MF3)(ds:LD):Option (LD ⊕ D):=(F (fR n ds)).bind G7
abbrev spN(G:Gc)(n:Nat)(m:LD->Option (LD ⊕ D)):Sp:=λvs H Q _=>∃Hf ds r,aq Hf H/\am G Hf ds vs/\ds.length=n/\m ds=aa r/\(∀L,r=.inl L->∀l us Hf' H',Ext Hf H Hf' H'->H l=ab->Hf' l=ab->H' l=aa (.lst us)->am G Hf' L us->Q (.ref l) H') /\
 ∀d,r=.inr d->d.scalar=ac/\∀v Hf' H',Ext Hf H Hf' H'->Rep G Hf' d v->Q v H'
variable{P:cb}{w:World}{K:aQ}{mg:MGT}{base:Heap}{n_:Nat}{x qual:Str}{f:Addr}{fd:cO}{N ps:LSt}
def QO{k:Nat}{F:MF3}(j:Fun K x qual st f fd)(S:aC N ps (au st))
 (h:∀(cdv:Value) (A:b8) (outer:List Env) (s:ah) (H:Hp) (V4:XK),bv k (A.deeper (f7 qual (au st) s.heap.objs.size f cdv))->DSs c (iz CX0 P w K mg base N qual (au st) f cdv A outer s H V4).nox (fP st) F)(a:N.length=n_:=by rfl):
  cv P w K mg base CX0 (k+1) f fd ps (spN (K,c) ps.length (zk n_ F)):=by
 subst a;show j.ok S (λvs H Q V4 b=>by have(Hf,ds,d,i,r,g,_):=b;rw[<- r.length];show g) λcdv A outer s H vs Q V4 hr b=>?_;have(Hf,ds,r,i,rd,g,e,m,n):=b;show(_,h cdv A outer s H V4 hr,?_);have(o,l,e):=bd e;show(Hf,H,Hf,_,o,ar.start i rd,l,?_)
 cases o with
 |rtO L=>cases e;show m L rfl
 |rt d=>
  replace e:(if d.scalar then aa _ else ab)=aa r:=e;split at e
  .cases e;show(n d rfl).2
  .nomatch e
 | _=>nomatch e
abbrev pG(m:LD->Option (LD ⊕ D))(f:MF2)(M:LS):OD:=(f M).bind λds=>(m ds).bind λr=>match r with
 |.inl L=>if L.all D.flat then aa (.lst L) else ab
 |.inr d=>if d.scalar then aa d else ab
variable{e:Expr}{es:LEx}{p pos:Pos}{fa:MF2}{k0:Nat}
def QP{k:Nat}{m:LD->Option (LD ⊕ D)}(pk:Pk X.prog X.w X.K X.mg X.base CX0 k x (f,fd,) ps (spN (Gx c X) ps.length m))(J:bv k0 X.A)(ha:DAB c X (e::es) fa)(hl:(e::es).length=ps.length:=by rfl)(C:NDb x:=by decide)(he:StE X e es:=by rfl)(I:BkE X pos es:=by rfl)(G:k<=k0:=by decide)(hg:Gl X x:=by first |rfl |exact glc rfl):
  DE c X (.Call (.Name x p) (e::es) [] pos) (pG m fa):=PE.imp (qy pk.ok (J.mono G) hg pk.g pk.kp pk.b .nil gD ha.pa C he I) λE H Q q_=>by
 have(Hf0,H0,Hf,M,d,st,a,U):=q_;have(ds,T,a):=bd a;have(r,Y,a):=bd a;show(Hf0,H0,Hf,M,ds,st,T,λvs Hf' H' x rv=>?_);rw[bQ];show(H',ds,r,aq.refl _,rv,(ha.len M ds T).trans hl,Y,λL B l us z n y hn hf i N=>?_,λd' B=>?_)
 .subst B;replace a:(if L.all D.flat then aa _ else ab)=aa d:=a;split at a
  .rename_i u;cases a;have j:lH Hf' n l=ab:=by rw[o8 (λvs q=>by rw[i]at q;nomatch q)];show x.s.free hn
   show U _ _ n ((x.trans (yX x.s y.h)).fix (x.h.free hn) j i) (l,us,rfl,a8,((N.up y.s).flat u).up (bP j))
  .nomatch a
 .subst B;replace a:(if d'.scalar then aa d' else ab)=aa d:=a;split at a
  .rename_i u;cases a;show(u,λv z n y N=>U v Hf' n (x.trans (Ext.grow x.s y.h)) (N.sc u))
  .nomatch a
variable{fl:Str}{apos:Pos}{fo:MF1}{pl:Sem Bool}
def G8{o:Expr}{k:Nat}{m:LD->OLD}(cn:Str)(ho:DB c X o fo)(pk:Pm X.prog X.w X.K X.mg X.base CX0 k (c cn) fl (f,fd,) ps (spO (Gx c X) ps.length m))(C:bv k0 X.A)(ha:DAB c X (e::es) fa)(hl:(e::es).length+1=ps.length:=by rfl)(G:StE X e es:=by rfl)(B:BkE X pos es:=by rfl)(ht:eval (.Call (.Attribute o fl apos) (e::es) [] pos) X.env=(do
   let ov <- eval o X.env
   gz apos.atName
   let (f,first,) <- eJ [ov] (g4 ov fl pl)
   jD pos f first (ce pos (aN (e::es) X.env)) (iq pos (ip [] X.env))):=by rfl)(y:k<=k0:=by decide):
  DO c X (.Call (.Attribute o fl apos) (e::es) [] pos) (ie cn fl m fo fa):=PE.imp (xB ho pk.c pk.m pk.ok (C.mono y) pk.b .nil gD ha.pa G B ht) λE H Q q_=>by
 have(Hf0,H0,Hf,M,L,st,g,kq):=q_;have(d,e1,j):=bd g;clear g
 cases d with
 |ins I ns ds=>
  have g:(if I=cn/\ns.contains fl=af then (fa M).bind λas=>(m _).bind λL=>if L.all D.flat then aa L else ab else ab)=aa L:=j;split at g
  .rename_i u;have(p,z):=u;subst p;have(as,J,j):=bd g;have(rs',e3,g):=bd j;split at g
   .rename_i hs;cases g;show(Hf0,H0,Hf,M,_,st,e1,λv n H1 T r=>?_);have(a,dx,vs,ev,q,N,rr):=id r;subst ev;show(a,dx,ns.zip vs,rfl,q,oR z,Hf0,H0,n,M,as,st.step T,J,λws bm H2 U r2=>?_);rw[bQ];have x:=T.trans U;show(H2,.ins I ns ds::as,_,aq.refl _,.cons (r.up U.h) r2,by rw[cr,ha.len M as J];show hl,e3,λl us Hf3 H3 Y hn hf i r3=>(kq l us _ H3 (x.trans (yX x.s Y.h)) (x.h.free hn) (by rw[o8 (λvs q=>by rw[i]at q;nomatch q)];show x.s.free hn) i ((r3.up Y.s).flat hs)))
   .nomatch g
  .nomatch g
 | _=>nomatch j
abbrev lM(w pr k:Nat)(js:LN)(g:D->LS->Option LS)(ft:MF4)(fe:MF1):LD->LS->LD->Option (LS×LD)
 | [],M,V2=>aa (M,V2,)
 |b::bs,M,V2=>if V2.length<=16777216 then (eP (gJ g ft fe (iD k js ((M.set pr (.im b)).set w .no))) V2).bind λa=>lM w pr k js g ft fe bs (M.set pr (.im b)) a else ab
abbrev pH(w pr:Nat)(a:MF4)(e d:MF2)(k:Nat)(js:LN)(g:D->LS->Option LS)(ft:MF4)(fe:MF1)(M:LS):Option Fl:=
 (a M).bind λb=>(d (M.set w .no)).bind λbs=>if b=!bs.isEmpty then (if b then e M else aa []).bind λc=>(lM w pr k js g ft fe bs M c).map λp=>.nx (p.1.set w (.own p.2)) else ab
variable{G:Gc}{Hf0 H0 Hf H:Hp}{E:St}{M:LS}{v:V}
def ar.setAny(h:ar G Hf0 H0 Hf H E M):ar G Hf0 H0 Hf H (E.set i (aa v)) (M.set i .no):=h.setNew (Ext.refl h.sub) trivial λa p=>(p.calm rfl).elim
variable{w pr:Nat}{js:LN}{fb:MF2}{g:D->LS->Option LS}{ft:MF4}{fe:MF1}{ρ1:LS}
def G9{k:Nat}(hG:G.K=X.K)(hj:js.Nodup)(hk:∀d M ρ' i,g d M=aa ρ'->k<=i->ρ'[i]?=M[i]?)(C:∀d M ρ',g d M=aa ρ'->ρ'.length=M.length)(L:pr≠w){bs U L1:LD}{V4:i5}{a0:Addr}{r:LVv}
 (st:ar G Hf0 H0 Hf H E (M.set w .no))(hw:w<M.length)(ew:E[w]?=aa (aa (.ref a0)))(ha:H a0=aa (.lst r))(r0:am G Hf U r)(hb:fb (M.set w .no)=aa bs)(fr:bs=[]->ar G Hf0 H0 Hf H E (M.set w (.own U)))
 (el:lM w pr k js g ft fe bs M U=aa (ρ1,L1,))(kq:∀σ' Hf' H',aq Hf Hf'->ar G Hf0 H0 Hf' H' σ' (ρ1.set w (.own L1))->V4.nx σ' H'):
  xm (tDI G fb) (hE pr) (i6 (oH k js (xk X.K (cQ w)) (tDG G g) (tDT G ft) (tD G fe)) (hE w)) V4 E H:=by
 show(Hf0,H0,Hf,_,bs,st,hb,λJ j H1 Q it=>?_)
 show(λi m σ' H'=>m=bs.length-i/\i<=bs.length/\∃Hf' ρ' V2 a vs,ar G Hf0 H0 Hf' H' σ' (ρ'.set w .no)/\w<ρ'.length/\σ'[w]?=aa (aa (.ref a))/\H' a=aa (.lst vs)/\am G Hf' V2 vs/\aq j Hf'/\lM w pr k js g ft fe (bs.drop i) ρ' V2=aa _/\(i=bs.length->ar G Hf0 H0 Hf' H' σ' (ρ'.set w (.own V2))),
  (bs.length,rfl,cj _,j,M,U,a0,r,st.step Q,hw,ew,Q.h _ _ ha,r0.up Q.f,aq.refl _,el,λe=>(fr (sQ.mp e.symm)).step Q),?_)
 rintro i m σ' H' ⟨rfl,hi,Hf',ρ',V2,a,vs,N,hw',A,B,r',s1,b,own⟩;have(it1,it2):=it Hf' H' s1 N.sub i
 by_cases I:i<bs.length
 .have(d,ed,edr):=yo I;have(go,yl):=it1 d ed;rw[edr]at b;unfold lM at b;split at b
  .rename_i hz;have(L',ec,el2):=bd b;show .inr (go,λu c=>bs.length-_=bs.length-_/\i+1<=bs.length/\∃Hf' ρ' V2 a vs,ar G Hf0 H0 Hf' c u _/\w<ρ'.length/\u[w]?=aa _/\c a=aa _/\am G Hf' V2 vs/\aq j Hf'/\lM w pr k js g ft fe _ ρ' V2=aa _/\_,λu c z=>(bs.length-(i+1),by lia,z),λx c y=>?_);have(v,T,rx):=yl x c y
   have n:ar G Hf0 H0 v c (σ'.set pr (aa x)) ((ρ'.set pr (.im d)).set w .no):=by
    have:=(N.step T).setIm (i:=pr) rx;rw[set_comm _ _ L.symm]at this;show this
   have ew2:(σ'.set pr (aa x))[w]?=aa (aa (.ref a)):=by rw[kK L];show A
   show Fx hj hk C n (λR q=>(.ref a,ew2,a,rfl,(vs,SqL.of (T.h _ _ B)),?_)) hz ec λl us Y H3 x3 hn hf hl rl=>?_
   .have:=q _ v c (Ext.refl n.sub) (Fw (SqL.of (T.h _ _ B)) (r'.up T.f));rw[hG]at this;show this
   .have p:=n.setOwn (i:=w) (s:=.own L') rfl x3 hn hf (us,hl,rl);rw[set_set]at p;have hsl:w<(σ'.set pr (aa x)).length:=by rw[il];show(cU.mp A).1
    show(rfl,I,Y,ρ'.set pr _,L',l,us,?_,by rw[il];show hw',jV hsl,hl,rl,(s1.trans T.f).trans x3.f,el2,λ_=>p);have:=p.setNo (i:=w);rw[set_set]at this;show this
  .nomatch b
 .have ei:i=bs.length:=by lia
  subst ei;rw[drop_eq_nil_of_le (aL _)]at b;cases b;show .inl (it2 rfl,kq σ' Hf' H' (Q.f.trans s1) (own rfl))
variable{fg:MF2}{ft0:MF4}
def QQ{k:Nat}{s1 s2:Stmt}{rest:List Stmt}{F:MF3}(hj:js.Nodup)(hk:∀d M ρ' i,g d M=aa ρ'->k<=i->ρ'[i]?=M[i]?)(q:∀d M ρ',g d M=aa ρ'->ρ'.length=M.length)(C:pr≠w)
 (h1:PS X s1 (i6 (tIf (tDT (Gx c X) ft0) (tDL (Gx c X) fg) (xz hU)) (hE w)))(h2:PS X s2 (xm (tDI (Gx c X) fb) (hE pr) (i6 (oH k js (xk X.K (cQ w)) (tDG (Gx c X) g) (tDT (Gx c X) ft) (tD (Gx c X) fe)) (hE w))))(hr:DSs c X rest F):
  DSs c X (s1::s2::rest) (λM=>if w<M.length then ai (pH w pr ft0 fg fb k js g ft fe) F M else ab):=PSs.imp (tI h1 (tI h2 hr)) λV4 E H q_=>by
 have(Hf0,H0,Hf,M,o,I,B,x):=q_;split at B
 .rename_i Q;have(r,j,B):=bd (B);have(b,e2,j):=bd j;have(bs,Y,j):=bd j;split at j
  .rename_i hb;have(L0,e4,j):=bd j;have(p,e5,j):=dQ j;subst j;show(Hf0,H0,Hf,M,b,I,e2,λu U y=>?_);have G:w<E.length:=by rw[I.len];show Q
   have fin:∀{v:Hp},aq Hf v->∀σ' Hf' H',aq v Hf'->ar _ Hf0 H0 Hf' H' σ' _->tDS _ F V4 σ' H':=λT σ' Hf' H' s1 m=>(Hf0,H0,Hf',_,o,m,B,by
    cases o with
    |nx M=>show λn h A s2 e=>x n h A ((T.trans s1).trans s2) e
    |bk M=>show λn h A s2 e=>x n h A ((T.trans s1).trans s2) e
    |ct M=>show λn h A s2 e=>x n h A ((T.trans s1).trans s2) e
    |rt d=>show x
    |rtO d=>show x
    |rtS d M=>show x
    |rtT t=>show x)
   cases b with
   |true=>
    show(Hf0,H0,u,M,L0,I.step y,e4,λa vs v H2 L ha r=>?_)
    show G9 rfl hj hk q C ((I.step y).step L).setAny Q (jV G) ha r Y (λz=>by rw[z]at hb;nomatch hb) e5 (λσ' Hf' H' s1 m=>fin (y.f.trans L.f) σ' Hf' H' s1 m)
   |false=>
    cases e4;show(cj _,λl N=>?_);have L:Ext u U u (upd U l (.lst [])):=Ext.tmp y.s N;have e:=(I.step y).setOwn (i:=w) (s:=.own []) rfl L N (y.s.free N) ([],a8,.nil);have J:=e.setNo (i:=w);rw[set_set]at J;show G9 rfl hj hk q C J Q (jV G) a8 .nil Y (λ_=>e) e5 (λσ' Hf' H' s1 m=>fin y.f σ' Hf' H' s1 m)
  .nomatch j
 .nomatch B
def QR{i k:Nat}(h:i<k):∀d (M ρ':LS) j,ax i d M=aa ρ'->k<=j->ρ'[j]?=M[j]?:=λd M ρ' j e a=>by cases e;show kK (by lia)
def QS:∀d (M ρ':LS),ax i d M=aa ρ'->ρ'.length=M.length:=λd M ρ' e=>by cases e;show il
variable{o1:O}{R:O->O}
def QT(d:ar G Hf0 H0 Hf H E M)(h:aH i M=aa (o1,R,)):∃o v fp,M[i]?=aa (.deep o)/\E[i]?=aa (aa v)/\OT G Hf H o v fp/\fp.Nodup/\(∀a∈fp,H0 a=ab/\Hf a=ab)/\Foc G Hf H o v fp o1 v fp R:=by
 have main:∀o,M[i]?=aa (.deep o)->(∀v fp,OT G Hf H o v fp->fp.Nodup->Foc G Hf H o v fp o1 v fp R)->∃o v fp,M[i]?=aa (.deep o)/\E[i]?=aa (aa v)/\OT G Hf H o v fp/\fp.Nodup/\(∀a∈fp,H0 a=ab/\Hf a=ab)/\Foc G Hf H o v fp o1 v fp R:=λo es F=>by
  have(v,b,u,fp,c,r,n,z):=d.slot es;subst c;show(o,u,fp,es,b,r,n,z,F u fp r n)
 unfold aH at h;split at h
 .rename_i l o es;cases h;show main _ es λv fp r n=>Foc.at r n
 .rename_i o _ es;cases h;show main _ es λv fp r n=>Foc.refl r n
 .nomatch h
def QU{cn f:Str}(g:ar G Hf0 H0 Hf H E M)(h:aU cn f (aH i) M=aa (o1,R,)):∃o v fp v1 f1,M[i]?=aa (.deep o)/\E[i]?=aa (aa v)/\OT G Hf H o v fp/\fp.Nodup/\(∀a∈fp,H0 a=ab/\Hf a=ab)/\Foc G Hf H o v fp o1 v1 f1 R:=by
 have(q,c,h):=bd h;have(r,d,h):=dQ h;cases h;have(o,v,fp,es,e,rt,n,z,F):=QT g c;have(a,dx,ns,vs,j,f2,_,_,_,b):=F.fld d;show(o,v,fp,j,f2,es,e,rt,n,z,b)
variable{l:Addr}
def ar.focFix{o:O}{fp:LAd}{ds:LD}{vs:LVv}(B:ar G Hf0 H0 Hf H E M)(es:M[i]?=aa (.deep o))(J:E[i]?=aa (aa v))(r:OT G Hf H o v fp)(n:fp.Nodup)(z:∀a∈fp,H0 a=ab/\Hf a=ab)(F:Foc G Hf H o v fp (.lst (ds.map .fz)) (.ref l) [l] R)(ql:H l=aa (.lst vs))(rd:am G Hf ds vs):
  ar G Hf0 H0 (upd Hf l (.lst vs)) H E (M.set i (.deep (R (.fz (.lst ds))))):=by
 have N:=F.sub l az;have Q:=(z l N).2;have m:aq Hf (upd Hf l (.lst vs)):=bP Q;have(fp',T,mem,nd):=F.back _ H (.fz (.lst ds)) [] m (λb u e _=>e) ((l,vs,rfl,a8,rd.up m),rfl)
 have c:∀a∈fp',a∈fp/\a≠l:=λa ha=>by
  rcases mem a ha with y |⟨y,y'⟩
  .show nomatch y
  .show(y,λe=>y' (by rw[e];show az))
 have nl:∀j t w,j≠i->M[j]?=aa t->E[j]?=aa _->Holds G Hf H t w l->False:=λj t w hj b A p=>hj (B.dj j i t _ w v l b es A J p (fp,r,N));show B.re (B.ext.fix (z l N).1 Q ql) (by simp) (λj u t a b=>?_) λj t w a b A p=>?_
 .rcases cR b with⟨e,e',_⟩ |⟨en,b⟩
  .subst e e';rw[J]at a;cases a;show(v,fp',rfl,T,(nd fJ λa ha=>nomatch ha),λx f=>((z x (c x f).1).1,by rw[aK (c x f).2];show(z x (c x f).1).2))
  .have q:=B.at' j u t a b
   cases C:t.isOwn with
   |false=>
    cases t with
    |no=>trivial
    |im d=>have(U,I,h):=q;show(U,I,h.up m)
    |val U=>show q
    |deep o'=>
     have(w,gp,I,h,n2,Y):=q;subst I;show(w,gp,rfl,h.up m (aq.refl _),n2,λx f=>((Y x f).1,?_));rw[aK (λy=>nl j _ w en b a (gp,h,by rw[<- y];show f))]
     show(Y x f).2
    | _=>nomatch C
   |true=>
    have(l2,e2,e3,e4,q2):=q.own C;subst e2;show .ofOwn C (l2,rfl,e3,?_,q2.up m λo' L=>L);rw[aK (λy=>nl j t _ en b a ((Holds.own C).mpr (by rw[y])))];show e4
 .rcases cR b with⟨e,e',_⟩ |⟨_,b⟩
  .subst e e';rw[J]at A;cases A;have(g,h,ha):=p;have:=OT.funM _ _ _ _ T h;subst this;show(_,es,(fp,r,(c a ha).1))
  .show(t,b,(B.at' j _ t A b).back (λo fp _ r=>r.up m (aq.refl _)) p)
abbrev nu(i:Nat)(cn f:Str)(F:MF3)(M:LS):Option Fl:=(aU cn f (aH i) M).bind λq=>q.1.items.bind λds=>F (M.set i (.deep (q.2 (.fz (.lst ds)))))
def Ha{F:MF3}(i:Nat)(cn f:Str)(h:DS c X st F):DS c X st (nu i cn f F):=PS.imp h λV4 E H m=>by
 have(Hf0,H0,Hf,M,o,d,a,k):=m;have(q,e,a):=bd a;have(ds,g,a):=bd a;have(t,v,fp,v1,f1,es,j,rt,n,z,b):=QU d e;rw[rA g]at b;have(l,vs,fs,rfl,p,L,rfl):=id b.r;have(rd,rfl):=L.unfz;show(Hf0,H0,_,_,o,d.focFix es j rt n z b p rd,a,k.up (bP (z l (b.sub l az)).2))
structure Bas(K:aQ)(V5:Addr)(m:Str)(f:Addr):Prop where
 sg:W.specialIn K (.ref V5) "__getattribute__"=aa (aa (.builtin "type.__getattribute__"))
 rd:W.readsIn K V5 (.type "type")=ac
 fc:W.findCls K (.ref V5) (.type "type") m=aa (.val (.ref f))
 kp:gb K (.ref f)=ac
variable{V5:Addr}
def QV{U:PNS}{s:ah}{A:b8}{V4:PRS}{m:Str}{Q:Value×LVa->ah->Prop}(I:Inv X U E H s)(b:Bas X.K V5 m f)(h:∀a,Inv X U E H a->Q (.ref f,[],) a):wpAny (model X.prog X.w) A (g4 (.ref V5) m pl) Q V4 s:=
 W.method_cls I.kIn b.sg (W.cls_value I.kIn b.rd b.fc rfl (h _ (I.tok _)))
abbrev lN(i:Nat)(m:MTf)(f:Xa):Xe:=λM=>match M[i]? with
 |some (.deep (.at _ _))=>(f M).bind λp=>match p.2[i]? with
  |some (.deep (.at l o))=>(m l p.1 o).map λq=>(q.2,p.2.set i (.deep (.at l q.1)),)
  | _=>ab
 | _=>ab
variable{sp:Sp}{t:TA}
def QW{k:Nat}(l:Gl X x)(hm:X.mg x=aa (.ref V5))(b:Bas X.K V5 fl f)(F:cv X.prog X.w X.K X.mg X.base CX0 k f fd ps sp)(hr:bv k X.A)(j:dS X.K fd ps [])(ha:PA X (e::es) t)
 (d:StE X e es:=by rfl)(c:BkE X pos es:=by rfl)(a:NDb x:=by decide)
 (m:eval (.Call (.Attribute (.Name x p) fl apos) (e::es) [] pos) X.env=(do
   let ov <- eval (.Name x p) X.env
   gz apos.atName
   let (f,first,) <- eJ [ov] (g4 ov fl pl)
   jD pos f first (ce pos (aN (e::es) X.env)) (iq pos (ip [] X.env))):=by rfl):
  PE X (.Call (.Attribute (.Name x p) fl apos) (e::es) [] pos) (xA sp [] E0 t):=by
 intro U s E H Q I h;show W.methodCall_KW (xc I l hm ?_ a) m;show QV I b λs1 i=>?_;show W.callWith_K I.ok.mod.kin b.kp (thn (ha pos U s1 E H _ i h) λus s2 (vs,q,g,r,n)=>(g.kIn,(tR F hr j .nil gD g r n))) d c
variable{fa:Xa}{m:MTf}
def QX{Q:VK}(U:∀E H Q,rj (Gx c X) fa E H Q->t E H Q)(hn:∀M ds ρ',fa M=aa (ds,ρ',)->1+ds.length=ps.length)(q_:tDX (Gx c X) (lN i m fa) E H Q):xA (ic (Gx c X) ps.length m) [] E0 (i7 (cQ i) t) E H Q:=by
 have(Hf0,H0,Hf,M,d,ρ',st,b,Y):=q_;unfold lN at b;split at b
 .rename_i C o0 p;have(pp,A,b):=bd b;have(ds,ρ1):=pp;split at b
  .rename_i l o1 e;have(q,J,b):=dQ b;cases b;have(u,x,u',fp,L,rt,n,z):=st.slot p;subst L;have(el,rt0):=rt;subst el;show(_,x,U _ _ _ (Hf0,H0,Hf,M,ds,ρ1,st,A,λus Hf' H' f1 st1 r=>?_));change ic _ _ _ ((V.ref C::us)++[]) H' Q E0;rw[bQ];have(w,B,w',gp,N,y,n1,z1):=st1.slot e;subst N;rw[x]at B;cases B;have(j,g):=y;cases j;show(Hf',ds,o1,q.1,q.2,C,gp,us,rfl,st1.sub,g,n1,λa ha=>(z1 a ha).2,r,hn _ _ _ A,J,λv h I T G r3 n3 z3 rv=>Y v h I (f1.trans G.f) (st1.treeBack e x (rfl,g) G (rfl,r3) n3 z3) rv)
  .nomatch b
 .nomatch b
section
variable{k:Nat}{o:Expr}
def QY(n:PE X o (cQ i))(l:Gl X x)(hm:X.mg x=aa (.ref V5))(b:Bas X.K V5 fl f)(F:cv X.prog X.w X.K X.mg X.base CX0 k f fd ps (ic (Gx c X) ps.length m))(hr:bv k X.A)(j:dS X.K fd ps [])(ha:DAX c X (e::es) fa)
 (u:(e::es).length+1=ps.length:=by rfl)(a:aN (o::e::es) X.env=(af,eval o X.env,)::aN (e::es) X.env:=by rfl)(g:(ce pos (aN (e::es) X.env)).any (·.1)=af:=by rfl)(d:NDb x:=by decide)
 (q:eval (.Call (.Attribute (.Name x p) fl apos) (o::e::es) [] pos) X.env=(do
   let ov <- eval (.Name x p) X.env
   gz apos.atName
   let (f,first,) <- eJ [ov] (g4 ov fl pl)
   jD pos f first (ce pos (aN (o::e::es) X.env)) (iq pos (ip [] X.env))):=by rfl):
  DX c X (.Call (.Attribute (.Name x p) fl apos) (o::e::es) [] pos) (lN i m fa):=PE.imp (QW l hm b F hr j (eO n ha.pa a) a g d q) λE H Q r=>QX (λ_ _ _ h=>h) (λM ds ρ' h=>by have:=ha.len M ds ρ' h;lia) r
end
section
variable{k:Nat}
abbrev nz(i:Nat)(cn fl:Str)(f:MF1)(M:LS):Option Fl:=match M[i]? with
 |some (.deep (.at l (.ins c' ns os)))=>if c'=cn/\ns.length<1000 then (aT fl ns).bind λk=>match os[k]? with
  |some (.fz (.int a))=>match f M with
   |some (.int b)=>aa (.nx (M.set i (.deep (.at l (.ins c' ns (os.set k (.fz (.int (a+b)))))))))
   | _=>ab
  | _=>ab else ab
 | _=>ab
end
variable{g:MF1}
def QZ{o:Expr}{u:Pos}(cn:Str)(hc:Cls X.K (c cn))(hn:cJ X.K (c cn) fl)(ho:PE X o (cQ i))(he:DE c X e g):DS c X (.AugAssign (.Attribute o fl u) .Add e pos) (nz i cn fl g):=PS.imp (LB ho he LF) λV4 E H q_=>by
 have(Hf0,H0,Hf,M,o,Q,d,kq):=q_;unfold nz at d;split at d
 .rename_i l A ns os es;split at d
  .rename_i I;have(rfl,hlt):=I;have(k,U,d):=bd d;split at d
   .rename_i a eo;split at d
    .rename_i b eb;cases d;have(v,T,v',fp,e3,rt,n,z):=Q.slot es;subst e3;have F:=Foc.at rt n;have(el,p,dx,vs,fs,ep,J,hz,L,B):=id rt;subst el;cases ep;subst B;have(na,N):=b7.mp n;have(vk,fk,C,rk,_,sb,bk):=L.foc N eo;show(_,T,_,c A,dx,ns.zip vs,vk,rfl,J,hc,hn,(zd vs U).trans C,Hf0,H0,Hf,M,_,Q,eb,λv2 r x m r1=>(a,b,rk.1,r1,?_));show(dx,ns.zip vs,m.h _ _ J,by rw[nW];lia,kq E r _ m.f ?_);have F1:=F.up m.f m.h;have keep:∀q w,q≠l->x q=aa w->upd x l (.ins (c A) dx (c7 fl (.int (a+b)) (ns.zip vs))) q=aa w:=λq w j e=>by rw[aK j];show e
     have (G,r',Y,n'):=bk r (upd x l (.ins (c A) dx (c7 fl (.int (a + b)) (ns.zip vs)))) (.fz (.int (a + b))) (.int (a + b)) [] m.f (λq w j hm _=>by
      show keep q w (λy=>?_) (m.h _ _ j);subst y;simp only[J]at j;cases j
      rcases hm with hm |hm
      .nomatch hm
      .show na hm) (rfl,rfl)
     show Q.foc es T (rt.up m.f m.h) m F1 (λq w j hn=>keep q w (λy=>hn (by rw[y];show az)) j) (l,dx,vs.set k (.int (a+b)),G,rfl,by rw[a8,zi hz U],by simp[hz],r',rfl) (b7.mpr ⟨λy=>?_,n' fJ λq j=>nomatch j⟩) λq j=>?_
     .rcases Y l y with w |⟨w,_⟩
      .nomatch w
      .show na w
     .rcases aZ.mp j with y |y
      .rw[y];show .inl az
      .rcases Y q y with w |⟨w,_⟩
       .nomatch w
       .show .inl (bh _ w)
    .nomatch d
   .nomatch d
  .nomatch d
 .nomatch d
abbrev rC(i:Nat)(f:MF1)(M:LS):Option Fl:=match M[i]? with
 |some (.im (.int a))=>match f M with
  |some (.int b)=>aa (.nx (M.set i (.im (.int (a-b)))))
  | _=>ab
 | _=>ab
def Q0(i:Nat){h:Pos}(y:X.N.Nodup)(z:DE c X e g)(hi:X.N[i]?=aa x:=by rfl)(B:Loc X.env.scope x:=by first |exact bX rfl |exact bA rfl)(A:LcF X x:=by first |exact .inl rfl |exact .inr rfl):
  DS c X (.AugAssign (.Name x h) .Sub e pos) (rC i g):=PS.imp (D9 y hi B z KM A) λV4 E H C=>by
 have(Hf0,H0,Hf,M,o,l,d,k):=C;unfold rC at d;split at d
 .rename_i a es;split at d
  .rename_i b n;cases d;have(v,p,w,q,j):=l.slot es;subst q;show(_,p,Hf0,H0,Hf,M,_,l,n,λu Hf' H' m r=>(a,b,j,r,k _ Hf' H' m.f ((l.step m).setIm rfl)))
  .nomatch d
 .nomatch d
def Q1{f:MF1}(h:PE X e (tBM X.K "list" (za (Gx c X)) (tDB (Gx c X) f) (i7 (tD (Gx c X) g) hU))):DE c X e (m2 gN f g):=PE.imp h λE H Q I=>by
 have(Hf0,H0,Hf,M,d,st,G,k):=I;have(x,y,B,C,m):=mL G
 obtain⟨ds,i,rfl,rfl⟩:∃ds i,x=.lst ds/\d=.int i:=by
  unfold gN at m
  grind
 show(Hf0,H0,Hf,M,_,st,B,λv b U p n=>?_);have(l,vs,el,q,L):=id n;subst el;show(.inl (rfl,_,SqL.of q),Hf0,H0,b,M,y,st.step p,C,λu j r a J=>(r,.lst ds,y,_,u,rfl,aq.refl _,n.up a.h,J.up a.s,m,λw A z T N=>k w j z ((p.trans a).trans (Ext.grow a.s T.h)) N))
section
variable{k:Nat}
abbrev rE(x y:D):OD:=match x with
 |.dT ks ds=>(kz y).bind λk=>(aT k ks).bind λj=>ds[j]?
 | _=>ab
end
def Q2{o:Expr}{f:MF1}(Y:X.A.units+1<cLine)(T:DE c X o f)(N:DE c X e g)(U:qB e:=by exact λ_ _=>rfl):DE c X (.Subscript o e pos) (m2 rE f g):=PE.imp (xO Y T N U) λE H Q q_=>by
 have(Hf0,H0,Hf,M,d,st,J,kq):=q_;have(x,y,z,B,h):=mL J;unfold rE at h;split at h
 .rename_i ks ds;have(k,C,h):=bd h;have(j,G,h):=bd h;show(Hf0,H0,Hf,M,_,st,z,λv l H1 r r1=>(Hf0,H0,l,M,y,st.step r,B,λu m w i r2=>?_));have(b,I,tk):=rp C r2;have(a,vs,rfl,ha,hz,L):=r1;subst I;have(q,n,p):=L.get h;show(a,q,rfl,?_,kq q m w (r.trans i) (p.up i.f));rw[<- n,<- pi vs G];show fQ.t (i.s _ _ (i.f _ _ ha)) (tk.same i.s)
 .nomatch h
structure zl(K:aQ)(x qual:Str)(st:Stmt)(f:Addr)(fd:cO):Prop where
 ex:∃(oc:Value) (od:Option Addr) (dV kV doc pm:Value) (an:Option Addr) (cdv ct:Value) (osl:Array (Option Value)),
  fd=i0 x qual (kc st) (fP st) (au st) dV kV doc pm an cdv ct/\K.lookup f=aa (oc,od,.func fd,osl)/\W.codeIn K cdv qual=ac
 kp:gb K (.ref f)=ac
def Q3{oc:Value}{od an:Option Addr}{osl:Array (Option Value)}{dV kV doc pm cdv ct:Value}(l:K.lookup f=aa (oc,od,.func (i0 x qual (kc st) (fP st) (au st) dV kV doc pm an cdv ct),osl))
 (c:W.codeIn K cdv qual=ac)(k:gb K (.ref f)=ac):zl K x qual st f (i0 x qual (kc st) (fP st) (au st) dV kV doc pm an cdv ct):=((oc,od,dV,kV,doc,pm,an,cdv,ct,osl,rfl,l,c),k)
variable{n:Nat}
def Hb{ds:LVa}{T:Addr}{o:Obj}{items:Array Value}(l:K.lookup T=aa o)(d:o.data=.seq items n)(hd:fd.defaults=.ref T)
 (h:∀us:LVa,(us++ds).length=ps.length->∃k,bindArgs fd (us,[])=seqItems? fd.defaults >>= k/\k (aa items)=pure (ps.zip (us++ds))):dS K fd ps ds:=λs us X c=>by
 have(k,a,b):=h us c;show W.binds_K X hd l d a b
variable{w:World}
def Q4{k:Nat}{F:MF3}(u:zl K x qual st f fd)(S:aC N ps (au st))
 (h:∀(cdv:Value) (A:b8) (outer:List Env) (s:ah) (H:Hp) (V4:XK),bv k (A.deeper (f7 qual (au st) s.heap.objs.size f cdv))->DSs c (iz CX0 P w K mg base N qual (au st) f cdv A outer s H V4).nox (fP st) F)(j:N.length=n_:=by rfl):
  cv P w K mg base CX0 (k+1) f fd ps (spD (K,c) ps.length (aP n_ F)):=by
 subst j;have(oc,od,dV,kV,doc,pm,an,cdv,ct,osl,rfl,y,i):=u.ex;show Ew y i S (λvs H Q V4 m=>by have(Hf,ds,d,q,r,a,_):=m;rw[<- r.length];show a) λA outer s H vs Q V4 hr m=>?_;have(Hf,ds,d,q,r,a,e,b):=m;show(_,(h cdv A outer s H V4 hr).nox,?_);unfold aP at e
 cases g:F _ with
 |none=>rw[g]at e;nomatch e
 |some o=>
  rw[g]at e;show(Hf,H,Hf,_,o,ar.start q r,g,?_)
  cases o with
  |rt d=>cases e;show b
  |rtO L=>cases e;show λl vs Hf' H' x hn p a r=>b _ _ H' (x.fix hn p a) (l,vs,rfl,a8,r.up (bP p))
  |nx M=>cases e;show λσ' Hf' H' _ n=>b _ Hf' H' n.ext rfl
  |rtS d M=>cases e;show λv σ' Hf' H' n r=>b v Hf' H' n.ext r
  | _=>nomatch e
end L2
namespace N_k56
open List
open PySem PySem.Spec PyProof.Rows L2
local macro_rules | `(tactic| walk_at "sc")=>`(tactic| exact ⟨rfl,rfl,rfl,by decide +kernel,rfl,by decide +kernel,by decide +kernel⟩)
abbrev top(i:Nat):Stmt:=PySem.Challenge.pw_standstill_k56_turned_about.main.body.getD i (.Pass (0,0,0,0))
nonrec def s_1:=top 2
nonrec def zm:=top 3
nonrec def zn:=top 10
nonrec def zo:=top 11
nonrec def zp:=top 12
nonrec def zq:=top 13
nonrec def zt:=top 14
nonrec def zu:=top 15
nonrec def zw:=top 16
nonrec def zx:=top 17
nonrec def zy:=top 18
nonrec def s_7:=top 19
nonrec def s_2:=top 21
nonrec def zA:=top 22
nonrec def zB:=top 24
nonrec def zC:=top 25
nonrec def s_5:=top 26
nonrec def s_0:=top 29
nonrec def zD:=top 30
nonrec def zE:=top 31
nonrec def zF:=top 34
nonrec def s_3:=top 35
nonrec def zG:=top 36
nonrec def zH:=top 37
nonrec def zJ:=top 38
nonrec def zK:=top 39
nonrec def zM:=top 40
nonrec def zN:=top 41
nonrec def zO:=top 42
nonrec def zP:=top 43
nonrec def s_6:=top 44
nonrec def zQ:=bj (top 6) 0
nonrec def zR:=bj (top 6) 2
nonrec def zS:=bj (top 6) 3
nonrec def zT:=bj (top 6) 5
nonrec def zU:=bj (top 6) 6
nonrec def zV:=bj (top 6) 7
nonrec def zW:=bj (top 6) 8
nonrec def zX:=bj (top 6) 9
nonrec def zY:=bj (top 7) 0
nonrec def zZ:=bj (top 7) 2
nonrec def z4:=bj (top 7) 3
nonrec def z5:=bj (top 7) 5
nonrec def z6:=bj (top 7) 6
nonrec def z7:=bj (top 7) 7
nonrec def z8:=bj (top 7) 8
nonrec def z9:=bj (top 7) 9
nonrec def Aa:=bj (top 8) 0
nonrec def Ab:=bj (top 8) 2
nonrec def Ac:=bj (top 8) 3
nonrec def Ad:=bj (top 8) 5
nonrec def Ae:=bj (top 8) 6
nonrec def Ag:=bj (top 8) 7
nonrec def Ah:=bj (top 8) 8
nonrec def Ai:=bj (top 8) 9
nonrec def Aj:=bj (top 9) 0
nonrec def Ak:=bj (top 9) 2
nonrec def Al:=bj (top 9) 3
nonrec def Am:=bj (top 9) 5
nonrec def An:=bj (top 9) 6
nonrec def Ao:=bj (top 9) 7
nonrec def Ap:=bj (top 9) 8
nonrec def Aq:=bj (top 9) 9
nonrec def Ar:=bj (top 32) 0
nonrec def s_8:=bj (top 32) 1
nonrec def As:=bj (top 32) 2
nonrec def At:=bj (top 32) 3
nonrec def Au:=bj (top 32) 4
nonrec def s_4:=bj (top 32) 5
nonrec def s_9:=bj (top 32) 6
nonrec def Av:=bj (top 27) 1
nonrec def Aw:=bj (top 27) 2
nonrec def Ax:=bj (top 27) 3
nonrec def Ay:=bj (top 27) 4
nonrec def Az:=bj (top 27) 5
nonrec def AA:=bj (top 27) 6
nonrec def AB:=bj (top 27) 7
nonrec def AC:=bj (top 27) 8
nonrec def AD:=bj (top 27) 9
nonrec def AE:=bj (top 27) 10
nonrec def AF:=bj (top 27) 11
nonrec def AG:=bj (top 27) 12
nonrec def AH:=bj (top 27) 0
def pI:aC ["many","some","listed","thing"] ["many","some"] (au s_1):=by walk_at "sc"
def Q5:aC ["truths"] ["truths"] (au zm):=by walk_at "sc"
def Hc:aC ["told","word"] ["told"] (au zn):=by walk_at "sc"
def Q6:aC ["items"] ["items"] (au zo):=by walk_at "sc"
def Q7:aC ["items","entries"] ["items","entries"] (au zp):=by walk_at "sc"
def Q8:aC ["items","sheet"] ["items","sheet"] (au zq):=by walk_at "sc"
def Q9:aC ["items"] ["items"] (au zt):=by walk_at "sc"
def Ra:aC ["items","without"] ["items","without"] (au zu):=by walk_at "sc"
def He:aC ["items","sheet","lack","weights"] ["items","sheet","lack"] (au zw):=by walk_at "sc"
def AI:aC ["items","weights","thing","worth"] ["items"] (au zx):=by walk_at "sc"
def Rb:aC ["things","sheet","truth"] ["things","sheet","truth"] (au zy):=by walk_at "sc"
def uO:aC ["items","things","lack","weights","taken","left","thing","weight"] ["items","things","lack"] (au s_7):=by walk_at "sc"
def Hg:aC ["rule"] ["rule"] (au s_2):=by walk_at "sc"
def Hh:aC ["rule","guard"] ["rule"] (au zA):=by walk_at "sc"
def Rc:aC ["bar"] ["bar"] (au zB):=by walk_at "sc"
def Hi:aC ["guard","sheet","pairs","part","tips"] ["guard","sheet"] (au zC):=by walk_at "sc"
def Hj:aC ["body","sheet","without","part"] ["body","sheet","without"] (au s_5):=by walk_at "sc"
def rF:aC ["plain","most","seeking","firsts","world"] ["plain","most"] (au s_0):=by walk_at "sc"
def Re:aC ["why"] ["why"] (au zD):=by walk_at "sc"
def Rf:aC ["order","needed"] ["order","needed"] (au zE):=by walk_at "sc"
def Rg:aC ["_law_script","_law_k"] ["_law_script","_law_k"] (au zF):=by walk_at "sc"
def Hk:aC ["_law_cell","_law_k","_law_prime","_law_once"] ["_law_cell","_law_k"] (au s_3):=by walk_at "sc"
def Hl:aC ["_law_cell","_law_k","_law_many","_law_items_here","_law_j","_law_at","_law_worth"] ["_law_cell","_law_k","_law_many"] (au zG):=by walk_at "sc"
def Hm:aC ["_law_cell","_law_k","_law_many","_law_sort","_law_items_here","_law_bound"] ["_law_cell","_law_k","_law_many"] (au zH):=by walk_at "sc"
def AJ:aC ["_law_cell","_law_many","_law_word","_law_size","_law_parts"] ["_law_cell","_law_many"] (au zJ):=by walk_at "sc"
def Ho:aC ["_law_cell","_law_many","_law_rules","_law_k"] ["_law_cell","_law_many"] (au zK):=by walk_at "sc"
def Hq:aC ["_law_script","_law_top","_law_head","_law_many","_law_rules","_law_cell"] ["_law_script","_law_top"] (au zM):=by walk_at "sc"
def Rh:aC ["_law_part_here"] ["_law_part_here"] (au zN):=by walk_at "sc"
def Hr:aC ["_law_plain_here","_law_rules","_law_word","_law_head","_law_parts"] ["_law_plain_here"] (au zO):=by walk_at "sc"
def AK:aC ["_law_plain_here","_law_cell","_law_rules","_law_word","_law_head","_law_parts","_law_at","_law_twice"] ["_law_plain_here","_law_cell"] (au zP):=by walk_at "sc"
def Hs:aC ["_law_script","_law_plain_here","_law_cell","_law_most","_law_one","_law_other"] ["_law_script"] (au s_6):=by walk_at "sc"
def Ri:aC ["self","thing"] ["self","thing"] (au zQ):=by walk_at "sc"
def Rj:aC ["self"] ["self"] (au zR):=by walk_at "sc"
def Rk:aC ["self"] ["self"] (au zS):=by walk_at "sc"
def Rl:aC ["self","sheet"] ["self","sheet"] (au zT):=by walk_at "sc"
def Rm:aC ["self","sheet","order"] ["self","sheet","order"] (au zU):=by walk_at "sc"
def Rn:aC ["self","sheet"] ["self","sheet"] (au zV):=by walk_at "sc"
def Ro:aC ["self","sheet","without"] ["self","sheet","without"] (au zW):=by walk_at "sc"
def Rp:aC ["self","sheet","without","order"] ["self","sheet","without","order"] (au zX):=by walk_at "sc"
def Rq:aC ["self","thing"] ["self","thing"] (au zY):=by walk_at "sc"
def Rr:aC ["self"] ["self"] (au zZ):=by walk_at "sc"
def Rs:aC ["self"] ["self"] (au z4):=by walk_at "sc"
def Ru:aC ["self","sheet"] ["self","sheet"] (au z5):=by walk_at "sc"
def Rv:aC ["self","sheet","order"] ["self","sheet","order"] (au z6):=by walk_at "sc"
def Rw:aC ["self","sheet"] ["self","sheet"] (au z7):=by walk_at "sc"
def Rx:aC ["self","sheet","without"] ["self","sheet","without"] (au z8):=by walk_at "sc"
def Ry:aC ["self","sheet","without","order"] ["self","sheet","without","order"] (au z9):=by walk_at "sc"
def Rz:aC ["self","bound","items"] ["self","bound","items"] (au Aa):=by walk_at "sc"
def RA:aC ["self"] ["self"] (au Ab):=by walk_at "sc"
def RB:aC ["self"] ["self"] (au Ac):=by walk_at "sc"
def RC:aC ["self","sheet"] ["self","sheet"] (au Ad):=by walk_at "sc"
def RD:aC ["self","sheet","order"] ["self","sheet","order"] (au Ae):=by walk_at "sc"
def Ht:aC ["self","sheet","lack"] ["self","sheet"] (au Ag):=by walk_at "sc"
def RE:aC ["self","sheet","without"] ["self","sheet","without"] (au Ah):=by walk_at "sc"
def Hu:aC ["self","sheet","without","order","left"] ["self","sheet","without","order"] (au Ai):=by walk_at "sc"
def RF:aC ["self","bound","items"] ["self","bound","items"] (au Aj):=by walk_at "sc"
def RG:aC ["self"] ["self"] (au Ak):=by walk_at "sc"
def RH:aC ["self"] ["self"] (au Al):=by walk_at "sc"
def RI:aC ["self","sheet"] ["self","sheet"] (au Am):=by walk_at "sc"
def RJ:aC ["self","sheet","order"] ["self","sheet","order"] (au An):=by walk_at "sc"
def Hv:aC ["self","sheet","lack"] ["self","sheet"] (au Ao):=by walk_at "sc"
def RK:aC ["self","sheet","without"] ["self","sheet","without"] (au Ap):=by walk_at "sc"
def RL:aC ["self","sheet","without","order"] ["self","sheet","without","order"] (au Aq):=by walk_at "sc"
def RM:aC ["self","plain"] ["self","plain"] (au Ar):=by walk_at "sc"
def AL:aC ["self","why","world"] ["self"] (au s_8):=by walk_at "sc"
def Hw:aC ["self","why","line"] ["self","why"] (au As):=by walk_at "sc"
def AM:aC ["self","bar","places","choices"] ["self","bar"] (au At):=by walk_at "sc"
def uP:aC ["self","why","sheet","pair","cause","order","needed","bar","done","thing","ground"] ["self","why"] (au Au):=by walk_at "sc"
def Hx:aC ["self","sheet","why","order","things","part"] ["self","sheet","why","order"] (au s_4):=by walk_at "sc"
def AN:aC ["self","sheet","group","order","without","things","head","body"] ["self","sheet","group","order"] (au s_9):=by walk_at "sc"
def Hy:aC ["self","why","guard","part","thing"] ["self","why","guard"] (au Av):=by walk_at "sc"
def Hz:aC ["self","bar","why"] ["self","bar"] (au Aw):=by walk_at "sc"
def rG:aC ["self","bar","wider","pair","why"] ["self","bar"] (au Ax):=by walk_at "sc"
def RN:aC ["self","thing","truth","why"] ["self","thing","truth","why"] (au Ay):=by walk_at "sc"
def HA:aC ["self","many","pair","why"] ["self","many"] (au Az):=by walk_at "sc"
def HB:aC ["self","going","why"] ["self"] (au AA):=by walk_at "sc"
def uQ:aC ["self","why","pairs","thing","truth"] ["self"] (au AB):=by walk_at "sc"
def AO:aC ["self","without","thing","things","is_loose"] ["self"] (au AC):=by walk_at "sc"
def uR:aC ["self","without","used","rest","going","before","unused","maker"] ["self"] (au AD):=by walk_at "sc"
def AQ:aC ["self","thing","without","found","place","part"] ["self","thing","without"] (au AE):=by walk_at "sc"
def RO:aC ["self","thing","without"] ["self","thing","without"] (au AF):=by walk_at "sc"
def RP:aC ["self","part","without"] ["self","part","without"] (au AG):=by walk_at "sc"
def HC:aC ["self","plain","bars","sheet","rule","number","bar"] ["self","plain","bars","sheet"] (au AH):=by walk_at "sc"
set_option genInjectivity false
set_option genSizeOf false
structure DfX(K:aQ)(mg:MGT)(x:Str)(st:Stmt)(ps:LSt)(e:Addr×cO):Prop where
 F:zl K x x st e.1 e.2
 b:dS K e.2 ps []
 g:mg x=aa (.ref e.1)
variable{P:cb}{w:World}{K:aQ}{mg:MGT}{base:Heap}{x:Str}{st:Stmt}{ps:LSt}
def DfX.pk{CX:CXT}{k:Nat}{e:Addr×cO}{sp:Sp}(V4:DfX K mg x st ps e)(o:cv P w K mg base CX k e.1 e.2 ps sp):Pk P w K mg base CX k x e ps sp:=(o,V4.g,V4.F.kp,V4.b)
structure Db(K:aQ)(x q:Str)(st:Stmt)(ps:LSt)(e:Addr×cO):Prop where
 F:Fun K x q st e.1 e.2
 b:dS K e.2 ps []
def Db.mk2{q:Str}{f:Addr}{fd:cO}(F:Fun K x q st f fd)(b:tU x q st ps:=by walk_at "bd"):Db K x q st ps (f,fd,):=(F,F.binds b)
structure Wa where
(e_1 e_18 e_33 e_34 e_19 e_13 e_35 e_36 e_20 e_14 e_15 e_7 e_2 e_21 e_48 e_70 e_5 e_0 e_22 e_37 e_38 e_3 e_39 e_23 e_24 e_25 e_26 e_40 e_27 e_16 e_6 e_66 e_41 e_49 e_50 e_51 e_52 e_28 e_53 e_67 e_42 e_54 e_55 e_56 e_57 e_29 e_58 e_68 e_43 e_59 e_60 e_61 e_44 e_30 e_45 e_69 e_46 e_62 e_63 e_64 e_47 e_31 e_65 e_11 e_8 e_12 e_32 e_17 e_4 e_9 hY ii h6 kQ h9 j3 h7 gF hO kr h8 j0 e_10:Addr×cO)
 (cl:Str->Addr)
 (C_Spreading:Addr)
structure Wd(K:aQ)(mg:MGT)(a:Wa):Prop where
 e_1:Df K mg "marks" s_1 ["many","some"] a.e_1
 e_18:Df K mg "numbers" zm ["truths"] a.e_18
 e_33:Df K mg "part_of" zn ["told"] a.e_33
 e_34:Df K mg "things_of" zo ["items"] a.e_34
 e_19:Df K mg "worth_in" zp ["items","entries"] a.e_19
 e_13:Df K mg "worth_not_out" zq ["items","sheet"] a.e_13
 e_35:Df K mg "worth_of" zt ["items"] a.e_35
 e_36:Df K mg "outside" zu ["items","without"] a.e_36
 e_20:Df K mg "heavy" zw ["items","sheet","lack"] a.e_20
 e_14:Df K mg "weights_of" zx ["items"] a.e_14
 e_15:Df K mg "with_entry" zy ["things","sheet","truth"] a.e_15
 e_7:Df K mg "enough" s_7 ["items","things","lack"] a.e_7
 e_2:Df K mg "body_of" s_2 ["rule"] a.e_2
 e_21:Df K mg "guard_of" zA ["rule"] a.e_21
 e_48:Df K mg "guard_of_bar" zB ["bar"] a.e_48
 e_70:Df K mg "pressed_by" zC ["guard","sheet"] a.e_70
 e_5:Df K mg "lost_part" s_5 ["body","sheet","without"] a.e_5
 e_0:DfX K mg "worlds" s_0 ["plain","most"] a.e_0
 e_22:Df K mg "own_why" zD ["why"] a.e_22
 e_37:Df K mg "needed_first" zE ["order","needed"] a.e_37
 e_38:Df K mg "_law_cell_at" zF ["_law_script","_law_k"] a.e_38
 e_3:Df K mg "_law_mixed" s_3 ["_law_cell","_law_k"] a.e_3
 e_39:Df K mg "_law_items" zG ["_law_cell","_law_k","_law_many"] a.e_39
 e_23:Df K mg "_law_part" zH ["_law_cell","_law_k","_law_many"] a.e_23
 e_24:Df K mg "_law_rule" zJ ["_law_cell","_law_many"] a.e_24
 e_25:Df K mg "_law_base" zK ["_law_cell","_law_many"] a.e_25
 e_26:Df K mg "_law_plain" zM ["_law_script","_law_top"] a.e_26
 e_40:Df K mg "_law_part_again" zN ["_law_part_here"] a.e_40
 e_27:Df K mg "_law_again" zO ["_law_plain_here"] a.e_27
 e_16:Df K mg "_law_turned" zP ["_law_plain_here","_law_cell"] a.e_16
 e_6:Df K mg "law" s_6 ["_law_script"] a.e_6
 e_66:Dm K (a.cl "In") "__init__" "In.__init__" zQ ["self","thing"] a.e_66
 e_41:Dm K (a.cl "In") "named" "In.named" zR ["self"] a.e_41
 e_49:Dm K (a.cl "In") "wants" "In.wants" zS ["self"] a.e_49
 e_50:Dm K (a.cl "In") "sure" "In.sure" zT ["self","sheet"] a.e_50
 e_51:Dm K (a.cl "In") "sure_by" "In.sure_by" zU ["self","sheet","order"] a.e_51
 e_52:Dm K (a.cl "In") "tips" "In.tips" zV ["self","sheet"] a.e_52
 e_28:Dm K (a.cl "In") "lost" "In.lost" zW ["self","sheet","without"] a.e_28
 e_53:Dm K (a.cl "In") "lost_by" "In.lost_by" zX ["self","sheet","without","order"] a.e_53
 e_67:Dm K (a.cl "Out") "__init__" "Out.__init__" zY ["self","thing"] a.e_67
 e_42:Dm K (a.cl "Out") "named" "Out.named" zZ ["self"] a.e_42
 e_54:Dm K (a.cl "Out") "wants" "Out.wants" z4 ["self"] a.e_54
 e_55:Dm K (a.cl "Out") "sure" "Out.sure" z5 ["self","sheet"] a.e_55
 e_56:Dm K (a.cl "Out") "sure_by" "Out.sure_by" z6 ["self","sheet","order"] a.e_56
 e_57:Dm K (a.cl "Out") "tips" "Out.tips" z7 ["self","sheet"] a.e_57
 e_29:Dm K (a.cl "Out") "lost" "Out.lost" z8 ["self","sheet","without"] a.e_29
 e_58:Dm K (a.cl "Out") "lost_by" "Out.lost_by" z9 ["self","sheet","without","order"] a.e_58
 e_68:Dm K (a.cl "Least") "__init__" "Least.__init__" Aa ["self","bound","items"] a.e_68
 e_43:Dm K (a.cl "Least") "named" "Least.named" Ab ["self"] a.e_43
 e_59:Dm K (a.cl "Least") "wants" "Least.wants" Ac ["self"] a.e_59
 e_60:Dm K (a.cl "Least") "sure" "Least.sure" Ad ["self","sheet"] a.e_60
 e_61:Dm K (a.cl "Least") "sure_by" "Least.sure_by" Ae ["self","sheet","order"] a.e_61
 e_44:Dm K (a.cl "Least") "tips" "Least.tips" Ag ["self","sheet"] a.e_44
 e_30:Dm K (a.cl "Least") "lost" "Least.lost" Ah ["self","sheet","without"] a.e_30
 e_45:Dm K (a.cl "Least") "lost_by" "Least.lost_by" Ai ["self","sheet","without","order"] a.e_45
 e_69:Dm K (a.cl "Most") "__init__" "Most.__init__" Aj ["self","bound","items"] a.e_69
 e_46:Dm K (a.cl "Most") "named" "Most.named" Ak ["self"] a.e_46
 e_62:Dm K (a.cl "Most") "wants" "Most.wants" Al ["self"] a.e_62
 e_63:Dm K (a.cl "Most") "sure" "Most.sure" Am ["self","sheet"] a.e_63
 e_64:Dm K (a.cl "Most") "sure_by" "Most.sure_by" An ["self","sheet","order"] a.e_64
 e_47:Dm K (a.cl "Most") "tips" "Most.tips" Ao ["self","sheet"] a.e_47
 e_31:Dm K (a.cl "Most") "lost" "Most.lost" Ap ["self","sheet","without"] a.e_31
 e_65:Dm K (a.cl "Most") "lost_by" "Most.lost_by" Aq ["self","sheet","without","order"] a.e_65
 e_11:Dm K (a.cl "Seeking") "__init__" "Seeking.__init__" Ar ["self","plain"] a.e_11
 e_8:Dm K (a.cl "Seeking") "another" "Seeking.another" s_8 ["self"] a.e_8
 e_12:Dm K (a.cl "Seeking") "close" "Seeking.close" As ["self","why"] a.e_12
 e_32:Dm K (a.cl "Seeking") "place_for" "Seeking.place_for" At ["self","bar"] a.e_32
 e_17:Dm K (a.cl "Seeking") "line_to" "Seeking.line_to" Au ["self","why"] a.e_17
 e_4:Dm K (a.cl "Seeking") "grounds" "Seeking.grounds" s_4 ["self","sheet","why","order"] a.e_4
 e_9:Dm K (a.cl "Seeking") "grounds_of_group" "Seeking.grounds_of_group" s_9 ["self","sheet","group","order"] a.e_9
 hY:Dm K (a.cl "Seeking") "take_guard" "Spreading.take_guard" Av ["self","why","guard"] a.hY
 ii:Dm K (a.cl "Seeking") "take_bar" "Spreading.take_bar" Aw ["self","bar"] a.ii
 h6:Dm K (a.cl "Seeking") "drop_wider" "Spreading.drop_wider" Ax ["self","bar"] a.h6
 kQ:Dm K (a.cl "Seeking") "put" "Spreading.put" Ay ["self","thing","truth","why"] a.kQ
 h9:Dm K (a.cl "Seeking") "take_back" "Spreading.take_back" Az ["self","many"] a.h9
 j3:Dm K (a.cl "Seeking") "settle" "Spreading.settle" AA ["self"] a.j3
 h7:Dm K (a.cl "Seeking") "look_round" "Spreading.look_round" AB ["self"] a.h7
 gF:Dm K (a.cl "Seeking") "put_loose_out" "Spreading.put_loose_out" AC ["self"] a.gF
 hO:Dm K (a.cl "Seeking") "loose_marks" "Spreading.loose_marks" AD ["self"] a.hO
 kr:Dm K (a.cl "Seeking") "kernel" "Spreading.kernel" AE ["self","thing","without"] a.kr
 h8:Dm K (a.cl "Seeking") "lost_parts" "Spreading.lost_parts" AF ["self","thing","without"] a.h8
 j0:Dm K (a.cl "Seeking") "keeping" "Spreading.keeping" AG ["self","part","without"] a.j0
 e_10:Db K "__init__" "Spreading.__init__" AH ["self","plain","bars","sheet"] a.e_10
 b1_worlds:∃ds,aG [V.int 1] ds/\dS K a.e_0.2 ["plain","most"] ds
 rs:mg "In"=aa (.ref (a.cl "In"))
 og:Cls K (a.cl "In")
 qa:Mk K (a.cl "In") a.e_66.1
 ny:cJ K (a.cl "In") "thing"
 ri:mg "Out"=aa (.ref (a.cl "Out"))
 nS:Cls K (a.cl "Out")
 p0:Mk K (a.cl "Out") a.e_67.1
 nk:cJ K (a.cl "Out") "thing"
 qq:mg "Least"=aa (.ref (a.cl "Least"))
 lb:Cls K (a.cl "Least")
 oD:Mk K (a.cl "Least") a.e_68.1
 lk:cJ K (a.cl "Least") "bound"
 ld:cJ K (a.cl "Least") "pieces"
 ro:mg "Most"=aa (.ref (a.cl "Most"))
 mu:Cls K (a.cl "Most")
 pu:Mk K (a.cl "Most") a.e_69.1
 mm:cJ K (a.cl "Most") "bound"
 ll:cJ K (a.cl "Most") "pieces"
 pq:mg "Spreading"=aa (.ref a.C_Spreading)
 o6:Bas K a.C_Spreading "__init__" a.e_10.1
 p4:mg "Seeking"=aa (.ref (a.cl "Seeking"))
 ad:Cls K (a.cl "Seeking")
 n5:Mk K (a.cl "Seeking") a.e_11.1
 ir:cJ K (a.cl "Seeking") "sheet"
 lp:cJ K (a.cl "Seeking") "steps"
 lj:cJ K (a.cl "Seeking") "bars"
 ky:cJ K (a.cl "Seeking") "guards"
 g5:cJ K (a.cl "Seeking") "watches"
 kv:cJ K (a.cl "Seeking") "waiting"
 kF:cJ K (a.cl "Seeking") "makers"
 l0:cJ K (a.cl "Seeking") "paper"
 kT:cJ K (a.cl "Seeking") "count"
 md:cJ K (a.cl "Seeking") "ended"
 qs:mg "any"=ab
 p6:mg "bool"=ab
 nL:mg "enumerate"=ab
 nq:mg "isinstance"=ab
 q4:mg "len"=ab
 n7:mg "list"=ab
 pb:mg "range"=ab
 n0:mg "reversed"=ab
 rc:mg "set"=ab
 oo:mg "sorted"=ab
 p5:mg "sum"=ab
 pw:mg "tuple"=ab
 pz:qK K "bool"
 pj:qK K "tuple"
set_option genInjectivity true
set_option genSizeOf true
nonrec abbrev qD(P:cb)(w:World)(K:aQ)(mg:MGT)(base:Heap)(a:Wa)(k:Nat)(x:Str)(e:Addr×cO)(ps:LSt)(m:LD->OD):Prop:=Pk P w K mg base CX0 k x e ps (spD (K,a.cl) ps.length m)
nonrec abbrev qO(P:cb)(w:World)(K:aQ)(mg:MGT)(base:Heap)(a:Wa)(k:Nat)(x:Str)(e:Addr×cO)(ps:LSt)(m:LD->OLD):Prop:=Pk P w K mg base CX0 k x e ps (spO (K,a.cl) ps.length m)
nonrec abbrev gO(P:cb)(w:World)(K:aQ)(mg:MGT)(base:Heap)(a:Wa)(k:Nat)(c x:Str)(e:Addr×cO)(ps:LSt)(m:MTf):Prop:=Pm P w K mg base CX0 k (a.cl c) x e ps (ic (K,a.cl) ps.length m)
nonrec abbrev qPD(P:cb)(w:World)(K:aQ)(mg:MGT)(base:Heap)(a:Wa)(k:Nat)(c x:Str)(e:Addr×cO)(ps:LSt)(m:LD->OD):Prop:=Pm P w K mg base CX0 k (a.cl c) x e ps (spD (K,a.cl) ps.length m)
nonrec abbrev qPO(P:cb)(w:World)(K:aQ)(mg:MGT)(base:Heap)(a:Wa)(k:Nat)(c x:Str)(e:Addr×cO)(ps:LSt)(m:LD->OLD):Prop:=Pm P w K mg base CX0 k (a.cl c) x e ps (spO (K,a.cl) ps.length m)
abbrev AR:MF3:=
 (ai (bi (mB (m2 dEq (av cw (ag (ae 0) nZ)) (kI 2))) (fw 0) bM)
  (bf (bn (ag (mIx (aw 0) (kI 0)) (ag (mIx (aw 0) (kI 1)) (ag (aO (aV (mIx (aw 0) (kI 2)))) nZ))))))
def uS:=aP 1 AR
abbrev AS:MF3:=
 (ai (cL 1 nZ)
  (ai (bZ (aV (mIx (aw 0) (kI 1))) (cY (bp (ax 2) (bp (ax 3) (bp (ax 4) da)))) (c8 1 (bn (ag (ae 2) (ag (ae 3) (ag (aO (bq 1 [] (aV (ae 4)) (ax 0) kY (av uS (ag (ae 0) nZ)))) nZ))))))
  (eQ 1 (bf (bn (ag (mIx (aw 0) (kI 0)) (ag (ae 1) nZ)))))))
def uT:=aP 5 AS
abbrev AT:MF3:=
 (ai (bi (mB (m2 dLt (ae 1) (av cw (ag (ae 0) nZ)))) (bf (mIx (aw 0) (ae 1))) bM)
  (bf (kI 0)))
def uU:=aP 2 AT
abbrev b_3:MF3:=
 (ai (aX 2 (mIx (ag (kI 2147483647) (ag (kI 1000000007) (ag (kI 998244353) (ag (kI 1000000009) nZ)))) (m2 bL (ae 1) (kI 4))))
  (ai (aX 3 (m2 bL (m2 lJ (m2 d7 (m2 bL (ae 0) (m2 qF (kI 10) (kI 18))) (m2 lJ (kI 15485863) (m2 d7 (ae 1) (kI 1)))) (kI 48271)) (ae 2)))
  (bf (m2 bL (m2 lJ (ae 3) (ae 3)) (kI 1000003)))))
def m_3:=aP 4 b_3
abbrev uV:MF3:=
 (ai (cL 2 nZ)
  (ai (bZ (iC (ag (ae 1) nZ)) (ax 3) (ai (bi (mB (m2 dEq (m2 bL (ae 0) (kI 4)) (kI 1))) (c8 2 (bn (ag (kSt "make") (ag (ae 3) (ag (aO (ag (bn (ag (kSt "in") (ag (m2 bL (m2 d7 (ae 3) (kI 1)) (ae 1)) nZ))) nZ)) nZ))))) bM)
  (ai (bi (mB (m2 dEq (m2 bL (ae 0) (kI 4)) (kI 2))) (c8 2 (bn (ag (kSt "make") (ag (ae 3) (ag (aO (ag (bn (ag (kSt "out") (ag (m2 bL (m2 d7 (ae 3) (kI 1)) (ae 1)) nZ))) nZ)) nZ))))) bM)
  (bi (mB (m2 dEq (m2 bL (ae 0) (kI 4)) (kI 3))) (c8 2 (bn (ag (kSt "may") (ag (ae 3) (ag (aO nZ) nZ))))) bM))))
  (fw 2)))
def AU:=jd 4 uV
abbrev AV:MF3:=
 (ai (cL 3 nZ)
  (ai (bZ (iC (ag (m2 bL (av m_3 (ag (ae 0) (ag (ae 1) nZ))) (kI 4)) nZ)) (ax 4) (ai (aX 5 (av m_3 (ag (ae 0) (ag (m2 d7 (m2 d7 (ae 1) (kI 1)) (ae 4)) nZ))))
  (ai (aX 6 (mIx (ag (kI 1) (ag (kI 1) (ag (m2 bL (m2 kf (ae 5) (kI 8)) (kI 4)) (ag (m2 bL (ae 0) (m2 qF (kI 10) (kI 60))) nZ)))) (m2 bL (m2 kf (ae 5) (kI 32)) (kI 4))))
  (c8 3 (bn (ag (m2 bL (m2 kf (ae 5) (kI 128)) (ae 2)) (ag (ae 6) nZ)))))))
  (fw 3)))
def AW:=aP 7 AV
abbrev AX:MF3:=
 (ai (aX 3 (av m_3 (ag (ae 0) (ag (ae 1) nZ))))
  (ai (bi (mB (m2 dLt (m2 bL (ae 3) (kI 8)) (kI 5))) (bf (bn (ag (mIx (ag (kSt "in") (ag (kSt "in") (ag (kSt "out") (ag (kSt "out") (ag (kSt "in") nZ))))) (m2 bL (ae 3) (kI 8))) (ag (m2 bL (m2 kf (ae 3) (kI 8)) (ae 2)) nZ)))) bM)
  (ai (aX 4 (av AW (ag (ae 0) (ag (m2 d7 (ae 1) (kI 1)) (ag (ae 2) nZ)))))
  (ai (aX 5 (av m_3 (ag (ae 0) (ag (m2 d7 (ae 1) (kI 5)) nZ))))
  (ai (bi (mB (m2 dEq (m2 bL (ae 5) (kI 4)) (kI 0))) (bf (bn (ag (mIx (ag (kSt "least") (ag (kSt "most") nZ)) (m2 bL (ae 3) (kI 2))) (ag (m2 lJ (m2 bL (ae 0) (m2 qF (kI 10) (kI 60))) (m2 ke (m2 bL (m2 kf (ae 5) (kI 4)) (kI 3)) (kI 1))) (ag (ae 4) nZ))))) bM)
  (bf (bn (ag (mIx (ag (kSt "least") (ag (kSt "most") nZ)) (m2 bL (ae 3) (kI 2))) (ag (m2 ke (m2 bL (m2 kf (ae 5) (kI 4)) (kI 5)) (kI 1)) (ag (ae 4) nZ))))))))))
def uW:=aP 6 AX
abbrev AY:MF3:=
 (ai (aX 2 (mIx (ag (kSt "make") (ag (kSt "make") (ag (kSt "make") (ag (kSt "make") (ag (kSt "may") (ag (kSt "may") (ag (kSt "may") (ag (kSt "never") nZ)))))))) (m2 bL (av m_3 (ag (ae 0) (ag (kI 0) nZ))) (kI 8))))
  (ai (aX 3 (m2 bL (av m_3 (ag (ae 0) (ag (kI 1) nZ))) (kI 4)))
  (ai (bi (dC (mB (m2 dEq (ae 2) (kSt "never"))) (dC (mB (m2 dEq (ae 3) (kI 0))) (mB (m2 dGt (m2 bL (av m_3 (ag (ae 0) (ag (kI 2) nZ))) (kI 8)) (kI 0))))) (aX 3 (kI 2)) bM)
  (ai (aX 4 (aO (bq 1 [0,1] (iC (ag (ae 3) nZ)) (ax 0) kY (av uW (ag (ae 1) (ag (m2 d7 (kI 3) (m2 lJ (kI 6) (ae 0))) (ag (ae 2) nZ)))))))
  (ai (bi (mB (m2 dEq (ae 2) (kSt "never"))) (bf (bn (ag (ae 2) (ag kN (ag (ae 4) nZ))))) bM)
  (bf (bn (ag (ae 2) (ag (m2 bL (av m_3 (ag (ae 0) (ag (kI 2) nZ))) (ae 1)) (ag (ae 4) nZ))))))))))
def AZ:=aP 5 AY
abbrev A0:MF3:=
 (ai (aX 2 (av uU (ag (ae 0) (ag (kI 0) nZ))))
  (ai (aX 3 (m2 bL (ae 2) (ae 1)))
  (ai (cL 4 (kj AU (ag (m2 kf (ae 2) (ae 1)) (ag (ae 3) nZ))))
  (ai (bZ (aV (aO (mSl (ae 0) (mPt (kI 1)) (mPt (m2 d7 (kI 1) (mIx (ag (kI 60) (ag (kI 60) (ag (kI 40) (ag (kI 24) (ag (kI 10) (ag (kI 5) nZ)))))) (ae 3))))))) (ax 5) (bi (mB (m2 dEq (ae 3) (kI 0))) (c8 4 (bn (ag (kSt "never") (ag kN (ag (aO (ag (bn (ag (kSt "most") (ag (m2 ke (m2 bL (ae 5) (kI 3)) (kI 2)) (ag (aO nZ) nZ)))) nZ)) nZ))))) (c8 4 (av AZ (ag (ae 5) (ag (ae 3) nZ))))))
  (eQ 4 (bf (bn (ag (ae 3) (ag (ae 4) nZ)))))))))
def uX:=aP 6 A0
abbrev A1:MF3:=
 (ai (cL 2 nZ)
  (ai (bZ (aV (mIx (aV (av uT (ag (ae 0) nZ))) (kI 1))) (cY (bp (ax 3) (bp (ax 4) (bp (ax 5) da)))) (c8 2 (bn (ag (ae 3) (ag (ae 4) (ag (aO (lL 5)) nZ))))))
  (ai (bi (mB (m2 dNe (cF 2) (aO nZ))) (ai (aX 6 (m2 bL (av m_3 (ag (ae 1) (ag (kI 28) nZ))) (av cw (ag (cF 2) nZ))))
  (ai (eQ 2 (cL 2 (jL (aO (mSl (ae 2) (mPt (ae 6)) (λ_=>aa ab))) (aO (mSl (ae 2) (λ_=>aa ab) (mPt (ae 6)))))))
  (ai (aX 7 (mIx (aw 2) (m2 bL (av m_3 (ag (ae 1) (ag (kI 29) nZ))) (av cw (ag (cF 2) nZ)))))
  (c8 2 (bn (ag (mIx (aw 7) (kI 0)) (ag (mIx (aw 7) (kI 1)) (ag (aO (bq 1 [] (aV (mIx (aw 7) (kI 2))) (ax 0) kY (av uS (ag (ae 0) nZ)))) nZ)))))))) bM)
  (ai (bi (mB (m2 dEq (m2 bL (av m_3 (ag (ae 1) (ag (kI 30) nZ))) (kI 2)) (kI 1))) (cL 2 (lL 2)) bM)
  (eQ 2 (bf (bn (ag (mIx (aw 0) (kI 0)) (ag (ae 2) nZ)))))))))
def uY:=aP 8 A1
abbrev A3:MF3:=
 (λM=>if 2 < M.length then ai (pH 2 3 (bK (ae 1)) (ib (aU "Seeking" "watches" (aH 0)) (mIx (aw 1) (kI 0))) (aV (ae 1)) 1 [3,0] (ax 0) (mB (m2 fT (ae 0) (aO (ib (aU "Seeking" "watches" (aH 2)) (ae 1))))) (ae 0))
  (eQ 2 (bZ (aV (ae 2)) (ax 4) (bi (mB (m2 dEq (mIx (aw 4) (kI 0)) (kSt "bar"))) (bZ (aV (mIx (pC (aU "Seeking" "bars" (aH 0))) (mIx (aw 4) (kI 1)))) (ax 3) (pE 0 (kA (aU "Seeking" "watches" (aH 0)) (ae 3)) (ae 4))) bM))) M else ab)
abbrev A4:MTf:=d4 5 A3
abbrev A5:MF3:=
 (cx (ag (bc "In" "thing" (ae 0)) nZ))
def uZ:=aP 1 A5
abbrev A6:MF3:=
 (bf (kBl ac))
def A7:=aP 1 A6
abbrev A8:MF3:=
 (cx (mV (aO (bq 2 [] (aV (ae 0)) (cY (bp (ax 0) (bp (ax 1) da))) kY (ae 0)))))
def u8:=aP 1 A8
abbrev A9:MF3:=
 (bf (av u8 (ag (bc "Least" "pieces" (ae 0)) nZ)))
def u9:=aP 1 A9
abbrev Ba:MF3:=
 (bf (kBl ac))
def Bb:=aP 1 Ba
abbrev Bc:MF3:=
 (bf (av u8 (ag (bc "Most" "pieces" (ae 0)) nZ)))
def va:=aP 1 Bc
abbrev Bd:MF3:=
 (bf (kBl af))
def Be:=aP 1 Bd
abbrev Bf:MF3:=
 (cx (ag (bc "Out" "thing" (ae 0)) nZ))
def vb:=aP 1 Bf
abbrev Bg:MF3:=
 (bf (kBl af))
def Bh:=aP 1 Bg
abbrev Bi:MF3:=
 (ai (py 0 (aU "Seeking" "guards" (aH 0)) (ae 1) (ae 2))
  (ai (bZ (aV (ae 2)) (ax 3) (bZ (aV (be (aM "In" "named" uZ (ae 3) λ_=>aa []) (be (aM "Out" "named" vb (ae 3) λ_=>aa []) (be (aM "Least" "named" u9 (ae 3) λ_=>aa []) (aM "Most" "named" va (ae 3) λ_=>aa []))))) (ax 4) (pA 0 1 (aU "Seeking" "watches" (aH 0)) (bn (ag (ae 4) (ag (be (aM "In" "wants" A7 (ae 3) λ_=>aa []) (be (aM "Out" "wants" Bh (ae 3) λ_=>aa []) (be (aM "Least" "wants" Bb (ae 3) λ_=>aa []) (aM "Most" "wants" Be (ae 3) λ_=>aa [])))) nZ))))))
  (kB 0 (aU "Seeking" "waiting" (aH 0)) (ae 1))))
abbrev rH:MTf:=d4 5 Bi
abbrev Bj(as:LD):Option (LSt×LD):=qS 2 [("thing",(ae 1),)] as
abbrev vc(as:LD):Option (LSt×LD):=qS 2 [("thing",(ae 1),)] as
abbrev Bk:MF3:=
 (cx (bq 2 [] (aV (ae 0)) (cY (bp (ax 0) (bp (ax 1) da))) kY (vIf (bK (ae 1)) (iF "In" Bj (ag (ae 0) nZ)) (iF "Out" vc (ag (ae 0) nZ)))))
def Bl:=aP 1 Bk
abbrev Bm:MF3:=
 (ai (dP (cG 0 "Seeking" "drop_wider" A4 (bJ (mX (ae 1)) cz)))
  (ai (aX 2 (bn (ag (kSt "bar") (ag (av cw (ag (pB (aU "Seeking" "bars" (aH 0))) nZ)) nZ))))
  (ai (kB 0 (aU "Seeking" "bars" (aH 0)) (ae 1))
  (dP (cG 0 "Seeking" "take_guard" rH (bJ (mX (ae 2)) (bJ (mX (av Bl (ag (ae 1) nZ))) cz)))))))
abbrev vd:MTf:=d4 3 Bm
abbrev Bo(as:LD):Option (LSt×LD):=qS 3 [("bound",(ae 1),),("pieces",(aO (aw 2)),)] as
abbrev HD(as:LD):Option (LSt×LD):=qS 3 [("bound",(ae 1),),("pieces",(aO (aw 2)),)] as
abbrev Bp:MF3:=
 (ai (aX 1 (mIx (aw 0) (kI 0)))
  (ai (bi (mB (m2 dEq (ae 1) (kSt "in"))) (bf (iF "In" Bj (ag (mIx (aw 0) (kI 1)) nZ))) bM)
  (ai (bi (mB (m2 dEq (ae 1) (kSt "out"))) (bf (iF "Out" vc (ag (mIx (aw 0) (kI 1)) nZ))) bM)
  (ai (bi (mB (m2 dEq (ae 1) (kSt "least"))) (bf (iF "Least" Bo (ag (mIx (aw 0) (kI 1)) (ag (mIx (aw 0) (kI 2)) nZ)))) bM)
  (bf (iF "Most" HD (ag (mIx (aw 0) (kI 1)) (ag (mIx (aw 0) (kI 2)) nZ))))))))
def Bq:=aP 2 Bp
abbrev b_2:MF3:=
 (cx (bq 1 [] (aV (mIx (aw 0) (kI 2))) (ax 0) kY (av Bq (ag (ae 0) nZ))))
def m_2:=aP 1 b_2
def o_2:=jd 1 b_2
abbrev Br:MF3:=
 (ai (bi (mB (m2 dEq (mIx (aw 0) (kI 0)) (kSt "may"))) (cx (ag (iF "Least" Bo (ag (kI 1) (ag (aO nZ) nZ))) nZ)) bM)
  (ai (cL 1 (kj o_2 (ag (ae 0) nZ)))
  (ai (bi (mB (m2 dEq (mIx (aw 0) (kI 0)) (kSt "make"))) (c8 1 (iF "Out" vc (ag (mIx (aw 0) (kI 1)) nZ))) bM)
  (fw 1))))
def ve:=aP 2 Br
abbrev Bs:MF3:=
 (ai (eB 0 "Seeking" "sheet" (aH 0) (hZ (aw 3)))
  (ai (eB 0 "Seeking" "steps" (aH 0) (hZ nZ))
  (ai (eB 0 "Seeking" "bars" (aH 0) (hZ nZ))
  (ai (eB 0 "Seeking" "guards" (aH 0) (λ_=>aa (.dT [] [])))
  (ai (eB 0 "Seeking" "watches" (aH 0) (λ_=>aa (.dT [] [])))
  (ai (eB 0 "Seeking" "waiting" (aH 0) (hZ nZ))
  (ai (eB 0 "Seeking" "makers" (aH 0) (jn (aO (bq 1 [] (aV (mIx (aw 1) (kI 1))) (ax 0) (mB (m2 gc (mIx (aw 0) (kI 1)) kN)) (bn (ag (mIx (aw 0) (kI 1)) (ag (av m_2 (ag (ae 0) nZ)) nZ)))))))
  (ai (bZ (jg (ag (mIx (aw 1) (kI 1)) nZ)) (cY (bp (ax 5) (bp (ax 4) da))) (dP (cG 0 "Seeking" "take_guard" rH (bJ (mX (bn (ag (kSt "rule") (ag (ae 5) nZ)))) (bJ (mX (av ve (ag (ae 4) nZ))) cz)))))
  (bZ (aV (ae 2)) (ax 6) (dP (cG 0 "Seeking" "take_bar" vd (bJ (mX (ae 6)) cz))))))))))))
abbrev Bt:MTf:=d4 7 Bs
abbrev Bu:MF3:=
 (ai (dP (lN 0 Bt (bJ (mX (ae 1)) (bJ (mX (aO nZ)) (bJ (mX (aO (bq 1 [] (iC (ag (mIx (aw 1) (kI 0)) nZ)) (ax 0) kY kN))) cz)))))
  (ai (eB 0 "Seeking" "paper" (aH 0) (hZ nZ))
  (ai (eB 0 "Seeking" "count" (aH 0) (jn (kI 0)))
  (eB 0 "Seeking" "ended" (aH 0) (jn (kBl af))))))
abbrev Bv:MTf:=d4 2 Bu
abbrev Bw:MF3:=
 (cx (ag (bc "In" "thing" (ae 0)) nZ))
def Bx:=aP 3 Bw
abbrev By:MF3:=
 (ai (oX 1)
  (ai (bZ (aV (ae 0)) (cY (bp (ax 2) (bp (ax 3) da))) (ji 1 (ae 2) (m2 d7 (pf 1 (ae 2) (kI 0)) (ae 3))))
  (ph 1 (bf (ae 1)))))
def vf:=aP 4 By
abbrev b_7:MF3:=
 (ai (aX 3 (av vf (ag (ae 0) nZ)))
  (ai (cL 4 nZ)
  (ai (aX 5 (ae 2))
  (ai (bZ (aV (ae 1)) (ax 6) (ai (aX 7 (rm (ae 3) (ae 6) (kI 0)))
  (bi (dC (mB (m2 dGt (ae 5) (kI 0))) (mB (m2 dGt (ae 7) (kI 0)))) (ai (c8 4 (ae 6))
  (rC 5 (ae 7))) bM)))
  (fw 4)))))
def m_7:=aP 8 b_7
abbrev Bz:MF3:=
 (cx (bq 1 [2,1] (aV (ae 0)) (ax 0) (mB (m2 dEq (mIx (aw 2) (ae 0)) (ae 1))) (ae 0)))
def pJ:=aP 3 Bz
abbrev BA:MF3:=
 (bf (av m_7 (ag (bc "Least" "pieces" (ae 0)) (ag (av pJ (ag (ae 2) (ag (ae 1) (ag (kBl ac) nZ)))) (ag (bc "Least" "bound" (ae 0)) nZ)))))
def BB:=aP 3 BA
abbrev BC:MF3:=
 (bf (av jb (ag (aO (bq 2 [] (aV (ae 0)) (cY (bp (ax 0) (bp (ax 1) da))) kY (ae 1))) nZ)))
def vg:=aP 1 BC
abbrev BD:MF3:=
 (bf (av m_7 (ag (bc "Most" "pieces" (ae 0)) (ag (av pJ (ag (ae 2) (ag (ae 1) (ag (kBl af) nZ)))) (ag (m2 ke (av vg (ag (bc "Most" "pieces" (ae 0)) nZ)) (bc "Most" "bound" (ae 0))) nZ)))))
def BE:=aP 3 BD
abbrev BF:MF3:=
 (cx (ag (bc "Out" "thing" (ae 0)) nZ))
def BG:=aP 3 BF
abbrev BH:MF3:=
 (bf (vIf (bK (mIx (aw 2) (bc "In" "thing" (ae 0)))) (aO nZ) (aO (ag (bc "In" "thing" (ae 0)) nZ))))
def BI:=aP 4 BH
abbrev BJ:MF3:=
 (cx (bq 1 [1] (aV (ae 0)) (ax 0) (gG (bK (mIx (aw 1) (mIx (aw 0) (kI 0))))) (ae 0)))
def vh:=aP 2 BJ
abbrev BK:MF3:=
 (ai (aX 4 (av vh (ag (bc "Least" "pieces" (ae 0)) (ag (ae 2) nZ))))
  (bf (av m_7 (ag (ae 4) (ag (av pJ (ag (ae 3) (ag (ae 1) (ag (kBl af) nZ)))) (ag (m2 d7 (m2 ke (av vg (ag (ae 4) nZ)) (bc "Least" "bound" (ae 0))) (kI 1)) nZ))))))
def BL:=aP 5 BK
abbrev BM:MF3:=
 (bf (av m_7 (ag (bc "Most" "pieces" (ae 0)) (ag (av pJ (ag (ae 3) (ag (ae 1) (ag (kBl ac) nZ)))) (ag (m2 d7 (bc "Most" "bound" (ae 0)) (kI 1)) nZ)))))
def BN:=aP 4 BM
abbrev BO:MF3:=
 (cx (ag (bc "Out" "thing" (ae 0)) nZ))
def BP:=aP 4 BO
abbrev BQ:MF3:=
 (bf (vOr (m2 dIs (mIx (aw 1) (bc "In" "thing" (ae 0))) (kBl af)) (mIx (aw 2) (bc "In" "thing" (ae 0)))))
def rJ:=aP 3 BQ
abbrev BR:MF3:=
 (bf (av jb (ag (aO (bq 2 [1] (aV (ae 0)) (cY (bp (ax 0) (bp (ax 1) da))) (mB (m2 gc (mIx (aw 2) (ae 0)) (kBl af))) (ae 1))) nZ)))
def pK:=aP 2 BR
abbrev BS:MF3:=
 (bf (m2 dLt (av pK (ag (av vh (ag (bc "Least" "pieces" (ae 0)) (ag (ae 2) nZ))) (ag (ae 1) nZ))) (bc "Least" "bound" (ae 0))))
def rK:=aP 3 BS
abbrev BU:MF3:=
 (bf (av jb (ag (aO (bq 2 [1] (aV (ae 0)) (cY (bp (ax 0) (bp (ax 1) da))) (mB (m2 dIs (mIx (aw 2) (ae 0)) (kBl ac))) (ae 1))) nZ)))
def rL:=aP 2 BU
abbrev BV:MF3:=
 (bf (m2 dGt (av rL (ag (bc "Most" "pieces" (ae 0)) (ag (ae 1) nZ))) (bc "Most" "bound" (ae 0))))
def rM:=aP 3 BV
abbrev BW:MF3:=
 (bf (m2 dIs (mIx (aw 1) (bc "Out" "thing" (ae 0))) (kBl ac)))
def rN:=aP 3 BW
abbrev b_5:MF3:=
 (ai (bZ (aV (ae 0)) (ax 3) (bi (bK (be (aM "In" "lost" rJ (ae 3) (ag (ae 1) (ag (ae 2) nZ))) (be (aM "Out" "lost" rN (ae 3) (ag (ae 1) (ag (ae 2) nZ))) (be (aM "Least" "lost" rK (ae 3) (ag (ae 1) (ag (ae 2) nZ))) (aM "Most" "lost" rM (ae 3) (ag (ae 1) (ag (ae 2) nZ))))))) (fw 3) bM))
  (bf kN))
def m_5:=aP 4 b_5
abbrev b_1:MF3:=
 (ai (oX 2)
  (ai (bZ (aV (ae 1)) (ax 3) (ji 2 (ae 3) (kBl ac)))
  (eQ 2 (cx (bq 1 [2] (iC (ag (ae 0) nZ)) (ax 0) kY (m2 qX (ae 0) (ae 1)))))))
def m_1:=aP 4 b_1
def o_1:=jd 4 b_1
abbrev b_9:MF3:=
 (ai (aX 4 (av m_1 (ag (av cw (ag (ae 1) nZ)) (ag (ae 2) nZ))))
  (ai (cL 5 (mSl (aO (bq 1 [4,1] (aV (ae 3)) (ax 0) (dC (bK (mIx (aw 1) (ae 0))) (mB (m2 dIs (mIx (aw 2) (ae 0)) (kBl ac)))) (ae 0))) (λ_=>aa ab) (mPt (kI 1))))
  (ai (bZ (aV (bc "Seeking" "makers" (ae 0))) (cY (bp (ax 6) (bp (ax 7) da))) (bi (bK (mIx (aw 4) (ae 6))) (ki 5 (kh (be (aM "In" "lost_by" BI (av m_5 (ag (ae 7) (ag (ae 1) (ag (ae 4) nZ)))) (ag (ae 1) (ag (ae 4) (ag (ae 3) nZ)))) (be (aM "Out" "lost_by" BP (av m_5 (ag (ae 7) (ag (ae 1) (ag (ae 4) nZ)))) (ag (ae 1) (ag (ae 4) (ag (ae 3) nZ)))) (be (aM "Least" "lost_by" BL (av m_5 (ag (ae 7) (ag (ae 1) (ag (ae 4) nZ)))) (ag (ae 1) (ag (ae 4) (ag (ae 3) nZ)))) (aM "Most" "lost_by" BN (av m_5 (ag (ae 7) (ag (ae 1) (ag (ae 4) nZ)))) (ag (ae 1) (ag (ae 4) (ag (ae 3) nZ))))))))) bM))
  (fw 5))))
def m_9:=aP 8 b_9
def o_9:=jd 8 b_9
abbrev b_4:MF3:=
 (ai (bi (mB (m2 dEq (mIx (aw 2) (kI 0)) (kSt "world"))) (cx (m8 (ag (av cw (ag (ae 1) nZ)) nZ))) bM)
  (ai (bi (mB (m2 dEq (mIx (aw 2) (kI 0)) (kSt "group"))) (cx (ie "Seeking" "grounds_of_group" o_9 (ae 0) (ag (ae 1) (ag (mIx (aw 2) (kI 1)) (ag (ae 3) nZ))))) bM)
  (ai (cL 4 nZ)
  (ai (bZ (aV (m2 rE (bc "Seeking" "guards" (ae 0)) (ae 2))) (ax 5) (ki 4 (kh (be (aM "In" "sure_by" Bx (ae 5) (ag (ae 1) (ag (ae 3) nZ))) (be (aM "Out" "sure_by" BG (ae 5) (ag (ae 1) (ag (ae 3) nZ))) (be (aM "Least" "sure_by" BB (ae 5) (ag (ae 1) (ag (ae 3) nZ))) (aM "Most" "sure_by" BE (ae 5) (ag (ae 1) (ag (ae 3) nZ)))))))))
  (fw 4)))))
def m_4:=aP 6 b_4
def o_4:=jd 6 b_4
abbrev BX:MF3:=
 (cx (jL (aO (bq 1 [1] (aV (ae 0)) (ax 0) (bK (mIx (aw 1) (ae 0))) (ae 0))) (aO (bq 1 [1] (aV (ae 0)) (ax 0) (gG (bK (mIx (aw 1) (ae 0)))) (ae 0)))))
def vi:=aP 2 BX
abbrev BY:MF3:=
 (bf (vIf (mB (m2 dEq (mIx (aw 0) (kI 0)) (kSt "group"))) (bn (ag (mIx (aw 0) (kI 0)) (ag (aO (aV (mIx (aw 0) (kI 1)))) nZ))) (ae 0)))
def rO:=aP 1 BY
abbrev BZ:MF3:=
 (ai (cL 2 (pC (aU "Seeking" "sheet" (aH 0))))
  (ai (aX 5 (aO (bq 2 [] (pC (aU "Seeking" "steps" (aH 0))) (cY (bp (ax 0) (bp (ax 1) da))) kY (mIx (aw 0) (kI 0)))))
  (ai (cL 6 (kj o_1 (ag (av cw (ag (cF 2) nZ)) (ag (aO (ie "Seeking" "grounds" o_4 (cF 0) (ag (cF 2) (ag (ae 1) (ag (ae 5) nZ))))) nZ))))
  (ai (cL 7 nZ)
  (ai (cL 8 (ag (bn (ag kN (ag (av rO (ag (ae 1) nZ)) nZ))) nZ))
  (ai (nu 0 "Seeking" "steps" (bZ (lK (ag (pD (aU "Seeking" "steps" (aH 0))) nZ)) (cY (bp (ax 3) (bp (ax 4) da))) (ai (aX 9 (mIx (aw 3) (kI 0)))
  (ai (bi (dC (bK (mIx (aw 6) (ae 9))) (mB (m2 dIs (ae 4) kN))) (c8 7 (ae 3)) (bi (bK (mIx (aw 6) (ae 9))) (ai (c8 8 (bn (ag (ae 3) (ag (av rO (ag (ae 4) nZ)) nZ))))
  (ai (gi 2 (ae 9) (mN (mIx (aw 3) (kI 1))))
  (bZ (aV (aO (ie "Seeking" "grounds" o_4 (cF 0) (ag (cF 2) (ag (ae 4) (ag (av vi (ag (ae 5) (ag (cF 6) nZ))) nZ)))))) (ax 10) (gi 6 (ae 10) (kBl ac))))) bM))
  (gi 2 (ae 9) kN)))))
  (fA (bn (ag (aO (lL 7)) (ag (aO (lL 8)) nZ))))))))))
abbrev B0:MTf:=d4 11 BZ
abbrev B1:MF3:=
 (ai (aX 2 (aO (bq 2 [] (jg (ag (pD (aU "Seeking" "steps" (aH 0))) nZ)) (cY (bp (ax 0) (bp (ax 1) da))) (mB (m2 dIs (mIx (aw 1) (kI 1)) kN)) (ae 0))))
  (ai (aX 3 (aO (bq 1 [0] (aV (ae 2)) (ax 0) kY (mIx (aV (mIx (aV (pD (aU "Seeking" "steps" (aH 1)))) (ae 0))) (kI 0)))))
  (fA (mIx (aw 2) (vIf (mB (m2 dEq (av cw (ag (ae 1) nZ)) (kI 1))) (kI 0) (m2 d7 (m2 gN (ae 3) (mIx (aw 1) (m1 qH (kI 2)))) (kI 1)))))))
abbrev B2:MTf:=d4 4 B1
abbrev B3:MF3:=
 (ai (bZ (aV (aO (mSl (pD (aU "Seeking" "steps" (aH 0))) (mPt (ae 1)) (λ_=>aa ab)))) (cY (bp (ax 2) (bp (ax 3) da))) (nj 0 (aU "Seeking" "sheet" (aH 0)) (mIx (aw 2) (kI 0)) kN))
  (ai (eB 0 "Seeking" "steps" (aH 0) (hZ (mSl (pD (aU "Seeking" "steps" (aH 0))) (λ_=>aa ab) (mPt (ae 1)))))
  (eB 0 "Seeking" "waiting" (aH 0) (hZ nZ))))
abbrev B4:MTf:=d4 4 B3
abbrev B5:MF3:=
 (ai (fW 2 (cG 0 "Seeking" "line_to" B0 (bJ (mX (ae 1)) cz)))
  (ai (kB 0 (aU "Seeking" "paper" (aH 0)) (ae 2))
  (bi (bK (mIx (aw 2) (kI 0))) (ai (dP (cG 0 "Seeking" "take_back" B4 (bJ (cG 0 "Seeking" "place_for" B2 (bJ (mX (mIx (aw 2) (kI 0))) cz)) cz)))
  (dP (cG 0 "Seeking" "take_bar" vd (bJ (mX (mIx (aw 2) (kI 0))) cz)))) (eB 0 "Seeking" "ended" (aH 0) (jn (kBl ac))))))
abbrev pL:MTf:=d4 3 B5
abbrev B6:MF3:=
 (ai (nj 0 (aU "Seeking" "sheet" (aH 0)) (ae 1) (ae 2))
  (ai (kB 0 (aU "Seeking" "steps" (aH 0)) (bn (ag (bn (ag (ae 1) (ag (ae 2) nZ))) (ag (ae 3) nZ))))
  (px 0 (aU "Seeking" "waiting" (aH 0)) (ib (aU "Seeking" "watches" (aH 0)) (bn (ag (ae 1) (ag (ae 2) nZ)))))))
abbrev pM:MTf:=d4 4 B6
abbrev B7:MF3:=
 (bf (m2 dIs (mIx (aw 1) (bc "In" "thing" (ae 0))) (kBl ac)))
def B8:=aP 2 B7
abbrev B9:MF3:=
 (bf (vIf (mB (m2 dIs (mIx (aw 1) (bc "In" "thing" (ae 0))) kN)) (aO (ag (bn (ag (bc "In" "thing" (ae 0)) (ag (kBl ac) nZ))) nZ)) (aO nZ)))
def Ca:=aP 2 B9
abbrev Cb:MF3:=
 (bf (m2 dGe (av rL (ag (bc "Least" "pieces" (ae 0)) (ag (ae 1) nZ))) (bc "Least" "bound" (ae 0))))
def Cc:=aP 2 Cb
abbrev Cd:MF3:=
 (ai (aX 3 (av vf (ag (aO (bq 1 [1] (aV (ae 0)) (ax 0) (mB (m2 dIs (mIx (aw 1) (mIx (aw 0) (kI 0))) kN)) (ae 0))) nZ)))
  (cx (bq 1 [2,3] (rg (ae 3)) (ax 0) (mB (m2 dGe (m2 rh (ae 2) (ae 0)) (ae 1))) (ae 0))))
def vj:=aP 4 Cd
abbrev Ce:MF3:=
 (ai (aX 2 (m2 ke (bc "Least" "bound" (ae 0)) (av rL (ag (bc "Least" "pieces" (ae 0)) (ag (ae 1) nZ)))))
  (cx (bq 1 [] (aV (av vj (ag (bc "Least" "pieces" (ae 0)) (ag (ae 1) (ag (ae 2) nZ))))) (ax 0) kY (bn (ag (ae 0) (ag (kBl ac) nZ))))))
def Cf:=aP 3 Ce
abbrev Cg:MF3:=
 (bf (m2 dLe (av pK (ag (bc "Most" "pieces" (ae 0)) (ag (ae 1) nZ))) (bc "Most" "bound" (ae 0))))
def Ch:=aP 2 Cg
abbrev Ci:MF3:=
 (ai (aX 2 (m2 ke (av pK (ag (bc "Most" "pieces" (ae 0)) (ag (ae 1) nZ))) (bc "Most" "bound" (ae 0))))
  (cx (bq 1 [] (aV (av vj (ag (bc "Most" "pieces" (ae 0)) (ag (ae 1) (ag (ae 2) nZ))))) (ax 0) kY (bn (ag (ae 0) (ag (kBl af) nZ))))))
def Cj:=aP 3 Ci
abbrev Ck:MF3:=
 (bf (m2 dIs (mIx (aw 1) (bc "Out" "thing" (ae 0))) (kBl af)))
def Cm:=aP 2 Ck
abbrev Cn:MF3:=
 (bf (vIf (mB (m2 dIs (mIx (aw 1) (bc "Out" "thing" (ae 0))) kN)) (aO (ag (bn (ag (bc "Out" "thing" (ae 0)) (ag (kBl af) nZ))) nZ)) (aO nZ)))
def Co:=aP 2 Cn
abbrev Cp:MF3:=
 (ai (aX 2 kN)
  (ai (bZ (aV (ae 0)) (ax 3) (bi (gG (bK (be (aM "In" "sure" B8 (ae 3) (ag (ae 1) nZ)) (be (aM "Out" "sure" Cm (ae 3) (ag (ae 1) nZ)) (be (aM "Least" "sure" Cc (ae 3) (ag (ae 1) nZ)) (aM "Most" "sure" Ch (ae 3) (ag (ae 1) nZ))))))) (ai (aX 4 (be (aM "In" "tips" Ca (ae 3) (ag (ae 1) nZ)) (be (aM "Out" "tips" Co (ae 3) (ag (ae 1) nZ)) (be (aM "Least" "tips" Cf (ae 3) (ag (ae 1) nZ)) (aM "Most" "tips" Cj (ae 3) (ag (ae 1) nZ))))))
  (ai (aX 2 (vIf (mB (m2 dIs (ae 2) kN)) (ae 4) (aO (bq 1 [4] (aV (ae 2)) (ax 0) (mB (m2 fT (ae 0) (ae 1))) (ae 0)))))
  (bi (gG (bK (ae 2))) (cx nZ) bM))) bM))
  (ai (bi (mB (m2 dIs (ae 2) kN)) (bf kN) bM)
  (cx (bq 2 [] (aV (ae 2)) (cY (bp (ax 0) (bp (ax 1) da))) kY (bn (ag (ae 0) (ag (mN (ae 1)) nZ))))))))
abbrev Cq(as:LD):Option (LD ⊕ D):=zk 5 Cp as
abbrev Cr:MF3:=
 (ai (df (bK (pB (aU "Seeking" "waiting" (aH 0)))) (ai (fW 1 (rB 0 (aU "Seeking" "waiting" (aH 0))))
  (ai (aX 2 (pG Cq (ag (pB (kA (aU "Seeking" "guards" (aH 0)) (ae 1))) (ag (pB (aU "Seeking" "sheet" (aH 0))) nZ))))
  (ai (bi (mB (m2 dIs (ae 2) kN)) (fA (ae 1)) bM)
  (bZ (aV (ae 2)) (cY (bp (ax 3) (bp (ax 4) da))) (dP (cG 0 "Seeking" "put" pM (bJ (mX (ae 3)) (bJ (mX (ae 4)) (bJ (mX (ae 1)) cz))))))))) 1000000000)
  (fA kN))
abbrev Cs:MTf:=d4 5 Cr
abbrev Ct:MF3:=
 (ai (bi (bK (be (aM "In" "lost" rJ (ae 1) (ag (bc "Seeking" "sheet" (ae 0)) (ag (av m_1 (ag (av cw (ag (bc "Seeking" "sheet" (ae 0)) nZ)) (ag (aO nZ) nZ))) nZ))) (be (aM "Out" "lost" rN (ae 1) (ag (bc "Seeking" "sheet" (ae 0)) (ag (av m_1 (ag (av cw (ag (bc "Seeking" "sheet" (ae 0)) nZ)) (ag (aO nZ) nZ))) nZ))) (be (aM "Least" "lost" rK (ae 1) (ag (bc "Seeking" "sheet" (ae 0)) (ag (av m_1 (ag (av cw (ag (bc "Seeking" "sheet" (ae 0)) nZ)) (ag (aO nZ) nZ))) nZ))) (aM "Most" "lost" rM (ae 1) (ag (bc "Seeking" "sheet" (ae 0)) (ag (av m_1 (ag (av cw (ag (bc "Seeking" "sheet" (ae 0)) nZ)) (ag (aO nZ) nZ))) nZ))))))) (cx nZ) bM)
  (cx (bq 1 [2] (aV (be (aM "In" "named" uZ (ae 1) λ_=>aa []) (be (aM "Out" "named" vb (ae 1) λ_=>aa []) (be (aM "Least" "named" u9 (ae 1) λ_=>aa []) (aM "Most" "named" va (ae 1) λ_=>aa []))))) (ax 0) (bK (mIx (aw 1) (ae 0))) (ae 0))))
def Cu:=aP 3 Ct
abbrev Cv:MF3:=
 (cx (bq 2 [2,0,1] (aV (bc "Seeking" "makers" (ae 0))) (cY (bp (ax 0) (bp (ax 1) da))) (mB (m2 dEq (ae 0) (ae 4))) (av m_5 (ag (ae 1) (ag (bc "Seeking" "sheet" (ae 3)) (ag (ae 2) nZ))))))
def Cw:=aP 3 Cv
abbrev rP:MF3:=
 (ai (cL 3 (ag (ae 1) nZ))
  (ai (aX 4 (kI 0))
  (ai (df (mB (m2 dLt (ae 4) (av cw (ag (cF 3) nZ)))) (ai (bZ (aV (aM "Seeking" "lost_parts" Cw (ae 0) (ag (mIx (aw 3) (ae 4)) (ag (ae 2) nZ)))) (ax 5) (ki 3 (kh (aO (bq 1 [3] (aV (aM "Seeking" "keeping" Cu (ae 0) (ag (ae 5) (ag (ae 2) nZ)))) (ax 0) (mB (m2 mQ (ae 0) (cF 1))) (ae 0))))))
  (nh 4 (mX (kI 1)))) 1000000000)
  (eQ 3 (cx (lI (ae 3)))))))
def VL:=aP 6 rP
def lO:=jd 6 rP
abbrev Cy:MF3:=
 (ai (cL 1 (bq 1 [] (pC (aU "Seeking" "sheet" (aH 0))) (ax 0) kY (m2 gc (ae 0) (kBl af))))
  (ai (cL 2 nZ)
  (ai (aX 3 (pD (aU "Seeking" "makers" (aH 0))))
  (ai (aX 4 (kBl ac))
  (ai (df (bK (ae 4)) (ai (aX 5 (av cw (ag (cF 2) nZ)))
  (ai (cL 6 nZ)
  (ai (bZ (aV (ae 3)) (ax 7) (bi (dC (bK (mIx (aw 1) (mIx (aw 7) (kI 0)))) (mB (m2 dIs (av m_5 (ag (mIx (aw 7) (kI 1)) (ag (pB (aU "Seeking" "sheet" (aH 0))) (ag (cF 1) nZ)))) kN))) (ai (gi 1 (mIx (aw 7) (kI 0)) (kBl af))
  (c8 2 (ae 7))) (c8 6 (ae 7))))
  (ai (eQ 6 (aX 3 (ae 6)))
  (aX 4 (ja (m2 dGt (av cw (ag (cF 2) nZ)) (ae 5)) (av oW (ag (cF 1) nZ)))))))) 1000000000)
  (ai (eQ 2 (eB 0 "Seeking" "makers" (aH 0) (jn (aO (jL (ae 2) (ae 3))))))
  (eQ 1 (fA (ae 1)))))))))
abbrev Cz:MTf:=d4 8 Cy
abbrev CA:MF3:=
 (ai (fW 1 (cG 0 "Seeking" "loose_marks" Cz cz))
  (ai (aX 3 (aO (bq 2 [1] (uN (pC (aU "Seeking" "sheet" (aH 0)))) (cY (bp (ax 0) (bp (ax 1) da))) (dC (bK (mIx (aw 2) (ae 0))) (mB (m2 dIs (ae 1) (kBl ac)))) (ae 0))))
  (ai (bi (bK (ae 3)) (fA (bn (ag (kSt "group") (ag (aO (ie "Seeking" "kernel" lO (cF 0) (ag (mIx (aw 3) (kI 0)) (ag (ae 1) nZ)))) nZ)))) bM)
  (ai (bZ (jg (ag (ae 1) nZ)) (cY (bp (ax 2) (bp (ax 4) da))) (bi (bK (ae 4)) (dP (cG 0 "Seeking" "put" pM (bJ (mX (ae 2)) (bJ (mX (kBl af)) (bJ (mX (bn (ag (kSt "group") (ag (aO (ie "Seeking" "kernel" lO (cF 0) (ag (ae 2) (ag (ae 1) nZ)))) nZ)))) cz))))) bM))
  (fA kN)))))
abbrev CB:MTf:=d4 5 CA
abbrev CC:MF3:=
 (ai (aX 1 (kBl ac))
  (ai (df (bK (ae 1)) (ai (fW 2 (cG 0 "Seeking" "look_round" Cs cz))
  (ai (bi (mB (m2 dIs (ae 2) kN)) (fW 2 (cG 0 "Seeking" "put_loose_out" CB cz)) bM)
  (aX 1 (ja (m2 dIs (ae 2) kN) (m2 dGt (av cw (ag (pB (aU "Seeking" "waiting" (aH 0))) nZ)) (kI 0)))))) 1000000000)
  (fA (ae 2))))
abbrev rQ:MTf:=d4 3 CC
abbrev CD:MF3:=
 (cx (bq 2 [] (jg (ag (ae 0) nZ)) (cY (bp (ax 0) (bp (ax 1) da))) (bK (ae 1)) (ae 0)))
def rR:=jd 1 CD
abbrev b_8:MF3:=
 (ai (df (gG (bK (pD (aU "Seeking" "ended" (aH 0))))) (ai (fW 1 (cG 0 "Seeking" "settle" rQ cz))
  (bi (mB (m2 gc (ae 1) kN)) (dP (cG 0 "Seeking" "close" pL (bJ (mX (ae 1)) cz))) (bi (mB (m2 fT kN (pB (aU "Seeking" "sheet" (aH 0))))) (dP (cG 0 "Seeking" "put" pM (bJ (mX (m2 gN (pB (aU "Seeking" "sheet" (aH 0))) kN)) (bJ (mX (kBl ac)) (bJ (mX kN) cz))))) (ai (aX 2 (aO (o9 rR (ag (pB (aU "Seeking" "sheet" (aH 0))) nZ))))
  (ai (dP (cG 0 "Seeking" "close" pL (bJ (mX (bn (ag (kSt "world") (ag (pD (aU "Seeking" "count" (aH 0))) nZ)))) cz)))
  (ai (nz 0 "Seeking" "count" (kI 1))
  (fA (ae 2)))))))) 1000000000)
  (fA kN))
abbrev m_8:MTf:=d4 3 b_8
abbrev b_0:MF3:=
 (ai (m9 2 (nt "Seeking" Bv (ag (ae 0) nZ)))
  (ai (cL 3 nZ)
  (ai (fW 4 (jO 2 "Seeking" "another" m_8 cz))
  (ai (df (dC (mB (m2 gc (ae 4) kN)) (mB (m2 dLt (av cw (ag (cF 3) nZ)) (ae 1)))) (ai (c8 3 (ae 4))
  (fW 4 (jO 2 "Seeking" "another" m_8 cz))) 1000000000)
  (ai (bi (mB (m2 dIs (ae 4) kN)) (eQ 3 (nu 2 "Seeking" "paper" (bf (bn (ag (ae 3) (ag (kBl ac) (ag (pD (aU "Seeking" "paper" (aH 2))) nZ))))))) bM)
  (eQ 3 (bf (bn (ag (ae 3) (ag (kBl af) (ag (aO nZ) nZ)))))))))))
def m_0:=aP 5 b_0
abbrev b_6:MF3:=
 (ai (aX 1 (av uX (ag (ae 0) (ag (kI 6) nZ))))
  (ai (aX 2 (av uU (ag (ae 0) (ag (kI 1) nZ))))
  (ai (aX 3 (m2 bL (av m_3 (ag (ae 2) (ag (kI 27) nZ))) (kI 41)))
  (ai (bi (mB (m2 dEq (m2 bL (av m_3 (ag (ae 2) (ag (kI 26) nZ))) (kI 2)) (kI 1))) (aX 3 (m2 bL (ae 3) (kI 4))) bM)
  (ai (aX 4 (av m_0 (ag (av uT (ag (ae 1) nZ)) (ag (ae 3) nZ))))
  (ai (aX 5 (av m_0 (ag (av uY (ag (ae 1) (ag (ae 2) nZ))) (ag (ae 3) nZ))))
  (ai (bi (mOr (gG (bK (mR "tuple" (ae 4)))) (mOr (gG (bK (mR "tuple" (ae 5)))) (mOr (mB (m2 dNe (av cw (ag (ae 4) nZ)) (kI 3))) (mB (m2 dNe (av cw (ag (ae 5) nZ)) (kI 3)))))) (bf (kBl af)) bM)
  (bf (ja (m2 dEq (mIx (aw 4) (kI 0)) (mIx (aw 5) (kI 0))) (ja (mR "bool" (mIx (aw 4) (kI 1))) (ja (m2 dEq (mIx (aw 4) (kI 1)) (mIx (aw 5) (kI 1))) (m2 dLe (av cw (ag (mIx (aw 4) (kI 0)) nZ)) (ae 3)))))))))))))
def m_6:=aP 6 b_6
abbrev cmN(s:Scope):LSt:=s.names.tail.filterMap λz=>match z.2 with |.local=>aa z.1 |.free=>aa z.1 | _=>ab
variable{fi:MF2}{g:L2.D->LS->Option LS}{ft:MF4}{fe:MF1}
def RQ{c:Str->Addr}{X:Cx}{d tg iter:Expr}{e:LEx}{scope:Scope}{pos:Pos}(k:Nat)(js:LN)(h:X.calm=ac)(hi:DIe c X tg iter fi)(j:∀cl V5 ex b a,DG c (X.comp scope (cmN scope) cl V5 ex b a) tg k g)(n:∀cl V5 ex b a,DTs c (X.comp scope (cmN scope) cl V5 ex b a) e ft)(i:∀cl V5 ex b a,DE c (X.comp scope (cmN scope) cl V5 ex b a) d fe)(f:lq scope X.env.scope.names X.N (cmN scope) k js=ac:=by rfl)(m:∀x,kS iter X.env x=pure x:=by intro _;rfl)(l:js.Nodup:=by decide):DO c X (.ListComp d [(tg,iter,e,0)] scope pos) (bq k js fi g ft fe):=kg k js _ h hi j n i f m l
seal DSs DS DX DE DO oW dEq gN fT qX dIs gc rh rE qH mQ ax cY bp da cw m1 m2 dC c8 rC nh mB lN av pG kj o9 jL bq ag bJ dP jg uN ki eQ nu ph bc bZ pf rm bi mR mIx rg lL m8 aO iF aM ie cG jO bM cz gG kh mOr be mPt ji gi bf cx fA fw lK iC ai aV aX oX cL fW mSl mV lI bK bn ae cF aw df pH mX pA kB nz pB pC pD px aU ib kA rB nj py pE eB aH jb ja vIf mN vOr jn hZ nt m9
set_option hygiene false
local macro_rules
 | `(@1) => `(by first | exact RS W | exact RT W | exact RU W | exact RV W | exact RW W | exact RX W | exact RY W | exact RZ W | exact R0 W | exact R1 W | exact R3 W | exact R4 W | exact R5 W | exact R6 W | exact R7 W | exact R8 W | exact R9 W | exact Sa W | exact Sb W | exact Sc W | exact Sd W | exact Sf W | exact Sg W | exact Sh W | exact Si W | exact Sj W | exact Sk W | exact Sm W | exact Sn W | exact So W | exact Sr W | exact Ss W | exact Su W | exact Sv W | exact Sw W | exact Sx W | exact Sy W | exact HE W | exact Sz W | exact SA W | exact SB W | exact SC W | exact SD W | exact SE W | exact SF W | exact SG W | exact SH W | exact HF W | exact SI W | exact SJ W | exact SK W | exact SL W | exact SM W | exact SN W | exact SO W | exact SQ W | exact SR W | exact SS W | exact SU W | exact SV W | exact SW W | exact SX W | exact HG W | exact SY W | exact SZ W | exact S0 W | exact S1 W | exact S2 W | exact S3 W | exact S4 W | exact S5 W | exact S6 W | exact S7 W | exact S8 W)
 | `(@0) => `(by repeat' first | ((with_reducible show DE _ _ _ _); first | exact dv _ | exact E4 | refine oN ?_ ?_ | refine x6 ?_ ?_ ?_ | exact dvc _ | refine NX _ ?_ ?_ ?_ | exact MT | refine E6 ?_ | exact E5 | exact MS | refine DE.orE ?_ ?_ | refine qJ ?_ ?_ rfl W.q4 PySem.boot_len ?_ | refine MX ?_ ?_ ?_ ?_ | refine Fb ?_ ?_ ?_ | refine E9 ?_ ?_ | refine E8 ?_ | refine NU @1 hr ?_ | refine NY _ ?_ @1 hr ?_ | refine NZ _ ?_ @1 hr | refine GV (eq _ ?_ ?_ (d3 (pv _))) | refine GV (eq _ ?_ ?_ (d3 (pvc _))) | refine oT "In" W.qa (HH W).ok (hr.mono (by decide)) (glc rfl) W.rs W.e_66.b ?_ | refine oT "Out" W.p0 (HI W).ok (hr.mono (by decide)) (glc rfl) W.ri W.e_67.b ?_ | refine oT "In" W.qa (HH W).ok (hr.mono (by decide)) rfl W.rs W.e_66.b ?_ | refine oT "Out" W.p0 (HI W).ok (hr.mono (by decide)) rfl W.ri W.e_67.b ?_ | refine oT "Least" W.oD (S9 W).ok (hr.mono (by decide)) rfl W.qq W.e_68.b ?_ | refine oT "Most" W.pu (Ta W).ok (hr.mono (by decide)) rfl W.ro W.e_69.b ?_ | refine Fq (T := "tuple") W.pj rfl W.nq boot_tuple rfl W.pw ?_ | refine Fq (T := "bool") W.pz rfl W.nq boot_bool rfl W.p6 ?_ | refine DO.de ?_) | ((with_reducible show DA _ _ _ _); first | refine xZ ?_ ?_ | exact MU) | ((with_reducible show DSs _ _ _ _); first | refine bI ?_ | refine aF ?_ ?_ | exact NN) | ((with_reducible show PE _ _ _); first | exact pv _ | exact pvc _) | ((with_reducible show DC _ _ _ _); first | exact dvC _ | exact yq _ | refine DE.dc ?_ | refine DO.dc ?_) | ((with_reducible show DO _ _ _ _); first | refine MW ?_ | refine Fm ?_ ?_ ?_ | refine NV @1 hr ?_ | refine G8 _ ?_ @1 hr ?_ | exact PZ _ rfl rfl W.n7 rfl W.n0 | refine P2 rfl rfl W.n7 rfl W.pb ?_ | refine ue n4 rfl W.n7 ?_) | ((with_reducible show DT _ _ _ _); first | refine oJ ?_ ?_ ?_ ?_ | refine x8 ?_ | refine M1 ?_ | refine DW.dt ?_) | ((with_reducible show DP _ _ _ _ _); first | refine d3 ?_ | refine eq _ ?_ ?_ ?_) | ((with_reducible show DG _ _ _ _ _); first | exact dgc _ _ | exact NC _ _ (by assumption) | refine NF rfl ?_) | ((with_reducible show DS _ _ _ _); first | refine qQ ?_ | refine qN _ (by assumption) ?_ | refine jc ?_ ?_ ?_ | refine jH ?_ | refine uj _ (by assumption) ?_ | refine gf (kk := 99) dJ rfl ?_ ?_ ?_ | refine y4 ?_ | refine FA ?_ | exact NR _ | refine lw _ ?_ | refine uL _ (by assumption) ?_ | refine FR ?_ ?_ ?_ | refine oQ _ dJ ?_ ?_ | refine NT (lh (jF jE wQ wR xI ?_ (eO (DE.pe ?_) dZ))) | refine FB (lh (jF jE wT wU xK ?_ (eO (DE.pe ?_) dZ))) | refine G0 _ ?_ ?_ (xy (show DP _ _ _ _ _ from ?_) (show DZ _ _ _ _ _ from ?_) rfl) | refine Qt (lh (jF jE wQ wR xI (show DP _ _ _ _ _ from ?_) (eO (DE.pe ?_) dZ)))) | ((with_reducible show DAB _ _ _ _); first | refine qE ?_ ?_ | exact MV) | ((with_reducible show DGs _ _ _ _ _); first | refine NE ?_ ?_ | exact ND) | ((with_reducible show DI _ _ _ _ _); first | refine oO ?_ | refine Ot rfl W.nL ?_ | refine NI rfl W.pb ?_ | refine PJ rfl W.n0 ?_) | ((with_reducible show DAX _ _ _ _); first | refine GO ?_ ?_ | exact Qj) | ((with_reducible show DB _ _ _ _); first | exact dvB _ | refine zf (eq _ ?_ ?_ (d3 (pv _))) | refine DE.db ?_) | ((with_reducible show DTs _ _ _ _); first | exact NL | refine qM ?_) | ((with_reducible show PA _ _ _); first | exact dZ) | ((with_reducible show DZ _ _ _ _ _); first | refine P3 ?_ | refine GG ?_ | exact QK) | ((with_reducible show DW _ _ _ _); first | refine ya ?_ ?_ | refine x9 ?_) | ((with_reducible show DPt _ _ _ _); first | refine Fk ?_ | exact Fj) | ((with_reducible show DX _ _ _ _); first | refine G3 _ ?_ @1 hr ?_ | refine QG _ ?_ @1 hr | refine DE.dx ?_) | ((with_reducible show DL _ _ _ _); first | refine zg (eq _ ?_ ?_ (d3 (pv _)))) | ((with_reducible show Cls _ _); first | exact W.ad | exact W.og | exact W.lb | exact W.mu | exact W.nS) | ((with_reducible show cJ _ _ _); first | exact W.g5 | exact W.lj | exact W.ny | exact W.ld | exact W.ll | exact W.nk | exact W.ky | exact W.kv | exact W.ir | exact W.lp | exact W.kF | exact W.l0 | exact W.kT | exact W.md | exact W.lk | exact W.mm) | ((with_reducible show DIe _ _ _ _ _); first | refine DI.de ?_) | refine RQ _ _ rfl ?_ ?_ ?_ ?_ | (with_reducible first | exact M7 | exact Nm | ((refine No ?_); with_unfolding_all assumption) | exact Nx | exact Ny | exact Fe | exact Ff | exact M4 | exact M5 | exact M6 | exact Nb | exact Nh | exact M9 | exact Po | exact Nk | exact Nf | exact Nl | ((refine Np ?_); with_unfolding_all assumption) | exact M8 | exact Nn | exact Oz | ((refine OA ?_); with_unfolding_all assumption) | exact Nd | exact Na | exact Ni | exact Ng) | intro _ _ _ _ _)
set_option hygiene true
variable{a:Wa}
def RS(W:Wd K mg a):qD P w K mg base a 1 "_law_part_again" a.e_40 ["_law_part_here"] uS:=by
 show W.e_40.pk (ba (F:=AR) W.e_40.F Rh λ_ _ _ _ _ _ hr=>?_);have b:=hr.units;unfold AR;show @0
def RZ(W:Wd K mg a):qD P w K mg base a 2 "_law_again" a.e_27 ["_law_plain_here"] uT:=by
 show W.e_27.pk (ba (F:=AS) W.e_27.F Hr λ_ _ _ _ _ _ hr=>?_);unfold AS;have nd:=Hr.nd;show @0
def RW(W:Wd K mg a):qD P w K mg base a 1 "_law_cell_at" a.e_38 ["_law_script","_law_k"] uU:=by
 show W.e_38.pk (ba (F:=AT) W.e_38.F Rg λ_ _ _ _ _ _ hr=>?_);unfold AT;show @0
def RT(W:Wd K mg a):qD P w K mg base a 1 "_law_mixed" a.e_3 ["_law_cell","_law_k"] m_3:=by
 show W.e_3.pk (ba (F:=b_3) W.e_3.F Hk λ_ _ _ _ _ _ hr=>?_);unfold b_3;have nd:=Hk.nd;show @0
def RX(W:Wd K mg a):qO P w K mg base a 1 "_law_base" a.e_25 ["_law_cell","_law_many"] AU:=by
 show W.e_25.pk (mS (F:=uV) W.e_25.F Ho λ_ _ _ _ _ _ hr=>?_);have b:=hr.units;unfold uV;have nd:=Ho.nd;show @0
def RU(W:Wd K mg a):qD P w K mg base a 2 "_law_items" a.e_39 ["_law_cell","_law_k","_law_many"] AW:=by
 show W.e_39.pk (ba (F:=AV) W.e_39.F Hl λ_ _ _ _ _ _ hr=>?_);unfold AV;have nd:=Hl.nd;show @0
def RV(W:Wd K mg a):qD P w K mg base a 3 "_law_part" a.e_23 ["_law_cell","_law_k","_law_many"] uW:=by
 show W.e_23.pk (ba (F:=AX) W.e_23.F Hm λ_ _ _ _ _ _ hr=>?_);have b:=hr.units;unfold AX;have nd:=Hm.nd;show @0
def RY(W:Wd K mg a):qD P w K mg base a 4 "_law_rule" a.e_24 ["_law_cell","_law_many"] AZ:=by
 show W.e_24.pk (ba (F:=AY) W.e_24.F AJ λ_ _ _ _ _ _ hr=>?_);have b:=hr.units;unfold AY;have nd:=AJ.nd;show(aF @0 (aF @0 (aF @0 (aF (qP 4 1 [0,1] ["_law_j","_law_cell","_law_many"] AJ.nd rfl @0 @0 @0 @0) @0))))
def S6(W:Wd K mg a):qD P w K mg base a 5 "_law_plain" a.e_26 ["_law_script","_law_top"] uX:=by
 show W.e_26.pk (ba (F:=A0) W.e_26.F Hq λ_ _ _ _ _ _ hr=>?_);have b:=hr.units;unfold A0;have nd:=Hq.nd;show @0
def S8(W:Wd K mg a):qD P w K mg base a 3 "_law_turned" a.e_16 ["_law_plain_here","_law_cell"] uY:=by
 show W.e_16.pk (ba (F:=A1) W.e_16.F AK λ_ _ _ _ _ _ hr=>?_);have b:=hr.units;unfold A1;have nd:=AK.nd;show(aF @0 (aF @0 (aF (jc @0 (aF @0 (aF (lw 2 (uj 2 AK.nd (yT @0 @0))) @0)) @0) @0)))
def Sa(W:Wd K mg a):gO P w K mg base a 1 "Seeking" "drop_wider" a.h6 ["self","bar"] A4:=by
 show W.h6.pk W.ad (gm (F:=A3) W.h6.F rG λ_ _ _ _ _ _ hr=>?_);have b:=hr.units;unfold A3;have nd:=rG.nd
 show(QQ (w:=2) (pr:=3) (by decide) (QR (by decide)) QS (by decide) (ox rG.nd rfl (by first |show bX rfl |show bA rfl) (D5 (x8 @0) (zh (hu1 b) (eq "Seeking" W.ad W.g5 (d3 (pv 0))) @0 (rfl,rfl,rfl,rfl)) (tP (dZ)))) (Ea dJ rfl (oO @0) (xg rG.nd rfl (by first |show bX rfl |show bA rfl)) (D7 (xU (g:=tDG _ (ax 0)) (tt:=tDT _ (mB (m2 fT (ae 0) (aO (ib (aU "Seeking" "watches" (aH 2)) (ae 1)))))) (te:=tD _ (ae 0)) 1 [3,0] ["why","pair","self"] rG.nd rfl (by first |show bX rfl |show bA rfl) rfl (xl @0) (λ_ _ _ _ _=>(DG.pg (dgc 0 1))) (λ_ _ _ _ _=>(qM (oJ @0 @0 @0 (DL.db (zh (hu1 b) (eq "Seeking" W.ad W.g5 (d3 (pvc 2))) @0 (rfl,rfl,rfl,rfl)))))) (λ_ _ _ _ _=>(DE.pe @0))))) (bI (lw 2 (gf (kk:=99) dJ rfl @0 @0 (bI (jc @0 (bI (gf (kk:=99) dJ rfl (oO (oN (DL.dc (zg (eq "Seeking" W.ad W.lj (d3 (pv 0))))) @0)) @0 (bI (QN (lh (jF jE PySem.F.slot_list_remove PySem.F.type_list_remove (QM b) (GU (hu1 b) (eq "Seeking" W.ad W.g5 (d3 (pv 0))) @0) (eO (DE.pe @0) (dZ)))))))) @0))))))
def R1(W:Wd K mg a):qPD P w K mg base a 1 "In" "named" a.e_41 ["self"] uZ:=by
 show W.e_41.pk W.og (ba (F:=A5) W.e_41.F Rj λ_ _ _ _ _ _ hr=>?_);unfold A5;show @0
def R6(W:Wd K mg a):qPD P w K mg base a 1 "In" "wants" a.e_49 ["self"] A7:=by
 show W.e_49.pk W.og (ba (F:=A6) W.e_49.F Rk λ_ _ _ _ _ _ hr=>?_);unfold A6;show @0
def R0(W:Wd K mg a):qD P w K mg base a 1 "things_of" a.e_34 ["items"] u8:=by
 show W.e_34.pk (ba (F:=A8) W.e_34.F Q6 λ_ _ _ _ _ _ hr=>?_);unfold A8;show(bI (jH (O9 rfl rfl W.oo rfl W.rc @0)))
def R4(W:Wd K mg a):qPD P w K mg base a 2 "Least" "named" a.e_43 ["self"] u9:=by
 show W.e_43.pk W.lb (ba (F:=A9) W.e_43.F RA λ_ _ _ _ _ _ hr=>?_);unfold A9;show @0
def R8(W:Wd K mg a):qPD P w K mg base a 1 "Least" "wants" a.e_59 ["self"] Bb:=by
 show W.e_59.pk W.lb (ba (F:=Ba) W.e_59.F RB λ_ _ _ _ _ _ hr=>?_);unfold Ba;show @0
def R5(W:Wd K mg a):qPD P w K mg base a 2 "Most" "named" a.e_46 ["self"] va:=by
 show W.e_46.pk W.mu (ba (F:=Bc) W.e_46.F RG λ_ _ _ _ _ _ hr=>?_);unfold Bc;show @0
def R9(W:Wd K mg a):qPD P w K mg base a 1 "Most" "wants" a.e_62 ["self"] Be:=by
 show W.e_62.pk W.mu (ba (F:=Bd) W.e_62.F RH λ_ _ _ _ _ _ hr=>?_);unfold Bd;show @0
def R3(W:Wd K mg a):qPD P w K mg base a 1 "Out" "named" a.e_42 ["self"] vb:=by
 show W.e_42.pk W.nS (ba (F:=Bf) W.e_42.F Rr λ_ _ _ _ _ _ hr=>?_);unfold Bf;show @0
def R7(W:Wd K mg a):qPD P w K mg base a 1 "Out" "wants" a.e_54 ["self"] Bh:=by
 show W.e_54.pk W.nS (ba (F:=Bg) W.e_54.F Rs λ_ _ _ _ _ _ hr=>?_);unfold Bg;show @0
def Sc(W:Wd K mg a):gO P w K mg base a 3 "Seeking" "take_guard" a.hY ["self","why","guard"] rH:=by
 show W.hY.pk W.ad (gm (F:=Bi) W.hY.F Hy λ_ _ _ _ _ _ hr=>?_);have b:=hr.units;unfold Bi;have nd:=Hy.nd;show(aF (Qy (EK (hu1 b) (eq "Seeking" W.ad W.ky (d3 (pv 0))) (DE.pe @0) (DE.pe @0) rfl)) (aF (gf (kk:=99) dJ rfl @0 @0 (bI (gf (kk:=99) dJ rfl @0 @0 (bI (QD (lh (jF jE wQ wR xI (QC (hu1 b) (eq "Seeking" W.ad W.g5 (d3 (pv 0))) (DE.pe @0) (tP (dZ)) (rfl,rfl,rfl,rfl)) (eO (pv 1) (dZ))))))))) @0))
def HH(W:Wd K mg a):Pm P w K mg base CX0 1 (a.cl "In") "__init__" a.e_66 ["self","thing"] (spI (K,a.cl) "In" ["self","thing"].length Bj):=
 W.e_66.pk W.og (uq W.e_66.F Ri λ_ _ _ _ _ _ hr=>(oS W.og W.ny (pv 0) (dv 1) um))
def HI(W:Wd K mg a):Pm P w K mg base CX0 1 (a.cl "Out") "__init__" a.e_67 ["self","thing"] (spI (K,a.cl) "Out" ["self","thing"].length vc):=
 W.e_67.pk W.nS (uq W.e_67.F Rq λ_ _ _ _ _ _ hr=>(oS W.nS W.nk (pv 0) (dv 1) um))
def Sb(W:Wd K mg a):qD P w K mg base a 3 "guard_of_bar" a.e_48 ["bar"] Bl:=by
 show W.e_48.pk (ba (F:=Bk) W.e_48.F Rc λ_ _ _ _ _ _ hr=>?_);unfold Bk;show @0
def Si(W:Wd K mg a):gO P w K mg base a 4 "Seeking" "take_bar" a.ii ["self","bar"] vd:=by
 show W.ii.pk W.ad (gm (F:=Bm) W.ii.F Hz λ_ _ _ _ _ _ hr=>?_);unfold Bm;have nd:=Hz.nd;show @0
def S9(W:Wd K mg a):Pm P w K mg base CX0 1 (a.cl "Least") "__init__" a.e_68 ["self","bound","items"] (spI (K,a.cl) "Least" ["self","bound","items"].length Bo):=
 W.e_68.pk W.lb (uq W.e_68.F Rz λ_ _ _ _ _ _ hr=>(oS W.lb W.lk (pv 0) (dv 1) (oS W.lb W.ld (pv 0) (DO.de (ue n4 rfl W.n7 (dvC 2))) um)))
def Ta(W:Wd K mg a):Pm P w K mg base CX0 1 (a.cl "Most") "__init__" a.e_69 ["self","bound","items"] (spI (K,a.cl) "Most" ["self","bound","items"].length HD):=
 W.e_69.pk W.mu (uq W.e_69.F RF λ_ _ _ _ _ _ hr=>(oS W.mu W.mm (pv 0) (dv 1) (oS W.mu W.ll (pv 0) (DO.de (ue n4 rfl W.n7 (dvC 2))) um)))
def Sd(W:Wd K mg a):qD P w K mg base a 3 "part_of" a.e_33 ["told"] Bq:=by
 show W.e_33.pk (ba (F:=Bp) W.e_33.F Hc λ_ _ _ _ _ _ hr=>?_);have b:=hr.units;unfold Bp;have nd:=Hc.nd;show @0
def Sg(W:Wd K mg a):qD P w K mg base a 4 "body_of" a.e_2 ["rule"] m_2:=by
 show W.e_2.pk (ba (F:=b_2) W.e_2.F Hg λ_ _ _ _ _ _ hr=>?_);unfold b_2;show @0
def Sf(W:Wd K mg a):qO P w K mg base a 4 "body_of" a.e_2 ["rule"] o_2:=by
 show W.e_2.pk (mS (F:=b_2) W.e_2.F Hg λ_ _ _ _ _ _ hr=>?_);unfold b_2;show @0
def Sh(W:Wd K mg a):qD P w K mg base a 5 "guard_of" a.e_21 ["rule"] ve:=by
 show W.e_21.pk (ba (F:=Br) W.e_21.F Hh λ_ _ _ _ _ _ hr=>?_);have b:=hr.units;unfold Br;have nd:=Hh.nd;show @0
def Tb(W:Wd K mg a):cv P w K mg base CX0 6 a.e_10.1 a.e_10.2 ["self","plain","bars","sheet"] (ic (K,a.cl) ["self","plain","bars","sheet"].length Bt):=
 gm (k:=5) (N:=["self","plain","bars","sheet","rule","number","bar"]) (F:=Bs) W.e_10.F HC λcdv A outer s H V4 hr=>by
  unfold Bs;have nd:=HC.nd;show @0
def Tc(W:Wd K mg a):gO P w K mg base a 8 "Seeking" "__init__" a.e_11 ["self","plain"] Bv:=by
 show W.e_11.pk W.ad (gm (F:=Bu) W.e_11.F RM λ_ _ _ _ _ _ hr=>?_);unfold Bu;show(aF (y4 (QY @0 rfl W.pq W.o6 (Tb W) (hr.mono (by decide)) W.e_10.b @0)) @0)
def SE(W:Wd K mg a):qPD P w K mg base a 1 "In" "sure_by" a.e_51 ["self","sheet","order"] Bx:=by
 show W.e_51.pk W.og (ba (F:=Bw) W.e_51.F Rm λ_ _ _ _ _ _ hr=>?_);unfold Bw;show @0
def Sj(W:Wd K mg a):qD P w K mg base a 1 "weights_of" a.e_14 ["items"] vf:=by
 show W.e_14.pk (ba (F:=By) W.e_14.F AI λ_ _ _ _ _ _ hr=>?_);have b:=hr.units;unfold By;have nd:=AI.nd;show(aF (yB 1 AI.nd) (aF (gf (kk:=99) dJ rfl @0 @0 (bI (yC b @0 @0 (x6 @0 (Qf b @0 @0 @0 (rfl,rfl,rfl,rfl)) @0)))) (bI (Qh 1 @0))))
def Sm(W:Wd K mg a):qD P w K mg base a 2 "enough" a.e_7 ["items","things","lack"] m_7:=by
 show W.e_7.pk (ba (F:=b_7) W.e_7.F uO λ_ _ _ _ _ _ hr=>?_);have b:=hr.units;unfold b_7;have nd:=uO.nd;show(aF @0 (aF @0 (aF @0 (aF (gf (kk:=99) dJ rfl @0 @0 (aF (qN 7 uO.nd (Qp b @0 @0 @0 (rfl,rfl,rfl,rfl))) (bI (jc @0 (aF @0 (bI (Q0 5 uO.nd @0))) @0)))) @0))))
def Sk(W:Wd K mg a):qD P w K mg base a 1 "with_entry" a.e_15 ["things","sheet","truth"] pJ:=by
 show W.e_15.pk (ba (F:=Bz) W.e_15.F Rb λ_ _ _ _ _ _ hr=>?_);have b:=hr.units;unfold Bz;show(bI (jH (kg 1 [2,1] ["thing","truth","sheet"] rfl @0 @0 @0 @0)))
def SG(W:Wd K mg a):qPD P w K mg base a 3 "Least" "sure_by" a.e_61 ["self","sheet","order"] BB:=by
 show W.e_61.pk W.lb (ba (F:=BA) W.e_61.F RD λ_ _ _ _ _ _ hr=>?_);unfold BA;show @0
def Sn(W:Wd K mg a):qD P w K mg base a 1 "worth_of" a.e_35 ["items"] vg:=by
 show W.e_35.pk (ba (F:=BC) W.e_35.F Q9 λ_ _ _ _ _ _ hr=>?_);unfold BC;show(bI (qQ (qJ (yg rfl) yh rfl W.p5 boot_sum @0)))
def SH(W:Wd K mg a):qPD P w K mg base a 3 "Most" "sure_by" a.e_64 ["self","sheet","order"] BE:=by
 show W.e_64.pk W.mu (ba (F:=BD) W.e_64.F RJ λ_ _ _ _ _ _ hr=>?_);unfold BD;show @0
def SF(W:Wd K mg a):qPD P w K mg base a 1 "Out" "sure_by" a.e_56 ["self","sheet","order"] BG:=by
 show W.e_56.pk W.nS (ba (F:=BF) W.e_56.F Rv λ_ _ _ _ _ _ hr=>?_);unfold BF;show @0
def Sz(W:Wd K mg a):qPD P w K mg base a 1 "In" "lost_by" a.e_53 ["self","sheet","without","order"] BI:=by
 show W.e_53.pk W.og (ba (F:=BH) W.e_53.F Rp λ_ _ _ _ _ _ hr=>?_);unfold BH;show @0
def So(W:Wd K mg a):qD P w K mg base a 1 "outside" a.e_36 ["items","without"] vh:=by
 show W.e_36.pk (ba (F:=BJ) W.e_36.F Ra λ_ _ _ _ _ _ hr=>?_);unfold BJ;show @0
def SB(W:Wd K mg a):qPD P w K mg base a 3 "Least" "lost_by" a.e_45 ["self","sheet","without","order"] BL:=by
 show W.e_45.pk W.lb (ba (F:=BK) W.e_45.F Hu λ_ _ _ _ _ _ hr=>?_);unfold BK;have nd:=Hu.nd;show @0
def SC(W:Wd K mg a):qPD P w K mg base a 3 "Most" "lost_by" a.e_65 ["self","sheet","without","order"] BN:=by
 show W.e_65.pk W.mu (ba (F:=BM) W.e_65.F RL λ_ _ _ _ _ _ hr=>?_);unfold BM;show @0
def SA(W:Wd K mg a):qPD P w K mg base a 1 "Out" "lost_by" a.e_58 ["self","sheet","without","order"] BP:=by
 show W.e_58.pk W.nS (ba (F:=BO) W.e_58.F Ry λ_ _ _ _ _ _ hr=>?_);unfold BO;show @0
def Su(W:Wd K mg a):qPD P w K mg base a 1 "In" "lost" a.e_28 ["self","sheet","without"] rJ:=by
 show W.e_28.pk W.og (ba (F:=BQ) W.e_28.F Ro λ_ _ _ _ _ _ hr=>?_);unfold BQ;show(bI (qQ (M3 @0 @0)))
def Sr(W:Wd K mg a):qD P w K mg base a 1 "worth_not_out" a.e_13 ["items","sheet"] pK:=by
 show W.e_13.pk (ba (F:=BR) W.e_13.F Q8 λ_ _ _ _ _ _ hr=>?_);unfold BR;show(bI (qQ (qJ (yg rfl) yh rfl W.p5 boot_sum @0)))
def Sw(W:Wd K mg a):qPD P w K mg base a 2 "Least" "lost" a.e_30 ["self","sheet","without"] rK:=by
 show W.e_30.pk W.lb (ba (F:=BS) W.e_30.F RE λ_ _ _ _ _ _ hr=>?_);unfold BS;show @0
def Ss(W:Wd K mg a):qD P w K mg base a 1 "worth_in" a.e_19 ["items","entries"] rL:=by
 show W.e_19.pk (ba (F:=BU) W.e_19.F Q7 λ_ _ _ _ _ _ hr=>?_);unfold BU;show(bI (qQ (qJ (yg rfl) yh rfl W.p5 boot_sum @0)))
def Sx(W:Wd K mg a):qPD P w K mg base a 2 "Most" "lost" a.e_31 ["self","sheet","without"] rM:=by
 show W.e_31.pk W.mu (ba (F:=BV) W.e_31.F RK λ_ _ _ _ _ _ hr=>?_);unfold BV;show @0
def Sv(W:Wd K mg a):qPD P w K mg base a 1 "Out" "lost" a.e_29 ["self","sheet","without"] rN:=by
 show W.e_29.pk W.nS (ba (F:=BW) W.e_29.F Rx λ_ _ _ _ _ _ hr=>?_);unfold BW;show @0
def HE(W:Wd K mg a):qD P w K mg base a 3 "lost_part" a.e_5 ["body","sheet","without"] m_5:=by
 show W.e_5.pk (ba (F:=b_5) W.e_5.F Hj λ_ _ _ _ _ _ hr=>?_);unfold b_5;have nd:=Hj.nd;show @0
def Sy(W:Wd K mg a):qD P w K mg base a 1 "marks" a.e_1 ["many","some"] m_1:=by
 show W.e_1.pk (ba (F:=b_1) W.e_1.F pI λ_ _ _ _ _ _ hr=>?_);have b:=hr.units;unfold b_1;have nd:=pI.nd;show(aF (yB 2 pI.nd) (aF (gf (kk:=99) dJ rfl @0 @0 (bI (yC b @0 @0 @0))) (bI (lw 2 (jH (kg 1 [2] ["thing","listed"] rfl @0 @0 @0 (λ_ _ _ _ _=>(FQ b @0 @0))))))))
def SI(W:Wd K mg a):qO P w K mg base a 1 "marks" a.e_1 ["many","some"] o_1:=by
 show W.e_1.pk (mS (F:=b_1) W.e_1.F pI λ_ _ _ _ _ _ hr=>?_);have b:=hr.units;unfold b_1;have nd:=pI.nd;show(aF (yB 2 pI.nd) (aF (gf (kk:=99) dJ rfl @0 @0 (bI (yC b @0 @0 @0))) (bI (lw 2 (jH (kg 1 [2] ["thing","listed"] rfl @0 @0 @0 (λ_ _ _ _ _=>(FQ b @0 @0))))))))
def SD(W:Wd K mg a):qPO P w K mg base a 4 "Seeking" "grounds_of_group" a.e_9 ["self","sheet","group","order"] o_9:=by
 show W.e_9.pk W.ad (mS (F:=b_9) W.e_9.F AN λ_ _ _ _ _ _ hr=>?_);unfold b_9;have nd:=AN.nd
 show(aF @0 (aF (uj 5 AN.nd (by show Fm ?a ?b ?c;(case a=>show(DO.de (kg 1 [4,1] ["thing","without","sheet"] rfl (DI.de (oO (dv 3))) (λ_ _ _ _ _=>(dgc 0 1)) (λ_ _ _ _ _=>(qM (DW.dt (ya (x8 (DE.db (oN (yq 1) (dvc 0)))) (x9 (oJ Fe Ff (DE.db (oN (yq 2) (dvc 0))) (DE.db E5))))))) (λ_ _ _ _ _=>(dvc 0)))));(case b=>show Fj);(case c=>show(Fk E4)))) @0))
def HF(W:Wd K mg a):qPO P w K mg base a 5 "Seeking" "grounds" a.e_4 ["self","sheet","why","order"] o_4:=by
 show W.e_4.pk W.ad (mS (F:=b_4) W.e_4.F Hx λ_ _ _ _ _ _ hr=>?_);have b:=hr.units;unfold b_4;have nd:=Hx.nd;show(aF @0 (aF @0 (aF @0 (aF (gf (kk:=99) dJ rfl (oO (Q2 (hu1 b) @0 @0)) @0 @0) @0))))
def Td(W:Wd K mg a):qD P w K mg base a 1 "needed_first" a.e_37 ["order","needed"] vi:=by
 show W.e_37.pk (ba (F:=BX) W.e_37.F Rf λ_ _ _ _ _ _ hr=>?_);unfold BX;show(bI (jH (yT @0 @0)))
def SJ(W:Wd K mg a):qD P w K mg base a 1 "own_why" a.e_22 ["why"] rO:=by
 show W.e_22.pk (ba (F:=BY) W.e_22.F Re λ_ _ _ _ _ _ hr=>?_);have b:=hr.units;unfold BY;show @0
def SK(W:Wd K mg a):gO P w K mg base a 6 "Seeking" "line_to" a.e_17 ["self","why"] B0:=by
 show W.e_17.pk W.ad (gm (F:=BZ) W.e_17.F uP λ_ _ _ _ _ _ hr=>?_);unfold BZ;have nd:=uP.nd;show(aF (uj 2 uP.nd (ue n4 rfl W.n7 (DL.dc (zg (eq "Seeking" W.ad W.ir (d3 (pv 0))))))) (aF (qP 5 2 [] ["pair","cause"] uP.nd rfl (G5 @0) @0 @0 @0) (aF @0 (aF @0 (aF @0 (aF (Ha 0 "Seeking" "steps" (gf (kk:=99) dJ rfl @0 @0 (aF @0 (aF (jc @0 @0 (bI (jc @0 (aF @0 (aF (FR @0 @0 (Fa @0)) (bI (gf (kk:=99) dJ rfl (oO (DO.de (G8 "Seeking" @0 (HF W) hr (qE @0 (qE @0 (qE (Gr (Td W) hr @0) @0)))))) @0 @0)))) @0))) @0)))) @0))))))
def SL(W:Wd K mg a):gO P w K mg base a 1 "Seeking" "place_for" a.e_32 ["self","bar"] B2:=by
 show W.e_32.pk W.ad (gm (F:=B1) W.e_32.F AM λ_ _ _ _ _ _ hr=>?_);have b:=hr.units;unfold B1;show(aF (qP 2 2 [] ["place","step"] AM.nd rfl @0 @0 @0 @0) (aF (qP 3 1 [0] ["place","self"] AM.nd rfl @0 @0 @0 @0) (bI (FA (oN @0 (Fb @0 @0 (x6 @0 (Qm (jF jE PySem.F.slot_list_index PySem.F.type_list_index (GP b) (DE.pe @0) (eO (DE.pe (oN @0 (Nj @0))) (dZ)))) @0)))))))
def SM(W:Wd K mg a):gO P w K mg base a 1 "Seeking" "take_back" a.h9 ["self","many"] B4:=by
 show W.h9.pk W.ad (gm (F:=B3) W.h9.F HA λ_ _ _ _ _ _ hr=>?_);unfold B3;have nd:=HA.nd;show(aF (gf (kk:=99) dJ rfl @0 @0 (bI (GW (xj (DE.pe @0) (xi (eq "Seeking" W.ad W.ir (d3 (pv 0))) (DE.pe @0) xE (by intro _;rfl)) rfl rfl rfl)))) @0)
def S5(W:Wd K mg a):gO P w K mg base a 7 "Seeking" "close" a.e_12 ["self","why"] pL:=by
 show W.e_12.pk W.ad (gm (F:=B5) W.e_12.F Hw λ_ _ _ _ _ _ hr=>?_);unfold B5;have nd:=Hw.nd;show @0
def HG(W:Wd K mg a):gO P w K mg base a 1 "Seeking" "put" a.kQ ["self","thing","truth","why"] pM:=by
 show W.kQ.pk W.ad (gm (F:=B6) W.kQ.F RN λ_ _ _ _ _ _ hr=>?_);have b:=hr.units;unfold B6;show(aF (GW (xj (DE.pe @0) (xi (eq "Seeking" W.ad W.ir (d3 (pv 0))) (DE.pe @0) xE (by intro _;rfl)) rfl rfl rfl)) (aF @0 (bI (Qu (lh (jF jE wT wU xK (eq "Seeking" W.ad W.kv (d3 (pv 0))) (eO (zh (hu1 b) (eq "Seeking" W.ad W.g5 (d3 (pv 0))) @0 (rfl,rfl,rfl,rfl)) (dZ))))))))
def SO(W:Wd K mg a):qPD P w K mg base a 1 "In" "sure" a.e_50 ["self","sheet"] B8:=by
 show W.e_50.pk W.og (ba (F:=B7) W.e_50.F Rl λ_ _ _ _ _ _ hr=>?_);unfold B7;show @0
def SU(W:Wd K mg a):qPD P w K mg base a 1 "In" "tips" a.e_52 ["self","sheet"] Ca:=by
 show W.e_52.pk W.og (ba (F:=B9) W.e_52.F Rn λ_ _ _ _ _ _ hr=>?_);unfold B9;show @0
def SR(W:Wd K mg a):qPD P w K mg base a 2 "Least" "sure" a.e_60 ["self","sheet"] Cc:=by
 show W.e_60.pk W.lb (ba (F:=Cb) W.e_60.F RC λ_ _ _ _ _ _ hr=>?_);unfold Cb;show @0
def SN(W:Wd K mg a):qD P w K mg base a 2 "heavy" a.e_20 ["items","sheet","lack"] vj:=by
 show W.e_20.pk (ba (F:=Cd) W.e_20.F He λ_ _ _ _ _ _ hr=>?_);have b:=hr.units;unfold Cd;have nd:=He.nd;show(aF @0 (bI (jH (kg 1 [2,3] ["thing","lack","weights"] rfl (DI.de (Qd @0)) @0 (λ_ _ _ _ _=>(qM (oJ @0 @0 (DE.db (Qe b @0 @0)) @0))) @0))))
def SW(W:Wd K mg a):qPD P w K mg base a 3 "Least" "tips" a.e_44 ["self","sheet"] Cf:=by
 show W.e_44.pk W.lb (ba (F:=Ce) W.e_44.F Ht λ_ _ _ _ _ _ hr=>?_);unfold Ce;have nd:=Ht.nd;show @0
def SS(W:Wd K mg a):qPD P w K mg base a 2 "Most" "sure" a.e_63 ["self","sheet"] Ch:=by
 show W.e_63.pk W.mu (ba (F:=Cg) W.e_63.F RI λ_ _ _ _ _ _ hr=>?_);unfold Cg;show @0
def SX(W:Wd K mg a):qPD P w K mg base a 3 "Most" "tips" a.e_47 ["self","sheet"] Cj:=by
 show W.e_47.pk W.mu (ba (F:=Ci) W.e_47.F Hv λ_ _ _ _ _ _ hr=>?_);unfold Ci;have nd:=Hv.nd;show @0
def SQ(W:Wd K mg a):qPD P w K mg base a 1 "Out" "sure" a.e_55 ["self","sheet"] Cm:=by
 show W.e_55.pk W.nS (ba (F:=Ck) W.e_55.F Ru λ_ _ _ _ _ _ hr=>?_);unfold Ck;show @0
def SV(W:Wd K mg a):qPD P w K mg base a 1 "Out" "tips" a.e_57 ["self","sheet"] Co:=by
 show W.e_57.pk W.nS (ba (F:=Cn) W.e_57.F Rw λ_ _ _ _ _ _ hr=>?_);unfold Cn;show @0
def Te(W:Wd K mg a):Pk P w K mg base CX0 4 "pressed_by" a.e_70 ["guard","sheet"] (spN (K,a.cl) ["guard","sheet"].length Cq):=by
 show W.e_70.pk (QO (F:=Cp) W.e_70.F Hi λ_ _ _ _ _ _ hr=>?_);have b:=hr.units;unfold Cp;have nd:=Hi.nd;show(aF @0 (aF @0 (aF @0 (bI (jH (kg 2 [] ["thing","truth"] rfl @0 @0 @0 (λ_ _ _ _ _=>(E6 (xZ @0 (xZ (Fa @0) @0))))))))))
def S2(W:Wd K mg a):gO P w K mg base a 5 "Seeking" "look_round" a.h7 ["self"] Cs:=by
 show W.h7.pk W.ad (gm (F:=Cr) W.h7.F uQ λ_ _ _ _ _ _ hr=>?_);have b:=hr.units;unfold Cr;have nd:=uQ.nd;show(aF (oQ 1000000000 dJ @0 (aF (uL 1 uQ.nd (Qv (jF jE PySem.F.slot_list_pop PySem.F.type_list_pop Ml (eq "Seeking" W.ad W.kv (d3 (pv 0))) (eO D4 (dZ))))) (aF (qN 2 uQ.nd (QP (Te W) hr (qE (zf (GU (hu1 b) (eq "Seeking" W.ad W.ky (d3 (pv 0))) @0)) @0))) @0))) @0)
def SZ(W:Wd K mg a):qPD P w K mg base a 3 "Seeking" "keeping" a.j0 ["self","part","without"] Cu:=by
 show W.j0.pk W.ad (ba (F:=Ct) W.j0.F RP λ_ _ _ _ _ _ hr=>?_);unfold Ct;show @0
def SY(W:Wd K mg a):qPD P w K mg base a 4 "Seeking" "lost_parts" a.h8 ["self","thing","without"] Cw:=by
 show W.h8.pk W.ad (ba (F:=Cv) W.h8.F RO λ_ _ _ _ _ _ hr=>?_);have b:=hr.units;unfold Cv;show(bI (jH (kg 2 [2,0,1] ["head","body","without","self","thing"] rfl @0 @0 @0 @0)))
def S1(W:Wd K mg a):qPO P w K mg base a 5 "Seeking" "kernel" a.kr ["self","thing","without"] lO:=by
 show W.kr.pk W.ad (mS (F:=rP) W.kr.F AQ λ_ _ _ _ _ _ hr=>?_);unfold rP;have nd:=AQ.nd;show(aF @0 (aF @0 (aF (oQ 1000000000 dJ @0 (aF (gf (kk:=99) dJ rfl @0 @0 (bI (FB (lh (jF jE wT wU xK (pv 3) (eO (DE.pe (DO.de (kg 1 [3] ["other","found"] rfl @0 @0 (λ_ _ _ _ _=>(qM (oJ Nu Nq @0 (NM 1)))) @0))) (dZ))))))) (bI (Ql 4 AQ.nd @0)))) (bI (lw 3 (jH (Pi rfl rfl W.oo @0)))))))
def S0(W:Wd K mg a):gO P w K mg base a 4 "Seeking" "loose_marks" a.hO ["self"] Cz:=by
 show W.hO.pk W.ad (gm (F:=Cy) W.hO.F uR λ_ _ _ _ _ _ hr=>?_);unfold Cy;have nd:=uR.nd;show(aF (NP 1 1 [] ["entry"] uR.nd rfl (G5 @0) (λ_ _ _ _ _=>@0) (λ_ _ _ _ _=>@0) (λ_ _ _ _ _=>@0)) (aF @0 (aF @0 (aF @0 (aF (oQ 1000000000 dJ @0 (aF @0 (aF @0 (aF (gf (kk:=99) dJ rfl @0 @0 (bI (jc (DW.dt (ya @0 (x9 (oJ @0 @0 (Gr (HE W) hr @0) @0)))) @0 @0))) (aF @0 (bI (qN 4 uR.nd (E9 @0 (E8 (qJ (Om rfl) On rfl W.qs boot_any @0)))))))))) (aF (lw 2 (G0 "Seeking" W.ad W.kF (xy (d3 (pv 0)) (GG (DO.de (yT @0 @0))) rfl))) @0))))))
def S3(W:Wd K mg a):gO P w K mg base a 6 "Seeking" "put_loose_out" a.gF ["self"] CB:=by
 show W.gF.pk W.ad (gm (F:=CA) W.gF.F AO λ_ _ _ _ _ _ hr=>?_);unfold CA;have nd:=AO.nd;show(aF @0 (aF (qP 3 2 [1] ["thing","entry","without"] AO.nd rfl (QJ rfl W.nL @0) @0 @0 @0) @0))
def S4(W:Wd K mg a):gO P w K mg base a 7 "Seeking" "settle" a.j3 ["self"] rQ:=by
 show W.j3.pk W.ad (gm (F:=CC) W.j3.F HB λ_ _ _ _ _ _ hr=>?_);unfold CC;have nd:=HB.nd;show @0
def Tf(W:Wd K mg a):qO P w K mg base a 1 "numbers" a.e_18 ["truths"] rR:=by
 show W.e_18.pk (mS (F:=CD) W.e_18.F Q5 λ_ _ _ _ _ _ hr=>?_);unfold CD;show @0
def HJ(W:Wd K mg a):gO P w K mg base a 8 "Seeking" "another" a.e_8 ["self"] m_8:=by
 show W.e_8.pk W.ad (gm (F:=b_8) W.e_8.F AL λ_ _ _ _ _ _ hr=>?_);have b:=hr.units;unfold b_8;have nd:=AL.nd;show(aF (oQ 1000000000 dJ @0 (aF @0 (bI (jc @0 @0 (bI (jc @0 (bI (y4 (G3 "Seeking" @0 (HG W) hr (GO (DE.dx (Q1 (jF jE PySem.F.slot_list_index PySem.F.type_list_index (GP b) (zf (eq "Seeking" W.ad W.ir (d3 (pv 0)))) (eO (DE.pe @0) (dZ))))) @0)))) (aF (qN 2 AL.nd (DO.de (Pe (Tf W) hr @0))) (aF @0 (aF (QZ "Seeking" W.ad W.kT @0 @0) @0))))))))) @0)
def S7(W:Wd K mg a):qD P w K mg base a 10 "worlds" a.e_0 ["plain","most"] m_0:=by
 show W.e_0.pk (Q4 (F:=b_0) W.e_0.F rF λ_ _ _ _ _ _ hr=>?_);unfold b_0;have nd:=rF.nd;show(aF (P4 2 rF.nd (QI "Seeking" W.n5 (Tc W).ok (hr.mono (by decide)) rfl W.p4 W.e_11.b @0)) (aF @0 (aF (uL 4 rF.nd (G4 "Seeking" @0 (HJ W) hr)) (aF (oQ 1000000000 dJ @0 (aF @0 (bI (uL 4 rF.nd (G4 "Seeking" @0 (HJ W) hr))))) (aF (jc @0 (bI (lw 3 (Ha 2 "Seeking" "paper" @0))) @0) @0)))))
def Tg(W:Wd K mg a):qD P w K mg base a 11 "law" a.e_6 ["_law_script"] m_6:=by
 show W.e_6.pk (ba (F:=b_6) W.e_6.F Hs λ_ _ _ _ _ _ hr=>?_);have b:=hr.units;unfold b_6;have nd:=Hs.nd;show(aF @0 (aF @0 (aF @0 (aF @0 (aF @0 (aF @0 (aF (jc (DW.dt (yb @0 (yb @0 (yb @0 (M0 @0))))) @0 @0) @0)))))))
unseal DSs DS DX DE DO oW dEq gN fT qX dIs gc rh rE qH mQ ax cY bp da cw m1 m2 dC c8 rC nh mB lN av pG kj o9 jL bq ag bJ dP jg uN ki eQ nu ph bc bZ pf rm bi mR mIx rg lL m8 aO iF aM ie cG jO bM cz gG kh mOr be mPt ji gi bf cx fA fw lK iC ai aV aX oX cL fW mSl mV lI bK bn ae cF aw df pH mX pA kB nz pB pC pD px aU ib kA rB nj py pE eB aH jb ja vIf mN vOr jn hZ nt m9
local macro_rules | `(tactic| walk_at "evS")=>`(tactic| first | decide | lia | assumption | exact ⟨by decide,by decide⟩ | exact ⟨by lia,by lia⟩ | exact .inl ⟨by decide,by decide⟩ | exact .inr ⟨by decide,by decide⟩ | exact .inl ⟨by lia,by lia⟩ | exact .inr ⟨by lia,by lia⟩ | exact ⟨by decide,by decide,by decide⟩)
local macro_rules | `(tactic| walk_at "evO")=>`(tactic| first | with_reducible exact gj | with_reducible exact lG | with_reducible exact rb | with_reducible exact mW | with_reducible exact yV | with_reducible exact Gn | with_reducible exact ko _ _ | with_reducible exact dNe_int _ _ | ((with_reducible apply ca); (focus walk_at "evS")) | ((with_reducible apply lF); (focus walk_at "evS")) | ((with_reducible apply dMul_eq); (focus walk_at "evS")) | ((with_reducible apply pc); (focus first | assumption | exact .inl (by walk_at "evS") | exact .inr ⟨by lia,by lia⟩)) | ((with_reducible apply uE); (focus walk_at "evS")) | ((with_reducible apply dShr_eq); (focus walk_at "evS")) | with_reducible exact qT _ _ | with_reducible exact dNe_str _ _ | with_reducible exact dEq_bl _ _ | with_reducible exact dAndB_eq | exact dEq_nil _ _ | exact dNe_nil _ _ | assumption | rfl)
local macro_rules | `(tactic| walk_at "ev")=>`(tactic| first
 | with_reducible assumption
 | ((with_reducible apply ap); (focus walk_at "ev"); (focus walk_at "ev"); (focus walk_at "evO"))
 | ((with_reducible apply bB); (focus walk_at "ev"))
 | ((with_reducible apply dh); (focus walk_at "ev"); (focus first | assumption | rfl))
 | ((with_reducible apply jI); (focus walk_at "ev"); (focus walk_at "ev"))
 | ((with_reducible apply mT); (focus walk_at "ev"); (focus walk_at "ev"))
 | ((with_reducible apply oU); (focus walk_at "ev"))
 | ((with_reducible apply jJ); (focus walk_at "ev"); (focus walk_at "ev"))
 | ((with_reducible apply FI); (focus walk_at "ev"); (focus walk_at "ev"))
 | ((with_reducible apply vNot_eq); (focus walk_at "ev"))
 | ((with_reducible apply ao); (focus walk_at "ev"); (focus walk_at "ev"))
 | ((with_reducible apply cS); (focus walk_at "ev"))
 | ((with_reducible apply bR); (focus walk_at "ev"))
 | ((with_reducible apply aE); (focus walk_at "ev"); (focus first | with_reducible assumption | with_reducible exact d9 _ _ | assumption | exact d9 _ _ | exact Go _ _ | rfl))
 | ((with_reducible apply callS_is); (focus walk_at "ev"); (focus assumption); (focus rfl))
 | ((with_reducible apply bg); (focus walk_at "ev"); (focus walk_at "ev"); (focus first | assumption | rfl))
 | ((with_reducible apply Gq); (focus walk_at "ev"); (focus rfl); (focus rfl))
 | ((with_reducible apply o7); (focus walk_at "ev"); (focus rfl); (focus rfl))
 | ((with_reducible apply eS); (focus walk_at "ev"); (focus rfl))
 | rfl)
local macro_rules | `(tactic| walk_at "nrm")=>`(tactic| simp only [Gj,qd,sU])
local macro_rules | `(tactic| walk_at "set")=>`(tactic| (apply ak; (first | with_reducible apply bo | with_reducible apply dO); (focus walk_at "ev"); walk_at "nrm"))
local macro_rules | `(tactic| walk_at "if0")=>`(tactic| ((with_reducible first | apply aY | apply eT); (focus walk_at "ev")))
def p60:(0:Int)<10 ^ (60:Int).toNat:=by decide
def HK:mF 10 60:=(by decide,by decide,by decide)
variable{M:LS}
def Th{d c:Type}{k:Nat}{js:LN}(C:List d)(f:d->D)(q:c->D)(P:c->Prop)
 (hi:fi M=aa (C.map f))(hz:C.length<=16777216)(i:∀x∈C,∃z,P z/\gJ g ft fe (iD k js M) (f x)=aa (aa (q z))):∃a:List c,bq k js fi g ft fe M=aa (a.map q)/\a.length=C.length/\∀z∈a,P z:=by
 have key:∀b:List d,(∀x∈b,∃z,P z/\gJ g ft fe (iD k js M) (f x)=aa (aa (q z)))->∃a:List c,eP (gJ g ft fe (iD k js M)) (b.map f)=aa (a.map q)/\a.length=b.length/\∀z∈a,P z:=by
  intro b
  induction b with
  |nil=>intro _;show⟨[],rfl,rfl,λz hz=>nomatch hz⟩
  |cons y b m=>
   intro h;have(z,u,n):=h y az;have(a,e,l,p):=m λx j=>h x (bh _ j);show(z::a,?_,by rw[cr,cr,l],λw r=>?_)
   .rw[bF];unfold eP
    grind
   .grind
 have(a,e,l,p):=key C i;show(a,?_,l,p);unfold bq
 grind
abbrev nmP:Prt->LI0
 |.inn t=>[t]
 |.out t=>[t]
 |.least _ B=>B.map (·.1)
 |.most _ B=>B.map (·.1)
variable{f:MF1}
def CF{g:MF1}{a b:LD}(h:f M=aa (.lst a))(h':g M=aa (.lst b))(c:a.length+b.length<=16777216):jL f g M=aa (a++b):=by
 unfold jL
 grind
abbrev inS(C:LI0)(i:Nat):Bool:=C.any λx=>x==(i:Int)
def Ti(ks:List Key)(k j:Key):gh (hV ks k) j=(gh ks j || decide (k=j)):=by
 unfold hV
 by_cases e:gh ks k=ac
 .grind
 .rw[if_neg e];unfold gh;simp
def Tj(ks:List Key)(k:Key):(hV ks k).length<=ks.length+1:=by
 unfold hV
 grind
variable{i:Nat}{fk fv:MF1}{d:L2.D}{C:LD}
def Tk{x:D}{k:Key}{ks:List Key}(a:fv M=aa d)(h2:fk M=aa x)(b:jh x=aa k)(c:M[i]?=aa (.ownd ks C))(e:ks.length<16777216):
  ji i fk fv M=aa (.nx (M.set i (.ownd (hV ks k) (iH ks C k d)))):=by
 unfold ji
 grind
def HL(n:Int)(C:LI0)(d:0<=n)(m:n<=60)(i:C.length<=1000000):b_1 (fR 4 [.int n,.lst (C.map D.int)])=aa (.rtO (((bO n.toNat).map (inS C)).map D.bl)):=by
 have(ρ',e,ks,ds,b,rfl,c,a):=N6 (g:=ax 3) (F:=ji 2 (ae 3) (λ_=>aa _)) (fi:=aV (ae 1)) C D.int
  (λpre M=>∃(ks:List Key) (ds:LD) (b:Sl),M=[.im (.int n),.im (.lst (C.map D.int)),.ownd ks ds,b]/\ks.length<=pre.length/\∀k:Int,gh ks (.inl k)=pre.any λx=>x==k)
  rfl ([],[],.no,rfl,aL _,λ_=>rfl) (by
   rintro pre x post M ex ⟨ks,ds,b,rfl,c,a⟩;have l:pre.length<C.length:=by rw[ex];simp
   show(_,_,rfl,.inl (Tk rfl rfl rfl rfl (by lia)),hV ks _,_,_,rfl,?_,λk=>?_)
   .have:=Tj ks (.inl x);rw[aR];change _<=pre.length+1
    lia
   .rw[Ti,a,any_append]
    congr 1
    simp only[gx,any_nil,sN]
    by_cases h:x=k
    .subst h;simp
    .rw[decide_eq_false (λq=>h (tG q))];show(beq_eq_false_iff_ne.mpr h).symm)
 show ur rfl (ur e ?_);rw[map_map];show congrArg _ (gK _ _ _ (qU rfl d (by lia)) (by rw[cV];lia) λj f=>?_);show gg rfl rfl (ap rfl rfl ?_);change aa _=_;rw[a];rfl
def HM(n:Int)(C:LI0)(b:0<=n)(c:n<=60)(a:C.length<=1000000):m_1 [.int n,.lst (C.map D.int)]=aa (.lst (((bO n.toNat).map (inS C)).map D.bl)):=lx (HL n C b c a)
abbrev rS(ws:LB0):LI0:=((bO ws.length).filter λi=>ws.getD i af).map λ(i:Nat)=>(i:Int)
def vm(ws:LB0)(i:Int):i∈rS ws↔0<=i/\ws.getD i.toNat af=ac:=by
 unfold rS;rw[aJ];constructor
 .rintro⟨j,a,rfl⟩;have(_,b):=ci.mp a;show(by lia,by show b)
 .rintro⟨d,h⟩;show(i.toNat,ci.mpr (fI.mpr ?_,h),by lia)
  by_cases c:i.toNat<ws.length
  .show c
  .rw[bH,ig (by lia)]at h
   nomatch h
def HN(p:Prt):Bq [p.toD]=aa p.obj:=by
 cases p <;> rfl
variable{es:LOB}{B:LII}
def CG(h:InN es.length B)(hz:B.length<=100000):rL [.lst (B.map itD),.lst (es.map shD)]=aa (.int (cE (·==aa ac) es B)):=by
 show dB (dA (aE (ao (bR (eR B itD _ _ rfl (by lia) λz a=>(dM rfl (bB (ap (bg rfl rfl (je (h z a).1 (h z a).2.1)) rfl (oV _ _))) λ_=>rfl))) rfl) (yv (λt=>es.getD t.toNat ab==aa ac) B)))
def CH(h:InN es.length B)(hz:B.length<=100000):pK [.lst (B.map itD),.lst (es.map shD)]=aa (.int (cE (λe=>!(e==aa af)) es B)):=by
 show dB (dA (aE (ao (bR (eR B itD _ _ rfl (by lia) λz a=>(dM rfl (bB (ap (bg rfl rfl (je (h z a).1 (h z a).2.1)) rfl (FJ _ _))) λ_=>rfl))) rfl) (yv (λt=>!(es.getD t.toNat ab==aa af)) B)))
variable{ws:LB0}
def HP(h:InN es.length B)(c:ws.length=es.length)(hz:B.length<=100000):
  vh [.lst (B.map itD),.lst (ws.map D.bl)]=aa (.lst ((B.filter λz=>!(ws.getD z.1.toNat af)).map itD)):=by
 show lx (congrArg _ (eR B itD _ itD rfl (by lia) λz a=>?_));have b:=h z a;show dM rfl (oU (dh (bg rfl rfl (jK b.1 (by rw[c];show b.2.1))) rfl)) λ_=>rfl
def Tl(h:InN es.length B)(hz:B.length<=100000):
  pK [.lst ((B.filter λz=>!(ws.getD z.1.toNat af)).map itD),.lst (es.map shD)]=aa (.int (bY (λt=>!(es.getD t.toNat ab==aa af) && !(ws.getD t.toNat af)) B)):=by
 have c:=gW (λz:Int×Int=>!(ws.getD z.1.toNat af)) B;have a:InN es.length (B.filter λz=>!(ws.getD z.1.toNat af)):=λz b=>h z (ci.mp b).1;show(CH a (by lia)).trans (congrArg (λz=>aa _) (EU (λt=>!(es.getD t.toNat ab==aa af)) (λt=>!(ws.getD t.toNat af)) B))
def Tn(p:Prt)(h:p.Ok es.length)(a:ws.length=es.length):∀m,m=(match p with |.inn _=>rJ |.out _=>rN |.least _ _=>rK |.most _ _=>rM) ->
  m [p.obj,.lst (es.map shD),.lst (ws.map D.bl)]=aa (.bl (p.lost es ws)):=by
 intro m e;subst e
 cases p with
 |inn t=>show dB (dA (FI (ap (bg rfl rfl (je h.1 h.2)) rfl (oV _ _)) (bg rfl rfl (jK h.1 (by rw[a];show h.2)))))
 |out t=>show dB (dA (ap (bg rfl rfl (je h.1 h.2)) rfl (oV _ _)))
 |least k B=>show dB (dA (ap (aE (ao (aE rfl (HP h.1 a h.2)) (ao rfl rfl)) (Tl h.1 h.2)) rfl rfl))
 |most k B=>show dB (dA (ap (aE rfl (CG h.1 h.2)) rfl rfl))
variable{fo:MF1}{fa:MF2}
def HQ(p:Prt)(h:p.Ok es.length)(b:ws.length=es.length)(a:fo M=aa p.obj)(ha:fa M=aa [.lst (es.map shD),.lst (ws.map D.bl)]):
  be (aM "In" "lost" rJ fo fa) (be (aM "Out" "lost" rN fo fa) (be (aM "Least" "lost" rK fo fa) (aM "Most" "lost" rM fo fa))) M=aa (.bl (p.lost es ws)):=by
 have hm:=Tn p h b _ rfl
 cases p with
 |inn t=>show dN ((cy a rfl ha).trans hm)
 |out t=>show bC (bD a (by decide)) (dN ((cy a rfl ha).trans hm))
 |least k B=>show bC (bD a (by decide)) (bC (bD a (by decide)) (dN ((cy a rfl ha).trans hm)))
 |most k B=>show bC (bD a (by decide)) (bC (bD a (by decide)) (bC (bD a (by decide)) ((cy a rfl ha).trans hm)))
def To(p:Prt)(h:p.Ok es.length)(a:fo M=aa p.obj)(ha:fa M=aa [.lst (es.map shD)]):
  be (aM "In" "sure" B8 fo fa) (be (aM "Out" "sure" Cm fo fa) (be (aM "Least" "sure" Cc fo fa) (aM "Most" "sure" Ch fo fa))) M=aa (.bl (p.sure es)):=by
 cases p with
 |inn t=>show dN ((cy a rfl ha).trans (dB (dA (ap (bg rfl rfl (je h.1 h.2)) rfl (oV _ _)))))
 |out t=>show bC (bD a (by decide)) (dN ((cy a rfl ha).trans (dB (dA (ap (bg rfl rfl (je h.1 h.2)) rfl (oV _ _))))))
 |least k B=>show bC (bD a (by decide)) (bC (bD a (by decide)) (dN ((cy a rfl ha).trans (dB (dA (ap (aE rfl (CG h.1 h.2)) rfl rfl))))))
 |most k B=>show bC (bD a (by decide)) (bC (bD a (by decide)) (bC (bD a (by decide)) ((cy a rfl ha).trans (dB (dA (ap (aE rfl (CH h.1 h.2)) rfl rfl))))))
variable{n:Nat}
def Tp(r:Rul)(h:r.Ok n):m_2 [r.toD]=aa (.lst (r.ps.map Prt.obj)):=
 lx (congrArg _ (gK r.ps Prt.toD Prt.obj rfl (by have:=h.len;lia) λp _=>gg rfl rfl (aE rfl (HN p))))
structure Spr where
 es:LOB
 st:LD
 bs:LD
 gk:List (List Key)
 gd:LD
 ws:List (List Key×LD)
 wt:LD
 mks:D
 tl:List (Str×O)
abbrev lsO(ds:LD):O:=.lst (ds.map .fz)
abbrev wsO(ws:List (List Key×LD)):O:=.dT (ws.map (·.1)) (ws.map λp=>lsO p.2)
nonrec def spN:LSt:=["sheet","steps","bars","guards","watches","waiting","makers"]
nonrec def iK(tl:List (Str×O))(os:List O):O:=.ins "Seeking" (spN++tl.map (·.1)) (os++tl.map (·.2))
abbrev Spr.o(s:Spr):O:=iK s.tl [lsO (s.es.map shD),lsO s.st,lsO s.bs,.dT s.gk (s.gd.map .fz),wsO s.ws,lsO s.wt,.fz s.mks]
variable{l:Addr}{s:Spr}
def jP:aU "Seeking" "sheet" (aH 0) (.deep (.at l s.o)::M)=aa (lsO (s.es.map shD),λx=>.at l (iK s.tl [x,lsO s.st,lsO s.bs,.dT s.gk (s.gd.map .fz),wsO s.ws,lsO s.wt,.fz s.mks]),):=rfl
def CI:aU "Seeking" "steps" (aH 0) (.deep (.at l s.o)::M)=aa (lsO s.st,λx=>.at l (iK s.tl [lsO (s.es.map shD),x,lsO s.bs,.dT s.gk (s.gd.map .fz),wsO s.ws,lsO s.wt,.fz s.mks]),):=rfl
def CJ:aU "Seeking" "bars" (aH 0) (.deep (.at l s.o)::M)=aa (lsO s.bs,λx=>.at l (iK s.tl [lsO (s.es.map shD),lsO s.st,x,.dT s.gk (s.gd.map .fz),wsO s.ws,lsO s.wt,.fz s.mks]),):=rfl
def HR:aU "Seeking" "guards" (aH 0) (.deep (.at l s.o)::M)=aa (.dT s.gk (s.gd.map .fz),λx=>.at l (iK s.tl [lsO (s.es.map shD),lsO s.st,lsO s.bs,x,wsO s.ws,lsO s.wt,.fz s.mks]),):=rfl
def vn:aU "Seeking" "watches" (aH 0) (.deep (.at l s.o)::M)=aa (wsO s.ws,λx=>.at l (iK s.tl [lsO (s.es.map shD),lsO s.st,lsO s.bs,.dT s.gk (s.gd.map .fz),x,lsO s.wt,.fz s.mks]),):=rfl
def pN:aU "Seeking" "waiting" (aH 0) (.deep (.at l s.o)::M)=aa (lsO s.wt,λx=>.at l (iK s.tl [lsO (s.es.map shD),lsO s.st,lsO s.bs,.dT s.gk (s.gd.map .fz),wsO s.ws,x,.fz s.mks]),):=rfl
def Tq:aU "Seeking" "makers" (aH 0) (.deep (.at l s.o)::M)=aa (.fz s.mks,λx=>.at l (iK s.tl [lsO (s.es.map shD),lsO s.st,lsO s.bs,.dT s.gk (s.gd.map .fz),wsO s.ws,lsO s.wt,x]),):=rfl
variable{p:Xp}{ds:LD}{R:O->O}
def rT(h:p M=aa (lsO ds,R,)):pC p M=aa ds:=by
 unfold pC;rw[h];show ze ds
def rV:∀(ds:LD),O.kns (ds.map .fz)=ac
 | []=>by rw[map_nil,O.kns]
 |d::ds=>by rw[bF,O.kns,O.kn,rV ds];rfl
def jo(h:p M=aa (lsO ds,R,)):pB p M=aa (.lst ds):=by
 unfold pB lsO at *;rw[h,ay,O.kn,rV,if_pos rfl,O.toD,xX]
def kC(h:p M=aa (.fz d,R,)):pD p M=aa d:=by
 unfold pD;rw[h];rfl
variable{K:Fl->Prop}
def rW(h:p M=aa (lsO ds,R,))(a:f M=aa d)(hz:ds.length<16777216)(k:K (.nx (M.set i (.deep (R (lsO (ds++[d]))))))):wp (kB i p f) M K:=(_,by
 unfold kB lsO at *;rw[h,ay,a,ay];change(if (ds.map O.fz).length<16777216 then aa _ else ab).map _=_;rw[if_pos (by grind),show ds.map O.fz++_=(ds++[d]).map .fz by rw[a9];rfl];rfl,k)
variable{ks:List (List Key)}{os:List O}{y:L2.D}
def Ts{k:List Key}(hv:fv M=aa d)(h:p M=aa (.dT ks os,R,))(a:fk M=aa y)(b:kz y=aa k)(hn:aT k ks=ab)(hz:ks.length<16777216)
 (q:K (.nx (M.set i (.deep (R (.dT (ks++[k]) (os++[.fz d]))))))):wp (py i p fk fv) M K:=(_,by
 unfold py;rw[hv,ay,h,ay,a,ay,b,ay];change(if aT k ks=ab/\ks.length<16777216 then aa _ else ab).map _=_;rw[if_pos (hn,hz)];rfl,q)
abbrev gq(k:List Key)(y:D):List (List Key×LD)->List (List Key×LD)
 | []=>[(k,[y],)]
 |p::ws=>if p.1=k then (p.1,p.2++[y],)::ws else p::gq k y ws
def CK{k:List Key}{y:D}:∀{ws:List (List Key×LD)},aT k (ws.map (·.1))=ab->gq k y ws=ws++[(k,[y],)]
 | [],_=>rfl
 |p::ws,h=>by
  rw[bF]at h;unfold aT at h;split at h
  .lia
  .rename_i e;unfold gq;rw[if_neg e]
   cases h':aT k _ with
   |none=>rw[CK h'];rfl
   |some j=>rw[h']at h;cases h
def CL{k:List Key}{y:D}:∀{ws:List (List Key×LD)} {j:Nat},aT k (ws.map (·.1))=aa j->∃p,ws[j]?=aa p/\p.1=k/\gq k y ws=ws.set j (p.1,p.2++[y],)
 | [],_,h=>by cases h
 |p::ws,j,h=>by
  rw[bF]at h;unfold aT at h;split at h
  .rename_i e;cases h;show(p,rfl,e,?_);unfold gq
   grind
  .rename_i e
   cases h':aT k _ with
   |none=>rw[h']at h;cases h
   |some i=>
    rw[h']at h;cases h;have(q,a,b,c):=CL h';show(q,by rw[gV];show a,b,?_);unfold gq;rw[if_neg e,c];rfl
structure bS(c:Nat)(ws:List (List Key×LD)):Prop where
 ln:ws.length<=c
 al:∀p∈ws,p.2.length<=c
variable{c:Nat}{ws:List (List Key×LD)}
def bS.add(h:bS c ws)(k:List Key)(y:D):bS (c+1) (gq k y ws):=by
 cases a:aT k _ with
 |none=>
  rw[CK a];show(by rw[aR,fZ];have:=h.ln;lia,λp e=>?_)
  rcases bu.mp e with q |q
  .have:=h.al p q;lia
  .grind
 |some j=>
  have(p,b,_,d):=CL a;rw[d];show(by rw[il];have:=h.ln;lia,λq f=>?_)
  rcases mem_or_eq_of_mem_set f with z |z
  .have:=h.al q z;lia
  .rw[z];have:=h.al p (dH b)
   grind
def Tt{k:List Key}(h:aT k ks=ab)(hz:ks.length<16777216):(O.dT ks os).apdK k d=aa (.dT (ks++[k]) (os++[.lst [.fz d]])):=by
 unfold O.apdK
 grind
variable{j:Nat}{o2:O}
def Tu{k:List Key}{o1:O}(h:aT k ks=aa j)(a:os[j]?=aa o1)(h2:o1.appd d=aa o2):(O.dT ks os).apdK k d=aa (.dT ks (os.set j o2)):=by
 unfold O.apdK
 grind
def Tv(h:ds.length<16777216):(lsO ds).appd y=aa (lsO (ds++[y])):=by
 unfold lsO O.appd
 grind
def Tw(h:bS c ws)(e:c<16777216)(k:List Key)(y:D):(wsO ws).apdK k y=aa (wsO (gq k y ws)):=by
 unfold wsO
 cases a:aT k _ with
 |none=>
  rw[Tt a (by rw[aA];have:=h.ln;lia),CK a,a9,a9]
  rfl
 |some j=>
  have(p,b,_,d):=CL a;rw[Tu a (by rw[cH,b];rfl) (Tv (by have:=h.al p (dH b);lia)),d,gY,gY,ni (x:=p.1) (by grind)]
def Tx{g:MF1}{k:List Key}(h:p M=aa (wsO ws,R,))(b:g M=aa y)(f:kz y=aa k)(e:ae j M=aa d)(ok:bS c ws)(a:c<16777216)(q:K (.nx (M.set i (.deep (R (wsO (gq k d ws))))))):wp (pA i j p g) M K:=(_,by
 unfold pA;rw[h,ay,b,ay,f,ay,e,ay,Tw ok a];rfl,q)
variable{m:MTf}{ρ1:LS}{o0 o o':O}
def fD{cn a:Str}{f:Xa}(h:M[i]?=aa (.deep (.at l o0)))(hi:o0.isIns cn a=ac)(c:f M=aa (ds,ρ1,))(b:ρ1[i]?=aa (.deep (.at l o)))(hm:m l ds o=aa (o',d,)):cG i cn a m f M=aa (d,ρ1.set i (.deep (.at l o')),):=by
 unfold cG
 grind
def Tz{cn:Str}(h:fa M=aa ds)(hm:∀l,m l ds (.ins cn [] [])=aa (o,.non,)):nt cn m fa M=aa o:=by
 unfold nt;rw[h,ay];have a:∃o,∀l,m l ds _=aa (o,.non,):=(o,hm);rw[dif_pos a];have:=a.choose_spec 0
 grind
abbrev HS(l:Addr)(Q:O->D->Prop)(r:Fl):Prop:=match r with
 |.nx M=>∃o,M[0]?=aa (.deep (.at l o))/\Q o .non
 |.rtS d M=>∃o,M[0]?=aa (.deep (.at l o))/\Q o d
 | _=>False
variable{N:Nat}
def TB{F:MF3}{Q:O->D->Prop}(h:wp F (uM N l ds o) (HS l Q)):∃o' d,d4 N F l ds o=aa (o',d,)/\Q o' d:=by
 have(r,e,q):=h;unfold d4;rw[e,ay]
 cases r with
 |nx M=>have(o',a,q):=q;show(o',.non,by dsimp only;rw[G1 a];rfl,q)
 |rtS d M=>have(o',a,q):=q;show(o',d,by dsimp only;rw[G1 a];rfl,q)
 | _=>show q.elim
def fE{F:MF3}(h:wp F (uM N l ds o) (HS l λx y=>x=o'/\y=d)):d4 N F l ds o=aa (o',d,):=by
 have(a,b,e,rfl,rfl):=TB h;show e
def jp(h:f M=aa d)(k:K (.rtS d M)):wp (fA f) M K:=(_,by unfold fA;rw[h];rfl,k)
def gP{cn f:Str}{g:LS->Option O}{x:O}{q:O×(O->O)}(a:g M=aa x)(h:p M=aa q)(b:q.1.setF cn f x=aa o2)(k:K (.nx (M.set i (.deep (q.2 o2))))):wp (eB i cn f p g) M K:=(_,by
 unfold eB;rw[a,ay,h,ay,b];rfl,k)
def jq{f:Xe}{ρ':LS}(h:f M=aa (d,ρ',))(k:K (.nx ρ')):wp (dP f) M K:=(_,by unfold dP;rw[h];rfl,k)
def nA{f:MF2}(h:f M=aa ds):hZ f M=aa (lsO ds):=by unfold hZ lsO;rw[h];rfl
def rX(h:f M=aa d):jn f M=aa (.fz d):=by unfold jn;rw[h];rfl
variable{ns:LI0}
def TC(h:f M=aa (.lst (ns.map D.int)))(a:ns.length<4000)(h2:(dk ns).length<64):mV f M=aa ((dk ns).map D.int):=by
 unfold mV;rw[h,ay];change(iJ _).bind _=_;rw[yR,ay,if_pos (a,h2)]
def HU(h:∀x∈ns,0<=x/\x<(n:Int)):(dk ns).length<=n:=by
 by_cases c:(dk ns).length<=n
 .show c
 .have d:∀x∈dk ns,x∈(bO n).map λ(i:Nat)=>(i:Int):=λx e=>by
   have(a,b):=h x ((jl x ns).mp e);show aJ.mpr (x.toNat,fI.mpr (by lia),by lia)
  have:=(oY _ _ ((lA ns).imp λh=>Int.ne_of_lt h) d (by rw[aA,cV];lia)).length_eq;rw[aA,cV]at this
  lia
def CM(h:f M=aa (.lst ds))(h':M[i]?=aa (.own C))(a:C.length+ds.length<=16777216):ki i (kh f) M=aa (.nx (M.set i (.own (C++ds)))):=by
 unfold ki kh;rw[h,h'];change(if C.length+ds.length<=16777216 then _ else ab)=_;rw[if_pos a]
variable{p:Prt}
def pO(h:p.Ok n):∀x∈nmP p,0<=x/\x<(n:Int):=λx a=>by
 cases p with
 |inn t=>
  have:x=t:=by simpa[nmP]using a
  subst this
  show h
 |out t=>
  have:x=t:=by simpa[nmP]using a
  subst this
  show h
 |least k B=>have(z,hz,rfl):=aJ.mp a;show((h.1 z hz).1,(h.1 z hz).2.1)
 |most k B=>have(z,hz,rfl):=aJ.mp a;show((h.1 z hz).1,(h.1 z hz).2.1)
abbrev put(es:LOB)(k:Nat)(b:Bool):LOB:=es.set k (aa b)
def b9(es:LOB)(k:Nat)(b:Bool):(put es k b).length=es.length:=il
def cZ(es:LOB){k j:Nat}(b:Bool)(h:j≠k):(put es k b).getD j ab=es.getD j ab:=by
 unfold put;rw[bH,bH,kK (eG h)]
def eU(es:LOB){k:Nat}(b:Bool)(h:k<es.length):(put es k b).getD k ab=aa b:=by
 unfold put;rw[bH,jV h];rfl
variable{es':LOB}
def HV{q:Option Bool->Bool}(h:∀z∈B,q (es'.getD z.1.toNat ab)=q (es.getD z.1.toNat ab)):cE q es' B=cE q es B:=by
 unfold cE;rw[filter_congr h]
def TD{k:Nat}{b:Bool}(a:p.Ok es.length)(h:(k:Int)∉nmP p):p.sure (put es k b)=p.sure es:=by
 have ne:∀t:Int,0<=t->t∈nmP p->t.toNat≠k:=λt d f e=>by
  grind
 cases p with
 |inn t=>
  have:=ne t a.1 (by simp[nmP]);change((put es k b).getD t.toNat ab==aa ac)=_;rw[cZ es b this]
  rfl
 |out t=>
  have:=ne t a.1 (by simp[nmP]);change((put es k b).getD t.toNat ab==aa af)=_;rw[cZ es b this]
  rfl
 |least c B=>
  change decide _=decide _
  rw[HV (es:=es) λz hz=>by rw[cZ es b (ne z.1 (a.1 z hz).1 (aJ.mpr (z,hz,rfl)))]]
 |most c B=>
  change decide _=decide _;rw[HV (es:=es) λz hz=>by rw[cZ es b (ne z.1 (a.1 z hz).1 (aJ.mpr (z,hz,rfl)))]]
abbrev opn(es:LOB)(t:Int):Bool:=es.getD t.toNat ab==ab
abbrev nmL:Prt->LI0
 |.inn t=>[t]
 |.out t=>[t]
 |.least _ B=>dk (B.map (·.1))
 |.most _ B=>dk (B.map (·.1))
abbrev gQ:Prt->Bool
 |.inn _=>ac
 |.out _=>af
 |.least _ _=>ac
 |.most _ _=>af
def rY(h:p.Ok n)(hn:n<=60):(nmL p).length<64:=by
 cases p with
 |inn t=>change 1<64;decide
 |out t=>change 1<64;decide
 |least k B=>have:=HU (pO h);change(dk _).length<64;show l9 this (by lia)
 |most k B=>have:=HU (pO h);change(dk _).length<64;show l9 this (by lia)
variable{t:Int}
def rZ:t∈nmL p↔t∈nmP p:=by
 cases p with
 |inn u=>show Iff.rfl
 |out u=>show Iff.rfl
 |least k B=>show jl t _
 |most k B=>show jl t _
def HW(a:B.length<=1000)(h2:(dk (B.map (·.1))).length<64):u8 [.lst (B.map itD)]=aa (.lst ((dk (B.map (·.1))).map D.int)):=by
 show lx (congrArg _ (TC (bR ?_) (by rw[aA];lia) h2));rw[map_map];show gK B itD _ rfl (by lia) λz _=>gg rfl rfl rfl
def HX(p:Prt)(h:p.Ok n)(hn:n<=60)(b:(nmP p).length<=1000)(a:fo M=aa p.obj):
  be (aM "In" "named" uZ fo λ_=>aa []) (be (aM "Out" "named" vb fo λ_=>aa []) (be (aM "Least" "named" u9 fo λ_=>aa []) (aM "Most" "named" va fo λ_=>aa []))) M=aa (.lst ((nmL p).map D.int)):=by
 have c:=rY h hn
 cases p with
 |inn t=>show dN ((cy a rfl rfl).trans rfl)
 |out t=>show bC (bD a (by decide)) (dN ((cy a rfl rfl).trans rfl))
 |least k B=>
  have e:=HW (by simpa[nmP]using b) c
  show bC (bD a (by decide)) (bC (bD a (by decide)) (dN ((cy a rfl rfl).trans (dB (dA (aE rfl e))))))
 |most k B=>
  show bC (bD a (by decide)) (bC (bD a (by decide)) (bC (bD a (by decide)) ((cy a rfl rfl).trans (dB (dA (aE rfl (HW (by simpa[nmP]using b) c)))))))
def TF(p:Prt)(a:fo M=aa p.obj):
  be (aM "In" "wants" A7 fo λ_=>aa []) (be (aM "Out" "wants" Bh fo λ_=>aa []) (be (aM "Least" "wants" Bb fo λ_=>aa []) (aM "Most" "wants" Be fo λ_=>aa []))) M=aa (.bl (gQ p)):=by
 cases p with
 |inn t=>show dN ((cy a rfl rfl).trans rfl)
 |out t=>show bC (bD a (by decide)) (dN ((cy a rfl rfl).trans rfl))
 |least k B=>show bC (bD a (by decide)) (bC (bD a (by decide)) (dN ((cy a rfl rfl).trans rfl)))
 |most k B=>show bC (bD a (by decide)) (bC (bD a (by decide)) (bC (bD a (by decide)) ((cy a rfl rfl).trans rfl)))
nonrec def Wss:=List (List Key×LD)
abbrev gt(t:Int)(b:Bool):List Key:=[.inl t,.inl (cond b 1 0)]
abbrev vp(y:D)(ws:Wss)(p:Prt):Wss:=(nmL p).foldl (λws t=>gq (gt t (gQ p)) y ws) ws
abbrev nB(y:D)(ps:List Prt)(ws:Wss):Wss:=ps.foldl (vp y) ws
def bS.ts{c:Nat}{b:Bool}{y:D}:∀(ts:LI0) {ws:Wss},bS c ws->bS (c+ts.length) (ts.foldl (λws t=>gq (gt t b) y ws) ws)
 | [],_,h=>h
 |t::ts,ws,h=>by
  have:=bS.ts (b:=b) (y:=y) ts (h.add (gt t b) y);rw[cr,show c+_=c+1+ts.length by lia];show this
def bS.le{a:Nat}{ws:Wss}(h:bS c ws)(b:c<=a):bS a ws:=(cN h.ln b,λp d=>cN (h.al p d) b)
abbrev PrK(n:Nat)(p:Prt):Prop:=p.Ok n/\(nmP p).length<=1000
def bS.prt{ws:Wss}(h:bS c ws)(a:PrK n p)(hn:n<=60):bS (c+64) (vp y ws p):=by
 have:=rY a.1 hn;show(bS.ts _ h).le (by lia)
def bS.reg{n:Nat}{y:D}(hn:n<=60):∀{ps:List Prt} {c:Nat} {ws:Wss},(∀p∈ps,PrK n p)->bS c ws->bS (c+64*ps.length) (nB y ps ws)
 | [],_,_,_,h=>h
 |p::ps,c,ws,hp,h=>by
  have:=bS.reg (y:=y) hn (λq a=>hp q (bh _ a)) (h.prt (y:=y) (hp p az) hn);rw[cr,show c+64*_=c+64+64*ps.length by lia];show this
abbrev vq(s:Spr)(y:D)(k:List Key)(ps:List Prt):Spr:={s with gk:=s.gk++[k],gd:=s.gd++[.lst (ps.map Prt.obj)],ws:=nB y ps s.ws,wt:=s.wt++[y]}
def TH(ds:LD)(d:D):ds.map O.fz++[.fz d]=(ds++[d]).map .fz:=by rw[a9];rfl
def HY{k:List Key}(s:Spr)(ps:List Prt)(z:kz y=aa k)(m:aT k s.gk=ab)(j:s.gk.length<16777216)(h:∀p∈ps,PrK n p)(hn:n<=60)(x:bS c s.ws)(A:c+64*ps.length<16777216)(hz:s.wt.length<16777216)(u:ps.length<=100000):
  rH l [y,.lst (ps.map Prt.obj)] s.o=aa ((vq s y k ps).o,.non,):=by
 apply fE;apply ak;show Ts rfl HR rfl z m j ?_;rw[TH];apply ak
 show dD ps Prt.obj (λpre M=>∃g a,M=[.deep (.at l ({s with gk:=s.gk++[k],gd:=s.gd++_,ws:=nB y pre s.ws}:Spr).o),.im y,.im _,g,a]) rfl (_,_,rfl) ?_ ?_
 .rintro pre p post M ex ⟨g,a,rfl⟩;have e:p∈ps:=by rw[ex];simp
  have b:=h p e;have i:pre.length<ps.length:=by rw[ex];simp
  have f:bS _ (nB y pre s.ws):=bS.reg hn (λq w=>h q (by rw[ex];simp[w])) x;have r:=rY b.1 hn;show(_,rfl,?_);walk_at "nrm"
  show dD _ D.int (λpr M=>∃a,M=[.deep (.at l ({s with gk:=s.gk++[k],gd:=s.gd++_,ws:=pr.foldl (λws t=>gq (gt t (gQ p)) y ws) _}:Spr).o),.im y,.im _,.im p.obj,a]) (eS (HX p b.1 hn b.2 rfl) rfl) (_,rfl) ?_ ?_
  .rintro pr t po M d ⟨a,rfl⟩;have v:pr.length<(nmL p).length:=by rw[d];simp
   show(_,rfl,?_);walk_at "nrm";show Tx vn (cS (ao rfl (ao (TF p rfl) rfl))) rfl rfl (bS.ts pr f) (by lia) ?_;show(.im (.int t),?_);rw[eE];rfl
  .rintro M ⟨a,rfl⟩;show(.im p.obj,a,?_);unfold nB;rw[eE];rfl
 .rintro M ⟨g,a,rfl⟩;show rW pN rfl hz (_,rfl,rfl,rfl)
abbrev mkD(r:Rul):D:=.tup [.int r.hd,.lst (r.ps.map Prt.obj)]
abbrev fF(L:LRu):LRu:=L.filter λr=>r.w != .never
abbrev grd(r:Rul):List Prt:=match r.w with
 |.may=>[.least 1 []]
 |.make=>r.ps++[.out r.hd]
 |.never=>r.ps
structure RuK(n:Nat)(r:Rul):Prop where
 ok:r.Ok n
 nm:∀p∈r.ps,(nmP p).length<=1000
 len:r.ps.length<=1000
variable{r:Rul}
def vt(h:RuK n r):∀p∈grd r,PrK n p:=λp a=>by
 have(w,hd,ps):=r
 cases w with
 |may=>
  have:p=.least 1 []:=by simpa[grd]using a
  subst this
  show(((λz hz=>nomatch hz),cj _),cj _)
 |make=>
  rcases bu.mp (a)with q |q
  .show(h.ok.ps p q,h.nm p q)
  .rw[bw.mp q]
   show(h.ok.hd (λz=>by nomatch z),by change 1<=1000;decide)
 |never=>show(h.ok.ps p a,h.nm p a)
def CN(h:RuK n r):(grd r).length<=1001:=by
 have(w,hd,ps):=r;have a:ps.length<=1000:=h.len
 cases w with
 |may=>change 1<=1001;decide
 |make=>change(ps++_).length<=1001;rw[aR,fZ];lia
 |never=>change ps.length<=1001;lia
def HZ(r:Rul)(h:r.Ok n):o_2 [r.toD]=aa (r.ps.map Prt.obj):=
 mZ (congrArg _ (gK r.ps Prt.toD Prt.obj rfl (by have:=h.len;lia) λp _=>gg rfl rfl (aE rfl (HN p))))
def TJ(r:Rul)(h:RuK n r):ve [r.toD]=aa (.lst ((grd r).map Prt.obj)):=by
 apply jM;have(w,hd,ps):=r
 cases w with
 |may=>
  apply ak;show aY rfl (λ_=>?_) (λz=>by nomatch z)
  first |show jm rfl (jN rfl) |grind
 |make=>
  apply ak;show aY rfl (λz=>by nomatch z) (λ_=>b5 ?_);walk_at "nrm";apply ak
  show dO (by first |show uG rfl (HZ (.make,hd,ps) h.ok) |show eb) ?_
  walk_at "nrm";apply ak;show aY rfl (λ_=>?_) (λz=>by nomatch z);show fU rfl rfl (by rw[aA];change ps.length<_;have:ps.length<=1000:=h.len;lia) ?_;walk_at "nrm";show mY rfl (jN ?_);change D.lst _=D.lst ((ps++_).map Prt.obj);rw[a9]
  rfl
 |never=>
  apply ak;show aY rfl (λz=>by nomatch z) (λ_=>b5 ?_);walk_at "nrm";apply ak
  show dO (by first |show uG rfl (HZ (.never,hd,ps) h.ok) |show eb) ?_
  walk_at "nrm";apply ak;show aY rfl (λz=>by nomatch z) (λ_=>b5 ?_);walk_at "nrm";show mY rfl (jN rfl)
abbrev r6(i:Nat):D:=.tup [.str "rule",.int i]
abbrev nC(i:Nat):List Key:=[.inr "rule",.inl i]
def TK(h:nC i=nC j):i=j:=by
 have:=tG (qg (qg h).2).1
 lia
def CO{a:Type}[DecidableEq a]{f:a}:∀{ns:List a},f∉ns->aT f ns=ab
 | [],_=>rfl
 |n::ns,h=>by
  unfold aT;rw[if_neg (λe=>h (by rw[e];show az)),CO (λq=>h (bh _ q))];rfl
abbrev sp0(es:LOB)(L:LRu):Spr:=(es,[],[],[],[],[],[],.lst ((fF L).map mkD),[])
abbrev lP(s:Spr)(p:Nat×Rul):Spr:=vq s (r6 p.1) (nC p.1) (grd p.2)
structure SpK(n i c:Nat)(s:Spr):Prop where
 gk:s.gk=(bO i).map nC
 gl:s.gd.length=i
 ws:bS c s.ws
 wt:s.wt=(bO i).map r6
def SpK.step(h:SpK n i c s)(hr:RuK n r)(hn:n<=60):SpK n (i+1) (c+65000) (lP s (i,r,)):=by
 show(?_,?_,?_,?_)
 .change s.gk++_=_;rw[range_succ,a9,h.gk];rfl
 .change(s.gd++[_]).length=_;rw[aR,h.gl];rfl
 .have:=bS.reg (y:=r6 i) hn (vt hr) h.ws;have a:=CN hr;show this.le (by lia)
 .change s.wt++_=_;rw[range_succ,a9,h.wt];rfl
def SpK.fresh(h:SpK n i c s):aT (nC i) s.gk=ab:=CO λq=>by
 rw[h.gk]at q;have(j,a,e):=aJ.mp q;have:=TK e;subst this;show gy _ (fI.mp a)
abbrev eV:Nat->LRu->List (Nat×Rul)
 | _,[]=>[]
 |i,r::L=>(i,r,)::eV (i+1) L
def H9:∀(i:Nat) (L:LRu),iG i (L.map Rul.toD)=(eV i L).map λp=>D.tup [.int p.1,p.2.toD]
 | _,[]=>rfl
 |i,r::L=>by rw[bF,iG,H9 _ L];rfl
def r9:∀(i:Nat) (L:LRu) (j:Nat),(eV i L)[j]?=(L[j]?).map λr=>(i+j,r,)
 | _,[],_=>rfl
 |i,r::L,0=>rfl
 |i,r::L,j+1=>by simp only[eV,gV,gV,r9 _ L j,show i+1+j=i+(j+1) by lia]
variable{L:LRu}
def Ia{pre post:List (Nat×Rul)}{p:Nat×Rul}(h:eV 0 L=pre++p::post):p.1=pre.length/\p.2∈L/\pre.length<L.length:=by
 have a:(eV 0 L)[pre.length]?=aa p:=by rw[h,nP (aL _),Nat.sub_self];rfl
 rw[r9]at a
 cases hr:L[pre.length]? with
 |none=>rw[hr]at a;nomatch a
 |some r=>
  rw[hr]at a;cases a;show(kP _,dH hr,(cU.mp hr).1)
abbrev pl0(n:Int)(L:LRu):D:=.tup [.int n,.lst (L.map Rul.toD)]
def TL(hi:fi M=aa (L.map Rul.toD))(hok:∀r∈L,r.Ok n)(hz:L.length<=1000):
  bq 1 [] fi (ax 0) (mB (m2 gc (mIx (aw 0) (kI 1)) kN)) (bn (ag (mIx (aw 0) (kI 1)) (ag (av m_2 (ag (ae 0) nZ)) nZ))) M=aa ((fF L).map mkD):=by
 show eR L Rul.toD _ mkD hi (by lia) λr hr=>?_;have a:=Tp r (hok r hr);have(w,hd,ps):=r
 cases w with
 |never=>show dM rfl rfl λz=>by nomatch z
 |make=>show dM rfl rfl λ_=>cS (ao rfl (ao (aE rfl a) rfl))
 |may=>show dM rfl rfl λ_=>cS (ao rfl (ao (aE rfl a) rfl))
def dE{g:Xa}(h:f M=aa d)(h':g M=aa (ds,M,)):bJ (mX f) g M=aa (d::ds,M,):=by
 unfold bJ mX;rw[h];change(g M).map _=_;rw[h'];rfl
def vv{f:MF2}(h:f M=aa [.lst C]):jg f M=aa (iG 0 C):=by
 unfold jg;rw[h];rfl
abbrev spI(es:LOB)(L:LRu):Spr:=(eV 0 L).foldl lP (sp0 es L)
def SpK.foldT{n:Nat}(hn:n<=60){es:LOB}{L:LRu}(hr:∀r∈L,RuK n r):∀(k:Nat),k<=L.length->SpK n k (65000*k) (((eV 0 L).take k).foldl lP (sp0 es L))
 | 0,_=>(rfl,rfl,⟨cj _,λ_ h=>nomatch h⟩,rfl)
 |k+1,h=>by
  have a:(eV 0 L)[k]?=aa (k,L[k],):=by rw[r9,b6 h];simp
  have:=(SpK.foldT hn (es:=es) hr k (Nat.le_of_succ_le h)).step (hr L[k] (ij h)) hn;rw[take_succ,a,eE,show 65000*_=65000*k+65000 by lia];show this
def SpK.fold(hn:n<=60)(hr:∀r∈L,RuK n r){pre post:List (Nat×Rul)}{p:Nat×Rul}(h:eV 0 L=pre++p::post):SpK n pre.length (65000*pre.length) (pre.foldl lP (sp0 es L)):=by
 have:=SpK.foldT hn (es:=es) hr pre.length (fj (Ia h).2.2);rw[h,take_left' rfl]at this;show this
def Ib:∀(ps:List (Nat×Rul)) (s:Spr),(ps.foldl lP s).tl=s.tl
 | [],_=>rfl
 |p::ps,s=>Ib ps _
def TM(h:s.tl=[]):s.o.isIns "Seeking" "take_guard"=ac:=by
 cases s;cases h;rfl
variable{v:Int}
def TN{bars:LD}(hn:n<=60)(hr:∀r∈L,RuK n r)(hz:L.length<=250)
 (k:∀b c,K (.nx [.deep (.at l (spI es L).o),.im (pl0 v L),.im (.lst bars),.im (.lst (es.map shD)),b,c,.no])):
  wp (bZ (jg (ag (mIx (aw 1) (kI 1)) nZ)) (cY (bp (ax 5) (bp (ax 4) da))) (dP (cG 0 "Seeking" "take_guard" rH (bJ (mX (bn (ag (kSt "rule") (ag (ae 5) nZ)))) (bJ (mX (av ve (ag (ae 4) nZ))) cz)))))
   [.deep (.at l (sp0 es L).o),.im (pl0 v L),.im (.lst bars),.im (.lst (es.map shD)),.no,.no,.no] K:=by
 show dD (eV 0 L) (λp=>D.tup [.int p.1,p.2.toD]) (λpre M=>∃b c,M=[.deep (.at l (pre.foldl lP (sp0 es L)).o),.im _,.im _,.im _,b,c,.no]) ?_ (_,_,rfl) ?_ ?_
 .rw[<- H9];show vv (ao (bg rfl rfl rfl) rfl)
 .rintro pre p post M ex ⟨b,c,rfl⟩;have(e,f,h):=Ia ex;have d:=SpK.fold (es:=es) hn hr ex;have a:=hr p.2 f;have g:=CN a;show(_,rfl,?_);walk_at "nrm";show jq (fD rfl (TM (Ib pre _)) (dE rfl (dE (aE rfl (TJ p.2 a)) rfl)) rfl (HY _ _ rfl (by rw[e];show d.fresh) (by rw[d.gk,aA,cV];lia) (vt a) hn d.ws (by lia) (by rw[d.wt,aA,cV];lia) (by lia))) ?_;show(.im p.2.toD,.im (.int p.1),?_);rw[eE];rfl
 .rintro M ⟨b,c,rfl⟩;show k b c
def TQ(hn:n<=60)(hr:∀r∈L,RuK n r)(hz:L.length<=250)(l:Addr):Bt l [pl0 v L,.lst [],.lst (es.map shD)] (.ins "Seeking" [] [])=aa ((spI es L).o,.non,):=by
 apply fE;apply ak;show gP (nA rfl) rfl rfl ?_;apply ak;show gP (nA rfl) rfl rfl ?_;apply ak;show gP (nA rfl) rfl rfl ?_;apply ak;show gP rfl rfl rfl ?_;apply ak;show gP rfl rfl rfl ?_;apply ak;show gP (nA rfl) rfl rfl ?_;apply ak;show gP (rX (bR (TL (eS (bg rfl rfl rfl) rfl) (λr h=>(hr r h).ok) (by lia)))) rfl rfl ?_;apply ak;show TN hn hr hz λa b=>?_;show dD ([]:LN) (λ_=>D.non) (λ_ M=>M=_) rfl rfl ?_ ?_
 .rintro pre x post M ex;simp at ex
 .rintro M rfl;show(_,rfl,rfl,rfl)
abbrev hup(es:LOB)(wo:LB0)(r:Rul):Bool:=r.w != .never && (wo.getD r.hd.toNat af && !(r.bodyLost es wo))
def Ic(h:r.w≠.never):(r.w != .never)=ac:=by grind
inductive kE(L:LRu)(es:LOB)(a:LB0):LB0->Prop
 |refl:kE L es a a
 |step {b:LB0} {r:Rul}:kE L es a b->r∈L->hup es b r=ac->kE L es a (b.set r.hd.toNat af)
def vw(l:LB0)(k j:Nat):(l.set k af).getD j af=(l.getD j af && !(k==j)):=by grind
variable{a b:LB0}
def kE.len(h:kE L es a b):b.length=a.length:=by
 induction h with
 |refl=>rfl
 |step _ _ _ c=>rw[il,c]
def kE.sub(h:kE L es a b)(i:Nat):b.getD i af=ac->a.getD i af=ac:=by
 induction h with
 |refl=>show id
 |step _ _ _ c=>
  grind
variable{wo:LB0}
def Ie(h:hup es wo r=ac):r.w≠.never/\wo.getD r.hd.toNat af=ac/\r.bodyLost es wo=af:=by
 unfold hup at h
 grind
variable{le:LB0}
def TR(hr:r.Ok es.length)(g:mU le wo)(h:hup es wo r=ac)(f:le.getD r.hd.toNat af=ac):hup es le r=ac:=by
 have(a,b,c):=Ie h
 have e:r.bodyLost es le=af:=by
  cases q:r.bodyLost es le with
  |false=>rfl
  |true=>
   have(p,d,i):=any_eq_true.mp q;have:r.bodyLost es wo=ac:=any_eq_true.mpr (p,d,uv (cM.refl es) g (hr.ps p d) i);rw[c]at this
   nomatch this
 unfold hup;rw[Ic a,f,e];rfl
def TU{fin:LB0}(hok:∀r∈L,r.Ok es.length)(h:kE L es a b)(l:le.length=a.length)(g:∀i,le.getD i af=ac->a.getD i af=ac)(f:∀i,fin.getD i af=ac->b.getD i af=ac)
 (n:∀r∈L,hup es le r=ac->fin.getD r.hd.toNat af=ac):∀i,le.getD i af=ac->b.getD i af=ac:=by
 induction h with
 |refl=>show g
 | @step b r m hr j c=>
  have d:=λi q=>by
   have:=f i q;rw[vw]at this
   simpa using (cB _ _▸this).1
  have c:=c d;intro i q;rw[vw,c i q,p8]
  cases e:(r.hd.toNat==i)with
  |false=>rfl
  |true=>
   exfalso;have e:r.hd.toNat=i:=by simpa using e
   subst e;have w:mU le b:=(by rw[m.len,l],c);have:=f _ (n r hr (TR (hok r hr) w j q));rw[vw]at this;simp at this
abbrev ct(bs:LB0):Nat:=(bs.filter λb=>b).length
def TV(bs:LB0):ct bs<=bs.length:=gW _ _
def Ig:∀(bs:LB0) (k:Nat),bs.getD k af=ac->ct (bs.set k af)+1=ct bs
 | [],k,h=>by simp at h
 |b::bs,0,h=>by
  subst h
  rfl
 |b::bs,k+1,h=>by
  have a:=Ig bs k (by show h)
  cases b with
  |false=>show a
  |true=>
   change(ct _+1)+1=ct bs+1;rw[a]
def TW(bs:LB0)(k:Nat)(b:Bool):(bs.map D.bl).set k (.bl b)=(bs.set k b).map D.bl:=by rw[gY]
abbrev jt(es:LOB):LB0:=es.map λe=>!(e==aa af)
def TX(hi:fi M=aa (es.map shD))(hz:es.length<=1000):bq 1 [] fi (ax 0) kY (m2 gc (ae 0) (kBl af)) M=aa ((jt es).map D.bl):=by
 unfold jt;rw[<- Pc];show gK es shD _ hi (by lia) λe _=>gg rfl rfl (ap rfl rfl (FJ _ _))
abbrev CP:Option Prt->D
 |some p=>p.obj
 |none=>.non
def CQ(ps:List Prt)(h:∀p∈ps,p.Ok es.length)(e:wo.length=es.length):m_5 [.lst (ps.map Prt.obj),.lst (es.map shD),.lst (wo.map D.bl)]=aa (CP (ps.find? λp=>p.lost es wo)):=by
 apply jM;apply ak;show dD ps Prt.obj (λpre M=>∃c,M=[.im _,.im _,.im _,c]/\∀p∈pre,p.lost es wo=af) rfl ⟨_,rfl,λ_ h=>nomatch h⟩ ?_ ?_
 .rintro pre p post M ex ⟨c,rfl,a⟩;have d:p∈ps:=by grind
  show(_,rfl,?_);walk_at "nrm";show aY (dh (HQ p (h p d) e rfl rfl) rfl) (λz=>?_) (λz=>b5 ?_)
  .show Pd rfl (fB ?_);rw[ex,find?_append,find?_eq_none.mpr λq b=>by rw[a q b];show bG,find?_cons_of_pos z];rfl
  .show(.im p.obj,rfl,λq b=>?_)
   grind
 .rintro M ⟨c,rfl,a⟩;show eT rfl (fB ?_);rw[find?_eq_none.mpr λq b=>by rw[a q b];grind];rfl
def TY(x:Option Prt):dIs (CP x) .non=aa (.bl x.isNone):=by
 cases x with
 |none=>rfl
 |some p=>cases p <;> rfl
def CS(r:Rul):(r.ps.find? λp=>p.lost es wo).isNone=!(r.bodyLost es wo):=by
 unfold Rul.bodyLost
 grind
abbrev iL(es:LOB)(wo:LB0)(r:Rul):Bool:=wo.getD r.hd.toNat af && !(r.bodyLost es wo)
nonrec def jQ:=LB0×LRu×LRu
abbrev bV(es:LOB)(a:jQ)(r:Rul):jQ:=if iL es a.1 r then (a.1.set r.hd.toNat af,a.2.1++[r],a.2.2,) else (a.1,a.2.1,a.2.2++[r],)
abbrev dW(es:LOB)(wo:LB0)(us rest:LRu):jQ:=rest.foldl (bV es) (wo,us,[],)
abbrev nE(es:LOB):Nat->LB0->LRu->LRu->jQ
 | 0,wo,us,rest=>(wo,us,rest,)
 |k+1,wo,us,rest=>if us.length<(dW es wo us rest).2.1.length/\(dW es wo us rest).1.any id=ac then nE es k (dW es wo us rest).1 (dW es wo us rest).2.1 (dW es wo us rest).2.2 else dW es wo us rest
abbrev cf(es:LOB)(ms:LRu):jQ:=nE es (ms.length+1) (jt es) [] ms
structure L3(es:LOB)(ms:LRu)(a:jQ)(q:LRu):Prop where
 len:a.1.length=es.length
 pe:kE ms es (jt es) a.1
 us:∀r∈a.2.1,a.1.getD r.hd.toNat af=af
 pm:(a.2.1++a.2.2++q).Perm ms
variable{ms:LRu}
def L3.step{a:jQ}{q:LRu}(h:L3 es ms a (r::q))(c:∀r∈ms,r.w≠.never):L3 es ms (bV es a r) q:=by
 have hr:r∈ms:=h.pm.mem_iff.mp (by simp);unfold bV
 by_cases b:iL es a.1 r=ac
 .rw[if_pos b];show(by rw[il];show h.len,.step h.pe hr ?_,λx d=>?_,?_)
  .unfold hup;rw[Ic (c r hr),p8];show b
  .change(a.1.set r.hd.toNat af).getD _ af=af;rw[vw]
   rcases bu.mp d with z |z
   .rw[h.us x z];rfl
   .grind
  .show List.Perm.trans ?_ h.pm;rw[cI,cI,cI];show wF _ ?_;change(r::(a.2.2++q)).Perm _;show perm_middle.symm
 .rw[if_neg b];show(h.len,h.pe,h.us,?_);have:a.2.1++(a.2.2++[r])++q=a.2.1++a.2.2++r::q:=by simp
  rw[this];show h.pm
def L3.fold{es:LOB}{ms:LRu}(b:∀r∈ms,r.w≠.never):∀{q:LRu} {a:jQ},L3 es ms a q->L3 es ms (q.foldl (bV es) a) []
 | [],_,h=>h
 |r::q,a,h=>L3.fold (a:=bV es a r) b (h.step b)
def sd{es:LOB}:∀(q:LRu) (a:jQ),(q.foldl (bV es) a).2.1.length+(q.foldl (bV es) a).2.2.length=a.2.1.length+a.2.2.length+q.length/\a.2.1.length<=(q.foldl (bV es) a).2.1.length
 | [],a=>(by simp,aL _)
 |r::q,a=>by
  have(b,h2):=sd q _;rw[fH,b];unfold bV at *
  grind
def Ih{es:LOB}:∀(q:LRu) (a:jQ),(q.foldl (bV es) a).2.1.length=a.2.1.length->(q.foldl (bV es) a).1=a.1/\(q.foldl (bV es) a).2.2=a.2.2++q/\∀r∈q,iL es a.1 r=af
 | [],a,_=>⟨rfl,(bQ _).symm,λ_ h=>nomatch h⟩
 |r::q,a,h=>by
  rw[fH]at h ⊢;have h2:=(sd (es:=es) q (bV es a r)).2
  by_cases b:iL es a.1 r=ac
  .exfalso;have e:bV es a r=(a.1.set r.hd.toNat af,a.2.1++[r],a.2.2,):=by unfold bV;rw[if_pos b]
   grind
  .have e:bV es a r=(a.1,a.2.1,a.2.2++[r],):=by unfold bV;rw[if_neg b]
   rw[e]at h ⊢;have(c,d,f):=Ih q _ h
   grind
def TZ{bs:LB0}(h:bs.any id=af)(i:Nat):bs.getD i af=af:=by
 rw[bH]
 cases e:bs[i]? with
 |none=>rfl
 |some b=>
  cases b with
  |false=>rfl
  |true=>rw[any_eq_true.mpr (ac,dH e,rfl)]at h;nomatch h
def Ii{es:LOB}{ms:LRu}(d:∀r∈ms,r.w≠.never):∀(k:Nat) (wo:LB0) (us rest:LRu),L3 es ms (wo,us,[],) rest->rest.length<k->L3 es ms (nE es k wo us rest) []/\∀r∈ms,iL es (nE es k wo us rest).1 r=af
 | 0,_,_,_,_,h=>absurd h (io _)
 |k+1,wo,us,rest,h,hk=>by
  have a:=L3.fold d h;have c:=sd (es:=es) rest (wo,us,[],);unfold nE;split
  .rename_i f;show Ii d k _ _ _ (a.len,a.pe,a.us,?_) ?_
   .have:=a.pm;rw[bQ]at this ⊢;show this
   .have:(dW es wo us rest).2.1.length+(dW es wo us rest).2.2.length=us.length+0+rest.length:=c.1;lia
  .rename_i f;show(a,λr hr=>?_)
   cases ha:(dW es wo us rest).1.any id with
   |false=>unfold iL;rw[TZ ha];rfl
   |true=>
    have e:(dW es wo us rest).2.1.length=us.length:=by
     have:us.length<=(dW es wo us rest).2.1.length:=c.2
     grind
    have(b,g,i):=Ih rest _ e;have b:(dW es wo us rest).1=wo:=b
    rcases bu.mp (h.pm.mem_iff.mpr hr)with z |z
    .rw[bQ]at z;rw[b];unfold iL;rw[h.us r z];rfl
    .grind
def Ij(a:∀r∈ms,r.w≠.never):L3 es ms (cf es ms) []/\∀r∈ms,iL es (cf es ms).1 r=af:=
 Ii a _ _ _ _ (by unfold jt;rw[aA],.refl,(λ_ h=>nomatch h),by simp) (c6 _)
def T0{x:O}(h:s.tl.length<900):s.o.setF "Seeking" "makers" x=aa (iK s.tl [lsO (s.es.map shD),lsO s.st,lsO s.bs,.dT s.gk (s.gd.map .fz),wsO s.ws,lsO s.wt,x]):=by
 change(if _/\(spN++s.tl.map (·.1)).length<1000 then _ else ab)=_;rw[if_pos (rfl,by rw[aR,aA];change 7+_<_;lia)];rfl
def T1(x:s.tl.length<900)(hm:s.mks=.lst (ms.map mkD))(I:s.es.length<=60)(hok:∀r∈ms,r.Ok s.es.length)(Q:∀r∈ms,r.w≠.never)(hz:ms.length<=1000):
  Cz l [] s.o=aa (({s with mks:=.lst (((cf s.es ms).2.1++(cf s.es ms).2.2).map mkD)}:Spr).o,.lst ((cf s.es ms).1.map D.bl),):=by
 have v:(jt s.es).length=s.es.length:=by unfold jt;rw[aA]
 apply fE;apply ak;show dO (TX (rT jP) (by lia)) ?_;walk_at "nrm";apply ak;show dO rfl ?_;walk_at "nrm";apply ak;show bo ((kC Tq).trans (by rw[hm])) ?_;walk_at "nrm";apply ak;show bo rfl ?_;walk_at "nrm";apply ak;show q9 (λm M=>∃(wo:LB0) (us rest:LRu) (g:Bool) (E G e:Sl),M=[.deep _,.own (wo.map D.bl),.own (us.map mkD),.im (.lst (rest.map mkD)),.im (.bl g),E,G,e]/\wo.length=s.es.length/\(us++rest).Perm ms/\(g=ac->nE s.es m wo us rest=cf s.es ms/\rest.length<m)/\(g=af->(wo,us,rest,)=cf s.es ms)) ?_ _ _ _ ⟨jt s.es,[],ms,ac,_,_,_,rfl,v,sV _,λ_=>(rfl,c6 _),λz=>by nomatch z⟩ (by lia)
 .rintro m M ⟨wo,us,rest,g,E,G,e,rfl,B,c,L,J⟩;show(g,rfl,?_,?_)
  .rintro rfl;have(f,u):=L rfl;have y:us.length+rest.length=ms.length:=by have:=c.length_eq;rw[aR]at this;show this
   apply ak;show bo (aE rfl (d9 us mkD)) ?_;walk_at "nrm";apply ak;show dO rfl ?_;walk_at "nrm";apply ak;show dD rest mkD (λpre M=>∃e,M=[.deep _,.own ((pre.foldl (bV s.es) (wo,us,[],)).1.map D.bl),.own ((pre.foldl (bV s.es) (wo,us,[],)).2.1.map mkD),.im _,.im _,.im _,.own ((pre.foldl (bV s.es) (wo,us,[],)).2.2.map mkD),e]/\(pre.foldl (bV s.es) (wo,us,[],)).1.length=s.es.length) rfl (_,rfl,B) ?_ ?_
   .rintro pre r post M ex ⟨e,rfl,b⟩;have j:r∈ms:=c.mem_iff.mp (by rw[ex];simp);have hr:=hok r j;have(C,U):=hr.hd (Q r j);have N:pre.length<rest.length:=by rw[ex];simp
    have i:(pre.foldl _ (wo,us,[],)).2.1.length+(pre.foldl _ (wo,us,[],)).2.2.length=us.length+0+pre.length:=(sd (es:=s.es) pre _).1;generalize h:pre.foldl _ _=A at *;show(_,rfl,?_);walk_at "nrm"
    have x:(dC (bK (mIx (aw 1) (mIx (aw 7) (kI 0)))) (mB (m2 dIs (av m_5 (ag (mIx (aw 7) (kI 1)) (ag (pB (aU "Seeking" "sheet" (aH 0))) (ag (cF 1) nZ)))) kN))) [.deep (.at l s.o),.own (A.1.map D.bl),.own (A.2.1.map mkD),.im (.lst (rest.map mkD)),.im (.bl ac),.im (.int us.length),.own (A.2.2.map mkD),.im (mkD r)]=aa (iL s.es A.1 r):=by
     unfold iL;rw[<- CS];show jI (dh (bg rfl (bg rfl rfl rfl) (jK C (by lia))) rfl) (bB (ap (aE (ao (bg rfl rfl rfl) (ao (jo jP) (ao rfl rfl))) (CQ r.ps hr.ps b)) rfl (TY _)))
    show aY x (λz=>?_) (λz=>?_)
    .apply ak;show oZ rfl (bg rfl rfl rfl) rfl C (by rw[aA];lia) ?_;walk_at "nrm";show fU rfl rfl (by rw[aA];lia) ?_;show(.im (mkD r),?_,?_)
     .rw[eE,h];change _=[_,Sl.own ((bV s.es A r).1.map D.bl),.own ((bV s.es A r).2.1.map mkD),_,_,_,.own ((bV s.es A r).2.2.map mkD),_];unfold bV;rw[if_pos z,<- TW,a9];rfl
     .rw[eE,h];change(bV s.es A r).1.length=_;unfold bV;rw[if_pos z,il];show b
    .show fU rfl rfl (by rw[aA];lia) ?_;have H:¬iL s.es A.1 r=ac:=by rw[z];show bG
     show(.im (mkD r),?_,?_)
     .rw[eE,h];change _=[_,Sl.own ((bV s.es A r).1.map D.bl),.own ((bV s.es A r).2.1.map mkD),_,_,_,.own ((bV s.es A r).2.2.map mkD),_];unfold bV;rw[if_neg H,a9];rfl
     .rw[eE,h];change(bV s.es A r).1.length=_;unfold bV;rw[if_neg H];show b
   .rintro M ⟨e,rfl,b⟩;have i:(dW s.es wo us rest).2.1.length+(dW s.es wo us rest).2.2.length=us.length+0+rest.length:=(sd rest _).1;change wp _ [.deep _,.own ((dW s.es wo us rest).1.map D.bl),.own ((dW s.es wo us rest).2.1.map mkD),.im _,.im _,.im _,.own ((dW s.es wo us rest).2.2.map mkD),e] _;replace b:(dW s.es wo us rest).1.length=s.es.length:=b
    have d:((dW s.es wo us rest).2.1++(dW s.es wo us rest).2.2).Perm ms:=by
     have gen:∀(q:LRu) a,((q.foldl (bV s.es) a).2.1++(q.foldl (bV s.es) a).2.2).Perm (a.2.1++a.2.2++q):=by
      intro q
      induction q with
      |nil=>intro a;simp
      |cons r q T=>
       intro a;show(T _).trans ?_;unfold bV;split
       .change(a.2.1++[r]++a.2.2++q).Perm _;rw[cI,cI,cI];show wF _ ?_;change(r::(a.2.2++q)).Perm _;show perm_middle.symm
       .change(a.2.1++_++q).Perm _;rw[show a.2.1++_++q=a.2.1++a.2.2++r::q by simp]
     show(gen rest _).trans ?_;rw[bQ];show c
    cases m with
    |zero=>show absurd u (io _)
    |succ m=>
     unfold nE at f;generalize h:dW s.es wo us rest=A at *;apply ak;show bo rfl ?_;walk_at "nrm";show bo (jJ (ap (aE rfl (d9 A.2.1 mkD)) rfl mW) (aE rfl (Oo A.1))) ?_
     by_cases n:us.length<A.2.1.length/\A.1.any id=ac
     .rw[if_pos n]at f;have p:(decide ((us.length:Int)<A.2.1.length) && A.1.any id)=ac:=by rw[n.2,decide_eq_true (by lia)];rfl
      rw[p];show⟨m,c6 _,A.1,A.2.1,A.2.2,ac,_,_,_,rfl,b,d,λ_=>(f,by lia),λz=>by nomatch z⟩
     .rw[if_neg n]at f
      have p:(decide ((us.length:Int)<A.2.1.length) && A.1.any id)=af:=by
       cases ha:A.1.any id with
       |false=>show sM _
       |true=>
        have:¬us.length<A.2.1.length:=λq=>n (q,ha);rw[decide_eq_false (by lia)];rfl
      rw[p];show(0,qh _,A.1,A.2.1,A.2.2,af,_,_,_,rfl,b,d,(λz=>by nomatch z),λ_=>f)
  .rintro rfl;have y:us.length+rest.length=ms.length:=by have:=c.length_eq;rw[aR]at this;show this
   rw[<- (J rfl)];apply ak;show gP (rX (bR (CF rfl rfl (by rw[aA,aA];lia)))) rfl (T0 x) ?_;rw[<- a9];show jp rfl (_,rfl,rfl,rfl)
abbrev prD(z:Int×Bool):D:=.tup [.int z.1,.bl z.2]
def CT(es:LOB)(t:Int):dIs (shD (es.getD t.toNat ab)) .non=aa (.bl (opn es t)):=by
 unfold opn
 cases es.getD t.toNat ab with
 |none=>rfl
 |some b=>cases b <;> rfl
abbrev wt(B:LII)(j:Int):Int:=((B.filter λz=>z.1==j).map (·.2)).sum
abbrev kW(W:LII):List Key:=W.map λz=>.inl z.1
abbrev xW(W:LII):LD:=W.map λz=>.int z.2
abbrev nF(W:LII)(j:Int):Int:=((W.find? λz=>z.1==j).map (·.2)).getD 0
abbrev upW(W:LII)(j v:Int):LII:=if W.any (λz=>z.1==j) then W.map (λz=>if z.1=j then (z.1,v,) else z) else W++[(j,v,)]
def Ik(W:LII)(j:Int):gh (kW W) (.inl j)=W.any λz=>z.1==j:=by
 unfold gh kW;rw[any_map]
 congr 1
 funext z;show jT.mpr (by simp)
def T3(W:LII)(j v:Int):hV (kW W) (.inl j)=kW (upW W j v):=by
 unfold hV upW;rw[Ik];split
 .unfold kW;rw[map_map];show map_congr_left λz _=>?_;change _=iw (if z.1=j then _ else z).1
  split <;> rfl
 .unfold kW;rw[a9];rfl
def T4(W:LII)(j v:Int):iH (kW W) (xW W) (.inl j) (.int v)=xW (upW W j v):=by
 unfold iH upW;rw[Ik];split
 .rename_i a;clear a;unfold kW xW
  induction W with
  |nil=>rfl
  |cons z W b=>
   simp only[bF,bF,sS,b,bF,bF]
   congr 1
   by_cases h:z.1=j
   .rw[if_pos (by rw[h]),if_pos h]
   .rw[if_neg λq=>h (tG q),if_neg h]
 .unfold xW;rw[a9];rfl
def Il(W:LII)(j:Int):gM (kW W) (xW W) (.inl j)=(W.find? λz=>z.1==j).map λz=>D.int z.2:=by
 unfold gM kW xW
 induction W with
 |nil=>rfl
 |cons z W a=>
  grind
def Im(W:LII)(j:Int):(gM (kW W) (xW W) (.inl j)).getD (.int 0)=.int (nF W j):=by
 rw[Il];unfold nF
 cases (W.find? λz=>z.1==j) <;> rfl
abbrev vz(W:LII)(z:Int×Int):LII:=upW W z.1 (nF W z.1+z.2)
abbrev wts(B:LII):LII:=B.foldl vz []
structure WOk(W B:LII):Prop where
 nd:(W.map (·.1)).Nodup
 ks:∀j,j∈W.map (·.1)↔j∈B.map (·.1)
 vs:∀z∈W,z.2=wt B z.1
 ln:W.length<=B.length
def Io(B:LII)(z:Int×Int)(j:Int):wt (B++[z]) j=wt B j+if z.1=j then z.2 else 0:=by
 unfold wt;rw[kL,a9,sum_append]
 congr 1
 by_cases h:z.1=j
 .rw[if_pos h,qb (by simp[h])];simp
 .rw[if_neg h,filter_cons_of_neg (by simp[h])];rfl
def CU{j:Int}(h:j∉B.map (·.1)):wt B j=0:=by
 unfold wt
 rw[filter_eq_nil_iff.mpr λz hz=>by
  simp only[beq_iff_eq]
  grind]
 rfl
def WOk.get{W B:LII}(h:WOk W B)(j:Int):nF W j=wt B j:=by
 unfold nF
 cases e:W.find? _ with
 |none=>
  have hn:j∉W.map (·.1):=λq=>by
   grind
  rw[CU λq=>hn ((h.ks j).mpr q)]
  rfl
 |some z=>
  have a:z.1=j:=by grind
  change z.2=_;rw[h.vs z (wA e),a]
def WOk.step{W B:LII}(h:WOk W B)(z:Int×Int):WOk (vz W z) (B++[z]):=by
 unfold vz upW;rw[h.get]
 by_cases d:W.any (λy=>y.1==z.1)=ac
 .rw[if_pos d]
  have f:(W.map λy=>if y.1=z.1 then (y.1,wt B z.1+z.2,) else y).map (·.1)=W.map (·.1):=by
   rw[map_map];show map_congr_left λy _=>?_;change(if y.1=z.1 then _ else y).1=_
   split <;> rfl
  show(by rw[f];show h.nd,λj=>?_,λy c=>?_,by rw[aA,aR];have:=h.ln;lia)
  .rw[f,h.ks j,a9,bu];show(.inl,λq=>q.elim id λq=>?_);have(y,c,e):=any_eq_true.mp d;have g:j=z.1:=by simpa using q
   rw[g,<- (beq_iff_eq.mp e)];show(h.ks _).mp (aJ.mpr (y,c,rfl))
  .have(x,l,ex):=aJ.mp c;rw[Io]
   by_cases e:x.1=z.1
   .rw[if_pos e]at ex;rw[<- ex,if_pos e.symm,e]
   .rw[if_neg e]at ex;rw[<- ex,if_neg λq=>e q.symm,h.vs x l]
    lia
 .rw[if_neg d]
  have hn : z.1∉W.map (·.1):=λq=>d (by
   have(y,c,e):=aJ.mp q;show any_eq_true.mpr (y,c,by simp[e]))
  show(?_,λj=>?_,λy c=>?_,by rw[aR,aR];have:=h.ln;change _+1<=_+1;lia)
  .rw[a9];show e8.mpr (h.nd,by simp,λa ha b i=>?_);have:b=z.1:=by simpa using i
   rw[this];show λq=>hn (q▸ha)
  .rw[a9,a9,bu,bu,h.ks j];rfl
  .rw[Io]
   rcases bu.mp c with q |q
   .have ne:z.1≠y.1:=λe=>hn (e▸aJ.mpr (y,q,rfl));rw[if_neg ne,h.vs y q]
    lia
   .have:y=(z.1,wt B z.1+z.2,):=by simpa using q
    rw[this,if_pos rfl]
def pP(B:LII):WOk (wts B) B:=by
 have go:∀(post pre W:List _),WOk W pre->WOk (post.foldl vz W) (pre++post):=by
  intro post
  induction post with
  |nil=>intro pre W h;rw[bQ];show h
  |cons z post a=>
   intro pre W h;have:=a _ _ (h.step z);rw[cI]at this;show this
 show go B [] [] (fJ,λ_=>Iff.rfl,λz h=>(dq h).elim,aL _)
def Ip(B:LII)(g:B.length<=100000):vf [.lst (B.map itD)]=aa (.kd (kW (wts B)) (xW (wts B))):=by
 apply jM;apply ak;show Gk rfl ?_;apply ak;show dD B itD (λpre M=>∃a b,M=[.im _,.ownd (kW (wts pre)) (xW (wts pre)),a,b]) rfl (_,_,rfl) ?_ ?_
 .rintro pre z post M e ⟨a,b,rfl⟩;show(_,rfl,?_);change wp _ [.im _,.ownd _ _,.im _,.im _] _;have h:pre.length<=B.length:=by rw[e,aR];lia
  have f:=(pP pre).ln
  have d:wts (pre++[z])=upW (wts pre) z.1 (nF (wts pre) z.1+z.2):=by
   unfold wts;rw[eE];rfl
  rw[d];generalize wts pre=W at f
  have c:pf 1 (ae 2) (kI 0) [.im (.lst (B.map itD)),.ownd (kW W) (xW W),.im (.int z.1),.im (.int z.2)]=aa (.int (nF W z.1)):=by
   change aa ((gM _ _ _).getD _)=_;rw[Im]
  show Gk (o:=.nx [.im _,.ownd _ _,.im (.int z.1),.im (.int z.2)]) ?_ (_,_,rfl);unfold ji;rw[ap c rfl gj,ay];change(if (kW W).length<16777216 then aa (Fl.nx [.im _,.ownd _ _,.im _,.im _]) else ab)=_;rw[if_pos (by unfold kW;rw[aA];lia),T3 W z.1 _,T4]
 .rintro M ⟨a,b,rfl⟩;show eT rfl (fB rfl)
abbrev opI(es:LOB)(B:LII):LII:=B.filter λz=>opn es z.1
abbrev hv(es:LOB)(B:LII)(lack:Int):LI0:=((wts (opI es B)).filter λz=>decide (z.2≥lack)).map (·.1)
def Iq(h:InN es.length B)(e:B.length<=100000)(lack:Int):vj [.lst (B.map itD),.lst (es.map shD),.int lack]=aa (.lst ((hv es B lack).map D.int)):=by
 have d:(opI es B).length<=B.length:=gW _ _;have ok:=pP (opI es B);have c:=ok.ln;apply jM;apply ak;show bo (aE (ao (bR (ds:=(opI es B).map itD) ?_) rfl) (Ip _ (by lia))) ?_
 .show eR B itD _ itD rfl (by lia) λz hz=>?_;have a:=h z hz;show dM rfl (bB (ap (bg rfl (bg rfl rfl rfl) (je a.1 a.2.1)) rfl (CT es z.1))) λ_=>rfl
 generalize b:wts _=W at ok c;show jm ?_ (jN rfl);unfold hv;rw[b,map_map];show eR W (λz=>D.int z.1) _ _ ?_ (by lia) λz hz=>?_
 .change aa _=_;unfold kW;rw[map_map];rfl
 .show dM rfl (bB (ap ?_ rfl Gn)) λ_=>rfl;change gM _ _ _=_;rw[Il,GQ W ok.nd z hz];rfl
abbrev tps(es:LOB):Prt->List (Int×Bool)
 |.inn t=>if opn es t then [(t,ac,)] else []
 |.out t=>if opn es t then [(t,af,)] else []
 |.least k B=>(hv es B (k-cE (·==aa ac) es B)).map λt=>(t,ac,)
 |.most k B=>(hv es B (cE (λe=>!(e==aa af)) es B-k)).map λt=>(t,af,)
def vA(lack:Int):(hv es B lack).length<=B.length:=by
 unfold hv;rw[aA];have a:=gW (λz:Int×Int=>decide (z.2≥lack)) (wts (opI es B));have h2:=(pP (opI es B)).ln;have b:(opI es B).length<=B.length:=gW _ _
 lia
def T5(p:Prt)(h:p.Ok es.length)(a:fo M=aa p.obj)(ha:fa M=aa [.lst (es.map shD)]):
  be (aM "In" "tips" Ca fo fa) (be (aM "Out" "tips" Co fo fa) (be (aM "Least" "tips" Cf fo fa) (aM "Most" "tips" Cj fo fa))) M=aa (.lst ((tps es p).map prD)):=by
 cases p with
 |inn t=>
  show dN ((cy a rfl ha).trans (dB (dA (lE (bB (ap (bg rfl rfl (je h.1 h.2)) rfl (CT es t))) (λe=>?_) λe=>?_))))
  .change _=aa (D.lst ((if opn es t then _ else []).map prD));rw[if_pos e];rfl
  .change _=aa (D.lst ((if opn es t then _ else []).map prD));rw[if_neg (by grind)]
   rfl
 |out t=>
  show bC (bD a (by decide)) (dN ((cy a rfl ha).trans (dB (dA (lE (bB (ap (bg rfl rfl (je h.1 h.2)) rfl (CT es t))) (λe=>?_) λe=>?_)))))
  .change _=aa (D.lst ((if opn es t then _ else []).map prD));rw[if_pos e];rfl
  .change _=aa (D.lst ((if opn es t then _ else []).map prD));rw[if_neg (by grind)]
   rfl
 |least k B=>
  have b:=vA (es:=es) (B:=B) (k-cE (·==aa ac) es B);have h2:=h.2;show bC (bD a (by decide)) (bC (bD a (by decide)) (dN ((cy a rfl ha).trans ?_)));apply jM;apply ak;show bo (ap rfl (aE rfl (CG h.1 h.2)) lG) ?_;show jm ?_ (jN rfl);change _=aa (((hv es B _).map λt=>_).map prD);rw[map_map]
  show gK _ D.int _ (eS (aE rfl (Iq h.1 h.2 _)) rfl) (by lia) λt _=>gg rfl rfl rfl
 |most k B=>
  have b:=vA (es:=es) (B:=B) (cE (λe=>!(e==aa af)) es B-k);have h2:=h.2;show bC (bD a (by decide)) (bC (bD a (by decide)) (bC (bD a (by decide)) ((cy a rfl ha).trans ?_)));apply jM;apply ak;show bo (ap (aE rfl (CH h.1 h.2)) rfl lG) ?_;show jm ?_ (jN rfl);change _=aa (((hv es B _).map λt=>_).map prD);rw[map_map];show gK _ D.int _ (eS (aE rfl (Iq h.1 h.2 _)) rfl) (by lia) λt _=>gg rfl rfl rfl
abbrev neg(z:Int×Bool):Int×Bool:=(z.1,!z.2,)
abbrev pnx(es:LOB)(p:Prt):Option (List (Int×Bool))->List (Int×Bool)
 |none=>tps es p
 |some l=>l.filter λz=>decide (z∈tps es p)
abbrev pst(es:LOB)(a:Option (List (Int×Bool)))(p:Prt):Option (List (Int×Bool)):=if p.sure es then a else aa (pnx es p a)
abbrev sh:Option (List (Int×Bool))->D
 |none=>.non
 |some l=>.lst (l.map prD)
def Ir(es:LOB):∀G:List Prt,G.foldl (pst es) (aa [])=aa []
 | []=>rfl
 |p::G=>by
  have:pst es (aa []) p=aa []:=by unfold pst;split <;> rfl
  rw[fH,this];show Ir es G
def T6(h:p.Ok es.length):(tps es p).length<=100000:=by
 cases p with
 |inn t=>
  change(if opn es t then _ else []).length<=100000;split
  .show(by decide:1<=100000)
  .show cj _
 |out t=>
  change(if opn es t then _ else []).length<=100000;split
  .show(by decide:1<=100000)
  .show cj _
 |least k B=>unfold tps;rw[aA];show cN (vA _) h.2
 |most k B=>unfold tps;rw[aA];show cN (vA _) h.2
def Iu(x:Int×Bool)(l:List (Int×Bool)):fT (prD x) (.lst (l.map prD))=aa (.bl (decide (x∈l))):=by
 have e:∀l:List _,di (prD x) (l.map prD)=aa (decide (x∈l)):=by
  intro l
  induction l with
  |nil=>rfl
  |cons z l a=>
   change((deq 19 _ _).bind λb=>(di _ _).map λr=>b || r)=_;rw[show deq 19 _ _=aa (z.1==x.1 && (z.2==x.2 && ac))from rfl,a];change aa _=_
   congr 1
   grind
 change((di _ _).map D.bl)=_
 grind
abbrev Iv:Option (List (Int×Bool))->LD ⊕ D
 |none=>.inr .non
 |some l=>.inl (l.map prD)
abbrev prs(G:List Prt)(es:LOB):Option (List (Int×Bool)):=(G.foldl (pst es) ab).map λl=>l.map neg
abbrev kRN(x:LD ⊕ D):Fl->Prop
 |.rtO ds=>x=.inl ds
 |.rt d=>d.scalar=ac/\x=.inr d
 | _=>False
def T7{F:MF3}{x:LD ⊕ D}(h:wp F (fR N ds) (kRN x)):zk N F ds=aa x:=by
 have(r,e,q):=h;change(F _).bind G7=aa x;rw[e,ay]
 cases r with
 |rtO us=>rw[show x=.inl us from q];rfl
 |rt d=>
  have(a,b):=q;rw[b]
  show if_pos a
 | _=>show q.elim
def T8(G:List Prt)(x:∀p∈G,p.Ok es.length):Cq [.lst (G.map Prt.obj),.lst (es.map shD)]=aa (Iv (prs G es)):=by
 apply T7;generalize m:D.lst _=q;apply ak;show bo rfl ?_;apply ak;show dD G Prt.obj (λpre M=>∃h i,M=[.im q,.im _,.im (sh (pre.foldl (pst es) ab)),h,i]/\∀l,pre.foldl (pst es) ab=aa l->l.length<=100000) (by subst m;rfl) ⟨_,_,rfl,λl e=>by nomatch e⟩ ?_ ?_
 .rintro pre p post M u ⟨h,i,rfl,c⟩;have n:=x p (by rw[u];simp);have b:G.foldl (pst es) ab=post.foldl (pst es) (pst es (pre.foldl (pst es) ab) p):=by rw[u,eE,fH]
  rw[eE,fH,foldl_nil];generalize pre.foldl _ ab=a at c b;show(_,rfl,?_);show aY (oU (dh (To p n rfl rfl) rfl)) (λe=>?_) λe=>b5 ?_
  .rw[Bool.not_eq_true']at e;have f:pst es a p=aa (pnx es p a):=by unfold pst;rw[if_neg (by rw[e];show bG)]
   apply ak;show bo (T5 p n rfl rfl) ?_;apply ak
   have v:(vIf (mB (m2 dIs (ae 2) kN)) (ae 4) (aO (bq 1 [4] (aV (ae 2)) (ax 0) (mB (m2 fT (ae 0) (ae 1))) (ae 0)))) [.im q,.im (.lst (es.map shD)),.im (sh a),.im p.obj,.im (.lst ((tps es p).map prD))]=aa (sh (pst es a p))/\∀l,pst es a p=aa l->l.length<=100000:=by
    rw[f]
    cases a with
    |none=>show(rfl,λl e=>by cases e;show(T6 n))
    |some w=>
     have r:=c w rfl;show(lE rfl (λe=>by nomatch e) λ_=>bR (eR w prD _ prD rfl (by lia) λz _=>dM rfl (bB (ap rfl rfl (Iu z _))) λ_=>rfl),λl e=>?_);cases e;show cN (gW _ _) r
   show bo v.1 ?_;obtain⟨g,j⟩:∃g,pst es a p=aa g:=(_,f);have d:=v.2;rw[j]at b d ⊢
   cases g with
   |nil=>
    show aY rfl (λ_=>?_) λe=>by nomatch e
    show jm rfl (?_);unfold prs;rw[b,Ir]
    rfl
   |cons z g=>
    show aY rfl (λe=>by nomatch e) λ_=>b5 (_,_,rfl,d)
  .rw[Bool.not_eq_false']at e;have f:pst es a p=a:=by unfold pst;rw[if_pos e]
   rw[f];show(_,_,rfl,c)
 .rintro M ⟨h,i,rfl,c⟩;unfold prs;generalize G.foldl _ ab=a at c;apply ak
  cases a with
  |none=>
   show aY rfl (λ_=>(eT rfl (rfl,rfl))) λe=>by nomatch e
  |some l=>
   have r:=c l rfl;show aY rfl (λe=>by nomatch e) λ_=>b5 ?_;show jm ?_ rfl;rw[map_map];show gK l prD _ rfl (by lia) λz _=>gg rfl rfl rfl
def iM(h:opn es t=ac):es.getD t.toNat ab=ab:=by simpa[opn]using h
def Iw(h:opn es t=ac):wt (opI es B) t=wt B t:=by
 unfold wt opI;rw[filter_filter]
 grind
def vB{lack:Int}:t∈hv es B lack↔opn es t=ac/\t∈B.map (·.1)/\wt B t≥lack:=by
 have ok:=pP (opI es B);constructor
 .intro h;have(z,hz,rfl):=aJ.mp h;have(b,h2):=ci.mp hz;have h2:=of_decide_eq_true h2;have(y,c,a):=aJ.mp ((ok.ks z.1).mp (aJ.mpr (z,b,rfl)));have(g,d):=ci.mp c;rw[a]at d;show(d,aJ.mpr (y,g,a),?_);rw[<- Iw d,<- ok.vs z b];show h2
 .rintro⟨b,h2,f⟩;have(y,c,a):=aJ.mp h2;have(z,hz,e):=aJ.mp ((ok.ks t).mpr (aJ.mpr (y,ci.mpr (c,by rw[a];show b),a)));show aJ.mpr (z,ci.mpr (hz,decide_eq_true ?_),e);rw[ok.vs z hz,e,Iw b];show f
def Ix(es:LOB)(B:LII)(lack:Int):(hv es B lack).Nodup:=by
 unfold hv;show wC ((nU (p:=λz:Int×Int=>decide _)).map (·.1)) (pP _).nd
def CV(z:Int×Int)(B:LII)(t:Int):wt (z::B) t=(if z.1=t then z.2 else 0)+wt B t:=by
 unfold wt
 grind
def vC(q:Option Bool->Bool)(es:LOB)(z:Int×Int)(B:LII):cE q es (z::B)=(if q (es.getD z.1.toNat ab) then z.2 else 0)+cE q es B:=by
 unfold cE
 grind
def CW(h:InN n B)(t:Int):0<=wt B t:=by
 induction B with
 |nil=>show Int.le_refl _
 |cons z B b=>
  have c:=h z az;have h2:=b λy a=>h y (bh _ a);rw[CV]
  grind
def lC{j:Int}{b:Bool}(t0:0<=t)(t1:t<(es.length:Int))(a:0<=j):(put es t.toNat b).getD j.toNat ab=if j=t then aa b else es.getD j.toNat ab:=by
 by_cases e:j=t
 .rw[if_pos e,e];show eU es b (by lia)
 .rw[if_neg e];show cZ es b (by lia)
def vE(h:InN es.length B)(t0:0<=t)(t1:t<(es.length:Int))(a:opn es t=ac)(b:Bool):cE (·==aa ac) (put es t.toNat b) B=cE (·==aa ac) es B+if b then wt B t else 0:=by
 induction B with
 |nil=>cases b <;> rfl
 |cons z B d=>
  rw[vC,vC,CV,(d λy c=>h y (bh _ c)),lC t0 t1 (h z az).1]
  by_cases e:z.1=t
  .rw[if_pos e,if_pos e,e,iM a]
   cases b with
   |true=>
    change z.2+(cE _ es B+wt B t)=0+cE _ es B+(z.2+wt B t)
    lia
   |false=>
    change 0+(cE _ es B+0)=0+cE _ es B+0
    lia
  .rw[if_neg e,if_neg e]
   split <;> split <;> lia
def vF(h:InN es.length B)(t0:0<=t)(t1:t<(es.length:Int))(a:opn es t=ac)(b:Bool):cE (λe=>!(e==aa af)) (put es t.toNat b) B=cE (λe=>!(e==aa af)) es B-if b then 0 else wt B t:=by
 induction B with
 |nil=>cases b <;> rfl
 |cons z B d=>
  rw[vC,vC,CV,(d λy c=>h y (bh _ c)),lC t0 t1 (h z az).1]
  by_cases e:z.1=t
  .rw[if_pos e,if_pos e,e,iM a]
   cases b with
   |true=>
    change z.2+(cE _ es B-0)=z.2+cE _ es B-0
    lia
   |false=>
    change 0+(cE _ es B-wt B t)=z.2+cE _ es B-(z.2+wt B t)
    lia
  .rw[if_neg e,if_neg e]
   split <;> split <;> lia
def CY(i:p.Ok es.length)(d:p.sure es=af)(t:Int)(b:Bool):(t,b,)∈tps es p↔(0<=t/\t<(es.length:Int))/\opn es t=ac/\p.sure (put es t.toNat b)=ac:=by
 cases p with
 |inn t0=>
  have(f,g):=i;change _∈(if opn es t0 then _ else [])↔_
  have es':0<=t->t<_->(Prt.sure _ (.inn t0)=ac↔(if t0=t then aa b else es.getD t0.toNat ab)=aa ac):=λx y=>by
   rw[<- lC x y f];show beq_iff_eq
  have d:¬es.getD t0.toNat ab=aa ac:=λq=>by
   have:(es.getD t0.toNat ab==aa ac)=af:=d;rw[q]at this;show absurd this (by decide)
  constructor
  .intro h;split at h
   .rename_i c;have:(t,b,)=(t0,ac,):=by simpa using h
    cases this;show((f,g),c,(es' f g).mpr (if_pos rfl))
   .nomatch h
  .rintro⟨⟨x,y⟩,c,a⟩;have a:=(es' x y).mp a
   by_cases e:t0=t
   .rw[if_pos e]at a;cases a;rw[e,if_pos c];show az
   .rw[if_neg e]at a
    show absurd a d
 |out t0=>
  have(f,g):=i;change _∈(if opn es t0 then _ else [])↔_
  have es':0<=t->t<_->(Prt.sure _ (.out t0)=ac↔(if t0=t then aa b else es.getD t0.toNat ab)=aa af):=λx y=>by
   rw[<- lC x y f];show beq_iff_eq
  have d:¬es.getD t0.toNat ab=aa af:=λq=>by
   have:(es.getD t0.toNat ab==aa af)=af:=d;rw[q]at this;show absurd this (by decide)
  constructor
  .intro h;split at h
   .rename_i c;have:(t,b,)=(t0,af,):=by simpa using h
    cases this;show((f,g),c,(es' f g).mpr (if_pos rfl))
   .nomatch h
  .rintro⟨⟨x,y⟩,c,a⟩;have a:=(es' x y).mp a
   by_cases e:t0=t
   .rw[if_pos e]at a;cases a;rw[e,if_pos c];show az
   .rw[if_neg e]at a
    show absurd a d
 |least k B=>
  have hi:=i.1;have d:=of_decide_eq_false d;change _∈(hv es B _).map _↔(_/\_/\decide _=ac);rw[decide_eq_true_iff];constructor
  .intro h;have(u,hm,e):=aJ.mp h;cases e;have(c,hn,l):=vB.mp hm;have(z,hz,j):=aJ.mp hn;have hr:=hi z hz;rw[j]at hr;show((hr.1,hr.2.1),c,?_);rw[vE hi hr.1 hr.2.1 c,if_pos rfl];lia
  .rintro⟨⟨x,y⟩,c,a⟩;simp only[vE hi x y c]at a
   cases b with
   |false=>rw[if_neg (by decide)]at a;lia
   |true=>
    show aJ.mpr (t,vB.mpr (c,?_,by lia),rfl)
    by_cases q:t∈B.map (·.1)
    .show q
    .rw[CU q]at a
     lia
 |most k B=>
  have hi:=i.1;have d:=of_decide_eq_false d;change _∈(hv es B _).map _↔(_/\_/\decide _=ac);rw[decide_eq_true_iff];constructor
  .intro h;have(u,hm,e):=aJ.mp h;cases e;have(c,hn,l):=vB.mp hm;have(z,hz,j):=aJ.mp hn;have hr:=hi z hz;rw[j]at hr;show((hr.1,hr.2.1),c,?_);rw[vF hi hr.1 hr.2.1 c,if_neg (by decide)];lia
  .rintro⟨⟨x,y⟩,c,a⟩;rw[vF hi x y c]at a
   cases b with
   |true=>rw[if_pos rfl]at a;lia
   |false=>
    show aJ.mpr (t,vB.mpr (c,?_,by lia),rfl)
    by_cases q:t∈B.map (·.1)
    .show q
    .rw[CU q]at a
     lia
def vG(c:p.Ok es.length)(t0:0<=t)(t1:t<(es.length:Int))(d:opn es t=ac)(b:Bool)(h:p.sure es=ac):p.sure (put es t.toNat b)=ac:=by
 have f:=iM d
 cases p with
 |inn u=>
  have a:=beq_iff_eq.mp h;change((put es t.toNat b).getD u.toNat ab==aa ac)=ac;rw[lC t0 t1 c.1,if_neg (λe=>by rw[e,f]at a;nomatch a),a]
  rfl
 |out u=>
  have a:=beq_iff_eq.mp h;change((put es t.toNat b).getD u.toNat ab==aa af)=ac;rw[lC t0 t1 c.1,if_neg (λe=>by rw[e,f]at a;nomatch a),a]
  rfl
 |least k B=>
  have h:=of_decide_eq_true h;change decide _=ac;have:=CW c.1 t;rw[decide_eq_true_iff,vE c.1 t0 t1 d]
  grind
 |most k B=>
  have h:=of_decide_eq_true h;change decide _=ac;have:=CW c.1 t;rw[decide_eq_true_iff,vF c.1 t0 t1 d]
  grind
def T9(es:LOB)(p:Prt):((tps es p).map (·.1)).Nodup:=by
 have one:∀(q:Bool) (z:Int×Bool),((if q then [z] else []).map (·.1)).Nodup:=λq z=>by
  cases q
  .show fJ
  .show b7.mpr (λh=>(dq h).elim,fJ)
 cases p with
 |inn t=>show one _ _
 |out t=>show one _ _
 |least k B=>
  change(((hv es B _).map λt=>(t,ac,)).map (·.1)).Nodup;rw[map_map]
  show(map_id _).symm▸Ix es B _
 |most k B=>
  change(((hv es B _).map λt=>(t,af,)).map (·.1)).Nodup;rw[map_map];show(map_id _).symm▸Ix es B _
abbrev CZ(es:LOB)(G:List Prt):Option (List (Int×Bool))->Prop
 |none=>∀p∈G,p.sure es=ac
 |some l=>(∃p∈G,p.sure es=af)/\(∀z,z∈l↔∀p∈G,p.sure es=af->z∈tps es p)/\(l.map (·.1)).Nodup
def Iy(es:LOB)(G:List Prt):CZ es G (G.foldl (pst es) ab):=by
 have go:∀(post pre:List Prt) b,CZ es pre b->CZ es (pre++post) (post.foldl (pst es) b):=by
  intro post
  induction post with
  |nil=>intro pre b h;rw[bQ];show h
  |cons p post j=>
   intro pre b h;have:=j (pre++[p]) (pst es b p) ?_
   .grind
   unfold pst
   cases f:p.sure es with
   |true=>
    have hm:∀q,q∈pre++[p]->q∈pre\/q=p:=λq c=>(bu.mp c).imp id λe=>by simpa using e
    cases b with
    |none=>show λq c=>(hm q c).elim (h q) λe=>e▸f
    |some l=>
     have((q,c,i),h2,g):=h;show((q,bT _ c,i),λz=>?_,g)
     grind
   |false=>
    have d:p∈pre++[p]:=by simp
    cases b with
    |none=>
     show((p,d,f),λz=>?_,T9 es p);show(λa q c e=>?_,λa=>a p d f)
     rcases bu.mp c with w |w
     .rw[h q w]at e;grind
     .have:q=p:=by simpa using w
      rw[this];show a
    |some l=>
     have(_,h2,g):=h;show((p,d,f),λz=>?_,wC ((nU (p:=λz=>decide (z∈tps es p))).map (·.1)) g);change z∈l.filter _↔_
     grind
 show go G [] ab λp d=>(dq d).elim
nonrec def Pr:=Int×Bool
nonrec abbrev LLP:=List (List Pr)
nonrec def Wy:=Bool×Nat
nonrec def Wt:=List (Pr×List Wy)
abbrev wyS(b:Bool):Str:=cond b "bar" "rule"
abbrev wyD(y:Wy):D:=.tup [.str (wyS y.1),.int y.2]
abbrev wyK(y:Wy):List Key:=[.inr (wyS y.1),.inl y.2]
abbrev eC(b:List Pr):D:=.lst (b.map prD)
abbrev brP(z:Pr):Prt:=if z.2 then .inn z.1 else .out z.1
abbrev brg(b:List Pr):List Prt:=b.map brP
variable{y:Wy}
def C0{x:Wy}(h:wyK x=wyK y):x=y:=by
 have(a,i):=x;have(b,j):=y;have(c,h2):=qg h;have f:=tG (qg h2).1;have d:i=j:=by lia
 subst d;have e:wyS a=wyS b:=Sum.inr.inj c
 cases a <;> cases b <;> first |rfl |show absurd e (by decide)
variable{p q:Pr}
def Iz(h:gt p.1 p.2=gt q.1 q.2):p=q:=by
 have(a,i):=p;have(b,j):=q;have(c,h2):=qg h
 grind
abbrev gB(p:Pr)(y:Wy):Wt->Wt
 | []=>[(p,[y],)]
 |q::tw=>if q.1=p then (q.1,q.2++[y],)::tw else q::gB p y tw
abbrev gR(p:Pr)(y:Wy):Wt->Wt
 | []=>[]
 |q::tw=>if q.1=p then (q.1,q.2.erase y,)::tw else q::gR p y tw
abbrev look(tw:Wt)(p:Pr):List Wy:=match tw with
 | []=>[]
 |q::tw=>if q.1=p then q.2 else look tw p
abbrev wtW(tw:Wt):Wss:=tw.map λq=>(gt q.1.1 q.1.2,q.2.map wyD,)
def IA(p:Pr)(y:Wy):∀tw:Wt,gq (gt p.1 p.2) (wyD y) (wtW tw)=wtW (gB p y tw)
 | []=>rfl
 |q::tw=>by
  change gq _ _ ((gt q.1.1 q.1.2,q.2.map wyD,)::wtW tw)=_;unfold gq gB
  by_cases e:q.1=p
  .rw[if_pos (by rw[e]),if_pos e];change _=(_,(q.2++[y]).map wyD,)::wtW tw
   grind
  .rw[if_neg (λz=>e (Iz z)),if_neg e,IA p y tw];rfl
def ixW(p:Pr):∀tw:Wt,(aT (gt p.1 p.2) ((wtW tw).map (·.1))=ab/\look tw p=[])\/∃j q,aT (gt p.1 p.2) ((wtW tw).map (·.1))=aa j/\tw[j]?=aa q/\q.1=p/\look tw p=q.2/\∀y,gR p y tw=tw.set j (q.1,q.2.erase y,)
 | []=>.inl (rfl,rfl)
 |q::tw=>by
  change(aT _ (gt q.1.1 q.1.2::(wtW tw).map (·.1))=ab/\_)\/∃j b,aT _ (gt q.1.1 q.1.2::(wtW tw).map (·.1))=aa j/\_;unfold aT look
  by_cases e:q.1=p
  .show .inr (0,q,if_pos (by rw[e]),rfl,e,if_pos e,λy=>?_);unfold gR
   grind
  .rw[if_neg (λz=>e (Iz z)),if_neg e]
   rcases ixW p tw with⟨a,h2⟩ |⟨j,b,a,h2,c,d,f⟩
   .grind
   .show .inr (j+1,b,by rw[a];rfl,by rw[gV];show h2,c,d,λy=>?_);unfold gR
    grind
def vH(ds:LD):(lsO ds).items=aa ds:=ze ds
def Ua(tw:Wt)(p:Pr):(wsO (wtW tw)).got (gt p.1 p.2)=aa ((look tw p).map wyD):=by
 unfold wsO O.got;dsimp only
 rcases ixW p tw with⟨a,h2⟩ |⟨j,q,a,h2,c,b,d⟩
 .grind
 .rw[a,b];dsimp only;rw[cH,wtW,cH,h2];show vH _
variable{tw:Wt}{pp:Xp}{g:MF1}
def C3(h:pp M=aa (wsO (wtW tw),R,))(a:g M=aa (prD p)):ib pp g M=aa ((look tw p).map wyD):=by
 unfold ib;rw[h,ay,a,ay];show Ua tw p
def Ub(h:pp M=aa (wsO (wtW tw),R,))(e:g M=aa (prD p))(i:look tw p≠[]):∃a,kA pp g M=aa (lsO ((look tw p).map wyD),a,)/\∀y,a (lsO (((look tw p).erase y).map wyD))=R (wsO (wtW (gR p y tw))):=by
 rcases ixW p tw with⟨b,h2⟩ |⟨j,q,b,h2,f,c,d⟩
 .grind
 .show(λx=>R (.dT ((wtW tw).map (·.1)) (((wtW tw).map λp=>lsO p.2).set j x)),?_,λy=>?_)
  .unfold kA;rw[h,ay,e,ay];change((wsO _).key (gt p.1 p.2)).map _=_;unfold wsO O.key;dsimp only;rw[b,ay,cH,wtW,cH,h2,c];rfl
  .rw[d y,c];unfold wsO wtW;rw[gY,gY,gY,ni (by grind)]
def IB(z y:Wy):deq 19 (wyD z) (wyD y)=aa (z==y):=by
 rw[show deq 19 _ _=aa ((wyS z.1==wyS y.1) && ((_==_) && ac))from rfl]
 congr 1
 have(a,i):=z;have(b,j):=y;apply jT.mpr;simp only[cB,beq_iff_eq,Prod.mk.injEq,and_true];constructor
 .rintro⟨u,v⟩;show(?_,by lia)
  cases a <;> cases b <;> first |rfl |show absurd u (by decide)
 .grind
def C4(y:Wy):∀V2:List Wy,di (wyD y) (V2.map wyD)=aa (decide (y∈V2))
 | []=>rfl
 |z::V2=>by
  change((deq 19 _ _).bind λb=>(di _ _).map λr=>b || r)=_;rw[IB,C4 y V2]
  grind
def IC(y:Wy):∀V2:List Wy,y∈V2->(V2.map wyD).eraseIdx ((V2.map wyD).findIdx (isE (wyD y)))=(V2.erase y).map wyD
 | [],h=>nomatch h
 |z::V2,h=>by
  have a:isE (wyD y) (wyD z)=(z==y):=by
   unfold isE;rw[IB]
   grind
  rw[bF,qe,a,erase_cons]
  cases e:z==y with
  |true=>rfl
  |false=>
   have:y∈V2:=by
    grind
   change wyD z::(V2.map wyD).eraseIdx _=_;rw[IC y V2 this];rfl
def Uc{V2:List Wy}(h:y∈V2):(lsO (V2.map wyD)).remd (wyD y)=aa (lsO ((V2.erase y).map wyD)):=by
 unfold O.remd;rw[vH,ay,C4,decide_eq_true h,if_pos rfl,IC y V2 h];rfl
def Ud(y:Wy)(V2:List Wy):fT (wyD y) (.lst (V2.map wyD))=aa (.bl (decide (y∈V2))):=by
 change((di _ _).map D.bl)=_;rw[C4];rfl
abbrev gys(r b:Nat):List Wy:=(bO r).map (λi=>(af,i,))++(bO b).map λi=>(ac,i,)
abbrev bN(L:LRu)(bs:LLP)(y:Wy):List Prt:=cond y.1 (brg (bs.getD y.2 [])) (((L[y.2]?).map grd).getD [])
abbrev gdD(L:LRu)(bs:LLP)(y:Wy):D:=.lst ((bN L bs y).map Prt.obj)
def ID(r b:Nat):(gys r b).Nodup:=by
 show e8.mpr ((wE _ (λa b h e=>h (sY e).2) nodup_range),(wE _ (λa b h e=>h (sY e).2) nodup_range),?_)
 grind
variable{r:Nat}
def eW{b:Nat}:y∈gys r b↔y.2<cond y.1 b r:=by
 unfold gys;have(a,i):=y
 cases a <;> simp
def Ue(r b:Nat):(gys r b).length=r+b:=by unfold gys;simp
def C5(r b:Nat):gys r (b+1)=gys r b++[(ac,b,)]:=by unfold gys;rw[range_succ];simp
def C6{b c:Type}[DecidableEq c]{f:b->c}(d:∀x y,f x=f y->x=y):∀{l:List b} {j:Nat} {a:b},l.Nodup->l[j]?=aa a->aT (f a) (l.map f)=aa j
 | [],_,_,_,h=>by cases h
 |x::l,0,a,_,h=>by
  cases h
  show if_pos rfl
 |x::l,j+1,a,nd,h=>by
  have(g,i):=b7.mp nd;rw[bF];unfold aT;rw[if_neg (λe=>g (by grind)),C6 d i h];rfl
structure Spt where
 es:LOB
 st:LD
 bs:LLP
 tw:Wt
 wt:List Wy
 ms:LRu
 pp:LD
 ct:Int
 en:Bool
abbrev Spt.S(L:LRu)(s:Spt):Spr:=(s.es,s.st,s.bs.map eC,(gys L.length s.bs.length).map wyK,(gys L.length s.bs.length).map (gdD L s.bs),wtW s.tw,s.wt.map wyD,.lst (s.ms.map mkD),[("paper",lsO s.pp,),("count",.fz (.int s.ct),),("ended",.fz (.bl s.en),)])
def Uf{s:Spt}(c:y∈gys L.length s.bs.length)(b:g (.deep (.at l (s.S L).o)::M)=aa (wyD y)):pB (kA (aU "Seeking" "guards" (aH 0)) g) (.deep (.at l (s.S L).o)::M)=aa (gdD L s.bs y):=by
 have(j,a):=nR c;unfold pB kA;rw[HR,ay,b,ay];change(((O.dT ((gys L.length s.bs.length).map wyK) (((gys L.length s.bs.length).map _).map .fz)).key (wyK y)).map _).bind _=_;unfold O.key;dsimp only;rw[(C6 (λ_ _=>C0) (ID _ _) a),ay,cH,cH,a];rfl
abbrev si(y:Wy)(tw:Wt)(p:Prt):Wt:=(nmL p).foldl (λtw t=>gB (t,gQ p,) y tw) tw
abbrev fX(y:Wy)(ps:List Prt)(tw:Wt):Wt:=ps.foldl (si y) tw
def Ug(y:Wy)(p:Prt)(tw:Wt):vp (wyD y) (wtW tw) p=wtW (si y tw p):=by
 unfold vp si;generalize nmL p=ts
 induction ts generalizing tw with
 |nil=>rfl
 |cons t ts a=>rw[fH,fH,IA (t,gQ p,),a]
def vI(y:Wy)(ps:List Prt)(tw:Wt):nB (wyD y) ps (wtW tw)=wtW (fX y ps tw):=by
 unfold nB fX
 induction ps generalizing tw with
 |nil=>rfl
 |cons p ps a=>rw[fH,fH,Ug,a]
abbrev nG:Nat->LRu->Wt->Wt
 | _,[],tw=>tw
 |i,r::L,tw=>nG (i+1) L (fX (af,i,) (grd r) tw)
def IE:∀(L:LRu) (i:Nat) (s:Spr) (tw:Wt),s.ws=wtW tw->(eV i L).foldl lP s=(s.es,s.st,s.bs,s.gk++(eV i L).map (λp=>nC p.1),s.gd++(eV i L).map (λp=>.lst ((grd p.2).map Prt.obj)),wtW (nG i L tw),s.wt++(eV i L).map (λp=>r6 p.1),s.mks,s.tl)
 | [],i,s,tw,h=>by
  have(a,b,c,d,e,f,g,m,tl):=s;subst h;simp[eV]
  rfl
 |r::L,i,s,tw,h=>by
  rw[eV,fH,IE L _ _ (fX (af,i,) _ tw) (by rw[<- vI,<- h];rfl)];simp[lP,vq,nG]
def IF{a:Type}(f:Nat->a)(L:LRu):(eV 0 L).map (λp=>f p.1)=(bO L.length).map f:=by
 apply l5;intro j;rw[cH,r9,cH]
 grind
abbrev spT(es:LOB)(L:LRu):Spt:=(es,[],[],nG 0 L [],(bO L.length).map λi=>(af,i,),fF L,[],0,af)
def Uh(es:LOB)(L:LRu):spI es L={(spT es L).S L with tl:=[]}:=by
 unfold spI;rw[IE L 0 _ [] rfl,IF nC,IF r6];dsimp only[Spt.S,spT,sp0,gys];simp only[nX,map_nil,length_nil,range_zero,bQ,map_map]
 congr 1
 apply l5;intro j;rw[cH,r9,cH]
 by_cases h:j<L.length
 .rw[wz h];simp[gdD,bN,b6 h]
 .rw[ig (by lia),ig (by rw[cV];lia)];rfl
def sj(p q:Pr)(y:Wy):∀tw:Wt,look (gB p y tw) q=if q=p then look tw q++[y] else look tw q
 | []=>by
  change(if p=q then [y] else [])=if q=p then []++[y] else []
  grind
 |r::tw=>by
  by_cases e:r.1=p
  .rw[gB,if_pos e];change(if r.1=q then r.2++[y] else look tw q)=if q=p then (if r.1=q then r.2 else look tw q)++[y] else (if r.1=q then r.2 else look tw q)
   grind
  .rw[gB,if_neg e];change(if r.1=q then r.2 else look _ q)=if q=p then (if r.1=q then r.2 else look tw q)++[y] else (if r.1=q then r.2 else look tw q);rw[(sj p q y tw)]
   grind
def IG(p q:Pr)(y:Wy):∀tw:Wt,look (gR p y tw) q=if q=p then (look tw q).erase y else look tw q
 | []=>by
  split <;> rfl
 |r::tw=>by
  by_cases e:r.1=p
  .rw[gR,if_pos e];change(if r.1=q then r.2.erase y else look tw q)=if q=p then (if r.1=q then r.2 else look tw q).erase y else (if r.1=q then r.2 else look tw q)
   grind
  .rw[gR,if_neg e];change(if r.1=q then r.2 else look _ q)=if q=p then (if r.1=q then r.2 else look tw q).erase y else (if r.1=q then r.2 else look tw q);rw[(IG p q y tw)]
   grind
nonrec def cn(tw:Wt)(p:Pr)(y:Wy):Nat:=(look tw p).count y
def gS:y∈look tw p↔0<cn tw p y:=count_pos_iff.symm
def Ui{z:Wy}(h:z≠y):cn (gB p y tw) q z=cn tw q z:=by
 unfold cn;rw[sj];split
 .rw[count_append,count_singleton,if_neg (by rw[beq_iff_eq];show λe=>h e.symm)];rfl
 .rfl
def nH{y z:Wy}(h:z≠y)(q:Pr):∀(ps:List Prt) (tw:Wt),cn (fX y ps tw) q z=cn tw q z
 | [],_=>rfl
 |p::ps,tw=>by
  change cn (fX y ps _) q z=_;rw[nH h q ps];unfold si;generalize nmL p=ts
  induction ts generalizing tw with
  |nil=>rfl
  |cons t ts a=>rw[fH,a,Ui h]
def Uj(y:Wy)(tw:Wt)(z:Pr):si y tw (brP z)=gB z y tw:=by
 have(t,b):=z
 cases b <;> rfl
def C7(y:Wy)(q:Pr):∀(b:List Pr) (tw:Wt),cn (fX y (brg b) tw) q y=cn tw q y+b.count q
 | [],_=>rfl
 |z::b,tw=>by
  change cn (fX y (brg b) _) q y=_;rw[C7 y q b,Uj,count_cons]
  have:cn (gB z y tw) q y=cn tw q y+if z==q then 1 else 0:=by
   unfold cn;rw[sj]
   by_cases e:q=z
   .rw[if_pos e,count_append,if_pos (by rw[e];show beq_self_eq_true z),count_singleton,if_pos (beq_self_eq_true y)]
   .rw[if_neg e,if_neg (by rw[beq_iff_eq];show λx=>e x.symm)];rfl
  lia
abbrev kG(y:Wy)(ps:List Pr)(tw:Wt):Wt:=ps.foldl (λtw p=>gR p y tw) tw
def Uk(p q:Pr)(y z:Wy)(tw:Wt):cn (gR p y tw) q z=if q=p/\z=y then cn tw q z-1 else cn tw q z:=by
 unfold cn;rw[IG]
 by_cases e:q=p
 .rw[if_pos e]
  by_cases f:z=y
  .rw[if_pos (e,f),f,count_erase_self]
  .rw[if_neg (λx=>f x.2),count_erase_of_ne f]
 .rw[if_neg e,if_neg (λx=>e x.1)]
def C8(q:Pr)(y z:Wy):∀(ps:List Pr) (tw:Wt),ps.Nodup->cn (kG y ps tw) q z=if q∈ps/\z=y then cn tw q z-1 else cn tw q z
 | [],tw,_=>by rw[if_neg (λx=>nomatch x.1)];rfl
 |p::ps,tw,nd=>by
  have(a,b):=b7.mp nd;change cn (kG y ps _) q z=_;rw[C8 q y z ps _ b,Uk]
  by_cases f:z=y
  .by_cases e:q=p
   .rw[if_neg (λx=>a (by rw[<- e];show x.1)),if_pos (e,f),if_pos (by rw[e];show az,f)]
   .rw[if_neg (λx:q=p/\z=y=>e x.1)]
    by_cases g:q∈ps
    .rw[if_pos (g,f),if_pos (bh _ g,f)]
    .rw[if_neg (λx=>g x.1),if_neg (λx=>by rcases aZ.mp x.1 with u |u;show e u;show g u)]
  .rw[if_neg (λx=>f x.2),if_neg (λx=>f x.2),if_neg (λx=>f x.2)]
def Ul(h:bS c (wtW tw)):bS c (wtW (gR p y tw)):=by
 have gen:∀tw:Wt,(gR p y tw).length=tw.length/\∀q∈gR p y tw,∃d∈tw,q.2.length<=d.2.length:=by
  intro tw
  induction tw with
  |nil=>show⟨rfl,λq h=>nomatch h⟩
  |cons r tw f=>
   dsimp only[gR];split
   .show(rfl,λq a=>?_)
    rcases aZ.mp a with e |e
    .rw[e];show(r,az,(erase_sublist).length_le)
    .show(q,bh _ e,aL _)
   .show(by rw[cr,f.1];rfl,λq a=>?_)
    rcases aZ.mp a with e |e
    .rw[e];show(r,az,aL _)
    .have(d,b,h2):=f.2 q e;show(d,bh _ b,h2)
 have(g,i):=gen tw;show(by unfold wtW;rw[aA,g];have:=h.ln;unfold wtW at this;rwa [aA]at this,λq a=>?_);have(x,j,rfl):=aJ.mp a;have(l,b,h2):=i x j;have:=h.al _ (aJ.mpr (l,b,rfl));rw[aA]at this ⊢
 lia
def IH{c:Nat}{y:Wy}:∀{ps:List Pr} {tw:Wt},bS c (wtW tw)->bS c (wtW (kG y ps tw))
 | [],_,h=>h
 | _::ps,_,h=>IH (ps:=ps) (Ul h)
def C9(h:bS c (wtW tw))(p:Pr):(look tw p).length<=c:=by
 rcases ixW p tw with⟨_,h2⟩ |⟨j,q,b,h2,d,a,e⟩
 .rw[h2];show cj _
 .rw[a];have:=h.al _ (aJ.mpr (q,dH h2,rfl))
  rwa [aA]at this
def sm(nd:ns.Nodup)(h:∀x∈ns,0<=x/\x<(n:Int)):ns.length<=n:=by
 by_cases c:ns.length<=n
 .show c
 .have d:∀x∈ns,x∈(bO n).map λ(i:Nat)=>(i:Int):=λx e=>by
   have(a,b):=h x e;show aJ.mpr (x.toNat,fI.mpr (by lia),by lia)
  have:=(oY ns _ nd d (by rw[aA,cV];lia)).length_eq;rw[aA,cV]at this
  lia
structure cT(n:Nat)(b:List Pr):Prop where
 nn:∀z∈b,0<=z.1/\z.1<(n:Int)
 nd:(b.map (·.1)).Nodup
variable{b:List Pr}
def cT.pd(h:cT n b):b.Nodup:=List.Pairwise.of_map _ (λ_ _ z e=>z (by rw[e])) h.nd
def cT.len(h:cT n b):b.length<=n:=by
 have:(b.map (·.1)).length<=n:=sm h.nd λx a=>by
  have(z,hz,rfl):=aJ.mp a;show h.nn z hz
 rwa [aA]at this
def cT.nil(n:Nat):cT n []:=((λ_ h=>nomatch h),fJ)
structure dX(c r:Nat)(bs:LLP)(tw:Wt):Prop where
 wk:bS c (wtW tw)
 vl:∀p,∀y∈look tw p,y∈gys r bs.length
 br:∀j,(∀p,cn tw p (ac,j,)=0)\/(∀p,cn tw p (ac,j,)=if p∈bs.getD j [] then 1 else 0)
abbrev wider(tw:Wt):List Pr->List Wy
 | []=>[]
 |p::b=>(p::b).foldl (λV2 q=>V2.filter λy=>decide (y∈look tw q)) (look tw p)
def II(tw:Wt):∀(b:List Pr) (V2:List Wy),(b.foldl (λV2 q=>V2.filter λy=>decide (y∈look tw q)) V2).Sublist V2/\∀y∈b.foldl (λV2 q=>V2.filter λy=>decide (y∈look tw q)) V2,∀p∈b,y∈look tw p
 | [],V2=>⟨qf _,λ_ _ _ h=>nomatch h⟩
 |q::b,V2=>by
  have(a,h2):=II tw b _;show(a.trans nU,λy c p d=>?_)
  rcases aZ.mp d with e |e
  .rw[e];show of_decide_eq_true (ci.mp (a.subset c)).2
  .show h2 y c p e
abbrev ju(bs:LLP)(tw:Wt)(y:Wy):Wt:=cond y.1 (kG y (bs.getD y.2 []) tw) tw
abbrev lQ(bs:LLP)(tw:Wt)(b:List Pr):Wt:=(wider tw b).foldl (ju bs) tw
def pQ{bs:LLP}(c:∀b∈bs,b.Nodup)(p:Pr)(z:Wy):cn (ju bs tw y) p z=if y.1=ac/\p∈bs.getD y.2 []/\z=y then cn tw p z-1 else cn tw p z:=by
 have(a,j):=y
 cases a with
 |false=>rw[if_neg (λx=>by cases x.1)];rfl
 |true=>
  have nd:(bs.getD j []).Nodup:=by
   rw[bH]
   cases e:bs[j]? with
   |none=>show fJ
   |some b=>show c b (dH e)
  change cn (kG _ _ tw) p z=_;rw[C8 p _ z _ _ nd]
  by_cases h:p∈bs.getD j []/\z=(ac,j,)
  .rw[if_pos h,if_pos (rfl,h)]
  .rw[if_neg h,if_neg (λx=>h x.2)]
def vJ{bs:LLP}(a:∀b∈bs,b.Nodup)(p:Pr)(z:Wy):∀(V2:List Wy) (tw:Wt),z∉V2->cn (V2.foldl (ju bs) tw) p z=cn tw p z
 | [],_,_=>rfl
 |y::V2,tw,h=>by
  rw[fH,vJ a p z V2 _ (λq=>h (bh _ q)),pQ a,if_neg (λx=>h (by rw[x.2.2];show az))]
def Da{bs:LLP}(a:∀b∈bs,b.Nodup)(p:Pr)(z:Wy):∀(V2:List Wy) (tw:Wt),cn (V2.foldl (ju bs) tw) p z<=cn tw p z
 | [],_=>aL _
 |y::V2,tw=>by
  show cN (Da a p z V2 _) ?_;rw[pQ a]
  split <;> lia
def IJ{c:Nat}{bs:LLP}:∀{V2:List Wy} {tw:Wt},bS c (wtW tw)->bS c (wtW (V2.foldl (ju bs) tw))
 | [],_,h=>h
 |y::V2,tw,h=>by
  show IJ (V2:=V2) ?_;unfold ju
  cases y.1 with
  |false=>show h
  |true=>show IH h
def dX.wide{bs:LLP}(h:dX c r bs tw)(a:(ac,j,)∈wider tw b):(∀p,cn tw p (ac,j,)=if p∈bs.getD j [] then 1 else 0)/\(wider tw b).count (ac,j,)=1/\(∀p∈b,p∈bs.getD j [])/\j<bs.length:=by
 cases b with
 |nil=>nomatch a
 |cons e b=>
  have(d,h2):=II tw _ _
  have ha:∀p,cn tw p (ac,j,)=if p∈bs.getD j [] then 1 else 0:=by
   rcases h.br j with z |z
   .have:=gS.mp (d.subset a)
    grind
   .show z
  show(ha,?_,λp f=>?_,eW.mp (h.vl e _ (d.subset a)))
  .have g:=count_pos_iff.mpr a;have i:(wider tw (e::b)).count _<=cn tw e (ac,j,):=d.count_le _
   grind
  .have:=gS.mp (h2 _ a p f)
   grind
def dX.dropped{bs:LLP}(h:dX c r bs tw)(a:∀b∈bs,b.Nodup)(b:List Pr):dX c r bs (lQ bs tw b):=by
 show(IJ h.wk,λp y i=>h.vl p y (gS.mpr (fh (gS.mp i) (Da a p y _ _))),λj=>?_)
 by_cases d:(ac,j,)∈wider tw b
 .show .inl λp=>?_;have(ha,m,_):=h.wide d
  have gen:∀(V2:List Wy) tw,(ac,j,)∈V2->(∀p,p∉bs.getD j []->cn tw p (ac,j,)=0)->(∀p,cn tw p (ac,j,)<=1)->cn (V2.foldl (ju bs) tw) p (ac,j,)=0:=by
   intro V2
   induction V2 with
   |nil=>intro tw h;nomatch h
   |cons y V2 l=>
    intro tw hm f h2;rw[fH]
    by_cases e:(ac,j,)=y
    .have:cn (ju bs tw y) p (ac,j,)=0:=by
      rw[pQ a]
      by_cases g:p∈bs.getD j []
      .rw[if_pos (by rw[<- e],by rw[<- e];show g,e)];have:=h2 p
       lia
      .rw[f p g]
       split <;> rfl
     have:=Da a p (ac,j,) V2 (ju bs tw y)
     lia
    .show l _ (by rcases aZ.mp hm with z |z;show absurd z e;show z) (λp g=>?_) λp=>?_
     .rw[pQ a,if_neg (λx=>e x.2.2)];show f p g
     .rw[pQ a,if_neg (λx=>e x.2.2)];show h2 p
  show gen _ _ d (λp g=>by rw[ha p,if_neg g]) λp=>by rw[ha p];split <;> lia
 .have e:∀p,cn (lQ bs tw b) p _=cn tw p _:=λp=>vJ a p _ _ _ d
  rcases h.br j with z |z
  .show .inl λp=>by rw[e];show z p
  .show .inr λp=>by rw[e];show z p
variable{p:Xp}
def Um{q:O×(O->O)}(h:p M=aa q)(a:f M=aa d)(hr:q.1.remd d=aa o2)(k:K (.nx (M.set i (.deep (q.2 o2))))):wp (pE i p f) M K:=(_,by
 unfold pE;rw[h,ay,a,ay,hr];rfl,k)
def Uo{a b:Sl}:aU "Seeking" "watches" (aH 2) [a,b,.deep (.at l s.o)]=aa (wsO s.ws,λx=>.at l (iK s.tl [lsO (s.es.map shD),lsO s.st,lsO s.bs,.dT s.gk (s.gd.map .fz),x,lsO s.wt,.fz s.mks]),):=rfl
def IK{l:Addr}{s:Spr}{tw:Wt}(g:s.ws=wtW tw):∀(b:List Pr) (v1 c d f:Sl) (V2:List Wy),V2.length<=16777216->∃a,lM 2 3 1 [3,0] (ax 0) (mB (m2 fT (ae 0) (aO (ib (aU "Seeking" "watches" (aH 2)) (ae 1))))) (ae 0) (b.map prD) [.deep (.at l s.o),v1,c,d,f] (V2.map wyD)=aa ([.deep (.at l s.o),v1,c,a,f],(b.foldl (λV2 q=>V2.filter λy=>decide (y∈look tw q)) V2).map wyD,)
 | [],_,_,d,_,_,_=>(d,rfl)
 |p::b,v1,c,d,f,V2,hL=>by
  have(a,h):=IK g b v1 c _ f _ (cN (gW _ _) hL);show(a,?_);rw[bF];unfold lM;rw[if_pos (by grind)]
  have e:eP (gJ (ax 0) (mB (m2 fT (ae 0) (aO (ib _ (ae 1))))) (ae 0) [.no,.im _,.deep (.at l s.o)]) _=aa _:=
   ut wyD _ wyD V2 λy _=>dM rfl (bB (ap rfl (bR (C3 (p:=p) (Uo.trans (by rw[g])) rfl)) (Ud y _))) λ_=>rfl
  change(eP (gJ _ _ _ [.no,.im _,.deep _]) _).bind _=_;rw[e,ay];show h
def Up(d:s.ws=wtW tw)(g:bS c (wtW tw))(f:c<=16777216)(k:∀h,K (.nx [.deep (.at l s.o),.im (eC b),.own ((wider tw b).map wyD),h,.no])):
  wp (pH 2 3 (bK (ae 1)) (ib (aU "Seeking" "watches" (aH 0)) (mIx (aw 1) (kI 0))) (aV (ae 1)) 1 [3,0] (ax 0) (mB (m2 fT (ae 0) (aO (ib (aU "Seeking" "watches" (aH 2)) (ae 1))))) (ae 0)) [.deep (.at l s.o),.im (eC b),.no,.no,.no] K:=by
 cases b with
 |nil=>show(_,rfl,k .no)
 |cons p b=>
  have(a,e):=IK d _ _ .no .no .no _ (cN (C9 g p) f);show(_,?_,k a);unfold pH;rw[show bK _ _=aa ac from rfl,ay,show aV _ _=aa _ from rfl,ay,if_pos (show ac=!((p::b).map prD).isEmpty from rfl),C3 (p:=p) (vn.trans (by rw[d])) (bg rfl rfl (ly (0,af,) (by decide) (by grind))),if_pos rfl,ay,e];rfl
def Dc{bs:LLP}(a:∀b∈bs,cT n b)(j:Nat):cT n (bs.getD j []):=by
 rw[bH]
 cases e:bs[j]? with
 |none=>show cT.nil n
 |some b=>grind
def Uq(s:Spt)(b:List Pr)(ok:dX c L.length s.bs s.tw)(E:c<16777216)(y:∀b∈s.bs,cT n b):A4 l [eC b] (s.S L).o=aa ((({s with tw:=lQ s.bs s.tw b}:Spt).S L).o,.non,):=by
 apply fE;apply ak;show Up rfl ok.wk (fj E) λd=>?_
 show dD _ wyD (λpre M=>∃d w,M=[.deep (.at l (({s with tw:=pre.foldl (ju s.bs) s.tw}:Spt).S L).o),.im _,.im _,d,w]) rfl (_,_,rfl) ?_ ?_
 .rintro pre ⟨a,j⟩ post M ex ⟨d,w,rfl⟩;show(_,rfl,?_);walk_at "nrm"
  cases a with
  |false=>
   show aY rfl (λz=>by nomatch z) (λ_=>b5 ?_);show(d,.im (wyD (af,j,)),?_);rw[eE]
   rfl
  |true=>
   have(ha,A,_,G):=ok.wide (j:=j) (by rw[ex];simp)
   have m:(ac,j,)∉pre:=λq=>by
    grind
   have e:=Dc y j
   show dD (s.bs.getD j []) prD (λpr M=>∃d,M=[.deep (.at l (({s with tw:=kG (ac,j,) pr _}:Spt).S L).o),.im _,.im _,d,.im _]) (eS (bg (rT CJ) (bg rfl rfl rfl) (ly [] (by lia) (by grind))) rfl) (_,rfl) ?_ ?_
   .rintro pr p po M i ⟨d,rfl⟩;have u:p∈s.bs.getD j []:=by grind
    have r:=λq=>by
     have:=e.pd;rw[i]at this;show(e8.mp this).2.2 p q p az rfl
    have v:pr.Nodup:=by
     have:=e.pd
     grind
    have f : _∈look (kG (ac,j,) pr _) p:=gS.mpr (by
     rw[C8 p _ _ pr _ v,if_neg (λx=>r x.1),vJ (λb h=>(y b h).pd) p _ _ _ m,ha p,if_pos u]
     grind)
    show(_,rfl,?_);walk_at "nrm"
    have(H,B,C):=Ub (g:=ae 3) (M:=[.deep (.at l (({s with tw:=kG _ pr _}:Spt).S L).o),.im _,.im _,.im _,.im _]) vn rfl (ne_nil_of_mem f)
    show Um B rfl (Uc f) ?_;dsimp only;rw[C];show(.im (prD p),?_);unfold kG;rw[eE];rfl
   .rintro M ⟨d,rfl⟩;show(d,.im (wyD (ac,j,)),?_);rw[eE];rfl
 .rintro M ⟨d,w,rfl⟩;show(_,rfl,rfl,rfl)
def Ur(b:List Pr)(hz:b.length<=16777216):Bl [eC b]=aa (.lst ((brg b).map Prt.obj)):=by
 rw[show(brg b).map Prt.obj=b.map λz=>(brP z).obj from map_map]
 show lx (congrArg _ (gK b prD _ rfl hz λz _=>gg rfl rfl (by
  have(t,x):=z
  cases x <;> rfl)))
def sn(h:cT n b):∀p∈brg b,PrK n p:=λp a=>by
 have(z,hz,rfl):=aJ.mp a;have:=h.nn z hz;have(t,x):=z
 cases x <;> show(this,(by decide:1<=1000))
def lR{b:Type}(l:List b)(a d:b)(j:Nat):(l++[a]).getD j d=if j=l.length then a else l.getD j d:=by grind
def dX.bar{bs:LLP}(h:dX c r bs tw)(a:cT n b)(hn:n<=60):dX (c+3840) r (bs++[b]) (fX (ac,bs.length,) (brg b) tw):=by
 have d:∀p,cn tw p (ac,bs.length,)=0:=λp=>Nat.eq_zero_of_not_pos λq=>by
  have:bs.length<bs.length:=eW.mp (h.vl p _ (gS.mpr q))
  grind
 have g:∀p,cn _ p _=if p∈b then 1 else 0:=λp=>by
  rw[C7,d p,kP,a.pd.count]
 show(?_,λp y f=>?_,λj=>?_)
 .rw[<- vI];show(bS.reg hn (sn a) h.wk).le ?_;unfold brg;rw[aA];have:=a.len;lia
 .rw[aR,fZ,C5]
  by_cases e:y=(ac,bs.length,)
  .grind
  .show bT _ (h.vl p y (gS.mpr ?_));rw[<- nH e p _];show gS.mp f
 .rw[lR]
  by_cases e:j=bs.length
  .grind
  .have ne:((ac,j,):Wy)≠(ac,bs.length,):=λz=>e (sY z).2;rw[if_neg e]
   rcases h.br j with z |z
   .show .inl λp=>by rw[nH ne];grind
   .show .inr λp=>by rw[nH ne];grind
abbrev Spt.bar(s:Spt)(b:List Pr):Spt:={s with bs:=s.bs++[b],tw:=fX (ac,s.bs.length,) (brg b) (lQ s.bs s.tw b),wt:=s.wt++[(ac,s.bs.length,)]}
def Us{bs:LLP}:(gys L.length (bs.length+1)).map (gdD L (bs++[b]))=(gys L.length bs.length).map (gdD L bs)++[.lst ((brg b).map Prt.obj)]:=by
 rw[C5,a9]
 congr 1
 .show map_congr_left λy c=>?_;have:=eW.mp c;have(a,j):=y
  cases a with
  |false=>rfl
  |true=>
   have:j<bs.length:=this;unfold gdD bN
   grind
 .change[D.lst ((brg _).map Prt.obj)]=_
  grind
def Ut(s:Spt)(b:List Pr)(ok:dX c L.length s.bs s.tw)(m:c+3840<16777216)(d:∀b∈s.bs,cT n b)(a:cT n b)(hn:n<=60)(p:L.length+s.bs.length<100000)(j:s.wt.length<16777216):
  vd l [eC b] (s.S L).o=aa (((s.bar b).S L).o,.non,):=by
 have i:=a.len;have g:((gys L.length s.bs.length).map wyK).length=L.length+s.bs.length:=by rw[aA,Ue]
 apply fE;apply ak;show jq (fD rfl rfl (dE rfl rfl) rfl (Uq s b ok (by lia) d)) ?_;apply ak;show bo (cS (ao rfl (ao (aE (ao (jo CJ) rfl) (d9 s.bs eC)) rfl))) ?_;walk_at "nrm";apply ak;show rW CJ rfl (by change(s.bs.map eC).length<_;rw[aA];lia) ?_;change wp _ [.deep (.at l ((s.es,s.st,s.bs.map eC++_,(gys L.length s.bs.length).map wyK,(gys L.length s.bs.length).map _,wtW _,s.wt.map wyD,.lst _,(s.S L).tl):Spr).o),.im _,.im (wyD (ac,s.bs.length,))] _;show jq (fD rfl rfl (dE rfl (dE (aE rfl (Ur b (by lia))) rfl)) rfl (HY _ _ rfl (CO λq=>?_) ?_ (sn a) hn (ok.dropped (λb h=>(d b h).pd) b).wk ?_ ?_ ?_)) ?_
 .have(y,f,e):=aJ.mp q;rw[C0 e]at f;have:s.bs.length<s.bs.length:=eW.mp f;show gy _ this
 .change((gys L.length s.bs.length).map wyK).length<_
  lia
 .unfold brg;rw[aA];lia
 .change(s.wt.map wyD).length<_;rw[aA];show j
 .unfold brg;rw[aA];lia
 .show(_,rfl,?_,rfl)
  congr 1
  dsimp only[vq,Spt.bar,Spt.S];rw[vI,aR,fZ,Us,C5,a9,a9,a9];rfl
def jw{f:Xe}(h:f M=aa (d,ρ1,))(k:K (.nx (ρ1.set i (.im d)))):wp (fW i f) M K:=(_,by unfold fW;rw[h];rfl,k)
def IL{k:Int}(hv:fv M=aa d)(h:p M=aa (lsO ds,R,))(c:fk M=aa (.int k))(a:0<=k)(b:k<ds.length)(q:K (.nx (M.set i (.deep (R (lsO (ds.set k.toNat d))))))):wp (nj i p fk fv) M K:=(_,by
 unfold nj;simp only[hv,ay,h,ay,c,ay];change(((lsO ds).items.bind λds=>(ixN ds.length k).map λj=>O.lst _)).map _=_;simp only[vH,ay,show ixN ds.length k=aa k.toNat by unfold ixN;rw[if_pos a,if_pos b]];rfl,q)
def Uu{f:MF2}{es:LD}(h:p M=aa (lsO ds,R,))(a:f M=aa es)(hz:ds.length+es.length<=16777216)(q:K (.nx (M.set i (.deep (R (lsO (ds++es))))))):wp (px i p f) M K:=(_,by
 unfold px;rw[h,ay,a,ay];change(if (ds.map O.fz).length+es.length<=16777216 then aa _ else ab).map _=_;rw[if_pos (by rw[aA];show hz),<- a9];rfl,q)
abbrev iN(es:LOB):Nat:=ct (es.map (·==ab))
variable{b:Bool}
def Uv(t0:0<=t)(t1:t<(es.length:Int))(a:opn es t=ac):iN (put es t.toNat b)+1=iN es:=by
 unfold iN put;rw[gY];show Ig _ _ ?_;unfold opn at a;rw[bH]at a ⊢;rw[cH,b6 (by lia)]at *;show a
def Uw(es:LOB):iN es<=es.length:=by
 have:=TV (es.map (·==ab))
 rwa [aA]at this
abbrev Spt.pt(s:Spt)(t:Int)(b:Bool)(w:D):Spt:={s with es:=put s.es t.toNat b,st:=s.st++[.tup [prD (t,b,),w]],wt:=s.wt++look s.tw (t,b,)}
structure SpJ(n c V3:Nat)(L:LRu)(s:Spt):Prop where
 es:s.es.length=n
 bk:∀b∈s.bs,cT n b
 tw:dX c L.length s.bs s.tw
 wv:∀y∈s.wt,y∈gys L.length s.bs.length
 ms:s.ms.Perm (fF L)
 mB:iN s.es*(c+1)+s.wt.length<=V3
 sB:s.st.length+iN s.es<=V3
 sv:∀d∈s.st,∃(z:Pr) (w:D),d=.tup [prD z,w]/\(0<=z.1/\z.1<(n:Int))/\s.es.getD z.1.toNat ab=aa z.2
nonrec def Me(c:Nat)(s:Spt):Nat:=iN s.es*(c+1)+s.wt.length
variable{u:Int}
def Dd(a:0<=u)(t0:0<=t)(h:u≠t):opn (put es t.toNat b) u=opn es u:=by
 unfold opn;rw[cZ es b (by lia)]
variable{V3:Nat}{s:Spt}{w:L2.D}
def SpJ.pt(h:SpJ n c V3 L s)(t0:0<=t)(t1:t<(n:Int))(f:opn s.es t=ac):SpJ n c V3 L (s.pt t b w)/\Me c (s.pt t b w)<Me c s:=by
 have g:=Uv (b:=b) t0 (by rw[h.es];show t1) f;have m:=C9 h.tw.wk (t,b,)
 have hm:Me c (s.pt t b w)<Me c s:=by
  change iN (put s.es t.toNat b)*_+(s.wt++look s.tw _).length<iN s.es*_+s.wt.length;simp only[<- g,aR,Nat.succ_mul]
  lia
 show(((b9 _ _ _).trans h.es,h.bk,h.tw,λy i=>?_,h.ms,cN (fj hm) h.mB,?_,λd hd=>?_),hm)
 .rcases bu.mp i with q |q
  .show h.wv y q
  .show h.tw.vl _ y q
 .change(s.st++[_]).length+iN (put s.es t.toNat b)<=V3;rw[aR,fZ];have:=h.sB
  lia
 .rcases bu.mp hd with q |q
  .have(z,j,e,l,a):=h.sv d q;show(z,j,e,l,?_);change(put s.es t.toNat b).getD z.1.toNat ab=_;rw[cZ s.es b (λq=>by rw[q,iM f]at a;nomatch a)];show a
  .show(_,w,bw.mp q,(t0,t1),eU s.es b (by rw[h.es];lia))
def De(h:SpJ n c V3 L s)(hB:V3+c<16777216)(t0:0<=t)(t1:t<(n:Int)):pM l [.int t,.bl b,w] (s.S L).o=aa (((s.pt t b w).S L).o,.non,):=by
 have f:=C9 h.tw.wk (t,b,);have a:=h.mB;have h2:=h.sB;have d:=h.es;apply fE;apply ak;show IL rfl jP rfl t0 (by rw[aA];change t<s.es.length;lia) ?_;have e:(s.es.map shD).set t.toNat (.bl b)=(put s.es t.toNat b).map shD:=by unfold put;rw[gY];rfl
 change wp _ [.deep (.at l (iK (s.S L).tl [lsO ((s.es.map shD).set t.toNat _),lsO s.st,lsO _,.dT _ _,wsO _,lsO _,.fz _])),.im _,.im _,.im w] _;rw[e]
 change wp _ [.deep (.at l (({s with es:=put s.es t.toNat b}:Spt).S L).o),.im _,.im _,.im w] _
 apply ak;show rW CI (cS (ao (cS (ao rfl (ao rfl rfl))) (ao rfl rfl))) (by change s.st.length<_;lia) ?_
 change wp _ [.deep (.at l (({s with es:=put s.es t.toNat b,st:=s.st++_}:Spt).S L).o),.im _,.im _,.im w] _
 show Uu pN (C3 vn (cS (ao rfl (ao rfl rfl)))) (by change(s.wt.map wyD).length+((look s.tw (t,b,)).map wyD).length<=_;rw[aA,aA];lia) ?_;show(_,rfl,?_,rfl);dsimp only[Spt.pt,Spt.S];simp only[a9];rfl
abbrev puts(s:Spt)(w:D)(ps:List Pr):Spt:=ps.foldl (λs p=>s.pt p.1 p.2 w) s
structure fG(es:LOB)(ps:List Pr):Prop where
 nd:(ps.map (·.1)).Nodup
 op:∀z∈ps,(0<=z.1/\z.1<(es.length:Int))/\opn es z.1=ac
variable{z:Pr}
def fG.tail{ps:List Pr}(h:fG es (z::ps)):fG (put es z.1.toNat z.2) ps:=by
 have(f,g):=b7.mp h.nd;show(g,λy d=>?_);have((a,b),c):=h.op y (bh _ d);show((a,by rw[b9];show b),?_);rw[Dd a ((h.op z az).1.1) (λe=>f (aJ.mpr (y,d,e)))];show c
def fG.pre{pre post:List Pr}(h:fG es (pre++post)):fG es pre:=(by have:=h.nd;rw[a9]at this;show(e8.mp this).1,λz hz=>h.op z (bT _ hz))
def nI{n c V3:Nat}{L:LRu}{w:D}:∀{ps:List Pr} {s:Spt},SpJ n c V3 L s->fG s.es ps->SpJ n c V3 L (puts s w ps)/\Me c (puts s w ps)<=Me c s
 | [],_,h,_=>(h,aL _)
 |z::ps,s,h,k=>by
  have((a,b),e):=k.op z az;have(d,h2):=h.pt a (by rw[<- h.es];show b) e;have(f,g):=nI d k.tail;show(f,cN g (fj h2))
variable{G:List Prt}
def IM(h:prs G es=ab):∀p∈G,p.sure es=ac:=by
 have:=Iy es G;unfold prs at h
 cases e:G.foldl _ ab with
 |none=>rw[e]at this;show this
 |some l=>rw[e]at h;nomatch h
def nJ{l:List Pr}(i:∀p∈G,p.Ok es.length)(h:prs G es=aa l):fG es l/\(∀z:Pr,z∈l↔(0<=z.1/\z.1<(es.length:Int))/\opn es z.1=ac/\∀p∈G,p.sure (put es z.1.toNat (!z.2))=ac)/\∃p∈G,p.sure es=af:=by
 have:=Iy es G;unfold prs at h
 cases e:G.foldl _ ab with
 |none=>rw[e]at h;nomatch h
 |some n=>
  rw[e]at h this;cases h;have((q,m,d),h2,u):=this
  have hm:∀z:Pr,z∈n.map neg↔(z.1,!z.2,)∈n:=λz=>by
   constructor
   .intro hz;have(y,v,rfl):=aJ.mp hz;unfold neg;rw[Bool.not_not];show v
   .intro hz;show aJ.mpr (_,hz,?_);unfold neg;rw[Bool.not_not]
  have key:∀z:Pr,z∈n.map neg↔_/\opn es z.1=ac/\∀p∈G,p.sure (put es z.1.toNat _)=ac:=λz=>by
   rw[hm,h2];constructor
   .intro a;have(j,r,_):=(CY (i q m) d _ _).mp (a q m d);show(j,r,λp f=>?_)
    cases g:p.sure es with
    |true=>show vG (i p f) j.1 j.2 r _ g
    |false=>show((CY (i p f) g _ _).mp (a p f g)).2.2
   .rintro⟨a,b,c⟩ p f g;show(CY (i p f) g _ _).mpr (a,b,c p f)
  show((?_,λz hz=>?_),key,q,m,d)
  .rw[map_map];show u
  .have(a,b,_):=(key z).mp hz;show(a,b)
structure Grp(L:LRu)(es:LOB)(wo:LB0):Prop where
 len:wo.length=es.length
 no:∀i,wo.getD i af=ac->es.getD i ab≠aa af
 up:∀r∈fF L,wo.getD r.hd.toNat af=ac->r.bodyLost es wo=ac
abbrev sr(es:LOB)(wo:LB0):LOB:=(rS wo).foldl (λes t=>put es t.toNat af) es
inductive Mvs(L:LRu)(bs:LLP)(e0:LOB):LOB->Prop
 |refl:Mvs L bs e0 e0
 |press {es:LOB} {t:Int} {b:Bool} {y:Wy}:Mvs L bs e0 es->y∈gys L.length bs.length->0<=t->t<(es.length:Int)->opn es t=ac->(∀p∈bN L bs y,p.sure (put es t.toNat (!b))=ac)->Mvs L bs e0 (put es t.toNat b)
 |out {es:LOB} {wo:LB0}:Mvs L bs e0 es->Grp L es wo->(∀i,wo.getD i af=ac->es.getD i ab=ab)->Mvs L bs e0 (sr es wo)
def Mvs.trans{bs:LLP}{e0 g i:LOB}(h:Mvs L bs e0 g)(h':Mvs L bs g i):Mvs L bs e0 i:=by
 induction h' with
 |refl=>show h
 |press _ a b c d e f=>show .press f a b c d e
 |out _ a b f=>show .out f a b
def vK{a:Bool}(h:i≠j):put (put es i a) j b=put (put es j b) i a:=by
 unfold put;show set_comm _ _ h
def vL(c:0<=u)(t0:0<=t)(h:u≠t)(a:opn es u=ac):opn (put es t.toNat b) u=ac:=by rw[Dd c t0 h];show a
def IN{L:LRu}{bs:LLP}{y:Wy}{w:D}(d:y∈gys L.length bs.length):∀{ps:List Pr} {s:Spt},(∀p∈bN L bs y,p.Ok s.es.length)->fG s.es ps->(∀z∈ps,∀p∈bN L bs y,p.sure (put s.es z.1.toNat (!z.2))=ac)->Mvs L bs s.es (puts s w ps).es
 | [],_,_,_,_=>.refl
 |z::ps,s,hG,k,hp=>by
  have((a,b),e):=k.op z az;have(g,i):=b7.mp k.nd;have f:Mvs L bs s.es (s.pt z.1 z.2 w).es:=.press .refl d a b e (hp z az);show f.trans (IN d (λp q=>by change p.Ok (put s.es z.1.toNat z.2).length;rw[b9];show hG p q) k.tail λx c p q=>?_);have((h,j),l):=k.op x (bh _ c);have ne:z.1≠x.1:=λe=>g (aJ.mpr (x,c,e.symm));change p.sure (put (put s.es z.1.toNat z.2) x.1.toNat _)=ac;rw[vK (by lia)];show vG (by rw[b9];show hG p q) a (by rw[b9];show b) (vL a h ne e) _ (hp x (bh _ c) p q)
abbrev Ux:Option Wy->D
 |none=>.non
 |some y=>wyD y
abbrev lrF(L:LRu):Nat->Spt->Option Wy×Spt
 | 0,s=>(ab,s,)
 |k+1,s=>match s.wt with
  | []=>(ab,s,)
  |y::wt=>match prs (bN L s.bs y) s.es with
   |none=>(aa y,{s with wt:=wt},)
   |some ps=>lrF L k (puts {s with wt:=wt} (wyD y) ps)
def ss{k:Nat}(h:s.wt=[]):lrF L (k+1) s=(ab,s,):=by
 unfold lrF;rw[h]
def sw{k:Nat}{wt:List Wy}(h:s.wt=y::wt)(a:prs (bN L s.bs y) s.es=ab):lrF L (k+1) s=(aa y,{s with wt:=wt},):=by
 unfold lrF;rw[h];dsimp only;rw[a]
def pR{k:Nat}{wt:List Wy}{ps:List Pr}(h:s.wt=y::wt)(a:prs (bN L s.bs y) s.es=aa ps):lrF L (k+1) s=lrF L k (puts {s with wt:=wt} (wyD y) ps):=by
 rw[lrF];rw[h];dsimp only;rw[a]
def nK{bs:LLP}(hr:∀r∈L,RuK n r)(d:∀b∈bs,cT n b):∀p∈bN L bs y,p.Ok n:=by
 have(a,j):=y;intro p c
 cases a with
 |true=>show(sn (Dc d j) p c).1
 |false=>
  replace c:p∈((L[j]?).map grd).getD []:=c
  cases e:L[j]? with
  |none=>rw[e]at c;nomatch c
  |some r=>rw[e]at c;show(vt (hr r (dH e)) p c).1
def SpJ.pop{wt:List Wy}(h:SpJ n c V3 L s)(e:s.wt=y::wt):SpJ n c V3 L {s with wt:=wt}/\Me c {s with wt:=wt} < Me c s/\y∈gys L.length s.bs.length:=by
 have hm:=h.mB;have a:s.wt.length=wt.length+1:=by grind
 show((h.es,h.bk,h.tw,λz hz=>h.wv z (by grind),h.ms,?_,h.sB,h.sv),?_,h.wv y (by grind))
 .grind
 .grind
def IP(w:D):∀(ps:List Pr) (s:Spt),(puts s w ps).bs=s.bs/\(puts s w ps).tw=s.tw/\(puts s w ps).ms=s.ms
 | [],_=>(rfl,rfl,rfl)
 |z::ps,s=>IP w ps _
structure Uy(n c V3:Nat)(L:LRu)(s:Spt)(R:Option Wy×Spt):Prop where
 ok:SpJ n c V3 L R.2
 bs:R.2.bs=s.bs
 mv:Mvs L s.bs s.es R.2.es
 no:R.1=ab->R.2.wt=[]
 ye:∀y,R.1=aa y->y∈gys L.length s.bs.length/\∀p∈bN L s.bs y,p.sure R.2.es=ac
 le:Me c R.2<=Me c s
def sx{n c V3:Nat}{L:LRu}(hr:∀r∈L,RuK n r):∀(k:Nat) (s:Spt),SpJ n c V3 L s->Me c s<k->Uy n c V3 L s (lrF L k s)
 | 0,_,_,h=>absurd h (io _)
 |k+1,s,h,hk=>by
  cases b:s.wt with
  |nil=>
   rw[ss b]
   show(h,rfl,.refl,(λ_=>b),(λy e=>by cases e),aL _)
  |cons y wt=>
   have(g,h2,j):=h.pop b;have i:∀p∈bN L s.bs y,p.Ok s.es.length:=by rw[h.es];show nK hr h.bk
   cases d:prs _ s.es with
   |none=>
    rw[sw b d]
    show(g,rfl,.refl,(λz=>by cases z),(λz e=>by cases e;show(j,IM d)),fj h2)
   |some ps=>
    rw[pR b d];have(l,m,_):=nJ i d;have(q,u):=nI g l
    have(f,_,_):=IP _ ps {s with wt:=wt}
    have a:=sx hr k _ q (by lia)
    have m1:Mvs L s.bs s.es (puts {s with wt:=wt} (wyD y) ps).es:=IN j (s:={s with wt:=wt}) i l λz hz=>((m z).mp hz).2.2
    show(a.ok,a.bs.trans f,m1.trans (by have:=a.mv;rw[f]at this;show this),a.no,λz e=>?_,by have:=a.le;lia);have:=a.ye z e
    grind
def Uz{m:LD->Option (LD ⊕ D)}{f:MF2}{x:Option (List Pr)}(h:f M=aa ds)(h':m ds=aa (Iv x)):pG m f M=aa (sh x):=by
 unfold pG;rw[h,ay,h',ay]
 cases x with
 |none=>rfl
 |some l=>
  change(if (l.map prD).all D.flat=ac then aa _ else ab)=_;rw[if_pos (all_eq_true.mpr λd hd=>by have(z,_,rfl):=aJ.mp hd;rfl)];rfl
def UA{wt:List Wy}(h:s.wt=y::wt):rB 0 (aU "Seeking" "waiting" (aH 0)) (.deep (.at l (s.S L).o)::M)=aa (wyD y,.deep (.at l (({s with wt:=wt}:Spt).S L).o)::M,):=by
 change((lsO (s.wt.map wyD)).pop0).map _=_;rw[h];rfl
def UB{k:Nat}(hr:∀r∈L,RuK n r)(hB:V3+c<16777216)(h:SpJ n c V3 L s)(x:Me c s<k)(w:k<1000000000):Cs l [] (s.S L).o=aa (((lrF L k s).2.S L).o,Ux (lrF L k s).1,):=by
 apply fE;apply ak;show q9 (λm M=>∃a v1 v e f,M=[.deep (.at l (Spt.S L a).o),v1,v,e,f]/\SpJ n c V3 L a/\Me c a<m/\lrF L m a=lrF L k s) ?_ _ k _ (s,_,_,_,_,rfl,h,x,rfl) w;rintro m M ⟨a,v1,v,e,f,rfl,h',hm,i⟩
 cases m with
 |zero=>grind
 |succ m=>
  cases b:a.wt with
  |nil=>
   show(af,dh (jo pN) (by change mM (.lst (a.wt.map wyD))=_;rw[b];rfl),(λz=>by nomatch z),λ_=>?_);rw[<- i,ss b]
   show jp rfl (_,rfl,rfl,rfl)
  |cons y wt=>
   have(q,h2,A):=h'.pop b;have u:∀p∈bN L a.bs y,p.Ok a.es.length:=by rw[h'.es];show nK hr h'.bk
   show⟨ac,dh (jo pN) (by change mM (.lst (a.wt.map wyD))=_;rw[b];rfl),λ_=>?_,λz=>by nomatch z⟩;apply ak;show jw (UA b) ?_;apply ak;show bo (d:=sh (prs _ a.es)) (Uz (ao (Uf A rfl) (ao (jo jP) rfl)) (T8 _ u)) ?_;apply ak
   cases j:prs _ a.es with
   |none=>
    show aY rfl (λ_=>?_) (λz=>by nomatch z);rw[<- i,sw b j]
    show jp rfl (_,rfl,rfl,rfl)
   |some ps=>
    have(g,H,_):=nJ u j;have(B,I):=nI q g;show aY rfl (λz=>by nomatch z) (λ_=>b5 ?_)
    show dD ps prD (λpre M=>∃e f,M=[.deep (.at l ((puts {a with wt:=wt} (wyD y) pre).S L).o),.im _,.im _,e,f]) rfl (_,_,rfl) ?_ ?_
    .rintro pre z post M ex ⟨e,f,rfl⟩;rw[ex]at g;have(C,_):=nI q g.pre;have((E,G),_):=g.op z (by simp);show(_,rfl,?_);walk_at "nrm";show jq (fD rfl rfl (dE rfl (dE rfl (dE rfl rfl))) rfl (De C hB E (by rw[<- h'.es];show G))) ?_;show(.im (.int z.1),.im (.bl z.2),?_);unfold puts
     grind
    .rintro M ⟨e,f,rfl⟩;show(m,c6 _,_,_,_,_,_,rfl,B,by lia,?_);rw[<- i,pR b j]
abbrev slf(es:LOB)(a b c d e:D)(C:LD)(ms:LRu):D:=.ins "Seeking" (spN++(["paper","count","ended"]:LSt)) ([.lst (es.map shD),a,b,c,d,e,.lst (ms.map mkD)]++C)
abbrev fdL(r:Rul)(es:LOB)(wo:LB0):D:=CP (r.ps.find? λp=>p.lost es wo)
variable{a b c e:L2.D}
def UC(hok:∀r∈ms,r.Ok es.length)(f:wo.length=es.length)(hz:ms.length<=1000):Cw [slf es a b c d e C ms,.int t,.lst (wo.map D.bl)]=aa (.lst ((ms.filter λr=>r.hd==t).map λr=>fdL r es wo)):=
 lx (congrArg _ (eR ms mkD _ _ rfl (by lia) λr hr=>dM rfl (bB (ap rfl rfl (by change dEq _ _=_;rfl))) λ_=>aE rfl (CQ r.ps (hok r hr).ps f)))
abbrev kpL(p:Prt)(es:LOB)(wo:LB0):LI0:=if p.lost es ((bO es.length).map (inS [])) then [] else (nmL p).filter λt=>wo.getD t.toNat af
variable{p:Prt}
def UD(f:p.Ok es.length)(hn:es.length<=60)(hm:(nmP p).length<=1000)(j:wo.length=es.length):Cu [slf es a b c d e C ms,p.obj,.lst (wo.map D.bl)]=aa (.lst ((kpL p es wo).map D.int)):=by
 have g:m_1 [.int es.length,.lst []]=aa (.lst (((bO es.length).map (inS [])).map D.bl)):=by
  have:=HM es.length [] (by lia) (by lia) (by decide)
  grind
 have i:=rY f hn;apply jM;apply ak;show aY (dh (HQ p f (by grind) rfl (ao rfl (ao (aE (ao (aE rfl (d9 es shD)) rfl) g) rfl))) rfl) (λz=>?_) (λz=>b5 ?_)
 .show jm rfl (jN ?_);unfold kpL
  grind
 .show jm (eR _ D.int _ D.int (eS (HX p f hn hm rfl) rfl) (by lia) λt h=>dM rfl (dh (bg rfl rfl (jK (pO f t (rZ.mp h)).1 (by rw[j];show(pO f t (rZ.mp h)).2))) rfl) λ_=>rfl) (jN ?_);unfold kpL
  grind
def UE(p:Prt):(nmL p).Nodup:=by
 cases p with
 |inn t=>show b7.mpr ((λh=>nomatch h),fJ)
 |out t=>show b7.mpr ((λh=>nomatch h),fJ)
 |least k B=>show(lA _).imp λh=>by lia
 |most k B=>show(lA _).imp λh=>by lia
structure KOk(n:Nat)(wo:LB0)(fd:LI0):Prop where
 nd:fd.Nodup
 el:∀x∈fd,(0<=x/\x<(n:Int))/\wo.getD x.toNat af=ac
variable{fd:LI0}
def KOk.len(h:KOk n wo fd):fd.length<=n:=sm h.nd λx a=>(h.el x a).1
def KOk.more(h:KOk n wo fd)(d:p.Ok n):KOk n wo (fd++(kpL p es wo).filter λt=>!(fd.any λx=>x==t)):=by
 have b:(kpL p es wo).Sublist (nmL p):=by
  unfold kpL;split
  .grind
  .simp
 show(e8.mpr (h.nd,(wC b (UE p)).sublist nU,λx c y f e=>?_),λx c=>?_)
 .grind
 .rcases bu.mp c with q |q
  .show h.el x q
  .have a:=(ci.mp q).1;show(pO d x (rZ.mp (b.subset a)),?_);unfold kpL at a
   grind
def UF(C:LI0)(i:Int):mQ (.int i) (.lst (C.map D.int))=aa (.bl (!(C.any λx=>x==i))):=by
 change Option.map _ (if _=ac then aa _ else ab)=_;rw[if_pos (by rw[all_map];show(cB _ _).mpr (rfl,all_eq_true.mpr λ_ _=>rfl)),any_map];rfl
def UG{n m:Int}(a:M[i]?=aa (.im (.int n)))(k:K (.nx (M.set i (.im (.int (n+m)))))):wp (nh i (mX λ_=>aa (.int m))) M K:=(_,by
 unfold nh;rw[a];rfl,k)
abbrev Kp(es:LOB)(wo:LB0)(fd:LI0)(r:Rul):Prop:=∃p∈r.ps,p.lost es wo=ac/\∀y∈kpL p es wo,y∈fd
structure sy(es:LOB)(wo:LB0)(ms:LRu)(t:Int)(ks:LI0):Prop where
 mt:t∈ks
 nd:ks.Nodup
 el:∀x∈ks,(0<=x/\x<(es.length:Int))/\wo.getD x.toNat af=ac
 kp:∀r∈ms,r.hd∈ks->Kp es wo ks r
def UH(hn:es.length<=60)(hok:∀r∈ms,r.Ok es.length)(hnm:∀r∈ms,∀p∈r.ps,(nmP p).length<=1000)(hw:wo.length=es.length)(hz:ms.length<=1000)(hl:∀r∈ms,wo.getD r.hd.toNat af=ac->r.bodyLost es wo=ac)(t0:0<=t)(t1:t<(es.length:Int))(ht:wo.getD t.toNat af=ac):
  ∃ks:LI0,lO [slf es a b c d e C ms,.int t,.lst (wo.map D.bl)]=aa (ks.map D.int)/\sy es wo ms t ks:=by
 suffices h:wp rP _ (λr=>∃ks:LI0,r=.rtO (ks.map D.int)/\sy es wo ms t ks) by
  have(r,e,ks,rfl,h):=h;show(ks,mZ e,h)
 apply ak;show dO rfl ?_;walk_at "nrm";apply ak;show bo rfl ?_;walk_at "nrm";apply ak;show q9 (λm M=>∃(fd:LI0) (g:Nat) (j:Sl),M=[.im _,.im _,.im _,.own (fd.map D.int),.im (.int g),j]/\KOk es.length wo fd/\g<=fd.length/\m+g=61/\t∈fd/\∀x∈fd.take g,∀r∈ms,r.hd=x->Kp es wo fd r) ?_ _ 61 _ ⟨[t],0,_,rfl,(b7.mpr ((λh=>nomatch h),fJ),λx i=>by rw[bw.mp i];show((t0,t1),ht)),cj _,rfl,az,λx i=>nomatch i⟩ (by decide);rintro m M ⟨fd,g,j,rfl,L,hp,hm,Q,I⟩;have hfl:=L.len;show(decide _,bB (ap rfl (aE rfl (d9 fd D.int)) rfl),λz=>?_,λz=>?_)
 .have N:g<fd.length:=by have:=of_decide_eq_true z;lia
  obtain⟨x,i⟩:∃x,fd[g]?=aa x:=(_,b6 N);have((x0,x1),xw):=L.el x (dH i)
  have U:atI (fd.map D.int) g=aa (.int x):=by
   rw[ly 0 (by lia) (by lia),dF,bH,i];rfl
  apply ak;show dD _ _ (λpre M=>∃(ex:LI0) (j:Sl),M=[.im _,.im _,.im _,.own ((fd++ex).map D.int),.im _,j]/\KOk es.length wo (fd++ex)/\∀r∈pre,Kp es wo (fd++ex) r) (eS ((cy rfl rfl (ao (bg rfl rfl U) (ao rfl rfl))).trans (UC hok hw hz)) rfl) ⟨[],j,by rw[bQ],by rw[bQ];show L,λr hr=>nomatch hr⟩ ?_ ?_
  .rintro pre r post M ex ⟨xt,j,rfl,l,f⟩;have hrm:r∈ms.filter λr=>r.hd==x:=by rw[ex];simp
   have(hr,A):=ci.mp hrm;have A:r.hd=x:=by simpa using A
   obtain⟨p,v,hp2,hp3⟩:∃p,p∈r.ps/\fdL r es wo=p.obj/\p.lost es wo=ac:=by
    unfold fdL
    cases Y:r.ps.find? _ with
    |none=>
     have:=CS (es:=es) (wo:=wo) r;rw[Y,(hl r hr (by rw[A];show xw))]at this
     nomatch this
    |some p=>show(p,wA Y,rfl,find?_some Y)
   have w:=(hok r hr).ps p v;have n:=l.more (es:=es) w;have J:=n.len;rw[aR]at J;show(_,rfl,?_);walk_at "nrm";rw[hp2];show(_,CM (bR (eR _ D.int _ D.int (eS ((cy rfl rfl (ao rfl (ao rfl rfl))).trans (UD w hn (hnm r hr p v) hw)) rfl) ?_ λy _=>dM rfl (bB (ap rfl rfl (UF (fd++xt) y))) λ_=>rfl)) rfl (by rw[aA,aA];lia),?_)
   .have:(kpL p es wo).length<=(nmL p).length:=by
     unfold kpL;split
     .show cj _
     .show gW _ _
    have:=rY w hn
    lia
   .rw[cI]at n;show(_,.im p.obj,?_,n,λr' hr'=>?_)
    .simp only[a9,cI];rfl
    .rcases bu.mp hr' with q |q
     .have(T,E,G,H):=f r' q;show(T,E,G,λy B=>by rw[<- cI];show bT _ (H y B))
     .rw[bw.mp q];show(p,v,hp3,λy B=>?_);rw[<- cI]
      by_cases hm:y∈fd++xt
      .show bT _ hm
      .show cg _ (ci.mpr (B,?_));rw[Bool.not_eq_true',<- Bool.not_eq_true];intro h;have(u,hu,e):=any_eq_true.mp h;rw[beq_iff_eq.mp e]at hu;show hm hu
  .rintro M ⟨xt,j,rfl,l,f⟩;show UG rfl (m-1,by lia,fd++xt,g+1,j,rfl,l,by rw[aR];lia,by lia,bT _ Q,λy B r hr e=>?_);rw[take_append_of_le_length N,take_succ,i]at B
   rcases bu.mp B with q |q
   .have(T,E,G,H):=I y q r hr e;show(T,E,G,λz hz=>bT _ (H z hz))
   .rw[bw.mp q]at e;show f r (ci.mpr (hr,by simpa using e))
 .show lB rfl ?_;have hpl:g=fd.length:=by have:=of_decide_eq_false z;lia
  show jm (Pl rfl (by lia) L.nd) (_,rfl,(jl _ _).mpr Q,(lA _).imp (λh=>by lia),λx i=>L.el x ((jl _ _).mp i),λr hr hd=>?_);have(T,E,G,H):=I r.hd (by rw[hpl,take_length];show(jl _ _).mp hd) r hr rfl;show(T,E,G,λz hz=>(jl _ _).mpr (H z hz))
abbrev eX{a:Type}:Nat->List a->List (Nat×a)
 | _,[]=>[]
 |i,x::C=>(i,x,)::eX (i+1) C
def sA{a:Type}(f:a->D):∀(i:Nat) (C:List a),iG i (C.map f)=(eX i C).map λp=>D.tup [.int p.1,f p.2]
 | _,[]=>rfl
 |i,x::C=>by rw[bF,iG,sA f _ C];rfl
def vM{a:Type}:∀(i:Nat) (C:List a) (j:Nat),(eX i C)[j]?=(C[j]?).map λx=>(i+j,x,)
 | _,[],_=>rfl
 |i,x::C,0=>rfl
 |i,x::C,j+1=>by rw[eX,gV,gV,vM _ C j,show i+1+j=i+(j+1) by lia]
def kH{a:Type}{C:List a}{p:Nat×a}(h:p∈eX 0 C):C[p.1]?=aa p.2:=by
 have(j,b):=nR h;rw[vM]at b
 grind
def vN{a:Type}:∀(i:Nat) (C:List a),(eX i C).length=C.length
 | _,[]=>rfl
 |i,x::C=>by rw[eX,cr,cr,vN _ C]
abbrev inL(es:LOB)(wo:LB0):LI0:=((eX 0 es).filter λp=>wo.getD p.1 af && p.2==aa ac).map λp=>(p.1:Int)
abbrev jR(wo:LB0):LI0:=((eX 0 wo).filter λp=>p.2).map λp=>(p.1:Int)
def UI(wo:LB0):eX 0 wo=(bO wo.length).map λi=>(i,wo.getD i af,):=by
 apply l5;intro j;rw[vM,cH]
 grind
def vO(wo:LB0):jR wo=rS wo:=by
 unfold jR rS;rw[UI,filter_map,map_map];rfl
def Dg:∀(ws:Wss),O.kns (ws.map λp=>lsO p.2)=ac
 | []=>by rw[map_nil,O.kns]
 |p::ws=>by rw[bF,O.kns,Dg ws,lsO,O.kn,rV];rfl
abbrev Spt.D(L:LRu)(s:Spt):L2.D:=(s.S L).o.toD
abbrev gdT(L:LRu)(bs:LLP):L2.D:=.dT ((gys L.length bs.length).map wyK) ((gys L.length bs.length).map (gdD L bs))
def vP(L:LRu)(s:Spt):s.D L=slf s.es (.lst s.st) (.lst (s.bs.map eC)) (gdT L s.bs) (wsO (wtW s.tw)).toD (.lst (s.wt.map wyD)) [.lst s.pp,.int s.ct,.bl s.en] s.ms:=by
 dsimp only[Spt.D,Spr.o,Spt.S,slf,gdT];simp only[lsO,O.toD,O.toDs,xX,List.map,kM,nX]
def UJ(L:LRu)(s:Spt):(s.S L).o.kn=ac:=by
 dsimp only[Spr.o,Spt.S,lsO,wsO];simp only[List.map,kM,nX,O.kn,O.kns,rV,p7];show Dg _
def Dh:cF 0 (.deep (.at l (s.S L).o)::M)=aa (s.D L):=by
 change(if (O.at l (s.S L).o).kn=ac then aa (O.at l (s.S L).o).toD else ab)=_;rw[O.kn,UJ,if_pos rfl,O.toD];rfl
abbrev vQ(L:LRu)(s:Spt)(wo:LB0)(t:Int):LD:=(lO [s.D L,.int t,.lst (wo.map D.bl)]).getD []
abbrev sC(L:LRu)(s:Spt)(wo:LB0)(t:Int):D:=.tup [.str "group",.lst (vQ L s wo t)]
structure eY(n:Nat)(ms:LRu):Prop where
 ok:∀r∈ms,r.Ok n
 nm:∀r∈ms,∀p∈r.ps,(nmP p).length<=1000
 ne:∀r∈ms,r.w≠.never
 len:ms.length<=1000
def eY.of(hr:∀r∈L,RuK n r)(hz:L.length<=1000)(h:ms.Perm (fF L)):eY n ms:=by
 have hm:∀r∈ms,r∈L/\r.w≠.never:=λr q=>by
  have(a,b):=ci.mp (h.mem_iff.mp q)
  grind
 show(λr q=>(hr r (hm r q).1).ok,λr q=>(hr r (hm r q).1).nm,λr q=>(hm r q).2,by rw[h.length_eq];show cN (gW _ _) hz)
abbrev GpL(ms:LRu)(es:LOB)(wo:LB0):Prop:=wo.length=es.length/\∀r∈ms,wo.getD r.hd.toNat af=ac->r.bodyLost es wo=ac
def GpL.up(h:GpL ms es wo)(f:cM es es')(hok:∀r∈ms,r.Ok es.length):GpL ms es' wo:=(by rw[h.1,f.len],λr hr b=>qV (λp a z=>uv f (mU.refl _) ((hok r hr).ps p a) z) (h.2 r hr b))
variable{b:Bool}
def vR(t0:0<=t)(a:opn es t=ac):cM es (put es t.toNat b):=by
 show(b9 _ _ _,λi=>?_)
 by_cases e:i=t.toNat
 .rw[e];show .inl (iM a)
 .show .inr (cZ es b e)
def Di(hn:n<=60)(a:s.es.length=n)(hm:eY n s.ms)(b:GpL s.ms s.es wo)(t0:0<=t)(t1:t<(n:Int))(d:wo.getD t.toNat af=ac):∃ks:LI0,vQ L s wo t=ks.map D.int/\lO [s.D L,.int t,.lst (wo.map D.bl)]=aa (ks.map D.int)/\sy s.es wo s.ms t ks:=by
 have(ks,c,h):=UH (by lia) (by rw[a];show hm.ok) hm.nm b.1 hm.len b.2 t0 (by rw[a];show t1) d;unfold vQ;rw[vP L s,c];show(ks,rfl,rfl,h)
def IQ(hn:n<=60)(a:s.es.length=n)(hm:eY n s.ms)(e:GpL s.ms s.es wo)(t0:0<=t)(t1:t<(n:Int))(g:wo.getD t.toNat af=ac)(f:fo M=aa (s.D L))(ha:fa M=aa [.int t,.lst (wo.map D.bl)]):
  ie "Seeking" "kernel" lO fo fa M=aa (vQ L s wo t):=by
 have(ks,c,b,_):=Di hn a hm e t0 t1 g;rw[c];unfold ie;rw[f,ay];rw[vP L s]at b ⊢;change(if "Seeking"="Seeking" /\ List.contains (spN++(["paper","count","ended"]:LSt)) "kernel"=af then (fa M).bind λas=>(lO (slf s.es _ _ _ _ _ _ s.ms::as)).bind λL=>if L.all D.flat then aa L else ab else ab)=_;rw[if_pos (rfl,rfl),ha,ay,b,ay,if_pos (all_eq_true.mpr λd hd=>by have(z,_,rfl):=aJ.mp hd;rfl)]
abbrev eD(L:LRu)(wo:LB0)(s:Spt)(ts:LI0):Spt:=ts.foldl (λs t=>s.pt t af (sC L s wo t)) s
def vS{n c V3:Nat}{L:LRu}{wo:LB0}:∀{ts:LI0} {s:Spt},SpJ n c V3 L s->fG s.es (ts.map λt=>(t,af,))->SpJ n c V3 L (eD L wo s ts)/\Me c (eD L wo s ts)+ts.length<=Me c s/\(eD L wo s ts).es=ts.foldl (λes t=>put es t.toNat af) s.es/\cM s.es (eD L wo s ts).es/\(eD L wo s ts).bs=s.bs/\(eD L wo s ts).ms=s.ms
 | [],s,h,_=>(h,aL _,rfl,cM.refl _,rfl,rfl)
 |t::ts,s,h,k=>by
  have((a,b),e):=k.op _ az;have(f,h2):=h.pt a (by rw[<- h.es];show b) e;have(g,j,m,d,p,r):=vS f k.tail;show(g,?_,m,?_,p,r)
  .have l:Me c (eD L wo (s.pt t af _) ts)+ts.length<=Me c _:=j;change Me c (eD L wo (s.pt t af _) ts)+(ts.length+1)<=_;lia
  .have f1:cM s.es (put s.es t.toNat af):=vR a e;show(d.len.trans f1.len,λi=>?_)
   rcases f1.at' i with q |q
   .show .inl q
   .rcases d.at' i with z |z
    .show .inl (q.symm.trans z)
    .show .inr (z.trans q)
def psT{pre post:LI0}(h:fG es ((pre++post).map λt=>(t,af,))):fG es (pre.map λt=>(t,af,)):=by
 rw[a9]at h;show h.pre
abbrev reM(s:Spt):Spt:={s with ms:=(cf s.es s.ms).2.1++(cf s.es s.ms).2.2}
abbrev bE(L:LRu)(s:Spt):OD×Spt:=match inL s.es (cf s.es s.ms).1 with
 |x::_=>(aa (sC L (reM s) (cf s.es s.ms).1 x),reM s,)
 | []=>(ab,eD L (cf s.es s.ms).1 (reM s) (jR (cf s.es s.ms).1),)
variable{c:Nat}
def SpJ.rem'(h:SpJ n c V3 L s)(hm:eY n s.ms):SpJ n c V3 L (reM s)/\GpL s.ms s.es (cf s.es s.ms).1/\(reM s).ms.Perm s.ms/\∀i,(cf s.es s.ms).1.getD i af=ac->s.es.getD i ab≠aa af:=by
 have(a,b):=Ij (es:=s.es) hm.ne;have pm:((cf s.es s.ms).2.1++(cf s.es s.ms).2.2).Perm s.ms:=by have:=a.pm;rw[bQ]at this;show this
 show((h.es,h.bk,h.tw,h.wv,pm.trans h.ms,h.mB,h.sB,h.sv),(a.len,λr hr d=>?_),pm,λi hi e=>?_)
 .have:=b r hr;unfold iL at this
  grind
 .have:=a.pe.sub i hi;unfold jt at this
  grind
def GpL.grp(h:GpL ms es wo)(pm:ms.Perm (fF L))(hn:∀i,wo.getD i af=ac->es.getD i ab≠aa af):Grp L es wo:=(h.1,hn,λr hr=>h.2 r (pm.mem_iff.mpr hr))
def IR:t∈jR wo↔0<=t/\wo.getD t.toNat af=ac:=by rw[vO];show vm wo t
def UK(wo:LB0):(jR wo).Nodup:=by
 rw[vO];show wE _ (λa b h e=>h (by lia)) (nodup_range.filter _)
def IS(h:inL es wo=[])(i:Nat)(b:wo.getD i af=ac):es.getD i ab≠aa ac:=λe=>by
 rw[bH]at e
 cases a:es[i]? with
 |none=>rw[a]at e;nomatch e
 |some x=>
  rw[a]at e;have e:x=aa ac:=e;have hm:(i,x,)∈eX 0 es:=dH (by rw[vM,a];simp);have:_∈inL es wo:=aJ.mpr (_,ci.mpr (hm,by rw[b,e];rfl),rfl)
  grind
def sD(d:wo.length=es.length)(h:inL es wo=[])(hn:∀i,wo.getD i af=ac->es.getD i ab≠aa af):fG es ((jR wo).map λt=>(t,af,)):=by
 show(by rw[map_map];have:=UK wo;simpa[Function.comp_def]using this,λz hz=>?_);have(t,a,rfl):=aJ.mp hz;have(t0,tw):=IR.mp a
 have lt:t.toNat<wo.length:=by
  grind
 show((t0,by change t<_;lia),?_);unfold opn
 cases c:es.getD t.toNat ab with
 |none=>rfl
 |some b=>cases b with
  |true=>show absurd c (IS h _ tw)
  |false=>grind
def vT(hr:∀r∈L,RuK n r)(hz:L.length<=1000)(h:SpJ n c V3 L s):SpJ n c V3 L (bE L s).2/\(bE L s).2.bs=s.bs/\Mvs L s.bs s.es (bE L s).2.es/\Me c (bE L s).2<=Me c s/\((bE L s).1=ab->s.wt=[]->(bE L s).2.wt≠[]->Me c (bE L s).2<Me c s)/\((bE L s).1≠ab->∃wo,Grp L (bE L s).2.es wo/\∃i,wo.getD i af=ac/\(bE L s).2.es.getD i ab=aa ac):=by
 have(m,f,pm,a):=h.rem' (eY.of hr hz h.ms);unfold bE
 cases q:inL s.es (cf s.es s.ms).1 with
 |cons x C=>
  show(m,rfl,.refl,aL _,(λe=>by nomatch e),λ_=>(_,f.grp h.ms a,?_));have l:x∈inL s.es (cf s.es s.ms).1:=by grind
  have(p,v,rfl):=aJ.mp l;have(g,j):=ci.mp v;have (h4,h5):=(cB _ _).mp j;show(p.1,h4,?_);change s.es.getD p.1 ab=aa ac;rw[bH,(kH g)]
  grind
 |nil=>
  dsimp only;have(o1,o2,z,B,A,E):=vS m (sD f.1 q a);have y:Me c _+(jR (cf s.es s.ms).1).length<=Me c s:=o2;show(o1,A,?_,by lia,λ_ w d=>?_,λe=>absurd rfl e)
  .rw[z,vO];show .out .refl (f.grp h.ms a) λi hi=>?_;change s.es.getD i ab=ab
   cases l:s.es.getD i ab with
   |none=>rfl
   |some b=>cases b with
    |true=>show absurd l (IS q i hi)
    |false=>grind
  .cases u:jR (cf s.es s.ms).1 with
   |nil=>
    rw[u]at d
    show absurd w d
   |cons t ts=>
    grind
def UL(hr:∀r∈L,RuK n r)(hz:L.length<=1000)(hn:n<=60)(hB:V3+c<16777216)(h:SpJ n c V3 L s):CB l [] (s.S L).o=aa (((bE L s).2.S L).o,(bE L s).1.getD .non,):=by
 have hm:=eY.of hr hz h.ms;have(h1,w,pm,B):=h.rem' hm;have j:(s.S L).es=s.es:=rfl;have a:=h.es;have e:eY n (reM s).ms:=(λr q=>hm.ok r (pm.mem_iff.mp q),λr q=>hm.nm r (pm.mem_iff.mp q),λr q=>hm.ne r (pm.mem_iff.mp q),by rw[pm.length_eq];show hm.len);have f:GpL (reM s).ms s.es (cf s.es s.ms).1:=(w.1,λr q=>w.2 r (pm.mem_iff.mp q));have g:=w.1;unfold bE;generalize I:(cf s.es s.ms).1=wo at *;apply fE;apply ak;show jw (fD rfl rfl rfl rfl (T1 (s:=s.S L) (by change 3<900;decide) rfl (by rw[j];lia) (by rw[j,a];show hm.ok) hm.ne hm.len)) ?_;change wp _ [.deep _,.im (.lst ((cf s.es s.ms).1.map D.bl)),.no,.no,.no] _;rw[I];apply ak;show bo (d:=.lst ((inL s.es wo).map D.int)) (bR ?_) ?_
 .unfold inL;rw[map_map];show eR (eX 0 s.es) (λp=>D.tup [.int p.1,shD p.2]) _ _ ?_ (by rw[vN];lia) λp E=>?_
  .rw[<- sA];change(pC _ _).map _=_;rw[rT jP];rfl
  .have A:=(cU.mp (kH E)).1;show dM rfl (jI (dh (bg rfl rfl (jK (by lia) (by lia))) rfl) (bB (ap rfl rfl ?_))) λ_=>rfl;have(i,x):=p
   cases x with
   |none=>rfl
   |some b=>cases b <;> rfl
 .change wp _ [.deep (.at l ((reM s).S L).o),.im _,.no,.im _,.no] _;apply ak
  cases U:inL s.es wo with
  |cons x C=>
   have u:x∈inL s.es wo:=by rw[U];show az
   have(p,E,ep):=aJ.mp u;have(G,H):=ci.mp E;have h3:=(cU.mp (kH G)).1;have (h4,h5):=(cB _ _).mp H
   show jp (d:=sC L (reM s) wo x) (cS (ao rfl (ao (bR (IQ hn a e f (by lia) (by lia) (by rw[<- ep,dF];show h4) Dh (ao (bg rfl rfl (ly 0 (by decide) (by rw[cr];lia))) (ao rfl rfl)))) rfl))) (_,rfl,rfl,rfl)
  |nil=>
   have ps:=sD g U B;show aY rfl (λz=>by nomatch z) (λ_=>b5 ?_);apply ak;show dD (eX 0 wo) (λp=>D.tup [.int p.1,.bl p.2]) (λpre M=>∃N Q,M=[.deep (.at l ((eD L wo (reM s) ((pre.filter λp=>p.2).map λp=>p.1)).S L).o),.im _,N,.im _,Q]) ?_ (_,_,rfl) ?_ ?_
   .rw[<- sA];show vv rfl
   .rintro pre p post M ex ⟨N,Q,rfl⟩;show(_,rfl,?_);walk_at "nrm";have u:=kH (p:=p) (by rw[ex];simp);have A:=(cU.mp u).1
    cases m:p.2 with
    |false=>
     show aY rfl (λz=>by nomatch z) (λ_=>b5 ?_);show(.im (.int p.1),.im (.bl af),?_)
     rw[kL,filter_cons_of_neg (by rw[m];show bG),filter_nil,bQ]
    |true=>
     have v:jR wo=(pre.filter λp=>p.2).map (λp=>(p.1:Int))++(p.1:Int)::(post.filter λp=>p.2).map λp=>p.1:=by
      unfold jR;simp only[ex,kL,qb m,a9,bF]
     rw[v]at ps;have(o1,o2,o3,o4,o5,Y):=vS (wo:=wo) h1 (psT ps);generalize hT:(pre.filter λp=>p.2).map _=T at *;have y:GpL (eD L wo (reM s) T).ms (eD L wo (reM s) T).es wo:=by rw[Y];show f.up o4 (by change ∀r∈(reM s).ms,r.Ok s.es.length;rw[a];show e.ok)
     have J:wo.getD (p.1:Int).toNat af=ac:=by simp only[dF,bH,u,m];rfl
     show jq (fD rfl rfl (dE rfl (dE rfl (dE (cS (ao rfl (ao (bR (IQ hn o1.es (by rw[Y];show e) y (by lia) (by lia) J Dh (ao rfl (ao rfl rfl)))) rfl))) rfl))) rfl (De o1 hB (by lia) (by lia))) ?_;show(.im (.int p.1),.im (.bl ac),?_);rw[kL,qb m,a9,hT];unfold eD;rw[filter_nil,bF,map_nil,eE];rfl
   .rintro M ⟨N,Q,rfl⟩;show jp rfl (_,rfl,rfl,rfl)
abbrev stF(L:LRu)(c:Nat):Nat->Spt->OD×Spt
 | 0,s=>(ab,s,)
 |k+1,s=>if (lrF L (Me c s+1) s).1.isSome then ((lrF L (Me c s+1) s).1.map wyD,(lrF L (Me c s+1) s).2,) else if ((bE L (lrF L (Me c s+1) s).2).1.isSome || (bE L (lrF L (Me c s+1) s).2).2.wt.isEmpty) then bE L (lrF L (Me c s+1) s).2 else stF L c k (bE L (lrF L (Me c s+1) s).2).2
abbrev UM(L:LRu)(bs:LLP)(es:LOB):Prop:=(∃y∈gys L.length bs.length,∀p∈bN L bs y,p.sure es=ac)\/∃wo,Grp L es wo/\∃i,wo.getD i af=ac/\es.getD i ab=aa ac
structure UN(n c V3:Nat)(L:LRu)(s:Spt)(R:OD×Spt):Prop where
 ok:SpJ n c V3 L R.2
 bs:R.2.bs=s.bs
 mv:Mvs L s.bs s.es R.2.es
 en:R.1≠ab->UM L s.bs R.2.es
 tp:∀w,R.1=aa w->∃ds,w=.tup ds
def UO(h:(bE L s).1=aa w):∃ds,w=.tup ds:=by
 unfold bE at h;split at h
 .cases h;show(_,rfl)
 .grind
def none_of{a:Type}{x:Option a}(h:¬x.isSome=ac):x=ab:=by simp_all
def Dj{n c V3:Nat}{L:LRu}(hr:∀r∈L,RuK n r)(hz:L.length<=1000):∀(k:Nat) (s:Spt),SpJ n c V3 L s->Me c s<k->UN n c V3 L s (stF L c k s)
 | 0,_,_,h=>absurd h (io _)
 |k+1,s,h,hk=>by
  have l:=sx hr _ s h (c6 _);dsimp only[stF];generalize lrF L _ s=R at l;split
  .rename_i d;have(y,j):=wI.mp d;show(l.ok,l.bs,l.mv,(λ_=>.inl (y,l.ye y j)),λw i=>by rw[j]at i;cases i;show(_,rfl))
  .rename_i d;have(m,p,f,z,q,u):=vT hr hz l.ok;rw[l.bs]at f;have x:=l.le;have pt:=λw=>UO (L:=L) (s:=R.2) (w:=w);generalize bE L R.2=P at *;split
   .show(m,p.trans l.bs,l.mv.trans f,(λe=>.inr (u e)),pt)
   .rename_i g;have h2:P.2.wt≠[]:=λe=>g (by rw[e];show p9 _);have v:=q (none_of λe=>g (by rw[e];rfl)) (l.no (none_of d)) h2;have a:=Dj hr hz k P.2 m (by lia);have b:=p.trans l.bs;show(a.ok,a.bs.trans b,(l.mv.trans f).trans (by have:=a.mv;rw[b]at this;show this),(λe=>by have:=a.en e;rw[b]at this;show this),a.tp)
def UP(L:LRu)(s:Spt):dIs ((bE L s).1.getD .non) .non=aa (.bl (!(bE L s).1.isSome)):=by
 unfold bE
 split <;> rfl
def UQ{k:Nat}(hr:∀r∈L,RuK n r)(hz:L.length<=1000)(hn:n<=60)(hB:V3+c<16777216)(h:SpJ n c V3 L s)(C:Me c s<k)(B:k<1000000000):rQ l [] (s.S L).o=aa (((stF L c k s).2.S L).o,(stF L c k s).1.getD .non,):=by
 apply fE;apply ak;show bo rfl ?_;walk_at "nrm";apply ak;show q9 (λm M=>∃(a:Spt) (g:Bool) (j:Sl),M=[.deep (.at l (a.S L).o),.im (.bl g),j]/\(g=ac->SpJ n c V3 L a/\Me c a<m/\stF L c m a=stF L c k s)/\(g=af->∃w:OD,j=.im (w.getD .non)/\(w,a,)=stF L c k s)) ?_ _ k _ ⟨s,ac,_,rfl,λ_=>(h,C,rfl),λz=>by nomatch z⟩ B;rintro m M ⟨a,g,j,rfl,u,q⟩;generalize stF L c k s=Z at u q ⊢;show(g,rfl,?_,?_)
 .rintro rfl;have(h',hm,b):=u rfl
  cases m with
  |zero=>show absurd hm (io _)
  |succ m=>
   have f:=sx hr _ a h' (c6 _);have mB:=h'.mB;have v:=UB (l:=l) hr hB h' (c6 _) (by change Me c a+1<_;change iN a.es*_+a.wt.length+1<_;lia);dsimp only[stF]at b;generalize lrF L _ a=R at *;apply ak;show jw (fD rfl rfl rfl rfl v) ?_;apply ak
   cases hR:R.1 with
   |some y=>
    rw[if_pos (by rw[hR];rfl),hR]at b
    show aY rfl (λz=>by nomatch z) (λ_=>b5 (bo ((jJ rfl (ap (aE (ao (jo pN) rfl) (d9 R.2.wt wyD)) rfl mW)).trans rfl) (0,qh _,R.2,af,_,rfl,(λz=>by nomatch z),λ_=>(aa _,rfl,b))))
   |none=>
    rw[if_neg (by rw[hR];show bG)]at b;have(E,J,N,Q,G,T):=vT hr hz f.ok;have x:=UL (l:=l) hr hz hn hB f.ok;have A:=UP L R.2;have I:=f.le;generalize bE L R.2=P at *;show jw (fD rfl rfl rfl rfl x) ?_;show bo (jJ (ap rfl rfl A) (ap (aE (ao (jo pN) rfl) (d9 P.2.wt wyD)) rfl mW)) ?_
    by_cases d:(P.1.isSome || P.2.wt.isEmpty)=ac
    .rw[if_pos d]at b
     have i:(!P.1.isSome && decide ((0:Int)<P.2.wt.length))=af:=by
      rcases(jU _ _).mp d with z |z
      .rw[z];rfl
      .rw[isEmpty_iff.mp z];show sM _
     rw[i];show(0,qh _,P.2,af,_,rfl,(λz=>by nomatch z),λ_=>(P.1,rfl,b))
    .rw[if_neg d]at b;have p:=none_of λe=>d (by rw[e];rfl);have h2:P.2.wt≠[]:=λe=>d (by rw[e];show p9 _);have H:=G p (f.no hR) h2
     have i:(!P.1.isSome && decide ((0:Int)<P.2.wt.length))=ac:=by
      have:=length_pos_iff.mpr h2;rw[p,decide_eq_true (by lia)];rfl
     simp only[i];show⟨m,c6 _,P.2,ac,_,rfl,(λ_=>(E,by lia,b)),λz=>by nomatch z⟩
 .rintro rfl;have(w,rfl,e):=q rfl;rw[<- e];show jp rfl (_,rfl,rfl,rfl)
structure SpB(n c:Nat)(L:LRu)(s:Spt):Prop where
 es:s.es.length=n
 bk:∀b∈s.bs,cT n b
 tw:dX c L.length s.bs s.tw
 wv:∀y∈s.wt,y∈gys L.length s.bs.length
 ms:s.ms.Perm (fF L)
 st:s.st=[]
 wl:s.wt.length=L.length+s.bs.length
def IT{n q R:Nat}(hn:n<=60):∀(L:LRu) (i c:Nat) (tw:Wt),(∀r∈L,RuK n r/\(grd r).length<=q)->i+L.length<=R->dX c R [] tw->dX (c+64*q*L.length) R [] (nG i L tw)
 | [],_,_,_,_,_,h=>h
 |r::L,i,c,tw,hr,hi,h=>by
  have(f,g):=hr r az;simp only[cr]at hi
  have a:dX (c+64*q) R [] (fX (af,i,) (grd r) tw):=by
   show(?_,λp y d=>?_,λj=>?_)
   .rw[<- vI];show(bS.reg hn (vt f) h.wk).le ?_
    lia
   .by_cases e:y=(af,i,)
    .rw[e];show eW.mpr ?_;change i<R
     lia
    .show h.vl p y (gS.mpr ?_);rw[<- nH e p _];show gS.mp d
   .show .inl λp=>?_;rw[nH (λe=>by cases e)]
    rcases h.br j with z |z
    .show z p
    .rw[z p]
     show if_neg λx=>by
      cases x
  have:=IT hn L (i+1) _ _ (λx b=>hr x (bh _ b)) (by lia) a;rw[cr,Nat.mul_succ,show c+_=c+64*q+64*q*L.length by lia];show this
def UR{q:Nat}(hn:n<=60)(a:es.length=n)(hr:∀r∈L,RuK n r/\(grd r).length<=q):SpB n (64*q*L.length) L (spT es L):=by
 show(a,(λb h=>nomatch h),?_,λy c=>?_,sV _,rfl,by change((bO L.length).map _).length=_;rw[aA,cV];rfl)
 .have:=IT (R:=L.length) hn L 0 0 [] hr (by lia) (⟨cj _,λp h=>nomatch h⟩,(λp y h=>nomatch h),λj=>.inl λp=>rfl);rw[kP]at this;show this
 .have(i,hi,rfl):=aJ.mp c;show eW.mpr (fI.mp hi)
inductive Wh where
 |ch
 |gd (y:Wy)
 |gp (ks:LI0)
 |wd (i:Int)
abbrev Wh.D:Wh->L2.D
 |.ch=>.non
 |.gd y=>wyD y
 |.gp ks=>.tup [.str "group",.lst (ks.map .int)]
 |.wd i=>.tup [.str "world",.int i]
abbrev mkS(n:Nat)(ks:LI0):LB0:=(bO n).map (inS ks)
def pS(n:Nat)(ks:LI0):(mkS n ks).length=n:=by unfold mkS;rw[aA,cV]
variable{ks:LI0}
def lS(t0:0<=t)(t1:t<(n:Int)):(mkS n ks).getD t.toNat af=ac↔t∈ks:=by
 delta mkS inS
 rw[bH,cH,wz (by lia)];change(ks.any λx=>x==_)=ac↔_;rw[any_eq_true];constructor
 .rintro⟨x,a,e⟩
  rwa [show t=x by lia]
 .intro h;show(t,h,by rw[beq_iff_eq];lia)
nonrec abbrev d5(G:List Prt)(es:LOB):Prop:=∀p∈G,p.sure es=ac
structure GpR(n:Nat)(L:LRu)(es:LOB)(ks:LI0):Prop where
 nn:∀x∈ks,0<=x/\x<(n:Int)
 nd:ks.Nodup
 i:∃x∈ks,es.getD x.toNat ab=aa ac
 up:∀r∈fF L,r.hd∈ks->r.bodyLost es (mkS n ks)=ac
abbrev Rt(n:Nat)(L:LRu)(bs:LLP)(es:LOB):Wh->Prop
 |.ch=>False
 |.gd y=>y∈gys L.length bs.length/\d5 (bN L bs y) es
 |.gp ks=>GpR n L es ks
 |.wd _=>∀k,k<n->es.getD k ab≠ab
nonrec def Stp:=Pr×Wh
nonrec abbrev LSp:=List Stp
abbrev stD(x:Stp):D:=.tup [prD x.1,x.2.D]
abbrev aW(n:Nat):LSp->LOB
 | []=>gX n ab
 |x::st=>put (aW n st) x.1.1.toNat x.1.2
abbrev Wh.nc:Wh->Bool
 |.gd _=>ac
 |.gp _=>ac
 | _=>af
structure US(n:Nat)(L:LRu)(bs:LLP)(es:LOB)(x:Stp):Prop where
 t0:0<=x.1.1
 t1:x.1.1<(n:Int)
 op:opn es x.1.1=ac
 ok:(x.2=.ch/\x.1.2=ac/\∀j:Nat,(j:Int)<x.1.1->es.getD j ab≠ab)\/(x.2.nc=ac/\Rt n L bs (put es x.1.1.toNat (!x.1.2)) x.2)
abbrev Tr(n:Nat)(L:LRu)(bs:LLP):LSp->Prop
 | []=>True
 |x::st=>Tr n L bs st/\US n L bs (aW n st) x
def eZ(n:Nat):∀st:LSp,(aW n st).length=n
 | []=>lW
 |x::st=>by rw[aW,b9,eZ n st]
structure TrS(n:Nat)(L:LRu)(s:Spt)(st:LSp):Prop where
 sv:s.st=st.reverse.map stD
 es:s.es=aW n st
 tr:Tr n L s.bs st
variable{st:LSp}{w:Wh}
def TrS.pt(h:TrS n L s st)(t0:0<=t)(t1:t<(n:Int))(a:opn s.es t=ac)(c:w.nc=ac)(k:Rt n L s.bs (put s.es t.toNat (!b)) w):TrS n L (s.pt t b w.D) (((t,b,),w,)::st):=by
 show(?_,?_,h.tr,t0,t1,h.es▸a,.inr (c,h.es▸k))
 .change s.st++[_]=_;rw[h.sv,iS,a9];rfl
 .change put s.es _ _=_;rw[h.es];rfl
abbrev TrM(n:Nat)(L:LRu)(st:LSp)(s:Spt):Prop:=∃xt:LSp,TrS n L s (xt++st)/\∀x∈xt,x.2.nc=ac
def TrM.refl(h:TrS n L s st):TrM n L st s:=⟨[],h,λ_ h=>nomatch h⟩
def TrM.pt(h:TrM n L st s)(t0:0<=t)(t1:t<(n:Int))(a:opn s.es t=ac)(c:w.nc=ac)(k:Rt n L s.bs (put s.es t.toNat (!b)) w):TrM n L st (s.pt t b w.D):=by
 have(xt,h,d):=h;show(_::xt,h.pt t0 t1 a c k,λx q=>?_)
 grind
def TrM.same{a:Spt}(h:TrM n L st s)(b:a.st=s.st)(c:a.es=s.es)(d:a.bs=s.bs):TrM n L st a:=by
 have(xt,h,e):=h;show(xt,(by rw[b];show h.sv,by rw[c];show h.es,by rw[d];show h.tr),e)
def Dk{n:Nat}{L:LRu}{y:Wy}{st:LSp}:∀{ps:List Pr} {s:Spt},y∈gys L.length s.bs.length->s.es.length=n->(∀p∈bN L s.bs y,p.Ok s.es.length)->fG s.es ps->(∀z∈ps,d5 (bN L s.bs y) (put s.es z.1.toNat (!z.2)))->TrM n L st s->TrM n L st (puts s (wyD y) ps)
 | [],_,_,_,_,_,_,h=>h
 |z::ps,s,hy,hl,hG,k,hp,h=>by
  have((a,b),e):=k.op z az;have(d,g):=b7.mp k.nd;show Dk (s:=s.pt z.1 z.2 _) hy ((b9 _ _ _).trans hl) (λp q=>by change p.Ok (put s.es z.1.toNat z.2).length;rw[b9];show hG p q) k.tail (λx c p q=>?_) (h.pt (w:=.gd y) a (by lia) e rfl (hy,hp z az));have((f,i),j):=k.op x (bh _ c);have ne:z.1≠x.1:=λe=>d (aJ.mpr (x,c,e.symm));change p.sure (put (put s.es z.1.toNat z.2) x.1.toNat _)=ac;rw[vK (by lia)];show vG (by rw[b9];show hG p q) a (by rw[b9];show b) (vL a f ne e) _ (hp x (bh _ c) p q)
def sE{n c V3:Nat}{L:LRu}{st:LSp}(hr:∀r∈L,RuK n r):∀(k:Nat) (s:Spt),SpJ n c V3 L s->TrM n L st s->TrM n L st (lrF L k s).2
 | 0,_,_,h=>h
 |k+1,s,h,q=>by
  cases a:s.wt with
  |nil=>rw[ss a];show q
  |cons y wt=>
   have(f,_,g):=h.pop a;have d:∀p∈bN L s.bs y,p.Ok s.es.length:=by rw[h.es];show nK hr h.bk
   cases b:prs _ s.es with
   |none=>rw[sw a b];show q.same rfl rfl rfl
   |some ps=>
    rw[pR a b];have(e,i,_):=nJ d b;show sE hr k _ (nI f e).1 (Dk g h.es d e (λz hz=>((i z).mp hz).2.2) (q.same rfl rfl rfl))
variable{wo':LB0}
def IU(h:p.Ok es.length)(a:∀t∈nmP p,es.getD t.toNat ab=aa ac->es'.getD t.toNat ab=aa ac)(h2:∀t∈nmP p,(es.getD t.toNat ab=aa af\/wo.getD t.toNat af=ac)->(es'.getD t.toNat ab=aa af\/wo'.getD t.toNat af=ac))(s:p.lost es wo=ac):p.lost es' wo'=ac:=by
 cases p with
 |inn t=>
  have s:(_ || wo.getD t.toNat af)=ac:=s;change(_ || wo'.getD t.toNat af)=ac;rw[jU]at s ⊢
  rcases h2 t az (s.imp beq_iff_eq.mp id)with q |q
  .grind
  .grind
 |out t=>show beq_iff_eq.mpr (a _ az (beq_iff_eq.mp s))
 |least k B=>
  show decide_eq_true (Int.lt_of_le_of_lt (lz λz hz=>((h.1 z hz).2.2,λq=>?_)) (of_decide_eq_true s))
  cases b:(!_ && !_)with
  |true=>rfl
  |false=>
   have:es.getD z.1.toNat ab=aa af\/wo.getD z.1.toNat af=ac:=by
    grind
   rcases h2 z.1 (aJ.mpr (z,hz,rfl)) this with u |u
   .grind
   .grind
 |most k B=>
  show decide_eq_true (Int.lt_of_lt_of_le (of_decide_eq_true s) ?_);rw[ls,ls];show lz λz hz=>((h.1 z hz).2.2,λq=>beq_iff_eq.mpr (a _ (aJ.mpr (z,hz,rfl)) (beq_iff_eq.mp q)))
variable{r:Rul}
def UT(g:es.length=n)(hr:r.Ok n)(h:Kp es wo ks r):r.bodyLost es (mkS n ks)=ac:=by
 subst g;have(p,c,l,a):=h;have b:=hr.ps p c;show any_eq_true.mpr (p,c,?_);unfold kpL at a
 by_cases d:p.lost es ((bO es.length).map (inS []))=ac
 .show uv (cM.refl _) (by rw[pS,aA,cV],λi hi=>?_) b d;rw[bH,cH]at hi
  cases e:(bO es.length)[i]? with
  |none=>rw[e]at hi;nomatch hi
  |some j=>rw[e]at hi;nomatch hi
 .rw[if_neg d]at a;show IU b (λ_ _ e=>e) (λt f e=>e.imp id λw=>?_) l;have(t0,t1):=pO b t f;show(lS t0 t1).mpr (a t (ci.mpr (rZ.mpr f,w)))
def sy.gp(h:sy es wo ms t ks)(a:es.length=n)(hm:∀r∈ms,r.Ok n)(pm:ms.Perm (fF L))(f:cM es es')(hi:es'.getD t.toNat ab=aa ac):GpR n L es' ks:=by
 subst a;show(λx c=>(h.el x c).1,h.nd,(t,h.mt,hi),λr hr hd=>?_);have hr:=pm.mem_iff.mpr hr;show qV (λp b z=>uv f (mU.refl _) ((hm r hr).ps p b) z) (UT rfl (hm r hr) (h.kp r hr hd))
def IV{n c V3:Nat}{L:LRu}{wo:LB0}{st:LSp}(hn:n<=60):∀{ts:LI0} {s:Spt},SpJ n c V3 L s->eY n s.ms->GpL s.ms s.es wo->(∀t∈ts,wo.getD t.toNat af=ac)->fG s.es (ts.map λt=>(t,af,))->TrM n L st s->TrM n L st (eD L wo s ts)
 | [],_,_,_,_,_,_,h=>h
 |t::ts,s,h,hm,hg,hw,k,q=>by
  have((a,b),e):=k.op _ az;have b:t<n:=by rw[<- h.es];show b
  have a:0<=t:=a;have(ks,d,_,f):=Di hn h.es hm hg a b (hw t az);show IV hn (s:=s.pt t af _) (h.pt a b e).1 hm (hg.up (vR a e) (by rw[h.es];show hm.ok)) (λu g=>hw u (bh _ g)) k.tail ?_;unfold sC;rw[d];show(q.pt (w:=.gp ks) a b e rfl (f.gp h.es hm.ok h.ms (vR a e) (eU s.es ac (by rw[h.es];lia))))
def UU(hr:∀r∈L,RuK n r)(hz:L.length<=1000)(hn:n<=60)(h:SpJ n c V3 L s)(q:TrM n L st s):TrM n L st (bE L s).2/\∀w,(bE L s).1=aa w->∃ks,w=(Wh.gp ks).D/\GpR n L (bE L s).2.es ks:=by
 have hm:=eY.of hr hz h.ms;have(f,g,pm,i):=h.rem' hm;have a:eY n (reM s).ms:=(λr q=>hm.ok r (pm.mem_iff.mp q),λr q=>hm.nm r (pm.mem_iff.mp q),λr q=>hm.ne r (pm.mem_iff.mp q),by rw[pm.length_eq];show hm.len);have b:GpL (reM s).ms (reM s).es (cf s.es s.ms).1:=(g.1,λr q=>g.2 r (pm.mem_iff.mp q));have m:TrM n L st (reM s):=q.same rfl rfl rfl;unfold bE
 cases l:inL s.es (cf s.es s.ms).1 with
 |cons x C=>
  show(m,λw e=>?_);cases e;have B:x∈inL s.es (cf s.es s.ms).1:=by rw[l];show az
  have(p,z,rfl):=aJ.mp B;have(d,j):=ci.mp z;have (h4,h5):=(cB _ _).mp j;have y:=(cU.mp (kH d)).1;have(ks,u,_,v):=Di (t:=p.1) hn f.es a b (by lia) (by rw[<- h.es];lia) (by rw[dF];show h4);show(ks,?_,v.gp f.es a.ok f.ms (cM.refl _) ?_)
  .unfold sC;rw[u];rfl
  .change s.es.getD (p.1:Int).toNat ab=aa ac;rw[dF,bH,(kH d)]
   show eq_of_beq h5
 |nil=>show⟨IV hn f a b (λt A=>(IR.mp A).2) (sD g.1 l i) m,λw e=>nomatch e⟩
structure StS(n:Nat)(L:LRu)(s:Spt)(R:OD×Spt):Prop where
 tw:R.2.tw=s.tw
 pp:R.2.pp=s.pp
 ct:R.2.ct=s.ct
 en:R.2.en=s.en
 wy:∀w,R.1=aa w->∃wh:Wh,w=wh.D/\wh.nc=ac/\Rt n L s.bs R.2.es wh
def IX(w:D):∀(ps:List Pr) (s:Spt),(puts s w ps).tw=s.tw/\(puts s w ps).pp=s.pp/\(puts s w ps).ct=s.ct/\(puts s w ps).en=s.en
 | [],_=>(rfl,rfl,rfl,rfl)
 |z::ps,s=>IX w ps _
def IY(L:LRu):∀k s,(lrF L k s).2.tw=s.tw/\(lrF L k s).2.pp=s.pp/\(lrF L k s).2.ct=s.ct/\(lrF L k s).2.en=s.en
 | 0,s=>(rfl,rfl,rfl,rfl)
 |k+1,s=>by
  cases e:s.wt with
  |nil=>rw[ss e];show(rfl,rfl,rfl,rfl)
  |cons y wt=>
   cases f:prs _ s.es with
   |none=>rw[sw e f];show(rfl,rfl,rfl,rfl)
   |some ps=>
    rw[pR e f];have(a,b,c,d):=IY L k _
    have(g,h,i,d'):=IX _ ps {s with wt:=wt}
    show(a.trans g,b.trans h,c.trans i,d.trans d')
def IZ(L:LRu)(wo:LB0):∀(ts:LI0) (s:Spt),(eD L wo s ts).tw=s.tw/\(eD L wo s ts).pp=s.pp/\(eD L wo s ts).ct=s.ct/\(eD L wo s ts).en=s.en
 | [],_=>(rfl,rfl,rfl,rfl)
 |t::ts,s=>IZ L wo ts _
def vU{n c V3:Nat}{L:LRu}{st:LSp}(hr:∀r∈L,RuK n r)(hz:L.length<=1000)(hn:n<=60):∀(k:Nat) (s:Spt),SpJ n c V3 L s->TrM n L st (lrF L (Me c s+1) s).2->TrM n L st (stF L c (k+1) s).2/\StS n L s (stF L c (k+1) s)
 |k,s,h,lt=>by
  have l:=sx hr _ s h (c6 _);have(a,b,d,f):=IY L _ s;dsimp only[stF];generalize lrF L _ s=R at l lt a b d f;split
  .rename_i E;have(y,p):=wI.mp E;show(lt,a,b,d,f,λw e=>?_);rw[p]at e;cases e;show(.gd y,rfl,rfl,l.ye y p)
  .have(q,H,_):=vT hr hz l.ok;have(pt,J):=UU hr hz hn l.ok lt
   have I:(bE L R.2).2.tw=R.2.tw/\(bE L R.2).2.pp=R.2.pp/\(bE L R.2).2.ct=R.2.ct/\(bE L R.2).2.en=R.2.en:=by
    unfold bE;split
    .show(rfl,rfl,rfl,rfl)
    .show IZ _ _ _ _
   generalize bE L R.2=P at *;have(g,i,j,m):=I;split
   .show(pt,g.trans a,i.trans b,j.trans d,m.trans f,λw e=>?_);have(ks,B,C):=J w e;show(.gp ks,B,rfl,C)
   .cases k with
    |zero=>show⟨pt,g.trans a,i.trans b,j.trans d,m.trans f,λw e=>nomatch e⟩
    |succ k=>
     have(G,u,v,x,z,A):=vU hr hz hn k P.2 q (sE hr _ _ q pt);show(G,u.trans (g.trans a),v.trans (i.trans b),x.trans (j.trans d),z.trans (m.trans f),λw e=>by rw[<- (H.trans l.bs)];show A w e)
nonrec def wS(B:LII)(S:LI0):Int:=bY (λt=>decide (t∈S)) B
def pT(p:Int->Bool)(z:Int×Int)(B:LII):bY p (z::B)=(if p z.1=ac then z.2 else 0)+bY p B:=by
 unfold bY
 rw[filter_cons];split
 .rw[bF,sum_cons]
 .omega
def I0{p:Int->Bool}{t:Int}(h:p t=af):∀B:LII,bY (λu=>p u || u==t) B=bY p B+wt B t
 | []=>rfl
 |z::B=>by
  have e0:wt _ t=bY (λu=>u==t) (z::B):=rfl;have a:wt B t=bY (λu=>u==t) B:=rfl;simp only[e0,pT,pT,pT,(I0 h B),a]
  by_cases e:z.1=t
  .simp only[e,h,beq_self_eq_true];simp
   lia
  .simp only[beq_false_of_ne e,sN];simp
   lia
def Ja{S:LI0}(h:t∉S):wS B (S++[t])=wS B S+wt B t:=by
 rw[<- I0 (decide_eq_false h)];show FN λz _=>?_;rw[jT];simp
def Jb(p:Int->Bool):∀B:LII,bY p B+bY (λt=>!p t) B=bY (λ_=>ac) B
 | []=>rfl
 |z::B=>by
  rw[pT,pT,pT,<- (Jb p B)]
  cases p z.1 <;> simp <;> lia
def UV(e:InN n B)(hz:B.length<=100000)(a:LI0)(v:a.length<=1000)(nd:a.Nodup)(lack:Int):∃d,m_7 [.lst (B.map itD),.lst (a.map D.int),.int lack]=aa d/\∃ks:LI0,d=.lst (ks.map D.int)/\(∀k∈ks,k∈a)/\ks.length<=a.length/\(lack<=wS B a->lack<=wS B ks):=by
 apply lD;apply ak;show bo (aE rfl (Ip B hz)) ?_;walk_at "nrm";apply ak;show dO rfl ?_;walk_at "nrm";apply ak;show bo rfl ?_;walk_at "nrm";apply ak;show dD a D.int (λpre M=>∃(ks:LI0) (left:Int) (g i:Sl),M=[.im _,.im _,.im _,.im _,.own (ks.map D.int),.im (.int left),g,i]/\(∀k∈ks,k∈pre)/\ks.length<=pre.length/\left=lack-wS B ks/\(0<left->wS B ks=wS B pre)) rfl ([],lack,_,_,rfl,(λk h=>nomatch h),aL _,by rw[show wS B []=0 by unfold wS bY;rw[filter_eq_nil_iff.mpr λz _=>by simp];rfl];lia,λ_=>rfl) ?_ ?_
 .rintro pre t post M ex ⟨ks,left,g,i,rfl,b,h2,j,l⟩
  have c:=λq=>by
   rw[ex]at nd;show(e8.mp nd).2.2 t q t az rfl
  have m:pre.length<a.length:=by rw[ex];simp
  have w:=CW e t;have r:=Ja (B:=B) c;have u:=Ja (B:=B) λq=>c (b t q);show(_,rfl,?_);walk_at "nrm";apply ak;show bo (d:=.int (wt B t)) ?_ ?_
  .rw[<- (pP B).get];change aa ((gM _ _ _).getD _)=_;rw[Im]
  walk_at "nrm";show aY (jI (bB (ap rfl rfl mW)) (bB (ap rfl rfl mW))) (λz=>?_) λz=>?_
  .have(x,y):=(cB _ _).mp z;apply ak;show fU rfl rfl (by rw[aA];lia) ?_;walk_at "nrm";show(_,rfl,ks++[t],left-wt B t,.im (.int t),.im (.int (wt B t)),?_,λk f=>?_,?_,by lia,λ_=>by lia)
   .rw[a9];rfl
   .rcases bu.mp f with q |q
    .show bT _ (b k q)
    .show cg _ q
   .rw[aR,aR];show Nat.add_le_add_right h2 _
  .show b5 (ks,left,_,_,rfl,λk f=>bT _ (b k f),by rw[aR];lia,j,λq=>?_);rw[decide_eq_true q,p8]at z
   lia
 .rintro M ⟨ks,left,g,i,rfl,b,h2,j,l⟩;show mY rfl (jN (ks,rfl,b,h2,λq=>?_))
  by_cases p:0<left
  .rw[l p];show q
  .lia
def UW(e:Option Bool)(b:Bool):dEq (shD e) (.bl b)=aa (.bl (e==aa b)):=by
 cases e with
 |none=>rfl
 |some c=>cases b <;> cases c <;> rfl
abbrev wth(es:LOB)(b:Bool)(ord:LI0):LI0:=ord.filter λt=>es.getD t.toNat ab==aa b
variable{ord:LI0}
def vV(a:∀t∈ord,0<=t/\t<(es.length:Int))(d:ord.length<=1000)(b:Bool):pJ [.lst (ord.map D.int),.lst (es.map shD),.bl b]=aa (.lst ((wth es b ord).map D.int)):=
 lx (congrArg _ (eR ord D.int _ D.int rfl (by lia) λt c=>dM rfl (bB (ap (bg rfl rfl (je (a t c).1 (a t c).2)) rfl (UW _ _))) λ_=>rfl))
def Jc(B:LII)(hz:B.length<=100000):vg [.lst (B.map itD)]=aa (.int (bY (λ_=>ac) B)):=by
 show dB (dA (aE (ao (bR (eR B itD _ _ rfl (by lia) λz _=>dM rfl rfl λ_=>rfl)) rfl) (yv (λ_=>ac) B)))
structure gT(es:LOB)(ord:LI0):Prop where
 nn:∀t∈ord,0<=t/\t<(es.length:Int)
 nd:ord.Nodup
 al:∀t:Int,0<=t->t<(es.length:Int)->es.getD t.toNat ab≠ab->t∈ord
def gT.len(h:gT es ord):ord.length<=es.length:=sm h.nd h.nn
abbrev Agr(ks:LI0)(es e':LOB):Prop:=e'.length=es.length/\∀k∈ks,e'.getD k.toNat ab=es.getD k.toNat ab
structure vW(es:LOB)(ks:LI0)(P:LOB->Prop):Prop where
 nn:∀k∈ks,(0<=k/\k<(es.length:Int))/\es.getD k.toNat ab≠ab
 ln:ks.length<=60
 ok:∀e',Agr ks es e'->P e'
def Dl:t∈wth es b ord↔t∈ord/\es.getD t.toNat ab=aa b:=by
 unfold wth;rw[ci,beq_iff_eq]
def UX(h:gT es ord)(a:InN es.length B)(b:Bool):wS B (wth es b ord)=bY (λt=>es.getD t.toNat ab==aa b) B:=FN λz hz=>by
 rw[jT,decide_eq_true_eq,Dl,beq_iff_eq];show(λq=>q.2,λq=>(h.al z.1 (a z hz).1 (a z hz).2.1 (by grind),q))
def vX(h:gT es ord)(hn:es.length<=60)(f:InN es.length B)(hz:B.length<=100000)(b:Bool)(lack:Int)(l:lack<=bY (λt=>es.getD t.toNat ab==aa b) B):∃ks:LI0,m_7 [.lst (B.map itD),.lst ((wth es b ord).map D.int),.int lack]=aa (.lst (ks.map D.int))/\vW es ks λe'=>lack<=bY (λt=>e'.getD t.toNat ab==aa b) B:=by
 have m:=h.len;have wl:(wth es b ord).length<=ord.length:=gW _ _;have(d,e,ks,rfl,g,h2,i):=UV f hz (wth es b ord) (by lia) (h.nd.sublist nU) lack;show(ks,e,λk j=>?_,by lia,λe' ha=>?_)
 .have(a,c):=Dl.mp (g k j);show(h.nn k a,by rw[c];grind)
 .show Int.le_trans (i (by rw[UX h f b];show l)) (lz λz hz=>((f z hz).2.2,λq=>?_));have q:=of_decide_eq_true q;rw[beq_iff_eq,ha.2 _ q];show(Dl.mp (g _ q)).2
def vY{P:LOB->Prop}(h:0<=t/\t<(es.length:Int))(a:es.getD t.toNat ab=aa b)(k:∀e':LOB,e'.getD t.toNat ab=aa b->P e'):vW es [t] P:=(λx c=>by rw[bw.mp c];show⟨h,by rw[a];show λe=>nomatch e⟩,(by decide:1<=60),λe' ha=>k e' ((ha.2 t az).trans a))
def vZ{k:Int}(e:LOB):bY (λt=>!(e.getD t.toNat ab==aa af)) B<=k↔bY (λ_=>ac) B-k<=bY (λt=>e.getD t.toNat ab==aa af) B:=by
 have:=Jb (λt=>e.getD t.toNat ab==aa af) B;lia
def sure_by(p:Prt)(c:p.Ok es.length)(h:gT es ord)(hn:es.length<=60)(d:p.sure es=ac)(a:fo M=aa p.obj)(ha:fa M=aa [.lst (es.map shD),.lst (ord.map D.int)]):
  ∃ks:LI0,be (aM "In" "sure_by" Bx fo fa) (be (aM "Out" "sure_by" BG fo fa) (be (aM "Least" "sure_by" BB fo fa) (aM "Most" "sure_by" BE fo fa))) M=aa (.lst (ks.map D.int))/\vW es ks λe'=>p.sure e'=ac:=by
 have f:=h.len
 cases p with
 |inn t=>show([t],dN ((cy a rfl ha).trans rfl),vY c (beq_iff_eq.mp d) λe' q=>beq_iff_eq.mpr q)
 |out t=>show([t],bC (bD a (by decide)) (dN ((cy a rfl ha).trans rfl)),vY c (beq_iff_eq.mp d) λe' q=>beq_iff_eq.mpr q)
 |least k B=>
  have(ks,e,b):=vX h hn c.1 c.2 ac k (of_decide_eq_true d)
  show(ks,bC (bD a (by decide)) (bC (bD a (by decide)) (dN ((cy a rfl ha).trans (dB (dA (aE (ao rfl (ao (aE rfl (vV h.nn (by lia) ac)) (ao rfl rfl))) e)))))),b.nn,b.ln,λe' q=>decide_eq_true (b.ok e' q))
 |most k B=>
  have(ks,e,b):=vX h hn c.1 c.2 af _ ((vZ es).mp (of_decide_eq_true d));show(ks,bC (bD a (by decide)) (bC (bD a (by decide)) (bC (bD a (by decide)) ((cy a rfl ha).trans (dB (dA (aE (ao rfl (ao (aE rfl (vV h.nn (by lia) af)) (ao (ap (aE rfl (Jc B c.2)) rfl lG) rfl))) e)))))),b.nn,b.ln,λe' q=>decide_eq_true ((vZ e').mpr (b.ok e' q)))
def UY(p:Prt)(c:p.Ok es.length)(m:wo.length=es.length)(h:gT es ord)(hn:es.length<=60)(d:p.lost es wo=ac)(a:fo M=aa p.obj)(ha:fa M=aa [.lst (es.map shD),.lst (wo.map D.bl),.lst (ord.map D.int)]):
  ∃ks:LI0,be (aM "In" "lost_by" BI fo fa) (be (aM "Out" "lost_by" BP fo fa) (be (aM "Least" "lost_by" BL fo fa) (aM "Most" "lost_by" BN fo fa))) M=aa (.lst (ks.map D.int))/\vW es ks λe'=>p.lost e' wo=ac:=by
 have r:=h.len
 cases p with
 |inn t=>
  have f:=jK c.1 (by rw[m];show c.2);have d:(_ || wo.getD t.toNat af)=ac:=d
  cases g:wo.getD t.toNat af with
  |true=>
   rw[g]at f
   show([],dN ((cy a rfl ha).trans (dB (dA (lE (dh (bg rfl rfl f) rfl) (λ_=>rfl) λe=>nomatch e)))),(λk q=>nomatch q),cj _,λe' _=>by change(_ || wo.getD t.toNat af)=ac;rw[g];show p9 _)
  |false=>
   rw[g]at f;rw[g,sN]at d
   show([t],dN ((cy a rfl ha).trans (dB (dA (lE (dh (bg rfl rfl f) rfl) (λe=>nomatch e) λ_=>rfl)))),vY c (beq_iff_eq.mp d) λe' q=>by change(_ || _)=ac;rw[q];rfl)
 |out t=>show([t],bC (bD a (by decide)) (dN ((cy a rfl ha).trans rfl)),vY c (beq_iff_eq.mp d) λe' q=>beq_iff_eq.mpr q)
 |least k B=>
  have n:=gW (λz:Int×Int=>!(wo.getD z.1.toNat af)) B;have i:InN es.length (B.filter λz=>!(wo.getD z.1.toNat af)):=λz hz=>c.1 z (ci.mp hz).1;have j:∀e':List _,bY _ B=_:=λe'=>(EU (λt=>!(e'.getD t.toNat ab==aa af)) (λt=>!(wo.getD t.toNat af)) B).symm;have l:=HP c.1 m c.2;have d:=of_decide_eq_true d;rw[j]at d;generalize B.filter _=left at n i j l d;have(ks,e,b):=vX h hn i (by have:=c.2;lia) af (bY (λ_=>ac) left-k+1) (by have:=(vZ es).mp (by lia:bY _ left<=k-1);lia);show(ks,bC (bD a (by decide)) (bC (bD a (by decide)) (dN ((cy a rfl ha).trans ?_))),b.nn,b.ln,λe' q=>decide_eq_true ?_)
  .show dB (ur (FG (aE rfl l)) (dA (aE (ao rfl (ao (aE rfl (vV h.nn (by lia) af)) (ao (ap (ap (aE rfl (Jc left (by have:=c.2;lia))) rfl lG) rfl gj) rfl))) e)))
  .rw[j];have:=b.ok e' q;have:=(vZ (k:=k-1) (B:=left) e').mpr (by lia)
   lia
 |most k B=>
  have(ks,e,b):=vX h hn c.1 c.2 ac _ (of_decide_eq_true d);show(ks,bC (bD a (by decide)) (bC (bD a (by decide)) (bC (bD a (by decide)) ((cy a rfl ha).trans (dB (dA (aE (ao rfl (ao (aE rfl (vV h.nn (by lia) ac)) (ao (ap rfl rfl gj) rfl))) e)))))),b.nn,b.ln,λe' q=>decide_eq_true (b.ok e' q))
structure pU(es:LOB)(gs:LI0)(P:LOB->Prop):Prop where
 nn:∀k∈gs,(0<=k/\k<(es.length:Int))/\es.getD k.toNat ab≠ab
 ln:gs.length<=100000
 ok:∀e',Agr gs es e'->P e'
variable{ys:LI0}{e':LOB}
def Agr.left{C:LI0}(h:Agr (C++ys) es e'):Agr C es e':=(h.1,λk a=>h.2 k (bT _ a))
def Agr.right{C:LI0}(h:Agr (C++ys) es e'):Agr ys es e':=(h.1,λk a=>h.2 k (cg _ a))
def UZ{a:Type}(y:a)(l:List a):((y::l).drop (HT.sIx (y::l).length 0 ab)).take (HT.sIx (y::l).length (y::l).length (aa 1)-HT.sIx (y::l).length 0 ab)=[y]:=by
 rfl
variable{es0:LOB}{b c:L2.D}
def U0(hl:es.length=n)(hn:n<=60)(hm:eY n ms)(pm:ms.Perm (fF L))(h:gT es ord)(m:GpR n L es ks):
  ∃gs:LI0,o_9 [slf es0 a b c d e C ms,.lst (es.map shD),.lst (ks.map D.int),.lst (ord.map D.int)]=aa (gs.map D.int)/\pU es gs λe'=>GpR n L e' ks:=by
 subst hl;have ol:=h.len;have kl:=sm m.nd m.nn;have hml:=hm.len
 suffices z:wp b_9 _ (λr=>∃gs:LI0,r=.rtO (gs.map D.int)/\pU es gs λe'=>GpR es.length L e' ks) by
  have(r,e,gs,rfl,h):=z;show(gs,mZ e,h)
 apply ak;show bo (aE (ao (aE rfl (d9 es shD)) (ao rfl rfl)) (HM es.length ks (by lia) (by lia) (by lia))) ?_;apply ak;have B:∀t:Int,0<=t->t<_->atI ((mkS es.length ks).map D.bl) t=aa _:=λt t0 t1=>jK t0 (by rw[pS];show t1);show dO (o7 (bR (eR ord D.int _ D.int rfl (by lia) λt T=>dM rfl (jI (dh (bg rfl rfl (B t (h.nn t T).1 (h.nn t T).2)) rfl) (bB (ap (bg rfl rfl (je (h.nn t T).1 (h.nn t T).2)) rfl (oV _ _)))) λ_=>rfl)) rfl rfl) ?_
 obtain⟨g,gl,hg0,I⟩:∃g gl,(ord.filter λt=>(mkS es.length ks).getD t.toNat af && (es.getD t.toNat ab==aa ac))=g::gl/\g∈ord/\g∈ks/\es.getD g.toNat ab=aa ac:=by
  have(x,U,ex):=m.i;have(x0,x1):=m.nn x U;have H:x∈ord.filter λt=>(mkS es.length ks).getD t.toNat af && (es.getD t.toNat ab==aa ac):=ci.mpr (h.al x x0 x1 (by rw[ex];show λq=>nomatch q),by rw[(lS x0 x1).mpr U,ex];rfl)
  cases j:ord.filter _ with
  |nil=>rw[j]at H;nomatch H
  |cons y l=>
   have hy:y∈ord.filter λt=>(mkS es.length ks).getD t.toNat af && (es.getD t.toNat ab==aa ac):=by rw[j];show az
   have(y1,y2):=ci.mp hy;have(y2,y3):=(cB _ _).mp y2;have(z0,z1):=h.nn y y1;show(y,l,rfl,y1,(lS z0 z1).mp y2,beq_iff_eq.mp y3)
 rw[hg0,UZ];apply ak;show dD ms mkD (λpre M=>∃(gs:LI0) (v6 v7:Sl),M=[.im _,.im _,.im _,.im _,.im _,.own (gs.map D.int),v6,v7]/\(∀k∈gs,(0<=k/\k<_)/\es.getD k.toNat ab≠ab)/\gs.length<=1+60*pre.length/\g∈gs/\∀r∈pre,r.hd∈ks->∀e',Agr gs es e'->r.bodyLost e' (mkS es.length ks)=ac) rfl ⟨[g],_,_,rfl,(λk u=>by rw[bw.mp u];show⟨h.nn g I.1,by rw[I.2.2];show λq=>nomatch q⟩),aL _,az,λr hr=>nomatch hr⟩ ?_ ?_
 .rintro pre r post M ex ⟨gs,v6,v7,rfl,J,h2,N,Q⟩;have w:r∈ms:=by rw[ex];simp
  have hpl:pre.length<ms.length:=by rw[ex];simp
  have A:=hm.ok r w;have(Y,d1):=A.hd (hm.ne r w);show(_,rfl,?_);show aY (dh (bg rfl rfl (B r.hd Y d1)) rfl) (λz=>?_) λz=>?_
  .have u:=(lS Y d1).mp z
   cases j:r.ps.find? _ with
   |none=>
    have:=CS (es:=es) (wo:=mkS es.length ks) r;rw[j,(m.up r (pm.mem_iff.mp w) u)]at this
    nomatch this
   |some p=>
    have G:=wA j;have E:=CQ (wo:=mkS es.length ks) r.ps A.ps (pS _ _);rw[j]at E;have(js,e1,e2):=UY (M:=[.im _,.im _,.im _,.im _,.im _,.own _,.im _,.im _]) (fo:=av m_5 (ag (ae 7) (ag (ae 1) (ag (ae 4) λ_=>aa [])))) (fa:=ag (ae 1) (ag (ae 4) (ag (ae 3) λ_=>aa []))) p (A.ps p G) (pS _ _) h hn (find?_some j) (aE rfl E) rfl;have:=e2.ln;show(_,CM e1 rfl (by rw[aA,aA];lia),gs++js,_,_,by rw[a9];rfl,λk u=>?_,?_,bT _ N,λr' v f e' ha=>?_)
    .rcases bu.mp u with q |q
     .show J k q
     .show e2.nn k q
    .simp only[aR,aR,fZ];lia
    .rcases bu.mp v with q |q
     .show Q r' q f e' ha.left
     .rw[bw.mp q];show any_eq_true.mpr (p,G,e2.ok e' ha.right)
  .show b5 (gs,_,_,rfl,J,by rw[aR];lia,N,λr' v f=>?_)
   rcases bu.mp v with q |q
   .show Q r' q f
   .rw[bw.mp q]at f;rw[(lS Y d1).mpr f]at z
    nomatch z
 .rintro M ⟨gs,v6,v7,rfl,J,h2,N,Q⟩;show mY rfl (gs,rfl,J,by lia,λe' ha=>(λx U=>m.nn x U,m.nd,(g,I.2.1,by rw[ha.2 g N];show I.2.2),λr hr u=>Q r (pm.mem_iff.mpr hr) u e' ha))
def U1{bs:LLP}(hr:∀r∈L,RuK n r)(a:∀b∈bs,cT n b)(hn:n<=60)(y:Wy):(bN L bs y).length<=1001:=by
 have(z,j):=y
 cases z with
 |true=>
  change(brg (bs.getD j [])).length<=_;unfold brg;rw[aA];have:=(Dc a j).len
  lia
 |false=>
  change(((L[j]?).map grd).getD []).length<=_
  cases e:L[j]? with
  |none=>show cj _
  |some r=>show CN (hr r (dH e))
def U2{bs:LLP}(H:es.length=n)(hn:n<=60)(hr:∀r∈L,RuK n r)(G:∀b∈bs,cT n b)(hm:eY n ms)(pm:ms.Perm (fF L))(h:gT es ord)(l:Rt n L bs es w):
  ∃gs:LI0,o_4 [slf es0 a b (gdT L bs) d e C ms,.lst (es.map shD),w.D,.lst (ord.map D.int)]=aa (gs.map D.int)/\pU es gs λe'=>Rt n L bs e' w:=by
 suffices z:wp b_4 _ (λr=>∃gs:LI0,r=.rtO (gs.map D.int)/\pU es gs λe'=>Rt n L bs e' w) by
  have(r,e,gs,rfl,h):=z;show(gs,mZ e,h)
 cases w with
 |ch=>show l.elim
 |wd i=>
  apply ak;show jm (P1 (ao (aE rfl (d9 es shD)) rfl) (by lia) (by lia)) (_,rfl,λk c=>?_,by rw[aA,cV];lia,λe' ha k c=>?_)
  .have(j,m,rfl):=aJ.mp c;have:=fI.mp m;show((by lia,by lia),by rw[dF];show l j (by lia))
  .have:=ha.2 _ (aJ.mpr (k,fI.mpr (by lia),rfl));rw[dF]at this;rw[this]
   show l k c
 |gp ks=>
  have(gs,u,f):=U0 H hn hm pm h l;apply ak;show aY rfl (λz=>nomatch z) λ_=>b5 ?_;apply ak;show jm ?_ (gs,rfl,f);change(if "Seeking"="Seeking" /\ List.contains (spN++(["paper","count","ended"]:LSt)) "grounds_of_group"=af then (o_9 [slf es0 a b _ d e C ms,_,_,_]).bind λL=>if L.all D.flat then aa L else ab else ab)=_
  rw[if_pos (rfl,rfl),u,ay,if_pos (all_eq_true.mpr λd hd=>by have(z,_,rfl):=aJ.mp hd;rfl)]
 |gd y=>
  have(I,Q):=l;have J:=U1 hr G hn y;have ne:∀t:Str,(wyS y.1==t)=af->mB (m2 dEq (mIx (aw 2) (kI 0)) (λ_=>aa _)) (fR 6 [slf es0 a b (gdT L bs) d e C ms,.lst (es.map shD),(Wh.gd y).D,.lst (ord.map D.int)])=aa af:=λt T=>bB (ap rfl rfl (by rw[qT,T]));apply ak
  show aY (ne "world" (by cases y.1 <;> decide)) (λz=>nomatch z) λ_=>b5 ?_
  apply ak
  show aY (ne "group" (by cases y.1 <;> decide)) (λz=>nomatch z) λ_=>b5 ?_
  apply ak;show dO rfl ?_;apply ak;show dD _ Prt.obj (λpre M=>∃(gs:LI0) (E:Sl),M=[.im _,.im _,.im _,.im _,.own (gs.map D.int),E]/\(∀k∈gs,(0<=k/\k<es.length)/\es.getD k.toNat ab≠ab)/\gs.length<=60*pre.length/\∀p∈pre,∀e',Agr gs es e'->p.sure e'=ac) (eS (d:=gdD L bs y) ?_ rfl) ⟨[],_,rfl,(λk c=>nomatch c),aL _,λp A=>nomatch A⟩ ?_ ?_
  .have(j,m):=nR I;change(aT (wyK y) _).bind _=_;simp only[C6 (λ_ _=>C0) (ID _ _) m,ay,cH,m];rfl
  .rintro pre p post M ex ⟨gs,E,rfl,v,h2,x⟩;have g:p∈bN L bs y:=by rw[ex];simp
   have N:pre.length<(bN L bs y).length:=by rw[ex];simp
   show(_,rfl,?_);walk_at "nrm";have(js,u,f):=sure_by (M:=[.im _,.im _,.im (Wh.gd y).D,.im _,.own _,.im p.obj]) (fo:=ae 5) (fa:=ag (ae 1) (ag (ae 3) λ_=>aa [])) p (by rw[H];show(nK hr G) p g) h (by lia) (Q p g) rfl rfl;have:=f.ln;show(_,CM u rfl (by rw[aA,aA];lia),gs++js,_,by rw[a9];rfl,λk c=>?_,?_,λU B e' ha=>?_)
   .rcases bu.mp c with q |q
    .show v k q
    .show f.nn k q
   .rw[aR,aR,fZ];lia
   .rcases bu.mp B with q |q
    .show x U q e' ha.left
    .rw[bw.mp q];show f.ok e' ha.right
  .rintro M ⟨gs,E,rfl,v,h2,x⟩;show mY rfl (gs,rfl,v,by lia,λe' ha=>(I,λp A=>x p A e' ha))
def U3{a b c:LOB}(f:cM a b)(g:cM b c):cM a c:=(g.len.trans f.len,λi=>by
 rcases f.at' i with q |q
 .grind
 .rcases g.at' i with z |z
  .grind
  .grind)
def iO{bs:LLP}:∀(C:LSp) {st:LSp},Tr n L bs (C++st)->Tr n L bs st/\cM (aW n st) (aW n (C++st))/\∀x∈C,(aW n st).getD x.1.1.toNat ab=ab
 | [],st,h=>⟨h,cM.refl _,λx b=>nomatch b⟩
 |y::C,st,h=>by
  have(d,h2):=h;have(a,f,c):=iO C d;show(a,U3 f (vR h2.t0 h2.op),λx b=>?_)
  rcases aZ.mp b with e |e
  .rw[e]
   rcases f.at' y.1.1.toNat with q |q
   .lia
   .rw[<- q];show iM h2.op
  .grind
def Dn{bs:LLP}:∀{st:LSp},Tr n L bs st->∀t:Int,0<=t->(aW n st).getD t.toNat ab≠ab->∃x∈st,x.1.1=t
 | [],_,t,_,h=>absurd (by
   change(gX n ab).getD t.toNat ab=ab;rw[bH,nQ]
   split <;> rfl) h
 |x::st,h,t,t0,hs=>by
  by_cases e:x.1.1=t
  .grind
  .have:=h.2.t0;rw[aW,cZ _ _ (by lia)]at hs;have(y,a,e):=Dn h.1 t t0 hs
   grind
variable{x:Stp}
def v8{bs:LLP}{C:LSp}(h:Tr n L bs (C++x::st)):(aW n (C++x::st)).getD x.1.1.toNat ab=aa x.1.2:=by
 have(a,f,_):=iO C h;have:=a.2.t0;have:=a.2.t1;have e:(aW n (x::st)).getD x.1.1.toNat ab=aa x.1.2:=eU _ _ (by rw[eZ];lia)
 rcases f.at' x.1.1.toNat with q |q
 .grind
 .grind
def nM{bs:LLP}:∀{st:LSp},Tr n L bs st->(st.map (·.1.1)).Nodup
 | [],_=>fJ
 |x::st,h=>by
  show b7.mpr (λq=>?_,nM h.1);have(y,a,e):=aJ.mp q;have(p,r,rfl):=lZ a;have:=v8 h.1;rw[e,iM h.2.op]at this
  grind
def jx{bs:LLP}(h:Tr n L bs st)(b:x∈st):0<=x.1.1/\x.1.1<(n:Int):=by
 have(p,r,rfl):=lZ b;have(a,_,_):=iO p h;show(a.2.t0,a.2.t1)
abbrev nN(st:LSp):LI0:=st.reverse.map (·.1.1)
def Jd{bs:LLP}(h:Tr n L bs st)(c:es.length=n)(d:∀t:Int,0<=t->es.getD t.toNat ab≠ab->(aW n st).getD t.toNat ab≠ab):gT es (nN st):=by
 subst c;unfold nN;show(λt a=>?_,?_,λt t0 t1 a=>?_)
 .have(x,b,rfl):=aJ.mp a;show jx h (e9.mp b)
 .rw[l7];show pairwise_reverse.mpr ((nM h).imp λq e=>q e.symm)
 .have(x,b,e):=Dn h t t0 (d t t0 a)
  grind
abbrev nfF(nd:LB0)(ord:LI0):LI0:=(ord.filter λt=>nd.getD t.toNat af)++ord.filter λt=>!nd.getD t.toNat af
def U4{nd:LB0}(b:∀t∈ord,0<=t/\t<(nd.length:Int))(d:ord.length<=1000):vi [.lst (ord.map D.int),.lst (nd.map D.bl)]=aa (.lst ((nfF nd ord).map D.int)):=by
 have c:=gW (λt:Int=>nd.getD t.toNat af) ord;have h2:=gW (λt:Int=>!nd.getD t.toNat af) ord;show lx ?_;unfold nfF;rw[a9];show congrArg _ (CF (bR (eR ord D.int _ D.int rfl (by lia) λt a=>dM rfl (dh (bg rfl rfl (jK (b t a).1 (b t a).2)) rfl) λ_=>rfl)) (bR (eR ord D.int _ D.int rfl (by lia) λt a=>dM rfl (oU (dh (bg rfl rfl (jK (b t a).1 (b t a).2)) rfl)) λ_=>rfl)) (by grind))
def gT.nf(h:gT es ord)(nd:LB0):gT es (nfF nd ord):=by
 have p:(nfF nd ord).Perm ord:=filter_append_perm _ _;show(λt a=>h.nn t (p.mem_iff.mp a),p.nodup_iff.mpr h.nd,λt t0 t1 a=>p.mem_iff.mpr (h.al t t0 t1 a))
nonrec def Ls:=Option Pr×Wh
abbrev sF(n:Nat)(L:LRu)(bs:LLP):LOB->List Ls->Prop
 | _,[]=>False
 |u,x::l=>match x.1 with
  |none=>l=[]/\Rt n L bs u x.2
  |some z=>opn u z.1=ac/\Rt n L bs (put u z.1.toNat (!z.2)) x.2/\sF n L bs (put u z.1.toNat z.2) l
abbrev prO:Option Pr->D
 |none=>.non
 |some z=>prD z
abbrev dnD(x:Ls):D:=.tup [prO x.1,x.2.D]
structure LnS where
 nd:LB0
 bar:List Pr
 dn:List Ls
 post:LSp
abbrev chs(st:LSp):List Pr:=(st.filter λx=>!x.2.nc).map (·.1)
structure LnI(n:Nat)(L:LRu)(bs:LLP)(st pre:LSp)(q:LnS):Prop where
 sp:st=pre++q.post
 nl:q.nd.length=n
 bl:q.bar.Sublist (chs pre)
 dl:q.dn.length<=pre.length+1
 dt:∀x∈q.dn,∀z,x.1=aa z->∃y∈pre,y.1=z/\y.2=x.2/\y.2.nc=ac
 rl:∀u:LOB,u.length=n->(∀t:Int,0<=t->t<(n:Int)->q.nd.getD t.toNat af=ac->(aW n q.post).getD t.toNat ab≠ab->u.getD t.toNat ab=(aW n q.post).getD t.toNat ab)->(∀z∈q.bar,u.getD z.1.toNat ab=aa z.2)->(∀x∈q.dn,∀z,x.1=aa z->opn u z.1=ac)->sF n L bs u q.dn.reverse
def pV(h:z∈chs st):∃x∈st,x.1=z/\x.2.nc=af:=by
 have(x,a,e):=aJ.mp h
 grind
def Je(st:LSp):(chs st).length<=st.length:=by
 unfold chs
 grind
abbrev orS(nd:LB0)(gs:LI0):LB0:=gs.foldl (λnd g=>nd.set g.toNat ac) nd
def Do:∀(gs:LI0) (nd:LB0),(orS nd gs).length=nd.length
 | [],_=>rfl
 |g::gs,nd=>by
  change(orS _ gs).length=_;rw[Do gs,il]
def Dr{t:Int}(t0:0<=t):∀(gs:LI0) (nd:LB0),t<(nd.length:Int)->(nd.getD t.toNat af=ac\/t∈gs)->(orS nd gs).getD t.toNat af=ac
 | [],_,_,h=>h.elim id λq=>nomatch q
 |g::gs,nd,hl,h=>by
  show Dr t0 gs _ (by rw[il];show hl) ?_
  by_cases e:t=g
  .show .inl ?_;rw[bH,<- e,jV (by lia)];rfl
  .rcases h with q |q
   .show .inl ?_;rw[bH,List.getElem?_set];split
    .split
     .rfl
     .lia
    .rw[<- bH];show q
   .show .inr (by rcases aZ.mp q with z |z;show absurd z e;show z)
def sG{u:LOB}(h:u.getD t.toNat ab=ab):opn u t=ac:=by unfold opn;rw[h];rfl
variable{pre post:LSp}{q:LnS}
def LnI.no{bs:LLP}(h:LnI n L bs st pre q)(e:q.post=x::post)(tr:Tr n L bs (x::post))(hn:q.nd.getD x.1.1.toNat af=af):LnI n L bs st (pre++[x]) {q with post:=post}:=by
 show(by rw[h.sp,e,cI];rfl,h.nl,?_,by rw[aR];have:=h.dl;change q.dn.length<=_+1+1;lia,λy g z b=>?_,λu i ha c d=>h.rl u i (λt t0 t1 hd a=>?_) c d)
 .show h.bl.trans ?_;unfold chs;rw[kL,a9];show wB _ _
 .have(w,f,k):=h.dt y g z b;show(w,bT _ f,k)
 .have ne:t≠x.1.1:=λq=>by rw[q,hn]at hd;nomatch hd
  rw[e,aW,cZ _ _ (by lia)]at a ⊢;show ha t t0 t1 hd a
def LnI.ch{bs:LLP}(h:LnI n L bs st pre q)(e:q.post=x::post)(tr:Tr n L bs (x::post))(g:x.2.nc=af):LnI n L bs st (pre++[x]) {q with bar:=q.bar++[x.1],post:=post}:=by
 have l:=tr.2.t0;show(by rw[h.sp,e,cI];rfl,h.nl,?_,by rw[aR];have:=h.dl;change q.dn.length<=_+1+1;lia,λy i z c=>?_,λu j ha a d=>h.rl u j (λt t0 t1 hd b=>?_) (λz hz=>a z (bT _ hz)) d)
 .unfold chs;rw[kL,a9,qb (by rw[g];rfl)];show h.bl.append (qf _)
 .have(w,f,k):=h.dt y i z c;show(w,bT _ f,k)
 .by_cases ne:t=x.1.1
  .rw[e,ne,a x.1 (cg _ az)];show(eU _ _ (by rw[eZ];lia)).symm
  .rw[e,aW,cZ _ _ (by lia)]at b ⊢;show ha t t0 t1 hd b
variable{gs:LI0}
def LnI.nc{bs:LLP}(h:LnI n L bs st pre q)(e:q.post=x::post)(tr:Tr n L bs st)(M:x.2.nc=ac)(G:pU (put (aW n post) x.1.1.toNat (!x.1.2)) gs λe'=>Rt n L bs e' x.2):LnI n L bs st (pre++[x]) (orS q.nd gs,q.bar,q.dn++[(aa x.1,x.2,)],post):=by
 have p:Tr n L bs (x::post):=by
  rw[h.sp,e]at tr;show(iO pre tr).1
 have N:=p.2.t0
 have d:=λy a i=>by
  have:=nM tr;rw[h.sp,e,a9]at this;show(e8.mp this).2.2 y.1.1 (aJ.mpr (y,a,rfl)) x.1.1 az i
 have pr:∀y∈pre,0<=y.1.1:=λy a=>(jx tr (by rw[h.sp];show bT _ a)).1;show(by rw[h.sp,e,cI];rfl,(Do _ _).trans h.nl,?_,by rw[aR,aR];have:=h.dl;change _+1<=_+1+1;lia,λy a z b=>?_,λu I ha J E=>?_)
 .show h.bl.trans ?_;unfold chs;rw[kL,a9];show wB _ _
 .rcases bu.mp a with m |m
  .have(w,j,k):=h.dt y m z b;show(w,bT _ j,k)
  .cases bw.mp m;cases b;show(x,cg _ az,rfl,rfl,M)
 .have ne:∀t:Int,0<=t->t≠x.1.1->∀c,(put u x.1.1.toNat c).getD t.toNat ab=u.getD t.toNat ab:=λt t0 q c=>cZ u c (by lia);have nl:=h.nl;rw[lX];show((E _ (cg _ az) x.1 rfl),G.ok _ (by simp only[b9,b9,I,eZ],λg f=>?_),h.rl _ (by rw[b9];show I) (λt t0 t1 hd H=>?_) (λz hz=>?_) λy a z b=>?_)
  .have((l,B),C):=G.nn g f;rw[b9,eZ]at B
   by_cases r:g=x.1.1
   .rw[r,eU _ _ (by lia),eU _ _ (by rw[eZ];lia)]
   .rw[ne g l r,cZ _ _ (by lia)];rw[cZ _ _ (by lia)]at C;show ha g l B (Dr l gs _ (by lia) (.inr f)) C
  .by_cases v:t=x.1.1
   .rw[e,v,eU _ _ (by lia)];show(eU _ _ (by rw[eZ];lia)).symm
   .rw[e,aW,cZ _ _ (by lia)]at H;rw[ne t t0 v,e,aW,cZ _ _ (by lia)];show ha t t0 t1 (Dr t0 gs _ (by lia) (.inl hd)) H
  .have(y,a,i,_):=pV (h.bl.subset hz);rw[<- i,ne _ (pr y a) (d y a),i];show J z hz
  .have(w,j,A,_):=h.dt y a z b;show sG ?_;rw[<- A,ne _ (pr w j) (d w j),A];show iM (E y (bT _ a) z b)
def Jf{b E w:Type}{g:D->LS->Option LS}{F:MF3}(f:b->D)(R:E->w->LS->Prop)(J:List b->E->Prop)(all:List b)
 (step:∀pre x post s,all=pre++x::post->J pre s->∃a,J (pre++[x]) a/\∀l M,R s l M->∃ρ1,g (f x) M=aa ρ1/\wp F ρ1 λr=>∃ρ',r=.nx ρ'/\R a l ρ'):∀(C pre:List b) (s:E),all=pre++C->J pre s->∃a,J all a/\∀l M,R s l M->∃ρ',iE g F (C.map f) M=aa (.nx ρ')/\R a l ρ'
 | [],pre,s,e,h=>(s,by rw[e,bQ];show h,λl M r=>(M,rfl,r))
 |x::C,pre,s,e,h=>by
  have(s1,n,p):=step pre x C s e h;have(s2,h2,q):=Jf f R J all step C _ s1 (by rw[e,cI];rfl) n;show(s2,h2,λl M r=>?_);have(ρ1,i,o,j,c,rfl,u):=p l M r;have(d,m,v):=q l c u;show(d,?_,v);rw[bF,iE,i,ay,j];show m
def Ds{cn f:Str}{F:MF3}(h:aU cn f (aH i) M=aa (lsO ds,R,))(k:wp F (M.set i (.deep (R (.fz (.lst ds))))) K):wp (nu i cn f F) M K:=by
 have(o,e,q):=k;show(o,by unfold nu;rw[h,ay,vH,ay];show e,q)
abbrev Spt.F(L:LRu)(s:Spt):O:=iK (s.S L).tl [lsO (s.es.map shD),.fz (.lst s.st),lsO (s.bs.map eC),.dT (s.S L).gk ((s.S L).gd.map .fz),wsO (wtW s.tw),lsO (s.wt.map wyD),.fz (.lst (s.ms.map mkD))]
def U5:cF 0 (.deep (.at l (s.F L))::M)=aa (s.D L):=by
 have k:(s.F L).kn=ac:=by
  dsimp only[Spt.F,Spt.S,lsO,wsO];simp only[List.map,kM,nX,O.kn,O.kns,rV,p7];show Dg _
 have d:(s.F L).toD=s.D L:=by
  dsimp only[Spt.D,Spt.F,Spt.S,Spr.o];simp only[lsO,O.toD,O.toDs,xX,kM]
 change(if (O.at l _).kn=ac then aa (O.at l _).toD else ab)=_;rw[O.kn,k,if_pos rfl,O.toD,d]
def Jg(a:w≠.ch):rO [w.D]=aa w.D:=by
 cases w with
 |ch=>show absurd rfl a
 |wd i=>rfl
 |gp ks=>rfl
 |gd y=>show dB (dA (lE (b:=af) (bB (ap rfl rfl (by rw[qT,show(wyS y.1 == "group")=af by cases y.1 <;> decide]))) (λe=>nomatch e) λ_=>rfl))
variable{b:Bool}
def Jh{k:Nat}(h:es.getD k ab=ab)(a:k<es.length):((put es k b).map shD).set k .non=es.map shD:=by
 unfold put;rw[gY,set_set];show ni ?_;rw[bH,b6 a]at h;have h:es[k]=ab:=h;rw[cH,b6 a,h];rfl
def U6{k:Nat}{c:Bool}:((put es k b).map shD).set k (.bl c)=(put es k c).map shD:=by
 unfold put;rw[gY,set_set,gY];rfl
def Ji(a:fo M=aa (s.D L))(ha:fa M=aa [.lst (es.map shD),w.D,.lst (ord.map D.int)])(h:o_4 [s.D L,.lst (es.map shD),w.D,.lst (ord.map D.int)]=aa (gs.map D.int)):ie "Seeking" "grounds" o_4 fo fa M=aa (gs.map D.int):=by
 unfold ie;rw[a,ay];rw[vP L s]at h ⊢;change(if "Seeking"="Seeking" /\ List.contains (spN++(["paper","count","ended"]:LSt)) "grounds"=af then (fa M).bind λas=>(o_4 (slf s.es _ _ _ _ _ _ s.ms::as)).bind λL=>if L.all D.flat then aa L else ab else ab)=_;rw[if_pos (rfl,rfl),ha,ay,h,ay,if_pos (all_eq_true.mpr λd hd=>by have(z,_,rfl):=aJ.mp hd;rfl)]
variable{c:Nat}
def ground(hr:∀r∈L,RuK n r)(hz:L.length<=1000)(hn:n<=60)(h:SpJ n c V3 L s)(a:es.length=n)(b:gT es ord)(d:Rt n L s.bs es w):∃gs:LI0,o_4 [s.D L,.lst (es.map shD),w.D,.lst (ord.map D.int)]=aa (gs.map D.int)/\pU es gs λe'=>Rt n L s.bs e' w:=by
 rw[vP];show U2 a hn hr h.bk (eY.of hr hz h.ms) h.ms b d
structure jy(n:Nat)(L:LRu)(bs:LLP)(st:LSp)(bar:List Pr)(dn:List Ls):Prop where
 bl:bar.Sublist (chs st.reverse)
 dl:dn.length<=n+1
 dt:∀x∈dn,∀z,x.1=aa z->∃y∈st,y.1=z/\y.2=x.2/\y.2.nc=ac
 rl:∀u:LOB,u.length=n->(∀z∈bar,u.getD z.1.toNat ab=aa z.2)->(∀x∈dn,∀z,x.1=aa z->opn u z.1=ac)->sF n L bs u dn
def sH(h:Tr n L s.bs st):st.length<=n:=by
 have:=sm (nM h) λx a=>by
  have(y,b,rfl):=aJ.mp a;show jx h b
 rwa [aA]at this
def U7(hr:∀r∈L,RuK n r)(hz:L.length<=1000)(hn:n<=60)(h:SpJ n c V3 L s)(t:TrS n L s st)(hw:Rt n L s.bs s.es w):∃(bar:List Pr) (dn:List Ls),(∀l,B0 l [w.D] (s.S L).o=aa (s.F L,.tup [eC bar,.lst (dn.map dnD)],))/\jy n L s.bs st bar dn:=by
 have hwc:w≠.ch:=λe=>by rw[e]at hw;show hw
 have tr:=t.tr;have tl:=sH tr;have Y:=t.es;have A:=eZ n st;have B:=Jd tr A λ_ _ q=>q;have hol:=B.len;rw[Y]at hw;have(gs,e1,e2):=ground hr hz hn h A B hw;have hgl:=e2.ln
 have key:=Jf (g:=cY (bp (ax 3) (bp (ax 4) da))) (F:=(ai (aX 9 (mIx (aw 3) (kI 0)))
  (ai (bi (dC (bK (mIx (aw 6) (ae 9))) (mB (m2 dIs (ae 4) kN))) (c8 7 (ae 3)) (bi (bK (mIx (aw 6) (ae 9))) (ai (c8 8 (bn (ag (ae 3) (ag (av rO (ag (ae 4) nZ)) nZ))))
  (ai (gi 2 (ae 9) (mN (mIx (aw 3) (kI 1))))
  (bZ (aV (aO (ie "Seeking" "grounds" o_4 _ (ag (cF 2) (ag (ae 4) (ag (av vi (ag (ae 5) (ag (cF 6) nZ))) nZ)))))) (ax 10) (gi 6 (ae 10) (kBl ac))))) bM))
  (gi 2 (ae 9) kN)))) stD (λq l M=>∃Q T U j,M=[.deep (.at l (s.F L)),.im w.D,.own ((aW n q.post).map shD),Q,T,.im (.lst ((nN st).map D.int)),.own (q.nd.map D.bl),.own (q.bar.map prD),.own (q.dn.map dnD),U,j]) (LnI n L s.bs st) st (by
  rintro pre x post q ex y;have C:=append_cancel_left (y.sp.symm.trans ex);have p:Tr n L s.bs (x::post):=by rw[ex]at tr;show(iO pre tr).1
  have x0:=p.2.t0;have x1:=p.2.t1;have hpn:=iM p.2.op;have E:=eZ n post;have I:=y.nl;have m:=jK x0 (by rw[I];show x1);have hun:=Jh (b:=x.1.2) hpn (by rw[E];lia);have hpl:pre.length<st.length:=by rw[ex];simp
  have hbl:=y.bl.length_le;have hcl:=Je pre;have hdl:=y.dl
  cases H:q.nd.getD x.1.1.toNat af with
  |false=>
   show(_,y.no C p H,?_);rintro l M ⟨Q,T,U,j,rfl⟩;rw[H]at m;show(_,rfl,?_);apply ak;show bo rfl ?_;apply ak;show aY (b:=af) ?_ (λz=>nomatch z) λ_=>?_
   .unfold dC;rw[dh (bg rfl rfl m) rfl];rfl
   .show aY (dh (bg rfl rfl m) rfl) (λz=>nomatch z) λ_=>b5 ?_;show oZ rfl rfl rfl x0 (by rw[aA,C,aW,b9,E];show x1) (_,rfl,.im (prD x.1),.im x.2.D,.im (.int x.1.1),j,?_);rw[C,aW,hun]
    rfl
  |true=>
   rw[H]at m
   cases i:x.2.nc with
   |false=>
    show(_,y.ch C p i,?_)
    have hxd:x.2.D=.non:=by
     rcases p.2.ok with⟨a,_⟩ |⟨a,_⟩
     .rw[a];rfl
     .rw[a]at i;nomatch i
    rintro l M ⟨Q,T,U,j,rfl⟩;show(_,rfl,?_);rw[hxd];apply ak;show bo rfl ?_;apply ak;show aY (jI (dh (bg rfl rfl m) rfl) rfl) (λ_=>?_) λz=>nomatch z;show fU rfl rfl (by rw[aA];lia) ?_;show oZ rfl rfl rfl x0 (by rw[aA,C,aW,b9,E];show x1) (_,rfl,.im (prD x.1),.im .non,.im (.int x.1.1),j,?_);rw[C,aW,hun,a9]
    rfl
   |true=>
    rcases p.2.ok with⟨a,_⟩ |⟨_,hR⟩
    .rw[a]at i;nomatch i
    have G:(put (aW n post) x.1.1.toNat (!x.1.2)).length=n:=by rw[b9,E]
    have J:gT (put (aW n post) x.1.1.toNat (!x.1.2)) (nN st):=by
     show Jd tr G λu u0 hu=>?_;rw[ex]at tr ⊢;have(_,f,_):=iO pre tr
     have:(aW n (x::post)).getD u.toNat ab≠ab:=by
      rw[aW]
      by_cases eu:u=x.1.1
      .rw[eu,eU _ _ (by rw[E];lia)];show λq=>nomatch q
      .rw[cZ _ _ (by lia)]at hu ⊢;show hu
     rcases f.at' u.toNat with z |z
     .show absurd z this
     .rw[z];show this
    have(js,e3,e4):=ground hr hz hn h G (J.nf q.nd) hR;show(_,y.nc C tr i e4,?_)
    have hxn:dIs x.2.D .non=aa (.bl af):=by
     cases hx2:x.2 with
     |ch=>rw[hx2]at i;nomatch i
     | _=>rfl
    have hxc:x.2≠.ch:=λq=>by rw[q]at i;nomatch i
    rintro l M ⟨Q,T,U,j,rfl⟩;show(_,rfl,?_);apply ak;show bo rfl ?_;apply ak;show aY (jI (dh (bg rfl rfl m) rfl) (bB (ap rfl rfl hxn))) (λz=>nomatch z) λ_=>?_;show aY (dh (bg rfl rfl m) rfl) (λ_=>?_) λz=>nomatch z;apply ak;show fU (cS (ao rfl (ao (aE rfl (Jg hxc)) rfl))) rfl (by rw[aA];lia) ?_;apply ak;show oZ rfl rfl rfl x0 (by rw[aA,C,aW,b9,E];show x1) ?_;rw[C,aW,U6];show dD js D.int (λpre M=>∃v,M=[.deep _,.im _,.own _,.im _,.im _,.im _,.own ((orS q.nd pre).map D.bl),.own _,.own _,.im _,v]) (eS (bR (Ji U5 (ao rfl (ao rfl (ao (aE rfl (U4 (by rw[I];show(λu hu=>by have:=B.nn u hu;rwa [A]at this)) (by lia))) rfl))) e3)) rfl) (_,rfl) ?_ ?_
    .rintro pr g po M exj ⟨v,rfl⟩;have((g0,N),_):=e4.nn g (by rw[exj];simp);rw[G]at N;show(_,rfl,?_);show oZ rfl rfl rfl g0 (by rw[aA,Do,I];show N) (.im (.int g),?_);rw[show D.bl ac=D.bl ac from rfl,<- gY];unfold orS;rw[eE];rfl
    .rintro M ⟨v,rfl⟩;show oZ rfl rfl rfl x0 (by rw[aA,b9,E];show x1) (_,rfl,.im (prD x.1),.im x.2.D,.im (.int x.1.1),v,?_);rw[Jh hpn (by rw[E];lia),a9];rfl) st [] (mkS n gs,[],[(ab,w,)],st) rfl (rfl,pS _ _,qf _,aL _,(λx i z ez=>by rw[bw.mp i]at ez;nomatch ez),λu ul ha _ _=>(rfl,e2.ok u (by rw[ul,A],λg hg=>?_)))
 .have(q,y,kq):=key
  have hpe:q.post=[]:=by
   have:=y.sp;show self_eq_append_right.mp this
  show(q.bar.reverse,q.dn.reverse,λl=>?_,?_,?_,?_,?_)
  .apply fE;apply ak;show dO (rT jP) ?_;change wp _ [.deep _,.im w.D,.own (s.es.map shD),.no,.no,.no,.no,.no,.no,.no,.no] _;rw[Y];apply ak;show bo (d:=.lst ((nN st).map D.int)) (bR ?_) ?_
   .change bq 2 [] _ _ _ _ _=_;have:(s.S L).st=st.reverse.map stD:=t.sv;unfold nN;rw[map_map];show gK st.reverse stD _ ((rT CI).trans (by rw[this])) (by rw[ik];lia) λx _=>gg rfl rfl rfl
   apply ak;show dO (d:=(mkS n gs).map D.bl) ?_ ?_
   .have hmk:=HL n gs (by lia) (by lia) (by lia);show uG (ao (aE rfl (d9 _ shD)) (ao (bR (Ji Dh (ao rfl (ao rfl (ao rfl rfl))) e1)) rfl)) (mZ (by rw[A];show hmk))
   apply ak;show dO rfl ?_;apply ak;show dO (ao (cS (ao rfl (ao (aE rfl (Jg hwc)) rfl))) rfl) ?_;apply ak;show Ds CI ?_;have(ρ',e5,Q,T,U,j,rfl):=kq l _ (_,_,_,_,rfl);show(.nx [.deep (.at l (s.F L)),.im w.D,.own ((aW n q.post).map shD),Q,T,.im (.lst ((nN st).map D.int)),.own (q.nd.map D.bl),.own (q.bar.map prD),.own (q.dn.map dnD),U,j],?_,?_)
   .change(lK _ _).bind _=_;rw[PK (ao ((kC rfl).trans (by change aa (D.lst s.st)=_;rw[t.sv])) rfl),ay,iR];show e5
   .show jp ?_ (_,rfl,rfl,rfl);show cS (ao (bR ?_) (ao (bR ?_) rfl))
    .change aa (q.bar.map prD).reverse=_;rw[l7]
    .change aa (q.dn.map dnD).reverse=_;rw[l7]
  .unfold chs;have:=y.bl.reverse;unfold chs at this
   rwa [<- l7,<- filter_reverse]at this
  .rw[ik];have:=y.dl;lia
  .intro x i z ez;show y.dt x (e9.mp i) z ez
  .intro u ul hb hc;show y.rl u ul (λt t0 t1 _ ht=>?_) (λz hz=>hb z (e9.mpr hz)) λx i=>hc x (e9.mpr i);rw[hpe]at ht;have(x,i,_):=Dn (L:=L) (bs:=s.bs) (st:=[]) trivial t t0 ht
   nomatch i
 .have((g0,N),gn):=e2.nn g hg;rw[A]at N;show ha g g0 N ((lS g0 N).mpr hg) gn
nonrec def Qn(i:Nat)(S:LSp):List (Nat×Stp):=(eX i S).filter λp=>!p.2.2.nc
def lT(x:Stp)(S:LSp):chs (x::S)=if x.2.nc then chs S else x.1::chs S:=by
 unfold chs;rw[filter_cons]
 cases x.2.nc <;> rfl
def Dt:∀(S:LSp) (i j:Nat) (p:Nat×Stp),(Qn i S)[j]?=aa p->∃A V3,S=A++p.2::V3/\p.1=i+A.length/\chs A=(chs S).take j/\chs (p.2::V3)=(chs S).drop j/\p.2.2.nc=af
 | [],_,_,_,h=>by cases h
 |x::S,i,j,p,h=>by
  have h:((_::eX _ S).filter λp=>!p.2.2.nc)[j]?=aa p:=h;rw[filter_cons]at h
  cases f:x.2.nc with
  |true=>
   rw[if_neg (by simp[f])]at h;have(A,V3,a,b,c,d,e):=Dt S _ j p h;show(x::A,V3,by rw[a];rfl,by rw[b,cr];lia,?_,?_,e)
   .rw[lT,lT,if_pos f,if_pos f];show c
   .rw[lT x,if_pos f];show d
  |false=>
   rw[if_pos (by simp[f])]at h
   cases j with
   |zero=>
    cases h
    show([],S,rfl,rfl,rfl,rfl,f)
   |succ j=>
    have(A,V3,a,b,c,d,e):=Dt S _ j p h;show(x::A,V3,by rw[a];rfl,by rw[b,cr];lia,?_,?_,e)
    .rw[lT,lT,if_neg (by rw[f];show bG),if_neg (by rw[f];show bG),c];rfl
    .rw[lT x,if_neg (by rw[f];show bG),d];rfl
def Jj:∀(S:LSp) (i:Nat),(Qn i S).map (·.2.1)=chs S
 | [],_=>rfl
 |x::S,i=>by
  have a:=Jj S (i+1);change((_::eX _ S).filter λp=>!p.2.2.nc).map _=_;rw[filter_cons,lT]
  grind
def Jk(z y:Pr):isE (prD y) (prD z)=decide (z=y):=by
 unfold isE;rw[show deq 19 _ _=aa (z.1==y.1 && (z.2==y.2 && ac))from rfl]
 grind
def U8{a b:List Pr}{y:Pr}(h:y∉a):gN (.lst ((a++y::b).map prD)) (prD y)=aa (.int (a.length:Nat)):=by
 have ha:di (prD y) ((a++y::b).map prD)=aa ac:=by
  have:=Iu y (a++y::b);replace this:((di _ _).map D.bl)=_:=this
  simp_all
 change(if di _ _=aa ac then aa _ else ab)=_;rw[if_pos ha];clear ha
 congr 3
 induction a with
 |nil=>rw[nX,bF,qe,Jk,decide_eq_true rfl];rfl
 |cons z a c=>
  rw[kM,bF,qe,Jk,decide_eq_false (λe=>h (by grind))]
  grind
structure pW(S:LSp)(bar:List Pr)(A:LSp)(c:Stp)(V3:LSp):Prop where
 e:S=A++c::V3
 nc:c.2.nc=af
 br:∃b0 z,bar=b0++[z]/\b0.Sublist (chs A)/\z∈chs (c::V3)/\(b0=[]->chs A=[])/\∀y,b0.getLast?=aa y->∃A',chs A=A'++[y]
def U9(a:List Pr)(y z:Pr):atI ((a++[y]++[z]).map prD) (-2)=aa (prD y):=by
 have b:((a++[y]++[z]).map prD).length=a.length+2:=by simp
 unfold atI;rw[show ixN ((a++[y]++[z]).map prD).length (-2)=aa a.length by rw[b];unfold ixN;rw[if_neg (by lia)];simp;lia];simp
variable{S:LSp}
def Va{bar:List Pr}(U:s.st=S.map stD)(hok:∀x∈S,x.2=.ch\/x.2.nc=ac)(hl:S.length<=1000)(nd:(chs S).Nodup)(E:bar.Sublist (chs S))(H:bar≠[]):∃A c V3,pW S bar A c V3/\∀l,B2 l [eC bar] (s.F L)=aa (s.F L,.int (A.length:Nat),):=by
 have Q:=Jj S 0;have hql:(Qn 0 S).length=(chs S).length:=by rw[<- Q,aA]
 have hcl:=Je S
 obtain⟨j,hj,b0,z,a,h1,h2,h3,h4,h5⟩:∃j,j<(chs S).length/\∃b0 z,bar=b0++[z]/\b0.Sublist ((chs S).take j)/\z∈(chs S).drop j/\(b0=[]->(chs S).take j=[])/\(∀y,b0.getLast?=aa y->∃A',(chs S).take j=A'++[y])/\∀M:LS,M[1]?=aa (.im (eC bar))->M[3]?=aa (.im (.lst ((chs S).map prD)))->vIf (mB (m2 dEq (av cw (ag (ae 1) nZ)) (kI 1))) (kI 0) (m2 d7 (m2 gN (ae 3) (mIx (aw 1) (m1 qH (kI 2)))) (kI 1)) M=aa (.int (j:Nat)):=by
  have v1:∀M:LS,M[1]?=aa (.im (eC bar))->ae 1 M=aa (eC bar):=λM e=>by unfold ae;rw[e]
  have v3:∀M:LS,M[3]?=aa (.im (.lst ((chs S).map prD)))->ae 3 M=aa (.lst ((chs S).map prD)):=λM e=>by unfold ae;rw[e]
  have c1:∀M:LS,M[1]?=aa (.im (eC bar))->aw 1 M=aa (bar.map prD):=λM e=>by unfold aw;rw[e];rfl
  obtain⟨b0,z,a⟩:∃b0 z,bar=b0++[z]:=(_,_,(dropLast_concat_getLast H).symm)
  cases B:b0.getLast? with
  |none=>
   have e0:b0=[]:=getLast?_eq_none_iff.mp B;subst e0;have hz:z∈chs S:=E.subset (by rw[a];simp);show(0,length_pos_of_mem hz,[],z,a,nil_sublist _,hz,λ_=>rfl,(λy hy=>nomatch hy),λM n r=>?_)
   show lE (b:=ac) (bB (ap (aE (ao (v1 M n) rfl) (d9 bar prD)) rfl (by rw[a];rfl))) (λ_=>rfl) λq=>nomatch q
  |some y=>
   obtain⟨m,e0⟩:∃m,b0=m++[y]:=by
    have(m,rfl):=getLast?_eq_some_iff.mp B;show(m,rfl)
   subst e0;rw[a]at E;obtain⟨C1,w,hC,s1,s2⟩:∃r1 r2,chs S=r1++r2/\(m++[y]).Sublist r1/\[z].Sublist r2:=append_sublist_iff.mp E;have(g,D2,hD,s3,s4):=append_sublist_iff.mp s1;have(h,N,rfl):=lZ (singleton_sublist.mp s4);have f:chs S=(g++h)++y::(N++w):=by rw[hC,hD];simp
   have I:y∉g++h:=λq=>by
    rw[f]at nd;show(e8.mp nd).2.2 y q y az rfl
   have htk:(chs S).take ((g++h).length+1)=(g++h)++[y]:=by rw[f,take_append,sR (by lia)];simp
   have G:(chs S).drop ((g++h).length+1)=N++w:=by rw[f,drop_append,drop_of_length_le (by lia)];simp
   show((g++h).length+1,?_,m++[y],z,a,?_,?_,(λq=>by simp at q),(λu Y=>(g++h,?_)),λM n r=>?_)
   .rw[f];have:=length_pos_of_mem (singleton_sublist.mp s2);simp;lia
   .rw[htk];show(s3.trans (wB _ _)).append (qf _)
   .rw[G];show cg _ (singleton_sublist.mp s2)
   .rw[htk];rw[getLast?_concat]at Y;cases Y;rfl
   .have C:dEq (.int (bar.length:Nat)) (.int 1)=aa (.bl af):=by
     rw[ko,a];simp;lia
    show lE (b:=af) (bB (ap (aE (ao (v1 M n) rfl) (d9 bar prD)) rfl C)) (λq=>nomatch q) λ_=>?_;show(ap (ap (v3 M r) (bg (c1 M n) rfl (by rw[a];show U9 m y z)) (by rw[f];show U8 I)) rfl gj).trans ?_
    congr 2
 obtain⟨p,v⟩:∃p,(Qn 0 S)[j]?=aa p:=(_,b6 (by lia));have(A,B',n,e2,r,e4,e5):=Dt S 0 j p v;show(A,p.2,B',(n,e5,b0,z,a,by rw[r];show h1,by rw[e4];show h2,(by rw[r];show h3),by rw[r];show h4),λl=>?_);apply fE;apply ak;have J:pD (aU "Seeking" "steps" (aH 0)) [.deep (.at l (s.F L)),.im (eC bar),.no,.no]=aa (.lst (S.map stD)):=(kC rfl).trans (by rw[U]);show bo (d:=.lst ((Qn 0 S).map λp=>.int (p.1:Nat))) (bR (eR (eX 0 S) (λp=>D.tup [.int p.1,stD p.2]) _ _ (by rw[<- sA];show vv (ao J rfl)) (by rw[vN];lia) λp v=>?_)) ?_
 .show dM rfl (bB (ap rfl rfl ?_)) λ_=>rfl;have hx:=hok p.2 (dH (kH v));change dIs p.2.2.D .non=_
  cases e:p.2.2 with
  |ch=>rfl
  |gd y=>rfl
  |gp ks=>rfl
  |wd i=>rw[e]at hx;rcases hx with q |q <;> nomatch q
 apply ak;show bo (d:=.lst ((chs S).map prD)) (bR ?_) ?_
 .rw[<- Q,map_map];show gK (Qn 0 S) (λp=>D.int (p.1:Nat)) _ rfl (by lia) λp v=>gg rfl rfl ?_;have T:=kH (ci.mp v).1;have hlt:=(cU.mp T).1;show bg (eS (d:=stD p.2) (bg (eS (d:=.lst (S.map stD)) ((kC rfl).trans (by rw[U])) rfl) rfl ?_) rfl) rfl rfl;rw[ly ((0,ac,),.ch,) (by lia) (by lia),dF,bH,T];rfl
 show jp (d:=.int (A.length:Nat)) (bg rfl (h5 _ rfl rfl) ?_) (_,rfl,rfl,rfl);rw[ly (0,((0,ac,),.ch,),) (by lia) (by lia),dF,bH,v];change aa (D.int (p.1:Nat))=_;rw[e2,kP]
abbrev clr(es:LOB)(C:LSp):LOB:=C.foldl (λes x=>es.set x.1.1.toNat ab) es
def Jl:∀(C:LSp) (es:LOB),(clr es C).length=es.length
 | [],_=>rfl
 |x::C,es=>by
  change(clr _ C).length=_;rw[Jl C,il]
def Jm{t:Nat}{b:Bool}:∀(C:LSp) (es:LOB),(∀x∈C,x.1.1.toNat≠t)->clr (put es t b) C=put (clr es C) t b
 | [],_,_=>rfl
 |x::C,es,h=>by
  change clr ((put es t b).set _ _) C=put (clr _ C) t b;rw[<- Jm C _ λy a=>h y (bh _ a)];unfold put;rw[set_comm _ _ (h x az).symm]
def Jn{n:Nat}{L:LRu}{bs:LLP}{st:LSp}:∀C:LSp,Tr n L bs (C++st)->clr (aW n (C++st)) C.reverse=aW n st
 | [],_=>rfl
 |y::C,h=>by
  have y0:=h.2.t0;have c:=h.2.t1;rw[iS];unfold clr;rw[eE];change(clr (put (aW n (C++st)) y.1.1.toNat y.1.2) C.reverse).set _ ab=_;rw[Jm _ _ λx a e=>?_,(Jn C h.1)]
  .unfold put;rw[set_set];show ni ?_;have e:=(iO _ h).2.2 y az;have b:y.1.1.toNat<(aW n st).length:=by rw[eZ];lia
   rw[bH,b6 b]at e;rw[b6 b];show congrArg aa e
  .have a:=e9.mp a;have:=jx h.1 (bT st a);show(b7.mp (nM h)).1 (aJ.mpr (x,bT _ a,?_));change x.1.1=y.1.1
   lia
def Vb{f:Xe}{g:Xa}{a:LS}(h:f M=aa (d,ρ1,))(h':g ρ1=aa (ds,a,)):bJ f g M=aa (d::ds,a,):=by
 unfold bJ;rw[h];change(g ρ1).map _=_;rw[h'];rfl
abbrev Spt.bk(n:Nat)(s:Spt)(A:LSp):Spt:={s with es:=aW n A.reverse,st:=A.map stD,wt:=[]}
variable{A V5:LSp}
def Vc(tr:Tr n L s.bs (A++V5).reverse)(f:s.st=(A++V5).map stD)(b:s.es=aW n (A++V5).reverse)(l:Addr):B4 l [.int (A.length:Nat)] (s.F L)=aa (((s.bk n A).S L).o,.non,):=by
 have h:((A++V5).drop (HT.sIx (A++V5).length 0 (aa A.length))).take (HT.sIx (A++V5).length (A++V5).length ab-HT.sIx (A++V5).length 0 (aa A.length))=V5:=by
  rw[HT.sIx_nat,HT.sIx_none,aR,show min A.length _=A.length by lia,drop_left' rfl,show A.length+V5.length-A.length=V5.length by lia,take_length]
 have i:((A++V5).drop (HT.sIx (A++V5).length 0 ab)).take (HT.sIx (A++V5).length (A++V5).length (aa A.length)-HT.sIx (A++V5).length 0 ab)=A:=by
  rw[HT.sIx_nat,HT.sIx_none,aR,show min A.length _=A.length by lia,drop_zero,Nat.sub_zero,take_left' rfl]
 rw[lX]at tr b;have a:=Jn V5.reverse tr;rw[iR,<- b]at a;have c:s.es.length=n:=by rw[b,eZ]
 apply fE;apply ak
 show dD V5 stD (λpre M=>∃d e,M=[.deep (.at l (({s with es:=clr s.es pre}:Spt).F L)),.im _,d,e]) (eS (bR ((o7 ((kC rfl).trans (by rw[f])) rfl rfl).trans (by rw[h]))) rfl) (_,_,rfl) ?_ ?_
 .rintro pre y post M ex ⟨d,e,rfl⟩;have g:=jx tr (bT A.reverse (e9.mpr (by rw[ex];simp:y∈V5)));show(_,rfl,?_);show IL rfl rfl rfl g.1 (by rw[aA,Jl,c];show g.2) (.im (prD y.1),.im y.2.D,?_);have j:clr s.es (pre++[y])=(clr s.es pre).set y.1.1.toNat ab:=by unfold clr;rw[eE];rfl
  rw[j];dsimp only[Spt.F];rw[gY];rfl
 .rintro M ⟨d,e,rfl⟩;rw[a];apply ak;show gP (x:=lsO (A.map stD)) ?_ rfl rfl ?_
  .show nA ((o7 ((kC rfl).trans ?_) rfl rfl).trans (by rw[i]));rw[f]
  show gP (nA rfl) rfl rfl (_,rfl,rfl,rfl)
abbrev lnD(bar:List Pr)(dn:List Ls):D:=.tup [eC bar,.lst (dn.map dnD)]
abbrev Spt.ln(s:Spt)(bar:List Pr)(dn:List Ls):Spt:={s with pp:=s.pp++[lnD bar dn]}
def wa{bar:List Pr}(tr:Tr n L s.bs st)(a:bar.Sublist (chs st.reverse)):cT n bar:=by
 show(λz hz=>?_,?_)
 .have(y,c,e,_):=pV (a.subset hz);rw[<- e];show jx tr (e9.mp c)
 .show(a.map (·.1)).nodup ?_;unfold chs;rw[map_map];have b:(st.reverse.map (·.1.1)).Nodup:=by rw[l7];show pairwise_reverse.mpr ((nM tr).imp λq e=>q e.symm)
  show(nU.map _).nodup b
inductive ClO(n:Nat)(L:LRu)(s:Spt)(st:LSp):O->Prop
 |fin {dn:List Ls}:jy n L s.bs st [] dn->ClO n L s st (({s.ln [] dn with en:=ac}:Spt).F L)
 |bk {bar:List Pr} {dn:List Ls} {A V5:LSp} {x:Stp}:jy n L s.bs st bar dn->pW st.reverse bar A x V5->ClO n L s st (((((s.ln bar dn).bk n A).bar bar).S L).o)
variable{c0:Nat}
def Vd(hr:∀r∈L,RuK n r)(hz:L.length<=1000)(hn:n<=60)(h:SpJ n c V3 L s)(g:dX c0 L.length s.bs s.tw)(B:c0+3840<16777216)(v:s.bs.length<=60000)(C:s.pp.length<=60000)(t:TrS n L s st)(E:Rt n L s.bs s.es w):∃o,(∀l,pL l [w.D] (s.S L).o=aa (o,.non,))/\ClO n L s st o:=by
 have(bar,dn,i,k):=U7 hr hz hn h t E;have tl:=sH t.tr;have tr:=t.tr
 by_cases f:bar=[]
 .subst f;show(_,λl=>?_,.fin k);apply fE;apply ak;show jw (fD rfl rfl (dE rfl rfl) rfl (i l)) ?_;apply ak;show rW rfl rfl (by lia) ?_;show aY rfl (λq=>nomatch q) λ_=>(gP (rX rfl) rfl rfl (_,rfl,rfl,rfl))
 .have d:=t.sv
  have (A,x,V5,pk,m):=Va (s:=s.ln bar dn) d (λy G=>by
   have(p,r,u):=lZ (e9.mp G);rw[u]at tr
   rcases(iO p tr).1.2.ok with⟨a,_⟩ |⟨a,_⟩
   .show .inl a
   .show .inr a) (by rw[ik];lia) ((wa tr (qf _)).pd) k.bl f
  have j:st=(A++x::V5).reverse:=by rw[<- pk.e,iR]
  show(_,λl=>?_,.bk k pk);apply fE;apply ak;show jw (fD rfl rfl (dE rfl rfl) rfl (i l)) ?_;apply ak;show rW rfl rfl (by lia) ?_;show aY (b:=ac) (dh (bg rfl rfl rfl) ?_) (λ_=>?_) λq=>nomatch q
  .cases bar with
   |nil=>show absurd rfl f
   |cons z b=>rfl
  apply ak;show jq (fD rfl rfl (ρ1:=[.deep _,.im w.D,.im (lnD bar dn)]) ?_ rfl (Vc (s:=s.ln bar dn) (by rw[<- j];show tr) (by rw[<- pk.e];show d) (by rw[<- j];show t.es) l)) ?_
  .show Vb (fD rfl rfl (dE rfl rfl) rfl (m l)) rfl
  show jq (fD rfl rfl (dE rfl rfl) rfl (Ut _ bar g B h.bk (wa tr k.bl) hn (by change L.length+s.bs.length<_;lia) (by change 0<_;lia))) (_,rfl,rfl,rfl)
abbrev dg:D->Nat
 |.tup [_,.non]=>1
 | _=>2
abbrev vl:Nat->LD->Nat
 | 0,_=>0
 | _+1,[]=>0
 |k+1,d::ds=>dg d*3 ^ k+vl k ds
def Jo(d:D):1<=dg d/\dg d<=2:=by unfold dg;split <;> show(by decide,by decide)
def sI:∀(k:Nat) (ds:LD),vl k ds<3 ^ k
 | 0,_=>Nat.one_pos
 |k+1,[]=>Nat.pow_pos (by decide)
 |k+1,d::ds=>by
  have a:=sI k ds;have h2:=wH (3 ^ k) (Jo d).2;simp only[vl,Nat.pow_succ]
  lia
def Jp:∀(k:Nat) (a:LD) (d:D) (b:LD),a.length<k->vl k a<vl k (a++d::b)
 | 0,_,_,_,h=>absurd h (io _)
 |k+1,[],d,b,_=>by
  have c:=wH (3 ^ k) (Jo d).1;have h2:0<3 ^ k:=Nat.pow_pos (by decide);change 0<dg d*3 ^ k+vl k b
  lia
 |k+1,e::a,d,b,h=>Nat.add_lt_add_left (Jp k a d b (Nat.lt_of_succ_lt_succ h)) _
def Js:∀(k:Nat) (a:LD) (x y:D) (b c:LD),a.length<k->dg x=1->dg y=2->vl k (a++x::b)<vl k (a++y::c)
 | 0,_,_,_,_,_,h,_,_=>absurd h (io _)
 |k+1,[],x,y,b,c,_,hx,hy=>by
  have d:=sI k b;change dg x*3 ^ k+vl k b<dg y*3 ^ k+vl k c;rw[hx,hy]
  lia
 |k+1,e::a,x,y,b,c,h,hx,hy=>Nat.add_lt_add_left (Js k a x y b c (Nat.lt_of_succ_lt_succ h) hx hy) _
abbrev aI(L:LRu)(V5:Nat)(s:Spt):OD×Spt:=stF L V5 (Me V5 s+1) s
abbrev nv(n:Nat)(L:LRu)(V5:Nat)(s:Spt):Nat:=vl n (aI L V5 s).2.st
structure Hd(n c0 V5 V3:Nat)(L:LRu)(s:Spt)(st:LSp):Prop where
 J:SpJ n V5 V3 L s
 tw:dX (c0+3840*s.bs.length) L.length s.bs s.tw
 t:TrS n L s st
 pp:s.pp.length=s.bs.length
 en:s.en=af
 nb:s.bs.length<=nv n L V5 s
structure Par(n c0 V5 V3:Nat)(L:LRu):Prop where
 hr:∀r∈L,RuK n r
 hz:L.length<=250
 hn:n<=60
 hC:c0+3840*3 ^ n<=V5
 hB:n*(V5+1)+n+L.length+3<=V3
 h2:V3+V5<16777216
structure Se(n c0 V5 V3:Nat)(L:LRu)(s s1:Spt)(st st1:LSp):Prop where
 J:SpJ n V5 V3 L s1
 t:TrS n L s1 st1
 xt:∃xt,st1=xt++st/\∀x∈xt,x.2.nc=ac
 bs:s1.bs=s.bs
 tw:s1.tw=s.tw
 pp:s1.pp=s.pp
 ct:s1.ct=s.ct
 en:s1.en=s.en
variable{V5:Nat}
def Hd.se(P:Par n c0 V5 V3 L)(h:Hd n c0 V5 V3 L s st):∃st1,Se n c0 V5 V3 L s (aI L V5 s).2 st st1/\∀w,(aI L V5 s).1=aa w->∃wh:Wh,w=wh.D/\wh.nc=ac/\Rt n L s.bs (aI L V5 s).2.es wh:=by
 have hz:=P.hz;have a:=Dj P.hr (by lia) _ s h.J (c6 _);have((xt,g,i),b,c,d,e,f):=vU P.hr (by lia) P.hn _ s h.J (sE P.hr _ _ h.J (TrM.refl h.t));show(_,(a.ok,g,(xt,rfl,i),a.bs,b,c,d,e),f)
def Ve(P:Par n c0 V5 V3 L)(h:Hd n c0 V5 V3 L s st)(l:Addr):rQ l [] (s.S L).o=aa (((aI L V5 s).2.S L).o,(aI L V5 s).1.getD .non,):=by
 have hz:=P.hz;have mB:=h.J.mB;have h2:=P.h2;show UQ P.hr (by lia) P.hn P.h2 h.J (c6 _) (by grind)
def Jt{b:List Pr}{bs:LLP}:∀{st:LSp},Tr n L bs st->Tr n L (bs++[b]) st
 | [],_=>trivial
 |x::st,h=>by
  show(Jt h.1,h.2.t0,h.2.t1,h.2.op,?_)
  rcases h.2.ok with q |⟨q1,q2⟩
  .show .inl q
  .show .inr (q1,?_)
   cases c:x.2 with
   |ch=>rw[c]at q2;show q2
   |wd i=>rw[c]at q2;show q2
   |gp ks=>rw[c]at q2;show q2
   |gd y=>
    rw[c]at q2;have(f,d):=q2;have hm:=eW.mp f;have(a,j):=y
    cases a with
    |false=>show(eW.mpr hm,d)
    |true=>
     show(eW.mpr (by change j<(bs++[b]).length;rw[aR];lia),?_)
     have e:bN L (bs++[b]) (ac,j,)=bN L bs (ac,j,):=by
      change brg _=brg _;rw[lR,if_neg (by lia)]
     rw[e];show d
def Ju(P:Par n c0 V5 V3 L)(t:TrS n L s st)(bk:∀b∈s.bs,cT n b)(tw:dX V5 L.length s.bs s.tw)(wv:∀y∈s.wt,y∈gys L.length s.bs.length)(ms:s.ms.Perm (fF L))(wl:s.wt.length<=L.length+1):SpJ n V5 V3 L s:=by
 have hB:=P.hB;have f:=Uw s.es;have c:s.es.length=n:=by rw[t.es,eZ]
 have tl:=sH t.tr;have hm:iN s.es*_<=n*(V5+1):=wH _ (by lia);show(c,bk,tw,wv,ms,by lia,by rw[t.sv,aA,ik];lia,λd hd=>?_);rw[t.sv]at hd;have(x,a,rfl):=aJ.mp hd;have a:=e9.mp a;have(p,r,e):=lZ a;show(x.1,x.2.D,rfl,jx t.tr a,?_);rw[t.es,e];show v8 (by rw[<- e];show t.tr)
variable{b0:List Pr}
def Vf{bar:List Pr}(g:es.length=n)(f:cT n bar)(e:bar=b0++[z])(m:∀y∈bar,y.2=ac)(i:∀y∈b0,es.getD y.1.toNat ab=aa ac)(hz:es.getD z.1.toNat ab=ab):∃p ps,prs (brg bar) es=aa (p::ps):=by
 have j:∀p∈brg bar,p.Ok es.length:=λp b=>by rw[g];show(sn f p b).1
 have br:∀y∈bar,brP y=.inn y.1:=λy c=>by unfold brP;rw[m y c];rfl
 have a:z∈bar:=by rw[e];simp
 have h:=f.nn z a
 cases b:prs _ es with
 |none=>
  have:=IM b _ (aJ.mpr (z,a,rfl));rw[br z a]at this;have this:(es.getD z.1.toNat ab==aa ac)=ac:=this;rw[hz]at this
  nomatch this
 |some l=>
  have(_,h2,_):=nJ j b
  have:_∈l:=(h2 (z.1,af,)).mpr ((h.1,by rw[g];show h.2),sG hz,λp b=>by
   have(y,c,rfl):=aJ.mp b;rw[br y c];change((put es z.1.toNat ac).getD y.1.toNat ab==aa ac)=ac
   by_cases d:y.1.toNat=z.1.toNat
   .rw[d,eU es ac (by lia)];rfl
   .rw[cZ es ac d]
    have:y∈b0:=by
     rw[e]at c
     rcases bu.mp c with q |q
     .show q
     .show absurd (by rw[bw.mp q]) d
    rw[i y this];rfl)
  cases l with
  |nil=>nomatch this
  |cons p ps=>show(p,ps,rfl)
def Du{bs:LLP}(tr:Tr n L bs st){y:Pr}(d:y∈chs st.reverse):y.2=ac/\(aW n st).getD y.1.toNat ab=aa ac:=by
 have(x,c,e,hn):=pV d;have(p,r,rfl):=lZ (e9.mp c);have b:=v8 tr
 rcases(iO p tr).1.2.ok with⟨_,a,_⟩ |⟨a,_⟩
 .rw[e]at a b;rw[a]at b;show(a,b)
 .rw[a]at hn;nomatch hn
structure Clo(n:Nat)(s1 s2:Spt)(bar:List Pr)(dn:List Ls)(A:LSp):Prop where
 es:s2.es=aW n A.reverse
 sv:s2.st=A.map stD
 bs:s2.bs=s1.bs++[bar]
 tw:s2.tw=fX (ac,s1.bs.length,) (brg bar) (lQ s1.bs s1.tw bar)
 wt:s2.wt=[(ac,s1.bs.length,)]
 ms:s2.ms=s1.ms
 pp:s2.pp=s1.pp++[lnD bar dn]
 en:s2.en=s1.en
variable{s2:Spt}{T st1:LSp}{dn:List Ls}
def Vg{bar:List Pr}(P:Par n c0 V5 V3 L)(h:Hd n c0 V5 V3 L s st)(e:Se n c0 V5 V3 L s (aI L V5 s).2 st st1)(k:jy n L s.bs st1 bar dn)(p:pW st1.reverse bar A x T)(q:Clo n (aI L V5 s).2 s2 bar dn A):Hd n c0 V5 V3 L s2 A.reverse/\nv n L V5 s<nv n L V5 s2:=by
 have hn:=P.hn;have hz:=P.hz;have hC:=P.hC
 have er:st1=T.reverse++x::A.reverse:=by
  have:=congrArg List.reverse p.e;rw[iR,lX,iS,cI]at this;show this
 have c:=e.t.tr;rw[e.bs]at c;have g:Tr n L s.bs (x::A.reverse):=by rw[er]at c;show(iO _ c).1
 have bk:=wa c k.bl;have E:TrS n L s2 A.reverse:=(by rw[q.sv,iR],q.es,by rw[q.bs,e.bs];show Jt g.1);have hnv:=sI n (aI L V5 s).2.st;have hnb:s.bs.length<=vl n (aI L V5 s).2.st:=h.nb;have j:s2.bs.length=s.bs.length+1:=by rw[q.bs,e.bs,aR];rfl
 have i:dX (c0+3840*s.bs.length+3840) L.length s2.bs s2.tw:=by
  have:=(h.tw.dropped (λb H=>(h.J.bk b H).pd) bar).bar bk hn;rw[q.bs,q.tw,e.bs,e.tw];show this
 have I:SpJ n V5 V3 L s2:=by
  show Ju P E (λb H=>?_) (i.wk.le (by lia),i.vl,i.br) (λy f=>?_) (by rw[q.ms];show e.J.ms) (by rw[q.wt];change 1<=_;lia)
  .rw[q.bs,e.bs]at H
   rcases bu.mp H with z |z
   .show h.J.bk b z
   .rw[bw.mp z];show bk
  .rw[q.wt]at f;rw[bw.mp f];show eW.mpr (by change _<s2.bs.length;rw[q.bs,aR];show c6 _)
 have r:nv n L V5 s<nv n L V5 s2:=by
  have(b0,z,eb,M,U,_,_):=p.br;have B:∀y∈bar,y.2=ac:=λy f=>(Du c (k.bl.subset f)).1;have m:=eZ n A.reverse;have h0:∀y∈b0,s2.es.getD y.1.toNat ab=aa ac:=λy f=>by rw[q.es];show(Du g.1 (by rw[iR];show M.subset f)).2
  have Y:s2.es.getD z.1.toNat ab=ab:=by
   have(y,f,ey,_):=pV U;have tr2:Tr n L s.bs ((T.reverse++[x])++A.reverse):=by rw[cI];rw[er]at c;show c
   rw[q.es,<- ey];show(iO _ tr2).2.2 y ?_
   rcases aZ.mp f with u |u
   .rw[u];simp
   .simp[u]
  have(d,ps,N):=Vf (by rw[q.es,m]) bk eb B h0 Y
  have hg:bN L s2.bs (ac,(aI L V5 s).2.bs.length,)=brg bar:=by
   change brg _=_;rw[q.bs,lR,if_pos rfl]
  have hok:∀u∈bN L s2.bs (ac,(aI L V5 s).2.bs.length,),u.Ok s2.es.length:=by rw[hg,q.es,m];show λu l=>(sn bk u l).1
  rw[<- hg]at N;have(C,r2,_):=nJ hok N;have(J3,_,f):=I.pop q.wt
  have t3:TrS n L {s2 with wt:=[]} A.reverse:=(E.sv,E.es,E.tr)
  have((u0,G),uo):=C.op d az;have G:d.1<n:=by rw[q.es,m]at G;show G
  have(n1,n2):=b7.mp C.nd
  have t5:=Dk (s:=({ s2 with wt:=[] } : Spt).pt d.1 d.2 _) f (by change (put s2.es _ _).length=n; rw [b9,q.es,m]) (λu l=>by change u.Ok (put s2.es _ _).length; rw [b9]; show hok u l) C.tail (λv hv u l=>by
   have((v0,v1),vo):=C.op v (bh _ hv);have ne:d.1≠v.1:=λee=>n1 (aJ.mpr (v,hv,ee.symm));change u.sure (put (put s2.es d.1.toNat d.2) v.1.toNat _)=ac;rw[vK (by lia)];show vG (by rw[b9];show hok u l) u0 (by rw[b9,q.es,m];show G) (vL u0 v0 ne uo) _ (((r2 v).mp (bh _ hv)).2.2 u l)) (TrM.refl (t3.pt (w:=.gd _) u0 G uo rfl (f,((r2 d).mp az).2.2)))
  have t6:TrM n L (((d.1,d.2,),.gd (ac,(aI L V5 s).2.bs.length,),)::A.reverse) (lrF L (Me V5 s2+1) s2).2:=by
   rw[pR q.wt N];show sE P.hr _ _ (nI J3 C).1 t5
  have((xt,k2,_),_):=vU P.hr (by lia) hn _ s2 I t6
  have e1:(aI L V5 s).2.st=A.map stD++stD x::T.map stD:=by
   rw[e.t.sv,p.e,a9,bF]
  have e2:(aI L V5 s2).2.st=A.map stD++stD ((d.1,d.2,),.gd (ac,(aI L V5 s).2.bs.length,),)::xt.reverse.map stD:=by
   change(stF L V5 _ s2).2.st=_;rw[k2.sv,lX,iS,iR,cI,a9,a9];rfl
  unfold nv;rw[e1,e2];have tl:=sH g;rw[cr,ik]at tl;show Js n _ _ _ _ _ (by rw[aA];lia) ?_ rfl
  have Q:x.2=.ch:=by
   rcases g.2.ok with⟨a,_⟩ |⟨a,_⟩
   .show a
   .rw[p.nc]at a;nomatch a
  unfold stD;rw[Q];rfl
 show((I,by rw[j];show i,E,by rw[q.pp,e.pp,aR,h.pp,j];rfl,by rw[q.en,e.en];show h.en,?_),r);rw[j];show l9 h.nb r
def Dv(es:LOB):di .non (es.map shD)=aa (es.any (·==ab)):=by
 induction es with
 |nil=>rfl
 |cons e es a=>
  change((deq 19 _ .non).bind λb=>(di .non _).map λr=>b || r)=_;rw[a]
  cases e with
  |none=>rfl
  |some b=>cases b <;> rfl
def Vh(h:es.any (·==ab)=ac):gN (.lst (es.map shD)) .non=aa (.int (es.findIdx (·==ab):Nat)):=by
 change(if di _ _=aa ac then aa _ else ab)=_;rw[Dv,h,if_pos rfl]
 congr 3
 clear h
 induction es with
 |nil=>rfl
 |cons e es a=>
  rw[bF,qe,qe,a]
  cases e with
  |none=>rfl
  |some b=>cases b <;> rfl
abbrev wOf(es:LOB):LI0:=((eX 0 es).filter λp=>p.2==aa ac).map λp=>(p.1:Int)
def Vi(h:es.any (·==ab)=af)(c:es.length<=1000):rR [.lst (es.map shD)]=aa ((wOf es).map D.int):=by
 show mZ ?_;unfold wOf;rw[map_map];show congrArg _ (eR _ _ _ _ (by rw[<- sA];show vv rfl) (by rw[vN];lia) λp a=>dM rfl (dh rfl ?_) λ_=>rfl);have hm:=any_eq_false.mp h p.2 (dH (kH a))
 cases e:p.2 with
 |none=>rw[e]at hm;show absurd rfl hm
 |some b=>cases b <;> rfl
variable{F:MF3}
def Jv{t:MF4}{k:Nat}(h:t M=aa ac)(a:wp F M λr=>match r with
  |.nx ρ'=>wp (df t F k) ρ' K
  |.rtS d ρ'=>K (.rtS d ρ')
  | _=>False):wp (df t F (k+1)) M K:=by
 have(r,e,q):=a;dsimp only[wp,df];rw[h,e,ay]
 cases r with
 |nx ρ'=>show q
 |rtS d ρ'=>show(_,rfl,q)
 | _=>show q.elim
def sJ{t:MF4}{k:Nat}(h:t M=aa af)(q:K (.nx M)):wp (df t F (k+1)) M K:=(.nx M,by unfold df;rw[h];rfl,q)
nonrec def anT:MF4:=gG (bK (pD (aU "Seeking" "ended" (aH 0))))
nonrec def anB:MF3:=(ai (fW 1 (cG 0 "Seeking" "settle" rQ cz))
  (bi (mB (m2 gc (ae 1) kN)) (dP (cG 0 "Seeking" "close" pL (bJ (mX (ae 1)) cz))) (bi (mB (m2 fT kN (pB (aU "Seeking" "sheet" (aH 0))))) (dP (cG 0 "Seeking" "put" pM (bJ (mX (m2 gN (pB (aU "Seeking" "sheet" (aH 0))) kN)) (bJ (mX (kBl ac)) (bJ (mX kN) cz))))) (ai (aX 2 (aO (o9 rR (ag (pB (aU "Seeking" "sheet" (aH 0))) nZ))))
  (ai (dP (cG 0 "Seeking" "close" pL (bJ (mX (bn (ag (kSt "world") (ag (pD (aU "Seeking" "count" (aH 0))) nZ)))) cz)))
  (ai (nz 0 "Seeking" "count" (kI 1))
  (fA (ae 2))))))))
abbrev anK(l:Addr)(o:O):Option (LI0)->Fl->Prop
 |none,x=>∃M,x=.nx M/\M[0]?=aa (.deep (.at l o))
 |some ws,x=>∃M,x=.rtS (.lst (ws.map D.int)) M/\M[0]?=aa (.deep (.at l o))
def Vj(P:Par n c0 V5 V3 L)(h:Hd n c0 V5 V3 L s st)(e:Se n c0 V5 V3 L s (aI L V5 s).2 st st1){t:Nat}(t1:t<n)(i:(aI L V5 s).2.es.getD t ab=ab)(p:∀j,j<t->(aI L V5 s).2.es.getD j ab≠ab):Hd n c0 V5 V3 L ((aI L V5 s).2.pt t ac .non) (((t,ac,),.ch,)::st1)/\nv n L V5 s<nv n L V5 ((aI L V5 s).2.pt t ac .non):=by
 have hz:=P.hz;have f:=sG (by rw[dF];show i);have c:=(e.J.pt (b:=ac) (w:=.non) (by lia) (by lia) f).1
 have d:TrS n L ((aI L V5 s).2.pt t ac .non) (((t,ac,),.ch,)::st1):=by
  show(?_,?_,e.t.tr,by change(0:Int)<=t;lia,by change(t:Int)<n;lia,by rw[<- e.t.es];show f,.inl (rfl,rfl,λj m=>?_))
  .change(aI L V5 s).2.st++[_]=_;rw[e.t.sv,iS,a9];rfl
  .change put (aI L V5 s).2.es _ _=_;rw[e.t.es];rfl
  .rw[<- e.t.es]
   grind
 have a:nv n L V5 s<nv n L V5 ((aI L V5 s).2.pt t ac .non):=by
  have((xt,l,_),_):=vU P.hr (by lia) P.hn _ _ c (sE P.hr _ _ c (TrM.refl d));have tl:=sH d.tr;rw[cr]at tl
  have g:(aI L V5 ((aI L V5 s).2.pt t ac .non)).2.st=(aI L V5 s).2.st++stD ((t,ac,),.ch,)::xt.reverse.map stD:=by
   change(stF L V5 _ _).2.st=_;rw[l.sv,lX,iS,cI,a9,<- e.t.sv];rfl
  unfold nv;rw[g];show Jp n _ _ _ (by rw[e.t.sv,aA,ik];lia)
 show((c,?_,d,?_,?_,?_),a)
 .change dX (c0+3840*(aI L V5 s).2.bs.length) _ (aI L V5 s).2.bs (aI L V5 s).2.tw;rw[e.bs,e.tw];show h.tw
 .change(aI L V5 s).2.pp.length=(aI L V5 s).2.bs.length;rw[e.bs,e.pp];show h.pp
 .change(aI L V5 s).2.en=af;rw[e.en];show h.en
 .change(aI L V5 s).2.bs.length<=_;rw[e.bs];show cN h.nb (fj a)
structure Car(n c0 V5 V3:Nat)(L:LRu)(I:Spt->LSp->List (LI0)->Prop)(F:Spt->List (LI0)->Prop):Prop where
 ch:∀{s st st1 fd} {t:Nat},Hd n c0 V5 V3 L s st->I s st fd->Se n c0 V5 V3 L s (aI L V5 s).2 st st1->(aI L V5 s).1=ab->t<n->(aI L V5 s).2.es.getD t ab=ab->I ((aI L V5 s).2.pt t ac .non) (((t,ac,),.ch,)::st1) fd
 cl:∀{s st st1 fd w bar dn A x T s2},Hd n c0 V5 V3 L s st->I s st fd->Se n c0 V5 V3 L s (aI L V5 s).2 st st1->(aI L V5 s).1=aa (Wh.D w)->Rt n L s.bs (aI L V5 s).2.es w->jy n L s.bs st1 bar dn->pW st1.reverse bar A x T->Clo n (aI L V5 s).2 s2 bar dn A->s2.ct=s.ct->Hd n c0 V5 V3 L s2 A.reverse->I s2 A.reverse fd
 fi:∀{s st st1 fd w dn s2},Hd n c0 V5 V3 L s st->I s st fd->Se n c0 V5 V3 L s (aI L V5 s).2 st st1->(aI L V5 s).1=aa (Wh.D w)->Rt n L s.bs (aI L V5 s).2.es w->jy n L s.bs st1 [] dn->s2.pp=s.pp++[lnD [] dn]->F s2 fd
 wc:∀{s st st1 fd bar dn A x T s2},Hd n c0 V5 V3 L s st->I s st fd->Se n c0 V5 V3 L s (aI L V5 s).2 st st1->(aI L V5 s).1=ab->(aI L V5 s).2.es.any (·==ab)=af->jy n L s.bs st1 bar dn->pW st1.reverse bar A x T->Clo n (aI L V5 s).2 s2 bar dn A->s2.ct=s.ct+1->Hd n c0 V5 V3 L s2 A.reverse->I s2 A.reverse (fd++[wOf (aI L V5 s).2.es])
 wf:∀{s st st1 fd dn s2},Hd n c0 V5 V3 L s st->I s st fd->Se n c0 V5 V3 L s (aI L V5 s).2 st st1->(aI L V5 s).1=ab->(aI L V5 s).2.es.any (·==ab)=af->jy n L s.bs st1 [] dn->s2.pp=s.pp++[lnD [] dn]->F s2 (fd++[wOf (aI L V5 s).2.es])
structure Fin(L:LRu)(F:Spt->List (LI0)->Prop)(fd:List (LI0))(o:O):Prop where
 ex:∃s:Spt,s.en=ac/\s.pp≠[]/\s.pp.length<=100000/\F s fd/\o=s.F L
inductive Af(n c0 V5 V3:Nat)(L:LRu)(I:Spt->LSp->List (LI0)->Prop)(F:Spt->List (LI0)->Prop)(fd:List (LI0))(v:Nat)(o:O):Prop
 |go (s:Spt) (st:LSp):Hd n c0 V5 V3 L s st->I s st fd->v<nv n L V5 s->o=(s.S L).o->Af n c0 V5 V3 L I F fd v o
 |fin:Fin L F fd o->Af n c0 V5 V3 L I F fd v o
variable{I:Spt->LSp->List (LI0)->Prop}{F:Spt->List (LI0)->Prop}
def Dx(P:Par n c0 V5 V3 L)(K:Car n c0 V5 V3 L I F):∀(u:Nat) (s:Spt) (st:LSp) (fd:List (LI0)),Hd n c0 V5 V3 L s st->I s st fd->3 ^ n-nv n L V5 s<=u->∃(r:Option (LI0)) (o:O),(∀l v1 f k,u<k->wp (df anT anB (k+1)) [.deep (.at l (s.S L).o),v1,f] (anK l o r))/\(r=ab->Fin L F fd o)/\∀ws,r=aa ws->Af n c0 V5 V3 L I F (fd++[ws]) (nv n L V5 s) o
 | u,s,st,fd,h,hI,hμ=>by
  have hz:=P.hz;have hn:=P.hn;have hC:=P.hC;have h2:=P.h2;have hnv:nv n L V5 s<3 ^ n:=sI _ _;have hnb:=h.nb;have hpp:=h.pp;have(st1,se,hwy):=h.se P;have i:=se.bs;have G:=se.ct;have m:=se.pp;have J1:=se.J;have Y:=Ve P h;have H:=λ(bar dn A x T s2)=>Vg (bar:=bar) (dn:=dn) (A:=A) (x:=x) (T:=T) (s2:=s2) P h se;have hch:=λt=>Vj (t:=t) P h se;have kch:=λt=>K.ch (t:=t) h hI se;have kcl:=λ(w bar dn A x T s2)=>K.cl (w:=w) (bar:=bar) (dn:=dn) (A:=A) (x:=x) (T:=T) (s2:=s2) h hI se;have kfi:=λ(w dn s2)=>K.fi (w:=w) (dn:=dn) (s2:=s2) h hI se;have kwc:=λ(bar dn A x T s2)=>K.wc (bar:=bar) (dn:=dn) (A:=A) (x:=x) (T:=T) (s2:=s2) h hI se;have kwf:=λ(dn s2)=>K.wf (dn:=dn) (s2:=s2) h hI se;generalize aI L V5 s=R at *;have y:=λ{w:Wh} B=>Vd (w:=w) P.hr (by lia) hn J1 (by rw[i,se.tw];show h.tw) (by lia) (by rw[i];lia) (by rw[m];lia) se.t B;rw[i]at y
  have g:∀l v1 f k Q,wp _ [.deep _,.im _,f] _->wp (df anT anB (k+1)) [.deep (.at l (s.S L).o),v1,f] Q:=λl v1 f k Q U=>by
   show Jv (oU (dh (kC rfl) (by change mM (.bl s.en)=aa af;rw[h.en];rfl))) ?_;apply ak;show jw (fD rfl rfl rfl rfl (Y l)) U
  cases hR:R.1 with
  |some wd=>
   have(w,rfl,hnc,B):=hwy wd hR;have(o,e1,ck):=y B
   have hwn:gc w.D .non=aa (.bl ac):=by
    cases w with
    |ch=>nomatch hnc
    | _=>rfl
   have step:=λl v1 f k Q U=>by
    show g l v1 f k Q ?_;rw[hR];show aY (bB (ap rfl rfl hwn)) (λ_=>(jq (fD rfl rfl (dE rfl rfl) rfl (e1 l)) U)) λq=>nomatch q
   cases ck with
   | @fin dn k=>
    rw[i]at k
    show⟨ab,({R.2.ln [] dn with en:=ac}:Spt).F L,λl v1 f kk M=>?_,λ_=>({R.2.ln [] dn with en:=ac},rfl,?_,?_,kfi w dn _ hR B k (by change(R.2.ln [] dn).pp=_;unfold Spt.ln;rw[m]),rfl),λws e=>nomatch e⟩
    .obtain⟨kk,rfl⟩:∃j,kk=j+1:=(kk-1,by lia);show step l v1 f _ _ (sJ rfl (_,rfl,rfl))
    .change R.2.pp++[_]≠[];simp
    .change(R.2.pp++[_]).length<=_;rw[aR,m];change _+1<=_
     lia
   | @bk bar dn A T x k p=>
    rw[i]at k;have q:Clo n R.2 (((R.2.ln bar dn).bk n A).bar bar) bar dn A:=(rfl,rfl,rfl,rfl,rfl,rfl,rfl,rfl);have(v,g2):=H bar dn A x T _ k p q
    match u,hμ with
    | 0,hμ=>lia
    | u+1,hμ=>
     have(r,o',i1,i2,i3):=Dx P K u _ _ fd v (kcl w bar dn A x T _ hR B k p q G v) (by lia);show(r,o',λl v1 f kk M=>?_,i2,λws e=>?_)
     .obtain⟨kk,rfl⟩:∃j,kk=j+1:=(kk-1,by lia);show step l v1 f _ _ (i1 l _ _ kk (by lia))
     .cases i3 ws e with
      |go s' C a b c d=>show .go s' C a b (by lia) d
      |fin a=>show .fin a
  |none=>
   have hl1:=J1.es
   cases ha:R.2.es.any (·==ab)with
   |true=>
    have N:=wx (any_eq_true.mp ha)
    have E:R.2.es.getD (R.2.es.findIdx (·==ab)) ab=ab:=by
     rw[bH,b6 N];have:=findIdx_getElem (w:=N);show beq_iff_eq.mp this
    have(v,g2):=hch _ (by lia) E λj hj q=>by
     have:=not_of_lt_findIdx hj;rw[bH,b6 (by lia)]at q;have q:R.2.es[j]=ab:=q;rw[q]at this;show absurd this (by decide)
    match u,hμ with
    | 0,hμ=>lia
    | u+1,hμ=>
     have(r,o',i1,i2,i3):=Dx P K u _ _ fd v (kch _ hR (by lia) E) (by lia);show(r,o',λl v1 f kk M=>?_,i2,λws e=>?_)
     .obtain⟨kk,rfl⟩:∃j,kk=j+1:=(kk-1,by lia);show g l v1 f _ _ ?_;rw[hR];show aY rfl (λq=>nomatch q) λ_=>?_;show aY (b:=ac) (bB (ap rfl (jo jP) (by change((di .non (R.2.es.map shD)).map D.bl)=_;rw[Dv,ha];rfl))) (λ_=>(jq (fD rfl rfl (dE (ap (jo jP) rfl (Vh ha)) (dE rfl (dE rfl rfl))) rfl ((λl=>De (t:=(R.2.es.findIdx (·==ab):Nat)) J1 P.h2 (by lia) (by lia)) l)) (i1 l _ _ kk (by lia)))) λq=>nomatch q
     .cases i3 ws e with
      |go s' C a b c d=>show .go s' C a b (by lia) d
      |fin a=>show .fin a
   |false=>
    have B:Rt n L s.bs R.2.es (.wd R.2.ct):=λk M q=>by
     rw[bH,b6 (by lia)]at q;have q:R.2.es[k]=ab:=q;show any_eq_false.mp ha _ (ij _) (by rw[q];rfl)
    have(o,e1,ck):=y B
    have step:∀o2 l v1 f k Q,(∀v1 f,nz 0 "Seeking" "count" (kI 1) [.deep (.at l o),v1,f]=aa (.nx [.deep (.at l o2),v1,f]))->Q (.rtS (.lst ((wOf R.2.es).map D.int)) [.deep (.at l o2),.im .non,.im (.lst ((wOf R.2.es).map D.int))])->wp (df anT anB (k+1)) [.deep (.at l (s.S L).o),v1,f] Q:=λo2 l v1 f k Q hau U=>by
     show g l v1 f k Q ?_;rw[hR];show aY rfl (λq=>nomatch q) λ_=>?_;show aY (b:=af) (bB (ap rfl (jo jP) (by change((di .non (R.2.es.map shD)).map D.bl)=_;rw[Dv,ha];rfl))) (λq=>nomatch q) λ_=>?_;apply ak;show bo (d:=.lst ((wOf R.2.es).map D.int)) (bR ?_) ?_
     .change(ag _ _ _).bind _=_;rw[ao (jo jP) rfl,ay];change(rR [.lst (R.2.es.map shD)]).bind _=_;rw[(Vi ha (by lia)),ay,if_pos (all_eq_true.mpr λd hd=>by have(z,_,rfl):=aJ.mp hd;rfl)]
     apply ak;show jq (fD rfl rfl (dE (d:=(Wh.wd R.2.ct).D) (cS (ao rfl (ao (kC rfl) rfl))) rfl) rfl (e1 l)) ?_;apply ak;show(_,hau _ _,(jp rfl U))
    cases ck with
    | @fin dn k=>
     rw[i]at k
     show(aa (wOf R.2.es),(({({R.2.ln [] dn with en:=ac}:Spt)with ct:=R.2.ct+1}:Spt).F L),λl v1 f kk M=>step _ l v1 f kk _ (λ_ _=>rfl) (_,rfl,rfl),(λe=>nomatch e),λws e=>?_)
     cases e
     show .fin ({({R.2.ln [] dn with en:=ac}:Spt)with ct:=R.2.ct+1},rfl,?_,?_,kwf dn _ hR ha k (by change(R.2.ln [] dn).pp=_;unfold Spt.ln;rw[m]),rfl)
     .change R.2.pp++[_]≠[];simp
     .change(R.2.pp++[_]).length<=_;rw[aR,m];change _+1<=_
      lia
    | @bk bar dn A T x k p=>
     rw[i]at k
     have q:Clo n R.2 {((R.2.ln bar dn).bk n A).bar bar with ct:=R.2.ct+1} bar dn A:=(rfl,rfl,rfl,rfl,rfl,rfl,rfl,rfl)
     have(v,g2):=H bar dn A x T _ k p q
     show(aa (wOf R.2.es),(({((R.2.ln bar dn).bk n A).bar bar with ct:=R.2.ct+1}:Spt).S L).o,λl v1 f kk M=>step _ l v1 f kk _ (λ_ _=>rfl) (_,rfl,rfl),(λe=>nomatch e),λws e=>?_)
     cases e;show .go _ _ v (kwc bar dn A x T _ hR ha k p q (by change R.2.ct+1=_;rw[G]) v) g2 rfl
def wb{cn a:Str}{f:Xa}(h:M[i]?=aa (.deep o))(hi:o.isIns cn a=ac)(e:f M=aa (ds,ρ1,))(c:ρ1[i]?=aa (.deep o))(hm:∀l,m l ds o=aa (o',d,)):jO i cn a m f M=aa (d,ρ1.set i (.deep o'),):=by
 have(ns,os,rfl,_):=zj hi;unfold jO;rw[h];change(if (O.ins cn ns os).isIns cn a=ac then _ else ab)=_;rw[if_pos hi,e,ay,c];have b:∃q,∀l,m l ds _=aa q:=(_,hm);dsimp only;rw[dif_pos b];have:=b.choose_spec 0;rw[hm 0]at this;rw[<- c9 this]
inductive Sq:O->List (LI0)->O->Prop
 |nil {o o':O}:o.isIns "Seeking" "another"=ac->(∀l,m_8 l [] o=aa (o',.non,))->Sq o [] o'
 |cons {o o' oE:O} {w:LI0} {ws:List (LI0)}:o.isIns "Seeking" "another"=ac->(∀l,m_8 l [] o=aa (o',.lst (w.map D.int),))->Sq o' ws oE->Sq o (w::ws) oE
abbrev wsD(ws:List (LI0)):D:=.lst (ws.map λw=>.lst (w.map D.int))
nonrec def wD(w:LI0):D:=.lst (w.map D.int)
nonrec def woT:MF4:=(dC (mB (m2 gc (ae 4) kN)) (mB (m2 dLt (av cw (ag (cF 3) nZ)) (ae 1))))
nonrec def woB:MF3:=(ai (c8 3 (ae 4)) (fW 4 (jO 2 "Seeking" "another" m_8 cz)))
def Jw{a:D}{most:Int}{oE:O}{K:Fl->Prop}:∀(ws:List (LI0)) (w:LI0) (o:O) (fs:List (LI0)) (k:Nat),Sq o ws oE->(fs.length:Int)<=most->fs.length+ws.length<10000000->ws.length+2<=k->(((fs++w::ws).length:Int)<=most->K (.nx [.im a,.im (.int most),.deep oE,.own ((fs++w::ws).map wD),.im .non]))->((¬((fs++w::ws).length:Int)<=most)->∀o' d,K (.nx [.im a,.im (.int most),.deep o',.own (((fs++w::ws).take most.toNat).map wD),.im (wD d)]))->wp (df woT woB k) [.im a,.im (.int most),.deep o,.own (fs.map wD),.im (wD w)] K
 |ws,w,o,fs,0,_,_,_,h,_,_=>absurd h (by lia)
 |ws,w,o,fs,k+1,hs,hm,hl,hk,k1,k2=>by
  have e:woT [.im a,.im (.int most),.deep o,.own (fs.map wD),.im (wD w)]=aa (decide (fs.length<most)):=by
   show(jI (a:=ac) rfl (bB (ap (aE rfl (d9 fs wD)) rfl rb))).trans ?_;rw[p8]
  by_cases c:fs.length<most
  .rw[decide_eq_true c]at e;show Jv e ?_;apply ak;show fU rfl rfl (by rw[aA];lia) ?_;have g:fs.map wD++[wD w]=(fs++[w]).map wD:=by rw[a9];rfl
   cases hs with
   |nil hi b=>
    show jw (wb rfl hi rfl rfl b) ?_;rw[g];obtain⟨k,rfl⟩:∃j,k=j+1:=(k-1,by lia);show sJ (by unfold woT dC;rfl) (k1 ?_);rw[aR];change((fs.length+1:Nat):Int)<=_
    lia
   | @cons _ o' _ d ws' hi b f=>
    show jw (wb rfl hi rfl rfl b) ?_;rw[g];have i:fs++w::d::ws'=(fs++[w])++d::ws':=by rw[cI];rfl
    rw[i]at k1 k2;simp only[cr]at hl hk;show Jw ws' d o' _ k f (by rw[aR];change((fs.length+1:Nat):Int)<=_;lia) (by rw[aR];change fs.length+1+_<_;lia) (by lia) k1 k2
  .rw[decide_eq_false c]at e;have l:fs.length=most.toNat:=by lia
   have:=k2 (by rw[aR,cr];lia) o w;rw[<- l,take_left' rfl]at this;show sJ e this
def Vk{f:Xa}(h:M[i]?=aa (.deep (.at l o0)))(b:f M=aa (ds,ρ1,))(a:ρ1[i]?=aa (.deep (.at l o)))(hm:m l ds o=aa (o',d,)):lN i m f M=aa (d,ρ1.set i (.deep (.at l o')),):=by
 unfold lN;simp only[h,b,ay,a];change(m l ds o).map _=_;rw[hm];rfl
abbrev s00(n:Nat)(L:LRu):Spt:=spT (gX n ab) L
def Vl(P:Par n c0 V5 V3 L)(l:Addr):Bv l [pl0 n L] (.ins "Seeking" [] [])=aa (((s00 n L).S L).o,.non,):=by
 have hn:=P.hn;have e0:=TQ (v:=n) (es:=gX n ab) P.hn P.hr P.hz l;rw[Uh]at e0;apply fE;apply ak;show jq (Vk rfl (dE rfl (dE rfl (dE (bR ?_) rfl))) rfl e0) ?_
 .rw[map_replicate];show(gK _ _ _ ((qU (ao (bg rfl rfl rfl) rfl) (by lia) (by lia)).trans (by rw[dF])) (by rw[cV];lia) λ_ _=>gg rfl rfl rfl).trans ?_;rw[map_const',cV];rfl
 apply ak;show gP (nA rfl) rfl rfl ?_;apply ak;show gP (rX rfl) rfl rfl (gP (rX rfl) rfl rfl (_,rfl,rfl,rfl))
variable{q:Nat}
def hd0(P:Par n (64*q*L.length) V5 V3 L)(c:∀r∈L,(grd r).length<=q):Hd n (64*q*L.length) V5 V3 L (s00 n L) []:=by
 have hC:=P.hC;have b:=UR P.hn (lW (a:=ab)) λr hr=>(P.hr r hr,c r hr);have t:TrS n L (s00 n L) []:=(rfl,rfl,trivial);show(Ju P t b.bk (b.tw.wk.le (by lia),b.tw.vl,b.tw.br) b.wv b.ms (by have:=b.wl;change(spT _ L).wt.length<=_;rw[this];change L.length+0<=_;lia),b.tw,t,rfl,rfl,cj _)
def Vm{fd:List (LI0)}(h:Fin L F fd o):Sq o [] o:=by
 have(s,e,_,_,_,rfl):=h.ex;show .nil rfl λl=>?_;apply fE;apply ak;show sJ (oU (dh (kC rfl) (by change mM (.bl s.en)=aa ac;rw[e];rfl))) (jp rfl (_,rfl,rfl,rfl))
def Jx(P:Par n c0 V5 V3 L)(K:Car n c0 V5 V3 L I F):∀(g:Nat) (s:Spt) (st:LSp) (fd:List (LI0)),Hd n c0 V5 V3 L s st->I s st fd->3 ^ n-nv n L V5 s<=g->∃ws oE,Sq (s.S L).o ws oE/\Fin L F (fd++ws) oE/\ws.length<=g
 | g,s,st,fd,h,hI,hμ=>by
  have hC:=P.hC;have h2:=P.h2;have y:nv n L V5 s<3 ^ n:=sI _ _;have(r,o,q,u,v):=Dx P K _ s st fd h hI (aL _)
  have run:∀l,m_8 l [] (s.S L).o=aa (o,match r with |none=>.non |some w=>wD w,):=λl=>by
   apply fE;apply ak;show Pb (q l _ _ 999999999 (by lia)) λx m=>?_
   cases r with
   |none=>
    have(M,rfl,e):=m
    show jp rfl (o,e,rfl,rfl)
   |some w=>
    have(M,rfl,e):=m;show(o,e,rfl,rfl)
  cases r with
  |none=>show([],o,.nil rfl run,by rw[bQ];show u rfl,cj _)
  |some w=>
   cases v w rfl with
   |fin f=>show([w],o,.cons rfl run (Vm f),f,by change 1<=g;lia)
   |go z i a b c d=>
    subst d
    match g,hμ with
    | 0,hμ=>lia
    | g+1,hμ=>
     have(ws,oE,p,j,A):=Jx P K g z i _ a b (by lia);show(w::ws,oE,.cons rfl run p,by rw[cI]at j;show j,by simp only[cr];lia)
def Vn(P:Par n (64*q*L.length) V5 V3 L)(f:∀r∈L,(grd r).length<=q)(K:Car n (64*q*L.length) V5 V3 L I F)(e:I (s00 n L) [] []):∃(ws:List (LI0)) (s:Spt),F s ws/\s.pp≠[]/\ws.length<=3 ^ n/\∀most:Int,0<=most->m_0 [pl0 n L,.int most]=aa (if (ws.length:Int)<=most then .tup [wsD ws,.bl ac,.lst s.pp] else .tup [wsD (ws.take most.toNat),.bl af,.lst []]):=by
 have hC:=P.hC;have h2:=P.h2;have(ws,oE,c,(s,f1,f2,h,d,rfl),b):=Jx P K (3 ^ n) _ [] [] (hd0 P f) e (by lia);show(ws,s,d,f2,b,λmost hm=>?_);apply jM;apply ak;show P5 (Tz rfl (λl=>Vl P l)) ?_;apply ak;show dO rfl ?_;apply ak
 cases c with
 |nil hi hr=>
  show jw (wb rfl hi rfl rfl hr) ?_;apply ak;show sJ (by unfold dC;rfl) ?_;apply ak;show aY rfl (λ_=>?_) λq=>nomatch q
  show lB rfl (Ds rfl (eT rfl (fB ((if_pos (hm)).symm))))
 | @cons _ o' _ w ws hi hr g=>
  rw[cr]at b;show jw (wb rfl hi rfl rfl hr) ?_;apply ak;show Jw ws w o' [] _ g hm (by rw[length_nil];lia) (by lia) (λa=>?_) λa o2 i=>?_
  .apply ak;show aY rfl (λ_=>?_) λq=>nomatch q;show lB rfl (Ds rfl (eT rfl (fB ((if_pos (a)).symm))))
  .apply ak;show aY rfl (λq=>nomatch q) λ_=>b5 ?_;show lB rfl (eT rfl (fB ((if_neg (a)).symm)))
structure Scr(x:D)(ns:LI0):Prop where
 ln:cw [x]=aa (.int ns.length)
 sq:iB x=aa (ns.map D.int)
 sl:∀{f:MF1} {l h:LS->Option (Option Int)} {M:LS} {lo hi:Option Int},f M=aa x->l M=aa lo->h M=aa hi->mSl f l h M=aa (((ns.drop (HT.sIx ns.length 0 lo)).take (HT.sIx ns.length ns.length hi-HT.sIx ns.length 0 lo)).map D.int)
def Vo(ns:LI0):Scr (.kl (ns.map D.int)) ns:=(Go _ _,rfl,λe a b=>Gq e a b)
def Jy{x:D}(h:Scr x ns){i:Int}(b:0<=i):∃v,uU [x,.int i]=aa (.int v):=by
 by_cases a:i<ns.length
 .have(v,_,e):=km b a;show(v,dB (N1 (N2 (bB (ap rfl (aE rfl h.ln) (rb.trans (by rw[decide_eq_true a])))) (dA (bg h.sq rfl e)))))
 .show(0,dB (ur (N3 (bB (ap rfl (aE rfl h.ln) (rb.trans (by rw[decide_eq_false a])))) rfl) rfl))
def iP(c k:Int)(q:0<=k)(r:k<=100):∃v,m_3 [.int c,.int k]=aa (.int v)/\0<=v/\v<1000003:=by
 suffices h:∃d,m_3 _=aa d/\∃v:Int,d=.int v/\0<=v/\v<1000003 by
  have(d,e,v,rfl,h):=h;show(v,e,h)
 apply lD;have(p,i,n):=km (f:=D.int) (C:=[2147483647,1000000007,998244353,1000000009]) (dG _ (by decide)) (fY _ (by decide));have b:∀p∈([2147483647,1000000007,998244353,1000000009]:LI0),0<p/\p<=2147483647:=by decide
 have(j,u):=b p (dH i);have l:=dG c (show 10 ^ (18:Int).toNat≠0 by decide);have m:=fY c (show 0<10 ^ (18:Int).toNat by decide);have a:(10:Int) ^ (18:Int).toNat=1000000000000000000:=by decide
 have g:mF 10 18:=(by decide,by decide,by decide);apply ak;show bo (by walk_at "ev") ?_;apply ak;show bo (ap (ap (ap (ap rfl (ap rfl rfl (uE g)) (ca (by rw[a];decide))) (ap rfl (ap rfl rfl gj) (pc (.inr (by lia,by lia)))) gj) rfl (pc (.inr (by rw[a]at m l ⊢;lia,by lia)))) rfl (ca (by lia))) ?_;have o0:=dG ((c % 10 ^ (18:Int).toNat+15485863*(k+1))*48271) (show p≠0 by lia);have o1:=fY ((c % 10 ^ (18:Int).toNat+15485863*(k+1))*48271) j;generalize _*48271 % p=o at *;show eT (ap (ap rfl rfl (pc (.inr (by lia,by lia)))) rfl (ca (by decide))) (fB (_,rfl,dG _ (by decide),fY _ (by decide)))
def Vp(c k n:Int)(x:0<=k)(H:k<=90)(I:1<=n):∃d,AW [.int c,.int k,.int n]=aa d/\∃B:LII,d=.lst (B.map itD)/\InN n.toNat B/\B.length<=3:=by
 have(v,m,J,v1):=iP c k x (by lia);have t0:0<=v % 4:=dG _ (by decide);apply lD;apply ak;show dO rfl ?_;walk_at "nrm";apply ak;show dD _ _ (λpre M=>∃(B:List _) (f g h:Sl),M=[.im _,.im _,.im _,.own (B.map itD),f,g,h]/\InN n.toNat B/\B.length=pre.length) (qU (ao (ap (aE rfl m) rfl (ca (by decide))) rfl) t0 (by lia)) ([],_,_,_,rfl,(λz hz=>nomatch hz),rfl) ?_ ?_
 .rintro pre j post M ex ⟨B,f,g,h,rfl,b,e⟩;have G:j<(v % 4).toNat:=fI.mp (by rw[ex];simp)
  have r:pre.length<(v % 4).toNat:=by
   have:pre.length<(bO (v % 4).toNat).length:=by rw[ex];simp
   simpa using this
  have(a,l,A,E):=iP c (k+1+j) (by lia) (by lia);have(w,u,p):=km (C:=[1,1,a / 8 % 4,c % 10 ^ (60:Int).toNat]) (i:=a / 32 % 4) (dG _ (by decide)) (fY _ (by decide))
  have y:0<=w:=by
   have:=dH u;simp only[aZ,dq,or_false]at this
   rcases this with rfl |rfl |rfl |rfl
   .decide
   .decide
   .show dG _ (by decide)
   .show dG _ (sO p60)
  have m1:=fY (a / 128) (show 0<n by lia);show(_,rfl,?_);apply ak;show bo (aE (ao rfl (ao (ap (ap rfl rfl gj) rfl gj) rfl)) l) ?_;apply ak;show bo (bg (ao rfl (ao rfl (ao (ap (ap rfl rfl (lF (by walk_at "evS"))) rfl (ca (by decide))) (ao (ap rfl (ap rfl rfl (uE HK)) (ca p60)) rfl)))) (ap (ap rfl rfl (lF (by walk_at "evS"))) rfl (ca (by decide))) p) ?_;show fU (cS (ao (ap (ap rfl rfl (lF (by walk_at "evS"))) rfl (ca (by lia))) (ao rfl rfl))) rfl (by rw[aA];lia) (B++[(a / 128 % n,w,)],_,_,_,by rw[a9];rfl,λz hz=>?_,by rw[aR,aR,e];rfl)
  rcases bu.mp hz with q |q
  .show b z q
  .rw[bw.mp q];show((dG _ (show n≠0 by lia)),by change _<_;lia,y)
 .rintro M ⟨B,f,g,h,rfl,b,e⟩;rw[cV]at e;show mY rfl (jN (B,rfl,b,by lia))
def Vq(c k n:Int)(r:0<=k)(x:k<=80)(w:1<=n):∃d,uW [.int c,.int k,.int n]=aa d/\∃p:Prt,d=p.toD/\p.Ok n.toNat/\(nmP p).length<=3:=by
 have(v,m,E,v1):=iP c k r (by lia);have(u,l,y,A):=iP c (k+5) (by lia) (by lia);have(d,j,B,rfl,e,q):=Vp c (k+1) n (by lia) (by lia) w;have g:(B.map (·.1)).length<=3:=by rw[aA];show q
 apply lD;apply ak;show bo (aE rfl m) ?_;walk_at "nrm";apply ak;show aY (bB (ap (ap rfl rfl (ca (by decide))) rfl rb)) (λz=>?_) λz=>b5 ?_
 .have(wd,a,i):=km (f:=D.str) (C:=["in","in","out","out","in"]) (dG _ (by decide)) (of_decide_eq_true z);have h:=dG (v / 8) (show n≠0 by lia);have m1:=fY (v / 8) (show 0<n by lia);show eT (cS (ao (bg rfl (ap rfl rfl (ca (by decide))) i) (ao (ap (ap rfl rfl (lF (by walk_at "evS"))) rfl (ca (by lia))) rfl))) (fB ?_);have:=dH a;simp only[aZ,dq,or_false]at this;have one:1<=3:=by decide
  rcases this with rfl |rfl |rfl |rfl |rfl
  .show(.inn _,rfl,(h,by lia),one)
  .show(.inn _,rfl,(h,by lia),one)
  .show(.out _,rfl,(h,by lia),one)
  .show(.out _,rfl,(h,by lia),one)
  .show(.inn _,rfl,(h,by lia),one)
 .walk_at "nrm";have(wd,a,i):=km (f:=D.str) (C:=["least","most"]) (dG _ (by decide)) (fY _ (by decide));have a:=dH a;simp only[aZ,dq,or_false]at a
  have fin:∀b:Int,∃p:Prt,D.tup [.str wd,.int b,.lst _]=p.toD/\p.Ok n.toNat/\(nmP p).length<=3:=λb=>by
   rcases a with rfl |rfl
   .show(.least b B,rfl,(e,by lia),g)
   .show(.most b B,rfl,(e,by lia),g)
  apply ak;show bo (aE (ao rfl (ao (ap rfl rfl gj) (ao rfl rfl))) j) ?_;apply ak;show bo (aE (ao rfl (ao (ap rfl rfl gj) rfl)) l) ?_;walk_at "nrm";apply ak;show aY (bB (ap (ap rfl rfl (ca (by decide))) rfl (ko _ _))) (λz=>?_) λz=>b5 ?_
  .have c0:=dG c (sO p60);show eT (cS (ao (bg rfl (ap rfl rfl (ca (by decide))) i) (ao (ap (ap rfl (ap rfl rfl (uE HK)) (ca p60)) (ap (ap (ap rfl rfl (lF (by walk_at "evS"))) rfl (ca (by decide))) rfl lG) (pc (.inr (by lia,by lia)))) (ao rfl rfl)))) (fB (fin _))
  .show eT (cS (ao (bg rfl (ap rfl rfl (ca (by decide))) i) (ao (ap (ap (ap rfl rfl (lF (by walk_at "evS"))) rfl (ca (by decide))) rfl lG) (ao rfl rfl)))) (fB (fin _))
structure Ru5(n:Nat)(r:Rul):Prop where
 ok:r.Ok n
 nm:∀p∈r.ps,(nmP p).length<=3
 ln:r.ps.length<=3
def Ru5.k(h:Ru5 n r):RuK n r:=(h.ok,λp a=>cN (h.nm p a) (by decide),cN h.ln (by decide))
def Vr(c n:Int)(N:1<=n):∃d,AZ [.int c,.int n]=aa d/\∃r:Rul,d=r.toD/\Ru5 n.toNat r:=by
 have(v,H,v0,v1):=iP c 0 (by decide) (by decide);have(u,G,U,Y):=iP c 1 (by decide) (by decide);have(t,A,t0,t1):=iP c 2 (by decide) (by decide);have(wd,l,I):=km (f:=D.str) (C:=["make","make","make","make","may","may","may","never"]) (i:=v % 8) (dG _ (by decide)) (fY _ (by decide));have L:=dG t (show n≠0 by lia);have m1:=fY t (show 0<n by lia);have Q:=dG u (show(4:Int)≠0 by decide);have s1:=fY u (show(0:Int)<4 by decide);apply lD;change wp _ [.im _,.im _,.no,.no,.no] _;apply ak;show bo (d:=.str wd) (bg rfl (ap (aE rfl H) rfl (ca (by decide))) I) ?_;apply ak;show bo (d:=.int (u % 4)) (ap (aE rfl G) rfl (ca (by decide))) ?_;show uF (λM=>∃z:Int,M=[.im (.int c),.im (.int n),.im (.str wd),.im (.int z),.no]/\0<=z/\z<=3) ?_ ?_
 .show aY (jI (bB (ap rfl rfl (qT _ _))) (jI (bB (ap rfl rfl (ko _ _))) (bB (ap (ap (aE rfl A) rfl (ca (by decide))) rfl mW)))) (λ_=>?_) λ_=>?_
  .show bo rfl (k_J (2,rfl,by decide,by decide))
  .show b5 (k_J (u % 4,rfl,Q,by lia))
 .rintro M ⟨z,rfl,T,z3⟩
  have(ps,x,y,h):=Th (k:=1) (js:=[0,1]) (g:=ax 0) (ft:=λ_=>aa ac) (fe:=av uW (ag (ae 1) (ag (m2 d7 (kI 3) (m2 lJ (kI 6) (ae 0))) (ag (ae 2) nZ)))) (fi:=iC (ag (ae 3) nZ)) (M:=[.im (.int c),.im (.int n),.im (.str wd),.im (.int z),.no]) _ _ Prt.toD (λp=>p.Ok n.toNat/\(nmP p).length<=3) (qU rfl T (by lia)) (by rw[cV];lia) λj B=>by
   have B:=fI.mp B;have(d,E,p,rfl,a):=Vq c (3+6*j) n (by lia) (by lia) N;show(p,a,gg rfl rfl (aE (ao rfl (ao (ap rfl (ap rfl rfl (pc (.inr (by lia,by lia)))) gj) (ao rfl rfl))) E))
  rw[cV]at y;have m:ps.length<=3:=by lia
  apply ak;show bo (bR x) ?_;have l:=dH l;simp only[aZ,dq,or_false]at l
  have mk:∀w:Wrd,w≠.never->wd=w.s->∃r:Rul,D.tup [.str wd,.int (t % n),.lst (ps.map Prt.toD)]=r.toD/\Ru5 n.toNat r:=λw J e=>⟨(w,t % n,ps),by rw[e];cases w <;> first |rfl |show absurd rfl J,(λ_=>(L,by change t % n<_;lia),λp a=>(h p a).1,by change ps.length<=_;lia),λp a=>(h p a).2,m⟩
  apply ak;show aY (b:=wd == "never") (bB (ap rfl rfl (qT _ _))) (λe=>?_) λe=>b5 ?_
  .show eT (d:=.tup [.str wd,.non,.lst (ps.map Prt.toD)]) rfl (fB ((.never,0,ps),by rw[eq_of_beq e];rfl,(λq=>absurd rfl q,λp a=>(h p a).1,by change ps.length<=_;lia),λp a=>(h p a).2,m))
  .show eT (d:=.tup [.str wd,.int (t % n),.lst (ps.map Prt.toD)]) (cS (ao rfl (ao (ap (aE rfl A) rfl (ca (by lia))) (ao rfl rfl)))) (fB ?_)
   rcases l with q |q |q |q |q |q |q |q
   .show mk .make (λz=>nomatch z) q
   .show mk .make (λz=>nomatch z) q
   .show mk .make (λz=>nomatch z) q
   .show mk .make (λz=>nomatch z) q
   .show mk .may (λz=>nomatch z) q
   .show mk .may (λz=>nomatch z) q
   .show mk .may (λz=>nomatch z) q
   .rw[q]at e;nomatch e
def ptE(h:f M=aa (.int v)):mPt f M=aa (aa v):=by unfold mPt;rw[h];rfl
def ru1{w:Wrd}{hd:Int}{ps:List Prt}(h:0<=hd/\hd<(n:Int))(a:∀p∈ps,p.Ok n/\(nmP p).length<=3)(b:ps.length<=3):Ru5 n (w,hd,ps):=((λ_=>h,λp q=>(a p q).1,by change ps.length<=_;lia),λp q=>(a p q).2,b)
def Vs(c n:Int)(x:0<=n)(A:n<=60):∃L:LRu,AU [.int c,.int n]=aa (L.map Rul.toD)/\(∀r∈L,Ru5 n.toNat r)/\L.length<=n.toNat:=by
 suffices h:wp uV _ (λr=>∃L:LRu,r=.rtO (L.map Rul.toD)/\(∀r∈L,Ru5 n.toNat r)/\L.length<=n.toNat) by
  have(r,e,L,rfl,h):=h;show(L,mZ e,h)
 apply ak;show dO rfl ?_;walk_at "nrm";apply ak;show dD _ _ (λpre M=>∃(L:LRu) (f:Sl),M=[.im _,.im _,.own (L.map Rul.toD),f]/\(∀r∈L,Ru5 n.toNat r)/\L.length<=pre.length) (qU rfl x (by lia)) ([],_,rfl,(λr hr=>nomatch hr),aL _) ?_ ?_
 .rintro pre j post M ex ⟨L,f,rfl,g,h2⟩;have y:j<n.toNat:=fI.mp (by rw[ex];simp)
  have v:pre.length<n.toNat:=by
   have:pre.length<(bO n.toNat).length:=by rw[ex];simp
   simpa using this
  have u:=dG (j+1:Int) (show n≠0 by lia);have m1:=fY (j+1:Int) (show 0<n by lia);have one:1<=3:=by decide
  have add:∀r:Rul,Ru5 n.toNat r->∃(a:LRu) (f:Sl),[.im _,.im _,.own (L.map Rul.toD++[r.toD]),.im (.int j)]=[Sl.im (.int c),.im (.int n),.own (a.map Rul.toD),f]/\(∀r∈a,Ru5 n.toNat r)/\a.length<=(pre++[j]).length:=λr hr=>(L++[r],_,by rw[a9];rfl,λq w=>by rcases bu.mp w with z |z;show g q z;rw[bw.mp z];show hr,by rw[aR,aR];show Nat.add_le_add_right h2 _)
  have no:∀{k:Int},c % 4≠k->∀M:LS,M[0]?=aa (.im (.int c))->mB (m2 dEq (m2 bL (ae 0) (kI 4)) (λ_=>aa _)) M=aa af:=λ{k} h M e=>bB (ap (ap (by unfold ae;rw[e]) rfl (ca (by decide))) rfl ((ko _ _).trans (by rw[beq_false_of_ne h])));have ye:∀{k:Int},c % 4=k->∀M:LS,M[0]?=aa (.im (.int c))->mB (m2 dEq (m2 bL (ae 0) (kI 4)) (λ_=>aa _)) M=aa ac:=λ{k} h M e=>bB (ap (ap (by unfold ae;rw[e]) rfl (ca (by decide))) rfl ((ko _ _).trans (by rw[h,beq_self_eq_true])));show(_,rfl,?_);apply ak
  by_cases i:c % 4=1
  .show aY (ye i _ rfl) (λ_=>?_) λz=>nomatch z;show fU (d:=Rul.toD (.make,j,[.inn _])) (cS (ao rfl (ao rfl (ao (bR (ao (cS (ao rfl (ao (ap (ap rfl rfl gj) rfl (ca (by lia))) rfl))) rfl)) rfl)))) rfl (by rw[aA];lia) ?_;apply ak;show aY (no (by lia) _ rfl) (λz=>nomatch z) λ_=>b5 ?_;show aY (no (by lia) _ rfl) (λz=>nomatch z) λ_=>b5 (add _ (ru1 (by lia,by lia) (λp b=>by rw[bw.mp b];show((u,by lia),one)) one))
  .show aY (no i _ rfl) (λz=>nomatch z) λ_=>b5 ?_;apply ak
   by_cases l:c % 4=2
   .show aY (ye l _ rfl) (λ_=>?_) λz=>nomatch z;show fU (d:=Rul.toD (.make,j,[.out _])) (cS (ao rfl (ao rfl (ao (bR (ao (cS (ao rfl (ao (ap (ap rfl rfl gj) rfl (ca (by lia))) rfl))) rfl)) rfl)))) rfl (by rw[aA];lia) ?_;show aY (no (by lia) _ rfl) (λz=>nomatch z) λ_=>b5 (add _ (ru1 (by lia,by lia) (λp b=>by rw[bw.mp b];show((u,by lia),one)) one))
   .show aY (no l _ rfl) (λz=>nomatch z) λ_=>b5 ?_
    by_cases m:c % 4=3
    .show aY (ye m _ rfl) (λ_=>?_) λz=>nomatch z;show fU (d:=Rul.toD (.may,j,[])) rfl rfl (by rw[aA];lia) (add _ (ru1 (by lia,by lia) (λp b=>nomatch b) (cj _)))
    .show aY (no m _ rfl) (λz=>nomatch z) λ_=>b5 (L,_,rfl,g,by rw[aR];lia)
 .rintro M ⟨L,f,rfl,g,h2⟩;rw[cV]at h2;show mY rfl (L,rfl,g,h2)
def Vt{x:D}(B:Scr x ns)(U:ns.length<=63){top:Int}(t1:1<=top)(t6:top<=6):∃(n:Nat) (L:LRu),uX [x,.int top]=aa (pl0 n L)/\(n:Int)<top/\(∀r∈L,Ru5 n r)/\L.length<=5+ns.length:=by
 suffices h:∃d,uX _=aa d/\∃(n:Nat) (L:LRu),d=pl0 n L/\n<top/\(∀r∈L,Ru5 n r)/\L.length<=5+ns.length by
  have(d,e,n,L,rfl,h):=h;show(n,L,e,h)
 have(v,I):=Jy B (Int.le_refl _);have E:=dG v (show top≠0 by lia);have m1:=fY v (show 0<top by lia);have(L,j,N,h2):=Vs _ _ E (by lia);have(u,Y,H):=km (f:=D.int) (C:=[60,60,40,24,10,5]) E (by change v % top<6;lia);apply lD;apply ak;show bo (aE rfl I) ?_;apply ak;show bo (ap rfl rfl (ca (by lia))) ?_;apply ak
 show dO (uG (ao (ap rfl rfl (lF (by first |show .inl (by lia,by lia) |show .inr (by lia,by lia) |show(by lia,by lia)))) (ao rfl rfl)) j) ?_
 have g:((ns.drop (HT.sIx ns.length 0 (aa 1))).take (HT.sIx ns.length ns.length (aa (1+u))-HT.sIx ns.length 0 (aa 1))).length<=ns.length:=by
  grind
 generalize m:(ns.drop _).take _=A at g;generalize hn:v % top=n at *;apply ak;show dD A D.int (λpre M=>∃(a:LRu) (i:Sl),M=[.im x,.im _,.im _,.im _,.own (a.map Rul.toD),i]/\(∀r∈a,Ru5 n.toNat r)/\a.length<=5+pre.length) (eS (bR ((B.sl rfl rfl (ptE (ap rfl (bg rfl rfl H) gj))).trans (by rw[m]))) rfl) (L,_,rfl,N,by change _<=5;lia) ?_ ?_
 .rintro pre c post M ex ⟨a,i,rfl,l,J⟩;have Q:pre.length<A.length:=by rw[ex];simp
  have add:∀r:Rul,Ru5 n.toNat r->∃(b:LRu) (i:Sl),[.im x,.im _,.im _,.im _,.own (a.map Rul.toD++[r.toD]),.im (.int c)]=[Sl.im x,.im (.int top),.im (.int v),.im (.int n),.own (b.map Rul.toD),i]/\(∀r∈b,Ru5 n.toNat r)/\b.length<=5+(pre++[c]).length:=λr hr=>(a++[r],_,by rw[a9];rfl,λq T=>by rcases bu.mp T with z |z;show l q z;rw[bw.mp z];show hr,by rw[aR,aR];change _+1<=5+(_+1);lia)
  show(_,rfl,?_);show aY (bB (ap rfl rfl (ko _ _))) (λz=>?_) λz=>?_
  .have w:n=0:=by simpa using z
   show fU (d:=Rul.toD (.never,0,[.most _ []])) (cS (ao rfl (ao rfl (ao (bR (ao (cS (ao rfl (ao (ap (ap rfl rfl (ca (by decide))) rfl lG) (ao rfl rfl)))) rfl)) rfl)))) rfl (by rw[aA];lia) (add _ ((λq=>absurd rfl q,(λp y=>by rw[bw.mp y];show(λz hz=>(nomatch hz),cj _)),(by decide:1<=100000)),λp y=>by rw[bw.mp y];show cj _,(by decide:1<=3)))
  .have w:n≠0:=λq=>by rw[q]at z;nomatch z
   have(d,G,r,rfl,hr):=Vr c n (by lia);show fU (aE rfl G) rfl (by rw[aA];lia) (add r hr)
 .rintro M ⟨a,i,rfl,l,J⟩;show lB rfl (eT rfl (fB (n.toNat,a,?_,by lia,l,by lia)));unfold pl0;rw[show(n.toNat:Int)=n by lia]
def Jz(p:Prt):uS [p.toD]=aa p.toD:=by
 cases p with
 |inn t=>rfl
 |out t=>rfl
 |least k B=>rfl
 |most k B=>rfl
def JA(hr:∀r∈L,Ru5 n r)(f:L.length<=1000):uT [pl0 n L]=aa (pl0 n L):=by
 apply jM;apply ak;show dO rfl ?_;apply ak;show dD L Rul.toD (λpre M=>∃a b c,M=[.im _,.own (pre.map Rul.toD),a,b,c]) (eS (bg rfl rfl rfl) rfl) (_,_,_,rfl) ?_ ?_
 .rintro pre r post M ex ⟨a,b,c,rfl⟩;have d:pre.length<L.length:=by rw[ex];simp
  have e:=(hr r (by rw[ex];simp)).ln;show(_,rfl,?_);show fU (cS (ao rfl (ao rfl (ao (bR (gK r.ps Prt.toD Prt.toD rfl (by lia) λp _=>gg rfl rfl (aE rfl (Jz p)))) rfl)))) rfl (by rw[aA];lia) (.im (.str r.w.s),.im r.hdD,.im (.lst (r.ps.map Prt.toD)),?_);rw[a9];rfl
 .rintro M ⟨a,b,c,rfl⟩;show lB rfl (eT rfl (fB rfl))
def JB(a:n<=5)(hr:∀r∈L,Ru5 n r)(c:L.length<=69):Par n (64*4*L.length) 950900 4760000 L:=by
 have b:3 ^ n<=243:=Nat.pow_le_pow_right (by decide) a
 have key:∀V5 V3:Nat,V5=950900->V3=4760000->Par n (64*4*L.length) V5 V3 L:=λV5 V3 hC hB=>by
  show(λr q=>(hr r q).k,by lia,by lia,by lia,by lia,by lia)
 show key _ _ rfl rfl
def JC(hr:∀r∈L,Ru5 n r):∀r∈L,(grd r).length<=4:=λr q=>by
 have:=(hr r q).ln;have(w,hd,ps):=r;have this:ps.length<=3:=this
 cases w with
 |may=>show(by decide:1<=4)
 |never=>change ps.length<=4;lia
 |make=>change(ps++[_]).length<=4;rw[aR];change _+1<=4;lia
variable{e:LOB}
def JD(c:p.Ok e.length)(t0:0<=t)(t1:t<(e.length:Int))(a:opn e t=ac)(h:t∉nmP p\/gQ p≠b):p.sure (put e t.toNat b)=p.sure e:=by
 rcases h with h |h
 .show TD c (by grind)
 .have d:=iM a
  cases p with
  |inn u=>
   cases b with
   |true=>show absurd rfl h
   |false=>
    change((put e t.toNat af).getD u.toNat ab==aa ac)=(e.getD u.toNat ab==aa ac)
    by_cases q:u.toNat=t.toNat
    .rw[q,eU e af (by lia),d];rfl
    .rw[cZ e af q]
  |out u=>
   cases b with
   |false=>show absurd rfl h
   |true=>
    change((put e t.toNat ac).getD u.toNat ab==aa af)=(e.getD u.toNat ab==aa af)
    by_cases q:u.toNat=t.toNat
    .rw[q,eU e ac (by lia),d];rfl
    .rw[cZ e ac q]
  |least k B=>
   cases b with
   |true=>show absurd rfl h
   |false=>
    change decide _=decide _;rw[vE c.1 t0 t1 a af]
    simp
  |most k B=>
   cases b with
   |false=>show absurd rfl h
   |true=>
    change decide _=decide _;rw[vF c.1 t0 t1 a ac];simp
structure d6(G:List Prt)(es:LOB)(S:LI0):Prop where
 ns:¬d5 G es
 np:∀(t:Int) (b:Bool),0<=t->t<(es.length:Int)->opn es t=ac->d5 G (put es t.toNat (!b))->t∈S
variable{S:LI0}
def d6.pt(h:d6 G es (t::S))(i:∀p∈G,p.Ok es.length)(t0:0<=t)(t1:t<(es.length:Int))(j:opn es t=ac)(hn:∀p∈G,t∉nmP p\/gQ p≠b):d6 G (put es t.toNat b) S:=by
 show(λq=>h.ns λp a=>by rw[<- JD (i p a) t0 t1 j (hn p a)];show q p a,λu c d l f q=>?_);rw[b9]at l
 have ne:u≠t:=λe=>by
  unfold opn at f;rw[e,eU es b (by lia)]at f
  grind
 have g:opn es u=ac:=by rw[<- Dd d t0 ne];show f
 have:=h.np u c d l g λp a=>by
  have e:=JD (e:=put es u.toNat (!c)) (by rw[b9];show i p a) t0 (by rw[b9];show t1) (vL t0 d (λe=>ne e.symm) j) (hn p a);rw[<- e,vK (by lia)]
  grind
 grind
def d6.of_prs{ps:List Pr}(c:∀p∈G,p.Ok es.length)(h:prs G es=aa ps):d6 G es (ps.map (·.1)):=by
 have(_,h2,p,e,a):=nJ c h;show((λq=>by rw[q p e]at a;nomatch a),λt b t0 t1 d q=>(aJ.mpr (_,(h2 (t,b,)).mpr ((t0,t1),d,q),rfl)))
abbrev Wch(L:LRu)(bs:LLP)(tw:Wt)(y:Wy):Prop:=∀p∈bN L bs y,∀t∈nmL p,y∈look tw (t,gQ p,)
abbrev Jq(L:LRu)(s:Spt)(y0:Wy)(S:LI0):Prop:=∀y∈gys L.length s.bs.length,Wch L s.bs s.tw y->y∈s.wt\/d6 (bN L s.bs y) s.es (if y=y0 then S else [])
def d6.more{f:LI0}(h:d6 G es S)(g:∀t∈S,t∈f):d6 G es f:=(h.ns,λt b a c d e=>g t (h.np t b a c d e))
variable{y0:Wy}
def Jq.pt{w:D}(hr:∀r∈L,RuK n r)(k:SpJ n c V3 L s)(h:Jq L s y0 (t::S))(t0:0<=t)(t1:t<(n:Int))(g:opn s.es t=ac):Jq L (s.pt t b w) y0 S:=λy i e=>by
 have f:∀p∈bN L s.bs y,p.Ok s.es.length:=by rw[k.es];show nK hr k.bk
 rcases h y i e with q |q
 .show .inl (bT _ q)
 .by_cases hn:∀p∈bN L s.bs y,t∉nmP p\/gQ p≠b
  .show .inr (d6.pt (q.more ?_) f t0 (by rw[k.es];show t1) g hn)
   grind
  .have(p,a):=Classical.not_forall.mp hn;have(a,d):=Classical.not_imp.mp a;show .inl (cg _ ?_);have:=e p a t (rZ.mpr (Classical.not_not.mp λz=>d (.inl z)));rw[(Classical.not_not.mp λz=>d (.inr z))]at this;show this
def Jq.puts{n c V3:Nat}{L:LRu}{y0:Wy}{w:D}(hr:∀r∈L,RuK n r):∀{ps:List Pr} {s:Spt},SpJ n c V3 L s->fG s.es ps->Jq L s y0 (ps.map (·.1))->Jq L (puts s w ps) y0 []
 | [],_,_,_,h=>h
 |z::ps,s,k,p,h=>by
  have((a,b),e):=p.op z az;have b:z.1<n:=by rw[<- k.es];show b
  show Jq.puts hr (ps:=ps) (k.pt a b e).1 p.tail (Jq.pt hr k h a b e)
abbrev Jr(L:LRu)(s:Spt):Prop:=∀y0,Jq L s y0 []
def Jr.of(h:Jq L s y0 []):Jr L s:=λ_ y b a=>by
 rcases h y b a with q |q
 .grind
 .grind
def JE{n c V3:Nat}{L:LRu}(hr:∀r∈L,RuK n r):∀(k:Nat) (s:Spt),SpJ n c V3 L s->Me c s<k->Jr L s->(lrF L k s).1=ab->Jr L (lrF L k s).2
 | 0,_,_,h,_,_=>absurd h (io _)
 |k+1,s,h,hk,hj,he=>by
  cases b:s.wt with
  |nil=>rw[ss b];show hj
  |cons y wt=>
   have(f,h2,m):=h.pop b;have g:∀p∈bN L s.bs y,p.Ok s.es.length:=by rw[h.es];show nK hr h.bk
   cases a:prs _ s.es with
   |none=>rw[sw b a]at he;cases he
   |some ps=>
    rw[pR b a]at he ⊢;have(i,u,_):=nJ g a;have(l,v):=nI f i;show JE hr k _ l (by lia) (Jr.of (Jq.puts (y0:=y) hr f i ?_)) he;intro x j d
    by_cases e:x=y
    .rw[if_pos e];show .inr (by rw[e];show d6.of_prs g a)
    .rw[if_neg e]
     rcases hj x x j d with q |q
     .grind
     .grind
def JF{n c V3:Nat}{L:LRu}{wo:LB0}(hr:∀r∈L,RuK n r):∀{ts:LI0} {s:Spt},SpJ n c V3 L s->fG s.es (ts.map λt=>(t,af,))->Jr L s->Jr L (eD L wo s ts)
 | [],_,_,_,h=>h
 |t::ts,s,k,p,h=>by
  have((a,b),e):=p.op _ az;have b:t<n:=by rw[<- k.es];show b
  show JF hr (ts:=ts) (k.pt a b e).1 p.tail (Jr.of (y0:=(af,0,)) (Jq.pt hr k (λy g f=>?_) a b e))
  rcases h y y g f with q |q
  .grind
  .rw[if_pos rfl]at q;show .inr (q.more λu d=>nomatch d)
abbrev sK(L:LRu)(es:LOB):Prop:=∀wo,Grp L es wo->∀i,wo.getD i af=af
def Vu(hm:eY es.length ms)(pm:ms.Perm (fF L))(g:Grp L es wo)(i:Nat)(hi:wo.getD i af=ac):(cf es ms).1.getD i af=ac:=by
 have(e,_):=Ij hm.ne;show TU hm.ok e.pe (by rw[g.len];unfold jt;rw[aA]) (λj a=>?_) (λj a=>by rw[getD_nil]at a;nomatch a) (λr hr d=>?_) i hi
 .have f:=g.no j a
  have c:j<es.length:=by
   rw[<- g.len]
   grind
  unfold jt
  grind
 .have(_,h2,b):=Ie d;rw[g.up r (pm.mem_iff.mp hr) h2]at b
  grind
def Vv(wo:LB0)(es:LOB)(l:wo.length=es.length)(i:Nat):(sr es wo).getD i ab=if wo.getD i af=ac then aa af else es.getD i ab:=by
 unfold sr
 have gen:∀(ts:LI0) e,e.length=es.length->(∀t∈ts,0<=t/\t<es.length)->(ts.foldl (λes t=>put es t.toNat af) e).getD i ab=if (i:Int)∈ts then aa af else e.getD i ab:=by
  intro ts
  induction ts with
  |nil=>intro e _ _;rfl
  |cons t ts j=>
   intro e f c;have(a,b):=c t az;rw[fH,j _ (by rw[b9];show f) λu g=>c u (bh _ g)]
   by_cases d:(i:Int)∈ts
   .grind
   .rw[if_neg d]
    by_cases h2:i=t
    .rw[if_pos (by grind),show i=t.toNat by lia,eU e af (by lia)]
    .rw[if_neg (λq=>by rcases aZ.mp q with z |z;show h2 z;show d z),cZ e af (by lia)]
 rw[gen _ es rfl λt c=>?_]
 .by_cases h:wo.getD i af=ac
  .rw[if_pos h,if_pos ((vm wo i).mpr (by lia,by rw[dF];show h))]
  .rw[if_neg h,if_neg (λq=>h (by have:=((vm wo i).mp q).2;rwa [dF]at this))]
 .have(t0,tw):=(vm wo t).mp c
  grind
def lost_by(h:p.Ok es.length)(a:∀i,es.getD i ab=aa ac->es'.getD i ab=aa ac)(h2:∀i,(es.getD i ab=aa af\/wo.getD i af=ac)->(es'.getD i ab=aa af\/wo'.getD i af=ac))(s:p.lost es wo=ac):p.lost es' wo'=ac:=IU h (λt _=>a _) (λt _=>h2 _) s
def Vw(hr:∀r∈L,RuK n r)(hz:L.length<=1000)(h:SpJ n c V3 L s)(y:(bE L s).1=ab):sK L (bE L s).2.es:=by
 have hm:=eY.of hr hz h.ms;have(M,l,pm,B):=h.rem' hm;unfold bE at y ⊢
 cases G:inL s.es (cf s.es s.ms).1 with
 |cons x C=>rw[G]at y;nomatch y
 |nil=>
  have(_,_,T,_,_,_):=vS M (sD l.1 G B);rw[T,vO];change sK L (sr s.es (cf s.es s.ms).1);have b:=Vv (cf s.es s.ms).1 s.es l.1;have m:eY s.es.length s.ms:=by rw[h.es];show hm
  have A:=λwo i=>Vu (wo:=wo) m h.ms (i:=i);generalize (cf s.es s.ms).1=wo at *
  have d:(sr s.es wo).length=s.es.length:=by
   have:∀(ts:LI0) e,(ts.foldl (λes t=>put es t.toNat af) e).length=e.length:=by
    intro ts
    induction ts with
    |nil=>intro e;rfl
    |cons t ts Q=>intro e;rw[fH,Q,b9]
   show this _ _
  intro w g i
  cases hi:w.getD i af with
  |false=>rfl
  |true=>
   exfalso
   have a:∀j,(nV (· || ·) wo w).getD j af=(wo.getD j af || w.getD j af):=λj=>by
    have N:w.length=wo.length:=by rw[g.len,d,l.1]
    grind
   have J:Grp L s.es (nV (· || ·) wo w):=by
    show(by rw[length_zipWith,g.len,d,l.1,sW],λj H=>?_,λr f I=>?_)
    .rw[a]at H
     rcases(jU _ _).mp H with q |q
     .grind
     .intro e;show g.no j q ?_
      grind
    .have v:=m.ok r (h.ms.mem_iff.mpr f);rw[a]at I
     rcases(jU _ _).mp I with q |q
     .show qV (λp E z=>lost_by (v.ps p E) (λj e=>e) (λj e=>e.imp id λu=>by rw[a,u];rfl) z) (l.2 r (h.ms.mem_iff.mpr f) q)
     .show qV (λp E z=>lost_by (by rw[d];show v.ps p E) (λj e=>?_) (λj e=>?_) z) (g.up r f q)
      .grind
      .rw[a]
       rcases e with e |e
       .rw[b]at e;split at e
        .rename_i u;show .inr (by rw[u];rfl)
        .show .inl e
       .show .inr (by rw[e];show p9 _)
   show g.no i hi ?_;rw[b,if_pos (A _ i J (by rw[a,hi];show p9 _))]
def Vx(hr:∀r∈L,RuK n r)(hz:L.length<=1000)(h:SpJ n c V3 L s)(g:Jr L s)(a:(bE L s).1=ab):Jr L (bE L s).2:=by
 have(e,f,pm,b):=h.rem' (eY.of hr hz h.ms);unfold bE at a ⊢
 cases d:inL s.es (cf s.es s.ms).1 with
 |cons x C=>rw[d]at a;nomatch a
 |nil=>show JF hr e (sD f.1 d b) g
def JG{n c V3:Nat}{L:LRu}(hr:∀r∈L,RuK n r)(hz:L.length<=1000):∀(k:Nat) (s:Spt),SpJ n c V3 L s->Me c s<k->Jr L s->(stF L c k s).1=ab->Jr L (stF L c k s).2/\(stF L c k s).2.wt=[]/\sK L (stF L c k s).2.es
 | 0,_,_,h,_,_=>absurd h (io _)
 |k+1,s,h,hk,hj,he=>by
  have l:=sx hr _ s h (c6 _);have f:=JE hr _ s h (c6 _) hj;unfold stF at he ⊢;generalize lrF L _ s=R at l f he ⊢
  by_cases b:R.1.isSome=ac
  .simp_all
  .rw[if_neg b]at he ⊢;have(g,q,u,v,i,w):=vT hr hz l.ok;have j:=Vx hr hz l.ok (f (none_of b));have pg:=Vw hr hz l.ok;have p:=l.le;generalize bE L R.2=P at *
   by_cases a:(P.1.isSome || P.2.wt.isEmpty)=ac
   .grind
   .rw[if_neg a]at he ⊢;have d:=none_of λe=>a (by rw[e];rfl);have h2:P.2.wt≠[]:=λe=>a (by grind);have m:=i d (l.no (none_of b)) h2;show JG hr hz k P.2 g (by lia) (j d) he
abbrev Ind(bs:LLP)(tw:Wt)(j:Nat):Prop:=∀p,cn tw p (ac,j,)=if p∈bs.getD j [] then 1 else 0
structure Dw(L:LRu)(bs:LLP)(tw:Wt):Prop where
 ru:∀i,i<L.length->Wch L bs tw (af,i,)
 br:∀j,j<bs.length->Ind bs tw j\/∃j2,j<j2/\j2<bs.length/\∀p∈bs.getD j2 [],p∈bs.getD j []
def Vy{p q:Pr}{z:Wy}(h:z∈look tw q):z∈look (gB p y tw) q:=by
 rw[sj]
 grind
def Dy{b:Bool}{q:Pr}{y z:Wy}:∀(ts:LI0) {tw:Wt},z∈look tw q->z∈look (ts.foldl (λtw t=>gB (t,b,) y tw) tw) q
 | [],_,h=>h
 |t::ts,tw,h=>Dy ts (Vy h)
def we{q:Pr}{y z:Wy}:∀(ps:List Prt) {tw:Wt},z∈look tw q->z∈look (fX y ps tw) q
 | [],_,h=>h
 |p::ps,tw,h=>we ps (Dy _ h)
def JH{y:Wy}:∀(ps:List Prt) {tw:Wt} {p:Prt} {t:Int},p∈ps->t∈nmL p->y∈look (fX y ps tw) (t,gQ p,)
 | [],_,_,_,h,_=>nomatch h
 |q::ps,tw,p,t,h,ht=>by
  rcases aZ.mp h with e |e
  .show we ps ?_;rw[<- e]
   have gen:∀(ts:LI0) tw,t∈ts->y∈look (ts.foldl (λtw t=>gB (t,gQ p,) y tw) tw) (t,gQ p,):=by
    intro ts
    induction ts with
    |nil=>intro tw h;cases h
    |cons u ts a=>
     intro tw h
     rcases aZ.mp h with e |e
     .show Dy ts ?_;rw[sj,if_pos (by rw[e])]
      grind
     .grind
   show gen _ tw ht
  .show JH ps e ht
def JI{q:Pr}{z:Wy}:∀(L:LRu) (i:Nat) {tw:Wt},z∈look tw q->z∈look (nG i L tw) q
 | [],_,_,h=>h
 |r::L,i,tw,h=>JI L _ (we _ h)
def JJ:∀(L:LRu) (i j:Nat) (tw:Wt) (r:Rul),L[j]?=aa r->∀p∈grd r,∀t∈nmL p,(af,i+j,)∈look (nG i L tw) (t,gQ p,)
 | [],_,_,_,_,h,_,_,_,_=>by cases h
 |r'::L,i,0,tw,r,h,p,hp,t,ht=>by
  cases h
  show JI L _ (JH _ hp ht)
 |r'::L,i,j+1,tw,r,h,p,hp,t,ht=>by
  have:=JJ L (i+1) j (fX (af,i,) (grd r') tw) r h p hp t ht;rw[show i+1+j=i+(j+1) by lia]at this;show this
def Vz(es:LOB)(L:LRu):Dw L [] (spT es L).tw:=by
 show(λi hi p a t c=>?_,λj b=>absurd b (io _))
 have e:bN L [] (af,i,)=grd L[i]:=by
  change((L[i]?).map grd).getD []=_;rw[b6 hi];rfl
 rw[e]at a;have:=JJ L 0 i [] L[i] (b6 hi) p a t c;rw[kP]at this;show this
def JK{bs:LLP}(a:∀b∈bs,b.Nodup)(p:Pr)(i:Nat):∀(V2:List Wy) (tw:Wt),cn (V2.foldl (ju bs) tw) p (af,i,)=cn tw p (af,i,)
 | [],_=>rfl
 |y::V2,tw=>by
  rw[fH,JK a p i V2,pQ a,if_neg (λx=>by rw[<- x.2.2]at x;cases x.1)]
def Dw.bar{bs:LLP}{b:List Pr}(h:Dw L bs tw)(k:dX c L.length bs tw)(bk:∀b∈bs,cT n b)(m:cT n b):Dw L (bs++[b]) (fX (ac,bs.length,) (brg b) (lQ bs tw b)):=by
 have a:=λb q=>(bk b q).pd;show(λi hi p d t u=>?_,λj r=>?_)
 .have:=h.ru i hi p d t u;show we _ (gS.mpr ?_);unfold lQ;rw[JK a];show gS.mp this
 .rw[aR,fZ]at r;unfold Ind
  by_cases e:j=bs.length
  .show .inl λp=>?_;rw[lR,if_pos e,e]
   have l:cn _ p (ac,bs.length,)=0:=Nat.eq_zero_of_not_pos λq=>by
    have:bs.length<bs.length:=eW.mp ((k.dropped a b).vl p _ (gS.mpr q));show gy _ this
   rw[C7,l,kP,m.pd.count]
  .have f:j<bs.length:=by lia
   rw[lR,if_neg e]
   by_cases g:(ac,j,)∈wider tw b
   .show .inr (bs.length,f,by rw[aR,fZ];lia,λp d=>?_);rw[lR,if_pos rfl]at d;show(k.wide g).2.2.1 p d
   .rcases h.br j f with q |⟨j2,q1,q2,q3⟩
    .show .inl λp=>?_;rw[nH λz=>e (sY z).2];unfold lQ;rw[vJ a p _ _ _ g];show q p
    .show .inr (j2,q1,by rw[aR,fZ];lia,λp d=>?_);rw[lR,if_neg (by lia)]at d;show q3 p d
structure jz(L:LRu)(bs:LLP)(es:LOB):Prop where
 ru:∀r∈L,d6 (grd r) es []
 br:∀b∈bs,d6 (brg b) es []
 gr:sK L es
def d6.sub{g:List Prt}(h:d6 G es S)(i:∀p∈G,p∈g):d6 g es S:=(λq=>h.ns λp f=>q p (i p f),λt b a c d e=>h.np t b a c d λp f=>e p (i p f))
def Ind.wch{bs:LLP}(h:Ind bs tw j):Wch L bs tw (ac,j,):=λp c t a=>by
 have(z,hz,rfl):=aJ.mp c
 have e:t=z.1/\gQ (brP z)=z.2:=by
  have(u,b):=z
  cases b with
  |true=>show(bw.mp a,rfl)
  |false=>show(bw.mp a,rfl)
 rw[e.1,e.2];show gS.mpr ?_;rw[h z,if_pos hz]
 grind
def JL(hr:∀r∈L,RuK n r)(hz:L.length<=250)(J:SpJ n c V3 L s)(jr:Jr L s)(v:Dw L s.bs s.tw)(A:(stF L c (Me c s+1) s).1=ab)(h:(stF L c (Me c s+1) s).2.tw=s.tw):jz L s.bs (stF L c (Me c s+1) s).2.es/\Jr L (stF L c (Me c s+1) s).2:=by
 have g:=(Dj hr (by lia) _ _ J (c6 _)).bs;have(x,j2,I):=JG hr (by lia) _ _ J (c6 _) jr A;show(?_,x);generalize stF L c _ s=R at *
 have w:∀y∈gys L.length s.bs.length,Wch L s.bs s.tw y->d6 (bN L s.bs y) R.2.es []:=λy G E=>by
  rcases x y y (by rw[g];show G) (by rw[g,h];show E)with z |z
  .rw[j2]at z;nomatch z
  .rw[if_pos rfl,g]at z;show z
 have a:∀(m j:Nat),s.bs.length-j=m->j<s.bs.length->d6 (brg (s.bs.getD j [])) R.2.es []:=by
  intro m
  induction m using Nat.strongRecOn  with
  |ind m H=>
   intro j hm d
   rcases v.br j d with z |⟨j2,z1,z2,z3⟩
   .show w _ (eW.mpr d) z.wch
   .show(H _ (by lia) j2 rfl z2).sub λp B=>?_;have(u,C,rfl):=aJ.mp B;show aJ.mpr (u,z3 u C,rfl)
 show(λr q=>?_,λb l=>?_,I)
 .have(i,hi):=nR q;have f:=(cU.mp hi).1;have:=w _ (eW.mpr f) (v.ru i f)
  have e:bN L s.bs (af,i,)=grd r:=by
   change((L[i]?).map grd).getD []=_;rw[hi];rfl
  rw[e]at this;show this
 .have(j,d):=nR l;have:=a _ j rfl ((cU.mp d).1);rw[bH,d]at this;show this
def JM{bs:LLP}(d:y∈gys L.length bs.length):(∃r∈L,bN L bs y=grd r)\/∃b∈bs,bN L bs y=brg b:=by
 have(a,j):=y;have c:=eW.mp d
 cases a with
 |false=>
  show .inl (L[j],ij c,?_);change((L[j]?).map grd).getD []=_
  grind
 |true=>
  show .inr (bs[j],ij c,?_);change brg _=_
  grind
variable{F:LOB}
def pX{t:Nat}(f:cM e F)(h:F.getD t ab=aa b):cM (put e t b) F:=by
 show(by rw[b9];show f.len,λi=>?_)
 by_cases q:i=t
 .by_cases a:t<e.length
  .rw[q,eU e b a];grind
  .show .inl (by rw[q,bH,ig (by rw[b9];lia)];rfl)
 .rw[cZ e b q];show f.at' i
abbrev wg(F:LOB)(wo:LB0):LB0:=(bO wo.length).map λi=>wo.getD i af && !(F.getD i ab==aa af)
def wj(F:LOB)(wo:LB0)(i:Nat):(wg F wo).getD i af=(wo.getD i af && !(F.getD i ab==aa af)):=by
 unfold wg
 grind
def jz.grp{bs:LLP}(h:jz L bs F)(hr:∀r∈L,RuK F.length r)(f:cM e F)(gl:wo.length=e.length)(g:∀r∈fF L,wo.getD r.hd.toNat af=ac->r.bodyLost e wo=ac)(i:Nat)(hi:wo.getD i af=ac):F.getD i ab=aa af:=by
 have d:Grp L F (wg F wo):=by
  show(by unfold wg;rw[aA,cV,gl,f.len],λj b e=>?_,λr hm c=>?_)
  .rw[wj,e,Bool.and_comm]at b
   nomatch b
  .rw[wj]at c;have(l,h2):=(cB _ _).mp c;have(n,v):=ci.mp hm;show qV (λp m z=>lost_by (by rw[<- f.len];show(hr r n).ok.ps p m) (λj q=>?_) (λj q=>?_) z) (g r hm l)
   .rcases f.at' j with u |u
    .rw[q]at u;nomatch u
    .show u.trans q
   .by_cases a:F.getD j ab=aa af
    .show .inl a
    .rcases q with q |q
     .rcases f.at' j with u |u
      .rw[q]at u;nomatch u
      .show .inl (u.trans q)
     .show .inr ?_;rw[wj,q,beq_false_of_ne a];rfl
 have:=h.gr _ d i;rw[wj,hi,p8]at this;show eq_of_beq (by simpa using this)
def jz.rt{bs:LLP}(h:jz L bs F)(m:F.length=n)(hr:∀r∈L,RuK n r)(c:∀b∈bs,cT n b)(f:cM e F)(j:w.nc=ac)(k:Rt n L bs e w):False:=by
 subst m
 cases w with
 |ch=>nomatch j
 |wd i=>nomatch j
 |gd y=>
  have ok:=nK hr c (y:=y);rw[f.len]at ok;have g:d5 (bN L bs y) F:=λp d=>Op f (ok p d) (k.2 p d)
  rcases JM k.1 with⟨r,hr,e⟩ |⟨b,c,e⟩
  .show(h.ru r hr).ns (e▸g)
  .show(h.br b c).ns (e▸g)
 |gp ks=>
  have(x,l,ex):=k.i;have(v,z):=k.nn x l;have:=h.grp hr f (by rw[pS,f.len]) (λr hm hd=>k.up r hm ?_) x.toNat ((lS v z).mpr l)
  .rcases f.at' x.toNat with u |u
   .rw[ex]at u;nomatch u
   .rw[ex,this]at u;nomatch u
  .have q:=ci.mp hm;have a:=(hr r q.1).ok.hd (by simpa using q.2);show(lS a.1 a.2).mp hd
structure Wrl(n:Nat)(L:LRu)(F:LOB):Prop where
 len:F.length=n
 fu:∀i,i<n->F.getD i ab≠ab
 ru:∀r∈L,¬d5 (grd r) F
 gr:sK L F
abbrev Bef(F G:LOB):Prop:=∃t:Nat,(∀j,j<t->F.getD j ab=G.getD j ab)/\F.getD t ab=aa ac/\G.getD t ab=aa af
variable{G:LOB}
def wm{b:List Pr}:d5 (brg b) G↔∀y∈b,G.getD y.1.toNat ab=aa y.2:=by
 have one:∀y:Pr,(brP y).sure G=ac↔G.getD y.1.toNat ab=aa y.2:=λy=>by
  have(t,v):=y
  cases v <;> show beq_iff_eq
 show(λh y a=>(one y).mp (h _ (aJ.mpr (y,a,rfl))),λh p c=>?_);have(y,a,rfl):=aJ.mp c;show(one y).mpr (h y a)
def Wrl.quiet{P:List Prt}(h:Wrl n L G)(k:¬d5 P G):d6 P G []:=(k,λt b t0 t1 a _=>absurd (iM a) (h.fu _ (by rw[h.len]at t1;lia)))
def Wrl.cl{bs:LLP}(h:Wrl n L G)(a:∀b∈bs,¬d5 (brg b) G):jz L bs G:=(λr hr=>h.quiet (h.ru r hr),λb q=>h.quiet (a b q),h.gr)
def Dz(f:cM e G)(b:∀i,i<e.length->e.getD i ab≠ab):e=G:=by
 show ext_getElem f.len.symm λi a h2=>?_;have q:=(f.at' i).resolve_left (b i a);rw[bH,bH,b6 a,b6 h2]at q;show Eq.symm q
def bne{a:Bool}(h:¬a=b):a=!b:=by cases a <;> cases b <;> first |rfl |show absurd rfl h
def JN{bs:LLP}(hr:∀r∈L,RuK n r)(a:∀b∈bs,cT n b)(h:Wrl n L G)(c:∀b∈bs,¬d5 (brg b) G):∀(dn:List Ls) (u:LOB),u.length=n->cM u G->cM u F->(∀x∈dn,∀z,x.1=aa z->x.2.nc=ac/\(0<=z.1/\z.1<(n:Int))/\F.getD z.1.toNat ab=aa z.2)->sF n L bs u dn->G=F
 | [],_,_,_,_,_,d=>d.elim
 |(ab,w,)::l,u,hu,f,g,k,d=>by
  obtain⟨_,hR⟩:l=[]/\Rt n L bs u w:=d
  cases w with
  |ch=>show hR.elim
  |wd i=>
   have e:∀i,i<u.length->u.getD i ab≠ab:=λi hi=>hR i (by lia)
   show(Dz f e).symm.trans (Dz g e)
  |gd y=>show((h.cl c).rt h.len hr a f rfl hR).elim
  |gp ks=>show((h.cl c).rt h.len hr a f rfl hR).elim
 |(aa z,w,)::l,u,hu,f,g,k,d=>by
  obtain⟨q,hR,d⟩:opn u z.1=ac/\Rt n L bs (put u z.1.toNat (!z.2)) w/\sF n L bs (put u z.1.toNat z.2) l:=d;have(m,A,hz):=k _ az z rfl;show JN hr a h c l _ (by rw[b9];show hu) (pX f ?_) (pX g hz) (λx p=>k x (bh _ p)) d
  cases j:G.getD z.1.toNat ab with
  |none=>show absurd j (h.fu _ (by lia))
  |some v=>
   by_cases hv:v=z.2
   .rw[hv]
   .show((h.cl c).rt h.len hr a (pX f (by rw[j,bne hv])) m hR).elim
def wn:∀{V2:LSp},G.length=n->(∀x∈V2,G.getD x.1.1.toNat ab=aa x.1.2)->cM (aW n V2) G
 | [],hl,_=>(by rw[hl];show lW.symm,λi=>.inl (by change(gX n ab).getD i ab=ab;rw[bH,nQ];split <;> rfl))
 |x::V2,hl,h=>pX (wn hl λy a=>h y (bh _ a)) (h x az)
def JO{t:Nat}:∀{V2:LSp},(∀x∈V2,x.1.1.toNat≠t)->(aW n V2).getD t ab=ab
 | [],_=>by change(gX n ab).getD t ab=ab;rw[bH,nQ];split <;> rfl
 |x::V2,h=>by
  rw[aW,cZ _ _ λq=>h x az q.symm];show JO λy a=>h y (bh _ a)
def JP{x:Stp}(a:x.1.1.toNat<n):∀{V2:LSp},x∈V2->(aW n V2).getD x.1.1.toNat ab≠ab
 |y::V2,h=>by
  rw[aW]
  by_cases e:x.1.1.toNat=y.1.1.toNat
  .rw[e,eU _ _ (by rw[eZ];lia)];show λq=>nomatch q
  .rw[cZ _ _ e]
   rcases aZ.mp h with q |q
   .show absurd (by rw[q]) e
   .show JP a q
def JQ{d g:Type}{f:d->g}:∀{l:List d},(l.map f).Nodup->∀{a b:d},a∈l->b∈l->f a=f b->a=b
 |c::l,h,a,b,ha,hb,e=>by
  rw[bF,b7]at h
  rcases aZ.mp ha with p |p <;> rcases aZ.mp hb with q |q
  .rw[p,q]
  .show absurd (aJ.mpr (_,q,by rw[<- e,p])) h.1
  .show absurd (aJ.mpr (_,p,by rw[e,q])) h.1
  .show JQ h.2 p q e
variable{bar:List Pr}
def DD{bs:LLP}(hr:∀r∈L,RuK n r)(m:∀b∈bs,cT n b)(h:Wrl n L G)(A:∀b∈bs,¬d5 (brg b) G)(tr:Tr n L bs st)(k:jy n L bs st bar dn)(c:d5 (brg bar) G):G=aW n st:=by
 have c:=wm.mp c
 have val:∀y∈st,(aW n st).getD y.1.1.toNat ab=aa y.1.2:=λy a=>by
  have(p,r,rfl):=lZ a;show v8 tr
 have d:∀z∈bar,∃y∈st,y.1=z/\y.2.nc=af:=λz hz=>by
  have(y,a,q):=pV (k.bl.subset hz);show(y,e9.mp a,q)
 have g:∀y∈bar.map (λz=>(z,Wh.ch,)),∃z∈bar,(z,Wh.ch,)=y:=λy a=>aJ.mp a
 have f1:cM (aW n (bar.map λz=>(z,Wh.ch,))) G:=wn h.len λy a=>by
  have(z,hz,rfl):=g y a;show c z hz
 show JN hr m h A dn _ (eZ n _) f1 (wn (eZ n _) λy a=>?_) (λy a z f=>?_) (k.rl _ (eZ n _) (λz hz=>?_) λy a z f=>?_)
 .have(z,hz,rfl):=g y a;have(v,hv,rfl,_):=d z hz;show val v hv
 .have(v,hv,rfl,l,e):=k.dt y a z f;show(l▸e,jx tr hv,val v hv)
 .have(v,hv,rfl,_):=d z hz;have:=jx tr hv;show((f1.at' _).resolve_left (JP (x:=(v.1,Wh.ch,)) (by change v.1.1.toNat<n;lia) (aJ.mpr (_,hz,rfl)))).symm.trans (c _ hz)
 .have(v,hv,rfl,_,e):=k.dt y a z f;show sG (JO λu B q=>?_);have(z,hz,rfl):=g u B;have(w,j,rfl,i):=d z hz;have C:=jx tr hv;have E:=jx tr j;have q:w.1.1.toNat=v.1.1.toNat:=q;rw[JQ (nM tr) j hv (by lia),e]at i
  nomatch i
def JR{bs:LLP}(hr:∀r∈L,RuK n r)(m:∀b∈bs,cT n b)(h:Wrl n L G)(p:∀b∈bs,¬d5 (brg b) G):∀{st:LSp},Tr n L bs st->cM (aW n st) G\/∃t:Nat,(∀j,j<t->(aW n st).getD j ab=G.getD j ab/\(aW n st).getD j ab≠ab)/\(aW n st).getD t ab=aa ac/\G.getD t ab=aa af
 | [],_=>.inl (wn h.len λ_ q=>nomatch q)
 |x::st,tr=>by
  have u:=tr.2.t0;have w:=tr.2.t1
  rcases JR hr m h p tr.1 with f |⟨t,a,b,c⟩
  .cases d:G.getD x.1.1.toNat ab with
   |none=>show absurd d (h.fu _ (by lia))
   |some v=>
    by_cases hv:v=x.1.2
    .show .inl (pX f (by rw[d,hv]))
    .rcases tr.2.ok with⟨_,g,l⟩ |⟨g,l⟩
     .show .inr (x.1.1.toNat,λj i=>?_,?_,?_)
      .rw[aW,cZ _ _ (by lia)];have hn:=l j (by lia);show(((f.at' j).resolve_left hn).symm,hn)
      .rw[aW,eU _ _ (by rw[eZ];lia),g]
      .rw[d,bne hv,g];rfl
     .show((h.cl p).rt h.len hr m (pX f (by rw[d,bne hv])) g l).elim
  .have ne:∀j,(aW n st).getD j ab≠ab->(aW n (x::st)).getD j ab=(aW n st).getD j ab:=λj q=>cZ _ _ λe=>q (by rw[e];show iM tr.2.op);show .inr (t,λj i=>?_,?_,c)
   .rw[ne j (a j i).2];show a j i
   .rw[ne t (by rw[b];show λq=>nomatch q)];show b
structure IW(n:Nat)(L:LRu)(s:Spt)(st:LSp)(Fs:List (LOB)):Prop where
 wr:∀F∈Fs,Wrl n L F/\∃b∈s.bs,d5 (brg b) F
 br:∀G,Wrl n L G->G∉Fs->∀b∈s.bs,¬d5 (brg b) G
 od:Fs.Pairwise Bef
 lt:∀F∈Fs,∀G,Wrl n L G->G∉Fs->Bef F G
 cp:∀A x T,st.reverse=A++x::T->x.2.nc=af->jz L s.bs (aW n A.reverse)
 dw:Dw L s.bs s.tw
 jr:Jr L s
variable{s1:Spt}{Fs:List (LOB)}
def IW.cp1(w:IW n L s st Fs)(e:Se n c0 V5 V3 L s s1 st st1)(h:st1.reverse=A++x::T)(c:x.2.nc=af):jz L s.bs (aW n A.reverse):=by
 have(xt,rfl,hn):=e.xt;have no:x∉xt.reverse:=λq=>by rw[hn x (e9.mp q)]at c;nomatch c
 rw[lX]at h
 rcases append_eq_append_iff.mp h with⟨a,d,b⟩ |⟨a,d,b⟩
 .show absurd (by rw[b];simp) no
 .cases a with
  |nil=>show absurd (by rw[nX]at b;rw[<- b];simp) no
  |cons y a=>
   cases b;show w.cp _ _ _ d c
variable{Fs':List (LOB)}
def IW.bk(P:Par n c0 V5 V3 L)(h:Hd n c0 V5 V3 L s st)(w:IW n L s st Fs)(e:Se n c0 V5 V3 L s (aI L V5 s).2 st st1)(k:jy n L s.bs st1 bar dn)(p:pW st1.reverse bar A x T)(q:Clo n (aI L V5 s).2 s2 bar dn A)(sub:∀F∈Fs',F∈Fs\/(Wrl n L F/\d5 (brg bar) F))(sup:∀F∈Fs,F∈Fs')(od:Fs'.Pairwise Bef)(lt:∀F∈Fs',∀G,Wrl n L G->G∉Fs'->Bef F G)(new:∀G,Wrl n L G->G∉Fs'->¬d5 (brg bar) G):IW n L s2 A.reverse Fs':=by
 have i:=e.t.tr;have bk:=wa i k.bl;have C:s2.bs=s.bs++[bar]:=by rw[q.bs,e.bs]
 have cA:=w.cp1 e p.e p.nc;show(λF hF=>?_,λG hG hn b d=>?_,od,lt,λl u f h2 g=>?_,?_,λy0 y m hw=>?_)
 .rw[C]
  rcases sub F hF with z |⟨z1,z2⟩
  .have(a,b,d,c):=w.wr F z;show(a,b,bT _ d,c)
  .show(z1,bar,cg _ az,z2)
 .rw[C]at d
  rcases bu.mp d with z |z
  .show w.br G hG (λq=>hn (sup G q)) b z
  .rw[bw.mp z];show new G hG hn
 .rw[iR]at h2;subst h2;have Q:=p.e;rw[cI]at Q;have N:=w.cp1 e Q g;rw[C];show(N.ru,λb d=>?_,N.gr)
  rcases bu.mp d with z |z
  .show N.br b z
  rw[bw.mp z]
  have er:st1=(u::f++x::T).reverse++l.reverse:=by
   rw[<- lX,<- iR (as:=st1),Q]
  rw[er]at i;have op:=(iO _ i).2.2
  have I:∀{y:Pr} {V2:LSp},y∈chs V2->(∀v∈V2,v∈u::f++x::T)->(aW n l.reverse).getD y.1.toNat ab=ab:=λ{y V2} m hs=>by
   have(v,hv,rfl,_):=pV m;show op v (e9.mpr (hs v hv))
  have(b0,z,U,_,hz,h0,hl):=p.br
  have B:chs (l++u::f)=chs l++u.1::chs f:=by
   unfold chs;rw[kL,qb (by rw[g];rfl),a9,bF]
  have Y:b0≠[]:=λq=>by have:=h0 q;rw[B]at this;simp at this
  obtain⟨b1,y,rfl⟩:∃b1 y,b0=b1++[y]:=(_,_,(dropLast_concat_getLast Y).symm);have(A',eA):=hl y (by simp)
  have m:y∈chs (u::f):=by
   have M:(chs l++u.1::chs f).getLast?=aa y:=by rw[<- B,eA];simp
   rw[getLast?_append,getLast?_cons]at M;have M:=c9 M;rw[lT,g,<- M]
   cases hq:(chs f).getLast? with
   |none=>show az
   |some v=>show bh _ (mem_of_getLast? hq)
  have oy:=I m λv hv=>bT _ hv;have oz:=I hz λv hv=>cg _ hv;have my:y∈bar:=by rw[U];simp
  have mz:z∈bar:=by rw[U];simp
  have ne:y.1≠z.1:=λq=>by
   have:=bk.nd;rw[U,a9,a9]at this;show(e8.mp this).2.2 y.1 (by simp) z.1 (by simp) q
  have ry:=bk.nn y my;have rz:=bk.nn z mz;show(λq=>?_,λt b t0 t1 ho q=>?_)
  .have:=wm.mp q z mz;rw[oz]at this
   nomatch this
  .have one:∀v∈bar,(aW n l.reverse).getD v.1.toNat ab=ab->v.1.toNat=t.toNat:=λv hv ov=>ww λE=>by
    have:=wm.mp q v hv;rw[cZ _ _ E,ov]at this
    nomatch this
   have a:=one y my oy;have b:=one z mz oz
   lia
 .rw[C,q.tw,e.bs,e.tw];show w.dw.bar h.tw h.J.bk bk
 .rw[C]at m ⊢;have(a,j):=y
  by_cases ey:(a,j,)=(ac,s.bs.length,)
  .show .inl (by rw[q.wt,ey,e.bs];show az)
  .have H:(a,j,)∈gys L.length s.bs.length/\bN L (s.bs++[bar]) (a,j,)=bN L s.bs (a,j,):=by
    have hm:=eW.mp m
    cases a with
    |false=>show(eW.mpr hm,rfl)
    |true=>
     have hm:j<(s.bs++[bar]).length:=hm;rw[aR,fZ]at hm;have hj:j≠s.bs.length:=λq=>ey (by rw[q]);show(eW.mpr (by change j<s.bs.length;lia),?_);change brg _=brg _;rw[lR,if_neg hj]
   show .inr ?_;rw[H.2,q.es]
   have:d6 (bN L s.bs (a,j,)) (aW n A.reverse) []:=by
    rcases JM H.1 with⟨r,hr,E⟩ |⟨b,d,E⟩
    .rw[E];show cA.ru r hr
    .rw[E];show cA.br b d
   split <;> show this
def IW.new(P:Par n c0 V5 V3 L)(h:Hd n c0 V5 V3 L s st)(w:IW n L s st Fs)(e:Se n c0 V5 V3 L s (aI L V5 s).2 st st1)(u:(aI L V5 s).1=ab)(ha:(aI L V5 s).2.es.any (·==ab)=af):Wrl n L (aI L V5 s).2.es/\(aI L V5 s).2.es∉Fs/\∀G,Wrl n L G->G∉Fs->G≠(aI L V5 s).2.es->Bef (aI L V5 s).2.es G:=by
 have cl:jz L s.bs (aI L V5 s).2.es:=(JL P.hr P.hz h.J w.jr w.dw u e.tw).1
 have fu:∀i,i<(aI L V5 s).2.es.length->(aI L V5 s).2.es.getD i ab≠ab:=λi hi q=>by
  rw[bH,b6 hi]at q;have q:(aI L V5 s).2.es[i]=ab:=q;show any_eq_false.mp ha _ (ij _) (by rw[q];rfl)
 show((e.J.es,λi hi=>fu i (by rw[e.J.es];show hi),λr hr=>(cl.ru r hr).ns,cl.gr),λq=>?_,λG g hn ne=>?_)
 .have(_,b,l,m):=w.wr _ q;show(cl.br b l).ns m
 .have d:=e.t.tr;rw[e.bs]at d;have es:=e.t.es
  rcases JR P.hr h.J.bk g (w.br G g hn) d with f |⟨t,a,b,c⟩
  .rw[<- es]at f;show absurd (Dz f fu).symm ne
  .rw[<- es]at a b;show(t,λj p=>(a j p).1,b,c)
def JS:¬Bef F F:=λc=>by have(t,_,a,b):=c;rw[a]at b;nomatch b
def VA(h:Bef F G)(k:Bef G F):False:=by
 have(t,a,b,c):=h;have(u,d,f,g):=k
 rcases Nat.lt_trichotomy t u with q |q |q
 .rw[d t q,b]at c;nomatch c
 .rw[<- q,b]at g;nomatch g
 .rw[a u q,f]at g;nomatch g
def JT:∀{C ys:List (LOB)},C.Pairwise Bef->ys.Pairwise Bef->(∀F,F∈C↔F∈ys)->C=ys
 | [],[],_,_,_=>rfl
 | [],y::ys,_,_,h=>nomatch (h y).mpr az
 |x::C,[],_,_,h=>nomatch (h x).mp az
 |x::C,y::ys,h1,h2,h=>by
  have(a,c):=lY.mp h1;have(b,d):=lY.mp h2
  have e:x=y:=by
   rcases aZ.mp ((h x).mp az)with q |q
   .show q
   .rcases aZ.mp ((h y).mpr az)with z |z
    .show z.symm
    .show(VA (b x q) (a y z)).elim
  subst e;show congrArg _ (JT c d λF=>(λq=>?_,λq=>?_))
  .rcases aZ.mp ((h F).mp (bh _ q))with z |z
   .show absurd (z▸a F q) JS
   .show z
  .rcases aZ.mp ((h F).mpr (bh _ q))with z |z
   .show absurd (z▸b F q) JS
   .show z
def VB(P:Par n c0 V5 V3 L):Car n c0 V5 V3 L (λs st fd=>∃Fs:List (LOB),fd=Fs.map wOf/\IW n L s st Fs) λ_ fd=>∃Fs:List (LOB),fd=Fs.map wOf/\(∀G,G∈Fs↔Wrl n L G)/\Fs.Pairwise Bef:=by
 have i:∀{s s1:Spt} {st st1:LSp},Se n c0 V5 V3 L s s1 st st1->Tr n L s.bs st1:=λe=>by have:=e.t.tr;rwa [e.bs]at this
 have wh:∀{s:Spt} {st st1:LSp} {bar:List Pr} {dn:List Ls} {d:D} {Fs:List (LOB)},Hd n c0 V5 V3 L s st->IW n L s st Fs->Se n c0 V5 V3 L s (aI L V5 s).2 st st1->(aI L V5 s).1=aa d->jy n L s.bs st1 bar dn->∀G,Wrl n L G->G∉Fs->¬d5 (brg bar) G:=λh w e g k G c hn v=>by
  have I:=w.br G c hn;have:=DD P.hr h.J.bk c I (i e) k v;have(_,_,C):=h.se P;have(wh,_,a,b):=C _ g;rw[e.t.es,<- this]at b;show(c.cl I).rt c.len P.hr h.J.bk (cM.refl _) a b
 show(?_,?_,?_,?_,?_)
 .rintro s st st1 _ t h ⟨Fs,rfl,w⟩ e g t1 N;have(cl,jr):=JL P.hr P.hz h.J w.jr w.dw g e.tw;have cl:jz L s.bs (aI L V5 s).2.es:=cl;show(Fs,rfl,by change ∀F∈Fs,_/\∃b∈(aI L V5 s).2.bs,_;rw[e.bs];show w.wr,by change ∀G,_->_->∀b∈(aI L V5 s).2.bs,_;rw[e.bs];show w.br,w.od,w.lt,λA x T h2 Y=>?_,by change Dw L (aI L V5 s).2.bs (aI L V5 s).2.tw;rw[e.bs,e.tw];show w.dw,Jr.of (y0:=(af,0,)) (Jq.pt P.hr e.J (λy E U=>?_) (by lia) (by lia) (sG (by rw[dF];show N))))
  .change jz L (aI L V5 s).2.bs _;rw[e.bs];rw[iS]at h2
   rcases append_eq_append_iff.mp h2 with⟨a,j,r⟩ |⟨a,j,r⟩
   .cases a with
    |nil=>
     rw[bQ]at j;rw[j,iR,<- e.t.es]
     show cl
    |cons y a=>simp at r
   .cases a with
    |nil=>
     rw[bQ]at j;rw[<- j,iR,<- e.t.es]
     show cl
    |cons y a=>
     cases r;show w.cp1 e j Y
  .rcases jr y y E U with z |z
   .show .inl z
   .rw[if_pos rfl]at z;show .inr (z.more λu Q=>nomatch Q)
 .rintro s st st1 _ w0 bar dn A x T s2 h ⟨Fs,rfl,w⟩ e g _ k p q _ _;show(Fs,rfl,w.bk P h e k p q (λF f=>.inl f) (λF f=>f) w.od w.lt (wh h w e g k))
 .rintro s st st1 _ w0 dn s2 h ⟨Fs,rfl,w⟩ e g _ k _;show(Fs,rfl,λG=>⟨λq=>(w.wr G q).1,λq=>ww λhn=>wh h w e g k G q hn λp B=>nomatch B⟩,w.od)
 .rintro s st st1 _ bar dn A x T s2 h ⟨Fs,rfl,w⟩ e g ha k p q _ _;have(m,H,M):=w.new P h e g ha;have es:=e.t.es;have lo:∀G,Wrl n L G->G∉Fs++[(aI L V5 s).2.es]->G∉Fs/\G≠(aI L V5 s).2.es:=λG _ hn=>(λq=>hn (bT _ q),λq=>hn (by rw[q];simp));show(Fs++[(aI L V5 s).2.es],by rw[a9];rfl,w.bk P h e k p q (λF f=>?_) (λF f=>bT _ f) (sT.mpr (w.od,pairwise_singleton _ _,λF f G c=>?_)) (λF f G c hn=>?_) λG c hn v=>?_)
  .rcases bu.mp f with z |z
   .show .inl z
   .rw[bw.mp z];show .inr (m,wm.mpr λy E=>?_);have(a,b):=Du (i e) (k.bl.subset E);rw[es,b,a]
  .rw[bw.mp c];show w.lt F f _ m H
  .have(l,h2):=lo G c hn
   rcases bu.mp f with z |z
   .show w.lt F z G c l
   .rw[bw.mp z];show M G c l h2
  .have(l,h2):=lo G c hn;show h2 (es▸DD P.hr h.J.bk c (w.br G c l) (i e) k v)
 .rintro s st st1 _ dn s2 h ⟨Fs,rfl,w⟩ e g ha k _;have(m,H,M):=w.new P h e g ha;show(Fs++[(aI L V5 s).2.es],by rw[a9];rfl,λG=>(λq=>?_,λq=>ww λhn=>?_),sT.mpr (w.od,pairwise_singleton _ _,λF f G c=>?_))
  .rcases bu.mp q with z |z
   .show(w.wr G z).1
   .rw[bw.mp z];show m
  .have l:G∉Fs:=λq=>hn (bT _ q);show hn (cg _ (by rw[DD P.hr h.J.bk q (w.br G q l) (i e) k (λp B=>nomatch B),<- e.t.es];show az))
  .rw[bw.mp c];show w.lt F f _ m H
def JU(P:Par n (64*q*L.length) V5 V3 L)(i:∀r∈L,(grd r).length<=q):∃(Fs:List (LOB)) (pp:LD),(∀G,G∈Fs↔Wrl n L G)/\Fs.Pairwise Bef/\Fs.length<=3 ^ n/\pp≠[]/\∀most:Int,0<=most->m_0 [pl0 n L,.int most]=aa (if (Fs.length:Int)<=most then .tup [wsD (Fs.map wOf),.bl ac,.lst pp] else .tup [wsD ((Fs.map wOf).take most.toNat),.bl af,.lst []]):=by
 have f:∀y∈gys L.length 0,y∈(s00 n L).wt:=λy b=>by
  have(a,j):=y;have e:=eW.mp b
  cases a with
  |true=>show absurd e (io _)
  |false=>show aJ.mpr (j,fI.mpr e,rfl)
 have(ws,s,(Fs,rfl,g,h2),h,c,d):=Vn P i (VB P) ([],rfl,(λ_ q=>nomatch q),(λ_ _ _ _ q=>nomatch q),List.Pairwise.nil,(λ_ q=>nomatch q),(λA x T q _=>by simp at q),Vz _ L,λy0 y b _=>.inl (f y b));rw[aA]at c d;show(Fs,s.pp,g,h2,c,h,d)
def VC(ws:List (LI0)):fS 20 (wsD ws):=by
 show fS.le (n:=3) (λx a=>?_) (by decide);have(w,_,rfl):=aJ.mp a;show Of w
abbrev rv(r:Rul):Rul:=(r.w,r.hd,r.ps.reverse)
def VD(r:Rul):(rv r).toD=.tup [.str r.w.s,r.hdD,.lst (r.ps.map Prt.toD).reverse]:=by
 rw[<- l7];rfl
def VE{b:Type}(C:List b){a:Int}(h:0<=a)(c:a<C.length):(C.drop (HT.sIx C.length 0 (aa a))).take (HT.sIx C.length C.length ab-HT.sIx C.length 0 (aa a))=C.drop a.toNat/\(C.drop (HT.sIx C.length 0 ab)).take (HT.sIx C.length C.length (aa a)-HT.sIx C.length 0 ab)=C.take a.toNat:=by
 rw[show aa a=aa (a.toNat:Int) by rw[show(a.toNat:Int)=a by lia],HT.sIx_nat,HT.sIx_none,HT.sIx_none,HT.sIx_nat,drop_zero,Nat.sub_zero,Nat.min_eq_left (by lia)];show(sR (by rw[length_drop];lia),rfl)
def VF(hr:∀r∈L,Ru5 n r)(T:L.length<=68)(c:Int):∃a,uY [pl0 n L,.int c]=aa (pl0 n a)/\(∀r,r∈a↔r∈L.map rv)/\a.length<=69:=by
 suffices h:∃d,uY _=aa d/\∃a,d=pl0 n a/\(∀r,r∈a↔r∈L.map rv)/\a.length<=69 by
  have(d,e,a,rfl,h):=h;show(a,e,h)
 have(v1,I,a1,_):=iP c 28 (by decide) (by decide);have(v2,J,a2,_):=iP c 29 (by decide) (by decide);have(v3,N,a3,_):=iP c 30 (by decide) (by decide);apply lD;apply ak;show dO rfl ?_;apply ak;show dD L Rul.toD (λpre M=>∃j l m,M=[.im (pl0 n L),.im (.int c),.own ((pre.map rv).map Rul.toD),j,l,m,.no,.no]) (eS (bg (eS (aE rfl (JA hr (by lia))) rfl) rfl rfl) rfl) (_,_,_,rfl) ?_ ?_
 .rintro pre r post M ex ⟨j,l,m,rfl⟩;have Y:pre.length<L.length:=by rw[ex];simp
  show(_,rfl,fU (d:=(rv r).toD) (by rw[VD];show cS (ao rfl (ao rfl (ao (bR rfl) rfl)))) rfl (by rw[aA,aA];lia) (.im (.str r.w.s),.im r.hdD,.im (.lst (r.ps.map Prt.toD)),?_));simp
 rintro M ⟨j,l,m,rfl⟩
 have A:∀r∈L.map rv,r.ps.length<=3:=λr q=>by
  have(E,h',rfl):=aJ.mp q;change E.ps.reverse.length<=3;rw[ik];show(hr E h').ln
 have U:(L.map rv).length<=68:=by rw[aA];show T
 generalize L.map rv=R at *;show uF (λM=>∃(a:LRu) (j l m v x:Sl),M=[.im (pl0 n L),.im (.int c),.own (a.map Rul.toD),j,l,m,v,x]/\(∀r,r∈a↔r∈R)/\a.length<=69) ?_ ?_
 .by_cases y:R=[]
  .subst y;show aY (b:=af) rfl (λz=>nomatch z) λ_=>b5 (k_J ([],_,_,_,_,_,rfl,λ_=>Iff.rfl,cj _))
  .have hp:=length_pos_iff.mpr y;have i:(0:Int)<R.length:=by lia
   have m0:=dG v1 (sO i);show aY (b:=ac) ?_ (λ_=>?_) λz=>nomatch z
   .cases R with
    |nil=>show absurd rfl y
    |cons r R=>rfl
   apply ak;show bo (ap (aE rfl I) (aE rfl (d9 R Rul.toD)) (ca i)) ?_;apply ak;have(G,H):=VE R m0 (fY _ i);show lB rfl (dO (CF (bR (o7 rfl (ptE rfl) rfl)) (bR (o7 rfl rfl (ptE rfl))) ?_) ?_)
   .grind
   rw[G,H,<- a9];generalize (v1 % (R.length:Int)).toNat=k
   have hm:∀r,r∈R.drop k++R.take k↔r∈R:=λr=>by
    rw[bu,or_comm,<- bu,take_append_drop]
   have g:(R.drop k++R.take k).length=R.length:=by
    grind
   generalize R.drop k++R.take k=R2 at *;apply ak;have(r,B,Q):=km (f:=Rul.toD) (C:=R2) (dG v2 (sO i)) (by rw[g];show fY _ i);have u:=dH B;show bo (d:=r.toD) (bg rfl (ap (aE rfl J) (aE rfl ((d9 R2 Rul.toD).trans (by rw[g]))) (ca i)) Q) ?_;show fU (d:=r.toD) (cS (ao rfl (ao rfl (ao (bR (gK r.ps Prt.toD Prt.toD rfl (by have:=A r ((hm r).mp u);lia) λp _=>gg rfl rfl (aE rfl (Jz p)))) rfl)))) rfl (by rw[aA];lia) (k_J (R2++[r],_,_,_,_,_,by rw[a9];rfl,λq=>?_,by rw[aR,g];change _+1<=69;lia));rw[bu,bw];show(λz=>z.elim (hm q).mp λz=>by rw[z];show(hm r).mp u,λz=>.inl ((hm q).mpr z))
 .rintro M ⟨a,j,l,m,v,x,rfl,hm,g⟩;show uF (λM=>∃(a:LRu) (j l m v x:Sl),M=[.im (pl0 n L),.im (.int c),.own (a.map Rul.toD),j,l,m,v,x]/\(∀r,r∈a↔r∈R)/\a.length<=69) ?_ ?_
  .show aY (bB (ap (ap (aE rfl N) rfl (ca (by decide))) rfl (ko _ _))) (λ_=>?_) λ_=>b5 (k_J (a,_,_,_,_,_,rfl,hm,g));show dO rfl (k_J (a.reverse,_,_,_,_,_,by rw[l7];rfl,λr=>by rw[e9];show hm r,by rw[ik];show g))
  .rintro M ⟨a,j,l,m,v,x,rfl,hm,g⟩;show lB rfl (eT rfl (fB (a,rfl,hm,g)))
def JV(r:Rul)(F:LOB):d5 (grd (rv r)) F↔d5 (grd r) F:=by
 have(w,hd,ps):=r;have a:∀p,p∈ps.reverse↔p∈ps:=λp=>e9
 cases w with
 |may=>show Iff.rfl
 |make=>show(λh p q=>h p ((bu.mp q).elim (λz=>bT _ ((a p).mpr z)) (cg _)),λh p q=>h p ((bu.mp q).elim (λz=>bT _ ((a p).mp z)) (cg _)))
 |never=>show(λh p q=>h p ((a p).mpr q),λh p q=>h p ((a p).mp q))
def VG{d:LRu}(h:∀r,r∈d↔r∈L.map rv)(F:LOB):Wrl n L F↔Wrl n d F:=by
 have f:∀r∈L,rv r∈d:=λr q=>(h _).mpr (aJ.mpr (r,q,rfl));have h2:∀r∈d,∃q∈L,rv q=r:=λr q=>aJ.mp ((h r).mp q);have i:∀(r:Rul) (es:LOB) (wo:LB0),(rv r).bodyLost es wo=r.bodyLost es wo:=λr es wo=>any_reverse;have m1:∀r∈fF L,rv r∈fF d:=λr q=>ci.mpr (f r (ci.mp q).1,(ci.mp q).2)
 have gr:∀wo,Grp L F wo↔Grp d F wo:=λwo=>(λg=>(g.len,g.no,λr q z=>by
  have(a,b):=ci.mp q;have(e,c,rfl):=h2 r a;rw[i];show g.up e (ci.mpr (c,b)) z),λg=>(g.len,g.no,λr q z=>by rw[<- i];show g.up _ (m1 r q) z))
 show(λw=>(w.len,w.fu,λr q=>?_,λwo g=>w.gr wo ((gr wo).mpr g)),λw=>(w.len,w.fu,λr q z=>w.ru _ (f r q) ((JV r F).mpr z),λwo g=>w.gr wo ((gr wo).mp g)));have(e,c,rfl):=h2 r q;rw[JV];show w.ru e c
def rv5(h:Ru5 n r):Ru5 n (rv r):=((h.ok.hd,λp q=>h.ok.ps p (e9.mp q),by change r.ps.reverse.length<=_;rw[ik];show h.ok.len),λp q=>h.nm p (e9.mp q),by change r.ps.reverse.length<=_;rw[ik];show h.ln)
def VH(ns:LI0)(h:ns.length<=63):m_6 [.kl (ns.map D.int)]=aa (.bl ac):=by
 have p:=Vo ns;have(c,u):=Jy p (i:=1) (by decide);have(n,L,w,hn,hr,H):=Vt p h (top:=6) (by decide) (by decide);have v:=JA hr (by lia);have(l,x,hm,j):=VF hr (by lia) c
 have d:∀r∈l,Ru5 n r:=λr q=>by
  have(C,c,rfl):=aJ.mp ((hm r).mp q);show rv5 (hr C c)
 have(Fs,pp,f1,f2,_,_,f):=JU (JB (by lia) hr (by lia)) (JC hr);have(m,I,y,A,_,_,g):=JU (JB (by lia) d j) (JC d);have e:m=Fs:=JT A f2 λF=>by rw[y,f1];show(VG hm F).symm
 subst e;have(v1,m1,E,_):=iP c 27 (by decide) (by decide);have(J,m2,G,_):=iP c 26 (by decide) (by decide);apply jM;apply ak;show bo (aE rfl w) ?_;apply ak;show bo (aE rfl u) ?_;apply ak;show bo (ap (aE rfl m1) rfl (ca (by decide))) ?_;show uF (λM=>∃k:Int,0<=k/\M=[.im (.kl (ns.map D.int)),.im (pl0 n L),.im (.int c),.im (.int k),.no,.no]) ?_ ?_
 .have B:=dG v1 (show(41:Int)≠0 by decide);show aY (bB (ap (ap (aE rfl m2) rfl (ca (by decide))) rfl (ko _ _))) (λ_=>?_) λ_=>b5 (k_J (_,B,rfl));show bo (ap rfl rfl (ca (by decide))) (k_J (_,dG _ (by decide),rfl))
 rintro M ⟨k,b,rfl⟩;have f:=f k b;have g:=g k b;apply ak;show bo (aE (ao (aE rfl v) (ao rfl rfl)) f) ?_;apply ak;show bo (aE (ao (aE rfl x) (ao rfl rfl)) g) ?_;have ps:=λws=>N9 (VC ws)
 by_cases a:m.length<=k
 .rw[if_pos a,if_pos a];apply ak;show aY (mT rfl (mT rfl (mT rfl rfl))) (λz=>nomatch z) λ_=>b5 ?_;show eT (jJ (ap rfl rfl (ps _)) (jJ rfl (jJ rfl (ap (aE rfl ((d9 _ wD).trans (by rw[aA]))) rfl (yV.trans (by grind)))))) (fB rfl)
 .rw[if_neg a,if_neg a];apply ak;show aY (mT rfl (mT rfl (mT rfl rfl))) (λz=>nomatch z) λ_=>b5 ?_;show eT (jJ (ap rfl rfl (ps _)) (jJ rfl (jJ rfl (ap (aE rfl (d9 _ wD)) rfl (yV.trans (by grind)))))) (fB rfl)
abbrev sp_law(K:aQ):Sp:=λvs H Q _=>∃(a:Addr) (ns:LI0),vs=[.ref a]/\SqL K H a (ns.map V.int)/\ns.length<=63/\∀H',Q (.bl ac) H'
variable{K:aQ}
def sp_law_of{H:Hp}{a:Addr}{V4:XK}(c:ns.length<=63)(b:SqL K H a (ns.map V.int)):sp_law K [.ref a] H (λv _=>v=.bl ac) V4:=(a,ns,rfl,b,c,λ_=>rfl)
variable{w:World}
def law_ok{a:Wa}(W:Wd K mg a):cv P w K mg base CX0 11 a.e_6.1 a.e_6.2 ["_law_script"] (sp_law K):=(Tg W).ok.imp λvs H Q V4 (a,ns,b,c,d,k)=>
 (H,[.kl (ns.map D.int)],.bl ac,aq.refl _,(.ref a,[],b,(a,_,rfl,c,am.ints ns),rfl),rfl,VH ns d,λv Hf' H' x r=>by rw[show v=V.bl ac from r];show k H')
variable{P:LVa->Prop}
def wq(h:P []):∀us:LVa,us.length=0->P us:=λus e=>by
 rw[eq_nil_of_length_eq_zero e];show h
def jS(h:∀a (us:LVa),us.length=n->P (a::us)):∀us:LVa,us.length=n+1->P us:=λus e=>by
 cases us with
 |nil=>cases e
 |cons a us=>show h a us (Nat.succ.inj e)
def DF(h:∀a:Value,P [a]):∀us:LVa,us.length=1->P us:=jS (P:=λus=>P (us)) λa=>wq (h a)
def JW(h:∀a b:Value,P [a,b]):∀us:LVa,us.length=2->P us:=jS (P:=λus=>P (us)) λa=>jS (P:=λus=>P (a::us)) λb=>wq (h a b)
def VI(h:∀a b c:Value,P [a,b,c]):∀us:LVa,us.length=3->P us:=jS (P:=λus=>P (us)) λa=>jS (P:=λus=>P (a::us)) λb=>jS (P:=λus=>P (a::b::us)) λc=>wq (h a b c)
def VJ(h:∀a b c d:Value,P [a,b,c,d]):∀us:LVa,us.length=4->P us:=jS (P:=λus=>P (us)) λa=>jS (P:=λus=>P (a::us)) λb=>jS (P:=λus=>P (a::b::us)) λc=>jS (P:=λus=>P (a::b::c::us)) λd=>wq (h a b c d)
local macro_rules | `(tactic| walk_at "bd")=>`(tactic| exact λ_ _ _ _ _ _=>by first | exact DF λ_=>rfl | exact JW λ_ _=>rfl | exact VI λ_ _ _=>rfl | exact VJ λ_ _ _ _=>rfl)
set_option autoImplicit true in
def all_mk{ad ae af ag ai aj ak al am an ao ap aq ar as av aw ax:Addr}{h:Heap}{bR aE aF aG aH aI aJ aK aL aM aN bS bT aO aP aQ bU aR aS aT bV aU aV aW aX aY aZ a0 a1 bW a2 a3 a4 a5 a6 a7 a8 a9 ba bb bc bd be bf bg bh bi bj bk bl bm bn bo bp bq br bs bu bv bw bx bz bA bX bB bC bD bY bZ j m d w l q f b c p g n bE:cO}{U:Nat}{eL:Tok}{eF:Nat}{fa:Addr}(X:K.In h)(G:h.Ns cC mg)(hfa:mg "law"=aa (.ref fa))
 (b0:dY K cC "In"=aa (aa (.ref ad)))
 (bF:dY K cC "Out"=aa (aa (.ref ae)))
 (ff:dY K cC "Least"=aa (aa (.ref af)))
 (ay:dY K cC "Most"=aa (aa (.ref ag)))
 (M:dY K cC "Spreading"=aa (aa (.ref ai)))
 (Y:dY K cC "Seeking"=aa (aa (.ref aj)))
 (c5:Dq K "marks" s_1 f_1 bR)
 (b7:Dq K "numbers" zm f_18 aE)
 (b8:Dq K "part_of" zn f_33 aF)
 (b9:Dq K "things_of" zo f_34 aG)
 (ca:Dq K "worth_in" zp f_19 aH)
 (cb:Dq K "worth_not_out" zq f_13 aI)
 (cc:Dq K "worth_of" zt f_35 aJ)
 (cd:Dq K "outside" zu f_36 aK)
 (ce:Dq K "heavy" zw f_20 aL)
 (cf:Dq K "weights_of" zx f_14 aM)
 (cg:Dq K "with_entry" zy f_15 aN)
 (c6:Dq K "enough" s_7 f_7 bS)
 (c7:Dq K "body_of" s_2 f_2 bT)
 (ch:Dq K "guard_of" zA f_21 aO)
 (ci:Dq K "guard_of_bar" zB f_48 aP)
 (cj:Dq K "pressed_by" zC f_70 aQ)
 (c8:Dq K "lost_part" s_5 f_5 bU)
 (ck:Dq K "own_why" zD f_22 aR)
 (cm:Dq K "needed_first" zE f_37 aS)
 (cn:Dq K "_law_cell_at" zF f_38 aT)
 (c9:Dq K "_law_mixed" s_3 f_3 bV)
 (co:Dq K "_law_items" zG f_39 aU)
 (cp:Dq K "_law_part" zH f_23 aV)
 (cr:Dq K "_law_rule" zJ f_24 aW)
 (cs:Dq K "_law_base" zK f_25 aX)
 (ct:Dq K "_law_plain" zM f_26 aY)
 (cu:Dq K "_law_part_again" zN f_40 aZ)
 (cv:Dq K "_law_again" zO f_27 a0)
 (cw:Dq K "_law_turned" zP f_16 a1)
 (cx:Dq K "law" s_6 f_6 bW)
 (bG:Dp K ad "__init__" "In.__init__" zQ f_66 a2)
 (cy:Dp K ad "named" "In.named" zR f_41 a3)
 (cz:Dp K ad "wants" "In.wants" zS f_49 a4)
 (cA:Dp K ad "sure" "In.sure" zT f_50 a5)
 (cB:Dp K ad "sure_by" "In.sure_by" zU f_51 a6)
 (cD:Dp K ad "tips" "In.tips" zV f_52 a7)
 (cE:Dp K ad "lost" "In.lost" zW f_28 a8)
 (cF:Dp K ad "lost_by" "In.lost_by" zX f_53 a9)
 (bH:Dp K ae "__init__" "Out.__init__" zY f_67 ba)
 (cG:Dp K ae "named" "Out.named" zZ f_42 bb)
 (cH:Dp K ae "wants" "Out.wants" z4 f_54 bc)
 (cI:Dp K ae "sure" "Out.sure" z5 f_55 bd)
 (cJ:Dp K ae "sure_by" "Out.sure_by" z6 f_56 be)
 (cK:Dp K ae "tips" "Out.tips" z7 f_57 bf)
 (cL:Dp K ae "lost" "Out.lost" z8 f_29 bg)
 (cM:Dp K ae "lost_by" "Out.lost_by" z9 f_58 bh)
 (bI:Dp K af "__init__" "Least.__init__" Aa f_68 bi)
 (cN:Dp K af "named" "Least.named" Ab f_43 bj)
 (cP:Dp K af "wants" "Least.wants" Ac f_59 bk)
 (cQ:Dp K af "sure" "Least.sure" Ad f_60 bl)
 (cR:Dp K af "sure_by" "Least.sure_by" Ae f_61 bm)
 (cS:Dp K af "tips" "Least.tips" Ag f_44 bn)
 (cT:Dp K af "lost" "Least.lost" Ah f_30 bo)
 (cU:Dp K af "lost_by" "Least.lost_by" Ai f_45 bp)
 (bJ:Dp K ag "__init__" "Most.__init__" Aj f_69 bq)
 (cV:Dp K ag "named" "Most.named" Ak f_46 br)
 (cW:Dp K ag "wants" "Most.wants" Al f_62 bs)
 (cX:Dp K ag "sure" "Most.sure" Am f_63 bu)
 (cY:Dp K ag "sure_by" "Most.sure_by" An f_64 bv)
 (cZ:Dp K ag "tips" "Most.tips" Ao f_47 bw)
 (c0:Dp K ag "lost" "Most.lost" Ap f_31 bx)
 (c1:Dp K ag "lost_by" "Most.lost_by" Aq f_65 bz)
 (bK:Dp K aj "__init__" "Seeking.__init__" Ar f_11 bA)
 (da:Dp K aj "another" "Seeking.another" s_8 f_8 bX)
 (c2:Dp K aj "close" "Seeking.close" As f_12 bB)
 (c3:Dp K aj "place_for" "Seeking.place_for" At f_32 bC)
 (c4:Dp K aj "line_to" "Seeking.line_to" Au f_17 bD)
 (db:Dp K aj "grounds" "Seeking.grounds" s_4 f_4 bY)
 (dc:Dp K aj "grounds_of_group" "Seeking.grounds_of_group" s_9 f_9 bZ)
 (A:Dp K aj "take_guard" "Spreading.take_guard" Av ak j)
 (C:Dp K aj "take_bar" "Spreading.take_bar" Aw al m)
 (x:Dp K aj "drop_wider" "Spreading.drop_wider" Ax am d)
 (L:Dp K aj "put" "Spreading.put" Ay an w)
 (B:Dp K aj "take_back" "Spreading.take_back" Az ao l)
 (I:Dp K aj "settle" "Spreading.settle" AA ap q)
 (y:Dp K aj "look_round" "Spreading.look_round" AB aq f)
 (r:Dp K aj "put_loose_out" "Spreading.put_loose_out" AC ar b)
 (u:Dp K aj "loose_marks" "Spreading.loose_marks" AD as c)
 (H:Dp K aj "kernel" "Spreading.kernel" AE av p)
 (z:Dp K aj "lost_parts" "Spreading.lost_parts" AF aw g)
 (E:Dp K aj "keeping" "Spreading.keeping" AG ax n)
 (dd:dY K cC "worlds"=aa (aa (.ref f_0)))
 (de:K.lookup f_0=aa (oc_0,od_0,.func (i0 "worlds" "worlds" (kc s_0) (fP s_0) (au s_0) (.ref U) kV_0 dc_0 pm_0 an_0 cd_0 ct_0),sl_0))
 (J:K.lookup U=aa (oT_worlds,dT_worlds,.seq #[.int 1 eL] eF,sT_worlds))
 (df:W.codeIn K cd_0 "worlds"=ac)
 (dg:gb K (.ref f_0)=ac)
 (T:W.specialIn K (.ref ai) "__getattribute__"=aa (aa (.builtin "type.__getattribute__")))
 (Q:W.readsIn K ai (.type "type")=ac)
 (N:W.findCls K (.ref ai) (.type "type") "__init__"=aa (.val (.ref f_10)))
 (b1:j8 K ad ou=ac)
 (b2:k7 K ad=ac)
 (b3:mr K ad=ac)
 (b4:cq K (.ref ad) "__setattr__"=aa (aa (.builtin "object.__setattr__")))
 (qa:mw K ad=ac)
 (b5:gb K (.ref ad)=ac)
 (ny:cq K (.ref ad) "thing"=aa ab)
 (bL:j8 K ae ou=ac)
 (bM:k7 K ae=ac)
 (bN:mr K ae=ac)
 (bO:cq K (.ref ae) "__setattr__"=aa (aa (.builtin "object.__setattr__")))
 (p0:mw K ae=ac)
 (bP:gb K (.ref ae)=ac)
 (nk:cq K (.ref ae) "thing"=aa ab)
 (ge:j8 K af ou=ac)
 (fx:k7 K af=ac)
 (gu:mr K af=ac)
 (gv:cq K (.ref af) "__setattr__"=aa (aa (.builtin "object.__setattr__")))
 (oD:mw K af=ac)
 (fy:gb K (.ref af)=ac)
 (lk:cq K (.ref af) "bound"=aa ab)
 (ld:cq K (.ref af) "pieces"=aa ab)
 (az:j8 K ag ou=ac)
 (aA:k7 K ag=ac)
 (aB:mr K ag=ac)
 (aC:cq K (.ref ag) "__setattr__"=aa (aa (.builtin "object.__setattr__")))
 (pu:mw K ag=ac)
 (aD:gb K (.ref ag)=ac)
 (mm:cq K (.ref ag) "bound"=aa ab)
 (ll:cq K (.ref ag) "pieces"=aa ab)
 (d0:j8 K aj ou=ac)
 (dm:k7 K aj=ac)
 (d2:mr K aj=ac)
 (eg:cq K (.ref aj) "__setattr__"=aa (aa (.builtin "object.__setattr__")))
 (n5:mw K aj=ac)
 (dy:gb K (.ref aj)=ac)
 (ir:cq K (.ref aj) "sheet"=aa ab)
 (lp:cq K (.ref aj) "steps"=aa ab)
 (lj:cq K (.ref aj) "bars"=aa ab)
 (ky:cq K (.ref aj) "guards"=aa ab)
 (g5:cq K (.ref aj) "watches"=aa ab)
 (kv:cq K (.ref aj) "waiting"=aa ab)
 (kF:cq K (.ref aj) "makers"=aa ab)
 (l0:cq K (.ref aj) "paper"=aa ab)
 (kT:cq K (.ref aj) "count"=aa ab)
 (md:cq K (.ref aj) "ended"=aa ab)
 (qs:dY K cC "any"=aa ab)
 (p6:dY K cC "bool"=aa ab)
 (nL:dY K cC "enumerate"=aa ab)
 (nq:dY K cC "isinstance"=aa ab)
 (q4:dY K cC "len"=aa ab)
 (n7:dY K cC "list"=aa ab)
 (pb:dY K cC "range"=aa ab)
 (n0:dY K cC "reversed"=aa ab)
 (rc:dY K cC "set"=aa ab)
 (oo:dY K cC "sorted"=aa ab)
 (p5:dY K cC "sum"=aa ab)
 (pw:dY K cC "tuple"=aa ab)
 (b6:Fun K "__init__" "Spreading.__init__" AH f_10 bE)
 (pz:qK K "bool")
 (pj:qK K "tuple")
  : ∃a:Wa,∃W:Wd K mg a,a.e_6.1=fa/\∀(s:ah) (v:Value),BindsTo s a.e_6.2 ([v],[]) [("_law_script",v,)]:=by
 have e:=hfa.symm.trans (j9 X G cx.a);cases e;have hc:∃cl:Str->Addr,ad=cl "In" /\ ae=cl "Out" /\ af=cl "Least" /\ ag=cl "Most" /\ aj=cl "Seeking":=(λs=>if s="In" then ad else if s="Out" then ae else if s="Least" then af else if s="Most" then ag else if s="Seeking" then aj else 0,rfl,rfl,rfl,rfl,rfl);have(cl,rfl,rfl,rfl,rfl,rfl):=hc
 show(((f_1,bR,),(f_18,aE,),(f_33,aF,),(f_34,aG,),(f_19,aH,),(f_13,aI,),(f_35,aJ,),(f_36,aK,),(f_20,aL,),(f_14,aM,),(f_15,aN,),(f_7,bS,),(f_2,bT,),(f_21,aO,),(f_48,aP,),(f_70,aQ,),(f_5,bU,),(f_0,_,),(f_22,aR,),(f_37,aS,),(f_38,aT,),(f_3,bV,),(f_39,aU,),(f_23,aV,),(f_24,aW,),(f_25,aX,),(f_26,aY,),(f_40,aZ,),(f_27,a0,),(f_16,a1,),(f_6,bW,),(f_66,a2,),(f_41,a3,),(f_49,a4,),(f_50,a5,),(f_51,a6,),(f_52,a7,),(f_28,a8,),(f_53,a9,),(f_67,ba,),(f_42,bb,),(f_54,bc,),(f_55,bd,),(f_56,be,),(f_57,bf,),(f_29,bg,),(f_58,bh,),(f_68,bi,),(f_43,bj,),(f_59,bk,),(f_60,bl,),(f_61,bm,),(f_44,bn,),(f_30,bo,),(f_45,bp,),(f_69,bq,),(f_46,br,),(f_62,bs,),(f_63,bu,),(f_64,bv,),(f_47,bw,),(f_31,bx,),(f_65,bz,),(f_11,bA,),(f_8,bX,),(f_12,bB,),(f_32,bC,),(f_17,bD,),(f_4,bY,),(f_9,bZ,),(ak,j,),(al,m,),(am,d,),(an,w,),(ao,l,),(ap,q,),(aq,f,),(ar,b,),(as,c,),(av,p,),(aw,g,),(ax,n,),(f_10,bE,),cl,ai),(c5.mk2 X G,b7.mk2 X G,b8.mk2 X G,b9.mk2 X G,ca.mk2 X G,cb.mk2 X G,cc.mk2 X G,cd.mk2 X G,ce.mk2 X G,cf.mk2 X G,cg.mk2 X G,c6.mk2 X G,c7.mk2 X G,ch.mk2 X G,ci.mk2 X G,cj.mk2 X G,c8.mk2 X G,(Q3 (st:=s_0) de df dg,(Hb J rfl rfl λus hl=>by
   rw[bQ]at hl ⊢
   revert us hl
   show JW λ_ _=>(_,rfl,rfl)),j9 X G dd),ck.mk2 X G,cm.mk2 X G,cn.mk2 X G,c9.mk2 X G,co.mk2 X G,cp.mk2 X G,cr.mk2 X G,cs.mk2 X G,ct.mk2 X G,cu.mk2 X G,cv.mk2 X G,cw.mk2 X G,cx.mk2 X G,bG.mk2,cy.mk2,cz.mk2,cA.mk2,cB.mk2,cD.mk2,cE.mk2,cF.mk2,bH.mk2,cG.mk2,cH.mk2,cI.mk2,cJ.mk2,cK.mk2,cL.mk2,cM.mk2,bI.mk2,cN.mk2,cP.mk2,cQ.mk2,cR.mk2,cS.mk2,cT.mk2,cU.mk2,bJ.mk2,cV.mk2,cW.mk2,cX.mk2,cY.mk2,cZ.mk2,c0.mk2,c1.mk2,bK.mk2,da.mk2,c2.mk2,c3.mk2,c4.mk2,db.mk2,dc.mk2,A.mk2,C.mk2,x.mk2,L.mk2,B.mk2,I.mk2,y.mk2,r.mk2,u.mk2,H.mk2,z.mk2,E.mk2,Db.mk2 b6,(_,.cons (_,rfl) .nil,Hb J rfl rfl λus hq=>by
   have hl:us.length=1:=by simpa using hq
   clear hq
   revert us hl
   show DF λ_=>(_,rfl,rfl)),j9 X G b0,(b1,b2,b3,b4),(qa,bG.a,bG.i,b5),ny,j9 X G bF,(bL,bM,bN,bO),(p0,bH.a,bH.i,bP),nk,j9 X G ff,(ge,fx,gu,gv),(oD,bI.a,bI.i,fy),lk,ld,j9 X G ay,(az,aA,aB,aC),(pu,bJ.a,bJ.i,aD),mm,ll,j9 X G M,(T,Q,N,b6.kp),j9 X G Y,(d0,dm,d2,eg),(n5,bK.a,bK.i,dy),ir,lp,lj,ky,g5,kv,kF,l0,kT,md,iu X G qs,iu X G p6,iu X G nL,iu X G nq,iu X G q4,iu X G n7,iu X G pb,iu X G n0,iu X G rc,iu X G oo,iu X G p5,iu X G pw,pz,pj),rfl,cx.bt (λ_ _ _ _ _ _=>DF λ_=>rfl))
end N_k56
structure PySem.W.Fast:Prop where
 (tw16892494087929177153 tw5281581301501492933 tw12636123866151659126 tw17560601459224826242 tw3020259095318556174 tw13300686986116384343 tw4099979368395569192 tw7454273504625554308 tw17603467188555076454 tw16997587676740773693 tw7079866798665069853 tw14643150073573685734 te6562295813918167417 te14344739394939868365 te6282477543896762631 te17852715271613583405 te5494671076879320998 te3437373110959094379 te1022459933459997169 te14559099357885128778 te10487026779718634790 te15341903158608583935 te10572595509089517 te8587852197032048990 te1711971142779408487 te12333077582604867691 te4947003741068576128 te1431502468862067940 te8330821573075373746 te8033560356751484680 te13246374093835163387 te4236324795579077898 te4007277307912827185 te12812457286557597351 te11633822927020858431 te10696822075143183318 te624379052404470201 te2893442287251196957 te4879699531659256297 te15709699819508099760 te2648075751941660044 te12665097163755981577 te5646044405217545888 te4144177584394618511 te12988446757704625140 te8910541162803139486 te7055154221815488730 te3861048740892881359 te1123736514952930956 te7300735241538485774 te936460445547318210 te13034328460478427825 te8258469404906766206 te6214236101596674545 te2899435232142618317 te5570631469509080800 te4180105740434449148 te13124197442738986121 te11346092879154159437 te14673584624362402550 te17993828566684999258 te5018527908683598369 te4725945229944134131 te4627754462422459857 te10821813410219759261 te12726241110802715126 te2288062884438621549 te16790594895673811928 te9587015284417389432 te8756735672632586905 te5764443781428283099 te1971086778566065337 te280194263374995630 te11697938514914078434 te7353626725039053947 te10919741405336476024 te12677415769751412768 te15744483846221018023 te11696362493826386428 te13697392682517408045 te16355755608871616884 te17595916273790634206 te3145296199132984445 te14887628063284879800 te3040085114991703785 te11108293775663263600 te17482157008247997057 te16830171115342926221 te9566860577847793659 te1632329397127654440 te10220114577198713270 te10970598952848151813 te2613819463537520844 te15975157930087515467 te8264379670937905954 te7092202349726192306 te5415131725111097348 te8569163249829082199 te10530941947554240151 te11552837105465646482 te9428449566968199945 te15041725922257354921 te1278471961927541554 te12119116380606758443 te15486412764329514038 te2006683252139060699 te15688612244941741474 te15130304287799239711 te2603449424851802392 te8676764017300689322 te15198004495473297332 te15784436446379038826 te11710861914237671460 te9513288412572832549 te1204516437383982548 te7329184624060131676 te10967029346579981128 te11794984626902133722 te14876473247700239804 te11600760123672270310 te2006428114583381527 te4916835221127727126 te4429194903749195566 te14301419906879982625 te1663852617261596963 te10931211971976526907 te5835154426909714783 te2853654930187719247 te8951576960142746291 te5639440244826497832 te4583111359863171408 te18010240310804954859 te13188946771323597558 te1306413605315314237 te15835001077041265428 te8056536587242656183 te14769431936097409389 te13898134489267620673 te14421541301870972418 te9152198217411369209 te11042618463751883963 te15274129345010169354 te6166950345869901484 te4084943402505402832 te3730062418021289686 te16769505950054274542 te3472637279722311732 te14005799320963147693 te4862035543834814575 te6771842351226627765 te11260128850062129050 te16477135072099139327 te14274307204471420364 te7003381467355167087 te6403906436757083589 te3801343952475693563 te5178797282096443803 te3495826073277285408 te2648769454654972997 te14780307463748351061 te3094479108107722985 te15549399504999167650 te4801494101620596461 te10932946088242501839 te12818925516216309470 te3644927809816708132 te6892447212969102759 te11237776076245281754 te5324059201306891065 te13192275562577164941 te2400195236268081469 te3550688643284359787 te14831579318201418334 te14627095847788973236 te13512674169731518216 te10579382129176422181 te14687385869125138248 te17459309062862214666 te13858566446819238144 te12347395883763931001 te18423357633610027124 te134862202561895574 te15547212348247760413 te2345411795126084865 te13171565428310896843 te6499808000262379111 te11946576785929806402 te14341237192615583345 te15954914098688395855 te7212837883212337127 te3767866891800947832 te17679010983136937928 te7954203838309784408 te176981513869036444 te16665455050200010508 te13919270558857354370 te15178841463816540118 te12362135719159131714 te2223726097615025534 te2439760135680757042 te1066627274926068734 te17350701927583416205 te10780961311694152930 te10788009275014889778 te9880834417363817044 te4705612110153289229 te16987805540719535869 te11730343603515499523 te2261124440286220973 te18039395088500861585 te10527030024723021152 te11209170094259732609 te839851417607894019 te15795896444301779283 te16793806806733079112 te5654865342107574990 te4911708710652681971 te3191745478256976891 te747609895374254519 te15558409358325571544 te8281236954248300688 te7369666231417885518 te9374979512513584150 te5389988875080576520 te13325040224591114288 te6619103242510891207 te10694028601977147817 te16334073792284032398 te250420513402711392 te13908736858770327421 te5422919253803037060 te7891491135749272987 te3864089354031155830 te14579447469547722096 te18323924490317667165 te15837441407439311034 te16766228686191904770 te16274663527409540355 te2808250219501114840 te10379990995069565126 te8968445650224309420 te18000832591150084118 te1335234816445534847 te4909770994819429849 te16502582439352723460 te18233470462548276141 te17599747779358973897 te10219443953589517545 te9325859530612975711 te16749560950972595798 te1148863118472088495 te16962470700359183388 te8826226689072002594 te8482080794625470485 te18298661511633849611 te1737449786783279733 te16392935255844745834 te1642312264206340223 te10799550238656748317 te3366683692774018833 te5941382203184141774 te14803904622369664781 te10207749848009245737 te11160508118987707566 te9921189898497025085 te383449361389336625 te11066279019173698188 te4276996064275585496 te9761656851581137209 te3474843459051601628:True)
open PySem PySem.W PyProof.Rows
set_option maxRecDepth 100000 in
set_option maxHeartbeats 0 in
theorem PySem.Challenge.cw_standstill_k56_turned_about_holds : PySem.Challenge.rw_standstill_k56_turned_about.Holds := by
 w_on; o_law; k_head; (case hw=>w_witness2)
 k_fill
 refine L2.walk_ofK (l:=PySem.Challenge.rw_standstill_k56_turned_about) (n:=63) (k:=11) (x:="_law_script") (CX:=L2.CX0) (sp:=N_k56.sp_law) rfl (by decide) rfl ⟨rfl,by decide,by decide⟩ (fun w h Y=>PySem.W.kIn_of Y) ?F (fun _ _ a ns hl _ hS=>N_k56.sp_law_of hl hS) (fun _ _ _ _ z=>z)
 case F =>
  intro w mg fa h KX G hmg
  have TT : ∃ a : N_k56.Wa,∃ W : N_k56.Wd (L2.KOf KX) mg a,a.e_6.1=fa /\ ∀ (s:Shared) (v:Value),BindsTo s a.e_6.2 ⟨[v],[]⟩ [("_law_script",v)]:=by
   dsimp only [L2.KOf]
   refine' N_k56.all_mk KX G hmg ..
   all_goals first | k_is | kit_is | k_exc | exact ⟨by k_is,L2.fun_mk (by k_is) (by k_is) (by k_is)⟩ | exact ⟨by k_is,by k_is,L2.fun_mk (by k_is) (by k_is) (by k_is)⟩ | exact L2.fun_mk (by k_is) (by k_is) (by k_is) | (intro t ht; simp only [List.mem_cons,List.not_mem_nil,or_false] at ht; rcases ht with rfl | rfl | rfl | rfl | rfl | rfl | rfl <;> kit_is) | skip
  obtain ⟨a,W,e1,hb⟩:=TT
  subst e1
  exact ⟨_,hb,fun base kb nb=>N_k56.law_ok W⟩
