import PyProof.Rows.All
import Wide.All
import OpenK.AllK
import Wide.FinOn
import Lean
import PyProof.EqAt
import PyProof.EqKinds
import PyProof.TupleCall
import PyProof.NeKinds
import PySem.Challenge.RW_standstill_k53_all_sets_beside
set_option Elab.async false
set_option hygiene false
def L2.tp:Nat->List String->Array Lean.Term->Lean.MacroM (Array Lean.Term×List String)
|0,_,_=>Lean.Macro.throwUnsupported
|_,[],a=>pure (a,[])
|n+1,x::l,a=>do
 if x=")" then return(a,l)
 if x="(" then
  let(b,l)<-tp n l #[]
  return<-tp n l (a.push (Lean.Syntax.mkApp b[0]! (b.extract 1 b.size)))
 if x=".ok" then
  let t:=a.back!
  return<-tp n l (a.pop.push (<-`(($t).ok)))
 tp n l (a.push (<-match x with|"?"=>`(?_)|"_"=>`(_)|"!"=>`(by assumption)|"1"=>`(@1)|"%"=>`(hr.mono (by decide))|"rfl"=>`(rfl)|_=>if x.front='\'' then pure (Lean.Syntax.mkStrLit (x.drop 1).toString)else pure (Lean.mkIdent x.toName)))
def L2.tm(s:String):Lean.MacroM Lean.Term:=do
 let(b,_)<-L2.tp 99 (s.splitOn " ") #[]
 return Lean.Syntax.mkApp b[0]! (b.extract 1 b.size)
def L2.fs(s:String):Lean.MacroM (Array (Lean.TSyntax ``Lean.Parser.Tactic.tacticSeq)):=(s.splitOn "|").toArray.mapM fun x=>do
 let t<-L2.tm x
 `(Lean.Parser.Tactic.tacticSeq|refine $t)
def L2.gr(j:String)(a:Array (Lean.TSyntax ``Lean.Parser.Tactic.tacticSeq)):Lean.MacroM (Lean.TSyntax ``Lean.Parser.Tactic.tacticSeq):=do
 let j<-L2.tm j
 `(Lean.Parser.Tactic.tacticSeq|(with_reducible show $j);first $[|$a]*)
set_option hygiene true
def L2.rc:Nat->Lean.Term->Lean.MacroM (Lean.TSyntax `rcasesPat)
|0,_=>Lean.Macro.throwUnsupported
|n+1,t=>do
 let b:=match t with|`(($a,$b,*))=>#[a]++b.getElems|`(⟨$b,*⟩)=>b.getElems|_=>#[]
 if b.size>0 then
  let l<-b.mapM fun x=>do let y<-rc n x;`(Lean.Parser.Tactic.rcasesPatLo|$y:rcasesPat)
  return<-`(rcasesPat|⟨$l,*⟩)
 match t with|`($i:ident)=>`(rcasesPat|$i:ident)|_=>`(rcasesPat|_)
set_option genSizeOf false
set_option linter.all false
set_option compiler.extract_closed false
set_option bootstrap.genMatcherCode false
local macro_rules
|`(def $d:declId $b* :$t $v:declVal)=>if t.raw.isIdent||t.raw.isOfKind `Lean.Parser.Term.prop||[`Option,`List].contains t.raw[0].getId then `(noncomputable def $d $b* :$t $v:declVal)else `(theorem $d $b* :$t $v:declVal)
|`(nonrec def $d:declId $s:optDeclSig $v:declVal)=>`(@[reducible] noncomputable def $d $s:optDeclSig $v:declVal)
|`(abbrev $d:declId $s:optDeclSig $v:declVal)=>`(noncomputable def $d $s:optDeclSig $v:declVal)
|`(def $d:declId $v:declVal)=>`(noncomputable def $d $v:declVal)
local macro_rules
|`(tactic|have $p:term:=$e)=>do let q<-L2.rc 9 p;`(tactic|obtain $q:rcasesPat:=$e)
|`(tactic|show%$s $e)=>if s.getHeadInfo matches .original .. then `(tactic|refine $e)else Lean.Macro.throwUnsupported
local macro_rules
|`((%$s $a,$b,*))=>if b.elemsAndSeps.size%2=1&&s.getHeadInfo matches .original .. then `(⟨$a,$b,*⟩)else Lean.Macro.throwUnsupported
set_option maxRecDepth 100000
open Array renaming length_toList->i0,getElem?_eq_getElem->mf,getElem?_toList->qw,getD->qx,toList_push->wX
open Bool renaming false->af,true->ac,false_ne_true->bM,and_eq_true->b5,eq_iff_iff->gX,or_eq_true->j8,and_true->qy,true_and->qz,noConfusion->tG,or_true->qA,and_false->tH,or_false->tI,not_eq_true'->wY
open Classical renaming byContradiction->oh,propDecidable->EC
open False renaming elim->gY
open ForInStep renaming yield->oi
open Int renaming toNat->S,toNat_natCast->cU,emod_nonneg->d4,emod_lt_of_pos->gZ,le_trans->tJ
open List renaming length->Z,mem_cons_self->az,getD_eq_getElem?_getD->bD,getElem?_eq_getElem->b6,length_map->ay,length_append->aS,mem_cons_of_mem->bi,getElem?_eq_some_iff->c7,mem_singleton->bw,getElem?_map->cu,mem_append_left->bV,map_append->ba,mem_append_right->ci,range->bu,mem_append->bz,mem_map->aH,mem_cons->bc,append_nil->bO,length_range->cC,append_assoc->cK,getElem?_cons_succ->g4,length_cons->cv,mem_of_getElem?->dS,getElem?_eq_none->gy,mem_filter->b7,nodup_cons->b8,map_cons->bE,not_mem_nil->dD,length_singleton->f6,length_filter_le->gz,getElem_mem->g5,zip_cons_cons->fw,getElem?_set_self->j9,nodup_append->eO,foldl_append->eP,replicate->g6,getElem?_append_left->mh,getElem?_set_ne->lh,getElem?_append_right->oj,reverse_reverse->i4,mem_range->d5,getElem?_replicate->om,foldl_cons->fL,filter_append->i5,nodup_nil->fA,mem_reverse->g7,reverse_cons->i6,getElem?_of_mem->oq,length_replicate->mi,length_set->iy,length_reverse->li,filter_cons_of_pos->ot,getElem?_range->qB,reverse_append->mj,any_cons->gA,pairwise_cons->ml,append_of_mem->mn,take_of_length_le->qC,cons_append->lq,getElem_toArray->tK,filter_sublist->ou,ext_getElem?->mo,zipWith->ow,lookup_cons->mq,pairwise_append->qE,findIdx_lt_length_of_exists->wZ,map_set->g8,length_eq_zero_iff->tL,filterMap_cons->qF,zipWith_cons_cons->tM,set_cons_succ->qG,findIdx_cons->qH,length_zip->ox,nil_append->oA,mem_of_find?_eq_some->w5,map_reverse->qI,sublist_append_left->w6,all_cons->mr,set_cons_zero->tN,filter_cons_of_neg->w9,pairwise_singleton->xc
open List.Nodup renaming sublist->xf
open List.Pairwise renaming map->xg,sublist->ED
open List.Perm renaming append_left->xh,refl->tO,cons->xi
open List.Sublist renaming refl->qJ
open List.cons renaming inj->qK
open Nat renaming le_refl->aM,lt_succ_self->c8,ne_of_lt->bW,zero_le->cj,le_trans->cV,lt_of_lt_of_le->fB,le_of_lt->fD,not_lt_zero->g9,lt_irrefl->gB,lt_succ_of_lt->jI,lt_of_le_of_lt->lr,le_of_not_lt->oB,le_succ->ka,ne_of_gt->ls,zero_add->lu,lt_trans->mw,succ_pos->oC,lt_of_succ_lt_succ->xj,mul_le_mul_right->xk,min_self->tP
open Ne renaming symm->eQ
open Option renaming some->aa,none->ab,bind_some->aA,bind_eq_some_iff->tQ,isSome_iff_exists->xl
open Option.some renaming inj->dz
open Or renaming inr->bG,inl->b9
open Prod.mk renaming inj->tR
open PyProof.Rows renaming callWith_type1->kc,firstMet->eR,callWith_builtin1->xm,IntsAre->f7,envOfC->f8,boot_list->mx,AllBare->ke
open PySem renaming wpAny_bind->ak,wpAny_pure->aE,Shared->ah,starEach->aO,sizeLine->aT,mainGlobals->cD,sizeLine_eq->dE,compareOp->cL,wpAny_Call_Name_kw->i7,builtinLookup_eq_fast->kf,wpAny_newObj_type->i8,FuncData->cW,Program->ce,wpAny_call_entry->jJ,wpAny_mono->fM,binaryOp->dO,wpAny_callSpecial?_slot->oF,foldedSetIterable->lx,backTo->cf,codeAny_builtin->kg,typeLookup_type->kh,rawInt->cm,behindInMarks->jK,wpAny_holding->jL,keywordEach->iz,sysModules->hE,wpAny_truthy_bool->mC,swapsWith->f9,bootBuiltins->jM,Around->ca,wpAny_setField_rec->oG,wpAny_passesOwn->mD,getMethod->hJ,assignEach->i9,NameKind->ga,mem_of_lookup->qL,wpAny_setState_of->oH,holding->eS,isSubtype_type->mE,wpAny_setEntries_of->qM,codeAny_mono->ly,intKind->fN,wpAny_loadPart'->tS,tupleKind_room_in1->qN,plainId_quiet->mF,backToKw->iA,standAt->gC,codeAny->gD,wpAny_isInstance->qP,attributeBase->oI,wpAny_attempt->oJ,wpAny_rule->lz,Spec->Lc,sliceBounds->mG,Builtin->eT,callWith->jN,firstArgMember->qQ,wpAny_pyIter_list->tT,typeLookup->mH,scanBound->lA,pickOrder->ja,wpAny_execs_nil->tU,pyNext->hU,wpAny_specialOf->tV,wpAny_updateSeq->tW,codeAny_call_builtin->xn,wpAny_fieldsOf->tX,wpAny_seqItems->tY,wpAny_of_eq->qR,Paired->hV,SetTable->dF,relayAll->mJ,entryFor->mK
open PySem.Around renaming in1_units->qS
open PySem.Builtin renaming bitAnd->tZ
open PySem.Builtin.Int renaming intBits->t4
open PySem.Builtin.List renaming listSameRef->t7,listExtendWith->xp,listLengthHint->EE,listTooLong->EF
open PySem.Calls renaming spliced_cons->jb,callWith_builtin->xq,evalArgs_plain->xr,spliced_nil->xu
open PySem.F renaming plainAttrs_list->jO,called_set->lB,slot_list_reversed->xv,slot_list_append->xy,type_list_append->xz,slot_list_extend->xA,type_list_extend->xB,slot_dict_get->xC,slot_dict_setdefault->EG
open PySem.Heap renaming get?_push_of_some->bF,get?_push_size->cM,lt_size->bC,size_push->jc,SameBut->gb,get?_update_other->oK,get?_update_self->oM
open PySem.Heap.SameBut renaming update->oN
open PySem.NameKind renaming free->fO,cell->mL
open PySem.Obj renaming mapSeq->hX
open PySem.Paired renaming length->oO
open PySem.PassesOwn renaming never->df
open PySem.SeqAt renaming EqAt->cw
open PySem.SeqAt.EqAt renaming int_str->xD,str_int->xE,same->xF
open PySem.SetTable renaming below->cE,grown->oP
open PySem.SetTable.below renaming go->t8
open PySem.Shared renaming TypeIs->t9
open PySem.Str renaming empty->oQ,ofString->ua
open PySem.Value renaming ref->eU,bool->iB,type->ki,none->mM
open PySem.W renaming Frag->aQ,findIn->cq,mg_none_of->iC,keepIn->gc,kia_one->jd,nsIn->d6,plainGet->kj,hasDictIn->lC,emptyDict->lD,plainOver->mN,instObj->lE,makesIn->mO,mg_of->km,fnOf->je
open Sum renaming inl->iD
open Sum.inl renaming inj->ub
open True renaming intro->iE
nonrec abbrev LB0:=List Bool
nonrec abbrev LI0:=List Int
nonrec abbrev LII:=List (Int×Int)
nonrec abbrev LOB:=List (Option Bool)
nonrec abbrev PRS:=PySem.Value->PySem.Shared->Prop
nonrec abbrev MGT:=PySem.Str->Option PySem.Value
nonrec abbrev PNS:=List (PySem.Addr×PySem.Obj)
nonrec abbrev LN:=List Nat
nonrec abbrev L2N:=List LN
nonrec abbrev LSt:=List PySem.Str
nonrec abbrev LVa:=List PySem.Value
nonrec abbrev LAd:=List PySem.Addr
nonrec abbrev LEx:=List PySem.Expr
def Za(_:True:=by rfl)(_:True:=by decide)(_:True:=by intro _;rfl)(_:True:=by first |exact b9 rfl |exact bG (b9 rfl) |exact bG (bG rfl))(_:True:=by first |exact b9 rfl |exact bG rfl)(_:True:=by first |exact .inl rfl |exact .inr rfl)(_:True:=by first |exact .inl rfl |exact .inr rfl |assumption)(_:True:=by first |rfl |exact glc rfl)(_:True:=by exact λ_ _=>rfl)(_:True:=by walk_at "bd")(_:True:=by first |exact ER _ (by decide) (by decide) |rfl)(_:True:=by decide +kernel)(_:True:=by exact Nat.le_of_ble_eq_true rfl)(_:True:=by first |exact E3 _ |rfl):=0
namespace Za
end Za
open Za renaming _auto_1->Zb,_auto_2->Zc,_auto_3->Zd,_auto_4->Ze,_auto_5->Zf,_auto_6->Zg,_auto_7->Zh,_auto_8->Zi,_auto_9->Zj,_auto_10->Zk,_auto_11->Zl,_auto_12->Zm,_auto_13->Zn,_auto_14->Zo
namespace L2
open List
open PySem PySem.Spec PyProof.Rows
nonrec def Key:=Sum Int Str
abbrev lF:Key->Value->Bool
 |.inl k,v=>Value.isInt k v
 |.inr x,v=>Value.isStrOf x v
abbrev EH(w:World):Key->Int
 |.inl k=>hashInt k
 |.inr x=>hashStr w x
def jf:∀{k:Key} {v:Value},lF k v=ac->(∃i t,k=iD i/\v=Value.int i t)\/(∃x t,k=Sum.inr x/\v=Value.str x t)
 |.inl i,v,h=>by
  have(t,e):=Value.isInt_shape h
  show .inl (i,t,rfl,e)
 |.inr x,v,h=>by
  have(t,e):=Value.isStrOf_shape h;show .inr (x,t,rfl,e)
def EI(i:Int)(t:Tok):lF (.inl i) (.int i t)=ac:=by simp[lF,Value.isInt]
def EJ(x:Str)(t:Tok):lF (.inr x) (.str x t)=ac:=by simp[lF,Value.isStrOf]
def uc(a b:Int):decide ((iD a:Key)=iD b)=(a==b):=by grind
def EK(a b:Str):decide ((Sum.inr a:Key)=Sum.inr b)=decide (a=b):=by grind
def xG(a:Int)(b:Str):decide ((iD a:Key)=Sum.inr b)=af:=decide_eq_false (λq=>nomatch q)
def xH(a:Str)(b:Int):decide ((Sum.inr a:Key)=iD b)=af:=decide_eq_false (λq=>nomatch q)
abbrev lG(prog:ce)(w:World):PySem.KeyKind prog w Key where
 is:=lF
 hash:=EH w
 inj:=λv a b ha hb=>by
  rcases jf ha with⟨i,t,rfl,rfl⟩ |⟨x,t,rfl,rfl⟩
  .rcases jf hb with⟨j,u,rfl,e⟩ |⟨y,u,rfl,e⟩
   .injection e with e1 _;rw[e1]
   .show nomatch e
  .rcases jf hb with⟨j,u,rfl,e⟩ |⟨y,u,rfl,e⟩
   .show nomatch e
   .injection e with e1 _;rw[e1]
 byValue:=λk v h=>by
  rcases jf h with⟨i,t,rfl,rfl⟩ |⟨x,t,rfl,rfl⟩ <;> rfl
 pyHash:=λhv h=>by
  rcases jf hv with⟨i,t,rfl,rfl⟩ |⟨x,t,rfl,rfl⟩
  .show wpAny_pyHash_int h
  .show wpAny_pyHash_str h
 eqBool:=λhu hv h=>by
  rcases jf hu with⟨i,t,rfl,rfl⟩ |⟨x,t,rfl,rfl⟩
  .rcases jf hv with⟨j,u,rfl,rfl⟩ |⟨y,u,rfl,rfl⟩
   .rw[uc]at h;show wpAny_eqBool_int h
   .rw[xG]at h;show xD i t y u _ _ _ _ h
  .rcases jf hv with⟨j,u,rfl,rfl⟩ |⟨y,u,rfl,rfl⟩
   .rw[xH]at h;show xE x t j u _ _ _ _ h
   .rw[EK]at h;show wpAny_eqBool_str h
 «strs»:=λk x t v h=>by
  rcases jf h with⟨i,u,rfl,e⟩ |⟨y,u,rfl,e⟩
  .show nomatch e
  .injection e with e1 _
   subst e1
   cases v <;> rfl
def Ld(prog:ce)(w:World)(i:Int)(t:Tok):(lG prog w).is (.inl i) (.int i t)=ac:=EI i t
def Le(prog:ce)(w:World)(x:Str)(t:Tok):(lG prog w).is (.inr x) (.str x t)=ac:=EJ x t
inductive V where
 |non |bl (b:Bool) |int (i:Int) |str (x:Str) |byt (b:Array UInt8) |flt (b:UInt64) |ref (a:Addr) |ty (n:String)
 deriving DecidableEq
nonrec abbrev LVv:=List V
abbrev aD:V->Value->Prop
 |.non,u=>u=mM
 |.bl b,u=>u=iB b
 |.int i,u=>∃t,u=Value.int i t
 |.str x,u=>∃t,u=Value.str x t
 |.byt b,u=>∃t,u=Value.bytes b t
 |.flt b,u=>∃t,u=Value.float b t
 |.ref a,u=>u=eU a
 |.ty n,u=>u=ki n
nonrec abbrev aG:LVv->LVa->Prop:=hV aD
variable{E:LVv}{us:LVa}
def aG.length(r:aG E us):Z E=Z us:=oO r
def aG.get:∀{E:LVv} {us:LVa} {i:Nat} {x:V},aG E us->E[i]?=aa x->∃u,us[i]?=aa u/\aD x u
 | _,_,_,_,.nil,e=>by simp at e
 | _,_,0,_,.cons r _,e=>by simp at e;subst e;show(_,rfl,r)
 | _,_,i+1,x,.cons _ t,e=>by
  have(u,a,h2):=aG.get t (by simpa using e);show(u,by simpa using a,h2)
def aG.set{x:V}{u:Value}(r:aD x u):∀{E:LVv} {us:LVa} (i:Nat),aG E us->aG (E.set i x) (us.set i u)
 | _,_,_,.nil=>.nil
 | _,_,0,.cons _ t=>.cons r t
 | _,_,i+1,.cons q t=>.cons q (aG.set r i t)
def aG.append:∀{E a:LVv} {us ws:LVa},aG E us->aG a ws->aG (E++a) (us++ws)
 | _,_,_,_,.nil,s=>s
 | _,_,_,_,.cons r t,s=>.cons r (aG.append t s)
def aG.take:∀{E:LVv} {us:LVa} (n:Nat),aG E us->aG (E.take n) (us.take n)
 | _,_,0,_=>.nil
 | _,_,_+1,.nil=>.nil
 | _,_,n+1,.cons r t=>.cons r (aG.take n t)
def aG.drop:∀{E:LVv} {us:LVa} (n:Nat),aG E us->aG (E.drop n) (us.drop n)
 | _,_,0,r=>r
 | _,_,_+1,.nil=>.nil
 | _,_,n+1,.cons _ t=>aG.drop n t
abbrev eV:Option V->Option Value->Prop
 |some v,aa u=>aD v u
 |none,ab=>True
 | _,_=>False
abbrev KV{a:Type}:List (a×V)->List (a×Value)->Prop:=hV λ(p:a×V) (q:a×Value)=>p.1=q.1/\aD p.2 q.2
abbrev kV:Key->V
 |.inl i=>.int i
 |.inr x=>.str x
abbrev kR:Key->V->Prop
 |.inl i,v=>v=.int i\/∃b:Bool,v=.bl b/\i=cond b 1 0
 |.inr x,v=>v=.str x
abbrev xI:Key->Value->Bool
 |.inl k,.bool b=>decide (k=cond b 1 0)
 |k,v=>lF k v
def mP{k:Key}{v:Value}(h:xI k v=ac):(∃i t,k=.inl i/\v=.int i t)\/(∃b:Bool,k=.inl (cond b 1 0)/\v=.bool b)\/(∃x t,k=.inr x/\v=.str x t):=by
 unfold xI at h;split at h
 .rename_i a b;show .inr (.inl (b,by rw[of_decide_eq_true h],rfl))
 .rcases jf h with q |q
  .show .inl q
  .show .inr (.inr q)
def Lf(a b:Bool):decide ((iD (cond a 1 0):Key)=iD (cond b 1 0))=(a==b):=by cases a <;> cases b <;> decide
def Lg(a:Bool)(j:Int):decide ((iD (cond a 1 0):Key)=iD j)=((if a then 1 else 0)==j):=by rw[uc];cases a <;> rfl
def Lh(j:Int)(a:Bool):decide ((iD j:Key)=iD (cond a 1 0))=(j==(if a then 1 else 0)):=by rw[uc];cases a <;> rfl
variable{prog:ce}{w:World}{A:ca}{X4:PRS}
def Li{s:ah}{b:Bool}{Q:Int->ah->Prop}(h:Q (hashInt (cond b 1 0)) {s with toks:=s.toks+1}):wpAny (model prog w) A (pyHash (.bool b)) Q X4 s:=by
 show W.pyHash_slot (T:="bool") rfl PySem.F.slot_bool_hash PySem.entry_int_hash (PySem.args_int_hash _) (beq_builtin_none _) (.inl rfl) ?_;cases b
 .show(show wpAny _ _ (do ret (<- mkInt 0)) _ _ s from ak (wpAny_mkInt (aE (_,_,rfl,h))))
 .show(show wpAny _ _ (do ret (<- mkInt 1)) _ _ s from ak (wpAny_mkInt (aE (_,_,rfl,h))))
abbrev mQ(prog:ce)(w:World):PySem.KeyKind prog w Key where
 is:=xI
 hash:=EH w
 inj:=λv a b ha hb=>by
  rcases mP ha with⟨i,t,rfl,rfl⟩ |⟨c,rfl,rfl⟩ |⟨x,t,rfl,rfl⟩ <;> rcases mP hb with⟨j,u,rfl,e⟩ |⟨d,rfl,e⟩ |⟨y,u,rfl,e⟩ <;> cases e <;> rfl
 byValue:=λk v h=>by
  rcases mP h with⟨i,t,rfl,rfl⟩ |⟨c,rfl,rfl⟩ |⟨x,t,rfl,rfl⟩ <;> rfl
 pyHash:=λhv h=>by
  rcases mP hv with⟨i,t,rfl,rfl⟩ |⟨c,rfl,rfl⟩ |⟨x,t,rfl,rfl⟩
  .show wpAny_pyHash_int h
  .show Li h
  .show wpAny_pyHash_str h
 eqBool:=λhu hv h=>by
  rcases mP hu with⟨i,t,rfl,rfl⟩ |⟨c,rfl,rfl⟩ |⟨x,t,rfl,rfl⟩ <;> rcases mP hv with⟨j,u,rfl,rfl⟩ |⟨d,rfl,rfl⟩ |⟨y,u,rfl,rfl⟩
  .rw[uc]at h;show cw.int_int _ _ _ _ _ _ _ _ h
  .rw[Lh]at h;show cw.int_bool _ _ _ _ _ _ _ h
  .rw[xG]at h;show xD _ _ _ _ _ _ _ _ h
  .rw[Lg]at h;show cw.bool_int _ _ _ _ _ _ _ h
  .rw[Lf]at h;show cw.bool_bool _ _ _ _ _ _ h
  .rw[xG]at h;show cw.bool_str _ _ _ _ _ _ _ h
  .rw[xH]at h;show xE _ _ _ _ _ _ _ _ h
  .rw[xH]at h;show cw.str_bool _ _ _ _ _ _ _ h
  .rw[EK]at h;show wpAny_eqBool_str h
 «strs»:=λk x t v h=>by
  rcases mP h with⟨i,u,rfl,e⟩ |⟨c,rfl,e⟩ |⟨y,u,rfl,e⟩
  .show nomatch e
  .show nomatch e
  .injection e with e1 _
   subst e1
   cases v <;> rfl
variable{P:ce}{v:V}
def Lj{k:Key}{u:Value}(q:kR k v)(r:aD v u):(mQ P w).is k u=ac:=by
 cases k with
 |inl i=>
  rcases q with rfl |⟨b,rfl,rfl⟩
  .have(t,e):=(show ∃t,u=Value.int i t from r);subst e;show EI i t
  .cases (show u=iB b from r);cases b <;> rfl
 |inr x=>cases (show v=V.str x from q);have(t,e):=(show ∃t,u=Value.str x t from r);subst e;show EJ x t
nonrec abbrev KRs:List Key->LVv->Prop:=hV kR
def EL{P:ce}{w:World}:∀{ks:List Key} {vs:LVv} {us:LVa},KRs ks vs->aG vs us->ItemsAre (mQ P w) ks us
 | _,_,_,.nil,r=>by cases r;show .nil
 | _,_,_,.cons q t,r=>by
  cases r with
  |cons h t'=>show .cons (Lj q h) (EL t t')
inductive HO where
 |lst (E:LVv)
 |tup (E:LVv)
 |dK (kvs:List (Key×V)) |dT (kvs:List (List Key×V))
 |set (S:Int->Bool) (n:Nat)
 |ins (X5 dx:Addr) (fs:List (Str×V))
 |own (x:Addr)
 |xd (fs:List (Str×V))
 |met (f x:Addr)
 |rng (lo hi:Int)
 |frz (o:Obj) (u:HO)
 |tbl (ps:Array Value)
 |ext (φ:Heap->Prop)
nonrec def Hp:=Addr->Option HO
def fE(H:Hp)(b:Addr)(k:List Key):Prop:=∃vs,H b=aa (.tup vs)/\KRs k vs
variable{H H':Hp}{b:Addr}
def fE.up{k:List Key}(h:fE H b k)(a:∀b E,H b=aa (.tup E)->H' b=aa (.tup E)):fE H' b k:=let (vs,e,q):=h;(vs,a _ _ e,q)
def upd(H:Hp)(a:Addr)(o:HO):Hp:=λb=>if b=a then aa o else H b
variable{a:Addr}
def bd{o:HO}:upd H a o a=aa o:=by unfold upd;rw[if_pos rfl]
def aL{o:HO}(h:b≠a):upd H a o b=H b:=by unfold upd;rw[if_neg h]
def EM{o u:HO}(h:H a=aa o)(h':H b=aa u)(d:o≠u):a≠b:=by grind
def fF{o:HO}(h:H a=aa o)(h':H b=ab):a≠b:=by
 intro e;subst e;rw[h]at h';cases h'
section
variable(P:ce)(w:World)
abbrev dU(H:Hp)(h:Heap)(a:Addr):HO->Prop
 |.lst E=>Z E<=aT/\∃(L:LVa) (n:Nat),aG E L/\h.get? a=aa {cls:=.type "list",data:=.seq L.toArray n}
 |.tup E=>Z E<=aT/\∃L:LVa,aG E L/\IsTup h a L.toArray
 |.dK kvs=>Z kvs<=aT/\(a==hE)=af/\∃vs,KV kvs vs/\h.DictOf (lG P w) a vs
 |.dT kvs=>Z kvs<=aT/\(a==hE)=af/\∃E:List (List Key×Addr×Value),
   hV (λ(p:List Key×V) (q:List Key×Addr×Value)=>p.1=q.1/\fE H q.2.1 p.1/\aD p.2 q.2.2) kvs E /\
   ∃o es c,h.get? a=aa o/\o.ExactDict/\o.data=.dict es c/\es.toList=E.map (entryOfKey (tupleKind (mQ P w)))/\(E.map (·.1)).Nodup
 |.set S n=>h.SetOf (fN P w) a S n
 |.ins X5 dx fs=>H dx=aa (.own a)/\Z fs<=1000/\dx≠a/\h.get? a=aa (lE X5 dx) /\
   ∃mA,h.Ns1 dx mA/\(∀f,eV (fs.lookup f) (mA f))/\PySem.Within mA (fs.map (·.1))
 |.own _=>∃o,h.get? a=aa o
 |.xd fs=>∃mA,h.Ns1 a mA/\∀f,eV (fs.lookup f) (mA f)
 |.rng lo hi=>∃t u v,h.get? a=aa {cls:=.type "range",data:=.fields #[.int lo t,.int hi u,.int 1 v]}
 |.frz o u=>h.get? a=aa o/\dU H h a u
 |.tbl ps=>h.get? a=aa {cls:=.none,data:=.fields ps}
 |.met f x=>h.get? a=aa (W.methodObj (.ref f) (.ref x))
 |.ext φ=>φ h/\(∃o,h.get? a=aa o)/\∀b h2:Heap,φ b->(∀o,b.get? a=aa o->h2.get? a=aa o)->φ h2
def HOk(H:Hp)(h:Heap):Prop:=∀a o,H a=aa o->dU P w H h a o
end
variable{h:Heap}
def dU.lt{o:HO}(x:dU P w H h a o):a<h.objs.size:=by
 cases o with
 |lst E=>have(_,_,_,_,e):=x;show bC e
 |tup E=>have(_,_,_,p):=x;show p.lt
 |dK kvs=>have(_,_,_,_,o,_,_,e,_):=x;show bC e
 |dT kvs=>have(_,_,_,_,o,_,_,e,_):=x;show bC e
 |set S n=>have(o,_,_,_,e,_):=x;show bC e
 |ins X5 dx fs=>have(_,_,_,e,_):=x;show bC e
 |own y=>have(_,e):=x;show bC e
 |xd fs=>have(_,(_,_,_,e,_),_):=x;show bC e
 |rng lo hi=>have(_,_,_,e):=x;show bC e
 |frz b u=>have(e,_):=x;show bC e
 |tbl ps=>show bC (x)
 |met f y=>show bC (x)
 |ext φ=>have(_,(_,e),_):=x;show bC e
def hV.mapP{e g:Type}{F G:e->g->Prop}:∀{c:List e} {d:List g},hV F c d->(∀a b,F a b->G a b)->hV G c d
 | _,_,.nil,_=>.nil
 | _,_,.cons r t,f=>.cons (f _ _ r) (hV.mapP t f)
variable{h':Heap}
section
variable{o:HO}
def dU.stay(x:dU P w H h a o)(k:∀b u,(b=a\/H b=aa (.own a))->h.get? b=aa u->h'.get? b=aa u)
 (l:∀b,H b=aa (.own a)->H' b=aa (.own a))(m:∀b E,H b=aa (.tup E)->H' b=aa (.tup E)):dU P w H' h' a o:=by
 induction o with
 |lst E=>have(z,L,n,r,e):=x;show(z,L,n,r,k _ _ (.inl rfl) e)
 |tup E=>have(z,L,r,g,e,c):=x;show(z,L,r,g,k _ _ (.inl rfl) e,c)
 |dK kvs=>have(z,y,vs,r,g,es,i,e,c):=x;show(z,y,vs,r,g,es,i,k _ _ (.inl rfl) e,c)
 |dT kvs=>
  have(z,y,E,r,g,es,i,e,c):=x
  show(z,y,E,hV.mapP r λp q z=>(z.1,z.2.1.up m,z.2.2),g,es,i,k _ _ (.inl rfl) e,c)
 |set S n=>have(g,es,i,t,e,c):=x;show(g,es,i,t,k _ _ (.inl rfl) e,c)
 |ins X5 dx fs=>
  have(d,z,ne,e,mA,(od,es,i,j,c),r):=x
  show(l _ d,z,ne,k _ _ (.inl rfl) e,mA,(od,es,i,k _ _ (.inr d) j,c),r)
 |own y=>have(g,e):=x;show(g,k _ _ (.inl rfl) e)
 |xd fs=>have(mA,(od,es,i,e,c),r):=x;show(mA,(od,es,i,k _ _ (.inl rfl) e,c),r)
 |rng lo hi=>have(t,u,v,e):=x;show(t,u,v,k _ _ (.inl rfl) e)
 |frz g u A=>have(e,q):=x;show(k _ _ (.inl rfl) e,A q)
 |tbl ps=>
  have e:=x
  show k a _ (.inl rfl) e
 |met f y=>
  have e:=x
  show k a _ (.inl rfl) e
 |ext φ=>have(p,(o,e),st):=x;show(st _ _ p λo q=>k _ _ (.inl rfl) q,(o,k _ _ (.inl rfl) e),st)
end
def HOk.lt{o:HO}(x:HOk P w H h)(e:H a=aa o):a<h.objs.size:=(x a o e).lt
def HOk.fresh(x:HOk P w H h)(e:h.objs.size<=a):H a=ab:=by
 cases q:H a with
 |none=>rfl
 |some u=>show absurd (fB (x.lt q) e) (gB _)
def HOk.kept(x:HOk P w H h)(k:∀b u,h.get? b=aa u->h'.get? b=aa u):HOk P w H h':=λa o e=>
 (x a o e).stay (λb u _ q=>k b u q) (λ_ q=>q) λ_ _ q=>q
def HOk.laid{o:HO}(x:HOk P w H h)(k:∀b u,h.get? b=aa u->h'.get? b=aa u)(f:h.objs.size<=a)(new:dU P w (upd H a o) h' a o):HOk P w (upd H a o) h':=λb u e=>by
 have hn:=x.fresh f
 by_cases d:b=a
 .subst d;rw[bd]at e;cases e;show new
 .rw[aL d]at e;show(x b u e).stay (λc v _ q=>k c v q) (λc q=>by rw[aL (fF q hn)];show q) λc E q=>by rw[aL (fF q hn)];show q
def Rd(H:Hp)(a:Addr)(u:HO):Prop:=H a=aa u\/∃o,H a=aa (.frz o u)
def Rd.ok{u:HO}(r:Rd H a u)(x:HOk P w H h):dU P w H h a u:=by
 rcases r with r |⟨o,r⟩
 .show x a u r
 .have(_,q):=x a _ r;show q
abbrev Mut:Option HO->Prop
 |some (.lst _)=>True
 |some (.dK _)=>True
 |some (.dT _)=>True
 |some (.set _ _)=>True
 |some (.ins _ _ _)=>True
 |some (.ext _)=>True
 | _=>False
variable{x e:Addr}{o':HO}
def HOk.write(ok:HOk P w H h)(f:Mut (H x))(n:e=x\/H e=aa (.own x))(k:∀b u,b≠e->h.get? b=aa u->h'.get? b=aa u)(i:∃u,h'.get? e=aa u)
 (new:dU P w (upd H x o') h' x o'):HOk P w (upd H x o') h':=λb u q=>by
 have a:∀c y,H c=aa (.own y)->c≠x:=λc y r z=>by subst z;rw[r]at f;show f
 have d:∀c E,H c=aa (.tup E)->c≠x:=λc E r z=>by subst z;rw[r]at f;show f
 by_cases j:b=x
 .subst j;rw[bd]at q;grind
 .rw[aL j]at q
  by_cases g:b=e
  .have l:H b=aa (.own x):=by
    grind
   rw[q]at l;cases l;have(v,hv):=i;show(v,by rw[g];show hv)
  .show(ok b u q).stay (λc v m r=>k c v ?_ r) (λc r=>by rw[aL (a c b r)];show r) λc E r=>by rw[aL (d c E r)];show r
   grind
structure Un(fs ex:LAd)(H H':Hp)(h h':Heap):Prop where
 keep:∀b o,h.get? b=aa o->H b=ab->b∉fs->b∉ex->h'.get? b=aa o
 slot:∀b o,h.get? b=aa o->H b=ab->b∈fs->b∉ex->∃sl,h'.get? b=aa {o with slots:=sl}
 free:∀b o,h.get? b=aa o->H b=ab->b∉ex->H' b=ab
 there:∀b o,h.get? b=aa o->b∉ex->∃o',h'.get? b=aa o'
 tups:∀b E,H b=aa (.tup E)->H' b=aa (.tup E)
 frzs:∀b o u,H b=aa (.frz o u)->H' b=aa (.frz o u)
 tbls:∀b ps,H b=aa (.tbl ps)->∃more,H' b=aa (.tbl (ps++more))
variable{ex:LAd}{H1:Hp}{h1:Heap}
def Un.any{fs:LAd}(u:Un fs ex H H1 h h1){a:Obj}(q:h.get? b=aa a)(n:H b=ab)(d:b∉ex):∃sl,h1.get? b=aa {a with slots:=sl}:=by
 by_cases c:b∈fs
 .show u.slot b a q n c d
 .show(a.slots,u.keep b a q n c d)
variable{H2:Hp}{h2:Heap}
def Un.trans{fs:LAd}(a:Un fs ex H H1 h h1)(b:Un fs ex H1 H2 h1 h2):Un fs ex H H2 h h2 where
 keep:=λc ob q n hc hx=>b.keep c ob (a.keep c ob q n hc hx) (a.free c ob q n hx) hc hx
 slot:=λc ob q n hc hx=>by
  have(sl,e1):=a.slot c ob q n hc hx;have(sl',e2):=b.slot c _ e1 (a.free c ob q n hx) hc hx;show(sl',e2)
 free:=λc ob q n hx=>by
  have(o',e1):=a.there c ob q hx;show b.free c o' e1 (a.free c ob q n hx) hx
 there:=λc ob q hx=>by
  have(o',e1):=a.there c ob q hx;show b.there c o' e1 hx
 tups:=λc E q=>b.tups c E (a.tups c E q)
 frzs:=λc ob E q=>b.frzs c ob E (a.frzs c ob E q)
 tbls:=λc ps q=>by
  have(m1,e1):=a.tbls c ps q;have(m2,e2):=b.tbls c _ e1;show(m1++m2,by rw[e2,Array.append_assoc])
def Un.kept{fs:LAd}(k:∀b u,h.get? b=aa u->h'.get? b=aa u):Un fs ex H H h h':=
 (λb a q _ _ _=>k b a q,λb a q _ _ _=>(a.slots,k b a q),λ_ _ _ n _=>n,λb a q _=>(a,k b a q),λ_ _ q=>q,λ_ _ _ q=>q,λ_ ps q=>(#[],by rw[q];simp))
def Un.refl{fs:LAd}:Un fs ex H H h h:=Un.kept λ_ _ q=>q
def Un.laid{fs:LAd}{o:HO}(k:∀b u,h.get? b=aa u->h'.get? b=aa u)(hp:h.objs.size<=a)(hn:H a=ab):Un fs ex H (upd H a o) h h' where
 keep:=λb u q _ _ _=>k b u q
 slot:=λb u q _ _ _=>(u.slots,k b u q)
 free:=λb u q n _=>by rw[aL (bW (fB (bC q) hp))];show n
 there:=λb u q _=>(u,k b u q)
 tups:=λb E q=>by rw[aL (fF q hn)];show q
 frzs:=λb u E q=>by rw[aL (fF q hn)];show q
 tbls:=λb ps q=>(#[],by rw[aL (fF q hn),q];simp)
def Un.write{fs:LAd}{o:HO}(a:Mut (H x))(g:e=x\/H e=aa (.own x))(k:∀b u,b≠e->h.get? b=aa u->h'.get? b=aa u)(d:∃u,h'.get? e=aa u):Un fs ex H (upd H x o) h h':=by
 have f:∀b,H b=ab->b≠x:=λb n z=>by subst z;rw[n]at a;show a
 have c:∀b,H b=ab->b≠e:=λb n z=>by
  grind
 have hm:∀b u,H b=aa u->¬Mut (aa u)->b≠x:=λb u q nm z=>by subst z;rw[q]at a;show nm a
 show(λb u q n _ _=>k b u (c b n) q,λb u q n _ _=>(u.slots,k b u (c b n) q),λb u q n _=>by rw[aL (f b n)];show n,λb u q _=>?_,
  λb E q=>by rw[aL (hm b _ q λz=>z)];show q,λb u E q=>by rw[aL (hm b _ q λz=>z)];show q,λb ps q=>(#[],by rw[aL (hm b _ q λz=>z),q];simp))
 grind
def trk(h:Heap)(H:Hp):LAd:=(bu h.objs.size).filter λa=>(H a).isSome
def oR(h:Heap)(H:Hp):Heap:=W.hideAll h (trk h H)
def Lk(h:Heap)(H:Hp):(oR h H).objs.size=h.objs.size:=W.hideAll_size _ _
def Ll{o:Obj}(e:h.get? b=aa o)(n:H b=ab):(oR h H).get? b=aa o:=
 W.hideAll_get _ e λhm=>by
  have q:=(b7.mp hm).2
  grind
def Lm{o:Obj}(e:(oR h H).get? b=aa o):h.get? b=aa o/\H b=ab:=by
 have e':=W.of_hideAll _ e;show(e',?_)
 cases q:H b with
 |none=>rfl
 |some x=>
  have hm:b∈trk h H:=b7.mpr (d5.mpr (bC e'),by simp[q]);have z:(oR h H).get? b=ab:=W.hideAll_none _ hm
  grind
def Ln(g h:Heap)(X2:Addr):PNS:=(bu h.objs.size).filterMap λa=>if a=X2\/(g.get? a).isSome=ac then ab else (h.get? a).map λo=>(a,o,)
def rest(g h:Heap)(X2 d:Addr):PNS:=(Ln g h X2).filter λp=>decide (p.1≠d)
structure Mod(K:aQ)(mg:MGT)(base:Heap):Prop where
 kin:K.In base
 glob:base.Ns cD mg
 blt:∃mb,base.Ns builtinsNs mb/\∀x:Str,x ≠ "__name__" -> mb x=jM x
 nolimit:base.NoLimit
set_option genInjectivity false in
structure Cx where
 prog:ce
 w:World
 K:aQ
 mg:Str->Option Value
 base:Heap
 A:ca
 N:LSt
 s₀:ah
 H₀:Hp
 env:Env
 outer:List Env
 stack:List Env
 ex:LAd
 fn:Str->Bool
 calm:Bool
 pn:PNS
 xe:Value->ah->Prop
nonrec abbrev NDb(x:Str):=(x==("__debug__":Str))=af
nonrec abbrev NCd(x:Str):=(x==("__classdict__":Str))=af
nonrec abbrev StE(X:Cx)(e:Expr)(es:LEx):=aO (e::es) X.env=(af,eval e X.env,)::aO es X.env
nonrec abbrev BkE(X:Cx)(pos:Pos)(es:LEx):=(cf pos (aO es X.env)).any (·.1)=af
nonrec abbrev LcF(X:Cx)(x:Str):=X.fn x=ac\/X.env.scope.names.lookup x=aa .local
def frs(l:List Env):LAd:=l.filterMap (·.frame)
nonrec def Cx.fs(X:Cx):LAd:=frs X.outer
def Vis(sc:Scope)(x:Str):Prop:=sc.names.lookup x=aa .local\/sc.names.lookup x=aa .cell\/sc.names.lookup x=aa .free
def Loc(sc:Scope)(x:Str):Prop:=sc.names.lookup x=aa .local\/sc.names.lookup x=aa .cell
def Lo(env:Env)(h:Heap)(m:MGT)(x:Str)(u:Value):Prop:=
 (env.kindOf x=aa .local/\m x=aa u)\/((env.kindOf x=aa .cell\/env.kindOf x=aa .free)/\∃c,env.cells.lookup x=aa c/\h.IsCell c (aa u))
structure Cx.Ok(X:Cx):Prop where
 mod:Mod X.K X.mg X.base
 kind:X.env.scope.kind=.function
 glob:X.env.globals=cD
 blt:X.env.builtins=builtinsNs
 above:X.s₀.heap.objs.size<=X.env.locals
 inj:∀x y c,X.env.cells.lookup x=aa c->X.env.cells.lookup y=aa c->x=y
 has:∀x,(X.env.kindOf x=aa .cell\/X.env.kindOf x=aa .free)->∃c,X.env.cells.lookup x=aa c
 cab:∀x c,X.fn x=ac->X.env.cells.lookup x=aa c->X.s₀.heap.objs.size<=c
 hd:X.calm=ac->X.A.handled=ab
 frames:X.A.frames=aa X.stack
 stk:X.stack=X.outer\/(X.stack=X.env::X.outer/\X.env.frame=aa X.env.locals)
 exf:∀b∈X.ex,b≠X.env.locals/\∀x c,X.env.cells.lookup x=aa c->c≠b
 bs:∀b o,X.base.get? b=aa o->X.s₀.heap.get? b=aa o/\X.H₀ b=ab
 bsz:X.base.objs.size<=X.s₀.heap.objs.size
 noex:∀b o,X.base.get? b=aa o->b∉X.ex
 exfs:∀b∈X.ex,b∉X.fs
 funs:X.s₀.heap.FunFrames X.base X.outer
 frf:∀b∈X.fs,X.H₀ b=ab
structure Inv(X:Cx)(U:PNS)(C:List (Option V))(H:Hp)(s:ah):Prop where
 ok:X.Ok
 os:s.os=X.s₀.os
 bare:ke s.gens
 base:Un X.fs X.ex X.H₀ H X.s₀.heap s.heap
 loc:∃m,s.heap.Ns X.env.locals m/\∀(i:Nat) (x:Str) (v:V),X.N[i]?=aa x->C[i]?=aa (aa v)->Vis X.env.scope x->∃u,aD v u/\Lo X.env s.heap m x u
 cell:∀x c,X.env.cells.lookup x=aa c->∃v,s.heap.IsCell c v
 free:H X.env.locals=ab
 freeC:∀x c,X.env.cells.lookup x=aa c->H c=ab
 pin:∀p∈X.pn++U,s.heap.get? p.1=aa p.2/\H p.1=ab/\p.1≠X.env.locals/\p.1∉X.fs/\∀v,p.2.data≠.cell v
 hok:HOk X.prog X.w H s.heap
 len:Z C=Z X.N
variable{X:Cx}
def Cx.Ok.nofr(ok:X.Ok){o:Obj}(e:X.base.get? b=aa o):b∉X.fs:=λa=>by
 have:=(ok.funs.mem a).1
 grind
variable{U:PNS}{C:List (Option V)}
def Inv.bs{s:ah}(I:Inv X U C H s):∀b o,X.base.get? b=aa o->s.heap.get? b=aa o/\H b=ab:=λb o e=>
 (I.base.keep b o (I.ok.bs b o e).1 (I.ok.bs b o e).2 (I.ok.nofr e) (I.ok.noex b o e),I.base.free b o (I.ok.bs b o e).1 (I.ok.bs b o e).2 (I.ok.noex b o e))
def Inv.bk{s:ah}(I:Inv X U C H s):∀b o,X.base.get? b=aa o->s.heap.get? b=aa o:=λb o e=>(I.bs b o e).1
def Inv.mod{s:ah}(I:Inv X U C H s):Mod X.K X.mg X.base:=I.ok.mod
def Inv.kIn{s:ah}(I:Inv X U C H s):X.K.In s.heap:=I.ok.mod.kin.keeps I.bk
def Inv.lt{s:ah}(I:Inv X U C H s):X.env.locals<s.heap.objs.size:=let (_,hn,_):=I.loc;hn.lt
def Inv.sz{s:ah}(I:Inv X U C H s):X.s₀.heap.objs.size<=s.heap.objs.size:=cV I.ok.above (fD I.lt)
def Inv.nofs{s:ah}(I:Inv X U C H s)(h:s.heap.objs.size<=a):a∉X.fs:=λb=>by
 have(_,o,c,_):=I.ok.funs.mem b;show absurd (fB (bC c) (cV I.sz h)) (gB _)
def Inv.cne{s:ah}(I:Inv X U C H s):∀x c,X.env.cells.lookup x=aa c->c≠X.env.locals:=λx c e z=>by
 have(v,o,f,hd):=I.cell x c e;have(m,(o',es,d,b,a,_),_):=I.loc
 grind
def Inv.funs{s:ah}(I:Inv X U C H s):s.heap.FunFrames X.base X.outer:=by
 have all:∀l,(∀b∈frs l,b∈X.fs)->X.s₀.heap.FunFrames X.base l->s.heap.FunFrames X.base l:=by
  intro l
  induction l with
  |nil=>intro _ _;trivial
  |cons env r j=>
   intro f h;have(g,(X2,o,d,hn,i,hd),hr):=h;have a:=f X2 (by unfold frs;rw[qF,d];show az);have(sl,e):=I.base.slot X2 o i (I.ok.frf X2 a) a λz=>I.ok.exfs X2 z a;show(g,(X2,_,d,hn,e,hd),j (λb c=>f b (by unfold frs;rw[qF,d];show bi _ c)) hr)
 show all X.outer (λ_ c=>c) I.ok.funs
def Inv.stack{s:ah}(I:Inv X U C H s):s.heap.FunFrames X.base X.stack:=by
 rcases I.ok.stk with e |⟨e,hf⟩
 .rw[e];show I.funs
 .rw[e];have(m,hn,_):=I.loc;show .cons (by rw[I.ok.kind];decide) hf hn (Heap.get?_none_of_le (cV I.ok.bsz I.ok.above)) I.funs
def Inv.stkSub{s:ah}(I:Inv X U C H s):∀b∈frs X.stack,b∈X.env.locals::X.fs:=λb a=>by
 rcases I.ok.stk with e |⟨e,hf⟩
 .rw[e]at a;show bi _ a
 .rw[e]at a;unfold frs at a;rw[qF,hf]at a;show a
def Inv.stkFree{s:ah}(I:Inv X U C H s):∀b∈frs X.stack,H b=ab:=λb a=>by
 rcases bc.mp (I.stkSub b a)with e |a
 .rw[e];show I.free
 .have(_,o,c,_):=I.ok.funs.mem a;show I.base.free b o c (I.ok.frf b a) λz=>I.ok.exfs b z a
variable{g':Array GenState}{t':Nat}{d':Drawn}
section
variable{s:ah}
def Inv.step{ch:LAd}(I:Inv X U C H s)
 (g:∀b∈ch,(b∈X.ex\/X.s₀.heap.objs.size<=b)/\b≠X.env.locals/\(∀x c,X.env.cells.lookup x=aa c->c≠b)/\∀p∈X.pn++U,p.1≠b)
 (keep:∀b o,b≠X.env.locals->b∉X.fs->b∉ch->s.heap.get? b=aa o->H b=ab->h'.get? b=aa o)
 (slot:∀b o,b≠X.env.locals->b∈X.fs->b∉ch->s.heap.get? b=aa o->H b=ab->∃sl,h'.get? b=aa {o with slots:=sl})(free:∀b o,b∉ch->s.heap.get? b=aa o->H b=ab->H' b=ab)
 (there:∀b o,b∉ch->s.heap.get? b=aa o->∃o',h'.get? b=aa o')
 (tups:∀b E,H b=aa (.tup E)->H' b=aa (.tup E))(frzs:∀b o u,H b=aa (.frz o u)->H' b=aa (.frz o u))(tbls:∀b ps,H b=aa (.tbl ps)->∃more,H' b=aa (.tbl (ps++more)))
 (ns:∀m,s.heap.Ns X.env.locals m->h'.Ns X.env.locals m)(hok:HOk X.prog X.w H' h')(T:ke g'):
  Inv X U C H' {s with heap:=h',gens:=g',drawn:=d',toks:=t'}:=by
 have J:∀b o,X.s₀.heap.get? b=aa o->b≠X.env.locals:=λb o e=>bW (fB (bC e) I.ok.above)
 have y:∀b o,X.s₀.heap.get? b=aa o->b∉X.ex->b∉ch:=λb o e a A=>by
  rcases(g b A).1 with z |z
  .show a z
  .show absurd (fB (bC e) z) (gB _)
 have f:∀x c,X.env.cells.lookup x=aa c->∀v,s.heap.IsCell c v->h'.IsCell c v:=λx c e v q_=>by
  have(o,B,hd):=q_;have h:=λz=>(g c z).2.2.1 x c e rfl
  by_cases M:c∈X.fs
  .have(sl,q):=slot c o (I.cne x c e) M h B (I.freeC x c e);show(_,q,hd)
  .show(o,keep c o (I.cne x c e) M h B (I.freeC x c e),hd)
 show(I.ok,I.os,T,(λb o e n A a=>(keep b o (J b o e) A (y b o e a) (I.base.keep b o e n A a) (I.base.free b o e n a)),λb o e n A a=>?_,λb o e n a=>?_,λb o e a=>?_,λb E e=>tups b E (I.base.tups b E e),λb o E e=>frzs b o E (I.base.frzs b o E e),λb ps e=>?_),?_,λx c e=>?_,?_,λx c e=>?_,λp N=>?_,hok,I.len)
 .have(sl,j):=I.base.slot b o e n A a;have(L,G):=slot b _ (J b o e) A (y b o e a) j (I.base.free b o e n a);show(L,G)
 .have(o',j):=I.base.there b o e a;show free b o' (y b o e a) j (I.base.free b o e n a)
 .have(o',j):=I.base.there b o e a;show there b o' (y b o e a) j
 .have(m1,j):=I.base.tbls b ps e;have(m2,G):=tbls b _ j;show(m1++m2,by rw[G,Array.append_assoc])
 .have(m,hn,Y):=I.loc;show(m,ns m hn,λi x v j G Q=>?_);have(u,r,l):=Y i x v j G Q;show(u,r,?_)
  rcases l with l |⟨k,c,e,z⟩
  .show .inl l
  .show .inr (k,c,e,f x c e _ z)
 .have(v,z):=I.cell x c e;show(v,f x c e v z)
 .have(m,(o,_,_,B,_),_):=I.loc;show free _ o (λz=>(g _ z).2.1 rfl) B I.free
 .have(v,o,B,hd):=I.cell x c e;show free c o (λz=>(g c z).2.2.1 x c e rfl) B (I.freeC x c e)
 .have(e,n,ne,nf,d):=I.pin p N;have h:=λz=>(g p.1 z).2.2.2 p N rfl;show(keep p.1 p.2 ne nf h e n,free p.1 p.2 h e n,ne,nf,d)
end
section
variable{s:ah}
def Inv.un(I:Inv X U C H s)(u:Un X.fs [] H H' s.heap h')(hok:HOk X.prog X.w H' h'):Inv X U C H' {s with heap:=h',toks:=t'}:=by
 have(m,(o,es,i,f,r),_):=id I.loc;have(sl,g):=u.any f I.free (by simp)
 show I.step (ch:=[]) (λ_ z=>nomatch z) (λb o _ d _ e n=>u.keep b o e n d (by simp)) (λb o _ d _ e n=>u.slot b o e n d (by simp)) (λb o _ e n=>u.free b o e n (by simp)) (λb o _ e=>u.there b o e (by simp)) u.tups u.frzs u.tbls (λj hm=>by
  have(o',es',c,a,h):=hm;rw[f]at a;cases a;show(_,es',c,g,h)) hok I.bare
end
section
variable{s:ah}
def Inv.call{ch:LAd}(I:Inv X U C H s)(u:Un (frs X.stack) ch H H' s.heap h')(hok:HOk X.prog X.w H' h')(l:ke g')
 (d:∀b∈ch,(b∈X.ex\/X.s₀.heap.objs.size<=b)/\b≠X.env.locals/\(∀x c,X.env.cells.lookup x=aa c->c≠b)/\∀p∈X.pn++U,p.1≠b):
  Inv X U C H' {s with heap:=h',gens:=g',drawn:=d',toks:=t'}:=by
 have(m,(o,es,v,i,r),_):=id I.loc;have(sl,h):=u.any i I.free λz=>(d _ z).2.1 rfl
 show I.step d (λb o h j a e n=>u.keep b o e n (λz=>(bc.mp (I.stkSub b z)).elim h j) a) (λb o _ _ a e n=>u.any e n a) (λb o a e n=>u.free b o e n a) (λb o a e=>u.there b o e a) u.tups u.frzs u.tbls (λy hm=>by
  have(o',es',g,f,q):=hm;rw[i]at f;cases f;show(_,es',g,h,q)) hok l
end
variable{it:Addr}
section
variable{s:ah}
def Inv.turned(I:Inv X U C H s)(k:∀b o,b≠it->s.heap.get? b=aa o->h'.get? b=aa o)(hn:H it=ab)(f:it≠X.env.locals)
 (h1:it∈X.ex\/X.s₀.heap.objs.size<=it)(h2:∀x c,X.env.cells.lookup x=aa c->c≠it)(h:∀p∈X.pn++U,p.1≠it):Inv X U C H {s with heap:=h',toks:=t'}:=by
 have d:∀b u,H b=aa u->b≠it:=λb u e z=>by rw[z,hn]at e;nomatch e
 show I.step (ch:=[it]) (λb i=>?_) (λb o _ _ a e _=>k b o (λz=>a (by simp[z])) e) (λb o _ _ a e _=>(o.slots,k b o (λz=>a (by simp[z])) e)) (λ_ _ _ _ n=>n)
  (λb o a e=>(o,k b o (λz=>a (by simp[z])) e)) (λ_ _ e=>e) (λ_ _ _ e=>e) (λb ps e=>(#[],by rw[e];simp)) (λm hm=>?_) (λb u e=>?_) I.bare
 .have e:b=it:=by simpa using i
  subst e;show(h1,f,h2,h)
 .have(o,es,g,j,r):=hm;show(o,es,g,k _ o (eQ f) j,r)
 .show(I.hok b u e).stay (λc v a q=>k c v ?_ q) (λ_ q=>q) λ_ _ q=>q
  rcases a with z |z
  .rw[z];show d b u e
  .show d c _ z
end
section
variable{s:ah}
def Inv.tok(I:Inv X U C H s)(t:Nat):Inv X U C H {s with toks:=t}:=I.un Un.refl I.hok
end
section
variable{s:ah}
def Inv.kept(I:Inv X U C H s)(k:∀b u,s.heap.get? b=aa u->h'.get? b=aa u):Inv X U C H {s with heap:=h',toks:=t'}:=I.un (Un.kept k) (I.hok.kept k)
end
section
variable{s:ah}
def Inv.laid{o:HO}(I:Inv X U C H s)(k:∀b u,s.heap.get? b=aa u->h'.get? b=aa u)(c:s.heap.objs.size<=a)(new:dU X.prog X.w (upd H a o) h' a o):
  Inv X U C (upd H a o) {s with heap:=h',toks:=t'}:=I.un (Un.laid k c (I.hok.fresh c)) (I.hok.laid k c new)
end
section
variable{s:ah}
def Inv.write{o:HO}(I:Inv X U C H s)(d:Mut (H x))(c:e=x\/H e=aa (.own x))(k:∀b u,b≠e->s.heap.get? b=aa u->h'.get? b=aa u)(a:∃u,h'.get? e=aa u)
 (new:dU X.prog X.w (upd H x o) h' x o):Inv X U C (upd H x o) {s with heap:=h',toks:=t'}:=I.un (Un.write d c k a) (I.hok.write d c k a new)
end
def Inv.pins_of{s:ah}{a:PNS}(I:Inv X U C H s)(h:∀p∈a,s.heap.get? p.1=aa p.2/\H p.1=ab/\p.1≠X.env.locals/\p.1∉X.fs/\∀v,p.2.data≠.cell v):Inv X a C H s:=
 (I.ok,I.os,I.bare,I.base,I.loc,I.cell,I.free,I.freeC,λp b=>(bz.mp b).elim (λz=>I.pin p (bV _ z)) (h p),I.hok,I.len)
variable{N:LSt}{i:Nat}{x:Str}
def EN(e:N.Nodup){j:Nat}(a:N[i]?=aa x)(b:N[j]?=aa x):i=j:=by
 have(h1,c):=c7.mp a;have(h2,d):=c7.mp b;show(List.getElem_inj e).mp (c.trans d.symm)
variable{X1:Model}{u:Value}{Q:Unit->ah->Prop}
section
variable{s:ah}
def EO(I:Inv X U C H s)(hN:X.N.Nodup)(hi:X.N[i]?=aa x)(B:Loc X.env.scope x)(r:aD v u)
 (h:∀s',Inv X U (C.set i (aa v)) H s'->(∃a,gb a s.heap s'.heap/\(a=X.env.locals\/X.env.cells.lookup x=aa a))->Q () s')(hf:autoParam (LcF X x) Zh):wpAny X1 A (storeName X.env x u) Q X4 s:=by
 have(m,hn,hl):=id I.loc;have hcls:(X.env.scope.kind==.class || (X.env.scope.kind==.module && X.env.locals != X.env.globals))=af:=by rw[I.ok.kind];rfl
 have J:i<Z C:=by rw[I.len];show(c7.mp hi).1
 have cne:=I.cne
 have l:∀{a:Addr} {h':Heap},(∃o,s.heap.get? a=aa o/\H a=ab)->gb a s.heap h'->HOk X.prog X.w H h':=λ{a h'} ha f b ob e=>by
  have(_,_,hfree):=ha;show(I.hok b ob e).stay (λc w' E q=>(f.2 c ?_).trans q) (λ_ q=>q) λ_ _ q=>q
  grind
 rcases B with hk |hk
 .show wpAny_storeName_local hk hn (λh' hn' f=>?_) hcls;have(oL,_,_,hoL,_):=id hn;show h _ (I.ok,I.os,I.bare,(λb o e n L B=>((f.2 b (bW (fB (bC e) I.ok.above))).trans (I.base.keep b o e n L B)),λb o e n L B=>?_,I.base.free,λb o e B=>?_,I.base.tups,I.base.frzs,I.base.tbls),(_,hn',λj y v' g G e3=>?_),λy c e=>?_,I.free,I.freeC,λp hp=>?_,l (oL,hoL,I.free) f,by simpa using I.len) (_,f,.inl rfl)
  .have(sl,g):=I.base.slot b o e n L B;show(sl,(f.2 b (bW (fB (bC e) I.ok.above))).trans g)
  .have(o',g):=I.base.there b o e B;show(o',(f.2 b (bW (fB (bC e) I.ok.above))).trans g)
  .by_cases T:j=i
   .subst T;rw[hi]at g;cases g;rw[j9 J]at G;cases G;show(u,r,.inl (hk,by simp))
   .rw[lh (eQ T)]at G;have(u',r',q):=hl j y v' g G e3;show(u',r',?_)
    rcases q with⟨k,e⟩ |⟨k,c,e,z⟩
    .show .inl (k,?_);have:y≠x:=λe=>T (EN hN g (e▸hi))
     grind
    .show .inr (k,c,e,z.sameBut f (cne y c e))
  .have(w',z):=I.cell y c e;show(w',z.sameBut f (cne y c e))
  .have(e,n,ne,nf,d):=I.pin p hp;show((f.2 p.1 ne).trans e,n,ne,nf,d)
 .have M:X.fn x=ac:=by
   grind
  have(c,E):=I.ok.has x (.inl hk);have(w',z):=I.cell x c E;show wpAny_storeName_cell I.ok.kind hk E z (λh' Y f=>?_);have(oc,hoc,hocd):=id z
  show h {s with heap:=h'} (I.ok,I.os,I.bare,(λb o e n L B=>((f.2 b (bW (fB (bC e) (I.ok.cab x c M E)))).trans (I.base.keep b o e n L B)),λb o e n L B=>?_,I.base.free,λb o e B=>?_,I.base.tups,I.base.frzs,I.base.tbls),(m,hn.sameBut f (eQ (cne x c E)),λj y v' g G e3=>?_),λy c' e=>?_,I.free,I.freeC,λp hp=>?_,l (oc,hoc,I.freeC x c E) f,by simpa using I.len) (c,f,.inr E)
  .have(sl,g):=I.base.slot b o e n L B;show(sl,(f.2 b (bW (fB (bC e) (I.ok.cab x c M E)))).trans g)
  .have(o',g):=I.base.there b o e B;show(o',(f.2 b (bW (fB (bC e) (I.ok.cab x c M E)))).trans g)
  .by_cases T:j=i
   .subst T;rw[hi]at g;cases g;rw[j9 J]at G;cases G;show(u,r,.inr (.inl hk,c,E,Y))
   .rw[lh (eQ T)]at G;have(u',r',q):=hl j y v' g G e3;show(u',r',?_)
    rcases q with q |⟨k,c',e,z'⟩
    .show .inl q
    .show .inr (k,c',e,z'.sameBut f ?_);rintro rfl;show T (EN hN g (I.ok.inj _ _ _ e E▸hi))
  .by_cases hcc:c'=c
   .subst hcc;show(_,Y)
   .have(w2,z2):=I.cell y c' e;show(w2,z2.sameBut f hcc)
  .have(e,n,ne,nf,d):=I.pin p hp;show((f.2 p.1 ?_).trans e,n,ne,nf,d);intro q;rw[q,hoc]at e;show d w' (by rw[<- (dz e)];show hocd)
end
def xJ{s:ah}(I:Inv X U C H s)(c:X.N.Nodup)(hi:X.N[i]?=aa x)(e:Loc X.env.scope x)(r:aD v u)
 (h:∀a,Inv X U (C.set i (aa v)) H a->Q () a)(d:autoParam (LcF X x) Zh):wpAny X1 A (storeName X.env x u) Q X4 s:=
 EO I c hi e r (λa b _=>h a b) d
variable{s':ah}
def Inv.call'{s:ah}{ch:LAd}(I:Inv X U C H s)(e:s'.os=s.os)(u:Un (frs X.stack) ch H H' s.heap s'.heap)(hok:HOk X.prog X.w H' s'.heap)(d:ke s'.gens)
 (a:∀b∈ch,(b∈X.ex\/X.s₀.heap.objs.size<=b)/\b≠X.env.locals/\(∀x c,X.env.cells.lookup x=aa c->c≠b)/\∀p∈X.pn++U,p.1≠b):Inv X U C H' s':=by
 have(h',g',d',t',o'):=s';subst e;show I.call u hok d a
nonrec def XK:=Value->Option Addr->Hp->Prop
nonrec def St:=List (Option V)
nonrec def VK:=V->Hp->Prop
nonrec def TE:=St->Hp->VK->Prop
nonrec def TT:=St->Hp->(Bool->Hp->Prop)->Prop
nonrec def TA:=St->Hp->(LVv->Hp->Prop)->Prop
structure jg where
 nx:St->Hp->Prop
 rt:VK
 bk:St->Hp->Prop:=λ_ _=>False
 ct:St->Hp->Prop:=λ_ _=>False
nonrec def TS:=jg->St->Hp->Prop
def EP(X:Cx)(U:PNS)(C:St)(Q:VK)(u:Value)(s':ah):Prop:=∃v H',Inv X U C H' s'/\aD v u/\Q v H'
def TP(X:Cx)(U:PNS)(C:St)(Q:Bool->Hp->Prop)(b:Bool)(s':ah):Prop:=∃H',Inv X U C H' s'/\Q b H'
def AP(X:Cx)(U:PNS)(C:St)(Q:LVv->Hp->Prop)(us:LVa)(s':ah):Prop:=∃vs H',Inv X U C H' s'/\aG vs us/\Q vs H'
def SP(X:Cx)(U:PNS)(D:jg)(f:Flow)(s':ah):Prop:=
 match f with
 |.next=>∃σ' H',Inv X U σ' H' s'/\D.nx σ' H'
 |.brk=>∃σ' H',Inv X U σ' H' s'/\D.bk σ' H'
 |.cont=>∃σ' H',Inv X U σ' H' s'/\D.ct σ' H'
 |.ret u=>∃v σ' H',Inv X U σ' H' s'/\aD v u/\D.rt v H'
def PE(X:Cx)(e:Expr)(t:TE):Prop:=
 ∀(U:PNS) (s:ah) (C:St) (H:Hp) (Q:VK),Inv X U C H s->t C H Q->wpAny (model X.prog X.w) X.A (eval e X.env) (EP X U C Q) X.xe s
def PT(X:Cx)(e:Expr)(t:TT):Prop:=
 ∀(U:PNS) (s:ah) (C:St) (H:Hp) (Q:Bool->Hp->Prop),Inv X U C H s->t C H Q->wpAny (model X.prog X.w) X.A (isTrue e X.env (eval e X.env)) (TP X U C Q) X.xe s
def PW(X:Cx)(e:Expr)(t:TT):Prop:=
 ∀(a:Sem Value) (U:PNS) (s:ah) (C:St) (H:Hp) (Q:Bool->Hp->Prop),Inv X U C H s->t C H Q->wpAny (model X.prog X.w) X.A (isTrue e X.env a) (TP X U C Q) X.xe s
variable{e:Expr}
def PW.pt{t:TT}(h:PW X e t):PT X e t:=h _
def PA(X:Cx)(es:LEx)(t:TA):Prop:=
 ∀(pos:Pos) (U:PNS) (s:ah) (C:St) (H:Hp) (Q:LVv->Hp->Prop),Inv X U C H s->t C H Q->wpAny (model X.prog X.w) X.A (spliced (cf pos (aO es X.env))) (AP X U C Q) X.xe s
def PS(X:Cx)(st:Stmt)(t:TS):Prop:=
 ∀(U:PNS) (s:ah) (C:St) (H:Hp) (D:jg),Inv X U C H s->t D C H->wpAny (model X.prog X.w) X.A (exec st X.env) (SP X U D) X.xe s
def PSs(X:Cx)(st:List Stmt)(t:TS):Prop:=
 ∀(U:PNS) (s:ah) (C:St) (H:Hp) (D:jg),Inv X U C H s->t D C H->wpAny (model X.prog X.w) X.A (execs st X.env) (SP X U D) X.xe s
def thn{c:Type}{t:Sem c}{Q b:c->ah->Prop}{s:ah}(h:wpAny X1 A t Q X4 s)(d:∀a s,Q a s->b a s):wpAny X1 A t b X4 s:=fM h d λ_ _ x=>x
def cX(i:Nat):TE:=λC H Q=>∃v,C[i]?=aa (aa v)/\Q v H
def tC(v:V):TE:=λ_ H Q=>Q v H
variable{pos:Pos}
def mR(g:X.N[i]?=aa x)(hv:Vis X.env.scope x)(hd:autoParam (NDb x) Zc)(d:autoParam (NCd x) Zc):PE X (.Name x pos) (cX i):=by
 intro U s C H Q I h;have(v,e,h):=h;have(m,hn,j):=I.loc;have(u,r,l):=j i x v g e hv;have fin:EP X U C Q u s:=(v,H,I,r,h)
 rcases l with⟨b,hm⟩ |⟨b,c,f,a⟩
 .show wpAny_Name (wpAny_loadName_local I.ok.kind b hn hm fin) hd
 .rcases b with b |b
  .show wpAny_Name (wpAny_loadName_cell I.ok.kind b f a fin) hd
  .show wpAny_Name (wpAny_loadName_free I.ok.kind b f a fin d) hd
def EQ{i j pos}:PE X (.Constant (.int i) j pos) (tC (.int i)):=λ_ _ _ H _ I h=>wpAny_Constant_int (.int i,H,I.tok _,(_,rfl),h)
def Lp{b j pos}:PE X (.Constant (.bool b) j pos) (tC (.bl b)):=λ_ _ _ H _ I h=>Constant_bool (.bl b,H,I,rfl,h)
def Lq{j pos}:PE X (.Constant .none j pos) (tC .non):=λ_ _ _ H _ I h=>Constant_none (.non,H,I,rfl,h)
def Lr{x j pos}:PE X (.Constant (.str x) j pos) (tC (.str x)):=λ_ _ _ H _ I h=>Calls.Constant_str (.str x,H,I.tok _,(_,rfl),h)
def Gl(X:Cx)(x:Str):Prop:=X.env.kindOf x=aa .globalImplicit
variable{C:St}
def xK{s:ah}{Q:PRS}(I:Inv X U C H s)(a:Gl X x)(hm:X.mg x=aa u)(h:Q u s)
 (hd:autoParam (NDb x) Zc):wpAny (model X.prog X.w) X.A (eval (.Name x pos) X.env) Q X4 s:=
 Calls.Name_function_global I.ok.kind a (Calls.loadGlobal_global (by rw[I.ok.glob];show I.mod.glob.keeps I.bk) hm h) hd
def hZ{s:ah}{Q:PRS}(I:Inv X U C H s)(a:Gl X x)(hm:X.mg x=ab)(hv:jM x=aa u)(h:Q u s)
 (hn:autoParam (x ≠ "__name__") Zc)(hd:autoParam (NDb x) Zc):wpAny (model X.prog X.w) X.A (eval (.Name x pos) X.env) Q X4 s:=by
 have(mb,h1,h2):=I.mod.blt;show Calls.Name_function_global I.ok.kind a (Calls.loadGlobal_builtin (by rw[I.ok.glob];show I.mod.glob.keeps I.bk) hm (by rw[I.ok.blt];show h1.keeps I.bk) ((h2 x hn).trans hv) h) hd
def Lu(a:Gl X x)(hm:X.mg x=ab)(hv:jM x=aa u)(r:aD v u)(hn:autoParam (x ≠ "__name__") Zc)(hd:autoParam (NDb x) Zc):PE X (.Name x pos) (tC v):=
 λ_ _ _ H _ I h=>hZ I a hm hv (v,H,I,r,h) hn hd
abbrev t2I(a b:TE)(k:Int->Int->Hp->Prop):St->Hp->Prop:=λC H=>a C H λx H1=>b C H1 λy H2=>∃i j,x=.int i/\y=.int j/\k i j H2
def gE(a b:TE):TE:=λC H Q=>t2I a b (λi j H2=>Q (.int (i+j)) H2) C H
def PC(X:Cx)(op:CmpOp)(a b:Expr)(t:TE):Prop:=
 ∀(U:PNS) (s:ah) (C:St) (H:Hp) (Q:VK),Inv X U C H s->t C H Q ->
  wpAny (model X.prog X.w) X.A (eval a X.env) (λv c=>wpAny (model X.prog X.w) X.A (eval b X.env) (λu d=>wpAny (model X.prog X.w) X.A (cL op v u) (EP X U C Q) X.xe d) X.xe c) X.xe s
variable{op:CmpOp}
def ER(b:Expr)(h:op≠.In)(h2:op≠.NotIn):jK op b=af:=by
 have a:(op==CmpOp.In)=af:=by grind
 have c:(op==CmpOp.NotIn)=af:=by grind
 cases b <;> simp[jK,a,c]
variable{a b:Expr}
def Lv{t:TE}(h:PC X op a b t)(h1:autoParam (jK op b=af) Zl):PE X (.Compare a [op] [b] pos) t:=λU s C H Q I c=>wpAny_Compare1 (h U s C H Q I c) h1
def Lw(t u:TT):TT:=λC H Q=>t C H λc H1=>if c=ac then u C H1 Q else Q af H1
def tOr(t u:TT):TT:=λC H Q=>t C H λc H1=>if c=ac then Q ac H1 else u C H1 Q
def Lx(t:TT):TT:=λC H Q=>t C H λc H1=>Q (!c) H1
variable{tA:TT}
def Ly(ha:PT X a tA):PW X (.BoolOp .And [a] pos) tA:=by
 intro wh U s C H Q I h;show isTrue_and (thn (ha U s C H Q I h) λc s1 e=>?_)
 cases c with
 |true=>show isTrue_and_nil e
 |false=>show e
def Lz(ha:PT X a tA):PW X (.BoolOp .Or [a] pos) tA:=by
 intro wh U s C H Q I h;show isTrue_or (thn (ha U s C H Q I h) λc s1 e=>?_)
 cases c with
 |false=>show isTrue_or_nil e
 |true=>show e
variable{tB':TT}
def LA{rest:LEx}(ha:PT X a tA)(f:PW X (.BoolOp .And (b::rest) pos) tB'):PW X (.BoolOp .And (a::b::rest) pos) (Lw tA tB'):=by
 intro wh U s C H Q I h;show isTrue_and (thn (ha U s C H _ I h) λc s1 g=>?_);have(H1,d,e):=g
 cases c with
 |true=>show f wh U s1 C H1 Q d e
 |false=>show(H1,d,e)
def LB{rest:LEx}(ha:PT X a tA)(f:PW X (.BoolOp .Or (b::rest) pos) tB'):PW X (.BoolOp .Or (a::b::rest) pos) (tOr tA tB'):=by
 intro wh U s C H Q I h;show isTrue_or (thn (ha U s C H _ I h) λc s1 g=>?_);have(H1,d,e):=g
 cases c with
 |true=>show(H1,d,e)
 |false=>show f wh U s1 C H1 Q d e
def LC(ha:PT X a tA):PT X (.UnaryOp .Not a pos) (Lx tA):=by
 intro U s C H Q I h;show isTrue_not (ha U s C H _ I h)
def LF(a b:TE):TE:=λC H Q=>a C H λx H1=>∃c,x=.bl c/\if c=ac then b C H1 Q else Q (.bl af) H1
def LG(a b:TE):TE:=λC H Q=>a C H λx H1=>∃c,x=.bl c/\if c=ac then Q (.bl ac) H1 else b C H1 Q
def LH(a:TE):TE:=λC H Q=>a C H λx H1=>∃c,x=.bl c/\Q (.bl (!c)) H1
def LI{op}{t:TE}(h:PE X a t):PE X (.BoolOp op [a] pos) t:=λU s C H Q I b=>BoolOp_one (h U s C H Q I b)
variable{ta tb:TE}
def LJ{rest:LEx}(ha:PE X a ta)(f:PE X (.BoolOp .And (b::rest) pos) tb):PE X (.BoolOp .And (a::b::rest) pos) (LF ta tb):=by
 intro U s C H Q I h;show BoolOp_and (thn (ha U s C H _ I h) λv s1 g=>?_);have(x,H1,e,i,d):=g;have(c,rfl,d):=d;subst i;show mC ?_
 cases c with
 |true=>show f U s1 C H1 Q e d
 |false=>show(.bl af,H1,e,rfl,d)
def LK{rest:LEx}(ha:PE X a ta)(f:PE X (.BoolOp .Or (b::rest) pos) tb):PE X (.BoolOp .Or (a::b::rest) pos) (LG ta tb):=by
 intro U s C H Q I h;show BoolOp_or (thn (ha U s C H _ I h) λv s1 g=>?_);have(x,H1,e,i,d):=g;have(c,rfl,d):=d;subst i;show mC ?_
 cases c with
 |false=>show f U s1 C H1 Q e d
 |true=>show(.bl ac,H1,e,rfl,d)
def LL(ha:PE X a ta):PE X (.UnaryOp .Not a pos) (LH ta):=by
 intro U s C H Q I h;show UnaryOp_ (thn (ha U s C H _ I h) λv s1 e=>?_);have(x,H1,d,f,b):=e;have(c,rfl,b):=b;subst f;show not_of (mC (.bl (!c),H1,d,rfl,b))
def tIf(t:TT)(ta tb:TE):TE:=λC H Q=>t C H λc H1=>if c=ac then ta C H1 Q else tb C H1 Q
variable{c:Expr}
def ES(i:PT X c tA)(ha:PE X a ta)(g:PE X b tb):PE X (.IfExp c a b pos) (tIf tA ta tb):=by
 intro U s C H Q I h;show wpAny_IfExp (thn (i U s C H _ I h) λd s1 j=>?_);have(H1,e,f):=j
 cases d with
 |true=>show ha U s1 C H1 Q e f
 |false=>show g U s1 C H1 Q e f
def SqL(K:aQ)(H:Hp)(a:Addr)(E:LVv):Prop:=
 Rd H a (.lst E) \/
  ∃(o:Obj) (L:Array Value) (n:Nat),K.lookup a=aa o/\o.cls=.type "list" /\ o.dict=ab/\o.data=.seq L n/\L.size<=aT/\aG E L.toList
def SqT(K:aQ)(H:Hp)(a:Addr)(E:LVv):Prop:=
 Rd H a (.tup E) \/
  ∃(o:Obj) (L:Array Value) (n:Nat),K.lookup a=aa o/\o.cls=.type "tuple" /\ o.data=.seq L n/\L.size<=aT/\aG E L.toList
abbrev LM:Value->Option V
 |.none=>aa .non
 |.bool b=>aa (.bl b)
 |.int i _=>aa (.int i)
 |.str x _=>aa (.str x)
 |.bytes b _=>aa (.byt b)
 |.float b _=>aa (.flt b)
 |.ref a=>aa (.ref a)
 |.type n=>aa (.ty n)
 | _=>ab
def aD.abs{x:V}(r:aD x u):LM u=aa x:=by
 cases x with
 |non=>subst r;rfl
 |bl _=>subst r;rfl
 |int _=>have(t,rfl):=r;rfl
 |str _=>have(t,rfl):=r;rfl
 |byt _=>have(t,rfl):=r;rfl
 |flt _=>have(t,rfl):=r;rfl
 |ref _=>subst r;rfl
 |ty _=>subst r;rfl
variable{y:V}
def aD.inj{x:V}(r:aD x u)(q:aD y u):x=y:=dz (r.abs.symm.trans q.abs)
def aG.inj:∀{E a:LVv} {us:LVa},aG E us->aG a us->E=a
 | _,_,_,.nil,.nil=>rfl
 | _,_,_,.cons r t,.cons r' t'=>by rw[r.inj r',aG.inj t t']
variable{a:Addr}{K:aQ}
def SqL.of(h:H a=aa (.lst E)):SqL K H a E:=.inl (.inl h)
def SqT.of(h:H a=aa (.tup E)):SqT K H a E:=.inl (.inl h)
def Inv.list{s:ah}(I:Inv X U C H s)(h:SqL X.K H a E):∃L:LVa,aG E L/\PlainL s.heap a L.toArray/\Z E<=aT:=by
 rcases h with h |⟨o,L,n,hk,hc,hd,hs,hz,r⟩
 .have(z,L,n,r,e):=h.ok I.hok;show(L,r,(_,n,e,rfl,rfl,rfl),z)
 .show(L.toList,r,(o,n,I.kIn a o hk,hc,hd,by simpa using hs),?_);have e:=r.length
  grind
def Inv.tuple{s:ah}(I:Inv X U C H s)(h:SqT X.K H a E):∃L:LVa,aG E L/\IsTup s.heap a L.toArray/\Z E<=aT:=by
 rcases h with h |⟨o,L,n,hk,hc,hs,hz,r⟩
 .have(z,L,r,p):=h.ok I.hok;show(L,r,p,z)
 .show(L.toList,r,(o,I.kIn a o hk,hc,n,by simpa using hs),?_);have e:=r.length;simp only[i0]at e
  lia
variable{ys:LVv}
def Inv.list_inj{s:ah}(I:Inv X U C H s)(h:SqL X.K H a E)(h':SqL X.K H a ys):E=ys:=by
 have(L,r,(o,n,e,_,_,d),_):=I.list h;have(b,c,(o',f,e',_,_,d'),_):=I.list h';rw[e]at e';cases e';rw[d]at d'
 injection d' with d1 _
 have:L=b:=by simpa using congrArg Array.toList d1
 subst this;show r.inj c
def Inv.tuple_inj{s:ah}(I:Inv X U C H s)(h:SqT X.K H a E)(h':SqT X.K H a ys):E=ys:=by
 have(L,r,(o,e,_,n,d),_):=I.tuple h;have(b,c,(o',e',_,f,d'),_):=I.tuple h';rw[e]at e';cases e';rw[d]at d'
 injection d' with d1 _
 have:L=b:=by simpa using congrArg Array.toList d1
 subst this;show r.inj c
nonrec def Cx.wish(X:Cx)(X4:PRS):Cx:={X with xe:=X4}
nonrec def Cx.nox(X:Cx):Cx:=X.wish λ_ _=>False
def Cx.Ok.wish(ok:X.Ok)(X4:PRS):(X.wish X4).Ok:=
 (ok.mod,ok.kind,ok.glob,ok.blt,ok.above,ok.inj,ok.has,ok.cab,ok.hd,ok.frames,ok.stk,ok.exf,ok.bs,ok.bsz,ok.noex,ok.exfs,ok.funs,ok.frf)
def Cx.Ok.unwish(ok:(X.wish X4).Ok):X.Ok:=
 (ok.mod,ok.kind,ok.glob,ok.blt,ok.above,ok.inj,ok.has,ok.cab,ok.hd,ok.frames,ok.stk,ok.exf,ok.bs,ok.bsz,ok.noex,ok.exfs,ok.funs,ok.frf)
def Inv.wish{s:ah}(I:Inv X U C H s)(X4:PRS):Inv (X.wish X4) U C H s:=(I.ok.wish X4,I.os,I.bare,I.base,I.loc,I.cell,I.free,I.freeC,I.pin,I.hok,I.len)
def Inv.unwish{s:ah}(I:Inv (X.wish X4) U C H s):Inv X U C H s:=(I.ok.unwish,I.os,I.bare,I.base,I.loc,I.cell,I.free,I.freeC,I.pin,I.hok,I.len)
def SP.unwish{D:jg}{f:Flow}(h:SP (X.wish X4) U D f s'):SP X U D f s':=by
 cases f with
 |next=>have(σ',H',I,q):=h;show(σ',H',I.unwish,q)
 |brk=>have(σ',H',I,q):=h;show(σ',H',I.unwish,q)
 |cont=>have(σ',H',I,q):=h;show(σ',H',I.unwish,q)
 |ret u=>have(v,σ',H',I,r,q):=h;show(v,σ',H',I.unwish,r,q)
def PSs.nox{st:List Stmt}{t:TS}(h:PSs X.nox st t):PSs X st t:=λU s C H D I a=>
 fM (h U s C H D (I.wish _) a) (λ_ _ q=>q.unwish) λ_ _ z=>gY z
def LO:TS:=λD C H=>D.nx C H
def LP(t u:TS):TS:=λD C H=>t {D with nx:=u D} C H
def ET:PSs X [] LO:=λ_ _ C H _ I h=>tU (C,H,I,h)
variable{st:Stmt}{u:TS}
def ud{rest:List Stmt}{t:TS}(h1:PS X st t)(h2:PSs X rest u):PSs X (st::rest) (LP t u):=by
 intro U s C H D I h
 show wpAny_execs_cons (thn (h1 U s C H {D with nx:=u D} I h) λf s1 q=>?_)
 cases f with
 |next=>
  have(σ',H',a,q):=q
  show h2 U s1 σ' H' D a q
 |ret v=>show q
 |brk=>show q
 |cont=>show q
def EU{t:TS}(h1:PS X st t):PSs X [st] t:=by
 intro U s C H D I h;show wpAny_execs_cons (thn (h1 U s C H D I h) λf s1 q=>?_)
 cases f with
 |next=>show tU q
 |ret v=>show q
 |brk=>show q
 |cont=>show q
def Inv.quiet{s:ah}(I:Inv X U C H s):interactive X.env=af:=by simp[interactive,I.ok.kind]
def mS(te:TE):TS:=λD C H=>te C H λ_ H1=>D.nx C H1
variable{te:TE}
def lH(b:PE X e te)(c:autoParam (f9 e ab pos.line X.env=pure af) Zb):PS X (.Expr e pos) (mS te):=by
 intro U s C H D I h;show wpAny_Expr_any (thn (b U s C H _ I h) λv s1 (x,H1,a,f,d)=>(C,H1,a,d)) I.quiet c
def LQ(te:TE):TS:=λD C H=>te C H D.rt
def ue(b:PE X e te):PS X (.Return (aa e) pos) (LQ te):=by
 intro U s C H D I h;show wpAny_Return_some (thn (b U s C H _ I h) λv s1 (x,H1,a,d,c)=>(x,C,H1,a,d,c))
def LR(c:TT)(t u:TS):TS:=λD C H=>c C H λb H1=>if b=ac then t D C H1 else u D C H1
variable{tc:TT}
def LU{t:TS}{a b:List Stmt}(i:PT X c tc)(ha:PSs X a t)(g:PSs X b u):PS X (.If c a b pos) (LR tc t u):=by
 intro U s C H D I h;show wpAny_If (thn (i U s C H _ I h) λd s1 j=>?_);have(H1,e,f):=j
 cases d with
 |true=>show ha U s1 C H1 D e f
 |false=>show g U s1 C H1 D e f
nonrec def TG:=V->St->Hp->(St->Hp->Prop)->Prop
nonrec def TGs:=LVv->St->Hp->(St->Hp->Prop)->Prop
def PG(X:Cx)(a:Expr)(t:TG):Prop:=
 ∀(U:PNS) (s:ah) (C:St) (H:Hp) (v:V) (u:Value) (Q:St->Hp->Prop),Inv X U C H s->aD v u->t v C H Q ->
  wpAny (model X.prog X.w) X.A (assign a X.env u) (λ_ s'=>∃σ' H',Inv X U σ' H' s'/\Q σ' H') X.xe s
def PGs(X:Cx)(ts:LEx)(t:TGs):Prop:=
 ∀(U:PNS) (s:ah) (C:St) (H:Hp) (vs:LVv) (us:LVa) (Q:St->Hp->Prop),Inv X U C H s->aG vs us->t vs C H Q ->
  wpAny (model X.prog X.w) X.A (assignInOrder ((i9 ts X.env).map (·.2)) us) (λ_ s'=>∃σ' H',Inv X U σ' H' s'/\Q σ' H') X.xe s
nonrec def xL:=V->V->V->Hp->(Hp->Prop)->Prop
def EV(X:Cx)(t:xL):Prop:=
 ∀(U:PNS) (s:ah) (C:St) (H:Hp) (o i v:V) (b a u:Value) (Q:Hp->Prop),Inv X U C H s->aD o b->aD i a->aD v u->t o i v H Q ->
  wpAny (model X.prog X.w) X.A (setItem b a u) (λ_ s'=>∃H',Inv X U C H' s'/\Q H') X.xe s
nonrec def TIp:=V->V->Hp->VK->Prop
def PIp(X:Cx)(op:Operator)(t:TIp):Prop:=
 ∀(U:PNS) (s:ah) (C:St) (H:Hp) (x y:V) (v u:Value) (Q:VK),Inv X U C H s->aD x v->aD y u->t x y H Q ->
  wpAny (model X.prog X.w) X.A (inplaceOp op v u) (EP X U C Q) X.xe s
def ib(i:Nat):TG:=λv C H Q=>Q (C.set i (aa v)) H
def xM(b:X.N.Nodup)(hi:X.N[i]?=aa x)(d:Loc X.env.scope x)(c:autoParam (LcF X x) Zh):PG X (.Name x pos) (ib i):=by
 intro U s C H v u Q I r h;show wpAny_assign_Name (xJ I b hi d r (λs' a=>(_,H,a,h)) c)
def LV:TGs:=λvs C H Q=>vs=[]/\Q C H
def LW(t:TG)(u:TGs):TGs:=λvs C H Q=>∃v r,vs=v::r/\t v C H λσ' H'=>u r σ' H' Q
def LX:PGs X [] LV:=by
 intro U s C H vs us Q I r h;have(e,h):=h;show assignInOrder_nil (C,H,I,h)
variable{es:LEx}
def LY{t:TG}{u:TGs}(h1:PG X e t)(h2:PGs X es u)
 (d:autoParam ((i9 (e::es) X.env).map (·.2)=assign e X.env::(i9 es X.env).map (·.2)) Zb):PGs X (e::es) (LW t u):=by
 intro U s C H vs us Q I r h;have(v,i,c,h):=h;subst c
 cases r with
 |cons r g=>
  rw[d];show assignInOrder_cons (thn (h1 U s C H _ _ _ I r h) λ_ s1 (a,H1,b,f)=>(h2 U s1 a H1 _ _ Q b g f))
def LZ(K:aQ)(n:Nat)(t:TGs):TG:=λv C H Q=>∃a E,v=.ref a/\SqT K H a E/\Z E=n/\t E C H Q
def L4{k:Nat}{t:TGs}{n:Nat}(i:X.calm=ac)(h:PGs X es t)
 (hn:autoParam (Z (i9 es X.env)=n) Zb)(c:autoParam ((i9 es X.env).findIdx? (·.1)=ab) Zb):PG X (.Tuple es k pos) (LZ X.K n t):=by
 intro U s C H v u Q I r d;have(a,E,g,l,j,d):=d;subst g;subst r;have(L,f,m,hz):=I.tuple l;show assign_Tuple_tuple (I.ok.hd i) m (by simp[hn,<- j,f.length]) c λh' p=>?_;show h U _ C H E _ Q (I.kept λb o e=>p b o (bW (bC e)) e) (by simpa using f) d
def xN(to b:TE)(t:xL):TG:=λv C H Q=>to C H λo H1=>b C H1 λi H2=>t o i v H2 λa=>Q C a
def xO{o i:Expr}{to d:TE}{t:xL}(l:PE X o to)(hi:PE X i d)(m:EV X t)
 (ha:autoParam (∀ v,assign (.Subscript o i pos) X.env v=(do
   let a <- eS [v] (eval o X.env)
   let b <- eS [v,a] (eval i X.env)
   gC pos
   eS [v,a,b] (setItem a b v)
   release [v,a,b] [])) Zd):PG X (.Subscript o i pos) (xN to d t):=by
 intro U s C H v u Q I r h;show ak (jL (thn (l U s C H _ I h) λa s1 c=>?_));have(x,H1,f,w,n):=c;show ak (jL (thn (hi U s1 C H1 _ f n) λb s2 c=>?_));have(y,H2,g,z,p):=c;show ak (wpAny_standAt (ak (jL (thn (m U s2 C H2 x y v a b u _ g w z r p) λ_ A (e,j,q)=>(wpAny_release (C,e,j,q))))))
def jh(te:TE)(g:TG):TS:=λD C H=>te C H λx H1=>g x C H1 D.nx
variable{tg:Expr}{g:TG}
def xP(b:PE X e te)(c:PG X tg g)(d:autoParam (swapsWithSole [tg] e pos.line X.env=pure af) Zb)(f:autoParam (swappedStores [tg] e X.env=pure ab) Zb)
 (h1:autoParam ((i9 [tg] X.env).map (·.2)=[assign tg X.env]) Zb):PS X (.Assign [tg] e pos) (jh te g):=by
 intro U s C H D I h;show wpAny_Assign_stores (thn (b U s C H _ I h) λv s1 j=>?_) d f;have(x,H1,a,l,i):=j;rw[h1];show thn (c U s1 C H1 x v _ a l i) λ_ s2 q=>q
variable{b4:Pos}
def oS(c:X.N.Nodup)(hi:X.N[i]?=aa x)(j:Loc X.env.scope x)(d:PE X e te)(g:autoParam (f9 e (aa (.Name x b4)) pos.line X.env=pure af) Zb)(f:autoParam (LcF X x) Zh):
  PS X (.Assign [.Name x b4] e pos) (jh te (ib i)):=by
 intro U s C H D I h;show wpAny_Assign_Name (thn (d U s C H _ I h) λv s1 (y,H1,a,m,l)=>(xJ a c hi j m (λs2 b=>(_,H1,b,l)) f)) g
def L5(i:Nat)(te:TE)(a:TIp):TS:=λD C H=>∃x,C[i]?=aa (aa x)/\te C H λy H1=>a x y H1 λz H2=>D.nx (C.set i (aa z)) H2
def EW{op:Operator}{n:TIp}(G:X.N.Nodup)(hi:X.N[i]?=aa x)(g:Loc X.env.scope x)(L:PE X e te)(T:PIp X op n)(M:autoParam (LcF X x) Zh):
  PS X (.AugAssign (.Name x b4) op e pos) (L5 i te n):=by
 intro U s C H D I h;have(v,E,h):=h;have(m,hn,Q):=I.loc
 have j:Vis X.env.scope x:=by rcases g with k |k;show .inl k;show .inr (.inl k)
 have(u,r,l):=Q i x v hi E j;show wpAny_AugAssign_Name ?_
 have go:wpAny (model X.prog X.w) X.A (eval e X.env) (λw d=>wpAny (model X.prog X.w) X.A (inplaceOp op u w) (λr f=>wpAny (model X.prog X.w) X.A (storeName X.env x r) (λ_=>SP X U D .next) X.xe f) X.xe d) X.xe s:=by
  show thn (L U s C H _ I h) λw s1 q_=>?_;have(y,H1,p,r1,Y):=q_;show thn (T U s1 C H1 v y u w _ p r r1 Y) λz s2 (zv,H2,q,r2,q2)=>(xJ q G hi g r2 (λs3 B=>(_,H2,B,q2)) M)
 rcases l with⟨a,hm⟩ |⟨a,c,J,b⟩
 .show wpAny_loadName_local I.ok.kind a hn hm go
 .rcases a with a |a
  .show wpAny_loadName_cell I.ok.kind a J b go
  .rcases g with k |k
   .have:X.env.scope.names.lookup x=aa .free:=a;rw[k]at this;nomatch this
   .have:X.env.scope.names.lookup x=aa .free:=a;rw[k]at this;nomatch this
def ipI(f:Int->Int->Int):TIp:=λx y H Q=>∃i j,x=.int i/\y=.int j/\Q (.int (f i j)) H
def L6:PIp X .Add (ipI λi j=>i+j):=by
 intro U s C H x y v u Q I c d h;have(i,j,a,b,q):=h;subst a;subst b;have(t,rfl):=c;have(t',rfl):=d;show iadd_int (.int _,H,I.tok _,(_,rfl),q)
def L7:PIp X .Sub (ipI λi j=>i-j):=by
 intro U s C H x y v u Q I c d h;have(i,j,a,b,q):=h;subst a;subst b;have(t,rfl):=c;have(t',rfl):=d;show isub_int (.int _,H,I.tok _,(_,rfl),q)
def L8(c:TT)(tb:TS):TS:=λD C H=>∃W:Nat->St->Hp->Prop,(∃m,W m C H)/\∀m C H,W m C H ->
 c C H λb H1=>if b=ac then ∃N:St->Hp->Prop,(∀σ' H',N σ' H'->∃a,a<m/\W a σ' H')/\tb {D with nx:=N,ct:=N,bk:=D.nx} C H1 else D.nx C H1
variable{body:List Stmt}
def L9{tb:TS}(x:PassesOwn (model X.prog X.w) X.A X.env X.xe)(B:PT X c tc)(z:PSs X body tb):PS X (.While c body [] pos) (L8 tc tb):=by
 intro U s C H D I h;have(W,(E,J),g):=h;show wpAny_While (codeAny_whileLoop (λn s'=>∃σ' H',Inv X U σ' H' s'/\W n σ' H') ?_ E (C,H,I,J));rintro n s1 ⟨d,H1,y,L⟩;show mD x (thn (B U s1 d H1 _ y (g n d H1 L)) λb s2 G=>?_);have(H2,r,i):=G
 cases b with
 |true=>
  have(N,u,i):=i;show mD x (thn (z U s2 d H2 _ r i) λf M j=>?_)
  cases f with
  |next=>
   have(a,e,l,p):=j;have(m,hm,q):=u a e p
   show(m,hm,a,e,l,q)
  |cont=>
   have(a,e,l,p):=j;have(m,hm,q):=u a e p
   show(m,hm,a,e,l,q)
  |brk=>show j
  |ret v=>show j
 |false=>
  show tU (d,H2,r,i)
structure It where
 go:Nat->Hp->Prop
 yld:Nat->Hp->V->Hp->Prop
 stop:Nat->Hp->Prop
def ic(X:Cx)(U:PNS)(H:Hp)(b:Addr):Prop:=
 H b=ab/\b≠X.env.locals/\b∉X.fs/\(b∈X.ex\/X.s₀.heap.objs.size<=b)/\(∀x c,X.env.cells.lookup x=aa c->c≠b)/\∀p∈X.pn++U,p.1≠b
def Inv.fpOk{s:ah}{b:Addr}(I:Inv X U C H s)(a:s.heap.objs.size<=b)(hn:H' b=ab):ic X U H' b:=by
 show(hn,ls (fB I.lt a),I.nofs a,.inr (cV I.sz a),λx c e z=>?_,λp d z=>(absurd (fB (bC (I.pin p d).1) (by rw[z];show a)) (gB _)));have(v,q):=I.cell x c e;show absurd (fB q.lt (by rw[z];show a)) (gB _)
structure ko(P:ce)(w:World)(K:aQ)(tg:Expr)(J:It)(fp:LAd)(it:Addr)(tn:Nat->Heap->Prop):Prop where
 mem:it∈fp
 obj:∀i h,tn i h->∀b∈fp,∃o,h.get? b=aa o/\∀v,o.data≠.cell v
 keep:∀i h h',tn i h->(∀b∈fp,∀o,h.get? b=aa o->h'.get? b=aa o)->tn i h'
 item:∀(X:Cx),X.prog=P->X.w=w->X.K=K->X.calm=ac->∀(i:Nat) (U:PNS) (s:ah) (C:St) (H:Hp) (X4:PRS),Inv X U C H s->(∀b∈fp,ic X U H b)->tn i s.heap->J.go i H ->
  wpAny (model P w) X.A (hU (.ref it)) (λr s1=>∃ u,r=aa u /\
   wpAny (model P w) X.A (letOwnedTupleGo tg (.ref it) u) (λ_ s2=>∃x H',Inv X U C H' s2/\aD x u/\J.yld i H x H'/\tn (i+1) s2.heap/\∀b∈fp,H' b=ab) X4 s1) X4 s
 done:∀(X:Cx),X.prog=P->X.w=w->X.K=K->X.calm=ac->∀(i:Nat) (U:PNS) (s:ah) (C:St) (H:Hp) (X4:PRS),Inv X U C H s->(∀b∈fp,ic X U H b)->tn i s.heap->J.stop i H ->
  wpAny (model P w) X.A (hU (.ref it)) (λr s1=>r=ab/\Inv X U C H s1) X4 s
 self:∀(A:ca) (i:Nat) (s:ah) (Q:PRS) (X4:PRS),tn i s.heap->Q (.ref it) s->wpAny (model P w) A (pyIter (.ref it)) Q X4 s
nonrec def TI:=St->Hp->(It->Hp->Prop)->Prop
def PIE(X:Cx)(U:PNS)(C:St)(tg:Expr)(R:It->Hp->Prop)(a:Value)(s2:ah):Prop:=
 ∃(it:Addr) (fp:LAd) (tn:Nat->Heap->Prop) (J:It) (H':Hp),a=.ref it/\Inv X U C H' s2/\ko X.prog X.w X.K tg J fp it tn/\tn 0 s2.heap/\(∀b∈fp,ic X U H' b)/\R J H'
def PI(X:Cx)(tg iter:Expr)(a:TI):Prop:=
 ∀(U:PNS) (s:ah) (C:St) (H:Hp) (R:It->Hp->Prop),Inv X U C H s->a C H R ->
  wpAny (model X.prog X.w) X.A (eval iter X.env) (λv s1=>wpAny (model X.prog X.w) X.A (pyIter v) (PIE X U C tg R) X.xe s1) X.xe s
variable{u:Value}
def uf{s:ah}{o:Obj}{n:String}{vs:Array Value}(c:s.heap.get? it = aa o)(b:o.cls = .type n)(hd:o.data = .fields vs)
   (hn:["enumerate", "zip", "dict_itemiterator", "dict_reverseitemiterator", "odict_iterator", "itertools.zip_longest", "itertools.pairwise"].contains n = af)(a:Q () s):wpAny X1 A (letOwnedTupleGo tg (.ref it) u) Q X4 s:= by
  cases tg <;> first
    |show aE a
    | (cases u <;> first
        |show aE a
        | (show ak (wpAny_load c ?_)
           rw[b, hd];change wpAny X1 A (if _ = ac then _ else _) Q X4 s;rw[if_neg (by intro h;rw[hn, Bool.false_and]at h;nomatch h)];show aE a))
def Itl(K:aQ)(a:Addr):It:=
 (λi H=>∃E x,SqL K H a E/\E[i]?=aa x,λi H x H'=>H'=H/\∀E,SqL K H a E->E[i]?=aa x,λi H=>∃E,SqL K H a E/\Z E<=i)
def Itt(K:aQ)(a:Addr):It:=
 (λi H=>∃E x,SqT K H a E/\E[i]?=aa x,λi H x H'=>H'=H/\∀E,SqT K H a E->E[i]?=aa x,λi H=>∃E,SqT K H a E/\Z E<=i)
def Itr(lo:Int)(n:Nat):It:=(λi _=>i<n,λi H x H'=>H'=H/\x=.int (lo+i),λi _=>n<=i)
def Ma(a it:Addr):ko P w K tg (Itl K a) [it] it (λi h=>h.IsListIter it a i) where
 mem:=by simp
 obj:=λi h st b hb=>by
  have e:b=it:=by simpa using hb
  subst e;have(o,e,c,d):=st;show⟨o,e,λv z=>by rw[d]at z;nomatch z⟩
 keep:=λi h h' st k=>st.at λo e=>k it (by simp) o e
 item:=by
  intro X hP hw hK hc i U s C H X4 I hf st hg;subst hP hw hK;have(E,x,hq,hx):=hg;have(L,rv,p,hz):=I.list hq;have(u,hu,ru):=rv.get hx;have(f0,f1,f2,f3,f4,f5):=hf it (by simp);show wpAny_pyNext_list_item st p.isList (by simpa using hu) λh' eh sb=>?_;have(o,e,c,d):=id eh;show(u,rfl,uf e c d (rfl) (x,H,(I.turned (λb o hb e=>(sb.2 b hb).trans e) f0 f1 f3 f4 f5),ru,(rfl,λys hy=>by rw[I.list_inj hy hq];show hx),eh,λb hb=>(hf b hb).1))
 done:=by
  intro X hP hw hK hc i U s C H X4 I hf st hg;subst hP hw hK;have(E,hq,hx):=hg;have(L,rv,p,hz):=I.list hq;have(f0,f1,f2,f3,f4,f5):=hf it (by simp);have hl:=rv.length;show wpAny_pyNext_list_end (I.ok.hd hc) st p.isList (by simp;lia) λh' eb=>(rfl,I.turned (λb o hb e=>eb b o hb e) f0 f1 f3 f4 f5)
 self:=λ_ _ _ _ _ st h=>wpAny_pyIter_listiter st h
def Mb(a it:Addr):ko P w K tg (Itt K a) [it] it (λi h=>h.IsTupleIter it a i) where
 mem:=by simp
 obj:=λi h st b hb=>by
  have e:b=it:=by simpa using hb
  subst e;have(o,e,c,d):=st;show⟨o,e,λv z=>by rw[d]at z;nomatch z⟩
 keep:=λi h h' st k=>st.at λo e=>k it (by simp) o e
 item:=by
  intro X hP hw hK hc i U s C H X4 I hf st hg;subst hP hw hK;have(E,x,hq,hx):=hg;have(L,rv,p,hz):=I.tuple hq;have(u,hu,ru):=rv.get hx;have(f0,f1,f2,f3,f4,f5):=hf it (by simp);show wpAny_pyNext_tuple_item st (p) (by simpa using hu) λh' eh sb=>?_;have(o,e,c,d):=id eh;show(u,rfl,uf e c d (rfl) (x,H,(I.turned (λb o hb e=>(sb.2 b hb).trans e) f0 f1 f3 f4 f5),ru,(rfl,λys hy=>by rw[I.tuple_inj hy hq];show hx),eh,λb hb=>(hf b hb).1))
 done:=by
  intro X hP hw hK hc i U s C H X4 I hf st hg;subst hP hw hK;have(E,hq,hx):=hg;have(L,rv,p,hz):=I.tuple hq;have(f0,f1,f2,f3,f4,f5):=hf it (by simp);have hl:=rv.length;show wpAny_pyNext_tuple_end (I.ok.hd hc) st (p) (by simp;lia) λh' eb=>(rfl,I.turned (λb o hb e=>eb b o hb e) f0 f1 f3 f4 f5)
 self:=λ_ _ _ _ _ st h=>wpAny_pyIter_tupleiter st h
def Mc(it:Addr)(lo:Int)(n:Nat):ko P w K tg (Itr lo n) [it] it (λi h=>IsRangeIter h it (lo+(i:Nat)*1) ((n:Int)-(i:Nat)) 1) where
 mem:=by simp
 obj:=λi h st b hb=>by
  have e:b=it:=by simpa using hb
  subst e
  show⟨_,st,λv z=>by
   nomatch z⟩
 keep:=λi h h' st k=>k it (by simp) _ st
 item:=by
  intro X hP hw hK hc i U s C H X4 I hf st hg;have(f0,f1,f2,f3,f4,f5):=hf it (by simp);show(Walks.range (I.ok.hd hc) it lo 1 n).item i s _ _ hg st λv h' tk hv eh kk=>?_;have(t,rfl):=hv
  have I1:Inv X U C H {s with heap:=h',toks:=tk}:=I.turned (λb o hb e=>kk b o (by simpa using hb) e) f0 f1 f3 f4 f5
  show(_,rfl,uf eh rfl rfl (rfl) (.int _,H,I1,(t,?_),(rfl,rfl),eh,λb hb=>(hf b hb).1));rw[Int.mul_one]
 done:=by
  intro X hP hw hK hc i U s C H X4 I hf st hg;have(f0,f1,f2,f3,f4,f5):=hf it (by simp);show wpAny_pyNext_range_end (I.ok.hd hc) st (by have:n<=i:=hg;lia) λh' eb=>(rfl,I.turned (λb o hb e=>eb b o hb e) f0 f1 f3 f4 f5)
 self:=λ_ _ _ _ _ st h=>wpAny_pyIter_rangeiter st h
def xQ(K:aQ)(tl:TE):TI:=λC H R=>tl C H λx H1=>∃a,x=.ref a/\(∃E,SqL K H1 a E)/\R (Itl K a) H1
def Md(K:aQ)(tl:TE):TI:=λC H R=>tl C H λx H1=>∃a,x=.ref a/\(∃E,SqT K H1 a E)/\R (Itt K a) H1
variable{l:Expr}{tl:TE}
def xR(f:PE X l tl):PI X tg l (xQ X.K tl):=by
 intro U s C H R I h;show thn (f U s C H _ I h) λv s1 j=>?_;have(x,H1,c,m,i):=j;have(a,e,(E,g),q):=i;subst e;subst m;have(L,n,p,hz):=c.list g;show tT p.isList ?_;show(s1.heap.objs.size,_,_,_,H1,rfl,c.kept λb o e=>bF _ e,Ma a _,(_,cM _ rfl,rfl,rfl),λb d=>?_,q);have e:b=s1.heap.objs.size:=by simpa using d
 subst e;show c.fpOk (aM _) (c.hok.fresh (aM _))
def Mf(f:PE X l tl):PI X tg l (Md X.K tl):=by
 intro U s C H R I h;show thn (f U s C H _ I h) λv s1 j=>?_;have(x,H1,c,m,i):=j;have(a,e,(E,g),q):=i;subst e;subst m;have(L,n,p,hz):=c.tuple g;show wpAny_pyIter_tuple (p) ?_;show(s1.heap.objs.size,_,_,_,H1,rfl,c.kept λb o e=>bF _ e,Mb a _,(_,cM _ rfl,rfl,rfl),λb d=>?_,q);have e:b=s1.heap.objs.size:=by simpa using d
 subst e;show c.fpOk (aM _) (c.hok.fresh (aM _))
def Mg{s:ah}{R:It->Hp->Prop}{lo hi:Int}{t u v:Tok}{c:Nat}(I:Inv X U C H s)(h1:-(2 ^ 62)<=lo)(h2:lo<2 ^ 62)(g:-(2 ^ 62)<=hi)(h:hi<2 ^ 62)
 (q:R (Itr lo (S (hi-lo))) H):wpAny (model X.prog X.w) X.A (pyIter (.ref s.heap.objs.size)) (PIE X U C tg R) X4 {s with heap:=s.heap.push {cls:=.type "range",data:=.fields #[.int lo t,.int hi u,.int 1 v]},toks:=c}:=by
 show wpAny_pyIter_range (IsRange.new ..) (small_one h1 h2 g h) ?_
 have a:Inv X U C H {s with heap:=s.heap.push {cls:=.type "range",data:=.fields #[.int lo t,.int hi u,.int 1 v]},toks:=c}:=I.kept λb o e=>bF _ e
 show((s.heap.push {cls:=.type "range",data:=.fields #[.int lo t,.int hi u,.int 1 v]}).objs.size,_,_,_,H,rfl,
  a.kept λb o e=>bF _ e,Mc _ lo (S (hi-lo)),?_,λb i=>?_,q)
 .have d:lo+((0:Nat):Int)*1=lo:=by simp
  have f:((S (hi-lo):Nat):Int)-((0:Nat):Int)=eT.Range.rangeSize lo hi 1:=by rw[rangeSize_one];split <;> lia
  rw[d,f];show cM _ rfl
 .have e:b=(s.heap.push {cls:=.type "range",data:=.fields #[.int lo t,.int hi u,.int 1 v]}).objs.size:=by simpa using i
  subst e;show a.fpOk (aM _) (a.hok.fresh (aM _))
def Mh(ta:TA):TI:=λC H R=>ta C H λvs H1=>∃j:Int,vs=[.int j]/\-(2 ^ 62)<=j/\j<2 ^ 62/\R (Itr 0 (S j)) H1
variable{a:Expr}
def Mi{ta:TA}{p:Pos}(d:Gl X "range")(hm:X.mg "range"=ab)(ha:PA X [a] ta)(f:autoParam (aO [a] X.env=[(af,eval a X.env,)]) Zb):PI X tg (.Call (.Name "range" p) [a] [] pos) (Mh ta):=by
 intro U s C H R I h;show Call_ (hZ I d hm boot_range (kc (thn (ha pos U s C H _ I h) λus s1 (vs,H1,c,i,b)=>?_) f rfl));have(j,e,b,g,q):=b;subst e
 cases i with
 |cons r l=>
  cases l;have(t,rfl):=r;show call_range_1 (Mg c (by lia) (by lia) b g (by simpa using q))
def xS(c:TI)(g:TG)(tb:TS):TS:=λD C H=>c C H λJ H1=>∃W:Nat->Nat->St->Hp->Prop,(∃m,W 0 m C H1)/\∀i m C H,W i m C H ->
 (J.stop i H/\D.nx C H)\/(J.go i H/\∃N:St->Hp->Prop,(∀σ' H',N σ' H'->∃b,b<m/\W (i+1) b σ' H')/\∀x H',J.yld i H x H'->g x C H' λa H2=>tb {D with nx:=N,ct:=N,bk:=D.nx} a H2)
def ug(fp:LAd)(h:Heap):PNS:=fp.filterMap λb=>(h.get? b).map λo=>(b,o,)
variable{fp:LAd}
def uh{b:Addr}{o:Obj}(a:b∈fp)(e:h.get? b=aa o):(b,o,)∈ug fp h:=mem_filterMap.mpr (b,a,by rw[e];rfl)
def Mj{p:Addr×Obj}(a:p∈ug fp h):p.1∈fp/\h.get? p.1=aa p.2:=by
 have(b,c,e):=mem_filterMap.mp a
 cases q:h.get? b with
 |none=>rw[q]at e;nomatch e
 |some o=>
  grind
def Inv.pinned{s:ah}(I:Inv X U C H s)(c:∀b∈fp,ic X U H b)(g:∀b∈fp,∃o,s.heap.get? b=aa o/\∀v,o.data≠.cell v):Inv X (U++ug fp s.heap) C H s:=
 I.pins_of λp d=>(bz.mp d).elim (λz=>I.pin p (ci _ z)) λz=>by
  have(a,e):=Mj z;have(f,f1,f2,_):=c p.1 a
  grind
def Inv.unpinned{b:PNS}{s:ah}(I:Inv X (U++b) C H s):Inv X U C H s:=I.pins_of λp a=>I.pin p (ci _ (bV _ a))
variable{iter:Expr}{wi:TI}
def EX{tb:TS}(E:PassesOwn (model X.prog X.w) X.A X.env X.xe)(hc:X.calm=ac)(hi:PI X tg iter wi)(hg:PG X tg g)(l:PSs X body tb)
 (hs:autoParam (∀x,lx iter X.env x=pure x) Zd):PS X (.For tg iter body [] pos) (xS wi g tb):=by
 intro U s C H D I h;show wpAny_For (thn (hi U s C H _ I h) λv s1 h1=>thn h1 λitv s2 h2=>?_) hs;have(it,fp,tn,J,H2,e,I2,T,st2,f2,W,(m0,w0),Q):=h2;subst e;have p:∀{H':Hp},(∀b∈fp,H' b=ab)->∀b∈fp,ic X U H' b:=λhn b l=>(hn b l,(f2 b l).2);show codeAny_forLoop_any (λn s'=>∃i σ' H',Inv X U σ' H' s'/\tn i s'.heap/\(∀b∈fp,H' b=ab)/\W i n σ' H') ?_ m0 (0,C,H2,I2,st2,λb l=>(f2 b l).1,w0);rintro n s3 ⟨i,q,Y,I3,M,B,w3⟩
 rcases Q i n q Y w3 with⟨stop,qn⟩ |⟨go,N,hN,step⟩
 .show mD E (thn (T.done X rfl rfl rfl hc i U s3 q Y X.xe I3 (p B) M stop) λr s4 (hr,I4)=>?_);subst hr;show tU (q,Y,I4,qn)
 .show mD E (thn (T.item X rfl rfl rfl hc i U s3 q Y X.xe I3 (p B) M go) λr s4 L=>?_);have(u,hr,h4):=L;subst hr;show mD E (thn h4 λ_ s5 L=>?_);have(x,H5,I5,r5,y5,z,fr5):=L;show mD E (thn (hg _ s5 q H5 x u _ (I5.pinned (p fr5) (T.obj _ _ z)) r5 (step x H5 y5)) λ_ s6 L=>?_);have(σ6,H6,I6,q6):=L;show mD E (thn (l _ s6 σ6 H6 _ I6 q6) λf s7 y=>?_)
  have again:∀{a:St} {c:Hp},Inv X _ a c s7->N a c->∃m,m<n/\∃i σ' H',Inv X U σ' H' s7/\tn i s7.heap/\(∀b∈fp,H' b=ab)/\W i m σ' H':=λ{a c} j G=>by
   have(m',hm,w7):=hN a c G;show(m',hm,i+1,a,c,j.unpinned,T.keep _ _ _ z λb l o e=>(j.pin _ (ci _ (ci _ (uh l e)))).1,λb l=>?_,w7);have(o,e,d):=T.obj _ _ z b l;show(j.pin _ (ci _ (ci _ (uh l e)))).2.1
  cases f with
  |next=>have(a,c,j,G):=y;show again j G
  |cont=>have(a,c,j,G):=y;show again j G
  |brk=>have(a,c,j,y):=y;show(a,c,j.unpinned,y)
  |ret v=>have(x7,a,c,j,r7,y):=y;show(x7,a,c,j.unpinned,r7,y)
nonrec def R2:=V->V->Hp->VK->Prop
def OpR(X:Cx)(f:Value->Value->Sem Value)(r:R2):Prop:=
 ∀(U:PNS) (s:ah) (C:St) (H:Hp) (x y:V) (v u:Value) (Q:VK),Inv X U C H s->aD x v->aD y u->r x y H Q ->
  wpAny (model X.prog X.w) X.A (f v u) (EP X U C Q) X.xe s
def UnR(X:Cx)(f:Value->Sem Value)(r:V->Hp->VK->Prop):Prop:=
 ∀(U:PNS) (s:ah) (C:St) (H:Hp) (x:V) (v:Value) (Q:VK),Inv X U C H s->aD x v->r x H Q ->
  wpAny (model X.prog X.w) X.A (f v) (EP X U C Q) X.xe s
def ie(X:Cx)(f:Value)(r:LVv->Hp->VK->Prop):Prop:=
 ∀(U:PNS) (s:ah) (C:St) (H:Hp) (E:LVv) (us:LVa) (Q:VK),Inv X U C H s->aG E us->r E H Q ->
  wpAny (model X.prog X.w) X.A (call f us) (EP X U C Q) X.xe s
def Ml(X:Cx)(r:V->Hp->(Bool->Hp->Prop)->Prop):Prop:=
 ∀(U:PNS) (s:ah) (C:St) (H:Hp) (x:V) (v:Value) (Q:Bool->Hp->Prop),Inv X U C H s->aD x v->r x H Q ->
  wpAny (model X.prog X.w) X.A (truthy v) (TP X U C Q) X.xe s
def tOp(r:R2)(ta tb:TE):TE:=λC H Q=>ta C H λx H1=>tb C H1 λy H2=>r x y H2 Q
def tUn(r:V->Hp->VK->Prop)(ta:TE):TE:=λC H Q=>ta C H λx H1=>r x H1 Q
def rI(X5:Int->Int->Prop)(g:Int->Int->V):R2:=λx y H Q=>∃i j,x=.int i/\y=.int j/\X5 i j/\Q (g i j) H
def rI0(g:Int->Int->V):R2:=λx y H Q=>∃i j,x=.int i/\y=.int j/\Q (g i j) H
abbrev rU(g:Int->V):V->Hp->VK->Prop:=λx H Q=>∃i,x=.int i/\Q (g i) H
variable{f:Value->Value->Sem Value}
def xT(ha:PE X a ta)(i:PE X b tb){s:ah}{R:V->V->Hp->Prop}(I:Inv X U C H s)
 (h:ta C H λx H1=>tb C H1 λy H2=>R x y H2){Q:PRS}
 (j:∀v u s2 x y H2,Inv X U C H2 s2->aD x v->aD y u->R x y H2->wpAny (model X.prog X.w) X.A (f v u) Q X.xe s2):
  wpAny (model X.prog X.w) X.A (eval a X.env) (λv c=>wpAny (model X.prog X.w) X.A (eval b X.env) (λu d=>wpAny (model X.prog X.w) X.A (f v u) Q X.xe d) X.xe c) X.xe s:=by
 show thn (ha U s C H _ I h) λv s1 n=>?_;have(x,H1,e,p,l):=n;show thn (i U s1 C H1 _ e l) λu s2 (y,H2,g,q,m)=>(j v u s2 x y H2 g p q m)
def EY{op:Operator}{r:R2}(e:OpR X (dO op) r)(ha:PE X a ta)(d:PE X b tb):PE X (.BinOp a op b pos) (tOp r ta tb):=by
 intro U s C H Q I h;show wpAny_BinOp (xT ha d I h λv u s2 x y H2 c f g q=>e U s2 C H2 x y v u Q c f g q)
def Mm{op:UnaryOp}{r:V->Hp->VK->Prop}(c:UnR X (unaryOp op) r)(ha:PE X a ta):PE X (.UnaryOp op a pos) (tUn r ta):=by
 intro U s C H Q I h;show UnaryOp_ (thn (ha U s C H _ I h) λv s1 (x,H1,b,e,d)=>c U s1 C H1 x v Q b e d)
def opI{X5:Int->Int->Prop}{g:Int->Int->Int}
 (rule:∀(i j:Int) (t u:Tok) (s:ah) (Q:PRS) (X4:PRS),X5 i j->Q (.int (g i j) s.toks) {s with toks:=s.toks+1}->wpAny (model X.prog X.w) X.A (f (.int i t) (.int j u)) Q X4 s):
  OpR X f (rI X5 λi j=>.int (g i j)):=by
 intro U s C H x y v u Q I b c h;have(i,j,rfl,rfl,a,q):=h;have(t,rfl):=b;have(t',rfl):=c;show rule i j t t' s _ _ a (.int _,H,I.tok _,(_,rfl),q)
def xU{g:Int->Int->Int}
 (rule:∀(i j:Int) (t u:Tok) (s:ah) (Q:PRS) (X4:PRS),Q (.int (g i j) s.toks) {s with toks:=s.toks+1}->wpAny (model X.prog X.w) X.A (f (.int i t) (.int j u)) Q X4 s):
  OpR X f (rI0 λi j=>.int (g i j)):=by
 intro U s C H x y v u Q I a b h;have(i,j,rfl,rfl,q):=h;have(t,rfl):=a;have(t',rfl):=b;show rule i j t t' s _ _ (.int _,H,I.tok _,(_,rfl),q)
def ui{g:Int->Int->Bool}
 (rule:∀(i j:Int) (t u:Tok) (s:ah) (Q:PRS) (X4:PRS),Q (.bool (g i j)) s->wpAny (model X.prog X.w) X.A (f (.int i t) (.int j u)) Q X4 s):
  OpR X f (rI0 λi j=>.bl (g i j)):=by
 intro U s C H x y v u Q I a b h;have(i,j,rfl,rfl,q):=h;have(t,rfl):=a;have(t',rfl):=b;show rule i j t t' s _ _ (.bl _,H,I,rfl,q)
def qT(i j:Int):Prop:=0<j/\j<1073741824
def ku(i j:Int):Prop:=0<=j/\j<=1000000/\i.natAbs<2 ^ 64
def mT(i j:Int):Prop:=(-(2 ^ 64)<i/\i<2 ^ 64)\/(-(2 ^ 64)<j/\j<2 ^ 64)
variable{j:Int}
def mT.ok{i:Int}(h:mT i j):IntMulOk i j:=by
 rcases h with⟨h1,h2⟩ |⟨h1,h2⟩
 .show .of_left (intBits_le_64 h1 h2)
 .show .of_right (intBits_le_64 h1 h2)
def Mn(k:Nat):(0:Int)<=2 ^ k:=by
 show Int.natCast_nonneg _
def Mo:OpR X (dO .Add) (rI0 λi j=>.int (i+j)):=xU λ_ _ _ _ _ _ _ q=>add_int q
def Mp:OpR X (dO .Sub) (rI0 λi j=>.int (i-j)):=xU λ_ _ _ _ _ _ _ q=>sub_int q
def Mq:OpR X (dO .FloorDiv) (rI qT λi j=>.int (i / j)):=opI λi j _ _ _ _ _ a q=>by
 have h1:=a.1;have h2:=a.2;show floordiv_int (by lia) (by rw[Int.fdiv_eq_ediv_of_nonneg i (by lia)];show q) (.inl (PyProof.noPylong_small (by lia)))
def Mr:OpR X (dO .Mod) (rI (λ_ j=>0<j) λi j=>.int (i % j)):=opI λi j _ _ _ _ _ a q=>by
 show mod_int' (by lia) (by rw[Int.fmod_eq_emod_of_nonneg i (by lia)];show q)
def Ms:OpR X (dO .Pow) (rI ku λi j=>.int (i ^ S j)):=opI λ_ _ _ _ _ _ _ a q=>pow_int_small a.1 a.2.1 a.2.2 q
def Mt:OpR X (dO .LShift) (rI ku λi j=>.int (i*2 ^ S j)):=opI λ_ _ _ _ _ _ _ a q=>lshift_int_small a.1 a.2.1 a.2.2 q
def Mu:OpR X (dO .RShift) (rI (λ_ j=>0<=j) λi j=>.int (i / 2 ^ S j)):=opI λi j _ _ _ _ _ a q=>
 rshift_int a (by rw[Int.fdiv_eq_ediv_of_nonneg i (Mn _)];show q)
def Mv:OpR X (dO .BitAnd) (rI0 λi j=>.int (tZ i j)):=xU λ_ _ _ _ _ _ _ q=>and_int q
def unI{f:Value->Sem Value}{g:Int->Int}
 (rule:∀(i:Int) (t:Tok) (s:ah) (Q:PRS) (X4:PRS),Q (.int (g i) s.toks) {s with toks:=s.toks+1}->wpAny (model X.prog X.w) X.A (f (.int i t)) Q X4 s):
  UnR X f (rU λi=>.int (g i)):=by
 intro U s C H x v Q I a h;have(i,rfl,q):=h;have(t,rfl):=a;show rule i t s _ _ (.int _,H,I.tok _,(_,rfl),q)
def Mw:UnR X (unaryOp .USub) (rU λi=>.int (-i)):=unI λ_ _ _ _ _ q=>neg_int q
abbrev xV:V->V->Bool
 |.non,.non=>ac |.non,.int _=>ac |.int _,.non=>ac |.non,.bl _=>ac |.bl _,.non=>ac |.non,.str _=>ac |.str _,.non=>ac
 |.int _,.int _=>ac |.bl _,.bl _=>ac |.str _,.str _=>ac |.byt _,.byt _=>ac
 |.int _,.str _=>ac |.str _,.int _=>ac |.bl _,.str _=>ac |.str _,.bl _=>ac
 | _,_=>af
def rEq:R2:=λx y H Q=>xV x y=ac/\Q (.bl (decide (x=y))) H
def rNe:R2:=λx y H Q=>xV x y=ac/\Q (.bl (!decide (x=y))) H
def xX{i:Int}:decide (V.int i=V.int j)=(i==j):=by
 rw[gX];simp
def qU{i j:Bool}:decide (V.bl i=V.bl j)=(i==j):=by
 rw[gX];simp
def xY{i j:Str}:decide (V.str i=V.str j)=(i==j):=by
 rw[gX];simp
def EZ{i j:Array UInt8}:decide (V.byt i=V.byt j)=(i.toList==j.toList):=by
 rw[gX];cases i;cases j;simp
def bX{s:ah}{Q:VK}{k a:Bool}(I:Inv X U C H s)(q:Q (.bl k) H)(e:k=a):EP X U C Q (.bool a) s:=by
 subst e;show(.bl k,H,I,rfl,q)
def Mx:OpR X (cL .Eq) rEq:=by
 intro U s C H x y v u Q I c a h;have(b,q):=h
 cases x with
 |non=>
  cases c
  cases y with
  |non=>subst a;show PySem.EqNone.eq_none_none (bX I q (by rfl))
  |bl j=>subst a;show PySem.EqNone.eq_none_bool (bX I q (by rfl))
  |int j=>have(t',rfl):=a;show PySem.EqNone.eq_none_int (bX I q (by rfl))
  |str j=>have(t',rfl):=a;show PySem.EqNone.eq_none_str (bX I q (by rfl))
  | _=>show absurd (b) bM
 |bl i=>
  subst c
  cases y with
  |non=>subst a;show PySem.EqNone.eq_bool_none (bX I q (by simp))
  |bl j=>subst a;show eq_bool (bX I q qU)
  |str j=>have(t',rfl):=a;show PySem.EqMixed.eq_bool_str (bX I q (by simp))
  | _=>show absurd (b) bM
 |int i=>
  have(t,rfl):=c
  cases y with
  |non=>subst a;show PySem.EqNone.eq_int_none (bX I q (by simp))
  |int j=>have(t',rfl):=a;show eq_int (bX I q xX)
  |str j=>have(t',rfl):=a;show PySem.EqMixed.eq_int_str (bX I q (by simp))
  | _=>show absurd (b) bM
 |str i=>
  have(t,rfl):=c
  cases y with
  |non=>subst a;show PySem.EqNone.eq_str_none (bX I q (by simp))
  |bl j=>subst a;show PySem.EqMixed.eq_str_bool (bX I q (by simp))
  |int j=>have(t',rfl):=a;show PySem.EqMixed.eq_str_int (bX I q (by simp))
  |str j=>have(t',rfl):=a;show eq_str (bX I q xY)
  | _=>show absurd (b) bM
 |byt i=>
  have(t,rfl):=c
  cases y with
  |byt j=>have(t',rfl):=a;show W.eq_bytes (bX I q EZ)
  | _=>show absurd (b) bM
 | _=>cases y <;> show absurd (show af=ac from b) bM
def My:OpR X (cL .NotEq) rNe:=by
 intro U s C H x y v u Q I c a h;have(b,q):=h
 cases x with
 |non=>
  cases c
  cases y with
  |non=>subst a;show PySem.EqNone.ne_none_none (bX I q (by rfl))
  |bl j=>subst a;show PySem.EqNone.ne_none_bool (bX I q (by rfl))
  |int j=>have(t',rfl):=a;show PySem.EqNone.ne_none_int (bX I q (by rfl))
  |str j=>have(t',rfl):=a;show PySem.EqNone.ne_none_str (bX I q (by rfl))
  | _=>show absurd (b) bM
 |bl i=>
  subst c
  cases y with
  |non=>subst a;show PySem.EqNone.ne_bool_none (bX I q (by rfl))
  |bl j=>subst a;show ne_bool (bX I q (congrArg not qU))
  |str j=>have(t',rfl):=a;show PySem.EqMixed.ne_bool_str (bX I q (by simp))
  | _=>show absurd (b) bM
 |int i=>
  have(t,rfl):=c
  cases y with
  |non=>subst a;show PySem.EqNone.ne_int_none (bX I q (by simp))
  |int j=>have(t',rfl):=a;show ne_int (bX I q (congrArg not xX))
  |str j=>have(t',rfl):=a;show PySem.EqMixed.ne_int_str (bX I q (by simp))
  | _=>show absurd (b) bM
 |str i=>
  have(t,rfl):=c
  cases y with
  |non=>subst a;show PySem.EqNone.ne_str_none (bX I q (by simp))
  |bl j=>subst a;show PySem.EqMixed.ne_str_bool (bX I q (by simp))
  |int j=>have(t',rfl):=a;show PySem.EqMixed.ne_str_int (bX I q (by simp))
  |str j=>have(t',rfl):=a;show ne_str (bX I q (congrArg not xY))
  | _=>show absurd (b) bM
 |byt i=>
  have(t,rfl):=c
  cases y with
  |byt j=>have(t',rfl):=a;show W.ne_bytes (bX I q (congrArg not EZ))
  | _=>show absurd (show af=ac from b) bM
 | _=>cases y <;> show absurd (show af=ac from b) bM
def Mz:OpR X (cL .Lt) (rI0 λi j=>.bl (decide (i<j))):=ui λ_ _ _ _ _ _ _ q=>lt_int q
def MA:OpR X (cL .LtE) (rI0 λi j=>.bl (decide (i<=j))):=ui λ_ _ _ _ _ _ _ q=>le_int q
def MB:OpR X (cL .Gt) (rI0 λi j=>.bl (decide (j<i))):=ui λ_ _ _ _ _ _ _ q=>gt_int q
def MC:OpR X (cL .GtE) (rI0 λi j=>.bl (decide (j<=i))):=ui λ_ _ _ _ _ _ _ q=>ge_int q
def MD:OpR X (cL .Is) (λx y H Q=>y=.non/\Q (.bl (decide (x=.non))) H):=by
 intro U s C H x y v u Q I a b h;have(rfl,q):=h;subst b;show is_none_gen (bX I q ?_)
 cases x <;> first
  |(subst a;rfl)
  |(have(t,rfl):=a;rfl)
def ME:OpR X (cL .IsNot) (λx y H Q=>y=.non/\Q (.bl (!decide (x=.non))) H):=by
 intro U s C H x y v u Q I a b h;have(rfl,q):=h;subst b;show isnot_none_gen (bX I q ?_)
 cases x <;> first
  |(subst a;rfl)
  |(have(t,rfl):=a;rfl)
def E3(b:Expr)(h:autoParam (op≠.In) Zc)(h2:autoParam (op≠.NotIn) Zc):jK op b=af:=by
 have a:(op==CmpOp.In)=af:=by grind
 have c:(op==CmpOp.NotIn)=af:=by grind
 cases b <;> simp[jK,a,c]
variable{r:R2}
def MF(e:OpR X (cL op) r)(ha:PE X a ta)(d:PE X b tb)(hm:jK op b=af):PE X (.Compare a [op] [b] pos) (tOp r ta tb):=by
 intro U s C H Q I h;show wpAny_Compare1 (xT ha d I h λv u s2 x y H2 c f g q=>e U s2 C H2 x y v u Q c f g q) hm
def MG(t:TE):TT:=λC H Q=>t C H λx H'=>∃k,x=.bl k/\Q k H'
def MH(l:OpR X (cL op) r)(ha:PE X a ta)(j:PE X b tb)(hm:jK op b=af):PT X (.Compare a [op] [b] pos) (MG (tOp r ta tb)):=by
 intro U s C H Q I h
 show wpAny_isTrue_Compare1 (thn (ha U s C H _ I h) λv s1 (x,H1,f,q,m)=>thn (j U s1 C H1 _ f m) λu s2 (y,H2,g,w,n) =>
  thn (l U s2 C H2 x y v u _ g q w n) λc B (z,d,i,A,k,e,p)=>?_) hm
 subst e;subst A;show mC (d,i,p)
def xZ(K:aQ)(x:V)(H:Hp)(k:Bool):Prop:=
 match x with
 |.non=>k=af
 |.bl b=>k=b
 |.int i=>k=(i != 0)
 |.str y=>y.length<=aT/\k=((y.length:Int) != 0)
 |.byt y=>y.size<=aT/\k=((y.size:Int) != 0)
 |.ref p=>(∃E,SqL K H p E/\k=!E.isEmpty)\/(∃E,SqT K H p E/\k=!E.isEmpty)\/∃kvs,H p=aa (.dK kvs)/\k=!kvs.isEmpty
 | _=>False
def MI{a:Type}{kvs:List (a×V)}{vs:List (a×Value)}(r:KV kvs vs):(!vs.isEmpty)=!kvs.isEmpty:=by
 cases r <;> rfl
variable{L:LVa}
def E4(r:aG E L):(!L.toArray.isEmpty)=!E.isEmpty:=by
 cases r <;> simp
def qV:(aT:Nat)<2 ^ 63:=by rw[dE];decide
def MJ:Ml X (λx H Q=>∃k,xZ X.K x H k/\Q k H):=by
 intro U s C H x v Q I c h;have(k,e,q):=h;have l:=dE
 cases x with
 |non=>
  subst c;have e':=e;subst e'
  show truthy_none (H,I,q)
 |bl b=>
  subst c;have e':=e;subst e'
  show mC (H,I,q)
 |int i=>
  have(t,rfl):=c;have e':=e;subst e'
  show PySem.P.truthy_int (H,I,q)
 |str y=>
  have(t,rfl):=c;obtain⟨j,e'⟩:y.length<=aT/\k=_:=e;subst e'
  show PySem.P.truthy_str (by lia) (H,I.tok _,q)
 |byt y=>
  have(t,rfl):=c;obtain⟨j,e'⟩:y.size<=aT/\k=_:=e;subst e'
  show W.truthy_bytes (by lia) (H,I.tok _,q)
 |ref p=>
  subst c;have e':=e
  rcases e' with⟨E,d,e'⟩ |⟨E,d,e'⟩ |⟨kvs,d,e'⟩
  .subst e';have(L,r,f,hz):=I.list d;have a:=r.length;show wpAny_truthy_list f.isList (by simp only[size_toArray];lia) (H,I.tok _,by rw[E4 r];show q)
  .subst e';have(L,r,f,hz):=I.tuple d;have a:=r.length;show truthy_tuple f (by simp only[size_toArray];lia) (H,I.tok _,by rw[E4 r];show q)
  .subst e';obtain⟨hz,g,vs,r,m⟩:Z kvs<=aT/\(p==hE)=af/\∃vs,KV kvs vs/\s.heap.DictOf (lG X.prog X.w) p vs:=I.hok p _ d;have a:=oO r
   show wpAny_truthy_dict g m (by lia) (H,I.tok _,by rw[MI r];show q)
 | _=>show(show False from e).elim
def MK(ha:PE X a ta)(d:∀b,isTrue a X.env b=(do let v <- b;gC a.pos;eS [v] (truthy v))):
  PT X a (λC H Q=>ta C H λx H'=>∃k,xZ X.K x H' k/\Q k H'):=by
 intro U s C H Q I h;show isTrue_plain (thn (ha U s C H _ I h) λv s1 (x,H1,c,f,e)=>MJ U s1 C H1 x v Q c f e) (d _)
def ML:OpR X (dO .Add) (λx y H Q=>∃i j,x=.str i/\y=.str j/\i.length+j.length<=aT/\Q (.str (i++j)) H):=by
 intro U s C H x y v u Q I a b h;have(i,j,rfl,rfl,hz,q):=h;have(t,rfl):=a;have(t',rfl):=b;show add_str (λt' c=>(.str _,H,I.tok _,(_,rfl),q)) hz
def MM:OpR X (inplaceOp .Add) (λx y H Q=>∃i j,x=.str i/\y=.str j/\i.length+j.length<=aT/\Q (.str (i++j)) H):=by
 intro U s C H x y v u Q I a b h;have(i,j,rfl,rfl,hz,q):=h;have(t,rfl):=a;have(t',rfl):=b;show iadd_str (λt' c=>(.str _,H,I.tok _,(_,rfl),q)) hz
def lI{x:V}(r:aG [x] us):∃u,us=[u]/\aD x u:=by
 cases r with
 |cons a b=>cases b;show(_,rfl,a)
def MN{x:V}(r:aG [x,y] us):∃u a,us=[u,a]/\aD x u/\aD y a:=by
 cases r with
 |cons b c=>
  cases c with
  |cons d e=>cases e;show(_,_,rfl,b,d)
structure mU(h:Heap)(x dx X5:Addr)(mA:MGT):Prop where
 obj:h.get? x=aa (lE X5 dx)
 ns:h.Ns1 dx mA
 ne:dx≠x
variable{mA:MGT}
def MO{dx:Addr}(n:h.Ns1 dx mA):∃od,h.get? dx=aa od/\∀name,W.lookIn name od=aa (mA name):=by
 have(o,es,g,d,hd,c,_,hm):=n;show(o,d,λname=>?_);have e:=hm name;unfold nsFind findBy at e;rw[<- Array.find?_toList]at e;unfold W.lookIn;rw[hd];dsimp only;split
 .grind
 .rename_i q;rw[q]at e
  have a:es.toList.any (·.refKey)=af:=by
   rw[any_eq_false];intro y f;have(z,t,b):=c y (Array.mem_toList_iff.mp f);simp[DictEntry.refKey,b]
  grind
def mU.look{x dx X5:Addr}(I:mU h x dx X5 mA):∃od,W.InstAt h x (lE X5 dx) X5 (aa od)/\∀name,W.lookIn name od=aa (mA name):=
 let (od,ho,hl):=MO I.ns
 (od,(I.obj,rfl,rfl,ho),hl)
variable{x X5:Addr}{name:Str}{v:Value}
section
variable{s:ah}{dx:Addr}
def MP{a:Bool}{Q:PRS}(X:K.In s.heap)(I:mU s.heap x dx X5 mA)(c:kj K X5 name=ac)(d:lC K X5=ac)
 (ha:cq K (.ref X5) name=aa ab)(hv:mA name=aa v)(b:W.handedIn v=ac)(h:Q v {s with toks:=s.toks+1}):
  wpAny (model prog w) A (getAttr (.ref x) name a) Q X4 s:=by
 have(od,J,e):=I.look;show W.get_value X J (W.plainGet_of c).1 (W.findObj_own d ha rfl (by rw[e,hv])) b h
end
variable{f:Addr}{pl:Sem Bool}
def MQ{s:ah}{dx:Addr}{Q:Value×LVa->ah->Prop}(X:K.In s.heap)(I:mU s.heap x dx X5 mA)(a:kj K X5 name=ac)
 (b:cq K (.ref X5) name=aa (aa (.ref f)))(d:W.isFn K (.ref f)=ac)(hv:mA name=ab)(h:Q (.ref f,[.ref x],) s):
  wpAny (model prog w) A (hJ (.ref x) name pl) Q X4 s:=by
 have(od,J,c):=I.look;show W.method_fn X J (W.plainGet_of a).1 (W.plainGet_of a).2 b (beq_iff_eq.mp d) (by change(W.lookIn name od).map (·.isSome)=aa af;rw[c,hv];rfl) h
section
variable{s:ah}{dx:Addr}
def MR{ns:LSt}(X:K.In s.heap)(I:mU s.heap x dx X5 mA)
 (n:cq K (.ref X5) "__setattr__"=aa (aa (.builtin "object.__setattr__")))(m:mN K X5=ac)(q:W.takerIn K X5 name=aa ab)(l:lC K X5=ac)
 (r:PySem.Within mA ns)(p:Z ns<=aT)
 (h:∀h',mU h' x dx X5 (λy=>if y=name then aa v else mA y)->gb dx s.heap h'->Q () {s with heap:=h',toks:=s.toks+2}):
  wpAny (model prog w) A (setAttr (.ref x) name v) Q X4 s:=by
 have(od,J,z):=I.look;show W.set_plain X J n (W.osa_open X J m q λb=>?_);have(u,j,e):=W.any_some l;show ak (aE (ak (ak (wpAny_loadPart I.obj (ak (W.Looks.here (W.looks_clsIn X j) ?_))))));rw[e];show aE (ak (aE (ak ?_)));show wpAny_nsSet1 I.ns λh' a c=>?_;have(B,i,g,f,hdD,d):=a.count (PySem.Within.cons name v r);show ak (wpAny_lookBehind f (by rw[hdD];show pastItsLine_dict (cV d (by rw[cv];lia))) (aE (h _ ((c.2 _ (eQ I.ne)).trans I.obj,a,I.ne) c)))
end
variable{R:Result->ah->Prop}{kw:List (Str×Value)}
section
variable{s:ah}
def MS{vs:LVa}(X:K.In s.heap)(hm:mO K X5=ac)
 (hi:cq K (.ref X5) "__init__"=aa (aa (.ref f)))(a:W.typeIn K (.ref f)=aa (.type "function"))
 (h:gD (model prog w) (A.under (.builtin "type.__call__" (.ref X5::vs,kw))) (.call (.ref f) (.ref (s.heap.objs.size + 1)::vs,kw)) (W.InitBack (s.heap.objs.size + 1) R)
   {s with heap:=(s.heap.push lD).push (lE X5 s.heap.objs.size)}):
  gD (model prog w) A (.call (.ref X5) (vs,kw)) R s:=by
 show W.make_core (W.makes_of X hm) (W.looks_findIn X hi) (λself=>W.bind_fn X self a) (.inl rfl) h
end
abbrev dh(f:Str)(v:V):List (Str×V)->List (Str×V)
 | []=>[(f,v,)]
 |(g,x,)::r=>if g=f then (g,v,)::r else (g,x,)::dh f v r
def E5(f g:Str)(v:V):∀fs:List (Str×V),(dh f v fs).lookup g=if g=f then aa v else fs.lookup g
 | []=>by
  change List.lookup g [_]=_
  grind
 |(k,x,)::r=>by
  rw[show dh f v _=(if k=f then _::r else _::dh f v r)from rfl]
  by_cases b:k=f
  .grind
  .rw[if_neg b]
   by_cases h:g=k
   .grind
   .have a:=beq_eq_false_iff_ne.mpr h;simp only[List.lookup,a];show(E5 f g v r)
def x6(f:Str)(v:V):∀fs:List (Str×V),f∈(dh f v fs).map (·.1)/\∀g,g∈fs.map (·.1)->g∈(dh f v fs).map (·.1)
 | []=>(by simp[dh],λg h=>by simp at h)
 |(k,x,)::r=>by
  have(a,b):=x6 f v r;rw[show dh f v _=(if k=f then _::r else _::dh f v r)from rfl]
  grind
def E6(f:Str)(v:V):∀fs:List (Str×V),Z (dh f v fs)<=Z fs+1
 | []=>by simp[dh]
 |(k,x,)::r=>by
  have a:=E6 f v r;rw[show dh f v _=(if k=f then _::r else _::dh f v r)from rfl]
  grind
variable{v:V}
def eV.some_of{o:Option Value}(r:eV (aa v) o):∃u,o=aa u/\aD v u:=by
 cases o with
 |none=>show(r).elim
 |some u=>show(u,rfl,r)
def eV.none_of{o:Option Value}(r:eV ab o):o=ab:=by
 cases o with
 |none=>rfl
 |some u=>show(r).elim
def MT(r:aD v u):W.handedIn u=ac:=by
 cases v with
 |non=>cases (r);rfl
 |bl b=>cases (r);rfl
 |int i=>have(t,e):=(r);subst e;rfl
 |str x=>have(t,e):=(r);subst e;rfl
 |byt b=>have(t,e):=(r);subst e;rfl
 |flt b=>have(t,e):=(r);subst e;rfl
 |ref a=>cases (r);rfl
 |ty n=>cases (r);rfl
variable{a:Addr}{fs:List (Str×V)}
def uj{dx:Addr}(hok:HOk P w H h)(e:H a=aa (.ins X5 dx fs)):∃mA,mU h a dx X5 mA/\(∀f,eV (fs.lookup f) (mA f))/\PySem.Within mA (fs.map (·.1))/\Z fs<=1000/\H dx=aa (.own a):=by
 have(d,z,ne,b,mA,n,r,q):=(hok a _ e);show(mA,(b,n,ne),r,q,z,d)
structure Cls(K:aQ)(X5:Addr):Prop where
 pg:kj K X5 oQ=ac
 hd:lC K X5=ac
 po:mN K X5=ac
 sa:cq K (.ref X5) "__setattr__"=aa (aa (.builtin "object.__setattr__"))
def Cls.get(c:Cls K X5)(f:Str):kj K X5 f=ac:=c.pg
def cN(K:aQ)(X5:Addr)(f:Str):Prop:=cq K (.ref X5) f=aa ab
variable{f:Str}
def cN.taker(n:cN K X5 f):W.takerIn K X5 f=aa ab:=by
 unfold W.takerIn;rw[show cq K _ f=aa ab from n];rfl
structure qW(K:aQ)(X5:Addr)(m:Str)(f:Addr):Prop where
 at_:cq K (.ref X5) m=aa (aa (.ref f))
 fn:W.isFn K (.ref f)=ac
 kp:gc K (.ref f)=ac
def E7{s:ah}{dx:Addr}{b:Bool}{Q:PRS}(I:Inv X U C H s)(e:H a=aa (.ins X5 dx fs))(c:Cls X.K X5)(n:cN X.K X5 f)(l:fs.lookup f=aa v)
 (h:∀u s',Inv X U C H s'->aD v u->Q u s'):wpAny (model X.prog X.w) A (getAttr (.ref a) f b) Q X4 s:=by
 have(mA,O,r,_,_,_):=uj I.hok e;have(u,d,ru):=eV.some_of (by rw[<- l];show r f);show MP I.kIn O (c.get f) c.hd n d (MT ru) (h u _ (I.tok _) ru)
variable{m:Str}
def E8{s:ah}{dx:Addr}{g:Addr}{Q:Value×LVa->ah->Prop}(I:Inv X U C H s)(e:H a=aa (.ins X5 dx fs))(c:Cls X.K X5)(k:qW X.K X5 m g)(l:fs.lookup m=ab)
 (h:Q (.ref g,[.ref a],) s):wpAny (model X.prog X.w) A (hJ (.ref a) m pl) Q X4 s:=by
 have(mA,O,r,_,_,_):=uj I.hok e;show MQ I.kIn O (c.get m) k.at_ k.fn (eV.none_of (by rw[<- l];show r m)) h
def E9{s:ah}{dx:Addr}(I:Inv X U C H s)(e:H a=aa (.ins X5 dx fs))(c:Cls X.K X5)(n:cN X.K X5 f)(p:Z fs<1000)(m:aD y u)
 (h:∀s',Inv X U C (upd H a (.ins X5 dx (dh f y fs))) s'->Q () s'):wpAny (model X.prog X.w) A (setAttr (.ref a) f u) Q X4 s:=by
 have(mA,O,r,wi,_,i):=uj I.hok e;have hz:Z (fs.map (·.1))<=aT:=by rw[ay,dE];lia
 show MR I.kIn O c.sa c.po n.taker c.hd wi hz λh' d sb=>h _ ?_;have hd:∃o,h'.get? dx=aa o:=let (o,_,_,e',_):=d.ns;(o,e');show I.write (by rw[e];show iE) (.inr i) (λb q j z=>(sb.2 b j).trans z) hd ?_;show(by rw[aL O.ne];show i,?_,O.ne,d.obj,_,d.ns,λg=>?_,λg l=>?_)
 .have:=E6 f y fs;lia
 .change eV _ _;rw[E5]
  by_cases q:g=f
  .rw[if_pos q,if_pos q];show m
  .grind
 .by_cases q:g=f
  .rw[q];show(x6 f y fs).1
  .show(x6 f y fs).2 g (wi g λz=>l ?_)
   grind
section
variable{s:ah}
def Inv.made(I:Inv X U C H s):Inv X U C (upd (upd H s.heap.objs.size (.own (s.heap.objs.size+1))) (s.heap.objs.size+1) (.ins X5 s.heap.objs.size []))
  {s with heap:=(s.heap.push lD).push (lE X5 s.heap.objs.size)}:=by
 have a:(s.heap.push lD).get? s.heap.objs.size=aa lD:=cM s.heap rfl
 have c:((s.heap.push lD).push (lE X5 s.heap.objs.size)).get? (s.heap.objs.size+1)=aa (lE X5 s.heap.objs.size):=by
  have:=cM (s.heap.push lD) (o:=lE X5 s.heap.objs.size) rfl
  simp_all
 have d:(s.heap.push lD).Ns s.heap.objs.size _:=(lD,#[],_,a,rfl,(λe f=>absurd f (by simp)),λ_=>rfl);show(I.laid (o:=.own _) (t':=s.toks) (λb u q=>bF _ q) (aM _) (_,a)).laid (λb u q=>bF _ q) (Nat.le_of_eq (jc _ _)) ?_;have ne:s.heap.objs.size≠s.heap.objs.size+1:=bW (c8 _);show(by rw[aL ne,bd],cj _,ne,c,λ_=>ab,(Heap.Ns1.of_empty d).at λo q=>bF _ q,λ_=>iE,λy g=>absurd rfl g)
end
variable{env:Env}
def MU{s:ah}{Q:PRS}(b:oI e f env (eval e env)=eval e env)
 (h:wpAny (model prog w) A (eval e env) (λo a=>wpAny (model prog w) A (getAttr o f ac) Q X4 a) X4 s):wpAny (model prog w) A (eval (.Attribute e f pos) env) Q X4 s:=
 Attribute_any_ h (by rw[arm_eval_Attribute,b])
def MV(K:aQ)(ta:TE)(f:Str):TE:=λC H Q=>ta C H λx H1=>∃a X5 dx fs v,x=.ref a/\H1 a=aa (.ins X5 dx fs)/\Cls K X5/\cN K X5 f/\fs.lookup f=aa v/\Q v H1
def Fa(K:aQ)(ta b:TE)(f:Str):TS:=λD C H=>b C H λy H1=>ta C H1 λx H2=>∃a X5 dx fs,x=.ref a/\H2 a=aa (.ins X5 dx fs)/\Cls K X5/\cN K X5 f/\Z fs<1000 /\
 D.nx C (upd H2 a (.ins X5 dx (dh f y fs)))
def Fb(X:Cx)(op:Operator)(rd:V->V->Hp->VK->Prop):Prop:=
 ∀(U:PNS) (s:ah) (C:St) (H:Hp) (x y:V) (u v:Value) (Q:VK),Inv X U C H s->aD x u->aD y v->rd x y H Q->wpAny (model X.prog X.w) X.A (inplaceOp op u v) (EP X U C Q) X.xe s
def MW(K:aQ)(ta e:TE)(rd:V->V->Hp->VK->Prop)(f:Str):TS:=λD C H=>ta C H λx H1=>∃a X5 dx fs v,x=.ref a/\H1 a=aa (.ins X5 dx fs)/\Cls K X5/\cN K X5 f/\fs.lookup f=aa v /\
 e C H1 λy H2=>rd v y H2 λz d=>∃c b,d a=aa (.ins X5 c b)/\Z b<1000/\D.nx C (upd d a (.ins X5 c (dh f z b)))
def Fc(j:PE X e ta)(i:oI e f X.env (eval e X.env)=eval e X.env):PE X (.Attribute e f pos) (MV X.K ta f):=by
 intro U s C H Q I h;show MU i (thn (j U s C H _ I h) λu s1 m=>?_);have(x,H1,b,p,a,X5,dx,fs,v,ex,g,c,n,l,q):=m;subst ex;obtain rfl:u=eU a:=p;show E7 b g c n l λr s2 d ru=>(v,H1,d,ru,q)
variable{value:Expr}{tv:TE}
def x8{o:Expr}(ha:PE X o ta)(hv:PE X value tv)(i:f9 value (aa (.Attribute o f b4)) pos.line X.env=pure af):PS X (.Assign [.Attribute o f b4] value pos) (Fa X.K ta tv f):=by
 intro U s C H D I h;show plainObj_wpAny_Assign_Attribute (thn (hv U s C H _ I h) λu s1 (y,H1,b,v,q)=>thn (ha U s1 C H1 _ b q) λj s2 p=>?_) i;have(x,H2,d,r,a,X5,dx,fs,ex,g,c,n,l,m):=p;subst ex;obtain rfl:j=eU a:=r;show E9 d g c n l v λw e=>(C,_,e,m)
variable{gw:Pos}
def MX{o:Expr}{op:Operator}{rd:V->V->Hp->VK->Prop}(ha:PE X o ta)(hv:PE X value tv)(d:Fb X op rd):PS X (.AugAssign (.Attribute o f gw) op value pos) (MW X.K ta tv rd f):=by
 intro U s C H D I h;show wpAny_AugAssign_AttributeAny (thn (ha U s C H _ I h) λB s1 J=>?_);have(x,H1,e,L,a,X5,dx,fs,v,ex,r,c,n,l,q):=J;subst ex;obtain rfl:B=eU a:=L;show E7 e r c n l λu s2 g ru=>thn (hv U s2 C H1 _ g q) λT Q (y,H2,i,M,E)=>thn (d U Q C H2 v y u T _ i ru M E) λw4 s4 (z,Y,j,N,p,w,b,A,G)=>(E9 j b c n A N λs5 m=>(C,_,m,G))
abbrev MY:V->V->Hp->VK->Prop:=λx y H Q=>∃i j,x=.int i/\y=.int j/\Q (.int (i+j)) H
def MZ:Fb X .Add MY:=by
 rintro U s C H x y u v Q I a b ⟨i,j,rfl,rfl,q⟩;have(t,rfl):=(a);have(t',rfl):=(b);show PyProof.Rows.iadd_int (.int _,H,I.tok _,(_,rfl),q)
inductive gG(K:aQ)(H:Hp):V->Value->Prop where
 |non:gG K H .non (.type "NoneType")
 |bl (x:Bool):gG K H (.bl x) (.type "bool")
 |int (i:Int):gG K H (.int i) (.type "int")
 |str (x:Str):gG K H (.str x) (.type "str")
 |flt (x:UInt64):gG K H (.flt x) (.type "float")
 |lst {a:Addr} {E:LVv} (e:H a=aa (.lst E)):gG K H (.ref a) (.type "list")
 |frz {a:Addr} {o:Obj} {E:LVv} (e:H a=aa (.frz o (.lst E))):gG K H (.ref a) (.type "list")
 |tup {a:Addr} {E:LVv} (e:H a=aa (.tup E)):gG K H (.ref a) (.type "tuple")
 |dK {a:Addr} {kvs:List (Key×V)} (e:H a=aa (.dK kvs)):gG K H (.ref a) (.type "dict")
 |dT {a:Addr} {kvs:List (List Key×V)} (e:H a=aa (.dT kvs)):gG K H (.ref a) (.type "dict")
 |ins {a X5 dx:Addr} {fs:List (Str×V)} (e:H a=aa (.ins X5 dx fs)) (cl:Cls K X5) (ha:cq K (.ref X5) "__class__"=aa (aa (.builtin "object.__class__")))
   (hn:W.specialIn K (.builtin "object.__class__") "__get__"=aa (aa (.builtin "getset_descriptor.__get__"))) (htk:W.takesIn K (.builtin "object.__class__")=aa ac)
   (hm:W.mroIn K X5 (.type "object")=aa ac):gG K H (.ref a) (.ref X5)
variable{Q:PRS}{c:Value}{b:Bool}
section
variable{s:ah}
def M0{x:V}{u t:Value}(I:Inv X U C H s)(f:aD x u)(ty:gG X.K H x t)(e:W.kitOne X.K t c=aa b)(h:∀j,Q (.bool b) {s with toks:=j}):
  wpAny (model X.prog X.w) A (call (.builtin "isinstance") [u,c]) Q X4 s:=by
 cases ty with
 |non=>cases (f);show jd W.kitx_none I.kIn iE e (λz=>nomatch z) h
 |bl y=>cases (f);show jd W.kitx_bool I.kIn iE e (λz=>nomatch z) h
 |int i=>have(t,q):=(f);subst q;show jd W.kitx_int I.kIn iE e (λz=>nomatch z) h
 |str y=>have(t,q):=(f);subst q;show jd W.kitx_str I.kIn iE e (λz=>nomatch z) h
 |flt y=>have(t,q):=(f);subst q;show jd W.kitx_float I.kIn iE e (λz=>nomatch z) h
 | @lst a E d=>
  cases (f);have(_,_,n,_,h1):=(I.hok a _ d)
  show jd W.kitx_list I.kIn (_,h1,rfl) e (λz=>nomatch z) h
 | @frz a l E d=>
  cases (f);have(_,_,_,n,_,h1):=(I.hok a _ d)
  show jd W.kitx_list I.kIn (_,h1,rfl) e (λz=>nomatch z) h
 | @tup a E d=>
  cases (f);have(_,_,_,p):=(I.hok a _ d);have(o,h1,h2,_):=p
  show jd W.kitx_tuple I.kIn (o,h1,h2) e (λz=>nomatch z) h
 | @dK a kvs d=>
  cases (f);have(_,_,vs,_,p):=(I.hok a _ d);have(o,es,g,h1,h2,_):=p
  show jd W.kitx_dict I.kIn (o,h1,h2.1) e (λz=>nomatch z) h
 | @dT a kvs d=>
  cases (f);have(_,_,E,_,o,es,g,h1,h2,_):=(I.hok a _ d)
  show jd W.kitx_dict I.kIn (o,h1,h2.1) e (λz=>nomatch z) h
 | @ins a X5 dx fs d cl ha hn htk hm=>
  cases (f);have(mA,O,_):=uj I.hok d;have(od,J,_):=O.look;show jd (W.kitx_own (cl.get _) cl.hd ha hn htk hm) I.kIn J e (λz=>nomatch z) h
end
structure bA(k:Nat)(A:ca):Prop where
 hd:A.handled=ab
 dp:A.depth+3*k+5<recursionLimit
 un:A.units+16*k+200<cLine
def bA.mono{j k:Nat}(r:bA k A)(h:j<=k):bA j A:=(r.hd,by have:=r.dp;lia,by have:=r.un;lia)
def bA.deeper{k:Nat}(r:bA (k+1) A)(env:Env):bA k (A.deeper env):=
 (r.hd,by have:=r.dp;change A.depth+1+3*k+5<_;lia,by have:=r.un;change A.units+3+16*k+200<_;lia)
def M1:(A.under (.builtin "type.__call__" (.ref X5::us,kw))).depth=A.depth+1:=by
 first |rfl |simp[ca.under]
def M3:(A.under (.builtin "type.__call__" (.ref X5::us,kw))).units=A.units+1:=by
 first |rfl |simp[ca.under]
def bA.make{k:Nat}(r:bA (k+1) A)(X5:Addr)(us:LVa)(kw:List (Str×Value)):bA k (A.under (.builtin "type.__call__" (.ref X5::us,kw))):=
 (r.hd,by have:=r.dp;rw[M1];lia,by have:=r.un;rw[M3];lia)
def bA.depth{k:Nat}(r:bA k A):A.depth<recursionLimit:=by have:=r.dp;lia
def bA.units{k:Nat}(r:bA k A):A.units+64<cLine:=by have:=r.un;lia
def ig:TA:=λ_ H Q=>Q [] H
def ji(ta:TE)(tr:TA):TA:=λC H Q=>ta C H λx H1=>tr C H1 λE H2=>Q (x::E) H2
def d7:PA X [] ig:=λ_ _ _ _ H Q I h=>xu ([],H,I,.nil,h)
def eW{t:TA}(ha:PE X e te)(hr:PA X es t)(c:autoParam (StE X e es) Zb):PA X (e::es) (ji te t):=by
 intro pos U s C H Q I h;rw[c];show jb (thn (ha U s C H _ I h) λu s1 (x,H1,a,g,d)=>(thn (hr pos U s1 C H1 _ a d) λus s2 (E,H2,b,i,f)=>(x::E,H2,b,.cons g i,f)))
def M4(t:TA):TE:=λC H Q=>t C H λE H1=>Z E<=aT/\∀p,H1 p=ab->Q (.ref p) (upd H1 p (.tup E))
def x9(t:TA):TE:=λC H Q=>t C H λE H1=>Z E<=aT/\∀p,H1 p=ab->Q (.ref p) (upd H1 p (.lst E))
def M5{t:TA}{x1}(h:PA X es t):PE X (.Tuple es x1 pos) (M4 t):=by
 intro U s C H Q I c;show wpAny_Tuple_spliced (thn (h pos U s C H _ I c) λus s1 (E,H1,a,r,z,q)=>(by rw[<- r.length];show z,?_));show(.ref s1.heap.objs.size,upd H1 s1.heap.objs.size _,a.laid (λb u e=>bF _ e) (aM _) ?_,rfl,q _ (a.hok.fresh (aM _)));show(z,us,r,(_,cM _ rfl,rfl,_,rfl))
def uk{t:TA}(h:PA X es t):PE X (.List es pos) (x9 t):=by
 intro U s C H Q I c;show wpAny_List_spliced (thn (h pos U s C H _ I c) λus s1 (E,H1,a,r,z,q)=>(by rw[<- r.length];show z,?_));show(.ref s1.heap.objs.size,upd H1 s1.heap.objs.size _,a.laid (λb u e=>bF _ e) (aM _) ?_,rfl,q _ (a.hok.fresh (aM _)));show(z,us,0,r,cM _ rfl)
nonrec def Sp:=LVv->Hp->VK->XK->Prop
nonrec def CXT:=List Env->Hp->ah->XK->PRS
structure mV(P:ce)(w:World)(K:aQ)(mg:MGT)(base:Heap)(A:ca)(outer:List Env)(s:ah)(H:Hp):Prop where
 frames:A.frames=aa outer
 mod:Mod K mg base
 bs:∀b o,base.get? b=aa o->s.heap.get? b=aa o/\H b=ab
 bsz:base.objs.size<=s.heap.objs.size
 funs:s.heap.FunFrames base outer
 frf:∀b∈frs outer,H b=ab
 hok:HOk P w H s.heap
 bare:ke s.gens
def CE(outer:List Env)(P:ce)(w:World)(H:Hp)(s:ah)(Q:VK)(u:Value)(s':ah):Prop:=
 ∃v H',s'.os=s.os/\ke s'.gens/\Un (frs outer) [] H H' s.heap s'.heap/\HOk P w H' s'.heap/\aD v u/\Q v H'
def CR(CX:CXT)(outer:List Env)(P:ce)(w:World)(H:Hp)(s:ah)(Q:VK)(X4:XK)(r:Result)(s':ah):Prop:=
 match r with
 |.ok (.ret u)=>CE outer P w H s Q u s'
 |.ok _=>False
 |.error e=>CX outer H s X4 e s'
structure cx(P:ce)(w:World)(K:aQ)(mg:MGT)(base:Heap)(CX:CXT)(k:Nat)(f:Addr)(fd:cW)(ps:LSt)(sp:Sp):Prop where
 len:∀vs H Q X4,sp vs H Q X4->Z vs=Z ps
 run:∀(A:ca) (outer:List Env) (s:ah) (H:Hp) (args:Args) (us:LVa) (vs:LVv) (Q:VK) (X4:XK),bA k A->mV P w K mg base A outer s H->BindsTo s fd args (ps.zip us)->aG vs us->sp vs H Q X4 ->
  gD (model P w) A (.call (.ref f) args) (CR CX outer P w H s Q X4) s
variable{mg:MGT}{base:Heap}{CX:CXT}{f:Addr}{fd:cW}{ps:LSt}{sp:Sp}
def cx.imp{k:Nat}{a:Sp}(F:cx P w K mg base CX k f fd ps sp)
 (h:∀vs H Q X4,a vs H Q X4->sp vs H Q X4):cx P w K mg base CX k f fd ps a:=
 (λvs H Q X4 q=>F.len vs H Q X4 (h _ _ _ _ q),λA outer s H args us vs Q X4 hr c b hv d=>F.run A outer s H args us vs Q X4 hr c b hv (h _ _ _ _ d))
variable{outer:List Env}
def mV.make{s:ah}(e:mV P w K mg base A outer s H)(X5:Addr)(us:LVa)(kw:List (Str×Value)):
  mV P w K mg base (A.under (.builtin "type.__call__" (.ref X5::us,kw))) outer s H:=⟨by first |show e.frames |(simpa[ca.under]using e.frames),e.mod,e.bs,e.bsz,e.funs,e.frf,e.hok,e.bare⟩
def Inv.env0{s:ah}(I:Inv X U C H s):mV X.prog X.w X.K X.mg X.base X.A X.stack s H:=
 (I.ok.frames,I.ok.mod,I.bs,cV I.ok.bsz I.sz,I.stack,I.stkFree,I.hok,I.bare)
variable{Q:VK}
def Inv.after{s:ah}(I:Inv X U C H s)(h:CE X.stack X.prog X.w H s Q u s'):EP X U C Q u s':=by
 have(v,H',os,bare,un,hok,r,q):=h;have(c,g,d,t,a):=s';obtain rfl:a=s.os:=os;show(v,H',I.call un hok bare (λb z=>absurd z (by simp)),r,q)
def ya(sp:Sp)(a:LVv)(X4:XK)(t:TA):TE:=λC H Q=>t C H λvs H1=>sp (vs++a) H1 Q X4
def um(X5:Addr)(m:Str)(sp:Sp)(b:LVv)(X4:XK)(ta:TE)(t:TA):TE:=λC H Q=>ta C H λx H1=>∃a dx fs,x=.ref a/\H1 a=aa (.ins X5 dx fs)/\fs.lookup m=ab /\
 t C H1 λvs H2=>sp (x::(vs++b)) H2 Q X4
def Fd(X5:Addr)(sp:Sp)(a:LVv)(X4:XK)(t:TA):TE:=λC H Q=>t C H λvs H1=>∀x dx,H1 x=ab->H1 dx=ab->dx≠x ->
 sp (.ref x::(vs++a)) (upd (upd H1 dx (.own x)) x (.ins X5 dx [])) (λv H2=>v=.non/\Q (.ref x) H2) X4
def dW(K:aQ)(fd:cW)(ps:LSt)(ds:LVa):Prop:=
 ∀(s:ah) (us:LVa),K.In s.heap->Z (us++ds)=Z ps->BindsTo s fd (us,[]) (ps.zip (us++ds))
def dW.all(h:∀us:LVa,Z us=Z ps->bindArgs fd (us,[])=pure (ps.zip us)):dW K fd ps []:=λs us _ a=>by
 rw[bO]at a ⊢;show .of_eq (h us a)
def mW(CX:CXT)(X:Cx)(X4:XK):Prop:=∀(U:PNS) (C:St) (H:Hp) (s:ah) (e:Value) (s':ah),Inv X U C H s->CX X.stack H s X4 e s'->X.xe e s'
variable{e6 vs:LVv}{ds:LVa}{X4:XK}
def uq{k:Nat}{s:ah}(F:cx X.prog X.w X.K X.mg X.base CX k f fd ps sp)(hr:bA k X.A)(d:dW X.K fd ps ds)(hd:aG e6 ds)(i:mW CX X X4)
 (I:Inv X U C H s)(r:aG vs us)(h:sp (vs++e6) H Q X4):wpAny (model X.prog X.w) X.A (call (.ref f) us) (EP X U C Q) X.xe s:=by
 have b:=r.append hd;have g:Z (us++ds)=Z ps:=by rw[<- b.length];show F.len _ _ _ _ h
 show wpAny_call (ly (F.run X.A X.stack s H (us,[]) _ _ Q X4 hr I.env0 (d s us I.kIn g) b h) λr s' a=>?_)
 cases r with
 |error e=>show i U C H s e s' I a
 |ok c=>
  cases c with
  |ret u=>show I.after a
  |next=>show gY a
  |brk=>show gY a
  |cont=>show gY a
variable{x:Str}{p:Pos}
def oT{k:Nat}{t:TA}(F:cx X.prog X.w X.K X.mg X.base CX k f fd ps sp)(hr:bA k X.A)(i:Gl X x)(hm:X.mg x=aa (.ref f))(j:gc X.K (.ref f)=ac)(d:dW X.K fd ps ds)(hd:aG e6 ds)(l:mW CX X X4)
 (ha:PA X (e::es) t)(a:autoParam (NDb x) Zc)(g:autoParam (StE X e es) Zb)(b:autoParam (BkE X pos es) Zb):
  PE X (.Call (.Name x p) (e::es) [] pos) (ya sp e6 X4 t):=by
 intro U s C H Q I h;show i7 (xK I i hm ?_ a);show W.callWith_K I.ok.mod.kin j (thn (ha pos U s C H _ I h) λus s1 (vs,H1,c,r,q)=>(c.kIn,(uq F hr d hd l c r q))) g b
variable{apos:Pos}
def yb{k:Nat}{o:Expr}{t:TA}(p:PE X o ta)(c:Cls X.K X5)(hm:qW X.K X5 m f)(F:cx X.prog X.w X.K X.mg X.base CX k f fd ps sp)(hr:bA k X.A)(n:dW X.K fd ps ds)(hd:aG e6 ds)(y:mW CX X X4)(ha:PA X (e::es) t)
 (d:autoParam (StE X e es) Zb)(b:autoParam (BkE X pos es) Zb)
 (v:autoParam (eval (.Call (.Attribute o m apos) (e::es) [] pos) X.env=(do
   let ov <- eval o X.env
   gC apos.atName
   let (f,first,) <- eS [ov] (hJ ov m pl)
   jN pos f first (cf pos (aO (e::es) X.env)) (iA pos (iz [] X.env)))) Zb):
  PE X (.Call (.Attribute o m apos) (e::es) [] pos) (um X5 m sp e6 X4 ta t):=by
 intro U s C H Q I h;show W.methodCall_KW (thn (p U s C H _ I h) λu s1 B=>?_) v;have(x,H1,g,E,a,dx,fs,ex,j,l,q):=B;subst ex;obtain rfl:u=eU a:=E;show E8 g j c hm l ?_;show W.callWith_K I.ok.mod.kin hm.kp (thn (ha pos U s1 C H1 _ g q) λus s2 (vs,H2,i,r,z)=>(i.kIn,(uq (vs:=.ref a::vs) F hr n hd y i (.cons rfl r) z))) d b
def yc{k:Nat}{o:Expr}(g:PE X o ta)(c:Cls X.K X5)(hm:qW X.K X5 m f)(F:cx X.prog X.w X.K X.mg X.base CX k f fd ps sp)(hr:bA k X.A)(e:dW X.K fd ps ds)(hd:aG e6 ds)(j:mW CX X X4)
 (i:autoParam (eval (.Call (.Attribute o m apos) [] [] pos) X.env=(do
   let ov <- eval o X.env
   gC apos.atName
   let (f,first,) <- eS [ov] (hJ ov m pl)
   jN pos f first (cf pos (aO [] X.env)) (iA pos (iz [] X.env)))) Zb):
  PE X (.Call (.Attribute o m apos) [] [] pos) (um X5 m sp e6 X4 ta ig):=by
 intro U s C H Q I h;show W.methodCall_KW (thn (g U s C H _ I h) λu s1 n=>?_) i;have(x,H1,b,p,a,dx,fs,ex,d,l,q):=n;subst ex;obtain rfl:u=eU a:=p;show E8 b d c hm l (W.callWith_K0 b.kIn hm.kp (uq (vs:=[.ref a]) F hr e hd j b (.cons rfl .nil) q))
structure Mk(K:aQ)(X5 f:Addr):Prop where
 makes:mO K X5=ac
 init:cq K (.ref X5) "__init__"=aa (aa (.ref f))
 fn:W.isFn K (.ref f)=ac
 kp:gc K (.ref X5)=ac
def M6{k:Nat}{s:ah}(X1:Mk X.K X5 f)(F:cx X.prog X.w X.K X.mg X.base CX k f fd ps sp)(hr:bA (k+1) X.A)(l:dW X.K fd ps ds)(hd:aG e6 ds)
 (n:mW CX X X4)(I:Inv X U C H s)(r:aG vs us)
 (h:∀x dx,H x=ab->H dx=ab->dx≠x->sp (.ref x::(vs++e6)) (upd (upd H dx (.own x)) x (.ins X5 dx [])) (λv H2=>v=.non/\Q (.ref x) H2) X4):
  wpAny (model X.prog X.w) X.A (call (.ref X5) us) (EP X U C Q) X.xe s:=by
 have c:=h _ s.heap.objs.size (I.hok.fresh (ka _)) (I.hok.fresh (aM _)) (bW (c8 _));have b:=Inv.made (X5:=X5) I;have d:aG (V.ref _::_) (eU (s.heap.objs.size+1)::_):=.cons rfl (r.append hd)
 have m:Z (eU (s.heap.objs.size+1)::us++ds)=Z ps:=by
  have e:=d.length;rw[F.len _ _ _ _ c]at e;show e.symm
 show wpAny_call (MS I.kIn X1.makes X1.init (beq_iff_eq.mp X1.fn) (ly (F.run _ X.stack _ _ (eU _::us,[]) _ _ _ X4 (hr.make X5 us [])
  (b.env0.make X5 us []) (l _ _ b.kIn m) d c) λr s' a=>?_))
 cases r with
 |error e=>show n U C _ _ e s' b a
 |ok j=>
  cases j with
  |ret u=>
   have(v,H',g,q,i,p):=b.after a;subst i
   show(q,(V.ref _,H',g,rfl,p))
  |next=>show gY a
  |brk=>show gY a
  |cont=>show gY a
def Fe{k:Nat}{t:TA}(X1:Mk X.K X5 f)(F:cx X.prog X.w X.K X.mg X.base CX k f fd ps sp)(hr:bA (k+1) X.A)(i:Gl X x)(hm:X.mg x=aa (.ref X5))(d:dW X.K fd ps ds)(hd:aG e6 ds)(j:mW CX X X4)
 (ha:PA X (e::es) t)(a:autoParam (NDb x) Zc)(g:autoParam (StE X e es) Zb)(b:autoParam (BkE X pos es) Zb):
  PE X (.Call (.Name x p) (e::es) [] pos) (Fd X5 sp e6 X4 t):=by
 intro U s C H Q I h;show i7 (xK I i hm ?_ a);show W.callWith_K I.ok.mod.kin X1.kp (thn (ha pos U s C H _ I h) λus s1 (vs,H1,c,r,q)=>(c.kIn,(M6 X1 F hr d hd j c r q))) g b
structure aB(N P:LSt)(sc:Scope):Prop where
 kind:sc.kind=.function
 co:sc.isCoroutine=af
 gen:sc.isGenerator=af
 nd:N.Nodup
 pre:N.take (Z P)=P
 par:∀x∈P,sc.names.lookup x=aa .local\/sc.names.lookup x=aa .cell
 nofree:∀y∈sc.names,y.2≠.free
def Ff{kindOf:Str->Option ga}{x:Str}:∀{binds:List (Str×Value)} {m:MGT},(∀v,(x,v,)∉binds)->bindL kindOf binds m x=m x
 | [],_,_=>rfl
 |(n,v,)::r,m,h=>by
  unfold bindL;rw[Ff λw a=>h w (bi _ a)];split
  .grind
  .rfl
def Fg{kindOf:Str->Option ga}{x:Str}:∀{binds:List (Str×Value)} {m:MGT},(∀v,(x,v,)∉binds)->bindC kindOf binds m x=m x
 | [],_,_=>rfl
 |(n,v,)::r,m,h=>by
  unfold bindC;rw[Fg λw a=>h w (bi _ a)];split
  .rfl
  .grind
def Fh{kindOf:Str->Option ga}{x:Str}{v:Value}:∀{P:LSt} {vs:LVa} {i:Nat} {m:MGT},P.Nodup->P[i]?=aa x->vs[i]?=aa v->kindOf x=aa .local ->
  bindL kindOf (P.zip vs) m x=aa v
 | [],_,_,_,_,h,_,_=>by simp at h
 | _::_,[],_,_,_,_,h,_=>by simp at h
 |p::P,w::vs,0,m,nd,h1,h2,hk=>by
  simp at h1 h2;subst h1;subst h2;change bindL kindOf (_::P.zip vs) m p=_;dsimp only[bindL];rw[Ff λv hv=>(b8.mp nd).1 (of_mem_zip hv).1,if_pos hk]
  simp
 |p::P,w::vs,i+1,m,nd,h1,h2,hk=>by
  change bindL kindOf (_::P.zip vs) m x=_;show Fh (b8.mp nd).2 (by simpa using h1) (by simpa using h2) hk
def Fi{kindOf:Str->Option ga}{x:Str}{v:Value}:∀{P:LSt} {vs:LVa} {i:Nat} {m:MGT},P.Nodup->P[i]?=aa x->vs[i]?=aa v->kindOf x≠aa .local ->
  bindC kindOf (P.zip vs) m x=aa v
 | [],_,_,_,_,h,_,_=>by simp at h
 | _::_,[],_,_,_,_,h,_=>by simp at h
 |p::P,w::vs,0,m,nd,h1,h2,hk=>by
  simp at h1 h2;subst h1;subst h2;change bindC kindOf (_::P.zip vs) m p=_;dsimp only[bindC];rw[Fg λv hv=>(b8.mp nd).1 (of_mem_zip hv).1,if_neg hk]
  simp
 |p::P,w::vs,i+1,m,nd,h1,h2,hk=>by
  change bindC kindOf (_::P.zip vs) m x=_;show Fi (b8.mp nd).2 (by simpa using h1) (by simpa using h2) hk
def start(N:LSt)(vs:LVv):St:=vs.map aa++g6 (Z N-Z vs) ab
abbrev iF(CX:CXT)(P:ce)(w:World)(K:aQ)(mg:MGT)(base:Heap)(N:LSt)(qual:Str)(scope:Scope)(f:Addr)(cd:Value)(A:ca)(outer:List Env)(s:ah)(H:Hp)(X4:XK):Cx where
 prog:=P
 w:=w
 K:=K
 mg:=mg
 base:=base
 A:=A.deeper (f8 qual scope s.heap.objs.size f cd)
 N:=N
 s₀:=s
 H₀:=H
 env:=f8 qual scope s.heap.objs.size f cd
 outer:=outer
 stack:=f8 qual scope s.heap.objs.size f cd::outer
 ex:=[]
 calm:=ac
 fn:=λ_=>ac
 pn:=[]
 xe:=λe s'=>wpAny (model P w) (A.deeper (f8 qual scope s.heap.objs.size f cd)) (leaving (f8 qual scope s.heap.objs.size f cd) e) (λ_ s''=>CX outer H s X4 e s'') (λe' s''=>CX outer H s X4 e' s'') s'
variable{n:Nat}
def Fj{sc:Scope}(h:sc.names.lookup x=aa .cell):∃c,(cellsFrom n sc.names []).lookup x=aa c:=by
 show xl.mp (W.cellsFrom_some sc.names n [] (.inl h))
variable{qual:Str}{scope:Scope}
def M7{m:Value}{s s1:ah}
 (S:aB N ps scope)(hd:A.handled=ab)(e0:mV P w K mg base A outer s H)(I:Z vs=Z ps)(r:aG vs us)
 (x:InCallC s s.heap.objs.size (bindL (f8 qual scope s.heap.objs.size f m).kindOf (ps.zip us) λ_=>ab) (cellsFrom (s.heap.objs.size+1) scope.names []) (bindC (f8 qual scope s.heap.objs.size f m).kindOf (ps.zip us) λ_=>ab) s1):
  Inv (iF CX P w K mg base N qual scope f m A outer s H X4) [] (start N vs) H s1:=by
 have C:Z ps<=Z N:=by have:=congrArg List.length S.pre;rw[length_take]at this;lia
 have(h1,J,rfl,n):=x.done;have g:∀b:Addr,b∉(iF CX P w K mg base N qual scope f m A outer s H X4).ex:=λb z=>absurd (show b∈([]:LAd)from z) (by simp)
 show((e0.mod,S.kind,rfl,rfl,aM _,λy z c h1 h2=>?_,λy d=>?_,λy c _ h=>?_,λ_=>hd,ca.frames_deeper e0.frames,.inr (rfl,rfl),λb z=>absurd z (g b),e0.bs,e0.bsz,λb _ _=>g b,λb z=>absurd z (g b),e0.funs,e0.frf),
  rfl,e0.bare,Un.kept n,(_,x.toInCall.ns,λi y v h1 h2 G=>?_),λy c h=>(_,x.cell y c h),e0.hok.fresh (aM _),λy c h=>?_,λp j=>absurd (show p∈([]:List _)from j) (by simp),e0.hok.kept n,?_)
 .show name_of_addr x.apart (qL h1) (qL h2)
 .have d:=d
  rcases d with d |d
  .show Fj d
  .show absurd rfl (S.nofree _ (qL d))
 .show fD (x.above y c (qL h))
 .have hi:i<Z vs:=by
   unfold start at h2
   by_cases hi:i<Z vs
   .show hi
   .rw[oj (by simpa using hi)]at h2;rw[om]at h2
    split at h2 <;> nomatch h2
  have ha:vs[i]?=aa v:=by
   unfold start at h2;rw[mh (by simpa using hi),cu]at h2
   cases e:vs[i]? with
   |none=>rw[e]at h2;nomatch h2
   |some a=>rw[e]at h2;cases h2;rfl
  have(u,B,E):=r.get ha
  have j:ps[i]?=aa y:=by
   rw[<- S.pre,List.getElem?_take_of_lt (by lia)];show h1
  have l:ps.Nodup:=by rw[<- S.pre];show S.nd.sublist (take_sublist _ _)
  show(u,E,?_)
  rcases S.par y (dS j)with k |k
  .show .inl (k,Fh l j B k)
  .have(c,e):=Fj k;show .inr (.inl k,c,e,?_);have q:=x.cell y c e;rw[Fi l j B (by change scope.names.lookup y≠_;rw[k];decide)]at q;show q
 .show e0.hok.fresh (fD (x.above y c (qL h)))
 .unfold start;change _=Z N;rw[aS,ay,mi]
  lia
variable{an od:Option Addr}{osl:Array (Option Value)}
def Fk{k:Nat}{params:Arguments}{dV kV doc pm cdv ct oc:Value}
  (E:K.lookup f=aa (oc,od,.func (je name qual params body scope dV kV doc pm an cdv ct),osl))(h:W.codeIn K cdv qual=ac)(S:aB N ps scope)
 (len:∀vs H Q X4,sp vs H Q X4->Z vs=Z ps)
 (a:∀ (A:ca) (outer:List Env) (s:ah) (H:Hp) (vs:LVv) (Q:VK) (X4:XK),bA k (A.deeper (f8 qual scope s.heap.objs.size f cdv))->sp vs H Q X4 ->
   ∃t,PSs (iF CX P w K mg base N qual scope f cdv A outer s H X4) body t/\t {nx:=λ_ H'=>Q .non H',rt:=Q} (start N vs) H):
  cx P w K mg base CX (k+1) f (je name qual params body scope dV kV doc pm an cdv ct) ps sp:=by
 show(len,λA outer s H args us vs Q X4 hr e0 m r g=>?_);have j:=e0.mod.kin.keeps λb o e=>(e0.bs b o e).1
 have c:∀y∈ps.zip us,scope.names.lookup y.1=aa .local\/(scope.names.lookup y.1=aa .cell/\((cellsFrom (s.heap.objs.size+1) scope.names []).lookup y.1).isSome=ac):=λ(n,v) C=>by
  rcases S.par n (of_mem_zip C).1 with q |q
  .show .inl q
  .show .inr (q,W.cellsFrom_some _ _ _ (.inl q))
 show codeAny_call_function hr.depth (j _ _ E) rfl S.co S.gen rfl (W.codeRec_of j h) (m _ _ _ _ ?_);show wpAny_newFunctionEnv_cells S.kind c λenv p s1 x=>?_;subst p;show((e0.mod.nolimit.keeps λb o e=>(e0.bs b o e).1).keeps x.toInCall.keep,codeAny_func ?_);have(t,B,z):=a A outer s H vs Q X4 (hr.deeper _) g;have I:Inv (iF CX P w K mg base N qual scope f cdv A outer s H X4) [] _ H s1:=M7 S hr.hd e0 (len _ _ _ _ g) r x;show fM (B [] s1 _ H _ I z) (λl s' d=>?_) λe s' d=>d
 have fin:∀{σ':St} {H':Hp} {v:V} {u:Value},Inv (iF CX P w K mg base N qual scope f cdv A outer s H X4) [] σ' H' s'->aD v u->Q v H'->CE outer P w H s Q u s':=
  λ{σ' H' v u} J i q=>(v,H',J.os,J.bare,J.base,J.hok,i,q)
 cases l with
 |ret u=>
  have(v,σ',H',J,i,q):=d
  show fin J i q
 |next=>
  have(σ',H',J,q):=d
  show fin (v:=V.non) J rfl q
 |brk=>
  have(_,_,_,q):=d
  show gY q
 |cont=>
  have(_,_,_,q):=d;show gY q
def tCB(r:LVv->Hp->VK->Prop)(t:TA):TE:=λC H Q=>t C H λvs H1=>r vs H1 Q
variable{r:LVv->Hp->VK->Prop}
def Fm{t:TA}{id:String}(d:ie X (.builtin id) r)(g:Gl X x)(hm:X.mg x=ab)(hv:jM x=aa (.builtin id))(ha:PA X (e::es) t)(hn:autoParam (x ≠ "__name__") Zc)(a:autoParam (NDb x) Zc)
 (f:autoParam (StE X e es) Zb)(b:autoParam (BkE X pos es) Zb):PE X (.Call (.Name x p) (e::es) [] pos) (tCB r t):=by
 intro U s C H Q I h;show i7 (hZ I g hm hv (xm (thn (ha pos U s C H _ I h) λus s1 (vs,H1,c,j,i)=>d U s1 C H1 vs us Q c j i) f b) hn a)
variable{T:String}
def M8{t:TA}(d:ie X (.type T) r)(g:Gl X x)(hm:X.mg x=ab)(hv:jM x=aa (.type T))(ha:PA X (e::es) t)(hn:autoParam (x ≠ "__name__") Zc)(a:autoParam (NDb x) Zc)
 (f:autoParam (StE X e es) Zb)(b:autoParam (BkE X pos es) Zb):PE X (.Call (.Name x p) (e::es) [] pos) (tCB r t):=by
 intro U s C H Q I h;show i7 (hZ I g hm hv (kc (thn (ha pos U s C H _ I h) λus s1 (vs,H1,c,j,i)=>d U s1 C H1 vs us Q c j i) f b) hn a)
end L2
namespace HT
open List
open PySem PyProof.Rows
open PySem.SeqAt
open PySem.AutoSeq1 (wpAny_loadPart')
open PySem.MeetsSeq PySem.MeetsSeq2 PySem.MeetsSeq3
abbrev sIx(n d:Nat):Option Int->Nat
 |none=>d
 |some v=>if v<0 then S (v+(n:Int)) else min v.toNat n
def sIx_none(n d:Nat):sIx n d ab=d:=rfl
def sIx_nat(n d k:Nat):sIx n d (aa (k:Int))=min k n:=by rfl
end HT
namespace L2
open List
open PySem PySem.Spec PyProof.Rows
nonrec def TO:=St->Hp->(Option Int->Hp->Prop)->Prop
def PO(X:Cx)(e:Option Expr)(t:TO):Prop:=
 ∀(U:PNS) (s:ah) (C:St) (H:Hp) (Q:Option Int->Hp->Prop),Inv X U C H s->t C H Q ->
  wpAny (model X.prog X.w) X.A (evalPart e X.env) (λu a=>∃o H',Inv X U C H' a/\IsPart u o/\Q o H') X.xe s
def M9:TO:=λ_ H Q=>Q ab H
def Na(t:TE):TO:=λC H Q=>t C H λx a=>∃i,x=.int i/\Q (aa i) a
variable{ns:LI0}
def Nb:∀{us:LVa},aG (ns.map V.int) us->f7 us ns:=by
 induction ns with
 |nil=>intro us r;rw[map_nil]at r;cases r;show .nil
 |cons n ns a=>
  intro us r
  cases r with
  |cons b c=>
   have(t,e):=b;subst e;show .cons n t (a c)
variable{X:Cx}
def Nd:PO X ab M9:=by
 intro U s C H Q I h;show aE (ab,H,I,.none,h)
variable{e:Expr}{te:TE}
def Nf(h:PE X e te):PO X (aa e) (Na te):=by
 intro U s C H Q I c;show thn (h U s C H _ I c) λu s1 f=>?_;have(x,a,b,g,d):=f;have(i,rfl,q):=d;have(t,rfl):=g;show(aa i,a,b,.int i t,q)
variable{lo hi:Option Expr}
def SlR(X:Cx)(r:V->Option Int->Option Int->Hp->VK->Prop):Prop:=
 ∀(U:PNS) (s:ah) (C:St) (H:Hp) (x:V) (v vl a:Value) (lo hi:Option Int) (sl:Addr) (Q:VK),Inv X U C H s->aD x v->s.heap.IsSliceOf sl vl a .none->IsPart vl lo->IsPart a hi->r x lo hi H Q ->
  ∃T id,mH (.type T) "__getitem__"=pure (aa (.builtin id))/\s.TypeIs v T/\wpAny (model X.prog X.w) X.A (getItem v (.ref sl)) (EP X U C Q) X.xe s
def tSl(r:V->Option Int->Option Int->Hp->VK->Prop)(te:TE)(tl d:TO):TE:=λC H Q=>te C H λx a=>tl C a λl b=>d C b λu c=>r x l u c Q
variable{tl th:TO}{pos p2:Pos}
def Ng{r:V->Option Int->Option Int->Hp->VK->Prop}(hr:SlR X r)(y:PE X e te)(A:PO X lo tl)(E:PO X hi th):PE X (.Subscript e (.Slice lo hi ab p2) pos) (tSl r te tl th):=by
 intro U s C H Q I h;show Subscript_ (thn (y U s C H _ I h) λv s1 c=>?_);have(x,g,j,Y,L):=c;show wpAny_Slice (thn (A U s1 C g _ j L) λvl s2 (l,i,m,G,M)=>thn (E U s2 C i _ m M) λd a c=>?_);have(u,f,n,J,N):=c;show aE ?_
 have p:Inv X U C f {a with heap:=a.heap.push {cls:=.type "slice",data:=.fields #[vl,d,.none]}}:=n.kept λb ob q=>bF _ q
 have(T,id,w,B,z):=hr U {a with heap:=a.heap.push {cls:=.type "slice",data:=.fields #[vl,d,.none]}} C f x v vl d l u a.heap.objs.size Q p Y (Heap.IsSliceOf.new ..) G J N
 show tail_any B w z (by with_unfolding_all rfl)
def qX(E:LVv)(lo hi:Option Int):LVv:=(E.drop (HT.sIx E.length 0 lo)).take (HT.sIx E.length E.length hi-HT.sIx E.length 0 lo)
def Nh(E:LVv)(lo hi:Option Int):Z (qX E lo hi)<=Z E:=by
 unfold qX;rw[length_take,length_drop]
 lia
def ixN(n:Nat)(i:Int):Option Nat:=if 0<=i then (if i<n then aa (S i) else ab) else if -(n:Int)<=i then aa (S (i+n)) else ab
def atI{a:Type}(E:List a)(i:Int):Option a:=(ixN E.length i).bind λj=>E[j]?
variable{n j:Nat}{i:Int}
def Fo(h:ixN n i=aa j):seqIndex? i n=aa j/\j<n/\-(n:Int)<=i/\i<n:=by
 unfold ixN at h
 by_cases b:0<=i
 .rw[if_pos b]at h
  by_cases a:i<n
  .rw[if_pos a]at h;have e:=dz h;show(by rw[seqIndex_of b a,e],by lia,by lia,a)
  .rw[if_neg a]at h;nomatch h
 .rw[if_neg b]at h
  by_cases a:-n<=i
  .rw[if_pos a]at h;have e:=dz h;show(by rw[seqIndex_neg (by lia) a,e],by lia,a,by lia)
  .rw[if_neg a]at h;nomatch h
def Fp{a:Type}{E:List a}{v:a}(h:atI E i=aa v):∃j,seqIndex? i (Z E)=aa j/\E[j]?=aa v/\j<Z E/\-(Z E:Int)<=i/\i<Z E:=by
 unfold atI at h
 cases e:ixN E.length i with
 |none=>rw[e]at h;nomatch h
 |some j=>
  rw[e]at h;have(b,h2,c,d):=Fo e;show(j,b,h,h2,c,d)
def Ni{a:Type}{E:List a}{v:a}(h:E[j]?=aa v):atI E (j:Int)=aa v:=by
 have b:=(c7.mp h).1
 have e:ixN E.length j=aa j:=by
  unfold ixN;rw[if_pos (by lia),if_pos (by lia)];simp
 unfold atI;rw[e];show h
def Fq(b:Expr):Prop:=∀o i,subscripted b af o i=operate [o,i] (getItem o i)
def IxR(X:Cx)(r:R2):Prop:=
 ∀(value a:Expr) (U:PNS) (s:ah) (C:St) (H:Hp) (x y:V) (v u:Value) (Q:VK),Inv X U C H s->aD x v->aD y u->r x y H Q ->
  subscripted a af v u=operate [v,u] (getItem v u)->wpAny (model X.prog X.w) X.A (subscriptTail value a v u) (EP X U C Q) X.xe s
def MtR(X:Cx)(id:String)(r:V->LVv->Hp->VK->Prop):Prop:=
 ∀(U:PNS) (s:ah) (C:St) (H:Hp) (x:V) (E:LVv) (v:Value) (us:LVa) (Q:VK),Inv X U C H s->aD x v->aG E us->r x E H Q ->
  wpAny (model X.prog X.w) X.A (call (.builtin id) (v::us)) (EP X U C Q) X.xe s
variable{r r':R2}
def IxR.or(h:IxR X r)(h':IxR X r'):IxR X (λx y H Q=>r x y H Q\/r' x y H Q):=by
 intro value a U s C H x y v u Q I c d q b
 rcases q with q |q
 .show h value a U s C H x y v u Q I c d q b
 .show h' value a U s C H x y v u Q I c d q b
variable{a b:Expr}{ta tb:TE}
def Nj(hr:IxR X r)(ha:PE X a ta)(e:PE X b tb)(f:Fq b):PE X (.Subscript a b pos) (tOp r ta tb):=by
 intro U s C H Q I h;show Subscript_ (xT ha e I h λv u s2 x y c d g i q=>hr a b U s2 C c x y v u Q d g i q (f _ _))
def Nk(K:aQ):R2:=λx y H Q=>∃p E i v,x=.ref p/\y=.int i/\SqL K H p E/\atI E i=aa v/\Q v H
def Nl(K:aQ):R2:=λx y H Q=>∃p E i v,x=.ref p/\y=.int i/\SqT K H p E/\atI E i=aa v/\Q v H
def Nm:IxR X (Nk X.K):=by
 intro value e U s C H x y v u Q I J M h l;have(p,E,i,z,rfl,rfl,G,A,q):=h;subst J;have(t,rfl):=M;have(L,r,c,hz):=I.list G;have(j,a,h2,N,m,n):=Fp A;have(w,f,d):=r.get h2;have B:=r.length;have hn:=qV;have fin:EP X U C Q w s:=(z,H,I,d,q)
 by_cases g:0<=i
 .have b:S i=j:=by
   rw[seqIndex_of g n]at a;show dz a
  show item_listR c.isList g (by lia) (by rw[b];simpa using f) fin l
 .have b:S (i+L.toArray.size)=j:=by
   rw[seqIndex_neg (by lia) m]at a;rw[size_toArray,<- B];show dz a
  show subscriptTail_builtinR c.isList.typeIs slot_list_getitem.lookup
   (wpAny_getItem_list_neg c.isList (by lia) (by rw[size_toArray] <;> lia) (by lia) (by rw[b];simpa using f) (rfl,fin)) l
def Nn:IxR X (Nl X.K):=by
 intro value b U s C H x y v u Q I m n h l;have(p,E,i,z,rfl,rfl,g,f,q):=h;subst m;have(t,rfl):=n;have(L,r,c,hz):=I.tuple g;have(j,e,h2,A,B,G):=Fp f;have(w,d,a):=r.get h2;have hn:=qV;have fin:EP X U C Q w s:=(z,H,I,a,q)
 show subscriptTail_builtinR c.typeIs slot_tuple_getitem.lookup
  (getItem_tuple c (by lia) (by lia) (by rw[size_toArray,<- r.length];show e) (by simpa using d) (rfl,fin)) l
def No(L:LVa)(n j:Nat)(u:Value):hX (·.setIfInBounds j u) {cls:=.type "list",data:=.seq L.toArray n}={cls:=.type "list",data:=.seq (L.set j u).toArray n}:=by
 simp[hX]
variable{U:PNS}{C:St}{H:Hp}{p:Addr}{E:LVv}
def Inv.lst{s:ah}(I:Inv X U C H s)(h:H p=aa (.lst E)):
  ∃(L:LVa) (n:Nat),aG E L/\s.heap.get? p=aa {cls:=.type "list",data:=.seq L.toArray n}/\Z E<=aT:=by
 have(z,L,n,r,e):=I.hok p _ h;show(L,n,r,e,z)
variable{ys:LVv}{L dr:LVa}{n':Nat}
def Inv.lstUpd{s:ah}{f:Obj->Obj}(I:Inv X U C H s)(h:H p=aa (.lst E))
 (d:s.heap.get? p=aa {cls:=.type "list",data:=.seq L.toArray n})(a:f {cls:=.type "list",data:=.seq L.toArray n}={cls:=.type "list",data:=.seq dr.toArray n'})(r:aG ys dr)(hz:Z ys<=aT)(t:Nat):
  Inv X U C (upd H p (.lst ys)) {s with heap:=s.heap.update p f,toks:=t}:=by
 have e:(s.heap.update p f).get? p=aa {cls:=.type "list",data:=.seq dr.toArray n'}:=by
  rw[oM f d (by rw[a] <;> rfl),a]
 show I.write (by rw[h];trivial) (.inl rfl) (λb u c q=>(oK _ _ (eQ c)).trans q) (_,e) (hz,dr,n',r,e)
abbrev yd:V->V->V->Hp->(Hp->Prop)->Prop:=λo i v H Q=>∃p E k j,o=.ref p/\i=.int k/\H p=aa (.lst E)/\ixN E.length k=aa j/\Q (upd H p (.lst (E.set j v)))
def yf:EV X yd:=by
 intro U s C H o i v B A u Q I y x z h;have(p,E,k,j,rfl,rfl,m,w,q):=h;subst y;have(t,rfl):=x;have(L,n,r,d,hz):=I.lst m;have(a,h2,g,l):=Fo w;have c:=r.length;have hn:=qV
 have e:Inv X U C _ {s with heap:=s.heap.update p _}:=
  I.lstUpd m d (No L n j u) (r.set z j) (by rw[iy];show hz) s.toks
 by_cases f:0<=k
 .have b:S k=j:=by
   rw[seqIndex_of f l]at a;show dz a
  show W.ki_setAt d f (by lia) (by rw[size_toArray,<- c];show l) (by rw[b];show(_,e,q))
 .have b:S (k+L.toArray.size)=j:=by
   rw[seqIndex_neg (by lia) g]at a;rw[size_toArray,<- c];show dz a
  show W.ki_setBack d (by lia) (by rw[size_toArray,<- c];show g) (by lia) (by rw[b];show(_,e,q))
def Np(lo hi:Option Int)(n:Nat):(mG lo hi ab n).1=((HT.sIx n 0 lo:Nat):Int)/\(mG lo hi ab n).2.1=((HT.sIx n n hi:Nat):Int)/\(mG lo hi ab n).2.2=1:=by
 show(?_,?_,rfl)
 .cases lo with
  |none=>simp[mG,HT.sIx]
  |some i=>
   simp only[mG,HT.sIx,Option.getD_none]
   grind
 .cases hi with
  |none=>simp[mG,HT.sIx]
  |some i=>
   simp only[mG,HT.sIx,Option.getD_none]
   grind
def Nq(L:LVa)(lo hi:Option Int):slicePick L.toArray lo hi ab=((L.drop (HT.sIx L.length 0 lo)).take (HT.sIx L.length L.length hi-HT.sIx L.length 0 lo)).toArray:=by
 have(a,h2,b):=Np lo hi L.toArray.size;unfold slicePick;rw[a,h2,b]
 simp only[sliceRange_one,pick_run] <;> rfl
abbrev Nr(K:aQ):V->Option Int->Option Int->Hp->VK->Prop:=λx lo hi H Q=>∃a E,x=.ref a/\SqL K H a E/\∀p,H p=ab->Q (.ref p) (upd H p (.lst (qX E lo hi)))
def Nt:SlR X (Nr X.K):=by
 intro U s C H x v vl m lo hi sl Q I j e g i h;have(a,E,rfl,f,q):=h;subst j;have(L,r,d,hz):=I.list f;have c:=r.length;show("list",_,slot_list_getitem.lookup,d.isList.typeIs,?_);show wpAny_getItem_list_slice d.isList e g i .none (by simp) ?_ (by grind);rw[Nq,<- c];show(.ref s.heap.objs.size,_,I.laid (λb l q=>bF _ q) (aM _) ?_,rfl,q _ (I.hok.fresh (aM _)));show(cV (Nh E lo hi) hz,_,0,(r.drop _).take _,cM _ rfl)
abbrev fP:V->Bool
 |.non=>ac
 |.bl _=>ac
 |.int _=>ac
 |.str _=>ac
 | _=>af
abbrev eqV:V->V->Bool
 |.non,.non=>ac
 |.bl a,.bl b=>a==b
 |.bl a,.int b=>(if a then 1 else 0)==b
 |.int a,.bl b=>a==(if b then 1 else 0)
 |.int a,.int b=>a==b
 |.str a,.str b=>a==b
 | _,_=>af
variable{A:ca}{y x:V}{u v:Value}
def Ft{s:ah}(e:aD y u)(c:aD x v)(f:fP y=ac)(d:fP x=ac):cw A s u v (eqV y x):=by
 cases y with
 |non=>
  cases e
  cases x with
  |non=>subst c;show xF _
  |bl b=>subst c;show cw.none_bool b
  |int b=>have(t,rfl):=c;show cw.none_int b t
  |str b=>have(t,rfl):=c;show cw.none_str b t
  | _=>show absurd (d) bM
 |bl a=>
  subst e
  cases x with
  |non=>subst c;show cw.bool_none a
  |bl b=>subst c;show cw.bool_bool a b
  |int b=>have(t,rfl):=c;show cw.bool_int a b t
  |str b=>have(t,rfl):=c;show cw.bool_str a b t
  | _=>show absurd (d) bM
 |int a=>
  have(t',rfl):=e
  cases x with
  |non=>subst c;show cw.int_none a t'
  |bl b=>subst c;show cw.int_bool a t' b
  |int b=>have(t,rfl):=c;show cw.int_int a t' b t
  |str b=>have(t,rfl):=c;show xD a t' b t
  | _=>show absurd (d) bM
 |str a=>
  have(t',rfl):=e
  cases x with
  |non=>subst c;show cw.str_none a t'
  |bl b=>subst c;show cw.str_bool a t' b
  |int b=>have(t,rfl):=c;show xE a t' b t
  |str b=>have(t,rfl):=c;show cw.str_str a t' b t
  | _=>show absurd (d) bM
 | _=>show absurd (f) bM
def eqU(x:V)(u:Value):Bool:=match u with
 |.none=>eqV .non x
 |.bool b=>eqV (.bl b) x
 |.int i _=>eqV (.int i) x
 |.str z _=>eqV (.str z) x
 | _=>af
def Fu(r:aD y u)(f:fP y=ac):eqU x u=eqV y x:=by
 cases y with
 |non=>subst r;rfl
 |bl b=>subst r;rfl
 |int i=>have(t,rfl):=r;rfl
 |str z=>have(t,rfl):=r;rfl
 | _=>show absurd (f) bM
def qY{x:V}:∀{E:LVv} {us:LVa},aG E us->E.all fP=ac->us.any (eqU x)=E.any λy=>eqV y x
 | _,_,.nil,_=>rfl
 |y::E,u::us,.cons r t,f=>by
  rw[mr,b5]at f;rw[gA,gA,Fu r f.1,qY t f.2]
def qZ{A:ca}{s:ah}{x:V}{v:Value}(c:aD x v)(b:fP x=ac):∀{E:LVv} {us:LVa},aG E us->E.all fP=ac->∀u∈us,cw A s u v (eqU x u)
 | _,_,.nil,_=>λu a=>by nomatch a
 |y::E,u::us,.cons r t,f=>λd a=>by
  simp only[mr,b5]at f
  rcases bc.mp a with rfl |a
  .rw[Fu r f.1];show Ft r c f.1 b
  .show qZ c b t f.2 d a
def inV(x:V)(E:LVv):Bool:=E.any λy=>eqV y x
def rIn(K:aQ)(neg:Bool):R2:=λx y H Q=>∃p E,y=.ref p/\(SqL K H p E\/SqT K H p E)/\fP x=ac/\E.all fP=ac/\Q (.bl (if neg then !inV x E else inV x E)) H
def Nu:OpR X (cL .In) (rIn X.K af):=by
 intro U s C H x y v u Q I e f h;have(p,E,rfl,a,d,fs,q):=h;subst f
 rcases a with a |a
 .have(L,r,c,hz):=I.list a;show SeqAt.in_listAt _ c.isList (λw b=>qZ e d r fs w (by simpa using b)) (.bl _,H,I,rfl,?_);rw[show L.toArray.any _=L.any (eqU x) by simp,qY r fs];show q
 .have(L,r,c,hz):=I.tuple a;show SeqAt.in_tupleAt _ c (λw b=>qZ e d r fs w (by simpa using b)) (.bl _,H,I,rfl,?_);rw[show L.toArray.any _=L.any (eqU x) by simp,qY r fs];show q
def Nv:OpR X (cL .NotIn) (rIn X.K ac):=by
 intro U s C H x y v u Q I e f h;have(p,E,rfl,a,d,fs,q):=h;subst f
 rcases a with a |a
 .have(L,r,c,hz):=I.list a;show SeqAt.notIn_listAt _ c.isList (λw b=>qZ e d r fs w (by simpa using b)) (.bl _,H,I,rfl,?_);rw[show L.toArray.any _=L.any (eqU x) by simp,qY r fs];show q
 .have(L,r,c,hz):=I.tuple a;show SeqAt.notIn_tupleAt _ c (λw b=>qZ e d r fs w (by simpa using b)) (.bl _,H,I,rfl,?_);rw[show L.toArray.any _=L.any (eqU x) by simp,qY r fs];show q
def Nw:ie X (.builtin "len") (λE H Q=>∃p ys,E=[.ref p]/\(SqL X.K H p ys\/SqT X.K H p ys)/\Q (.int (Z ys)) H):=by
 intro U s C H E us Q I r h;have(p,ys,rfl,b,q):=h;have(u,rfl,d):=lI r;subst d;have hn:=qV
 rcases b with b |b
 .have(L,r',c,hz):=I.list b;have a:=r'.length;show Calls.call_len_list c.isList (by grind) (.int (Z ys),H,I.tok _,(s.toks+1,by rw[size_toArray,a]),q)
 .have(L,r',c,hz):=I.tuple b;have a:=r'.length;show len_tuple c (by grind) (.int (Z ys),H,I.tok _,(s.toks+1,by rw[size_toArray,a]),q)
def Nx:ie X (.builtin "len") (λE H Q=>∃z,E=[.str z]/\z.length<=aT/\Q (.int z.length) H):=by
 intro U s C H E us Q I r h;have(z,rfl,hz,q):=h;have(u,rfl,t,rfl):=lI r;have hn:=qV;show len_str (by lia) (.int z.length,H,I.tok _,(_,rfl),q)
def Ny:ie X (.type "list") (λE H Q=>∃p ys,E=[.ref p]/\(SqL X.K H p ys\/SqT X.K H p ys)/\∀l,H l=ab->Q (.ref l) (upd H l (.lst ys))):=by
 intro U s C H E us Q I r h;have(p,ys,rfl,c,q):=h;have(u,rfl,i):=lI r;subst i
 have fin:∀L,aG ys L->Z ys<=aT->∀h' a,_ ->
   h'.get? s.heap.objs.size=aa {cls:=.type "list",dict:=ab,data:=.seq L.toArray a,slots:=#[]}->EP X U C Q _ {s with heap:=h'}:=λL r' hz h' a kp e=>
  (.ref s.heap.objs.size,_,I.laid kp (aM _) (show dU X.prog X.w _ h' _ (.lst ys)from(hz,L,a,r',e)),rfl,q _ (I.hok.fresh (aM _)))
 rcases c with c |c
 .have(L,r',g,hz):=I.list c;have b:=r'.length;have(o,f,d,n,hd):=g.isList;show call_list_seq p (.inl rfl) f d hd (λh' a kp e=>fin L r' hz h' a kp e) (by grind)
 .have(L,r',g,hz):=I.tuple c;have b:=r'.length;have(o,f,d,n,hd):=g;show call_list_seq p (.inr rfl) f d hd (λh' a kp e=>fin L r' hz h' a kp e) (by grind)
def tyV(K:aQ)(T:String)(x:V)(H:Hp):Prop:=match x with
 |.str _=>T="str"
 |.int _=>T="int"
 |.ref p=>(T="list" /\ ∃E,SqL K H p E)\/(T="tuple" /\ ∃o,K.lookup p=aa o/\o.cls=.type "tuple" /\ o.dict=ab) \/
   (T="dict" /\ ((∃kvs,H p=aa (.dK kvs))\/∃kvs,H p=aa (.dT kvs)))\/(T="set" /\ ∃S n,H p=aa (.set S n))
 | _=>False
variable{T:String}
def Nz{s:ah}(I:Inv X U C H s)(r:aD x v)(ty:tyV X.K T x H):
  s.TypeIs v T/\∀a,v=.ref a->∃f,s.heap.get? a=aa f/\f.dict=ab:=by
 cases x with
 |str z=>
  have(t,rfl):=r;cases (ty)
  show⟨typeIs_str s z t,λ_ e=>nomatch e⟩
 |int i=>
  have(t,rfl):=r;cases (ty)
  show⟨typeIs_int s i t,λ_ e=>nomatch e⟩
 |ref p=>
  subst r
  rcases ty with⟨rfl,E,j⟩ |⟨rfl,o,b,h,hd⟩ |⟨rfl,b⟩ |⟨rfl,S,n,b⟩
  .have(L,_,g,_):=I.list j;show(g.isList.typeIs,λa e=>?_);cases e;have(o,n,e,c,hd,_):=g;show(o,e,hd)
  .show((o,I.kIn p o b,h),λa e=>?_);cases e;show(o,I.kIn _ o b,hd)
  .have z:∃o,s.heap.get? p=aa o/\o.ExactDict:=by
    rcases b with⟨kvs,b⟩ |⟨kvs,b⟩
    .have(_,_,_,_,o,_,_,e,ex,_):=I.hok p _ b;show(o,e,ex)
    .have(_,_,_,_,o,_,_,e,ex,_):=I.hok p _ b;show(o,e,ex)
   have(o,e,ex):=z;show((o,e,ex.1),λa d=>?_);cases d;show(o,e,ex.2.1)
  .have(o,_,_,_,e,ex,_):=I.hok p _ b;show((o,e,ex.1),λa d=>?_);cases d
   show(o,e,ex.2.1)
 | _=>show gY ty
def tBM(K:aQ)(T:String)(r:V->LVv->Hp->VK->Prop)(to:TE)(t:TA):TE:=λC H Q=>to C H λx a=>tyV K T x a/\t C a λE b=>r x E b Q
variable{es:LEx}{name:Str}{apos cpos:Pos}{r:V->LVv->Hp->VK->Prop}
def jP{o:Expr}{to:TE}{t:TA}{id:String}(pa:PlainAttrs T)(slot:Slot T name id)(f:typeOf (.builtin id)=pure (.type "method_descriptor"))(hm:MtR X id r)(q:PE X o to)(ha:PA X (e::es) t)
 (b:autoParam (oI o name X.env (eval o X.env)=eval o X.env) Zb)
 (d:autoParam (((cf cpos (aO (e::es) X.env)).all (λx=>!x.1) && (iA cpos (iz [] X.env)).all (λx=>x.1.isSome)
   && decide (Z (e::es)+Z ([]:List Keyword)+(if ([]:List Keyword).isEmpty then 0 else 1)<30))=ac) Zb)
 (c:autoParam ((apos.endLine==cpos.line)=ac) Zb)(u:autoParam (StE X e es) Zb)(a:autoParam ((cf cpos (aO es X.env)).any (·.1)=af) Zb):
  PE X (.Call (.Attribute o name apos) (e::es) [] cpos) (tBM X.K T r to t):=by
 intro U s C H Q I h;show wpAny_Call_method_late b d c rfl (thn (q U s C H _ I h) λv s1 z=>?_);have(x,l,g,j,ty,w):=z;have(p,h2):=Nz g j ty;show(T,id,pa,slot,f,p,h2,?_);have i:=ha cpos U s1 C l _ g w;rw[u]at i ⊢
 show xq (by change(af || (cf cpos _).any (·.1))=af;rw[a] <;> rfl) (xr (thn i λus s2 (vs,m,n,A,y)=>hm U s2 C m x vs v us Q n j A y))
def MtM(X:Cx)(id:String)(r:V->LVv->Hp->VK->Prop):Prop:=
 ∀(U:PNS) (s:ah) (C:St) (H:Hp) (x:V) (E:LVv) (v:Value) (us:LVa) (Q:VK),Inv X U C H s->aD x v->aG E us->r x E H Q ->
  wpAny (model X.prog X.w) X.A (call (.builtin id) (v::us)) (EP X U C Q) X.xe s
def aG.one:∀{x:V} {us:LVa},aG [x] us->∃u,us=[u]/\aD x u:=λh=>by
 cases h with
 |cons r h=>
  cases h;show(_,rfl,r)
def aG.two:∀{x y:V} {us:LVa},aG [x,y] us->∃u v,us=[u,v]/\aD x u/\aD y v:=λh=>by
 cases h with
 |cons r h=>
  cases h with
  |cons q h=>
   cases h;show(_,_,rfl,r,q)
def aG.eraseIdx:∀{E:LVv} {us:LVa} (i:Nat),aG E us->aG (E.eraseIdx i) (us.eraseIdx i)
 | _,_,_,.nil=>.nil
 | _,_,0,.cons _ t=>t
 | _,_,i+1,.cons r t=>.cons r (aG.eraseIdx i t)
variable{us:LVa}
def aG.reverse(h:aG E us):aG E.reverse us.reverse:=by
 induction h with
 |nil=>show .nil
 |cons r t a=>rw[i6,i6];show aG.append a (.cons r .nil)
def yg{a:Type}:∀(l:List a) (i:Nat),Z (l.eraseIdx i)<=Z l
 | [],_=>aM _
 | _::_,0=>ka _
 | _::r,i+1=>Nat.succ_le_succ (yg r i)
variable{l:Addr}{t':Nat}
section
variable{s:ah}
def Inv.lset{f:Array Value->Array Value}(I:Inv X U C H s)(a:H l=aa (.lst E))
 (e:s.heap.get? l=aa {cls:=.type "list",data:=.seq L.toArray n})(c:f L.toArray=dr.toArray)(hv:aG ys dr)(hz:Z ys<=aT):
  Inv X U C (upd H l (.lst ys)) {s with heap:=s.heap.update l (hX f),toks:=t'}:=by
 have q:=PySem.IsL.update e f;rw[c]at q;show I.write (by rw[a];show trivial) (.inl rfl) (λg u b d=>(oK s.heap _ (eQ b)).trans d) (_,q) (hz,dr,_,hv,q)
end
section
variable{s:ah}
def Inv.lnew(I:Inv X U C H s)(hv:aG ys L)(hz:Z ys<=aT):
  Inv X U C (upd H s.heap.objs.size (.lst ys)) {s with heap:=s.heap.push {cls:=.type "list",data:=.seq L.toArray},toks:=t'}:=
 I.laid (λ_ _ q=>bF _ q) (aM _) (hz,L,0,hv,cM _ rfl)
end
def Inv.fresh{s:ah}(I:Inv X U C H s):H s.heap.objs.size=ab:=I.hok.fresh (aM _)
def Inv.lstM{s:ah}(I:Inv X U C H s)(a:H l=aa (.lst E)):Z E<=aT/\∃(L:LVa) (n:Nat),aG E L/\Z E=Z L/\s.heap.get? l=aa {cls:=.type "list",data:=.seq L.toArray n}:=by
 have(z,L,n,r,e):=I.hok l _ a;show(z,L,n,r,r.length,e)
def NA(h:n<=aT):EF n=af:=by
 show decide_eq_false (by lia)
abbrev ur:V->LVv->Hp->VK->Prop:=λx vs H Q=>∃l E y,x=.ref l/\vs=[y]/\H l=aa (.lst E)/\Z E<aT/\Q .non (upd H l (.lst (E++[y])))
def yh:MtM X "list.append" ur:=by
 intro U s C H x vs v us Q I c b h;have(l,E,y,rfl,rfl,a,hz,q):=h;subst c;have(u,rfl,ru):=b.one;have(z,L,n,r,d,e):=I.lstM a;show call_meets F.slot_list_append (_,e,rfl) F.entry_list_append (F.args_list_append_2 _ _) (PySem.list_append l L.toArray n u (by rw[size_toArray];lia)) (e,?_);show(.non,_,I.lset a e (by simp) (r.append (.cons ru .nil)) ?_,rfl,q);rw[aS,f6]
 lia
abbrev yi:V->LVv->Hp->VK->Prop:=λx vs H Q=>∃l b E a,x=.ref l/\vs=[.ref b]/\H l=aa (.lst E)/\H b=aa (.lst a)/\Z E+Z a<=aT/\Q .non (upd H l (.lst (E++a)))
def yj:MtM X "list.extend" yi:=by
 intro U s C H x vs v us Q I w p h;have(l,b,E,B,rfl,rfl,f,hB,hz,q):=h;subst w;have(u,rfl,ru):=p.one;subst ru;have(z,L,n,r,y,e):=I.lstM f;have(A,a,j,m,i,g):=I.lstM hB;have d:L.toArray.size+a.toArray.size<=aT:=by grind
 have c:¬(!L.toArray.isEmpty && EF (L.toArray.size+a.toArray.size))=ac:=by
  rw[NA d,tH]
  grind
 show call_meets F.slot_list_extend (_,e,rfl) F.entry_list_extend (F.args_list_extend_2 _ _)
  (AutoSeq1.list_extend_list_list_0 l L.toArray n b a.toArray j c (by grind) (by lia)) (e,g,?_)
 show(.non,_,I.lset f e (by simp) (r.append m) ?_,rfl,q)
 grind
abbrev Fv:V->LVv->Hp->VK->Prop:=λx vs H Q=>∃l E i k y,x=.ref l/\vs=[.int i]/\H l=aa (.lst E)/\-(2 ^ 63)<=i/\i<2 ^ 63/\seqIndex? i (Z E)=aa k/\E[k]?=aa y/\Q y (upd H l (.lst (E.eraseIdx k)))
def NB:MtM X "list.pop" Fv:=by
 intro U s C H x vs v us Q I p m h;have(l,E,i,k,y,rfl,rfl,b,c,h2,d,j,q):=h;subst p;have(u,rfl,ru):=m.one;have(t,rfl):=ru;have(z,L,n,r,f,e):=I.lstM b;have(w,g,a):=r.get j
 show call_meets F.slot_list_pop (_,e,rfl) F.entry_list_pop (F.args_list_pop_2 _ _)
  (MeetsSeq.list_pop_at l L.toArray n i t k w (fitsIndex_both c h2) (by rw[size_toArray,<- f];show d) (by rw[<- qw];show g) (by rw[size_toArray];lia)) (e,?_)
 show(y,_,I.lset b e ?_ (r.eraseIdx k) ?_,a,q)
 .change L.toArray.eraseIdxIfInBounds k=(L.eraseIdx k).toArray;rw[eraseIdxIfInBounds_toArray]
 .have:=yg E k
  lia
def NC:R2:=λx y H Q=>∃l b E a,x=.ref l/\y=.ref b/\H l=aa (.lst E)/\H b=aa (.lst a)/\Z E+Z a<=aT/\∀p,H p=ab->Q (.ref p) (upd H p (.lst (E++a)))
def Fw:OpR X (dO .Add) NC:=by
 intro U s C H x y v u Q I j m h;have(l,b,E,B,rfl,rfl,f,hB,hz,q):=h;subst j;subst m;have(z,L,n,r,p,e):=I.lstM f;have(A,a,w,i,g,c):=I.lstM hB;show PySem.P.add_list e c ?_ (by grind);have d:L.toArray++a.toArray=(L++a).toArray:=by simp
 rw[d];show(.ref _,_,I.lnew (r.append i) (by grind),rfl,q _ I.fresh)
end L2
namespace Att
open List
open PySem PySem.W PySem.Calls PyProof.Rows
variable{P:Params}{h:Heap}
def ND:∀(ns:LI0) (vs:LVa),WellAll P h vs (ns.map WData.int)->f7 vs ns:=by
 intro ns
 induction ns with
 |nil=>
  intro vs w;cases w
  show .nil
 |cons n ns c=>
  intro vs w
  cases w with
  |cons a b=>
   cases a;show .cons _ _ (c _ b)
variable{l:OpenLaw}{n:Nat}{vals:LVa}
def NE(hn:l.most=aa n){args:List WData}
 (b:l.row.toRowW.claim.pre args=ac)(g:WellAll P h vals args):
  ∃a vs ns,vals=[eU a]/\args=[WData.list (ns.map WData.int)]/\h.get? a=aa {cls:=.type "list",data:=.seq vs.toArray}/\f7 vs ns/\Z ns<=n:=by
 have(d,r,rfl,i,h2):=hasAllW_cons ((pre_splitW b).1);obtain rfl:=hasAllW_nil h2;have(E,rfl,j):=hasW_list i;have(ns,rfl):=items_int j
 have e:Z ns<=n:=by
  have f:(WTm.not (.lt (.lit (.int n)) (.len (.arg 0)))).holds [] {args:=[.list (ns.map .int)]}=ac:=by
   have f:=(holds_andW ((pre_splitW b).2)).1;rw[hn]at f;show f
  have u:=condW_of f (w_not (w_lt w_lit (w_len_list (w_arg rfl))))
  grind
 cases g with
 |cons p q=>
  cases q
  cases p with
  |list m c=>show(_,_,ns,rfl,rfl,m,ND ns _ c,e)
def NF(l:OpenLaw)(args:List WData):l.row.toRowW.claim.post args (.bool ac) args=ac:=
 postW_of
  (show WShape.has [] _ .bool=ac by first |rfl |decide |simp[WShape.has])
  (w_eq_bool (w_res rfl) w_lit) rfl
variable{q:ce}{dd:LSt}{XP:MGT->Heap->Prop}{YP:World->Heap->Prop}{d:DefRec}
def attach_call
 (hn:l.most=aa n)(p:d.params.defaults=[])
 (call:∀ (w:World) (s₀ b:ah) (mg mb:MGT) (fa:Addr) (o:Obj) (pm i doc:Value) (a:Addr) (vs:LVa) (ns:LI0),
   Ground q dd [] XP w s₀ mg mb b.heap->YP w b.heap ->
   b.heap.get? fa=aa o->o.data=.func (docDef d.name d.params d.body d.scope pm i doc)->b.heap.CodeRec i d.name->mg d.name=aa (.ref fa) ->
   b.heap.get? a=aa {cls:=.type "list",data:=.seq vs.toArray}->f7 vs ns->Z ns<=n->b.gens=#[] ->
   gD (model l.prog w) callerA (.call (.ref fa) ([.ref a],[])) (λr j=>r=.ok (.ret (.bool ac))/\OldK b.heap j.heap/\j.os=b.os/\ke j.gens) b):
  WalkO q dd XP YP l.row.toRowW d [] (λf vs=>PySem.call f vs):=by
 intro w s₀ b mg mb G Y fa o pm i doc dV kV E hd m x u B args vals as h y I v C;obtain rfl:dV=.none:=Dflts.none x p;obtain rfl:kV=.none:=Dflts.noKw x;have(a,vs,ns,rfl,rfl,g,c,e):=NE hn h v;show enter_call (ly (call w s₀ b mg mb fa o pm i doc a vs ns G Y E (fd_plain hd) m u g c e B) λr j H=>?_);have(rfl,h2,z,A):=H;show(.inl (.bool ac,.bool ac,[],rfl,λ_=>rfl,.bool ac,NF l _,λ_=>(List.Pairwise.nil,λ_ hm=>(nomatch hm))),h2,z,A)
end Att
namespace L2
open List
open PySem PySem.Spec PyProof.Rows
def Fx:∀{vs:LVa} {ns:LI0},f7 vs ns->aG (ns.map V.int) vs
 | _,_,.nil=>.nil
 | _,_,.cons n t h=>.cons (t,rfl) (Fx h)
def ut(H:Hp):Prop:=∀b,H b=ab\/∃o E,H b=aa (.frz o (.lst E))
variable{P:ce}{w:World}{K:aQ}{mg:MGT}{a:Addr}{fd:cW}{x:Str}{ns:LI0}
def NG{mb:MGT}{CX:CXT}{k:Nat}{fa:Addr}{sp:Sp}{c:ah}{vs:LVa}
 (T:K.In c.heap)(B:c.heap.Ns cD mg)(p:c.heap.Ns builtinsNs mb)(J:∀x:Str,x ≠ "__name__" -> mb x=jM x)(A:c.heap.NoLimit)(hg:c.gens=#[])
 (ha:c.heap.get? a=aa {cls:=.type "list",data:=.seq vs.toArray})(hi:f7 vs ns)(hl:Z ns<=aT)(hr:bA k callerA)
 (F:∀base:Heap,K.In base->base.Ns cD mg->cx P w K mg base CX k fa fd [x] sp)(l:∀(s:ah) (u:Value),BindsTo s fd ([u],[]) [(x,u,)])
 (M:∀H:Hp,ut H->SqL K H a (ns.map V.int)->sp [.ref a] H (λv _=>v=.bl ac) λ_ _ _=>False)
 (I:∀H e g,CX [] H c (λ_ _ _=>False) e g->False):
  gD (model P w) callerA (.call (.ref fa) ([.ref a],[])) (λr g=>r=.ok (.ret (.bool ac))/\OldK c.heap g.heap/\g.os=c.os/\ke g.gens) c:=by
 have rv:=Fx hi
 have j:∀H:Hp,ut H->SqL K H a (ns.map V.int)->HOk P w H c.heap->(∀b,H b≠ab->b=a)->(H a≠ab->K.lookup a=ab) ->
   gD (model P w) callerA (.call (.ref fa) ([.ref a],[])) (λr g=>r=.ok (.ret (.bool ac))/\OldK c.heap g.heap/\g.os=c.os/\ke g.gens) c:=by
  intro H U hS hok hA hK;have f:∀{b:Addr} {o:Obj},c.heap.get? b=aa o->H b=ab->(oR c.heap H).get? b=aa o:=λe n=>Ll e n
  have N:∀{b:Addr} {o:Obj} {es:Array DictEntry} {G:Nat},c.heap.get? b=aa o->o.data=.dict es G->H b=ab:=λ{b o es G} e d=>by
   grind
  have i:∀{b:Addr} {m:MGT},c.heap.Ns b m->(oR c.heap H).Ns b m:=λ{b m} (o,es,G,e,d,r)=>(o,es,G,f e (N e d),d,r)
  have y:=λb o e=>f (T b o e) (by
   cases q:H b with
   |none=>rfl
   |some u=>
    have e':=hA b (by grind);subst e';rw[hK (by grind)]at e;nomatch e)
  have hM:Mod K mg _:=(y,i B,(mb,i p,J),let (mc,h1,h2):=A;(mc,i h1,h2));have e0:mV P w K mg _ callerA [] c H:=(rfl,hM,λb o e=>Lm e,Nat.le_of_eq (Lk _ _),trivial,λb p=>absurd (show b∈([]:LAd)from p) (by simp),hok,.of_eq hg);show ly ((F _ y (i B)).run callerA [] c H ([.ref a],[]) _ [.ref a] _ _ hr e0 (l c _) (.cons rfl .nil) (M H U hS)) λr g h=>?_
  cases r with
  |error e=>show(I H e g h).elim
  |ok Y=>
   cases Y with
   |next=>show gY h
   |brk=>show gY h
   |cont=>show gY h
   |ret u=>
    have(v,H',os,bare,un,C,r',q):=h;subst q;obtain rfl:u=iB ac:=r';show(rfl,OldK.of_keep λb o e=>?_,os,bare)
    cases q:H b with
    |none=>show un.keep b o e q (by intro z;show absurd (show b∈([]:LAd)from z) (by simp)) (by simp)
    |some u=>
     rcases U b with z |⟨ob,E,z⟩
     .grind
     .have z2:=un.frzs b ob _ z;have(e1,_):=hok b _ z;have(e2,_):=C b _ z2
      grind
 cases L:K.lookup a with
 |some o=>
  have e:=T a o L;rw[ha]at e;cases e
  show j _ (λ_=>.inl rfl) (.inr (_,vs.toArray,_,L,rfl,rfl,rfl,by rw[size_toArray,hi.length];grind)) (λb u z=>by have Q:_=aa u:=z;nomatch Q) (λb z=>absurd rfl z) λz=>absurd rfl z
 |none=>
  show j (λb=>if b=a then aa _ else ab) (λb=>?_) (.inl (.inr ({cls:=.type "list",data:=.seq vs.toArray},if_pos rfl))) (λb u z=>?_) (λb z=>?_) λ_=>L
  .grind
  .by_cases p:b=a
   .have Q:=(if_pos p).symm.trans z;cases Q;subst p;show(ha,by rw[ay];show hl,vs,_,rv,ha)
   .grind
  .grind
variable{h:Heap}
nonrec def KOf(_:K.In h):aQ:=K
variable{l:W.OpenLaw}{q:ce}{dd:LSt}{XP:MGT->Heap->Prop}{YP:World->Heap->Prop}{d:DefRec}
def NH{n k:Nat}{K:Params->aQ}{CX:World->CXT}{sp:World->Sp}
 (hn:l.most=aa n)(z:n<=aT)(r:d.params.defaults=[])(hr:bA k callerA)
 (L:∀(w:World) (h:Heap),YP w h->(K w.params).In h)
 (F:∀ (w:World) (mg:MGT) (fa:Addr) (h:Heap),(K w.params).In h->h.Ns cD mg->mg d.name=aa (.ref fa) ->
   ∃fd:cW,(∀(s:ah) (u:Value),BindsTo s fd ([u],[]) [(x,u,)]) /\
    ∀base:Heap,(K w.params).In base->base.Ns cD mg->cx l.prog w (K w.params) mg base (CX w) k fa fd [x] (sp w))
 (A:∀(w:World) (H:Hp) (a:Addr) (ns:LI0),Z ns<=n->ut H->SqL (K w.params) H a (ns.map V.int)->sp w [.ref a] H (λv _=>v=.bl ac) λ_ _ _=>False)
 (p:∀(w:World) (H:Hp) (s:ah) (e:Value) (B:ah),CX w [] H s (λ_ _ _=>False) e B->False):
  W.WalkO q dd XP YP l.row.toRowW d [] (λf vs=>PySem.call f vs):=by
 show Att.attach_call hn r λw s₀ m mg mb fa o pm U doc a vs ns G Y ho hd N y j i c Q=>?_;have C:=L w _ Y;have(fd,M,E):=F w mg fa _ C G.T.g y;show NG C G.T.g G.T.b G.T.builtins G.T.nolimit Q j i (cV c z) hr E M (λH I J=>A w H a ns c I J) λH e B=>p w H m e B
variable{CX:CXT}
def walk_ofK{n k:Nat}{K:Params->aQ}{sp:aQ->Sp}
 (hn:l.most=aa n)(g:n<=aT)(c:d.params.defaults=[])(hr:bA k callerA)
 (r:∀(w:World) (h:Heap),YP w h->(K w.params).In h)
 (F:∀ (w:World) (mg:MGT) (fa:Addr) (h:Heap),(K w.params).In h->h.Ns cD mg->mg d.name=aa (.ref fa) ->
   ∃fd:cW,(∀(s:ah) (u:Value),BindsTo s fd ([u],[]) [(x,u,)]) /\
    ∀base:Heap,(K w.params).In base->base.Ns cD mg->cx l.prog w (K w.params) mg base CX k fa fd [x] (sp (K w.params)))
 (i:∀(K:aQ) (H:Hp) (a:Addr) (ns:LI0),Z ns<=n->ut H->SqL K H a (ns.map V.int)->sp K [.ref a] H (λv _=>v=.bl ac) λ_ _ _=>False)
 (b:∀(H:Hp) (s:ah) (e:Value) (j:ah),CX [] H s (λ_ _ _=>False) e j->False):
  W.WalkO q dd XP YP l.row.toRowW d [] (λf vs=>PySem.call f vs):=
 NH hn g c hr r F (λw H a ns m h2 p=>i _ H a ns m h2 p) λ_ H s e j=>b H s e j
def bo(s:Stmt)(j:Nat):Stmt:=match s with
 |.ClassDef _ _ _ body _ _ _ _ _ _ _=>body.getD j (.Pass (0,0,0,0))
 | _=>.Pass (0,0,0,0)
def kz(s:Stmt):Arguments:=match s with
 |.FunctionDef _ a _ _ _ _ _ _ _ _=>a
 | _=>{posonlyargs:=[],args:=[],vararg:=ab,kwonlyargs:=[],kw_defaults:=[],kwarg:=ab,defaults:=[]}
def fQ(s:Stmt):List Stmt:=match s with
 |.FunctionDef _ _ b _ _ _ _ _ _ _=>b
 | _=>[]
def av(s:Stmt):Scope:=match s with
 |.FunctionDef _ _ _ _ _ _ sc _ _ _=>sc
 | _=>{kind:=.function,names:=[],isGenerator:=af,isCoroutine:=af}
nonrec abbrev CX0:CXT:=λ_ _ _ _ _ _=>False
nonrec abbrev E0:XK:=λ_ _ _=>False
variable{X:Cx}
def gf:mW CX0 X E0:=λ_ _ _ _ _ _ _ h=>h.elim
structure Fun(K:aQ)(x qual:Str)(st:Stmt)(f:Addr)(fd:cW):Prop where
 ex:∃(oc:Value) (od:Option Addr) (kV doc pm:Value) (an:Option Addr) (cdv ct:Value) (osl:Array (Option Value)),
  fd=je x qual (kz st) (fQ st) (av st) .none kV doc pm an cdv ct/\K.lookup f=aa (oc,od,.func fd,osl)/\W.codeIn K cdv qual=ac
 kp:gc K (.ref f)=ac
variable{base:Heap}{qual:Str}{st:Stmt}{f:Addr}{N ps:LSt}{sp:Sp}
def Fun.ok{k:Nat}(F:Fun K x qual st f fd)(S:aB N ps (av st))(len:∀vs H Q X4,sp vs H Q X4->Z vs=Z ps)
 (a:∀ (cdv:Value) (A:ca) (outer:List Env) (s:ah) (H:Hp) (vs:LVv) (Q:VK) (X4:XK),bA k (A.deeper (f8 qual (av st) s.heap.objs.size f cdv))->sp vs H Q X4 ->
   ∃t,PSs (iF CX0 P w K mg base N qual (av st) f cdv A outer s H X4).nox (fQ st) t/\t {nx:=λ_ H'=>Q .non H',rt:=Q} (start N vs) H):cx P w K mg base CX0 (k+1) f fd ps sp:=by
 have(oc,od,kV,doc,pm,an,cdv,ct,osl,rfl,d,b):=F.ex;show Fk d b S len λA outer s H vs Q X4 hr c=>?_;have(t,h,q):=a cdv A outer s H vs Q X4 hr c;show(t,h.nox,q)
def Fun.binds(F:Fun K x qual st f fd)
 (h:∀(kV doc pm:Value) (an:Option Addr) (cdv ct:Value) (us:LVa),Z us=Z ps->bindArgs (je x qual (kz st) (fQ st) (av st) .none kV doc pm an cdv ct) (us,[])=pure (ps.zip us)):dW K fd ps []:=by
 have(oc,od,kV,doc,pm,an,cdv,ct,osl,rfl,b,a):=F.ex;show .all (h kV doc pm an cdv ct)
variable{oc:Value}{an:Option Addr}{osl:Array (Option Value)}
def fun_mk{od:Option Addr}{kV doc pm cdv ct:Value}(l:K.lookup f=aa (oc,od,.func (je x qual (kz st) (fQ st) (av st) .none kV doc pm an cdv ct),osl))
 (c:W.codeIn K cdv qual=ac)(k:gc K (.ref f)=ac):Fun K x qual st f (je x qual (kz st) (fQ st) (av st) .none kV doc pm an cdv ct):=((oc,od,kV,doc,pm,an,cdv,ct,osl,rfl,l,c),k)
structure Df(K:aQ)(mg:MGT)(x:Str)(st:Stmt)(ps:LSt)(e:Addr×cW):Prop where
 F:Fun K x x st e.1 e.2
 b:dW K e.2 ps []
 g:mg x=aa (.ref e.1)
structure Dm(K:aQ)(X5:Addr)(x q:Str)(st:Stmt)(ps:LSt)(e:Addr×cW):Prop where
 F:Fun K x q st e.1 e.2
 b:dW K e.2 ps []
 m:qW K X5 x e.1
structure Pk(P:ce)(w:World)(K:aQ)(mg:MGT)(base:Heap)(CX:CXT)(k:Nat)(x:Str)(e:Addr×cW)(ps:LSt)(sp:Sp):Prop where
 ok:cx P w K mg base CX k e.1 e.2 ps sp
 g:mg x=aa (.ref e.1)
 kp:gc K (.ref e.1)=ac
 b:dW K e.2 ps []
structure Pm(P:ce)(w:World)(K:aQ)(mg:MGT)(base:Heap)(CX:CXT)(k:Nat)(X5:Addr)(x:Str)(e:Addr×cW)(ps:LSt)(sp:Sp):Prop where
 ok:cx P w K mg base CX k e.1 e.2 ps sp
 c:Cls K X5
 m:qW K X5 x e.1
 b:dW K e.2 ps []
variable{e:Addr×cW}
def Df.pk{k:Nat}(X4:Df K mg x st ps e)(o:cx P w K mg base CX k e.1 e.2 ps sp):Pk P w K mg base CX k x e ps sp:=(o,X4.g,X4.F.kp,X4.b)
variable{q:Str}{X5:Addr}
def Dm.pk{k:Nat}(X4:Dm K X5 x q st ps e)(c:Cls K X5)(o:cx P w K mg base CX k e.1 e.2 ps sp):Pm P w K mg base CX k X5 x e ps sp:=(o,c,X4.m,X4.b)
structure Dq(K:aQ)(x:Str)(st:Stmt)(f:Addr)(fd:cW):Prop where
 a:d6 K cD x=aa (aa (.ref f))
 F:Fun K x x st f fd
structure Dp(K:aQ)(X5:Addr)(x q:Str)(st:Stmt)(f:Addr)(fd:cW):Prop where
 a:cq K (.ref X5) x=aa (aa (.ref f))
 i:W.isFn K (.ref f)=ac
 F:Fun K x q st f fd
nonrec abbrev uu(x q:Str)(st:Stmt)(ps:LSt):Prop:=∀(kV doc pm:Value) (an:Option Addr) (cdv ct:Value) (us:LVa),Z us=Z ps->bindArgs (je x q (kz st) (fQ st) (av st) .none kV doc pm an cdv ct) (us,[])=pure (ps.zip us)
def Dq.mk2(d:Dq K x st f fd)(X:K.In h)(G:h.Ns cD mg)(b:autoParam (uu x x st ps) Zk):Df K mg x st ps (f,fd,):=(d.F,d.F.binds b,km X G d.a)
def Dp.mk2(d:Dp K X5 x q st f fd)(b:autoParam (uu x q st ps) Zk):Dm K X5 x q st ps (f,fd,):=(d.F,d.F.binds b,(d.a,d.i,d.F.kp))
def Dq.bt{p:Str}(d:Dq K x st f fd)(b:uu x x st [p])(s:ah)(v:Value):BindsTo s fd ([v],[]) [(p,v,)]:=by
 have(oc,od,kV,doc,pm,an,cdv,ct,osl,rfl,c,a):=d.F.ex;show .of_eq (b kV doc pm an cdv ct [v] rfl)
variable{n:Nat}
def Fy(h:n<=1000):n<aT:=lr h (by decide)
variable{pos:Pos}
def pv(i:Nat)(b:autoParam (X.N[i]?=aa x) Zb)(hv:autoParam (Vis X.env.scope x) Ze)(hd:autoParam (NDb x) Zc)
 (a:autoParam (NCd x) Zc):PE X (.Name x pos) (cX i):=mR b hv hd a
def aq(H H':Hp):Prop:=∀b o,H b=aa o->H' b=aa o
def aq.refl(H:Hp):aq H H:=λ_ _ h=>h
variable{H H1 H2:Hp}
def aq.trans(a:aq H H1)(b:aq H1 H2):aq H H2:=λc o h=>b c o (a c o h)
variable{H':Hp}{l:Addr}
def aq.free(e:aq H H')(h:H' l=Option.none):H l=Option.none:=by
 cases q:H l with
 |none=>rfl
 |some o=>
  rw[e l o q]at h
  nomatch h
def aq.seq{E:LVv}(e:aq H H')(h:SqL K H a E):SqL K H' a E:=by
 rcases h with(h |⟨o,h⟩) |h
 .show .inl (.inl (e _ _ h))
 .show .inl (.inr (o,e _ _ h))
 .show .inr h
section
variable{κ:Type}[DecidableEq κ]
def cO(kvs:List (κ×V))(k:κ):Option V:=(kvs.find? λa=>decide (a.1=k)).map (·.2)
abbrev dP(kvs:List (κ×V))(k:κ)(v:V):List (κ×V):=
 if (kvs.any λa=>decide (a.1=k))=ac then kvs.map (λa=>if a.1=k then (a.1,v,) else a) else kvs++[(k,v,)]
def q5{p:κ×V}{r:List (κ×V)}{k:κ}(e:p.1=k):cO (p::r) k=aa p.2:=by simp[cO,find?_cons,e]
def oU{p:κ×V}{r:List (κ×V)}{k:κ}(e:¬p.1=k):cO (p::r) k=cO r k:=by simp[cO,find?_cons,e]
def uv(k:κ):∀kvs:List (κ×V),(kvs.any λa=>decide (a.1=k))=(cO kvs k).isSome
 | []=>rfl
 |p::r=>by
  rw[gA]
  by_cases e:p.1=k
  .simp only[q5 e,decide_eq_true e,Bool.true_or,Option.isSome_some]
  .rw[oU e,decide_eq_false e,Bool.false_or];show uv k r
def ym(kvs:List (κ×V))(k:κ)(v:V):Z (dP kvs k v)<=Z kvs+1:=by
 unfold dP;split
 .rw[ay];lia
 .simp only[aS,cv,length_nil];lia
def eV.isSome_eq{o:Option V}{u:Option Value}(r:eV o u):o.isSome=u.isSome:=by
 cases o with
 |none=>cases u with
  |none=>rfl
  |some _=>show(r).elim
 |some _=>cases u with
  |none=>show(r).elim
  |some _=>rfl
def eV.getD{o:Option V}{u:Option Value}{d:V}{d':Value}(r:eV o u)(rd:aD d d'):aD (o.getD d) (u.getD d'):=by
 cases o with
 |none=>cases u with
  |none=>show rd
  |some _=>show(r).elim
 |some _=>cases u with
  |none=>show(r).elim
  |some _=>show r
def KV.val{kvs:List (κ×V)}{vs:List (κ×Value)}(r:KV kvs vs)(k:κ):eV (cO kvs k) (valueAt vs k):=by
 induction r with
 |nil=>show iE
 | @cons p q ps a h t d=>
  have(c,h2):=h
  by_cases e:p.1=k
  .have e':=c.symm.trans e;have b:valueAt (q::a) k=aa q.2:=by simp[valueAt,e']
   rw[q5 e,b];show h2
  .have e':¬q.1=k:=λz=>e (c.trans z);have b:valueAt (q::a) k=valueAt a k:=by simp[valueAt,e']
   rw[oU e,b];show d
def KV.any{kvs:List (κ×V)}{vs:List (κ×Value)}(r:KV kvs vs)(k:κ):(kvs.any λa=>decide (a.1=k))=vs.any λa=>decide (a.1=k):=by
 induction r with
 |nil=>rfl
 |cons h t b=>simp only[gA,gA,b,h.1]
def KV.repl{kvs:List (κ×V)}{vs:List (κ×Value)}(r:KV kvs vs)(k:κ){y:V}{u:Value}(d:aD y u):
  KV (kvs.map λa=>if a.1=k then (a.1,y,) else a) (vs.map λa=>if a.1=k then (a.1,u,) else a):=by
 induction r with
 |nil=>show .nil
 | @cons p q ps f h t c=>
  rw[bE,bE];show .cons ?_ c;have(b,h2):=h
  by_cases e:p.1=k
  .rw[if_pos e,if_pos (b.symm.trans e)];show(b,d)
  .rw[if_neg e,if_neg (λz=>e (b.trans z))];show(b,h2)
def KV.put{kvs:List (κ×V)}{vs:List (κ×Value)}(r:KV kvs vs)(k:κ){y:V}{u:Value}(a:aD y u):KV (dP kvs k y) (stored vs k u):=by
 unfold dP stored;rw[r.any k]
 by_cases e:(vs.any λb=>decide (b.1=k))=ac
 .rw[if_pos e,if_pos e];show r.repl k a
 .rw[if_neg e,if_neg e];show hV.snoc r (rfl,a)
def KV.length{kvs:List (κ×V)}{vs:List (κ×Value)}(r:KV kvs vs):Z kvs=Z vs:=oO r
end
variable{u:Value}
def uw{k:Key}(r:aD (kV k) u):(lG P w).is k u=ac:=by
 cases k with
 |inl i=>have(t,e):=(r);subst e;show Ld P w i t
 |inr x=>have(t,e):=(r);subst e;show Le P w x t
nonrec abbrev KT(H:Hp):List (List Key×V)->List (List Key×Addr×Value)->Prop:=hV λp q=>p.1=q.1/\fE H q.2.1 p.1/\aD p.2 q.2.2
variable{kvs:List (List Key×V)}{E:List (List Key×Addr×Value)}
def KT.val(r:KT H kvs E)(k:List Key):eV (cO kvs k) ((atKey E k).map (·.2)):=by
 induction r with
 |nil=>show iE
 | @cons p q ps a h t d=>
  have(c,_,h2):=h
  by_cases e:p.1=k
  .have e':=c.symm.trans e;have b:atKey (q::a) k=aa q.2:=by simp[atKey,e']
   rw[q5 e,b];show h2
  .have e':¬q.1=k:=λz=>e (c.trans z);have b:atKey (q::a) k=atKey a k:=by simp[atKey,e']
   rw[oU e,b];show d
variable{y:V}
def KT.repl(r:KT H kvs E)(k:List Key)(f:aD y u):
  KT H (kvs.map λb=>if b.1=k then (b.1,y,) else b) (E.map (putAt k u)):=by
 induction r with
 |nil=>show .nil
 | @cons p q ps g h t d=>
  rw[bE,bE];show .cons ?_ d;have(a,h2,c):=h;unfold putAt
  by_cases e:p.1=k
  .rw[if_pos e,if_pos (a.symm.trans e)];show(a,h2,f)
  .rw[if_neg e,if_neg (λz=>e (a.trans z))];show(a,h2,c)
variable{b:Addr}
def KT.put(r:KT H kvs E)(k:List Key)(c:fE H b k)(a:aD y u):
  KT H (dP kvs k y) (storedH E k b u):=by
 have e:(kvs.any λd=>decide (d.1=k))=(atKey E k).isSome:=by
  rw[uv,(r.val k).isSome_eq,Option.isSome_map]
 unfold dP storedH;rw[e]
 by_cases q:(atKey E k).isSome=ac
 .rw[if_pos q,if_pos q];show r.repl k a
 .rw[if_neg q,if_neg q];show hV.snoc r (rfl,c,a)
def KT.keeps(r:KT H kvs E)(c:∀b a,H b=aa (.tup a)->H' b=aa (.tup a)):KT H' kvs E:=
 hV.mapP r λ_ _ z=>(z.1,z.2.1.up c,z.2.2)
def Fz{u:HO}(ok:HOk P w H h)(e:Rd H a u):dU P w H h a u:=e.ok ok
def oV{kvs:List (Key×V)}(ok:HOk P w H h)(e:Rd H a (.dK kvs)):Z kvs<=aT/\(a==hE)=af/\∃vs,KV kvs vs/\h.DictOf (lG P w) a vs:=
 show dU P w H h a (.dK kvs)from Fz ok e
def FA{kvs:List (Key×V)}(ok:HOk P w H h)(e:H a=aa (.dK kvs)):Z kvs<=aT/\(a==hE)=af/\∃vs,KV kvs vs/\h.DictOf (lG P w) a vs:=oV ok (.inl e)
variable{ks:List Key}
def oW(ok:HOk P w H h)(e:fE H a ks):(tupleKind (mQ P w)).is h ks a:=by
 have(vs,e,d):=e;have(_,L,r,o,b,h2,n,c):=(show dU P w H h a (.tup vs)from ok a _ e);show(o,L.toArray,n,b,h2,c,by simpa using EL d r)
def oX(ok:HOk P w H h)(e:Rd H a (.dT kvs)):Z kvs<=aT/\(a==hE)=af /\
  ∃E,KT H kvs E/\h.DictOfH (tupleKind (mQ P w)) a E:=by
 have(z,y,E,r,o,es,d,f,h2,g,i,j):=(Fz ok e);show(z,y,E,r,o,es,d,f,h2,g,i,λx b=>?_,j)
 have all:∀{l:List _} {m:List _},KT H l m->∀x∈m,(tupleKind (mQ P w)).is h x.1 x.2.1:=by
  intro l m q
  induction q with
  |nil=>intro x b;show nomatch b
  | @cons p q ps u c t n=>
   intro x b
   rcases bc.mp b with e |b
   .subst e;show oW ok (by rw[<- c.1];show c.2.1)
   .show n x b
 show all r x b
def FB(ok:HOk P w H h)(e:H a=aa (.dT kvs)):Z kvs<=aT/\(a==hE)=af /\
  ∃E,KT H kvs E/\h.DictOfH (tupleKind (mQ P w)) a E:=oX ok (.inl e)
def fR(H:Hp)(a:Addr)(y:V)(r:Option V):Prop:=
 (∃kvs k,Rd H a (.dK kvs)/\y=kV k/\r=cO kvs k)\/∃kvs k b,Rd H a (.dT kvs)/\y=.ref b/\fE H b k/\r=cO kvs k
def lJ(H:Hp)(a:Addr)(y v:V)(H':Hp):Prop:=
 (∃kvs k,H a=aa (.dK kvs)/\y=kV k/\Z kvs<aT/\H'=upd H a (.dK (dP kvs k v))) \/
 ∃kvs k b,H a=aa (.dT kvs)/\y=.ref b/\fE H b k/\Z kvs<aT/\H'=upd H a (.dT (dP kvs k v))
def fR.k{kvs:List (Key×V)}{k:Key}(e:H a=aa (.dK kvs)):fR H a (kV k) (cO kvs k):=.inl (kvs,k,.inl e,rfl,rfl)
def fR.t{k:List Key}(e:H a=aa (.dT kvs))(c:fE H b k):fR H a (.ref b) (cO kvs k):=.inr (kvs,k,b,.inl e,rfl,c,rfl)
variable{v:V}
def lJ.k{kvs:List (Key×V)}{k:Key}(e:H a=aa (.dK kvs))(b:Z kvs<aT):lJ H a (kV k) v (upd H a (.dK (dP kvs k v))):=.inl (kvs,k,e,rfl,b,rfl)
def lJ.t{k:List Key}(e:H a=aa (.dT kvs))(c:fE H b k)(d:Z kvs<aT):
  lJ H a (.ref b) v (upd H a (.dT (dP kvs k v))):=.inr (kvs,k,b,e,rfl,c,d,rfl)
variable{U:PNS}{C:St}
def Inv.big{s:ah}(I:Inv X U C H s):hE<s.heap.objs.size:=by
 show mw (by decide) ((I.mod.glob.keeps I.bk).lt)
variable{A:ca}{X4 Q:PRS}
def NI{s:ah}(G:A.units+1<cLine)(I:Inv X U C H s)(g:fR H a y (aa v))(q:aD y u)(h:∀f r,Inv X U C H r->aD v f->Q f r):
  wpAny (model X.prog X.w) A (getItem (.ref a) u) Q X4 s:=by
 rcases g with⟨kvs,k,e,j,l⟩ |⟨kvs,k,b,e,j,x,l⟩
 .subst j;have(z,hd,vs,c,i):=oV I.hok e;have(f,n,d):=eV.some_of (by rw[l];show c.val k);show wpAny_getItem_of (uw q) i.mapOf n (h f _ (I.tok _) d)
 .subst j;cases (q);have(z,hd,E,c,i):=oX I.hok e;have(f,n,d):=eV.some_of (by rw[l];show c.val k);have(p,B,m):=Option.map_eq_some_iff.mp n;show wpAny_getItem_heap (qN G) (oW I.hok x) i B ?_;rw[m];show h f _ (I.tok _) d
def NJ{s:ah}{o:Option V}(n:A.units+1<cLine)(I:Inv X U C H s)(g:fR H a y o)(i:aD y u)(h:∀j,Inv X U C H j->Q (.bool o.isSome) j):
  wpAny (model X.prog X.w) A (cL .In u (.ref a)) Q X4 s:=by
 rcases g with⟨kvs,k,e,f,l⟩ |⟨kvs,k,b,e,f,m,l⟩
 .subst f;have(z,hd,vs,c,d):=oV I.hok e;show wpAny_in_of (uw i) hd d.mapOf ?_;rw[<- (c.val k).isSome_eq,<- l];show h _ (I.tok _)
 .subst f;cases (i);have(z,hd,E,c,d):=oX I.hok e;show wpAny_in_heap (qN n) (oW I.hok m) hd d ?_;have q:=(c.val k).isSome_eq;rw[Option.isSome_map]at q;rw[<- q,<- l];show h _ (I.tok _)
variable{h':Heap}{t':Nat}
section
variable{s:ah}
def yn{c:HO}(I:Inv X U C H s)(g:Mut (H a))(f:gb a s.heap h')(e:∃q,h'.get? a=aa q)(new:dU X.prog X.w (upd H a c) h' a c):
  Inv X U C (upd H a c) {s with heap:=h',toks:=t'}:=
 I.write g (.inl rfl) (λb q d z=>(f.2 b d).trans z) e new
end
def NK{kvs:List (Key×V)}{vs:List (Key×Value)}(z:Z kvs<=aT)(hd:(a==hE)=af)(b:KV kvs vs)(c:h'.DictOf (lG P w) a vs):
  dU P w H' h' a (.dK kvs):=(z,hd,vs,b,c)
variable{r:Value}
def NL{s:ah}{Q:Unit->ah->Prop}(hu:A.units+1<cLine)(I:Inv X U C H s)(g:lJ H a y v H')(L:aD y u)(J:aD v r)(h:∀M,Inv X U C H' M->Q () M):
  wpAny (model X.prog X.w) A (setItem (.ref a) u r) Q X4 s:=by
 rcases g with⟨kvs,k,e,n,l,m⟩ |⟨kvs,k,b,e,n,B,l,m⟩
 .subst n m;have(z,hd,vs,d,j):=FA I.hok e;have hz:Z vs<=aT:=by rw[<- d.length];show z
  have p:Z (dP kvs k v)<=aT:=by have:=ym kvs k v;lia
  show wpAny_setItem_pairs (uw L) j λh' f x=>h _ ?_;have he:∃q,h'.get? a=aa q:=let (q,_,_,i,_):=f;(q,i);show yn I (by rw[e];show iE) x he (NK p hd (d.put k J) f)
 .subst n m;cases (L);have(z,hd,E,d,j):=FB I.hok e;have hz:Z E<=aT:=by rw[<- oO d];show z
  have p:Z (dP kvs k v)<=aT:=by have:=ym kvs k v;lia
  show wpAny_setItem_heap (qN hu) (oW I.hok B) j λh' f x=>h _ ?_;have(q,es,N,i,h2,T,Y,_,h5):=f;show yn I (by rw[e];show iE) x (q,i) (p,hd,_,(d.put k B J).keeps λc ys G=>?_,q,es,N,i,h2,T,Y,h5);rw[aL (EM G e (λz=>nomatch z))];show G
def q9(i:Expr):Prop:=∀b a,subscripted i af b a=operate [b,a] (getItem b a)
variable{prog:ce}{env:Env}{value:Expr}
def NM{s:ah}{a:Expr}{T id:String}
 (l:mH (.type T) "__getitem__"=pure (aa (.builtin id)))(m:q9 a)
 (h:wpAny (model prog w) A (eval value env) (λo d=>wpAny (model prog w) A (eval a env) (λi b=>b.TypeIs o T/\wpAny (model prog w) A (getItem o i) Q X4 b) X4 d) X4 s):
  wpAny (model prog w) A (eval (.Subscript value a pos) env) Q X4 s:=by
 show Subscript_ (fM h (λo d f=>fM f (λi b c=>?_) λ_ _ x=>x) λ_ _ x=>x);have(j,c):=c;show ak ?_;show ak (tV j l ?_)
 have fin:wpAny (model prog w) A (subscripted a af o i) (λr e=>wpAny (model prog w) A (letTemporaryGo value o r >>= λ_=>pure r) Q X4 e) X4 b:=by
  rw[m o i];show wpAny_operating (fM c (λr e g=>ak (wpAny_letTemporaryGo (aE g))) λ_ _ x=>x)
 first
  |show aE (ak fin)
  |show ak _
  |show ak fin
def NN{s:ah}{o:Option V}(I:Inv X U C H s)(g:fR H a y o):s.TypeIs (.ref a) "dict":=by
 rcases g with⟨kvs,k,e,_,_⟩ |⟨kvs,k,b,e,_,_,_⟩
 .have(_,_,vs,_,c):=oV I.hok e;show c.typeIs
 .have(_,_,E,_,c):=oX I.hok e;show c.typeIs
def NO(b ty:TE):TE:=λC H Q=>b C H λx H1=>ty C H1 λy H2=>∃a v,x=.ref a/\fR H2 a y (aa v)/\Q v H2
def NP(ty b:TE):TE:=λC H Q=>ty C H λy H1=>b C H1 λx H2=>∃a o,x=.ref a/\fR H2 a y o/\Q (.bl o.isSome) H2
def yo(d ty e:TE):TS:=λD C H=>e C H λv H1=>d C H1 λx H2=>ty C H2 λy c=>∃a b,x=.ref a/\lJ c a y v b/\D.nx C b
variable{i:Expr}{td:TE}
def yp{o:Expr}{ty:TE}(l:X.A.units+1<cLine)(f:PE X o td)(hi:PE X i ty)(j:q9 i):PE X (.Subscript o i pos) (NO td ty):=by
 intro U s C H Q I h;show NM PySem.F.slot_dict_getitem.lookup j (thn (f U s C H _ I h) λu s1 (x,H1,d,q,m)=>thn (hi U s1 C H1 _ d m) λw s2 p=>?_);have(y,H2,c,r,a,v,ex,g,n):=p;subst ex;obtain rfl:u=eU a:=q;show(NN c g,NI l c g r λB z e b=>(v,H2,e,b,n))
def NQ{o:Expr}{ty:TE}(f:X.A.units+1<cLine)(hi:PE X i ty)(e:PE X o td):PC X .In i o (NP ty td):=by
 intro U s C H Q I h;show thn (hi U s C H _ I h) λr s1 (y,H1,b,q,l)=>thn (e U s1 C H1 _ b l) λu s2 n=>?_;have(x,H2,c,p,a,j,ex,g,m):=n;subst ex;obtain rfl:u=eU a:=p;show NJ f c g q λv d=>(.bl j.isSome,H2,d,rfl,m)
variable{b4:Pos}{tv:TE}
def FC{o:Expr}{ty:TE}(m:X.A.units+1<cLine)(j:PE X o td)(hi:PE X i ty)(hv:PE X value tv)(l:f9 value (aa (.Subscript o i b4)) pos.line X.env=pure af):
  PS X (.Assign [.Subscript o i b4] value pos) (yo td ty tv):=by
 intro U s C H D I h;show wpAny_Assign_Subscript (thn (hv U s C H _ I h) λr s1 (v,H1,c,z,n)=>thn (j U s1 C H1 _ c n) λu s2 (x,H2,d,B,p)=>thn (hi U s2 C H2 _ d p) λJ L w=>?_) l;have(y,G,e,E,a,b,ex,g,q):=w;subst ex;obtain rfl:u=eU a:=B;show NL m e g E z λM f=>(C,b,f,q)
def NR(h:Heap)(a:hE<h.objs.size):dU P w H (h.push {cls:=.type "dict",data:=.dict #[]}) h.objs.size (.dK []):=
 (cj _,beq_eq_false_iff_ne.mpr (eQ (bW a)),[],.nil,Heap.DictOf.new h)
def NS(h:Heap)(a:hE<h.objs.size):dU P w H (h.push {cls:=.type "dict",data:=.dict #[]}) h.objs.size (.dT []):=
 (cj _,beq_eq_false_iff_ne.mpr (eQ (bW a)),[],.nil,_,#[],0,cM _ rfl,(rfl,rfl,rfl),rfl,rfl,fA)
def FD:TE:=λ_ H Q=>∀p,H p=ab->Q (.ref p) (upd H p (.dK []))
def NT:TE:=λ_ H Q=>∀p,H p=ab->Q (.ref p) (upd H p (.dT []))
def NU:PE X (.Dict [] [] pos) FD:=λU s C H Q I h=>
 wpAny_Dict_empty (.ref s.heap.objs.size,_,I.laid (λ_ _ q=>bF _ q) (aM _) (NR s.heap I.big),rfl,h _ (I.hok.fresh (aM _)))
def NV:PE X (.Dict [] [] pos) NT:=λU s C H Q I h=>
 wpAny_Dict_empty (.ref s.heap.objs.size,_,I.laid (λ_ _ q=>bF _ q) (aM _) (NS s.heap I.big),rfl,h _ (I.hok.fresh (aM _)))
structure M2(X:Cx)(o:Expr)(m:Str)(apos:Pos)(e f:Expr)(cpos:Pos):Prop where
 base:oI o m X.env (eval o X.env)=eval o X.env
 few : ((cf cpos (aO [e,f] X.env)).all (λx=>!x.1) && (iA cpos (iz [] X.env)).all (λx=>x.1.isSome)
  && decide (Z ([e,f]:LEx)+Z ([]:List Keyword)+(if ([]:List Keyword).isEmpty then 0 else 1)<30))=ac
 line:(apos.endLine==cpos.line)=ac
 trees:cf cpos (aO [e,f] X.env)=[(af,eval e X.env,),(af,eval f X.env,)]
def IsD(H:Hp)(a:Addr):Prop:=(∃kvs,Rd H a (.dK kvs))\/∃kvs,Rd H a (.dT kvs)
def FE{s:ah}(I:Inv X U C H s)(d:IsD H a):
  s.TypeIs (.ref a) "dict" /\ (∀b,eU a=.ref b->∃c,s.heap.get? b=aa c/\c.dict=ab)/\(a==hE)=af:=by
 rcases d with⟨kvs,e⟩ |⟨kvs,e⟩
 .have(_,hd,vs,_,f):=oV I.hok e;show(f.typeIs,λb q=>?_,hd);cases q;have(c,_,_,g,h2,_):=f;show(c,g,h2.2.1)
 .have(_,hd,E,_,f):=oX I.hok e;show(f.typeIs,λb q=>?_,hd);cases q;have(c,_,_,g,h2,_):=f;show(c,g,h2.2.1)
variable{d:V}
def NW{s:ah}{o:Option V}(q:A.units+1<cLine)(I:Inv X U C H s)(g:fR H a y o)(j:aD y u)(rd:aD d r)(h:∀n m,Inv X U C H m->aD (o.getD d) n->Q n m):
  wpAny (model X.prog X.w) A (call (.builtin "dict.get") [.ref a,u,r]) Q X4 s:=by
 rcases g with⟨kvs,k,e,i,l⟩ |⟨kvs,k,b,e,i,p,l⟩
 .subst i;have(z,hd,vs,c,f):=oV I.hok e;show call_meetsIn xC f.typeIs PySem.F.entry_dict_get (PySem.F.args_dict_get_3 _ _ _) (meets_dict_get_default _ a (uw j) hd r) (_,f.mapOf,h _ _ (I.tok _) ?_);rw[l];show(c.val k).getD rd
 .subst i;cases (j);have(z,hd,E,c,f):=oX I.hok e;show call_meetsIn xC f.typeIs PySem.F.entry_dict_get (PySem.F.args_dict_get_3 _ _ _) (meetsH_dict_get_default _ a b hd r) (qN q,k,E,oW I.hok p,f,h _ _ (I.tok _) ?_);rw[l];show(c.val k).getD rd
def NX(td ty c:TE):TE:=λC H Q=>td C H λx H1=>∃a,x=.ref a/\IsD H1 a/\ty C H1 λy H2=>c C H2 λz b=>∃o,fR b a y o/\Q (o.getD z) b
variable{e f:Expr}{apos cpos:Pos}{tx:TE}
def yq{o:Expr}{ty:TE}(v:X.A.units+1<cLine)(r:PE X o td)(p:PE X e ty)(q:PE X f tx)(m:M2 X o "get" apos e f cpos):PE X (.Call (.Attribute o "get" apos) [e,f] [] cpos) (NX td ty tx):=by
 intro U s C H Q I h;show wpAny_Call_method m.base m.few m.line PySem.F.plainAttrs_dict xC PySem.F.type_dict_get (thn (r U s C H _ I h) λu s1 G=>?_);have(x,H1,c,J,a,ex,d,w):=G;subst ex;obtain rfl:u=eU a:=J;have(t1,N,_):=FE c d;show(t1,N,?_);rw[m.trees]
 show xq rfl (xr (jb (thn (p U s1 C H1 _ c w) λY s2 (y,H2,j,L,B) =>
  jb (thn (q U s2 C H2 _ j B) λT s3 (z,i,l,M,ov,g,E)=>xu ?_))))
 show NW v l g L M λw' s4 n b=>(_,i,n,b,E)
section
variable{κ:Type}[DecidableEq κ]
end
end L2
set_option maxHeartbeats 4000000
namespace L2
open List
open PySem
def yr{env:Env}(f:(Str×ga)->List (Str×Addr)->Sem (ForInStep (List (Str×Addr))))
 (i:∀n k r,k≠fO->f (n,k,) r=pure (.yield r))
 (h2:∀n r c,env.cells.lookup n=aa c->f (n,.free,) r=pure (.yield ((n,c,)::r))):
  ∀(l:List (Str×ga)) (a:List (Str×Addr)),(∀x∈l,x.2=.free->∃c,env.cells.lookup x.1=aa c) ->
   (∀x c,a.lookup x=aa c->env.cells.lookup x=aa c) ->
   ∃cl,forIn l a f=(pure cl:Sem _)/\(∀x c,cl.lookup x=aa c->env.cells.lookup x=aa c) /\
    (∀x,((∃c,a.lookup x=aa c)\/(x,fO,)∈l)->∃c,cl.lookup x=aa c)
 | [],a,_,ha=>(a,rfl,ha,λx d=>d.elim id (λz=>nomatch z))
 |(n,k,)::l,a,hl,ha=>by
  have b:=λx d=>hl x (bi _ d)
  by_cases u:k=.free
  .subst u;have(c,p):=hl _ az rfl;have q:=p
   have h:∀x g,((n,c,)::a).lookup x=aa g->env.cells.lookup x=aa g:=λx g d=>by
    grind
   have(cl,e,j,m):=yr f i h2 l _ b h
   grind
  .have(cl,e,j,m):=yr f i h2 l a b ha
   grind
variable{scope:Scope}{env:Env}
def FF(h:∀x∈scope.names,x.2=.free->∃c,env.cells.lookup x.1=aa c):
  ∃cl,closureFor scope env=pure cl/\(∀x c,cl.lookup x=aa c->env.cells.lookup x=aa c)/\(∀x,(x,fO,)∈scope.names->∃c,cl.lookup x=aa c):=by
 have (cl,e,b,d):=yr (λx r=>(match x with
   |(name,kind)=>if (kind==fO)=ac then (do let a <- cellOf env name;pure (oi ((name,a,)::r))) else (pure (oi r):Sem _)))
  (λn k r g=>by
   have:(k==fO)=af:=by simpa using g
   simp only[this,Bool.false_eq_true,if_false])
  (λn r c f=>by
   simp only[beq_self_eq_true,if_true,cellOf,f,pure_bind])
  scope.names [] h (λx c z=>by nomatch z)
 show(cl,?_,b,λx i=>d x (.inr i));show(congrArg _ ?_).trans ((congrArg (λt=>t >>= pure) e).trans (pure_bind _ _));rfl
nonrec abbrev E00:Value->ah->Prop:=λ_ _=>False
variable{prog:ce}{w:World}{A:ca}{R:Result->ah->Prop}{c5 iter:Expr}{c3:LEx}{pos:Pos}
section
variable{s:ah}
def NY{a:Expr}{it u:Value}(I:Nat->ah->Prop)
 (C:∀ n s,I n s->wpAny (model prog w) A (hU it) (λr d=>match r with
   |none=>R (.ok .next) d
   | some v=>wpAny (model prog w) A (letOwnedTupleGo a it v) (λ_ e=>wpAny (model prog w) A (assign a env v) (λ_ j =>
     wpAny (model prog w) A (forIn c3 ac λc r=>if r=ac then do let ok <- isTrue c env (eval c env); pure (oi ok) else pure (oi r)) (λok f =>
      if ok=ac then wpAny (model prog w) A (eval c5 env) (λx l =>
       wpAny (model prog w) A (call (.builtin "list.append") [u,x]) (λ_ p=>∃m,m<n/\I m p) (notedBy (model prog w) A env λx b=>R (.error x) b) l) (notedBy (model prog w) A env λx b=>R (.error x) b) f
      else ∃m,m<n/\I m f) (notedBy (model prog w) A env λx b=>R (.error x) b) j) (notedBy (model prog w) A env λx b=>R (.error x) b) e) (notedBy (model prog w) A env λx b=>R (.error x) b) d) (notedBy (model prog w) A env λx b=>R (.error x) b) s)
 (n:Nat)(h:I n s):
  gD (model prog w) A (.compLoop (.ListComp c5 [(a,iter,c3,0)] scope pos) 0 it u env) R s:=by
 show codeAny_loop rfl I (λn s E=>?_) n h;show wpAny_noted ?_;show ak (wpAny_standAt (ak (fM (C n s E) (λr d g=>?_) λ_ _ h'=>h')))
 cases r with
 |none=>show aE g
 |some v=>
  show ak (fM g (λ_ e q=>?_) λ_ _ h'=>h');show ak (fM q (λ_ j y=>ak (fM y (λok f i=>?_) λ_ _ h'=>h')) λ_ _ h'=>h')
  cases ok with
  |false=>show aE (rfl,i)
  |true=>
   show ak (ak (fM i (λx l z=>ak (fM z (λ_ p B=>aE (aE (rfl,B))) λ_ _ h'=>h')) λ_ _ h'=>h'))
end
open PySem.Spec PyProof.Rows
nonrec def Cx.comp(X:Cx)(scope:Scope)(Nc:LSt)(cl:List (Str×Addr))(X5:Addr)(ex:LAd)(b:ah)(a:Hp):Cx:=
 {X with N:=Nc,s₀:=b,H₀:=a,env:=compEnvC scope cl X5 X.env,outer:=X.stack,ex:=ex,fn:=λ_=>af,pn:=[],xe:=E00}
def yt{env:Env}:∀{names:List (Str×ga)} {x:Str},names.lookup x=aa .free ->
  (names.map λ(n,k,)=>if (k==fO && env.scope.kind==.function && env.kindOf n==aa .cell) then (n,mL,) else (n,k,)).lookup x=aa .cell \/
  (names.map λ(n,k,)=>if (k==fO && env.scope.kind==.function && env.kindOf n==aa .cell) then (n,mL,) else (n,k,)).lookup x=aa .free
 | [],_,h=>by simp at h
 |(n,k,)::r,x,h=>by
  have a:=@yt env r x
  grind
def yu{env:Env}{a:ga}(b:a=.cell\/a=.free):∀{names:List (Str×ga)} {x:Str},
  (names.map λ(n,k,)=>if (k==fO && env.scope.kind==.function && env.kindOf n==aa .cell) then (n,mL,) else (n,k,)).lookup x=aa a ->
  (x,fO,)∈names\/(x,mL,)∈names
 | [],_,h=>by simp at h
 |(n,k,)::r,x,h=>by
  have h':List.lookup x ((if _=ac then _ else _)::_)=aa a:=h
  cases c:x==n with
  |true=>
   have e:=eq_of_beq c;subst e;split at h'
   .rename_i d
    have f:k=.free:=by
     rw[b5,b5]at d;show eq_of_beq d.1.1
    subst f;show .inl az
   .simp only[mq,c]at h';have e:=dz h';subst e
    rcases b with z |z
    .subst z;show .inr az
    .subst z;show .inl az
  |false=>
   have h2:(r.map λ(n,k,)=>if (k==fO && env.scope.kind==.function && env.kindOf n==aa .cell) then (n,mL,) else (n,k,)).lookup x=aa a:=by
    split at h' <;> (rw[mq,c]at h';show h')
   rcases(@yu env a b r x) h2 with z |z
   .show .inl (bi _ z)
   .show .inr (bi _ z)
def lK(scope:Scope)(outer:List (Str×ga))(N Nc:LSt)(k:Nat)(js:LN):Bool:=
 scope.names.all (λx=>(x.2 != .free || outer.lookup x.1==aa .cell || outer.lookup x.1==aa .free) && x.2 != .cell && (x.2 != .local || scope.names.lookup x.1==aa .local)) &&
 scope.kind==.function && Z Nc==k+Z js &&
 (bu (Z js)).all (λi=>match Nc[k + i]?,js[i]? with
  |some x,aa j=>N[j]?==aa x && scope.names.lookup x==aa .free
  | _,_=>af)
structure oY(scope:Scope)(outer:List (Str×ga))(N Nc:LSt)(k:Nat)(js:LN):Prop where
 free:∀x∈scope.names,x.2=.free->outer.lookup x.1=aa .cell\/outer.lookup x.1=aa .free
 nocell:∀x∈scope.names,x.2≠.cell
 loc:∀x∈scope.names,x.2=.local->scope.names.lookup x.1=aa .local
 kind:scope.kind=.function
 len:Z Nc=k+Z js
 at':∀i j,js[i]?=aa j->∃x,Nc[k+i]?=aa x/\N[j]?=aa x/\scope.names.lookup x=aa .free
variable{N Nc:LSt}{js:LN}
def oY.of{outer:List (Str×ga)}{k:Nat}(h:lK scope outer N Nc k js=ac):oY scope outer N Nc k js:=by
 unfold lK at h;rw[b5,b5,b5]at h;have(((b,h2),d),c):=h;rw[all_eq_true]at b c;show(λx a e=>?_,λx a e=>?_,λx a e=>?_,eq_of_beq h2,eq_of_beq d,λi j e=>?_)
 .have:=b x a;simp only[b5,j8,bne_iff_ne,beq_iff_eq]at this
  rcases this.1.1 with(z |z) |z
  .show absurd e z
  .show .inl z
  .show .inr z
 .have:=b x a;simp only[b5,bne_iff_ne]at this;show this.1.2 e
 .have:=b x a;simp only[b5,j8,bne_iff_ne,beq_iff_eq]at this
  rcases this.2 with z |z
  .show absurd e z
  .show z
 .have hi:=(c7.mp e).1;have:=c i (d5.mpr hi);rw[e]at this
  cases q:Nc[k+i]? with
  |none=>simp only[q]at this;nomatch this
  |some x=>
   rw[q]at this;simp only[b5,beq_iff_eq]at this;show(x,rfl,this.1,this.2)
def jk(k:Nat)(js:LN)(C:St):St:=g6 k ab++js.map λj=>(C[j]?).getD ab
def PTs(X:Cx)(c3:LEx)(t:TT):Prop:=
 ∀(U:PNS) (s:ah) (C:St) (H:Hp) (Q:Bool->Hp->Prop),Inv X U C H s->t C H Q ->
  wpAny (model X.prog X.w) X.A (forIn c3 ac λc r=>if r=ac then do let ok <- isTrue c X.env (eval c X.env);pure (oi ok) else pure (oi r)) (TP X U C Q) X.xe s
def NZ:TT:=λ_ H Q=>Q ac H
variable{X:Cx}
def N0:PTs X [] NZ:=λ_ _ _ H _ I h=>wpAny_tests_nil (H,I,h)
def N1{c:Expr}{t:TT}(h:PT X c t):PTs X [c] t:=λU s C H Q I q=>wpAny_tests_one (h U s C H Q I q)
def yv(J:It)(g:TG)(tt:TT)(te:TE)(h:St)(j:Hp)(Q:VK):Prop:=
 ∃W:Nat->Nat->LVv->St->Hp->Prop,(∃m,W 0 m [] h j)/\∀i m c σ' H',W i m c σ' H' ->
  (J.stop i H'/\Z c<=aT/\∀D,j D=ab->H' D=ab->Q (.ref D) (upd H' D (.lst c))) \/
  (J.go i H'/\Z c<=aT/\∃ N : LVv->St->Hp->Prop,(∀ e f d,N e f d->∃ n,n < m/\W (i + 1) n e f d) /\
   ∀x d,J.yld i H' x d->g x σ' d λa p=>tt a p λb l=>if b=ac then te a l λy q=>N (c++[y]) a q else N c a l)
def oZ(k:Nat)(js:LN)(b:TI)(g:TG)(tt:TT)(te:TE):TE:=λC H Q=>b C H λJ a=>yv J g tt te (jk k js C) a Q
nonrec def Cx.to(X:Cx)(pn:PNS)(xe:PRS):Cx:={X with pn:=pn,xe:=xe}
variable{Y:Cx}{xe:PRS}{U:PNS}{C:St}{H:Hp}
def FG{s:ah}(I:Inv Y U C H s):Inv {Y with xe:=xe} U C H s:=
 ((I.ok.mod,I.ok.kind,I.ok.glob,I.ok.blt,I.ok.above,I.ok.inj,I.ok.has,I.ok.cab,I.ok.hd,I.ok.frames,I.ok.stk,I.ok.exf,I.ok.bs,I.ok.bsz,I.ok.noex,I.ok.exfs,I.ok.funs,I.ok.frf),I.os,I.bare,I.base,I.loc,I.cell,I.free,I.freeC,I.pin,I.hok,I.len)
def FH{s:ah}(I:Inv {Y with xe:=xe} U C H s):Inv Y U C H s:=
 ((I.ok.mod,I.ok.kind,I.ok.glob,I.ok.blt,I.ok.above,I.ok.inj,I.ok.has,I.ok.cab,I.ok.hd,I.ok.frames,I.ok.stk,I.ok.exf,I.ok.bs,I.ok.bsz,I.ok.noex,I.ok.exfs,I.ok.funs,I.ok.frf),I.os,I.bare,I.base,I.loc,I.cell,I.free,I.freeC,I.pin,I.hok,I.len)
variable{e:Expr}{t:TE}
def PE.to0(h:PE {Y with pn:=[],xe:=E00} e t):PE {Y with pn:=[],xe:=xe} e t:=λU s C H Q I q=>
 fM (h U s C H Q (FH I) q) (λu c (v,H',a,r,b)=>(v,H',FG a,r,b)) λ_ _ z=>z.elim
nonrec def jQ(us:LVa)(n:Nat):Obj:={cls:=.type "list",data:=.seq us.toArray n}
variable{tg:Expr}{g:TG}{tt:TT}{te:TE}{H2:Hp}{s2:ah}{it:Addr}{fp:LAd}{tn:Nat->Heap->Prop}{J:It}{Q:VK}{RR:Value->Addr->Result->ah->Prop}{X4:PRS}
def N2{k:Nat}{PX:Cx->Prop}{cl:List (Str×Addr)}
 (hc:X.calm=ac)(ck:oY scope X.env.scope.names X.N Nc k js)
 (hg:∀cl X5 ex I H,PG (X.comp scope Nc cl X5 ex I H) tg g)(ht:∀cl X5 ex I H,PTs (X.comp scope Nc cl X5 ex I H) c3 tt)(he:∀cl X5 ex I H xe,PX ((X.comp scope Nc cl X5 ex I H).to [] xe)->PE ((X.comp scope Nc cl X5 ex I H).to [] xe) c5 te)
 (a1:∀x c,cl.lookup x=aa c->X.env.cells.lookup x=aa c)(a2:∀x,(x,fO,)∈scope.names->∃c,cl.lookup x=aa c)
 (G:Inv X U C H2 s2)(T:ko X.prog X.w X.K tg J fp it tn)(st2:tn 0 s2.heap)(f2:∀b∈fp,ic X U H2 b)(hW:yv J g tt te (jk k js C) H2 Q)
 (hRR:∀(D X5:Addr) (s':ah) (H':Hp),Inv X U C H' s'->(∃m,s'.heap.Ns X5 m)->ic X U H' X5->Q (.ref D) H'->RR (.ref D) X5 (.ok .next) s')
 (hPX:∀D X5,s2.heap.objs.size=D->D<X5->(∀b∈frs X.stack,b<D)->PX ((X.comp scope Nc cl X5 fp s2 H2).to [] (notedBy (model X.prog X.w) X.A (compEnvC scope cl X5 X.env) λx s'=>RR (.ref D) X5 (.error x) s'))):
  wpAny (model X.prog X.w) X.A (newList []) (λc4 s₃=>wpAny (model X.prog X.w) X.A (newFunctionEnv scope X.env.globals cl [] X.env.qual ab .none (aa X.env)) (λcenv s₄ =>
   gD (model X.prog X.w) X.A (.compStart (.ListComp c5 [(tg,iter,c3,0)] scope pos) 0 (.ref it) c4 {cenv with scope:=relabel scope X.env}) (RR c4 cenv.locals) s₄) X4 s₃) X4 s2:=by
 have(W,(m0,w0),turn):=hW;show i8 (wpAny_newFunctionEnv ck.nocell (by intro y hy;simp at hy) (λh₁ B h=>?_) ck.kind);dsimp only at B h ⊢;generalize hP:s2.heap.push {cls:=.type "list",dict:=ab,data:=.seq ([]:LVa).toArray}=P at B h ⊢;generalize hD:s2.heap.objs.size=D at hP B h ⊢;have hCs:P.objs.size=D+1:=by rw[<- hP,jc,hD]
 generalize hC:P.objs.size=X5 at hCs B h ⊢;have hDC':D<X5:=by rw[hCs];show c8 _
 have hDC:D≠X5:=bW hDC';have below:∀b o,s2.heap.get? b=aa o->b<D:=λb o e=>hD▸bC e
 have old:∀b o,s2.heap.get? b=aa o->h₁.get? b=aa o:=λb o e=>by
  have f:=below b o e;show h.extBut b o (bW (mw f hDC')) (bF _ (hP▸bF _ e))
 have hDo:h₁.get? D=aa (jQ [] 0):=h.extBut _ _ hDC (bF _ (by rw[<- hP,<- hD];show cM _ rfl));have Hn:∀b,D<=b->H2 b=ab:=λb f=>G.hok.fresh (by lia);have fpo:∀b∈fp,b<D:=λb f=>by have(o,e,_):=T.obj 0 _ st2 b f;show below b o e
 have clo:∀x c,cl.lookup x=aa c->c<D:=λx c e=>by
  have(v,o,ho,_):=G.cell x c (a1 x c e);show below c o ho
 have stko:∀b∈frs X.stack,b<D:=λb f=>by
  have(_,o,ho,_):=G.stack.mem f;show below b o ho
 let Y:Cx:=X.comp scope Nc cl X5 fp s2 H2
 have yk:Y.Ok:=by
  show(G.ok.mod,ck.kind,G.ok.glob,G.ok.blt,?_,?_,?_,?_,G.ok.hd,G.ok.frames,.inl rfl,?_,G.bs,?_,?_,?_,G.stack,G.stkFree)
  .change s2.heap.objs.size<=X5;lia
  .show λx y c h1 h2=>G.ok.inj x y c (a1 x c h1) (a1 y c h2)
  .intro x hx
   have:(x,fO,)∈scope.names\/(x,mL,)∈scope.names:=by
    rcases hx with hx |hx
    .show yu (.inl rfl) hx
    .show yu (.inr rfl) hx
   rcases this with z |z
   .show a2 x z
   .show absurd rfl (ck.nocell _ z)
  .show λx c z=>nomatch z
  .intro b f;show(?_,λx c e=>?_)
   .show bW (mw (fpo b f) hDC')
   .show(f2 b f).2.2.2.2.1 x c (a1 x c e)
  .show cV G.ok.bsz G.sz
  .intro b o e f
   rcases(f2 b f).2.2.2.1 with z |z
   .show G.ok.noex b o e z
   .show absurd (fB (bC e) (cV G.ok.bsz z)) (gB _)
  .intro b f z
   rcases bc.mp (G.stkSub b z)with e |e
   .show(f2 b f).2.1 e
   .show(f2 b f).2.2.1 e
 have I4:Inv Y [(D,jQ [] 0,)] (jk k js C) H2 {s2 with heap:=h₁,toks:=s2.toks+Z ([]:List (Str×Value))}:=by
  show(yk,rfl,G.bare,Un.kept old,(_,B,λi x v e1 L e3=>?_),λx c e=>?_,Hn X5 (by lia),λx c e=>G.freeC x c (a1 x c e),λp M=>?_,G.hok.kept old,?_)
  .have e1:Nc[i]?=aa x:=e1;unfold jk at L
   have hik:k<=i:=by
    rcases Nat.lt_or_ge i k with z |z
    .rw[mh (by simpa using z),om]at L;simp[z]at L
    .show z
   rw[oj (by simpa using hik),cu]at L;simp only[mi]at L
   cases q:js[i-k]? with
   |none=>rw[q]at L;cases L
   |some j=>
    rw[q]at L;have(x',q1,q2,q3):=ck.at' _ _ q;rw[show k+(i-k)=i by lia,e1]at q1;cases q1;have L:(C[j]?).getD ab=aa v:=dz L
    have e2':C[j]?=aa (aa v):=by
     cases z:C[j]? with
     |none=>rw[z]at L;nomatch L
     |some y=>rw[z]at L;rw[show y=aa v from L]
    have hmem:(x,fO,)∈scope.names:=by
     have:∀l:List (Str×ga),l.lookup x=aa .free->(x,fO,)∈l:=by
      intro l
      induction l with
      |nil=>intro z;nomatch z
      |cons a l ih=>
       intro z;have(n,kk):=a;simp only[mq]at z
       cases f:x==n with
       |true=>
        rw[f]at z;cases z
        rw[eq_of_beq f];show az
       |false=>rw[f]at z;show bi _ (ih z)
     show this _ q3
    have hout:X.env.kindOf x=aa .cell\/X.env.kindOf x=aa .free:=ck.free _ hmem rfl;have(m,hn,hl):=G.loc
    have vis:Vis X.env.scope x:=by
     rcases hout with z |z
     .show .inr (.inl z)
     .show .inr (.inr z)
    have(u,r,l):=hl j x v q2 e2' vis;show(u,r,.inr (yt q3,?_))
    rcases l with⟨z,_⟩ |⟨_,c,hcl,hcell⟩
    .rcases hout with y |y <;> (rw[y]at z;nomatch z)
    .have(c',hc'):=a2 x hmem;have:=a1 x c' hc';rw[hcl]at this;cases this;show(c,hc',hcell.keeps old)
  .have(v,z):=G.cell x c (a1 x c e);show(v,z.keeps old)
  .have M:p∈[(D,jQ [] 0,)]:=(bz.mp M).elim (λz=>nomatch (show p∈([]:PNS)from z)) id;have M:=bw.mp M;subst M;show⟨hDo,Hn D (aM _),hDC,λz=>?_,λv z=>by nomatch z⟩;show absurd (stko D z) (gB _)
  .change(jk k js C).length=Z Nc;rw[ck.len];simp[jk]
 have st1:=T.keep 0 _ _ st2 λb _ o e=>old b o e
 have fpY:∀{H':Hp} {p:PNS},(∀q∈p,q.1=D)->(∀b∈fp,H' b=ab)->∀b∈fp,ic Y p H' b:=λ{H' p} M hn b f=>by
  show(hn b f,(yk.exf b f).1,yk.exfs b f,.inl f,λx c e=>(yk.exf b f).2 x c e,λq hq=>?_);rw[M q hq];show ls (fpo b f)
 let xe:Value->ah->Prop:=notedBy (model X.prog X.w) X.A (compEnvC scope cl X5 X.env) λx s'=>RR (.ref D) X5 (.error x) s'
 have M:=hPX D X5 hD hDC' stko
 have loop:gD (model X.prog X.w) X.A (.compLoop (.ListComp c5 [(tg,iter,c3,0)] scope pos) 0 (.ref it) (.ref D) (compEnvC scope cl X5 X.env)) (RR (.ref D) X5) {s2 with heap:=h₁,toks:=s2.toks+Z ([]:List (Str×Value))}:=by
  show NY (λn s'=>∃i ys us nn σ' H',Inv Y [(D,jQ us nn,)] σ' H' s'/\tn i s'.heap/\(∀b∈fp,H' b=ab)/\aG ys us/\W i n ys σ' H') ?_ m0
   (0,[],[],0,jk k js C,H2,I4,st1,λb f=>(f2 b f).1,.nil,w0)
  rintro n s3 ⟨i,ys,us,nn,σ3,H3,I3,st3,fr3,rv,w3⟩
  have one:∀q∈[(D,jQ us nn,)],q.1=D:=λq hq=>by
   have:q=(D,jQ us nn,):=by simpa using hq
   rw[this]
  rcases turn i n ys σ3 H3 w3 with⟨stop,hz,qn⟩ |⟨go,hz,N,hN,step⟩
  .show thn (T.done Y rfl rfl rfl hc i _ s3 σ3 H3 _ I3 (fpY one fr3) st3 stop) λr s4 (hr,I5)=>?_;subst hr;have(pD,nD,_,_,_):=I5.pin (D,jQ us nn,) (by simp);have bs:=I5.base;have h2D:∀b o,H2 b=aa o->b≠D:=λb o e z=>by rw[z,Hn D (aM _)]at e;nomatch e
   have I6:Inv X U C (upd H3 D (.lst ys)) s4:=by
    show G.call' (ch:=fp) I5.os (bs.keep,bs.slot,λb o e n hx=>?_,bs.there,λb E e=>?_,λb o u e=>?_,λb ps e=>?_) (λb u e=>?_) I5.bare λb f=>?_
    .rw[aL (bW (below b o e))];show bs.free b o e n hx
    .rw[aL (h2D b _ e)];show bs.tups b E e
    .rw[aL (h2D b _ e)];show bs.frzs b o u e
    .rw[aL (h2D b _ e)];show bs.tbls b ps e
    .by_cases f:b=D
     .subst f;rw[bd]at e;cases e;show(hz,us,nn,rv,pD)
     .rw[aL f]at e;show(I5.hok b u e).stay (λc v _ q=>q) (λc q=>by rw[aL (fF q nD)];show q) λc E q=>by rw[aL (fF q nD)];show q
    .have(_,f1,_,f3,f4,f5):=f2 b f;show(f3,f1,f4,f5)
   have(m,hn,_):=I5.loc;show hRR D X5 s4 _ I6 (m,hn) (G.fpOk (by lia) ?_) (qn D (Hn D (aM _)) nD);rw[aL hDC.symm];show I5.free
  .show thn (T.item Y rfl rfl rfl hc i _ s3 σ3 H3 _ I3 (fpY one fr3) st3 go) λr s4 q_=>?_;have(u,hr,h4):=q_;subst hr;show thn h4 λ_ s5 q_=>?_;have(x,H5,I5,r5,y5,st5,fr5):=q_;have I5':=I5.pinned (fpY one fr5) (T.obj _ _ st5);show fM (hg cl X5 fp s2 H2 _ s5 σ3 H5 x u _ I5' r5 (step x H5 y5)) (λ_ s6 (σ6,H6,I6,q6)=>?_) λ_ _ z=>z.elim;show fM (ht cl X5 fp s2 H2 _ s6 σ6 H6 _ I6 q6) (λb s7 (H7,I7,q7)=>?_) λ_ _ z=>z.elim
   have kp:∀{H8:Hp} {s8:ah},Inv Y ([(D,jQ us nn,)]++ug fp s5.heap) σ6 H8 s8->tn (i+1) s8.heap/\(∀b∈fp,H8 b=ab):=λ{H8 s8} I8=>by
    show(T.keep _ _ _ st5 λb f o e=>(I8.pin (b,o,) (ci _ (ci _ (uh f e)))).1,λb f=>?_);have(o,e,d):=T.obj _ _ st5 b f;show(I8.pin (b,o,) (ci _ (ci _ (uh f e)))).2.1
   cases b with
   |false=>
    have(m',hm,w7):=hN _ _ _ q7;have(st7,fr7):=kp I7
    show(m',hm,i+1,ys,us,nn,σ6,H7,I7.unpinned,st7,fr7,rv,w7)
   |true=>
    show thn (he cl X5 fp s2 H2 xe M _ s7 σ6 H7 _ (FG I7) q7) λuy s8 q_=>?_;have(y,H8,I8',r8,q8):=q_;have I8:=FH I8';have(m',hm,w8):=hN _ _ _ q8;have(st8,fr8):=kp I8;have(pD,nD,pC,pF,_):=I8.pin (D,jQ us nn,) (by simp);have hl:=rv.length
    show wpAny_list_append_plain (items:=us.toArray) (nn,pD) (λh' hl' sb=>?_) (by simp only[size_toArray] <;> lia)
    have(n',e'):=hl';have I8n:Inv Y [] σ6 H8 s8:=I8.pins_of (λ_ z=>nomatch z);have I9:=I8n.turned (t':=s8.toks) (it:=D) (λb o f e=>(sb.2 b f).trans e) nD pC (.inr (by change s2.heap.objs.size<=D;lia)) (λx c e=>bW (clo x c e)) (λp M=>nomatch M);show(m',hm,i+1,ys++[y],us++[uy],n',σ6,H8,I9.pins_of (λp M=>?_),?_,fr8,rv.append (.cons r8 .nil),w8)
    .have M:p=(D,jQ (us++[uy]) n',):=by simpa using M
     subst M;show⟨?_,nD,pC,pF,λv z=>by nomatch z⟩;have L:=e';rw[L];simp
    .show T.keep _ _ _ st8 λb f o e=>(sb.2 b (bW (fpo b f))).trans e
 show codeAny_compStart_list loop (T.self X.A 0 _ _ _ st1 loop)
def FI{k:Nat}{cl:List (Str×Addr)}
 (v:X.calm=ac)(u:oY scope X.env.scope.names X.N Nc k js)
 (z:∀cl X5 ex d a,PG (X.comp scope Nc cl X5 ex d a) tg g)(B:∀cl X5 ex d a,PTs (X.comp scope Nc cl X5 ex d a) c3 tt)(y:∀cl X5 ex d a,PE (X.comp scope Nc cl X5 ex d a) c5 te)
 (q:∀x c,cl.lookup x=aa c->X.env.cells.lookup x=aa c)(r:∀x,(x,fO,)∈scope.names->∃c,cl.lookup x=aa c)
 (p:Inv X U C H2 s2)(T:ko X.prog X.w X.K tg J fp it tn)(n:tn 0 s2.heap)(f2:∀b∈fp,ic X U H2 b)(hW:yv J g tt te (jk k js C) H2 Q)
 (j:∀(D X5:Addr) (l:ah) (H':Hp),Inv X U C H' l->(∃m,l.heap.Ns X5 m)->ic X U H' X5->Q (.ref D) H'->RR (.ref D) X5 (.ok .next) l):
  wpAny (model X.prog X.w) X.A (newList []) (λf h=>wpAny (model X.prog X.w) X.A (newFunctionEnv scope X.env.globals cl [] X.env.qual ab .none (aa X.env)) (λe i =>
   gD (model X.prog X.w) X.A (.compStart (.ListComp c5 [(tg,iter,c3,0)] scope pos) 0 (.ref it) f {e with scope:=relabel scope X.env}) (RR f e.locals) i) X4 h) X4 s2:=
 N2 (PX:=λ_=>True) v u z B (λcl X5 ex d a xe _=>PE.to0 (y cl X5 ex d a)) q r p T n f2 hW j λ_ _ _ _ _=>trivial
variable{wi:TI}
def N3(k:Nat)(js:LN)(Nc:LSt)(G:X.calm=ac)(hi:PI X tg iter wi)
 (M:∀cl X5 ex c a,PG (X.comp scope Nc cl X5 ex c a) tg g)(ht:∀cl X5 ex c a,PTs (X.comp scope Nc cl X5 ex c a) c3 tt)(L:∀cl X5 ex c a,PE (X.comp scope Nc cl X5 ex c a) c5 te)
 (d:autoParam (lK scope X.env.scope.names X.N Nc k js=ac) Zb)(Y:autoParam (∀x,lx iter X.env x=pure x) Zd):
  PE X (.ListComp c5 [(tg,iter,c3,0)] scope pos) (oZ k js wi g tt te):=by
 intro U s C H Q I h;have d:=oY.of d;have(cl,f,p,r):=FF λx hx e=>I.ok.has x.1 (d.free x hx e);show wpAny_comprehension_free rfl Y f d.kind d.loc (thn (hi U s C H _ I h) λv s1 B=>thn B λitv s2 h2=>?_);have(it,fp,tn,J,H2,e,n,T,j,f2,hW):=h2;subst e;show FI G d M ht L p r n T j f2 hW λD X5 s' H' l (m,hn) A q=>?_;have(u,f1,_,w,y,z):=A;show(m,hn,λh' i=>(.ref D,H',l.turned (λb o E e=>(i.2 b E).trans e) u f1 w y z,rfl,q))
variable{i:Nat}{x:Str}{b4 eH:Pos}
def yw(k:Nat)(js:LN)(Nc:LSt)(hN:X.N.Nodup)(p:X.N[i]?=aa x)(w:Loc X.env.scope x)(hc:X.calm=ac)(hi:PI X tg iter wi)
 (hg:∀cl X5 ex d c,PG (X.comp scope Nc cl X5 ex d c) tg g)(ht:∀cl X5 ex d c,PTs (X.comp scope Nc cl X5 ex d c) c3 tt)(he:∀cl X5 ex d c,PE (X.comp scope Nc cl X5 ex d c) c5 te)
 (u:autoParam (f9 (.ListComp c5 [(tg,iter,c3,0)] scope pos) (aa (.Name x b4)) eH.line X.env=pure ac) Zb)
 (f:autoParam (lK scope X.env.scope.names X.N Nc k js=ac) Zb)(hs:autoParam (∀x,lx iter X.env x=pure x) Zd)
 (hf:autoParam (LcF X x) Zh):
  PS X (.Assign [.Name x b4] (.ListComp c5 [(tg,iter,c3,0)] scope pos) eH) (jh (oZ k js wi g tt te) (ib i)):=by
 intro U s C H D I h;have f:=oY.of f;rw[exec_Assign_Name_used _ _ _ _ u];show ak (wpAny_standAt (ak ?_));have(cl,n,L,M):=FF λx w e=>I.ok.has x.1 (f.free x w e)
 show ak (fM (wpAny_comprehension_free rfl hs n f.kind f.loc
  (thn (hi U s C H _ I h) λv s1 h1=>thn h1 λitv s2 h2=>?_)) (λ_ s' hq=>aE (aE hq)) λ_ _ e=>e)
 have(it,fp,tn,J,H2,e,G,T,y,f2,hW):=h2;subst e;show FI hc f hg ht he L M G T y f2 hW λB X5 s' H' E (m,hn) fC q=>?_;have(Q,f1,Y,f3,A,f5):=fC;show wpAny_assign_Name (EO (v:=.ref B) E hN p w rfl (λs'' j (a,sb,ha)=>?_) hf)
 have l:X5≠a:=by
  rcases ha with z |z
  .rw[z];show f1
  .show(A x a z).symm
 show(m,hn.sameBut sb l,λh' r=>(_,H',j.turned (λb o hb e=>(r.2 b hb).trans e) Q f1 f3 A f5,q))
def FJ:OpR X (cL .Is) (λx y H Q=>∃b,y=.bl b/\(x=.non\/∃c,x=.bl c)/\Q (.bl (decide (x=.bl b))) H):=by
 intro U s C H x y v u Q I a e h;have(b,rfl,d,q):=h;subst e
 rcases d with rfl |⟨c,rfl⟩
 .subst a
  show wpAny_is_plain rfl (bX I q (by cases b <;> rfl))
 .subst a
  show wpAny_is_plain rfl (bX I q (by cases b <;> cases c <;> rfl))
def FK:OpR X (cL .IsNot) (λx y H Q=>∃b,y=.bl b/\(x=.non\/∃c,x=.bl c)/\Q (.bl (!decide (x=.bl b))) H):=by
 intro U s C H x y v u Q I a e h;have(b,rfl,d,q):=h;subst e
 rcases d with rfl |⟨c,rfl⟩
 .subst a
  show wpAny_isNot_plain rfl (bX I q (by cases b <;> rfl))
 .subst a
  show wpAny_isNot_plain rfl (bX I q (by cases b <;> cases c <;> rfl))
def N4(a:X.calm=ac):ie X (.builtin "sum") (λE H Q=>∃(p:Addr) (ns:LI0),E=[.ref p]/\SqL X.K H p (ns.map V.int)/\Q (.int ns.sum) H):=by
 intro U s C H E us Q I r h;have(p,ns,rfl,c,q):=h;have(u,rfl,g):=lI r;subst g;have(L,f,d,hz):=I.list c;have hi:=Nb f;have(E,e):=hi.allInts.items;show sum_intListG (I.ok.hd a) (by rw[<- e];show d.isList) λh' i t' b=>?_
 have es:preSum (numAt E) E.size=ns.sum:=by
  rw[preSum_eq,qC (by simp),<- nums_intItems,<- e,hi.numsOf]
 rw[es];show(.int ns.sum,H,I.kept b,(_,rfl),q)
def N5:ie X (.builtin "isinstance") (λE H Q=>∃x T t b,E=[x,.ty T]/\gG X.K H x t/\W.kitOne X.K t (.type T)=aa b/\Q (.bl b) H):=by
 intro U s C H E us Q I r h;have(x,T,t,b,rfl,ty,e,q):=h;have(u,f,rfl,c,a):=MN r;cases (a);show M0 I c ty e λd=>(.bl b,H,I.tok d,rfl,q)
variable{E:LVv}
def aG.at'{us:LVa}{u:Value}(r:aG E us)(e:us[i]?=aa u):∃x,E[i]?=aa x/\aD x u:=by
 have b:=r.length;have hi:i<Z E:=by have:=(c7.mp e).1;lia
 show(E[i],by simp[hi],?_);have(c,e',a):=r.get (i:=i) (x:=E[i]) (by simp[hi]);rw[e]at e';cases e';show a
def o7{env:Env}{a:ga}(b:a≠.free):∀{names:List (Str×ga)} {x:Str},names.lookup x=aa a ->
  (names.map λ(n,k,)=>if (k==fO && env.scope.kind==.function && env.kindOf n==aa .cell) then (n,mL,) else (n,k,)).lookup x=aa a
 | [],_,h=>by simp at h
 |(n,k,)::r,x,h=>by
  have c:=@o7 env a b r x
  grind
def N6(h:Vis scope x):Vis (relabel scope env) x:=by
 rcases h with h |h |h
 .show .inl (o7 (by decide) h)
 .show .inr (.inl (o7 (by decide) h))
 .rcases yt h with z |z
  .show .inr (.inl z)
  .show .inr (.inr z)
variable{X5:Addr}{ex:LAd}{cc:ah}{cs:Hp}
def pvc{cl:List (Str×Addr)}(i:Nat)(b:autoParam (Nc[i]?=aa x) Zb)(hv:autoParam (Vis scope x) Ze)(hd:autoParam (NDb x) Zc)
 (a:autoParam (NCd x) Zc):PE (X.comp scope Nc cl X5 ex cc cs) (.Name x pos) (cX i):=mR b (N6 hv) hd a
def pgc{cl:List (Str×Addr)}(i:Nat)(b:autoParam (Nc.Nodup) Zm)(hi:autoParam (Nc[i]?=aa x) Zb)(a:autoParam (scope.names.lookup x=aa .local) Zb):PG (X.comp scope Nc cl X5 ex cc cs) (.Name x pos) (ib i):=
 xM b hi (.inl (o7 (by decide) a)) (.inr (o7 (by decide) a))
def glc{cl:List (Str×Addr)}(h:scope.names.lookup x=aa .globalImplicit):Gl (X.comp scope Nc cl X5 ex cc cs) x:=o7 (by decide) h
variable{p:Addr}
def bR{o:HO}(h:H p=ab):aq H (upd H p o):=λb u e=>by rw[aL (fF e h)];show e
variable{K:aQ}{H':Hp}{a:Addr}
def aq.tup(e:aq H H')(h:SqT K H a E):SqT K H' a E:=by
 rcases h with(h |⟨o,h⟩) |h
 .show .inl (.inl (e _ _ h))
 .show .inl (.inr (o,e _ _ h))
 .show .inr h
def lL(p:Addr)(H H':Hp):Prop:=∀b o,H b=aa o->b≠p->H' b=aa o
def lL.refl(p:Addr)(H:Hp):lL p H H:=λ_ _ h _=>h
variable{H1:Hp}
def lL.trans(a:lL p H H1)(b:lL p H1 H2):lL p H H2:=λc o h n=>b c o (a c o h n) n
def lL.seq(e:lL p H H')(n:a≠p)(h:SqL K H a E):SqL K H' a E:=by
 rcases h with(h |⟨o,h⟩) |h
 .show .inl (.inl (e _ _ h n))
 .show .inl (.inr (o,e _ _ h n))
 .show .inr h
def yx(K:aQ)(H:Hp)(X2:Addr)(L:LII):Prop:=
 ∃a:List (Addr×Int×Int),SqL K H X2 (a.map λz=>V.ref z.1)/\(∀z∈a,SqT K H z.1 [.int z.2.1,.int z.2.2])/\L=a.map (·.2)/\Z a<=1000
def cF(p:Option Bool->Bool)(es:LOB)(L:LII):Int:=((L.filter λz=>p (es.getD z.1.toNat ab)).map (·.2)).sum
inductive Prt where
 |inn (t:Int) |out (t:Int) |least (k:Int) (L:LII) |most (k:Int) (L:LII)
abbrev N7(K:aQ)(H:Hp)(p:Addr):Prt->Prop
 |.inn t=>SqT K H p [.str "in",.int t]
 |.out t=>SqT K H p [.str "out",.int t]
 |.least k L=>∃X2,SqT K H p [.str "least",.int k,.ref X2]/\yx K H X2 L
 |.most k L=>∃X2,SqT K H p [.str "most",.int k,.ref X2]/\yx K H X2 L
def bs(l:LB0):LOB:=l.map aa
abbrev Prt.holds(B ws:LB0):Prt->Bool
 |.inn t=>(B.getD t.toNat af)
 |.out t=>!(ws.getD t.toNat af)
 |.least k L=>decide (k<=cF (·==aa ac) (bs B) L)
 |.most k L=>decide (cF (·==aa ac) (bs ws) L<=k)
variable{h':Heap}
section
variable{s:ah}
def Inv.turnedMany{t':Nat}{ch:LAd}(I:Inv X U C H s)(k:∀b o,b∉ch->s.heap.get? b=aa o->h'.get? b=aa o)(d:∀b∈ch,ic X U H b):Inv X U C H {s with heap:=h',toks:=t'}:=by
 show I.step (λb j=>?_) (λb o _ _ a e _=>k b o a e) (λb o _ _ a e _=>(o.slots,k b o a e)) (λ_ _ _ _ n=>n)
  (λb o a e=>(o,k b o a e)) (λ_ _ e=>e) (λ_ _ _ e=>e) (λb ps e=>(#[],by rw[e];simp)) (λm hm=>?_) (λb u e=>?_) I.bare
 .have(_,f1,_,g,h,i):=d b j;show(g,f1,h,i)
 .have(o,es,f,l,r):=hm;show(o,es,f,k _ o (λz=>(d _ z).2.1 rfl) l,r)
 .show(I.hok b u e).stay (λc v a q=>k c v (λz=>?_) q) (λ_ q=>q) λ_ _ q=>q;have hn:=(d c z).1
  rcases a with y |y
  .rw[y,e]at hn;nomatch hn
  .rw[hn]at y;nomatch y
end
def Inv.track{s:ah}{o:HO}(I:Inv X U C H s)(f:ic X U H p)(l:dU X.prog X.w (upd H p o) s.heap p o):Inv X U C (upd H p o) s:=by
 have(g,f1,f2,h,i,j):=f;have ne:∀b u,H b=aa u->b≠p:=λb u e=>fF e g;have one:∀b:Addr,b∉[p]->b≠p:=λb a z=>a (by rw[z];simp)
 show I.step (ch:=[p]) (λb a=>?_) (λb o _ _ d e _=>e) (λb o _ _ d e _=>(o.slots,e)) (λb o d e n=>?_)
  (λb o d e=>(o,e)) (λb E e=>?_) (λb o u e=>?_) (λb ps e=>(#[],?_)) (λm hm=>hm) (λb u e=>?_) I.bare
 .have e:b=p:=by simpa using a
  subst e;show(h,f1,i,j)
 .rw[aL (one b d)];show n
 .rw[aL (ne b _ e)];show e
 .rw[aL (ne b _ e)];show e
 .rw[aL (ne b _ e),e];rfl
 .by_cases a:b=p
  .subst a;rw[bd]at e;cases e;show l
  .rw[aL a]at e;show(I.hok b u e).stay (λc v _ q=>q) (λc q=>by rw[aL (ne c _ q)];show q) λc E q=>by rw[aL (ne c _ q)];show q
def bP(p:Int->Bool)(L:LII):Int:=((L.filter λz=>p z.1).map (·.2)).sum
def jl(p:Option Bool->Bool)(es:LOB)(L:LII):cF p es L=bP (λt=>p (es.getD t.toNat ab)) L:=rfl
def FL(p q:Int->Bool)(L:LII):bP p (L.filter λz=>q z.1)=bP (λt=>p t && q t) L:=by
 unfold bP;rw[filter_filter]
abbrev Prt.sure(es:LOB):Prt->Bool
 |.inn t=>es.getD t.toNat ab==aa ac
 |.out t=>es.getD t.toNat ab==aa af
 |.least k L=>decide (k<=cF (·==aa ac) es L)
 |.most k L=>decide (cF (λe=>!(e==aa af)) es L<=k)
abbrev Prt.lost(es:LOB)(ws:LB0):Prt->Bool
 |.inn t=>(es.getD t.toNat ab==aa af) || ws.getD t.toNat af
 |.out t=>es.getD t.toNat ab==aa ac
 |.least k L=>decide (bP (λt=>!(es.getD t.toNat ab==aa af) && !(ws.getD t.toNat af)) L<k)
 |.most k L=>decide (k<cF (·==aa ac) es L)
abbrev FM(X2:Addr)(L:LII)(vs:LVv):Prt->Prop
 |.inn t=>vs=[.str "in",.int t]
 |.out t=>vs=[.str "out",.int t]
 |.least k i=>vs=[.str "least",.int k,.ref X2]/\i=L
 |.most k i=>vs=[.str "most",.int k,.ref X2]/\i=L
variable{vs:LVv}
def FM.at{X2:Addr}{L:LII}{r:Prt}(t:FM X2 L vs r)(a:H p=aa (.tup vs))(b:yx K H X2 L):N7 K H p r:=by
 cases r with
 |inn t'=>subst t;show SqT.of a
 |out t'=>subst t;show SqT.of a
 |least k i=>have(rfl,rfl):=t;show(X2,SqT.of a,b)
 |most k i=>have(rfl,rfl):=t;show(X2,SqT.of a,b)
inductive D where
 |non
 |bl (b:Bool)
 |int (i:Int)
 |str (x:Str)
 |lst (E:List D)
 |tup (E:List D)
 |kl (E:List D)
 |kt (E:List D)
 |dic (ks:List Key) (E:List D)
 |ins (c:Str) (ns:LSt) (E:List D)
 |kd (ks:List Key) (E:List D)
 |dT (ks:List (List Key)) (E:List D)
 deriving Inhabited
nonrec abbrev OD:=Option D
nonrec abbrev LD:=List D
nonrec abbrev OLD:=Option LD
set_option genInjectivity false in
structure Gc where
 K:aQ
 cl:Str->Addr
mutual
def Rep(G:Gc)(H:Hp):D->V->Prop
 |.non,v=>v=.non
 |.bl b,v=>v=.bl b
 |.int i,v=>v=.int i
 |.str x,v=>v=.str x
 |.lst ds,v=>∃a vs,v=.ref a/\H a=aa (.lst vs)/\am G H ds vs
 |.tup ds,v=>∃a vs,v=.ref a/\H a=aa (.tup vs)/\am G H ds vs
 |.kl ds,v=>∃a vs,v=.ref a/\SqL G.K H a vs/\am G H ds vs
 |.kt ds,v=>∃a vs,v=.ref a/\SqT G.K H a vs/\am G H ds vs
 |.dic ks ds,v=>∃a vs,v=.ref a/\H a=aa (.dK (ks.zip vs))/\Z ks=Z vs/\am G H ds vs
 |.ins c ns ds,v=>∃a dx vs,v=.ref a/\H a=aa (.ins (G.cl c) dx (ns.zip vs))/\Z ns=Z vs/\am G H ds vs
 |.kd ks ds,v=>∃a od vs,v=.ref a/\H a=aa (.frz od (.dK (ks.zip vs)))/\Z ks=Z vs/\am G H ds vs
 |.dT ks ds,v=>∃a vs,v=.ref a/\H a=aa (.dT (ks.zip vs))/\Z ks=Z vs/\am G H ds vs
def am(G:Gc)(H:Hp):LD->LVv->Prop
 | [],vs=>vs=[]
 |d::ds,vs=>∃v r,vs=v::r/\Rep G H d v/\am G H ds r
end
mutual
theorem Rep.upM(s:aq H H'):∀(d:D) (v:V),Rep G H d v->Rep G H' d v
 |.non,_,h=>h
 |.bl _,_,h=>h
 |.int _,_,h=>h
 |.str _,_,h=>h
 |.lst ds,_,h_=>by have(a,vs,e,q,r):=h_;show(a,vs,e,s _ _ q,am.upM s ds vs r)
 |.tup ds,_,h_=>by have(a,vs,e,q,r):=h_;show(a,vs,e,s _ _ q,am.upM s ds vs r)
 |.kl ds,_,h_=>by have(a,vs,e,q,r):=h_;show(a,vs,e,s.seq q,am.upM s ds vs r)
 |.kt ds,_,h_=>by have(a,vs,e,q,r):=h_;show(a,vs,e,s.tup q,am.upM s ds vs r)
 |.dic _ ds,_,h_=>by have(a,vs,e,q,l,r):=h_;show(a,vs,e,s _ _ q,l,am.upM s ds vs r)
 |.ins _ _ ds,_,h_=>by have(a,dx,vs,e,q,l,r):=h_;show(a,dx,vs,e,s _ _ q,l,am.upM s ds vs r)
 |.kd _ ds,_,h_=>by have(a,od,vs,e,q,l,r):=h_;show(a,od,vs,e,s _ _ q,l,am.upM s ds vs r)
 |.dT _ ds,_,h_=>by have(a,vs,e,q,l,r):=h_;show(a,vs,e,s _ _ q,l,am.upM s ds vs r)
theorem am.upM(s:aq H H'):∀(ds:LD) (vs:LVv),am G H ds vs->am G H' ds vs
 | [],_,h=>h
 |d::ds,_,h_=>by have(v,r,e,a,h2):=h_;show(v,r,e,Rep.upM s d v a,am.upM s ds r h2)
end
variable{G:Gc}{d:D}{v:V}
def Rep.up(r:Rep G H d v)(s:aq H H'):Rep G H' d v:=Rep.upM s d v r
variable{ds:LD}
def am.up(r:am G H ds vs)(s:aq H H'):am G H' ds vs:=am.upM s ds vs r
def am.nil:am G H [] []:=rfl
def am.cons(h:Rep G H d v)(t:am G H ds vs):am G H (d::ds) (v::vs):=(v,vs,rfl,h,t)
def am.length:∀{ds:LD} {vs:LVv},am G H ds vs->Z ds=Z vs
 | [],_,h=>by cases (h);rfl
 |d::ds,_,(v,r,e,_,h)=>by subst e;simp[am.length h]
def am.append:∀{ds es:LD} {vs us:LVv},am G H ds vs->am G H es us->am G H (ds++es) (vs++us)
 | [],_,_,_,h,t=>by cases (h);show t
 |d::ds,_,_,_,(v,r,e,h1,h2),t=>by subst e;show(v,r++_,rfl,h1,am.append h2 t)
def am.get:∀{ds:LD} {vs:LVv} {i:Nat} {d:D},am G H ds vs->ds[i]?=aa d->∃v,vs[i]?=aa v/\Rep G H d v
 | [],_,_,_,_,e=>by simp at e
 |d::ds,_,0,_,(v,r,e,h1,_),e'=>by subst e;simp at e';subst e';show(v,rfl,h1)
 |d::ds,_,i+1,d',q4_,e'=>by
  have(v,r,e,_,h2):=q4_;subst e;have(u,a,b):=am.get h2 (by simpa using e');show(u,by simpa using a,b)
def am.get':∀{ds:LD} {vs:LVv} {i:Nat} {v:V},am G H ds vs->vs[i]?=aa v->∃d,ds[i]?=aa d/\Rep G H d v:=λ{ds vs i v} h e=>by
 have c:=h.length;have hi:i<Z ds:=by have:=(c7.mp e).1;lia
 have(u,a,b):=h.get (i:=i) (d:=ds[i]) (by simp[hi]);rw[e]at a;cases a;show(ds[i],by simp[hi],b)
def am.ints:∀(ns:LI0),am G H (ns.map D.int) (ns.map V.int)
 | []=>rfl
 |n::ns=>(_,_,rfl,rfl,am.ints ns)
def am.take:∀{ds:LD} {vs:LVv} (n:Nat),am G H ds vs->am G H (ds.take n) (vs.take n)
 | _,_,0,_=>rfl
 | [],_,n+1,h=>by cases (h);rfl
 |d::ds,_,n+1,(v,r,e,h1,h2)=>by subst e;show(v,r.take n,rfl,h1,am.take n h2)
def am.drop:∀{ds:LD} {vs:LVv} (n:Nat),am G H ds vs->am G H (ds.drop n) (vs.drop n)
 | _,_,0,h=>h
 | [],_,n+1,h=>by cases (h);rfl
 |d::ds,_,n+1,(v,r,e,h1,h2)=>by subst e;show am.drop n h2
def am.reverse:∀{ds:LD} {vs:LVv},am G H ds vs->am G H ds.reverse vs.reverse
 | [],_,h=>by cases (h);rfl
 |d::ds,_,q2_=>by
  have(v,r,e,a,h2):=q2_;subst e;rw[i6,i6];show(am.reverse h2).append (.cons a .nil)
def am.set:∀{ds:LD} {vs:LVv} (i:Nat) {d:D} {v:V},am G H ds vs->Rep G H d v->am G H (ds.set i d) (vs.set i v)
 | [],_,_,_,_,h,_=>by cases (h);show .nil
 |e::ds,_,0,_,_,(v,r,e',_,h2),q=>by subst e';show(_,r,rfl,q,h2)
 |e::ds,_,i+1,_,_,(v,r,e',h1,h2),q=>by subst e';show(v,r.set i _,rfl,h1,am.set i h2 q)
abbrev iG:HO->Bool
 |.tup _=>ac
 | _=>af
structure Ext(Hf H Hf' H':Hp):Prop where
 f:aq Hf Hf'
 h:aq H H'
 s:aq Hf' H'
 n:∀l o,H l=aa o->iG o=af->Hf' l=Hf l
variable{Hf:Hp}
def Ext.refl(s:aq Hf H):Ext Hf H Hf H:=(aq.refl _,aq.refl _,s,λ_ _ _ _=>rfl)
variable{b3 bm:Hp}
def Ext.trans(a:Ext Hf H b3 H1)(b:Ext b3 H1 bm H2):Ext Hf H bm H2:=(a.f.trans b.f,a.h.trans b.h,b.s,λl o e t=>(b.n l o (a.h l o e) t).trans (a.n l o e t))
def Ext.new{o:HO}(s:aq Hf H)(h:H p=ab):Ext Hf H (upd Hf p o) (upd H p o):=
 (bR (s.free h),bR h,λb u e=>by
  by_cases a:b=p
  .subst a;rw[bd]at e ⊢;show e
  .rw[aL a]at e ⊢;show s b u e,λl u e _=>by rw[aL (fF e h)])
def Ext.tmp{o:HO}(s:aq Hf H)(h:H p=ab):Ext Hf H Hf (upd H p o):=(aq.refl _,bR h,s.trans (bR h),λ_ _ _ _=>rfl)
def Ext.grow(s:aq Hf H)(g:aq H H1):Ext Hf H Hf H1:=(aq.refl _,g,s.trans g,λ_ _ _ _=>rfl)
def Ext.fix{o:HO}(a:Ext Hf H b3 H1)(hn:H p=ab)(d:b3 p=ab)(g:H1 p=aa o):Ext Hf H (upd b3 p o) H1:=
 (a.f.trans (bR d),a.h,λb u e=>by
  by_cases c:b=p
  .subst c;rw[bd]at e;rw[g];show e
  .rw[aL c]at e;show a.s b u e,λl u e t=>by rw[aL (fF e hn)];show a.n l u e t)
inductive O where
 |fz (d:D)
 |lst (E:List O)
 |tup (E:List O)
 |dic (ks:List Key) (E:List O)
 |ins (c:Str) (ns:LSt) (E:List O)
 |jnk (n:Nat)
 |dT (ks:List (List Key)) (E:List O)
 |at (l:Addr) (o:O)
 |any
 deriving Inhabited
mutual
def OT(G:Gc)(Hf H:Hp):O->V->LAd->Prop
 |.fz d,v,fp=>Rep G Hf d v/\fp=[]
 |.lst os,v,fp=>∃a vs fs,v=.ref a/\H a=aa (.lst vs)/\OTs G Hf H os vs fs/\fp=a::fs
 |.tup os,v,fp=>∃a vs,v=.ref a/\H a=aa (.tup vs)/\OTs G Hf H os vs fp
 |.dic ks os,v,fp=>∃a vs fs,v=.ref a/\H a=aa (.dK (ks.zip vs))/\Z ks=Z vs/\OTs G Hf H os vs fs/\fp=a::fs
 |.ins c ns os,v,fp=>∃a dx vs fs,v=.ref a/\H a=aa (.ins (G.cl c) dx (ns.zip vs))/\Z ns=Z vs/\OTs G Hf H os vs fs/\fp=a::fs
 |.jnk n,v,fp=>∃a vs,v=.ref a/\H a=aa (.lst vs)/\Z vs<=n/\fp=[a]
 |.dT ks os,v,fp=>∃a vs fs,v=.ref a/\H a=aa (.dT (ks.zip vs))/\Z ks=Z vs/\OTs G Hf H os vs fs/\fp=a::fs
 |.at l o,v,fp=>v=.ref l/\OT G Hf H o v fp
 |.any,_,fp=>fp=[]
def OTs(G:Gc)(Hf H:Hp):List O->LVv->LAd->Prop
 | [],vs,fp=>vs=[]/\fp=[]
 |o::os,vs,fp=>∃v r f1 f2,vs=v::r/\OT G Hf H o v f1/\OTs G Hf H os r f2/\fp=f1++f2
end
mutual
noncomputable def O.toD:O->D
 |.fz d=>d
 |.lst os=>.lst (O.toDs os)
 |.tup os=>.tup (O.toDs os)
 |.dic ks os=>.dic ks (O.toDs os)
 |.ins c ns os=>.ins c ns (O.toDs os)
 |.at _ o=>o.toD
 |.jnk _=>.non
 |.dT ks os=>.dT ks (O.toDs os)
 |.any=>.non
noncomputable def O.toDs:List O->LD
 | []=>[]
 |o::os=>o.toD::O.toDs os
end
mutual
noncomputable def O.kn:O->Bool
 |.fz _=>ac
 |.lst os=>O.kns os
 |.tup os=>O.kns os
 |.dic _ os=>O.kns os
 |.ins _ _ os=>O.kns os
 |.at _ o=>o.kn
 |.jnk _=>af
 |.dT _ os=>O.kns os
 |.any=>af
noncomputable def O.kns:List O->Bool
 | []=>ac
 |o::os=>o.kn && O.kns os
end
mutual
theorem OT.frameM(f:aq Hf Hf'):∀(o:O) (v:V) (fp:LAd),OT G Hf H o v fp->(∀b u,H b=aa u->(iG u=ac\/b∈fp)->H' b=aa u)->OT G Hf' H' o v fp
 |.fz d,_,_,h,_=>(h.1.up f,h.2)
 |.lst os,_,fp,h_,k=>by have(a,vs,fs,e,q,r,g):=h_;show(a,vs,fs,e,k _ _ q (.inr (by rw[g];show az)),OTs.frameM f os vs fs r (λb u i hm=>k b u i (hm.imp_right λz=>by rw[g];show bi _ z)),g)
 |.tup os,_,fp,h_,k=>by have(a,vs,e,q,r):=h_;show(a,vs,e,k _ _ q (.inl rfl),OTs.frameM f os vs fp r k)
 |.dic ks os,_,fp,h_,k=>by have(a,vs,fs,e,q,z,r,g):=h_;show(a,vs,fs,e,k _ _ q (.inr (by rw[g];show az)),z,OTs.frameM f os vs fs r (λb u i hm=>k b u i (hm.imp_right λz=>by rw[g];show bi _ z)),g)
 |.ins c ns os,_,fp,h_,k=>by have(a,dx,vs,fs,e,q,z,r,g):=h_;show(a,dx,vs,fs,e,k _ _ q (.inr (by rw[g];show az)),z,OTs.frameM f os vs fs r (λb u i hm=>k b u i (hm.imp_right λz=>by rw[g];show bi _ z)),g)
 |.jnk n,_,fp,h_,k=>by have(a,vs,e,q,z,g):=h_;show(a,vs,e,k _ _ q (.inr (by rw[g];show az)),z,g)
 |.dT ks os,_,fp,h_,k=>by have(a,vs,fs,e,q,z,r,g):=h_;show(a,vs,fs,e,k _ _ q (.inr (by rw[g];show az)),z,OTs.frameM f os vs fs r (λb u i hm=>k b u i (hm.imp_right λz=>by rw[g];show bi _ z)),g)
 |.at _ o,v,fp,h_,k=>by have(e,r):=h_;show(e,OT.frameM f o v fp r k)
 |.any,_,_,h,_=>h
theorem OTs.frameM(f:aq Hf Hf'):∀(os:List O) (vs:LVv) (fp:LAd),OTs G Hf H os vs fp->(∀b u,H b=aa u->(iG u=ac\/b∈fp)->H' b=aa u)->OTs G Hf' H' os vs fp
 | [],_,_,h,_=>h
 |o::os,_,fp,h_,k=>by have(v,r,f1,f2,e,d,h2,a):=h_;show(v,r,f1,f2,e,OT.frameM f o v f1 d (λb u c hm=>k b u c (hm.imp_right λz=>by rw[a];show bV _ z)),OTs.frameM f os r f2 h2 (λb u c hm=>k b u c (hm.imp_right λz=>by rw[a];show ci _ z)),a)
end
variable{Hf':Hp}
def OT.frame{o:O}(h:OT G Hf H o v fp)(f:aq Hf Hf')(k:∀b u,H b=aa u->(iG u=ac\/b∈fp)->H' b=aa u):OT G Hf' H' o v fp:=OT.frameM f o v fp h k
def OT.up{o:O}(h:OT G Hf H o v fp)(f:aq Hf Hf')(s:aq H H'):OT G Hf' H' o v fp:=h.frame f λb u e _=>s b u e
def ux{a b:Type}:∀{ks:List a} {vs us:List b},Z ks=Z vs->Z ks=Z us->ks.zip vs=ks.zip us->vs=us
 | [],[],[],_,_,_=>rfl
 |k::ks,v::vs,u::us,h1,h2,e=>by
  injection e with e1 e2
  injection e1 with _ e3
  rw[e3,ux (by simpa using h1) (by simpa using h2) e2]
 | [],_::_,_,h,_,_=>by cases h
 | [],[],_::_,_,h,_=>by cases h
 | _::_,[],_,h,_,_=>by cases h
 | _::_,_::_,[],_,h,_=>by cases h
mutual
theorem OT.funM:∀(o:O) (v:V) (f p:LAd),OT G Hf H o v f->OT G Hf' H o v p->f=p
 |.fz d,_,_,_,h,h'=>h.2.trans h'.2.symm
 |.lst os,_,_,_,q4_,q5_=>by
  have(a,vs,fs,e,q,r,l):=q4_;have(w,j,g,e',i,m,b):=q5_;subst e l b;cases e';rw[q]at i;cases i
  rw[OTs.funM os vs fs g r m]
 |.tup os,_,f,p,q4_,q5_=>by
  have(a,vs,e,q,r):=q4_;have(w,j,e',i,m):=q5_;subst e;cases e';rw[q]at i;cases i
  show OTs.funM os vs f p r m
 |.dic ks os,_,_,_,q4_,q5_=>by
  have(a,vs,fs,e,q,z,r,l):=q4_;have(w,j,g,e',i,u,m,b):=q5_;subst e l b;cases e';rw[q]at i;have:=ux z u (HO.dK.inj (dz i));subst this
  rw[OTs.funM os vs fs g r m]
 |.ins c ns os,_,_,_,q4_,q5_=>by
  have(a,dx,vs,fs,e,q,z,r,l):=q4_;have(w,x,j,g,e',i,u,m,b):=q5_;subst e l b;cases e';rw[q]at i;have:=ux z u (HO.ins.inj (dz i)).2.2;subst this
  rw[OTs.funM os vs fs g r m]
 |.jnk n,_,_,_,q4_,q5_=>by
  have(a,vs,e,q,z,l):=q4_;have(w,j,e',i,u,b):=q5_;subst e l b;cases e'
  rfl
 |.dT ks os,_,_,_,q4_,q5_=>by
  have(a,vs,fs,e,q,z,r,l):=q4_;have(w,j,g,e',i,u,m,b):=q5_;subst e l b;cases e';rw[q]at i;have:=ux z u (HO.dT.inj (dz i));subst this
  rw[OTs.funM os vs fs g r m]
 |.at _ o,v,f,p,h,h'=>OT.funM o v f p h.2 h'.2
 |.any,_,_,_,h,h'=>(show _=[]from h).trans (show _=[]from h').symm
theorem OTs.funM:∀(os:List O) (vs:LVv) (f i:LAd),OTs G Hf H os vs f->OTs G Hf' H os vs i->f=i
 | [],_,_,_,h,h'=>h.2.trans h'.2.symm
 |o::os,_,_,_,q4_,q5_=>by
  have(v,r,f1,f2,e,l,h2,j):=q4_;have(n,m,b,c,e',d,g,a):=q5_;subst e j a;cases e';rw[OT.funM o v f1 b l d,OTs.funM os r f2 c h2 g]
end
mutual
theorem OT.memM:∀(o:O) (v:V) (f:LAd),OT G Hf H o v f->∀a∈f,∃u,H a=aa u/\iG u=af
 |.fz d,_,_,h,a,ha=>by rw[h.2]at ha;cases ha
 |.lst os,_,_,q3_,b,hb=>by
  have(a,vs,fs,e,q,r,g):=q3_;subst g
  rcases bc.mp hb with z |z
  .subst z;show(_,q,rfl)
  .show OTs.memM os vs fs r b z
 |.tup os,_,f,(a,vs,e,q,r),b,hb=>OTs.memM os vs f r b hb
 |.dic ks os,_,_,q3_,b,hb=>by
  have(a,vs,fs,e,q,z,r,g):=q3_;subst g
  rcases bc.mp hb with z |z
  .subst z;show(_,q,rfl)
  .show OTs.memM os vs fs r b z
 |.ins c ns os,_,_,q3_,b,hb=>by
  have(a,dx,vs,fs,e,q,z,r,g):=q3_;subst g
  rcases bc.mp hb with z |z
  .subst z;show(_,q,rfl)
  .show OTs.memM os vs fs r b z
 |.jnk n,_,_,q3_,b,hb=>by
  have(a,vs,e,q,z,g):=q3_;subst g;rw[bw.mp hb]
  show(_,q,rfl)
 |.dT ks os,_,_,q3_,b,hb=>by
  have(a,vs,fs,e,q,z,r,g):=q3_;subst g
  rcases bc.mp hb with z |z
  .subst z;show(_,q,rfl)
  .show OTs.memM os vs fs r b z
 |.at _ o,v,f,h,a,ha=>OT.memM o v f h.2 a ha
 |.any,_,_,h,a,ha=>by rw[show _=[]from h]at ha;cases ha
theorem OTs.memM:∀(os:List O) (vs:LVv) (f:LAd),OTs G Hf H os vs f->∀a∈f,∃u,H a=aa u/\iG u=af
 | [],_,_,h,a,ha=>by rw[h.2]at ha;cases ha
 |o::os,_,_,q3_,a,ha=>by
  have(v,r,f1,f2,e,c,h2,b):=q3_;subst b
  rcases bz.mp ha with z |z
  .show OT.memM o v f1 c a z
  .show OTs.memM os r f2 h2 a z
end
mutual
theorem OT.repM(s:aq Hf H):∀(o:O) (v:V) (f:LAd),o.kn=ac->OT G Hf H o v f->Rep G H o.toD v
 |.fz d,_,_,_,h=>by rw[O.toD];show h.1.up s
 |.lst os,_,_,hk,h_=>by have(a,vs,fs,e,q,r,b):=h_;rw[O.kn]at hk;rw[O.toD];show(a,vs,e,q,OTs.repM s os vs fs hk r)
 |.tup os,_,f,hk,h_=>by have(a,vs,e,q,r):=h_;rw[O.kn]at hk;rw[O.toD];show(a,vs,e,q,OTs.repM s os vs f hk r)
 |.dic ks os,_,_,hk,h_=>by have(a,vs,fs,e,q,z,r,b):=h_;rw[O.kn]at hk;rw[O.toD];show(a,vs,e,q,z,OTs.repM s os vs fs hk r)
 |.ins c ns os,_,_,hk,h_=>by have(a,dx,vs,fs,e,q,z,r,b):=h_;rw[O.kn]at hk;rw[O.toD];show(a,dx,vs,e,q,z,OTs.repM s os vs fs hk r)
 |.at _ o,v,f,hk,h=>by rw[O.kn]at hk;rw[O.toD];show OT.repM s o v f hk h.2
 |.jnk _,_,_,hk,_=>by rw[O.kn]at hk;cases hk
 |.dT ks os,_,_,hk,h_=>by have(a,vs,fs,e,q,z,r,b):=h_;rw[O.kn]at hk;rw[O.toD];show(a,vs,e,q,z,OTs.repM s os vs fs hk r)
 |.any,_,_,hk,_=>by rw[O.kn]at hk;cases hk
theorem OTs.repM(s:aq Hf H):∀(os:List O) (vs:LVv) (f:LAd),O.kns os=ac->OTs G Hf H os vs f->am G H (O.toDs os) vs
 | [],_,_,_,h=>by rw[O.toDs];show h.1
 |o::os,_,_,hk,h_=>by
  have(v,r,f1,f2,e,a,h2,b):=h_;rw[O.kns,b5]at hk;rw[O.toDs];show(v,r,e,OT.repM s o v f1 hk.1 a,OTs.repM s os r f2 hk.2 h2)
end
def OT.rep{o:O}{f:LAd}(h:OT G Hf H o v f)(s:aq Hf H)(a:o.kn=ac):Rep G H o.toD v:=OT.repM s o v f a h
def OTs.fz:∀{ds:LD} {vs:LVv},am G Hf ds vs->OTs G Hf H (ds.map .fz) vs []
 | [],_,h=>(h,rfl)
 |d::ds,_,(v,r,e,h1,h2)=>(v,r,[],[],e,(h1,rfl),OTs.fz h2,rfl)
def yy(ds:LD):O.toDs (ds.map .fz)=ds:=by
 induction ds with
 |nil=>rfl
 |cons d ds a=>rw[bE,O.toDs,O.toD,a]
inductive Sl where
 |no
 |im (d:D)
 |own (E:LD)
 |ownd (ks:List Key) (E:LD)
 |obj (c:Str) (ns:LSt) (E:LD)
 |pin (l:Addr) (E:LD)
 |pind (l:Addr) (ks:List Key) (E:LD)
 |pino (l:Addr) (c:Str) (ns:LSt) (E:LD)
 |deep (o:O)
 |val (u:V)
nonrec abbrev LS:=List Sl
nonrec def nZ{a:Type}:LS->Option (List a):=λ_=>aa []
nonrec def kY:LS->Option Bool:=λ_=>aa ac
nonrec def kN:LS->OD:=λ_=>aa .non
nonrec def kI(i:Int):LS->OD:=λ_=>aa (.int i)
nonrec def kSt(x:Str):LS->OD:=λ_=>aa (.str x)
nonrec def kBl(b:Bool):LS->OD:=λ_=>aa (.bl b)
nonrec abbrev MF1:=LS->OD
nonrec abbrev MF2:=LS->OLD
nonrec abbrev MF4:=LS->Option Bool
abbrev Sl.isOwn:Sl->Bool
 |.own _=>ac
 |.ownd _ _=>ac
 |.obj _ _ _=>ac
 |.pin _ _=>ac
 |.pind _ _ _=>ac
 |.pino _ _ _ _=>ac
 | _=>af
abbrev Sl.calm:Sl->Bool
 |.no=>ac
 |.im _=>ac
 | _=>af
abbrev jm(G:Gc)(Hf H:Hp)(l:Addr):Sl->Prop
 |.own ds=>∃vs,H l=aa (.lst vs)/\am G Hf ds vs
 |.ownd ks ds=>∃vs,H l=aa (.dK (ks.zip vs))/\Z ks=Z vs/\am G Hf ds vs
 |.obj c ns ds=>∃dx vs,H l=aa (.ins (G.cl c) dx (ns.zip vs))/\Z ns=Z vs/\am G Hf ds vs
 |.pin a ds=>l=a/\∃vs,H l=aa (.lst vs)/\am G Hf ds vs
 |.pind a ks ds=>l=a/\∃vs,H l=aa (.dK (ks.zip vs))/\Z ks=Z vs/\am G Hf ds vs
 |.pino a c ns ds=>l=a/\∃dx vs,H l=aa (.ins (G.cl c) dx (ns.zip vs))/\Z ns=Z vs/\am G Hf ds vs
 | _=>False
variable{l:Addr}
def jm.there2{s:Sl}(h:jm G Hf H l s):∃o,H l=aa o/\iG o=af:=by
 cases s with
 |own ds=>have(vs,h,_):=h;show(_,h,rfl)
 |ownd ks ds=>have(vs,h,_):=h;show(_,h,rfl)
 |obj c ns ds=>have(dx,vs,h,_):=h;show(_,h,rfl)
 |pin a ds=>have(_,vs,h,_):=h;show(_,h,rfl)
 |pind a ks ds=>have(_,vs,h,_):=h;show(_,h,rfl)
 |pino a c ns ds=>have(_,dx,vs,h,_):=h;show(_,h,rfl)
 | _=>show h.elim
def jm.up{s:Sl}(h:jm G Hf H l s)(f:aq Hf Hf')(e:∀o,H l=aa o->H' l=aa o):jm G Hf' H' l s:=by
 cases s with
 |own ds=>have(vs,h,r):=h;show(vs,e _ h,r.up f)
 |ownd ks ds=>have(vs,h,z,r):=h;show(vs,e _ h,z,r.up f)
 |obj c ns ds=>have(dx,vs,h,z,r):=h;show(dx,vs,e _ h,z,r.up f)
 |pin a ds=>have(q,vs,h,r):=h;show(q,vs,e _ h,r.up f)
 |pind a ks ds=>have(q,vs,h,z,r):=h;show(q,vs,e _ h,z,r.up f)
 |pino a c ns ds=>have(q,dx,vs,h,z,r):=h;show(q,dx,vs,e _ h,z,r.up f)
 | _=>show h.elim
abbrev gH(G:Gc)(H0 Hf H:Hp)(v:Option V):Sl->Prop
 |.no=>True
 |.im d=>∃u,v=aa u/\Rep G Hf d u
 |.deep o=>∃u fp,v=aa u/\OT G Hf H o u fp/\fp.Nodup/\∀a∈fp,H0 a=ab/\Hf a=ab
 |.val u=>v=aa u
 |s=>∃l,v=aa (.ref l)/\H0 l=ab/\Hf l=ab/\jm G Hf H l s
variable{H0:Hp}
def gH.own{v:Option V}{s:Sl}(a:s.isOwn=ac)(h:gH G H0 Hf H v s):∃l,v=aa (.ref l)/\H0 l=ab/\Hf l=ab/\jm G Hf H l s:=by
 cases s <;> first |show h |cases a
def gH.ofOwn{v:Option V}{s:Sl}(a:s.isOwn=ac)(h:∃l,v=aa (.ref l)/\H0 l=ab/\Hf l=ab/\jm G Hf H l s):gH G H0 Hf H v s:=by
 cases s <;> first |show h |cases a
def Holds(G:Gc)(Hf H:Hp)(s:Sl)(v:V)(a:Addr):Prop:=match s with
 |.deep o=>∃fp,OT G Hf H o v fp/\a∈fp
 |s=>s.isOwn=ac/\v=.ref a
def Holds.own{s:Sl}(b:s.isOwn=ac):Holds G Hf H s v a↔v=.ref a:=by
 cases s <;> first |show(λh=>h.2,λh=>(rfl,h)) |nomatch b
def Holds.calm{s:Sl}(h:Holds G Hf H s v a)(b:s.calm=ac):False:=by
 cases s <;> first |show tG h.1 |nomatch b
def gH.back{s:Sl}(q:gH G H0 Hf H (aa v) s)(k:∀o fp,s=.deep o->OT G Hf H o v fp->OT G Hf' H' o v fp)(h:Holds G Hf' H' s v a):Holds G Hf H s v a:=by
 cases s with
 |deep o=>
  have(u,fp,e,r,_):=q;cases e;have(fp',b,ha):=h;have:=OT.funM o v fp fp' (k o fp rfl r) b;subst this
  show(fp,r,ha)
 | _=>show h
def gH.there{s:Sl}(q:gH G H0 Hf H (aa v) s)(h:Holds G Hf H s v a):∃o,H a=aa o/\iG o=af:=by
 cases b:s.isOwn with
 |true=>
  have(l,e,_,_,c):=q.own b;cases e;cases ((Holds.own b).mp h)
  show c.there2
 |false=>
  cases s with
  |deep o=>
   have(fp,r,ha):=h
   show OT.memM o v fp r a ha
  | _=>first |show tG h.1 |nomatch b
structure au(G:Gc)(Hf0 H0 Hf H:Hp)(C:St)(M:LS):Prop where
 ext:Ext Hf0 H0 Hf H
 len:Z C=Z M
 at':∀(i:Nat) (v:Option V) (s:Sl),C[i]?=aa v->M[i]?=aa s->gH G H0 Hf H v s
 dj:∀(i j:Nat) (s t:Sl) (v w:V) (a:Addr),M[i]?=aa s->M[j]?=aa t->C[i]?=aa (aa v)->C[j]?=aa (aa w)->Holds G Hf H s v a->Holds G Hf H t w a->i=j
variable{Hf0:Hp}{M:LS}
def au.sub(h:au G Hf0 H0 Hf H C M):aq Hf H:=h.ext.s
def au.inj(h:au G Hf0 H0 Hf H C M)(i j:Nat)(s t:Sl)(l:Addr)(a:M[i]?=aa s)(b:M[j]?=aa t)(e:s.isOwn=ac)(f:t.isOwn=ac)(c:C[i]?=aa (aa (.ref l)))(d:C[j]?=aa (aa (.ref l))):i=j:=
 h.dj i j s t _ _ l a b c d ((Holds.own e).mpr rfl) ((Holds.own f).mpr rfl)
variable{ρ':LS}
def au.re{d g:Hp}(h:au G Hf0 H0 Hf H C M)(x:Ext d g Hf' H')(l:Z ρ'=Z M)(ha:∀(i:Nat) (v:Option V) (s:Sl),C[i]?=aa v->ρ'[i]?=aa s->gH G g Hf' H' v s)
 (hd:∀(i:Nat) (s:Sl) (v:V) (a:Addr),ρ'[i]?=aa s->C[i]?=aa (aa v)->Holds G Hf' H' s v a->∃t,M[i]?=aa t/\Holds G Hf H t v a):au G d g Hf' H' C ρ':=
 (x,h.len.trans l.symm,ha,λi j s t v w a b c e f p q=>by
  have(r,b0,m):=hd i s v a b e p;have(t0,c0,n):=hd j t w a c f q;show h.dj i j r t0 v w a b0 c0 e f m n)
def au.step(h:au G Hf0 H0 Hf H C M)(e:Ext Hf H Hf' H'):au G Hf0 H0 Hf' H' C M:=by
 show h.re (h.ext.trans e) rfl (λi v s a b=>?_) λi s v a b c d=>(s,b,(h.at' i _ s c b).back (λo fp _ r=>r.up e.f e.h) d);have q:=h.at' i v s a b
 cases m:s.isOwn with
 |true=>
  have(l,g,x,y,w):=q.own m;have(o,j,p):=w.there2
  show .ofOwn m (l,g,x,by rw[e.n l o j p];show y,w.up e.f λo j=>e.h _ _ j)
 |false=>
  cases s with
  |no=>trivial
  |im d=>have(u,g,r):=q;show(u,g,r.up e.f)
  |val u=>show q
  |deep o=>
   have(u,fp,g,r,n,z):=q;show(u,fp,g,r.up e.f e.h,n,λa ha=>((z a ha).1,?_));have(A,j,p):=OT.memM o u fp r a ha;rw[e.n a A j p]
   show(z a ha).2
  | _=>nomatch m
def au.slot{s:Sl}(h:au G Hf0 H0 Hf H C M)(e:M[i]?=aa s):∃v,C[i]?=aa v/\gH G H0 Hf H v s:=by
 have hi:i<Z C:=by rw[h.len];show(c7.mp e).1
 show(C[i],by simp[hi],h.at' i _ s (by simp[hi]) e)
def au.imm(h:au G Hf0 H0 Hf H C M)(e:M[i]?=aa (.im d)):∃v,C[i]?=aa (aa v)/\Rep G Hf d v:=by
 have(v,a,u,b,r):=h.slot e;subst b;show(u,a,r)
def au.ownAt{s:Sl}(c:s.isOwn=ac)(h:au G Hf0 H0 Hf H C M)(e:M[i]?=aa s):∃l,C[i]?=aa (aa (.ref l))/\H0 l=ab/\Hf l=ab/\jm G Hf H l s:=by
 have(v,a,q):=h.slot e;have(l,b,d):=q.own c;rw[b]at a;show(l,a,d)
variable{j:Nat}
def cY{b:Type}{l:List b}{x y:b}(h:(l.set i x)[j]?=aa y):(j=i/\y=x/\i<Z l)\/(j≠i/\l[j]?=aa y):=by
 by_cases a:j=i
 .subst a;left;have hi:j<Z l:=by have:=(c7.mp h).1;simpa using this
  rw[j9 hi]at h;show(rfl,(dz h).symm,hi)
 .right;rw[lh (eQ a)]at h;show(a,h)
def au.setIm(h:au G Hf0 H0 Hf H C M)(r:Rep G Hf d v):au G Hf0 H0 Hf H (C.set i (aa v)) (M.set i (.im d)):=by
 show(h.ext,by simpa using h.len,λj u s a b=>?_,λj k s t u w l a b c d' p q=>?_)
 .rcases cY b with⟨e,e',_⟩ |⟨e,b⟩
  .subst e e'
   rcases cY a with⟨_,e',_⟩ |⟨e,_⟩
   .subst e';show(v,rfl,r)
   .show absurd rfl e
  .rcases cY a with⟨e',_⟩ |⟨_,a⟩
   .show absurd e' e
   .show h.at' j u s a b
 .rcases cY a with⟨e,e',_⟩ |⟨e,a⟩
  .subst e';show(p.calm rfl).elim
  .rcases cY b with⟨f,e',_⟩ |⟨f,b⟩
   .subst e';show(q.calm rfl).elim
   .rcases cY c with⟨e',_⟩ |⟨_,c⟩
    .show absurd e' e
    .rcases cY d' with⟨e',_⟩ |⟨_,d'⟩
     .show absurd e' f
     .show h.dj j k s t u w l a b c d' p q
def au.setNo(h:au G Hf0 H0 Hf H C M):au G Hf0 H0 Hf H C (M.set i .no):=by
 show h.re h.ext (by simp) (λj u s a b=>?_) λj s v a b c d=>?_
 .rcases cY b with⟨e,e',_⟩ |⟨e,b⟩
  .subst e';trivial
  .show h.at' j u s a b
 .rcases cY b with⟨e,e',_⟩ |⟨e,b⟩
  .subst e';show(d.calm rfl).elim
  .show(s,b,d)
variable{u:V}
def au.setNew{s:Sl}(h:au G Hf0 H0 Hf H C M)(e:Ext Hf H Hf' H')(n:gH G H0 Hf' H' (aa u) s)(hn:∀a,Holds G Hf' H' s u a->H a=ab):
  au G Hf0 H0 Hf' H' (C.set i (aa u)) (M.set i s):=by
 have h':=h.step e
 have no:∀j t w a,M[j]?=aa t->C[j]?=aa _->Holds G Hf' H' t w a->Holds G Hf' H' s u a->False:=λj t w a b c p q=>by
  have(o,n,_):=(h.at' j _ t c b).there ((h.at' j _ t c b).back (λo fp _ r=>r.up e.f e.h) p);rw[hn a q]at n;nomatch n
 show(h'.ext,by simpa using h.len,λj w t a b=>?_,λj k t t' v w l a b c d' p q=>?_)
 .rcases cY b with⟨e,e',_⟩ |⟨e,b⟩
  .subst e e'
   rcases cY a with⟨_,e',_⟩ |⟨e,_⟩
   .subst e';show n
   .show absurd rfl e
  .rcases cY a with⟨e',_⟩ |⟨_,a⟩
   .show absurd e' e
   .show h'.at' j w t a b
 .rcases cY a with⟨m,x,_⟩ |⟨m,a⟩
  .rcases cY b with⟨d,g,_⟩ |⟨d,b⟩
   .rw[m,d]
   .rcases cY c with⟨_,e',_⟩ |⟨e',_⟩
    .cases e';rw[x]at p
     rcases cY d' with⟨e',_⟩ |⟨_,d'⟩
     .show absurd e' d
     .show(no k t' w l b d' q p).elim
    .show absurd m e'
  .rcases cY c with⟨e',_⟩ |⟨_,c⟩
   .show absurd e' m
   .rcases cY b with⟨d,g,_⟩ |⟨d,b⟩
    .rcases cY d' with⟨_,e',_⟩ |⟨e',_⟩
     .cases e';rw[g]at q;show(no j t v l a c p q).elim
     .show absurd d e'
    .rcases cY d' with⟨e',_⟩ |⟨_,d'⟩
     .show absurd e' d
     .show h'.dj j k t t' v w l a b c d' p q
def au.setOwn{s:Sl}(b:s.isOwn=ac)(h:au G Hf0 H0 Hf H C M)(e:Ext Hf H Hf' H')(hn:H l=ab)(c:Hf' l=ab)(d:jm G Hf' H' l s):
  au G Hf0 H0 Hf' H' (C.set i (aa (.ref l))) (M.set i s):=
 h.setNew e (.ofOwn b (l,rfl,h.ext.h.free hn,c,d)) λa p=>by cases (Holds.own b).mp p;show hn
def au.chg{s s':Sl}(h:au G Hf0 H0 Hf H C M)(e:M[i]?=aa s)(el:C[i]?=aa (aa v))(k:∀b u,H b=aa u->Holds G Hf H s v b\/H' b=aa u)(ho:gH G H0 Hf H' (aa v) s')
 (hh:∀a,Holds G Hf H' s' v a->Holds G Hf H s v a\/∀(j:Nat) (t:Sl) (w:V),M[j]?=aa t->C[j]?=aa (aa w)->Holds G Hf H t w a->False):au G Hf0 H0 Hf H' C (M.set i s'):=by
 have q:=h.at' i _ s el e
 have m:∀b,Holds G Hf H s v b->H0 b=ab/\Hf b=ab:=λb p=>by
  cases hs:s.isOwn with
  |true=>
   have(l,J,h0,hf,_):=q.own hs;have A:=(Holds.own hs).mp p;cases J;cases A
   show(h0,hf)
  |false=>
   cases s with
   |deep o=>
    have(u,fp,J,r,n,z):=q;cases J;have(fp',r',ha):=p;have:=OT.funM o v fp fp' r r';subst this
    show z b ha
   | _=>first |show tG p.1 |nomatch hs
 have fr:∀j t w,j≠i->M[j]?=aa t->C[j]?=aa (aa w)->∀o fp,t=.deep o->OT G Hf H o w fp->OT G Hf H' o w fp:=λj t w hj b c o fp et r=>by
  subst et;show r.frame (aq.refl _) λx u hx hm=>?_
  rcases k x u hx with z |z
  .rcases hm with hm |hm
   .have(o',g,L):=q.there z;rw[hx]at g;cases g;rw[hm]at L
    nomatch L
   .show absurd (h.dj j i _ s w v x b e c el (fp,r,hm) z) hj
  .show z
 show((h.ext.f,λb u e=>?_,λb u e=>?_,h.ext.n),by simpa using h.len,λj u t a b=>?_,λj T t t' w Y a b c b' N p p'=>?_)
 .rcases k b u (h.ext.h b u e)with z |z
  .rw[(m b z).1]at e;nomatch e
  .show z
 .rcases k b u (h.ext.s b u e)with z |z
  .rw[(m b z).2]at e;nomatch e
  .show z
 .rcases cY b with⟨e',A,_⟩ |⟨en,b⟩
  .subst e' A;rw[el]at a;cases a;show ho
  .have U:=h.at' j u t a b
   cases Q:t.isOwn with
   |false=>
    cases t with
    |no=>trivial
    |im d=>show U
    |val u=>show U
    |deep o=>
     have(w,fp,J,r,n,z):=U;subst J
     show(w,fp,rfl,fr j _ w en b a o fp rfl r,n,z)
    | _=>nomatch Q
   |true=>
    have(l2,A,e3,e4,q2):=U.own Q;subst A;show .ofOwn Q (l2,rfl,e3,e4,q2.up (aq.refl _) λo' g=>?_)
    rcases k l2 o' g with z |z
    .show absurd (h.dj j i t s _ v l2 b e a el ((Holds.own Q).mpr rfl) z) en
    .show z
 .have B:∀j t w,_[j]?=aa t->C[j]?=aa (aa w)->Holds G Hf H' t w a->(j=i/\∀j t w,M[j]?=aa t->C[j]?=aa (aa w)->Holds G Hf H t w a->False)\/∃t0,M[j]?=aa t0/\Holds G Hf H t0 w a:=λj t w b y p=>by
   rcases cY b with⟨e',A,_⟩ |⟨en,b⟩
   .rw[A]at p;rw[e',el]at y;cases y;rw[e']
    rcases hh a p with z |z
    .show .inr (s,e,z)
    .show .inl (rfl,z)
   .show .inr (t,b,(h.at' j _ t y b).back (fr j t w en b y) p)
  rcases B j t w b b' p with⟨z1,z2⟩ |⟨t0,z1,z2⟩
  .rcases B T t' Y c N p' with⟨E,I⟩ |⟨t1,E,I⟩
   .rw[z1,E]
   .show(z2 T t1 Y E N I).elim
  .rcases B T t' Y c N p' with⟨E,I⟩ |⟨t1,E,I⟩
   .show(I j t0 w z1 b' z2).elim
   .show h.dj j T t0 t1 w Y a z1 E b' N z2 I
def au.chgX{s l:Sl}(h:au G Hf0 H0 Hf H C M)(x:Ext Hf H Hf' H1)(e:M[i]?=aa s)(el:C[i]?=aa (aa v))(k:∀b u,H1 b=aa u->Holds G Hf H s v b\/H' b=aa u)(d:gH G H0 Hf' H' (aa v) l)
 (m:∀a,Holds G Hf' H' l v a->Holds G Hf H s v a\/H a=ab):au G Hf0 H0 Hf' H' C (M.set i l):=by
 have up:∀b,Holds G Hf H s v b->Holds G Hf' H1 s v b:=λb p=>by
  cases s with
  |deep o=>have(fp,r,g):=p;show(fp,r.up x.f x.h,g)
  | _=>show p
 show(h.step x).chg e el (λb u g=>(k b u g).imp_left (up b)) d λa p=>?_
 rcases m a p with z |z
 .show .inl (up a z)
 .show .inr λj t w b c q=>?_;have(o,d,_):=(h.at' j _ t c b).there ((h.at' j _ t c b).back (λo fp _ r=>r.up x.f x.h) q);rw[z]at d
  nomatch d
def au.mutd{s f:Sl}{o:HO}(d:s.isOwn=ac)(c:f.isOwn=ac)(h:au G Hf0 H0 Hf H C M)(e:M[i]?=aa s)(el:C[i]?=aa (aa (.ref l)))(v:jm G Hf (upd H l o) l f):
  au G Hf0 H0 Hf (upd H l o) C (M.set i f):=by
 have(w,g,m,r,q):=h.ownAt d e;rw[el]at g;cases g;show h.chg e el (λb u n=>?_) (.ofOwn c (l,rfl,m,r,v)) λa p=>.inl ((Holds.own d).mpr ((Holds.own c).mp p))
 by_cases j:b=l
 .subst j;show .inl ((Holds.own d).mpr rfl)
 .show .inr (by rw[aL j];show n)
def au.fixd{s:Sl}{o:HO}(B:s.isOwn=ac)(h:au G Hf0 H0 Hf H C M)(e:M[i]?=aa s)(el:C[i]?=aa (aa (.ref l)))(U:H l=aa o)(hr:Rep G (upd Hf l o) d (.ref l)):
  au G Hf0 H0 (upd Hf l o) H C (M.set i (.im d)):=by
 have(l',f,T,g,q):=h.ownAt B e;rw[el]at f;cases f;show h.re (h.ext.fix T g U) (by simp) (λj u t a b=>?_) λj t v a b c p=>?_
 .rcases cY b with⟨e,e',_⟩ |⟨en,b⟩
  .subst e e';rw[el]at a;cases a;show(_,rfl,hr)
  .have q:=h.at' j u t a b
   cases m:t.isOwn with
   |false=>
    cases t with
    |no=>trivial
    |im d=>have(J,f,r):=q;show(J,f,r.up (bR g))
    |val J=>show q
    |deep o=>
     have(w,fp,f,r,n,z):=q;subst f;show(w,fp,rfl,r.up (bR g) (aq.refl _),n,λx E=>((z x E).1,?_));rw[aL (λy=>?_)]
     .show(z x E).2
     .subst y
      show en (h.dj j i _ s w _ x b e a el (fp,r,E) ((Holds.own B).mpr rfl))
    | _=>nomatch m
   |true=>
    have(I,L,N,Q,Y):=q.own m;subst L;show .ofOwn m (I,rfl,N,?_,Y.up (bR g) λo' A=>A);rw[aL (λz=>?_)]
    .show Q
    .subst z;show en (h.inj j i t s I b e m B a el)
 .rcases cY b with⟨_,e',_⟩ |⟨_,b⟩
  .subst e';show(p.calm rfl).elim
  .show(t,b,(h.at' j _ t c b).back (λo fp _ r=>r.up (bR g) (aq.refl _)) p)
def PE.imp{t':TE}(h:PE X e t)(i:∀C H Q,t' C H Q->t C H Q):PE X e t':=λU s C H Q I q=>h U s C H Q I (i C H Q q)
variable{t':TT}
def PT.imp{t:TT}(h:PT X e t)(i:∀C H Q,t' C H Q->t C H Q):PT X e t':=λU s C H Q I q=>h U s C H Q I (i C H Q q)
def PW.imp{t:TT}(h:PW X e t)(i:∀C H Q,t' C H Q->t C H Q):PW X e t':=λwh U s C H Q I q=>h wh U s C H Q I (i C H Q q)
variable{es:LEx}
def PA.imp{t t':TA}(h:PA X es t)(i:∀C H Q,t' C H Q->t C H Q):PA X es t':=λpos U s C H Q I q=>h pos U s C H Q I (i C H Q q)
def PS.imp{st:Stmt}{t t':TS}(h:PS X st t)(i:∀X4 C H,t' X4 C H->t X4 C H):PS X st t':=λU s C H X4 I q=>h U s C H X4 I (i X4 C H q)
def PSs.imp{st:List Stmt}{t t':TS}(h:PSs X st t)(i:∀X4 C H,t' X4 C H->t X4 C H):PSs X st t':=λU s C H X4 I q=>h U s C H X4 I (i X4 C H q)
def PG.imp{t t':TG}(h:PG X e t)(i:∀v C H Q,t' v C H Q->t v C H Q):PG X e t':=λU s C H v u Q I r q=>h U s C H v u Q I r (i v C H Q q)
def PGs.imp{t t':TGs}(h:PGs X es t)(i:∀v C H Q,t' v C H Q->t v C H Q):PGs X es t':=λU s C H v u Q I r q=>h U s C H v u Q I r (i v C H Q q)
def PI.imp{t t':TI}(h:PI X tg e t)(i:∀C H R,t' C H R->t C H R):PI X tg e t':=λU s C H R I q=>h U s C H R I (i C H R q)
def PTs.imp{t:TT}(h:PTs X c3 t)(i:∀C H Q,t' C H Q->t C H Q):PTs X c3 t':=λU s C H Q I q=>h U s C H Q I (i C H Q q)
def OpR.imp{f:Value->Value->Sem Value}{r a:R2}(h:OpR X f r)(i:∀x y H Q,a x y H Q->r x y H Q):OpR X f a:=λU s C H x y v u Q I b c q=>h U s C H x y v u Q I b c (i x y H Q q)
def ie.imp{f:Value}{r a:LVv->Hp->VK->Prop}(h:ie X f r)(i:∀E H Q,a E H Q->r E H Q):ie X f a:=λU s C H E us Q I b q=>h U s C H E us Q I b (i E H Q q)
nonrec def Gx(c:Str->Addr)(X:Cx):Gc:=(X.K,c)
inductive tD(G:Gc)(f:MF1)(C:St)(H:Hp)(Q:VK):Prop
 |mk:∀Hf0 H0 Hf M d,au G Hf0 H0 Hf H C M->f M=aa d->(∀v Hf' H',Ext Hf H Hf' H'->Rep G Hf' d v->Q v H')->tD G f C H Q
inductive tDB(G:Gc)(f:MF1)(C:St)(H:Hp)(Q:VK):Prop
 |mk:∀Hf0 H0 Hf M d,au G Hf0 H0 Hf H C M->f M=aa d->(∀v Hf' H',Ext Hf H Hf' H'->Rep G H' d v->Q v H')->tDB G f C H Q
inductive tDC(G:Gc)(f:MF2)(C:St)(H:Hp)(Q:VK):Prop
 |mk:∀Hf0 H0 Hf M ds,au G Hf0 H0 Hf H C M->f M=aa ds->(∀a vs Hf' H',Ext Hf H Hf' H'->(SqL G.K H' a vs\/SqT G.K H' a vs)->am G Hf' ds vs->Q (.ref a) H')->tDC G f C H Q
inductive tDO(G:Gc)(f:MF2)(C:St)(H:Hp)(Q:VK):Prop
 |mk:∀Hf0 H0 Hf M ds,au G Hf0 H0 Hf H C M->f M=aa ds->(∀l vs Hf' H',Ext Hf H Hf' H'->H l=ab->Hf' l=ab->H' l=aa (.lst vs)->am G Hf' ds vs->Q (.ref l) H')->tDO G f C H Q
inductive tDA(G:Gc)(f:MF2)(C:St)(H:Hp)(Q:LVv->Hp->Prop):Prop
 |mk:∀Hf0 H0 Hf M ds,au G Hf0 H0 Hf H C M->f M=aa ds->(∀vs Hf' H',Ext Hf H Hf' H'->am G Hf' ds vs->Q vs H')->tDA G f C H Q
inductive FN(G:Gc)(f:MF2)(C:St)(H:Hp)(Q:LVv->Hp->Prop):Prop
 |mk:∀Hf0 H0 Hf M ds,au G Hf0 H0 Hf H C M->f M=aa ds->(∀vs Hf' H',Ext Hf H Hf' H'->am G H' ds vs->Q vs H')->FN G f C H Q
inductive tDT(G:Gc)(f:MF4)(C:St)(H:Hp)(Q:Bool->Hp->Prop):Prop
 |mk:∀Hf0 H0 Hf M b,au G Hf0 H0 Hf H C M->f M=aa b->(∀Hf' H',Ext Hf H Hf' H'->Q b H')->tDT G f C H Q
def DE(c:Str->Addr)(X:Cx)(e:Expr)(f:MF1):Prop:=PE X e (tD (Gx c X) f)
def DB(c:Str->Addr)(X:Cx)(e:Expr)(f:MF1):Prop:=PE X e (tDB (Gx c X) f)
def DC(c:Str->Addr)(X:Cx)(e:Expr)(f:MF2):Prop:=PE X e (tDC (Gx c X) f)
def DO(c:Str->Addr)(X:Cx)(e:Expr)(f:MF2):Prop:=PE X e (tDO (Gx c X) f)
structure DA(c:Str->Addr)(X:Cx)(es:LEx)(f:MF2):Prop where
 pa:PA X es (tDA (Gx c X) f)
 len:∀M ds,f M=aa ds->Z ds=Z es
structure DAB(c:Str->Addr)(X:Cx)(es:LEx)(f:MF2):Prop where
 pa:PA X es (FN (Gx c X) f)
 len:∀M ds,f M=aa ds->Z ds=Z es
def DT(c:Str->Addr)(X:Cx)(e:Expr)(f:MF4):Prop:=PT X e (tDT (Gx c X) f)
def DW(c:Str->Addr)(X:Cx)(e:Expr)(f:MF4):Prop:=PW X e (tDT (Gx c X) f)
abbrev D.scalar:D->Bool
 |.non=>ac
 |.bl _=>ac
 |.int _=>ac
 |.str _=>ac
 | _=>af
def Rep.sc(a:d.scalar=ac)(r:Rep G H d v):Rep G H' d v:=by
 cases d <;> first |show r |cases a
abbrev iH:D->OLD
 |.lst E=>aa E
 |.tup E=>aa E
 |.kl E=>aa E
 |.kt E=>aa E
 | _=>ab
def rb(e:iH d=aa ds)(r:Rep G H d v):∃a vs,v=.ref a/\(SqL G.K H a vs\/SqT G.K H a vs)/\am G H ds vs:=by
 cases d with
 |lst E=>cases e;have(a,vs,b,q,r):=r;show(a,vs,b,.inl (SqL.of q),r)
 |tup E=>cases e;have(a,vs,b,q,r):=r;show(a,vs,b,.inr (SqT.of q),r)
 |kl E=>cases e;have(a,vs,b,q,r):=r;show(a,vs,b,.inl q,r)
 |kt E=>cases e;have(a,vs,b,q,r):=r;show(a,vs,b,.inr q,r)
 | _=>nomatch e
def yA(s:aq H H')(h:SqL K H a vs\/SqT K H a vs):SqL K H' a vs\/SqT K H' a vs:=h.imp s.seq s.tup
def aP(f:MF2)(M:LS):OD:=(f M).map .lst
def bx(f:MF2)(M:LS):OD:=(f M).map .tup
def aV(f:MF1)(M:LS):OLD:=(f M).bind iH
def bh(f g:MF1)(M:LS):OD:=(f M).or (g M)
variable{c:Str->Addr}{f:MF1}
def DE.db(h:DE c X e f):DB c X e f:=PE.imp h λC H Q b=>by
 have(Hf0,H0,Hf,M,d,st,a,k):=b;show((Hf0,H0,Hf,M,d,st,a,λv Hf' H' x r=>k v Hf' H' x (r.up x.s)))
def DE.dc(h:DE c X e f):DC c X e (aV f):=PE.imp h λC H Q j=>by
 have(Hf0,H0,Hf,M,ds,st,b,k):=j;unfold aV at b
 cases g:f M with
 |none=>rw[g]at b;nomatch b
 |some d=>
  rw[g]at b;show(Hf0,H0,Hf,M,d,st,g,λv Hf' H' x r=>?_);have(a,vs,i,q,B):=rb b r;subst i;show k a vs Hf' H' x (yA x.s q) B
def DO.de{f:MF2}(h:DO c X e f):DE c X e (aP f):=PE.imp h λC H Q j=>by
 have(Hf0,H0,Hf,M,d,st,a,k):=j;unfold aP at a
 cases b:f M with
 |none=>rw[b]at a;nomatch a
 |some ds=>
  rw[b]at a;have a:=dz a;subst a;show(Hf0,H0,Hf,M,ds,st,b,λl vs Hf' H' x hn g i r=>k _ _ H' (x.fix hn g i) (l,vs,rfl,bd,r.up (bR g)))
def DO.dc{f:MF2}(h:DO c X e f):DC c X e f:=PE.imp h λC H Q d=>by
 have (Hf0,H0,Hf,M,ds,st,a,k):=d;show (
 (Hf0,H0,Hf,M,ds,st,a,λl vs Hf' H' x hn g b r=>k l vs Hf' H' x (.inl (SqL.of b)) r))
def DE.orE{g:MF1}(h:DE c X e f)(h':DE c X e g):DE c X e (bh f g):=λU s C H Q I i=>by
 have(Hf0,H0,Hf,M,d,st,a,k):=i;unfold bh at a
 cases b:f M with
 |some d'=>
  rw[b]at a;cases a
  show h U s C H Q I (Hf0,H0,Hf,M,_,st,b,k)
 |none=>
  rw[b]at a;show h' U s C H Q I (Hf0,H0,Hf,M,d,st,a,k)
def ae(i:Nat)(M:LS):OD:=match M[i]? with
 |some (.im d)=>aa d
 | _=>ab
def cP(i:Nat)(M:LS):OD:=match M[i]? with
 |some (.im d)=>aa d
 |some (.own E)=>aa (.lst E)
 |some (.ownd ks E)=>aa (.dic ks E)
 |some (.deep o)=>if o.kn then aa o.toD else ab
 | _=>ab
def ar(i:Nat)(M:LS):OLD:=match M[i]? with
 |some (.im d)=>iH d
 |some (.own E)=>aa E
 | _=>ab
def FO(h:ae i M=aa d):M[i]?=aa (.im d):=by
 unfold ae at h
 grind
def FP(h:PE X e (cX i)):DE c X e (ae i):=PE.imp h λC H Q f=>by
 have(Hf0,H0,Hf,M,d,st,b,k):=f;have(v,a,r):=st.imm (FO b);show(v,a,k v Hf H (Ext.refl st.sub) r)
def FQ(h:PE X e (cX i)):DC c X e (ar i):=PE.imp h λC H Q j=>by
 have(Hf0,H0,Hf,M,ds,st,b,k):=j;unfold ar at b
 cases es:M[i]? with
 |none=>rw[es]at b;nomatch b
 |some s=>
  rw[es]at b
  cases s with
  |im d=>
   have(v,f,r):=st.imm es;have(a,vs,g,q,B):=rb b r;subst g
   show(_,f,k a vs Hf H (Ext.refl st.sub) (yA st.sub q) B)
  |own E=>
   cases b;have(l,f,_,_,vs,q,r):=st.ownAt rfl es
   show(_,f,k l vs Hf H (Ext.refl st.sub) (.inl (SqL.of q)) r)
  | _=>nomatch b
def FR(h:PE X e (cX i)):DB c X e (cP i):=PE.imp h λC H Q j=>by
 have(Hf0,H0,Hf,M,d,st,a,k):=j;unfold cP at a
 cases es:M[i]? with
 |none=>simp only[es]at a;nomatch a
 |some s=>
  rw[es]at a
  cases s with
  |im d=>
   cases a;have(v,b,r):=st.imm es
   show(_,b,k v Hf H (Ext.refl st.sub) (r.up st.sub))
  |own E=>
   cases a;have(l,b,_,_,vs,q,r):=st.ownAt rfl es
   show(_,b,k _ Hf H (Ext.refl st.sub) (l,vs,rfl,q,r.up st.sub))
  |ownd ks E=>
   cases a;have(l,b,_,_,vs,q,z,r):=st.ownAt rfl es
   show(_,b,k _ Hf H (Ext.refl st.sub) (l,vs,rfl,q,z,r.up st.sub))
  |deep o=>
   replace a:(if o.kn=ac then aa o.toD else ab)=aa d:=a;split at a
   .rename_i g;cases a;have(v,b,u,fp,f,r,_):=st.slot es;subst f;show(_,b,k _ Hf H (Ext.refl st.sub) (r.rep st.sub g))
   .nomatch a
  | _=>nomatch a
def uz(h:PE X e (tC v))(r:∀G H,Rep G H d v):DE c X e (λ_=>aa d):=PE.imp h λC H Q b=>by
 have(Hf0,H0,Hf,M,d',st,a,k):=b;cases a;show k v Hf H (Ext.refl st.sub) (r _ _)
def FS{i:Int}{j}:DE c X (.Constant (.int i) j pos) (λ_=>aa (.int i)):=uz EQ λ_ _=>rfl
def FT{i:Bool}{j}:DE c X (.Constant (.bool i) j pos) (λ_=>aa (.bl i)):=uz Lp λ_ _=>rfl
def N8{j}:DE c X (.Constant .none j pos) kN:=uz Lq λ_ _=>rfl
def N9{i:Str}{j}:DE c X (.Constant (.str i) j pos) (λ_=>aa (.str i)):=uz Lr λ_ _=>rfl
def dv(i:Nat)(b:autoParam (X.N[i]?=aa x) Zb)(hv:autoParam (Vis X.env.scope x) Ze)(hd:autoParam (NDb x) Zc)
 (a:autoParam (NCd x) Zc):DE c X (.Name x pos) (ae i):=FP (mR b hv hd a)
def dvC(i:Nat)(b:autoParam (X.N[i]?=aa x) Zb)(hv:autoParam (Vis X.env.scope x) Ze)(hd:autoParam (NDb x) Zc)
 (a:autoParam (NCd x) Zc):DC c X (.Name x pos) (ar i):=FQ (mR b hv hd a)
def dvB(i:Nat)(b:autoParam (X.N[i]?=aa x) Zb)(hv:autoParam (Vis X.env.scope x) Ze)(hd:autoParam (NDb x) Zc)
 (a:autoParam (NCd x) Zc):DB c X (.Name x pos) (cP i):=FR (mR b hv hd a)
def ag(f:MF1)(g:MF2)(M:LS):OLD:=(f M).bind λd=>(g M).map λds=>d::ds
variable{g:MF2}
def uA(h:ag f g M=aa ds):∃d r,f M=aa d/\g M=aa r/\ds=d::r:=by
 unfold ag at h
 cases a:f M with
 |none=>rw[a]at h;nomatch h
 |some d=>
  cases b:g M with
  |none=>rw[a,b]at h;nomatch h
  |some r=>rw[a,b]at h;cases h;show(d,r,rfl,rfl,rfl)
def Oa:DA c X [] nZ:=(PA.imp d7 λC H Q b=>by have(Hf0,H0,Hf,M,ds,st,a,k):=b;cases a;show k [] Hf H (Ext.refl st.sub) rfl,λM ds h=>by cases h;rfl)
def uB(ha:DE c X e f)(hr:DA c X es g)(m:autoParam (StE X e es) Zb):DA c X (e::es) (ag f g):=by
 show(PA.imp (eW ha hr.pa m) λC H Q n=>?_,λM ds h=>?_)
 .have(Hf0,H0,Hf,M,ds,st,l,k):=n;have(d,r,b,a,rfl):=uA l;show(Hf0,H0,Hf,M,d,st,b,λv b3 H1 i p=>(Hf0,H0,b3,M,r,st.step i,a,λvs bm H2 j q=>k _ bm H2 (i.trans j) (.cons (p.up j.f) q)))
 .have(d,r,b,a,rfl):=uA h;simp[hr.len M r a]
def Ob:DAB c X [] nZ:=(PA.imp d7 λC H Q b=>by have(Hf0,H0,Hf,M,ds,st,a,k):=b;cases a;show k [] Hf H (Ext.refl st.sub) rfl,λM ds h=>by cases h;rfl)
def rf(ha:DB c X e f)(hr:DAB c X es g)(m:autoParam (StE X e es) Zb):DAB c X (e::es) (ag f g):=by
 show(PA.imp (eW ha hr.pa m) λC H Q n=>?_,λM ds h=>?_)
 .have(Hf0,H0,Hf,M,ds,st,l,k):=n;have(d,r,b,a,rfl):=uA l;show(Hf0,H0,Hf,M,d,st,b,λv b3 H1 i p=>(Hf0,H0,b3,M,r,st.step i,a,λvs bm H2 j q=>k _ bm H2 (i.trans j) (.cons (p.up j.h) q)))
 .have(d,r,b,a,rfl):=uA h;simp[hr.len M r a]
def Oc{f:MF2}(h:DA c X es f)(hz:autoParam (Z es<=1000) Zn):DO c X (.List es pos) f:=PE.imp (uk h.pa) λC H Q d=>by
 have (Hf0,H0,Hf,M,ds,st,b,k):=d;show (
 (Hf0,H0,Hf,M,ds,st,b,λvs Hf' H' x r=>(by
  rw[<- r.length,h.len M ds b];show fD (Fy hz),λp a=>k p vs Hf' _ (x.trans (Ext.tmp x.s a)) (x.h.free a) (x.s.free a) bd r)))
def FU{f:MF2}{g:Nat}(h:DA c X es f)(hz:autoParam (Z es<=1000) Zn):DE c X (.Tuple es g pos) (bx f):=PE.imp (M5 h.pa) λC H Q i=>by
 have(Hf0,H0,Hf,M,d,st,a,k):=i;unfold bx at a
 cases b:f M with
 |none=>rw[b]at a;nomatch a
 |some ds=>
  rw[b]at a;have a:=dz a;subst a
  show(Hf0,H0,Hf,M,ds,st,b,λvs Hf' H' x r=>(by
   rw[<- r.length,h.len M ds b];show fD (Fy hz),λp e=>k _ _ _ (x.trans (Ext.new x.s e)) (p,vs,rfl,bd,r.up (bR (x.s.free e)))))
def rD(G:Gc)(m:D->D->OD):R2:=λa b H Q=>∃Hf x y d,aq Hf H/\Rep G Hf x a/\Rep G Hf y b/\m x y=aa d/\∀v Hf' H',Ext Hf H Hf' H'->Rep G Hf' d v->Q v H'
nonrec abbrev OpD(c:Str->Addr)(X:Cx)(f:Value->Value->Sem Value)(m:D->D->OD):Prop:=OpR X f (rD (Gx c X) m)
def m2(m:D->D->OD)(f g:MF1)(M:LS):OD:=(f M).bind λx=>(g M).bind λy=>m x y
variable{m:D->D->OD}{g:MF1}
def mY(h:m2 m f g M=aa d):∃x y,f M=aa x/\g M=aa y/\m x y=aa d:=by
 unfold m2 at h
 cases a:f M with
 |none=>rw[a]at h;nomatch h
 |some x=>
  cases b:g M with
  |none=>rw[a,b]at h;nomatch h
  |some y=>rw[a,b]at h;show(x,y,rfl,rfl,h)
variable{r:R2}
def two(hr:∀x y H Q,rD (Gx c X) m x y H Q->r x y H Q)(h:tD (Gx c X) (m2 m f g) C H Q):tOp r (tD (Gx c X) f) (tD (Gx c X) g) C H Q:=by
 have(Hf0,H0,Hf,M,d,st,p,k):=h;have(x,y,j,l,n):=mY p;show(Hf0,H0,Hf,M,x,st,j,λv b3 H1 e q=>(Hf0,H0,b3,M,y,st.step e,l,λu bm H2 b z=>hr _ _ _ _ (bm,x,y,d,b.s,q.up b.f,z,n,λw a i B A=>k w a i ((e.trans b).trans B) A)))
def FV(hr:∀x y H Q,rD (Gx c X) m x y H Q->r x y H Q)(q:∀x y d,m x y=aa d->d.scalar=ac)(h:tD (Gx c X) (m2 m f g) C H Q):tOp r (tDB (Gx c X) f) (tDB (Gx c X) g) C H Q:=by
 have(Hf0,H0,Hf,M,d,st,p,k):=h;have(x,y,l,n,b):=mY p
 show(Hf0,H0,Hf,M,x,st,l,λv b3 H1 e z=>(Hf0,H0,b3,M,y,st.step e,n,λu bm H2 a A=>hr _ _ _ _ (H2,x,y,d,aq.refl _,z.up a.h,A,b,λw j i E B=>
  k w bm i ((e.trans a).trans (Ext.grow a.s E.h)) (B.sc (q _ _ _ b)))))
variable{a b:Expr}
def o8{op:Operator}(e:OpD c X (dO op) m)(ha:DE c X a f)(d:DE c X b g):DE c X (.BinOp a op b pos) (m2 m f g):=
 PE.imp (EY e ha d) λ_ _ _ h=>two (λ_ _ _ _ h=>h) h
variable{op:CmpOp}
def uC(i:OpD c X (cL op) m)(j:∀x y d,m x y=aa d->d.scalar=ac)(ha:DB c X a f)(e:DB c X b g)(hm:autoParam (jK op b=af) Zo):
  DE c X (.Compare a [op] [b] pos) (m2 m f g):=PE.imp (MF i ha e hm) λ_ _ _ h=>FV (λ_ _ _ _ h=>h) j h
def mB(f:MF1)(M:LS):Option Bool:=(f M).bind λd=>match d with
 |.bl b=>aa b
 | _=>ab
def uD{b:Bool}(h:mB f M=aa b):f M=aa (.bl b):=by
 unfold mB at h
 cases e:f M with
 |none=>rw[e]at h;nomatch h
 |some d=>rw[e]at h;cases d <;> cases h;rfl
def jR(j:OpD c X (cL op) m)(l:∀x y d,m x y=aa d->d.scalar=ac)(ha:DB c X a f)(i:DB c X b g)(hm:autoParam (jK op b=af) Zo):
  DT c X (.Compare a [op] [b] pos) (mB (m2 m f g)):=PT.imp (MH j ha i hm) λC H Q n=>by
 have (Hf0,H0,Hf,M,b,st,e,k):=n;show (
 FV (λ_ _ _ _ h=>h) l (Hf0,H0,Hf,M,.bl b,st,uD e,λv Hf' H' x r=>(b,r,k Hf' H' x)))
abbrev mZ:D->Option Bool
 |.non=>aa af
 |.bl b=>aa b
 |.int i=>aa (i != 0)
 |.str x=>if x.length<=16777216 then aa ((x.length:Int) != 0) else ab
 |.lst E=>aa (!E.isEmpty)
 |.tup E=>aa (!E.isEmpty)
 |.kl E=>aa (!E.isEmpty)
 |.kt E=>aa (!E.isEmpty)
 |.dic ks _=>aa (!ks.isEmpty)
 | _=>ab
def am.empty(r:am G H ds vs):ds.isEmpty=vs.isEmpty:=by
 cases ds with
 |nil=>cases (r);rfl
 |cons d ds=>have(v,a,e,_):=r;subst e;rfl
def Od{a b:Type}{ks:List a}{vs:List b}(h:Z ks=Z vs):(ks.zip vs).isEmpty=ks.isEmpty:=by
 cases ks <;> cases vs <;> first |rfl |cases h
def Oe{b:Bool}(e:mZ d=aa b)(r:Rep G H d v):xZ G.K v H b:=by
 cases d with
 |non=>cases e;subst r;rfl
 |bl x=>cases e;subst r;rfl
 |int i=>cases e;subst r;rfl
 |str x=>
  subst r;replace e:(if x.length<=16777216 then aa _ else ab)=aa b:=e;split at e
  .rename_i f;cases e;show(by rw[dE];show f,rfl)
  .grind
 |lst E=>cases e;have(a,vs,c,q,r):=r;subst c;show .inl (vs,SqL.of q,by rw[r.empty])
 |tup E=>cases e;have(a,vs,c,q,r):=r;subst c;show .inr (.inl (vs,SqT.of q,by rw[r.empty]))
 |kl E=>cases e;have(a,vs,c,q,r):=r;subst c;show .inl (vs,q,by rw[r.empty])
 |kt E=>cases e;have(a,vs,c,q,r):=r;subst c;show .inr (.inl (vs,q,by rw[r.empty]))
 |dic ks E=>cases e;have(a,vs,c,q,l,r):=r;subst c;show .inr (.inr (_,q,by rw[Od l]))
 |ins _ _ _=>nomatch e
 |kd _ _=>nomatch e
 |dT _ _=>nomatch e
def bH(f:MF1)(M:LS):Option Bool:=(f M).bind mZ
def rg(ha:DB c X a f)(i:autoParam (∀e,isTrue a X.env e=(do let v <- e;gC a.pos;eS [v] (truthy v))) Zd):DT c X a (bH f):=
 PT.imp (MK ha i) λC H Q j=>by
  have(Hf0,H0,Hf,M,b,st,g,k):=j;unfold bH at g
  cases h:f M with
  |none=>rw[h]at g;nomatch g
  |some d=>
   rw[h]at g;show(Hf0,H0,Hf,M,d,st,h,λv Hf' H' x r=>(b,Oe g r,k Hf' H' x))
def di(f g:MF4)(M:LS):Option Bool:=(f M).bind λb=>if b then g M else aa af
def mOr(f g:MF4)(M:LS):Option Bool:=(f M).bind λb=>if b then aa ac else g M
def gJ(f:MF4)(M:LS):Option Bool:=(f M).map not
variable{f:MF4}
def DW.dt(h:DW c X e f):DT c X e f:=PW.pt h
def uE(h:DT c X a f):DW c X (.BoolOp .And [a] pos) f:=Ly h
def FW(h:DT c X a f):DW c X (.BoolOp .Or [a] pos) f:=Lz h
def rh{g:MF4}{rest:LEx}(h:DT c X a f)(h':DW c X (.BoolOp .And (b::rest) pos) g):DW c X (.BoolOp .And (a::b::rest) pos) (di f g):=PW.imp (LA h h') λC H Q j=>by
 have(Hf0,H0,Hf,M,b,st,d,k):=j;unfold di at d
 cases e:f M with
 |none=>rw[e]at d;nomatch d
 |some x=>
  rw[e]at d;show(Hf0,H0,Hf,M,x,st,e,λb3 H1 i=>?_)
  cases x with
  |true=>rw[if_pos rfl];show(Hf0,H0,b3,M,b,st.step i,d,λbm H2 l=>k bm H2 (i.trans l))
  |false=>cases d;rw[if_neg bM];show k b3 H1 i
def yB{g:MF4}{rest:LEx}(h:DT c X a f)(h':DW c X (.BoolOp .Or (b::rest) pos) g):DW c X (.BoolOp .Or (a::b::rest) pos) (mOr f g):=PW.imp (LB h h') λC H Q j=>by
 have(Hf0,H0,Hf,M,b,st,d,k):=j;unfold mOr at d
 cases e:f M with
 |none=>rw[e]at d;nomatch d
 |some x=>
  rw[e]at d;show(Hf0,H0,Hf,M,x,st,e,λb3 H1 i=>?_)
  cases x with
  |false=>rw[if_neg bM];show(Hf0,H0,b3,M,b,st.step i,d,λbm H2 l=>k bm H2 (i.trans l))
  |true=>cases d;rw[if_pos rfl];show k b3 H1 i
def Of(h:DT c X a f):DT c X (.UnaryOp .Not a pos) (gJ f):=PT.imp (LC h) λC H Q g=>by
 have(Hf0,H0,Hf,M,b,st,d,k):=g;unfold gJ at d
 cases e:f M with
 |none=>rw[e]at d;nomatch d
 |some x=>
  rw[e]at d;cases d;show(Hf0,H0,Hf,M,x,st,e,λb3 H1 i=>k b3 H1 i)
def jS(f g:MF1)(M:LS):OD:=(mB f M).bind λb=>if b then g M else aa (.bl af)
def vOr(f g:MF1)(M:LS):OD:=(mB f M).bind λb=>if b then aa (.bl ac) else g M
def kA(f:MF1)(M:LS):OD:=(mB f M).map λb=>.bl (!b)
variable{f:MF1}
def yC{op}(h:DE c X a f):DE c X (.BoolOp op [a] pos) f:=LI h
def FX{rest:LEx}(h:DE c X a f)(h':DE c X (.BoolOp .And (b::rest) pos) g):DE c X (.BoolOp .And (a::b::rest) pos) (jS f g):=PE.imp (LJ h h') λC H Q l=>by
 have(Hf0,H0,Hf,M,d,st,e,k):=l;unfold jS at e
 cases i:mB f M with
 |none=>rw[i]at e;nomatch e
 |some x=>
  rw[i]at e;show(Hf0,H0,Hf,M,.bl x,st,uD i,λv b3 H1 j m=>(x,m,?_))
  cases x with
  |true=>rw[if_pos rfl];show(Hf0,H0,b3,M,d,st.step j,e,λv bm H2 p n=>k v bm H2 (j.trans p) n)
  |false=>cases e;rw[if_neg bM];show k _ b3 H1 j rfl
def FY{rest:LEx}(h:DE c X a f)(h':DE c X (.BoolOp .Or (b::rest) pos) g):DE c X (.BoolOp .Or (a::b::rest) pos) (vOr f g):=PE.imp (LK h h') λC H Q l=>by
 have(Hf0,H0,Hf,M,d,st,e,k):=l;unfold vOr at e
 cases i:mB f M with
 |none=>rw[i]at e;nomatch e
 |some x=>
  rw[i]at e;show(Hf0,H0,Hf,M,.bl x,st,uD i,λv b3 H1 j m=>(x,m,?_))
  cases x with
  |false=>rw[if_neg bM];show(Hf0,H0,b3,M,d,st.step j,e,λv bm H2 p n=>k v bm H2 (j.trans p) n)
  |true=>cases e;rw[if_pos rfl];show k _ b3 H1 j rfl
def FZ(h:DE c X a f):DE c X (.UnaryOp .Not a pos) (kA f):=PE.imp (LL h) λC H Q g=>by
 have(Hf0,H0,Hf,M,d,st,b,k):=g;unfold kA at b
 cases e:mB f M with
 |none=>rw[e]at b;nomatch b
 |some x=>
  rw[e]at b;cases b;show(Hf0,H0,Hf,M,.bl x,st,uD e,λv b3 H1 j i=>(x,i,k _ b3 H1 j rfl))
def vIf(t:MF4)(f g:MF1)(M:LS):OD:=(t M).bind λb=>if b then f M else g M
variable{cd:Expr}
def F0{t:MF4}(m:DT c X cd t)(ha:DE c X a f)(l:DE c X b g):DE c X (.IfExp cd a b pos) (vIf t f g):=PE.imp (ES m ha l) λC H Q n=>by
 have(Hf0,H0,Hf,M,d,st,e,k):=n;unfold vIf at e
 cases i:t M with
 |none=>rw[i]at e;nomatch e
 |some x=>
  rw[i]at e;show(Hf0,H0,Hf,M,x,st,i,λb3 H1 h=>?_)
  cases x with
  |true=>rw[if_pos rfl];show(Hf0,H0,b3,M,d,st.step h,e,λv bm H2 j r=>k v bm H2 (h.trans j) r)
  |false=>rw[if_neg bM];show(Hf0,H0,b3,M,d,st.step h,e,λv bm H2 j r=>k v bm H2 (h.trans j) r)
noncomputable instance {i j:Int}:Decidable (qT i j):=by unfold qT;infer_instance
noncomputable instance {i j:Int}:Decidable (ku i j):=by unfold ku;infer_instance
noncomputable instance {i j:Int}:Decidable (mT i j):=by unfold mT;infer_instance
abbrev dI(X5:Int->Int->Prop)[∀i j,Decidable (X5 i j)](g:Int->Int->D):D->D->OD
 |.int i,.int j=>if X5 i j then aa (g i j) else ab
 | _,_=>ab
abbrev dI0(g:Int->Int->D):D->D->OD
 |.int i,.int j=>aa (g i j)
 | _,_=>ab
abbrev eC:D->D->OD
 |.int i,.int j=>aa (.int (i+j))
 |.str a,.str b=>if a.length+b.length<=16777216 then aa (.str (a++b)) else ab
 |.lst a,.lst b=>if a.length+b.length<=16777216 then aa (.lst (a++b)) else ab
 | _,_=>ab
nonrec def jn:D->D->OD:=dI0 λi j=>.int (i-j)
nonrec def Og:D->D->OD:=dI mT λi j=>.int (i*j)
nonrec def jT:D->D->OD:=dI qT λi j=>.int (i / j)
nonrec def bY:D->D->OD:=dI (λ_ j=>0<j) λi j=>.int (i % j)
nonrec def rj:D->D->OD:=dI ku λi j=>.int (i ^ S j)
nonrec def rm:D->D->OD:=dI (λ_ j=>0<=j) λi j=>.int (i / 2 ^ S j)
nonrec def rn:D->D->OD:=dI0 λi j=>.int (tZ i j)
nonrec def dLt:D->D->OD:=dI0 λi j=>.bl (decide (i<j))
nonrec def dLe:D->D->OD:=dI0 λi j=>.bl (decide (i<=j))
nonrec def dGt:D->D->OD:=dI0 λi j=>.bl (decide (j<i))
nonrec def dGe:D->D->OD:=dI0 λi j=>.bl (decide (j<=i))
variable{gd:Int->Int->D}
def o9{f:Value->Value->Sem Value}{X5:Int->Int->Prop}[∀i j,Decidable (X5 i j)]{g:Int->Int->V}(h:OpR X f (rI X5 g))(b:∀G H i j,Rep G H (gd i j) (g i j)):OpD c X f (dI X5 gd):=by
 rintro U s C H r w v u Q I n p ⟨Hf,x,y,d,q,l,m,e,k⟩;unfold dI at e;split at e
 .split at e
  .rename_i a;cases e;show h U s C H r w v u Q I n p (_,_,l,m,a,k _ Hf H (Ext.refl q) (b _ _ _ _))
  .nomatch e
 .nomatch e
def pc{f:Value->Value->Sem Value}{g:Int->Int->V}(h:OpR X f (rI0 g))(a:∀G H i j,Rep G H (gd i j) (g i j)):OpD c X f (dI0 gd):=by
 rintro U s C H q r v u Q I m n ⟨Hf,x,y,d,p,b,l,e,k⟩;unfold dI0 at e;split at e
 .cases e;show h U s C H q r v u Q I m n (_,_,b,l,k _ Hf H (Ext.refl p) (a _ _ _ _))
 .nomatch e
def Oh:OpD c X (dO .Add) eC:=by
 rintro U s C H m n v u Q I j l ⟨Hf,x,y,d,h,f,g,e,k⟩;unfold eC at e;split at e
 .cases e;show Mo U s C H m n v u Q I j l (_,_,f,g,k _ Hf H (Ext.refl h) rfl)
 .split at e
  .rename_i i;cases e;show ML U s C H m n v u Q I j l (_,_,f,g,by rw[dE];show i,k _ Hf H (Ext.refl h) rfl)
  .nomatch e
 .split at e
  .rename_i i;cases e;have(a,vs,r,z,f):=f;have(b,us,w,A,g):=g
   show Fw U s C H m n v u Q I j l (a,b,vs,us,r,w,h _ _ z,h _ _ A,by rw[dE,<- f.length,<- g.length];show i,
    λp q=>k _ _ _ (Ext.new h q) (p,_,rfl,bd,(f.append g).up (bR (h.free q))))
  .nomatch e
 .nomatch e
def Oi:OpD c X (dO .Sub) jn:=pc Mp λ_ _ _ _=>rfl
def Oj:OpD c X (dO .FloorDiv) jT:=o9 Mq λ_ _ _ _=>rfl
def Ol:OpD c X (dO .Mod) bY:=o9 Mr λ_ _ _ _=>rfl
def Om:OpD c X (dO .Pow) rj:=o9 Ms λ_ _ _ _=>rfl
def On:OpD c X (dO .RShift) rm:=o9 Mu λ_ _ _ _=>rfl
def Oo:OpD c X (dO .BitAnd) rn:=pc Mv λ_ _ _ _=>rfl
def Op:OpD c X (cL .Lt) dLt:=pc Mz λ_ _ _ _=>rfl
def Oq:OpD c X (cL .LtE) dLe:=pc MA λ_ _ _ _=>rfl
def Os:OpD c X (cL .Gt) dGt:=pc MB λ_ _ _ _=>rfl
def Ot:OpD c X (cL .GtE) dGe:=pc MC λ_ _ _ _=>rfl
def uF{g:Int->Int->D}(a:∀i j,(g i j).scalar=ac):∀x y d,dI0 g x y=aa d->d.scalar=ac:=by
 intro x y d e;unfold dI0 at e;split at e
 .cases e;show a _ _
 .nomatch e
def Ou:∀x y d,dLt x y=aa d->d.scalar=ac:=uF λ_ _=>rfl
def Ov:∀x y d,dLe x y=aa d->d.scalar=ac:=uF λ_ _=>rfl
def Ow:∀x y d,dGt x y=aa d->d.scalar=ac:=uF λ_ _=>rfl
def Ox:∀x y d,dGe x y=aa d->d.scalar=ac:=uF λ_ _=>rfl
abbrev rp:D->OD
 |.int i=>aa (.int (-i))
 | _=>ab
def m1(m:D->OD)(f:MF1)(M:LS):OD:=(f M).bind m
def Oy(ha:DE c X a f):DE c X (.UnaryOp .USub a pos) (m1 rp f):=PE.imp (Mm Mw ha) λC H Q g=>by
 have(Hf0,H0,Hf,M,d,st,b,k):=g;unfold m1 at b
 cases e:f M with
 |none=>rw[e]at b;nomatch b
 |some y=>
  rw[e]at b
  cases y with
  |int i=>cases b;show(Hf0,H0,Hf,M,.int i,st,e,λv Hf' H' x r=>(i,r,k _ Hf' H' x rfl))
  | _=>nomatch b
abbrev F6:D->Bool
 |.non=>ac
 | _=>af
def F7{x:D}(r:Rep G H x v):decide (v=.non)=F6 x:=by
 cases x with
 |non=>subst r;rfl
 |bl b=>subst r;rfl
 |int i=>subst r;rfl
 |str x=>subst r;rfl
 |lst _=>have(a,_,e,_):=r;subst e;rfl
 |tup _=>have(a,_,e,_):=r;subst e;rfl
 |kl _=>have(a,_,e,_):=r;subst e;rfl
 |kt _=>have(a,_,e,_):=r;subst e;rfl
 |dic _ _=>have(a,_,e,_):=r;subst e;rfl
 |ins _ _ _=>have(a,_,_,e,_):=r;subst e;rfl
 |kd _ _=>have(a,_,_,e,_):=r;subst e;rfl
 |dT _ _=>have(a,_,e,_):=r;subst e;rfl
def isD(x y:D):Option Bool:=match y with
 |.non=>aa (F6 x)
 |.bl b=>match x with
  |.non=>aa af
  |.bl a=>aa (a==b)
  | _=>ab
 | _=>ab
def dIs(x y:D):OD:=(isD x y).map .bl
def gg(x y:D):OD:=(isD x y).map λb=>.bl (!b)
def F8:OpD c X (cL .Is) dIs:=by
 rintro U s C H m l v u Q I h i ⟨Hf,x,y,d,j,f,g,e,k⟩
 cases y with
 |non=>
  cases e
  show MD U s C H m l v u Q I h i (g,by rw[F7 f];show k _ Hf H (Ext.refl j) rfl)
 |bl b=>
  cases x with
  |non=>cases e;subst f;show FJ U s C H _ l v u Q I h i (b,g,.inl rfl,k _ Hf H (Ext.refl j) rfl)
  |bl a=>cases e;subst f;show FJ U s C H _ l v u Q I h i (b,g,.inr (a,rfl),by rw[qU];show k _ Hf H (Ext.refl j) rfl)
  | _=>nomatch e
 | _=>nomatch e
def Oz:OpD c X (cL .IsNot) gg:=by
 rintro U s C H m l v u Q I h i ⟨Hf,x,y,d,j,f,g,e,k⟩
 cases y with
 |non=>
  cases e
  show ME U s C H m l v u Q I h i (g,by rw[F7 f];show k _ Hf H (Ext.refl j) rfl)
 |bl b=>
  cases x with
  |non=>cases e;subst f;show FK U s C H _ l v u Q I h i (b,g,.inl rfl,k _ Hf H (Ext.refl j) rfl)
  |bl a=>cases e;subst f;show FK U s C H _ l v u Q I h i (b,g,.inr (a,rfl),by rw[qU];show k _ Hf H (Ext.refl j) rfl)
  | _=>nomatch e
 | _=>nomatch e
def m6{x:Option Bool}{g:Bool->Bool}:∀d,x.map (λb=>D.bl (g b))=aa d->d.scalar=ac:=by
 intro d e
 cases x with
 |none=>nomatch e
 |some b=>cases e;rfl
def F9:∀x y d,dIs x y=aa d->d.scalar=ac:=λ_ _ d e=>m6 d e
def OA:∀x y d,gg x y=aa d->d.scalar=ac:=λ_ _ d e=>m6 d e
abbrev eqF:D->D->Bool
 |.non,.non=>ac
 |.bl a,.bl b=>a==b
 |.int a,.int b=>a==b
 |.str a,.str b=>a==b
 | _,_=>af
abbrev cG(f:D->D->Option Bool):LD->LD->Option Bool
 | [],[]=>aa ac
 |x::E,y::ys=>(f x y).bind λb=>(cG f E ys).map λr=>b && r
 | _,_=>aa af
abbrev yD:D->D->Bool
 |.bl _,.int _=>ac
 |.int _,.bl _=>ac
 | _,_=>af
abbrev m7(f:D->D->Option Bool):D->D->Option Bool
 |.lst E,.lst ys=>if Z E=Z ys then cG f E ys else aa af
 |.tup E,.tup ys=>if Z E=Z ys then cG f E ys else ab
 |x,y=>if x.scalar && y.scalar && !yD x y then aa (eqF x y) else ab
abbrev deq:Nat->D->D->Option Bool
 | 0,_,_=>ab
 |n+1,x,y=>m7 (deq n) x y
def dEq(x y:D):OD:=(deq 20 x y).map .bl
def dNe(x y:D):OD:=(deq 20 x y).map λb=>.bl (!b)
def OB:∀x y d,dEq x y=aa d->d.scalar=ac:=λ_ _ d e=>m6 d e
def OC:∀x y d,dNe x y=aa d->d.scalar=ac:=λ_ _ d e=>m6 d e
variable{x y:D}{E ys:LD}{b:Bool}
def uG{f:D->D->Option Bool}(h:cG f (x::E) (y::ys)=aa b):∃a c,f x y=aa a/\cG f E ys=aa c/\b=(a && c):=by
 dsimp only[cG]at h
 cases d:f x y with
 |none=>rw[d]at h;nomatch h
 |some a=>
  cases e:cG f E ys with
  |none=>rw[d,e]at h;nomatch h
  |some c=>rw[d,e]at h;cases h;show(a,c,rfl,rfl,rfl)
def m8{f:D->D->Option Bool}:∀{E ys:LD} {b:Bool},Z E=Z ys->cG f E ys=aa b->∃e:Nat->Bool,(∀j x y,E[j]?=aa x->ys[j]?=aa y->f x y=aa (e j))/\(bu (Z E)).all e=b
 | [],[],b,_,h=>by cases h;show(λ_=>ac,λj x y e=>by simp at e,rfl)
 |x::E,y::ys,b,hl,h=>by
  have(c,m,d,h2,rfl):=uG h;have(e,g,ha):=m8 (by simpa using hl) h2
  show(λj=>match j with | 0=>c |j+1=>e j,λj i l ex a=>?_,?_)
  .cases j with
   |zero=>simp at ex a;subst ex a;show d
   |succ j=>show g j i l (by simpa using ex) (by simpa using a)
  .rw[cv,range_succ_eq_map,mr,all_map,<- ha]
   rfl
 | [],_::_,_,hl,_=>by cases hl
 | _::_,[],_,hl,_=>by cases hl
def uH(s:d.scalar=ac):d=.non\/(∃b,d=.bl b)\/(∃i,d=.int i)\/∃z,d=.str z:=by
 cases d with
 |non=>show .inl rfl
 |bl b=>show .inr (.inl (b,rfl))
 |int i=>show .inr (.inr (.inl (i,rfl)))
 |str z=>show .inr (.inr (.inr (z,rfl)))
 | _=>nomatch s
def uI(c:(x.scalar && y.scalar && !yD x y)=ac)(d:Rep G H x v)(e:Rep G H y u):fP v=ac/\fP u=ac/\eqV v u=eqF x y/\xV v u=ac/\decide (v=u)=eqF x y:=by
 rw[b5,b5]at c
 rcases uH c.1.1 with rfl |⟨a,rfl⟩ |⟨a,rfl⟩ |⟨a,rfl⟩ <;> rcases uH c.1.2 with rfl |⟨b,rfl⟩ |⟨b,rfl⟩ |⟨b,rfl⟩ <;> first
  |(cases c.2;done)
  |(subst d;subst e;show(rfl,rfl,rfl,rfl,?_);first |show qU |show xX |show xY |rfl)
variable{n:Nat}
def uJ(a:¬(∃E ys,x=.lst E/\y=.lst ys)/\¬(∃E ys,x=.tup E/\y=.tup ys))(h:deq (n+1) x y=aa b):(x.scalar && y.scalar && !yD x y)=ac/\b=eqF x y:=by
 replace h:m7 _ x y=aa b:=h;unfold m7 at h;split at h
 .show absurd (_,_,rfl,rfl) a.1
 .show absurd (_,_,rfl,rfl) a.2
 .split at h
  .rename_i c;cases h;show(c,rfl)
  .nomatch h
def Ga:∀(n:Nat) {x y:D} {b:Bool} {v:V},deq n x y=aa b->Rep G H x v->Rep G H y v->b=ac:=by
 intro n
 induction n with
 |zero=>intro x y b v h;nomatch h
 |succ n J=>
  have all:∀(E ys:LD) vs b,am G H E vs->am G H ys vs->cG (deq n) E ys=aa b->b=ac:=by
   intro E
   induction E with
   |nil=>
    intro ys vs b d c h;cases (d);have:ys=[]:=tL.mp c.length;subst this
    cases h;rfl
   |cons x E l=>
    intro ys vs b d c h;have(v,r,e,C,h2):=d;subst e
    cases ys with
    |nil=>cases (c)
    |cons y ys=>
     have(N,M,e,i,j):=c;cases e;have(L,z,A,B,rfl):=uG h;rw[J A C i,l ys _ z h2 j B];rfl
  intro x y b v h d c
  by_cases p:∃E ys,x=.lst E/\y=.lst ys
  .have(E,ys,rfl,rfl):=p;have(a,vs,e,q,d):=d;have(w,m,e',g,c):=c;subst e;cases e';rw[q]at g;cases g;have f:=d.length.trans c.length.symm;replace h:(if Z E=Z ys then cG _ E ys else aa af)=aa b:=h;rw[if_pos f]at h;show all E ys vs b d c h
  .by_cases u:∃E ys,x=.tup E/\y=.tup ys
   .have(E,ys,rfl,rfl):=u;have(a,vs,e,q,d):=d;have(w,m,e',g,c):=c;subst e;cases e';rw[q]at g;cases g;replace h:(if Z E=Z ys then cG _ E ys else ab)=aa b:=h;rw[if_pos (d.length.trans c.length.symm)]at h;show all E ys vs b d c h
   .have(I,rfl):=uJ (p,u) h;have(_,_,_,_,e):=uI I d c;rw[<- e];show decide_eq_true rfl
variable{us:LVv}
def pf{s:ah}{L a:LVa}{e:Nat->Bool}(B:am G H E vs)(C:am G H ys us)(r:aG vs L)(z:aG us a)
 (p:∀j x y,E[j]?=aa x->ys[j]?=aa y->deq n x y=aa (e j))
 (q:∀{x y:D} {b:Bool} {v u:V} {w g:Value},deq n x y=aa b->Rep G H x v->Rep G H y u->aD v w->aD u g->cw A s w g b):
  ∀j (f:j<L.toArray.size) (h2:j<a.toArray.size),cw A s L.toArray[j] a.toArray[j] (e j):=λj f h2=>by
 have c:j<Z L:=by simpa using f
 have d:j<Z a:=by simpa using h2
 have(v,l,I):=r.at' (i:=j) (u:=L[j]) (by simp[c]);have(u,h,ru):=z.at' (i:=j) (u:=a[j]) (by simp[d]);have(x,ex,J):=B.get' l;have(y,m,M):=C.get' h;show q (p j x y ex m) J M I ru
def yE{s:ah}(I:Inv X U C H s):∀(n:Nat) {A:ca} {x y:D} {b:Bool} {v u:V} {w z:Value},A.units+n<cLine->deq n x y=aa b->Rep (Gx c X) H x v->Rep (Gx c X) H y u->aD v w->aD u z->cw A s w z b:=by
 intro n
 induction n with
 |zero=>intro A x y b v u w z _ h;nomatch h
 |succ n ih=>
  intro A x y b v u w z hu h r1 r2 rv ru;have B:∀{x y:D} {b:Bool} {v u:V} {w z:Value},deq n x y=aa b->Rep _ H x v->Rep _ H y u->aD v w->aD u z->cw A.in1 s w z b:=λh a b c d=>ih (by rw[qS];lia) h a b c d
  by_cases hl:∃E ys,x=.lst E/\y=.lst ys
  .have(E,ys,rfl,rfl):=hl;have(a,vs,e,q,f):=id r1;have(N,r,e',G,g):=id r2;subst e e';cases rv;subst ru
   by_cases j:a=N
   .subst j;have:=Ga _ h ((a,vs,rfl,q,f)) (a,r,rfl,G,g);subst this;show xF _
   .show cw.of_refs j ?_;have(L,J,M,hz):=I.list (SqL.of q);have(p,l,m,Y):=I.list (SqL.of G);have l1:=J.length;have l2:=l.length;have l3:=f.length;have l4:=g.length;replace h:(if Z E=ys.length then cG _ E ys else aa af)=aa b:=h;split at h
    .rename_i i;have(ee,Q,ha):=m8 i h;have:=SeqAt.RcAt.lists M.isList m.isList (by simp only[size_toArray];lia) (by lia) (pf f g J l Q B);rw[size_toArray,<- l1,<- l3,ha]at this;show this
    .rename_i i;cases h;show SeqAt.RcAt.lists_lengths M.isList m.isList (by simp only[size_toArray,bne_iff_ne];lia) (by lia)
  .by_cases ht:∃E ys,x=.tup E/\y=.tup ys
   .have(E,ys,rfl,rfl):=ht;have(a,vs,e,q,f):=id r1;have(N,r,e',G,g):=id r2;subst e e';subst rv;subst ru
    by_cases j:a=N
    .subst j;have:=Ga _ h ((a,vs,rfl,q,f)) (a,r,rfl,G,g);subst this;show xF _
    .show cw.of_refs j ?_;have(L,J,M,hz):=I.tuple (SqT.of q);have(p,l,m,Y):=I.tuple (SqT.of G);have l1:=J.length;have l2:=l.length;have l3:=f.length;have l4:=g.length;replace h:(if Z E=ys.length then cG _ E ys else ab)=aa b:=h;split at h
     .rename_i i;have(ee,Q,ha):=m8 i h;have:=SeqAt.RcAt.tuples (M) (m) (by lia) (pf f g J l Q B);have T:L.toArray.size=p.toArray.size:=by simp only[size_toArray];lia
      rw[<- T,tP,beq_self_eq_true,qy,size_toArray,<- l1,<- l3,ha]at this;show this
     .nomatch h
   .have(hs,rfl):=uJ (hl,ht) h;have(f1,f2,e,_,_):=uI hs r1 r2;rw[<- e];show Ft rv ru f1 f2
def OE(hu:X.A.units+64<cLine):OpD c X (cL .Eq) dEq:=by
 rintro U s C H v u w G Q I rv ru ⟨Hf,x,y,d,s0,p,r,e,k⟩;unfold dEq at e
 cases h:deq 20 x y with
 |none=>rw[h]at e;nomatch e
 |some b=>
  rw[h]at e;cases e;have q0:=k _ Hf H (Ext.refl s0) rfl;have fin:EP X U C Q _ s:=(.bl b,H,I,rfl,q0);have p:=p.up s0;have r:=r.up s0;have n:∀{x y:D} {b:Bool} {v u:V} {w G:Value},deq 19 x y=aa b->Rep _ H x v->Rep (Gx c X) H y u->aD v w->aD u G->cw X.A.in1 s w G b:=λh a b c d=>yE I 19 (by rw[qS];lia) h a b c d
  by_cases hl:∃E ys,x=.lst E/\y=.lst ys
  .have(E,ys,rfl,rfl):=hl;have(a,vs,e,q,i):=id p;have(a',vs',e',q',j):=id r;subst e e';cases rv;subst ru;have(L,z,B,hz):=I.list (SqL.of q);have(m,g,l,T):=I.list (SqL.of q');have Y:=z.length;have l2:=g.length;have l3:=i.length;have l4:=j.length;replace h:(if Z E=ys.length then cG _ E ys else aa af)=aa b:=h;split at h
   .rename_i f;have(ee,J,ha):=m8 f h;show SeqAt.eq_listAt B.isList l.isList (by simp only[size_toArray];lia) (by lia) (pf i j z g J n) ?_;rw[size_toArray,<- Y,<- l3,ha];show fin
   .rename_i f;cases h;show SeqAt.eq_list_lengthsAt B.isList l.isList (by simp only[size_toArray,bne_iff_ne];lia) (by lia) fin
  .by_cases ht:∃E ys,x=.tup E/\y=.tup ys
   .have(E,ys,rfl,rfl):=ht;have(a,vs,e,q,i):=id p;have(a',vs',e',q',j):=id r;subst e e';subst rv;subst ru;have(L,z,B,hz):=I.tuple (SqT.of q);have(m,g,l,T):=I.tuple (SqT.of q');have Y:=z.length;have l2:=g.length;have l3:=i.length;have l4:=j.length;replace h:(if Z E=ys.length then cG _ E ys else ab)=aa b:=h;split at h
    .rename_i f;have(ee,J,ha):=m8 f h;show SeqAt.eq_tupleAt (B) (l) (by lia) (pf i j z g J n) ?_;have N:L.toArray.size=m.toArray.size:=by simp only[size_toArray];lia
     simp only[<- N,tP,beq_self_eq_true,qy,size_toArray,<- Y,<- l3,ha];show fin
    .nomatch h
   .have(hs,rfl):=uJ (hl,ht) h;have(_,_,_,M,e):=uI hs p r;show Mx U s C H v u w G Q I rv ru (M,by rw[e];show q0)
def OF(hu:X.A.units+64<cLine):OpD c X (cL .NotEq) dNe:=by
 rintro U s C H v u w G Q I rv ru ⟨Hf,x,y,d,s0,p,r,e,k⟩;unfold dNe at e
 cases h:deq 20 x y with
 |none=>rw[h]at e;nomatch e
 |some b=>
  rw[h]at e;cases e;have q0:=k _ Hf H (Ext.refl s0) rfl;have fin:EP X U C Q _ s:=(.bl (!b),H,I,rfl,q0);have p:=p.up s0;have r:=r.up s0;have n:∀{x y:D} {b:Bool} {v u:V} {w G:Value},deq 19 x y=aa b->Rep _ H x v->Rep (Gx c X) H y u->aD v w->aD u G->cw X.A.in1 s w G b:=λh a b c d=>yE I 19 (by rw[qS];lia) h a b c d
  by_cases hl:∃E ys,x=.lst E/\y=.lst ys
  .have(E,ys,rfl,rfl):=hl;have(a,vs,e,q,i):=id p;have(a',vs',e',q',j):=id r;subst e e';cases rv;subst ru;have(L,z,B,hz):=I.list (SqL.of q);have(m,g,l,T):=I.list (SqL.of q');have Y:=z.length;have l2:=g.length;have l3:=i.length;have l4:=j.length;replace h:(if Z E=ys.length then cG _ E ys else aa af)=aa b:=h;split at h
   .rename_i f;have(ee,J,ha):=m8 f h;show SeqAt.RcNeAt.lists B.isList l.isList (by simp only[size_toArray];lia) (by lia) (pf i j z g J n) X.prog X.w X.xe _ ?_;rw[size_toArray,<- Y,<- l3,ha];show fin
   .rename_i f;cases h;show SeqAt.RcNeAt.lists_lengths B.isList l.isList (by simp only[size_toArray,bne_iff_ne];lia) (by lia) X.prog X.w X.xe _ fin
  .by_cases ht:∃E ys,x=.tup E/\y=.tup ys
   .have(E,ys,rfl,rfl):=ht;have(a,vs,e,q,i):=id p;have(a',vs',e',q',j):=id r;subst e e';subst rv;subst ru;have(L,z,B,hz):=I.tuple (SqT.of q);have(m,g,l,T):=I.tuple (SqT.of q');have Y:=z.length;have l2:=g.length;have l3:=i.length;have l4:=j.length;replace h:(if Z E=ys.length then cG _ E ys else ab)=aa b:=h;split at h
    .rename_i f;have(ee,J,ha):=m8 f h;show SeqAt.RcNeAt.tuples (B) (l) (by lia) (pf i j z g J n) X.prog X.w X.xe _ ?_;have N:L.toArray.size=m.toArray.size:=by simp only[size_toArray];lia
     simp only[<- N,tP,beq_self_eq_true,qy,size_toArray,<- Y,<- l3,ha];show fin
    .nomatch h
   .have(hs,rfl):=uJ (hl,ht) h;have(_,_,_,M,e):=uI hs p r;show My U s C H v u w G Q I rv ru (M,by rw[e];show q0)
abbrev eqX:D->D->Bool
 |.non,.non=>ac
 |.bl a,.bl b=>a==b
 |.bl a,.int b=>(if a then 1 else 0)==b
 |.int a,.bl b=>a==(if b then 1 else 0)
 |.int a,.int b=>a==b
 |.str a,.str b=>a==b
 | _,_=>af
def inD(x y:D):Option Bool:=(iH y).bind λds=>if x.scalar && ds.all D.scalar then aa (ds.any λd=>eqX d x) else ab
def dIn(x y:D):OD:=(inD x y).map .bl
def jo(x y:D):OD:=(inD x y).map λb=>.bl (!b)
def yF:∀x y d,dIn x y=aa d->d.scalar=ac:=λ_ _ d e=>m6 d e
def uK:∀x y d,jo x y=aa d->d.scalar=ac:=λ_ _ d e=>m6 d e
def OG(c:x.scalar=ac)(d:y.scalar=ac)(e:Rep G H x v)(f:Rep G H y u):fP v=ac/\fP u=ac/\eqV v u=eqX x y:=by
 rcases uH c with rfl |⟨a,rfl⟩ |⟨a,rfl⟩ |⟨a,rfl⟩ <;> rcases uH d with rfl |⟨b,rfl⟩ |⟨b,rfl⟩ |⟨b,rfl⟩ <;> (subst e;subst f;show(rfl,rfl,rfl))
def Gb{G:Gc}{H:Hp}{x:D}{v:V}(b:x.scalar=ac)(r:Rep G H x v):∀{ds:LD} {vs:LVv},ds.all D.scalar=ac->am G H ds vs->vs.all fP=ac/\inV v vs=ds.any λd=>eqX d x
 | [],_,_,h=>by cases (h);show(rfl,rfl)
 |d::ds,_,ha,q3_=>by
  have(u,g,e,f,h2):=q3_;subst e;simp only[mr,b5]at ha;have(f1,f2,e):=OG ha.1 b f r;have(c,a):=Gb b r ha.2 h2;show(by simp only[mr,f1,c];rfl,?_);unfold inV at a ⊢;simp only[gA,gA,e,a]
def Ge(e:inD x y=aa b)(d:Rep G H x v)(j:Rep G H y u):∃p vs,u=.ref p/\(SqL G.K H p vs\/SqT G.K H p vs)/\fP v=ac/\vs.all fP=ac/\inV v vs=b:=by
 unfold inD at e
 cases es:iH y with
 |none=>rw[es]at e;nomatch e
 |some ds=>
  rw[es]at e;replace e:(if _=ac then aa _ else ab)=aa b:=e;split at e
  .rename_i c;cases e;rw[b5]at c;have(a,vs,g,q,r):=rb es j;have(h,i):=Gb c.1 d c.2 r
   have f:fP v=ac:=by cases x <;> first |(subst d;rfl) |(cases c.1)
   show(a,vs,g,q,f,h,i)
  .nomatch e
def yG:OpD c X (cL .In) dIn:=by
 rintro U s C H v u w m Q I l ru ⟨Hf,x,y,d,a,i,j,e,k⟩;unfold dIn at e
 cases h:inD x y with
 |none=>rw[h]at e;nomatch e
 |some b=>
  rw[h]at e;cases e;have(p,vs,f,q,f1,f2,g):=Ge h (i.up a) (j.up a);show Nu U s C H v u w m Q I l ru (p,vs,f,q,f1,f2,?_);rw[if_neg bM,g];show k _ Hf H (Ext.refl a) rfl
def uL:OpD c X (cL .NotIn) jo:=by
 rintro U s C H v u w m Q I l ru ⟨Hf,x,y,d,a,i,j,e,k⟩;unfold jo at e
 cases h:inD x y with
 |none=>rw[h]at e;nomatch e
 |some b=>
  rw[h]at e;cases e;have(p,vs,f,q,f1,f2,g):=Ge h (i.up a) (j.up a);show Nv U s C H v u w m Q I l ru (p,vs,f,q,f1,f2,?_);rw[if_pos rfl,g];show k _ Hf H (Ext.refl a) rfl
def OH{i:Int}(h:atI ds i=aa d)(r:am G H ds vs):∃v,atI vs i=aa v/\Rep G H d v:=by
 unfold atI at h ⊢;rw[<- r.length]
 cases e:ixN ds.length i with
 |none=>rw[e]at h;nomatch h
 |some j=>
  rw[e]at h;show r.get h
abbrev ixD(ds:LD):D->OD
 |.int k=>atI ds k
 | _=>ab
def mIx(f:MF2)(g:MF1)(M:LS):OD:=(f M).bind λds=>(g M).bind λi=>ixD ds i
variable{b:Expr}
def ph{f:MF2}(ha:DC c X a f)(y:DE c X b g)(z:autoParam (Fq b) Zj):DE c X (.Subscript a b pos) (mIx f g):=
 PE.imp (Nj (Nm.or Nn) ha y z) λC H Q A=>by
  have(Hf0,H0,Hf,M,d,st,e,k):=A;unfold mIx at e
  cases j:f M with
  |none=>rw[j]at e;nomatch e
  |some ds=>
   cases p:g M with
   |none=>rw[j,p]at e;nomatch e
   |some i=>
    rw[j,p]at e
    cases i with
    |int n=>
     show(Hf0,H0,Hf,M,ds,st,j,λl vs b3 H1 x q r=>(Hf0,H0,b3,M,.int n,st.step x,p,λu bm H2 m B=>?_));cases (B);have(v,w,E):=OH e r;have fin:=k v bm H2 (x.trans m) (E.up m.f)
     rcases q with q |q
     .show .inl (l,vs,n,v,rfl,rfl,m.h.seq q,w,fin)
     .show .inr (l,vs,n,v,rfl,rfl,m.h.tup q,w,fin)
    | _=>nomatch e
def rq(E:LD)(lo hi:Option Int):LD:=(E.drop (HT.sIx E.length 0 lo)).take (HT.sIx E.length E.length hi-HT.sIx E.length 0 lo)
abbrev lsD:D->OLD
 |.lst E=>aa E
 |.kl E=>aa E
 | _=>ab
def kB(e:lsD d=aa ds)(r:Rep G H d v):∃a vs,v=.ref a/\SqL G.K H a vs/\am G H ds vs:=by
 cases d with
 |lst E=>cases e;have(a,vs,b,q,r):=r;show(a,vs,b,SqL.of q,r)
 |kl E=>cases e;have(a,vs,b,q,r):=r;show(a,vs,b,q,r)
 | _=>nomatch e
inductive Gf(G:Gc)(f:LS->Option (Option Int))(C:St)(H:Hp)(Q:Option Int->Hp->Prop):Prop
 |mk:∀Hf0 H0 Hf M i,au G Hf0 H0 Hf H C M->f M=aa i->(∀Hf' H',Ext Hf H Hf' H'->Q i H')->Gf G f C H Q
def DPt(c:Str->Addr)(X:Cx)(e:Option Expr)(f:LS->Option (Option Int)):Prop:=PO X e (Gf (Gx c X) f)
def Gg:DPt c X ab (λ_=>aa ab):=λU s C H Q I b=>by
 have(Hf0,H0,Hf,M,i,st,a,k):=b;show(Nd U s C H Q I (by cases a;show k Hf H (Ext.refl st.sub)))
abbrev mPt(f:MF1)(M:LS):Option (Option Int):=(f M).bind λd=>match d with
 |.int i=>aa (aa i)
 | _=>ab
def Gh(h:DE c X e f):DPt c X (aa e) (mPt f):=λU s C H Q I g=>by
 have(Hf0,H0,Hf,M,i,st,a,k):=g
 show (Nf h U s C H Q I (by
 unfold mPt at a
 cases b:f M with
 |none=>rw[b]at a;nomatch a
 |some d=>
  rw[b]at a
  cases d with
  |int n=>cases a;show(Hf0,H0,Hf,M,.int n,st,b,λv Hf' H' x r=>(n,r,k Hf' H' x))
  | _=>nomatch a))
def mSl(f:MF1)(l h:LS->Option (Option Int))(M:LS):OLD:=(f M).bind λd=>(lsD d).bind λds=>(l M).bind λlo=>(h M).map λhi=>rq ds lo hi
def OI(r:am G H ds vs)(lo hi:Option Int):am G H (rq ds lo hi) (qX vs lo hi):=by
 unfold rq qX;rw[r.length];show(r.drop _).take _
variable{p2:Pos}
def Gi{l h:LS->Option (Option Int)}{lo hi:Option Expr}(ha:DE c X e f)(L:DPt c X lo l)(J:DPt c X hi h):DO c X (.Subscript e (.Slice lo hi ab p2) pos) (mSl f l h):=
 PE.imp (Ng Nt ha L J) λC H Q N=>by
  have(Hf0,H0,Hf,M,B,st,b,k):=N;unfold mSl at b
  cases g:f M with
  |none=>rw[g]at b;nomatch b
  |some d=>
   cases i:lsD d with
   |none=>rw[g]at b;replace b:(lsD d).bind _=_:=b;rw[i]at b;nomatch b
   |some ds=>
    cases j:l M with
    |none=>rw[g]at b;replace b:(lsD d).bind _=_:=b;rw[i,j]at b;nomatch b
    |some A=>
     cases u:h M with
     |none=>rw[g]at b;replace b:(lsD d).bind _=_:=b;rw[i,j,u]at b;nomatch b
     |some w=>
      rw[g]at b;replace b:(lsD d).bind _=_:=b;rw[i,j,u]at b;cases b;show(Hf0,H0,Hf,M,d,st,g,λv b3 H1 m T=>(Hf0,H0,b3,M,A,st.step m,j,λbm H2 E=>(Hf0,H0,bm,M,w,(st.step m).step E,u,λn U G=>?_)));have(a,vs,I,q,r):=kB i T;subst I;have x:=(m.trans E).trans G;have y:=(E.trans G);show(a,vs,rfl,(m.s.trans y.h).seq q,λp z=>(k p _ n _ (x.trans (Ext.tmp x.s z)) (x.h.free z) (x.s.free z) bd (OI (r.up y.f) _ _)))
abbrev rCD(G:Gc)(m:LD->OD):LVv->Hp->VK->Prop:=λvs H Q=>∃Hf ds d,aq Hf H/\am G Hf ds vs/\m ds=aa d/\∀v Hf' H',Ext Hf H Hf' H'->Rep G Hf' d v->Q v H'
nonrec abbrev rA(c:Str->Addr)(X:Cx)(f:Value)(m:LD->OD):Prop:=ie X f (rCD (Gx c X) m)
def aw(m:LD->OD)(f:MF2)(M:LS):OD:=(f M).bind m
variable{m:LD->OD}{f:MF2}
def yH(h:aw m f M=aa d):∃ds,f M=aa ds/\m ds=aa d:=by
 unfold aw at h
 cases e:f M with
 |none=>rw[e]at h;nomatch h
 |some ds=>rw[e]at h;show(ds,rfl,h)
variable{p:Pos}{x:Str}
def m9{id:String}(l:rA c X (.builtin id) m)(u:∀ds d,m ds=aa d->d.scalar=ac)(q:Gl X x)(hm:X.mg x=ab)(hv:jM x=aa (.builtin id))(ha:DAB c X (e::es) f)(hn:autoParam (x ≠ "__name__") Zc)(a:autoParam (NDb x) Zc)
 (n:autoParam (StE X e es) Zb)(b:autoParam (BkE X pos es) Zb):
  DE c X (.Call (.Name x p) (e::es) [] pos) (aw m f):=PE.imp (Fm l q hm hv ha.pa hn a n b) λC H Q w=>by
 have(Hf0,H0,Hf,M,d,st,j,k):=w;have(ds,i,g):=yH j;show(Hf0,H0,Hf,M,ds,st,i,λvs Hf' H' x r=>(H',ds,d,aq.refl _,r,g,λv bm H2 z y=>k v Hf' H2 (x.trans (Ext.grow x.s z.h)) (y.sc (u _ _ g))))
abbrev cQ:LD->OD
 | [.lst E]=>aa (.int (Z E))
 | [.tup E]=>aa (.int (Z E))
 | [.kl E]=>aa (.int (Z E))
 | [.kt E]=>aa (.int (Z E))
 | [.str x]=>if x.length<=16777216 then aa (.int x.length) else ab
 | _=>ab
def am.one(r:am G H [d] vs):∃v,vs=[v]/\Rep G H d v:=by
 have(v,a,e,h,q):=r;cases (q);show(v,e,h)
def Gj(e:cQ ds=aa d):∃a,ds=[a]/\((∃E,iH a=aa E/\d=.int (Z E))\/∃x,a=.str x/\x.length<=16777216/\d=.int x.length):=by
 cases ds with
 |nil=>nomatch e
 |cons a ds=>
  cases ds with
  |cons _ _=>cases a <;> nomatch e
  |nil=>
   show(a,rfl,?_)
   cases a with
   |lst E=>cases e;show .inl (E,rfl,rfl)
   |tup E=>cases e;show .inl (E,rfl,rfl)
   |kl E=>cases e;show .inl (E,rfl,rfl)
   |kt E=>cases e;show .inl (E,rfl,rfl)
   |str x=>
    replace e:(if x.length<=16777216 then aa _ else ab)=aa d:=e
    grind
   | _=>nomatch e
def OJ:rA c X (.builtin "len") cQ:=by
 rintro U s C H vs us Q I l ⟨Hf,ds,d,j,r,e,k⟩
 have sq:∀b E,ds=[b]->iH b=aa E->d=.int (Z E)->wpAny _ X.A _ _ X.xe s:=λb E g es e0=>by
  subst g e0;have(v,f,i):=r.one;subst f;have(a,ws,h,q,B):=rb es i;subst h;show Nw U s C H _ us Q I l (a,ws,rfl,yA j q,?_);rw[<- B.length];show k _ Hf H (Ext.refl j) rfl
 obtain⟨b,g,⟨E,f,h⟩ |⟨x,rfl,m,rfl⟩⟩:=Gj e
 .show sq b E g f h
 .subst g;have(v,f,i):=r.one;subst f;show Nx U s C H _ us Q I l (_,by rw[show v=V.str _ from i],by rw[dE];show m,k _ Hf H (Ext.refl j) rfl)
def OK:∀ds d,cQ ds=aa d->d.scalar=ac:=by
 intro ds d e
 obtain⟨a,c,⟨E,b,rfl⟩ |⟨x,rfl,f,rfl⟩⟩:=Gj e <;> rfl
abbrev gK:LD->Option (LI0)
 | []=>aa []
 |.int i::ds=>(gK ds).map λr=>i::r
 | _=>ab
def Gk{G:Gc}{H:Hp}:∀{ds:LD} {ns:LI0} {vs:LVv},gK ds=aa ns->am G H ds vs->vs=ns.map V.int
 | [],_,_,e,r=>by cases e;show r
 |.int i::ds,_,_,e,q4_=>by
  have(v,b,e',a,h2):=q4_;subst e'
  cases es:gK ds with
  |none=>rw[gK,es]at e;cases e
  |some ns=>
   rw[gK,es]at e;cases e;rw[Gk es h2,show v=V.int i from a]
   rfl
 |.non::_,_,_,e,_=>by cases e
 |.bl _::_,_,_,e,_=>by cases e
 |.str _::_,_,_,e,_=>by cases e
 |.lst _::_,_,_,e,_=>by cases e
 |.tup _::_,_,_,e,_=>by cases e
 |.kl _::_,_,_,e,_=>by cases e
 |.kt _::_,_,_,e,_=>by cases e
 |.dic _ _::_,_,_,e,_=>by cases e
 |.ins _ _ _::_,_,_,e,_=>by cases e
def OL(ns:LI0):gK (ns.map D.int)=aa ns:=by
 induction ns with
 |nil=>rfl
 |cons n ns a=>rw[bE,gK,a];rfl
abbrev jp:LD->OD
 | [d]=>(lsD d).bind λds=>(gK ds).map λns=>.int ns.sum
 | _=>ab
def yI(l:X.calm=ac):rA c X (.builtin "sum") jp:=by
 rintro U s C H vs us Q I n ⟨Hf,ds,d,g,r,e,k⟩;unfold jp at e;split at e
 .rename_i h
  cases b:lsD h with
  |none=>rw[b]at e;nomatch e
  |some E=>
   cases f:gK E with
   |none=>rw[b]at e;replace e:(gK E).map _=_:=e;rw[f]at e;nomatch e
   |some ns=>
    rw[b]at e;replace e:(gK E).map _=_:=e;rw[f]at e;cases e;have(v,j,m):=r.one;subst j;have(a,ws,i,q,B):=kB b m;subst i;show N4 l U s C H _ us Q I n (a,ns,rfl,?_,k _ Hf H (Ext.refl g) rfl);rw[<- Gk f B];show g.seq q
 .nomatch e
def yJ:∀ds d,jp ds=aa d->d.scalar=ac:=by
 intro ds d e;unfold jp at e;split at e
 .rename_i c
  cases a:lsD c with
  |none=>rw[a]at e;nomatch e
  |some E=>
   rw[a]at e;replace e:(gK E).map _=_:=e
   cases b:gK E with
   |none=>rw[b]at e;nomatch e
   |some ns=>rw[b]at e;cases e;rfl
 .nomatch e
def uM(n:jM x=aa (.type "list"))(m:Gl X x)(hm:X.mg x=ab)(ha:DC c X e f)(i:autoParam (aO [e] X.env=(af,eval e X.env,)::aO [] X.env) Zb)(hn:autoParam (x ≠ "__name__") Zc)(b:autoParam (NDb x) Zc)
 (g:autoParam ((cf pos (aO [] X.env)).any (·.1)=af) Zb):DO c X (.Call (.Name x p) [e] [] pos) f:=
 PE.imp (M8 Ny m hm n (eW ha d7 i) hn b i g) λC H Q u=>by
 have(Hf0,H0,Hf,M,ds,st,j,k):=u
 show (
  (Hf0,H0,Hf,M,ds,st,j,λa vs Hf' H' x q r=>(a,vs,rfl,q,λl d=>k l vs Hf' _ (x.trans (Ext.tmp x.s d)) (x.h.free d) (x.s.free d) bd r)))
abbrev tyN:D->Option String
 |.non=>aa "NoneType"
 |.bl _=>aa "bool"
 |.int _=>aa "int"
 |.str _=>aa "str"
 |.lst _=>aa "list"
 |.tup _=>aa "tuple"
 |.dic _ _=>aa "dict"
 | _=>ab
def yK(T:String)(d:D):OD:=(tyN d).map λt=>.bl (t==T || (t == "bool" && T == "int"))
def OM{t:String}(e:tyN d=aa t)(r:Rep G H d v):gG G.K H v (.type t):=by
 cases d with
 |non=>cases e;subst r;show .non
 |bl b=>cases e;subst r;show .bl b
 |int i=>cases e;subst r;show .int i
 |str x=>cases e;subst r;show .str x
 |lst E=>cases e;have(a,vs,c,q,r):=r;subst c;show .lst q
 |tup E=>cases e;have(a,vs,c,q,r):=r;subst c;show .tup q
 |dic ks E=>cases e;have(a,vs,c,q,l,r):=r;subst c;show .dK q
 | _=>nomatch e
def rB(K:aQ)(T:String):Prop:=∀t∈["NoneType","bool","int","str","list","tuple","dict"],W.kitOne K (.type t) (.type T)=aa (t==T || (t == "bool" && T == "int"))
def ON{t:String}(e:tyN d=aa t):t∈["NoneType","bool","int","str","list","tuple","dict"]:=by
 cases d <;> first |(cases e;decide) |cases e
def pi(T:String)(f:MF1)(M:LS):OD:=(f M).bind (yK T)
def Gm{f:MF1}{T:String}{b:Pos}{y:Str}(w:rB X.K T)(u:Gl X "isinstance")(hm:X.mg "isinstance"=ab)(z:jM y=aa (.type T))(j:Gl X y)(l:X.mg y=ab)(ha:DB c X e f)
 (q:autoParam (aO [e,.Name y b] X.env=(af,eval e X.env,)::aO [.Name y b] X.env) Zb)(n:autoParam (aO [.Name y b] X.env=(af,eval (.Name y b) X.env,)::aO [] X.env) Zb)
 (hn:autoParam (y ≠ "__name__") Zc)(i:autoParam ((y==("__debug__":Str))=af) Zc)(m:autoParam ((cf pos (aO [.Name y b] X.env)).any (·.1)=af) Zb):
  DE c X (.Call (.Name "isinstance" p) [e,.Name y b] [] pos) (pi T f):=
 PE.imp (Fm N5 u hm boot_isinstance (eW ha (eW (Lu (v:=.ty T) j l z rfl hn i) d7 n) q) (by decide) (by decide) q m) λC H Q A=>by
  have(Hf0,H0,Hf,M,d,st,a,k):=A;unfold pi at a
  cases h:f M with
  |none=>rw[h]at a;nomatch a
  |some x=>
   rw[h]at a;replace a:yK T x=aa d:=a;unfold yK at a
   cases g:tyN x with
   |none=>rw[g]at a;nomatch a
   |some t=>
    rw[g]at a;cases a;show(Hf0,H0,Hf,M,x,st,h,λv Hf' H' B r=>(v,T,.type t,_,rfl,OM g r,w t (ON g),k _ Hf' H' B rfl))
inductive tDG(G:Gc)(g:D->LS->Option LS)(v:V)(C:St)(H:Hp)(Q:St->Hp->Prop):Prop
 |mk:∀Hf0 H0 Hf M d ρ',au G Hf0 H0 Hf H C M->Rep G Hf d v->g d M=aa ρ'->(∀σ',au G Hf0 H0 Hf H σ' ρ'->Q σ' H)->tDG G g v C H Q
inductive Gn(G:Gc)(g:LD->LS->Option LS)(vs:LVv)(C:St)(H:Hp)(Q:St->Hp->Prop):Prop
 |mk:∀Hf0 H0 Hf M ds ρ',au G Hf0 H0 Hf H C M->am G Hf ds vs->g ds M=aa ρ'->(∀σ',au G Hf0 H0 Hf H σ' ρ'->Q σ' H)->Gn G g vs C H Q
structure DG(c:Str->Addr)(X:Cx)(tg:Expr)(k:Nat)(g:D->LS->Option LS):Prop where
 pg:PG X tg (tDG (Gx c X) g)
 len:∀d M ρ',g d M=aa ρ'->Z ρ'=Z M
 keep:∀d M ρ' i,g d M=aa ρ'->k<=i->ρ'[i]?=M[i]?
structure DGs(c:Str->Addr)(X:Cx)(tg:LEx)(k:Nat)(g:LD->LS->Option LS):Prop where
 pg:PGs X tg (Gn (Gx c X) g)
 len:∀d M ρ',g d M=aa ρ'->Z ρ'=Z M
 keep:∀d M ρ' i,g d M=aa ρ'->k<=i->ρ'[i]?=M[i]?
 many:∀ds M ρ',g ds M=aa ρ'->Z ds=Z tg
def ax(i:Nat)(d:D)(M:LS):Option LS:=aa (M.set i (.im d))
def Go{i k:Nat}(h:PG X e (ib i))(g:i<k):DG c X e k (ax i):=
 (PG.imp h λv C H Q b=>by have(Hf0,H0,Hf,M,d,ρ',st,r,a,q):=b;cases a;show q _ (st.setIm r),λd M ρ' h=>by cases h;simp,λd M ρ' j h f=>by
  cases h;rw[lh (by lia)])
def OO(i k:Nat)(a:X.N.Nodup)(d:autoParam (i<k) Zc)(hi:autoParam (X.N[i]?=aa x) Zb)(e:autoParam (Loc X.env.scope x) Zf)(b:autoParam (LcF X x) Zg):DG c X (.Name x pos) k (ax i):=
 Go (xM a hi e b) d
def dA(ds:LD)(M:LS):Option LS:=match ds with
 | []=>aa M
 | _=>ab
def bv(g:D->LS->Option LS)(h:LD->LS->Option LS)(ds:LD)(M:LS):Option LS:=match ds with
 |d::ds=>(g d M).bind λρ1=>h ds ρ1
 | []=>ab
def OP{k:Nat}:DGs c X [] k dA:=by
 show(PGs.imp LX λvs C H Q f=>?_,λd M ρ' h=>?_,λd M ρ' i h _=>?_,λd M ρ' h=>?_)
 .have(Hf0,H0,Hf,M,ds,ρ',st,r,e,q):=f
  cases ds with
  |nil=>cases e;show(r,q _ st)
  |cons d ds=>nomatch e
 .cases d with
  |nil=>cases h;rfl
  |cons a b=>nomatch h
 .cases d with
  |nil=>cases h;rfl
  |cons a b=>nomatch h
 .cases d with
  |nil=>cases h;rfl
  |cons a b=>nomatch h
variable{h:LD->LS->Option LS}
def uN{g:D->LS->Option LS}(e:bv g h ds M=aa ρ'):∃d r ρ1,ds=d::r/\g d M=aa ρ1/\h r ρ1=aa ρ':=by
 cases ds with
 |nil=>nomatch e
 |cons d r=>
  replace e:(g d M).bind _=_:=e
  cases a:g d M with
  |none=>rw[a]at e;nomatch e
  |some ρ1=>rw[a]at e;show(d,r,ρ1,rfl,a,e)
def OQ{k:Nat}{g:D->LS->Option LS}(j:DG c X e k g)(h2:DGs c X es k h)(n:autoParam ((i9 (e::es) X.env).map (·.2)=assign e X.env::(i9 es X.env).map (·.2)) Zb):DGs c X (e::es) k (bv g h):=by
 show(PGs.imp (LY j.pg h2.pg n) λvs C H Q p=>?_,λd M ρ' h=>?_,λd M ρ' i h hi=>?_,λd M ρ' h=>?_)
 .have(Hf0,H0,Hf,M,ds,ρ',st,r,l,q):=p;have(d,f,ρ1,rfl,b,a):=uN l;have(v,x,m,w,u):=r;show(v,x,m,Hf0,H0,Hf,M,d,ρ1,st,w,b,λy st1=>(Hf0,H0,Hf,ρ1,f,ρ',st1,u,a,q))
 .have(d,f,ρ1,rfl,b,a):=uN h;rw[h2.len _ _ _ a,j.len _ _ _ b]
 .have(d,f,ρ1,rfl,b,a):=uN h;rw[h2.keep _ _ _ _ a hi,j.keep _ _ _ _ b hi]
 .have(d,f,ρ1,rfl,b,a):=uN h;rw[cv,cv,h2.many _ _ _ a]
abbrev tpD:D->OLD
 |.tup E=>aa E
 |.kt E=>aa E
 | _=>ab
def Gp(e:tpD d=aa ds)(r:Rep G H d v):∃a vs,v=.ref a/\SqT G.K H a vs/\am G H ds vs:=by
 cases d with
 |tup E=>cases e;have(a,vs,b,q,r):=r;show(a,vs,b,SqT.of q,r)
 |kt E=>cases e;have(a,vs,b,q,r):=r;show(a,vs,b,q,r)
 | _=>nomatch e
def c9(g:LD->LS->Option LS)(d:D)(M:LS):Option LS:=(tpD d).bind λds=>g ds M
def yL{g:LD->LS->Option LS}(h:c9 g d M=aa ρ'):∃ds,tpD d=aa ds/\g ds M=aa ρ':=by
 unfold c9 at h
 cases e:tpD d with
 |none=>rw[e]at h;nomatch h
 |some ds=>rw[e]at h;show(ds,rfl,h)
variable{kk:Nat}
def OR{k:Nat}{g:LD->LS->Option LS}(n:X.calm=ac)(h:DGs c X es k g)(hn:autoParam (Z (i9 es X.env)=Z es) Zb)(f:autoParam ((i9 es X.env).findIdx? (·.1)=ab) Zb):DG c X (.Tuple es kk pos) k (c9 g):=by
 show(PG.imp (L4 n h.pg hn f) λv C H Q p=>?_,λd M ρ' h'=>?_,λd M ρ' i h' hi=>?_)
 .have(Hf0,H0,Hf,M,d,ρ',st,r,m,q):=p;have(ds,e,b):=yL m;have(a,vs,l,u,j):=Gp e r;show(a,vs,l,st.sub.tup u,by rw[<- j.length];show h.many _ _ _ b,Hf0,H0,Hf,M,ds,ρ',st,j,b,q)
 .have(ds,e,b):=yL h';show h.len _ _ _ b
 .have(ds,e,b):=yL h';show h.keep _ _ _ _ b hi
def rC(G:Gc)(Hf:Hp)(J:It)(ds:LD):Prop:=∀Hf' H',aq Hf Hf'->aq Hf' H'->∀i:Nat,
 (∀d,ds[i]?=aa d->J.go i H'/\∀x H2,J.yld i H' x H2->∃bm,Ext Hf' H' bm H2/\Rep G bm d x)/\(i=Z ds->J.stop i H')
def uO(G:Gc)(Hf H:Hp)(J:It)(ds:LD):Prop:=∀Hf' H',Ext Hf H Hf' H'->∀i:Nat,
 (∀d,ds[i]?=aa d->J.go i H'/\∀x H2,J.yld i H' x H2->∃bm,Ext Hf' H' bm H2/\Rep G bm d x)/\(i=Z ds->J.stop i H')
def rC.toE(h:rC G Hf J ds):uO G Hf H J ds:=λHf' H' x i=>h Hf' H' x.f x.s i
inductive tDI(G:Gc)(f:MF2)(C:St)(H:Hp)(R:It->Hp->Prop):Prop
 |mk:∀Hf0 H0 Hf M ds,au G Hf0 H0 Hf H C M->f M=aa ds->(∀J Hf' H',Ext Hf H Hf' H'->rC G Hf' J ds->R J H')->tDI G f C H R
inductive yM(G:Gc)(f:MF2)(C:St)(H:Hp)(R:It->Hp->Prop):Prop
 |mk:∀Hf0 H0 Hf M ds,au G Hf0 H0 Hf H C M->f M=aa ds->(∀J Hf' H',Ext Hf H Hf' H'->uO G Hf' H' J ds->R J H')->yM G f C H R
def DI(c:Str->Addr)(X:Cx)(tg iter:Expr)(f:MF2):Prop:=PI X tg iter (tDI (Gx c X) f)
def DIe(c:Str->Addr)(X:Cx)(tg iter:Expr)(f:MF2):Prop:=PI X tg iter (yM (Gx c X) f)
def DI.de(h:DI c X tg e f):DIe c X tg e f:=PI.imp h λC H R b=>by
 have(Hf0,H0,Hf,M,ds,st,a,k):=b;show((Hf0,H0,Hf,M,ds,st,a,λJ Hf' H' x i=>k J Hf' H' x i.toE))
def Gq(q:SqL G.K H l vs)(r:am G Hf ds vs):uO G Hf H (Itl G.K l) ds:=λHf' H' b i=>by
 have a:=b.h.seq q;show(λd g=>?_,λj=>(vs,a,by rw[<- r.length,j];show aM _));have(v,c,m):=r.get g;show((vs,v,a,c),λx H2 (e,y)=>?_);subst e;have:=y vs a;rw[c]at this;cases this;show(Hf',Ext.refl b.s,m.up b.f)
def OS(q:SqT G.K Hf l vs)(r:am G Hf ds vs):rC G Hf (Itt G.K l) ds:=λHf' H' f s i=>by
 have a:=(f.trans s).tup q;show(λd e=>?_,λg=>(vs,a,by rw[<- r.length,g];show aM _));have(v,b,h):=r.get e;show((vs,v,a,b),λx H2 (c,y)=>?_);subst c;have:=y vs a;rw[b]at this;cases this;show(Hf',Ext.refl s,h.up f)
def pq{f:MF1}(h:DE c X e f):DI c X tg e (aV f):=λU s C H R I A=>by
 have(Hf0,H0,Hf,M,ds,st,b,k):=A;unfold aV at b
 cases g:f M with
 |none=>rw[g]at b;nomatch b
 |some d=>
  rw[g]at b
  cases j:lsD d with
  |some l=>
   have:l=ds:=by cases d <;> first |(cases j;done) |(cases j;cases b;rfl)
   subst this;show xR h U s C H R I (Hf0,H0,Hf,M,d,st,g,λv Hf' H' x r=>?_);have(a,vs,n,q,B):=kB j r
   show⟨a,n,(vs,x.s.seq q),k _ Hf' H' x λbm H2 f2 s2 i=>by
    have p:=(f2.trans s2).seq q;show(λd w=>?_,λz=>(vs,p,by rw[<- B.length,z];show aM _));have(v,u,E):=B.get w;show((vs,v,p,u),λx G (m,y)=>?_);subst m;have:=y vs p;rw[u]at this;cases this
    show(bm,Ext.refl s2,E.up f2)⟩
  |none=>
   have m:tpD d=aa ds:=by cases d <;> first |(cases j;done) |(cases b;done) |(cases b;rfl)
   show Mf h U s C H R I (Hf0,H0,Hf,M,d,st,g,λv Hf' H' x r=>?_);have(a,vs,n,q,B):=Gp m r;show(a,n,(vs,x.s.tup q),k _ Hf' H' x (OS q B))
def rng(lo:Int)(n:Nat):LD:=(bu n).map λ(i:Nat)=>.int (lo+i)
def OU{lo:Int}:rC G Hf (Itr lo n) (rng lo n):=λHf' H' f s i=>by
 show(λd a=>?_,λb=>?_)
 .unfold rng at a;rw[cu]at a
  cases e:(bu n)[i]? with
  |none=>rw[e]at a;nomatch a
  |some j=>
   rw[e]at a;have(hi,c):=c7.mp e;rw[cC]at hi;rw[List.getElem_range]at c;subst c;cases a;show(hi,λx H2 (g,y)=>by subst g;show(Hf',Ext.refl s,y))
 .unfold rng at b;rw[ay,cC]at b;show Nat.le_of_eq b.symm
abbrev yN:LD->OLD
 | [.int j]=>if -(2 ^ 62)<=j/\j<2 ^ 62 then aa (rng 0 (S j)) else ab
 | [.int i,.int j]=>if -(2 ^ 62)<=i/\i<2 ^ 62/\-(2 ^ 62)<=j/\j<2 ^ 62 then aa (rng i (S (j-i))) else ab
 | _=>ab
def gL(f:MF2)(M:LS):OLD:=(f M).bind yN
def Gr(h:Gl X "range")(hm:X.mg "range"=ab)(ha:DA c X [a] f)(l:autoParam (aO [a] X.env=[(af,eval a X.env,)]) Zb):DI c X tg (.Call (.Name "range" p) [a] [] pos) (gL f):=
 PI.imp (Mi h hm ha.pa l) λC H R m=>by
  have(Hf0,H0,Hf,M,ds,st,b,k):=m;unfold gL at b
  cases d:f M with
  |none=>rw[d]at b;nomatch b
  |some as=>
   rw[d]at b;replace b:yN as=aa ds:=b;have i:=ha.len M as d;show(Hf0,H0,Hf,M,as,st,d,λvs Hf' H' x r=>?_);unfold yN at b;split at b
   .split at b
    .rename_i j e;cases b;have(v,g,n):=r.one;cases (n);show(j,g,e.1,e.2,k _ Hf' H' x OU)
    .nomatch b
   .nomatch i
   .nomatch b
def iI(k:Nat)(js:LN)(M:LS):LS:=g6 k .no++js.map λj=>(M[j]?).getD .no
def au.weak(h:au G Hf0 H0 Hf H C M)(f:Z ρ'=Z M)(d:∀(i:Nat) (s:Sl),ρ'[i]?=aa s->s=.no\/M[i]?=aa s):au G Hf0 H0 Hf H C ρ':=by
 show h.re h.ext f (λi v s a b=>?_) λi s v a b c p=>?_
 .rcases d i s b with e |e
  .subst e;trivial
  .show h.at' i v s a e
 .rcases d i s b with e |e
  .subst e;show(p.calm rfl).elim
  .show(s,e,p)
def uP{a:Type}{k:Nat}{x:a}{l:List a}{y:a}(h:(g6 k x++l)[i]?=aa y):(i<k/\y=x)\/(k<=i/\l[i-k]?=aa y):=by
 by_cases hi:i<k
 .left;rw[mh (by simpa using hi),om,if_pos hi]at h;show(hi,(dz h).symm)
 .right;rw[oj (by simpa using oB hi),mi]at h;show(oB hi,h)
def nh{a b:Type}{f:a->b}{l:List a}{y:b}(h:(l.map f)[i]?=aa y):∃x,l[i]?=aa x/\y=f x:=by
 rw[cu]at h
 cases e:l[i]? with
 |none=>rw[e]at h;nomatch h
 |some x=>rw[e]at h;show(x,rfl,(dz h).symm)
def OV(h:js.Nodup){x:Nat}(a:js[i]?=aa x)(b:js[j]?=aa x):i=j:=by
 have(e,c):=c7.mp a;have(h2,d):=c7.mp b;show(List.getElem_inj h).mp (c.trans d.symm)
def au.comp(k:Nat)(h:au G Hf0 H0 Hf H C M)(U:js.Nodup):au G Hf0 H0 Hf H (jk k js C) (iI k js M):=by
 have own:∀i s,(iI k js M)[i]?=aa s->s.calm=af->∃j,k<=i/\js[i-k]?=aa j/\M[j]?=aa s:=λi s a r=>by
  rcases uP a with⟨_,e⟩ |⟨hi,a⟩
  .subst e;nomatch r
  .have(j,f,es):=nh a
   cases e:M[j]? with
   |none=>rw[e]at es;subst es;nomatch r
   |some t=>rw[e]at es;replace es:s=t:=es;subst es;show(j,hi,f,e)
 have val:∀i v j,(jk k js C)[i]?=aa v->k<=i->js[i-k]?=aa j->v=(C[j]?).getD ab:=λi v j a hi f=>by
  rcases uP a with⟨T,_⟩ |⟨_,a⟩
  .lia
  .have(A,g,es):=nh a;rw[f]at g;cases g;show es
 show(h.ext,by simp[jk,iI],λi v s a b=>?_,λi j s t y z l a b c d p q=>?_)
 .rcases uP b with⟨_,e⟩ |⟨hi,b⟩
  .subst e;trivial
  .have(j,f,es):=nh b;have J:=val i v j a hi f
   cases e:M[j]? with
   |none=>rw[e]at es;subst es;trivial
   |some t=>
    rw[e]at es;subst es;have(u,Q,q):=h.slot e;rw[Q]at J;subst J;show q
 .have r:s.calm=af:=by
   cases w:s.calm with
   |true=>show(p.calm w).elim
   |false=>rfl
  have Y:t.calm=af:=by
   cases w:t.calm with
   |true=>show(q.calm w).elim
   |false=>rfl
  have(L,hi,I,B):=own i s a r;have(A,x,f,E):=own j t b Y;have v1:=val i _ L c hi I;have N:=val j _ A d x f;have(u1,m,_):=h.slot B;have(u2,n,_):=h.slot E;rw[m]at v1;rw[n]at N;subst v1 N;have:=h.dj L A s t y z l B E m n p q;subst this;have:=OV U I f
  lia
abbrev eX(h:D->Option OD):LD->OLD
 | []=>aa []
 |d::ds=>(h d).bind λo=>(eX h ds).map λr=>match o with
  |some y=>y::r
  |none=>r
def OW{h:D->Option OD}{r:LD}(e:eX h (d::ds)=aa r):∃o a,h d=aa o/\eX h ds=aa a/\r=(match o with |some y=>y::a |none=>a):=by
 dsimp only[eX]at e
 cases b:h d with
 |none=>rw[b]at e;nomatch e
 |some o=>
  cases c:eX h ds with
  |none=>rw[b,c]at e;nomatch e
  |some a=>
   rw[b,c]at e;cases e;show(o,a,rfl,rfl,?_)
   cases o <;> rfl
def gM(g:D->LS->Option LS)(ft:MF4)(fe:MF1)(M:LS)(d:D):Option OD:=(g d M).bind λρ1=>(ft ρ1).bind λb=>if b then (fe ρ1).map aa else aa ab
def bj(k:Nat)(js:LN)(fi:MF2)(g:D->LS->Option LS)(ft:MF4)(fe:MF1)(M:LS):OLD:=
 (fi M).bind λds=>if Z ds<=16777216 then eX (gM g ft fe (iI k js M)) ds else ab
def yO{a:Type}{l:List a}(h:i<Z l):∃x,l[i]?=aa x/\l.drop i=x::l.drop (i+1):=(l[i],by simp[h],(drop_eq_getElem_cons h))
def DTs(c:Str->Addr)(X:Cx)(c3:LEx)(f:MF4):Prop:=PTs X c3 (tDT (Gx c X) f)
def OX:DTs c X [] kY:=PTs.imp N0 λC H Q d=>by
 have(Hf0,H0,Hf,M,b,st,a,k):=d;show(by cases a;show k Hf H (Ext.refl st.sub))
def px{f:MF4}(h:DT c X e f):DTs c X [e] f:=N1 h
variable{g:D->LS->Option LS}{ft:MF4}{fe:MF1}{B:LD}
def Gs{k:Nat}(hj:js.Nodup)(hk:∀d M ρ' i,g d M=aa ρ'->k<=i->ρ'[i]?=M[i]?)(A:∀d M ρ',g d M=aa ρ'->Z ρ'=Z M){ti:TI}(st:au G Hf0 H0 Hf H C M)
 (hti:∀R:It->Hp->Prop,(∀J b3 H1,Ext Hf H b3 H1->uO G b3 H1 J ds->R J H1)->ti C H R)(hz:Z ds<=16777216)(ef:eX (gM g ft fe (iI k js M)) ds=aa B)
 (kq:∀l vs Hf' H',Ext Hf H Hf' H'->H l=ab->Hf' l=ab->H' l=aa (.lst vs)->am G Hf' B vs->Q (.ref l) H'):oZ k js ti (tDG G g) (tDT G ft) (tD G fe) C H Q:=by
 show hti _ λJ b3 H1 x1 it=>?_
 show(λi m ys σ' H'=>m=Z ds-i/\i<=Z ds/\∃Hf' as rest,Ext b3 H1 Hf' H'/\au G Hf0 H0 Hf' H' σ' _/\am G Hf' as ys/\eX _ (ds.drop i)=aa rest/\B=as++rest/\Z as<=i,
  (Z ds,rfl,cj _,b3,[],B,Ext.refl x1.s,(st.step x1).comp k hj,rfl,ef,rfl,aM _),?_)
 rintro i m ys σ' H' ⟨rfl,hi,Hf',as,rest,x2,st2,ra,Y,er,hal⟩;have E:Z ys<=aT:=by rw[dE,<- ra.length];lia
 have(it1,it2):=it Hf' H' x2 i
 by_cases q:i<Z ds
 .have(d,ed,edr):=yO q;have(go,yl):=it1 d ed
  show .inr (go,E,λL N H2=>Z ds-_=Z ds-_/\i+1<=Z ds/\∃Hf' as rest,Ext b3 H1 Hf' H2/\au G Hf0 H0 Hf' H2 N _/\am G Hf' as L/\eX _ _=aa rest/\B=as++rest/\Z as<=i+1,
   λL N H2 w=>(Z ds-(i+1),by lia,w),λx H2 y=>?_)
  have(bm,x3,rx):=yl x H2 y;rw[edr]at Y;have(o,r',a,u,n):=OW Y;unfold gM at a
  cases z:g d _ with
  |none=>rw[z]at a;nomatch a
  |some ρ1=>
   rw[z]at a;replace a:(ft ρ1).bind _=_:=a
   cases et:ft ρ1 with
   |none=>rw[et]at a;nomatch a
   |some b=>
    rw[et]at a;show(Hf0,H0,bm,iI k js M,d,ρ1,st2.step x3,rx,z,λT p=>(Hf0,H0,bm,ρ1,b,p,et,λr H4 I=>?_))
    have back:∀{c U:Hp},au G Hf0 H0 c U T ρ1->au G Hf0 H0 c U T _:=λ{c U} s5=>s5.weak (A _ _ _ z).symm λj s hs=>by
     rcases uP hs with⟨_,e⟩ |⟨hj',_⟩
     .show .inl e
     .show .inr (by rw[hk _ _ _ _ z hj'];show hs)
    cases b with
    |true=>
     cases ee:fe ρ1 with
     |none=>rw[ee]at a;nomatch a
     |some y'=>
      rw[ee]at a;cases a;show(Hf0,H0,r,ρ1,y',p.step I,ee,λv c U x5 r5=>?_);have x:=(x3.trans I).trans x5;show(rfl,q,c,as++[y'],r',x2.trans x,back ((p.step I).step x5),(ra.up x.f).append (.cons r5 .nil),u,?_,by simp only[aS,f6];lia);simp only[er,n,cK]
      rfl
    |false=>
     cases a;have x:=x3.trans I;show(rfl,q,r,as,r',x2.trans x,back (p.step I),ra.up x.f,u,by rw[er,n],by lia)
 .have ei:i=Z ds:=by lia
  subst ei;show .inl (it2 rfl,E,λl h1 h2=>?_);rw[drop_eq_nil_of_le (aM _)]at Y;cases Y;rw[bO]at er;subst er;have x:=x1.trans x2;show kq l ys Hf' _ (x.trans (Ext.tmp x.s h2)) (x.h.free h2) (x.s.free h2) bd ra
variable{fi:MF2}
def yP{k:Nat}(e:js.Nodup)(f:∀d M ρ' i,g d M=aa ρ'->k<=i->ρ'[i]?=M[i]?)(b:∀d M ρ',g d M=aa ρ'->Z ρ'=Z M)(h:tDO G (bj k js fi g ft fe) C H Q):
  oZ k js (yM G fi) (tDG G g) (tDT G ft) (tD G fe) C H Q:=by
 have(Hf0,H0,Hf,M,B,st,a,j):=h;unfold bj at a
 cases c:fi M with
 |none=>rw[c]at a;nomatch a
 |some ds=>
  rw[c]at a;replace a:(if Z ds<=16777216 then eX _ ds else ab)=aa B:=a
  by_cases hz:Z ds<=16777216
  .rw[if_pos hz]at a;show Gs e f b st (λR q=>(Hf0,H0,Hf,M,ds,st,c,λJ b3 H1 l it=>q J b3 H1 l it)) hz a j
  .rw[if_neg hz]at a
   nomatch a
def kC(k:Nat)(js:LN)(Nc:LSt)(d:X.calm=ac)(hi:DIe c X tg iter fi)(a:∀cl X5 ex cc cs,DG c (X.comp scope Nc cl X5 ex cc cs) tg k g)(j:∀cl X5 ex cc cs,DTs c (X.comp scope Nc cl X5 ex cc cs) c3 ft)
 (e:∀cl X5 ex cc cs,DE c (X.comp scope Nc cl X5 ex cc cs) c5 fe)(b:autoParam (lK scope X.env.scope.names X.N Nc k js=ac) Zb)(i:autoParam (∀x,lx iter X.env x=pure x) Zd)(f:autoParam (js.Nodup) Zc):
  DO c X (.ListComp c5 [(tg,iter,c3,0)] scope pos) (bj k js fi g ft fe):=
 PE.imp (N3 (tt:=tDT (Gx c X) ft) (te:=tD (Gx c X) fe) k js Nc d hi (λcl X5 ex cc cs=>(a cl X5 ex cc cs).pg) j e b i) λC H Q h=>
  yP f (a [] 0 [] X.s₀ X.H₀).keep (a [] 0 [] X.s₀ X.H₀).len h
def dvc{cl:List (Str×Addr)}(i:Nat)(b:autoParam (Nc[i]?=aa x) Zb)(hv:autoParam (Vis scope x) Ze)(hd:autoParam (NDb x) Zc)
 (a:autoParam (NCd x) Zc):DE c (X.comp scope Nc cl X5 ex cc cs) (.Name x pos) (ae i):=FP (pvc i b hv hd a)
def OY{cl:List (Str×Addr)}(i:Nat)(b:autoParam (Nc[i]?=aa x) Zb)(hv:autoParam (Vis scope x) Ze)(hd:autoParam (NDb x) Zc)
 (a:autoParam (NCd x) Zc):DB c (X.comp scope Nc cl X5 ex cc cs) (.Name x pos) (cP i):=FR (pvc i b hv hd a)
def yQ{cl:List (Str×Addr)}(i:Nat)(b:autoParam (Nc[i]?=aa x) Zb)(hv:autoParam (Vis scope x) Ze)(hd:autoParam (NDb x) Zc)
 (a:autoParam (NCd x) Zc):DC c (X.comp scope Nc cl X5 ex cc cs) (.Name x pos) (ar i):=FQ (pvc i b hv hd a)
def dgc{cl:List (Str×Addr)}(i k:Nat)(b:autoParam (i<k) Zc)(a:autoParam (Nc.Nodup) Zm)(hi:autoParam (Nc[i]?=aa x) Zb)(d:autoParam (scope.names.lookup x=aa .local) Zb):DG c (X.comp scope Nc cl X5 ex cc cs) (.Name x pos) k (ax i):=
 Go (pgc i a hi d) b
inductive Fl where
 |nx (M:LS)
 |bk (M:LS)
 |ct (M:LS)
 |rt (d:D)
 |rtO (ds:LD)
 |rtS (d:D) (M:LS)
 |rtT (o:O)
nonrec abbrev MF3:=LS->Option Fl
abbrev uQ(G:Gc)(Hf0 H0 Hf:Hp)(X4:jg):Fl->Prop
 |.nx ρ'=>∀σ' Hf' H',aq Hf Hf'->au G Hf0 H0 Hf' H' σ' ρ'->X4.nx σ' H'
 |.bk ρ'=>∀σ' Hf' H',aq Hf Hf'->au G Hf0 H0 Hf' H' σ' ρ'->X4.bk σ' H'
 |.ct ρ'=>∀σ' Hf' H',aq Hf Hf'->au G Hf0 H0 Hf' H' σ' ρ'->X4.ct σ' H'
 |.rt d=>∀v Hf' H',Ext Hf0 H0 Hf' H'->Rep G Hf' d v->X4.rt v H'
 |.rtO ds=>∀l vs Hf' H',Ext Hf0 H0 Hf' H'->H0 l=ab->Hf' l=ab->H' l=aa (.lst vs)->am G Hf' ds vs->X4.rt (.ref l) H'
 |.rtS d M=>∀v σ' Hf' H',au G Hf0 H0 Hf' H' σ' M->Rep G Hf' d v->X4.rt v H'
 |.rtT o=>∀u fp Hf' H',Ext Hf0 H0 Hf' H'->OT G Hf' H' o u fp->fp.Nodup->(∀a∈fp,H0 a=ab/\Hf' a=ab)->X4.rt u H'
inductive tDS(G:Gc)(F:MF3)(X4:jg)(C:St)(H:Hp):Prop
 |mk:∀Hf0 H0 Hf M o,au G Hf0 H0 Hf H C M->F M=aa o->uQ G Hf0 H0 Hf X4 o->tDS G F X4 C H
def DS(c:Str->Addr)(X:Cx)(st:Stmt)(F:MF3):Prop:=PS X st (tDS (Gx c X) F)
def DSs(c:Str->Addr)(X:Cx)(st:List Stmt)(F:MF3):Prop:=PSs X st (tDS (Gx c X) F)
def bB(M:LS):Option Fl:=aa (.nx M)
def ai(F a:MF3)(M:LS):Option Fl:=(F M).bind λo=>match o with
 |.nx ρ'=>a ρ'
 |o=>aa o
def aZ(t:MF4)(F a:MF3)(M:LS):Option Fl:=(t M).bind λb=>if b then F M else a M
def a8(i:Nat)(f:MF1)(M:LS):Option Fl:=(f M).map λd=>.nx (M.set i (.im d))
def cZ(i:Nat)(f:MF2)(M:LS):Option Fl:=(f M).map λd=>.nx (M.set i (.own d))
def aW(f:MF1)(M:LS):Option Fl:=(f M).map .rt
def cr(f:MF2)(M:LS):Option Fl:=(f M).map .rtO
def eD(i:Nat)(M:LS):Option Fl:=match M[i]? with
 |some (.im d)=>aa (.rt d)
 |some (.own E)=>aa (.rtO E)
 | _=>ab
abbrev iJ(g:D->LS->Option LS)(F:MF3):LD->MF3
 | [],M=>aa (.nx M)
 |d::ds,M=>(g d M).bind λρ1=>(F ρ1).bind λo=>match o with
  |.nx a=>iJ g F ds a
  |.ct a=>iJ g F ds a
  |.bk a=>aa (.nx a)
  |.rt d=>aa (.rt d)
  |.rtO d=>aa (.rtO d)
  |.rtS d a=>aa (.rtS d a)
  |.rtT o=>aa (.rtT o)
def bS(fi:MF2)(g:D->LS->Option LS)(F:MF3)(M:LS):Option Fl:=(fi M).bind λds=>iJ g F ds M
abbrev dk(t:MF4)(F:MF3):Nat->MF3
 | 0,_=>ab
 |n+1,M=>(t M).bind λb=>if b then (F M).bind λo=>match o with
   |.nx a=>dk t F n a
   |.ct a=>dk t F n a
   |.bk a=>aa (.nx a)
   |.rt d=>aa (.rt d)
   |.rtO d=>aa (.rtO d)
   |.rtS d a=>aa (.rtS d a)
   |.rtT o=>aa (.rtT o)
  else aa (.nx M)
def yR(i:Nat)(M:LS):LS:=match M[i]? with
 |some (.own E)=>M.set i (.im (.lst E))
 |some (.ownd ks E)=>M.set i (.im (.dic ks E))
 |some (.obj c ns E)=>M.set i (.im (.ins c ns E))
 | _=>M
def fG(i:Nat)(F:MF3)(M:LS):Option Fl:=F (yR i M)
def dq(i:Nat)(f:MF1)(M:LS):Option Fl:=(f M).bind λd=>match M[i]? with
 |some (.own E)=>if Z E<16777216 then aa (.nx (M.set i (.own (E++[d])))) else ab
 | _=>ab
def kE(f:MF1)(M:LS):OLD:=(f M).bind λd=>match d with
 |.lst E=>aa E
 | _=>ab
def kG(i:Nat)(f:MF2)(M:LS):Option Fl:=(f M).bind λds=>match M[i]? with
 |some (.own E)=>if Z E+Z ds<=16777216 then aa (.nx (M.set i (.own (E++ds)))) else ab
 | _=>ab
def OZ:DSs c X [] bB:=PSs.imp ET λX4 C H b=>by
 have(Hf0,H0,Hf,M,o,d,a,k):=b;show(by cases a;show k C Hf H (aq.refl _) d)
def uQ.up{X4:jg}{o:Fl}(h:uQ G Hf0 H0 Hf X4 o)(s:aq Hf Hf'):uQ G Hf0 H0 Hf' X4 o:=by
 cases o with
 |nx M=>show λσ' bm H2 s2 q=>h σ' bm H2 (s.trans s2) q
 |bk M=>show λσ' bm H2 s2 q=>h σ' bm H2 (s.trans s2) q
 |ct M=>show λσ' bm H2 s2 q=>h σ' bm H2 (s.trans s2) q
 |rt d=>show h
 |rtO d=>show h
 |rtS d M=>show h
 |rtT o=>show h
variable{st:Stmt}{sts:List Stmt}{F':MF3}
def aC{F:MF3}(f:DS c X st F)(h2:DSs c X sts F'):DSs c X (st::sts) (ai F F'):=PSs.imp (ud f h2) λX4 C H g=>by
 have(Hf0,H0,Hf,M,o,h,a,k):=g;unfold ai at a
 cases b:F M with
 |none=>rw[b]at a;nomatch a
 |some o1=>
  rw[b]at a;show(Hf0,H0,Hf,M,o1,h,b,?_)
  cases o1 with
  |nx ρ1=>show λi b3 H1 s1 e=>(Hf0,H0,b3,ρ1,o,e,a,k.up s1)
  |bk ρ1=>cases a;show k
  |ct ρ1=>cases a;show k
  |rt d=>cases a;show k
  |rtO d=>cases a;show k
  |rtS d ρ1=>cases a;show k
  |rtT o'=>cases a;show k
def bq{F:MF3}(a:DS c X st F):DSs c X [st] F:=EU a
variable{a b:List Stmt}{t:MF4}
def fH{F:MF3}(j:DT c X cd t)(ha:DSs c X a F)(i:DSs c X b F'):DS c X (.If cd a b pos) (aZ t F F'):=PS.imp (LU j ha i) λX4 C H l=>by
 have(Hf0,H0,Hf,M,o,h,d,k):=l;unfold aZ at d
 cases g:t M with
 |none=>rw[g]at d;nomatch d
 |some x=>
  rw[g]at d;show(Hf0,H0,Hf,M,x,h,g,λb3 H1 e=>?_)
  cases x with
  |true=>rw[if_pos rfl];show(Hf0,H0,b3,M,o,h.step e,d,k.up e.f)
  |false=>rw[if_neg bM];show(Hf0,H0,b3,M,o,h.step e,d,k.up e.f)
def Gu{f:MF1}(g:PS X st (jh te (ib i)))(hi:∀C H Q,tD (Gx c X) f C H Q->te C H Q):DS c X st (a8 i f):=PS.imp g λX4 C H h=>by
 have(Hf0,H0,Hf,M,o,e,a,k):=h;unfold a8 at a
 cases b:f M with
 |none=>rw[b]at a;nomatch a
 |some d=>
  rw[b]at a;cases a;show hi _ _ _ (Hf0,H0,Hf,M,d,e,b,λv Hf' H' x r=>k _ Hf' H' x.f ((e.step x).setIm r))
def Gv(j:PS X st (jh te (ib i)))(hi:∀C H Q,tDO (Gx c X) f C H Q->te C H Q):DS c X st (cZ i f):=PS.imp j λX4 C H m=>by
 have(Hf0,H0,Hf,M,o,e,a,k):=m;unfold cZ at a
 cases b:f M with
 |none=>rw[b]at a;nomatch a
 |some d=>
  rw[b]at a;cases a;show hi _ _ _ (Hf0,H0,Hf,M,d,e,b,λl vs Hf' H' x hn g h r=>k _ Hf' H' x.f (e.setOwn rfl x hn g (vs,h,r)))
def rE(i:Nat){f:MF1}(a:X.N.Nodup)(b:DE c X e f)(hi:autoParam (X.N[i]?=aa x) Zb)(j:autoParam (Loc X.env.scope x) Zf)(g:autoParam (f9 e (aa (.Name x b4)) pos.line X.env=pure af) Zb)(d:autoParam (LcF X x) Zg):
  DS c X (.Assign [.Name x b4] e pos) (a8 i f):=Gu (oS a hi j b g d) λ_ _ _ h=>h
def yS(i:Nat)(a:X.N.Nodup)(b:DO c X e f)(hi:autoParam (X.N[i]?=aa x) Zb)(j:autoParam (Loc X.env.scope x) Zf)(g:autoParam (f9 e (aa (.Name x b4)) pos.line X.env=pure af) Zb)(d:autoParam (LcF X x) Zg):
  DS c X (.Assign [.Name x b4] e pos) (cZ i f):=Gv (oS a hi j b g d) λ_ _ _ h=>h
def O0(h:tD G (aP f) C H Q):tDO G f C H Q:=by
 have(Hf0,H0,Hf,M,d,st,a,k):=h;unfold aP at a
 cases b:f M with
 |none=>rw[b]at a;nomatch a
 |some ds=>
  rw[b]at a;have a:=dz a;subst a;show(Hf0,H0,Hf,M,ds,st,b,λl vs Hf' H' x hn c e r=>k _ _ H' (x.fix hn c e) (l,vs,rfl,bd,r.up (bR c)))
def O1(i:Nat)(k:Nat)(js:LN)(Nc:LSt)(f:X.N.Nodup)(j:X.calm=ac)(hi:DIe c X tg iter fi)
 (a:∀cl X5 ex cc cs,DG c (X.comp scope Nc cl X5 ex cc cs) tg k g)(q:∀cl X5 ex cc cs,DTs c (X.comp scope Nc cl X5 ex cc cs) c3 ft)(l:∀cl X5 ex cc cs,DE c (X.comp scope Nc cl X5 ex cc cs) c5 fe)
 (b:autoParam (X.N[i]?=aa x) Zb)(r:autoParam (Loc X.env.scope x) Zf)
 (d:autoParam (f9 (.ListComp c5 [(tg,iter,c3,0)] scope pos) (aa (.Name x b4)) eH.line X.env=pure ac) Zb)
 (e:autoParam (lK scope X.env.scope.names X.N Nc k js=ac) Zb)(p:autoParam (∀x,lx iter X.env x=pure x) Zd)(n:autoParam (js.Nodup) Zc)
 (m:autoParam (LcF X x) Zg):
  DS c X (.Assign [.Name x b4] (.ListComp c5 [(tg,iter,c3,0)] scope pos) eH) (cZ i (bj k js fi g ft fe)):=
 Gv (yw (tt:=tDT (Gx c X) ft) (te:=tD (Gx c X) fe) k js Nc f b r j hi (λcl X5 ex cc cs=>(a cl X5 ex cc cs).pg) q l d e p m) λC H Q h=>yP n (a [] 0 [] X.s₀ X.H₀).keep (a [] 0 [] X.s₀ X.H₀).len h
def py(i:Nat)(k:Nat)(js:LN)(Nc:LSt)(f:X.N.Nodup)(j:X.calm=ac)(hi:DIe c X tg iter fi)
 (a:∀cl X5 ex cc cs,DG c (X.comp scope Nc cl X5 ex cc cs) tg k g)(q:∀cl X5 ex cc cs,DTs c (X.comp scope Nc cl X5 ex cc cs) c3 ft)(l:∀cl X5 ex cc cs,DE c (X.comp scope Nc cl X5 ex cc cs) c5 fe)
 (b:autoParam (X.N[i]?=aa x) Zb)(r:autoParam (Loc X.env.scope x) Zf)
 (d:autoParam (f9 (.ListComp c5 [(tg,iter,c3,0)] scope pos) (aa (.Name x b4)) eH.line X.env=pure ac) Zb)
 (e:autoParam (lK scope X.env.scope.names X.N Nc k js=ac) Zb)(p:autoParam (∀x,lx iter X.env x=pure x) Zd)(n:autoParam (js.Nodup) Zc)
 (m:autoParam (LcF X x) Zg):
  DS c X (.Assign [.Name x b4] (.ListComp c5 [(tg,iter,c3,0)] scope pos) eH) (a8 i (aP (bj k js fi g ft fe))):=
 Gu (yw (tt:=tDT (Gx c X) ft) (te:=tD (Gx c X) fe) k js Nc f b r j hi (λcl X5 ex cc cs=>(a cl X5 ex cc cs).pg) q l d e p m) λC H Q h=>yP n (a [] 0 [] X.s₀ X.H₀).keep (a [] 0 [] X.s₀ X.H₀).len (O0 h)
def kH{f:MF1}(h:DE c X e f):DS c X (.Return (aa e) pos) (aW f):=PS.imp (ue h) λX4 C H i=>by
 have(Hf0,H0,Hf,M,o,g,a,k):=i;unfold aW at a
 cases b:f M with
 |none=>rw[b]at a;nomatch a
 |some d=>
  rw[b]at a;cases a;show(Hf0,H0,Hf,M,d,g,b,λv Hf' H' x r=>k v Hf' H' (g.ext.trans x) r)
def eE(f:MF1)(M:LS):Option Fl:=(f M).map λd=>.rtS d M
def Gw{f:MF1}(h:DE c X e f):DS c X (.Return (aa e) pos) (eE f):=PS.imp (ue h) λX4 C H i=>by
 have(Hf0,H0,Hf,M,o,g,a,k):=i;unfold eE at a
 cases b:f M with
 |none=>rw[b]at a;nomatch a
 |some d=>
  rw[b]at a;cases a;show(Hf0,H0,Hf,M,d,g,b,λv Hf' H' x r=>k v C Hf' H' (g.step x) r)
def jq(i:DO c X e f):DS c X (.Return (aa e) pos) (cr f):=PS.imp (ue i) λX4 C H n=>by
 have(Hf0,H0,Hf,M,o,g,a,k):=n;unfold cr at a
 cases b:f M with
 |none=>rw[b]at a;nomatch a
 |some d=>
  rw[b]at a;cases a;show(Hf0,H0,Hf,M,d,g,b,λl vs Hf' H' x hn j m r=>k l vs Hf' H' (g.ext.trans x) (g.ext.h.free hn) j m r)
def O2(h:PE X e (cX i)):DS c X (.Return (aa e) pos) (eD i):=PS.imp (ue h) λX4 C H m=>by
 have(Hf0,H0,Hf,M,o,b,a,k):=m;unfold eD at a
 cases es:M[i]? with
 |none=>rw[es]at a;nomatch a
 |some s=>
  rw[es]at a
  cases s with
  |im d=>
   cases a;have(v,f,r):=b.imm es
   show(_,f,k v Hf H b.ext r)
  |own E=>
   cases a;have(l,f,g,j,vs,q,r):=b.ownAt rfl es
   show(_,f,k l vs Hf H b.ext g j q r)
  | _=>nomatch a
def O3(i:Nat)(b:autoParam (X.N[i]?=aa x) Zb)(hv:autoParam (Vis X.env.scope x) Ze)(hd:autoParam (NDb x) Zc)
 (a:autoParam (NCd x) Zc):DS c X (.Return (aa (.Name x p)) pos) (eD i):=O2 (mR b hv hd a)
def eY{F:MF3}(hp:PassesOwn (model X.prog X.w) X.A X.env X.xe)(hc:X.calm=ac)(hi:DI c X tg iter fi)(hg:DG c X tg kk g)(hb:DSs c X a F)(hs:autoParam (∀x,lx iter X.env x=pure x) Zd):
  DS c X (.For tg iter a [] pos) (bS fi g F):=PS.imp (EX hp hc hi hg.pg hb hs) λX4 C H q_=>by
 have(Hf0,H0,Hf,M,o,T,p,k):=q_;unfold bS at p
 cases v:fi M with
 |none=>rw[v]at p;nomatch p
 |some ds=>
  rw[v]at p;show(Hf0,H0,Hf,M,ds,T,v,λJ b3 H1 Q it=>?_);show(λi m σ' H'=>m=Z ds-i/\i<=Z ds/\∃Hf' ρ',au _ Hf0 H0 Hf' H' σ' ρ'/\aq b3 Hf'/\iJ g F (ds.drop i) ρ'=aa o,(Z ds,rfl,cj _,b3,M,T.step Q,aq.refl _,p),?_);rintro i m σ' H' ⟨rfl,hi',Hf',ρ',l,s1,em⟩;have(G,I):=it Hf' H' s1 l.sub i
  by_cases j:i<Z ds
  .have(d,Y,B):=yO j;have(go,yl):=G d Y;rw[B]at em;dsimp only[iJ]at em;show .inr (go,λr H2=>Z ds-_=Z ds-_/\i+1<=Z ds/\∃Hf' ρ',au _ Hf0 H0 Hf' H2 r ρ'/\aq b3 Hf'/\iJ g F _ ρ'=aa o,λr H2 w=>(Z ds-(i+1),by lia,w),λx H2 y=>?_);have(bm,U,rx):=yl x H2 y
   cases E:g d ρ' with
   |none=>rw[E]at em;nomatch em
   |some ρ1=>
    rw[E]at em;replace em:(F ρ1).bind _=_:=em
    cases z:F ρ1 with
    |none=>rw[z]at em;nomatch em
    |some o1=>
     rw[z]at em;show(Hf0,H0,bm,ρ',d,ρ1,l.step U,rx,E,λσ3 N=>(Hf0,H0,bm,ρ1,o1,N,z,?_));have L:=s1.trans U.f
     cases o1 with
     |nx h=>show λn b u q e=>(rfl,j,b,h,e,L.trans q,em)
     |ct h=>show λn b u q e=>(rfl,j,b,h,e,L.trans q,em)
     |bk h=>cases em;show λn b u q e=>k n b u ((Q.f.trans L).trans q) e
     |rt d=>cases em;show k
     |rtO d=>cases em;show k
     |rtS d h=>cases em;show k
     |rtT o'=>cases em;show k
  .have ei:i=Z ds:=by lia
   subst ei;rw[drop_eq_nil_of_le (aM _)]at em;cases em;show .inl (I rfl,k σ' Hf' H' (Q.f.trans s1) l)
def ni{F:MF3}(n:Nat)(G:PassesOwn (model X.prog X.w) X.A X.env X.xe)(E:DT c X cd t)(B:DSs c X a F):DS c X (.While cd a [] pos) (dk t F n):=PS.imp (L9 G E B) λX4 C H I=>by
 have(Hf0,H0,Hf,M,o,J,z,k):=I;show(λm σ' H'=>∃Hf' ρ',au _ Hf0 H0 Hf' H' σ' ρ'/\aq Hf Hf'/\dk t F m ρ'=aa o,(n,Hf,M,J,aq.refl _,z),?_);rintro m σ' H' ⟨Hf',ρ',i,s1,em⟩
 cases m with
 |zero=>nomatch em
 |succ m=>
  dsimp only[dk]at em
  cases v:t ρ' with
  |none=>rw[v]at em;nomatch em
  |some b=>
   rw[v]at em;show(Hf0,H0,Hf',ρ',b,i,v,λbm H2 q=>?_)
   cases b with
   |false=>
    cases em
    show k σ' bm H2 (s1.trans q.f) (i.step q)
   |true=>
    cases u:F ρ' with
    |none=>rw[u]at em;nomatch em
    |some o1=>
     rw[u]at em;show(λp y=>∃Hf' ρ',au _ Hf0 H0 Hf' y p ρ'/\aq Hf Hf'/\dk t F m ρ'=aa o,λp y w=>(m,c8 _,w),Hf0,H0,bm,ρ',o1,i.step q,u,?_);have x:=s1.trans q.f
     cases o1 with
     |nx h=>show λj e r l g=>(e,h,g,x.trans l,em)
     |ct h=>show λj e r l g=>(e,h,g,x.trans l,em)
     |bk h=>cases em;show λj e r l g=>k j e r (x.trans l) g
     |rt d=>cases em;show k
     |rtO d=>cases em;show k
     |rtS d h=>cases em;show k
     |rtT o'=>cases em;show k
def O4{F:MF3}{X4:jg}(h:tDS G (fG i F) X4 C H):tDS G F X4 C H:=by
 have(Hf0,H0,Hf,M,o,b,c,k):=h;unfold fG yR at c;split at c
 .rename_i E es;have(l,e,f,a,vs,q,r):=b.ownAt rfl es;show(Hf0,H0,_,_,o,b.fixd (d:=.lst E) rfl es e q (l,vs,rfl,bd,r.up (bR a)),c,k.up (bR a))
 .rename_i ks E es;have(l,e,f,a,vs,q,z,r):=b.ownAt rfl es;show(Hf0,H0,_,_,o,b.fixd (d:=.dic ks E) rfl es e q (l,vs,rfl,bd,z,r.up (bR a)),c,k.up (bR a))
 .rename_i g ns E es;have(l,e,f,a,dx,vs,q,z,r):=b.ownAt rfl es;show(Hf0,H0,_,_,o,b.fixd (d:=.ins g ns E) rfl es e q (l,dx,vs,rfl,bd,z,r.up (bR a)),c,k.up (bR a))
 .show(Hf0,H0,Hf,M,o,b,c,k)
def lM{F:MF3}(i:Nat)(h:DS c X st F):DS c X st (fG i F):=PS.imp h λ_ _ _=>O4
def O5{f:MF1}(h:PS X st (mS (tBM X.K "list" ur (cX i) (ji (tD (Gx c X) f) ig)))):DS c X st (dq i f):=PS.imp h λX4 C H m=>by
 have(Hf0,H0,Hf,M,o,e,a,k):=m;unfold dq at a
 cases b:f M with
 |none=>rw[b]at a;nomatch a
 |some d=>
  rw[b]at a;split at a
  .rename_i E es;split at a
   .rename_i j;cases a;have(l,g,p,u,vs,q,r):=e.ownAt rfl es;show(_,g,.inl (rfl,_,SqL.of q),Hf0,H0,Hf,M,d,e,b,λv Hf' H' x n=>?_);show(l,vs,v,rfl,rfl,(x.h _ _ q),by rw[dE,<- r.length];show j,k C Hf' _ x.f ((e.step x).mutd rfl rfl es g (vs++[v],bd,(r.up x.f).append (.cons n .nil))))
   .nomatch a
  .nomatch a
def Gy{f:MF1}(h:PS X st (mS (tBM X.K "list" yi (cX i) (ji (tD (Gx c X) f) ig)))):DS c X st (kG i (kE f)):=PS.imp h λX4 C H u=>by
 have(Hf0,H0,Hf,M,o,g,b,k):=u;unfold kG kE at b
 cases e:f M with
 |none=>rw[e]at b;nomatch b
 |some d=>
  rw[e]at b
  cases d with
  |lst ds=>
   replace b:(match M[i]? with |some (.own E)=>if Z E+Z ds<=16777216 then aa _ else ab | _=>ab)=aa o:=b
   split at b
   .rename_i E es;split at b
    .rename_i p;cases b;have(l,j,z,A,vs,q,r):=g.ownAt rfl es;show(_,j,.inl (rfl,_,SqL.of q),Hf0,H0,Hf,M,.lst ds,g,e,λv Hf' H' x y=>?_);have(a,us,n,w,m):=y;subst n;show(l,a,vs,us,rfl,rfl,(x.h _ _ q),x.s _ _ w,by rw[dE,<- r.length,<- m.length];show p,k C Hf' _ x.f ((g.step x).mutd rfl rfl es j (vs++us,bd,(r.up x.f).append m)))
    .grind
   .grind
  | _=>nomatch b
abbrev Gz:Fl->OD
 |.rt d=>aa d
 |.rtO ds=>aa (.lst ds)
 |.rtS d _=>aa d
 |.nx _=>aa .non
 | _=>ab
def eZ(n:Nat)(ds:LD):LS:=ds.map .im++g6 (n-Z ds) .no
def aK(n:Nat)(F:MF3)(ds:LD):OD:=(F (eZ n ds)).bind Gz
def jt(n:Nat)(F:MF3)(ds:LD):OLD:=(F (eZ n ds)).bind λo=>match o with
 |.rtO ds=>aa ds
 | _=>ab
def spD(G:Gc)(n:Nat)(m:LD->OD):Sp:=λvs H Q _=>∃Hf ds d,aq Hf H/\am G Hf ds vs/\Z ds=n/\m ds=aa d/\∀v Hf' H',Ext Hf H Hf' H'->Rep G Hf' d v->Q v H'
def spO(G:Gc)(n:Nat)(m:LD->OLD):Sp:=λvs H Q _=>∃Hf ds B,aq Hf H/\am G Hf ds vs/\Z ds=n/\m ds=aa B /\
 ∀l us Hf' H',Ext Hf H Hf' H'->H l=ab->Hf' l=ab->H' l=aa (.lst us)->am G Hf' B us->Q (.ref l) H'
def au.start(h:aq Hf H)(r:am G Hf ds vs):au G Hf H Hf H (start N vs) (eZ N.length ds):=by
 have im:∀i (s:Sl),(eZ N.length ds)[i]?=aa s->s=.no\/∃d,ds[i]?=aa d/\s=.im d:=λi s b=>by
  unfold eZ at b
  by_cases hi:i<Z ds
  .rw[mh (by simpa using hi)]at b;have(d,f,es):=nh b;show .inr (d,f,es)
  .rw[oj (by simpa using oB hi)]at b;have(_,e):=c7.mp b;rw[List.getElem_replicate]at e;show .inl e.symm
 show(Ext.refl h,by simp[L2.start,eZ,r.length],λi v s a b=>?_,λi j s t v w l a b c d p q=>?_)
 .rcases im i s b with e |⟨d,f,es⟩
  .subst e;trivial
  .subst es;have(u,g,ru):=r.get f;show(u,?_,ru);unfold L2.start at a;rw[mh (by simpa using ((c7.mp g).1)),cu,g]at a;show(dz a).symm
 .rcases im i s a with e |⟨d,f,es⟩
  .subst e;show(p.calm rfl).elim
  .subst es;show(p.calm rfl).elim
variable{P:ce}{mg:MGT}{base:Heap}{n_:Nat}{qual:Str}{f:Addr}{fd:cW}{ps:LSt}
def aY{k:Nat}{F:MF3}(q:Fun K x qual st f fd)(S:aB N ps (av st))
 (h:∀(cdv:Value) (A:ca) (outer:List Env) (s:ah) (H:Hp) (X4:XK),bA k (A.deeper (f8 qual (av st) s.heap.objs.size f cdv))->DSs c (iF CX0 P w K mg base N qual (av st) f cdv A outer s H X4).nox (fQ st) F)(i:autoParam (Z N=n_) Zb):
  cx P w K mg base CX0 (k+1) f fd ps (spD (K,c) ps.length (aK n_ F)):=by
 subst i;show q.ok S (λvs H Q X4 j=>by have(Hf,ds,d,p,r,a,_):=j;rw[<- r.length];show a) λcdv A outer s H vs Q X4 hr j=>?_;have(Hf,ds,d,p,r,a,e,b):=j;show(_,h cdv A outer s H X4 hr,?_);unfold aK at e
 cases g:F _ with
 |none=>rw[g]at e;nomatch e
 |some o=>
  rw[g]at e;show(Hf,H,Hf,_,o,au.start p r,g,?_)
  cases o with
  |nx M=>cases e;show λσ' Hf' H' _ m=>b _ Hf' H' m.ext rfl
  |bk M=>nomatch e
  |ct M=>nomatch e
  |rt d=>cases e;show b
  |rtO B=>cases e;show λl vs Hf' H' x hn n a r=>b _ _ H' (x.fix hn n a) (l,vs,rfl,bd,r.up (bR n))
  |rtS d M=>cases e;show λv σ' Hf' H' m r=>b v Hf' H' m.ext r
  |rtT o=>nomatch e
def nj{k:Nat}{F:MF3}(l:Fun K x qual st f fd)(S:aB N ps (av st))
 (h:∀(cdv:Value) (A:ca) (outer:List Env) (s:ah) (H:Hp) (X4:XK),bA k (A.deeper (f8 qual (av st) s.heap.objs.size f cdv))->DSs c (iF CX0 P w K mg base N qual (av st) f cdv A outer s H X4).nox (fQ st) F)(b:autoParam (Z N=n_) Zb):
  cx P w K mg base CX0 (k+1) f fd ps (spO (K,c) ps.length (jt n_ F)):=by
 subst b;show l.ok S (λvs H Q X4 g=>by have(Hf,ds,d,j,r,i,_):=g;rw[<- r.length];show i) λcdv A outer s H vs Q X4 hr g=>?_;have(Hf,ds,B,j,r,i,e,m):=g;show(_,h cdv A outer s H X4 hr,?_);unfold jt at e
 cases a:F _ with
 |none=>rw[a]at e;nomatch e
 |some o=>
  rw[a]at e;show(Hf,H,Hf,_,o,au.start j r,a,?_)
  cases o with
  |rtO n=>cases e;show m
  | _=>nomatch e
variable{fa:MF2}{k0:Nat}
def O6{k:Nat}(pk:Pk X.prog X.w X.K X.mg X.base CX0 k x (f,fd,) ps (spD (Gx c X) ps.length m))(j:bA k0 X.A)(ha:DA c X (e::es) fa)(z:autoParam (Z (e::es)=Z ps) Zb)(a:autoParam (NDb x) Zc)(u:autoParam (StE X e es) Zb)(i:autoParam (BkE X pos es) Zb)(h:autoParam (k<=k0) Zc)(y:autoParam (Gl X x) Zi):
  DE c X (.Call (.Name x p) (e::es) [] pos) (aw m fa):=PE.imp (oT pk.ok (j.mono h) y pk.g pk.kp pk.b .nil gf ha.pa a u i) λC H Q E=>by
 have(Hf0,H0,Hf,M,d,st,q,B):=E;have(ds,l,n):=yH q;show(Hf0,H0,Hf,M,ds,st,l,λvs Hf' H' x r=>?_);rw[bO];show(Hf',ds,d,x.s,r,(ha.len M ds l).trans z,n,λv bm H2 I G=>B v bm H2 (x.trans I) G)
def kK(m:LD->OLD)(f:MF2)(M:LS):OLD:=(f M).bind m
def O7{k:Nat}{m:LD->OLD}(pk:Pk X.prog X.w X.K X.mg X.base CX0 k x (f,fd,) ps (spO (Gx c X) ps.length m))(u:bA k0 X.A)(ha:DA c X (e::es) fa)(E:autoParam (Z (e::es)=Z ps) Zb)(i:autoParam (NDb x) Zc)(v:autoParam (StE X e es) Zb)(q:autoParam (BkE X pos es) Zb)(j:autoParam (k<=k0) Zc)(z:autoParam (Gl X x) Zi):
  DO c X (.Call (.Name x p) (e::es) [] pos) (kK m fa):=PE.imp (oT pk.ok (u.mono j) z pk.g pk.kp pk.b .nil gf ha.pa i v q) λC H Q I=>by
 have(Hf0,H0,Hf,M,B,st,a,G):=I;unfold kK at a
 cases d:fa M with
 |none=>rw[d]at a;nomatch a
 |some ds=>
  rw[d]at a;show(Hf0,H0,Hf,M,ds,st,d,λvs Hf' H' x r=>?_);rw[bO];show(Hf',ds,B,x.s,r,(ha.len M ds d).trans E,a,λl us bm H2 L hn y n J=>G l us bm H2 (x.trans L) (x.h.free hn) y n J)
def nr(m:LD->OD)(f:MF2)(M:LS):OD:=(f M).bind λds=>(m ds).bind λd=>if d.scalar then aa d else ab
def O8{k:Nat}(pk:Pk X.prog X.w X.K X.mg X.base CX0 k x (f,fd,) ps (spD (Gx c X) ps.length m))(u:bA k0 X.A)(ha:DAB c X (e::es) fa)(B:autoParam (Z (e::es)=Z ps) Zb)(l:autoParam (NDb x) Zc)(y:autoParam (StE X e es) Zb)(q:autoParam (BkE X pos es) Zb)(n:autoParam (k<=k0) Zc)(z:autoParam (Gl X x) Zi):
  DE c X (.Call (.Name x p) (e::es) [] pos) (nr m fa):=PE.imp (oT pk.ok (u.mono n) z pk.g pk.kp pk.b .nil gf ha.pa l y q) λC H Q I=>by
 have(Hf0,H0,Hf,M,d,st,a,G):=I;unfold nr at a
 cases i:fa M with
 |none=>rw[i]at a;nomatch a
 |some ds=>
  rw[i]at a;replace a:(m ds).bind _=_:=a
  cases j:m ds with
  |none=>rw[j]at a;nomatch a
  |some d'=>
   rw[j]at a;replace a:(if d'.scalar=ac then aa d' else ab)=aa d:=a;split at a
   .rename_i E;cases a;show(Hf0,H0,Hf,M,ds,st,i,λvs Hf' H' x r=>?_);rw[bO];show(H',ds,_,aq.refl _,r,(ha.len M ds i).trans B,j,λv bm H2 L J=>G v Hf' H2 (x.trans (Ext.grow x.s L.h)) (J.sc E))
   .nomatch a
def GA{G:Gc}{H:Hp}{f:Str}{d:D}:∀{ns:LSt} {ds:LD} {vs:LVv},(ns.zip ds).lookup f=aa d->am G H ds vs->∃v,(ns.zip vs).lookup f=aa v/\Rep G H d v
 | [],_,_,e,_=>by simp at e
 |n::ns,[],_,e,_=>by simp at e
 |n::ns,x::ds,_,e,q4_=>by
  have(v,r,b,c,h2):=q4_;subst b;simp only[fw,mq]at e;simp only[fw,mq]
  cases a:f==n with
  |true=>rw[a]at e;cases e;show(v,rfl,c)
  |false=>rw[a]at e;show GA e h2
def pA{f:Str}:∀{ns:LSt} {vs:LVv},ns.contains f=af->(ns.zip vs).lookup f=ab
 | [],_,_=>by simp
 |n::ns,[],_=>by rfl
 |n::ns,v::vs,h=>by
  rw[contains_cons,Bool.or_eq_false_iff]at h;simp only[fw,mq,h.1];show pA h.2
abbrev O9(cn f:Str):D->OD
 |.ins a ns ds=>if a=cn then (ns.zip ds).lookup f else ab
 | _=>ab
def bf(cn f:Str)(m:MF1)(M:LS):OD:=(m M).bind (O9 cn f)
def aN(cn f:Str)(m:LD->OD)(fo:MF1)(fa:MF2)(M:LS):OD:=(fo M).bind λd=>match d with
 |.ins a ns ds=>if a=cn/\ns.contains f=af then (fa M).bind λas=>m (.ins a ns ds::as) else ab
 | _=>ab
variable{fl:Str}{fo:MF1}
def Pa{o:Expr}(cn:Str)(l:Cls X.K (c cn))(hn:cN X.K (c cn) fl)(m:DE c X o fo)(j:autoParam (oI o fl X.env (eval o X.env)=eval o X.env) Zb):DE c X (.Attribute o fl pos) (bf cn fl fo):=
 PE.imp (Fc m j) λC H Q n=>by
  have(Hf0,H0,Hf,M,d,st,b,k):=n;unfold bf at b
  cases e:fo M with
  |none=>rw[e]at b;nomatch b
  |some y=>
   rw[e]at b
   cases y with
   |ins g ns ds=>
    replace b:(if g=cn then (ns.zip ds).lookup fl else ab)=aa d:=b;split at b
    .rename_i f;subst f;show(Hf0,H0,Hf,M,_,st,e,λv Hf' H' x r=>?_);have(a,dx,vs,i,q,p,B):=r;have(u,h,ru):=GA b B;show(a,c g,dx,ns.zip vs,u,i,x.s _ _ q,l,hn,h,k u Hf' H' x ru)
    .grind
   | _=>nomatch b
variable{apos:Pos}{pl:Sem Bool}
def Pb{k:Nat}{o:Expr}(cn:Str)(Y:DE c X o fo)(pk:Pm X.prog X.w X.K X.mg X.base CX0 k (c cn) fl (f,fd,) ps (spD (Gx c X) ps.length m))(E:bA k0 X.A)(ha:DA c X (e::es) fa)(U:autoParam (Z (e::es)+1=Z ps) Zb)(G:autoParam (StE X e es) Zb)(z:autoParam (BkE X pos es) Zb)(ht:autoParam (eval (.Call (.Attribute o fl apos) (e::es) [] pos) X.env=(do
   let ov <- eval o X.env
   gC apos.atName
   let (f,first,) <- eS [ov] (hJ ov fl pl)
   jN pos f first (cf pos (aO (e::es) X.env)) (iA pos (iz [] X.env)))) Zb)(n:autoParam (k<=k0) Zc):
  DE c X (.Call (.Attribute o fl apos) (e::es) [] pos) (aN cn fl m fo fa):=PE.imp (yb Y pk.c pk.m pk.ok (E.mono n) pk.b .nil gf ha.pa G z ht) λC H Q q_=>by
 have(Hf0,H0,Hf,M,d,st,g,kq):=q_;unfold aN at g
 cases j:fo M with
 |none=>rw[j]at g;nomatch g
 |some y=>
  rw[j]at g
  cases y with
  |ins J ns ds=>
   replace g:(if J=cn/\ns.contains fl=af then (fa M).bind λas=>m _ else ab)=aa d:=g;split at g
   .rename_i l;have(rfl,p):=l
    cases h:fa M with
    |none=>rw[h]at g;nomatch g
    |some as=>
     rw[h]at g;show(Hf0,H0,Hf,M,_,st,j,λv Hf' H' x r=>?_);have(a,dx,vs,T,q,L,B):=id r;show(a,dx,ns.zip vs,T,x.s _ _ q,pA p,Hf0,H0,Hf',M,as,st.step x,h,λws bm H2 I r2=>?_);rw[bO];show(bm,.ins J ns ds::as,d,I.s,.cons (r.up I.f) r2,by rw[cv,ha.len M as h];show U,g,λu i N x3 r3=>kq u i N ((x.trans I).trans x3) r3)
   .nomatch g
  | _=>nomatch g
def Pc{k:Nat}{o:Expr}(cn:Str)(J:DE c X o fo)(pk:Pm X.prog X.w X.K X.mg X.base CX0 k (c cn) fl (f,fd,) ps (spD (Gx c X) ps.length m))(n:bA k0 X.A)(I:autoParam (1=Z ps) Zb)(L:autoParam (eval (.Call (.Attribute o fl apos) [] [] pos) X.env=(do
   let ov <- eval o X.env
   gC apos.atName
   let (f,first,) <- eS [ov] (hJ ov fl pl)
   jN pos f first (cf pos (aO [] X.env)) (iA pos (iz [] X.env)))) Zb)(j:autoParam (k<=k0) Zc):
  DE c X (.Call (.Attribute o fl apos) [] [] pos) (aN cn fl m fo λ_=>aa []):=PE.imp (yc J pk.c pk.m pk.ok (n.mono j) pk.b .nil gf L) λC H Q T=>by
 have(Hf0,H0,Hf,M,d,st,e,N):=T;dsimp only[aN]at e
 cases h:fo M with
 |none=>rw[h]at e;nomatch e
 |some y=>
  simp only[h]at e
  cases y with
  |ins E ns ds=>
   replace e:(if E=cn/\ns.contains fl=af then (aa []).bind λas=>m _ else ab)=aa d:=e;split at e
   .rename_i i;have(rfl,l):=i;show(Hf0,H0,Hf,M,_,st,h,λv Hf' H' x r=>?_);have(a,dx,vs,G,q,p,B):=id r;show(a,dx,ns.zip vs,G,x.s _ _ q,pA l,(Hf',_,d,x.s,.cons r .nil,I,e,λu g z Y U=>N u g z (x.trans Y) U))
   .nomatch e
  | _=>nomatch e
abbrev uR:List (Str×(MF1))->LS->LSt->LD->Option (LSt×LD)
 | [],_,ns,ds=>aa (ns,ds,)
 |(f,m,)::r,M,ns,ds=>(m M).bind λd=>if ns.contains f then ab else uR r M (ns++[f]) (ds++[d])
def Pd(G:Gc)(cn:Str)(fs:List (Str×(MF1))):TS:=λX4 C H=>∃x dx Hf0 H0 Hf M ns us ds r,C[0]?=aa (aa (.ref x))/\(∀s∈M,Sl.calm s=ac)/\au G Hf0 H0 Hf H C M/\H0 x=ab/\Hf x=ab /\
 H x=aa (.ins (G.cl cn) dx (ns.zip us))/\Z ns=Z us/\Z ns+Z fs<=900/\am G Hf ds us/\uR fs M ns ds=aa r /\
 ∀a Hf' H',Ext Hf0 H0 Hf' H'->Hf' x=ab->H' x=aa (.ins (G.cl cn) dx (r.1.zip a))->Z r.1=Z a->am G Hf' r.2 a->X4.nx C H'
def DSI(c:Str->Addr)(X:Cx)(cn:Str)(sts:List Stmt)(fs:List (Str×(MF1))):Prop:=PSs X sts (Pd (Gx c X) cn fs)
def rF{f:Str}{v:V}:∀{ns:LSt} {us:LVv},Z ns=Z us->ns.contains f=af->dh f v (ns.zip us)=(ns++[f]).zip (us++[v])
 | [],[],_,_=>rfl
 |n::ns,u::us,hl,h=>by
  rw[contains_cons,Bool.or_eq_false_iff]at h;have a:¬(n=f):=λz=>by rw[z,beq_self_eq_true]at h;cases h.1
  rw[fw];unfold dh
  first
   |(rw[if_neg a,rF (by simpa using hl) h.2];rfl)
   |(rw[if_neg _,rF (by simpa using hl) h.2];rfl)
   |(rw[if_neg (by simpa using a),rF (by simpa using hl) h.2];rfl)
   |(rw[if_neg (by simpa using λz=>a _),rF (by simpa using hl) h.2];rfl)
 | [],_::_,hl,_=>by cases hl
 | _::_,[],hl,_=>by cases hl
def uS{cn:Str}:DSI c X cn [] []:=PSs.imp ET λX4 C H q=>by
 have(x,dx,Hf0,H0,Hf,M,ns,us,ds,r,e0,no,e,f,a,d,b,hz,rd,em,k):=q;cases em;show k us Hf H e.ext a d b rd
variable{m:MF1}{fs:List (Str×(MF1))}
def pE{cn:Str}{o:Expr}(L:Cls X.K (c cn))(hn:cN X.K (c cn) fl)(T:PE X o (cX 0))(N:DE c X e m)(h:DSI c X cn sts fs)(A:autoParam (f9 e (aa (.Attribute o fl b4)) pos.line X.env=pure af) Zb):
  DSI c X cn (.Assign [.Attribute o fl b4] e pos::sts) ((fl,m,)::fs):=PSs.imp (ud (x8 T N A) h) λX4 C H q=>by
 have(x,dx,Hf0,H0,Hf,M,ns,us,ds,r,e0,no,J,E,Q,I,G,hz,rd,em,k):=q;unfold uR at em
 cases z:m M with
 |none=>rw[z]at em;nomatch em
 |some d=>
  rw[z]at em;split at em
  .grind
  .rename_i l;have l:ns.contains fl=af:=by grind
   show(Hf0,H0,Hf,M,d,J,z,λv Hf' H' y U=>(_,e0,x,c cn,dx,ns.zip us,rfl,y.h _ _ I,L,hn,?_,?_))
   .grind
   .have j:Hf' x=ab:=by rw[y.n _ _ I rfl];show Q
    have g:=J.step y
    have B:au (Gx c X) Hf0 H0 Hf' (upd H' x (.ins (c cn) dx (dh fl v (ns.zip us)))) C M:=by
     show g.re (g.ext.f,λb u e=>?_,λb u e=>?_,g.ext.n) rfl (λi w s a b=>?_) λi s w a b _ p=>(p.calm (no s (dS b))).elim
     .rw[aL (fF e E)];show g.ext.h b u e
     .rw[aL (fF e j)];show g.ext.s b u e
     .have A:=no s (dS b);have q:=g.at' i w s a b
      cases s with
      |no=>trivial
      |im d=>show q
      | _=>nomatch A
    show(x,dx,Hf0,H0,Hf',M,ns++[fl],us++[v],ds++[d],r,e0,no,B,E,j,?_,by rw[aS,aS,G];rfl,by rw[cv]at hz;rw[aS,f6];lia,(rd.up y.f).append (.cons U .nil),em,k);rw[bd,rF G l]
def del(H:Hp)(x:Addr):Hp:=λb=>if b=x then ab else H b
def GB{x:Addr}:del H x x=ab:=if_pos rfl
def GC{x b:Addr}(h:b≠x):del H x b=H b:=if_neg h
abbrev rG(n:Nat)(fs:List (Str×(MF1)))(as:LD):Option (LSt×LD):=uR fs (.no::(as.map .im++g6 (n-1-Z as) .no)) [] []
def spI(G:Gc)(cn:Str)(n:Nat)(m:LD->Option (LSt×LD)):Sp:=λvs H Q _=>∃x dx Hf as a r,vs=.ref x::a/\H x=aa (.ins (G.cl cn) dx [])/\Hf x=ab/\aq Hf H/\am G Hf as a/\Z as+1=n/\m as=aa r /\
 ∀us Hf' H',Ext Hf (del H x) Hf' H'->Hf' x=ab->H' x=aa (.ins (G.cl cn) dx (r.1.zip us))->Z r.1=Z us->am G Hf' r.2 us->Q .non H'
def uT{x qual cn:Str}{k:Nat}(G:Fun K x qual st f fd)(S:aB N ps (av st))
 (h:∀(cdv:Value) (A:ca) (outer:List Env) (s:ah) (H:Hp) (X4:XK),bA k (A.deeper (f8 qual (av st) s.heap.objs.size f cdv))->DSI c (iF CX0 P w K mg base N qual (av st) f cdv A outer s H X4).nox cn (fQ st) fs)
 (hz:autoParam (Z fs<=900) Zc)(y:autoParam (Z N=n_) Zb):cx P w K mg base CX0 (k+1) f fd ps (spI (K,c) cn ps.length (rG n_ fs)):=by
 subst y;show G.ok S (λvs H Q X4 q=>by have(x,dx,Hf,as,z,r,n,_,_,_,g,E,_):=q;subst n;rw[cv,<- g.length];show E) λcdv A outer s H vs Q X4 hr q=>(_,h cdv A outer s H X4 hr,?_);have(x,dx,Hf,as,z,r,n,U,M,s0,g,E,e,Y):=q;subst n;have la:=g.length
 have im:∀i s,(Sl.no::(as.map Sl.im++g6 (Z N-1-Z as) .no))[i]?=aa s->s=.no\/∃d j,i=j+1/\as[j]?=aa d/\s=.im d:=λi s b=>by
  cases i with
  |zero=>left;simpa using b.symm
  |succ i=>
   rw[g4]at b
   by_cases hi:i<Z as
   .rw[mh (by simpa using hi)]at b;have(d,m,es):=nh b;show .inr (d,i,rfl,m,es)
   .rw[oj (by simpa using oB hi)]at b;have(_,e):=c7.mp b;rw[List.getElem_replicate]at e;show .inl e.symm
 have no:∀s∈_,Sl.calm s=ac:=λs T=>by
  have(i,hi):=oq T
  rcases im i s hi with e |⟨d,_,_,_,e⟩ <;> (subst e;rfl)
 show(x,dx,Hf,del H x,Hf,_,[],[],[],r,rfl,no,((aq.refl _,λb o e=>?_,s0,λ_ _ _ _=>rfl),?_,λi v s a b=>?_,λi j s t v w l a b _ _ p _=>((p.calm (no s (dS a))).elim)),GB,M,U,rfl,by simpa using hz,rfl,e,λus Hf' H' xx I h2 J L=>Y us Hf' H' xx I h2 J L)
 .by_cases C:b=x
  .subst C;rw[GB]at e;nomatch e
  .rw[GC C]at e;show e
 .unfold L2.start;simp only[aS,ay,cv,mi]
  lia
 .rcases im i s b with e |⟨d,j,ei,m,es⟩
  .subst e;trivial
  .subst es ei;have(u,B,ru):=g.get m;show(u,?_,ru);unfold L2.start at a;rw[bE,lq,g4,mh (by simpa using ((c7.mp B).1)),cu,B]at a;show(dz a).symm
def iK(cn:Str)(m:LD->Option (LSt×LD))(fa:MF2)(M:LS):OD:=(fa M).bind λas=>(m as).map λr=>.ins cn r.1 r.2
def pG{k:Nat}{m:LD->Option (LSt×LD)}(cn:Str)(U:Mk X.K (c cn) f)(F:cx X.prog X.w X.K X.mg X.base CX0 k f fd ps (spI (Gx c X) cn ps.length m))(hr:bA (k+1) X.A)(hg:Gl X x)(hm:X.mg x=aa (.ref (c cn)))(Y:dW X.K fd ps [])(ha:DA c X (e::es) fa)
 (hl:autoParam (Z (e::es)+1=Z ps) Zb)(G:autoParam (NDb x) Zc)(he:autoParam (StE X e es) Zb)(I:autoParam (BkE X pos es) Zb):
  DE c X (.Call (.Name x p) (e::es) [] pos) (iK cn m fa):=PE.imp (Fe U F hr hg hm Y .nil gf ha.pa G he I) λC H Q q_=>by
 have(Hf0,H0,Hf,M,d,st,a,kq):=q_;unfold iK at a
 cases j:fa M with
 |none=>rw[j]at a;nomatch a
 |some as=>
  rw[j]at a;replace a:(m as).map _=_:=a
  cases E:m as with
  |none=>rw[E]at a;nomatch a
  |some r=>
   rw[E]at a;cases a;show(Hf0,H0,Hf,M,as,st,j,λvs Hf' H' B rv y dx v L N=>?_);rw[bO];have hy:(upd H' dx (.own y)) y=ab:=by rw[aL N.symm];show v
   have s1:aq H' (upd H' dx (.own y)):=bR L;have s2:=s1.trans (bR (o:=.ins (c cn) dx []) hy)
   have T:aq H' (del _ y):=λb u q=>by
    have:=fF q v;rw[GC this];show s2 b u q
   show(y,dx,Hf',as,vs,r,rfl,bd,B.s.free v,B.s.trans s2,rv,by rw[ha.len M as j];show hl,E,λus bm H2 z g J i r2=>(rfl,?_));have x3:Ext Hf' H' bm H2:=(z.f,T.trans z.h,z.s,λl u q t=>z.n l u (T l u q) t);show kq _ _ H2 ((B.trans x3).fix (B.h.free v) g J) (y,dx,us,rfl,bd,i,r2.up (bR g))
variable{r:Option Fl}
def jU{F F':MF3}(h:F M=aa (.nx ρ'))(h':F' ρ'=r):ai F F' M=r:=by
 unfold ai;rw[h];show h'
def uU{F F':MF3}(h:F M=aa (.rt d)):ai F F' M=aa (.rt d):=by
 unfold ai;rw[h];rfl
def uV{F F':MF3}(h:t M=aa ac)(h':F M=r):aZ t F F' M=r:=by
 unfold aZ;rw[h];show h'
def nt{F F':MF3}(h:t M=aa af)(h':F' M=r):aZ t F F' M=r:=by
 unfold aZ;rw[h];show h'
def GD{f:MF1}(h:f M=aa d):a8 i f M=aa (.nx (M.set i (.im d))):=by
 unfold a8;rw[h];rfl
def Pe{f:MF2}{d:LD}(h:f M=aa d):cZ i f M=aa (.nx (M.set i (.own d))):=by
 unfold cZ;rw[h];rfl
def cR{f:MF1}(h:f M=aa d):aW f M=aa (.rt d):=by
 unfold aW;rw[h];rfl
def cS{F:MF3}(h:F (eZ n ds)=aa (.rt d)):aK n F ds=aa d:=by
 unfold aK;rw[h];rfl
def lN{F:MF3}{d:LD}(h:F (eZ n ds)=aa (.rtO d)):aK n F ds=aa (.lst d):=by
 unfold aK;rw[h];rfl
def aF{m:LD->OD}{f:MF2}(h:f M=aa ds)(h':m ds=aa d):aw m f M=aa d:=by
 unfold aw;rw[h];show h'
def uW{a:Type}{h:D->Option OD}(f:a->D)(p:a->Bool)(q:a->D):∀(E:List a),(∀x∈E,h (f x)=aa (if p x then aa (q x) else ab))->eX h (E.map f)=aa ((E.filter p).map q)
 | [],_=>rfl
 |x::E,hh=>by
  rw[bE];unfold eX;rw[hh x az,uW f p q E λy b=>hh y (bi _ b)]
  grind
def Pf{a:Type}{h:D->Option OD}(f:a->D)(q:a->D)(E:List a)(b:∀x∈E,h (f x)=aa (aa (q x))):eX h (E.map f)=aa (E.map q):=by
 have:=uW f (λ_=>ac) q E λx c=>(b x c).trans rfl;rw[this,filter_eq_self.mpr λ_ _=>rfl]
def eG{a:Type}{k:Nat}(E:List a)(f:a->D)(p:a->Bool)(q:a->D)
 (hi:fi M=aa (E.map f))(hz:Z E<=16777216)(b:∀x∈E,gM g ft fe (iI k js M) (f x)=aa (if p x then aa (q x) else ab)):bj k js fi g ft fe M=aa ((E.filter p).map q):=by
 unfold bj;rw[hi];change(if Z (E.map f)<=16777216 then _ else ab)=_;rw[ay,if_pos hz];show uW f p q E b
def gh{a:Type}{k:Nat}(E:List a)(f:a->D)(q:a->D)
 (hi:fi M=aa (E.map f))(hz:Z E<=16777216)(b:∀x∈E,gM g ft fe (iI k js M) (f x)=aa (aa (q x))):bj k js fi g ft fe M=aa (E.map q):=by
 unfold bj;rw[hi];change(if Z (E.map f)<=16777216 then _ else ab)=_;rw[ay,if_pos hz];show Pf f q E b
def GE{d:Type}{g:D->LS->Option LS}{F:MF3}(f:d->D)(I:List d->LS->Prop):∀(post pre:List d) (M:LS),I pre M ->
  (∀a x c M,pre++post=a++x::c->I a M->∃ρ1 b,g (f x) M=aa ρ1/\(F ρ1=aa (.nx b)\/F ρ1=aa (.ct b))/\I (a++[x]) b)->∃ρ',iJ g F (post.map f) M=aa (.nx ρ')/\I (pre++post) ρ'
 | [],pre,M,h,_=>(M,rfl,by rw[bO];show h)
 |x::post,pre,M,h,hs=>by
  have(ρ1,b,i,j,h2):=hs pre x post M rfl h;have(ρ',l,e):=GE f I post _ b h2 (by rw[cK];show hs);show(ρ',?_,by rw[cK]at e;show e);rw[bE];unfold iJ
  grind
def Pg{b:Type}{F:MF3}(E:List b)(f:b->D)(I:List b->LS->Prop)(hi:fi M=aa (E.map f))(c:I [] M)
 (d:∀pre x post M,E=pre++x::post->I pre M->∃ρ1 a,g (f x) M=aa ρ1/\(F ρ1=aa (.nx a)\/F ρ1=aa (.ct a))/\I (pre++[x]) a):∃ρ',bS fi g F M=aa (.nx ρ')/\I E ρ':=by
 unfold bS;rw[hi];show GE f I E [] M c d
def Ph(lo:Int)(n:Nat):rng lo n=(bu n).map λ(i:Nat)=>D.int (lo+i):=rfl
def Pi{ns:LI0}:jp [.lst (ns.map D.int)]=aa (.int ns.sum):=by
 change(gK _).map _=_;rw[OL];rfl
variable{i:Int}
def lO{b:Type}{f:b->D}{E:List b}(c:0<=i)(d:i<Z E):∃x,E[S i]?=aa x/\atI (E.map f) i=aa (f x):=by
 have a:S i<Z E:=by lia
 show(E[S i],by simp[a],?_);have:=Ni (E:=E.map f) (j:=S i) (v:=f E[S i]) (by simp[a]);rw[show i.toNat=i by lia]at this;show this
def lP{a:Type}{f:a->D}{E:List a}(d:a)(e:0<=i)(g:i<Z E):atI (E.map f) i=aa (f (E.getD i.toNat d)):=by
 have(x,b,c):=lO e g;rw[c,bD,b];rfl
abbrev fS:Nat->D->Prop
 | 0,_=>False
 |n+1,d=>match d with
  |.lst E=>∀x∈E,fS n x
  |.tup E=>∀x∈E,fS n x
  |d=>d.scalar=ac
def yT{f:D->D->Option Bool}:∀(E:LD),(∀x∈E,f x x=aa ac)->cG f E E=aa ac
 | [],_=>rfl
 |x::E,h=>by
  unfold cG;rw[h x az,yT E λy a=>h y (bi _ a)];rfl
def yU:∀(n:Nat) (d:D),fS n d->deq n d d=aa ac
 | 0,_,h=>h.elim
 |n+1,d,h=>by
  cases d with
  |lst E=>
   change(if Z E=Z E then cG _ E E else aa af)=_;rw[if_pos rfl]
   show yT E λx a=>yU n x (h x a)
  |tup E=>
   change(if Z E=Z E then cG _ E E else ab)=_;rw[if_pos rfl]
   show yT E λx a=>yU n x (h x a)
  |non=>rfl
  |bl b=>change aa (b==b)=_;rw[beq_self_eq_true]
  |int b=>change aa (b==b)=_;rw[beq_self_eq_true]
  |str b=>change aa (b==b)=_;rw[beq_self_eq_true]
  | _=>cases h
def fS.mono:∀(n:Nat) (d:D),fS n d->fS (n+1) d
 | 0,_,h=>h.elim
 |n+1,d,h=>by
  cases d with
  |lst E=>show λx a=>fS.mono n x (h x a)
  |tup E=>show λx a=>fS.mono n x (h x a)
  | _=>show h
def fS.le{m:Nat}(h:fS n d)(hm:n<=m):fS m d:=by
 induction hm with
 |refl=>show h
 |step _ a=>show fS.mono _ _ a
def GF(h:fS 20 d):dNe d d=aa (.bl af):=by
 unfold dNe;rw[yU 20 d h];rfl
def kL(i j:Int):dEq (.int i) (.int j)=aa (.bl (i==j)):=rfl
def rH(i j:Str):dEq (.str i) (.str j)=aa (.bl (i==j)):=rfl
def Pj(i j:Bool):dEq (.bl i) (.bl j)=aa (.bl (i==j)):=rfl
def Pl(i j:Int):dNe (.int i) (.int j)=aa (.bl (!(i==j))):=rfl
def Pn(i j:Str):dNe (.str i) (.str j)=aa (.bl (!(i==j))):=rfl
variable{f:MF1}
def ao{m:D->D->OD}{g:MF1}{x:D}(a:f M=aa x)(h2:g M=aa y)(b:m x y=aa d):m2 m f g M=aa d:=by
 unfold m2;rw[a,h2];show b
variable{b:Bool}
def bp(h:f M=aa (.bl b)):mB f M=aa b:=by
 unfold mB;rw[h];rfl
def cH(h:f M=aa d)(h':mZ d=aa b):bH f M=aa b:=by
 unfold bH;rw[h];show h'
variable{f:MF4}
def nu(h:f M=aa b):gJ f M=aa (!b):=by
 unfold gJ;rw[h];rfl
variable{g:MF4}
def Po{r:Option Bool}(h:f M=aa ac)(h':g M=r):di f g M=r:=by
 unfold di;rw[h];show h'
def Pp(h:f M=aa af):di f g M=aa af:=by
 unfold di;rw[h];rfl
def Pq(h:f M=aa ac):mOr f g M=aa ac:=by
 unfold mOr;rw[h];rfl
def Ps{r:Option Bool}(h:f M=aa af)(h':g M=r):mOr f g M=r:=by
 unfold mOr;rw[h];show h'
variable{a:Bool}
def iL(h:f M=aa a)(h':g M=aa b):di f g M=aa (a && b):=by
 cases a with
 |true=>show Po h h'
 |false=>show Pp h
def jV(h:f M=aa a)(h':g M=aa b):mOr f g M=aa (a || b):=by
 cases a with
 |true=>show Pq h
 |false=>show Ps h h'
variable{f:MF1}
def uX{g:MF1}(h:f M=aa (.bl a))(h':g M=aa (.bl b)):jS f g M=aa (.bl (a && b)):=by
 unfold jS;rw[bp h]
 grind
def yV{g:MF1}(h:f M=aa (.bl a))(h':g M=aa (.bl b)):vOr f g M=aa (.bl (a || b)):=by
 unfold vOr;rw[bp h]
 grind
def Pt(h:f M=aa (.bl a)):kA f M=aa (.bl (!a)):=by
 unfold kA;rw[bp h];rfl
def ap{g:MF2}(h:f M=aa d)(h':g M=aa ds):ag f g M=aa (d::ds):=by
 unfold ag;rw[h,h'];rfl
variable{f:MF2}
def du(h:f M=aa ds):bx f M=aa (.tup ds):=by
 unfold bx;rw[h];rfl
def bT(h:f M=aa ds):aP f M=aa (.lst ds):=by
 unfold aP;rw[h];rfl
def be{g:MF1}{r:OD}(h:f M=aa ds)(h':g M=aa (.int i))(h2:atI ds i=r):mIx f g M=r:=by
 unfold mIx;rw[h,h'];show h2
def pH{X5:Int->Int->Prop}[∀i j,Decidable (X5 i j)]{g:Int->Int->D}{j:Int}(h:X5 i j):dI X5 g (.int i) (.int j)=aa (g i j):=by
 change(if X5 i j then aa _ else ab)=_;rw[if_pos h]
variable{f:MF1}
def Pu{i:Nat}(h:f M=aa d)(h':M[i]?=aa (.own E))(a:Z E<16777216):dq i f M=aa (.nx (M.set i (.own (E++[d])))):=by
 unfold dq;rw[h,h'];change(if Z E<16777216 then _ else ab)=_;rw[if_pos a]
variable{ρ1:LS}
def dL{g:D->LS->Option LS}(a:g d M=aa ρ1)(h2:ft ρ1=aa b)(c:b=ac->fe ρ1=aa y):gM g ft fe M d=aa (if b then aa y else ab):=by
 unfold gM
 grind
def fT{g:D->LS->Option LS}(a:g d M=aa ρ1)(h2:ft ρ1=aa ac)(b:fe ρ1=aa y):gM g ft fe M d=aa (aa y):=dL a h2 λ_=>b
def e7(h:f M=aa d)(h':iH d=aa ds):aV f M=aa ds:=by
 unfold aV;rw[h];show h'
variable{g:MF1}
def dQ(h:f M=aa d):bh f g M=aa d:=by
 unfold bh;rw[h];rfl
def bI{r:OD}(h:f M=ab)(h':g M=r):bh f g M=r:=by
 unfold bh;rw[h];show h'
def nz{f:MF2}{n:Int}(h:f M=aa [.int n])(b:0<=n)(a:n<2 ^ 62):gL f M=aa ((bu (S n)).map λ(i:Nat)=>D.int i):=by
 unfold gL;rw[h];change(if -_<=n/\n<2 ^ 62 then aa _ else ab)=_;rw[if_pos (by lia,a),Ph]
 grind
variable{m:LD->OD}{ns:LSt}
def cy{cn f:Str}{as:LD}(h:fo M=aa (.ins cn ns ds))(hn:ns.contains f=af)(h':fa M=aa as):aN cn f m fo fa M=m (.ins cn ns ds::as):=by
 unfold aN
 grind
def bJ{cn f a:Str}(h:fo M=aa (.ins a ns ds))(hn:a≠cn):aN cn f m fo fa M=ab:=by
 unfold aN
 grind
def itD(z:Int×Int):D:=.tup [.int z.1,.int z.2]
abbrev shD:Option Bool->D
 |none=>.non
 |some b=>.bl b
def InN(n:Nat)(L:LII):Prop:=∀z∈L,0<=z.1/\z.1<(n:Int)/\0<=z.2
def Pw(bs:LI0):fS 2 (.lst (bs.map D.int)):=λx a=>by
 have(b,_,rfl):=aH.mp a;show rfl
def ju{es:LOB}(a:0<=i)(b:i<Z es):atI (es.map shD) i=aa (shD (es.getD i.toNat ab)):=lP ab a b
def jW{es:LB0}(a:0<=i)(b:i<Z es):atI (es.map D.bl) i=aa (.bl (es.getD i.toNat af)):=lP af a b
def pI(e:Option Bool)(b:Bool):dIs (shD e) (.bl b)=aa (.bl (e==aa b)):=by
 cases e with
 |none=>rfl
 |some c=>cases b <;> cases c <;> rfl
def GG(e:Option Bool)(b:Bool):gg (shD e) (.bl b)=aa (.bl (!(e==aa b))):=by
 cases e with
 |none=>rfl
 |some c=>cases b <;> cases c <;> rfl
abbrev Prt.toD:Prt->D
 |.inn t=>.tup [.str "in",.int t]
 |.out t=>.tup [.str "out",.int t]
 |.least k L=>.tup [.str "least",.int k,.lst (L.map itD)]
 |.most k L=>.tup [.str "most",.int k,.lst (L.map itD)]
abbrev Prt.obj:Prt->D
 |.inn t=>.ins "In" ["thing"] [.int t]
 |.out t=>.ins "Out" ["thing"] [.int t]
 |.least k L=>.ins "Least" ["bound","pieces"] [.int k,.lst (L.map itD)]
 |.most k L=>.ins "Most" ["bound","pieces"] [.int k,.lst (L.map itD)]
abbrev Prt.Ok(n:Nat):Prt->Prop
 |.inn t=>0<=t/\t<(n:Int)
 |.out t=>0<=t/\t<(n:Int)
 |.least _ L=>InN n L/\Z L<=100000
 |.most _ L=>InN n L/\Z L<=100000
def Px(p:Int->Bool)(L:LII):((L.filter λz=>p z.1).map λz=>D.int z.2)=((L.filter λz=>p z.1).map (·.2)).map D.int:=by
 rw[map_map];rfl
def yW(p:Int->Bool)(L:LII):jp [.lst ((L.filter λz=>p z.1).map λz=>D.int z.2)]=aa (.int (bP p L)):=by
 rw[Px,Pi];rfl
def yX:∀{bs:LB0} {us:LVa},aG (bs.map V.bl) us->us=bs.map iB
 | [],_,.nil=>rfl
 |b::bs,_,.cons r t=>by
  rw[yX t];cases (r);rfl
def Py(bs:LB0):((bu (Z bs)).all λi=>(bs[i]?).getD ac)=bs.all id:=by
 rw[gX,all_eq_true,all_eq_true];constructor
 .intro h b c;have(i,hi,e):=List.getElem_of_mem c
  simp_all
 .intro h i hi;have a:=d5.mp hi;simp only[b6 a];show h _ (g5 a)
def Pz(bs:LB0):((bu (Z bs)).any λi=>(bs[i]?).getD af)=bs.any id:=by
 rw[gX,any_eq_true,any_eq_true];constructor
 .rintro⟨i,hi,e⟩;have a:=d5.mp hi;simp only[b6 a]at e;show(_,g5 a,e)
 .rintro⟨b,c,e⟩;have(i,hi,rfl):=List.getElem_of_mem c;show(i,d5.mpr hi,by simp only[b6 hi];show e)
def GH{h:Heap}{o:Obj}(a:∀b x,b∉[h.objs.size]->(h.push o).get? b=aa x->h'.get? b=aa x):∀b x,h.get? b=aa x->h'.get? b=aa x:=
 λb x e=>a b x (λhm=>by rw[bw.mp hm]at e;show gB _ (bC e)) (bF _ e)
def PB(j:X.calm=ac):ie X (.builtin "all") (λE H Q=>∃(p:Addr) (bs:LB0),E=[.ref p]/\SqL X.K H p (bs.map V.bl)/\Q (.bl (bs.all id)) H):=by
 intro U s C H E us Q I r h;have(l,bs,rfl,n,q):=h;have(u,rfl,x):=lI r;subst x;have(L,w,pl,hz):=I.list n;have e:=yX w;subst e;have c:=pl.isList;have d:l<s.heap.objs.size:=by have(_,e,_):=c;show bC e
 show call_all_walk (tT c ?_)
 show(s.heap.objs.size,_,_,(bs.map iB).toArray.size,_,_,λi=>(bs[i]?).getD ac,rfl,Walks.list (A:=X.A.in1) (I.ok.hd j) _ l (bW d) (bs.map iB).toArray,
  ((_,cM _ rfl,rfl,rfl),c.push _),λi v B z y g f=>?_,λh' G m=>?_)
 .have a:(bs.map iB)[i]?=aa v:=by simpa using g
  have(b,e,rfl):=nh a;simp only[e]at f;show mC f
 .have e:((bu (bs.map iB).toArray.size).all λi=>(bs[i]?).getD ac)=bs.all id:=by
   rw[size_toArray,ay];show Py bs
  rw[e];show(.bl _,H,I.kept (GH m),rfl,q)
def PD(j:X.calm=ac):ie X (.builtin "any") (λE H Q=>∃(p:Addr) (bs:LB0),E=[.ref p]/\SqL X.K H p (bs.map V.bl)/\Q (.bl (bs.any id)) H):=by
 intro U s C H E us Q I r h;have(l,bs,rfl,n,q):=h;have(u,rfl,x):=lI r;subst x;have(L,w,pl,hz):=I.list n;have e:=yX w;subst e;have c:=pl.isList;have d:l<s.heap.objs.size:=by have(_,e,_):=c;show bC e
 show call_any_walk (tT c ?_)
 show(s.heap.objs.size,_,_,(bs.map iB).toArray.size,_,_,λi=>(bs[i]?).getD af,rfl,Walks.list (A:=X.A.in1) (I.ok.hd j) _ l (bW d) (bs.map iB).toArray,
  ((_,cM _ rfl,rfl,rfl),c.push _),λi v B z y g f=>?_,λh' G m=>?_)
 .have a:(bs.map iB)[i]?=aa v:=by simpa using g
  have(b,e,rfl):=nh a;simp only[e]at f;show mC f
 .have e:((bu (bs.map iB).toArray.size).any λi=>(bs[i]?).getD af)=bs.any id:=by
   rw[size_toArray,ay];show Pz bs
  rw[e];show(.bl _,H,I.kept (GH m),rfl,q)
abbrev ij:LD->Option (LB0)
 | []=>aa []
 |.bl b::ds=>(ij ds).map λr=>b::r
 | _=>ab
def GI:∀{ds:LD} {bs:LB0},ij ds=aa bs->ds=bs.map D.bl
 | [],_,e=>by cases e;rfl
 |.bl b::ds,_,e=>by
  dsimp only[ij]at e
  cases es:ij ds with
  |none=>rw[es]at e;cases e
  |some r=>rw[es]at e;cases e;rw[GI es];rfl
 |.int _::_,_,e=>by cases e
 |.non::_,_,e=>by cases e
 |.str _::_,_,e=>by cases e
 |.lst _::_,_,e=>by cases e
 |.tup _::_,_,e=>by cases e
 |.kl _::_,_,e=>by cases e
 |.kt _::_,_,e=>by cases e
 |.dic _ _::_,_,e=>by cases e
 |.ins _ _ _::_,_,e=>by cases e
def GJ(bs:LB0):ij (bs.map D.bl)=aa bs:=by
 induction bs with
 |nil=>rfl
 |cons n ns a=>rw[bE,ij,a];rfl
def am.bls{G:Gc}{H:Hp}:∀{bs:LB0} {vs:LVv},am G H (bs.map D.bl) vs->vs=bs.map V.bl
 | [],_,h=>h
 |b::bs,_,q2_=>by
  have(v,r,e,a,h2):=q2_;subst e;rw[am.bls h2,show v=V.bl b from a];rfl
abbrev uY:LD->OD
 | [d]=>(lsD d).bind λds=>(ij ds).map λbs=>.bl (bs.all id)
 | _=>ab
abbrev lQ:LD->OD
 | [d]=>(lsD d).bind λds=>(ij ds).map λbs=>.bl (bs.any id)
 | _=>ab
def uZ{f:LB0->D}(e:(match ds with | [d]=>(lsD d).bind λds=>(ij ds).map f | _=>ab)=aa d):∃a E bs,ds=[a]/\lsD a=aa E/\E=bs.map D.bl/\d=f bs:=by
 split at e
 .rename_i a
  cases b:lsD a with
  |none=>rw[b]at e;nomatch e
  |some E=>
   rw[b]at e;replace e:(ij E).map f=aa d:=e
   cases c:ij E with
   |none=>rw[c]at e;nomatch e
   |some bs=>rw[c]at e;cases e;show(a,E,bs,rfl,b,GI c,rfl)
 .nomatch e
def PF(i:X.calm=ac):rA c X (.builtin "all") uY:=by
 rintro U s C H vs us Q I l ⟨Hf,ds,d,b,r,e,k⟩;have(m,E,bs,rfl,f,rfl,rfl):=uZ e;have(v,h,j):=r.one;subst h;have(a,ws,g,q,B):=kB f j;subst g;show PB i U s C H _ us Q I l (a,bs,rfl,?_,k _ Hf H (Ext.refl b) rfl);rw[<- B.bls];show b.seq q
def GK(i:X.calm=ac):rA c X (.builtin "any") lQ:=by
 rintro U s C H vs us Q I l ⟨Hf,ds,d,b,r,e,k⟩;have(m,E,bs,rfl,f,rfl,rfl):=uZ e;have(v,h,j):=r.one;subst h;have(a,ws,g,q,B):=kB f j;subst g;show PD i U s C H _ us Q I l (a,bs,rfl,?_,k _ Hf H (Ext.refl b) rfl);rw[<- B.bls];show b.seq q
def PH:∀ds d,uY ds=aa d->d.scalar=ac:=λds d e=>by
 have(a,E,bs,rfl,b,rfl,rfl):=uZ e;rfl
def GL:∀ds d,lQ ds=aa d->d.scalar=ac:=λds d e=>by
 have(a,E,bs,rfl,b,rfl,rfl):=uZ e;rfl
def PJ(bs:LB0):uY [.lst (bs.map D.bl)]=aa (.bl (bs.all id)):=by
 change(ij _).map _=_;rw[GJ];rfl
def GM(bs:LB0):lQ [.lst (bs.map D.bl)]=aa (.bl (bs.any id)):=by
 change(ij _).map _=_;rw[GJ];rfl
inductive Wrd where
 |make |may |never
 deriving DecidableEq
abbrev Wrd.s:Wrd->Str
 |.make=>"make"
 |.may=>"may"
 |.never=>"never"
structure Rul where
 w:Wrd
 hd:Int
 ps:List Prt
nonrec abbrev LRu:=List Rul
def Rul.hdD(r:Rul):D:=match r.w with
 |.never=>.non
 | _=>.int r.hd
def Rul.toD(r:Rul):D:=.tup [.str r.w.s,r.hdD,.lst (r.ps.map Prt.toD)]
structure Rul.Ok(n:Nat)(r:Rul):Prop where
 hd:r.w≠.never->0<=r.hd/\r.hd<(n:Int)
 ps:∀p∈r.ps,p.Ok n
 len:Z r.ps<=100000
def Rul.bodyLost(r:Rul)(es:LOB)(ws:LB0):Bool:=r.ps.any λp=>p.lost es ws
def kM{p q:Int->Bool}:∀{L:LII},(∀z∈L,0<=z.2/\(p z.1=ac->q z.1=ac))->bP p L<=bP q L
 | [],_=>Int.le_refl _
 |z::L,h=>by
  have b:=kM λy a=>h y (bi _ a);have(c,d):=h z az;unfold bP at b ⊢
  grind
def pJ{p q:Int->Bool}{L:LII}(h:∀z∈L,p z.1=q z.1):bP p L=bP q L:=by
 unfold bP;rw[filter_congr h]
structure cT(es es':LOB):Prop where
 len:Z es'=Z es
 at':∀i,es.getD i ab=ab\/es'.getD i ab=es.getD i ab
structure nA(ws ws':LB0):Prop where
 len:Z ws'=Z ws
 at':∀i,ws.getD i af=ac->ws'.getD i af=ac
def cT.refl(es:LOB):cT es es:=(rfl,λ_=>.inr rfl)
def nA.refl(ws:LB0):nA ws ws:=(rfl,λ_ h=>h)
variable{es':LOB}
def PK{es:LOB}{p:Prt}(f:cT es es')(h:p.Ok (Z es))(s:p.sure es=ac):p.sure es'=ac:=by
 have key:∀{i:Nat} {b:Bool},(es.getD i ab==aa b)=ac->(es'.getD i ab==aa b)=ac:=λ{i b} e=>by
  rcases f.at' i with z |z
  .grind
  .grind
 have a:∀{i:Nat},(!(es'.getD i ab==aa af))=ac->(!(es.getD i ab==aa af))=ac:=λ{i} e=>by
  grind
 cases p with
 |inn t=>show key s
 |out t=>show key s
 |least k L=>
  have s:=of_decide_eq_true s;show decide_eq_true (tJ s ?_);rw[jl,jl]
  show kM λz hz=>((h.1 z hz).2.2,λe=>key e)
 |most k L=>
  have s:=of_decide_eq_true s;show decide_eq_true (tJ ?_ s);rw[jl,jl];show kM λz hz=>((h.1 z hz).2.2,λe=>a e)
variable{ws:LB0}
def u3{es:LOB}{ws':LB0}{p:Prt}(f:cT es es')(g:nA ws ws')(h:p.Ok (Z es))(s:p.lost es ws=ac):p.lost es' ws'=ac:=by
 have key:∀{i:Nat} {b:Bool},(es.getD i ab==aa b)=ac->(es'.getD i ab==aa b)=ac:=λ{i b} e=>by
  rcases f.at' i with z |z
  .rw[z]at e;cases b <;> cases e
  .rw[z];show e
 cases p with
 |inn t=>
  have s:(_ || ws.getD t.toNat af)=ac:=s;change(_ || ws'.getD t.toNat af)=ac;rw[j8]at s ⊢
  show s.imp key (g.at' _)
 |out t=>show key s
 |least k L=>
  have s:=of_decide_eq_true s;show decide_eq_true (Int.lt_of_le_of_lt (kM λz hz=>((h.1 z hz).2.2,λe=>?_)) s);rw[b5]at e ⊢;show(?_,?_)
  .cases q:(es.getD z.1.toNat ab==aa af)with
   |false=>rfl
   |true=>rw[key q]at e;show e.1
  .cases q:ws.getD z.1.toNat af with
   |false=>rfl
   |true=>rw[g.at' _ q]at e;show e.2
 |most k L=>
  have s:=of_decide_eq_true s;show decide_eq_true (Int.lt_of_lt_of_le s ?_);rw[jl,jl];show kM λz hz=>((h.1 z hz).2.2,λe=>key e)
def rJ{a:Type}{p q:a->Bool}{E:List a}(h:∀x∈E,p x=ac->q x=ac)(s:E.any p=ac):E.any q=ac:=by grind
def Ite(K:aQ)(l:Addr):It:=
  (λi H=> ∃E x, SqL K H l E/\E[i]? = aa x,
   λi H v H'=> ∃p x, v = .ref p/\H p = ab/\H' = upd H p (.tup [.int i, x])/\(∀E, SqL K H l E->E[i]? = aa x),
   λi H=> ∃E, SqL K H l E/\Z E<=i)
variable{elts:LEx}{kx:Nat}
def PL(e it l:Addr)(ne:e≠it):
  ko P w K (.Tuple elts kx pos) (Ite K l) [e,it] e (λi h=>(∃old,IsEnum h e it (i:Int) old)/\h.IsListIter it l i) where
 mem:=by simp
 obj:=λi h st b hb=>by
  have((old,he),(o1,e1,_,d1)):=st;simp only[bc,dD,or_false]at hb
  rcases hb with rfl |rfl
  .show⟨_,he,λv q=>by nomatch q⟩
  .show⟨o1,e1,λv q=>by rw[d1]at q;nomatch q⟩
 keep:=λi h h' st k=>by
  have((old,he),h1):=st;show((old,k e (by simp) _ he),h1.at λo q=>k it (by simp) o q)
 item:=by
  intro X hP hw hK hc i U s C H X4 I hf st hg;subst hP hw hK;have((old,he),h1):=st;have(E,x,q1,hx):=hg;have(its1,r1,p1,z1):=I.list q1;have(u1,e1,ru1):=r1.get hx;show wpAny_pyNext_enum_item he h1 p1.isList (by simpa using e1) ne λh' a1 a3 a5 a6 a7=>(_,rfl,?_);show wpAny_letOwnedTupleGo_enum a1 λh'' b1 b2=>?_
  have lt:∀b∈[e,it],b<s.heap.objs.size:=λb hb=>by
   simp only[bc,dD,or_false]at hb
   rcases hb with rfl |rfl
   .show bC he
   .have(o,e,_):=h1;show bC e
  have kk:∀b o,b∉[e,it]->s.heap.get? b=aa o->h''.get? b=aa o:=λb o hb e=>by
   simp only[bc,dD,or_false,not_or]at hb;have(n1,n2):=hb;show(b2.2 b n1).trans (a7 b o n1 n2 e)
  have fr:=I.hok.fresh (aM _)
  have I2:Inv X U C (upd H s.heap.objs.size (.tup [.int i,x])) {s with heap:=h'',toks:=s.toks+1}:=
   (I.turnedMany kk hf).track (I.fpOk (aM _) fr) ((by change 2<=aT;decide),_,.cons (s.toks,rfl) (.cons ru1 .nil),(_,((b2.2 _ (ls (lt e (by simp)))).trans a5),rfl,_,rfl))
  show(.ref s.heap.objs.size,_,I2,rfl,(_,x,rfl,fr,rfl,λxs' h=>by rw[I.list_inj h q1];show hx),((u1,?_),(a3.at λo q=>(b2.2 it (eQ ne)).trans q)),λb hb=>?_)
  .have:((i+1:Nat):Int)=i+1:=by push_cast;rfl
   rw[this];show b1
  .rw[aL (bW (lt b hb))];show(hf b hb).1
 done:=by
  intro X hP hw hK hc i U s C H X4 I hf st hg;subst hP hw hK;have((old,he),h1):=st;have(E,q1,hend):=hg;have(its1,r1,p1,z1):=I.list q1;have l1':=r1.length;show wpAny_pyNext_enum_end (I.ok.hd hc) he h1 p1.isList (by simp;lia) λh' kk=>(rfl,I.turnedMany (λb o hb q=>?_) hf);simp only[bc,dD,or_false,not_or]at hb;show kk b o hb.2 q
 self:=λ_ _ _ _ _ st h=>by have((old,he),_):=st;show wpAny_pyIter_enum he h
def PM(K:aQ)(a:TA):TI:=λC H R=>a C H λvs H1=>∃l,vs=[.ref l]/\(∃E,SqL K H1 l E)/\R (Ite K l) H1
variable{gw:Pos}{a:Expr}{ta:TA}
def GN(v:Gl X "enumerate")(hm:X.mg "enumerate"=ab)(ha:PA X [a] ta)(w:autoParam (aO [a] X.env=[(af,eval a X.env,)]) Zb):
  PI X (.Tuple elts kx gw) (.Call (.Name "enumerate" p) [a] [] pos) (PM X.K ta):=by
 intro U s C H R I h;show Call_ (hZ I v hm boot_enumerate (kc (thn (ha pos U s C H _ I h) λus s1 (vs,H1,d,j,y)=>?_) (by rw[w];rfl) (by rfl)));have(l,e,(E,r),q):=y;subst e;have(u,rfl,ru):=lI j;subst ru;have(i,j,x,A):=d.list r;show call_enumerate_list x.isList λh' f m z n=>?_;show wpAny_pyIter_enum f ?_;show(_,_,_,_,H1,rfl,(d.kept n),PL _ _ _ (Nat.succ_ne_self _),((_,f),m),λb g=>?_,q);simp only[bc,dD,or_false]at g
 have c:s1.heap.objs.size<=b:=by
  rcases g with rfl |rfl
  .show Nat.le_add_right _ _
  .show aM _
 show d.fpOk c (d.hok.fresh c)
abbrev iM:Nat->LD->LD
 | _,[]=>[]
 |i,x::E=>.tup [.int i,x]::iM (i+1) E
def yY:∀(i:Nat) (E:LD),Z (iM i E)=Z E
 | _,[]=>rfl
 |i,x::E=>by simp only[iM,cv,cv,yY]
def yZ:∀(k:Nat) (E:LD) (i:Nat),(iM k E)[i]?=(E[i]?).map λx=>.tup [.int (k+i:Nat),x]
 | _,[],_=>rfl
 |k,x::E,0=>rfl
 |k,x::E,i+1=>by simp only[iM,g4,g4,yZ _ E i,show k+1+i=k+(i+1) by lia]
abbrev y4:LD->OLD
 | [x]=>(lsD x).map (iM 0)
 | _=>ab
def jw(f:MF2)(M:LS):OLD:=(f M).bind y4
def PN{f:MF2}(J:Gl X "enumerate")(hm:X.mg "enumerate"=ab)(ha:DA c X [a] f)(L:autoParam (aO [a] X.env=[(af,eval a X.env,)]) Zb):
  DI c X (.Tuple elts kx gw) (.Call (.Name "enumerate" p) [a] [] pos) (jw f):=
 PI.imp (GN J hm ha.pa L) λC H R Q=>by
  have(Hf0,H0,Hf,M,ds,st,b,k):=Q;unfold jw at b
  cases j:f M with
  |none=>rw[j]at b;nomatch b
  |some as=>
   rw[j]at b;replace b:y4 as=aa ds:=b;show(Hf0,H0,Hf,M,as,st,j,λvs Hf' H' x r=>?_);unfold y4 at b;split at b
   .rename_i dx
    cases ex:lsD dx with
    |none=>rw[ex]at b;nomatch b
    |some E=>
     rw[ex]at b;cases b;have(v,G,T):=r.one;have(N,h,l,w,y):=kB ex T;subst l;show(N,G,(h,x.s.seq w),k _ Hf' H' x λbm H2 f2 s2 i=>?_);have m:=(f2.trans s2).seq w;have h1:=y.length;show(λd e=>?_,λB=>(h,m,by rw[yY]at B;lia));rw[yZ]at e
     cases n:E[i]? with
     |none=>rw[n]at e;nomatch e
     |some x'=>
      rw[n]at e;cases e;have(U,g,ru1):=y.get n;show((h,U,m,g),λz H3 (pp,z1,I,u,A,Y)=>?_);subst I A;have q:=Y h m;rw[g]at q;cases q;show(upd bm pp _,Ext.new s2 u,pp,_,rfl,bd,.cons (by rw[lu];rfl) (.cons (ru1.up (f2.trans (bR (s2.free u)))) .nil))
   .nomatch b
abbrev jx:D->Option Key
 |.int i=>aa (.inl i)
 |.str x=>aa (.inr x)
 | _=>ab
def rK{k:Key}(e:jx d=aa k)(r:Rep G H d v):v=kV k:=by
 cases d <;> first |(cases e;done) |(cases e;show r)
def gi(ks:List Key)(k:Key):Bool:=ks.any λj=>decide (j=k)
def iN{a:Type}(ks:List Key)(E:List a)(k:Key)(x:a):List a:=if gi ks k=ac then ow (λj y=>if j=k then x else y) ks E else E++[x]
def ik(ks:List Key)(k:Key):List Key:=if gi ks k=ac then ks else ks++[k]
def GO{ks:List Key}{k:Key}{v:V}:∀{ks:List Key} {vs:LVv},(ks.zip vs).map (λa=>if a.1=k then (a.1,v,) else a)=ks.zip (ow (λj y=>if j=k then v else y) ks vs)
 | [],_=>rfl
 | _::_,[]=>rfl
 |j::ks,y::vs=>by
  simp only[fw,bE,tM,fw,GO (ks:=ks)]
  by_cases h:j=k
  .subst h;simp
  .simp[h]
def y6{k:Key}:∀{ks:List Key} {vs:LVv},Z ks=Z vs->((ks.zip vs).any λa=>decide (a.1=k))=gi ks k
 | [],[],_=>rfl
 | [],_::_,h=>by cases h
 | _::_,[],h=>by cases h
 |j::ks,y::vs,h=>by
  simp only[fw,gA,gA,y6 (by simpa using h)];rfl
variable{ks:List Key}
def PP{k:Key}(h:Z ks=Z vs):dP (ks.zip vs) k v=(ik ks k).zip (iN ks vs k v):=by
 unfold dP ik iN;rw[y6 h]
 by_cases e:gi ks k=ac
 .rw[if_pos e,if_pos e,if_pos e,GO (ks:=ks)]
 .rw[if_neg e,if_neg e,if_neg e,zip_append h];rfl
def cb{a:Type}{vs:List a}{k:Key}{v:a}(h:Z ks=Z vs):Z (ik ks k)=Z (iN ks vs k v):=by
 unfold ik iN
 by_cases e:gi ks k=ac
 .rw[if_pos e,if_pos e,length_zipWith];lia
 .rw[if_neg e,if_neg e,aS,aS,h];rfl
def am.zipW{G:Gc}{H:Hp}{k:Key}{d:D}{v:V}(q:Rep G H d v):∀{ks:List Key} {ds:LD} {vs:LVv},am G H ds vs->am G H (ow (λj y=>if j=k then d else y) ks ds) (ow (λj y=>if j=k then v else y) ks vs)
 | [],_,_,_=>.nil
 | _::_,[],_,h=>by cases (h);show .nil
 |j::ks,x::ds,_,q3_=>by
  have(u,r,e,a,h2):=q3_;subst e;rw[tM,tM];show .cons ?_ (am.zipW q h2)
  grind
def am.put{k:Key}(r:am G H ds vs)(q:Rep G H d v):am G H (iN ks ds k d) (iN ks vs k v):=by
 unfold iN
 by_cases e:gi ks k=ac
 .rw[if_pos e,if_pos e];show r.zipW q
 .rw[if_neg e,if_neg e];show r.append (.cons q .nil)
def pK(i:Nat)(M:LS):Option Fl:=aa (.nx (M.set i (.ownd [] [])))
def jy(i:Nat)(a b:MF1)(M:LS):Option Fl:=(b M).bind λd=>(a M).bind λx=>(jx x).bind λk=>match M[i]? with
 |some (.ownd ks E)=>if Z ks<16777216 then aa (.nx (M.set i (.ownd (ik ks k) (iN ks E k d)))) else ab
 | _=>ab
def rL(x y:D):OD:=(jx x).bind λk=>match y with
 |.dic ks _=>aa (.bl (gi ks k))
 | _=>ab
variable{i:Nat}
def PQ(e:PS X st (jh FD (ib i))):DS c X st (pK i):=PS.imp e λX4 C H g=>by
 have(Hf0,H0,Hf,M,o,b,d,k):=g;cases d;intro q a;have x:Ext Hf H Hf (upd H q (.dK [])):=Ext.tmp b.sub a;show k _ Hf _ x.f (b.setOwn rfl x a (b.sub.free a) ([],bd,rfl,.nil))
variable{p':Pos}
def y7(i:Nat)(a:X.N.Nodup)(hi:autoParam (X.N[i]?=aa x) Zb)(e:autoParam (Loc X.env.scope x) Zf)(d:autoParam (f9 (.Dict [] [] pos) (aa (.Name x b4)) p'.line X.env=pure af) Zb)(b:autoParam (LcF X x) Zg):
  DS c X (.Assign [.Name x b4] (.Dict [] [] pos) p') (pK i):=PQ (oS a hi e NU d b)
variable{fk fv:MF1}
def PR(w:PS X st (yo (cX i) (tD (Gx c X) fk) (tD (Gx c X) fv))):DS c X st (jy i fk fv):=PS.imp w λX4 C H B=>by
 have(Hf0,H0,Hf,M,o,n,a,k):=B;unfold jy at a
 cases g:fv M with
 |none=>rw[g]at a;nomatch a
 |some d=>
  rw[g]at a
  cases j:fk M with
  |none=>rw[j]at a;nomatch a
  |some x=>
   rw[j]at a
   cases m:jx x with
   |none=>rw[aA,aA,m]at a;nomatch a
   |some A=>
    simp only[aA,aA,m]at a;split at a
    .rename_i ks E es;split at a
     .rename_i N;cases a;show(Hf0,H0,Hf,M,d,n,g,λv b3 H1 p G=>?_);have b:=n.step p;have(l,el,J,L,vs,q,z,r):=b.ownAt rfl es;show(_,el,Hf0,H0,b3,M,x,b,j,λy bm H2 e I=>?_);have u:=rK m I;subst u;show(l,_,rfl,lJ.k (e.h _ _ q) (by rw[dE,ox];lia),?_);show k C bm _ (p.f.trans e.f) ((b.step e).mutd rfl rfl es el (iN ks vs A v,?_,cb z,(r.up e.f).put (G.up e.f)));rw[bd,PP z]
     .nomatch a
    .nomatch a
variable{i' value:Expr}
def y8(f:X.A.units+64<cLine)(b:PE X e (cX i))(a:DE c X i' fk)(hv:DE c X value fv)(d:autoParam (f9 value (aa (.Subscript e i' b4)) pos.line X.env=pure af) Zb):
  DS c X (.Assign [.Subscript e i' b4] value pos) (jy i fk fv):=PR (FC (by lia) b a hv d)
def PU{k:Key}:∀{ks:List Key} {vs:LVv},Z ks=Z vs->(cO (ks.zip vs) k).isSome=gi ks k:=λ{ks vs} h=>by
 rw[<- uv,y6 h]
variable{b:Expr}
def GP(L:X.A.units+64<cLine)(ha:DE c X a f)(B:DE c X b g)(hm:autoParam (jK .In b=af) Zl):DE c X (.Compare a [.In] [b] pos) (m2 rL f g):=
 PE.imp (Lv (NQ (by lia) ha B) hm) λC H Q G=>by
  have(Hf0,H0,Hf,M,d,st,p,k):=G;have(x,y,m,n,e):=mY p;show(Hf0,H0,Hf,M,x,st,m,λv b3 H1 i I=>(Hf0,H0,b3,M,y,st.step i,n,λu bm H2 j J=>?_));unfold rL at e
  cases h:jx x with
  |none=>rw[h]at e;nomatch e
  |some N=>
   rw[h]at e
   cases y with
   |dic ks E=>
    cases e;have(l,vs,el,q,z,r):=J;have w:=rK h I;subst w el;show(l,_,rfl,fR.k (j.s _ _ q),k _ bm H2 (i.trans j) ?_);rw[PU z]
    rfl
   | _=>nomatch e
def gj(i:Nat)(fk fv:MF1)(M:LS):Option Fl:=(fv M).bind λd=>(fk M).bind λx=>match x with
 | .int k=>(match M[i]? with
  |some (.own E)=>(ixN E.length k).map λj=>.nx (M.set i (.own (E.set j d)))
  | _=>ab)
 | _=>ab
def PV(z:PS X st (jh (tD (Gx c X) fv) (xN (cX i) (tD (Gx c X) fk) yd))):DS c X st (gj i fk fv):=PS.imp z λX4 C H A=>by
 have(Hf0,H0,Hf,M,o,u,a,k):=A;unfold gj at a
 cases m:fv M with
 |none=>rw[m]at a;nomatch a
 |some d=>
  rw[m]at a
  cases n:fk M with
  |none=>rw[n]at a;nomatch a
  |some x=>
   rw[n]at a;obtain⟨e,rfl⟩:∃e,x=.int e:=by grind
   replace a:(match M[i]? with |some (.own E)=>(ixN E.length e).map λj=>Fl.nx _ | _=>ab)=aa o:=a
   split at a
   .rename_i E es
    cases p:ixN E.length e with
    |none=>rw[p]at a;nomatch a
    |some j=>
     rw[p]at a;cases a;show(Hf0,H0,Hf,M,d,u,m,λv b3 H1 w B=>?_);have b:=u.step w;have(l,el,I,J,vs,q,r):=b.ownAt rfl es;show(_,el,Hf0,H0,b3,M,.int e,b,n,λy bm H2 g G=>?_);show(l,vs,e,j,rfl,G,(g.h _ _ q),by rw[<- r.length];show p,(k C bm _ (w.f.trans g.f) ((b.step g).mutd rfl rfl es el (vs.set j v,bd,(r.up g.f).set j (B.up g.f)))))
   .grind
def GQ(d:PE X e (cX i))(b:DE c X i' fk)(hv:DE c X value fv)(f:autoParam (swapsWithSole [.Subscript e i' b4] value pos.line X.env=pure af) Zb)(g:autoParam (swappedStores [.Subscript e i' b4] value X.env=pure ab) Zb)
 (a:autoParam ((i9 [.Subscript e i' b4] X.env).map (·.2)=[assign (.Subscript e i' b4) X.env]) Zb)
 (ha:autoParam (∀ v,assign (.Subscript e i' b4) X.env v=(do
   let ov <- eS [v] (eval e X.env)
   let iv <- eS [v,ov] (eval i' X.env)
   gC b4
   eS [v,ov,iv] (setItem ov iv v)
   release [v,ov,iv] [])) Zd):
  DS c X (.Assign [.Subscript e i' b4] value pos) (gj i fk fv):=PV (xP hv (xO d b yf ha) f g a)
def y9{G:Gc}{H:Hp}{f:D->D->Option Bool}(i:∀(g h x:D) (c d:Bool) (v:V),Rep G H g v->Rep G H h v->f g x=aa c->f h x=aa d->c=d):
  ∀{a b ys:LD} {c d:Bool} {vs:LVv},am G H a vs->am G H b vs->cG f a ys=aa c->cG f b ys=aa d->c=d
 | [],[],[],_,_,_,_,_,h1,h2=>by cases h1;cases h2;rfl
 | [],[],_::_,_,_,_,_,_,h1,h2=>by cases h1;cases h2;rfl
 | [],_::_,_,_,_,_,r1,r2,_,_=>by have:=r1.length;have:=r2.length;simp at *;lia
 | _::_,[],_,_,_,_,r1,r2,_,_=>by have:=r1.length;have:=r2.length;simp at *;lia
 | _::_,_::_,[],_,_,_,_,_,h1,h2=>by cases h1;cases h2;rfl
 |g::a,h::b,y::ys,c,d,vs,r1,r2,h1,h2=>by
  have(v,r,e,p,q):=r1;have(E,C,e',p2,u):=r2;subst e;cases e';have(w,z,j,l,rfl):=uG h1;have(A,B,m,n,rfl):=uG h2;rw[(i _ _ _ _ _ _ p p2 j m),(y9 i q u l n)]
abbrev vD:V->D
 |.bl b=>.bl b
 |.int i=>.int i
 |.str x=>.str x
 | _=>.non
def GR(s:d.scalar=ac)(r:Rep G H d v):d=vD v:=by
 cases d <;> first |(cases s;done) |(rw[show v=_ from r];rfl)
def u4{a:Addr}(s:d.scalar=ac)(r:Rep G H d (.ref a)):False:=by
 cases d <;> first |(cases s;done) |(cases (r))
def rM{G:Gc}{H:Hp}:∀(n:Nat) {r u x:D} {m p:Bool} {v:V},Rep G H r v->Rep G H u v->deq n r x=aa m->deq n u x=aa p->m=p
 | 0,_,_,_,_,_,_,_,_,h,_=>by cases h
 |n+1,r,u,x,m,p,v,r1,r2,h1,h2=>by
  replace h1:m7 _ r x=aa m:=h1;replace h2:m7 _ u x=aa p:=h2
  have X2:∀{E ys:LD},r=.lst E->u=.lst ys->m=p:=λ{E ys} l g=>by
   subst l g;have(a,vs,e,q,B):=r1;have(y,w,e',i,c):=r2;rw[e]at e';cases e';rw[q]at i;cases i;have A:=B.length;have C:=c.length
   cases x with
   |lst j=>
    replace h1:(if E.length=Z j then cG _ E j else aa af)=aa m:=h1;replace h2:(if ys.length=Z j then cG _ ys j else aa af)=aa p:=h2
    by_cases z:E.length=Z j
    .rw[if_pos z]at h1;rw[if_pos (by lia)]at h2;show y9 (f:=deq n) (λ_ _ _ _ _ _=>rM n) B c h1 h2
    .grind
   | _=>cases h1
  have T:∀{E ys:LD},r=.tup E->u=.tup ys->m=p:=λ{E ys} l g=>by
   subst l g;have(a,vs,e,q,B):=r1;have(y,w,e',i,c):=r2;rw[e]at e';cases e';rw[q]at i;cases i;have A:=B.length;have C:=c.length
   cases x with
   |tup j=>
    replace h1:(if E.length=Z j then cG _ E j else ab)=aa m:=h1;replace h2:(if ys.length=Z j then cG _ ys j else ab)=aa p:=h2
    by_cases z:E.length=Z j
    .rw[if_pos z]at h1;rw[if_pos (by lia)]at h2;show y9 (f:=deq n) (λ_ _ _ _ _ _=>rM n) B c h1 h2
    .grind
   | _=>cases h1
  have no:∀{d:D} {b:Bool},m7 (deq n) d x=aa b->d.scalar=ac\/(∃E,d=.lst E)\/∃E,d=.tup E:=λ{d b} h=>by
   unfold m7 at h
   grind
  rcases no h1 with s1 |⟨E,l⟩ |⟨E,l⟩
  .have:r=u:=by
    rcases no h2 with s2 |⟨ys,g⟩ |⟨ys,g⟩
    .rw[GR s1 r1,<- GR s2 r2]
    .subst g;have(a,_,e,_):=r2;subst e;show(u4 s1 r1).elim
    .subst g;have(a,_,e,_):=r2;subst e;show(u4 s1 r1).elim
   grind
  .rcases no h2 with s2 |⟨ys,g⟩ |⟨ys,g⟩
   .subst l;have(a,_,e,_):=r1;subst e;show(u4 s2 r2).elim
   .grind
   .subst l g;have(a,vs,e,q,B):=r1;have(y,w,e',i,c):=r2;rw[e]at e';cases e';rw[q]at i;cases i
  .rcases no h2 with s2 |⟨ys,g⟩ |⟨ys,g⟩
   .subst l;have(a,_,e,_):=r1;subst e;show(u4 s2 r2).elim
   .subst l g;have(a,vs,e,q,B):=r1;have(y,w,e',i,c):=r2;rw[e]at e';cases e';rw[q]at i;cases i
   .show T l g
abbrev dB(x:D):LD->Option Bool
 | []=>aa af
 |d::ds=>(deq 19 d x).bind λb=>(dB x ds).map λr=>b || r
def fU(x y:D):OD:=((iH y).bind (dB x)).map .bl
def PY:∀x y d,fU x y=aa d->d.scalar=ac:=λ_ _ d e=>m6 d e
def GS{x:D}{b:Bool}(h:dB x (d::ds)=aa b):∃a c,deq 19 d x=aa a/\dB x ds=aa c/\b=(a || c):=by
 dsimp only[dB]at h
 cases e:deq 19 d x with
 |none=>rw[e]at h;nomatch h
 |some a=>
  cases f:dB x ds with
  |none=>rw[e,f]at h;nomatch h
  |some c=>rw[e,f]at h;cases h;show(a,c,rfl,rfl,rfl)
def za{a:Type}{f g:a->Bool}:∀{l:List a},(∀x∈l,f x=g x)->l.any f=l.any g
 | [],_=>rfl
 |x::l,h=>by simp only[gA,gA,h x az,za λy b=>h y (bi _ b)]
open Classical in
def rN{U:PNS}{C:St}{H:Hp}{s:ah}{A:ca}{x:D}{L:V}{u:Value}(I:Inv X U C H s)(E:A.units+19<cLine)(J:Rep (Gx c X) H x L)(ru:aD L u):
  ∀{ds:LD} {vs:LVv} {us:LVa} {b:Bool},am (Gx c X) H ds vs->aG vs us->dB x ds=aa b ->
   ∃f:Value->Bool,(∀y∈us,cw A s y u (f y)/\∃d v,Rep (Gx c X) H d v/\aD v y/\deq 19 d x=aa (f y))/\us.any f=b
 | [],_,_,b,r,rv,h=>by
  cases (show _=[]from r);cases rv;cases h
  show(λ_=>af,(λy g=>by cases g),rfl)
 |d::ds,_,_,b,q4_,rv,h=>by
  have(v,G,l,n,N):=q4_;subst l;have(i,T,m,h2,rfl):=GS h
  cases rv with
  | @cons _ y _ us a w=>
   have(f,B,ha):=rN I E J ru N w h2;have j:cw A s y u i:=yE I 19 E m n J a ru;show(λz=>if z=y then i else f z,λz hz=>?_,?_)
   .by_cases e:z=y
    .subst e;simp only[if_true];show(j,d,v,n,a,m)
    .simp only[e,if_false];show B z ((bc.mp hz).resolve_left e)
   .rw[gA,if_pos rfl,<- ha]
    congr 1
    by_cases g:y∈us
    .have(_,d',Q,G,p,h'):=B y g;have l:Q=v:=aD.inj p a;subst l;have M:f y=i:=rM 19 G n h' m;show za λz hz=>?_
     by_cases e:z=y
     .subst e;simp[M]
     .simp[e]
    .show za λz hz=>?_;have e:z≠y:=λq=>g (q▸hz);simp[e]
def PZ(E:X.A.units+64<cLine):OpD c X (cL .In) fU:=by
 rintro U s C H v u w G Q I m ru ⟨Hf,x,y,d,g,l,B,e,k⟩;unfold fU at e
 cases h:(iH y).bind _ with
 |none=>rw[h]at e;nomatch e
 |some b=>
  rw[h]at e;cases e
  cases es:iH y with
  |none=>rw[es]at h;nomatch h
  |some ds=>
   rw[es]at h;have(a,vs,p,q,r):=rb es (B.up g);subst p;subst ru;have fin:∃n H',Inv X U C H' s/\aD n _/\Q n H':=(.bl b,H,I,rfl,k _ Hf H (Ext.refl g) rfl)
   rcases q with q |q
   .have(L,j,pl,hz):=I.list q;have(f,i,ha):=rN (A:=X.A.in1) I (by grind) (l.up g) m r j h;show SeqAt.in_listAt f pl.isList (λz hz=>(i z (by grind)).1) ?_;rw[show L.toArray.any f=L.any f by simp,ha];show fin
   .have(L,j,pl,hz):=I.tuple q;have(f,i,ha):=rN (A:=X.A.in1) I (by grind) (l.up g) m r j h;show SeqAt.in_tupleAt f pl (λz hz=>(i z (by grind)).1) ?_;rw[show L.toArray.any f=L.any f by simp,ha];show fin
def Ris(E:Array Nat):Prop:=E.toList.Pairwise (· < ·)
variable{E:Array Nat}
def GT(h:Ris E){a b:Nat}(c:a<b)(d:b<E.size):E.getD a j<E.getD b j:=by
 have e:=pairwise_iff_getElem.mp h a b (by simpa using mw c d) (by simpa using d) c;rw[qx,qx,dif_pos (mw c d),dif_pos d];show e
def zb(h:Ris E){a b:Nat}(c:a<=b)(d:b<E.size):E.getD a j<=E.getD b j:=by
 rcases Nat.eq_or_lt_of_le c with e |e
 .subst e;show aM _
 .show fD (GT h e d)
def zc{E:Array Nat}{j:Nat}(h:Ris E):∀(a lo hi:Nat),lo<=hi->hi<=E.size->hi-lo<=a->(∀i,i<lo->E.getD i j<j)->(∀i,hi<=i->i<E.size->¬E.getD i j<j) ->
  t8 E j a lo hi<=E.size/\(∀i,i<t8 E j a lo hi->E.getD i j<j)/\∀i,t8 E j a lo hi<=i->i<E.size->¬E.getD i j<j
 | 0,lo,hi,h1,h2,h3,h4,h5=>by
  have e:lo=hi:=by lia
  subst e
  show(h2,h4,h5)
 |a+1,lo,hi,h1,h2,h3,h4,h5=>by
  dsimp only[t8]
  by_cases c:lo<hi
  .rw[if_pos c]
   by_cases hm:E.getD ((lo+hi) / 2) j<j
   .simp only[hm];show zc h a _ hi (by lia) h2 (by lia) (λi b=>(lr (zb h (by lia) (by lia)) hm)) h5
   .simp only[hm];show zc h a lo _ (by lia) (by lia) (by lia) h4 λi b f d=>(hm (lr (zb h b f) d))
  .rw[if_neg c];have e:lo=hi:=by lia
   subst e;show(h2,h4,h5)
def zd(h:Ris E)(j:Nat):cE E j<=E.size/\(∀i,i<cE E j->E.getD i j<j)/\∀i,cE E j<=i->i<E.size->¬E.getD i j<j:=
 zc h E.size 0 E.size (cj _) (aM _) (by lia) (λi hi=>by lia) λi hi a=>by lia
def P0(h:Ris E)(hi:i<E.size):cE E (E[i]+1)=i+1:=by
 have(g,h2,f):=zd h _;have e:E.getD i (E[i]+1)=E[i]:=by rw[qx,dif_pos hi];rfl
 by_cases d:cE E (E[i]+1)<=i
 .show absurd (by rw[e];lia) (f i d hi)
 .by_cases c:i+1<cE E (E[i]+1)
  .have a:=h2 _ c;have b:=GT h (j:=E[i]+1) (show i<i+1 by lia) (by lia)
   lia
  .lia
def P1(h:Ris E):cE E 0=0:=by
 have(a,h2,b):=zd h 0
 by_cases e:0<cE E 0
 .have:=h2 0 e;lia
 .lia
def P2(h:Ris E)(hn:E[cE E j]?≠aa j):Ris (dF.insertAt E (cE E j) j):=by
 have(w,h2,r):=zd h j;unfold Ris dF.insertAt;have g:∀i,(hi:i<E.size)->E.getD i j=E[i]:=λi hi=>by rw[qx,dif_pos hi];rfl
 simp only[Array.toList_append,wX,Array.toList_extract,Array.toList_extract];simp only[extract_eq_drop_take]
 have l:∀x∈E.toList.take (cE E j),x<j:=λx p=>by
  have(i,hi,e):=mem_take_iff_getElem.mp p;have n:i<cE E j:=by lia
  have:=h2 i n;rw[g i (by lia)]at this;rw[<- e];show this
 have f:∀x∈E.toList.drop _,j<x:=λx p=>by
  have(i,hi,e):=mem_drop_iff_getElem.mp p;have m:cE E j+i<E.size:=by simpa[Nat.add_comm]using hi
  have a:=r _ (by lia) m;rw[g _ m]at a;have ex:x=E[cE E j+i]:=by rw[<- e];simp
  rw[ex]
  rcases Nat.lt_or_ge j E[cE E j+i]with q |q
  .show q
  .exfalso;have v:E[cE E j+i]=j:=by lia
   have d:cE E j<E.size:=by lia
   have b:=zb h (j:=j) (show cE E j<=cE E j+i by lia) m;rw[g _ m,g _ d,v]at b;have c:=r _ (aM _) d;rw[g _ d]at c;show hn (by rw[mf d];congr 1;lia)
 have u:List.take (E.size-cE E j) _=List.drop (cE E j) E.toList:=qC (by simp);rw[u];show qE.mpr (qE.mpr (ED (take_sublist _ _) h,by simp,λa ha b d=>?_),ED (drop_sublist _ _) h,λa ha b d=>?_)
 .have:b=j:=by simpa using d
  subst this;show l a ha
 .rcases bz.mp ha with ha |ha
  .show mw (l a ha) (f b d)
  .have:a=j:=by simpa using ha
   subst this;show f b d
def P3(n:Nat):Ris (Array.range n):=by
 unfold Ris;rw[Array.toList_range];show pairwise_lt_range
variable{t:dF}
def GU(h:t.slot j=.empty\/t.slot j=.dummy):t.place[cE t.place j]?≠aa j:=λe=>by
 have:t.slot j=.live (cE t.place j):=by
  unfold dF.slot
  grind
 grind
def ze{t:dF}{h:Int}:∀(a:Nat) (p:dF.Probe) {j:Nat} {d:Option Nat},(∀d',p.dummy=aa d'->t.place[cE t.place d']?≠aa d')->dF.probe.go t (λ_=>h+1) h a p=aa (.empty j d) ->
  t.place[cE t.place j]?≠aa j/\∀d',d=aa d'->t.place[cE t.place d']?≠aa d'
 | 0,_,_,_,_,e=>by cases e
 |a+1,p,j,d,hd,e=>by
  dsimp only[dF.probe.go]at e;split at e
  .rename_i b;cases e;show(GU (.inl b),hd)
  .rename_i b;show ze a _ (λd' q=>?_) e
   have:d'=p.j:=by
    unfold dF.advance at q;split at q
    .show(dz q).symm
    .show(dz q).symm
   subst this;show GU (.inr b)
  .rename_i i b;split at e
   .cases e
   .show ze a _ (λd' q=>hd d' ?_) e;unfold dF.advance at q
    split at q <;> show q
def P4{h:Int}{w:Bool}(e:t.freeSlot h=aa (j,w,)):t.place[cE t.place j]?≠aa j:=by
 unfold dF.freeSlot at e;split at e
 .rename_i c d b;have(a,h2):=ze _ _ (λd' q=>by nomatch q) b
  cases d with
  |none=>cases e;show a
  |some d'=>cases e;show h2 _ rfl
 .grind
def u5(t:dF)(n:Nat):Ris (t.standIn n).place/\(t.standIn n).led=t.led:=(P3 n,rfl)
def P5(n:Nat)(h:Ris t.place):Ris (t.orStandIn n).place/\(t.orStandIn n).led=t.led:=by
 unfold dF.orStandIn;split
 .show(h,rfl)
 .show u5 t n
def P6(es:Array (Int×Value))(h:Int)(x:Value)(hr:Ris t.place):Ris (layNew t es h x).2.1.place/\(layNew t es h x).2.1.led=t.led:=by
 unfold layNew;split
 .rename_i slot wd a;show P5 _ (P2 hr (P4 a))
 .show u5 t _
variable{led:Bool}
def P7{mask finger moves:Nat}{plain:Bool}{c:Array Int}{t':dF}{order:Array Nat}(e:dF.laid mask finger moves led plain c=aa (t',order,)):Ris t'.place/\t'.led=led:=by
 unfold dF.laid at e
 cases d:dF.layClean mask c with
 |none=>rw[d]at e;nomatch e
 |some owner=>
  rw[d]at e;cases e;show(?_,rfl);unfold Ris;rw[pairwise_map,pairwise_filterMap];show List.Pairwise.imp (λ{a b} f=>?_) pairwise_lt_range
  simp_all
def P8(es:Array (Int×Value))(a:Nat):Ris (mJ t es a).2.1.place/\(mJ t es a).2.1.led=t.led:=by
 unfold mJ;split
 .rename_i t' order b;dsimp only;split
  .show(P7 b)
  .show u5 t _
 .show u5 t _
def dX(P:ce)(w:World)(h:Heap)(a:Addr)(led:Bool)(S:Int->Bool)(n:Nat):Prop:=
 ∃o b d c,h.get? a=aa o/\o.ExactSet/\o.data=.set b d c/\ElemsOf (fN P w) b.toList/\(∀k,S k=ac↔∃e∈b.toList,(fN P w).is k e.2=ac)
  /\ b.size<lA/\c.fits b.size=ac/\b.size=n/\Ris c.place/\c.led=led
variable{h:Heap}{a:Addr}
def dX.stay{S:Int->Bool}(q:dX P w h a led S n)(k:∀o,h.get? a=aa o->h'.get? a=aa o):dX P w h' a led S n:=by
 have(o,b,c,e,d,r):=q;show(o,b,c,e,k o d,r)
def dX.congr{S b:Int->Bool}{c:Nat}(q:dX P w h a led S n)(e:∀k,S k=b k)(en:n=c):dX P w h a led b c:=by
 have:S=b:=funext e;subst this en;show q
variable{a4:Array (Int×Value)}{ep:Nat}{tb:dF}
def GV{o:Obj}{b:Array (Int×Value)}{c:dF}{S:Int->Bool}(l:h.get? a=aa o)(hex:o.ExactSet)(hd:o.data=.set a4 ep tb)
 (d:ElemsOf (fN P w) b.toList)(hm:∀k,S k=ac↔∃e∈b.toList,(fN P w).is k e.2=ac)(i:b.size<lA)(j:c.fits b.size=ac)(hr:Ris c.place)(f:c.led=led):
  (h.update a (Obj.putSet b c)).get? a=aa {o with data:=.set b (ep+1) c}/\dX P w (h.update a (Obj.putSet b c)) a led S b.size:=by
 have g:=(SetOf_store l hex hd d hm i j).1;show(g,_,b,ep+1,c,g,hex,rfl,d,hm,i,j,rfl,hr,f)
variable{s:ah}
def GW{g:Bool->Sem Unit}(G:∀(b:Bool) (i:ah) (v:Unit->ah->Prop),v () i->wpAny (model P w) A (g b) v X4 i){o:Obj}{c:Array (Int×Value)}{d:dF}{S:Int->Bool}
 (y:s.heap.get? a=aa o)(hex:o.ExactSet)(hd:o.data=.set a4 ep tb)(l:ElemsOf (fN P w) c.toList)(hm:∀k,S k=ac↔∃e∈c.toList,(fN P w).is k e.2=ac)
 (n:c.size<lA)(E:d.fits c.size=ac)(hr:Ris d.place)(f:d.led=led){C:Bool}{R:Option Bool->ah->Prop}
 (h:∀h',gb a s.heap h'->dX P w h' a led S c.size->R (aa ac) {s with heap:=h'}):
  wpAny (model P w) A (do
    storeSet a c d
    if (!C && d.tooFull)=ac then do
      g (mJ d c (oP c.size)).2.2
      storeSet a (mJ d c (oP c.size)).1 (mJ d c (oP c.size)).2.1
      pure (aa ac)
     else pure (aa ac)) R X4 s:=by
 show ak (wpAny_storeSet_of y hd ?_ (fits_of_scanBound n));have(m,H):=GV y hex hd l hm n E hr f;have sb:=oN s.heap a (Obj.putSet c d);split
 .have pp:=relayAll_perm d c (oP c.size);have x:=relayAll_fits d c (oP c.size);have r:=P8 (t:=d) c (oP c.size);generalize mJ d c _=z at pp x r ⊢;have(j,I,J):=z;have u:j.size=c.size:=by rw[<- i0,pp.length_eq,i0]
  show ak (G _ _ _ (ak (wpAny_storeSet_of m rfl ?_ (fits_of_scanBound (by rw[u];show n)))));have B:=(GV m hex rfl (l.perm pp) (λk=>(hm k).trans (λ(e,p,q)=>(e,pp.mem_iff.mpr p,q),λ(e,p,q)=>(e,pp.mem_iff.mp p,q))) (by rw[u];show n) x r.1 (r.2.trans f)).2;rw[u]at B;show aE (h _ (sb.trans (oN _ a _)) B)
 .show aE (h _ sb H)
def P9{S:Int->Bool}{k:Int}{x:Value}{Q:Bool->ah->Prop}(p:(fN P w).is k x=ac)(y:x.scannable=ac)(q:dX P w s.heap a led S n)(room:n+1<lA)
 (h:∀h',gb a s.heap h'->dX P w h' a led (λB=>S B || decide (B=k)) (if S k then n else n+1)->Q (!S k) {s with heap:=h'}):wpAny (model P w) A (setAddHashed a x ((fN P w).hash k)) Q X4 s:=by
 have(o,a4,ep,tb,r,hex,hd,f,hm,H,E,hn,hr,g):=q;show jL (ak (oH r hd E ?_));dsimp only;rw[byScan_of y H f,if_pos rfl];show ak (ak (lz (ak (wpAny_setScan_of p r hd E f ?_))))
 cases hi:List.findIdx? _ a4.toList with
 |some j=>
  have(J,L,_):=findIdx?_eq_some_iff_getElem.mp hi;have u:=(hm k).mpr (a4.toList[j],g5 J,L);show aE (aE ?_)
  have fin:=h s.heap (gb.refl a s.heap) (o,a4,ep,tb,r,hex,hd,f,λB=>by
   rw[j8,decide_eq_true_eq,<- hm B];show(λz=>z.elim id (λe=>e▸u),.inl),H,E,by rw[u];show hn,hr,g)
  rw[u]at fin
  show fin
 |none=>
  have u:S k=af:=by
   grind
  have I:∀b c m,m () c->wpAny (model P w) A (match b with |true=>rule "set.scan.the-table-gave-way" |false=>pure ()) m X4 c:=
   λb c m i=>by cases b <;> first |show aE i |show lz i
  have pp:=layNew_perm tb a4 ((fN P w).hash k) x;have v:=layNew_fits tb a4 ((fN P w).hash k) x;have C:=P6 a4 ((fN P w).hash k) x hr;generalize layNew tb a4 _ x=z at pp v C ⊢;have(d,M,N,T):=z;dsimp only at pp v C ⊢;rw[wX]at pp;have G:d.size=n+1:=by rw[<- i0,pp.length_eq,aS,i0,hn];rfl
  have fin:∀h',gb a s.heap h'->dX P w h' a led _ d.size->Q ac {s with heap:=h'}:=λh' sb l=>by
   have:=h h' sb;rw[u]at this;rw[G]at l;show this l
  show ak (I _ _ _ ?_);split
  .show ak ?_;rw[hashByValue_scannable 8 y]
   show aE (GW (led:=led) (λb c m i=>by cases b <;> first |show aE i |show lz i) r hex hd ((f.push p y).perm pp) (mem_push_iff p hm pp) (by rw[G];show room) ?_ ?_ ?_ λh' sb l=>?_)
   .split
    .grind
    .show dF.fits_plain_off v
   .grind
   .grind
   .dsimp only;show aE (fin h' sb l)
  .show ak (aE ?_)
   show GW (λb c m i=>by cases b <;> first |show aE i |show lz i) r hex hd ((f.push p y).perm pp) (mem_push_iff p hm pp) (by rw[G];show room) v C.1 (C.2.trans g) λh' sb l=>?_
   dsimp only;show aE (fin h' sb l)
set_option maxRecDepth 100000
def eI(w:World):Bool:=!(w.params.followText "set-order")
variable{I:Addr}{wr:LAd}{G:Array GenState->Array GenState->Prop}{Pv:Nat->Value->Prop}
def Qa{St:Nat->ah->Prop}(W:WalksS P w A.in1 I fp wr G n Pv St)(S:Addr)(f:S∉fp)(val:Nat->Int)(hv:∀i v,Pv i v->∃t,v=.int (val i) t)(z:n+1<lA):
  ∀(k i:Nat) (s:ah),n-i=k->i<=n->St i s->dX P w s.heap S led (λj=>(eR val i).any (·==j)) (Z (eR val i)) ->
   (∀c,Moved (S::wr) G s c->dX P w c.heap S led (λj=>(eR val n).any (·==j)) (Z (eR val n))->R (.ok (.ret .none)) c) ->
   gD (model P w) A (.builtin "set.update.loop" ([.ref S,.ref I],[])) R s:=by
 have g:=λh=>f (W.sub _ h);have sub:∀b∈wr,b∈S::wr:=λb h=>bi _ h;intro k
 induction k with
 |zero=>
  intro i s p hi st q fin;obtain rfl:i=n:=by lia
  show kg F.entry_set_update_loop ?_
  show ak (W.done s _ _ st λc m=>(aE (fin c (m.mono sub) (q.stay λo e=>m.heap S o g e))))
 |succ k r=>
  intro i s p hi st q fin;have lt:i<n:=by lia
  show kg F.entry_set_update_loop ?_;show ak (W.item i s _ _ lt st λv c l d m=>?_);have(t,rfl):=hv i v l;show ak (jL ?_);show jL (ak ((fN P w).pyHash (intKind_is _ _ _ _) ?_));have room:Z (eR val i)+1<lA:=by have:=firstMet_length_le val i;lia
  show P9 (intKind_is _ _ _ _) rfl (q.stay λo e=>m.heap S o g e) room λh' sb u=>?_;have x:dX P w h' S led (λj=>(eR val _).any (·==j)) (Z (eR val _)):=u.congr (λj=>by rw[firstMet_succ,step_any]) (by rw[firstMet_succ,step_length]);show aE (mF F.plain_set_update_loop _,r _ _ (by lia) lt (W.frame _ c _ _ d (ka _) λb a o e=>?_) x λs2 m2 y=>?_)
  .rw[sb.2 b λh=>f (by rw[<- h];show a)];show e
  .show fin s2 (Moved.trans W.gtrans ((m.mono sub).then_heap (ka _) λb o a e=>?_) m2) y;rw[sb.2 b λh=>a (by rw[h];show az)];show e
nonrec def jz(led:Bool):Obj:={cls:=.type "set",dict:=ab,data:=.set #[] 0 (.fresh 0 0 led)}
def Qb(a:Value){Q:PRS}(h:Q (.ref s.heap.objs.size) {s with heap:=s.heap.push (jz (eI w))}):
  gD (model P w) A (.call (.builtin "set.__new__") ([.type "set",a],[])) (wants Q X4) s:=by
 show codeAny_of_tree ?_;show ak (qR (F.newCall_set_1 a) (aE (mF F.plain_set_new _,kg F.entry_set_new ?_)));have b:=sub_set_self
 wp_walk
 show wpAny_askSetting (aE ?_);show ak (wpAny_alloc (aE (aE h)))
def Qc(h:Heap)(led:Bool):dX P w (h.push (jz led)) h.objs.size led (λ_=>af) 0:=
 (_,#[],0,_,cM _ rfl,(rfl,rfl,rfl),rfl,λe a=>by simp at a,λk=>by simp,by decide,rfl,rfl,by unfold Ris;simp[dF.fresh],rfl)
set_option maxRecDepth 100000
variable{ns:LI0}
set_option maxHeartbeats 8000000 in
def Qd{items:Array Value}{Q:PRS}(hh:A.handled=ab)(hl:s.heap.IsList l items)(hi:f7 items.toList ns)(hb:items.size+1<lA)
 (h:∀ (h':Heap) (g:Nat),dX P w h' s.heap.objs.size (eI w) (λj=>(eR (λi=>ns.getD i 0) items.size).any (·==j)) (Z (eR (λi=>ns.getD i 0) items.size)) ->
   (∀b o,b<s.heap.objs.size->s.heap.get? b=aa o->h'.get? b=aa o)->s.toks<=g->Q (.ref s.heap.objs.size) {s with heap:=h',toks:=g}):
  wpAny (model P w) A (call (.type "set") [.ref l]) Q X4 s:=by
 have(c,tl,L):=lB.mro;have E:=lB.made;have M:=lB.sub;show wpAny_call (codeAny_of_tree ?_);change wpAny _ _ (callAny (.type "set") _) _ _ _;show aE (Code.quiet_builtin _ (by decide +kernel),kg F.entry_type_call ?_);rw[ca.under_plain (weight_type_call_type "set" [.ref l] []) rfl];have h1:=lB.notType;have h2:=lB.canCreate;have hct:=F.typeCall_set_1 (.ref l)
 repeat (any_goals (first |assumption |wp_step))
 show ly (Qb (.ref l) (X4:=X4) (Q:=λN d=>N=.ref s.heap.objs.size/\d={s with heap:=s.heap.push (jz (eI w))}) (rfl,rfl)) λr d hr=>?_
 cases r with
 |error e=>show hr
 |ok fl=>
  cases fl with
  |ret N=>
   have(rfl,rfl):=hr;have g0:(s.heap.push (jz (eI w))).get? s.heap.objs.size=aa (jz (eI w)):=cM _ rfl
   have hT:t9 {s with heap:=s.heap.push (jz (eI w))} (.ref s.heap.objs.size) "set":=(_,g0,rfl)
   have hli:=lB.init.lookup;have hbi:=lB.init.bind (.ref s.heap.objs.size)
   repeat (any_goals (first |assumption |wp_step))
   show ly (xn (R:=wants (λr cc=>r=.none/\∃ h' g,cc={ s with heap:=h',toks:=g }/\s.toks<=g /\
     dX P w h' s.heap.objs.size (eI w) (λj=>(eR (λi=>ns.getD i 0) items.size).any (·==j)) (Z (eR (λi=>ns.getD i 0) items.size)) /\
     (∀b o,b<s.heap.objs.size->s.heap.get? b=aa o->h'.get? b=aa o)) X4) lB.init.plain F.entry_set_init (check_set_init_1 hT ?_)) λy cc a=>?_
   .have((oc,od,odt,os),u,n,nl,p):=hl;simp only at n p;subst n p;have x:(s.heap.push (jz (eI w))).get? l=aa {cls:=.type "list",dict:=od,data:=.seq items nl,slots:=os}:=bF _ u;have k1:=F.sub_list_set;have k2:=F.sub_list_frozenset;have k3:(ki "list" == ki "dict")=af:=by decide
    have q:(s.heap.push (jz (eI w))).IsList l items:=(_,x,rfl,nl,rfl);unfold eT.«set.__init__» noKeywords eT.Frozenset.updateFrom;generalize z:pyIter=PI
    wp_walk
    subst z;show tT q (ak (wpAny_runValue ?_));have lt:l<s.heap.objs.size:=bC u;have C:A.in1.in1.in1.handled=ab:=by simp[hh]
    have G:l≠(s.heap.push (jz (eI w))).objs.size:=by rw[jc];show bW (jI lt)
    have H:s.heap.objs.size∉[(s.heap.push (jz (eI w))).objs.size,l]:=by
     rw[jc];simp only[bc,dD,or_false,not_or];show(bW (c8 _),ls lt)
    have hv:∀(i:Nat) (v:Value),items[i]?=aa v->∃t,v=.int ((λi=>ns.getD i 0) i) t:=λi v hv=>f7.int_at hi i v (by rw[qw];show hv);show Qa (led:=eI w) ((Walks.list C _ l G items).toS) s.heap.objs.size H (λi=>ns.getD i 0) hv hb (items.size-0) 0 _ (by lia) (cj _) ((_,cM _ rfl,rfl,rfl),(q.push _)) ?hS0 ?hR
    case hS0=>show((Qc (P:=P) (w:=w) s.heap (eI w)).stay λo e=>bF _ e).congr (λ_=>rfl) rfl
    case hR=>
     intro s' hm B;have(h',g',d',J,I):=s';have U:g'=s.gens:=hm.gens;have T:d'=s.drawn:=hm.drawn;have Y:I=s.os:=hm.os;subst U T Y;change wpAny _ _ _ _ _ _;show aE ?_;change wpAny _ _ (ret mM) _ _ _;show aE (rfl,h',J,rfl,hm.toks,B,λb o m e=>?_);have n2:b≠(s.heap.push (jz (eI w))).objs.size:=by rw[jc];show bW (jI m)
     show hm.heap b o ?_ (bF _ (bF _ e));simp only[bc,dD,or_false,not_or];show(bW m,n2)
   .cases y with
    |error e=>show a
    |ok f=>
     cases f with
     |ret r=>
      have(rfl,h',g,rfl,htk,q',kk):=a
      repeat (any_goals (first |assumption |wp_step))
      show h _ _ q' kk htk
     | _=>show a.elim
  | _=>show hr.elim
set_option maxRecDepth 100000
def zf{a:Type}:∀(l:List a) (i:Nat) (x:a),l[i]?=aa x->(x::l.eraseIdx i).Perm l
 | [],_,_,h=>by simp at h
 |y::l,0,x,h=>by simp at h;subst h;rfl
 |y::l,i+1,x,h=>by
  have:=zf l i x (by simpa using h);show(List.Perm.swap y x _).trans (xi y this)
def GX{d:Type}(next:Nat->Nat):∀(a k:Nat) (left:List d) (out:Array d),Z left=a->(ja.go next a k left out).toList.Perm (out.toList++left)
 | 0,k,left,out,h=>by
  obtain rfl:left=[]:=tL.mp h;dsimp only[ja.go]
  simp
 |a+1,k,left,out,h=>by
  dsimp only[ja.go]
  have b:next k % Z left<Z left:=Nat.mod_lt _ (by lia)
  have c:=b6 b;rw[c]
  show(GX next a _ _ _ (by rw[length_eraseIdx_of_lt b];lia)).trans ?_
  rw[wX,cK];show xh _ (zf left _ _ c)
def zg{a:Type}(next:Nat->Nat)(E:Array a):(ja next E).toList.Perm E.toList:=by
 have:=GX next E.size 0 E.toList #[] (by simp)
 simpa[ja]using this
def Qe{a:Source}{Q:Nat->ah->Prop}(hn:n≠0)(h:∀i,i<n->Q i {s with drawn:=s.drawn.bump a}):wpAny (model P w) A (choose a n) Q X4 s:=λΓ p b=>
 (hn,h _ (Nat.mod_lt _ (Nat.pos_of_ne_zero hn)))
def GY{b:Type}:∀(n:Nat) (E:List b) {s:ah} {Q:List b->ah->Prop},Z E=n->(∀ys d,ys.Perm E->Q ys {s with drawn:=d})->wpAny (model P w) A (drawOrder n E) Q X4 s
 | 0,E,s,Q,hl,h=>by
  obtain rfl:E=[]:=tL.mp hl;have:=h [] s.drawn (tO _)
  show aE (by cases s;show this)
 |n+1,[],s,Q,hl,h=>by cases hl
 |n+1,x::E,s,Q,hl,h=>by
  show ak (Qe (by simp) λi hi=>?_);have a:=b6 hi;rw[a];show ak (GY n _ (by rw[length_eraseIdx_of_lt hi];lia) λys d c=>aE (h _ d ((xi _ c).trans (zf _ _ _ a))))
set_option maxRecDepth 100000
def iO:Slot "set_iterator" "__next__" "set_iterator.__next__" :=
 .of (owner:="set_iterator") (n:="__next__") (by rw[kh,kf];kernel_rfl) (by decide +kernel) (by decide +kernel) (by decide +kernel) (by first |show .inl (by decide +kernel) |grind) (by rw[mE];kernel_rfl)
def u6:mK table "set_iterator.__next__"=aa eT.«set_iterator.__next__»:=entryFor_of_fast (by kernel_rfl)
def u7(a:Value):argsOk "set_iterator.__next__" ([a],[]):=by unfold argsOk;kernel_rfl
def GZ:Slot "set_iterator" "__iter__" "set_iterator.__iter__" :=
 .of (owner:="set_iterator") (n:="__iter__") (by rw[kh,kf];kernel_rfl) (by decide +kernel) (by decide +kernel) (by decide +kernel) (by first |show .inl (by decide +kernel) |grind) (by rw[mE];kernel_rfl)
def Qf:mK table "set_iterator.__iter__"=aa eT.«dict_keyiterator.__iter__»:=
 entryFor_alias (id':="dict_keyiterator.__iter__") (by kernel_rfl) (by first |rfl |decide +kernel |(unfold String.splitOn;simp +decide [String.splitOnAux])) (by decide +kernel) (by kernel_rfl)
def Qg(a:Value):argsOk "set_iterator.__iter__" ([a],[]):=by unfold argsOk;kernel_rfl
nonrec abbrev io(h:Heap)(I:Addr)(b:Value)(i:Nat)(a:Addr)(n ep:Nat):Prop:=
 h.get? I=aa {cls:=.type "set_iterator",dict:=ab,data:=.fields #[b,cm i,.ref a,cm n,cm ep],slots:=#[]}
variable{slot:Nat}{Q:Option Value->ah->Prop}
def G0{slot':Nat}{o:Obj}{v:Value}(b:io s.heap I (cm slot) i a n ep)(m:s.heap.get? a=aa o)(hd:o.data=.set a4 ep tb)(l:tb.fits a4.size=ac)(hn:a4.size=n)
 (h:∀(A':ca) (d:PRS) (R:Option (Value×Nat)->ah->Prop),R (aa (v,slot',)) s->wpAny (model P w) A' (setNext a slot i ep) R d s)
 (j:∀h',io h' I (cm slot') (i+1) a n ep->gb I s.heap h'->Q (aa v) {s with heap:=h'}):wpAny (model P w) A (hU (.ref I)) Q X4 s:=by
 have c:s.TypeIs (.ref I) "set_iterator":=(_,b,rfl);unfold hU;show ak (oJ (oF (name:=ua "__next__") c iO (jJ iO c u6 ?_ (u7 _))));change wpAny _ _ (fieldsOf (.ref I) >>= _) _ _ s;show ak (tX b rfl ?_);show ak (qM m hd l ?_);have e:(((a4.size:Nat):Int) != (n:Int))=af:=by rw[hn];simp
 rw[e,if_neg bM];change wpAny _ _ (setNext a ((slot:Nat):Int).toNat ((i:Nat):Int).toNat (S ((ep:Nat):Int)) >>= _) _ _ s;show ak (h _ _ _ ?_);show ak (oG b (by simp) λp f s1=>?_);show ak (oG f (by simp) λh2 g s2=>aE (v,rfl,aE (j h2 ?_ (gb.trans s1 s2))));change h2.get? I=_;rw[g];rfl
def G1{o:Obj}(l:A.handled=ab)(c:io s.heap I (cm slot) i a n ep)(p:s.heap.get? a=aa o)(hd:o.data=.set a4 ep tb)(j:tb.fits a4.size=ac)(hn:a4.size=n)
 (g:∀(A':ca) (e:PRS) (R:Option (Value×Nat)->ah->Prop),R ab s->wpAny (model P w) A' (setNext a slot i ep) R e s)
 (h:∀h',Heap.ExtBut I s.heap h'->Q ab {s with heap:=h'}):wpAny (model P w) A (hU (.ref I)) Q X4 s:=by
 have d:s.TypeIs (.ref I) "set_iterator":=(_,c,rfl);unfold hU;show ak (oJ (oF (name:=ua "__next__") d iO (jJ iO d u6 ?_ (u7 _))));change wpAny _ _ (fieldsOf (.ref I) >>= _) _ _ s;show ak (tX c rfl ?_);show ak (qM p hd j ?_);have f:(((a4.size:Nat):Int) != (n:Int))=af:=by rw[hn];simp
 rw[f,if_neg bM];simp only[cU,cU,cU];show ak (g _ _ _ ?_);show ak (oG c (by simp) λr q s1=>?_);change wpAny _ _ (newExc (.type "StopIteration") [] >>= _) _ _ _;show ak ?_;simp only[newExc,newTuple];show ak (i8 ?_ (by size_fits))
 show ak (m:=qQ _ _) (qR (a:=mM) (by first |rfl |(simp only[qQ];rfl)) ?_)
 show i8 ?_ (by size_fits);show ak (wpAny_handled ?_);rw[show A.in1.handled=ab from l];show ak (aE (wpAny_throw ?_));show ak (qP (T:="StopIteration") (b:=ac) (_,cM _ rfl,rfl) isSubtype_stop ?_);show aE (h _ ((s1.extBut.push _).push _))
variable{T:Addr}{pls:Array Value}
def Qh{pl:Nat}{o:Obj}{q:Int}{v:Value}(c:io s.heap I (.ref T) i a n ep)(f:s.heap.get? a=aa o)(hd:o.data=.set a4 ep tb)(e:tb.fits a4.size=ac)(hn:a4.size=n)
 (l:s.heap.get? T=aa {cls:=.type "tuple",data:=.seq pls})(p:pls[i]?=aa (cm pl))(m:a4[pl]?=aa (q,v,))
 (j:∀h',io h' I (.ref T) (i+1) a n ep->gb I s.heap h'->Q (aa v) {s with heap:=h'}):wpAny (model P w) A (hU (.ref I)) Q X4 s:=by
 have b:s.TypeIs (.ref I) "set_iterator":=(_,c,rfl);unfold hU;show ak (oJ (oF (name:=ua "__next__") b iO (jJ iO b u6 ?_ (u7 _))));change wpAny _ _ (fieldsOf (.ref I) >>= _) _ _ s;show ak (tX c rfl ?_);show ak (qM f hd e ?_);have g:(((a4.size:Nat):Int) != (n:Int))=af:=by rw[hn];simp
 rw[g,if_neg bM];change wpAny _ _ (seqItems? (.ref T) >>= _) _ _ s;show ak (tY l rfl ?_)
 change wpAny _ _ (match pls[S ((i:Nat):Int)]? with |some (.int place _)=>_ |some _=>_ |none=>_) _ _ s
 rw[cU,p];change wpAny _ _ (setNextDrawn a ((pl:Nat):Int).toNat (S ((ep:Nat):Int)) >>= _) _ _ s;simp only[cU,cU];show ak ?_;unfold setNextDrawn;show ak (oH f hd e ?_);dsimp only;rw[if_neg (by simp)];rw[m];show aE ?_;show ak (oG c (by simp) λd h s1=>aE (v,rfl,aE (j d ?_ s1)));change d.get? I=_;rw[h];rfl
def Qi{o:Obj}(l:A.handled=ab)(c:io s.heap I (.ref T) i a n ep)(p:s.heap.get? a=aa o)(hd:o.data=.set a4 ep tb)(j:tb.fits a4.size=ac)(hn:a4.size=n)
 (d:s.heap.get? T=aa {cls:=.type "tuple",data:=.seq pls})(q:pls[i]?=ab)
 (h:∀h',Heap.ExtBut I s.heap h'->Q ab {s with heap:=h'}):wpAny (model P w) A (hU (.ref I)) Q X4 s:=by
 have e:s.TypeIs (.ref I) "set_iterator":=(_,c,rfl);unfold hU;show ak (oJ (oF (name:=ua "__next__") e iO (jJ iO e u6 ?_ (u7 _))));change wpAny _ _ (fieldsOf (.ref I) >>= _) _ _ s;show ak (tX c rfl ?_);show ak (qM p hd j ?_);have f:(((a4.size:Nat):Int) != (n:Int))=af:=by rw[hn];simp
 rw[f,if_neg bM];change wpAny _ _ (seqItems? (.ref T) >>= _) _ _ s;show ak (tY d rfl ?_)
 change wpAny _ _ (match pls[S ((i:Nat):Int)]? with |some (.int place _)=>_ |some _=>_ |none=>_) _ _ s
 rw[cU,q];show ak (oG c (by simp) λv g r=>?_);show ak (oG g (by simp) λx u s1=>?_);change wpAny _ _ (newExc (.type "StopIteration") [] >>= _) _ _ _;show ak ?_;show ak (i8 ?_ (by size_fits))
 show ak (m:=qQ _ _) (qR (a:=mM) (by first |rfl |(simp only[qQ];rfl)) ?_)
 show i8 ?_ (by size_fits);show ak (wpAny_handled ?_);rw[show A.in1.handled=ab from l];show ak (aE (wpAny_throw ?_));show ak (qP (T:="StopIteration") (b:=ac) (_,cM _ rfl,rfl) isSubtype_stop ?_);show aE (h _ (((gb.trans r s1).extBut.push _).push _))
set_option maxRecDepth 100000
def Qj:mK table "set.__iter__"=aa eT.«frozenset.__iter__»:=
 entryFor_alias (id':="frozenset.__iter__") (by kernel_rfl) (by first |rfl |decide +kernel |(unfold String.splitOn;simp +decide [String.splitOnAux])) (by decide +kernel) (by kernel_rfl)
abbrev rO(pl:Array Nat):Nat->Nat
 | 0=>0
 |i+1=>pl.getD i 0+1
def G2{pl:Array Nat}(hi:i<pl.size):rO pl (i+1)=pl[i]+1:=by
 change pl.getD i 0+1=_;simp[qx,hi]
def G3{a b:Type}{f:a->Option b}{g:a->b}:∀(l:List a),(∀x∈l,f x=aa (g x))->l.filterMap f=l.map g
 | [],_=>rfl
 |x::l,h=>by simp only[qF,h x az,bE,G3 l λy c=>h y (bi _ c)]
def G4{pl:Array Nat}(h:Ris pl):∀i,i<=pl.size->cE pl (rO pl i)=i
 | 0,_=>P1 h
 |i+1,hi=>by
  rw[G2 (by lia)];show P0 h (by lia)
def u8{Q:Bool->ah->Prop}(h:Q (w.params.followText "set-order") s):wpAny (model P w) A setsByText Q X4 s:=by
 show ak (wpAny_askSetting (aE h))
def G5{o:Obj}{R:Option (Value×Nat)->ah->Prop}(c:s.heap.get? a=aa o)(hd:o.data=.set a4 ep tb)(b:tb.fits a4.size=ac)(d:w.params.followText "set-order"=ac)
 (h:R (((ja (w.params.setOrder a ep) a4)[i]?).map λe=>(e.2,slot,)) s):wpAny (model P w) A (setNext a slot i ep) R X4 s:=by
 show ak (oH c hd b ?_);show ak (u8 ?_);rw[d,if_pos rfl,if_neg (by simp)];show ak ?_;show ak (oH c hd b ?_);show ak (u8 ?_);rw[d,if_pos rfl];show ak (wpAny_askSetting (aE (aE h)))
def G6{o:Obj}{R:Option (Value×Nat)->ah->Prop}(d:s.heap.get? a=aa o)(hd:o.data=.set a4 ep tb)(c:tb.fits a4.size=ac)(e:w.params.followText "set-order"=af)(f:(!tb.plain && decide (a4.size>1))=af)(b:tb.led=ac)
 (h:R (match a4[cE tb.place slot]?,tb.place[cE tb.place slot]? with |some (_,x),aa j=>aa (x,j+1,) | _,_=>ab) s):wpAny (model P w) A (setNext a slot i ep) R X4 s:=by
 show ak (oH d hd c ?_);show ak (u8 ?_);rw[e,if_neg bM];change wpAny _ _ (if (!tb.plain && decide _)=ac then _ else _) _ _ s;rw[f,if_neg bM];change wpAny _ _ ((if _=ac then unsupported "set:maker-not-led" else pure ()) >>= _) _ _ s;rw[b,Bool.not_true,Bool.false_and,if_neg bM];show ak (aE (aE h))
def zh{b:Value}{Q:PRS}(d:io s.heap I b i a n ep)(h:Q (.ref I) s):wpAny (model P w) A (pyIter (.ref I)) Q X4 s:=by
 have c:s.TypeIs (.ref I) "set_iterator":=(_,d,rfl);show wpAny_pyIter_slot c GZ (jJ GZ c Qf (aE (_,rfl,"set_iterator",_,c,iO.lookup,h)) (Qg _))
def Qk{o:Obj}(hh:A.handled=ab)(ne:a≠I)(hd:o.data=.set a4 ep tb)(hf:tb.fits a4.size=ac)(hn:a4.size=n)(ht:w.params.followText "set-order"=ac):
  WalksS P w A I [I,a] [I] (λx y=>y=x) n (λi v=>((ja (w.params.setOrder a ep) a4).toList.map (·.2))[i]?=aa v) (λi s=>io s.heap I (cm ((0:Nat):Int)) i a n ep/\s.heap.get? a=aa o) where
 sub:=λb hb=>by simp at hb;simp[hb]
 grefl:=λ_=>rfl
 gtrans:=λ_ _ _ h1 h2=>h2.trans h1
 frame:=λi s h' tk st _ hk=>(hk I (by simp) _ st.1,hk a (by simp) _ st.2)
 item:=λi s Q X4 hi st hQ=>by
  have hz:(ja (w.params.setOrder a ep) a4).size=n:=by rw[<- i0,(zg _ _).length_eq,i0,hn]
  have hx:_[i]?=aa (ja (w.params.setOrder a ep) a4)[i]:=mf (by lia);show G0 st.1 st.2 hd hf hn (λA' E' R r=>G5 st.2 hd hf ht (by rw[hx];show r)) λh' g sb=>?_;show hQ _ _ (by rw[cu,qw,hx];rfl) (g,(sb.2 a ne).trans st.2) (λb o' hb e=>(sb.2 b (λh=>hb (by simp[h]))).trans e,rfl,rfl,rfl,aM _)
 done:=λs Q X4 st hQ=>by
  have hz:(ja (w.params.setOrder a ep) a4).size=n:=by rw[<- i0,(zg _ _).length_eq,i0,hn]
  have hx:(ja (w.params.setOrder a ep) a4)[n]?=ab:=Array.getElem?_eq_none (by lia);show G1 hh st.1 st.2 hd hf hn (λA' E' R r=>G5 st.2 hd hf ht (by rw[hx];show r)) λh' eb=>hQ _ (λb o' hb e=>eb b o' (λh=>hb (by simp[h])) e,rfl,rfl,rfl,aM _)
 self:=λi s Q X4 st hQ=>zh st.1 hQ
def Ql{o:Obj}(hh:A.handled=ab)(ne:a≠I)(hd:o.data=.set a4 ep tb)(hf:tb.fits a4.size=ac)(hn:a4.size=n)(ht:w.params.followText "set-order"=af)(hw:(!tb.plain && decide (a4.size>1))=af)(hled:tb.led=ac)(hr:Ris tb.place):
  WalksS P w A I [I,a] [I] (λx y=>y=x) n (λi v=>(a4.toList.map (·.2))[i]?=aa v) (λi s=>io s.heap I (cm ((rO tb.place i:Nat):Int)) i a n ep/\s.heap.get? a=aa o) where
 sub:=λb hb=>by simp at hb;simp[hb]
 grefl:=λ_=>rfl
 gtrans:=λ_ _ _ h1 h2=>h2.trans h1
 frame:=λi s h' tk st _ hk=>(hk I (by simp) _ st.1,hk a (by simp) _ st.2)
 item:=λi s Q X4 hi st hQ=>by
  have hz:tb.place.size=a4.size:=by simp only[dF.fits,b5,beq_iff_eq]at hf;show hf.1
  have hb:=G4 hr i (by lia);have hx:a4[i]?=aa a4[i]:=mf (by lia);have hp:tb.place[i]?=aa tb.place[i]:=mf (by lia);have es:rO tb.place _=tb.place[i]'(by lia)+1:=G2 (by lia);show G0 st.1 st.2 hd hf hn (slot':=rO tb.place _) (λA' E' R r=>G6 st.2 hd hf ht hw hled (by rw[hb,hx,hp];rw[es]at r;show r)) λh' g sb=>?_;show hQ _ _ (by rw[cu,qw,hx];rfl) (g,(sb.2 a ne).trans st.2) (λb o' hb e=>(sb.2 b (λh=>hb (by simp[h]))).trans e,rfl,rfl,rfl,aM _)
 done:=λs Q X4 st hQ=>by
  have hz:tb.place.size=a4.size:=by simp only[dF.fits,b5,beq_iff_eq]at hf;show hf.1
  have hb:=G4 hr n (by lia);have hx:a4[n]?=ab:=Array.getElem?_eq_none (by lia);show G1 hh st.1 st.2 hd hf hn (λA' E' R r=>G6 st.2 hd hf ht hw hled (by rw[hb,hx];show r)) λh' eb=>hQ _ (λb o' hb e=>eb b o' (λh=>hb (by simp[h])) e,rfl,rfl,rfl,aM _)
 self:=λi s Q X4 st hQ=>zh st.1 hQ
def Qm{o:Obj}(hh:A.handled=ab)(ne:a≠I)(nT:T≠I)(hd:o.data=.set a4 ep tb)(hf:tb.fits a4.size=ac)(hn:a4.size=n){ord:LN}(hp:ord.Perm (bu n)):
  WalksS P w A I [I,a,T] [I] (λx y=>y=x) n (λi v=>(ord.filterMap λj=>(a4[j]?).map (·.2))[i]?=aa v)
   (λi s=>io s.heap I (.ref T) i a n ep/\s.heap.get? a=aa o/\s.heap.get? T=aa {cls:=.type "tuple",data:=.seq (ord.map λ(j:Nat)=>cm j).toArray}) where
 sub:=λb hb=>by simp at hb;simp[hb]
 grefl:=λ_=>rfl
 gtrans:=λ_ _ _ h1 h2=>h2.trans h1
 frame:=λi s h' tk st _ hk=>(hk I (by simp) _ st.1,hk a (by simp) _ st.2.1,hk T (by simp) _ st.2.2)
 item:=λi s Q X4 hi st hQ=>by
  have hl:Z ord=n:=by rw[hp.length_eq,cC]
  have lt:∀j∈ord,j<a4.size:=λj hj=>by rw[hn];show d5.mp (hp.mem_iff.mp hj)
  have hj:ord[i]?=aa _:=b6 (by lia);have hlt:ord[i]'(by lia)<a4.size:=lt _ (g5 _);have hx:=mf hlt
  have em:(ord.filterMap λj=>(a4[j]?).map (·.2))=ord.map λj=>((a4[j]?).map (·.2)).getD .none:=by
   show G3 ord λj hj=>?_;have:a4[j]?=aa _:=mf (lt j hj);rw[this];rfl
  show Qh st.1 st.2.1 hd hf hn st.2.2 (by rw[List.getElem?_toArray,cu,hj];rfl) hx λh' g sb=>?_;show hQ _ _ ?_ (g,(sb.2 a ne).trans st.2.1,(sb.2 T nT).trans st.2.2) (λb o' hb e=>(sb.2 b (λh=>hb (by simp[h]))).trans e,rfl,rfl,rfl,aM _);rw[em,cu,hj];simp only[Option.map_some,hx];rfl
 done:=λs Q X4 st hQ=>by
  have hl:Z ord=n:=by rw[hp.length_eq,cC]
  show Qi hh st.1 st.2.1 hd hf hn st.2.2 (by rw[List.getElem?_toArray];show gy (by simp;lia)) λh' eb=>hQ _ (λb o' hb e=>eb b o' (λh=>hb (by simp[h])) e,rfl,rfl,rfl,aM _)
 self:=λi s Q X4 st hQ=>zh st.1 hQ
set_option maxRecDepth 100000
def G7{P:ce}{w:World}:∀(l:List (Int×Value)),ElemsOf (fN P w) l->∃ns:LI0,f7 (l.map (·.2)) ns/\∀k,(∃e∈l,(fN P w).is k e.2=ac)↔k∈ns
 | [],_=>([],.nil,λk=>by simp)
 |e::l,h=>by
  have(ns,d,h2):=G7 l h.tail;have((k,b,_),_):=h.head;have(t,c):=Value.isInt_shape b;show(k::ns,by rw[bE,c];show .cons k t d,λj=>?_);rw[bc,<- h2 j];constructor
  .rintro⟨x,a,q⟩
   rcases bc.mp a with rfl |a
   .show .inl ((fN P w).inj _ _ _ q b)
   .show .inr (x,a,q)
  .rintro(rfl |⟨x,a,q⟩)
   .show(e,az,b)
   .show(x,bi _ a,q)
def G8{a:Type}(E:List a):∀(n k:Nat),k+n=Z E->(List.range' k n).filterMap (λj=>E[j]?)=E.drop k
 | 0,k,h=>by rw[range'_zero,filterMap_nil,drop_of_length_le (by lia)]
 |n+1,k,h=>by
  rw[range'_succ,qF,b6 _,G8 E n _ (by lia),drop_eq_getElem_cons (show k<E.length by lia)]
def Qo{a:Type}(E:Array a):(bu E.size).filterMap (λj=>E[j]?)=E.toList:=by
 have:=G8 E.toList E.size 0 (by simp);rw[drop_zero]at this;rw[range_eq_range',<- this];simp
def Qp{S:Int->Bool}{Q:PRS}(q:dX P w s.heap a (eI w) S n)
 (H:∀ (I:Addr) (fp:LAd) (l:LVa) (ns:LI0) (St:Nat->ah->Prop) (h':Heap) (d':Drawn),(∀ A' : ca,A'.handled=ab->WalksS P w A' I fp [I] (λx y=>y=x) n (λi v=>l[i]?=aa v) St) ->
   St 0 {s with heap:=h',drawn:=d'}->(∀b o,s.heap.get? b=aa o->h'.get? b=aa o)->s.heap.objs.size<=I->I∈fp->(∀b∈fp,b<h'.objs.size/\(b=a\/s.heap.objs.size<=b))->f7 l ns->Z ns=n->(∀k,S k=ac↔k∈ns)->Q (.ref I) {s with heap:=h',drawn:=d'}):
  wpAny (model P w) A (pyIter (.ref a)) Q X4 s:=by
 have(o,a4,ep,tb,f,hex,hd,J,hm,Y,h,hn,hr,C):=q;have T:s.TypeIs (.ref a) "set":=(o,f,hex.1);have u:=bC f
 have fin:∀(vs:List _),vs.Perm a4.toList->∃ns,f7 _ ns/\Z ns=n/\∀k,S k=ac↔k∈ns:=λvs p=>by
  have(ns,N,h2):=G7 vs (J.perm p);show(ns,N,?_,λk=>?_)
  .rw[<- N.length,ay,p.length_eq,i0,hn]
  .grind
 show wpAny_pyIter_slot T F.slot_set_iter (jJ F.slot_set_iter T Qj ?_ (F.args_set_iter_1 _));change wpAny _ _ (eT.Frozenset.sizeOf a >>= _) _ _ s;show ak ?_;show ak (qM f hd h (aE ?_));show ak ?_;show ak (oH f hd h ?_);show ak (u8 (aE ?_));change wpAny _ _ (if (!w.params.followText "set-order" && (!tb.plain && decide _))=ac then _ else _) _ _ s
 cases M:w.params.followText "set-order" with
 |true=>
  show ak (aE (ak (wpAny_setEpoch_of f hd h ?_)));show ak (i8 ?_ (by size_fits));show aE ?_;have(ns,r,E,G):=fin _ (zg _ a4);have g:io _ s.heap.objs.size (cm (0:Int)) 0 a n ep:=cM _ rfl;rw[hn];show(_,rfl,"set_iterator",_,(_,g,rfl),iO.lookup,?_);show H s.heap.objs.size [s.heap.objs.size,a] _ ns _ _ s.drawn (λA' B=>Qk B (bW u) hd h hn M) (g,bF _ f) (λb o' e=>bF _ e) (aM _) (by simp) (λb c=>?_) r E G;rw[jc];simp only[bc,dD,or_false]at c
  rcases c with rfl |rfl
  .show(c8 _,.inr (aM _))
  .show(jI u,.inl rfl)
 |false=>
  have m:tb.led=ac:=by rw[C];unfold eI;rw[M];rfl
  cases U:(!tb.plain && decide (a4.size>1))with
  |false=>
   show ak (aE (ak (wpAny_setEpoch_of f hd h ?_)));show ak (i8 ?_ (by size_fits));show aE ?_;have(ns,r,E,G):=fin _ (tO _);have g:io (s.heap.push {cls:=.type "set_iterator",dict:=ab,data:=.fields #[cm ((0:Nat):Int),cm ((0:Nat):Int),.ref a,cm n,cm ep],slots:=#[]}) s.heap.objs.size (cm ((0:Nat):Int)) 0 a n ep:=cM _ rfl;rw[hn];show(_,rfl,"set_iterator",_,(_,g,rfl),iO.lookup,?_);show H s.heap.objs.size [s.heap.objs.size,a] _ ns _ _ s.drawn (λA' B=>Ql B (bW u) hd h hn M U m hr) (g,bF _ f) (λb o' e=>bF _ e) (aM _) (by simp) (λb c=>?_) r E G;rw[jc];simp only[bc,dD,or_false]at c
   rcases c with rfl |rfl
   .show(c8 _,.inr (aM _))
   .show(jI u,.inl rfl)
  |true=>
   show ak (GY _ _ (by rw[cC]) λord d p=>?_);rw[hn]at p;have L:Z ((ord.map λ(i:Nat)=>cm i))<=aT:=by rw[ay,p.length_eq,cC];show fits_of_scanBound (by lia)
   show ak (wpAny_newTuple ?_ L)
   show ak (wpAny_setEpoch_of (s:={s with heap:=s.heap.push {cls:=.type "tuple",data:=.seq (ord.map λ(i:Nat)=>cm i).toArray},drawn:=d}) (bF _ f) hd h ?_)
   show ak (i8 ?_ (by size_fits));show aE ?_
   have pv:(ord.filterMap λj=>a4[j]?).Perm a4.toList:=by
    have:=p.filterMap λj=>a4[j]?;rw[<- hn,Qo]at this;show this
   have(ns,r,E,G):=fin _ pv;rw[map_filterMap]at r
   have g:io ((s.heap.push {cls:=.type "tuple",data:=.seq (ord.map λ(i:Nat)=>cm i).toArray}).push {cls:=.type "set_iterator",dict:=ab,data:=.fields #[.ref s.heap.objs.size,cm ((0:Nat):Int),.ref a,cm n,cm ep],slots:=#[]})
     (s.heap.push {cls:=.type "tuple",data:=.seq (ord.map λ(i:Nat)=>cm i).toArray}).objs.size (.ref s.heap.objs.size) 0 a n ep:=cM _ rfl
   rw[hn];show(_,rfl,"set_iterator",_,(_,g,rfl),iO.lookup,?_);have z:(s.heap.push {cls:=.type "tuple",data:=.seq (ord.map λ(i:Nat)=>cm i).toArray}).objs.size=s.heap.objs.size+1:=jc ..;show H _ [(s.heap.push {cls:=.type "tuple",data:=.seq (ord.map λ(i:Nat)=>cm i).toArray}).objs.size,a,s.heap.objs.size] _ ns _ _ d (λA' B=>Qm B (by rw[z];show bW (jI u)) (by rw[z];show bW (c8 _)) hd h hn p) (g,bF _ (bF _ f),bF _ (cM _ rfl)) (λb o' e=>bF _ (bF _ e)) (by rw[z];show ka _) (by simp) (λb c=>?_) r E G;rw[jc];simp only[bc,dD,or_false]at c
   rcases c with rfl |rfl |rfl
   .show(c8 _,.inr (by rw[z];show ka _))
   .show(by rw[z];show jI (jI u),.inl rfl)
   .show(by rw[z];show jI (c8 _),.inr (aM _))
set_option maxRecDepth 100000
variable{c4:Array Value}
def Qq{a:LVa}(h:ItemsOf (λi v=>a[i]?=aa v) c4 n)(b:Z a=n):c4.toList=a:=by
 show mo λi=>?_
 by_cases hi:i<n
 .have e:c4[i]?=aa (c4[i]'(by rw[h.1];show hi)):=mf _;rw[qw,e];show(h.2 i _ e).symm
 .rw[gy (by rw[i0,h.1];lia),gy (by lia)]
def Qr:mH (.type "set") "__len__"=pure (aa (.builtin "set.__len__")):=by rw[kh,kf];kernel_rfl
def Qs{S:Int->Bool}{Q:LVa->ah->Prop}(hh:A.handled=ab)(q:dX P w s.heap a (eI w) S n)(hn:n<=aT)
 (hQ:∀(h':Heap) (d':Drawn) (M:Nat) (c:LVa) (ns:LI0),(∀b o,s.heap.get? b=aa o->h'.get? b=aa o)->s.heap.objs.size<=h'.objs.size->s.toks<=M->f7 c ns->Z ns=n->(∀k,S k=ac↔k∈ns)->Q c {s with heap:=h',drawn:=d',toks:=M}):
  wpAny (model P w) A (collect (.ref a)) Q X4 s:=by
 unfold collect;show ak (wpAny_runValue (kg PySem.F.entry_proto_collect ?_));rw[ca.under_plainId PySem.F.plain_proto_collect _];change wpAny _ A.in1 (newList [] >>= λl=>again (.builtin "list.__iadd__" ([l,.ref a],[]))) _ _ s;show ak (i8 ?_);show aE (mF PySem.F.plain_list_iadd _,kg PySem.F.entry_list_iadd ?_);simp only[ca.under_plainId PySem.F.plain_list_iadd _];change wpAny _ A.in1 (xp (.ref s.heap.objs.size) (.ref a) (.ref s.heap.objs.size)) _ _ _;dsimp only[xp];have(o,a4,ep,tb,u,hex,rest):=id q;have v:a<s.heap.objs.size:=bC u;have q1:dX P w (s.heap.push {cls:=.type "list",data:=.seq ([]:LVa).toArray}) a (eI w) S n:=q.stay λo e=>bF _ e
 have hT:t9 {s with heap:=s.heap.push {cls:=.type "list",data:=.seq ([]:LVa).toArray}} (.ref a) "set":=(o,bF _ u,hex.1)
 show ak (wpAny_typeOf hT ?_);have k1:t7 (.ref s.heap.objs.size) (.ref a)=af:=by simp[t7,ls v]
 have k2:(ki "set" == ki "list")=af:=by decide
 have k3:(ki "set" == ki "tuple")=af:=by decide
 simp only[k1,k2,k3,tI,Bool.false_eq_true,if_false];show ak (Qp q1 λI fp c ns St f g W y keep gI mI r H J i3=>?_)
 have d:t9 {s with heap:=f,drawn:=g} (.ref a) "set":=(o,keep _ _ (bF _ u),hex.1)
 have N:(s.heap.push {cls:=.type "list",data:=.seq ([]:LVa).toArray}).objs.size=s.heap.objs.size+1:=jc ..
 have L:s.heap.objs.size∉fp:=λhm=>by
  rcases(r _ hm).2 with e |e
  .show gB _ (by rw[<- e]at v;show v)
  .rw[N]at e;show Nat.not_succ_le_self _ e
 show ak (jL ?_);unfold EE;show ak (tV d Qr ?_);dsimp only;show ak (qP d sub_set_self ?_);show ak (wpAny_typeOf d (aE ?_))
 change wpAny _ A.in1 (rule "list.extend.makes-room" >>= λ_=>eT.List.listTouch (.ref s.heap.objs.size) >>= λ_ =>
  again (.builtin "list.extend.loop" ([.ref s.heap.objs.size,.ref I,.ref s.heap.objs.size],[]))) _ _ _
 show ak (lz ?_);have E:=keep _ _ (cM _ rfl);show ak ?_
 show ak (tW (s:={s with heap:=f,drawn:=g}) E rfl ?_)
 have G:=oM (hX (·.push mM)) E rfl
 show tW (s:={s with heap:=f.update s.heap.objs.size (hX (·.push mM)),drawn:=g}) G rfl ?_
 have g3:=oM (hX (·.pop)) G rfl
 have m:∀b o,b≠s.heap.objs.size->f.get? b=aa o->((f.update s.heap.objs.size (hX (·.push mM))).update s.heap.objs.size (hX (·.pop))).get? b=aa o:=
  λb o p e=>(oK _ _ (eQ p)).trans ((oK _ _ (eQ p)).trans e)
 have B:=W A.in1 (by simp[hh])
 show aE (mF PySem.F.plain_extend_loop _,codeAny_extend_loopS B hn _ L _ n 0 _ _ _ rfl (cj _)
  (B.frame 0 ({s with heap:=f,drawn:=g}:ah) _ s.toks y (aM _) λb p o e=>m b o (λh=>L (h▸p)) e) g3 (ItemsOf.nil _) λs' C c' hm i j=>?_)
 show ak (wpAny_load i (aE ?_));have lv:Z c=n:=by rw[H.length,J]
 rw[Qq j lv];have(h2,g',d',z,os'):=s';have U:=hm.gens;have T:d'=g:=hm.drawn;have Y:=hm.os;subst U T Y;show hQ h2 d' z c ns (λb o' e=>?_) (fD (bC i)) hm.toks H J i3;have x:=bC e;show hm.heap b o' ?_ (m b o' (bW x) (keep _ _ (bF _ e)));simp only[bc,dD,or_false,not_or];show(bW x,bW (fB x (cV (by rw[N];show ka _) gI)))
def Qt{S:Int->Bool}{Q:PRS}(y:A.handled=ab)(q:dX P w s.heap a (eI w) S n)(g:n<64)
 (x:∀ (p:Addr) (h':Heap) (d':Drawn) (d e:Nat) (out:Array Value) (ns:LI0),(∀ b o,s.heap.get? b=aa o->h'.get? b=aa o)->s.heap.objs.size<=p->s.toks<=d->h'.get? p=aa (seqObj "list" out e)->f7 out.toList ns->ns.Pairwise (·<=·)->Z ns=n->(∀ k,S k=ac↔k∈ns) ->
   Q (.ref p) {s with heap:=h',drawn:=d',toks:=d}):wpAny (model P w) A (call (.builtin "sorted") [.ref a]) Q X4 s:=by
 show Calls.call_function_entry kind_sorted plain_sorted entry_sorted (args_sorted1 _) ?_;show ak (aE ?_);show ak (Qs (by simp[y]) q (by rw[dE];lia) λm u d c ns keep grow htk h i z=>?_);show ak (wpAny_newList ?_ (by rw[h.length,i,dE];lia));have f:(m.push _).get? m.objs.size=aa (seqObj "list" c.toArray 0):=cM _ rfl;show ak (jL (jJ slot_list_sort (_,f,rfl) entry_list_sort (list_sort_tree f h (by rw[h.length,i];show g) λout j o1 o2 B=>(_,rfl,?_)) (args_list_sort _)));have(e,v):=sortedHeap_at f;show aE (_,rfl,x _ _ u d e out j (λb o l=>?_) grow htk v o1 B (by rw[o2.length_eq,i]) λk=>(z k).trans (o2.mem_iff).symm);have r:=bC (keep b o l);rw[sortedHeap_old (bW r) (by rw[jc];show jI r)];show bF _ (keep b o l)
abbrev kO(x:Int):LI0->LI0
 | []=>[x]
 |y::r=>if x<y then x::y::r else if x=y then y::r else y::kO x r
def cI(ns:LI0):LI0:=ns.foldr kO []
def zi(x k:Int):∀l:LI0,k∈kO x l↔k=x\/k∈l
 | []=>by simp[kO]
 |y::r=>by
  unfold kO;split
  .simp
  .split
   .grind
   .rw[bc,zi x k r,bc]
    grind
def G9(x:Int):∀l:LI0,l.Pairwise (· < ·)->(kO x l).Pairwise (· < ·)
 | [],_=>by simp[kO]
 |y::r,h=>by
  have(d,h2):=ml.mp h;dsimp only[kO];split
  .rename_i f;show ml.mpr (λk c=>?_,h)
   rcases bc.mp c with e |c
   .subst e;show f
   .show Int.lt_trans f (d k c)
  .split
   .show h
   .rename_i a b;show ml.mpr (λk c=>?_,G9 x r h2)
    rcases(zi x k r).mp c with e |c
    .subst e;lia
    .show d k c
def ip(k:Int):∀l:LI0,k∈cI l↔k∈l
 | []=>by rfl
 |x::l=>by
  change k∈kO x (cI l)↔_;rw[zi,ip k l,bc]
def kP:∀l:LI0,(cI l).Pairwise (· < ·)
 | []=>by simp[cI]
 |x::l=>G9 x _ (kP l)
def u9:∀(l m:LI0),l.Pairwise (· < ·)->m.Pairwise (· < ·)->(∀k,k∈l↔k∈m)->l=m
 | [],[],_,_,_=>rfl
 | [],y::m,_,_,h=>by have:=(h y).mpr az;simp at this
 |x::l,[],_,_,h=>by have:=(h x).mp az;simp at this
 |x::l,y::m,hl,hm,h=>by
  have(b,a):=ml.mp hl;have(m1,m2):=ml.mp hm
  have e:x=y:=by
   rcases bc.mp ((h x).mp az)with e |hx
   .lia
   .rcases bc.mp ((h y).mpr az)with e |hy
    .grind
    .grind
  subst e;rw[u9 l m a m2 λk=>?_]
  grind
def pL:∀(F X2:LI0),F.Nodup->(∀x∈F,x∈X2)->Z X2<=Z F->X2.Perm F
 | [],X2,_,_,h=>by
  grind
 |x::F,X2,hn,hs,h=>by
  have(d,b):=b8.mp hn;have a:=hs x az;show(perm_cons_erase a).trans (xi x (pL F _ b (λy c=>?_) ?_))
  .grind
  .grind
def va(val:Nat->Int):∀i,(eR val i).Nodup
 | 0=>by rw[firstMet_zero];grind
 |i+1=>by
  rw[firstMet_succ];unfold step_dedup;split
  .show va val i
  .rename_i h;show eO.mpr (va val i,by simp,λa ha b c e=>?_)
   grind
def Ha(ns:LI0)(k:Int):(eR (λi=>ns.getD i 0) (Z ns)).any (·==k)=ac↔k∈ns:=by
 rw[firstMet_any]
 have e:(bu (Z ns)).map (λi=>ns.getD i 0)=ns:=by
  show mo λi=>?_;rw[cu]
  by_cases hi:i<Z ns
  .rw[qB hi];simp[hi]
  .rw[gy (by rw[cC];lia),gy (by lia)];rfl
 rw[e,any_eq_true];show(λb=>by have(x,a,q):=b;have:=beq_iff_eq.mp q;show this▸a,λh=>(k,h,by simp))
variable{out:LI0}
def Qu(d:out.Pairwise (·<=·))(f:Z out=(eR (λi=>ns.getD i 0) (Z ns)).length)(hm:∀k,(eR (λi=>ns.getD i 0) (Z ns)).any (·==k)=ac↔k∈out):out=cI ns:=by
 have nd:=va (λi=>ns.getD i 0) (Z ns)
 have lt:out.Pairwise (· < ·):=by
  show List.Pairwise.imp₂ (λa b c h2=>(Int.lt_iff_le_and_ne.mpr (c,h2))) d ((pL _ out nd (λx e=>(hm x).mp (any_eq_true.mpr (x,e,by simp))) (by lia)).nodup_iff.mpr nd)
 show u9 _ _ lt (kP ns) λk=>by rw[<- hm k,Ha,ip]
def Qv(ns:LI0):Z (cI ns)=Z (eR (λi=>ns.getD i 0) ns.length):=by
 have m:∀x,x∈eR _ ns.length↔x∈cI ns:=λx=>by
  show Iff.trans ?_ (ip x ns).symm;show Iff.trans ?_ (Ha ns x);rw[any_eq_true];show(λh=>(x,h,by simp),λc=>by have(y,b,q):=c;have:=beq_iff_eq.mp q;show this▸b)
 rcases Nat.le_total (cI ns).length (Z (eR _ ns.length)) with h |h
 .show(pL _ _ (va _ ns.length) (λx a=>(m x).mp a) h).length_eq
 .show(pL _ _ ((kP ns).imp λh=>Int.ne_of_lt h) (λx a=>(m x).mpr a) h).length_eq.symm
def Inv.draws(I:Inv X U C H s)(d':Drawn):Inv X U C H {s with drawn:=d'}:=by
 show I.step (ch:=[]) (λb a=>by nomatch a) (λb o _ _ _ e _=>e) (λb o _ _ _ e _=>(o.slots,e)) (λ_ _ _ _ n=>n)
  (λb o _ e=>(o,e)) (λ_ _ e=>e) (λ_ _ _ e=>e) (λb ps e=>(#[],by rw[e];simp)) (λm hm=>hm) I.hok I.bare
def zj:∀{vs:LVa} {ns:LI0},f7 vs ns->aG (ns.map V.int) vs
 | _,_,.nil=>.nil
 | _,_,.cons n t h=>.cons (t,rfl) (zj h)
def zk:∀{ns:LI0} {vs:LVa},aG (ns.map V.int) vs->f7 vs ns
 | [],_,.nil=>.nil
 |n::ns,_,.cons (t,e) h=>by subst e;show .cons n t (zk h)
def tSS(K:aQ)(te:TE):TE:=λC H Q=>te C H λx H1=>∃l ns,x=.ref l/\SqL K H1 l (ns.map V.int)/\Z ns<4000/\Z (cI ns)<64/\∀p,H1 p=ab->Q (.ref p) (upd H1 p (.lst ((cI ns).map V.int)))
variable{c2:Pos}
def Qw(y:X.calm=ac)(j:Gl X "sorted")(n:X.mg "sorted"=ab)(m:Gl X "set")(r:X.mg "set"=ab)(T:PE X e te)
 (N:autoParam (aO [.Call (.Name "set" p2) [e] [] c2] X.env=(af,eval (.Call (.Name "set" p2) [e] [] c2) X.env,)::aO [] X.env) Zb)(h2:autoParam (aO [e] X.env=(af,eval e X.env,)::aO [] X.env) Zb)
 (v:autoParam ((cf pos (aO [] X.env)).any (·.1)=af) Zb)(d:autoParam ((cf c2 (aO [] X.env)).any (·.1)=af) Zb):
  PE X (.Call (.Name "sorted" p) [.Call (.Name "set" p2) [e] [] c2] [] pos) (tSS X.K te):=by
 intro U s C H Q I h;show i7 (hZ I j n boot_sorted ?_);show xm ?_ N v;show jb (i7 (hZ I m r boot_set ?_));show kc ?_ h2 d;simp only[h2];show jb (thn (T U s C H _ I h) λu s1 q_=>?_);have(x,H1,c,r1,l,ns,G,hq,hb,i,q):=q_;subst G;subst r1;show aE ?_;have(L,rr,pl,hz):=c.list hq;have A:=zk rr;have E:L.toArray.size=Z ns:=by rw[size_toArray,A.length]
 show Qd (c.ok.hd y) pl.isList (by simpa using A) (by rw[E];unfold lA;lia) λh' tk w keep htk=>?_;rw[E]at w;show aE ?_;have lt:s1.heap.objs.size<h'.objs.size:=by have(o,_,_,_,Y,_):=id w;show bC Y
 show Qt (c.ok.hd y) w (by rw[<- Qv];show i) λpp M f B ep out ns' a gp z J o1 o3 o4 o5=>?_;have en:=Qu o3 o4 o5;subst en;show(.ref pp,_,((c.laid (λb u g=>a _ _ (keep b u (bC g) g)) (cV (fD lt) gp) ?_).draws f),rfl,q pp (c.hok.fresh (cV (fD lt) gp)));show(by rw[ay,dE];lia,out.toList,ep,zj o1,by simpa using J)
abbrev iP:LD->Option (LI0)
 | []=>aa []
 |.int i::r=>(iP r).map (i::·)
 | _::_=>ab
def zl:∀{ds:LD} {ns:LI0},iP ds=aa ns->ds=ns.map D.int
 | [],_,h=>by cases h;rfl
 |.int i::r,ns,h=>by
  replace h:(iP r).map _=aa ns:=h
  cases e:iP r with
  |none=>rw[e]at h;cases h
  |some m=>rw[e]at h;cases h;rw[zl e];rfl
 |.non::_,_,h=>by cases h
 |.bl _::_,_,h=>by cases h
 |.str _::_,_,h=>by cases h
 |.lst _::_,_,h=>by cases h
 |.tup _::_,_,h=>by cases h
 |.kl _::_,_,h=>by cases h
 |.kt _::_,_,h=>by cases h
 |.dic _ _::_,_,h=>by cases h
 |.ins _ _ _::_,_,h=>by cases h
def zm:∀(ns:LI0),iP (ns.map D.int)=aa ns
 | []=>rfl
 |n::ns=>by change(iP _).map _=_;rw[zm ns];rfl
def zn{G:Gc}{H:Hp}:∀{ns:LI0} {vs:LVv},am G H (ns.map D.int) vs->vs=ns.map V.int
 | [],_,h=>h
 |n::ns,_,(v,r,e,h1,h2)=>by rw[e,show v=V.int n from h1,zn h2];rfl
def nB(f:MF1)(M:LS):OLD:=(f M).bind λd=>(lsD d).bind λds=>(iP ds).bind λns=>if Z ns<4000/\Z (cI ns)<64 then aa ((cI ns).map .int) else ab
def Qx(J:X.calm=ac)(m:Gl X "sorted")(u:X.mg "sorted"=ab)(n:Gl X "set")(w:X.mg "set"=ab)(ha:DE c X e f)
 (I:autoParam (aO [.Call (.Name "set" p2) [e] [] c2] X.env=(af,eval (.Call (.Name "set" p2) [e] [] c2) X.env,)::aO [] X.env) Zb)(h2:autoParam (aO [e] X.env=(af,eval e X.env,)::aO [] X.env) Zb)
 (z:autoParam ((cf pos (aO [] X.env)).any (·.1)=af) Zb)(b:autoParam ((cf c2 (aO [] X.env)).any (·.1)=af) Zb):DO c X (.Call (.Name "sorted" p) [.Call (.Name "set" p2) [e] [] c2] [] pos) (nB f):=
 PE.imp (Qw J m u n w ha I h2 z b) λC H Q L=>by
  have(Hf0,H0,Hf,M,ds,st,a,k):=L;unfold nB at a
  cases g:f M with
  |none=>rw[g]at a;nomatch a
  |some d=>
   rw[g]at a
   cases i:lsD d with
   |none=>rw[aA,i]at a;nomatch a
   |some E=>
    rw[aA,i]at a
    cases j:iP E with
    |none=>rw[aA,j]at a;nomatch a
    |some ns=>
     rw[aA,j,aA]at a;split at a
     .rename_i A;cases a;show(Hf0,H0,Hf,M,d,st,g,λv Hf' H' x r=>?_);have(l,vs,el,q,B):=kB i r;rw[zl j]at B;have G:=zn B;subst G el;show(l,ns,rfl,x.s.seq q,A.1,A.2,λpp y=>k pp _ Hf' _ (x.trans (Ext.tmp x.s y)) (x.h.free y) (x.s.free y) bd (am.ints _))
     .grind
def kS(f g:MF1)(M:LS):OLD:=(f M).bind λx=>(g M).bind λy=>match x,y with
 |.lst a,.lst b=>if Z a+Z b<=16777216 then aa (a++b) else ab
 | _,_=>ab
def Qy(h:kS f g M=aa ds):∃a b,f M=aa (.lst a)/\g M=aa (.lst b)/\Z a+Z b<=16777216/\ds=a++b:=by
 unfold kS at h
 cases c:f M with
 |none=>rw[c]at h;nomatch h
 |some x=>
  cases d:g M with
  |none=>rw[c,d]at h;nomatch h
  |some y=>
   rw[c,d,aA,aA]at h;split at h
   .split at h
    .rename_i a b e;cases h;show(a,b,rfl,rfl,e,rfl)
    .nomatch h
   .nomatch h
def Hb{a:Expr}(ha:DE c X a f)(r:DE c X b g):DO c X (.BinOp a .Add b pos) (kS f g):=PE.imp (EY Fw ha r) λC H Q A=>by
 have(Hf0,H0,Hf,M,ds,st,q,k):=A;have(E,ys,j,n,w,rfl):=Qy q;show(Hf0,H0,Hf,M,_,st,j,λv b3 H1 i B=>(Hf0,H0,b3,M,_,st.step i,n,λu bm H2 d G=>?_));have(l,vs,el,y,s1):=B.up d.f;have(m,us,em,z,s2):=G;subst el em;have x:=i.trans d;show(l,m,vs,us,rfl,rfl,d.s _ _ y,d.s _ _ z,by rw[dE,<- s1.length,<- s2.length];show w,λp e=>k p _ bm _ (x.trans (Ext.tmp x.s e)) (x.h.free e) (x.s.free e) bd (s1.append s2))
def wp(F:MF3)(M:LS)(K:Fl->Prop):Prop:=∃o,F M=aa o/\K o
abbrev Hc(F:MF3)(K:Fl->Prop):Fl->Prop
 |.nx M=>wp F M K
 |o=>K o
abbrev zo(J:LS->Prop)(K:Fl->Prop):Fl->Prop
 |.nx M=>J M
 |.ct M=>J M
 |.bk M=>K (.nx M)
 |o=>K o
def vb(Q:D->Prop)(o:Fl):Prop:=∃d,Gz o=aa d/\Q d
variable{K:Fl->Prop}
def Qz{F:MF3}{a:Fl->Prop}(h:wp F M K)(b:∀o,K o->a o):wp F M a:=by
 have(o,e,k):=h;show(o,e,b o k)
def aj{F F':MF3}(h:wp F M (Hc F' K)):wp (ai F F') M K:=by
 have(o,e,k):=h;unfold wp ai;rw[e]
 cases o with
 |nx ρ'=>show k
 | _=>show(_,rfl,k)
def bK(h:K (.nx M)):wp bB M K:=(_,rfl,h)
def bn(h:f M=aa d)(k:K (.nx (M.set i (.im d)))):wp (a8 i f) M K:=(_,GD h,k)
def dY{f:MF2}{d:LD}(h:f M=aa d)(k:K (.nx (M.set i (.own d)))):wp (cZ i f) M K:=(_,Pe h,k)
def dG(h:f M=aa d)(k:K (.rt d)):wp (aW f) M K:=(_,cR h,k)
def iQ{f:MF2}{d:LD}(h:f M=aa d)(k:K (.rtO d)):wp (cr f) M K:=(_,by unfold cr;rw[h];rfl,k)
def He{F:MF3}{o:Fl}(h:F M=aa o)(k:K o):wp F M K:=(_,h,k)
variable{b:Bool}
def aR{t:MF4}{F F':MF3}(h:t M=aa b)(c:b=ac->wp F M K)(a:b=af->wp F' M K):wp (aZ t F F') M K:=by
 unfold wp aZ;rw[h]
 cases b with
 |true=>show c rfl
 |false=>show a rfl
def nC{F:MF3}(e:yR i M=ρ')(h:wp F ρ' K):wp (fG i F) M K:=by
 subst e;show h
variable{E:LD}
def fV(h:f M=aa d)(h':M[i]?=aa (.own E))(a:Z E<16777216)(k:K (.nx (M.set i (.own (E++[d]))))):wp (dq i f) M K:=(_,Pu h h' a,k)
def lR{k:Int}(hv:fv M=aa d)(c:fk M=aa (.int k))(h':M[i]?=aa (.own E))(a:0<=k)(b:k<Z E):gj i fk fv M=aa (.nx (M.set i (.own (E.set k.toNat d)))):=by
 have e:ixN E.length k=aa (S k):=by
  unfold ixN;rw[if_pos a,if_pos b]
 unfold gj;simp only[hv,aA,c,aA,h'];change(ixN E.length k).map _=_;rw[e];rfl
def pM{k:Int}(hv:fv M=aa d)(c:fk M=aa (.int k))(h':M[i]?=aa (.own E))(a:0<=k)(b:k<Z E)(q:K (.nx (M.set i (.own (E.set k.toNat d))))):wp (gj i fk fv) M K:=(_,lR hv c h' a b,q)
def Hg{i:Type}{g:D->LS->Option LS}{F:MF3}{K:Fl->Prop}(f:i->D)(I:List i->LS->Prop):∀(post pre:List i) (M:LS),I pre M ->
  (∀b x e M,pre++post=b++x::e->I b M->∃ρ1,g (f x) M=aa ρ1/\wp F ρ1 (zo (I (b++[x])) K))->(∀ρ',I (pre++post) ρ'->K (.nx ρ'))->wp (iJ g F (post.map f)) M K
 | [],pre,M,h,_,hk=>(_,rfl,hk M (by rw[bO];show h))
 |x::post,pre,M,h,hs,hk=>by
  have(ρ1,j,o,l,c):=hs pre x post M rfl h;unfold wp;rw[bE];dsimp only[iJ];simp only[j,aA,l,aA]
  have go:=λa h2=>
   Hg f I post (pre++[x]) a h2 (by rw[cK];show hs) (by rw[cK];show hk)
  cases o with
  |nx a=>show go a c
  |ct a=>show go a c
  |bk a=>show(_,rfl,c)
  |rt d=>show(_,rfl,c)
  |rtO d=>show(_,rfl,c)
  |rtS d a=>show(_,rfl,c)
  |rtT o=>show(_,rfl,c)
def dC{a:Type}{g:D->LS->Option LS}{F:MF3}(E:List a)(f:a->D)(I:List a->LS->Prop)(hi:fi M=aa (E.map f))(b:I [] M)
 (d:∀pre x post M,E=pre++x::post->I pre M->∃ρ1,g (f x) M=aa ρ1/\wp F ρ1 (zo (I (pre++[x])) K))(c:∀ρ',I E ρ'->K (.nx ρ')):wp (bS fi g F) M K:=by
 have(o,e,k):=Hg f I E [] M b d c;show(o,?_,k);unfold bS;rw[hi];show e
def pN{t:MF4}{F:MF3}{K:Fl->Prop}(I:Nat->LS->Prop)(g:∀m M,I m M->∃b,t M=aa b/\(b=ac->wp F M (zo (λρ'=>∃f,f<m/\I f ρ') K))/\(b=af->K (.nx M))):
  ∀(n m:Nat) (M:LS),I m M->m<n->wp (dk t F n) M K
 | 0,m,M,_,h=>absurd h (g9 _)
 |n+1,m,M,h,hn=>by
  have(b,e,l,j):=g m M h;unfold wp;dsimp only[dk];simp only[e,aA]
  cases b with
  |false=>show(_,rfl,j rfl)
  |true=>
   have(o,i,c):=l rfl;rw[i,aA]
   have go:∀a,(∃f,f<m/\I f a)->wp _ a K:=λa q=>by
    have(f,hm,h2):=q;show pN I g n f a h2 (by lia)
   cases o with
   |nx a=>show go a c
   |ct a=>show go a c
   |bk a=>show(_,rfl,c)
   |rt d=>show(_,rfl,c)
   |rtO d=>show(_,rfl,c)
   |rtS d a=>show(_,rfl,c)
   |rtT o=>show(_,rfl,c)
variable{Q:D->Prop}
def lS{F:MF3}(h:wp F (eZ n ds) (vb Q)):∃d,aK n F ds=aa d/\Q d:=by
 have(o,e,d,e',q):=h;show(d,?_,q);unfold aK;rw[e];show e'
def gN{F:MF3}{r:D}(h:wp F (eZ n ds) (vb λd=>d=r)):aK n F ds=aa r:=by
 have(d,e,q):=lS h;rw[e,q]
def dH(h:Q d):vb Q (.rt d):=(d,rfl,h)
def iR{d:LD}(h:Q (.lst d)):vb Q (.rtO d):=(.lst d,rfl,h)
def lT{t:MF4}{r:OD}(h:t M=aa b)(c:b=ac->f M=r)(a:b=af->g M=r):vIf t f g M=r:=by
 unfold vIf
 grind
def Hh{f:MF2}(h:f M=aa ds)(h':m ds=aa d)(a:d.scalar=ac):nr m f M=aa d:=by
 unfold nr;rw[h,aA,h',aA,if_pos a]
variable{i j:Int}
def cz(h:0<j):bY (.int i) (.int j)=aa (.int (i % j)):=pH h
def kU(h:qT i j):jT (.int i) (.int j)=aa (.int (i / j)):=pH h
def QA(h:mT i j):Og (.int i) (.int j)=aa (.int (i*j)):=pH h
def vc(h:ku i j):rj (.int i) (.int j)=aa (.int (i ^ S j)):=pH h
def Hi(h:0<=j):rm (.int i) (.int j)=aa (.int (i / 2 ^ S j)):=pH h
def gm:eC (.int i) (.int j)=aa (.int (i+j)):=rfl
def jX:jn (.int i) (.int j)=aa (.int (i-j)):=rfl
def Hj:rn (.int i) (.int j)=aa (.int (tZ i j)):=rfl
def rP:dLt (.int i) (.int j)=aa (.bl (decide (i<j))):=rfl
def QB:dLe (.int i) (.int j)=aa (.bl (decide (i<=j))):=rfl
def kX:dGt (.int i) (.int j)=aa (.bl (decide (j<i))):=rfl
def Hk:dGe (.int i) (.int j)=aa (.bl (decide (j<=i))):=rfl
def fW{a:Type}(E:List a)(f:a->D):cQ [.lst (E.map f)]=aa (.int (Z E)):=by
 change aa _=_;rw[ay]
def Hl{a:Type}(E:List a)(f:a->D):cQ [.kl (E.map f)]=aa (.int (Z E)):=by
 change aa _=_;rw[ay]
def Hm{a:Type}(f:a->D)(E:List a)(lo hi:Option Int):rq (E.map f) lo hi=((E.drop (HT.sIx E.length 0 lo)).take (HT.sIx E.length E.length hi-HT.sIx E.length 0 lo)).map f:=by
 unfold rq
 simp_all
variable{lo hi:Option Int}
def rQ{a:Type}{l h:LS->Option (Option Int)}{g:a->D}{E:List a}(e:f M=aa (.lst (E.map g)))(b:l M=aa lo)(c:h M=aa hi):mSl f l h M=aa (((E.drop (HT.sIx E.length 0 lo)).take (HT.sIx E.length E.length hi-HT.sIx E.length 0 lo)).map g):=by
 unfold mSl;rw[e,aA];change(l M).bind _=_;rw[b,aA,c,<- Hm];rfl
def Ho{a:Type}{l h:LS->Option (Option Int)}{g:a->D}{E:List a}(e:f M=aa (.kl (E.map g)))(b:l M=aa lo)(c:h M=aa hi):mSl f l h M=aa (((E.drop (HT.sIx E.length 0 lo)).take (HT.sIx E.length E.length hi-HT.sIx E.length 0 lo)).map g):=by
 unfold mSl;rw[e,aA];change(l M).bind _=_;rw[b,aA,c,<- Hm];rfl
def QC{a:Type}(E:List a)(f:a->D):dEq (.lst (E.map f)) (.lst [])=aa (.bl E.isEmpty):=by cases E <;> rfl
def QD{a:Type}(E:List a)(f:a->D):dNe (.lst (E.map f)) (.lst [])=aa (.bl (!E.isEmpty)):=by cases E <;> rfl
def QE{a:Type}(f:a->Bool)(E:List a):(E.map λx=>D.bl (f x))=(E.map f).map D.bl:=by
 rw[map_map];rfl
def kJ(J:LS->Prop)(o:Fl):Prop:=∃ρ',o=.nx ρ'/\J ρ'
def k_J{J:LS->Prop}(h:J M):kJ J (.nx M):=(M,rfl,h)
def Hq{S F:MF3}(J:LS->Prop)(h:wp S M (kJ J))(k:∀ρ',J ρ'->wp F ρ' K):wp (ai S F) M K:=by
 apply aj;have(o,e,ρ',rfl,j):=h;show(_,e,k ρ' j)
def QF{i:Nat}(h:M[i]?=aa (.im d))(k:K (.rt d)):wp (eD i) M K:=(_,by unfold eD;rw[h],k)
def lU{i:Nat}{d:LD}(h:M[i]?=aa (.own d))(k:K (.rtO d)):wp (eD i) M K:=(_,by unfold eD;rw[h],k)
abbrev D.flat:D->Bool
 |.tup E=>E.all D.scalar
 |d=>d.scalar
def lV(Hf H:Hp):Hp:=λa=>match H a with
 |some (.tup vs)=>aa (.tup vs)
 | _=>Hf a
def zp(h:H a=aa (.tup vs)):lV Hf H a=aa (.tup vs):=by
 unfold lV;rw[h]
def pO(h:∀vs,H a≠aa (.tup vs)):lV Hf H a=Hf a:=by
 unfold lV
 grind
def zq(s:aq Hf H)(g:aq H H'):Ext Hf H (lV Hf H') H':=by
 show(λb u e=>?_,g,λb u e=>?_,λl o e t=>pO λvs q=>?_)
 .have e':=g b u (s b u e)
  cases u with
  |tup vs=>show zp e'
  | _=>
   rw[pO (λvs q=>by rw[e']at q;nomatch q)];show e
 .by_cases h:∃vs,H' b=aa (.tup vs)
  .have(vs,h):=h;rw[zp h]at e;rw[h];show e
  .rw[pO (λvs q=>h (vs,q))]at e;show g b u (s b u e)
 .rw[g l o e]at q;cases q
  nomatch t
def am.sc{G:Gc}{H H':Hp}:∀{ds:LD} {vs:LVv},ds.all D.scalar=ac->am G H ds vs->am G H' ds vs
 | [],_,_,h=>h
 |d::ds,_,hs,q3_=>by
  have(v,r,e,a,h2):=q3_;rw[mr,b5]at hs;show(v,r,e,a.sc hs.1,am.sc hs.2 h2)
variable{G:Gc}
def Rep.flat(b:d.flat=ac)(r:Rep G H d v):Rep G (lV Hf H) d v:=by
 cases d with
 |tup E=>
  have(a,vs,e,h,q):=r
  show(a,vs,e,zp h,q.sc b)
 |non=>show r.sc b
 |bl _=>show r.sc b
 |int _=>show r.sc b
 |str _=>show r.sc b
 |lst _=>nomatch b
 |kl _=>nomatch b
 |kt _=>nomatch b
 |dic _ _=>nomatch b
 |ins _ _ _=>nomatch b
 |kd _ _=>nomatch b
 |dT _ _=>nomatch b
variable{f:Addr}
def Hr{k:Nat}(pk:Pk X.prog X.w X.K X.mg X.base CX0 k x (f,fd,) ps (spD (Gx c X) ps.length m))(l:bA k0 X.A)(ha:DAB c X (e::es) fa)(E:autoParam (Z (e::es)=Z ps) Zb)(a:autoParam (NDb x) Zc)(z:autoParam (StE X e es) Zb)(j:autoParam (BkE X pos es) Zb)(i:autoParam (k<=k0) Zc)(B:autoParam (Gl X x) Zi):
  DB c X (.Call (.Name x p) (e::es) [] pos) (aw m fa):=PE.imp (oT pk.ok (l.mono i) B pk.g pk.kp pk.b .nil gf ha.pa a z j) λC H Q I=>by
 have(Hf0,H0,Hf,M,d,st,y,G):=I;have(ds,n,u):=yH y;show(Hf0,H0,Hf,M,ds,st,n,λvs Hf' H' x r=>?_);rw[bO];show(H',ds,d,aq.refl _,r,(ha.len M ds n).trans E,u,λv bm H2 q J=>G v Hf' H2 (x.trans (Ext.grow x.s q.h)) (J.up q.s))
def pP(m:LD->OLD)(f:MF2)(M:LS):OLD:=(f M).bind λds=>(m ds).bind λB=>if B.all D.flat then aa B else ab
def am.flat{G:Gc}{Hf H:Hp}:∀{ds:LD} {vs:LVv},ds.all D.flat=ac->am G H ds vs->am G (lV Hf H) ds vs
 | [],_,_,h=>h
 |d::ds,_,hs,q3_=>by
  have(v,r,e,a,h2):=q3_;rw[mr,b5]at hs;show(v,r,e,a.flat hs.1,am.flat hs.2 h2)
def QG{k:Nat}{m:LD->OLD}(pk:Pk X.prog X.w X.K X.mg X.base CX0 k x (f,fd,) ps (spO (Gx c X) ps.length m))(y:bA k0 X.A)(ha:DAB c X (e::es) fa)(I:autoParam (Z (e::es)=Z ps) Zb)(n:autoParam (NDb x) Zc)(E:autoParam (StE X e es) Zb)(v:autoParam (BkE X pos es) Zb)(u:autoParam (k<=k0) Zc)(G:autoParam (Gl X x) Zi):
  DO c X (.Call (.Name x p) (e::es) [] pos) (pP m fa):=PE.imp (oT pk.ok (y.mono u) G pk.g pk.kp pk.b .nil gf ha.pa n E v) λC H Q N=>by
 have(Hf0,H0,Hf,M,B,st,a,L):=N;unfold pP at a
 cases i:fa M with
 |none=>rw[i]at a;nomatch a
 |some ds=>
  rw[i,aA]at a
  cases j:m ds with
  |none=>rw[j]at a;nomatch a
  |some U=>
   rw[j,aA]at a;split at a
   .rename_i J;cases a;show(Hf0,H0,Hf,M,ds,st,i,λvs Hf' H' x r=>?_);rw[bO];show(H',ds,_,aq.refl _,r,(ha.len M ds i).trans I,j,λl us bm H2 z hn Y d T=>L l us _ H2 (x.trans (zq x.s z.h)) (x.h.free hn) (by rw[pO (λvs q=>by rw[d]at q;nomatch q)];show x.s.free hn) d ((T.up z.s).flat J))
   .nomatch a
def vd{m:LD->OLD}{f:MF2}(h:f M=aa ds)(h':m ds=aa B):kK m f M=aa B:=by
 unfold kK;rw[h,aA,h']
def nE{F:MF3}(h:F (eZ n ds)=aa (.rtO B)):jt n F ds=aa B:=by
 unfold jt;rw[h];rfl
def nF(ns:LI0):LI0:=ns.mergeSort λa b=>decide (a<=b)
def tSL(K:aQ)(te:TE):TE:=λC H Q=>te C H λx H1=>∃l ns,x=.ref l/\SqL K H1 l (ns.map V.int)/\Z ns<64/\∀p,H1 p=ab->Q (.ref p) (upd H1 p (.lst ((nF ns).map V.int)))
def zt(ns:LI0):(nF ns).Perm ns:=mergeSort_perm _ _
def Hs(ns:LI0):(nF ns).Pairwise (·<=·):=(pairwise_mergeSort (λa b c=>by simp only[decide_eq_true_iff];lia) (λa b=>by simp only[j8,decide_eq_true_iff];lia) ns).imp of_decide_eq_true
def QH(p:out.Perm ns)(c:out.Pairwise (·<=·)):out=nF ns:=List.Perm.eq_of_pairwise (λa b _ _=>Int.le_antisymm) c (Hs ns) (p.trans (zt ns).symm)
def QI(nd:ns.Nodup):nF ns=cI ns:=u9 _ _ (List.Pairwise.imp₂ (λa b c h2=>(Int.lt_iff_le_and_ne.mpr (c,h2))) (Hs ns) ((zt ns).nodup_iff.mpr nd)) (kP _) λk=>by rw[ip];show(zt ns).mem_iff
def QJ(d:Gl X "sorted")(f:X.mg "sorted"=ab)(v:PE X e te)(j:autoParam (aO [e] X.env=(af,eval e X.env,)::aO [] X.env) Zb)(i:autoParam ((cf pos (aO [] X.env)).any (·.1)=af) Zb):
  PE X (.Call (.Name "sorted" p) [e] [] pos) (tSL X.K te):=by
 intro U s C H Q I h;show i7 (hZ I d f boot_sorted ?_);show xm ?_ j i;rw[j];show jb (thn (v U s C H _ I h) λu s1 A=>?_);have(x,H1,a,B,l,ns,n,w,c,q):=A;subst n;subst B;show aE ?_;have(L,E,pl,hz):=a.list w;have m:=zk E;show sorted_ints pl.isList m (by rw[m.length];show c) λout y o1 o2 z=>?_;have(ep,r):=sortedAll_at s1.heap L out;have en:=QH o2 z;subst en;have G:=o2.length_eq;show(.ref _,_,(a.laid (o:=.lst _) (λb u g=>sortedAll_old g) (ka _) (by rw[ay,dE];lia,out.toList,ep,zj o1,by simpa using r)),rfl,q _ (a.hok.fresh (ka _)))
def kZ(f:MF1)(M:LS):OLD:=(f M).bind λd=>(lsD d).bind λds=>(iP ds).bind λns=>if Z ns<64 then aa ((nF ns).map .int) else ab
variable{f:MF1}
def Ht(w:X.calm=ac)(j:Gl X "sorted")(m:X.mg "sorted"=ab)(ha:DE c X e f)
 (z:autoParam (aO [e] X.env=(af,eval e X.env,)::aO [] X.env) Zb)(u:autoParam ((cf pos (aO [] X.env)).any (·.1)=af) Zb):DO c X (.Call (.Name "sorted" p) [e] [] pos) (kZ f):=
 PE.imp (QJ j m ha z u) λC H Q G=>by
  have(Hf0,H0,Hf,M,ds,st,a,k):=G;unfold kZ at a
  cases b:f M with
  |none=>rw[b]at a;nomatch a
  |some d=>
   rw[b]at a
   cases g:lsD d with
   |none=>rw[aA,g]at a;nomatch a
   |some E=>
    rw[aA,g]at a
    cases i:iP E with
    |none=>rw[aA,i]at a;nomatch a
    |some ns=>
     rw[aA,i,aA]at a;split at a
     .rename_i A;cases a;show(Hf0,H0,Hf,M,d,st,b,λv Hf' H' x r=>?_);have(l,vs,el,q,B):=kB g r;rw[zl i]at B;have y:=zn B;subst y el;show(l,ns,rfl,x.s.seq q,A,λpp n=>k pp _ Hf' _ (x.trans (Ext.tmp x.s n)) (x.h.free n) (x.s.free n) bd (am.ints _))
     .grind
def QK(h:f M=aa (.lst (ns.map D.int)))(a:Z ns<64):kZ f M=aa ((nF ns).map D.int):=by
 unfold kZ;rw[h,aA];change(iP _).bind _=_;rw[zm,aA,if_pos a]
def Hu(h:f M=aa (.lst (ns.map D.int)))(a:Z ns<64)(h2:ns.Nodup):kZ f M=aa ((cI ns).map D.int):=by rw[QK h a,QI h2]
def Hv{k:Int}(h:k.natAbs<2 ^ n):t4 k<=n:=by
 unfold t4;split
 .show cj _
 .rename_i a;have:k.natAbs≠0:=λz=>a (by rw[Int.natAbs_eq_zero.mp z];rfl);show(Nat.log2_lt this).mpr h
def nG(i j:Int):Prop:=mT i j\/(i.natAbs<2 ^ 200/\j.natAbs<2 ^ 200)
def nG.ok(h:nG i j):IntMulOk i j:=by
 rcases h with h |⟨h1,h2⟩
 .show h.ok
 .have a:=Hv h1;have b:=Hv h2;unfold IntMulOk
  have:eT.Int.intTooBig (t4 i+t4 j)=af:=by
   have c:400<=bitsLine:=by decide
   show decide_eq_false (by lia)
  rw[this,tH];show bM
noncomputable instance {i j:Int}:Decidable (nG i j):=by unfold nG;infer_instance
nonrec def lW:D->D->OD:=dI nG λi j=>.int (i*j)
def QL:OpR X (dO .Mult) (rI nG λi j=>.int (i*j)):=opI λ_ _ _ _ _ _ _ a q=>mul_int q a.ok
def QM:OpD c X (dO .Mult) lW:=o9 QL λ_ _ _ _=>rfl
def pQ(h:nG i j):lW (.int i) (.int j)=aa (.int (i*j)):=pH h
set_option maxRecDepth 100000
def rR:Slot "list_reverseiterator" "__next__" "list_reverseiterator.__next__":=Slot.of (n:="__next__") (owner:="list_reverseiterator")
 (by rw[kh,kf];kernel_rfl) (by decide +kernel) (by decide +kernel) (by decide +kernel) (by first |show b9 (by decide +kernel) |grind) (by rw[mE];kernel_rfl)
def Hw:Slot "list_reverseiterator" "__iter__" "list_reverseiterator.__iter__":=Slot.of (n:="__iter__") (owner:="list_reverseiterator")
 (by rw[kh,kf];kernel_rfl) (by decide +kernel) (by decide +kernel) (by decide +kernel) (by first |show b9 (by decide +kernel) |grind) (by rw[mE];kernel_rfl)
def Hx:mK table "list_reverseiterator.__next__"=aa eT.«list_reverseiterator.__next__»:=by show entryFor_of_fast (by kernel_rfl)
def QN:mK table "list_reverseiterator.__iter__"=aa eT.«dict_keyiterator.__iter__»:=by show entryFor_alias (id':="dict_keyiterator.__iter__") (by kernel_rfl) rfl (by decide +kernel) (by kernel_rfl)
def Hy(v:Value):argsOk "list_reverseiterator.__next__" ([v],[]):=by(unfold argsOk;kernel_rfl)
def QO(v:Value):argsOk "list_reverseiterator.__iter__" ([v],[]):=by(unfold argsOk;kernel_rfl)
def fX(h:Heap)(it l:Addr)(j:Int):Prop:=∃o,h.get? it=aa o/\o.cls=.type "list_reverseiterator" /\ o.data=.fields #[.ref l,cm j]
def fX.ty(h:fX s.heap it l j):s.TypeIs (.ref it) "list_reverseiterator":=by
 have(o,e,c,_):=h;show(o,e,c)
def ve{Q:PRS}(hr:fX s.heap it l j)(h:Q (.ref it) s):wpAny (model P w) A (pyIter (.ref it)) Q X4 s:=by
 show wpAny_pyIter_slot hr.ty Hw (jJ Hw hr.ty QN (aE (eU it,rfl,"list_reverseiterator",_,hr.ty,rR.lookup,h)) (QO _))
variable{L:Array Value}
def Hz{j:Nat}{x:Value}{Q:Option Value->ah->Prop}(hr:fX s.heap it l j)(e:s.heap.IsList l L)(f:L[j]?=aa x)
 (c:∀h',fX h' it l ((j:Int)-1)->gb it s.heap h'->Q (aa x) {s with heap:=h'}):wpAny (model P w) A (hU (.ref it)) Q X4 s:=by
 have(o,a,d,hd):=id hr;have(o2,h2,_,g,b):=e;show ak (oJ (oF hr.ty rR (jJ rR hr.ty Hx ?_ (Hy _))));change wpAny _ _ (field _ 1 >>= _) _ _ s;show ak (wpAny_field a hd rfl ?_);show ak (wpAny_field a hd rfl ?_);show ak (tY h2 b ?_);simp only[cU,f];show ak (wpAny_setField a hd (by simp) (aE (x,rfl,aE (c _ ?_ (oN ..)))));show(_,oM _ a (Obj.isFreed_of_fields (Obj.data_mapFields hd _)),(Obj.cls_mapFields ..).trans d,?_);rw[Obj.data_mapFields hd];rfl
def HA(d:j<0){Q:Option Value->ah->Prop}(c:A.handled=ab)(hr:fX s.heap it l j)
 (a:∀h',Heap.ExtBut it s.heap h'->Q ab {s with heap:=h'}):wpAny (model P w) A (hU (.ref it)) Q X4 s:=by
 have(o,f,h,hd):=id hr;show ak (oJ (oF hr.ty rR (jJ rR hr.ty Hx ?_ (Hy _))));change wpAny _ _ (field _ 1 >>= _) _ _ s;show ak (wpAny_field f hd rfl ?_);change wpAny _ _ (if j<0 then _ else _) _ _ s;rw[if_pos d];show ak (lz ?_);show ak ?_;change wpAny _ _ _ _ _ _;show ak ?_;simp only[newTuple]
 show ak (i8 ?_ (by size_fits));show ak (qR (by first |rfl |(simp only[qQ];rfl)) ?_)
 show i8 ?_ (by size_fits);simp only[raiseNew];show ak (wpAny_handled ?_);rw[show A.in1.handled=ab from c];show ak (aE (wpAny_throw ?_));show ak (qP (_,cM _ rfl,rfl) isSubtype_stop ?_);show aE (a _ λb u g e=>(bF _ (bF _ e)))
def QP{T n a:String}{m:eT}{args:LVa}{S:Lc}{Q:PRS}{c:Value}{tl:LVa}
 (y:(ki T==ki "type")=af)(z:((Manifest.find? T).bind (·.mro.findSome? λt=>(Manifest.find? t).bind λb=>if b.noNew then aa ac else if b.attrs.any (·.1 == "__new__") then aa af else ab)).getD af=af)
 (p:mroOf (.type T)=pure (c::tl))(l:Bind.madeBy (.type T)=pure (aa a))(f:plainId a=ac)(q:isSubtype (.type n) (.type T)=pure af)
 (u:checkTypeCall T (args,[])=pure ())(j:checkBuiltinCall a (.type T::args,[])=pure ())(d:mK table a=aa m)(g:Meets (m (.type T::args,[])) S)
 (h:S A.in1 (wants (λobj i=>i.TypeIs obj n/\Q obj i) X4) s):wpAny (model P w) A (call (.type T) args) Q X4 s:=by
 show wpAny_call (codeAny_of_tree ?_);change wpAny _ _ _ _ _ _;show aE (Code.quiet_builtin _ (by decide +kernel),kg F.entry_type_call ?_);simp only[ca.under_plain (weight_type_call_type T args []) (units_type_call_type T args [])]
 repeat (any_goals (first |assumption |wp_step))
 show ly (xn f d (qR j (g P w A.in1 _ s h))) λr s1 hr=>?_
 cases r with
 |error e=>show hr
 |ok fl=>
  cases fl with
  |ret obj=>
   have(v,x):=hr
   repeat (any_goals (first |assumption |wp_step))
  | _=>show hr.elim
def HB:mroOf (.type "reversed")=pure [.type "reversed",.type "object"]:=by(rw[mroOf_type];kernel_rfl)
def QQ:mH (.type "reversed") "__new__"=pure (aa (.builtin "reversed.__new__")):=by(rw[kh,kf];kernel_rfl)
def QR:Bind.madeBy (.type "reversed")=pure (aa "reversed.__new__"):=madeBy_type HB QQ (by decide +kernel)
def QS:isSubtype (.type "list_reverseiterator") (.type "reversed")=pure af:=by(rw[mE];kernel_rfl)
def QT:mK table "reversed.__new__"=aa eT.«reversed.__new__»:=by show entryFor_of_tree (by kernel_rfl)
def HC:jM "reversed"=aa (.type "reversed"):=by kernel_rfl
def QU:mH (.type "list") "__reversed__"=pure (aa (.builtin "list.__reversed__")):=by(rw[kh,kf];kernel_rfl)
def QV(l:Addr)(L:Array Value)(n:Nat)(dc:Option Addr)(sl:Array (Option Value)):Meets (eT.«list.__reversed__» ([.ref l],[])) (λ_ R s=>s.heap.get? l=aa {cls:=.type "list",dict:=dc,data:=.seq L n,slots:=sl}/\R (.ok (.ret (.ref s.heap.objs.size))) {s with heap:=s.heap.push {cls:=.type "list_reverseiterator",data:=.fields #[.ref l,cm (((L.size:Nat):Int)-1)]}}):=
 .of_wp λprog w A R s h=>by
  have(a,h):=h
  wp_walk
  show(_,rfl,h)
def QW(l:Addr)(L:Array Value)(n:Nat)(dc:Option Addr)(sl:Array (Option Value)):Meets (eT.«reversed.__new__» ([.type "reversed",.ref l],[])) (λ_ R s=>s.heap.get? l=aa {cls:=.type "list",dict:=dc,data:=.seq L n,slots:=sl}/\R (.ok (.ret (.ref s.heap.objs.size))) {s with heap:=s.heap.push {cls:=.type "list_reverseiterator",data:=.fields #[.ref l,cm (((L.size:Nat):Int)-1)]}}):=
 .of_wp λprog w A R s h=>by
  have(a,g,d,b,os):=s;have(e,h):=h;have j:=QU;have f:isSubtype (.type "reversed") (.type "reversed")=pure ac:=by(rw[mE];kernel_rfl)
  have i:t9 (a,g,d,b,os) (.ref l) "list":=(_,e,rfl);have m:=xv.bind (eU l)
  repeat (any_goals (first |assumption |wp_step))
  have step:gD _ A.in1 _ (λr c=>r=.ok _/\c=(a.push {cls:=.type "list_reverseiterator",data:=.fields #[.ref l,cm _]},g,d,b,os)) (a,g,d,b,os):=
   xn xv.plain PySem.F.entry_list_reversed (xv.check _ _ _ _ _ _ _ _ i (PySem.F.args_list_reversed_1 _) (QV l L n dc sl prog w A.in1 (λr c=>r=.ok (.ret (.ref a.objs.size))/\c=(a.push {cls:=.type "list_reverseiterator",data:=.fields #[.ref l,cm (((L.size:Nat):Int)-1)]},g,d,b,os)) (a,g,d,b,os) (e,rfl,rfl)))
  show ly step λr s1 hr=>?_;have(rfl,rfl):=hr;show aE (_,rfl,h)
def HD{Q:PRS}(d:s.heap.IsList l L)
 (h:∀h',fX h' s.heap.objs.size l (((L.size:Nat):Int)-1)->(∀b o,s.heap.get? b=aa o->h'.get? b=aa o)->Q (.ref s.heap.objs.size) {s with heap:=h'}):wpAny (model P w) A (call (.type "reversed") [.ref l]) Q X4 s:=by
 have((c,a,dt,sl),g,f,n,hd):=d;subst f hd;have i:fX (s.heap.push {cls:=.type "list_reverseiterator",data:=.fields #[.ref l,cm _]}) s.heap.objs.size l ((L.size:Int)-1):=(_,cM _ rfl,rfl,rfl);show QP (rfl) (by decide +kernel) HB QR (by decide +kernel) QS (by kernel_rfl) (by kernel_rfl) QT (QW l L n a sl) (g,((_,cM _ rfl,rfl),h _ i λb o e=>bF _ e))
def Itv(K:aQ)(l:Addr)(n:Nat):It:=
  (λi H=> ∃E x, SqL K H l E/\Z E = n/\E.reverse[i]? = aa x,
   λi H v H'=> H' = H/\∀E, SqL K H l E->E.reverse[i]? = aa v,
   λi H=> n<=i)
def fX.stay(q:fX h it l j)(k:∀o,h.get? it=aa o->h'.get? it=aa o):fX h' it l j:=by
 have(o,e,c,d):=q;show(o,k o e,c,d)
def QX{K:aQ}(l it:Addr)(n:Nat):ko P w K tg (Itv K l n) [it] it (λi h=>fX h it l ((n:Int)-1-(i:Int))) where
 mem:=by simp
 obj:=λi h st b hb=>by
  have e:b=it:=by simpa using hb
  rw[e];have(o,e1,c,d):=st;show⟨o,e1,λv z=>by rw[d]at z;nomatch z⟩
 keep:=λi h h' st k=>st.stay λo e=>k it (by simp) o e
 item:=by
  intro X hP hw hK hc i U s C H X4 I hf st hg;subst hP hw hK;have(E,x,hq,hn,hx):=hg;have(L,rv,p,hz):=I.list hq
  have hi:i<Z E:=by
   have:=(c7.mp hx).1
   simpa using this
  have hx':E[n-1-i]?=aa x:=by
   rw[List.getElem?_reverse hi]at hx;rw[<- hn];show hx
  have(u,hu,ru):=rv.get hx';have(f0,f1,f2,f3,f4,f5):=hf it (by simp);have ej:(n-1-i)=((n-1-i:Nat):Int):=by lia
  rw[ej]at st;show Hz st p.isList (by simpa using hu) λh' eh sb=>?_;have e2:((n-1-i:Nat):Int)-1=n-1-((i+1:Nat):Int):=by lia
  rw[e2]at eh;have(o,e,c,d):=id eh;show(u,rfl,uf e c d (rfl) (x,H,(I.turned (λb o hb e=>(sb.2 b hb).trans e) f0 f1 f3 f4 f5),ru,(rfl,λys hy=>by rw[I.list_inj hy hq];show hx),eh,λb hb=>(hf b hb).1))
 done:=by
  intro X hP hw hK hc i U s C H X4 I hf st hg;have hg:n<=i:=hg;have(f0,f1,f2,f3,f4,f5):=hf it (by simp);show HA (by lia) (I.ok.hd hc) st λh' eb=>(rfl,I.turned (λb o hb e=>eb b o hb e) f0 f1 f3 f4 f5)
 self:=λ_ _ _ _ _ st h=>ve st h
def QY(K:aQ)(ta:TA):TI:=λC H R=>ta C H λvs H1=>∃l E,vs=[.ref l]/\SqL K H1 l E/\R (Itv K l (Z E)) H1
variable{a:Expr}
def QZ(n:Gl X "reversed")(hm:X.mg "reversed"=ab)(ha:PA X [a] ta)(r:autoParam (aO [a] X.env=[(af,eval a X.env,)]) Zb):PI X tg (.Call (.Name "reversed" p) [a] [] pos) (QY X.K ta):=by
 intro U s C H R I h;show Call_ (hZ I n hm HC (kc (thn (ha pos U s C H _ I h) λus s1 w=>?_) (by rw[r];rfl) (by rfl)));have(vs,H1,c,d,l,E,e,j,q):=w;subst e;have(u,rfl,ru):=lI d;subst ru;have(f,d,v,y):=c.list j;have x:=d.length;show HD v.isList λh' g i=>?_;show ve g ?_;show(_,_,_,_,H1,rfl,c.kept i,QX l _ (Z E),?_,λb m=>?_,q)
 .grind
 .have e:b=s1.heap.objs.size:=by simpa using m
  rw[e];show c.fpOk (aM _) (c.hok.fresh (aM _))
abbrev zu:LD->OLD
 | [x]=>(lsD x).map List.reverse
 | _=>ab
def lX(f:MF2)(M:LS):OLD:=(f M).bind zu
variable{f:MF2}
def Q0(G:Gl X "reversed")(hm:X.mg "reversed"=ab)(ha:DA c X [a] f)(I:autoParam (aO [a] X.env=[(af,eval a X.env,)]) Zb):DI c X tg (.Call (.Name "reversed" p) [a] [] pos) (lX f):=
 PI.imp (QZ G hm ha.pa I) λC H R L=>by
  have(Hf0,H0,Hf,M,ds,st,b,k):=L;unfold lX at b
  cases g:f M with
  |none=>rw[g]at b;nomatch b
  |some as=>
   rw[g]at b;replace b:zu as=aa ds:=b;show(Hf0,H0,Hf,M,as,st,g,λvs Hf' H' x r=>?_);unfold zu at b;split at b
   .rename_i dx
    cases ex:lsD dx with
    |none=>rw[ex]at b;nomatch b
    |some E=>
     rw[ex]at b;cases b;have(v,B,N):=r.one;have(J,e,h,n,w):=kB ex N;subst h;show(J,e,B,x.s.seq n,k _ Hf' H' x λbm H2 f2 s2 i=>?_);have m:=(f2.trans s2).seq n;have U:=w.length;show(λd y=>?_,λA=>?_)
     .have(u,l,ru):=w.reverse.get y;show((e,u,m,rfl,l),λz T q=>?_);have(rfl,Q):=q;have j:=Q e m;rw[l]at j;cases j;show(bm,Ext.refl s2,ru.up f2)
     .rw[li]at A;change Z e<=i
      lia
   .nomatch b
nonrec def pR:D->D->OD:=dI ku λi j=>.int (i*2 ^ S j)
def Q1:OpD c X (dO .LShift) pR:=o9 Mt λ_ _ _ _=>rfl
def Q2{a:Type}{g:a->D}{E:List a}(h:f M=aa [.lst (E.map g)]):lX f M=aa (E.reverse.map g):=by
 unfold lX;rw[h];change aa (E.map g).reverse=_;simp
inductive tDX(G:Gc)(f:LS->Option (D×LS))(C:St)(H:Hp)(Q:VK):Prop
 |mk:∀Hf0 H0 Hf M d ρ',au G Hf0 H0 Hf H C M->f M=aa (d,ρ',)->(∀v Hf' H',aq Hf Hf'->au G Hf0 H0 Hf' H' C ρ'->Rep G Hf' d v->Q v H')->tDX G f C H Q
def DX(c:Str->Addr)(X:Cx)(e:Expr)(f:LS->Option (D×LS)):Prop:=PE X e (tDX (Gx c X) f)
def Q3:mH (.type "list_reverseiterator") "__len__"=pure ab:=by(rw[kh,kf];kernel_rfl)
def Q4:mH (.type "list_reverseiterator") "__length_hint__"=pure (aa (.builtin "list_reverseiterator.__length_hint__")):=by(rw[kh,kf];kernel_rfl)
def Q5:isSubtype (.type "list_reverseiterator") (.type "list_reverseiterator")=pure ac:=by(rw[mE];kernel_rfl)
def Q6{Q:Bool->ah->Prop}(hr:fX s.heap it l j)(h:Q af s):wpAny (model P w) A (EE (.ref it)) Q X4 s:=by
 show ak (tV hr.ty Q3 ?_);show ak (tV hr.ty Q4 ?_);show ak (qP hr.ty Q5 (aE h))
def Q7(hh:A.handled=ab)(hne:it≠l)(L:Array Value):Walks P w A it [it,l] [it] L.size (λi v=>L.toList.reverse[i]?=aa v) (λi h=>fX h it l ((L.size:Int)-1-(i:Int))/\h.IsList l L) where
 sub:=by simp
 frame:=λi h h' (a,o,e,c,n,d) k=>(a.stay λo e=>k it (by simp) o e,o,k l (by simp) o e,c,n,d)
 item:=λi s Q X4 hi st hQ=>by
  have(a,b):=st;have ej:(L.size-1-i)=((L.size-1-i:Nat):Int):=by lia
  rw[ej]at a;have hk:L.size-1-i<L.size:=by lia
  show Hz a b (x:=L[L.size-1-i]) (by simp[hk]) λh' a' sb=>?_;have e2:((L.size-1-i:Nat):Int)-1=L.size-1-((i+1:Nat):Int):=by lia
  rw[e2]at a';have hl:∀b o,b∉[it]->s.heap.get? b=aa o->h'.get? b=aa o:=λb o hb e=>(sb.2 b (by simpa using hb)).trans e;show hQ _ h' s.toks ?_ (a',?_) hl
  .rw[List.getElem?_reverse (by simpa using hi)];simp[hk]
  .have(o,e,c,n,d):=b;show(o,hl l o (by simpa using eQ hne) e,c,n,d)
 done:=λs Q X4 st hQ=>by
  have(a,b):=st;show HA (by lia) hh a λh' eb=>hQ h' s.toks λb o hb e=>eb b o (by simpa using hb) e
 self:=λi s Q X4 st h=>ve st.1 h
variable{c0:Nat}
def Q8{S:Addr}(d:Value)(n:A.handled=ab)(j:it≠l)(g:S∉[it,l])(hr:fX s.heap it l ((L.size:Int)-1))(p:s.heap.IsList l L)(hn:L.size<=aT)
 (m:s.heap.get? S=aa {cls:=.type "list",dict:=ab,data:=.seq #[] c0,slots:=#[]})
 (kR:∀c c4 h,Moved (S::[it]) (λa b=>b=a) s c->c.heap.get? S=aa {cls:=.type "list",dict:=ab,data:=.seq c4 h,slots:=#[]}->ItemsOf (λi v=>L.toList.reverse[i]?=aa v) c4 L.size->R (.ok (.ret d)) c):
  wpAny (model P w) A.in1 (xp (.ref S) (.ref it) d) (λfin c=>match fin with |.done f=>R (.ok f) c |.again h=>h.quiet=ac/\gD (model P w) A h R c) (λe c=>R (.error e) c) s:=by
 have q:S≠it:=λz=>g (by rw[z];show az);show ak (wpAny_typeOf hr.ty ?_);have r:t7 (.ref S) (.ref it)=af:=by simp[t7,q]
 simp only[r];show ak (ve hr ?_);show ak (jL (Q6 hr ?_));show aE (mF F.plain_extend_loop _,codeAny_extend_loopS ((Q7 (show A.in1.handled=ab from n) j L).toS) hn S g d L.size 0 _ #[] c0 rfl (cj _) (by simpa using hr,p) m (ItemsOf.nil _) kR)
def Q9{Q:PRS}(E:A.handled=ab)(y:it≠l)(hr:fX s.heap it l ((L.size:Int)-1))(B:s.heap.IsList l L)(hn:L.size<=aT)
 (H:∀j c4 q,Moved [s.heap.objs.size,it] (λa b=>b=a) {s with heap:=s.heap.push {cls:=.type "list",data:=.seq #[]}} j->j.heap.get? s.heap.objs.size=aa {cls:=.type "list",dict:=ab,data:=.seq c4 q,slots:=#[]}->ItemsOf (λi v=>L.toList.reverse[i]?=aa v) c4 L.size->Q (.ref s.heap.objs.size) j):
  wpAny (model P w) A (call (.type "list") [.ref it]) Q X4 s:=by
 have f:it<s.heap.objs.size:=by have(o,e,_):=hr;show bC e
 have g:l<s.heap.objs.size:=by have(o,e,_):=B;show bC e
 have nf:s.heap.objs.size∉_:=λhm=>by
  rcases bc.mp hm with z |z
  .show absurd z (ls f)
  .show absurd (bw.mp z) (ls g)
 show callType_codes (Q₁:=λobj s1=>obj=.ref s.heap.objs.size/\s1={s with heap:=s.heap.push {cls:=.type "list",data:=.seq #[]}}) F.called_list (F.typeCall_list_1 _) F.entry_list_init (code_list_new _ (rfl,rfl)) λobj s1 J=>?_
 have(rfl,rfl):=J;have p:(s.heap.push {cls:=.type "list",data:=.seq #[]}).get? s.heap.objs.size=aa {cls:=.type "list",data:=.seq #[]}:=cM _ rfl;show((_,p,rfl),F.args_list_init_2 _ _,?_);apply ak;show ak (tY p rfl (aE ?_));apply ak;show tW p rfl ?_;apply ak;apply wpAny_letGo;have h:∀b o,b≠s.heap.objs.size->s.heap.get? b=aa o->((s.heap.push {cls:=.type "list",data:=.seq #[]}).update s.heap.objs.size (hX (λ_=>(#[]:Array Value)))).get? b=aa o:=λb o u e=>(oK _ _ (eQ u)).trans (bF _ e)
 have x:((s.heap.push {cls:=.type "list",data:=.seq #[]}).update s.heap.objs.size (hX (λ_=>(#[]:Array Value)))).IsList l L:=by
  have(o,e,c,n,d):=B;show(o,h l o (bW g) e,c,n,d)
 show Q8 .none E y nf (hr.stay λo e=>h it o (bW f) e) x hn (oM _ p rfl) λj c4 q m r G=>?_
 have I:Moved [s.heap.objs.size,it] (λa b=>b=a) {s with heap:=s.heap.push {cls:=.type "list",data:=.seq #[]}} {s with heap:=(s.heap.push {cls:=.type "list",data:=.seq #[]}).update s.heap.objs.size (hX (λ_=>(#[]:Array Value)))}:=
  (λb o u e=>(oK _ _ (eQ (λz=>u (by rw[z];show az)))).trans e,rfl,rfl,rfl,aM _)
 show(rfl,H j c4 q (I.trans (λ_ _ _ C h2=>h2.trans C) m) r G)
def tRL(K:aQ)(te:TE):TE:=λC H Q=>te C H λx H1=>∃l E,x=.ref l/\SqL K H1 l E/\∀p,H1 p=ab->Q (.ref p) (upd H1 p (.lst E.reverse))
def Ra(h:ItemsOf (λi v=>L.toList.reverse[i]?=aa v) c4 L.size):c4.toList=L.toList.reverse:=by
 have(c,hi):=h;show mo λi=>?_
 by_cases b:i<L.size
 .have a:i<c4.size:=by rw[c];show b
  rw[hi i c4[i] (by simp[a])];simp[a]
 .rw[gy (by simpa[c]using oB b),gy (by simpa using oB b)]
def Rb(hc:X.calm=ac)(r:Gl X "list")(y:X.mg "list"=ab)(v:Gl X "reversed")(A:X.mg "reversed"=ab)(he:PE X e te)
 (Y:autoParam (aO [.Call (.Name "reversed" p2) [e] [] c2] X.env=(af,eval (.Call (.Name "reversed" p2) [e] [] c2) X.env,)::aO [] X.env) Zb)(h2:autoParam (aO [e] X.env=(af,eval e X.env,)::aO [] X.env) Zb)
 (B:autoParam ((cf pos (aO [] X.env)).any (·.1)=af) Zb)(a:autoParam ((cf c2 (aO [] X.env)).any (·.1)=af) Zb):
  PE X (.Call (.Name "list" p) [.Call (.Name "reversed" p2) [e] [] c2] [] pos) (tRL X.K te):=by
 intro U s C H Q I h;show i7 (hZ I r y mx ?_);show kc ?_ Y B;show jb (i7 (hZ I v A HC ?_));show kc ?_ h2 a;rw[h2];show jb (thn (he U s C H _ I h) λu s1 q_=>?_);have(x,H1,f,r1,l,E,T,hq,q):=q_;subst T;subst r1;show aE ?_;have(L,M,pl,hz):=f.list hq;show HD pl.isList λh' G J=>?_;show aE ?_
 have w:h'.IsList l L.toArray:=by
  have(o,e,c,n,d):=pl.isList;show(o,J _ _ e,c,n,d)
 have lt:l<s1.heap.objs.size:=by have(o,e,_):=pl.isList;show bC e
 have le:s1.heap.objs.size<h'.objs.size:=by have(o,e,_):=G;show bC e
 show Q9 (f.ok.hd hc) (ls lt) G w (by rw[size_toArray,<- M.length];show hz) λs' c4 N m j ia=>?_;have(hp',g',d',tk',os'):=s';have(m1,m2,m3,m4,m5):=m;subst m2;subst m3;subst m4;show(.ref h'.objs.size,_,f.laid (λb u g=>m1 b u (λhm=>?_) (bF _ (J b u g))) (fD le) ?_,rfl,q _ (f.hok.fresh (fD le)))
 .have i:=bC g
  rcases bc.mp hm with z |z
  .rw[z]at i;show gB _ (mw i le)
  .rw[bw.mp z]at i;show gB _ i
 .show(by rw[li];show hz,c4.toList,N,?_,by simpa using j);rw[(Ra ia)]
  simpa using M.reverse
def pS(i:Nat)(M:LS):OLD:=match M[i]? with
 |some (.own E)=>aa E.reverse
 |some (.im (.lst E))=>aa E.reverse
 | _=>ab
variable{p3:Pos}
def Rc(i:Nat)(y:X.calm=ac)(g:Gl X "list")(j:X.mg "list"=ab)(h:Gl X "reversed")(m:X.mg "reversed"=ab)
 (w:autoParam (X.N[i]?=aa x) Zb)(hv:autoParam (Vis X.env.scope x) Ze)(hd:autoParam (NDb x) Zc)(f:autoParam (NCd x) Zc)
 (u:autoParam (aO [.Call (.Name "reversed" p2) [.Name x p3] [] c2] X.env=(af,eval (.Call (.Name "reversed" p2) [.Name x p3] [] c2) X.env,)::aO [] X.env) Zb)(h2:autoParam (aO [.Name x p3] X.env=(af,eval (.Name x p3) X.env,)::aO [] X.env) Zb)
 (n:autoParam ((cf pos (aO [] X.env)).any (·.1)=af) Zb)(b:autoParam ((cf c2 (aO [] X.env)).any (·.1)=af) Zb):
  DO c X (.Call (.Name "list" p) [.Call (.Name "reversed" p2) [.Name x p3] [] c2] [] pos) (pS i):=PE.imp (Rb y g j h m (mR w hv hd f) u h2 n b) λC H Q z=>by
 have(Hf0,H0,Hf,M,ds,st,d,k):=z;unfold pS at d;split at d
 .rename_i E es;cases d;have(l,e,A,B,vs,q,r):=st.ownAt rfl es;show(_,e,l,vs,rfl,SqL.of q,λp a=>k p _ Hf _ (Ext.tmp st.sub a) a (st.sub.free a) bd r.reverse)
 .rename_i E es;cases d;have(v,e,l,vs,rfl,q,r):=st.imm es;show(_,e,l,vs,rfl,SqL.of (st.sub _ _ q),λp a=>k p _ Hf _ (Ext.tmp st.sub a) a (st.sub.free a) bd r.reverse)
 .grind
def HE:∀(n lo:Nat) (us:LVa),Z us=n->(∀j v,us[j]?=aa v->∃t,v=Value.int ((lo+j:Nat):Int) t)->aG (((List.range' lo n).map λ(i:Nat)=>(i:Int)).map V.int) us
 | 0,_,[],_,_=>.nil
 | 0,_,_::_,h,_=>by cases h
 | _+1,_,[],h,_=>by cases h
 |n+1,lo,u::us,h,k=>by
  show .cons (k 0 u rfl) (HE n (lo+1) us (by simpa using h) λj v e=>?_);have:=k (j+1) v (by show e)
  rwa [show lo+(j+1)=lo+1+j by lia]at this
def tRR(ta:TA):TE:=λC H Q=>ta C H λvs H1=>∃j:Int,vs=[.int j]/\0<=j/\j<=1048576/\∀p,H1 p=ab->Q (.ref p) (upd H1 p (.lst (((bu (S j)).map λ(i:Nat)=>(i:Int)).map V.int)))
def Re(G:X.calm=ac)(f:Gl X "list")(m:X.mg "list"=ab)(l:Gl X "range")(w:X.mg "range"=ab)(ha:PA X [a] ta)
 (E:autoParam (aO [.Call (.Name "range" p2) [a] [] c2] X.env=(af,eval (.Call (.Name "range" p2) [a] [] c2) X.env,)::aO [] X.env) Zb)(J:autoParam (aO [a] X.env=[(af,eval a X.env,)]) Zb)
 (x:autoParam ((cf pos (aO [] X.env)).any (·.1)=af) Zb):
  PE X (.Call (.Name "list" p) [.Call (.Name "range" p2) [a] [] c2] [] pos) (tRR ta):=by
 intro U s C H Q I h;show i7 (hZ I f m mx ?_);show kc ?_ E x;change wpAny _ _ (spliced ((af,eval (.Call (.Name "range" p2) [a] [] c2) X.env,)::cf pos (aO [] X.env))) _ _ s;show jb (i7 (hZ I l w boot_range ?_));show kc (thn (ha c2 U s C H _ I h) λus s1 L=>?_) J rfl;have(vs,H1,c,M,j,e,Y,j1,q):=L;subst e
 cases M with
 |cons r N=>
  cases N;have(t,rfl):=r;show call_range_1 ?_;show aE ?_
  show call_list_range (n:=S j) (c.ok.hd G) (IsRange.new ..) (small_one (by lia) (by lia) (by lia) (by lia)) (by rw[rangeSize_one];split <;> lia) (by lia) λh' T c4 z kp d y=>?_
  have le:s1.heap.objs.size<=(s1.heap.push {cls:=.type "range",data:=.fields #[.int 0 s1.toks,.int j t,.int 1 (s1.toks+1)]}).objs.size:=by
   simp[Heap.push]
  show(.ref _,_,c.laid (h':=h') (t':=T) (o:=.lst (((bu (S j)).map λ(i:Nat)=>(i:Int)).map V.int)) (λb u g=>kp b u (bF _ g)) le ?_,rfl,q _ (c.hok.fresh le));show(by rw[ay,ay,cC];change _<=16777216;lia,c4.toList,z,?_,by show d);rw[range_eq_range'];show HE j.toNat 0 c4.toList (by simpa using y.1) λi v B=>?_;have(t,A):=y.2 i v (by simpa using B);show(t,by rw[A];simp)
abbrev lrD:LD->OLD
 | [.int j]=>if 0<=j/\j<=1048576 then aa (((bu (S j)).map λ(i:Nat)=>(i:Int)).map D.int) else ab
 | _=>ab
def nH(f:MF2)(M:LS):OLD:=(f M).bind lrD
def Rf{n:Int}(h:f M=aa [.int n])(a:0<=n)(b:n<=1048576):nH f M=aa (((bu (S n)).map λ(i:Nat)=>(i:Int)).map D.int):=by
 unfold nH;rw[h];change(if 0<=n/\n<=1048576 then _ else ab)=_;rw[if_pos (a,b)]
def Rg(z:X.calm=ac)(e:Gl X "list")(m:X.mg "list"=ab)(g:Gl X "range")(n:X.mg "range"=ab)(ha:DA c X [a] f)
 (y:autoParam (aO [.Call (.Name "range" p2) [a] [] c2] X.env=(af,eval (.Call (.Name "range" p2) [a] [] c2) X.env,)::aO [] X.env) Zb)(A:autoParam (aO [a] X.env=[(af,eval a X.env,)]) Zb)
 (q:autoParam ((cf pos (aO [] X.env)).any (·.1)=af) Zb):
  DO c X (.Call (.Name "list" p) [.Call (.Name "range" p2) [a] [] c2] [] pos) (nH f):=PE.imp (Re z e m g n ha.pa y A q) λC H Q B=>by
 have(Hf0,H0,Hf,M,ds,st,b,k):=B;unfold nH at b
 cases d:f M with
 |none=>rw[d]at b;cases b
 |some as=>
  rw[d]at b;replace b:lrD as=aa ds:=b;show(Hf0,H0,Hf,M,as,st,d,λvs Hf' H' x r=>?_);unfold lrD at b;split at b
  .split at b
   .rename_i j u;cases b;have(v,w,E):=r.one;cases (show v=V.int j from E);show(j,w,u.1,u.2,λl i=>k l _ Hf' _ (x.trans (Ext.tmp x.s i)) (x.h.free i) (x.s.free i) bd (am.ints _))
   .cases b
  .cases b
open Classical in
def dJ(f:LS->Option (D×LS))(M:LS):Option Fl:=(f M).map λp=>.nx p.2
def zw{f:LS->Option (D×LS)}(g:DX c X e f)(h:autoParam (f9 e ab pos.line X.env=pure af) Zb):DS c X (.Expr e pos) (dJ f):=PS.imp (lH g h) λX4 C H i=>by
 have(Hf0,H0,Hf,M,o,j,a,k):=i;unfold dJ at a
 cases b:f M with
 |none=>rw[b]at a;nomatch a
 |some p=>
  rw[b]at a;cases a;show(Hf0,H0,Hf,M,p.1,p.2,j,b,λv Hf' H' s d r=>k C Hf' H' s d)
def iS{f:LS->Option (D×LS)}(h:f M=aa (d,ρ',))(k:K (.nx ρ')):wp (dJ f) M K:=(_,by unfold dJ;rw[h];rfl,k)
def iT{f:MF1}(h:f M=aa d)(k:K (.rtS d M)):wp (eE f) M K:=(_,by unfold eE;rw[h];rfl,k)
def am.erase{G:Gc}{H:Hp}:∀{ds:LD} {vs:LVv} (k:Nat),am G H ds vs->am G H (ds.eraseIdx k) (vs.eraseIdx k)
 | [],_,_,h=>by cases (show _=[]from h);show .nil
 |d::ds,_,0,(v,r,e,_,h2)=>by subst e;show h2
 |d::ds,_,k+1,(v,r,e,h1,h2)=>by subst e;show(v,r.eraseIdx k,rfl,h1,am.erase k h2)
def Fre(X3 Hf:Hp)(fp:LAd):Prop:=fp.Nodup/\∀a∈fp,X3 a=ab/\Hf a=ab
variable{X3:Hp}
def Fre.nil:Fre X3 Hf []:=⟨.nil,λ_ h=>nomatch h⟩
def Fre.one(h:X3 l=ab)(h':Hf l=ab):Fre X3 Hf [l]:=(b8.mpr (dD,fA),λa ha=>by rw[bw.mp ha];show(h,h'))
def Fre.imp{b:Hp}(h:Fre X3 Hf fp)(k:∀a,X3 a=ab->b a=ab):Fre b Hf fp:=(h.1,λa ha=>(k a (h.2 a ha).1,(h.2 a ha).2))
def bsH(b:Bool)(H0 H:Hp):Hp:=bif b then H else H0
variable{a:Addr}
def zx(s:aq H0 H)(h:H a=ab):bsH b H0 H a=ab:=by
 cases b with
 |true=>show h
 |false=>show s.free h
inductive tDZ(G:Gc)(b:Bool)(f:LS->Option O)(C:St)(H:Hp)(Q:VK):Prop
 |mk:∀Hf0 H0 Hf M o,au G Hf0 H0 Hf H C M->f M=aa o->(∀u fp Hf' H',Ext Hf H Hf' H'->OT G Hf' H' o u fp->Fre (bsH b H0 H) Hf' fp->Q u H')->tDZ G b f C H Q
def DZ(c:Str->Addr)(X:Cx)(b:Bool)(e:Expr)(f:LS->Option O):Prop:=PE X e (tDZ (Gx c X) b f)
def jA(f:MF1)(M:LS):Option O:=(f M).map .fz
def iq(f:MF2)(M:LS):Option O:=(f M).map λds=>.lst (ds.map .fz)
def HF{f:MF1}(h:DE c X e f):DZ c X b e (jA f):=PE.imp h λC H Q i=>by
 have(Hf0,H0,Hf,M,t,st,a,k):=i;unfold jA at a
 cases g:f M with
 |none=>rw[g]at a;nomatch a
 |some d=>
  rw[g]at a;cases a;show(Hf0,H0,Hf,M,d,st,g,λv Hf' H' x r=>k v [] Hf' H' x (r,rfl) .nil)
def Rh(h:DO c X e f):DZ c X b e (iq f):=PE.imp h λC H Q j=>by
 have(Hf0,H0,Hf,M,t,st,a,k):=j;unfold iq at a
 cases d:f M with
 |none=>rw[d]at a;nomatch a
 |some ds=>
  rw[d]at a;cases a;show(Hf0,H0,Hf,M,ds,st,d,λl vs Hf' H' x hn g i r=>k _ [l] Hf' H' x (l,vs,[],rfl,i,OTs.fz r,rfl) (.one (zx st.ext.h hn) g))
def spT(G:Gc)(n:Nat)(m:LD->Option O):Sp:=λvs H Q _=>∃Hf ds o,aq Hf H/\am G Hf ds vs/\Z ds=n/\m ds=aa o/\∀u fp Hf' H',Ext Hf H Hf' H'->OT G Hf' H' o u fp->Fre H Hf' fp->Q u H'
mutual
noncomputable def O.flat:O->Bool
 |.fz d=>d.flat
 |.lst os=>O.flats os
 |.tup os=>O.flats os
 |.dic _ os=>O.flats os
 |.ins _ _ os=>O.flats os
 |.dT _ os=>O.flats os
 |.at _ o=>o.flat
 |.jnk _=>ac
 |.any=>ac
noncomputable def O.flats:List O->Bool
 | []=>ac
 |o::os=>o.flat && O.flats os
end
def nI(i:Nat)(f:LS->Option O)(M:LS):Option Fl:=(f M).map λo=>.nx (M.set i (.deep o))
def Ri(i:Nat){f:LS->Option O}(j:X.N.Nodup)(l:DZ c X ac e f)(hi:autoParam (X.N[i]?=aa x) Zb)(q:autoParam (Loc X.env.scope x) Zf)(n:autoParam (f9 e (aa (.Name x b4)) pos.line X.env=pure af) Zb)(m:autoParam (LcF X x) Zg):
  DS c X (.Assign [.Name x b4] e pos) (nI i f):=PS.imp (oS j hi q l n m) λX4 C H v=>by
 have(Hf0,H0,Hf,M,o,g,b,k):=v;unfold nI at b
 cases d:f M with
 |none=>rw[d]at b;nomatch b
 |some t=>
  rw[d]at b;cases b;show(Hf0,H0,Hf,M,t,g,d,λu fp Hf' H' x r z=>k _ Hf' H' x.f (g.setNew x (u,fp,rfl,r,z.1,λa ha=>(g.ext.h.free (z.2 a ha).1,(z.2 a ha).2)) λa p=>?_));have(fp',w,ha):=p;have:=OT.funM t u fp fp' r w;subst this;show(z.2 a ha).1
def OTs.at:∀{G:Gc} {Hf H:Hp} {os:List O} {vs:LVv} {fp:LAd} {k:Nat} {o:O},OTs G Hf H os vs fp->os[k]?=aa o->∃v f,vs[k]?=aa v/\OT G Hf H o v f/\∀a∈f,a∈fp
 | _,_,_,[],_,_,_,_,_,e=>by simp at e
 | _,_,_,o::os,_,_,0,o',q8_,e'=>by
  have(v,r,f1,f2,e,d,h2,c):=q8_;cases e';subst e c
  show(v,f1,rfl,d,λa ha=>bV _ ha)
 | _,_,_,o::os,_,_,k+1,o',q8_,e'=>by
  have(v,r,f1,f2,e,d,h2,c):=q8_;subst e c;have(g,f,a,b,m):=OTs.at h2 e';show(g,f,by rw[g4];show a,b,λa ha=>ci _ (m a ha))
variable{i:Nat}
def Rj{f:LS->Option O}{o:O}(h:f M=aa o)(k:K (.nx (M.set i (.deep o)))):wp (nI i f) M K:=(_,by unfold nI;rw[h];rfl,k)
def OTs.length{G:Gc}{Hf H:Hp}:∀{os:List O} {vs:LVv} {fp:LAd},OTs G Hf H os vs fp->Z os=Z vs
 | [],_,_,h=>by rw[h.1];rfl
 |o::os,_,_,(v,r,f1,f2,e,h1,h2,ef)=>by subst e;simp[OTs.length h2]
def OTs.append{G:Gc}{Hf H:Hp}:∀{os ps:List O} {vs us:LVv} {f g:LAd},OTs G Hf H os vs f->OTs G Hf H ps us g->OTs G Hf H (os++ps) (vs++us) (f++g)
 | [],_,_,_,_,_,h,t=>by have(a,b):=h;subst a b;show t
 |o::os,_,_,_,_,_,(v,r,f1,f2,e,h1,h2,ef),t=>by subst e ef;show(v,r++_,f1,f2++_,rfl,h1,OTs.append h2 t,cK _ _ _)
def OTs.one{o:O}{f:LAd}(h:OT G Hf H o v f):OTs G Hf H [o] [v] f:=(v,[],f,[],rfl,h,(rfl,rfl),(bO _).symm)
def O.appd(o:O)(d:D):Option O:=match o with
 |.lst E=>if Z E<16777216 then aa (.lst (E++[.fz d])) else ab
 |.jnk n=>if n<16777216 then aa (.jnk (n+1)) else ab
 | _=>ab
def HG{o o':O}{fk:LAd}(h:o.appd d=aa o')(r:OT G Hf H o v fk):∃l us,v=.ref l/\H l=aa (.lst us)/\Z us<16777216/\l∈fk /\
  ∀Hf' H' w,fk.Nodup->aq Hf Hf'->(∀b u,b≠l->H b=aa u->H' b=aa u)->H' l=aa (.lst (us++[w]))->Rep G Hf' d w->OT G Hf' H' o' v fk:=by
 cases o with
 |lst E=>
  replace h:(if Z E<16777216 then aa _ else ab)=aa o':=h;split at h
  .rename_i j;cases h;have(l,us,fs,e,q,B,c):=r;subst e c;show(l,us,rfl,q,by rw[<- B.length];show j,az,λHf' H' w n f m i a=>?_)
   have o1:=OTs.frameM f E us fs B λb u g hm=>m b u (λz=>by
    subst z;rw[q]at g;cases g
    rcases hm with hm |hm
    .nomatch hm
    .show(b8.mp n).1 hm) g
   have o2:=o1.append (.one (o:=.fz d) (a,rfl));rw[bO]at o2;show(l,us++[w],fs,rfl,i,o2,rfl)
  .nomatch h
 |jnk n=>
  replace h:(if n<16777216 then aa _ else ab)=aa o':=h;split at h
  .rename_i j;cases h;have(l,us,e,q,z,c):=r;subst e c;show(l,us,rfl,q,by lia,az,λHf' H' w _ f m i a=>(l,us++[w],rfl,i,by rw[aS,f6];lia,rfl))
  .nomatch h
 | _=>nomatch h
def HH(G:Gc)(Hf H:Hp)(C:St)(M:LS)(a:Addr):Prop:=∀(k:Nat) (t:Sl) (w:V),M[k]?=aa t->C[k]?=aa (aa w)->Holds G Hf H t w a->False
def HI(ks:LN)(a b:LS):Prop:=Z a=Z b/\∀m,m∉ks->a[m]?=b[m]?
def HI.refl(ks:LN)(a:LS):HI ks a a:=(rfl,λ_ _=>rfl)
def gO(H:Hp)(fp:LAd):Hp:=λa=>if a∈fp then ab else H a
def zy(h:a∈fp):gO H fp a=ab:=by unfold gO;rw[if_pos h]
def vf(h:a∉fp):gO H fp a=H a:=by unfold gO;rw[if_neg h]
def Rk:aq (gO H fp) H:=λa o e=>by
 by_cases h:a∈fp
 .rw[zy h]at e;nomatch e
 .rw[vf h]at e;show e
def HJ{F H:Hp}(s:aq F H)(h:∀a∈fp,F a=ab):aq F (gO H fp):=λa o e=>by
 rw[vf (λz=>by rw[h a z]at e;nomatch e)];show s a o e
variable{kvs:List (Key×V)}
def Inv.freeze(I:Inv X U C H s)(e:H l=aa (.dK kvs)):∃od,Inv X U C (upd H l (.frz od (.dK kvs))) s:=by
 have(z,ns,vs,f,od,es,ep,g,r):=FA I.hok e;show(od,?_)
 have d:∀b u,H b=aa u->(∀w,u≠.dK w)->upd H l (.frz od (.dK kvs)) b=aa u:=λb u a i=>by
  rw[aL (λq=>by subst q;rw[e]at a;cases a;show i _ rfl)];show a
 have:=I.step (t':=s.toks) (d':=s.drawn) (ch:=[]) (λb a=>nomatch a) (λb o _ _ _ e _=>e) (λb o _ _ _ e _=>(o.slots,e)) (λb o _ _ n=>by rw[aL (λq=>by subst q;rw[e]at n;nomatch n)];show n)
  (λb o _ e=>(o,e)) (λb E a=>d b _ a (λw q=>by nomatch q)) (λb o u a=>d b _ a (λw q=>by nomatch q)) (λb ps a=>(#[],by rw[d b _ a (λw q=>by nomatch q)];simp)) (λm hm=>hm) (λb u a=>?_) I.bare
 .show this
 .by_cases q:b=l
  .subst q;rw[bd]at a;cases a;show(g,z,ns,vs,f,od,es,ep,g,r)
  .rw[aL q]at a;show(I.hok b u a).stay (λc v _ h=>h) (λc h=>d c _ h (λw q=>by nomatch q)) (λc E h=>d c _ h (λw q=>by nomatch q))
def Itk(od:Obj)(d:Addr):It:=
  (λi H=> ∃kvs k v, H d = aa (.frz od (.dK kvs))/\kvs[i]? = aa (k, v,),
   λi H x H'=> H' = H/\∀kvs, H d = aa (.frz od (.dK kvs))->∃k v, kvs[i]? = aa (k, v,)/\x = kV k,
   λi H=> ∃kvs, H d = aa (.frz od (.dK kvs))/\Z kvs<=i)
def KV.get:∀{E:List (Key×V)} {us:List (Key×Value)} {i:Nat} {x:Key×V},KV E us->E[i]?=aa x->∃u,us[i]?=aa u/\x.1=u.1/\aD x.2 u.2
 | _,_,_,_,.nil,e=>by simp at e
 | _,_,0,_,.cons r _,e=>by simp at e;subst e;show(_,rfl,r)
 | _,_,i+1,x,.cons _ t,e=>by
  have(u,a,h2):=KV.get t (by simpa using e);show(u,by simpa using a,h2)
def Rl{k:Key}{v:Value}(h:lF k v=ac):aD (kV k) v:=by
 rcases jf h with⟨i,t,rfl,rfl⟩ |⟨x,t,rfl,rfl⟩
 .show(t,rfl)
 .show(t,rfl)
variable{K:aQ}
def Rm{od:Obj}{es:Array DictEntry}(hd:od.data=.dict es ep)(d it:Addr):ko P w K tg (Itk od d) [it] it (λi h=>h.IsKeyIter it d i es.size ep) where
 mem:=by simp
 obj:=λi h st b hb=>by
  have e:b=it:=by simpa using hb
  subst e;have(o,e,c,d):=st;show⟨o,e,λv z=>by rw[d]at z;nomatch z⟩
 keep:=λi h h' st k=>st.at λo e=>k it (by simp) o e
 item:=by
  intro X hP hw hK hc i U s C H X4 I hf st hg;subst hP hw hK;have(kvs,k,v,hH,hx):=hg;have(ho,z,ns,vs,rel,od',es',ep',ho',ex,hd',kk,pp,nd):=I.hok d _ hH;rw[ho]at ho';cases ho';rw[hd]at hd';cases hd';have hm:s.heap.DictAt _ d vs ep:=(od,es,ho,ex,hd,kk,pp,nd);have hl:es.size=Z vs:=by rw[<- pp.length];simp
  have((k',v'),hv,ek,rv):=KV.get rel hx;subst ek;have(f0,f1,f2,f3,f4,f5):=hf it (by simp);rw[hl]at st;show wpAny_pyNext_dict_item st hm hv λkey h' hkey eh sb=>?_;show(key,rfl,letGo_keyiter eh (kV k,H,(I.turned (λb o hb e=>(sb.2 b hb).trans e) f0 f1 f3 f4 f5),Rl hkey,(rfl,λkvs2 h2=>?_),by rw[hl];show eh,λb hb=>(hf b hb).1));rw[hH]at h2;cases h2;show(k,v,hx,rfl)
 done:=by
  intro X hP hw hK hc i U s C H X4 I hf st hg;subst hP hw hK;have(kvs,hH,hx):=hg;have(ho,z,ns,vs,rel,od',es',ep',ho',ex,hd',kk,pp,nd):=I.hok d _ hH;rw[ho]at ho';cases ho';rw[hd]at hd';cases hd';have hm:s.heap.DictAt _ d vs ep:=(od,es,ho,ex,hd,kk,pp,nd);have hl:es.size=Z vs:=by rw[<- pp.length];simp
  have hv:=oO rel;have(f0,f1,f2,f3,f4,f5):=hf it (by simp);rw[hl]at st;show wpAny_pyNext_dict_end (I.ok.hd hc) st hm (gy (by lia)) λh' eb=>(rfl,I.turned (λb o hb e=>eb b o hb e) f0 f1 f3 f4 f5)
 self:=λ_ _ _ _ _ st h=>wpAny_pyIter_keyiter st h
def Rn(te:TE):TI:=λC H R=>te C H λx H1=>∃d od kvs,x=.ref d/\H1 d=aa (.frz od (.dK kvs))/\R (Itk od d) H1
def Ro(m:PE X e te):PI X tg e (Rn te):=by
 intro U s C H R I h;show thn (m U s C H _ I h) λv s1 u=>?_;have(x,H1,f,w,r):=u;have(d,od,kvs,ex,j,q):=r;subst ex;subst w;have(i,z,ns,vs,y,p,es,ep,c,g,a,kk,pp,nd):=f.hok d _ j;rw[i]at c;cases c;have hm:s1.heap.DictAt _ d vs ep:=(od,es,i,g,a,kk,pp,nd);have n:es.size=Z vs:=by rw[<- pp.length];simp
 show wpAny_pyIter_dict ns hm ?_;show(s1.heap.objs.size,_,_,_,H1,rfl,f.kept λb o e=>bF _ e,Rm a d _,(_,cM _ rfl,rfl,by rw[n];rfl),λb l=>?_,q);have e:b=s1.heap.objs.size:=by simpa using l
 subst e;show f.fpOk (aM _) (f.hok.fresh (aM _))
abbrev kD:Key->D
 |.inl i=>.int i
 |.inr x=>.str x
def Rp(k:Key):Rep G H (kD k) (kV k):=by cases k <;> rfl
abbrev Rq:D->OLD
 |.kd ks _=>aa (ks.map kD)
 | _=>ab
def rS(f:MF1)(M:LS):OLD:=(f M).bind Rq
def HK{a c:Type}:∀{ks:List a} {vs:List c} {i:Nat} {k:a},Z ks=Z vs->ks[i]?=aa k->∃v,(ks.zip vs)[i]?=aa (k,v,)
 | [],_,_,_,_,e=>by simp at e
 | _::_,[],_,_,h,_=>by cases h
 |k::ks,v::vs,0,_,_,e=>by simp at e;subst e;show(v,rfl)
 |k::ks,v::vs,i+1,_,h,e=>by
  have(u,b):=HK (by simpa using h) (by simpa using e);show(u,by simpa using b)
variable{f:MF1}
def Rr(I:DE c X e f):DI c X tg e (rS f):=PI.imp (Ro I) λC H R L=>by
 have(Hf0,H0,Hf,M,ds,st,b,k):=L;unfold rS at b
 cases h:f M with
 |none=>rw[h]at b;nomatch b
 |some d=>
  rw[h,aA]at b
  cases d with
  |kd ks E=>
   cases b;show(Hf0,H0,Hf,M,_,st,h,λv Hf' H' x r=>?_);have(a,od,vs,A,q,z,B):=r;show(a,od,_,A,x.s _ _ q,k _ Hf' H' x λbm H2 f2 s2 i=>?_);have l:=(f2.trans s2) _ _ q;show(λd g=>?_,λw=>(_,l,by rw[ox,<- z];rw[ay]at w;lia));rw[cu]at g
   cases j:ks[i]? with
   |none=>rw[j]at g;nomatch g
   |some n=>
    rw[j]at g;cases g;have(u,m):=HK z j;show((_,n,u,l,m),λy N (p,J)=>?_);subst p;have(Q,T,h2,G):=J _ l;rw[m]at h2;cases h2;subst G
    show(bm,Ext.refl s2,Rp n)
  | _=>nomatch b
def gP(ks:List Key)(E:LD)(k:Key):OD:=((ks.zip E).find? λa=>decide (a.1=k)).map (·.2)
def vg{G:Gc}{H:Hp}{k:Key}:∀{ks:List Key} {E:LD} {vs:LVv},Z ks=Z vs->am G H E vs->(∀d,gP ks E k=aa d->∃v,cO (ks.zip vs) k=aa v/\Rep G H d v)/\(gP ks E k=ab->cO (ks.zip vs) k=ab)
 | [],_,_,_,_=>(λd h=>(by cases h),λ_=>rfl)
 | _::_,_,[],h,_=>by cases h
 |j::ks,[],v::vs,_,r=>by cases (r)
 |j::ks,x::E,v::vs,h,q4_=>by
  have(u,f,e,c,h2):=q4_
  injection e with e1 e2
  subst e1 e2;have(a,b):=vg (by simpa using h) h2;unfold gP;simp only[fw,fw]
  by_cases q:j=k
  .subst q;show(λd hd=>(v,q5 rfl,?_),λhd=>?_)
   .rw[find?_cons_of_pos (by simp)]at hd;cases hd;show c
   .rw[find?_cons_of_pos (by simp)]at hd;cases hd
  .rw[find?_cons_of_neg (by simpa using q),oU q];show(a,b)
abbrev vh:D->Option (List Key×LD)
 |.dic ks E=>aa (ks,E,)
 |.kd ks E=>aa (ks,E,)
 | _=>ab
variable{a:Expr}
def HL{p:List Key×LD}(e:vh d=aa p)(r:Rep G H d v):∃a vs,v=.ref a/\Rd H a (.dK (p.1.zip vs))/\Z p.1=Z vs/\am G H p.2 vs:=by
 cases d with
 |dic ks E=>cases e;have(a,vs,b,q,z,r):=r;show(a,vs,b,.inl q,z,r)
 |kd ks E=>cases e;have(a,od,vs,b,q,z,r):=r;show(a,vs,b,.inr (od,q),z,r)
 | _=>nomatch e
variable{u:HO}
def Rd.up{a:Addr}(h:Rd H a u)(s:aq H H'):Rd H' a u:=h.imp (s _ _) λb=>by
 have(o,e):=b;show((o,s _ _ e))
def rT(x y:D):OD:=(vh x).bind λp=>(jx y).bind λk=>gP p.1 p.2 k
variable{b:Expr}
def Rs(hu:X.A.units+64<cLine)(ha:DE c X a f)(J:DE c X b g)(L:autoParam (q9 b) Zj):DE c X (.Subscript a b pos) (m2 rT f g):=
 PE.imp (yp (by lia) ha J L) λC H Q U=>by
  have(Hf0,H0,Hf,M,d,st,G,k):=U;have(x,y,B,E,e):=mY G;show(Hf0,H0,Hf,M,x,st,B,λv b3 H1 n Y=>(Hf0,H0,b3,M,y,st.step n,E,λu bm H2 m r2=>?_));unfold rT at e
  cases h:vh x with
  |none=>rw[h]at e;nomatch e
  |some p=>
   rw[h,aA]at e
   cases i:jx y with
   |none=>rw[i]at e;nomatch e
   |some T=>
    rw[i,aA]at e;have(l,vs,el,q,z,r):=HL h (Y.up m.f);have I:=rK i r2;subst I el;have(w,N,j):=(vg z r).1 d e;show(l,w,rfl,.inl (_,T,q.up m.s,rfl,N.symm),k _ bm H2 (n.trans m) j)
def pT(i:Nat)(fk a:MF1)(M:LS):OD:=match M[i]? with
 |some (.ownd ks E)=>(fk M).bind λy=>(jx y).bind λk=>(a M).map λx=>(gP ks E k).getD x
 | _=>ab
variable{cpos:Pos}
def Ru{o:Expr}(hu:X.A.units+64<cLine){B:MF1}(U:PE X o (cX i))(T:DE c X a fk)(hx:DE c X b B)(m:M2 X o "get" apos a b cpos):DE c X (.Call (.Attribute o "get" apos) [a,b] [] cpos) (pT i fk B):=
 PE.imp (yq (by lia) U T hx m) λC H Q q_=>by
  have(Hf0,H0,Hf,M,d,st,e,k):=q_;unfold pT at e;split at e
  .rename_i ks E es
   cases j:fk M with
   |none=>rw[j]at e;nomatch e
   |some y=>
    rw[j,aA]at e
    cases p:jx y with
    |none=>rw[p]at e;nomatch e
    |some J=>
     rw[p,aA]at e
     cases n:B M with
     |none=>rw[n]at e;nomatch e
     |some x=>
      rw[n]at e;cases e;have(l,el,h0,hf,vs,q,z,r):=st.ownAt rfl es;show(_,el,l,rfl,.inl (_,.inl q),Hf0,H0,Hf,M,y,st,j,λv b3 H1 g r1=>(Hf0,H0,b3,M,x,st.step g,n,λu bm H2 I r2=>?_));have L:=rK p r1;subst L;show(cO _ J,fR.k ((g.trans I).h _ _ q),k _ bm H2 (g.trans I) ?_);have(N,h2):=vg z (r.up (g.trans I).f)
      cases hv:gP ks E J with
      |none=>rw[h2 hv];show r2
      |some d=>
       have(w,Y,G):=N d hv;rw[Y];show G
  .nomatch e
def pU(i:Nat)(F:MF3)(M:LS):Option Fl:=match M[i]? with
 |some (.ownd ks E)=>F (M.set i (.im (.kd ks E)))
 | _=>F M
def Rv{F:MF3}{X4:jg}(I:Inv X U C H s)(h:tDS (Gx c X) (pU i F) X4 C H):∃H',Inv X U C H' s/\tDS (Gx c X) F X4 C H':=by
 have(Hf0,H0,Hf,M,o,Q,T,k):=h;unfold pU at T;split at T
 .rename_i ks E es;have(l,A,h0,G,vs,q,z,r):=Q.ownAt rfl es;have(od,I'):=I.freeze q;show(_,I',Hf0,H0,upd Hf l (.frz od (.dK (ks.zip vs))),M.set i _,o,?_,T,k.up (bR G))
  have s1 : au _ Hf0 H0 Hf (upd H l (.frz od (.dK (ks.zip vs)))) C (M.set i .no):=Q.chg es A (λb u Y=>by
   by_cases g:b=l
   .subst g;show .inl ((Holds.own rfl).mpr rfl)
   .show .inr (by rw[aL g];show Y)) trivial λa p=>(p.calm rfl).elim
  have s2:au (Gx c X) Hf0 H0 (upd Hf l (.frz od (.dK (ks.zip vs)))) (upd H l (.frz od (.dK (ks.zip vs)))) C (M.set i .no):=by
   have fr:HH (Gx c X) Hf H C (M.set i .no) l:=λm t w b x p=>by
    rcases cY b with⟨_,e',_⟩ |⟨ne,b⟩
    .subst e';show p.calm rfl
    .show ne (Q.dj m i t _ w _ l b es x A p ((Holds.own rfl).mpr rfl))
   have L:HH (Gx c X) Hf (upd H l (.frz od (.dK (ks.zip vs)))) C _ l:=λm t w b x p=>by
    cases B:t.isOwn with
    |true=>
     show fr m t w b x ((Holds.own B).mpr ((Holds.own B).mp p))
    |false=>
     cases t with
     |deep o'=>
      have(fp,rr,ha):=p
      have (u,fp',eu,r2,_):=Q.at' m _ _ x (by
       rcases cY b with⟨_,e',_⟩ |⟨ne,b⟩
       .nomatch e'
       .show b)
      cases eu
      have r3:OT _ Hf (upd H l (.frz od (.dK (ks.zip vs)))) o' w fp':=r2.frame (aq.refl _) λb' u' g j=>by
       rw[aL (λJ=>?_)]
       .show g
       .subst J
        rcases j with j |j
        .rw[q]at g;cases g;nomatch j
        .show fr m _ w b x (fp',r2,j)
      have:=OT.funM o' w _ _ r3 rr;subst this
      show fr m _ w b x (fp',r2,ha)
     | _=>first |show tG p.1 |nomatch B
   show s1.re (s1.ext.f.trans (bR G),s1.ext.h,λb u e=>?_,λb u e t=>?_) rfl (λm v t a b=>?_) λm t v a b x p=>(t,b,(s1.at' m _ t x b).back (λo' fp _ r=>r.up (bR G) (aq.refl _)) p)
   .by_cases Y:b=l
    .subst Y;rw[bd]at e ⊢;show e
    .rw[aL Y]at e;show s1.ext.s b u e
   .rw[aL (λz=>by subst z;rw[h0]at e;nomatch e)];show s1.ext.n b u e t
   .have J:=s1.at' m v t a b
    cases B:t.isOwn with
    |true=>
     have(l2,e2,e3,e4,q2):=J.own B;subst e2;show .ofOwn B (l2,rfl,e3,?_,q2.up (bR G) λo' ho'=>ho');rw[aL (λz=>by subst z;show L m t _ b a ((Holds.own B).mpr rfl))]
     show e4
    |false=>
     cases t with
     |no=>trivial
     |im d=>have(u',A,r):=J;show(u',A,r.up (bR G))
     |val u'=>show J
     |deep o'=>
      have(w,fp,A,r,n,zz):=J;subst A;show(w,fp,rfl,r.up (bR G) (aq.refl _),n,λy hy=>((zz y hy).1,?_));rw[aL (λz=>by subst z;show L m _ w b a (fp,r,hy))]
      show(zz y hy).2
     | _=>nomatch B
  have N:=s2.setIm (i:=i) (d:=.kd ks E) (l,od,vs,rfl,bd,z,r.up (bR G))
  have e3:C.set i (aa (.ref l))=C:=by
   apply mo;intro jj
   by_cases hj:i=jj
   .subst hj;rw[j9 (c7.mp A).1,A]
   .rw[lh hj]
  rw[e3,set_set]at N;show N
 .show(H,I,Hf0,H0,Hf,M,o,Q,T,k)
def Rw{F:MF3}(i:Nat)(h:DS c X st F):DS c X st (pU i F):=λU s C H X4 I q=>by
 have(H',a,b):=Rv I q;show h U s C H' X4 a b
nonrec def Xe:=LS->Option (D×LS)
nonrec def Xa:=LS->Option (LD×LS)
nonrec def Xt:=LS->Option (Bool×LS)
def mX(f:MF1):Xe:=λM=>(f M).map λd=>(d,M,)
def cB:Xa:=λM=>aa ([],M,)
def bN(f:Xe)(g:Xa):Xa:=λM=>(f M).bind λp=>(g p.2).map λq=>(p.1::q.1,q.2,)
def Rx(h:mX f M=aa (d,ρ',)):f M=aa d/\ρ'=M:=by
 unfold mX at h
 cases e:f M with
 |none=>rw[e]at h;nomatch h
 |some d'=>rw[e]at h;cases h;show(rfl,rfl)
def HM{f:Xe}{g:Xa}(h:bN f g M=aa (ds,ρ',)):∃d r ρ1,f M=aa (d,ρ1,)/\g ρ1=aa (r,ρ',)/\ds=d::r:=by
 unfold bN at h
 cases b:f M with
 |none=>rw[b]at h;nomatch h
 |some p=>
  rw[b,aA]at h
  cases a:g p.2 with
  |none=>rw[a]at h;nomatch h
  |some q=>rw[a]at h;cases h;show(p.1,q.1,p.2,rfl,a,rfl)
inductive rV(G:Gc)(f:Xa)(C:St)(H:Hp)(Q:LVv->Hp->Prop):Prop
 |mk:∀Hf0 H0 Hf M ds ρ',au G Hf0 H0 Hf H C M->f M=aa (ds,ρ',)->(∀vs Hf' H',aq Hf Hf'->au G Hf0 H0 Hf' H' C ρ'->am G Hf' ds vs->Q vs H')->rV G f C H Q
structure DAX(c:Str->Addr)(X:Cx)(es:LEx)(f:Xa):Prop where
 pa:PA X es (rV (Gx c X) f)
 len:∀M ds ρ',f M=aa (ds,ρ',)->Z ds=Z es
def DE.dx(h:DE c X e f):DX c X e (mX f):=PE.imp h λC H Q g=>by
 have(Hf0,H0,Hf,M,d,ρ',st,b,k):=g;have(a,rfl):=Rx b;show(Hf0,H0,Hf,_,d,st,a,λv Hf' H' x r=>k v Hf' H' x.f (st.step x) r)
def Ry:DAX c X [] cB:=(PA.imp d7 λC H Q b=>by have(Hf0,H0,Hf,M,ds,ρ',st,a,k):=b;cases a;show k [] Hf H (aq.refl _) st rfl,λM ds ρ' h=>by cases h;rfl)
variable{f:Xe}
def HN{g:Xa}(ha:DX c X e f)(hr:DAX c X es g)(l:autoParam (StE X e es) Zb):DAX c X (e::es) (bN f g):=by
 show(PA.imp (eW ha hr.pa l) λC H Q m=>?_,λM ds ρ' h=>?_)
 .have(Hf0,H0,Hf,M,ds,ρ',st,j,k):=m;have(d,r,ρ1,i,a,rfl):=HM j;show(Hf0,H0,Hf,M,d,ρ1,st,i,λv b3 H1 f1 st1 n=>(Hf0,H0,b3,ρ1,r,ρ',st1,a,λvs bm H2 f2 b p=>k _ bm H2 (f1.trans f2) b (.cons (n.up f2) p)))
 .have(d,r,ρ1,i,a,rfl):=HM h;simp[hr.len ρ1 r ρ' a]
def fY(i:Nat)(f:Xe)(M:LS):Option Fl:=(f M).map λp=>.nx (p.2.set i (.im p.1))
abbrev zA:D->D->OD
 |.int i,.int j=>aa (.int (i+j))
 |.str a,.str b=>if a.length+b.length<=16777216 then aa (.str (a++b)) else ab
 | _,_=>ab
def lY(i:Nat)(f:Xe)(M:LS):Option Fl:=match M[i]? with
 |some (.im x)=>(f M).bind λp=>(zA x p.1).map λz=>.nx (p.2.set i (.im z))
 | _=>ab
def vi(i:Nat)(g:X.N.Nodup)(h:DX c X e f)(hi:autoParam (X.N[i]?=aa x) Zb)(m:autoParam (Loc X.env.scope x) Zf)(l:autoParam (f9 e (aa (.Name x b4)) pos.line X.env=pure af) Zb)(j:autoParam (LcF X x) Zg):
  DS c X (.Assign [.Name x b4] e pos) (fY i f):=PS.imp (oS g hi m h l j) λX4 C H n=>by
 have(Hf0,H0,Hf,M,o,q,a,k):=n;unfold fY at a
 cases b:f M with
 |none=>rw[b]at a;nomatch a
 |some p=>
  rw[b]at a;cases a;show(Hf0,H0,Hf,M,p.1,p.2,q,b,λv Hf' H' s d r=>k _ Hf' H' s (d.setIm r))
def Rz:PIp X .Add (rD (Gx c X) zA):=λU s C H x y v u Q I l m q=>by
 have(Hf,dx,f,d,n,g,h,e,k):=q
 show (by
 cases dx with
 |int i=>
  cases f with
  |int j=>
   subst g;subst h;cases e
   show L6 U s C H _ _ v u Q I l m (_,_,rfl,rfl,k _ Hf H (Ext.refl n) rfl)
  | _=>nomatch e
 |str a=>
  cases f with
  |str b=>
   subst g;subst h;replace e:(if _ then aa _ else ab)=aa d:=e;split at e
   .rename_i p;cases e;show MM U s C H _ _ v u Q I l m (_,_,rfl,rfl,by rw[dE];show p,k _ Hf H (Ext.refl n) rfl)
   .grind
  | _=>nomatch e
 | _=>nomatch e)
def HP(i:Nat)(A:X.N.Nodup)(B:DX c X e f)(hi:autoParam (X.N[i]?=aa x) Zb)(G:autoParam (Loc X.env.scope x) Zf)(E:autoParam (LcF X x) Zg):
  DS c X (.AugAssign (.Name x b4) .Add e pos) (lY i f):=PS.imp (EW A hi G B (Rz) E) λX4 C H I=>by
 have(Hf0,H0,Hf,M,o,l,a,k):=I;unfold lY at a;split at a
 .rename_i d es
  cases g:f M with
  |none=>rw[g]at a;nomatch a
  |some p=>
   rw[g,aA]at a
   cases h:zA d p.1 with
   |none=>rw[h]at a;nomatch a
   |some z=>
    rw[h]at a;cases a;have(v,n,w,q,j):=l.slot es;subst q;show(_,n,Hf0,H0,Hf,M,p.1,p.2,l,g,λu Hf' H' s b r=>(Hf',d,p.1,z,b.sub,j.up s,r,h,λy bm H2 m J=>k _ bm H2 (s.trans m.f) ((b.step m).setIm J)))
 .nomatch a
def isE(x d:D):Bool:=deq 19 d x==aa ac
def gQ(y x:D):OD:=match y with
 |.lst ds=>if dB x ds=aa ac then aa (.int ((ds.findIdx (isE x):Nat):Int)) else ab
 | _=>ab
def zB{x:D}:∀{ds:LD} {b:Bool},dB x ds=aa b->(∀d∈ds,∃f,deq 19 d x=aa f)/\ds.any (isE x)=b
 | [],_,h=>by cases h;show(λd hd=>(dD hd).elim,rfl)
 |d::ds,b,h=>by
  have(a,j,c,h2,rfl):=GS h;have(g,i):=zB h2;show(λd' hd=>?_,?_)
  .rcases bc.mp hd with e |e
   .rw[e];show(a,c)
   .show g d' e
  .rw[gA,i];unfold isE;rw[c]
   cases a <;> rfl
abbrev zC(G:Gc):V->LVv->Hp->VK->Prop:=λa vs H Q=>∃Hf y x d w,vs=[w]/\aq Hf H/\Rep G Hf y a/\Rep G Hf x w/\gQ y x=aa d/\∀v Hf' H',Ext Hf H Hf' H'->Rep G Hf' d v->Q v H'
def HQ(hu:X.A.units+64<cLine):MtM X "list.index" (zC (Gx c X)):=by
 rintro U s C H x E v us Q I rx rv ⟨Hf,y,z,d,w,rfl,i,r1,r2,e,k⟩;unfold gQ at e;split at e
 .rename_i ds;split at e
  .rename_i a;cases e;have(l,vs,el,q,B):=r1;subst el;subst rx;have(u,rfl,ru):=rv.one;have(z1,L,n,Y,T,e0):=I.lstM (i _ _ q);have(f,M,ha):=rN (A:=X.A.in1) I (by rw[qS];lia) (r2.up i) ru (B.up i) Y a;have(k1,k2):=zB a
   have same:∀m _,f L[m]=isE z (ds.getD m .non):=λm hm=>by
    have r:m<Z ds:=by rw[B.length,T];show hm
    have(v1,j,J):=B.get (b6 r);have(u1,b,ru1):=Y.get j;rw[b6 hm]at b;cases b;have(_,d',v',r',G,h'):=M L[m] (g5 hm);have ev:=aD.inj G ru1;subst ev;have(b1,g):=k1 ds[m] (g5 r);rw[bD,b6 r];change _=isE z ds[m];unfold isE;rw[g,(rM 19 r' (J.up i) h' g)]
    cases b1 <;> rfl
   have N:=wZ (any_eq_true.mp k2);have h:ds.findIdx (isE z)<Z L:=by rw[<- T,<- B.length];show N
   show call_meets F.slot_list_index (_,e0,rfl) F.entry_list_index (F.args_list_index_2 _ _) (SeqAt.list_indexAt l L.toArray n ab #[] u f _ (by rw[size_toArray];show h) (by rw[dE]at z1;lia) ?_ ?_) (e0,λy hy=>(M y (by simpa using hy)).1,(.int _,H,I.tok _,(_,rfl),k _ Hf H (Ext.refl i) rfl))
   .simp only[tK,same _ h,bD,b6 N];show findIdx_getElem
   .intro m hm p;rw[tK,same m (by rw[size_toArray]at hm;show hm),bD,b6 _];have:=not_of_lt_findIdx p;show this
  .nomatch e
 .nomatch e
def RA{f:MF1}(h:PE X e (tBM X.K "list" (zC (Gx c X)) (tD (Gx c X) f) (ji (tD (Gx c X) g) ig))):DE c X e (m2 gQ f g):=PE.imp h λC H Q A=>by
 have(Hf0,H0,Hf,M,d,st,z,k):=A;have(x,y,p,r,a):=mY z
 obtain⟨ds,rfl⟩:∃ds,x=.lst ds:=by
  unfold gQ at a;split at a
  .show(_,rfl)
  .nomatch a
 show(Hf0,H0,Hf,M,_,st,p,λv b3 H1 i m=>?_);have(l,vs,el,q,B):=id m;subst el;show(.inl (rfl,_,SqL.of (i.s _ _ q)),Hf0,H0,b3,M,y,st.step i,r,λu bm H2 j E=>(bm,.lst ds,y,d,u,rfl,j.s,m.up j.f,E,a,λw b n I G=>k w b n ((i.trans j).trans I) G))
def HR{b:Type}:∀(a:List (Int×b)),(a.map (·.1)).Nodup->∀z∈a,a.find? (λy=>y.1==z.1)=aa z
 | [],_,_,h=>(dD h).elim
 |y::a,nd,z,h=>by
  rw[bE,b8]at nd;rw[find?_cons]
  rcases bc.mp h with e |e
  .rw[e,beq_self_eq_true]
  .have:_=af:=beq_eq_false_iff_ne.mpr λq=>nd.1 (aH.mpr (z,e,q.symm));rw[this];show HR a nd.2 z e
def DE.pe{f:MF1}(h:DE c X e f):PE X e (tD (Gx c X) f):=h
def DX.pe(h:DX c X e f):PE X e (tDX (Gx c X) f):=h
def RB(x y z:D):OD:=(vh x).bind λp=>(jx y).map λk=>(gP p.1 p.2 k).getD z
def rW(f g h:MF1)(M:LS):OD:=(f M).bind λx=>(g M).bind λy=>(h M).bind λz=>RB x y z
def RC{o:Expr}(hu:X.A.units+64<cLine){f h:MF1}(ho:DE c X o f)(hk:DE c X a g)(hx:DE c X b h)(m:M2 X o "get" apos a b cpos):DE c X (.Call (.Attribute o "get" apos) [a,b] [] cpos) (rW f g h):=
 PE.imp (yq (by lia) ho hk hx m) λC H Q q_=>by
  have(Hf0,H0,Hf,M,d,st,e,k):=q_;unfold rW at e;have(x,I,e):=tQ.mp e;have(y,J,e):=tQ.mp e;have(z,L,e):=tQ.mp e;have(p,N,e):=tQ.mp e;have(n,T,e):=Option.map_eq_some_iff.mp e;show(Hf0,H0,Hf,M,x,st,I,λv b3 H1 j r1=>?_);have(l,vs,Y,rd,z0,r):=HL N r1;subst Y;show(l,rfl,.inl (_,rd.up j.s),Hf0,H0,b3,M,y,st.step j,J,λu bm H2 E r2=>(Hf0,H0,bm,M,z,(st.step j).step E,L,λw q G x3 r3=>?_));have U:=rK T r2;subst U;have i:=E.trans x3;show(cO (p.1.zip vs) n,.inl (_,n,(rd.up j.s).up i.h,rfl,rfl),k _ q G (j.trans i) ?_);have(h1,h2):=vg (k:=n) z0 (r.up i.f);subst e
  cases hv:gP p.1 p.2 n with
  |none=>rw[h2 hv];show r3
  |some d=>
   have(w',hw,B):=h1 d hv;rw[hw];show B
structure Foc(G:Gc)(Hf H:Hp)(o:O)(v:V)(fp:LAd)(o1:O)(v1:V)(f1:LAd)(R:O->O):Prop where
 r:OT G Hf H o1 v1 f1
 n:f1.Nodup
 sub:∀a∈f1,a∈fp
 back:∀(Hf' H':Hp) (o2:O) (f2:LAd),aq Hf Hf'->(∀b u,H b=aa u->b∉f1->H' b=aa u)->OT G Hf' H' o2 v1 f2 ->
  ∃fp',OT G Hf' H' (R o2) v fp'/\(∀a∈fp',a∈f2\/(a∈fp/\a∉f1))/\(f2.Nodup->(∀a∈f2,a∈fp->a∈f1)->fp'.Nodup)
def Foc.refl{o:O}(h:OT G Hf H o v fp)(n:fp.Nodup):Foc G Hf H o v fp o v fp id:=
 (h,n,λ_ h=>h,λ_ _ _ f2 _ _ q=>(f2,q,λ_ h=>.inl h,λn _=>n))
variable{v1:V}{f1 f2:LAd}{R R':O->O}
def Foc.trans{o o1 o2:O}{g:V}(F:Foc G Hf H o v fp o1 v1 f1 R)(F':Foc G Hf H o1 v1 f1 o2 g f2 R'):Foc G Hf H o v fp o2 g f2 (λx=>R (R' x)):=by
 show(F'.r,F'.n,λa h=>F.sub a (F'.sub a h),λHf' H' m i s k h=>?_);have(d,p,m1,j):=F'.back Hf' H' m i s k h;have(fp',q,m2,l):=F.back Hf' H' _ d s (λb u e c=>k b u e λz=>c (F'.sub b z)) p;show(fp',q,λa ha=>?_,λnf f=>l (j nf λa ha c=>f a ha (F.sub a c)) λa ha c=>?_)
 .rcases m2 a ha with z |⟨z,z'⟩
  .rcases m1 a z with y |⟨y,y'⟩
   .show .inl y
   .show .inr (F.sub a y,y')
  .show .inr (z,λy=>z' (F'.sub a y))
 .rcases m1 a ha with y |⟨y,_⟩
  .show F'.sub a (f a y c)
  .show y
variable{b:Addr}
def HS{o:O}{f:LAd}(h:OT G Hf H o v f)(e:H b=aa u)(t:iG u=ac):b∉f:=λz=>by
 have(d,c,a):=OT.memM o v f h b z
 grind
def OTs.foc:∀{os:List O} {vs:LVv} {fp:LAd} {k:Nat} {o1:O},OTs G Hf H os vs fp->fp.Nodup->os[k]?=aa o1->∃v1 f1,vs[k]?=aa v1/\OT G Hf H o1 v1 f1/\f1.Nodup/\(∀a∈f1,a∈fp) /\
  ∀(Hf' H':Hp) (o2:O) (d:V) (f2:LAd),aq Hf Hf'->(∀b u,H b=aa u->(iG u=ac\/b∈fp)->b∉f1->H' b=aa u)->OT G Hf' H' o2 d f2 ->
  ∃fp',OTs G Hf' H' (os.set k o2) (vs.set k d) fp'/\(∀a∈fp',a∈f2\/(a∈fp/\a∉f1))/\(f2.Nodup->(∀a∈f2,a∈fp->a∈f1)->fp'.Nodup)
 | [],_,_,_,_,_,_,e=>by simp at e
 |o::os,_,_,0,o1,q5_,n,e'=>by
  have(v,r,f1,g,e,i,h2,l):=q5_;cases e';subst e l;have(m,p,dj):=eO.mp n;show(v,f1,rfl,i,m,λa ha=>bV _ ha,λHf' H' o2 d f2 s k h=>(f2++g,?_,λa ha=>?_,λnf j=>(eO.mpr (nf,p,λa ha b c z=>by subst z;show dj a (j a ha (ci _ c)) a c rfl))))
  .simp only[tN,tN];show(d,r,f2,g,rfl,h,OTs.frameM s os r g h2 λb u c hm=>k b u c (hm.imp_right λy=>ci _ y) λz=>?_,rfl)
   rcases hm with t |t
   .show HS i c t z
   .show dj b z b t rfl
  .rcases bz.mp ha with z |z
   .show .inl z
   .show .inr (ci _ z,λy=>dj a y a z rfl)
 |o::os,_,_,k+1,o1,q5_,n,e'=>by
  have(v,r,f,g,e,i,h2,l):=q5_;subst e l;have(m,p,dj):=eO.mp n;have(v1,f1,A,q,C,sb,bk):=OTs.foc h2 p e';show(v1,f1,by simp only[g4];show A,q,C,λa ha=>ci _ (sb a ha),λHf' H' o2 d f2 s k h=>?_);have(w,E,x,B):=bk Hf' H' o2 d f2 s (λb u c hm=>k b u c (hm.imp_right λy=>ci _ y)) h;show(f++w,?_,λa ha=>?_,λnf j=>?_)
  .simp only[qG,qG];show(v,_,f,w,rfl,i.frame s λb u c hm=>k b u c (hm.imp_right λy=>bV _ y) λz=>?_,E,rfl)
   rcases hm with t |t
   .show HS q c t z
   .show dj b t b (sb b z) rfl
  .rcases bz.mp ha with z |z
   .show .inr (bV _ z,λy=>dj a z a (sb a y) rfl)
   .rcases x a z with y |⟨y,y'⟩
    .show .inl y
    .show .inr (ci _ y,y')
  .show eO.mpr (m,B nf λa ha c=>j a ha (ci _ c),λa ha b c z=>?_);subst z
   rcases x a c with y |⟨y,_⟩
   .show dj a ha a (sb a (j a y (bV _ ha))) rfl
   .show dj a ha a y rfl
def nJ{b:Type}:∀{l:List b} {k:Nat} {x:b},l[k]?=aa x->l.set k x=l
 | [],_,_,e=>by simp at e
 | _::_,0,_,e=>by simp at e;subst e;rfl
 |a::l,k+1,x,e=>by rw[g4]at e;rw[qG,nJ e]
variable{os:List O}{o1:O}
def Foc.root{o:O}{a:Addr}{fs:LAd}{k:Nat}{W:List O->O}(ha:H a=aa u)(C:iG u=af)(B:OTs G Hf H os vs fs)(n:(a::fs).Nodup)(e:os[k]?=aa o1)
 (mk:∀Hf' H' f c,H' a=aa u->OTs G Hf' H' f vs c->Z f=Z os->OT G Hf' H' (W f) (.ref a) (a::c)):∃v1 f1,vs[k]?=aa v1/\Foc G Hf H o (.ref a) (a::fs) o1 v1 f1 (λx=>W (os.set k x)):=by
 have(g,nf):=b8.mp n;have(v1,f1,j,q,A,sb,bk):=B.foc nf e;show(v1,f1,j,q,A,λb d=>bi _ (sb b d),λHf' H' o2 f2 s m h=>?_);have(c,r,p,w):=bk Hf' H' o2 v1 f2 s (λb u d _=>m b u d) h;rw[nJ j]at r;show(a::c,mk Hf' H' _ c (m a u ha λz=>g (sb a z)) r (by simp),λb d=>?_,λi l=>b8.mpr (λz=>?_,w i λb d v=>l b d (bi _ v)))
 .rcases bc.mp d with z |z
  .subst z;show .inr (az,λy=>g (sb b y))
  .rcases p b z with y |⟨y,y'⟩
   .show .inl y
   .show .inr (bi _ y,y')
 .rcases p a z with y |⟨y,_⟩
  .show g (sb a (l a y az))
  .show g y
def Foc.at{o:O}(h:OT G Hf H (.at l o) v fp)(n:fp.Nodup):Foc G Hf H (.at l o) v fp o v fp (.at l):=
 (h.2,n,λ_ h=>h,λ_ _ _ f2 _ _ q=>(f2,(h.1,q),λ_ h=>.inl h,λn _=>n))
def au.foc{o o1 o2:O}(m:au G Hf0 H0 Hf H C M)(es:M[i]?=aa (.deep o))(q:C[i]?=aa (aa v))(r:OT G Hf' H1 o v fp)(x:Ext Hf H Hf' H1)(F:Foc G Hf' H1 o v fp o1 v1 f1 R)
 (kk:∀b u,H1 b=aa u->b∉f1->H2 b=aa u)(new:OT G Hf' H2 o2 v1 f2)(J:f2.Nodup)(h2:∀a∈f2,a∈f1\/(H a=ab/\Hf' a=ab)):au G Hf0 H0 Hf' H2 C (M.set i (.deep (R o2))):=by
 have(L,g,E,d,n,z):=(m.at' i _ _ q es);cases E;have:=OT.funM o v fp g r (d.up x.f x.h);subst this;have(fp',B,mem,nd):=F.back Hf' H2 o2 f2 (aq.refl _) kk new
 have c:∀a∈fp',a∈fp\/_:=λa ha=>by
  rcases mem a ha with y |⟨y,_⟩
  .rcases h2 a y with w |w
   .show .inl (F.sub a w)
   .show .inr w
  .show .inl y
 show m.chgX x es q (λb u j=>?_) (v,fp',rfl,B,nd J λa ha j=>?_,λa ha=>?_) λa p=>?_
 .by_cases h:b∈f1
  .show .inl (fp,d,F.sub b h)
  .show .inr (kk b u j h)
 .rcases h2 a ha with y |y
  .show y
  .have(u,e,_):=OT.memM o v fp d a j;rw[y.1]at e
   nomatch e
 .rcases c a ha with y |y
  .have(u,e,I):=OT.memM o v fp d a y;show((z a y).1,?_);rw[x.n a u e I];show(z a y).2
  .show(m.ext.h.free y.1,y.2)
 .have(A,l,ha):=p;have:=OT.funM _ _ _ _ B l;subst this
  rcases c a ha with y |y
  .show .inl (fp,d,y)
  .show .inr y.1
def au.was{o:O}(g:au G Hf0 H0 Hf H C M)(es:M[i]?=aa (.deep o))(d:C[i]?=aa (aa v))(x:Ext Hf H Hf' H1)(r:OT G Hf' H1 o v fp):∀a∈fp,H a≠ab:=λa ha=>by
 have(l,b,e,c,n,z):=g.at' i _ _ d es;cases e;have:=OT.funM o v fp b r (c.up x.f x.h);subst this;have(u,j,_):=OT.memM o v fp c a ha
 grind
abbrev zD:D->Option Key
 |.int i=>aa (.inl i)
 |.bl b=>aa (.inl (cond b 1 0))
 |.str x=>aa (.inr x)
 | _=>ab
abbrev rX:LD->Option (List Key)
 | []=>aa []
 |d::ds=>(zD d).bind λk=>(rX ds).map (k::·)
abbrev k4:D->Option (List Key)
 |.tup ds=>rX ds
 | _=>ab
def RD{k:Key}(h:zD d=aa k)(r:Rep G H d v):kR k v:=by
 cases d with
 |int i=>cases h;show .inl r
 |bl b=>cases h;show .inr (b,r,rfl)
 |str x=>cases h;show r
 | _=>nomatch h
def HU{G:Gc}{H:Hp}:∀{ds:LD} {ks:List Key} {vs:LVv},rX ds=aa ks->am G H ds vs->KRs ks vs
 | [],_,_,h,r=>by cases h;cases (r);show .nil
 |d::ds,ks,_,h,q4_=>by
  have(v,r,e,c,h2):=q4_;subst e;dsimp only[rX]at h
  cases a:zD d with
  |none=>rw[a]at h;cases h
  |some k=>
   simp only[a,aA]at h
   cases b:rX ds with
   |none=>rw[b]at h;cases h
   |some f=>rw[b]at h;cases h;show .cons (RD a c) (HU b h2)
def rY{k:List Key}(h:k4 d=aa k)(r:Rep G H d v):∃b,v=.ref b/\fE H b k:=by
 cases d with
 |tup ds=>have(a,vs,e,q,B):=r;show(a,e,vs,q,HU h B)
 | _=>nomatch h
abbrev aU{a:Type}[DecidableEq a](f:a):List a->Option Nat
 | []=>ab
 |n::ns=>if n=f then aa 0 else (aU f ns).map (· + 1)
def zE{a:Type}[DecidableEq a]{f:a}:∀{ns:List a} {k:Nat},aU f ns=aa k->k<Z ns
 | [],_,e=>by cases e
 |n::ns,k,e=>by
  dsimp only[aU]at e;split at e
  .cases e;show oC _
  .cases h:aU f ns with
   |none=>rw[h]at e;cases e
   |some j=>rw[h]at e;cases e;show Nat.succ_lt_succ (zE h)
def zF{a:Type}[DecidableEq a]{b:Type}{f:a}:∀{ns:List a} {k:Nat} (vs:List b),aU f ns=aa k->(ns.zip vs).lookup f=vs[k]?
 | [],_,_,e=>by cases e
 | _::_,_,[],_=>by rfl
 |n::ns,k,v::vs,e=>by
  dsimp only[aU]at e;simp only[fw,mq];split at e
  .rename_i h;subst h;cases e;rw[beq_self_eq_true];rfl
  .rename_i h;simp only[beq_eq_false_iff_ne.mpr (eQ h)]
   cases h':aU f ns with
   |none=>rw[h']at e;cases e
   |some j=>
    rw[h']at e;cases e;show zF vs h'
def pV{a:Type}[DecidableEq a]{f:a}:∀{ns:List a} {k:Nat} (vs:LVv),aU f ns=aa k->cO (ns.zip vs) f=vs[k]?
 | [],_,_,e=>by cases e
 | _::_,_,[],_=>by rfl
 |n::ns,k,v::vs,e=>by
  dsimp only[aU]at e;simp only[fw];split at e
  .rename_i h;cases e;rw[q5 h];rfl
  .rename_i h;rw[oU h]
   cases h':aU f ns with
   |none=>rw[h']at e;cases e
   |some j=>
    rw[h']at e;cases e;show pV vs h'
def rZ{a:Type}[DecidableEq a]{f:a}:∀{ns:List a} (vs:LVv),aU f ns=ab->cO (ns.zip vs) f=ab
 | [],_,_=>rfl
 | _::_,[],_=>by rfl
 |n::ns,v::vs,e=>by
  dsimp only[aU]at e;simp only[fw];split at e
  .cases e
  .rename_i h;rw[oU h]
   cases h':aU f ns with
   |none=>show rZ vs h'
   |some j=>rw[h']at e;cases e
def Foc.up{o o1:O}(F:Foc G Hf H o v fp o1 v1 f1 R)(f:aq Hf Hf')(s:aq H H'):Foc G Hf' H' o v fp o1 v1 f1 R:=
 (F.r.up f s,F.n,F.sub,λbm H2 o2 f2 s2 k h=>F.back bm H2 o2 f2 (f.trans s2) (λb u e a=>k b u (s b u e) a) h)
nonrec def Xp:=LS->Option (O×(O->O))
inductive tDP(G:Gc)(i:Nat)(f:Xp)(C:St)(H:Hp)(Q:VK):Prop
 |mk:∀Hf0 H0 Hf M o1 R,au G Hf0 H0 Hf H C M->f M=aa (o1,R,)->(∀o v fp v1 f1 Hf' H',M[i]?=aa (.deep o)->C[i]?=aa (aa v)->Ext Hf H Hf' H'->OT G Hf' H' o v fp->Foc G Hf' H' o v fp o1 v1 f1 R->Q v1 H')->tDP G i f C H Q
def DP(c:Str->Addr)(X:Cx)(e:Expr)(i:Nat)(f:Xp):Prop:=PE X e (tDP (Gx c X) i f)
def aI(i:Nat):Xp:=λM=>match M[i]? with
 |some (.deep (.at l o))=>aa (o,.at l,)
 |some (.deep o)=>aa (o,id,)
 | _=>ab
abbrev O.fld(cn f:Str):O->Option (O×(O->O))
 |.ins c ns os=>if c=cn then (aU f ns).bind λk=>(os[k]?).map λo1=>(o1,λx=>.ins c ns (os.set k x),) else ab
 | _=>ab
def aX(cn f:Str)(p:Xp):Xp:=λM=>(p M).bind λq=>(q.1.fld cn f).map λr=>(r.1,λx=>q.2 (r.2 x),)
abbrev O.key(k:List Key):O->Option (O×(O->O))
 |.dT ks os=>(aU k ks).bind λj=>(os[j]?).map λo1=>(o1,λx=>.dT ks (os.set j x),)
 | _=>ab
def k5(p:Xp)(g:MF1):Xp:=λM=>(p M).bind λq=>(g M).bind λd=>(k4 d).bind λk=>(q.1.key k).map λr=>(r.1,λx=>q.2 (r.2 x),)
abbrev fzs:List O->OLD
 | []=>aa []
 |.fz d::os=>(fzs os).map (d::·)
 | _=>ab
def zG:∀(ds:LD),fzs (ds.map .fz)=aa ds
 | []=>rfl
 |d::ds=>by rw[bE,fzs,zG ds];rfl
def HV:∀{os:List O} {ds:LD},fzs os=aa ds->os=ds.map .fz
 | [],_,h=>by cases h;rfl
 |o::os,ds,h=>by
  cases o with
  |fz d=>
   simp only[fzs]at h
   cases e:fzs os with
   |none=>rw[e]at h;cases h
   |some a=>rw[e]at h;cases h;rw[bE,<- HV e]
  | _=>cases h
def OTs.unfz{G:Gc}{Hf H:Hp}:∀{ds:LD} {vs:LVv} {fs:LAd},OTs G Hf H (ds.map .fz) vs fs->am G Hf ds vs/\fs=[]
 | [],_,_,h=>(h.1,h.2)
 |d::ds,_,_,q3_=>by
  have(v,r,f1,f2,e,c,h2,f):=q3_;have(a,b):=OTs.unfz h2;show((v,r,e,c.1,a),?_);rw[f,c.2,b];rfl
def pD(p:Xp)(M:LS):OD:=(p M).bind λq=>match q.1 with
 |.fz d=>aa d
 | _=>ab
def pB(p:Xp)(M:LS):OD:=(p M).bind λq=>if q.1.kn then aa q.1.toD else ab
abbrev O.items:O->OLD
 |.lst os=>fzs os
 | _=>ab
def pC(p:Xp)(M:LS):OLD:=(p M).bind λq=>q.1.items
inductive tDL(G:Gc)(f:MF2)(C:St)(H:Hp)(Q:VK):Prop
 |mk:∀Hf0 H0 Hf M ds,au G Hf0 H0 Hf H C M->f M=aa ds->(∀a vs Hf' H',Ext Hf H Hf' H'->H' a=aa (.lst vs)->am G Hf' ds vs->Q (.ref a) H')->tDL G f C H Q
def DL(c:Str->Addr)(X:Cx)(e:Expr)(f:MF2):Prop:=PE X e (tDL (Gx c X) f)
def bg{c d:Type}{a:Option c}{f:c->Option d}{b:d}(h:a.bind f=aa b):∃x,a=aa x/\f x=aa b:=by
 cases a with
 |none=>nomatch h
 |some x=>show(x,rfl,h)
def dR{c d:Type}{a:Option c}{f:c->d}{b:d}(h:a.map f=aa b):∃x,a=aa x/\f x=b:=by simp_all
def d8(h:PE X e (cX i)):DP c X e i (aI i):=PE.imp h λC H Q j=>by
 have(Hf0,H0,Hf,M,o1,R,d,a,g):=j
 have main:∀o,M[i]?=aa (.deep o)->(∀v fp,OT _ Hf H o v fp->fp.Nodup->Foc _ Hf H o v fp o1 v fp R)->cX i C H Q:=λo es F=>by
  have(v,b,u,fp,f,r,n,z):=d.slot es;subst f;show(u,b,g o u fp u fp Hf H es b (Ext.refl d.sub) r (F u fp r n))
 unfold aI at a;split at a
 .rename_i l o es;cases a;show main _ es λv fp r n=>Foc.at r n
 .rename_i o _ es;cases a;show main _ es λv fp r n=>Foc.refl r n
 .grind
variable{o2:O}
def RE{cn f:Str}(h:o1.fld cn f=aa (o2,R,)):∃ns os k,o1=.ins cn ns os/\aU f ns=aa k/\os[k]?=aa o2/\R=λx=>.ins cn ns (os.set k x):=by
 cases o1 with
 |ins c ns os=>
  replace h:(if c=cn then (aU f ns).bind λk=>(os[k]?).map λo1=>_ else ab)=aa _:=h;split at h
  .rename_i d;subst d;have(k,a,h):=bg h;have(o,b,h):=dR h;cases h;show(ns,os,k,rfl,a,b,rfl)
  .nomatch h
 | _=>nomatch h
def Foc.fld{o o1 o2:O}{cn f:Str}(F:Foc G Hf H o v fp o1 v1 f1 R)(h:o1.fld cn f=aa (o2,R',)):∃(a dx:Addr) (ns:LSt) (vs:LVv) (b:V) (f2:LAd),v1=.ref a/\H a=aa (.ins (G.cl cn) dx (ns.zip vs))/\(ns.zip vs).lookup f=aa b/\Foc G Hf H o v fp o2 b f2 (λx=>R (R' x)):=by
 have(ns,os,k,rfl,g,i,rfl):=RE h;have(a,dx,vs,fs,rfl,ha,hz,B,rfl):=F.r;have(b,f2,j,e):=Foc.root (W:=.ins cn ns) ha rfl B F.n i λHf' H' l c d r _=>(a,dx,vs,c,rfl,d,hz,r,rfl);show(a,dx,ns,vs,b,f2,rfl,ha,(zF vs g).trans j,F.trans e)
variable{p:Xp}
def eJ{o:Expr}(cn:Str)(m:Cls X.K (c cn))(hn:cN X.K (c cn) fl)(n:DP c X o i p)(l:autoParam (oI o fl X.env (eval o X.env)=eval o X.env) Zb):DP c X (.Attribute o fl pos) i (aX cn fl p):=PE.imp (Fc n l) λC H Q w=>by
 have(Hf0,H0,Hf,M,o2,R,y,b,u):=w;have(q,f,b):=bg b;have(r,g,b):=dR b;cases b;show(Hf0,H0,Hf,M,q.1,q.2,y,f,λt v fp v1 f1 Hf' H' es j x rt F=>?_);have(a,dx,ns,vs,d,f2,h,ha,el,e):=F.fld g;show(a,_,dx,_,d,h,ha,m,hn,el,u t v fp d f2 Hf' H' es j x rt e)
def fE.same{k:List Key}(h:fE H b k)(s:aq H H'):fE H' b k:=h.up λb E e=>s _ _ e
def RF{k:List Key}(h:o1.key k=aa (o2,R,)):∃ks os j,o1=.dT ks os/\aU k ks=aa j/\os[j]?=aa o2/\R=λx=>.dT ks (os.set j x):=by
 cases o1 with
 |dT ks os=>
  have(j,a,h):=bg h;have(o,b,h):=dR h;cases h
  show(ks,os,j,rfl,a,b,rfl)
 | _=>nomatch h
def Foc.key{o o1 o2:O}{k:List Key}(F:Foc G Hf H o v fp o1 v1 f1 R)(h:o1.key k=aa (o2,R',)):∃a kvs b f2,v1=.ref a/\H a=aa (.dT kvs)/\cO kvs k=aa b/\Foc G Hf H o v fp o2 b f2 (λx=>R (R' x)):=by
 have(ks,os,j,rfl,f,g,rfl):=RF h;have(a,vs,fs,rfl,ha,hz,B,rfl):=F.r;have(b,f2,i,e):=Foc.root (W:=.dT ks) ha rfl B F.n g λHf' H' l c d r _=>(a,vs,c,rfl,d,hz,r,rfl);show(a,ks.zip vs,b,f2,rfl,ha,(pV vs f).trans i,F.trans e)
def HW{o:Expr}(U:X.A.units+1<cLine)(N:DP c X o i p)(L:DE c X e g)(T:autoParam (q9 e) Zj):DP c X (.Subscript o e pos) i (k5 p g):=PE.imp (yp U N L T) λC H Q q_=>by
 have(Hf0,H0,Hf,M,o2,R,m,j,Y):=q_;have(q,w,j):=bg j;have(d,z,j):=bg j;have(k,B,j):=bg j;have(r,E,j):=dR j;cases j;show(Hf0,H0,Hf,M,q.1,q.2,m,w,λt v fp v1 f1 b3 H1 es J x rt F=>(Hf0,H0,b3,M,d,m.step x,z,λy bm H2 l r2=>?_));have(b,I,tk):=rY B r2;have(a,kvs,n,f2,G,ha,el,u):=(F.up l.f l.h).key E;subst I;show(a,n,G,?_,Y t v fp n f2 bm H2 es J (x.trans l) (rt.up l.f l.h) u);rw[<- el];show fR.t ha (tk.same l.s)
def HX(h:DP c X e i p):DE c X e (pD p):=PE.imp h λC H Q j=>by
 have(Hf0,H0,Hf,M,d,l,a,g):=j;have(q,f,a):=bg a;show(Hf0,H0,Hf,M,q.1,q.2,l,f,λt v fp v1 f1 b3 H1 es m x rt F=>?_)
 cases b:q.1 with
 |fz d'=>rw[b]at a;cases a;have r:=F.r;rw[b]at r;show g _ _ _ x r.1
 | _=>simp only[b]at a;nomatch a
def zH(h:DP c X e i p):DB c X e (pB p):=PE.imp h λC H Q j=>by
 have(Hf0,H0,Hf,M,d,l,a,g):=j;have(q,b,a):=bg a;split at a
 .rename_i f;cases a;show(Hf0,H0,Hf,M,q.1,q.2,l,b,λt v fp v1 f1 b3 H1 es m x rt F=>g _ _ _ x (F.r.rep x.s f))
 .grind
def r6(h:o1.items=aa ds):o1=.lst (ds.map .fz):=by
 cases o1 with
 |lst os=>rw[HV h]
 | _=>nomatch h
def zJ(h:DP c X e i p):DL c X e (pC p):=PE.imp h λC H Q g=>by
 have(Hf0,H0,Hf,M,ds,j,b,f):=g;have(q,d,b):=bg b;show(Hf0,H0,Hf,M,q.1,q.2,j,d,λt v fp v1 f1 b3 H1 es l x rt F=>?_);have r:=F.r;rw[r6 b]at r;have(a,vs,fs,rfl,ha,B,_):=r;show f a vs b3 H1 x ha B.unfz.1
def DL.dc{f:MF2}(h:DL c X e f):DC c X e f:=PE.imp h λC H Q d=>by
 have(Hf0,H0,Hf,M,ds,st,a,k):=d;show(Hf0,H0,Hf,M,ds,st,a,λl vs Hf' H' x b r=>k l vs Hf' H' x (.inl (SqL.of b)) r)
def DL.db{f:MF2}(h:DL c X e f):DB c X e (aP f):=PE.imp h λC H Q i=>by
 have(Hf0,H0,Hf,M,d,st,a,k):=i;have(ds,b,a):=dR a;subst a;show(Hf0,H0,Hf,M,ds,st,b,λl vs Hf' H' x g r=>k _ Hf' H' x (l,vs,rfl,g,r.up x.s))
abbrev O.got(k:List Key):O->OLD
 |.dT ks os=>match aU k ks with
  |some j=>(os[j]?).bind O.items
  |none=>aa []
 | _=>ab
def iu(p:Xp)(g:MF1)(M:LS):OLD:=(p M).bind λq=>(g M).bind λd=>(k4 d).bind λk=>q.1.got k
section
variable{o:Expr}
def zK{w:Pos}(hu:X.A.units+1<cLine)(ho:DP c X o i p)(hk:DE c X e g)(m:M2 X o "get" apos e (.List [] w) pos):DL c X (.Call (.Attribute o "get" apos) [e,.List [] w] [] pos) (iu p g):=PE.imp (yq hu ho hk (uk d7) m) λC H Q q_=>by
 have(Hf0,H0,Hf,M,ds,so,u,Y):=q_;have(q,e1,u):=bg u;have(d,e2,u):=bg u;have(k,e3,u):=bg u;show(Hf0,H0,Hf,M,q.1,q.2,so,e1,λt v fp v1 f1 b3 H1 es ev x rt F=>?_)
 cases U:q.1 with
 |dT ks os=>
  rw[U]at u F;have(a,vs,fs,rfl,ha,hz,B,rfl):=F.r;show(a,rfl,.inr (_,.inl ha),Hf0,H0,b3,M,d,so.step x,e2,λy bm H2 z I=>(cj _,λl hl=>?_));have(b,eb,tk):=rY e3 I;subst eb;have E:Ext bm H2 bm (upd H2 l (.lst [])):=Ext.tmp z.s hl;show(cO _ k,fR.t (E.h _ _ (z.h _ _ ha)) (tk.same (z.s.trans E.h)),?_)
  replace u:(match aU k ks with |some j=>(os[j]?).bind O.items |none=>aa [])=aa ds:=u
  cases G:aU k ks with
  |none=>
   rw[G]at u;cases u;rw[rZ vs G]
   show Y l [] bm _ ((x.trans z).trans E) bd .nil
  |some j=>
   rw[G]at u;have(o2,eo,u):=bg u;have(v2,f2,J,F2):=Foc.root (o:=.dT ks os) (W:=.dT ks) ha rfl B F.n eo λHf' H' os' L N r _=>(a,vs,L,rfl,N,hz,r,rfl);have I:=(F2.up (z.f.trans E.f) (z.h.trans E.h)).r;rw[r6 u]at I;have(b2,ws,fs2,rfl,hb,T,_):=I;rw[pV vs G,J]
   show Y b2 ws bm _ ((x.trans z).trans E) hb T.unfz.1
 | _=>rw[U]at u;nomatch u
end
def OTs.stay{fs:LAd}{c:HO}(r:OTs G Hf H os us fs)(d:H l=aa c)(e:iG c=af)(hn:l∉fs)(f:aq Hf Hf')(s:∀b u,b≠l->H b=aa u->H' b=aa u):OTs G Hf' H' os us fs:=
 OTs.frameM f os us fs r λb u a hm=>s b u (λz=>by
  subst z;rw[d]at a;cases a
  rcases hm with t |t
  .grind
  .show hn t) a
def k6(i:Nat)(p:Xp)(f:MF1)(M:LS):Option Fl:=(p M).bind λq=>(f M).bind λd=>(q.1.appd d).map λo2=>.nx (M.set i (.deep (q.2 o2)))
abbrev O.extd(ds:LD):O->Option O
 |.lst os=>if Z os+Z ds<=16777216 then aa (.lst (os++ds.map .fz)) else ab
 | _=>ab
def pW(i:Nat)(p:Xp)(f:MF2)(M:LS):Option Fl:=(p M).bind λq=>(f M).bind λds=>(q.1.extd ds).map λo2=>.nx (M.set i (.deep (q.2 o2)))
abbrev O.pop0:O->Option (D×O)
 |.lst (.fz d::os)=>aa (d,.lst os,)
 | _=>ab
def r9(i:Nat)(p:Xp):Xe:=λM=>(p M).bind λq=>q.1.pop0.map λr=>(r.1,M.set i (.deep (q.2 r.2)),)
def O.setAt(k:D)(d:D)(o:O):Option O:=match k with
 |.int n=>o.items.bind λds=>(ixN ds.length n).map λj=>.lst ((ds.set j d).map .fz)
 | _=>ab
def nK(i:Nat)(p:Xp)(fk fv:MF1)(M:LS):Option Fl:=(fv M).bind λd=>(p M).bind λq=>(fk M).bind λx=>(q.1.setAt x d).map λo2=>.nx (M.set i (.deep (q.2 o2)))
def O.putNew(o x:O)(k:List Key):Option O:=match o with
 |.dT ks os=>if aU k ks=ab/\Z ks<16777216 then aa (.dT (ks++[k]) (os++[x])) else ab
 | _=>ab
def pX(i:Nat)(p:Xp)(fk fv:MF1)(M:LS):Option Fl:=(fv M).bind λd=>(p M).bind λq=>(fk M).bind λx=>(k4 x).bind λk=>(q.1.putNew (.fz d) k).map λo2=>.nx (M.set i (.deep (q.2 o2)))
def RG{f:MF1}(h:PS X st (mS (tBM X.K "list" ur (tDP (Gx c X) i p) (ji (tD (Gx c X) f) ig)))):DS c X st (k6 i p f):=PS.imp h λX4 C H N=>by
 have(Hf0,H0,Hf,M,o,y,j,J):=N;have(q,B,j):=bg j;have(d,E,j):=bg j;have(o2,G,j):=dR j;subst j;show(Hf0,H0,Hf,M,q.1,q.2,y,B,λt v fp v1 f1 b3 H1 es I x rt F=>?_);have(l,us,el,A,hz,L,next):=HG G F.r;subst el;show(.inl (rfl,_,SqL.of A),Hf0,H0,b3,M,d,y.step x,E,λw bm H2 g Q=>?_);show(l,us,w,rfl,rfl,g.h _ _ A,by rw[dE];show hz,J C bm _ (x.trans g).f ?_)
 show y.foc es I (rt.up g.f g.h) (x.trans g) (F.up g.f g.h) (λb u m hn=>by rw[aL (λz=>hn (by rw[z];show L))];show m)
  (next bm _ w F.n g.f (λb u m e=>by rw[aL m];show g.h b u e) bd Q) F.n λa ha=>.inl ha
def RH{f:MF2}(h:PS X st (mS (tBM X.K "list" yi (tDP (Gx c X) i p) (ji (tDL (Gx c X) f) ig)))):DS c X st (pW i p f):=PS.imp h λX4 C H T=>by
 have(Hf0,H0,Hf,M,o,y,j,Q):=T;have(q,J,j):=bg j;have(ds,L,j):=bg j;have(o2,g,j):=dR j;subst j;show(Hf0,H0,Hf,M,q.1,q.2,y,J,λt v fp v1 f1 b3 H1 es N x rt F=>?_)
 cases E:q.1 with
 |lst os=>
  rw[E]at g F;replace g:(if Z os+Z ds<=16777216 then aa _ else ab)=aa o2:=g;split at g
  .rename_i hz;cases g;have(l,us,fs,rfl,w,B,rfl):=F.r;show(.inl (rfl,_,SqL.of w),Hf0,H0,b3,M,ds,y.step x,L,λb A bm H2 d m I=>?_);show(l,b,us,A,rfl,rfl,(d.h _ _ w),m,by rw[dE,<- B.length,<- I.length];show hz,Q C bm _ (x.trans d).f ?_);have o1:OTs _ bm (upd H2 l (.lst (us++A))) os us fs:=B.stay w rfl ((b8.mp F.n).1) d.f λb u m e=>by rw[aL m];show d.h b u e
   have G:=o1.append (OTs.fz I);rw[bO]at G
   show y.foc es N (rt.up d.f d.h) (x.trans d) (F.up d.f d.h) (λb u m hn=>by rw[aL (λz=>hn (by rw[z];show az))];show m)
    (l,us++A,fs,rfl,bd,G,rfl) F.n λa ha=>.inl ha
  .nomatch g
 | _=>rw[E]at g;nomatch g
def RI(h:PE X e (tBM X.K "list" Fv (tDP (Gx c X) i p) (ji (tC (.int 0)) ig))):DX c X e (r9 i p):=PE.imp h λC H Q q_=>by
 have(Hf0,H0,Hf,M,d,ρ',L,m,Y):=q_;have(q,N,m):=bg m;have(r,j,m):=dR m;cases m;show(Hf0,H0,Hf,M,q.1,q.2,L,N,λt v fp v1 f1 b3 H1 es T x rt F=>?_)
 cases J:q.1 with
 |lst os=>
  rw[J]at j F
  cases os with
  |nil=>nomatch j
  |cons o1 os=>
   cases o1 with
   |fz d=>
    cases j;have(l,us,fs,rfl,A,B,rfl):=F.r;have(w,g,g1,I,rfl,G,E,rfl):=B;have(rd,rfl):=G;show(.inl (rfl,_,SqL.of A),l,w::g,0,0,w,rfl,rfl,A,by decide,by decide,?_,rfl,?_)
    .have U:(decide ((0:Int)<=0) && decide (0<(Z (w::g):Int)))=ac:=by simp
     unfold seqIndex?;rw[if_neg (show ¬(0:Int)<0 by decide),if_pos U];rfl
    .have nl:=(b8.mp F.n).1;show Y w b3 _ x.f ?_ rd;have o1:OTs _ b3 (upd H1 l (.lst g)) os g I:=E.stay A rfl nl (aq.refl _) λb u y e=>by rw[aL y];show e
     show L.foc es T rt x F (λb u y hn=>by rw[aL (λz=>hn (by rw[z];show az))];show y)
      (l,g,I,rfl,bd,o1,rfl) F.n λa ha=>.inl ha
   | _=>nomatch j
 | _=>rw[J]at j;nomatch j
def HY(hp:PS X st (jh (tD (Gx c X) fv) (xN (tDP (Gx c X) i p) (tD (Gx c X) fk) yd))):DS c X st (nK i p fk fv):=PS.imp hp λX4 C H q_=>by
 have(Hf0,H0,Hf,M,o,E,e,kq):=q_;have(d,L,e):=bg e;have(q,N,e):=bg e;have(k,Q,e):=bg e;have(o2,m,e):=dR e;subst e;show(Hf0,H0,Hf,M,d,E,L,λw b3 H1 G r1=>(Hf0,H0,b3,M,q.1,q.2,E.step G,N,λt v fp v1 f1 bm H2 es Y I rt F=>(Hf0,H0,bm,M,k,(E.step G).step I,Q,λy x J g r3=>?_)))
 cases k with
 |int n=>
  have(ds,T,m):=bg (m);have(j,U,m):=dR m;subst m;have A:=F.up g.f g.h;rw[r6 T]at A;have(l,us,fs,rfl,ql,B,e):=A.r;have(rd,rfl):=B.unfz;show(l,us,n,j,rfl,r3,ql,by rw[<- rd.length];show U,kq C x _ ((G.trans I).trans g).f ?_);have nf:OTs _ x (upd J l (.lst (us.set j w))) _ _ []:=OTs.fz (rd.set j (r1.up (I.f.trans g.f)))
  have:=(E.step G).foc es Y (rt.up g.f g.h) (I.trans g) A (λb u hb hn=>by rw[aL (λz=>hn (by rw[e,z];show az))];show hb)
   (o2:=.lst _) (l,us.set j w,[],rfl,bd,nf,rfl) (by rw[<- e];show A.n) λa ha=>.inl (by rw[e];show ha)
  show this
 | _=>nomatch m
def RJ{a:Type}[DecidableEq a]{k:a}{ks:List a}(hz:Z ks=Z vs)(h:aU k ks=ab):dP (ks.zip vs) k v=(ks++[k]).zip (vs++[v]):=by
 unfold dP;rw[uv,rZ vs h,if_neg (by simp),zip_append hz];rfl
def HZ{ks:List (List Key)}{x:O}{k:List Key}{g:LAd}{w:V}(r:OT G Hf H (.dT ks os) (.ref l) f1)(n:f1.Nodup)(a:aU k ks=ab)(f:aq Hf Hf')(s:∀b u,b≠l->H b=aa u->H' b=aa u):
  ∃kvs,H l=aa (.dT kvs)/\Z kvs=Z ks/\cO kvs k=ab/\l∈f1/\(H' l=aa (.dT (dP kvs k w))->OT G Hf' H' x w g->OT G Hf' H' (.dT (ks++[k]) (os++[x])) (.ref l) (f1++g)):=by
 have(h,vs,fs,el,c,hz,B,rfl):=r;cases el;show(ks.zip vs,c,by rw[ox];lia,rZ vs a,az,λd e=>(l,vs++[w],fs++g,rfl,?_,by simp[hz],((B.stay c rfl (b8.mp n).1 f s).append (.one e)),rfl));rw[d,RJ hz a]
def RK{x:O}{k:List Key}(h:o1.putNew x k=aa o2):∃ks os,o1=.dT ks os/\aU k ks=ab/\Z ks<16777216/\o2=.dT (ks++[k]) (os++[x]):=by
 cases o1 with
 |dT ks os=>
  replace h:(if aU k ks=ab/\Z ks<16777216 then aa _ else ab)=aa o2:=h;split at h
  .rename_i a;cases h;show(ks,os,rfl,a.1,a.2,rfl)
  .nomatch h
 | _=>nomatch h
def RL(hp:PS X st (yo (tDP (Gx c X) i p) (tD (Gx c X) fk) (tD (Gx c X) fv))):DS c X st (pX i p fk fv):=PS.imp hp λX4 C H q_=>by
 have(Hf0,H0,Hf,M,o,A,g,kq):=q_;have(d,U,g):=bg g;have(q,Y,g):=bg g;have(y,e3,g):=bg g;have(k,e5,g):=bg g;have(o2,e4,g):=dR g;subst g;show(Hf0,H0,Hf,M,d,A,U,λw b3 H1 E r1=>(Hf0,H0,b3,M,q.1,q.2,A.step E,Y,λt v fp v1 f1 bm H2 es ev G rt F=>(Hf0,H0,bm,M,y,(A.step E).step G,e3,λz I T j r3=>?_)));have(ks,os,h1,hk,N,rfl):=RK e4;have m:=F.up j.f j.h;rw[h1]at m;have(b,rfl,tk):=rY e5 r3;have(l,vs,fs,rfl,Q,hz,B,g):=id m.r;have(kvs,x,L,hv,lm,nw):=HZ (H':=upd T l (.dT _)) m.r m.n hk (aq.refl _) λb u J e=>by rw[aL J];show e
 rw[Q]at x;cases x;show(l,_,rfl,lJ.t Q (tk.same j.s) (by rw[dE,L];show N),kq C I _ ((E.trans G).trans j).f ?_)
 show(A.step E).foc es ev (rt.up j.f j.h) (G.trans j) m (λb u J hn=>by rw[aL (λz=>hn (by rw[z];show lm))];show J)
  (nw bd (r1.up (G.f.trans j.f),rfl)) (by rw[bO];show m.n) λa ha=>.inl (by rw[bO]at ha;show ha)
section
variable{prog:ce}{w:World}{K:Type}[DecidableEq K]{kn:HeapKind prog w K}{A:ca}{X4:PRS}{s:ah}
def RM{d b:Addr}{E:List (K×Addr×Value)}{k:K}{dv:Value}{Q:PRS}(i:kn.room A)(f:kn.is s.heap k b)(hm:s.heap.DictOfH kn d E)(hz:Z E<=aT)
 (m:∀q,atKey E k=aa q->Q q.2 {s with toks:=s.toks+kn.draws k})
 (h2:atKey E k=ab->∀h',h'.DictOfH kn d (storedH E k b dv)->gb d s.heap h'->Q dv {s with heap:=h',toks:=s.toks+kn.draws k}):
  wpAny (model prog w) A (dictSetDefault d (.ref b) dv) Q X4 s:=by
 have(r,l,ep,go,n,a,el,all,nd):=hm;unfold dictSetDefault
 try with_reducible show jL ?_
 show ak (kn.pyHash i f ?_);show ak (wpAny_dictFind_heap i f go a el all nd (λno=>?_) λj q h=>?_)
 .have p:=not_mem_keys_of_get no;have z:=atKey_none_of_get no
  show ak (lz (ak (wpAny_updateDictKeys (hz:=by have e:=size_of_entries el; lia) go a (aE (h2 z _ (_,_,ep + 1,oM _ go (Obj.isFreed_of_dict (Obj.data_mapDictKeys a _)),
   n.mapDictKeys _,Obj.data_mapDictKeys a _,?_,?_,?_) (oN ..))))))
  .rw[storedH_new z];simp[el,entryOfKey]
  .rw[storedH_new z];intro y c
   rcases bz.mp c with c |c
   .show kn.keeps (all y c) go a (oN ..)
   .rw[bw.mp c];show kn.keeps f go a (oN ..)
  .rw[storedH_new z,ba,eO];show(nd,b8.mpr (dD,fA),λy c u g e=>?_);rw[bw.mp g]at e;show p ((show y=k from e)▸c)
 .show ak (wpAny_dictEntries go a ?_);rw[entry_at el j,h];show ak (lz (aE (m q (atKey_of_get nd h))))
def RN(kn:HeapKind prog w K)(d b:Addr)(hd:(d==hE)=af)(dv:Value):
  MeetsIn prog w (eT.«dict.setdefault» ([.ref d,.ref b,dv],[])) (λA R s=>kn.room A.in1/\∃ k E,kn.is s.heap k b/\s.heap.DictOfH kn d E/\Z E<=aT /\
   (∀q,atKey E k=aa q->R (.ok (.ret q.2)) {s with toks:=s.toks+kn.draws k}) /\
   (atKey E k=ab->∀h',h'.DictOfH kn d (storedH E k b dv)->gb d s.heap h'->R (.ok (.ret dv)) {s with heap:=h',toks:=s.toks+kn.draws k})):=
 .of_wp λA R s i=>by
  have(h,k,E,f,hm,hz,e,h2):=i;show ak ?_;show ak (wpAny_notOrdered_dict hm.typeIs ?_);show aE ?_;change wpAny _ _ (if _=ac then _ else _) _ _ s;rw[hd,if_neg (λz=>nomatch z)];show ak (RM h f hm hz (λq g=>aE (q.2,rfl,e q g)) λhn h' a c=>aE (dv,rfl,h2 hn h' a c))
end
variable{a:Addr}{z:V}{r:Value}{kvs:List (List Key×V)}
def RO{k:List Key}{Q:PRS}(T:A.units+1<cLine)(I:Inv X U C H s)(e:H a=aa (.dT kvs))(p:fE H b k)(Y:aD z r)
 (J:∀v u h,cO kvs k=aa v->Inv X U C H h->aD v u->Q u h)(h2:cO kvs k=ab->Z kvs<aT/\∀h,Inv X U C (upd H a (.dT (dP kvs k z))) h->Q r h):
  wpAny (model X.prog X.w) A (call (.builtin "dict.setdefault") [.ref a,.ref b,r]) Q X4 s:=by
 have(L,hd,E,d,m):=FB I.hok e;show call_meetsIn EG m.typeIs PySem.F.entry_dict_setdefault (PySem.F.args_dict_setdefault_3 _ _ _) (RN _ a b hd r) (qN T,k,E,oW I.hok p,m,by rw[<- oO d];show L,λq l=>?_,λhn h' i N=>?_)
 .have f:=d.val k;rw[l]at f
  cases hv:cO kvs k with
  |none=>rw[hv]at f;show f.elim
  |some v=>rw[hv]at f;show J v q.2 _ hv (I.tok _) f
 .have hv:cO kvs k=ab:=by
   have f:=d.val k;rw[hn]at f
   cases hv:cO kvs k with
   |none=>rfl
   |some v=>rw[hv]at f;show f.elim
  have(M,l):=h2 hv;have(q,es,ep,g,x,y,B,_,G):=i;have j:Z (dP kvs k z)<=aT:=by have:=ym kvs k z;lia
  show l _ (yn I (by rw[e];show iE) N (q,g) (j,hd,_,(d.put k p Y).keeps λc ys n=>?_,q,es,ep,g,x,y,B,G));rw[aL (EM n e (λz=>nomatch z))];show n
def H9(d ty e:TE):TE:=λC H Q=>d C H λx H1=>∃a,x=.ref a/\IsD H1 a/\ty C H1 λy H2=>e C H2 λz c=>∃kvs k b,c a=aa (.dT kvs)/\y=.ref b/\fE c b k /\
 (∀v,cO kvs k=aa v->Q v c)/\(cO kvs k=ab->Z kvs<aT/\Q z (upd c a (.dT (dP kvs k z))))
variable{f:Expr}{td ty tx:TE}
def RP{o:Expr}(L:X.A.units+1<cLine)(J:PE X o td)(E:PE X e ty)(G:PE X f tx)(m:M2 X o "setdefault" apos e f cpos):PE X (.Call (.Attribute o "setdefault" apos) [e,f] [] cpos) (H9 td ty tx):=by
 intro U s C H Q I h;show wpAny_Call_method m.base m.few m.line PySem.F.plainAttrs_dict EG PySem.F.type_dict_setdefault (thn (J U s C H _ I h) λu s1 Y=>?_);have(x,H1,j,rx,a,ex,d,M):=Y;subst ex;obtain rfl:u=eU a:=rx;have(t1,t2,_):=FE j d;show(t1,t2,?_);rw[m.trees];show xq rfl (xr (jb (thn (E U s1 C H1 _ j M) λiv s2 g=>?_)));have(y,H2,q,ry,N):=g;show jb (thn (G U s2 C H2 _ q N) λfv s3 i=>xu ?_);have(z,p,r,n,kvs,k,b,w,B,tk,T,l):=i;subst B;cases (ry);show RO L r w tk n (λv u s4 hv c ru=>(v,p,c,ru,T v hv)) λhn=>((l hn).1,λs4 c=>(z,_,c,n,(l hn).2))
def O.apdK(o:O)(k:List Key)(d:D):Option O:=match o with
 |.dT ks os=>match aU k ks with
  |some j=>(os[j]?).bind λo1=>(o1.appd d).map λo2=>.dT ks (os.set j o2)
  |none=>if Z ks<16777216 then aa (.dT (ks++[k]) (os++[.lst [.fz d]])) else ab
 | _=>ab
def pY(i j:Nat)(p:Xp)(g:MF1)(M:LS):Option Fl:=(p M).bind λq=>(g M).bind λy=>(k4 y).bind λk=>(ae j M).bind λd=>(q.1.apdK k d).map λo2=>.nx (M.set i (.deep (q.2 o2)))
def RQ{jv:Nat}(h:PS X st (mS (tBM X.K "list" ur (H9 (tDP (Gx c X) i p) (tD (Gx c X) g) (x9 ig)) (ji (cX jv) ig)))):DS c X st (pY i jv p g):=PS.imp h λX4 C H q_=>by
 have(Hf0,H0,Hf,M,o,Q,E,kq):=q_;have(q,e1,E):=bg E;have(y,e2,E):=bg E;have(k,e3,E):=bg E;have(d,e4,E):=bg E;have(o2,m,E):=dR E;subst E;have(w,ew,rw0):=Q.imm (FO e4);show(Hf0,H0,Hf,M,q.1,q.2,Q,e1,λt v fp v1 f1 b3 H1 es ev x rt F=>?_)
 cases h1:q.1 with
 |dT ks os=>
  rw[h1]at m F;have(a,vs,fs,rfl,ha,hz,B,rfl):=id F.r;show(a,rfl,.inr (_,.inl ha),Hf0,H0,b3,M,y,Q.step x,e2,λu bm H2 G r2=>(cj _,λl N=>?_));have(b,eb,tk):=rY e3 r2;subst eb;have x3:Ext bm H2 bm (upd H2 l (.lst [])):=Ext.tmp G.s N;have A:=G.trans x3;have xa:=x.trans A;show(ks.zip vs,k,b,(A.h _ _ ha),rfl,tk.same (G.s.trans x3.h),λv2 I=>?_,λhn=>?_)
  .cases J:aU k ks with
   |none=>rw[rZ vs J]at I;nomatch I
   |some j=>
    replace m:(match aU k ks with |some j=>(os[j]?).bind λo1=>(o1.appd d).map λo2=>O.dT ks _ |none=>if Z ks<16777216 then aa _ else ab)=aa o2:=m
    simp only[J]at m;have(ok,eo,m):=bg m;have(on,ea,m):=dR m;subst m;have(v3,f3,ev3,F4):=Foc.root (W:=.dT ks) ha rfl B F.n eo λHf' H' os' fs' ha' r _=>(a,vs,fs',rfl,ha',hz,r,rfl);rw[pV vs J,ev3]at I;cases I;have F5:=(F.trans F4).up A.f A.h;have(l2,us,el,ql,hz2,lm,next):=HG ea F5.r;subst el;show(.inl (rfl,_,SqL.of ql),w,ew,l2,us,w,rfl,rfl,ql,by rw[dE];show hz2,kq C bm _ xa.f ?_)
    have:=Q.foc es ev (rt.up A.f A.h) xa F5 (λb u L hn=>by rw[aL (λz=>hn (by rw[z];show lm))];show L)
     (next bm _ w F5.n (aq.refl _) (λb u L e=>by rw[aL L];show e) bd (rw0.up xa.f)) F5.n λa ha=>.inl ha
    show this
  .cases J:aU k ks with
   |some j=>
    rw[pV vs J]at hn;have:=zE J;rw[List.getElem?_eq_none_iff]at hn
    lia
   |none=>
    replace m:(match aU k ks with |some j=>(os[j]?).bind λo1=>(o1.appd d).map λo2=>O.dT ks _ |none=>if Z ks<16777216 then aa _ else ab)=aa o2:=m
    rw[J]at m;replace m:(if Z ks<16777216 then aa _ else ab)=aa o2:=m;split at m
    .rename_i hlt;cases m;have nal:=fF (G.h _ _ ha) N
     have lf:∀g,g∈fp->g≠l:=λg U z=>by
      have:=Q.was es ev x rt g U;subst z;show this ((x.h.trans G.h).free N)
     have Y:upd (upd H2 l (.lst [])) a (.dT (dP (ks.zip vs) k (.ref l))) l=aa (.lst []):=by rw[aL nal.symm,bd]
     show(by rw[dE,ox];lia,.inl (rfl,_,SqL.of Y),w,ew,l,[],w,rfl,rfl,Y,by rw[dE];show oC _,kq C bm _ xa.f ?_);have xb:=x.trans G;have T:=F.up G.f G.h
     have keep:∀b u,b≠a->H2 b=aa u->upd (upd (upd H2 l (.lst [])) a (.dT (dP (ks.zip vs) k (.ref l)))) l (.lst ([]++[w])) b=aa u:=λb u L e=>by
      have nb:=fF e N;rw[aL nb,aL L,aL nb];show e
     have(kvs,ql',hkv,hv,lm,nw):=HZ T.r T.n J (aq.refl _) keep;rw[G.h _ _ ha]at ql';cases ql';show Q.foc es ev (rt.up G.f G.h) xb T (λb u L hn=>keep b u (λz=>hn (by rw[z];show lm)) L) (nw (by rw[aL nal,bd]) (l,[w],[],rfl,bd,OTs.one (rw0.up xb.f,rfl),rfl)) (eO.mpr (T.n,b8.mpr (dD,fA),λg U g' hg' z=>by rw[bw.mp hg']at z;show lf g (T.sub g U) z)) λg U=>?_
     rcases bz.mp U with y |y
     .show .inl y
     .rw[bw.mp y];show .inr (xb.h.free N,xb.s.free N)
    .nomatch m
 | _=>rw[h1]at m;nomatch m
def zM{f:Str}{v:V}:∀{ns:LSt} {vs:LVv} {k:Nat},Z ns=Z vs->aU f ns=aa k->dh f v (ns.zip vs)=ns.zip (vs.set k v)
 | [],_,_,_,h=>by cases h
 | _::_,[],_,hl,_=>by cases hl
 |n::ns,u::vs,k,hl,h=>by
  dsimp only[aU]at h;rw[fw];dsimp only[dh];split at h
  .rename_i e;cases h;simp only[if_pos e,tN,fw]
  .rename_i e;rw[if_neg e]
   cases h':aU f ns with
   |none=>rw[h']at h;cases h
   |some j=>
    rw[h']at h;cases h;simp only[qG,fw,zM (by simpa using hl) h']
def Ia{f:Str}{v:V}:∀{ns:LSt} {vs:LVv},Z ns=Z vs->aU f ns=ab->dh f v (ns.zip vs)=(ns++[f]).zip (vs++[v])
 | [],[],_,_=>rfl
 | [],_::_,hl,_=>by cases hl
 | _::_,[],hl,_=>by cases hl
 |n::ns,u::vs,hl,h=>by
  dsimp only[aU]at h;rw[fw];dsimp only[dh];split at h
  .cases h
  .rename_i e;rw[if_neg e]
   cases h':aU f ns with
   |none=>simp only[lq,lq,fw,Ia (by simpa using hl) h']
   |some j=>rw[h']at h;nomatch h
def O.setF(o:O)(cn f:Str)(x:O):Option O:=match o with
 | .ins c ns os=>if c=cn/\Z ns < 1000 then (match aU f ns with
  |some k=>aa (.ins c ns (os.set k x))
  |none=>aa (.ins c (ns++[f]) (os++[x]))) else ab
 | _=>ab
def eK(i:Nat)(cn f:Str)(p:Xp)(g:LS->Option O)(M:LS):Option Fl:=(g M).bind λx=>(p M).bind λq=>(q.1.setF cn f x).map λo2=>.nx (M.set i (.deep (q.2 o2)))
def OTs.len{G:Gc}{Hf H:Hp}:∀{os:List O} {vs:LVv} {fs:LAd},OTs G Hf H os vs fs->Z os=Z vs
 | [],_,_,h=>by rw[h.1];rfl
 |o::os,_,_,(v,r,f1,f2,e,_,h2,_)=>by subst e;simp[OTs.len h2]
def Ib{g:LS->Option O}(cn:Str)(hc:Cls X.K (c cn))(hn:cN X.K (c cn) fl)(hp:PS X st (Fa X.K (tDP (Gx c X) i p) (tDZ (Gx c X) ac g) fl)):DS c X st (eK i cn fl p g):=PS.imp hp λX4 C H q_=>by
 have(Hf0,H0,Hf,M,o,L,A,kq):=q_;have(x,e1,A):=bg A;have(q,e2,A):=bg A;have(o2,j,A):=dR A;subst A;show(Hf0,H0,Hf,M,x,L,e1,λu gp b3 H1 x1 rx l=>(Hf0,H0,b3,M,q.1,q.2,L.step x1,e2,λt v fp v1 f1 bm H2 es T Q rt F=>?_));have m:=x1.trans Q
 have hg:∀b∈gp,H b=ab/\bm b=ab:=λb d=>by
  show((l.2 b d).1,?_);have(w,hw,ht):=OT.memM x u gp rx b d;rw[Q.n b w hw ht];show(l.2 b d).2
 have ng:=λb d hf=>(L.was es T m rt) b hf (hg b d).1
 cases h1:q.1 with
 |ins c' ns os=>
  rw[h1]at j F;replace j:(if c'=cn/\Z ns<1000 then _ else ab)=aa o2:=j;split at j
  .rename_i hcc;have(rfl,hlt):=hcc;have(a,dx,vs,fs,rfl,ha,hz,B,rfl):=id F.r;have(N,I):=b8.mp F.n;have E:=λz=>ng a z (F.sub a az);show(a,_,dx,ns.zip vs,rfl,ha,hc,hn,by rw[ox];lia,kq C bm _ m.f ?_);have keep:∀b w,b≠a->H2 b=aa w->upd H2 a (.ins (c c') dx (dh fl u (ns.zip vs))) b=aa w:=λb w d e=>by rw[aL d];show e
   have J:=(rx.up Q.f Q.h).frame (aq.refl _) λb w d hm=>keep b w (λz=>by
    subst z;rw[ha]at d;cases d
    rcases hm with hm |hm
    .nomatch hm
    .show E hm) d
   have kk:∀b w,H2 b=aa w->b∉a::fs->upd H2 a _ b=aa w:=λb w d hn=>keep b w (λz=>hn (by rw[z];show az)) d
   cases G:aU fl ns with
   |some k=>
    rw[G]at j;cases j;have hkl:k<Z os:=by rw[B.len,<- hz];show zE G
    have(vk,fk,evk,_,_,sb,bk):=B.foc I (b6 hkl)
    have (U,r',m',n'):=bk bm _ x u gp (aq.refl _) (λb w d hm _=>keep b w (λz=>by
     subst z;rw[ha]at d;cases d
     rcases hm with hm |hm
     .nomatch hm
     .show N hm) d) J
    show L.foc es T rt m F kk (a,dx,vs.set k u,U,rfl,by rw[bd,zM hz G],by simp[hz],r',rfl) (b8.mpr (λz=>?_,n' l.1 λb d hf=>absurd (F.sub b (bi _ hf)) (ng b d))) λb d=>?_
    .rcases m' a z with y |⟨y,_⟩
     .show E y
     .show N y
    .rcases bc.mp d with z |z
     .rw[z];show .inl az
     .rcases m' b z with y |⟨y,_⟩
      .show .inr (hg b y)
      .show .inl (bi _ y)
   |none=>
    rw[G]at j;cases j;show L.foc es T rt m F kk (a,dx,vs++[u],fs++gp,rfl,by rw[bd,Ia hz G],by simp[hz],((B.stay ha rfl N (aq.refl _) keep).append (.one J)),rfl) (b8.mpr (λz=>?_,eO.mpr (I,l.1,λb d b' Y z=>by subst z;show ng b Y (F.sub b (bi _ d))))) λb d=>?_
    .rcases bz.mp z with y |y
     .show N y
     .show E y
    .rcases bc.mp d with z |z
     .rw[z];show .inl az
     .rcases bz.mp z with y |y
      .show .inl (bi _ y)
      .show .inr (hg b y)
  .nomatch j
 | _=>rw[h1]at j;nomatch j
nonrec def MTf:=Addr->LD->O->Option (O×D)
def iw(G:Gc)(n:Nat)(m:MTf):Sp:=λvs H Q _=>∃Hf ds o o' d l fp b,vs=.ref l::b/\aq Hf H/\OT G Hf H o (.ref l) fp/\fp.Nodup/\(∀a∈fp,Hf a=ab)/\am G Hf ds b/\1+Z ds=n/\m l ds o=aa (o',d,) /\
 ∀v Hf' H' fp',Ext Hf (gO H fp) Hf' H'->OT G Hf' H' o' (.ref l) fp'->fp'.Nodup->(∀a∈fp',gO H fp a=ab/\Hf' a=ab)->Rep G Hf' d v->Q v H'
def vj(N:Nat)(l:Addr)(ds:LD)(o:O):LS:=(eZ N (.non::ds)).set 0 (.deep (.at l o))
open Classical in
def nM(l:Addr)(M:LS):Option O:=match (M[0]?:Option Sl)with
 |some (Sl.deep (.at l' o))=>if l'=l then aa o else ab
 | _=>ab
def RS{o:O}(h:nM l M=aa o):M[0]?=aa (.deep (.at l o)):=by
 unfold nM at h
 grind
def Ic{o:O}(h:M[0]?=aa (.deep (.at l o))):nM l M=aa o:=by
 unfold nM;rw[h];show if_pos rfl
def d9(N:Nat)(F:MF3):MTf:=λl ds o=>(F (vj N l ds o)).bind λr=>match r with
 |.nx M=>(nM l M).map λo'=>(o',.non,)
 |.rtS d M=>(nM l M).map λo'=>(o',d,)
 | _=>ab
def au.startMT{o:O}{b:LVv}(f:aq Hf H)(e:OT G Hf H o (.ref l) fp)(n:fp.Nodup)(c:∀a∈fp,Hf a=ab)(r:am G Hf ds b):
  au G Hf (gO H fp) Hf H (L2.start N (.ref l::b)) (vj N.length l ds o):=by
 show(au.start (HJ f c) (.cons (d:=.non) rfl r)).setNew (i:=0) (Ext.grow (HJ f c) Rk) (.ref l,fp,rfl,(rfl,e),n,λa ha=>(zy ha,c a ha)) λa p=>by
  have(fp',g,ha):=p;have:=OT.funM o _ fp fp' e g.2;subst this;show zy ha
variable{f:Addr}
def gq{k:Nat}{F:MF3}(C:Fun K x qual st f fd)(S:aB N ps (av st))
 (h:∀(cdv:Value) (A:ca) (outer:List Env) (s:ah) (H:Hp) (X4:XK),bA k (A.deeper (f8 qual (av st) s.heap.objs.size f cdv))->DSs c (iF CX0 P w K mg base N qual (av st) f cdv A outer s H X4).nox (fQ st) F)(i:autoParam (Z N=n_) Zb):
  cx P w K mg base CX0 (k+1) f fd ps (iw (K,c) ps.length (d9 n_ F)):=by
 subst i;show C.ok S (λvs H Q X4 j=>by have(Hf,ds,o,o',d,l,fp,p,g,B,y,n,q,r,hn,_):=j;rw[g,cv,<- r.length];lia) λcdv A outer s H vs Q X4 hr j=>?_;have(Hf,ds,o,o',d,l,fp,p,g,B,y,n,q,r,hn,e,G):=j;show(_,h cdv A outer s H X4 hr,?_);subst g;unfold d9 at e
 cases b:F _ with
 |none=>rw[b]at e;nomatch e
 |some z=>
  rw[b,aA]at e;show(Hf,gO H fp,Hf,_,z,au.startMT B y n q r,b,?_)
  have fin:∀M d',(nM l M).map (λo'=>(o',d',))=aa (o',d,)->∀v σ' Hf' H',au (K,c) Hf _ Hf' H' σ' M->Rep (K,c) Hf' d' v->Q v H':=λM d' e v σ' Hf' H' a m=>by
   have(t,E,e):=dR e;cases e;have(u,L,U,fp',T,rt,I,J):=a.slot (RS E);cases rt.1;show G v Hf' H' fp' a.ext rt.2 I J m
  cases z with
  |nx M=>show λσ' Hf' H' _ a=>fin M .non e .non σ' Hf' H' a rfl
  |rtS d' M=>show λv σ' Hf' H' a m=>fin M d' e v σ' Hf' H' a m
  | _=>nomatch e
def au.treeBack{o o':O}{fp':LAd}(n:au G Hf0 H0 Hf H C M)(es:M[i]?=aa (.deep o))(e:C[i]?=aa (aa v))(r:OT G Hf H o v fp)(x:Ext Hf (gO H fp) Hf' H')(f:OT G Hf' H' o' v fp')(l:fp'.Nodup)(d:∀a∈fp',gO H fp a=ab/\Hf' a=ab):au G Hf0 H0 Hf' H' C (M.set i (.deep o')):=by
 have s1 : au G Hf0 H0 Hf (gO H fp) C (M.set i .no):=n.chg es e (λb y j=>by
  by_cases c:b∈fp
  .show .inl (fp,r,c)
  .show .inr (by rw[vf c];show j)) trivial λa p=>(p.calm rfl).elim
 have s2:=s1.setNew (i:=i) (s:=.deep o') x (v,fp',rfl,f,l,λa ha=>(s1.ext.h.free (d a ha).1,(d a ha).2)) λa p=>by
  have(g,m,ha):=p;have:=OT.funM o' v fp' g f m;subst this;show(d a ha).1
 rw[nJ e,set_set]at s2;show s2
abbrev O.isIns(cn fl:Str):O->Bool
 |.ins c ns _=>decide (c=cn) && !ns.contains fl
 | _=>af
def zN{cn fl:Str}{o:O}(h:o.isIns cn fl=ac):∃ns os,o=.ins cn ns os/\ns.contains fl=af:=by
 cases o with
 |ins c ns os=>
  replace h:(decide _ && !ns.contains fl)=ac:=h
  simp_all
 | _=>nomatch h
def cJ(i:Nat)(cn fl:Str)(m:MTf)(f:Xa):Xe:=λM=>match M[i]? with
 |some (.deep (.at _ o0))=>if o0.isIns cn fl then (f M).bind λp=>match p.2[i]? with
  |some (.deep (.at l o))=>(m l p.1 o).map λq=>(q.2,p.2.set i (.deep (.at l q.1)),)
  | _=>ab else ab
 | _=>ab
open Classical in
def jY(i:Nat)(cn fl:Str)(m:MTf)(f:Xa):Xe:=λM=>match M[i]? with
 |some (.deep o0)=>if o0.isIns cn fl then (f M).bind λp=>match p.2[i]? with
  |some (.deep (.ins c' ns os))=>if h:∃q,∀l,m l p.1 (.ins c' ns os)=aa q then aa (h.choose.2,p.2.set i (.deep h.choose.1),) else ab
  | _=>ab else ab
 | _=>ab
variable{fa:Xa}{m:MTf}{Q:VK}{t:TA}
def Ie(cn:Str)(ht:∀C H Q,rV (Gx c X) fa C H Q->t C H Q)(hn:∀M ds ρ',fa M=aa (ds,ρ',)->1+Z ds=Z ps)(q_:tDX (Gx c X) (cJ i cn fl m fa) C H Q):um (c cn) fl (iw (Gx c X) ps.length m) [] E0 (cX i) t C H Q:=by
 have(Hf0,H0,Hf,M,d,ρ',st,b,kq):=q_;unfold cJ at b;split at b
 .rename_i I o0 p;split at b
  .rename_i hi;have(ns,os,rfl,y):=zN hi;have(pp,E,b):=bg b;have(ds,ρ1):=pp;split at b
   .rename_i l o1 e;have(q,N,b):=dR b;cases b;have(u,x,u',fp,T,rt,n,z):=st.slot p;subst T;have(el,a,dx,vs,fs,Y,ha,hz,B,efp):=rt;subst el;cases Y;show(_,x,I,dx,ns.zip vs,rfl,ha,pA y,ht _ _ _ (Hf0,H0,Hf,M,ds,ρ1,st,E,λus Hf' H' f1 st1 r=>?_));rw[bO];have(w,G,w',gp,U,A,n1,z1):=st1.slot e;subst U;rw[x]at G;cases G;have(j,g):=A;cases j;show(Hf',ds,o1,q.1,q.2,I,gp,us,rfl,st1.sub,g,n1,λa ha=>(z1 a ha).2,r,hn _ _ _ E,N,λv h L fp3 J r3 n3 z3 rv=>kq v h L (f1.trans J.f) (st1.treeBack e x (rfl,g) J (rfl,r3) n3 z3) rv)
   .grind
  .grind
 .grind
def RT(cn:Str)(ht:∀C H Q,rV (Gx c X) fa C H Q->t C H Q)(hn:∀M ds ρ',fa M=aa (ds,ρ',)->1+Z ds=Z ps)(q_:tDX (Gx c X) (jY i cn fl m fa) C H Q):um (c cn) fl (iw (Gx c X) ps.length m) [] E0 (cX i) t C H Q:=by
 have(Hf0,H0,Hf,M,d,ρ',st,b,kq):=q_;unfold jY at b;split at b
 .rename_i o0 j;split at b
  .rename_i hi;have(ns,os,rfl,p):=zN hi;have(pp,A,b):=bg b;have(ds,ρ1):=pp;split at b
   .rename_i N x y e;split at b
    .rename_i I;have E:=I.choose_spec;generalize I.choose=q at b E;cases b;have(u,l,u',fp,T,rt,n,z):=st.slot j;subst T;have(a,dx,vs,fs,Y,ha,hz,B,efp):=rt;subst Y;show(_,l,a,dx,ns.zip vs,rfl,ha,pA p,ht _ _ _ (Hf0,H0,Hf,M,ds,ρ1,st,A,λus Hf' H' f1 st1 r=>?_));rw[bO];have(w,G,w',gp,U,g,n1,z1):=st1.slot e;subst U;rw[l]at G;cases G;show(Hf',ds,.ins N x y,q.1,q.2,a,gp,us,rfl,st1.sub,g,n1,λa ha=>(z1 a ha).2,r,hn _ _ _ A,E a,λv h L fp3 J r3 n3 z3 rv=>kq v h L (f1.trans J.f) (st1.treeBack e l g J r3 n3 z3) rv)
    .nomatch b
   .nomatch b
  .nomatch b
 .nomatch b
def Ig{k:Nat}{o:Expr}(cn:Str)(l:PE X o (cX i))(pk:Pm X.prog X.w X.K X.mg X.base CX0 k (c cn) fl (f,fd,) ps (iw (Gx c X) ps.length m))(g:bA k0 X.A)(ha:DAX c X (e::es) fa)(q:autoParam (Z (e::es)+1=Z ps) Zb)(j:autoParam (StE X e es) Zb)(d:autoParam (BkE X pos es) Zb)(n:autoParam (eval (.Call (.Attribute o fl apos) (e::es) [] pos) X.env=(do
   let ov <- eval o X.env
   gC apos.atName
   let (f,first,) <- eS [ov] (hJ ov fl pl)
   jN pos f first (cf pos (aO (e::es) X.env)) (iA pos (iz [] X.env)))) Zb)(a:autoParam (k<=k0) Zc):
  DX c X (.Call (.Attribute o fl apos) (e::es) [] pos) (cJ i cn fl m fa):=PE.imp (yb l pk.c pk.m pk.ok (g.mono a) pk.b .nil gf ha.pa j d n) λC H Q p=>Ie cn (λ_ _ _ h=>h) (λM ds ρ' h=>by have:=ha.len M ds ρ' h;lia) p
def RU{k:Nat}{o:Expr}(cn:Str)(l:PE X o (cX i))(pk:Pm X.prog X.w X.K X.mg X.base CX0 k (c cn) fl (f,fd,) ps (iw (Gx c X) ps.length m))(d:bA k0 X.A)(j:autoParam (1=Z ps) Zb)(n:autoParam (eval (.Call (.Attribute o fl apos) [] [] pos) X.env=(do
   let ov <- eval o X.env
   gC apos.atName
   let (f,first,) <- eS [ov] (hJ ov fl pl)
   jN pos f first (cf pos (aO [] X.env)) (iA pos (iz [] X.env)))) Zb)(a:autoParam (k<=k0) Zc):
  DX c X (.Call (.Attribute o fl apos) [] [] pos) (cJ i cn fl m cB):=PE.imp (yc l pk.c pk.m pk.ok (d.mono a) pk.b .nil gf n) λC H Q e=>Ie cn (λC H Q e=>by have(Hf0,H0,Hf,M,ds,ρ',st,g,k):=e;cases g;show k [] Hf H (aq.refl _) st rfl) (λM ds ρ' h=>by cases h;show j) e
def Ih{k:Nat}{o:Expr}(cn:Str)(l:PE X o (cX i))(pk:Pm X.prog X.w X.K X.mg X.base CX0 k (c cn) fl (f,fd,) ps (iw (Gx c X) ps.length m))(d:bA k0 X.A)(j:autoParam (1=Z ps) Zb)(n:autoParam (eval (.Call (.Attribute o fl apos) [] [] pos) X.env=(do
   let ov <- eval o X.env
   gC apos.atName
   let (f,first,) <- eS [ov] (hJ ov fl pl)
   jN pos f first (cf pos (aO [] X.env)) (iA pos (iz [] X.env)))) Zb)(a:autoParam (k<=k0) Zc):
  DX c X (.Call (.Attribute o fl apos) [] [] pos) (jY i cn fl m cB):=PE.imp (yc l pk.c pk.m pk.ok (d.mono a) pk.b .nil gf n) λC H Q e=>RT cn (λC H Q e=>by have(Hf0,H0,Hf,M,ds,ρ',st,g,k):=e;cases g;show k [] Hf H (aq.refl _) st rfl) (λM ds ρ' h=>by cases h;show j) e
open Classical in
def nN(cn:Str)(m:MTf)(fa:MF2)(M:LS):Option O:=(fa M).bind λds=>if h:∃o,∀l,m l ds (.ins cn [] [])=aa (o,.non,) then aa h.choose else ab
variable{bb:Bool}{fa:MF2}
def RV{cn:Str}(hC:X5=G.cl cn)(I:∀C H Q,tDA G fa C H Q->t C H Q)(hn:∀M ds,fa M=aa ds->1+Z ds=Z ps)(T:tDZ G bb (nN cn m fa) C H Q):Fd X5 (iw G ps.length m) [] E0 t C H Q:=by
 have(Hf0,H0,Hf,M,o,st,c,L):=T;have(ds,x,c):=bg c;split at c
 .rename_i B;have A:=B.choose_spec;generalize B.choose=o' at c A;cases c;show I _ _ _ (Hf0,H0,Hf,M,ds,st,x,λvs b3 H1 d r y dx p i j=>?_);rw[bO];subst hC;have J:(upd H1 dx (.own y)) y=ab:=by rw[aL j.symm];show p
  have s1:aq H1 (upd H1 dx (.own y)):=bR i;have s2:=s1.trans (bR (o:=.ins (G.cl cn) dx []) J)
  have w:aq H1 (gO _ [y]):=λb u q=>by
   rw[vf (λz=>fF q p (bw.mp z))];show s2 b u q
  show(b3,ds,.ins cn [] [],o,.non,y,[y],vs,rfl,d.s.trans s2,(y,dx,[],[],rfl,bd,rfl,(rfl,rfl),rfl),b8.mpr (dD,fA),λa ha=>by rw[bw.mp ha];show d.s.free p,r,hn M ds x,A y,λv bm H2 g e U N E Y=>(Y,?_));have x3:Ext b3 H1 bm H2:=(e.f,w.trans e.h,e.s,λl u q t=>e.n l u (w l u q) t);show L _ g bm H2 (d.trans x3) U (N,λa ha=>(zx st.ext.h (d.h.free (w.free (E a ha).1)),(E a ha).2))
 .nomatch c
variable{p:Pos}
def RW{k:Nat}(cn:Str)(d:Mk X.K (c cn) f)(F:cx X.prog X.w X.K X.mg X.base CX0 k f fd ps (iw (Gx c X) ps.length m))(hr:bA (k+1) X.A)(j:Gl X x)(hm:X.mg x=aa (.ref (c cn)))(g:dW X.K fd ps [])(ha:DA c X (e::es) fa)
 (n:autoParam (Z (e::es)+1=Z ps) Zb)(a:autoParam (NDb x) Zc)(i:autoParam (StE X e es) Zb)(b:autoParam (BkE X pos es) Zb):
  DZ c X bb (.Call (.Name x p) (e::es) [] pos) (nN cn m fa):=PE.imp (Fe d F hr j hm g .nil gf ha.pa a i b) λC H Q l=>RV rfl (λ_ _ _ h=>h) (λM ds h=>by have:=ha.len M ds h;lia) l
def hu1{u:Nat}(h:u+64<cLine):u+1<cLine:=lr (Nat.add_le_add_left (by decide) u) h
def Ii{f:MF2}(h:DL c X e f):DIe c X tg e f:=PI.imp (xR h) λC H R d=>by
 have(Hf0,H0,Hf,M,ds,st,b,k):=d;show(Hf0,H0,Hf,M,ds,st,b,λl vs Hf' H' x a r=>(l,rfl,(vs,SqL.of a),k _ Hf' H' x (Gq (SqL.of a) r)))
def vm(f:MF2)(M:LS):OLD:=(f M).map (iM 0)
variable{a:Expr}
def RX{f:MF2}(L:Gl X "enumerate")(hm:X.mg "enumerate"=ab)(ha:DL c X a f)(w:autoParam (aO [a] X.env=[(af,eval a X.env,)]) Zb):
  DIe c X (.Tuple elts kx gw) (.Call (.Name "enumerate" p) [a] [] pos) (vm f):=PI.imp (GN L hm (eW ha d7 w) w) λC H R N=>by
 have(Hf0,H0,Hf,M,ds,st,g,k):=N;have(E,A,g):=dR g;subst g;show(Hf0,H0,Hf,M,E,st,A,λl vs Hf' H' x q r=>(l,rfl,(vs,SqL.of q),k _ Hf' H' x λbm H2 e i=>?_));have j:SqL X.K H2 l vs:=SqL.of (e.h _ _ q);have Y:=r.length;show(λd b=>?_,λG=>(vs,j,by rw[yY]at G;lia));rw[yZ]at b;have(y,I,b):=dR b;subst b;have(u,n,ru):=r.get I;show((vs,u,j,n),λz U T=>?_);have(pp,z1,J,v,B,Q):=T;subst J B;have m:=Q vs j;rw[n]at m;cases m;show(upd bm pp _,Ext.new e.s v,pp,_,rfl,bd,.cons (by rw[lu];rfl) (.cons (ru.up (e.f.trans (bR (e.s.free v)))) .nil))
def RY:DZ c X bb (.Dict [] [] pos) (λ_=>aa (.dT [] [])):=PE.imp NV λC H Q d=>by
 have(Hf0,H0,Hf,M,o,st,b,k):=d;cases b;intro l a;show k _ [l] Hf _ (Ext.tmp st.sub a) (l,[],[],rfl,bd,rfl,(rfl,rfl),rfl) (.one (zx st.ext.h a) (st.sub.free a))
end L2
namespace HT
open List
open PySem PyProof.Rows
open PySem.SeqAt
open PySem.AutoSeq1 (wpAny_loadPart')
open PySem.MeetsSeq PySem.MeetsSeq2 PySem.MeetsSeq3
def RZ(l:Addr)(L:Array Value)(n:Nat)(x:Value)(f:Value->Bool)(j:Nat)(p:j<L.size)(q:f L[j]=ac)(hz:L.size<=aT)(k:Nat):
  ∀i:Nat,j-i=k->i<=j->(∀m (hm:m<L.size),i<=m->m<j->f L[m]=af)->Meets (eT.«list.remove.loop» ([.ref l,x,cm i],[]))
   (λA R s=>s.heap.get? l=aa {cls:=.type "list",dict:=ab,data:=.seq L n,slots:=#[]}/\(∀y,y∈L->EqAt A.in1 s y x (f y))/\R (.ok (.ret .none)) {s with heap:=s.heap.update l (hX λE=>E.eraseIdxIfInBounds j)}):=by
 induction k with
 |zero=>
  intro i r e b prog w A R s h;have(c,d,h):=h;obtain rfl:i=j:=by lia
  wp_walk using tS c
  rw[show L[S (_:Int)]?=aa L[i] by simp[p]];show ak (d _ (Array.getElem_mem p) prog w _ _ ?_);have g:(L.eraseIdxIfInBounds i).size<=aT+1:=cV (size_erased L _) (Nat.le_succ_of_le hz)
  wp_walk using (tW c rfl (_hz':=g)),tS c
  show h
 |succ k u=>
  intro i r e b prog w A R s h;have(c,d,h):=h;have a:i<L.size:=by lia
  wp_walk using tS c
  rw[show L[S ((i:Nat):Int)]?=aa L[i] by simp[a]];show ak (d _ (Array.getElem_mem a) prog w _ _ ?_);rw[b i a (aM _) (by lia)]
  wp_walk
  show (mF plain_remove_loop _,kg entry_remove_loop (by
   show u (i+1) (by lia) (by lia) (λm hm v h2=>b m hm (by lia) h2) prog w A R _ (c,d,h)))
def remAt(l:Addr)(L:Array Value)(n:Nat)(x:Value)(f:Value->Bool)(j:Nat)(e:j<L.size)(a:f L[j]=ac)(b:∀m (hm:m<L.size),m<j->f L[m]=af)(hz:L.size<=aT):Meets (eT.«list.remove» ([.ref l,x],[]))
   (λA R s=>s.heap.get? l=aa {cls:=.type "list",dict:=ab,data:=.seq L n,slots:=#[]}/\(∀y,y∈L->EqAt A.in1 s y x (f y))/\R (.ok (.ret .none)) {s with heap:=s.heap.update l (hX λE=>E.eraseIdxIfInBounds j)}):=by
 intro prog w A R s h;have(c,d,h):=h
 wp_walk using tS c
 show (mF plain_remove_loop _,kg entry_remove_loop (by
  show RZ l L n x f j e a hz _ 0 rfl (cj _) (λm hm _ h2=>b m hm h2) prog w A R _ (c,d,h)))
end HT
namespace L2
open List
open PySem PySem.Spec PyProof.Rows
abbrev Ij(G:Gc):V->LVv->Hp->VK->Prop:=λa vs H Q=>∃Hf l us ds x w,a=.ref l/\vs=[w]/\aq Hf H/\H l=aa (.lst us)/\am G Hf ds us/\Rep G Hf x w/\dB x ds=aa ac/\Q .non (upd H l (.lst (us.eraseIdx (ds.findIdx (isE x)))))
def O.remd(x:D)(o:O):Option O:=o.items.bind λds=>if dB x ds=aa ac then aa (.lst ((ds.eraseIdx (ds.findIdx (isE x))).map .fz)) else ab
def pZ(i:Nat)(p:Xp)(f:MF1)(M:LS):Option Fl:=(p M).bind λq=>(f M).bind λd=>(q.1.remd d).map λo2=>.nx (M.set i (.deep (q.2 o2)))
variable{c:Str->Addr}{X:Cx}
def R0(hu:X.A.units+64<cLine):MtM X "list.remove" (Ij (Gx c X)):=by
 rintro U s C H x E v us Q I rx rv ⟨Hf,l,vs,ds,z,w,rfl,rfl,G,q,B,r2,a,k⟩;subst rx;have(u,rfl,ru):=rv.one;have(z1,L,n,j,N,e0):=I.lstM q;have(f,J,ha):=rN (A:=X.A.in1) I (by rw[qS];lia) (r2.up G) ru (B.up G) j a;have(k1,k2):=zB a
 have same:∀m _,f L[m]=isE z (ds.getD m .non):=λm hm=>by
  have i:m<Z ds:=by rw[B.length,N];show hm
  have(v1,g,r):=B.get (b6 i);have(u1,b,ru1):=j.get g;rw[b6 hm]at b;cases b;have(_,d',v',r',p,h'):=J L[m] (g5 hm);have Y:=aD.inj p ru1;subst Y;have(T,d):=k1 ds[m] (g5 i);rw[bD,b6 i];change _=isE z ds[m];unfold isE;rw[d,(rM 19 r' (r.up G) h' d)]
  cases T <;> rfl
 have M:=wZ (any_eq_true.mp k2);have e:ds.findIdx (isE z)<Z L:=by rw[<- N,<- B.length];show M
 show call_meets F.slot_list_remove (_,e0,rfl) F.entry_list_remove (F.args_list_remove_2 _ _) (HT.remAt l L.toArray n u f _ (by rw[size_toArray];show e) ?_ ?_ (by rw[size_toArray];lia)) (e0,λy hy=>(J y (by simpa using hy)).1,?_)
 .rw[tK,same _ e,bD,b6 M];show findIdx_getElem
 .intro m hm h;rw[tK,same m (by rw[size_toArray]at hm;show hm),bD,b6 _];have:=not_of_lt_findIdx h;show this
 .show(.non,_,I.lset q e0 ?_ (j.eraseIdx _) ?_,rfl,k)
  .change L.toArray.eraseIdxIfInBounds _=(L.eraseIdx _).toArray;rw[eraseIdxIfInBounds_toArray]
  .have:=yg vs (ds.findIdx (isE z))
   lia
variable{st:Stmt}{i:Nat}{p:Xp}
def R1{f:MF1}(h:PS X st (mS (tBM X.K "list" (Ij (Gx c X)) (tDP (Gx c X) i p) (ji (tD (Gx c X) f) ig)))):DS c X st (pZ i p f):=PS.imp h λX4 C H q_=>by
 have(Hf0,H0,Hf,M,o,G,g,kq):=q_;have(q,N,g):=bg g;have(d,Q,g):=bg g;have(o2,y,g):=dR g;subst g;have(ds,T,y):=bg (y);split at y
 .rename_i A;cases y;show(Hf0,H0,Hf,M,q.1,q.2,G,N,λt v fp v1 f1 E H1 es U x rt F=>?_);have L:=F.r;rw[r6 T]at L;have(l,us,fs,rfl,J,B,j):=L;have(rd,rfl):=B.unfz;show(.inl (rfl,_,SqL.of J),Hf0,H0,E,M,d,G.step x,Q,λw m H2 e r2=>?_);show(m,l,us,ds,d,w,rfl,rfl,e.s,e.h _ _ J,rd.up e.f,r2,A,kq C m _ (x.trans e).f ?_);have I:=F.up e.f e.h
  have:=G.foc es U (rt.up e.f e.h) (x.trans e) I (λb u Y hn=>by rw[aL (λz=>hn (by rw[j,z];show az))];show Y)
   (o2:=.lst ((ds.eraseIdx (ds.findIdx (isE d))).map .fz)) (l,_,[],rfl,bd,OTs.fz ((rd.up e.f).erase _),rfl) (by rw[<- j];show I.n) λa ha=>.inl (by rw[j];show ha)
  show this
 .nomatch y
def ix(cn f:Str)(m:LD->OLD)(fo:MF1)(fa:MF2)(M:LS):OLD:=(fo M).bind λd=>match d with
 |.ins a ns ds=>if a=cn/\ns.contains f=af then (fa M).bind λas=>(m (.ins a ns ds::as)).bind λB=>if B.all D.flat then aa B else ab else ab
 | _=>ab
abbrev Ik:Fl->Option (LD ⊕ D)
 |.rtO ds=>aa (.inl ds)
 |.rt d=>if d.scalar then aa (.inr d) else ab
 | _=>ab
abbrev zO(n:Nat)(F:MF3)(ds:LD):Option (LD ⊕ D):=(F (eZ n ds)).bind Ik
def spN(G:Gc)(n:Nat)(m:LD->Option (LD ⊕ D)):Sp:=λvs H Q _=>∃Hf ds r,aq Hf H/\am G Hf ds vs/\Z ds=n/\m ds=aa r/\(∀B,r=.inl B->∀l us Hf' H',Ext Hf H Hf' H'->H l=ab->Hf' l=ab->H' l=aa (.lst us)->am G Hf' B us->Q (.ref l) H') /\
 ∀d,r=.inr d->d.scalar=ac/\∀v Hf' H',Ext Hf H Hf' H'->Rep G Hf' d v->Q v H'
variable{P:ce}{w:World}{K:aQ}{mg:MGT}{base:Heap}{n_:Nat}{x qual:Str}{f:Addr}{fd:cW}{N ps:LSt}
def R3{k:Nat}{F:MF3}(j:Fun K x qual st f fd)(S:aB N ps (av st))
 (h:∀(cdv:Value) (A:ca) (outer:List Env) (s:ah) (H:Hp) (X4:XK),bA k (A.deeper (f8 qual (av st) s.heap.objs.size f cdv))->DSs c (iF CX0 P w K mg base N qual (av st) f cdv A outer s H X4).nox (fQ st) F)(a:autoParam (Z N=n_) Zb):
  cx P w K mg base CX0 (k+1) f fd ps (spN (K,c) ps.length (zO n_ F)):=by
 subst a;show j.ok S (λvs H Q X4 b=>by have(Hf,ds,d,i,r,g,_):=b;rw[<- r.length];show g) λcdv A outer s H vs Q X4 hr b=>?_;have(Hf,ds,r,i,rd,g,e,m,n):=b;show(_,h cdv A outer s H X4 hr,?_);have(o,l,e):=bg e;show(Hf,H,Hf,_,o,au.start i rd,l,?_)
 cases o with
 |rtO B=>cases e;show m B rfl
 |rt d=>
  replace e:(if d.scalar then aa _ else ab)=aa r:=e;split at e
  .cases e;show(n d rfl).2
  .nomatch e
 | _=>nomatch e
def p7(m:LD->Option (LD ⊕ D))(f:MF2)(M:LS):OD:=(f M).bind λds=>(m ds).bind λr=>match r with
 |.inl B=>if B.all D.flat then aa (.lst B) else ab
 |.inr d=>if d.scalar then aa d else ab
variable{e:Expr}{es:LEx}{p pos:Pos}{fa:MF2}{k0:Nat}
def R4{k:Nat}{m:LD->Option (LD ⊕ D)}(pk:Pk X.prog X.w X.K X.mg X.base CX0 k x (f,fd,) ps (spN (Gx c X) ps.length m))(L:bA k0 X.A)(ha:DAB c X (e::es) fa)(hl:autoParam (Z (e::es)=Z ps) Zb)(G:autoParam (NDb x) Zc)(he:autoParam (StE X e es) Zb)(J:autoParam (BkE X pos es) Zb)(I:autoParam (k<=k0) Zc)(hg:autoParam (Gl X x) Zi):
  DE c X (.Call (.Name x p) (e::es) [] pos) (p7 m fa):=PE.imp (oT pk.ok (L.mono I) hg pk.g pk.kp pk.b .nil gf ha.pa G he J) λC H Q q_=>by
 have(Hf0,H0,Hf,M,d,st,a,U):=q_;have(ds,T,a):=bg a;have(r,Y,a):=bg a;show(Hf0,H0,Hf,M,ds,st,T,λvs Hf' H' x rv=>?_);rw[bO];show(H',ds,r,aq.refl _,rv,(ha.len M ds T).trans hl,Y,λB E l us z n y hn hf i N=>?_,λd' E=>?_)
 .subst E;replace a:(if B.all D.flat then aa _ else ab)=aa d:=a;split at a
  .rename_i u;cases a;have j:lV Hf' n l=ab:=by rw[pO (λvs q=>by rw[i]at q;nomatch q)];show x.s.free hn
   show U _ _ n ((x.trans (zq x.s y.h)).fix (x.h.free hn) j i) (l,us,rfl,bd,((N.up y.s).flat u).up (bR j))
  .nomatch a
 .subst E;replace a:(if d'.scalar then aa d' else ab)=aa d:=a;split at a
  .rename_i u;cases a;show(u,λv z n y N=>U v Hf' n (x.trans (Ext.grow x.s y.h)) (N.sc u))
  .nomatch a
variable{fl:Str}{apos:Pos}{fo:MF1}{pl:Sem Bool}
def Il{o:Expr}{k:Nat}{m:LD->OLD}(cn:Str)(ho:DB c X o fo)(pk:Pm X.prog X.w X.K X.mg X.base CX0 k (c cn) fl (f,fd,) ps (spO (Gx c X) ps.length m))(G:bA k0 X.A)(ha:DAB c X (e::es) fa)(hl:autoParam (Z (e::es)+1=Z ps) Zb)(I:autoParam (StE X e es) Zb)(E:autoParam (BkE X pos es) Zb)(ht:autoParam (eval (.Call (.Attribute o fl apos) (e::es) [] pos) X.env=(do
   let ov <- eval o X.env
   gC apos.atName
   let (f,first,) <- eS [ov] (hJ ov fl pl)
   jN pos f first (cf pos (aO (e::es) X.env)) (iA pos (iz [] X.env)))) Zb)(y:autoParam (k<=k0) Zc):
  DO c X (.Call (.Attribute o fl apos) (e::es) [] pos) (ix cn fl m fo fa):=PE.imp (yb ho pk.c pk.m pk.ok (G.mono y) pk.b .nil gf ha.pa I E ht) λC H Q q_=>by
 have(Hf0,H0,Hf,M,B,st,g,kq):=q_;have(d,e1,j):=bg g;clear g
 cases d with
 |ins J ns ds=>
  have g:(if J=cn/\ns.contains fl=af then (fa M).bind λas=>(m _).bind λB=>if B.all D.flat then aa B else ab else ab)=aa B:=j;split at g
  .rename_i u;have(p,z):=u;subst p;have(as,L,j):=bg g;have(rs',e3,g):=bg j;split at g
   .rename_i hs;cases g;show(Hf0,H0,Hf,M,_,st,e1,λv n H1 T r=>?_);have(a,dx,vs,ev,q,N,rr):=id r;subst ev;show(a,dx,ns.zip vs,rfl,q,pA z,Hf0,H0,n,M,as,st.step T,L,λws bm H2 U r2=>?_);rw[bO];have x:=T.trans U;show(H2,.ins J ns ds::as,_,aq.refl _,.cons (r.up U.h) r2,by rw[cv,ha.len M as L];show hl,e3,λl us Hf3 H3 Y hn hf i r3=>(kq l us _ H3 (x.trans (zq x.s Y.h)) (x.h.free hn) (by rw[pO (λvs q=>by rw[i]at q;nomatch q)];show x.s.free hn) i ((r3.up Y.s).flat hs)))
   .nomatch g
  .nomatch g
 | _=>nomatch j
abbrev lZ(w pr k:Nat)(js:LN)(g:D->LS->Option LS)(ft:MF4)(fe:MF1):LD->LS->LD->Option (LS×LD)
 | [],M,X2=>aa (M,X2,)
 |b::bs,M,X2=>if Z X2<=16777216 then (eX (gM g ft fe (iI k js ((M.set pr (.im b)).set w .no))) X2).bind λa=>lZ w pr k js g ft fe bs (M.set pr (.im b)) a else ab
def p8(w pr:Nat)(a:MF4)(e d:MF2)(k:Nat)(js:LN)(g:D->LS->Option LS)(ft:MF4)(fe:MF1)(M:LS):Option Fl:=
 (a M).bind λb=>(d (M.set w .no)).bind λbs=>if b=!bs.isEmpty then (if b then e M else aa []).bind λc=>(lZ w pr k js g ft fe bs M c).map λp=>.nx (p.1.set w (.own p.2)) else ab
variable{G:Gc}{Hf0 H0 Hf H:Hp}{C:St}{M:LS}{v:V}
def au.setAny(h:au G Hf0 H0 Hf H C M):au G Hf0 H0 Hf H (C.set i (aa v)) (M.set i .no):=h.setNew (Ext.refl h.sub) trivial λa p=>(p.calm rfl).elim
variable{w pr:Nat}{js:LN}{fb:MF2}{g:D->LS->Option LS}{ft:MF4}{fe:MF1}{ρ1:LS}
def Im{k:Nat}(hG:G.K=X.K)(hj:js.Nodup)(hk:∀d M ρ' i,g d M=aa ρ'->k<=i->ρ'[i]?=M[i]?)(E:∀d M ρ',g d M=aa ρ'->Z ρ'=Z M)(L:pr≠w){bs U L1:LD}{X4:jg}{a0:Addr}{r:LVv}
 (st:au G Hf0 H0 Hf H C (M.set w .no))(hw:w<Z M)(ew:C[w]?=aa (aa (.ref a0)))(ha:H a0=aa (.lst r))(r0:am G Hf U r)(hb:fb (M.set w .no)=aa bs)(fr:bs=[]->au G Hf0 H0 Hf H C (M.set w (.own U)))
 (el:lZ w pr k js g ft fe bs M U=aa (ρ1,L1,))(kq:∀σ' Hf' H',aq Hf Hf'->au G Hf0 H0 Hf' H' σ' (ρ1.set w (.own L1))->X4.nx σ' H'):
  xS (tDI G fb) (ib pr) (jh (oZ k js (xQ X.K (cX w)) (tDG G g) (tDT G ft) (tD G fe)) (ib w)) X4 C H:=by
 show(Hf0,H0,Hf,_,bs,st,hb,λJ j H1 Q it=>?_)
 show(λi m σ' H'=>m=Z bs-i/\i<=Z bs/\∃Hf' ρ' X2 a vs,au G Hf0 H0 Hf' H' σ' (ρ'.set w .no)/\w<Z ρ'/\σ'[w]?=aa (aa (.ref a))/\H' a=aa (.lst vs)/\am G Hf' X2 vs/\aq j Hf'/\lZ w pr k js g ft fe (bs.drop i) ρ' X2=aa _/\(i=Z bs->au G Hf0 H0 Hf' H' σ' (ρ'.set w (.own X2))),
  (Z bs,rfl,cj _,j,M,U,a0,r,st.step Q,hw,ew,Q.h _ _ ha,r0.up Q.f,aq.refl _,el,λe=>(fr (tL.mp e.symm)).step Q),?_)
 rintro i m σ' H' ⟨rfl,hi,Hf',ρ',X2,a,vs,N,hw',A,B,r',s1,b,own⟩;have(it1,it2):=it Hf' H' s1 N.sub i
 by_cases I:i<Z bs
 .have(d,ed,edr):=yO I;have(go,yl):=it1 d ed;rw[edr]at b;unfold lZ at b;split at b
  .rename_i hz;have(L',ec,el2):=bg b;show .inr (go,λu c=>Z bs-_=Z bs-_/\i+1<=Z bs/\∃Hf' ρ' X2 a vs,au G Hf0 H0 Hf' c u _/\w<Z ρ'/\u[w]?=aa _/\c a=aa _/\am G Hf' X2 vs/\aq j Hf'/\lZ w pr k js g ft fe _ ρ' X2=aa _/\_,λu c z=>(Z bs-(i+1),by lia,z),λx c y=>?_);have(v,T,rx):=yl x c y
   have n:au G Hf0 H0 v c (σ'.set pr (aa x)) ((ρ'.set pr (.im d)).set w .no):=by
    have:=(N.step T).setIm (i:=pr) rx;rw[set_comm _ _ L.symm]at this;show this
   have ew2:(σ'.set pr (aa x))[w]?=aa (aa (.ref a)):=by rw[lh L];show A
   show Gs hj hk E n (λR q=>(.ref a,ew2,a,rfl,(vs,SqL.of (T.h _ _ B)),?_)) hz ec λl us Y H3 x3 hn hf hl rl=>?_
   .have:=q _ v c (Ext.refl n.sub) (Gq (SqL.of (T.h _ _ B)) (r'.up T.f));rw[hG]at this;show this
   .have p:=n.setOwn (i:=w) (s:=.own L') rfl x3 hn hf (us,hl,rl);rw[set_set]at p;have hsl:w<Z (σ'.set pr (aa x)):=by rw[iy];show(c7.mp A).1
    show(rfl,I,Y,ρ'.set pr _,L',l,us,?_,by rw[iy];show hw',j9 hsl,hl,rl,(s1.trans T.f).trans x3.f,el2,λ_=>p);have:=p.setNo (i:=w);rw[set_set]at this;show this
  .nomatch b
 .have ei:i=Z bs:=by lia
  subst ei;rw[drop_eq_nil_of_le (aM _)]at b;cases b;show .inl (it2 rfl,kq σ' Hf' H' (Q.f.trans s1) (own rfl))
variable{fg:MF2}{ft0:MF4}
def R5{k:Nat}{s1 s2:Stmt}{rest:List Stmt}{F:MF3}(hj:js.Nodup)(hk:∀d M ρ' i,g d M=aa ρ'->k<=i->ρ'[i]?=M[i]?)(q:∀d M ρ',g d M=aa ρ'->Z ρ'=Z M)(E:pr≠w)
 (h1:PS X s1 (jh (tIf (tDT (Gx c X) ft0) (tDL (Gx c X) fg) (x9 ig)) (ib w)))(h2:PS X s2 (xS (tDI (Gx c X) fb) (ib pr) (jh (oZ k js (xQ X.K (cX w)) (tDG (Gx c X) g) (tDT (Gx c X) ft) (tD (Gx c X) fe)) (ib w))))(hr:DSs c X rest F):
  DSs c X (s1::s2::rest) (λM=>if w<Z M then ai (p8 w pr ft0 fg fb k js g ft fe) F M else ab):=PSs.imp (ud h1 (ud h2 hr)) λX4 C H q_=>by
 have(Hf0,H0,Hf,M,o,I,B,x):=q_;split at B
 .rename_i Q;have(r,j,B):=bg (B);have(b,e2,j):=bg j;have(bs,Y,j):=bg j;split at j
  .rename_i hb;have(L0,e4,j):=bg j;have(p,e5,j):=dR j;subst j;show(Hf0,H0,Hf,M,b,I,e2,λu U y=>?_);have G:w<Z C:=by rw[I.len];show Q
   have fin:∀{v:Hp},aq Hf v->∀σ' Hf' H',aq v Hf'->au _ Hf0 H0 Hf' H' σ' _->tDS _ F X4 σ' H':=λT σ' Hf' H' s1 m=>(Hf0,H0,Hf',_,o,m,B,by
    cases o with
    |nx M=>show λn h A s2 e=>x n h A ((T.trans s1).trans s2) e
    |bk M=>show λn h A s2 e=>x n h A ((T.trans s1).trans s2) e
    |ct M=>show λn h A s2 e=>x n h A ((T.trans s1).trans s2) e
    |rt d=>show x
    |rtO d=>show x
    |rtS d M=>show x
    |rtT t=>show x)
   cases b with
   |true=>
    show(Hf0,H0,u,M,L0,I.step y,e4,λa vs v H2 L ha r=>?_)
    show Im rfl hj hk q E ((I.step y).step L).setAny Q (j9 G) ha r Y (λz=>by rw[z]at hb;nomatch hb) e5 (λσ' Hf' H' s1 m=>fin (y.f.trans L.f) σ' Hf' H' s1 m)
   |false=>
    cases e4;show(cj _,λl N=>?_);have L:Ext u U u (upd U l (.lst [])):=Ext.tmp y.s N;have e:=(I.step y).setOwn (i:=w) (s:=.own []) rfl L N (y.s.free N) ([],bd,.nil);have J:=e.setNo (i:=w);rw[set_set]at J;show Im rfl hj hk q E J Q (j9 G) bd .nil Y (λ_=>e) e5 (λσ' Hf' H' s1 m=>fin y.f σ' Hf' H' s1 m)
  .nomatch j
 .nomatch B
def R6{i k:Nat}(h:i<k):∀d (M ρ':LS) j,ax i d M=aa ρ'->k<=j->ρ'[j]?=M[j]?:=λd M ρ' j e a=>by cases e;show lh (by lia)
def R7:∀d (M ρ':LS),ax i d M=aa ρ'->Z ρ'=Z M:=λd M ρ' e=>by cases e;show iy
variable{o1:O}{R:O->O}
def R8(d:au G Hf0 H0 Hf H C M)(h:aI i M=aa (o1,R,)):∃o v fp,M[i]?=aa (.deep o)/\C[i]?=aa (aa v)/\OT G Hf H o v fp/\fp.Nodup/\(∀a∈fp,H0 a=ab/\Hf a=ab)/\Foc G Hf H o v fp o1 v fp R:=by
 have main:∀o,M[i]?=aa (.deep o)->(∀v fp,OT G Hf H o v fp->fp.Nodup->Foc G Hf H o v fp o1 v fp R)->∃o v fp,M[i]?=aa (.deep o)/\C[i]?=aa (aa v)/\OT G Hf H o v fp/\fp.Nodup/\(∀a∈fp,H0 a=ab/\Hf a=ab)/\Foc G Hf H o v fp o1 v fp R:=λo es F=>by
  have(v,b,u,fp,c,r,n,z):=d.slot es;subst c;show(o,u,fp,es,b,r,n,z,F u fp r n)
 unfold aI at h;split at h
 .rename_i l o es;cases h;show main _ es λv fp r n=>Foc.at r n
 .rename_i o _ es;cases h;show main _ es λv fp r n=>Foc.refl r n
 .nomatch h
def R9{cn f:Str}(g:au G Hf0 H0 Hf H C M)(h:aX cn f (aI i) M=aa (o1,R,)):∃o v fp v1 f1,M[i]?=aa (.deep o)/\C[i]?=aa (aa v)/\OT G Hf H o v fp/\fp.Nodup/\(∀a∈fp,H0 a=ab/\Hf a=ab)/\Foc G Hf H o v fp o1 v1 f1 R:=by
 have(q,c,h):=bg h;have(r,d,h):=dR h;cases h;have(o,v,fp,es,e,rt,n,z,F):=R8 g c;have(a,dx,ns,vs,j,f2,_,_,_,b):=F.fld d;show(o,v,fp,j,f2,es,e,rt,n,z,b)
variable{l:Addr}
def au.focFix{o:O}{fp:LAd}{ds:LD}{vs:LVv}(B:au G Hf0 H0 Hf H C M)(es:M[i]?=aa (.deep o))(J:C[i]?=aa (aa v))(r:OT G Hf H o v fp)(n:fp.Nodup)(z:∀a∈fp,H0 a=ab/\Hf a=ab)(F:Foc G Hf H o v fp (.lst (ds.map .fz)) (.ref l) [l] R)(ql:H l=aa (.lst vs))(rd:am G Hf ds vs):
  au G Hf0 H0 (upd Hf l (.lst vs)) H C (M.set i (.deep (R (.fz (.lst ds))))):=by
 have N:=F.sub l az;have Q:=(z l N).2;have m:aq Hf (upd Hf l (.lst vs)):=bR Q;have(fp',T,mem,nd):=F.back _ H (.fz (.lst ds)) [] m (λb u e _=>e) ((l,vs,rfl,bd,rd.up m),rfl)
 have c:∀a∈fp',a∈fp/\a≠l:=λa ha=>by
  rcases mem a ha with y |⟨y,y'⟩
  .show nomatch y
  .show(y,λe=>y' (by rw[e];show az))
 have nl:∀j t w,j≠i->M[j]?=aa t->C[j]?=aa _->Holds G Hf H t w l->False:=λj t w hj b A p=>hj (B.dj j i t _ w v l b es A J p (fp,r,N));show B.re (B.ext.fix (z l N).1 Q ql) (by simp) (λj u t a b=>?_) λj t w a b A p=>?_
 .rcases cY b with⟨e,e',_⟩ |⟨en,b⟩
  .subst e e';rw[J]at a;cases a;show(v,fp',rfl,T,(nd fA λa ha=>nomatch ha),λx f=>((z x (c x f).1).1,by rw[aL (c x f).2];show(z x (c x f).1).2))
  .have q:=B.at' j u t a b
   cases E:t.isOwn with
   |false=>
    cases t with
    |no=>trivial
    |im d=>have(U,I,h):=q;show(U,I,h.up m)
    |val U=>show q
    |deep o'=>
     have(w,gp,I,h,n2,Y):=q;subst I;show(w,gp,rfl,h.up m (aq.refl _),n2,λx f=>((Y x f).1,?_));rw[aL (λy=>nl j _ w en b a (gp,h,by rw[<- y];show f))]
     show(Y x f).2
    | _=>nomatch E
   |true=>
    have(l2,e2,e3,e4,q2):=q.own E;subst e2;show .ofOwn E (l2,rfl,e3,?_,q2.up m λo' L=>L);rw[aL (λy=>nl j t _ en b a ((Holds.own E).mpr (by rw[y])))];show e4
 .rcases cY b with⟨e,e',_⟩ |⟨_,b⟩
  .subst e e';rw[J]at A;cases A;have(g,h,ha):=p;have:=OT.funM _ _ _ _ T h;subst this;show(_,es,(fp,r,(c a ha).1))
  .show(t,b,(B.at' j _ t A b).back (λo fp _ r=>r.up m (aq.refl _)) p)
def nO(i:Nat)(cn f:Str)(F:MF3)(M:LS):Option Fl:=(aX cn f (aI i) M).bind λq=>q.1.items.bind λds=>F (M.set i (.deep (q.2 (.fz (.lst ds)))))
def Io{F:MF3}(i:Nat)(cn f:Str)(h:DS c X st F):DS c X st (nO i cn f F):=PS.imp h λX4 C H m=>by
 have(Hf0,H0,Hf,M,o,d,a,k):=m;have(q,e,a):=bg a;have(ds,g,a):=bg a;have(t,v,fp,v1,f1,es,j,rt,n,z,b):=R9 d e;rw[r6 g]at b;have(l,vs,fs,rfl,p,B,rfl):=id b.r;have(rd,rfl):=B.unfz;show(Hf0,H0,_,_,o,d.focFix es j rt n z b p rd,a,k.up (bR (z l (b.sub l az)).2))
structure Bas(K:aQ)(X5:Addr)(m:Str)(f:Addr):Prop where
 sg:W.specialIn K (.ref X5) "__getattribute__"=aa (aa (.builtin "type.__getattribute__"))
 rd:W.readsIn K X5 (.type "type")=ac
 fc:W.findCls K (.ref X5) (.type "type") m=aa (.val (.ref f))
 kp:gc K (.ref f)=ac
variable{X5:Addr}
def Sa{U:PNS}{s:ah}{A:ca}{X4:PRS}{m:Str}{Q:Value×LVa->ah->Prop}(I:Inv X U C H s)(b:Bas X.K X5 m f)(h:∀a,Inv X U C H a->Q (.ref f,[],) a):wpAny (model X.prog X.w) A (hJ (.ref X5) m pl) Q X4 s:=
 W.method_cls I.kIn b.sg (W.cls_value I.kIn b.rd b.fc rfl (h _ (I.tok _)))
def l5(i:Nat)(m:MTf)(f:Xa):Xe:=λM=>match M[i]? with
 |some (.deep (.at _ _))=>(f M).bind λp=>match p.2[i]? with
  |some (.deep (.at l o))=>(m l p.1 o).map λq=>(q.2,p.2.set i (.deep (.at l q.1)),)
  | _=>ab
 | _=>ab
variable{sp:Sp}{t:TA}
def Sb{k:Nat}(l:Gl X x)(hm:X.mg x=aa (.ref X5))(b:Bas X.K X5 fl f)(F:cx X.prog X.w X.K X.mg X.base CX0 k f fd ps sp)(hr:bA k X.A)(j:dW X.K fd ps [])(ha:PA X (e::es) t)
 (d:autoParam (StE X e es) Zb)(c:autoParam (BkE X pos es) Zb)(a:autoParam (NDb x) Zc)
 (m:autoParam (eval (.Call (.Attribute (.Name x p) fl apos) (e::es) [] pos) X.env=(do
   let ov <- eval (.Name x p) X.env
   gC apos.atName
   let (f,first,) <- eS [ov] (hJ ov fl pl)
   jN pos f first (cf pos (aO (e::es) X.env)) (iA pos (iz [] X.env)))) Zb):
  PE X (.Call (.Attribute (.Name x p) fl apos) (e::es) [] pos) (ya sp [] E0 t):=by
 intro U s C H Q I h;show W.methodCall_KW (xK I l hm ?_ a) m;show Sa I b λs1 i=>?_;show W.callWith_K I.ok.mod.kin b.kp (thn (ha pos U s1 C H _ i h) λus s2 (vs,q,g,r,n)=>(g.kIn,(uq F hr j .nil gf g r n))) d c
variable{fa:Xa}{m:MTf}
def Sc{Q:VK}(U:∀C H Q,rV (Gx c X) fa C H Q->t C H Q)(hn:∀M ds ρ',fa M=aa (ds,ρ',)->1+Z ds=Z ps)(q_:tDX (Gx c X) (l5 i m fa) C H Q):ya (iw (Gx c X) ps.length m) [] E0 (ji (cX i) t) C H Q:=by
 have(Hf0,H0,Hf,M,d,ρ',st,b,Y):=q_;unfold l5 at b;split at b
 .rename_i E o0 p;have(pp,A,b):=bg b;have(ds,ρ1):=pp;split at b
  .rename_i l o1 e;have(q,J,b):=dR b;cases b;have(u,x,u',fp,L,rt,n,z):=st.slot p;subst L;have(el,rt0):=rt;subst el;show(_,x,U _ _ _ (Hf0,H0,Hf,M,ds,ρ1,st,A,λus Hf' H' f1 st1 r=>?_));change iw _ _ _ ((V.ref E::us)++[]) H' Q E0;rw[bO];have(w,B,w',gp,N,y,n1,z1):=st1.slot e;subst N;rw[x]at B;cases B;have(j,g):=y;cases j;show(Hf',ds,o1,q.1,q.2,E,gp,us,rfl,st1.sub,g,n1,λa ha=>(z1 a ha).2,r,hn _ _ _ A,J,λv h I T G r3 n3 z3 rv=>Y v h I (f1.trans G.f) (st1.treeBack e x (rfl,g) G (rfl,r3) n3 z3) rv)
  .nomatch b
 .nomatch b
section
variable{k:Nat}{o:Expr}
def Sd(n:PE X o (cX i))(l:Gl X x)(hm:X.mg x=aa (.ref X5))(b:Bas X.K X5 fl f)(F:cx X.prog X.w X.K X.mg X.base CX0 k f fd ps (iw (Gx c X) ps.length m))(hr:bA k X.A)(j:dW X.K fd ps [])(ha:DAX c X (e::es) fa)
 (u:autoParam (Z (e::es)+1=Z ps) Zb)(a:autoParam (aO (o::e::es) X.env=(af,eval o X.env,)::aO (e::es) X.env) Zb)(g:autoParam ((cf pos (aO (e::es) X.env)).any (·.1)=af) Zb)(d:autoParam (NDb x) Zc)
 (q:autoParam (eval (.Call (.Attribute (.Name x p) fl apos) (o::e::es) [] pos) X.env=(do
   let ov <- eval (.Name x p) X.env
   gC apos.atName
   let (f,first,) <- eS [ov] (hJ ov fl pl)
   jN pos f first (cf pos (aO (o::e::es) X.env)) (iA pos (iz [] X.env)))) Zb):
  DX c X (.Call (.Attribute (.Name x p) fl apos) (o::e::es) [] pos) (l5 i m fa):=PE.imp (Sb l hm b F hr j (eW n ha.pa a) a g d q) λC H Q r=>Sc (λ_ _ _ h=>h) (λM ds ρ' h=>by have:=ha.len M ds ρ' h;lia) r
end
section
variable{k:Nat}
def nP(i:Nat)(cn fl:Str)(f:MF1)(M:LS):Option Fl:=match M[i]? with
 |some (.deep (.at l (.ins c' ns os)))=>if c'=cn/\Z ns<1000 then (aU fl ns).bind λk=>match os[k]? with
  |some (.fz (.int a))=>match f M with
   |some (.int b)=>aa (.nx (M.set i (.deep (.at l (.ins c' ns (os.set k (.fz (.int (a+b)))))))))
   | _=>ab
  | _=>ab else ab
 | _=>ab
end
variable{g:MF1}
def Sf{o:Expr}{u:Pos}(cn:Str)(hc:Cls X.K (c cn))(hn:cN X.K (c cn) fl)(ho:PE X o (cX i))(he:DE c X e g):DS c X (.AugAssign (.Attribute o fl u) .Add e pos) (nP i cn fl g):=PS.imp (MX ho he MZ) λX4 C H q_=>by
 have(Hf0,H0,Hf,M,o,Q,d,kq):=q_;unfold nP at d;split at d
 .rename_i l A ns os es;split at d
  .rename_i J;have(rfl,hlt):=J;have(k,U,d):=bg d;split at d
   .rename_i a eo;split at d
    .rename_i b eb;cases d;have(v,T,v',fp,e3,rt,n,z):=Q.slot es;subst e3;have F:=Foc.at rt n;have(el,p,dx,vs,fs,ep,L,hz,B,E):=id rt;subst el;cases ep;subst E;have(na,N):=b8.mp n;have(vk,fk,G,rk,_,sb,bk):=B.foc N eo;show(_,T,_,c A,dx,ns.zip vs,vk,rfl,L,hc,hn,(zF vs U).trans G,Hf0,H0,Hf,M,_,Q,eb,λv2 r x m r1=>(a,b,rk.1,r1,?_));show(dx,ns.zip vs,m.h _ _ L,by rw[ox];lia,kq C r _ m.f ?_);have F1:=F.up m.f m.h;have keep:∀q w,q≠l->x q=aa w->upd x l (.ins (c A) dx (dh fl (.int (a+b)) (ns.zip vs))) q=aa w:=λq w j e=>by rw[aL j];show e
     have (I,r',Y,n'):=bk r (upd x l (.ins (c A) dx (dh fl (.int (a + b)) (ns.zip vs)))) (.fz (.int (a + b))) (.int (a + b)) [] m.f (λq w j hm _=>by
      show keep q w (λy=>?_) (m.h _ _ j);subst y;simp only[L]at j;cases j
      rcases hm with hm |hm
      .nomatch hm
      .show na hm) (rfl,rfl)
     show Q.foc es T (rt.up m.f m.h) m F1 (λq w j hn=>keep q w (λy=>hn (by rw[y];show az)) j) (l,dx,vs.set k (.int (a+b)),I,rfl,by rw[bd,zM hz U],by simp[hz],r',rfl) (b8.mpr ⟨λy=>?_,n' fA λq j=>nomatch j⟩) λq j=>?_
     .rcases Y l y with w |⟨w,_⟩
      .nomatch w
      .show na w
     .rcases bc.mp j with y |y
      .rw[y];show .inl az
      .rcases Y q y with w |⟨w,_⟩
       .nomatch w
       .show .inl (bi _ w)
    .nomatch d
   .nomatch d
  .nomatch d
 .nomatch d
def sd(i:Nat)(f:MF1)(M:LS):Option Fl:=match M[i]? with
 |some (.im (.int a))=>match f M with
  |some (.int b)=>aa (.nx (M.set i (.im (.int (a-b)))))
  | _=>ab
 | _=>ab
def Sg(i:Nat){h:Pos}(y:X.N.Nodup)(z:DE c X e g)(hi:autoParam (X.N[i]?=aa x) Zb)(B:autoParam (Loc X.env.scope x) Zf)(A:autoParam (LcF X x) Zg):
  DS c X (.AugAssign (.Name x h) .Sub e pos) (sd i g):=PS.imp (EW y hi B z L7 A) λX4 C H E=>by
 have(Hf0,H0,Hf,M,o,l,d,k):=E;unfold sd at d;split at d
 .rename_i a es;split at d
  .rename_i b n;cases d;have(v,p,w,q,j):=l.slot es;subst q;show(_,p,Hf0,H0,Hf,M,_,l,n,λu Hf' H' m r=>(a,b,j,r,k _ Hf' H' m.f ((l.step m).setIm rfl)))
  .nomatch d
 .nomatch d
def Sh{f:MF1}(h:PE X e (tBM X.K "list" (zC (Gx c X)) (tDB (Gx c X) f) (ji (tD (Gx c X) g) ig))):DE c X e (m2 gQ f g):=PE.imp h λC H Q J=>by
 have(Hf0,H0,Hf,M,d,st,I,k):=J;have(x,y,E,G,m):=mY I
 obtain⟨ds,i,rfl,rfl⟩:∃ds i,x=.lst ds/\d=.int i:=by
  unfold gQ at m
  grind
 show(Hf0,H0,Hf,M,_,st,E,λv b U p n=>?_);have(l,vs,el,q,B):=id n;subst el;show(.inl (rfl,_,SqL.of q),Hf0,H0,b,M,y,st.step p,G,λu j r a L=>(r,.lst ds,y,_,u,rfl,aq.refl _,n.up a.h,L.up a.s,m,λw A z T N=>k w j z ((p.trans a).trans (Ext.grow a.s T.h)) N))
section
variable{k:Nat}
def si(x y:D):OD:=match x with
 |.dT ks ds=>(k4 y).bind λk=>(aU k ks).bind λj=>ds[j]?
 | _=>ab
end
def Si{o:Expr}{f:MF1}(Y:X.A.units+1<cLine)(T:DE c X o f)(N:DE c X e g)(U:autoParam (q9 e) Zj):DE c X (.Subscript o e pos) (m2 si f g):=PE.imp (yp Y T N U) λC H Q q_=>by
 have(Hf0,H0,Hf,M,d,st,L,kq):=q_;have(x,y,z,E,h):=mY L;unfold si at h;split at h
 .rename_i ks ds;have(k,G,h):=bg h;have(j,I,h):=bg h;show(Hf0,H0,Hf,M,_,st,z,λv l H1 r r1=>(Hf0,H0,l,M,y,st.step r,E,λu m w i r2=>?_));have(b,J,tk):=rY G r2;have(a,vs,rfl,ha,hz,B):=r1;subst J;have(q,n,p):=B.get h;show(a,q,rfl,?_,kq q m w (r.trans i) (p.up i.f));rw[<- n,<- pV vs I];show fR.t (i.s _ _ (i.f _ _ ha)) (tk.same i.s)
 .nomatch h
structure zP(K:aQ)(x qual:Str)(st:Stmt)(f:Addr)(fd:cW):Prop where
 ex:∃(oc:Value) (od:Option Addr) (dV kV doc pm:Value) (an:Option Addr) (cdv ct:Value) (osl:Array (Option Value)),
  fd=je x qual (kz st) (fQ st) (av st) dV kV doc pm an cdv ct/\K.lookup f=aa (oc,od,.func fd,osl)/\W.codeIn K cdv qual=ac
 kp:gc K (.ref f)=ac
def Sj{oc:Value}{od an:Option Addr}{osl:Array (Option Value)}{dV kV doc pm cdv ct:Value}(l:K.lookup f=aa (oc,od,.func (je x qual (kz st) (fQ st) (av st) dV kV doc pm an cdv ct),osl))
 (c:W.codeIn K cdv qual=ac)(k:gc K (.ref f)=ac):zP K x qual st f (je x qual (kz st) (fQ st) (av st) dV kV doc pm an cdv ct):=((oc,od,dV,kV,doc,pm,an,cdv,ct,osl,rfl,l,c),k)
variable{n:Nat}
def Ip{ds:LVa}{T:Addr}{o:Obj}{items:Array Value}(l:K.lookup T=aa o)(d:o.data=.seq items n)(hd:fd.defaults=.ref T)
 (h:∀us:LVa,Z (us++ds)=Z ps->∃k,bindArgs fd (us,[])=seqItems? fd.defaults >>= k/\k (aa items)=pure (ps.zip (us++ds))):dW K fd ps ds:=λs us X c=>by
 have(k,a,b):=h us c;show W.binds_K X hd l d a b
variable{w:World}
def Sk{k:Nat}{F:MF3}(u:zP K x qual st f fd)(S:aB N ps (av st))
 (h:∀(cdv:Value) (A:ca) (outer:List Env) (s:ah) (H:Hp) (X4:XK),bA k (A.deeper (f8 qual (av st) s.heap.objs.size f cdv))->DSs c (iF CX0 P w K mg base N qual (av st) f cdv A outer s H X4).nox (fQ st) F)(j:autoParam (Z N=n_) Zb):
  cx P w K mg base CX0 (k+1) f fd ps (spD (K,c) ps.length (aK n_ F)):=by
 subst j;have(oc,od,dV,kV,doc,pm,an,cdv,ct,osl,rfl,y,i):=u.ex;show Fk y i S (λvs H Q X4 m=>by have(Hf,ds,d,q,r,a,_):=m;rw[<- r.length];show a) λA outer s H vs Q X4 hr m=>?_;have(Hf,ds,d,q,r,a,e,b):=m;show(_,(h cdv A outer s H X4 hr).nox,?_);unfold aK at e
 cases g:F _ with
 |none=>rw[g]at e;nomatch e
 |some o=>
  rw[g]at e;show(Hf,H,Hf,_,o,au.start q r,g,?_)
  cases o with
  |rt d=>cases e;show b
  |rtO B=>cases e;show λl vs Hf' H' x hn p a r=>b _ _ H' (x.fix hn p a) (l,vs,rfl,bd,r.up (bR p))
  |nx M=>cases e;show λσ' Hf' H' _ n=>b _ Hf' H' n.ext rfl
  |rtS d M=>cases e;show λv σ' Hf' H' n r=>b v Hf' H' n.ext r
  | _=>nomatch e
end L2
namespace N_k53
open List
open PySem PySem.Spec PyProof.Rows L2
local macro_rules | `(tactic| walk_at "sc")=>`(tactic| exact ⟨rfl,rfl,rfl,by decide +kernel,rfl,by decide +kernel,by decide +kernel⟩)
def top(i:Nat):Stmt:=PySem.Challenge.pw_standstill_k53_all_sets_beside.main.body.getD i (.Pass (0,0,0,0))
nonrec def s_1:=top 2
nonrec def zQ:=top 3
nonrec def zR:=top 10
nonrec def zS:=top 11
nonrec def zT:=top 12
nonrec def zU:=top 13
nonrec def zV:=top 14
nonrec def zW:=top 15
nonrec def zX:=top 16
nonrec def zY:=top 17
nonrec def zZ:=top 18
nonrec def s_7:=top 19
nonrec def s_2:=top 21
nonrec def z4:=top 22
nonrec def z5:=top 24
nonrec def z6:=top 25
nonrec def s_4:=top 26
nonrec def s_0:=top 29
nonrec def z7:=top 30
nonrec def z8:=top 31
nonrec def z9:=top 34
nonrec def s_5:=top 35
nonrec def Aa:=top 36
nonrec def Ab:=top 37
nonrec def Ac:=top 38
nonrec def Ad:=top 39
nonrec def Ae:=top 40
nonrec def Ag:=top 41
nonrec def Ah:=top 42
nonrec def Ai:=top 43
nonrec def Aj:=top 44
nonrec def Ak:=top 45
nonrec def Al:=top 46
nonrec def Am:=top 47
nonrec def An:=top 48
nonrec def Ao:=top 49
nonrec def s_6:=top 50
nonrec def Ap:=bo (top 6) 0
nonrec def Aq:=bo (top 6) 2
nonrec def Ar:=bo (top 6) 3
nonrec def As:=bo (top 6) 5
nonrec def At:=bo (top 6) 6
nonrec def Au:=bo (top 6) 7
nonrec def Av:=bo (top 6) 8
nonrec def Aw:=bo (top 6) 9
nonrec def Ax:=bo (top 7) 0
nonrec def Ay:=bo (top 7) 2
nonrec def Az:=bo (top 7) 3
nonrec def AA:=bo (top 7) 5
nonrec def AB:=bo (top 7) 6
nonrec def AC:=bo (top 7) 7
nonrec def AD:=bo (top 7) 8
nonrec def AE:=bo (top 7) 9
nonrec def AF:=bo (top 8) 0
nonrec def AG:=bo (top 8) 2
nonrec def AH:=bo (top 8) 3
nonrec def AI:=bo (top 8) 5
nonrec def AJ:=bo (top 8) 6
nonrec def AK:=bo (top 8) 7
nonrec def AL:=bo (top 8) 8
nonrec def AM:=bo (top 8) 9
nonrec def AN:=bo (top 9) 0
nonrec def AO:=bo (top 9) 2
nonrec def AQ:=bo (top 9) 3
nonrec def AR:=bo (top 9) 5
nonrec def AS:=bo (top 9) 6
nonrec def AT:=bo (top 9) 7
nonrec def AU:=bo (top 9) 8
nonrec def AV:=bo (top 9) 9
nonrec def AW:=bo (top 32) 0
nonrec def s_8:=bo (top 32) 1
nonrec def AX:=bo (top 32) 2
nonrec def AY:=bo (top 32) 3
nonrec def AZ:=bo (top 32) 4
nonrec def s_3:=bo (top 32) 5
nonrec def s_9:=bo (top 32) 6
nonrec def A0:=bo (top 27) 1
nonrec def A1:=bo (top 27) 2
nonrec def A3:=bo (top 27) 3
nonrec def A4:=bo (top 27) 4
nonrec def A5:=bo (top 27) 5
nonrec def A6:=bo (top 27) 6
nonrec def A7:=bo (top 27) 7
nonrec def A8:=bo (top 27) 8
nonrec def A9:=bo (top 27) 9
nonrec def Ba:=bo (top 27) 10
nonrec def Bb:=bo (top 27) 11
nonrec def Bc:=bo (top 27) 12
nonrec def Bd:=bo (top 27) 0
def p9:aB ["many","some","listed","thing"] ["many","some"] (av s_1):=by walk_at "sc"
def Sm:aB ["truths"] ["truths"] (av zQ):=by walk_at "sc"
def Iq:aB ["told","word"] ["told"] (av zR):=by walk_at "sc"
def Sn:aB ["items"] ["items"] (av zS):=by walk_at "sc"
def So:aB ["items","entries"] ["items","entries"] (av zT):=by walk_at "sc"
def Sr:aB ["items","sheet"] ["items","sheet"] (av zU):=by walk_at "sc"
def Ss:aB ["items"] ["items"] (av zV):=by walk_at "sc"
def Su:aB ["items","without"] ["items","without"] (av zW):=by walk_at "sc"
def Ir:aB ["items","sheet","lack","weights"] ["items","sheet","lack"] (av zX):=by walk_at "sc"
def Be:aB ["items","weights","thing","worth"] ["items"] (av zY):=by walk_at "sc"
def Sv:aB ["things","sheet","truth"] ["things","sheet","truth"] (av zZ):=by walk_at "sc"
def vn:aB ["items","things","lack","weights","taken","left","thing","weight"] ["items","things","lack"] (av s_7):=by walk_at "sc"
def Iu:aB ["rule"] ["rule"] (av s_2):=by walk_at "sc"
def Iv:aB ["rule","guard"] ["rule"] (av z4):=by walk_at "sc"
def Sw:aB ["bar"] ["bar"] (av z5):=by walk_at "sc"
def Iw:aB ["guard","sheet","pairs","part","tips"] ["guard","sheet"] (av z6):=by walk_at "sc"
def Ix:aB ["body","sheet","without","part"] ["body","sheet","without"] (av s_4):=by walk_at "sc"
def sj:aB ["plain","most","seeking","firsts","world"] ["plain","most"] (av s_0):=by walk_at "sc"
def Sx:aB ["why"] ["why"] (av z7):=by walk_at "sc"
def Sy:aB ["order","needed"] ["order","needed"] (av z8):=by walk_at "sc"
def Sz:aB ["_law_script","_law_k"] ["_law_script","_law_k"] (av z9):=by walk_at "sc"
def Iy:aB ["_law_cell","_law_k","_law_prime","_law_once"] ["_law_cell","_law_k"] (av s_5):=by walk_at "sc"
def Iz:aB ["_law_cell","_law_k","_law_many","_law_items_here","_law_j","_law_at","_law_worth"] ["_law_cell","_law_k","_law_many"] (av Aa):=by walk_at "sc"
def IA:aB ["_law_cell","_law_k","_law_many","_law_sort","_law_items_here","_law_bound"] ["_law_cell","_law_k","_law_many"] (av Ab):=by walk_at "sc"
def Bf:aB ["_law_cell","_law_many","_law_word","_law_size","_law_parts"] ["_law_cell","_law_many"] (av Ac):=by walk_at "sc"
def IB:aB ["_law_cell","_law_many","_law_rules","_law_k"] ["_law_cell","_law_many"] (av Ad):=by walk_at "sc"
def IC:aB ["_law_script","_law_top","_law_head","_law_many","_law_rules","_law_cell"] ["_law_script","_law_top"] (av Ae):=by walk_at "sc"
def SA:aB ["_law_part_here"] ["_law_part_here"] (av Ag):=by walk_at "sc"
def ID:aB ["_law_plain_here","_law_rules","_law_word","_law_head","_law_parts"] ["_law_plain_here"] (av Ah):=by walk_at "sc"
def Bg:aB ["_law_items_here","_law_some","_law_total","_law_thing","_law_worth"] ["_law_items_here","_law_some"] (av Ai):=by walk_at "sc"
def SB:aB ["_law_part_here","_law_rising","_law_world"] ["_law_part_here","_law_rising","_law_world"] (av Aj):=by walk_at "sc"
def SC:aB ["_law_rule_here","_law_rising","_law_world"] ["_law_rule_here","_law_rising","_law_world"] (av Ak):=by walk_at "sc"
def SD:aB ["_law_rule_here","_law_world"] ["_law_rule_here","_law_world"] (av Al):=by walk_at "sc"
def IE:aB ["_law_plain_here","_law_world","_law_held","_law_grows","_law_rule_here"] ["_law_plain_here","_law_world"] (av Am):=by walk_at "sc"
def SE:aB ["_law_plain_here","_law_world"] ["_law_plain_here","_law_world"] (av An):=by walk_at "sc"
def Bh:aB ["_law_plain_here","_law_due","_law_number","_law_world"] ["_law_plain_here"] (av Ao):=by walk_at "sc"
def IF:aB ["_law_script","_law_plain_here","_law_most","_law_found","_law_due"] ["_law_script"] (av s_6):=by walk_at "sc"
def SF:aB ["self","thing"] ["self","thing"] (av Ap):=by walk_at "sc"
def SG:aB ["self"] ["self"] (av Aq):=by walk_at "sc"
def SH:aB ["self"] ["self"] (av Ar):=by walk_at "sc"
def SI:aB ["self","sheet"] ["self","sheet"] (av As):=by walk_at "sc"
def SJ:aB ["self","sheet","order"] ["self","sheet","order"] (av At):=by walk_at "sc"
def SK:aB ["self","sheet"] ["self","sheet"] (av Au):=by walk_at "sc"
def SL:aB ["self","sheet","without"] ["self","sheet","without"] (av Av):=by walk_at "sc"
def SM:aB ["self","sheet","without","order"] ["self","sheet","without","order"] (av Aw):=by walk_at "sc"
def SN:aB ["self","thing"] ["self","thing"] (av Ax):=by walk_at "sc"
def SO:aB ["self"] ["self"] (av Ay):=by walk_at "sc"
def SQ:aB ["self"] ["self"] (av Az):=by walk_at "sc"
def SR:aB ["self","sheet"] ["self","sheet"] (av AA):=by walk_at "sc"
def SS:aB ["self","sheet","order"] ["self","sheet","order"] (av AB):=by walk_at "sc"
def SU:aB ["self","sheet"] ["self","sheet"] (av AC):=by walk_at "sc"
def SV:aB ["self","sheet","without"] ["self","sheet","without"] (av AD):=by walk_at "sc"
def SW:aB ["self","sheet","without","order"] ["self","sheet","without","order"] (av AE):=by walk_at "sc"
def SX:aB ["self","bound","items"] ["self","bound","items"] (av AF):=by walk_at "sc"
def SY:aB ["self"] ["self"] (av AG):=by walk_at "sc"
def SZ:aB ["self"] ["self"] (av AH):=by walk_at "sc"
def S0:aB ["self","sheet"] ["self","sheet"] (av AI):=by walk_at "sc"
def S1:aB ["self","sheet","order"] ["self","sheet","order"] (av AJ):=by walk_at "sc"
def IG:aB ["self","sheet","lack"] ["self","sheet"] (av AK):=by walk_at "sc"
def S2:aB ["self","sheet","without"] ["self","sheet","without"] (av AL):=by walk_at "sc"
def IH:aB ["self","sheet","without","order","left"] ["self","sheet","without","order"] (av AM):=by walk_at "sc"
def S3:aB ["self","bound","items"] ["self","bound","items"] (av AN):=by walk_at "sc"
def S4:aB ["self"] ["self"] (av AO):=by walk_at "sc"
def S5:aB ["self"] ["self"] (av AQ):=by walk_at "sc"
def S6:aB ["self","sheet"] ["self","sheet"] (av AR):=by walk_at "sc"
def S7:aB ["self","sheet","order"] ["self","sheet","order"] (av AS):=by walk_at "sc"
def II:aB ["self","sheet","lack"] ["self","sheet"] (av AT):=by walk_at "sc"
def S8:aB ["self","sheet","without"] ["self","sheet","without"] (av AU):=by walk_at "sc"
def S9:aB ["self","sheet","without","order"] ["self","sheet","without","order"] (av AV):=by walk_at "sc"
def Ta:aB ["self","plain"] ["self","plain"] (av AW):=by walk_at "sc"
def Bi:aB ["self","why","world"] ["self"] (av s_8):=by walk_at "sc"
def IJ:aB ["self","why","line"] ["self","why"] (av AX):=by walk_at "sc"
def Bj:aB ["self","bar","places","choices"] ["self","bar"] (av AY):=by walk_at "sc"
def vp:aB ["self","why","sheet","pair","cause","order","needed","bar","done","thing","ground"] ["self","why"] (av AZ):=by walk_at "sc"
def IK:aB ["self","sheet","why","order","things","part"] ["self","sheet","why","order"] (av s_3):=by walk_at "sc"
def Bk:aB ["self","sheet","group","order","without","things","head","body"] ["self","sheet","group","order"] (av s_9):=by walk_at "sc"
def IL:aB ["self","why","guard","part","thing"] ["self","why","guard"] (av A0):=by walk_at "sc"
def IM:aB ["self","bar","why"] ["self","bar"] (av A1):=by walk_at "sc"
def sm:aB ["self","bar","wider","pair","why"] ["self","bar"] (av A3):=by walk_at "sc"
def Tb:aB ["self","thing","truth","why"] ["self","thing","truth","why"] (av A4):=by walk_at "sc"
def IN:aB ["self","many","pair","why"] ["self","many"] (av A5):=by walk_at "sc"
def IP:aB ["self","going","why"] ["self"] (av A6):=by walk_at "sc"
def vq:aB ["self","why","pairs","thing","truth"] ["self"] (av A7):=by walk_at "sc"
def Bl:aB ["self","without","thing","things","is_loose"] ["self"] (av A8):=by walk_at "sc"
def vt:aB ["self","without","used","rest","going","before","unused","maker"] ["self"] (av A9):=by walk_at "sc"
def Bm:aB ["self","thing","without","found","place","part"] ["self","thing","without"] (av Ba):=by walk_at "sc"
def Tc:aB ["self","thing","without"] ["self","thing","without"] (av Bb):=by walk_at "sc"
def Td:aB ["self","part","without"] ["self","part","without"] (av Bc):=by walk_at "sc"
def IQ:aB ["self","plain","bars","sheet","rule","number","bar"] ["self","plain","bars","sheet"] (av Bd):=by walk_at "sc"
set_option genInjectivity false
set_option genSizeOf false
structure DfX(K:aQ)(mg:MGT)(x:Str)(st:Stmt)(ps:LSt)(e:Addr×cW):Prop where
 F:zP K x x st e.1 e.2
 b:dW K e.2 ps []
 g:mg x=aa (.ref e.1)
variable{P:ce}{w:World}{K:aQ}{mg:MGT}{base:Heap}{x:Str}{st:Stmt}{ps:LSt}
def DfX.pk{CX:CXT}{k:Nat}{e:Addr×cW}{sp:Sp}(X4:DfX K mg x st ps e)(o:cx P w K mg base CX k e.1 e.2 ps sp):Pk P w K mg base CX k x e ps sp:=(o,X4.g,X4.F.kp,X4.b)
structure Db(K:aQ)(x q:Str)(st:Stmt)(ps:LSt)(e:Addr×cW):Prop where
 F:Fun K x q st e.1 e.2
 b:dW K e.2 ps []
def Db.mk2{q:Str}{f:Addr}{fd:cW}(F:Fun K x q st f fd)(b:autoParam (uu x q st ps) Zk):Db K x q st ps (f,fd,):=(F,F.binds b)
structure Wa where
(e_1 e_19 e_36 e_37 e_20 e_13 e_38 e_39 e_21 e_14 e_15 e_7 e_2 e_22 e_51 e_76 e_4 e_0 e_23 e_40 e_24 e_5 e_41 e_25 e_26 e_27 e_28 e_52 e_42 e_16 e_53 e_17 e_43 e_29 e_54 e_30 e_6 e_72 e_44 e_55 e_56 e_57 e_58 e_31 e_59 e_73 e_45 e_60 e_61 e_62 e_63 e_32 e_64 e_74 e_46 e_65 e_66 e_67 e_47 e_33 e_48 e_75 e_49 e_68 e_69 e_70 e_50 e_34 e_71 e_11 e_8 e_12 e_35 e_18 e_3 e_9 h6 il h7 kF ii j0 h8 gF hY j3 h9 iW e_10:Addr×cW)
 (cl:Str->Addr)
 (C_Spreading:Addr)
structure Wd(K:aQ)(mg:MGT)(a:Wa):Prop where
 e_1:Df K mg "marks" s_1 ["many","some"] a.e_1
 e_19:Df K mg "numbers" zQ ["truths"] a.e_19
 e_36:Df K mg "part_of" zR ["told"] a.e_36
 e_37:Df K mg "things_of" zS ["items"] a.e_37
 e_20:Df K mg "worth_in" zT ["items","entries"] a.e_20
 e_13:Df K mg "worth_not_out" zU ["items","sheet"] a.e_13
 e_38:Df K mg "worth_of" zV ["items"] a.e_38
 e_39:Df K mg "outside" zW ["items","without"] a.e_39
 e_21:Df K mg "heavy" zX ["items","sheet","lack"] a.e_21
 e_14:Df K mg "weights_of" zY ["items"] a.e_14
 e_15:Df K mg "with_entry" zZ ["things","sheet","truth"] a.e_15
 e_7:Df K mg "enough" s_7 ["items","things","lack"] a.e_7
 e_2:Df K mg "body_of" s_2 ["rule"] a.e_2
 e_22:Df K mg "guard_of" z4 ["rule"] a.e_22
 e_51:Df K mg "guard_of_bar" z5 ["bar"] a.e_51
 e_76:Df K mg "pressed_by" z6 ["guard","sheet"] a.e_76
 e_4:Df K mg "lost_part" s_4 ["body","sheet","without"] a.e_4
 e_0:DfX K mg "worlds" s_0 ["plain","most"] a.e_0
 e_23:Df K mg "own_why" z7 ["why"] a.e_23
 e_40:Df K mg "needed_first" z8 ["order","needed"] a.e_40
 e_24:Df K mg "_law_cell_at" z9 ["_law_script","_law_k"] a.e_24
 e_5:Df K mg "_law_mixed" s_5 ["_law_cell","_law_k"] a.e_5
 e_41:Df K mg "_law_items" Aa ["_law_cell","_law_k","_law_many"] a.e_41
 e_25:Df K mg "_law_part" Ab ["_law_cell","_law_k","_law_many"] a.e_25
 e_26:Df K mg "_law_rule" Ac ["_law_cell","_law_many"] a.e_26
 e_27:Df K mg "_law_base" Ad ["_law_cell","_law_many"] a.e_27
 e_28:Df K mg "_law_plain" Ae ["_law_script","_law_top"] a.e_28
 e_52:Df K mg "_law_part_again" Ag ["_law_part_here"] a.e_52
 e_42:Df K mg "_law_again" Ah ["_law_plain_here"] a.e_42
 e_16:Df K mg "_law_sum" Ai ["_law_items_here","_law_some"] a.e_16
 e_53:Df K mg "_law_part_holds" Aj ["_law_part_here","_law_rising","_law_world"] a.e_53
 e_17:Df K mg "_law_body_holds" Ak ["_law_rule_here","_law_rising","_law_world"] a.e_17
 e_43:Df K mg "_law_broken" Al ["_law_rule_here","_law_world"] a.e_43
 e_29:Df K mg "_law_built" Am ["_law_plain_here","_law_world"] a.e_29
 e_54:Df K mg "_law_stands" An ["_law_plain_here","_law_world"] a.e_54
 e_30:Df K mg "_law_all" Ao ["_law_plain_here"] a.e_30
 e_6:Df K mg "law" s_6 ["_law_script"] a.e_6
 e_72:Dm K (a.cl "In") "__init__" "In.__init__" Ap ["self","thing"] a.e_72
 e_44:Dm K (a.cl "In") "named" "In.named" Aq ["self"] a.e_44
 e_55:Dm K (a.cl "In") "wants" "In.wants" Ar ["self"] a.e_55
 e_56:Dm K (a.cl "In") "sure" "In.sure" As ["self","sheet"] a.e_56
 e_57:Dm K (a.cl "In") "sure_by" "In.sure_by" At ["self","sheet","order"] a.e_57
 e_58:Dm K (a.cl "In") "tips" "In.tips" Au ["self","sheet"] a.e_58
 e_31:Dm K (a.cl "In") "lost" "In.lost" Av ["self","sheet","without"] a.e_31
 e_59:Dm K (a.cl "In") "lost_by" "In.lost_by" Aw ["self","sheet","without","order"] a.e_59
 e_73:Dm K (a.cl "Out") "__init__" "Out.__init__" Ax ["self","thing"] a.e_73
 e_45:Dm K (a.cl "Out") "named" "Out.named" Ay ["self"] a.e_45
 e_60:Dm K (a.cl "Out") "wants" "Out.wants" Az ["self"] a.e_60
 e_61:Dm K (a.cl "Out") "sure" "Out.sure" AA ["self","sheet"] a.e_61
 e_62:Dm K (a.cl "Out") "sure_by" "Out.sure_by" AB ["self","sheet","order"] a.e_62
 e_63:Dm K (a.cl "Out") "tips" "Out.tips" AC ["self","sheet"] a.e_63
 e_32:Dm K (a.cl "Out") "lost" "Out.lost" AD ["self","sheet","without"] a.e_32
 e_64:Dm K (a.cl "Out") "lost_by" "Out.lost_by" AE ["self","sheet","without","order"] a.e_64
 e_74:Dm K (a.cl "Least") "__init__" "Least.__init__" AF ["self","bound","items"] a.e_74
 e_46:Dm K (a.cl "Least") "named" "Least.named" AG ["self"] a.e_46
 e_65:Dm K (a.cl "Least") "wants" "Least.wants" AH ["self"] a.e_65
 e_66:Dm K (a.cl "Least") "sure" "Least.sure" AI ["self","sheet"] a.e_66
 e_67:Dm K (a.cl "Least") "sure_by" "Least.sure_by" AJ ["self","sheet","order"] a.e_67
 e_47:Dm K (a.cl "Least") "tips" "Least.tips" AK ["self","sheet"] a.e_47
 e_33:Dm K (a.cl "Least") "lost" "Least.lost" AL ["self","sheet","without"] a.e_33
 e_48:Dm K (a.cl "Least") "lost_by" "Least.lost_by" AM ["self","sheet","without","order"] a.e_48
 e_75:Dm K (a.cl "Most") "__init__" "Most.__init__" AN ["self","bound","items"] a.e_75
 e_49:Dm K (a.cl "Most") "named" "Most.named" AO ["self"] a.e_49
 e_68:Dm K (a.cl "Most") "wants" "Most.wants" AQ ["self"] a.e_68
 e_69:Dm K (a.cl "Most") "sure" "Most.sure" AR ["self","sheet"] a.e_69
 e_70:Dm K (a.cl "Most") "sure_by" "Most.sure_by" AS ["self","sheet","order"] a.e_70
 e_50:Dm K (a.cl "Most") "tips" "Most.tips" AT ["self","sheet"] a.e_50
 e_34:Dm K (a.cl "Most") "lost" "Most.lost" AU ["self","sheet","without"] a.e_34
 e_71:Dm K (a.cl "Most") "lost_by" "Most.lost_by" AV ["self","sheet","without","order"] a.e_71
 e_11:Dm K (a.cl "Seeking") "__init__" "Seeking.__init__" AW ["self","plain"] a.e_11
 e_8:Dm K (a.cl "Seeking") "another" "Seeking.another" s_8 ["self"] a.e_8
 e_12:Dm K (a.cl "Seeking") "close" "Seeking.close" AX ["self","why"] a.e_12
 e_35:Dm K (a.cl "Seeking") "place_for" "Seeking.place_for" AY ["self","bar"] a.e_35
 e_18:Dm K (a.cl "Seeking") "line_to" "Seeking.line_to" AZ ["self","why"] a.e_18
 e_3:Dm K (a.cl "Seeking") "grounds" "Seeking.grounds" s_3 ["self","sheet","why","order"] a.e_3
 e_9:Dm K (a.cl "Seeking") "grounds_of_group" "Seeking.grounds_of_group" s_9 ["self","sheet","group","order"] a.e_9
 h6:Dm K (a.cl "Seeking") "take_guard" "Spreading.take_guard" A0 ["self","why","guard"] a.h6
 il:Dm K (a.cl "Seeking") "take_bar" "Spreading.take_bar" A1 ["self","bar"] a.il
 h7:Dm K (a.cl "Seeking") "drop_wider" "Spreading.drop_wider" A3 ["self","bar"] a.h7
 kF:Dm K (a.cl "Seeking") "put" "Spreading.put" A4 ["self","thing","truth","why"] a.kF
 ii:Dm K (a.cl "Seeking") "take_back" "Spreading.take_back" A5 ["self","many"] a.ii
 j0:Dm K (a.cl "Seeking") "settle" "Spreading.settle" A6 ["self"] a.j0
 h8:Dm K (a.cl "Seeking") "look_round" "Spreading.look_round" A7 ["self"] a.h8
 gF:Dm K (a.cl "Seeking") "put_loose_out" "Spreading.put_loose_out" A8 ["self"] a.gF
 hY:Dm K (a.cl "Seeking") "loose_marks" "Spreading.loose_marks" A9 ["self"] a.hY
 j3:Dm K (a.cl "Seeking") "kernel" "Spreading.kernel" Ba ["self","thing","without"] a.j3
 h9:Dm K (a.cl "Seeking") "lost_parts" "Spreading.lost_parts" Bb ["self","thing","without"] a.h9
 iW:Dm K (a.cl "Seeking") "keeping" "Spreading.keeping" Bc ["self","part","without"] a.iW
 e_10:Db K "__init__" "Spreading.__init__" Bd ["self","plain","bars","sheet"] a.e_10
 b1_worlds:∃ds,aG [V.int 1] ds/\dW K a.e_0.2 ["plain","most"] ds
 ro:mg "In"=aa (.ref (a.cl "In"))
 n7:Cls K (a.cl "In")
 p5:Mk K (a.cl "In") a.e_72.1
 nk:cN K (a.cl "In") "thing"
 rc:mg "Out"=aa (.ref (a.cl "Out"))
 ny:Cls K (a.cl "Out")
 pz:Mk K (a.cl "Out") a.e_73.1
 mm:cN K (a.cl "Out") "thing"
 qa:mg "Least"=aa (.ref (a.cl "Least"))
 kT:Cls K (a.cl "Least")
 oo:Mk K (a.cl "Least") a.e_74.1
 lj:cN K (a.cl "Least") "bound"
 lb:cN K (a.cl "Least") "pieces"
 ri:mg "Most"=aa (.ref (a.cl "Most"))
 md:Cls K (a.cl "Most")
 pj:Mk K (a.cl "Most") a.e_75.1
 l0:cN K (a.cl "Most") "bound"
 lk:cN K (a.cl "Most") "pieces"
 pb:mg "Spreading"=aa (.ref a.C_Spreading)
 oD:Bas K a.C_Spreading "__init__" a.e_10.1
 p0:mg "Seeking"=aa (.ref (a.cl "Seeking"))
 ad:Cls K (a.cl "Seeking")
 n5:Mk K (a.cl "Seeking") a.e_11.1
 ir:cN K (a.cl "Seeking") "sheet"
 ll:cN K (a.cl "Seeking") "steps"
 ld:cN K (a.cl "Seeking") "bars"
 kv:cN K (a.cl "Seeking") "guards"
 hO:cN K (a.cl "Seeking") "watches"
 kr:cN K (a.cl "Seeking") "waiting"
 ky:cN K (a.cl "Seeking") "makers"
 lp:cN K (a.cl "Seeking") "paper"
 kQ:cN K (a.cl "Seeking") "count"
 lw:cN K (a.cl "Seeking") "ended"
 qq:mg "all"=ab
 p6:mg "any"=ab
 nq:mg "enumerate"=ab
 mu:mg "isinstance"=ab
 qs:mg "len"=ab
 nS:mg "list"=ab
 og:mg "range"=ab
 nL:mg "reversed"=ab
 q4:mg "set"=ab
 n0:mg "sorted"=ab
 p4:mg "sum"=ab
 pu:mg "tuple"=ab
 pw:rB K "list"
 o6:rB K "tuple"
set_option genInjectivity true
set_option genSizeOf true
nonrec abbrev qD(P:ce)(w:World)(K:aQ)(mg:MGT)(base:Heap)(a:Wa)(k:Nat)(x:Str)(e:Addr×cW)(ps:LSt)(m:LD->OD):Prop:=Pk P w K mg base CX0 k x e ps (spD (K,a.cl) ps.length m)
nonrec abbrev qO(P:ce)(w:World)(K:aQ)(mg:MGT)(base:Heap)(a:Wa)(k:Nat)(x:Str)(e:Addr×cW)(ps:LSt)(m:LD->OLD):Prop:=Pk P w K mg base CX0 k x e ps (spO (K,a.cl) ps.length m)
nonrec abbrev gR(P:ce)(w:World)(K:aQ)(mg:MGT)(base:Heap)(a:Wa)(k:Nat)(c x:Str)(e:Addr×cW)(ps:LSt)(m:MTf):Prop:=Pm P w K mg base CX0 k (a.cl c) x e ps (iw (K,a.cl) ps.length m)
nonrec abbrev qPD(P:ce)(w:World)(K:aQ)(mg:MGT)(base:Heap)(a:Wa)(k:Nat)(c x:Str)(e:Addr×cW)(ps:LSt)(m:LD->OD):Prop:=Pm P w K mg base CX0 k (a.cl c) x e ps (spD (K,a.cl) ps.length m)
nonrec abbrev qPO(P:ce)(w:World)(K:aQ)(mg:MGT)(base:Heap)(a:Wa)(k:Nat)(c x:Str)(e:Addr×cW)(ps:LSt)(m:LD->OLD):Prop:=Pm P w K mg base CX0 k (a.cl c) x e ps (spO (K,a.cl) ps.length m)
def Bo:MF3:=
 (ai (aZ (mB (m2 dEq (aw cQ (ag (ae 0) nZ)) (kI 2))) (eD 0) bB)
  (aW (bx (ag (mIx (ar 0) (kI 0)) (ag (mIx (ar 0) (kI 1)) (ag (aP (aV (mIx (ar 0) (kI 2)))) nZ))))))
def Bp:=aK 1 Bo
def Bq:MF3:=
 (ai (cZ 1 nZ)
  (ai (bS (aV (mIx (ar 0) (kI 1))) (c9 (bv (ax 2) (bv (ax 3) (bv (ax 4) dA)))) (dq 1 (bx (ag (ae 2) (ag (ae 3) (ag (aP (bj 1 [] (aV (ae 4)) (ax 0) kY (aw Bp (ag (ae 0) nZ)))) nZ))))))
  (fG 1 (aW (bx (ag (mIx (ar 0) (kI 0)) (ag (ae 1) nZ)))))))
def Br:=aK 5 Bq
def Bs:MF3:=
 (ai (a8 2 (kI 0))
  (ai (bS (aV (ae 0)) (c9 (bv (ax 3) (bv (ax 4) dA))) (aZ (mB (m2 dIn (ae 3) (ae 1))) (lY 2 (mX (ae 4))) bB))
  (eD 2)))
def vv:=aK 5 Bs
def Bt:MF3:=
 (ai (aZ (mB (m2 dEq (mIx (ar 0) (kI 0)) (kSt "in"))) (aW (m2 dIn (mIx (ar 0) (kI 1)) (ae 1))) bB)
  (ai (aZ (mB (m2 dEq (mIx (ar 0) (kI 0)) (kSt "out"))) (aW (m2 jo (mIx (ar 0) (kI 1)) (ae 2))) bB)
  (ai (aZ (mB (m2 dEq (mIx (ar 0) (kI 0)) (kSt "least"))) (aW (m2 dGe (aw vv (ag (mIx (ar 0) (kI 2)) (ag (ae 1) nZ))) (mIx (ar 0) (kI 1)))) bB)
  (aW (m2 dLe (aw vv (ag (mIx (ar 0) (kI 2)) (ag (ae 2) nZ))) (mIx (ar 0) (kI 1)))))))
def Bu:=aK 3 Bt
def Bv:MF3:=
 (aW (aw uY (ag (aP (bj 1 [1,2] (aV (mIx (ar 0) (kI 2))) (ax 0) kY (aw Bu (ag (ae 0) (ag (ae 1) (ag (ae 2) nZ)))))) nZ)))
def sn:=aK 3 Bv
def Bw:MF3:=
 (ai (aZ (mOr (mB (m2 dEq (mIx (ar 0) (kI 0)) (kSt "may"))) (gJ (bH (aw sn (ag (ae 0) (ag (ae 1) (ag (ae 1) nZ))))))) (aW (kBl af)) bB)
  (aW (vOr (m2 dEq (mIx (ar 0) (kI 0)) (kSt "never")) (m2 jo (mIx (ar 0) (kI 1)) (ae 1)))))
def vw:=aK 2 Bw
def Bx:MF3:=
 (ai (cZ 2 nZ)
  (ai (a8 3 (kBl ac))
  (ai (dk (bH (ae 3)) (ai (a8 3 (kBl af))
  (bS (aV (mIx (ar 0) (kI 1))) (ax 4) (aZ (di (mB (m2 dNe (mIx (ar 4) (kI 0)) (kSt "never"))) (di (mB (m2 dIn (mIx (ar 4) (kI 1)) (ae 1))) (mB (m2 jo (mIx (ar 4) (kI 1)) (cP 2))))) (aZ (bH (nr sn (ag (ae 4) (ag (cP 2) (ag (ae 1) nZ))))) (ai (dq 2 (mIx (ar 4) (kI 1)))
  (a8 3 (kBl ac))) bB) bB))) 1000000000)
  (fG 2 (cr (kZ (ae 2)))))))
def vz:=aK 5 Bx
def By:MF3:=
 (ai (aZ (bH (aw lQ (ag (aP (bj 1 [1] (aV (mIx (ar 0) (kI 1))) (ax 0) kY (aw vw (ag (ae 0) (ag (ae 1) nZ))))) nZ))) (aW (kBl af)) bB)
  (aW (m2 dEq (aw vz (ag (ae 0) (ag (ae 1) nZ))) (ae 1))))
def Bz:=aK 2 By
def BA:MF3:=
 (ai (cZ 1 nZ)
  (ai (bS (gL (ag (m2 pR (kI 1) (mIx (ar 0) (kI 0))) nZ)) (ax 2) (ai (a8 3 (aP (bj 1 [2,0] (gL (ag (mIx (ar 0) (kI 0)) nZ)) (ax 0) (mB (m2 dEq (m2 rn (m2 rm (ae 1) (m2 jn (m2 jn (mIx (ar 2) (kI 0)) (kI 1)) (ae 0))) (kI 1)) (kI 0))) (ae 0))))
  (aZ (bH (aw Bz (ag (ae 0) (ag (ae 3) nZ)))) (dq 1 (ae 3)) bB)))
  (eD 1)))
def BB:=aK 4 BA
def BC:MF3:=
 (ai (aZ (mB (m2 dLt (ae 1) (aw cQ (ag (ae 0) nZ)))) (aW (mIx (ar 0) (ae 1))) bB)
  (aW (kI 0)))
def sr:=aK 2 BC
def vA:MF3:=
 (ai (cZ 2 nZ)
  (ai (bS (gL (ag (ae 1) nZ)) (ax 3) (ai (aZ (mB (m2 dEq (m2 bY (ae 0) (kI 4)) (kI 1))) (dq 2 (bx (ag (kSt "make") (ag (ae 3) (ag (aP (ag (bx (ag (kSt "in") (ag (m2 bY (m2 eC (ae 3) (kI 1)) (ae 1)) nZ))) nZ)) nZ))))) bB)
  (ai (aZ (mB (m2 dEq (m2 bY (ae 0) (kI 4)) (kI 2))) (dq 2 (bx (ag (kSt "make") (ag (ae 3) (ag (aP (ag (bx (ag (kSt "out") (ag (m2 bY (m2 eC (ae 3) (kI 1)) (ae 1)) nZ))) nZ)) nZ))))) bB)
  (aZ (mB (m2 dEq (m2 bY (ae 0) (kI 4)) (kI 3))) (dq 2 (bx (ag (kSt "may") (ag (ae 3) (ag (aP nZ) nZ))))) bB))))
  (eD 2)))
def BD:=jt 4 vA
def b_5:MF3:=
 (ai (a8 2 (mIx (ag (kI 2147483647) (ag (kI 1000000007) (ag (kI 998244353) (ag (kI 1000000009) nZ)))) (m2 bY (ae 1) (kI 4))))
  (ai (a8 3 (m2 bY (m2 lW (m2 eC (m2 bY (ae 0) (m2 rj (kI 10) (kI 18))) (m2 lW (kI 15485863) (m2 eC (ae 1) (kI 1)))) (kI 48271)) (ae 2)))
  (aW (m2 bY (m2 lW (ae 3) (ae 3)) (kI 1000003)))))
def m_5:=aK 4 b_5
def BE:MF3:=
 (ai (cZ 3 nZ)
  (ai (bS (gL (ag (m2 bY (aw m_5 (ag (ae 0) (ag (ae 1) nZ))) (kI 4)) nZ)) (ax 4) (ai (a8 5 (aw m_5 (ag (ae 0) (ag (m2 eC (m2 eC (ae 1) (kI 1)) (ae 4)) nZ))))
  (ai (a8 6 (mIx (ag (kI 1) (ag (kI 1) (ag (m2 bY (m2 jT (ae 5) (kI 8)) (kI 4)) (ag (m2 bY (ae 0) (m2 rj (kI 10) (kI 60))) nZ)))) (m2 bY (m2 jT (ae 5) (kI 32)) (kI 4))))
  (dq 3 (bx (ag (m2 bY (m2 jT (ae 5) (kI 128)) (ae 2)) (ag (ae 6) nZ)))))))
  (eD 3)))
def BF:=aK 7 BE
def BG:MF3:=
 (ai (a8 3 (aw m_5 (ag (ae 0) (ag (ae 1) nZ))))
  (ai (aZ (mB (m2 dLt (m2 bY (ae 3) (kI 8)) (kI 5))) (aW (bx (ag (mIx (ag (kSt "in") (ag (kSt "in") (ag (kSt "out") (ag (kSt "out") (ag (kSt "in") nZ))))) (m2 bY (ae 3) (kI 8))) (ag (m2 bY (m2 jT (ae 3) (kI 8)) (ae 2)) nZ)))) bB)
  (ai (a8 4 (aw BF (ag (ae 0) (ag (m2 eC (ae 1) (kI 1)) (ag (ae 2) nZ)))))
  (ai (a8 5 (aw m_5 (ag (ae 0) (ag (m2 eC (ae 1) (kI 5)) nZ))))
  (ai (aZ (mB (m2 dEq (m2 bY (ae 5) (kI 4)) (kI 0))) (aW (bx (ag (mIx (ag (kSt "least") (ag (kSt "most") nZ)) (m2 bY (ae 3) (kI 2))) (ag (m2 lW (m2 bY (ae 0) (m2 rj (kI 10) (kI 60))) (m2 jn (m2 bY (m2 jT (ae 5) (kI 4)) (kI 3)) (kI 1))) (ag (ae 4) nZ))))) bB)
  (aW (bx (ag (mIx (ag (kSt "least") (ag (kSt "most") nZ)) (m2 bY (ae 3) (kI 2))) (ag (m2 jn (m2 bY (m2 jT (ae 5) (kI 4)) (kI 5)) (kI 1)) (ag (ae 4) nZ))))))))))
def vB:=aK 6 BG
def BH:MF3:=
 (ai (a8 2 (mIx (ag (kSt "make") (ag (kSt "make") (ag (kSt "make") (ag (kSt "make") (ag (kSt "may") (ag (kSt "may") (ag (kSt "may") (ag (kSt "never") nZ)))))))) (m2 bY (aw m_5 (ag (ae 0) (ag (kI 0) nZ))) (kI 8))))
  (ai (a8 3 (m2 bY (aw m_5 (ag (ae 0) (ag (kI 1) nZ))) (kI 4)))
  (ai (aZ (di (mB (m2 dEq (ae 2) (kSt "never"))) (di (mB (m2 dEq (ae 3) (kI 0))) (mB (m2 dGt (m2 bY (aw m_5 (ag (ae 0) (ag (kI 2) nZ))) (kI 8)) (kI 0))))) (a8 3 (kI 2)) bB)
  (ai (a8 4 (aP (bj 1 [0,1] (gL (ag (ae 3) nZ)) (ax 0) kY (aw vB (ag (ae 1) (ag (m2 eC (kI 3) (m2 lW (kI 6) (ae 0))) (ag (ae 2) nZ)))))))
  (ai (aZ (mB (m2 dEq (ae 2) (kSt "never"))) (aW (bx (ag (ae 2) (ag kN (ag (ae 4) nZ))))) bB)
  (aW (bx (ag (ae 2) (ag (m2 bY (aw m_5 (ag (ae 0) (ag (kI 2) nZ))) (ae 1)) (ag (ae 4) nZ))))))))))
def BI:=aK 5 BH
def BJ:MF3:=
 (ai (a8 2 (aw sr (ag (ae 0) (ag (kI 0) nZ))))
  (ai (a8 3 (m2 bY (ae 2) (ae 1)))
  (ai (cZ 4 (kK BD (ag (m2 jT (ae 2) (ae 1)) (ag (ae 3) nZ))))
  (ai (bS (aV (aP (mSl (ae 0) (mPt (kI 1)) (mPt (m2 eC (kI 1) (mIx (ag (kI 60) (ag (kI 60) (ag (kI 40) (ag (kI 24) (ag (kI 10) (ag (kI 5) nZ)))))) (ae 3))))))) (ax 5) (aZ (mB (m2 dEq (ae 3) (kI 0))) (dq 4 (bx (ag (kSt "never") (ag kN (ag (aP (ag (bx (ag (kSt "most") (ag (m2 jn (m2 bY (ae 5) (kI 3)) (kI 2)) (ag (aP nZ) nZ)))) nZ)) nZ))))) (dq 4 (aw BI (ag (ae 5) (ag (ae 3) nZ))))))
  (fG 4 (aW (bx (ag (ae 3) (ag (ae 4) nZ)))))))))
def vC:=aK 6 BJ
def BK:MF3:=
 (λM=>if 2 < Z M then ai (p8 2 3 (bH (ae 1)) (iu (aX "Seeking" "watches" (aI 0)) (mIx (ar 1) (kI 0))) (aV (ae 1)) 1 [3,0] (ax 0) (mB (m2 fU (ae 0) (aP (iu (aX "Seeking" "watches" (aI 2)) (ae 1))))) (ae 0))
  (fG 2 (bS (aV (ae 2)) (ax 4) (aZ (mB (m2 dEq (mIx (ar 4) (kI 0)) (kSt "bar"))) (bS (aV (mIx (pC (aX "Seeking" "bars" (aI 0))) (mIx (ar 4) (kI 1)))) (ax 3) (pZ 0 (k5 (aX "Seeking" "watches" (aI 0)) (ae 3)) (ae 4))) bB))) M else ab)
def BL:MTf:=d9 5 BK
def BM:MF3:=
 (cr (ag (bf "In" "thing" (ae 0)) nZ))
def vE:=aK 1 BM
def BN:MF3:=
 (aW (kBl ac))
def BO:=aK 1 BN
def BP:MF3:=
 (cr (nB (aP (bj 2 [] (aV (ae 0)) (c9 (bv (ax 0) (bv (ax 1) dA))) kY (ae 0)))))
def vF:=aK 1 BP
def BQ:MF3:=
 (aW (aw vF (ag (bf "Least" "pieces" (ae 0)) nZ)))
def vG:=aK 1 BQ
def BR:MF3:=
 (aW (kBl ac))
def BS:=aK 1 BR
def BU:MF3:=
 (aW (aw vF (ag (bf "Most" "pieces" (ae 0)) nZ)))
def vH:=aK 1 BU
def BV:MF3:=
 (aW (kBl af))
def BW:=aK 1 BV
def BX:MF3:=
 (cr (ag (bf "Out" "thing" (ae 0)) nZ))
def vI:=aK 1 BX
def BY:MF3:=
 (aW (kBl af))
def BZ:=aK 1 BY
def B0:MF3:=
 (ai (pX 0 (aX "Seeking" "guards" (aI 0)) (ae 1) (ae 2))
  (ai (bS (aV (ae 2)) (ax 3) (bS (aV (bh (aN "In" "named" vE (ae 3) λ_=>aa []) (bh (aN "Out" "named" vI (ae 3) λ_=>aa []) (bh (aN "Least" "named" vG (ae 3) λ_=>aa []) (aN "Most" "named" vH (ae 3) λ_=>aa []))))) (ax 4) (pY 0 1 (aX "Seeking" "watches" (aI 0)) (bx (ag (ae 4) (ag (bh (aN "In" "wants" BO (ae 3) λ_=>aa []) (bh (aN "Out" "wants" BZ (ae 3) λ_=>aa []) (bh (aN "Least" "wants" BS (ae 3) λ_=>aa []) (aN "Most" "wants" BW (ae 3) λ_=>aa [])))) nZ))))))
  (k6 0 (aX "Seeking" "waiting" (aI 0)) (ae 1))))
def ss:MTf:=d9 5 B0
abbrev B1(as:LD):Option (LSt×LD):=rG 2 [("thing",(ae 1),)] as
abbrev vJ(as:LD):Option (LSt×LD):=rG 2 [("thing",(ae 1),)] as
def B2:MF3:=
 (cr (bj 2 [] (aV (ae 0)) (c9 (bv (ax 0) (bv (ax 1) dA))) kY (vIf (bH (ae 1)) (iK "In" B1 (ag (ae 0) nZ)) (iK "Out" vJ (ag (ae 0) nZ)))))
def B3:=aK 1 B2
def B4:MF3:=
 (ai (dJ (cJ 0 "Seeking" "drop_wider" BL (bN (mX (ae 1)) cB)))
  (ai (a8 2 (bx (ag (kSt "bar") (ag (aw cQ (ag (pB (aX "Seeking" "bars" (aI 0))) nZ)) nZ))))
  (ai (k6 0 (aX "Seeking" "bars" (aI 0)) (ae 1))
  (dJ (cJ 0 "Seeking" "take_guard" ss (bN (mX (ae 2)) (bN (mX (aw B3 (ag (ae 1) nZ))) cB)))))))
def vK:MTf:=d9 3 B4
abbrev B5(as:LD):Option (LSt×LD):=rG 3 [("bound",(ae 1),),("pieces",(aP (ar 2)),)] as
abbrev IR(as:LD):Option (LSt×LD):=rG 3 [("bound",(ae 1),),("pieces",(aP (ar 2)),)] as
def B6:MF3:=
 (ai (a8 1 (mIx (ar 0) (kI 0)))
  (ai (aZ (mB (m2 dEq (ae 1) (kSt "in"))) (aW (iK "In" B1 (ag (mIx (ar 0) (kI 1)) nZ))) bB)
  (ai (aZ (mB (m2 dEq (ae 1) (kSt "out"))) (aW (iK "Out" vJ (ag (mIx (ar 0) (kI 1)) nZ))) bB)
  (ai (aZ (mB (m2 dEq (ae 1) (kSt "least"))) (aW (iK "Least" B5 (ag (mIx (ar 0) (kI 1)) (ag (mIx (ar 0) (kI 2)) nZ)))) bB)
  (aW (iK "Most" IR (ag (mIx (ar 0) (kI 1)) (ag (mIx (ar 0) (kI 2)) nZ))))))))
def B7:=aK 2 B6
def b_2:MF3:=
 (cr (bj 1 [] (aV (mIx (ar 0) (kI 2))) (ax 0) kY (aw B7 (ag (ae 0) nZ))))
def m_2:=aK 1 b_2
def o_2:=jt 1 b_2
def B8:MF3:=
 (ai (aZ (mB (m2 dEq (mIx (ar 0) (kI 0)) (kSt "may"))) (cr (ag (iK "Least" B5 (ag (kI 1) (ag (aP nZ) nZ))) nZ)) bB)
  (ai (cZ 1 (kK o_2 (ag (ae 0) nZ)))
  (ai (aZ (mB (m2 dEq (mIx (ar 0) (kI 0)) (kSt "make"))) (dq 1 (iK "Out" vJ (ag (mIx (ar 0) (kI 1)) nZ))) bB)
  (eD 1))))
def vL:=aK 2 B8
def B9:MF3:=
 (ai (eK 0 "Seeking" "sheet" (aI 0) (iq (ar 3)))
  (ai (eK 0 "Seeking" "steps" (aI 0) (iq nZ))
  (ai (eK 0 "Seeking" "bars" (aI 0) (iq nZ))
  (ai (eK 0 "Seeking" "guards" (aI 0) (λ_=>aa (.dT [] [])))
  (ai (eK 0 "Seeking" "watches" (aI 0) (λ_=>aa (.dT [] [])))
  (ai (eK 0 "Seeking" "waiting" (aI 0) (iq nZ))
  (ai (eK 0 "Seeking" "makers" (aI 0) (jA (aP (bj 1 [] (aV (mIx (ar 1) (kI 1))) (ax 0) (mB (m2 gg (mIx (ar 0) (kI 1)) kN)) (bx (ag (mIx (ar 0) (kI 1)) (ag (aw m_2 (ag (ae 0) nZ)) nZ)))))))
  (ai (bS (jw (ag (mIx (ar 1) (kI 1)) nZ)) (c9 (bv (ax 5) (bv (ax 4) dA))) (dJ (cJ 0 "Seeking" "take_guard" ss (bN (mX (bx (ag (kSt "rule") (ag (ae 5) nZ)))) (bN (mX (aw vL (ag (ae 4) nZ))) cB)))))
  (bS (aV (ae 2)) (ax 6) (dJ (cJ 0 "Seeking" "take_bar" vK (bN (mX (ae 6)) cB))))))))))))
def Ca:MTf:=d9 7 B9
def Cb:MF3:=
 (ai (dJ (l5 0 Ca (bN (mX (ae 1)) (bN (mX (aP nZ)) (bN (mX (aP (bj 1 [] (gL (ag (mIx (ar 1) (kI 0)) nZ)) (ax 0) kY kN))) cB)))))
  (ai (eK 0 "Seeking" "paper" (aI 0) (iq nZ))
  (ai (eK 0 "Seeking" "count" (aI 0) (jA (kI 0)))
  (eK 0 "Seeking" "ended" (aI 0) (jA (kBl af))))))
def Cc:MTf:=d9 2 Cb
def Cd:MF3:=
 (cr (ag (bf "In" "thing" (ae 0)) nZ))
def Ce:=aK 3 Cd
def Cf:MF3:=
 (ai (pK 1)
  (ai (bS (aV (ae 0)) (c9 (bv (ax 2) (bv (ax 3) dA))) (jy 1 (ae 2) (m2 eC (pT 1 (ae 2) (kI 0)) (ae 3))))
  (pU 1 (aW (ae 1)))))
def vM:=aK 4 Cf
def b_7:MF3:=
 (ai (a8 3 (aw vM (ag (ae 0) nZ)))
  (ai (cZ 4 nZ)
  (ai (a8 5 (ae 2))
  (ai (bS (aV (ae 1)) (ax 6) (ai (a8 7 (rW (ae 3) (ae 6) (kI 0)))
  (aZ (di (mB (m2 dGt (ae 5) (kI 0))) (mB (m2 dGt (ae 7) (kI 0)))) (ai (dq 4 (ae 6))
  (sd 5 (ae 7))) bB)))
  (eD 4)))))
def m_7:=aK 8 b_7
def Cg:MF3:=
 (cr (bj 1 [2,1] (aV (ae 0)) (ax 0) (mB (m2 dEq (mIx (ar 2) (ae 0)) (ae 1))) (ae 0)))
def qb:=aK 3 Cg
def Ch:MF3:=
 (aW (aw m_7 (ag (bf "Least" "pieces" (ae 0)) (ag (aw qb (ag (ae 2) (ag (ae 1) (ag (kBl ac) nZ)))) (ag (bf "Least" "bound" (ae 0)) nZ)))))
def Ci:=aK 3 Ch
def Cj:MF3:=
 (aW (aw jp (ag (aP (bj 2 [] (aV (ae 0)) (c9 (bv (ax 0) (bv (ax 1) dA))) kY (ae 1))) nZ)))
def vN:=aK 1 Cj
def Ck:MF3:=
 (aW (aw m_7 (ag (bf "Most" "pieces" (ae 0)) (ag (aw qb (ag (ae 2) (ag (ae 1) (ag (kBl af) nZ)))) (ag (m2 jn (aw vN (ag (bf "Most" "pieces" (ae 0)) nZ)) (bf "Most" "bound" (ae 0))) nZ)))))
def Cm:=aK 3 Ck
def Cn:MF3:=
 (cr (ag (bf "Out" "thing" (ae 0)) nZ))
def Co:=aK 3 Cn
def Cp:MF3:=
 (aW (vIf (bH (mIx (ar 2) (bf "In" "thing" (ae 0)))) (aP nZ) (aP (ag (bf "In" "thing" (ae 0)) nZ))))
def Cq:=aK 4 Cp
def Cr:MF3:=
 (cr (bj 1 [1] (aV (ae 0)) (ax 0) (gJ (bH (mIx (ar 1) (mIx (ar 0) (kI 0))))) (ae 0)))
def vO:=aK 2 Cr
def Cs:MF3:=
 (ai (a8 4 (aw vO (ag (bf "Least" "pieces" (ae 0)) (ag (ae 2) nZ))))
  (aW (aw m_7 (ag (ae 4) (ag (aw qb (ag (ae 3) (ag (ae 1) (ag (kBl af) nZ)))) (ag (m2 eC (m2 jn (aw vN (ag (ae 4) nZ)) (bf "Least" "bound" (ae 0))) (kI 1)) nZ))))))
def Ct:=aK 5 Cs
def Cu:MF3:=
 (aW (aw m_7 (ag (bf "Most" "pieces" (ae 0)) (ag (aw qb (ag (ae 3) (ag (ae 1) (ag (kBl ac) nZ)))) (ag (m2 eC (bf "Most" "bound" (ae 0)) (kI 1)) nZ)))))
def Cv:=aK 4 Cu
def Cw:MF3:=
 (cr (ag (bf "Out" "thing" (ae 0)) nZ))
def Cy:=aK 4 Cw
def Cz:MF3:=
 (aW (vOr (m2 dIs (mIx (ar 1) (bf "In" "thing" (ae 0))) (kBl af)) (mIx (ar 2) (bf "In" "thing" (ae 0)))))
def sx:=aK 3 Cz
def CA:MF3:=
 (aW (aw jp (ag (aP (bj 2 [1] (aV (ae 0)) (c9 (bv (ax 0) (bv (ax 1) dA))) (mB (m2 gg (mIx (ar 2) (ae 0)) (kBl af))) (ae 1))) nZ)))
def qc:=aK 2 CA
def CB:MF3:=
 (aW (m2 dLt (aw qc (ag (aw vO (ag (bf "Least" "pieces" (ae 0)) (ag (ae 2) nZ))) (ag (ae 1) nZ))) (bf "Least" "bound" (ae 0))))
def sy:=aK 3 CB
def CC:MF3:=
 (aW (aw jp (ag (aP (bj 2 [1] (aV (ae 0)) (c9 (bv (ax 0) (bv (ax 1) dA))) (mB (m2 dIs (mIx (ar 2) (ae 0)) (kBl ac))) (ae 1))) nZ)))
def sA:=aK 2 CC
def CD:MF3:=
 (aW (m2 dGt (aw sA (ag (bf "Most" "pieces" (ae 0)) (ag (ae 1) nZ))) (bf "Most" "bound" (ae 0))))
def sC:=aK 3 CD
def CF:MF3:=
 (aW (m2 dIs (mIx (ar 1) (bf "Out" "thing" (ae 0))) (kBl ac)))
def sD:=aK 3 CF
def b_4:MF3:=
 (ai (bS (aV (ae 0)) (ax 3) (aZ (bH (bh (aN "In" "lost" sx (ae 3) (ag (ae 1) (ag (ae 2) nZ))) (bh (aN "Out" "lost" sD (ae 3) (ag (ae 1) (ag (ae 2) nZ))) (bh (aN "Least" "lost" sy (ae 3) (ag (ae 1) (ag (ae 2) nZ))) (aN "Most" "lost" sC (ae 3) (ag (ae 1) (ag (ae 2) nZ))))))) (eD 3) bB))
  (aW kN))
def m_4:=aK 4 b_4
def b_1:MF3:=
 (ai (pK 2)
  (ai (bS (aV (ae 1)) (ax 3) (jy 2 (ae 3) (kBl ac)))
  (fG 2 (cr (bj 1 [2] (gL (ag (ae 0) nZ)) (ax 0) kY (m2 rL (ae 0) (ae 1)))))))
def m_1:=aK 4 b_1
def o_1:=jt 4 b_1
def b_9:MF3:=
 (ai (a8 4 (aw m_1 (ag (aw cQ (ag (ae 1) nZ)) (ag (ae 2) nZ))))
  (ai (cZ 5 (mSl (aP (bj 1 [4,1] (aV (ae 3)) (ax 0) (di (bH (mIx (ar 1) (ae 0))) (mB (m2 dIs (mIx (ar 2) (ae 0)) (kBl ac)))) (ae 0))) (λ_=>aa ab) (mPt (kI 1))))
  (ai (bS (aV (bf "Seeking" "makers" (ae 0))) (c9 (bv (ax 6) (bv (ax 7) dA))) (aZ (bH (mIx (ar 4) (ae 6))) (kG 5 (kE (bh (aN "In" "lost_by" Cq (aw m_4 (ag (ae 7) (ag (ae 1) (ag (ae 4) nZ)))) (ag (ae 1) (ag (ae 4) (ag (ae 3) nZ)))) (bh (aN "Out" "lost_by" Cy (aw m_4 (ag (ae 7) (ag (ae 1) (ag (ae 4) nZ)))) (ag (ae 1) (ag (ae 4) (ag (ae 3) nZ)))) (bh (aN "Least" "lost_by" Ct (aw m_4 (ag (ae 7) (ag (ae 1) (ag (ae 4) nZ)))) (ag (ae 1) (ag (ae 4) (ag (ae 3) nZ)))) (aN "Most" "lost_by" Cv (aw m_4 (ag (ae 7) (ag (ae 1) (ag (ae 4) nZ)))) (ag (ae 1) (ag (ae 4) (ag (ae 3) nZ))))))))) bB))
  (eD 5))))
def m_9:=aK 8 b_9
def o_9:=jt 8 b_9
def b_3:MF3:=
 (ai (aZ (mB (m2 dEq (mIx (ar 2) (kI 0)) (kSt "world"))) (cr (nH (ag (aw cQ (ag (ae 1) nZ)) nZ))) bB)
  (ai (aZ (mB (m2 dEq (mIx (ar 2) (kI 0)) (kSt "group"))) (cr (ix "Seeking" "grounds_of_group" o_9 (ae 0) (ag (ae 1) (ag (mIx (ar 2) (kI 1)) (ag (ae 3) nZ))))) bB)
  (ai (cZ 4 nZ)
  (ai (bS (aV (m2 si (bf "Seeking" "guards" (ae 0)) (ae 2))) (ax 5) (kG 4 (kE (bh (aN "In" "sure_by" Ce (ae 5) (ag (ae 1) (ag (ae 3) nZ))) (bh (aN "Out" "sure_by" Co (ae 5) (ag (ae 1) (ag (ae 3) nZ))) (bh (aN "Least" "sure_by" Ci (ae 5) (ag (ae 1) (ag (ae 3) nZ))) (aN "Most" "sure_by" Cm (ae 5) (ag (ae 1) (ag (ae 3) nZ)))))))))
  (eD 4)))))
def m_3:=aK 6 b_3
def o_3:=jt 6 b_3
def CG:MF3:=
 (cr (kS (aP (bj 1 [1] (aV (ae 0)) (ax 0) (bH (mIx (ar 1) (ae 0))) (ae 0))) (aP (bj 1 [1] (aV (ae 0)) (ax 0) (gJ (bH (mIx (ar 1) (ae 0)))) (ae 0)))))
def vP:=aK 2 CG
def CH:MF3:=
 (aW (vIf (mB (m2 dEq (mIx (ar 0) (kI 0)) (kSt "group"))) (bx (ag (mIx (ar 0) (kI 0)) (ag (aP (aV (mIx (ar 0) (kI 1)))) nZ))) (ae 0)))
def sE:=aK 1 CH
def CI:MF3:=
 (ai (cZ 2 (pC (aX "Seeking" "sheet" (aI 0))))
  (ai (a8 5 (aP (bj 2 [] (pC (aX "Seeking" "steps" (aI 0))) (c9 (bv (ax 0) (bv (ax 1) dA))) kY (mIx (ar 0) (kI 0)))))
  (ai (cZ 6 (kK o_1 (ag (aw cQ (ag (cP 2) nZ)) (ag (aP (ix "Seeking" "grounds" o_3 (cP 0) (ag (cP 2) (ag (ae 1) (ag (ae 5) nZ))))) nZ))))
  (ai (cZ 7 nZ)
  (ai (cZ 8 (ag (bx (ag kN (ag (aw sE (ag (ae 1) nZ)) nZ))) nZ))
  (ai (nO 0 "Seeking" "steps" (bS (lX (ag (pD (aX "Seeking" "steps" (aI 0))) nZ)) (c9 (bv (ax 3) (bv (ax 4) dA))) (ai (a8 9 (mIx (ar 3) (kI 0)))
  (ai (aZ (di (bH (mIx (ar 6) (ae 9))) (mB (m2 dIs (ae 4) kN))) (dq 7 (ae 3)) (aZ (bH (mIx (ar 6) (ae 9))) (ai (dq 8 (bx (ag (ae 3) (ag (aw sE (ag (ae 4) nZ)) nZ))))
  (ai (gj 2 (ae 9) (kA (mIx (ar 3) (kI 1))))
  (bS (aV (aP (ix "Seeking" "grounds" o_3 (cP 0) (ag (cP 2) (ag (ae 4) (ag (aw vP (ag (ae 5) (ag (cP 6) nZ))) nZ)))))) (ax 10) (gj 6 (ae 10) (kBl ac))))) bB))
  (gj 2 (ae 9) kN)))))
  (eE (bx (ag (aP (pS 7)) (ag (aP (pS 8)) nZ))))))))))
def CJ:MTf:=d9 11 CI
def CK:MF3:=
 (ai (a8 2 (aP (bj 2 [] (jw (ag (pD (aX "Seeking" "steps" (aI 0))) nZ)) (c9 (bv (ax 0) (bv (ax 1) dA))) (mB (m2 dIs (mIx (ar 1) (kI 1)) kN)) (ae 0))))
  (ai (a8 3 (aP (bj 1 [0] (aV (ae 2)) (ax 0) kY (mIx (aV (mIx (aV (pD (aX "Seeking" "steps" (aI 1)))) (ae 0))) (kI 0)))))
  (eE (mIx (ar 2) (vIf (mB (m2 dEq (aw cQ (ag (ae 1) nZ)) (kI 1))) (kI 0) (m2 eC (m2 gQ (ae 3) (mIx (ar 1) (m1 rp (kI 2)))) (kI 1)))))))
def CL:MTf:=d9 4 CK
def CM:MF3:=
 (ai (bS (aV (aP (mSl (pD (aX "Seeking" "steps" (aI 0))) (mPt (ae 1)) (λ_=>aa ab)))) (c9 (bv (ax 2) (bv (ax 3) dA))) (nK 0 (aX "Seeking" "sheet" (aI 0)) (mIx (ar 2) (kI 0)) kN))
  (ai (eK 0 "Seeking" "steps" (aI 0) (iq (mSl (pD (aX "Seeking" "steps" (aI 0))) (λ_=>aa ab) (mPt (ae 1)))))
  (eK 0 "Seeking" "waiting" (aI 0) (iq nZ))))
def CN:MTf:=d9 4 CM
def CO:MF3:=
 (ai (fY 2 (cJ 0 "Seeking" "line_to" CJ (bN (mX (ae 1)) cB)))
  (ai (k6 0 (aX "Seeking" "paper" (aI 0)) (ae 2))
  (aZ (bH (mIx (ar 2) (kI 0))) (ai (dJ (cJ 0 "Seeking" "take_back" CN (bN (cJ 0 "Seeking" "place_for" CL (bN (mX (mIx (ar 2) (kI 0))) cB)) cB)))
  (dJ (cJ 0 "Seeking" "take_bar" vK (bN (mX (mIx (ar 2) (kI 0))) cB)))) (eK 0 "Seeking" "ended" (aI 0) (jA (kBl ac))))))
def qd:MTf:=d9 3 CO
def CP:MF3:=
 (ai (nK 0 (aX "Seeking" "sheet" (aI 0)) (ae 1) (ae 2))
  (ai (k6 0 (aX "Seeking" "steps" (aI 0)) (bx (ag (bx (ag (ae 1) (ag (ae 2) nZ))) (ag (ae 3) nZ))))
  (pW 0 (aX "Seeking" "waiting" (aI 0)) (iu (aX "Seeking" "watches" (aI 0)) (bx (ag (ae 1) (ag (ae 2) nZ)))))))
def qe:MTf:=d9 4 CP
def CQ:MF3:=
 (aW (m2 dIs (mIx (ar 1) (bf "In" "thing" (ae 0))) (kBl ac)))
def CS:=aK 2 CQ
def CT:MF3:=
 (aW (vIf (mB (m2 dIs (mIx (ar 1) (bf "In" "thing" (ae 0))) kN)) (aP (ag (bx (ag (bf "In" "thing" (ae 0)) (ag (kBl ac) nZ))) nZ)) (aP nZ)))
def CU:=aK 2 CT
def CV:MF3:=
 (aW (m2 dGe (aw sA (ag (bf "Least" "pieces" (ae 0)) (ag (ae 1) nZ))) (bf "Least" "bound" (ae 0))))
def CW:=aK 2 CV
def CY:MF3:=
 (ai (a8 3 (aw vM (ag (aP (bj 1 [1] (aV (ae 0)) (ax 0) (mB (m2 dIs (mIx (ar 1) (mIx (ar 0) (kI 0))) kN)) (ae 0))) nZ)))
  (cr (bj 1 [2,3] (rS (ae 3)) (ax 0) (mB (m2 dGe (m2 rT (ae 2) (ae 0)) (ae 1))) (ae 0))))
def vQ:=aK 4 CY
def CZ:MF3:=
 (ai (a8 2 (m2 jn (bf "Least" "bound" (ae 0)) (aw sA (ag (bf "Least" "pieces" (ae 0)) (ag (ae 1) nZ)))))
  (cr (bj 1 [] (aV (aw vQ (ag (bf "Least" "pieces" (ae 0)) (ag (ae 1) (ag (ae 2) nZ))))) (ax 0) kY (bx (ag (ae 0) (ag (kBl ac) nZ))))))
def C0:=aK 3 CZ
def C3:MF3:=
 (aW (m2 dLe (aw qc (ag (bf "Most" "pieces" (ae 0)) (ag (ae 1) nZ))) (bf "Most" "bound" (ae 0))))
def C4:=aK 2 C3
def C5:MF3:=
 (ai (a8 2 (m2 jn (aw qc (ag (bf "Most" "pieces" (ae 0)) (ag (ae 1) nZ))) (bf "Most" "bound" (ae 0))))
  (cr (bj 1 [] (aV (aw vQ (ag (bf "Most" "pieces" (ae 0)) (ag (ae 1) (ag (ae 2) nZ))))) (ax 0) kY (bx (ag (ae 0) (ag (kBl af) nZ))))))
def C6:=aK 3 C5
def C7:MF3:=
 (aW (m2 dIs (mIx (ar 1) (bf "Out" "thing" (ae 0))) (kBl af)))
def C8:=aK 2 C7
def C9:MF3:=
 (aW (vIf (mB (m2 dIs (mIx (ar 1) (bf "Out" "thing" (ae 0))) kN)) (aP (ag (bx (ag (bf "Out" "thing" (ae 0)) (ag (kBl af) nZ))) nZ)) (aP nZ)))
def Da:=aK 2 C9
def Dc:MF3:=
 (ai (a8 2 kN)
  (ai (bS (aV (ae 0)) (ax 3) (aZ (gJ (bH (bh (aN "In" "sure" CS (ae 3) (ag (ae 1) nZ)) (bh (aN "Out" "sure" C8 (ae 3) (ag (ae 1) nZ)) (bh (aN "Least" "sure" CW (ae 3) (ag (ae 1) nZ)) (aN "Most" "sure" C4 (ae 3) (ag (ae 1) nZ))))))) (ai (a8 4 (bh (aN "In" "tips" CU (ae 3) (ag (ae 1) nZ)) (bh (aN "Out" "tips" Da (ae 3) (ag (ae 1) nZ)) (bh (aN "Least" "tips" C0 (ae 3) (ag (ae 1) nZ)) (aN "Most" "tips" C6 (ae 3) (ag (ae 1) nZ))))))
  (ai (a8 2 (vIf (mB (m2 dIs (ae 2) kN)) (ae 4) (aP (bj 1 [4] (aV (ae 2)) (ax 0) (mB (m2 fU (ae 0) (ae 1))) (ae 0)))))
  (aZ (gJ (bH (ae 2))) (cr nZ) bB))) bB))
  (ai (aZ (mB (m2 dIs (ae 2) kN)) (aW kN) bB)
  (cr (bj 2 [] (aV (ae 2)) (c9 (bv (ax 0) (bv (ax 1) dA))) kY (bx (ag (ae 0) (ag (kA (ae 1)) nZ))))))))
abbrev Dd(as:LD):Option (LD ⊕ D):=zO 5 Dc as
def De:MF3:=
 (ai (dk (bH (pB (aX "Seeking" "waiting" (aI 0)))) (ai (fY 1 (r9 0 (aX "Seeking" "waiting" (aI 0))))
  (ai (a8 2 (p7 Dd (ag (pB (k5 (aX "Seeking" "guards" (aI 0)) (ae 1))) (ag (pB (aX "Seeking" "sheet" (aI 0))) nZ))))
  (ai (aZ (mB (m2 dIs (ae 2) kN)) (eE (ae 1)) bB)
  (bS (aV (ae 2)) (c9 (bv (ax 3) (bv (ax 4) dA))) (dJ (cJ 0 "Seeking" "put" qe (bN (mX (ae 3)) (bN (mX (ae 4)) (bN (mX (ae 1)) cB))))))))) 1000000000)
  (eE kN))
def Dg:MTf:=d9 5 De
def Dh:MF3:=
 (ai (aZ (bH (bh (aN "In" "lost" sx (ae 1) (ag (bf "Seeking" "sheet" (ae 0)) (ag (aw m_1 (ag (aw cQ (ag (bf "Seeking" "sheet" (ae 0)) nZ)) (ag (aP nZ) nZ))) nZ))) (bh (aN "Out" "lost" sD (ae 1) (ag (bf "Seeking" "sheet" (ae 0)) (ag (aw m_1 (ag (aw cQ (ag (bf "Seeking" "sheet" (ae 0)) nZ)) (ag (aP nZ) nZ))) nZ))) (bh (aN "Least" "lost" sy (ae 1) (ag (bf "Seeking" "sheet" (ae 0)) (ag (aw m_1 (ag (aw cQ (ag (bf "Seeking" "sheet" (ae 0)) nZ)) (ag (aP nZ) nZ))) nZ))) (aN "Most" "lost" sC (ae 1) (ag (bf "Seeking" "sheet" (ae 0)) (ag (aw m_1 (ag (aw cQ (ag (bf "Seeking" "sheet" (ae 0)) nZ)) (ag (aP nZ) nZ))) nZ))))))) (cr nZ) bB)
  (cr (bj 1 [2] (aV (bh (aN "In" "named" vE (ae 1) λ_=>aa []) (bh (aN "Out" "named" vI (ae 1) λ_=>aa []) (bh (aN "Least" "named" vG (ae 1) λ_=>aa []) (aN "Most" "named" vH (ae 1) λ_=>aa []))))) (ax 0) (bH (mIx (ar 1) (ae 0))) (ae 0))))
def Di:=aK 3 Dh
def Dj:MF3:=
 (cr (bj 2 [2,0,1] (aV (bf "Seeking" "makers" (ae 0))) (c9 (bv (ax 0) (bv (ax 1) dA))) (mB (m2 dEq (ae 0) (ae 4))) (aw m_4 (ag (ae 1) (ag (bf "Seeking" "sheet" (ae 3)) (ag (ae 2) nZ))))))
def Dk:=aK 3 Dj
def sF:MF3:=
 (ai (cZ 3 (ag (ae 1) nZ))
  (ai (a8 4 (kI 0))
  (ai (dk (mB (m2 dLt (ae 4) (aw cQ (ag (cP 3) nZ)))) (ai (bS (aV (aN "Seeking" "lost_parts" Dk (ae 0) (ag (mIx (ar 3) (ae 4)) (ag (ae 2) nZ)))) (ax 5) (kG 3 (kE (aP (bj 1 [3] (aV (aN "Seeking" "keeping" Di (ae 0) (ag (ae 5) (ag (ae 2) nZ)))) (ax 0) (mB (m2 jo (ae 0) (cP 1))) (ae 0))))))
  (lY 4 (mX (kI 1)))) 1000000000)
  (fG 3 (cr (kZ (ae 3)))))))
def Xn:=aK 6 sF
def l6:=jt 6 sF
def Dl:MF3:=
 (ai (cZ 1 (bj 1 [] (pC (aX "Seeking" "sheet" (aI 0))) (ax 0) kY (m2 gg (ae 0) (kBl af))))
  (ai (cZ 2 nZ)
  (ai (a8 3 (pD (aX "Seeking" "makers" (aI 0))))
  (ai (a8 4 (kBl ac))
  (ai (dk (bH (ae 4)) (ai (a8 5 (aw cQ (ag (cP 2) nZ)))
  (ai (cZ 6 nZ)
  (ai (bS (aV (ae 3)) (ax 7) (aZ (di (bH (mIx (ar 1) (mIx (ar 7) (kI 0)))) (mB (m2 dIs (aw m_4 (ag (mIx (ar 7) (kI 1)) (ag (pB (aX "Seeking" "sheet" (aI 0))) (ag (cP 1) nZ)))) kN))) (ai (gj 1 (mIx (ar 7) (kI 0)) (kBl af))
  (dq 2 (ae 7))) (dq 6 (ae 7))))
  (ai (fG 6 (a8 3 (ae 6)))
  (a8 4 (jS (m2 dGt (aw cQ (ag (cP 2) nZ)) (ae 5)) (aw lQ (ag (cP 1) nZ)))))))) 1000000000)
  (ai (fG 2 (eK 0 "Seeking" "makers" (aI 0) (jA (aP (kS (ae 2) (ae 3))))))
  (fG 1 (eE (ae 1)))))))))
def Dn:MTf:=d9 8 Dl
def Do:MF3:=
 (ai (fY 1 (cJ 0 "Seeking" "loose_marks" Dn cB))
  (ai (a8 3 (aP (bj 2 [1] (vm (pC (aX "Seeking" "sheet" (aI 0)))) (c9 (bv (ax 0) (bv (ax 1) dA))) (di (bH (mIx (ar 2) (ae 0))) (mB (m2 dIs (ae 1) (kBl ac)))) (ae 0))))
  (ai (aZ (bH (ae 3)) (eE (bx (ag (kSt "group") (ag (aP (ix "Seeking" "kernel" l6 (cP 0) (ag (mIx (ar 3) (kI 0)) (ag (ae 1) nZ)))) nZ)))) bB)
  (ai (bS (jw (ag (ae 1) nZ)) (c9 (bv (ax 2) (bv (ax 4) dA))) (aZ (bH (ae 4)) (dJ (cJ 0 "Seeking" "put" qe (bN (mX (ae 2)) (bN (mX (kBl af)) (bN (mX (bx (ag (kSt "group") (ag (aP (ix "Seeking" "kernel" l6 (cP 0) (ag (ae 2) (ag (ae 1) nZ)))) nZ)))) cB))))) bB))
  (eE kN)))))
def Dr:MTf:=d9 5 Do
def Ds:MF3:=
 (ai (a8 1 (kBl ac))
  (ai (dk (bH (ae 1)) (ai (fY 2 (cJ 0 "Seeking" "look_round" Dg cB))
  (ai (aZ (mB (m2 dIs (ae 2) kN)) (fY 2 (cJ 0 "Seeking" "put_loose_out" Dr cB)) bB)
  (a8 1 (jS (m2 dIs (ae 2) kN) (m2 dGt (aw cQ (ag (pB (aX "Seeking" "waiting" (aI 0))) nZ)) (kI 0)))))) 1000000000)
  (eE (ae 2))))
def sG:MTf:=d9 3 Ds
def Dt:MF3:=
 (cr (bj 2 [] (jw (ag (ae 0) nZ)) (c9 (bv (ax 0) (bv (ax 1) dA))) (bH (ae 1)) (ae 0)))
def sH:=jt 1 Dt
def b_8:MF3:=
 (ai (dk (gJ (bH (pD (aX "Seeking" "ended" (aI 0))))) (ai (fY 1 (cJ 0 "Seeking" "settle" sG cB))
  (aZ (mB (m2 gg (ae 1) kN)) (dJ (cJ 0 "Seeking" "close" qd (bN (mX (ae 1)) cB))) (aZ (mB (m2 fU kN (pB (aX "Seeking" "sheet" (aI 0))))) (dJ (cJ 0 "Seeking" "put" qe (bN (mX (m2 gQ (pB (aX "Seeking" "sheet" (aI 0))) kN)) (bN (mX (kBl ac)) (bN (mX kN) cB))))) (ai (a8 2 (aP (pP sH (ag (pB (aX "Seeking" "sheet" (aI 0))) nZ))))
  (ai (dJ (cJ 0 "Seeking" "close" qd (bN (mX (bx (ag (kSt "world") (ag (pD (aX "Seeking" "count" (aI 0))) nZ)))) cB)))
  (ai (nP 0 "Seeking" "count" (kI 1))
  (eE (ae 2)))))))) 1000000000)
  (eE kN))
def m_8:MTf:=d9 3 b_8
def b_0:MF3:=
 (ai (nI 2 (nN "Seeking" Cc (ag (ae 0) nZ)))
  (ai (cZ 3 nZ)
  (ai (fY 4 (jY 2 "Seeking" "another" m_8 cB))
  (ai (dk (di (mB (m2 gg (ae 4) kN)) (mB (m2 dLt (aw cQ (ag (cP 3) nZ)) (ae 1)))) (ai (dq 3 (ae 4))
  (fY 4 (jY 2 "Seeking" "another" m_8 cB))) 1000000000)
  (ai (aZ (mB (m2 dIs (ae 4) kN)) (fG 3 (nO 2 "Seeking" "paper" (aW (bx (ag (ae 3) (ag (kBl ac) (ag (pD (aX "Seeking" "paper" (aI 2))) nZ))))))) bB)
  (fG 3 (aW (bx (ag (ae 3) (ag (kBl af) (ag (aP nZ) nZ)))))))))))
def m_0:=aK 5 b_0
def b_6:MF3:=
 (ai (a8 1 (aw vC (ag (ae 0) (ag (kI 6) nZ))))
  (ai (a8 2 (m2 bY (aw sr (ag (ae 0) (ag (kI 2) nZ))) (kI 41)))
  (ai (aZ (mB (m2 dEq (m2 bY (m2 jT (aw sr (ag (ae 0) (ag (kI 2) nZ))) (kI 41)) (kI 2)) (kI 1))) (a8 2 (m2 bY (ae 2) (kI 4))) bB)
  (ai (a8 3 (aw m_0 (ag (aw Br (ag (ae 1) nZ)) (ag (ae 2) nZ))))
  (ai (a8 4 (aw BB (ag (ae 1) nZ)))
  (ai (aZ (mOr (gJ (bH (pi "tuple" (ae 3)))) (mOr (mB (m2 dNe (aw cQ (ag (ae 3) nZ)) (kI 3))) (mB (m2 dNe (mIx (ar 3) (kI 0)) (aP (mSl (ae 4) (λ_=>aa ab) (mPt (ae 2)))))))) (aW (kBl af)) bB)
  (ai (aZ (mB (m2 dGt (aw cQ (ag (ae 4) nZ)) (ae 2))) (aW (jS (m2 dIs (mIx (ar 3) (kI 1)) (kBl af)) (m2 dEq (mIx (ar 3) (kI 2)) (aP nZ)))) bB)
  (aW (jS (m2 dIs (mIx (ar 3) (kI 1)) (kBl ac)) (pi "list" (mIx (ar 3) (kI 2))))))))))))
def m_6:=aK 5 b_6
def cmN(s:Scope):LSt:=s.names.tail.filterMap λz=>match z.2 with |.local=>aa z.1 |.free=>aa z.1 | _=>ab
variable{fi:MF2}{g:L2.D->LS->Option LS}{ft:MF4}{fe:MF1}
def Te{c:Str->Addr}{X:Cx}{d tg iter:Expr}{e:LEx}{scope:Scope}{pos:Pos}(k:Nat)(js:LN)(h:X.calm=ac)(hi:DIe c X tg iter fi)(j:∀cl X5 ex b a,DG c (X.comp scope (cmN scope) cl X5 ex b a) tg k g)(n:∀cl X5 ex b a,DTs c (X.comp scope (cmN scope) cl X5 ex b a) e ft)(i:∀cl X5 ex b a,DE c (X.comp scope (cmN scope) cl X5 ex b a) d fe)(f:autoParam (lK scope X.env.scope.names X.N (cmN scope) k js=ac) Zb)(m:autoParam (∀x,lx iter X.env x=pure x) Zd)(l:autoParam (js.Nodup) Zc):DO c X (.ListComp d [(tg,iter,e,0)] scope pos) (bj k js fi g ft fe):=kC k js _ h hi j n i f m l
seal DSs DS DX DE DO lQ dEq gQ dIn fU rL dIs gg rT si rp jo ax c9 bv dA cQ m1 m2 di dq sd lY mB l5 aw p7 kK pP nr kS bj ag bN dJ jw vm kG fG nO pU bf bS pT rW aZ pi mIx rS pS nH aP iK aN ix cJ jY bB cB gJ kE mOr bh mPt jy gj aW cr eE eD lX gL ai aV a8 pK cZ fY mSl nB kZ bH bx ae cP ar dk p8 mX pY k6 nP pB pC pD pW aX iu k5 r9 nK pX pZ eK aI jp jS vIf kA vOr jA iq nN nI
set_option hygiene false
local macro_rules
|`(@1)=>do
 let a<-L2.fs "Tf W|Tg W|Th W|IS W|Ti W|Tj W|Tk W|Tl W|Tn W|To W|Tp W|Tq W|Ts W|Tt W|Tu W|Tv W|Tw W|Tx W|Tz W|TB W|TC W|TD W|TF W|TH W|TJ W|TK W|TL W|TM W|TN W|TQ W|TR W|TU W|TV W|TW W|TX W|TY W|TZ W|T0 W|T1 W|T3 W|T4 W|T5 W|IT W|T6 W|T7 W|T8 W|T9 W|Ua W|Ub W|Uc W|Ud W|Ue W|IU W|Uf W|Ug W|Uh W|Ui W|Uj W|Uk W|Ul W|Um W|Uo W|Up W|Uq W|Ur W|Us W|Ut W|IV W|Uu W|Uv W|Uw W|Ux W|Uy W|Uz W|UA W|UB W|UC W|UD W|UE W|UF W"
 `(by first $[|$a]*)
|`(@0)=>do
 let a:=#[<-L2.gr "DE _ _ _ _" ((<-L2.fs "dv _|FS|ph ? ?|o8 ? ? ?|dvc _|Pa _ ? ? ?|N9|FT|FU ?|N8|DE.orE ? ?|uC ? ? ? ?|m9 ? ? rfl W.qs PySem.boot_len ?|F0 ? ? ?|yC ?|FX ? ?|O6 1 hr ?|Pb _ ? 1 hr ?|Pc _ ? 1 hr|HX ( eJ _ ? ? ( d8 ( pv _ ) ) )|HX ( eJ _ ? ? ( d8 ( pvc _ ) ) )|pG 'In W.p5 ( IX W ) .ok % ( glc rfl ) W.ro W.e_72.b ?|pG 'Out W.pz ( IY W ) .ok % ( glc rfl ) W.rc W.e_73.b ?|pG 'In W.p5 ( IX W ) .ok % rfl W.ro W.e_72.b ?|pG 'Out W.pz ( IY W ) .ok % rfl W.rc W.e_73.b ?|pG 'Least W.oo ( UG W ) .ok % rfl W.qa W.e_74.b ?|pG 'Most W.pj ( UH W ) .ok % rfl W.ri W.e_75.b ?")++#[<-`(Lean.Parser.Tactic.tacticSeq|refine Gm (T := "tuple") W.o6 rfl W.mu boot_tuple rfl W.pu ?_)]++#[<-`(Lean.Parser.Tactic.tacticSeq|refine Gm (T := "list") W.pw rfl W.mu mx rfl W.nS ?_)]++(<-L2.fs "DO.de ?")),
 <-L2.gr "DA _ _ _ _" ((<-L2.fs "uB ? ?|Oa")),
 <-L2.gr "DSs _ _ _ _" ((<-L2.fs "bq ?|aC ? ?|OZ")),
 <-L2.gr "PE _ _ _" ((<-L2.fs "pv _|pvc _")),
 <-L2.gr "DC _ _ _ _" ((<-L2.fs "dvC _|yQ _|DE.dc ?|DO.dc ?")),
 <-L2.gr "DT _ _ _ _" ((<-L2.fs "jR ? ? ? ?|rg ?|Of ?|DW.dt ?")),
 <-L2.gr "DO _ _ _ _" ((<-L2.fs "Oc ?|Gi ? ? ?|O7 1 hr ?|Il _ ? 1 hr ?|Rc _ rfl rfl W.nS rfl W.nL|Rg rfl rfl W.nS rfl W.og ?|uM mx rfl W.nS ?")),
 <-L2.gr "DS _ _ _ _" ((<-L2.fs "kH ?|rE _ ! ?|fH ? ? ?|jq ?|yS _ ! ?")++#[<-`(Lean.Parser.Tactic.tacticSeq|refine eY (kk := 99) df rfl ?_ ?_ ?_)]++(<-L2.fs "zw ?|O3 _|Gw ?|vi _ ! ?|lM _ ?|GQ ? ? ?|ni _ df ? ?|O5 ( lH ( jP jO xy xz yh ? ( eW ( DE.pe ? ) d7 ) ) )|Gy ( lH ( jP jO xA xB yj ? ( eW ( DE.pe ? ) d7 ) ) )")++#[<-`(Lean.Parser.Tactic.tacticSeq|refine Ib _ ?_ ?_ (x8 (show DP _ _ _ _ _ from ?_) (show DZ _ _ _ _ _ from ?_) rfl))]++#[<-`(Lean.Parser.Tactic.tacticSeq|refine RG (lH (jP jO xy xz yh (show DP _ _ _ _ _ from ?_) (eW (DE.pe ?_) d7))))]),
 <-L2.gr "DG _ _ _ _ _" ((<-L2.fs "dgc _ _|OO _ _ !|OR rfl ?")),
 <-L2.gr "DP _ _ _ _ _" ((<-L2.fs "d8 ?|eJ _ ? ? ?")),
 <-L2.gr "DAB _ _ _ _" ((<-L2.fs "rf ? ?|Ob")),
 <-L2.gr "DI _ _ _ _ _" ((<-L2.fs "pq ?|PN rfl W.nq ?|Gr rfl W.og ?|Q0 rfl W.nL ?")),
 <-L2.gr "DGs _ _ _ _ _" ((<-L2.fs "OQ ? ?|OP")),
 <-L2.gr "DAX _ _ _ _" ((<-L2.fs "HN ? ?|Ry")),
 <-L2.gr "DTs _ _ _ _" ((<-L2.fs "OX|px ?")),
 <-L2.gr "DB _ _ _ _" ((<-L2.fs "dvB _|zH ( eJ _ ? ? ( d8 ( pv _ ) ) )|DE.db ?")),
 <-L2.gr "PA _ _ _" ((<-L2.fs "d7")),
 <-L2.gr "DZ _ _ _ _ _" ((<-L2.fs "Rh ?|HF ?|RY")),
 <-L2.gr "DW _ _ _ _" ((<-L2.fs "rh ? ?|uE ?")),
 <-L2.gr "DPt _ _ _ _" ((<-L2.fs "Gh ?|Gg")),
 <-L2.gr "DX _ _ _ _" ((<-L2.fs "Ig _ ? 1 hr ?|RU _ ? 1 hr|DE.dx ?")),
 <-L2.gr "DL _ _ _ _" ((<-L2.fs "zJ ( eJ _ ? ? ( d8 ( pv _ ) ) )")),
 <-L2.gr "Cls _ _" ((<-L2.fs "W.ad|W.n7|W.kT|W.md|W.ny")),
 <-L2.gr "cN _ _ _" ((<-L2.fs "W.hO|W.ld|W.nk|W.lb|W.lk|W.mm|W.kv|W.kr|W.ir|W.ll|W.ky|W.lp|W.kQ|W.lw|W.lj|W.l0")),
 <-L2.gr "DIe _ _ _ _ _" ((<-L2.fs "DI.de ?")),
 <-`(Lean.Parser.Tactic.tacticSeq|refine Te _ _ rfl ?_ ?_ ?_ ?_),
 <-do let a:=(<-L2.fs "Ol|OB")++#[<-`(Lean.Parser.Tactic.tacticSeq|((refine OE ?_); with_unfolding_all assumption))]++(<-L2.fs "F8|F9|OJ|OK|Oh|Oi|Oj|Os|Ow|Op|QM|Oz|Ou|OA")++#[<-`(Lean.Parser.Tactic.tacticSeq|((refine OF ?_); with_unfolding_all assumption))]++(<-L2.fs "Ot|Om|OC|Ox|PY")++#[<-`(Lean.Parser.Tactic.tacticSeq|((refine PZ ?_); with_unfolding_all assumption))]++(<-L2.fs "Oq|Ov");`(Lean.Parser.Tactic.tacticSeq|with_reducible first $[|$a]*),
 <-`(Lean.Parser.Tactic.tacticSeq|intro _ _ _ _ _)]
 `(by repeat' first $[|$a]*)
set_option hygiene true
variable{a:Wa}
def Tf(W:Wd K mg a):qD P w K mg base a 1 "_law_part_again" a.e_52 ["_law_part_here"] Bp:=by
 show W.e_52.pk (aY (F:=Bo) W.e_52.F SA λ_ _ _ _ _ _ hr=>?_);have b:=hr.units;unfold Bo;show @0
def UD(W:Wd K mg a):qD P w K mg base a 2 "_law_again" a.e_42 ["_law_plain_here"] Br:=by
 show W.e_42.pk (aY (F:=Bq) W.e_42.F ID λ_ _ _ _ _ _ hr=>?_);unfold Bq;have nd:=ID.nd;show @0
def Tg(W:Wd K mg a):qD P w K mg base a 1 "_law_sum" a.e_16 ["_law_items_here","_law_some"] vv:=by
 show W.e_16.pk (aY (F:=Bs) W.e_16.F Bg λ_ _ _ _ _ _ hr=>?_);unfold Bs;have nd:=Bg.nd;show(aC @0 (aC (eY (kk:=99) df rfl @0 @0 (bq (fH (jR yG yF @0 @0) (bq (HP 2 Bg.nd @0)) @0))) @0))
def Th(W:Wd K mg a):qD P w K mg base a 2 "_law_part_holds" a.e_53 ["_law_part_here","_law_rising","_law_world"] Bu:=by
 show W.e_53.pk (aY (F:=Bt) W.e_53.F SB λ_ _ _ _ _ _ hr=>?_);have b:=hr.units;unfold Bt;show(aC (fH @0 (bq (kH (uC yG yF @0 @0))) @0) (aC (fH @0 (bq (kH (uC uL uK @0 @0))) @0) @0))
def IS(W:Wd K mg a):qD P w K mg base a 3 "_law_body_holds" a.e_17 ["_law_rule_here","_law_rising","_law_world"] sn:=by
 show W.e_17.pk (aY (F:=Bv) W.e_17.F SC λ_ _ _ _ _ _ hr=>?_);unfold Bv;show(bq (kH (m9 (PF rfl) PH rfl W.qq boot_all @0)))
def Ti(W:Wd K mg a):qD P w K mg base a 4 "_law_broken" a.e_43 ["_law_rule_here","_law_world"] vw:=by
 show W.e_43.pk (aY (F:=Bw) W.e_43.F SD λ_ _ _ _ _ _ hr=>?_);have b:=hr.units;unfold Bw;show(aC (fH (DW.dt (yB @0 (FW @0))) @0 @0) (bq (kH (FY @0 (yC (uC uL uK @0 @0))))))
def Tj(W:Wd K mg a):qD P w K mg base a 4 "_law_built" a.e_29 ["_law_plain_here","_law_world"] vz:=by
 show W.e_29.pk (aY (F:=Bx) W.e_29.F IE λ_ _ _ _ _ _ hr=>?_);have b:=hr.units;unfold Bx;have nd:=IE.nd;show(aC @0 (aC @0 (aC (ni 1000000000 df @0 (aC @0 (bq (eY (kk:=99) df rfl @0 @0 (bq (fH (DW.dt (rh @0 (rh (jR yG yF @0 @0) (uE (jR uL uK @0 @0))))) (bq (fH (rg (DE.db (O8 (IS W) hr @0))) @0 @0)) @0)))))) (bq (lM 2 (jq (Ht rfl rfl W.n0 @0)))))))
def Tk(W:Wd K mg a):qD P w K mg base a 5 "_law_stands" a.e_54 ["_law_plain_here","_law_world"] Bz:=by
 show W.e_54.pk (aY (F:=By) W.e_54.F SE λ_ _ _ _ _ _ hr=>?_);have b:=hr.units;unfold By;show(aC (fH (rg (DE.db (m9 (GK rfl) GL rfl W.p6 boot_any @0))) @0 @0) @0)
def UF(W:Wd K mg a):qD P w K mg base a 6 "_law_all" a.e_30 ["_law_plain_here"] BB:=by
 show W.e_30.pk (aY (F:=BA) W.e_30.F Bh λ_ _ _ _ _ _ hr=>?_);have b:=hr.units;unfold BA;have nd:=Bh.nd;show(aC @0 (aC (eY (kk:=99) df rfl (Gr rfl W.og (uB (o8 Q1 @0 @0) @0)) @0 (aC (py 3 1 [2,0] ["_law_thing","_law_number","_law_plain_here"] Bh.nd rfl @0 @0 (λ_ _ _ _ _=>(px (jR @0 @0 (DE.db (o8 Oo (o8 On @0 @0) @0)) @0))) @0) @0)) @0))
def Tp(W:Wd K mg a):qD P w K mg base a 1 "_law_cell_at" a.e_24 ["_law_script","_law_k"] sr:=by
 show W.e_24.pk (aY (F:=BC) W.e_24.F Sz λ_ _ _ _ _ _ hr=>?_);unfold BC;show @0
def Tq(W:Wd K mg a):qO P w K mg base a 1 "_law_base" a.e_27 ["_law_cell","_law_many"] BD:=by
 show W.e_27.pk (nj (F:=vA) W.e_27.F IB λ_ _ _ _ _ _ hr=>?_);have b:=hr.units;unfold vA;have nd:=IB.nd;show @0
def Tl(W:Wd K mg a):qD P w K mg base a 1 "_law_mixed" a.e_5 ["_law_cell","_law_k"] m_5:=by
 show W.e_5.pk (aY (F:=b_5) W.e_5.F Iy λ_ _ _ _ _ _ hr=>?_);unfold b_5;have nd:=Iy.nd;show @0
def Tn(W:Wd K mg a):qD P w K mg base a 2 "_law_items" a.e_41 ["_law_cell","_law_k","_law_many"] BF:=by
 show W.e_41.pk (aY (F:=BE) W.e_41.F Iz λ_ _ _ _ _ _ hr=>?_);unfold BE;have nd:=Iz.nd;show @0
def To(W:Wd K mg a):qD P w K mg base a 3 "_law_part" a.e_25 ["_law_cell","_law_k","_law_many"] vB:=by
 show W.e_25.pk (aY (F:=BG) W.e_25.F IA λ_ _ _ _ _ _ hr=>?_);have b:=hr.units;unfold BG;have nd:=IA.nd;show @0
def Ts(W:Wd K mg a):qD P w K mg base a 4 "_law_rule" a.e_26 ["_law_cell","_law_many"] BI:=by
 show W.e_26.pk (aY (F:=BH) W.e_26.F Bf λ_ _ _ _ _ _ hr=>?_);have b:=hr.units;unfold BH;have nd:=Bf.nd;show(aC @0 (aC @0 (aC @0 (aC (py 4 1 [0,1] ["_law_j","_law_cell","_law_many"] Bf.nd rfl @0 @0 @0 @0) @0))))
def UC(W:Wd K mg a):qD P w K mg base a 5 "_law_plain" a.e_28 ["_law_script","_law_top"] vC:=by
 show W.e_28.pk (aY (F:=BJ) W.e_28.F IC λ_ _ _ _ _ _ hr=>?_);have b:=hr.units;unfold BJ;have nd:=IC.nd;show @0
def TF(W:Wd K mg a):gR P w K mg base a 1 "Seeking" "drop_wider" a.h7 ["self","bar"] BL:=by
 show W.h7.pk W.ad (gq (F:=BK) W.h7.F sm λ_ _ _ _ _ _ hr=>?_);have b:=hr.units;unfold BK;have nd:=sm.nd
 show(R5 (w:=2) (pr:=3) (by decide) (R6 (by decide)) R7 (by decide) (oS sm.nd rfl (by first |show b9 rfl |show bG rfl) (ES (rg @0) (zK (hu1 b) (eJ "Seeking" W.ad W.hO (d8 (pv 0))) @0 (rfl,rfl,rfl,rfl)) (uk (d7)))) (EX df rfl (pq @0) (xM sm.nd rfl (by first |show b9 rfl |show bG rfl)) (EU (yw (g:=tDG _ (ax 0)) (tt:=tDT _ (mB (m2 fU (ae 0) (aP (iu (aX "Seeking" "watches" (aI 2)) (ae 1)))))) (te:=tD _ (ae 0)) 1 [3,0] ["why","pair","self"] sm.nd rfl (by first |show b9 rfl |show bG rfl) rfl (xR @0) (λ_ _ _ _ _=>(DG.pg (dgc 0 1))) (λ_ _ _ _ _=>(px (jR @0 @0 @0 (DL.db (zK (hu1 b) (eJ "Seeking" W.ad W.hO (d8 (pvc 2))) @0 (rfl,rfl,rfl,rfl)))))) (λ_ _ _ _ _=>(DE.pe @0))))) (bq (lM 2 (eY (kk:=99) df rfl @0 @0 (bq (fH @0 (bq (eY (kk:=99) df rfl (pq (ph (DL.dc (zJ (eJ "Seeking" W.ad W.ld (d8 (pv 0))))) @0)) @0 (bq (R1 (lH (jP jO PySem.F.slot_list_remove PySem.F.type_list_remove (R0 b) (HW (hu1 b) (eJ "Seeking" W.ad W.hO (d8 (pv 0))) @0) (eW (DE.pe @0) (d7)))))))) @0))))))
def Tu(W:Wd K mg a):qPD P w K mg base a 1 "In" "named" a.e_44 ["self"] vE:=by
 show W.e_44.pk W.n7 (aY (F:=BM) W.e_44.F SG λ_ _ _ _ _ _ hr=>?_);unfold BM;show @0
def Tz(W:Wd K mg a):qPD P w K mg base a 1 "In" "wants" a.e_55 ["self"] BO:=by
 show W.e_55.pk W.n7 (aY (F:=BN) W.e_55.F SH λ_ _ _ _ _ _ hr=>?_);unfold BN;show @0
def Tt(W:Wd K mg a):qD P w K mg base a 1 "things_of" a.e_37 ["items"] vF:=by
 show W.e_37.pk (aY (F:=BP) W.e_37.F Sn λ_ _ _ _ _ _ hr=>?_);unfold BP;show(bq (jq (Qx rfl rfl W.n0 rfl W.q4 @0)))
def Tw(W:Wd K mg a):qPD P w K mg base a 2 "Least" "named" a.e_46 ["self"] vG:=by
 show W.e_46.pk W.kT (aY (F:=BQ) W.e_46.F SY λ_ _ _ _ _ _ hr=>?_);unfold BQ;show @0
def TC(W:Wd K mg a):qPD P w K mg base a 1 "Least" "wants" a.e_65 ["self"] BS:=by
 show W.e_65.pk W.kT (aY (F:=BR) W.e_65.F SZ λ_ _ _ _ _ _ hr=>?_);unfold BR;show @0
def Tx(W:Wd K mg a):qPD P w K mg base a 2 "Most" "named" a.e_49 ["self"] vH:=by
 show W.e_49.pk W.md (aY (F:=BU) W.e_49.F S4 λ_ _ _ _ _ _ hr=>?_);unfold BU;show @0
def TD(W:Wd K mg a):qPD P w K mg base a 1 "Most" "wants" a.e_68 ["self"] BW:=by
 show W.e_68.pk W.md (aY (F:=BV) W.e_68.F S5 λ_ _ _ _ _ _ hr=>?_);unfold BV;show @0
def Tv(W:Wd K mg a):qPD P w K mg base a 1 "Out" "named" a.e_45 ["self"] vI:=by
 show W.e_45.pk W.ny (aY (F:=BX) W.e_45.F SO λ_ _ _ _ _ _ hr=>?_);unfold BX;show @0
def TB(W:Wd K mg a):qPD P w K mg base a 1 "Out" "wants" a.e_60 ["self"] BZ:=by
 show W.e_60.pk W.ny (aY (F:=BY) W.e_60.F SQ λ_ _ _ _ _ _ hr=>?_);unfold BY;show @0
def TJ(W:Wd K mg a):gR P w K mg base a 3 "Seeking" "take_guard" a.h6 ["self","why","guard"] ss:=by
 show W.h6.pk W.ad (gq (F:=B0) W.h6.F IL λ_ _ _ _ _ _ hr=>?_);have b:=hr.units;unfold B0;have nd:=IL.nd;show(aC (RL (FC (hu1 b) (eJ "Seeking" W.ad W.kv (d8 (pv 0))) (DE.pe @0) (DE.pe @0) rfl)) (aC (eY (kk:=99) df rfl @0 @0 (bq (eY (kk:=99) df rfl @0 @0 (bq (RQ (lH (jP jO xy xz yh (RP (hu1 b) (eJ "Seeking" W.ad W.hO (d8 (pv 0))) (DE.pe @0) (uk (d7)) (rfl,rfl,rfl,rfl)) (eW (pv 1) (d7))))))))) @0))
def IX(W:Wd K mg a):Pm P w K mg base CX0 1 (a.cl "In") "__init__" a.e_72 ["self","thing"] (spI (K,a.cl) "In" ["self","thing"].length B1):=
 W.e_72.pk W.n7 (uT W.e_72.F SF λ_ _ _ _ _ _ hr=>(pE W.n7 W.nk (pv 0) (dv 1) uS))
def IY(W:Wd K mg a):Pm P w K mg base CX0 1 (a.cl "Out") "__init__" a.e_73 ["self","thing"] (spI (K,a.cl) "Out" ["self","thing"].length vJ):=
 W.e_73.pk W.ny (uT W.e_73.F SN λ_ _ _ _ _ _ hr=>(pE W.ny W.mm (pv 0) (dv 1) uS))
def TH(W:Wd K mg a):qD P w K mg base a 3 "guard_of_bar" a.e_51 ["bar"] B3:=by
 show W.e_51.pk (aY (F:=B2) W.e_51.F Sw λ_ _ _ _ _ _ hr=>?_);unfold B2;show @0
def TQ(W:Wd K mg a):gR P w K mg base a 4 "Seeking" "take_bar" a.il ["self","bar"] vK:=by
 show W.il.pk W.ad (gq (F:=B4) W.il.F IM λ_ _ _ _ _ _ hr=>?_);unfold B4;have nd:=IM.nd;show @0
def UG(W:Wd K mg a):Pm P w K mg base CX0 1 (a.cl "Least") "__init__" a.e_74 ["self","bound","items"] (spI (K,a.cl) "Least" ["self","bound","items"].length B5):=
 W.e_74.pk W.kT (uT W.e_74.F SX λ_ _ _ _ _ _ hr=>(pE W.kT W.lj (pv 0) (dv 1) (pE W.kT W.lb (pv 0) (DO.de (uM mx rfl W.nS (dvC 2))) uS)))
def UH(W:Wd K mg a):Pm P w K mg base CX0 1 (a.cl "Most") "__init__" a.e_75 ["self","bound","items"] (spI (K,a.cl) "Most" ["self","bound","items"].length IR):=
 W.e_75.pk W.md (uT W.e_75.F S3 λ_ _ _ _ _ _ hr=>(pE W.md W.l0 (pv 0) (dv 1) (pE W.md W.lk (pv 0) (DO.de (uM mx rfl W.nS (dvC 2))) uS)))
def TK(W:Wd K mg a):qD P w K mg base a 3 "part_of" a.e_36 ["told"] B7:=by
 show W.e_36.pk (aY (F:=B6) W.e_36.F Iq λ_ _ _ _ _ _ hr=>?_);have b:=hr.units;unfold B6;have nd:=Iq.nd;show @0
def TM(W:Wd K mg a):qD P w K mg base a 4 "body_of" a.e_2 ["rule"] m_2:=by
 show W.e_2.pk (aY (F:=b_2) W.e_2.F Iu λ_ _ _ _ _ _ hr=>?_);unfold b_2;show @0
def TL(W:Wd K mg a):qO P w K mg base a 4 "body_of" a.e_2 ["rule"] o_2:=by
 show W.e_2.pk (nj (F:=b_2) W.e_2.F Iu λ_ _ _ _ _ _ hr=>?_);unfold b_2;show @0
def TN(W:Wd K mg a):qD P w K mg base a 5 "guard_of" a.e_22 ["rule"] vL:=by
 show W.e_22.pk (aY (F:=B8) W.e_22.F Iv λ_ _ _ _ _ _ hr=>?_);have b:=hr.units;unfold B8;have nd:=Iv.nd;show @0
def UI(W:Wd K mg a):cx P w K mg base CX0 6 a.e_10.1 a.e_10.2 ["self","plain","bars","sheet"] (iw (K,a.cl) ["self","plain","bars","sheet"].length Ca):=
 gq (k:=5) (N:=["self","plain","bars","sheet","rule","number","bar"]) (F:=B9) W.e_10.F IQ λcdv A outer s H X4 hr=>by
  unfold B9;have nd:=IQ.nd;show @0
def UJ(W:Wd K mg a):gR P w K mg base a 8 "Seeking" "__init__" a.e_11 ["self","plain"] Cc:=by
 show W.e_11.pk W.ad (gq (F:=Cb) W.e_11.F Ta λ_ _ _ _ _ _ hr=>?_);unfold Cb;show(aC (zw (Sd @0 rfl W.pb W.oD (UI W) (hr.mono (by decide)) W.e_10.b @0)) @0)
def Ub(W:Wd K mg a):qPD P w K mg base a 1 "In" "sure_by" a.e_57 ["self","sheet","order"] Ce:=by
 show W.e_57.pk W.n7 (aY (F:=Cd) W.e_57.F SJ λ_ _ _ _ _ _ hr=>?_);unfold Cd;show @0
def TR(W:Wd K mg a):qD P w K mg base a 1 "weights_of" a.e_14 ["items"] vM:=by
 show W.e_14.pk (aY (F:=Cf) W.e_14.F Be λ_ _ _ _ _ _ hr=>?_);have b:=hr.units;unfold Cf;have nd:=Be.nd;show(aC (y7 1 Be.nd) (aC (eY (kk:=99) df rfl @0 @0 (bq (y8 b @0 @0 (o8 @0 (Ru b @0 @0 @0 (rfl,rfl,rfl,rfl)) @0)))) (bq (Rw 1 @0))))
def TV(W:Wd K mg a):qD P w K mg base a 2 "enough" a.e_7 ["items","things","lack"] m_7:=by
 show W.e_7.pk (aY (F:=b_7) W.e_7.F vn λ_ _ _ _ _ _ hr=>?_);have b:=hr.units;unfold b_7;have nd:=vn.nd;show(aC @0 (aC @0 (aC @0 (aC (eY (kk:=99) df rfl @0 @0 (aC (rE 7 vn.nd (RC b @0 @0 @0 (rfl,rfl,rfl,rfl))) (bq (fH @0 (aC @0 (bq (Sg 5 vn.nd @0))) @0)))) @0))))
def TU(W:Wd K mg a):qD P w K mg base a 1 "with_entry" a.e_15 ["things","sheet","truth"] qb:=by
 show W.e_15.pk (aY (F:=Cg) W.e_15.F Sv λ_ _ _ _ _ _ hr=>?_);have b:=hr.units;unfold Cg;show(bq (jq (kC 1 [2,1] ["thing","truth","sheet"] rfl @0 @0 @0 @0)))
def Ud(W:Wd K mg a):qPD P w K mg base a 3 "Least" "sure_by" a.e_67 ["self","sheet","order"] Ci:=by
 show W.e_67.pk W.kT (aY (F:=Ch) W.e_67.F S1 λ_ _ _ _ _ _ hr=>?_);unfold Ch;show @0
def TW(W:Wd K mg a):qD P w K mg base a 1 "worth_of" a.e_38 ["items"] vN:=by
 show W.e_38.pk (aY (F:=Cj) W.e_38.F Ss λ_ _ _ _ _ _ hr=>?_);unfold Cj;show(bq (kH (m9 (yI rfl) yJ rfl W.p4 boot_sum @0)))
def Ue(W:Wd K mg a):qPD P w K mg base a 3 "Most" "sure_by" a.e_70 ["self","sheet","order"] Cm:=by
 show W.e_70.pk W.md (aY (F:=Ck) W.e_70.F S7 λ_ _ _ _ _ _ hr=>?_);unfold Ck;show @0
def Uc(W:Wd K mg a):qPD P w K mg base a 1 "Out" "sure_by" a.e_62 ["self","sheet","order"] Co:=by
 show W.e_62.pk W.ny (aY (F:=Cn) W.e_62.F SS λ_ _ _ _ _ _ hr=>?_);unfold Cn;show @0
def T6(W:Wd K mg a):qPD P w K mg base a 1 "In" "lost_by" a.e_59 ["self","sheet","without","order"] Cq:=by
 show W.e_59.pk W.n7 (aY (F:=Cp) W.e_59.F SM λ_ _ _ _ _ _ hr=>?_);unfold Cp;show @0
def TX(W:Wd K mg a):qD P w K mg base a 1 "outside" a.e_39 ["items","without"] vO:=by
 show W.e_39.pk (aY (F:=Cr) W.e_39.F Su λ_ _ _ _ _ _ hr=>?_);unfold Cr;show @0
def T8(W:Wd K mg a):qPD P w K mg base a 3 "Least" "lost_by" a.e_48 ["self","sheet","without","order"] Ct:=by
 show W.e_48.pk W.kT (aY (F:=Cs) W.e_48.F IH λ_ _ _ _ _ _ hr=>?_);unfold Cs;have nd:=IH.nd;show @0
def T9(W:Wd K mg a):qPD P w K mg base a 3 "Most" "lost_by" a.e_71 ["self","sheet","without","order"] Cv:=by
 show W.e_71.pk W.md (aY (F:=Cu) W.e_71.F S9 λ_ _ _ _ _ _ hr=>?_);unfold Cu;show @0
def T7(W:Wd K mg a):qPD P w K mg base a 1 "Out" "lost_by" a.e_64 ["self","sheet","without","order"] Cy:=by
 show W.e_64.pk W.ny (aY (F:=Cw) W.e_64.F SW λ_ _ _ _ _ _ hr=>?_);unfold Cw;show @0
def T0(W:Wd K mg a):qPD P w K mg base a 1 "In" "lost" a.e_31 ["self","sheet","without"] sx:=by
 show W.e_31.pk W.n7 (aY (F:=Cz) W.e_31.F SL λ_ _ _ _ _ _ hr=>?_);unfold Cz;show(bq (kH (FY @0 @0)))
def TY(W:Wd K mg a):qD P w K mg base a 1 "worth_not_out" a.e_13 ["items","sheet"] qc:=by
 show W.e_13.pk (aY (F:=CA) W.e_13.F Sr λ_ _ _ _ _ _ hr=>?_);unfold CA;show(bq (kH (m9 (yI rfl) yJ rfl W.p4 boot_sum @0)))
def T3(W:Wd K mg a):qPD P w K mg base a 2 "Least" "lost" a.e_33 ["self","sheet","without"] sy:=by
 show W.e_33.pk W.kT (aY (F:=CB) W.e_33.F S2 λ_ _ _ _ _ _ hr=>?_);unfold CB;show @0
def TZ(W:Wd K mg a):qD P w K mg base a 1 "worth_in" a.e_20 ["items","entries"] sA:=by
 show W.e_20.pk (aY (F:=CC) W.e_20.F So λ_ _ _ _ _ _ hr=>?_);unfold CC;show(bq (kH (m9 (yI rfl) yJ rfl W.p4 boot_sum @0)))
def T4(W:Wd K mg a):qPD P w K mg base a 2 "Most" "lost" a.e_34 ["self","sheet","without"] sC:=by
 show W.e_34.pk W.md (aY (F:=CD) W.e_34.F S8 λ_ _ _ _ _ _ hr=>?_);unfold CD;show @0
def T1(W:Wd K mg a):qPD P w K mg base a 1 "Out" "lost" a.e_32 ["self","sheet","without"] sD:=by
 show W.e_32.pk W.ny (aY (F:=CF) W.e_32.F SV λ_ _ _ _ _ _ hr=>?_);unfold CF;show @0
def IT(W:Wd K mg a):qD P w K mg base a 3 "lost_part" a.e_4 ["body","sheet","without"] m_4:=by
 show W.e_4.pk (aY (F:=b_4) W.e_4.F Ix λ_ _ _ _ _ _ hr=>?_);unfold b_4;have nd:=Ix.nd;show @0
def T5(W:Wd K mg a):qD P w K mg base a 1 "marks" a.e_1 ["many","some"] m_1:=by
 show W.e_1.pk (aY (F:=b_1) W.e_1.F p9 λ_ _ _ _ _ _ hr=>?_);have b:=hr.units;unfold b_1;have nd:=p9.nd;show(aC (y7 2 p9.nd) (aC (eY (kk:=99) df rfl @0 @0 (bq (y8 b @0 @0 @0))) (bq (lM 2 (jq (kC 1 [2] ["thing","listed"] rfl @0 @0 @0 (λ_ _ _ _ _=>(GP b @0 @0))))))))
def Uf(W:Wd K mg a):qO P w K mg base a 1 "marks" a.e_1 ["many","some"] o_1:=by
 show W.e_1.pk (nj (F:=b_1) W.e_1.F p9 λ_ _ _ _ _ _ hr=>?_);have b:=hr.units;unfold b_1;have nd:=p9.nd;show(aC (y7 2 p9.nd) (aC (eY (kk:=99) df rfl @0 @0 (bq (y8 b @0 @0 @0))) (bq (lM 2 (jq (kC 1 [2] ["thing","listed"] rfl @0 @0 @0 (λ_ _ _ _ _=>(GP b @0 @0))))))))
def Ua(W:Wd K mg a):qPO P w K mg base a 4 "Seeking" "grounds_of_group" a.e_9 ["self","sheet","group","order"] o_9:=by
 show W.e_9.pk W.ad (nj (F:=b_9) W.e_9.F Bk λ_ _ _ _ _ _ hr=>?_);unfold b_9;have nd:=Bk.nd
 show(aC @0 (aC (yS 5 Bk.nd (by show Gi ?a ?b ?c;(case a=>show(DO.de (kC 1 [4,1] ["thing","without","sheet"] rfl (DI.de (pq (dv 3))) (λ_ _ _ _ _=>(dgc 0 1)) (λ_ _ _ _ _=>(px (DW.dt (rh (rg (DE.db (ph (yQ 1) (dvc 0)))) (uE (jR F8 F9 (DE.db (ph (yQ 2) (dvc 0))) (DE.db FT))))))) (λ_ _ _ _ _=>(dvc 0)))));(case b=>show Gg);(case c=>show(Gh FS)))) @0))
def IU(W:Wd K mg a):qPO P w K mg base a 5 "Seeking" "grounds" a.e_3 ["self","sheet","why","order"] o_3:=by
 show W.e_3.pk W.ad (nj (F:=b_3) W.e_3.F IK λ_ _ _ _ _ _ hr=>?_);have b:=hr.units;unfold b_3;have nd:=IK.nd;show(aC @0 (aC @0 (aC @0 (aC (eY (kk:=99) df rfl (pq (Si (hu1 b) @0 @0)) @0 @0) @0))))
def UK(W:Wd K mg a):qD P w K mg base a 1 "needed_first" a.e_40 ["order","needed"] vP:=by
 show W.e_40.pk (aY (F:=CG) W.e_40.F Sy λ_ _ _ _ _ _ hr=>?_);unfold CG;show(bq (jq (Hb @0 @0)))
def Ug(W:Wd K mg a):qD P w K mg base a 1 "own_why" a.e_23 ["why"] sE:=by
 show W.e_23.pk (aY (F:=CH) W.e_23.F Sx λ_ _ _ _ _ _ hr=>?_);have b:=hr.units;unfold CH;show @0
def Uh(W:Wd K mg a):gR P w K mg base a 6 "Seeking" "line_to" a.e_18 ["self","why"] CJ:=by
 show W.e_18.pk W.ad (gq (F:=CI) W.e_18.F vp λ_ _ _ _ _ _ hr=>?_);unfold CI;have nd:=vp.nd;show(aC (yS 2 vp.nd (uM mx rfl W.nS (DL.dc (zJ (eJ "Seeking" W.ad W.ir (d8 (pv 0))))))) (aC (py 5 2 [] ["pair","cause"] vp.nd rfl (Ii @0) @0 @0 @0) (aC @0 (aC @0 (aC @0 (aC (Io 0 "Seeking" "steps" (eY (kk:=99) df rfl @0 @0 (aC @0 (aC (fH @0 @0 (bq (fH @0 (aC @0 (aC (GQ @0 @0 (FZ @0)) (bq (eY (kk:=99) df rfl (pq (DO.de (Il "Seeking" @0 (IU W) hr (rf @0 (rf @0 (rf (Hr (UK W) hr @0) @0)))))) @0 @0)))) @0))) @0)))) @0))))))
def Ui(W:Wd K mg a):gR P w K mg base a 1 "Seeking" "place_for" a.e_35 ["self","bar"] CL:=by
 show W.e_35.pk W.ad (gq (F:=CK) W.e_35.F Bj λ_ _ _ _ _ _ hr=>?_);have b:=hr.units;unfold CK;show(aC (py 2 2 [] ["place","step"] Bj.nd rfl @0 @0 @0 @0) (aC (py 3 1 [0] ["place","self"] Bj.nd rfl @0 @0 @0 @0) (bq (Gw (ph @0 (F0 @0 @0 (o8 @0 (RA (jP jO PySem.F.slot_list_index PySem.F.type_list_index (HQ b) (DE.pe @0) (eW (DE.pe (ph @0 (Oy @0))) (d7)))) @0)))))))
def Uj(W:Wd K mg a):gR P w K mg base a 1 "Seeking" "take_back" a.ii ["self","many"] CN:=by
 show W.ii.pk W.ad (gq (F:=CM) W.ii.F IN λ_ _ _ _ _ _ hr=>?_);unfold CM;have nd:=IN.nd;show(aC (eY (kk:=99) df rfl @0 @0 (bq (HY (xP (DE.pe @0) (xO (eJ "Seeking" W.ad W.ir (d8 (pv 0))) (DE.pe @0) yf (by intro _;rfl)) rfl rfl rfl)))) @0)
def UB(W:Wd K mg a):gR P w K mg base a 7 "Seeking" "close" a.e_12 ["self","why"] qd:=by
 show W.e_12.pk W.ad (gq (F:=CO) W.e_12.F IJ λ_ _ _ _ _ _ hr=>?_);unfold CO;have nd:=IJ.nd;show @0
def IV(W:Wd K mg a):gR P w K mg base a 1 "Seeking" "put" a.kF ["self","thing","truth","why"] qe:=by
 show W.kF.pk W.ad (gq (F:=CP) W.kF.F Tb λ_ _ _ _ _ _ hr=>?_);have b:=hr.units;unfold CP;show(aC (HY (xP (DE.pe @0) (xO (eJ "Seeking" W.ad W.ir (d8 (pv 0))) (DE.pe @0) yf (by intro _;rfl)) rfl rfl rfl)) (aC @0 (bq (RH (lH (jP jO xA xB yj (eJ "Seeking" W.ad W.kr (d8 (pv 0))) (eW (zK (hu1 b) (eJ "Seeking" W.ad W.hO (d8 (pv 0))) @0 (rfl,rfl,rfl,rfl)) (d7))))))))
def Ul(W:Wd K mg a):qPD P w K mg base a 1 "In" "sure" a.e_56 ["self","sheet"] CS:=by
 show W.e_56.pk W.n7 (aY (F:=CQ) W.e_56.F SI λ_ _ _ _ _ _ hr=>?_);unfold CQ;show @0
def Uq(W:Wd K mg a):qPD P w K mg base a 1 "In" "tips" a.e_58 ["self","sheet"] CU:=by
 show W.e_58.pk W.n7 (aY (F:=CT) W.e_58.F SK λ_ _ _ _ _ _ hr=>?_);unfold CT;show @0
def Uo(W:Wd K mg a):qPD P w K mg base a 2 "Least" "sure" a.e_66 ["self","sheet"] CW:=by
 show W.e_66.pk W.kT (aY (F:=CV) W.e_66.F S0 λ_ _ _ _ _ _ hr=>?_);unfold CV;show @0
def Uk(W:Wd K mg a):qD P w K mg base a 2 "heavy" a.e_21 ["items","sheet","lack"] vQ:=by
 show W.e_21.pk (aY (F:=CY) W.e_21.F Ir λ_ _ _ _ _ _ hr=>?_);have b:=hr.units;unfold CY;have nd:=Ir.nd;show(aC @0 (bq (jq (kC 1 [2,3] ["thing","lack","weights"] rfl (DI.de (Rr @0)) @0 (λ_ _ _ _ _=>(px (jR @0 @0 (DE.db (Rs b @0 @0)) @0))) @0))))
def Us(W:Wd K mg a):qPD P w K mg base a 3 "Least" "tips" a.e_47 ["self","sheet"] C0:=by
 show W.e_47.pk W.kT (aY (F:=CZ) W.e_47.F IG λ_ _ _ _ _ _ hr=>?_);unfold CZ;have nd:=IG.nd;show @0
def Up(W:Wd K mg a):qPD P w K mg base a 2 "Most" "sure" a.e_69 ["self","sheet"] C4:=by
 show W.e_69.pk W.md (aY (F:=C3) W.e_69.F S6 λ_ _ _ _ _ _ hr=>?_);unfold C3;show @0
def Ut(W:Wd K mg a):qPD P w K mg base a 3 "Most" "tips" a.e_50 ["self","sheet"] C6:=by
 show W.e_50.pk W.md (aY (F:=C5) W.e_50.F II λ_ _ _ _ _ _ hr=>?_);unfold C5;have nd:=II.nd;show @0
def Um(W:Wd K mg a):qPD P w K mg base a 1 "Out" "sure" a.e_61 ["self","sheet"] C8:=by
 show W.e_61.pk W.ny (aY (F:=C7) W.e_61.F SR λ_ _ _ _ _ _ hr=>?_);unfold C7;show @0
def Ur(W:Wd K mg a):qPD P w K mg base a 1 "Out" "tips" a.e_63 ["self","sheet"] Da:=by
 show W.e_63.pk W.ny (aY (F:=C9) W.e_63.F SU λ_ _ _ _ _ _ hr=>?_);unfold C9;show @0
def UL(W:Wd K mg a):Pk P w K mg base CX0 4 "pressed_by" a.e_76 ["guard","sheet"] (spN (K,a.cl) ["guard","sheet"].length Dd):=by
 show W.e_76.pk (R3 (F:=Dc) W.e_76.F Iw λ_ _ _ _ _ _ hr=>?_);have b:=hr.units;unfold Dc;have nd:=Iw.nd;show(aC @0 (aC @0 (aC @0 (bq (jq (kC 2 [] ["thing","truth"] rfl @0 @0 @0 (λ_ _ _ _ _=>(FU (uB @0 (uB (FZ @0) @0))))))))))
def Uy(W:Wd K mg a):gR P w K mg base a 5 "Seeking" "look_round" a.h8 ["self"] Dg:=by
 show W.h8.pk W.ad (gq (F:=De) W.h8.F vq λ_ _ _ _ _ _ hr=>?_);have b:=hr.units;unfold De;have nd:=vq.nd;show(aC (ni 1000000000 df @0 (aC (vi 1 vq.nd (RI (jP jO PySem.F.slot_list_pop PySem.F.type_list_pop NB (eJ "Seeking" W.ad W.kr (d8 (pv 0))) (eW EQ (d7))))) (aC (rE 2 vq.nd (R4 (UL W) hr (rf (zH (HW (hu1 b) (eJ "Seeking" W.ad W.kv (d8 (pv 0))) @0)) @0))) @0))) @0)
def Uv(W:Wd K mg a):qPD P w K mg base a 3 "Seeking" "keeping" a.iW ["self","part","without"] Di:=by
 show W.iW.pk W.ad (aY (F:=Dh) W.iW.F Td λ_ _ _ _ _ _ hr=>?_);unfold Dh;show @0
def Uu(W:Wd K mg a):qPD P w K mg base a 4 "Seeking" "lost_parts" a.h9 ["self","thing","without"] Dk:=by
 show W.h9.pk W.ad (aY (F:=Dj) W.h9.F Tc λ_ _ _ _ _ _ hr=>?_);have b:=hr.units;unfold Dj;show(bq (jq (kC 2 [2,0,1] ["head","body","without","self","thing"] rfl @0 @0 @0 @0)))
def Ux(W:Wd K mg a):qPO P w K mg base a 5 "Seeking" "kernel" a.j3 ["self","thing","without"] l6:=by
 show W.j3.pk W.ad (nj (F:=sF) W.j3.F Bm λ_ _ _ _ _ _ hr=>?_);unfold sF;have nd:=Bm.nd;show(aC @0 (aC @0 (aC (ni 1000000000 df @0 (aC (eY (kk:=99) df rfl @0 @0 (bq (Gy (lH (jP jO xA xB yj (pv 3) (eW (DE.pe (DO.de (kC 1 [3] ["other","found"] rfl @0 @0 (λ_ _ _ _ _=>(px (jR uL uK @0 (OY 1)))) @0))) (d7))))))) (bq (HP 4 Bm.nd @0)))) (bq (lM 3 (jq (Ht rfl rfl W.n0 @0)))))))
def Uw(W:Wd K mg a):gR P w K mg base a 4 "Seeking" "loose_marks" a.hY ["self"] Dn:=by
 show W.hY.pk W.ad (gq (F:=Dl) W.hY.F vt λ_ _ _ _ _ _ hr=>?_);unfold Dl;have nd:=vt.nd;show(aC (O1 1 1 [] ["entry"] vt.nd rfl (Ii @0) (λ_ _ _ _ _=>@0) (λ_ _ _ _ _=>@0) (λ_ _ _ _ _=>@0)) (aC @0 (aC @0 (aC @0 (aC (ni 1000000000 df @0 (aC @0 (aC @0 (aC (eY (kk:=99) df rfl @0 @0 (bq (fH (DW.dt (rh @0 (uE (jR @0 @0 (Hr (IT W) hr @0) @0)))) @0 @0))) (aC @0 (bq (rE 4 vt.nd (FX @0 (yC (m9 (GK rfl) GL rfl W.p6 boot_any @0)))))))))) (aC (lM 2 (Ib "Seeking" W.ad W.ky (x8 (d8 (pv 0)) (HF (DO.de (Hb @0 @0))) rfl))) @0))))))
def Uz(W:Wd K mg a):gR P w K mg base a 6 "Seeking" "put_loose_out" a.gF ["self"] Dr:=by
 show W.gF.pk W.ad (gq (F:=Do) W.gF.F Bl λ_ _ _ _ _ _ hr=>?_);unfold Do;have nd:=Bl.nd;show(aC @0 (aC (py 3 2 [1] ["thing","entry","without"] Bl.nd rfl (RX rfl W.nq @0) @0 @0 @0) @0))
def UA(W:Wd K mg a):gR P w K mg base a 7 "Seeking" "settle" a.j0 ["self"] sG:=by
 show W.j0.pk W.ad (gq (F:=Ds) W.j0.F IP λ_ _ _ _ _ _ hr=>?_);unfold Ds;have nd:=IP.nd;show @0
def UM(W:Wd K mg a):qO P w K mg base a 1 "numbers" a.e_19 ["truths"] sH:=by
 show W.e_19.pk (nj (F:=Dt) W.e_19.F Sm λ_ _ _ _ _ _ hr=>?_);unfold Dt;show @0
def IZ(W:Wd K mg a):gR P w K mg base a 8 "Seeking" "another" a.e_8 ["self"] m_8:=by
 show W.e_8.pk W.ad (gq (F:=b_8) W.e_8.F Bi λ_ _ _ _ _ _ hr=>?_);have b:=hr.units;unfold b_8;have nd:=Bi.nd;show(aC (ni 1000000000 df @0 (aC @0 (bq (fH @0 @0 (bq (fH @0 (bq (zw (Ig "Seeking" @0 (IV W) hr (HN (DE.dx (Sh (jP jO PySem.F.slot_list_index PySem.F.type_list_index (HQ b) (zH (eJ "Seeking" W.ad W.ir (d8 (pv 0)))) (eW (DE.pe @0) (d7))))) @0)))) (aC (rE 2 Bi.nd (DO.de (QG (UM W) hr @0))) (aC @0 (aC (Sf "Seeking" W.ad W.kQ @0 @0) @0))))))))) @0)
def UE(W:Wd K mg a):qD P w K mg base a 10 "worlds" a.e_0 ["plain","most"] m_0:=by
 show W.e_0.pk (Sk (F:=b_0) W.e_0.F sj λ_ _ _ _ _ _ hr=>?_);unfold b_0;have nd:=sj.nd;show(aC (Ri 2 sj.nd (RW "Seeking" W.n5 (UJ W).ok (hr.mono (by decide)) rfl W.p0 W.e_11.b @0)) (aC @0 (aC (vi 4 sj.nd (Ih "Seeking" @0 (IZ W) hr)) (aC (ni 1000000000 df @0 (aC @0 (bq (vi 4 sj.nd (Ih "Seeking" @0 (IZ W) hr))))) (aC (fH @0 (bq (lM 3 (Io 2 "Seeking" "paper" @0))) @0) @0)))))
def UN(W:Wd K mg a):qD P w K mg base a 11 "law" a.e_6 ["_law_script"] m_6:=by
 show W.e_6.pk (aY (F:=b_6) W.e_6.F IF λ_ _ _ _ _ _ hr=>?_);have b:=hr.units;unfold b_6;have nd:=IF.nd;show(aC @0 (aC @0 (aC @0 (aC @0 (aC @0 (aC (fH (DW.dt (yB @0 (yB @0 (FW @0)))) @0 @0) @0))))))
unseal DSs DS DX DE DO lQ dEq gQ dIn fU rL dIs gg rT si rp jo ax c9 bv dA cQ m1 m2 di dq sd lY mB l5 aw p7 kK pP nr kS bj ag bN dJ jw vm kG fG nO pU bf bS pT rW aZ pi mIx rS pS nH aP iK aN ix cJ jY bB cB gJ kE mOr bh mPt jy gj aW cr eE eD lX gL ai aV a8 pK cZ fY mSl nB kZ bH bx ae cP ar dk p8 mX pY k6 nP pB pC pD pW aX iu k5 r9 nK pX pZ eK aI jp jS vIf kA vOr jA iq nN nI
local macro_rules | `(tactic| walk_at "evS")=>`(tactic| first | decide | lia | assumption | exact ⟨by decide,by decide⟩ | exact ⟨by lia,by lia⟩ | exact .inl ⟨by decide,by decide⟩ | exact .inr ⟨by decide,by decide⟩ | exact .inl ⟨by lia,by lia⟩ | exact .inr ⟨by lia,by lia⟩ | exact ⟨by decide,by decide,by decide⟩)
local macro_rules | `(tactic| walk_at "nrm")=>`(tactic| simp only [Hc,qG,tN])
def p60:(0:Int)<10 ^ S (60:Int):=by decide
def I0:ku 10 60:=(by decide,by decide,by decide)
variable{M:LS}
def UO{d c:Type}{k:Nat}{js:LN}(E:List d)(f:d->D)(q:c->D)(P:c->Prop)
 (hi:fi M=aa (E.map f))(hz:Z E<=16777216)(i:∀x∈E,∃z,P z/\gM g ft fe (iI k js M) (f x)=aa (aa (q z))):∃a:List c,bj k js fi g ft fe M=aa (a.map q)/\Z a=Z E/\∀z∈a,P z:=by
 have key:∀b:List d,(∀x∈b,∃z,P z/\gM g ft fe (iI k js M) (f x)=aa (aa (q z)))->∃a:List c,eX (gM g ft fe (iI k js M)) (b.map f)=aa (a.map q)/\Z a=Z b/\∀z∈a,P z:=by
  intro b
  induction b with
  |nil=>intro _;show⟨[],rfl,rfl,λz hz=>nomatch hz⟩
  |cons y b m=>
   intro h;have(z,u,n):=h y az;have(a,e,l,p):=m λx j=>h x (bi _ j);show(z::a,?_,by rw[cv,cv,l],λw r=>?_)
   .rw[bE];unfold eX
    grind
   .grind
 have(a,e,l,p):=key E i;show(a,?_,l,p);unfold bj
 grind
abbrev nmP:Prt->LI0
 |.inn t=>[t]
 |.out t=>[t]
 |.least _ L=>L.map (·.1)
 |.most _ L=>L.map (·.1)
variable{f:MF1}
def Ja{g:MF1}{a b:LD}(h:f M=aa (.lst a))(h':g M=aa (.lst b))(c:Z a+Z b<=16777216):kS f g M=aa (a++b):=by
 unfold kS
 grind
def inS(E:LI0)(i:Nat):Bool:=E.any λx=>x==(i:Int)
def UP(ks:List Key)(k j:Key):gi (ik ks k) j=(gi ks j || decide (k=j)):=by
 unfold ik
 by_cases e:gi ks k=ac
 .grind
 .rw[if_neg e];unfold gi;simp
def UQ(ks:List Key)(k:Key):Z (ik ks k)<=Z ks+1:=by
 unfold ik
 grind
variable{i:Nat}{fk fv:MF1}{d:L2.D}{E:LD}
def UR{x:D}{k:Key}{ks:List Key}(a:fv M=aa d)(h2:fk M=aa x)(b:jx x=aa k)(c:M[i]?=aa (.ownd ks E))(e:Z ks<16777216):
  jy i fk fv M=aa (.nx (M.set i (.ownd (ik ks k) (iN ks E k d)))):=by
 unfold jy
 grind
def Jb(n:Int)(E:LI0)(d:0<=n)(m:n<=60)(i:Z E<=1000000):b_1 (eZ 4 [.int n,.lst (E.map D.int)])=aa (.rtO (((bu (S n)).map (inS E)).map D.bl)):=by
 have(ρ',e,ks,ds,b,rfl,c,a):=Pg (g:=ax 3) (F:=jy 2 (ae 3) (λ_=>aa _)) (fi:=aV (ae 1)) E D.int
  (λpre M=>∃(ks:List Key) (ds:LD) (b:Sl),M=[.im (.int n),.im (.lst (E.map D.int)),.ownd ks ds,b]/\Z ks<=Z pre/\∀k:Int,gi ks (.inl k)=pre.any λx=>x==k)
  rfl ([],[],.no,rfl,aM _,λ_=>rfl) (by
   rintro pre x post M ex ⟨ks,ds,b,rfl,c,a⟩;have l:Z pre<Z E:=by rw[ex];simp
   show(_,_,rfl,.inl (UR rfl rfl rfl rfl (by lia)),ik ks _,_,_,rfl,?_,λk=>?_)
   .have:=UQ ks (.inl x);rw[aS];change _<=Z pre+1
    lia
   .rw[UP,a,any_append]
    congr 1
    simp only[gA,any_nil,tI]
    by_cases h:x=k
    .subst h;simp
    .rw[decide_eq_false (λq=>h (ub q))];show(beq_eq_false_iff_ne.mpr h).symm)
 show jU rfl (jU e ?_);rw[map_map];show congrArg _ (gh _ _ _ (nz rfl d (by lia)) (by rw[cC];lia) λj f=>?_);show fT rfl rfl (ao rfl rfl ?_);change aa _=_;rw[a];rfl
def Jc(n:Int)(E:LI0)(b:0<=n)(c:n<=60)(a:Z E<=1000000):m_1 [.int n,.lst (E.map D.int)]=aa (.lst (((bu (S n)).map (inS E)).map D.bl)):=lN (Jb n E b c a)
def sI(ws:LB0):LI0:=((bu (Z ws)).filter λi=>ws.getD i af).map λ(i:Nat)=>(i:Int)
def vR(ws:LB0)(i:Int):i∈sI ws↔0<=i/\ws.getD i.toNat af=ac:=by
 unfold sI;rw[aH];constructor
 .rintro⟨j,a,rfl⟩;have(_,b):=b7.mp a;show(by lia,by show b)
 .rintro⟨d,h⟩;show(S i,b7.mpr (d5.mpr ?_,h),by lia)
  by_cases c:S i<Z ws
  .show c
  .rw[bD,gy (by lia)]at h
   nomatch h
def Jd(p:Prt):B7 [p.toD]=aa p.obj:=by
 cases p <;> rfl
variable{es:LOB}{L:LII}
def Du(h:InN es.length L)(hz:Z L<=100000):sA [.lst (L.map itD),.lst (es.map shD)]=aa (.int (cF (·==aa ac) es L)):=by
 show cS (cR (aF (ap (bT (eG L itD _ _ rfl (by lia) λz a=>(dL rfl (bp (ao (be rfl rfl (ju (h z a).1 (h z a).2.1)) rfl (pI _ _))) λ_=>rfl))) rfl) (yW (λt=>es.getD t.toNat ab==aa ac) L)))
def Dv(h:InN es.length L)(hz:Z L<=100000):qc [.lst (L.map itD),.lst (es.map shD)]=aa (.int (cF (λe=>!(e==aa af)) es L)):=by
 show cS (cR (aF (ap (bT (eG L itD _ _ rfl (by lia) λz a=>(dL rfl (bp (ao (be rfl rfl (ju (h z a).1 (h z a).2.1)) rfl (GG _ _))) λ_=>rfl))) rfl) (yW (λt=>!(es.getD t.toNat ab==aa af)) L)))
variable{ws:LB0}
def Je(h:InN es.length L)(c:Z ws=Z es)(hz:Z L<=100000):
  vO [.lst (L.map itD),.lst (ws.map D.bl)]=aa (.lst ((L.filter λz=>!(ws.getD z.1.toNat af)).map itD)):=by
 show lN (congrArg _ (eG L itD _ itD rfl (by lia) λz a=>?_));have b:=h z a;show dL rfl (nu (cH (be rfl rfl (jW b.1 (by rw[c];show b.2.1))) rfl)) λ_=>rfl
def US(h:InN es.length L)(hz:Z L<=100000):
  qc [.lst ((L.filter λz=>!(ws.getD z.1.toNat af)).map itD),.lst (es.map shD)]=aa (.int (bP (λt=>!(es.getD t.toNat ab==aa af) && !(ws.getD t.toNat af)) L)):=by
 have c:=gz (λz:Int×Int=>!(ws.getD z.1.toNat af)) L;have a:InN es.length (L.filter λz=>!(ws.getD z.1.toNat af)):=λz b=>h z (b7.mp b).1;show(Dv a (by lia)).trans (congrArg (λz=>aa _) (FL (λt=>!(es.getD t.toNat ab==aa af)) (λt=>!(ws.getD t.toNat af)) L))
def UT(p:Prt)(h:p.Ok (Z es))(a:Z ws=Z es):∀m,m=(match p with |.inn _=>sx |.out _=>sD |.least _ _=>sy |.most _ _=>sC) ->
  m [p.obj,.lst (es.map shD),.lst (ws.map D.bl)]=aa (.bl (p.lost es ws)):=by
 intro m e;subst e
 cases p with
 |inn t=>show cS (cR (yV (ao (be rfl rfl (ju h.1 h.2)) rfl (pI _ _)) (be rfl rfl (jW h.1 (by rw[a];show h.2)))))
 |out t=>show cS (cR (ao (be rfl rfl (ju h.1 h.2)) rfl (pI _ _)))
 |least k L=>show cS (cR (ao (aF (ap (aF rfl (Je h.1 a h.2)) (ap rfl rfl)) (US h.1 h.2)) rfl rfl))
 |most k L=>show cS (cR (ao (aF rfl (Du h.1 h.2)) rfl rfl))
variable{fo:MF1}{fa:MF2}
def Jf(p:Prt)(h:p.Ok (Z es))(b:Z ws=Z es)(a:fo M=aa p.obj)(ha:fa M=aa [.lst (es.map shD),.lst (ws.map D.bl)]):
  bh (aN "In" "lost" sx fo fa) (bh (aN "Out" "lost" sD fo fa) (bh (aN "Least" "lost" sy fo fa) (aN "Most" "lost" sC fo fa))) M=aa (.bl (p.lost es ws)):=by
 have hm:=UT p h b _ rfl
 cases p with
 |inn t=>show dQ ((cy a rfl ha).trans hm)
 |out t=>show bI (bJ a (by decide)) (dQ ((cy a rfl ha).trans hm))
 |least k L=>show bI (bJ a (by decide)) (bI (bJ a (by decide)) (dQ ((cy a rfl ha).trans hm)))
 |most k L=>show bI (bJ a (by decide)) (bI (bJ a (by decide)) (bI (bJ a (by decide)) ((cy a rfl ha).trans hm)))
def UU(p:Prt)(h:p.Ok (Z es))(a:fo M=aa p.obj)(ha:fa M=aa [.lst (es.map shD)]):
  bh (aN "In" "sure" CS fo fa) (bh (aN "Out" "sure" C8 fo fa) (bh (aN "Least" "sure" CW fo fa) (aN "Most" "sure" C4 fo fa))) M=aa (.bl (p.sure es)):=by
 cases p with
 |inn t=>show dQ ((cy a rfl ha).trans (cS (cR (ao (be rfl rfl (ju h.1 h.2)) rfl (pI _ _)))))
 |out t=>show bI (bJ a (by decide)) (dQ ((cy a rfl ha).trans (cS (cR (ao (be rfl rfl (ju h.1 h.2)) rfl (pI _ _))))))
 |least k L=>show bI (bJ a (by decide)) (bI (bJ a (by decide)) (dQ ((cy a rfl ha).trans (cS (cR (ao (aF rfl (Du h.1 h.2)) rfl rfl))))))
 |most k L=>show bI (bJ a (by decide)) (bI (bJ a (by decide)) (bI (bJ a (by decide)) ((cy a rfl ha).trans (cS (cR (ao (aF rfl (Dv h.1 h.2)) rfl rfl))))))
variable{n:Nat}
def UV(r:Rul)(h:r.Ok n):m_2 [r.toD]=aa (.lst (r.ps.map Prt.obj)):=
 lN (congrArg _ (gh r.ps Prt.toD Prt.obj rfl (by have:=h.len;lia) λp _=>fT rfl rfl (aF rfl (Jd p))))
structure Spr where
 es:LOB
 st:LD
 bs:LD
 gk:List (List Key)
 gd:LD
 ws:List (List Key×LD)
 wt:LD
 mks:D
 tl:List (Str×O)
def lsO(ds:LD):O:=.lst (ds.map .fz)
def wsO(ws:List (List Key×LD)):O:=.dT (ws.map (·.1)) (ws.map λp=>lsO p.2)
nonrec def spN:LSt:=["sheet","steps","bars","guards","watches","waiting","makers"]
nonrec def iU(tl:List (Str×O))(os:List O):O:=.ins "Seeking" (spN++tl.map (·.1)) (os++tl.map (·.2))
def Spr.o(s:Spr):O:=iU s.tl [lsO (s.es.map shD),lsO s.st,lsO s.bs,.dT s.gk (s.gd.map .fz),wsO s.ws,lsO s.wt,.fz s.mks]
variable{l:Addr}{s:Spr}
def jZ:aX "Seeking" "sheet" (aI 0) (.deep (.at l s.o)::M)=aa (lsO (s.es.map shD),λx=>.at l (iU s.tl [x,lsO s.st,lsO s.bs,.dT s.gk (s.gd.map .fz),wsO s.ws,lsO s.wt,.fz s.mks]),):=rfl
def Dx:aX "Seeking" "steps" (aI 0) (.deep (.at l s.o)::M)=aa (lsO s.st,λx=>.at l (iU s.tl [lsO (s.es.map shD),x,lsO s.bs,.dT s.gk (s.gd.map .fz),wsO s.ws,lsO s.wt,.fz s.mks]),):=rfl
def Dy:aX "Seeking" "bars" (aI 0) (.deep (.at l s.o)::M)=aa (lsO s.bs,λx=>.at l (iU s.tl [lsO (s.es.map shD),lsO s.st,x,.dT s.gk (s.gd.map .fz),wsO s.ws,lsO s.wt,.fz s.mks]),):=rfl
def Jg:aX "Seeking" "guards" (aI 0) (.deep (.at l s.o)::M)=aa (.dT s.gk (s.gd.map .fz),λx=>.at l (iU s.tl [lsO (s.es.map shD),lsO s.st,lsO s.bs,x,wsO s.ws,lsO s.wt,.fz s.mks]),):=rfl
def vS:aX "Seeking" "watches" (aI 0) (.deep (.at l s.o)::M)=aa (wsO s.ws,λx=>.at l (iU s.tl [lsO (s.es.map shD),lsO s.st,lsO s.bs,.dT s.gk (s.gd.map .fz),x,lsO s.wt,.fz s.mks]),):=rfl
def qf:aX "Seeking" "waiting" (aI 0) (.deep (.at l s.o)::M)=aa (lsO s.wt,λx=>.at l (iU s.tl [lsO (s.es.map shD),lsO s.st,lsO s.bs,.dT s.gk (s.gd.map .fz),wsO s.ws,x,.fz s.mks]),):=rfl
def UW:aX "Seeking" "makers" (aI 0) (.deep (.at l s.o)::M)=aa (.fz s.mks,λx=>.at l (iU s.tl [lsO (s.es.map shD),lsO s.st,lsO s.bs,.dT s.gk (s.gd.map .fz),wsO s.ws,lsO s.wt,x]),):=rfl
variable{p:Xp}{ds:LD}{R:O->O}
def sJ(h:p M=aa (lsO ds,R,)):pC p M=aa ds:=by
 unfold pC;rw[h];show zG ds
def sK:∀(ds:LD),O.kns (ds.map .fz)=ac
 | []=>by rw[map_nil,O.kns]
 |d::ds=>by rw[bE,O.kns,O.kn,sK ds];rfl
def jB(h:p M=aa (lsO ds,R,)):pB p M=aa (.lst ds):=by
 unfold pB lsO at *;rw[h,aA,O.kn,sK,if_pos rfl,O.toD,yy]
def k7(h:p M=aa (.fz d,R,)):pD p M=aa d:=by
 unfold pD;rw[h];rfl
variable{K:Fl->Prop}
def sL(h:p M=aa (lsO ds,R,))(a:f M=aa d)(hz:Z ds<16777216)(k:K (.nx (M.set i (.deep (R (lsO (ds++[d]))))))):wp (k6 i p f) M K:=(_,by
 unfold k6 lsO at *;rw[h,aA,a,aA];change(if Z (ds.map O.fz)<16777216 then aa _ else ab).map _=_;rw[if_pos (by grind),show ds.map O.fz++_=(ds++[d]).map .fz by rw[ba];rfl];rfl,k)
variable{ks:List (List Key)}{os:List O}{y:L2.D}
def UX{k:List Key}(hv:fv M=aa d)(h:p M=aa (.dT ks os,R,))(a:fk M=aa y)(b:k4 y=aa k)(hn:aU k ks=ab)(hz:Z ks<16777216)
 (q:K (.nx (M.set i (.deep (R (.dT (ks++[k]) (os++[.fz d]))))))):wp (pX i p fk fv) M K:=(_,by
 unfold pX;rw[hv,aA,h,aA,a,aA,b,aA];change(if aU k ks=ab/\Z ks<16777216 then aa _ else ab).map _=_;rw[if_pos (hn,hz)];rfl,q)
abbrev gt(k:List Key)(y:D):List (List Key×LD)->List (List Key×LD)
 | []=>[(k,[y],)]
 |p::ws=>if p.1=k then (p.1,p.2++[y],)::ws else p::gt k y ws
def Dz{k:List Key}{y:D}:∀{ws:List (List Key×LD)},aU k (ws.map (·.1))=ab->gt k y ws=ws++[(k,[y],)]
 | [],_=>rfl
 |p::ws,h=>by
  rw[bE]at h;unfold aU at h;split at h
  .lia
  .rename_i e;unfold gt;rw[if_neg e]
   cases h':aU k _ with
   |none=>rw[Dz h'];rfl
   |some j=>rw[h']at h;cases h
def DD{k:List Key}{y:D}:∀{ws:List (List Key×LD)} {j:Nat},aU k (ws.map (·.1))=aa j->∃p,ws[j]?=aa p/\p.1=k/\gt k y ws=ws.set j (p.1,p.2++[y],)
 | [],_,h=>by cases h
 |p::ws,j,h=>by
  rw[bE]at h;unfold aU at h;split at h
  .rename_i e;cases h;show(p,rfl,e,?_);unfold gt
   grind
  .rename_i e
   cases h':aU k _ with
   |none=>rw[h']at h;cases h
   |some i=>
    rw[h']at h;cases h;have(q,a,b,c):=DD h';show(q,by rw[g4];show a,b,?_);unfold gt;rw[if_neg e,c];rfl
structure bU(c:Nat)(ws:List (List Key×LD)):Prop where
 ln:Z ws<=c
 al:∀p∈ws,Z p.2<=c
variable{c:Nat}{ws:List (List Key×LD)}
def bU.add(h:bU c ws)(k:List Key)(y:D):bU (c+1) (gt k y ws):=by
 cases a:aU k _ with
 |none=>
  rw[Dz a];show(by rw[aS,f6];have:=h.ln;lia,λp e=>?_)
  rcases bz.mp e with q |q
  .have:=h.al p q;lia
  .grind
 |some j=>
  have(p,b,_,d):=DD a;rw[d];show(by rw[iy];have:=h.ln;lia,λq f=>?_)
  rcases mem_or_eq_of_mem_set f with z |z
  .have:=h.al q z;lia
  .rw[z];have:=h.al p (dS b)
   grind
def UY{k:List Key}(h:aU k ks=ab)(hz:Z ks<16777216):(O.dT ks os).apdK k d=aa (.dT (ks++[k]) (os++[.lst [.fz d]])):=by
 unfold O.apdK
 grind
variable{j:Nat}{o2:O}
def UZ{k:List Key}{o1:O}(h:aU k ks=aa j)(a:os[j]?=aa o1)(h2:o1.appd d=aa o2):(O.dT ks os).apdK k d=aa (.dT ks (os.set j o2)):=by
 unfold O.apdK
 grind
def U0(h:Z ds<16777216):(lsO ds).appd y=aa (lsO (ds++[y])):=by
 unfold lsO O.appd
 grind
def U1(h:bU c ws)(e:c<16777216)(k:List Key)(y:D):(wsO ws).apdK k y=aa (wsO (gt k y ws)):=by
 unfold wsO
 cases a:aU k _ with
 |none=>
  rw[UY a (by rw[ay];have:=h.ln;lia),Dz a,ba,ba]
  rfl
 |some j=>
  have(p,b,_,d):=DD a;rw[UZ a (by rw[cu,b];rfl) (U0 (by have:=h.al p (dS b);lia)),d,g8,g8,nJ (x:=p.1) (by grind)]
def U2{g:MF1}{k:List Key}(h:p M=aa (wsO ws,R,))(b:g M=aa y)(f:k4 y=aa k)(e:ae j M=aa d)(ok:bU c ws)(a:c<16777216)(q:K (.nx (M.set i (.deep (R (wsO (gt k d ws))))))):wp (pY i j p g) M K:=(_,by
 unfold pY;rw[h,aA,b,aA,f,aA,e,aA,U1 ok a];rfl,q)
variable{m:MTf}{ρ1:LS}{o0 o o':O}
def fI{cn a:Str}{f:Xa}(h:M[i]?=aa (.deep (.at l o0)))(hi:o0.isIns cn a=ac)(c:f M=aa (ds,ρ1,))(b:ρ1[i]?=aa (.deep (.at l o)))(hm:m l ds o=aa (o',d,)):cJ i cn a m f M=aa (d,ρ1.set i (.deep (.at l o')),):=by
 unfold cJ
 grind
def U3{cn:Str}(h:fa M=aa ds)(hm:∀l,m l ds (.ins cn [] [])=aa (o,.non,)):nN cn m fa M=aa o:=by
 unfold nN;rw[h,aA];have a:∃o,∀l,m l ds _=aa (o,.non,):=(o,hm);rw[dif_pos a];have:=a.choose_spec 0
 grind
def Jh(l:Addr)(Q:O->D->Prop)(r:Fl):Prop:=match r with
 |.nx M=>∃o,M[0]?=aa (.deep (.at l o))/\Q o .non
 |.rtS d M=>∃o,M[0]?=aa (.deep (.at l o))/\Q o d
 | _=>False
variable{N:Nat}
def U4{F:MF3}{Q:O->D->Prop}(h:wp F (vj N l ds o) (Jh l Q)):∃o' d,d9 N F l ds o=aa (o',d,)/\Q o' d:=by
 have(r,e,q):=h;unfold d9;rw[e,aA]
 cases r with
 |nx M=>have(o',a,q):=q;show(o',.non,by dsimp only;rw[Ic a];rfl,q)
 |rtS d M=>have(o',a,q):=q;show(o',d,by dsimp only;rw[Ic a];rfl,q)
 | _=>show q.elim
def fJ{F:MF3}(h:wp F (vj N l ds o) (Jh l λx y=>x=o'/\y=d)):d9 N F l ds o=aa (o',d,):=by
 have(a,b,e,rfl,rfl):=U4 h;show e
def iT(h:f M=aa d)(k:K (.rtS d M)):wp (eE f) M K:=(_,by unfold eE;rw[h];rfl,k)
def gS{cn f:Str}{g:LS->Option O}{x:O}{q:O×(O->O)}(a:g M=aa x)(h:p M=aa q)(b:q.1.setF cn f x=aa o2)(k:K (.nx (M.set i (.deep (q.2 o2))))):wp (eK i cn f p g) M K:=(_,by
 unfold eK;rw[a,aA,h,aA,b];rfl,k)
def iS{f:Xe}{ρ':LS}(h:f M=aa (d,ρ',))(k:K (.nx ρ')):wp (dJ f) M K:=(_,by unfold dJ;rw[h];rfl,k)
def nQ{f:MF2}(h:f M=aa ds):iq f M=aa (lsO ds):=by unfold iq lsO;rw[h];rfl
def sM(h:f M=aa d):jA f M=aa (.fz d):=by unfold jA;rw[h];rfl
variable{ns:LI0}
def U5(h:f M=aa (.lst (ns.map D.int)))(a:Z ns<4000)(h2:Z (cI ns)<64):nB f M=aa ((cI ns).map D.int):=by
 unfold nB;rw[h,aA];change(iP _).bind _=_;rw[zm,aA,if_pos (a,h2)]
def Ji(h:∀x∈ns,0<=x/\x<(n:Int)):Z (cI ns)<=n:=by
 by_cases c:Z (cI ns)<=n
 .show c
 .have d:∀x∈cI ns,x∈(bu n).map λ(i:Nat)=>(i:Int):=λx e=>by
   have(a,b):=h x ((ip x ns).mp e);show aH.mpr (S x,d5.mpr (by lia),by lia)
  have:=(pL _ _ ((kP ns).imp λh=>Int.ne_of_lt h) d (by rw[ay,cC];lia)).length_eq;rw[ay,cC]at this
  lia
def DF(h:f M=aa (.lst ds))(h':M[i]?=aa (.own E))(a:Z E+Z ds<=16777216):kG i (kE f) M=aa (.nx (M.set i (.own (E++ds)))):=by
 unfold kG kE;rw[h,h'];change(if Z E+Z ds<=16777216 then _ else ab)=_;rw[if_pos a]
variable{p:Prt}
def qg(h:p.Ok n):∀x∈nmP p,0<=x/\x<(n:Int):=λx a=>by
 cases p with
 |inn t=>
  have:x=t:=by simpa[nmP]using a
  subst this
  show h
 |out t=>
  have:x=t:=by simpa[nmP]using a
  subst this
  show h
 |least k L=>have(z,hz,rfl):=aH.mp a;show((h.1 z hz).1,(h.1 z hz).2.1)
 |most k L=>have(z,hz,rfl):=aH.mp a;show((h.1 z hz).1,(h.1 z hz).2.1)
def put(es:LOB)(k:Nat)(b:Bool):LOB:=es.set k (aa b)
def cb(es:LOB)(k:Nat)(b:Bool):Z (put es k b)=Z es:=iy
def da(es:LOB){k j:Nat}(b:Bool)(h:j≠k):(put es k b).getD j ab=es.getD j ab:=by
 unfold put;rw[bD,bD,lh (eQ h)]
def e8(es:LOB){k:Nat}(b:Bool)(h:k<Z es):(put es k b).getD k ab=aa b:=by
 unfold put;rw[bD,j9 h];rfl
variable{es':LOB}
def Jj{q:Option Bool->Bool}(h:∀z∈L,q (es'.getD z.1.toNat ab)=q (es.getD z.1.toNat ab)):cF q es' L=cF q es L:=by
 unfold cF;rw[filter_congr h]
def U6{k:Nat}{b:Bool}(a:p.Ok (Z es))(h:(k:Int)∉nmP p):p.sure (put es k b)=p.sure es:=by
 have ne:∀t:Int,0<=t->t∈nmP p->S t≠k:=λt d f e=>by
  grind
 cases p with
 |inn t=>
  have:=ne t a.1 (by simp[nmP]);change((put es k b).getD t.toNat ab==aa ac)=_;rw[da es b this]
  rfl
 |out t=>
  have:=ne t a.1 (by simp[nmP]);change((put es k b).getD t.toNat ab==aa af)=_;rw[da es b this]
  rfl
 |least c L=>
  change decide _=decide _
  rw[Jj (es:=es) λz hz=>by rw[da es b (ne z.1 (a.1 z hz).1 (aH.mpr (z,hz,rfl)))]]
 |most c L=>
  change decide _=decide _;rw[Jj (es:=es) λz hz=>by rw[da es b (ne z.1 (a.1 z hz).1 (aH.mpr (z,hz,rfl)))]]
def opn(es:LOB)(t:Int):Bool:=es.getD t.toNat ab==ab
abbrev nmL:Prt->LI0
 |.inn t=>[t]
 |.out t=>[t]
 |.least _ L=>cI (L.map (·.1))
 |.most _ L=>cI (L.map (·.1))
abbrev gT:Prt->Bool
 |.inn _=>ac
 |.out _=>af
 |.least _ _=>ac
 |.most _ _=>af
def sN(h:p.Ok n)(hn:n<=60):Z (nmL p)<64:=by
 cases p with
 |inn t=>change 1<64;decide
 |out t=>change 1<64;decide
 |least k L=>have:=Ji (qg h);change(cI _).length<64;show lr this (by lia)
 |most k L=>have:=Ji (qg h);change(cI _).length<64;show lr this (by lia)
variable{t:Int}
def sO:t∈nmL p↔t∈nmP p:=by
 cases p with
 |inn u=>show Iff.rfl
 |out u=>show Iff.rfl
 |least k L=>show ip t _
 |most k L=>show ip t _
def Jk(a:Z L<=1000)(h2:Z (cI (L.map (·.1)))<64):vF [.lst (L.map itD)]=aa (.lst ((cI (L.map (·.1))).map D.int)):=by
 show lN (congrArg _ (U5 (bT ?_) (by rw[ay];lia) h2));rw[map_map];show gh L itD _ rfl (by lia) λz _=>fT rfl rfl rfl
def Jl(p:Prt)(h:p.Ok n)(hn:n<=60)(b:Z (nmP p)<=1000)(a:fo M=aa p.obj):
  bh (aN "In" "named" vE fo λ_=>aa []) (bh (aN "Out" "named" vI fo λ_=>aa []) (bh (aN "Least" "named" vG fo λ_=>aa []) (aN "Most" "named" vH fo λ_=>aa []))) M=aa (.lst ((nmL p).map D.int)):=by
 have c:=sN h hn
 cases p with
 |inn t=>show dQ ((cy a rfl rfl).trans rfl)
 |out t=>show bI (bJ a (by decide)) (dQ ((cy a rfl rfl).trans rfl))
 |least k L=>
  have e:=Jk (by simpa[nmP]using b) c
  show bI (bJ a (by decide)) (bI (bJ a (by decide)) (dQ ((cy a rfl rfl).trans (cS (cR (aF rfl e))))))
 |most k L=>
  show bI (bJ a (by decide)) (bI (bJ a (by decide)) (bI (bJ a (by decide)) ((cy a rfl rfl).trans (cS (cR (aF rfl (Jk (by simpa[nmP]using b) c)))))))
def U7(p:Prt)(a:fo M=aa p.obj):
  bh (aN "In" "wants" BO fo λ_=>aa []) (bh (aN "Out" "wants" BZ fo λ_=>aa []) (bh (aN "Least" "wants" BS fo λ_=>aa []) (aN "Most" "wants" BW fo λ_=>aa []))) M=aa (.bl (gT p)):=by
 cases p with
 |inn t=>show dQ ((cy a rfl rfl).trans rfl)
 |out t=>show bI (bJ a (by decide)) (dQ ((cy a rfl rfl).trans rfl))
 |least k L=>show bI (bJ a (by decide)) (bI (bJ a (by decide)) (dQ ((cy a rfl rfl).trans rfl)))
 |most k L=>show bI (bJ a (by decide)) (bI (bJ a (by decide)) (bI (bJ a (by decide)) ((cy a rfl rfl).trans rfl)))
nonrec def Wss:=List (List Key×LD)
def gx(t:Int)(b:Bool):List Key:=[.inl t,.inl (cond b 1 0)]
def vT(y:D)(ws:Wss)(p:Prt):Wss:=(nmL p).foldl (λws t=>gt (gx t (gT p)) y ws) ws
def nR(y:D)(ps:List Prt)(ws:Wss):Wss:=ps.foldl (vT y) ws
def bU.ts{c:Nat}{b:Bool}{y:D}:∀(ts:LI0) {ws:Wss},bU c ws->bU (c+Z ts) (ts.foldl (λws t=>gt (gx t b) y ws) ws)
 | [],_,h=>h
 |t::ts,ws,h=>by
  have:=bU.ts (b:=b) (y:=y) ts (h.add (gx t b) y);rw[cv,show c+_=c+1+ts.length by lia];show this
def bU.le{a:Nat}{ws:Wss}(h:bU c ws)(b:c<=a):bU a ws:=(cV h.ln b,λp d=>cV (h.al p d) b)
def PrK(n:Nat)(p:Prt):Prop:=p.Ok n/\Z (nmP p)<=1000
def bU.prt{ws:Wss}(h:bU c ws)(a:PrK n p)(hn:n<=60):bU (c+64) (vT y ws p):=by
 have:=sN a.1 hn;show(bU.ts _ h).le (by lia)
def bU.reg{n:Nat}{y:D}(hn:n<=60):∀{ps:List Prt} {c:Nat} {ws:Wss},(∀p∈ps,PrK n p)->bU c ws->bU (c+64*Z ps) (nR y ps ws)
 | [],_,_,_,h=>h
 |p::ps,c,ws,hp,h=>by
  have:=bU.reg (y:=y) hn (λq a=>hp q (bi _ a)) (h.prt (y:=y) (hp p az) hn);rw[cv,show c+64*_=c+64+64*ps.length by lia];show this
def vU(s:Spr)(y:D)(k:List Key)(ps:List Prt):Spr:={s with gk:=s.gk++[k],gd:=s.gd++[.lst (ps.map Prt.obj)],ws:=nR y ps s.ws,wt:=s.wt++[y]}
def U8(ds:LD)(d:D):ds.map O.fz++[.fz d]=(ds++[d]).map .fz:=by rw[ba];rfl
def Jm{k:List Key}(s:Spr)(ps:List Prt)(z:k4 y=aa k)(m:aU k s.gk=ab)(j:Z s.gk<16777216)(h:∀p∈ps,PrK n p)(hn:n<=60)(x:bU c s.ws)(A:c+64*Z ps<16777216)(hz:Z s.wt<16777216)(u:Z ps<=100000):
  ss l [y,.lst (ps.map Prt.obj)] s.o=aa ((vU s y k ps).o,.non,):=by
 apply fJ;apply aj;show UX rfl Jg rfl z m j ?_;rw[U8];apply aj
 show dC ps Prt.obj (λpre M=>∃g a,M=[.deep (.at l ({s with gk:=s.gk++[k],gd:=s.gd++_,ws:=nR y pre s.ws}:Spr).o),.im y,.im _,g,a]) rfl (_,_,rfl) ?_ ?_
 .rintro pre p post M ex ⟨g,a,rfl⟩;have e:p∈ps:=by rw[ex];simp
  have b:=h p e;have i:Z pre<Z ps:=by rw[ex];simp
  have f:bU _ (nR y pre s.ws):=bU.reg hn (λq w=>h q (by rw[ex];simp[w])) x;have r:=sN b.1 hn;show(_,rfl,?_);walk_at "nrm"
  show dC _ D.int (λpr M=>∃a,M=[.deep (.at l ({s with gk:=s.gk++[k],gd:=s.gd++_,ws:=pr.foldl (λws t=>gt (gx t (gT p)) y ws) _}:Spr).o),.im y,.im _,.im p.obj,a]) (e7 (Jl p b.1 hn b.2 rfl) rfl) (_,rfl) ?_ ?_
  .rintro pr t po M d ⟨a,rfl⟩;have v:Z pr<Z (nmL p):=by rw[d];simp
   show(_,rfl,?_);walk_at "nrm";show U2 vS (du (ap rfl (ap (U7 p rfl) rfl))) rfl rfl (bU.ts pr f) (by lia) ?_;show(.im (.int t),?_);rw[eP];rfl
  .rintro M ⟨a,rfl⟩;show(.im p.obj,a,?_);unfold nR;rw[eP];rfl
 .rintro M ⟨g,a,rfl⟩;show sL qf rfl hz (_,rfl,rfl,rfl)
def mkD(r:Rul):D:=.tup [.int r.hd,.lst (r.ps.map Prt.obj)]
def dM(B:LRu):LRu:=B.filter λr=>r.w != .never
def grd(r:Rul):List Prt:=match r.w with
 |.may=>[.least 1 []]
 |.make=>r.ps++[.out r.hd]
 |.never=>r.ps
structure RuK(n:Nat)(r:Rul):Prop where
 ok:r.Ok n
 nm:∀p∈r.ps,Z (nmP p)<=1000
 len:Z r.ps<=1000
variable{r:Rul}
def vV(h:RuK n r):∀p∈grd r,PrK n p:=λp a=>by
 have(w,hd,ps):=r
 cases w with
 |may=>
  have:p=.least 1 []:=by simpa[grd]using a
  subst this
  show(((λz hz=>nomatch hz),cj _),cj _)
 |make=>
  rcases bz.mp (a)with q |q
  .show(h.ok.ps p q,h.nm p q)
  .rw[bw.mp q]
   show(h.ok.hd (λz=>by nomatch z),by change 1<=1000;decide)
 |never=>show(h.ok.ps p a,h.nm p a)
def DH(h:RuK n r):Z (grd r)<=1001:=by
 have(w,hd,ps):=r;have a:Z ps<=1000:=h.len
 cases w with
 |may=>change 1<=1001;decide
 |make=>change(ps++_).length<=1001;rw[aS,f6];lia
 |never=>change Z ps<=1001;lia
def Jn(r:Rul)(h:r.Ok n):o_2 [r.toD]=aa (r.ps.map Prt.obj):=
 nE (congrArg _ (gh r.ps Prt.toD Prt.obj rfl (by have:=h.len;lia) λp _=>fT rfl rfl (aF rfl (Jd p))))
def U9(r:Rul)(h:RuK n r):vL [r.toD]=aa (.lst ((grd r).map Prt.obj)):=by
 apply gN;have(w,hd,ps):=r
 cases w with
 |may=>
  apply aj;show aR rfl (λ_=>?_) (λz=>by nomatch z)
  first |show iQ rfl (iR rfl) |grind
 |make=>
  apply aj;show aR rfl (λz=>by nomatch z) (λ_=>bK ?_);walk_at "nrm";apply aj
  show dY (by first |show vd rfl (Jn (.make,hd,ps) h.ok) |show eb) ?_
  walk_at "nrm";apply aj;show aR rfl (λ_=>?_) (λz=>by nomatch z);show fV rfl rfl (by rw[ay];change Z ps<_;have:Z ps<=1000:=h.len;lia) ?_;walk_at "nrm";show lU rfl (iR ?_);change D.lst _=D.lst ((ps++_).map Prt.obj);rw[ba]
  rfl
 |never=>
  apply aj;show aR rfl (λz=>by nomatch z) (λ_=>bK ?_);walk_at "nrm";apply aj
  show dY (by first |show vd rfl (Jn (.never,hd,ps) h.ok) |show eb) ?_
  walk_at "nrm";apply aj;show aR rfl (λz=>by nomatch z) (λ_=>bK ?_);walk_at "nrm";show lU rfl (iR rfl)
def sP(i:Nat):D:=.tup [.str "rule",.int i]
def nU(i:Nat):List Key:=[.inr "rule",.inl i]
def Va(h:nU i=nU j):i=j:=by
 have:=ub (qK (qK h).2).1
 lia
def DJ{a:Type}[DecidableEq a]{f:a}:∀{ns:List a},f∉ns->aU f ns=ab
 | [],_=>rfl
 |n::ns,h=>by
  unfold aU;rw[if_neg (λe=>h (by rw[e];show az)),DJ (λq=>h (bi _ q))];rfl
def sp0(es:LOB)(B:LRu):Spr:=(es,[],[],[],[],[],[],.lst ((dM B).map mkD),[])
def l7(s:Spr)(p:Nat×Rul):Spr:=vU s (sP p.1) (nU p.1) (grd p.2)
structure SpK(n i c:Nat)(s:Spr):Prop where
 gk:s.gk=(bu i).map nU
 gl:Z s.gd=i
 ws:bU c s.ws
 wt:s.wt=(bu i).map sP
def SpK.step(h:SpK n i c s)(hr:RuK n r)(hn:n<=60):SpK n (i+1) (c+65000) (l7 s (i,r,)):=by
 show(?_,?_,?_,?_)
 .change s.gk++_=_;rw[range_succ,ba,h.gk];rfl
 .change(s.gd++[_]).length=_;rw[aS,h.gl];rfl
 .have:=bU.reg (y:=sP i) hn (vV hr) h.ws;have a:=DH hr;show this.le (by lia)
 .change s.wt++_=_;rw[range_succ,ba,h.wt];rfl
def SpK.fresh(h:SpK n i c s):aU (nU i) s.gk=ab:=DJ λq=>by
 rw[h.gk]at q;have(j,a,e):=aH.mp q;have:=Va e;subst this;show gB _ (d5.mp a)
abbrev e9:Nat->LRu->List (Nat×Rul)
 | _,[]=>[]
 |i,r::B=>(i,r,)::e9 (i+1) B
def Jo:∀(i:Nat) (B:LRu),iM i (B.map Rul.toD)=(e9 i B).map λp=>D.tup [.int p.1,p.2.toD]
 | _,[]=>rfl
 |i,r::B=>by rw[bE,iM,Jo _ B];rfl
def sQ:∀(i:Nat) (B:LRu) (j:Nat),(e9 i B)[j]?=(B[j]?).map λr=>(i+j,r,)
 | _,[],_=>rfl
 |i,r::B,0=>rfl
 |i,r::B,j+1=>by simp only[e9,g4,g4,sQ _ B j,show i+1+j=i+(j+1) by lia]
variable{B:LRu}
def Jp{pre post:List (Nat×Rul)}{p:Nat×Rul}(h:e9 0 B=pre++p::post):p.1=Z pre/\p.2∈B/\Z pre<Z B:=by
 have a:(e9 0 B)[Z pre]?=aa p:=by rw[h,oj (aM _),Nat.sub_self];rfl
 rw[sQ]at a
 cases hr:B[Z pre]? with
 |none=>rw[hr]at a;nomatch a
 |some r=>
  rw[hr]at a;cases a;show(lu _,dS hr,(c7.mp hr).1)
def pl0(n:Int)(B:LRu):D:=.tup [.int n,.lst (B.map Rul.toD)]
def Vb(hi:fi M=aa (B.map Rul.toD))(hok:∀r∈B,r.Ok n)(hz:Z B<=1000):
  bj 1 [] fi (ax 0) (mB (m2 gg (mIx (ar 0) (kI 1)) kN)) (bx (ag (mIx (ar 0) (kI 1)) (ag (aw m_2 (ag (ae 0) nZ)) nZ))) M=aa ((dM B).map mkD):=by
 show eG B Rul.toD _ mkD hi (by lia) λr hr=>?_;have a:=UV r (hok r hr);have(w,hd,ps):=r
 cases w with
 |never=>show dL rfl rfl λz=>by nomatch z
 |make=>show dL rfl rfl λ_=>du (ap rfl (ap (aF rfl a) rfl))
 |may=>show dL rfl rfl λ_=>du (ap rfl (ap (aF rfl a) rfl))
def dN{g:Xa}(h:f M=aa d)(h':g M=aa (ds,M,)):bN (mX f) g M=aa (d::ds,M,):=by
 unfold bN mX;rw[h];change(g M).map _=_;rw[h'];rfl
def vW{f:MF2}(h:f M=aa [.lst E]):jw f M=aa (iM 0 E):=by
 unfold jw;rw[h];rfl
def spI(es:LOB)(B:LRu):Spr:=(e9 0 B).foldl l7 (sp0 es B)
def SpK.foldT{n:Nat}(hn:n<=60){es:LOB}{B:LRu}(hr:∀r∈B,RuK n r):∀(k:Nat),k<=Z B->SpK n k (65000*k) (((e9 0 B).take k).foldl l7 (sp0 es B))
 | 0,_=>(rfl,rfl,⟨cj _,λ_ h=>nomatch h⟩,rfl)
 |k+1,h=>by
  have a:(e9 0 B)[k]?=aa (k,B[k],):=by rw[sQ,b6 h];simp
  have:=(SpK.foldT hn (es:=es) hr k (Nat.le_of_succ_le h)).step (hr B[k] (g5 h)) hn;rw[take_succ,a,eP,show 65000*_=65000*k+65000 by lia];show this
def SpK.fold(hn:n<=60)(hr:∀r∈B,RuK n r){pre post:List (Nat×Rul)}{p:Nat×Rul}(h:e9 0 B=pre++p::post):SpK n pre.length (65000*Z pre) (pre.foldl l7 (sp0 es B)):=by
 have:=SpK.foldT hn (es:=es) hr pre.length (fD (Jp h).2.2);rw[h,take_left' rfl]at this;show this
def Js:∀(ps:List (Nat×Rul)) (s:Spr),(ps.foldl l7 s).tl=s.tl
 | [],_=>rfl
 |p::ps,s=>Js ps _
def Vc(h:s.tl=[]):s.o.isIns "Seeking" "take_guard"=ac:=by
 cases s;cases h;rfl
variable{v:Int}
def Vd{bars:LD}(hn:n<=60)(hr:∀r∈B,RuK n r)(hz:Z B<=250)
 (k:∀b c,K (.nx [.deep (.at l (spI es B).o),.im (pl0 v B),.im (.lst bars),.im (.lst (es.map shD)),b,c,.no])):
  wp (bS (jw (ag (mIx (ar 1) (kI 1)) nZ)) (c9 (bv (ax 5) (bv (ax 4) dA))) (dJ (cJ 0 "Seeking" "take_guard" ss (bN (mX (bx (ag (kSt "rule") (ag (ae 5) nZ)))) (bN (mX (aw vL (ag (ae 4) nZ))) cB)))))
   [.deep (.at l (sp0 es B).o),.im (pl0 v B),.im (.lst bars),.im (.lst (es.map shD)),.no,.no,.no] K:=by
 show dC (e9 0 B) (λp=>D.tup [.int p.1,p.2.toD]) (λpre M=>∃b c,M=[.deep (.at l (pre.foldl l7 (sp0 es B)).o),.im _,.im _,.im _,b,c,.no]) ?_ (_,_,rfl) ?_ ?_
 .rw[<- Jo];show vW (ap (be rfl rfl rfl) rfl)
 .rintro pre p post M ex ⟨b,c,rfl⟩;have(e,f,h):=Jp ex;have d:=SpK.fold (es:=es) hn hr ex;have a:=hr p.2 f;have g:=DH a;show(_,rfl,?_);walk_at "nrm";show iS (fI rfl (Vc (Js pre _)) (dN rfl (dN (aF rfl (U9 p.2 a)) rfl)) rfl (Jm _ _ rfl (by rw[e];show d.fresh) (by rw[d.gk,ay,cC];lia) (vV a) hn d.ws (by lia) (by rw[d.wt,ay,cC];lia) (by lia))) ?_;show(.im p.2.toD,.im (.int p.1),?_);rw[eP];rfl
 .rintro M ⟨b,c,rfl⟩;show k b c
def Ve(hn:n<=60)(hr:∀r∈B,RuK n r)(hz:Z B<=250)(l:Addr):Ca l [pl0 v B,.lst [],.lst (es.map shD)] (.ins "Seeking" [] [])=aa ((spI es B).o,.non,):=by
 apply fJ;apply aj;show gS (nQ rfl) rfl rfl ?_;apply aj;show gS (nQ rfl) rfl rfl ?_;apply aj;show gS (nQ rfl) rfl rfl ?_;apply aj;show gS rfl rfl rfl ?_;apply aj;show gS rfl rfl rfl ?_;apply aj;show gS (nQ rfl) rfl rfl ?_;apply aj;show gS (sM (bT (Vb (e7 (be rfl rfl rfl) rfl) (λr h=>(hr r h).ok) (by lia)))) rfl rfl ?_;apply aj;show Vd hn hr hz λa b=>?_;show dC ([]:LN) (λ_=>D.non) (λ_ M=>M=_) rfl rfl ?_ ?_
 .rintro pre x post M ex;simp at ex
 .rintro M rfl;show(_,rfl,rfl,rfl)
def hup(es:LOB)(wo:LB0)(r:Rul):Bool:=r.w != .never && (wo.getD r.hd.toNat af && !(r.bodyLost es wo))
def Jt(h:r.w≠.never):(r.w != .never)=ac:=by grind
inductive k8(B:LRu)(es:LOB)(a:LB0):LB0->Prop
 |refl:k8 B es a a
 |step {b:LB0} {r:Rul}:k8 B es a b->r∈B->hup es b r=ac->k8 B es a (b.set r.hd.toNat af)
def vX(l:LB0)(k j:Nat):(l.set k af).getD j af=(l.getD j af && !(k==j)):=by grind
variable{a b:LB0}
def k8.len(h:k8 B es a b):Z b=Z a:=by
 induction h with
 |refl=>rfl
 |step _ _ _ c=>rw[iy,c]
def k8.sub(h:k8 B es a b)(i:Nat):b.getD i af=ac->a.getD i af=ac:=by
 induction h with
 |refl=>show id
 |step _ _ _ c=>
  grind
variable{wo:LB0}
def Ju(h:hup es wo r=ac):r.w≠.never/\wo.getD r.hd.toNat af=ac/\r.bodyLost es wo=af:=by
 unfold hup at h
 grind
variable{le:LB0}
def Vf(hr:r.Ok (Z es))(g:nA le wo)(h:hup es wo r=ac)(f:le.getD r.hd.toNat af=ac):hup es le r=ac:=by
 have(a,b,c):=Ju h
 have e:r.bodyLost es le=af:=by
  cases q:r.bodyLost es le with
  |false=>rfl
  |true=>
   have(p,d,i):=any_eq_true.mp q;have:r.bodyLost es wo=ac:=any_eq_true.mpr (p,d,u3 (cT.refl es) g (hr.ps p d) i);rw[c]at this
   nomatch this
 unfold hup;rw[Jt a,f,e];rfl
def Vg{fin:LB0}(hok:∀r∈B,r.Ok (Z es))(h:k8 B es a b)(l:Z le=Z a)(g:∀i,le.getD i af=ac->a.getD i af=ac)(f:∀i,fin.getD i af=ac->b.getD i af=ac)
 (n:∀r∈B,hup es le r=ac->fin.getD r.hd.toNat af=ac):∀i,le.getD i af=ac->b.getD i af=ac:=by
 induction h with
 |refl=>show g
 | @step b r m hr j c=>
  have d:=λi q=>by
   have:=f i q;rw[vX]at this
   simpa using (b5 _ _▸this).1
  have c:=c d;intro i q;rw[vX,c i q,qz]
  cases e:(S r.hd==i)with
  |false=>rfl
  |true=>
   exfalso;have e:S r.hd=i:=by simpa using e
   subst e;have w:nA le b:=(by rw[m.len,l],c);have:=f _ (n r hr (Vf (hok r hr) w j q));rw[vX]at this;simp at this
def ct(bs:LB0):Nat:=Z (bs.filter λb=>b)
def Vh(bs:LB0):ct bs<=Z bs:=gz _ _
def Jv:∀(bs:LB0) (k:Nat),bs.getD k af=ac->ct (bs.set k af)+1=ct bs
 | [],k,h=>by simp at h
 |b::bs,0,h=>by
  subst h
  rfl
 |b::bs,k+1,h=>by
  have a:=Jv bs k (by show h)
  cases b with
  |false=>show a
  |true=>
   change(ct _+1)+1=ct bs+1;rw[a]
def Vi(bs:LB0)(k:Nat)(b:Bool):(bs.map D.bl).set k (.bl b)=(bs.set k b).map D.bl:=by rw[g8]
def jC(es:LOB):LB0:=es.map λe=>!(e==aa af)
def Vj(hi:fi M=aa (es.map shD))(hz:Z es<=1000):bj 1 [] fi (ax 0) kY (m2 gg (ae 0) (kBl af)) M=aa ((jC es).map D.bl):=by
 unfold jC;rw[<- QE];show gh es shD _ hi (by lia) λe _=>fT rfl rfl (ao rfl rfl (GG _ _))
abbrev DK:Option Prt->D
 |some p=>p.obj
 |none=>.non
def DM(ps:List Prt)(h:∀p∈ps,p.Ok (Z es))(e:Z wo=Z es):m_4 [.lst (ps.map Prt.obj),.lst (es.map shD),.lst (wo.map D.bl)]=aa (DK (ps.find? λp=>p.lost es wo)):=by
 apply gN;apply aj;show dC ps Prt.obj (λpre M=>∃c,M=[.im _,.im _,.im _,c]/\∀p∈pre,p.lost es wo=af) rfl ⟨_,rfl,λ_ h=>nomatch h⟩ ?_ ?_
 .rintro pre p post M ex ⟨c,rfl,a⟩;have d:p∈ps:=by grind
  show(_,rfl,?_);walk_at "nrm";show aR (cH (Jf p (h p d) e rfl rfl) rfl) (λz=>?_) (λz=>bK ?_)
  .show QF rfl (dH ?_);rw[ex,find?_append,find?_eq_none.mpr λq b=>by rw[a q b];show bM,find?_cons_of_pos z];rfl
  .show(.im p.obj,rfl,λq b=>?_)
   grind
 .rintro M ⟨c,rfl,a⟩;show dG rfl (dH ?_);rw[find?_eq_none.mpr λq b=>by rw[a q b];grind];rfl
def Vk(x:Option Prt):dIs (DK x) .non=aa (.bl x.isNone):=by
 cases x with
 |none=>rfl
 |some p=>cases p <;> rfl
def DN(r:Rul):(r.ps.find? λp=>p.lost es wo).isNone=!(r.bodyLost es wo):=by
 unfold Rul.bodyLost
 grind
def iV(es:LOB)(wo:LB0)(r:Rul):Bool:=wo.getD r.hd.toNat af && !(r.bodyLost es wo)
nonrec def j4:=LB0×LRu×LRu
def bZ(es:LOB)(a:j4)(r:Rul):j4:=if iV es a.1 r then (a.1.set r.hd.toNat af,a.2.1++[r],a.2.2,) else (a.1,a.2.1,a.2.2++[r],)
def dZ(es:LOB)(wo:LB0)(us rest:LRu):j4:=rest.foldl (bZ es) (wo,us,[],)
abbrev nV(es:LOB):Nat->LB0->LRu->LRu->j4
 | 0,wo,us,rest=>(wo,us,rest,)
 |k+1,wo,us,rest=>if Z us<(dZ es wo us rest).2.1.length/\(dZ es wo us rest).1.any id=ac then nV es k (dZ es wo us rest).1 (dZ es wo us rest).2.1 (dZ es wo us rest).2.2 else dZ es wo us rest
def cg(es:LOB)(ms:LRu):j4:=nV es (Z ms+1) (jC es) [] ms
structure L3(es:LOB)(ms:LRu)(a:j4)(q:LRu):Prop where
 len:Z a.1=Z es
 pe:k8 ms es (jC es) a.1
 us:∀r∈a.2.1,a.1.getD r.hd.toNat af=af
 pm:(a.2.1++a.2.2++q).Perm ms
variable{ms:LRu}
def L3.step{a:j4}{q:LRu}(h:L3 es ms a (r::q))(c:∀r∈ms,r.w≠.never):L3 es ms (bZ es a r) q:=by
 have hr:r∈ms:=h.pm.mem_iff.mp (by simp);unfold bZ
 by_cases b:iV es a.1 r=ac
 .rw[if_pos b];show(by rw[iy];show h.len,.step h.pe hr ?_,λx d=>?_,?_)
  .unfold hup;rw[Jt (c r hr),qz];show b
  .change(a.1.set r.hd.toNat af).getD _ af=af;rw[vX]
   rcases bz.mp d with z |z
   .rw[h.us x z];rfl
   .grind
  .show List.Perm.trans ?_ h.pm;rw[cK,cK,cK];show xh _ ?_;change(r::(a.2.2++q)).Perm _;show perm_middle.symm
 .rw[if_neg b];show(h.len,h.pe,h.us,?_);have:a.2.1++(a.2.2++[r])++q=a.2.1++a.2.2++r::q:=by simp
  rw[this];show h.pm
def L3.fold{es:LOB}{ms:LRu}(b:∀r∈ms,r.w≠.never):∀{q:LRu} {a:j4},L3 es ms a q->L3 es ms (q.foldl (bZ es) a) []
 | [],_,h=>h
 |r::q,a,h=>L3.fold (a:=bZ es a r) b (h.step b)
def sR{es:LOB}:∀(q:LRu) (a:j4),(q.foldl (bZ es) a).2.1.length+(q.foldl (bZ es) a).2.2.length=Z a.2.1+Z a.2.2+Z q/\Z a.2.1<=(q.foldl (bZ es) a).2.1.length
 | [],a=>(by simp,aM _)
 |r::q,a=>by
  have(b,h2):=sR q _;rw[fL,b];unfold bZ at *
  grind
def Jw{es:LOB}:∀(q:LRu) (a:j4),(q.foldl (bZ es) a).2.1.length=Z a.2.1->(q.foldl (bZ es) a).1=a.1/\(q.foldl (bZ es) a).2.2=a.2.2++q/\∀r∈q,iV es a.1 r=af
 | [],a,_=>⟨rfl,(bO _).symm,λ_ h=>nomatch h⟩
 |r::q,a,h=>by
  rw[fL]at h ⊢;have h2:=(sR (es:=es) q (bZ es a r)).2
  by_cases b:iV es a.1 r=ac
  .exfalso;have e:bZ es a r=(a.1.set r.hd.toNat af,a.2.1++[r],a.2.2,):=by unfold bZ;rw[if_pos b]
   grind
  .have e:bZ es a r=(a.1,a.2.1,a.2.2++[r],):=by unfold bZ;rw[if_neg b]
   rw[e]at h ⊢;have(c,d,f):=Jw q _ h
   grind
def Vl{bs:LB0}(h:bs.any id=af)(i:Nat):bs.getD i af=af:=by
 rw[bD]
 cases e:bs[i]? with
 |none=>rfl
 |some b=>
  cases b with
  |false=>rfl
  |true=>rw[any_eq_true.mpr (ac,dS e,rfl)]at h;nomatch h
def Jx{es:LOB}{ms:LRu}(d:∀r∈ms,r.w≠.never):∀(k:Nat) (wo:LB0) (us rest:LRu),L3 es ms (wo,us,[],) rest->Z rest<k->L3 es ms (nV es k wo us rest) []/\∀r∈ms,iV es (nV es k wo us rest).1 r=af
 | 0,_,_,_,_,h=>absurd h (g9 _)
 |k+1,wo,us,rest,h,hk=>by
  have a:=L3.fold d h;have c:=sR (es:=es) rest (wo,us,[],);unfold nV;split
  .rename_i f;show Jx d k _ _ _ (a.len,a.pe,a.us,?_) ?_
   .have:=a.pm;rw[bO]at this ⊢;show this
   .have:(dZ es wo us rest).2.1.length+(dZ es wo us rest).2.2.length=Z us+0+Z rest:=c.1;lia
  .rename_i f;show(a,λr hr=>?_)
   cases ha:(dZ es wo us rest).1.any id with
   |false=>unfold iV;rw[Vl ha];rfl
   |true=>
    have e:(dZ es wo us rest).2.1.length=Z us:=by
     have:Z us<=(dZ es wo us rest).2.1.length:=c.2
     grind
    have(b,g,i):=Jw rest _ e;have b:(dZ es wo us rest).1=wo:=b
    rcases bz.mp (h.pm.mem_iff.mpr hr)with z |z
    .rw[bO]at z;rw[b];unfold iV;rw[h.us r z];rfl
    .grind
def Jy(a:∀r∈ms,r.w≠.never):L3 es ms (cg es ms) []/\∀r∈ms,iV es (cg es ms).1 r=af:=
 Jx a _ _ _ _ (by unfold jC;rw[ay],.refl,(λ_ h=>nomatch h),by simp) (c8 _)
def Vm{x:O}(h:Z s.tl<900):s.o.setF "Seeking" "makers" x=aa (iU s.tl [lsO (s.es.map shD),lsO s.st,lsO s.bs,.dT s.gk (s.gd.map .fz),wsO s.ws,lsO s.wt,x]):=by
 change(if _/\Z (spN++s.tl.map (·.1))<1000 then _ else ab)=_;rw[if_pos (rfl,by rw[aS,ay];change 7+_<_;lia)];rfl
def Vn(x:Z s.tl<900)(hm:s.mks=.lst (ms.map mkD))(I:Z s.es<=60)(hok:∀r∈ms,r.Ok (Z s.es))(Q:∀r∈ms,r.w≠.never)(hz:Z ms<=1000):
  Dn l [] s.o=aa (({s with mks:=.lst (((cg s.es ms).2.1++(cg s.es ms).2.2).map mkD)}:Spr).o,.lst ((cg s.es ms).1.map D.bl),):=by
 have v:Z (jC s.es)=Z s.es:=by unfold jC;rw[ay]
 apply fJ;apply aj;show dY (Vj (sJ jZ) (by lia)) ?_;walk_at "nrm";apply aj;show dY rfl ?_;walk_at "nrm";apply aj;show bn ((k7 UW).trans (by rw[hm])) ?_;walk_at "nrm";apply aj;show bn rfl ?_;walk_at "nrm";apply aj;show pN (λm M=>∃(wo:LB0) (us rest:LRu) (g:Bool) (E G e:Sl),M=[.deep _,.own (wo.map D.bl),.own (us.map mkD),.im (.lst (rest.map mkD)),.im (.bl g),E,G,e]/\Z wo=Z s.es/\(us++rest).Perm ms/\(g=ac->nV s.es m wo us rest=cg s.es ms/\Z rest<m)/\(g=af->(wo,us,rest,)=cg s.es ms)) ?_ _ _ _ ⟨jC s.es,[],ms,ac,_,_,_,rfl,v,tO _,λ_=>(rfl,c8 _),λz=>by nomatch z⟩ (by lia)
 .rintro m M ⟨wo,us,rest,g,E,G,e,rfl,B,c,L,J⟩;show(g,rfl,?_,?_)
  .rintro rfl;have(f,u):=L rfl;have y:Z us+Z rest=Z ms:=by have:=c.length_eq;rw[aS]at this;show this
   apply aj;show bn (aF rfl (fW us mkD)) ?_;walk_at "nrm";apply aj;show dY rfl ?_;walk_at "nrm";apply aj;show dC rest mkD (λpre M=>∃e,M=[.deep _,.own ((pre.foldl (bZ s.es) (wo,us,[],)).1.map D.bl),.own ((pre.foldl (bZ s.es) (wo,us,[],)).2.1.map mkD),.im _,.im _,.im _,.own ((pre.foldl (bZ s.es) (wo,us,[],)).2.2.map mkD),e]/\(pre.foldl (bZ s.es) (wo,us,[],)).1.length=Z s.es) rfl (_,rfl,B) ?_ ?_
   .rintro pre r post M ex ⟨e,rfl,b⟩;have j:r∈ms:=c.mem_iff.mp (by rw[ex];simp);have hr:=hok r j;have(C,U):=hr.hd (Q r j);have N:Z pre<Z rest:=by rw[ex];simp
    have i:(pre.foldl _ (wo,us,[],)).2.1.length+(pre.foldl _ (wo,us,[],)).2.2.length=Z us+0+Z pre:=(sR (es:=s.es) pre _).1;generalize h:pre.foldl _ _=A at *;show(_,rfl,?_);walk_at "nrm"
    have x:(di (bH (mIx (ar 1) (mIx (ar 7) (kI 0)))) (mB (m2 dIs (aw m_4 (ag (mIx (ar 7) (kI 1)) (ag (pB (aX "Seeking" "sheet" (aI 0))) (ag (cP 1) nZ)))) kN))) [.deep (.at l s.o),.own (A.1.map D.bl),.own (A.2.1.map mkD),.im (.lst (rest.map mkD)),.im (.bl ac),.im (.int (Z us)),.own (A.2.2.map mkD),.im (mkD r)]=aa (iV s.es A.1 r):=by
     unfold iV;rw[<- DN];show iL (cH (be rfl (be rfl rfl rfl) (jW C (by lia))) rfl) (bp (ao (aF (ap (be rfl rfl rfl) (ap (jB jZ) (ap rfl rfl))) (DM r.ps hr.ps b)) rfl (Vk _)))
    show aR x (λz=>?_) (λz=>?_)
    .apply aj;show pM rfl (be rfl rfl rfl) rfl C (by rw[ay];lia) ?_;walk_at "nrm";show fV rfl rfl (by rw[ay];lia) ?_;show(.im (mkD r),?_,?_)
     .rw[eP,h];change _=[_,Sl.own ((bZ s.es A r).1.map D.bl),.own ((bZ s.es A r).2.1.map mkD),_,_,_,.own ((bZ s.es A r).2.2.map mkD),_];unfold bZ;rw[if_pos z,<- Vi,ba];rfl
     .rw[eP,h];change(bZ s.es A r).1.length=_;unfold bZ;rw[if_pos z,iy];show b
    .show fV rfl rfl (by rw[ay];lia) ?_;have H:¬iV s.es A.1 r=ac:=by rw[z];show bM
     show(.im (mkD r),?_,?_)
     .rw[eP,h];change _=[_,Sl.own ((bZ s.es A r).1.map D.bl),.own ((bZ s.es A r).2.1.map mkD),_,_,_,.own ((bZ s.es A r).2.2.map mkD),_];unfold bZ;rw[if_neg H,ba];rfl
     .rw[eP,h];change(bZ s.es A r).1.length=_;unfold bZ;rw[if_neg H];show b
   .rintro M ⟨e,rfl,b⟩;have i:(dZ s.es wo us rest).2.1.length+(dZ s.es wo us rest).2.2.length=Z us+0+Z rest:=(sR rest _).1;change wp _ [.deep _,.own ((dZ s.es wo us rest).1.map D.bl),.own ((dZ s.es wo us rest).2.1.map mkD),.im _,.im _,.im _,.own ((dZ s.es wo us rest).2.2.map mkD),e] _;replace b:(dZ s.es wo us rest).1.length=Z s.es:=b
    have d:((dZ s.es wo us rest).2.1++(dZ s.es wo us rest).2.2).Perm ms:=by
     have gen:∀(q:LRu) a,((q.foldl (bZ s.es) a).2.1++(q.foldl (bZ s.es) a).2.2).Perm (a.2.1++a.2.2++q):=by
      intro q
      induction q with
      |nil=>intro a;simp
      |cons r q T=>
       intro a;show(T _).trans ?_;unfold bZ;split
       .change(a.2.1++[r]++a.2.2++q).Perm _;rw[cK,cK,cK];show xh _ ?_;change(r::(a.2.2++q)).Perm _;show perm_middle.symm
       .change(a.2.1++_++q).Perm _;rw[show a.2.1++_++q=a.2.1++a.2.2++r::q by simp]
     show(gen rest _).trans ?_;rw[bO];show c
    cases m with
    |zero=>show absurd u (g9 _)
    |succ m=>
     unfold nV at f;generalize h:dZ s.es wo us rest=A at *;apply aj;show bn rfl ?_;walk_at "nrm";show bn (uX (ao (aF rfl (fW A.2.1 mkD)) rfl kX) (aF rfl (GM A.1))) ?_
     by_cases n:Z us<Z A.2.1/\A.1.any id=ac
     .rw[if_pos n]at f;have p:(decide ((Z us:Int)<Z A.2.1) && A.1.any id)=ac:=by rw[n.2,decide_eq_true (by lia)];rfl
      rw[p];show⟨m,c8 _,A.1,A.2.1,A.2.2,ac,_,_,_,rfl,b,d,λ_=>(f,by lia),λz=>by nomatch z⟩
     .rw[if_neg n]at f
      have p:(decide ((Z us:Int)<Z A.2.1) && A.1.any id)=af:=by
       cases ha:A.1.any id with
       |false=>show tH _
       |true=>
        have:¬Z us<Z A.2.1:=λq=>n (q,ha);rw[decide_eq_false (by lia)];rfl
      rw[p];show(0,oC _,A.1,A.2.1,A.2.2,af,_,_,_,rfl,b,d,(λz=>by nomatch z),λ_=>f)
  .rintro rfl;have y:Z us+Z rest=Z ms:=by have:=c.length_eq;rw[aS]at this;show this
   rw[<- (J rfl)];apply aj;show gS (sM (bT (Ja rfl rfl (by rw[ay,ay];lia)))) rfl (Vm x) ?_;rw[<- ba];show iT rfl (_,rfl,rfl,rfl)
def prD(z:Int×Bool):D:=.tup [.int z.1,.bl z.2]
def DQ(es:LOB)(t:Int):dIs (shD (es.getD t.toNat ab)) .non=aa (.bl (opn es t)):=by
 unfold opn
 cases es.getD t.toNat ab with
 |none=>rfl
 |some b=>cases b <;> rfl
def wt(L:LII)(j:Int):Int:=((L.filter λz=>z.1==j).map (·.2)).sum
def kW(W:LII):List Key:=W.map λz=>.inl z.1
def xW(W:LII):LD:=W.map λz=>.int z.2
def nW(W:LII)(j:Int):Int:=((W.find? λz=>z.1==j).map (·.2)).getD 0
def upW(W:LII)(j v:Int):LII:=if W.any (λz=>z.1==j) then W.map (λz=>if z.1=j then (z.1,v,) else z) else W++[(j,v,)]
def Jz(W:LII)(j:Int):gi (kW W) (.inl j)=W.any λz=>z.1==j:=by
 unfold gi kW;rw[any_map]
 congr 1
 funext z;show gX.mpr (by simp)
def Vo(W:LII)(j v:Int):ik (kW W) (.inl j)=kW (upW W j v):=by
 unfold ik upW;rw[Jz];split
 .unfold kW;rw[map_map];show map_congr_left λz _=>?_;change _=iD (if z.1=j then _ else z).1
  split <;> rfl
 .unfold kW;rw[ba];rfl
def Vp(W:LII)(j v:Int):iN (kW W) (xW W) (.inl j) (.int v)=xW (upW W j v):=by
 unfold iN upW;rw[Jz];split
 .rename_i a;clear a;unfold kW xW
  induction W with
  |nil=>rfl
  |cons z W b=>
   simp only[bE,bE,tM,b,bE,bE]
   congr 1
   by_cases h:z.1=j
   .rw[if_pos (by rw[h]),if_pos h]
   .rw[if_neg λq=>h (ub q),if_neg h]
 .unfold xW;rw[ba];rfl
def JA(W:LII)(j:Int):gP (kW W) (xW W) (.inl j)=(W.find? λz=>z.1==j).map λz=>D.int z.2:=by
 unfold gP kW xW
 induction W with
 |nil=>rfl
 |cons z W a=>
  grind
def JB(W:LII)(j:Int):(gP (kW W) (xW W) (.inl j)).getD (.int 0)=.int (nW W j):=by
 rw[JA];unfold nW
 cases (W.find? λz=>z.1==j) <;> rfl
def vY(W:LII)(z:Int×Int):LII:=upW W z.1 (nW W z.1+z.2)
def wts(L:LII):LII:=L.foldl vY []
structure WOk(W L:LII):Prop where
 nd:(W.map (·.1)).Nodup
 ks:∀j,j∈W.map (·.1)↔j∈L.map (·.1)
 vs:∀z∈W,z.2=wt L z.1
 ln:Z W<=Z L
def JC(L:LII)(z:Int×Int)(j:Int):wt (L++[z]) j=wt L j+if z.1=j then z.2 else 0:=by
 unfold wt;rw[i5,ba,sum_append]
 congr 1
 by_cases h:z.1=j
 .rw[if_pos h,ot (by simp[h])];simp
 .rw[if_neg h,w9 (by simp[h])];rfl
def DR{j:Int}(h:j∉L.map (·.1)):wt L j=0:=by
 unfold wt
 rw[filter_eq_nil_iff.mpr λz hz=>by
  simp only[beq_iff_eq]
  grind]
 rfl
def WOk.get{W L:LII}(h:WOk W L)(j:Int):nW W j=wt L j:=by
 unfold nW
 cases e:W.find? _ with
 |none=>
  have hn:j∉W.map (·.1):=λq=>by
   grind
  rw[DR λq=>hn ((h.ks j).mpr q)]
  rfl
 |some z=>
  have a:z.1=j:=by grind
  change z.2=_;rw[h.vs z (w5 e),a]
def WOk.step{W L:LII}(h:WOk W L)(z:Int×Int):WOk (vY W z) (L++[z]):=by
 unfold vY upW;rw[h.get]
 by_cases d:W.any (λy=>y.1==z.1)=ac
 .rw[if_pos d]
  have f:(W.map λy=>if y.1=z.1 then (y.1,wt L z.1+z.2,) else y).map (·.1)=W.map (·.1):=by
   rw[map_map];show map_congr_left λy _=>?_;change(if y.1=z.1 then _ else y).1=_
   split <;> rfl
  show(by rw[f];show h.nd,λj=>?_,λy c=>?_,by rw[ay,aS];have:=h.ln;lia)
  .rw[f,h.ks j,ba,bz];show(.inl,λq=>q.elim id λq=>?_);have(y,c,e):=any_eq_true.mp d;have g:j=z.1:=by simpa using q
   rw[g,<- (beq_iff_eq.mp e)];show(h.ks _).mp (aH.mpr (y,c,rfl))
  .have(x,l,ex):=aH.mp c;rw[JC]
   by_cases e:x.1=z.1
   .rw[if_pos e]at ex;rw[<- ex,if_pos e.symm,e]
   .rw[if_neg e]at ex;rw[<- ex,if_neg λq=>e q.symm,h.vs x l]
    lia
 .rw[if_neg d]
  have hn : z.1∉W.map (·.1):=λq=>d (by
   have(y,c,e):=aH.mp q;show any_eq_true.mpr (y,c,by simp[e]))
  show(?_,λj=>?_,λy c=>?_,by rw[aS,aS];have:=h.ln;change _+1<=_+1;lia)
  .rw[ba];show eO.mpr (h.nd,by simp,λa ha b i=>?_);have:b=z.1:=by simpa using i
   rw[this];show λq=>hn (q▸ha)
  .rw[ba,ba,bz,bz,h.ks j];rfl
  .rw[JC]
   rcases bz.mp c with q |q
   .have ne:z.1≠y.1:=λe=>hn (e▸aH.mpr (y,q,rfl));rw[if_neg ne,h.vs y q]
    lia
   .have:y=(z.1,wt L z.1+z.2,):=by simpa using q
    rw[this,if_pos rfl]
def qh(L:LII):WOk (wts L) L:=by
 have go:∀(post pre W:List _),WOk W pre->WOk (post.foldl vY W) (pre++post):=by
  intro post
  induction post with
  |nil=>intro pre W h;rw[bO];show h
  |cons z post a=>
   intro pre W h;have:=a _ _ (h.step z);rw[cK]at this;show this
 show go L [] [] (fA,λ_=>Iff.rfl,λz h=>(dD h).elim,aM _)
def JD(L:LII)(g:Z L<=100000):vM [.lst (L.map itD)]=aa (.kd (kW (wts L)) (xW (wts L))):=by
 apply gN;apply aj;show He rfl ?_;apply aj;show dC L itD (λpre M=>∃a b,M=[.im _,.ownd (kW (wts pre)) (xW (wts pre)),a,b]) rfl (_,_,rfl) ?_ ?_
 .rintro pre z post M e ⟨a,b,rfl⟩;show(_,rfl,?_);change wp _ [.im _,.ownd _ _,.im _,.im _] _;have h:Z pre<=Z L:=by rw[e,aS];lia
  have f:=(qh pre).ln
  have d:wts (pre++[z])=upW (wts pre) z.1 (nW (wts pre) z.1+z.2):=by
   unfold wts;rw[eP];rfl
  rw[d];generalize wts pre=W at f
  have c:pT 1 (ae 2) (kI 0) [.im (.lst (L.map itD)),.ownd (kW W) (xW W),.im (.int z.1),.im (.int z.2)]=aa (.int (nW W z.1)):=by
   change aa ((gP _ _ _).getD _)=_;rw[JB]
  show He (o:=.nx [.im _,.ownd _ _,.im (.int z.1),.im (.int z.2)]) ?_ (_,_,rfl);unfold jy;rw[ao c rfl gm,aA];change(if Z (kW W)<16777216 then aa (Fl.nx [.im _,.ownd _ _,.im _,.im _]) else ab)=_;rw[if_pos (by unfold kW;rw[ay];lia),Vo W z.1 _,Vp]
 .rintro M ⟨a,b,rfl⟩;show dG rfl (dH rfl)
def opI(es:LOB)(L:LII):LII:=L.filter λz=>opn es z.1
def hv(es:LOB)(L:LII)(lack:Int):LI0:=((wts (opI es L)).filter λz=>decide (z.2≥lack)).map (·.1)
def JE(h:InN es.length L)(d:Z L<=100000)(lack:Int):vQ [.lst (L.map itD),.lst (es.map shD),.int lack]=aa (.lst ((hv es L lack).map D.int)):=by
 have c:Z (opI es L)<=Z L:=gz _ _;have ok:=qh (opI es L);have b:=ok.ln;apply gN;apply aj;show bn (aF (ap (bT (ds:=(opI es L).map itD) ?_) rfl) (JD _ (by lia))) ?_
 .show eG L itD _ itD rfl (by lia) λz hz=>?_;have a:=h z hz;show dL rfl (bp (ao (be rfl (be rfl rfl rfl) (ju a.1 a.2.1)) rfl (DQ es z.1))) λ_=>rfl
 generalize hW:wts _=W at ok b;show iQ ?_ (iR rfl);unfold hv;rw[hW,map_map];show eG W (λz=>D.int z.1) _ _ ?_ (by lia) λz hz=>?_
 .change aa _=_;unfold kW;rw[map_map];rfl
 .show dL rfl (bp (ao ?_ rfl Hk)) λ_=>rfl;change gP _ _ _=_;rw[JA,HR W ok.nd z hz];rfl
abbrev tps(es:LOB):Prt->List (Int×Bool)
 |.inn t=>if opn es t then [(t,ac,)] else []
 |.out t=>if opn es t then [(t,af,)] else []
 |.least k L=>(hv es L (k-cF (·==aa ac) es L)).map λt=>(t,ac,)
 |.most k L=>(hv es L (cF (λe=>!(e==aa af)) es L-k)).map λt=>(t,af,)
def vZ(lack:Int):Z (hv es L lack)<=Z L:=by
 unfold hv;rw[ay];have a:=gz (λz:Int×Int=>decide (z.2≥lack)) (wts (opI es L));have h2:=(qh (opI es L)).ln;have b:Z (opI es L)<=Z L:=gz _ _
 lia
def Vq(p:Prt)(h:p.Ok (Z es))(a:fo M=aa p.obj)(ha:fa M=aa [.lst (es.map shD)]):
  bh (aN "In" "tips" CU fo fa) (bh (aN "Out" "tips" Da fo fa) (bh (aN "Least" "tips" C0 fo fa) (aN "Most" "tips" C6 fo fa))) M=aa (.lst ((tps es p).map prD)):=by
 cases p with
 |inn t=>
  show dQ ((cy a rfl ha).trans (cS (cR (lT (bp (ao (be rfl rfl (ju h.1 h.2)) rfl (DQ es t))) (λe=>?_) λe=>?_))))
  .change _=aa (D.lst ((if opn es t then _ else []).map prD));rw[if_pos e];rfl
  .change _=aa (D.lst ((if opn es t then _ else []).map prD));rw[if_neg (by grind)]
   rfl
 |out t=>
  show bI (bJ a (by decide)) (dQ ((cy a rfl ha).trans (cS (cR (lT (bp (ao (be rfl rfl (ju h.1 h.2)) rfl (DQ es t))) (λe=>?_) λe=>?_)))))
  .change _=aa (D.lst ((if opn es t then _ else []).map prD));rw[if_pos e];rfl
  .change _=aa (D.lst ((if opn es t then _ else []).map prD));rw[if_neg (by grind)]
   rfl
 |least k L=>
  have b:=vZ (es:=es) (L:=L) (k-cF (·==aa ac) es L);have h2:=h.2;show bI (bJ a (by decide)) (bI (bJ a (by decide)) (dQ ((cy a rfl ha).trans ?_)));apply gN;apply aj;show bn (ao rfl (aF rfl (Du h.1 h.2)) jX) ?_;show iQ ?_ (iR rfl);change _=aa (((hv es L _).map λt=>_).map prD);rw[map_map]
  show gh _ D.int _ (e7 (aF rfl (JE h.1 h.2 _)) rfl) (by lia) λt _=>fT rfl rfl rfl
 |most k L=>
  have b:=vZ (es:=es) (L:=L) (cF (λe=>!(e==aa af)) es L-k);have h2:=h.2;show bI (bJ a (by decide)) (bI (bJ a (by decide)) (bI (bJ a (by decide)) ((cy a rfl ha).trans ?_)));apply gN;apply aj;show bn (ao (aF rfl (Dv h.1 h.2)) rfl jX) ?_;show iQ ?_ (iR rfl);change _=aa (((hv es L _).map λt=>_).map prD);rw[map_map];show gh _ D.int _ (e7 (aF rfl (JE h.1 h.2 _)) rfl) (by lia) λt _=>fT rfl rfl rfl
abbrev neg(z:Int×Bool):Int×Bool:=(z.1,!z.2,)
abbrev pnx(es:LOB)(p:Prt):Option (List (Int×Bool))->List (Int×Bool)
 |none=>tps es p
 |some l=>l.filter λz=>decide (z∈tps es p)
abbrev pst(es:LOB)(a:Option (List (Int×Bool)))(p:Prt):Option (List (Int×Bool)):=if p.sure es then a else aa (pnx es p a)
abbrev sS:Option (List (Int×Bool))->D
 |none=>.non
 |some l=>.lst (l.map prD)
def JF(es:LOB):∀G:List Prt,G.foldl (pst es) (aa [])=aa []
 | []=>rfl
 |p::G=>by
  have:pst es (aa []) p=aa []:=by unfold pst;split <;> rfl
  rw[fL,this];show JF es G
def Vr(h:p.Ok (Z es)):Z (tps es p)<=100000:=by
 cases p with
 |inn t=>
  change(if opn es t then _ else []).length<=100000;split
  .show(by decide:1<=100000)
  .show cj _
 |out t=>
  change(if opn es t then _ else []).length<=100000;split
  .show(by decide:1<=100000)
  .show cj _
 |least k L=>unfold tps;rw[ay];show cV (vZ _) h.2
 |most k L=>unfold tps;rw[ay];show cV (vZ _) h.2
def JG(x:Int×Bool)(l:List (Int×Bool)):fU (prD x) (.lst (l.map prD))=aa (.bl (decide (x∈l))):=by
 have e:∀l:List _,dB (prD x) (l.map prD)=aa (decide (x∈l)):=by
  intro l
  induction l with
  |nil=>rfl
  |cons z l a=>
   change((deq 19 _ _).bind λb=>(dB _ _).map λr=>b || r)=_;rw[show deq 19 _ _=aa (z.1==x.1 && (z.2==x.2 && ac))from rfl,a];change aa _=_
   congr 1
   grind
 change((dB _ _).map D.bl)=_
 grind
abbrev JH:Option (List (Int×Bool))->LD ⊕ D
 |none=>.inr .non
 |some l=>.inl (l.map prD)
abbrev prs(G:List Prt)(es:LOB):Option (List (Int×Bool)):=(G.foldl (pst es) ab).map λl=>l.map neg
abbrev kRN(x:LD ⊕ D):Fl->Prop
 |.rtO ds=>x=.inl ds
 |.rt d=>d.scalar=ac/\x=.inr d
 | _=>False
def Vs{F:MF3}{x:LD ⊕ D}(h:wp F (eZ N ds) (kRN x)):zO N F ds=aa x:=by
 have(r,e,q):=h;change(F _).bind Ik=aa x;rw[e,aA]
 cases r with
 |rtO us=>rw[show x=.inl us from q];rfl
 |rt d=>
  have(a,b):=q;rw[b]
  show if_pos a
 | _=>show q.elim
def Vt(G:List Prt)(x:∀p∈G,p.Ok (Z es)):Dd [.lst (G.map Prt.obj),.lst (es.map shD)]=aa (JH (prs G es)):=by
 apply Vs;generalize m:D.lst _=q;apply aj;show bn rfl ?_;apply aj;show dC G Prt.obj (λpre M=>∃h i,M=[.im q,.im _,.im (sS (pre.foldl (pst es) ab)),h,i]/\∀l,pre.foldl (pst es) ab=aa l->Z l<=100000) (by subst m;rfl) ⟨_,_,rfl,λl e=>by nomatch e⟩ ?_ ?_
 .rintro pre p post M u ⟨h,i,rfl,c⟩;have n:=x p (by rw[u];simp);have b:G.foldl (pst es) ab=post.foldl (pst es) (pst es (pre.foldl (pst es) ab) p):=by rw[u,eP,fL]
  rw[eP,fL,foldl_nil];generalize pre.foldl _ ab=a at c b;show(_,rfl,?_);show aR (nu (cH (UU p n rfl rfl) rfl)) (λe=>?_) λe=>bK ?_
  .rw[wY]at e;have f:pst es a p=aa (pnx es p a):=by unfold pst;rw[if_neg (by rw[e];show bM)]
   apply aj;show bn (Vq p n rfl rfl) ?_;apply aj
   have v:(vIf (mB (m2 dIs (ae 2) kN)) (ae 4) (aP (bj 1 [4] (aV (ae 2)) (ax 0) (mB (m2 fU (ae 0) (ae 1))) (ae 0)))) [.im q,.im (.lst (es.map shD)),.im (sS a),.im p.obj,.im (.lst ((tps es p).map prD))]=aa (sS (pst es a p))/\∀l,pst es a p=aa l->Z l<=100000:=by
    rw[f]
    cases a with
    |none=>show(rfl,λl e=>by cases e;show(Vr n))
    |some w=>
     have r:=c w rfl;show(lT rfl (λe=>by nomatch e) λ_=>bT (eG w prD _ prD rfl (by lia) λz _=>dL rfl (bp (ao rfl rfl (JG z _))) λ_=>rfl),λl e=>?_);cases e;show cV (gz _ _) r
   show bn v.1 ?_;obtain⟨g,j⟩:∃g,pst es a p=aa g:=(_,f);have d:=v.2;rw[j]at b d ⊢
   cases g with
   |nil=>
    show aR rfl (λ_=>?_) λe=>by nomatch e
    show iQ rfl (?_);unfold prs;rw[b,JF]
    rfl
   |cons z g=>
    show aR rfl (λe=>by nomatch e) λ_=>bK (_,_,rfl,d)
  .rw[Bool.not_eq_false']at e;have f:pst es a p=a:=by unfold pst;rw[if_pos e]
   rw[f];show(_,_,rfl,c)
 .rintro M ⟨h,i,rfl,c⟩;unfold prs;generalize G.foldl _ ab=a at c;apply aj
  cases a with
  |none=>
   show aR rfl (λ_=>(dG rfl (rfl,rfl))) λe=>by nomatch e
  |some l=>
   have r:=c l rfl;show aR rfl (λe=>by nomatch e) λ_=>bK ?_;show iQ ?_ rfl;rw[map_map];show gh l prD _ rfl (by lia) λz _=>fT rfl rfl rfl
def iX(h:opn es t=ac):es.getD t.toNat ab=ab:=by simpa[opn]using h
def JI(h:opn es t=ac):wt (opI es L) t=wt L t:=by
 unfold wt opI;rw[filter_filter]
 grind
def v8{lack:Int}:t∈hv es L lack↔opn es t=ac/\t∈L.map (·.1)/\wt L t≥lack:=by
 have ok:=qh (opI es L);constructor
 .intro h;have(z,hz,rfl):=aH.mp h;have(b,h2):=b7.mp hz;have h2:=of_decide_eq_true h2;have(y,c,a):=aH.mp ((ok.ks z.1).mp (aH.mpr (z,b,rfl)));have(g,d):=b7.mp c;rw[a]at d;show(d,aH.mpr (y,g,a),?_);rw[<- JI d,<- ok.vs z b];show h2
 .rintro⟨b,h2,f⟩;have(y,c,a):=aH.mp h2;have(z,hz,e):=aH.mp ((ok.ks t).mpr (aH.mpr (y,b7.mpr (c,by rw[a];show b),a)));show aH.mpr (z,b7.mpr (hz,decide_eq_true ?_),e);rw[ok.vs z hz,e,JI b];show f
def JJ(es:LOB)(L:LII)(lack:Int):(hv es L lack).Nodup:=by
 unfold hv;show xf ((ou (p:=λz:Int×Int=>decide _)).map (·.1)) (qh _).nd
def DU(z:Int×Int)(L:LII)(t:Int):wt (z::L) t=(if z.1=t then z.2 else 0)+wt L t:=by
 unfold wt
 grind
def wa(q:Option Bool->Bool)(es:LOB)(z:Int×Int)(L:LII):cF q es (z::L)=(if q (es.getD z.1.toNat ab) then z.2 else 0)+cF q es L:=by
 unfold cF
 grind
def DV(h:InN n L)(t:Int):0<=wt L t:=by
 induction L with
 |nil=>show Int.le_refl _
 |cons z L b=>
  have c:=h z az;have h2:=b λy a=>h y (bi _ a);rw[DU]
  grind
def lR{j:Int}{b:Bool}(t0:0<=t)(t1:t<(Z es:Int))(a:0<=j):(put es t.toNat b).getD j.toNat ab=if j=t then aa b else es.getD j.toNat ab:=by
 by_cases e:j=t
 .rw[if_pos e,e];show e8 es b (by lia)
 .rw[if_neg e];show da es b (by lia)
def wb(h:InN es.length L)(t0:0<=t)(t1:t<(Z es:Int))(a:opn es t=ac)(b:Bool):cF (·==aa ac) (put es t.toNat b) L=cF (·==aa ac) es L+if b then wt L t else 0:=by
 induction L with
 |nil=>cases b <;> rfl
 |cons z L d=>
  rw[wa,wa,DU,(d λy c=>h y (bi _ c)),lR t0 t1 (h z az).1]
  by_cases e:z.1=t
  .rw[if_pos e,if_pos e,e,iX a]
   cases b with
   |true=>
    change z.2+(cF _ es L+wt L t)=0+cF _ es L+(z.2+wt L t)
    lia
   |false=>
    change 0+(cF _ es L+0)=0+cF _ es L+0
    lia
  .rw[if_neg e,if_neg e]
   split <;> split <;> lia
def we(h:InN es.length L)(t0:0<=t)(t1:t<(Z es:Int))(a:opn es t=ac)(b:Bool):cF (λe=>!(e==aa af)) (put es t.toNat b) L=cF (λe=>!(e==aa af)) es L-if b then 0 else wt L t:=by
 induction L with
 |nil=>cases b <;> rfl
 |cons z L d=>
  rw[wa,wa,DU,(d λy c=>h y (bi _ c)),lR t0 t1 (h z az).1]
  by_cases e:z.1=t
  .rw[if_pos e,if_pos e,e,iX a]
   cases b with
   |true=>
    change z.2+(cF _ es L-0)=z.2+cF _ es L-0
    lia
   |false=>
    change 0+(cF _ es L-wt L t)=z.2+cF _ es L-(z.2+wt L t)
    lia
  .rw[if_neg e,if_neg e]
   split <;> split <;> lia
def DY(i:p.Ok (Z es))(d:p.sure es=af)(t:Int)(b:Bool):(t,b,)∈tps es p↔(0<=t/\t<(Z es:Int))/\opn es t=ac/\p.sure (put es t.toNat b)=ac:=by
 cases p with
 |inn t0=>
  have(f,g):=i;change _∈(if opn es t0 then _ else [])↔_
  have es':0<=t->t<_->(Prt.sure _ (.inn t0)=ac↔(if t0=t then aa b else es.getD t0.toNat ab)=aa ac):=λx y=>by
   rw[<- lR x y f];show beq_iff_eq
  have d:¬es.getD t0.toNat ab=aa ac:=λq=>by
   have:(es.getD t0.toNat ab==aa ac)=af:=d;rw[q]at this;show absurd this (by decide)
  constructor
  .intro h;split at h
   .rename_i c;have:(t,b,)=(t0,ac,):=by simpa using h
    cases this;show((f,g),c,(es' f g).mpr (if_pos rfl))
   .nomatch h
  .rintro⟨⟨x,y⟩,c,a⟩;have a:=(es' x y).mp a
   by_cases e:t0=t
   .rw[if_pos e]at a;cases a;rw[e,if_pos c];show az
   .rw[if_neg e]at a
    show absurd a d
 |out t0=>
  have(f,g):=i;change _∈(if opn es t0 then _ else [])↔_
  have es':0<=t->t<_->(Prt.sure _ (.out t0)=ac↔(if t0=t then aa b else es.getD t0.toNat ab)=aa af):=λx y=>by
   rw[<- lR x y f];show beq_iff_eq
  have d:¬es.getD t0.toNat ab=aa af:=λq=>by
   have:(es.getD t0.toNat ab==aa af)=af:=d;rw[q]at this;show absurd this (by decide)
  constructor
  .intro h;split at h
   .rename_i c;have:(t,b,)=(t0,af,):=by simpa using h
    cases this;show((f,g),c,(es' f g).mpr (if_pos rfl))
   .nomatch h
  .rintro⟨⟨x,y⟩,c,a⟩;have a:=(es' x y).mp a
   by_cases e:t0=t
   .rw[if_pos e]at a;cases a;rw[e,if_pos c];show az
   .rw[if_neg e]at a
    show absurd a d
 |least k L=>
  have hi:=i.1;have d:=of_decide_eq_false d;change _∈(hv es L _).map _↔(_/\_/\decide _=ac);rw[decide_eq_true_iff];constructor
  .intro h;have(u,hm,e):=aH.mp h;cases e;have(c,hn,l):=v8.mp hm;have(z,hz,j):=aH.mp hn;have hr:=hi z hz;rw[j]at hr;show((hr.1,hr.2.1),c,?_);rw[wb hi hr.1 hr.2.1 c,if_pos rfl];lia
  .rintro⟨⟨x,y⟩,c,a⟩;simp only[wb hi x y c]at a
   cases b with
   |false=>rw[if_neg (by decide)]at a;lia
   |true=>
    show aH.mpr (t,v8.mpr (c,?_,by lia),rfl)
    by_cases q:t∈L.map (·.1)
    .show q
    .rw[DR q]at a
     lia
 |most k L=>
  have hi:=i.1;have d:=of_decide_eq_false d;change _∈(hv es L _).map _↔(_/\_/\decide _=ac);rw[decide_eq_true_iff];constructor
  .intro h;have(u,hm,e):=aH.mp h;cases e;have(c,hn,l):=v8.mp hm;have(z,hz,j):=aH.mp hn;have hr:=hi z hz;rw[j]at hr;show((hr.1,hr.2.1),c,?_);rw[we hi hr.1 hr.2.1 c,if_neg (by decide)];lia
  .rintro⟨⟨x,y⟩,c,a⟩;rw[we hi x y c]at a
   cases b with
   |true=>rw[if_pos rfl]at a;lia
   |false=>
    show aH.mpr (t,v8.mpr (c,?_,by lia),rfl)
    by_cases q:t∈L.map (·.1)
    .show q
    .rw[DR q]at a
     lia
def wg(c:p.Ok (Z es))(t0:0<=t)(t1:t<(Z es:Int))(d:opn es t=ac)(b:Bool)(h:p.sure es=ac):p.sure (put es t.toNat b)=ac:=by
 have f:=iX d
 cases p with
 |inn u=>
  have a:=beq_iff_eq.mp h;change((put es t.toNat b).getD u.toNat ab==aa ac)=ac;rw[lR t0 t1 c.1,if_neg (λe=>by rw[e,f]at a;nomatch a),a]
  rfl
 |out u=>
  have a:=beq_iff_eq.mp h;change((put es t.toNat b).getD u.toNat ab==aa af)=ac;rw[lR t0 t1 c.1,if_neg (λe=>by rw[e,f]at a;nomatch a),a]
  rfl
 |least k L=>
  have h:=of_decide_eq_true h;change decide _=ac;have:=DV c.1 t;rw[decide_eq_true_iff,wb c.1 t0 t1 d]
  grind
 |most k L=>
  have h:=of_decide_eq_true h;change decide _=ac;have:=DV c.1 t;rw[decide_eq_true_iff,we c.1 t0 t1 d]
  grind
def Vu(es:LOB)(p:Prt):((tps es p).map (·.1)).Nodup:=by
 have one:∀(q:Bool) (z:Int×Bool),((if q then [z] else []).map (·.1)).Nodup:=λq z=>by
  cases q
  .show fA
  .show b8.mpr (λh=>(dD h).elim,fA)
 cases p with
 |inn t=>show one _ _
 |out t=>show one _ _
 |least k L=>
  change(((hv es L _).map λt=>(t,ac,)).map (·.1)).Nodup;rw[map_map]
  show(map_id _).symm▸JJ es L _
 |most k L=>
  change(((hv es L _).map λt=>(t,af,)).map (·.1)).Nodup;rw[map_map];show(map_id _).symm▸JJ es L _
abbrev D0(es:LOB)(G:List Prt):Option (List (Int×Bool))->Prop
 |none=>∀p∈G,p.sure es=ac
 |some l=>(∃p∈G,p.sure es=af)/\(∀z,z∈l↔∀p∈G,p.sure es=af->z∈tps es p)/\(l.map (·.1)).Nodup
def JK(es:LOB)(G:List Prt):D0 es G (G.foldl (pst es) ab):=by
 have go:∀(post pre:List Prt) b,D0 es pre b->D0 es (pre++post) (post.foldl (pst es) b):=by
  intro post
  induction post with
  |nil=>intro pre b h;rw[bO];show h
  |cons p post j=>
   intro pre b h;have:=j (pre++[p]) (pst es b p) ?_
   .grind
   unfold pst
   cases f:p.sure es with
   |true=>
    have hm:∀q,q∈pre++[p]->q∈pre\/q=p:=λq c=>(bz.mp c).imp id λe=>by simpa using e
    cases b with
    |none=>show λq c=>(hm q c).elim (h q) λe=>e▸f
    |some l=>
     have((q,c,i),h2,g):=h;show((q,bV _ c,i),λz=>?_,g)
     grind
   |false=>
    have d:p∈pre++[p]:=by simp
    cases b with
    |none=>
     show((p,d,f),λz=>?_,Vu es p);show(λa q c e=>?_,λa=>a p d f)
     rcases bz.mp c with w |w
     .rw[h q w]at e;grind
     .have:q=p:=by simpa using w
      rw[this];show a
    |some l=>
     have(_,h2,g):=h;show((p,d,f),λz=>?_,xf ((ou (p:=λz=>decide (z∈tps es p))).map (·.1)) g);change z∈l.filter _↔_
     grind
 show go G [] ab λp d=>(dD d).elim
nonrec def Pr:=Int×Bool
nonrec abbrev LLP:=List (List Pr)
nonrec def Wy:=Bool×Nat
nonrec def Wt:=List (Pr×List Wy)
def wyS(b:Bool):Str:=cond b "bar" "rule"
def wyD(y:Wy):D:=.tup [.str (wyS y.1),.int y.2]
def wyK(y:Wy):List Key:=[.inr (wyS y.1),.inl y.2]
def eM(b:List Pr):D:=.lst (b.map prD)
def brP(z:Pr):Prt:=if z.2 then .inn z.1 else .out z.1
def brg(b:List Pr):List Prt:=b.map brP
variable{y:Wy}
def D3{x:Wy}(h:wyK x=wyK y):x=y:=by
 have(a,i):=x;have(b,j):=y;have(c,h2):=qK h;have f:=ub (qK h2).1;have d:i=j:=by lia
 subst d;have e:wyS a=wyS b:=Sum.inr.inj c
 cases a <;> cases b <;> first |rfl |show absurd e (by decide)
variable{p q:Pr}
def JL(h:gx p.1 p.2=gx q.1 q.2):p=q:=by
 have(a,i):=p;have(b,j):=q;have(c,h2):=qK h
 grind
abbrev gE(p:Pr)(y:Wy):Wt->Wt
 | []=>[(p,[y],)]
 |q::tw=>if q.1=p then (q.1,q.2++[y],)::tw else q::gE p y tw
abbrev gU(p:Pr)(y:Wy):Wt->Wt
 | []=>[]
 |q::tw=>if q.1=p then (q.1,q.2.erase y,)::tw else q::gU p y tw
def look(tw:Wt)(p:Pr):List Wy:=match tw with
 | []=>[]
 |q::tw=>if q.1=p then q.2 else look tw p
def wtW(tw:Wt):Wss:=tw.map λq=>(gx q.1.1 q.1.2,q.2.map wyD,)
def JM(p:Pr)(y:Wy):∀tw:Wt,gt (gx p.1 p.2) (wyD y) (wtW tw)=wtW (gE p y tw)
 | []=>rfl
 |q::tw=>by
  change gt _ _ ((gx q.1.1 q.1.2,q.2.map wyD,)::wtW tw)=_;unfold gt gE
  by_cases e:q.1=p
  .rw[if_pos (by rw[e]),if_pos e];change _=(_,(q.2++[y]).map wyD,)::wtW tw
   grind
  .rw[if_neg (λz=>e (JL z)),if_neg e,JM p y tw];rfl
def ixW(p:Pr):∀tw:Wt,(aU (gx p.1 p.2) ((wtW tw).map (·.1))=ab/\look tw p=[])\/∃j q,aU (gx p.1 p.2) ((wtW tw).map (·.1))=aa j/\tw[j]?=aa q/\q.1=p/\look tw p=q.2/\∀y,gU p y tw=tw.set j (q.1,q.2.erase y,)
 | []=>.inl (rfl,rfl)
 |q::tw=>by
  change(aU _ (gx q.1.1 q.1.2::(wtW tw).map (·.1))=ab/\_)\/∃j b,aU _ (gx q.1.1 q.1.2::(wtW tw).map (·.1))=aa j/\_;unfold aU look
  by_cases e:q.1=p
  .show .inr (0,q,if_pos (by rw[e]),rfl,e,if_pos e,λy=>?_);unfold gU
   grind
  .rw[if_neg (λz=>e (JL z)),if_neg e]
   rcases ixW p tw with⟨a,h2⟩ |⟨j,b,a,h2,c,d,f⟩
   .grind
   .show .inr (j+1,b,by rw[a];rfl,by rw[g4];show h2,c,d,λy=>?_);unfold gU
    grind
def wj(ds:LD):(lsO ds).items=aa ds:=zG ds
def Vv(tw:Wt)(p:Pr):(wsO (wtW tw)).got (gx p.1 p.2)=aa ((look tw p).map wyD):=by
 unfold wsO O.got;dsimp only
 rcases ixW p tw with⟨a,h2⟩ |⟨j,q,a,h2,c,b,d⟩
 .grind
 .rw[a,b];dsimp only;rw[cu,wtW,cu,h2];show wj _
variable{tw:Wt}{pp:Xp}{g:MF1}
def D4(h:pp M=aa (wsO (wtW tw),R,))(a:g M=aa (prD p)):iu pp g M=aa ((look tw p).map wyD):=by
 unfold iu;rw[h,aA,a,aA];show Vv tw p
def Vw(h:pp M=aa (wsO (wtW tw),R,))(e:g M=aa (prD p))(i:look tw p≠[]):∃a,k5 pp g M=aa (lsO ((look tw p).map wyD),a,)/\∀y,a (lsO (((look tw p).erase y).map wyD))=R (wsO (wtW (gU p y tw))):=by
 rcases ixW p tw with⟨b,h2⟩ |⟨j,q,b,h2,f,c,d⟩
 .grind
 .show(λx=>R (.dT ((wtW tw).map (·.1)) (((wtW tw).map λp=>lsO p.2).set j x)),?_,λy=>?_)
  .unfold k5;rw[h,aA,e,aA];change((wsO _).key (gx p.1 p.2)).map _=_;unfold wsO O.key;dsimp only;rw[b,aA,cu,wtW,cu,h2,c];rfl
  .rw[d y,c];unfold wsO wtW;rw[g8,g8,g8,nJ (by grind)]
def JN(z y:Wy):deq 19 (wyD z) (wyD y)=aa (z==y):=by
 rw[show deq 19 _ _=aa ((wyS z.1==wyS y.1) && ((_==_) && ac))from rfl]
 congr 1
 have(a,i):=z;have(b,j):=y;apply gX.mpr;simp only[b5,beq_iff_eq,Prod.mk.injEq,and_true];constructor
 .rintro⟨u,v⟩;show(?_,by lia)
  cases a <;> cases b <;> first |rfl |show absurd u (by decide)
 .grind
def D5(y:Wy):∀X2:List Wy,dB (wyD y) (X2.map wyD)=aa (decide (y∈X2))
 | []=>rfl
 |z::X2=>by
  change((deq 19 _ _).bind λb=>(dB _ _).map λr=>b || r)=_;rw[JN,D5 y X2]
  grind
def JO(y:Wy):∀X2:List Wy,y∈X2->(X2.map wyD).eraseIdx ((X2.map wyD).findIdx (isE (wyD y)))=(X2.erase y).map wyD
 | [],h=>nomatch h
 |z::X2,h=>by
  have a:isE (wyD y) (wyD z)=(z==y):=by
   unfold isE;rw[JN]
   grind
  rw[bE,qH,a,erase_cons]
  cases e:z==y with
  |true=>rfl
  |false=>
   have:y∈X2:=by
    grind
   change wyD z::(X2.map wyD).eraseIdx _=_;rw[JO y X2 this];rfl
def Vx{X2:List Wy}(h:y∈X2):(lsO (X2.map wyD)).remd (wyD y)=aa (lsO ((X2.erase y).map wyD)):=by
 unfold O.remd;rw[wj,aA,D5,decide_eq_true h,if_pos rfl,JO y X2 h];rfl
def Vy(y:Wy)(X2:List Wy):fU (wyD y) (.lst (X2.map wyD))=aa (.bl (decide (y∈X2))):=by
 change((dB _ _).map D.bl)=_;rw[D5];rfl
def gys(r b:Nat):List Wy:=(bu r).map (λi=>(af,i,))++(bu b).map λi=>(ac,i,)
def bQ(B:LRu)(bs:LLP)(y:Wy):List Prt:=cond y.1 (brg (bs.getD y.2 [])) (((B[y.2]?).map grd).getD [])
def gdD(B:LRu)(bs:LLP)(y:Wy):D:=.lst ((bQ B bs y).map Prt.obj)
def JP(r b:Nat):(gys r b).Nodup:=by
 show eO.mpr ((xg _ (λa b h e=>h (tR e).2) nodup_range),(xg _ (λa b h e=>h (tR e).2) nodup_range),?_)
 grind
variable{r:Nat}
def fh{b:Nat}:y∈gys r b↔y.2<cond y.1 b r:=by
 unfold gys;have(a,i):=y
 cases a <;> simp
def Vz(r b:Nat):Z (gys r b)=r+b:=by unfold gys;simp
def D6(r b:Nat):gys r (b+1)=gys r b++[(ac,b,)]:=by unfold gys;rw[range_succ];simp
def D7{b c:Type}[DecidableEq c]{f:b->c}(d:∀x y,f x=f y->x=y):∀{l:List b} {j:Nat} {a:b},l.Nodup->l[j]?=aa a->aU (f a) (l.map f)=aa j
 | [],_,_,_,h=>by cases h
 |x::l,0,a,_,h=>by
  cases h
  show if_pos rfl
 |x::l,j+1,a,nd,h=>by
  have(g,i):=b8.mp nd;rw[bE];unfold aU;rw[if_neg (λe=>g (by grind)),D7 d i h];rfl
structure Spt where
 es:LOB
 st:LD
 bs:LLP
 tw:Wt
 wt:List Wy
 ms:LRu
 pp:LD
 ct:Int
 en:Bool
def Spt.S(B:LRu)(s:Spt):Spr:=(s.es,s.st,s.bs.map eM,(gys B.length (Z s.bs)).map wyK,(gys B.length (Z s.bs)).map (gdD B s.bs),wtW s.tw,s.wt.map wyD,.lst (s.ms.map mkD),[("paper",lsO s.pp,),("count",.fz (.int s.ct),),("ended",.fz (.bl s.en),)])
def VA{s:Spt}(c:y∈gys B.length (Z s.bs))(b:g (.deep (.at l (s.S B).o)::M)=aa (wyD y)):pB (k5 (aX "Seeking" "guards" (aI 0)) g) (.deep (.at l (s.S B).o)::M)=aa (gdD B s.bs y):=by
 have(j,a):=oq c;unfold pB k5;rw[Jg,aA,b,aA];change(((O.dT ((gys B.length (Z s.bs)).map wyK) (((gys B.length (Z s.bs)).map _).map .fz)).key (wyK y)).map _).bind _=_;unfold O.key;dsimp only;rw[(D7 (λ_ _=>D3) (JP _ _) a),aA,cu,cu,a];rfl
def sT(y:Wy)(tw:Wt)(p:Prt):Wt:=(nmL p).foldl (λtw t=>gE (t,gT p,) y tw) tw
def fZ(y:Wy)(ps:List Prt)(tw:Wt):Wt:=ps.foldl (sT y) tw
def VB(y:Wy)(p:Prt)(tw:Wt):vT (wyD y) (wtW tw) p=wtW (sT y tw p):=by
 unfold vT sT;generalize nmL p=ts
 induction ts generalizing tw with
 |nil=>rfl
 |cons t ts a=>rw[fL,fL,JM (t,gT p,),a]
def wm(y:Wy)(ps:List Prt)(tw:Wt):nR (wyD y) ps (wtW tw)=wtW (fZ y ps tw):=by
 unfold nR fZ
 induction ps generalizing tw with
 |nil=>rfl
 |cons p ps a=>rw[fL,fL,VB,a]
abbrev nX:Nat->LRu->Wt->Wt
 | _,[],tw=>tw
 |i,r::B,tw=>nX (i+1) B (fZ (af,i,) (grd r) tw)
def JQ:∀(B:LRu) (i:Nat) (s:Spr) (tw:Wt),s.ws=wtW tw->(e9 i B).foldl l7 s=(s.es,s.st,s.bs,s.gk++(e9 i B).map (λp=>nU p.1),s.gd++(e9 i B).map (λp=>.lst ((grd p.2).map Prt.obj)),wtW (nX i B tw),s.wt++(e9 i B).map (λp=>sP p.1),s.mks,s.tl)
 | [],i,s,tw,h=>by
  have(a,b,c,d,e,f,g,m,tl):=s;subst h;simp[e9]
  rfl
 |r::B,i,s,tw,h=>by
  rw[e9,fL,JQ B _ _ (fZ (af,i,) _ tw) (by rw[<- wm,<- h];rfl)];simp[l7,vU,nX]
def JR{a:Type}(f:Nat->a)(B:LRu):(e9 0 B).map (λp=>f p.1)=(bu (Z B)).map f:=by
 apply mo;intro j;rw[cu,sQ,cu]
 grind
def spT(es:LOB)(B:LRu):Spt:=(es,[],[],nX 0 B [],(bu (Z B)).map λi=>(af,i,),dM B,[],0,af)
def VC(es:LOB)(B:LRu):spI es B={(spT es B).S B with tl:=[]}:=by
 unfold spI;rw[JQ B 0 _ [] rfl,JR nU,JR sP];dsimp only[Spt.S,spT,sp0,gys];simp only[oA,map_nil,length_nil,range_zero,bO,map_map]
 congr 1
 apply mo;intro j;rw[cu,sQ,cu]
 by_cases h:j<Z B
 .rw[qB h];simp[gdD,bQ,b6 h]
 .rw[gy (by lia),gy (by rw[cC];lia)];rfl
def sU(p q:Pr)(y:Wy):∀tw:Wt,look (gE p y tw) q=if q=p then look tw q++[y] else look tw q
 | []=>by
  change(if p=q then [y] else [])=if q=p then []++[y] else []
  grind
 |r::tw=>by
  by_cases e:r.1=p
  .rw[gE,if_pos e];change(if r.1=q then r.2++[y] else look tw q)=if q=p then (if r.1=q then r.2 else look tw q)++[y] else (if r.1=q then r.2 else look tw q)
   grind
  .rw[gE,if_neg e];change(if r.1=q then r.2 else look _ q)=if q=p then (if r.1=q then r.2 else look tw q)++[y] else (if r.1=q then r.2 else look tw q);rw[(sU p q y tw)]
   grind
def JS(p q:Pr)(y:Wy):∀tw:Wt,look (gU p y tw) q=if q=p then (look tw q).erase y else look tw q
 | []=>by
  split <;> rfl
 |r::tw=>by
  by_cases e:r.1=p
  .rw[gU,if_pos e];change(if r.1=q then r.2.erase y else look tw q)=if q=p then (if r.1=q then r.2 else look tw q).erase y else (if r.1=q then r.2 else look tw q)
   grind
  .rw[gU,if_neg e];change(if r.1=q then r.2 else look _ q)=if q=p then (if r.1=q then r.2 else look tw q).erase y else (if r.1=q then r.2 else look tw q);rw[(JS p q y tw)]
   grind
nonrec def cn(tw:Wt)(p:Pr)(y:Wy):Nat:=(look tw p).count y
def gV:y∈look tw p↔0<cn tw p y:=count_pos_iff.symm
def VD{z:Wy}(h:z≠y):cn (gE p y tw) q z=cn tw q z:=by
 unfold cn;rw[sU];split
 .rw[count_append,count_singleton,if_neg (by rw[beq_iff_eq];show λe=>h e.symm)];rfl
 .rfl
def nY{y z:Wy}(h:z≠y)(q:Pr):∀(ps:List Prt) (tw:Wt),cn (fZ y ps tw) q z=cn tw q z
 | [],_=>rfl
 |p::ps,tw=>by
  change cn (fZ y ps _) q z=_;rw[nY h q ps];unfold sT;generalize nmL p=ts
  induction ts generalizing tw with
  |nil=>rfl
  |cons t ts a=>rw[fL,a,VD h]
def VE(y:Wy)(tw:Wt)(z:Pr):sT y tw (brP z)=gE z y tw:=by
 have(t,b):=z
 cases b <;> rfl
def D8(y:Wy)(q:Pr):∀(b:List Pr) (tw:Wt),cn (fZ y (brg b) tw) q y=cn tw q y+b.count q
 | [],_=>rfl
 |z::b,tw=>by
  change cn (fZ y (brg b) _) q y=_;rw[D8 y q b,VE,count_cons]
  have:cn (gE z y tw) q y=cn tw q y+if z==q then 1 else 0:=by
   unfold cn;rw[sU]
   by_cases e:q=z
   .rw[if_pos e,count_append,if_pos (by rw[e];show beq_self_eq_true z),count_singleton,if_pos (beq_self_eq_true y)]
   .rw[if_neg e,if_neg (by rw[beq_iff_eq];show λx=>e x.symm)];rfl
  lia
def k9(y:Wy)(ps:List Pr)(tw:Wt):Wt:=ps.foldl (λtw p=>gU p y tw) tw
def VF(p q:Pr)(y z:Wy)(tw:Wt):cn (gU p y tw) q z=if q=p/\z=y then cn tw q z-1 else cn tw q z:=by
 unfold cn;rw[JS]
 by_cases e:q=p
 .rw[if_pos e]
  by_cases f:z=y
  .rw[if_pos (e,f),f,count_erase_self]
  .rw[if_neg (λx=>f x.2),count_erase_of_ne f]
 .rw[if_neg e,if_neg (λx=>e x.1)]
def D9(q:Pr)(y z:Wy):∀(ps:List Pr) (tw:Wt),ps.Nodup->cn (k9 y ps tw) q z=if q∈ps/\z=y then cn tw q z-1 else cn tw q z
 | [],tw,_=>by rw[if_neg (λx=>nomatch x.1)];rfl
 |p::ps,tw,nd=>by
  have(a,b):=b8.mp nd;change cn (k9 y ps _) q z=_;rw[D9 q y z ps _ b,VF]
  by_cases f:z=y
  .by_cases e:q=p
   .rw[if_neg (λx=>a (by rw[<- e];show x.1)),if_pos (e,f),if_pos (by rw[e];show az,f)]
   .rw[if_neg (λx:q=p/\z=y=>e x.1)]
    by_cases g:q∈ps
    .rw[if_pos (g,f),if_pos (bi _ g,f)]
    .rw[if_neg (λx=>g x.1),if_neg (λx=>by rcases bc.mp x.1 with u |u;show e u;show g u)]
  .rw[if_neg (λx=>f x.2),if_neg (λx=>f x.2),if_neg (λx=>f x.2)]
def VG(h:bU c (wtW tw)):bU c (wtW (gU p y tw)):=by
 have gen:∀tw:Wt,Z (gU p y tw)=Z tw/\∀q∈gU p y tw,∃d∈tw,Z q.2<=Z d.2:=by
  intro tw
  induction tw with
  |nil=>show⟨rfl,λq h=>nomatch h⟩
  |cons r tw f=>
   dsimp only[gU];split
   .show(rfl,λq a=>?_)
    rcases bc.mp a with e |e
    .rw[e];show(r,az,(erase_sublist).length_le)
    .show(q,bi _ e,aM _)
   .show(by rw[cv,f.1];rfl,λq a=>?_)
    rcases bc.mp a with e |e
    .rw[e];show(r,az,aM _)
    .have(d,b,h2):=f.2 q e;show(d,bi _ b,h2)
 have(g,i):=gen tw;show(by unfold wtW;rw[ay,g];have:=h.ln;unfold wtW at this;rwa [ay]at this,λq a=>?_);have(x,j,rfl):=aH.mp a;have(l,b,h2):=i x j;have:=h.al _ (aH.mpr (l,b,rfl));rw[ay]at this ⊢
 lia
def JT{c:Nat}{y:Wy}:∀{ps:List Pr} {tw:Wt},bU c (wtW tw)->bU c (wtW (k9 y ps tw))
 | [],_,h=>h
 | _::ps,_,h=>JT (ps:=ps) (VG h)
def Ea(h:bU c (wtW tw))(p:Pr):Z (look tw p)<=c:=by
 rcases ixW p tw with⟨_,h2⟩ |⟨j,q,b,h2,d,a,e⟩
 .rw[h2];show cj _
 .rw[a];have:=h.al _ (aH.mpr (q,dS h2,rfl))
  rwa [ay]at this
def qi(nd:ns.Nodup)(h:∀x∈ns,0<=x/\x<(n:Int)):Z ns<=n:=by
 by_cases c:Z ns<=n
 .show c
 .have d:∀x∈ns,x∈(bu n).map λ(i:Nat)=>(i:Int):=λx e=>by
   have(a,b):=h x e;show aH.mpr (S x,d5.mpr (by lia),by lia)
  have:=(pL ns _ nd d (by rw[ay,cC];lia)).length_eq;rw[ay,cC]at this
  lia
structure c6(n:Nat)(b:List Pr):Prop where
 nn:∀z∈b,0<=z.1/\z.1<(n:Int)
 nd:(b.map (·.1)).Nodup
variable{b:List Pr}
def c6.pd(h:c6 n b):b.Nodup:=List.Pairwise.of_map _ (λ_ _ z e=>z (by rw[e])) h.nd
def c6.len(h:c6 n b):Z b<=n:=by
 have:Z (b.map (·.1))<=n:=qi h.nd λx a=>by
  have(z,hz,rfl):=aH.mp a;show h.nn z hz
 rwa [ay]at this
def c6.nil(n:Nat):c6 n []:=((λ_ h=>nomatch h),fA)
structure d3(c r:Nat)(bs:LLP)(tw:Wt):Prop where
 wk:bU c (wtW tw)
 vl:∀p,∀y∈look tw p,y∈gys r (Z bs)
 br:∀j,(∀p,cn tw p (ac,j,)=0)\/(∀p,cn tw p (ac,j,)=if p∈bs.getD j [] then 1 else 0)
abbrev wider(tw:Wt):List Pr->List Wy
 | []=>[]
 |p::b=>(p::b).foldl (λX2 q=>X2.filter λy=>decide (y∈look tw q)) (look tw p)
def JU(tw:Wt):∀(b:List Pr) (X2:List Wy),(b.foldl (λX2 q=>X2.filter λy=>decide (y∈look tw q)) X2).Sublist X2/\∀y∈b.foldl (λX2 q=>X2.filter λy=>decide (y∈look tw q)) X2,∀p∈b,y∈look tw p
 | [],X2=>⟨qJ _,λ_ _ _ h=>nomatch h⟩
 |q::b,X2=>by
  have(a,h2):=JU tw b _;show(a.trans ou,λy c p d=>?_)
  rcases bc.mp d with e |e
  .rw[e];show of_decide_eq_true (b7.mp (a.subset c)).2
  .show h2 y c p e
def jD(bs:LLP)(tw:Wt)(y:Wy):Wt:=cond y.1 (k9 y (bs.getD y.2 []) tw) tw
def l8(bs:LLP)(tw:Wt)(b:List Pr):Wt:=(wider tw b).foldl (jD bs) tw
def qj{bs:LLP}(c:∀b∈bs,b.Nodup)(p:Pr)(z:Wy):cn (jD bs tw y) p z=if y.1=ac/\p∈bs.getD y.2 []/\z=y then cn tw p z-1 else cn tw p z:=by
 have(a,j):=y
 cases a with
 |false=>rw[if_neg (λx=>by cases x.1)];rfl
 |true=>
  have nd:(bs.getD j []).Nodup:=by
   rw[bD]
   cases e:bs[j]? with
   |none=>show fA
   |some b=>show c b (dS e)
  change cn (k9 _ _ tw) p z=_;rw[D9 p _ z _ _ nd]
  by_cases h:p∈bs.getD j []/\z=(ac,j,)
  .rw[if_pos h,if_pos (rfl,h)]
  .rw[if_neg h,if_neg (λx=>h x.2)]
def wn{bs:LLP}(a:∀b∈bs,b.Nodup)(p:Pr)(z:Wy):∀(X2:List Wy) (tw:Wt),z∉X2->cn (X2.foldl (jD bs) tw) p z=cn tw p z
 | [],_,_=>rfl
 |y::X2,tw,h=>by
  rw[fL,wn a p z X2 _ (λq=>h (bi _ q)),qj a,if_neg (λx=>h (by rw[x.2.2];show az))]
def Eb{bs:LLP}(a:∀b∈bs,b.Nodup)(p:Pr)(z:Wy):∀(X2:List Wy) (tw:Wt),cn (X2.foldl (jD bs) tw) p z<=cn tw p z
 | [],_=>aM _
 |y::X2,tw=>by
  show cV (Eb a p z X2 _) ?_;rw[qj a]
  split <;> lia
def JV{c:Nat}{bs:LLP}:∀{X2:List Wy} {tw:Wt},bU c (wtW tw)->bU c (wtW (X2.foldl (jD bs) tw))
 | [],_,h=>h
 |y::X2,tw,h=>by
  show JV (X2:=X2) ?_;unfold jD
  cases y.1 with
  |false=>show h
  |true=>show JT h
def d3.wide{bs:LLP}(h:d3 c r bs tw)(a:(ac,j,)∈wider tw b):(∀p,cn tw p (ac,j,)=if p∈bs.getD j [] then 1 else 0)/\(wider tw b).count (ac,j,)=1/\(∀p∈b,p∈bs.getD j [])/\j<Z bs:=by
 cases b with
 |nil=>nomatch a
 |cons e b=>
  have(d,h2):=JU tw _ _
  have ha:∀p,cn tw p (ac,j,)=if p∈bs.getD j [] then 1 else 0:=by
   rcases h.br j with z |z
   .have:=gV.mp (d.subset a)
    grind
   .show z
  show(ha,?_,λp f=>?_,fh.mp (h.vl e _ (d.subset a)))
  .have g:=count_pos_iff.mpr a;have i:(wider tw (e::b)).count _<=cn tw e (ac,j,):=d.count_le _
   grind
  .have:=gV.mp (h2 _ a p f)
   grind
def d3.dropped{bs:LLP}(h:d3 c r bs tw)(a:∀b∈bs,b.Nodup)(b:List Pr):d3 c r bs (l8 bs tw b):=by
 show(JV h.wk,λp y i=>h.vl p y (gV.mpr (fB (gV.mp i) (Eb a p y _ _))),λj=>?_)
 by_cases d:(ac,j,)∈wider tw b
 .show .inl λp=>?_;have(ha,m,_):=h.wide d
  have gen:∀(X2:List Wy) tw,(ac,j,)∈X2->(∀p,p∉bs.getD j []->cn tw p (ac,j,)=0)->(∀p,cn tw p (ac,j,)<=1)->cn (X2.foldl (jD bs) tw) p (ac,j,)=0:=by
   intro X2
   induction X2 with
   |nil=>intro tw h;nomatch h
   |cons y X2 l=>
    intro tw hm f h2;rw[fL]
    by_cases e:(ac,j,)=y
    .have:cn (jD bs tw y) p (ac,j,)=0:=by
      rw[qj a]
      by_cases g:p∈bs.getD j []
      .rw[if_pos (by rw[<- e],by rw[<- e];show g,e)];have:=h2 p
       lia
      .rw[f p g]
       split <;> rfl
     have:=Eb a p (ac,j,) X2 (jD bs tw y)
     lia
    .show l _ (by rcases bc.mp hm with z |z;show absurd z e;show z) (λp g=>?_) λp=>?_
     .rw[qj a,if_neg (λx=>e x.2.2)];show f p g
     .rw[qj a,if_neg (λx=>e x.2.2)];show h2 p
  show gen _ _ d (λp g=>by rw[ha p,if_neg g]) λp=>by rw[ha p];split <;> lia
 .have e:∀p,cn (l8 bs tw b) p _=cn tw p _:=λp=>wn a p _ _ _ d
  rcases h.br j with z |z
  .show .inl λp=>by rw[e];show z p
  .show .inr λp=>by rw[e];show z p
variable{p:Xp}
def VH{q:O×(O->O)}(h:p M=aa q)(a:f M=aa d)(hr:q.1.remd d=aa o2)(k:K (.nx (M.set i (.deep (q.2 o2))))):wp (pZ i p f) M K:=(_,by
 unfold pZ;rw[h,aA,a,aA,hr];rfl,k)
def VI{a b:Sl}:aX "Seeking" "watches" (aI 2) [a,b,.deep (.at l s.o)]=aa (wsO s.ws,λx=>.at l (iU s.tl [lsO (s.es.map shD),lsO s.st,lsO s.bs,.dT s.gk (s.gd.map .fz),x,lsO s.wt,.fz s.mks]),):=rfl
def JW{l:Addr}{s:Spr}{tw:Wt}(g:s.ws=wtW tw):∀(b:List Pr) (v1 c d f:Sl) (X2:List Wy),Z X2<=16777216->∃a,lZ 2 3 1 [3,0] (ax 0) (mB (m2 fU (ae 0) (aP (iu (aX "Seeking" "watches" (aI 2)) (ae 1))))) (ae 0) (b.map prD) [.deep (.at l s.o),v1,c,d,f] (X2.map wyD)=aa ([.deep (.at l s.o),v1,c,a,f],(b.foldl (λX2 q=>X2.filter λy=>decide (y∈look tw q)) X2).map wyD,)
 | [],_,_,d,_,_,_=>(d,rfl)
 |p::b,v1,c,d,f,X2,hL=>by
  have(a,h):=JW g b v1 c _ f _ (cV (gz _ _) hL);show(a,?_);rw[bE];unfold lZ;rw[if_pos (by grind)]
  have e:eX (gM (ax 0) (mB (m2 fU (ae 0) (aP (iu _ (ae 1))))) (ae 0) [.no,.im _,.deep (.at l s.o)]) _=aa _:=
   uW wyD _ wyD X2 λy _=>dL rfl (bp (ao rfl (bT (D4 (p:=p) (VI.trans (by rw[g])) rfl)) (Vy y _))) λ_=>rfl
  change(eX (gM _ _ _ [.no,.im _,.deep _]) _).bind _=_;rw[e,aA];show h
def VJ(d:s.ws=wtW tw)(g:bU c (wtW tw))(f:c<=16777216)(k:∀h,K (.nx [.deep (.at l s.o),.im (eM b),.own ((wider tw b).map wyD),h,.no])):
  wp (p8 2 3 (bH (ae 1)) (iu (aX "Seeking" "watches" (aI 0)) (mIx (ar 1) (kI 0))) (aV (ae 1)) 1 [3,0] (ax 0) (mB (m2 fU (ae 0) (aP (iu (aX "Seeking" "watches" (aI 2)) (ae 1))))) (ae 0)) [.deep (.at l s.o),.im (eM b),.no,.no,.no] K:=by
 cases b with
 |nil=>show(_,rfl,k .no)
 |cons p b=>
  have(a,e):=JW d _ _ .no .no .no _ (cV (Ea g p) f);show(_,?_,k a);unfold p8;rw[show bH _ _=aa ac from rfl,aA,show aV _ _=aa _ from rfl,aA,if_pos (show ac=!((p::b).map prD).isEmpty from rfl),D4 (p:=p) (vS.trans (by rw[d])) (be rfl rfl (lP (0,af,) (by decide) (by grind))),if_pos rfl,aA,e];rfl
def Ec{bs:LLP}(a:∀b∈bs,c6 n b)(j:Nat):c6 n (bs.getD j []):=by
 rw[bD]
 cases e:bs[j]? with
 |none=>show c6.nil n
 |some b=>grind
def VL(s:Spt)(b:List Pr)(ok:d3 c B.length s.bs s.tw)(G:c<16777216)(y:∀b∈s.bs,c6 n b):BL l [eM b] (s.S B).o=aa ((({s with tw:=l8 s.bs s.tw b}:Spt).S B).o,.non,):=by
 apply fJ;apply aj;show VJ rfl ok.wk (fD G) λd=>?_
 show dC _ wyD (λpre M=>∃d w,M=[.deep (.at l (({s with tw:=pre.foldl (jD s.bs) s.tw}:Spt).S B).o),.im _,.im _,d,w]) rfl (_,_,rfl) ?_ ?_
 .rintro pre ⟨a,j⟩ post M ex ⟨d,w,rfl⟩;show(_,rfl,?_);walk_at "nrm"
  cases a with
  |false=>
   show aR rfl (λz=>by nomatch z) (λ_=>bK ?_);show(d,.im (wyD (af,j,)),?_);rw[eP]
   rfl
  |true=>
   have(ha,A,_,H):=ok.wide (j:=j) (by rw[ex];simp)
   have m:(ac,j,)∉pre:=λq=>by
    grind
   have e:=Ec y j
   show dC (s.bs.getD j []) prD (λpr M=>∃d,M=[.deep (.at l (({s with tw:=k9 (ac,j,) pr _}:Spt).S B).o),.im _,.im _,d,.im _]) (e7 (be (sJ Dy) (be rfl rfl rfl) (lP [] (by lia) (by grind))) rfl) (_,rfl) ?_ ?_
   .rintro pr p po M i ⟨d,rfl⟩;have u:p∈s.bs.getD j []:=by grind
    have r:=λq=>by
     have:=e.pd;rw[i]at this;show(eO.mp this).2.2 p q p az rfl
    have v:pr.Nodup:=by
     have:=e.pd
     grind
    have f : _∈look (k9 (ac,j,) pr _) p:=gV.mpr (by
     rw[D9 p _ _ pr _ v,if_neg (λx=>r x.1),wn (λb h=>(y b h).pd) p _ _ _ m,ha p,if_pos u]
     grind)
    show(_,rfl,?_);walk_at "nrm"
    have(I,C,E):=Vw (g:=ae 3) (M:=[.deep (.at l (({s with tw:=k9 _ pr _}:Spt).S B).o),.im _,.im _,.im _,.im _]) vS rfl (ne_nil_of_mem f)
    show VH C rfl (Vx f) ?_;dsimp only;rw[E];show(.im (prD p),?_);unfold k9;rw[eP];rfl
   .rintro M ⟨d,rfl⟩;show(d,.im (wyD (ac,j,)),?_);rw[eP];rfl
 .rintro M ⟨d,w,rfl⟩;show(_,rfl,rfl,rfl)
def VM(b:List Pr)(hz:Z b<=16777216):B3 [eM b]=aa (.lst ((brg b).map Prt.obj)):=by
 rw[show(brg b).map Prt.obj=b.map λz=>(brP z).obj from map_map]
 show lN (congrArg _ (gh b prD _ rfl hz λz _=>fT rfl rfl (by
  have(t,x):=z
  cases x <;> rfl)))
def sV(h:c6 n b):∀p∈brg b,PrK n p:=λp a=>by
 have(z,hz,rfl):=aH.mp a;have:=h.nn z hz;have(t,x):=z
 cases x <;> show(this,(by decide:1<=1000))
def l9{b:Type}(l:List b)(a d:b)(j:Nat):(l++[a]).getD j d=if j=Z l then a else l.getD j d:=by grind
def d3.bar{bs:LLP}(h:d3 c r bs tw)(a:c6 n b)(hn:n<=60):d3 (c+3840) r (bs++[b]) (fZ (ac,Z bs,) (brg b) tw):=by
 have d:∀p,cn tw p (ac,Z bs,)=0:=λp=>Nat.eq_zero_of_not_pos λq=>by
  have:Z bs<Z bs:=fh.mp (h.vl p _ (gV.mpr q))
  grind
 have g:∀p,cn _ p _=if p∈b then 1 else 0:=λp=>by
  rw[D8,d p,lu,a.pd.count]
 show(?_,λp y f=>?_,λj=>?_)
 .rw[<- wm];show(bU.reg hn (sV a) h.wk).le ?_;unfold brg;rw[ay];have:=a.len;lia
 .rw[aS,f6,D6]
  by_cases e:y=(ac,Z bs,)
  .grind
  .show bV _ (h.vl p y (gV.mpr ?_));rw[<- nY e p _];show gV.mp f
 .rw[l9]
  by_cases e:j=Z bs
  .grind
  .have ne:((ac,j,):Wy)≠(ac,Z bs,):=λz=>e (tR z).2;rw[if_neg e]
   rcases h.br j with z |z
   .show .inl λp=>by rw[nY ne];grind
   .show .inr λp=>by rw[nY ne];grind
def Spt.bar(s:Spt)(b:List Pr):Spt:={s with bs:=s.bs++[b],tw:=fZ (ac,Z s.bs,) (brg b) (l8 s.bs s.tw b),wt:=s.wt++[(ac,Z s.bs,)]}
def VN{bs:LLP}:(gys B.length (Z bs+1)).map (gdD B (bs++[b]))=(gys B.length (Z bs)).map (gdD B bs)++[.lst ((brg b).map Prt.obj)]:=by
 rw[D6,ba]
 congr 1
 .show map_congr_left λy c=>?_;have:=fh.mp c;have(a,j):=y
  cases a with
  |false=>rfl
  |true=>
   have:j<Z bs:=this;unfold gdD bQ
   grind
 .change[D.lst ((brg _).map Prt.obj)]=_
  grind
def VO(s:Spt)(b:List Pr)(ok:d3 c B.length s.bs s.tw)(m:c+3840<16777216)(d:∀b∈s.bs,c6 n b)(a:c6 n b)(hn:n<=60)(p:Z B+Z s.bs<100000)(j:Z s.wt<16777216):
  vK l [eM b] (s.S B).o=aa (((s.bar b).S B).o,.non,):=by
 have i:=a.len;have g:((gys B.length (Z s.bs)).map wyK).length=Z B+Z s.bs:=by rw[ay,Vz]
 apply fJ;apply aj;show iS (fI rfl rfl (dN rfl rfl) rfl (VL s b ok (by lia) d)) ?_;apply aj;show bn (du (ap rfl (ap (aF (ap (jB Dy) rfl) (fW s.bs eM)) rfl))) ?_;walk_at "nrm";apply aj;show sL Dy rfl (by change(s.bs.map eM).length<_;rw[ay];lia) ?_;change wp _ [.deep (.at l ((s.es,s.st,s.bs.map eM++_,(gys B.length (Z s.bs)).map wyK,(gys B.length (Z s.bs)).map _,wtW _,s.wt.map wyD,.lst _,(s.S B).tl):Spr).o),.im _,.im (wyD (ac,Z s.bs,))] _;show iS (fI rfl rfl (dN rfl (dN (aF rfl (VM b (by lia))) rfl)) rfl (Jm _ _ rfl (DJ λq=>?_) ?_ (sV a) hn (ok.dropped (λb h=>(d b h).pd) b).wk ?_ ?_ ?_)) ?_
 .have(y,f,e):=aH.mp q;rw[D3 e]at f;have:Z s.bs<Z s.bs:=fh.mp f;show gB _ this
 .change((gys B.length (Z s.bs)).map wyK).length<_
  lia
 .unfold brg;rw[ay];lia
 .change(s.wt.map wyD).length<_;rw[ay];show j
 .unfold brg;rw[ay];lia
 .show(_,rfl,?_,rfl)
  congr 1
  dsimp only[vU,Spt.bar,Spt.S];rw[wm,aS,f6,VN,D6,ba,ba,ba];rfl
def jE{f:Xe}(h:f M=aa (d,ρ1,))(k:K (.nx (ρ1.set i (.im d)))):wp (fY i f) M K:=(_,by unfold fY;rw[h];rfl,k)
def JX{k:Int}(hv:fv M=aa d)(h:p M=aa (lsO ds,R,))(c:fk M=aa (.int k))(a:0<=k)(b:k<Z ds)(q:K (.nx (M.set i (.deep (R (lsO (ds.set k.toNat d))))))):wp (nK i p fk fv) M K:=(_,by
 unfold nK;simp only[hv,aA,h,aA,c,aA];change(((lsO ds).items.bind λds=>(ixN ds.length k).map λj=>O.lst _)).map _=_;simp only[wj,aA,show ixN ds.length k=aa k.toNat by unfold ixN;rw[if_pos a,if_pos b]];rfl,q)
def VP{f:MF2}{es:LD}(h:p M=aa (lsO ds,R,))(a:f M=aa es)(hz:Z ds+Z es<=16777216)(q:K (.nx (M.set i (.deep (R (lsO (ds++es))))))):wp (pW i p f) M K:=(_,by
 unfold pW;rw[h,aA,a,aA];change(if Z (ds.map O.fz)+Z es<=16777216 then aa _ else ab).map _=_;rw[if_pos (by rw[ay];show hz),<- ba];rfl,q)
def iY(es:LOB):Nat:=ct (es.map (·==ab))
variable{b:Bool}
def VQ(t0:0<=t)(t1:t<(Z es:Int))(a:opn es t=ac):iY (put es t.toNat b)+1=iY es:=by
 unfold iY put;rw[g8];show Jv _ _ ?_;unfold opn at a;rw[bD]at a ⊢;rw[cu,b6 (by lia)]at *;show a
def VR(es:LOB):iY es<=Z es:=by
 have:=Vh (es.map (·==ab))
 rwa [ay]at this
def Spt.pt(s:Spt)(t:Int)(b:Bool)(w:D):Spt:={s with es:=put s.es t.toNat b,st:=s.st++[.tup [prD (t,b,),w]],wt:=s.wt++look s.tw (t,b,)}
structure SpJ(n c X3:Nat)(B:LRu)(s:Spt):Prop where
 es:Z s.es=n
 bk:∀b∈s.bs,c6 n b
 tw:d3 c B.length s.bs s.tw
 wv:∀y∈s.wt,y∈gys B.length (Z s.bs)
 ms:s.ms.Perm (dM B)
 mB:iY s.es*(c+1)+Z s.wt<=X3
 sB:Z s.st+iY s.es<=X3
 sv:∀d∈s.st,∃(z:Pr) (w:D),d=.tup [prD z,w]/\(0<=z.1/\z.1<(n:Int))/\s.es.getD z.1.toNat ab=aa z.2
nonrec def Me(c:Nat)(s:Spt):Nat:=iY s.es*(c+1)+Z s.wt
variable{u:Int}
def Ed(a:0<=u)(t0:0<=t)(h:u≠t):opn (put es t.toNat b) u=opn es u:=by
 unfold opn;rw[da es b (by lia)]
variable{X3:Nat}{s:Spt}{w:L2.D}
def SpJ.pt(h:SpJ n c X3 B s)(t0:0<=t)(t1:t<(n:Int))(f:opn s.es t=ac):SpJ n c X3 B (s.pt t b w)/\Me c (s.pt t b w)<Me c s:=by
 have g:=VQ (b:=b) t0 (by rw[h.es];show t1) f;have m:=Ea h.tw.wk (t,b,)
 have hm:Me c (s.pt t b w)<Me c s:=by
  change iY (put s.es t.toNat b)*_+Z (s.wt++look s.tw _)<iY s.es*_+Z s.wt;simp only[<- g,aS,Nat.succ_mul]
  lia
 show(((cb _ _ _).trans h.es,h.bk,h.tw,λy i=>?_,h.ms,cV (fD hm) h.mB,?_,λd hd=>?_),hm)
 .rcases bz.mp i with q |q
  .show h.wv y q
  .show h.tw.vl _ y q
 .change(s.st++[_]).length+iY (put s.es t.toNat b)<=X3;rw[aS,f6];have:=h.sB
  lia
 .rcases bz.mp hd with q |q
  .have(z,j,e,l,a):=h.sv d q;show(z,j,e,l,?_);change(put s.es t.toNat b).getD z.1.toNat ab=_;rw[da s.es b (λq=>by rw[q,iX f]at a;nomatch a)];show a
  .show(_,w,bw.mp q,(t0,t1),e8 s.es b (by rw[h.es];lia))
def Ee(h:SpJ n c X3 B s)(hB:X3+c<16777216)(t0:0<=t)(t1:t<(n:Int)):qe l [.int t,.bl b,w] (s.S B).o=aa (((s.pt t b w).S B).o,.non,):=by
 have f:=Ea h.tw.wk (t,b,);have a:=h.mB;have h2:=h.sB;have d:=h.es;apply fJ;apply aj;show JX rfl jZ rfl t0 (by rw[ay];change t<Z s.es;lia) ?_;have e:(s.es.map shD).set t.toNat (.bl b)=(put s.es t.toNat b).map shD:=by unfold put;rw[g8];rfl
 change wp _ [.deep (.at l (iU (s.S B).tl [lsO ((s.es.map shD).set t.toNat _),lsO s.st,lsO _,.dT _ _,wsO _,lsO _,.fz _])),.im _,.im _,.im w] _;rw[e]
 change wp _ [.deep (.at l (({s with es:=put s.es t.toNat b}:Spt).S B).o),.im _,.im _,.im w] _
 apply aj;show sL Dx (du (ap (du (ap rfl (ap rfl rfl))) (ap rfl rfl))) (by change Z s.st<_;lia) ?_
 change wp _ [.deep (.at l (({s with es:=put s.es t.toNat b,st:=s.st++_}:Spt).S B).o),.im _,.im _,.im w] _
 show VP qf (D4 vS (du (ap rfl (ap rfl rfl)))) (by change(s.wt.map wyD).length+Z ((look s.tw (t,b,)).map wyD)<=_;rw[ay,ay];lia) ?_;show(_,rfl,?_,rfl);dsimp only[Spt.pt,Spt.S];simp only[ba];rfl
def puts(s:Spt)(w:D)(ps:List Pr):Spt:=ps.foldl (λs p=>s.pt p.1 p.2 w) s
structure fK(es:LOB)(ps:List Pr):Prop where
 nd:(ps.map (·.1)).Nodup
 op:∀z∈ps,(0<=z.1/\z.1<(Z es:Int))/\opn es z.1=ac
variable{z:Pr}
def fK.tail{ps:List Pr}(h:fK es (z::ps)):fK (put es z.1.toNat z.2) ps:=by
 have(f,g):=b8.mp h.nd;show(g,λy d=>?_);have((a,b),c):=h.op y (bi _ d);show((a,by rw[cb];show b),?_);rw[Ed a ((h.op z az).1.1) (λe=>f (aH.mpr (y,d,e)))];show c
def fK.pre{pre post:List Pr}(h:fK es (pre++post)):fK es pre:=(by have:=h.nd;rw[ba]at this;show(eO.mp this).1,λz hz=>h.op z (bV _ hz))
def n4{n c X3:Nat}{B:LRu}{w:D}:∀{ps:List Pr} {s:Spt},SpJ n c X3 B s->fK s.es ps->SpJ n c X3 B (puts s w ps)/\Me c (puts s w ps)<=Me c s
 | [],_,h,_=>(h,aM _)
 |z::ps,s,h,k=>by
  have((a,b),e):=k.op z az;have(d,h2):=h.pt a (by rw[<- h.es];show b) e;have(f,g):=n4 d k.tail;show(f,cV g (fD h2))
variable{G:List Prt}
def JY(h:prs G es=ab):∀p∈G,p.sure es=ac:=by
 have:=JK es G;unfold prs at h
 cases e:G.foldl _ ab with
 |none=>rw[e]at this;show this
 |some l=>rw[e]at h;nomatch h
def n6{l:List Pr}(i:∀p∈G,p.Ok (Z es))(h:prs G es=aa l):fK es l/\(∀z:Pr,z∈l↔(0<=z.1/\z.1<(Z es:Int))/\opn es z.1=ac/\∀p∈G,p.sure (put es z.1.toNat (!z.2))=ac)/\∃p∈G,p.sure es=af:=by
 have:=JK es G;unfold prs at h
 cases e:G.foldl _ ab with
 |none=>rw[e]at h;nomatch h
 |some n=>
  rw[e]at h this;cases h;have((q,m,d),h2,u):=this
  have hm:∀z:Pr,z∈n.map neg↔(z.1,!z.2,)∈n:=λz=>by
   constructor
   .intro hz;have(y,v,rfl):=aH.mp hz;unfold neg;rw[Bool.not_not];show v
   .intro hz;show aH.mpr (_,hz,?_);unfold neg;rw[Bool.not_not]
  have key:∀z:Pr,z∈n.map neg↔_/\opn es z.1=ac/\∀p∈G,p.sure (put es z.1.toNat _)=ac:=λz=>by
   rw[hm,h2];constructor
   .intro a;have(j,r,_):=(DY (i q m) d _ _).mp (a q m d);show(j,r,λp f=>?_)
    cases g:p.sure es with
    |true=>show wg (i p f) j.1 j.2 r _ g
    |false=>show((DY (i p f) g _ _).mp (a p f g)).2.2
   .rintro⟨a,b,c⟩ p f g;show(DY (i p f) g _ _).mpr (a,b,c p f)
  show((?_,λz hz=>?_),key,q,m,d)
  .rw[map_map];show u
  .have(a,b,_):=(key z).mp hz;show(a,b)
structure Grp(B:LRu)(es:LOB)(wo:LB0):Prop where
 len:Z wo=Z es
 no:∀i,wo.getD i af=ac->es.getD i ab≠aa af
 up:∀r∈dM B,wo.getD r.hd.toNat af=ac->r.bodyLost es wo=ac
def sW(es:LOB)(wo:LB0):LOB:=(sI wo).foldl (λes t=>put es t.toNat af) es
inductive Mvs(B:LRu)(bs:LLP)(e0:LOB):LOB->Prop
 |refl:Mvs B bs e0 e0
 |press {es:LOB} {t:Int} {b:Bool} {y:Wy}:Mvs B bs e0 es->y∈gys B.length (Z bs)->0<=t->t<(Z es:Int)->opn es t=ac->(∀p∈bQ B bs y,p.sure (put es t.toNat (!b))=ac)->Mvs B bs e0 (put es t.toNat b)
 |out {es:LOB} {wo:LB0}:Mvs B bs e0 es->Grp B es wo->(∀i,wo.getD i af=ac->es.getD i ab=ab)->Mvs B bs e0 (sW es wo)
def Mvs.trans{bs:LLP}{e0 g i:LOB}(h:Mvs B bs e0 g)(h':Mvs B bs g i):Mvs B bs e0 i:=by
 induction h' with
 |refl=>show h
 |press _ a b c d e f=>show .press f a b c d e
 |out _ a b f=>show .out f a b
def wq{a:Bool}(h:i≠j):put (put es i a) j b=put (put es j b) i a:=by
 unfold put;show set_comm _ _ h
def wu(c:0<=u)(t0:0<=t)(h:u≠t)(a:opn es u=ac):opn (put es t.toNat b) u=ac:=by rw[Ed c t0 h];show a
def JZ{B:LRu}{bs:LLP}{y:Wy}{w:D}(d:y∈gys B.length (Z bs)):∀{ps:List Pr} {s:Spt},(∀p∈bQ B bs y,p.Ok (Z s.es))->fK s.es ps->(∀z∈ps,∀p∈bQ B bs y,p.sure (put s.es z.1.toNat (!z.2))=ac)->Mvs B bs s.es (puts s w ps).es
 | [],_,_,_,_=>.refl
 |z::ps,s,hG,k,hp=>by
  have((a,b),e):=k.op z az;have(g,i):=b8.mp k.nd;have f:Mvs B bs s.es (s.pt z.1 z.2 w).es:=.press .refl d a b e (hp z az);show f.trans (JZ d (λp q=>by change p.Ok (Z (put s.es z.1.toNat z.2));rw[cb];show hG p q) k.tail λx c p q=>?_);have((h,j),l):=k.op x (bi _ c);have ne:z.1≠x.1:=λe=>g (aH.mpr (x,c,e.symm));change p.sure (put (put s.es z.1.toNat z.2) x.1.toNat _)=ac;rw[wq (by lia)];show wg (by rw[cb];show hG p q) a (by rw[cb];show b) (wu a h ne e) _ (hp x (bi _ c) p q)
abbrev VS:Option Wy->D
 |none=>.non
 |some y=>wyD y
abbrev lrF(B:LRu):Nat->Spt->Option Wy×Spt
 | 0,s=>(ab,s,)
 |k+1,s=>match s.wt with
  | []=>(ab,s,)
  |y::wt=>match prs (bQ B s.bs y) s.es with
   |none=>(aa y,{s with wt:=wt},)
   |some ps=>lrF B k (puts {s with wt:=wt} (wyD y) ps)
def sX{k:Nat}(h:s.wt=[]):lrF B (k+1) s=(ab,s,):=by
 unfold lrF;rw[h]
def sY{k:Nat}{wt:List Wy}(h:s.wt=y::wt)(a:prs (bQ B s.bs y) s.es=ab):lrF B (k+1) s=(aa y,{s with wt:=wt},):=by
 unfold lrF;rw[h];dsimp only;rw[a]
def qk{k:Nat}{wt:List Wy}{ps:List Pr}(h:s.wt=y::wt)(a:prs (bQ B s.bs y) s.es=aa ps):lrF B (k+1) s=lrF B k (puts {s with wt:=wt} (wyD y) ps):=by
 rw[lrF];rw[h];dsimp only;rw[a]
def n8{bs:LLP}(hr:∀r∈B,RuK n r)(d:∀b∈bs,c6 n b):∀p∈bQ B bs y,p.Ok n:=by
 have(a,j):=y;intro p c
 cases a with
 |true=>show(sV (Ec d j) p c).1
 |false=>
  replace c:p∈((B[j]?).map grd).getD []:=c
  cases e:B[j]? with
  |none=>rw[e]at c;nomatch c
  |some r=>rw[e]at c;show(vV (hr r (dS e)) p c).1
def SpJ.pop{wt:List Wy}(h:SpJ n c X3 B s)(e:s.wt=y::wt):SpJ n c X3 B {s with wt:=wt}/\Me c {s with wt:=wt} < Me c s/\y∈gys B.length (Z s.bs):=by
 have hm:=h.mB;have a:Z s.wt=Z wt+1:=by grind
 show((h.es,h.bk,h.tw,λz hz=>h.wv z (by grind),h.ms,?_,h.sB,h.sv),?_,h.wv y (by grind))
 .grind
 .grind
def J0(w:D):∀(ps:List Pr) (s:Spt),(puts s w ps).bs=s.bs/\(puts s w ps).tw=s.tw/\(puts s w ps).ms=s.ms
 | [],_=>(rfl,rfl,rfl)
 |z::ps,s=>J0 w ps _
structure VT(n c X3:Nat)(B:LRu)(s:Spt)(R:Option Wy×Spt):Prop where
 ok:SpJ n c X3 B R.2
 bs:R.2.bs=s.bs
 mv:Mvs B s.bs s.es R.2.es
 no:R.1=ab->R.2.wt=[]
 ye:∀y,R.1=aa y->y∈gys B.length (Z s.bs)/\∀p∈bQ B s.bs y,p.sure R.2.es=ac
 le:Me c R.2<=Me c s
def sZ{n c X3:Nat}{B:LRu}(hr:∀r∈B,RuK n r):∀(k:Nat) (s:Spt),SpJ n c X3 B s->Me c s<k->VT n c X3 B s (lrF B k s)
 | 0,_,_,h=>absurd h (g9 _)
 |k+1,s,h,hk=>by
  cases b:s.wt with
  |nil=>
   rw[sX b]
   show(h,rfl,.refl,(λ_=>b),(λy e=>by cases e),aM _)
  |cons y wt=>
   have(g,h2,j):=h.pop b;have i:∀p∈bQ B s.bs y,p.Ok (Z s.es):=by rw[h.es];show n8 hr h.bk
   cases d:prs _ s.es with
   |none=>
    rw[sY b d]
    show(g,rfl,.refl,(λz=>by cases z),(λz e=>by cases e;show(j,JY d)),fD h2)
   |some ps=>
    rw[qk b d];have(l,m,_):=n6 i d;have(q,u):=n4 g l
    have(f,_,_):=J0 _ ps {s with wt:=wt}
    have a:=sZ hr k _ q (by lia)
    have m1:Mvs B s.bs s.es (puts {s with wt:=wt} (wyD y) ps).es:=JZ j (s:={s with wt:=wt}) i l λz hz=>((m z).mp hz).2.2
    show(a.ok,a.bs.trans f,m1.trans (by have:=a.mv;rw[f]at this;show this),a.no,λz e=>?_,by have:=a.le;lia);have:=a.ye z e
    grind
def VU{m:LD->Option (LD ⊕ D)}{f:MF2}{x:Option (List Pr)}(h:f M=aa ds)(h':m ds=aa (JH x)):p7 m f M=aa (sS x):=by
 unfold p7;rw[h,aA,h',aA]
 cases x with
 |none=>rfl
 |some l=>
  change(if (l.map prD).all D.flat=ac then aa _ else ab)=_;rw[if_pos (all_eq_true.mpr λd hd=>by have(z,_,rfl):=aH.mp hd;rfl)];rfl
def VV{wt:List Wy}(h:s.wt=y::wt):r9 0 (aX "Seeking" "waiting" (aI 0)) (.deep (.at l (s.S B).o)::M)=aa (wyD y,.deep (.at l (({s with wt:=wt}:Spt).S B).o)::M,):=by
 change((lsO (s.wt.map wyD)).pop0).map _=_;rw[h];rfl
def VW{k:Nat}(hr:∀r∈B,RuK n r)(hB:X3+c<16777216)(h:SpJ n c X3 B s)(x:Me c s<k)(w:k<1000000000):Dg l [] (s.S B).o=aa (((lrF B k s).2.S B).o,VS (lrF B k s).1,):=by
 apply fJ;apply aj;show pN (λm M=>∃a v1 v e f,M=[.deep (.at l (Spt.S B a).o),v1,v,e,f]/\SpJ n c X3 B a/\Me c a<m/\lrF B m a=lrF B k s) ?_ _ k _ (s,_,_,_,_,rfl,h,x,rfl) w;rintro m M ⟨a,v1,v,e,f,rfl,h',hm,i⟩
 cases m with
 |zero=>grind
 |succ m=>
  cases b:a.wt with
  |nil=>
   show(af,cH (jB qf) (by change mZ (.lst (a.wt.map wyD))=_;rw[b];rfl),(λz=>by nomatch z),λ_=>?_);rw[<- i,sX b]
   show iT rfl (_,rfl,rfl,rfl)
  |cons y wt=>
   have(q,h2,A):=h'.pop b;have u:∀p∈bQ B a.bs y,p.Ok (Z a.es):=by rw[h'.es];show n8 hr h'.bk
   show⟨ac,cH (jB qf) (by change mZ (.lst (a.wt.map wyD))=_;rw[b];rfl),λ_=>?_,λz=>by nomatch z⟩;apply aj;show jE (VV b) ?_;apply aj;show bn (d:=sS (prs _ a.es)) (VU (ap (VA A rfl) (ap (jB jZ) rfl)) (Vt _ u)) ?_;apply aj
   cases j:prs _ a.es with
   |none=>
    show aR rfl (λ_=>?_) (λz=>by nomatch z);rw[<- i,sY b j]
    show iT rfl (_,rfl,rfl,rfl)
   |some ps=>
    have(g,I,_):=n6 u j;have(C,J):=n4 q g;show aR rfl (λz=>by nomatch z) (λ_=>bK ?_)
    show dC ps prD (λpre M=>∃e f,M=[.deep (.at l ((puts {a with wt:=wt} (wyD y) pre).S B).o),.im _,.im _,e,f]) rfl (_,_,rfl) ?_ ?_
    .rintro pre z post M ex ⟨e,f,rfl⟩;rw[ex]at g;have(E,_):=n4 q g.pre;have((G,H),_):=g.op z (by simp);show(_,rfl,?_);walk_at "nrm";show iS (fI rfl rfl (dN rfl (dN rfl (dN rfl rfl))) rfl (Ee E hB G (by rw[<- h'.es];show H))) ?_;show(.im (.int z.1),.im (.bl z.2),?_);unfold puts
     grind
    .rintro M ⟨e,f,rfl⟩;show(m,c8 _,_,_,_,_,_,rfl,C,by lia,?_);rw[<- i,qk b j]
def slf(es:LOB)(a b c d e:D)(E:LD)(ms:LRu):D:=.ins "Seeking" (spN++(["paper","count","ended"]:LSt)) ([.lst (es.map shD),a,b,c,d,e,.lst (ms.map mkD)]++E)
def fdL(r:Rul)(es:LOB)(wo:LB0):D:=DK (r.ps.find? λp=>p.lost es wo)
variable{a b c e:L2.D}
def VX(hok:∀r∈ms,r.Ok (Z es))(f:Z wo=Z es)(hz:Z ms<=1000):Dk [slf es a b c d e E ms,.int t,.lst (wo.map D.bl)]=aa (.lst ((ms.filter λr=>r.hd==t).map λr=>fdL r es wo)):=
 lN (congrArg _ (eG ms mkD _ _ rfl (by lia) λr hr=>dL rfl (bp (ao rfl rfl (by change dEq _ _=_;rfl))) λ_=>aF rfl (DM r.ps (hok r hr).ps f)))
def kpL(p:Prt)(es:LOB)(wo:LB0):LI0:=if p.lost es ((bu (Z es)).map (inS [])) then [] else (nmL p).filter λt=>wo.getD t.toNat af
variable{p:Prt}
def VY(f:p.Ok (Z es))(hn:Z es<=60)(hm:Z (nmP p)<=1000)(j:Z wo=Z es):Di [slf es a b c d e E ms,p.obj,.lst (wo.map D.bl)]=aa (.lst ((kpL p es wo).map D.int)):=by
 have g:m_1 [.int (Z es),.lst []]=aa (.lst (((bu (Z es)).map (inS [])).map D.bl)):=by
  have:=Jc es.length [] (by lia) (by lia) (by decide)
  grind
 have i:=sN f hn;apply gN;apply aj;show aR (cH (Jf p f (by grind) rfl (ap rfl (ap (aF (ap (aF rfl (fW es shD)) rfl) g) rfl))) rfl) (λz=>?_) (λz=>bK ?_)
 .show iQ rfl (iR ?_);unfold kpL
  grind
 .show iQ (eG _ D.int _ D.int (e7 (Jl p f hn hm rfl) rfl) (by lia) λt h=>dL rfl (cH (be rfl rfl (jW (qg f t (sO.mp h)).1 (by rw[j];show(qg f t (sO.mp h)).2))) rfl) λ_=>rfl) (iR ?_);unfold kpL
  grind
def VZ(p:Prt):(nmL p).Nodup:=by
 cases p with
 |inn t=>show b8.mpr ((λh=>nomatch h),fA)
 |out t=>show b8.mpr ((λh=>nomatch h),fA)
 |least k L=>show(kP _).imp λh=>by lia
 |most k L=>show(kP _).imp λh=>by lia
structure KOk(n:Nat)(wo:LB0)(fd:LI0):Prop where
 nd:fd.Nodup
 el:∀x∈fd,(0<=x/\x<(n:Int))/\wo.getD x.toNat af=ac
variable{fd:LI0}
def KOk.len(h:KOk n wo fd):Z fd<=n:=qi h.nd λx a=>(h.el x a).1
def KOk.more(h:KOk n wo fd)(d:p.Ok n):KOk n wo (fd++(kpL p es wo).filter λt=>!(fd.any λx=>x==t)):=by
 have b:(kpL p es wo).Sublist (nmL p):=by
  unfold kpL;split
  .grind
  .simp
 show(eO.mpr (h.nd,(xf b (VZ p)).sublist ou,λx c y f e=>?_),λx c=>?_)
 .grind
 .rcases bz.mp c with q |q
  .show h.el x q
  .have a:=(b7.mp q).1;show(qg d x (sO.mp (b.subset a)),?_);unfold kpL at a
   grind
def J4(E:LI0)(i:Int):jo (.int i) (.lst (E.map D.int))=aa (.bl (!(E.any λx=>x==i))):=by
 change Option.map _ (if _=ac then aa _ else ab)=_;rw[if_pos (by rw[all_map];show(b5 _ _).mpr (rfl,all_eq_true.mpr λ_ _=>rfl)),any_map];rfl
def V0{n m:Int}(a:M[i]?=aa (.im (.int n)))(k:K (.nx (M.set i (.im (.int (n+m)))))):wp (lY i (mX λ_=>aa (.int m))) M K:=(_,by
 unfold lY;rw[a];rfl,k)
def Kp(es:LOB)(wo:LB0)(fd:LI0)(r:Rul):Prop:=∃p∈r.ps,p.lost es wo=ac/\∀y∈kpL p es wo,y∈fd
structure s9(es:LOB)(wo:LB0)(ms:LRu)(t:Int)(ks:LI0):Prop where
 mt:t∈ks
 nd:ks.Nodup
 el:∀x∈ks,(0<=x/\x<(Z es:Int))/\wo.getD x.toNat af=ac
 kp:∀r∈ms,r.hd∈ks->Kp es wo ks r
def V1(hn:Z es<=60)(hok:∀r∈ms,r.Ok (Z es))(hnm:∀r∈ms,∀p∈r.ps,Z (nmP p)<=1000)(hw:Z wo=Z es)(hz:Z ms<=1000)(hl:∀r∈ms,wo.getD r.hd.toNat af=ac->r.bodyLost es wo=ac)(t0:0<=t)(t1:t<(Z es:Int))(ht:wo.getD t.toNat af=ac):
  ∃ks:LI0,l6 [slf es a b c d e E ms,.int t,.lst (wo.map D.bl)]=aa (ks.map D.int)/\s9 es wo ms t ks:=by
 suffices h:wp sF _ (λr=>∃ks:LI0,r=.rtO (ks.map D.int)/\s9 es wo ms t ks) by
  have(r,e,ks,rfl,h):=h;show(ks,nE e,h)
 apply aj;show dY rfl ?_;walk_at "nrm";apply aj;show bn rfl ?_;walk_at "nrm";apply aj;show pN (λm M=>∃(fd:LI0) (g:Nat) (j:Sl),M=[.im _,.im _,.im _,.own (fd.map D.int),.im (.int g),j]/\KOk es.length wo fd/\g<=Z fd/\m+g=61/\t∈fd/\∀x∈fd.take g,∀r∈ms,r.hd=x->Kp es wo fd r) ?_ _ 61 _ ⟨[t],0,_,rfl,(b8.mpr ((λh=>nomatch h),fA),λx i=>by rw[bw.mp i];show((t0,t1),ht)),cj _,rfl,az,λx i=>nomatch i⟩ (by decide);rintro m M ⟨fd,g,j,rfl,L,hp,hm,Q,I⟩;have hfl:=L.len;show(decide _,bp (ao rfl (aF rfl (fW fd D.int)) rfl),λz=>?_,λz=>?_)
 .have N:g<Z fd:=by have:=of_decide_eq_true z;lia
  obtain⟨x,i⟩:∃x,fd[g]?=aa x:=(_,b6 N);have((x0,x1),xw):=L.el x (dS i)
  have U:atI (fd.map D.int) g=aa (.int x):=by
   rw[lP 0 (by lia) (by lia),cU,bD,i];rfl
  apply aj;show dC _ _ (λpre M=>∃(ex:LI0) (j:Sl),M=[.im _,.im _,.im _,.own ((fd++ex).map D.int),.im _,j]/\KOk es.length wo (fd++ex)/\∀r∈pre,Kp es wo (fd++ex) r) (e7 ((cy rfl rfl (ap (be rfl rfl U) (ap rfl rfl))).trans (VX hok hw hz)) rfl) ⟨[],j,by rw[bO],by rw[bO];show L,λr hr=>nomatch hr⟩ ?_ ?_
  .rintro pre r post M ex ⟨xt,j,rfl,l,f⟩;have hrm:r∈ms.filter λr=>r.hd==x:=by rw[ex];simp
   have(hr,A):=b7.mp hrm;have A:r.hd=x:=by simpa using A
   obtain⟨p,v,hp2,hp3⟩:∃p,p∈r.ps/\fdL r es wo=p.obj/\p.lost es wo=ac:=by
    unfold fdL
    cases Y:r.ps.find? _ with
    |none=>
     have:=DN (es:=es) (wo:=wo) r;rw[Y,(hl r hr (by rw[A];show xw))]at this
     nomatch this
    |some p=>show(p,w5 Y,rfl,find?_some Y)
   have w:=(hok r hr).ps p v;have n:=l.more (es:=es) w;have J:=n.len;rw[aS]at J;show(_,rfl,?_);walk_at "nrm";rw[hp2];show(_,DF (bT (eG _ D.int _ D.int (e7 ((cy rfl rfl (ap rfl (ap rfl rfl))).trans (VY w hn (hnm r hr p v) hw)) rfl) ?_ λy _=>dL rfl (bp (ao rfl rfl (J4 (fd++xt) y))) λ_=>rfl)) rfl (by rw[ay,ay];lia),?_)
   .have:Z (kpL p es wo)<=Z (nmL p):=by
     unfold kpL;split
     .show cj _
     .show gz _ _
    have:=sN w hn
    lia
   .rw[cK]at n;show(_,.im p.obj,?_,n,λr' hr'=>?_)
    .simp only[ba,cK];rfl
    .rcases bz.mp hr' with q |q
     .have(T,C,G,H):=f r' q;show(T,C,G,λy B=>by rw[<- cK];show bV _ (H y B))
     .rw[bw.mp q];show(p,v,hp3,λy B=>?_);rw[<- cK]
      by_cases hm:y∈fd++xt
      .show bV _ hm
      .show ci _ (b7.mpr (B,?_));rw[wY,<- Bool.not_eq_true];intro h;have(u,hu,e):=any_eq_true.mp h;rw[beq_iff_eq.mp e]at hu;show hm hu
  .rintro M ⟨xt,j,rfl,l,f⟩;show V0 rfl (m-1,by lia,fd++xt,g+1,j,rfl,l,by rw[aS];lia,by lia,bV _ Q,λy B r hr e=>?_);rw[take_append_of_le_length N,take_succ,i]at B
   rcases bz.mp B with q |q
   .have(T,C,G,H):=I y q r hr e;show(T,C,G,λz hz=>bV _ (H z hz))
   .rw[bw.mp q]at e;show f r (b7.mpr (hr,by simpa using e))
 .show nC rfl ?_;have hpl:g=Z fd:=by have:=of_decide_eq_false z;lia
  show iQ (Hu rfl (by lia) L.nd) (_,rfl,(ip _ _).mpr Q,(kP _).imp (λh=>by lia),λx i=>L.el x ((ip _ _).mp i),λr hr hd=>?_);have(T,C,G,H):=I r.hd (by rw[hpl,take_length];show(ip _ _).mp hd) r hr rfl;show(T,C,G,λz hz=>(ip _ _).mpr (H z hz))
abbrev fj{a:Type}:Nat->List a->List (Nat×a)
 | _,[]=>[]
 |i,x::E=>(i,x,)::fj (i+1) E
def tf{a:Type}(f:a->D):∀(i:Nat) (E:List a),iM i (E.map f)=(fj i E).map λp=>D.tup [.int p.1,f p.2]
 | _,[]=>rfl
 |i,x::E=>by rw[bE,iM,tf f _ E];rfl
def ww{a:Type}:∀(i:Nat) (E:List a) (j:Nat),(fj i E)[j]?=(E[j]?).map λx=>(i+j,x,)
 | _,[],_=>rfl
 |i,x::E,0=>rfl
 |i,x::E,j+1=>by rw[fj,g4,g4,ww _ E j,show i+1+j=i+(j+1) by lia]
def lc{a:Type}{E:List a}{p:Nat×a}(h:p∈fj 0 E):E[p.1]?=aa p.2:=by
 have(j,b):=oq h;rw[ww]at b
 grind
def wx{a:Type}:∀(i:Nat) (E:List a),Z (fj i E)=Z E
 | _,[]=>rfl
 |i,x::E=>by rw[fj,cv,cv,wx _ E]
def inL(es:LOB)(wo:LB0):LI0:=((fj 0 es).filter λp=>wo.getD p.1 af && p.2==aa ac).map λp=>(p.1:Int)
def j5(wo:LB0):LI0:=((fj 0 wo).filter λp=>p.2).map λp=>(p.1:Int)
def V2(wo:LB0):fj 0 wo=(bu (Z wo)).map λi=>(i,wo.getD i af,):=by
 apply mo;intro j;rw[ww,cu]
 grind
def wz(wo:LB0):j5 wo=sI wo:=by
 unfold j5 sI;rw[V2,filter_map,map_map];rfl
def Ef:∀(ws:Wss),O.kns (ws.map λp=>lsO p.2)=ac
 | []=>by rw[map_nil,O.kns]
 |p::ws=>by rw[bE,O.kns,Ef ws,lsO,O.kn,sK];rfl
def Spt.D(B:LRu)(s:Spt):L2.D:=(s.S B).o.toD
def gdT(B:LRu)(bs:LLP):L2.D:=.dT ((gys B.length (Z bs)).map wyK) ((gys B.length (Z bs)).map (gdD B bs))
def wA(B:LRu)(s:Spt):s.D B=slf s.es (.lst s.st) (.lst (s.bs.map eM)) (gdT B s.bs) (wsO (wtW s.tw)).toD (.lst (s.wt.map wyD)) [.lst s.pp,.int s.ct,.bl s.en] s.ms:=by
 dsimp only[Spt.D,Spr.o,Spt.S,slf,gdT];simp only[lsO,O.toD,O.toDs,yy,List.map,lq,oA]
def V3(B:LRu)(s:Spt):(s.S B).o.kn=ac:=by
 dsimp only[Spr.o,Spt.S,lsO,wsO];simp only[List.map,lq,oA,O.kn,O.kns,sK,qy];show Ef _
def Eg:cP 0 (.deep (.at l (s.S B).o)::M)=aa (s.D B):=by
 change(if (O.at l (s.S B).o).kn=ac then aa (O.at l (s.S B).o).toD else ab)=_;rw[O.kn,V3,if_pos rfl,O.toD];rfl
def wB(B:LRu)(s:Spt)(wo:LB0)(t:Int):LD:=(l6 [s.D B,.int t,.lst (wo.map D.bl)]).getD []
def tj(B:LRu)(s:Spt)(wo:LB0)(t:Int):D:=.tup [.str "group",.lst (wB B s wo t)]
structure fm(n:Nat)(ms:LRu):Prop where
 ok:∀r∈ms,r.Ok n
 nm:∀r∈ms,∀p∈r.ps,Z (nmP p)<=1000
 ne:∀r∈ms,r.w≠.never
 len:Z ms<=1000
def fm.of(hr:∀r∈B,RuK n r)(hz:Z B<=1000)(h:ms.Perm (dM B)):fm n ms:=by
 have hm:∀r∈ms,r∈B/\r.w≠.never:=λr q=>by
  have(a,b):=b7.mp (h.mem_iff.mp q)
  grind
 show(λr q=>(hr r (hm r q).1).ok,λr q=>(hr r (hm r q).1).nm,λr q=>(hm r q).2,by rw[h.length_eq];show cV (gz _ _) hz)
def GpL(ms:LRu)(es:LOB)(wo:LB0):Prop:=Z wo=Z es/\∀r∈ms,wo.getD r.hd.toNat af=ac->r.bodyLost es wo=ac
def GpL.up(h:GpL ms es wo)(f:cT es es')(hok:∀r∈ms,r.Ok (Z es)):GpL ms es' wo:=(by rw[h.1,f.len],λr hr b=>rJ (λp a z=>u3 f (nA.refl _) ((hok r hr).ps p a) z) (h.2 r hr b))
variable{b:Bool}
def wC(t0:0<=t)(a:opn es t=ac):cT es (put es t.toNat b):=by
 show(cb _ _ _,λi=>?_)
 by_cases e:i=S t
 .rw[e];show .inl (iX a)
 .show .inr (da es b e)
def Eh(hn:n<=60)(a:Z s.es=n)(hm:fm n s.ms)(b:GpL s.ms s.es wo)(t0:0<=t)(t1:t<(n:Int))(d:wo.getD t.toNat af=ac):∃ks:LI0,wB B s wo t=ks.map D.int/\l6 [s.D B,.int t,.lst (wo.map D.bl)]=aa (ks.map D.int)/\s9 s.es wo s.ms t ks:=by
 have(ks,c,h):=V1 (by lia) (by rw[a];show hm.ok) hm.nm b.1 hm.len b.2 t0 (by rw[a];show t1) d;unfold wB;rw[wA B s,c];show(ks,rfl,rfl,h)
def J5(hn:n<=60)(a:Z s.es=n)(hm:fm n s.ms)(e:GpL s.ms s.es wo)(t0:0<=t)(t1:t<(n:Int))(g:wo.getD t.toNat af=ac)(f:fo M=aa (s.D B))(ha:fa M=aa [.int t,.lst (wo.map D.bl)]):
  ix "Seeking" "kernel" l6 fo fa M=aa (wB B s wo t):=by
 have(ks,c,b,_):=Eh hn a hm e t0 t1 g;rw[c];unfold ix;rw[f,aA];rw[wA B s]at b ⊢;change(if "Seeking"="Seeking" /\ List.contains (spN++(["paper","count","ended"]:LSt)) "kernel"=af then (fa M).bind λas=>(l6 (slf s.es _ _ _ _ _ _ s.ms::as)).bind λB=>if B.all D.flat then aa B else ab else ab)=_;rw[if_pos (rfl,rfl),ha,aA,b,aA,if_pos (all_eq_true.mpr λd hd=>by have(z,_,rfl):=aH.mp hd;rfl)]
def eN(B:LRu)(wo:LB0)(s:Spt)(ts:LI0):Spt:=ts.foldl (λs t=>s.pt t af (tj B s wo t)) s
def wE{n c X3:Nat}{B:LRu}{wo:LB0}:∀{ts:LI0} {s:Spt},SpJ n c X3 B s->fK s.es (ts.map λt=>(t,af,))->SpJ n c X3 B (eN B wo s ts)/\Me c (eN B wo s ts)+Z ts<=Me c s/\(eN B wo s ts).es=ts.foldl (λes t=>put es t.toNat af) s.es/\cT s.es (eN B wo s ts).es/\(eN B wo s ts).bs=s.bs/\(eN B wo s ts).ms=s.ms
 | [],s,h,_=>(h,aM _,rfl,cT.refl _,rfl,rfl)
 |t::ts,s,h,k=>by
  have((a,b),e):=k.op _ az;have(f,h2):=h.pt a (by rw[<- h.es];show b) e;have(g,j,m,d,p,r):=wE f k.tail;show(g,?_,m,?_,p,r)
  .have l:Me c (eN B wo (s.pt t af _) ts)+Z ts<=Me c _:=j;change Me c (eN B wo (s.pt t af _) ts)+(Z ts+1)<=_;lia
  .have f1:cT s.es (put s.es t.toNat af):=wC a e;show(d.len.trans f1.len,λi=>?_)
   rcases f1.at' i with q |q
   .show .inl q
   .rcases d.at' i with z |z
    .show .inl (q.symm.trans z)
    .show .inr (z.trans q)
def psT{pre post:LI0}(h:fK es ((pre++post).map λt=>(t,af,))):fK es (pre.map λt=>(t,af,)):=by
 rw[ba]at h;show h.pre
def reM(s:Spt):Spt:={s with ms:=(cg s.es s.ms).2.1++(cg s.es s.ms).2.2}
abbrev bL(B:LRu)(s:Spt):OD×Spt:=match inL s.es (cg s.es s.ms).1 with
 |x::_=>(aa (tj B (reM s) (cg s.es s.ms).1 x),reM s,)
 | []=>(ab,eN B (cg s.es s.ms).1 (reM s) (j5 (cg s.es s.ms).1),)
variable{c:Nat}
def SpJ.rem'(h:SpJ n c X3 B s)(hm:fm n s.ms):SpJ n c X3 B (reM s)/\GpL s.ms s.es (cg s.es s.ms).1/\(reM s).ms.Perm s.ms/\∀i,(cg s.es s.ms).1.getD i af=ac->s.es.getD i ab≠aa af:=by
 have(a,b):=Jy (es:=s.es) hm.ne;have pm:((cg s.es s.ms).2.1++(cg s.es s.ms).2.2).Perm s.ms:=by have:=a.pm;rw[bO]at this;show this
 show((h.es,h.bk,h.tw,h.wv,pm.trans h.ms,h.mB,h.sB,h.sv),(a.len,λr hr d=>?_),pm,λi hi e=>?_)
 .have:=b r hr;unfold iV at this
  grind
 .have:=a.pe.sub i hi;unfold jC at this
  grind
def GpL.grp(h:GpL ms es wo)(pm:ms.Perm (dM B))(hn:∀i,wo.getD i af=ac->es.getD i ab≠aa af):Grp B es wo:=(h.1,hn,λr hr=>h.2 r (pm.mem_iff.mpr hr))
def J6:t∈j5 wo↔0<=t/\wo.getD t.toNat af=ac:=by rw[wz];show vR wo t
def V4(wo:LB0):(j5 wo).Nodup:=by
 rw[wz];show xg _ (λa b h e=>h (by lia)) (nodup_range.filter _)
def J7(h:inL es wo=[])(i:Nat)(b:wo.getD i af=ac):es.getD i ab≠aa ac:=λe=>by
 rw[bD]at e
 cases a:es[i]? with
 |none=>rw[a]at e;nomatch e
 |some x=>
  rw[a]at e;have e:x=aa ac:=e;have hm:(i,x,)∈fj 0 es:=dS (by rw[ww,a];simp);have:_∈inL es wo:=aH.mpr (_,b7.mpr (hm,by rw[b,e];rfl),rfl)
  grind
def tm(d:Z wo=Z es)(h:inL es wo=[])(hn:∀i,wo.getD i af=ac->es.getD i ab≠aa af):fK es ((j5 wo).map λt=>(t,af,)):=by
 show(by rw[map_map];have:=V4 wo;simpa[Function.comp_def]using this,λz hz=>?_);have(t,a,rfl):=aH.mp hz;have(t0,tw):=J6.mp a
 have lt:S t<Z wo:=by
  grind
 show((t0,by change t<_;lia),?_);unfold opn
 cases c:es.getD t.toNat ab with
 |none=>rfl
 |some b=>cases b with
  |true=>show absurd c (J7 h _ tw)
  |false=>grind
def wF(hr:∀r∈B,RuK n r)(hz:Z B<=1000)(h:SpJ n c X3 B s):SpJ n c X3 B (bL B s).2/\(bL B s).2.bs=s.bs/\Mvs B s.bs s.es (bL B s).2.es/\Me c (bL B s).2<=Me c s/\((bL B s).1=ab->s.wt=[]->(bL B s).2.wt≠[]->Me c (bL B s).2<Me c s)/\((bL B s).1≠ab->∃wo,Grp B (bL B s).2.es wo/\∃i,wo.getD i af=ac/\(bL B s).2.es.getD i ab=aa ac):=by
 have(m,f,pm,a):=h.rem' (fm.of hr hz h.ms);unfold bL
 cases q:inL s.es (cg s.es s.ms).1 with
 |cons x E=>
  show(m,rfl,.refl,aM _,(λe=>by nomatch e),λ_=>(_,f.grp h.ms a,?_));have l:x∈inL s.es (cg s.es s.ms).1:=by grind
  have(p,v,rfl):=aH.mp l;have(g,j):=b7.mp v;have (h4,h5):=(b5 _ _).mp j;show(p.1,h4,?_);change s.es.getD p.1 ab=aa ac;rw[bD,(lc g)]
  grind
 |nil=>
  dsimp only;have(o1,o2,z,C,A,G):=wE m (tm f.1 q a);have y:Me c _+Z (j5 (cg s.es s.ms).1)<=Me c s:=o2;show(o1,A,?_,by lia,λ_ w d=>?_,λe=>absurd rfl e)
  .rw[z,wz];show .out .refl (f.grp h.ms a) λi hi=>?_;change s.es.getD i ab=ab
   cases l:s.es.getD i ab with
   |none=>rfl
   |some b=>cases b with
    |true=>show absurd l (J7 q i hi)
    |false=>grind
  .cases u:j5 (cg s.es s.ms).1 with
   |nil=>
    rw[u]at d
    show absurd w d
   |cons t ts=>
    grind
def V5(hr:∀r∈B,RuK n r)(hz:Z B<=1000)(hn:n<=60)(hB:X3+c<16777216)(h:SpJ n c X3 B s):Dr l [] (s.S B).o=aa (((bL B s).2.S B).o,(bL B s).1.getD .non,):=by
 have hm:=fm.of hr hz h.ms;have(h1,w,pm,C):=h.rem' hm;have j:(s.S B).es=s.es:=rfl;have a:=h.es;have e:fm n (reM s).ms:=(λr q=>hm.ok r (pm.mem_iff.mp q),λr q=>hm.nm r (pm.mem_iff.mp q),λr q=>hm.ne r (pm.mem_iff.mp q),by rw[pm.length_eq];show hm.len);have f:GpL (reM s).ms s.es (cg s.es s.ms).1:=(w.1,λr q=>w.2 r (pm.mem_iff.mp q));have g:=w.1;unfold bL;generalize J:(cg s.es s.ms).1=wo at *;apply fJ;apply aj;show jE (fI rfl rfl rfl rfl (Vn (s:=s.S B) (by change 3<900;decide) rfl (by rw[j];lia) (by rw[j,a];show hm.ok) hm.ne hm.len)) ?_;change wp _ [.deep _,.im (.lst ((cg s.es s.ms).1.map D.bl)),.no,.no,.no] _;rw[J];apply aj;show bn (d:=.lst ((inL s.es wo).map D.int)) (bT ?_) ?_
 .unfold inL;rw[map_map];show eG (fj 0 s.es) (λp=>D.tup [.int p.1,shD p.2]) _ _ ?_ (by rw[wx];lia) λp G=>?_
  .rw[<- tf];change(pC _ _).map _=_;rw[sJ jZ];rfl
  .have A:=(c7.mp (lc G)).1;show dL rfl (iL (cH (be rfl rfl (jW (by lia) (by lia))) rfl) (bp (ao rfl rfl ?_))) λ_=>rfl;have(i,x):=p
   cases x with
   |none=>rfl
   |some b=>cases b <;> rfl
 .change wp _ [.deep (.at l ((reM s).S B).o),.im _,.no,.im _,.no] _;apply aj
  cases U:inL s.es wo with
  |cons x E=>
   have u:x∈inL s.es wo:=by rw[U];show az
   have(p,G,ep):=aH.mp u;have(H,I):=b7.mp G;have h3:=(c7.mp (lc H)).1;have (h4,h5):=(b5 _ _).mp I
   show iT (d:=tj B (reM s) wo x) (du (ap rfl (ap (bT (J5 hn a e f (by lia) (by lia) (by rw[<- ep,cU];show h4) Eg (ap (be rfl rfl (lP 0 (by decide) (by rw[cv];lia))) (ap rfl rfl)))) rfl))) (_,rfl,rfl,rfl)
  |nil=>
   have ps:=tm g U C;show aR rfl (λz=>by nomatch z) (λ_=>bK ?_);apply aj;show dC (fj 0 wo) (λp=>D.tup [.int p.1,.bl p.2]) (λpre M=>∃N Q,M=[.deep (.at l ((eN B wo (reM s) ((pre.filter λp=>p.2).map λp=>p.1)).S B).o),.im _,N,.im _,Q]) ?_ (_,_,rfl) ?_ ?_
   .rw[<- tf];show vW rfl
   .rintro pre p post M ex ⟨N,Q,rfl⟩;show(_,rfl,?_);walk_at "nrm";have u:=lc (p:=p) (by rw[ex];simp);have A:=(c7.mp u).1
    cases m:p.2 with
    |false=>
     show aR rfl (λz=>by nomatch z) (λ_=>bK ?_);show(.im (.int p.1),.im (.bl af),?_)
     rw[i5,w9 (by rw[m];show bM),filter_nil,bO]
    |true=>
     have v:j5 wo=(pre.filter λp=>p.2).map (λp=>(p.1:Int))++(p.1:Int)::(post.filter λp=>p.2).map λp=>p.1:=by
      unfold j5;simp only[ex,i5,ot m,ba,bE]
     rw[v]at ps;have(o1,o2,o3,o4,o5,Y):=wE (wo:=wo) h1 (psT ps);generalize hT:(pre.filter λp=>p.2).map _=T at *;have y:GpL (eN B wo (reM s) T).ms (eN B wo (reM s) T).es wo:=by rw[Y];show f.up o4 (by change ∀r∈(reM s).ms,r.Ok (Z s.es);rw[a];show e.ok)
     have L:wo.getD (p.1:Int).toNat af=ac:=by simp only[cU,bD,u,m];rfl
     show iS (fI rfl rfl (dN rfl (dN rfl (dN (du (ap rfl (ap (bT (J5 hn o1.es (by rw[Y];show e) y (by lia) (by lia) L Eg (ap rfl (ap rfl rfl)))) rfl))) rfl))) rfl (Ee o1 hB (by lia) (by lia))) ?_;show(.im (.int p.1),.im (.bl ac),?_);rw[i5,ot m,ba,hT]
     unfold eN
     rw[filter_nil,bE,map_nil,eP];rfl
   .rintro M ⟨N,Q,rfl⟩;show iT rfl (_,rfl,rfl,rfl)
abbrev stF(B:LRu)(c:Nat):Nat->Spt->OD×Spt
 | 0,s=>(ab,s,)
 |k+1,s=>if (lrF B (Me c s+1) s).1.isSome then ((lrF B (Me c s+1) s).1.map wyD,(lrF B (Me c s+1) s).2,) else if ((bL B (lrF B (Me c s+1) s).2).1.isSome || (bL B (lrF B (Me c s+1) s).2).2.wt.isEmpty) then bL B (lrF B (Me c s+1) s).2 else stF B c k (bL B (lrF B (Me c s+1) s).2).2
def V6(B:LRu)(bs:LLP)(es:LOB):Prop:=(∃y∈gys B.length (Z bs),∀p∈bQ B bs y,p.sure es=ac)\/∃wo,Grp B es wo/\∃i,wo.getD i af=ac/\es.getD i ab=aa ac
structure V7(n c X3:Nat)(B:LRu)(s:Spt)(R:OD×Spt):Prop where
 ok:SpJ n c X3 B R.2
 bs:R.2.bs=s.bs
 mv:Mvs B s.bs s.es R.2.es
 en:R.1≠ab->V6 B s.bs R.2.es
 tp:∀w,R.1=aa w->∃ds,w=.tup ds
def V8(h:(bL B s).1=aa w):∃ds,w=.tup ds:=by
 unfold bL at h;split at h
 .cases h;show(_,rfl)
 .grind
def none_of{a:Type}{x:Option a}(h:¬x.isSome=ac):x=ab:=by simp_all
def Ei{n c X3:Nat}{B:LRu}(hr:∀r∈B,RuK n r)(hz:Z B<=1000):∀(k:Nat) (s:Spt),SpJ n c X3 B s->Me c s<k->V7 n c X3 B s (stF B c k s)
 | 0,_,_,h=>absurd h (g9 _)
 |k+1,s,h,hk=>by
  have l:=sZ hr _ s h (c8 _);dsimp only[stF];generalize lrF B _ s=R at l;split
  .rename_i d;have(y,j):=xl.mp d;show(l.ok,l.bs,l.mv,(λ_=>.inl (y,l.ye y j)),λw i=>by rw[j]at i;cases i;show(_,rfl))
  .rename_i d;have(m,p,f,z,q,u):=wF hr hz l.ok;rw[l.bs]at f;have x:=l.le;have pt:=λw=>V8 (B:=B) (s:=R.2) (w:=w);generalize bL B R.2=P at *;split
   .show(m,p.trans l.bs,l.mv.trans f,(λe=>.inr (u e)),pt)
   .rename_i g;have h2:P.2.wt≠[]:=λe=>g (by rw[e];show qA _);have v:=q (none_of λe=>g (by rw[e];rfl)) (l.no (none_of d)) h2;have a:=Ei hr hz k P.2 m (by lia);have b:=p.trans l.bs;show(a.ok,a.bs.trans b,(l.mv.trans f).trans (by have:=a.mv;rw[b]at this;show this),(λe=>by have:=a.en e;rw[b]at this;show this),a.tp)
def V9(B:LRu)(s:Spt):dIs ((bL B s).1.getD .non) .non=aa (.bl (!(bL B s).1.isSome)):=by
 unfold bL
 split <;> rfl
def Wb{k:Nat}(hr:∀r∈B,RuK n r)(hz:Z B<=1000)(hn:n<=60)(hB:X3+c<16777216)(h:SpJ n c X3 B s)(E:Me c s<k)(C:k<1000000000):sG l [] (s.S B).o=aa (((stF B c k s).2.S B).o,(stF B c k s).1.getD .non,):=by
 apply fJ;apply aj;show bn rfl ?_;walk_at "nrm";apply aj;show pN (λm M=>∃(a:Spt) (g:Bool) (j:Sl),M=[.deep (.at l (a.S B).o),.im (.bl g),j]/\(g=ac->SpJ n c X3 B a/\Me c a<m/\stF B c m a=stF B c k s)/\(g=af->∃w:OD,j=.im (w.getD .non)/\(w,a,)=stF B c k s)) ?_ _ k _ ⟨s,ac,_,rfl,λ_=>(h,E,rfl),λz=>by nomatch z⟩ C;rintro m M ⟨a,g,j,rfl,u,q⟩;generalize stF B c k s=Z at u q ⊢;show(g,rfl,?_,?_)
 .rintro rfl;have(h',hm,b):=u rfl
  cases m with
  |zero=>show absurd hm (g9 _)
  |succ m=>
   have f:=sZ hr _ a h' (c8 _);have mB:=h'.mB;have v:=VW (l:=l) hr hB h' (c8 _) (by change Me c a+1<_;change iY a.es*_+a.wt.length+1<_;lia);dsimp only[stF]at b;generalize lrF B _ a=R at *;apply aj;show jE (fI rfl rfl rfl rfl v) ?_;apply aj
   cases hR:R.1 with
   |some y=>
    rw[if_pos (by rw[hR];rfl),hR]at b
    show aR rfl (λz=>by nomatch z) (λ_=>bK (bn ((uX rfl (ao (aF (ap (jB qf) rfl) (fW R.2.wt wyD)) rfl kX)).trans rfl) (0,oC _,R.2,af,_,rfl,(λz=>by nomatch z),λ_=>(aa _,rfl,b))))
   |none=>
    rw[if_neg (by rw[hR];show bM)]at b;have(G,L,N,Q,H,T):=wF hr hz f.ok;have x:=V5 (l:=l) hr hz hn hB f.ok;have A:=V9 B R.2;have J:=f.le;generalize bL B R.2=P at *;show jE (fI rfl rfl rfl rfl x) ?_;show bn (uX (ao rfl rfl A) (ao (aF (ap (jB qf) rfl) (fW P.2.wt wyD)) rfl kX)) ?_
    by_cases d:(P.1.isSome || P.2.wt.isEmpty)=ac
    .rw[if_pos d]at b
     have i:(!P.1.isSome && decide ((0:Int)<P.2.wt.length))=af:=by
      rcases(j8 _ _).mp d with z |z
      .rw[z];rfl
      .rw[isEmpty_iff.mp z];show tH _
     rw[i];show(0,oC _,P.2,af,_,rfl,(λz=>by nomatch z),λ_=>(P.1,rfl,b))
    .rw[if_neg d]at b;have p:=none_of λe=>d (by rw[e];rfl);have h2:P.2.wt≠[]:=λe=>d (by rw[e];show qA _);have I:=H p (f.no hR) h2
     have i:(!P.1.isSome && decide ((0:Int)<P.2.wt.length))=ac:=by
      have:=length_pos_iff.mpr h2;rw[p,decide_eq_true (by lia)];rfl
     simp only[i];show⟨m,c8 _,P.2,ac,_,rfl,(λ_=>(G,by lia,b)),λz=>by nomatch z⟩
 .rintro rfl;have(w,rfl,e):=q rfl;rw[<- e];show iT rfl (_,rfl,rfl,rfl)
structure SpB(n c:Nat)(B:LRu)(s:Spt):Prop where
 es:Z s.es=n
 bk:∀b∈s.bs,c6 n b
 tw:d3 c B.length s.bs s.tw
 wv:∀y∈s.wt,y∈gys B.length (Z s.bs)
 ms:s.ms.Perm (dM B)
 st:s.st=[]
 wl:Z s.wt=Z B+Z s.bs
def J8{n q R:Nat}(hn:n<=60):∀(B:LRu) (i c:Nat) (tw:Wt),(∀r∈B,RuK n r/\Z (grd r)<=q)->i+Z B<=R->d3 c R [] tw->d3 (c+64*q*Z B) R [] (nX i B tw)
 | [],_,_,_,_,_,h=>h
 |r::B,i,c,tw,hr,hi,h=>by
  have(f,g):=hr r az;simp only[cv]at hi
  have a:d3 (c+64*q) R [] (fZ (af,i,) (grd r) tw):=by
   show(?_,λp y d=>?_,λj=>?_)
   .rw[<- wm];show(bU.reg hn (vV f) h.wk).le ?_
    lia
   .by_cases e:y=(af,i,)
    .rw[e];show fh.mpr ?_;change i<R
     lia
    .show h.vl p y (gV.mpr ?_);rw[<- nY e p _];show gV.mp d
   .show .inl λp=>?_;rw[nY (λe=>by cases e)]
    rcases h.br j with z |z
    .show z p
    .rw[z p]
     show if_neg λx=>by
      cases x
  have:=J8 hn B (i+1) _ _ (λx b=>hr x (bi _ b)) (by lia) a;rw[cv,Nat.mul_succ,show c+_=c+64*q+64*q*B.length by lia];show this
def Wc{q:Nat}(hn:n<=60)(a:Z es=n)(hr:∀r∈B,RuK n r/\Z (grd r)<=q):SpB n (64*q*Z B) B (spT es B):=by
 show(a,(λb h=>nomatch h),?_,λy c=>?_,tO _,rfl,by change((bu (Z B)).map _).length=_;rw[ay,cC];rfl)
 .have:=J8 (R:=Z B) hn B 0 0 [] hr (by lia) (⟨cj _,λp h=>nomatch h⟩,(λp y h=>nomatch h),λj=>.inl λp=>rfl);rw[lu]at this;show this
 .have(i,hi,rfl):=aH.mp c;show fh.mpr (d5.mp hi)
inductive Wh where
 |ch
 |gd (y:Wy)
 |gp (ks:LI0)
 |wd (i:Int)
abbrev Wh.D:Wh->L2.D
 |.ch=>.non
 |.gd y=>wyD y
 |.gp ks=>.tup [.str "group",.lst (ks.map .int)]
 |.wd i=>.tup [.str "world",.int i]
def mkS(n:Nat)(ks:LI0):LB0:=(bu n).map (inS ks)
def qm(n:Nat)(ks:LI0):Z (mkS n ks)=n:=by unfold mkS;rw[ay,cC]
variable{ks:LI0}
def ma(t0:0<=t)(t1:t<(n:Int)):(mkS n ks).getD t.toNat af=ac↔t∈ks:=by
 delta mkS inS
 rw[bD,cu,qB (by lia)];change(ks.any λx=>x==_)=ac↔_;rw[any_eq_true];constructor
 .rintro⟨x,a,e⟩
  rwa [show t=x by lia]
 .intro h;show(t,h,by rw[beq_iff_eq];lia)
nonrec abbrev eq(G:List Prt)(es:LOB):Prop:=∀p∈G,p.sure es=ac
structure GpR(n:Nat)(B:LRu)(es:LOB)(ks:LI0):Prop where
 nn:∀x∈ks,0<=x/\x<(n:Int)
 nd:ks.Nodup
 i:∃x∈ks,es.getD x.toNat ab=aa ac
 up:∀r∈dM B,r.hd∈ks->r.bodyLost es (mkS n ks)=ac
abbrev Rt(n:Nat)(B:LRu)(bs:LLP)(es:LOB):Wh->Prop
 |.ch=>False
 |.gd y=>y∈gys B.length (Z bs)/\eq (bQ B bs y) es
 |.gp ks=>GpR n B es ks
 |.wd _=>∀k,k<n->es.getD k ab≠ab
nonrec def Stp:=Pr×Wh
nonrec abbrev LSp:=List Stp
def stD(x:Stp):D:=.tup [prD x.1,x.2.D]
abbrev a9(n:Nat):LSp->LOB
 | []=>g6 n ab
 |x::st=>put (a9 n st) x.1.1.toNat x.1.2
abbrev Wh.nc:Wh->Bool
 |.gd _=>ac
 |.gp _=>ac
 | _=>af
structure We(n:Nat)(B:LRu)(bs:LLP)(es:LOB)(x:Stp):Prop where
 t0:0<=x.1.1
 t1:x.1.1<(n:Int)
 op:opn es x.1.1=ac
 ok:(x.2=.ch/\x.1.2=ac/\∀j:Nat,(j:Int)<x.1.1->es.getD j ab≠ab)\/(x.2.nc=ac/\Rt n B bs (put es x.1.1.toNat (!x.1.2)) x.2)
abbrev Tr(n:Nat)(B:LRu)(bs:LLP):LSp->Prop
 | []=>True
 |x::st=>Tr n B bs st/\We n B bs (a9 n st) x
def fq(n:Nat):∀st:LSp,Z (a9 n st)=n
 | []=>mi
 |x::st=>by rw[a9,cb,fq n st]
structure TrS(n:Nat)(B:LRu)(s:Spt)(st:LSp):Prop where
 sv:s.st=st.reverse.map stD
 es:s.es=a9 n st
 tr:Tr n B s.bs st
variable{st:LSp}{w:Wh}
def TrS.pt(h:TrS n B s st)(t0:0<=t)(t1:t<(n:Int))(a:opn s.es t=ac)(c:w.nc=ac)(k:Rt n B s.bs (put s.es t.toNat (!b)) w):TrS n B (s.pt t b w.D) (((t,b,),w,)::st):=by
 show(?_,?_,h.tr,t0,t1,h.es▸a,.inr (c,h.es▸k))
 .change s.st++[_]=_;rw[h.sv,i6,ba];rfl
 .change put s.es _ _=_;rw[h.es];rfl
def TrM(n:Nat)(B:LRu)(st:LSp)(s:Spt):Prop:=∃xt:LSp,TrS n B s (xt++st)/\∀x∈xt,x.2.nc=ac
def TrM.refl(h:TrS n B s st):TrM n B st s:=⟨[],h,λ_ h=>nomatch h⟩
def TrM.pt(h:TrM n B st s)(t0:0<=t)(t1:t<(n:Int))(a:opn s.es t=ac)(c:w.nc=ac)(k:Rt n B s.bs (put s.es t.toNat (!b)) w):TrM n B st (s.pt t b w.D):=by
 have(xt,h,d):=h;show(_::xt,h.pt t0 t1 a c k,λx q=>?_)
 grind
def TrM.same{a:Spt}(h:TrM n B st s)(b:a.st=s.st)(c:a.es=s.es)(d:a.bs=s.bs):TrM n B st a:=by
 have(xt,h,e):=h;show(xt,(by rw[b];show h.sv,by rw[c];show h.es,by rw[d];show h.tr),e)
def Ej{n:Nat}{B:LRu}{y:Wy}{st:LSp}:∀{ps:List Pr} {s:Spt},y∈gys B.length (Z s.bs)->Z s.es=n->(∀p∈bQ B s.bs y,p.Ok (Z s.es))->fK s.es ps->(∀z∈ps,eq (bQ B s.bs y) (put s.es z.1.toNat (!z.2)))->TrM n B st s->TrM n B st (puts s (wyD y) ps)
 | [],_,_,_,_,_,_,h=>h
 |z::ps,s,hy,hl,hG,k,hp,h=>by
  have((a,b),e):=k.op z az;have(d,g):=b8.mp k.nd;show Ej (s:=s.pt z.1 z.2 _) hy ((cb _ _ _).trans hl) (λp q=>by change p.Ok (Z (put s.es z.1.toNat z.2));rw[cb];show hG p q) k.tail (λx c p q=>?_) (h.pt (w:=.gd y) a (by lia) e rfl (hy,hp z az));have((f,i),j):=k.op x (bi _ c);have ne:z.1≠x.1:=λe=>d (aH.mpr (x,c,e.symm));change p.sure (put (put s.es z.1.toNat z.2) x.1.toNat _)=ac;rw[wq (by lia)];show wg (by rw[cb];show hG p q) a (by rw[cb];show b) (wu a f ne e) _ (hp x (bi _ c) p q)
def tq{n c X3:Nat}{B:LRu}{st:LSp}(hr:∀r∈B,RuK n r):∀(k:Nat) (s:Spt),SpJ n c X3 B s->TrM n B st s->TrM n B st (lrF B k s).2
 | 0,_,_,h=>h
 |k+1,s,h,q=>by
  cases a:s.wt with
  |nil=>rw[sX a];show q
  |cons y wt=>
   have(f,_,g):=h.pop a;have d:∀p∈bQ B s.bs y,p.Ok (Z s.es):=by rw[h.es];show n8 hr h.bk
   cases b:prs _ s.es with
   |none=>rw[sY a b];show q.same rfl rfl rfl
   |some ps=>
    rw[qk a b];have(e,i,_):=n6 d b;show tq hr k _ (n4 f e).1 (Ej g h.es d e (λz hz=>((i z).mp hz).2.2) (q.same rfl rfl rfl))
variable{wo':LB0}
def J9(h:p.Ok (Z es))(a:∀t∈nmP p,es.getD t.toNat ab=aa ac->es'.getD t.toNat ab=aa ac)(h2:∀t∈nmP p,(es.getD t.toNat ab=aa af\/wo.getD t.toNat af=ac)->(es'.getD t.toNat ab=aa af\/wo'.getD t.toNat af=ac))(s:p.lost es wo=ac):p.lost es' wo'=ac:=by
 cases p with
 |inn t=>
  have s:(_ || wo.getD t.toNat af)=ac:=s;change(_ || wo'.getD t.toNat af)=ac;rw[j8]at s ⊢
  rcases h2 t az (s.imp beq_iff_eq.mp id)with q |q
  .grind
  .grind
 |out t=>show beq_iff_eq.mpr (a _ az (beq_iff_eq.mp s))
 |least k L=>
  show decide_eq_true (Int.lt_of_le_of_lt (kM λz hz=>((h.1 z hz).2.2,λq=>?_)) (of_decide_eq_true s))
  cases b:(!_ && !_)with
  |true=>rfl
  |false=>
   have:es.getD z.1.toNat ab=aa af\/wo.getD z.1.toNat af=ac:=by
    grind
   rcases h2 z.1 (aH.mpr (z,hz,rfl)) this with u |u
   .grind
   .grind
 |most k L=>
  show decide_eq_true (Int.lt_of_lt_of_le (of_decide_eq_true s) ?_);rw[jl,jl];show kM λz hz=>((h.1 z hz).2.2,λq=>beq_iff_eq.mpr (a _ (aH.mpr (z,hz,rfl)) (beq_iff_eq.mp q)))
variable{r:Rul}
def Wf(g:Z es=n)(hr:r.Ok n)(h:Kp es wo ks r):r.bodyLost es (mkS n ks)=ac:=by
 subst g;have(p,c,l,a):=h;have b:=hr.ps p c;show any_eq_true.mpr (p,c,?_);unfold kpL at a
 by_cases d:p.lost es ((bu (Z es)).map (inS []))=ac
 .show u3 (cT.refl _) (by rw[qm,ay,cC],λi hi=>?_) b d;rw[bD,cu]at hi
  cases e:(bu (Z es))[i]? with
  |none=>rw[e]at hi;nomatch hi
  |some j=>rw[e]at hi;nomatch hi
 .rw[if_neg d]at a;show J9 b (λ_ _ e=>e) (λt f e=>e.imp id λw=>?_) l;have(t0,t1):=qg b t f;show(ma t0 t1).mpr (a t (b7.mpr (sO.mpr f,w)))
def s9.gp(h:s9 es wo ms t ks)(a:Z es=n)(hm:∀r∈ms,r.Ok n)(pm:ms.Perm (dM B))(f:cT es es')(hi:es'.getD t.toNat ab=aa ac):GpR n B es' ks:=by
 subst a;show(λx c=>(h.el x c).1,h.nd,(t,h.mt,hi),λr hr hd=>?_);have hr:=pm.mem_iff.mpr hr;show rJ (λp b z=>u3 f (nA.refl _) ((hm r hr).ps p b) z) (Wf rfl (hm r hr) (h.kp r hr hd))
def Ka{n c X3:Nat}{B:LRu}{wo:LB0}{st:LSp}(hn:n<=60):∀{ts:LI0} {s:Spt},SpJ n c X3 B s->fm n s.ms->GpL s.ms s.es wo->(∀t∈ts,wo.getD t.toNat af=ac)->fK s.es (ts.map λt=>(t,af,))->TrM n B st s->TrM n B st (eN B wo s ts)
 | [],_,_,_,_,_,_,h=>h
 |t::ts,s,h,hm,hg,hw,k,q=>by
  have((a,b),e):=k.op _ az;have b:t<n:=by rw[<- h.es];show b
  have a:0<=t:=a;have(ks,d,_,f):=Eh hn h.es hm hg a b (hw t az);show Ka hn (s:=s.pt t af _) (h.pt a b e).1 hm (hg.up (wC a e) (by rw[h.es];show hm.ok)) (λu g=>hw u (bi _ g)) k.tail ?_;unfold tj;rw[d];show(q.pt (w:=.gp ks) a b e rfl (f.gp h.es hm.ok h.ms (wC a e) (e8 s.es ac (by rw[h.es];lia))))
def Wg(hr:∀r∈B,RuK n r)(hz:Z B<=1000)(hn:n<=60)(h:SpJ n c X3 B s)(q:TrM n B st s):TrM n B st (bL B s).2/\∀w,(bL B s).1=aa w->∃ks,w=(Wh.gp ks).D/\GpR n B (bL B s).2.es ks:=by
 have hm:=fm.of hr hz h.ms;have(f,g,pm,i):=h.rem' hm;have a:fm n (reM s).ms:=(λr q=>hm.ok r (pm.mem_iff.mp q),λr q=>hm.nm r (pm.mem_iff.mp q),λr q=>hm.ne r (pm.mem_iff.mp q),by rw[pm.length_eq];show hm.len);have b:GpL (reM s).ms (reM s).es (cg s.es s.ms).1:=(g.1,λr q=>g.2 r (pm.mem_iff.mp q));have m:TrM n B st (reM s):=q.same rfl rfl rfl;unfold bL
 cases l:inL s.es (cg s.es s.ms).1 with
 |cons x E=>
  show(m,λw e=>?_);cases e;have C:x∈inL s.es (cg s.es s.ms).1:=by rw[l];show az
  have(p,z,rfl):=aH.mp C;have(d,j):=b7.mp z;have (h4,h5):=(b5 _ _).mp j;have y:=(c7.mp (lc d)).1;have(ks,u,_,v):=Eh (t:=p.1) hn f.es a b (by lia) (by rw[<- h.es];lia) (by rw[cU];show h4);show(ks,?_,v.gp f.es a.ok f.ms (cT.refl _) ?_)
  .unfold tj;rw[u];rfl
  .change s.es.getD (p.1:Int).toNat ab=aa ac;rw[cU,bD,(lc d)]
   show eq_of_beq h5
 |nil=>show⟨Ka hn f a b (λt A=>(J6.mp A).2) (tm g.1 l i) m,λw e=>nomatch e⟩
structure StS(n:Nat)(B:LRu)(s:Spt)(R:OD×Spt):Prop where
 tw:R.2.tw=s.tw
 pp:R.2.pp=s.pp
 ct:R.2.ct=s.ct
 en:R.2.en=s.en
 wy:∀w,R.1=aa w->∃wh:Wh,w=wh.D/\wh.nc=ac/\Rt n B s.bs R.2.es wh
def Kb(w:D):∀(ps:List Pr) (s:Spt),(puts s w ps).tw=s.tw/\(puts s w ps).pp=s.pp/\(puts s w ps).ct=s.ct/\(puts s w ps).en=s.en
 | [],_=>(rfl,rfl,rfl,rfl)
 |z::ps,s=>Kb w ps _
def Kc(B:LRu):∀k s,(lrF B k s).2.tw=s.tw/\(lrF B k s).2.pp=s.pp/\(lrF B k s).2.ct=s.ct/\(lrF B k s).2.en=s.en
 | 0,s=>(rfl,rfl,rfl,rfl)
 |k+1,s=>by
  cases e:s.wt with
  |nil=>rw[sX e];show(rfl,rfl,rfl,rfl)
  |cons y wt=>
   cases f:prs _ s.es with
   |none=>rw[sY e f];show(rfl,rfl,rfl,rfl)
   |some ps=>
    rw[qk e f];have(a,b,c,d):=Kc B k _
    have(g,h,i,d'):=Kb _ ps {s with wt:=wt}
    show(a.trans g,b.trans h,c.trans i,d.trans d')
def Kd(B:LRu)(wo:LB0):∀(ts:LI0) (s:Spt),(eN B wo s ts).tw=s.tw/\(eN B wo s ts).pp=s.pp/\(eN B wo s ts).ct=s.ct/\(eN B wo s ts).en=s.en
 | [],_=>(rfl,rfl,rfl,rfl)
 |t::ts,s=>Kd B wo ts _
def wG{n c X3:Nat}{B:LRu}{st:LSp}(hr:∀r∈B,RuK n r)(hz:Z B<=1000)(hn:n<=60):∀(k:Nat) (s:Spt),SpJ n c X3 B s->TrM n B st (lrF B (Me c s+1) s).2->TrM n B st (stF B c (k+1) s).2/\StS n B s (stF B c (k+1) s)
 |k,s,h,lt=>by
  have l:=sZ hr _ s h (c8 _);have(a,b,d,f):=Kc B _ s;dsimp only[stF];generalize lrF B _ s=R at l lt a b d f;split
  .rename_i G;have(y,p):=xl.mp G;show(lt,a,b,d,f,λw e=>?_);rw[p]at e;cases e;show(.gd y,rfl,rfl,l.ye y p)
  .have(q,I,_):=wF hr hz l.ok;have(pt,L):=Wg hr hz hn l.ok lt
   have J:(bL B R.2).2.tw=R.2.tw/\(bL B R.2).2.pp=R.2.pp/\(bL B R.2).2.ct=R.2.ct/\(bL B R.2).2.en=R.2.en:=by
    unfold bL;split
    .show(rfl,rfl,rfl,rfl)
    .show Kd _ _ _ _
   generalize bL B R.2=P at *;have(g,i,j,m):=J;split
   .show(pt,g.trans a,i.trans b,j.trans d,m.trans f,λw e=>?_);have(ks,C,E):=L w e;show(.gp ks,C,rfl,E)
   .cases k with
    |zero=>show⟨pt,g.trans a,i.trans b,j.trans d,m.trans f,λw e=>nomatch e⟩
    |succ k=>
     have(H,u,v,x,z,A):=wG hr hz hn k P.2 q (tq hr _ _ q pt);show(H,u.trans (g.trans a),v.trans (i.trans b),x.trans (j.trans d),z.trans (m.trans f),λw e=>by rw[<- (I.trans l.bs)];show A w e)
nonrec def wS(L:LII)(S:LI0):Int:=bP (λt=>decide (t∈S)) L
def qo(p:Int->Bool)(z:Int×Int)(L:LII):bP p (z::L)=(if p z.1=ac then z.2 else 0)+bP p L:=by
 unfold bP;rw[filter_cons];split
 .rw[bE,sum_cons]
 .omega
def Ke{p:Int->Bool}{t:Int}(h:p t=af):∀L:LII,bP (λu=>p u || u==t) L=bP p L+wt L t
 | []=>rfl
 |z::L=>by
  have e0:wt _ t=bP (λu=>u==t) (z::L):=rfl;have a:wt L t=bP (λu=>u==t) L:=rfl;simp only[e0,qo,qo,qo,(Ke h L),a]
  by_cases e:z.1=t
  .simp only[e,h,beq_self_eq_true];simp
   lia
  .simp only[beq_false_of_ne e,tI];simp
   lia
def Kf{S:LI0}(h:t∉S):wS L (S++[t])=wS L S+wt L t:=by
 rw[<- Ke (decide_eq_false h)];show pJ λz _=>?_;rw[gX];simp
def Kg(p:Int->Bool):∀L:LII,bP p L+bP (λt=>!p t) L=bP (λ_=>ac) L
 | []=>rfl
 |z::L=>by
  rw[qo,qo,qo,<- (Kg p L)]
  cases p z.1 <;> simp <;> lia
def Wi(e:InN n L)(hz:Z L<=100000)(a:LI0)(v:Z a<=1000)(nd:a.Nodup)(lack:Int):∃d,m_7 [.lst (L.map itD),.lst (a.map D.int),.int lack]=aa d/\∃ks:LI0,d=.lst (ks.map D.int)/\(∀k∈ks,k∈a)/\Z ks<=Z a/\(lack<=wS L a->lack<=wS L ks):=by
 apply lS;apply aj;show bn (aF rfl (JD L hz)) ?_;walk_at "nrm";apply aj;show dY rfl ?_;walk_at "nrm";apply aj;show bn rfl ?_;walk_at "nrm";apply aj;show dC a D.int (λpre M=>∃(ks:LI0) (left:Int) (g i:Sl),M=[.im _,.im _,.im _,.im _,.own (ks.map D.int),.im (.int left),g,i]/\(∀k∈ks,k∈pre)/\Z ks<=Z pre/\left=lack-wS L ks/\(0<left->wS L ks=wS L pre)) rfl ([],lack,_,_,rfl,(λk h=>nomatch h),aM _,by rw[show wS L []=0 by unfold wS bP;rw[filter_eq_nil_iff.mpr λz _=>by simp];rfl];lia,λ_=>rfl) ?_ ?_
 .rintro pre t post M ex ⟨ks,left,g,i,rfl,b,h2,j,l⟩
  have c:=λq=>by
   rw[ex]at nd;show(eO.mp nd).2.2 t q t az rfl
  have m:Z pre<Z a:=by rw[ex];simp
  have w:=DV e t;have r:=Kf (L:=L) c;have u:=Kf (L:=L) λq=>c (b t q);show(_,rfl,?_);walk_at "nrm";apply aj;show bn (d:=.int (wt L t)) ?_ ?_
  .rw[<- (qh L).get];change aa ((gP _ _ _).getD _)=_;rw[JB]
  walk_at "nrm";show aR (iL (bp (ao rfl rfl kX)) (bp (ao rfl rfl kX))) (λz=>?_) λz=>?_
  .have(x,y):=(b5 _ _).mp z;apply aj;show fV rfl rfl (by rw[ay];lia) ?_;walk_at "nrm";show(_,rfl,ks++[t],left-wt L t,.im (.int t),.im (.int (wt L t)),?_,λk f=>?_,?_,by lia,λ_=>by lia)
   .rw[ba];rfl
   .rcases bz.mp f with q |q
    .show bV _ (b k q)
    .show ci _ q
   .rw[aS,aS];show Nat.add_le_add_right h2 _
  .show bK (ks,left,_,_,rfl,λk f=>bV _ (b k f),by rw[aS];lia,j,λq=>?_);rw[decide_eq_true q,qz]at z
   lia
 .rintro M ⟨ks,left,g,i,rfl,b,h2,j,l⟩;show lU rfl (iR (ks,rfl,b,h2,λq=>?_))
  by_cases p:0<left
  .rw[l p];show q
  .lia
def Wj(e:Option Bool)(b:Bool):dEq (shD e) (.bl b)=aa (.bl (e==aa b)):=by
 cases e with
 |none=>rfl
 |some c=>cases b <;> cases c <;> rfl
def wth(es:LOB)(b:Bool)(ord:LI0):LI0:=ord.filter λt=>es.getD t.toNat ab==aa b
variable{ord:LI0}
def wH(a:∀t∈ord,0<=t/\t<(Z es:Int))(d:Z ord<=1000)(b:Bool):qb [.lst (ord.map D.int),.lst (es.map shD),.bl b]=aa (.lst ((wth es b ord).map D.int)):=
 lN (congrArg _ (eG ord D.int _ D.int rfl (by lia) λt c=>dL rfl (bp (ao (be rfl rfl (ju (a t c).1 (a t c).2)) rfl (Wj _ _))) λ_=>rfl))
def Kh(L:LII)(hz:Z L<=100000):vN [.lst (L.map itD)]=aa (.int (bP (λ_=>ac) L)):=by
 show cS (cR (aF (ap (bT (eG L itD _ _ rfl (by lia) λz _=>dL rfl rfl λ_=>rfl)) rfl) (yW (λ_=>ac) L)))
structure gW(es:LOB)(ord:LI0):Prop where
 nn:∀t∈ord,0<=t/\t<(Z es:Int)
 nd:ord.Nodup
 al:∀t:Int,0<=t->t<(Z es:Int)->es.getD t.toNat ab≠ab->t∈ord
def gW.len(h:gW es ord):Z ord<=Z es:=qi h.nd h.nn
def Agr(ks:LI0)(es e':LOB):Prop:=Z e'=Z es/\∀k∈ks,e'.getD k.toNat ab=es.getD k.toNat ab
structure wI(es:LOB)(ks:LI0)(P:LOB->Prop):Prop where
 nn:∀k∈ks,(0<=k/\k<(Z es:Int))/\es.getD k.toNat ab≠ab
 ln:Z ks<=60
 ok:∀e',Agr ks es e'->P e'
def Ek:t∈wth es b ord↔t∈ord/\es.getD t.toNat ab=aa b:=by
 unfold wth;rw[b7,beq_iff_eq]
def Wk(h:gW es ord)(a:InN es.length L)(b:Bool):wS L (wth es b ord)=bP (λt=>es.getD t.toNat ab==aa b) L:=pJ λz hz=>by
 rw[gX,decide_eq_true_eq,Ek,beq_iff_eq];show(λq=>q.2,λq=>(h.al z.1 (a z hz).1 (a z hz).2.1 (by grind),q))
def wJ(h:gW es ord)(hn:Z es<=60)(f:InN es.length L)(hz:Z L<=100000)(b:Bool)(lack:Int)(l:lack<=bP (λt=>es.getD t.toNat ab==aa b) L):∃ks:LI0,m_7 [.lst (L.map itD),.lst ((wth es b ord).map D.int),.int lack]=aa (.lst (ks.map D.int))/\wI es ks λe'=>lack<=bP (λt=>e'.getD t.toNat ab==aa b) L:=by
 have m:=h.len;have wl:Z (wth es b ord)<=Z ord:=gz _ _;have(d,e,ks,rfl,g,h2,i):=Wi f hz (wth es b ord) (by lia) (h.nd.sublist ou) lack;show(ks,e,λk j=>?_,by lia,λe' ha=>?_)
 .have(a,c):=Ek.mp (g k j);show(h.nn k a,by rw[c];grind)
 .show tJ (i (by rw[Wk h f b];show l)) (kM λz hz=>((f z hz).2.2,λq=>?_));have q:=of_decide_eq_true q;rw[beq_iff_eq,ha.2 _ q];show(Ek.mp (g _ q)).2
def wK{P:LOB->Prop}(h:0<=t/\t<(Z es:Int))(a:es.getD t.toNat ab=aa b)(k:∀e':LOB,e'.getD t.toNat ab=aa b->P e'):wI es [t] P:=(λx c=>by rw[bw.mp c];show⟨h,by rw[a];show λe=>nomatch e⟩,(by decide:1<=60),λe' ha=>k e' ((ha.2 t az).trans a))
def wL{k:Int}(e:LOB):bP (λt=>!(e.getD t.toNat ab==aa af)) L<=k↔bP (λ_=>ac) L-k<=bP (λt=>e.getD t.toNat ab==aa af) L:=by
 have:=Kg (λt=>e.getD t.toNat ab==aa af) L;lia
def sure_by(p:Prt)(c:p.Ok (Z es))(h:gW es ord)(hn:Z es<=60)(d:p.sure es=ac)(a:fo M=aa p.obj)(ha:fa M=aa [.lst (es.map shD),.lst (ord.map D.int)]):
  ∃ks:LI0,bh (aN "In" "sure_by" Ce fo fa) (bh (aN "Out" "sure_by" Co fo fa) (bh (aN "Least" "sure_by" Ci fo fa) (aN "Most" "sure_by" Cm fo fa))) M=aa (.lst (ks.map D.int))/\wI es ks λe'=>p.sure e'=ac:=by
 have f:=h.len
 cases p with
 |inn t=>show([t],dQ ((cy a rfl ha).trans rfl),wK c (beq_iff_eq.mp d) λe' q=>beq_iff_eq.mpr q)
 |out t=>show([t],bI (bJ a (by decide)) (dQ ((cy a rfl ha).trans rfl)),wK c (beq_iff_eq.mp d) λe' q=>beq_iff_eq.mpr q)
 |least k L=>
  have(ks,e,b):=wJ h hn c.1 c.2 ac k (of_decide_eq_true d)
  show(ks,bI (bJ a (by decide)) (bI (bJ a (by decide)) (dQ ((cy a rfl ha).trans (cS (cR (aF (ap rfl (ap (aF rfl (wH h.nn (by lia) ac)) (ap rfl rfl))) e)))))),b.nn,b.ln,λe' q=>decide_eq_true (b.ok e' q))
 |most k L=>
  have(ks,e,b):=wJ h hn c.1 c.2 af _ ((wL es).mp (of_decide_eq_true d));show(ks,bI (bJ a (by decide)) (bI (bJ a (by decide)) (bI (bJ a (by decide)) ((cy a rfl ha).trans (cS (cR (aF (ap rfl (ap (aF rfl (wH h.nn (by lia) af)) (ap (ao (aF rfl (Kh L c.2)) rfl jX) rfl))) e)))))),b.nn,b.ln,λe' q=>decide_eq_true ((wL e').mpr (b.ok e' q)))
def Wl(p:Prt)(c:p.Ok (Z es))(m:Z wo=Z es)(h:gW es ord)(hn:Z es<=60)(d:p.lost es wo=ac)(a:fo M=aa p.obj)(ha:fa M=aa [.lst (es.map shD),.lst (wo.map D.bl),.lst (ord.map D.int)]):
  ∃ks:LI0,bh (aN "In" "lost_by" Cq fo fa) (bh (aN "Out" "lost_by" Cy fo fa) (bh (aN "Least" "lost_by" Ct fo fa) (aN "Most" "lost_by" Cv fo fa))) M=aa (.lst (ks.map D.int))/\wI es ks λe'=>p.lost e' wo=ac:=by
 have r:=h.len
 cases p with
 |inn t=>
  have f:=jW c.1 (by rw[m];show c.2);have d:(_ || wo.getD t.toNat af)=ac:=d
  cases g:wo.getD t.toNat af with
  |true=>
   rw[g]at f
   show([],dQ ((cy a rfl ha).trans (cS (cR (lT (cH (be rfl rfl f) rfl) (λ_=>rfl) λe=>nomatch e)))),(λk q=>nomatch q),cj _,λe' _=>by change(_ || wo.getD t.toNat af)=ac;rw[g];show qA _)
  |false=>
   rw[g]at f;rw[g,tI]at d
   show([t],dQ ((cy a rfl ha).trans (cS (cR (lT (cH (be rfl rfl f) rfl) (λe=>nomatch e) λ_=>rfl)))),wK c (beq_iff_eq.mp d) λe' q=>by change(_ || _)=ac;rw[q];rfl)
 |out t=>show([t],bI (bJ a (by decide)) (dQ ((cy a rfl ha).trans rfl)),wK c (beq_iff_eq.mp d) λe' q=>beq_iff_eq.mpr q)
 |least k L=>
  have n:=gz (λz:Int×Int=>!(wo.getD z.1.toNat af)) L;have i:InN es.length (L.filter λz=>!(wo.getD z.1.toNat af)):=λz hz=>c.1 z (b7.mp hz).1;have j:∀e':List _,bP _ L=_:=λe'=>(FL (λt=>!(e'.getD t.toNat ab==aa af)) (λt=>!(wo.getD t.toNat af)) L).symm;have l:=Je c.1 m c.2;have d:=of_decide_eq_true d;rw[j]at d;generalize L.filter _=left at n i j l d;have(ks,e,b):=wJ h hn i (by have:=c.2;lia) af (bP (λ_=>ac) left-k+1) (by have:=(wL es).mp (by lia:bP _ left<=k-1);lia);show(ks,bI (bJ a (by decide)) (bI (bJ a (by decide)) (dQ ((cy a rfl ha).trans ?_))),b.nn,b.ln,λe' q=>decide_eq_true ?_)
  .show cS (jU (GD (aF rfl l)) (cR (aF (ap rfl (ap (aF rfl (wH h.nn (by lia) af)) (ap (ao (ao (aF rfl (Kh left (by have:=c.2;lia))) rfl jX) rfl gm) rfl))) e)))
  .rw[j];have:=b.ok e' q;have:=(wL (k:=k-1) (L:=left) e').mpr (by lia)
   lia
 |most k L=>
  have(ks,e,b):=wJ h hn c.1 c.2 ac _ (of_decide_eq_true d);show(ks,bI (bJ a (by decide)) (bI (bJ a (by decide)) (bI (bJ a (by decide)) ((cy a rfl ha).trans (cS (cR (aF (ap rfl (ap (aF rfl (wH h.nn (by lia) ac)) (ap (ao rfl rfl gm) rfl))) e)))))),b.nn,b.ln,λe' q=>decide_eq_true (b.ok e' q))
structure qp(es:LOB)(gs:LI0)(P:LOB->Prop):Prop where
 nn:∀k∈gs,(0<=k/\k<(Z es:Int))/\es.getD k.toNat ab≠ab
 ln:Z gs<=100000
 ok:∀e',Agr gs es e'->P e'
variable{ys:LI0}{e':LOB}
def Agr.left{E:LI0}(h:Agr (E++ys) es e'):Agr E es e':=(h.1,λk a=>h.2 k (bV _ a))
def Agr.right{E:LI0}(h:Agr (E++ys) es e'):Agr ys es e':=(h.1,λk a=>h.2 k (ci _ a))
def Wm{a:Type}(y:a)(l:List a):((y::l).drop (HT.sIx (y::l).length 0 ab)).take (HT.sIx (y::l).length (y::l).length (aa 1)-HT.sIx (y::l).length 0 ab)=[y]:=by
 rfl
variable{es0:LOB}{b c:L2.D}
def Wn(hl:Z es=n)(hn:n<=60)(hm:fm n ms)(pm:ms.Perm (dM B))(h:gW es ord)(m:GpR n B es ks):
  ∃gs:LI0,o_9 [slf es0 a b c d e E ms,.lst (es.map shD),.lst (ks.map D.int),.lst (ord.map D.int)]=aa (gs.map D.int)/\qp es gs λe'=>GpR n B e' ks:=by
 subst hl;have ol:=h.len;have kl:=qi m.nd m.nn;have hml:=hm.len
 suffices z:wp b_9 _ (λr=>∃gs:LI0,r=.rtO (gs.map D.int)/\qp es gs λe'=>GpR es.length B e' ks) by
  have(r,e,gs,rfl,h):=z;show(gs,nE e,h)
 apply aj;show bn (aF (ap (aF rfl (fW es shD)) (ap rfl rfl)) (Jc es.length ks (by lia) (by lia) (by lia))) ?_;apply aj;have C:∀t:Int,0<=t->t<_->atI ((mkS es.length ks).map D.bl) t=aa _:=λt t0 t1=>jW t0 (by rw[qm];show t1);show dY (rQ (bT (eG ord D.int _ D.int rfl (by lia) λt T=>dL rfl (iL (cH (be rfl rfl (C t (h.nn t T).1 (h.nn t T).2)) rfl) (bp (ao (be rfl rfl (ju (h.nn t T).1 (h.nn t T).2)) rfl (pI _ _)))) λ_=>rfl)) rfl rfl) ?_
 obtain⟨g,gl,hg0,J⟩:∃g gl,(ord.filter λt=>(mkS es.length ks).getD t.toNat af && (es.getD t.toNat ab==aa ac))=g::gl/\g∈ord/\g∈ks/\es.getD g.toNat ab=aa ac:=by
  have(x,U,ex):=m.i;have(x0,x1):=m.nn x U;have I:x∈ord.filter λt=>(mkS es.length ks).getD t.toNat af && (es.getD t.toNat ab==aa ac):=b7.mpr (h.al x x0 x1 (by rw[ex];show λq=>nomatch q),by rw[(ma x0 x1).mpr U,ex];rfl)
  cases j:ord.filter _ with
  |nil=>rw[j]at I;nomatch I
  |cons y l=>
   have hy:y∈ord.filter λt=>(mkS es.length ks).getD t.toNat af && (es.getD t.toNat ab==aa ac):=by rw[j];show az
   have(y1,y2):=b7.mp hy;have(y2,y3):=(b5 _ _).mp y2;have(z0,z1):=h.nn y y1;show(y,l,rfl,y1,(ma z0 z1).mp y2,beq_iff_eq.mp y3)
 rw[hg0,Wm];apply aj;show dC ms mkD (λpre M=>∃(gs:LI0) (v6 v7:Sl),M=[.im _,.im _,.im _,.im _,.im _,.own (gs.map D.int),v6,v7]/\(∀k∈gs,(0<=k/\k<_)/\es.getD k.toNat ab≠ab)/\Z gs<=1+60*Z pre/\g∈gs/\∀r∈pre,r.hd∈ks->∀e',Agr gs es e'->r.bodyLost e' (mkS es.length ks)=ac) rfl ⟨[g],_,_,rfl,(λk u=>by rw[bw.mp u];show⟨h.nn g J.1,by rw[J.2.2];show λq=>nomatch q⟩),aM _,az,λr hr=>nomatch hr⟩ ?_ ?_
 .rintro pre r post M ex ⟨gs,v6,v7,rfl,L,h2,N,Q⟩;have w:r∈ms:=by rw[ex];simp
  have hpl:Z pre<Z ms:=by rw[ex];simp
  have A:=hm.ok r w;have(Y,d1):=A.hd (hm.ne r w);show(_,rfl,?_);show aR (cH (be rfl rfl (C r.hd Y d1)) rfl) (λz=>?_) λz=>?_
  .have u:=(ma Y d1).mp z
   cases j:r.ps.find? _ with
   |none=>
    have:=DN (es:=es) (wo:=mkS es.length ks) r;rw[j,(m.up r (pm.mem_iff.mp w) u)]at this
    nomatch this
   |some p=>
    have H:=w5 j;have G:=DM (wo:=mkS es.length ks) r.ps A.ps (qm _ _);rw[j]at G;have(js,e1,e2):=Wl (M:=[.im _,.im _,.im _,.im _,.im _,.own _,.im _,.im _]) (fo:=aw m_4 (ag (ae 7) (ag (ae 1) (ag (ae 4) λ_=>aa [])))) (fa:=ag (ae 1) (ag (ae 4) (ag (ae 3) λ_=>aa []))) p (A.ps p H) (qm _ _) h hn (find?_some j) (aF rfl G) rfl;have:=e2.ln;show(_,DF e1 rfl (by rw[ay,ay];lia),gs++js,_,_,by rw[ba];rfl,λk u=>?_,?_,bV _ N,λr' v f e' ha=>?_)
    .rcases bz.mp u with q |q
     .show L k q
     .show e2.nn k q
    .simp only[aS,aS,f6];lia
    .rcases bz.mp v with q |q
     .show Q r' q f e' ha.left
     .rw[bw.mp q];show any_eq_true.mpr (p,H,e2.ok e' ha.right)
  .show bK (gs,_,_,rfl,L,by rw[aS];lia,N,λr' v f=>?_)
   rcases bz.mp v with q |q
   .show Q r' q f
   .rw[bw.mp q]at f;rw[(ma Y d1).mpr f]at z
    nomatch z
 .rintro M ⟨gs,v6,v7,rfl,L,h2,N,Q⟩;show lU rfl (gs,rfl,L,by lia,λe' ha=>(λx U=>m.nn x U,m.nd,(g,J.2.1,by rw[ha.2 g N];show J.2.2),λr hr u=>Q r (pm.mem_iff.mpr hr) u e' ha))
def Wo{bs:LLP}(hr:∀r∈B,RuK n r)(a:∀b∈bs,c6 n b)(hn:n<=60)(y:Wy):Z (bQ B bs y)<=1001:=by
 have(z,j):=y
 cases z with
 |true=>
  change(brg (bs.getD j [])).length<=_;unfold brg;rw[ay];have:=(Ec a j).len
  lia
 |false=>
  change(((B[j]?).map grd).getD []).length<=_
  cases e:B[j]? with
  |none=>show cj _
  |some r=>show DH (hr r (dS e))
def Wp{bs:LLP}(I:Z es=n)(hn:n<=60)(hr:∀r∈B,RuK n r)(H:∀b∈bs,c6 n b)(hm:fm n ms)(pm:ms.Perm (dM B))(h:gW es ord)(l:Rt n B bs es w):
  ∃gs:LI0,o_3 [slf es0 a b (gdT B bs) d e E ms,.lst (es.map shD),w.D,.lst (ord.map D.int)]=aa (gs.map D.int)/\qp es gs λe'=>Rt n B bs e' w:=by
 suffices z:wp b_3 _ (λr=>∃gs:LI0,r=.rtO (gs.map D.int)/\qp es gs λe'=>Rt n B bs e' w) by
  have(r,e,gs,rfl,h):=z;show(gs,nE e,h)
 cases w with
 |ch=>show l.elim
 |wd i=>
  apply aj;show iQ (Rf (ap (aF rfl (fW es shD)) rfl) (by lia) (by lia)) (_,rfl,λk c=>?_,by rw[ay,cC];lia,λe' ha k c=>?_)
  .have(j,m,rfl):=aH.mp c;have:=d5.mp m;show((by lia,by lia),by rw[cU];show l j (by lia))
  .have:=ha.2 _ (aH.mpr (k,d5.mpr (by lia),rfl));rw[cU]at this;rw[this]
   show l k c
 |gp ks=>
  have(gs,u,f):=Wn I hn hm pm h l;apply aj;show aR rfl (λz=>nomatch z) λ_=>bK ?_;apply aj;show iQ ?_ (gs,rfl,f);change(if "Seeking"="Seeking" /\ List.contains (spN++(["paper","count","ended"]:LSt)) "grounds_of_group"=af then (o_9 [slf es0 a b _ d e E ms,_,_,_]).bind λB=>if B.all D.flat then aa B else ab else ab)=_
  rw[if_pos (rfl,rfl),u,aA,if_pos (all_eq_true.mpr λd hd=>by have(z,_,rfl):=aH.mp hd;rfl)]
 |gd y=>
  have(J,Q):=l;have L:=Wo hr H hn y;have ne:∀t:Str,(wyS y.1==t)=af->mB (m2 dEq (mIx (ar 2) (kI 0)) (λ_=>aa _)) (eZ 6 [slf es0 a b (gdT B bs) d e E ms,.lst (es.map shD),(Wh.gd y).D,.lst (ord.map D.int)])=aa af:=λt T=>bp (ao rfl rfl (by rw[rH,T]));apply aj
  show aR (ne "world" (by cases y.1 <;> decide)) (λz=>nomatch z) λ_=>bK ?_
  apply aj
  show aR (ne "group" (by cases y.1 <;> decide)) (λz=>nomatch z) λ_=>bK ?_
  apply aj;show dY rfl ?_;apply aj;show dC _ Prt.obj (λpre M=>∃(gs:LI0) (G:Sl),M=[.im _,.im _,.im _,.im _,.own (gs.map D.int),G]/\(∀k∈gs,(0<=k/\k<Z es)/\es.getD k.toNat ab≠ab)/\Z gs<=60*Z pre/\∀p∈pre,∀e',Agr gs es e'->p.sure e'=ac) (e7 (d:=gdD B bs y) ?_ rfl) ⟨[],_,rfl,(λk c=>nomatch c),aM _,λp A=>nomatch A⟩ ?_ ?_
  .have(j,m):=oq J;change(aU (wyK y) _).bind _=_;simp only[D7 (λ_ _=>D3) (JP _ _) m,aA,cu,m];rfl
  .rintro pre p post M ex ⟨gs,G,rfl,v,h2,x⟩;have g:p∈bQ B bs y:=by rw[ex];simp
   have N:Z pre<Z (bQ B bs y):=by rw[ex];simp
   show(_,rfl,?_);walk_at "nrm";have(js,u,f):=sure_by (M:=[.im _,.im _,.im (Wh.gd y).D,.im _,.own _,.im p.obj]) (fo:=ae 5) (fa:=ag (ae 1) (ag (ae 3) λ_=>aa [])) p (by rw[I];show(n8 hr H) p g) h (by lia) (Q p g) rfl rfl;have:=f.ln;show(_,DF u rfl (by rw[ay,ay];lia),gs++js,_,by rw[ba];rfl,λk c=>?_,?_,λU C e' ha=>?_)
   .rcases bz.mp c with q |q
    .show v k q
    .show f.nn k q
   .rw[aS,aS,f6];lia
   .rcases bz.mp C with q |q
    .show x U q e' ha.left
    .rw[bw.mp q];show f.ok e' ha.right
  .rintro M ⟨gs,G,rfl,v,h2,x⟩;show lU rfl (gs,rfl,v,by lia,λe' ha=>(J,λp A=>x p A e' ha))
def Wq{a b c:LOB}(f:cT a b)(g:cT b c):cT a c:=(g.len.trans f.len,λi=>by
 rcases f.at' i with q |q
 .grind
 .rcases g.at' i with z |z
  .grind
  .grind)
def iZ{bs:LLP}:∀(E:LSp) {st:LSp},Tr n B bs (E++st)->Tr n B bs st/\cT (a9 n st) (a9 n (E++st))/\∀x∈E,(a9 n st).getD x.1.1.toNat ab=ab
 | [],st,h=>⟨h,cT.refl _,λx b=>nomatch b⟩
 |y::E,st,h=>by
  have(d,h2):=h;have(a,f,c):=iZ E d;show(a,Wq f (wC h2.t0 h2.op),λx b=>?_)
  rcases bc.mp b with e |e
  .rw[e]
   rcases f.at' (S y.1.1) with q |q
   .lia
   .rw[<- q];show iX h2.op
  .grind
def El{bs:LLP}:∀{st:LSp},Tr n B bs st->∀t:Int,0<=t->(a9 n st).getD t.toNat ab≠ab->∃x∈st,x.1.1=t
 | [],_,t,_,h=>absurd (by
   change(g6 n ab).getD t.toNat ab=ab;rw[bD,om]
   split <;> rfl) h
 |x::st,h,t,t0,hs=>by
  by_cases e:x.1.1=t
  .grind
  .have:=h.2.t0;rw[a9,da _ _ (by lia)]at hs;have(y,a,e):=El h.1 t t0 hs
   grind
variable{x:Stp}
def wM{bs:LLP}{E:LSp}(h:Tr n B bs (E++x::st)):(a9 n (E++x::st)).getD x.1.1.toNat ab=aa x.1.2:=by
 have(a,f,_):=iZ E h;have:=a.2.t0;have:=a.2.t1;have e:(a9 n (x::st)).getD x.1.1.toNat ab=aa x.1.2:=e8 _ _ (by rw[fq];lia)
 rcases f.at' (S x.1.1) with q |q
 .grind
 .grind
def n9{bs:LLP}:∀{st:LSp},Tr n B bs st->(st.map (·.1.1)).Nodup
 | [],_=>fA
 |x::st,h=>by
  show b8.mpr (λq=>?_,n9 h.1);have(y,a,e):=aH.mp q;have(p,r,rfl):=mn a;have:=wM h.1;rw[e,iX h.2.op]at this
  grind
def jF{bs:LLP}(h:Tr n B bs st)(b:x∈st):0<=x.1.1/\x.1.1<(n:Int):=by
 have(p,r,rfl):=mn b;have(a,_,_):=iZ p h;show(a.2.t0,a.2.t1)
def oa(st:LSp):LI0:=st.reverse.map (·.1.1)
def Ki{bs:LLP}(h:Tr n B bs st)(c:Z es=n)(d:∀t:Int,0<=t->es.getD t.toNat ab≠ab->(a9 n st).getD t.toNat ab≠ab):gW es (oa st):=by
 subst c;unfold oa;show(λt a=>?_,?_,λt t0 t1 a=>?_)
 .have(x,b,rfl):=aH.mp a;show jF h (g7.mp b)
 .rw[qI];show pairwise_reverse.mpr ((n9 h).imp λq e=>q e.symm)
 .have(x,b,e):=El h t t0 (d t t0 a)
  grind
def nfF(nd:LB0)(ord:LI0):LI0:=(ord.filter λt=>nd.getD t.toNat af)++ord.filter λt=>!nd.getD t.toNat af
def Wr{nd:LB0}(b:∀t∈ord,0<=t/\t<(Z nd:Int))(d:Z ord<=1000):vP [.lst (ord.map D.int),.lst (nd.map D.bl)]=aa (.lst ((nfF nd ord).map D.int)):=by
 have c:=gz (λt:Int=>nd.getD t.toNat af) ord;have h2:=gz (λt:Int=>!nd.getD t.toNat af) ord;show lN ?_;unfold nfF;rw[ba];show congrArg _ (Ja (bT (eG ord D.int _ D.int rfl (by lia) λt a=>dL rfl (cH (be rfl rfl (jW (b t a).1 (b t a).2)) rfl) λ_=>rfl)) (bT (eG ord D.int _ D.int rfl (by lia) λt a=>dL rfl (nu (cH (be rfl rfl (jW (b t a).1 (b t a).2)) rfl)) λ_=>rfl)) (by grind))
def gW.nf(h:gW es ord)(nd:LB0):gW es (nfF nd ord):=by
 have p:(nfF nd ord).Perm ord:=filter_append_perm _ _;show(λt a=>h.nn t (p.mem_iff.mp a),p.nodup_iff.mpr h.nd,λt t0 t1 a=>p.mem_iff.mpr (h.al t t0 t1 a))
nonrec def Ls:=Option Pr×Wh
abbrev tu(n:Nat)(B:LRu)(bs:LLP):LOB->List Ls->Prop
 | _,[]=>False
 |u,x::l=>match x.1 with
  |none=>l=[]/\Rt n B bs u x.2
  |some z=>opn u z.1=ac/\Rt n B bs (put u z.1.toNat (!z.2)) x.2/\tu n B bs (put u z.1.toNat z.2) l
abbrev prO:Option Pr->D
 |none=>.non
 |some z=>prD z
def dnD(x:Ls):D:=.tup [prO x.1,x.2.D]
structure LnS where
 nd:LB0
 bar:List Pr
 dn:List Ls
 post:LSp
def chs(st:LSp):List Pr:=(st.filter λx=>!x.2.nc).map (·.1)
structure LnI(n:Nat)(B:LRu)(bs:LLP)(st pre:LSp)(q:LnS):Prop where
 sp:st=pre++q.post
 nl:Z q.nd=n
 bl:q.bar.Sublist (chs pre)
 dl:Z q.dn<=Z pre+1
 dt:∀x∈q.dn,∀z,x.1=aa z->∃y∈pre,y.1=z/\y.2=x.2/\y.2.nc=ac
 rl:∀u:LOB,Z u=n->(∀t:Int,0<=t->t<(n:Int)->q.nd.getD t.toNat af=ac->(a9 n q.post).getD t.toNat ab≠ab->u.getD t.toNat ab=(a9 n q.post).getD t.toNat ab)->(∀z∈q.bar,u.getD z.1.toNat ab=aa z.2)->(∀x∈q.dn,∀z,x.1=aa z->opn u z.1=ac)->tu n B bs u q.dn.reverse
def qr(h:z∈chs st):∃x∈st,x.1=z/\x.2.nc=af:=by
 have(x,a,e):=aH.mp h
 grind
def Kj(st:LSp):Z (chs st)<=Z st:=by
 unfold chs
 grind
def orS(nd:LB0)(gs:LI0):LB0:=gs.foldl (λnd g=>nd.set g.toNat ac) nd
def Em:∀(gs:LI0) (nd:LB0),Z (orS nd gs)=Z nd
 | [],_=>rfl
 |g::gs,nd=>by
  change(orS _ gs).length=_;rw[Em gs,iy]
def En{t:Int}(t0:0<=t):∀(gs:LI0) (nd:LB0),t<(Z nd:Int)->(nd.getD t.toNat af=ac\/t∈gs)->(orS nd gs).getD t.toNat af=ac
 | [],_,_,h=>h.elim id λq=>nomatch q
 |g::gs,nd,hl,h=>by
  show En t0 gs _ (by rw[iy];show hl) ?_
  by_cases e:t=g
  .show .inl ?_;rw[bD,<- e,j9 (by lia)];rfl
  .rcases h with q |q
   .show .inl ?_;rw[bD,List.getElem?_set];split
    .split
     .rfl
     .lia
    .rw[<- bD];show q
   .show .inr (by rcases bc.mp q with z |z;show absurd z e;show z)
def tz{u:LOB}(h:u.getD t.toNat ab=ab):opn u t=ac:=by unfold opn;rw[h];rfl
variable{pre post:LSp}{q:LnS}
def LnI.no{bs:LLP}(h:LnI n B bs st pre q)(e:q.post=x::post)(tr:Tr n B bs (x::post))(hn:q.nd.getD x.1.1.toNat af=af):LnI n B bs st (pre++[x]) {q with post:=post}:=by
 show(by rw[h.sp,e,cK];rfl,h.nl,?_,by rw[aS];have:=h.dl;change Z q.dn<=_+1+1;lia,λy g z b=>?_,λu i ha c d=>h.rl u i (λt t0 t1 hd a=>?_) c d)
 .show h.bl.trans ?_;unfold chs;rw[i5,ba];show w6 _ _
 .have(w,f,k):=h.dt y g z b;show(w,bV _ f,k)
 .have ne:t≠x.1.1:=λq=>by rw[q,hn]at hd;nomatch hd
  rw[e,a9,da _ _ (by lia)]at a ⊢;show ha t t0 t1 hd a
def LnI.ch{bs:LLP}(h:LnI n B bs st pre q)(e:q.post=x::post)(tr:Tr n B bs (x::post))(g:x.2.nc=af):LnI n B bs st (pre++[x]) {q with bar:=q.bar++[x.1],post:=post}:=by
 have l:=tr.2.t0;show(by rw[h.sp,e,cK];rfl,h.nl,?_,by rw[aS];have:=h.dl;change Z q.dn<=_+1+1;lia,λy i z c=>?_,λu j ha a d=>h.rl u j (λt t0 t1 hd b=>?_) (λz hz=>a z (bV _ hz)) d)
 .unfold chs;rw[i5,ba,ot (by rw[g];rfl)];show h.bl.append (qJ _)
 .have(w,f,k):=h.dt y i z c;show(w,bV _ f,k)
 .by_cases ne:t=x.1.1
  .rw[e,ne,a x.1 (ci _ az)];show(e8 _ _ (by rw[fq];lia)).symm
  .rw[e,a9,da _ _ (by lia)]at b ⊢;show ha t t0 t1 hd b
variable{gs:LI0}
def LnI.nc{bs:LLP}(h:LnI n B bs st pre q)(e:q.post=x::post)(tr:Tr n B bs st)(M:x.2.nc=ac)(H:qp (put (a9 n post) x.1.1.toNat (!x.1.2)) gs λe'=>Rt n B bs e' x.2):LnI n B bs st (pre++[x]) (orS q.nd gs,q.bar,q.dn++[(aa x.1,x.2,)],post):=by
 have p:Tr n B bs (x::post):=by
  rw[h.sp,e]at tr;show(iZ pre tr).1
 have N:=p.2.t0
 have d:=λy a i=>by
  have:=n9 tr;rw[h.sp,e,ba]at this;show(eO.mp this).2.2 y.1.1 (aH.mpr (y,a,rfl)) x.1.1 az i
 have pr:∀y∈pre,0<=y.1.1:=λy a=>(jF tr (by rw[h.sp];show bV _ a)).1;show(by rw[h.sp,e,cK];rfl,(Em _ _).trans h.nl,?_,by rw[aS,aS];have:=h.dl;change _+1<=_+1+1;lia,λy a z b=>?_,λu J ha L G=>?_)
 .show h.bl.trans ?_;unfold chs;rw[i5,ba];show w6 _ _
 .rcases bz.mp a with m |m
  .have(w,j,k):=h.dt y m z b;show(w,bV _ j,k)
  .cases bw.mp m;cases b;show(x,ci _ az,rfl,rfl,M)
 .have ne:∀t:Int,0<=t->t≠x.1.1->∀c,(put u x.1.1.toNat c).getD t.toNat ab=u.getD t.toNat ab:=λt t0 q c=>da u c (by lia);have nl:=h.nl;rw[mj];show((G _ (ci _ az) x.1 rfl),H.ok _ (by simp only[cb,cb,J,fq],λg f=>?_),h.rl _ (by rw[cb];show J) (λt t0 t1 hd I=>?_) (λz hz=>?_) λy a z b=>?_)
  .have((l,C),E):=H.nn g f;rw[cb,fq]at C
   by_cases r:g=x.1.1
   .rw[r,e8 _ _ (by lia),e8 _ _ (by rw[fq];lia)]
   .rw[ne g l r,da _ _ (by lia)];rw[da _ _ (by lia)]at E;show ha g l C (En l gs _ (by lia) (.inr f)) E
  .by_cases v:t=x.1.1
   .rw[e,v,e8 _ _ (by lia)];show(e8 _ _ (by rw[fq];lia)).symm
   .rw[e,a9,da _ _ (by lia)]at I;rw[ne t t0 v,e,a9,da _ _ (by lia)];show ha t t0 t1 (En t0 gs _ (by lia) (.inl hd)) I
  .have(y,a,i,_):=qr (h.bl.subset hz);rw[<- i,ne _ (pr y a) (d y a),i];show L z hz
  .have(w,j,A,_):=h.dt y a z b;show tz ?_;rw[<- A,ne _ (pr w j) (d w j),A];show iX (G y (bV _ a) z b)
def Kk{b C w:Type}{g:D->LS->Option LS}{F:MF3}(f:b->D)(R:C->w->LS->Prop)(J:List b->C->Prop)(all:List b)
 (step:∀pre x post s,all=pre++x::post->J pre s->∃a,J (pre++[x]) a/\∀l M,R s l M->∃ρ1,g (f x) M=aa ρ1/\wp F ρ1 λr=>∃ρ',r=.nx ρ'/\R a l ρ'):∀(E pre:List b) (s:C),all=pre++E->J pre s->∃a,J all a/\∀l M,R s l M->∃ρ',iJ g F (E.map f) M=aa (.nx ρ')/\R a l ρ'
 | [],pre,s,e,h=>(s,by rw[e,bO];show h,λl M r=>(M,rfl,r))
 |x::E,pre,s,e,h=>by
  have(s1,n,p):=step pre x E s e h;have(s2,h2,q):=Kk f R J all step E _ s1 (by rw[e,cK];rfl) n;show(s2,h2,λl M r=>?_);have(ρ1,i,o,j,c,rfl,u):=p l M r;have(d,m,v):=q l c u;show(d,?_,v);rw[bE,iJ,i,aA,j];show m
def Eo{cn f:Str}{F:MF3}(h:aX cn f (aI i) M=aa (lsO ds,R,))(k:wp F (M.set i (.deep (R (.fz (.lst ds))))) K):wp (nO i cn f F) M K:=by
 have(o,e,q):=k;show(o,by unfold nO;rw[h,aA,wj,aA];show e,q)
def Spt.F(B:LRu)(s:Spt):O:=iU (s.S B).tl [lsO (s.es.map shD),.fz (.lst s.st),lsO (s.bs.map eM),.dT (s.S B).gk ((s.S B).gd.map .fz),wsO (wtW s.tw),lsO (s.wt.map wyD),.fz (.lst (s.ms.map mkD))]
def Ws:cP 0 (.deep (.at l (s.F B))::M)=aa (s.D B):=by
 have k:(s.F B).kn=ac:=by
  dsimp only[Spt.F,Spt.S,lsO,wsO];simp only[List.map,lq,oA,O.kn,O.kns,sK,qy];show Ef _
 have d:(s.F B).toD=s.D B:=by
  dsimp only[Spt.D,Spt.F,Spt.S,Spr.o];simp only[lsO,O.toD,O.toDs,yy,lq]
 change(if (O.at l _).kn=ac then aa (O.at l _).toD else ab)=_;rw[O.kn,k,if_pos rfl,O.toD,d]
def Kl(a:w≠.ch):sE [w.D]=aa w.D:=by
 cases w with
 |ch=>show absurd rfl a
 |wd i=>rfl
 |gp ks=>rfl
 |gd y=>show cS (cR (lT (b:=af) (bp (ao rfl rfl (by rw[rH,show(wyS y.1 == "group")=af by cases y.1 <;> decide]))) (λe=>nomatch e) λ_=>rfl))
variable{b:Bool}
def Km{k:Nat}(h:es.getD k ab=ab)(a:k<Z es):((put es k b).map shD).set k .non=es.map shD:=by
 unfold put;rw[g8,set_set];show nJ ?_;rw[bD,b6 a]at h;have h:es[k]=ab:=h;rw[cu,b6 a,h];rfl
def Wu{k:Nat}{c:Bool}:((put es k b).map shD).set k (.bl c)=(put es k c).map shD:=by
 unfold put;rw[g8,set_set,g8];rfl
def Kn(a:fo M=aa (s.D B))(ha:fa M=aa [.lst (es.map shD),w.D,.lst (ord.map D.int)])(h:o_3 [s.D B,.lst (es.map shD),w.D,.lst (ord.map D.int)]=aa (gs.map D.int)):ix "Seeking" "grounds" o_3 fo fa M=aa (gs.map D.int):=by
 unfold ix;rw[a,aA];rw[wA B s]at h ⊢;change(if "Seeking"="Seeking" /\ List.contains (spN++(["paper","count","ended"]:LSt)) "grounds"=af then (fa M).bind λas=>(o_3 (slf s.es _ _ _ _ _ _ s.ms::as)).bind λB=>if B.all D.flat then aa B else ab else ab)=_;rw[if_pos (rfl,rfl),ha,aA,h,aA,if_pos (all_eq_true.mpr λd hd=>by have(z,_,rfl):=aH.mp hd;rfl)]
variable{c:Nat}
def ground(hr:∀r∈B,RuK n r)(hz:Z B<=1000)(hn:n<=60)(h:SpJ n c X3 B s)(a:Z es=n)(b:gW es ord)(d:Rt n B s.bs es w):∃gs:LI0,o_3 [s.D B,.lst (es.map shD),w.D,.lst (ord.map D.int)]=aa (gs.map D.int)/\qp es gs λe'=>Rt n B s.bs e' w:=by
 rw[wA];show Wp a hn hr h.bk (fm.of hr hz h.ms) h.ms b d
structure jG(n:Nat)(B:LRu)(bs:LLP)(st:LSp)(bar:List Pr)(dn:List Ls):Prop where
 bl:bar.Sublist (chs st.reverse)
 dl:Z dn<=n+1
 dt:∀x∈dn,∀z,x.1=aa z->∃y∈st,y.1=z/\y.2=x.2/\y.2.nc=ac
 rl:∀u:LOB,Z u=n->(∀z∈bar,u.getD z.1.toNat ab=aa z.2)->(∀x∈dn,∀z,x.1=aa z->opn u z.1=ac)->tu n B bs u dn
def tB(h:Tr n B s.bs st):Z st<=n:=by
 have:=qi (n9 h) λx a=>by
  have(y,b,rfl):=aH.mp a;show jF h b
 rwa [ay]at this
def Wv(hr:∀r∈B,RuK n r)(hz:Z B<=1000)(hn:n<=60)(h:SpJ n c X3 B s)(t:TrS n B s st)(hw:Rt n B s.bs s.es w):∃(bar:List Pr) (dn:List Ls),(∀l,CJ l [w.D] (s.S B).o=aa (s.F B,.tup [eM bar,.lst (dn.map dnD)],))/\jG n B s.bs st bar dn:=by
 have hwc:w≠.ch:=λe=>by rw[e]at hw;show hw
 have tr:=t.tr;have tl:=tB tr;have Y:=t.es;have A:=fq n st;have C:=Ki tr A λ_ _ q=>q;have hol:=C.len;rw[Y]at hw;have(gs,e1,e2):=ground hr hz hn h A C hw;have hgl:=e2.ln
 have key:=Kk (g:=c9 (bv (ax 3) (bv (ax 4) dA))) (F:=(ai (a8 9 (mIx (ar 3) (kI 0)))
  (ai (aZ (di (bH (mIx (ar 6) (ae 9))) (mB (m2 dIs (ae 4) kN))) (dq 7 (ae 3)) (aZ (bH (mIx (ar 6) (ae 9))) (ai (dq 8 (bx (ag (ae 3) (ag (aw sE (ag (ae 4) nZ)) nZ))))
  (ai (gj 2 (ae 9) (kA (mIx (ar 3) (kI 1))))
  (bS (aV (aP (ix "Seeking" "grounds" o_3 _ (ag (cP 2) (ag (ae 4) (ag (aw vP (ag (ae 5) (ag (cP 6) nZ))) nZ)))))) (ax 10) (gj 6 (ae 10) (kBl ac))))) bB))
  (gj 2 (ae 9) kN)))) stD (λq l M=>∃Q T U j,M=[.deep (.at l (s.F B)),.im w.D,.own ((a9 n q.post).map shD),Q,T,.im (.lst ((oa st).map D.int)),.own (q.nd.map D.bl),.own (q.bar.map prD),.own (q.dn.map dnD),U,j]) (LnI n B s.bs st) st (by
  rintro pre x post q ex y;have E:=append_cancel_left (y.sp.symm.trans ex);have p:Tr n B s.bs (x::post):=by rw[ex]at tr;show(iZ pre tr).1
  have x0:=p.2.t0;have x1:=p.2.t1;have hpn:=iX p.2.op;have G:=fq n post;have J:=y.nl;have m:=jW x0 (by rw[J];show x1);have hun:=Km (b:=x.1.2) hpn (by rw[G];lia);have hpl:Z pre<Z st:=by rw[ex];simp
  have hbl:=y.bl.length_le;have hcl:=Kj pre;have hdl:=y.dl
  cases I:q.nd.getD x.1.1.toNat af with
  |false=>
   show(_,y.no E p I,?_);rintro l M ⟨Q,T,U,j,rfl⟩;rw[I]at m;show(_,rfl,?_);apply aj;show bn rfl ?_;apply aj;show aR (b:=af) ?_ (λz=>nomatch z) λ_=>?_
   .unfold di;rw[cH (be rfl rfl m) rfl];rfl
   .show aR (cH (be rfl rfl m) rfl) (λz=>nomatch z) λ_=>bK ?_;show pM rfl rfl rfl x0 (by rw[ay,E,a9,cb,G];show x1) (_,rfl,.im (prD x.1),.im x.2.D,.im (.int x.1.1),j,?_);rw[E,a9,hun]
    rfl
  |true=>
   rw[I]at m
   cases i:x.2.nc with
   |false=>
    show(_,y.ch E p i,?_)
    have hxd:x.2.D=.non:=by
     rcases p.2.ok with⟨a,_⟩ |⟨a,_⟩
     .rw[a];rfl
     .rw[a]at i;nomatch i
    rintro l M ⟨Q,T,U,j,rfl⟩;show(_,rfl,?_);rw[hxd];apply aj;show bn rfl ?_;apply aj;show aR (iL (cH (be rfl rfl m) rfl) rfl) (λ_=>?_) λz=>nomatch z;show fV rfl rfl (by rw[ay];lia) ?_;show pM rfl rfl rfl x0 (by rw[ay,E,a9,cb,G];show x1) (_,rfl,.im (prD x.1),.im .non,.im (.int x.1.1),j,?_);rw[E,a9,hun,ba]
    rfl
   |true=>
    rcases p.2.ok with⟨a,_⟩ |⟨_,hR⟩
    .rw[a]at i;nomatch i
    have H:Z (put (a9 n post) x.1.1.toNat (!x.1.2))=n:=by rw[cb,G]
    have L:gW (put (a9 n post) x.1.1.toNat (!x.1.2)) (oa st):=by
     show Ki tr H λu u0 hu=>?_;rw[ex]at tr ⊢;have(_,f,_):=iZ pre tr
     have:(a9 n (x::post)).getD u.toNat ab≠ab:=by
      rw[a9]
      by_cases eu:u=x.1.1
      .rw[eu,e8 _ _ (by rw[G];lia)];show λq=>nomatch q
      .rw[da _ _ (by lia)]at hu ⊢;show hu
     rcases f.at' (S u) with z |z
     .show absurd z this
     .rw[z];show this
    have(js,e3,e4):=ground hr hz hn h H (L.nf q.nd) hR;show(_,y.nc E tr i e4,?_)
    have hxn:dIs x.2.D .non=aa (.bl af):=by
     cases hx2:x.2 with
     |ch=>rw[hx2]at i;nomatch i
     | _=>rfl
    have hxc:x.2≠.ch:=λq=>by rw[q]at i;nomatch i
    rintro l M ⟨Q,T,U,j,rfl⟩;show(_,rfl,?_);apply aj;show bn rfl ?_;apply aj;show aR (iL (cH (be rfl rfl m) rfl) (bp (ao rfl rfl hxn))) (λz=>nomatch z) λ_=>?_;show aR (cH (be rfl rfl m) rfl) (λ_=>?_) λz=>nomatch z;apply aj;show fV (du (ap rfl (ap (aF rfl (Kl hxc)) rfl))) rfl (by rw[ay];lia) ?_;apply aj;show pM rfl rfl rfl x0 (by rw[ay,E,a9,cb,G];show x1) ?_;rw[E,a9,Wu];show dC js D.int (λpre M=>∃v,M=[.deep _,.im _,.own _,.im _,.im _,.im _,.own ((orS q.nd pre).map D.bl),.own _,.own _,.im _,v]) (e7 (bT (Kn Ws (ap rfl (ap rfl (ap (aF rfl (Wr (by rw[J];show(λu hu=>by have:=C.nn u hu;rwa [A]at this)) (by lia))) rfl))) e3)) rfl) (_,rfl) ?_ ?_
    .rintro pr g po M exj ⟨v,rfl⟩;have((g0,N),_):=e4.nn g (by rw[exj];simp);rw[H]at N;show(_,rfl,?_);show pM rfl rfl rfl g0 (by rw[ay,Em,J];show N) (.im (.int g),?_);rw[show D.bl ac=D.bl ac from rfl,<- g8];unfold orS;rw[eP];rfl
    .rintro M ⟨v,rfl⟩;show pM rfl rfl rfl x0 (by rw[ay,cb,G];show x1) (_,rfl,.im (prD x.1),.im x.2.D,.im (.int x.1.1),v,?_);rw[Km hpn (by rw[G];lia),ba];rfl) st [] (mkS n gs,[],[(ab,w,)],st) rfl (rfl,qm _ _,qJ _,aM _,(λx i z ez=>by rw[bw.mp i]at ez;nomatch ez),λu ul ha _ _=>(rfl,e2.ok u (by rw[ul,A],λg hg=>?_)))
 .have(q,y,kq):=key
  have hpe:q.post=[]:=by
   have:=y.sp;show self_eq_append_right.mp this
  show(q.bar.reverse,q.dn.reverse,λl=>?_,?_,?_,?_,?_)
  .apply fJ;apply aj;show dY (sJ jZ) ?_;change wp _ [.deep _,.im w.D,.own (s.es.map shD),.no,.no,.no,.no,.no,.no,.no,.no] _;rw[Y];apply aj;show bn (d:=.lst ((oa st).map D.int)) (bT ?_) ?_
   .change bj 2 [] _ _ _ _ _=_;have:(s.S B).st=st.reverse.map stD:=t.sv;unfold oa;rw[map_map];show gh st.reverse stD _ ((sJ Dx).trans (by rw[this])) (by rw[li];lia) λx _=>fT rfl rfl rfl
   apply aj;show dY (d:=(mkS n gs).map D.bl) ?_ ?_
   .have hmk:=Jb n gs (by lia) (by lia) (by lia);show vd (ap (aF rfl (fW _ shD)) (ap (bT (Kn Eg (ap rfl (ap rfl (ap rfl rfl))) e1)) rfl)) (nE (by rw[A];show hmk))
   apply aj;show dY rfl ?_;apply aj;show dY (ap (du (ap rfl (ap (aF rfl (Kl hwc)) rfl))) rfl) ?_;apply aj;show Eo Dx ?_;have(ρ',e5,Q,T,U,j,rfl):=kq l _ (_,_,_,_,rfl);show(.nx [.deep (.at l (s.F B)),.im w.D,.own ((a9 n q.post).map shD),Q,T,.im (.lst ((oa st).map D.int)),.own (q.nd.map D.bl),.own (q.bar.map prD),.own (q.dn.map dnD),U,j],?_,?_)
   .change(lX _ _).bind _=_;rw[Q2 (ap ((k7 rfl).trans (by change aa (D.lst s.st)=_;rw[t.sv])) rfl),aA,i4];show e5
   .show iT ?_ (_,rfl,rfl,rfl);show du (ap (bT ?_) (ap (bT ?_) rfl))
    .change aa (q.bar.map prD).reverse=_;rw[qI]
    .change aa (q.dn.map dnD).reverse=_;rw[qI]
  .unfold chs;have:=y.bl.reverse;unfold chs at this
   rwa [<- qI,<- filter_reverse]at this
  .rw[li];have:=y.dl;lia
  .intro x i z ez;show y.dt x (g7.mp i) z ez
  .intro u ul hb hc;show y.rl u ul (λt t0 t1 _ ht=>?_) (λz hz=>hb z (g7.mpr hz)) λx i=>hc x (g7.mpr i);rw[hpe]at ht;have(x,i,_):=El (B:=B) (bs:=s.bs) (st:=[]) trivial t t0 ht
   nomatch i
 .have((g0,N),gn):=e2.nn g hg;rw[A]at N;show ha g g0 N ((ma g0 N).mpr hg) gn
nonrec def Qn(i:Nat)(S:LSp):List (Nat×Stp):=(fj i S).filter λp=>!p.2.2.nc
def me(x:Stp)(S:LSp):chs (x::S)=if x.2.nc then chs S else x.1::chs S:=by
 unfold chs;rw[filter_cons]
 cases x.2.nc <;> rfl
def Ep:∀(S:LSp) (i j:Nat) (p:Nat×Stp),(Qn i S)[j]?=aa p->∃A X3,S=A++p.2::X3/\p.1=i+Z A/\chs A=(chs S).take j/\chs (p.2::X3)=(chs S).drop j/\p.2.2.nc=af
 | [],_,_,_,h=>by cases h
 |x::S,i,j,p,h=>by
  have h:((_::fj _ S).filter λp=>!p.2.2.nc)[j]?=aa p:=h;rw[filter_cons]at h
  cases f:x.2.nc with
  |true=>
   rw[if_neg (by simp[f])]at h;have(A,X3,a,b,c,d,e):=Ep S _ j p h;show(x::A,X3,by rw[a];rfl,by rw[b,cv];lia,?_,?_,e)
   .rw[me,me,if_pos f,if_pos f];show c
   .rw[me x,if_pos f];show d
  |false=>
   rw[if_pos (by simp[f])]at h
   cases j with
   |zero=>
    cases h
    show([],S,rfl,rfl,rfl,rfl,f)
   |succ j=>
    have(A,X3,a,b,c,d,e):=Ep S _ j p h;show(x::A,X3,by rw[a];rfl,by rw[b,cv];lia,?_,?_,e)
    .rw[me,me,if_neg (by rw[f];show bM),if_neg (by rw[f];show bM),c];rfl
    .rw[me x,if_neg (by rw[f];show bM),d];rfl
def Ko:∀(S:LSp) (i:Nat),(Qn i S).map (·.2.1)=chs S
 | [],_=>rfl
 |x::S,i=>by
  have a:=Ko S (i+1);change((_::fj _ S).filter λp=>!p.2.2.nc).map _=_;rw[filter_cons,me]
  grind
def Kq(z y:Pr):isE (prD y) (prD z)=decide (z=y):=by
 unfold isE;rw[show deq 19 _ _=aa (z.1==y.1 && (z.2==y.2 && ac))from rfl]
 grind
def Ww{a b:List Pr}{y:Pr}(h:y∉a):gQ (.lst ((a++y::b).map prD)) (prD y)=aa (.int (Z a:Nat)):=by
 have ha:dB (prD y) ((a++y::b).map prD)=aa ac:=by
  have:=JG y (a++y::b);replace this:((dB _ _).map D.bl)=_:=this
  simp_all
 change(if dB _ _=aa ac then aa _ else ab)=_;rw[if_pos ha];clear ha
 congr 3
 induction a with
 |nil=>rw[oA,bE,qH,Kq,decide_eq_true rfl];rfl
 |cons z a c=>
  rw[lq,bE,qH,Kq,decide_eq_false (λe=>h (by grind))]
  grind
structure qt(S:LSp)(bar:List Pr)(A:LSp)(c:Stp)(X3:LSp):Prop where
 e:S=A++c::X3
 nc:c.2.nc=af
 br:∃b0 z,bar=b0++[z]/\b0.Sublist (chs A)/\z∈chs (c::X3)/\(b0=[]->chs A=[])/\∀y,b0.getLast?=aa y->∃A',chs A=A'++[y]
def Wx(a:List Pr)(y z:Pr):atI ((a++[y]++[z]).map prD) (-2)=aa (prD y):=by
 have b:Z ((a++[y]++[z]).map prD)=Z a+2:=by simp
 unfold atI;rw[show ixN ((a++[y]++[z]).map prD).length (-2)=aa a.length by rw[b];unfold ixN;rw[if_neg (by lia)];simp;lia];simp
variable{S:LSp}
def Wz{bar:List Pr}(U:s.st=S.map stD)(hok:∀x∈S,x.2=.ch\/x.2.nc=ac)(hl:Z S<=1000)(nd:(chs S).Nodup)(G:bar.Sublist (chs S))(I:bar≠[]):∃A c X3,qt S bar A c X3/\∀l,CL l [eM bar] (s.F B)=aa (s.F B,.int (Z A:Nat),):=by
 have Q:=Ko S 0;have hql:Z (Qn 0 S)=Z (chs S):=by rw[<- Q,ay]
 have hcl:=Kj S
 obtain⟨j,hj,b0,z,a,h1,h2,h3,h4,h5⟩:∃j,j<Z (chs S)/\∃b0 z,bar=b0++[z]/\b0.Sublist ((chs S).take j)/\z∈(chs S).drop j/\(b0=[]->(chs S).take j=[])/\(∀y,b0.getLast?=aa y->∃A',(chs S).take j=A'++[y])/\∀M:LS,M[1]?=aa (.im (eM bar))->M[3]?=aa (.im (.lst ((chs S).map prD)))->vIf (mB (m2 dEq (aw cQ (ag (ae 1) nZ)) (kI 1))) (kI 0) (m2 eC (m2 gQ (ae 3) (mIx (ar 1) (m1 rp (kI 2)))) (kI 1)) M=aa (.int (j:Nat)):=by
  have v1:∀M:LS,M[1]?=aa (.im (eM bar))->ae 1 M=aa (eM bar):=λM e=>by unfold ae;rw[e]
  have v3:∀M:LS,M[3]?=aa (.im (.lst ((chs S).map prD)))->ae 3 M=aa (.lst ((chs S).map prD)):=λM e=>by unfold ae;rw[e]
  have c1:∀M:LS,M[1]?=aa (.im (eM bar))->ar 1 M=aa (bar.map prD):=λM e=>by unfold ar;rw[e];rfl
  obtain⟨b0,z,a⟩:∃b0 z,bar=b0++[z]:=(_,_,(dropLast_concat_getLast I).symm)
  cases C:b0.getLast? with
  |none=>
   have e0:b0=[]:=getLast?_eq_none_iff.mp C;subst e0;have hz:z∈chs S:=G.subset (by rw[a];simp);show(0,length_pos_of_mem hz,[],z,a,nil_sublist _,hz,λ_=>rfl,(λy hy=>nomatch hy),λM n r=>?_)
   show lT (b:=ac) (bp (ao (aF (ap (v1 M n) rfl) (fW bar prD)) rfl (by rw[a];rfl))) (λ_=>rfl) λq=>nomatch q
  |some y=>
   obtain⟨m,e0⟩:∃m,b0=m++[y]:=by
    have(m,rfl):=getLast?_eq_some_iff.mp C;show(m,rfl)
   subst e0;rw[a]at G;obtain⟨C1,w,hC,s1,s2⟩:∃r1 r2,chs S=r1++r2/\(m++[y]).Sublist r1/\[z].Sublist r2:=append_sublist_iff.mp G;have(g,D2,hD,s3,s4):=append_sublist_iff.mp s1;have(h,N,rfl):=mn (singleton_sublist.mp s4);have f:chs S=(g++h)++y::(N++w):=by rw[hC,hD];simp
   have J:y∉g++h:=λq=>by
    rw[f]at nd;show(eO.mp nd).2.2 y q y az rfl
   have htk:(chs S).take (Z (g++h)+1)=(g++h)++[y]:=by rw[f,take_append,qC (by lia)];simp
   have H:(chs S).drop (Z (g++h)+1)=N++w:=by rw[f,drop_append,drop_of_length_le (by lia)];simp
   show(Z (g++h)+1,?_,m++[y],z,a,?_,?_,(λq=>by simp at q),(λu Y=>(g++h,?_)),λM n r=>?_)
   .rw[f];have:=length_pos_of_mem (singleton_sublist.mp s2);simp;lia
   .rw[htk];show(s3.trans (w6 _ _)).append (qJ _)
   .rw[H];show ci _ (singleton_sublist.mp s2)
   .rw[htk];rw[getLast?_concat]at Y;cases Y;rfl
   .have E:dEq (.int (Z bar:Nat)) (.int 1)=aa (.bl af):=by
     rw[kL,a];simp;lia
    show lT (b:=af) (bp (ao (aF (ap (v1 M n) rfl) (fW bar prD)) rfl E)) (λq=>nomatch q) λ_=>?_;show(ao (ao (v3 M r) (be (c1 M n) rfl (by rw[a];show Wx m y z)) (by rw[f];show Ww J)) rfl gm).trans ?_
    congr 2
 obtain⟨p,v⟩:∃p,(Qn 0 S)[j]?=aa p:=(_,b6 (by lia));have(A,B',n,e2,r,e4,e5):=Ep S 0 j p v;show(A,p.2,B',(n,e5,b0,z,a,by rw[r];show h1,by rw[e4];show h2,(by rw[r];show h3),by rw[r];show h4),λl=>?_);apply fJ;apply aj;have L:pD (aX "Seeking" "steps" (aI 0)) [.deep (.at l (s.F B)),.im (eM bar),.no,.no]=aa (.lst (S.map stD)):=(k7 rfl).trans (by rw[U]);show bn (d:=.lst ((Qn 0 S).map λp=>.int (p.1:Nat))) (bT (eG (fj 0 S) (λp=>D.tup [.int p.1,stD p.2]) _ _ (by rw[<- tf];show vW (ap L rfl)) (by rw[wx];lia) λp v=>?_)) ?_
 .show dL rfl (bp (ao rfl rfl ?_)) λ_=>rfl;have hx:=hok p.2 (dS (lc v));change dIs p.2.2.D .non=_
  cases e:p.2.2 with
  |ch=>rfl
  |gd y=>rfl
  |gp ks=>rfl
  |wd i=>rw[e]at hx;rcases hx with q |q <;> nomatch q
 apply aj;show bn (d:=.lst ((chs S).map prD)) (bT ?_) ?_
 .rw[<- Q,map_map];show gh (Qn 0 S) (λp=>D.int (p.1:Nat)) _ rfl (by lia) λp v=>fT rfl rfl ?_;have T:=lc (b7.mp v).1;have hlt:=(c7.mp T).1;show be (e7 (d:=stD p.2) (be (e7 (d:=.lst (S.map stD)) ((k7 rfl).trans (by rw[U])) rfl) rfl ?_) rfl) rfl rfl;rw[lP ((0,ac,),.ch,) (by lia) (by lia),cU,bD,T];rfl
 show iT (d:=.int (Z A:Nat)) (be rfl (h5 _ rfl rfl) ?_) (_,rfl,rfl,rfl);rw[lP (0,((0,ac,),.ch,),) (by lia) (by lia),cU,bD,v];change aa (D.int (p.1:Nat))=_;rw[e2,lu]
def clr(es:LOB)(E:LSp):LOB:=E.foldl (λes x=>es.set x.1.1.toNat ab) es
def Kr:∀(E:LSp) (es:LOB),Z (clr es E)=Z es
 | [],_=>rfl
 |x::E,es=>by
  change(clr _ E).length=_;rw[Kr E,iy]
def Ks{t:Nat}{b:Bool}:∀(E:LSp) (es:LOB),(∀x∈E,x.1.1.toNat≠t)->clr (put es t b) E=put (clr es E) t b
 | [],_,_=>rfl
 |x::E,es,h=>by
  change clr ((put es t b).set _ _) E=put (clr _ E) t b;rw[<- Ks E _ λy a=>h y (bi _ a)];unfold put;rw[set_comm _ _ (h x az).symm]
def Kt{n:Nat}{B:LRu}{bs:LLP}{st:LSp}:∀E:LSp,Tr n B bs (E++st)->clr (a9 n (E++st)) E.reverse=a9 n st
 | [],_=>rfl
 |y::E,h=>by
  have y0:=h.2.t0;have c:=h.2.t1;rw[i6];unfold clr;rw[eP];change(clr (put (a9 n (E++st)) y.1.1.toNat y.1.2) E.reverse).set _ ab=_;rw[Ks _ _ λx a e=>?_,(Kt E h.1)]
  .unfold put;rw[set_set];show nJ ?_;have e:=(iZ _ h).2.2 y az;have b:S y.1.1<Z (a9 n st):=by rw[fq];lia
   rw[bD,b6 b]at e;rw[b6 b];show congrArg aa e
  .have a:=g7.mp a;have:=jF h.1 (bV st a);show(b8.mp (n9 h)).1 (aH.mpr (x,bV _ a,?_));change x.1.1=y.1.1
   lia
def WA{f:Xe}{g:Xa}{a:LS}(h:f M=aa (d,ρ1,))(h':g ρ1=aa (ds,a,)):bN f g M=aa (d::ds,a,):=by
 unfold bN;rw[h];change(g ρ1).map _=_;rw[h'];rfl
def Spt.bk(n:Nat)(s:Spt)(A:LSp):Spt:={s with es:=a9 n A.reverse,st:=A.map stD,wt:=[]}
variable{A X5:LSp}
def WB(tr:Tr n B s.bs (A++X5).reverse)(f:s.st=(A++X5).map stD)(b:s.es=a9 n (A++X5).reverse)(l:Addr):CN l [.int (Z A:Nat)] (s.F B)=aa (((s.bk n A).S B).o,.non,):=by
 have h:((A++X5).drop (HT.sIx (A++X5).length 0 (aa (Z A)))).take (HT.sIx (A++X5).length (A++X5).length ab-HT.sIx (A++X5).length 0 (aa (Z A)))=X5:=by
  rw[HT.sIx_nat,HT.sIx_none,aS,show min A.length _=A.length by lia,drop_left' rfl,show A.length+X5.length-A.length=X5.length by lia,take_length]
 have i:((A++X5).drop (HT.sIx (A++X5).length 0 ab)).take (HT.sIx (A++X5).length (A++X5).length (aa (Z A))-HT.sIx (A++X5).length 0 ab)=A:=by
  rw[HT.sIx_nat,HT.sIx_none,aS,show min A.length _=A.length by lia,drop_zero,Nat.sub_zero,take_left' rfl]
 rw[mj]at tr b;have a:=Kt X5.reverse tr;rw[i4,<- b]at a;have c:Z s.es=n:=by rw[b,fq]
 apply fJ;apply aj
 show dC X5 stD (λpre M=>∃d e,M=[.deep (.at l (({s with es:=clr s.es pre}:Spt).F B)),.im _,d,e]) (e7 (bT ((rQ ((k7 rfl).trans (by rw[f])) rfl rfl).trans (by rw[h]))) rfl) (_,_,rfl) ?_ ?_
 .rintro pre y post M ex ⟨d,e,rfl⟩;have g:=jF tr (bV A.reverse (g7.mpr (by rw[ex];simp:y∈X5)));show(_,rfl,?_);show JX rfl rfl rfl g.1 (by rw[ay,Kr,c];show g.2) (.im (prD y.1),.im y.2.D,?_);have j:clr s.es (pre++[y])=(clr s.es pre).set y.1.1.toNat ab:=by unfold clr;rw[eP];rfl
  rw[j];dsimp only[Spt.F];rw[g8];rfl
 .rintro M ⟨d,e,rfl⟩;rw[a];apply aj;show gS (x:=lsO (A.map stD)) ?_ rfl rfl ?_
  .show nQ ((rQ ((k7 rfl).trans ?_) rfl rfl).trans (by rw[i]));rw[f]
  show gS (nQ rfl) rfl rfl (_,rfl,rfl,rfl)
def lnD(bar:List Pr)(dn:List Ls):D:=.tup [eM bar,.lst (dn.map dnD)]
def Spt.ln(s:Spt)(bar:List Pr)(dn:List Ls):Spt:={s with pp:=s.pp++[lnD bar dn]}
def wO{bar:List Pr}(tr:Tr n B s.bs st)(a:bar.Sublist (chs st.reverse)):c6 n bar:=by
 show(λz hz=>?_,?_)
 .have(y,c,e,_):=qr (a.subset hz);rw[<- e];show jF tr (g7.mp c)
 .show(a.map (·.1)).nodup ?_;unfold chs;rw[map_map];have b:(st.reverse.map (·.1.1)).Nodup:=by rw[qI];show pairwise_reverse.mpr ((n9 tr).imp λq e=>q e.symm)
  show(ou.map _).nodup b
inductive ClO(n:Nat)(B:LRu)(s:Spt)(st:LSp):O->Prop
 |fin {dn:List Ls}:jG n B s.bs st [] dn->ClO n B s st (({s.ln [] dn with en:=ac}:Spt).F B)
 |bk {bar:List Pr} {dn:List Ls} {A X5:LSp} {x:Stp}:jG n B s.bs st bar dn->qt st.reverse bar A x X5->ClO n B s st (((((s.ln bar dn).bk n A).bar bar).S B).o)
variable{c0:Nat}
def WC(hr:∀r∈B,RuK n r)(hz:Z B<=1000)(hn:n<=60)(h:SpJ n c X3 B s)(g:d3 c0 B.length s.bs s.tw)(C:c0+3840<16777216)(v:Z s.bs<=60000)(E:Z s.pp<=60000)(t:TrS n B s st)(G:Rt n B s.bs s.es w):∃o,(∀l,qd l [w.D] (s.S B).o=aa (o,.non,))/\ClO n B s st o:=by
 have(bar,dn,i,k):=Wv hr hz hn h t G;have tl:=tB t.tr;have tr:=t.tr
 by_cases f:bar=[]
 .subst f;show(_,λl=>?_,.fin k);apply fJ;apply aj;show jE (fI rfl rfl (dN rfl rfl) rfl (i l)) ?_;apply aj;show sL rfl rfl (by lia) ?_;show aR rfl (λq=>nomatch q) λ_=>(gS (sM rfl) rfl rfl (_,rfl,rfl,rfl))
 .have d:=t.sv
  have (A,x,X5,pk,m):=Wz (s:=s.ln bar dn) d (λy H=>by
   have(p,r,u):=mn (g7.mp H);rw[u]at tr
   rcases(iZ p tr).1.2.ok with⟨a,_⟩ |⟨a,_⟩
   .show .inl a
   .show .inr a) (by rw[li];lia) ((wO tr (qJ _)).pd) k.bl f
  have j:st=(A++x::X5).reverse:=by rw[<- pk.e,i4]
  show(_,λl=>?_,.bk k pk);apply fJ;apply aj;show jE (fI rfl rfl (dN rfl rfl) rfl (i l)) ?_;apply aj;show sL rfl rfl (by lia) ?_;show aR (b:=ac) (cH (be rfl rfl rfl) ?_) (λ_=>?_) λq=>nomatch q
  .cases bar with
   |nil=>show absurd rfl f
   |cons z b=>rfl
  apply aj;show iS (fI rfl rfl (ρ1:=[.deep _,.im w.D,.im (lnD bar dn)]) ?_ rfl (WB (s:=s.ln bar dn) (by rw[<- j];show tr) (by rw[<- pk.e];show d) (by rw[<- j];show t.es) l)) ?_
  .show WA (fI rfl rfl (dN rfl rfl) rfl (m l)) rfl
  show iS (fI rfl rfl (dN rfl rfl) rfl (VO _ bar g C h.bk (wO tr k.bl) hn (by change Z B+Z s.bs<_;lia) (by change 0<_;lia))) (_,rfl,rfl,rfl)
abbrev dg:D->Nat
 |.tup [_,.non]=>1
 | _=>2
abbrev vl:Nat->LD->Nat
 | 0,_=>0
 | _+1,[]=>0
 |k+1,d::ds=>dg d*3 ^ k+vl k ds
def Ku(d:D):1<=dg d/\dg d<=2:=by unfold dg;split <;> show(by decide,by decide)
def tE:∀(k:Nat) (ds:LD),vl k ds<3 ^ k
 | 0,_=>Nat.one_pos
 |k+1,[]=>Nat.pow_pos (by decide)
 |k+1,d::ds=>by
  have a:=tE k ds;have h2:=xk (3 ^ k) (Ku d).2;simp only[vl,Nat.pow_succ]
  lia
def Kv:∀(k:Nat) (a:LD) (d:D) (b:LD),Z a<k->vl k a<vl k (a++d::b)
 | 0,_,_,_,h=>absurd h (g9 _)
 |k+1,[],d,b,_=>by
  have c:=xk (3 ^ k) (Ku d).1;have h2:0<3 ^ k:=Nat.pow_pos (by decide);change 0<dg d*3 ^ k+vl k b
  lia
 |k+1,e::a,d,b,h=>Nat.add_lt_add_left (Kv k a d b (xj h)) _
def Kw:∀(k:Nat) (a:LD) (x y:D) (b c:LD),Z a<k->dg x=1->dg y=2->vl k (a++x::b)<vl k (a++y::c)
 | 0,_,_,_,_,_,h,_,_=>absurd h (g9 _)
 |k+1,[],x,y,b,c,_,hx,hy=>by
  have d:=tE k b;change dg x*3 ^ k+vl k b<dg y*3 ^ k+vl k c;rw[hx,hy]
  lia
 |k+1,e::a,x,y,b,c,h,hx,hy=>Nat.add_lt_add_left (Kw k a x y b c (xj h) hx hy) _
abbrev aJ(B:LRu)(X5:Nat)(s:Spt):OD×Spt:=stF B X5 (Me X5 s+1) s
def nv(n:Nat)(B:LRu)(X5:Nat)(s:Spt):Nat:=vl n (aJ B X5 s).2.st
structure Hd(n c0 X5 X3:Nat)(B:LRu)(s:Spt)(st:LSp):Prop where
 J:SpJ n X5 X3 B s
 tw:d3 (c0+3840*Z s.bs) B.length s.bs s.tw
 t:TrS n B s st
 pp:Z s.pp=Z s.bs
 en:s.en=af
 nb:Z s.bs<=nv n B X5 s
structure Par(n c0 X5 X3:Nat)(B:LRu):Prop where
 hr:∀r∈B,RuK n r
 hz:Z B<=250
 hn:n<=60
 hC:c0+3840*3 ^ n<=X5
 hB:n*(X5+1)+n+Z B+3<=X3
 h2:X3+X5<16777216
structure Se(n c0 X5 X3:Nat)(B:LRu)(s s1:Spt)(st st1:LSp):Prop where
 J:SpJ n X5 X3 B s1
 t:TrS n B s1 st1
 xt:∃xt,st1=xt++st/\∀x∈xt,x.2.nc=ac
 bs:s1.bs=s.bs
 tw:s1.tw=s.tw
 pp:s1.pp=s.pp
 ct:s1.ct=s.ct
 en:s1.en=s.en
variable{X5:Nat}
def Hd.se(P:Par n c0 X5 X3 B)(h:Hd n c0 X5 X3 B s st):∃st1,Se n c0 X5 X3 B s (aJ B X5 s).2 st st1/\∀w,(aJ B X5 s).1=aa w->∃wh:Wh,w=wh.D/\wh.nc=ac/\Rt n B s.bs (aJ B X5 s).2.es wh:=by
 have hz:=P.hz;have a:=Ei P.hr (by lia) _ s h.J (c8 _);have((xt,g,i),b,c,d,e,f):=wG P.hr (by lia) P.hn _ s h.J (tq P.hr _ _ h.J (TrM.refl h.t));show(_,(a.ok,g,(xt,rfl,i),a.bs,b,c,d,e),f)
def WD(P:Par n c0 X5 X3 B)(h:Hd n c0 X5 X3 B s st)(l:Addr):sG l [] (s.S B).o=aa (((aJ B X5 s).2.S B).o,(aJ B X5 s).1.getD .non,):=by
 have hz:=P.hz;have mB:=h.J.mB;have h2:=P.h2;show Wb P.hr (by lia) P.hn P.h2 h.J (c8 _) (by grind)
def Kx{b:List Pr}{bs:LLP}:∀{st:LSp},Tr n B bs st->Tr n B (bs++[b]) st
 | [],_=>trivial
 |x::st,h=>by
  show(Kx h.1,h.2.t0,h.2.t1,h.2.op,?_)
  rcases h.2.ok with q |⟨q1,q2⟩
  .show .inl q
  .show .inr (q1,?_)
   cases c:x.2 with
   |ch=>rw[c]at q2;show q2
   |wd i=>rw[c]at q2;show q2
   |gp ks=>rw[c]at q2;show q2
   |gd y=>
    rw[c]at q2;have(f,d):=q2;have hm:=fh.mp f;have(a,j):=y
    cases a with
    |false=>show(fh.mpr hm,d)
    |true=>
     show(fh.mpr (by change j<Z (bs++[b]);rw[aS];lia),?_)
     have e:bQ B (bs++[b]) (ac,j,)=bQ B bs (ac,j,):=by
      change brg _=brg _;rw[l9,if_neg (by lia)]
     rw[e];show d
def Ky(P:Par n c0 X5 X3 B)(t:TrS n B s st)(bk:∀b∈s.bs,c6 n b)(tw:d3 X5 B.length s.bs s.tw)(wv:∀y∈s.wt,y∈gys B.length (Z s.bs))(ms:s.ms.Perm (dM B))(wl:Z s.wt<=Z B+1):SpJ n X5 X3 B s:=by
 have hB:=P.hB;have f:=VR s.es;have c:Z s.es=n:=by rw[t.es,fq]
 have tl:=tB t.tr;have hm:iY s.es*_<=n*(X5+1):=xk _ (by lia);show(c,bk,tw,wv,ms,by lia,by rw[t.sv,ay,li];lia,λd hd=>?_);rw[t.sv]at hd;have(x,a,rfl):=aH.mp hd;have a:=g7.mp a;have(p,r,e):=mn a;show(x.1,x.2.D,rfl,jF t.tr a,?_);rw[t.es,e];show wM (by rw[<- e];show t.tr)
variable{b0:List Pr}
def WE{bar:List Pr}(g:Z es=n)(f:c6 n bar)(e:bar=b0++[z])(m:∀y∈bar,y.2=ac)(i:∀y∈b0,es.getD y.1.toNat ab=aa ac)(hz:es.getD z.1.toNat ab=ab):∃p ps,prs (brg bar) es=aa (p::ps):=by
 have j:∀p∈brg bar,p.Ok (Z es):=λp b=>by rw[g];show(sV f p b).1
 have br:∀y∈bar,brP y=.inn y.1:=λy c=>by unfold brP;rw[m y c];rfl
 have a:z∈bar:=by rw[e];simp
 have h:=f.nn z a
 cases b:prs _ es with
 |none=>
  have:=JY b _ (aH.mpr (z,a,rfl));rw[br z a]at this;have this:(es.getD z.1.toNat ab==aa ac)=ac:=this;rw[hz]at this
  nomatch this
 |some l=>
  have(_,h2,_):=n6 j b
  have:_∈l:=(h2 (z.1,af,)).mpr ((h.1,by rw[g];show h.2),tz hz,λp b=>by
   have(y,c,rfl):=aH.mp b;rw[br y c];change((put es z.1.toNat ac).getD y.1.toNat ab==aa ac)=ac
   by_cases d:S y.1=S z.1
   .rw[d,e8 es ac (by lia)];rfl
   .rw[da es ac d]
    have:y∈b0:=by
     rw[e]at c
     rcases bz.mp c with q |q
     .show q
     .show absurd (by rw[bw.mp q]) d
    rw[i y this];rfl)
  cases l with
  |nil=>nomatch this
  |cons p ps=>show(p,ps,rfl)
def Er{bs:LLP}(tr:Tr n B bs st){y:Pr}(d:y∈chs st.reverse):y.2=ac/\(a9 n st).getD y.1.toNat ab=aa ac:=by
 have(x,c,e,hn):=qr d;have(p,r,rfl):=mn (g7.mp c);have b:=wM tr
 rcases(iZ p tr).1.2.ok with⟨_,a,_⟩ |⟨a,_⟩
 .rw[e]at a b;rw[a]at b;show(a,b)
 .rw[a]at hn;nomatch hn
structure Clo(n:Nat)(s1 s2:Spt)(bar:List Pr)(dn:List Ls)(A:LSp):Prop where
 es:s2.es=a9 n A.reverse
 sv:s2.st=A.map stD
 bs:s2.bs=s1.bs++[bar]
 tw:s2.tw=fZ (ac,Z s1.bs,) (brg bar) (l8 s1.bs s1.tw bar)
 wt:s2.wt=[(ac,Z s1.bs,)]
 ms:s2.ms=s1.ms
 pp:s2.pp=s1.pp++[lnD bar dn]
 en:s2.en=s1.en
variable{s2:Spt}{T st1:LSp}{dn:List Ls}
def WF{bar:List Pr}(P:Par n c0 X5 X3 B)(h:Hd n c0 X5 X3 B s st)(e:Se n c0 X5 X3 B s (aJ B X5 s).2 st st1)(k:jG n B s.bs st1 bar dn)(p:qt st1.reverse bar A x T)(q:Clo n (aJ B X5 s).2 s2 bar dn A):Hd n c0 X5 X3 B s2 A.reverse/\nv n B X5 s<nv n B X5 s2:=by
 have hn:=P.hn;have hz:=P.hz;have hC:=P.hC
 have er:st1=T.reverse++x::A.reverse:=by
  have:=congrArg List.reverse p.e;rw[i4,mj,i6,cK]at this;show this
 have c:=e.t.tr;rw[e.bs]at c;have g:Tr n B s.bs (x::A.reverse):=by rw[er]at c;show(iZ _ c).1
 have bk:=wO c k.bl;have G:TrS n B s2 A.reverse:=(by rw[q.sv,i4],q.es,by rw[q.bs,e.bs];show Kx g.1);have hnv:=tE n (aJ B X5 s).2.st;have hnb:Z s.bs<=vl n (aJ B X5 s).2.st:=h.nb;have j:Z s2.bs=Z s.bs+1:=by rw[q.bs,e.bs,aS];rfl
 have i:d3 (c0+3840*Z s.bs+3840) B.length s2.bs s2.tw:=by
  have:=(h.tw.dropped (λb I=>(h.J.bk b I).pd) bar).bar bk hn;rw[q.bs,q.tw,e.bs,e.tw];show this
 have L:SpJ n X5 X3 B s2:=by
  show Ky P G (λb I=>?_) (i.wk.le (by lia),i.vl,i.br) (λy f=>?_) (by rw[q.ms];show e.J.ms) (by rw[q.wt];change 1<=_;lia)
  .rw[q.bs,e.bs]at I
   rcases bz.mp I with z |z
   .show h.J.bk b z
   .rw[bw.mp z];show bk
  .rw[q.wt]at f;rw[bw.mp f];show fh.mpr (by change _<Z s2.bs;rw[q.bs,aS];show c8 _)
 have r:nv n B X5 s<nv n B X5 s2:=by
  have(b0,z,eb,M,U,_,_):=p.br;have C:∀y∈bar,y.2=ac:=λy f=>(Er c (k.bl.subset f)).1;have m:=fq n A.reverse;have h0:∀y∈b0,s2.es.getD y.1.toNat ab=aa ac:=λy f=>by rw[q.es];show(Er g.1 (by rw[i4];show M.subset f)).2
  have Y:s2.es.getD z.1.toNat ab=ab:=by
   have(y,f,ey,_):=qr U;have tr2:Tr n B s.bs ((T.reverse++[x])++A.reverse):=by rw[cK];rw[er]at c;show c
   rw[q.es,<- ey];show(iZ _ tr2).2.2 y ?_
   rcases bc.mp f with u |u
   .rw[u];simp
   .simp[u]
  have(d,ps,N):=WE (by rw[q.es,m]) bk eb C h0 Y
  have hg:bQ B s2.bs (ac,(aJ B X5 s).2.bs.length,)=brg bar:=by
   change brg _=_;rw[q.bs,l9,if_pos rfl]
  have hok:∀u∈bQ B s2.bs (ac,(aJ B X5 s).2.bs.length,),u.Ok (Z s2.es):=by rw[hg,q.es,m];show λu l=>(sV bk u l).1
  rw[<- hg]at N;have(E,r2,_):=n6 hok N;have(J3,_,f):=L.pop q.wt
  have t3:TrS n B {s2 with wt:=[]} A.reverse:=(G.sv,G.es,G.tr)
  have((u0,H),uo):=E.op d az;have H:d.1<n:=by rw[q.es,m]at H;show H
  have(n1,n2):=b8.mp E.nd
  have t5:=Ej (s:=({ s2 with wt:=[] } : Spt).pt d.1 d.2 _) f (by change Z (put s2.es _ _)=n; rw [cb,q.es,m]) (λu l=>by change u.Ok (Z (put s2.es _ _)); rw [cb]; show hok u l) E.tail (λv hv u l=>by
   have((v0,v1),vo):=E.op v (bi _ hv);have ne:d.1≠v.1:=λee=>n1 (aH.mpr (v,hv,ee.symm));change u.sure (put (put s2.es d.1.toNat d.2) v.1.toNat _)=ac;rw[wq (by lia)];show wg (by rw[cb];show hok u l) u0 (by rw[cb,q.es,m];show H) (wu u0 v0 ne uo) _ (((r2 v).mp (bi _ hv)).2.2 u l)) (TrM.refl (t3.pt (w:=.gd _) u0 H uo rfl (f,((r2 d).mp az).2.2)))
  have t6:TrM n B (((d.1,d.2,),.gd (ac,(aJ B X5 s).2.bs.length,),)::A.reverse) (lrF B (Me X5 s2+1) s2).2:=by
   rw[qk q.wt N];show tq P.hr _ _ (n4 J3 E).1 t5
  have((xt,k2,_),_):=wG P.hr (by lia) hn _ s2 L t6
  have e1:(aJ B X5 s).2.st=A.map stD++stD x::T.map stD:=by
   rw[e.t.sv,p.e,ba,bE]
  have e2:(aJ B X5 s2).2.st=A.map stD++stD ((d.1,d.2,),.gd (ac,(aJ B X5 s).2.bs.length,),)::xt.reverse.map stD:=by
   change(stF B X5 _ s2).2.st=_;rw[k2.sv,mj,i6,i4,cK,ba,ba];rfl
  unfold nv;rw[e1,e2];have tl:=tB g;rw[cv,li]at tl;show Kw n _ _ _ _ _ (by rw[ay];lia) ?_ rfl
  have Q:x.2=.ch:=by
   rcases g.2.ok with⟨a,_⟩ |⟨a,_⟩
   .show a
   .rw[p.nc]at a;nomatch a
  unfold stD;rw[Q];rfl
 show((L,by rw[j];show i,G,by rw[q.pp,e.pp,aS,h.pp,j];rfl,by rw[q.en,e.en];show h.en,?_),r);rw[j];show lr h.nb r
def Es(es:LOB):dB .non (es.map shD)=aa (es.any (·==ab)):=by
 induction es with
 |nil=>rfl
 |cons e es a=>
  change((deq 19 _ .non).bind λb=>(dB .non _).map λr=>b || r)=_;rw[a]
  cases e with
  |none=>rfl
  |some b=>cases b <;> rfl
def WG(h:es.any (·==ab)=ac):gQ (.lst (es.map shD)) .non=aa (.int (es.findIdx (·==ab):Nat)):=by
 change(if dB _ _=aa ac then aa _ else ab)=_;rw[Es,h,if_pos rfl]
 congr 3
 clear h
 induction es with
 |nil=>rfl
 |cons e es a=>
  rw[bE,qH,qH,a]
  cases e with
  |none=>rfl
  |some b=>cases b <;> rfl
def wOf(es:LOB):LI0:=((fj 0 es).filter λp=>p.2==aa ac).map λp=>(p.1:Int)
def WH(h:es.any (·==ab)=af)(c:Z es<=1000):sH [.lst (es.map shD)]=aa ((wOf es).map D.int):=by
 show nE ?_;unfold wOf;rw[map_map];show congrArg _ (eG _ _ _ _ (by rw[<- tf];show vW rfl) (by rw[wx];lia) λp a=>dL rfl (cH rfl ?_) λ_=>rfl);have hm:=any_eq_false.mp h p.2 (dS (lc a))
 cases e:p.2 with
 |none=>rw[e]at hm;show absurd rfl hm
 |some b=>cases b <;> rfl
variable{F:MF3}
def Kz{t:MF4}{k:Nat}(h:t M=aa ac)(a:wp F M λr=>match r with
  |.nx ρ'=>wp (dk t F k) ρ' K
  |.rtS d ρ'=>K (.rtS d ρ')
  | _=>False):wp (dk t F (k+1)) M K:=by
 have(r,e,q):=a;dsimp only[wp,dk];rw[h,e,aA]
 cases r with
 |nx ρ'=>show q
 |rtS d ρ'=>show(_,rfl,q)
 | _=>show q.elim
def tF{t:MF4}{k:Nat}(h:t M=aa af)(q:K (.nx M)):wp (dk t F (k+1)) M K:=(.nx M,by unfold dk;rw[h];rfl,q)
nonrec def anT:MF4:=gJ (bH (pD (aX "Seeking" "ended" (aI 0))))
nonrec def anB:MF3:=(ai (fY 1 (cJ 0 "Seeking" "settle" sG cB))
  (aZ (mB (m2 gg (ae 1) kN)) (dJ (cJ 0 "Seeking" "close" qd (bN (mX (ae 1)) cB))) (aZ (mB (m2 fU kN (pB (aX "Seeking" "sheet" (aI 0))))) (dJ (cJ 0 "Seeking" "put" qe (bN (mX (m2 gQ (pB (aX "Seeking" "sheet" (aI 0))) kN)) (bN (mX (kBl ac)) (bN (mX kN) cB))))) (ai (a8 2 (aP (pP sH (ag (pB (aX "Seeking" "sheet" (aI 0))) nZ))))
  (ai (dJ (cJ 0 "Seeking" "close" qd (bN (mX (bx (ag (kSt "world") (ag (pD (aX "Seeking" "count" (aI 0))) nZ)))) cB)))
  (ai (nP 0 "Seeking" "count" (kI 1))
  (eE (ae 2))))))))
abbrev anK(l:Addr)(o:O):Option (LI0)->Fl->Prop
 |none,x=>∃M,x=.nx M/\M[0]?=aa (.deep (.at l o))
 |some ws,x=>∃M,x=.rtS (.lst (ws.map D.int)) M/\M[0]?=aa (.deep (.at l o))
def WI(P:Par n c0 X5 X3 B)(h:Hd n c0 X5 X3 B s st)(e:Se n c0 X5 X3 B s (aJ B X5 s).2 st st1){t:Nat}(t1:t<n)(i:(aJ B X5 s).2.es.getD t ab=ab)(p:∀j,j<t->(aJ B X5 s).2.es.getD j ab≠ab):Hd n c0 X5 X3 B ((aJ B X5 s).2.pt t ac .non) (((t,ac,),.ch,)::st1)/\nv n B X5 s<nv n B X5 ((aJ B X5 s).2.pt t ac .non):=by
 have hz:=P.hz;have f:=tz (by rw[cU];show i);have c:=(e.J.pt (b:=ac) (w:=.non) (by lia) (by lia) f).1
 have d:TrS n B ((aJ B X5 s).2.pt t ac .non) (((t,ac,),.ch,)::st1):=by
  show(?_,?_,e.t.tr,by change(0:Int)<=t;lia,by change(t:Int)<n;lia,by rw[<- e.t.es];show f,.inl (rfl,rfl,λj m=>?_))
  .change(aJ B X5 s).2.st++[_]=_;rw[e.t.sv,i6,ba];rfl
  .change put (aJ B X5 s).2.es _ _=_;rw[e.t.es];rfl
  .rw[<- e.t.es]
   grind
 have a:nv n B X5 s<nv n B X5 ((aJ B X5 s).2.pt t ac .non):=by
  have((xt,l,_),_):=wG P.hr (by lia) P.hn _ _ c (tq P.hr _ _ c (TrM.refl d));have tl:=tB d.tr;rw[cv]at tl
  have g:(aJ B X5 ((aJ B X5 s).2.pt t ac .non)).2.st=(aJ B X5 s).2.st++stD ((t,ac,),.ch,)::xt.reverse.map stD:=by
   change(stF B X5 _ _).2.st=_;rw[l.sv,mj,i6,cK,ba,<- e.t.sv];rfl
  unfold nv;rw[g];show Kv n _ _ _ (by rw[e.t.sv,ay,li];lia)
 show((c,?_,d,?_,?_,?_),a)
 .change d3 (c0+3840*(aJ B X5 s).2.bs.length) _ (aJ B X5 s).2.bs (aJ B X5 s).2.tw;rw[e.bs,e.tw];show h.tw
 .change(aJ B X5 s).2.pp.length=(aJ B X5 s).2.bs.length;rw[e.bs,e.pp];show h.pp
 .change(aJ B X5 s).2.en=af;rw[e.en];show h.en
 .change(aJ B X5 s).2.bs.length<=_;rw[e.bs];show cV h.nb (fD a)
structure Car(n c0 X5 X3:Nat)(B:LRu)(I:Spt->LSp->List (LI0)->Prop)(F:Spt->List (LI0)->Prop):Prop where
 ch:∀{s st st1 fd} {t:Nat},Hd n c0 X5 X3 B s st->I s st fd->Se n c0 X5 X3 B s (aJ B X5 s).2 st st1->(aJ B X5 s).1=ab->t<n->(aJ B X5 s).2.es.getD t ab=ab->I ((aJ B X5 s).2.pt t ac .non) (((t,ac,),.ch,)::st1) fd
 cl:∀{s st st1 fd w bar dn A x T s2},Hd n c0 X5 X3 B s st->I s st fd->Se n c0 X5 X3 B s (aJ B X5 s).2 st st1->(aJ B X5 s).1=aa (Wh.D w)->Rt n B s.bs (aJ B X5 s).2.es w->jG n B s.bs st1 bar dn->qt st1.reverse bar A x T->Clo n (aJ B X5 s).2 s2 bar dn A->s2.ct=s.ct->Hd n c0 X5 X3 B s2 A.reverse->I s2 A.reverse fd
 fi:∀{s st st1 fd w dn s2},Hd n c0 X5 X3 B s st->I s st fd->Se n c0 X5 X3 B s (aJ B X5 s).2 st st1->(aJ B X5 s).1=aa (Wh.D w)->Rt n B s.bs (aJ B X5 s).2.es w->jG n B s.bs st1 [] dn->s2.pp=s.pp++[lnD [] dn]->F s2 fd
 wc:∀{s st st1 fd bar dn A x T s2},Hd n c0 X5 X3 B s st->I s st fd->Se n c0 X5 X3 B s (aJ B X5 s).2 st st1->(aJ B X5 s).1=ab->(aJ B X5 s).2.es.any (·==ab)=af->jG n B s.bs st1 bar dn->qt st1.reverse bar A x T->Clo n (aJ B X5 s).2 s2 bar dn A->s2.ct=s.ct+1->Hd n c0 X5 X3 B s2 A.reverse->I s2 A.reverse (fd++[wOf (aJ B X5 s).2.es])
 wf:∀{s st st1 fd dn s2},Hd n c0 X5 X3 B s st->I s st fd->Se n c0 X5 X3 B s (aJ B X5 s).2 st st1->(aJ B X5 s).1=ab->(aJ B X5 s).2.es.any (·==ab)=af->jG n B s.bs st1 [] dn->s2.pp=s.pp++[lnD [] dn]->F s2 (fd++[wOf (aJ B X5 s).2.es])
structure Fin(B:LRu)(F:Spt->List (LI0)->Prop)(fd:List (LI0))(o:O):Prop where
 ex:∃s:Spt,s.en=ac/\s.pp≠[]/\Z s.pp<=100000/\F s fd/\o=s.F B
inductive Af(n c0 X5 X3:Nat)(B:LRu)(I:Spt->LSp->List (LI0)->Prop)(F:Spt->List (LI0)->Prop)(fd:List (LI0))(v:Nat)(o:O):Prop
 |go (s:Spt) (st:LSp):Hd n c0 X5 X3 B s st->I s st fd->v<nv n B X5 s->o=(s.S B).o->Af n c0 X5 X3 B I F fd v o
 |fin:Fin B F fd o->Af n c0 X5 X3 B I F fd v o
variable{I:Spt->LSp->List (LI0)->Prop}{F:Spt->List (LI0)->Prop}
def Et(P:Par n c0 X5 X3 B)(K:Car n c0 X5 X3 B I F):∀(u:Nat) (s:Spt) (st:LSp) (fd:List (LI0)),Hd n c0 X5 X3 B s st->I s st fd->3 ^ n-nv n B X5 s<=u->∃(r:Option (LI0)) (o:O),(∀l v1 f k,u<k->wp (dk anT anB (k+1)) [.deep (.at l (s.S B).o),v1,f] (anK l o r))/\(r=ab->Fin B F fd o)/\∀ws,r=aa ws->Af n c0 X5 X3 B I F (fd++[ws]) (nv n B X5 s) o
 | u,s,st,fd,h,hI,hμ=>by
  have hz:=P.hz;have hn:=P.hn;have hC:=P.hC;have h2:=P.h2;have hnv:nv n B X5 s<3 ^ n:=tE _ _;have hnb:=h.nb;have hpp:=h.pp;have(st1,se,hwy):=h.se P;have i:=se.bs;have H:=se.ct;have m:=se.pp;have J1:=se.J;have Y:=WD P h;have L:=λ(bar dn A x T s2)=>WF (bar:=bar) (dn:=dn) (A:=A) (x:=x) (T:=T) (s2:=s2) P h se;have hch:=λt=>WI (t:=t) P h se;have kch:=λt=>K.ch (t:=t) h hI se;have kcl:=λ(w bar dn A x T s2)=>K.cl (w:=w) (bar:=bar) (dn:=dn) (A:=A) (x:=x) (T:=T) (s2:=s2) h hI se;have kfi:=λ(w dn s2)=>K.fi (w:=w) (dn:=dn) (s2:=s2) h hI se;have kwc:=λ(bar dn A x T s2)=>K.wc (bar:=bar) (dn:=dn) (A:=A) (x:=x) (T:=T) (s2:=s2) h hI se;have kwf:=λ(dn s2)=>K.wf (dn:=dn) (s2:=s2) h hI se;generalize aJ B X5 s=R at *;have y:=λ{w:Wh} C=>WC (w:=w) P.hr (by lia) hn J1 (by rw[i,se.tw];show h.tw) (by lia) (by rw[i];lia) (by rw[m];lia) se.t C;rw[i]at y
  have g:∀l v1 f k Q,wp _ [.deep _,.im _,f] _->wp (dk anT anB (k+1)) [.deep (.at l (s.S B).o),v1,f] Q:=λl v1 f k Q U=>by
   show Kz (nu (cH (k7 rfl) (by change mZ (.bl s.en)=aa af;rw[h.en];rfl))) ?_;apply aj;show jE (fI rfl rfl rfl rfl (Y l)) U
  cases hR:R.1 with
  |some wd=>
   have(w,rfl,hnc,C):=hwy wd hR;have(o,e1,ck):=y C
   have hwn:gg w.D .non=aa (.bl ac):=by
    cases w with
    |ch=>nomatch hnc
    | _=>rfl
   have step:=λl v1 f k Q U=>by
    show g l v1 f k Q ?_;rw[hR];show aR (bp (ao rfl rfl hwn)) (λ_=>(iS (fI rfl rfl (dN rfl rfl) rfl (e1 l)) U)) λq=>nomatch q
   cases ck with
   | @fin dn k=>
    rw[i]at k
    show⟨ab,({R.2.ln [] dn with en:=ac}:Spt).F B,λl v1 f kk M=>?_,λ_=>({R.2.ln [] dn with en:=ac},rfl,?_,?_,kfi w dn _ hR C k (by change(R.2.ln [] dn).pp=_;unfold Spt.ln;rw[m]),rfl),λws e=>nomatch e⟩
    .obtain⟨kk,rfl⟩:∃j,kk=j+1:=(kk-1,by lia);show step l v1 f _ _ (tF rfl (_,rfl,rfl))
    .change R.2.pp++[_]≠[];simp
    .change(R.2.pp++[_]).length<=_;rw[aS,m];change _+1<=_
     lia
   | @bk bar dn A T x k p=>
    rw[i]at k;have q:Clo n R.2 (((R.2.ln bar dn).bk n A).bar bar) bar dn A:=(rfl,rfl,rfl,rfl,rfl,rfl,rfl,rfl);have(v,g2):=L bar dn A x T _ k p q
    match u,hμ with
    | 0,hμ=>lia
    | u+1,hμ=>
     have(r,o',i1,i2,i3):=Et P K u _ _ fd v (kcl w bar dn A x T _ hR C k p q H v) (by lia);show(r,o',λl v1 f kk M=>?_,i2,λws e=>?_)
     .obtain⟨kk,rfl⟩:∃j,kk=j+1:=(kk-1,by lia);show step l v1 f _ _ (i1 l _ _ kk (by lia))
     .cases i3 ws e with
      |go s' E a b c d=>show .go s' E a b (by lia) d
      |fin a=>show .fin a
  |none=>
   have hl1:=J1.es
   cases ha:R.2.es.any (·==ab)with
   |true=>
    have N:=wZ (any_eq_true.mp ha)
    have G:R.2.es.getD (R.2.es.findIdx (·==ab)) ab=ab:=by
     rw[bD,b6 N];have:=findIdx_getElem (w:=N);show beq_iff_eq.mp this
    have(v,g2):=hch _ (by lia) G λj hj q=>by
     have:=not_of_lt_findIdx hj;rw[bD,b6 (by lia)]at q;have q:R.2.es[j]=ab:=q;rw[q]at this;show absurd this (by decide)
    match u,hμ with
    | 0,hμ=>lia
    | u+1,hμ=>
     have(r,o',i1,i2,i3):=Et P K u _ _ fd v (kch _ hR (by lia) G) (by lia);show(r,o',λl v1 f kk M=>?_,i2,λws e=>?_)
     .obtain⟨kk,rfl⟩:∃j,kk=j+1:=(kk-1,by lia);show g l v1 f _ _ ?_;rw[hR];show aR rfl (λq=>nomatch q) λ_=>?_;show aR (b:=ac) (bp (ao rfl (jB jZ) (by change((dB .non (R.2.es.map shD)).map D.bl)=_;rw[Es,ha];rfl))) (λ_=>(iS (fI rfl rfl (dN (ao (jB jZ) rfl (WG ha)) (dN rfl (dN rfl rfl))) rfl ((λl=>Ee (t:=(R.2.es.findIdx (·==ab):Nat)) J1 P.h2 (by lia) (by lia)) l)) (i1 l _ _ kk (by lia)))) λq=>nomatch q
     .cases i3 ws e with
      |go s' E a b c d=>show .go s' E a b (by lia) d
      |fin a=>show .fin a
   |false=>
    have C:Rt n B s.bs R.2.es (.wd R.2.ct):=λk M q=>by
     rw[bD,b6 (by lia)]at q;have q:R.2.es[k]=ab:=q;show any_eq_false.mp ha _ (g5 _) (by rw[q];rfl)
    have(o,e1,ck):=y C
    have step:∀o2 l v1 f k Q,(∀v1 f,nP 0 "Seeking" "count" (kI 1) [.deep (.at l o),v1,f]=aa (.nx [.deep (.at l o2),v1,f]))->Q (.rtS (.lst ((wOf R.2.es).map D.int)) [.deep (.at l o2),.im .non,.im (.lst ((wOf R.2.es).map D.int))])->wp (dk anT anB (k+1)) [.deep (.at l (s.S B).o),v1,f] Q:=λo2 l v1 f k Q hau U=>by
     show g l v1 f k Q ?_;rw[hR];show aR rfl (λq=>nomatch q) λ_=>?_;show aR (b:=af) (bp (ao rfl (jB jZ) (by change((dB .non (R.2.es.map shD)).map D.bl)=_;rw[Es,ha];rfl))) (λq=>nomatch q) λ_=>?_;apply aj;show bn (d:=.lst ((wOf R.2.es).map D.int)) (bT ?_) ?_
     .change(ag _ _ _).bind _=_;rw[ap (jB jZ) rfl,aA];change(sH [.lst (R.2.es.map shD)]).bind _=_;rw[(WH ha (by lia)),aA,if_pos (all_eq_true.mpr λd hd=>by have(z,_,rfl):=aH.mp hd;rfl)]
     apply aj;show iS (fI rfl rfl (dN (d:=(Wh.wd R.2.ct).D) (du (ap rfl (ap (k7 rfl) rfl))) rfl) rfl (e1 l)) ?_;apply aj;show(_,hau _ _,(iT rfl U))
    cases ck with
    | @fin dn k=>
     rw[i]at k
     show(aa (wOf R.2.es),(({({R.2.ln [] dn with en:=ac}:Spt)with ct:=R.2.ct+1}:Spt).F B),λl v1 f kk M=>step _ l v1 f kk _ (λ_ _=>rfl) (_,rfl,rfl),(λe=>nomatch e),λws e=>?_)
     cases e
     show .fin ({({R.2.ln [] dn with en:=ac}:Spt)with ct:=R.2.ct+1},rfl,?_,?_,kwf dn _ hR ha k (by change(R.2.ln [] dn).pp=_;unfold Spt.ln;rw[m]),rfl)
     .change R.2.pp++[_]≠[];simp
     .change(R.2.pp++[_]).length<=_;rw[aS,m];change _+1<=_
      lia
    | @bk bar dn A T x k p=>
     rw[i]at k
     have q:Clo n R.2 {((R.2.ln bar dn).bk n A).bar bar with ct:=R.2.ct+1} bar dn A:=(rfl,rfl,rfl,rfl,rfl,rfl,rfl,rfl)
     have(v,g2):=L bar dn A x T _ k p q
     show(aa (wOf R.2.es),(({((R.2.ln bar dn).bk n A).bar bar with ct:=R.2.ct+1}:Spt).S B).o,λl v1 f kk M=>step _ l v1 f kk _ (λ_ _=>rfl) (_,rfl,rfl),(λe=>nomatch e),λws e=>?_)
     cases e;show .go _ _ v (kwc bar dn A x T _ hR ha k p q (by change R.2.ct+1=_;rw[H]) v) g2 rfl
def wP{cn a:Str}{f:Xa}(h:M[i]?=aa (.deep o))(hi:o.isIns cn a=ac)(e:f M=aa (ds,ρ1,))(c:ρ1[i]?=aa (.deep o))(hm:∀l,m l ds o=aa (o',d,)):jY i cn a m f M=aa (d,ρ1.set i (.deep o'),):=by
 have(ns,os,rfl,_):=zN hi;unfold jY;rw[h];change(if (O.ins cn ns os).isIns cn a=ac then _ else ab)=_;rw[if_pos hi,e,aA,c];have b:∃q,∀l,m l ds _=aa q:=(_,hm);dsimp only;rw[dif_pos b];have:=b.choose_spec 0;rw[hm 0]at this;rw[<- dz this]
inductive Sq:O->List (LI0)->O->Prop
 |nil {o o':O}:o.isIns "Seeking" "another"=ac->(∀l,m_8 l [] o=aa (o',.non,))->Sq o [] o'
 |cons {o o' oE:O} {w:LI0} {ws:List (LI0)}:o.isIns "Seeking" "another"=ac->(∀l,m_8 l [] o=aa (o',.lst (w.map D.int),))->Sq o' ws oE->Sq o (w::ws) oE
def wsD(ws:List (LI0)):D:=.lst (ws.map λw=>.lst (w.map D.int))
nonrec def wD(w:LI0):D:=.lst (w.map D.int)
nonrec def woT:MF4:=(di (mB (m2 gg (ae 4) kN)) (mB (m2 dLt (aw cQ (ag (cP 3) nZ)) (ae 1))))
nonrec def woB:MF3:=(ai (dq 3 (ae 4)) (fY 4 (jY 2 "Seeking" "another" m_8 cB)))
def KA{a:D}{most:Int}{oE:O}{K:Fl->Prop}:∀(ws:List (LI0)) (w:LI0) (o:O) (fs:List (LI0)) (k:Nat),Sq o ws oE->(Z fs:Int)<=most->Z fs+Z ws<10000000->Z ws+2<=k->((Z (fs++w::ws):Int)<=most->K (.nx [.im a,.im (.int most),.deep oE,.own ((fs++w::ws).map wD),.im .non]))->((¬(Z (fs++w::ws):Int)<=most)->∀o' d,K (.nx [.im a,.im (.int most),.deep o',.own (((fs++w::ws).take most.toNat).map wD),.im (wD d)]))->wp (dk woT woB k) [.im a,.im (.int most),.deep o,.own (fs.map wD),.im (wD w)] K
 |ws,w,o,fs,0,_,_,_,h,_,_=>absurd h (by lia)
 |ws,w,o,fs,k+1,hs,hm,hl,hk,k1,k2=>by
  have e:woT [.im a,.im (.int most),.deep o,.own (fs.map wD),.im (wD w)]=aa (decide (Z fs<most)):=by
   show(iL (a:=ac) rfl (bp (ao (aF rfl (fW fs wD)) rfl rP))).trans ?_;rw[qz]
  by_cases c:Z fs<most
  .rw[decide_eq_true c]at e;show Kz e ?_;apply aj;show fV rfl rfl (by rw[ay];lia) ?_;have g:fs.map wD++[wD w]=(fs++[w]).map wD:=by rw[ba];rfl
   cases hs with
   |nil hi b=>
    show jE (wP rfl hi rfl rfl b) ?_;rw[g];obtain⟨k,rfl⟩:∃j,k=j+1:=(k-1,by lia);show tF (by unfold woT di;rfl) (k1 ?_);rw[aS];change((Z fs+1:Nat):Int)<=_
    lia
   | @cons _ o' _ d ws' hi b f=>
    show jE (wP rfl hi rfl rfl b) ?_;rw[g];have i:fs++w::d::ws'=(fs++[w])++d::ws':=by rw[cK];rfl
    rw[i]at k1 k2;simp only[cv]at hl hk;show KA ws' d o' _ k f (by rw[aS];change((Z fs+1:Nat):Int)<=_;lia) (by rw[aS];change Z fs+1+_<_;lia) (by lia) k1 k2
  .rw[decide_eq_false c]at e;have l:Z fs=most.toNat:=by lia
   have:=k2 (by rw[aS,cv];lia) o w;rw[<- l,take_left' rfl]at this;show tF e this
def WJ{f:Xa}(h:M[i]?=aa (.deep (.at l o0)))(b:f M=aa (ds,ρ1,))(a:ρ1[i]?=aa (.deep (.at l o)))(hm:m l ds o=aa (o',d,)):l5 i m f M=aa (d,ρ1.set i (.deep (.at l o')),):=by
 unfold l5;simp only[h,b,aA,a];change(m l ds o).map _=_;rw[hm];rfl
def s00(n:Nat)(B:LRu):Spt:=spT (g6 n ab) B
def WK(P:Par n c0 X5 X3 B)(l:Addr):Cc l [pl0 n B] (.ins "Seeking" [] [])=aa (((s00 n B).S B).o,.non,):=by
 have hn:=P.hn;have e0:=Ve (v:=n) (es:=g6 n ab) P.hn P.hr P.hz l;rw[VC]at e0;apply fJ;apply aj;show iS (WJ rfl (dN rfl (dN rfl (dN (bT ?_) rfl))) rfl e0) ?_
 .rw[map_replicate];show(gh _ _ _ ((nz (ap (be rfl rfl rfl) rfl) (by lia) (by lia)).trans (by rw[cU])) (by rw[cC];lia) λ_ _=>fT rfl rfl rfl).trans ?_;rw[map_const',cC];rfl
 apply aj;show gS (nQ rfl) rfl rfl ?_;apply aj;show gS (sM rfl) rfl rfl (gS (sM rfl) rfl rfl (_,rfl,rfl,rfl))
variable{q:Nat}
def hd0(P:Par n (64*q*Z B) X5 X3 B)(c:∀r∈B,Z (grd r)<=q):Hd n (64*q*Z B) X5 X3 B (s00 n B) []:=by
 have hC:=P.hC;have b:=Wc P.hn (mi (a:=ab)) λr hr=>(P.hr r hr,c r hr);have t:TrS n B (s00 n B) []:=(rfl,rfl,trivial);show(Ky P t b.bk (b.tw.wk.le (by lia),b.tw.vl,b.tw.br) b.wv b.ms (by have:=b.wl;change(spT _ B).wt.length<=_;rw[this];change Z B+0<=_;lia),b.tw,t,rfl,rfl,cj _)
def WL{fd:List (LI0)}(h:Fin B F fd o):Sq o [] o:=by
 have(s,e,_,_,_,rfl):=h.ex;show .nil rfl λl=>?_;apply fJ;apply aj;show tF (nu (cH (k7 rfl) (by change mZ (.bl s.en)=aa ac;rw[e];rfl))) (iT rfl (_,rfl,rfl,rfl))
def KB(P:Par n c0 X5 X3 B)(K:Car n c0 X5 X3 B I F):∀(g:Nat) (s:Spt) (st:LSp) (fd:List (LI0)),Hd n c0 X5 X3 B s st->I s st fd->3 ^ n-nv n B X5 s<=g->∃ws oE,Sq (s.S B).o ws oE/\Fin B F (fd++ws) oE/\Z ws<=g
 | g,s,st,fd,h,hI,hμ=>by
  have hC:=P.hC;have h2:=P.h2;have y:nv n B X5 s<3 ^ n:=tE _ _;have(r,o,q,u,v):=Et P K _ s st fd h hI (aM _)
  have run:∀l,m_8 l [] (s.S B).o=aa (o,match r with |none=>.non |some w=>wD w,):=λl=>by
   apply fJ;apply aj;show Qz (q l _ _ 999999999 (by lia)) λx m=>?_
   cases r with
   |none=>
    have(M,rfl,e):=m
    show iT rfl (o,e,rfl,rfl)
   |some w=>
    have(M,rfl,e):=m;show(o,e,rfl,rfl)
  cases r with
  |none=>show([],o,.nil rfl run,by rw[bO];show u rfl,cj _)
  |some w=>
   cases v w rfl with
   |fin f=>show([w],o,.cons rfl run (WL f),f,by change 1<=g;lia)
   |go z i a b c d=>
    subst d
    match g,hμ with
    | 0,hμ=>lia
    | g+1,hμ=>
     have(ws,oE,p,j,A):=KB P K g z i _ a b (by lia);show(w::ws,oE,.cons rfl run p,by rw[cK]at j;show j,by simp only[cv];lia)
def WM(P:Par n (64*q*Z B) X5 X3 B)(f:∀r∈B,Z (grd r)<=q)(K:Car n (64*q*Z B) X5 X3 B I F)(e:I (s00 n B) [] []):∃(ws:List (LI0)) (s:Spt),F s ws/\s.pp≠[]/\Z ws<=3 ^ n/\∀most:Int,0<=most->m_0 [pl0 n B,.int most]=aa (if (Z ws:Int)<=most then .tup [wsD ws,.bl ac,.lst s.pp] else .tup [wsD (ws.take most.toNat),.bl af,.lst []]):=by
 have hC:=P.hC;have h2:=P.h2;have(ws,oE,c,(s,f1,f2,h,d,rfl),b):=KB P K (3 ^ n) _ [] [] (hd0 P f) e (by lia);show(ws,s,d,f2,b,λmost hm=>?_);apply gN;apply aj;show Rj (U3 rfl (λl=>WK P l)) ?_;apply aj;show dY rfl ?_;apply aj
 cases c with
 |nil hi hr=>
  show jE (wP rfl hi rfl rfl hr) ?_;apply aj;show tF (by unfold di;rfl) ?_;apply aj;show aR rfl (λ_=>?_) λq=>nomatch q
  show nC rfl (Eo rfl (dG rfl (dH ((if_pos (hm)).symm))))
 | @cons _ o' _ w ws hi hr g=>
  rw[cv]at b;show jE (wP rfl hi rfl rfl hr) ?_;apply aj;show KA ws w o' [] _ g hm (by rw[length_nil];lia) (by lia) (λa=>?_) λa o2 i=>?_
  .apply aj;show aR rfl (λ_=>?_) λq=>nomatch q;show nC rfl (Eo rfl (dG rfl (dH ((if_pos (a)).symm))))
  .apply aj;show aR rfl (λq=>nomatch q) λ_=>bK ?_;show nC rfl (dG rfl (dH ((if_neg (a)).symm)))
structure Scr(x:D)(ns:LI0):Prop where
 ln:cQ [x]=aa (.int (Z ns))
 sq:iH x=aa (ns.map D.int)
 sl:∀{f:MF1} {l h:LS->Option (Option Int)} {M:LS} {lo hi:Option Int},f M=aa x->l M=aa lo->h M=aa hi->mSl f l h M=aa (((ns.drop (HT.sIx ns.length 0 lo)).take (HT.sIx ns.length ns.length hi-HT.sIx ns.length 0 lo)).map D.int)
def WN(ns:LI0):Scr (.kl (ns.map D.int)) ns:=(Hl _ _,rfl,λe a b=>Ho e a b)
def KC{x:D}(h:Scr x ns){i:Int}(b:0<=i):∃v,sr [x,.int i]=aa (.int v):=by
 by_cases a:i<Z ns
 .have(v,_,e):=lO b a;show(v,cS (uU (uV (bp (ao rfl (aF rfl h.ln) (rP.trans (by rw[decide_eq_true a])))) (cR (be h.sq rfl e)))))
 .show(0,cS (jU (nt (bp (ao rfl (aF rfl h.ln) (rP.trans (by rw[decide_eq_false a])))) rfl) rfl))
def oe(c k:Int)(q:0<=k)(r:k<=100):∃v,m_5 [.int c,.int k]=aa (.int v)/\0<=v/\v<1000003:=by
 suffices h:∃d,m_5 _=aa d/\∃v:Int,d=.int v/\0<=v/\v<1000003 by
  have(d,e,v,rfl,h):=h;show(v,e,h)
 apply lS;have(p,i,n):=lO (f:=D.int) (E:=[2147483647,1000000007,998244353,1000000009]) (d4 _ (by decide)) (gZ _ (by decide));have b:∀p∈([2147483647,1000000007,998244353,1000000009]:LI0),0<p/\p<=2147483647:=by decide
 have(j,u):=b p (dS i);have l:=d4 c (show 10 ^ S (18:Int)≠0 by decide);have m:=gZ c (show 0<10 ^ S (18:Int) by decide);have a:(10:Int) ^ S (18:Int)=1000000000000000000:=by decide
 have g:ku 10 18:=(by decide,by decide,by decide);apply aj;show bn (be rfl (ao rfl rfl (cz (by decide))) n) ?_;apply aj;show bn (ao (ao (ao (ao rfl (ao rfl rfl (vc g)) (cz (by rw[a];decide))) (ao rfl (ao rfl rfl gm) (pQ (.inr (by lia,by lia)))) gm) rfl (pQ (.inr (by rw[a]at m l ⊢;lia,by lia)))) rfl (cz (by lia))) ?_;have o0:=d4 ((c % 10 ^ S (18:Int)+15485863*(k+1))*48271) (show p≠0 by lia);have o1:=gZ ((c % 10 ^ S (18:Int)+15485863*(k+1))*48271) j;generalize _*48271 % p=o at *;show dG (ao (ao rfl rfl (pQ (.inr (by lia,by lia)))) rfl (cz (by decide))) (dH (_,rfl,d4 _ (by decide),gZ _ (by decide)))
def WO(c k n:Int)(x:0<=k)(G:k<=90)(H:1<=n):∃d,BF [.int c,.int k,.int n]=aa d/\∃L:LII,d=.lst (L.map itD)/\InN n.toNat L/\Z L<=3:=by
 have(v,m,I,v1):=oe c k x (by lia);have t0:0<=v % 4:=d4 _ (by decide);apply lS;apply aj;show dY rfl ?_;walk_at "nrm";apply aj;show dC _ _ (λpre M=>∃(L:List _) (f g h:Sl),M=[.im _,.im _,.im _,.own (L.map itD),f,g,h]/\InN n.toNat L/\Z L=Z pre) (nz (ap (ao (aF rfl m) rfl (cz (by decide))) rfl) t0 (by lia)) ([],_,_,_,rfl,(λz hz=>nomatch hz),rfl) ?_ ?_
 .rintro pre j post M ex ⟨L,f,g,h,rfl,b,e⟩;have C:j<S (v % 4):=d5.mp (by rw[ex];simp)
  have r:Z pre<S (v % 4):=by
   have:Z pre<Z (bu (S (v % 4))):=by rw[ex];simp
   simpa using this
  have(a,l,A,B):=oe c (k+1+j) (by lia) (by lia);have(w,u,p):=lO (E:=[1,1,a / 8 % 4,c % 10 ^ S (60:Int)]) (i:=a / 32 % 4) (d4 _ (by decide)) (gZ _ (by decide))
  have y:0<=w:=by
   have:=dS u;simp only[bc,dD,or_false]at this
   rcases this with rfl |rfl |rfl |rfl
   .decide
   .decide
   .show d4 _ (by decide)
   .show d4 _ (Int.ne_of_gt p60)
  have m1:=gZ (a / 128) (show 0<n by lia);show(_,rfl,?_);apply aj;show bn (aF (ap rfl (ap (ao (ao rfl rfl gm) rfl gm) rfl)) l) ?_;apply aj;show bn (be (ap rfl (ap rfl (ap (ao (ao rfl rfl (kU (by walk_at "evS"))) rfl (cz (by decide))) (ap (ao rfl (ao rfl rfl (vc I0)) (cz p60)) rfl)))) (ao (ao rfl rfl (kU (by walk_at "evS"))) rfl (cz (by decide))) p) ?_;show fV (du (ap (ao (ao rfl rfl (kU (by walk_at "evS"))) rfl (cz (by lia))) (ap rfl rfl))) rfl (by rw[ay];lia) (L++[(a / 128 % n,w,)],_,_,_,by rw[ba];rfl,λz hz=>?_,by rw[aS,aS,e];rfl)
  rcases bz.mp hz with q |q
  .show b z q
  .rw[bw.mp q];show((d4 _ (show n≠0 by lia)),by change _<_;lia,y)
 .rintro M ⟨L,f,g,h,rfl,b,e⟩;rw[cC]at e;show lU rfl (iR (L,rfl,b,by lia))
def WP(c k n:Int)(r:0<=k)(x:k<=80)(w:1<=n):∃d,vB [.int c,.int k,.int n]=aa d/\∃p:Prt,d=p.toD/\p.Ok n.toNat/\Z (nmP p)<=3:=by
 have(v,m,B,v1):=oe c k r (by lia);have(u,l,y,A):=oe c (k+5) (by lia) (by lia);have(d,j,L,rfl,e,q):=WO c (k+1) n (by lia) (by lia) w;have g:Z (L.map (·.1))<=3:=by rw[ay];show q
 apply lS;apply aj;show bn (aF rfl m) ?_;walk_at "nrm";apply aj;show aR (bp (ao (ao rfl rfl (cz (by decide))) rfl rP)) (λz=>?_) λz=>bK ?_
 .have(wd,a,i):=lO (f:=D.str) (E:=["in","in","out","out","in"]) (d4 _ (by decide)) (of_decide_eq_true z);have h:=d4 (v / 8) (show n≠0 by lia);have m1:=gZ (v / 8) (show 0<n by lia);show dG (du (ap (be rfl (ao rfl rfl (cz (by decide))) i) (ap (ao (ao rfl rfl (kU (by walk_at "evS"))) rfl (cz (by lia))) rfl))) (dH ?_);have:=dS a;simp only[bc,dD,or_false]at this;have one:1<=3:=by decide
  rcases this with rfl |rfl |rfl |rfl |rfl
  .show(.inn _,rfl,(h,by lia),one)
  .show(.inn _,rfl,(h,by lia),one)
  .show(.out _,rfl,(h,by lia),one)
  .show(.out _,rfl,(h,by lia),one)
  .show(.inn _,rfl,(h,by lia),one)
 .walk_at "nrm";have(wd,a,i):=lO (f:=D.str) (E:=["least","most"]) (d4 _ (by decide)) (gZ _ (by decide));have a:=dS a;simp only[bc,dD,or_false]at a
  have fin:∀b:Int,∃p:Prt,D.tup [.str wd,.int b,.lst _]=p.toD/\p.Ok n.toNat/\Z (nmP p)<=3:=λb=>by
   rcases a with rfl |rfl
   .show(.least b L,rfl,(e,by lia),g)
   .show(.most b L,rfl,(e,by lia),g)
  apply aj;show bn (aF (ap rfl (ap (ao rfl rfl gm) (ap rfl rfl))) j) ?_;apply aj;show bn (aF (ap rfl (ap (ao rfl rfl gm) rfl)) l) ?_;walk_at "nrm";apply aj;show aR (bp (ao (ao rfl rfl (cz (by decide))) rfl (kL _ _))) (λz=>?_) λz=>bK ?_
  .have c0:=d4 c (Int.ne_of_gt p60);show dG (du (ap (be rfl (ao rfl rfl (cz (by decide))) i) (ap (ao (ao rfl (ao rfl rfl (vc I0)) (cz p60)) (ao (ao (ao rfl rfl (kU (by walk_at "evS"))) rfl (cz (by decide))) rfl jX) (pQ (.inr (by lia,by lia)))) (ap rfl rfl)))) (dH (fin _))
  .show dG (du (ap (be rfl (ao rfl rfl (cz (by decide))) i) (ap (ao (ao (ao rfl rfl (kU (by walk_at "evS"))) rfl (cz (by decide))) rfl jX) (ap rfl rfl)))) (dH (fin _))
structure Ru5(n:Nat)(r:Rul):Prop where
 ok:r.Ok n
 nm:∀p∈r.ps,Z (nmP p)<=3
 ln:Z r.ps<=3
def Ru5.k(h:Ru5 n r):RuK n r:=(h.ok,λp a=>cV (h.nm p a) (by decide),cV h.ln (by decide))
def WQ(c n:Int)(N:1<=n):∃d,BI [.int c,.int n]=aa d/\∃r:Rul,d=r.toD/\Ru5 n.toNat r:=by
 have(v,H,v0,v1):=oe c 0 (by decide) (by decide);have(u,G,U,Y):=oe c 1 (by decide) (by decide);have(t,A,t0,t1):=oe c 2 (by decide) (by decide);have(wd,l,I):=lO (f:=D.str) (E:=["make","make","make","make","may","may","may","never"]) (i:=v % 8) (d4 _ (by decide)) (gZ _ (by decide));have L:=d4 t (show n≠0 by lia);have m1:=gZ t (show 0<n by lia);have Q:=d4 u (show(4:Int)≠0 by decide);have s1:=gZ u (show(0:Int)<4 by decide);apply lS;change wp _ [.im _,.im _,.no,.no,.no] _;apply aj;show bn (d:=.str wd) (be rfl (ao (aF rfl H) rfl (cz (by decide))) I) ?_;apply aj;show bn (d:=.int (u % 4)) (ao (aF rfl G) rfl (cz (by decide))) ?_;show Hq (λM=>∃z:Int,M=[.im (.int c),.im (.int n),.im (.str wd),.im (.int z),.no]/\0<=z/\z<=3) ?_ ?_
 .show aR (iL (bp (ao rfl rfl (rH _ _))) (iL (bp (ao rfl rfl (kL _ _))) (bp (ao (ao (aF rfl A) rfl (cz (by decide))) rfl kX)))) (λ_=>?_) λ_=>?_
  .show bn rfl (k_J (2,rfl,by decide,by decide))
  .show bK (k_J (u % 4,rfl,Q,by lia))
 .rintro M ⟨z,rfl,T,z3⟩
  have(ps,x,y,h):=UO (k:=1) (js:=[0,1]) (g:=ax 0) (ft:=λ_=>aa ac) (fe:=aw vB (ag (ae 1) (ag (m2 eC (kI 3) (m2 lW (kI 6) (ae 0))) (ag (ae 2) nZ)))) (fi:=gL (ag (ae 3) nZ)) (M:=[.im (.int c),.im (.int n),.im (.str wd),.im (.int z),.no]) _ _ Prt.toD (λp=>p.Ok (S n)/\Z (nmP p)<=3) (nz rfl T (by lia)) (by rw[cC];lia) λj B=>by
   have B:=d5.mp B;have(d,C,p,rfl,a):=WP c (3+6*j) n (by lia) (by lia) N;show(p,a,fT rfl rfl (aF (ap rfl (ap (ao rfl (ao rfl rfl (pQ (.inr (by lia,by lia)))) gm) (ap rfl rfl))) C))
  rw[cC]at y;have m:Z ps<=3:=by lia
  apply aj;show bn (bT x) ?_;have l:=dS l;simp only[bc,dD,or_false]at l
  have mk:∀w:Wrd,w≠.never->wd=w.s->∃r:Rul,D.tup [.str wd,.int (t % n),.lst (ps.map Prt.toD)]=r.toD/\Ru5 n.toNat r:=λw J e=>⟨(w,t % n,ps),by rw[e];cases w <;> first |rfl |show absurd rfl J,(λ_=>(L,by change t % n<_;lia),λp a=>(h p a).1,by change Z ps<=_;lia),λp a=>(h p a).2,m⟩
  apply aj;show aR (b:=wd == "never") (bp (ao rfl rfl (rH _ _))) (λe=>?_) λe=>bK ?_
  .show dG (d:=.tup [.str wd,.non,.lst (ps.map Prt.toD)]) rfl (dH ((.never,0,ps),by rw[eq_of_beq e];rfl,(λq=>absurd rfl q,λp a=>(h p a).1,by change Z ps<=_;lia),λp a=>(h p a).2,m))
  .show dG (d:=.tup [.str wd,.int (t % n),.lst (ps.map Prt.toD)]) (du (ap rfl (ap (ao (aF rfl A) rfl (cz (by lia))) (ap rfl rfl)))) (dH ?_)
   rcases l with q |q |q |q |q |q |q |q
   .show mk .make (λz=>nomatch z) q
   .show mk .make (λz=>nomatch z) q
   .show mk .make (λz=>nomatch z) q
   .show mk .make (λz=>nomatch z) q
   .show mk .may (λz=>nomatch z) q
   .show mk .may (λz=>nomatch z) q
   .show mk .may (λz=>nomatch z) q
   .rw[q]at e;nomatch e
def ptE(h:f M=aa (.int v)):mPt f M=aa (aa v):=by unfold mPt;rw[h];rfl
def ru1{w:Wrd}{hd:Int}{ps:List Prt}(h:0<=hd/\hd<(n:Int))(a:∀p∈ps,p.Ok n/\Z (nmP p)<=3)(b:Z ps<=3):Ru5 n (w,hd,ps):=((λ_=>h,λp q=>(a p q).1,by change Z ps<=_;lia),λp q=>(a p q).2,b)
def WR(c n:Int)(x:0<=n)(A:n<=60):∃B:LRu,BD [.int c,.int n]=aa (B.map Rul.toD)/\(∀r∈B,Ru5 n.toNat r)/\Z B<=n.toNat:=by
 suffices h:wp vA _ (λr=>∃B:LRu,r=.rtO (B.map Rul.toD)/\(∀r∈B,Ru5 n.toNat r)/\Z B<=n.toNat) by
  have(r,e,B,rfl,h):=h;show(B,nE e,h)
 apply aj;show dY rfl ?_;walk_at "nrm";apply aj;show dC _ _ (λpre M=>∃(B:LRu) (f:Sl),M=[.im _,.im _,.own (B.map Rul.toD),f]/\(∀r∈B,Ru5 n.toNat r)/\Z B<=Z pre) (nz rfl x (by lia)) ([],_,rfl,(λr hr=>nomatch hr),aM _) ?_ ?_
 .rintro pre j post M ex ⟨B,f,rfl,g,h2⟩;have y:j<n.toNat:=d5.mp (by rw[ex];simp)
  have v:Z pre<n.toNat:=by
   have:Z pre<Z (bu n.toNat):=by rw[ex];simp
   simpa using this
  have u:=d4 (j+1:Int) (show n≠0 by lia);have m1:=gZ (j+1:Int) (show 0<n by lia);have one:1<=3:=by decide
  have add:∀r:Rul,Ru5 n.toNat r->∃(a:LRu) (f:Sl),[.im _,.im _,.own (B.map Rul.toD++[r.toD]),.im (.int j)]=[Sl.im (.int c),.im (.int n),.own (a.map Rul.toD),f]/\(∀r∈a,Ru5 n.toNat r)/\Z a<=Z (pre++[j]):=λr hr=>(B++[r],_,by rw[ba];rfl,λq w=>by rcases bz.mp w with z |z;show g q z;rw[bw.mp z];show hr,by rw[aS,aS];show Nat.add_le_add_right h2 _)
  have no:∀{k:Int},c % 4≠k->∀M:LS,M[0]?=aa (.im (.int c))->mB (m2 dEq (m2 bY (ae 0) (kI 4)) (λ_=>aa _)) M=aa af:=λ{k} h M e=>bp (ao (ao (by unfold ae;rw[e]) rfl (cz (by decide))) rfl ((kL _ _).trans (by rw[beq_false_of_ne h])));have ye:∀{k:Int},c % 4=k->∀M:LS,M[0]?=aa (.im (.int c))->mB (m2 dEq (m2 bY (ae 0) (kI 4)) (λ_=>aa _)) M=aa ac:=λ{k} h M e=>bp (ao (ao (by unfold ae;rw[e]) rfl (cz (by decide))) rfl ((kL _ _).trans (by rw[h,beq_self_eq_true])));show(_,rfl,?_);apply aj
  by_cases i:c % 4=1
  .show aR (ye i _ rfl) (λ_=>?_) λz=>nomatch z;show fV (d:=Rul.toD (.make,j,[.inn _])) (du (ap rfl (ap rfl (ap (bT (ap (du (ap rfl (ap (ao (ao rfl rfl gm) rfl (cz (by lia))) rfl))) rfl)) rfl)))) rfl (by rw[ay];lia) ?_;apply aj;show aR (no (by lia) _ rfl) (λz=>nomatch z) λ_=>bK ?_;show aR (no (by lia) _ rfl) (λz=>nomatch z) λ_=>bK (add _ (ru1 (by lia,by lia) (λp b=>by rw[bw.mp b];show((u,by lia),one)) one))
  .show aR (no i _ rfl) (λz=>nomatch z) λ_=>bK ?_;apply aj
   by_cases l:c % 4=2
   .show aR (ye l _ rfl) (λ_=>?_) λz=>nomatch z;show fV (d:=Rul.toD (.make,j,[.out _])) (du (ap rfl (ap rfl (ap (bT (ap (du (ap rfl (ap (ao (ao rfl rfl gm) rfl (cz (by lia))) rfl))) rfl)) rfl)))) rfl (by rw[ay];lia) ?_;show aR (no (by lia) _ rfl) (λz=>nomatch z) λ_=>bK (add _ (ru1 (by lia,by lia) (λp b=>by rw[bw.mp b];show((u,by lia),one)) one))
   .show aR (no l _ rfl) (λz=>nomatch z) λ_=>bK ?_
    by_cases m:c % 4=3
    .show aR (ye m _ rfl) (λ_=>?_) λz=>nomatch z;show fV (d:=Rul.toD (.may,j,[])) rfl rfl (by rw[ay];lia) (add _ (ru1 (by lia,by lia) (λp b=>nomatch b) (cj _)))
    .show aR (no m _ rfl) (λz=>nomatch z) λ_=>bK (B,_,rfl,g,by rw[aS];lia)
 .rintro M ⟨B,f,rfl,g,h2⟩;rw[cC]at h2;show lU rfl (B,rfl,g,h2)
def WS{x:D}(C:Scr x ns)(U:Z ns<=63){top:Int}(t1:1<=top)(t6:top<=6):∃(n:Nat) (B:LRu),vC [x,.int top]=aa (pl0 n B)/\(n:Int)<top/\(∀r∈B,Ru5 n r)/\Z B<=5+Z ns:=by
 suffices h:∃d,vC _=aa d/\∃(n:Nat) (B:LRu),d=pl0 n B/\n<top/\(∀r∈B,Ru5 n r)/\Z B<=5+Z ns by
  have(d,e,n,B,rfl,h):=h;show(n,B,e,h)
 have(v,J):=KC C (Int.le_refl _);have G:=d4 v (show top≠0 by lia);have m1:=gZ v (show 0<top by lia);have(B,j,N,h2):=WR _ _ G (by lia);have(u,Y,I):=lO (f:=D.int) (E:=[60,60,40,24,10,5]) G (by change v % top<6;lia);apply lS;apply aj;show bn (aF rfl J) ?_;apply aj;show bn (ao rfl rfl (cz (by lia))) ?_;apply aj
 show dY (vd (ap (ao rfl rfl (kU (by first |show .inl (by lia,by lia) |show .inr (by lia,by lia) |show(by lia,by lia)))) (ap rfl rfl)) j) ?_
 have g:Z ((ns.drop (HT.sIx ns.length 0 (aa 1))).take (HT.sIx ns.length ns.length (aa (1+u))-HT.sIx ns.length 0 (aa 1)))<=Z ns:=by
  grind
 generalize m:(ns.drop _).take _=A at g;generalize hn:v % top=n at *;apply aj;show dC A D.int (λpre M=>∃(a:LRu) (i:Sl),M=[.im x,.im _,.im _,.im _,.own (a.map Rul.toD),i]/\(∀r∈a,Ru5 n.toNat r)/\Z a<=5+Z pre) (e7 (bT ((C.sl rfl rfl (ptE (ao rfl (be rfl rfl I) gm))).trans (by rw[m]))) rfl) (B,_,rfl,N,by change _<=5;lia) ?_ ?_
 .rintro pre c post M ex ⟨a,i,rfl,l,L⟩;have Q:Z pre<Z A:=by rw[ex];simp
  have add:∀r:Rul,Ru5 n.toNat r->∃(b:LRu) (i:Sl),[.im x,.im _,.im _,.im _,.own (a.map Rul.toD++[r.toD]),.im (.int c)]=[Sl.im x,.im (.int top),.im (.int v),.im (.int n),.own (b.map Rul.toD),i]/\(∀r∈b,Ru5 n.toNat r)/\Z b<=5+Z (pre++[c]):=λr hr=>(a++[r],_,by rw[ba];rfl,λq T=>by rcases bz.mp T with z |z;show l q z;rw[bw.mp z];show hr,by rw[aS,aS];change _+1<=5+(_+1);lia)
  show(_,rfl,?_);show aR (bp (ao rfl rfl (kL _ _))) (λz=>?_) λz=>?_
  .have w:n=0:=by simpa using z
   show fV (d:=Rul.toD (.never,0,[.most _ []])) (du (ap rfl (ap rfl (ap (bT (ap (du (ap rfl (ap (ao (ao rfl rfl (cz (by decide))) rfl jX) (ap rfl rfl)))) rfl)) rfl)))) rfl (by rw[ay];lia) (add _ ((λq=>absurd rfl q,(λp y=>by rw[bw.mp y];show(λz hz=>(nomatch hz),cj _)),(by decide:1<=100000)),λp y=>by rw[bw.mp y];show cj _,(by decide:1<=3)))
  .have w:n≠0:=λq=>by rw[q]at z;nomatch z
   have(d,H,r,rfl,hr):=WQ c n (by lia);show fV (aF rfl H) rfl (by rw[ay];lia) (add r hr)
 .rintro M ⟨a,i,rfl,l,L⟩;show nC rfl (dG rfl (dH (S n,a,?_,by lia,l,by lia)));unfold pl0;rw[show(n.toNat:Int)=n by lia]
def WT(p:Prt):Bp [p.toD]=aa p.toD:=by
 cases p with
 |inn t=>rfl
 |out t=>rfl
 |least k L=>rfl
 |most k L=>rfl
def WU(hr:∀r∈B,Ru5 n r)(f:Z B<=1000):Br [pl0 n B]=aa (pl0 n B):=by
 apply gN;apply aj;show dY rfl ?_;apply aj;show dC B Rul.toD (λpre M=>∃a b c,M=[.im _,.own (pre.map Rul.toD),a,b,c]) (e7 (be rfl rfl rfl) rfl) (_,_,_,rfl) ?_ ?_
 .rintro pre r post M ex ⟨a,b,c,rfl⟩;have d:Z pre<Z B:=by rw[ex];simp
  have e:=(hr r (by rw[ex];simp)).ln;show(_,rfl,?_);show fV (du (ap rfl (ap rfl (ap (bT (gh r.ps Prt.toD Prt.toD rfl (by lia) λp _=>fT rfl rfl (aF rfl (WT p)))) rfl)))) rfl (by rw[ay];lia) (.im (.str r.w.s),.im r.hdD,.im (.lst (r.ps.map Prt.toD)),?_);rw[ba];rfl
 .rintro M ⟨a,b,c,rfl⟩;show nC rfl (dG rfl (dH rfl))
def WV(a:n<=5)(hr:∀r∈B,Ru5 n r)(c:Z B<=69):Par n (64*4*Z B) 950900 4760000 B:=by
 have b:3 ^ n<=243:=Nat.pow_le_pow_right (by decide) a
 have key:∀X5 X3:Nat,X5=950900->X3=4760000->Par n (64*4*Z B) X5 X3 B:=λX5 X3 hC hB=>by
  show(λr q=>(hr r q).k,by lia,by lia,by lia,by lia,by lia)
 show key _ _ rfl rfl
def WW(hr:∀r∈B,Ru5 n r):∀r∈B,Z (grd r)<=4:=λr q=>by
 have:=(hr r q).ln;have(w,hd,ps):=r;have this:Z ps<=3:=this
 cases w with
 |may=>show(by decide:1<=4)
 |never=>change Z ps<=4;lia
 |make=>change(ps++[_]).length<=4;rw[aS];change _+1<=4;lia
variable{e:LOB}
def KD(c:p.Ok (Z e))(t0:0<=t)(t1:t<(Z e:Int))(a:opn e t=ac)(h:t∉nmP p\/gT p≠b):p.sure (put e t.toNat b)=p.sure e:=by
 rcases h with h |h
 .show U6 c (by grind)
 .have d:=iX a
  cases p with
  |inn u=>
   cases b with
   |true=>show absurd rfl h
   |false=>
    change((put e t.toNat af).getD u.toNat ab==aa ac)=(e.getD u.toNat ab==aa ac)
    by_cases q:S u=S t
    .rw[q,e8 e af (by lia),d];rfl
    .rw[da e af q]
  |out u=>
   cases b with
   |false=>show absurd rfl h
   |true=>
    change((put e t.toNat ac).getD u.toNat ab==aa af)=(e.getD u.toNat ab==aa af)
    by_cases q:S u=S t
    .rw[q,e8 e ac (by lia),d];rfl
    .rw[da e ac q]
  |least k L=>
   cases b with
   |true=>show absurd rfl h
   |false=>
    change decide _=decide _;rw[wb c.1 t0 t1 a af]
    simp
  |most k L=>
   cases b with
   |false=>show absurd rfl h
   |true=>
    change decide _=decide _;rw[we c.1 t0 t1 a ac];simp
structure eB(G:List Prt)(es:LOB)(S:LI0):Prop where
 ns:¬eq G es
 np:∀(t:Int) (b:Bool),0<=t->t<(Z es:Int)->opn es t=ac->eq G (put es t.toNat (!b))->t∈S
variable{S:LI0}
def eB.pt(h:eB G es (t::S))(i:∀p∈G,p.Ok (Z es))(t0:0<=t)(t1:t<(Z es:Int))(j:opn es t=ac)(hn:∀p∈G,t∉nmP p\/gT p≠b):eB G (put es t.toNat b) S:=by
 show(λq=>h.ns λp a=>by rw[<- KD (i p a) t0 t1 j (hn p a)];show q p a,λu c d l f q=>?_);rw[cb]at l
 have ne:u≠t:=λe=>by
  unfold opn at f;rw[e,e8 es b (by lia)]at f
  grind
 have g:opn es u=ac:=by rw[<- Ed d t0 ne];show f
 have:=h.np u c d l g λp a=>by
  have e:=KD (e:=put es u.toNat (!c)) (by rw[cb];show i p a) t0 (by rw[cb];show t1) (wu t0 d (λe=>ne e.symm) j) (hn p a);rw[<- e,wq (by lia)]
  grind
 grind
def eB.of_prs{ps:List Pr}(c:∀p∈G,p.Ok (Z es))(h:prs G es=aa ps):eB G es (ps.map (·.1)):=by
 have(_,h2,p,e,a):=n6 c h;show((λq=>by rw[q p e]at a;nomatch a),λt b t0 t1 d q=>(aH.mpr (_,(h2 (t,b,)).mpr ((t0,t1),d,q),rfl)))
def Wch(B:LRu)(bs:LLP)(tw:Wt)(y:Wy):Prop:=∀p∈bQ B bs y,∀t∈nmL p,y∈look tw (t,gT p,)
def Jq(B:LRu)(s:Spt)(y0:Wy)(S:LI0):Prop:=∀y∈gys B.length (Z s.bs),Wch B s.bs s.tw y->y∈s.wt\/eB (bQ B s.bs y) s.es (if y=y0 then S else [])
def eB.more{f:LI0}(h:eB G es S)(g:∀t∈S,t∈f):eB G es f:=(h.ns,λt b a c d e=>g t (h.np t b a c d e))
variable{y0:Wy}
def Jq.pt{w:D}(hr:∀r∈B,RuK n r)(k:SpJ n c X3 B s)(h:Jq B s y0 (t::S))(t0:0<=t)(t1:t<(n:Int))(g:opn s.es t=ac):Jq B (s.pt t b w) y0 S:=λy i e=>by
 have f:∀p∈bQ B s.bs y,p.Ok (Z s.es):=by rw[k.es];show n8 hr k.bk
 rcases h y i e with q |q
 .show .inl (bV _ q)
 .by_cases hn:∀p∈bQ B s.bs y,t∉nmP p\/gT p≠b
  .show .inr (eB.pt (q.more ?_) f t0 (by rw[k.es];show t1) g hn)
   grind
  .have(p,a):=Classical.not_forall.mp hn;have(a,d):=Classical.not_imp.mp a;show .inl (ci _ ?_);have:=e p a t (sO.mpr (Classical.not_not.mp λz=>d (.inl z)));rw[(Classical.not_not.mp λz=>d (.inr z))]at this;show this
def Jq.puts{n c X3:Nat}{B:LRu}{y0:Wy}{w:D}(hr:∀r∈B,RuK n r):∀{ps:List Pr} {s:Spt},SpJ n c X3 B s->fK s.es ps->Jq B s y0 (ps.map (·.1))->Jq B (puts s w ps) y0 []
 | [],_,_,_,h=>h
 |z::ps,s,k,p,h=>by
  have((a,b),e):=p.op z az;have b:z.1<n:=by rw[<- k.es];show b
  show Jq.puts hr (ps:=ps) (k.pt a b e).1 p.tail (Jq.pt hr k h a b e)
def Jr(B:LRu)(s:Spt):Prop:=∀y0,Jq B s y0 []
def Jr.of(h:Jq B s y0 []):Jr B s:=λ_ y b a=>by
 rcases h y b a with q |q
 .grind
 .grind
def KE{n c X3:Nat}{B:LRu}(hr:∀r∈B,RuK n r):∀(k:Nat) (s:Spt),SpJ n c X3 B s->Me c s<k->Jr B s->(lrF B k s).1=ab->Jr B (lrF B k s).2
 | 0,_,_,h,_,_=>absurd h (g9 _)
 |k+1,s,h,hk,hj,he=>by
  cases b:s.wt with
  |nil=>rw[sX b];show hj
  |cons y wt=>
   have(f,h2,m):=h.pop b;have g:∀p∈bQ B s.bs y,p.Ok (Z s.es):=by rw[h.es];show n8 hr h.bk
   cases a:prs _ s.es with
   |none=>rw[sY b a]at he;cases he
   |some ps=>
    rw[qk b a]at he ⊢;have(i,u,_):=n6 g a;have(l,v):=n4 f i;show KE hr k _ l (by lia) (Jr.of (Jq.puts (y0:=y) hr f i ?_)) he;intro x j d
    by_cases e:x=y
    .rw[if_pos e];show .inr (by rw[e];show eB.of_prs g a)
    .rw[if_neg e]
     rcases hj x x j d with q |q
     .grind
     .grind
def KF{n c X3:Nat}{B:LRu}{wo:LB0}(hr:∀r∈B,RuK n r):∀{ts:LI0} {s:Spt},SpJ n c X3 B s->fK s.es (ts.map λt=>(t,af,))->Jr B s->Jr B (eN B wo s ts)
 | [],_,_,_,h=>h
 |t::ts,s,k,p,h=>by
  have((a,b),e):=p.op _ az;have b:t<n:=by rw[<- k.es];show b
  show KF hr (ts:=ts) (k.pt a b e).1 p.tail (Jr.of (y0:=(af,0,)) (Jq.pt hr k (λy g f=>?_) a b e))
  rcases h y y g f with q |q
  .grind
  .rw[if_pos rfl]at q;show .inr (q.more λu d=>nomatch d)
def qu(B:LRu)(es:LOB):Prop:=∀wo,Grp B es wo->∀i,wo.getD i af=af
def WX(hm:fm es.length ms)(pm:ms.Perm (dM B))(g:Grp B es wo)(i:Nat)(hi:wo.getD i af=ac):(cg es ms).1.getD i af=ac:=by
 have(e,_):=Jy hm.ne;show Vg hm.ok e.pe (by rw[g.len];unfold jC;rw[ay]) (λj a=>?_) (λj a=>by rw[getD_nil]at a;nomatch a) (λr hr d=>?_) i hi
 .have f:=g.no j a
  have c:j<Z es:=by
   rw[<- g.len]
   grind
  unfold jC
  grind
 .have(_,h2,b):=Ju d;rw[g.up r (pm.mem_iff.mp hr) h2]at b
  grind
def WY(wo:LB0)(es:LOB)(l:Z wo=Z es)(i:Nat):(sW es wo).getD i ab=if wo.getD i af=ac then aa af else es.getD i ab:=by
 unfold sW
 have gen:∀(ts:LI0) e,Z e=Z es->(∀t∈ts,0<=t/\t<Z es)->(ts.foldl (λes t=>put es t.toNat af) e).getD i ab=if (i:Int)∈ts then aa af else e.getD i ab:=by
  intro ts
  induction ts with
  |nil=>intro e _ _;rfl
  |cons t ts j=>
   intro e f c;have(a,b):=c t az;rw[fL,j _ (by rw[cb];show f) λu g=>c u (bi _ g)]
   by_cases d:(i:Int)∈ts
   .grind
   .rw[if_neg d]
    by_cases h2:i=t
    .rw[if_pos (by grind),show i=t.toNat by lia,e8 e af (by lia)]
    .rw[if_neg (λq=>by rcases bc.mp q with z |z;show h2 z;show d z),da e af (by lia)]
 rw[gen _ es rfl λt c=>?_]
 .by_cases h:wo.getD i af=ac
  .rw[if_pos h,if_pos ((vR wo i).mpr (by lia,by rw[cU];show h))]
  .rw[if_neg h,if_neg (λq=>h (by have:=((vR wo i).mp q).2;rwa [cU]at this))]
 .have(t0,tw):=(vR wo t).mp c
  grind
def lost_by(h:p.Ok (Z es))(a:∀i,es.getD i ab=aa ac->es'.getD i ab=aa ac)(h2:∀i,(es.getD i ab=aa af\/wo.getD i af=ac)->(es'.getD i ab=aa af\/wo'.getD i af=ac))(s:p.lost es wo=ac):p.lost es' wo'=ac:=J9 h (λt _=>a _) (λt _=>h2 _) s
def WZ(hr:∀r∈B,RuK n r)(hz:Z B<=1000)(h:SpJ n c X3 B s)(y:(bL B s).1=ab):qu B (bL B s).2.es:=by
 have hm:=fm.of hr hz h.ms;have(M,l,pm,C):=h.rem' hm;unfold bL at y ⊢
 cases H:inL s.es (cg s.es s.ms).1 with
 |cons x E=>rw[H]at y;nomatch y
 |nil=>
  have(_,_,T,_,_,_):=wE M (tm l.1 H C);rw[T,wz];change qu B (sW s.es (cg s.es s.ms).1);have b:=WY (cg s.es s.ms).1 s.es l.1;have m:fm s.es.length s.ms:=by rw[h.es];show hm
  have A:=λwo i=>WX (wo:=wo) m h.ms (i:=i);generalize (cg s.es s.ms).1=wo at *
  have d:Z (sW s.es wo)=Z s.es:=by
   have:∀(ts:LI0) e,Z (ts.foldl (λes t=>put es t.toNat af) e)=Z e:=by
    intro ts
    induction ts with
    |nil=>intro e;rfl
    |cons t ts Q=>intro e;rw[fL,Q,cb]
   show this _ _
  intro w g i
  cases hi:w.getD i af with
  |false=>rfl
  |true=>
   exfalso
   have a:∀j,(ow (· || ·) wo w).getD j af=(wo.getD j af || w.getD j af):=λj=>by
    have N:Z w=Z wo:=by rw[g.len,d,l.1]
    grind
   have L:Grp B s.es (ow (· || ·) wo w):=by
    show(by rw[length_zipWith,g.len,d,l.1,tP],λj I=>?_,λr f J=>?_)
    .rw[a]at I
     rcases(j8 _ _).mp I with q |q
     .grind
     .intro e;show g.no j q ?_
      grind
    .have v:=m.ok r (h.ms.mem_iff.mpr f);rw[a]at J
     rcases(j8 _ _).mp J with q |q
     .show rJ (λp G z=>lost_by (v.ps p G) (λj e=>e) (λj e=>e.imp id λu=>by rw[a,u];rfl) z) (l.2 r (h.ms.mem_iff.mpr f) q)
     .show rJ (λp G z=>lost_by (by rw[d];show v.ps p G) (λj e=>?_) (λj e=>?_) z) (g.up r f q)
      .grind
      .rw[a]
       rcases e with e |e
       .rw[b]at e;split at e
        .rename_i u;show .inr (by rw[u];rfl)
        .show .inl e
       .show .inr (by rw[e];show qA _)
   show g.no i hi ?_;rw[b,if_pos (A _ i L (by rw[a,hi];show qA _))]
def W0(hr:∀r∈B,RuK n r)(hz:Z B<=1000)(h:SpJ n c X3 B s)(g:Jr B s)(a:(bL B s).1=ab):Jr B (bL B s).2:=by
 have(e,f,pm,b):=h.rem' (fm.of hr hz h.ms);unfold bL at a ⊢
 cases d:inL s.es (cg s.es s.ms).1 with
 |cons x E=>rw[d]at a;nomatch a
 |nil=>show KF hr e (tm f.1 d b) g
def KG{n c X3:Nat}{B:LRu}(hr:∀r∈B,RuK n r)(hz:Z B<=1000):∀(k:Nat) (s:Spt),SpJ n c X3 B s->Me c s<k->Jr B s->(stF B c k s).1=ab->Jr B (stF B c k s).2/\(stF B c k s).2.wt=[]/\qu B (stF B c k s).2.es
 | 0,_,_,h,_,_=>absurd h (g9 _)
 |k+1,s,h,hk,hj,he=>by
  have l:=sZ hr _ s h (c8 _);have f:=KE hr _ s h (c8 _) hj;unfold stF at he ⊢;generalize lrF B _ s=R at l f he ⊢
  by_cases b:R.1.isSome=ac
  .simp_all
  .rw[if_neg b]at he ⊢;have(g,q,u,v,i,w):=wF hr hz l.ok;have j:=W0 hr hz l.ok (f (none_of b));have pg:=WZ hr hz l.ok;have p:=l.le;generalize bL B R.2=P at *
   by_cases a:(P.1.isSome || P.2.wt.isEmpty)=ac
   .grind
   .rw[if_neg a]at he ⊢;have d:=none_of λe=>a (by rw[e];rfl);have h2:P.2.wt≠[]:=λe=>a (by grind);have m:=i d (l.no (none_of b)) h2;show KG hr hz k P.2 g (by lia) (j d) he
def Ind(bs:LLP)(tw:Wt)(j:Nat):Prop:=∀p,cn tw p (ac,j,)=if p∈bs.getD j [] then 1 else 0
structure Dw(B:LRu)(bs:LLP)(tw:Wt):Prop where
 ru:∀i,i<Z B->Wch B bs tw (af,i,)
 br:∀j,j<Z bs->Ind bs tw j\/∃j2,j<j2/\j2<Z bs/\∀p∈bs.getD j2 [],p∈bs.getD j []
def W2{p q:Pr}{z:Wy}(h:z∈look tw q):z∈look (gE p y tw) q:=by
 rw[sU]
 grind
def Eu{b:Bool}{q:Pr}{y z:Wy}:∀(ts:LI0) {tw:Wt},z∈look tw q->z∈look (ts.foldl (λtw t=>gE (t,b,) y tw) tw) q
 | [],_,h=>h
 |t::ts,tw,h=>Eu ts (W2 h)
def wQ{q:Pr}{y z:Wy}:∀(ps:List Prt) {tw:Wt},z∈look tw q->z∈look (fZ y ps tw) q
 | [],_,h=>h
 |p::ps,tw,h=>wQ ps (Eu _ h)
def KH{y:Wy}:∀(ps:List Prt) {tw:Wt} {p:Prt} {t:Int},p∈ps->t∈nmL p->y∈look (fZ y ps tw) (t,gT p,)
 | [],_,_,_,h,_=>nomatch h
 |q::ps,tw,p,t,h,ht=>by
  rcases bc.mp h with e |e
  .show wQ ps ?_;rw[<- e]
   have gen:∀(ts:LI0) tw,t∈ts->y∈look (ts.foldl (λtw t=>gE (t,gT p,) y tw) tw) (t,gT p,):=by
    intro ts
    induction ts with
    |nil=>intro tw h;cases h
    |cons u ts a=>
     intro tw h
     rcases bc.mp h with e |e
     .show Eu ts ?_;rw[sU,if_pos (by rw[e])]
      grind
     .grind
   show gen _ tw ht
  .show KH ps e ht
def KI{q:Pr}{z:Wy}:∀(B:LRu) (i:Nat) {tw:Wt},z∈look tw q->z∈look (nX i B tw) q
 | [],_,_,h=>h
 |r::B,i,tw,h=>KI B _ (wQ _ h)
def KJ:∀(B:LRu) (i j:Nat) (tw:Wt) (r:Rul),B[j]?=aa r->∀p∈grd r,∀t∈nmL p,(af,i+j,)∈look (nX i B tw) (t,gT p,)
 | [],_,_,_,_,h,_,_,_,_=>by cases h
 |r'::B,i,0,tw,r,h,p,hp,t,ht=>by
  cases h
  show KI B _ (KH _ hp ht)
 |r'::B,i,j+1,tw,r,h,p,hp,t,ht=>by
  have:=KJ B (i+1) j (fZ (af,i,) (grd r') tw) r h p hp t ht;rw[show i+1+j=i+(j+1) by lia]at this;show this
def W3(es:LOB)(B:LRu):Dw B [] (spT es B).tw:=by
 show(λi hi p a t c=>?_,λj b=>absurd b (g9 _))
 have e:bQ B [] (af,i,)=grd B[i]:=by
  change((B[i]?).map grd).getD []=_;rw[b6 hi];rfl
 rw[e]at a;have:=KJ B 0 i [] B[i] (b6 hi) p a t c;rw[lu]at this;show this
def KL{bs:LLP}(a:∀b∈bs,b.Nodup)(p:Pr)(i:Nat):∀(X2:List Wy) (tw:Wt),cn (X2.foldl (jD bs) tw) p (af,i,)=cn tw p (af,i,)
 | [],_=>rfl
 |y::X2,tw=>by
  rw[fL,KL a p i X2,qj a,if_neg (λx=>by rw[<- x.2.2]at x;cases x.1)]
def Dw.bar{bs:LLP}{b:List Pr}(h:Dw B bs tw)(k:d3 c B.length bs tw)(bk:∀b∈bs,c6 n b)(m:c6 n b):Dw B (bs++[b]) (fZ (ac,Z bs,) (brg b) (l8 bs tw b)):=by
 have a:=λb q=>(bk b q).pd;show(λi hi p d t u=>?_,λj r=>?_)
 .have:=h.ru i hi p d t u;show wQ _ (gV.mpr ?_);unfold l8;rw[KL a];show gV.mp this
 .rw[aS,f6]at r;unfold Ind
  by_cases e:j=Z bs
  .show .inl λp=>?_;rw[l9,if_pos e,e]
   have l:cn _ p (ac,Z bs,)=0:=Nat.eq_zero_of_not_pos λq=>by
    have:Z bs<Z bs:=fh.mp ((k.dropped a b).vl p _ (gV.mpr q));show gB _ this
   rw[D8,l,lu,m.pd.count]
  .have f:j<Z bs:=by lia
   rw[l9,if_neg e]
   by_cases g:(ac,j,)∈wider tw b
   .show .inr (Z bs,f,by rw[aS,f6];lia,λp d=>?_);rw[l9,if_pos rfl]at d;show(k.wide g).2.2.1 p d
   .rcases h.br j f with q |⟨j2,q1,q2,q3⟩
    .show .inl λp=>?_;rw[nY λz=>e (tR z).2];unfold l8;rw[wn a p _ _ _ g];show q p
    .show .inr (j2,q1,by rw[aS,f6];lia,λp d=>?_);rw[l9,if_neg (by lia)]at d;show q3 p d
structure jH(B:LRu)(bs:LLP)(es:LOB):Prop where
 ru:∀r∈B,eB (grd r) es []
 br:∀b∈bs,eB (brg b) es []
 gr:qu B es
def eB.sub{g:List Prt}(h:eB G es S)(i:∀p∈G,p∈g):eB g es S:=(λq=>h.ns λp f=>q p (i p f),λt b a c d e=>h.np t b a c d λp f=>e p (i p f))
def Ind.wch{bs:LLP}(h:Ind bs tw j):Wch B bs tw (ac,j,):=λp c t a=>by
 have(z,hz,rfl):=aH.mp c
 have e:t=z.1/\gT (brP z)=z.2:=by
  have(u,b):=z
  cases b with
  |true=>show(bw.mp a,rfl)
  |false=>show(bw.mp a,rfl)
 rw[e.1,e.2];show gV.mpr ?_;rw[h z,if_pos hz]
 grind
def KM(hr:∀r∈B,RuK n r)(hz:Z B<=250)(J:SpJ n c X3 B s)(jr:Jr B s)(v:Dw B s.bs s.tw)(A:(stF B c (Me c s+1) s).1=ab)(h:(stF B c (Me c s+1) s).2.tw=s.tw):jH B s.bs (stF B c (Me c s+1) s).2.es/\Jr B (stF B c (Me c s+1) s).2:=by
 have g:=(Ei hr (by lia) _ _ J (c8 _)).bs;have(x,j2,L):=KG hr (by lia) _ _ J (c8 _) jr A;show(?_,x);generalize stF B c _ s=R at *
 have w:∀y∈gys B.length (Z s.bs),Wch B s.bs s.tw y->eB (bQ B s.bs y) R.2.es []:=λy H G=>by
  rcases x y y (by rw[g];show H) (by rw[g,h];show G)with z |z
  .rw[j2]at z;nomatch z
  .rw[if_pos rfl,g]at z;show z
 have a:∀(m j:Nat),Z s.bs-j=m->j<Z s.bs->eB (brg (s.bs.getD j [])) R.2.es []:=by
  intro m
  induction m using Nat.strongRecOn  with
  |ind m I=>
   intro j hm d
   rcases v.br j d with z |⟨j2,z1,z2,z3⟩
   .show w _ (fh.mpr d) z.wch
   .show(I _ (by lia) j2 rfl z2).sub λp C=>?_;have(u,E,rfl):=aH.mp C;show aH.mpr (u,z3 u E,rfl)
 show(λr q=>?_,λb l=>?_,L)
 .have(i,hi):=oq q;have f:=(c7.mp hi).1;have:=w _ (fh.mpr f) (v.ru i f)
  have e:bQ B s.bs (af,i,)=grd r:=by
   change((B[i]?).map grd).getD []=_;rw[hi];rfl
  rw[e]at this;show this
 .have(j,d):=oq l;have:=a _ j rfl ((c7.mp d).1);rw[bD,d]at this;show this
def KN{bs:LLP}(d:y∈gys B.length (Z bs)):(∃r∈B,bQ B bs y=grd r)\/∃b∈bs,bQ B bs y=brg b:=by
 have(a,j):=y;have c:=fh.mp d
 cases a with
 |false=>
  show .inl (B[j],g5 c,?_);change((B[j]?).map grd).getD []=_
  grind
 |true=>
  show .inr (bs[j],g5 c,?_);change brg _=_
  grind
variable{F:LOB}
def qv{t:Nat}(f:cT e F)(h:F.getD t ab=aa b):cT (put e t b) F:=by
 show(by rw[cb];show f.len,λi=>?_)
 by_cases q:i=t
 .by_cases a:t<Z e
  .rw[q,e8 e b a];grind
  .show .inl (by rw[q,bD,gy (by rw[cb];lia)];rfl)
 .rw[da e b q];show f.at' i
def wR(F:LOB)(wo:LB0):LB0:=(bu (Z wo)).map λi=>wo.getD i af && !(F.getD i ab==aa af)
def wT(F:LOB)(wo:LB0)(i:Nat):(wR F wo).getD i af=(wo.getD i af && !(F.getD i ab==aa af)):=by
 unfold wR
 grind
def jH.grp{bs:LLP}(h:jH B bs F)(hr:∀r∈B,RuK F.length r)(f:cT e F)(gl:Z wo=Z e)(g:∀r∈dM B,wo.getD r.hd.toNat af=ac->r.bodyLost e wo=ac)(i:Nat)(hi:wo.getD i af=ac):F.getD i ab=aa af:=by
 have d:Grp B F (wR F wo):=by
  show(by unfold wR;rw[ay,cC,gl,f.len],λj b e=>?_,λr hm c=>?_)
  .rw[wT,e,Bool.and_comm]at b
   nomatch b
  .rw[wT]at c;have(l,h2):=(b5 _ _).mp c;have(n,v):=b7.mp hm;show rJ (λp m z=>lost_by (by rw[<- f.len];show(hr r n).ok.ps p m) (λj q=>?_) (λj q=>?_) z) (g r hm l)
   .rcases f.at' j with u |u
    .rw[q]at u;nomatch u
    .show u.trans q
   .by_cases a:F.getD j ab=aa af
    .show .inl a
    .rcases q with q |q
     .rcases f.at' j with u |u
      .rw[q]at u;nomatch u
      .show .inl (u.trans q)
     .show .inr ?_;rw[wT,q,beq_false_of_ne a];rfl
 have:=h.gr _ d i;rw[wT,hi,qz]at this;show eq_of_beq (by simpa using this)
def jH.rt{bs:LLP}(h:jH B bs F)(m:Z F=n)(hr:∀r∈B,RuK n r)(c:∀b∈bs,c6 n b)(f:cT e F)(j:w.nc=ac)(k:Rt n B bs e w):False:=by
 subst m
 cases w with
 |ch=>nomatch j
 |wd i=>nomatch j
 |gd y=>
  have ok:=n8 hr c (y:=y);rw[f.len]at ok;have g:eq (bQ B bs y) F:=λp d=>PK f (ok p d) (k.2 p d)
  rcases KN k.1 with⟨r,hr,e⟩ |⟨b,c,e⟩
  .show(h.ru r hr).ns (e▸g)
  .show(h.br b c).ns (e▸g)
 |gp ks=>
  have(x,l,ex):=k.i;have(v,z):=k.nn x l;have:=h.grp hr f (by rw[qm,f.len]) (λr hm hd=>k.up r hm ?_) x.toNat ((ma v z).mpr l)
  .rcases f.at' x.toNat with u |u
   .rw[ex]at u;nomatch u
   .rw[ex,this]at u;nomatch u
  .have q:=b7.mp hm;have a:=(hr r q.1).ok.hd (by simpa using q.2);show(ma a.1 a.2).mp hd
structure Wrl(n:Nat)(B:LRu)(F:LOB):Prop where
 len:Z F=n
 fu:∀i,i<n->F.getD i ab≠ab
 ru:∀r∈B,¬eq (grd r) F
 gr:qu B F
def Bef(F G:LOB):Prop:=∃t:Nat,(∀j,j<t->F.getD j ab=G.getD j ab)/\F.getD t ab=aa ac/\G.getD t ab=aa af
variable{G:LOB}
def wU{b:List Pr}:eq (brg b) G↔∀y∈b,G.getD y.1.toNat ab=aa y.2:=by
 have one:∀y:Pr,(brP y).sure G=ac↔G.getD y.1.toNat ab=aa y.2:=λy=>by
  have(t,v):=y
  cases v <;> show beq_iff_eq
 show(λh y a=>(one y).mp (h _ (aH.mpr (y,a,rfl))),λh p c=>?_);have(y,a,rfl):=aH.mp c;show(one y).mpr (h y a)
def Wrl.quiet{P:List Prt}(h:Wrl n B G)(k:¬eq P G):eB P G []:=(k,λt b t0 t1 a _=>absurd (iX a) (h.fu _ (by rw[h.len]at t1;lia)))
def Wrl.cl{bs:LLP}(h:Wrl n B G)(a:∀b∈bs,¬eq (brg b) G):jH B bs G:=(λr hr=>h.quiet (h.ru r hr),λb q=>h.quiet (a b q),h.gr)
def Ev(f:cT e G)(b:∀i,i<Z e->e.getD i ab≠ab):e=G:=by
 show ext_getElem f.len.symm λi a h2=>?_;have q:=(f.at' i).resolve_left (b i a);rw[bD,bD,b6 a,b6 h2]at q;show Eq.symm q
def bne{a:Bool}(h:¬a=b):a=!b:=by cases a <;> cases b <;> first |rfl |show absurd rfl h
def KO{bs:LLP}(hr:∀r∈B,RuK n r)(a:∀b∈bs,c6 n b)(h:Wrl n B G)(c:∀b∈bs,¬eq (brg b) G):∀(dn:List Ls) (u:LOB),Z u=n->cT u G->cT u F->(∀x∈dn,∀z,x.1=aa z->x.2.nc=ac/\(0<=z.1/\z.1<(n:Int))/\F.getD z.1.toNat ab=aa z.2)->tu n B bs u dn->G=F
 | [],_,_,_,_,_,d=>d.elim
 |(ab,w,)::l,u,hu,f,g,k,d=>by
  obtain⟨_,hR⟩:l=[]/\Rt n B bs u w:=d
  cases w with
  |ch=>show hR.elim
  |wd i=>
   have e:∀i,i<Z u->u.getD i ab≠ab:=λi hi=>hR i (by lia)
   show(Ev f e).symm.trans (Ev g e)
  |gd y=>show((h.cl c).rt h.len hr a f rfl hR).elim
  |gp ks=>show((h.cl c).rt h.len hr a f rfl hR).elim
 |(aa z,w,)::l,u,hu,f,g,k,d=>by
  obtain⟨q,hR,d⟩:opn u z.1=ac/\Rt n B bs (put u z.1.toNat (!z.2)) w/\tu n B bs (put u z.1.toNat z.2) l:=d;have(m,A,hz):=k _ az z rfl;show KO hr a h c l _ (by rw[cb];show hu) (qv f ?_) (qv g hz) (λx p=>k x (bi _ p)) d
  cases j:G.getD z.1.toNat ab with
  |none=>show absurd j (h.fu _ (by lia))
  |some v=>
   by_cases hv:v=z.2
   .rw[hv]
   .show((h.cl c).rt h.len hr a (qv f (by rw[j,bne hv])) m hR).elim
def wV:∀{X2:LSp},Z G=n->(∀x∈X2,G.getD x.1.1.toNat ab=aa x.1.2)->cT (a9 n X2) G
 | [],hl,_=>(by rw[hl];show mi.symm,λi=>.inl (by change(g6 n ab).getD i ab=ab;rw[bD,om];split <;> rfl))
 |x::X2,hl,h=>qv (wV hl λy a=>h y (bi _ a)) (h x az)
def KP{t:Nat}:∀{X2:LSp},(∀x∈X2,x.1.1.toNat≠t)->(a9 n X2).getD t ab=ab
 | [],_=>by change(g6 n ab).getD t ab=ab;rw[bD,om];split <;> rfl
 |x::X2,h=>by
  rw[a9,da _ _ λq=>h x az q.symm];show KP λy a=>h y (bi _ a)
def KQ{x:Stp}(a:x.1.1.toNat<n):∀{X2:LSp},x∈X2->(a9 n X2).getD x.1.1.toNat ab≠ab
 |y::X2,h=>by
  rw[a9]
  by_cases e:x.1.1.toNat=y.1.1.toNat
  .rw[e,e8 _ _ (by rw[fq];lia)];show λq=>nomatch q
  .rw[da _ _ e]
   rcases bc.mp h with q |q
   .show absurd (by rw[q]) e
   .show KQ a q
def KR{d g:Type}{f:d->g}:∀{l:List d},(l.map f).Nodup->∀{a b:d},a∈l->b∈l->f a=f b->a=b
 |c::l,h,a,b,ha,hb,e=>by
  rw[bE,b8]at h
  rcases bc.mp ha with p |p <;> rcases bc.mp hb with q |q
  .rw[p,q]
  .show absurd (aH.mpr (_,q,by rw[<- e,p])) h.1
  .show absurd (aH.mpr (_,p,by rw[e,q])) h.1
  .show KR h.2 p q e
variable{bar:List Pr}
def Ew{bs:LLP}(hr:∀r∈B,RuK n r)(m:∀b∈bs,c6 n b)(h:Wrl n B G)(A:∀b∈bs,¬eq (brg b) G)(tr:Tr n B bs st)(k:jG n B bs st bar dn)(c:eq (brg bar) G):G=a9 n st:=by
 have c:=wU.mp c
 have val:∀y∈st,(a9 n st).getD y.1.1.toNat ab=aa y.1.2:=λy a=>by
  have(p,r,rfl):=mn a;show wM tr
 have d:∀z∈bar,∃y∈st,y.1=z/\y.2.nc=af:=λz hz=>by
  have(y,a,q):=qr (k.bl.subset hz);show(y,g7.mp a,q)
 have g:∀y∈bar.map (λz=>(z,Wh.ch,)),∃z∈bar,(z,Wh.ch,)=y:=λy a=>aH.mp a
 have f1:cT (a9 n (bar.map λz=>(z,Wh.ch,))) G:=wV h.len λy a=>by
  have(z,hz,rfl):=g y a;show c z hz
 show KO hr m h A dn _ (fq n _) f1 (wV (fq n _) λy a=>?_) (λy a z f=>?_) (k.rl _ (fq n _) (λz hz=>?_) λy a z f=>?_)
 .have(z,hz,rfl):=g y a;have(v,hv,rfl,_):=d z hz;show val v hv
 .have(v,hv,rfl,l,e):=k.dt y a z f;show(l▸e,jF tr hv,val v hv)
 .have(v,hv,rfl,_):=d z hz;have:=jF tr hv;show((f1.at' _).resolve_left (KQ (x:=(v.1,Wh.ch,)) (by change S v.1.1<n;lia) (aH.mpr (_,hz,rfl)))).symm.trans (c _ hz)
 .have(v,hv,rfl,_,e):=k.dt y a z f;show tz (KP λu C q=>?_);have(z,hz,rfl):=g u C;have(w,j,rfl,i):=d z hz;have E:=jF tr hv;have H:=jF tr j;have q:S w.1.1=S v.1.1:=q;rw[KR (n9 tr) j hv (by lia),e]at i
  nomatch i
def KS{bs:LLP}(hr:∀r∈B,RuK n r)(m:∀b∈bs,c6 n b)(h:Wrl n B G)(p:∀b∈bs,¬eq (brg b) G):∀{st:LSp},Tr n B bs st->cT (a9 n st) G\/∃t:Nat,(∀j,j<t->(a9 n st).getD j ab=G.getD j ab/\(a9 n st).getD j ab≠ab)/\(a9 n st).getD t ab=aa ac/\G.getD t ab=aa af
 | [],_=>.inl (wV h.len λ_ q=>nomatch q)
 |x::st,tr=>by
  have u:=tr.2.t0;have w:=tr.2.t1
  rcases KS hr m h p tr.1 with f |⟨t,a,b,c⟩
  .cases d:G.getD x.1.1.toNat ab with
   |none=>show absurd d (h.fu _ (by lia))
   |some v=>
    by_cases hv:v=x.1.2
    .show .inl (qv f (by rw[d,hv]))
    .rcases tr.2.ok with⟨_,g,l⟩ |⟨g,l⟩
     .show .inr (S x.1.1,λj i=>?_,?_,?_)
      .rw[a9,da _ _ (by lia)];have hn:=l j (by lia);show(((f.at' j).resolve_left hn).symm,hn)
      .rw[a9,e8 _ _ (by rw[fq];lia),g]
      .rw[d,bne hv,g];rfl
     .show((h.cl p).rt h.len hr m (qv f (by rw[d,bne hv])) g l).elim
  .have ne:∀j,(a9 n st).getD j ab≠ab->(a9 n (x::st)).getD j ab=(a9 n st).getD j ab:=λj q=>da _ _ λe=>q (by rw[e];show iX tr.2.op);show .inr (t,λj i=>?_,?_,c)
   .rw[ne j (a j i).2];show a j i
   .rw[ne t (by rw[b];show λq=>nomatch q)];show b
structure IW(n:Nat)(B:LRu)(s:Spt)(st:LSp)(Fs:List (LOB)):Prop where
 wr:∀F∈Fs,Wrl n B F/\∃b∈s.bs,eq (brg b) F
 br:∀G,Wrl n B G->G∉Fs->∀b∈s.bs,¬eq (brg b) G
 od:Fs.Pairwise Bef
 lt:∀F∈Fs,∀G,Wrl n B G->G∉Fs->Bef F G
 cp:∀A x T,st.reverse=A++x::T->x.2.nc=af->jH B s.bs (a9 n A.reverse)
 dw:Dw B s.bs s.tw
 jr:Jr B s
variable{s1:Spt}{Fs:List (LOB)}
def IW.cp1(w:IW n B s st Fs)(e:Se n c0 X5 X3 B s s1 st st1)(h:st1.reverse=A++x::T)(c:x.2.nc=af):jH B s.bs (a9 n A.reverse):=by
 have(xt,rfl,hn):=e.xt;have no:x∉xt.reverse:=λq=>by rw[hn x (g7.mp q)]at c;nomatch c
 rw[mj]at h
 rcases append_eq_append_iff.mp h with⟨a,d,b⟩ |⟨a,d,b⟩
 .show absurd (by rw[b];simp) no
 .cases a with
  |nil=>show absurd (by rw[oA]at b;rw[<- b];simp) no
  |cons y a=>
   cases b;show w.cp _ _ _ d c
variable{Fs':List (LOB)}
def IW.bk(P:Par n c0 X5 X3 B)(h:Hd n c0 X5 X3 B s st)(w:IW n B s st Fs)(e:Se n c0 X5 X3 B s (aJ B X5 s).2 st st1)(k:jG n B s.bs st1 bar dn)(p:qt st1.reverse bar A x T)(q:Clo n (aJ B X5 s).2 s2 bar dn A)(sub:∀F∈Fs',F∈Fs\/(Wrl n B F/\eq (brg bar) F))(sup:∀F∈Fs,F∈Fs')(od:Fs'.Pairwise Bef)(lt:∀F∈Fs',∀G,Wrl n B G->G∉Fs'->Bef F G)(new:∀G,Wrl n B G->G∉Fs'->¬eq (brg bar) G):IW n B s2 A.reverse Fs':=by
 have i:=e.t.tr;have bk:=wO i k.bl;have E:s2.bs=s.bs++[bar]:=by rw[q.bs,e.bs]
 have cA:=w.cp1 e p.e p.nc;show(λF hF=>?_,λG hG hn b d=>?_,od,lt,λl u f h2 g=>?_,?_,λy0 y m hw=>?_)
 .rw[E]
  rcases sub F hF with z |⟨z1,z2⟩
  .have(a,b,d,c):=w.wr F z;show(a,b,bV _ d,c)
  .show(z1,bar,ci _ az,z2)
 .rw[E]at d
  rcases bz.mp d with z |z
  .show w.br G hG (λq=>hn (sup G q)) b z
  .rw[bw.mp z];show new G hG hn
 .rw[i4]at h2;subst h2;have Q:=p.e;rw[cK]at Q;have N:=w.cp1 e Q g;rw[E];show(N.ru,λb d=>?_,N.gr)
  rcases bz.mp d with z |z
  .show N.br b z
  rw[bw.mp z]
  have er:st1=(u::f++x::T).reverse++l.reverse:=by
   rw[<- mj,<- i4 (as:=st1),Q]
  rw[er]at i;have op:=(iZ _ i).2.2
  have L:∀{y:Pr} {X2:LSp},y∈chs X2->(∀v∈X2,v∈u::f++x::T)->(a9 n l.reverse).getD y.1.toNat ab=ab:=λ{y X2} m hs=>by
   have(v,hv,rfl,_):=qr m;show op v (g7.mpr (hs v hv))
  have(b0,z,U,_,hz,h0,hl):=p.br
  have C:chs (l++u::f)=chs l++u.1::chs f:=by
   unfold chs;rw[i5,ot (by rw[g];rfl),ba,bE]
  have Y:b0≠[]:=λq=>by have:=h0 q;rw[C]at this;simp at this
  obtain⟨b1,y,rfl⟩:∃b1 y,b0=b1++[y]:=(_,_,(dropLast_concat_getLast Y).symm);have(A',eA):=hl y (by simp)
  have m:y∈chs (u::f):=by
   have M:(chs l++u.1::chs f).getLast?=aa y:=by rw[<- C,eA];simp
   rw[getLast?_append,getLast?_cons]at M;have M:=dz M;rw[me,g,<- M]
   cases hq:(chs f).getLast? with
   |none=>show az
   |some v=>show bi _ (mem_of_getLast? hq)
  have oy:=L m λv hv=>bV _ hv;have oz:=L hz λv hv=>ci _ hv;have my:y∈bar:=by rw[U];simp
  have mz:z∈bar:=by rw[U];simp
  have ne:y.1≠z.1:=λq=>by
   have:=bk.nd;rw[U,ba,ba]at this;show(eO.mp this).2.2 y.1 (by simp) z.1 (by simp) q
  have ry:=bk.nn y my;have rz:=bk.nn z mz;show(λq=>?_,λt b t0 t1 ho q=>?_)
  .have:=wU.mp q z mz;rw[oz]at this
   nomatch this
  .have one:∀v∈bar,(a9 n l.reverse).getD v.1.toNat ab=ab->S v.1=S t:=λv hv ov=>oh λH=>by
    have:=wU.mp q v hv;rw[da _ _ H,ov]at this
    nomatch this
   have a:=one y my oy;have b:=one z mz oz
   lia
 .rw[E,q.tw,e.bs,e.tw];show w.dw.bar h.tw h.J.bk bk
 .rw[E]at m ⊢;have(a,j):=y
  by_cases ey:(a,j,)=(ac,Z s.bs,)
  .show .inl (by rw[q.wt,ey,e.bs];show az)
  .have I:(a,j,)∈gys B.length (Z s.bs)/\bQ B (s.bs++[bar]) (a,j,)=bQ B s.bs (a,j,):=by
    have hm:=fh.mp m
    cases a with
    |false=>show(fh.mpr hm,rfl)
    |true=>
     have hm:j<Z (s.bs++[bar]):=hm;rw[aS,f6]at hm;have hj:j≠Z s.bs:=λq=>ey (by rw[q]);show(fh.mpr (by change j<Z s.bs;lia),?_);change brg _=brg _;rw[l9,if_neg hj]
   show .inr ?_;rw[I.2,q.es]
   have:eB (bQ B s.bs (a,j,)) (a9 n A.reverse) []:=by
    rcases KN I.1 with⟨r,hr,H⟩ |⟨b,d,H⟩
    .rw[H];show cA.ru r hr
    .rw[H];show cA.br b d
   split <;> show this
def IW.new(P:Par n c0 X5 X3 B)(h:Hd n c0 X5 X3 B s st)(w:IW n B s st Fs)(e:Se n c0 X5 X3 B s (aJ B X5 s).2 st st1)(u:(aJ B X5 s).1=ab)(ha:(aJ B X5 s).2.es.any (·==ab)=af):Wrl n B (aJ B X5 s).2.es/\(aJ B X5 s).2.es∉Fs/\∀G,Wrl n B G->G∉Fs->G≠(aJ B X5 s).2.es->Bef (aJ B X5 s).2.es G:=by
 have cl:jH B s.bs (aJ B X5 s).2.es:=(KM P.hr P.hz h.J w.jr w.dw u e.tw).1
 have fu:∀i,i<(aJ B X5 s).2.es.length->(aJ B X5 s).2.es.getD i ab≠ab:=λi hi q=>by
  rw[bD,b6 hi]at q;have q:(aJ B X5 s).2.es[i]=ab:=q;show any_eq_false.mp ha _ (g5 _) (by rw[q];rfl)
 show((e.J.es,λi hi=>fu i (by rw[e.J.es];show hi),λr hr=>(cl.ru r hr).ns,cl.gr),λq=>?_,λG g hn ne=>?_)
 .have(_,b,l,m):=w.wr _ q;show(cl.br b l).ns m
 .have d:=e.t.tr;rw[e.bs]at d;have es:=e.t.es
  rcases KS P.hr h.J.bk g (w.br G g hn) d with f |⟨t,a,b,c⟩
  .rw[<- es]at f;show absurd (Ev f fu).symm ne
  .rw[<- es]at a b;show(t,λj p=>(a j p).1,b,c)
def KU:¬Bef F F:=λc=>by have(t,_,a,b):=c;rw[a]at b;nomatch b
def W4(h:Bef F G)(k:Bef G F):False:=by
 have(t,a,b,c):=h;have(u,d,f,g):=k
 rcases Nat.lt_trichotomy t u with q |q |q
 .rw[d t q,b]at c;nomatch c
 .rw[<- q,b]at g;nomatch g
 .rw[a u q,f]at g;nomatch g
def KW:∀{E ys:List (LOB)},E.Pairwise Bef->ys.Pairwise Bef->(∀F,F∈E↔F∈ys)->E=ys
 | [],[],_,_,_=>rfl
 | [],y::ys,_,_,h=>nomatch (h y).mpr az
 |x::E,[],_,_,h=>nomatch (h x).mp az
 |x::E,y::ys,h1,h2,h=>by
  have(a,c):=ml.mp h1;have(b,d):=ml.mp h2
  have e:x=y:=by
   rcases bc.mp ((h x).mp az)with q |q
   .show q
   .rcases bc.mp ((h y).mpr az)with z |z
    .show z.symm
    .show(W4 (b x q) (a y z)).elim
  subst e;show congrArg _ (KW c d λF=>(λq=>?_,λq=>?_))
  .rcases bc.mp ((h F).mp (bi _ q))with z |z
   .show absurd (z▸a F q) KU
   .show z
  .rcases bc.mp ((h F).mpr (bi _ q))with z |z
   .show absurd (z▸b F q) KU
   .show z
def W5(P:Par n c0 X5 X3 B):Car n c0 X5 X3 B (λs st fd=>∃Fs:List (LOB),fd=Fs.map wOf/\IW n B s st Fs) λ_ fd=>∃Fs:List (LOB),fd=Fs.map wOf/\(∀G,G∈Fs↔Wrl n B G)/\Fs.Pairwise Bef:=by
 have i:∀{s s1:Spt} {st st1:LSp},Se n c0 X5 X3 B s s1 st st1->Tr n B s.bs st1:=λe=>by have:=e.t.tr;rwa [e.bs]at this
 have wh:∀{s:Spt} {st st1:LSp} {bar:List Pr} {dn:List Ls} {d:D} {Fs:List (LOB)},Hd n c0 X5 X3 B s st->IW n B s st Fs->Se n c0 X5 X3 B s (aJ B X5 s).2 st st1->(aJ B X5 s).1=aa d->jG n B s.bs st1 bar dn->∀G,Wrl n B G->G∉Fs->¬eq (brg bar) G:=λh w e g k G c hn v=>by
  have L:=w.br G c hn;have:=Ew P.hr h.J.bk c L (i e) k v;have(_,_,E):=h.se P;have(wh,_,a,b):=E _ g;rw[e.t.es,<- this]at b;show(c.cl L).rt c.len P.hr h.J.bk (cT.refl _) a b
 show(?_,?_,?_,?_,?_)
 .rintro s st st1 _ t h ⟨Fs,rfl,w⟩ e g t1 N;have(cl,jr):=KM P.hr P.hz h.J w.jr w.dw g e.tw;have cl:jH B s.bs (aJ B X5 s).2.es:=cl;show(Fs,rfl,by change ∀F∈Fs,_/\∃b∈(aJ B X5 s).2.bs,_;rw[e.bs];show w.wr,by change ∀G,_->_->∀b∈(aJ B X5 s).2.bs,_;rw[e.bs];show w.br,w.od,w.lt,λA x T h2 Y=>?_,by change Dw B (aJ B X5 s).2.bs (aJ B X5 s).2.tw;rw[e.bs,e.tw];show w.dw,Jr.of (y0:=(af,0,)) (Jq.pt P.hr e.J (λy H U=>?_) (by lia) (by lia) (tz (by rw[cU];show N))))
  .change jH B (aJ B X5 s).2.bs _;rw[e.bs];rw[i6]at h2
   rcases append_eq_append_iff.mp h2 with⟨a,j,r⟩ |⟨a,j,r⟩
   .cases a with
    |nil=>
     rw[bO]at j;rw[j,i4,<- e.t.es]
     show cl
    |cons y a=>simp at r
   .cases a with
    |nil=>
     rw[bO]at j;rw[<- j,i4,<- e.t.es]
     show cl
    |cons y a=>
     cases r;show w.cp1 e j Y
  .rcases jr y y H U with z |z
   .show .inl z
   .rw[if_pos rfl]at z;show .inr (z.more λu Q=>nomatch Q)
 .rintro s st st1 _ w0 bar dn A x T s2 h ⟨Fs,rfl,w⟩ e g _ k p q _ _;show(Fs,rfl,w.bk P h e k p q (λF f=>.inl f) (λF f=>f) w.od w.lt (wh h w e g k))
 .rintro s st st1 _ w0 dn s2 h ⟨Fs,rfl,w⟩ e g _ k _;show(Fs,rfl,λG=>⟨λq=>(w.wr G q).1,λq=>oh λhn=>wh h w e g k G q hn λp C=>nomatch C⟩,w.od)
 .rintro s st st1 _ bar dn A x T s2 h ⟨Fs,rfl,w⟩ e g ha k p q _ _;have(m,I,M):=w.new P h e g ha;have es:=e.t.es;have lo:∀G,Wrl n B G->G∉Fs++[(aJ B X5 s).2.es]->G∉Fs/\G≠(aJ B X5 s).2.es:=λG _ hn=>(λq=>hn (bV _ q),λq=>hn (by rw[q];simp));show(Fs++[(aJ B X5 s).2.es],by rw[ba];rfl,w.bk P h e k p q (λF f=>?_) (λF f=>bV _ f) (qE.mpr (w.od,xc _ _,λF f G c=>?_)) (λF f G c hn=>?_) λG c hn v=>?_)
  .rcases bz.mp f with z |z
   .show .inl z
   .rw[bw.mp z];show .inr (m,wU.mpr λy H=>?_);have(a,b):=Er (i e) (k.bl.subset H);rw[es,b,a]
  .rw[bw.mp c];show w.lt F f _ m I
  .have(l,h2):=lo G c hn
   rcases bz.mp f with z |z
   .show w.lt F z G c l
   .rw[bw.mp z];show M G c l h2
  .have(l,h2):=lo G c hn;show h2 (es▸Ew P.hr h.J.bk c (w.br G c l) (i e) k v)
 .rintro s st st1 _ dn s2 h ⟨Fs,rfl,w⟩ e g ha k _;have(m,I,M):=w.new P h e g ha;show(Fs++[(aJ B X5 s).2.es],by rw[ba];rfl,λG=>(λq=>?_,λq=>oh λhn=>?_),qE.mpr (w.od,xc _ _,λF f G c=>?_))
  .rcases bz.mp q with z |z
   .show(w.wr G z).1
   .rw[bw.mp z];show m
  .have l:G∉Fs:=λq=>hn (bV _ q);show hn (ci _ (by rw[Ew P.hr h.J.bk q (w.br G q l) (i e) k (λp C=>nomatch C),<- e.t.es];show az))
  .rw[bw.mp c];show w.lt F f _ m I
def W6(P:Par n (64*q*Z B) X5 X3 B)(i:∀r∈B,Z (grd r)<=q):∃(Fs:List (LOB)) (pp:LD),(∀G,G∈Fs↔Wrl n B G)/\Fs.Pairwise Bef/\Z Fs<=3 ^ n/\pp≠[]/\∀most:Int,0<=most->m_0 [pl0 n B,.int most]=aa (if (Z Fs:Int)<=most then .tup [wsD (Fs.map wOf),.bl ac,.lst pp] else .tup [wsD ((Fs.map wOf).take most.toNat),.bl af,.lst []]):=by
 have f:∀y∈gys B.length 0,y∈(s00 n B).wt:=λy b=>by
  have(a,j):=y;have e:=fh.mp b
  cases a with
  |true=>show absurd e (g9 _)
  |false=>show aH.mpr (j,d5.mpr e,rfl)
 have(ws,s,(Fs,rfl,g,h2),h,c,d):=WM P i (W5 P) ([],rfl,(λ_ q=>nomatch q),(λ_ _ _ _ q=>nomatch q),List.Pairwise.nil,(λ_ q=>nomatch q),(λA x T q _=>by simp at q),W3 _ B,λy0 y b _=>.inl (f y b));rw[ay]at c d;show(Fs,s.pp,g,h2,c,h,d)
def KY(E:LI0)(t:Int):(E.any λx=>x==t)=decide (t∈E):=by
 rw[gX,any_eq_true,decide_eq_true_iff];show(λ(x,h,e)=>beq_iff_eq.mp e▸h,λh=>(t,h,beq_self_eq_true t))
def Ex(E:LI0)(t:Int):dIn (.int t) (.lst (E.map D.int))=aa (.bl (decide (t∈E))):=by
 rw[<- KY];change Option.map D.bl (if _=ac then aa _ else ab)=_;rw[if_pos (by rw[all_map];show(b5 _ _).mpr (rfl,all_eq_true.mpr λ_ _=>rfl)),any_map];rfl
def Ey(E:LI0)(t:Int):jo (.int t) (.lst (E.map D.int))=aa (.bl (!decide (t∈E))):=by rw[J4,KY]
abbrev hW(R W:LI0):Prt->Bool
 |.inn t=>decide (t∈R)
 |.out t=>!decide (t∈W)
 |.least k L=>decide (k<=wS L R)
 |.most k L=>decide (wS L W<=k)
def KZ(p:Int->Bool)(L:LII)(z:Int×Int):bP p (L++[z])=bP p L+(if p z.1=ac then z.2 else 0):=by
 unfold bP;rw[i5,ba,sum_append]
 congr 1
 cases h:p z.1 with
 |true=>simp[h]
 |false=>simp[h]
def K0(L:LII)(S:LI0):vv [.lst (L.map itD),.lst (S.map D.int)]=aa (.int (wS L S)):=by
 apply gN;apply aj;show bn rfl ?_;apply aj;show dC L itD (λpre M=>∃a b,M=[.im (.lst (L.map itD)),.im (.lst (S.map D.int)),.im (.int (wS pre S)),a,b]) rfl (_,_,rfl) ?_ ?_
 .rintro pre z post M ex ⟨a,b,rfl⟩;show(_,rfl,?_);show aR (bp (ao rfl rfl (Ex S z.1))) (λh=>?_) λh=>bK (.im (.int z.1),.im (.int z.2),?_)
  .show(_,rfl,.im (.int z.1),.im (.int z.2),?_);rw[show wS (pre++[z]) S=wS pre S+z.2 by unfold wS;rw[KZ,if_pos h]];rfl
  .rw[show wS (pre++[z]) S=wS pre S by unfold wS;rw[KZ,if_neg (by rw[h];decide),Int.add_zero]];rfl
 .rintro M ⟨a,b,rfl⟩;show(_,rfl,dH rfl)
def W7(R W:LI0)(p:Prt):Bu [p.toD,.lst (R.map D.int),.lst (W.map D.int)]=aa (.bl (hW R W p)):=by
 cases p with
 |inn t=>show cS (uU (uV rfl (cR (ao rfl rfl (Ex R t)))))
 |out t=>show cS (jU (nt rfl rfl) (uU (uV rfl (cR (ao rfl rfl (Ey W t))))))
 |least k L=>show cS (jU (nt rfl rfl) (jU (nt rfl rfl) (uU (uV rfl (cR (ao (aF rfl (K0 L R)) rfl rfl))))))
 |most k L=>show cS (jU (nt rfl rfl) (jU (nt rfl rfl) (jU (nt rfl rfl) (cR (ao (aF rfl (K0 L W)) rfl rfl)))))
def K1(R W:LI0)(r:Rul)(a:Z r.ps<=3):sn [r.toD,.lst (R.map D.int),.lst (W.map D.int)]=aa (.bl (r.ps.all (hW R W))):=by
 show cS (cR (aF (ap (bT (gh r.ps Prt.toD (λp=>D.bl (hW R W p)) rfl (by lia) λp _=>fT rfl rfl (aF rfl (W7 R W p)))) rfl) ?_));have:=PJ (r.ps.map (hW R W));rw[map_map,all_map]at this;show this
def brk(r:Rul)(W:LI0):Bool:=match r.w with
 |.may=>af
 |.make=>r.ps.all (hW W W) && !decide (r.hd∈W)
 |.never=>r.ps.all (hW W W)
def W8(W:LI0)(r:Rul)(d:Z r.ps<=3):vw [r.toD,.lst (W.map D.int)]=aa (.bl (brk r W)):=by
 have c:=K1 W W r d;have(w,hd,ps):=r;have c:sn _=aa (.bl (ps.all (hW W W))):=c;have hn:=nu (cH (aF (f:=ag (ae 0) (ag (ae 1) (ag (ae 1) nZ))) (M:=eZ 2 [Rul.toD (w,hd,ps),.lst (W.map D.int)]) rfl c) rfl);apply gN;apply aj;unfold brk
 cases w with
 |may=>show aR (b:=ac) (jV (a:=ac) rfl hn) (λ_=>dG rfl (dH rfl)) λz=>nomatch z
 |make=>
  cases h:ps.all (hW W W)with
  |false=>
   rw[h]at hn
   show aR (b:=ac) (jV (a:=af) rfl hn) (λ_=>dG rfl (dH rfl)) λz=>nomatch z
  |true=>
   rw[h]at hn
   show aR (b:=af) (jV (a:=af) rfl hn) (λz=>nomatch z) λ_=>bK (dG (yV (a:=af) rfl (ao rfl rfl (Ey W hd))) (dH rfl))
 |never=>
  cases h:ps.all (hW W W)with
  |false=>
   rw[h]at hn
   show aR (b:=ac) (jV (a:=af) rfl hn) (λ_=>dG rfl (dH rfl)) λz=>nomatch z
  |true=>
   rw[h]at hn;show aR (b:=af) (jV (a:=af) rfl hn) (λz=>nomatch z) λ_=>bK (dG (by unfold vOr;rfl) (dH rfl))
def K2:∀{H W:LI0},H.Nodup->(∀t∈H,t∈W)->Z H<=Z W
 | [],_,_,_=>cj _
 |t::H,W,nd,h=>by
  have(a,b):=b8.mp nd;have m:=h t az;have:=K2 (W:=W.erase t) b λu c=>(mem_erase_of_ne (show u≠t from λe=>a (e▸c))).mpr (h u (bi _ c));rw[length_erase_of_mem m]at this;have:=length_pos_of_mem m;change Z H+1<=_;lia
structure Bld(B:LRu)(W H:LI0):Prop where
 nd:H.Nodup
 sb:∀t∈H,t∈W
 gr:∀S:Int->Prop,(∀r∈dM B,r.hd∈W->∀R:LI0,(∀t∈R,S t)->r.ps.all (hW R W)=ac->S r.hd)->∀t∈H,S t
def W9{W:LI0}(hr:∀r∈B,Ru5 n r)(hl:Z B<=1000)(hw:Z W<60)(nw:W.Nodup):∃H:LI0,vz [pl0 n B,.lst (W.map D.int)]=aa (.lst ((cI H).map D.int))/\Bld B W H/\∀r∈dM B,r.hd∈W->r.hd∉H->r.ps.all (hW H W)=af:=by
 suffices h:∃d,vz _=aa d/\∃H:LI0,d=.lst ((cI H).map D.int)/\Bld B W H/\∀r∈dM B,r.hd∈W->r.hd∉H->r.ps.all (hW H W)=af by
  have(d,e,H,rfl,h):=h;show(H,e,h)
 have len:∀{H},Bld B W H->Z H<=Z W:=λb=>K2 b.nd b.sb;apply lS;apply aj;show dY rfl ?_;apply aj;show bn rfl ?_;apply aj;show pN (λm M=>∃(H:LI0) (g:Bool) (i:Sl),M=[.im (pl0 n B),.im (.lst (W.map D.int)),.own (H.map D.int),.im (.bl g),i]/\Bld B W H/\(g=ac->Z W-Z H<m)/\(g=af->∀r∈dM B,r.hd∈W->r.hd∉H->r.ps.all (hW H W)=af)) ?_ _ 60 _ ⟨[],ac,_,rfl,⟨fA,(λ_ h=>nomatch h),λ_ _ _ h=>nomatch h⟩,λ_=>by lia,λz=>nomatch z⟩ (by decide);rintro m M ⟨H,g,i,rfl,bl,U,Y⟩;show(g,rfl,?_,?_)
 .rintro rfl;have U:=U rfl;apply aj;show bn rfl ?_;show dC B Rul.toD (λpre M=>∃(c:LI0) (g:Bool) (i:Sl),M=[.im (pl0 n B),.im (.lst (W.map D.int)),.own (c.map D.int),.im (.bl g),i]/\Bld B W c/\(g=ac->Z H<Z c)/\(g=af->c=H/\∀r∈dM pre,r.hd∈W->r.hd∉H->r.ps.all (hW H W)=af)) (e7 (be rfl rfl rfl) rfl) (H,af,_,rfl,bl,(λz=>nomatch z),λ_=>⟨rfl,λ_ h=>nomatch h⟩) ?_ ?_
  .rintro pre r post M ex ⟨c,g,i,rfl,j,x,h2⟩;have p:r∈B:=by rw[ex];simp
   have J:=(hr r p).ln;have hl2:=len j;show(_,rfl,?_)
   have no:(r.w=.never\/r.hd∉W\/r.hd∈c\/r.ps.all (hW c W)=af)->∃(v:LI0) (E:Bool) (i:Sl),[Sl.im (pl0 n B),.im (.lst (W.map D.int)),.own (c.map D.int),.im (.bl g),.im r.toD]=[.im (pl0 n B),.im (.lst (W.map D.int)),.own (v.map D.int),.im (.bl E),i]/\Bld B W v/\(E=ac->Z H<Z v)/\(E=af->v=H/\∀q∈dM (pre++[r]),q.hd∈W->q.hd∉H->q.ps.all (hW H W)=af):=λq=>by
    show(c,g,_,rfl,j,x,λe=>?_);have(rfl,h2):=h2 e;show(rfl,λu hu a b=>?_);have(u1,A):=b7.mp hu
    rcases bz.mp u1 with z |z
    .show h2 u (b7.mpr (z,A)) a b
    .rw[bw.mp z]at a b A ⊢
     rcases q with q |q |q |q
     .rw[q]at A;nomatch A
     .show absurd a q
     .show absurd q b
     .show q
   by_cases f:r.w=.never
   .show aR (b:=af) ?_ (λz=>nomatch z) λ_=>bK (no (.inl f));have(w,hd,ps):=r;have f:w=.never:=f;subst f;unfold di;rfl
   have G:r∈dM B:=b7.mpr (p,bne_iff_ne.mpr f)
   have Q:r.toD=.tup [.str r.w.s,.int r.hd,.lst (r.ps.map Prt.toD)]:=by
    have(w,hd,ps):=r
    cases w with
    |never=>show absurd rfl f
    | _=>rfl
   have I:dNe (.str r.w.s) (.str "never")=aa (.bl ac):=by
    have(w,hd,ps):=r
    cases w with
    |never=>show absurd rfl f
    | _=>rfl
   show aR (b:=decide (r.hd∈W) && !decide (r.hd∈c)) ?_ (λz=>?_) λz=>bK (no ?_)
   .rw[Q];show iL (a:=ac) (bp (ao rfl rfl I)) (iL (bp (ao rfl rfl (Ex W r.hd))) (bp (ao rfl rfl (Ey c r.hd))))
   .have(C,N):=(b5 _ _).mp z;have C:=of_decide_eq_true C;have N:r.hd∉c:=by simpa using N
    show aR (cH (Hh rfl (K1 c W r J) rfl) rfl) (λy=>?_) λy=>bK (no (.inr (.inr (.inr y))));apply aj;rw[Q];show fV rfl rfl (by rw[ay];lia) ?_;show bn rfl ⟨c++[r.hd],ac,_,by rw[ba];rfl,(?_,λt L=>?_,λS T t L=>?_),λ_=>?_,λz=>nomatch z⟩
    .show eO.mpr (j.nd,by simp,λa ha b hb e=>N ?_);rw[<- bw.mp hb,<- e];show ha
    .rcases bz.mp L with q |q
     .show j.sb t q
     .rw[bw.mp q];show C
    .have l:=j.gr S T
     rcases bz.mp L with q |q
     .show l t q
     .rw[bw.mp q];show T r G C c l y
    .rw[aS];change Z H<Z c+1
     cases g with
     |true=>show jI (x rfl)
     |false=>rw[(h2 rfl).1];show c8 _
   .rcases(Bool.and_eq_false_iff).mp z with q |q
    .show .inr (.inl (of_decide_eq_false q))
    .show .inr (.inr (.inl (by simpa using q)))
  .rintro M ⟨c,g,i,rfl,j,x,h2⟩;have:=len j
   cases g with
   |true=>show⟨Z W-Z c+1,by have:=x rfl;lia,c,ac,i,rfl,j,λ_=>by lia,λz=>nomatch z⟩
   |false=>
    have(rfl,h2):=h2 rfl;show(0,by lia,c,af,i,rfl,j,(λz=>nomatch z),λ_=>h2)
 .rintro rfl;have:=len bl;show nC rfl (iQ (Hu rfl (by lia) bl.nd) (iR (H,rfl,bl,Y rfl)))
def K3:∀(E ys:LI0),Z E=Z ys->cG (deq 19) (E.map D.int) (ys.map D.int)=aa (E==ys)
 | [],[],_=>rfl
 | [],_::_,h=>by cases h
 | _::_,[],h=>by cases h
 |e::es,b::bs,h=>by
  have a:=K3 es bs (by simpa using h);change((deq 19 (.int e) (.int b)).bind λx=>(cG (deq 19) (es.map D.int) (bs.map D.int)).map λr=>x && r)=_;rw[show deq 19 (.int e) (.int b)=aa (e==b)from rfl,a];rfl
def Xb(E ys:LI0):dEq (.lst (E.map D.int)) (.lst (ys.map D.int))=aa (.bl (E==ys)):=by
 change((if Z (E.map D.int)=Z (ys.map D.int) then cG (deq 19) (E.map D.int) (ys.map D.int) else aa af):Option Bool).map D.bl=_;rw[ay,ay]
 by_cases h:Z E=Z ys
 .rw[if_pos h,K3 E ys h];rfl
 .rw[if_neg h]
  have:(E==ys)=af:=by
   cases q:E==ys with
   |false=>rfl
   |true=>show absurd (by rw[beq_iff_eq.mp q]) h
  rw[this];rfl
def shW(n:Nat)(W:LI0):LOB:=(bu n).map λi:Nat=>aa (decide ((i:Int)∈W))
def Ez{W:LI0}:Z (shW n W)=n:=by unfold shW;rw[ay,cC]
def j6{W:LI0}(h:0<=t/\t<(n:Int)):(shW n W).getD t.toNat ab=aa (decide (t∈W)):=by
 unfold shW;rw[bD,cu,qB (by lia)];change aa (decide ((S t:Int)∈W))=_;rw[show(t.toNat:Int)=t by lia]
def EA{W:LI0}(a:p.Ok n):p.sure (shW n W)=hW W W p:=by
 cases p with
 |inn t=>change(_==_)=decide _;rw[j6 a];cases decide (t∈W) <;> rfl
 |out t=>change(_==_)=!decide _;rw[j6 a];cases decide (t∈W) <;> rfl
 |least k L=>
  change decide (k<=_)=decide _;rw[jl,pJ λz hz=>?_];have:=a.1 z hz;rw[j6 (this.1,this.2.1)]
  cases decide (z.1∈W) <;> rfl
 |most k L=>
  change decide (_<=k)=decide _;rw[jl,pJ λz hz=>?_];have:=a.1 z hz;rw[j6 (this.1,this.2.1)]
  cases decide (z.1∈W) <;> rfl
def K4{W:LI0}{R:LI0}(a:p.Ok n)(hR:∀t:Int,t∈R↔t∈W/\wo.getD t.toNat af=af):p.lost (shW n W) wo=!hW R W p:=by
 have key:∀t:Int,0<=t/\t<(n:Int)->(!((shW n W).getD t.toNat ab==aa af) && !wo.getD t.toNat af)=decide (t∈R):=λt h=>by
  rw[j6 h,gX,decide_eq_true_iff,hR,b5]
  cases wo.getD t.toNat af <;> cases hd:decide (t∈W) <;> simp_all
 cases p with
 |inn t=>
  change(_ || _)=!decide (t∈R);rw[<- key t a]
  simp
 |out t=>change(_==_)=!!decide _;rw[j6 a];cases decide (t∈W) <;> rfl
 |least k L=>
  change decide (_<k)=!decide (k<=_);rw[show bP _ L=wS L R from pJ λz hz=>key z.1 ((a.1 z hz).1,(a.1 z hz).2.1),<- decide_not]
  show decide_eq_decide.mpr Int.not_le.symm
 |most k L=>
  change decide (k<_)=!decide (_<=k);rw[<- decide_not,jl,pJ λz hz=>?_]
  .show decide_eq_decide.mpr Int.not_le.symm
  .have:=a.1 z hz;rw[j6 (this.1,this.2.1)]
   cases decide (z.1∈W) <;> rfl
def Xc{W:LI0}{R a:LI0}(b:p.Ok n)(h:∀t∈R,t∈a)(k:hW R W p=ac):hW a W p=ac:=by
 cases p with
 |inn t=>show decide_eq_true (h t (of_decide_eq_true k))
 |out t=>show k
 |most j L=>show k
 |least j L=>show decide_eq_true (tJ (of_decide_eq_true k) (kM λz hz=>((b.1 z hz).2.2,λq=>decide_eq_true (h _ (of_decide_eq_true q)))))
def K5{W:LI0}(hr:r.Ok n):brk r W=ac↔eq (grd r) (shW n W):=by
 have d:r.ps.all (hW W W)=ac↔∀p∈r.ps,p.sure (shW n W)=ac:=by
  rw[all_eq_true];show(λh p c=>by rw[EA (hr.ps p c)];show h p c,λh p c=>by rw[<- EA (hr.ps p c)];show h p c)
 have(w,hd,ps):=r
 cases w with
 |may=>show((λh=>nomatch h),λh=>absurd (h _ az) (by change ¬decide ((1:Int)<=0)=ac;decide))
 |never=>show d
 |make=>
  have e:(Prt.out hd).sure (shW n W)=!decide (hd∈W):=EA (hr.hd (by intro h;nomatch h));change(_ && _)=ac↔∀p∈ps++[.out hd],_;rw[b5,<- e];show(λ(a,b) p c=>?_,λh=>(d.mpr λp c=>h p (bV _ c),h _ (ci _ az)))
  rcases bz.mp c with q |q
  .show d.mp a p q
  .rw[bw.mp q];show b
section
variable{W:LI0}
def Xd(hr:∀r∈B,Ru5 n r)(N:Z B<=1000)(hn:n<60)(j:∀t∈W,0<=t/\t<(n:Int))(L:W.Pairwise (· < ·)):∃b,Bz [pl0 n B,.lst (W.map D.int)]=aa (.bl b)/\(b=ac↔Wrl n B (shW n W)):=by
 have J:W.Nodup:=L.imp λh e=>by lia
 have Y:Z W<=n:=qi J j;have(H,e,bl,cl):=W9 hr N (by lia) J
 have c:aw lQ (ag (aP (bj 1 [1] (aV (mIx (ar 0) (kI 1))) (ax 0) kY (aw vw (ag (ae 0) (ag (ae 1) nZ))))) nZ) (eZ 2 [pl0 n B,.lst (W.map D.int)])=aa (.bl (B.any λr=>brk r W)):=by
  show aF (ap (bT (gh B Rul.toD (λr=>D.bl (brk r W)) (e7 (be rfl rfl rfl) rfl) (by lia) λr q=>fT rfl rfl (aF rfl (W8 W r (hr r q).ln)))) rfl) ?_;have:=GM (B.map λr=>brk r W);rw[map_map,any_map]at this;show this
 have G:(B.any λr=>brk r W)=af↔∀r∈B,¬eq (grd r) (shW n W):=by
  rw[any_eq_false];show(λh r q z=>h r q ((K5 (hr r q).ok).mpr z),λh r q z=>h r q ((K5 (hr r q).ok).mp z))
 have m:∀r∈dM B,Ru5 n r/\(0<=r.hd/\r.hd<(n:Int)):=λr q=>by
  have(a,b):=b7.mp q;show(hr r a,(hr r a).ok.hd (bne_iff_ne.mp b))
 have E:cI H=W↔qu B (shW n W):=by
  have M:cI H=W↔∀t∈W,t∈H:=(λh t q=>(ip t H).mp (by rw[h];show q),λh=>u9 _ _ (kP _) L λk=>by rw[ip];show(bl.sb k,h k));rw[M];show(λh wo g i=>?_,λh t q=>oh λhn=>?_)
  .cases hi:wo.getD i af with
   |false=>rfl
   |true=>
    have T:i<n:=by
     have:=g.len;rw[Ez]at this;rw[<- this];show Nat.lt_of_not_le λq=>?_;rw[bD,gy q]at hi
     nomatch hi
    have l:=j6 (W:=W) (t:=i) (n:=n) (by lia,by lia);rw[cU]at l;have Q:(i:Int)∈W:=oh λq=>g.no i hi (by rw[l,decide_eq_false q]);have:=(bl.gr (λt=>t∈W/\wo.getD t.toNat af=af) (λr q hd R hR v=>?_) i (h i Q)).2
    .rw[cU,hi]at this
     nomatch this
    .show(hd,?_)
     cases w:wo.getD r.hd.toNat af with
     |false=>rfl
     |true=>
      have(p,u,d):=any_eq_true.mp (g.up r q w);have ok:=(m r q).1.ok.ps p u;rw[K4 (R:=W.filter λt=>wo.getD t.toNat af==af) ok (λt=>by rw[b7,beq_iff_eq])]at d;rw[Xc ok (λt I=>b7.mpr ((hR t I).1,beq_iff_eq.mpr (hR t I).2)) (all_eq_true.mp v p u)]at d
      nomatch d
  .have wl:Z ((bu n).map λi:Nat=>decide ((i:Int)∈W/\(i:Int)∉H))=n:=by rw[ay,cC]
   have f:∀{t:Int},0<=t/\t<(n:Int)->((bu n).map λi:Nat=>decide ((i:Int)∈W/\(i:Int)∉H)).getD t.toNat af=decide (t∈W/\t∉H):=λ{t} q=>by
    rw[bD,cu,qB (by lia)];change decide ((S t:Int)∈W/\(S t:Int)∉H)=_;rw[show(t.toNat:Int)=t by lia]
   have:=h _ (by rw[wl,Ez],λi hi e=>?_,λr q hd=>?_) (S t)
   .rw[f (j t q),decide_eq_true (q,hn)]at this
    nomatch this
   .have T:i<n:=by
     rw[<- wl];show Nat.lt_of_not_le λq=>?_;rw[bD,gy q]at hi
     nomatch hi
    have x:0<=(i:Int)/\(i:Int)<n:=(by lia,by lia);have l:=j6 (W:=W) x;have w:=f x;rw[cU]at l w;rw[w]at hi;rw[l,decide_eq_true (of_decide_eq_true hi).1]at e
    nomatch e
   .have(U,x):=m r q;rw[f x]at hd;have(A,C):=of_decide_eq_true hd;have ha:=cl r q A C;rw[all_eq_false]at ha;have(p,u,d):=ha;show any_eq_true.mpr (p,u,?_);rw[K4 (R:=H) (U.ok.ps p u) λt=>(λz=>(bl.sb t z,?_),λz=>?_)]
    .simpa using d
    .rw[f (j t (bl.sb t z))];show decide_eq_false λy=>y.2 z
    .rw[f (j t z.1)]at z;show oh λy=>of_decide_eq_false z.2 (z.1,y)
 show(!(B.any λr=>brk r W) && cI H==W,?_,?_)
 .apply gN;apply aj
  cases v:B.any λr=>brk r W with
  |true=>
   rw[v]at c
   show aR (b:=ac) (cH c rfl) (λ_=>dG rfl (dH rfl)) λz=>nomatch z
  |false=>
   rw[v]at c;show aR (b:=af) (cH c rfl) (λz=>nomatch z) λ_=>bK (dG (ao (aF rfl e) rfl (Xb _ _)) (dH rfl))
 .rw[b5,beq_iff_eq,E,wY,G];show(λ(a,b)=>(Ez,λi hi=>?_,a,b),λh=>(h.ru,h.gr));have:=j6 (W:=W) (t:=i) (n:=n) (by lia,by lia);rw[cU]at this;rw[this];show λq=>nomatch q
end
def K6(ws:List (LI0)):fS 20 (wsD ws):=by
 show fS.le (n:=3) (λx a=>?_) (by decide);have(w,_,rfl):=aH.mp a;show Pw w
def Xf(ws:List (LI0)){most:Int}(h:0<=most):(ws.drop (HT.sIx ws.length 0 ab)).take (HT.sIx ws.length ws.length (aa most)-HT.sIx ws.length 0 ab)=ws.take most.toNat:=by
 rw[show aa most=aa (most.toNat:Int) by rw[show(most.toNat:Int)=most by lia],HT.sIx_nat,HT.sIx_none,drop_zero,Nat.sub_zero]
 by_cases a:most.toNat<=Z ws
 .rw[Nat.min_eq_left a]
 .rw[Nat.min_eq_right (by lia),take_length,qC (by lia)]
abbrev lg:Nat->List (LOB)
 | 0=>[[]]
 |n+1=>(lg n).map (aa ac::·)++(lg n).map (aa af::·)
def K7:∀{n:Nat} {F:LOB},Z F=n->(∀i,i<n->F.getD i ab≠ab)->F∈lg n
 | 0,[],_,_=>az
 |n+1,b::F,hl,h=>by
  have a:=K7 (n:=n) (F:=F) (Nat.succ.inj hl) λi hi=>h (i+1) (Nat.succ_lt_succ hi)
  cases b with
  |none=>show absurd rfl (h 0 (oC _))
  |some b=>
   cases b with
   |true=>show bV _ (aH.mpr (F,a,rfl))
   |false=>show ci _ (aH.mpr (F,a,rfl))
def K8:∀n,(lg n).Pairwise Bef
 | 0=>xc _ _
 |n+1=>by
  have up : ∀ b : Bool,((lg n).map (aa b::·)).Pairwise Bef:=λb=>pairwise_map.mpr ((K8 n).imp λ(t,h,k)=>(t + 1,λj d=>by cases j with
   |zero=>rfl
   |succ j=>show h j (xj d),k))
  show qE.mpr (up ac,up af,λF a G c=>?_);have(F,_,rfl):=aH.mp a;have(G,_,rfl):=aH.mp c;show(0,λ_ h=>absurd h (g9 _),rfl,rfl)
def K9(n:Nat)(m t:Nat):Bool:=tZ ((m:Int) / 2 ^ ((n:Int)-1-t).toNat) 1==0
def wN(n m:Nat):LI0:=((bu n).filter (K9 n m)).map λi:Nat=>(i:Int)
def Xg:∀n:_root_.Fin 6,(bu (2 ^ n.val)).map (λm=>shW n.val (wN n.val m))=lg n.val:=by decide +kernel
def Xh:∀n:_root_.Fin 6,∀m:_root_.Fin 32,wOf (shW n.val (wN n.val m.val))=wN n.val m.val:=by decide +kernel
def Xi(n m:Nat):(∀t∈wN n m,0<=t/\t<(n:Int))/\(wN n m).Pairwise (· < ·):=by
 show(λt a=>?_,pairwise_map.mpr ((pairwise_lt_range.filter _).imp λh=>Int.ofNat_lt.mpr h));have(i,hi,rfl):=aH.mp a;have:=d5.mp (b7.mp hi).1;show(by lia,by lia)
def stB(n:Nat)(B:LRu)(F:LOB):Bool:=@decide (Wrl n B F) (EC _)
def La:stB n B F=ac↔Wrl n B F:=@decide_eq_true_iff _ (EC _)
def Xj(j:n<=5)(hr:∀r∈B,Ru5 n r)(p:Z B<=1000):BB [pl0 n B]=aa (wsD (((lg n).filter (stB n B)).map wOf)):=by
 have t1:=Xg (n,by lia);have t1:(bu (2 ^ n)).map (λm=>shW n (wN n m))=lg n:=t1;have x:2 ^ n<=32:=Nat.pow_le_pow_right (by decide) j
 have u:pR (.int 1) (.int n)=aa (.int (2 ^ n:Nat)):=by
  have:∀n:_root_.Fin 6,pR (.int 1) (.int n.val)=aa (.int (2 ^ n.val:Nat)):=by
   intro n
   match n with
   | 0=>rfl
   | 1=>rfl
   | 2=>rfl
   | 3=>rfl
   | 4=>rfl
   | 5=>rfl
  show this (n,by lia)
 generalize 2 ^ n=N at *;apply gN;apply aj;show dY rfl ?_;apply aj;show dC (bu N) (λi:Nat=>D.int i) (λpre M=>∃c f,M=[.im (pl0 n B),.own (((((pre.map λm=>shW n (wN n m)).filter (stB n B)).map wOf)).map wD),c,f]) ((nz (ap (ao rfl (be rfl rfl rfl) u) rfl) (by lia) (by lia)).trans (by rw[cU])) (_,_,rfl) ?_ ?_
 .rintro pre m post M ex ⟨c,f,rfl⟩;have hm:m<N:=d5.mp (by rw[ex];simp)
  have q:Z pre<N:=by
   have:Z pre<Z (bu N):=by rw[ex];simp
   simpa using this
  have a:=Xh (n,by lia) (m,by lia);have a:wOf (shW n (wN n m))=wN n m:=a;have(v,w):=Xi n m;have(b,e,l):=Xd hr p (by lia) v w;show(_,rfl,?_);apply aj;show bn (d:=wD (wN n m)) (bT ?_) ?_
  .show(eG (bu n) (λi:Nat=>D.int i) (K9 n m) (λi:Nat=>D.int i) ((nz (ap (be rfl rfl rfl) rfl) (by lia) (by lia)).trans (by rw[cU])) (by rw[cC];lia) λt h=>?_).trans (by unfold wN;rw[map_map];rfl);have h:=d5.mp h;show dL rfl (bp (ao (ao (ao rfl (ao (ao (be rfl rfl rfl) rfl jX) rfl jX) (Hi (by lia))) rfl Hj) rfl (kL _ _))) λ_=>rfl
  have g:stB n B (shW n (wN n m))=b:=by rw[gX,l,La]
  show aR (cH (aF rfl e) rfl) (λz=>?_) λz=>bK (.im (.int m),.im (wD (wN n m)),?_)
  .show fV rfl rfl ?_ (.im (.int m),.im (wD (wN n m)),?_)
   .rw[ay,ay];show lr (gz _ _) ?_;rw[ay];lia
   .rw[ba,i5,ba,ba,bE,ot (by rw[g];show z),map_nil,filter_nil,bE,a];rfl
  .rw[ba,i5,bE,w9 (by rw[g,z];decide),map_nil,filter_nil,bO];rfl
 .rintro M ⟨c,f,rfl⟩;rw[t1];show lU rfl (iR rfl)
def Xk(ns:LI0)(h:Z ns<=63):m_6 [.kl (ns.map D.int)]=aa (.bl ac):=by
 have j:=WN ns;have(c,a):=KC j (i:=2) (by decide);have(n,B,p,hn,hr,v):=WS j h (top:=6) (by decide) (by decide);have m:=WU hr (by lia);have el:=Xj (by lia) hr (by lia);have(Fs,pp,f1,f2,_,_,g):=W6 (WV (by lia) hr (by lia)) (WW hr)
 have e:(lg n).filter (stB n B)=Fs:=KW ((K8 n).filter _) f2 λF=>by
  rw[f1,b7,La];show(λq=>q.2,λq=>(K7 q.len q.fu,q))
 rw[e]at el;apply gN;apply aj;show bn (aF rfl p) ?_;apply aj;show bn (ao (aF rfl a) rfl (cz (by decide))) ?_;show Hq (λM=>∃k:Int,0<=k/\M=[.im (.kl (ns.map D.int)),.im (pl0 n B),.im (.int k),.no,.no]) ?_ ?_
 .have u:=d4 c (show(41:Int)≠0 by decide)
  show aR (bp (ao (ao (ao (aF rfl a) rfl (kU (by first |show .inl (by lia,by lia) |show .inr (by lia,by lia) |show(by lia,by lia)))) rfl (cz (by decide))) rfl (kL _ _))) (λ_=>?_) λ_=>bK (k_J (_,u,rfl))
  show bn (ao rfl rfl (cz (by decide))) (k_J (_,d4 _ (by decide),rfl))
 rintro M ⟨k,d,rfl⟩;have g:=g k d;apply aj;show bn (aF (ap (aF rfl m) (ap rfl rfl)) g) ?_;apply aj;show bn (aF rfl el) ?_;rw[show(Fs.length:Int)=((Fs.map wOf).length:Int) by rw[ay]];generalize Fs.map wOf=ws
 have sl:∀M:LS,M[4]?=aa (.im (wsD ws))->M[2]?=aa (.im (.int k))->aP (mSl (ae 4) (λ_=>aa ab) (mPt (ae 2))) M=aa (wsD (ws.take (S k))):=λM a l=>by
  show(bT (rQ (by unfold ae;rw[a];rfl) rfl (ptE (by unfold ae;rw[l])))).trans ?_;rw[Xf ws d];rfl
 have ln:∀M:LS,M[4]?=aa (.im (wsD ws))->aw cQ (ag (ae 4) nZ) M=aa (.int (Z ws)):=λM a=>aF (ap (show ae 4 M=aa (wsD ws) by unfold ae;rw[a]) rfl) (fW ws wD)
 by_cases f:Z ws<=k
 .rw[if_pos f];have r:ws.take (S k)=ws:=qC (by lia);rw[r]at sl;apply aj;show aR (jV rfl (jV rfl (bp (ao rfl (sl _ rfl rfl) (GF (K6 ws)))))) (λz=>nomatch z) λ_=>bK ?_;apply aj;show aR (b:=af) (bp (ao (ln _ rfl) rfl (kX.trans (by rw[decide_eq_false (by lia)])))) (λz=>nomatch z) λ_=>bK ?_;show dG rfl (dH rfl)
 .rw[if_neg f];apply aj;show aR (jV rfl (jV rfl (bp (ao rfl (sl _ rfl rfl) (GF (K6 _)))))) (λz=>nomatch z) λ_=>bK ?_;apply aj;show aR (b:=ac) (bp (ao (ln _ rfl) rfl (kX.trans (by rw[decide_eq_true (by lia)])))) (λ_=>(dG rfl (dH rfl))) λz=>nomatch z
def sp_law(K:aQ):Sp:=λvs H Q _=>∃(a:Addr) (ns:LI0),vs=[.ref a]/\SqL K H a (ns.map V.int)/\Z ns<=63/\∀H',Q (.bl ac) H'
variable{K:aQ}
def sp_law_of{H:Hp}{a:Addr}{X4:XK}(c:Z ns<=63)(b:SqL K H a (ns.map V.int)):sp_law K [.ref a] H (λv _=>v=.bl ac) X4:=(a,ns,rfl,b,c,λ_=>rfl)
variable{w:World}
def law_ok{a:Wa}(W:Wd K mg a):cx P w K mg base CX0 11 a.e_6.1 a.e_6.2 ["_law_script"] (sp_law K):=(UN W).ok.imp λvs H Q X4 (a,ns,b,c,d,k)=>
 (H,[.kl (ns.map D.int)],.bl ac,aq.refl _,(.ref a,[],b,(a,_,rfl,c,am.ints ns),rfl),rfl,Xk ns d,λv Hf' H' x r=>by rw[show v=V.bl ac from r];show k H')
variable{P:LVa->Prop}
def wW(h:P []):∀us:LVa,Z us=0->P us:=λus e=>by
 rw[eq_nil_of_length_eq_zero e];show h
def j7(h:∀a (us:LVa),Z us=n->P (a::us)):∀us:LVa,Z us=n+1->P us:=λus e=>by
 cases us with
 |nil=>cases e
 |cons a us=>show h a us (Nat.succ.inj e)
def EB(h:∀a:Value,P [a]):∀us:LVa,Z us=1->P us:=j7 (P:=λus=>P (us)) λa=>wW (h a)
def Lb(h:∀a b:Value,P [a,b]):∀us:LVa,Z us=2->P us:=j7 (P:=λus=>P (us)) λa=>j7 (P:=λus=>P (a::us)) λb=>wW (h a b)
def Xl(h:∀a b c:Value,P [a,b,c]):∀us:LVa,Z us=3->P us:=j7 (P:=λus=>P (us)) λa=>j7 (P:=λus=>P (a::us)) λb=>j7 (P:=λus=>P (a::b::us)) λc=>wW (h a b c)
def Xm(h:∀a b c d:Value,P [a,b,c,d]):∀us:LVa,Z us=4->P us:=j7 (P:=λus=>P (us)) λa=>j7 (P:=λus=>P (a::us)) λb=>j7 (P:=λus=>P (a::b::us)) λc=>j7 (P:=λus=>P (a::b::c::us)) λd=>wW (h a b c d)
local macro_rules | `(tactic| walk_at "bd")=>`(tactic| exact λ_ _ _ _ _ _=>by first | exact EB λ_=>rfl | exact Lb λ_ _=>rfl | exact Xl λ_ _ _=>rfl | exact Xm λ_ _ _ _=>rfl)
set_option autoImplicit true in
def all_mk{ad ae af ag ai aj ak al am an ao ap aq ar as au aw ax:Addr}{h:Heap}{bX aE aF aG aH aI aJ aK aL aM aN bY bZ aO aP aQ b0 aR aS aT b1 aU aV aW aX aY aZ a0 a1 a2 a3 a4 a5 a6 a7 b2 a8 a9 ba bb bc bd be bf bg bh bi bj bk bl bm bn bo bp bq br bs bu bv bw bx bz bA bB bC bD bE bF bG b3 bH bI bJ b4 b5 j m d w l q f b c p g n bK:cW}{U:Nat}{eL:Tok}{eF:Nat}{fa:Addr}(X:K.In h)(G:h.Ns cD mg)(hfa:mg "law"=aa (.ref fa))
 (b6:d6 K cD "In"=aa (aa (.ref ad)))
 (bL:d6 K cD "Out"=aa (aa (.ref ae)))
 (ff:d6 K cD "Least"=aa (aa (.ref af)))
 (ay:d6 K cD "Most"=aa (aa (.ref ag)))
 (M:d6 K cD "Spreading"=aa (aa (.ref ai)))
 (Y:d6 K cD "Seeking"=aa (aa (.ref aj)))
 (dh:Dq K "marks" s_1 f_1 bX)
 (cd:Dq K "numbers" zQ f_19 aE)
 (ce:Dq K "part_of" zR f_36 aF)
 (cf:Dq K "things_of" zS f_37 aG)
 (cg:Dq K "worth_in" zT f_20 aH)
 (ch:Dq K "worth_not_out" zU f_13 aI)
 (ci:Dq K "worth_of" zV f_38 aJ)
 (cj:Dq K "outside" zW f_39 aK)
 (ck:Dq K "heavy" zX f_21 aL)
 (cm:Dq K "weights_of" zY f_14 aM)
 (cn:Dq K "with_entry" zZ f_15 aN)
 (di:Dq K "enough" s_7 f_7 bY)
 (dj:Dq K "body_of" s_2 f_2 bZ)
 (co:Dq K "guard_of" z4 f_22 aO)
 (cp:Dq K "guard_of_bar" z5 f_51 aP)
 (cr:Dq K "pressed_by" z6 f_76 aQ)
 (dk:Dq K "lost_part" s_4 f_4 b0)
 (cs:Dq K "own_why" z7 f_23 aR)
 (ct:Dq K "needed_first" z8 f_40 aS)
 (cu:Dq K "_law_cell_at" z9 f_24 aT)
 (dl:Dq K "_law_mixed" s_5 f_5 b1)
 (cv:Dq K "_law_items" Aa f_41 aU)
 (cw:Dq K "_law_part" Ab f_25 aV)
 (cx:Dq K "_law_rule" Ac f_26 aW)
 (cy:Dq K "_law_base" Ad f_27 aX)
 (cz:Dq K "_law_plain" Ae f_28 aY)
 (cA:Dq K "_law_part_again" Ag f_52 aZ)
 (cB:Dq K "_law_again" Ah f_42 a0)
 (cC:Dq K "_law_sum" Ai f_16 a1)
 (cE:Dq K "_law_part_holds" Aj f_53 a2)
 (cF:Dq K "_law_body_holds" Ak f_17 a3)
 (cG:Dq K "_law_broken" Al f_43 a4)
 (cH:Dq K "_law_built" Am f_29 a5)
 (cI:Dq K "_law_stands" An f_54 a6)
 (cJ:Dq K "_law_all" Ao f_30 a7)
 (cK:Dq K "law" s_6 f_6 b2)
 (bM:Dp K ad "__init__" "In.__init__" Ap f_72 a8)
 (cL:Dp K ad "named" "In.named" Aq f_44 a9)
 (cM:Dp K ad "wants" "In.wants" Ar f_55 ba)
 (cN:Dp K ad "sure" "In.sure" As f_56 bb)
 (cO:Dp K ad "sure_by" "In.sure_by" At f_57 bc)
 (cP:Dp K ad "tips" "In.tips" Au f_58 bd)
 (cQ:Dp K ad "lost" "In.lost" Av f_31 be)
 (cR:Dp K ad "lost_by" "In.lost_by" Aw f_59 bf)
 (bN:Dp K ae "__init__" "Out.__init__" Ax f_73 bg)
 (cS:Dp K ae "named" "Out.named" Ay f_45 bh)
 (cT:Dp K ae "wants" "Out.wants" Az f_60 bi)
 (cU:Dp K ae "sure" "Out.sure" AA f_61 bj)
 (cV:Dp K ae "sure_by" "Out.sure_by" AB f_62 bk)
 (cX:Dp K ae "tips" "Out.tips" AC f_63 bl)
 (cY:Dp K ae "lost" "Out.lost" AD f_32 bm)
 (cZ:Dp K ae "lost_by" "Out.lost_by" AE f_64 bn)
 (bP:Dp K af "__init__" "Least.__init__" AF f_74 bo)
 (c0:Dp K af "named" "Least.named" AG f_46 bp)
 (c1:Dp K af "wants" "Least.wants" AH f_65 bq)
 (c2:Dp K af "sure" "Least.sure" AI f_66 br)
 (c3:Dp K af "sure_by" "Least.sure_by" AJ f_67 bs)
 (c4:Dp K af "tips" "Least.tips" AK f_47 bu)
 (c5:Dp K af "lost" "Least.lost" AL f_33 bv)
 (c6:Dp K af "lost_by" "Least.lost_by" AM f_48 bw)
 (bQ:Dp K ag "__init__" "Most.__init__" AN f_75 bx)
 (c7:Dp K ag "named" "Most.named" AO f_49 bz)
 (c8:Dp K ag "wants" "Most.wants" AQ f_68 bA)
 (c9:Dp K ag "sure" "Most.sure" AR f_69 bB)
 (da:Dp K ag "sure_by" "Most.sure_by" AS f_70 bC)
 (db:Dp K ag "tips" "Most.tips" AT f_50 bD)
 (dc:Dp K ag "lost" "Most.lost" AU f_34 bE)
 (dd:Dp K ag "lost_by" "Most.lost_by" AV f_71 bF)
 (bR:Dp K aj "__init__" "Seeking.__init__" AW f_11 bG)
 (dn:Dp K aj "another" "Seeking.another" s_8 f_8 b3)
 (de:Dp K aj "close" "Seeking.close" AX f_12 bH)
 (df:Dp K aj "place_for" "Seeking.place_for" AY f_35 bI)
 (dg:Dp K aj "line_to" "Seeking.line_to" AZ f_18 bJ)
 (dp:Dp K aj "grounds" "Seeking.grounds" s_3 f_3 b4)
 (dq:Dp K aj "grounds_of_group" "Seeking.grounds_of_group" s_9 f_9 b5)
 (A:Dp K aj "take_guard" "Spreading.take_guard" A0 ak j)
 (C:Dp K aj "take_bar" "Spreading.take_bar" A1 al m)
 (x:Dp K aj "drop_wider" "Spreading.drop_wider" A3 am d)
 (L:Dp K aj "put" "Spreading.put" A4 an w)
 (B:Dp K aj "take_back" "Spreading.take_back" A5 ao l)
 (I:Dp K aj "settle" "Spreading.settle" A6 ap q)
 (y:Dp K aj "look_round" "Spreading.look_round" A7 aq f)
 (r:Dp K aj "put_loose_out" "Spreading.put_loose_out" A8 ar b)
 (u:Dp K aj "loose_marks" "Spreading.loose_marks" A9 as c)
 (H:Dp K aj "kernel" "Spreading.kernel" Ba au p)
 (z:Dp K aj "lost_parts" "Spreading.lost_parts" Bb aw g)
 (E:Dp K aj "keeping" "Spreading.keeping" Bc ax n)
 (dr:d6 K cD "worlds"=aa (aa (.ref f_0)))
 (ds:K.lookup f_0=aa (oc_0,od_0,.func (je "worlds" "worlds" (kz s_0) (fQ s_0) (av s_0) (.ref U) kV_0 dc_0 pm_0 an_0 cd_0 ct_0),sl_0))
 (J:K.lookup U=aa (oT_worlds,dT_worlds,.seq #[.int 1 eL] eF,sT_worlds))
 (dt:W.codeIn K cd_0 "worlds"=ac)
 (du:gc K (.ref f_0)=ac)
 (T:W.specialIn K (.ref ai) "__getattribute__"=aa (aa (.builtin "type.__getattribute__")))
 (Q:W.readsIn K ai (.type "type")=ac)
 (N:W.findCls K (.ref ai) (.type "type") "__init__"=aa (.val (.ref f_10)))
 (b7:kj K ad oQ=ac)
 (b8:lC K ad=ac)
 (b9:mN K ad=ac)
 (ca:cq K (.ref ad) "__setattr__"=aa (aa (.builtin "object.__setattr__")))
 (p5:mO K ad=ac)
 (cb:gc K (.ref ad)=ac)
 (nk:cq K (.ref ad) "thing"=aa ab)
 (bS:kj K ae oQ=ac)
 (bT:lC K ae=ac)
 (bU:mN K ae=ac)
 (bV:cq K (.ref ae) "__setattr__"=aa (aa (.builtin "object.__setattr__")))
 (pz:mO K ae=ac)
 (bW:gc K (.ref ae)=ac)
 (mm:cq K (.ref ae) "thing"=aa ab)
 (ge:kj K af oQ=ac)
 (fx:lC K af=ac)
 (gu:mN K af=ac)
 (gv:cq K (.ref af) "__setattr__"=aa (aa (.builtin "object.__setattr__")))
 (oo:mO K af=ac)
 (fy:gc K (.ref af)=ac)
 (lj:cq K (.ref af) "bound"=aa ab)
 (lb:cq K (.ref af) "pieces"=aa ab)
 (az:kj K ag oQ=ac)
 (aA:lC K ag=ac)
 (aB:mN K ag=ac)
 (aC:cq K (.ref ag) "__setattr__"=aa (aa (.builtin "object.__setattr__")))
 (pj:mO K ag=ac)
 (aD:gc K (.ref ag)=ac)
 (l0:cq K (.ref ag) "bound"=aa ab)
 (lk:cq K (.ref ag) "pieces"=aa ab)
 (d0:kj K aj oQ=ac)
 (dm:lC K aj=ac)
 (d2:mN K aj=ac)
 (eg:cq K (.ref aj) "__setattr__"=aa (aa (.builtin "object.__setattr__")))
 (n5:mO K aj=ac)
 (dy:gc K (.ref aj)=ac)
 (ir:cq K (.ref aj) "sheet"=aa ab)
 (ll:cq K (.ref aj) "steps"=aa ab)
 (ld:cq K (.ref aj) "bars"=aa ab)
 (kv:cq K (.ref aj) "guards"=aa ab)
 (hO:cq K (.ref aj) "watches"=aa ab)
 (kr:cq K (.ref aj) "waiting"=aa ab)
 (ky:cq K (.ref aj) "makers"=aa ab)
 (lp:cq K (.ref aj) "paper"=aa ab)
 (kQ:cq K (.ref aj) "count"=aa ab)
 (lw:cq K (.ref aj) "ended"=aa ab)
 (qq:d6 K cD "all"=aa ab)
 (p6:d6 K cD "any"=aa ab)
 (nq:d6 K cD "enumerate"=aa ab)
 (mu:d6 K cD "isinstance"=aa ab)
 (qs:d6 K cD "len"=aa ab)
 (nS:d6 K cD "list"=aa ab)
 (og:d6 K cD "range"=aa ab)
 (nL:d6 K cD "reversed"=aa ab)
 (q4:d6 K cD "set"=aa ab)
 (n0:d6 K cD "sorted"=aa ab)
 (p4:d6 K cD "sum"=aa ab)
 (pu:d6 K cD "tuple"=aa ab)
 (cc:Fun K "__init__" "Spreading.__init__" Bd f_10 bK)
 (pw:rB K "list")
 (o6:rB K "tuple")
  : ∃a:Wa,∃W:Wd K mg a,a.e_6.1=fa/\∀(s:ah) (v:Value),BindsTo s a.e_6.2 ([v],[]) [("_law_script",v,)]:=by
 have e:=hfa.symm.trans (km X G cK.a);cases e;have hc:∃cl:Str->Addr,ad=cl "In" /\ ae=cl "Out" /\ af=cl "Least" /\ ag=cl "Most" /\ aj=cl "Seeking":=(λs=>if s="In" then ad else if s="Out" then ae else if s="Least" then af else if s="Most" then ag else if s="Seeking" then aj else 0,rfl,rfl,rfl,rfl,rfl);have(cl,rfl,rfl,rfl,rfl,rfl):=hc
 show(((f_1,bX,),(f_19,aE,),(f_36,aF,),(f_37,aG,),(f_20,aH,),(f_13,aI,),(f_38,aJ,),(f_39,aK,),(f_21,aL,),(f_14,aM,),(f_15,aN,),(f_7,bY,),(f_2,bZ,),(f_22,aO,),(f_51,aP,),(f_76,aQ,),(f_4,b0,),(f_0,_,),(f_23,aR,),(f_40,aS,),(f_24,aT,),(f_5,b1,),(f_41,aU,),(f_25,aV,),(f_26,aW,),(f_27,aX,),(f_28,aY,),(f_52,aZ,),(f_42,a0,),(f_16,a1,),(f_53,a2,),(f_17,a3,),(f_43,a4,),(f_29,a5,),(f_54,a6,),(f_30,a7,),(f_6,b2,),(f_72,a8,),(f_44,a9,),(f_55,ba,),(f_56,bb,),(f_57,bc,),(f_58,bd,),(f_31,be,),(f_59,bf,),(f_73,bg,),(f_45,bh,),(f_60,bi,),(f_61,bj,),(f_62,bk,),(f_63,bl,),(f_32,bm,),(f_64,bn,),(f_74,bo,),(f_46,bp,),(f_65,bq,),(f_66,br,),(f_67,bs,),(f_47,bu,),(f_33,bv,),(f_48,bw,),(f_75,bx,),(f_49,bz,),(f_68,bA,),(f_69,bB,),(f_70,bC,),(f_50,bD,),(f_34,bE,),(f_71,bF,),(f_11,bG,),(f_8,b3,),(f_12,bH,),(f_35,bI,),(f_18,bJ,),(f_3,b4,),(f_9,b5,),(ak,j,),(al,m,),(am,d,),(an,w,),(ao,l,),(ap,q,),(aq,f,),(ar,b,),(as,c,),(au,p,),(aw,g,),(ax,n,),(f_10,bK,),cl,ai),(dh.mk2 X G,cd.mk2 X G,ce.mk2 X G,cf.mk2 X G,cg.mk2 X G,ch.mk2 X G,ci.mk2 X G,cj.mk2 X G,ck.mk2 X G,cm.mk2 X G,cn.mk2 X G,di.mk2 X G,dj.mk2 X G,co.mk2 X G,cp.mk2 X G,cr.mk2 X G,dk.mk2 X G,(Sj (st:=s_0) ds dt du,(Ip J rfl rfl λus hl=>by
   rw[bO]at hl ⊢
   revert us hl
   show Lb λ_ _=>(_,rfl,rfl)),km X G dr),cs.mk2 X G,ct.mk2 X G,cu.mk2 X G,dl.mk2 X G,cv.mk2 X G,cw.mk2 X G,cx.mk2 X G,cy.mk2 X G,cz.mk2 X G,cA.mk2 X G,cB.mk2 X G,cC.mk2 X G,cE.mk2 X G,cF.mk2 X G,cG.mk2 X G,cH.mk2 X G,cI.mk2 X G,cJ.mk2 X G,cK.mk2 X G,bM.mk2,cL.mk2,cM.mk2,cN.mk2,cO.mk2,cP.mk2,cQ.mk2,cR.mk2,bN.mk2,cS.mk2,cT.mk2,cU.mk2,cV.mk2,cX.mk2,cY.mk2,cZ.mk2,bP.mk2,c0.mk2,c1.mk2,c2.mk2,c3.mk2,c4.mk2,c5.mk2,c6.mk2,bQ.mk2,c7.mk2,c8.mk2,c9.mk2,da.mk2,db.mk2,dc.mk2,dd.mk2,bR.mk2,dn.mk2,de.mk2,df.mk2,dg.mk2,dp.mk2,dq.mk2,A.mk2,C.mk2,x.mk2,L.mk2,B.mk2,I.mk2,y.mk2,r.mk2,u.mk2,H.mk2,z.mk2,E.mk2,Db.mk2 cc,(_,.cons (_,rfl) .nil,Ip J rfl rfl λus hq=>by
   have hl:Z us=1:=by simpa using hq
   clear hq
   revert us hl
   show EB λ_=>(_,rfl,rfl)),km X G b6,(b7,b8,b9,ca),(p5,bM.a,bM.i,cb),nk,km X G bL,(bS,bT,bU,bV),(pz,bN.a,bN.i,bW),mm,km X G ff,(ge,fx,gu,gv),(oo,bP.a,bP.i,fy),lj,lb,km X G ay,(az,aA,aB,aC),(pj,bQ.a,bQ.i,aD),l0,lk,km X G M,(T,Q,N,cc.kp),km X G Y,(d0,dm,d2,eg),(n5,bR.a,bR.i,dy),ir,ll,ld,kv,hO,kr,ky,lp,kQ,lw,iC X G qq,iC X G p6,iC X G nq,iC X G mu,iC X G qs,iC X G nS,iC X G og,iC X G nL,iC X G q4,iC X G n0,iC X G p4,iC X G pu,pw,o6),rfl,cK.bt (λ_ _ _ _ _ _=>EB λ_=>rfl))
end N_k53
structure PySem.W.Fast:Prop where
 (tw10413592569762631342 tw4680969119175381689 tw5040061197733180554 tw11943493069307245473 tw12500068359460956357 tw17000784237512073067 tw7702575852778321343 tw10083366851122061168 tw18221921207679073105 tw11536724202607650690 tw16480220072815116201 tw11595817411824461482 tw9983661247930720553 te6562295813918167417 te14344739394939868365 te6282477543896762631 te17852715271613583405 te5494671076879320998 te966723627816816260 te10936207142090346070 te18274046261472600285 te10450414114640804201 te14113142533017440104 te9844599078235754330 te2955151506113642225 te13471872025412675968 te14308384507527961732 te14579583608046935143 te11163504252096757963 te2414927886944893685 te10326120951408790529 te13863827764915959780:True)
open PySem PySem.W PyProof.Rows
set_option maxRecDepth 100000 in
set_option maxHeartbeats 0 in
theorem PySem.Challenge.cw_standstill_k53_all_sets_beside_holds : PySem.Challenge.rw_standstill_k53_all_sets_beside.Holds := by
 w_on; o_law; k_head; (case hw=>w_witness2)
 k_fill
 refine L2.walk_ofK (l:=PySem.Challenge.rw_standstill_k53_all_sets_beside) (n:=63) (k:=11) (x:="_law_script") (CX:=L2.CX0) (sp:=N_k53.sp_law) rfl (by decide) rfl ⟨rfl,by decide,by decide⟩ (fun w h Y=>PySem.W.kIn_of Y) ?F (fun _ _ a ns hl _ hS=>N_k53.sp_law_of hl hS) (fun _ _ _ _ z=>z)
 case F =>
  intro w mg fa h KX G hmg
  have TT : ∃ a : N_k53.Wa,∃ W : N_k53.Wd (L2.KOf KX) mg a,a.e_6.1=fa /\ ∀ (s:Shared) (v:Value),BindsTo s a.e_6.2 ⟨[v],[]⟩ [("_law_script",v)]:=by
   dsimp only [L2.KOf]
   refine' N_k53.all_mk KX G hmg ..
   all_goals first | k_is | kit_is | k_exc | exact ⟨by k_is,L2.fun_mk (by k_is) (by k_is) (by k_is)⟩ | exact ⟨by k_is,by k_is,L2.fun_mk (by k_is) (by k_is) (by k_is)⟩ | exact L2.fun_mk (by k_is) (by k_is) (by k_is) | (intro t ht; simp only [List.mem_cons,List.not_mem_nil,or_false] at ht; rcases ht with rfl | rfl | rfl | rfl | rfl | rfl | rfl <;> kit_is) | skip
  obtain ⟨a,W,e1,hb⟩:=TT
  subst e1
  exact ⟨_,hb,fun base kb nb=>N_k53.law_ok W⟩
