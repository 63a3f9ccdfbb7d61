import PyProof.Rows.All
import Wide.All
import OpenK.AllK
import Wide.FinOn
import Lean
import PyProof.EqAt
import PyProof.EqKinds
import PyProof.TupleCall
import PyProof.NeKinds
import PySem.Challenge.RW_standstill_k51_whole_worlds_stand
set_option Elab.async false
set_option hygiene false
def Zz.tp:Nat->List String->Array Lean.Term->Lean.MacroM (Array Lean.Term×List String)
|0,_,_=>Lean.Macro.throwUnsupported
|_,[],a=>pure (a,[])
|n+1,x::l,a=>do
 if x=")" then return(a,l)
 if x="(" then
  let(b,l)<-tp n l #[]
  return<-tp n l (a.push (Lean.Syntax.mkApp b[0]! (b.extract 1 b.size)))
 if x=".ok" then
  let t:=a.back!
  return<-tp n l (a.pop.push (<-`(($t).ok)))
 tp n l (a.push (<-match x with|"?"=>`(?_)|"_"=>`(_)|"!"=>`(by assumption)|"1"=>`(@1)|"%"=>`(hr.mono (by decide))|"rfl"=>`(rfl)|_=>if x.front='\'' then pure (Lean.Syntax.mkStrLit (x.drop 1).toString)else pure (Lean.mkIdent x.toName)))
def Zz.tm(s:String):Lean.MacroM Lean.Term:=do
 let(b,_)<-Zz.tp 99 (s.splitOn " ") #[]
 return Lean.Syntax.mkApp b[0]! (b.extract 1 b.size)
def Zz.fs(s:String):Lean.MacroM (Array (Lean.TSyntax ``Lean.Parser.Tactic.tacticSeq)):=(s.splitOn "|").toArray.mapM fun x=>do
 let t<-Zz.tm x
 `(Lean.Parser.Tactic.tacticSeq|refine $t)
def Zz.gr(j:String)(a:Array (Lean.TSyntax ``Lean.Parser.Tactic.tacticSeq)):Lean.MacroM (Lean.TSyntax ``Lean.Parser.Tactic.tacticSeq):=do
 let j<-Zz.tm j
 `(Lean.Parser.Tactic.tacticSeq|(with_reducible show $j);first $[|$a]*)
set_option hygiene true
def Zz.st(s:Lean.Syntax):=s.rewriteBottomUp fun s=>
 if s.getKind==``Lean.Parser.Term.tuple then
  let a:=s[1].getArgs
  if a.size>0&&a[2]!.getArgs.size%2==1 then .node .none ``Lean.Parser.Term.anonymousCtor #[.atom .none "⟨",.node .none `null (#[a[0]!,a[1]!]++a[2]!.getArgs),.atom .none "⟩"] else s
 else if s.getKind==``Lean.Parser.Tactic.show then .node .none ``Lean.Parser.Tactic.refine #[.atom .none "refine",s[1]]
 else s.setInfo .none
def Zz.rc:Nat->Lean.Term->Lean.MacroM (Lean.TSyntax `rcasesPat)
|0,_=>Lean.Macro.throwUnsupported
|n+1,t=>do
 let b:=match t with|`(($a,$b,*))=>#[a]++b.getElems|`(⟨$b,*⟩)=>b.getElems|_=>#[]
 if b.size>0 then
  let l<-b.mapM fun x=>do let y<-rc n x;`(Lean.Parser.Tactic.rcasesPatLo|$y:rcasesPat)
  return<-`(rcasesPat|⟨$l,*⟩)
 match t with|`($i:ident)=>`(rcasesPat|$i:ident)|_=>`(rcasesPat|_)
set_option genSizeOf false
set_option linter.all false
set_option compiler.extract_closed false
set_option bootstrap.genMatcherCode false
local macro_rules
|`(def $d:declId $b* :$t $v:declVal)=>do return Zz.st (<-if t.raw.isIdent||t.raw.isOfKind `Lean.Parser.Term.prop||[`Option,`List].contains t.raw[0].getId then `(noncomputable def $d $b* :$t $v:declVal)else `(theorem $d $b* :$t $v:declVal))
|`(nonrec def $d:declId $s:optDeclSig $v:declVal)=>do return Zz.st (<-`(@[reducible] noncomputable def $d $s:optDeclSig $v:declVal))
|`(abbrev $d:declId $s:optDeclSig $v:declVal)=>do return Zz.st (<-`(noncomputable def $d $s:optDeclSig $v:declVal))
|`(def $d:declId $v:declVal)=>do return Zz.st (<-`(noncomputable def $d $v:declVal))
local macro_rules
|`(tactic|have $p:term:=$e)=>do let q<-Zz.rc 9 p;`(tactic|obtain $q:rcasesPat:=$e)
|`(tactic|show%$s $e)=>if s.getHeadInfo matches .original .. then `(tactic|refine $e)else Lean.Macro.throwUnsupported
local macro_rules
|`((%$s $a,$b,*))=>if b.elemsAndSeps.size%2=1&&s.getHeadInfo matches .original .. then `(⟨$a,$b,*⟩)else Lean.Macro.throwUnsupported
set_option maxRecDepth 100000
open Array renaming length_toList->ja,getElem?_eq_getElem->mr,getElem?_toList->qI,getD->qJ,toList_push->xj
open Bool renaming false->af,true->ac,false_ne_true->bN,and_eq_true->b6,eq_iff_iff->iD,or_eq_true->ki,true_and->oG,or_true->oH,and_true->qK,noConfusion->tP,and_false->tQ,or_false->tR,not_eq_true'->xk
open Classical renaming byContradiction->oI
open False renaming elim->g6
open ForInStep renaming yield->oJ
open Int renaming toNat->S,toNat_natCast->cY,emod_nonneg->eJ,emod_lt_of_pos->g7,le_refl->qL,le_trans->tS
open List renaming length->Z,mem_cons_self->aA,getD_eq_getElem?_getD->bE,getElem?_eq_getElem->b7,length_map->az,length_append->aV,mem_cons_of_mem->bp,getElem?_eq_some_iff->dh,mem_singleton->bv,getElem?_map->cz,mem_append_left->bX,mem_append_right->cq,map_append->bf,mem_append->bw,mem_map->aM,mem_cons->bc,range->bI,append_nil->bT,getElem?_eq_none->gb,length_range->cN,append_assoc->cO,getElem?_cons_succ->g8,length_cons->cB,mem_of_getElem?->dX,nodup_cons->b8,not_mem_nil->cG,mem_filter->cf,map_cons->bO,length_singleton->gc,getElem_mem->g9,zip_cons_cons->fF,getElem?_set_self->kj,length_filter_le->hE,nodup_append->eV,foldl_append->eW,replicate->hJ,getElem?_append_left->mw,getElem?_set_ne->lu,getElem?_append_right->oK,reverse_reverse->jb,getElem?_replicate->oM,foldl_cons->fQ,mem_range->fG,nodup_nil->fH,mem_reverse->hU,reverse_cons->jc,getElem?_of_mem->oN,filter_append->km,length_replicate->mx,length_set->iE,length_reverse->lx,pairwise_append->mC,getElem?_range->qM,reverse_append->mD,any_cons->gG,filter_cons_of_pos->qN,append_of_mem->mE,cons_append->ly,getElem_toArray->tT,filter_sublist->oO,ext_getElem?->mF,zipWith->oP,pairwise_cons->oQ,lookup_cons->mG,findIdx_lt_length_of_exists->xl,map_set->hV,length_eq_zero_iff->tU,filterMap_cons->qP,zipWith_cons_cons->tV,set_cons_succ->qQ,findIdx_cons->qR,length_zip->oR,nil_append->oS,mem_of_find?_eq_some->xm,map_reverse->qS,sublist_append_left->xn,all_cons->mH,set_cons_zero->tW
open List.Nodup renaming sublist->xp
open List.Pairwise renaming map->xq,sublist->ER
open List.Perm renaming append_left->xr,refl->tX,cons->xu
open List.Sublist renaming refl->qT
open List.cons renaming inj->qU
open Nat renaming le_refl->aO,lt_succ_self->di,ne_of_lt->bY,zero_le->cr,le_trans->cZ,lt_of_lt_of_le->fI,le_of_lt->fJ,not_lt_zero->iF,lt_irrefl->gH,lt_succ_of_lt->jS,lt_of_le_of_lt->mJ,le_of_not_lt->oT,le_succ->ko,ne_of_gt->lz,zero_add->lA,lt_trans->mK,succ_pos->oU,mul_le_mul_right->xv,min_self->tY,lt_of_not_le->xy
open Ne renaming symm->eX
open Option renaming some->aa,none->ab,bind_some->ax,bind_eq_some_iff->tZ,isSome_iff_exists->xz
open Option.some renaming inj->cP
open Or renaming inr->bJ,inl->b9
open Prod.mk renaming inj->t4
open PyProof.Rows renaming callWith_type1->ku,firstMet->eY,callWith_builtin1->xA,IntsAre->gf,envOfC->gg,boot_list->mL,AllBare->kz
open PySem renaming wpAny_bind->ak,wpAny_pure->aE,Shared->ah,starEach->aQ,sizeLine->aX,mainGlobals->cu,compareOp->cg,sizeLine_eq->dJ,wpAny_Call_Name_kw->jd,builtinLookup_eq_fast->kA,wpAny_newObj_type->je,FuncData->c6,Program->ci,wpAny_call_entry->jT,wpAny_truthy_bool->kB,wpAny_mono->fR,wpAny_callSpecial?_slot->oV,foldedSetIterable->lB,backTo->cj,codeAny_builtin->kC,typeLookup_type->kE,rawInt->cv,behindInMarks->jU,wpAny_holding->jV,keywordEach->iG,sysModules->hX,swapsWith->gh,bootBuiltins->jW,Around->ca,binaryOp->fS,wpAny_setField_rec->oW,wpAny_passesOwn->mM,getMethod->hZ,assignEach->jf,NameKind->gi,mem_of_lookup->qV,wpAny_setState_of->oX,holding->eZ,isSubtype_type->mN,wpAny_setEntries_of->qW,codeAny_mono->lC,intKind->fT,wpAny_loadPart'->t7,tupleKind_room_in1->qX,plainId_quiet->mO,backToKw->iH,standAt->gJ,codeAny->gK,wpAny_isInstance->qY,attributeBase->oY,wpAny_attempt->oZ,wpAny_rule->lD,Spec->Lf,sliceBounds->mP,Builtin->d8,callWith->jX,firstArgMember->qZ,wpAny_pyIter_list->t8,typeLookup->mQ,scanBound->lE,pickOrder->jg,wpAny_execs_nil->t9,pyNext->ib,wpAny_specialOf->ua,wpAny_updateSeq->ub,codeAny_call_builtin->xB,wpAny_fieldsOf->uc,wpAny_seqItems->ud,wpAny_of_eq->q9,Paired->ic,SetTable->dL,relayAll->mR,entryFor->mS
open PySem.Around renaming in1_units->rb
open PySem.Builtin.Int renaming intBits->ue
open PySem.Builtin.List renaming listSameRef->uf,listExtendWith->xC,listLengthHint->ES,listTooLong->ET
open PySem.Calls renaming spliced_cons->jh,callWith_builtin->xD,evalArgs_plain->xE,spliced_nil->xF
open PySem.F renaming plainAttrs_list->jY,called_set->lF,slot_list_reversed->xG,slot_list_append->xH,type_list_append->xI,slot_list_extend->xJ,type_list_extend->xK,slot_dict_get->xL,slot_dict_setdefault->EU
open PySem.Heap renaming get?_push_of_some->bG,get?_push_size->cQ,lt_size->bF,size_push->ji,SameBut->gj,get?_update_other->o7,get?_update_self->o8
open PySem.Heap.SameBut renaming update->o9
open PySem.NameKind renaming free->fU,cell->mT
open PySem.Obj renaming mapSeq->ie
open PySem.Paired renaming length->pc
open PySem.PassesOwn renaming never->c7
open PySem.SeqAt renaming EqAt->cC
open PySem.SeqAt.EqAt renaming int_str->xM,str_int->xN,same->xO
open PySem.SetTable renaming below->cH,grown->pf
open PySem.SetTable.below renaming go->ug
open PySem.Shared renaming TypeIs->uh
open PySem.Str renaming empty->ph,ofString->ui
open PySem.Value renaming ref->e7,bool->iI,type->kG,none->mU
open PySem.W renaming Frag->aU,findIn->cw,mg_none_of->gL,keepIn->gm,nsIn->dQ,kia_one->jk,plainGet->kH,hasDictIn->lG,emptyDict->lH,plainOver->mV,instObj->lI,makesIn->mW,mg_of->kK,fnOf->jl
open Sum renaming inl->iJ
open Sum.inl renaming inj->uj
open True renaming intro->iK
nonrec abbrev LB0:=List Bool
nonrec abbrev LI0:=List Int
nonrec abbrev LII:=List (Int×Int)
nonrec abbrev LOB:=List (Option Bool)
nonrec abbrev PRS:=PySem.Value->PySem.Shared->Prop
nonrec abbrev MGT:=PySem.Str->Option PySem.Value
nonrec abbrev PNS:=List (PySem.Addr×PySem.Obj)
nonrec abbrev LN:=List Nat
nonrec abbrev L2N:=List LN
nonrec abbrev LSt:=List PySem.Str
nonrec abbrev LVa:=List PySem.Value
nonrec abbrev LAd:=List PySem.Addr
nonrec abbrev LEx:=List PySem.Expr
def Za(_:True:=by rfl)(_:True:=by decide)(_:True:=by intro _;rfl)(_:True:=by first |exact b9 rfl |exact bJ (b9 rfl) |exact bJ (bJ rfl))(_:True:=by first |exact b9 rfl |exact bJ rfl)(_:True:=by first |exact .inl rfl |exact .inr rfl)(_:True:=by first |exact .inl rfl |exact .inr rfl |assumption)(_:True:=by first |rfl |exact glc rfl)(_:True:=by exact λ_ _=>rfl)(_:True:=by walk_at "bd")(_:True:=by first |exact E7 _ (by decide) (by decide) |rfl)(_:True:=by with_unfolding_all rfl)(_:True:=by decide +kernel)(_:True:=by exact Nat.le_of_ble_eq_true rfl)(_:True:=by first |exact Fh _ |rfl):=0
namespace Za
end Za
open Za renaming _auto_1->Zb,_auto_2->Zc,_auto_3->Zd,_auto_4->Ze,_auto_5->Zf,_auto_6->Zg,_auto_7->Zh,_auto_8->Zi,_auto_9->Zj,_auto_10->Zk,_auto_11->Zl,_auto_12->Zm,_auto_13->Zn,_auto_14->Zo,_auto_15->Zp
namespace L2
open List
open PySem PySem.Spec PyProof.Rows
nonrec def Key:=Sum Int Str
abbrev lJ:Key->Value->Bool
 |.inl k,v=>Value.isInt k v
 |.inr x,v=>Value.isStrOf x v
abbrev EV(w:World):Key->Int
 |.inl k=>hashInt k
 |.inr x=>hashStr w x
def jm:∀{k:Key} {v:Value},lJ k v=ac->(∃i t,k=iJ i/\v=Value.int i t)\/(∃x t,k=Sum.inr x/\v=Value.str x t)
 |.inl i,v,h=>by
  have(t,e):=Value.isInt_shape h
  show .inl (i,t,rfl,e)
 |.inr x,v,h=>by
  have(t,e):=Value.isStrOf_shape h;show .inr (x,t,rfl,e)
def EW(i:Int)(t:Tok):lJ (.inl i) (.int i t)=ac:=by simp[lJ,Value.isInt]
def EX(x:Str)(t:Tok):lJ (.inr x) (.str x t)=ac:=by simp[lJ,Value.isStrOf]
def uk(a b:Int):decide ((iJ a:Key)=iJ b)=(a==b):=by grind
def EY(a b:Str):decide ((Sum.inr a:Key)=Sum.inr b)=decide (a=b):=by grind
def xP(a:Int)(b:Str):decide ((iJ a:Key)=Sum.inr b)=af:=decide_eq_false (λq=>nomatch q)
def xQ(a:Str)(b:Int):decide ((Sum.inr a:Key)=iJ b)=af:=decide_eq_false (λq=>nomatch q)
abbrev lK(prog:ci)(w:World):PySem.KeyKind prog w Key where
 is:=lJ
 hash:=EV w
 inj:=λv a b ha hb=>by
  rcases jm ha with⟨i,t,rfl,rfl⟩ |⟨x,t,rfl,rfl⟩
  .rcases jm hb with⟨j,u,rfl,e⟩ |⟨y,u,rfl,e⟩
   .injection e with e1 _;rw[e1]
   .show nomatch e
  .rcases jm hb with⟨j,u,rfl,e⟩ |⟨y,u,rfl,e⟩
   .show nomatch e
   .injection e with e1 _;rw[e1]
 byValue:=λk v h=>by
  rcases jm h with⟨i,t,rfl,rfl⟩ |⟨x,t,rfl,rfl⟩ <;> rfl
 pyHash:=λhv h=>by
  rcases jm hv with⟨i,t,rfl,rfl⟩ |⟨x,t,rfl,rfl⟩
  .show wpAny_pyHash_int h
  .show wpAny_pyHash_str h
 eqBool:=λhu hv h=>by
  rcases jm hu with⟨i,t,rfl,rfl⟩ |⟨x,t,rfl,rfl⟩
  .rcases jm hv with⟨j,u,rfl,rfl⟩ |⟨y,u,rfl,rfl⟩
   .rw[uk]at h;show wpAny_eqBool_int h
   .rw[xP]at h;show xM i t y u _ _ _ _ h
  .rcases jm hv with⟨j,u,rfl,rfl⟩ |⟨y,u,rfl,rfl⟩
   .rw[xQ]at h;show xN x t j u _ _ _ _ h
   .rw[EY]at h;show wpAny_eqBool_str h
 «strs»:=λk x t v h=>by
  rcases jm h with⟨i,u,rfl,e⟩ |⟨y,u,rfl,e⟩
  .show nomatch e
  .injection e with e1 _
   subst e1
   cases v <;> rfl
def Lg(prog:ci)(w:World)(i:Int)(t:Tok):(lK prog w).is (.inl i) (.int i t)=ac:=EW i t
def Lh(prog:ci)(w:World)(x:Str)(t:Tok):(lK prog w).is (.inr x) (.str x t)=ac:=EX x t
inductive V where
 |non |bl (b:Bool) |int (i:Int) |str (x:Str) |byt (b:Array UInt8) |flt (b:UInt64) |ref (a:Addr) |ty (n:String)
 deriving DecidableEq
nonrec abbrev LVv:=List V
abbrev aD:V->Value->Prop
 |.non,u=>u=mU
 |.bl b,u=>u=iI b
 |.int i,u=>∃t,u=Value.int i t
 |.str x,u=>∃t,u=Value.str x t
 |.byt b,u=>∃t,u=Value.bytes b t
 |.flt b,u=>∃t,u=Value.float b t
 |.ref a,u=>u=e7 a
 |.ty n,u=>u=kG n
nonrec abbrev aI:LVv->LVa->Prop:=ic aD
variable{C:LVv}{us:LVa}
def aI.length(r:aI C us):Z C=Z us:=pc r
def aI.get:∀{C:LVv} {us:LVa} {i:Nat} {x:V},aI C us->C[i]?=aa x->∃u,us[i]?=aa u/\aD x u
 | _,_,_,_,.nil,e=>by simp at e
 | _,_,0,_,.cons r _,e=>by simp at e;subst e;show(_,rfl,r)
 | _,_,i+1,x,.cons _ t,e=>by
  have(u,a,h2):=aI.get t (by simpa using e);show(u,by simpa using a,h2)
def aI.set{x:V}{u:Value}(r:aD x u):∀{C:LVv} {us:LVa} (i:Nat),aI C us->aI (C.set i x) (us.set i u)
 | _,_,_,.nil=>.nil
 | _,_,0,.cons _ t=>.cons r t
 | _,_,i+1,.cons q t=>.cons q (aI.set r i t)
def aI.append:∀{C a:LVv} {us ws:LVa},aI C us->aI a ws->aI (C++a) (us++ws)
 | _,_,_,_,.nil,s=>s
 | _,_,_,_,.cons r t,s=>.cons r (aI.append t s)
def aI.take:∀{C:LVv} {us:LVa} (n:Nat),aI C us->aI (C.take n) (us.take n)
 | _,_,0,_=>.nil
 | _,_,_+1,.nil=>.nil
 | _,_,n+1,.cons r t=>.cons r (aI.take n t)
def aI.drop:∀{C:LVv} {us:LVa} (n:Nat),aI C us->aI (C.drop n) (us.drop n)
 | _,_,0,r=>r
 | _,_,_+1,.nil=>.nil
 | _,_,n+1,.cons _ t=>aI.drop n t
abbrev e8:Option V->Option Value->Prop
 |some v,aa u=>aD v u
 |none,ab=>True
 | _,_=>False
abbrev KV{a:Type}:List (a×V)->List (a×Value)->Prop:=ic λ(p:a×V) (q:a×Value)=>p.1=q.1/\aD p.2 q.2
abbrev kV:Key->V
 |.inl i=>.int i
 |.inr x=>.str x
abbrev kR:Key->V->Prop
 |.inl i,v=>v=.int i\/∃b:Bool,v=.bl b/\i=cond b 1 0
 |.inr x,v=>v=.str x
abbrev xR:Key->Value->Bool
 |.inl k,.bool b=>decide (k=cond b 1 0)
 |k,v=>lJ k v
def mY{k:Key}{v:Value}(h:xR k v=ac):(∃i t,k=.inl i/\v=.int i t)\/(∃b:Bool,k=.inl (cond b 1 0)/\v=.bool b)\/(∃x t,k=.inr x/\v=.str x t):=by
 unfold xR at h;split at h
 .rename_i a b;show .inr (.inl (b,by rw[of_decide_eq_true h],rfl))
 .rcases jm h with q |q
  .show .inl q
  .show .inr (.inr q)
def Li(a b:Bool):decide ((iJ (cond a 1 0):Key)=iJ (cond b 1 0))=(a==b):=by cases a <;> cases b <;> decide
def Lj(a:Bool)(j:Int):decide ((iJ (cond a 1 0):Key)=iJ j)=((if a then 1 else 0)==j):=by rw[uk];cases a <;> rfl
def Lk(j:Int)(a:Bool):decide ((iJ j:Key)=iJ (cond a 1 0))=(j==(if a then 1 else 0)):=by rw[uk];cases a <;> rfl
variable{prog:ci}{w:World}{A:ca}{X4:PRS}
def Ll{s:ah}{b:Bool}{Q:Int->ah->Prop}(h:Q (hashInt (cond b 1 0)) {s with toks:=s.toks+1}):wpAny (model prog w) A (pyHash (.bool b)) Q X4 s:=by
 show W.pyHash_slot (T:="bool") rfl PySem.F.slot_bool_hash PySem.entry_int_hash (PySem.args_int_hash _) (beq_builtin_none _) (.inl rfl) ?_;cases b
 .show(show wpAny _ _ (do ret (<- mkInt 0)) _ _ s from ak (wpAny_mkInt (aE (_,_,rfl,h))))
 .show(show wpAny _ _ (do ret (<- mkInt 1)) _ _ s from ak (wpAny_mkInt (aE (_,_,rfl,h))))
abbrev mZ(prog:ci)(w:World):PySem.KeyKind prog w Key where
 is:=xR
 hash:=EV w
 inj:=λv a b ha hb=>by
  rcases mY ha with⟨i,t,rfl,rfl⟩ |⟨c,rfl,rfl⟩ |⟨x,t,rfl,rfl⟩ <;> rcases mY hb with⟨j,u,rfl,e⟩ |⟨d,rfl,e⟩ |⟨y,u,rfl,e⟩ <;> cases e <;> rfl
 byValue:=λk v h=>by
  rcases mY h with⟨i,t,rfl,rfl⟩ |⟨c,rfl,rfl⟩ |⟨x,t,rfl,rfl⟩ <;> rfl
 pyHash:=λhv h=>by
  rcases mY hv with⟨i,t,rfl,rfl⟩ |⟨c,rfl,rfl⟩ |⟨x,t,rfl,rfl⟩
  .show wpAny_pyHash_int h
  .show Ll h
  .show wpAny_pyHash_str h
 eqBool:=λhu hv h=>by
  rcases mY hu with⟨i,t,rfl,rfl⟩ |⟨c,rfl,rfl⟩ |⟨x,t,rfl,rfl⟩ <;> rcases mY hv with⟨j,u,rfl,rfl⟩ |⟨d,rfl,rfl⟩ |⟨y,u,rfl,rfl⟩
  .rw[uk]at h;show cC.int_int _ _ _ _ _ _ _ _ h
  .rw[Lk]at h;show cC.int_bool _ _ _ _ _ _ _ h
  .rw[xP]at h;show xM _ _ _ _ _ _ _ _ h
  .rw[Lj]at h;show cC.bool_int _ _ _ _ _ _ _ h
  .rw[Li]at h;show cC.bool_bool _ _ _ _ _ _ h
  .rw[xP]at h;show cC.bool_str _ _ _ _ _ _ _ h
  .rw[xQ]at h;show xN _ _ _ _ _ _ _ _ h
  .rw[xQ]at h;show cC.str_bool _ _ _ _ _ _ _ h
  .rw[EY]at h;show wpAny_eqBool_str h
 «strs»:=λk x t v h=>by
  rcases mY h with⟨i,u,rfl,e⟩ |⟨c,rfl,e⟩ |⟨y,u,rfl,e⟩
  .show nomatch e
  .show nomatch e
  .injection e with e1 _
   subst e1
   cases v <;> rfl
variable{P:ci}{v:V}
def Lm{k:Key}{u:Value}(q:kR k v)(r:aD v u):(mZ P w).is k u=ac:=by
 cases k with
 |inl i=>
  rcases q with rfl |⟨b,rfl,rfl⟩
  .have(t,e):=(show ∃t,u=Value.int i t from r);subst e;show EW i t
  .cases (show u=iI b from r);cases b <;> rfl
 |inr x=>cases (show v=V.str x from q);have(t,e):=(show ∃t,u=Value.str x t from r);subst e;show EX x t
nonrec abbrev KRs:List Key->LVv->Prop:=ic kR
def EZ{P:ci}{w:World}:∀{ks:List Key} {vs:LVv} {us:LVa},KRs ks vs->aI vs us->ItemsAre (mZ P w) ks us
 | _,_,_,.nil,r=>by cases r;show .nil
 | _,_,_,.cons q t,r=>by
  cases r with
  |cons h t'=>show .cons (Lm q h) (EZ t t')
inductive HO where
 |lst (C:LVv)
 |tup (C:LVv)
 |dK (kvs:List (Key×V)) |dT (kvs:List (List Key×V))
 |set (S:Int->Bool) (n:Nat)
 |ins (X5 dx:Addr) (fs:List (Str×V))
 |own (x:Addr)
 |xd (fs:List (Str×V))
 |met (f x:Addr)
 |rng (lo hi:Int)
 |frz (o:Obj) (u:HO)
 |tbl (ps:Array Value)
 |ext (φ:Heap->Prop)
nonrec def Hp:=Addr->Option HO
def fK(H:Hp)(b:Addr)(k:List Key):Prop:=∃vs,H b=aa (.tup vs)/\KRs k vs
variable{H H':Hp}{b:Addr}
def fK.up{k:List Key}(h:fK H b k)(a:∀b C,H b=aa (.tup C)->H' b=aa (.tup C)):fK H' b k:=let (vs,e,q):=h;(vs,a _ _ e,q)
def upd(H:Hp)(a:Addr)(o:HO):Hp:=λb=>if b=a then aa o else H b
variable{a:Addr}
def be{o:HO}:upd H a o a=aa o:=by unfold upd;rw[if_pos rfl]
def aN{o:HO}(h:b≠a):upd H a o b=H b:=by unfold upd;rw[if_neg h]
def E3{o u:HO}(h:H a=aa o)(h':H b=aa u)(d:o≠u):a≠b:=by grind
def fL{o:HO}(h:H a=aa o)(h':H b=ab):a≠b:=by
 intro e;subst e;rw[h]at h';cases h'
section
variable(P:ci)(w:World)
abbrev dY(H:Hp)(h:Heap)(a:Addr):HO->Prop
 |.lst C=>Z C<=aX/\∃(L:LVa) (n:Nat),aI C L/\h.get? a=aa {cls:=.type "list",data:=.seq L.toArray n}
 |.tup C=>Z C<=aX/\∃L:LVa,aI C L/\IsTup h a L.toArray
 |.dK kvs=>Z kvs<=aX/\(a==hX)=af/\∃vs,KV kvs vs/\h.DictOf (lK P w) a vs
 |.dT kvs=>Z kvs<=aX/\(a==hX)=af/\∃C:List (List Key×Addr×Value),
   ic (λ(p:List Key×V) (q:List Key×Addr×Value)=>p.1=q.1/\fK H q.2.1 p.1/\aD p.2 q.2.2) kvs C /\
   ∃o es c,h.get? a=aa o/\o.ExactDict/\o.data=.dict es c/\es.toList=C.map (entryOfKey (tupleKind (mZ P w)))/\(C.map (·.1)).Nodup
 |.set S n=>h.SetOf (fT P w) a S n
 |.ins X5 dx fs=>H dx=aa (.own a)/\Z fs<=1000/\dx≠a/\h.get? a=aa (lI X5 dx) /\
   ∃mA,h.Ns1 dx mA/\(∀f,e8 (fs.lookup f) (mA f))/\PySem.Within mA (fs.map (·.1))
 |.own _=>∃o,h.get? a=aa o
 |.xd fs=>∃mA,h.Ns1 a mA/\∀f,e8 (fs.lookup f) (mA f)
 |.rng lo hi=>∃t u v,h.get? a=aa {cls:=.type "range",data:=.fields #[.int lo t,.int hi u,.int 1 v]}
 |.frz o u=>h.get? a=aa o/\dY H h a u
 |.tbl ps=>h.get? a=aa {cls:=.none,data:=.fields ps}
 |.met f x=>h.get? a=aa (W.methodObj (.ref f) (.ref x))
 |.ext φ=>φ h/\(∃o,h.get? a=aa o)/\∀b h2:Heap,φ b->(∀o,b.get? a=aa o->h2.get? a=aa o)->φ h2
def HOk(H:Hp)(h:Heap):Prop:=∀a o,H a=aa o->dY P w H h a o
end
variable{h:Heap}
def dY.lt{o:HO}(x:dY P w H h a o):a<h.objs.size:=by
 cases o with
 |lst C=>have(_,_,_,_,e):=x;show bF e
 |tup C=>have(_,_,_,p):=x;show p.lt
 |dK kvs=>have(_,_,_,_,o,_,_,e,_):=x;show bF e
 |dT kvs=>have(_,_,_,_,o,_,_,e,_):=x;show bF e
 |set S n=>have(o,_,_,_,e,_):=x;show bF e
 |ins X5 dx fs=>have(_,_,_,e,_):=x;show bF e
 |own y=>have(_,e):=x;show bF e
 |xd fs=>have(_,(_,_,_,e,_),_):=x;show bF e
 |rng lo hi=>have(_,_,_,e):=x;show bF e
 |frz b u=>have(e,_):=x;show bF e
 |tbl ps=>show bF (x)
 |met f y=>show bF (x)
 |ext φ=>have(_,(_,e),_):=x;show bF e
def ic.mapP{e g:Type}{F G:e->g->Prop}:∀{c:List e} {d:List g},ic F c d->(∀a b,F a b->G a b)->ic G c d
 | _,_,.nil,_=>.nil
 | _,_,.cons r t,f=>.cons (f _ _ r) (ic.mapP t f)
variable{h':Heap}
section
variable{o:HO}
def dY.stay(x:dY P w H h a o)(k:∀b u,(b=a\/H b=aa (.own a))->h.get? b=aa u->h'.get? b=aa u)
 (l:∀b,H b=aa (.own a)->H' b=aa (.own a))(m:∀b C,H b=aa (.tup C)->H' b=aa (.tup C)):dY P w H' h' a o:=by
 induction o with
 |lst C=>have(z,L,n,r,e):=x;show(z,L,n,r,k _ _ (.inl rfl) e)
 |tup C=>have(z,L,r,g,e,c):=x;show(z,L,r,g,k _ _ (.inl rfl) e,c)
 |dK kvs=>have(z,y,vs,r,g,es,i,e,c):=x;show(z,y,vs,r,g,es,i,k _ _ (.inl rfl) e,c)
 |dT kvs=>
  have(z,y,C,r,g,es,i,e,c):=x
  show(z,y,C,ic.mapP r λp q z=>(z.1,z.2.1.up m,z.2.2),g,es,i,k _ _ (.inl rfl) e,c)
 |set S n=>have(g,es,i,t,e,c):=x;show(g,es,i,t,k _ _ (.inl rfl) e,c)
 |ins X5 dx fs=>
  have(d,z,ne,e,mA,(od,es,i,j,c),r):=x
  show(l _ d,z,ne,k _ _ (.inl rfl) e,mA,(od,es,i,k _ _ (.inr d) j,c),r)
 |own y=>have(g,e):=x;show(g,k _ _ (.inl rfl) e)
 |xd fs=>have(mA,(od,es,i,e,c),r):=x;show(mA,(od,es,i,k _ _ (.inl rfl) e,c),r)
 |rng lo hi=>have(t,u,v,e):=x;show(t,u,v,k _ _ (.inl rfl) e)
 |frz g u A=>have(e,q):=x;show(k _ _ (.inl rfl) e,A q)
 |tbl ps=>
  have e:=x
  show k a _ (.inl rfl) e
 |met f y=>
  have e:=x
  show k a _ (.inl rfl) e
 |ext φ=>have(p,(o,e),st):=x;show(st _ _ p λo q=>k _ _ (.inl rfl) q,(o,k _ _ (.inl rfl) e),st)
end
def HOk.lt{o:HO}(x:HOk P w H h)(e:H a=aa o):a<h.objs.size:=(x a o e).lt
def HOk.fresh(x:HOk P w H h)(e:h.objs.size<=a):H a=ab:=by
 cases q:H a with
 |none=>rfl
 |some u=>show absurd (fI (x.lt q) e) (gH _)
def HOk.kept(x:HOk P w H h)(k:∀b u,h.get? b=aa u->h'.get? b=aa u):HOk P w H h':=λa o e=>
 (x a o e).stay (λb u _ q=>k b u q) (λ_ q=>q) λ_ _ q=>q
def HOk.laid{o:HO}(x:HOk P w H h)(k:∀b u,h.get? b=aa u->h'.get? b=aa u)(f:h.objs.size<=a)(new:dY P w (upd H a o) h' a o):HOk P w (upd H a o) h':=λb u e=>by
 have hn:=x.fresh f
 by_cases d:b=a
 .subst d;rw[be]at e;cases e;show new
 .rw[aN d]at e;show(x b u e).stay (λc v _ q=>k c v q) (λc q=>by rw[aN (fL q hn)];show q) λc C q=>by rw[aN (fL q hn)];show q
def Rd(H:Hp)(a:Addr)(u:HO):Prop:=H a=aa u\/∃o,H a=aa (.frz o u)
def Rd.ok{u:HO}(r:Rd H a u)(x:HOk P w H h):dY P w H h a u:=by
 rcases r with r |⟨o,r⟩
 .show x a u r
 .have(_,q):=x a _ r;show q
abbrev Mut:Option HO->Prop
 |some (.lst _)=>True
 |some (.dK _)=>True
 |some (.dT _)=>True
 |some (.set _ _)=>True
 |some (.ins _ _ _)=>True
 |some (.ext _)=>True
 | _=>False
variable{x e:Addr}{o':HO}
def HOk.write(ok:HOk P w H h)(f:Mut (H x))(n:e=x\/H e=aa (.own x))(k:∀b u,b≠e->h.get? b=aa u->h'.get? b=aa u)(i:∃u,h'.get? e=aa u)
 (new:dY P w (upd H x o') h' x o'):HOk P w (upd H x o') h':=λb u q=>by
 have a:∀c y,H c=aa (.own y)->c≠x:=λc y r z=>by subst z;rw[r]at f;show f
 have d:∀c C,H c=aa (.tup C)->c≠x:=λc C r z=>by subst z;rw[r]at f;show f
 by_cases j:b=x
 .subst j;rw[be]at q;grind
 .rw[aN j]at q
  by_cases g:b=e
  .have l:H b=aa (.own x):=by
    grind
   rw[q]at l;cases l;have(v,hv):=i;show(v,by rw[g];show hv)
  .show(ok b u q).stay (λc v m r=>k c v ?_ r) (λc r=>by rw[aN (a c b r)];show r) λc C r=>by rw[aN (d c C r)];show r
   grind
structure Un(fs ex:LAd)(H H':Hp)(h h':Heap):Prop where
 keep:∀b o,h.get? b=aa o->H b=ab->b∉fs->b∉ex->h'.get? b=aa o
 slot:∀b o,h.get? b=aa o->H b=ab->b∈fs->b∉ex->∃sl,h'.get? b=aa {o with slots:=sl}
 free:∀b o,h.get? b=aa o->H b=ab->b∉ex->H' b=ab
 there:∀b o,h.get? b=aa o->b∉ex->∃o',h'.get? b=aa o'
 tups:∀b C,H b=aa (.tup C)->H' b=aa (.tup C)
 frzs:∀b o u,H b=aa (.frz o u)->H' b=aa (.frz o u)
 tbls:∀b ps,H b=aa (.tbl ps)->∃more,H' b=aa (.tbl (ps++more))
variable{ex:LAd}{H1:Hp}{h1:Heap}
def Un.any{fs:LAd}(u:Un fs ex H H1 h h1){a:Obj}(q:h.get? b=aa a)(n:H b=ab)(d:b∉ex):∃sl,h1.get? b=aa {a with slots:=sl}:=by
 by_cases c:b∈fs
 .show u.slot b a q n c d
 .show(a.slots,u.keep b a q n c d)
variable{H2:Hp}{h2:Heap}
def Un.trans{fs:LAd}(a:Un fs ex H H1 h h1)(b:Un fs ex H1 H2 h1 h2):Un fs ex H H2 h h2 where
 keep:=λc ob q n hc hx=>b.keep c ob (a.keep c ob q n hc hx) (a.free c ob q n hx) hc hx
 slot:=λc ob q n hc hx=>by
  have(sl,e1):=a.slot c ob q n hc hx;have(sl',e2):=b.slot c _ e1 (a.free c ob q n hx) hc hx;show(sl',e2)
 free:=λc ob q n hx=>by
  have(o',e1):=a.there c ob q hx;show b.free c o' e1 (a.free c ob q n hx) hx
 there:=λc ob q hx=>by
  have(o',e1):=a.there c ob q hx;show b.there c o' e1 hx
 tups:=λc C q=>b.tups c C (a.tups c C q)
 frzs:=λc ob C q=>b.frzs c ob C (a.frzs c ob C q)
 tbls:=λc ps q=>by
  have(m1,e1):=a.tbls c ps q;have(m2,e2):=b.tbls c _ e1;show(m1++m2,by rw[e2,Array.append_assoc])
def Un.kept{fs:LAd}(k:∀b u,h.get? b=aa u->h'.get? b=aa u):Un fs ex H H h h':=
 (λb a q _ _ _=>k b a q,λb a q _ _ _=>(a.slots,k b a q),λ_ _ _ n _=>n,λb a q _=>(a,k b a q),λ_ _ q=>q,λ_ _ _ q=>q,λ_ ps q=>(#[],by rw[q];simp))
def Un.refl{fs:LAd}:Un fs ex H H h h:=Un.kept λ_ _ q=>q
def Un.laid{fs:LAd}{o:HO}(k:∀b u,h.get? b=aa u->h'.get? b=aa u)(hp:h.objs.size<=a)(hn:H a=ab):Un fs ex H (upd H a o) h h' where
 keep:=λb u q _ _ _=>k b u q
 slot:=λb u q _ _ _=>(u.slots,k b u q)
 free:=λb u q n _=>by rw[aN (bY (fI (bF q) hp))];show n
 there:=λb u q _=>(u,k b u q)
 tups:=λb C q=>by rw[aN (fL q hn)];show q
 frzs:=λb u C q=>by rw[aN (fL q hn)];show q
 tbls:=λb ps q=>(#[],by rw[aN (fL q hn),q];simp)
def Un.write{fs:LAd}{o:HO}(a:Mut (H x))(g:e=x\/H e=aa (.own x))(k:∀b u,b≠e->h.get? b=aa u->h'.get? b=aa u)(d:∃u,h'.get? e=aa u):Un fs ex H (upd H x o) h h':=by
 have f:∀b,H b=ab->b≠x:=λb n z=>by subst z;rw[n]at a;show a
 have c:∀b,H b=ab->b≠e:=λb n z=>by
  grind
 have hm:∀b u,H b=aa u->¬Mut (aa u)->b≠x:=λb u q nm z=>by subst z;rw[q]at a;show nm a
 show(λb u q n _ _=>k b u (c b n) q,λb u q n _ _=>(u.slots,k b u (c b n) q),λb u q n _=>by rw[aN (f b n)];show n,λb u q _=>?_,
  λb C q=>by rw[aN (hm b _ q λz=>z)];show q,λb u C q=>by rw[aN (hm b _ q λz=>z)];show q,λb ps q=>(#[],by rw[aN (hm b _ q λz=>z),q];simp))
 grind
def trk(h:Heap)(H:Hp):LAd:=(bI h.objs.size).filter λa=>(H a).isSome
def pi(h:Heap)(H:Hp):Heap:=W.hideAll h (trk h H)
def Ln(h:Heap)(H:Hp):(pi h H).objs.size=h.objs.size:=W.hideAll_size _ _
def Lo{o:Obj}(e:h.get? b=aa o)(n:H b=ab):(pi h H).get? b=aa o:=
 W.hideAll_get _ e λhm=>by
  have q:=(cf.mp hm).2
  grind
def Lp{o:Obj}(e:(pi h H).get? b=aa o):h.get? b=aa o/\H b=ab:=by
 have e':=W.of_hideAll _ e;show(e',?_)
 cases q:H b with
 |none=>rfl
 |some x=>
  have hm:b∈trk h H:=cf.mpr (fG.mpr (bF e'),by simp[q]);have z:(pi h H).get? b=ab:=W.hideAll_none _ hm
  grind
def Lq(g h:Heap)(X2:Addr):PNS:=(bI h.objs.size).filterMap λa=>if a=X2\/(g.get? a).isSome=ac then ab else (h.get? a).map λo=>(a,o,)
def rest(g h:Heap)(X2 d:Addr):PNS:=(Lq g h X2).filter λp=>decide (p.1≠d)
structure Mod(K:aU)(mg:MGT)(base:Heap):Prop where
 kin:K.In base
 glob:base.Ns cu mg
 blt:∃mb,base.Ns builtinsNs mb/\∀x:Str,x ≠ "__name__" -> mb x=jW x
 nolimit:base.NoLimit
set_option genInjectivity false in
structure Cx where
 prog:ci
 w:World
 K:aU
 mg:Str->Option Value
 base:Heap
 A:ca
 N:LSt
 s₀:ah
 H₀:Hp
 env:Env
 outer:List Env
 stack:List Env
 ex:LAd
 fn:Str->Bool
 calm:Bool
 pn:PNS
 xe:Value->ah->Prop
nonrec abbrev NDb(x:Str):=(x==("__debug__":Str))=af
nonrec abbrev NCd(x:Str):=(x==("__classdict__":Str))=af
nonrec abbrev StE(X:Cx)(e:Expr)(es:LEx):=aQ (e::es) X.env=(af,eval e X.env,)::aQ es X.env
nonrec abbrev BkE(X:Cx)(pos:Pos)(es:LEx):=(cj pos (aQ es X.env)).any (·.1)=af
nonrec abbrev LcF(X:Cx)(x:Str):=X.fn x=ac\/X.env.scope.names.lookup x=aa .local
def frs(l:List Env):LAd:=l.filterMap (·.frame)
nonrec def Cx.fs(X:Cx):LAd:=frs X.outer
def Vis(sc:Scope)(x:Str):Prop:=sc.names.lookup x=aa .local\/sc.names.lookup x=aa .cell\/sc.names.lookup x=aa .free
def Loc(sc:Scope)(x:Str):Prop:=sc.names.lookup x=aa .local\/sc.names.lookup x=aa .cell
def Lr(env:Env)(h:Heap)(m:MGT)(x:Str)(u:Value):Prop:=
 (env.kindOf x=aa .local/\m x=aa u)\/((env.kindOf x=aa .cell\/env.kindOf x=aa .free)/\∃c,env.cells.lookup x=aa c/\h.IsCell c (aa u))
structure Cx.Ok(X:Cx):Prop where
 mod:Mod X.K X.mg X.base
 kind:X.env.scope.kind=.function
 glob:X.env.globals=cu
 blt:X.env.builtins=builtinsNs
 above:X.s₀.heap.objs.size<=X.env.locals
 inj:∀x y c,X.env.cells.lookup x=aa c->X.env.cells.lookup y=aa c->x=y
 has:∀x,(X.env.kindOf x=aa .cell\/X.env.kindOf x=aa .free)->∃c,X.env.cells.lookup x=aa c
 cab:∀x c,X.fn x=ac->X.env.cells.lookup x=aa c->X.s₀.heap.objs.size<=c
 hd:X.calm=ac->X.A.handled=ab
 frames:X.A.frames=aa X.stack
 stk:X.stack=X.outer\/(X.stack=X.env::X.outer/\X.env.frame=aa X.env.locals)
 exf:∀b∈X.ex,b≠X.env.locals/\∀x c,X.env.cells.lookup x=aa c->c≠b
 bs:∀b o,X.base.get? b=aa o->X.s₀.heap.get? b=aa o/\X.H₀ b=ab
 bsz:X.base.objs.size<=X.s₀.heap.objs.size
 noex:∀b o,X.base.get? b=aa o->b∉X.ex
 exfs:∀b∈X.ex,b∉X.fs
 funs:X.s₀.heap.FunFrames X.base X.outer
 frf:∀b∈X.fs,X.H₀ b=ab
structure Inv(X:Cx)(U:PNS)(E:List (Option V))(H:Hp)(s:ah):Prop where
 ok:X.Ok
 os:s.os=X.s₀.os
 bare:kz s.gens
 base:Un X.fs X.ex X.H₀ H X.s₀.heap s.heap
 loc:∃m,s.heap.Ns X.env.locals m/\∀(i:Nat) (x:Str) (v:V),X.N[i]?=aa x->E[i]?=aa (aa v)->Vis X.env.scope x->∃u,aD v u/\Lr X.env s.heap m x u
 cell:∀x c,X.env.cells.lookup x=aa c->∃v,s.heap.IsCell c v
 free:H X.env.locals=ab
 freeC:∀x c,X.env.cells.lookup x=aa c->H c=ab
 pin:∀p∈X.pn++U,s.heap.get? p.1=aa p.2/\H p.1=ab/\p.1≠X.env.locals/\p.1∉X.fs/\∀v,p.2.data≠.cell v
 hok:HOk X.prog X.w H s.heap
 len:Z E=Z X.N
variable{X:Cx}
def Cx.Ok.nofr(ok:X.Ok){o:Obj}(e:X.base.get? b=aa o):b∉X.fs:=λa=>by
 have:=(ok.funs.mem a).1
 grind
variable{U:PNS}{E:List (Option V)}
def Inv.bs{s:ah}(I:Inv X U E H s):∀b o,X.base.get? b=aa o->s.heap.get? b=aa o/\H b=ab:=λb o e=>
 (I.base.keep b o (I.ok.bs b o e).1 (I.ok.bs b o e).2 (I.ok.nofr e) (I.ok.noex b o e),I.base.free b o (I.ok.bs b o e).1 (I.ok.bs b o e).2 (I.ok.noex b o e))
def Inv.bk{s:ah}(I:Inv X U E H s):∀b o,X.base.get? b=aa o->s.heap.get? b=aa o:=λb o e=>(I.bs b o e).1
def Inv.mod{s:ah}(I:Inv X U E H s):Mod X.K X.mg X.base:=I.ok.mod
def Inv.kIn{s:ah}(I:Inv X U E H s):X.K.In s.heap:=I.ok.mod.kin.keeps I.bk
def Inv.lt{s:ah}(I:Inv X U E H s):X.env.locals<s.heap.objs.size:=let (_,hn,_):=I.loc;hn.lt
def Inv.sz{s:ah}(I:Inv X U E H s):X.s₀.heap.objs.size<=s.heap.objs.size:=cZ I.ok.above (fJ I.lt)
def Inv.nofs{s:ah}(I:Inv X U E H s)(h:s.heap.objs.size<=a):a∉X.fs:=λb=>by
 have(_,o,c,_):=I.ok.funs.mem b;show absurd (fI (bF c) (cZ I.sz h)) (gH _)
def Inv.cne{s:ah}(I:Inv X U E H s):∀x c,X.env.cells.lookup x=aa c->c≠X.env.locals:=λx c e z=>by
 have(v,o,f,hd):=I.cell x c e;have(m,(o',es,d,b,a,_),_):=I.loc
 grind
def Inv.funs{s:ah}(I:Inv X U E H s):s.heap.FunFrames X.base X.outer:=by
 have all:∀l,(∀b∈frs l,b∈X.fs)->X.s₀.heap.FunFrames X.base l->s.heap.FunFrames X.base l:=by
  intro l
  induction l with
  |nil=>intro _ _;trivial
  |cons env r j=>
   intro f h;have(g,(X2,o,d,hn,i,hd),hr):=h;have a:=f X2 (by unfold frs;rw[qP,d];show aA);have(sl,e):=I.base.slot X2 o i (I.ok.frf X2 a) a λz=>I.ok.exfs X2 z a;show(g,(X2,_,d,hn,e,hd),j (λb c=>f b (by unfold frs;rw[qP,d];show bp _ c)) hr)
 show all X.outer (λ_ c=>c) I.ok.funs
def Inv.stack{s:ah}(I:Inv X U E H s):s.heap.FunFrames X.base X.stack:=by
 rcases I.ok.stk with e |⟨e,hf⟩
 .rw[e];show I.funs
 .rw[e];have(m,hn,_):=I.loc;show .cons (by rw[I.ok.kind];decide) hf hn (Heap.get?_none_of_le (cZ I.ok.bsz I.ok.above)) I.funs
def Inv.stkSub{s:ah}(I:Inv X U E H s):∀b∈frs X.stack,b∈X.env.locals::X.fs:=λb a=>by
 rcases I.ok.stk with e |⟨e,hf⟩
 .rw[e]at a;show bp _ a
 .rw[e]at a;unfold frs at a;rw[qP,hf]at a;show a
def Inv.stkFree{s:ah}(I:Inv X U E H s):∀b∈frs X.stack,H b=ab:=λb a=>by
 rcases bc.mp (I.stkSub b a)with e |a
 .rw[e];show I.free
 .have(_,o,c,_):=I.ok.funs.mem a;show I.base.free b o c (I.ok.frf b a) λz=>I.ok.exfs b z a
variable{g':Array GenState}{t':Nat}{d':Drawn}
section
variable{s:ah}
def Inv.step{ch:LAd}(I:Inv X U E H s)
 (g:∀b∈ch,(b∈X.ex\/X.s₀.heap.objs.size<=b)/\b≠X.env.locals/\(∀x c,X.env.cells.lookup x=aa c->c≠b)/\∀p∈X.pn++U,p.1≠b)
 (keep:∀b o,b≠X.env.locals->b∉X.fs->b∉ch->s.heap.get? b=aa o->H b=ab->h'.get? b=aa o)
 (slot:∀b o,b≠X.env.locals->b∈X.fs->b∉ch->s.heap.get? b=aa o->H b=ab->∃sl,h'.get? b=aa {o with slots:=sl})(free:∀b o,b∉ch->s.heap.get? b=aa o->H b=ab->H' b=ab)
 (there:∀b o,b∉ch->s.heap.get? b=aa o->∃o',h'.get? b=aa o')
 (tups:∀b C,H b=aa (.tup C)->H' b=aa (.tup C))(frzs:∀b o u,H b=aa (.frz o u)->H' b=aa (.frz o u))(tbls:∀b ps,H b=aa (.tbl ps)->∃more,H' b=aa (.tbl (ps++more)))
 (ns:∀m,s.heap.Ns X.env.locals m->h'.Ns X.env.locals m)(hok:HOk X.prog X.w H' h')(T:kz g'):
  Inv X U E H' {s with heap:=h',gens:=g',drawn:=d',toks:=t'}:=by
 have J:∀b o,X.s₀.heap.get? b=aa o->b≠X.env.locals:=λb o e=>bY (fI (bF e) I.ok.above)
 have y:∀b o,X.s₀.heap.get? b=aa o->b∉X.ex->b∉ch:=λb o e a A=>by
  rcases(g b A).1 with z |z
  .show a z
  .show absurd (fI (bF e) z) (gH _)
 have f:∀x c,X.env.cells.lookup x=aa c->∀v,s.heap.IsCell c v->h'.IsCell c v:=λx c e v q_=>by
  have(o,B,hd):=q_;have h:=λz=>(g c z).2.2.1 x c e rfl
  by_cases M:c∈X.fs
  .have(sl,q):=slot c o (I.cne x c e) M h B (I.freeC x c e);show(_,q,hd)
  .show(o,keep c o (I.cne x c e) M h B (I.freeC x c e),hd)
 show(I.ok,I.os,T,(λb o e n A a=>(keep b o (J b o e) A (y b o e a) (I.base.keep b o e n A a) (I.base.free b o e n a)),λb o e n A a=>?_,λb o e n a=>?_,λb o e a=>?_,λb C e=>tups b C (I.base.tups b C e),λb o C e=>frzs b o C (I.base.frzs b o C e),λb ps e=>?_),?_,λx c e=>?_,?_,λx c e=>?_,λp N=>?_,hok,I.len)
 .have(sl,j):=I.base.slot b o e n A a;have(L,G):=slot b _ (J b o e) A (y b o e a) j (I.base.free b o e n a);show(L,G)
 .have(o',j):=I.base.there b o e a;show free b o' (y b o e a) j (I.base.free b o e n a)
 .have(o',j):=I.base.there b o e a;show there b o' (y b o e a) j
 .have(m1,j):=I.base.tbls b ps e;have(m2,G):=tbls b _ j;show(m1++m2,by rw[G,Array.append_assoc])
 .have(m,hn,Y):=I.loc;show(m,ns m hn,λi x v j G Q=>?_);have(u,r,l):=Y i x v j G Q;show(u,r,?_)
  rcases l with l |⟨k,c,e,z⟩
  .show .inl l
  .show .inr (k,c,e,f x c e _ z)
 .have(v,z):=I.cell x c e;show(v,f x c e v z)
 .have(m,(o,_,_,B,_),_):=I.loc;show free _ o (λz=>(g _ z).2.1 rfl) B I.free
 .have(v,o,B,hd):=I.cell x c e;show free c o (λz=>(g c z).2.2.1 x c e rfl) B (I.freeC x c e)
 .have(e,n,ne,nf,d):=I.pin p N;have h:=λz=>(g p.1 z).2.2.2 p N rfl;show(keep p.1 p.2 ne nf h e n,free p.1 p.2 h e n,ne,nf,d)
end
section
variable{s:ah}
def Inv.un(I:Inv X U E H s)(u:Un X.fs [] H H' s.heap h')(hok:HOk X.prog X.w H' h'):Inv X U E H' {s with heap:=h',toks:=t'}:=by
 have(m,(o,es,i,f,r),_):=id I.loc;have(sl,g):=u.any f I.free (by simp)
 show I.step (ch:=[]) (λ_ z=>nomatch z) (λb o _ d _ e n=>u.keep b o e n d (by simp)) (λb o _ d _ e n=>u.slot b o e n d (by simp)) (λb o _ e n=>u.free b o e n (by simp)) (λb o _ e=>u.there b o e (by simp)) u.tups u.frzs u.tbls (λj hm=>by
  have(o',es',c,a,h):=hm;rw[f]at a;cases a;show(_,es',c,g,h)) hok I.bare
end
section
variable{s:ah}
def Inv.call{ch:LAd}(I:Inv X U E H s)(u:Un (frs X.stack) ch H H' s.heap h')(hok:HOk X.prog X.w H' h')(l:kz g')
 (d:∀b∈ch,(b∈X.ex\/X.s₀.heap.objs.size<=b)/\b≠X.env.locals/\(∀x c,X.env.cells.lookup x=aa c->c≠b)/\∀p∈X.pn++U,p.1≠b):
  Inv X U E H' {s with heap:=h',gens:=g',drawn:=d',toks:=t'}:=by
 have(m,(o,es,v,i,r),_):=id I.loc;have(sl,h):=u.any i I.free λz=>(d _ z).2.1 rfl
 show I.step d (λb o h j a e n=>u.keep b o e n (λz=>(bc.mp (I.stkSub b z)).elim h j) a) (λb o _ _ a e n=>u.any e n a) (λb o a e n=>u.free b o e n a) (λb o a e=>u.there b o e a) u.tups u.frzs u.tbls (λy hm=>by
  have(o',es',g,f,q):=hm;rw[i]at f;cases f;show(_,es',g,h,q)) hok l
end
variable{it:Addr}
section
variable{s:ah}
def Inv.turned(I:Inv X U E H s)(k:∀b o,b≠it->s.heap.get? b=aa o->h'.get? b=aa o)(hn:H it=ab)(f:it≠X.env.locals)
 (h1:it∈X.ex\/X.s₀.heap.objs.size<=it)(h2:∀x c,X.env.cells.lookup x=aa c->c≠it)(h:∀p∈X.pn++U,p.1≠it):Inv X U E H {s with heap:=h',toks:=t'}:=by
 have d:∀b u,H b=aa u->b≠it:=λb u e z=>by rw[z,hn]at e;nomatch e
 show I.step (ch:=[it]) (λb i=>?_) (λb o _ _ a e _=>k b o (λz=>a (by simp[z])) e) (λb o _ _ a e _=>(o.slots,k b o (λz=>a (by simp[z])) e)) (λ_ _ _ _ n=>n)
  (λb o a e=>(o,k b o (λz=>a (by simp[z])) e)) (λ_ _ e=>e) (λ_ _ _ e=>e) (λb ps e=>(#[],by rw[e];simp)) (λm hm=>?_) (λb u e=>?_) I.bare
 .have e:b=it:=by simpa using i
  subst e;show(h1,f,h2,h)
 .have(o,es,g,j,r):=hm;show(o,es,g,k _ o (eX f) j,r)
 .show(I.hok b u e).stay (λc v a q=>k c v ?_ q) (λ_ q=>q) λ_ _ q=>q
  rcases a with z |z
  .rw[z];show d b u e
  .show d c _ z
end
section
variable{s:ah}
def Inv.tok(I:Inv X U E H s)(t:Nat):Inv X U E H {s with toks:=t}:=I.un Un.refl I.hok
end
section
variable{s:ah}
def Inv.kept(I:Inv X U E H s)(k:∀b u,s.heap.get? b=aa u->h'.get? b=aa u):Inv X U E H {s with heap:=h',toks:=t'}:=I.un (Un.kept k) (I.hok.kept k)
end
section
variable{s:ah}
def Inv.laid{o:HO}(I:Inv X U E H s)(k:∀b u,s.heap.get? b=aa u->h'.get? b=aa u)(c:s.heap.objs.size<=a)(new:dY X.prog X.w (upd H a o) h' a o):
  Inv X U E (upd H a o) {s with heap:=h',toks:=t'}:=I.un (Un.laid k c (I.hok.fresh c)) (I.hok.laid k c new)
end
section
variable{s:ah}
def Inv.write{o:HO}(I:Inv X U E H s)(d:Mut (H x))(c:e=x\/H e=aa (.own x))(k:∀b u,b≠e->s.heap.get? b=aa u->h'.get? b=aa u)(a:∃u,h'.get? e=aa u)
 (new:dY X.prog X.w (upd H x o) h' x o):Inv X U E (upd H x o) {s with heap:=h',toks:=t'}:=I.un (Un.write d c k a) (I.hok.write d c k a new)
end
def Inv.pins_of{s:ah}{a:PNS}(I:Inv X U E H s)(h:∀p∈a,s.heap.get? p.1=aa p.2/\H p.1=ab/\p.1≠X.env.locals/\p.1∉X.fs/\∀v,p.2.data≠.cell v):Inv X a E H s:=
 (I.ok,I.os,I.bare,I.base,I.loc,I.cell,I.free,I.freeC,λp b=>(bw.mp b).elim (λz=>I.pin p (bX _ z)) (h p),I.hok,I.len)
variable{N:LSt}{i:Nat}{x:Str}
def E4(e:N.Nodup){j:Nat}(a:N[i]?=aa x)(b:N[j]?=aa x):i=j:=by
 have(h1,c):=dh.mp a;have(h2,d):=dh.mp b;show(List.getElem_inj e).mp (c.trans d.symm)
variable{X1:Model}{u:Value}{Q:Unit->ah->Prop}
section
variable{s:ah}
def E5(I:Inv X U E H s)(hN:X.N.Nodup)(hi:X.N[i]?=aa x)(B:Loc X.env.scope x)(r:aD v u)
 (h:∀s',Inv X U (E.set i (aa v)) H s'->(∃a,gj a s.heap s'.heap/\(a=X.env.locals\/X.env.cells.lookup x=aa a))->Q () s')(hf:autoParam (LcF X x) Zh):wpAny X1 A (storeName X.env x u) Q X4 s:=by
 have(m,hn,hl):=id I.loc;have hcls:(X.env.scope.kind==.class || (X.env.scope.kind==.module && X.env.locals != X.env.globals))=af:=by rw[I.ok.kind];rfl
 have J:i<Z E:=by rw[I.len];show(dh.mp hi).1
 have cne:=I.cne
 have l:∀{a:Addr} {h':Heap},(∃o,s.heap.get? a=aa o/\H a=ab)->gj a s.heap h'->HOk X.prog X.w H h':=λ{a h'} ha f b ob e=>by
  have(_,_,hfree):=ha;show(I.hok b ob e).stay (λc w' C q=>(f.2 c ?_).trans q) (λ_ q=>q) λ_ _ q=>q
  grind
 rcases B with hk |hk
 .show wpAny_storeName_local hk hn (λh' hn' f=>?_) hcls;have(oL,_,_,hoL,_):=id hn;show h _ (I.ok,I.os,I.bare,(λb o e n L B=>((f.2 b (bY (fI (bF e) I.ok.above))).trans (I.base.keep b o e n L B)),λb o e n L B=>?_,I.base.free,λb o e B=>?_,I.base.tups,I.base.frzs,I.base.tbls),(_,hn',λj y v' g G e3=>?_),λy c e=>?_,I.free,I.freeC,λp hp=>?_,l (oL,hoL,I.free) f,by simpa using I.len) (_,f,.inl rfl)
  .have(sl,g):=I.base.slot b o e n L B;show(sl,(f.2 b (bY (fI (bF e) I.ok.above))).trans g)
  .have(o',g):=I.base.there b o e B;show(o',(f.2 b (bY (fI (bF e) I.ok.above))).trans g)
  .by_cases T:j=i
   .subst T;rw[hi]at g;cases g;rw[kj J]at G;cases G;show(u,r,.inl (hk,by simp))
   .rw[lu (eX T)]at G;have(u',r',q):=hl j y v' g G e3;show(u',r',?_)
    rcases q with⟨k,e⟩ |⟨k,c,e,z⟩
    .show .inl (k,?_);have:y≠x:=λe=>T (E4 hN g (e▸hi))
     grind
    .show .inr (k,c,e,z.sameBut f (cne y c e))
  .have(w',z):=I.cell y c e;show(w',z.sameBut f (cne y c e))
  .have(e,n,ne,nf,d):=I.pin p hp;show((f.2 p.1 ne).trans e,n,ne,nf,d)
 .have M:X.fn x=ac:=by
   grind
  have(c,C):=I.ok.has x (.inl hk);have(w',z):=I.cell x c C;show wpAny_storeName_cell I.ok.kind hk C z (λh' Y f=>?_);have(oc,hoc,hocd):=id z
  show h {s with heap:=h'} (I.ok,I.os,I.bare,(λb o e n L B=>((f.2 b (bY (fI (bF e) (I.ok.cab x c M C)))).trans (I.base.keep b o e n L B)),λb o e n L B=>?_,I.base.free,λb o e B=>?_,I.base.tups,I.base.frzs,I.base.tbls),(m,hn.sameBut f (eX (cne x c C)),λj y v' g G e3=>?_),λy c' e=>?_,I.free,I.freeC,λp hp=>?_,l (oc,hoc,I.freeC x c C) f,by simpa using I.len) (c,f,.inr C)
  .have(sl,g):=I.base.slot b o e n L B;show(sl,(f.2 b (bY (fI (bF e) (I.ok.cab x c M C)))).trans g)
  .have(o',g):=I.base.there b o e B;show(o',(f.2 b (bY (fI (bF e) (I.ok.cab x c M C)))).trans g)
  .by_cases T:j=i
   .subst T;rw[hi]at g;cases g;rw[kj J]at G;cases G;show(u,r,.inr (.inl hk,c,C,Y))
   .rw[lu (eX T)]at G;have(u',r',q):=hl j y v' g G e3;show(u',r',?_)
    rcases q with q |⟨k,c',e,z'⟩
    .show .inl q
    .show .inr (k,c',e,z'.sameBut f ?_);rintro rfl;show T (E4 hN g (I.ok.inj _ _ _ e C▸hi))
  .by_cases hcc:c'=c
   .subst hcc;show(_,Y)
   .have(w2,z2):=I.cell y c' e;show(w2,z2.sameBut f hcc)
  .have(e,n,ne,nf,d):=I.pin p hp;show((f.2 p.1 ?_).trans e,n,ne,nf,d);intro q;rw[q,hoc]at e;show d w' (by rw[<- (cP e)];show hocd)
end
def xS{s:ah}(I:Inv X U E H s)(c:X.N.Nodup)(hi:X.N[i]?=aa x)(e:Loc X.env.scope x)(r:aD v u)
 (h:∀a,Inv X U (E.set i (aa v)) H a->Q () a)(d:autoParam (LcF X x) Zh):wpAny X1 A (storeName X.env x u) Q X4 s:=
 E5 I c hi e r (λa b _=>h a b) d
variable{s':ah}
def Inv.call'{s:ah}{ch:LAd}(I:Inv X U E H s)(e:s'.os=s.os)(u:Un (frs X.stack) ch H H' s.heap s'.heap)(hok:HOk X.prog X.w H' s'.heap)(d:kz s'.gens)
 (a:∀b∈ch,(b∈X.ex\/X.s₀.heap.objs.size<=b)/\b≠X.env.locals/\(∀x c,X.env.cells.lookup x=aa c->c≠b)/\∀p∈X.pn++U,p.1≠b):Inv X U E H' s':=by
 have(h',g',d',t',o'):=s';subst e;show I.call u hok d a
nonrec def XK:=Value->Option Addr->Hp->Prop
nonrec def St:=List (Option V)
nonrec def VK:=V->Hp->Prop
nonrec def TE:=St->Hp->VK->Prop
nonrec def TT:=St->Hp->(Bool->Hp->Prop)->Prop
nonrec def TA:=St->Hp->(LVv->Hp->Prop)->Prop
structure jn where
 nx:St->Hp->Prop
 rt:VK
 bk:St->Hp->Prop:=λ_ _=>False
 ct:St->Hp->Prop:=λ_ _=>False
nonrec def TS:=jn->St->Hp->Prop
def EP(X:Cx)(U:PNS)(E:St)(Q:VK)(u:Value)(s':ah):Prop:=∃v H',Inv X U E H' s'/\aD v u/\Q v H'
def TP(X:Cx)(U:PNS)(E:St)(Q:Bool->Hp->Prop)(b:Bool)(s':ah):Prop:=∃H',Inv X U E H' s'/\Q b H'
def AP(X:Cx)(U:PNS)(E:St)(Q:LVv->Hp->Prop)(us:LVa)(s':ah):Prop:=∃vs H',Inv X U E H' s'/\aI vs us/\Q vs H'
def SP(X:Cx)(U:PNS)(D:jn)(f:Flow)(s':ah):Prop:=
 match f with
 |.next=>∃σ' H',Inv X U σ' H' s'/\D.nx σ' H'
 |.brk=>∃σ' H',Inv X U σ' H' s'/\D.bk σ' H'
 |.cont=>∃σ' H',Inv X U σ' H' s'/\D.ct σ' H'
 |.ret u=>∃v σ' H',Inv X U σ' H' s'/\aD v u/\D.rt v H'
def PE(X:Cx)(e:Expr)(t:TE):Prop:=
 ∀(U:PNS) (s:ah) (E:St) (H:Hp) (Q:VK),Inv X U E H s->t E H Q->wpAny (model X.prog X.w) X.A (eval e X.env) (EP X U E Q) X.xe s
def PT(X:Cx)(e:Expr)(t:TT):Prop:=
 ∀(U:PNS) (s:ah) (E:St) (H:Hp) (Q:Bool->Hp->Prop),Inv X U E H s->t E H Q->wpAny (model X.prog X.w) X.A (isTrue e X.env (eval e X.env)) (TP X U E Q) X.xe s
def PW(X:Cx)(e:Expr)(t:TT):Prop:=
 ∀(a:Sem Value) (U:PNS) (s:ah) (E:St) (H:Hp) (Q:Bool->Hp->Prop),Inv X U E H s->t E H Q->wpAny (model X.prog X.w) X.A (isTrue e X.env a) (TP X U E Q) X.xe s
variable{e:Expr}
def PW.pt{t:TT}(h:PW X e t):PT X e t:=h _
def PA(X:Cx)(es:LEx)(t:TA):Prop:=
 ∀(pos:Pos) (U:PNS) (s:ah) (E:St) (H:Hp) (Q:LVv->Hp->Prop),Inv X U E H s->t E H Q->wpAny (model X.prog X.w) X.A (spliced (cj pos (aQ es X.env))) (AP X U E Q) X.xe s
def PS(X:Cx)(st:Stmt)(t:TS):Prop:=
 ∀(U:PNS) (s:ah) (E:St) (H:Hp) (D:jn),Inv X U E H s->t D E H->wpAny (model X.prog X.w) X.A (exec st X.env) (SP X U D) X.xe s
def PSs(X:Cx)(st:List Stmt)(t:TS):Prop:=
 ∀(U:PNS) (s:ah) (E:St) (H:Hp) (D:jn),Inv X U E H s->t D E H->wpAny (model X.prog X.w) X.A (execs st X.env) (SP X U D) X.xe s
def thn{c:Type}{t:Sem c}{Q b:c->ah->Prop}{s:ah}(h:wpAny X1 A t Q X4 s)(d:∀a s,Q a s->b a s):wpAny X1 A t b X4 s:=fR h d λ_ _ x=>x
def c8(i:Nat):TE:=λE H Q=>∃v,E[i]?=aa (aa v)/\Q v H
def tC(v:V):TE:=λ_ H Q=>Q v H
variable{pos:Pos}
def m6(g:X.N[i]?=aa x)(hv:Vis X.env.scope x)(hd:autoParam (NDb x) Zc)(d:autoParam (NCd x) Zc):PE X (.Name x pos) (c8 i):=by
 intro U s E H Q I h;have(v,e,h):=h;have(m,hn,j):=I.loc;have(u,r,l):=j i x v g e hv;have fin:EP X U E Q u s:=(v,H,I,r,h)
 rcases l with⟨b,hm⟩ |⟨b,c,f,a⟩
 .show wpAny_Name (wpAny_loadName_local I.ok.kind b hn hm fin) hd
 .rcases b with b |b
  .show wpAny_Name (wpAny_loadName_cell I.ok.kind b f a fin) hd
  .show wpAny_Name (wpAny_loadName_free I.ok.kind b f a fin d) hd
def E6{i j pos}:PE X (.Constant (.int i) j pos) (tC (.int i)):=λ_ _ _ H _ I h=>wpAny_Constant_int (.int i,H,I.tok _,(_,rfl),h)
def Lu{b j pos}:PE X (.Constant (.bool b) j pos) (tC (.bl b)):=λ_ _ _ H _ I h=>Constant_bool (.bl b,H,I,rfl,h)
def Lv{j pos}:PE X (.Constant .none j pos) (tC .non):=λ_ _ _ H _ I h=>Constant_none (.non,H,I,rfl,h)
def Lw{x j pos}:PE X (.Constant (.str x) j pos) (tC (.str x)):=λ_ _ _ H _ I h=>Calls.Constant_str (.str x,H,I.tok _,(_,rfl),h)
def Gl(X:Cx)(x:Str):Prop:=X.env.kindOf x=aa .globalImplicit
variable{E:St}
def xT{s:ah}{Q:PRS}(I:Inv X U E H s)(a:Gl X x)(hm:X.mg x=aa u)(h:Q u s)
 (hd:autoParam (NDb x) Zc):wpAny (model X.prog X.w) X.A (eval (.Name x pos) X.env) Q X4 s:=
 Calls.Name_function_global I.ok.kind a (Calls.loadGlobal_global (by rw[I.ok.glob];show I.mod.glob.keeps I.bk) hm h) hd
def ig{s:ah}{Q:PRS}(I:Inv X U E H s)(a:Gl X x)(hm:X.mg x=ab)(hv:jW x=aa u)(h:Q u s)
 (hn:autoParam (x ≠ "__name__") Zc)(hd:autoParam (NDb x) Zc):wpAny (model X.prog X.w) X.A (eval (.Name x pos) X.env) Q X4 s:=by
 have(mb,h1,h2):=I.mod.blt;show Calls.Name_function_global I.ok.kind a (Calls.loadGlobal_builtin (by rw[I.ok.glob];show I.mod.glob.keeps I.bk) hm (by rw[I.ok.blt];show h1.keeps I.bk) ((h2 x hn).trans hv) h) hd
def Lx(a:Gl X x)(hm:X.mg x=ab)(hv:jW x=aa u)(r:aD v u)(hn:autoParam (x ≠ "__name__") Zc)(hd:autoParam (NDb x) Zc):PE X (.Name x pos) (tC v):=
 λ_ _ _ H _ I h=>ig I a hm hv (v,H,I,r,h) hn hd
abbrev t2I(a b:TE)(k:Int->Int->Hp->Prop):St->Hp->Prop:=λE H=>a E H λx H1=>b E H1 λy H2=>∃i j,x=.int i/\y=.int j/\k i j H2
def gM(a b:TE):TE:=λE H Q=>t2I a b (λi j H2=>Q (.int (i+j)) H2) E H
def PC(X:Cx)(op:CmpOp)(a b:Expr)(t:TE):Prop:=
 ∀(U:PNS) (s:ah) (E:St) (H:Hp) (Q:VK),Inv X U E H s->t E H Q ->
  wpAny (model X.prog X.w) X.A (eval a X.env) (λv c=>wpAny (model X.prog X.w) X.A (eval b X.env) (λu d=>wpAny (model X.prog X.w) X.A (cg op v u) (EP X U E Q) X.xe d) X.xe c) X.xe s
variable{op:CmpOp}
def E7(b:Expr)(h:op≠.In)(h2:op≠.NotIn):jU op b=af:=by
 have a:(op==CmpOp.In)=af:=by grind
 have c:(op==CmpOp.NotIn)=af:=by grind
 cases b <;> simp[jU,a,c]
variable{a b:Expr}
def Ly{t:TE}(h:PC X op a b t)(h1:autoParam (jU op b=af) Zl):PE X (.Compare a [op] [b] pos) t:=λU s E H Q I c=>wpAny_Compare1 (h U s E H Q I c) h1
def Lz(t u:TT):TT:=λE H Q=>t E H λc H1=>if c=ac then u E H1 Q else Q af H1
def tOr(t u:TT):TT:=λE H Q=>t E H λc H1=>if c=ac then Q ac H1 else u E H1 Q
def LA(t:TT):TT:=λE H Q=>t E H λc H1=>Q (!c) H1
variable{tA:TT}
def LB(ha:PT X a tA):PW X (.BoolOp .And [a] pos) tA:=by
 intro wh U s E H Q I h;show isTrue_and (thn (ha U s E H Q I h) λc s1 e=>?_)
 cases c with
 |true=>show isTrue_and_nil e
 |false=>show e
def LC(ha:PT X a tA):PW X (.BoolOp .Or [a] pos) tA:=by
 intro wh U s E H Q I h;show isTrue_or (thn (ha U s E H Q I h) λc s1 e=>?_)
 cases c with
 |false=>show isTrue_or_nil e
 |true=>show e
variable{tB':TT}
def LF{rest:LEx}(ha:PT X a tA)(f:PW X (.BoolOp .And (b::rest) pos) tB'):PW X (.BoolOp .And (a::b::rest) pos) (Lz tA tB'):=by
 intro wh U s E H Q I h;show isTrue_and (thn (ha U s E H _ I h) λc s1 g=>?_);have(H1,d,e):=g
 cases c with
 |true=>show f wh U s1 E H1 Q d e
 |false=>show(H1,d,e)
def LG{rest:LEx}(ha:PT X a tA)(f:PW X (.BoolOp .Or (b::rest) pos) tB'):PW X (.BoolOp .Or (a::b::rest) pos) (tOr tA tB'):=by
 intro wh U s E H Q I h;show isTrue_or (thn (ha U s E H _ I h) λc s1 g=>?_);have(H1,d,e):=g
 cases c with
 |true=>show(H1,d,e)
 |false=>show f wh U s1 E H1 Q d e
def LH(ha:PT X a tA):PT X (.UnaryOp .Not a pos) (LA tA):=by
 intro U s E H Q I h;show isTrue_not (ha U s E H _ I h)
def LI(a b:TE):TE:=λE H Q=>a E H λx H1=>∃c,x=.bl c/\if c=ac then b E H1 Q else Q (.bl af) H1
def LJ(a b:TE):TE:=λE H Q=>a E H λx H1=>∃c,x=.bl c/\if c=ac then Q (.bl ac) H1 else b E H1 Q
def LK(a:TE):TE:=λE H Q=>a E H λx H1=>∃c,x=.bl c/\Q (.bl (!c)) H1
def LL{op}{t:TE}(h:PE X a t):PE X (.BoolOp op [a] pos) t:=λU s E H Q I b=>BoolOp_one (h U s E H Q I b)
variable{ta tb:TE}
def LM{rest:LEx}(ha:PE X a ta)(f:PE X (.BoolOp .And (b::rest) pos) tb):PE X (.BoolOp .And (a::b::rest) pos) (LI ta tb):=by
 intro U s E H Q I h;show BoolOp_and (thn (ha U s E H _ I h) λv s1 g=>?_);have(x,H1,e,i,d):=g;have(c,rfl,d):=d;subst i;show kB ?_
 cases c with
 |true=>show f U s1 E H1 Q e d
 |false=>show(.bl af,H1,e,rfl,d)
def LO{rest:LEx}(ha:PE X a ta)(f:PE X (.BoolOp .Or (b::rest) pos) tb):PE X (.BoolOp .Or (a::b::rest) pos) (LJ ta tb):=by
 intro U s E H Q I h;show BoolOp_or (thn (ha U s E H _ I h) λv s1 g=>?_);have(x,H1,e,i,d):=g;have(c,rfl,d):=d;subst i;show kB ?_
 cases c with
 |false=>show f U s1 E H1 Q e d
 |true=>show(.bl ac,H1,e,rfl,d)
def LP(ha:PE X a ta):PE X (.UnaryOp .Not a pos) (LK ta):=by
 intro U s E H Q I h;show UnaryOp_ (thn (ha U s E H _ I h) λv s1 e=>?_);have(x,H1,d,f,b):=e;have(c,rfl,b):=b;subst f;show not_of (kB (.bl (!c),H1,d,rfl,b))
def tIf(t:TT)(ta tb:TE):TE:=λE H Q=>t E H λc H1=>if c=ac then ta E H1 Q else tb E H1 Q
variable{c:Expr}
def E8(i:PT X c tA)(ha:PE X a ta)(g:PE X b tb):PE X (.IfExp c a b pos) (tIf tA ta tb):=by
 intro U s E H Q I h;show wpAny_IfExp (thn (i U s E H _ I h) λd s1 j=>?_);have(H1,e,f):=j
 cases d with
 |true=>show ha U s1 E H1 Q e f
 |false=>show g U s1 E H1 Q e f
def SqL(K:aU)(H:Hp)(a:Addr)(C:LVv):Prop:=
 Rd H a (.lst C) \/
  ∃(o:Obj) (L:Array Value) (n:Nat),K.lookup a=aa o/\o.cls=.type "list" /\ o.dict=ab/\o.data=.seq L n/\L.size<=aX/\aI C L.toList
def SqT(K:aU)(H:Hp)(a:Addr)(C:LVv):Prop:=
 Rd H a (.tup C) \/
  ∃(o:Obj) (L:Array Value) (n:Nat),K.lookup a=aa o/\o.cls=.type "tuple" /\ o.data=.seq L n/\L.size<=aX/\aI C L.toList
abbrev LQ:Value->Option V
 |.none=>aa .non
 |.bool b=>aa (.bl b)
 |.int i _=>aa (.int i)
 |.str x _=>aa (.str x)
 |.bytes b _=>aa (.byt b)
 |.float b _=>aa (.flt b)
 |.ref a=>aa (.ref a)
 |.type n=>aa (.ty n)
 | _=>ab
def aD.abs{x:V}(r:aD x u):LQ u=aa x:=by
 cases x with
 |non=>subst r;rfl
 |bl _=>subst r;rfl
 |int _=>have(t,rfl):=r;rfl
 |str _=>have(t,rfl):=r;rfl
 |byt _=>have(t,rfl):=r;rfl
 |flt _=>have(t,rfl):=r;rfl
 |ref _=>subst r;rfl
 |ty _=>subst r;rfl
variable{y:V}
def aD.inj{x:V}(r:aD x u)(q:aD y u):x=y:=cP (r.abs.symm.trans q.abs)
def aI.inj:∀{C a:LVv} {us:LVa},aI C us->aI a us->C=a
 | _,_,_,.nil,.nil=>rfl
 | _,_,_,.cons r t,.cons r' t'=>by rw[r.inj r',aI.inj t t']
variable{a:Addr}{K:aU}
def SqL.of(h:H a=aa (.lst C)):SqL K H a C:=.inl (.inl h)
def SqT.of(h:H a=aa (.tup C)):SqT K H a C:=.inl (.inl h)
def Inv.list{s:ah}(I:Inv X U E H s)(h:SqL X.K H a C):∃L:LVa,aI C L/\PlainL s.heap a L.toArray/\Z C<=aX:=by
 rcases h with h |⟨o,L,n,hk,hc,hd,hs,hz,r⟩
 .have(z,L,n,r,e):=h.ok I.hok;show(L,r,(_,n,e,rfl,rfl,rfl),z)
 .show(L.toList,r,(o,n,I.kIn a o hk,hc,hd,by simpa using hs),?_);have e:=r.length
  grind
def Inv.tuple{s:ah}(I:Inv X U E H s)(h:SqT X.K H a C):∃L:LVa,aI C L/\IsTup s.heap a L.toArray/\Z C<=aX:=by
 rcases h with h |⟨o,L,n,hk,hc,hs,hz,r⟩
 .have(z,L,r,p):=h.ok I.hok;show(L,r,p,z)
 .show(L.toList,r,(o,I.kIn a o hk,hc,n,by simpa using hs),?_);have e:=r.length;simp only[ja]at e
  lia
variable{ys:LVv}
def Inv.list_inj{s:ah}(I:Inv X U E H s)(h:SqL X.K H a C)(h':SqL X.K H a ys):C=ys:=by
 have(L,r,(o,n,e,_,_,d),_):=I.list h;have(b,c,(o',f,e',_,_,d'),_):=I.list h';rw[e]at e';cases e';rw[d]at d'
 injection d' with d1 _
 have:L=b:=by simpa using congrArg Array.toList d1
 subst this;show r.inj c
def Inv.tuple_inj{s:ah}(I:Inv X U E H s)(h:SqT X.K H a C)(h':SqT X.K H a ys):C=ys:=by
 have(L,r,(o,e,_,n,d),_):=I.tuple h;have(b,c,(o',e',_,f,d'),_):=I.tuple h';rw[e]at e';cases e';rw[d]at d'
 injection d' with d1 _
 have:L=b:=by simpa using congrArg Array.toList d1
 subst this;show r.inj c
nonrec def Cx.wish(X:Cx)(X4:PRS):Cx:={X with xe:=X4}
nonrec def Cx.nox(X:Cx):Cx:=X.wish λ_ _=>False
def Cx.Ok.wish(ok:X.Ok)(X4:PRS):(X.wish X4).Ok:=
 (ok.mod,ok.kind,ok.glob,ok.blt,ok.above,ok.inj,ok.has,ok.cab,ok.hd,ok.frames,ok.stk,ok.exf,ok.bs,ok.bsz,ok.noex,ok.exfs,ok.funs,ok.frf)
def Cx.Ok.unwish(ok:(X.wish X4).Ok):X.Ok:=
 (ok.mod,ok.kind,ok.glob,ok.blt,ok.above,ok.inj,ok.has,ok.cab,ok.hd,ok.frames,ok.stk,ok.exf,ok.bs,ok.bsz,ok.noex,ok.exfs,ok.funs,ok.frf)
def Inv.wish{s:ah}(I:Inv X U E H s)(X4:PRS):Inv (X.wish X4) U E H s:=(I.ok.wish X4,I.os,I.bare,I.base,I.loc,I.cell,I.free,I.freeC,I.pin,I.hok,I.len)
def Inv.unwish{s:ah}(I:Inv (X.wish X4) U E H s):Inv X U E H s:=(I.ok.unwish,I.os,I.bare,I.base,I.loc,I.cell,I.free,I.freeC,I.pin,I.hok,I.len)
def SP.unwish{D:jn}{f:Flow}(h:SP (X.wish X4) U D f s'):SP X U D f s':=by
 cases f with
 |next=>have(σ',H',I,q):=h;show(σ',H',I.unwish,q)
 |brk=>have(σ',H',I,q):=h;show(σ',H',I.unwish,q)
 |cont=>have(σ',H',I,q):=h;show(σ',H',I.unwish,q)
 |ret u=>have(v,σ',H',I,r,q):=h;show(v,σ',H',I.unwish,r,q)
def PSs.nox{st:List Stmt}{t:TS}(h:PSs X.nox st t):PSs X st t:=λU s E H D I a=>
 fR (h U s E H D (I.wish _) a) (λ_ _ q=>q.unwish) λ_ _ z=>g6 z
def LR:TS:=λD E H=>D.nx E H
def LU(t u:TS):TS:=λD E H=>t {D with nx:=u D} E H
def E9:PSs X [] LR:=λ_ _ E H _ I h=>t9 (E,H,I,h)
variable{st:Stmt}{u:TS}
def um{rest:List Stmt}{t:TS}(h1:PS X st t)(h2:PSs X rest u):PSs X (st::rest) (LU t u):=by
 intro U s E H D I h
 show wpAny_execs_cons (thn (h1 U s E H {D with nx:=u D} I h) λf s1 q=>?_)
 cases f with
 |next=>
  have(σ',H',a,q):=q
  show h2 U s1 σ' H' D a q
 |ret v=>show q
 |brk=>show q
 |cont=>show q
def Fa{t:TS}(h1:PS X st t):PSs X [st] t:=by
 intro U s E H D I h;show wpAny_execs_cons (thn (h1 U s E H D I h) λf s1 q=>?_)
 cases f with
 |next=>show t9 q
 |ret v=>show q
 |brk=>show q
 |cont=>show q
def Inv.quiet{s:ah}(I:Inv X U E H s):interactive X.env=af:=by simp[interactive,I.ok.kind]
def m7(te:TE):TS:=λD E H=>te E H λ_ H1=>D.nx E H1
variable{te:TE}
def lL(b:PE X e te)(c:autoParam (gh e ab pos.line X.env=pure af) Zb):PS X (.Expr e pos) (m7 te):=by
 intro U s E H D I h;show wpAny_Expr_any (thn (b U s E H _ I h) λv s1 (x,H1,a,f,d)=>(E,H1,a,d)) I.quiet c
def LV(te:TE):TS:=λD E H=>te E H D.rt
def uq(b:PE X e te):PS X (.Return (aa e) pos) (LV te):=by
 intro U s E H D I h;show wpAny_Return_some (thn (b U s E H _ I h) λv s1 (x,H1,a,d,c)=>(x,E,H1,a,d,c))
def LW(c:TT)(t u:TS):TS:=λD E H=>c E H λb H1=>if b=ac then t D E H1 else u D E H1
variable{tc:TT}
def LX{t:TS}{a b:List Stmt}(i:PT X c tc)(ha:PSs X a t)(g:PSs X b u):PS X (.If c a b pos) (LW tc t u):=by
 intro U s E H D I h;show wpAny_If (thn (i U s E H _ I h) λd s1 j=>?_);have(H1,e,f):=j
 cases d with
 |true=>show ha U s1 E H1 D e f
 |false=>show g U s1 E H1 D e f
nonrec def TG:=V->St->Hp->(St->Hp->Prop)->Prop
nonrec def TGs:=LVv->St->Hp->(St->Hp->Prop)->Prop
def PG(X:Cx)(a:Expr)(t:TG):Prop:=
 ∀(U:PNS) (s:ah) (E:St) (H:Hp) (v:V) (u:Value) (Q:St->Hp->Prop),Inv X U E H s->aD v u->t v E H Q ->
  wpAny (model X.prog X.w) X.A (assign a X.env u) (λ_ s'=>∃σ' H',Inv X U σ' H' s'/\Q σ' H') X.xe s
def PGs(X:Cx)(ts:LEx)(t:TGs):Prop:=
 ∀(U:PNS) (s:ah) (E:St) (H:Hp) (vs:LVv) (us:LVa) (Q:St->Hp->Prop),Inv X U E H s->aI vs us->t vs E H Q ->
  wpAny (model X.prog X.w) X.A (assignInOrder ((jf ts X.env).map (·.2)) us) (λ_ s'=>∃σ' H',Inv X U σ' H' s'/\Q σ' H') X.xe s
nonrec def xU:=V->V->V->Hp->(Hp->Prop)->Prop
def Fb(X:Cx)(t:xU):Prop:=
 ∀(U:PNS) (s:ah) (E:St) (H:Hp) (o i v:V) (b a u:Value) (Q:Hp->Prop),Inv X U E H s->aD o b->aD i a->aD v u->t o i v H Q ->
  wpAny (model X.prog X.w) X.A (setItem b a u) (λ_ s'=>∃H',Inv X U E H' s'/\Q H') X.xe s
nonrec def TIp:=V->V->Hp->VK->Prop
def PIp(X:Cx)(op:Operator)(t:TIp):Prop:=
 ∀(U:PNS) (s:ah) (E:St) (H:Hp) (x y:V) (v u:Value) (Q:VK),Inv X U E H s->aD x v->aD y u->t x y H Q ->
  wpAny (model X.prog X.w) X.A (inplaceOp op v u) (EP X U E Q) X.xe s
def ij(i:Nat):TG:=λv E H Q=>Q (E.set i (aa v)) H
def xV(b:X.N.Nodup)(hi:X.N[i]?=aa x)(d:Loc X.env.scope x)(c:autoParam (LcF X x) Zh):PG X (.Name x pos) (ij i):=by
 intro U s E H v u Q I r h;show wpAny_assign_Name (xS I b hi d r (λs' a=>(_,H,a,h)) c)
def LY:TGs:=λvs E H Q=>vs=[]/\Q E H
def LZ(t:TG)(u:TGs):TGs:=λvs E H Q=>∃v r,vs=v::r/\t v E H λσ' H'=>u r σ' H' Q
def L4:PGs X [] LY:=by
 intro U s E H vs us Q I r h;have(e,h):=h;show assignInOrder_nil (E,H,I,h)
variable{es:LEx}
def L5{t:TG}{u:TGs}(h1:PG X e t)(h2:PGs X es u)
 (d:autoParam ((jf (e::es) X.env).map (·.2)=assign e X.env::(jf es X.env).map (·.2)) Zb):PGs X (e::es) (LZ t u):=by
 intro U s E H vs us Q I r h;have(v,i,c,h):=h;subst c
 cases r with
 |cons r g=>
  rw[d];show assignInOrder_cons (thn (h1 U s E H _ _ _ I r h) λ_ s1 (a,H1,b,f)=>(h2 U s1 a H1 _ _ Q b g f))
def L6(K:aU)(n:Nat)(t:TGs):TG:=λv E H Q=>∃a C,v=.ref a/\SqT K H a C/\Z C=n/\t C E H Q
def L7{k:Nat}{t:TGs}{n:Nat}(i:X.calm=ac)(h:PGs X es t)
 (hn:autoParam (Z (jf es X.env)=n) Zb)(c:autoParam ((jf es X.env).findIdx? (·.1)=ab) Zb):PG X (.Tuple es k pos) (L6 X.K n t):=by
 intro U s E H v u Q I r d;have(a,C,g,l,j,d):=d;subst g;subst r;have(L,f,m,hz):=I.tuple l;show assign_Tuple_tuple (I.ok.hd i) m (by simp[hn,<- j,f.length]) c λh' p=>?_;show h U _ E H C _ Q (I.kept λb o e=>p b o (bY (bF e)) e) (by simpa using f) d
def xX(to b:TE)(t:xU):TG:=λv E H Q=>to E H λo H1=>b E H1 λi H2=>t o i v H2 λa=>Q E a
def xY{o i:Expr}{to d:TE}{t:xU}(l:PE X o to)(hi:PE X i d)(m:Fb X t)
 (ha:autoParam (∀ v,assign (.Subscript o i pos) X.env v=(do
   let a <- eZ [v] (eval o X.env)
   let b <- eZ [v,a] (eval i X.env)
   gJ pos
   eZ [v,a,b] (setItem a b v)
   release [v,a,b] [])) Zd):PG X (.Subscript o i pos) (xX to d t):=by
 intro U s E H v u Q I r h;show ak (jV (thn (l U s E H _ I h) λa s1 c=>?_));have(x,H1,f,w,n):=c;show ak (jV (thn (hi U s1 E H1 _ f n) λb s2 c=>?_));have(y,H2,g,z,p):=c;show ak (wpAny_standAt (ak (jV (thn (m U s2 E H2 x y v a b u _ g w z r p) λ_ A (e,j,q)=>(wpAny_release (E,e,j,q))))))
def jo(te:TE)(g:TG):TS:=λD E H=>te E H λx H1=>g x E H1 D.nx
variable{tg:Expr}{g:TG}
def xZ(b:PE X e te)(c:PG X tg g)(d:autoParam (swapsWithSole [tg] e pos.line X.env=pure af) Zb)(f:autoParam (swappedStores [tg] e X.env=pure ab) Zb)
 (h1:autoParam ((jf [tg] X.env).map (·.2)=[assign tg X.env]) Zb):PS X (.Assign [tg] e pos) (jo te g):=by
 intro U s E H D I h;show wpAny_Assign_stores (thn (b U s E H _ I h) λv s1 j=>?_) d f;have(x,H1,a,l,i):=j;rw[h1];show thn (c U s1 E H1 x v _ a l i) λ_ s2 q=>q
variable{bm:Pos}
def px(c:X.N.Nodup)(hi:X.N[i]?=aa x)(j:Loc X.env.scope x)(d:PE X e te)(g:autoParam (gh e (aa (.Name x bm)) pos.line X.env=pure af) Zb)(f:autoParam (LcF X x) Zh):
  PS X (.Assign [.Name x bm] e pos) (jo te (ij i)):=by
 intro U s E H D I h;show wpAny_Assign_Name (thn (d U s E H _ I h) λv s1 (y,H1,a,m,l)=>(xS a c hi j m (λs2 b=>(_,H1,b,l)) f)) g
def L8(i:Nat)(te:TE)(a:TIp):TS:=λD E H=>∃x,E[i]?=aa (aa x)/\te E H λy H1=>a x y H1 λz H2=>D.nx (E.set i (aa z)) H2
def Fc{op:Operator}{n:TIp}(G:X.N.Nodup)(hi:X.N[i]?=aa x)(g:Loc X.env.scope x)(L:PE X e te)(T:PIp X op n)(M:autoParam (LcF X x) Zh):
  PS X (.AugAssign (.Name x bm) op e pos) (L8 i te n):=by
 intro U s E H D I h;have(v,C,h):=h;have(m,hn,Q):=I.loc
 have j:Vis X.env.scope x:=by rcases g with k |k;show .inl k;show .inr (.inl k)
 have(u,r,l):=Q i x v hi C j;show wpAny_AugAssign_Name ?_
 have go:wpAny (model X.prog X.w) X.A (eval e X.env) (λw d=>wpAny (model X.prog X.w) X.A (inplaceOp op u w) (λr f=>wpAny (model X.prog X.w) X.A (storeName X.env x r) (λ_=>SP X U D .next) X.xe f) X.xe d) X.xe s:=by
  show thn (L U s E H _ I h) λw s1 q_=>?_;have(y,H1,p,r1,Y):=q_;show thn (T U s1 E H1 v y u w _ p r r1 Y) λz s2 (zv,H2,q,r2,q2)=>(xS q G hi g r2 (λs3 B=>(_,H2,B,q2)) M)
 rcases l with⟨a,hm⟩ |⟨a,c,J,b⟩
 .show wpAny_loadName_local I.ok.kind a hn hm go
 .rcases a with a |a
  .show wpAny_loadName_cell I.ok.kind a J b go
  .rcases g with k |k
   .have:X.env.scope.names.lookup x=aa .free:=a;rw[k]at this;nomatch this
   .have:X.env.scope.names.lookup x=aa .free:=a;rw[k]at this;nomatch this
def ipI(f:Int->Int->Int):TIp:=λx y H Q=>∃i j,x=.int i/\y=.int j/\Q (.int (f i j)) H
def L9:PIp X .Add (ipI λi j=>i+j):=by
 intro U s E H x y v u Q I c d h;have(i,j,a,b,q):=h;subst a;subst b;have(t,rfl):=c;have(t',rfl):=d;show iadd_int (.int _,H,I.tok _,(_,rfl),q)
def Ma:PIp X .Sub (ipI λi j=>i-j):=by
 intro U s E H x y v u Q I c d h;have(i,j,a,b,q):=h;subst a;subst b;have(t,rfl):=c;have(t',rfl):=d;show isub_int (.int _,H,I.tok _,(_,rfl),q)
def Mb(c:TT)(tb:TS):TS:=λD E H=>∃W:Nat->St->Hp->Prop,(∃m,W m E H)/\∀m E H,W m E H ->
 c E H λb H1=>if b=ac then ∃N:St->Hp->Prop,(∀σ' H',N σ' H'->∃a,a<m/\W a σ' H')/\tb {D with nx:=N,ct:=N,bk:=D.nx} E H1 else D.nx E H1
variable{body:List Stmt}
def Mc{tb:TS}(x:PassesOwn (model X.prog X.w) X.A X.env X.xe)(B:PT X c tc)(z:PSs X body tb):PS X (.While c body [] pos) (Mb tc tb):=by
 intro U s E H D I h;have(W,(C,J),g):=h;show wpAny_While (codeAny_whileLoop (λn s'=>∃σ' H',Inv X U σ' H' s'/\W n σ' H') ?_ C (E,H,I,J));rintro n s1 ⟨d,H1,y,L⟩;show mM x (thn (B U s1 d H1 _ y (g n d H1 L)) λb s2 G=>?_);have(H2,r,i):=G
 cases b with
 |true=>
  have(N,u,i):=i;show mM x (thn (z U s2 d H2 _ r i) λf M j=>?_)
  cases f with
  |next=>
   have(a,e,l,p):=j;have(m,hm,q):=u a e p
   show(m,hm,a,e,l,q)
  |cont=>
   have(a,e,l,p):=j;have(m,hm,q):=u a e p
   show(m,hm,a,e,l,q)
  |brk=>show j
  |ret v=>show j
 |false=>
  show t9 (d,H2,r,i)
structure It where
 go:Nat->Hp->Prop
 yld:Nat->Hp->V->Hp->Prop
 stop:Nat->Hp->Prop
def ik(X:Cx)(U:PNS)(H:Hp)(b:Addr):Prop:=
 H b=ab/\b≠X.env.locals/\b∉X.fs/\(b∈X.ex\/X.s₀.heap.objs.size<=b)/\(∀x c,X.env.cells.lookup x=aa c->c≠b)/\∀p∈X.pn++U,p.1≠b
def Inv.fpOk{s:ah}{b:Addr}(I:Inv X U E H s)(a:s.heap.objs.size<=b)(hn:H' b=ab):ik X U H' b:=by
 show(hn,lz (fI I.lt a),I.nofs a,.inr (cZ I.sz a),λx c e z=>?_,λp d z=>(absurd (fI (bF (I.pin p d).1) (by rw[z];show a)) (gH _)));have(v,q):=I.cell x c e;show absurd (fI q.lt (by rw[z];show a)) (gH _)
structure kL(P:ci)(w:World)(K:aU)(tg:Expr)(J:It)(fp:LAd)(it:Addr)(tn:Nat->Heap->Prop):Prop where
 mem:it∈fp
 obj:∀i h,tn i h->∀b∈fp,∃o,h.get? b=aa o/\∀v,o.data≠.cell v
 keep:∀i h h',tn i h->(∀b∈fp,∀o,h.get? b=aa o->h'.get? b=aa o)->tn i h'
 item:∀(X:Cx),X.prog=P->X.w=w->X.K=K->X.calm=ac->∀(i:Nat) (U:PNS) (s:ah) (E:St) (H:Hp) (X4:PRS),Inv X U E H s->(∀b∈fp,ik X U H b)->tn i s.heap->J.go i H ->
  wpAny (model P w) X.A (ib (.ref it)) (λr s1=>∃ u,r=aa u /\
   wpAny (model P w) X.A (letOwnedTupleGo tg (.ref it) u) (λ_ s2=>∃x H',Inv X U E H' s2/\aD x u/\J.yld i H x H'/\tn (i+1) s2.heap/\∀b∈fp,H' b=ab) X4 s1) X4 s
 done:∀(X:Cx),X.prog=P->X.w=w->X.K=K->X.calm=ac->∀(i:Nat) (U:PNS) (s:ah) (E:St) (H:Hp) (X4:PRS),Inv X U E H s->(∀b∈fp,ik X U H b)->tn i s.heap->J.stop i H ->
  wpAny (model P w) X.A (ib (.ref it)) (λr s1=>r=ab/\Inv X U E H s1) X4 s
 self:∀(A:ca) (i:Nat) (s:ah) (Q:PRS) (X4:PRS),tn i s.heap->Q (.ref it) s->wpAny (model P w) A (pyIter (.ref it)) Q X4 s
nonrec def TI:=St->Hp->(It->Hp->Prop)->Prop
def PIE(X:Cx)(U:PNS)(E:St)(tg:Expr)(R:It->Hp->Prop)(a:Value)(s2:ah):Prop:=
 ∃(it:Addr) (fp:LAd) (tn:Nat->Heap->Prop) (J:It) (H':Hp),a=.ref it/\Inv X U E H' s2/\kL X.prog X.w X.K tg J fp it tn/\tn 0 s2.heap/\(∀b∈fp,ik X U H' b)/\R J H'
def PI(X:Cx)(tg iter:Expr)(a:TI):Prop:=
 ∀(U:PNS) (s:ah) (E:St) (H:Hp) (R:It->Hp->Prop),Inv X U E H s->a E H R ->
  wpAny (model X.prog X.w) X.A (eval iter X.env) (λv s1=>wpAny (model X.prog X.w) X.A (pyIter v) (PIE X U E tg R) X.xe s1) X.xe s
variable{u:Value}
def ur{s:ah}{o:Obj}{n:String}{vs:Array Value}(c:s.heap.get? it = aa o)(b:o.cls = .type n)(hd:o.data = .fields vs)
   (hn:["enumerate", "zip", "dict_itemiterator", "dict_reverseitemiterator", "odict_iterator", "itertools.zip_longest", "itertools.pairwise"].contains n = af)(a:Q () s):wpAny X1 A (letOwnedTupleGo tg (.ref it) u) Q X4 s:= by
  cases tg <;> first
    |show aE a
    | (cases u <;> first
        |show aE a
        | (show ak (wpAny_load c ?_)
           rw[b, hd];change wpAny X1 A (if _ = ac then _ else _) Q X4 s;rw[if_neg (by intro h;rw[hn, Bool.false_and]at h;nomatch h)];show aE a))
def Itl(K:aU)(a:Addr):It:=
 (λi H=>∃C x,SqL K H a C/\C[i]?=aa x,λi H x H'=>H'=H/\∀C,SqL K H a C->C[i]?=aa x,λi H=>∃C,SqL K H a C/\Z C<=i)
def Itt(K:aU)(a:Addr):It:=
 (λi H=>∃C x,SqT K H a C/\C[i]?=aa x,λi H x H'=>H'=H/\∀C,SqT K H a C->C[i]?=aa x,λi H=>∃C,SqT K H a C/\Z C<=i)
def Itr(lo:Int)(n:Nat):It:=(λi _=>i<n,λi H x H'=>H'=H/\x=.int (lo+i),λi _=>n<=i)
def Md(a it:Addr):kL P w K tg (Itl K a) [it] it (λi h=>h.IsListIter it a i) where
 mem:=by simp
 obj:=λi h st b hb=>by
  have e:b=it:=by simpa using hb
  subst e;have(o,e,c,d):=st;show⟨o,e,λv z=>by rw[d]at z;nomatch z⟩
 keep:=λi h h' st k=>st.at λo e=>k it (by simp) o e
 item:=by
  intro X hP hw hK hc i U s E H X4 I hf st hg;subst hP hw hK;have(C,x,hq,hx):=hg;have(L,rv,p,hz):=I.list hq;have(u,hu,ru):=rv.get hx;have(f0,f1,f2,f3,f4,f5):=hf it (by simp);show wpAny_pyNext_list_item st p.isList (by simpa using hu) λh' d2 sb=>?_;have(o,e,c,d):=id d2;show(u,rfl,ur e c d (rfl) (x,H,(I.turned (λb o hb e=>(sb.2 b hb).trans e) f0 f1 f3 f4 f5),ru,(rfl,λys hy=>by rw[I.list_inj hy hq];show hx),d2,λb hb=>(hf b hb).1))
 done:=by
  intro X hP hw hK hc i U s E H X4 I hf st hg;subst hP hw hK;have(C,hq,hx):=hg;have(L,rv,p,hz):=I.list hq;have(f0,f1,f2,f3,f4,f5):=hf it (by simp);have hl:=rv.length;show wpAny_pyNext_list_end (I.ok.hd hc) st p.isList (by simp;lia) λh' eb=>(rfl,I.turned (λb o hb e=>eb b o hb e) f0 f1 f3 f4 f5)
 self:=λ_ _ _ _ _ st h=>wpAny_pyIter_listiter st h
def Mf(a it:Addr):kL P w K tg (Itt K a) [it] it (λi h=>h.IsTupleIter it a i) where
 mem:=by simp
 obj:=λi h st b hb=>by
  have e:b=it:=by simpa using hb
  subst e;have(o,e,c,d):=st;show⟨o,e,λv z=>by rw[d]at z;nomatch z⟩
 keep:=λi h h' st k=>st.at λo e=>k it (by simp) o e
 item:=by
  intro X hP hw hK hc i U s E H X4 I hf st hg;subst hP hw hK;have(C,x,hq,hx):=hg;have(L,rv,p,hz):=I.tuple hq;have(u,hu,ru):=rv.get hx;have(f0,f1,f2,f3,f4,f5):=hf it (by simp);show wpAny_pyNext_tuple_item st (p) (by simpa using hu) λh' d2 sb=>?_;have(o,e,c,d):=id d2;show(u,rfl,ur e c d (rfl) (x,H,(I.turned (λb o hb e=>(sb.2 b hb).trans e) f0 f1 f3 f4 f5),ru,(rfl,λys hy=>by rw[I.tuple_inj hy hq];show hx),d2,λb hb=>(hf b hb).1))
 done:=by
  intro X hP hw hK hc i U s E H X4 I hf st hg;subst hP hw hK;have(C,hq,hx):=hg;have(L,rv,p,hz):=I.tuple hq;have(f0,f1,f2,f3,f4,f5):=hf it (by simp);have hl:=rv.length;show wpAny_pyNext_tuple_end (I.ok.hd hc) st (p) (by simp;lia) λh' eb=>(rfl,I.turned (λb o hb e=>eb b o hb e) f0 f1 f3 f4 f5)
 self:=λ_ _ _ _ _ st h=>wpAny_pyIter_tupleiter st h
def Mg(it:Addr)(lo:Int)(n:Nat):kL P w K tg (Itr lo n) [it] it (λi h=>IsRangeIter h it (lo+(i:Nat)*1) ((n:Int)-(i:Nat)) 1) where
 mem:=by simp
 obj:=λi h st b hb=>by
  have e:b=it:=by simpa using hb
  subst e
  show⟨_,st,λv z=>by
   nomatch z⟩
 keep:=λi h h' st k=>k it (by simp) _ st
 item:=by
  intro X hP hw hK hc i U s E H X4 I hf st hg;have(f0,f1,f2,f3,f4,f5):=hf it (by simp);show(Walks.range (I.ok.hd hc) it lo 1 n).item i s _ _ hg st λv h' tk hv d2 kk=>?_;have(t,rfl):=hv
  have I1:Inv X U E H {s with heap:=h',toks:=tk}:=I.turned (λb o hb e=>kk b o (by simpa using hb) e) f0 f1 f3 f4 f5
  show(_,rfl,ur d2 rfl rfl (rfl) (.int _,H,I1,(t,?_),(rfl,rfl),d2,λb hb=>(hf b hb).1));rw[Int.mul_one]
 done:=by
  intro X hP hw hK hc i U s E H X4 I hf st hg;have(f0,f1,f2,f3,f4,f5):=hf it (by simp);show wpAny_pyNext_range_end (I.ok.hd hc) st (by have:n<=i:=hg;lia) λh' eb=>(rfl,I.turned (λb o hb e=>eb b o hb e) f0 f1 f3 f4 f5)
 self:=λ_ _ _ _ _ st h=>wpAny_pyIter_rangeiter st h
def x6(K:aU)(tl:TE):TI:=λE H R=>tl E H λx H1=>∃a,x=.ref a/\(∃C,SqL K H1 a C)/\R (Itl K a) H1
def Mh(K:aU)(tl:TE):TI:=λE H R=>tl E H λx H1=>∃a,x=.ref a/\(∃C,SqT K H1 a C)/\R (Itt K a) H1
variable{l:Expr}{tl:TE}
def x8(f:PE X l tl):PI X tg l (x6 X.K tl):=by
 intro U s E H R I h;show thn (f U s E H _ I h) λv s1 j=>?_;have(x,H1,c,m,i):=j;have(a,e,(C,g),q):=i;subst e;subst m;have(L,n,p,hz):=c.list g;show t8 p.isList ?_;show(s1.heap.objs.size,_,_,_,H1,rfl,c.kept λb o e=>bG _ e,Md a _,(_,cQ _ rfl,rfl,rfl),λb d=>?_,q);have e:b=s1.heap.objs.size:=by simpa using d
 subst e;show c.fpOk (aO _) (c.hok.fresh (aO _))
def Mi(f:PE X l tl):PI X tg l (Mh X.K tl):=by
 intro U s E H R I h;show thn (f U s E H _ I h) λv s1 j=>?_;have(x,H1,c,m,i):=j;have(a,e,(C,g),q):=i;subst e;subst m;have(L,n,p,hz):=c.tuple g;show wpAny_pyIter_tuple (p) ?_;show(s1.heap.objs.size,_,_,_,H1,rfl,c.kept λb o e=>bG _ e,Mf a _,(_,cQ _ rfl,rfl,rfl),λb d=>?_,q);have e:b=s1.heap.objs.size:=by simpa using d
 subst e;show c.fpOk (aO _) (c.hok.fresh (aO _))
def Mj{s:ah}{R:It->Hp->Prop}{lo hi:Int}{t u v:Tok}{c:Nat}(I:Inv X U E H s)(h1:-(2 ^ 62)<=lo)(h2:lo<2 ^ 62)(g:-(2 ^ 62)<=hi)(h:hi<2 ^ 62)
 (q:R (Itr lo (S (hi-lo))) H):wpAny (model X.prog X.w) X.A (pyIter (.ref s.heap.objs.size)) (PIE X U E tg R) X4 {s with heap:=s.heap.push {cls:=.type "range",data:=.fields #[.int lo t,.int hi u,.int 1 v]},toks:=c}:=by
 show wpAny_pyIter_range (IsRange.new ..) (small_one h1 h2 g h) ?_
 have a:Inv X U E H {s with heap:=s.heap.push {cls:=.type "range",data:=.fields #[.int lo t,.int hi u,.int 1 v]},toks:=c}:=I.kept λb o e=>bG _ e
 show((s.heap.push {cls:=.type "range",data:=.fields #[.int lo t,.int hi u,.int 1 v]}).objs.size,_,_,_,H,rfl,
  a.kept λb o e=>bG _ e,Mg _ lo (S (hi-lo)),?_,λb i=>?_,q)
 .have d:lo+((0:Nat):Int)*1=lo:=by simp
  have f:((S (hi-lo):Nat):Int)-((0:Nat):Int)=d8.Range.rangeSize lo hi 1:=by rw[rangeSize_one];split <;> lia
  rw[d,f];show cQ _ rfl
 .have e:b=(s.heap.push {cls:=.type "range",data:=.fields #[.int lo t,.int hi u,.int 1 v]}).objs.size:=by simpa using i
  subst e;show a.fpOk (aO _) (a.hok.fresh (aO _))
def Ml(ta:TA):TI:=λE H R=>ta E H λvs H1=>∃j:Int,vs=[.int j]/\-(2 ^ 62)<=j/\j<2 ^ 62/\R (Itr 0 (S j)) H1
variable{a:Expr}
def Mm{ta:TA}{p:Pos}(d:Gl X "range")(hm:X.mg "range"=ab)(ha:PA X [a] ta)(f:autoParam (aQ [a] X.env=[(af,eval a X.env,)]) Zb):PI X tg (.Call (.Name "range" p) [a] [] pos) (Ml ta):=by
 intro U s E H R I h;show Call_ (ig I d hm boot_range (ku (thn (ha pos U s E H _ I h) λus s1 (vs,H1,c,i,b)=>?_) f rfl));have(j,e,b,g,q):=b;subst e
 cases i with
 |cons r l=>
  cases l;have(t,rfl):=r;show call_range_1 (Mj c (by lia) (by lia) b g (by simpa using q))
def x9(c:TI)(g:TG)(tb:TS):TS:=λD E H=>c E H λJ H1=>∃W:Nat->Nat->St->Hp->Prop,(∃m,W 0 m E H1)/\∀i m E H,W i m E H ->
 (J.stop i H/\D.nx E H)\/(J.go i H/\∃N:St->Hp->Prop,(∀σ' H',N σ' H'->∃b,b<m/\W (i+1) b σ' H')/\∀x H',J.yld i H x H'->g x E H' λa H2=>tb {D with nx:=N,ct:=N,bk:=D.nx} a H2)
def ut(fp:LAd)(h:Heap):PNS:=fp.filterMap λb=>(h.get? b).map λo=>(b,o,)
variable{fp:LAd}
def uu{b:Addr}{o:Obj}(a:b∈fp)(e:h.get? b=aa o):(b,o,)∈ut fp h:=mem_filterMap.mpr (b,a,by rw[e];rfl)
def Mn{p:Addr×Obj}(a:p∈ut fp h):p.1∈fp/\h.get? p.1=aa p.2:=by
 have(b,c,e):=mem_filterMap.mp a
 cases q:h.get? b with
 |none=>rw[q]at e;nomatch e
 |some o=>
  grind
def Inv.pinned{s:ah}(I:Inv X U E H s)(c:∀b∈fp,ik X U H b)(g:∀b∈fp,∃o,s.heap.get? b=aa o/\∀v,o.data≠.cell v):Inv X (U++ut fp s.heap) E H s:=
 I.pins_of λp d=>(bw.mp d).elim (λz=>I.pin p (cq _ z)) λz=>by
  have(a,e):=Mn z;have(f,f1,f2,_):=c p.1 a
  grind
def Inv.unpinned{b:PNS}{s:ah}(I:Inv X (U++b) E H s):Inv X U E H s:=I.pins_of λp a=>I.pin p (cq _ (bX _ a))
variable{iter:Expr}{wi:TI}
def Fd{tb:TS}(C:PassesOwn (model X.prog X.w) X.A X.env X.xe)(hc:X.calm=ac)(hi:PI X tg iter wi)(hg:PG X tg g)(l:PSs X body tb)
 (hs:autoParam (∀x,lB iter X.env x=pure x) Zd):PS X (.For tg iter body [] pos) (x9 wi g tb):=by
 intro U s E H D I h;show wpAny_For (thn (hi U s E H _ I h) λv s1 h1=>thn h1 λitv s2 h2=>?_) hs;have(it,fp,tn,J,H2,e,I2,T,st2,f2,W,(m0,w0),Q):=h2;subst e;have p:∀{H':Hp},(∀b∈fp,H' b=ab)->∀b∈fp,ik X U H' b:=λhn b l=>(hn b l,(f2 b l).2);show codeAny_forLoop_any (λn s'=>∃i σ' H',Inv X U σ' H' s'/\tn i s'.heap/\(∀b∈fp,H' b=ab)/\W i n σ' H') ?_ m0 (0,E,H2,I2,st2,λb l=>(f2 b l).1,w0);rintro n s3 ⟨i,q,Y,I3,M,B,w3⟩
 rcases Q i n q Y w3 with⟨stop,qn⟩ |⟨go,N,hN,step⟩
 .show mM C (thn (T.done X rfl rfl rfl hc i U s3 q Y X.xe I3 (p B) M stop) λr s4 (hr,I4)=>?_);subst hr;show t9 (q,Y,I4,qn)
 .show mM C (thn (T.item X rfl rfl rfl hc i U s3 q Y X.xe I3 (p B) M go) λr s4 L=>?_);have(u,hr,h4):=L;subst hr;show mM C (thn h4 λ_ s5 L=>?_);have(x,H5,I5,r5,y5,z,fr5):=L;show mM C (thn (hg _ s5 q H5 x u _ (I5.pinned (p fr5) (T.obj _ _ z)) r5 (step x H5 y5)) λ_ s6 L=>?_);have(σ6,H6,I6,q6):=L;show mM C (thn (l _ s6 σ6 H6 _ I6 q6) λf s7 y=>?_)
  have again:∀{a:St} {c:Hp},Inv X _ a c s7->N a c->∃m,m<n/\∃i σ' H',Inv X U σ' H' s7/\tn i s7.heap/\(∀b∈fp,H' b=ab)/\W i m σ' H':=λ{a c} j G=>by
   have(m',hm,w7):=hN a c G;show(m',hm,i+1,a,c,j.unpinned,T.keep _ _ _ z λb l o e=>(j.pin _ (cq _ (cq _ (uu l e)))).1,λb l=>?_,w7);have(o,e,d):=T.obj _ _ z b l;show(j.pin _ (cq _ (cq _ (uu l e)))).2.1
  cases f with
  |next=>have(a,c,j,G):=y;show again j G
  |cont=>have(a,c,j,G):=y;show again j G
  |brk=>have(a,c,j,y):=y;show(a,c,j.unpinned,y)
  |ret v=>have(x7,a,c,j,r7,y):=y;show(x7,a,c,j.unpinned,r7,y)
nonrec def R2:=V->V->Hp->VK->Prop
def OpR(X:Cx)(f:Value->Value->Sem Value)(r:R2):Prop:=
 ∀(U:PNS) (s:ah) (E:St) (H:Hp) (x y:V) (v u:Value) (Q:VK),Inv X U E H s->aD x v->aD y u->r x y H Q ->
  wpAny (model X.prog X.w) X.A (f v u) (EP X U E Q) X.xe s
def UnR(X:Cx)(f:Value->Sem Value)(r:V->Hp->VK->Prop):Prop:=
 ∀(U:PNS) (s:ah) (E:St) (H:Hp) (x:V) (v:Value) (Q:VK),Inv X U E H s->aD x v->r x H Q ->
  wpAny (model X.prog X.w) X.A (f v) (EP X U E Q) X.xe s
def io(X:Cx)(f:Value)(r:LVv->Hp->VK->Prop):Prop:=
 ∀(U:PNS) (s:ah) (E:St) (H:Hp) (C:LVv) (us:LVa) (Q:VK),Inv X U E H s->aI C us->r C H Q ->
  wpAny (model X.prog X.w) X.A (call f us) (EP X U E Q) X.xe s
def Mo(X:Cx)(r:V->Hp->(Bool->Hp->Prop)->Prop):Prop:=
 ∀(U:PNS) (s:ah) (E:St) (H:Hp) (x:V) (v:Value) (Q:Bool->Hp->Prop),Inv X U E H s->aD x v->r x H Q ->
  wpAny (model X.prog X.w) X.A (truthy v) (TP X U E Q) X.xe s
def tOp(r:R2)(ta tb:TE):TE:=λE H Q=>ta E H λx H1=>tb E H1 λy H2=>r x y H2 Q
def tUn(r:V->Hp->VK->Prop)(ta:TE):TE:=λE H Q=>ta E H λx H1=>r x H1 Q
def rI(X5:Int->Int->Prop)(g:Int->Int->V):R2:=λx y H Q=>∃i j,x=.int i/\y=.int j/\X5 i j/\Q (g i j) H
def rI0(g:Int->Int->V):R2:=λx y H Q=>∃i j,x=.int i/\y=.int j/\Q (g i j) H
abbrev rU(g:Int->V):V->Hp->VK->Prop:=λx H Q=>∃i,x=.int i/\Q (g i) H
variable{f:Value->Value->Sem Value}
def ya(ha:PE X a ta)(i:PE X b tb){s:ah}{R:V->V->Hp->Prop}(I:Inv X U E H s)
 (h:ta E H λx H1=>tb E H1 λy H2=>R x y H2){Q:PRS}
 (j:∀v u s2 x y H2,Inv X U E H2 s2->aD x v->aD y u->R x y H2->wpAny (model X.prog X.w) X.A (f v u) Q X.xe s2):
  wpAny (model X.prog X.w) X.A (eval a X.env) (λv c=>wpAny (model X.prog X.w) X.A (eval b X.env) (λu d=>wpAny (model X.prog X.w) X.A (f v u) Q X.xe d) X.xe c) X.xe s:=by
 show thn (ha U s E H _ I h) λv s1 n=>?_;have(x,H1,e,p,l):=n;show thn (i U s1 E H1 _ e l) λu s2 (y,H2,g,q,m)=>(j v u s2 x y H2 g p q m)
def Fe{op:Operator}{r:R2}(e:OpR X (fS op) r)(ha:PE X a ta)(d:PE X b tb):PE X (.BinOp a op b pos) (tOp r ta tb):=by
 intro U s E H Q I h;show wpAny_BinOp (ya ha d I h λv u s2 x y H2 c f g q=>e U s2 E H2 x y v u Q c f g q)
def Mp{op:UnaryOp}{r:V->Hp->VK->Prop}(c:UnR X (unaryOp op) r)(ha:PE X a ta):PE X (.UnaryOp op a pos) (tUn r ta):=by
 intro U s E H Q I h;show UnaryOp_ (thn (ha U s E H _ I h) λv s1 (x,H1,b,e,d)=>c U s1 E H1 x v Q b e d)
def opI{X5:Int->Int->Prop}{g:Int->Int->Int}
 (rule:∀(i j:Int) (t u:Tok) (s:ah) (Q:PRS) (X4:PRS),X5 i j->Q (.int (g i j) s.toks) {s with toks:=s.toks+1}->wpAny (model X.prog X.w) X.A (f (.int i t) (.int j u)) Q X4 s):
  OpR X f (rI X5 λi j=>.int (g i j)):=by
 intro U s E H x y v u Q I b c h;have(i,j,rfl,rfl,a,q):=h;have(t,rfl):=b;have(t',rfl):=c;show rule i j t t' s _ _ a (.int _,H,I.tok _,(_,rfl),q)
def Ff{g:Int->Int->Int}
 (rule:∀(i j:Int) (t u:Tok) (s:ah) (Q:PRS) (X4:PRS),Q (.int (g i j) s.toks) {s with toks:=s.toks+1}->wpAny (model X.prog X.w) X.A (f (.int i t) (.int j u)) Q X4 s):
  OpR X f (rI0 λi j=>.int (g i j)):=by
 intro U s E H x y v u Q I a b h;have(i,j,rfl,rfl,q):=h;have(t,rfl):=a;have(t',rfl):=b;show rule i j t t' s _ _ (.int _,H,I.tok _,(_,rfl),q)
def uv{g:Int->Int->Bool}
 (rule:∀(i j:Int) (t u:Tok) (s:ah) (Q:PRS) (X4:PRS),Q (.bool (g i j)) s->wpAny (model X.prog X.w) X.A (f (.int i t) (.int j u)) Q X4 s):
  OpR X f (rI0 λi j=>.bl (g i j)):=by
 intro U s E H x y v u Q I a b h;have(i,j,rfl,rfl,q):=h;have(t,rfl):=a;have(t',rfl):=b;show rule i j t t' s _ _ (.bl _,H,I,rfl,q)
def rf(i j:Int):Prop:=0<j/\j<1073741824
def m8(i j:Int):Prop:=0<=j/\j<=1000000/\i.natAbs<2 ^ 64
def m9(i j:Int):Prop:=(-(2 ^ 64)<i/\i<2 ^ 64)\/(-(2 ^ 64)<j/\j<2 ^ 64)
variable{j:Int}
def m9.ok{i:Int}(h:m9 i j):IntMulOk i j:=by
 rcases h with⟨h1,h2⟩ |⟨h1,h2⟩
 .show .of_left (intBits_le_64 h1 h2)
 .show .of_right (intBits_le_64 h1 h2)
def Mq:OpR X (fS .Add) (rI0 λi j=>.int (i+j)):=Ff λ_ _ _ _ _ _ _ q=>add_int q
def Mr:OpR X (fS .Sub) (rI0 λi j=>.int (i-j)):=Ff λ_ _ _ _ _ _ _ q=>sub_int q
def Ms:OpR X (fS .FloorDiv) (rI rf λi j=>.int (i / j)):=opI λi j _ _ _ _ _ a q=>by
 have h1:=a.1;have h2:=a.2;show floordiv_int (by lia) (by rw[Int.fdiv_eq_ediv_of_nonneg i (by lia)];show q) (.inl (PyProof.noPylong_small (by lia)))
def Mt:OpR X (fS .Mod) (rI (λ_ j=>0<j) λi j=>.int (i % j)):=opI λi j _ _ _ _ _ a q=>by
 show mod_int' (by lia) (by rw[Int.fmod_eq_emod_of_nonneg i (by lia)];show q)
def Mu:OpR X (fS .Pow) (rI m8 λi j=>.int (i ^ S j)):=opI λ_ _ _ _ _ _ _ a q=>pow_int_small a.1 a.2.1 a.2.2 q
def unI{f:Value->Sem Value}{g:Int->Int}
 (rule:∀(i:Int) (t:Tok) (s:ah) (Q:PRS) (X4:PRS),Q (.int (g i) s.toks) {s with toks:=s.toks+1}->wpAny (model X.prog X.w) X.A (f (.int i t)) Q X4 s):
  UnR X f (rU λi=>.int (g i)):=by
 intro U s E H x v Q I a h;have(i,rfl,q):=h;have(t,rfl):=a;show rule i t s _ _ (.int _,H,I.tok _,(_,rfl),q)
def Mv:UnR X (unaryOp .USub) (rU λi=>.int (-i)):=unI λ_ _ _ _ _ q=>neg_int q
abbrev yb:V->V->Bool
 |.non,.non=>ac |.non,.int _=>ac |.int _,.non=>ac |.non,.bl _=>ac |.bl _,.non=>ac |.non,.str _=>ac |.str _,.non=>ac
 |.int _,.int _=>ac |.bl _,.bl _=>ac |.str _,.str _=>ac |.byt _,.byt _=>ac
 |.int _,.str _=>ac |.str _,.int _=>ac |.bl _,.str _=>ac |.str _,.bl _=>ac
 | _,_=>af
def rEq:R2:=λx y H Q=>yb x y=ac/\Q (.bl (decide (x=y))) H
def rNe:R2:=λx y H Q=>yb x y=ac/\Q (.bl (!decide (x=y))) H
def yc{i:Int}:decide (V.int i=V.int j)=(i==j):=by
 rw[iD];simp
def rg{i j:Bool}:decide (V.bl i=V.bl j)=(i==j):=by
 rw[iD];simp
def yd{i j:Str}:decide (V.str i=V.str j)=(i==j):=by
 rw[iD];simp
def Fg{i j:Array UInt8}:decide (V.byt i=V.byt j)=(i.toList==j.toList):=by
 rw[iD];cases i;cases j;simp
def bZ{s:ah}{Q:VK}{k a:Bool}(I:Inv X U E H s)(q:Q (.bl k) H)(e:k=a):EP X U E Q (.bool a) s:=by
 subst e;show(.bl k,H,I,rfl,q)
def Mw:OpR X (cg .Eq) rEq:=by
 intro U s E H x y v u Q I c a h;have(b,q):=h
 cases x with
 |non=>
  cases c
  cases y with
  |non=>subst a;show PySem.EqNone.eq_none_none (bZ I q (by rfl))
  |bl j=>subst a;show PySem.EqNone.eq_none_bool (bZ I q (by rfl))
  |int j=>have(t',rfl):=a;show PySem.EqNone.eq_none_int (bZ I q (by rfl))
  |str j=>have(t',rfl):=a;show PySem.EqNone.eq_none_str (bZ I q (by rfl))
  | _=>show absurd (b) bN
 |bl i=>
  subst c
  cases y with
  |non=>subst a;show PySem.EqNone.eq_bool_none (bZ I q (by simp))
  |bl j=>subst a;show eq_bool (bZ I q rg)
  |str j=>have(t',rfl):=a;show PySem.EqMixed.eq_bool_str (bZ I q (by simp))
  | _=>show absurd (b) bN
 |int i=>
  have(t,rfl):=c
  cases y with
  |non=>subst a;show PySem.EqNone.eq_int_none (bZ I q (by simp))
  |int j=>have(t',rfl):=a;show eq_int (bZ I q yc)
  |str j=>have(t',rfl):=a;show PySem.EqMixed.eq_int_str (bZ I q (by simp))
  | _=>show absurd (b) bN
 |str i=>
  have(t,rfl):=c
  cases y with
  |non=>subst a;show PySem.EqNone.eq_str_none (bZ I q (by simp))
  |bl j=>subst a;show PySem.EqMixed.eq_str_bool (bZ I q (by simp))
  |int j=>have(t',rfl):=a;show PySem.EqMixed.eq_str_int (bZ I q (by simp))
  |str j=>have(t',rfl):=a;show eq_str (bZ I q yd)
  | _=>show absurd (b) bN
 |byt i=>
  have(t,rfl):=c
  cases y with
  |byt j=>have(t',rfl):=a;show W.eq_bytes (bZ I q Fg)
  | _=>show absurd (b) bN
 | _=>cases y <;> show absurd (show af=ac from b) bN
def Mx:OpR X (cg .NotEq) rNe:=by
 intro U s E H x y v u Q I c a h;have(b,q):=h
 cases x with
 |non=>
  cases c
  cases y with
  |non=>subst a;show PySem.EqNone.ne_none_none (bZ I q (by rfl))
  |bl j=>subst a;show PySem.EqNone.ne_none_bool (bZ I q (by rfl))
  |int j=>have(t',rfl):=a;show PySem.EqNone.ne_none_int (bZ I q (by rfl))
  |str j=>have(t',rfl):=a;show PySem.EqNone.ne_none_str (bZ I q (by rfl))
  | _=>show absurd (b) bN
 |bl i=>
  subst c
  cases y with
  |non=>subst a;show PySem.EqNone.ne_bool_none (bZ I q (by rfl))
  |bl j=>subst a;show ne_bool (bZ I q (congrArg not rg))
  |str j=>have(t',rfl):=a;show PySem.EqMixed.ne_bool_str (bZ I q (by simp))
  | _=>show absurd (b) bN
 |int i=>
  have(t,rfl):=c
  cases y with
  |non=>subst a;show PySem.EqNone.ne_int_none (bZ I q (by simp))
  |int j=>have(t',rfl):=a;show ne_int (bZ I q (congrArg not yc))
  |str j=>have(t',rfl):=a;show PySem.EqMixed.ne_int_str (bZ I q (by simp))
  | _=>show absurd (b) bN
 |str i=>
  have(t,rfl):=c
  cases y with
  |non=>subst a;show PySem.EqNone.ne_str_none (bZ I q (by simp))
  |bl j=>subst a;show PySem.EqMixed.ne_str_bool (bZ I q (by simp))
  |int j=>have(t',rfl):=a;show PySem.EqMixed.ne_str_int (bZ I q (by simp))
  |str j=>have(t',rfl):=a;show ne_str (bZ I q (congrArg not yd))
  | _=>show absurd (b) bN
 |byt i=>
  have(t,rfl):=c
  cases y with
  |byt j=>have(t',rfl):=a;show W.ne_bytes (bZ I q (congrArg not Fg))
  | _=>show absurd (show af=ac from b) bN
 | _=>cases y <;> show absurd (show af=ac from b) bN
def My:OpR X (cg .Lt) (rI0 λi j=>.bl (decide (i<j))):=uv λ_ _ _ _ _ _ _ q=>lt_int q
def Mz:OpR X (cg .LtE) (rI0 λi j=>.bl (decide (i<=j))):=uv λ_ _ _ _ _ _ _ q=>le_int q
def MA:OpR X (cg .Gt) (rI0 λi j=>.bl (decide (j<i))):=uv λ_ _ _ _ _ _ _ q=>gt_int q
def MB:OpR X (cg .GtE) (rI0 λi j=>.bl (decide (j<=i))):=uv λ_ _ _ _ _ _ _ q=>ge_int q
def MC:OpR X (cg .Is) (λx y H Q=>y=.non/\Q (.bl (decide (x=.non))) H):=by
 intro U s E H x y v u Q I a b h;have(rfl,q):=h;subst b;show is_none_gen (bZ I q ?_)
 cases x <;> first
  |(subst a;rfl)
  |(have(t,rfl):=a;rfl)
def MD:OpR X (cg .IsNot) (λx y H Q=>y=.non/\Q (.bl (!decide (x=.non))) H):=by
 intro U s E H x y v u Q I a b h;have(rfl,q):=h;subst b;show isnot_none_gen (bZ I q ?_)
 cases x <;> first
  |(subst a;rfl)
  |(have(t,rfl):=a;rfl)
def Fh(b:Expr)(h:autoParam (op≠.In) Zc)(h2:autoParam (op≠.NotIn) Zc):jU op b=af:=by
 have a:(op==CmpOp.In)=af:=by grind
 have c:(op==CmpOp.NotIn)=af:=by grind
 cases b <;> simp[jU,a,c]
variable{r:R2}
def ME(e:OpR X (cg op) r)(ha:PE X a ta)(d:PE X b tb)(hm:jU op b=af):PE X (.Compare a [op] [b] pos) (tOp r ta tb):=by
 intro U s E H Q I h;show wpAny_Compare1 (ya ha d I h λv u s2 x y H2 c f g q=>e U s2 E H2 x y v u Q c f g q) hm
def Fi(t:TE):TT:=λE H Q=>t E H λx H'=>∃k,x=.bl k/\Q k H'
def MF(l:OpR X (cg op) r)(ha:PE X a ta)(j:PE X b tb)(hm:jU op b=af):PT X (.Compare a [op] [b] pos) (Fi (tOp r ta tb)):=by
 intro U s E H Q I h
 show wpAny_isTrue_Compare1 (thn (ha U s E H _ I h) λv s1 (x,H1,f,q,m)=>thn (j U s1 E H1 _ f m) λu s2 (y,H2,g,w,n) =>
  thn (l U s2 E H2 x y v u _ g q w n) λc B (z,d,i,A,k,e,p)=>?_) hm
 subst e;subst A;show kB (d,i,p)
def MG(r c:R2)(ta tb tc:TE):TE:=λE H Q=>ta E H λx H1=>tb E H1 λy H2=>r x y H2 λz a=>∃k,z=.bl k /\
 (if k=ac then tc E a λd b=>c y d b Q else Q (.bl af) a)
variable{tc:TE}{op':CmpOp}{r':R2}
def MH(J:OpR X (cg op) r)(f:OpR X (cg op') r')(ha:PE X a ta)(C:PE X b tb)(G:PE X c tc)
 (hm:autoParam (lastMarks [op,op'] [b,c]=af) Zm):PT X (.Compare a [op,op'] [b,c] pos) (Fi (MG r r' ta tb tc)):=by
 intro U s E H Q I h
 show isTrue_chain (thn (ha U s E H _ I h) λv s1 (x,H1,p,r1,M)=>test_link (thn (C U s1 E H1 _ p M) λu s2 (y,H2,q,l,N) =>
  thn (J U s2 E H2 x y v u _ q r1 l N) λd s3 (z,g,i,r3,k,e,j)=>?_)) hm
 subst e;subst r3;show kB ?_
 cases k with
 |false=>
  have(k',e',L):=j;cases e'
  show ite_ff (g,i,L)
 |true=>
  show ite_tt (test_last (thn (G U s3 E g _ i j) λw' s4 (z',m,w,r4,T)=>thn (f U s4 E m y z' u w' _ w l r4 T) λd' s5 q_=>?_));have(z2,n,A,r5,k2,B,Y):=q_;subst B;subst r5;show kB (n,A,Y)
def yf(K:aU)(x:V)(H:Hp)(k:Bool):Prop:=
 match x with
 |.non=>k=af
 |.bl b=>k=b
 |.int i=>k=(i != 0)
 |.str y=>y.length<=aX/\k=((y.length:Int) != 0)
 |.byt y=>y.size<=aX/\k=((y.size:Int) != 0)
 |.ref p=>(∃C,SqL K H p C/\k=!C.isEmpty)\/(∃C,SqT K H p C/\k=!C.isEmpty)\/∃kvs,H p=aa (.dK kvs)/\k=!kvs.isEmpty
 | _=>False
def MI{a:Type}{kvs:List (a×V)}{vs:List (a×Value)}(r:KV kvs vs):(!vs.isEmpty)=!kvs.isEmpty:=by
 cases r <;> rfl
variable{L:LVa}
def Fj(r:aI C L):(!L.toArray.isEmpty)=!C.isEmpty:=by
 cases r <;> simp
def rh:(aX:Nat)<2 ^ 63:=by rw[dJ];decide
def MJ:Mo X (λx H Q=>∃k,yf X.K x H k/\Q k H):=by
 intro U s E H x v Q I c h;have(k,e,q):=h;have l:=dJ
 cases x with
 |non=>
  subst c;have e':=e;subst e'
  show truthy_none (H,I,q)
 |bl b=>
  subst c;have e':=e;subst e'
  show kB (H,I,q)
 |int i=>
  have(t,rfl):=c;have e':=e;subst e'
  show PySem.P.truthy_int (H,I,q)
 |str y=>
  have(t,rfl):=c;obtain⟨j,e'⟩:y.length<=aX/\k=_:=e;subst e'
  show PySem.P.truthy_str (by lia) (H,I.tok _,q)
 |byt y=>
  have(t,rfl):=c;obtain⟨j,e'⟩:y.size<=aX/\k=_:=e;subst e'
  show W.truthy_bytes (by lia) (H,I.tok _,q)
 |ref p=>
  subst c;have e':=e
  rcases e' with⟨C,d,e'⟩ |⟨C,d,e'⟩ |⟨kvs,d,e'⟩
  .subst e';have(L,r,f,hz):=I.list d;have a:=r.length;show wpAny_truthy_list f.isList (by simp only[size_toArray];lia) (H,I.tok _,by rw[Fj r];show q)
  .subst e';have(L,r,f,hz):=I.tuple d;have a:=r.length;show truthy_tuple f (by simp only[size_toArray];lia) (H,I.tok _,by rw[Fj r];show q)
  .subst e';obtain⟨hz,g,vs,r,m⟩:Z kvs<=aX/\(p==hX)=af/\∃vs,KV kvs vs/\s.heap.DictOf (lK X.prog X.w) p vs:=I.hok p _ d;have a:=pc r
   show wpAny_truthy_dict g m (by lia) (H,I.tok _,by rw[MI r];show q)
 | _=>show(show False from e).elim
def MK(ha:PE X a ta)(d:∀b,isTrue a X.env b=(do let v <- b;gJ a.pos;eZ [v] (truthy v))):
  PT X a (λE H Q=>ta E H λx H'=>∃k,yf X.K x H' k/\Q k H'):=by
 intro U s E H Q I h;show isTrue_plain (thn (ha U s E H _ I h) λv s1 (x,H1,c,f,e)=>MJ U s1 E H1 x v Q c f e) (d _)
def ML:OpR X (fS .Add) (λx y H Q=>∃i j,x=.str i/\y=.str j/\i.length+j.length<=aX/\Q (.str (i++j)) H):=by
 intro U s E H x y v u Q I a b h;have(i,j,rfl,rfl,hz,q):=h;have(t,rfl):=a;have(t',rfl):=b;show add_str (λt' c=>(.str _,H,I.tok _,(_,rfl),q)) hz
def MM:OpR X (inplaceOp .Add) (λx y H Q=>∃i j,x=.str i/\y=.str j/\i.length+j.length<=aX/\Q (.str (i++j)) H):=by
 intro U s E H x y v u Q I a b h;have(i,j,rfl,rfl,hz,q):=h;have(t,rfl):=a;have(t',rfl):=b;show iadd_str (λt' c=>(.str _,H,I.tok _,(_,rfl),q)) hz
def lM{x:V}(r:aI [x] us):∃u,us=[u]/\aD x u:=by
 cases r with
 |cons a b=>cases b;show(_,rfl,a)
def MN{x:V}(r:aI [x,y] us):∃u a,us=[u,a]/\aD x u/\aD y a:=by
 cases r with
 |cons b c=>
  cases c with
  |cons d e=>cases e;show(_,_,rfl,b,d)
structure nh(h:Heap)(x dx X5:Addr)(mA:MGT):Prop where
 obj:h.get? x=aa (lI X5 dx)
 ns:h.Ns1 dx mA
 ne:dx≠x
variable{mA:MGT}
def MO{dx:Addr}(n:h.Ns1 dx mA):∃od,h.get? dx=aa od/\∀name,W.lookIn name od=aa (mA name):=by
 have(o,es,g,d,hd,c,_,hm):=n;show(o,d,λname=>?_);have e:=hm name;unfold nsFind findBy at e;rw[<- Array.find?_toList]at e;unfold W.lookIn;rw[hd];dsimp only;split
 .grind
 .rename_i q;rw[q]at e
  have a:es.toList.any (·.refKey)=af:=by
   rw[any_eq_false];intro y f;have(z,t,b):=c y (Array.mem_toList_iff.mp f);simp[DictEntry.refKey,b]
  grind
def nh.look{x dx X5:Addr}(I:nh h x dx X5 mA):∃od,W.InstAt h x (lI X5 dx) X5 (aa od)/\∀name,W.lookIn name od=aa (mA name):=
 let (od,ho,hl):=MO I.ns
 (od,(I.obj,rfl,rfl,ho),hl)
variable{x X5:Addr}{name:Str}{v:Value}
section
variable{s:ah}{dx:Addr}
def MP{a:Bool}{Q:PRS}(X:K.In s.heap)(I:nh s.heap x dx X5 mA)(c:kH K X5 name=ac)(d:lG K X5=ac)
 (ha:cw K (.ref X5) name=aa ab)(hv:mA name=aa v)(b:W.handedIn v=ac)(h:Q v {s with toks:=s.toks+1}):
  wpAny (model prog w) A (getAttr (.ref x) name a) Q X4 s:=by
 have(od,J,e):=I.look;show W.get_value X J (W.plainGet_of c).1 (W.findObj_own d ha rfl (by rw[e,hv])) b h
end
variable{f:Addr}{pl:Sem Bool}
def MQ{s:ah}{dx:Addr}{Q:Value×LVa->ah->Prop}(X:K.In s.heap)(I:nh s.heap x dx X5 mA)(a:kH K X5 name=ac)
 (b:cw K (.ref X5) name=aa (aa (.ref f)))(d:W.isFn K (.ref f)=ac)(hv:mA name=ab)(h:Q (.ref f,[.ref x],) s):
  wpAny (model prog w) A (hZ (.ref x) name pl) Q X4 s:=by
 have(od,J,c):=I.look;show W.method_fn X J (W.plainGet_of a).1 (W.plainGet_of a).2 b (beq_iff_eq.mp d) (by change(W.lookIn name od).map (·.isSome)=aa af;rw[c,hv];rfl) h
section
variable{s:ah}{dx:Addr}
def MR{ns:LSt}(X:K.In s.heap)(I:nh s.heap x dx X5 mA)
 (n:cw K (.ref X5) "__setattr__"=aa (aa (.builtin "object.__setattr__")))(m:mV K X5=ac)(q:W.takerIn K X5 name=aa ab)(l:lG K X5=ac)
 (r:PySem.Within mA ns)(p:Z ns<=aX)
 (h:∀h',nh h' x dx X5 (λy=>if y=name then aa v else mA y)->gj dx s.heap h'->Q () {s with heap:=h',toks:=s.toks+2}):
  wpAny (model prog w) A (setAttr (.ref x) name v) Q X4 s:=by
 have(od,J,z):=I.look;show W.set_plain X J n (W.osa_open X J m q λb=>?_);have(u,j,e):=W.any_some l;show ak (aE (ak (ak (wpAny_loadPart I.obj (ak (W.Looks.here (W.looks_clsIn X j) ?_))))));rw[e];show aE (ak (aE (ak ?_)));show wpAny_nsSet1 I.ns λh' a c=>?_;have(B,i,g,f,hdD,d):=a.count (PySem.Within.cons name v r);show ak (wpAny_lookBehind f (by rw[hdD];show pastItsLine_dict (cZ d (by rw[cB];lia))) (aE (h _ ((c.2 _ (eX I.ne)).trans I.obj,a,I.ne) c)))
end
variable{R:Result->ah->Prop}{kw:List (Str×Value)}
section
variable{s:ah}
def MS{vs:LVa}(X:K.In s.heap)(hm:mW K X5=ac)
 (hi:cw K (.ref X5) "__init__"=aa (aa (.ref f)))(a:W.typeIn K (.ref f)=aa (.type "function"))
 (h:gK (model prog w) (A.under (.builtin "type.__call__" (.ref X5::vs,kw))) (.call (.ref f) (.ref (s.heap.objs.size + 1)::vs,kw)) (W.InitBack (s.heap.objs.size + 1) R)
   {s with heap:=(s.heap.push lH).push (lI X5 s.heap.objs.size)}):
  gK (model prog w) A (.call (.ref X5) (vs,kw)) R s:=by
 show W.make_core (W.makes_of X hm) (W.looks_findIn X hi) (λself=>W.bind_fn X self a) (.inl rfl) h
end
abbrev dA(f:Str)(v:V):List (Str×V)->List (Str×V)
 | []=>[(f,v,)]
 |(g,x,)::r=>if g=f then (g,v,)::r else (g,x,)::dA f v r
def Fk(f g:Str)(v:V):∀fs:List (Str×V),(dA f v fs).lookup g=if g=f then aa v else fs.lookup g
 | []=>by
  change List.lookup g [_]=_
  grind
 |(k,x,)::r=>by
  rw[show dA f v _=(if k=f then _::r else _::dA f v r)from rfl]
  by_cases b:k=f
  .grind
  .rw[if_neg b]
   by_cases h:g=k
   .grind
   .have a:=beq_eq_false_iff_ne.mpr h;simp only[List.lookup,a];show(Fk f g v r)
def yg(f:Str)(v:V):∀fs:List (Str×V),f∈(dA f v fs).map (·.1)/\∀g,g∈fs.map (·.1)->g∈(dA f v fs).map (·.1)
 | []=>(by simp[dA],λg h=>by simp at h)
 |(k,x,)::r=>by
  have(a,b):=yg f v r;rw[show dA f v _=(if k=f then _::r else _::dA f v r)from rfl]
  grind
def Fm(f:Str)(v:V):∀fs:List (Str×V),Z (dA f v fs)<=Z fs+1
 | []=>by simp[dA]
 |(k,x,)::r=>by
  have a:=Fm f v r;rw[show dA f v _=(if k=f then _::r else _::dA f v r)from rfl]
  grind
variable{v:V}
def e8.some_of{o:Option Value}(r:e8 (aa v) o):∃u,o=aa u/\aD v u:=by
 cases o with
 |none=>show(r).elim
 |some u=>show(u,rfl,r)
def e8.none_of{o:Option Value}(r:e8 ab o):o=ab:=by
 cases o with
 |none=>rfl
 |some u=>show(r).elim
def MT(r:aD v u):W.handedIn u=ac:=by
 cases v with
 |non=>cases (r);rfl
 |bl b=>cases (r);rfl
 |int i=>have(t,e):=(r);subst e;rfl
 |str x=>have(t,e):=(r);subst e;rfl
 |byt b=>have(t,e):=(r);subst e;rfl
 |flt b=>have(t,e):=(r);subst e;rfl
 |ref a=>cases (r);rfl
 |ty n=>cases (r);rfl
variable{a:Addr}{fs:List (Str×V)}
def uw{dx:Addr}(hok:HOk P w H h)(e:H a=aa (.ins X5 dx fs)):∃mA,nh h a dx X5 mA/\(∀f,e8 (fs.lookup f) (mA f))/\PySem.Within mA (fs.map (·.1))/\Z fs<=1000/\H dx=aa (.own a):=by
 have(d,z,ne,b,mA,n,r,q):=(hok a _ e);show(mA,(b,n,ne),r,q,z,d)
structure Cls(K:aU)(X5:Addr):Prop where
 pg:kH K X5 ph=ac
 hd:lG K X5=ac
 po:mV K X5=ac
 sa:cw K (.ref X5) "__setattr__"=aa (aa (.builtin "object.__setattr__"))
def Cls.get(c:Cls K X5)(f:Str):kH K X5 f=ac:=c.pg
def cR(K:aU)(X5:Addr)(f:Str):Prop:=cw K (.ref X5) f=aa ab
variable{f:Str}
def cR.taker(n:cR K X5 f):W.takerIn K X5 f=aa ab:=by
 unfold W.takerIn;rw[show cw K _ f=aa ab from n];rfl
structure rj(K:aU)(X5:Addr)(m:Str)(f:Addr):Prop where
 at_:cw K (.ref X5) m=aa (aa (.ref f))
 fn:W.isFn K (.ref f)=ac
 kp:gm K (.ref f)=ac
def Fo{s:ah}{dx:Addr}{b:Bool}{Q:PRS}(I:Inv X U E H s)(e:H a=aa (.ins X5 dx fs))(c:Cls X.K X5)(n:cR X.K X5 f)(l:fs.lookup f=aa v)
 (h:∀u s',Inv X U E H s'->aD v u->Q u s'):wpAny (model X.prog X.w) A (getAttr (.ref a) f b) Q X4 s:=by
 have(mA,O,r,_,_,_):=uw I.hok e;have(u,d,ru):=e8.some_of (by rw[<- l];show r f);show MP I.kIn O (c.get f) c.hd n d (MT ru) (h u _ (I.tok _) ru)
variable{m:Str}
def Fp{s:ah}{dx:Addr}{g:Addr}{Q:Value×LVa->ah->Prop}(I:Inv X U E H s)(e:H a=aa (.ins X5 dx fs))(c:Cls X.K X5)(k:rj X.K X5 m g)(l:fs.lookup m=ab)
 (h:Q (.ref g,[.ref a],) s):wpAny (model X.prog X.w) A (hZ (.ref a) m pl) Q X4 s:=by
 have(mA,O,r,_,_,_):=uw I.hok e;show MQ I.kIn O (c.get m) k.at_ k.fn (e8.none_of (by rw[<- l];show r m)) h
def Fq{s:ah}{dx:Addr}(I:Inv X U E H s)(e:H a=aa (.ins X5 dx fs))(c:Cls X.K X5)(n:cR X.K X5 f)(p:Z fs<1000)(m:aD y u)
 (h:∀s',Inv X U E (upd H a (.ins X5 dx (dA f y fs))) s'->Q () s'):wpAny (model X.prog X.w) A (setAttr (.ref a) f u) Q X4 s:=by
 have(mA,O,r,wi,_,i):=uw I.hok e;have hz:Z (fs.map (·.1))<=aX:=by rw[az,dJ];lia
 show MR I.kIn O c.sa c.po n.taker c.hd wi hz λh' d sb=>h _ ?_;have hd:∃o,h'.get? dx=aa o:=let (o,_,_,e',_):=d.ns;(o,e');show I.write (by rw[e];show iK) (.inr i) (λb q j z=>(sb.2 b j).trans z) hd ?_;show(by rw[aN O.ne];show i,?_,O.ne,d.obj,_,d.ns,λg=>?_,λg l=>?_)
 .have:=Fm f y fs;lia
 .change e8 _ _;rw[Fk]
  by_cases q:g=f
  .rw[if_pos q,if_pos q];show m
  .grind
 .by_cases q:g=f
  .rw[q];show(yg f y fs).1
  .show(yg f y fs).2 g (wi g λz=>l ?_)
   grind
section
variable{s:ah}
def Inv.made(I:Inv X U E H s):Inv X U E (upd (upd H s.heap.objs.size (.own (s.heap.objs.size+1))) (s.heap.objs.size+1) (.ins X5 s.heap.objs.size []))
  {s with heap:=(s.heap.push lH).push (lI X5 s.heap.objs.size)}:=by
 have a:(s.heap.push lH).get? s.heap.objs.size=aa lH:=cQ s.heap rfl
 have c:((s.heap.push lH).push (lI X5 s.heap.objs.size)).get? (s.heap.objs.size+1)=aa (lI X5 s.heap.objs.size):=by
  have:=cQ (s.heap.push lH) (o:=lI X5 s.heap.objs.size) rfl
  simp_all
 have d:(s.heap.push lH).Ns s.heap.objs.size _:=(lH,#[],_,a,rfl,(λe f=>absurd f (by simp)),λ_=>rfl);show(I.laid (o:=.own _) (t':=s.toks) (λb u q=>bG _ q) (aO _) (_,a)).laid (λb u q=>bG _ q) (Nat.le_of_eq (ji _ _)) ?_;have ne:s.heap.objs.size≠s.heap.objs.size+1:=bY (di _);show(by rw[aN ne,be],cr _,ne,c,λ_=>ab,(Heap.Ns1.of_empty d).at λo q=>bG _ q,λ_=>iK,λy g=>absurd rfl g)
end
variable{env:Env}
def MU{s:ah}{Q:PRS}(b:oY e f env (eval e env)=eval e env)
 (h:wpAny (model prog w) A (eval e env) (λo a=>wpAny (model prog w) A (getAttr o f ac) Q X4 a) X4 s):wpAny (model prog w) A (eval (.Attribute e f pos) env) Q X4 s:=
 Attribute_any_ h (by rw[arm_eval_Attribute,b])
def MV(K:aU)(ta:TE)(f:Str):TE:=λE H Q=>ta E H λx H1=>∃a X5 dx fs v,x=.ref a/\H1 a=aa (.ins X5 dx fs)/\Cls K X5/\cR K X5 f/\fs.lookup f=aa v/\Q v H1
def Ft(K:aU)(ta b:TE)(f:Str):TS:=λD E H=>b E H λy H1=>ta E H1 λx H2=>∃a X5 dx fs,x=.ref a/\H2 a=aa (.ins X5 dx fs)/\Cls K X5/\cR K X5 f/\Z fs<1000 /\
 D.nx E (upd H2 a (.ins X5 dx (dA f y fs)))
def Fu(X:Cx)(op:Operator)(rd:V->V->Hp->VK->Prop):Prop:=
 ∀(U:PNS) (s:ah) (E:St) (H:Hp) (x y:V) (u v:Value) (Q:VK),Inv X U E H s->aD x u->aD y v->rd x y H Q->wpAny (model X.prog X.w) X.A (inplaceOp op u v) (EP X U E Q) X.xe s
def MW(K:aU)(ta e:TE)(rd:V->V->Hp->VK->Prop)(f:Str):TS:=λD E H=>ta E H λx H1=>∃a X5 dx fs v,x=.ref a/\H1 a=aa (.ins X5 dx fs)/\Cls K X5/\cR K X5 f/\fs.lookup f=aa v /\
 e E H1 λy H2=>rd v y H2 λz d=>∃c b,d a=aa (.ins X5 c b)/\Z b<1000/\D.nx E (upd d a (.ins X5 c (dA f z b)))
def Fv(j:PE X e ta)(i:oY e f X.env (eval e X.env)=eval e X.env):PE X (.Attribute e f pos) (MV X.K ta f):=by
 intro U s E H Q I h;show MU i (thn (j U s E H _ I h) λu s1 m=>?_);have(x,H1,b,p,a,X5,dx,fs,v,ex,g,c,n,l,q):=m;subst ex;obtain rfl:u=e7 a:=p;show Fo b g c n l λr s2 d ru=>(v,H1,d,ru,q)
variable{value:Expr}{tv:TE}
def yh{o:Expr}(ha:PE X o ta)(hv:PE X value tv)(i:gh value (aa (.Attribute o f bm)) pos.line X.env=pure af):PS X (.Assign [.Attribute o f bm] value pos) (Ft X.K ta tv f):=by
 intro U s E H D I h;show plainObj_wpAny_Assign_Attribute (thn (hv U s E H _ I h) λu s1 (y,H1,b,v,q)=>thn (ha U s1 E H1 _ b q) λj s2 p=>?_) i;have(x,H2,d,r,a,X5,dx,fs,ex,g,c,n,l,m):=p;subst ex;obtain rfl:j=e7 a:=r;show Fq d g c n l v λw e=>(E,_,e,m)
variable{gv:Pos}
def MX{o:Expr}{op:Operator}{rd:V->V->Hp->VK->Prop}(ha:PE X o ta)(hv:PE X value tv)(d:Fu X op rd):PS X (.AugAssign (.Attribute o f gv) op value pos) (MW X.K ta tv rd f):=by
 intro U s E H D I h;show wpAny_AugAssign_AttributeAny (thn (ha U s E H _ I h) λB s1 J=>?_);have(x,H1,e,L,a,X5,dx,fs,v,ex,r,c,n,l,q):=J;subst ex;obtain rfl:B=e7 a:=L;show Fo e r c n l λu s2 g ru=>thn (hv U s2 E H1 _ g q) λT Q (y,H2,i,M,C)=>thn (d U Q E H2 v y u T _ i ru M C) λw4 s4 (z,Y,j,N,p,w,b,A,G)=>(Fq j b c n A N λs5 m=>(E,_,m,G))
abbrev MY:V->V->Hp->VK->Prop:=λx y H Q=>∃i j,x=.int i/\y=.int j/\Q (.int (i+j)) H
def MZ:Fu X .Add MY:=by
 rintro U s E H x y u v Q I a b ⟨i,j,rfl,rfl,q⟩;have(t,rfl):=(a);have(t',rfl):=(b);show PyProof.Rows.iadd_int (.int _,H,I.tok _,(_,rfl),q)
inductive gN(K:aU)(H:Hp):V->Value->Prop where
 |non:gN K H .non (.type "NoneType")
 |bl (x:Bool):gN K H (.bl x) (.type "bool")
 |int (i:Int):gN K H (.int i) (.type "int")
 |str (x:Str):gN K H (.str x) (.type "str")
 |flt (x:UInt64):gN K H (.flt x) (.type "float")
 |lst {a:Addr} {C:LVv} (e:H a=aa (.lst C)):gN K H (.ref a) (.type "list")
 |frz {a:Addr} {o:Obj} {C:LVv} (e:H a=aa (.frz o (.lst C))):gN K H (.ref a) (.type "list")
 |tup {a:Addr} {C:LVv} (e:H a=aa (.tup C)):gN K H (.ref a) (.type "tuple")
 |dK {a:Addr} {kvs:List (Key×V)} (e:H a=aa (.dK kvs)):gN K H (.ref a) (.type "dict")
 |dT {a:Addr} {kvs:List (List Key×V)} (e:H a=aa (.dT kvs)):gN K H (.ref a) (.type "dict")
 |ins {a X5 dx:Addr} {fs:List (Str×V)} (e:H a=aa (.ins X5 dx fs)) (cl:Cls K X5) (ha:cw K (.ref X5) "__class__"=aa (aa (.builtin "object.__class__")))
   (hn:W.specialIn K (.builtin "object.__class__") "__get__"=aa (aa (.builtin "getset_descriptor.__get__"))) (htk:W.takesIn K (.builtin "object.__class__")=aa ac)
   (hm:W.mroIn K X5 (.type "object")=aa ac):gN K H (.ref a) (.ref X5)
variable{Q:PRS}{c:Value}{b:Bool}
section
variable{s:ah}
def M0{x:V}{u t:Value}(I:Inv X U E H s)(f:aD x u)(ty:gN X.K H x t)(e:W.kitOne X.K t c=aa b)(h:∀j,Q (.bool b) {s with toks:=j}):
  wpAny (model X.prog X.w) A (call (.builtin "isinstance") [u,c]) Q X4 s:=by
 cases ty with
 |non=>cases (f);show jk W.kitx_none I.kIn iK e (λz=>nomatch z) h
 |bl y=>cases (f);show jk W.kitx_bool I.kIn iK e (λz=>nomatch z) h
 |int i=>have(t,q):=(f);subst q;show jk W.kitx_int I.kIn iK e (λz=>nomatch z) h
 |str y=>have(t,q):=(f);subst q;show jk W.kitx_str I.kIn iK e (λz=>nomatch z) h
 |flt y=>have(t,q):=(f);subst q;show jk W.kitx_float I.kIn iK e (λz=>nomatch z) h
 | @lst a C d=>
  cases (f);have(_,_,n,_,h1):=(I.hok a _ d)
  show jk W.kitx_list I.kIn (_,h1,rfl) e (λz=>nomatch z) h
 | @frz a l C d=>
  cases (f);have(_,_,_,n,_,h1):=(I.hok a _ d)
  show jk W.kitx_list I.kIn (_,h1,rfl) e (λz=>nomatch z) h
 | @tup a C d=>
  cases (f);have(_,_,_,p):=(I.hok a _ d);have(o,h1,h2,_):=p
  show jk W.kitx_tuple I.kIn (o,h1,h2) e (λz=>nomatch z) h
 | @dK a kvs d=>
  cases (f);have(_,_,vs,_,p):=(I.hok a _ d);have(o,es,g,h1,h2,_):=p
  show jk W.kitx_dict I.kIn (o,h1,h2.1) e (λz=>nomatch z) h
 | @dT a kvs d=>
  cases (f);have(_,_,C,_,o,es,g,h1,h2,_):=(I.hok a _ d)
  show jk W.kitx_dict I.kIn (o,h1,h2.1) e (λz=>nomatch z) h
 | @ins a X5 dx fs d cl ha hn htk hm=>
  cases (f);have(mA,O,_):=uw I.hok d;have(od,J,_):=O.look;show jk (W.kitx_own (cl.get _) cl.hd ha hn htk hm) I.kIn J e (λz=>nomatch z) h
end
structure bD(k:Nat)(A:ca):Prop where
 hd:A.handled=ab
 dp:A.depth+3*k+5<recursionLimit
 un:A.units+16*k+200<cLine
def bD.mono{j k:Nat}(r:bD k A)(h:j<=k):bD j A:=(r.hd,by have:=r.dp;lia,by have:=r.un;lia)
def bD.deeper{k:Nat}(r:bD (k+1) A)(env:Env):bD k (A.deeper env):=
 (r.hd,by have:=r.dp;change A.depth+1+3*k+5<_;lia,by have:=r.un;change A.units+3+16*k+200<_;lia)
def M1:(A.under (.builtin "type.__call__" (.ref X5::us,kw))).depth=A.depth+1:=by
 first |rfl |simp[ca.under]
def M3:(A.under (.builtin "type.__call__" (.ref X5::us,kw))).units=A.units+1:=by
 first |rfl |simp[ca.under]
def bD.make{k:Nat}(r:bD (k+1) A)(X5:Addr)(us:LVa)(kw:List (Str×Value)):bD k (A.under (.builtin "type.__call__" (.ref X5::us,kw))):=
 (r.hd,by have:=r.dp;rw[M1];lia,by have:=r.un;rw[M3];lia)
def bD.depth{k:Nat}(r:bD k A):A.depth<recursionLimit:=by have:=r.dp;lia
def bD.units{k:Nat}(r:bD k A):A.units+64<cLine:=by have:=r.un;lia
def ip:TA:=λ_ H Q=>Q [] H
def jp(ta:TE)(tr:TA):TA:=λE H Q=>ta E H λx H1=>tr E H1 λC H2=>Q (x::C) H2
def d9:PA X [] ip:=λ_ _ _ _ H Q I h=>xF ([],H,I,.nil,h)
def e9{t:TA}(ha:PE X e te)(hr:PA X es t)(c:autoParam (StE X e es) Zb):PA X (e::es) (jp te t):=by
 intro pos U s E H Q I h;rw[c];show jh (thn (ha U s E H _ I h) λu s1 (x,H1,a,g,d)=>(thn (hr pos U s1 E H1 _ a d) λus s2 (C,H2,b,i,f)=>(x::C,H2,b,.cons g i,f)))
def M4(t:TA):TE:=λE H Q=>t E H λC H1=>Z C<=aX/\∀p,H1 p=ab->Q (.ref p) (upd H1 p (.tup C))
def yi(t:TA):TE:=λE H Q=>t E H λC H1=>Z C<=aX/\∀p,H1 p=ab->Q (.ref p) (upd H1 p (.lst C))
def M5{t:TA}{x1}(h:PA X es t):PE X (.Tuple es x1 pos) (M4 t):=by
 intro U s E H Q I c;show wpAny_Tuple_spliced (thn (h pos U s E H _ I c) λus s1 (C,H1,a,r,z,q)=>(by rw[<- r.length];show z,?_));show(.ref s1.heap.objs.size,upd H1 s1.heap.objs.size _,a.laid (λb u e=>bG _ e) (aO _) ?_,rfl,q _ (a.hok.fresh (aO _)));show(z,us,r,(_,cQ _ rfl,rfl,_,rfl))
def ux{t:TA}(h:PA X es t):PE X (.List es pos) (yi t):=by
 intro U s E H Q I c;show wpAny_List_spliced (thn (h pos U s E H _ I c) λus s1 (C,H1,a,r,z,q)=>(by rw[<- r.length];show z,?_));show(.ref s1.heap.objs.size,upd H1 s1.heap.objs.size _,a.laid (λb u e=>bG _ e) (aO _) ?_,rfl,q _ (a.hok.fresh (aO _)));show(z,us,0,r,cQ _ rfl)
nonrec def Sp:=LVv->Hp->VK->XK->Prop
nonrec def CXT:=List Env->Hp->ah->XK->PRS
structure ni(P:ci)(w:World)(K:aU)(mg:MGT)(base:Heap)(A:ca)(outer:List Env)(s:ah)(H:Hp):Prop where
 frames:A.frames=aa outer
 mod:Mod K mg base
 bs:∀b o,base.get? b=aa o->s.heap.get? b=aa o/\H b=ab
 bsz:base.objs.size<=s.heap.objs.size
 funs:s.heap.FunFrames base outer
 frf:∀b∈frs outer,H b=ab
 hok:HOk P w H s.heap
 bare:kz s.gens
def CE(outer:List Env)(P:ci)(w:World)(H:Hp)(s:ah)(Q:VK)(u:Value)(s':ah):Prop:=
 ∃v H',s'.os=s.os/\kz s'.gens/\Un (frs outer) [] H H' s.heap s'.heap/\HOk P w H' s'.heap/\aD v u/\Q v H'
def CR(CX:CXT)(outer:List Env)(P:ci)(w:World)(H:Hp)(s:ah)(Q:VK)(X4:XK)(r:Result)(s':ah):Prop:=
 match r with
 |.ok (.ret u)=>CE outer P w H s Q u s'
 |.ok _=>False
 |.error e=>CX outer H s X4 e s'
structure cD(P:ci)(w:World)(K:aU)(mg:MGT)(base:Heap)(CX:CXT)(k:Nat)(f:Addr)(fd:c6)(ps:LSt)(sp:Sp):Prop where
 len:∀vs H Q X4,sp vs H Q X4->Z vs=Z ps
 run:∀(A:ca) (outer:List Env) (s:ah) (H:Hp) (args:Args) (us:LVa) (vs:LVv) (Q:VK) (X4:XK),bD k A->ni P w K mg base A outer s H->BindsTo s fd args (ps.zip us)->aI vs us->sp vs H Q X4 ->
  gK (model P w) A (.call (.ref f) args) (CR CX outer P w H s Q X4) s
variable{mg:MGT}{base:Heap}{CX:CXT}{f:Addr}{fd:c6}{ps:LSt}{sp:Sp}
def cD.imp{k:Nat}{a:Sp}(F:cD P w K mg base CX k f fd ps sp)
 (h:∀vs H Q X4,a vs H Q X4->sp vs H Q X4):cD P w K mg base CX k f fd ps a:=
 (λvs H Q X4 q=>F.len vs H Q X4 (h _ _ _ _ q),λA outer s H args us vs Q X4 hr c b hv d=>F.run A outer s H args us vs Q X4 hr c b hv (h _ _ _ _ d))
variable{outer:List Env}
def ni.make{s:ah}(e:ni P w K mg base A outer s H)(X5:Addr)(us:LVa)(kw:List (Str×Value)):
  ni P w K mg base (A.under (.builtin "type.__call__" (.ref X5::us,kw))) outer s H:=⟨by first |show e.frames |(simpa[ca.under]using e.frames),e.mod,e.bs,e.bsz,e.funs,e.frf,e.hok,e.bare⟩
def Inv.env0{s:ah}(I:Inv X U E H s):ni X.prog X.w X.K X.mg X.base X.A X.stack s H:=
 (I.ok.frames,I.ok.mod,I.bs,cZ I.ok.bsz I.sz,I.stack,I.stkFree,I.hok,I.bare)
variable{Q:VK}
def Inv.after{s:ah}(I:Inv X U E H s)(h:CE X.stack X.prog X.w H s Q u s'):EP X U E Q u s':=by
 have(v,H',os,bare,un,hok,r,q):=h;have(c,g,d,t,a):=s';obtain rfl:a=s.os:=os;show(v,H',I.call un hok bare (λb z=>absurd z (by simp)),r,q)
def yj(sp:Sp)(a:LVv)(X4:XK)(t:TA):TE:=λE H Q=>t E H λvs H1=>sp (vs++a) H1 Q X4
def uz(X5:Addr)(m:Str)(sp:Sp)(b:LVv)(X4:XK)(ta:TE)(t:TA):TE:=λE H Q=>ta E H λx H1=>∃a dx fs,x=.ref a/\H1 a=aa (.ins X5 dx fs)/\fs.lookup m=ab /\
 t E H1 λvs H2=>sp (x::(vs++b)) H2 Q X4
def Fw(X5:Addr)(sp:Sp)(a:LVv)(X4:XK)(t:TA):TE:=λE H Q=>t E H λvs H1=>∀x dx,H1 x=ab->H1 dx=ab->dx≠x ->
 sp (.ref x::(vs++a)) (upd (upd H1 dx (.own x)) x (.ins X5 dx [])) (λv H2=>v=.non/\Q (.ref x) H2) X4
def dZ(K:aU)(fd:c6)(ps:LSt)(ds:LVa):Prop:=
 ∀(s:ah) (us:LVa),K.In s.heap->Z (us++ds)=Z ps->BindsTo s fd (us,[]) (ps.zip (us++ds))
def dZ.all(h:∀us:LVa,Z us=Z ps->bindArgs fd (us,[])=pure (ps.zip us)):dZ K fd ps []:=λs us _ a=>by
 rw[bT]at a ⊢;show .of_eq (h us a)
def nj(CX:CXT)(X:Cx)(X4:XK):Prop:=∀(U:PNS) (E:St) (H:Hp) (s:ah) (e:Value) (s':ah),Inv X U E H s->CX X.stack H s X4 e s'->X.xe e s'
variable{eL vs:LVv}{ds:LVa}{X4:XK}
def uA{k:Nat}{s:ah}(F:cD X.prog X.w X.K X.mg X.base CX k f fd ps sp)(hr:bD k X.A)(d:dZ X.K fd ps ds)(hd:aI eL ds)(i:nj CX X X4)
 (I:Inv X U E H s)(r:aI vs us)(h:sp (vs++eL) H Q X4):wpAny (model X.prog X.w) X.A (call (.ref f) us) (EP X U E Q) X.xe s:=by
 have b:=r.append hd;have g:Z (us++ds)=Z ps:=by rw[<- b.length];show F.len _ _ _ _ h
 show wpAny_call (lC (F.run X.A X.stack s H (us,[]) _ _ Q X4 hr I.env0 (d s us I.kIn g) b h) λr s' a=>?_)
 cases r with
 |error e=>show i U E H s e s' I a
 |ok c=>
  cases c with
  |ret u=>show I.after a
  |next=>show g6 a
  |brk=>show g6 a
  |cont=>show g6 a
variable{x:Str}{p:Pos}
def py{k:Nat}{t:TA}(F:cD X.prog X.w X.K X.mg X.base CX k f fd ps sp)(hr:bD k X.A)(i:Gl X x)(hm:X.mg x=aa (.ref f))(j:gm X.K (.ref f)=ac)(d:dZ X.K fd ps ds)(hd:aI eL ds)(l:nj CX X X4)
 (ha:PA X (e::es) t)(a:autoParam (NDb x) Zc)(g:autoParam (StE X e es) Zb)(b:autoParam (BkE X pos es) Zb):
  PE X (.Call (.Name x p) (e::es) [] pos) (yj sp eL X4 t):=by
 intro U s E H Q I h;show jd (xT I i hm ?_ a);show W.callWith_K I.ok.mod.kin j (thn (ha pos U s E H _ I h) λus s1 (vs,H1,c,r,q)=>(c.kIn,(uA F hr d hd l c r q))) g b
variable{apos:Pos}
def ym{k:Nat}{o:Expr}{t:TA}(p:PE X o ta)(c:Cls X.K X5)(hm:rj X.K X5 m f)(F:cD X.prog X.w X.K X.mg X.base CX k f fd ps sp)(hr:bD k X.A)(n:dZ X.K fd ps ds)(hd:aI eL ds)(y:nj CX X X4)(ha:PA X (e::es) t)
 (d:autoParam (StE X e es) Zb)(b:autoParam (BkE X pos es) Zb)
 (v:autoParam (eval (.Call (.Attribute o m apos) (e::es) [] pos) X.env=(do
   let ov <- eval o X.env
   gJ apos.atName
   let (f,first,) <- eZ [ov] (hZ ov m pl)
   jX pos f first (cj pos (aQ (e::es) X.env)) (iH pos (iG [] X.env)))) Zb):
  PE X (.Call (.Attribute o m apos) (e::es) [] pos) (uz X5 m sp eL X4 ta t):=by
 intro U s E H Q I h;show W.methodCall_KW (thn (p U s E H _ I h) λu s1 B=>?_) v;have(x,H1,g,C,a,dx,fs,ex,j,l,q):=B;subst ex;obtain rfl:u=e7 a:=C;show Fp g j c hm l ?_;show W.callWith_K I.ok.mod.kin hm.kp (thn (ha pos U s1 E H1 _ g q) λus s2 (vs,H2,i,r,z)=>(i.kIn,(uA (vs:=.ref a::vs) F hr n hd y i (.cons rfl r) z))) d b
def yn{k:Nat}{o:Expr}(g:PE X o ta)(c:Cls X.K X5)(hm:rj X.K X5 m f)(F:cD X.prog X.w X.K X.mg X.base CX k f fd ps sp)(hr:bD k X.A)(e:dZ X.K fd ps ds)(hd:aI eL ds)(j:nj CX X X4)
 (i:autoParam (eval (.Call (.Attribute o m apos) [] [] pos) X.env=(do
   let ov <- eval o X.env
   gJ apos.atName
   let (f,first,) <- eZ [ov] (hZ ov m pl)
   jX pos f first (cj pos (aQ [] X.env)) (iH pos (iG [] X.env)))) Zb):
  PE X (.Call (.Attribute o m apos) [] [] pos) (uz X5 m sp eL X4 ta ip):=by
 intro U s E H Q I h;show W.methodCall_KW (thn (g U s E H _ I h) λu s1 n=>?_) i;have(x,H1,b,p,a,dx,fs,ex,d,l,q):=n;subst ex;obtain rfl:u=e7 a:=p;show Fp b d c hm l (W.callWith_K0 b.kIn hm.kp (uA (vs:=[.ref a]) F hr e hd j b (.cons rfl .nil) q))
structure Mk(K:aU)(X5 f:Addr):Prop where
 makes:mW K X5=ac
 init:cw K (.ref X5) "__init__"=aa (aa (.ref f))
 fn:W.isFn K (.ref f)=ac
 kp:gm K (.ref X5)=ac
def M6{k:Nat}{s:ah}(X1:Mk X.K X5 f)(F:cD X.prog X.w X.K X.mg X.base CX k f fd ps sp)(hr:bD (k+1) X.A)(l:dZ X.K fd ps ds)(hd:aI eL ds)
 (n:nj CX X X4)(I:Inv X U E H s)(r:aI vs us)
 (h:∀x dx,H x=ab->H dx=ab->dx≠x->sp (.ref x::(vs++eL)) (upd (upd H dx (.own x)) x (.ins X5 dx [])) (λv H2=>v=.non/\Q (.ref x) H2) X4):
  wpAny (model X.prog X.w) X.A (call (.ref X5) us) (EP X U E Q) X.xe s:=by
 have c:=h _ s.heap.objs.size (I.hok.fresh (ko _)) (I.hok.fresh (aO _)) (bY (di _));have b:=Inv.made (X5:=X5) I;have d:aI (V.ref _::_) (e7 (s.heap.objs.size+1)::_):=.cons rfl (r.append hd)
 have m:Z (e7 (s.heap.objs.size+1)::us++ds)=Z ps:=by
  have e:=d.length;rw[F.len _ _ _ _ c]at e;show e.symm
 show wpAny_call (MS I.kIn X1.makes X1.init (beq_iff_eq.mp X1.fn) (lC (F.run _ X.stack _ _ (e7 _::us,[]) _ _ _ X4 (hr.make X5 us [])
  (b.env0.make X5 us []) (l _ _ b.kIn m) d c) λr s' a=>?_))
 cases r with
 |error e=>show n U E _ _ e s' b a
 |ok j=>
  cases j with
  |ret u=>
   have(v,H',g,q,i,p):=b.after a;subst i
   show(q,(V.ref _,H',g,rfl,p))
  |next=>show g6 a
  |brk=>show g6 a
  |cont=>show g6 a
def Fx{k:Nat}{t:TA}(X1:Mk X.K X5 f)(F:cD X.prog X.w X.K X.mg X.base CX k f fd ps sp)(hr:bD (k+1) X.A)(i:Gl X x)(hm:X.mg x=aa (.ref X5))(d:dZ X.K fd ps ds)(hd:aI eL ds)(j:nj CX X X4)
 (ha:PA X (e::es) t)(a:autoParam (NDb x) Zc)(g:autoParam (StE X e es) Zb)(b:autoParam (BkE X pos es) Zb):
  PE X (.Call (.Name x p) (e::es) [] pos) (Fw X5 sp eL X4 t):=by
 intro U s E H Q I h;show jd (xT I i hm ?_ a);show W.callWith_K I.ok.mod.kin X1.kp (thn (ha pos U s E H _ I h) λus s1 (vs,H1,c,r,q)=>(c.kIn,(M6 X1 F hr d hd j c r q))) g b
structure aB(N P:LSt)(sc:Scope):Prop where
 kind:sc.kind=.function
 co:sc.isCoroutine=af
 gen:sc.isGenerator=af
 nd:N.Nodup
 pre:N.take (Z P)=P
 par:∀x∈P,sc.names.lookup x=aa .local\/sc.names.lookup x=aa .cell
 nofree:∀y∈sc.names,y.2≠.free
def Fy{kindOf:Str->Option gi}{x:Str}:∀{binds:List (Str×Value)} {m:MGT},(∀v,(x,v,)∉binds)->bindL kindOf binds m x=m x
 | [],_,_=>rfl
 |(n,v,)::r,m,h=>by
  unfold bindL;rw[Fy λw a=>h w (bp _ a)];split
  .grind
  .rfl
def Fz{kindOf:Str->Option gi}{x:Str}:∀{binds:List (Str×Value)} {m:MGT},(∀v,(x,v,)∉binds)->bindC kindOf binds m x=m x
 | [],_,_=>rfl
 |(n,v,)::r,m,h=>by
  unfold bindC;rw[Fz λw a=>h w (bp _ a)];split
  .rfl
  .grind
def FA{kindOf:Str->Option gi}{x:Str}{v:Value}:∀{P:LSt} {vs:LVa} {i:Nat} {m:MGT},P.Nodup->P[i]?=aa x->vs[i]?=aa v->kindOf x=aa .local ->
  bindL kindOf (P.zip vs) m x=aa v
 | [],_,_,_,_,h,_,_=>by simp at h
 | _::_,[],_,_,_,_,h,_=>by simp at h
 |p::P,w::vs,0,m,nd,h1,h2,hk=>by
  simp at h1 h2;subst h1;subst h2;change bindL kindOf (_::P.zip vs) m p=_;dsimp only[bindL];rw[Fy λv hv=>(b8.mp nd).1 (of_mem_zip hv).1,if_pos hk]
  simp
 |p::P,w::vs,i+1,m,nd,h1,h2,hk=>by
  change bindL kindOf (_::P.zip vs) m x=_;show FA (b8.mp nd).2 (by simpa using h1) (by simpa using h2) hk
def FB{kindOf:Str->Option gi}{x:Str}{v:Value}:∀{P:LSt} {vs:LVa} {i:Nat} {m:MGT},P.Nodup->P[i]?=aa x->vs[i]?=aa v->kindOf x≠aa .local ->
  bindC kindOf (P.zip vs) m x=aa v
 | [],_,_,_,_,h,_,_=>by simp at h
 | _::_,[],_,_,_,_,h,_=>by simp at h
 |p::P,w::vs,0,m,nd,h1,h2,hk=>by
  simp at h1 h2;subst h1;subst h2;change bindC kindOf (_::P.zip vs) m p=_;dsimp only[bindC];rw[Fz λv hv=>(b8.mp nd).1 (of_mem_zip hv).1,if_neg hk]
  simp
 |p::P,w::vs,i+1,m,nd,h1,h2,hk=>by
  change bindC kindOf (_::P.zip vs) m x=_;show FB (b8.mp nd).2 (by simpa using h1) (by simpa using h2) hk
def start(N:LSt)(vs:LVv):St:=vs.map aa++hJ (Z N-Z vs) ab
abbrev iL(CX:CXT)(P:ci)(w:World)(K:aU)(mg:MGT)(base:Heap)(N:LSt)(qual:Str)(scope:Scope)(f:Addr)(cd:Value)(A:ca)(outer:List Env)(s:ah)(H:Hp)(X4:XK):Cx where
 prog:=P
 w:=w
 K:=K
 mg:=mg
 base:=base
 A:=A.deeper (gg qual scope s.heap.objs.size f cd)
 N:=N
 s₀:=s
 H₀:=H
 env:=gg qual scope s.heap.objs.size f cd
 outer:=outer
 stack:=gg qual scope s.heap.objs.size f cd::outer
 ex:=[]
 calm:=ac
 fn:=λ_=>ac
 pn:=[]
 xe:=λe s'=>wpAny (model P w) (A.deeper (gg qual scope s.heap.objs.size f cd)) (leaving (gg qual scope s.heap.objs.size f cd) e) (λ_ s''=>CX outer H s X4 e s'') (λe' s''=>CX outer H s X4 e' s'') s'
variable{n:Nat}
def FC{sc:Scope}(h:sc.names.lookup x=aa .cell):∃c,(cellsFrom n sc.names []).lookup x=aa c:=by
 show xz.mp (W.cellsFrom_some sc.names n [] (.inl h))
variable{qual:Str}{scope:Scope}
def M7{m:Value}{s s1:ah}
 (S:aB N ps scope)(hd:A.handled=ab)(e0:ni P w K mg base A outer s H)(I:Z vs=Z ps)(r:aI vs us)
 (x:InCallC s s.heap.objs.size (bindL (gg qual scope s.heap.objs.size f m).kindOf (ps.zip us) λ_=>ab) (cellsFrom (s.heap.objs.size+1) scope.names []) (bindC (gg qual scope s.heap.objs.size f m).kindOf (ps.zip us) λ_=>ab) s1):
  Inv (iL CX P w K mg base N qual scope f m A outer s H X4) [] (start N vs) H s1:=by
 have C:Z ps<=Z N:=by have:=congrArg List.length S.pre;rw[length_take]at this;lia
 have(h1,J,rfl,n):=x.done;have g:∀b:Addr,b∉(iL CX P w K mg base N qual scope f m A outer s H X4).ex:=λb z=>absurd (show b∈([]:LAd)from z) (by simp)
 show((e0.mod,S.kind,rfl,rfl,aO _,λy z c h1 h2=>?_,λy d=>?_,λy c _ h=>?_,λ_=>hd,ca.frames_deeper e0.frames,.inr (rfl,rfl),λb z=>absurd z (g b),e0.bs,e0.bsz,λb _ _=>g b,λb z=>absurd z (g b),e0.funs,e0.frf),
  rfl,e0.bare,Un.kept n,(_,x.toInCall.ns,λi y v h1 h2 G=>?_),λy c h=>(_,x.cell y c h),e0.hok.fresh (aO _),λy c h=>?_,λp j=>absurd (show p∈([]:List _)from j) (by simp),e0.hok.kept n,?_)
 .show name_of_addr x.apart (qV h1) (qV h2)
 .have d:=d
  rcases d with d |d
  .show FC d
  .show absurd rfl (S.nofree _ (qV d))
 .show fJ (x.above y c (qV h))
 .have hi:i<Z vs:=by
   unfold start at h2
   by_cases hi:i<Z vs
   .show hi
   .rw[oK (by simpa using hi)]at h2;rw[oM]at h2
    split at h2 <;> nomatch h2
  have ha:vs[i]?=aa v:=by
   unfold start at h2;rw[mw (by simpa using hi),cz]at h2
   cases e:vs[i]? with
   |none=>rw[e]at h2;nomatch h2
   |some a=>rw[e]at h2;cases h2;rfl
  have(u,B,E):=r.get ha
  have j:ps[i]?=aa y:=by
   rw[<- S.pre,List.getElem?_take_of_lt (by lia)];show h1
  have l:ps.Nodup:=by rw[<- S.pre];show S.nd.sublist (take_sublist _ _)
  show(u,E,?_)
  rcases S.par y (dX j)with k |k
  .show .inl (k,FA l j B k)
  .have(c,e):=FC k;show .inr (.inl k,c,e,?_);have q:=x.cell y c e;rw[FB l j B (by change scope.names.lookup y≠_;rw[k];decide)]at q;show q
 .show e0.hok.fresh (fJ (x.above y c (qV h)))
 .unfold start;change _=Z N;rw[aV,az,mx]
  lia
variable{an od:Option Addr}{osl:Array (Option Value)}
def FD{k:Nat}{params:Arguments}{dV kV doc pm cdv ct oc:Value}
  (E:K.lookup f=aa (oc,od,.func (jl name qual params body scope dV kV doc pm an cdv ct),osl))(h:W.codeIn K cdv qual=ac)(S:aB N ps scope)
 (len:∀vs H Q X4,sp vs H Q X4->Z vs=Z ps)
 (a:∀ (A:ca) (outer:List Env) (s:ah) (H:Hp) (vs:LVv) (Q:VK) (X4:XK),bD k (A.deeper (gg qual scope s.heap.objs.size f cdv))->sp vs H Q X4 ->
   ∃t,PSs (iL CX P w K mg base N qual scope f cdv A outer s H X4) body t/\t {nx:=λ_ H'=>Q .non H',rt:=Q} (start N vs) H):
  cD P w K mg base CX (k+1) f (jl name qual params body scope dV kV doc pm an cdv ct) ps sp:=by
 show(len,λA outer s H args us vs Q X4 hr e0 m r g=>?_);have j:=e0.mod.kin.keeps λb o e=>(e0.bs b o e).1
 have c:∀y∈ps.zip us,scope.names.lookup y.1=aa .local\/(scope.names.lookup y.1=aa .cell/\((cellsFrom (s.heap.objs.size+1) scope.names []).lookup y.1).isSome=ac):=λ(n,v) C=>by
  rcases S.par n (of_mem_zip C).1 with q |q
  .show .inl q
  .show .inr (q,W.cellsFrom_some _ _ _ (.inl q))
 show codeAny_call_function hr.depth (j _ _ E) rfl S.co S.gen rfl (W.codeRec_of j h) (m _ _ _ _ ?_);show wpAny_newFunctionEnv_cells S.kind c λenv p s1 x=>?_;subst p;show((e0.mod.nolimit.keeps λb o e=>(e0.bs b o e).1).keeps x.toInCall.keep,codeAny_func ?_);have(t,B,z):=a A outer s H vs Q X4 (hr.deeper _) g;have I:Inv (iL CX P w K mg base N qual scope f cdv A outer s H X4) [] _ H s1:=M7 S hr.hd e0 (len _ _ _ _ g) r x;show fR (B [] s1 _ H _ I z) (λl s' d=>?_) λe s' d=>d
 have fin:∀{σ':St} {H':Hp} {v:V} {u:Value},Inv (iL CX P w K mg base N qual scope f cdv A outer s H X4) [] σ' H' s'->aD v u->Q v H'->CE outer P w H s Q u s':=
  λ{σ' H' v u} J i q=>(v,H',J.os,J.bare,J.base,J.hok,i,q)
 cases l with
 |ret u=>
  have(v,σ',H',J,i,q):=d
  show fin J i q
 |next=>
  have(σ',H',J,q):=d
  show fin (v:=V.non) J rfl q
 |brk=>
  have(_,_,_,q):=d
  show g6 q
 |cont=>
  have(_,_,_,q):=d;show g6 q
def tCB(r:LVv->Hp->VK->Prop)(t:TA):TE:=λE H Q=>t E H λvs H1=>r vs H1 Q
variable{r:LVv->Hp->VK->Prop}
def FE{t:TA}{id:String}(d:io X (.builtin id) r)(g:Gl X x)(hm:X.mg x=ab)(hv:jW x=aa (.builtin id))(ha:PA X (e::es) t)(hn:autoParam (x ≠ "__name__") Zc)(a:autoParam (NDb x) Zc)
 (f:autoParam (StE X e es) Zb)(b:autoParam (BkE X pos es) Zb):PE X (.Call (.Name x p) (e::es) [] pos) (tCB r t):=by
 intro U s E H Q I h;show jd (ig I g hm hv (xA (thn (ha pos U s E H _ I h) λus s1 (vs,H1,c,j,i)=>d U s1 E H1 vs us Q c j i) f b) hn a)
variable{T:String}
def M8{t:TA}(d:io X (.type T) r)(g:Gl X x)(hm:X.mg x=ab)(hv:jW x=aa (.type T))(ha:PA X (e::es) t)(hn:autoParam (x ≠ "__name__") Zc)(a:autoParam (NDb x) Zc)
 (f:autoParam (StE X e es) Zb)(b:autoParam (BkE X pos es) Zb):PE X (.Call (.Name x p) (e::es) [] pos) (tCB r t):=by
 intro U s E H Q I h;show jd (ig I g hm hv (ku (thn (ha pos U s E H _ I h) λus s1 (vs,H1,c,j,i)=>d U s1 E H1 vs us Q c j i) f b) hn a)
end L2
namespace HT
open List
open PySem PyProof.Rows
open PySem.SeqAt
open PySem.AutoSeq1 (wpAny_loadPart')
open PySem.MeetsSeq PySem.MeetsSeq2 PySem.MeetsSeq3
abbrev sIx(n d:Nat):Option Int->Nat
 |none=>d
 |some v=>if v<0 then S (v+(n:Int)) else min v.toNat n
def sIx_none(n d:Nat):sIx n d ab=d:=rfl
def sIx_nat(n d k:Nat):sIx n d (aa (k:Int))=min k n:=by rfl
end HT
namespace L2
open List
open PySem PySem.Spec PyProof.Rows
nonrec def TO:=St->Hp->(Option Int->Hp->Prop)->Prop
def PO(X:Cx)(e:Option Expr)(t:TO):Prop:=
 ∀(U:PNS) (s:ah) (E:St) (H:Hp) (Q:Option Int->Hp->Prop),Inv X U E H s->t E H Q ->
  wpAny (model X.prog X.w) X.A (evalPart e X.env) (λu a=>∃o H',Inv X U E H' a/\IsPart u o/\Q o H') X.xe s
def M9:TO:=λ_ H Q=>Q ab H
def Na(t:TE):TO:=λE H Q=>t E H λx a=>∃i,x=.int i/\Q (aa i) a
variable{ns:LI0}
def Nb:∀{us:LVa},aI (ns.map V.int) us->gf us ns:=by
 induction ns with
 |nil=>intro us r;rw[map_nil]at r;cases r;show .nil
 |cons n ns a=>
  intro us r
  cases r with
  |cons b c=>
   have(t,e):=b;subst e;show .cons n t (a c)
variable{X:Cx}
def Nd:PO X ab M9:=by
 intro U s E H Q I h;show aE (ab,H,I,.none,h)
variable{e:Expr}{te:TE}
def Nf(h:PE X e te):PO X (aa e) (Na te):=by
 intro U s E H Q I c;show thn (h U s E H _ I c) λu s1 f=>?_;have(x,a,b,g,d):=f;have(i,rfl,q):=d;have(t,rfl):=g;show(aa i,a,b,.int i t,q)
variable{lo hi:Option Expr}
def SlR(X:Cx)(r:V->Option Int->Option Int->Hp->VK->Prop):Prop:=
 ∀(U:PNS) (s:ah) (E:St) (H:Hp) (x:V) (v vl a:Value) (lo hi:Option Int) (sl:Addr) (Q:VK),Inv X U E H s->aD x v->s.heap.IsSliceOf sl vl a .none->IsPart vl lo->IsPart a hi->r x lo hi H Q ->
  ∃T id,mQ (.type T) "__getitem__"=pure (aa (.builtin id))/\s.TypeIs v T/\wpAny (model X.prog X.w) X.A (getItem v (.ref sl)) (EP X U E Q) X.xe s
def tSl(r:V->Option Int->Option Int->Hp->VK->Prop)(te:TE)(tl d:TO):TE:=λE H Q=>te E H λx a=>tl E a λl b=>d E b λu c=>r x l u c Q
variable{tl th:TO}{pos p2:Pos}
def Ng{r:V->Option Int->Option Int->Hp->VK->Prop}(hr:SlR X r)(y:PE X e te)(A:PO X lo tl)(C:PO X hi th):PE X (.Subscript e (.Slice lo hi ab p2) pos) (tSl r te tl th):=by
 intro U s E H Q I h;show Subscript_ (thn (y U s E H _ I h) λv s1 c=>?_);have(x,g,j,Y,L):=c;show wpAny_Slice (thn (A U s1 E g _ j L) λvl s2 (l,i,m,G,M)=>thn (C U s2 E i _ m M) λd a c=>?_);have(u,f,n,J,N):=c;show aE ?_
 have p:Inv X U E f {a with heap:=a.heap.push {cls:=.type "slice",data:=.fields #[vl,d,.none]}}:=n.kept λb ob q=>bG _ q
 have(T,id,w,B,z):=hr U {a with heap:=a.heap.push {cls:=.type "slice",data:=.fields #[vl,d,.none]}} E f x v vl d l u a.heap.objs.size Q p Y (Heap.IsSliceOf.new ..) G J N
 show tail_any B w z (by with_unfolding_all rfl)
def rm(C:LVv)(lo hi:Option Int):LVv:=(C.drop (HT.sIx C.length 0 lo)).take (HT.sIx C.length C.length hi-HT.sIx C.length 0 lo)
def Nh(C:LVv)(lo hi:Option Int):Z (rm C lo hi)<=Z C:=by
 unfold rm;rw[length_take,length_drop]
 lia
def ixN(n:Nat)(i:Int):Option Nat:=if 0<=i then (if i<n then aa (S i) else ab) else if -(n:Int)<=i then aa (S (i+n)) else ab
def atI{a:Type}(C:List a)(i:Int):Option a:=(ixN C.length i).bind λj=>C[j]?
variable{n j:Nat}{i:Int}
def FF(h:ixN n i=aa j):seqIndex? i n=aa j/\j<n/\-(n:Int)<=i/\i<n:=by
 unfold ixN at h
 by_cases b:0<=i
 .rw[if_pos b]at h
  by_cases a:i<n
  .rw[if_pos a]at h;have e:=cP h;show(by rw[seqIndex_of b a,e],by lia,by lia,a)
  .rw[if_neg a]at h;nomatch h
 .rw[if_neg b]at h
  by_cases a:-n<=i
  .rw[if_pos a]at h;have e:=cP h;show(by rw[seqIndex_neg (by lia) a,e],by lia,a,by lia)
  .rw[if_neg a]at h;nomatch h
def FG{a:Type}{C:List a}{v:a}(h:atI C i=aa v):∃j,seqIndex? i (Z C)=aa j/\C[j]?=aa v/\j<Z C/\-(Z C:Int)<=i/\i<Z C:=by
 unfold atI at h
 cases e:ixN C.length i with
 |none=>rw[e]at h;nomatch h
 |some j=>
  rw[e]at h;have(b,h2,c,d):=FF e;show(j,b,h,h2,c,d)
def Ni{a:Type}{C:List a}{v:a}(h:C[j]?=aa v):atI C (j:Int)=aa v:=by
 have b:=(dh.mp h).1
 have e:ixN C.length j=aa j:=by
  unfold ixN;rw[if_pos (by lia),if_pos (by lia)];simp
 unfold atI;rw[e];show h
def FH(b:Expr):Prop:=∀o i,subscripted b af o i=operate [o,i] (getItem o i)
def IxR(X:Cx)(r:R2):Prop:=
 ∀(value a:Expr) (U:PNS) (s:ah) (E:St) (H:Hp) (x y:V) (v u:Value) (Q:VK),Inv X U E H s->aD x v->aD y u->r x y H Q ->
  subscripted a af v u=operate [v,u] (getItem v u)->wpAny (model X.prog X.w) X.A (subscriptTail value a v u) (EP X U E Q) X.xe s
def MtR(X:Cx)(id:String)(r:V->LVv->Hp->VK->Prop):Prop:=
 ∀(U:PNS) (s:ah) (E:St) (H:Hp) (x:V) (C:LVv) (v:Value) (us:LVa) (Q:VK),Inv X U E H s->aD x v->aI C us->r x C H Q ->
  wpAny (model X.prog X.w) X.A (call (.builtin id) (v::us)) (EP X U E Q) X.xe s
variable{r r':R2}
def IxR.or(h:IxR X r)(h':IxR X r'):IxR X (λx y H Q=>r x y H Q\/r' x y H Q):=by
 intro value a U s E H x y v u Q I c d q b
 rcases q with q |q
 .show h value a U s E H x y v u Q I c d q b
 .show h' value a U s E H x y v u Q I c d q b
variable{a b:Expr}{ta tb:TE}
def Nj(hr:IxR X r)(ha:PE X a ta)(e:PE X b tb)(f:FH b):PE X (.Subscript a b pos) (tOp r ta tb):=by
 intro U s E H Q I h;show Subscript_ (ya ha e I h λv u s2 x y c d g i q=>hr a b U s2 E c x y v u Q d g i q (f _ _))
def Nk(K:aU):R2:=λx y H Q=>∃p C i v,x=.ref p/\y=.int i/\SqL K H p C/\atI C i=aa v/\Q v H
def Nl(K:aU):R2:=λx y H Q=>∃p C i v,x=.ref p/\y=.int i/\SqT K H p C/\atI C i=aa v/\Q v H
def Nm:IxR X (Nk X.K):=by
 intro value e U s E H x y v u Q I J M h l;have(p,C,i,z,rfl,rfl,G,A,q):=h;subst J;have(t,rfl):=M;have(L,r,c,hz):=I.list G;have(j,a,h2,N,m,n):=FG A;have(w,f,d):=r.get h2;have B:=r.length;have hn:=rh;have fin:EP X U E Q w s:=(z,H,I,d,q)
 by_cases g:0<=i
 .have b:S i=j:=by
   rw[seqIndex_of g n]at a;show cP a
  show item_listR c.isList g (by lia) (by rw[b];simpa using f) fin l
 .have b:S (i+L.toArray.size)=j:=by
   rw[seqIndex_neg (by lia) m]at a;rw[size_toArray,<- B];show cP a
  show subscriptTail_builtinR c.isList.typeIs slot_list_getitem.lookup
   (wpAny_getItem_list_neg c.isList (by lia) (by rw[size_toArray] <;> lia) (by lia) (by rw[b];simpa using f) (rfl,fin)) l
def Nn:IxR X (Nl X.K):=by
 intro value b U s E H x y v u Q I m n h l;have(p,C,i,z,rfl,rfl,g,f,q):=h;subst m;have(t,rfl):=n;have(L,r,c,hz):=I.tuple g;have(j,e,h2,A,B,G):=FG f;have(w,d,a):=r.get h2;have hn:=rh;have fin:EP X U E Q w s:=(z,H,I,a,q)
 show subscriptTail_builtinR c.typeIs slot_tuple_getitem.lookup
  (getItem_tuple c (by lia) (by lia) (by rw[size_toArray,<- r.length];show e) (by simpa using d) (rfl,fin)) l
def No(L:LVa)(n j:Nat)(u:Value):ie (·.setIfInBounds j u) {cls:=.type "list",data:=.seq L.toArray n}={cls:=.type "list",data:=.seq (L.set j u).toArray n}:=by
 simp[ie]
variable{U:PNS}{E:St}{H:Hp}{p:Addr}{C:LVv}
def Inv.lst{s:ah}(I:Inv X U E H s)(h:H p=aa (.lst C)):
  ∃(L:LVa) (n:Nat),aI C L/\s.heap.get? p=aa {cls:=.type "list",data:=.seq L.toArray n}/\Z C<=aX:=by
 have(z,L,n,r,e):=I.hok p _ h;show(L,n,r,e,z)
variable{ys:LVv}{L dd:LVa}{n':Nat}
def Inv.lstUpd{s:ah}{f:Obj->Obj}(I:Inv X U E H s)(h:H p=aa (.lst C))
 (d:s.heap.get? p=aa {cls:=.type "list",data:=.seq L.toArray n})(a:f {cls:=.type "list",data:=.seq L.toArray n}={cls:=.type "list",data:=.seq dd.toArray n'})(r:aI ys dd)(hz:Z ys<=aX)(t:Nat):
  Inv X U E (upd H p (.lst ys)) {s with heap:=s.heap.update p f,toks:=t}:=by
 have e:(s.heap.update p f).get? p=aa {cls:=.type "list",data:=.seq dd.toArray n'}:=by
  rw[o8 f d (by rw[a] <;> rfl),a]
 show I.write (by rw[h];trivial) (.inl rfl) (λb u c q=>(o7 _ _ (eX c)).trans q) (_,e) (hz,dd,n',r,e)
abbrev yo:V->V->V->Hp->(Hp->Prop)->Prop:=λo i v H Q=>∃p C k j,o=.ref p/\i=.int k/\H p=aa (.lst C)/\ixN C.length k=aa j/\Q (upd H p (.lst (C.set j v)))
def yp:Fb X yo:=by
 intro U s E H o i v B A u Q I y x z h;have(p,C,k,j,rfl,rfl,m,w,q):=h;subst y;have(t,rfl):=x;have(L,n,r,d,hz):=I.lst m;have(a,h2,g,l):=FF w;have c:=r.length;have hn:=rh
 have e:Inv X U E _ {s with heap:=s.heap.update p _}:=
  I.lstUpd m d (No L n j u) (r.set z j) (by rw[iE];show hz) s.toks
 by_cases f:0<=k
 .have b:S k=j:=by
   rw[seqIndex_of f l]at a;show cP a
  show W.ki_setAt d f (by lia) (by rw[size_toArray,<- c];show l) (by rw[b];show(_,e,q))
 .have b:S (k+L.toArray.size)=j:=by
   rw[seqIndex_neg (by lia) g]at a;rw[size_toArray,<- c];show cP a
  show W.ki_setBack d (by lia) (by rw[size_toArray,<- c];show g) (by lia) (by rw[b];show(_,e,q))
def Np(lo hi:Option Int)(n:Nat):(mP lo hi ab n).1=((HT.sIx n 0 lo:Nat):Int)/\(mP lo hi ab n).2.1=((HT.sIx n n hi:Nat):Int)/\(mP lo hi ab n).2.2=1:=by
 show(?_,?_,rfl)
 .cases lo with
  |none=>simp[mP,HT.sIx]
  |some i=>
   simp only[mP,HT.sIx,Option.getD_none]
   grind
 .cases hi with
  |none=>simp[mP,HT.sIx]
  |some i=>
   simp only[mP,HT.sIx,Option.getD_none]
   grind
def Nq(L:LVa)(lo hi:Option Int):slicePick L.toArray lo hi ab=((L.drop (HT.sIx L.length 0 lo)).take (HT.sIx L.length L.length hi-HT.sIx L.length 0 lo)).toArray:=by
 have(a,h2,b):=Np lo hi L.toArray.size;unfold slicePick;rw[a,h2,b]
 simp only[sliceRange_one,pick_run] <;> rfl
abbrev Nr(K:aU):V->Option Int->Option Int->Hp->VK->Prop:=λx lo hi H Q=>∃a C,x=.ref a/\SqL K H a C/\∀p,H p=ab->Q (.ref p) (upd H p (.lst (rm C lo hi)))
def Nt:SlR X (Nr X.K):=by
 intro U s E H x v vl m lo hi sl Q I j e g i h;have(a,C,rfl,f,q):=h;subst j;have(L,r,d,hz):=I.list f;have c:=r.length;show("list",_,slot_list_getitem.lookup,d.isList.typeIs,?_);show wpAny_getItem_list_slice d.isList e g i .none (by simp) ?_ (by grind);rw[Nq,<- c];show(.ref s.heap.objs.size,_,I.laid (λb l q=>bG _ q) (aO _) ?_,rfl,q _ (I.hok.fresh (aO _)));show(cZ (Nh C lo hi) hz,_,0,(r.drop _).take _,cQ _ rfl)
abbrev fV:V->Bool
 |.non=>ac
 |.bl _=>ac
 |.int _=>ac
 |.str _=>ac
 | _=>af
abbrev eqV:V->V->Bool
 |.non,.non=>ac
 |.bl a,.bl b=>a==b
 |.bl a,.int b=>(if a then 1 else 0)==b
 |.int a,.bl b=>a==(if b then 1 else 0)
 |.int a,.int b=>a==b
 |.str a,.str b=>a==b
 | _,_=>af
variable{A:ca}{y x:V}{u v:Value}
def FI{s:ah}(e:aD y u)(c:aD x v)(f:fV y=ac)(d:fV x=ac):cC A s u v (eqV y x):=by
 cases y with
 |non=>
  cases e
  cases x with
  |non=>subst c;show xO _
  |bl b=>subst c;show cC.none_bool b
  |int b=>have(t,rfl):=c;show cC.none_int b t
  |str b=>have(t,rfl):=c;show cC.none_str b t
  | _=>show absurd (d) bN
 |bl a=>
  subst e
  cases x with
  |non=>subst c;show cC.bool_none a
  |bl b=>subst c;show cC.bool_bool a b
  |int b=>have(t,rfl):=c;show cC.bool_int a b t
  |str b=>have(t,rfl):=c;show cC.bool_str a b t
  | _=>show absurd (d) bN
 |int a=>
  have(t',rfl):=e
  cases x with
  |non=>subst c;show cC.int_none a t'
  |bl b=>subst c;show cC.int_bool a t' b
  |int b=>have(t,rfl):=c;show cC.int_int a t' b t
  |str b=>have(t,rfl):=c;show xM a t' b t
  | _=>show absurd (d) bN
 |str a=>
  have(t',rfl):=e
  cases x with
  |non=>subst c;show cC.str_none a t'
  |bl b=>subst c;show cC.str_bool a t' b
  |int b=>have(t,rfl):=c;show xN a t' b t
  |str b=>have(t,rfl):=c;show cC.str_str a t' b t
  | _=>show absurd (d) bN
 | _=>show absurd (f) bN
def eqU(x:V)(u:Value):Bool:=match u with
 |.none=>eqV .non x
 |.bool b=>eqV (.bl b) x
 |.int i _=>eqV (.int i) x
 |.str z _=>eqV (.str z) x
 | _=>af
def FJ(r:aD y u)(f:fV y=ac):eqU x u=eqV y x:=by
 cases y with
 |non=>subst r;rfl
 |bl b=>subst r;rfl
 |int i=>have(t,rfl):=r;rfl
 |str z=>have(t,rfl):=r;rfl
 | _=>show absurd (f) bN
def rn{x:V}:∀{C:LVv} {us:LVa},aI C us->C.all fV=ac->us.any (eqU x)=C.any λy=>eqV y x
 | _,_,.nil,_=>rfl
 |y::C,u::us,.cons r t,f=>by
  rw[mH,b6]at f;rw[gG,gG,FJ r f.1,rn t f.2]
def rp{A:ca}{s:ah}{x:V}{v:Value}(c:aD x v)(b:fV x=ac):∀{C:LVv} {us:LVa},aI C us->C.all fV=ac->∀u∈us,cC A s u v (eqU x u)
 | _,_,.nil,_=>λu a=>by nomatch a
 |y::C,u::us,.cons r t,f=>λd a=>by
  simp only[mH,b6]at f
  rcases bc.mp a with rfl |a
  .rw[FJ r f.1];show FI r c f.1 b
  .show rp c b t f.2 d a
def inV(x:V)(C:LVv):Bool:=C.any λy=>eqV y x
def rIn(K:aU)(neg:Bool):R2:=λx y H Q=>∃p C,y=.ref p/\(SqL K H p C\/SqT K H p C)/\fV x=ac/\C.all fV=ac/\Q (.bl (if neg then !inV x C else inV x C)) H
def Nu:OpR X (cg .In) (rIn X.K af):=by
 intro U s E H x y v u Q I e f h;have(p,C,rfl,a,d,fs,q):=h;subst f
 rcases a with a |a
 .have(L,r,c,hz):=I.list a;show SeqAt.in_listAt _ c.isList (λw b=>rp e d r fs w (by simpa using b)) (.bl _,H,I,rfl,?_);rw[show L.toArray.any _=L.any (eqU x) by simp,rn r fs];show q
 .have(L,r,c,hz):=I.tuple a;show SeqAt.in_tupleAt _ c (λw b=>rp e d r fs w (by simpa using b)) (.bl _,H,I,rfl,?_);rw[show L.toArray.any _=L.any (eqU x) by simp,rn r fs];show q
def Nv:OpR X (cg .NotIn) (rIn X.K ac):=by
 intro U s E H x y v u Q I e f h;have(p,C,rfl,a,d,fs,q):=h;subst f
 rcases a with a |a
 .have(L,r,c,hz):=I.list a;show SeqAt.notIn_listAt _ c.isList (λw b=>rp e d r fs w (by simpa using b)) (.bl _,H,I,rfl,?_);rw[show L.toArray.any _=L.any (eqU x) by simp,rn r fs];show q
 .have(L,r,c,hz):=I.tuple a;show SeqAt.notIn_tupleAt _ c (λw b=>rp e d r fs w (by simpa using b)) (.bl _,H,I,rfl,?_);rw[show L.toArray.any _=L.any (eqU x) by simp,rn r fs];show q
def Nw:io X (.builtin "len") (λC H Q=>∃p ys,C=[.ref p]/\(SqL X.K H p ys\/SqT X.K H p ys)/\Q (.int (Z ys)) H):=by
 intro U s E H C us Q I r h;have(p,ys,rfl,b,q):=h;have(u,rfl,d):=lM r;subst d;have hn:=rh
 rcases b with b |b
 .have(L,r',c,hz):=I.list b;have a:=r'.length;show Calls.call_len_list c.isList (by grind) (.int (Z ys),H,I.tok _,(s.toks+1,by rw[size_toArray,a]),q)
 .have(L,r',c,hz):=I.tuple b;have a:=r'.length;show len_tuple c (by grind) (.int (Z ys),H,I.tok _,(s.toks+1,by rw[size_toArray,a]),q)
def Nx:io X (.builtin "len") (λC H Q=>∃z,C=[.str z]/\z.length<=aX/\Q (.int z.length) H):=by
 intro U s E H C us Q I r h;have(z,rfl,hz,q):=h;have(u,rfl,t,rfl):=lM r;have hn:=rh;show len_str (by lia) (.int z.length,H,I.tok _,(_,rfl),q)
def Ny:io X (.type "list") (λC H Q=>∃p ys,C=[.ref p]/\(SqL X.K H p ys\/SqT X.K H p ys)/\∀l,H l=ab->Q (.ref l) (upd H l (.lst ys))):=by
 intro U s E H C us Q I r h;have(p,ys,rfl,c,q):=h;have(u,rfl,i):=lM r;subst i
 have fin:∀L,aI ys L->Z ys<=aX->∀h' a,_ ->
   h'.get? s.heap.objs.size=aa {cls:=.type "list",dict:=ab,data:=.seq L.toArray a,slots:=#[]}->EP X U E Q _ {s with heap:=h'}:=λL r' hz h' a kp e=>
  (.ref s.heap.objs.size,_,I.laid kp (aO _) (show dY X.prog X.w _ h' _ (.lst ys)from(hz,L,a,r',e)),rfl,q _ (I.hok.fresh (aO _)))
 rcases c with c |c
 .have(L,r',g,hz):=I.list c;have b:=r'.length;have(o,f,d,n,hd):=g.isList;show call_list_seq p (.inl rfl) f d hd (λh' a kp e=>fin L r' hz h' a kp e) (by grind)
 .have(L,r',g,hz):=I.tuple c;have b:=r'.length;have(o,f,d,n,hd):=g;show call_list_seq p (.inr rfl) f d hd (λh' a kp e=>fin L r' hz h' a kp e) (by grind)
def tyV(K:aU)(T:String)(x:V)(H:Hp):Prop:=match x with
 |.str _=>T="str"
 |.int _=>T="int"
 |.ref p=>(T="list" /\ ∃C,SqL K H p C)\/(T="tuple" /\ ∃o,K.lookup p=aa o/\o.cls=.type "tuple" /\ o.dict=ab) \/
   (T="dict" /\ ((∃kvs,H p=aa (.dK kvs))\/∃kvs,H p=aa (.dT kvs)))\/(T="set" /\ ∃S n,H p=aa (.set S n))
 | _=>False
variable{T:String}
def Nz{s:ah}(I:Inv X U E H s)(r:aD x v)(ty:tyV X.K T x H):
  s.TypeIs v T/\∀a,v=.ref a->∃f,s.heap.get? a=aa f/\f.dict=ab:=by
 cases x with
 |str z=>
  have(t,rfl):=r;cases (ty)
  show⟨typeIs_str s z t,λ_ e=>nomatch e⟩
 |int i=>
  have(t,rfl):=r;cases (ty)
  show⟨typeIs_int s i t,λ_ e=>nomatch e⟩
 |ref p=>
  subst r
  rcases ty with⟨rfl,C,j⟩ |⟨rfl,o,b,h,hd⟩ |⟨rfl,b⟩ |⟨rfl,S,n,b⟩
  .have(L,_,g,_):=I.list j;show(g.isList.typeIs,λa e=>?_);cases e;have(o,n,e,c,hd,_):=g;show(o,e,hd)
  .show((o,I.kIn p o b,h),λa e=>?_);cases e;show(o,I.kIn _ o b,hd)
  .have z:∃o,s.heap.get? p=aa o/\o.ExactDict:=by
    rcases b with⟨kvs,b⟩ |⟨kvs,b⟩
    .have(_,_,_,_,o,_,_,e,ex,_):=I.hok p _ b;show(o,e,ex)
    .have(_,_,_,_,o,_,_,e,ex,_):=I.hok p _ b;show(o,e,ex)
   have(o,e,ex):=z;show((o,e,ex.1),λa d=>?_);cases d;show(o,e,ex.2.1)
  .have(o,_,_,_,e,ex,_):=I.hok p _ b;show((o,e,ex.1),λa d=>?_);cases d
   show(o,e,ex.2.1)
 | _=>show g6 ty
def tBM(K:aU)(T:String)(r:V->LVv->Hp->VK->Prop)(to:TE)(t:TA):TE:=λE H Q=>to E H λx a=>tyV K T x a/\t E a λC b=>r x C b Q
variable{es:LEx}{name:Str}{apos cpos:Pos}{r:V->LVv->Hp->VK->Prop}
def jZ{o:Expr}{to:TE}{t:TA}{id:String}(pa:PlainAttrs T)(slot:Slot T name id)(f:typeOf (.builtin id)=pure (.type "method_descriptor"))(hm:MtR X id r)(q:PE X o to)(ha:PA X (e::es) t)
 (b:autoParam (oY o name X.env (eval o X.env)=eval o X.env) Zb)
 (d:autoParam (((cj cpos (aQ (e::es) X.env)).all (λx=>!x.1) && (iH cpos (iG [] X.env)).all (λx=>x.1.isSome)
   && decide (Z (e::es)+Z ([]:List Keyword)+(if ([]:List Keyword).isEmpty then 0 else 1)<30))=ac) Zb)
 (c:autoParam ((apos.endLine==cpos.line)=ac) Zb)(u:autoParam (StE X e es) Zb)(a:autoParam ((cj cpos (aQ es X.env)).any (·.1)=af) Zb):
  PE X (.Call (.Attribute o name apos) (e::es) [] cpos) (tBM X.K T r to t):=by
 intro U s E H Q I h;show wpAny_Call_method_late b d c rfl (thn (q U s E H _ I h) λv s1 z=>?_);have(x,l,g,j,ty,w):=z;have(p,h2):=Nz g j ty;show(T,id,pa,slot,f,p,h2,?_);have i:=ha cpos U s1 E l _ g w;rw[u]at i ⊢
 show xD (by change(af || (cj cpos _).any (·.1))=af;rw[a] <;> rfl) (xE (thn i λus s2 (vs,m,n,A,y)=>hm U s2 E m x vs v us Q n j A y))
def MtM(X:Cx)(id:String)(r:V->LVv->Hp->VK->Prop):Prop:=
 ∀(U:PNS) (s:ah) (E:St) (H:Hp) (x:V) (C:LVv) (v:Value) (us:LVa) (Q:VK),Inv X U E H s->aD x v->aI C us->r x C H Q ->
  wpAny (model X.prog X.w) X.A (call (.builtin id) (v::us)) (EP X U E Q) X.xe s
def aI.one:∀{x:V} {us:LVa},aI [x] us->∃u,us=[u]/\aD x u:=λh=>by
 cases h with
 |cons r h=>
  cases h;show(_,rfl,r)
def aI.two:∀{x y:V} {us:LVa},aI [x,y] us->∃u v,us=[u,v]/\aD x u/\aD y v:=λh=>by
 cases h with
 |cons r h=>
  cases h with
  |cons q h=>
   cases h;show(_,_,rfl,r,q)
def aI.eraseIdx:∀{C:LVv} {us:LVa} (i:Nat),aI C us->aI (C.eraseIdx i) (us.eraseIdx i)
 | _,_,_,.nil=>.nil
 | _,_,0,.cons _ t=>t
 | _,_,i+1,.cons r t=>.cons r (aI.eraseIdx i t)
variable{us:LVa}
def aI.reverse(h:aI C us):aI C.reverse us.reverse:=by
 induction h with
 |nil=>show .nil
 |cons r t a=>rw[jc,jc];show aI.append a (.cons r .nil)
def yq{a:Type}:∀(l:List a) (i:Nat),Z (l.eraseIdx i)<=Z l
 | [],_=>aO _
 | _::_,0=>ko _
 | _::r,i+1=>Nat.succ_le_succ (yq r i)
variable{l:Addr}{t':Nat}
section
variable{s:ah}
def Inv.lset{f:Array Value->Array Value}(I:Inv X U E H s)(a:H l=aa (.lst C))
 (e:s.heap.get? l=aa {cls:=.type "list",data:=.seq L.toArray n})(c:f L.toArray=dd.toArray)(hv:aI ys dd)(hz:Z ys<=aX):
  Inv X U E (upd H l (.lst ys)) {s with heap:=s.heap.update l (ie f),toks:=t'}:=by
 have q:=PySem.IsL.update e f;rw[c]at q;show I.write (by rw[a];show trivial) (.inl rfl) (λg u b d=>(o7 s.heap _ (eX b)).trans d) (_,q) (hz,dd,_,hv,q)
end
section
variable{s:ah}
def Inv.lnew(I:Inv X U E H s)(hv:aI ys L)(hz:Z ys<=aX):
  Inv X U E (upd H s.heap.objs.size (.lst ys)) {s with heap:=s.heap.push {cls:=.type "list",data:=.seq L.toArray},toks:=t'}:=
 I.laid (λ_ _ q=>bG _ q) (aO _) (hz,L,0,hv,cQ _ rfl)
end
def Inv.fresh{s:ah}(I:Inv X U E H s):H s.heap.objs.size=ab:=I.hok.fresh (aO _)
def Inv.lstM{s:ah}(I:Inv X U E H s)(a:H l=aa (.lst C)):Z C<=aX/\∃(L:LVa) (n:Nat),aI C L/\Z C=Z L/\s.heap.get? l=aa {cls:=.type "list",data:=.seq L.toArray n}:=by
 have(z,L,n,r,e):=I.hok l _ a;show(z,L,n,r,r.length,e)
def NA(h:n<=aX):ET n=af:=by
 show decide_eq_false (by lia)
abbrev uB:V->LVv->Hp->VK->Prop:=λx vs H Q=>∃l C y,x=.ref l/\vs=[y]/\H l=aa (.lst C)/\Z C<aX/\Q .non (upd H l (.lst (C++[y])))
def yr:MtM X "list.append" uB:=by
 intro U s E H x vs v us Q I c b h;have(l,C,y,rfl,rfl,a,hz,q):=h;subst c;have(u,rfl,ru):=b.one;have(z,L,n,r,d,e):=I.lstM a;show call_meets F.slot_list_append (_,e,rfl) F.entry_list_append (F.args_list_append_2 _ _) (PySem.list_append l L.toArray n u (by rw[size_toArray];lia)) (e,?_);show(.non,_,I.lset a e (by simp) (r.append (.cons ru .nil)) ?_,rfl,q);rw[aV,gc]
 lia
abbrev yt:V->LVv->Hp->VK->Prop:=λx vs H Q=>∃l b C a,x=.ref l/\vs=[.ref b]/\H l=aa (.lst C)/\H b=aa (.lst a)/\Z C+Z a<=aX/\Q .non (upd H l (.lst (C++a)))
def yu:MtM X "list.extend" yt:=by
 intro U s E H x vs v us Q I w p h;have(l,b,C,B,rfl,rfl,f,hB,hz,q):=h;subst w;have(u,rfl,ru):=p.one;subst ru;have(z,L,n,r,y,e):=I.lstM f;have(A,a,j,m,i,g):=I.lstM hB;have d:L.toArray.size+a.toArray.size<=aX:=by grind
 have c:¬(!L.toArray.isEmpty && ET (L.toArray.size+a.toArray.size))=ac:=by
  rw[NA d,tQ]
  grind
 show call_meets F.slot_list_extend (_,e,rfl) F.entry_list_extend (F.args_list_extend_2 _ _)
  (AutoSeq1.list_extend_list_list_0 l L.toArray n b a.toArray j c (by grind) (by lia)) (e,g,?_)
 show(.non,_,I.lset f e (by simp) (r.append m) ?_,rfl,q)
 grind
abbrev FK:V->LVv->Hp->VK->Prop:=λx vs H Q=>∃l C i k y,x=.ref l/\vs=[.int i]/\H l=aa (.lst C)/\-(2 ^ 63)<=i/\i<2 ^ 63/\seqIndex? i (Z C)=aa k/\C[k]?=aa y/\Q y (upd H l (.lst (C.eraseIdx k)))
def NB:MtM X "list.pop" FK:=by
 intro U s E H x vs v us Q I p m h;have(l,C,i,k,y,rfl,rfl,b,c,h2,d,j,q):=h;subst p;have(u,rfl,ru):=m.one;have(t,rfl):=ru;have(z,L,n,r,f,e):=I.lstM b;have(w,g,a):=r.get j
 show call_meets F.slot_list_pop (_,e,rfl) F.entry_list_pop (F.args_list_pop_2 _ _)
  (MeetsSeq.list_pop_at l L.toArray n i t k w (fitsIndex_both c h2) (by rw[size_toArray,<- f];show d) (by rw[<- qI];show g) (by rw[size_toArray];lia)) (e,?_)
 show(y,_,I.lset b e ?_ (r.eraseIdx k) ?_,a,q)
 .change L.toArray.eraseIdxIfInBounds k=(L.eraseIdx k).toArray;rw[eraseIdxIfInBounds_toArray]
 .have:=yq C k
  lia
def NC:R2:=λx y H Q=>∃l b C a,x=.ref l/\y=.ref b/\H l=aa (.lst C)/\H b=aa (.lst a)/\Z C+Z a<=aX/\∀p,H p=ab->Q (.ref p) (upd H p (.lst (C++a)))
def FL:OpR X (fS .Add) NC:=by
 intro U s E H x y v u Q I j m h;have(l,b,C,B,rfl,rfl,f,hB,hz,q):=h;subst j;subst m;have(z,L,n,r,p,e):=I.lstM f;have(A,a,w,i,g,c):=I.lstM hB;show PySem.P.add_list e c ?_ (by grind);have d:L.toArray++a.toArray=(L++a).toArray:=by simp
 rw[d];show(.ref _,_,I.lnew (r.append i) (by grind),rfl,q _ I.fresh)
end L2
namespace Att
open List
open PySem PySem.W PySem.Calls PyProof.Rows
variable{P:Params}{h:Heap}
def ND:∀(ns:LI0) (vs:LVa),WellAll P h vs (ns.map WData.int)->gf vs ns:=by
 intro ns
 induction ns with
 |nil=>
  intro vs w;cases w
  show .nil
 |cons n ns c=>
  intro vs w
  cases w with
  |cons a b=>
   cases a;show .cons _ _ (c _ b)
variable{l:OpenLaw}{n:Nat}{vals:LVa}
def NE(hn:l.most=aa n){args:List WData}
 (b:l.row.toRowW.claim.pre args=ac)(g:WellAll P h vals args):
  ∃a vs ns,vals=[e7 a]/\args=[WData.list (ns.map WData.int)]/\h.get? a=aa {cls:=.type "list",data:=.seq vs.toArray}/\gf vs ns/\Z ns<=n:=by
 have(d,r,rfl,i,h2):=hasAllW_cons ((pre_splitW b).1);obtain rfl:=hasAllW_nil h2;have(C,rfl,j):=hasW_list i;have(ns,rfl):=items_int j
 have e:Z ns<=n:=by
  have f:(WTm.not (.lt (.lit (.int n)) (.len (.arg 0)))).holds [] {args:=[.list (ns.map .int)]}=ac:=by
   have f:=(holds_andW ((pre_splitW b).2)).1;rw[hn]at f;show f
  have u:=condW_of f (w_not (w_lt w_lit (w_len_list (w_arg rfl))))
  grind
 cases g with
 |cons p q=>
  cases q
  cases p with
  |list m c=>show(_,_,ns,rfl,rfl,m,ND ns _ c,e)
def NF(l:OpenLaw)(args:List WData):l.row.toRowW.claim.post args (.bool ac) args=ac:=
 postW_of
  (show WShape.has [] _ .bool=ac by first |rfl |decide |simp[WShape.has])
  (w_eq_bool (w_res rfl) w_lit) rfl
variable{q:ci}{c4:LSt}{XP:MGT->Heap->Prop}{YP:World->Heap->Prop}{d:DefRec}
def attach_call
 (hn:l.most=aa n)(p:d.params.defaults=[])
 (call:∀ (w:World) (s₀ b:ah) (mg mb:MGT) (fa:Addr) (o:Obj) (pm i doc:Value) (a:Addr) (vs:LVa) (ns:LI0),
   Ground q c4 [] XP w s₀ mg mb b.heap->YP w b.heap ->
   b.heap.get? fa=aa o->o.data=.func (docDef d.name d.params d.body d.scope pm i doc)->b.heap.CodeRec i d.name->mg d.name=aa (.ref fa) ->
   b.heap.get? a=aa {cls:=.type "list",data:=.seq vs.toArray}->gf vs ns->Z ns<=n->b.gens=#[] ->
   gK (model l.prog w) callerA (.call (.ref fa) ([.ref a],[])) (λr j=>r=.ok (.ret (.bool ac))/\OldK b.heap j.heap/\j.os=b.os/\kz j.gens) b):
  WalkO q c4 XP YP l.row.toRowW d [] (λf vs=>PySem.call f vs):=by
 intro w s₀ b mg mb G Y fa o pm i doc dV kV E hd m x u B args vals as h y I v C;obtain rfl:dV=.none:=Dflts.none x p;obtain rfl:kV=.none:=Dflts.noKw x;have(a,vs,ns,rfl,rfl,g,c,e):=NE hn h v;show enter_call (lC (call w s₀ b mg mb fa o pm i doc a vs ns G Y E (fd_plain hd) m u g c e B) λr j H=>?_);have(rfl,h2,z,A):=H;show(.inl (.bool ac,.bool ac,[],rfl,λ_=>rfl,.bool ac,NF l _,λ_=>(List.Pairwise.nil,λ_ hm=>(nomatch hm))),h2,z,A)
end Att
namespace L2
open List
open PySem PySem.Spec PyProof.Rows
def FM:∀{vs:LVa} {ns:LI0},gf vs ns->aI (ns.map V.int) vs
 | _,_,.nil=>.nil
 | _,_,.cons n t h=>.cons (t,rfl) (FM h)
def uC(H:Hp):Prop:=∀b,H b=ab\/∃o C,H b=aa (.frz o (.lst C))
variable{P:ci}{w:World}{K:aU}{mg:MGT}{a:Addr}{fd:c6}{x:Str}{ns:LI0}
def NG{mb:MGT}{CX:CXT}{k:Nat}{fa:Addr}{sp:Sp}{c:ah}{vs:LVa}
 (T:K.In c.heap)(B:c.heap.Ns cu mg)(p:c.heap.Ns builtinsNs mb)(J:∀x:Str,x ≠ "__name__" -> mb x=jW x)(A:c.heap.NoLimit)(hg:c.gens=#[])
 (ha:c.heap.get? a=aa {cls:=.type "list",data:=.seq vs.toArray})(hi:gf vs ns)(hl:Z ns<=aX)(hr:bD k callerA)
 (F:∀base:Heap,K.In base->base.Ns cu mg->cD P w K mg base CX k fa fd [x] sp)(l:∀(s:ah) (u:Value),BindsTo s fd ([u],[]) [(x,u,)])
 (M:∀H:Hp,uC H->SqL K H a (ns.map V.int)->sp [.ref a] H (λv _=>v=.bl ac) λ_ _ _=>False)
 (I:∀H e g,CX [] H c (λ_ _ _=>False) e g->False):
  gK (model P w) callerA (.call (.ref fa) ([.ref a],[])) (λr g=>r=.ok (.ret (.bool ac))/\OldK c.heap g.heap/\g.os=c.os/\kz g.gens) c:=by
 have rv:=FM hi
 have j:∀H:Hp,uC H->SqL K H a (ns.map V.int)->HOk P w H c.heap->(∀b,H b≠ab->b=a)->(H a≠ab->K.lookup a=ab) ->
   gK (model P w) callerA (.call (.ref fa) ([.ref a],[])) (λr g=>r=.ok (.ret (.bool ac))/\OldK c.heap g.heap/\g.os=c.os/\kz g.gens) c:=by
  intro H U hS hok hA hK;have f:∀{b:Addr} {o:Obj},c.heap.get? b=aa o->H b=ab->(pi c.heap H).get? b=aa o:=λe n=>Lo e n
  have N:∀{b:Addr} {o:Obj} {es:Array DictEntry} {G:Nat},c.heap.get? b=aa o->o.data=.dict es G->H b=ab:=λ{b o es G} e d=>by
   grind
  have i:∀{b:Addr} {m:MGT},c.heap.Ns b m->(pi c.heap H).Ns b m:=λ{b m} (o,es,G,e,d,r)=>(o,es,G,f e (N e d),d,r)
  have y:=λb o e=>f (T b o e) (by
   cases q:H b with
   |none=>rfl
   |some u=>
    have e':=hA b (by grind);subst e';rw[hK (by grind)]at e;nomatch e)
  have hM:Mod K mg _:=(y,i B,(mb,i p,J),let (mc,h1,h2):=A;(mc,i h1,h2));have e0:ni P w K mg _ callerA [] c H:=(rfl,hM,λb o e=>Lp e,Nat.le_of_eq (Ln _ _),trivial,λb p=>absurd (show b∈([]:LAd)from p) (by simp),hok,.of_eq hg);show lC ((F _ y (i B)).run callerA [] c H ([.ref a],[]) _ [.ref a] _ _ hr e0 (l c _) (.cons rfl .nil) (M H U hS)) λr g h=>?_
  cases r with
  |error e=>show(I H e g h).elim
  |ok Y=>
   cases Y with
   |next=>show g6 h
   |brk=>show g6 h
   |cont=>show g6 h
   |ret u=>
    have(v,H',os,bare,un,E,r',q):=h;subst q;obtain rfl:u=iI ac:=r';show(rfl,OldK.of_keep λb o e=>?_,os,bare)
    cases q:H b with
    |none=>show un.keep b o e q (by intro z;show absurd (show b∈([]:LAd)from z) (by simp)) (by simp)
    |some u=>
     rcases U b with z |⟨ob,C,z⟩
     .grind
     .have z2:=un.frzs b ob _ z;have(e1,_):=hok b _ z;have(e2,_):=E b _ z2
      grind
 cases L:K.lookup a with
 |some o=>
  have e:=T a o L;rw[ha]at e;cases e
  show j _ (λ_=>.inl rfl) (.inr (_,vs.toArray,_,L,rfl,rfl,rfl,by rw[size_toArray,hi.length];grind)) (λb u z=>by have Q:_=aa u:=z;nomatch Q) (λb z=>absurd rfl z) λz=>absurd rfl z
 |none=>
  show j (λb=>if b=a then aa _ else ab) (λb=>?_) (.inl (.inr ({cls:=.type "list",data:=.seq vs.toArray},if_pos rfl))) (λb u z=>?_) (λb z=>?_) λ_=>L
  .grind
  .by_cases p:b=a
   .have Q:=(if_pos p).symm.trans z;cases Q;subst p;show(ha,by rw[az];show hl,vs,_,rv,ha)
   .grind
  .grind
variable{h:Heap}
nonrec def KOf(_:K.In h):aU:=K
variable{l:W.OpenLaw}{q:ci}{c4:LSt}{XP:MGT->Heap->Prop}{YP:World->Heap->Prop}{d:DefRec}
def NH{n k:Nat}{K:Params->aU}{CX:World->CXT}{sp:World->Sp}
 (hn:l.most=aa n)(z:n<=aX)(r:d.params.defaults=[])(hr:bD k callerA)
 (L:∀(w:World) (h:Heap),YP w h->(K w.params).In h)
 (F:∀ (w:World) (mg:MGT) (fa:Addr) (h:Heap),(K w.params).In h->h.Ns cu mg->mg d.name=aa (.ref fa) ->
   ∃fd:c6,(∀(s:ah) (u:Value),BindsTo s fd ([u],[]) [(x,u,)]) /\
    ∀base:Heap,(K w.params).In base->base.Ns cu mg->cD l.prog w (K w.params) mg base (CX w) k fa fd [x] (sp w))
 (A:∀(w:World) (H:Hp) (a:Addr) (ns:LI0),Z ns<=n->uC H->SqL (K w.params) H a (ns.map V.int)->sp w [.ref a] H (λv _=>v=.bl ac) λ_ _ _=>False)
 (p:∀(w:World) (H:Hp) (s:ah) (e:Value) (B:ah),CX w [] H s (λ_ _ _=>False) e B->False):
  W.WalkO q c4 XP YP l.row.toRowW d [] (λf vs=>PySem.call f vs):=by
 show Att.attach_call hn r λw s₀ m mg mb fa o pm U doc a vs ns G Y ho hd N y j i c Q=>?_;have C:=L w _ Y;have(fd,M,E):=F w mg fa _ C G.T.g y;show NG C G.T.g G.T.b G.T.builtins G.T.nolimit Q j i (cZ c z) hr E M (λH I J=>A w H a ns c I J) λH e B=>p w H m e B
variable{CX:CXT}
def walk_ofK{n k:Nat}{K:Params->aU}{sp:aU->Sp}
 (hn:l.most=aa n)(g:n<=aX)(c:d.params.defaults=[])(hr:bD k callerA)
 (r:∀(w:World) (h:Heap),YP w h->(K w.params).In h)
 (F:∀ (w:World) (mg:MGT) (fa:Addr) (h:Heap),(K w.params).In h->h.Ns cu mg->mg d.name=aa (.ref fa) ->
   ∃fd:c6,(∀(s:ah) (u:Value),BindsTo s fd ([u],[]) [(x,u,)]) /\
    ∀base:Heap,(K w.params).In base->base.Ns cu mg->cD l.prog w (K w.params) mg base CX k fa fd [x] (sp (K w.params)))
 (i:∀(K:aU) (H:Hp) (a:Addr) (ns:LI0),Z ns<=n->uC H->SqL K H a (ns.map V.int)->sp K [.ref a] H (λv _=>v=.bl ac) λ_ _ _=>False)
 (b:∀(H:Hp) (s:ah) (e:Value) (j:ah),CX [] H s (λ_ _ _=>False) e j->False):
  W.WalkO q c4 XP YP l.row.toRowW d [] (λf vs=>PySem.call f vs):=
 NH hn g c hr r F (λw H a ns m h2 p=>i _ H a ns m h2 p) λ_ H s e j=>b H s e j
def bq(s:Stmt)(j:Nat):Stmt:=match s with
 |.ClassDef _ _ _ body _ _ _ _ _ _ _=>body.getD j (.Pass (0,0,0,0))
 | _=>.Pass (0,0,0,0)
def kM(s:Stmt):Arguments:=match s with
 |.FunctionDef _ a _ _ _ _ _ _ _ _=>a
 | _=>{posonlyargs:=[],args:=[],vararg:=ab,kwonlyargs:=[],kw_defaults:=[],kwarg:=ab,defaults:=[]}
def fW(s:Stmt):List Stmt:=match s with
 |.FunctionDef _ _ b _ _ _ _ _ _ _=>b
 | _=>[]
def au(s:Stmt):Scope:=match s with
 |.FunctionDef _ _ _ _ _ _ sc _ _ _=>sc
 | _=>{kind:=.function,names:=[],isGenerator:=af,isCoroutine:=af}
nonrec abbrev CX0:CXT:=λ_ _ _ _ _ _=>False
nonrec abbrev E0:XK:=λ_ _ _=>False
variable{X:Cx}
def gq:nj CX0 X E0:=λ_ _ _ _ _ _ _ h=>h.elim
structure Fun(K:aU)(x qual:Str)(st:Stmt)(f:Addr)(fd:c6):Prop where
 ex:∃(oc:Value) (od:Option Addr) (kV doc pm:Value) (an:Option Addr) (cdv ct:Value) (osl:Array (Option Value)),
  fd=jl x qual (kM st) (fW st) (au st) .none kV doc pm an cdv ct/\K.lookup f=aa (oc,od,.func fd,osl)/\W.codeIn K cdv qual=ac
 kp:gm K (.ref f)=ac
variable{base:Heap}{qual:Str}{st:Stmt}{f:Addr}{N ps:LSt}{sp:Sp}
def Fun.ok{k:Nat}(F:Fun K x qual st f fd)(S:aB N ps (au st))(len:∀vs H Q X4,sp vs H Q X4->Z vs=Z ps)
 (a:∀ (cdv:Value) (A:ca) (outer:List Env) (s:ah) (H:Hp) (vs:LVv) (Q:VK) (X4:XK),bD k (A.deeper (gg qual (au st) s.heap.objs.size f cdv))->sp vs H Q X4 ->
   ∃t,PSs (iL CX0 P w K mg base N qual (au st) f cdv A outer s H X4).nox (fW st) t/\t {nx:=λ_ H'=>Q .non H',rt:=Q} (start N vs) H):cD P w K mg base CX0 (k+1) f fd ps sp:=by
 have(oc,od,kV,doc,pm,an,cdv,ct,osl,rfl,d,b):=F.ex;show FD d b S len λA outer s H vs Q X4 hr c=>?_;have(t,h,q):=a cdv A outer s H vs Q X4 hr c;show(t,h.nox,q)
def Fun.binds(F:Fun K x qual st f fd)
 (h:∀(kV doc pm:Value) (an:Option Addr) (cdv ct:Value) (us:LVa),Z us=Z ps->bindArgs (jl x qual (kM st) (fW st) (au st) .none kV doc pm an cdv ct) (us,[])=pure (ps.zip us)):dZ K fd ps []:=by
 have(oc,od,kV,doc,pm,an,cdv,ct,osl,rfl,b,a):=F.ex;show .all (h kV doc pm an cdv ct)
variable{oc:Value}{an:Option Addr}{osl:Array (Option Value)}
def fun_mk{od:Option Addr}{kV doc pm cdv ct:Value}(l:K.lookup f=aa (oc,od,.func (jl x qual (kM st) (fW st) (au st) .none kV doc pm an cdv ct),osl))
 (c:W.codeIn K cdv qual=ac)(k:gm K (.ref f)=ac):Fun K x qual st f (jl x qual (kM st) (fW st) (au st) .none kV doc pm an cdv ct):=((oc,od,kV,doc,pm,an,cdv,ct,osl,rfl,l,c),k)
structure Df(K:aU)(mg:MGT)(x:Str)(st:Stmt)(ps:LSt)(e:Addr×c6):Prop where
 F:Fun K x x st e.1 e.2
 b:dZ K e.2 ps []
 g:mg x=aa (.ref e.1)
structure Dm(K:aU)(X5:Addr)(x q:Str)(st:Stmt)(ps:LSt)(e:Addr×c6):Prop where
 F:Fun K x q st e.1 e.2
 b:dZ K e.2 ps []
 m:rj K X5 x e.1
structure Pk(P:ci)(w:World)(K:aU)(mg:MGT)(base:Heap)(CX:CXT)(k:Nat)(x:Str)(e:Addr×c6)(ps:LSt)(sp:Sp):Prop where
 ok:cD P w K mg base CX k e.1 e.2 ps sp
 g:mg x=aa (.ref e.1)
 kp:gm K (.ref e.1)=ac
 b:dZ K e.2 ps []
structure Pm(P:ci)(w:World)(K:aU)(mg:MGT)(base:Heap)(CX:CXT)(k:Nat)(X5:Addr)(x:Str)(e:Addr×c6)(ps:LSt)(sp:Sp):Prop where
 ok:cD P w K mg base CX k e.1 e.2 ps sp
 c:Cls K X5
 m:rj K X5 x e.1
 b:dZ K e.2 ps []
variable{e:Addr×c6}
def Df.pk{k:Nat}(X4:Df K mg x st ps e)(o:cD P w K mg base CX k e.1 e.2 ps sp):Pk P w K mg base CX k x e ps sp:=(o,X4.g,X4.F.kp,X4.b)
variable{q:Str}{X5:Addr}
def Dm.pk{k:Nat}(X4:Dm K X5 x q st ps e)(c:Cls K X5)(o:cD P w K mg base CX k e.1 e.2 ps sp):Pm P w K mg base CX k X5 x e ps sp:=(o,c,X4.m,X4.b)
structure Dq(K:aU)(x:Str)(st:Stmt)(f:Addr)(fd:c6):Prop where
 a:dQ K cu x=aa (aa (.ref f))
 F:Fun K x x st f fd
structure Dp(K:aU)(X5:Addr)(x q:Str)(st:Stmt)(f:Addr)(fd:c6):Prop where
 a:cw K (.ref X5) x=aa (aa (.ref f))
 i:W.isFn K (.ref f)=ac
 F:Fun K x q st f fd
nonrec abbrev uD(x q:Str)(st:Stmt)(ps:LSt):Prop:=∀(kV doc pm:Value) (an:Option Addr) (cdv ct:Value) (us:LVa),Z us=Z ps->bindArgs (jl x q (kM st) (fW st) (au st) .none kV doc pm an cdv ct) (us,[])=pure (ps.zip us)
def Dq.mk2(d:Dq K x st f fd)(X:K.In h)(G:h.Ns cu mg)(b:autoParam (uD x x st ps) Zk):Df K mg x st ps (f,fd,):=(d.F,d.F.binds b,kK X G d.a)
def Dp.mk2(d:Dp K X5 x q st f fd)(b:autoParam (uD x q st ps) Zk):Dm K X5 x q st ps (f,fd,):=(d.F,d.F.binds b,(d.a,d.i,d.F.kp))
def Dq.bt{p:Str}(d:Dq K x st f fd)(b:uD x x st [p])(s:ah)(v:Value):BindsTo s fd ([v],[]) [(p,v,)]:=by
 have(oc,od,kV,doc,pm,an,cdv,ct,osl,rfl,c,a):=d.F.ex;show .of_eq (b kV doc pm an cdv ct [v] rfl)
variable{n:Nat}
def FN(h:n<=1000):n<aX:=mJ h (by decide)
variable{pos:Pos}
def pv(i:Nat)(b:autoParam (X.N[i]?=aa x) Zb)(hv:autoParam (Vis X.env.scope x) Ze)(hd:autoParam (NDb x) Zc)
 (a:autoParam (NCd x) Zc):PE X (.Name x pos) (c8 i):=m6 b hv hd a
def aq(H H':Hp):Prop:=∀b o,H b=aa o->H' b=aa o
def aq.refl(H:Hp):aq H H:=λ_ _ h=>h
variable{H H1 H2:Hp}
def aq.trans(a:aq H H1)(b:aq H1 H2):aq H H2:=λc o h=>b c o (a c o h)
variable{H':Hp}{l:Addr}
def aq.free(e:aq H H')(h:H' l=Option.none):H l=Option.none:=by
 cases q:H l with
 |none=>rfl
 |some o=>
  rw[e l o q]at h
  nomatch h
def aq.seq{C:LVv}(e:aq H H')(h:SqL K H a C):SqL K H' a C:=by
 rcases h with(h |⟨o,h⟩) |h
 .show .inl (.inl (e _ _ h))
 .show .inl (.inr (o,e _ _ h))
 .show .inr h
section
variable{κ:Type}[DecidableEq κ]
def cS(kvs:List (κ×V))(k:κ):Option V:=(kvs.find? λa=>decide (a.1=k)).map (·.2)
abbrev dR(kvs:List (κ×V))(k:κ)(v:V):List (κ×V):=
 if (kvs.any λa=>decide (a.1=k))=ac then kvs.map (λa=>if a.1=k then (a.1,v,) else a) else kvs++[(k,v,)]
def rq{p:κ×V}{r:List (κ×V)}{k:κ}(e:p.1=k):cS (p::r) k=aa p.2:=by simp[cS,find?_cons,e]
def pA{p:κ×V}{r:List (κ×V)}{k:κ}(e:¬p.1=k):cS (p::r) k=cS r k:=by simp[cS,find?_cons,e]
def uE(k:κ):∀kvs:List (κ×V),(kvs.any λa=>decide (a.1=k))=(cS kvs k).isSome
 | []=>rfl
 |p::r=>by
  rw[gG]
  by_cases e:p.1=k
  .simp only[rq e,decide_eq_true e,Bool.true_or,Option.isSome_some]
  .rw[pA e,decide_eq_false e,Bool.false_or];show uE k r
def yv(kvs:List (κ×V))(k:κ)(v:V):Z (dR kvs k v)<=Z kvs+1:=by
 unfold dR;split
 .rw[az];lia
 .simp only[aV,cB,length_nil];lia
def e8.isSome_eq{o:Option V}{u:Option Value}(r:e8 o u):o.isSome=u.isSome:=by
 cases o with
 |none=>cases u with
  |none=>rfl
  |some _=>show(r).elim
 |some _=>cases u with
  |none=>show(r).elim
  |some _=>rfl
def e8.getD{o:Option V}{u:Option Value}{d:V}{d':Value}(r:e8 o u)(rd:aD d d'):aD (o.getD d) (u.getD d'):=by
 cases o with
 |none=>cases u with
  |none=>show rd
  |some _=>show(r).elim
 |some _=>cases u with
  |none=>show(r).elim
  |some _=>show r
def KV.val{kvs:List (κ×V)}{vs:List (κ×Value)}(r:KV kvs vs)(k:κ):e8 (cS kvs k) (valueAt vs k):=by
 induction r with
 |nil=>show iK
 | @cons p q ps a h t d=>
  have(c,h2):=h
  by_cases e:p.1=k
  .have e':=c.symm.trans e;have b:valueAt (q::a) k=aa q.2:=by simp[valueAt,e']
   rw[rq e,b];show h2
  .have e':¬q.1=k:=λz=>e (c.trans z);have b:valueAt (q::a) k=valueAt a k:=by simp[valueAt,e']
   rw[pA e,b];show d
def KV.any{kvs:List (κ×V)}{vs:List (κ×Value)}(r:KV kvs vs)(k:κ):(kvs.any λa=>decide (a.1=k))=vs.any λa=>decide (a.1=k):=by
 induction r with
 |nil=>rfl
 |cons h t b=>simp only[gG,gG,b,h.1]
def KV.repl{kvs:List (κ×V)}{vs:List (κ×Value)}(r:KV kvs vs)(k:κ){y:V}{u:Value}(d:aD y u):
  KV (kvs.map λa=>if a.1=k then (a.1,y,) else a) (vs.map λa=>if a.1=k then (a.1,u,) else a):=by
 induction r with
 |nil=>show .nil
 | @cons p q ps f h t c=>
  rw[bO,bO];show .cons ?_ c;have(b,h2):=h
  by_cases e:p.1=k
  .rw[if_pos e,if_pos (b.symm.trans e)];show(b,d)
  .rw[if_neg e,if_neg (λz=>e (b.trans z))];show(b,h2)
def KV.put{kvs:List (κ×V)}{vs:List (κ×Value)}(r:KV kvs vs)(k:κ){y:V}{u:Value}(a:aD y u):KV (dR kvs k y) (stored vs k u):=by
 unfold dR stored;rw[r.any k]
 by_cases e:(vs.any λb=>decide (b.1=k))=ac
 .rw[if_pos e,if_pos e];show r.repl k a
 .rw[if_neg e,if_neg e];show ic.snoc r (rfl,a)
def KV.length{kvs:List (κ×V)}{vs:List (κ×Value)}(r:KV kvs vs):Z kvs=Z vs:=pc r
end
variable{u:Value}
def uF{k:Key}(r:aD (kV k) u):(lK P w).is k u=ac:=by
 cases k with
 |inl i=>have(t,e):=(r);subst e;show Lg P w i t
 |inr x=>have(t,e):=(r);subst e;show Lh P w x t
nonrec abbrev KT(H:Hp):List (List Key×V)->List (List Key×Addr×Value)->Prop:=ic λp q=>p.1=q.1/\fK H q.2.1 p.1/\aD p.2 q.2.2
variable{kvs:List (List Key×V)}{C:List (List Key×Addr×Value)}
def KT.val(r:KT H kvs C)(k:List Key):e8 (cS kvs k) ((atKey C k).map (·.2)):=by
 induction r with
 |nil=>show iK
 | @cons p q ps a h t d=>
  have(c,_,h2):=h
  by_cases e:p.1=k
  .have e':=c.symm.trans e;have b:atKey (q::a) k=aa q.2:=by simp[atKey,e']
   rw[rq e,b];show h2
  .have e':¬q.1=k:=λz=>e (c.trans z);have b:atKey (q::a) k=atKey a k:=by simp[atKey,e']
   rw[pA e,b];show d
variable{y:V}
def KT.repl(r:KT H kvs C)(k:List Key)(f:aD y u):
  KT H (kvs.map λb=>if b.1=k then (b.1,y,) else b) (C.map (putAt k u)):=by
 induction r with
 |nil=>show .nil
 | @cons p q ps g h t d=>
  rw[bO,bO];show .cons ?_ d;have(a,h2,c):=h;unfold putAt
  by_cases e:p.1=k
  .rw[if_pos e,if_pos (a.symm.trans e)];show(a,h2,f)
  .rw[if_neg e,if_neg (λz=>e (a.trans z))];show(a,h2,c)
variable{b:Addr}
def KT.put(r:KT H kvs C)(k:List Key)(c:fK H b k)(a:aD y u):
  KT H (dR kvs k y) (storedH C k b u):=by
 have e:(kvs.any λd=>decide (d.1=k))=(atKey C k).isSome:=by
  rw[uE,(r.val k).isSome_eq,Option.isSome_map]
 unfold dR storedH;rw[e]
 by_cases q:(atKey C k).isSome=ac
 .rw[if_pos q,if_pos q];show r.repl k a
 .rw[if_neg q,if_neg q];show ic.snoc r (rfl,c,a)
def KT.keeps(r:KT H kvs C)(c:∀b a,H b=aa (.tup a)->H' b=aa (.tup a)):KT H' kvs C:=
 ic.mapP r λ_ _ z=>(z.1,z.2.1.up c,z.2.2)
def FO{u:HO}(ok:HOk P w H h)(e:Rd H a u):dY P w H h a u:=e.ok ok
def pE{kvs:List (Key×V)}(ok:HOk P w H h)(e:Rd H a (.dK kvs)):Z kvs<=aX/\(a==hX)=af/\∃vs,KV kvs vs/\h.DictOf (lK P w) a vs:=
 show dY P w H h a (.dK kvs)from FO ok e
def FP{kvs:List (Key×V)}(ok:HOk P w H h)(e:H a=aa (.dK kvs)):Z kvs<=aX/\(a==hX)=af/\∃vs,KV kvs vs/\h.DictOf (lK P w) a vs:=pE ok (.inl e)
variable{ks:List Key}
def pG(ok:HOk P w H h)(e:fK H a ks):(tupleKind (mZ P w)).is h ks a:=by
 have(vs,e,d):=e;have(_,L,r,o,b,h2,n,c):=(show dY P w H h a (.tup vs)from ok a _ e);show(o,L.toArray,n,b,h2,c,by simpa using EZ d r)
def pH(ok:HOk P w H h)(e:Rd H a (.dT kvs)):Z kvs<=aX/\(a==hX)=af /\
  ∃C,KT H kvs C/\h.DictOfH (tupleKind (mZ P w)) a C:=by
 have(z,y,C,r,o,es,d,f,h2,g,i,j):=(FO ok e);show(z,y,C,r,o,es,d,f,h2,g,i,λx b=>?_,j)
 have all:∀{l:List _} {m:List _},KT H l m->∀x∈m,(tupleKind (mZ P w)).is h x.1 x.2.1:=by
  intro l m q
  induction q with
  |nil=>intro x b;show nomatch b
  | @cons p q ps u c t n=>
   intro x b
   rcases bc.mp b with e |b
   .subst e;show pG ok (by rw[<- c.1];show c.2.1)
   .show n x b
 show all r x b
def FQ(ok:HOk P w H h)(e:H a=aa (.dT kvs)):Z kvs<=aX/\(a==hX)=af /\
  ∃C,KT H kvs C/\h.DictOfH (tupleKind (mZ P w)) a C:=pH ok (.inl e)
def fX(H:Hp)(a:Addr)(y:V)(r:Option V):Prop:=
 (∃kvs k,Rd H a (.dK kvs)/\y=kV k/\r=cS kvs k)\/∃kvs k b,Rd H a (.dT kvs)/\y=.ref b/\fK H b k/\r=cS kvs k
def lN(H:Hp)(a:Addr)(y v:V)(H':Hp):Prop:=
 (∃kvs k,H a=aa (.dK kvs)/\y=kV k/\Z kvs<aX/\H'=upd H a (.dK (dR kvs k v))) \/
 ∃kvs k b,H a=aa (.dT kvs)/\y=.ref b/\fK H b k/\Z kvs<aX/\H'=upd H a (.dT (dR kvs k v))
def fX.k{kvs:List (Key×V)}{k:Key}(e:H a=aa (.dK kvs)):fX H a (kV k) (cS kvs k):=.inl (kvs,k,.inl e,rfl,rfl)
def fX.t{k:List Key}(e:H a=aa (.dT kvs))(c:fK H b k):fX H a (.ref b) (cS kvs k):=.inr (kvs,k,b,.inl e,rfl,c,rfl)
variable{v:V}
def lN.k{kvs:List (Key×V)}{k:Key}(e:H a=aa (.dK kvs))(b:Z kvs<aX):lN H a (kV k) v (upd H a (.dK (dR kvs k v))):=.inl (kvs,k,e,rfl,b,rfl)
def lN.t{k:List Key}(e:H a=aa (.dT kvs))(c:fK H b k)(d:Z kvs<aX):
  lN H a (.ref b) v (upd H a (.dT (dR kvs k v))):=.inr (kvs,k,b,e,rfl,c,d,rfl)
variable{U:PNS}{E:St}
def Inv.big{s:ah}(I:Inv X U E H s):hX<s.heap.objs.size:=by
 show mK (by decide) ((I.mod.glob.keeps I.bk).lt)
variable{A:ca}{X4 Q:PRS}
def NI{s:ah}(G:A.units+1<cLine)(I:Inv X U E H s)(g:fX H a y (aa v))(q:aD y u)(h:∀f r,Inv X U E H r->aD v f->Q f r):
  wpAny (model X.prog X.w) A (getItem (.ref a) u) Q X4 s:=by
 rcases g with⟨kvs,k,e,j,l⟩ |⟨kvs,k,b,e,j,x,l⟩
 .subst j;have(z,hd,vs,c,i):=pE I.hok e;have(f,n,d):=e8.some_of (by rw[l];show c.val k);show wpAny_getItem_of (uF q) i.mapOf n (h f _ (I.tok _) d)
 .subst j;cases (q);have(z,hd,C,c,i):=pH I.hok e;have(f,n,d):=e8.some_of (by rw[l];show c.val k);have(p,B,m):=Option.map_eq_some_iff.mp n;show wpAny_getItem_heap (qX G) (pG I.hok x) i B ?_;rw[m];show h f _ (I.tok _) d
def NJ{s:ah}{o:Option V}(n:A.units+1<cLine)(I:Inv X U E H s)(g:fX H a y o)(i:aD y u)(h:∀j,Inv X U E H j->Q (.bool o.isSome) j):
  wpAny (model X.prog X.w) A (cg .In u (.ref a)) Q X4 s:=by
 rcases g with⟨kvs,k,e,f,l⟩ |⟨kvs,k,b,e,f,m,l⟩
 .subst f;have(z,hd,vs,c,d):=pE I.hok e;show wpAny_in_of (uF i) hd d.mapOf ?_;rw[<- (c.val k).isSome_eq,<- l];show h _ (I.tok _)
 .subst f;cases (i);have(z,hd,C,c,d):=pH I.hok e;show wpAny_in_heap (qX n) (pG I.hok m) hd d ?_;have q:=(c.val k).isSome_eq;rw[Option.isSome_map]at q;rw[<- q,<- l];show h _ (I.tok _)
variable{h':Heap}{t':Nat}
section
variable{s:ah}
def yw{c:HO}(I:Inv X U E H s)(g:Mut (H a))(f:gj a s.heap h')(e:∃q,h'.get? a=aa q)(new:dY X.prog X.w (upd H a c) h' a c):
  Inv X U E (upd H a c) {s with heap:=h',toks:=t'}:=
 I.write g (.inl rfl) (λb q d z=>(f.2 b d).trans z) e new
end
def NK{kvs:List (Key×V)}{vs:List (Key×Value)}(z:Z kvs<=aX)(hd:(a==hX)=af)(b:KV kvs vs)(c:h'.DictOf (lK P w) a vs):
  dY P w H' h' a (.dK kvs):=(z,hd,vs,b,c)
variable{r:Value}
def NL{s:ah}{Q:Unit->ah->Prop}(hu:A.units+1<cLine)(I:Inv X U E H s)(g:lN H a y v H')(L:aD y u)(J:aD v r)(h:∀M,Inv X U E H' M->Q () M):
  wpAny (model X.prog X.w) A (setItem (.ref a) u r) Q X4 s:=by
 rcases g with⟨kvs,k,e,n,l,m⟩ |⟨kvs,k,b,e,n,B,l,m⟩
 .subst n m;have(z,hd,vs,d,j):=FP I.hok e;have hz:Z vs<=aX:=by rw[<- d.length];show z
  have p:Z (dR kvs k v)<=aX:=by have:=yv kvs k v;lia
  show wpAny_setItem_pairs (uF L) j λh' f x=>h _ ?_;have he:∃q,h'.get? a=aa q:=let (q,_,_,i,_):=f;(q,i);show yw I (by rw[e];show iK) x he (NK p hd (d.put k J) f)
 .subst n m;cases (L);have(z,hd,C,d,j):=FQ I.hok e;have hz:Z C<=aX:=by rw[<- pc d];show z
  have p:Z (dR kvs k v)<=aX:=by have:=yv kvs k v;lia
  show wpAny_setItem_heap (qX hu) (pG I.hok B) j λh' f x=>h _ ?_;have(q,es,N,i,h2,T,Y,_,h5):=f;show yw I (by rw[e];show iK) x (q,i) (p,hd,_,(d.put k B J).keeps λc ys G=>?_,q,es,N,i,h2,T,Y,h5);rw[aN (E3 G e (λz=>nomatch z))];show G
def rA(i:Expr):Prop:=∀b a,subscripted i af b a=operate [b,a] (getItem b a)
variable{prog:ci}{env:Env}{value:Expr}
def NM{s:ah}{a:Expr}{T id:String}
 (l:mQ (.type T) "__getitem__"=pure (aa (.builtin id)))(m:rA a)
 (h:wpAny (model prog w) A (eval value env) (λo d=>wpAny (model prog w) A (eval a env) (λi b=>b.TypeIs o T/\wpAny (model prog w) A (getItem o i) Q X4 b) X4 d) X4 s):
  wpAny (model prog w) A (eval (.Subscript value a pos) env) Q X4 s:=by
 show Subscript_ (fR h (λo d f=>fR f (λi b c=>?_) λ_ _ x=>x) λ_ _ x=>x);have(j,c):=c;show ak ?_;show ak (ua j l ?_)
 have fin:wpAny (model prog w) A (subscripted a af o i) (λr e=>wpAny (model prog w) A (letTemporaryGo value o r >>= λ_=>pure r) Q X4 e) X4 b:=by
  rw[m o i];show wpAny_operating (fR c (λr e g=>ak (wpAny_letTemporaryGo (aE g))) λ_ _ x=>x)
 first
  |show aE (ak fin)
  |show ak _
  |show ak fin
def NN{s:ah}{o:Option V}(I:Inv X U E H s)(g:fX H a y o):s.TypeIs (.ref a) "dict":=by
 rcases g with⟨kvs,k,e,_,_⟩ |⟨kvs,k,b,e,_,_,_⟩
 .have(_,_,vs,_,c):=pE I.hok e;show c.typeIs
 .have(_,_,C,_,c):=pH I.hok e;show c.typeIs
def NO(b ty:TE):TE:=λE H Q=>b E H λx H1=>ty E H1 λy H2=>∃a v,x=.ref a/\fX H2 a y (aa v)/\Q v H2
def NP(ty b:TE):TE:=λE H Q=>ty E H λy H1=>b E H1 λx H2=>∃a o,x=.ref a/\fX H2 a y o/\Q (.bl o.isSome) H2
def yx(d ty e:TE):TS:=λD E H=>e E H λv H1=>d E H1 λx H2=>ty E H2 λy c=>∃a b,x=.ref a/\lN c a y v b/\D.nx E b
variable{i:Expr}{td:TE}
def yy{o:Expr}{ty:TE}(l:X.A.units+1<cLine)(f:PE X o td)(hi:PE X i ty)(j:rA i):PE X (.Subscript o i pos) (NO td ty):=by
 intro U s E H Q I h;show NM PySem.F.slot_dict_getitem.lookup j (thn (f U s E H _ I h) λu s1 (x,H1,d,q,m)=>thn (hi U s1 E H1 _ d m) λw s2 p=>?_);have(y,H2,c,r,a,v,ex,g,n):=p;subst ex;obtain rfl:u=e7 a:=q;show(NN c g,NI l c g r λB z e b=>(v,H2,e,b,n))
def NQ{o:Expr}{ty:TE}(f:X.A.units+1<cLine)(hi:PE X i ty)(e:PE X o td):PC X .In i o (NP ty td):=by
 intro U s E H Q I h;show thn (hi U s E H _ I h) λr s1 (y,H1,b,q,l)=>thn (e U s1 E H1 _ b l) λu s2 n=>?_;have(x,H2,c,p,a,j,ex,g,m):=n;subst ex;obtain rfl:u=e7 a:=p;show NJ f c g q λv d=>(.bl j.isSome,H2,d,rfl,m)
variable{bm:Pos}{tv:TE}
def FR{o:Expr}{ty:TE}(m:X.A.units+1<cLine)(j:PE X o td)(hi:PE X i ty)(hv:PE X value tv)(l:gh value (aa (.Subscript o i bm)) pos.line X.env=pure af):
  PS X (.Assign [.Subscript o i bm] value pos) (yx td ty tv):=by
 intro U s E H D I h;show wpAny_Assign_Subscript (thn (hv U s E H _ I h) λr s1 (v,H1,c,z,n)=>thn (j U s1 E H1 _ c n) λu s2 (x,H2,d,B,p)=>thn (hi U s2 E H2 _ d p) λJ L w=>?_) l;have(y,G,e,C,a,b,ex,g,q):=w;subst ex;obtain rfl:u=e7 a:=B;show NL m e g C z λM f=>(E,b,f,q)
def NR(h:Heap)(a:hX<h.objs.size):dY P w H (h.push {cls:=.type "dict",data:=.dict #[]}) h.objs.size (.dK []):=
 (cr _,beq_eq_false_iff_ne.mpr (eX (bY a)),[],.nil,Heap.DictOf.new h)
def NS(h:Heap)(a:hX<h.objs.size):dY P w H (h.push {cls:=.type "dict",data:=.dict #[]}) h.objs.size (.dT []):=
 (cr _,beq_eq_false_iff_ne.mpr (eX (bY a)),[],.nil,_,#[],0,cQ _ rfl,(rfl,rfl,rfl),rfl,rfl,fH)
def FS:TE:=λ_ H Q=>∀p,H p=ab->Q (.ref p) (upd H p (.dK []))
def NT:TE:=λ_ H Q=>∀p,H p=ab->Q (.ref p) (upd H p (.dT []))
def NU:PE X (.Dict [] [] pos) FS:=λU s E H Q I h=>
 wpAny_Dict_empty (.ref s.heap.objs.size,_,I.laid (λ_ _ q=>bG _ q) (aO _) (NR s.heap I.big),rfl,h _ (I.hok.fresh (aO _)))
def NV:PE X (.Dict [] [] pos) NT:=λU s E H Q I h=>
 wpAny_Dict_empty (.ref s.heap.objs.size,_,I.laid (λ_ _ q=>bG _ q) (aO _) (NS s.heap I.big),rfl,h _ (I.hok.fresh (aO _)))
structure M2(X:Cx)(o:Expr)(m:Str)(apos:Pos)(e f:Expr)(cpos:Pos):Prop where
 base:oY o m X.env (eval o X.env)=eval o X.env
 few : ((cj cpos (aQ [e,f] X.env)).all (λx=>!x.1) && (iH cpos (iG [] X.env)).all (λx=>x.1.isSome)
  && decide (Z ([e,f]:LEx)+Z ([]:List Keyword)+(if ([]:List Keyword).isEmpty then 0 else 1)<30))=ac
 line:(apos.endLine==cpos.line)=ac
 trees:cj cpos (aQ [e,f] X.env)=[(af,eval e X.env,),(af,eval f X.env,)]
def IsD(H:Hp)(a:Addr):Prop:=(∃kvs,Rd H a (.dK kvs))\/∃kvs,Rd H a (.dT kvs)
def FT{s:ah}(I:Inv X U E H s)(d:IsD H a):
  s.TypeIs (.ref a) "dict" /\ (∀b,e7 a=.ref b->∃c,s.heap.get? b=aa c/\c.dict=ab)/\(a==hX)=af:=by
 rcases d with⟨kvs,e⟩ |⟨kvs,e⟩
 .have(_,hd,vs,_,f):=pE I.hok e;show(f.typeIs,λb q=>?_,hd);cases q;have(c,_,_,g,h2,_):=f;show(c,g,h2.2.1)
 .have(_,hd,C,_,f):=pH I.hok e;show(f.typeIs,λb q=>?_,hd);cases q;have(c,_,_,g,h2,_):=f;show(c,g,h2.2.1)
variable{d:V}
def NW{s:ah}{o:Option V}(q:A.units+1<cLine)(I:Inv X U E H s)(g:fX H a y o)(j:aD y u)(rd:aD d r)(h:∀n m,Inv X U E H m->aD (o.getD d) n->Q n m):
  wpAny (model X.prog X.w) A (call (.builtin "dict.get") [.ref a,u,r]) Q X4 s:=by
 rcases g with⟨kvs,k,e,i,l⟩ |⟨kvs,k,b,e,i,p,l⟩
 .subst i;have(z,hd,vs,c,f):=pE I.hok e;show call_meetsIn xL f.typeIs PySem.F.entry_dict_get (PySem.F.args_dict_get_3 _ _ _) (meets_dict_get_default _ a (uF j) hd r) (_,f.mapOf,h _ _ (I.tok _) ?_);rw[l];show(c.val k).getD rd
 .subst i;cases (j);have(z,hd,C,c,f):=pH I.hok e;show call_meetsIn xL f.typeIs PySem.F.entry_dict_get (PySem.F.args_dict_get_3 _ _ _) (meetsH_dict_get_default _ a b hd r) (qX q,k,C,pG I.hok p,f,h _ _ (I.tok _) ?_);rw[l];show(c.val k).getD rd
def NX(td ty c:TE):TE:=λE H Q=>td E H λx H1=>∃a,x=.ref a/\IsD H1 a/\ty E H1 λy H2=>c E H2 λz b=>∃o,fX b a y o/\Q (o.getD z) b
variable{e f:Expr}{apos cpos:Pos}{tx:TE}
def yA{o:Expr}{ty:TE}(v:X.A.units+1<cLine)(r:PE X o td)(p:PE X e ty)(q:PE X f tx)(m:M2 X o "get" apos e f cpos):PE X (.Call (.Attribute o "get" apos) [e,f] [] cpos) (NX td ty tx):=by
 intro U s E H Q I h;show wpAny_Call_method m.base m.few m.line PySem.F.plainAttrs_dict xL PySem.F.type_dict_get (thn (r U s E H _ I h) λu s1 G=>?_);have(x,H1,c,J,a,ex,d,w):=G;subst ex;obtain rfl:u=e7 a:=J;have(t1,N,_):=FT c d;show(t1,N,?_);rw[m.trees]
 show xD rfl (xE (jh (thn (p U s1 E H1 _ c w) λY s2 (y,H2,j,L,B) =>
  jh (thn (q U s2 E H2 _ j B) λT s3 (z,i,l,M,ov,g,C)=>xF ?_))))
 show NW v l g L M λw' s4 n b=>(_,i,n,b,C)
section
variable{κ:Type}[DecidableEq κ]
end
end L2
set_option maxHeartbeats 4000000
namespace L2
open List
open PySem
def yB{env:Env}(f:(Str×gi)->List (Str×Addr)->Sem (ForInStep (List (Str×Addr))))
 (i:∀n k r,k≠fU->f (n,k,) r=pure (.yield r))
 (h2:∀n r c,env.cells.lookup n=aa c->f (n,.free,) r=pure (.yield ((n,c,)::r))):
  ∀(l:List (Str×gi)) (a:List (Str×Addr)),(∀x∈l,x.2=.free->∃c,env.cells.lookup x.1=aa c) ->
   (∀x c,a.lookup x=aa c->env.cells.lookup x=aa c) ->
   ∃cl,forIn l a f=(pure cl:Sem _)/\(∀x c,cl.lookup x=aa c->env.cells.lookup x=aa c) /\
    (∀x,((∃c,a.lookup x=aa c)\/(x,fU,)∈l)->∃c,cl.lookup x=aa c)
 | [],a,_,ha=>(a,rfl,ha,λx d=>d.elim id (λz=>nomatch z))
 |(n,k,)::l,a,hl,ha=>by
  have b:=λx d=>hl x (bp _ d)
  by_cases u:k=.free
  .subst u;have(c,p):=hl _ aA rfl;have q:=p
   have h:∀x g,((n,c,)::a).lookup x=aa g->env.cells.lookup x=aa g:=λx g d=>by
    grind
   have(cl,e,j,m):=yB f i h2 l _ b h
   grind
  .have(cl,e,j,m):=yB f i h2 l a b ha
   grind
variable{scope:Scope}{env:Env}
def FU(h:∀x∈scope.names,x.2=.free->∃c,env.cells.lookup x.1=aa c):
  ∃cl,closureFor scope env=pure cl/\(∀x c,cl.lookup x=aa c->env.cells.lookup x=aa c)/\(∀x,(x,fU,)∈scope.names->∃c,cl.lookup x=aa c):=by
 have (cl,e,b,d):=yB (λx r=>(match x with
   |(name,kind)=>if (kind==fU)=ac then (do let a <- cellOf env name;pure (oJ ((name,a,)::r))) else (pure (oJ r):Sem _)))
  (λn k r g=>by
   have:(k==fU)=af:=by simpa using g
   simp only[this,Bool.false_eq_true,if_false])
  (λn r c f=>by
   simp only[beq_self_eq_true,if_true,cellOf,f,pure_bind])
  scope.names [] h (λx c z=>by nomatch z)
 show(cl,?_,b,λx i=>d x (.inr i));show(congrArg _ ?_).trans ((congrArg (λt=>t >>= pure) e).trans (pure_bind _ _));rfl
nonrec abbrev E00:Value->ah->Prop:=λ_ _=>False
variable{prog:ci}{w:World}{A:ca}{R:Result->ah->Prop}{c3 iter:Expr}{cs:LEx}{pos:Pos}
section
variable{s:ah}
def NY{a:Expr}{it u:Value}(I:Nat->ah->Prop)
 (C:∀ n s,I n s->wpAny (model prog w) A (ib it) (λr d=>match r with
   |none=>R (.ok .next) d
   | some v=>wpAny (model prog w) A (letOwnedTupleGo a it v) (λ_ e=>wpAny (model prog w) A (assign a env v) (λ_ j =>
     wpAny (model prog w) A (forIn cs ac λc r=>if r=ac then do let ok <- isTrue c env (eval c env); pure (oJ ok) else pure (oJ r)) (λok f =>
      if ok=ac then wpAny (model prog w) A (eval c3 env) (λx l =>
       wpAny (model prog w) A (call (.builtin "list.append") [u,x]) (λ_ p=>∃m,m<n/\I m p) (notedBy (model prog w) A env λx b=>R (.error x) b) l) (notedBy (model prog w) A env λx b=>R (.error x) b) f
      else ∃m,m<n/\I m f) (notedBy (model prog w) A env λx b=>R (.error x) b) j) (notedBy (model prog w) A env λx b=>R (.error x) b) e) (notedBy (model prog w) A env λx b=>R (.error x) b) d) (notedBy (model prog w) A env λx b=>R (.error x) b) s)
 (n:Nat)(h:I n s):
  gK (model prog w) A (.compLoop (.ListComp c3 [(a,iter,cs,0)] scope pos) 0 it u env) R s:=by
 show codeAny_loop rfl I (λn s E=>?_) n h;show wpAny_noted ?_;show ak (wpAny_standAt (ak (fR (C n s E) (λr d g=>?_) λ_ _ h'=>h')))
 cases r with
 |none=>show aE g
 |some v=>
  show ak (fR g (λ_ e q=>?_) λ_ _ h'=>h');show ak (fR q (λ_ j y=>ak (fR y (λok f i=>?_) λ_ _ h'=>h')) λ_ _ h'=>h')
  cases ok with
  |false=>show aE (rfl,i)
  |true=>
   show ak (ak (fR i (λx l z=>ak (fR z (λ_ p B=>aE (aE (rfl,B))) λ_ _ h'=>h')) λ_ _ h'=>h'))
end
open PySem.Spec PyProof.Rows
nonrec def Cx.comp(X:Cx)(scope:Scope)(Nc:LSt)(cl:List (Str×Addr))(X5:Addr)(ex:LAd)(b:ah)(a:Hp):Cx:=
 {X with N:=Nc,s₀:=b,H₀:=a,env:=compEnvC scope cl X5 X.env,outer:=X.stack,ex:=ex,fn:=λ_=>af,pn:=[],xe:=E00}
def yC{env:Env}:∀{names:List (Str×gi)} {x:Str},names.lookup x=aa .free ->
  (names.map λ(n,k,)=>if (k==fU && env.scope.kind==.function && env.kindOf n==aa .cell) then (n,mT,) else (n,k,)).lookup x=aa .cell \/
  (names.map λ(n,k,)=>if (k==fU && env.scope.kind==.function && env.kindOf n==aa .cell) then (n,mT,) else (n,k,)).lookup x=aa .free
 | [],_,h=>by simp at h
 |(n,k,)::r,x,h=>by
  have a:=@yC env r x
  grind
def yD{env:Env}{a:gi}(b:a=.cell\/a=.free):∀{names:List (Str×gi)} {x:Str},
  (names.map λ(n,k,)=>if (k==fU && env.scope.kind==.function && env.kindOf n==aa .cell) then (n,mT,) else (n,k,)).lookup x=aa a ->
  (x,fU,)∈names\/(x,mT,)∈names
 | [],_,h=>by simp at h
 |(n,k,)::r,x,h=>by
  have h':List.lookup x ((if _=ac then _ else _)::_)=aa a:=h
  cases c:x==n with
  |true=>
   have e:=eq_of_beq c;subst e;split at h'
   .rename_i d
    have f:k=.free:=by
     rw[b6,b6]at d;show eq_of_beq d.1.1
    subst f;show .inl aA
   .simp only[mG,c]at h';have e:=cP h';subst e
    rcases b with z |z
    .subst z;show .inr aA
    .subst z;show .inl aA
  |false=>
   have h2:(r.map λ(n,k,)=>if (k==fU && env.scope.kind==.function && env.kindOf n==aa .cell) then (n,mT,) else (n,k,)).lookup x=aa a:=by
    split at h' <;> (rw[mG,c]at h';show h')
   rcases(@yD env a b r x) h2 with z |z
   .show .inl (bp _ z)
   .show .inr (bp _ z)
def lO(scope:Scope)(outer:List (Str×gi))(N Nc:LSt)(k:Nat)(js:LN):Bool:=
 scope.names.all (λx=>(x.2 != .free || outer.lookup x.1==aa .cell || outer.lookup x.1==aa .free) && x.2 != .cell && (x.2 != .local || scope.names.lookup x.1==aa .local)) &&
 scope.kind==.function && Z Nc==k+Z js &&
 (bI (Z js)).all (λi=>match Nc[k + i]?,js[i]? with
  |some x,aa j=>N[j]?==aa x && scope.names.lookup x==aa .free
  | _,_=>af)
structure pI(scope:Scope)(outer:List (Str×gi))(N Nc:LSt)(k:Nat)(js:LN):Prop where
 free:∀x∈scope.names,x.2=.free->outer.lookup x.1=aa .cell\/outer.lookup x.1=aa .free
 nocell:∀x∈scope.names,x.2≠.cell
 loc:∀x∈scope.names,x.2=.local->scope.names.lookup x.1=aa .local
 kind:scope.kind=.function
 len:Z Nc=k+Z js
 at':∀i j,js[i]?=aa j->∃x,Nc[k+i]?=aa x/\N[j]?=aa x/\scope.names.lookup x=aa .free
variable{N Nc:LSt}{js:LN}
def pI.of{outer:List (Str×gi)}{k:Nat}(h:lO scope outer N Nc k js=ac):pI scope outer N Nc k js:=by
 unfold lO at h;rw[b6,b6,b6]at h;have(((b,h2),d),c):=h;rw[all_eq_true]at b c;show(λx a e=>?_,λx a e=>?_,λx a e=>?_,eq_of_beq h2,eq_of_beq d,λi j e=>?_)
 .have:=b x a;simp only[b6,ki,bne_iff_ne,beq_iff_eq]at this
  rcases this.1.1 with(z |z) |z
  .show absurd e z
  .show .inl z
  .show .inr z
 .have:=b x a;simp only[b6,bne_iff_ne]at this;show this.1.2 e
 .have:=b x a;simp only[b6,ki,bne_iff_ne,beq_iff_eq]at this
  rcases this.2 with z |z
  .show absurd e z
  .show z
 .have hi:=(dh.mp e).1;have:=c i (fG.mpr hi);rw[e]at this
  cases q:Nc[k+i]? with
  |none=>simp only[q]at this;nomatch this
  |some x=>
   rw[q]at this;simp only[b6,beq_iff_eq]at this;show(x,rfl,this.1,this.2)
def jq(k:Nat)(js:LN)(E:St):St:=hJ k ab++js.map λj=>(E[j]?).getD ab
def PTs(X:Cx)(cs:LEx)(t:TT):Prop:=
 ∀(U:PNS) (s:ah) (E:St) (H:Hp) (Q:Bool->Hp->Prop),Inv X U E H s->t E H Q ->
  wpAny (model X.prog X.w) X.A (forIn cs ac λc r=>if r=ac then do let ok <- isTrue c X.env (eval c X.env);pure (oJ ok) else pure (oJ r)) (TP X U E Q) X.xe s
def NZ:TT:=λ_ H Q=>Q ac H
variable{X:Cx}
def N0:PTs X [] NZ:=λ_ _ _ H _ I h=>wpAny_tests_nil (H,I,h)
def N1{c:Expr}{t:TT}(h:PT X c t):PTs X [c] t:=λU s E H Q I q=>wpAny_tests_one (h U s E H Q I q)
def yE(J:It)(g:TG)(tt:TT)(te:TE)(h:St)(j:Hp)(Q:VK):Prop:=
 ∃W:Nat->Nat->LVv->St->Hp->Prop,(∃m,W 0 m [] h j)/\∀i m c σ' H',W i m c σ' H' ->
  (J.stop i H'/\Z c<=aX/\∀D,j D=ab->H' D=ab->Q (.ref D) (upd H' D (.lst c))) \/
  (J.go i H'/\Z c<=aX/\∃ N : LVv->St->Hp->Prop,(∀ e f d,N e f d->∃ n,n < m/\W (i + 1) n e f d) /\
   ∀x d,J.yld i H' x d->g x σ' d λa p=>tt a p λb l=>if b=ac then te a l λy q=>N (c++[y]) a q else N c a l)
def pJ(k:Nat)(js:LN)(b:TI)(g:TG)(tt:TT)(te:TE):TE:=λE H Q=>b E H λJ a=>yE J g tt te (jq k js E) a Q
nonrec def Cx.to(X:Cx)(pn:PNS)(xe:PRS):Cx:={X with pn:=pn,xe:=xe}
variable{Y:Cx}{xe:PRS}{U:PNS}{E:St}{H:Hp}
def FV{s:ah}(I:Inv Y U E H s):Inv {Y with xe:=xe} U E H s:=
 ((I.ok.mod,I.ok.kind,I.ok.glob,I.ok.blt,I.ok.above,I.ok.inj,I.ok.has,I.ok.cab,I.ok.hd,I.ok.frames,I.ok.stk,I.ok.exf,I.ok.bs,I.ok.bsz,I.ok.noex,I.ok.exfs,I.ok.funs,I.ok.frf),I.os,I.bare,I.base,I.loc,I.cell,I.free,I.freeC,I.pin,I.hok,I.len)
def FW{s:ah}(I:Inv {Y with xe:=xe} U E H s):Inv Y U E H s:=
 ((I.ok.mod,I.ok.kind,I.ok.glob,I.ok.blt,I.ok.above,I.ok.inj,I.ok.has,I.ok.cab,I.ok.hd,I.ok.frames,I.ok.stk,I.ok.exf,I.ok.bs,I.ok.bsz,I.ok.noex,I.ok.exfs,I.ok.funs,I.ok.frf),I.os,I.bare,I.base,I.loc,I.cell,I.free,I.freeC,I.pin,I.hok,I.len)
variable{e:Expr}{t:TE}
def PE.to0(h:PE {Y with pn:=[],xe:=E00} e t):PE {Y with pn:=[],xe:=xe} e t:=λU s E H Q I q=>
 fR (h U s E H Q (FW I) q) (λu c (v,H',a,r,b)=>(v,H',FV a,r,b)) λ_ _ z=>z.elim
nonrec def j4(us:LVa)(n:Nat):Obj:={cls:=.type "list",data:=.seq us.toArray n}
variable{tg:Expr}{g:TG}{tt:TT}{te:TE}{H2:Hp}{s2:ah}{it:Addr}{fp:LAd}{tn:Nat->Heap->Prop}{J:It}{Q:VK}{RR:Value->Addr->Result->ah->Prop}{X4:PRS}
def N2{k:Nat}{PX:Cx->Prop}{cl:List (Str×Addr)}
 (hc:X.calm=ac)(ck:pI scope X.env.scope.names X.N Nc k js)
 (hg:∀cl X5 ex I H,PG (X.comp scope Nc cl X5 ex I H) tg g)(ht:∀cl X5 ex I H,PTs (X.comp scope Nc cl X5 ex I H) cs tt)(he:∀cl X5 ex I H xe,PX ((X.comp scope Nc cl X5 ex I H).to [] xe)->PE ((X.comp scope Nc cl X5 ex I H).to [] xe) c3 te)
 (a1:∀x c,cl.lookup x=aa c->X.env.cells.lookup x=aa c)(a2:∀x,(x,fU,)∈scope.names->∃c,cl.lookup x=aa c)
 (G:Inv X U E H2 s2)(T:kL X.prog X.w X.K tg J fp it tn)(st2:tn 0 s2.heap)(f2:∀b∈fp,ik X U H2 b)(hW:yE J g tt te (jq k js E) H2 Q)
 (hRR:∀(D X5:Addr) (s':ah) (H':Hp),Inv X U E H' s'->(∃m,s'.heap.Ns X5 m)->ik X U H' X5->Q (.ref D) H'->RR (.ref D) X5 (.ok .next) s')
 (hPX:∀D X5,s2.heap.objs.size=D->D<X5->(∀b∈frs X.stack,b<D)->PX ((X.comp scope Nc cl X5 fp s2 H2).to [] (notedBy (model X.prog X.w) X.A (compEnvC scope cl X5 X.env) λx s'=>RR (.ref D) X5 (.error x) s'))):
  wpAny (model X.prog X.w) X.A (newList []) (λc2 s₃=>wpAny (model X.prog X.w) X.A (newFunctionEnv scope X.env.globals cl [] X.env.qual ab .none (aa X.env)) (λcenv s₄ =>
   gK (model X.prog X.w) X.A (.compStart (.ListComp c3 [(tg,iter,cs,0)] scope pos) 0 (.ref it) c2 {cenv with scope:=relabel scope X.env}) (RR c2 cenv.locals) s₄) X4 s₃) X4 s2:=by
 have(W,(m0,w0),turn):=hW;show je (wpAny_newFunctionEnv ck.nocell (by intro y hy;simp at hy) (λh₁ B h=>?_) ck.kind);dsimp only at B h ⊢;generalize hP:s2.heap.push {cls:=.type "list",dict:=ab,data:=.seq ([]:LVa).toArray}=P at B h ⊢;generalize hD:s2.heap.objs.size=D at hP B h ⊢;have hCs:P.objs.size=D+1:=by rw[<- hP,ji,hD]
 generalize hC:P.objs.size=X5 at hCs B h ⊢;have hDC':D<X5:=by rw[hCs];show di _
 have hDC:D≠X5:=bY hDC';have below:∀b o,s2.heap.get? b=aa o->b<D:=λb o e=>hD▸bF e
 have old:∀b o,s2.heap.get? b=aa o->h₁.get? b=aa o:=λb o e=>by
  have f:=below b o e;show h.extBut b o (bY (mK f hDC')) (bG _ (hP▸bG _ e))
 have hDo:h₁.get? D=aa (j4 [] 0):=h.extBut _ _ hDC (bG _ (by rw[<- hP,<- hD];show cQ _ rfl));have Hn:∀b,D<=b->H2 b=ab:=λb f=>G.hok.fresh (by lia);have fpo:∀b∈fp,b<D:=λb f=>by have(o,e,_):=T.obj 0 _ st2 b f;show below b o e
 have clo:∀x c,cl.lookup x=aa c->c<D:=λx c e=>by
  have(v,o,ho,_):=G.cell x c (a1 x c e);show below c o ho
 have stko:∀b∈frs X.stack,b<D:=λb f=>by
  have(_,o,ho,_):=G.stack.mem f;show below b o ho
 let Y:Cx:=X.comp scope Nc cl X5 fp s2 H2
 have yk:Y.Ok:=by
  show(G.ok.mod,ck.kind,G.ok.glob,G.ok.blt,?_,?_,?_,?_,G.ok.hd,G.ok.frames,.inl rfl,?_,G.bs,?_,?_,?_,G.stack,G.stkFree)
  .change s2.heap.objs.size<=X5;lia
  .show λx y c h1 h2=>G.ok.inj x y c (a1 x c h1) (a1 y c h2)
  .intro x hx
   have:(x,fU,)∈scope.names\/(x,mT,)∈scope.names:=by
    rcases hx with hx |hx
    .show yD (.inl rfl) hx
    .show yD (.inr rfl) hx
   rcases this with z |z
   .show a2 x z
   .show absurd rfl (ck.nocell _ z)
  .show λx c z=>nomatch z
  .intro b f;show(?_,λx c e=>?_)
   .show bY (mK (fpo b f) hDC')
   .show(f2 b f).2.2.2.2.1 x c (a1 x c e)
  .show cZ G.ok.bsz G.sz
  .intro b o e f
   rcases(f2 b f).2.2.2.1 with z |z
   .show G.ok.noex b o e z
   .show absurd (fI (bF e) (cZ G.ok.bsz z)) (gH _)
  .intro b f z
   rcases bc.mp (G.stkSub b z)with e |e
   .show(f2 b f).2.1 e
   .show(f2 b f).2.2.1 e
 have I4:Inv Y [(D,j4 [] 0,)] (jq k js E) H2 {s2 with heap:=h₁,toks:=s2.toks+Z ([]:List (Str×Value))}:=by
  show(yk,rfl,G.bare,Un.kept old,(_,B,λi x v e1 L e3=>?_),λx c e=>?_,Hn X5 (by lia),λx c e=>G.freeC x c (a1 x c e),λp M=>?_,G.hok.kept old,?_)
  .have e1:Nc[i]?=aa x:=e1;unfold jq at L
   have hik:k<=i:=by
    rcases Nat.lt_or_ge i k with z |z
    .rw[mw (by simpa using z),oM]at L;simp[z]at L
    .show z
   rw[oK (by simpa using hik),cz]at L;simp only[mx]at L
   cases q:js[i-k]? with
   |none=>rw[q]at L;cases L
   |some j=>
    rw[q]at L;have(x',q1,q2,q3):=ck.at' _ _ q;rw[show k+(i-k)=i by lia,e1]at q1;cases q1;have L:(E[j]?).getD ab=aa v:=cP L
    have e2':E[j]?=aa (aa v):=by
     cases z:E[j]? with
     |none=>rw[z]at L;nomatch L
     |some y=>rw[z]at L;rw[show y=aa v from L]
    have hmem:(x,fU,)∈scope.names:=by
     have:∀l:List (Str×gi),l.lookup x=aa .free->(x,fU,)∈l:=by
      intro l
      induction l with
      |nil=>intro z;nomatch z
      |cons a l ih=>
       intro z;have(n,kk):=a;simp only[mG]at z
       cases f:x==n with
       |true=>
        rw[f]at z;cases z
        rw[eq_of_beq f];show aA
       |false=>rw[f]at z;show bp _ (ih z)
     show this _ q3
    have hout:X.env.kindOf x=aa .cell\/X.env.kindOf x=aa .free:=ck.free _ hmem rfl;have(m,hn,hl):=G.loc
    have vis:Vis X.env.scope x:=by
     rcases hout with z |z
     .show .inr (.inl z)
     .show .inr (.inr z)
    have(u,r,l):=hl j x v q2 e2' vis;show(u,r,.inr (yC q3,?_))
    rcases l with⟨z,_⟩ |⟨_,c,hcl,hcell⟩
    .rcases hout with y |y <;> (rw[y]at z;nomatch z)
    .have(c',hc'):=a2 x hmem;have:=a1 x c' hc';rw[hcl]at this;cases this;show(c,hc',hcell.keeps old)
  .have(v,z):=G.cell x c (a1 x c e);show(v,z.keeps old)
  .have M:p∈[(D,j4 [] 0,)]:=(bw.mp M).elim (λz=>nomatch (show p∈([]:PNS)from z)) id;have M:=bv.mp M;subst M;show⟨hDo,Hn D (aO _),hDC,λz=>?_,λv z=>by nomatch z⟩;show absurd (stko D z) (gH _)
  .change(jq k js E).length=Z Nc;rw[ck.len];simp[jq]
 have st1:=T.keep 0 _ _ st2 λb _ o e=>old b o e
 have fpY:∀{H':Hp} {p:PNS},(∀q∈p,q.1=D)->(∀b∈fp,H' b=ab)->∀b∈fp,ik Y p H' b:=λ{H' p} M hn b f=>by
  show(hn b f,(yk.exf b f).1,yk.exfs b f,.inl f,λx c e=>(yk.exf b f).2 x c e,λq hq=>?_);rw[M q hq];show lz (fpo b f)
 let xe:Value->ah->Prop:=notedBy (model X.prog X.w) X.A (compEnvC scope cl X5 X.env) λx s'=>RR (.ref D) X5 (.error x) s'
 have M:=hPX D X5 hD hDC' stko
 have loop:gK (model X.prog X.w) X.A (.compLoop (.ListComp c3 [(tg,iter,cs,0)] scope pos) 0 (.ref it) (.ref D) (compEnvC scope cl X5 X.env)) (RR (.ref D) X5) {s2 with heap:=h₁,toks:=s2.toks+Z ([]:List (Str×Value))}:=by
  show NY (λn s'=>∃i ys us nn σ' H',Inv Y [(D,j4 us nn,)] σ' H' s'/\tn i s'.heap/\(∀b∈fp,H' b=ab)/\aI ys us/\W i n ys σ' H') ?_ m0
   (0,[],[],0,jq k js E,H2,I4,st1,λb f=>(f2 b f).1,.nil,w0)
  rintro n s3 ⟨i,ys,us,nn,σ3,H3,I3,st3,fr3,rv,w3⟩
  have one:∀q∈[(D,j4 us nn,)],q.1=D:=λq hq=>by
   have:q=(D,j4 us nn,):=by simpa using hq
   rw[this]
  rcases turn i n ys σ3 H3 w3 with⟨stop,hz,qn⟩ |⟨go,hz,N,hN,step⟩
  .show thn (T.done Y rfl rfl rfl hc i _ s3 σ3 H3 _ I3 (fpY one fr3) st3 stop) λr s4 (hr,I5)=>?_;subst hr;have(pD,nD,_,_,_):=I5.pin (D,j4 us nn,) (by simp);have bs:=I5.base;have h2D:∀b o,H2 b=aa o->b≠D:=λb o e z=>by rw[z,Hn D (aO _)]at e;nomatch e
   have I6:Inv X U E (upd H3 D (.lst ys)) s4:=by
    show G.call' (ch:=fp) I5.os (bs.keep,bs.slot,λb o e n hx=>?_,bs.there,λb C e=>?_,λb o u e=>?_,λb ps e=>?_) (λb u e=>?_) I5.bare λb f=>?_
    .rw[aN (bY (below b o e))];show bs.free b o e n hx
    .rw[aN (h2D b _ e)];show bs.tups b C e
    .rw[aN (h2D b _ e)];show bs.frzs b o u e
    .rw[aN (h2D b _ e)];show bs.tbls b ps e
    .by_cases f:b=D
     .subst f;rw[be]at e;cases e;show(hz,us,nn,rv,pD)
     .rw[aN f]at e;show(I5.hok b u e).stay (λc v _ q=>q) (λc q=>by rw[aN (fL q nD)];show q) λc C q=>by rw[aN (fL q nD)];show q
    .have(_,f1,_,f3,f4,f5):=f2 b f;show(f3,f1,f4,f5)
   have(m,hn,_):=I5.loc;show hRR D X5 s4 _ I6 (m,hn) (G.fpOk (by lia) ?_) (qn D (Hn D (aO _)) nD);rw[aN hDC.symm];show I5.free
  .show thn (T.item Y rfl rfl rfl hc i _ s3 σ3 H3 _ I3 (fpY one fr3) st3 go) λr s4 q_=>?_;have(u,hr,h4):=q_;subst hr;show thn h4 λ_ s5 q_=>?_;have(x,H5,I5,r5,y5,st5,fr5):=q_;have I5':=I5.pinned (fpY one fr5) (T.obj _ _ st5);show fR (hg cl X5 fp s2 H2 _ s5 σ3 H5 x u _ I5' r5 (step x H5 y5)) (λ_ s6 (σ6,H6,I6,q6)=>?_) λ_ _ z=>z.elim;show fR (ht cl X5 fp s2 H2 _ s6 σ6 H6 _ I6 q6) (λb s7 (H7,I7,q7)=>?_) λ_ _ z=>z.elim
   have kp:∀{H8:Hp} {s8:ah},Inv Y ([(D,j4 us nn,)]++ut fp s5.heap) σ6 H8 s8->tn (i+1) s8.heap/\(∀b∈fp,H8 b=ab):=λ{H8 s8} I8=>by
    show(T.keep _ _ _ st5 λb f o e=>(I8.pin (b,o,) (cq _ (cq _ (uu f e)))).1,λb f=>?_);have(o,e,d):=T.obj _ _ st5 b f;show(I8.pin (b,o,) (cq _ (cq _ (uu f e)))).2.1
   cases b with
   |false=>
    have(m',hm,w7):=hN _ _ _ q7;have(st7,fr7):=kp I7
    show(m',hm,i+1,ys,us,nn,σ6,H7,I7.unpinned,st7,fr7,rv,w7)
   |true=>
    show thn (he cl X5 fp s2 H2 xe M _ s7 σ6 H7 _ (FV I7) q7) λuy s8 q_=>?_;have(y,H8,I8',r8,q8):=q_;have I8:=FW I8';have(m',hm,w8):=hN _ _ _ q8;have(st8,fr8):=kp I8;have(pD,nD,pC,pF,_):=I8.pin (D,j4 us nn,) (by simp);have hl:=rv.length
    show wpAny_list_append_plain (items:=us.toArray) (nn,pD) (λh' hl' sb=>?_) (by simp only[size_toArray] <;> lia)
    have(n',e'):=hl';have I8n:Inv Y [] σ6 H8 s8:=I8.pins_of (λ_ z=>nomatch z);have I9:=I8n.turned (t':=s8.toks) (it:=D) (λb o f e=>(sb.2 b f).trans e) nD pC (.inr (by change s2.heap.objs.size<=D;lia)) (λx c e=>bY (clo x c e)) (λp M=>nomatch M);show(m',hm,i+1,ys++[y],us++[uy],n',σ6,H8,I9.pins_of (λp M=>?_),?_,fr8,rv.append (.cons r8 .nil),w8)
    .have M:p=(D,j4 (us++[uy]) n',):=by simpa using M
     subst M;show⟨?_,nD,pC,pF,λv z=>by nomatch z⟩;have L:=e';rw[L];simp
    .show T.keep _ _ _ st8 λb f o e=>(sb.2 b (bY (fpo b f))).trans e
 show codeAny_compStart_list loop (T.self X.A 0 _ _ _ st1 loop)
def FX{k:Nat}{cl:List (Str×Addr)}
 (v:X.calm=ac)(u:pI scope X.env.scope.names X.N Nc k js)
 (z:∀cl X5 ex d a,PG (X.comp scope Nc cl X5 ex d a) tg g)(B:∀cl X5 ex d a,PTs (X.comp scope Nc cl X5 ex d a) cs tt)(y:∀cl X5 ex d a,PE (X.comp scope Nc cl X5 ex d a) c3 te)
 (q:∀x c,cl.lookup x=aa c->X.env.cells.lookup x=aa c)(r:∀x,(x,fU,)∈scope.names->∃c,cl.lookup x=aa c)
 (p:Inv X U E H2 s2)(T:kL X.prog X.w X.K tg J fp it tn)(n:tn 0 s2.heap)(f2:∀b∈fp,ik X U H2 b)(hW:yE J g tt te (jq k js E) H2 Q)
 (j:∀(D X5:Addr) (l:ah) (H':Hp),Inv X U E H' l->(∃m,l.heap.Ns X5 m)->ik X U H' X5->Q (.ref D) H'->RR (.ref D) X5 (.ok .next) l):
  wpAny (model X.prog X.w) X.A (newList []) (λf h=>wpAny (model X.prog X.w) X.A (newFunctionEnv scope X.env.globals cl [] X.env.qual ab .none (aa X.env)) (λe i =>
   gK (model X.prog X.w) X.A (.compStart (.ListComp c3 [(tg,iter,cs,0)] scope pos) 0 (.ref it) f {e with scope:=relabel scope X.env}) (RR f e.locals) i) X4 h) X4 s2:=
 N2 (PX:=λ_=>True) v u z B (λcl X5 ex d a xe _=>PE.to0 (y cl X5 ex d a)) q r p T n f2 hW j λ_ _ _ _ _=>trivial
variable{wi:TI}
def N3(k:Nat)(js:LN)(Nc:LSt)(G:X.calm=ac)(hi:PI X tg iter wi)
 (M:∀cl X5 ex c a,PG (X.comp scope Nc cl X5 ex c a) tg g)(ht:∀cl X5 ex c a,PTs (X.comp scope Nc cl X5 ex c a) cs tt)(L:∀cl X5 ex c a,PE (X.comp scope Nc cl X5 ex c a) c3 te)
 (d:autoParam (lO scope X.env.scope.names X.N Nc k js=ac) Zb)(Y:autoParam (∀x,lB iter X.env x=pure x) Zd):
  PE X (.ListComp c3 [(tg,iter,cs,0)] scope pos) (pJ k js wi g tt te):=by
 intro U s E H Q I h;have d:=pI.of d;have(cl,f,p,r):=FU λx hx e=>I.ok.has x.1 (d.free x hx e);show wpAny_comprehension_free rfl Y f d.kind d.loc (thn (hi U s E H _ I h) λv s1 B=>thn B λitv s2 h2=>?_);have(it,fp,tn,J,H2,e,n,T,j,f2,hW):=h2;subst e;show FX G d M ht L p r n T j f2 hW λD X5 s' H' l (m,hn) A q=>?_;have(u,f1,_,w,y,z):=A;show(m,hn,λh' i=>(.ref D,H',l.turned (λb o C e=>(i.2 b C).trans e) u f1 w y z,rfl,q))
variable{i:Nat}{x:Str}{bm eh:Pos}
def yF(k:Nat)(js:LN)(Nc:LSt)(hN:X.N.Nodup)(p:X.N[i]?=aa x)(w:Loc X.env.scope x)(hc:X.calm=ac)(hi:PI X tg iter wi)
 (hg:∀cl X5 ex d c,PG (X.comp scope Nc cl X5 ex d c) tg g)(ht:∀cl X5 ex d c,PTs (X.comp scope Nc cl X5 ex d c) cs tt)(he:∀cl X5 ex d c,PE (X.comp scope Nc cl X5 ex d c) c3 te)
 (u:autoParam (gh (.ListComp c3 [(tg,iter,cs,0)] scope pos) (aa (.Name x bm)) eh.line X.env=pure ac) Zb)
 (f:autoParam (lO scope X.env.scope.names X.N Nc k js=ac) Zb)(hs:autoParam (∀x,lB iter X.env x=pure x) Zd)
 (hf:autoParam (LcF X x) Zh):
  PS X (.Assign [.Name x bm] (.ListComp c3 [(tg,iter,cs,0)] scope pos) eh) (jo (pJ k js wi g tt te) (ij i)):=by
 intro U s E H D I h;have f:=pI.of f;rw[exec_Assign_Name_used _ _ _ _ u];show ak (wpAny_standAt (ak ?_));have(cl,n,L,M):=FU λx w e=>I.ok.has x.1 (f.free x w e)
 show ak (fR (wpAny_comprehension_free rfl hs n f.kind f.loc
  (thn (hi U s E H _ I h) λv s1 h1=>thn h1 λitv s2 h2=>?_)) (λ_ s' hq=>aE (aE hq)) λ_ _ e=>e)
 have(it,fp,tn,J,H2,e,G,T,y,f2,hW):=h2;subst e;show FX hc f hg ht he L M G T y f2 hW λB X5 s' H' C (m,hn) fC q=>?_;have(Q,f1,Y,f3,A,f5):=fC;show wpAny_assign_Name (E5 (v:=.ref B) C hN p w rfl (λs'' j (a,sb,ha)=>?_) hf)
 have l:X5≠a:=by
  rcases ha with z |z
  .rw[z];show f1
  .show(A x a z).symm
 show(m,hn.sameBut sb l,λh' r=>(_,H',j.turned (λb o hb e=>(r.2 b hb).trans e) Q f1 f3 A f5,q))
def FY:OpR X (cg .Is) (λx y H Q=>∃b,y=.bl b/\(x=.non\/∃c,x=.bl c)/\Q (.bl (decide (x=.bl b))) H):=by
 intro U s E H x y v u Q I a e h;have(b,rfl,d,q):=h;subst e
 rcases d with rfl |⟨c,rfl⟩
 .subst a
  show wpAny_is_plain rfl (bZ I q (by cases b <;> rfl))
 .subst a
  show wpAny_is_plain rfl (bZ I q (by cases b <;> cases c <;> rfl))
def FZ:OpR X (cg .IsNot) (λx y H Q=>∃b,y=.bl b/\(x=.non\/∃c,x=.bl c)/\Q (.bl (!decide (x=.bl b))) H):=by
 intro U s E H x y v u Q I a e h;have(b,rfl,d,q):=h;subst e
 rcases d with rfl |⟨c,rfl⟩
 .subst a
  show wpAny_isNot_plain rfl (bZ I q (by cases b <;> rfl))
 .subst a
  show wpAny_isNot_plain rfl (bZ I q (by cases b <;> cases c <;> rfl))
def N4(a:X.calm=ac):io X (.builtin "sum") (λC H Q=>∃(p:Addr) (ns:LI0),C=[.ref p]/\SqL X.K H p (ns.map V.int)/\Q (.int ns.sum) H):=by
 intro U s E H C us Q I r h;have(p,ns,rfl,c,q):=h;have(u,rfl,g):=lM r;subst g;have(L,f,d,hz):=I.list c;have hi:=Nb f;have(C,e):=hi.allInts.items;show sum_intListG (I.ok.hd a) (by rw[<- e];show d.isList) λh' i t' b=>?_
 have es:preSum (numAt C) C.size=ns.sum:=by
  rw[preSum_eq,take_of_length_le (by simp),<- nums_intItems,<- e,hi.numsOf]
 rw[es];show(.int ns.sum,H,I.kept b,(_,rfl),q)
def N5:io X (.builtin "isinstance") (λC H Q=>∃x T t b,C=[x,.ty T]/\gN X.K H x t/\W.kitOne X.K t (.type T)=aa b/\Q (.bl b) H):=by
 intro U s E H C us Q I r h;have(x,T,t,b,rfl,ty,e,q):=h;have(u,f,rfl,c,a):=MN r;cases (a);show M0 I c ty e λd=>(.bl b,H,I.tok d,rfl,q)
variable{C:LVv}
def aI.at'{us:LVa}{u:Value}(r:aI C us)(e:us[i]?=aa u):∃x,C[i]?=aa x/\aD x u:=by
 have b:=r.length;have hi:i<Z C:=by have:=(dh.mp e).1;lia
 show(C[i],by simp[hi],?_);have(c,e',a):=r.get (i:=i) (x:=C[i]) (by simp[hi]);rw[e]at e';cases e';show a
def pK{env:Env}{a:gi}(b:a≠.free):∀{names:List (Str×gi)} {x:Str},names.lookup x=aa a ->
  (names.map λ(n,k,)=>if (k==fU && env.scope.kind==.function && env.kindOf n==aa .cell) then (n,mT,) else (n,k,)).lookup x=aa a
 | [],_,h=>by simp at h
 |(n,k,)::r,x,h=>by
  have c:=@pK env a b r x
  grind
def N6(h:Vis scope x):Vis (relabel scope env) x:=by
 rcases h with h |h |h
 .show .inl (pK (by decide) h)
 .show .inr (.inl (pK (by decide) h))
 .rcases yC h with z |z
  .show .inr (.inl z)
  .show .inr (.inr z)
variable{X5:Addr}{ex:LAd}{b3:ah}{b4:Hp}
def pvc{cl:List (Str×Addr)}(i:Nat)(b:autoParam (Nc[i]?=aa x) Zb)(hv:autoParam (Vis scope x) Ze)(hd:autoParam (NDb x) Zc)
 (a:autoParam (NCd x) Zc):PE (X.comp scope Nc cl X5 ex b3 b4) (.Name x pos) (c8 i):=m6 b (N6 hv) hd a
def pgc{cl:List (Str×Addr)}(i:Nat)(b:autoParam (Nc.Nodup) Zn)(hi:autoParam (Nc[i]?=aa x) Zb)(a:autoParam (scope.names.lookup x=aa .local) Zb):PG (X.comp scope Nc cl X5 ex b3 b4) (.Name x pos) (ij i):=
 xV b hi (.inl (pK (by decide) a)) (.inr (pK (by decide) a))
def glc{cl:List (Str×Addr)}(h:scope.names.lookup x=aa .globalImplicit):Gl (X.comp scope Nc cl X5 ex b3 b4) x:=pK (by decide) h
variable{p:Addr}
def bU{o:HO}(h:H p=ab):aq H (upd H p o):=λb u e=>by rw[aN (fL e h)];show e
variable{K:aU}{H':Hp}{a:Addr}
def aq.tup(e:aq H H')(h:SqT K H a C):SqT K H' a C:=by
 rcases h with(h |⟨o,h⟩) |h
 .show .inl (.inl (e _ _ h))
 .show .inl (.inr (o,e _ _ h))
 .show .inr h
def lP(p:Addr)(H H':Hp):Prop:=∀b o,H b=aa o->b≠p->H' b=aa o
def lP.refl(p:Addr)(H:Hp):lP p H H:=λ_ _ h _=>h
variable{H1:Hp}
def lP.trans(a:lP p H H1)(b:lP p H1 H2):lP p H H2:=λc o h n=>b c o (a c o h n) n
def lP.seq(e:lP p H H')(n:a≠p)(h:SqL K H a C):SqL K H' a C:=by
 rcases h with(h |⟨o,h⟩) |h
 .show .inl (.inl (e _ _ h n))
 .show .inl (.inr (o,e _ _ h n))
 .show .inr h
def yG(K:aU)(H:Hp)(X2:Addr)(L:LII):Prop:=
 ∃a:List (Addr×Int×Int),SqL K H X2 (a.map λz=>V.ref z.1)/\(∀z∈a,SqT K H z.1 [.int z.2.1,.int z.2.2])/\L=a.map (·.2)/\Z a<=1000
def cI(p:Option Bool->Bool)(es:LOB)(L:LII):Int:=((L.filter λz=>p (es.getD z.1.toNat ab)).map (·.2)).sum
inductive Prt where
 |inn (t:Int) |out (t:Int) |least (k:Int) (L:LII) |most (k:Int) (L:LII)
abbrev N7(K:aU)(H:Hp)(p:Addr):Prt->Prop
 |.inn t=>SqT K H p [.str "in",.int t]
 |.out t=>SqT K H p [.str "out",.int t]
 |.least k L=>∃X2,SqT K H p [.str "least",.int k,.ref X2]/\yG K H X2 L
 |.most k L=>∃X2,SqT K H p [.str "most",.int k,.ref X2]/\yG K H X2 L
def bs(l:LB0):LOB:=l.map aa
abbrev Prt.holds(B ws:LB0):Prt->Bool
 |.inn t=>(B.getD t.toNat af)
 |.out t=>!(ws.getD t.toNat af)
 |.least k L=>decide (k<=cI (·==aa ac) (bs B) L)
 |.most k L=>decide (cI (·==aa ac) (bs ws) L<=k)
variable{h':Heap}
section
variable{s:ah}
def Inv.turnedMany{t':Nat}{ch:LAd}(I:Inv X U E H s)(k:∀b o,b∉ch->s.heap.get? b=aa o->h'.get? b=aa o)(d:∀b∈ch,ik X U H b):Inv X U E H {s with heap:=h',toks:=t'}:=by
 show I.step (λb j=>?_) (λb o _ _ a e _=>k b o a e) (λb o _ _ a e _=>(o.slots,k b o a e)) (λ_ _ _ _ n=>n)
  (λb o a e=>(o,k b o a e)) (λ_ _ e=>e) (λ_ _ _ e=>e) (λb ps e=>(#[],by rw[e];simp)) (λm hm=>?_) (λb u e=>?_) I.bare
 .have(_,f1,_,g,h,i):=d b j;show(g,f1,h,i)
 .have(o,es,f,l,r):=hm;show(o,es,f,k _ o (λz=>(d _ z).2.1 rfl) l,r)
 .show(I.hok b u e).stay (λc v a q=>k c v (λz=>?_) q) (λ_ q=>q) λ_ _ q=>q;have hn:=(d c z).1
  rcases a with y |y
  .rw[y,e]at hn;nomatch hn
  .rw[hn]at y;nomatch y
end
def Inv.track{s:ah}{o:HO}(I:Inv X U E H s)(f:ik X U H p)(l:dY X.prog X.w (upd H p o) s.heap p o):Inv X U E (upd H p o) s:=by
 have(g,f1,f2,h,i,j):=f;have ne:∀b u,H b=aa u->b≠p:=λb u e=>fL e g;have one:∀b:Addr,b∉[p]->b≠p:=λb a z=>a (by rw[z];simp)
 show I.step (ch:=[p]) (λb a=>?_) (λb o _ _ d e _=>e) (λb o _ _ d e _=>(o.slots,e)) (λb o d e n=>?_)
  (λb o d e=>(o,e)) (λb C e=>?_) (λb o u e=>?_) (λb ps e=>(#[],?_)) (λm hm=>hm) (λb u e=>?_) I.bare
 .have e:b=p:=by simpa using a
  subst e;show(h,f1,i,j)
 .rw[aN (one b d)];show n
 .rw[aN (ne b _ e)];show e
 .rw[aN (ne b _ e)];show e
 .rw[aN (ne b _ e),e];rfl
 .by_cases a:b=p
  .subst a;rw[be]at e;cases e;show l
  .rw[aN a]at e;show(I.hok b u e).stay (λc v _ q=>q) (λc q=>by rw[aN (ne c _ q)];show q) λc C q=>by rw[aN (ne c _ q)];show q
def bQ(p:Int->Bool)(L:LII):Int:=((L.filter λz=>p z.1).map (·.2)).sum
def jt(p:Option Bool->Bool)(es:LOB)(L:LII):cI p es L=bQ (λt=>p (es.getD t.toNat ab)) L:=rfl
def F0(p q:Int->Bool)(L:LII):bQ p (L.filter λz=>q z.1)=bQ (λt=>p t && q t) L:=by
 unfold bQ;rw[filter_filter]
abbrev Prt.sure(es:LOB):Prt->Bool
 |.inn t=>es.getD t.toNat ab==aa ac
 |.out t=>es.getD t.toNat ab==aa af
 |.least k L=>decide (k<=cI (·==aa ac) es L)
 |.most k L=>decide (cI (λe=>!(e==aa af)) es L<=k)
abbrev Prt.lost(es:LOB)(ws:LB0):Prt->Bool
 |.inn t=>(es.getD t.toNat ab==aa af) || ws.getD t.toNat af
 |.out t=>es.getD t.toNat ab==aa ac
 |.least k L=>decide (bQ (λt=>!(es.getD t.toNat ab==aa af) && !(ws.getD t.toNat af)) L<k)
 |.most k L=>decide (k<cI (·==aa ac) es L)
abbrev F6(X2:Addr)(L:LII)(vs:LVv):Prt->Prop
 |.inn t=>vs=[.str "in",.int t]
 |.out t=>vs=[.str "out",.int t]
 |.least k i=>vs=[.str "least",.int k,.ref X2]/\i=L
 |.most k i=>vs=[.str "most",.int k,.ref X2]/\i=L
variable{vs:LVv}
def F6.at{X2:Addr}{L:LII}{r:Prt}(t:F6 X2 L vs r)(a:H p=aa (.tup vs))(b:yG K H X2 L):N7 K H p r:=by
 cases r with
 |inn t'=>subst t;show SqT.of a
 |out t'=>subst t;show SqT.of a
 |least k i=>have(rfl,rfl):=t;show(X2,SqT.of a,b)
 |most k i=>have(rfl,rfl):=t;show(X2,SqT.of a,b)
inductive D where
 |non
 |bl (b:Bool)
 |int (i:Int)
 |str (x:Str)
 |lst (C:List D)
 |tup (C:List D)
 |kl (C:List D)
 |kt (C:List D)
 |dic (ks:List Key) (C:List D)
 |ins (c:Str) (ns:LSt) (C:List D)
 |kd (ks:List Key) (C:List D)
 |dT (ks:List (List Key)) (C:List D)
 deriving Inhabited
nonrec abbrev OD:=Option D
nonrec abbrev LD:=List D
nonrec abbrev OLD:=Option LD
set_option genInjectivity false in
structure Gc where
 K:aU
 cl:Str->Addr
mutual
def Rep(G:Gc)(H:Hp):D->V->Prop
 |.non,v=>v=.non
 |.bl b,v=>v=.bl b
 |.int i,v=>v=.int i
 |.str x,v=>v=.str x
 |.lst ds,v=>∃a vs,v=.ref a/\H a=aa (.lst vs)/\am G H ds vs
 |.tup ds,v=>∃a vs,v=.ref a/\H a=aa (.tup vs)/\am G H ds vs
 |.kl ds,v=>∃a vs,v=.ref a/\SqL G.K H a vs/\am G H ds vs
 |.kt ds,v=>∃a vs,v=.ref a/\SqT G.K H a vs/\am G H ds vs
 |.dic ks ds,v=>∃a vs,v=.ref a/\H a=aa (.dK (ks.zip vs))/\Z ks=Z vs/\am G H ds vs
 |.ins c ns ds,v=>∃a dx vs,v=.ref a/\H a=aa (.ins (G.cl c) dx (ns.zip vs))/\Z ns=Z vs/\am G H ds vs
 |.kd ks ds,v=>∃a od vs,v=.ref a/\H a=aa (.frz od (.dK (ks.zip vs)))/\Z ks=Z vs/\am G H ds vs
 |.dT ks ds,v=>∃a vs,v=.ref a/\H a=aa (.dT (ks.zip vs))/\Z ks=Z vs/\am G H ds vs
def am(G:Gc)(H:Hp):LD->LVv->Prop
 | [],vs=>vs=[]
 |d::ds,vs=>∃v r,vs=v::r/\Rep G H d v/\am G H ds r
end
mutual
theorem Rep.upM(s:aq H H'):∀(d:D) (v:V),Rep G H d v->Rep G H' d v
 |.non,_,h=>h
 |.bl _,_,h=>h
 |.int _,_,h=>h
 |.str _,_,h=>h
 |.lst ds,_,h_=>by have(a,vs,e,q,r):=h_;show(a,vs,e,s _ _ q,am.upM s ds vs r)
 |.tup ds,_,h_=>by have(a,vs,e,q,r):=h_;show(a,vs,e,s _ _ q,am.upM s ds vs r)
 |.kl ds,_,h_=>by have(a,vs,e,q,r):=h_;show(a,vs,e,s.seq q,am.upM s ds vs r)
 |.kt ds,_,h_=>by have(a,vs,e,q,r):=h_;show(a,vs,e,s.tup q,am.upM s ds vs r)
 |.dic _ ds,_,h_=>by have(a,vs,e,q,l,r):=h_;show(a,vs,e,s _ _ q,l,am.upM s ds vs r)
 |.ins _ _ ds,_,h_=>by have(a,dx,vs,e,q,l,r):=h_;show(a,dx,vs,e,s _ _ q,l,am.upM s ds vs r)
 |.kd _ ds,_,h_=>by have(a,od,vs,e,q,l,r):=h_;show(a,od,vs,e,s _ _ q,l,am.upM s ds vs r)
 |.dT _ ds,_,h_=>by have(a,vs,e,q,l,r):=h_;show(a,vs,e,s _ _ q,l,am.upM s ds vs r)
theorem am.upM(s:aq H H'):∀(ds:LD) (vs:LVv),am G H ds vs->am G H' ds vs
 | [],_,h=>h
 |d::ds,_,h_=>by have(v,r,e,a,h2):=h_;show(v,r,e,Rep.upM s d v a,am.upM s ds r h2)
end
variable{G:Gc}{d:D}{v:V}
def Rep.up(r:Rep G H d v)(s:aq H H'):Rep G H' d v:=Rep.upM s d v r
variable{ds:LD}
def am.up(r:am G H ds vs)(s:aq H H'):am G H' ds vs:=am.upM s ds vs r
def am.nil:am G H [] []:=rfl
def am.cons(h:Rep G H d v)(t:am G H ds vs):am G H (d::ds) (v::vs):=(v,vs,rfl,h,t)
def am.length:∀{ds:LD} {vs:LVv},am G H ds vs->Z ds=Z vs
 | [],_,h=>by cases (h);rfl
 |d::ds,_,(v,r,e,_,h)=>by subst e;simp[am.length h]
def am.append:∀{ds es:LD} {vs us:LVv},am G H ds vs->am G H es us->am G H (ds++es) (vs++us)
 | [],_,_,_,h,t=>by cases (h);show t
 |d::ds,_,_,_,(v,r,e,h1,h2),t=>by subst e;show(v,r++_,rfl,h1,am.append h2 t)
def am.get:∀{ds:LD} {vs:LVv} {i:Nat} {d:D},am G H ds vs->ds[i]?=aa d->∃v,vs[i]?=aa v/\Rep G H d v
 | [],_,_,_,_,e=>by simp at e
 |d::ds,_,0,_,(v,r,e,h1,_),e'=>by subst e;simp at e';subst e';show(v,rfl,h1)
 |d::ds,_,i+1,d',q4_,e'=>by
  have(v,r,e,_,h2):=q4_;subst e;have(u,a,b):=am.get h2 (by simpa using e');show(u,by simpa using a,b)
def am.get':∀{ds:LD} {vs:LVv} {i:Nat} {v:V},am G H ds vs->vs[i]?=aa v->∃d,ds[i]?=aa d/\Rep G H d v:=λ{ds vs i v} h e=>by
 have c:=h.length;have hi:i<Z ds:=by have:=(dh.mp e).1;lia
 have(u,a,b):=h.get (i:=i) (d:=ds[i]) (by simp[hi]);rw[e]at a;cases a;show(ds[i],by simp[hi],b)
def am.ints:∀(ns:LI0),am G H (ns.map D.int) (ns.map V.int)
 | []=>rfl
 |n::ns=>(_,_,rfl,rfl,am.ints ns)
def am.take:∀{ds:LD} {vs:LVv} (n:Nat),am G H ds vs->am G H (ds.take n) (vs.take n)
 | _,_,0,_=>rfl
 | [],_,n+1,h=>by cases (h);rfl
 |d::ds,_,n+1,(v,r,e,h1,h2)=>by subst e;show(v,r.take n,rfl,h1,am.take n h2)
def am.drop:∀{ds:LD} {vs:LVv} (n:Nat),am G H ds vs->am G H (ds.drop n) (vs.drop n)
 | _,_,0,h=>h
 | [],_,n+1,h=>by cases (h);rfl
 |d::ds,_,n+1,(v,r,e,h1,h2)=>by subst e;show am.drop n h2
def am.reverse:∀{ds:LD} {vs:LVv},am G H ds vs->am G H ds.reverse vs.reverse
 | [],_,h=>by cases (h);rfl
 |d::ds,_,q2_=>by
  have(v,r,e,a,h2):=q2_;subst e;rw[jc,jc];show(am.reverse h2).append (.cons a .nil)
def am.set:∀{ds:LD} {vs:LVv} (i:Nat) {d:D} {v:V},am G H ds vs->Rep G H d v->am G H (ds.set i d) (vs.set i v)
 | [],_,_,_,_,h,_=>by cases (h);show .nil
 |e::ds,_,0,_,_,(v,r,e',_,h2),q=>by subst e';show(_,r,rfl,q,h2)
 |e::ds,_,i+1,_,_,(v,r,e',h1,h2),q=>by subst e';show(v,r.set i _,rfl,h1,am.set i h2 q)
abbrev iM:HO->Bool
 |.tup _=>ac
 | _=>af
structure Ext(Hf H Hf' H':Hp):Prop where
 f:aq Hf Hf'
 h:aq H H'
 s:aq Hf' H'
 n:∀l o,H l=aa o->iM o=af->Hf' l=Hf l
variable{Hf:Hp}
def Ext.refl(s:aq Hf H):Ext Hf H Hf H:=(aq.refl _,aq.refl _,s,λ_ _ _ _=>rfl)
variable{a4 aG:Hp}
def Ext.trans(a:Ext Hf H a4 H1)(b:Ext a4 H1 aG H2):Ext Hf H aG H2:=(a.f.trans b.f,a.h.trans b.h,b.s,λl o e t=>(b.n l o (a.h l o e) t).trans (a.n l o e t))
def Ext.new{o:HO}(s:aq Hf H)(h:H p=ab):Ext Hf H (upd Hf p o) (upd H p o):=
 (bU (s.free h),bU h,λb u e=>by
  by_cases a:b=p
  .subst a;rw[be]at e ⊢;show e
  .rw[aN a]at e ⊢;show s b u e,λl u e _=>by rw[aN (fL e h)])
def Ext.tmp{o:HO}(s:aq Hf H)(h:H p=ab):Ext Hf H Hf (upd H p o):=(aq.refl _,bU h,s.trans (bU h),λ_ _ _ _=>rfl)
def Ext.grow(s:aq Hf H)(g:aq H H1):Ext Hf H Hf H1:=(aq.refl _,g,s.trans g,λ_ _ _ _=>rfl)
def Ext.fix{o:HO}(a:Ext Hf H a4 H1)(hn:H p=ab)(d:a4 p=ab)(g:H1 p=aa o):Ext Hf H (upd a4 p o) H1:=
 (a.f.trans (bU d),a.h,λb u e=>by
  by_cases c:b=p
  .subst c;rw[be]at e;rw[g];show e
  .rw[aN c]at e;show a.s b u e,λl u e t=>by rw[aN (fL e hn)];show a.n l u e t)
inductive O where
 |fz (d:D)
 |lst (C:List O)
 |tup (C:List O)
 |dic (ks:List Key) (C:List O)
 |ins (c:Str) (ns:LSt) (C:List O)
 |jnk (n:Nat)
 |dT (ks:List (List Key)) (C:List O)
 |at (l:Addr) (o:O)
 |any
 deriving Inhabited
mutual
def OT(G:Gc)(Hf H:Hp):O->V->LAd->Prop
 |.fz d,v,fp=>Rep G Hf d v/\fp=[]
 |.lst os,v,fp=>∃a vs fs,v=.ref a/\H a=aa (.lst vs)/\OTs G Hf H os vs fs/\fp=a::fs
 |.tup os,v,fp=>∃a vs,v=.ref a/\H a=aa (.tup vs)/\OTs G Hf H os vs fp
 |.dic ks os,v,fp=>∃a vs fs,v=.ref a/\H a=aa (.dK (ks.zip vs))/\Z ks=Z vs/\OTs G Hf H os vs fs/\fp=a::fs
 |.ins c ns os,v,fp=>∃a dx vs fs,v=.ref a/\H a=aa (.ins (G.cl c) dx (ns.zip vs))/\Z ns=Z vs/\OTs G Hf H os vs fs/\fp=a::fs
 |.jnk n,v,fp=>∃a vs,v=.ref a/\H a=aa (.lst vs)/\Z vs<=n/\fp=[a]
 |.dT ks os,v,fp=>∃a vs fs,v=.ref a/\H a=aa (.dT (ks.zip vs))/\Z ks=Z vs/\OTs G Hf H os vs fs/\fp=a::fs
 |.at l o,v,fp=>v=.ref l/\OT G Hf H o v fp
 |.any,_,fp=>fp=[]
def OTs(G:Gc)(Hf H:Hp):List O->LVv->LAd->Prop
 | [],vs,fp=>vs=[]/\fp=[]
 |o::os,vs,fp=>∃v r f1 f2,vs=v::r/\OT G Hf H o v f1/\OTs G Hf H os r f2/\fp=f1++f2
end
mutual
noncomputable def O.toD:O->D
 |.fz d=>d
 |.lst os=>.lst (O.toDs os)
 |.tup os=>.tup (O.toDs os)
 |.dic ks os=>.dic ks (O.toDs os)
 |.ins c ns os=>.ins c ns (O.toDs os)
 |.at _ o=>o.toD
 |.jnk _=>.non
 |.dT ks os=>.dT ks (O.toDs os)
 |.any=>.non
noncomputable def O.toDs:List O->LD
 | []=>[]
 |o::os=>o.toD::O.toDs os
end
mutual
noncomputable def O.kn:O->Bool
 |.fz _=>ac
 |.lst os=>O.kns os
 |.tup os=>O.kns os
 |.dic _ os=>O.kns os
 |.ins _ _ os=>O.kns os
 |.at _ o=>o.kn
 |.jnk _=>af
 |.dT _ os=>O.kns os
 |.any=>af
noncomputable def O.kns:List O->Bool
 | []=>ac
 |o::os=>o.kn && O.kns os
end
mutual
theorem OT.frameM(f:aq Hf Hf'):∀(o:O) (v:V) (fp:LAd),OT G Hf H o v fp->(∀b u,H b=aa u->(iM u=ac\/b∈fp)->H' b=aa u)->OT G Hf' H' o v fp
 |.fz d,_,_,h,_=>(h.1.up f,h.2)
 |.lst os,_,fp,h_,k=>by have(a,vs,fs,e,q,r,g):=h_;show(a,vs,fs,e,k _ _ q (.inr (by rw[g];show aA)),OTs.frameM f os vs fs r (λb u i hm=>k b u i (hm.imp_right λz=>by rw[g];show bp _ z)),g)
 |.tup os,_,fp,h_,k=>by have(a,vs,e,q,r):=h_;show(a,vs,e,k _ _ q (.inl rfl),OTs.frameM f os vs fp r k)
 |.dic ks os,_,fp,h_,k=>by have(a,vs,fs,e,q,z,r,g):=h_;show(a,vs,fs,e,k _ _ q (.inr (by rw[g];show aA)),z,OTs.frameM f os vs fs r (λb u i hm=>k b u i (hm.imp_right λz=>by rw[g];show bp _ z)),g)
 |.ins c ns os,_,fp,h_,k=>by have(a,dx,vs,fs,e,q,z,r,g):=h_;show(a,dx,vs,fs,e,k _ _ q (.inr (by rw[g];show aA)),z,OTs.frameM f os vs fs r (λb u i hm=>k b u i (hm.imp_right λz=>by rw[g];show bp _ z)),g)
 |.jnk n,_,fp,h_,k=>by have(a,vs,e,q,z,g):=h_;show(a,vs,e,k _ _ q (.inr (by rw[g];show aA)),z,g)
 |.dT ks os,_,fp,h_,k=>by have(a,vs,fs,e,q,z,r,g):=h_;show(a,vs,fs,e,k _ _ q (.inr (by rw[g];show aA)),z,OTs.frameM f os vs fs r (λb u i hm=>k b u i (hm.imp_right λz=>by rw[g];show bp _ z)),g)
 |.at _ o,v,fp,h_,k=>by have(e,r):=h_;show(e,OT.frameM f o v fp r k)
 |.any,_,_,h,_=>h
theorem OTs.frameM(f:aq Hf Hf'):∀(os:List O) (vs:LVv) (fp:LAd),OTs G Hf H os vs fp->(∀b u,H b=aa u->(iM u=ac\/b∈fp)->H' b=aa u)->OTs G Hf' H' os vs fp
 | [],_,_,h,_=>h
 |o::os,_,fp,h_,k=>by have(v,r,f1,f2,e,d,h2,a):=h_;show(v,r,f1,f2,e,OT.frameM f o v f1 d (λb u c hm=>k b u c (hm.imp_right λz=>by rw[a];show bX _ z)),OTs.frameM f os r f2 h2 (λb u c hm=>k b u c (hm.imp_right λz=>by rw[a];show cq _ z)),a)
end
variable{Hf':Hp}
def OT.frame{o:O}(h:OT G Hf H o v fp)(f:aq Hf Hf')(k:∀b u,H b=aa u->(iM u=ac\/b∈fp)->H' b=aa u):OT G Hf' H' o v fp:=OT.frameM f o v fp h k
def OT.up{o:O}(h:OT G Hf H o v fp)(f:aq Hf Hf')(s:aq H H'):OT G Hf' H' o v fp:=h.frame f λb u e _=>s b u e
def uG{a b:Type}:∀{ks:List a} {vs us:List b},Z ks=Z vs->Z ks=Z us->ks.zip vs=ks.zip us->vs=us
 | [],[],[],_,_,_=>rfl
 |k::ks,v::vs,u::us,h1,h2,e=>by
  injection e with e1 e2
  injection e1 with _ e3
  rw[e3,uG (by simpa using h1) (by simpa using h2) e2]
 | [],_::_,_,h,_,_=>by cases h
 | [],[],_::_,_,h,_=>by cases h
 | _::_,[],_,h,_,_=>by cases h
 | _::_,_::_,[],_,h,_=>by cases h
mutual
theorem OT.funM:∀(o:O) (v:V) (f p:LAd),OT G Hf H o v f->OT G Hf' H o v p->f=p
 |.fz d,_,_,_,h,h'=>h.2.trans h'.2.symm
 |.lst os,_,_,_,q4_,q5_=>by
  have(a,vs,fs,e,q,r,l):=q4_;have(w,j,g,e',i,m,b):=q5_;subst e l b;cases e';rw[q]at i;cases i
  rw[OTs.funM os vs fs g r m]
 |.tup os,_,f,p,q4_,q5_=>by
  have(a,vs,e,q,r):=q4_;have(w,j,e',i,m):=q5_;subst e;cases e';rw[q]at i;cases i
  show OTs.funM os vs f p r m
 |.dic ks os,_,_,_,q4_,q5_=>by
  have(a,vs,fs,e,q,z,r,l):=q4_;have(w,j,g,e',i,u,m,b):=q5_;subst e l b;cases e';rw[q]at i;have:=uG z u (HO.dK.inj (cP i));subst this
  rw[OTs.funM os vs fs g r m]
 |.ins c ns os,_,_,_,q4_,q5_=>by
  have(a,dx,vs,fs,e,q,z,r,l):=q4_;have(w,x,j,g,e',i,u,m,b):=q5_;subst e l b;cases e';rw[q]at i;have:=uG z u (HO.ins.inj (cP i)).2.2;subst this
  rw[OTs.funM os vs fs g r m]
 |.jnk n,_,_,_,q4_,q5_=>by
  have(a,vs,e,q,z,l):=q4_;have(w,j,e',i,u,b):=q5_;subst e l b;cases e'
  rfl
 |.dT ks os,_,_,_,q4_,q5_=>by
  have(a,vs,fs,e,q,z,r,l):=q4_;have(w,j,g,e',i,u,m,b):=q5_;subst e l b;cases e';rw[q]at i;have:=uG z u (HO.dT.inj (cP i));subst this
  rw[OTs.funM os vs fs g r m]
 |.at _ o,v,f,p,h,h'=>OT.funM o v f p h.2 h'.2
 |.any,_,_,_,h,h'=>(show _=[]from h).trans (show _=[]from h').symm
theorem OTs.funM:∀(os:List O) (vs:LVv) (f i:LAd),OTs G Hf H os vs f->OTs G Hf' H os vs i->f=i
 | [],_,_,_,h,h'=>h.2.trans h'.2.symm
 |o::os,_,_,_,q4_,q5_=>by
  have(v,r,f1,f2,e,l,h2,j):=q4_;have(n,m,b,c,e',d,g,a):=q5_;subst e j a;cases e';rw[OT.funM o v f1 b l d,OTs.funM os r f2 c h2 g]
end
mutual
theorem OT.memM:∀(o:O) (v:V) (f:LAd),OT G Hf H o v f->∀a∈f,∃u,H a=aa u/\iM u=af
 |.fz d,_,_,h,a,ha=>by rw[h.2]at ha;cases ha
 |.lst os,_,_,q3_,b,hb=>by
  have(a,vs,fs,e,q,r,g):=q3_;subst g
  rcases bc.mp hb with z |z
  .subst z;show(_,q,rfl)
  .show OTs.memM os vs fs r b z
 |.tup os,_,f,(a,vs,e,q,r),b,hb=>OTs.memM os vs f r b hb
 |.dic ks os,_,_,q3_,b,hb=>by
  have(a,vs,fs,e,q,z,r,g):=q3_;subst g
  rcases bc.mp hb with z |z
  .subst z;show(_,q,rfl)
  .show OTs.memM os vs fs r b z
 |.ins c ns os,_,_,q3_,b,hb=>by
  have(a,dx,vs,fs,e,q,z,r,g):=q3_;subst g
  rcases bc.mp hb with z |z
  .subst z;show(_,q,rfl)
  .show OTs.memM os vs fs r b z
 |.jnk n,_,_,q3_,b,hb=>by
  have(a,vs,e,q,z,g):=q3_;subst g;rw[bv.mp hb]
  show(_,q,rfl)
 |.dT ks os,_,_,q3_,b,hb=>by
  have(a,vs,fs,e,q,z,r,g):=q3_;subst g
  rcases bc.mp hb with z |z
  .subst z;show(_,q,rfl)
  .show OTs.memM os vs fs r b z
 |.at _ o,v,f,h,a,ha=>OT.memM o v f h.2 a ha
 |.any,_,_,h,a,ha=>by rw[show _=[]from h]at ha;cases ha
theorem OTs.memM:∀(os:List O) (vs:LVv) (f:LAd),OTs G Hf H os vs f->∀a∈f,∃u,H a=aa u/\iM u=af
 | [],_,_,h,a,ha=>by rw[h.2]at ha;cases ha
 |o::os,_,_,q3_,a,ha=>by
  have(v,r,f1,f2,e,c,h2,b):=q3_;subst b
  rcases bw.mp ha with z |z
  .show OT.memM o v f1 c a z
  .show OTs.memM os r f2 h2 a z
end
mutual
theorem OT.repM(s:aq Hf H):∀(o:O) (v:V) (f:LAd),o.kn=ac->OT G Hf H o v f->Rep G H o.toD v
 |.fz d,_,_,_,h=>by rw[O.toD];show h.1.up s
 |.lst os,_,_,hk,h_=>by have(a,vs,fs,e,q,r,b):=h_;rw[O.kn]at hk;rw[O.toD];show(a,vs,e,q,OTs.repM s os vs fs hk r)
 |.tup os,_,f,hk,h_=>by have(a,vs,e,q,r):=h_;rw[O.kn]at hk;rw[O.toD];show(a,vs,e,q,OTs.repM s os vs f hk r)
 |.dic ks os,_,_,hk,h_=>by have(a,vs,fs,e,q,z,r,b):=h_;rw[O.kn]at hk;rw[O.toD];show(a,vs,e,q,z,OTs.repM s os vs fs hk r)
 |.ins c ns os,_,_,hk,h_=>by have(a,dx,vs,fs,e,q,z,r,b):=h_;rw[O.kn]at hk;rw[O.toD];show(a,dx,vs,e,q,z,OTs.repM s os vs fs hk r)
 |.at _ o,v,f,hk,h=>by rw[O.kn]at hk;rw[O.toD];show OT.repM s o v f hk h.2
 |.jnk _,_,_,hk,_=>by rw[O.kn]at hk;cases hk
 |.dT ks os,_,_,hk,h_=>by have(a,vs,fs,e,q,z,r,b):=h_;rw[O.kn]at hk;rw[O.toD];show(a,vs,e,q,z,OTs.repM s os vs fs hk r)
 |.any,_,_,hk,_=>by rw[O.kn]at hk;cases hk
theorem OTs.repM(s:aq Hf H):∀(os:List O) (vs:LVv) (f:LAd),O.kns os=ac->OTs G Hf H os vs f->am G H (O.toDs os) vs
 | [],_,_,_,h=>by rw[O.toDs];show h.1
 |o::os,_,_,hk,h_=>by
  have(v,r,f1,f2,e,a,h2,b):=h_;rw[O.kns,b6]at hk;rw[O.toDs];show(v,r,e,OT.repM s o v f1 hk.1 a,OTs.repM s os r f2 hk.2 h2)
end
def OT.rep{o:O}{f:LAd}(h:OT G Hf H o v f)(s:aq Hf H)(a:o.kn=ac):Rep G H o.toD v:=OT.repM s o v f a h
def OTs.fz:∀{ds:LD} {vs:LVv},am G Hf ds vs->OTs G Hf H (ds.map .fz) vs []
 | [],_,h=>(h,rfl)
 |d::ds,_,(v,r,e,h1,h2)=>(v,r,[],[],e,(h1,rfl),OTs.fz h2,rfl)
def yH(ds:LD):O.toDs (ds.map .fz)=ds:=by
 induction ds with
 |nil=>rfl
 |cons d ds a=>rw[bO,O.toDs,O.toD,a]
inductive Sl where
 |no
 |im (d:D)
 |own (C:LD)
 |ownd (ks:List Key) (C:LD)
 |obj (c:Str) (ns:LSt) (C:LD)
 |pin (l:Addr) (C:LD)
 |pind (l:Addr) (ks:List Key) (C:LD)
 |pino (l:Addr) (c:Str) (ns:LSt) (C:LD)
 |deep (o:O)
 |val (u:V)
nonrec abbrev LS:=List Sl
nonrec def nZ{a:Type}:LS->Option (List a):=λ_=>aa []
nonrec def kY:LS->Option Bool:=λ_=>aa ac
nonrec def kN:LS->OD:=λ_=>aa .non
nonrec def kI(i:Int):LS->OD:=λ_=>aa (.int i)
nonrec def kSt(x:Str):LS->OD:=λ_=>aa (.str x)
nonrec def kBl(b:Bool):LS->OD:=λ_=>aa (.bl b)
nonrec abbrev MF1:=LS->OD
nonrec abbrev MF2:=LS->OLD
nonrec abbrev MF4:=LS->Option Bool
abbrev Sl.isOwn:Sl->Bool
 |.own _=>ac
 |.ownd _ _=>ac
 |.obj _ _ _=>ac
 |.pin _ _=>ac
 |.pind _ _ _=>ac
 |.pino _ _ _ _=>ac
 | _=>af
abbrev Sl.calm:Sl->Bool
 |.no=>ac
 |.im _=>ac
 | _=>af
abbrev ju(G:Gc)(Hf H:Hp)(l:Addr):Sl->Prop
 |.own ds=>∃vs,H l=aa (.lst vs)/\am G Hf ds vs
 |.ownd ks ds=>∃vs,H l=aa (.dK (ks.zip vs))/\Z ks=Z vs/\am G Hf ds vs
 |.obj c ns ds=>∃dx vs,H l=aa (.ins (G.cl c) dx (ns.zip vs))/\Z ns=Z vs/\am G Hf ds vs
 |.pin a ds=>l=a/\∃vs,H l=aa (.lst vs)/\am G Hf ds vs
 |.pind a ks ds=>l=a/\∃vs,H l=aa (.dK (ks.zip vs))/\Z ks=Z vs/\am G Hf ds vs
 |.pino a c ns ds=>l=a/\∃dx vs,H l=aa (.ins (G.cl c) dx (ns.zip vs))/\Z ns=Z vs/\am G Hf ds vs
 | _=>False
variable{l:Addr}
def ju.there2{s:Sl}(h:ju G Hf H l s):∃o,H l=aa o/\iM o=af:=by
 cases s with
 |own ds=>have(vs,h,_):=h;show(_,h,rfl)
 |ownd ks ds=>have(vs,h,_):=h;show(_,h,rfl)
 |obj c ns ds=>have(dx,vs,h,_):=h;show(_,h,rfl)
 |pin a ds=>have(_,vs,h,_):=h;show(_,h,rfl)
 |pind a ks ds=>have(_,vs,h,_):=h;show(_,h,rfl)
 |pino a c ns ds=>have(_,dx,vs,h,_):=h;show(_,h,rfl)
 | _=>show h.elim
def ju.up{s:Sl}(h:ju G Hf H l s)(f:aq Hf Hf')(e:∀o,H l=aa o->H' l=aa o):ju G Hf' H' l s:=by
 cases s with
 |own ds=>have(vs,h,r):=h;show(vs,e _ h,r.up f)
 |ownd ks ds=>have(vs,h,z,r):=h;show(vs,e _ h,z,r.up f)
 |obj c ns ds=>have(dx,vs,h,z,r):=h;show(dx,vs,e _ h,z,r.up f)
 |pin a ds=>have(q,vs,h,r):=h;show(q,vs,e _ h,r.up f)
 |pind a ks ds=>have(q,vs,h,z,r):=h;show(q,vs,e _ h,z,r.up f)
 |pino a c ns ds=>have(q,dx,vs,h,z,r):=h;show(q,dx,vs,e _ h,z,r.up f)
 | _=>show h.elim
abbrev gO(G:Gc)(H0 Hf H:Hp)(v:Option V):Sl->Prop
 |.no=>True
 |.im d=>∃u,v=aa u/\Rep G Hf d u
 |.deep o=>∃u fp,v=aa u/\OT G Hf H o u fp/\fp.Nodup/\∀a∈fp,H0 a=ab/\Hf a=ab
 |.val u=>v=aa u
 |s=>∃l,v=aa (.ref l)/\H0 l=ab/\Hf l=ab/\ju G Hf H l s
variable{H0:Hp}
def gO.own{v:Option V}{s:Sl}(a:s.isOwn=ac)(h:gO G H0 Hf H v s):∃l,v=aa (.ref l)/\H0 l=ab/\Hf l=ab/\ju G Hf H l s:=by
 cases s <;> first |show h |cases a
def gO.ofOwn{v:Option V}{s:Sl}(a:s.isOwn=ac)(h:∃l,v=aa (.ref l)/\H0 l=ab/\Hf l=ab/\ju G Hf H l s):gO G H0 Hf H v s:=by
 cases s <;> first |show h |cases a
def Holds(G:Gc)(Hf H:Hp)(s:Sl)(v:V)(a:Addr):Prop:=match s with
 |.deep o=>∃fp,OT G Hf H o v fp/\a∈fp
 |s=>s.isOwn=ac/\v=.ref a
def Holds.own{s:Sl}(b:s.isOwn=ac):Holds G Hf H s v a↔v=.ref a:=by
 cases s <;> first |show(λh=>h.2,λh=>(rfl,h)) |nomatch b
def Holds.calm{s:Sl}(h:Holds G Hf H s v a)(b:s.calm=ac):False:=by
 cases s <;> first |show tP h.1 |nomatch b
def gO.back{s:Sl}(q:gO G H0 Hf H (aa v) s)(k:∀o fp,s=.deep o->OT G Hf H o v fp->OT G Hf' H' o v fp)(h:Holds G Hf' H' s v a):Holds G Hf H s v a:=by
 cases s with
 |deep o=>
  have(u,fp,e,r,_):=q;cases e;have(fp',b,ha):=h;have:=OT.funM o v fp fp' (k o fp rfl r) b;subst this
  show(fp,r,ha)
 | _=>show h
def gO.there{s:Sl}(q:gO G H0 Hf H (aa v) s)(h:Holds G Hf H s v a):∃o,H a=aa o/\iM o=af:=by
 cases b:s.isOwn with
 |true=>
  have(l,e,_,_,c):=q.own b;cases e;cases ((Holds.own b).mp h)
  show c.there2
 |false=>
  cases s with
  |deep o=>
   have(fp,r,ha):=h
   show OT.memM o v fp r a ha
  | _=>first |show tP h.1 |nomatch b
structure av(G:Gc)(Hf0 H0 Hf H:Hp)(E:St)(M:LS):Prop where
 ext:Ext Hf0 H0 Hf H
 len:Z E=Z M
 at':∀(i:Nat) (v:Option V) (s:Sl),E[i]?=aa v->M[i]?=aa s->gO G H0 Hf H v s
 dj:∀(i j:Nat) (s t:Sl) (v w:V) (a:Addr),M[i]?=aa s->M[j]?=aa t->E[i]?=aa (aa v)->E[j]?=aa (aa w)->Holds G Hf H s v a->Holds G Hf H t w a->i=j
variable{Hf0:Hp}{M:LS}
def av.sub(h:av G Hf0 H0 Hf H E M):aq Hf H:=h.ext.s
def av.inj(h:av G Hf0 H0 Hf H E M)(i j:Nat)(s t:Sl)(l:Addr)(a:M[i]?=aa s)(b:M[j]?=aa t)(e:s.isOwn=ac)(f:t.isOwn=ac)(c:E[i]?=aa (aa (.ref l)))(d:E[j]?=aa (aa (.ref l))):i=j:=
 h.dj i j s t _ _ l a b c d ((Holds.own e).mpr rfl) ((Holds.own f).mpr rfl)
variable{ρ':LS}
def av.re{d g:Hp}(h:av G Hf0 H0 Hf H E M)(x:Ext d g Hf' H')(l:Z ρ'=Z M)(ha:∀(i:Nat) (v:Option V) (s:Sl),E[i]?=aa v->ρ'[i]?=aa s->gO G g Hf' H' v s)
 (hd:∀(i:Nat) (s:Sl) (v:V) (a:Addr),ρ'[i]?=aa s->E[i]?=aa (aa v)->Holds G Hf' H' s v a->∃t,M[i]?=aa t/\Holds G Hf H t v a):av G d g Hf' H' E ρ':=
 (x,h.len.trans l.symm,ha,λi j s t v w a b c e f p q=>by
  have(r,b0,m):=hd i s v a b e p;have(t0,c0,n):=hd j t w a c f q;show h.dj i j r t0 v w a b0 c0 e f m n)
def av.step(h:av G Hf0 H0 Hf H E M)(e:Ext Hf H Hf' H'):av G Hf0 H0 Hf' H' E M:=by
 show h.re (h.ext.trans e) rfl (λi v s a b=>?_) λi s v a b c d=>(s,b,(h.at' i _ s c b).back (λo fp _ r=>r.up e.f e.h) d);have q:=h.at' i v s a b
 cases m:s.isOwn with
 |true=>
  have(l,g,x,y,w):=q.own m;have(o,j,p):=w.there2
  show .ofOwn m (l,g,x,by rw[e.n l o j p];show y,w.up e.f λo j=>e.h _ _ j)
 |false=>
  cases s with
  |no=>trivial
  |im d=>have(u,g,r):=q;show(u,g,r.up e.f)
  |val u=>show q
  |deep o=>
   have(u,fp,g,r,n,z):=q;show(u,fp,g,r.up e.f e.h,n,λa ha=>((z a ha).1,?_));have(A,j,p):=OT.memM o u fp r a ha;rw[e.n a A j p]
   show(z a ha).2
  | _=>nomatch m
def av.slot{s:Sl}(h:av G Hf0 H0 Hf H E M)(e:M[i]?=aa s):∃v,E[i]?=aa v/\gO G H0 Hf H v s:=by
 have hi:i<Z E:=by rw[h.len];show(dh.mp e).1
 show(E[i],by simp[hi],h.at' i _ s (by simp[hi]) e)
def av.imm(h:av G Hf0 H0 Hf H E M)(e:M[i]?=aa (.im d)):∃v,E[i]?=aa (aa v)/\Rep G Hf d v:=by
 have(v,a,u,b,r):=h.slot e;subst b;show(u,a,r)
def av.ownAt{s:Sl}(c:s.isOwn=ac)(h:av G Hf0 H0 Hf H E M)(e:M[i]?=aa s):∃l,E[i]?=aa (aa (.ref l))/\H0 l=ab/\Hf l=ab/\ju G Hf H l s:=by
 have(v,a,q):=h.slot e;have(l,b,d):=q.own c;rw[b]at a;show(l,a,d)
variable{j:Nat}
def c9{b:Type}{l:List b}{x y:b}(h:(l.set i x)[j]?=aa y):(j=i/\y=x/\i<Z l)\/(j≠i/\l[j]?=aa y):=by
 by_cases a:j=i
 .subst a;left;have hi:j<Z l:=by have:=(dh.mp h).1;simpa using this
  rw[kj hi]at h;show(rfl,(cP h).symm,hi)
 .right;rw[lu (eX a)]at h;show(a,h)
def av.setIm(h:av G Hf0 H0 Hf H E M)(r:Rep G Hf d v):av G Hf0 H0 Hf H (E.set i (aa v)) (M.set i (.im d)):=by
 show(h.ext,by simpa using h.len,λj u s a b=>?_,λj k s t u w l a b c d' p q=>?_)
 .rcases c9 b with⟨e,e',_⟩ |⟨e,b⟩
  .subst e e'
   rcases c9 a with⟨_,e',_⟩ |⟨e,_⟩
   .subst e';show(v,rfl,r)
   .show absurd rfl e
  .rcases c9 a with⟨e',_⟩ |⟨_,a⟩
   .show absurd e' e
   .show h.at' j u s a b
 .rcases c9 a with⟨e,e',_⟩ |⟨e,a⟩
  .subst e';show(p.calm rfl).elim
  .rcases c9 b with⟨f,e',_⟩ |⟨f,b⟩
   .subst e';show(q.calm rfl).elim
   .rcases c9 c with⟨e',_⟩ |⟨_,c⟩
    .show absurd e' e
    .rcases c9 d' with⟨e',_⟩ |⟨_,d'⟩
     .show absurd e' f
     .show h.dj j k s t u w l a b c d' p q
def av.setNo(h:av G Hf0 H0 Hf H E M):av G Hf0 H0 Hf H E (M.set i .no):=by
 show h.re h.ext (by simp) (λj u s a b=>?_) λj s v a b c d=>?_
 .rcases c9 b with⟨e,e',_⟩ |⟨e,b⟩
  .subst e';trivial
  .show h.at' j u s a b
 .rcases c9 b with⟨e,e',_⟩ |⟨e,b⟩
  .subst e';show(d.calm rfl).elim
  .show(s,b,d)
variable{u:V}
def av.setNew{s:Sl}(h:av G Hf0 H0 Hf H E M)(e:Ext Hf H Hf' H')(n:gO G H0 Hf' H' (aa u) s)(hn:∀a,Holds G Hf' H' s u a->H a=ab):
  av G Hf0 H0 Hf' H' (E.set i (aa u)) (M.set i s):=by
 have h':=h.step e
 have no:∀j t w a,M[j]?=aa t->E[j]?=aa _->Holds G Hf' H' t w a->Holds G Hf' H' s u a->False:=λj t w a b c p q=>by
  have(o,n,_):=(h.at' j _ t c b).there ((h.at' j _ t c b).back (λo fp _ r=>r.up e.f e.h) p);rw[hn a q]at n;nomatch n
 show(h'.ext,by simpa using h.len,λj w t a b=>?_,λj k t t' v w l a b c d' p q=>?_)
 .rcases c9 b with⟨e,e',_⟩ |⟨e,b⟩
  .subst e e'
   rcases c9 a with⟨_,e',_⟩ |⟨e,_⟩
   .subst e';show n
   .show absurd rfl e
  .rcases c9 a with⟨e',_⟩ |⟨_,a⟩
   .show absurd e' e
   .show h'.at' j w t a b
 .rcases c9 a with⟨m,x,_⟩ |⟨m,a⟩
  .rcases c9 b with⟨d,g,_⟩ |⟨d,b⟩
   .rw[m,d]
   .rcases c9 c with⟨_,e',_⟩ |⟨e',_⟩
    .cases e';rw[x]at p
     rcases c9 d' with⟨e',_⟩ |⟨_,d'⟩
     .show absurd e' d
     .show(no k t' w l b d' q p).elim
    .show absurd m e'
  .rcases c9 c with⟨e',_⟩ |⟨_,c⟩
   .show absurd e' m
   .rcases c9 b with⟨d,g,_⟩ |⟨d,b⟩
    .rcases c9 d' with⟨_,e',_⟩ |⟨e',_⟩
     .cases e';rw[g]at q;show(no j t v l a c p q).elim
     .show absurd d e'
    .rcases c9 d' with⟨e',_⟩ |⟨_,d'⟩
     .show absurd e' d
     .show h'.dj j k t t' v w l a b c d' p q
def av.setOwn{s:Sl}(b:s.isOwn=ac)(h:av G Hf0 H0 Hf H E M)(e:Ext Hf H Hf' H')(hn:H l=ab)(c:Hf' l=ab)(d:ju G Hf' H' l s):
  av G Hf0 H0 Hf' H' (E.set i (aa (.ref l))) (M.set i s):=
 h.setNew e (.ofOwn b (l,rfl,h.ext.h.free hn,c,d)) λa p=>by cases (Holds.own b).mp p;show hn
def av.chg{s s':Sl}(h:av G Hf0 H0 Hf H E M)(e:M[i]?=aa s)(el:E[i]?=aa (aa v))(k:∀b u,H b=aa u->Holds G Hf H s v b\/H' b=aa u)(ho:gO G H0 Hf H' (aa v) s')
 (hh:∀a,Holds G Hf H' s' v a->Holds G Hf H s v a\/∀(j:Nat) (t:Sl) (w:V),M[j]?=aa t->E[j]?=aa (aa w)->Holds G Hf H t w a->False):av G Hf0 H0 Hf H' E (M.set i s'):=by
 have q:=h.at' i _ s el e
 have m:∀b,Holds G Hf H s v b->H0 b=ab/\Hf b=ab:=λb p=>by
  cases hs:s.isOwn with
  |true=>
   have(l,J,h0,hf,_):=q.own hs;have A:=(Holds.own hs).mp p;cases J;cases A
   show(h0,hf)
  |false=>
   cases s with
   |deep o=>
    have(u,fp,J,r,n,z):=q;cases J;have(fp',r',ha):=p;have:=OT.funM o v fp fp' r r';subst this
    show z b ha
   | _=>first |show tP p.1 |nomatch hs
 have fr:∀j t w,j≠i->M[j]?=aa t->E[j]?=aa (aa w)->∀o fp,t=.deep o->OT G Hf H o w fp->OT G Hf H' o w fp:=λj t w hj b c o fp et r=>by
  subst et;show r.frame (aq.refl _) λx u hx hm=>?_
  rcases k x u hx with z |z
  .rcases hm with hm |hm
   .have(o',g,L):=q.there z;rw[hx]at g;cases g;rw[hm]at L
    nomatch L
   .show absurd (h.dj j i _ s w v x b e c el (fp,r,hm) z) hj
  .show z
 show((h.ext.f,λb u e=>?_,λb u e=>?_,h.ext.n),by simpa using h.len,λj u t a b=>?_,λj T t t' w Y a b c b' N p p'=>?_)
 .rcases k b u (h.ext.h b u e)with z |z
  .rw[(m b z).1]at e;nomatch e
  .show z
 .rcases k b u (h.ext.s b u e)with z |z
  .rw[(m b z).2]at e;nomatch e
  .show z
 .rcases c9 b with⟨e',A,_⟩ |⟨en,b⟩
  .subst e' A;rw[el]at a;cases a;show ho
  .have U:=h.at' j u t a b
   cases Q:t.isOwn with
   |false=>
    cases t with
    |no=>trivial
    |im d=>show U
    |val u=>show U
    |deep o=>
     have(w,fp,J,r,n,z):=U;subst J
     show(w,fp,rfl,fr j _ w en b a o fp rfl r,n,z)
    | _=>nomatch Q
   |true=>
    have(l2,A,e3,e4,q2):=U.own Q;subst A;show .ofOwn Q (l2,rfl,e3,e4,q2.up (aq.refl _) λo' g=>?_)
    rcases k l2 o' g with z |z
    .show absurd (h.dj j i t s _ v l2 b e a el ((Holds.own Q).mpr rfl) z) en
    .show z
 .have B:∀j t w,_[j]?=aa t->E[j]?=aa (aa w)->Holds G Hf H' t w a->(j=i/\∀j t w,M[j]?=aa t->E[j]?=aa (aa w)->Holds G Hf H t w a->False)\/∃t0,M[j]?=aa t0/\Holds G Hf H t0 w a:=λj t w b y p=>by
   rcases c9 b with⟨e',A,_⟩ |⟨en,b⟩
   .rw[A]at p;rw[e',el]at y;cases y;rw[e']
    rcases hh a p with z |z
    .show .inr (s,e,z)
    .show .inl (rfl,z)
   .show .inr (t,b,(h.at' j _ t y b).back (fr j t w en b y) p)
  rcases B j t w b b' p with⟨z1,z2⟩ |⟨t0,z1,z2⟩
  .rcases B T t' Y c N p' with⟨C,I⟩ |⟨t1,C,I⟩
   .rw[z1,C]
   .show(z2 T t1 Y C N I).elim
  .rcases B T t' Y c N p' with⟨C,I⟩ |⟨t1,C,I⟩
   .show(I j t0 w z1 b' z2).elim
   .show h.dj j T t0 t1 w Y a z1 C b' N z2 I
def av.chgX{s l:Sl}(h:av G Hf0 H0 Hf H E M)(x:Ext Hf H Hf' H1)(e:M[i]?=aa s)(el:E[i]?=aa (aa v))(k:∀b u,H1 b=aa u->Holds G Hf H s v b\/H' b=aa u)(d:gO G H0 Hf' H' (aa v) l)
 (m:∀a,Holds G Hf' H' l v a->Holds G Hf H s v a\/H a=ab):av G Hf0 H0 Hf' H' E (M.set i l):=by
 have up:∀b,Holds G Hf H s v b->Holds G Hf' H1 s v b:=λb p=>by
  cases s with
  |deep o=>have(fp,r,g):=p;show(fp,r.up x.f x.h,g)
  | _=>show p
 show(h.step x).chg e el (λb u g=>(k b u g).imp_left (up b)) d λa p=>?_
 rcases m a p with z |z
 .show .inl (up a z)
 .show .inr λj t w b c q=>?_;have(o,d,_):=(h.at' j _ t c b).there ((h.at' j _ t c b).back (λo fp _ r=>r.up x.f x.h) q);rw[z]at d
  nomatch d
def av.mutd{s f:Sl}{o:HO}(d:s.isOwn=ac)(c:f.isOwn=ac)(h:av G Hf0 H0 Hf H E M)(e:M[i]?=aa s)(el:E[i]?=aa (aa (.ref l)))(v:ju G Hf (upd H l o) l f):
  av G Hf0 H0 Hf (upd H l o) E (M.set i f):=by
 have(w,g,m,r,q):=h.ownAt d e;rw[el]at g;cases g;show h.chg e el (λb u n=>?_) (.ofOwn c (l,rfl,m,r,v)) λa p=>.inl ((Holds.own d).mpr ((Holds.own c).mp p))
 by_cases j:b=l
 .subst j;show .inl ((Holds.own d).mpr rfl)
 .show .inr (by rw[aN j];show n)
def av.fixd{s:Sl}{o:HO}(B:s.isOwn=ac)(h:av G Hf0 H0 Hf H E M)(e:M[i]?=aa s)(el:E[i]?=aa (aa (.ref l)))(U:H l=aa o)(hr:Rep G (upd Hf l o) d (.ref l)):
  av G Hf0 H0 (upd Hf l o) H E (M.set i (.im d)):=by
 have(l',f,T,g,q):=h.ownAt B e;rw[el]at f;cases f;show h.re (h.ext.fix T g U) (by simp) (λj u t a b=>?_) λj t v a b c p=>?_
 .rcases c9 b with⟨e,e',_⟩ |⟨en,b⟩
  .subst e e';rw[el]at a;cases a;show(_,rfl,hr)
  .have q:=h.at' j u t a b
   cases m:t.isOwn with
   |false=>
    cases t with
    |no=>trivial
    |im d=>have(J,f,r):=q;show(J,f,r.up (bU g))
    |val J=>show q
    |deep o=>
     have(w,fp,f,r,n,z):=q;subst f;show(w,fp,rfl,r.up (bU g) (aq.refl _),n,λx C=>((z x C).1,?_));rw[aN (λy=>?_)]
     .show(z x C).2
     .subst y
      show en (h.dj j i _ s w _ x b e a el (fp,r,C) ((Holds.own B).mpr rfl))
    | _=>nomatch m
   |true=>
    have(I,L,N,Q,Y):=q.own m;subst L;show .ofOwn m (I,rfl,N,?_,Y.up (bU g) λo' A=>A);rw[aN (λz=>?_)]
    .show Q
    .subst z;show en (h.inj j i t s I b e m B a el)
 .rcases c9 b with⟨_,e',_⟩ |⟨_,b⟩
  .subst e';show(p.calm rfl).elim
  .show(t,b,(h.at' j _ t c b).back (λo fp _ r=>r.up (bU g) (aq.refl _)) p)
def PE.imp{t':TE}(h:PE X e t)(i:∀E H Q,t' E H Q->t E H Q):PE X e t':=λU s E H Q I q=>h U s E H Q I (i E H Q q)
variable{t':TT}
def PT.imp{t:TT}(h:PT X e t)(i:∀E H Q,t' E H Q->t E H Q):PT X e t':=λU s E H Q I q=>h U s E H Q I (i E H Q q)
def PW.imp{t:TT}(h:PW X e t)(i:∀E H Q,t' E H Q->t E H Q):PW X e t':=λwh U s E H Q I q=>h wh U s E H Q I (i E H Q q)
variable{es:LEx}
def PA.imp{t t':TA}(h:PA X es t)(i:∀E H Q,t' E H Q->t E H Q):PA X es t':=λpos U s E H Q I q=>h pos U s E H Q I (i E H Q q)
def PS.imp{st:Stmt}{t t':TS}(h:PS X st t)(i:∀X4 E H,t' X4 E H->t X4 E H):PS X st t':=λU s E H X4 I q=>h U s E H X4 I (i X4 E H q)
def PSs.imp{st:List Stmt}{t t':TS}(h:PSs X st t)(i:∀X4 E H,t' X4 E H->t X4 E H):PSs X st t':=λU s E H X4 I q=>h U s E H X4 I (i X4 E H q)
def PG.imp{t t':TG}(h:PG X e t)(i:∀v E H Q,t' v E H Q->t v E H Q):PG X e t':=λU s E H v u Q I r q=>h U s E H v u Q I r (i v E H Q q)
def PGs.imp{t t':TGs}(h:PGs X es t)(i:∀v E H Q,t' v E H Q->t v E H Q):PGs X es t':=λU s E H v u Q I r q=>h U s E H v u Q I r (i v E H Q q)
def PI.imp{t t':TI}(h:PI X tg e t)(i:∀E H R,t' E H R->t E H R):PI X tg e t':=λU s E H R I q=>h U s E H R I (i E H R q)
def PTs.imp{t:TT}(h:PTs X cs t)(i:∀E H Q,t' E H Q->t E H Q):PTs X cs t':=λU s E H Q I q=>h U s E H Q I (i E H Q q)
def OpR.imp{f:Value->Value->Sem Value}{r a:R2}(h:OpR X f r)(i:∀x y H Q,a x y H Q->r x y H Q):OpR X f a:=λU s E H x y v u Q I b c q=>h U s E H x y v u Q I b c (i x y H Q q)
def io.imp{f:Value}{r a:LVv->Hp->VK->Prop}(h:io X f r)(i:∀C H Q,a C H Q->r C H Q):io X f a:=λU s E H C us Q I b q=>h U s E H C us Q I b (i C H Q q)
nonrec def Gx(c:Str->Addr)(X:Cx):Gc:=(X.K,c)
inductive tD(G:Gc)(f:MF1)(E:St)(H:Hp)(Q:VK):Prop
 |mk:∀Hf0 H0 Hf M d,av G Hf0 H0 Hf H E M->f M=aa d->(∀v Hf' H',Ext Hf H Hf' H'->Rep G Hf' d v->Q v H')->tD G f E H Q
inductive tDB(G:Gc)(f:MF1)(E:St)(H:Hp)(Q:VK):Prop
 |mk:∀Hf0 H0 Hf M d,av G Hf0 H0 Hf H E M->f M=aa d->(∀v Hf' H',Ext Hf H Hf' H'->Rep G H' d v->Q v H')->tDB G f E H Q
inductive tDC(G:Gc)(f:MF2)(E:St)(H:Hp)(Q:VK):Prop
 |mk:∀Hf0 H0 Hf M ds,av G Hf0 H0 Hf H E M->f M=aa ds->(∀a vs Hf' H',Ext Hf H Hf' H'->(SqL G.K H' a vs\/SqT G.K H' a vs)->am G Hf' ds vs->Q (.ref a) H')->tDC G f E H Q
inductive tDO(G:Gc)(f:MF2)(E:St)(H:Hp)(Q:VK):Prop
 |mk:∀Hf0 H0 Hf M ds,av G Hf0 H0 Hf H E M->f M=aa ds->(∀l vs Hf' H',Ext Hf H Hf' H'->H l=ab->Hf' l=ab->H' l=aa (.lst vs)->am G Hf' ds vs->Q (.ref l) H')->tDO G f E H Q
inductive tDA(G:Gc)(f:MF2)(E:St)(H:Hp)(Q:LVv->Hp->Prop):Prop
 |mk:∀Hf0 H0 Hf M ds,av G Hf0 H0 Hf H E M->f M=aa ds->(∀vs Hf' H',Ext Hf H Hf' H'->am G Hf' ds vs->Q vs H')->tDA G f E H Q
inductive F7(G:Gc)(f:MF2)(E:St)(H:Hp)(Q:LVv->Hp->Prop):Prop
 |mk:∀Hf0 H0 Hf M ds,av G Hf0 H0 Hf H E M->f M=aa ds->(∀vs Hf' H',Ext Hf H Hf' H'->am G H' ds vs->Q vs H')->F7 G f E H Q
inductive tDT(G:Gc)(f:MF4)(E:St)(H:Hp)(Q:Bool->Hp->Prop):Prop
 |mk:∀Hf0 H0 Hf M b,av G Hf0 H0 Hf H E M->f M=aa b->(∀Hf' H',Ext Hf H Hf' H'->Q b H')->tDT G f E H Q
def DE(c:Str->Addr)(X:Cx)(e:Expr)(f:MF1):Prop:=PE X e (tD (Gx c X) f)
def DB(c:Str->Addr)(X:Cx)(e:Expr)(f:MF1):Prop:=PE X e (tDB (Gx c X) f)
def DC(c:Str->Addr)(X:Cx)(e:Expr)(f:MF2):Prop:=PE X e (tDC (Gx c X) f)
def DO(c:Str->Addr)(X:Cx)(e:Expr)(f:MF2):Prop:=PE X e (tDO (Gx c X) f)
structure DA(c:Str->Addr)(X:Cx)(es:LEx)(f:MF2):Prop where
 pa:PA X es (tDA (Gx c X) f)
 len:∀M ds,f M=aa ds->Z ds=Z es
structure DAB(c:Str->Addr)(X:Cx)(es:LEx)(f:MF2):Prop where
 pa:PA X es (F7 (Gx c X) f)
 len:∀M ds,f M=aa ds->Z ds=Z es
def DT(c:Str->Addr)(X:Cx)(e:Expr)(f:MF4):Prop:=PT X e (tDT (Gx c X) f)
def DW(c:Str->Addr)(X:Cx)(e:Expr)(f:MF4):Prop:=PW X e (tDT (Gx c X) f)
abbrev D.scalar:D->Bool
 |.non=>ac
 |.bl _=>ac
 |.int _=>ac
 |.str _=>ac
 | _=>af
def Rep.sc(a:d.scalar=ac)(r:Rep G H d v):Rep G H' d v:=by
 cases d <;> first |show r |cases a
abbrev iN:D->OLD
 |.lst C=>aa C
 |.tup C=>aa C
 |.kl C=>aa C
 |.kt C=>aa C
 | _=>ab
def rB(e:iN d=aa ds)(r:Rep G H d v):∃a vs,v=.ref a/\(SqL G.K H a vs\/SqT G.K H a vs)/\am G H ds vs:=by
 cases d with
 |lst C=>cases e;have(a,vs,b,q,r):=r;show(a,vs,b,.inl (SqL.of q),r)
 |tup C=>cases e;have(a,vs,b,q,r):=r;show(a,vs,b,.inr (SqT.of q),r)
 |kl C=>cases e;have(a,vs,b,q,r):=r;show(a,vs,b,.inl q,r)
 |kt C=>cases e;have(a,vs,b,q,r):=r;show(a,vs,b,.inr q,r)
 | _=>nomatch e
def yI(s:aq H H')(h:SqL K H a vs\/SqT K H a vs):SqL K H' a vs\/SqT K H' a vs:=h.imp s.seq s.tup
def aR(f:MF2)(M:LS):OD:=(f M).map .lst
def bC(f:MF2)(M:LS):OD:=(f M).map .tup
def aW(f:MF1)(M:LS):OLD:=(f M).bind iN
def bi(f g:MF1)(M:LS):OD:=(f M).or (g M)
variable{c:Str->Addr}{f:MF1}
def DE.db(h:DE c X e f):DB c X e f:=PE.imp h λE H Q b=>by
 have(Hf0,H0,Hf,M,d,st,a,k):=b;show((Hf0,H0,Hf,M,d,st,a,λv Hf' H' x r=>k v Hf' H' x (r.up x.s)))
def DE.dc(h:DE c X e f):DC c X e (aW f):=PE.imp h λE H Q j=>by
 have(Hf0,H0,Hf,M,ds,st,b,k):=j;unfold aW at b
 cases g:f M with
 |none=>rw[g]at b;nomatch b
 |some d=>
  rw[g]at b;show(Hf0,H0,Hf,M,d,st,g,λv Hf' H' x r=>?_);have(a,vs,i,q,B):=rB b r;subst i;show k a vs Hf' H' x (yI x.s q) B
def DO.de{f:MF2}(h:DO c X e f):DE c X e (aR f):=PE.imp h λE H Q j=>by
 have(Hf0,H0,Hf,M,d,st,a,k):=j;unfold aR at a
 cases b:f M with
 |none=>rw[b]at a;nomatch a
 |some ds=>
  rw[b]at a;have a:=cP a;subst a;show(Hf0,H0,Hf,M,ds,st,b,λl vs Hf' H' x hn g i r=>k _ _ H' (x.fix hn g i) (l,vs,rfl,be,r.up (bU g)))
def DO.dc{f:MF2}(h:DO c X e f):DC c X e f:=PE.imp h λE H Q d=>by
 have (Hf0,H0,Hf,M,ds,st,a,k):=d;show (
 (Hf0,H0,Hf,M,ds,st,a,λl vs Hf' H' x hn g b r=>k l vs Hf' H' x (.inl (SqL.of b)) r))
def DE.orE{g:MF1}(h:DE c X e f)(h':DE c X e g):DE c X e (bi f g):=λU s E H Q I i=>by
 have(Hf0,H0,Hf,M,d,st,a,k):=i;unfold bi at a
 cases b:f M with
 |some d'=>
  rw[b]at a;cases a
  show h U s E H Q I (Hf0,H0,Hf,M,_,st,b,k)
 |none=>
  rw[b]at a;show h' U s E H Q I (Hf0,H0,Hf,M,d,st,a,k)
def ae(i:Nat)(M:LS):OD:=match M[i]? with
 |some (.im d)=>aa d
 | _=>ab
def cT(i:Nat)(M:LS):OD:=match M[i]? with
 |some (.im d)=>aa d
 |some (.own C)=>aa (.lst C)
 |some (.ownd ks C)=>aa (.dic ks C)
 |some (.deep o)=>if o.kn then aa o.toD else ab
 | _=>ab
def ar(i:Nat)(M:LS):OLD:=match M[i]? with
 |some (.im d)=>iN d
 |some (.own C)=>aa C
 | _=>ab
def F8(h:ae i M=aa d):M[i]?=aa (.im d):=by
 unfold ae at h
 grind
def F9(h:PE X e (c8 i)):DE c X e (ae i):=PE.imp h λE H Q f=>by
 have(Hf0,H0,Hf,M,d,st,b,k):=f;have(v,a,r):=st.imm (F8 b);show(v,a,k v Hf H (Ext.refl st.sub) r)
def Ga(h:PE X e (c8 i)):DC c X e (ar i):=PE.imp h λE H Q j=>by
 have(Hf0,H0,Hf,M,ds,st,b,k):=j;unfold ar at b
 cases es:M[i]? with
 |none=>rw[es]at b;nomatch b
 |some s=>
  rw[es]at b
  cases s with
  |im d=>
   have(v,f,r):=st.imm es;have(a,vs,g,q,B):=rB b r;subst g
   show(_,f,k a vs Hf H (Ext.refl st.sub) (yI st.sub q) B)
  |own C=>
   cases b;have(l,f,_,_,vs,q,r):=st.ownAt rfl es
   show(_,f,k l vs Hf H (Ext.refl st.sub) (.inl (SqL.of q)) r)
  | _=>nomatch b
def Gb(h:PE X e (c8 i)):DB c X e (cT i):=PE.imp h λE H Q j=>by
 have(Hf0,H0,Hf,M,d,st,a,k):=j;unfold cT at a
 cases es:M[i]? with
 |none=>simp only[es]at a;nomatch a
 |some s=>
  rw[es]at a
  cases s with
  |im d=>
   cases a;have(v,b,r):=st.imm es
   show(_,b,k v Hf H (Ext.refl st.sub) (r.up st.sub))
  |own C=>
   cases a;have(l,b,_,_,vs,q,r):=st.ownAt rfl es
   show(_,b,k _ Hf H (Ext.refl st.sub) (l,vs,rfl,q,r.up st.sub))
  |ownd ks C=>
   cases a;have(l,b,_,_,vs,q,z,r):=st.ownAt rfl es
   show(_,b,k _ Hf H (Ext.refl st.sub) (l,vs,rfl,q,z,r.up st.sub))
  |deep o=>
   replace a:(if o.kn=ac then aa o.toD else ab)=aa d:=a;split at a
   .rename_i g;cases a;have(v,b,u,fp,f,r,_):=st.slot es;subst f;show(_,b,k _ Hf H (Ext.refl st.sub) (r.rep st.sub g))
   .nomatch a
  | _=>nomatch a
def uH(h:PE X e (tC v))(r:∀G H,Rep G H d v):DE c X e (λ_=>aa d):=PE.imp h λE H Q b=>by
 have(Hf0,H0,Hf,M,d',st,a,k):=b;cases a;show k v Hf H (Ext.refl st.sub) (r _ _)
def Ge{i:Int}{j}:DE c X (.Constant (.int i) j pos) (λ_=>aa (.int i)):=uH E6 λ_ _=>rfl
def Gf{i:Bool}{j}:DE c X (.Constant (.bool i) j pos) (λ_=>aa (.bl i)):=uH Lu λ_ _=>rfl
def N8{j}:DE c X (.Constant .none j pos) kN:=uH Lv λ_ _=>rfl
def N9{i:Str}{j}:DE c X (.Constant (.str i) j pos) (λ_=>aa (.str i)):=uH Lw λ_ _=>rfl
def dv(i:Nat)(b:autoParam (X.N[i]?=aa x) Zb)(hv:autoParam (Vis X.env.scope x) Ze)(hd:autoParam (NDb x) Zc)
 (a:autoParam (NCd x) Zc):DE c X (.Name x pos) (ae i):=F9 (m6 b hv hd a)
def dvC(i:Nat)(b:autoParam (X.N[i]?=aa x) Zb)(hv:autoParam (Vis X.env.scope x) Ze)(hd:autoParam (NDb x) Zc)
 (a:autoParam (NCd x) Zc):DC c X (.Name x pos) (ar i):=Ga (m6 b hv hd a)
def dvB(i:Nat)(b:autoParam (X.N[i]?=aa x) Zb)(hv:autoParam (Vis X.env.scope x) Ze)(hd:autoParam (NDb x) Zc)
 (a:autoParam (NCd x) Zc):DB c X (.Name x pos) (cT i):=Gb (m6 b hv hd a)
def ag(f:MF1)(g:MF2)(M:LS):OLD:=(f M).bind λd=>(g M).map λds=>d::ds
variable{g:MF2}
def uI(h:ag f g M=aa ds):∃d r,f M=aa d/\g M=aa r/\ds=d::r:=by
 unfold ag at h
 cases a:f M with
 |none=>rw[a]at h;nomatch h
 |some d=>
  cases b:g M with
  |none=>rw[a,b]at h;nomatch h
  |some r=>rw[a,b]at h;cases h;show(d,r,rfl,rfl,rfl)
def Oa:DA c X [] nZ:=(PA.imp d9 λE H Q b=>by have(Hf0,H0,Hf,M,ds,st,a,k):=b;cases a;show k [] Hf H (Ext.refl st.sub) rfl,λM ds h=>by cases h;rfl)
def yJ(ha:DE c X e f)(hr:DA c X es g)(m:autoParam (StE X e es) Zb):DA c X (e::es) (ag f g):=by
 show(PA.imp (e9 ha hr.pa m) λE H Q n=>?_,λM ds h=>?_)
 .have(Hf0,H0,Hf,M,ds,st,l,k):=n;have(d,r,b,a,rfl):=uI l;show(Hf0,H0,Hf,M,d,st,b,λv a4 H1 i p=>(Hf0,H0,a4,M,r,st.step i,a,λvs aG H2 j q=>k _ aG H2 (i.trans j) (.cons (p.up j.f) q)))
 .have(d,r,b,a,rfl):=uI h;simp[hr.len M r a]
def Ob:DAB c X [] nZ:=(PA.imp d9 λE H Q b=>by have(Hf0,H0,Hf,M,ds,st,a,k):=b;cases a;show k [] Hf H (Ext.refl st.sub) rfl,λM ds h=>by cases h;rfl)
def rC(ha:DB c X e f)(hr:DAB c X es g)(m:autoParam (StE X e es) Zb):DAB c X (e::es) (ag f g):=by
 show(PA.imp (e9 ha hr.pa m) λE H Q n=>?_,λM ds h=>?_)
 .have(Hf0,H0,Hf,M,ds,st,l,k):=n;have(d,r,b,a,rfl):=uI l;show(Hf0,H0,Hf,M,d,st,b,λv a4 H1 i p=>(Hf0,H0,a4,M,r,st.step i,a,λvs aG H2 j q=>k _ aG H2 (i.trans j) (.cons (p.up j.h) q)))
 .have(d,r,b,a,rfl):=uI h;simp[hr.len M r a]
def Oc{f:MF2}(h:DA c X es f)(hz:autoParam (Z es<=1000) Zo):DO c X (.List es pos) f:=PE.imp (ux h.pa) λE H Q d=>by
 have (Hf0,H0,Hf,M,ds,st,b,k):=d;show (
 (Hf0,H0,Hf,M,ds,st,b,λvs Hf' H' x r=>(by
  rw[<- r.length,h.len M ds b];show fJ (FN hz),λp a=>k p vs Hf' _ (x.trans (Ext.tmp x.s a)) (x.h.free a) (x.s.free a) be r)))
def Gg{f:MF2}{g:Nat}(h:DA c X es f)(hz:autoParam (Z es<=1000) Zo):DE c X (.Tuple es g pos) (bC f):=PE.imp (M5 h.pa) λE H Q i=>by
 have(Hf0,H0,Hf,M,d,st,a,k):=i;unfold bC at a
 cases b:f M with
 |none=>rw[b]at a;nomatch a
 |some ds=>
  rw[b]at a;have a:=cP a;subst a
  show(Hf0,H0,Hf,M,ds,st,b,λvs Hf' H' x r=>(by
   rw[<- r.length,h.len M ds b];show fJ (FN hz),λp e=>k _ _ _ (x.trans (Ext.new x.s e)) (p,vs,rfl,be,r.up (bU (x.s.free e)))))
def rD(G:Gc)(m:D->D->OD):R2:=λa b H Q=>∃Hf x y d,aq Hf H/\Rep G Hf x a/\Rep G Hf y b/\m x y=aa d/\∀v Hf' H',Ext Hf H Hf' H'->Rep G Hf' d v->Q v H'
nonrec abbrev OpD(c:Str->Addr)(X:Cx)(f:Value->Value->Sem Value)(m:D->D->OD):Prop:=OpR X f (rD (Gx c X) m)
def m2(m:D->D->OD)(f g:MF1)(M:LS):OD:=(f M).bind λx=>(g M).bind λy=>m x y
variable{m:D->D->OD}{g:MF1}
def nr(h:m2 m f g M=aa d):∃x y,f M=aa x/\g M=aa y/\m x y=aa d:=by
 unfold m2 at h
 cases a:f M with
 |none=>rw[a]at h;nomatch h
 |some x=>
  cases b:g M with
  |none=>rw[a,b]at h;nomatch h
  |some y=>rw[a,b]at h;show(x,y,rfl,rfl,h)
variable{r:R2}
def two(hr:∀x y H Q,rD (Gx c X) m x y H Q->r x y H Q)(h:tD (Gx c X) (m2 m f g) E H Q):tOp r (tD (Gx c X) f) (tD (Gx c X) g) E H Q:=by
 have(Hf0,H0,Hf,M,d,st,p,k):=h;have(x,y,j,l,n):=nr p;show(Hf0,H0,Hf,M,x,st,j,λv a4 H1 e q=>(Hf0,H0,a4,M,y,st.step e,l,λu aG H2 b z=>hr _ _ _ _ (aG,x,y,d,b.s,q.up b.f,z,n,λw a i B A=>k w a i ((e.trans b).trans B) A)))
def Gh(hr:∀x y H Q,rD (Gx c X) m x y H Q->r x y H Q)(q:∀x y d,m x y=aa d->d.scalar=ac)(h:tD (Gx c X) (m2 m f g) E H Q):tOp r (tDB (Gx c X) f) (tDB (Gx c X) g) E H Q:=by
 have(Hf0,H0,Hf,M,d,st,p,k):=h;have(x,y,l,n,b):=nr p
 show(Hf0,H0,Hf,M,x,st,l,λv a4 H1 e z=>(Hf0,H0,a4,M,y,st.step e,n,λu aG H2 a A=>hr _ _ _ _ (H2,x,y,d,aq.refl _,z.up a.h,A,b,λw j i C B=>
  k w aG i ((e.trans a).trans (Ext.grow a.s C.h)) (B.sc (q _ _ _ b)))))
variable{a b:Expr}
def yK{op:Operator}(e:OpD c X (fS op) m)(ha:DE c X a f)(d:DE c X b g):DE c X (.BinOp a op b pos) (m2 m f g):=
 PE.imp (Fe e ha d) λ_ _ _ h=>two (λ_ _ _ _ h=>h) h
variable{op:CmpOp}
def nt(i:OpD c X (cg op) m)(j:∀x y d,m x y=aa d->d.scalar=ac)(ha:DB c X a f)(e:DB c X b g)(hm:autoParam (jU op b=af) Zp):
  DE c X (.Compare a [op] [b] pos) (m2 m f g):=PE.imp (ME i ha e hm) λ_ _ _ h=>Gh (λ_ _ _ _ h=>h) j h
def mB(f:MF1)(M:LS):Option Bool:=(f M).bind λd=>match d with
 |.bl b=>aa b
 | _=>ab
def rE{b:Bool}(h:mB f M=aa b):f M=aa (.bl b):=by
 unfold mB at h
 cases e:f M with
 |none=>rw[e]at h;nomatch h
 |some d=>rw[e]at h;cases d <;> cases h;rfl
def j5(j:OpD c X (cg op) m)(l:∀x y d,m x y=aa d->d.scalar=ac)(ha:DB c X a f)(i:DB c X b g)(hm:autoParam (jU op b=af) Zp):
  DT c X (.Compare a [op] [b] pos) (mB (m2 m f g)):=PT.imp (MF j ha i hm) λE H Q n=>by
 have (Hf0,H0,Hf,M,b,st,e,k):=n;show (
 Gh (λ_ _ _ _ h=>h) l (Hf0,H0,Hf,M,.bl b,st,rE e,λv Hf' H' x r=>(b,r,k Hf' H' x)))
abbrev nu:D->Option Bool
 |.non=>aa af
 |.bl b=>aa b
 |.int i=>aa (i != 0)
 |.str x=>if x.length<=16777216 then aa ((x.length:Int) != 0) else ab
 |.lst C=>aa (!C.isEmpty)
 |.tup C=>aa (!C.isEmpty)
 |.kl C=>aa (!C.isEmpty)
 |.kt C=>aa (!C.isEmpty)
 |.dic ks _=>aa (!ks.isEmpty)
 | _=>ab
def am.empty(r:am G H ds vs):ds.isEmpty=vs.isEmpty:=by
 cases ds with
 |nil=>cases (r);rfl
 |cons d ds=>have(v,a,e,_):=r;subst e;rfl
def Od{a b:Type}{ks:List a}{vs:List b}(h:Z ks=Z vs):(ks.zip vs).isEmpty=ks.isEmpty:=by
 cases ks <;> cases vs <;> first |rfl |cases h
def Oe{b:Bool}(e:nu d=aa b)(r:Rep G H d v):yf G.K v H b:=by
 cases d with
 |non=>cases e;subst r;rfl
 |bl x=>cases e;subst r;rfl
 |int i=>cases e;subst r;rfl
 |str x=>
  subst r;replace e:(if x.length<=16777216 then aa _ else ab)=aa b:=e;split at e
  .rename_i f;cases e;show(by rw[dJ];show f,rfl)
  .grind
 |lst C=>cases e;have(a,vs,c,q,r):=r;subst c;show .inl (vs,SqL.of q,by rw[r.empty])
 |tup C=>cases e;have(a,vs,c,q,r):=r;subst c;show .inr (.inl (vs,SqT.of q,by rw[r.empty]))
 |kl C=>cases e;have(a,vs,c,q,r):=r;subst c;show .inl (vs,q,by rw[r.empty])
 |kt C=>cases e;have(a,vs,c,q,r):=r;subst c;show .inr (.inl (vs,q,by rw[r.empty]))
 |dic ks C=>cases e;have(a,vs,c,q,l,r):=r;subst c;show .inr (.inr (_,q,by rw[Od l]))
 |ins _ _ _=>nomatch e
 |kd _ _=>nomatch e
 |dT _ _=>nomatch e
def bx(f:MF1)(M:LS):Option Bool:=(f M).bind nu
def rF(ha:DB c X a f)(i:autoParam (∀e,isTrue a X.env e=(do let v <- e;gJ a.pos;eZ [v] (truthy v))) Zd):DT c X a (bx f):=
 PT.imp (MK ha i) λE H Q j=>by
  have(Hf0,H0,Hf,M,b,st,g,k):=j;unfold bx at g
  cases h:f M with
  |none=>rw[h]at g;nomatch g
  |some d=>
   rw[h]at g;show(Hf0,H0,Hf,M,d,st,h,λv Hf' H' x r=>(b,Oe g r,k Hf' H' x))
def da(f g:MF4)(M:LS):Option Bool:=(f M).bind λb=>if b then g M else aa af
def mOr(f g:MF4)(M:LS):Option Bool:=(f M).bind λb=>if b then aa ac else g M
def dN(f:MF4)(M:LS):Option Bool:=(f M).map not
variable{f:MF4}
def DW.dt(h:DW c X e f):DT c X e f:=PW.pt h
def uJ(h:DT c X a f):DW c X (.BoolOp .And [a] pos) f:=LB h
def rG(h:DT c X a f):DW c X (.BoolOp .Or [a] pos) f:=LC h
def rH{g:MF4}{rest:LEx}(h:DT c X a f)(h':DW c X (.BoolOp .And (b::rest) pos) g):DW c X (.BoolOp .And (a::b::rest) pos) (da f g):=PW.imp (LF h h') λE H Q j=>by
 have(Hf0,H0,Hf,M,b,st,d,k):=j;unfold da at d
 cases e:f M with
 |none=>rw[e]at d;nomatch d
 |some x=>
  rw[e]at d;show(Hf0,H0,Hf,M,x,st,e,λa4 H1 i=>?_)
  cases x with
  |true=>rw[if_pos rfl];show(Hf0,H0,a4,M,b,st.step i,d,λaG H2 l=>k aG H2 (i.trans l))
  |false=>cases d;rw[if_neg bN];show k a4 H1 i
def nz{g:MF4}{rest:LEx}(h:DT c X a f)(h':DW c X (.BoolOp .Or (b::rest) pos) g):DW c X (.BoolOp .Or (a::b::rest) pos) (mOr f g):=PW.imp (LG h h') λE H Q j=>by
 have(Hf0,H0,Hf,M,b,st,d,k):=j;unfold mOr at d
 cases e:f M with
 |none=>rw[e]at d;nomatch d
 |some x=>
  rw[e]at d;show(Hf0,H0,Hf,M,x,st,e,λa4 H1 i=>?_)
  cases x with
  |false=>rw[if_neg bN];show(Hf0,H0,a4,M,b,st.step i,d,λaG H2 l=>k aG H2 (i.trans l))
  |true=>cases d;rw[if_pos rfl];show k a4 H1 i
def Gi(h:DT c X a f):DT c X (.UnaryOp .Not a pos) (dN f):=PT.imp (LH h) λE H Q g=>by
 have(Hf0,H0,Hf,M,b,st,d,k):=g;unfold dN at d
 cases e:f M with
 |none=>rw[e]at d;nomatch d
 |some x=>
  rw[e]at d;cases d;show(Hf0,H0,Hf,M,x,st,e,λa4 H1 i=>k a4 H1 i)
def j6(f g:MF1)(M:LS):OD:=(mB f M).bind λb=>if b then g M else aa (.bl af)
def vOr(f g:MF1)(M:LS):OD:=(mB f M).bind λb=>if b then aa (.bl ac) else g M
def j7(f:MF1)(M:LS):OD:=(mB f M).map λb=>.bl (!b)
variable{f:MF1}
def rJ{op}(h:DE c X a f):DE c X (.BoolOp op [a] pos) f:=LL h
def uK{rest:LEx}(h:DE c X a f)(h':DE c X (.BoolOp .And (b::rest) pos) g):DE c X (.BoolOp .And (a::b::rest) pos) (j6 f g):=PE.imp (LM h h') λE H Q l=>by
 have(Hf0,H0,Hf,M,d,st,e,k):=l;unfold j6 at e
 cases i:mB f M with
 |none=>rw[i]at e;nomatch e
 |some x=>
  rw[i]at e;show(Hf0,H0,Hf,M,.bl x,st,rE i,λv a4 H1 j m=>(x,m,?_))
  cases x with
  |true=>rw[if_pos rfl];show(Hf0,H0,a4,M,d,st.step j,e,λv aG H2 p n=>k v aG H2 (j.trans p) n)
  |false=>cases e;rw[if_neg bN];show k _ a4 H1 j rfl
def yL{rest:LEx}(h:DE c X a f)(h':DE c X (.BoolOp .Or (b::rest) pos) g):DE c X (.BoolOp .Or (a::b::rest) pos) (vOr f g):=PE.imp (LO h h') λE H Q l=>by
 have(Hf0,H0,Hf,M,d,st,e,k):=l;unfold vOr at e
 cases i:mB f M with
 |none=>rw[i]at e;nomatch e
 |some x=>
  rw[i]at e;show(Hf0,H0,Hf,M,.bl x,st,rE i,λv a4 H1 j m=>(x,m,?_))
  cases x with
  |false=>rw[if_neg bN];show(Hf0,H0,a4,M,d,st.step j,e,λv aG H2 p n=>k v aG H2 (j.trans p) n)
  |true=>cases e;rw[if_pos rfl];show k _ a4 H1 j rfl
def yM(h:DE c X a f):DE c X (.UnaryOp .Not a pos) (j7 f):=PE.imp (LP h) λE H Q g=>by
 have(Hf0,H0,Hf,M,d,st,b,k):=g;unfold j7 at b
 cases e:mB f M with
 |none=>rw[e]at b;nomatch b
 |some x=>
  rw[e]at b;cases b;show(Hf0,H0,Hf,M,.bl x,st,rE e,λv a4 H1 j i=>(x,i,k _ a4 H1 j rfl))
def vIf(t:MF4)(f g:MF1)(M:LS):OD:=(t M).bind λb=>if b then f M else g M
variable{cd:Expr}
def Gj{t:MF4}(m:DT c X cd t)(ha:DE c X a f)(l:DE c X b g):DE c X (.IfExp cd a b pos) (vIf t f g):=PE.imp (E8 m ha l) λE H Q n=>by
 have(Hf0,H0,Hf,M,d,st,e,k):=n;unfold vIf at e
 cases i:t M with
 |none=>rw[i]at e;nomatch e
 |some x=>
  rw[i]at e;show(Hf0,H0,Hf,M,x,st,i,λa4 H1 h=>?_)
  cases x with
  |true=>rw[if_pos rfl];show(Hf0,H0,a4,M,d,st.step h,e,λv aG H2 j r=>k v aG H2 (h.trans j) r)
  |false=>rw[if_neg bN];show(Hf0,H0,a4,M,d,st.step h,e,λv aG H2 j r=>k v aG H2 (h.trans j) r)
noncomputable instance {i j:Int}:Decidable (rf i j):=by unfold rf;infer_instance
noncomputable instance {i j:Int}:Decidable (m8 i j):=by unfold m8;infer_instance
noncomputable instance {i j:Int}:Decidable (m9 i j):=by unfold m9;infer_instance
abbrev dI(X5:Int->Int->Prop)[∀i j,Decidable (X5 i j)](g:Int->Int->D):D->D->OD
 |.int i,.int j=>if X5 i j then aa (g i j) else ab
 | _,_=>ab
abbrev dI0(g:Int->Int->D):D->D->OD
 |.int i,.int j=>aa (g i j)
 | _,_=>ab
abbrev eK:D->D->OD
 |.int i,.int j=>aa (.int (i+j))
 |.str a,.str b=>if a.length+b.length<=16777216 then aa (.str (a++b)) else ab
 |.lst a,.lst b=>if a.length+b.length<=16777216 then aa (.lst (a++b)) else ab
 | _,_=>ab
nonrec def kO:D->D->OD:=dI0 λi j=>.int (i-j)
nonrec def Of:D->D->OD:=dI m9 λi j=>.int (i*j)
nonrec def kP:D->D->OD:=dI rf λi j=>.int (i / j)
nonrec def cb:D->D->OD:=dI (λ_ j=>0<j) λi j=>.int (i % j)
nonrec def rK:D->D->OD:=dI m8 λi j=>.int (i ^ S j)
nonrec def Og:D->D->OD:=dI (λ_ j=>0<=j) λi j=>.int (i / 2 ^ S j)
nonrec def Oh:D->D->OD:=dI0 λi j=>.int (d8.bitAnd i j)
nonrec def dLt:D->D->OD:=dI0 λi j=>.bl (decide (i<j))
nonrec def dLe:D->D->OD:=dI0 λi j=>.bl (decide (i<=j))
nonrec def dGt:D->D->OD:=dI0 λi j=>.bl (decide (j<i))
nonrec def dGe:D->D->OD:=dI0 λi j=>.bl (decide (j<=i))
variable{gd:Int->Int->D}
def uL{f:Value->Value->Sem Value}{X5:Int->Int->Prop}[∀i j,Decidable (X5 i j)]{g:Int->Int->V}(h:OpR X f (rI X5 g))(b:∀G H i j,Rep G H (gd i j) (g i j)):OpD c X f (dI X5 gd):=by
 rintro U s E H r w v u Q I n p ⟨Hf,x,y,d,q,l,m,e,k⟩;unfold dI at e;split at e
 .split at e
  .rename_i a;cases e;show h U s E H r w v u Q I n p (_,_,l,m,a,k _ Hf H (Ext.refl q) (b _ _ _ _))
  .nomatch e
 .nomatch e
def rL{f:Value->Value->Sem Value}{g:Int->Int->V}(h:OpR X f (rI0 g))(a:∀G H i j,Rep G H (gd i j) (g i j)):OpD c X f (dI0 gd):=by
 rintro U s E H q r v u Q I m n ⟨Hf,x,y,d,p,b,l,e,k⟩;unfold dI0 at e;split at e
 .cases e;show h U s E H q r v u Q I m n (_,_,b,l,k _ Hf H (Ext.refl p) (a _ _ _ _))
 .nomatch e
def Oi:OpD c X (fS .Add) eK:=by
 rintro U s E H m n v u Q I j l ⟨Hf,x,y,d,h,f,g,e,k⟩;unfold eK at e;split at e
 .cases e;show Mq U s E H m n v u Q I j l (_,_,f,g,k _ Hf H (Ext.refl h) rfl)
 .split at e
  .rename_i i;cases e;show ML U s E H m n v u Q I j l (_,_,f,g,by rw[dJ];show i,k _ Hf H (Ext.refl h) rfl)
  .nomatch e
 .split at e
  .rename_i i;cases e;have(a,vs,r,z,f):=f;have(b,us,w,A,g):=g
   show FL U s E H m n v u Q I j l (a,b,vs,us,r,w,h _ _ z,h _ _ A,by rw[dJ,<- f.length,<- g.length];show i,
    λp q=>k _ _ _ (Ext.new h q) (p,_,rfl,be,(f.append g).up (bU (h.free q))))
  .nomatch e
 .nomatch e
def Oj:OpD c X (fS .Sub) kO:=rL Mr λ_ _ _ _=>rfl
def Ol:OpD c X (fS .FloorDiv) kP:=uL Ms λ_ _ _ _=>rfl
def Om:OpD c X (fS .Mod) cb:=uL Mt λ_ _ _ _=>rfl
def On:OpD c X (fS .Pow) rK:=uL Mu λ_ _ _ _=>rfl
def Oo:OpD c X (cg .Lt) dLt:=rL My λ_ _ _ _=>rfl
def Op:OpD c X (cg .LtE) dLe:=rL Mz λ_ _ _ _=>rfl
def Oq:OpD c X (cg .Gt) dGt:=rL MA λ_ _ _ _=>rfl
def Os:OpD c X (cg .GtE) dGe:=rL MB λ_ _ _ _=>rfl
def uM{g:Int->Int->D}(a:∀i j,(g i j).scalar=ac):∀x y d,dI0 g x y=aa d->d.scalar=ac:=by
 intro x y d e;unfold dI0 at e;split at e
 .cases e;show a _ _
 .nomatch e
def Ot:∀x y d,dLt x y=aa d->d.scalar=ac:=uM λ_ _=>rfl
def Ou:∀x y d,dLe x y=aa d->d.scalar=ac:=uM λ_ _=>rfl
def Ov:∀x y d,dGt x y=aa d->d.scalar=ac:=uM λ_ _=>rfl
def Ow:∀x y d,dGe x y=aa d->d.scalar=ac:=uM λ_ _=>rfl
abbrev pL:D->OD
 |.int i=>aa (.int (-i))
 | _=>ab
def m1(m:D->OD)(f:MF1)(M:LS):OD:=(f M).bind m
def Gk(ha:DE c X a f):DE c X (.UnaryOp .USub a pos) (m1 pL f):=PE.imp (Mp Mv ha) λE H Q g=>by
 have(Hf0,H0,Hf,M,d,st,b,k):=g;unfold m1 at b
 cases e:f M with
 |none=>rw[e]at b;nomatch b
 |some y=>
  rw[e]at b
  cases y with
  |int i=>cases b;show(Hf0,H0,Hf,M,.int i,st,e,λv Hf' H' x r=>(i,r,k _ Hf' H' x rfl))
  | _=>nomatch b
abbrev Gm:D->Bool
 |.non=>ac
 | _=>af
def Gn{x:D}(r:Rep G H x v):decide (v=.non)=Gm x:=by
 cases x with
 |non=>subst r;rfl
 |bl b=>subst r;rfl
 |int i=>subst r;rfl
 |str x=>subst r;rfl
 |lst _=>have(a,_,e,_):=r;subst e;rfl
 |tup _=>have(a,_,e,_):=r;subst e;rfl
 |kl _=>have(a,_,e,_):=r;subst e;rfl
 |kt _=>have(a,_,e,_):=r;subst e;rfl
 |dic _ _=>have(a,_,e,_):=r;subst e;rfl
 |ins _ _ _=>have(a,_,_,e,_):=r;subst e;rfl
 |kd _ _=>have(a,_,_,e,_):=r;subst e;rfl
 |dT _ _=>have(a,_,e,_):=r;subst e;rfl
def isD(x y:D):Option Bool:=match y with
 |.non=>aa (Gm x)
 |.bl b=>match x with
  |.non=>aa af
  |.bl a=>aa (a==b)
  | _=>ab
 | _=>ab
def dIs(x y:D):OD:=(isD x y).map .bl
def fY(x y:D):OD:=(isD x y).map λb=>.bl (!b)
def Go:OpD c X (cg .Is) dIs:=by
 rintro U s E H m l v u Q I h i ⟨Hf,x,y,d,j,f,g,e,k⟩
 cases y with
 |non=>
  cases e
  show MC U s E H m l v u Q I h i (g,by rw[Gn f];show k _ Hf H (Ext.refl j) rfl)
 |bl b=>
  cases x with
  |non=>cases e;subst f;show FY U s E H _ l v u Q I h i (b,g,.inl rfl,k _ Hf H (Ext.refl j) rfl)
  |bl a=>cases e;subst f;show FY U s E H _ l v u Q I h i (b,g,.inr (a,rfl),by rw[rg];show k _ Hf H (Ext.refl j) rfl)
  | _=>nomatch e
 | _=>nomatch e
def Ox:OpD c X (cg .IsNot) fY:=by
 rintro U s E H m l v u Q I h i ⟨Hf,x,y,d,j,f,g,e,k⟩
 cases y with
 |non=>
  cases e
  show MD U s E H m l v u Q I h i (g,by rw[Gn f];show k _ Hf H (Ext.refl j) rfl)
 |bl b=>
  cases x with
  |non=>cases e;subst f;show FZ U s E H _ l v u Q I h i (b,g,.inl rfl,k _ Hf H (Ext.refl j) rfl)
  |bl a=>cases e;subst f;show FZ U s E H _ l v u Q I h i (b,g,.inr (a,rfl),by rw[rg];show k _ Hf H (Ext.refl j) rfl)
  | _=>nomatch e
 | _=>nomatch e
def nA{x:Option Bool}{g:Bool->Bool}:∀d,x.map (λb=>D.bl (g b))=aa d->d.scalar=ac:=by
 intro d e
 cases x with
 |none=>nomatch e
 |some b=>cases e;rfl
def Gp:∀x y d,dIs x y=aa d->d.scalar=ac:=λ_ _ d e=>nA d e
def Oy:∀x y d,fY x y=aa d->d.scalar=ac:=λ_ _ d e=>nA d e
abbrev eqF:D->D->Bool
 |.non,.non=>ac
 |.bl a,.bl b=>a==b
 |.int a,.int b=>a==b
 |.str a,.str b=>a==b
 | _,_=>af
abbrev cJ(f:D->D->Option Bool):LD->LD->Option Bool
 | [],[]=>aa ac
 |x::C,y::ys=>(f x y).bind λb=>(cJ f C ys).map λr=>b && r
 | _,_=>aa af
abbrev yN:D->D->Bool
 |.bl _,.int _=>ac
 |.int _,.bl _=>ac
 | _,_=>af
abbrev nB(f:D->D->Option Bool):D->D->Option Bool
 |.lst C,.lst ys=>if Z C=Z ys then cJ f C ys else aa af
 |.tup C,.tup ys=>if Z C=Z ys then cJ f C ys else ab
 |x,y=>if x.scalar && y.scalar && !yN x y then aa (eqF x y) else ab
abbrev deq:Nat->D->D->Option Bool
 | 0,_,_=>ab
 |n+1,x,y=>nB (deq n) x y
def dEq(x y:D):OD:=(deq 20 x y).map .bl
def dNe(x y:D):OD:=(deq 20 x y).map λb=>.bl (!b)
def Oz:∀x y d,dEq x y=aa d->d.scalar=ac:=λ_ _ d e=>nA d e
def OA:∀x y d,dNe x y=aa d->d.scalar=ac:=λ_ _ d e=>nA d e
variable{x y:D}{C ys:LD}{b:Bool}
def uN{f:D->D->Option Bool}(h:cJ f (x::C) (y::ys)=aa b):∃a c,f x y=aa a/\cJ f C ys=aa c/\b=(a && c):=by
 dsimp only[cJ]at h
 cases d:f x y with
 |none=>rw[d]at h;nomatch h
 |some a=>
  cases e:cJ f C ys with
  |none=>rw[d,e]at h;nomatch h
  |some c=>rw[d,e]at h;cases h;show(a,c,rfl,rfl,rfl)
def nC{f:D->D->Option Bool}:∀{C ys:LD} {b:Bool},Z C=Z ys->cJ f C ys=aa b->∃e:Nat->Bool,(∀j x y,C[j]?=aa x->ys[j]?=aa y->f x y=aa (e j))/\(bI (Z C)).all e=b
 | [],[],b,_,h=>by cases h;show(λ_=>ac,λj x y e=>by simp at e,rfl)
 |x::C,y::ys,b,hl,h=>by
  have(c,m,d,h2,rfl):=uN h;have(e,g,ha):=nC (by simpa using hl) h2
  show(λj=>match j with | 0=>c |j+1=>e j,λj i l ex a=>?_,?_)
  .cases j with
   |zero=>simp at ex a;subst ex a;show d
   |succ j=>show g j i l (by simpa using ex) (by simpa using a)
  .rw[cB,range_succ_eq_map,mH,all_map,<- ha]
   rfl
 | [],_::_,_,hl,_=>by cases hl
 | _::_,[],_,hl,_=>by cases hl
def uO(s:d.scalar=ac):d=.non\/(∃b,d=.bl b)\/(∃i,d=.int i)\/∃z,d=.str z:=by
 cases d with
 |non=>show .inl rfl
 |bl b=>show .inr (.inl (b,rfl))
 |int i=>show .inr (.inr (.inl (i,rfl)))
 |str z=>show .inr (.inr (.inr (z,rfl)))
 | _=>nomatch s
def uP(c:(x.scalar && y.scalar && !yN x y)=ac)(d:Rep G H x v)(e:Rep G H y u):fV v=ac/\fV u=ac/\eqV v u=eqF x y/\yb v u=ac/\decide (v=u)=eqF x y:=by
 rw[b6,b6]at c
 rcases uO c.1.1 with rfl |⟨a,rfl⟩ |⟨a,rfl⟩ |⟨a,rfl⟩ <;> rcases uO c.1.2 with rfl |⟨b,rfl⟩ |⟨b,rfl⟩ |⟨b,rfl⟩ <;> first
  |(cases c.2;done)
  |(subst d;subst e;show(rfl,rfl,rfl,rfl,?_);first |show rg |show yc |show yd |rfl)
variable{n:Nat}
def uQ(a:¬(∃C ys,x=.lst C/\y=.lst ys)/\¬(∃C ys,x=.tup C/\y=.tup ys))(h:deq (n+1) x y=aa b):(x.scalar && y.scalar && !yN x y)=ac/\b=eqF x y:=by
 replace h:nB _ x y=aa b:=h;unfold nB at h;split at h
 .show absurd (_,_,rfl,rfl) a.1
 .show absurd (_,_,rfl,rfl) a.2
 .split at h
  .rename_i c;cases h;show(c,rfl)
  .nomatch h
def Gq:∀(n:Nat) {x y:D} {b:Bool} {v:V},deq n x y=aa b->Rep G H x v->Rep G H y v->b=ac:=by
 intro n
 induction n with
 |zero=>intro x y b v h;nomatch h
 |succ n J=>
  have all:∀(C ys:LD) vs b,am G H C vs->am G H ys vs->cJ (deq n) C ys=aa b->b=ac:=by
   intro C
   induction C with
   |nil=>
    intro ys vs b d c h;cases (d);have:ys=[]:=tU.mp c.length;subst this
    cases h;rfl
   |cons x C l=>
    intro ys vs b d c h;have(v,r,e,E,h2):=d;subst e
    cases ys with
    |nil=>cases (c)
    |cons y ys=>
     have(N,M,e,i,j):=c;cases e;have(L,z,A,B,rfl):=uN h;rw[J A E i,l ys _ z h2 j B];rfl
  intro x y b v h d c
  by_cases p:∃C ys,x=.lst C/\y=.lst ys
  .have(C,ys,rfl,rfl):=p;have(a,vs,e,q,d):=d;have(w,m,e',g,c):=c;subst e;cases e';rw[q]at g;cases g;have f:=d.length.trans c.length.symm;replace h:(if Z C=Z ys then cJ _ C ys else aa af)=aa b:=h;rw[if_pos f]at h;show all C ys vs b d c h
  .by_cases u:∃C ys,x=.tup C/\y=.tup ys
   .have(C,ys,rfl,rfl):=u;have(a,vs,e,q,d):=d;have(w,m,e',g,c):=c;subst e;cases e';rw[q]at g;cases g;replace h:(if Z C=Z ys then cJ _ C ys else ab)=aa b:=h;rw[if_pos (d.length.trans c.length.symm)]at h;show all C ys vs b d c h
   .have(I,rfl):=uQ (p,u) h;have(_,_,_,_,e):=uP I d c;rw[<- e];show decide_eq_true rfl
variable{us:LVv}
def pM{s:ah}{L a:LVa}{e:Nat->Bool}(B:am G H C vs)(E:am G H ys us)(r:aI vs L)(z:aI us a)
 (p:∀j x y,C[j]?=aa x->ys[j]?=aa y->deq n x y=aa (e j))
 (q:∀{x y:D} {b:Bool} {v u:V} {w g:Value},deq n x y=aa b->Rep G H x v->Rep G H y u->aD v w->aD u g->cC A s w g b):
  ∀j (f:j<L.toArray.size) (h2:j<a.toArray.size),cC A s L.toArray[j] a.toArray[j] (e j):=λj f h2=>by
 have c:j<Z L:=by simpa using f
 have d:j<Z a:=by simpa using h2
 have(v,l,I):=r.at' (i:=j) (u:=L[j]) (by simp[c]);have(u,h,ru):=z.at' (i:=j) (u:=a[j]) (by simp[d]);have(x,ex,J):=B.get' l;have(y,m,M):=E.get' h;show q (p j x y ex m) J M I ru
def yO{s:ah}(I:Inv X U E H s):∀(n:Nat) {A:ca} {x y:D} {b:Bool} {v u:V} {w z:Value},A.units+n<cLine->deq n x y=aa b->Rep (Gx c X) H x v->Rep (Gx c X) H y u->aD v w->aD u z->cC A s w z b:=by
 intro n
 induction n with
 |zero=>intro A x y b v u w z _ h;nomatch h
 |succ n ih=>
  intro A x y b v u w z hu h r1 r2 rv ru;have B:∀{x y:D} {b:Bool} {v u:V} {w z:Value},deq n x y=aa b->Rep _ H x v->Rep _ H y u->aD v w->aD u z->cC A.in1 s w z b:=λh a b c d=>ih (by rw[rb];lia) h a b c d
  by_cases hl:∃C ys,x=.lst C/\y=.lst ys
  .have(C,ys,rfl,rfl):=hl;have(a,vs,e,q,f):=id r1;have(N,r,e',G,g):=id r2;subst e e';cases rv;subst ru
   by_cases j:a=N
   .subst j;have:=Gq _ h ((a,vs,rfl,q,f)) (a,r,rfl,G,g);subst this;show xO _
   .show cC.of_refs j ?_;have(L,J,M,hz):=I.list (SqL.of q);have(p,l,m,Y):=I.list (SqL.of G);have l1:=J.length;have l2:=l.length;have l3:=f.length;have l4:=g.length;replace h:(if Z C=ys.length then cJ _ C ys else aa af)=aa b:=h;split at h
    .rename_i i;have(ee,Q,ha):=nC i h;have:=SeqAt.RcAt.lists M.isList m.isList (by simp only[size_toArray];lia) (by lia) (pM f g J l Q B);rw[size_toArray,<- l1,<- l3,ha]at this;show this
    .rename_i i;cases h;show SeqAt.RcAt.lists_lengths M.isList m.isList (by simp only[size_toArray,bne_iff_ne];lia) (by lia)
  .by_cases ht:∃C ys,x=.tup C/\y=.tup ys
   .have(C,ys,rfl,rfl):=ht;have(a,vs,e,q,f):=id r1;have(N,r,e',G,g):=id r2;subst e e';subst rv;subst ru
    by_cases j:a=N
    .subst j;have:=Gq _ h ((a,vs,rfl,q,f)) (a,r,rfl,G,g);subst this;show xO _
    .show cC.of_refs j ?_;have(L,J,M,hz):=I.tuple (SqT.of q);have(p,l,m,Y):=I.tuple (SqT.of G);have l1:=J.length;have l2:=l.length;have l3:=f.length;have l4:=g.length;replace h:(if Z C=ys.length then cJ _ C ys else ab)=aa b:=h;split at h
     .rename_i i;have(ee,Q,ha):=nC i h;have:=SeqAt.RcAt.tuples (M) (m) (by lia) (pM f g J l Q B);have T:L.toArray.size=p.toArray.size:=by simp only[size_toArray];lia
      rw[<- T,tY,beq_self_eq_true,qK,size_toArray,<- l1,<- l3,ha]at this;show this
     .nomatch h
   .have(hs,rfl):=uQ (hl,ht) h;have(f1,f2,e,_,_):=uP hs r1 r2;rw[<- e];show FI rv ru f1 f2
def OB(hu:X.A.units+64<cLine):OpD c X (cg .Eq) dEq:=by
 rintro U s E H v u w G Q I rv ru ⟨Hf,x,y,d,s0,p,r,e,k⟩;unfold dEq at e
 cases h:deq 20 x y with
 |none=>rw[h]at e;nomatch e
 |some b=>
  rw[h]at e;cases e;have q0:=k _ Hf H (Ext.refl s0) rfl;have fin:EP X U E Q _ s:=(.bl b,H,I,rfl,q0);have p:=p.up s0;have r:=r.up s0;have n:∀{x y:D} {b:Bool} {v u:V} {w G:Value},deq 19 x y=aa b->Rep _ H x v->Rep (Gx c X) H y u->aD v w->aD u G->cC X.A.in1 s w G b:=λh a b c d=>yO I 19 (by rw[rb];lia) h a b c d
  by_cases hl:∃C ys,x=.lst C/\y=.lst ys
  .have(C,ys,rfl,rfl):=hl;have(a,vs,e,q,i):=id p;have(a',vs',e',q',j):=id r;subst e e';cases rv;subst ru;have(L,z,B,hz):=I.list (SqL.of q);have(m,g,l,T):=I.list (SqL.of q');have Y:=z.length;have l2:=g.length;have l3:=i.length;have l4:=j.length;replace h:(if Z C=ys.length then cJ _ C ys else aa af)=aa b:=h;split at h
   .rename_i f;have(ee,J,ha):=nC f h;show SeqAt.eq_listAt B.isList l.isList (by simp only[size_toArray];lia) (by lia) (pM i j z g J n) ?_;rw[size_toArray,<- Y,<- l3,ha];show fin
   .rename_i f;cases h;show SeqAt.eq_list_lengthsAt B.isList l.isList (by simp only[size_toArray,bne_iff_ne];lia) (by lia) fin
  .by_cases ht:∃C ys,x=.tup C/\y=.tup ys
   .have(C,ys,rfl,rfl):=ht;have(a,vs,e,q,i):=id p;have(a',vs',e',q',j):=id r;subst e e';subst rv;subst ru;have(L,z,B,hz):=I.tuple (SqT.of q);have(m,g,l,T):=I.tuple (SqT.of q');have Y:=z.length;have l2:=g.length;have l3:=i.length;have l4:=j.length;replace h:(if Z C=ys.length then cJ _ C ys else ab)=aa b:=h;split at h
    .rename_i f;have(ee,J,ha):=nC f h;show SeqAt.eq_tupleAt (B) (l) (by lia) (pM i j z g J n) ?_;have N:L.toArray.size=m.toArray.size:=by simp only[size_toArray];lia
     simp only[<- N,tY,beq_self_eq_true,qK,size_toArray,<- Y,<- l3,ha];show fin
    .nomatch h
   .have(hs,rfl):=uQ (hl,ht) h;have(_,_,_,M,e):=uP hs p r;show Mw U s E H v u w G Q I rv ru (M,by rw[e];show q0)
def OC(hu:X.A.units+64<cLine):OpD c X (cg .NotEq) dNe:=by
 rintro U s E H v u w G Q I rv ru ⟨Hf,x,y,d,s0,p,r,e,k⟩;unfold dNe at e
 cases h:deq 20 x y with
 |none=>rw[h]at e;nomatch e
 |some b=>
  rw[h]at e;cases e;have q0:=k _ Hf H (Ext.refl s0) rfl;have fin:EP X U E Q _ s:=(.bl (!b),H,I,rfl,q0);have p:=p.up s0;have r:=r.up s0;have n:∀{x y:D} {b:Bool} {v u:V} {w G:Value},deq 19 x y=aa b->Rep _ H x v->Rep (Gx c X) H y u->aD v w->aD u G->cC X.A.in1 s w G b:=λh a b c d=>yO I 19 (by rw[rb];lia) h a b c d
  by_cases hl:∃C ys,x=.lst C/\y=.lst ys
  .have(C,ys,rfl,rfl):=hl;have(a,vs,e,q,i):=id p;have(a',vs',e',q',j):=id r;subst e e';cases rv;subst ru;have(L,z,B,hz):=I.list (SqL.of q);have(m,g,l,T):=I.list (SqL.of q');have Y:=z.length;have l2:=g.length;have l3:=i.length;have l4:=j.length;replace h:(if Z C=ys.length then cJ _ C ys else aa af)=aa b:=h;split at h
   .rename_i f;have(ee,J,ha):=nC f h;show SeqAt.RcNeAt.lists B.isList l.isList (by simp only[size_toArray];lia) (by lia) (pM i j z g J n) X.prog X.w X.xe _ ?_;rw[size_toArray,<- Y,<- l3,ha];show fin
   .rename_i f;cases h;show SeqAt.RcNeAt.lists_lengths B.isList l.isList (by simp only[size_toArray,bne_iff_ne];lia) (by lia) X.prog X.w X.xe _ fin
  .by_cases ht:∃C ys,x=.tup C/\y=.tup ys
   .have(C,ys,rfl,rfl):=ht;have(a,vs,e,q,i):=id p;have(a',vs',e',q',j):=id r;subst e e';subst rv;subst ru;have(L,z,B,hz):=I.tuple (SqT.of q);have(m,g,l,T):=I.tuple (SqT.of q');have Y:=z.length;have l2:=g.length;have l3:=i.length;have l4:=j.length;replace h:(if Z C=ys.length then cJ _ C ys else ab)=aa b:=h;split at h
    .rename_i f;have(ee,J,ha):=nC f h;show SeqAt.RcNeAt.tuples (B) (l) (by lia) (pM i j z g J n) X.prog X.w X.xe _ ?_;have N:L.toArray.size=m.toArray.size:=by simp only[size_toArray];lia
     simp only[<- N,tY,beq_self_eq_true,qK,size_toArray,<- Y,<- l3,ha];show fin
    .nomatch h
   .have(hs,rfl):=uQ (hl,ht) h;have(_,_,_,M,e):=uP hs p r;show Mx U s E H v u w G Q I rv ru (M,by rw[e];show q0)
abbrev eqX:D->D->Bool
 |.non,.non=>ac
 |.bl a,.bl b=>a==b
 |.bl a,.int b=>(if a then 1 else 0)==b
 |.int a,.bl b=>a==(if b then 1 else 0)
 |.int a,.int b=>a==b
 |.str a,.str b=>a==b
 | _,_=>af
def inD(x y:D):Option Bool:=(iN y).bind λds=>if x.scalar && ds.all D.scalar then aa (ds.any λd=>eqX d x) else ab
def dIn(x y:D):OD:=(inD x y).map .bl
def jw(x y:D):OD:=(inD x y).map λb=>.bl (!b)
def pN:∀x y d,dIn x y=aa d->d.scalar=ac:=λ_ _ d e=>nA d e
def uR:∀x y d,jw x y=aa d->d.scalar=ac:=λ_ _ d e=>nA d e
def OE(c:x.scalar=ac)(d:y.scalar=ac)(e:Rep G H x v)(f:Rep G H y u):fV v=ac/\fV u=ac/\eqV v u=eqX x y:=by
 rcases uO c with rfl |⟨a,rfl⟩ |⟨a,rfl⟩ |⟨a,rfl⟩ <;> rcases uO d with rfl |⟨b,rfl⟩ |⟨b,rfl⟩ |⟨b,rfl⟩ <;> (subst e;subst f;show(rfl,rfl,rfl))
def Gr{G:Gc}{H:Hp}{x:D}{v:V}(b:x.scalar=ac)(r:Rep G H x v):∀{ds:LD} {vs:LVv},ds.all D.scalar=ac->am G H ds vs->vs.all fV=ac/\inV v vs=ds.any λd=>eqX d x
 | [],_,_,h=>by cases (h);show(rfl,rfl)
 |d::ds,_,ha,q3_=>by
  have(u,g,e,f,h2):=q3_;subst e;simp only[mH,b6]at ha;have(f1,f2,e):=OE ha.1 b f r;have(c,a):=Gr b r ha.2 h2;show(by simp only[mH,f1,c];rfl,?_);unfold inV at a ⊢;simp only[gG,gG,e,a]
def Gu(e:inD x y=aa b)(d:Rep G H x v)(j:Rep G H y u):∃p vs,u=.ref p/\(SqL G.K H p vs\/SqT G.K H p vs)/\fV v=ac/\vs.all fV=ac/\inV v vs=b:=by
 unfold inD at e
 cases es:iN y with
 |none=>rw[es]at e;nomatch e
 |some ds=>
  rw[es]at e;replace e:(if _=ac then aa _ else ab)=aa b:=e;split at e
  .rename_i c;cases e;rw[b6]at c;have(a,vs,g,q,r):=rB es j;have(h,i):=Gr c.1 d c.2 r
   have f:fV v=ac:=by cases x <;> first |(subst d;rfl) |(cases c.1)
   show(a,vs,g,q,f,h,i)
  .nomatch e
def pO:OpD c X (cg .In) dIn:=by
 rintro U s E H v u w m Q I l ru ⟨Hf,x,y,d,a,i,j,e,k⟩;unfold dIn at e
 cases h:inD x y with
 |none=>rw[h]at e;nomatch e
 |some b=>
  rw[h]at e;cases e;have(p,vs,f,q,f1,f2,g):=Gu h (i.up a) (j.up a);show Nu U s E H v u w m Q I l ru (p,vs,f,q,f1,f2,?_);rw[if_neg bN,g];show k _ Hf H (Ext.refl a) rfl
def uS:OpD c X (cg .NotIn) jw:=by
 rintro U s E H v u w m Q I l ru ⟨Hf,x,y,d,a,i,j,e,k⟩;unfold jw at e
 cases h:inD x y with
 |none=>rw[h]at e;nomatch e
 |some b=>
  rw[h]at e;cases e;have(p,vs,f,q,f1,f2,g):=Gu h (i.up a) (j.up a);show Nv U s E H v u w m Q I l ru (p,vs,f,q,f1,f2,?_);rw[if_pos rfl,g];show k _ Hf H (Ext.refl a) rfl
def OF{i:Int}(h:atI ds i=aa d)(r:am G H ds vs):∃v,atI vs i=aa v/\Rep G H d v:=by
 unfold atI at h ⊢;rw[<- r.length]
 cases e:ixN ds.length i with
 |none=>rw[e]at h;nomatch h
 |some j=>
  rw[e]at h;show r.get h
abbrev ixD(ds:LD):D->OD
 |.int k=>atI ds k
 | _=>ab
def mIx(f:MF2)(g:MF1)(M:LS):OD:=(f M).bind λds=>(g M).bind λi=>ixD ds i
variable{b:Expr}
def pP{f:MF2}(ha:DC c X a f)(y:DE c X b g)(z:autoParam (FH b) Zj):DE c X (.Subscript a b pos) (mIx f g):=
 PE.imp (Nj (Nm.or Nn) ha y z) λE H Q A=>by
  have(Hf0,H0,Hf,M,d,st,e,k):=A;unfold mIx at e
  cases j:f M with
  |none=>rw[j]at e;nomatch e
  |some ds=>
   cases p:g M with
   |none=>rw[j,p]at e;nomatch e
   |some i=>
    rw[j,p]at e
    cases i with
    |int n=>
     show(Hf0,H0,Hf,M,ds,st,j,λl vs a4 H1 x q r=>(Hf0,H0,a4,M,.int n,st.step x,p,λu aG H2 m B=>?_));cases (B);have(v,w,C):=OF e r;have fin:=k v aG H2 (x.trans m) (C.up m.f)
     rcases q with q |q
     .show .inl (l,vs,n,v,rfl,rfl,m.h.seq q,w,fin)
     .show .inr (l,vs,n,v,rfl,rfl,m.h.tup q,w,fin)
    | _=>nomatch e
def rM(C:LD)(lo hi:Option Int):LD:=(C.drop (HT.sIx C.length 0 lo)).take (HT.sIx C.length C.length hi-HT.sIx C.length 0 lo)
abbrev lsD:D->OLD
 |.lst C=>aa C
 |.kl C=>aa C
 | _=>ab
def kS(e:lsD d=aa ds)(r:Rep G H d v):∃a vs,v=.ref a/\SqL G.K H a vs/\am G H ds vs:=by
 cases d with
 |lst C=>cases e;have(a,vs,b,q,r):=r;show(a,vs,b,SqL.of q,r)
 |kl C=>cases e;have(a,vs,b,q,r):=r;show(a,vs,b,q,r)
 | _=>nomatch e
inductive Gv(G:Gc)(f:LS->Option (Option Int))(E:St)(H:Hp)(Q:Option Int->Hp->Prop):Prop
 |mk:∀Hf0 H0 Hf M i,av G Hf0 H0 Hf H E M->f M=aa i->(∀Hf' H',Ext Hf H Hf' H'->Q i H')->Gv G f E H Q
def DPt(c:Str->Addr)(X:Cx)(e:Option Expr)(f:LS->Option (Option Int)):Prop:=PO X e (Gv (Gx c X) f)
def Gw:DPt c X ab (λ_=>aa ab):=λU s E H Q I b=>by
 have(Hf0,H0,Hf,M,i,st,a,k):=b;show(Nd U s E H Q I (by cases a;show k Hf H (Ext.refl st.sub)))
abbrev mPt(f:MF1)(M:LS):Option (Option Int):=(f M).bind λd=>match d with
 |.int i=>aa (aa i)
 | _=>ab
def Gy(h:DE c X e f):DPt c X (aa e) (mPt f):=λU s E H Q I g=>by
 have(Hf0,H0,Hf,M,i,st,a,k):=g
 show (Nf h U s E H Q I (by
 unfold mPt at a
 cases b:f M with
 |none=>rw[b]at a;nomatch a
 |some d=>
  rw[b]at a
  cases d with
  |int n=>cases a;show(Hf0,H0,Hf,M,.int n,st,b,λv Hf' H' x r=>(n,r,k Hf' H' x))
  | _=>nomatch a))
def mSl(f:MF1)(l h:LS->Option (Option Int))(M:LS):OLD:=(f M).bind λd=>(lsD d).bind λds=>(l M).bind λlo=>(h M).map λhi=>rM ds lo hi
def OG(r:am G H ds vs)(lo hi:Option Int):am G H (rM ds lo hi) (rm vs lo hi):=by
 unfold rM rm;rw[r.length];show(r.drop _).take _
variable{p2:Pos}
def Gz{l h:LS->Option (Option Int)}{lo hi:Option Expr}(ha:DE c X e f)(L:DPt c X lo l)(J:DPt c X hi h):DO c X (.Subscript e (.Slice lo hi ab p2) pos) (mSl f l h):=
 PE.imp (Ng Nt ha L J) λE H Q N=>by
  have(Hf0,H0,Hf,M,B,st,b,k):=N;unfold mSl at b
  cases g:f M with
  |none=>rw[g]at b;nomatch b
  |some d=>
   cases i:lsD d with
   |none=>rw[g]at b;replace b:(lsD d).bind _=_:=b;rw[i]at b;nomatch b
   |some ds=>
    cases j:l M with
    |none=>rw[g]at b;replace b:(lsD d).bind _=_:=b;rw[i,j]at b;nomatch b
    |some A=>
     cases u:h M with
     |none=>rw[g]at b;replace b:(lsD d).bind _=_:=b;rw[i,j,u]at b;nomatch b
     |some w=>
      rw[g]at b;replace b:(lsD d).bind _=_:=b;rw[i,j,u]at b;cases b;show(Hf0,H0,Hf,M,d,st,g,λv a4 H1 m T=>(Hf0,H0,a4,M,A,st.step m,j,λaG H2 C=>(Hf0,H0,aG,M,w,(st.step m).step C,u,λn U G=>?_)));have(a,vs,I,q,r):=kS i T;subst I;have x:=(m.trans C).trans G;have y:=(C.trans G);show(a,vs,rfl,(m.s.trans y.h).seq q,λp z=>(k p _ n _ (x.trans (Ext.tmp x.s z)) (x.h.free z) (x.s.free z) be (OG (r.up y.f) _ _)))
abbrev rCD(G:Gc)(m:LD->OD):LVv->Hp->VK->Prop:=λvs H Q=>∃Hf ds d,aq Hf H/\am G Hf ds vs/\m ds=aa d/\∀v Hf' H',Ext Hf H Hf' H'->Rep G Hf' d v->Q v H'
nonrec abbrev rN(c:Str->Addr)(X:Cx)(f:Value)(m:LD->OD):Prop:=io X f (rCD (Gx c X) m)
def aw(m:LD->OD)(f:MF2)(M:LS):OD:=(f M).bind m
variable{m:LD->OD}{f:MF2}
def yP(h:aw m f M=aa d):∃ds,f M=aa ds/\m ds=aa d:=by
 unfold aw at h
 cases e:f M with
 |none=>rw[e]at h;nomatch h
 |some ds=>rw[e]at h;show(ds,rfl,h)
variable{p:Pos}{x:Str}
def nE{id:String}(l:rN c X (.builtin id) m)(u:∀ds d,m ds=aa d->d.scalar=ac)(q:Gl X x)(hm:X.mg x=ab)(hv:jW x=aa (.builtin id))(ha:DAB c X (e::es) f)(hn:autoParam (x ≠ "__name__") Zc)(a:autoParam (NDb x) Zc)
 (n:autoParam (StE X e es) Zb)(b:autoParam (BkE X pos es) Zb):
  DE c X (.Call (.Name x p) (e::es) [] pos) (aw m f):=PE.imp (FE l q hm hv ha.pa hn a n b) λE H Q w=>by
 have(Hf0,H0,Hf,M,d,st,j,k):=w;have(ds,i,g):=yP j;show(Hf0,H0,Hf,M,ds,st,i,λvs Hf' H' x r=>(H',ds,d,aq.refl _,r,g,λv aG H2 z y=>k v Hf' H2 (x.trans (Ext.grow x.s z.h)) (y.sc (u _ _ g))))
abbrev cK:LD->OD
 | [.lst C]=>aa (.int (Z C))
 | [.tup C]=>aa (.int (Z C))
 | [.kl C]=>aa (.int (Z C))
 | [.kt C]=>aa (.int (Z C))
 | [.str x]=>if x.length<=16777216 then aa (.int x.length) else ab
 | _=>ab
def am.one(r:am G H [d] vs):∃v,vs=[v]/\Rep G H d v:=by
 have(v,a,e,h,q):=r;cases (q);show(v,e,h)
def GA(e:cK ds=aa d):∃a,ds=[a]/\((∃C,iN a=aa C/\d=.int (Z C))\/∃x,a=.str x/\x.length<=16777216/\d=.int x.length):=by
 cases ds with
 |nil=>nomatch e
 |cons a ds=>
  cases ds with
  |cons _ _=>cases a <;> nomatch e
  |nil=>
   show(a,rfl,?_)
   cases a with
   |lst C=>cases e;show .inl (C,rfl,rfl)
   |tup C=>cases e;show .inl (C,rfl,rfl)
   |kl C=>cases e;show .inl (C,rfl,rfl)
   |kt C=>cases e;show .inl (C,rfl,rfl)
   |str x=>
    replace e:(if x.length<=16777216 then aa _ else ab)=aa d:=e
    grind
   | _=>nomatch e
def OH:rN c X (.builtin "len") cK:=by
 rintro U s E H vs us Q I l ⟨Hf,ds,d,j,r,e,k⟩
 have sq:∀b C,ds=[b]->iN b=aa C->d=.int (Z C)->wpAny _ X.A _ _ X.xe s:=λb C g es e0=>by
  subst g e0;have(v,f,i):=r.one;subst f;have(a,ws,h,q,B):=rB es i;subst h;show Nw U s E H _ us Q I l (a,ws,rfl,yI j q,?_);rw[<- B.length];show k _ Hf H (Ext.refl j) rfl
 obtain⟨b,g,⟨C,f,h⟩ |⟨x,rfl,m,rfl⟩⟩:=GA e
 .show sq b C g f h
 .subst g;have(v,f,i):=r.one;subst f;show Nx U s E H _ us Q I l (_,by rw[show v=V.str _ from i],by rw[dJ];show m,k _ Hf H (Ext.refl j) rfl)
def OI:∀ds d,cK ds=aa d->d.scalar=ac:=by
 intro ds d e
 obtain⟨a,c,⟨C,b,rfl⟩ |⟨x,rfl,f,rfl⟩⟩:=GA e <;> rfl
abbrev gP:LD->Option (LI0)
 | []=>aa []
 |.int i::ds=>(gP ds).map λr=>i::r
 | _=>ab
def GB{G:Gc}{H:Hp}:∀{ds:LD} {ns:LI0} {vs:LVv},gP ds=aa ns->am G H ds vs->vs=ns.map V.int
 | [],_,_,e,r=>by cases e;show r
 |.int i::ds,_,_,e,q4_=>by
  have(v,b,e',a,h2):=q4_;subst e'
  cases es:gP ds with
  |none=>rw[gP,es]at e;cases e
  |some ns=>
   rw[gP,es]at e;cases e;rw[GB es h2,show v=V.int i from a]
   rfl
 |.non::_,_,_,e,_=>by cases e
 |.bl _::_,_,_,e,_=>by cases e
 |.str _::_,_,_,e,_=>by cases e
 |.lst _::_,_,_,e,_=>by cases e
 |.tup _::_,_,_,e,_=>by cases e
 |.kl _::_,_,_,e,_=>by cases e
 |.kt _::_,_,_,e,_=>by cases e
 |.dic _ _::_,_,_,e,_=>by cases e
 |.ins _ _ _::_,_,_,e,_=>by cases e
def OJ(ns:LI0):gP (ns.map D.int)=aa ns:=by
 induction ns with
 |nil=>rfl
 |cons n ns a=>rw[bO,gP,a];rfl
abbrev jx:LD->OD
 | [d]=>(lsD d).bind λds=>(gP ds).map λns=>.int ns.sum
 | _=>ab
def yQ(l:X.calm=ac):rN c X (.builtin "sum") jx:=by
 rintro U s E H vs us Q I n ⟨Hf,ds,d,g,r,e,k⟩;unfold jx at e;split at e
 .rename_i h
  cases b:lsD h with
  |none=>rw[b]at e;nomatch e
  |some C=>
   cases f:gP C with
   |none=>rw[b]at e;replace e:(gP C).map _=_:=e;rw[f]at e;nomatch e
   |some ns=>
    rw[b]at e;replace e:(gP C).map _=_:=e;rw[f]at e;cases e;have(v,j,m):=r.one;subst j;have(a,ws,i,q,B):=kS b m;subst i;show N4 l U s E H _ us Q I n (a,ns,rfl,?_,k _ Hf H (Ext.refl g) rfl);rw[<- GB f B];show g.seq q
 .nomatch e
def yR:∀ds d,jx ds=aa d->d.scalar=ac:=by
 intro ds d e;unfold jx at e;split at e
 .rename_i c
  cases a:lsD c with
  |none=>rw[a]at e;nomatch e
  |some C=>
   rw[a]at e;replace e:(gP C).map _=_:=e
   cases b:gP C with
   |none=>rw[b]at e;nomatch e
   |some ns=>rw[b]at e;cases e;rfl
 .nomatch e
def uT(n:jW x=aa (.type "list"))(m:Gl X x)(hm:X.mg x=ab)(ha:DC c X e f)(i:autoParam (aQ [e] X.env=(af,eval e X.env,)::aQ [] X.env) Zb)(hn:autoParam (x ≠ "__name__") Zc)(b:autoParam (NDb x) Zc)
 (g:autoParam ((cj pos (aQ [] X.env)).any (·.1)=af) Zb):DO c X (.Call (.Name x p) [e] [] pos) f:=
 PE.imp (M8 Ny m hm n (e9 ha d9 i) hn b i g) λE H Q u=>by
 have(Hf0,H0,Hf,M,ds,st,j,k):=u
 show (
  (Hf0,H0,Hf,M,ds,st,j,λa vs Hf' H' x q r=>(a,vs,rfl,q,λl d=>k l vs Hf' _ (x.trans (Ext.tmp x.s d)) (x.h.free d) (x.s.free d) be r)))
abbrev tyN:D->Option String
 |.non=>aa "NoneType"
 |.bl _=>aa "bool"
 |.int _=>aa "int"
 |.str _=>aa "str"
 |.lst _=>aa "list"
 |.tup _=>aa "tuple"
 |.dic _ _=>aa "dict"
 | _=>ab
def yS(T:String)(d:D):OD:=(tyN d).map λt=>.bl (t==T || (t == "bool" && T == "int"))
def OK{t:String}(e:tyN d=aa t)(r:Rep G H d v):gN G.K H v (.type t):=by
 cases d with
 |non=>cases e;subst r;show .non
 |bl b=>cases e;subst r;show .bl b
 |int i=>cases e;subst r;show .int i
 |str x=>cases e;subst r;show .str x
 |lst C=>cases e;have(a,vs,c,q,r):=r;subst c;show .lst q
 |tup C=>cases e;have(a,vs,c,q,r):=r;subst c;show .tup q
 |dic ks C=>cases e;have(a,vs,c,q,l,r):=r;subst c;show .dK q
 | _=>nomatch e
def kU(K:aU)(T:String):Prop:=∀t∈["NoneType","bool","int","str","list","tuple","dict"],W.kitOne K (.type t) (.type T)=aa (t==T || (t == "bool" && T == "int"))
def OL{t:String}(e:tyN d=aa t):t∈["NoneType","bool","int","str","list","tuple","dict"]:=by
 cases d <;> first |(cases e;decide) |cases e
def jy(T:String)(f:MF1)(M:LS):OD:=(f M).bind (yS T)
def uU{f:MF1}{T:String}{b:Pos}{y:Str}(w:kU X.K T)(u:Gl X "isinstance")(hm:X.mg "isinstance"=ab)(z:jW y=aa (.type T))(j:Gl X y)(l:X.mg y=ab)(ha:DB c X e f)
 (q:autoParam (aQ [e,.Name y b] X.env=(af,eval e X.env,)::aQ [.Name y b] X.env) Zb)(n:autoParam (aQ [.Name y b] X.env=(af,eval (.Name y b) X.env,)::aQ [] X.env) Zb)
 (hn:autoParam (y ≠ "__name__") Zc)(i:autoParam ((y==("__debug__":Str))=af) Zc)(m:autoParam ((cj pos (aQ [.Name y b] X.env)).any (·.1)=af) Zb):
  DE c X (.Call (.Name "isinstance" p) [e,.Name y b] [] pos) (jy T f):=
 PE.imp (FE N5 u hm boot_isinstance (e9 ha (e9 (Lx (v:=.ty T) j l z rfl hn i) d9 n) q) (by decide) (by decide) q m) λE H Q A=>by
  have(Hf0,H0,Hf,M,d,st,a,k):=A;unfold jy at a
  cases h:f M with
  |none=>rw[h]at a;nomatch a
  |some x=>
   rw[h]at a;replace a:yS T x=aa d:=a;unfold yS at a
   cases g:tyN x with
   |none=>rw[g]at a;nomatch a
   |some t=>
    rw[g]at a;cases a;show(Hf0,H0,Hf,M,x,st,h,λv Hf' H' B r=>(v,T,.type t,_,rfl,OK g r,w t (OL g),k _ Hf' H' B rfl))
inductive tDG(G:Gc)(g:D->LS->Option LS)(v:V)(E:St)(H:Hp)(Q:St->Hp->Prop):Prop
 |mk:∀Hf0 H0 Hf M d ρ',av G Hf0 H0 Hf H E M->Rep G Hf d v->g d M=aa ρ'->(∀σ',av G Hf0 H0 Hf H σ' ρ'->Q σ' H)->tDG G g v E H Q
inductive GC(G:Gc)(g:LD->LS->Option LS)(vs:LVv)(E:St)(H:Hp)(Q:St->Hp->Prop):Prop
 |mk:∀Hf0 H0 Hf M ds ρ',av G Hf0 H0 Hf H E M->am G Hf ds vs->g ds M=aa ρ'->(∀σ',av G Hf0 H0 Hf H σ' ρ'->Q σ' H)->GC G g vs E H Q
structure DG(c:Str->Addr)(X:Cx)(tg:Expr)(k:Nat)(g:D->LS->Option LS):Prop where
 pg:PG X tg (tDG (Gx c X) g)
 len:∀d M ρ',g d M=aa ρ'->Z ρ'=Z M
 keep:∀d M ρ' i,g d M=aa ρ'->k<=i->ρ'[i]?=M[i]?
structure DGs(c:Str->Addr)(X:Cx)(tg:LEx)(k:Nat)(g:LD->LS->Option LS):Prop where
 pg:PGs X tg (GC (Gx c X) g)
 len:∀d M ρ',g d M=aa ρ'->Z ρ'=Z M
 keep:∀d M ρ' i,g d M=aa ρ'->k<=i->ρ'[i]?=M[i]?
 many:∀ds M ρ',g ds M=aa ρ'->Z ds=Z tg
def ay(i:Nat)(d:D)(M:LS):Option LS:=aa (M.set i (.im d))
def GD{i k:Nat}(h:PG X e (ij i))(g:i<k):DG c X e k (ay i):=
 (PG.imp h λv E H Q b=>by have(Hf0,H0,Hf,M,d,ρ',st,r,a,q):=b;cases a;show q _ (st.setIm r),λd M ρ' h=>by cases h;simp,λd M ρ' j h f=>by
  cases h;rw[lu (by lia)])
def OM(i k:Nat)(a:X.N.Nodup)(d:autoParam (i<k) Zc)(hi:autoParam (X.N[i]?=aa x) Zb)(e:autoParam (Loc X.env.scope x) Zf)(b:autoParam (LcF X x) Zg):DG c X (.Name x pos) k (ay i):=
 GD (xV a hi e b) d
def dD(ds:LD)(M:LS):Option LS:=match ds with
 | []=>aa M
 | _=>ab
def bB(g:D->LS->Option LS)(h:LD->LS->Option LS)(ds:LD)(M:LS):Option LS:=match ds with
 |d::ds=>(g d M).bind λρ1=>h ds ρ1
 | []=>ab
def ON{k:Nat}:DGs c X [] k dD:=by
 show(PGs.imp L4 λvs E H Q f=>?_,λd M ρ' h=>?_,λd M ρ' i h _=>?_,λd M ρ' h=>?_)
 .have(Hf0,H0,Hf,M,ds,ρ',st,r,e,q):=f
  cases ds with
  |nil=>cases e;show(r,q _ st)
  |cons d ds=>nomatch e
 .cases d with
  |nil=>cases h;rfl
  |cons a b=>nomatch h
 .cases d with
  |nil=>cases h;rfl
  |cons a b=>nomatch h
 .cases d with
  |nil=>cases h;rfl
  |cons a b=>nomatch h
variable{h:LD->LS->Option LS}
def uV{g:D->LS->Option LS}(e:bB g h ds M=aa ρ'):∃d r ρ1,ds=d::r/\g d M=aa ρ1/\h r ρ1=aa ρ':=by
 cases ds with
 |nil=>nomatch e
 |cons d r=>
  replace e:(g d M).bind _=_:=e
  cases a:g d M with
  |none=>rw[a]at e;nomatch e
  |some ρ1=>rw[a]at e;show(d,r,ρ1,rfl,a,e)
def OO{k:Nat}{g:D->LS->Option LS}(j:DG c X e k g)(h2:DGs c X es k h)(n:autoParam ((jf (e::es) X.env).map (·.2)=assign e X.env::(jf es X.env).map (·.2)) Zb):DGs c X (e::es) k (bB g h):=by
 show(PGs.imp (L5 j.pg h2.pg n) λvs E H Q p=>?_,λd M ρ' h=>?_,λd M ρ' i h hi=>?_,λd M ρ' h=>?_)
 .have(Hf0,H0,Hf,M,ds,ρ',st,r,l,q):=p;have(d,f,ρ1,rfl,b,a):=uV l;have(v,x,m,w,u):=r;show(v,x,m,Hf0,H0,Hf,M,d,ρ1,st,w,b,λy st1=>(Hf0,H0,Hf,ρ1,f,ρ',st1,u,a,q))
 .have(d,f,ρ1,rfl,b,a):=uV h;rw[h2.len _ _ _ a,j.len _ _ _ b]
 .have(d,f,ρ1,rfl,b,a):=uV h;rw[h2.keep _ _ _ _ a hi,j.keep _ _ _ _ b hi]
 .have(d,f,ρ1,rfl,b,a):=uV h;rw[cB,cB,h2.many _ _ _ a]
abbrev tpD:D->OLD
 |.tup C=>aa C
 |.kt C=>aa C
 | _=>ab
def GE(e:tpD d=aa ds)(r:Rep G H d v):∃a vs,v=.ref a/\SqT G.K H a vs/\am G H ds vs:=by
 cases d with
 |tup C=>cases e;have(a,vs,b,q,r):=r;show(a,vs,b,SqT.of q,r)
 |kt C=>cases e;have(a,vs,b,q,r):=r;show(a,vs,b,q,r)
 | _=>nomatch e
def dk(g:LD->LS->Option LS)(d:D)(M:LS):Option LS:=(tpD d).bind λds=>g ds M
def yT{g:LD->LS->Option LS}(h:dk g d M=aa ρ'):∃ds,tpD d=aa ds/\g ds M=aa ρ':=by
 unfold dk at h
 cases e:tpD d with
 |none=>rw[e]at h;nomatch h
 |some ds=>rw[e]at h;show(ds,rfl,h)
variable{kk:Nat}
def OP{k:Nat}{g:LD->LS->Option LS}(n:X.calm=ac)(h:DGs c X es k g)(hn:autoParam (Z (jf es X.env)=Z es) Zb)(f:autoParam ((jf es X.env).findIdx? (·.1)=ab) Zb):DG c X (.Tuple es kk pos) k (dk g):=by
 show(PG.imp (L7 n h.pg hn f) λv E H Q p=>?_,λd M ρ' h'=>?_,λd M ρ' i h' hi=>?_)
 .have(Hf0,H0,Hf,M,d,ρ',st,r,m,q):=p;have(ds,e,b):=yT m;have(a,vs,l,u,j):=GE e r;show(a,vs,l,st.sub.tup u,by rw[<- j.length];show h.many _ _ _ b,Hf0,H0,Hf,M,ds,ρ',st,j,b,q)
 .have(ds,e,b):=yT h';show h.len _ _ _ b
 .have(ds,e,b):=yT h';show h.keep _ _ _ _ b hi
def rO(G:Gc)(Hf:Hp)(J:It)(ds:LD):Prop:=∀Hf' H',aq Hf Hf'->aq Hf' H'->∀i:Nat,
 (∀d,ds[i]?=aa d->J.go i H'/\∀x H2,J.yld i H' x H2->∃aG,Ext Hf' H' aG H2/\Rep G aG d x)/\(i=Z ds->J.stop i H')
def uW(G:Gc)(Hf H:Hp)(J:It)(ds:LD):Prop:=∀Hf' H',Ext Hf H Hf' H'->∀i:Nat,
 (∀d,ds[i]?=aa d->J.go i H'/\∀x H2,J.yld i H' x H2->∃aG,Ext Hf' H' aG H2/\Rep G aG d x)/\(i=Z ds->J.stop i H')
def rO.toE(h:rO G Hf J ds):uW G Hf H J ds:=λHf' H' x i=>h Hf' H' x.f x.s i
inductive tDI(G:Gc)(f:MF2)(E:St)(H:Hp)(R:It->Hp->Prop):Prop
 |mk:∀Hf0 H0 Hf M ds,av G Hf0 H0 Hf H E M->f M=aa ds->(∀J Hf' H',Ext Hf H Hf' H'->rO G Hf' J ds->R J H')->tDI G f E H R
inductive yU(G:Gc)(f:MF2)(E:St)(H:Hp)(R:It->Hp->Prop):Prop
 |mk:∀Hf0 H0 Hf M ds,av G Hf0 H0 Hf H E M->f M=aa ds->(∀J Hf' H',Ext Hf H Hf' H'->uW G Hf' H' J ds->R J H')->yU G f E H R
def DI(c:Str->Addr)(X:Cx)(tg iter:Expr)(f:MF2):Prop:=PI X tg iter (tDI (Gx c X) f)
def DIe(c:Str->Addr)(X:Cx)(tg iter:Expr)(f:MF2):Prop:=PI X tg iter (yU (Gx c X) f)
def DI.de(h:DI c X tg e f):DIe c X tg e f:=PI.imp h λE H R b=>by
 have(Hf0,H0,Hf,M,ds,st,a,k):=b;show((Hf0,H0,Hf,M,ds,st,a,λJ Hf' H' x i=>k J Hf' H' x i.toE))
def GF(q:SqL G.K H l vs)(r:am G Hf ds vs):uW G Hf H (Itl G.K l) ds:=λHf' H' b i=>by
 have a:=b.h.seq q;show(λd g=>?_,λj=>(vs,a,by rw[<- r.length,j];show aO _));have(v,c,m):=r.get g;show((vs,v,a,c),λx H2 (e,y)=>?_);subst e;have:=y vs a;rw[c]at this;cases this;show(Hf',Ext.refl b.s,m.up b.f)
def OQ(q:SqT G.K Hf l vs)(r:am G Hf ds vs):rO G Hf (Itt G.K l) ds:=λHf' H' f s i=>by
 have a:=(f.trans s).tup q;show(λd e=>?_,λg=>(vs,a,by rw[<- r.length,g];show aO _));have(v,b,h):=r.get e;show((vs,v,a,b),λx H2 (c,y)=>?_);subst c;have:=y vs a;rw[b]at this;cases this;show(Hf',Ext.refl s,h.up f)
def nF{f:MF1}(h:DE c X e f):DI c X tg e (aW f):=λU s E H R I A=>by
 have(Hf0,H0,Hf,M,ds,st,b,k):=A;unfold aW at b
 cases g:f M with
 |none=>rw[g]at b;nomatch b
 |some d=>
  rw[g]at b
  cases j:lsD d with
  |some l=>
   have:l=ds:=by cases d <;> first |(cases j;done) |(cases j;cases b;rfl)
   subst this;show x8 h U s E H R I (Hf0,H0,Hf,M,d,st,g,λv Hf' H' x r=>?_);have(a,vs,n,q,B):=kS j r
   show⟨a,n,(vs,x.s.seq q),k _ Hf' H' x λaG H2 f2 s2 i=>by
    have p:=(f2.trans s2).seq q;show(λd w=>?_,λz=>(vs,p,by rw[<- B.length,z];show aO _));have(v,u,C):=B.get w;show((vs,v,p,u),λx G (m,y)=>?_);subst m;have:=y vs p;rw[u]at this;cases this
    show(aG,Ext.refl s2,C.up f2)⟩
  |none=>
   have m:tpD d=aa ds:=by cases d <;> first |(cases j;done) |(cases b;done) |(cases b;rfl)
   show Mi h U s E H R I (Hf0,H0,Hf,M,d,st,g,λv Hf' H' x r=>?_);have(a,vs,n,q,B):=GE m r;show(a,n,(vs,x.s.tup q),k _ Hf' H' x (OQ q B))
def rng(lo:Int)(n:Nat):LD:=(bI n).map λ(i:Nat)=>.int (lo+i)
def OR{lo:Int}:rO G Hf (Itr lo n) (rng lo n):=λHf' H' f s i=>by
 show(λd a=>?_,λb=>?_)
 .unfold rng at a;rw[cz]at a
  cases e:(bI n)[i]? with
  |none=>rw[e]at a;nomatch a
  |some j=>
   rw[e]at a;have(hi,c):=dh.mp e;rw[cN]at hi;rw[List.getElem_range]at c;subst c;cases a;show(hi,λx H2 (g,y)=>by subst g;show(Hf',Ext.refl s,y))
 .unfold rng at b;rw[az,cN]at b;show Nat.le_of_eq b.symm
abbrev yV:LD->OLD
 | [.int j]=>if -(2 ^ 62)<=j/\j<2 ^ 62 then aa (rng 0 (S j)) else ab
 | [.int i,.int j]=>if -(2 ^ 62)<=i/\i<2 ^ 62/\-(2 ^ 62)<=j/\j<2 ^ 62 then aa (rng i (S (j-i))) else ab
 | _=>ab
def iO(f:MF2)(M:LS):OLD:=(f M).bind yV
def OS(h:Gl X "range")(hm:X.mg "range"=ab)(ha:DA c X [a] f)(l:autoParam (aQ [a] X.env=[(af,eval a X.env,)]) Zb):DI c X tg (.Call (.Name "range" p) [a] [] pos) (iO f):=
 PI.imp (Mm h hm ha.pa l) λE H R m=>by
  have(Hf0,H0,Hf,M,ds,st,b,k):=m;unfold iO at b
  cases d:f M with
  |none=>rw[d]at b;nomatch b
  |some as=>
   rw[d]at b;replace b:yV as=aa ds:=b;have i:=ha.len M as d;show(Hf0,H0,Hf,M,as,st,d,λvs Hf' H' x r=>?_);unfold yV at b;split at b
   .split at b
    .rename_i j e;cases b;have(v,g,n):=r.one;cases (n);show(j,g,e.1,e.2,k _ Hf' H' x OR)
    .nomatch b
   .nomatch i
   .nomatch b
def iP(k:Nat)(js:LN)(M:LS):LS:=hJ k .no++js.map λj=>(M[j]?).getD .no
def av.weak(h:av G Hf0 H0 Hf H E M)(f:Z ρ'=Z M)(d:∀(i:Nat) (s:Sl),ρ'[i]?=aa s->s=.no\/M[i]?=aa s):av G Hf0 H0 Hf H E ρ':=by
 show h.re h.ext f (λi v s a b=>?_) λi s v a b c p=>?_
 .rcases d i s b with e |e
  .subst e;trivial
  .show h.at' i v s a e
 .rcases d i s b with e |e
  .subst e;show(p.calm rfl).elim
  .show(s,e,p)
def uX{a:Type}{k:Nat}{x:a}{l:List a}{y:a}(h:(hJ k x++l)[i]?=aa y):(i<k/\y=x)\/(k<=i/\l[i-k]?=aa y):=by
 by_cases hi:i<k
 .left;rw[mw (by simpa using hi),oM,if_pos hi]at h;show(hi,(cP h).symm)
 .right;rw[oK (by simpa using oT hi),mx]at h;show(oT hi,h)
def nG{a b:Type}{f:a->b}{l:List a}{y:b}(h:(l.map f)[i]?=aa y):∃x,l[i]?=aa x/\y=f x:=by
 rw[cz]at h
 cases e:l[i]? with
 |none=>rw[e]at h;nomatch h
 |some x=>rw[e]at h;show(x,rfl,(cP h).symm)
def OU(h:js.Nodup){x:Nat}(a:js[i]?=aa x)(b:js[j]?=aa x):i=j:=by
 have(e,c):=dh.mp a;have(h2,d):=dh.mp b;show(List.getElem_inj h).mp (c.trans d.symm)
def av.comp(k:Nat)(h:av G Hf0 H0 Hf H E M)(U:js.Nodup):av G Hf0 H0 Hf H (jq k js E) (iP k js M):=by
 have own:∀i s,(iP k js M)[i]?=aa s->s.calm=af->∃j,k<=i/\js[i-k]?=aa j/\M[j]?=aa s:=λi s a r=>by
  rcases uX a with⟨_,e⟩ |⟨hi,a⟩
  .subst e;nomatch r
  .have(j,f,es):=nG a
   cases e:M[j]? with
   |none=>rw[e]at es;subst es;nomatch r
   |some t=>rw[e]at es;replace es:s=t:=es;subst es;show(j,hi,f,e)
 have val:∀i v j,(jq k js E)[i]?=aa v->k<=i->js[i-k]?=aa j->v=(E[j]?).getD ab:=λi v j a hi f=>by
  rcases uX a with⟨T,_⟩ |⟨_,a⟩
  .lia
  .have(A,g,es):=nG a;rw[f]at g;cases g;show es
 show(h.ext,by simp[jq,iP],λi v s a b=>?_,λi j s t y z l a b c d p q=>?_)
 .rcases uX b with⟨_,e⟩ |⟨hi,b⟩
  .subst e;trivial
  .have(j,f,es):=nG b;have J:=val i v j a hi f
   cases e:M[j]? with
   |none=>rw[e]at es;subst es;trivial
   |some t=>
    rw[e]at es;subst es;have(u,Q,q):=h.slot e;rw[Q]at J;subst J;show q
 .have r:s.calm=af:=by
   cases w:s.calm with
   |true=>show(p.calm w).elim
   |false=>rfl
  have Y:t.calm=af:=by
   cases w:t.calm with
   |true=>show(q.calm w).elim
   |false=>rfl
  have(L,hi,I,B):=own i s a r;have(A,x,f,C):=own j t b Y;have v1:=val i _ L c hi I;have N:=val j _ A d x f;have(u1,m,_):=h.slot B;have(u2,n,_):=h.slot C;rw[m]at v1;rw[n]at N;subst v1 N;have:=h.dj L A s t y z l B C m n p q;subst this;have:=OU U I f
  lia
abbrev fh(h:D->Option OD):LD->OLD
 | []=>aa []
 |d::ds=>(h d).bind λo=>(fh h ds).map λr=>match o with
  |some y=>y::r
  |none=>r
def OV{h:D->Option OD}{r:LD}(e:fh h (d::ds)=aa r):∃o a,h d=aa o/\fh h ds=aa a/\r=(match o with |some y=>y::a |none=>a):=by
 dsimp only[fh]at e
 cases b:h d with
 |none=>rw[b]at e;nomatch e
 |some o=>
  cases c:fh h ds with
  |none=>rw[b,c]at e;nomatch e
  |some a=>
   rw[b,c]at e;cases e;show(o,a,rfl,rfl,?_)
   cases o <;> rfl
def gQ(g:D->LS->Option LS)(ft:MF4)(fe:MF1)(M:LS)(d:D):Option OD:=(g d M).bind λρ1=>(ft ρ1).bind λb=>if b then (fe ρ1).map aa else aa ab
def bu(k:Nat)(js:LN)(fi:MF2)(g:D->LS->Option LS)(ft:MF4)(fe:MF1)(M:LS):OLD:=
 (fi M).bind λds=>if Z ds<=16777216 then fh (gQ g ft fe (iP k js M)) ds else ab
def yW{a:Type}{l:List a}(h:i<Z l):∃x,l[i]?=aa x/\l.drop i=x::l.drop (i+1):=(l[i],by simp[h],(drop_eq_getElem_cons h))
def DTs(c:Str->Addr)(X:Cx)(cs:LEx)(f:MF4):Prop:=PTs X cs (tDT (Gx c X) f)
def OW:DTs c X [] kY:=PTs.imp N0 λE H Q d=>by
 have(Hf0,H0,Hf,M,b,st,a,k):=d;show(by cases a;show k Hf H (Ext.refl st.sub))
def rP{f:MF4}(h:DT c X e f):DTs c X [e] f:=N1 h
variable{g:D->LS->Option LS}{ft:MF4}{fe:MF1}{B:LD}
def GG{k:Nat}(hj:js.Nodup)(hk:∀d M ρ' i,g d M=aa ρ'->k<=i->ρ'[i]?=M[i]?)(A:∀d M ρ',g d M=aa ρ'->Z ρ'=Z M){ti:TI}(st:av G Hf0 H0 Hf H E M)
 (hti:∀R:It->Hp->Prop,(∀J a4 H1,Ext Hf H a4 H1->uW G a4 H1 J ds->R J H1)->ti E H R)(hz:Z ds<=16777216)(ef:fh (gQ g ft fe (iP k js M)) ds=aa B)
 (kq:∀l vs Hf' H',Ext Hf H Hf' H'->H l=ab->Hf' l=ab->H' l=aa (.lst vs)->am G Hf' B vs->Q (.ref l) H'):pJ k js ti (tDG G g) (tDT G ft) (tD G fe) E H Q:=by
 show hti _ λJ a4 H1 x1 it=>?_
 show(λi m ys σ' H'=>m=Z ds-i/\i<=Z ds/\∃Hf' as rest,Ext a4 H1 Hf' H'/\av G Hf0 H0 Hf' H' σ' _/\am G Hf' as ys/\fh _ (ds.drop i)=aa rest/\B=as++rest/\Z as<=i,
  (Z ds,rfl,cr _,a4,[],B,Ext.refl x1.s,(st.step x1).comp k hj,rfl,ef,rfl,aO _),?_)
 rintro i m ys σ' H' ⟨rfl,hi,Hf',as,rest,x2,st2,ra,Y,er,hal⟩;have C:Z ys<=aX:=by rw[dJ,<- ra.length];lia
 have(it1,it2):=it Hf' H' x2 i
 by_cases q:i<Z ds
 .have(d,ed,edr):=yW q;have(go,yl):=it1 d ed
  show .inr (go,C,λL N H2=>Z ds-_=Z ds-_/\i+1<=Z ds/\∃Hf' as rest,Ext a4 H1 Hf' H2/\av G Hf0 H0 Hf' H2 N _/\am G Hf' as L/\fh _ _=aa rest/\B=as++rest/\Z as<=i+1,
   λL N H2 w=>(Z ds-(i+1),by lia,w),λx H2 y=>?_)
  have(aG,x3,rx):=yl x H2 y;rw[edr]at Y;have(o,r',a,u,n):=OV Y;unfold gQ at a
  cases z:g d _ with
  |none=>rw[z]at a;nomatch a
  |some ρ1=>
   rw[z]at a;replace a:(ft ρ1).bind _=_:=a
   cases et:ft ρ1 with
   |none=>rw[et]at a;nomatch a
   |some b=>
    rw[et]at a;show(Hf0,H0,aG,iP k js M,d,ρ1,st2.step x3,rx,z,λT p=>(Hf0,H0,aG,ρ1,b,p,et,λr H4 I=>?_))
    have back:∀{c U:Hp},av G Hf0 H0 c U T ρ1->av G Hf0 H0 c U T _:=λ{c U} s5=>s5.weak (A _ _ _ z).symm λj s hs=>by
     rcases uX hs with⟨_,e⟩ |⟨hj',_⟩
     .show .inl e
     .show .inr (by rw[hk _ _ _ _ z hj'];show hs)
    cases b with
    |true=>
     cases ee:fe ρ1 with
     |none=>rw[ee]at a;nomatch a
     |some y'=>
      rw[ee]at a;cases a;show(Hf0,H0,r,ρ1,y',p.step I,ee,λv c U x5 r5=>?_);have x:=(x3.trans I).trans x5;show(rfl,q,c,as++[y'],r',x2.trans x,back ((p.step I).step x5),(ra.up x.f).append (.cons r5 .nil),u,?_,by simp only[aV,gc];lia);simp only[er,n,cO]
      rfl
    |false=>
     cases a;have x:=x3.trans I;show(rfl,q,r,as,r',x2.trans x,back (p.step I),ra.up x.f,u,by rw[er,n],by lia)
 .have ei:i=Z ds:=by lia
  subst ei;show .inl (it2 rfl,C,λl h1 h2=>?_);rw[drop_eq_nil_of_le (aO _)]at Y;cases Y;rw[bT]at er;subst er;have x:=x1.trans x2;show kq l ys Hf' _ (x.trans (Ext.tmp x.s h2)) (x.h.free h2) (x.s.free h2) be ra
variable{fi:MF2}
def yX{k:Nat}(e:js.Nodup)(f:∀d M ρ' i,g d M=aa ρ'->k<=i->ρ'[i]?=M[i]?)(b:∀d M ρ',g d M=aa ρ'->Z ρ'=Z M)(h:tDO G (bu k js fi g ft fe) E H Q):
  pJ k js (yU G fi) (tDG G g) (tDT G ft) (tD G fe) E H Q:=by
 have(Hf0,H0,Hf,M,B,st,a,j):=h;unfold bu at a
 cases c:fi M with
 |none=>rw[c]at a;nomatch a
 |some ds=>
  rw[c]at a;replace a:(if Z ds<=16777216 then fh _ ds else ab)=aa B:=a
  by_cases hz:Z ds<=16777216
  .rw[if_pos hz]at a;show GG e f b st (λR q=>(Hf0,H0,Hf,M,ds,st,c,λJ a4 H1 l it=>q J a4 H1 l it)) hz a j
  .rw[if_neg hz]at a
   nomatch a
def kX(k:Nat)(js:LN)(Nc:LSt)(d:X.calm=ac)(hi:DIe c X tg iter fi)(a:∀cl X5 ex b3 b4,DG c (X.comp scope Nc cl X5 ex b3 b4) tg k g)(j:∀cl X5 ex b3 b4,DTs c (X.comp scope Nc cl X5 ex b3 b4) cs ft)
 (e:∀cl X5 ex b3 b4,DE c (X.comp scope Nc cl X5 ex b3 b4) c3 fe)(b:autoParam (lO scope X.env.scope.names X.N Nc k js=ac) Zb)(i:autoParam (∀x,lB iter X.env x=pure x) Zd)(f:autoParam (js.Nodup) Zc):
  DO c X (.ListComp c3 [(tg,iter,cs,0)] scope pos) (bu k js fi g ft fe):=
 PE.imp (N3 (tt:=tDT (Gx c X) ft) (te:=tD (Gx c X) fe) k js Nc d hi (λcl X5 ex b3 b4=>(a cl X5 ex b3 b4).pg) j e b i) λE H Q h=>
  yX f (a [] 0 [] X.s₀ X.H₀).keep (a [] 0 [] X.s₀ X.H₀).len h
def dvc{cl:List (Str×Addr)}(i:Nat)(b:autoParam (Nc[i]?=aa x) Zb)(hv:autoParam (Vis scope x) Ze)(hd:autoParam (NDb x) Zc)
 (a:autoParam (NCd x) Zc):DE c (X.comp scope Nc cl X5 ex b3 b4) (.Name x pos) (ae i):=F9 (pvc i b hv hd a)
def OX{cl:List (Str×Addr)}(i:Nat)(b:autoParam (Nc[i]?=aa x) Zb)(hv:autoParam (Vis scope x) Ze)(hd:autoParam (NDb x) Zc)
 (a:autoParam (NCd x) Zc):DB c (X.comp scope Nc cl X5 ex b3 b4) (.Name x pos) (cT i):=Gb (pvc i b hv hd a)
def yY{cl:List (Str×Addr)}(i:Nat)(b:autoParam (Nc[i]?=aa x) Zb)(hv:autoParam (Vis scope x) Ze)(hd:autoParam (NDb x) Zc)
 (a:autoParam (NCd x) Zc):DC c (X.comp scope Nc cl X5 ex b3 b4) (.Name x pos) (ar i):=Ga (pvc i b hv hd a)
def dgc{cl:List (Str×Addr)}(i k:Nat)(b:autoParam (i<k) Zc)(a:autoParam (Nc.Nodup) Zn)(hi:autoParam (Nc[i]?=aa x) Zb)(d:autoParam (scope.names.lookup x=aa .local) Zb):DG c (X.comp scope Nc cl X5 ex b3 b4) (.Name x pos) k (ay i):=
 GD (pgc i a hi d) b
inductive Fl where
 |nx (M:LS)
 |bk (M:LS)
 |ct (M:LS)
 |rt (d:D)
 |rtO (ds:LD)
 |rtS (d:D) (M:LS)
 |rtT (o:O)
nonrec abbrev MF3:=LS->Option Fl
abbrev uY(G:Gc)(Hf0 H0 Hf:Hp)(X4:jn):Fl->Prop
 |.nx ρ'=>∀σ' Hf' H',aq Hf Hf'->av G Hf0 H0 Hf' H' σ' ρ'->X4.nx σ' H'
 |.bk ρ'=>∀σ' Hf' H',aq Hf Hf'->av G Hf0 H0 Hf' H' σ' ρ'->X4.bk σ' H'
 |.ct ρ'=>∀σ' Hf' H',aq Hf Hf'->av G Hf0 H0 Hf' H' σ' ρ'->X4.ct σ' H'
 |.rt d=>∀v Hf' H',Ext Hf0 H0 Hf' H'->Rep G Hf' d v->X4.rt v H'
 |.rtO ds=>∀l vs Hf' H',Ext Hf0 H0 Hf' H'->H0 l=ab->Hf' l=ab->H' l=aa (.lst vs)->am G Hf' ds vs->X4.rt (.ref l) H'
 |.rtS d M=>∀v σ' Hf' H',av G Hf0 H0 Hf' H' σ' M->Rep G Hf' d v->X4.rt v H'
 |.rtT o=>∀u fp Hf' H',Ext Hf0 H0 Hf' H'->OT G Hf' H' o u fp->fp.Nodup->(∀a∈fp,H0 a=ab/\Hf' a=ab)->X4.rt u H'
inductive tDS(G:Gc)(F:MF3)(X4:jn)(E:St)(H:Hp):Prop
 |mk:∀Hf0 H0 Hf M o,av G Hf0 H0 Hf H E M->F M=aa o->uY G Hf0 H0 Hf X4 o->tDS G F X4 E H
def DS(c:Str->Addr)(X:Cx)(st:Stmt)(F:MF3):Prop:=PS X st (tDS (Gx c X) F)
def DSs(c:Str->Addr)(X:Cx)(st:List Stmt)(F:MF3):Prop:=PSs X st (tDS (Gx c X) F)
def bz(M:LS):Option Fl:=aa (.nx M)
def ai(F a:MF3)(M:LS):Option Fl:=(F M).bind λo=>match o with
 |.nx ρ'=>a ρ'
 |o=>aa o
def aY(t:MF4)(F a:MF3)(M:LS):Option Fl:=(t M).bind λb=>if b then F M else a M
def a9(i:Nat)(f:MF1)(M:LS):Option Fl:=(f M).map λd=>.nx (M.set i (.im d))
def dq(i:Nat)(f:MF2)(M:LS):Option Fl:=(f M).map λd=>.nx (M.set i (.own d))
def aT(f:MF1)(M:LS):Option Fl:=(f M).map .rt
def cx(f:MF2)(M:LS):Option Fl:=(f M).map .rtO
def fj(i:Nat)(M:LS):Option Fl:=match M[i]? with
 |some (.im d)=>aa (.rt d)
 |some (.own C)=>aa (.rtO C)
 | _=>ab
abbrev iQ(g:D->LS->Option LS)(F:MF3):LD->MF3
 | [],M=>aa (.nx M)
 |d::ds,M=>(g d M).bind λρ1=>(F ρ1).bind λo=>match o with
  |.nx a=>iQ g F ds a
  |.ct a=>iQ g F ds a
  |.bk a=>aa (.nx a)
  |.rt d=>aa (.rt d)
  |.rtO d=>aa (.rtO d)
  |.rtS d a=>aa (.rtS d a)
  |.rtT o=>aa (.rtT o)
def bR(fi:MF2)(g:D->LS->Option LS)(F:MF3)(M:LS):Option Fl:=(fi M).bind λds=>iQ g F ds M
abbrev dB(t:MF4)(F:MF3):Nat->MF3
 | 0,_=>ab
 |n+1,M=>(t M).bind λb=>if b then (F M).bind λo=>match o with
   |.nx a=>dB t F n a
   |.ct a=>dB t F n a
   |.bk a=>aa (.nx a)
   |.rt d=>aa (.rt d)
   |.rtO d=>aa (.rtO d)
   |.rtS d a=>aa (.rtS d a)
   |.rtT o=>aa (.rtT o)
  else aa (.nx M)
def yZ(i:Nat)(M:LS):LS:=match M[i]? with
 |some (.own C)=>M.set i (.im (.lst C))
 |some (.ownd ks C)=>M.set i (.im (.dic ks C))
 |some (.obj c ns C)=>M.set i (.im (.ins c ns C))
 | _=>M
def fM(i:Nat)(F:MF3)(M:LS):Option Fl:=F (yZ i M)
def dE(i:Nat)(f:MF1)(M:LS):Option Fl:=(f M).bind λd=>match M[i]? with
 |some (.own C)=>if Z C<16777216 then aa (.nx (M.set i (.own (C++[d])))) else ab
 | _=>ab
def kZ(f:MF1)(M:LS):OLD:=(f M).bind λd=>match d with
 |.lst C=>aa C
 | _=>ab
def k4(i:Nat)(f:MF2)(M:LS):Option Fl:=(f M).bind λds=>match M[i]? with
 |some (.own C)=>if Z C+Z ds<=16777216 then aa (.nx (M.set i (.own (C++ds)))) else ab
 | _=>ab
def OY:DSs c X [] bz:=PSs.imp E9 λX4 E H b=>by
 have(Hf0,H0,Hf,M,o,d,a,k):=b;show(by cases a;show k E Hf H (aq.refl _) d)
def uY.up{X4:jn}{o:Fl}(h:uY G Hf0 H0 Hf X4 o)(s:aq Hf Hf'):uY G Hf0 H0 Hf' X4 o:=by
 cases o with
 |nx M=>show λσ' aG H2 s2 q=>h σ' aG H2 (s.trans s2) q
 |bk M=>show λσ' aG H2 s2 q=>h σ' aG H2 (s.trans s2) q
 |ct M=>show λσ' aG H2 s2 q=>h σ' aG H2 (s.trans s2) q
 |rt d=>show h
 |rtO d=>show h
 |rtS d M=>show h
 |rtT o=>show h
variable{st:Stmt}{sts:List Stmt}{F':MF3}
def aC{F:MF3}(f:DS c X st F)(h2:DSs c X sts F'):DSs c X (st::sts) (ai F F'):=PSs.imp (um f h2) λX4 E H g=>by
 have(Hf0,H0,Hf,M,o,h,a,k):=g;unfold ai at a
 cases b:F M with
 |none=>rw[b]at a;nomatch a
 |some o1=>
  rw[b]at a;show(Hf0,H0,Hf,M,o1,h,b,?_)
  cases o1 with
  |nx ρ1=>show λi a4 H1 s1 e=>(Hf0,H0,a4,ρ1,o,e,a,k.up s1)
  |bk ρ1=>cases a;show k
  |ct ρ1=>cases a;show k
  |rt d=>cases a;show k
  |rtO d=>cases a;show k
  |rtS d ρ1=>cases a;show k
  |rtT o'=>cases a;show k
def bo{F:MF3}(a:DS c X st F):DSs c X [st] F:=Fa a
variable{a b:List Stmt}{t:MF4}
def d4{F:MF3}(j:DT c X cd t)(ha:DSs c X a F)(i:DSs c X b F'):DS c X (.If cd a b pos) (aY t F F'):=PS.imp (LX j ha i) λX4 E H l=>by
 have(Hf0,H0,Hf,M,o,h,d,k):=l;unfold aY at d
 cases g:t M with
 |none=>rw[g]at d;nomatch d
 |some x=>
  rw[g]at d;show(Hf0,H0,Hf,M,x,h,g,λa4 H1 e=>?_)
  cases x with
  |true=>rw[if_pos rfl];show(Hf0,H0,a4,M,o,h.step e,d,k.up e.f)
  |false=>rw[if_neg bN];show(Hf0,H0,a4,M,o,h.step e,d,k.up e.f)
def GH{f:MF1}(g:PS X st (jo te (ij i)))(hi:∀E H Q,tD (Gx c X) f E H Q->te E H Q):DS c X st (a9 i f):=PS.imp g λX4 E H h=>by
 have(Hf0,H0,Hf,M,o,e,a,k):=h;unfold a9 at a
 cases b:f M with
 |none=>rw[b]at a;nomatch a
 |some d=>
  rw[b]at a;cases a;show hi _ _ _ (Hf0,H0,Hf,M,d,e,b,λv Hf' H' x r=>k _ Hf' H' x.f ((e.step x).setIm r))
def GI(j:PS X st (jo te (ij i)))(hi:∀E H Q,tDO (Gx c X) f E H Q->te E H Q):DS c X st (dq i f):=PS.imp j λX4 E H m=>by
 have(Hf0,H0,Hf,M,o,e,a,k):=m;unfold dq at a
 cases b:f M with
 |none=>rw[b]at a;nomatch a
 |some d=>
  rw[b]at a;cases a;show hi _ _ _ (Hf0,H0,Hf,M,d,e,b,λl vs Hf' H' x hn g h r=>k _ Hf' H' x.f (e.setOwn rfl x hn g (vs,h,r)))
def pQ(i:Nat){f:MF1}(a:X.N.Nodup)(b:DE c X e f)(hi:autoParam (X.N[i]?=aa x) Zb)(j:autoParam (Loc X.env.scope x) Zf)(g:autoParam (gh e (aa (.Name x bm)) pos.line X.env=pure af) Zb)(d:autoParam (LcF X x) Zg):
  DS c X (.Assign [.Name x bm] e pos) (a9 i f):=GH (px a hi j b g d) λ_ _ _ h=>h
def y4(i:Nat)(a:X.N.Nodup)(b:DO c X e f)(hi:autoParam (X.N[i]?=aa x) Zb)(j:autoParam (Loc X.env.scope x) Zf)(g:autoParam (gh e (aa (.Name x bm)) pos.line X.env=pure af) Zb)(d:autoParam (LcF X x) Zg):
  DS c X (.Assign [.Name x bm] e pos) (dq i f):=GI (px a hi j b g d) λ_ _ _ h=>h
def OZ(h:tD G (aR f) E H Q):tDO G f E H Q:=by
 have(Hf0,H0,Hf,M,d,st,a,k):=h;unfold aR at a
 cases b:f M with
 |none=>rw[b]at a;nomatch a
 |some ds=>
  rw[b]at a;have a:=cP a;subst a;show(Hf0,H0,Hf,M,ds,st,b,λl vs Hf' H' x hn c e r=>k _ _ H' (x.fix hn c e) (l,vs,rfl,be,r.up (bU c)))
def O0(i:Nat)(k:Nat)(js:LN)(Nc:LSt)(f:X.N.Nodup)(j:X.calm=ac)(hi:DIe c X tg iter fi)
 (a:∀cl X5 ex b3 b4,DG c (X.comp scope Nc cl X5 ex b3 b4) tg k g)(q:∀cl X5 ex b3 b4,DTs c (X.comp scope Nc cl X5 ex b3 b4) cs ft)(l:∀cl X5 ex b3 b4,DE c (X.comp scope Nc cl X5 ex b3 b4) c3 fe)
 (b:autoParam (X.N[i]?=aa x) Zb)(r:autoParam (Loc X.env.scope x) Zf)
 (d:autoParam (gh (.ListComp c3 [(tg,iter,cs,0)] scope pos) (aa (.Name x bm)) eh.line X.env=pure ac) Zb)
 (e:autoParam (lO scope X.env.scope.names X.N Nc k js=ac) Zb)(p:autoParam (∀x,lB iter X.env x=pure x) Zd)(n:autoParam (js.Nodup) Zc)
 (m:autoParam (LcF X x) Zg):
  DS c X (.Assign [.Name x bm] (.ListComp c3 [(tg,iter,cs,0)] scope pos) eh) (dq i (bu k js fi g ft fe)):=
 GI (yF (tt:=tDT (Gx c X) ft) (te:=tD (Gx c X) fe) k js Nc f b r j hi (λcl X5 ex b3 b4=>(a cl X5 ex b3 b4).pg) q l d e p m) λE H Q h=>yX n (a [] 0 [] X.s₀ X.H₀).keep (a [] 0 [] X.s₀ X.H₀).len h
def rQ(i:Nat)(k:Nat)(js:LN)(Nc:LSt)(f:X.N.Nodup)(j:X.calm=ac)(hi:DIe c X tg iter fi)
 (a:∀cl X5 ex b3 b4,DG c (X.comp scope Nc cl X5 ex b3 b4) tg k g)(q:∀cl X5 ex b3 b4,DTs c (X.comp scope Nc cl X5 ex b3 b4) cs ft)(l:∀cl X5 ex b3 b4,DE c (X.comp scope Nc cl X5 ex b3 b4) c3 fe)
 (b:autoParam (X.N[i]?=aa x) Zb)(r:autoParam (Loc X.env.scope x) Zf)
 (d:autoParam (gh (.ListComp c3 [(tg,iter,cs,0)] scope pos) (aa (.Name x bm)) eh.line X.env=pure ac) Zb)
 (e:autoParam (lO scope X.env.scope.names X.N Nc k js=ac) Zb)(p:autoParam (∀x,lB iter X.env x=pure x) Zd)(n:autoParam (js.Nodup) Zc)
 (m:autoParam (LcF X x) Zg):
  DS c X (.Assign [.Name x bm] (.ListComp c3 [(tg,iter,cs,0)] scope pos) eh) (a9 i (aR (bu k js fi g ft fe))):=
 GH (yF (tt:=tDT (Gx c X) ft) (te:=tD (Gx c X) fe) k js Nc f b r j hi (λcl X5 ex b3 b4=>(a cl X5 ex b3 b4).pg) q l d e p m) λE H Q h=>yX n (a [] 0 [] X.s₀ X.H₀).keep (a [] 0 [] X.s₀ X.H₀).len (OZ h)
def iR{f:MF1}(h:DE c X e f):DS c X (.Return (aa e) pos) (aT f):=PS.imp (uq h) λX4 E H i=>by
 have(Hf0,H0,Hf,M,o,g,a,k):=i;unfold aT at a
 cases b:f M with
 |none=>rw[b]at a;nomatch a
 |some d=>
  rw[b]at a;cases a;show(Hf0,H0,Hf,M,d,g,b,λv Hf' H' x r=>k v Hf' H' (g.ext.trans x) r)
def eM(f:MF1)(M:LS):Option Fl:=(f M).map λd=>.rtS d M
def GJ{f:MF1}(h:DE c X e f):DS c X (.Return (aa e) pos) (eM f):=PS.imp (uq h) λX4 E H i=>by
 have(Hf0,H0,Hf,M,o,g,a,k):=i;unfold eM at a
 cases b:f M with
 |none=>rw[b]at a;nomatch a
 |some d=>
  rw[b]at a;cases a;show(Hf0,H0,Hf,M,d,g,b,λv Hf' H' x r=>k v E Hf' H' (g.step x) r)
def jz(i:DO c X e f):DS c X (.Return (aa e) pos) (cx f):=PS.imp (uq i) λX4 E H n=>by
 have(Hf0,H0,Hf,M,o,g,a,k):=n;unfold cx at a
 cases b:f M with
 |none=>rw[b]at a;nomatch a
 |some d=>
  rw[b]at a;cases a;show(Hf0,H0,Hf,M,d,g,b,λl vs Hf' H' x hn j m r=>k l vs Hf' H' (g.ext.trans x) (g.ext.h.free hn) j m r)
def O1(h:PE X e (c8 i)):DS c X (.Return (aa e) pos) (fj i):=PS.imp (uq h) λX4 E H m=>by
 have(Hf0,H0,Hf,M,o,b,a,k):=m;unfold fj at a
 cases es:M[i]? with
 |none=>rw[es]at a;nomatch a
 |some s=>
  rw[es]at a
  cases s with
  |im d=>
   cases a;have(v,f,r):=b.imm es
   show(_,f,k v Hf H b.ext r)
  |own C=>
   cases a;have(l,f,g,j,vs,q,r):=b.ownAt rfl es
   show(_,f,k l vs Hf H b.ext g j q r)
  | _=>nomatch a
def O2(i:Nat)(b:autoParam (X.N[i]?=aa x) Zb)(hv:autoParam (Vis X.env.scope x) Ze)(hd:autoParam (NDb x) Zc)
 (a:autoParam (NCd x) Zc):DS c X (.Return (aa (.Name x p)) pos) (fj i):=O1 (m6 b hv hd a)
def eq{F:MF3}(hp:PassesOwn (model X.prog X.w) X.A X.env X.xe)(hc:X.calm=ac)(hi:DI c X tg iter fi)(hg:DG c X tg kk g)(hb:DSs c X a F)(hs:autoParam (∀x,lB iter X.env x=pure x) Zd):
  DS c X (.For tg iter a [] pos) (bR fi g F):=PS.imp (Fd hp hc hi hg.pg hb hs) λX4 E H q_=>by
 have(Hf0,H0,Hf,M,o,T,p,k):=q_;unfold bR at p
 cases v:fi M with
 |none=>rw[v]at p;nomatch p
 |some ds=>
  rw[v]at p;show(Hf0,H0,Hf,M,ds,T,v,λJ a4 H1 Q it=>?_);show(λi m σ' H'=>m=Z ds-i/\i<=Z ds/\∃Hf' ρ',av _ Hf0 H0 Hf' H' σ' ρ'/\aq a4 Hf'/\iQ g F (ds.drop i) ρ'=aa o,(Z ds,rfl,cr _,a4,M,T.step Q,aq.refl _,p),?_);rintro i m σ' H' ⟨rfl,hi',Hf',ρ',l,s1,em⟩;have(G,I):=it Hf' H' s1 l.sub i
  by_cases j:i<Z ds
  .have(d,Y,B):=yW j;have(go,yl):=G d Y;rw[B]at em;dsimp only[iQ]at em;show .inr (go,λr H2=>Z ds-_=Z ds-_/\i+1<=Z ds/\∃Hf' ρ',av _ Hf0 H0 Hf' H2 r ρ'/\aq a4 Hf'/\iQ g F _ ρ'=aa o,λr H2 w=>(Z ds-(i+1),by lia,w),λx H2 y=>?_);have(aG,U,rx):=yl x H2 y
   cases C:g d ρ' with
   |none=>rw[C]at em;nomatch em
   |some ρ1=>
    rw[C]at em;replace em:(F ρ1).bind _=_:=em
    cases z:F ρ1 with
    |none=>rw[z]at em;nomatch em
    |some o1=>
     rw[z]at em;show(Hf0,H0,aG,ρ',d,ρ1,l.step U,rx,C,λσ3 N=>(Hf0,H0,aG,ρ1,o1,N,z,?_));have L:=s1.trans U.f
     cases o1 with
     |nx h=>show λn b u q e=>(rfl,j,b,h,e,L.trans q,em)
     |ct h=>show λn b u q e=>(rfl,j,b,h,e,L.trans q,em)
     |bk h=>cases em;show λn b u q e=>k n b u ((Q.f.trans L).trans q) e
     |rt d=>cases em;show k
     |rtO d=>cases em;show k
     |rtS d h=>cases em;show k
     |rtT o'=>cases em;show k
  .have ei:i=Z ds:=by lia
   subst ei;rw[drop_eq_nil_of_le (aO _)]at em;cases em;show .inl (I rfl,k σ' Hf' H' (Q.f.trans s1) l)
def nH{F:MF3}(n:Nat)(G:PassesOwn (model X.prog X.w) X.A X.env X.xe)(C:DT c X cd t)(B:DSs c X a F):DS c X (.While cd a [] pos) (dB t F n):=PS.imp (Mc G C B) λX4 E H I=>by
 have(Hf0,H0,Hf,M,o,J,z,k):=I;show(λm σ' H'=>∃Hf' ρ',av _ Hf0 H0 Hf' H' σ' ρ'/\aq Hf Hf'/\dB t F m ρ'=aa o,(n,Hf,M,J,aq.refl _,z),?_);rintro m σ' H' ⟨Hf',ρ',i,s1,em⟩
 cases m with
 |zero=>nomatch em
 |succ m=>
  dsimp only[dB]at em
  cases v:t ρ' with
  |none=>rw[v]at em;nomatch em
  |some b=>
   rw[v]at em;show(Hf0,H0,Hf',ρ',b,i,v,λaG H2 q=>?_)
   cases b with
   |false=>
    cases em
    show k σ' aG H2 (s1.trans q.f) (i.step q)
   |true=>
    cases u:F ρ' with
    |none=>rw[u]at em;nomatch em
    |some o1=>
     rw[u]at em;show(λp y=>∃Hf' ρ',av _ Hf0 H0 Hf' y p ρ'/\aq Hf Hf'/\dB t F m ρ'=aa o,λp y w=>(m,di _,w),Hf0,H0,aG,ρ',o1,i.step q,u,?_);have x:=s1.trans q.f
     cases o1 with
     |nx h=>show λj e r l g=>(e,h,g,x.trans l,em)
     |ct h=>show λj e r l g=>(e,h,g,x.trans l,em)
     |bk h=>cases em;show λj e r l g=>k j e r (x.trans l) g
     |rt d=>cases em;show k
     |rtO d=>cases em;show k
     |rtS d h=>cases em;show k
     |rtT o'=>cases em;show k
def O3{F:MF3}{X4:jn}(h:tDS G (fM i F) X4 E H):tDS G F X4 E H:=by
 have(Hf0,H0,Hf,M,o,b,c,k):=h;unfold fM yZ at c;split at c
 .rename_i C es;have(l,e,f,a,vs,q,r):=b.ownAt rfl es;show(Hf0,H0,_,_,o,b.fixd (d:=.lst C) rfl es e q (l,vs,rfl,be,r.up (bU a)),c,k.up (bU a))
 .rename_i ks C es;have(l,e,f,a,vs,q,z,r):=b.ownAt rfl es;show(Hf0,H0,_,_,o,b.fixd (d:=.dic ks C) rfl es e q (l,vs,rfl,be,z,r.up (bU a)),c,k.up (bU a))
 .rename_i g ns C es;have(l,e,f,a,dx,vs,q,z,r):=b.ownAt rfl es;show(Hf0,H0,_,_,o,b.fixd (d:=.ins g ns C) rfl es e q (l,dx,vs,rfl,be,z,r.up (bU a)),c,k.up (bU a))
 .show(Hf0,H0,Hf,M,o,b,c,k)
def lQ{F:MF3}(i:Nat)(h:DS c X st F):DS c X st (fM i F):=PS.imp h λ_ _ _=>O3
def O4{f:MF1}(h:PS X st (m7 (tBM X.K "list" uB (c8 i) (jp (tD (Gx c X) f) ip)))):DS c X st (dE i f):=PS.imp h λX4 E H m=>by
 have(Hf0,H0,Hf,M,o,e,a,k):=m;unfold dE at a
 cases b:f M with
 |none=>rw[b]at a;nomatch a
 |some d=>
  rw[b]at a;split at a
  .rename_i C es;split at a
   .rename_i j;cases a;have(l,g,p,u,vs,q,r):=e.ownAt rfl es;show(_,g,.inl (rfl,_,SqL.of q),Hf0,H0,Hf,M,d,e,b,λv Hf' H' x n=>?_);show(l,vs,v,rfl,rfl,(x.h _ _ q),by rw[dJ,<- r.length];show j,k E Hf' _ x.f ((e.step x).mutd rfl rfl es g (vs++[v],be,(r.up x.f).append (.cons n .nil))))
   .nomatch a
  .nomatch a
def GK{f:MF1}(h:PS X st (m7 (tBM X.K "list" yt (c8 i) (jp (tD (Gx c X) f) ip)))):DS c X st (k4 i (kZ f)):=PS.imp h λX4 E H u=>by
 have(Hf0,H0,Hf,M,o,g,b,k):=u;unfold k4 kZ at b
 cases e:f M with
 |none=>rw[e]at b;nomatch b
 |some d=>
  rw[e]at b
  cases d with
  |lst ds=>
   replace b:(match M[i]? with |some (.own C)=>if Z C+Z ds<=16777216 then aa _ else ab | _=>ab)=aa o:=b
   split at b
   .rename_i C es;split at b
    .rename_i p;cases b;have(l,j,z,A,vs,q,r):=g.ownAt rfl es;show(_,j,.inl (rfl,_,SqL.of q),Hf0,H0,Hf,M,.lst ds,g,e,λv Hf' H' x y=>?_);have(a,us,n,w,m):=y;subst n;show(l,a,vs,us,rfl,rfl,(x.h _ _ q),x.s _ _ w,by rw[dJ,<- r.length,<- m.length];show p,k E Hf' _ x.f ((g.step x).mutd rfl rfl es j (vs++us,be,(r.up x.f).append m)))
    .grind
   .grind
  | _=>nomatch b
abbrev GL:Fl->OD
 |.rt d=>aa d
 |.rtO ds=>aa (.lst ds)
 |.rtS d _=>aa d
 |.nx _=>aa .non
 | _=>ab
def eN(n:Nat)(ds:LD):LS:=ds.map .im++hJ (n-Z ds) .no
def aL(n:Nat)(F:MF3)(ds:LD):OD:=(F (eN n ds)).bind GL
def jA(n:Nat)(F:MF3)(ds:LD):OLD:=(F (eN n ds)).bind λo=>match o with
 |.rtO ds=>aa ds
 | _=>ab
def spD(G:Gc)(n:Nat)(m:LD->OD):Sp:=λvs H Q _=>∃Hf ds d,aq Hf H/\am G Hf ds vs/\Z ds=n/\m ds=aa d/\∀v Hf' H',Ext Hf H Hf' H'->Rep G Hf' d v->Q v H'
def spO(G:Gc)(n:Nat)(m:LD->OLD):Sp:=λvs H Q _=>∃Hf ds B,aq Hf H/\am G Hf ds vs/\Z ds=n/\m ds=aa B /\
 ∀l us Hf' H',Ext Hf H Hf' H'->H l=ab->Hf' l=ab->H' l=aa (.lst us)->am G Hf' B us->Q (.ref l) H'
def av.start(h:aq Hf H)(r:am G Hf ds vs):av G Hf H Hf H (start N vs) (eN N.length ds):=by
 have im:∀i (s:Sl),(eN N.length ds)[i]?=aa s->s=.no\/∃d,ds[i]?=aa d/\s=.im d:=λi s b=>by
  unfold eN at b
  by_cases hi:i<Z ds
  .rw[mw (by simpa using hi)]at b;have(d,f,es):=nG b;show .inr (d,f,es)
  .rw[oK (by simpa using oT hi)]at b;have(_,e):=dh.mp b;rw[List.getElem_replicate]at e;show .inl e.symm
 show(Ext.refl h,by simp[L2.start,eN,r.length],λi v s a b=>?_,λi j s t v w l a b c d p q=>?_)
 .rcases im i s b with e |⟨d,f,es⟩
  .subst e;trivial
  .subst es;have(u,g,ru):=r.get f;show(u,?_,ru);unfold L2.start at a;rw[mw (by simpa using ((dh.mp g).1)),cz,g]at a;show(cP a).symm
 .rcases im i s a with e |⟨d,f,es⟩
  .subst e;show(p.calm rfl).elim
  .subst es;show(p.calm rfl).elim
variable{P:ci}{mg:MGT}{base:Heap}{n_:Nat}{qual:Str}{f:Addr}{fd:c6}{ps:LSt}
def aZ{k:Nat}{F:MF3}(q:Fun K x qual st f fd)(S:aB N ps (au st))
 (h:∀(cdv:Value) (A:ca) (outer:List Env) (s:ah) (H:Hp) (X4:XK),bD k (A.deeper (gg qual (au st) s.heap.objs.size f cdv))->DSs c (iL CX0 P w K mg base N qual (au st) f cdv A outer s H X4).nox (fW st) F)(i:autoParam (Z N=n_) Zb):
  cD P w K mg base CX0 (k+1) f fd ps (spD (K,c) ps.length (aL n_ F)):=by
 subst i;show q.ok S (λvs H Q X4 j=>by have(Hf,ds,d,p,r,a,_):=j;rw[<- r.length];show a) λcdv A outer s H vs Q X4 hr j=>?_;have(Hf,ds,d,p,r,a,e,b):=j;show(_,h cdv A outer s H X4 hr,?_);unfold aL at e
 cases g:F _ with
 |none=>rw[g]at e;nomatch e
 |some o=>
  rw[g]at e;show(Hf,H,Hf,_,o,av.start p r,g,?_)
  cases o with
  |nx M=>cases e;show λσ' Hf' H' _ m=>b _ Hf' H' m.ext rfl
  |bk M=>nomatch e
  |ct M=>nomatch e
  |rt d=>cases e;show b
  |rtO B=>cases e;show λl vs Hf' H' x hn n a r=>b _ _ H' (x.fix hn n a) (l,vs,rfl,be,r.up (bU n))
  |rtS d M=>cases e;show λv σ' Hf' H' m r=>b v Hf' H' m.ext r
  |rtT o=>nomatch e
def nI{k:Nat}{F:MF3}(l:Fun K x qual st f fd)(S:aB N ps (au st))
 (h:∀(cdv:Value) (A:ca) (outer:List Env) (s:ah) (H:Hp) (X4:XK),bD k (A.deeper (gg qual (au st) s.heap.objs.size f cdv))->DSs c (iL CX0 P w K mg base N qual (au st) f cdv A outer s H X4).nox (fW st) F)(b:autoParam (Z N=n_) Zb):
  cD P w K mg base CX0 (k+1) f fd ps (spO (K,c) ps.length (jA n_ F)):=by
 subst b;show l.ok S (λvs H Q X4 g=>by have(Hf,ds,d,j,r,i,_):=g;rw[<- r.length];show i) λcdv A outer s H vs Q X4 hr g=>?_;have(Hf,ds,B,j,r,i,e,m):=g;show(_,h cdv A outer s H X4 hr,?_);unfold jA at e
 cases a:F _ with
 |none=>rw[a]at e;nomatch e
 |some o=>
  rw[a]at e;show(Hf,H,Hf,_,o,av.start j r,a,?_)
  cases o with
  |rtO n=>cases e;show m
  | _=>nomatch e
variable{fa:MF2}{k0:Nat}
def O5{k:Nat}(pk:Pk X.prog X.w X.K X.mg X.base CX0 k x (f,fd,) ps (spD (Gx c X) ps.length m))(j:bD k0 X.A)(ha:DA c X (e::es) fa)(z:autoParam (Z (e::es)=Z ps) Zb)(a:autoParam (NDb x) Zc)(u:autoParam (StE X e es) Zb)(i:autoParam (BkE X pos es) Zb)(h:autoParam (k<=k0) Zc)(y:autoParam (Gl X x) Zi):
  DE c X (.Call (.Name x p) (e::es) [] pos) (aw m fa):=PE.imp (py pk.ok (j.mono h) y pk.g pk.kp pk.b .nil gq ha.pa a u i) λE H Q C=>by
 have(Hf0,H0,Hf,M,d,st,q,B):=C;have(ds,l,n):=yP q;show(Hf0,H0,Hf,M,ds,st,l,λvs Hf' H' x r=>?_);rw[bT];show(Hf',ds,d,x.s,r,(ha.len M ds l).trans z,n,λv aG H2 I G=>B v aG H2 (x.trans I) G)
def k5(m:LD->OLD)(f:MF2)(M:LS):OLD:=(f M).bind m
def O6{k:Nat}{m:LD->OLD}(pk:Pk X.prog X.w X.K X.mg X.base CX0 k x (f,fd,) ps (spO (Gx c X) ps.length m))(u:bD k0 X.A)(ha:DA c X (e::es) fa)(C:autoParam (Z (e::es)=Z ps) Zb)(i:autoParam (NDb x) Zc)(v:autoParam (StE X e es) Zb)(q:autoParam (BkE X pos es) Zb)(j:autoParam (k<=k0) Zc)(z:autoParam (Gl X x) Zi):
  DO c X (.Call (.Name x p) (e::es) [] pos) (k5 m fa):=PE.imp (py pk.ok (u.mono j) z pk.g pk.kp pk.b .nil gq ha.pa i v q) λE H Q I=>by
 have(Hf0,H0,Hf,M,B,st,a,G):=I;unfold k5 at a
 cases d:fa M with
 |none=>rw[d]at a;nomatch a
 |some ds=>
  rw[d]at a;show(Hf0,H0,Hf,M,ds,st,d,λvs Hf' H' x r=>?_);rw[bT];show(Hf',ds,B,x.s,r,(ha.len M ds d).trans C,a,λl us aG H2 L hn y n J=>G l us aG H2 (x.trans L) (x.h.free hn) y n J)
def nJ(m:LD->OD)(f:MF2)(M:LS):OD:=(f M).bind λds=>(m ds).bind λd=>if d.scalar then aa d else ab
def O7{k:Nat}(pk:Pk X.prog X.w X.K X.mg X.base CX0 k x (f,fd,) ps (spD (Gx c X) ps.length m))(u:bD k0 X.A)(ha:DAB c X (e::es) fa)(B:autoParam (Z (e::es)=Z ps) Zb)(l:autoParam (NDb x) Zc)(y:autoParam (StE X e es) Zb)(q:autoParam (BkE X pos es) Zb)(n:autoParam (k<=k0) Zc)(z:autoParam (Gl X x) Zi):
  DE c X (.Call (.Name x p) (e::es) [] pos) (nJ m fa):=PE.imp (py pk.ok (u.mono n) z pk.g pk.kp pk.b .nil gq ha.pa l y q) λE H Q I=>by
 have(Hf0,H0,Hf,M,d,st,a,G):=I;unfold nJ at a
 cases i:fa M with
 |none=>rw[i]at a;nomatch a
 |some ds=>
  rw[i]at a;replace a:(m ds).bind _=_:=a
  cases j:m ds with
  |none=>rw[j]at a;nomatch a
  |some d'=>
   rw[j]at a;replace a:(if d'.scalar=ac then aa d' else ab)=aa d:=a;split at a
   .rename_i C;cases a;show(Hf0,H0,Hf,M,ds,st,i,λvs Hf' H' x r=>?_);rw[bT];show(H',ds,_,aq.refl _,r,(ha.len M ds i).trans B,j,λv aG H2 L J=>G v Hf' H2 (x.trans (Ext.grow x.s L.h)) (J.sc C))
   .nomatch a
def GM{G:Gc}{H:Hp}{f:Str}{d:D}:∀{ns:LSt} {ds:LD} {vs:LVv},(ns.zip ds).lookup f=aa d->am G H ds vs->∃v,(ns.zip vs).lookup f=aa v/\Rep G H d v
 | [],_,_,e,_=>by simp at e
 |n::ns,[],_,e,_=>by simp at e
 |n::ns,x::ds,_,e,q4_=>by
  have(v,r,b,c,h2):=q4_;subst b;simp only[fF,mG]at e;simp only[fF,mG]
  cases a:f==n with
  |true=>rw[a]at e;cases e;show(v,rfl,c)
  |false=>rw[a]at e;show GM e h2
def pR{f:Str}:∀{ns:LSt} {vs:LVv},ns.contains f=af->(ns.zip vs).lookup f=ab
 | [],_,_=>by simp
 |n::ns,[],_=>by rfl
 |n::ns,v::vs,h=>by
  rw[contains_cons,Bool.or_eq_false_iff]at h;simp only[fF,mG,h.1];show pR h.2
abbrev O8(cn f:Str):D->OD
 |.ins a ns ds=>if a=cn then (ns.zip ds).lookup f else ab
 | _=>ab
def bg(cn f:Str)(m:MF1)(M:LS):OD:=(m M).bind (O8 cn f)
def aP(cn f:Str)(m:LD->OD)(fo:MF1)(fa:MF2)(M:LS):OD:=(fo M).bind λd=>match d with
 |.ins a ns ds=>if a=cn/\ns.contains f=af then (fa M).bind λas=>m (.ins a ns ds::as) else ab
 | _=>ab
variable{fl:Str}{fo:MF1}
def O9{o:Expr}(cn:Str)(l:Cls X.K (c cn))(hn:cR X.K (c cn) fl)(m:DE c X o fo)(j:autoParam (oY o fl X.env (eval o X.env)=eval o X.env) Zb):DE c X (.Attribute o fl pos) (bg cn fl fo):=
 PE.imp (Fv m j) λE H Q n=>by
  have(Hf0,H0,Hf,M,d,st,b,k):=n;unfold bg at b
  cases e:fo M with
  |none=>rw[e]at b;nomatch b
  |some y=>
   rw[e]at b
   cases y with
   |ins g ns ds=>
    replace b:(if g=cn then (ns.zip ds).lookup fl else ab)=aa d:=b;split at b
    .rename_i f;subst f;show(Hf0,H0,Hf,M,_,st,e,λv Hf' H' x r=>?_);have(a,dx,vs,i,q,p,B):=r;have(u,h,ru):=GM b B;show(a,c g,dx,ns.zip vs,u,i,x.s _ _ q,l,hn,h,k u Hf' H' x ru)
    .grind
   | _=>nomatch b
variable{apos:Pos}{pl:Sem Bool}
def Pa{k:Nat}{o:Expr}(cn:Str)(Y:DE c X o fo)(pk:Pm X.prog X.w X.K X.mg X.base CX0 k (c cn) fl (f,fd,) ps (spD (Gx c X) ps.length m))(C:bD k0 X.A)(ha:DA c X (e::es) fa)(U:autoParam (Z (e::es)+1=Z ps) Zb)(G:autoParam (StE X e es) Zb)(z:autoParam (BkE X pos es) Zb)(ht:autoParam (eval (.Call (.Attribute o fl apos) (e::es) [] pos) X.env=(do
   let ov <- eval o X.env
   gJ apos.atName
   let (f,first,) <- eZ [ov] (hZ ov fl pl)
   jX pos f first (cj pos (aQ (e::es) X.env)) (iH pos (iG [] X.env)))) Zb)(n:autoParam (k<=k0) Zc):
  DE c X (.Call (.Attribute o fl apos) (e::es) [] pos) (aP cn fl m fo fa):=PE.imp (ym Y pk.c pk.m pk.ok (C.mono n) pk.b .nil gq ha.pa G z ht) λE H Q q_=>by
 have(Hf0,H0,Hf,M,d,st,g,kq):=q_;unfold aP at g
 cases j:fo M with
 |none=>rw[j]at g;nomatch g
 |some y=>
  rw[j]at g
  cases y with
  |ins J ns ds=>
   replace g:(if J=cn/\ns.contains fl=af then (fa M).bind λas=>m _ else ab)=aa d:=g;split at g
   .rename_i l;have(rfl,p):=l
    cases h:fa M with
    |none=>rw[h]at g;nomatch g
    |some as=>
     rw[h]at g;show(Hf0,H0,Hf,M,_,st,j,λv Hf' H' x r=>?_);have(a,dx,vs,T,q,L,B):=id r;show(a,dx,ns.zip vs,T,x.s _ _ q,pR p,Hf0,H0,Hf',M,as,st.step x,h,λws aG H2 I r2=>?_);rw[bT];show(aG,.ins J ns ds::as,d,I.s,.cons (r.up I.f) r2,by rw[cB,ha.len M as h];show U,g,λu i N x3 r3=>kq u i N ((x.trans I).trans x3) r3)
   .nomatch g
  | _=>nomatch g
def Pb{k:Nat}{o:Expr}(cn:Str)(J:DE c X o fo)(pk:Pm X.prog X.w X.K X.mg X.base CX0 k (c cn) fl (f,fd,) ps (spD (Gx c X) ps.length m))(n:bD k0 X.A)(I:autoParam (1=Z ps) Zb)(L:autoParam (eval (.Call (.Attribute o fl apos) [] [] pos) X.env=(do
   let ov <- eval o X.env
   gJ apos.atName
   let (f,first,) <- eZ [ov] (hZ ov fl pl)
   jX pos f first (cj pos (aQ [] X.env)) (iH pos (iG [] X.env)))) Zb)(j:autoParam (k<=k0) Zc):
  DE c X (.Call (.Attribute o fl apos) [] [] pos) (aP cn fl m fo λ_=>aa []):=PE.imp (yn J pk.c pk.m pk.ok (n.mono j) pk.b .nil gq L) λE H Q T=>by
 have(Hf0,H0,Hf,M,d,st,e,N):=T;dsimp only[aP]at e
 cases h:fo M with
 |none=>rw[h]at e;nomatch e
 |some y=>
  simp only[h]at e
  cases y with
  |ins C ns ds=>
   replace e:(if C=cn/\ns.contains fl=af then (aa []).bind λas=>m _ else ab)=aa d:=e;split at e
   .rename_i i;have(rfl,l):=i;show(Hf0,H0,Hf,M,_,st,h,λv Hf' H' x r=>?_);have(a,dx,vs,G,q,p,B):=id r;show(a,dx,ns.zip vs,G,x.s _ _ q,pR l,(Hf',_,d,x.s,.cons r .nil,I,e,λu g z Y U=>N u g z (x.trans Y) U))
   .nomatch e
  | _=>nomatch e
abbrev uZ:List (Str×(MF1))->LS->LSt->LD->Option (LSt×LD)
 | [],_,ns,ds=>aa (ns,ds,)
 |(f,m,)::r,M,ns,ds=>(m M).bind λd=>if ns.contains f then ab else uZ r M (ns++[f]) (ds++[d])
def Pc(G:Gc)(cn:Str)(fs:List (Str×(MF1))):TS:=λX4 E H=>∃x dx Hf0 H0 Hf M ns us ds r,E[0]?=aa (aa (.ref x))/\(∀s∈M,Sl.calm s=ac)/\av G Hf0 H0 Hf H E M/\H0 x=ab/\Hf x=ab /\
 H x=aa (.ins (G.cl cn) dx (ns.zip us))/\Z ns=Z us/\Z ns+Z fs<=900/\am G Hf ds us/\uZ fs M ns ds=aa r /\
 ∀a Hf' H',Ext Hf0 H0 Hf' H'->Hf' x=ab->H' x=aa (.ins (G.cl cn) dx (r.1.zip a))->Z r.1=Z a->am G Hf' r.2 a->X4.nx E H'
def DSI(c:Str->Addr)(X:Cx)(cn:Str)(sts:List Stmt)(fs:List (Str×(MF1))):Prop:=PSs X sts (Pc (Gx c X) cn fs)
def rR{f:Str}{v:V}:∀{ns:LSt} {us:LVv},Z ns=Z us->ns.contains f=af->dA f v (ns.zip us)=(ns++[f]).zip (us++[v])
 | [],[],_,_=>rfl
 |n::ns,u::us,hl,h=>by
  rw[contains_cons,Bool.or_eq_false_iff]at h;have a:¬(n=f):=λz=>by rw[z,beq_self_eq_true]at h;cases h.1
  rw[fF];unfold dA
  first
   |(rw[if_neg a,rR (by simpa using hl) h.2];rfl)
   |(rw[if_neg _,rR (by simpa using hl) h.2];rfl)
   |(rw[if_neg (by simpa using a),rR (by simpa using hl) h.2];rfl)
   |(rw[if_neg (by simpa using λz=>a _),rR (by simpa using hl) h.2];rfl)
 | [],_::_,hl,_=>by cases hl
 | _::_,[],hl,_=>by cases hl
def u3{cn:Str}:DSI c X cn [] []:=PSs.imp E9 λX4 E H q=>by
 have(x,dx,Hf0,H0,Hf,M,ns,us,ds,r,e0,no,e,f,a,d,b,hz,rd,em,k):=q;cases em;show k us Hf H e.ext a d b rd
variable{m:MF1}{fs:List (Str×(MF1))}
def pS{cn:Str}{o:Expr}(L:Cls X.K (c cn))(hn:cR X.K (c cn) fl)(T:PE X o (c8 0))(N:DE c X e m)(h:DSI c X cn sts fs)(A:autoParam (gh e (aa (.Attribute o fl bm)) pos.line X.env=pure af) Zb):
  DSI c X cn (.Assign [.Attribute o fl bm] e pos::sts) ((fl,m,)::fs):=PSs.imp (um (yh T N A) h) λX4 E H q=>by
 have(x,dx,Hf0,H0,Hf,M,ns,us,ds,r,e0,no,J,C,Q,I,G,hz,rd,em,k):=q;unfold uZ at em
 cases z:m M with
 |none=>rw[z]at em;nomatch em
 |some d=>
  rw[z]at em;split at em
  .grind
  .rename_i l;have l:ns.contains fl=af:=by grind
   show(Hf0,H0,Hf,M,d,J,z,λv Hf' H' y U=>(_,e0,x,c cn,dx,ns.zip us,rfl,y.h _ _ I,L,hn,?_,?_))
   .grind
   .have j:Hf' x=ab:=by rw[y.n _ _ I rfl];show Q
    have g:=J.step y
    have B:av (Gx c X) Hf0 H0 Hf' (upd H' x (.ins (c cn) dx (dA fl v (ns.zip us)))) E M:=by
     show g.re (g.ext.f,λb u e=>?_,λb u e=>?_,g.ext.n) rfl (λi w s a b=>?_) λi s w a b _ p=>(p.calm (no s (dX b))).elim
     .rw[aN (fL e C)];show g.ext.h b u e
     .rw[aN (fL e j)];show g.ext.s b u e
     .have A:=no s (dX b);have q:=g.at' i w s a b
      cases s with
      |no=>trivial
      |im d=>show q
      | _=>nomatch A
    show(x,dx,Hf0,H0,Hf',M,ns++[fl],us++[v],ds++[d],r,e0,no,B,C,j,?_,by rw[aV,aV,G];rfl,by rw[cB]at hz;rw[aV,gc];lia,(rd.up y.f).append (.cons U .nil),em,k);rw[be,rR G l]
def del(H:Hp)(x:Addr):Hp:=λb=>if b=x then ab else H b
def GN{x:Addr}:del H x x=ab:=if_pos rfl
def GO{x b:Addr}(h:b≠x):del H x b=H b:=if_neg h
abbrev rS(n:Nat)(fs:List (Str×(MF1)))(as:LD):Option (LSt×LD):=uZ fs (.no::(as.map .im++hJ (n-1-Z as) .no)) [] []
def spI(G:Gc)(cn:Str)(n:Nat)(m:LD->Option (LSt×LD)):Sp:=λvs H Q _=>∃x dx Hf as a r,vs=.ref x::a/\H x=aa (.ins (G.cl cn) dx [])/\Hf x=ab/\aq Hf H/\am G Hf as a/\Z as+1=n/\m as=aa r /\
 ∀us Hf' H',Ext Hf (del H x) Hf' H'->Hf' x=ab->H' x=aa (.ins (G.cl cn) dx (r.1.zip us))->Z r.1=Z us->am G Hf' r.2 us->Q .non H'
def u4{x qual cn:Str}{k:Nat}(G:Fun K x qual st f fd)(S:aB N ps (au st))
 (h:∀(cdv:Value) (A:ca) (outer:List Env) (s:ah) (H:Hp) (X4:XK),bD k (A.deeper (gg qual (au st) s.heap.objs.size f cdv))->DSI c (iL CX0 P w K mg base N qual (au st) f cdv A outer s H X4).nox cn (fW st) fs)
 (hz:autoParam (Z fs<=900) Zc)(y:autoParam (Z N=n_) Zb):cD P w K mg base CX0 (k+1) f fd ps (spI (K,c) cn ps.length (rS n_ fs)):=by
 subst y;show G.ok S (λvs H Q X4 q=>by have(x,dx,Hf,as,z,r,n,_,_,_,g,E,_):=q;subst n;rw[cB,<- g.length];show E) λcdv A outer s H vs Q X4 hr q=>(_,h cdv A outer s H X4 hr,?_);have(x,dx,Hf,as,z,r,n,U,M,s0,g,E,e,Y):=q;subst n;have la:=g.length
 have im:∀i s,(Sl.no::(as.map Sl.im++hJ (Z N-1-Z as) .no))[i]?=aa s->s=.no\/∃d j,i=j+1/\as[j]?=aa d/\s=.im d:=λi s b=>by
  cases i with
  |zero=>left;simpa using b.symm
  |succ i=>
   rw[g8]at b
   by_cases hi:i<Z as
   .rw[mw (by simpa using hi)]at b;have(d,m,es):=nG b;show .inr (d,i,rfl,m,es)
   .rw[oK (by simpa using oT hi)]at b;have(_,e):=dh.mp b;rw[List.getElem_replicate]at e;show .inl e.symm
 have no:∀s∈_,Sl.calm s=ac:=λs T=>by
  have(i,hi):=oN T
  rcases im i s hi with e |⟨d,_,_,_,e⟩ <;> (subst e;rfl)
 show(x,dx,Hf,del H x,Hf,_,[],[],[],r,rfl,no,((aq.refl _,λb o e=>?_,s0,λ_ _ _ _=>rfl),?_,λi v s a b=>?_,λi j s t v w l a b _ _ p _=>((p.calm (no s (dX a))).elim)),GN,M,U,rfl,by simpa using hz,rfl,e,λus Hf' H' xx I h2 J L=>Y us Hf' H' xx I h2 J L)
 .by_cases C:b=x
  .subst C;rw[GN]at e;nomatch e
  .rw[GO C]at e;show e
 .unfold L2.start;simp only[aV,az,cB,mx]
  lia
 .rcases im i s b with e |⟨d,j,ei,m,es⟩
  .subst e;trivial
  .subst es ei;have(u,B,ru):=g.get m;show(u,?_,ru);unfold L2.start at a;rw[bO,ly,g8,mw (by simpa using ((dh.mp B).1)),cz,B]at a;show(cP a).symm
def iS(cn:Str)(m:LD->Option (LSt×LD))(fa:MF2)(M:LS):OD:=(fa M).bind λas=>(m as).map λr=>.ins cn r.1 r.2
def pT{k:Nat}{m:LD->Option (LSt×LD)}(cn:Str)(U:Mk X.K (c cn) f)(F:cD X.prog X.w X.K X.mg X.base CX0 k f fd ps (spI (Gx c X) cn ps.length m))(hr:bD (k+1) X.A)(hg:Gl X x)(hm:X.mg x=aa (.ref (c cn)))(Y:dZ X.K fd ps [])(ha:DA c X (e::es) fa)
 (hl:autoParam (Z (e::es)+1=Z ps) Zb)(G:autoParam (NDb x) Zc)(he:autoParam (StE X e es) Zb)(I:autoParam (BkE X pos es) Zb):
  DE c X (.Call (.Name x p) (e::es) [] pos) (iS cn m fa):=PE.imp (Fx U F hr hg hm Y .nil gq ha.pa G he I) λE H Q q_=>by
 have(Hf0,H0,Hf,M,d,st,a,kq):=q_;unfold iS at a
 cases j:fa M with
 |none=>rw[j]at a;nomatch a
 |some as=>
  rw[j]at a;replace a:(m as).map _=_:=a
  cases C:m as with
  |none=>rw[C]at a;nomatch a
  |some r=>
   rw[C]at a;cases a;show(Hf0,H0,Hf,M,as,st,j,λvs Hf' H' B rv y dx v L N=>?_);rw[bT];have hy:(upd H' dx (.own y)) y=ab:=by rw[aN N.symm];show v
   have s1:aq H' (upd H' dx (.own y)):=bU L;have s2:=s1.trans (bU (o:=.ins (c cn) dx []) hy)
   have T:aq H' (del _ y):=λb u q=>by
    have:=fL q v;rw[GO this];show s2 b u q
   show(y,dx,Hf',as,vs,r,rfl,be,B.s.free v,B.s.trans s2,rv,by rw[ha.len M as j];show hl,C,λus aG H2 z g J i r2=>(rfl,?_));have x3:Ext Hf' H' aG H2:=(z.f,T.trans z.h,z.s,λl u q t=>z.n l u (T l u q) t);show kq _ _ H2 ((B.trans x3).fix (B.h.free v) g J) (y,dx,us,rfl,be,i,r2.up (bU g))
variable{r:Option Fl}
def j8{F F':MF3}(h:F M=aa (.nx ρ'))(h':F' ρ'=r):ai F F' M=r:=by
 unfold ai;rw[h];show h'
def u5{F F':MF3}(h:F M=aa (.rt d)):ai F F' M=aa (.rt d):=by
 unfold ai;rw[h];rfl
def u6{F F':MF3}(h:t M=aa ac)(h':F M=r):aY t F F' M=r:=by
 unfold aY;rw[h];show h'
def nK{F F':MF3}(h:t M=aa af)(h':F' M=r):aY t F F' M=r:=by
 unfold aY;rw[h];show h'
def GP{f:MF1}(h:f M=aa d):a9 i f M=aa (.nx (M.set i (.im d))):=by
 unfold a9;rw[h];rfl
def Pd{f:MF2}{d:LD}(h:f M=aa d):dq i f M=aa (.nx (M.set i (.own d))):=by
 unfold dq;rw[h];rfl
def cU{f:MF1}(h:f M=aa d):aT f M=aa (.rt d):=by
 unfold aT;rw[h];rfl
def cV{F:MF3}(h:F (eN n ds)=aa (.rt d)):aL n F ds=aa d:=by
 unfold aL;rw[h];rfl
def lR{F:MF3}{d:LD}(h:F (eN n ds)=aa (.rtO d)):aL n F ds=aa (.lst d):=by
 unfold aL;rw[h];rfl
def aH{m:LD->OD}{f:MF2}(h:f M=aa ds)(h':m ds=aa d):aw m f M=aa d:=by
 unfold aw;rw[h];show h'
def u7{a:Type}{h:D->Option OD}(f:a->D)(p:a->Bool)(q:a->D):∀(C:List a),(∀x∈C,h (f x)=aa (if p x then aa (q x) else ab))->fh h (C.map f)=aa ((C.filter p).map q)
 | [],_=>rfl
 |x::C,hh=>by
  rw[bO];unfold fh;rw[hh x aA,u7 f p q C λy b=>hh y (bp _ b)]
  grind
def Pe{a:Type}{h:D->Option OD}(f:a->D)(q:a->D)(C:List a)(b:∀x∈C,h (f x)=aa (aa (q x))):fh h (C.map f)=aa (C.map q):=by
 have:=u7 f (λ_=>ac) q C λx c=>(b x c).trans rfl;rw[this,filter_eq_self.mpr λ_ _=>rfl]
def fm{a:Type}{k:Nat}(C:List a)(f:a->D)(p:a->Bool)(q:a->D)
 (hi:fi M=aa (C.map f))(hz:Z C<=16777216)(b:∀x∈C,gQ g ft fe (iP k js M) (f x)=aa (if p x then aa (q x) else ab)):bu k js fi g ft fe M=aa ((C.filter p).map q):=by
 unfold bu;rw[hi];change(if Z (C.map f)<=16777216 then _ else ab)=_;rw[az,if_pos hz];show u7 f p q C b
def gt{a:Type}{k:Nat}(C:List a)(f:a->D)(q:a->D)
 (hi:fi M=aa (C.map f))(hz:Z C<=16777216)(b:∀x∈C,gQ g ft fe (iP k js M) (f x)=aa (aa (q x))):bu k js fi g ft fe M=aa (C.map q):=by
 unfold bu;rw[hi];change(if Z (C.map f)<=16777216 then _ else ab)=_;rw[az,if_pos hz];show Pe f q C b
def GQ{d:Type}{g:D->LS->Option LS}{F:MF3}(f:d->D)(I:List d->LS->Prop):∀(post pre:List d) (M:LS),I pre M ->
  (∀a x c M,pre++post=a++x::c->I a M->∃ρ1 b,g (f x) M=aa ρ1/\(F ρ1=aa (.nx b)\/F ρ1=aa (.ct b))/\I (a++[x]) b)->∃ρ',iQ g F (post.map f) M=aa (.nx ρ')/\I (pre++post) ρ'
 | [],pre,M,h,_=>(M,rfl,by rw[bT];show h)
 |x::post,pre,M,h,hs=>by
  have(ρ1,b,i,j,h2):=hs pre x post M rfl h;have(ρ',l,e):=GQ f I post _ b h2 (by rw[cO];show hs);show(ρ',?_,by rw[cO]at e;show e);rw[bO];unfold iQ
  grind
def Pf{b:Type}{F:MF3}(C:List b)(f:b->D)(I:List b->LS->Prop)(hi:fi M=aa (C.map f))(c:I [] M)
 (d:∀pre x post M,C=pre++x::post->I pre M->∃ρ1 a,g (f x) M=aa ρ1/\(F ρ1=aa (.nx a)\/F ρ1=aa (.ct a))/\I (pre++[x]) a):∃ρ',bR fi g F M=aa (.nx ρ')/\I C ρ':=by
 unfold bR;rw[hi];show GQ f I C [] M c d
def Pg(lo:Int)(n:Nat):rng lo n=(bI n).map λ(i:Nat)=>D.int (lo+i):=rfl
def Ph{ns:LI0}:jx [.lst (ns.map D.int)]=aa (.int ns.sum):=by
 change(gP _).map _=_;rw[OJ];rfl
variable{i:Int}
def lS{b:Type}{f:b->D}{C:List b}(c:0<=i)(d:i<Z C):∃x,C[S i]?=aa x/\atI (C.map f) i=aa (f x):=by
 have a:S i<Z C:=by lia
 show(C[S i],by simp[a],?_);have:=Ni (C:=C.map f) (j:=S i) (v:=f C[S i]) (by simp[a]);rw[show i.toNat=i by lia]at this;show this
def lT{a:Type}{f:a->D}{C:List a}(d:a)(e:0<=i)(g:i<Z C):atI (C.map f) i=aa (f (C.getD i.toNat d)):=by
 have(x,b,c):=lS e g;rw[c,bE,b];rfl
abbrev eO:Nat->D->Prop
 | 0,_=>False
 |n+1,d=>match d with
  |.lst C=>∀x∈C,eO n x
  |.tup C=>∀x∈C,eO n x
  |d=>d.scalar=ac
def y6{f:D->D->Option Bool}:∀(C:LD),(∀x∈C,f x x=aa ac)->cJ f C C=aa ac
 | [],_=>rfl
 |x::C,h=>by
  unfold cJ;rw[h x aA,y6 C λy a=>h y (bp _ a)];rfl
def y7:∀(n:Nat) (d:D),eO n d->deq n d d=aa ac
 | 0,_,h=>h.elim
 |n+1,d,h=>by
  cases d with
  |lst C=>
   change(if Z C=Z C then cJ _ C C else aa af)=_;rw[if_pos rfl]
   show y6 C λx a=>y7 n x (h x a)
  |tup C=>
   change(if Z C=Z C then cJ _ C C else ab)=_;rw[if_pos rfl]
   show y6 C λx a=>y7 n x (h x a)
  |non=>rfl
  |bl b=>change aa (b==b)=_;rw[beq_self_eq_true]
  |int b=>change aa (b==b)=_;rw[beq_self_eq_true]
  |str b=>change aa (b==b)=_;rw[beq_self_eq_true]
  | _=>cases h
def eO.mono:∀(n:Nat) (d:D),eO n d->eO (n+1) d
 | 0,_,h=>h.elim
 |n+1,d,h=>by
  cases d with
  |lst C=>show λx a=>eO.mono n x (h x a)
  |tup C=>show λx a=>eO.mono n x (h x a)
  | _=>show h
def eO.le{m:Nat}(h:eO n d)(hm:n<=m):eO m d:=by
 induction hm with
 |refl=>show h
 |step _ a=>show eO.mono _ _ a
def Pi(h:eO 20 d):dNe d d=aa (.bl af):=by
 unfold dNe;rw[y7 20 d h];rfl
def lU(i j:Int):dEq (.int i) (.int j)=aa (.bl (i==j)):=rfl
def rT(i j:Str):dEq (.str i) (.str j)=aa (.bl (i==j)):=rfl
def Pj(i j:Bool):dEq (.bl i) (.bl j)=aa (.bl (i==j)):=rfl
def Pl(i j:Int):dNe (.int i) (.int j)=aa (.bl (!(i==j))):=rfl
def Pn(i j:Str):dNe (.str i) (.str j)=aa (.bl (!(i==j))):=rfl
variable{f:MF1}
def ao{m:D->D->OD}{g:MF1}{x:D}(a:f M=aa x)(h2:g M=aa y)(b:m x y=aa d):m2 m f g M=aa d:=by
 unfold m2;rw[a,h2];show b
variable{b:Bool}
def bA(h:f M=aa (.bl b)):mB f M=aa b:=by
 unfold mB;rw[h];rfl
def cy(h:f M=aa d)(h':nu d=aa b):bx f M=aa b:=by
 unfold bx;rw[h];show h'
variable{f:MF4}
def jB(h:f M=aa b):dN f M=aa (!b):=by
 unfold dN;rw[h];rfl
variable{g:MF4}
def Po{r:Option Bool}(h:f M=aa ac)(h':g M=r):da f g M=r:=by
 unfold da;rw[h];show h'
def Pp(h:f M=aa af):da f g M=aa af:=by
 unfold da;rw[h];rfl
def Pq(h:f M=aa ac):mOr f g M=aa ac:=by
 unfold mOr;rw[h];rfl
def Ps{r:Option Bool}(h:f M=aa af)(h':g M=r):mOr f g M=r:=by
 unfold mOr;rw[h];show h'
variable{a:Bool}
def iq(h:f M=aa a)(h':g M=aa b):da f g M=aa (a && b):=by
 cases a with
 |true=>show Po h h'
 |false=>show Pp h
def iT(h:f M=aa a)(h':g M=aa b):mOr f g M=aa (a || b):=by
 cases a with
 |true=>show Pq h
 |false=>show Ps h h'
variable{f:MF1}
def rV{g:MF1}(h:f M=aa (.bl a))(h':g M=aa (.bl b)):j6 f g M=aa (.bl (a && b)):=by
 unfold j6;rw[bA h]
 grind
def u8{g:MF1}(h:f M=aa (.bl a))(h':g M=aa (.bl b)):vOr f g M=aa (.bl (a || b)):=by
 unfold vOr;rw[bA h]
 grind
def Pt(h:f M=aa (.bl a)):j7 f M=aa (.bl (!a)):=by
 unfold j7;rw[bA h];rfl
def ap{g:MF2}(h:f M=aa d)(h':g M=aa ds):ag f g M=aa (d::ds):=by
 unfold ag;rw[h,h'];rfl
variable{f:MF2}
def dC(h:f M=aa ds):bC f M=aa (.tup ds):=by
 unfold bC;rw[h];rfl
def bV(h:f M=aa ds):aR f M=aa (.lst ds):=by
 unfold aR;rw[h];rfl
def bj{g:MF1}{r:OD}(h:f M=aa ds)(h':g M=aa (.int i))(h2:atI ds i=r):mIx f g M=r:=by
 unfold mIx;rw[h,h'];show h2
def pU{X5:Int->Int->Prop}[∀i j,Decidable (X5 i j)]{g:Int->Int->D}{j:Int}(h:X5 i j):dI X5 g (.int i) (.int j)=aa (g i j):=by
 change(if X5 i j then aa _ else ab)=_;rw[if_pos h]
variable{f:MF1}
def Pu{i:Nat}(h:f M=aa d)(h':M[i]?=aa (.own C))(a:Z C<16777216):dE i f M=aa (.nx (M.set i (.own (C++[d])))):=by
 unfold dE;rw[h,h'];change(if Z C<16777216 then _ else ab)=_;rw[if_pos a]
variable{ρ1:LS}
def dS{g:D->LS->Option LS}(a:g d M=aa ρ1)(h2:ft ρ1=aa b)(c:b=ac->fe ρ1=aa y):gQ g ft fe M d=aa (if b then aa y else ab):=by
 unfold gQ
 grind
def fZ{g:D->LS->Option LS}(a:g d M=aa ρ1)(h2:ft ρ1=aa ac)(b:fe ρ1=aa y):gQ g ft fe M d=aa (aa y):=dS a h2 λ_=>b
def eB(h:f M=aa d)(h':iN d=aa ds):aW f M=aa ds:=by
 unfold aW;rw[h];show h'
variable{g:MF1}
def dU(h:f M=aa d):bi f g M=aa d:=by
 unfold bi;rw[h];rfl
def bK{r:OD}(h:f M=ab)(h':g M=r):bi f g M=r:=by
 unfold bi;rw[h];show h'
def rW{f:MF2}{n:Int}(h:f M=aa [.int n])(b:0<=n)(a:n<2 ^ 62):iO f M=aa ((bI (S n)).map λ(i:Nat)=>D.int i):=by
 unfold iO;rw[h];change(if -_<=n/\n<2 ^ 62 then aa _ else ab)=_;rw[if_pos (by lia,a),Pg]
 grind
variable{m:LD->OD}{ns:LSt}
def cE{cn f:Str}{as:LD}(h:fo M=aa (.ins cn ns ds))(hn:ns.contains f=af)(h':fa M=aa as):aP cn f m fo fa M=m (.ins cn ns ds::as):=by
 unfold aP
 grind
def bL{cn f a:Str}(h:fo M=aa (.ins a ns ds))(hn:a≠cn):aP cn f m fo fa M=ab:=by
 unfold aP
 grind
def itD(z:Int×Int):D:=.tup [.int z.1,.int z.2]
abbrev shD:Option Bool->D
 |none=>.non
 |some b=>.bl b
def InN(n:Nat)(L:LII):Prop:=∀z∈L,0<=z.1/\z.1<(n:Int)/\0<=z.2
def Pw(z:Int×Int):eO 2 (itD z):=λx a=>by
 simp only[bc,cG,or_false]at a
 rcases a with rfl |rfl <;> show rfl
def GR(L:LII):eO 3 (.lst (L.map itD)):=λx a=>by
 have(z,_,rfl):=aM.mp a;show Pw z
def jC{es:LOB}(a:0<=i)(b:i<Z es):atI (es.map shD) i=aa (shD (es.getD i.toNat ab)):=lT ab a b
def j9{es:LB0}(a:0<=i)(b:i<Z es):atI (es.map D.bl) i=aa (.bl (es.getD i.toNat af)):=lT af a b
def pV(e:Option Bool)(b:Bool):dIs (shD e) (.bl b)=aa (.bl (e==aa b)):=by
 cases e with
 |none=>rfl
 |some c=>cases b <;> cases c <;> rfl
def GS(e:Option Bool)(b:Bool):fY (shD e) (.bl b)=aa (.bl (!(e==aa b))):=by
 cases e with
 |none=>rfl
 |some c=>cases b <;> cases c <;> rfl
abbrev Prt.toD:Prt->D
 |.inn t=>.tup [.str "in",.int t]
 |.out t=>.tup [.str "out",.int t]
 |.least k L=>.tup [.str "least",.int k,.lst (L.map itD)]
 |.most k L=>.tup [.str "most",.int k,.lst (L.map itD)]
abbrev Prt.obj:Prt->D
 |.inn t=>.ins "In" ["thing"] [.int t]
 |.out t=>.ins "Out" ["thing"] [.int t]
 |.least k L=>.ins "Least" ["bound","pieces"] [.int k,.lst (L.map itD)]
 |.most k L=>.ins "Most" ["bound","pieces"] [.int k,.lst (L.map itD)]
abbrev Prt.Ok(n:Nat):Prt->Prop
 |.inn t=>0<=t/\t<(n:Int)
 |.out t=>0<=t/\t<(n:Int)
 |.least _ L=>InN n L/\Z L<=100000
 |.most _ L=>InN n L/\Z L<=100000
def Px(p:Prt):eO 4 p.toD:=by
 cases p with
 |inn t=>intro x a;simp only[bc,cG,or_false]at a;rcases a with rfl |rfl <;> show rfl
 |out t=>intro x a;simp only[bc,cG,or_false]at a;rcases a with rfl |rfl <;> show rfl
 |least k L=>
  intro x a;simp only[bc,cG,or_false]at a
  rcases a with rfl |rfl |rfl
  .show rfl
  .show rfl
  .show GR L
 |most k L=>
  intro x a;simp only[bc,cG,or_false]at a
  rcases a with rfl |rfl |rfl
  .show rfl
  .show rfl
  .show GR L
def Py(p:Int->Bool)(L:LII):((L.filter λz=>p z.1).map λz=>D.int z.2)=((L.filter λz=>p z.1).map (·.2)).map D.int:=by
 rw[map_map];rfl
def y8(p:Int->Bool)(L:LII):jx [.lst ((L.filter λz=>p z.1).map λz=>D.int z.2)]=aa (.int (bQ p L)):=by
 rw[Py,Ph];rfl
def y9:∀{bs:LB0} {us:LVa},aI (bs.map V.bl) us->us=bs.map iI
 | [],_,.nil=>rfl
 |b::bs,_,.cons r t=>by
  rw[y9 t];cases (r);rfl
def Pz(bs:LB0):((bI (Z bs)).all λi=>(bs[i]?).getD ac)=bs.all id:=by
 rw[iD,all_eq_true,all_eq_true];constructor
 .intro h b c;have(i,hi,e):=List.getElem_of_mem c
  simp_all
 .intro h i hi;have a:=fG.mp hi;simp only[b7 a];show h _ (g9 a)
def PB(bs:LB0):((bI (Z bs)).any λi=>(bs[i]?).getD af)=bs.any id:=by
 rw[iD,any_eq_true,any_eq_true];constructor
 .rintro⟨i,hi,e⟩;have a:=fG.mp hi;simp only[b7 a]at e;show(_,g9 a,e)
 .rintro⟨b,c,e⟩;have(i,hi,rfl):=List.getElem_of_mem c;show(i,fG.mpr hi,by simp only[b7 hi];show e)
def GT{h:Heap}{o:Obj}(a:∀b x,b∉[h.objs.size]->(h.push o).get? b=aa x->h'.get? b=aa x):∀b x,h.get? b=aa x->h'.get? b=aa x:=
 λb x e=>a b x (λhm=>by rw[bv.mp hm]at e;show gH _ (bF e)) (bG _ e)
def PD(j:X.calm=ac):io X (.builtin "all") (λC H Q=>∃(p:Addr) (bs:LB0),C=[.ref p]/\SqL X.K H p (bs.map V.bl)/\Q (.bl (bs.all id)) H):=by
 intro U s E H C us Q I r h;have(l,bs,rfl,n,q):=h;have(u,rfl,x):=lM r;subst x;have(L,w,pl,hz):=I.list n;have e:=y9 w;subst e;have c:=pl.isList;have d:l<s.heap.objs.size:=by have(_,e,_):=c;show bF e
 show call_all_walk (t8 c ?_)
 show(s.heap.objs.size,_,_,(bs.map iI).toArray.size,_,_,λi=>(bs[i]?).getD ac,rfl,Walks.list (A:=X.A.in1) (I.ok.hd j) _ l (bY d) (bs.map iI).toArray,
  ((_,cQ _ rfl,rfl,rfl),c.push _),λi v B z y g f=>?_,λh' G m=>?_)
 .have a:(bs.map iI)[i]?=aa v:=by simpa using g
  have(b,e,rfl):=nG a;simp only[e]at f;show kB f
 .have e:((bI (bs.map iI).toArray.size).all λi=>(bs[i]?).getD ac)=bs.all id:=by
   rw[size_toArray,az];show Pz bs
  rw[e];show(.bl _,H,I.kept (GT m),rfl,q)
def PF(j:X.calm=ac):io X (.builtin "any") (λC H Q=>∃(p:Addr) (bs:LB0),C=[.ref p]/\SqL X.K H p (bs.map V.bl)/\Q (.bl (bs.any id)) H):=by
 intro U s E H C us Q I r h;have(l,bs,rfl,n,q):=h;have(u,rfl,x):=lM r;subst x;have(L,w,pl,hz):=I.list n;have e:=y9 w;subst e;have c:=pl.isList;have d:l<s.heap.objs.size:=by have(_,e,_):=c;show bF e
 show call_any_walk (t8 c ?_)
 show(s.heap.objs.size,_,_,(bs.map iI).toArray.size,_,_,λi=>(bs[i]?).getD af,rfl,Walks.list (A:=X.A.in1) (I.ok.hd j) _ l (bY d) (bs.map iI).toArray,
  ((_,cQ _ rfl,rfl,rfl),c.push _),λi v B z y g f=>?_,λh' G m=>?_)
 .have a:(bs.map iI)[i]?=aa v:=by simpa using g
  have(b,e,rfl):=nG a;simp only[e]at f;show kB f
 .have e:((bI (bs.map iI).toArray.size).any λi=>(bs[i]?).getD af)=bs.any id:=by
   rw[size_toArray,az];show PB bs
  rw[e];show(.bl _,H,I.kept (GT m),rfl,q)
abbrev iu:LD->Option (LB0)
 | []=>aa []
 |.bl b::ds=>(iu ds).map λr=>b::r
 | _=>ab
def GU:∀{ds:LD} {bs:LB0},iu ds=aa bs->ds=bs.map D.bl
 | [],_,e=>by cases e;rfl
 |.bl b::ds,_,e=>by
  dsimp only[iu]at e
  cases es:iu ds with
  |none=>rw[es]at e;cases e
  |some r=>rw[es]at e;cases e;rw[GU es];rfl
 |.int _::_,_,e=>by cases e
 |.non::_,_,e=>by cases e
 |.str _::_,_,e=>by cases e
 |.lst _::_,_,e=>by cases e
 |.tup _::_,_,e=>by cases e
 |.kl _::_,_,e=>by cases e
 |.kt _::_,_,e=>by cases e
 |.dic _ _::_,_,e=>by cases e
 |.ins _ _ _::_,_,e=>by cases e
def GV(bs:LB0):iu (bs.map D.bl)=aa bs:=by
 induction bs with
 |nil=>rfl
 |cons n ns a=>rw[bO,iu,a];rfl
def am.bls{G:Gc}{H:Hp}:∀{bs:LB0} {vs:LVv},am G H (bs.map D.bl) vs->vs=bs.map V.bl
 | [],_,h=>h
 |b::bs,_,q2_=>by
  have(v,r,e,a,h2):=q2_;subst e;rw[am.bls h2,show v=V.bl b from a];rfl
abbrev u9:LD->OD
 | [d]=>(lsD d).bind λds=>(iu ds).map λbs=>.bl (bs.all id)
 | _=>ab
abbrev lV:LD->OD
 | [d]=>(lsD d).bind λds=>(iu ds).map λbs=>.bl (bs.any id)
 | _=>ab
def va{f:LB0->D}(e:(match ds with | [d]=>(lsD d).bind λds=>(iu ds).map f | _=>ab)=aa d):∃a C bs,ds=[a]/\lsD a=aa C/\C=bs.map D.bl/\d=f bs:=by
 split at e
 .rename_i a
  cases b:lsD a with
  |none=>rw[b]at e;nomatch e
  |some C=>
   rw[b]at e;replace e:(iu C).map f=aa d:=e
   cases c:iu C with
   |none=>rw[c]at e;nomatch e
   |some bs=>rw[c]at e;cases e;show(a,C,bs,rfl,b,GU c,rfl)
 .nomatch e
def PH(i:X.calm=ac):rN c X (.builtin "all") u9:=by
 rintro U s E H vs us Q I l ⟨Hf,ds,d,b,r,e,k⟩;have(m,C,bs,rfl,f,rfl,rfl):=va e;have(v,h,j):=r.one;subst h;have(a,ws,g,q,B):=kS f j;subst g;show PD i U s E H _ us Q I l (a,bs,rfl,?_,k _ Hf H (Ext.refl b) rfl);rw[<- B.bls];show b.seq q
def GW(i:X.calm=ac):rN c X (.builtin "any") lV:=by
 rintro U s E H vs us Q I l ⟨Hf,ds,d,b,r,e,k⟩;have(m,C,bs,rfl,f,rfl,rfl):=va e;have(v,h,j):=r.one;subst h;have(a,ws,g,q,B):=kS f j;subst g;show PF i U s E H _ us Q I l (a,bs,rfl,?_,k _ Hf H (Ext.refl b) rfl);rw[<- B.bls];show b.seq q
def PJ:∀ds d,u9 ds=aa d->d.scalar=ac:=λds d e=>by
 have(a,C,bs,rfl,b,rfl,rfl):=va e;rfl
def GX:∀ds d,lV ds=aa d->d.scalar=ac:=λds d e=>by
 have(a,C,bs,rfl,b,rfl,rfl):=va e;rfl
def PK(bs:LB0):u9 [.lst (bs.map D.bl)]=aa (.bl (bs.all id)):=by
 change(iu _).map _=_;rw[GV];rfl
def GY(bs:LB0):lV [.lst (bs.map D.bl)]=aa (.bl (bs.any id)):=by
 change(iu _).map _=_;rw[GV];rfl
inductive Wrd where
 |make |may |never
 deriving DecidableEq
abbrev Wrd.s:Wrd->Str
 |.make=>"make"
 |.may=>"may"
 |.never=>"never"
structure Rul where
 w:Wrd
 hd:Int
 ps:List Prt
nonrec abbrev LRu:=List Rul
def Rul.hdD(r:Rul):D:=match r.w with
 |.never=>.non
 | _=>.int r.hd
def Rul.toD(r:Rul):D:=.tup [.str r.w.s,r.hdD,.lst (r.ps.map Prt.toD)]
structure Rul.Ok(n:Nat)(r:Rul):Prop where
 hd:r.w≠.never->0<=r.hd/\r.hd<(n:Int)
 ps:∀p∈r.ps,p.Ok n
 len:Z r.ps<=100000
def PL(r:Rul):eO 6 r.toD:=by
 intro x a;simp only[bc,cG,or_false]at a
 rcases a with rfl |rfl |rfl
 .show rfl
 .unfold Rul.hdD
  cases r.w <;> show rfl
 .intro x a;have(p,_,rfl):=aM.mp a;show Px p
def Rul.bodyLost(r:Rul)(es:LOB)(ws:LB0):Bool:=r.ps.any λp=>p.lost es ws
def k6{p q:Int->Bool}:∀{L:LII},(∀z∈L,0<=z.2/\(p z.1=ac->q z.1=ac))->bQ p L<=bQ q L
 | [],_=>qL _
 |z::L,h=>by
  have b:=k6 λy a=>h y (bp _ a);have(c,d):=h z aA;unfold bQ at b ⊢
  grind
def pW{p q:Int->Bool}{L:LII}(h:∀z∈L,p z.1=q z.1):bQ p L=bQ q L:=by
 unfold bQ;rw[filter_congr h]
structure cW(es es':LOB):Prop where
 len:Z es'=Z es
 at':∀i,es.getD i ab=ab\/es'.getD i ab=es.getD i ab
structure nM(ws ws':LB0):Prop where
 len:Z ws'=Z ws
 at':∀i,ws.getD i af=ac->ws'.getD i af=ac
def cW.refl(es:LOB):cW es es:=(rfl,λ_=>.inr rfl)
def nM.refl(ws:LB0):nM ws ws:=(rfl,λ_ h=>h)
variable{es':LOB}
def PM{es:LOB}{p:Prt}(f:cW es es')(h:p.Ok (Z es))(s:p.sure es=ac):p.sure es'=ac:=by
 have key:∀{i:Nat} {b:Bool},(es.getD i ab==aa b)=ac->(es'.getD i ab==aa b)=ac:=λ{i b} e=>by
  rcases f.at' i with z |z
  .grind
  .grind
 have a:∀{i:Nat},(!(es'.getD i ab==aa af))=ac->(!(es.getD i ab==aa af))=ac:=λ{i} e=>by
  grind
 cases p with
 |inn t=>show key s
 |out t=>show key s
 |least k L=>
  have s:=of_decide_eq_true s;show decide_eq_true (tS s ?_);rw[jt,jt]
  show k6 λz hz=>((h.1 z hz).2.2,λe=>key e)
 |most k L=>
  have s:=of_decide_eq_true s;show decide_eq_true (tS ?_ s);rw[jt,jt];show k6 λz hz=>((h.1 z hz).2.2,λe=>a e)
variable{ws:LB0}
def vb{es:LOB}{ws':LB0}{p:Prt}(f:cW es es')(g:nM ws ws')(h:p.Ok (Z es))(s:p.lost es ws=ac):p.lost es' ws'=ac:=by
 have key:∀{i:Nat} {b:Bool},(es.getD i ab==aa b)=ac->(es'.getD i ab==aa b)=ac:=λ{i b} e=>by
  rcases f.at' i with z |z
  .rw[z]at e;cases b <;> cases e
  .rw[z];show e
 cases p with
 |inn t=>
  have s:(_ || ws.getD t.toNat af)=ac:=s;change(_ || ws'.getD t.toNat af)=ac;rw[ki]at s ⊢
  show s.imp key (g.at' _)
 |out t=>show key s
 |least k L=>
  have s:=of_decide_eq_true s;show decide_eq_true (Int.lt_of_le_of_lt (k6 λz hz=>((h.1 z hz).2.2,λe=>?_)) s);rw[b6]at e ⊢;show(?_,?_)
  .cases q:(es.getD z.1.toNat ab==aa af)with
   |false=>rfl
   |true=>rw[key q]at e;show e.1
  .cases q:ws.getD z.1.toNat af with
   |false=>rfl
   |true=>rw[g.at' _ q]at e;show e.2
 |most k L=>
  have s:=of_decide_eq_true s;show decide_eq_true (Int.lt_of_lt_of_le s ?_);rw[jt,jt];show k6 λz hz=>((h.1 z hz).2.2,λe=>key e)
def rX{a:Type}{p q:a->Bool}{C:List a}(h:∀x∈C,p x=ac->q x=ac)(s:C.any p=ac):C.any q=ac:=by grind
def Ite(K:aU)(l:Addr):It:=
  (λi H=> ∃C x, SqL K H l C/\C[i]? = aa x,
   λi H v H'=> ∃p x, v = .ref p/\H p = ab/\H' = upd H p (.tup [.int i, x])/\(∀C, SqL K H l C->C[i]? = aa x),
   λi H=> ∃C, SqL K H l C/\Z C<=i)
variable{elts:LEx}{kx:Nat}
def PN(e it l:Addr)(ne:e≠it):
  kL P w K (.Tuple elts kx pos) (Ite K l) [e,it] e (λi h=>(∃old,IsEnum h e it (i:Int) old)/\h.IsListIter it l i) where
 mem:=by simp
 obj:=λi h st b hb=>by
  have((old,he),(o1,e1,_,d1)):=st;simp only[bc,cG,or_false]at hb
  rcases hb with rfl |rfl
  .show⟨_,he,λv q=>by nomatch q⟩
  .show⟨o1,e1,λv q=>by rw[d1]at q;nomatch q⟩
 keep:=λi h h' st k=>by
  have((old,he),h1):=st;show((old,k e (by simp) _ he),h1.at λo q=>k it (by simp) o q)
 item:=by
  intro X hP hw hK hc i U s E H X4 I hf st hg;subst hP hw hK;have((old,he),h1):=st;have(C,x,q1,hx):=hg;have(its1,r1,p1,z1):=I.list q1;have(u1,e1,ru1):=r1.get hx;show wpAny_pyNext_enum_item he h1 p1.isList (by simpa using e1) ne λh' a1 a3 a5 a6 a7=>(_,rfl,?_);show wpAny_letOwnedTupleGo_enum a1 λh'' b1 b2=>?_
  have lt:∀b∈[e,it],b<s.heap.objs.size:=λb hb=>by
   simp only[bc,cG,or_false]at hb
   rcases hb with rfl |rfl
   .show bF he
   .have(o,e,_):=h1;show bF e
  have kk:∀b o,b∉[e,it]->s.heap.get? b=aa o->h''.get? b=aa o:=λb o hb e=>by
   simp only[bc,cG,or_false,not_or]at hb;have(n1,n2):=hb;show(b2.2 b n1).trans (a7 b o n1 n2 e)
  have fr:=I.hok.fresh (aO _)
  have I2:Inv X U E (upd H s.heap.objs.size (.tup [.int i,x])) {s with heap:=h'',toks:=s.toks+1}:=
   (I.turnedMany kk hf).track (I.fpOk (aO _) fr) ((by change 2<=aX;decide),_,.cons (s.toks,rfl) (.cons ru1 .nil),(_,((b2.2 _ (lz (lt e (by simp)))).trans a5),rfl,_,rfl))
  show(.ref s.heap.objs.size,_,I2,rfl,(_,x,rfl,fr,rfl,λxs' h=>by rw[I.list_inj h q1];show hx),((u1,?_),(a3.at λo q=>(b2.2 it (eX ne)).trans q)),λb hb=>?_)
  .have:((i+1:Nat):Int)=i+1:=by push_cast;rfl
   rw[this];show b1
  .rw[aN (bY (lt b hb))];show(hf b hb).1
 done:=by
  intro X hP hw hK hc i U s E H X4 I hf st hg;subst hP hw hK;have((old,he),h1):=st;have(C,q1,hend):=hg;have(its1,r1,p1,z1):=I.list q1;have l1':=r1.length;show wpAny_pyNext_enum_end (I.ok.hd hc) he h1 p1.isList (by simp;lia) λh' kk=>(rfl,I.turnedMany (λb o hb q=>?_) hf);simp only[bc,cG,or_false,not_or]at hb;show kk b o hb.2 q
 self:=λ_ _ _ _ _ st h=>by have((old,he),_):=st;show wpAny_pyIter_enum he h
def PP(K:aU)(a:TA):TI:=λE H R=>a E H λvs H1=>∃l,vs=[.ref l]/\(∃C,SqL K H1 l C)/\R (Ite K l) H1
variable{gv:Pos}{a:Expr}{ta:TA}
def GZ(v:Gl X "enumerate")(hm:X.mg "enumerate"=ab)(ha:PA X [a] ta)(w:autoParam (aQ [a] X.env=[(af,eval a X.env,)]) Zb):
  PI X (.Tuple elts kx gv) (.Call (.Name "enumerate" p) [a] [] pos) (PP X.K ta):=by
 intro U s E H R I h;show Call_ (ig I v hm boot_enumerate (ku (thn (ha pos U s E H _ I h) λus s1 (vs,H1,d,j,y)=>?_) (by rw[w];rfl) (by rfl)));have(l,e,(C,r),q):=y;subst e;have(u,rfl,ru):=lM j;subst ru;have(i,j,x,A):=d.list r;show call_enumerate_list x.isList λh' f m z n=>?_;show wpAny_pyIter_enum f ?_;show(_,_,_,_,H1,rfl,(d.kept n),PN _ _ _ (Nat.succ_ne_self _),((_,f),m),λb g=>?_,q);simp only[bc,cG,or_false]at g
 have c:s1.heap.objs.size<=b:=by
  rcases g with rfl |rfl
  .show Nat.le_add_right _ _
  .show aO _
 show d.fpOk c (d.hok.fresh c)
abbrev iU:Nat->LD->LD
 | _,[]=>[]
 |i,x::C=>.tup [.int i,x]::iU (i+1) C
def za:∀(i:Nat) (C:LD),Z (iU i C)=Z C
 | _,[]=>rfl
 |i,x::C=>by simp only[iU,cB,cB,za]
def zb:∀(k:Nat) (C:LD) (i:Nat),(iU k C)[i]?=(C[i]?).map λx=>.tup [.int (k+i:Nat),x]
 | _,[],_=>rfl
 |k,x::C,0=>rfl
 |k,x::C,i+1=>by simp only[iU,g8,g8,zb _ C i,show k+1+i=k+(i+1) by lia]
abbrev zc:LD->OLD
 | [x]=>(lsD x).map (iU 0)
 | _=>ab
def jD(f:MF2)(M:LS):OLD:=(f M).bind zc
def PQ{f:MF2}(J:Gl X "enumerate")(hm:X.mg "enumerate"=ab)(ha:DA c X [a] f)(L:autoParam (aQ [a] X.env=[(af,eval a X.env,)]) Zb):
  DI c X (.Tuple elts kx gv) (.Call (.Name "enumerate" p) [a] [] pos) (jD f):=
 PI.imp (GZ J hm ha.pa L) λE H R Q=>by
  have(Hf0,H0,Hf,M,ds,st,b,k):=Q;unfold jD at b
  cases j:f M with
  |none=>rw[j]at b;nomatch b
  |some as=>
   rw[j]at b;replace b:zc as=aa ds:=b;show(Hf0,H0,Hf,M,as,st,j,λvs Hf' H' x r=>?_);unfold zc at b;split at b
   .rename_i dx
    cases ex:lsD dx with
    |none=>rw[ex]at b;nomatch b
    |some C=>
     rw[ex]at b;cases b;have(v,G,T):=r.one;have(N,h,l,w,y):=kS ex T;subst l;show(N,G,(h,x.s.seq w),k _ Hf' H' x λaG H2 f2 s2 i=>?_);have m:=(f2.trans s2).seq w;have h1:=y.length;show(λd e=>?_,λB=>(h,m,by rw[za]at B;lia));rw[zb]at e
     cases n:C[i]? with
     |none=>rw[n]at e;nomatch e
     |some x'=>
      rw[n]at e;cases e;have(U,g,ru1):=y.get n;show((h,U,m,g),λz H3 (pp,z1,I,u,A,Y)=>?_);subst I A;have q:=Y h m;rw[g]at q;cases q;show(upd aG pp _,Ext.new s2 u,pp,_,rfl,be,.cons (by rw[lA];rfl) (.cons (ru1.up (f2.trans (bU (s2.free u)))) .nil))
   .nomatch b
abbrev jE:D->Option Key
 |.int i=>aa (.inl i)
 |.str x=>aa (.inr x)
 | _=>ab
def rY{k:Key}(e:jE d=aa k)(r:Rep G H d v):v=kV k:=by
 cases d <;> first |(cases e;done) |(cases e;show r)
def gx(ks:List Key)(k:Key):Bool:=ks.any λj=>decide (j=k)
def iV{a:Type}(ks:List Key)(C:List a)(k:Key)(x:a):List a:=if gx ks k=ac then oP (λj y=>if j=k then x else y) ks C else C++[x]
def iw(ks:List Key)(k:Key):List Key:=if gx ks k=ac then ks else ks++[k]
def G0{ks:List Key}{k:Key}{v:V}:∀{ks:List Key} {vs:LVv},(ks.zip vs).map (λa=>if a.1=k then (a.1,v,) else a)=ks.zip (oP (λj y=>if j=k then v else y) ks vs)
 | [],_=>rfl
 | _::_,[]=>rfl
 |j::ks,y::vs=>by
  simp only[fF,bO,tV,fF,G0 (ks:=ks)]
  by_cases h:j=k
  .subst h;simp
  .simp[h]
def zd{k:Key}:∀{ks:List Key} {vs:LVv},Z ks=Z vs->((ks.zip vs).any λa=>decide (a.1=k))=gx ks k
 | [],[],_=>rfl
 | [],_::_,h=>by cases h
 | _::_,[],h=>by cases h
 |j::ks,y::vs,h=>by
  simp only[fF,gG,gG,zd (by simpa using h)];rfl
variable{ks:List Key}
def PR{k:Key}(h:Z ks=Z vs):dR (ks.zip vs) k v=(iw ks k).zip (iV ks vs k v):=by
 unfold dR iw iV;rw[zd h]
 by_cases e:gx ks k=ac
 .rw[if_pos e,if_pos e,if_pos e,G0 (ks:=ks)]
 .rw[if_neg e,if_neg e,if_neg e,zip_append h];rfl
def ce{a:Type}{vs:List a}{k:Key}{v:a}(h:Z ks=Z vs):Z (iw ks k)=Z (iV ks vs k v):=by
 unfold iw iV
 by_cases e:gx ks k=ac
 .rw[if_pos e,if_pos e,length_zipWith];lia
 .rw[if_neg e,if_neg e,aV,aV,h];rfl
def am.zipW{G:Gc}{H:Hp}{k:Key}{d:D}{v:V}(q:Rep G H d v):∀{ks:List Key} {ds:LD} {vs:LVv},am G H ds vs->am G H (oP (λj y=>if j=k then d else y) ks ds) (oP (λj y=>if j=k then v else y) ks vs)
 | [],_,_,_=>.nil
 | _::_,[],_,h=>by cases (h);show .nil
 |j::ks,x::ds,_,q3_=>by
  have(u,r,e,a,h2):=q3_;subst e;rw[tV,tV];show .cons ?_ (am.zipW q h2)
  grind
def am.put{k:Key}(r:am G H ds vs)(q:Rep G H d v):am G H (iV ks ds k d) (iV ks vs k v):=by
 unfold iV
 by_cases e:gx ks k=ac
 .rw[if_pos e,if_pos e];show r.zipW q
 .rw[if_neg e,if_neg e];show r.append (.cons q .nil)
def pX(i:Nat)(M:LS):Option Fl:=aa (.nx (M.set i (.ownd [] [])))
def jF(i:Nat)(a b:MF1)(M:LS):Option Fl:=(b M).bind λd=>(a M).bind λx=>(jE x).bind λk=>match M[i]? with
 |some (.ownd ks C)=>if Z ks<16777216 then aa (.nx (M.set i (.ownd (iw ks k) (iV ks C k d)))) else ab
 | _=>ab
def rZ(x y:D):OD:=(jE x).bind λk=>match y with
 |.dic ks _=>aa (.bl (gx ks k))
 | _=>ab
variable{i:Nat}
def PU(e:PS X st (jo FS (ij i))):DS c X st (pX i):=PS.imp e λX4 E H g=>by
 have(Hf0,H0,Hf,M,o,b,d,k):=g;cases d;intro q a;have x:Ext Hf H Hf (upd H q (.dK [])):=Ext.tmp b.sub a;show k _ Hf _ x.f (b.setOwn rfl x a (b.sub.free a) ([],be,rfl,.nil))
variable{p':Pos}
def ze(i:Nat)(a:X.N.Nodup)(hi:autoParam (X.N[i]?=aa x) Zb)(e:autoParam (Loc X.env.scope x) Zf)(d:autoParam (gh (.Dict [] [] pos) (aa (.Name x bm)) p'.line X.env=pure af) Zb)(b:autoParam (LcF X x) Zg):
  DS c X (.Assign [.Name x bm] (.Dict [] [] pos) p') (pX i):=PU (px a hi e NU d b)
variable{fk fv:MF1}
def PV(w:PS X st (yx (c8 i) (tD (Gx c X) fk) (tD (Gx c X) fv))):DS c X st (jF i fk fv):=PS.imp w λX4 E H B=>by
 have(Hf0,H0,Hf,M,o,n,a,k):=B;unfold jF at a
 cases g:fv M with
 |none=>rw[g]at a;nomatch a
 |some d=>
  rw[g]at a
  cases j:fk M with
  |none=>rw[j]at a;nomatch a
  |some x=>
   rw[j]at a
   cases m:jE x with
   |none=>rw[ax,ax,m]at a;nomatch a
   |some A=>
    simp only[ax,ax,m]at a;split at a
    .rename_i ks C es;split at a
     .rename_i N;cases a;show(Hf0,H0,Hf,M,d,n,g,λv a4 H1 p G=>?_);have b:=n.step p;have(l,el,J,L,vs,q,z,r):=b.ownAt rfl es;show(_,el,Hf0,H0,a4,M,x,b,j,λy aG H2 e I=>?_);have u:=rY m I;subst u;show(l,_,rfl,lN.k (e.h _ _ q) (by rw[dJ,oR];lia),?_);show k E aG _ (p.f.trans e.f) ((b.step e).mutd rfl rfl es el (iV ks vs A v,?_,ce z,(r.up e.f).put (G.up e.f)));rw[be,PR z]
     .nomatch a
    .nomatch a
variable{i' value:Expr}
def zf(f:X.A.units+64<cLine)(b:PE X e (c8 i))(a:DE c X i' fk)(hv:DE c X value fv)(d:autoParam (gh value (aa (.Subscript e i' bm)) pos.line X.env=pure af) Zb):
  DS c X (.Assign [.Subscript e i' bm] value pos) (jF i fk fv):=PV (FR (by lia) b a hv d)
def PY{k:Key}:∀{ks:List Key} {vs:LVv},Z ks=Z vs->(cS (ks.zip vs) k).isSome=gx ks k:=λ{ks vs} h=>by
 rw[<- uE,zd h]
variable{b:Expr}
def G1(L:X.A.units+64<cLine)(ha:DE c X a f)(B:DE c X b g)(hm:autoParam (jU .In b=af) Zl):DE c X (.Compare a [.In] [b] pos) (m2 rZ f g):=
 PE.imp (Ly (NQ (by lia) ha B) hm) λE H Q G=>by
  have(Hf0,H0,Hf,M,d,st,p,k):=G;have(x,y,m,n,e):=nr p;show(Hf0,H0,Hf,M,x,st,m,λv a4 H1 i I=>(Hf0,H0,a4,M,y,st.step i,n,λu aG H2 j J=>?_));unfold rZ at e
  cases h:jE x with
  |none=>rw[h]at e;nomatch e
  |some N=>
   rw[h]at e
   cases y with
   |dic ks C=>
    cases e;have(l,vs,el,q,z,r):=J;have w:=rY h I;subst w el;show(l,_,rfl,fX.k (j.s _ _ q),k _ aG H2 (i.trans j) ?_);rw[PY z]
    rfl
   | _=>nomatch e
def gy(i:Nat)(fk fv:MF1)(M:LS):Option Fl:=(fv M).bind λd=>(fk M).bind λx=>match x with
 | .int k=>(match M[i]? with
  |some (.own C)=>(ixN C.length k).map λj=>.nx (M.set i (.own (C.set j d)))
  | _=>ab)
 | _=>ab
def PZ(z:PS X st (jo (tD (Gx c X) fv) (xX (c8 i) (tD (Gx c X) fk) yo))):DS c X st (gy i fk fv):=PS.imp z λX4 E H A=>by
 have(Hf0,H0,Hf,M,o,u,a,k):=A;unfold gy at a
 cases m:fv M with
 |none=>rw[m]at a;nomatch a
 |some d=>
  rw[m]at a
  cases n:fk M with
  |none=>rw[n]at a;nomatch a
  |some x=>
   rw[n]at a;obtain⟨e,rfl⟩:∃e,x=.int e:=by grind
   replace a:(match M[i]? with |some (.own C)=>(ixN C.length e).map λj=>Fl.nx _ | _=>ab)=aa o:=a
   split at a
   .rename_i C es
    cases p:ixN C.length e with
    |none=>rw[p]at a;nomatch a
    |some j=>
     rw[p]at a;cases a;show(Hf0,H0,Hf,M,d,u,m,λv a4 H1 w B=>?_);have b:=u.step w;have(l,el,I,J,vs,q,r):=b.ownAt rfl es;show(_,el,Hf0,H0,a4,M,.int e,b,n,λy aG H2 g G=>?_);show(l,vs,e,j,rfl,G,(g.h _ _ q),by rw[<- r.length];show p,(k E aG _ (w.f.trans g.f) ((b.step g).mutd rfl rfl es el (vs.set j v,be,(r.up g.f).set j (B.up g.f)))))
   .grind
def G2(d:PE X e (c8 i))(b:DE c X i' fk)(hv:DE c X value fv)(f:autoParam (swapsWithSole [.Subscript e i' bm] value pos.line X.env=pure af) Zb)(g:autoParam (swappedStores [.Subscript e i' bm] value X.env=pure ab) Zb)
 (a:autoParam ((jf [.Subscript e i' bm] X.env).map (·.2)=[assign (.Subscript e i' bm) X.env]) Zb)
 (ha:autoParam (∀ v,assign (.Subscript e i' bm) X.env v=(do
   let ov <- eZ [v] (eval e X.env)
   let iv <- eZ [v,ov] (eval i' X.env)
   gJ bm
   eZ [v,ov,iv] (setItem ov iv v)
   release [v,ov,iv] [])) Zd):
  DS c X (.Assign [.Subscript e i' bm] value pos) (gy i fk fv):=PZ (xZ hv (xY d b yp ha) f g a)
def zg{G:Gc}{H:Hp}{f:D->D->Option Bool}(i:∀(g h x:D) (c d:Bool) (v:V),Rep G H g v->Rep G H h v->f g x=aa c->f h x=aa d->c=d):
  ∀{a b ys:LD} {c d:Bool} {vs:LVv},am G H a vs->am G H b vs->cJ f a ys=aa c->cJ f b ys=aa d->c=d
 | [],[],[],_,_,_,_,_,h1,h2=>by cases h1;cases h2;rfl
 | [],[],_::_,_,_,_,_,_,h1,h2=>by cases h1;cases h2;rfl
 | [],_::_,_,_,_,_,r1,r2,_,_=>by have:=r1.length;have:=r2.length;simp at *;lia
 | _::_,[],_,_,_,_,r1,r2,_,_=>by have:=r1.length;have:=r2.length;simp at *;lia
 | _::_,_::_,[],_,_,_,_,_,h1,h2=>by cases h1;cases h2;rfl
 |g::a,h::b,y::ys,c,d,vs,r1,r2,h1,h2=>by
  have(v,r,e,p,q):=r1;have(E,C,e',p2,u):=r2;subst e;cases e';have(w,z,j,l,rfl):=uN h1;have(A,B,m,n,rfl):=uN h2;rw[(i _ _ _ _ _ _ p p2 j m),(zg i q u l n)]
abbrev vD:V->D
 |.bl b=>.bl b
 |.int i=>.int i
 |.str x=>.str x
 | _=>.non
def G3(s:d.scalar=ac)(r:Rep G H d v):d=vD v:=by
 cases d <;> first |(cases s;done) |(rw[show v=_ from r];rfl)
def vc{a:Addr}(s:d.scalar=ac)(r:Rep G H d (.ref a)):False:=by
 cases d <;> first |(cases s;done) |(cases (r))
def r6{G:Gc}{H:Hp}:∀(n:Nat) {r u x:D} {m p:Bool} {v:V},Rep G H r v->Rep G H u v->deq n r x=aa m->deq n u x=aa p->m=p
 | 0,_,_,_,_,_,_,_,_,h,_=>by cases h
 |n+1,r,u,x,m,p,v,r1,r2,h1,h2=>by
  replace h1:nB _ r x=aa m:=h1;replace h2:nB _ u x=aa p:=h2
  have X2:∀{C ys:LD},r=.lst C->u=.lst ys->m=p:=λ{C ys} l g=>by
   subst l g;have(a,vs,e,q,B):=r1;have(y,w,e',i,c):=r2;rw[e]at e';cases e';rw[q]at i;cases i;have A:=B.length;have E:=c.length
   cases x with
   |lst j=>
    replace h1:(if C.length=Z j then cJ _ C j else aa af)=aa m:=h1;replace h2:(if ys.length=Z j then cJ _ ys j else aa af)=aa p:=h2
    by_cases z:C.length=Z j
    .rw[if_pos z]at h1;rw[if_pos (by lia)]at h2;show zg (f:=deq n) (λ_ _ _ _ _ _=>r6 n) B c h1 h2
    .grind
   | _=>cases h1
  have T:∀{C ys:LD},r=.tup C->u=.tup ys->m=p:=λ{C ys} l g=>by
   subst l g;have(a,vs,e,q,B):=r1;have(y,w,e',i,c):=r2;rw[e]at e';cases e';rw[q]at i;cases i;have A:=B.length;have E:=c.length
   cases x with
   |tup j=>
    replace h1:(if C.length=Z j then cJ _ C j else ab)=aa m:=h1;replace h2:(if ys.length=Z j then cJ _ ys j else ab)=aa p:=h2
    by_cases z:C.length=Z j
    .rw[if_pos z]at h1;rw[if_pos (by lia)]at h2;show zg (f:=deq n) (λ_ _ _ _ _ _=>r6 n) B c h1 h2
    .grind
   | _=>cases h1
  have no:∀{d:D} {b:Bool},nB (deq n) d x=aa b->d.scalar=ac\/(∃C,d=.lst C)\/∃C,d=.tup C:=λ{d b} h=>by
   unfold nB at h
   grind
  rcases no h1 with s1 |⟨C,l⟩ |⟨C,l⟩
  .have:r=u:=by
    rcases no h2 with s2 |⟨ys,g⟩ |⟨ys,g⟩
    .rw[G3 s1 r1,<- G3 s2 r2]
    .subst g;have(a,_,e,_):=r2;subst e;show(vc s1 r1).elim
    .subst g;have(a,_,e,_):=r2;subst e;show(vc s1 r1).elim
   grind
  .rcases no h2 with s2 |⟨ys,g⟩ |⟨ys,g⟩
   .subst l;have(a,_,e,_):=r1;subst e;show(vc s2 r2).elim
   .grind
   .subst l g;have(a,vs,e,q,B):=r1;have(y,w,e',i,c):=r2;rw[e]at e';cases e';rw[q]at i;cases i
  .rcases no h2 with s2 |⟨ys,g⟩ |⟨ys,g⟩
   .subst l;have(a,_,e,_):=r1;subst e;show(vc s2 r2).elim
   .subst l g;have(a,vs,e,q,B):=r1;have(y,w,e',i,c):=r2;rw[e]at e';cases e';rw[q]at i;cases i
   .show T l g
abbrev dF(x:D):LD->Option Bool
 | []=>aa af
 |d::ds=>(deq 19 d x).bind λb=>(dF x ds).map λr=>b || r
def f6(x y:D):OD:=((iN y).bind (dF x)).map .bl
def P0:∀x y d,f6 x y=aa d->d.scalar=ac:=λ_ _ d e=>nA d e
def G4{x:D}{b:Bool}(h:dF x (d::ds)=aa b):∃a c,deq 19 d x=aa a/\dF x ds=aa c/\b=(a || c):=by
 dsimp only[dF]at h
 cases e:deq 19 d x with
 |none=>rw[e]at h;nomatch h
 |some a=>
  cases f:dF x ds with
  |none=>rw[e,f]at h;nomatch h
  |some c=>rw[e,f]at h;cases h;show(a,c,rfl,rfl,rfl)
def zh{a:Type}{f g:a->Bool}:∀{l:List a},(∀x∈l,f x=g x)->l.any f=l.any g
 | [],_=>rfl
 |x::l,h=>by simp only[gG,gG,h x aA,zh λy b=>h y (bp _ b)]
open Classical in
def r9{U:PNS}{E:St}{H:Hp}{s:ah}{A:ca}{x:D}{L:V}{u:Value}(I:Inv X U E H s)(C:A.units+19<cLine)(J:Rep (Gx c X) H x L)(ru:aD L u):
  ∀{ds:LD} {vs:LVv} {us:LVa} {b:Bool},am (Gx c X) H ds vs->aI vs us->dF x ds=aa b ->
   ∃f:Value->Bool,(∀y∈us,cC A s y u (f y)/\∃d v,Rep (Gx c X) H d v/\aD v y/\deq 19 d x=aa (f y))/\us.any f=b
 | [],_,_,b,r,rv,h=>by
  cases (show _=[]from r);cases rv;cases h
  show(λ_=>af,(λy g=>by cases g),rfl)
 |d::ds,_,_,b,q4_,rv,h=>by
  have(v,G,l,n,N):=q4_;subst l;have(i,T,m,h2,rfl):=G4 h
  cases rv with
  | @cons _ y _ us a w=>
   have(f,B,ha):=r9 I C J ru N w h2;have j:cC A s y u i:=yO I 19 C m n J a ru;show(λz=>if z=y then i else f z,λz hz=>?_,?_)
   .by_cases e:z=y
    .subst e;simp only[if_true];show(j,d,v,n,a,m)
    .simp only[e,if_false];show B z ((bc.mp hz).resolve_left e)
   .rw[gG,if_pos rfl,<- ha]
    congr 1
    by_cases g:y∈us
    .have(_,d',Q,G,p,h'):=B y g;have l:Q=v:=aD.inj p a;subst l;have M:f y=i:=r6 19 G n h' m;show zh λz hz=>?_
     by_cases e:z=y
     .subst e;simp[M]
     .simp[e]
    .show zh λz hz=>?_;have e:z≠y:=λq=>g (q▸hz);simp[e]
def P1(C:X.A.units+64<cLine):OpD c X (cg .In) f6:=by
 rintro U s E H v u w G Q I m ru ⟨Hf,x,y,d,g,l,B,e,k⟩;unfold f6 at e
 cases h:(iN y).bind _ with
 |none=>rw[h]at e;nomatch e
 |some b=>
  rw[h]at e;cases e
  cases es:iN y with
  |none=>rw[es]at h;nomatch h
  |some ds=>
   rw[es]at h;have(a,vs,p,q,r):=rB es (B.up g);subst p;subst ru;have fin:∃n H',Inv X U E H' s/\aD n _/\Q n H':=(.bl b,H,I,rfl,k _ Hf H (Ext.refl g) rfl)
   rcases q with q |q
   .have(L,j,pl,hz):=I.list q;have(f,i,ha):=r9 (A:=X.A.in1) I (by grind) (l.up g) m r j h;show SeqAt.in_listAt f pl.isList (λz hz=>(i z (by grind)).1) ?_;rw[show L.toArray.any f=L.any f by simp,ha];show fin
   .have(L,j,pl,hz):=I.tuple q;have(f,i,ha):=r9 (A:=X.A.in1) I (by grind) (l.up g) m r j h;show SeqAt.in_tupleAt f pl (λz hz=>(i z (by grind)).1) ?_;rw[show L.toArray.any f=L.any f by simp,ha];show fin
def Ris(C:Array Nat):Prop:=C.toList.Pairwise (· < ·)
variable{C:Array Nat}
def G5(h:Ris C){a b:Nat}(c:a<b)(d:b<C.size):C.getD a j<C.getD b j:=by
 have e:=pairwise_iff_getElem.mp h a b (by simpa using mK c d) (by simpa using d) c;rw[qJ,qJ,dif_pos (mK c d),dif_pos d];show e
def zi(h:Ris C){a b:Nat}(c:a<=b)(d:b<C.size):C.getD a j<=C.getD b j:=by
 rcases Nat.eq_or_lt_of_le c with e |e
 .subst e;show aO _
 .show fJ (G5 h e d)
def zj{C:Array Nat}{j:Nat}(h:Ris C):∀(a lo hi:Nat),lo<=hi->hi<=C.size->hi-lo<=a->(∀i,i<lo->C.getD i j<j)->(∀i,hi<=i->i<C.size->¬C.getD i j<j) ->
  ug C j a lo hi<=C.size/\(∀i,i<ug C j a lo hi->C.getD i j<j)/\∀i,ug C j a lo hi<=i->i<C.size->¬C.getD i j<j
 | 0,lo,hi,h1,h2,h3,h4,h5=>by
  have e:lo=hi:=by lia
  subst e
  show(h2,h4,h5)
 |a+1,lo,hi,h1,h2,h3,h4,h5=>by
  dsimp only[ug]
  by_cases c:lo<hi
  .rw[if_pos c]
   by_cases hm:C.getD ((lo+hi) / 2) j<j
   .simp only[hm];show zj h a _ hi (by lia) h2 (by lia) (λi b=>(mJ (zi h (by lia) (by lia)) hm)) h5
   .simp only[hm];show zj h a lo _ (by lia) (by lia) (by lia) h4 λi b f d=>(hm (mJ (zi h b f) d))
  .rw[if_neg c];have e:lo=hi:=by lia
   subst e;show(h2,h4,h5)
def zk(h:Ris C)(j:Nat):cH C j<=C.size/\(∀i,i<cH C j->C.getD i j<j)/\∀i,cH C j<=i->i<C.size->¬C.getD i j<j:=
 zj h C.size 0 C.size (cr _) (aO _) (by lia) (λi hi=>by lia) λi hi a=>by lia
def P2(h:Ris C)(hi:i<C.size):cH C (C[i]+1)=i+1:=by
 have(g,h2,f):=zk h _;have e:C.getD i (C[i]+1)=C[i]:=by rw[qJ,dif_pos hi];rfl
 by_cases d:cH C (C[i]+1)<=i
 .show absurd (by rw[e];lia) (f i d hi)
 .by_cases c:i+1<cH C (C[i]+1)
  .have a:=h2 _ c;have b:=G5 h (j:=C[i]+1) (show i<i+1 by lia) (by lia)
   lia
  .lia
def P3(h:Ris C):cH C 0=0:=by
 have(a,h2,b):=zk h 0
 by_cases e:0<cH C 0
 .have:=h2 0 e;lia
 .lia
def P4(h:Ris C)(hn:C[cH C j]?≠aa j):Ris (dL.insertAt C (cH C j) j):=by
 have(w,h2,r):=zk h j;unfold Ris dL.insertAt;have g:∀i,(hi:i<C.size)->C.getD i j=C[i]:=λi hi=>by rw[qJ,dif_pos hi];rfl
 simp only[Array.toList_append,xj,Array.toList_extract,Array.toList_extract];simp only[extract_eq_drop_take]
 have l:∀x∈C.toList.take (cH C j),x<j:=λx p=>by
  have(i,hi,e):=mem_take_iff_getElem.mp p;have n:i<cH C j:=by lia
  have:=h2 i n;rw[g i (by lia)]at this;rw[<- e];show this
 have f:∀x∈C.toList.drop _,j<x:=λx p=>by
  have(i,hi,e):=mem_drop_iff_getElem.mp p;have m:cH C j+i<C.size:=by simpa[Nat.add_comm]using hi
  have a:=r _ (by lia) m;rw[g _ m]at a;have ex:x=C[cH C j+i]:=by rw[<- e];simp
  rw[ex]
  rcases Nat.lt_or_ge j C[cH C j+i]with q |q
  .show q
  .exfalso;have v:C[cH C j+i]=j:=by lia
   have d:cH C j<C.size:=by lia
   have b:=zi h (j:=j) (show cH C j<=cH C j+i by lia) m;rw[g _ m,g _ d,v]at b;have c:=r _ (aO _) d;rw[g _ d]at c;show hn (by rw[mr d];congr 1;lia)
 have u:List.take (C.size-cH C j) _=List.drop (cH C j) C.toList:=take_of_length_le (by simp);rw[u];show mC.mpr (mC.mpr (ER (take_sublist _ _) h,by simp,λa ha b d=>?_),ER (drop_sublist _ _) h,λa ha b d=>?_)
 .have:b=j:=by simpa using d
  subst this;show l a ha
 .rcases bw.mp ha with ha |ha
  .show mK (l a ha) (f b d)
  .have:a=j:=by simpa using ha
   subst this;show f b d
def P5(n:Nat):Ris (Array.range n):=by
 unfold Ris;rw[Array.toList_range];show pairwise_lt_range
variable{t:dL}
def G6(h:t.slot j=.empty\/t.slot j=.dummy):t.place[cH t.place j]?≠aa j:=λe=>by
 have:t.slot j=.live (cH t.place j):=by
  unfold dL.slot
  grind
 grind
def zl{t:dL}{h:Int}:∀(a:Nat) (p:dL.Probe) {j:Nat} {d:Option Nat},(∀d',p.dummy=aa d'->t.place[cH t.place d']?≠aa d')->dL.probe.go t (λ_=>h+1) h a p=aa (.empty j d) ->
  t.place[cH t.place j]?≠aa j/\∀d',d=aa d'->t.place[cH t.place d']?≠aa d'
 | 0,_,_,_,_,e=>by cases e
 |a+1,p,j,d,hd,e=>by
  dsimp only[dL.probe.go]at e;split at e
  .rename_i b;cases e;show(G6 (.inl b),hd)
  .rename_i b;show zl a _ (λd' q=>?_) e
   have:d'=p.j:=by
    unfold dL.advance at q;split at q
    .show(cP q).symm
    .show(cP q).symm
   subst this;show G6 (.inr b)
  .rename_i i b;split at e
   .cases e
   .show zl a _ (λd' q=>hd d' ?_) e;unfold dL.advance at q
    split at q <;> show q
def P6{h:Int}{w:Bool}(e:t.freeSlot h=aa (j,w,)):t.place[cH t.place j]?≠aa j:=by
 unfold dL.freeSlot at e;split at e
 .rename_i c d b;have(a,h2):=zl _ _ (λd' q=>by nomatch q) b
  cases d with
  |none=>cases e;show a
  |some d'=>cases e;show h2 _ rfl
 .grind
def vd(t:dL)(n:Nat):Ris (t.standIn n).place/\(t.standIn n).led=t.led:=(P5 n,rfl)
def P7(n:Nat)(h:Ris t.place):Ris (t.orStandIn n).place/\(t.orStandIn n).led=t.led:=by
 unfold dL.orStandIn;split
 .show(h,rfl)
 .show vd t n
def P8(es:Array (Int×Value))(h:Int)(x:Value)(hr:Ris t.place):Ris (layNew t es h x).2.1.place/\(layNew t es h x).2.1.led=t.led:=by
 unfold layNew;split
 .rename_i slot wd a;show P7 _ (P4 hr (P6 a))
 .show vd t _
variable{led:Bool}
def P9{mask finger moves:Nat}{plain:Bool}{c:Array Int}{t':dL}{order:Array Nat}(e:dL.laid mask finger moves led plain c=aa (t',order,)):Ris t'.place/\t'.led=led:=by
 unfold dL.laid at e
 cases d:dL.layClean mask c with
 |none=>rw[d]at e;nomatch e
 |some owner=>
  rw[d]at e;cases e;show(?_,rfl);unfold Ris;rw[pairwise_map,pairwise_filterMap];show List.Pairwise.imp (λ{a b} f=>?_) pairwise_lt_range
  simp_all
def Qa(es:Array (Int×Value))(a:Nat):Ris (mR t es a).2.1.place/\(mR t es a).2.1.led=t.led:=by
 unfold mR;split
 .rename_i t' order b;dsimp only;split
  .show(P9 b)
  .show vd t _
 .show vd t _
def d5(P:ci)(w:World)(h:Heap)(a:Addr)(led:Bool)(S:Int->Bool)(n:Nat):Prop:=
 ∃o b d c,h.get? a=aa o/\o.ExactSet/\o.data=.set b d c/\ElemsOf (fT P w) b.toList/\(∀k,S k=ac↔∃e∈b.toList,(fT P w).is k e.2=ac)
  /\ b.size<lE/\c.fits b.size=ac/\b.size=n/\Ris c.place/\c.led=led
variable{h:Heap}{a:Addr}
def d5.stay{S:Int->Bool}(q:d5 P w h a led S n)(k:∀o,h.get? a=aa o->h'.get? a=aa o):d5 P w h' a led S n:=by
 have(o,b,c,e,d,r):=q;show(o,b,c,e,k o d,r)
def d5.congr{S b:Int->Bool}{c:Nat}(q:d5 P w h a led S n)(e:∀k,S k=b k)(en:n=c):d5 P w h a led b c:=by
 have:S=b:=funext e;subst this en;show q
variable{aF:Array (Int×Value)}{ep:Nat}{tb:dL}
def G7{o:Obj}{b:Array (Int×Value)}{c:dL}{S:Int->Bool}(m:h.get? a=aa o)(f:o.ExactSet)(hd:o.data=.set aF ep tb)
 (d:ElemsOf (fT P w) b.toList)(hm:∀k,S k=ac↔∃e∈b.toList,(fT P w).is k e.2=ac)(j:b.size<lE)(l:c.fits b.size=ac)(hr:Ris c.place)(g:c.led=led):
  (h.update a (Obj.putSet b c)).get? a=aa {o with data:=.set b (ep+1) c}/\d5 P w (h.update a (Obj.putSet b c)) a led S b.size:=by
 have i:=(SetOf_store m f hd d hm j l).1;show(i,_,b,ep+1,c,i,f,rfl,d,hm,j,l,rfl,hr,g)
variable{s:ah}
def G8{g:Bool->Sem Unit}(H:∀(b:Bool) (i:ah) (x:Unit->ah->Prop),x () i->wpAny (model P w) A (g b) x X4 i){o:Obj}{c:Array (Int×Value)}{d:dL}{S:Int->Bool}
 (B:s.heap.get? a=aa o)(m:o.ExactSet)(hd:o.data=.set aF ep tb)(l:ElemsOf (fT P w) c.toList)(hm:∀k,S k=ac↔∃e∈c.toList,(fT P w).is k e.2=ac)
 (p:c.size<lE)(G:d.fits c.size=ac)(hr:Ris d.place)(f:d.led=led){E:Bool}{R:Option Bool->ah->Prop}
 (h:∀h',gj a s.heap h'->d5 P w h' a led S c.size->R (aa ac) {s with heap:=h'}):
  wpAny (model P w) A (do
    storeSet a c d
    if (!E && d.tooFull)=ac then do
      g (mR d c (pf c.size)).2.2
      storeSet a (mR d c (pf c.size)).1 (mR d c (pf c.size)).2.1
      pure (aa ac)
     else pure (aa ac)) R X4 s:=by
 show ak (wpAny_storeSet_of B hd ?_ (fits_of_scanBound p));have(n,I):=G7 B m hd l hm p G hr f;have sb:=o9 s.heap a (Obj.putSet c d);split
 .have pp:=relayAll_perm d c (pf c.size);have y:=relayAll_fits d c (pf c.size);have u:=Qa (t:=d) c (pf c.size);generalize mR d c _=z at pp y u ⊢;have(j,J,L):=z;have v:j.size=c.size:=by rw[<- ja,pp.length_eq,ja]
  show ak (H _ _ _ (ak (wpAny_storeSet_of n rfl ?_ (fits_of_scanBound (by rw[v];show p)))));have C:=(G7 n m rfl (l.perm pp) (λk=>(hm k).trans (λ(e,r,q)=>(e,pp.mem_iff.mpr r,q),λ(e,r,q)=>(e,pp.mem_iff.mp r,q))) (by rw[v];show p) y u.1 (u.2.trans f)).2;rw[v]at C;show aE (h _ (sb.trans (o9 _ a _)) C)
 .show aE (h _ sb I)
def Qb{S:Int->Bool}{k:Int}{x:Value}{Q:Bool->ah->Prop}(r:(fT P w).is k x=ac)(B:x.scannable=ac)(q:d5 P w s.heap a led S n)(room:n+1<lE)
 (h:∀h',gj a s.heap h'->d5 P w h' a led (λC=>S C || decide (C=k)) (if S k then n else n+1)->Q (!S k) {s with heap:=h'}):wpAny (model P w) A (setAddHashed a x ((fT P w).hash k)) Q X4 s:=by
 have(o,aF,ep,tb,u,l,hd,f,hm,I,G,hn,hr,g):=q;show jV (ak (oX u hd G ?_));dsimp only;rw[byScan_of B I f,if_pos rfl];show ak (ak (lD (ak (wpAny_setScan_of r u hd G f ?_))))
 cases hi:List.findIdx? _ aF.toList with
 |some j=>
  have(L,M,_):=findIdx?_eq_some_iff_getElem.mp hi;have v:=(hm k).mpr (aF.toList[j],g9 L,M);show aE (aE ?_)
  have fin:=h s.heap (gj.refl a s.heap) (o,aF,ep,tb,u,l,hd,f,λC=>by
   rw[ki,decide_eq_true_eq,<- hm C];show(λz=>z.elim id (λe=>e▸v),.inl),I,G,by rw[v];show hn,hr,g)
  rw[v]at fin
  show fin
 |none=>
  have v:S k=af:=by
   grind
  have J:∀b c p,p () c->wpAny (model P w) A (match b with |true=>rule "set.scan.the-table-gave-way" |false=>pure ()) p X4 c:=
   λb c p i=>by cases b <;> first |show aE i |show lD i
  have pp:=layNew_perm tb aF ((fT P w).hash k) x;have y:=layNew_fits tb aF ((fT P w).hash k) x;have E:=P8 aF ((fT P w).hash k) x hr;generalize layNew tb aF _ x=z at pp y E ⊢;have(d,N,T,U):=z;dsimp only at pp y E ⊢;rw[xj]at pp;have H:d.size=n+1:=by rw[<- ja,pp.length_eq,aV,ja,hn];rfl
  have fin:∀h',gj a s.heap h'->d5 P w h' a led _ d.size->Q ac {s with heap:=h'}:=λh' sb m=>by
   have:=h h' sb;rw[v]at this;rw[H]at m;show this m
  show ak (J _ _ _ ?_);split
  .show ak ?_;rw[hashByValue_scannable 8 B]
   show aE (G8 (led:=led) (λb c p i=>by cases b <;> first |show aE i |show lD i) u l hd ((f.push r B).perm pp) (mem_push_iff r hm pp) (by rw[H];show room) ?_ ?_ ?_ λh' sb m=>?_)
   .split
    .grind
    .show dL.fits_plain_off y
   .grind
   .grind
   .dsimp only;show aE (fin h' sb m)
  .show ak (aE ?_)
   show G8 (λb c p i=>by cases b <;> first |show aE i |show lD i) u l hd ((f.push r B).perm pp) (mem_push_iff r hm pp) (by rw[H];show room) y E.1 (E.2.trans g) λh' sb m=>?_
   dsimp only;show aE (fin h' sb m)
set_option maxRecDepth 100000
def eP(w:World):Bool:=!(w.params.followText "set-order")
variable{I:Addr}{wr:LAd}{G:Array GenState->Array GenState->Prop}{Pv:Nat->Value->Prop}
def Qc{St:Nat->ah->Prop}(W:WalksS P w A.in1 I fp wr G n Pv St)(S:Addr)(f:S∉fp)(val:Nat->Int)(hv:∀i v,Pv i v->∃t,v=.int (val i) t)(z:n+1<lE):
  ∀(k i:Nat) (s:ah),n-i=k->i<=n->St i s->d5 P w s.heap S led (λj=>(eY val i).any (·==j)) (Z (eY val i)) ->
   (∀c,Moved (S::wr) G s c->d5 P w c.heap S led (λj=>(eY val n).any (·==j)) (Z (eY val n))->R (.ok (.ret .none)) c) ->
   gK (model P w) A (.builtin "set.update.loop" ([.ref S,.ref I],[])) R s:=by
 have g:=λh=>f (W.sub _ h);have sub:∀b∈wr,b∈S::wr:=λb h=>bp _ h;intro k
 induction k with
 |zero=>
  intro i s p hi st q fin;obtain rfl:i=n:=by lia
  show kC F.entry_set_update_loop ?_
  show ak (W.done s _ _ st λc m=>(aE (fin c (m.mono sub) (q.stay λo e=>m.heap S o g e))))
 |succ k r=>
  intro i s p hi st q fin;have lt:i<n:=by lia
  show kC F.entry_set_update_loop ?_;show ak (W.item i s _ _ lt st λv c l d m=>?_);have(t,rfl):=hv i v l;show ak (jV ?_);show jV (ak ((fT P w).pyHash (intKind_is _ _ _ _) ?_));have room:Z (eY val i)+1<lE:=by have:=firstMet_length_le val i;lia
  show Qb (intKind_is _ _ _ _) rfl (q.stay λo e=>m.heap S o g e) room λh' sb u=>?_;have x:d5 P w h' S led (λj=>(eY val _).any (·==j)) (Z (eY val _)):=u.congr (λj=>by rw[firstMet_succ,step_any]) (by rw[firstMet_succ,step_length]);show aE (mO F.plain_set_update_loop _,r _ _ (by lia) lt (W.frame _ c _ _ d (ko _) λb a o e=>?_) x λs2 m2 y=>?_)
  .rw[sb.2 b λh=>f (by rw[<- h];show a)];show e
  .show fin s2 (Moved.trans W.gtrans ((m.mono sub).then_heap (ko _) λb o a e=>?_) m2) y;rw[sb.2 b λh=>a (by rw[h];show aA)];show e
nonrec def jG(led:Bool):Obj:={cls:=.type "set",dict:=ab,data:=.set #[] 0 (.fresh 0 0 led)}
def Qd(a:Value){Q:PRS}(h:Q (.ref s.heap.objs.size) {s with heap:=s.heap.push (jG (eP w))}):
  gK (model P w) A (.call (.builtin "set.__new__") ([.type "set",a],[])) (wants Q X4) s:=by
 show codeAny_of_tree ?_;show ak (q9 (F.newCall_set_1 a) (aE (mO F.plain_set_new _,kC F.entry_set_new ?_)));have b:=sub_set_self
 wp_walk
 show wpAny_askSetting (aE ?_);show ak (wpAny_alloc (aE (aE h)))
def Qe(h:Heap)(led:Bool):d5 P w (h.push (jG led)) h.objs.size led (λ_=>af) 0:=
 (_,#[],0,_,cQ _ rfl,(rfl,rfl,rfl),rfl,λe a=>by simp at a,λk=>by simp,by decide,rfl,rfl,by unfold Ris;simp[dL.fresh],rfl)
set_option maxRecDepth 100000
variable{ns:LI0}
set_option maxHeartbeats 8000000 in
def Qf{items:Array Value}{Q:PRS}(hh:A.handled=ab)(hl:s.heap.IsList l items)(hi:gf items.toList ns)(hb:items.size+1<lE)
 (h:∀ (h':Heap) (g:Nat),d5 P w h' s.heap.objs.size (eP w) (λj=>(eY (λi=>ns.getD i 0) items.size).any (·==j)) (Z (eY (λi=>ns.getD i 0) items.size)) ->
   (∀b o,b<s.heap.objs.size->s.heap.get? b=aa o->h'.get? b=aa o)->s.toks<=g->Q (.ref s.heap.objs.size) {s with heap:=h',toks:=g}):
  wpAny (model P w) A (call (.type "set") [.ref l]) Q X4 s:=by
 have(c,tl,L):=lF.mro;have E:=lF.made;have M:=lF.sub;show wpAny_call (codeAny_of_tree ?_);change wpAny _ _ (callAny (.type "set") _) _ _ _;show aE (Code.quiet_builtin _ (by decide +kernel),kC F.entry_type_call ?_);rw[ca.under_plain (weight_type_call_type "set" [.ref l] []) rfl];have h1:=lF.notType;have h2:=lF.canCreate;have hct:=F.typeCall_set_1 (.ref l)
 repeat (any_goals (first |assumption |wp_step))
 show lC (Qd (.ref l) (X4:=X4) (Q:=λN d=>N=.ref s.heap.objs.size/\d={s with heap:=s.heap.push (jG (eP w))}) (rfl,rfl)) λr d hr=>?_
 cases r with
 |error e=>show hr
 |ok fl=>
  cases fl with
  |ret N=>
   have(rfl,rfl):=hr;have g0:(s.heap.push (jG (eP w))).get? s.heap.objs.size=aa (jG (eP w)):=cQ _ rfl
   have hT:uh {s with heap:=s.heap.push (jG (eP w))} (.ref s.heap.objs.size) "set":=(_,g0,rfl)
   have hli:=lF.init.lookup;have hbi:=lF.init.bind (.ref s.heap.objs.size)
   repeat (any_goals (first |assumption |wp_step))
   show lC (xB (R:=wants (λr b3=>r=.none/\∃ h' g,b3={ s with heap:=h',toks:=g }/\s.toks<=g /\
     d5 P w h' s.heap.objs.size (eP w) (λj=>(eY (λi=>ns.getD i 0) items.size).any (·==j)) (Z (eY (λi=>ns.getD i 0) items.size)) /\
     (∀b o,b<s.heap.objs.size->s.heap.get? b=aa o->h'.get? b=aa o)) X4) lF.init.plain F.entry_set_init (check_set_init_1 hT ?_)) λy b3 a=>?_
   .have((oc,od,odt,os),u,n,nl,p):=hl;simp only at n p;subst n p;have x:(s.heap.push (jG (eP w))).get? l=aa {cls:=.type "list",dict:=od,data:=.seq items nl,slots:=os}:=bG _ u;have k1:=F.sub_list_set;have k2:=F.sub_list_frozenset;have k3:(kG "list" == kG "dict")=af:=by decide
    have q:(s.heap.push (jG (eP w))).IsList l items:=(_,x,rfl,nl,rfl);unfold d8.«set.__init__» noKeywords d8.Frozenset.updateFrom;generalize z:pyIter=PI
    wp_walk
    subst z;show t8 q (ak (wpAny_runValue ?_));have lt:l<s.heap.objs.size:=bF u;have C:A.in1.in1.in1.handled=ab:=by simp[hh]
    have G:l≠(s.heap.push (jG (eP w))).objs.size:=by rw[ji];show bY (jS lt)
    have H:s.heap.objs.size∉[(s.heap.push (jG (eP w))).objs.size,l]:=by
     rw[ji];simp only[bc,cG,or_false,not_or];show(bY (di _),lz lt)
    have hv:∀(i:Nat) (v:Value),items[i]?=aa v->∃t,v=.int ((λi=>ns.getD i 0) i) t:=λi v hv=>gf.int_at hi i v (by rw[qI];show hv);show Qc (led:=eP w) ((Walks.list C _ l G items).toS) s.heap.objs.size H (λi=>ns.getD i 0) hv hb (items.size-0) 0 _ (by lia) (cr _) ((_,cQ _ rfl,rfl,rfl),(q.push _)) ?hS0 ?hR
    case hS0=>show((Qe (P:=P) (w:=w) s.heap (eP w)).stay λo e=>bG _ e).congr (λ_=>rfl) rfl
    case hR=>
     intro s' hm B;have(h',g',d',J,I):=s';have U:g'=s.gens:=hm.gens;have T:d'=s.drawn:=hm.drawn;have Y:I=s.os:=hm.os;subst U T Y;change wpAny _ _ _ _ _ _;show aE ?_;change wpAny _ _ (ret mU) _ _ _;show aE (rfl,h',J,rfl,hm.toks,B,λb o m e=>?_);have n2:b≠(s.heap.push (jG (eP w))).objs.size:=by rw[ji];show bY (jS m)
     show hm.heap b o ?_ (bG _ (bG _ e));simp only[bc,cG,or_false,not_or];show(bY m,n2)
   .cases y with
    |error e=>show a
    |ok f=>
     cases f with
     |ret r=>
      have(rfl,h',g,rfl,htk,q',kk):=a
      repeat (any_goals (first |assumption |wp_step))
      show h _ _ q' kk htk
     | _=>show a.elim
  | _=>show hr.elim
set_option maxRecDepth 100000
def zm{a:Type}:∀(l:List a) (i:Nat) (x:a),l[i]?=aa x->(x::l.eraseIdx i).Perm l
 | [],_,_,h=>by simp at h
 |y::l,0,x,h=>by simp at h;subst h;rfl
 |y::l,i+1,x,h=>by
  have:=zm l i x (by simpa using h);show(List.Perm.swap y x _).trans (xu y this)
def G9{d:Type}(next:Nat->Nat):∀(a k:Nat) (left:List d) (out:Array d),Z left=a->(jg.go next a k left out).toList.Perm (out.toList++left)
 | 0,k,left,out,h=>by
  obtain rfl:left=[]:=tU.mp h;dsimp only[jg.go]
  simp
 |a+1,k,left,out,h=>by
  dsimp only[jg.go]
  have b:next k % Z left<Z left:=Nat.mod_lt _ (by lia)
  have c:=b7 b;rw[c]
  show(G9 next a _ _ _ (by rw[length_eraseIdx_of_lt b];lia)).trans ?_
  rw[xj,cO];show xr _ (zm left _ _ c)
def zn{a:Type}(next:Nat->Nat)(C:Array a):(jg next C).toList.Perm C.toList:=by
 have:=G9 next C.size 0 C.toList #[] (by simp)
 simpa[jg]using this
def Qg{a:Source}{Q:Nat->ah->Prop}(hn:n≠0)(h:∀i,i<n->Q i {s with drawn:=s.drawn.bump a}):wpAny (model P w) A (choose a n) Q X4 s:=λΓ p b=>
 (hn,h _ (Nat.mod_lt _ (Nat.pos_of_ne_zero hn)))
def Ha{b:Type}:∀(n:Nat) (C:List b) {s:ah} {Q:List b->ah->Prop},Z C=n->(∀ys d,ys.Perm C->Q ys {s with drawn:=d})->wpAny (model P w) A (drawOrder n C) Q X4 s
 | 0,C,s,Q,hl,h=>by
  obtain rfl:C=[]:=tU.mp hl;have:=h [] s.drawn (tX _)
  show aE (by cases s;show this)
 |n+1,[],s,Q,hl,h=>by cases hl
 |n+1,x::C,s,Q,hl,h=>by
  show ak (Qg (by simp) λi hi=>?_);have a:=b7 hi;rw[a];show ak (Ha n _ (by rw[length_eraseIdx_of_lt hi];lia) λys d c=>aE (h _ d ((xu _ c).trans (zm _ _ _ a))))
set_option maxRecDepth 100000
def iX:Slot "set_iterator" "__next__" "set_iterator.__next__" :=
 .of (owner:="set_iterator") (n:="__next__") (by rw[kE,kA];kernel_rfl) (by decide +kernel) (by decide +kernel) (by decide +kernel) (by first |show .inl (by decide +kernel) |grind) (by rw[mN];kernel_rfl)
def ve:mS table "set_iterator.__next__"=aa d8.«set_iterator.__next__»:=entryFor_of_fast (by kernel_rfl)
def vf(a:Value):argsOk "set_iterator.__next__" ([a],[]):=by unfold argsOk;kernel_rfl
def Hb:Slot "set_iterator" "__iter__" "set_iterator.__iter__" :=
 .of (owner:="set_iterator") (n:="__iter__") (by rw[kE,kA];kernel_rfl) (by decide +kernel) (by decide +kernel) (by decide +kernel) (by first |show .inl (by decide +kernel) |grind) (by rw[mN];kernel_rfl)
def Qh:mS table "set_iterator.__iter__"=aa d8.«dict_keyiterator.__iter__»:=
 entryFor_alias (id':="dict_keyiterator.__iter__") (by kernel_rfl) (by first |rfl |decide +kernel |(unfold String.splitOn;simp +decide [String.splitOnAux])) (by decide +kernel) (by kernel_rfl)
def Qi(a:Value):argsOk "set_iterator.__iter__" ([a],[]):=by unfold argsOk;kernel_rfl
nonrec abbrev ix(h:Heap)(I:Addr)(b:Value)(i:Nat)(a:Addr)(n ep:Nat):Prop:=
 h.get? I=aa {cls:=.type "set_iterator",dict:=ab,data:=.fields #[b,cv i,.ref a,cv n,cv ep],slots:=#[]}
variable{slot:Nat}{Q:Option Value->ah->Prop}
def Hc{slot':Nat}{o:Obj}{v:Value}(b:ix s.heap I (cv slot) i a n ep)(m:s.heap.get? a=aa o)(hd:o.data=.set aF ep tb)(l:tb.fits aF.size=ac)(hn:aF.size=n)
 (h:∀(A':ca) (d:PRS) (R:Option (Value×Nat)->ah->Prop),R (aa (v,slot',)) s->wpAny (model P w) A' (setNext a slot i ep) R d s)
 (j:∀h',ix h' I (cv slot') (i+1) a n ep->gj I s.heap h'->Q (aa v) {s with heap:=h'}):wpAny (model P w) A (ib (.ref I)) Q X4 s:=by
 have c:s.TypeIs (.ref I) "set_iterator":=(_,b,rfl);unfold ib;show ak (oZ (oV (name:=ui "__next__") c iX (jT iX c ve ?_ (vf _))));change wpAny _ _ (fieldsOf (.ref I) >>= _) _ _ s;show ak (uc b rfl ?_);show ak (qW m hd l ?_);have e:(((aF.size:Nat):Int) != (n:Int))=af:=by rw[hn];simp
 rw[e,if_neg bN];change wpAny _ _ (setNext a ((slot:Nat):Int).toNat ((i:Nat):Int).toNat (S ((ep:Nat):Int)) >>= _) _ _ s;show ak (h _ _ _ ?_);show ak (oW b (by simp) λp f s1=>?_);show ak (oW f (by simp) λh2 g s2=>aE (v,rfl,aE (j h2 ?_ (gj.trans s1 s2))));change h2.get? I=_;rw[g];rfl
def He{o:Obj}(l:A.handled=ab)(c:ix s.heap I (cv slot) i a n ep)(p:s.heap.get? a=aa o)(hd:o.data=.set aF ep tb)(j:tb.fits aF.size=ac)(hn:aF.size=n)
 (g:∀(A':ca) (e:PRS) (R:Option (Value×Nat)->ah->Prop),R ab s->wpAny (model P w) A' (setNext a slot i ep) R e s)
 (h:∀h',Heap.ExtBut I s.heap h'->Q ab {s with heap:=h'}):wpAny (model P w) A (ib (.ref I)) Q X4 s:=by
 have d:s.TypeIs (.ref I) "set_iterator":=(_,c,rfl);unfold ib;show ak (oZ (oV (name:=ui "__next__") d iX (jT iX d ve ?_ (vf _))));change wpAny _ _ (fieldsOf (.ref I) >>= _) _ _ s;show ak (uc c rfl ?_);show ak (qW p hd j ?_);have f:(((aF.size:Nat):Int) != (n:Int))=af:=by rw[hn];simp
 rw[f,if_neg bN];simp only[cY,cY,cY];show ak (g _ _ _ ?_);show ak (oW c (by simp) λr q s1=>?_);change wpAny _ _ (newExc (.type "StopIteration") [] >>= _) _ _ _;show ak ?_;simp only[newExc,newTuple];show ak (je ?_ (by size_fits))
 show ak (m:=qZ _ _) (q9 (a:=mU) (by first |rfl |(simp only[qZ];rfl)) ?_)
 show je ?_ (by size_fits);show ak (wpAny_handled ?_);rw[show A.in1.handled=ab from l];show ak (aE (wpAny_throw ?_));show ak (qY (T:="StopIteration") (b:=ac) (_,cQ _ rfl,rfl) isSubtype_stop ?_);show aE (h _ ((s1.extBut.push _).push _))
variable{T:Addr}{pls:Array Value}
def Qj{pl:Nat}{o:Obj}{q:Int}{v:Value}(c:ix s.heap I (.ref T) i a n ep)(f:s.heap.get? a=aa o)(hd:o.data=.set aF ep tb)(e:tb.fits aF.size=ac)(hn:aF.size=n)
 (l:s.heap.get? T=aa {cls:=.type "tuple",data:=.seq pls})(p:pls[i]?=aa (cv pl))(m:aF[pl]?=aa (q,v,))
 (j:∀h',ix h' I (.ref T) (i+1) a n ep->gj I s.heap h'->Q (aa v) {s with heap:=h'}):wpAny (model P w) A (ib (.ref I)) Q X4 s:=by
 have b:s.TypeIs (.ref I) "set_iterator":=(_,c,rfl);unfold ib;show ak (oZ (oV (name:=ui "__next__") b iX (jT iX b ve ?_ (vf _))));change wpAny _ _ (fieldsOf (.ref I) >>= _) _ _ s;show ak (uc c rfl ?_);show ak (qW f hd e ?_);have g:(((aF.size:Nat):Int) != (n:Int))=af:=by rw[hn];simp
 rw[g,if_neg bN];change wpAny _ _ (seqItems? (.ref T) >>= _) _ _ s;show ak (ud l rfl ?_)
 change wpAny _ _ (match pls[S ((i:Nat):Int)]? with |some (.int place _)=>_ |some _=>_ |none=>_) _ _ s
 rw[cY,p];change wpAny _ _ (setNextDrawn a ((pl:Nat):Int).toNat (S ((ep:Nat):Int)) >>= _) _ _ s;simp only[cY,cY];show ak ?_;unfold setNextDrawn;show ak (oX f hd e ?_);dsimp only;rw[if_neg (by simp)];rw[m];show aE ?_;show ak (oW c (by simp) λd h s1=>aE (v,rfl,aE (j d ?_ s1)));change d.get? I=_;rw[h];rfl
def Qk{o:Obj}(l:A.handled=ab)(c:ix s.heap I (.ref T) i a n ep)(p:s.heap.get? a=aa o)(hd:o.data=.set aF ep tb)(j:tb.fits aF.size=ac)(hn:aF.size=n)
 (d:s.heap.get? T=aa {cls:=.type "tuple",data:=.seq pls})(q:pls[i]?=ab)
 (h:∀h',Heap.ExtBut I s.heap h'->Q ab {s with heap:=h'}):wpAny (model P w) A (ib (.ref I)) Q X4 s:=by
 have e:s.TypeIs (.ref I) "set_iterator":=(_,c,rfl);unfold ib;show ak (oZ (oV (name:=ui "__next__") e iX (jT iX e ve ?_ (vf _))));change wpAny _ _ (fieldsOf (.ref I) >>= _) _ _ s;show ak (uc c rfl ?_);show ak (qW p hd j ?_);have f:(((aF.size:Nat):Int) != (n:Int))=af:=by rw[hn];simp
 rw[f,if_neg bN];change wpAny _ _ (seqItems? (.ref T) >>= _) _ _ s;show ak (ud d rfl ?_)
 change wpAny _ _ (match pls[S ((i:Nat):Int)]? with |some (.int place _)=>_ |some _=>_ |none=>_) _ _ s
 rw[cY,q];show ak (oW c (by simp) λv g r=>?_);show ak (oW g (by simp) λx u s1=>?_);change wpAny _ _ (newExc (.type "StopIteration") [] >>= _) _ _ _;show ak ?_;show ak (je ?_ (by size_fits))
 show ak (m:=qZ _ _) (q9 (a:=mU) (by first |rfl |(simp only[qZ];rfl)) ?_)
 show je ?_ (by size_fits);show ak (wpAny_handled ?_);rw[show A.in1.handled=ab from l];show ak (aE (wpAny_throw ?_));show ak (qY (T:="StopIteration") (b:=ac) (_,cQ _ rfl,rfl) isSubtype_stop ?_);show aE (h _ (((gj.trans r s1).extBut.push _).push _))
set_option maxRecDepth 100000
def Ql:mS table "set.__iter__"=aa d8.«frozenset.__iter__»:=
 entryFor_alias (id':="frozenset.__iter__") (by kernel_rfl) (by first |rfl |decide +kernel |(unfold String.splitOn;simp +decide [String.splitOnAux])) (by decide +kernel) (by kernel_rfl)
abbrev sd(pl:Array Nat):Nat->Nat
 | 0=>0
 |i+1=>pl.getD i 0+1
def Hg{pl:Array Nat}(hi:i<pl.size):sd pl (i+1)=pl[i]+1:=by
 change pl.getD i 0+1=_;simp[qJ,hi]
def Hh{a b:Type}{f:a->Option b}{g:a->b}:∀(l:List a),(∀x∈l,f x=aa (g x))->l.filterMap f=l.map g
 | [],_=>rfl
 |x::l,h=>by simp only[qP,h x aA,bO,Hh l λy c=>h y (bp _ c)]
def Hi{pl:Array Nat}(h:Ris pl):∀i,i<=pl.size->cH pl (sd pl i)=i
 | 0,_=>P3 h
 |i+1,hi=>by
  rw[Hg (by lia)];show P2 h (by lia)
def vg{Q:Bool->ah->Prop}(h:Q (w.params.followText "set-order") s):wpAny (model P w) A setsByText Q X4 s:=by
 show ak (wpAny_askSetting (aE h))
def Hj{o:Obj}{R:Option (Value×Nat)->ah->Prop}(c:s.heap.get? a=aa o)(hd:o.data=.set aF ep tb)(b:tb.fits aF.size=ac)(d:w.params.followText "set-order"=ac)
 (h:R (((jg (w.params.setOrder a ep) aF)[i]?).map λe=>(e.2,slot,)) s):wpAny (model P w) A (setNext a slot i ep) R X4 s:=by
 show ak (oX c hd b ?_);show ak (vg ?_);rw[d,if_pos rfl,if_neg (by simp)];show ak ?_;show ak (oX c hd b ?_);show ak (vg ?_);rw[d,if_pos rfl];show ak (wpAny_askSetting (aE (aE h)))
def Hk{o:Obj}{R:Option (Value×Nat)->ah->Prop}(d:s.heap.get? a=aa o)(hd:o.data=.set aF ep tb)(c:tb.fits aF.size=ac)(e:w.params.followText "set-order"=af)(f:(!tb.plain && decide (aF.size>1))=af)(b:tb.led=ac)
 (h:R (match aF[cH tb.place slot]?,tb.place[cH tb.place slot]? with |some (_,x),aa j=>aa (x,j+1,) | _,_=>ab) s):wpAny (model P w) A (setNext a slot i ep) R X4 s:=by
 show ak (oX d hd c ?_);show ak (vg ?_);rw[e,if_neg bN];change wpAny _ _ (if (!tb.plain && decide _)=ac then _ else _) _ _ s;rw[f,if_neg bN];change wpAny _ _ ((if _=ac then unsupported "set:maker-not-led" else pure ()) >>= _) _ _ s;rw[b,Bool.not_true,Bool.false_and,if_neg bN];show ak (aE (aE h))
def zo{b:Value}{Q:PRS}(d:ix s.heap I b i a n ep)(h:Q (.ref I) s):wpAny (model P w) A (pyIter (.ref I)) Q X4 s:=by
 have c:s.TypeIs (.ref I) "set_iterator":=(_,d,rfl);show wpAny_pyIter_slot c Hb (jT Hb c Qh (aE (_,rfl,"set_iterator",_,c,iX.lookup,h)) (Qi _))
def Qm{o:Obj}(hh:A.handled=ab)(ne:a≠I)(hd:o.data=.set aF ep tb)(hf:tb.fits aF.size=ac)(hn:aF.size=n)(ht:w.params.followText "set-order"=ac):
  WalksS P w A I [I,a] [I] (λx y=>y=x) n (λi v=>((jg (w.params.setOrder a ep) aF).toList.map (·.2))[i]?=aa v) (λi s=>ix s.heap I (cv ((0:Nat):Int)) i a n ep/\s.heap.get? a=aa o) where
 sub:=λb hb=>by simp at hb;simp[hb]
 grefl:=λ_=>rfl
 gtrans:=λ_ _ _ h1 h2=>h2.trans h1
 frame:=λi s h' tk st _ hk=>(hk I (by simp) _ st.1,hk a (by simp) _ st.2)
 item:=λi s Q X4 hi st hQ=>by
  have hz:(jg (w.params.setOrder a ep) aF).size=n:=by rw[<- ja,(zn _ _).length_eq,ja,hn]
  have hx:_[i]?=aa (jg (w.params.setOrder a ep) aF)[i]:=mr (by lia);show Hc st.1 st.2 hd hf hn (λA' E' R r=>Hj st.2 hd hf ht (by rw[hx];show r)) λh' g sb=>?_;show hQ _ _ (by rw[cz,qI,hx];rfl) (g,(sb.2 a ne).trans st.2) (λb o' hb e=>(sb.2 b (λh=>hb (by simp[h]))).trans e,rfl,rfl,rfl,aO _)
 done:=λs Q X4 st hQ=>by
  have hz:(jg (w.params.setOrder a ep) aF).size=n:=by rw[<- ja,(zn _ _).length_eq,ja,hn]
  have hx:(jg (w.params.setOrder a ep) aF)[n]?=ab:=Array.getElem?_eq_none (by lia);show He hh st.1 st.2 hd hf hn (λA' E' R r=>Hj st.2 hd hf ht (by rw[hx];show r)) λh' eb=>hQ _ (λb o' hb e=>eb b o' (λh=>hb (by simp[h])) e,rfl,rfl,rfl,aO _)
 self:=λi s Q X4 st hQ=>zo st.1 hQ
def Qo{o:Obj}(hh:A.handled=ab)(ne:a≠I)(hd:o.data=.set aF ep tb)(hf:tb.fits aF.size=ac)(hn:aF.size=n)(ht:w.params.followText "set-order"=af)(hw:(!tb.plain && decide (aF.size>1))=af)(hled:tb.led=ac)(hr:Ris tb.place):
  WalksS P w A I [I,a] [I] (λx y=>y=x) n (λi v=>(aF.toList.map (·.2))[i]?=aa v) (λi s=>ix s.heap I (cv ((sd tb.place i:Nat):Int)) i a n ep/\s.heap.get? a=aa o) where
 sub:=λb hb=>by simp at hb;simp[hb]
 grefl:=λ_=>rfl
 gtrans:=λ_ _ _ h1 h2=>h2.trans h1
 frame:=λi s h' tk st _ hk=>(hk I (by simp) _ st.1,hk a (by simp) _ st.2)
 item:=λi s Q X4 hi st hQ=>by
  have hz:tb.place.size=aF.size:=by simp only[dL.fits,b6,beq_iff_eq]at hf;show hf.1
  have hb:=Hi hr i (by lia);have hx:aF[i]?=aa aF[i]:=mr (by lia);have hp:tb.place[i]?=aa tb.place[i]:=mr (by lia);have es:sd tb.place _=tb.place[i]'(by lia)+1:=Hg (by lia);show Hc st.1 st.2 hd hf hn (slot':=sd tb.place _) (λA' E' R r=>Hk st.2 hd hf ht hw hled (by rw[hb,hx,hp];rw[es]at r;show r)) λh' g sb=>?_;show hQ _ _ (by rw[cz,qI,hx];rfl) (g,(sb.2 a ne).trans st.2) (λb o' hb e=>(sb.2 b (λh=>hb (by simp[h]))).trans e,rfl,rfl,rfl,aO _)
 done:=λs Q X4 st hQ=>by
  have hz:tb.place.size=aF.size:=by simp only[dL.fits,b6,beq_iff_eq]at hf;show hf.1
  have hb:=Hi hr n (by lia);have hx:aF[n]?=ab:=Array.getElem?_eq_none (by lia);show He hh st.1 st.2 hd hf hn (λA' E' R r=>Hk st.2 hd hf ht hw hled (by rw[hb,hx];show r)) λh' eb=>hQ _ (λb o' hb e=>eb b o' (λh=>hb (by simp[h])) e,rfl,rfl,rfl,aO _)
 self:=λi s Q X4 st hQ=>zo st.1 hQ
def Qp{o:Obj}(hh:A.handled=ab)(ne:a≠I)(nT:T≠I)(hd:o.data=.set aF ep tb)(hf:tb.fits aF.size=ac)(hn:aF.size=n){ord:LN}(hp:ord.Perm (bI n)):
  WalksS P w A I [I,a,T] [I] (λx y=>y=x) n (λi v=>(ord.filterMap λj=>(aF[j]?).map (·.2))[i]?=aa v)
   (λi s=>ix s.heap I (.ref T) i a n ep/\s.heap.get? a=aa o/\s.heap.get? T=aa {cls:=.type "tuple",data:=.seq (ord.map λ(j:Nat)=>cv j).toArray}) where
 sub:=λb hb=>by simp at hb;simp[hb]
 grefl:=λ_=>rfl
 gtrans:=λ_ _ _ h1 h2=>h2.trans h1
 frame:=λi s h' tk st _ hk=>(hk I (by simp) _ st.1,hk a (by simp) _ st.2.1,hk T (by simp) _ st.2.2)
 item:=λi s Q X4 hi st hQ=>by
  have hl:Z ord=n:=by rw[hp.length_eq,cN]
  have lt:∀j∈ord,j<aF.size:=λj hj=>by rw[hn];show fG.mp (hp.mem_iff.mp hj)
  have hj:ord[i]?=aa _:=b7 (by lia);have hlt:ord[i]'(by lia)<aF.size:=lt _ (g9 _);have hx:=mr hlt
  have em:(ord.filterMap λj=>(aF[j]?).map (·.2))=ord.map λj=>((aF[j]?).map (·.2)).getD .none:=by
   show Hh ord λj hj=>?_;have:aF[j]?=aa _:=mr (lt j hj);rw[this];rfl
  show Qj st.1 st.2.1 hd hf hn st.2.2 (by rw[List.getElem?_toArray,cz,hj];rfl) hx λh' g sb=>?_;show hQ _ _ ?_ (g,(sb.2 a ne).trans st.2.1,(sb.2 T nT).trans st.2.2) (λb o' hb e=>(sb.2 b (λh=>hb (by simp[h]))).trans e,rfl,rfl,rfl,aO _);rw[em,cz,hj];simp only[Option.map_some,hx];rfl
 done:=λs Q X4 st hQ=>by
  have hl:Z ord=n:=by rw[hp.length_eq,cN]
  show Qk hh st.1 st.2.1 hd hf hn st.2.2 (by rw[List.getElem?_toArray];show gb (by simp;lia)) λh' eb=>hQ _ (λb o' hb e=>eb b o' (λh=>hb (by simp[h])) e,rfl,rfl,rfl,aO _)
 self:=λi s Q X4 st hQ=>zo st.1 hQ
set_option maxRecDepth 100000
def Hl{P:ci}{w:World}:∀(l:List (Int×Value)),ElemsOf (fT P w) l->∃ns:LI0,gf (l.map (·.2)) ns/\∀k,(∃e∈l,(fT P w).is k e.2=ac)↔k∈ns
 | [],_=>([],.nil,λk=>by simp)
 |e::l,h=>by
  have(ns,d,h2):=Hl l h.tail;have((k,b,_),_):=h.head;have(t,c):=Value.isInt_shape b;show(k::ns,by rw[bO,c];show .cons k t d,λj=>?_);rw[bc,<- h2 j];constructor
  .rintro⟨x,a,q⟩
   rcases bc.mp a with rfl |a
   .show .inl ((fT P w).inj _ _ _ q b)
   .show .inr (x,a,q)
  .rintro(rfl |⟨x,a,q⟩)
   .show(e,aA,b)
   .show(x,bp _ a,q)
def Hm{a:Type}(C:List a):∀(n k:Nat),k+n=Z C->(List.range' k n).filterMap (λj=>C[j]?)=C.drop k
 | 0,k,h=>by rw[range'_zero,filterMap_nil,drop_of_length_le (by lia)]
 |n+1,k,h=>by
  rw[range'_succ,qP,b7 _,Hm C n _ (by lia),drop_eq_getElem_cons (show k<C.length by lia)]
def Qq{a:Type}(C:Array a):(bI C.size).filterMap (λj=>C[j]?)=C.toList:=by
 have:=Hm C.toList C.size 0 (by simp);rw[drop_zero]at this;rw[range_eq_range',<- this];simp
def Qr{S:Int->Bool}{Q:PRS}(q:d5 P w s.heap a (eP w) S n)
 (H:∀ (I:Addr) (fp:LAd) (l:LVa) (ns:LI0) (St:Nat->ah->Prop) (h':Heap) (d':Drawn),(∀ A' : ca,A'.handled=ab->WalksS P w A' I fp [I] (λx y=>y=x) n (λi v=>l[i]?=aa v) St) ->
   St 0 {s with heap:=h',drawn:=d'}->(∀b o,s.heap.get? b=aa o->h'.get? b=aa o)->s.heap.objs.size<=I->I∈fp->(∀b∈fp,b<h'.objs.size/\(b=a\/s.heap.objs.size<=b))->gf l ns->Z ns=n->(∀k,S k=ac↔k∈ns)->Q (.ref I) {s with heap:=h',drawn:=d'}):
  wpAny (model P w) A (pyIter (.ref a)) Q X4 s:=by
 have(o,aF,ep,tb,f,L,hd,J,hm,hb,h,hn,hr,C):=q;have U:s.TypeIs (.ref a) "set":=(o,f,L.1);have u:=bF f
 have fin:∀(vs:List _),vs.Perm aF.toList->∃ns,gf _ ns/\Z ns=n/\∀k,S k=ac↔k∈ns:=λvs p=>by
  have(ns,T,h2):=Hl vs (J.perm p);show(ns,T,?_,λk=>?_)
  .rw[<- T.length,az,p.length_eq,ja,hn]
  .grind
 show wpAny_pyIter_slot U F.slot_set_iter (jT F.slot_set_iter U Ql ?_ (F.args_set_iter_1 _));change wpAny _ _ (d8.Frozenset.sizeOf a >>= _) _ _ s;show ak ?_;show ak (qW f hd h (aE ?_));show ak ?_;show ak (oX f hd h ?_);show ak (vg (aE ?_));change wpAny _ _ (if (!w.params.followText "set-order" && (!tb.plain && decide _))=ac then _ else _) _ _ s
 cases N:w.params.followText "set-order" with
 |true=>
  show ak (aE (ak (wpAny_setEpoch_of f hd h ?_)));show ak (je ?_ (by size_fits));show aE ?_;have(ns,r,E,G):=fin _ (zn _ aF);have g:ix _ s.heap.objs.size (cv (0:Int)) 0 a n ep:=cQ _ rfl;rw[hn];show(_,rfl,"set_iterator",_,(_,g,rfl),iX.lookup,?_);show H s.heap.objs.size [s.heap.objs.size,a] _ ns _ _ s.drawn (λA' B=>Qm B (bY u) hd h hn N) (g,bG _ f) (λb o' e=>bG _ e) (aO _) (by simp) (λb c=>?_) r E G;rw[ji];simp only[bc,cG,or_false]at c
  rcases c with rfl |rfl
  .show(di _,.inr (aO _))
  .show(jS u,.inl rfl)
 |false=>
  have m:tb.led=ac:=by rw[C];unfold eP;rw[N];rfl
  cases Y:(!tb.plain && decide (aF.size>1))with
  |false=>
   show ak (aE (ak (wpAny_setEpoch_of f hd h ?_)));show ak (je ?_ (by size_fits));show aE ?_;have(ns,r,E,G):=fin _ (tX _);have g:ix (s.heap.push {cls:=.type "set_iterator",dict:=ab,data:=.fields #[cv ((0:Nat):Int),cv ((0:Nat):Int),.ref a,cv n,cv ep],slots:=#[]}) s.heap.objs.size (cv ((0:Nat):Int)) 0 a n ep:=cQ _ rfl;rw[hn];show(_,rfl,"set_iterator",_,(_,g,rfl),iX.lookup,?_);show H s.heap.objs.size [s.heap.objs.size,a] _ ns _ _ s.drawn (λA' B=>Qo B (bY u) hd h hn N Y m hr) (g,bG _ f) (λb o' e=>bG _ e) (aO _) (by simp) (λb c=>?_) r E G;rw[ji];simp only[bc,cG,or_false]at c
   rcases c with rfl |rfl
   .show(di _,.inr (aO _))
   .show(jS u,.inl rfl)
  |true=>
   show ak (Ha _ _ (by rw[cN]) λord d p=>?_);rw[hn]at p;have M:Z ((ord.map λ(i:Nat)=>cv i))<=aX:=by rw[az,p.length_eq,cN];show fits_of_scanBound (by lia)
   show ak (wpAny_newTuple ?_ M)
   show ak (wpAny_setEpoch_of (s:={s with heap:=s.heap.push {cls:=.type "tuple",data:=.seq (ord.map λ(i:Nat)=>cv i).toArray},drawn:=d}) (bG _ f) hd h ?_)
   show ak (je ?_ (by size_fits));show aE ?_
   have pv:(ord.filterMap λj=>aF[j]?).Perm aF.toList:=by
    have:=p.filterMap λj=>aF[j]?;rw[<- hn,Qq]at this;show this
   have(ns,r,E,G):=fin _ pv;rw[map_filterMap]at r
   have g:ix ((s.heap.push {cls:=.type "tuple",data:=.seq (ord.map λ(i:Nat)=>cv i).toArray}).push {cls:=.type "set_iterator",dict:=ab,data:=.fields #[.ref s.heap.objs.size,cv ((0:Nat):Int),.ref a,cv n,cv ep],slots:=#[]})
     (s.heap.push {cls:=.type "tuple",data:=.seq (ord.map λ(i:Nat)=>cv i).toArray}).objs.size (.ref s.heap.objs.size) 0 a n ep:=cQ _ rfl
   rw[hn];show(_,rfl,"set_iterator",_,(_,g,rfl),iX.lookup,?_);have z:(s.heap.push {cls:=.type "tuple",data:=.seq (ord.map λ(i:Nat)=>cv i).toArray}).objs.size=s.heap.objs.size+1:=ji ..;show H _ [(s.heap.push {cls:=.type "tuple",data:=.seq (ord.map λ(i:Nat)=>cv i).toArray}).objs.size,a,s.heap.objs.size] _ ns _ _ d (λA' B=>Qp B (by rw[z];show bY (jS u)) (by rw[z];show bY (di _)) hd h hn p) (g,bG _ (bG _ f),bG _ (cQ _ rfl)) (λb o' e=>bG _ (bG _ e)) (by rw[z];show ko _) (by simp) (λb c=>?_) r E G;rw[ji];simp only[bc,cG,or_false]at c
   rcases c with rfl |rfl |rfl
   .show(di _,.inr (by rw[z];show ko _))
   .show(by rw[z];show jS (jS u),.inl rfl)
   .show(by rw[z];show jS (di _),.inr (aO _))
set_option maxRecDepth 100000
variable{c2:Array Value}
def Qs{a:LVa}(h:ItemsOf (λi v=>a[i]?=aa v) c2 n)(b:Z a=n):c2.toList=a:=by
 show mF λi=>?_
 by_cases hi:i<n
 .have e:c2[i]?=aa (c2[i]'(by rw[h.1];show hi)):=mr _;rw[qI,e];show(h.2 i _ e).symm
 .rw[gb (by rw[ja,h.1];lia),gb (by lia)]
def Qt:mQ (.type "set") "__len__"=pure (aa (.builtin "set.__len__")):=by rw[kE,kA];kernel_rfl
def Qu{S:Int->Bool}{Q:LVa->ah->Prop}(hh:A.handled=ab)(q:d5 P w s.heap a (eP w) S n)(hn:n<=aX)
 (hQ:∀(h':Heap) (d':Drawn) (N:Nat) (c:LVa) (ns:LI0),(∀b o,s.heap.get? b=aa o->h'.get? b=aa o)->s.heap.objs.size<=h'.objs.size->s.toks<=N->gf c ns->Z ns=n->(∀k,S k=ac↔k∈ns)->Q c {s with heap:=h',drawn:=d',toks:=N}):
  wpAny (model P w) A (collect (.ref a)) Q X4 s:=by
 unfold collect;show ak (wpAny_runValue (kC PySem.F.entry_proto_collect ?_));rw[ca.under_plainId PySem.F.plain_proto_collect _];change wpAny _ A.in1 (newList [] >>= λl=>again (.builtin "list.__iadd__" ([l,.ref a],[]))) _ _ s;show ak (je ?_);show aE (mO PySem.F.plain_list_iadd _,kC PySem.F.entry_list_iadd ?_);simp only[ca.under_plainId PySem.F.plain_list_iadd _];change wpAny _ A.in1 (xC (.ref s.heap.objs.size) (.ref a) (.ref s.heap.objs.size)) _ _ _;dsimp only[xC];have(o,aF,ep,tb,v,m,rest):=id q;have x:a<s.heap.objs.size:=bF v;have q1:d5 P w (s.heap.push {cls:=.type "list",data:=.seq ([]:LVa).toArray}) a (eP w) S n:=q.stay λo e=>bG _ e
 have hT:uh {s with heap:=s.heap.push {cls:=.type "list",data:=.seq ([]:LVa).toArray}} (.ref a) "set":=(o,bG _ v,m.1)
 show ak (wpAny_typeOf hT ?_);have k1:uf (.ref s.heap.objs.size) (.ref a)=af:=by simp[uf,lz x]
 have k2:(kG "set" == kG "list")=af:=by decide
 have k3:(kG "set" == kG "tuple")=af:=by decide
 simp only[k1,k2,k3,tR,Bool.false_eq_true,if_false];show ak (Qr q1 λI fp c ns St f g W z keep gI mI u J L i3=>?_)
 have d:uh {s with heap:=f,drawn:=g} (.ref a) "set":=(o,keep _ _ (bG _ v),m.1)
 have T:(s.heap.push {cls:=.type "list",data:=.seq ([]:LVa).toArray}).objs.size=s.heap.objs.size+1:=ji ..
 have M:s.heap.objs.size∉fp:=λhm=>by
  rcases(u _ hm).2 with e |e
  .show gH _ (by rw[<- e]at x;show x)
  .rw[T]at e;show Nat.not_succ_le_self _ e
 show ak (jV ?_);unfold ES;show ak (ua d Qt ?_);dsimp only;show ak (qY d sub_set_self ?_);show ak (wpAny_typeOf d (aE ?_))
 change wpAny _ A.in1 (rule "list.extend.makes-room" >>= λ_=>d8.List.listTouch (.ref s.heap.objs.size) >>= λ_ =>
  again (.builtin "list.extend.loop" ([.ref s.heap.objs.size,.ref I,.ref s.heap.objs.size],[]))) _ _ _
 show ak (lD ?_);have G:=keep _ _ (cQ _ rfl);show ak ?_
 show ak (ub (s:={s with heap:=f,drawn:=g}) G rfl ?_)
 have H:=o8 (ie (·.push mU)) G rfl
 show ub (s:={s with heap:=f.update s.heap.objs.size (ie (·.push mU)),drawn:=g}) H rfl ?_
 have g3:=o8 (ie (·.pop)) H rfl
 have p:∀b o,b≠s.heap.objs.size->f.get? b=aa o->((f.update s.heap.objs.size (ie (·.push mU))).update s.heap.objs.size (ie (·.pop))).get? b=aa o:=
  λb o r e=>(o7 _ _ (eX r)).trans ((o7 _ _ (eX r)).trans e)
 have C:=W A.in1 (by simp[hh])
 show aE (mO PySem.F.plain_extend_loop _,codeAny_extend_loopS C hn _ M _ n 0 _ _ _ rfl (cr _)
  (C.frame 0 ({s with heap:=f,drawn:=g}:ah) _ s.toks z (aO _) λb r o e=>p b o (λh=>M (h▸r)) e) g3 (ItemsOf.nil _) λs' E c' hm i j=>?_)
 show ak (wpAny_load i (aE ?_));have lv:Z c=n:=by rw[J.length,L]
 rw[Qs j lv];have(h2,g',d',B,os'):=s';have Y:=hm.gens;have U:d'=g:=hm.drawn;have eo:=hm.os;subst Y U eo;show hQ h2 d' B c ns (λb o' e=>?_) (fJ (bF i)) hm.toks J L i3;have y:=bF e;show hm.heap b o' ?_ (p b o' (bY y) (keep _ _ (bG _ e)));simp only[bc,cG,or_false,not_or];show(bY y,bY (fI y (cZ (by rw[T];show ko _) gI)))
def Qv{S:Int->Bool}{Q:PRS}(y:A.handled=ab)(q:d5 P w s.heap a (eP w) S n)(g:n<64)
 (x:∀ (p:Addr) (h':Heap) (d':Drawn) (d e:Nat) (out:Array Value) (ns:LI0),(∀ b o,s.heap.get? b=aa o->h'.get? b=aa o)->s.heap.objs.size<=p->s.toks<=d->h'.get? p=aa (seqObj "list" out e)->gf out.toList ns->ns.Pairwise (·<=·)->Z ns=n->(∀ k,S k=ac↔k∈ns) ->
   Q (.ref p) {s with heap:=h',drawn:=d',toks:=d}):wpAny (model P w) A (call (.builtin "sorted") [.ref a]) Q X4 s:=by
 show Calls.call_function_entry kind_sorted plain_sorted entry_sorted (args_sorted1 _) ?_;show ak (aE ?_);show ak (Qu (by simp[y]) q (by rw[dJ];lia) λm u d c ns keep grow htk h i z=>?_);show ak (wpAny_newList ?_ (by rw[h.length,i,dJ];lia));have f:(m.push _).get? m.objs.size=aa (seqObj "list" c.toArray 0):=cQ _ rfl;show ak (jV (jT slot_list_sort (_,f,rfl) entry_list_sort (list_sort_tree f h (by rw[h.length,i];show g) λout j o1 o2 B=>(_,rfl,?_)) (args_list_sort _)));have(e,v):=sortedHeap_at f;show aE (_,rfl,x _ _ u d e out j (λb o l=>?_) grow htk v o1 B (by rw[o2.length_eq,i]) λk=>(z k).trans (o2.mem_iff).symm);have r:=bF (keep b o l);rw[sortedHeap_old (bY r) (by rw[ji];show jS r)];show bG _ (keep b o l)
abbrev k7(x:Int):LI0->LI0
 | []=>[x]
 |y::r=>if x<y then x::y::r else if x=y then y::r else y::k7 x r
def cL(ns:LI0):LI0:=ns.foldr k7 []
def zp(x k:Int):∀l:LI0,k∈k7 x l↔k=x\/k∈l
 | []=>by simp[k7]
 |y::r=>by
  unfold k7;split
  .simp
  .split
   .grind
   .rw[bc,zp x k r,bc]
    grind
def Ho(x:Int):∀l:LI0,l.Pairwise (· < ·)->(k7 x l).Pairwise (· < ·)
 | [],_=>by simp[k7]
 |y::r,h=>by
  have(d,h2):=oQ.mp h;dsimp only[k7];split
  .rename_i f;show oQ.mpr (λk c=>?_,h)
   rcases bc.mp c with e |c
   .subst e;show f
   .show Int.lt_trans f (d k c)
  .split
   .show h
   .rename_i a b;show oQ.mpr (λk c=>?_,Ho x r h2)
    rcases(zp x k r).mp c with e |c
    .subst e;lia
    .show d k c
def iy(k:Int):∀l:LI0,k∈cL l↔k∈l
 | []=>by rfl
 |x::l=>by
  change k∈k7 x (cL l)↔_;rw[zp,iy k l,bc]
def k8:∀l:LI0,(cL l).Pairwise (· < ·)
 | []=>by simp[cL]
 |x::l=>Ho x _ (k8 l)
def vh:∀(l m:LI0),l.Pairwise (· < ·)->m.Pairwise (· < ·)->(∀k,k∈l↔k∈m)->l=m
 | [],[],_,_,_=>rfl
 | [],y::m,_,_,h=>by have:=(h y).mpr aA;simp at this
 |x::l,[],_,_,h=>by have:=(h x).mp aA;simp at this
 |x::l,y::m,hl,hm,h=>by
  have(b,a):=oQ.mp hl;have(m1,m2):=oQ.mp hm
  have e:x=y:=by
   rcases bc.mp ((h x).mp aA)with e |hx
   .lia
   .rcases bc.mp ((h y).mpr aA)with e |hy
    .grind
    .grind
  subst e;rw[vh l m a m2 λk=>?_]
  grind
def pY:∀(F X2:LI0),F.Nodup->(∀x∈F,x∈X2)->Z X2<=Z F->X2.Perm F
 | [],X2,_,_,h=>by
  grind
 |x::F,X2,hn,hs,h=>by
  have(d,b):=b8.mp hn;have a:=hs x aA;show(perm_cons_erase a).trans (xu x (pY F _ b (λy c=>?_) ?_))
  .grind
  .grind
def vi(val:Nat->Int):∀i,(eY val i).Nodup
 | 0=>by rw[firstMet_zero];grind
 |i+1=>by
  rw[firstMet_succ];unfold step_dedup;split
  .show vi val i
  .rename_i h;show eV.mpr (vi val i,by simp,λa ha b c e=>?_)
   grind
def Hq(ns:LI0)(k:Int):(eY (λi=>ns.getD i 0) (Z ns)).any (·==k)=ac↔k∈ns:=by
 rw[firstMet_any]
 have e:(bI (Z ns)).map (λi=>ns.getD i 0)=ns:=by
  show mF λi=>?_;rw[cz]
  by_cases hi:i<Z ns
  .rw[qM hi];simp[hi]
  .rw[gb (by rw[cN];lia),gb (by lia)];rfl
 rw[e,any_eq_true];show(λb=>by have(x,a,q):=b;have:=beq_iff_eq.mp q;show this▸a,λh=>(k,h,by simp))
variable{out:LI0}
def Qw(d:out.Pairwise (·<=·))(f:Z out=(eY (λi=>ns.getD i 0) (Z ns)).length)(hm:∀k,(eY (λi=>ns.getD i 0) (Z ns)).any (·==k)=ac↔k∈out):out=cL ns:=by
 have nd:=vi (λi=>ns.getD i 0) (Z ns)
 have lt:out.Pairwise (· < ·):=by
  show List.Pairwise.imp₂ (λa b c h2=>(Int.lt_iff_le_and_ne.mpr (c,h2))) d ((pY _ out nd (λx e=>(hm x).mp (any_eq_true.mpr (x,e,by simp))) (by lia)).nodup_iff.mpr nd)
 show vh _ _ lt (k8 ns) λk=>by rw[<- hm k,Hq,iy]
def Qx(ns:LI0):Z (cL ns)=Z (eY (λi=>ns.getD i 0) ns.length):=by
 have m:∀x,x∈eY _ ns.length↔x∈cL ns:=λx=>by
  show Iff.trans ?_ (iy x ns).symm;show Iff.trans ?_ (Hq ns x);rw[any_eq_true];show(λh=>(x,h,by simp),λc=>by have(y,b,q):=c;have:=beq_iff_eq.mp q;show this▸b)
 rcases Nat.le_total (cL ns).length (Z (eY _ ns.length)) with h |h
 .show(pY _ _ (vi _ ns.length) (λx a=>(m x).mp a) h).length_eq
 .show(pY _ _ ((k8 ns).imp λh=>Int.ne_of_lt h) (λx a=>(m x).mpr a) h).length_eq.symm
def Inv.draws(I:Inv X U E H s)(d':Drawn):Inv X U E H {s with drawn:=d'}:=by
 show I.step (ch:=[]) (λb a=>by nomatch a) (λb o _ _ _ e _=>e) (λb o _ _ _ e _=>(o.slots,e)) (λ_ _ _ _ n=>n)
  (λb o _ e=>(o,e)) (λ_ _ e=>e) (λ_ _ _ e=>e) (λb ps e=>(#[],by rw[e];simp)) (λm hm=>hm) I.hok I.bare
def zq:∀{vs:LVa} {ns:LI0},gf vs ns->aI (ns.map V.int) vs
 | _,_,.nil=>.nil
 | _,_,.cons n t h=>.cons (t,rfl) (zq h)
def zt:∀{ns:LI0} {vs:LVa},aI (ns.map V.int) vs->gf vs ns
 | [],_,.nil=>.nil
 |n::ns,_,.cons (t,e) h=>by subst e;show .cons n t (zt h)
def tSS(K:aU)(te:TE):TE:=λE H Q=>te E H λx H1=>∃l ns,x=.ref l/\SqL K H1 l (ns.map V.int)/\Z ns<4000/\Z (cL ns)<64/\∀p,H1 p=ab->Q (.ref p) (upd H1 p (.lst ((cL ns).map V.int)))
variable{cc:Pos}
def Qy(y:X.calm=ac)(j:Gl X "sorted")(n:X.mg "sorted"=ab)(m:Gl X "set")(r:X.mg "set"=ab)(T:PE X e te)
 (N:autoParam (aQ [.Call (.Name "set" p2) [e] [] cc] X.env=(af,eval (.Call (.Name "set" p2) [e] [] cc) X.env,)::aQ [] X.env) Zb)(h2:autoParam (aQ [e] X.env=(af,eval e X.env,)::aQ [] X.env) Zb)
 (v:autoParam ((cj pos (aQ [] X.env)).any (·.1)=af) Zb)(d:autoParam ((cj cc (aQ [] X.env)).any (·.1)=af) Zb):
  PE X (.Call (.Name "sorted" p) [.Call (.Name "set" p2) [e] [] cc] [] pos) (tSS X.K te):=by
 intro U s E H Q I h;show jd (ig I j n boot_sorted ?_);show xA ?_ N v;show jh (jd (ig I m r boot_set ?_));show ku ?_ h2 d;simp only[h2];show jh (thn (T U s E H _ I h) λu s1 q_=>?_);have(x,H1,c,r1,l,ns,G,hq,hb,i,q):=q_;subst G;subst r1;show aE ?_;have(L,rr,pl,hz):=c.list hq;have A:=zt rr;have C:L.toArray.size=Z ns:=by rw[size_toArray,A.length]
 show Qf (c.ok.hd y) pl.isList (by simpa using A) (by rw[C];unfold lE;lia) λh' tk w keep htk=>?_;rw[C]at w;show aE ?_;have lt:s1.heap.objs.size<h'.objs.size:=by have(o,_,_,_,Y,_):=id w;show bF Y
 show Qv (c.ok.hd y) w (by rw[<- Qx];show i) λpp M f B ep out ns' a gp z J o1 o3 o4 o5=>?_;have en:=Qw o3 o4 o5;subst en;show(.ref pp,_,((c.laid (λb u g=>a _ _ (keep b u (bF g) g)) (cZ (fJ lt) gp) ?_).draws f),rfl,q pp (c.hok.fresh (cZ (fJ lt) gp)));show(by rw[az,dJ];lia,out.toList,ep,zq o1,by simpa using J)
abbrev iY:LD->Option (LI0)
 | []=>aa []
 |.int i::r=>(iY r).map (i::·)
 | _::_=>ab
def zu:∀{ds:LD} {ns:LI0},iY ds=aa ns->ds=ns.map D.int
 | [],_,h=>by cases h;rfl
 |.int i::r,ns,h=>by
  replace h:(iY r).map _=aa ns:=h
  cases e:iY r with
  |none=>rw[e]at h;cases h
  |some m=>rw[e]at h;cases h;rw[zu e];rfl
 |.non::_,_,h=>by cases h
 |.bl _::_,_,h=>by cases h
 |.str _::_,_,h=>by cases h
 |.lst _::_,_,h=>by cases h
 |.tup _::_,_,h=>by cases h
 |.kl _::_,_,h=>by cases h
 |.kt _::_,_,h=>by cases h
 |.dic _ _::_,_,h=>by cases h
 |.ins _ _ _::_,_,h=>by cases h
def zw:∀(ns:LI0),iY (ns.map D.int)=aa ns
 | []=>rfl
 |n::ns=>by change(iY _).map _=_;rw[zw ns];rfl
def zx{G:Gc}{H:Hp}:∀{ns:LI0} {vs:LVv},am G H (ns.map D.int) vs->vs=ns.map V.int
 | [],_,h=>h
 |n::ns,_,(v,r,e,h1,h2)=>by rw[e,show v=V.int n from h1,zx h2];rfl
def nN(f:MF1)(M:LS):OLD:=(f M).bind λd=>(lsD d).bind λds=>(iY ds).bind λns=>if Z ns<4000/\Z (cL ns)<64 then aa ((cL ns).map .int) else ab
def Qz(J:X.calm=ac)(m:Gl X "sorted")(u:X.mg "sorted"=ab)(n:Gl X "set")(w:X.mg "set"=ab)(ha:DE c X e f)
 (I:autoParam (aQ [.Call (.Name "set" p2) [e] [] cc] X.env=(af,eval (.Call (.Name "set" p2) [e] [] cc) X.env,)::aQ [] X.env) Zb)(h2:autoParam (aQ [e] X.env=(af,eval e X.env,)::aQ [] X.env) Zb)
 (z:autoParam ((cj pos (aQ [] X.env)).any (·.1)=af) Zb)(b:autoParam ((cj cc (aQ [] X.env)).any (·.1)=af) Zb):DO c X (.Call (.Name "sorted" p) [.Call (.Name "set" p2) [e] [] cc] [] pos) (nN f):=
 PE.imp (Qy J m u n w ha I h2 z b) λE H Q L=>by
  have(Hf0,H0,Hf,M,ds,st,a,k):=L;unfold nN at a
  cases g:f M with
  |none=>rw[g]at a;nomatch a
  |some d=>
   rw[g]at a
   cases i:lsD d with
   |none=>rw[ax,i]at a;nomatch a
   |some C=>
    rw[ax,i]at a
    cases j:iY C with
    |none=>rw[ax,j]at a;nomatch a
    |some ns=>
     rw[ax,j,ax]at a;split at a
     .rename_i A;cases a;show(Hf0,H0,Hf,M,d,st,g,λv Hf' H' x r=>?_);have(l,vs,el,q,B):=kS i r;rw[zu j]at B;have G:=zx B;subst G el;show(l,ns,rfl,x.s.seq q,A.1,A.2,λpp y=>k pp _ Hf' _ (x.trans (Ext.tmp x.s y)) (x.h.free y) (x.s.free y) be (am.ints _))
     .grind
def jH(f g:MF1)(M:LS):OLD:=(f M).bind λx=>(g M).bind λy=>match x,y with
 |.lst a,.lst b=>if Z a+Z b<=16777216 then aa (a++b) else ab
 | _,_=>ab
def QA(h:jH f g M=aa ds):∃a b,f M=aa (.lst a)/\g M=aa (.lst b)/\Z a+Z b<=16777216/\ds=a++b:=by
 unfold jH at h
 cases c:f M with
 |none=>rw[c]at h;nomatch h
 |some x=>
  cases d:g M with
  |none=>rw[c,d]at h;nomatch h
  |some y=>
   rw[c,d,ax,ax]at h;split at h
   .split at h
    .rename_i a b e;cases h;show(a,b,rfl,rfl,e,rfl)
    .nomatch h
   .nomatch h
def zy{a:Expr}(ha:DE c X a f)(r:DE c X b g):DO c X (.BinOp a .Add b pos) (jH f g):=PE.imp (Fe FL ha r) λE H Q A=>by
 have(Hf0,H0,Hf,M,ds,st,q,k):=A;have(C,ys,j,n,w,rfl):=QA q;show(Hf0,H0,Hf,M,_,st,j,λv a4 H1 i B=>(Hf0,H0,a4,M,_,st.step i,n,λu aG H2 d G=>?_));have(l,vs,el,y,s1):=B.up d.f;have(m,us,em,z,s2):=G;subst el em;have x:=i.trans d;show(l,m,vs,us,rfl,rfl,d.s _ _ y,d.s _ _ z,by rw[dJ,<- s1.length,<- s2.length];show w,λp e=>k p _ aG _ (x.trans (Ext.tmp x.s e)) (x.h.free e) (x.s.free e) be (s1.append s2))
def wp(F:MF3)(M:LS)(K:Fl->Prop):Prop:=∃o,F M=aa o/\K o
abbrev Hr(F:MF3)(K:Fl->Prop):Fl->Prop
 |.nx M=>wp F M K
 |o=>K o
abbrev zA(J:LS->Prop)(K:Fl->Prop):Fl->Prop
 |.nx M=>J M
 |.ct M=>J M
 |.bk M=>K (.nx M)
 |o=>K o
def vj(Q:D->Prop)(o:Fl):Prop:=∃d,GL o=aa d/\Q d
variable{K:Fl->Prop}
def QB{F:MF3}{a:Fl->Prop}(h:wp F M K)(b:∀o,K o->a o):wp F M a:=by
 have(o,e,k):=h;show(o,e,b o k)
def aj{F F':MF3}(h:wp F M (Hr F' K)):wp (ai F F') M K:=by
 have(o,e,k):=h;unfold wp ai;rw[e]
 cases o with
 |nx ρ'=>show k
 | _=>show(_,rfl,k)
def bH(h:K (.nx M)):wp bz M K:=(_,rfl,h)
def bn(h:f M=aa d)(k:K (.nx (M.set i (.im d)))):wp (a9 i f) M K:=(_,GP h,k)
def eC{f:MF2}{d:LD}(h:f M=aa d)(k:K (.nx (M.set i (.own d)))):wp (dq i f) M K:=(_,Pd h,k)
def dG(h:f M=aa d)(k:K (.rt d)):wp (aT f) M K:=(_,cU h,k)
def iZ{f:MF2}{d:LD}(h:f M=aa d)(k:K (.rtO d)):wp (cx f) M K:=(_,by unfold cx;rw[h];rfl,k)
def Hs{F:MF3}{o:Fl}(h:F M=aa o)(k:K o):wp F M K:=(_,h,k)
def aS{t:MF4}{F F':MF3}{b:Bool}(h:t M=aa b)(c:b=ac->wp F M K)(a:b=af->wp F' M K):wp (aY t F F') M K:=by
 unfold wp aY;rw[h]
 cases b with
 |true=>show c rfl
 |false=>show a rfl
def nO{F:MF3}(e:yZ i M=ρ')(h:wp F ρ' K):wp (fM i F) M K:=by
 subst e;show h
variable{C:LD}
def gz(h:f M=aa d)(h':M[i]?=aa (.own C))(a:Z C<16777216)(k:K (.nx (M.set i (.own (C++[d]))))):wp (dE i f) M K:=(_,Pu h h' a,k)
def lW{k:Int}(hv:fv M=aa d)(c:fk M=aa (.int k))(h':M[i]?=aa (.own C))(a:0<=k)(b:k<Z C):gy i fk fv M=aa (.nx (M.set i (.own (C.set k.toNat d)))):=by
 have e:ixN C.length k=aa (S k):=by
  unfold ixN;rw[if_pos a,if_pos b]
 unfold gy;simp only[hv,ax,c,ax,h'];change(ixN C.length k).map _=_;rw[e];rfl
def pZ{k:Int}(hv:fv M=aa d)(c:fk M=aa (.int k))(h':M[i]?=aa (.own C))(a:0<=k)(b:k<Z C)(q:K (.nx (M.set i (.own (C.set k.toNat d))))):wp (gy i fk fv) M K:=(_,lW hv c h' a b,q)
def Ht{i:Type}{g:D->LS->Option LS}{F:MF3}{K:Fl->Prop}(f:i->D)(I:List i->LS->Prop):∀(post pre:List i) (M:LS),I pre M ->
  (∀b x e M,pre++post=b++x::e->I b M->∃ρ1,g (f x) M=aa ρ1/\wp F ρ1 (zA (I (b++[x])) K))->(∀ρ',I (pre++post) ρ'->K (.nx ρ'))->wp (iQ g F (post.map f)) M K
 | [],pre,M,h,_,hk=>(_,rfl,hk M (by rw[bT];show h))
 |x::post,pre,M,h,hs,hk=>by
  have(ρ1,j,o,l,c):=hs pre x post M rfl h;unfold wp;rw[bO];dsimp only[iQ];simp only[j,ax,l,ax]
  have go:=λa h2=>
   Ht f I post (pre++[x]) a h2 (by rw[cO];show hs) (by rw[cO];show hk)
  cases o with
  |nx a=>show go a c
  |ct a=>show go a c
  |bk a=>show(_,rfl,c)
  |rt d=>show(_,rfl,c)
  |rtO d=>show(_,rfl,c)
  |rtS d a=>show(_,rfl,c)
  |rtT o=>show(_,rfl,c)
def du{a:Type}{g:D->LS->Option LS}{F:MF3}(C:List a)(f:a->D)(I:List a->LS->Prop)(hi:fi M=aa (C.map f))(b:I [] M)
 (d:∀pre x post M,C=pre++x::post->I pre M->∃ρ1,g (f x) M=aa ρ1/\wp F ρ1 (zA (I (pre++[x])) K))(c:∀ρ',I C ρ'->K (.nx ρ')):wp (bR fi g F) M K:=by
 have(o,e,k):=Ht f I C [] M b d c;show(o,?_,k);unfold bR;rw[hi];show e
def p7{t:MF4}{F:MF3}{K:Fl->Prop}(I:Nat->LS->Prop)(g:∀m M,I m M->∃b,t M=aa b/\(b=ac->wp F M (zA (λρ'=>∃f,f<m/\I f ρ') K))/\(b=af->K (.nx M))):
  ∀(n m:Nat) (M:LS),I m M->m<n->wp (dB t F n) M K
 | 0,m,M,_,h=>absurd h (iF _)
 |n+1,m,M,h,hn=>by
  have(b,e,l,j):=g m M h;unfold wp;dsimp only[dB];simp only[e,ax]
  cases b with
  |false=>show(_,rfl,j rfl)
  |true=>
   have(o,i,c):=l rfl;rw[i,ax]
   have go:∀a,(∃f,f<m/\I f a)->wp _ a K:=λa q=>by
    have(f,hm,h2):=q;show p7 I g n f a h2 (by lia)
   cases o with
   |nx a=>show go a c
   |ct a=>show go a c
   |bk a=>show(_,rfl,c)
   |rt d=>show(_,rfl,c)
   |rtO d=>show(_,rfl,c)
   |rtS d a=>show(_,rfl,c)
   |rtT o=>show(_,rfl,c)
variable{Q:D->Prop}
def lX{F:MF3}(h:wp F (eN n ds) (vj Q)):∃d,aL n F ds=aa d/\Q d:=by
 have(o,e,d,e',q):=h;show(d,?_,q);unfold aL;rw[e];show e'
def gA{F:MF3}{r:D}(h:wp F (eN n ds) (vj λd=>d=r)):aL n F ds=aa r:=by
 have(d,e,q):=lX h;rw[e,q]
def dH(h:Q d):vj Q (.rt d):=(d,rfl,h)
def jI{d:LD}(h:Q (.lst d)):vj Q (.rtO d):=(.lst d,rfl,h)
def lY{t:MF4}{b:Bool}{r:OD}(h:t M=aa b)(c:b=ac->f M=r)(a:b=af->g M=r):vIf t f g M=r:=by
 unfold vIf
 grind
def Hu{f:MF2}(h:f M=aa ds)(h':m ds=aa d)(a:d.scalar=ac):nJ m f M=aa d:=by
 unfold nJ;rw[h,ax,h',ax,if_pos a]
variable{i j:Int}
def cX(h:0<j):cb (.int i) (.int j)=aa (.int (i % j)):=pU h
def lZ(h:rf i j):kP (.int i) (.int j)=aa (.int (i / j)):=pU h
def QC(h:m9 i j):Of (.int i) (.int j)=aa (.int (i*j)):=pU h
def vm(h:m8 i j):rK (.int i) (.int j)=aa (.int (i ^ S j)):=pU h
def QD(h:0<=j):Og (.int i) (.int j)=aa (.int (i / 2 ^ S j)):=pU h
def gB:eK (.int i) (.int j)=aa (.int (i+j)):=rfl
def l5:kO (.int i) (.int j)=aa (.int (i-j)):=rfl
def QE:Oh (.int i) (.int j)=aa (.int (d8.bitAnd i j)):=rfl
def nP:dLt (.int i) (.int j)=aa (.bl (decide (i<j))):=rfl
def Hv:dLe (.int i) (.int j)=aa (.bl (decide (i<=j))):=rfl
def nQ:dGt (.int i) (.int j)=aa (.bl (decide (j<i))):=rfl
def Hw:dGe (.int i) (.int j)=aa (.bl (decide (j<=i))):=rfl
def f7{a:Type}(C:List a)(f:a->D):cK [.lst (C.map f)]=aa (.int (Z C)):=by
 change aa _=_;rw[az]
def Hx{a:Type}(C:List a)(f:a->D):cK [.kl (C.map f)]=aa (.int (Z C)):=by
 change aa _=_;rw[az]
def Hy{a:Type}(f:a->D)(C:List a)(lo hi:Option Int):rM (C.map f) lo hi=((C.drop (HT.sIx C.length 0 lo)).take (HT.sIx C.length C.length hi-HT.sIx C.length 0 lo)).map f:=by
 unfold rM
 simp_all
variable{lo hi:Option Int}
def vn{a:Type}{l h:LS->Option (Option Int)}{g:a->D}{C:List a}(e:f M=aa (.lst (C.map g)))(b:l M=aa lo)(c:h M=aa hi):mSl f l h M=aa (((C.drop (HT.sIx C.length 0 lo)).take (HT.sIx C.length C.length hi-HT.sIx C.length 0 lo)).map g):=by
 unfold mSl;rw[e,ax];change(l M).bind _=_;rw[b,ax,c,<- Hy];rfl
def Hz{a:Type}{l h:LS->Option (Option Int)}{g:a->D}{C:List a}(e:f M=aa (.kl (C.map g)))(b:l M=aa lo)(c:h M=aa hi):mSl f l h M=aa (((C.drop (HT.sIx C.length 0 lo)).take (HT.sIx C.length C.length hi-HT.sIx C.length 0 lo)).map g):=by
 unfold mSl;rw[e,ax];change(l M).bind _=_;rw[b,ax,c,<- Hy];rfl
def QF{a:Type}(C:List a)(f:a->D):dEq (.lst (C.map f)) (.lst [])=aa (.bl C.isEmpty):=by cases C <;> rfl
def QG{a:Type}(C:List a)(f:a->D):dNe (.lst (C.map f)) (.lst [])=aa (.bl (!C.isEmpty)):=by cases C <;> rfl
def QH{a:Type}(f:a->Bool)(C:List a):(C.map λx=>D.bl (f x))=(C.map f).map D.bl:=by
 rw[map_map];rfl
def kJ(J:LS->Prop)(o:Fl):Prop:=∃ρ',o=.nx ρ'/\J ρ'
def k_J{J:LS->Prop}(h:J M):kJ J (.nx M):=(M,rfl,h)
def QI{S F:MF3}(J:LS->Prop)(h:wp S M (kJ J))(k:∀ρ',J ρ'->wp F ρ' K):wp (ai S F) M K:=by
 apply aj;have(o,e,ρ',rfl,j):=h;show(_,e,k ρ' j)
def QJ{i:Nat}(h:M[i]?=aa (.im d))(k:K (.rt d)):wp (fj i) M K:=(_,by unfold fj;rw[h],k)
def nR{i:Nat}{d:LD}(h:M[i]?=aa (.own d))(k:K (.rtO d)):wp (fj i) M K:=(_,by unfold fj;rw[h],k)
abbrev D.flat:D->Bool
 |.tup C=>C.all D.scalar
 |d=>d.scalar
def l6(Hf H:Hp):Hp:=λa=>match H a with
 |some (.tup vs)=>aa (.tup vs)
 | _=>Hf a
def zB(h:H a=aa (.tup vs)):l6 Hf H a=aa (.tup vs):=by
 unfold l6;rw[h]
def p8(h:∀vs,H a≠aa (.tup vs)):l6 Hf H a=Hf a:=by
 unfold l6
 grind
def zC(s:aq Hf H)(g:aq H H'):Ext Hf H (l6 Hf H') H':=by
 show(λb u e=>?_,g,λb u e=>?_,λl o e t=>p8 λvs q=>?_)
 .have e':=g b u (s b u e)
  cases u with
  |tup vs=>show zB e'
  | _=>
   rw[p8 (λvs q=>by rw[e']at q;nomatch q)];show e
 .by_cases h:∃vs,H' b=aa (.tup vs)
  .have(vs,h):=h;rw[zB h]at e;rw[h];show e
  .rw[p8 (λvs q=>h (vs,q))]at e;show g b u (s b u e)
 .rw[g l o e]at q;cases q
  nomatch t
def am.sc{G:Gc}{H H':Hp}:∀{ds:LD} {vs:LVv},ds.all D.scalar=ac->am G H ds vs->am G H' ds vs
 | [],_,_,h=>h
 |d::ds,_,hs,q3_=>by
  have(v,r,e,a,h2):=q3_;rw[mH,b6]at hs;show(v,r,e,a.sc hs.1,am.sc hs.2 h2)
variable{G:Gc}
def Rep.flat(b:d.flat=ac)(r:Rep G H d v):Rep G (l6 Hf H) d v:=by
 cases d with
 |tup C=>
  have(a,vs,e,h,q):=r
  show(a,vs,e,zB h,q.sc b)
 |non=>show r.sc b
 |bl _=>show r.sc b
 |int _=>show r.sc b
 |str _=>show r.sc b
 |lst _=>nomatch b
 |kl _=>nomatch b
 |kt _=>nomatch b
 |dic _ _=>nomatch b
 |ins _ _ _=>nomatch b
 |kd _ _=>nomatch b
 |dT _ _=>nomatch b
variable{f:Addr}
def HA{k:Nat}(pk:Pk X.prog X.w X.K X.mg X.base CX0 k x (f,fd,) ps (spD (Gx c X) ps.length m))(l:bD k0 X.A)(ha:DAB c X (e::es) fa)(C:autoParam (Z (e::es)=Z ps) Zb)(a:autoParam (NDb x) Zc)(z:autoParam (StE X e es) Zb)(j:autoParam (BkE X pos es) Zb)(i:autoParam (k<=k0) Zc)(B:autoParam (Gl X x) Zi):
  DB c X (.Call (.Name x p) (e::es) [] pos) (aw m fa):=PE.imp (py pk.ok (l.mono i) B pk.g pk.kp pk.b .nil gq ha.pa a z j) λE H Q I=>by
 have(Hf0,H0,Hf,M,d,st,y,G):=I;have(ds,n,u):=yP y;show(Hf0,H0,Hf,M,ds,st,n,λvs Hf' H' x r=>?_);rw[bT];show(H',ds,d,aq.refl _,r,(ha.len M ds n).trans C,u,λv aG H2 q J=>G v Hf' H2 (x.trans (Ext.grow x.s q.h)) (J.up q.s))
def p9(m:LD->OLD)(f:MF2)(M:LS):OLD:=(f M).bind λds=>(m ds).bind λB=>if B.all D.flat then aa B else ab
def am.flat{G:Gc}{Hf H:Hp}:∀{ds:LD} {vs:LVv},ds.all D.flat=ac->am G H ds vs->am G (l6 Hf H) ds vs
 | [],_,_,h=>h
 |d::ds,_,hs,q3_=>by
  have(v,r,e,a,h2):=q3_;rw[mH,b6]at hs;show(v,r,e,a.flat hs.1,am.flat hs.2 h2)
def QK{k:Nat}{m:LD->OLD}(pk:Pk X.prog X.w X.K X.mg X.base CX0 k x (f,fd,) ps (spO (Gx c X) ps.length m))(y:bD k0 X.A)(ha:DAB c X (e::es) fa)(I:autoParam (Z (e::es)=Z ps) Zb)(n:autoParam (NDb x) Zc)(C:autoParam (StE X e es) Zb)(v:autoParam (BkE X pos es) Zb)(u:autoParam (k<=k0) Zc)(G:autoParam (Gl X x) Zi):
  DO c X (.Call (.Name x p) (e::es) [] pos) (p9 m fa):=PE.imp (py pk.ok (y.mono u) G pk.g pk.kp pk.b .nil gq ha.pa n C v) λE H Q N=>by
 have(Hf0,H0,Hf,M,B,st,a,L):=N;unfold p9 at a
 cases i:fa M with
 |none=>rw[i]at a;nomatch a
 |some ds=>
  rw[i,ax]at a
  cases j:m ds with
  |none=>rw[j]at a;nomatch a
  |some U=>
   rw[j,ax]at a;split at a
   .rename_i J;cases a;show(Hf0,H0,Hf,M,ds,st,i,λvs Hf' H' x r=>?_);rw[bT];show(H',ds,_,aq.refl _,r,(ha.len M ds i).trans I,j,λl us aG H2 z hn Y d T=>L l us _ H2 (x.trans (zC x.s z.h)) (x.h.free hn) (by rw[p8 (λvs q=>by rw[d]at q;nomatch q)];show x.s.free hn) d ((T.up z.s).flat J))
   .nomatch a
def l7(m a:D->D->OD)(f g h:MF1)(M:LS):OD:=(f M).bind λx=>(g M).bind λy=>(m x y).bind λz=>match z with
 |.bl ac=>(h M).bind λw=>a y w
 |.bl af=>aa (.bl af)
 | _=>ab
variable{m':D->D->OD}{h:MF1}
def QL{m:D->D->OD}{f:MF1}(e:l7 m m' f g h M=aa d):∃x y b,f M=aa x/\g M=aa y/\m x y=aa (.bl b)/\(b=af->d=.bl af)/\(b=ac->∃w,h M=aa w/\m' y w=aa d):=by
 unfold l7 at e
 cases c:f M with
 |none=>rw[c]at e;nomatch e
 |some x=>
  cases i:g M with
  |none=>rw[c,i]at e;nomatch e
  |some y=>
   simp only[c,i,ax,ax]at e
   cases a:m x y with
   |none=>rw[a]at e;nomatch e
   |some z=>
    rw[a,ax]at e
    cases z with
    |bl b=>
     cases b with
     |false=>
      show⟨x,y,af,rfl,rfl,a,λ_=>(cP e).symm,λq=>by nomatch q⟩
     |true=>
      cases j:h M with
      |none=>simp only[j]at e;nomatch e
      |some w=>rw[j]at e;show(x,y,ac,rfl,rfl,a,λq=>(by nomatch q),λ_=>(w,rfl,e))
    | _=>nomatch e
variable{a:Expr}
def QM{r:Expr}{e:CmpOp}{m:D->D->OD}{f:MF1}(ho:OpD c X (cg op) m)(hs:∀x y d,m x y=aa d->d.scalar=ac)(A:OpD c X (cg e) m')(hs':∀x y d,m' x y=aa d->d.scalar=ac)(ha:DB c X a f)(hb:DB c X b g)(hc:DB c X r h)
 (hm:autoParam (lastMarks [op,e] [b,r]=af) Zm):DT c X (.Compare a [op,e] [b,r] pos) (mB (l7 m m' f g h)):=PT.imp (MH ho A ha hb hc hm) λE H Q q_=>by
 have(Hf0,H0,Hf,M,d,st,ef,k):=q_;have(x,y,p,U,Y,e3,eF,eT):=QL (rE ef);show(Hf0,H0,Hf,M,x,st,U,λv a4 H1 l r1=>(Hf0,H0,a4,M,y,st.step l,Y,λu aG H2 j C=>(H2,x,y,.bl p,aq.refl _,r1.up j.h,C,e3,λz N I G r3=>(p,r3,?_))));have i:=Ext.grow j.s G.h
 cases p with
 |false=>
  have:d=af:=D.bl.inj (eF rfl);subst this
  show(af,rfl,k aG I ((l.trans j).trans i))
 |true=>
  have(w,e4,e5):=eT rfl;show(Hf0,H0,aG,M,w,((st.step (l.trans j)).step i),e4,λw' n J B r4=>(J,y,w,.bl d,aq.refl _,C.up (G.h.trans B.h),r4,e5,λq T L x5 r5=>(d,r5,k n L (((l.trans j).trans i).trans (B.trans (Ext.grow B.s x5.h))))))
def vp{m:LD->OLD}{f:MF2}(h:f M=aa ds)(h':m ds=aa B):k5 m f M=aa B:=by
 unfold k5;rw[h,ax,h']
def nU{F:MF3}(h:F (eN n ds)=aa (.rtO B)):jA n F ds=aa B:=by
 unfold jA;rw[h];rfl
variable{f:MF1}{b:Bool}
def QN{m:D->D->OD}{x w:D}{a:Bool}(c:f M=aa x)(d:g M=aa y)(e:m x y=aa (.bl b))(i:h M=aa w)(j:m' y w=aa (.bl a)):l7 m m' f g h M=aa (.bl (b && a)):=by
 unfold l7;simp only[c,ax,d,ax,e,ax]
 cases b with
 |false=>rfl
 |true=>
  rw[i];show j
def k9(ns:LI0):LI0:=ns.mergeSort λa b=>decide (a<=b)
def tSL(K:aU)(te:TE):TE:=λE H Q=>te E H λx H1=>∃l ns,x=.ref l/\SqL K H1 l (ns.map V.int)/\Z ns<64/\∀p,H1 p=ab->Q (.ref p) (upd H1 p (.lst ((k9 ns).map V.int)))
def vq(ns:LI0):(k9 ns).Perm ns:=mergeSort_perm _ _
def zD(ns:LI0):(k9 ns).Pairwise (·<=·):=(pairwise_mergeSort (λa b c=>by simp only[decide_eq_true_iff];lia) (λa b=>by simp only[ki,decide_eq_true_iff];lia) ns).imp of_decide_eq_true
def QO(p:out.Perm ns)(c:out.Pairwise (·<=·)):out=k9 ns:=List.Perm.eq_of_pairwise (λa b _ _=>Int.le_antisymm) c (zD ns) (p.trans (vq ns).symm)
def QP(nd:ns.Nodup):k9 ns=cL ns:=vh _ _ (List.Pairwise.imp₂ (λa b c h2=>(Int.lt_iff_le_and_ne.mpr (c,h2))) (zD ns) ((vq ns).nodup_iff.mpr nd)) (k8 _) λk=>by rw[iy];show(vq ns).mem_iff
def QQ(d:Gl X "sorted")(f:X.mg "sorted"=ab)(v:PE X e te)(j:autoParam (aQ [e] X.env=(af,eval e X.env,)::aQ [] X.env) Zb)(i:autoParam ((cj pos (aQ [] X.env)).any (·.1)=af) Zb):
  PE X (.Call (.Name "sorted" p) [e] [] pos) (tSL X.K te):=by
 intro U s E H Q I h;show jd (ig I d f boot_sorted ?_);show xA ?_ j i;rw[j];show jh (thn (v U s E H _ I h) λu s1 A=>?_);have(x,H1,a,B,l,ns,n,w,c,q):=A;subst n;subst B;show aE ?_;have(L,C,pl,hz):=a.list w;have m:=zt C;show sorted_ints pl.isList m (by rw[m.length];show c) λout y o1 o2 z=>?_;have(ep,r):=sortedAll_at s1.heap L out;have en:=QO o2 z;subst en;have G:=o2.length_eq;show(.ref _,_,(a.laid (o:=.lst _) (λb u g=>sortedAll_old g) (ko _) (by rw[az,dJ];lia,out.toList,ep,zq o1,by simpa using r)),rfl,q _ (a.hok.fresh (ko _)))
def ka(f:MF1)(M:LS):OLD:=(f M).bind λd=>(lsD d).bind λds=>(iY ds).bind λns=>if Z ns<64 then aa ((k9 ns).map .int) else ab
def zE(w:X.calm=ac)(j:Gl X "sorted")(m:X.mg "sorted"=ab)(ha:DE c X e f)
 (z:autoParam (aQ [e] X.env=(af,eval e X.env,)::aQ [] X.env) Zb)(u:autoParam ((cj pos (aQ [] X.env)).any (·.1)=af) Zb):DO c X (.Call (.Name "sorted" p) [e] [] pos) (ka f):=
 PE.imp (QQ j m ha z u) λE H Q G=>by
  have(Hf0,H0,Hf,M,ds,st,a,k):=G;unfold ka at a
  cases b:f M with
  |none=>rw[b]at a;nomatch a
  |some d=>
   rw[b]at a
   cases g:lsD d with
   |none=>rw[ax,g]at a;nomatch a
   |some C=>
    rw[ax,g]at a
    cases i:iY C with
    |none=>rw[ax,i]at a;nomatch a
    |some ns=>
     rw[ax,i,ax]at a;split at a
     .rename_i A;cases a;show(Hf0,H0,Hf,M,d,st,b,λv Hf' H' x r=>?_);have(l,vs,el,q,B):=kS g r;rw[zu i]at B;have y:=zx B;subst y el;show(l,ns,rfl,x.s.seq q,A,λpp n=>k pp _ Hf' _ (x.trans (Ext.tmp x.s n)) (x.h.free n) (x.s.free n) be (am.ints _))
     .grind
def HB(h:f M=aa (.lst (ns.map D.int)))(a:Z ns<64):ka f M=aa ((k9 ns).map D.int):=by
 unfold ka;rw[h,ax];change(iY _).bind _=_;rw[zw,ax,if_pos a]
def HC(h:f M=aa (.lst (ns.map D.int)))(a:Z ns<64)(h2:ns.Nodup):ka f M=aa ((cL ns).map D.int):=by rw[HB h a,QP h2]
def HD{k:Int}(h:k.natAbs<2 ^ n):ue k<=n:=by
 unfold ue;split
 .show cr _
 .rename_i a;have:k.natAbs≠0:=λz=>a (by rw[Int.natAbs_eq_zero.mp z];rfl);show(Nat.log2_lt this).mpr h
def nV(i j:Int):Prop:=m9 i j\/(i.natAbs<2 ^ 200/\j.natAbs<2 ^ 200)
def nV.ok(h:nV i j):IntMulOk i j:=by
 rcases h with h |⟨h1,h2⟩
 .show h.ok
 .have a:=HD h1;have b:=HD h2;unfold IntMulOk
  have:d8.Int.intTooBig (ue i+ue j)=af:=by
   have c:400<=bitsLine:=by decide
   show decide_eq_false (by lia)
  rw[this,tQ];show bN
noncomputable instance {i j:Int}:Decidable (nV i j):=by unfold nV;infer_instance
nonrec def l8:D->D->OD:=dI nV λi j=>.int (i*j)
def QR:OpR X (fS .Mult) (rI nV λi j=>.int (i*j)):=opI λ_ _ _ _ _ _ _ a q=>mul_int q a.ok
def QS:OpD c X (fS .Mult) l8:=uL QR λ_ _ _ _=>rfl
def qb(h:nV i j):l8 (.int i) (.int j)=aa (.int (i*j)):=pU h
set_option maxRecDepth 100000
def sh:Slot "list_reverseiterator" "__next__" "list_reverseiterator.__next__":=Slot.of (n:="__next__") (owner:="list_reverseiterator")
 (by rw[kE,kA];kernel_rfl) (by decide +kernel) (by decide +kernel) (by decide +kernel) (by first |show b9 (by decide +kernel) |grind) (by rw[mN];kernel_rfl)
def HE:Slot "list_reverseiterator" "__iter__" "list_reverseiterator.__iter__":=Slot.of (n:="__iter__") (owner:="list_reverseiterator")
 (by rw[kE,kA];kernel_rfl) (by decide +kernel) (by decide +kernel) (by decide +kernel) (by first |show b9 (by decide +kernel) |grind) (by rw[mN];kernel_rfl)
def HF:mS table "list_reverseiterator.__next__"=aa d8.«list_reverseiterator.__next__»:=by show entryFor_of_fast (by kernel_rfl)
def QT:mS table "list_reverseiterator.__iter__"=aa d8.«dict_keyiterator.__iter__»:=by show entryFor_alias (id':="dict_keyiterator.__iter__") (by kernel_rfl) rfl (by decide +kernel) (by kernel_rfl)
def HG(v:Value):argsOk "list_reverseiterator.__next__" ([v],[]):=by(unfold argsOk;kernel_rfl)
def QU(v:Value):argsOk "list_reverseiterator.__iter__" ([v],[]):=by(unfold argsOk;kernel_rfl)
def f8(h:Heap)(it l:Addr)(j:Int):Prop:=∃o,h.get? it=aa o/\o.cls=.type "list_reverseiterator" /\ o.data=.fields #[.ref l,cv j]
def f8.ty(h:f8 s.heap it l j):s.TypeIs (.ref it) "list_reverseiterator":=by
 have(o,e,c,_):=h;show(o,e,c)
def vt{Q:PRS}(hr:f8 s.heap it l j)(h:Q (.ref it) s):wpAny (model P w) A (pyIter (.ref it)) Q X4 s:=by
 show wpAny_pyIter_slot hr.ty HE (jT HE hr.ty QT (aE (e7 it,rfl,"list_reverseiterator",_,hr.ty,sh.lookup,h)) (QU _))
variable{L:Array Value}
def HH{j:Nat}{x:Value}{Q:Option Value->ah->Prop}(hr:f8 s.heap it l j)(e:s.heap.IsList l L)(f:L[j]?=aa x)
 (c:∀h',f8 h' it l ((j:Int)-1)->gj it s.heap h'->Q (aa x) {s with heap:=h'}):wpAny (model P w) A (ib (.ref it)) Q X4 s:=by
 have(o,a,d,hd):=id hr;have(o2,h2,_,g,b):=e;show ak (oZ (oV hr.ty sh (jT sh hr.ty HF ?_ (HG _))));change wpAny _ _ (field _ 1 >>= _) _ _ s;show ak (wpAny_field a hd rfl ?_);show ak (wpAny_field a hd rfl ?_);show ak (ud h2 b ?_);simp only[cY,f];show ak (wpAny_setField a hd (by simp) (aE (x,rfl,aE (c _ ?_ (o9 ..)))));show(_,o8 _ a (Obj.isFreed_of_fields (Obj.data_mapFields hd _)),(Obj.cls_mapFields ..).trans d,?_);rw[Obj.data_mapFields hd];rfl
def HI(d:j<0){Q:Option Value->ah->Prop}(c:A.handled=ab)(hr:f8 s.heap it l j)
 (a:∀h',Heap.ExtBut it s.heap h'->Q ab {s with heap:=h'}):wpAny (model P w) A (ib (.ref it)) Q X4 s:=by
 have(o,f,h,hd):=id hr;show ak (oZ (oV hr.ty sh (jT sh hr.ty HF ?_ (HG _))));change wpAny _ _ (field _ 1 >>= _) _ _ s;show ak (wpAny_field f hd rfl ?_);change wpAny _ _ (if j<0 then _ else _) _ _ s;rw[if_pos d];show ak (lD ?_);show ak ?_;change wpAny _ _ _ _ _ _;show ak ?_;simp only[newTuple]
 show ak (je ?_ (by size_fits));show ak (q9 (by first |rfl |(simp only[qZ];rfl)) ?_)
 show je ?_ (by size_fits);simp only[raiseNew];show ak (wpAny_handled ?_);rw[show A.in1.handled=ab from c];show ak (aE (wpAny_throw ?_));show ak (qY (_,cQ _ rfl,rfl) isSubtype_stop ?_);show aE (a _ λb u g e=>(bG _ (bG _ e)))
def QV{T n a:String}{m:d8}{args:LVa}{S:Lf}{Q:PRS}{c:Value}{tl:LVa}
 (y:(kG T==kG "type")=af)(z:((Manifest.find? T).bind (·.mro.findSome? λt=>(Manifest.find? t).bind λb=>if b.noNew then aa ac else if b.attrs.any (·.1 == "__new__") then aa af else ab)).getD af=af)
 (p:mroOf (.type T)=pure (c::tl))(l:Bind.madeBy (.type T)=pure (aa a))(f:plainId a=ac)(q:isSubtype (.type n) (.type T)=pure af)
 (u:checkTypeCall T (args,[])=pure ())(j:checkBuiltinCall a (.type T::args,[])=pure ())(d:mS table a=aa m)(g:Meets (m (.type T::args,[])) S)
 (h:S A.in1 (wants (λobj i=>i.TypeIs obj n/\Q obj i) X4) s):wpAny (model P w) A (call (.type T) args) Q X4 s:=by
 show wpAny_call (codeAny_of_tree ?_);change wpAny _ _ _ _ _ _;show aE (Code.quiet_builtin _ (by decide +kernel),kC F.entry_type_call ?_);simp only[ca.under_plain (weight_type_call_type T args []) (units_type_call_type T args [])]
 repeat (any_goals (first |assumption |wp_step))
 show lC (xB f d (q9 j (g P w A.in1 _ s h))) λr s1 hr=>?_
 cases r with
 |error e=>show hr
 |ok fl=>
  cases fl with
  |ret obj=>
   have(v,x):=hr
   repeat (any_goals (first |assumption |wp_step))
  | _=>show hr.elim
def HJ:mroOf (.type "reversed")=pure [.type "reversed",.type "object"]:=by(rw[mroOf_type];kernel_rfl)
def QW:mQ (.type "reversed") "__new__"=pure (aa (.builtin "reversed.__new__")):=by(rw[kE,kA];kernel_rfl)
def QX:Bind.madeBy (.type "reversed")=pure (aa "reversed.__new__"):=madeBy_type HJ QW (by decide +kernel)
def QY:isSubtype (.type "list_reverseiterator") (.type "reversed")=pure af:=by(rw[mN];kernel_rfl)
def QZ:mS table "reversed.__new__"=aa d8.«reversed.__new__»:=by show entryFor_of_tree (by kernel_rfl)
def HK:jW "reversed"=aa (.type "reversed"):=by kernel_rfl
def Q0:mQ (.type "list") "__reversed__"=pure (aa (.builtin "list.__reversed__")):=by(rw[kE,kA];kernel_rfl)
def Q1(l:Addr)(L:Array Value)(n:Nat)(dc:Option Addr)(sl:Array (Option Value)):Meets (d8.«list.__reversed__» ([.ref l],[])) (λ_ R s=>s.heap.get? l=aa {cls:=.type "list",dict:=dc,data:=.seq L n,slots:=sl}/\R (.ok (.ret (.ref s.heap.objs.size))) {s with heap:=s.heap.push {cls:=.type "list_reverseiterator",data:=.fields #[.ref l,cv (((L.size:Nat):Int)-1)]}}):=
 .of_wp λprog w A R s h=>by
  have(a,h):=h
  wp_walk
  show(_,rfl,h)
def Q2(l:Addr)(L:Array Value)(n:Nat)(dc:Option Addr)(sl:Array (Option Value)):Meets (d8.«reversed.__new__» ([.type "reversed",.ref l],[])) (λ_ R s=>s.heap.get? l=aa {cls:=.type "list",dict:=dc,data:=.seq L n,slots:=sl}/\R (.ok (.ret (.ref s.heap.objs.size))) {s with heap:=s.heap.push {cls:=.type "list_reverseiterator",data:=.fields #[.ref l,cv (((L.size:Nat):Int)-1)]}}):=
 .of_wp λprog w A R s h=>by
  have(a,g,d,b,os):=s;have(e,h):=h;have j:=Q0;have f:isSubtype (.type "reversed") (.type "reversed")=pure ac:=by(rw[mN];kernel_rfl)
  have i:uh (a,g,d,b,os) (.ref l) "list":=(_,e,rfl);have m:=xG.bind (e7 l)
  repeat (any_goals (first |assumption |wp_step))
  have step:gK _ A.in1 _ (λr c=>r=.ok _/\c=(a.push {cls:=.type "list_reverseiterator",data:=.fields #[.ref l,cv _]},g,d,b,os)) (a,g,d,b,os):=
   xB xG.plain PySem.F.entry_list_reversed (xG.check _ _ _ _ _ _ _ _ i (PySem.F.args_list_reversed_1 _) (Q1 l L n dc sl prog w A.in1 (λr c=>r=.ok (.ret (.ref a.objs.size))/\c=(a.push {cls:=.type "list_reverseiterator",data:=.fields #[.ref l,cv (((L.size:Nat):Int)-1)]},g,d,b,os)) (a,g,d,b,os) (e,rfl,rfl)))
  show lC step λr s1 hr=>?_;have(rfl,rfl):=hr;show aE (_,rfl,h)
def HL{Q:PRS}(d:s.heap.IsList l L)
 (h:∀h',f8 h' s.heap.objs.size l (((L.size:Nat):Int)-1)->(∀b o,s.heap.get? b=aa o->h'.get? b=aa o)->Q (.ref s.heap.objs.size) {s with heap:=h'}):wpAny (model P w) A (call (.type "reversed") [.ref l]) Q X4 s:=by
 have((c,a,dt,sl),g,f,n,hd):=d;subst f hd;have i:f8 (s.heap.push {cls:=.type "list_reverseiterator",data:=.fields #[.ref l,cv _]}) s.heap.objs.size l ((L.size:Int)-1):=(_,cQ _ rfl,rfl,rfl);show QV (rfl) (by decide +kernel) HJ QX (by decide +kernel) QY (by kernel_rfl) (by kernel_rfl) QZ (Q2 l L n a sl) (g,((_,cQ _ rfl,rfl),h _ i λb o e=>bG _ e))
def Itv(K:aU)(l:Addr)(n:Nat):It:=
  (λi H=> ∃C x, SqL K H l C/\Z C = n/\C.reverse[i]? = aa x,
   λi H v H'=> H' = H/\∀C, SqL K H l C->C.reverse[i]? = aa v,
   λi H=> n<=i)
def f8.stay{h:Heap}(q:f8 h it l j)(k:∀o,h.get? it=aa o->h'.get? it=aa o):f8 h' it l j:=by
 have(o,e,c,d):=q;show(o,k o e,c,d)
def Q3{K:aU}(l it:Addr)(n:Nat):kL P w K tg (Itv K l n) [it] it (λi h=>f8 h it l ((n:Int)-1-(i:Int))) where
 mem:=by simp
 obj:=λi h st b hb=>by
  have e:b=it:=by simpa using hb
  rw[e];have(o,e1,c,d):=st;show⟨o,e1,λv z=>by rw[d]at z;nomatch z⟩
 keep:=λi h h' st k=>st.stay λo e=>k it (by simp) o e
 item:=by
  intro X hP hw hK hc i U s E H X4 I hf st hg;subst hP hw hK;have(C,x,hq,hn,hx):=hg;have(L,rv,p,hz):=I.list hq
  have hi:i<Z C:=by
   have:=(dh.mp hx).1
   simpa using this
  have hx':C[n-1-i]?=aa x:=by
   rw[List.getElem?_reverse hi]at hx;rw[<- hn];show hx
  have(u,hu,ru):=rv.get hx';have(f0,f1,f2,f3,f4,f5):=hf it (by simp);have ej:(n-1-i)=((n-1-i:Nat):Int):=by lia
  rw[ej]at st;show HH st p.isList (by simpa using hu) λh' d2 sb=>?_;have e2:((n-1-i:Nat):Int)-1=n-1-((i+1:Nat):Int):=by lia
  rw[e2]at d2;have(o,e,c,d):=id d2;show(u,rfl,ur e c d (rfl) (x,H,(I.turned (λb o hb e=>(sb.2 b hb).trans e) f0 f1 f3 f4 f5),ru,(rfl,λys hy=>by rw[I.list_inj hy hq];show hx),d2,λb hb=>(hf b hb).1))
 done:=by
  intro X hP hw hK hc i U s E H X4 I hf st hg;have hg:n<=i:=hg;have(f0,f1,f2,f3,f4,f5):=hf it (by simp);show HI (by lia) (I.ok.hd hc) st λh' eb=>(rfl,I.turned (λb o hb e=>eb b o hb e) f0 f1 f3 f4 f5)
 self:=λ_ _ _ _ _ st h=>vt st h
def Q4(K:aU)(ta:TA):TI:=λE H R=>ta E H λvs H1=>∃l C,vs=[.ref l]/\SqL K H1 l C/\R (Itv K l (Z C)) H1
def Q5(n:Gl X "reversed")(hm:X.mg "reversed"=ab)(ha:PA X [a] ta)(r:autoParam (aQ [a] X.env=[(af,eval a X.env,)]) Zb):PI X tg (.Call (.Name "reversed" p) [a] [] pos) (Q4 X.K ta):=by
 intro U s E H R I h;show Call_ (ig I n hm HK (ku (thn (ha pos U s E H _ I h) λus s1 w=>?_) (by rw[r];rfl) (by rfl)));have(vs,H1,c,d,l,C,e,j,q):=w;subst e;have(u,rfl,ru):=lM d;subst ru;have(f,d,v,y):=c.list j;have x:=d.length;show HL v.isList λh' g i=>?_;show vt g ?_;show(_,_,_,_,H1,rfl,c.kept i,Q3 l _ (Z C),?_,λb m=>?_,q)
 .grind
 .have e:b=s1.heap.objs.size:=by simpa using m
  rw[e];show c.fpOk (aO _) (c.hok.fresh (aO _))
abbrev zF:LD->OLD
 | [x]=>(lsD x).map List.reverse
 | _=>ab
def l9(f:MF2)(M:LS):OLD:=(f M).bind zF
variable{f:MF2}
def Q6(G:Gl X "reversed")(hm:X.mg "reversed"=ab)(ha:DA c X [a] f)(I:autoParam (aQ [a] X.env=[(af,eval a X.env,)]) Zb):DI c X tg (.Call (.Name "reversed" p) [a] [] pos) (l9 f):=
 PI.imp (Q5 G hm ha.pa I) λE H R L=>by
  have(Hf0,H0,Hf,M,ds,st,b,k):=L;unfold l9 at b
  cases g:f M with
  |none=>rw[g]at b;nomatch b
  |some as=>
   rw[g]at b;replace b:zF as=aa ds:=b;show(Hf0,H0,Hf,M,as,st,g,λvs Hf' H' x r=>?_);unfold zF at b;split at b
   .rename_i dx
    cases ex:lsD dx with
    |none=>rw[ex]at b;nomatch b
    |some C=>
     rw[ex]at b;cases b;have(v,B,N):=r.one;have(J,e,h,n,w):=kS ex N;subst h;show(J,e,B,x.s.seq n,k _ Hf' H' x λaG H2 f2 s2 i=>?_);have m:=(f2.trans s2).seq n;have U:=w.length;show(λd y=>?_,λA=>?_)
     .have(u,l,ru):=w.reverse.get y;show((e,u,m,rfl,l),λz T q=>?_);have(rfl,Q):=q;have j:=Q e m;rw[l]at j;cases j;show(aG,Ext.refl s2,ru.up f2)
     .rw[lx]at A;change Z e<=i
      lia
   .nomatch b
def Q7{a:Type}{g:a->D}{C:List a}(h:f M=aa [.lst (C.map g)]):l9 f M=aa (C.reverse.map g):=by
 unfold l9;rw[h];change aa (C.map g).reverse=_;simp
inductive tDX(G:Gc)(f:LS->Option (D×LS))(E:St)(H:Hp)(Q:VK):Prop
 |mk:∀Hf0 H0 Hf M d ρ',av G Hf0 H0 Hf H E M->f M=aa (d,ρ',)->(∀v Hf' H',aq Hf Hf'->av G Hf0 H0 Hf' H' E ρ'->Rep G Hf' d v->Q v H')->tDX G f E H Q
def DX(c:Str->Addr)(X:Cx)(e:Expr)(f:LS->Option (D×LS)):Prop:=PE X e (tDX (Gx c X) f)
def Q8:mQ (.type "list_reverseiterator") "__len__"=pure ab:=by(rw[kE,kA];kernel_rfl)
def Q9:mQ (.type "list_reverseiterator") "__length_hint__"=pure (aa (.builtin "list_reverseiterator.__length_hint__")):=by(rw[kE,kA];kernel_rfl)
def Ra:isSubtype (.type "list_reverseiterator") (.type "list_reverseiterator")=pure ac:=by(rw[mN];kernel_rfl)
def Rb{Q:Bool->ah->Prop}(hr:f8 s.heap it l j)(h:Q af s):wpAny (model P w) A (ES (.ref it)) Q X4 s:=by
 show ak (ua hr.ty Q8 ?_);show ak (ua hr.ty Q9 ?_);show ak (qY hr.ty Ra (aE h))
def Rc(hh:A.handled=ab)(hne:it≠l)(L:Array Value):Walks P w A it [it,l] [it] L.size (λi v=>L.toList.reverse[i]?=aa v) (λi h=>f8 h it l ((L.size:Int)-1-(i:Int))/\h.IsList l L) where
 sub:=by simp
 frame:=λi h h' (a,o,e,c,n,d) k=>(a.stay λo e=>k it (by simp) o e,o,k l (by simp) o e,c,n,d)
 item:=λi s Q X4 hi st hQ=>by
  have(a,b):=st;have ej:(L.size-1-i)=((L.size-1-i:Nat):Int):=by lia
  rw[ej]at a;have hk:L.size-1-i<L.size:=by lia
  show HH a b (x:=L[L.size-1-i]) (by simp[hk]) λh' a' sb=>?_;have e2:((L.size-1-i:Nat):Int)-1=L.size-1-((i+1:Nat):Int):=by lia
  rw[e2]at a';have hl:∀b o,b∉[it]->s.heap.get? b=aa o->h'.get? b=aa o:=λb o hb e=>(sb.2 b (by simpa using hb)).trans e;show hQ _ h' s.toks ?_ (a',?_) hl
  .rw[List.getElem?_reverse (by simpa using hi)];simp[hk]
  .have(o,e,c,n,d):=b;show(o,hl l o (by simpa using eX hne) e,c,n,d)
 done:=λs Q X4 st hQ=>by
  have(a,b):=st;show HI (by lia) hh a λh' eb=>hQ h' s.toks λb o hb e=>eb b o (by simpa using hb) e
 self:=λi s Q X4 st h=>vt st.1 h
variable{c0:Nat}
def Re{S:Addr}(d:Value)(n:A.handled=ab)(j:it≠l)(g:S∉[it,l])(hr:f8 s.heap it l ((L.size:Int)-1))(p:s.heap.IsList l L)(hn:L.size<=aX)
 (m:s.heap.get? S=aa {cls:=.type "list",dict:=ab,data:=.seq #[] c0,slots:=#[]})
 (kR:∀c c2 h,Moved (S::[it]) (λa b=>b=a) s c->c.heap.get? S=aa {cls:=.type "list",dict:=ab,data:=.seq c2 h,slots:=#[]}->ItemsOf (λi v=>L.toList.reverse[i]?=aa v) c2 L.size->R (.ok (.ret d)) c):
  wpAny (model P w) A.in1 (xC (.ref S) (.ref it) d) (λfin c=>match fin with |.done f=>R (.ok f) c |.again h=>h.quiet=ac/\gK (model P w) A h R c) (λe c=>R (.error e) c) s:=by
 have q:S≠it:=λz=>g (by rw[z];show aA);show ak (wpAny_typeOf hr.ty ?_);have r:uf (.ref S) (.ref it)=af:=by simp[uf,q]
 simp only[r];show ak (vt hr ?_);show ak (jV (Rb hr ?_));show aE (mO F.plain_extend_loop _,codeAny_extend_loopS ((Rc (show A.in1.handled=ab from n) j L).toS) hn S g d L.size 0 _ #[] c0 rfl (cr _) (by simpa using hr,p) m (ItemsOf.nil _) kR)
def Rf{Q:PRS}(E:A.handled=ab)(y:it≠l)(hr:f8 s.heap it l ((L.size:Int)-1))(B:s.heap.IsList l L)(hn:L.size<=aX)
 (H:∀j c2 q,Moved [s.heap.objs.size,it] (λa b=>b=a) {s with heap:=s.heap.push {cls:=.type "list",data:=.seq #[]}} j->j.heap.get? s.heap.objs.size=aa {cls:=.type "list",dict:=ab,data:=.seq c2 q,slots:=#[]}->ItemsOf (λi v=>L.toList.reverse[i]?=aa v) c2 L.size->Q (.ref s.heap.objs.size) j):
  wpAny (model P w) A (call (.type "list") [.ref it]) Q X4 s:=by
 have f:it<s.heap.objs.size:=by have(o,e,_):=hr;show bF e
 have g:l<s.heap.objs.size:=by have(o,e,_):=B;show bF e
 have nf:s.heap.objs.size∉_:=λhm=>by
  rcases bc.mp hm with z |z
  .show absurd z (lz f)
  .show absurd (bv.mp z) (lz g)
 show callType_codes (Q₁:=λobj s1=>obj=.ref s.heap.objs.size/\s1={s with heap:=s.heap.push {cls:=.type "list",data:=.seq #[]}}) F.called_list (F.typeCall_list_1 _) F.entry_list_init (code_list_new _ (rfl,rfl)) λobj s1 J=>?_
 have(rfl,rfl):=J;have p:(s.heap.push {cls:=.type "list",data:=.seq #[]}).get? s.heap.objs.size=aa {cls:=.type "list",data:=.seq #[]}:=cQ _ rfl;show((_,p,rfl),F.args_list_init_2 _ _,?_);apply ak;show ak (ud p rfl (aE ?_));apply ak;show ub p rfl ?_;apply ak;apply wpAny_letGo;have h:∀b o,b≠s.heap.objs.size->s.heap.get? b=aa o->((s.heap.push {cls:=.type "list",data:=.seq #[]}).update s.heap.objs.size (ie (λ_=>(#[]:Array Value)))).get? b=aa o:=λb o u e=>(o7 _ _ (eX u)).trans (bG _ e)
 have x:((s.heap.push {cls:=.type "list",data:=.seq #[]}).update s.heap.objs.size (ie (λ_=>(#[]:Array Value)))).IsList l L:=by
  have(o,e,c,n,d):=B;show(o,h l o (bY g) e,c,n,d)
 show Re .none E y nf (hr.stay λo e=>h it o (bY f) e) x hn (o8 _ p rfl) λj c2 q m r G=>?_
 have I:Moved [s.heap.objs.size,it] (λa b=>b=a) {s with heap:=s.heap.push {cls:=.type "list",data:=.seq #[]}} {s with heap:=(s.heap.push {cls:=.type "list",data:=.seq #[]}).update s.heap.objs.size (ie (λ_=>(#[]:Array Value)))}:=
  (λb o u e=>(o7 _ _ (eX (λz=>u (by rw[z];show aA)))).trans e,rfl,rfl,rfl,aO _)
 show(rfl,H j c2 q (I.trans (λ_ _ _ C h2=>h2.trans C) m) r G)
def tRL(K:aU)(te:TE):TE:=λE H Q=>te E H λx H1=>∃l C,x=.ref l/\SqL K H1 l C/\∀p,H1 p=ab->Q (.ref p) (upd H1 p (.lst C.reverse))
def Rg(h:ItemsOf (λi v=>L.toList.reverse[i]?=aa v) c2 L.size):c2.toList=L.toList.reverse:=by
 have(c,hi):=h;show mF λi=>?_
 by_cases b:i<L.size
 .have a:i<c2.size:=by rw[c];show b
  rw[hi i c2[i] (by simp[a])];simp[a]
 .rw[gb (by simpa[c]using oT b),gb (by simpa using oT b)]
def Rh(hc:X.calm=ac)(r:Gl X "list")(y:X.mg "list"=ab)(v:Gl X "reversed")(A:X.mg "reversed"=ab)(he:PE X e te)
 (Y:autoParam (aQ [.Call (.Name "reversed" p2) [e] [] cc] X.env=(af,eval (.Call (.Name "reversed" p2) [e] [] cc) X.env,)::aQ [] X.env) Zb)(h2:autoParam (aQ [e] X.env=(af,eval e X.env,)::aQ [] X.env) Zb)
 (B:autoParam ((cj pos (aQ [] X.env)).any (·.1)=af) Zb)(a:autoParam ((cj cc (aQ [] X.env)).any (·.1)=af) Zb):
  PE X (.Call (.Name "list" p) [.Call (.Name "reversed" p2) [e] [] cc] [] pos) (tRL X.K te):=by
 intro U s E H Q I h;show jd (ig I r y mL ?_);show ku ?_ Y B;show jh (jd (ig I v A HK ?_));show ku ?_ h2 a;rw[h2];show jh (thn (he U s E H _ I h) λu s1 q_=>?_);have(x,H1,f,r1,l,C,T,hq,q):=q_;subst T;subst r1;show aE ?_;have(L,M,pl,hz):=f.list hq;show HL pl.isList λh' G J=>?_;show aE ?_
 have w:h'.IsList l L.toArray:=by
  have(o,e,c,n,d):=pl.isList;show(o,J _ _ e,c,n,d)
 have lt:l<s1.heap.objs.size:=by have(o,e,_):=pl.isList;show bF e
 have le:s1.heap.objs.size<h'.objs.size:=by have(o,e,_):=G;show bF e
 show Rf (f.ok.hd hc) (lz lt) G w (by rw[size_toArray,<- M.length];show hz) λs' c2 N m j ia=>?_;have(hp',g',d',tk',os'):=s';have(m1,m2,m3,m4,m5):=m;subst m2;subst m3;subst m4;show(.ref h'.objs.size,_,f.laid (λb u g=>m1 b u (λhm=>?_) (bG _ (J b u g))) (fJ le) ?_,rfl,q _ (f.hok.fresh (fJ le)))
 .have i:=bF g
  rcases bc.mp hm with z |z
  .rw[z]at i;show gH _ (mK i le)
  .rw[bv.mp z]at i;show gH _ i
 .show(by rw[lx];show hz,c2.toList,N,?_,by simpa using j);rw[(Rg ia)]
  simpa using M.reverse
def qc(i:Nat)(M:LS):OLD:=match M[i]? with
 |some (.own C)=>aa C.reverse
 |some (.im (.lst C))=>aa C.reverse
 | _=>ab
variable{p3:Pos}
def Ri(i:Nat)(y:X.calm=ac)(g:Gl X "list")(j:X.mg "list"=ab)(h:Gl X "reversed")(m:X.mg "reversed"=ab)
 (w:autoParam (X.N[i]?=aa x) Zb)(hv:autoParam (Vis X.env.scope x) Ze)(hd:autoParam (NDb x) Zc)(f:autoParam (NCd x) Zc)
 (u:autoParam (aQ [.Call (.Name "reversed" p2) [.Name x p3] [] cc] X.env=(af,eval (.Call (.Name "reversed" p2) [.Name x p3] [] cc) X.env,)::aQ [] X.env) Zb)(h2:autoParam (aQ [.Name x p3] X.env=(af,eval (.Name x p3) X.env,)::aQ [] X.env) Zb)
 (n:autoParam ((cj pos (aQ [] X.env)).any (·.1)=af) Zb)(b:autoParam ((cj cc (aQ [] X.env)).any (·.1)=af) Zb):
  DO c X (.Call (.Name "list" p) [.Call (.Name "reversed" p2) [.Name x p3] [] cc] [] pos) (qc i):=PE.imp (Rh y g j h m (m6 w hv hd f) u h2 n b) λE H Q z=>by
 have(Hf0,H0,Hf,M,ds,st,d,k):=z;unfold qc at d;split at d
 .rename_i C es;cases d;have(l,e,A,B,vs,q,r):=st.ownAt rfl es;show(_,e,l,vs,rfl,SqL.of q,λp a=>k p _ Hf _ (Ext.tmp st.sub a) a (st.sub.free a) be r.reverse)
 .rename_i C es;cases d;have(v,e,l,vs,rfl,q,r):=st.imm es;show(_,e,l,vs,rfl,SqL.of (st.sub _ _ q),λp a=>k p _ Hf _ (Ext.tmp st.sub a) a (st.sub.free a) be r.reverse)
 .grind
def HM:∀(n lo:Nat) (us:LVa),Z us=n->(∀j v,us[j]?=aa v->∃t,v=Value.int ((lo+j:Nat):Int) t)->aI (((List.range' lo n).map λ(i:Nat)=>(i:Int)).map V.int) us
 | 0,_,[],_,_=>.nil
 | 0,_,_::_,h,_=>by cases h
 | _+1,_,[],h,_=>by cases h
 |n+1,lo,u::us,h,k=>by
  show .cons (k 0 u rfl) (HM n (lo+1) us (by simpa using h) λj v e=>?_);have:=k (j+1) v (by show e)
  rwa [show lo+(j+1)=lo+1+j by lia]at this
def tRR(ta:TA):TE:=λE H Q=>ta E H λvs H1=>∃j:Int,vs=[.int j]/\0<=j/\j<=1048576/\∀p,H1 p=ab->Q (.ref p) (upd H1 p (.lst (((bI (S j)).map λ(i:Nat)=>(i:Int)).map V.int)))
def Rj(G:X.calm=ac)(f:Gl X "list")(m:X.mg "list"=ab)(l:Gl X "range")(w:X.mg "range"=ab)(ha:PA X [a] ta)
 (C:autoParam (aQ [.Call (.Name "range" p2) [a] [] cc] X.env=(af,eval (.Call (.Name "range" p2) [a] [] cc) X.env,)::aQ [] X.env) Zb)(J:autoParam (aQ [a] X.env=[(af,eval a X.env,)]) Zb)
 (x:autoParam ((cj pos (aQ [] X.env)).any (·.1)=af) Zb):
  PE X (.Call (.Name "list" p) [.Call (.Name "range" p2) [a] [] cc] [] pos) (tRR ta):=by
 intro U s E H Q I h;show jd (ig I f m mL ?_);show ku ?_ C x;change wpAny _ _ (spliced ((af,eval (.Call (.Name "range" p2) [a] [] cc) X.env,)::cj pos (aQ [] X.env))) _ _ s;show jh (jd (ig I l w boot_range ?_));show ku (thn (ha cc U s E H _ I h) λus s1 L=>?_) J rfl;have(vs,H1,c,M,j,e,Y,j1,q):=L;subst e
 cases M with
 |cons r N=>
  cases N;have(t,rfl):=r;show call_range_1 ?_;show aE ?_
  show call_list_range (n:=S j) (c.ok.hd G) (IsRange.new ..) (small_one (by lia) (by lia) (by lia) (by lia)) (by rw[rangeSize_one];split <;> lia) (by lia) λh' T c2 z kp d y=>?_
  have le:s1.heap.objs.size<=(s1.heap.push {cls:=.type "range",data:=.fields #[.int 0 s1.toks,.int j t,.int 1 (s1.toks+1)]}).objs.size:=by
   simp[Heap.push]
  show(.ref _,_,c.laid (h':=h') (t':=T) (o:=.lst (((bI (S j)).map λ(i:Nat)=>(i:Int)).map V.int)) (λb u g=>kp b u (bG _ g)) le ?_,rfl,q _ (c.hok.fresh le));show(by rw[az,az,cN];change _<=16777216;lia,c2.toList,z,?_,by show d);rw[range_eq_range'];show HM j.toNat 0 c2.toList (by simpa using y.1) λi v B=>?_;have(t,A):=y.2 i v (by simpa using B);show(t,by rw[A];simp)
abbrev lrD:LD->OLD
 | [.int j]=>if 0<=j/\j<=1048576 then aa (((bI (S j)).map λ(i:Nat)=>(i:Int)).map D.int) else ab
 | _=>ab
def nW(f:MF2)(M:LS):OLD:=(f M).bind lrD
def Rk{n:Int}(h:f M=aa [.int n])(a:0<=n)(b:n<=1048576):nW f M=aa (((bI (S n)).map λ(i:Nat)=>(i:Int)).map D.int):=by
 unfold nW;rw[h];change(if 0<=n/\n<=1048576 then _ else ab)=_;rw[if_pos (a,b)]
def Rl(z:X.calm=ac)(e:Gl X "list")(m:X.mg "list"=ab)(g:Gl X "range")(n:X.mg "range"=ab)(ha:DA c X [a] f)
 (y:autoParam (aQ [.Call (.Name "range" p2) [a] [] cc] X.env=(af,eval (.Call (.Name "range" p2) [a] [] cc) X.env,)::aQ [] X.env) Zb)(A:autoParam (aQ [a] X.env=[(af,eval a X.env,)]) Zb)
 (q:autoParam ((cj pos (aQ [] X.env)).any (·.1)=af) Zb):
  DO c X (.Call (.Name "list" p) [.Call (.Name "range" p2) [a] [] cc] [] pos) (nW f):=PE.imp (Rj z e m g n ha.pa y A q) λE H Q B=>by
 have(Hf0,H0,Hf,M,ds,st,b,k):=B;unfold nW at b
 cases d:f M with
 |none=>rw[d]at b;cases b
 |some as=>
  rw[d]at b;replace b:lrD as=aa ds:=b;show(Hf0,H0,Hf,M,as,st,d,λvs Hf' H' x r=>?_);unfold lrD at b;split at b
  .split at b
   .rename_i j u;cases b;have(v,w,C):=r.one;cases (show v=V.int j from C);show(j,w,u.1,u.2,λl i=>k l _ Hf' _ (x.trans (Ext.tmp x.s i)) (x.h.free i) (x.s.free i) be (am.ints _))
   .cases b
  .cases b
open Classical in
def dM(f:LS->Option (D×LS))(M:LS):Option Fl:=(f M).map λp=>.nx p.2
def zG{f:LS->Option (D×LS)}(g:DX c X e f)(h:autoParam (gh e ab pos.line X.env=pure af) Zb):DS c X (.Expr e pos) (dM f):=PS.imp (lL g h) λX4 E H i=>by
 have(Hf0,H0,Hf,M,o,j,a,k):=i;unfold dM at a
 cases b:f M with
 |none=>rw[b]at a;nomatch a
 |some p=>
  rw[b]at a;cases a;show(Hf0,H0,Hf,M,p.1,p.2,j,b,λv Hf' H' s d r=>k E Hf' H' s d)
def i0{f:LS->Option (D×LS)}(h:f M=aa (d,ρ',))(k:K (.nx ρ')):wp (dM f) M K:=(_,by unfold dM;rw[h];rfl,k)
def i4{f:MF1}(h:f M=aa d)(k:K (.rtS d M)):wp (eM f) M K:=(_,by unfold eM;rw[h];rfl,k)
def am.erase{G:Gc}{H:Hp}:∀{ds:LD} {vs:LVv} (k:Nat),am G H ds vs->am G H (ds.eraseIdx k) (vs.eraseIdx k)
 | [],_,_,h=>by cases (show _=[]from h);show .nil
 |d::ds,_,0,(v,r,e,_,h2)=>by subst e;show h2
 |d::ds,_,k+1,(v,r,e,h1,h2)=>by subst e;show(v,r.eraseIdx k,rfl,h1,am.erase k h2)
def Fre(X3 Hf:Hp)(fp:LAd):Prop:=fp.Nodup/\∀a∈fp,X3 a=ab/\Hf a=ab
variable{X3:Hp}
def Fre.nil:Fre X3 Hf []:=⟨.nil,λ_ h=>nomatch h⟩
def Fre.one(h:X3 l=ab)(h':Hf l=ab):Fre X3 Hf [l]:=(b8.mpr (cG,fH),λa ha=>by rw[bv.mp ha];show(h,h'))
def Fre.imp{b:Hp}(h:Fre X3 Hf fp)(k:∀a,X3 a=ab->b a=ab):Fre b Hf fp:=(h.1,λa ha=>(k a (h.2 a ha).1,(h.2 a ha).2))
def bsH(b:Bool)(H0 H:Hp):Hp:=bif b then H else H0
variable{a:Addr}
def zH(s:aq H0 H)(h:H a=ab):bsH b H0 H a=ab:=by
 cases b with
 |true=>show h
 |false=>show s.free h
inductive tDZ(G:Gc)(b:Bool)(f:LS->Option O)(E:St)(H:Hp)(Q:VK):Prop
 |mk:∀Hf0 H0 Hf M o,av G Hf0 H0 Hf H E M->f M=aa o->(∀u fp Hf' H',Ext Hf H Hf' H'->OT G Hf' H' o u fp->Fre (bsH b H0 H) Hf' fp->Q u H')->tDZ G b f E H Q
def DZ(c:Str->Addr)(X:Cx)(b:Bool)(e:Expr)(f:LS->Option O):Prop:=PE X e (tDZ (Gx c X) b f)
def jJ(f:MF1)(M:LS):Option O:=(f M).map .fz
def iz(f:MF2)(M:LS):Option O:=(f M).map λds=>.lst (ds.map .fz)
def HN{f:MF1}(h:DE c X e f):DZ c X b e (jJ f):=PE.imp h λE H Q i=>by
 have(Hf0,H0,Hf,M,t,st,a,k):=i;unfold jJ at a
 cases g:f M with
 |none=>rw[g]at a;nomatch a
 |some d=>
  rw[g]at a;cases a;show(Hf0,H0,Hf,M,d,st,g,λv Hf' H' x r=>k v [] Hf' H' x (r,rfl) .nil)
def Rm(h:DO c X e f):DZ c X b e (iz f):=PE.imp h λE H Q j=>by
 have(Hf0,H0,Hf,M,t,st,a,k):=j;unfold iz at a
 cases d:f M with
 |none=>rw[d]at a;nomatch a
 |some ds=>
  rw[d]at a;cases a;show(Hf0,H0,Hf,M,ds,st,d,λl vs Hf' H' x hn g i r=>k _ [l] Hf' H' x (l,vs,[],rfl,i,OTs.fz r,rfl) (.one (zH st.ext.h hn) g))
def spT(G:Gc)(n:Nat)(m:LD->Option O):Sp:=λvs H Q _=>∃Hf ds o,aq Hf H/\am G Hf ds vs/\Z ds=n/\m ds=aa o/\∀u fp Hf' H',Ext Hf H Hf' H'->OT G Hf' H' o u fp->Fre H Hf' fp->Q u H'
mutual
noncomputable def O.flat:O->Bool
 |.fz d=>d.flat
 |.lst os=>O.flats os
 |.tup os=>O.flats os
 |.dic _ os=>O.flats os
 |.ins _ _ os=>O.flats os
 |.dT _ os=>O.flats os
 |.at _ o=>o.flat
 |.jnk _=>ac
 |.any=>ac
noncomputable def O.flats:List O->Bool
 | []=>ac
 |o::os=>o.flat && O.flats os
end
def nX(i:Nat)(f:LS->Option O)(M:LS):Option Fl:=(f M).map λo=>.nx (M.set i (.deep o))
def Rn(i:Nat){f:LS->Option O}(j:X.N.Nodup)(l:DZ c X ac e f)(hi:autoParam (X.N[i]?=aa x) Zb)(q:autoParam (Loc X.env.scope x) Zf)(n:autoParam (gh e (aa (.Name x bm)) pos.line X.env=pure af) Zb)(m:autoParam (LcF X x) Zg):
  DS c X (.Assign [.Name x bm] e pos) (nX i f):=PS.imp (px j hi q l n m) λX4 E H v=>by
 have(Hf0,H0,Hf,M,o,g,b,k):=v;unfold nX at b
 cases d:f M with
 |none=>rw[d]at b;nomatch b
 |some t=>
  rw[d]at b;cases b;show(Hf0,H0,Hf,M,t,g,d,λu fp Hf' H' x r z=>k _ Hf' H' x.f (g.setNew x (u,fp,rfl,r,z.1,λa ha=>(g.ext.h.free (z.2 a ha).1,(z.2 a ha).2)) λa p=>?_));have(fp',w,ha):=p;have:=OT.funM t u fp fp' r w;subst this;show(z.2 a ha).1
def OTs.at:∀{G:Gc} {Hf H:Hp} {os:List O} {vs:LVv} {fp:LAd} {k:Nat} {o:O},OTs G Hf H os vs fp->os[k]?=aa o->∃v f,vs[k]?=aa v/\OT G Hf H o v f/\∀a∈f,a∈fp
 | _,_,_,[],_,_,_,_,_,e=>by simp at e
 | _,_,_,o::os,_,_,0,o',q8_,e'=>by
  have(v,r,f1,f2,e,d,h2,c):=q8_;cases e';subst e c
  show(v,f1,rfl,d,λa ha=>bX _ ha)
 | _,_,_,o::os,_,_,k+1,o',q8_,e'=>by
  have(v,r,f1,f2,e,d,h2,c):=q8_;subst e c;have(g,f,a,b,m):=OTs.at h2 e';show(g,f,by rw[g8];show a,b,λa ha=>cq _ (m a ha))
variable{i:Nat}
def Ro{f:LS->Option O}{o:O}(h:f M=aa o)(k:K (.nx (M.set i (.deep o)))):wp (nX i f) M K:=(_,by unfold nX;rw[h];rfl,k)
def OTs.length{G:Gc}{Hf H:Hp}:∀{os:List O} {vs:LVv} {fp:LAd},OTs G Hf H os vs fp->Z os=Z vs
 | [],_,_,h=>by rw[h.1];rfl
 |o::os,_,_,(v,r,f1,f2,e,h1,h2,ef)=>by subst e;simp[OTs.length h2]
def OTs.append{G:Gc}{Hf H:Hp}:∀{os ps:List O} {vs us:LVv} {f g:LAd},OTs G Hf H os vs f->OTs G Hf H ps us g->OTs G Hf H (os++ps) (vs++us) (f++g)
 | [],_,_,_,_,_,h,t=>by have(a,b):=h;subst a b;show t
 |o::os,_,_,_,_,_,(v,r,f1,f2,e,h1,h2,ef),t=>by subst e ef;show(v,r++_,f1,f2++_,rfl,h1,OTs.append h2 t,cO _ _ _)
def OTs.one{o:O}{f:LAd}(h:OT G Hf H o v f):OTs G Hf H [o] [v] f:=(v,[],f,[],rfl,h,(rfl,rfl),(bT _).symm)
def O.appd(o:O)(d:D):Option O:=match o with
 |.lst C=>if Z C<16777216 then aa (.lst (C++[.fz d])) else ab
 |.jnk n=>if n<16777216 then aa (.jnk (n+1)) else ab
 | _=>ab
def HP{o o':O}{fk:LAd}(h:o.appd d=aa o')(r:OT G Hf H o v fk):∃l us,v=.ref l/\H l=aa (.lst us)/\Z us<16777216/\l∈fk /\
  ∀Hf' H' w,fk.Nodup->aq Hf Hf'->(∀b u,b≠l->H b=aa u->H' b=aa u)->H' l=aa (.lst (us++[w]))->Rep G Hf' d w->OT G Hf' H' o' v fk:=by
 cases o with
 |lst C=>
  replace h:(if Z C<16777216 then aa _ else ab)=aa o':=h;split at h
  .rename_i j;cases h;have(l,us,fs,e,q,B,c):=r;subst e c;show(l,us,rfl,q,by rw[<- B.length];show j,aA,λHf' H' w n f m i a=>?_)
   have o1:=OTs.frameM f C us fs B λb u g hm=>m b u (λz=>by
    subst z;rw[q]at g;cases g
    rcases hm with hm |hm
    .nomatch hm
    .show(b8.mp n).1 hm) g
   have o2:=o1.append (.one (o:=.fz d) (a,rfl));rw[bT]at o2;show(l,us++[w],fs,rfl,i,o2,rfl)
  .nomatch h
 |jnk n=>
  replace h:(if n<16777216 then aa _ else ab)=aa o':=h;split at h
  .rename_i j;cases h;have(l,us,e,q,z,c):=r;subst e c;show(l,us,rfl,q,by lia,aA,λHf' H' w _ f m i a=>(l,us++[w],rfl,i,by rw[aV,gc];lia,rfl))
  .nomatch h
 | _=>nomatch h
def HQ(G:Gc)(Hf H:Hp)(E:St)(M:LS)(a:Addr):Prop:=∀(k:Nat) (t:Sl) (w:V),M[k]?=aa t->E[k]?=aa (aa w)->Holds G Hf H t w a->False
def HR(ks:LN)(a b:LS):Prop:=Z a=Z b/\∀m,m∉ks->a[m]?=b[m]?
def HR.refl(ks:LN)(a:LS):HR ks a a:=(rfl,λ_ _=>rfl)
def gR(H:Hp)(fp:LAd):Hp:=λa=>if a∈fp then ab else H a
def zJ(h:a∈fp):gR H fp a=ab:=by unfold gR;rw[if_pos h]
def vv(h:a∉fp):gR H fp a=H a:=by unfold gR;rw[if_neg h]
def Rp:aq (gR H fp) H:=λa o e=>by
 by_cases h:a∈fp
 .rw[zJ h]at e;nomatch e
 .rw[vv h]at e;show e
def HS{F H:Hp}(s:aq F H)(h:∀a∈fp,F a=ab):aq F (gR H fp):=λa o e=>by
 rw[vv (λz=>by rw[h a z]at e;nomatch e)];show s a o e
variable{kvs:List (Key×V)}
def Inv.freeze(I:Inv X U E H s)(e:H l=aa (.dK kvs)):∃od,Inv X U E (upd H l (.frz od (.dK kvs))) s:=by
 have(z,ns,vs,f,od,es,ep,g,r):=FP I.hok e;show(od,?_)
 have d:∀b u,H b=aa u->(∀w,u≠.dK w)->upd H l (.frz od (.dK kvs)) b=aa u:=λb u a i=>by
  rw[aN (λq=>by subst q;rw[e]at a;cases a;show i _ rfl)];show a
 have:=I.step (t':=s.toks) (d':=s.drawn) (ch:=[]) (λb a=>nomatch a) (λb o _ _ _ e _=>e) (λb o _ _ _ e _=>(o.slots,e)) (λb o _ _ n=>by rw[aN (λq=>by subst q;rw[e]at n;nomatch n)];show n)
  (λb o _ e=>(o,e)) (λb C a=>d b _ a (λw q=>by nomatch q)) (λb o u a=>d b _ a (λw q=>by nomatch q)) (λb ps a=>(#[],by rw[d b _ a (λw q=>by nomatch q)];simp)) (λm hm=>hm) (λb u a=>?_) I.bare
 .show this
 .by_cases q:b=l
  .subst q;rw[be]at a;cases a;show(g,z,ns,vs,f,od,es,ep,g,r)
  .rw[aN q]at a;show(I.hok b u a).stay (λc v _ h=>h) (λc h=>d c _ h (λw q=>by nomatch q)) (λc C h=>d c _ h (λw q=>by nomatch q))
def Itk(od:Obj)(d:Addr):It:=
  (λi H=> ∃kvs k v, H d = aa (.frz od (.dK kvs))/\kvs[i]? = aa (k, v,),
   λi H x H'=> H' = H/\∀kvs, H d = aa (.frz od (.dK kvs))->∃k v, kvs[i]? = aa (k, v,)/\x = kV k,
   λi H=> ∃kvs, H d = aa (.frz od (.dK kvs))/\Z kvs<=i)
def KV.get:∀{C:List (Key×V)} {us:List (Key×Value)} {i:Nat} {x:Key×V},KV C us->C[i]?=aa x->∃u,us[i]?=aa u/\x.1=u.1/\aD x.2 u.2
 | _,_,_,_,.nil,e=>by simp at e
 | _,_,0,_,.cons r _,e=>by simp at e;subst e;show(_,rfl,r)
 | _,_,i+1,x,.cons _ t,e=>by
  have(u,a,h2):=KV.get t (by simpa using e);show(u,by simpa using a,h2)
def Rq{k:Key}{v:Value}(h:lJ k v=ac):aD (kV k) v:=by
 rcases jm h with⟨i,t,rfl,rfl⟩ |⟨x,t,rfl,rfl⟩
 .show(t,rfl)
 .show(t,rfl)
variable{K:aU}
def Rr{od:Obj}{es:Array DictEntry}(hd:od.data=.dict es ep)(d it:Addr):kL P w K tg (Itk od d) [it] it (λi h=>h.IsKeyIter it d i es.size ep) where
 mem:=by simp
 obj:=λi h st b hb=>by
  have e:b=it:=by simpa using hb
  subst e;have(o,e,c,d):=st;show⟨o,e,λv z=>by rw[d]at z;nomatch z⟩
 keep:=λi h h' st k=>st.at λo e=>k it (by simp) o e
 item:=by
  intro X hP hw hK hc i U s E H X4 I hf st hg;subst hP hw hK;have(kvs,k,v,hH,hx):=hg;have(ho,z,ns,vs,rel,od',es',ep',ho',ex,hd',kk,pp,nd):=I.hok d _ hH;rw[ho]at ho';cases ho';rw[hd]at hd';cases hd';have hm:s.heap.DictAt _ d vs ep:=(od,es,ho,ex,hd,kk,pp,nd);have hl:es.size=Z vs:=by rw[<- pp.length];simp
  have((k',v'),hv,ek,rv):=KV.get rel hx;subst ek;have(f0,f1,f2,f3,f4,f5):=hf it (by simp);rw[hl]at st;show wpAny_pyNext_dict_item st hm hv λkey h' hkey d2 sb=>?_;show(key,rfl,letGo_keyiter d2 (kV k,H,(I.turned (λb o hb e=>(sb.2 b hb).trans e) f0 f1 f3 f4 f5),Rq hkey,(rfl,λkvs2 h2=>?_),by rw[hl];show d2,λb hb=>(hf b hb).1));rw[hH]at h2;cases h2;show(k,v,hx,rfl)
 done:=by
  intro X hP hw hK hc i U s E H X4 I hf st hg;subst hP hw hK;have(kvs,hH,hx):=hg;have(ho,z,ns,vs,rel,od',es',ep',ho',ex,hd',kk,pp,nd):=I.hok d _ hH;rw[ho]at ho';cases ho';rw[hd]at hd';cases hd';have hm:s.heap.DictAt _ d vs ep:=(od,es,ho,ex,hd,kk,pp,nd);have hl:es.size=Z vs:=by rw[<- pp.length];simp
  have hv:=pc rel;have(f0,f1,f2,f3,f4,f5):=hf it (by simp);rw[hl]at st;show wpAny_pyNext_dict_end (I.ok.hd hc) st hm (gb (by lia)) λh' eb=>(rfl,I.turned (λb o hb e=>eb b o hb e) f0 f1 f3 f4 f5)
 self:=λ_ _ _ _ _ st h=>wpAny_pyIter_keyiter st h
def Rs(te:TE):TI:=λE H R=>te E H λx H1=>∃d od kvs,x=.ref d/\H1 d=aa (.frz od (.dK kvs))/\R (Itk od d) H1
def Ru(m:PE X e te):PI X tg e (Rs te):=by
 intro U s E H R I h;show thn (m U s E H _ I h) λv s1 u=>?_;have(x,H1,f,w,r):=u;have(d,od,kvs,ex,j,q):=r;subst ex;subst w;have(i,z,ns,vs,y,p,es,ep,c,g,a,kk,pp,nd):=f.hok d _ j;rw[i]at c;cases c;have hm:s1.heap.DictAt _ d vs ep:=(od,es,i,g,a,kk,pp,nd);have n:es.size=Z vs:=by rw[<- pp.length];simp
 show wpAny_pyIter_dict ns hm ?_;show(s1.heap.objs.size,_,_,_,H1,rfl,f.kept λb o e=>bG _ e,Rr a d _,(_,cQ _ rfl,rfl,by rw[n];rfl),λb l=>?_,q);have e:b=s1.heap.objs.size:=by simpa using l
 subst e;show f.fpOk (aO _) (f.hok.fresh (aO _))
abbrev kD:Key->D
 |.inl i=>.int i
 |.inr x=>.str x
def Rv(k:Key):Rep G H (kD k) (kV k):=by cases k <;> rfl
abbrev Rw:D->OLD
 |.kd ks _=>aa (ks.map kD)
 | _=>ab
def si(f:MF1)(M:LS):OLD:=(f M).bind Rw
def HU{a c:Type}:∀{ks:List a} {vs:List c} {i:Nat} {k:a},Z ks=Z vs->ks[i]?=aa k->∃v,(ks.zip vs)[i]?=aa (k,v,)
 | [],_,_,_,_,e=>by simp at e
 | _::_,[],_,_,h,_=>by cases h
 |k::ks,v::vs,0,_,_,e=>by simp at e;subst e;show(v,rfl)
 |k::ks,v::vs,i+1,_,h,e=>by
  have(u,b):=HU (by simpa using h) (by simpa using e);show(u,by simpa using b)
variable{f:MF1}
def Rx(I:DE c X e f):DI c X tg e (si f):=PI.imp (Ru I) λE H R L=>by
 have(Hf0,H0,Hf,M,ds,st,b,k):=L;unfold si at b
 cases h:f M with
 |none=>rw[h]at b;nomatch b
 |some d=>
  rw[h,ax]at b
  cases d with
  |kd ks C=>
   cases b;show(Hf0,H0,Hf,M,_,st,h,λv Hf' H' x r=>?_);have(a,od,vs,A,q,z,B):=r;show(a,od,_,A,x.s _ _ q,k _ Hf' H' x λaG H2 f2 s2 i=>?_);have l:=(f2.trans s2) _ _ q;show(λd g=>?_,λw=>(_,l,by rw[oR,<- z];rw[az]at w;lia));rw[cz]at g
   cases j:ks[i]? with
   |none=>rw[j]at g;nomatch g
   |some n=>
    rw[j]at g;cases g;have(u,m):=HU z j;show((_,n,u,l,m),λy N (p,J)=>?_);subst p;have(Q,T,h2,G):=J _ l;rw[m]at h2;cases h2;subst G
    show(aG,Ext.refl s2,Rv n)
  | _=>nomatch b
def gS(ks:List Key)(C:LD)(k:Key):OD:=((ks.zip C).find? λa=>decide (a.1=k)).map (·.2)
def vw{G:Gc}{H:Hp}{k:Key}:∀{ks:List Key} {C:LD} {vs:LVv},Z ks=Z vs->am G H C vs->(∀d,gS ks C k=aa d->∃v,cS (ks.zip vs) k=aa v/\Rep G H d v)/\(gS ks C k=ab->cS (ks.zip vs) k=ab)
 | [],_,_,_,_=>(λd h=>(by cases h),λ_=>rfl)
 | _::_,_,[],h,_=>by cases h
 |j::ks,[],v::vs,_,r=>by cases (r)
 |j::ks,x::C,v::vs,h,q4_=>by
  have(u,f,e,c,h2):=q4_
  injection e with e1 e2
  subst e1 e2;have(a,b):=vw (by simpa using h) h2;unfold gS;simp only[fF,fF]
  by_cases q:j=k
  .subst q;show(λd hd=>(v,rq rfl,?_),λhd=>?_)
   .rw[find?_cons_of_pos (by simp)]at hd;cases hd;show c
   .rw[find?_cons_of_pos (by simp)]at hd;cases hd
  .rw[find?_cons_of_neg (by simpa using q),pA q];show(a,b)
abbrev vz:D->Option (List Key×LD)
 |.dic ks C=>aa (ks,C,)
 |.kd ks C=>aa (ks,C,)
 | _=>ab
variable{a:Expr}
def HV{p:List Key×LD}(e:vz d=aa p)(r:Rep G H d v):∃a vs,v=.ref a/\Rd H a (.dK (p.1.zip vs))/\Z p.1=Z vs/\am G H p.2 vs:=by
 cases d with
 |dic ks C=>cases e;have(a,vs,b,q,z,r):=r;show(a,vs,b,.inl q,z,r)
 |kd ks C=>cases e;have(a,od,vs,b,q,z,r):=r;show(a,vs,b,.inr (od,q),z,r)
 | _=>nomatch e
variable{u:HO}
def Rd.up{a:Addr}(h:Rd H a u)(s:aq H H'):Rd H' a u:=h.imp (s _ _) λb=>by
 have(o,e):=b;show((o,s _ _ e))
def sj(x y:D):OD:=(vz x).bind λp=>(jE y).bind λk=>gS p.1 p.2 k
variable{b:Expr}
def Ry(hu:X.A.units+64<cLine)(ha:DE c X a f)(J:DE c X b g)(L:autoParam (rA b) Zj):DE c X (.Subscript a b pos) (m2 sj f g):=
 PE.imp (yy (by lia) ha J L) λE H Q U=>by
  have(Hf0,H0,Hf,M,d,st,G,k):=U;have(x,y,B,C,e):=nr G;show(Hf0,H0,Hf,M,x,st,B,λv a4 H1 n Y=>(Hf0,H0,a4,M,y,st.step n,C,λu aG H2 m r2=>?_));unfold sj at e
  cases h:vz x with
  |none=>rw[h]at e;nomatch e
  |some p=>
   rw[h,ax]at e
   cases i:jE y with
   |none=>rw[i]at e;nomatch e
   |some T=>
    rw[i,ax]at e;have(l,vs,el,q,z,r):=HV h (Y.up m.f);have I:=rY i r2;subst I el;have(w,N,j):=(vw z r).1 d e;show(l,w,rfl,.inl (_,T,q.up m.s,rfl,N.symm),k _ aG H2 (n.trans m) j)
def qd(i:Nat)(fk a:MF1)(M:LS):OD:=match M[i]? with
 |some (.ownd ks C)=>(fk M).bind λy=>(jE y).bind λk=>(a M).map λx=>(gS ks C k).getD x
 | _=>ab
variable{cpos:Pos}
def Rz{o:Expr}(hu:X.A.units+64<cLine){B:MF1}(U:PE X o (c8 i))(T:DE c X a fk)(hx:DE c X b B)(m:M2 X o "get" apos a b cpos):DE c X (.Call (.Attribute o "get" apos) [a,b] [] cpos) (qd i fk B):=
 PE.imp (yA (by lia) U T hx m) λE H Q q_=>by
  have(Hf0,H0,Hf,M,d,st,e,k):=q_;unfold qd at e;split at e
  .rename_i ks C es
   cases j:fk M with
   |none=>rw[j]at e;nomatch e
   |some y=>
    rw[j,ax]at e
    cases p:jE y with
    |none=>rw[p]at e;nomatch e
    |some J=>
     rw[p,ax]at e
     cases n:B M with
     |none=>rw[n]at e;nomatch e
     |some x=>
      rw[n]at e;cases e;have(l,el,h0,hf,vs,q,z,r):=st.ownAt rfl es;show(_,el,l,rfl,.inl (_,.inl q),Hf0,H0,Hf,M,y,st,j,λv a4 H1 g r1=>(Hf0,H0,a4,M,x,st.step g,n,λu aG H2 I r2=>?_));have L:=rY p r1;subst L;show(cS _ J,fX.k ((g.trans I).h _ _ q),k _ aG H2 (g.trans I) ?_);have(N,h2):=vw z (r.up (g.trans I).f)
      cases hv:gS ks C J with
      |none=>rw[h2 hv];show r2
      |some d=>
       have(w,Y,G):=N d hv;rw[Y];show G
  .nomatch e
def qe(i:Nat)(F:MF3)(M:LS):Option Fl:=match M[i]? with
 |some (.ownd ks C)=>F (M.set i (.im (.kd ks C)))
 | _=>F M
def RA{F:MF3}{X4:jn}(I:Inv X U E H s)(h:tDS (Gx c X) (qe i F) X4 E H):∃H',Inv X U E H' s/\tDS (Gx c X) F X4 E H':=by
 have(Hf0,H0,Hf,M,o,Q,T,k):=h;unfold qe at T;split at T
 .rename_i ks C es;have(l,A,h0,G,vs,q,z,r):=Q.ownAt rfl es;have(od,I'):=I.freeze q;show(_,I',Hf0,H0,upd Hf l (.frz od (.dK (ks.zip vs))),M.set i _,o,?_,T,k.up (bU G))
  have s1 : av _ Hf0 H0 Hf (upd H l (.frz od (.dK (ks.zip vs)))) E (M.set i .no):=Q.chg es A (λb u Y=>by
   by_cases g:b=l
   .subst g;show .inl ((Holds.own rfl).mpr rfl)
   .show .inr (by rw[aN g];show Y)) trivial λa p=>(p.calm rfl).elim
  have s2:av (Gx c X) Hf0 H0 (upd Hf l (.frz od (.dK (ks.zip vs)))) (upd H l (.frz od (.dK (ks.zip vs)))) E (M.set i .no):=by
   have fr:HQ (Gx c X) Hf H E (M.set i .no) l:=λm t w b x p=>by
    rcases c9 b with⟨_,e',_⟩ |⟨ne,b⟩
    .subst e';show p.calm rfl
    .show ne (Q.dj m i t _ w _ l b es x A p ((Holds.own rfl).mpr rfl))
   have L:HQ (Gx c X) Hf (upd H l (.frz od (.dK (ks.zip vs)))) E _ l:=λm t w b x p=>by
    cases B:t.isOwn with
    |true=>
     show fr m t w b x ((Holds.own B).mpr ((Holds.own B).mp p))
    |false=>
     cases t with
     |deep o'=>
      have(fp,rr,ha):=p
      have (u,fp',eu,r2,_):=Q.at' m _ _ x (by
       rcases c9 b with⟨_,e',_⟩ |⟨ne,b⟩
       .nomatch e'
       .show b)
      cases eu
      have r3:OT _ Hf (upd H l (.frz od (.dK (ks.zip vs)))) o' w fp':=r2.frame (aq.refl _) λb' u' g j=>by
       rw[aN (λJ=>?_)]
       .show g
       .subst J
        rcases j with j |j
        .rw[q]at g;cases g;nomatch j
        .show fr m _ w b x (fp',r2,j)
      have:=OT.funM o' w _ _ r3 rr;subst this
      show fr m _ w b x (fp',r2,ha)
     | _=>first |show tP p.1 |nomatch B
   show s1.re (s1.ext.f.trans (bU G),s1.ext.h,λb u e=>?_,λb u e t=>?_) rfl (λm v t a b=>?_) λm t v a b x p=>(t,b,(s1.at' m _ t x b).back (λo' fp _ r=>r.up (bU G) (aq.refl _)) p)
   .by_cases Y:b=l
    .subst Y;rw[be]at e ⊢;show e
    .rw[aN Y]at e;show s1.ext.s b u e
   .rw[aN (λz=>by subst z;rw[h0]at e;nomatch e)];show s1.ext.n b u e t
   .have J:=s1.at' m v t a b
    cases B:t.isOwn with
    |true=>
     have(l2,e2,e3,e4,q2):=J.own B;subst e2;show .ofOwn B (l2,rfl,e3,?_,q2.up (bU G) λo' ho'=>ho');rw[aN (λz=>by subst z;show L m t _ b a ((Holds.own B).mpr rfl))]
     show e4
    |false=>
     cases t with
     |no=>trivial
     |im d=>have(u',A,r):=J;show(u',A,r.up (bU G))
     |val u'=>show J
     |deep o'=>
      have(w,fp,A,r,n,zz):=J;subst A;show(w,fp,rfl,r.up (bU G) (aq.refl _),n,λy hy=>((zz y hy).1,?_));rw[aN (λz=>by subst z;show L m _ w b a (fp,r,hy))]
      show(zz y hy).2
     | _=>nomatch B
  have N:=s2.setIm (i:=i) (d:=.kd ks C) (l,od,vs,rfl,be,z,r.up (bU G))
  have e3:E.set i (aa (.ref l))=E:=by
   apply mF;intro jj
   by_cases hj:i=jj
   .subst hj;rw[kj (dh.mp A).1,A]
   .rw[lu hj]
  rw[e3,set_set]at N;show N
 .show(H,I,Hf0,H0,Hf,M,o,Q,T,k)
def RB{F:MF3}(i:Nat)(h:DS c X st F):DS c X st (qe i F):=λU s E H X4 I q=>by
 have(H',a,b):=RA I q;show h U s E H' X4 a b
nonrec def Xe:=LS->Option (D×LS)
nonrec def Xa:=LS->Option (LD×LS)
nonrec def Xt:=LS->Option (Bool×LS)
def mX(f:MF1):Xe:=λM=>(f M).map λd=>(d,M,)
def cF:Xa:=λM=>aa ([],M,)
def bP(f:Xe)(g:Xa):Xa:=λM=>(f M).bind λp=>(g p.2).map λq=>(p.1::q.1,q.2,)
def RC(h:mX f M=aa (d,ρ',)):f M=aa d/\ρ'=M:=by
 unfold mX at h
 cases e:f M with
 |none=>rw[e]at h;nomatch h
 |some d'=>rw[e]at h;cases h;show(rfl,rfl)
def HW{f:Xe}{g:Xa}(h:bP f g M=aa (ds,ρ',)):∃d r ρ1,f M=aa (d,ρ1,)/\g ρ1=aa (r,ρ',)/\ds=d::r:=by
 unfold bP at h
 cases b:f M with
 |none=>rw[b]at h;nomatch h
 |some p=>
  rw[b,ax]at h
  cases a:g p.2 with
  |none=>rw[a]at h;nomatch h
  |some q=>rw[a]at h;cases h;show(p.1,q.1,p.2,rfl,a,rfl)
inductive sm(G:Gc)(f:Xa)(E:St)(H:Hp)(Q:LVv->Hp->Prop):Prop
 |mk:∀Hf0 H0 Hf M ds ρ',av G Hf0 H0 Hf H E M->f M=aa (ds,ρ',)->(∀vs Hf' H',aq Hf Hf'->av G Hf0 H0 Hf' H' E ρ'->am G Hf' ds vs->Q vs H')->sm G f E H Q
structure DAX(c:Str->Addr)(X:Cx)(es:LEx)(f:Xa):Prop where
 pa:PA X es (sm (Gx c X) f)
 len:∀M ds ρ',f M=aa (ds,ρ',)->Z ds=Z es
def DE.dx(h:DE c X e f):DX c X e (mX f):=PE.imp h λE H Q g=>by
 have(Hf0,H0,Hf,M,d,ρ',st,b,k):=g;have(a,rfl):=RC b;show(Hf0,H0,Hf,_,d,st,a,λv Hf' H' x r=>k v Hf' H' x.f (st.step x) r)
def RD:DAX c X [] cF:=(PA.imp d9 λE H Q b=>by have(Hf0,H0,Hf,M,ds,ρ',st,a,k):=b;cases a;show k [] Hf H (aq.refl _) st rfl,λM ds ρ' h=>by cases h;rfl)
variable{f:Xe}
def HX{g:Xa}(ha:DX c X e f)(hr:DAX c X es g)(l:autoParam (StE X e es) Zb):DAX c X (e::es) (bP f g):=by
 show(PA.imp (e9 ha hr.pa l) λE H Q m=>?_,λM ds ρ' h=>?_)
 .have(Hf0,H0,Hf,M,ds,ρ',st,j,k):=m;have(d,r,ρ1,i,a,rfl):=HW j;show(Hf0,H0,Hf,M,d,ρ1,st,i,λv a4 H1 f1 st1 n=>(Hf0,H0,a4,ρ1,r,ρ',st1,a,λvs aG H2 f2 b p=>k _ aG H2 (f1.trans f2) b (.cons (n.up f2) p)))
 .have(d,r,ρ1,i,a,rfl):=HW h;simp[hr.len ρ1 r ρ' a]
def f9(i:Nat)(f:Xe)(M:LS):Option Fl:=(f M).map λp=>.nx (p.2.set i (.im p.1))
abbrev zK:D->D->OD
 |.int i,.int j=>aa (.int (i+j))
 |.str a,.str b=>if a.length+b.length<=16777216 then aa (.str (a++b)) else ab
 | _,_=>ab
def ma(i:Nat)(f:Xe)(M:LS):Option Fl:=match M[i]? with
 |some (.im x)=>(f M).bind λp=>(zK x p.1).map λz=>.nx (p.2.set i (.im z))
 | _=>ab
def vA(i:Nat)(g:X.N.Nodup)(h:DX c X e f)(hi:autoParam (X.N[i]?=aa x) Zb)(m:autoParam (Loc X.env.scope x) Zf)(l:autoParam (gh e (aa (.Name x bm)) pos.line X.env=pure af) Zb)(j:autoParam (LcF X x) Zg):
  DS c X (.Assign [.Name x bm] e pos) (f9 i f):=PS.imp (px g hi m h l j) λX4 E H n=>by
 have(Hf0,H0,Hf,M,o,q,a,k):=n;unfold f9 at a
 cases b:f M with
 |none=>rw[b]at a;nomatch a
 |some p=>
  rw[b]at a;cases a;show(Hf0,H0,Hf,M,p.1,p.2,q,b,λv Hf' H' s d r=>k _ Hf' H' s (d.setIm r))
def RE:PIp X .Add (rD (Gx c X) zK):=λU s E H x y v u Q I l m q=>by
 have(Hf,dx,f,d,n,g,h,e,k):=q
 show (by
 cases dx with
 |int i=>
  cases f with
  |int j=>
   subst g;subst h;cases e
   show L9 U s E H _ _ v u Q I l m (_,_,rfl,rfl,k _ Hf H (Ext.refl n) rfl)
  | _=>nomatch e
 |str a=>
  cases f with
  |str b=>
   subst g;subst h;replace e:(if _ then aa _ else ab)=aa d:=e;split at e
   .rename_i p;cases e;show MM U s E H _ _ v u Q I l m (_,_,rfl,rfl,by rw[dJ];show p,k _ Hf H (Ext.refl n) rfl)
   .grind
  | _=>nomatch e
 | _=>nomatch e)
def HY(i:Nat)(A:X.N.Nodup)(B:DX c X e f)(hi:autoParam (X.N[i]?=aa x) Zb)(G:autoParam (Loc X.env.scope x) Zf)(C:autoParam (LcF X x) Zg):
  DS c X (.AugAssign (.Name x bm) .Add e pos) (ma i f):=PS.imp (Fc A hi G B (RE) C) λX4 E H I=>by
 have(Hf0,H0,Hf,M,o,l,a,k):=I;unfold ma at a;split at a
 .rename_i d es
  cases g:f M with
  |none=>rw[g]at a;nomatch a
  |some p=>
   rw[g,ax]at a
   cases h:zK d p.1 with
   |none=>rw[h]at a;nomatch a
   |some z=>
    rw[h]at a;cases a;have(v,n,w,q,j):=l.slot es;subst q;show(_,n,Hf0,H0,Hf,M,p.1,p.2,l,g,λu Hf' H' s b r=>(Hf',d,p.1,z,b.sub,j.up s,r,h,λy aG H2 m J=>k _ aG H2 (s.trans m.f) ((b.step m).setIm J)))
 .nomatch a
def isE(x d:D):Bool:=deq 19 d x==aa ac
def gT(y x:D):OD:=match y with
 |.lst ds=>if dF x ds=aa ac then aa (.int ((ds.findIdx (isE x):Nat):Int)) else ab
 | _=>ab
def zM{x:D}:∀{ds:LD} {b:Bool},dF x ds=aa b->(∀d∈ds,∃f,deq 19 d x=aa f)/\ds.any (isE x)=b
 | [],_,h=>by cases h;show(λd hd=>(cG hd).elim,rfl)
 |d::ds,b,h=>by
  have(a,j,c,h2,rfl):=G4 h;have(g,i):=zM h2;show(λd' hd=>?_,?_)
  .rcases bc.mp hd with e |e
   .rw[e];show(a,c)
   .show g d' e
  .rw[gG,i];unfold isE;rw[c]
   cases a <;> rfl
abbrev zN(G:Gc):V->LVv->Hp->VK->Prop:=λa vs H Q=>∃Hf y x d w,vs=[w]/\aq Hf H/\Rep G Hf y a/\Rep G Hf x w/\gT y x=aa d/\∀v Hf' H',Ext Hf H Hf' H'->Rep G Hf' d v->Q v H'
def HZ(hu:X.A.units+64<cLine):MtM X "list.index" (zN (Gx c X)):=by
 rintro U s E H x C v us Q I rx rv ⟨Hf,y,z,d,w,rfl,i,r1,r2,e,k⟩;unfold gT at e;split at e
 .rename_i ds;split at e
  .rename_i a;cases e;have(l,vs,el,q,B):=r1;subst el;subst rx;have(u,rfl,ru):=rv.one;have(z1,L,n,Y,T,e0):=I.lstM (i _ _ q);have(f,M,ha):=r9 (A:=X.A.in1) I (by rw[rb];lia) (r2.up i) ru (B.up i) Y a;have(k1,k2):=zM a
   have same:∀m _,f L[m]=isE z (ds.getD m .non):=λm hm=>by
    have r:m<Z ds:=by rw[B.length,T];show hm
    have(v1,j,J):=B.get (b7 r);have(u1,b,ru1):=Y.get j;rw[b7 hm]at b;cases b;have(_,d',v',r',G,h'):=M L[m] (g9 hm);have ev:=aD.inj G ru1;subst ev;have(b1,g):=k1 ds[m] (g9 r);rw[bE,b7 r];change _=isE z ds[m];unfold isE;rw[g,(r6 19 r' (J.up i) h' g)]
    cases b1 <;> rfl
   have N:=xl (any_eq_true.mp k2);have h:ds.findIdx (isE z)<Z L:=by rw[<- T,<- B.length];show N
   show call_meets F.slot_list_index (_,e0,rfl) F.entry_list_index (F.args_list_index_2 _ _) (SeqAt.list_indexAt l L.toArray n ab #[] u f _ (by rw[size_toArray];show h) (by rw[dJ]at z1;lia) ?_ ?_) (e0,λy hy=>(M y (by simpa using hy)).1,(.int _,H,I.tok _,(_,rfl),k _ Hf H (Ext.refl i) rfl))
   .simp only[tT,same _ h,bE,b7 N];show findIdx_getElem
   .intro m hm p;rw[tT,same m (by rw[size_toArray]at hm;show hm),bE,b7 _];have:=not_of_lt_findIdx p;show this
  .nomatch e
 .nomatch e
def RF{f:MF1}(h:PE X e (tBM X.K "list" (zN (Gx c X)) (tD (Gx c X) f) (jp (tD (Gx c X) g) ip))):DE c X e (m2 gT f g):=PE.imp h λE H Q A=>by
 have(Hf0,H0,Hf,M,d,st,z,k):=A;have(x,y,p,r,a):=nr z
 obtain⟨ds,rfl⟩:∃ds,x=.lst ds:=by
  unfold gT at a;split at a
  .show(_,rfl)
  .nomatch a
 show(Hf0,H0,Hf,M,_,st,p,λv a4 H1 i m=>?_);have(l,vs,el,q,B):=id m;subst el;show(.inl (rfl,_,SqL.of (i.s _ _ q)),Hf0,H0,a4,M,y,st.step i,r,λu aG H2 j C=>(aG,.lst ds,y,d,u,rfl,j.s,m.up j.f,C,a,λw b n I G=>k w b n ((i.trans j).trans I) G))
def H9{b:Type}:∀(a:List (Int×b)),(a.map (·.1)).Nodup->∀z∈a,a.find? (λy=>y.1==z.1)=aa z
 | [],_,_,h=>(cG h).elim
 |y::a,nd,z,h=>by
  rw[bO,b8]at nd;rw[find?_cons]
  rcases bc.mp h with e |e
  .rw[e,beq_self_eq_true]
  .have:_=af:=beq_eq_false_iff_ne.mpr λq=>nd.1 (aM.mpr (z,e,q.symm));rw[this];show H9 a nd.2 z e
def DE.pe{f:MF1}(h:DE c X e f):PE X e (tD (Gx c X) f):=h
def DX.pe(h:DX c X e f):PE X e (tDX (Gx c X) f):=h
def RG(x y z:D):OD:=(vz x).bind λp=>(jE y).map λk=>(gS p.1 p.2 k).getD z
def sn(f g h:MF1)(M:LS):OD:=(f M).bind λx=>(g M).bind λy=>(h M).bind λz=>RG x y z
def RH{o:Expr}(hu:X.A.units+64<cLine){f:MF1}(ho:DE c X o f)(hk:DE c X a g)(hx:DE c X b h)(m:M2 X o "get" apos a b cpos):DE c X (.Call (.Attribute o "get" apos) [a,b] [] cpos) (sn f g h):=
 PE.imp (yA (by lia) ho hk hx m) λE H Q q_=>by
  have(Hf0,H0,Hf,M,d,st,e,k):=q_;unfold sn at e;have(x,I,e):=tZ.mp e;have(y,J,e):=tZ.mp e;have(z,L,e):=tZ.mp e;have(p,N,e):=tZ.mp e;have(n,T,e):=Option.map_eq_some_iff.mp e;show(Hf0,H0,Hf,M,x,st,I,λv a4 H1 j r1=>?_);have(l,vs,Y,rd,z0,r):=HV N r1;subst Y;show(l,rfl,.inl (_,rd.up j.s),Hf0,H0,a4,M,y,st.step j,J,λu aG H2 C r2=>(Hf0,H0,aG,M,z,(st.step j).step C,L,λw q G x3 r3=>?_));have U:=rY T r2;subst U;have i:=C.trans x3;show(cS (p.1.zip vs) n,.inl (_,n,(rd.up j.s).up i.h,rfl,rfl),k _ q G (j.trans i) ?_);have(h1,h2):=vw (k:=n) z0 (r.up i.f);subst e
  cases hv:gS p.1 p.2 n with
  |none=>rw[h2 hv];show r3
  |some d=>
   have(w',hw,B):=h1 d hv;rw[hw];show B
structure Foc(G:Gc)(Hf H:Hp)(o:O)(v:V)(fp:LAd)(o1:O)(v1:V)(f1:LAd)(R:O->O):Prop where
 r:OT G Hf H o1 v1 f1
 n:f1.Nodup
 sub:∀a∈f1,a∈fp
 back:∀(Hf' H':Hp) (o2:O) (f2:LAd),aq Hf Hf'->(∀b u,H b=aa u->b∉f1->H' b=aa u)->OT G Hf' H' o2 v1 f2 ->
  ∃fp',OT G Hf' H' (R o2) v fp'/\(∀a∈fp',a∈f2\/(a∈fp/\a∉f1))/\(f2.Nodup->(∀a∈f2,a∈fp->a∈f1)->fp'.Nodup)
def Foc.refl{o:O}(h:OT G Hf H o v fp)(n:fp.Nodup):Foc G Hf H o v fp o v fp id:=
 (h,n,λ_ h=>h,λ_ _ _ f2 _ _ q=>(f2,q,λ_ h=>.inl h,λn _=>n))
variable{v1:V}{f1 f2:LAd}{R R':O->O}
def Foc.trans{o o1 o2:O}{g:V}(F:Foc G Hf H o v fp o1 v1 f1 R)(F':Foc G Hf H o1 v1 f1 o2 g f2 R'):Foc G Hf H o v fp o2 g f2 (λx=>R (R' x)):=by
 show(F'.r,F'.n,λa h=>F.sub a (F'.sub a h),λHf' H' m i s k h=>?_);have(d,p,m1,j):=F'.back Hf' H' m i s k h;have(fp',q,m2,l):=F.back Hf' H' _ d s (λb u e c=>k b u e λz=>c (F'.sub b z)) p;show(fp',q,λa ha=>?_,λnf f=>l (j nf λa ha c=>f a ha (F.sub a c)) λa ha c=>?_)
 .rcases m2 a ha with z |⟨z,z'⟩
  .rcases m1 a z with y |⟨y,y'⟩
   .show .inl y
   .show .inr (F.sub a y,y')
  .show .inr (z,λy=>z' (F'.sub a y))
 .rcases m1 a ha with y |⟨y,_⟩
  .show F'.sub a (f a y c)
  .show y
variable{b:Addr}
def Ia{o:O}{f:LAd}(h:OT G Hf H o v f)(e:H b=aa u)(t:iM u=ac):b∉f:=λz=>by
 have(d,c,a):=OT.memM o v f h b z
 grind
def OTs.foc:∀{os:List O} {vs:LVv} {fp:LAd} {k:Nat} {o1:O},OTs G Hf H os vs fp->fp.Nodup->os[k]?=aa o1->∃v1 f1,vs[k]?=aa v1/\OT G Hf H o1 v1 f1/\f1.Nodup/\(∀a∈f1,a∈fp) /\
  ∀(Hf' H':Hp) (o2:O) (d:V) (f2:LAd),aq Hf Hf'->(∀b u,H b=aa u->(iM u=ac\/b∈fp)->b∉f1->H' b=aa u)->OT G Hf' H' o2 d f2 ->
  ∃fp',OTs G Hf' H' (os.set k o2) (vs.set k d) fp'/\(∀a∈fp',a∈f2\/(a∈fp/\a∉f1))/\(f2.Nodup->(∀a∈f2,a∈fp->a∈f1)->fp'.Nodup)
 | [],_,_,_,_,_,_,e=>by simp at e
 |o::os,_,_,0,o1,q5_,n,e'=>by
  have(v,r,f1,g,e,i,h2,l):=q5_;cases e';subst e l;have(m,p,dj):=eV.mp n;show(v,f1,rfl,i,m,λa ha=>bX _ ha,λHf' H' o2 d f2 s k h=>(f2++g,?_,λa ha=>?_,λnf j=>(eV.mpr (nf,p,λa ha b c z=>by subst z;show dj a (j a ha (cq _ c)) a c rfl))))
  .simp only[tW,tW];show(d,r,f2,g,rfl,h,OTs.frameM s os r g h2 λb u c hm=>k b u c (hm.imp_right λy=>cq _ y) λz=>?_,rfl)
   rcases hm with t |t
   .show Ia i c t z
   .show dj b z b t rfl
  .rcases bw.mp ha with z |z
   .show .inl z
   .show .inr (cq _ z,λy=>dj a y a z rfl)
 |o::os,_,_,k+1,o1,q5_,n,e'=>by
  have(v,r,f,g,e,i,h2,l):=q5_;subst e l;have(m,p,dj):=eV.mp n;have(v1,f1,x,q,B,sb,bk):=OTs.foc h2 p e';show(v1,f1,by simp only[g8];show x,q,B,λa ha=>cq _ (sb a ha),λHf' H' o2 d f2 s k h=>?_);have(w,C,m',A):=bk Hf' H' o2 d f2 s (λb u c hm=>k b u c (hm.imp_right λy=>cq _ y)) h;show(f++w,?_,λa ha=>?_,λnf j=>?_)
  .simp only[qQ,qQ];show(v,_,f,w,rfl,i.frame s λb u c hm=>k b u c (hm.imp_right λy=>bX _ y) λz=>?_,C,rfl)
   rcases hm with t |t
   .show Ia q c t z
   .show dj b t b (sb b z) rfl
  .rcases bw.mp ha with z |z
   .show .inr (bX _ z,λy=>dj a z a (sb a y) rfl)
   .rcases m' a z with y |⟨y,y'⟩
    .show .inl y
    .show .inr (cq _ y,y')
  .show eV.mpr (m,A nf λa ha c=>j a ha (cq _ c),λa ha b c z=>?_);subst z
   rcases m' a c with y |⟨y,_⟩
   .show dj a ha a (sb a (j a y (bX _ ha))) rfl
   .show dj a ha a y rfl
def nY{b:Type}:∀{l:List b} {k:Nat} {x:b},l[k]?=aa x->l.set k x=l
 | [],_,_,e=>by simp at e
 | _::_,0,_,e=>by simp at e;subst e;rfl
 |a::l,k+1,x,e=>by rw[g8]at e;rw[qQ,nY e]
variable{os:List O}{o1:O}
def Foc.root{o:O}{a:Addr}{fs:LAd}{k:Nat}{W:List O->O}(ha:H a=aa u)(A:iM u=af)(B:OTs G Hf H os vs fs)(n:(a::fs).Nodup)(e:os[k]?=aa o1)
 (mk:∀Hf' H' f c,H' a=aa u->OTs G Hf' H' f vs c->Z f=Z os->OT G Hf' H' (W f) (.ref a) (a::c)):∃v1 f1,vs[k]?=aa v1/\Foc G Hf H o (.ref a) (a::fs) o1 v1 f1 (λx=>W (os.set k x)):=by
 have(g,nf):=b8.mp n;have(v1,f1,j,q,w,sb,bk):=B.foc nf e;show(v1,f1,j,q,w,λb d=>bp _ (sb b d),λHf' H' o2 f2 s m h=>?_);have(c,p,m',v):=bk Hf' H' o2 v1 f2 s (λb u d _=>m b u d) h;rw[nY j]at p;show(a::c,mk Hf' H' _ c (m a u ha λz=>g (sb a z)) p (by simp),λb d=>?_,λi l=>b8.mpr (λz=>?_,v i λb d r=>l b d (bp _ r)))
 .rcases bc.mp d with z |z
  .subst z;show .inr (aA,λy=>g (sb b y))
  .rcases m' b z with y |⟨y,y'⟩
   .show .inl y
   .show .inr (bp _ y,y')
 .rcases m' a z with y |⟨y,_⟩
  .show g (sb a (l a y aA))
  .show g y
def Foc.at{o:O}(h:OT G Hf H (.at l o) v fp)(n:fp.Nodup):Foc G Hf H (.at l o) v fp o v fp (.at l):=
 (h.2,n,λ_ h=>h,λ_ _ _ f2 _ _ q=>(f2,(h.1,q),λ_ h=>.inl h,λn _=>n))
def av.foc{o o1 o2:O}(m:av G Hf0 H0 Hf H E M)(es:M[i]?=aa (.deep o))(q:E[i]?=aa (aa v))(r:OT G Hf' H1 o v fp)(x:Ext Hf H Hf' H1)(F:Foc G Hf' H1 o v fp o1 v1 f1 R)
 (kk:∀b u,H1 b=aa u->b∉f1->H2 b=aa u)(new:OT G Hf' H2 o2 v1 f2)(J:f2.Nodup)(h2:∀a∈f2,a∈f1\/(H a=ab/\Hf' a=ab)):av G Hf0 H0 Hf' H2 E (M.set i (.deep (R o2))):=by
 have(L,g,C,d,n,z):=(m.at' i _ _ q es);cases C;have:=OT.funM o v fp g r (d.up x.f x.h);subst this;have(fp',B,mem,nd):=F.back Hf' H2 o2 f2 (aq.refl _) kk new
 have c:∀a∈fp',a∈fp\/_:=λa ha=>by
  rcases mem a ha with y |⟨y,_⟩
  .rcases h2 a y with w |w
   .show .inl (F.sub a w)
   .show .inr w
  .show .inl y
 show m.chgX x es q (λb u j=>?_) (v,fp',rfl,B,nd J λa ha j=>?_,λa ha=>?_) λa p=>?_
 .by_cases h:b∈f1
  .show .inl (fp,d,F.sub b h)
  .show .inr (kk b u j h)
 .rcases h2 a ha with y |y
  .show y
  .have(u,e,_):=OT.memM o v fp d a j;rw[y.1]at e
   nomatch e
 .rcases c a ha with y |y
  .have(u,e,I):=OT.memM o v fp d a y;show((z a y).1,?_);rw[x.n a u e I];show(z a y).2
  .show(m.ext.h.free y.1,y.2)
 .have(A,l,ha):=p;have:=OT.funM _ _ _ _ B l;subst this
  rcases c a ha with y |y
  .show .inl (fp,d,y)
  .show .inr y.1
def av.was{o:O}(g:av G Hf0 H0 Hf H E M)(es:M[i]?=aa (.deep o))(d:E[i]?=aa (aa v))(x:Ext Hf H Hf' H1)(r:OT G Hf' H1 o v fp):∀a∈fp,H a≠ab:=λa ha=>by
 have(l,b,e,c,n,z):=g.at' i _ _ d es;cases e;have:=OT.funM o v fp b r (c.up x.f x.h);subst this;have(u,j,_):=OT.memM o v fp c a ha
 grind
abbrev zO:D->Option Key
 |.int i=>aa (.inl i)
 |.bl b=>aa (.inl (cond b 1 0))
 |.str x=>aa (.inr x)
 | _=>ab
abbrev sr:LD->Option (List Key)
 | []=>aa []
 |d::ds=>(zO d).bind λk=>(sr ds).map (k::·)
abbrev lc:D->Option (List Key)
 |.tup ds=>sr ds
 | _=>ab
def RI{k:Key}(h:zO d=aa k)(r:Rep G H d v):kR k v:=by
 cases d with
 |int i=>cases h;show .inl r
 |bl b=>cases h;show .inr (b,r,rfl)
 |str x=>cases h;show r
 | _=>nomatch h
def Ib{G:Gc}{H:Hp}:∀{ds:LD} {ks:List Key} {vs:LVv},sr ds=aa ks->am G H ds vs->KRs ks vs
 | [],_,_,h,r=>by cases h;cases (r);show .nil
 |d::ds,ks,_,h,q4_=>by
  have(v,r,e,c,h2):=q4_;subst e;dsimp only[sr]at h
  cases a:zO d with
  |none=>rw[a]at h;cases h
  |some k=>
   simp only[a,ax]at h
   cases b:sr ds with
   |none=>rw[b]at h;cases h
   |some f=>rw[b]at h;cases h;show .cons (RI a c) (Ib b h2)
def ss{k:List Key}(h:lc d=aa k)(r:Rep G H d v):∃b,v=.ref b/\fK H b k:=by
 cases d with
 |tup ds=>have(a,vs,e,q,B):=r;show(a,e,vs,q,Ib h B)
 | _=>nomatch h
abbrev a8{a:Type}[DecidableEq a](f:a):List a->Option Nat
 | []=>ab
 |n::ns=>if n=f then aa 0 else (a8 f ns).map (· + 1)
def zP{a:Type}[DecidableEq a]{f:a}:∀{ns:List a} {k:Nat},a8 f ns=aa k->k<Z ns
 | [],_,e=>by cases e
 |n::ns,k,e=>by
  dsimp only[a8]at e;split at e
  .cases e;show oU _
  .cases h:a8 f ns with
   |none=>rw[h]at e;cases e
   |some j=>rw[h]at e;cases e;show Nat.succ_lt_succ (zP h)
def zQ{a:Type}[DecidableEq a]{b:Type}{f:a}:∀{ns:List a} {k:Nat} (vs:List b),a8 f ns=aa k->(ns.zip vs).lookup f=vs[k]?
 | [],_,_,e=>by cases e
 | _::_,_,[],_=>by rfl
 |n::ns,k,v::vs,e=>by
  dsimp only[a8]at e;simp only[fF,mG];split at e
  .rename_i h;subst h;cases e;rw[beq_self_eq_true];rfl
  .rename_i h;simp only[beq_eq_false_iff_ne.mpr (eX h)]
   cases h':a8 f ns with
   |none=>rw[h']at e;cases e
   |some j=>
    rw[h']at e;cases e;show zQ vs h'
def qf{a:Type}[DecidableEq a]{f:a}:∀{ns:List a} {k:Nat} (vs:LVv),a8 f ns=aa k->cS (ns.zip vs) f=vs[k]?
 | [],_,_,e=>by cases e
 | _::_,_,[],_=>by rfl
 |n::ns,k,v::vs,e=>by
  dsimp only[a8]at e;simp only[fF];split at e
  .rename_i h;cases e;rw[rq h];rfl
  .rename_i h;rw[pA h]
   cases h':a8 f ns with
   |none=>rw[h']at e;cases e
   |some j=>
    rw[h']at e;cases e;show qf vs h'
def sx{a:Type}[DecidableEq a]{f:a}:∀{ns:List a} (vs:LVv),a8 f ns=ab->cS (ns.zip vs) f=ab
 | [],_,_=>rfl
 | _::_,[],_=>by rfl
 |n::ns,v::vs,e=>by
  dsimp only[a8]at e;simp only[fF];split at e
  .cases e
  .rename_i h;rw[pA h]
   cases h':a8 f ns with
   |none=>show sx vs h'
   |some j=>rw[h']at e;cases e
def Foc.up{o o1:O}(F:Foc G Hf H o v fp o1 v1 f1 R)(f:aq Hf Hf')(s:aq H H'):Foc G Hf' H' o v fp o1 v1 f1 R:=
 (F.r.up f s,F.n,F.sub,λaG H2 o2 f2 s2 k h=>F.back aG H2 o2 f2 (f.trans s2) (λb u e a=>k b u (s b u e) a) h)
nonrec def Xp:=LS->Option (O×(O->O))
inductive tDP(G:Gc)(i:Nat)(f:Xp)(E:St)(H:Hp)(Q:VK):Prop
 |mk:∀Hf0 H0 Hf M o1 R,av G Hf0 H0 Hf H E M->f M=aa (o1,R,)->(∀o v fp v1 f1 Hf' H',M[i]?=aa (.deep o)->E[i]?=aa (aa v)->Ext Hf H Hf' H'->OT G Hf' H' o v fp->Foc G Hf' H' o v fp o1 v1 f1 R->Q v1 H')->tDP G i f E H Q
def DP(c:Str->Addr)(X:Cx)(e:Expr)(i:Nat)(f:Xp):Prop:=PE X e (tDP (Gx c X) i f)
def aJ(i:Nat):Xp:=λM=>match M[i]? with
 |some (.deep (.at l o))=>aa (o,.at l,)
 |some (.deep o)=>aa (o,id,)
 | _=>ab
abbrev O.fld(cn f:Str):O->Option (O×(O->O))
 |.ins c ns os=>if c=cn then (a8 f ns).bind λk=>(os[k]?).map λo1=>(o1,λx=>.ins c ns (os.set k x),) else ab
 | _=>ab
def ba(cn f:Str)(p:Xp):Xp:=λM=>(p M).bind λq=>(q.1.fld cn f).map λr=>(r.1,λx=>q.2 (r.2 x),)
abbrev O.key(k:List Key):O->Option (O×(O->O))
 |.dT ks os=>(a8 k ks).bind λj=>(os[j]?).map λo1=>(o1,λx=>.dT ks (os.set j x),)
 | _=>ab
def lg(p:Xp)(g:MF1):Xp:=λM=>(p M).bind λq=>(g M).bind λd=>(lc d).bind λk=>(q.1.key k).map λr=>(r.1,λx=>q.2 (r.2 x),)
abbrev fzs:List O->OLD
 | []=>aa []
 |.fz d::os=>(fzs os).map (d::·)
 | _=>ab
def zR:∀(ds:LD),fzs (ds.map .fz)=aa ds
 | []=>rfl
 |d::ds=>by rw[bO,fzs,zR ds];rfl
def Ic:∀{os:List O} {ds:LD},fzs os=aa ds->os=ds.map .fz
 | [],_,h=>by cases h;rfl
 |o::os,ds,h=>by
  cases o with
  |fz d=>
   simp only[fzs]at h
   cases e:fzs os with
   |none=>rw[e]at h;cases h
   |some a=>rw[e]at h;cases h;rw[bO,<- Ic e]
  | _=>cases h
def OTs.unfz{G:Gc}{Hf H:Hp}:∀{ds:LD} {vs:LVv} {fs:LAd},OTs G Hf H (ds.map .fz) vs fs->am G Hf ds vs/\fs=[]
 | [],_,_,h=>(h.1,h.2)
 |d::ds,_,_,q3_=>by
  have(v,r,f1,f2,e,c,h2,f):=q3_;have(a,b):=OTs.unfz h2;show((v,r,e,c.1,a),?_);rw[f,c.2,b];rfl
def pD(p:Xp)(M:LS):OD:=(p M).bind λq=>match q.1 with
 |.fz d=>aa d
 | _=>ab
def pB(p:Xp)(M:LS):OD:=(p M).bind λq=>if q.1.kn then aa q.1.toD else ab
abbrev O.items:O->OLD
 |.lst os=>fzs os
 | _=>ab
def pC(p:Xp)(M:LS):OLD:=(p M).bind λq=>q.1.items
inductive tDL(G:Gc)(f:MF2)(E:St)(H:Hp)(Q:VK):Prop
 |mk:∀Hf0 H0 Hf M ds,av G Hf0 H0 Hf H E M->f M=aa ds->(∀a vs Hf' H',Ext Hf H Hf' H'->H' a=aa (.lst vs)->am G Hf' ds vs->Q (.ref a) H')->tDL G f E H Q
def DL(c:Str->Addr)(X:Cx)(e:Expr)(f:MF2):Prop:=PE X e (tDL (Gx c X) f)
def bh{c d:Type}{a:Option c}{f:c->Option d}{b:d}(h:a.bind f=aa b):∃x,a=aa x/\f x=aa b:=by
 cases a with
 |none=>nomatch h
 |some x=>show(x,rfl,h)
def dW{c d:Type}{a:Option c}{f:c->d}{b:d}(h:a.map f=aa b):∃x,a=aa x/\f x=b:=by simp_all
def eD(h:PE X e (c8 i)):DP c X e i (aJ i):=PE.imp h λE H Q j=>by
 have(Hf0,H0,Hf,M,o1,R,d,a,g):=j
 have main:∀o,M[i]?=aa (.deep o)->(∀v fp,OT _ Hf H o v fp->fp.Nodup->Foc _ Hf H o v fp o1 v fp R)->c8 i E H Q:=λo es F=>by
  have(v,b,u,fp,f,r,n,z):=d.slot es;subst f;show(u,b,g o u fp u fp Hf H es b (Ext.refl d.sub) r (F u fp r n))
 unfold aJ at a;split at a
 .rename_i l o es;cases a;show main _ es λv fp r n=>Foc.at r n
 .rename_i o _ es;cases a;show main _ es λv fp r n=>Foc.refl r n
 .grind
variable{o2:O}
def RJ{cn f:Str}(h:o1.fld cn f=aa (o2,R,)):∃ns os k,o1=.ins cn ns os/\a8 f ns=aa k/\os[k]?=aa o2/\R=λx=>.ins cn ns (os.set k x):=by
 cases o1 with
 |ins c ns os=>
  replace h:(if c=cn then (a8 f ns).bind λk=>(os[k]?).map λo1=>_ else ab)=aa _:=h;split at h
  .rename_i d;subst d;have(k,a,h):=bh h;have(o,b,h):=dW h;cases h;show(ns,os,k,rfl,a,b,rfl)
  .nomatch h
 | _=>nomatch h
def Foc.fld{o o1 o2:O}{cn f:Str}(F:Foc G Hf H o v fp o1 v1 f1 R)(h:o1.fld cn f=aa (o2,R',)):∃(a dx:Addr) (ns:LSt) (vs:LVv) (b:V) (f2:LAd),v1=.ref a/\H a=aa (.ins (G.cl cn) dx (ns.zip vs))/\(ns.zip vs).lookup f=aa b/\Foc G Hf H o v fp o2 b f2 (λx=>R (R' x)):=by
 have(ns,os,k,rfl,g,i,rfl):=RJ h;have(a,dx,vs,fs,rfl,ha,hz,B,rfl):=F.r;have(b,f2,j,e):=Foc.root (W:=.ins cn ns) ha rfl B F.n i λHf' H' l c d r _=>(a,dx,vs,c,rfl,d,hz,r,rfl);show(a,dx,ns,vs,b,f2,rfl,ha,(zQ vs g).trans j,F.trans e)
variable{p:Xp}
def eQ{o:Expr}(cn:Str)(m:Cls X.K (c cn))(hn:cR X.K (c cn) fl)(n:DP c X o i p)(l:autoParam (oY o fl X.env (eval o X.env)=eval o X.env) Zb):DP c X (.Attribute o fl pos) i (ba cn fl p):=PE.imp (Fv n l) λE H Q w=>by
 have(Hf0,H0,Hf,M,o2,R,y,b,u):=w;have(q,f,b):=bh b;have(r,g,b):=dW b;cases b;show(Hf0,H0,Hf,M,q.1,q.2,y,f,λt v fp v1 f1 Hf' H' es j x rt F=>?_);have(a,dx,ns,vs,d,f2,h,ha,el,e):=F.fld g;show(a,_,dx,_,d,h,ha,m,hn,el,u t v fp d f2 Hf' H' es j x rt e)
def fK.same{k:List Key}(h:fK H b k)(s:aq H H'):fK H' b k:=h.up λb C e=>s _ _ e
def RK{k:List Key}(h:o1.key k=aa (o2,R,)):∃ks os j,o1=.dT ks os/\a8 k ks=aa j/\os[j]?=aa o2/\R=λx=>.dT ks (os.set j x):=by
 cases o1 with
 |dT ks os=>
  have(j,a,h):=bh h;have(o,b,h):=dW h;cases h
  show(ks,os,j,rfl,a,b,rfl)
 | _=>nomatch h
def Foc.key{o o1 o2:O}{k:List Key}(F:Foc G Hf H o v fp o1 v1 f1 R)(h:o1.key k=aa (o2,R',)):∃a kvs b f2,v1=.ref a/\H a=aa (.dT kvs)/\cS kvs k=aa b/\Foc G Hf H o v fp o2 b f2 (λx=>R (R' x)):=by
 have(ks,os,j,rfl,f,g,rfl):=RK h;have(a,vs,fs,rfl,ha,hz,B,rfl):=F.r;have(b,f2,i,e):=Foc.root (W:=.dT ks) ha rfl B F.n g λHf' H' l c d r _=>(a,vs,c,rfl,d,hz,r,rfl);show(a,ks.zip vs,b,f2,rfl,ha,(qf vs f).trans i,F.trans e)
def Ie{o:Expr}(U:X.A.units+1<cLine)(N:DP c X o i p)(L:DE c X e g)(T:autoParam (rA e) Zj):DP c X (.Subscript o e pos) i (lg p g):=PE.imp (yy U N L T) λE H Q q_=>by
 have(Hf0,H0,Hf,M,o2,R,m,j,Y):=q_;have(q,w,j):=bh j;have(d,z,j):=bh j;have(k,B,j):=bh j;have(r,C,j):=dW j;cases j;show(Hf0,H0,Hf,M,q.1,q.2,m,w,λt v fp v1 f1 a4 H1 es J x rt F=>(Hf0,H0,a4,M,d,m.step x,z,λy aG H2 l r2=>?_));have(b,I,tk):=ss B r2;have(a,kvs,n,f2,G,ha,el,u):=(F.up l.f l.h).key C;subst I;show(a,n,G,?_,Y t v fp n f2 aG H2 es J (x.trans l) (rt.up l.f l.h) u);rw[<- el];show fX.t ha (tk.same l.s)
def Ig(h:DP c X e i p):DE c X e (pD p):=PE.imp h λE H Q j=>by
 have(Hf0,H0,Hf,M,d,l,a,g):=j;have(q,f,a):=bh a;show(Hf0,H0,Hf,M,q.1,q.2,l,f,λt v fp v1 f1 a4 H1 es m x rt F=>?_)
 cases b:q.1 with
 |fz d'=>rw[b]at a;cases a;have r:=F.r;rw[b]at r;show g _ _ _ x r.1
 | _=>simp only[b]at a;nomatch a
def zS(h:DP c X e i p):DB c X e (pB p):=PE.imp h λE H Q j=>by
 have(Hf0,H0,Hf,M,d,l,a,g):=j;have(q,b,a):=bh a;split at a
 .rename_i f;cases a;show(Hf0,H0,Hf,M,q.1,q.2,l,b,λt v fp v1 f1 a4 H1 es m x rt F=>g _ _ _ x (F.r.rep x.s f))
 .grind
def sy(h:o1.items=aa ds):o1=.lst (ds.map .fz):=by
 cases o1 with
 |lst os=>rw[Ic h]
 | _=>nomatch h
def zT(h:DP c X e i p):DL c X e (pC p):=PE.imp h λE H Q g=>by
 have(Hf0,H0,Hf,M,ds,j,b,f):=g;have(q,d,b):=bh b;show(Hf0,H0,Hf,M,q.1,q.2,j,d,λt v fp v1 f1 a4 H1 es l x rt F=>?_);have r:=F.r;rw[sy b]at r;have(a,vs,fs,rfl,ha,B,_):=r;show f a vs a4 H1 x ha B.unfz.1
def DL.dc{f:MF2}(h:DL c X e f):DC c X e f:=PE.imp h λE H Q d=>by
 have(Hf0,H0,Hf,M,ds,st,a,k):=d;show(Hf0,H0,Hf,M,ds,st,a,λl vs Hf' H' x b r=>k l vs Hf' H' x (.inl (SqL.of b)) r)
def DL.db{f:MF2}(h:DL c X e f):DB c X e (aR f):=PE.imp h λE H Q i=>by
 have(Hf0,H0,Hf,M,d,st,a,k):=i;have(ds,b,a):=dW a;subst a;show(Hf0,H0,Hf,M,ds,st,b,λl vs Hf' H' x g r=>k _ Hf' H' x (l,vs,rfl,g,r.up x.s))
abbrev O.got(k:List Key):O->OLD
 |.dT ks os=>match a8 k ks with
  |some j=>(os[j]?).bind O.items
  |none=>aa []
 | _=>ab
def iA(p:Xp)(g:MF1)(M:LS):OLD:=(p M).bind λq=>(g M).bind λd=>(lc d).bind λk=>q.1.got k
section
variable{o:Expr}
def zU{w:Pos}(hu:X.A.units+1<cLine)(ho:DP c X o i p)(hk:DE c X e g)(m:M2 X o "get" apos e (.List [] w) pos):DL c X (.Call (.Attribute o "get" apos) [e,.List [] w] [] pos) (iA p g):=PE.imp (yA hu ho hk (ux d9) m) λE H Q q_=>by
 have(Hf0,H0,Hf,M,ds,so,u,Y):=q_;have(q,e1,u):=bh u;have(d,e2,u):=bh u;have(k,e3,u):=bh u;show(Hf0,H0,Hf,M,q.1,q.2,so,e1,λt v fp v1 f1 a4 H1 es ev x rt F=>?_)
 cases U:q.1 with
 |dT ks os=>
  rw[U]at u F;have(a,vs,fs,rfl,ha,hz,B,rfl):=F.r;show(a,rfl,.inr (_,.inl ha),Hf0,H0,a4,M,d,so.step x,e2,λy aG H2 z I=>(cr _,λl hl=>?_));have(b,eb,tk):=ss e3 I;subst eb;have C:Ext aG H2 aG (upd H2 l (.lst [])):=Ext.tmp z.s hl;show(cS _ k,fX.t (C.h _ _ (z.h _ _ ha)) (tk.same (z.s.trans C.h)),?_)
  replace u:(match a8 k ks with |some j=>(os[j]?).bind O.items |none=>aa [])=aa ds:=u
  cases G:a8 k ks with
  |none=>
   rw[G]at u;cases u;rw[sx vs G]
   show Y l [] aG _ ((x.trans z).trans C) be .nil
  |some j=>
   rw[G]at u;have(o2,eo,u):=bh u;have(v2,f2,J,F2):=Foc.root (o:=.dT ks os) (W:=.dT ks) ha rfl B F.n eo λHf' H' os' L N r _=>(a,vs,L,rfl,N,hz,r,rfl);have I:=(F2.up (z.f.trans C.f) (z.h.trans C.h)).r;rw[sy u]at I;have(b2,ws,fs2,rfl,hb,T,_):=I;rw[qf vs G,J]
   show Y b2 ws aG _ ((x.trans z).trans C) hb T.unfz.1
 | _=>rw[U]at u;nomatch u
end
def OTs.stay{fs:LAd}{c:HO}(r:OTs G Hf H os us fs)(d:H l=aa c)(e:iM c=af)(hn:l∉fs)(f:aq Hf Hf')(s:∀b u,b≠l->H b=aa u->H' b=aa u):OTs G Hf' H' os us fs:=
 OTs.frameM f os us fs r λb u a hm=>s b u (λz=>by
  subst z;rw[d]at a;cases a
  rcases hm with t |t
  .grind
  .show hn t) a
def lh(i:Nat)(p:Xp)(f:MF1)(M:LS):Option Fl:=(p M).bind λq=>(f M).bind λd=>(q.1.appd d).map λo2=>.nx (M.set i (.deep (q.2 o2)))
abbrev O.extd(ds:LD):O->Option O
 |.lst os=>if Z os+Z ds<=16777216 then aa (.lst (os++ds.map .fz)) else ab
 | _=>ab
def qg(i:Nat)(p:Xp)(f:MF2)(M:LS):Option Fl:=(p M).bind λq=>(f M).bind λds=>(q.1.extd ds).map λo2=>.nx (M.set i (.deep (q.2 o2)))
abbrev O.pop0:O->Option (D×O)
 |.lst (.fz d::os)=>aa (d,.lst os,)
 | _=>ab
def sA(i:Nat)(p:Xp):Xe:=λM=>(p M).bind λq=>q.1.pop0.map λr=>(r.1,M.set i (.deep (q.2 r.2)),)
def O.setAt(k:D)(d:D)(o:O):Option O:=match k with
 |.int n=>o.items.bind λds=>(ixN ds.length n).map λj=>.lst ((ds.set j d).map .fz)
 | _=>ab
def n4(i:Nat)(p:Xp)(fk fv:MF1)(M:LS):Option Fl:=(fv M).bind λd=>(p M).bind λq=>(fk M).bind λx=>(q.1.setAt x d).map λo2=>.nx (M.set i (.deep (q.2 o2)))
def O.putNew(o x:O)(k:List Key):Option O:=match o with
 |.dT ks os=>if a8 k ks=ab/\Z ks<16777216 then aa (.dT (ks++[k]) (os++[x])) else ab
 | _=>ab
def qh(i:Nat)(p:Xp)(fk fv:MF1)(M:LS):Option Fl:=(fv M).bind λd=>(p M).bind λq=>(fk M).bind λx=>(lc x).bind λk=>(q.1.putNew (.fz d) k).map λo2=>.nx (M.set i (.deep (q.2 o2)))
def RL{f:MF1}(h:PS X st (m7 (tBM X.K "list" uB (tDP (Gx c X) i p) (jp (tD (Gx c X) f) ip)))):DS c X st (lh i p f):=PS.imp h λX4 E H N=>by
 have(Hf0,H0,Hf,M,o,y,j,J):=N;have(q,B,j):=bh j;have(d,C,j):=bh j;have(o2,G,j):=dW j;subst j;show(Hf0,H0,Hf,M,q.1,q.2,y,B,λt v fp v1 f1 a4 H1 es I x rt F=>?_);have(l,us,el,A,hz,L,next):=HP G F.r;subst el;show(.inl (rfl,_,SqL.of A),Hf0,H0,a4,M,d,y.step x,C,λw aG H2 g Q=>?_);show(l,us,w,rfl,rfl,g.h _ _ A,by rw[dJ];show hz,J E aG _ (x.trans g).f ?_)
 show y.foc es I (rt.up g.f g.h) (x.trans g) (F.up g.f g.h) (λb u m hn=>by rw[aN (λz=>hn (by rw[z];show L))];show m)
  (next aG _ w F.n g.f (λb u m e=>by rw[aN m];show g.h b u e) be Q) F.n λa ha=>.inl ha
def RM{f:MF2}(h:PS X st (m7 (tBM X.K "list" yt (tDP (Gx c X) i p) (jp (tDL (Gx c X) f) ip)))):DS c X st (qg i p f):=PS.imp h λX4 E H T=>by
 have(Hf0,H0,Hf,M,o,y,j,Q):=T;have(q,J,j):=bh j;have(ds,L,j):=bh j;have(o2,g,j):=dW j;subst j;show(Hf0,H0,Hf,M,q.1,q.2,y,J,λt v fp v1 f1 a4 H1 es N x rt F=>?_)
 cases C:q.1 with
 |lst os=>
  rw[C]at g F;replace g:(if Z os+Z ds<=16777216 then aa _ else ab)=aa o2:=g;split at g
  .rename_i hz;cases g;have(l,us,fs,rfl,w,B,rfl):=F.r;show(.inl (rfl,_,SqL.of w),Hf0,H0,a4,M,ds,y.step x,L,λb A aG H2 d m I=>?_);show(l,b,us,A,rfl,rfl,(d.h _ _ w),m,by rw[dJ,<- B.length,<- I.length];show hz,Q E aG _ (x.trans d).f ?_);have o1:OTs _ aG (upd H2 l (.lst (us++A))) os us fs:=B.stay w rfl ((b8.mp F.n).1) d.f λb u m e=>by rw[aN m];show d.h b u e
   have G:=o1.append (OTs.fz I);rw[bT]at G
   show y.foc es N (rt.up d.f d.h) (x.trans d) (F.up d.f d.h) (λb u m hn=>by rw[aN (λz=>hn (by rw[z];show aA))];show m)
    (l,us++A,fs,rfl,be,G,rfl) F.n λa ha=>.inl ha
  .nomatch g
 | _=>rw[C]at g;nomatch g
def RN(h:PE X e (tBM X.K "list" FK (tDP (Gx c X) i p) (jp (tC (.int 0)) ip))):DX c X e (sA i p):=PE.imp h λE H Q q_=>by
 have(Hf0,H0,Hf,M,d,ρ',L,m,Y):=q_;have(q,N,m):=bh m;have(r,j,m):=dW m;cases m;show(Hf0,H0,Hf,M,q.1,q.2,L,N,λt v fp v1 f1 a4 H1 es T x rt F=>?_)
 cases J:q.1 with
 |lst os=>
  rw[J]at j F
  cases os with
  |nil=>nomatch j
  |cons o1 os=>
   cases o1 with
   |fz d=>
    cases j;have(l,us,fs,rfl,A,B,rfl):=F.r;have(w,g,g1,I,rfl,G,C,rfl):=B;have(rd,rfl):=G;show(.inl (rfl,_,SqL.of A),l,w::g,0,0,w,rfl,rfl,A,by decide,by decide,?_,rfl,?_)
    .have U:(decide ((0:Int)<=0) && decide (0<(Z (w::g):Int)))=ac:=by simp
     unfold seqIndex?;rw[if_neg (show ¬(0:Int)<0 by decide),if_pos U];rfl
    .have nl:=(b8.mp F.n).1;show Y w a4 _ x.f ?_ rd;have o1:OTs _ a4 (upd H1 l (.lst g)) os g I:=C.stay A rfl nl (aq.refl _) λb u y e=>by rw[aN y];show e
     show L.foc es T rt x F (λb u y hn=>by rw[aN (λz=>hn (by rw[z];show aA))];show y)
      (l,g,I,rfl,be,o1,rfl) F.n λa ha=>.inl ha
   | _=>nomatch j
 | _=>rw[J]at j;nomatch j
def Ih(hp:PS X st (jo (tD (Gx c X) fv) (xX (tDP (Gx c X) i p) (tD (Gx c X) fk) yo))):DS c X st (n4 i p fk fv):=PS.imp hp λX4 E H q_=>by
 have(Hf0,H0,Hf,M,o,C,e,kq):=q_;have(d,L,e):=bh e;have(q,N,e):=bh e;have(k,Q,e):=bh e;have(o2,m,e):=dW e;subst e;show(Hf0,H0,Hf,M,d,C,L,λw a4 H1 G r1=>(Hf0,H0,a4,M,q.1,q.2,C.step G,N,λt v fp v1 f1 aG H2 es Y I rt F=>(Hf0,H0,aG,M,k,(C.step G).step I,Q,λy x J g r3=>?_)))
 cases k with
 |int n=>
  have(ds,T,m):=bh (m);have(j,U,m):=dW m;subst m;have A:=F.up g.f g.h;rw[sy T]at A;have(l,us,fs,rfl,ql,B,e):=A.r;have(rd,rfl):=B.unfz;show(l,us,n,j,rfl,r3,ql,by rw[<- rd.length];show U,kq E x _ ((G.trans I).trans g).f ?_);have nf:OTs _ x (upd J l (.lst (us.set j w))) _ _ []:=OTs.fz (rd.set j (r1.up (I.f.trans g.f)))
  have:=(C.step G).foc es Y (rt.up g.f g.h) (I.trans g) A (λb u hb hn=>by rw[aN (λz=>hn (by rw[e,z];show aA))];show hb)
   (o2:=.lst _) (l,us.set j w,[],rfl,be,nf,rfl) (by rw[<- e];show A.n) λa ha=>.inl (by rw[e];show ha)
  show this
 | _=>nomatch m
def RO{a:Type}[DecidableEq a]{k:a}{ks:List a}(hz:Z ks=Z vs)(h:a8 k ks=ab):dR (ks.zip vs) k v=(ks++[k]).zip (vs++[v]):=by
 unfold dR;rw[uE,sx vs h,if_neg (by simp),zip_append hz];rfl
def Ii{ks:List (List Key)}{x:O}{k:List Key}{g:LAd}{w:V}(r:OT G Hf H (.dT ks os) (.ref l) f1)(n:f1.Nodup)(a:a8 k ks=ab)(f:aq Hf Hf')(s:∀b u,b≠l->H b=aa u->H' b=aa u):
  ∃kvs,H l=aa (.dT kvs)/\Z kvs=Z ks/\cS kvs k=ab/\l∈f1/\(H' l=aa (.dT (dR kvs k w))->OT G Hf' H' x w g->OT G Hf' H' (.dT (ks++[k]) (os++[x])) (.ref l) (f1++g)):=by
 have(h,vs,fs,el,c,hz,B,rfl):=r;cases el;show(ks.zip vs,c,by rw[oR];lia,sx vs a,aA,λd e=>(l,vs++[w],fs++g,rfl,?_,by simp[hz],((B.stay c rfl (b8.mp n).1 f s).append (.one e)),rfl));rw[d,RO hz a]
def RP{x:O}{k:List Key}(h:o1.putNew x k=aa o2):∃ks os,o1=.dT ks os/\a8 k ks=ab/\Z ks<16777216/\o2=.dT (ks++[k]) (os++[x]):=by
 cases o1 with
 |dT ks os=>
  replace h:(if a8 k ks=ab/\Z ks<16777216 then aa _ else ab)=aa o2:=h;split at h
  .rename_i a;cases h;show(ks,os,rfl,a.1,a.2,rfl)
  .nomatch h
 | _=>nomatch h
def RQ(hp:PS X st (yx (tDP (Gx c X) i p) (tD (Gx c X) fk) (tD (Gx c X) fv))):DS c X st (qh i p fk fv):=PS.imp hp λX4 E H q_=>by
 have(Hf0,H0,Hf,M,o,A,g,kq):=q_;have(d,U,g):=bh g;have(q,Y,g):=bh g;have(y,e3,g):=bh g;have(k,e5,g):=bh g;have(o2,e4,g):=dW g;subst g;show(Hf0,H0,Hf,M,d,A,U,λw a4 H1 C r1=>(Hf0,H0,a4,M,q.1,q.2,A.step C,Y,λt v fp v1 f1 aG H2 es ev G rt F=>(Hf0,H0,aG,M,y,(A.step C).step G,e3,λz I T j r3=>?_)));have(ks,os,h1,hk,N,rfl):=RP e4;have m:=F.up j.f j.h;rw[h1]at m;have(b,rfl,tk):=ss e5 r3;have(l,vs,fs,rfl,Q,hz,B,g):=id m.r;have(kvs,x,L,hv,lm,nw):=Ii (H':=upd T l (.dT _)) m.r m.n hk (aq.refl _) λb u J e=>by rw[aN J];show e
 rw[Q]at x;cases x;show(l,_,rfl,lN.t Q (tk.same j.s) (by rw[dJ,L];show N),kq E I _ ((C.trans G).trans j).f ?_)
 show(A.step C).foc es ev (rt.up j.f j.h) (G.trans j) m (λb u J hn=>by rw[aN (λz=>hn (by rw[z];show lm))];show J)
  (nw be (r1.up (G.f.trans j.f),rfl)) (by rw[bT];show m.n) λa ha=>.inl (by rw[bT]at ha;show ha)
section
variable{prog:ci}{w:World}{K:Type}[DecidableEq K]{kn:HeapKind prog w K}{A:ca}{X4:PRS}{s:ah}
def RS{d b:Addr}{C:List (K×Addr×Value)}{k:K}{dv:Value}{Q:PRS}(i:kn.room A)(f:kn.is s.heap k b)(hm:s.heap.DictOfH kn d C)(hz:Z C<=aX)
 (m:∀q,atKey C k=aa q->Q q.2 {s with toks:=s.toks+kn.draws k})
 (h2:atKey C k=ab->∀h',h'.DictOfH kn d (storedH C k b dv)->gj d s.heap h'->Q dv {s with heap:=h',toks:=s.toks+kn.draws k}):
  wpAny (model prog w) A (dictSetDefault d (.ref b) dv) Q X4 s:=by
 have(r,l,ep,go,n,a,el,all,nd):=hm;unfold dictSetDefault
 try with_reducible show jV ?_
 show ak (kn.pyHash i f ?_);show ak (wpAny_dictFind_heap i f go a el all nd (λno=>?_) λj q h=>?_)
 .have p:=not_mem_keys_of_get no;have z:=atKey_none_of_get no
  show ak (lD (ak (wpAny_updateDictKeys (hz:=by have e:=size_of_entries el; lia) go a (aE (h2 z _ (_,_,ep + 1,o8 _ go (Obj.isFreed_of_dict (Obj.data_mapDictKeys a _)),
   n.mapDictKeys _,Obj.data_mapDictKeys a _,?_,?_,?_) (o9 ..))))))
  .rw[storedH_new z];simp[el,entryOfKey]
  .rw[storedH_new z];intro y c
   rcases bw.mp c with c |c
   .show kn.keeps (all y c) go a (o9 ..)
   .rw[bv.mp c];show kn.keeps f go a (o9 ..)
  .rw[storedH_new z,bf,eV];show(nd,b8.mpr (cG,fH),λy c u g e=>?_);rw[bv.mp g]at e;show p ((show y=k from e)▸c)
 .show ak (wpAny_dictEntries go a ?_);rw[entry_at el j,h];show ak (lD (aE (m q (atKey_of_get nd h))))
def RT(kn:HeapKind prog w K)(d b:Addr)(hd:(d==hX)=af)(dv:Value):
  MeetsIn prog w (d8.«dict.setdefault» ([.ref d,.ref b,dv],[])) (λA R s=>kn.room A.in1/\∃ k C,kn.is s.heap k b/\s.heap.DictOfH kn d C/\Z C<=aX /\
   (∀q,atKey C k=aa q->R (.ok (.ret q.2)) {s with toks:=s.toks+kn.draws k}) /\
   (atKey C k=ab->∀h',h'.DictOfH kn d (storedH C k b dv)->gj d s.heap h'->R (.ok (.ret dv)) {s with heap:=h',toks:=s.toks+kn.draws k})):=
 .of_wp λA R s i=>by
  have(h,k,C,f,hm,hz,e,h2):=i;show ak ?_;show ak (wpAny_notOrdered_dict hm.typeIs ?_);show aE ?_;change wpAny _ _ (if _=ac then _ else _) _ _ s;rw[hd,if_neg (λz=>nomatch z)];show ak (RS h f hm hz (λq g=>aE (q.2,rfl,e q g)) λhn h' a c=>aE (dv,rfl,h2 hn h' a c))
end
variable{a:Addr}{z:V}{r:Value}{kvs:List (List Key×V)}
def RU{k:List Key}{Q:PRS}(T:A.units+1<cLine)(I:Inv X U E H s)(e:H a=aa (.dT kvs))(p:fK H b k)(Y:aD z r)
 (J:∀v u h,cS kvs k=aa v->Inv X U E H h->aD v u->Q u h)(h2:cS kvs k=ab->Z kvs<aX/\∀h,Inv X U E (upd H a (.dT (dR kvs k z))) h->Q r h):
  wpAny (model X.prog X.w) A (call (.builtin "dict.setdefault") [.ref a,.ref b,r]) Q X4 s:=by
 have(L,hd,C,d,m):=FQ I.hok e;show call_meetsIn EU m.typeIs PySem.F.entry_dict_setdefault (PySem.F.args_dict_setdefault_3 _ _ _) (RT _ a b hd r) (qX T,k,C,pG I.hok p,m,by rw[<- pc d];show L,λq l=>?_,λhn h' i N=>?_)
 .have f:=d.val k;rw[l]at f
  cases hv:cS kvs k with
  |none=>rw[hv]at f;show f.elim
  |some v=>rw[hv]at f;show J v q.2 _ hv (I.tok _) f
 .have hv:cS kvs k=ab:=by
   have f:=d.val k;rw[hn]at f
   cases hv:cS kvs k with
   |none=>rfl
   |some v=>rw[hv]at f;show f.elim
  have(M,l):=h2 hv;have(q,es,ep,g,x,y,B,_,G):=i;have j:Z (dR kvs k z)<=aX:=by have:=yv kvs k z;lia
  show l _ (yw I (by rw[e];show iK) N (q,g) (j,hd,_,(d.put k p Y).keeps λc ys n=>?_,q,es,ep,g,x,y,B,G));rw[aN (E3 n e (λz=>nomatch z))];show n
def Ij(d ty e:TE):TE:=λE H Q=>d E H λx H1=>∃a,x=.ref a/\IsD H1 a/\ty E H1 λy H2=>e E H2 λz c=>∃kvs k b,c a=aa (.dT kvs)/\y=.ref b/\fK c b k /\
 (∀v,cS kvs k=aa v->Q v c)/\(cS kvs k=ab->Z kvs<aX/\Q z (upd c a (.dT (dR kvs k z))))
variable{f:Expr}{td ty tx:TE}
def RV{o:Expr}(L:X.A.units+1<cLine)(J:PE X o td)(C:PE X e ty)(G:PE X f tx)(m:M2 X o "setdefault" apos e f cpos):PE X (.Call (.Attribute o "setdefault" apos) [e,f] [] cpos) (Ij td ty tx):=by
 intro U s E H Q I h;show wpAny_Call_method m.base m.few m.line PySem.F.plainAttrs_dict EU PySem.F.type_dict_setdefault (thn (J U s E H _ I h) λu s1 Y=>?_);have(x,H1,j,rx,a,ex,d,M):=Y;subst ex;obtain rfl:u=e7 a:=rx;have(t1,t2,_):=FT j d;show(t1,t2,?_);rw[m.trees];show xD rfl (xE (jh (thn (C U s1 E H1 _ j M) λiv s2 g=>?_)));have(y,H2,q,ry,N):=g;show jh (thn (G U s2 E H2 _ q N) λfv s3 i=>xF ?_);have(z,p,r,n,kvs,k,b,w,B,tk,T,l):=i;subst B;cases (ry);show RU L r w tk n (λv u s4 hv c ru=>(v,p,c,ru,T v hv)) λhn=>((l hn).1,λs4 c=>(z,_,c,n,(l hn).2))
def O.apdK(o:O)(k:List Key)(d:D):Option O:=match o with
 |.dT ks os=>match a8 k ks with
  |some j=>(os[j]?).bind λo1=>(o1.appd d).map λo2=>.dT ks (os.set j o2)
  |none=>if Z ks<16777216 then aa (.dT (ks++[k]) (os++[.lst [.fz d]])) else ab
 | _=>ab
def qi(i j:Nat)(p:Xp)(g:MF1)(M:LS):Option Fl:=(p M).bind λq=>(g M).bind λy=>(lc y).bind λk=>(ae j M).bind λd=>(q.1.apdK k d).map λo2=>.nx (M.set i (.deep (q.2 o2)))
def RW{jv:Nat}(h:PS X st (m7 (tBM X.K "list" uB (Ij (tDP (Gx c X) i p) (tD (Gx c X) g) (yi ip)) (jp (c8 jv) ip)))):DS c X st (qi i jv p g):=PS.imp h λX4 E H q_=>by
 have(Hf0,H0,Hf,M,o,Q,C,kq):=q_;have(q,e1,C):=bh C;have(y,e2,C):=bh C;have(k,e3,C):=bh C;have(d,e4,C):=bh C;have(o2,m,C):=dW C;subst C;have(w,ew,rw0):=Q.imm (F8 e4);show(Hf0,H0,Hf,M,q.1,q.2,Q,e1,λt v fp v1 f1 a4 H1 es ev x rt F=>?_)
 cases h1:q.1 with
 |dT ks os=>
  rw[h1]at m F;have(a,vs,fs,rfl,ha,hz,B,rfl):=id F.r;show(a,rfl,.inr (_,.inl ha),Hf0,H0,a4,M,y,Q.step x,e2,λu aG H2 G r2=>(cr _,λl N=>?_));have(b,eb,tk):=ss e3 r2;subst eb;have x3:Ext aG H2 aG (upd H2 l (.lst [])):=Ext.tmp G.s N;have A:=G.trans x3;have xa:=x.trans A;show(ks.zip vs,k,b,(A.h _ _ ha),rfl,tk.same (G.s.trans x3.h),λv2 I=>?_,λhn=>?_)
  .cases J:a8 k ks with
   |none=>rw[sx vs J]at I;nomatch I
   |some j=>
    replace m:(match a8 k ks with |some j=>(os[j]?).bind λo1=>(o1.appd d).map λo2=>O.dT ks _ |none=>if Z ks<16777216 then aa _ else ab)=aa o2:=m
    simp only[J]at m;have(ok,eo,m):=bh m;have(on,ea,m):=dW m;subst m;have(v3,f3,ev3,F4):=Foc.root (W:=.dT ks) ha rfl B F.n eo λHf' H' os' fs' ha' r _=>(a,vs,fs',rfl,ha',hz,r,rfl);rw[qf vs J,ev3]at I;cases I;have F5:=(F.trans F4).up A.f A.h;have(l2,us,el,ql,hz2,lm,next):=HP ea F5.r;subst el;show(.inl (rfl,_,SqL.of ql),w,ew,l2,us,w,rfl,rfl,ql,by rw[dJ];show hz2,kq E aG _ xa.f ?_)
    have:=Q.foc es ev (rt.up A.f A.h) xa F5 (λb u L hn=>by rw[aN (λz=>hn (by rw[z];show lm))];show L)
     (next aG _ w F5.n (aq.refl _) (λb u L e=>by rw[aN L];show e) be (rw0.up xa.f)) F5.n λa ha=>.inl ha
    show this
  .cases J:a8 k ks with
   |some j=>
    rw[qf vs J]at hn;have:=zP J;rw[List.getElem?_eq_none_iff]at hn
    lia
   |none=>
    replace m:(match a8 k ks with |some j=>(os[j]?).bind λo1=>(o1.appd d).map λo2=>O.dT ks _ |none=>if Z ks<16777216 then aa _ else ab)=aa o2:=m
    rw[J]at m;replace m:(if Z ks<16777216 then aa _ else ab)=aa o2:=m;split at m
    .rename_i hlt;cases m;have nal:=fL (G.h _ _ ha) N
     have lf:∀g,g∈fp->g≠l:=λg U z=>by
      have:=Q.was es ev x rt g U;subst z;show this ((x.h.trans G.h).free N)
     have Y:upd (upd H2 l (.lst [])) a (.dT (dR (ks.zip vs) k (.ref l))) l=aa (.lst []):=by rw[aN nal.symm,be]
     show(by rw[dJ,oR];lia,.inl (rfl,_,SqL.of Y),w,ew,l,[],w,rfl,rfl,Y,by rw[dJ];show oU _,kq E aG _ xa.f ?_);have xb:=x.trans G;have T:=F.up G.f G.h
     have keep:∀b u,b≠a->H2 b=aa u->upd (upd (upd H2 l (.lst [])) a (.dT (dR (ks.zip vs) k (.ref l)))) l (.lst ([]++[w])) b=aa u:=λb u L e=>by
      have nb:=fL e N;rw[aN nb,aN L,aN nb];show e
     have(kvs,ql',hkv,hv,lm,nw):=Ii T.r T.n J (aq.refl _) keep;rw[G.h _ _ ha]at ql';cases ql';show Q.foc es ev (rt.up G.f G.h) xb T (λb u L hn=>keep b u (λz=>hn (by rw[z];show lm)) L) (nw (by rw[aN nal,be]) (l,[w],[],rfl,be,OTs.one (rw0.up xb.f,rfl),rfl)) (eV.mpr (T.n,b8.mpr (cG,fH),λg U g' hg' z=>by rw[bv.mp hg']at z;show lf g (T.sub g U) z)) λg U=>?_
     rcases bw.mp U with y |y
     .show .inl y
     .rw[bv.mp y];show .inr (xb.h.free N,xb.s.free N)
    .nomatch m
 | _=>rw[h1]at m;nomatch m
def zV{f:Str}{v:V}:∀{ns:LSt} {vs:LVv} {k:Nat},Z ns=Z vs->a8 f ns=aa k->dA f v (ns.zip vs)=ns.zip (vs.set k v)
 | [],_,_,_,h=>by cases h
 | _::_,[],_,hl,_=>by cases hl
 |n::ns,u::vs,k,hl,h=>by
  dsimp only[a8]at h;rw[fF];dsimp only[dA];split at h
  .rename_i e;cases h;simp only[if_pos e,tW,fF]
  .rename_i e;rw[if_neg e]
   cases h':a8 f ns with
   |none=>rw[h']at h;cases h
   |some j=>
    rw[h']at h;cases h;simp only[qQ,fF,zV (by simpa using hl) h']
def Ik{f:Str}{v:V}:∀{ns:LSt} {vs:LVv},Z ns=Z vs->a8 f ns=ab->dA f v (ns.zip vs)=(ns++[f]).zip (vs++[v])
 | [],[],_,_=>rfl
 | [],_::_,hl,_=>by cases hl
 | _::_,[],hl,_=>by cases hl
 |n::ns,u::vs,hl,h=>by
  dsimp only[a8]at h;rw[fF];dsimp only[dA];split at h
  .cases h
  .rename_i e;rw[if_neg e]
   cases h':a8 f ns with
   |none=>simp only[ly,ly,fF,Ik (by simpa using hl) h']
   |some j=>rw[h']at h;nomatch h
def O.setF(o:O)(cn f:Str)(x:O):Option O:=match o with
 | .ins c ns os=>if c=cn/\Z ns < 1000 then (match a8 f ns with
  |some k=>aa (.ins c ns (os.set k x))
  |none=>aa (.ins c (ns++[f]) (os++[x]))) else ab
 | _=>ab
def eR(i:Nat)(cn f:Str)(p:Xp)(g:LS->Option O)(M:LS):Option Fl:=(g M).bind λx=>(p M).bind λq=>(q.1.setF cn f x).map λo2=>.nx (M.set i (.deep (q.2 o2)))
def OTs.len{G:Gc}{Hf H:Hp}:∀{os:List O} {vs:LVv} {fs:LAd},OTs G Hf H os vs fs->Z os=Z vs
 | [],_,_,h=>by rw[h.1];rfl
 |o::os,_,_,(v,r,f1,f2,e,_,h2,_)=>by subst e;simp[OTs.len h2]
def Il{g:LS->Option O}(cn:Str)(hc:Cls X.K (c cn))(hn:cR X.K (c cn) fl)(hp:PS X st (Ft X.K (tDP (Gx c X) i p) (tDZ (Gx c X) ac g) fl)):DS c X st (eR i cn fl p g):=PS.imp hp λX4 E H q_=>by
 have(Hf0,H0,Hf,M,o,L,A,kq):=q_;have(x,e1,A):=bh A;have(q,e2,A):=bh A;have(o2,j,A):=dW A;subst A;show(Hf0,H0,Hf,M,x,L,e1,λu gp a4 H1 x1 rx l=>(Hf0,H0,a4,M,q.1,q.2,L.step x1,e2,λt v fp v1 f1 aG H2 es T Q rt F=>?_));have m:=x1.trans Q
 have hg:∀b∈gp,H b=ab/\aG b=ab:=λb d=>by
  show((l.2 b d).1,?_);have(w,hw,ht):=OT.memM x u gp rx b d;rw[Q.n b w hw ht];show(l.2 b d).2
 have ng:=λb d hf=>(L.was es T m rt) b hf (hg b d).1
 cases h1:q.1 with
 |ins c' ns os=>
  rw[h1]at j F;replace j:(if c'=cn/\Z ns<1000 then _ else ab)=aa o2:=j;split at j
  .rename_i hcc;have(rfl,hlt):=hcc;have(a,dx,vs,fs,rfl,ha,hz,B,rfl):=id F.r;have(N,I):=b8.mp F.n;have C:=λz=>ng a z (F.sub a aA);show(a,_,dx,ns.zip vs,rfl,ha,hc,hn,by rw[oR];lia,kq E aG _ m.f ?_);have keep:∀b w,b≠a->H2 b=aa w->upd H2 a (.ins (c c') dx (dA fl u (ns.zip vs))) b=aa w:=λb w d e=>by rw[aN d];show e
   have J:=(rx.up Q.f Q.h).frame (aq.refl _) λb w d hm=>keep b w (λz=>by
    subst z;rw[ha]at d;cases d
    rcases hm with hm |hm
    .nomatch hm
    .show C hm) d
   have kk:∀b w,H2 b=aa w->b∉a::fs->upd H2 a _ b=aa w:=λb w d hn=>keep b w (λz=>hn (by rw[z];show aA)) d
   cases G:a8 fl ns with
   |some k=>
    rw[G]at j;cases j;have hkl:k<Z os:=by rw[B.len,<- hz];show zP G
    have(vk,fk,evk,_,_,sb,bk):=B.foc I (b7 hkl)
    have (U,r',m',n'):=bk aG _ x u gp (aq.refl _) (λb w d hm _=>keep b w (λz=>by
     subst z;rw[ha]at d;cases d
     rcases hm with hm |hm
     .nomatch hm
     .show N hm) d) J
    show L.foc es T rt m F kk (a,dx,vs.set k u,U,rfl,by rw[be,zV hz G],by simp[hz],r',rfl) (b8.mpr (λz=>?_,n' l.1 λb d hf=>absurd (F.sub b (bp _ hf)) (ng b d))) λb d=>?_
    .rcases m' a z with y |⟨y,_⟩
     .show C y
     .show N y
    .rcases bc.mp d with z |z
     .rw[z];show .inl aA
     .rcases m' b z with y |⟨y,_⟩
      .show .inr (hg b y)
      .show .inl (bp _ y)
   |none=>
    rw[G]at j;cases j;show L.foc es T rt m F kk (a,dx,vs++[u],fs++gp,rfl,by rw[be,Ik hz G],by simp[hz],((B.stay ha rfl N (aq.refl _) keep).append (.one J)),rfl) (b8.mpr (λz=>?_,eV.mpr (I,l.1,λb d b' Y z=>by subst z;show ng b Y (F.sub b (bp _ d))))) λb d=>?_
    .rcases bw.mp z with y |y
     .show N y
     .show C y
    .rcases bc.mp d with z |z
     .rw[z];show .inl aA
     .rcases bw.mp z with y |y
      .show .inl (bp _ y)
      .show .inr (hg b y)
  .nomatch j
 | _=>rw[h1]at j;nomatch j
nonrec def MTf:=Addr->LD->O->Option (O×D)
def iB(G:Gc)(n:Nat)(m:MTf):Sp:=λvs H Q _=>∃Hf ds o o' d l fp b,vs=.ref l::b/\aq Hf H/\OT G Hf H o (.ref l) fp/\fp.Nodup/\(∀a∈fp,Hf a=ab)/\am G Hf ds b/\1+Z ds=n/\m l ds o=aa (o',d,) /\
 ∀v Hf' H' fp',Ext Hf (gR H fp) Hf' H'->OT G Hf' H' o' (.ref l) fp'->fp'.Nodup->(∀a∈fp',gR H fp a=ab/\Hf' a=ab)->Rep G Hf' d v->Q v H'
def vB(N:Nat)(l:Addr)(ds:LD)(o:O):LS:=(eN N (.non::ds)).set 0 (.deep (.at l o))
open Classical in
def n6(l:Addr)(M:LS):Option O:=match (M[0]?:Option Sl)with
 |some (Sl.deep (.at l' o))=>if l'=l then aa o else ab
 | _=>ab
def RX{o:O}(h:n6 l M=aa o):M[0]?=aa (.deep (.at l o)):=by
 unfold n6 at h
 grind
def Im{o:O}(h:M[0]?=aa (.deep (.at l o))):n6 l M=aa o:=by
 unfold n6;rw[h];show if_pos rfl
def eE(N:Nat)(F:MF3):MTf:=λl ds o=>(F (vB N l ds o)).bind λr=>match r with
 |.nx M=>(n6 l M).map λo'=>(o',.non,)
 |.rtS d M=>(n6 l M).map λo'=>(o',d,)
 | _=>ab
def av.startMT{o:O}{b:LVv}(f:aq Hf H)(e:OT G Hf H o (.ref l) fp)(n:fp.Nodup)(c:∀a∈fp,Hf a=ab)(r:am G Hf ds b):
  av G Hf (gR H fp) Hf H (L2.start N (.ref l::b)) (vB N.length l ds o):=by
 show(av.start (HS f c) (.cons (d:=.non) rfl r)).setNew (i:=0) (Ext.grow (HS f c) Rp) (.ref l,fp,rfl,(rfl,e),n,λa ha=>(zJ ha,c a ha)) λa p=>by
  have(fp',g,ha):=p;have:=OT.funM o _ fp fp' e g.2;subst this;show zJ ha
variable{f:Addr}
def gC{k:Nat}{F:MF3}(C:Fun K x qual st f fd)(S:aB N ps (au st))
 (h:∀(cdv:Value) (A:ca) (outer:List Env) (s:ah) (H:Hp) (X4:XK),bD k (A.deeper (gg qual (au st) s.heap.objs.size f cdv))->DSs c (iL CX0 P w K mg base N qual (au st) f cdv A outer s H X4).nox (fW st) F)(i:autoParam (Z N=n_) Zb):
  cD P w K mg base CX0 (k+1) f fd ps (iB (K,c) ps.length (eE n_ F)):=by
 subst i;show C.ok S (λvs H Q X4 j=>by have(Hf,ds,o,o',d,l,fp,p,g,B,y,n,q,r,hn,_):=j;rw[g,cB,<- r.length];lia) λcdv A outer s H vs Q X4 hr j=>?_;have(Hf,ds,o,o',d,l,fp,p,g,B,y,n,q,r,hn,e,G):=j;show(_,h cdv A outer s H X4 hr,?_);subst g;unfold eE at e
 cases b:F _ with
 |none=>rw[b]at e;nomatch e
 |some z=>
  rw[b,ax]at e;show(Hf,gR H fp,Hf,_,z,av.startMT B y n q r,b,?_)
  have fin:∀M d',(n6 l M).map (λo'=>(o',d',))=aa (o',d,)->∀v σ' Hf' H',av (K,c) Hf _ Hf' H' σ' M->Rep (K,c) Hf' d' v->Q v H':=λM d' e v σ' Hf' H' a m=>by
   have(t,E,e):=dW e;cases e;have(u,L,U,fp',T,rt,I,J):=a.slot (RX E);cases rt.1;show G v Hf' H' fp' a.ext rt.2 I J m
  cases z with
  |nx M=>show λσ' Hf' H' _ a=>fin M .non e .non σ' Hf' H' a rfl
  |rtS d' M=>show λv σ' Hf' H' a m=>fin M d' e v σ' Hf' H' a m
  | _=>nomatch e
def av.treeBack{o o':O}{fp':LAd}(n:av G Hf0 H0 Hf H E M)(es:M[i]?=aa (.deep o))(e:E[i]?=aa (aa v))(r:OT G Hf H o v fp)(x:Ext Hf (gR H fp) Hf' H')(f:OT G Hf' H' o' v fp')(l:fp'.Nodup)(d:∀a∈fp',gR H fp a=ab/\Hf' a=ab):av G Hf0 H0 Hf' H' E (M.set i (.deep o')):=by
 have s1 : av G Hf0 H0 Hf (gR H fp) E (M.set i .no):=n.chg es e (λb y j=>by
  by_cases c:b∈fp
  .show .inl (fp,r,c)
  .show .inr (by rw[vv c];show j)) trivial λa p=>(p.calm rfl).elim
 have s2:=s1.setNew (i:=i) (s:=.deep o') x (v,fp',rfl,f,l,λa ha=>(s1.ext.h.free (d a ha).1,(d a ha).2)) λa p=>by
  have(g,m,ha):=p;have:=OT.funM o' v fp' g f m;subst this;show(d a ha).1
 rw[nY e,set_set]at s2;show s2
abbrev O.isIns(cn fl:Str):O->Bool
 |.ins c ns _=>decide (c=cn) && !ns.contains fl
 | _=>af
def zW{cn fl:Str}{o:O}(h:o.isIns cn fl=ac):∃ns os,o=.ins cn ns os/\ns.contains fl=af:=by
 cases o with
 |ins c ns os=>
  replace h:(decide _ && !ns.contains fl)=ac:=h
  simp_all
 | _=>nomatch h
def cM(i:Nat)(cn fl:Str)(m:MTf)(f:Xa):Xe:=λM=>match M[i]? with
 |some (.deep (.at _ o0))=>if o0.isIns cn fl then (f M).bind λp=>match p.2[i]? with
  |some (.deep (.at l o))=>(m l p.1 o).map λq=>(q.2,p.2.set i (.deep (.at l q.1)),)
  | _=>ab else ab
 | _=>ab
open Classical in
def kc(i:Nat)(cn fl:Str)(m:MTf)(f:Xa):Xe:=λM=>match M[i]? with
 |some (.deep o0)=>if o0.isIns cn fl then (f M).bind λp=>match p.2[i]? with
  |some (.deep (.ins c' ns os))=>if h:∃q,∀l,m l p.1 (.ins c' ns os)=aa q then aa (h.choose.2,p.2.set i (.deep h.choose.1),) else ab
  | _=>ab else ab
 | _=>ab
variable{fa:Xa}{m:MTf}{Q:VK}{t:TA}
def Io(cn:Str)(ht:∀E H Q,sm (Gx c X) fa E H Q->t E H Q)(hn:∀M ds ρ',fa M=aa (ds,ρ',)->1+Z ds=Z ps)(q_:tDX (Gx c X) (cM i cn fl m fa) E H Q):uz (c cn) fl (iB (Gx c X) ps.length m) [] E0 (c8 i) t E H Q:=by
 have(Hf0,H0,Hf,M,d,ρ',st,b,kq):=q_;unfold cM at b;split at b
 .rename_i I o0 p;split at b
  .rename_i hi;have(ns,os,rfl,y):=zW hi;have(pp,C,b):=bh b;have(ds,ρ1):=pp;split at b
   .rename_i l o1 e;have(q,N,b):=dW b;cases b;have(u,x,u',fp,T,rt,n,z):=st.slot p;subst T;have(el,a,dx,vs,fs,Y,ha,hz,B,efp):=rt;subst el;cases Y;show(_,x,I,dx,ns.zip vs,rfl,ha,pR y,ht _ _ _ (Hf0,H0,Hf,M,ds,ρ1,st,C,λus Hf' H' f1 st1 r=>?_));rw[bT];have(w,G,w',gp,U,A,n1,z1):=st1.slot e;subst U;rw[x]at G;cases G;have(j,g):=A;cases j;show(Hf',ds,o1,q.1,q.2,I,gp,us,rfl,st1.sub,g,n1,λa ha=>(z1 a ha).2,r,hn _ _ _ C,N,λv h L fp3 J r3 n3 z3 rv=>kq v h L (f1.trans J.f) (st1.treeBack e x (rfl,g) J (rfl,r3) n3 z3) rv)
   .grind
  .grind
 .grind
def RY(cn:Str)(ht:∀E H Q,sm (Gx c X) fa E H Q->t E H Q)(hn:∀M ds ρ',fa M=aa (ds,ρ',)->1+Z ds=Z ps)(q_:tDX (Gx c X) (kc i cn fl m fa) E H Q):uz (c cn) fl (iB (Gx c X) ps.length m) [] E0 (c8 i) t E H Q:=by
 have(Hf0,H0,Hf,M,d,ρ',st,b,kq):=q_;unfold kc at b;split at b
 .rename_i o0 j;split at b
  .rename_i hi;have(ns,os,rfl,p):=zW hi;have(pp,A,b):=bh b;have(ds,ρ1):=pp;split at b
   .rename_i N x y e;split at b
    .rename_i I;have C:=I.choose_spec;generalize I.choose=q at b C;cases b;have(u,l,u',fp,T,rt,n,z):=st.slot j;subst T;have(a,dx,vs,fs,Y,ha,hz,B,efp):=rt;subst Y;show(_,l,a,dx,ns.zip vs,rfl,ha,pR p,ht _ _ _ (Hf0,H0,Hf,M,ds,ρ1,st,A,λus Hf' H' f1 st1 r=>?_));rw[bT];have(w,G,w',gp,U,g,n1,z1):=st1.slot e;subst U;rw[l]at G;cases G;show(Hf',ds,.ins N x y,q.1,q.2,a,gp,us,rfl,st1.sub,g,n1,λa ha=>(z1 a ha).2,r,hn _ _ _ A,C a,λv h L fp3 J r3 n3 z3 rv=>kq v h L (f1.trans J.f) (st1.treeBack e l g J r3 n3 z3) rv)
    .nomatch b
   .nomatch b
  .nomatch b
 .nomatch b
def Ip{k:Nat}{o:Expr}(cn:Str)(l:PE X o (c8 i))(pk:Pm X.prog X.w X.K X.mg X.base CX0 k (c cn) fl (f,fd,) ps (iB (Gx c X) ps.length m))(g:bD k0 X.A)(ha:DAX c X (e::es) fa)(q:autoParam (Z (e::es)+1=Z ps) Zb)(j:autoParam (StE X e es) Zb)(d:autoParam (BkE X pos es) Zb)(n:autoParam (eval (.Call (.Attribute o fl apos) (e::es) [] pos) X.env=(do
   let ov <- eval o X.env
   gJ apos.atName
   let (f,first,) <- eZ [ov] (hZ ov fl pl)
   jX pos f first (cj pos (aQ (e::es) X.env)) (iH pos (iG [] X.env)))) Zb)(a:autoParam (k<=k0) Zc):
  DX c X (.Call (.Attribute o fl apos) (e::es) [] pos) (cM i cn fl m fa):=PE.imp (ym l pk.c pk.m pk.ok (g.mono a) pk.b .nil gq ha.pa j d n) λE H Q p=>Io cn (λ_ _ _ h=>h) (λM ds ρ' h=>by have:=ha.len M ds ρ' h;lia) p
def RZ{k:Nat}{o:Expr}(cn:Str)(l:PE X o (c8 i))(pk:Pm X.prog X.w X.K X.mg X.base CX0 k (c cn) fl (f,fd,) ps (iB (Gx c X) ps.length m))(d:bD k0 X.A)(j:autoParam (1=Z ps) Zb)(n:autoParam (eval (.Call (.Attribute o fl apos) [] [] pos) X.env=(do
   let ov <- eval o X.env
   gJ apos.atName
   let (f,first,) <- eZ [ov] (hZ ov fl pl)
   jX pos f first (cj pos (aQ [] X.env)) (iH pos (iG [] X.env)))) Zb)(a:autoParam (k<=k0) Zc):
  DX c X (.Call (.Attribute o fl apos) [] [] pos) (cM i cn fl m cF):=PE.imp (yn l pk.c pk.m pk.ok (d.mono a) pk.b .nil gq n) λE H Q e=>Io cn (λE H Q e=>by have(Hf0,H0,Hf,M,ds,ρ',st,g,k):=e;cases g;show k [] Hf H (aq.refl _) st rfl) (λM ds ρ' h=>by cases h;show j) e
def Iq{k:Nat}{o:Expr}(cn:Str)(l:PE X o (c8 i))(pk:Pm X.prog X.w X.K X.mg X.base CX0 k (c cn) fl (f,fd,) ps (iB (Gx c X) ps.length m))(d:bD k0 X.A)(j:autoParam (1=Z ps) Zb)(n:autoParam (eval (.Call (.Attribute o fl apos) [] [] pos) X.env=(do
   let ov <- eval o X.env
   gJ apos.atName
   let (f,first,) <- eZ [ov] (hZ ov fl pl)
   jX pos f first (cj pos (aQ [] X.env)) (iH pos (iG [] X.env)))) Zb)(a:autoParam (k<=k0) Zc):
  DX c X (.Call (.Attribute o fl apos) [] [] pos) (kc i cn fl m cF):=PE.imp (yn l pk.c pk.m pk.ok (d.mono a) pk.b .nil gq n) λE H Q e=>RY cn (λE H Q e=>by have(Hf0,H0,Hf,M,ds,ρ',st,g,k):=e;cases g;show k [] Hf H (aq.refl _) st rfl) (λM ds ρ' h=>by cases h;show j) e
open Classical in
def n8(cn:Str)(m:MTf)(fa:MF2)(M:LS):Option O:=(fa M).bind λds=>if h:∃o,∀l,m l ds (.ins cn [] [])=aa (o,.non,) then aa h.choose else ab
variable{bb:Bool}{fa:MF2}
def R0{cn:Str}(hC:X5=G.cl cn)(I:∀E H Q,tDA G fa E H Q->t E H Q)(hn:∀M ds,fa M=aa ds->1+Z ds=Z ps)(T:tDZ G bb (n8 cn m fa) E H Q):Fw X5 (iB G ps.length m) [] E0 t E H Q:=by
 have(Hf0,H0,Hf,M,o,st,c,L):=T;have(ds,x,c):=bh c;split at c
 .rename_i B;have A:=B.choose_spec;generalize B.choose=o' at c A;cases c;show I _ _ _ (Hf0,H0,Hf,M,ds,st,x,λvs a4 H1 d r y dx p i j=>?_);rw[bT];subst hC;have J:(upd H1 dx (.own y)) y=ab:=by rw[aN j.symm];show p
  have s1:aq H1 (upd H1 dx (.own y)):=bU i;have s2:=s1.trans (bU (o:=.ins (G.cl cn) dx []) J)
  have w:aq H1 (gR _ [y]):=λb u q=>by
   rw[vv (λz=>fL q p (bv.mp z))];show s2 b u q
  show(a4,ds,.ins cn [] [],o,.non,y,[y],vs,rfl,d.s.trans s2,(y,dx,[],[],rfl,be,rfl,(rfl,rfl),rfl),b8.mpr (cG,fH),λa ha=>by rw[bv.mp ha];show d.s.free p,r,hn M ds x,A y,λv aG H2 g e U N C Y=>(Y,?_));have x3:Ext a4 H1 aG H2:=(e.f,w.trans e.h,e.s,λl u q t=>e.n l u (w l u q) t);show L _ g aG H2 (d.trans x3) U (N,λa ha=>(zH st.ext.h (d.h.free (w.free (C a ha).1)),(C a ha).2))
 .nomatch c
variable{p:Pos}
def R1{k:Nat}(cn:Str)(d:Mk X.K (c cn) f)(F:cD X.prog X.w X.K X.mg X.base CX0 k f fd ps (iB (Gx c X) ps.length m))(hr:bD (k+1) X.A)(j:Gl X x)(hm:X.mg x=aa (.ref (c cn)))(g:dZ X.K fd ps [])(ha:DA c X (e::es) fa)
 (n:autoParam (Z (e::es)+1=Z ps) Zb)(a:autoParam (NDb x) Zc)(i:autoParam (StE X e es) Zb)(b:autoParam (BkE X pos es) Zb):
  DZ c X bb (.Call (.Name x p) (e::es) [] pos) (n8 cn m fa):=PE.imp (Fx d F hr j hm g .nil gq ha.pa a i b) λE H Q l=>R0 rfl (λ_ _ _ h=>h) (λM ds h=>by have:=ha.len M ds h;lia) l
def hu1{u:Nat}(h:u+64<cLine):u+1<cLine:=mJ (Nat.add_le_add_left (by decide) u) h
def Ir{f:MF2}(h:DL c X e f):DIe c X tg e f:=PI.imp (x8 h) λE H R d=>by
 have(Hf0,H0,Hf,M,ds,st,b,k):=d;show(Hf0,H0,Hf,M,ds,st,b,λl vs Hf' H' x a r=>(l,rfl,(vs,SqL.of a),k _ Hf' H' x (GF (SqL.of a) r)))
def vC(f:MF2)(M:LS):OLD:=(f M).map (iU 0)
variable{a:Expr}
def R3{f:MF2}(L:Gl X "enumerate")(hm:X.mg "enumerate"=ab)(ha:DL c X a f)(w:autoParam (aQ [a] X.env=[(af,eval a X.env,)]) Zb):
  DIe c X (.Tuple elts kx gv) (.Call (.Name "enumerate" p) [a] [] pos) (vC f):=PI.imp (GZ L hm (e9 ha d9 w) w) λE H R N=>by
 have(Hf0,H0,Hf,M,ds,st,g,k):=N;have(C,A,g):=dW g;subst g;show(Hf0,H0,Hf,M,C,st,A,λl vs Hf' H' x q r=>(l,rfl,(vs,SqL.of q),k _ Hf' H' x λaG H2 e i=>?_));have j:SqL X.K H2 l vs:=SqL.of (e.h _ _ q);have Y:=r.length;show(λd b=>?_,λG=>(vs,j,by rw[za]at G;lia));rw[zb]at b;have(y,I,b):=dW b;subst b;have(u,n,ru):=r.get I;show((vs,u,j,n),λz U T=>?_);have(pp,z1,J,v,B,Q):=T;subst J B;have m:=Q vs j;rw[n]at m;cases m;show(upd aG pp _,Ext.new e.s v,pp,_,rfl,be,.cons (by rw[lA];rfl) (.cons (ru.up (e.f.trans (bU (e.s.free v)))) .nil))
def R4:DZ c X bb (.Dict [] [] pos) (λ_=>aa (.dT [] [])):=PE.imp NV λE H Q d=>by
 have(Hf0,H0,Hf,M,o,st,b,k):=d;cases b;intro l a;show k _ [l] Hf _ (Ext.tmp st.sub a) (l,[],[],rfl,be,rfl,(rfl,rfl),rfl) (.one (zH st.ext.h a) (st.sub.free a))
end L2
namespace HT
open List
open PySem PyProof.Rows
open PySem.SeqAt
open PySem.AutoSeq1 (wpAny_loadPart')
open PySem.MeetsSeq PySem.MeetsSeq2 PySem.MeetsSeq3
def R5(l:Addr)(L:Array Value)(n:Nat)(x:Value)(f:Value->Bool)(j:Nat)(p:j<L.size)(q:f L[j]=ac)(hz:L.size<=aX)(k:Nat):
  ∀i:Nat,j-i=k->i<=j->(∀m (hm:m<L.size),i<=m->m<j->f L[m]=af)->Meets (d8.«list.remove.loop» ([.ref l,x,cv i],[]))
   (λA R s=>s.heap.get? l=aa {cls:=.type "list",dict:=ab,data:=.seq L n,slots:=#[]}/\(∀y,y∈L->EqAt A.in1 s y x (f y))/\R (.ok (.ret .none)) {s with heap:=s.heap.update l (ie λC=>C.eraseIdxIfInBounds j)}):=by
 induction k with
 |zero=>
  intro i r e b prog w A R s h;have(c,d,h):=h;obtain rfl:i=j:=by lia
  wp_walk using t7 c
  rw[show L[S (_:Int)]?=aa L[i] by simp[p]];show ak (d _ (Array.getElem_mem p) prog w _ _ ?_);have g:(L.eraseIdxIfInBounds i).size<=aX+1:=cZ (size_erased L _) (Nat.le_succ_of_le hz)
  wp_walk using (ub c rfl (_hz':=g)),t7 c
  show h
 |succ k u=>
  intro i r e b prog w A R s h;have(c,d,h):=h;have a:i<L.size:=by lia
  wp_walk using t7 c
  rw[show L[S ((i:Nat):Int)]?=aa L[i] by simp[a]];show ak (d _ (Array.getElem_mem a) prog w _ _ ?_);rw[b i a (aO _) (by lia)]
  wp_walk
  show (mO plain_remove_loop _,kC entry_remove_loop (by
   show u (i+1) (by lia) (by lia) (λm hm v h2=>b m hm (by lia) h2) prog w A R _ (c,d,h)))
def remAt(l:Addr)(L:Array Value)(n:Nat)(x:Value)(f:Value->Bool)(j:Nat)(e:j<L.size)(a:f L[j]=ac)(b:∀m (hm:m<L.size),m<j->f L[m]=af)(hz:L.size<=aX):Meets (d8.«list.remove» ([.ref l,x],[]))
   (λA R s=>s.heap.get? l=aa {cls:=.type "list",dict:=ab,data:=.seq L n,slots:=#[]}/\(∀y,y∈L->EqAt A.in1 s y x (f y))/\R (.ok (.ret .none)) {s with heap:=s.heap.update l (ie λC=>C.eraseIdxIfInBounds j)}):=by
 intro prog w A R s h;have(c,d,h):=h
 wp_walk using t7 c
 show (mO plain_remove_loop _,kC entry_remove_loop (by
  show R5 l L n x f j e a hz _ 0 rfl (cr _) (λm hm _ h2=>b m hm h2) prog w A R _ (c,d,h)))
end HT
namespace L2
open List
open PySem PySem.Spec PyProof.Rows
abbrev Iu(G:Gc):V->LVv->Hp->VK->Prop:=λa vs H Q=>∃Hf l us ds x w,a=.ref l/\vs=[w]/\aq Hf H/\H l=aa (.lst us)/\am G Hf ds us/\Rep G Hf x w/\dF x ds=aa ac/\Q .non (upd H l (.lst (us.eraseIdx (ds.findIdx (isE x)))))
def O.remd(x:D)(o:O):Option O:=o.items.bind λds=>if dF x ds=aa ac then aa (.lst ((ds.eraseIdx (ds.findIdx (isE x))).map .fz)) else ab
def qj(i:Nat)(p:Xp)(f:MF1)(M:LS):Option Fl:=(p M).bind λq=>(f M).bind λd=>(q.1.remd d).map λo2=>.nx (M.set i (.deep (q.2 o2)))
variable{c:Str->Addr}{X:Cx}
def R6(hu:X.A.units+64<cLine):MtM X "list.remove" (Iu (Gx c X)):=by
 rintro U s E H x C v us Q I rx rv ⟨Hf,l,vs,ds,z,w,rfl,rfl,G,q,B,r2,a,k⟩;subst rx;have(u,rfl,ru):=rv.one;have(z1,L,n,j,N,e0):=I.lstM q;have(f,J,ha):=r9 (A:=X.A.in1) I (by rw[rb];lia) (r2.up G) ru (B.up G) j a;have(k1,k2):=zM a
 have same:∀m _,f L[m]=isE z (ds.getD m .non):=λm hm=>by
  have i:m<Z ds:=by rw[B.length,N];show hm
  have(v1,g,r):=B.get (b7 i);have(u1,b,ru1):=j.get g;rw[b7 hm]at b;cases b;have(_,d',v',r',p,h'):=J L[m] (g9 hm);have Y:=aD.inj p ru1;subst Y;have(T,d):=k1 ds[m] (g9 i);rw[bE,b7 i];change _=isE z ds[m];unfold isE;rw[d,(r6 19 r' (r.up G) h' d)]
  cases T <;> rfl
 have M:=xl (any_eq_true.mp k2);have e:ds.findIdx (isE z)<Z L:=by rw[<- N,<- B.length];show M
 show call_meets F.slot_list_remove (_,e0,rfl) F.entry_list_remove (F.args_list_remove_2 _ _) (HT.remAt l L.toArray n u f _ (by rw[size_toArray];show e) ?_ ?_ (by rw[size_toArray];lia)) (e0,λy hy=>(J y (by simpa using hy)).1,?_)
 .rw[tT,same _ e,bE,b7 M];show findIdx_getElem
 .intro m hm h;rw[tT,same m (by rw[size_toArray]at hm;show hm),bE,b7 _];have:=not_of_lt_findIdx h;show this
 .show(.non,_,I.lset q e0 ?_ (j.eraseIdx _) ?_,rfl,k)
  .change L.toArray.eraseIdxIfInBounds _=(L.eraseIdx _).toArray;rw[eraseIdxIfInBounds_toArray]
  .have:=yq vs (ds.findIdx (isE z))
   lia
variable{st:Stmt}{i:Nat}{p:Xp}
def R7{f:MF1}(h:PS X st (m7 (tBM X.K "list" (Iu (Gx c X)) (tDP (Gx c X) i p) (jp (tD (Gx c X) f) ip)))):DS c X st (qj i p f):=PS.imp h λX4 E H q_=>by
 have(Hf0,H0,Hf,M,o,G,g,kq):=q_;have(q,N,g):=bh g;have(d,Q,g):=bh g;have(o2,y,g):=dW g;subst g;have(ds,T,y):=bh (y);split at y
 .rename_i A;cases y;show(Hf0,H0,Hf,M,q.1,q.2,G,N,λt v fp v1 f1 C H1 es U x rt F=>?_);have L:=F.r;rw[sy T]at L;have(l,us,fs,rfl,J,B,j):=L;have(rd,rfl):=B.unfz;show(.inl (rfl,_,SqL.of J),Hf0,H0,C,M,d,G.step x,Q,λw m H2 e r2=>?_);show(m,l,us,ds,d,w,rfl,rfl,e.s,e.h _ _ J,rd.up e.f,r2,A,kq E m _ (x.trans e).f ?_);have I:=F.up e.f e.h
  have:=G.foc es U (rt.up e.f e.h) (x.trans e) I (λb u Y hn=>by rw[aN (λz=>hn (by rw[j,z];show aA))];show Y)
   (o2:=.lst ((ds.eraseIdx (ds.findIdx (isE d))).map .fz)) (l,_,[],rfl,be,OTs.fz ((rd.up e.f).erase _),rfl) (by rw[<- j];show I.n) λa ha=>.inl (by rw[j];show ha)
  show this
 .nomatch y
def iC(cn f:Str)(m:LD->OLD)(fo:MF1)(fa:MF2)(M:LS):OLD:=(fo M).bind λd=>match d with
 |.ins a ns ds=>if a=cn/\ns.contains f=af then (fa M).bind λas=>(m (.ins a ns ds::as)).bind λB=>if B.all D.flat then aa B else ab else ab
 | _=>ab
abbrev Iv:Fl->Option (LD ⊕ D)
 |.rtO ds=>aa (.inl ds)
 |.rt d=>if d.scalar then aa (.inr d) else ab
 | _=>ab
abbrev zX(n:Nat)(F:MF3)(ds:LD):Option (LD ⊕ D):=(F (eN n ds)).bind Iv
def spN(G:Gc)(n:Nat)(m:LD->Option (LD ⊕ D)):Sp:=λvs H Q _=>∃Hf ds r,aq Hf H/\am G Hf ds vs/\Z ds=n/\m ds=aa r/\(∀B,r=.inl B->∀l us Hf' H',Ext Hf H Hf' H'->H l=ab->Hf' l=ab->H' l=aa (.lst us)->am G Hf' B us->Q (.ref l) H') /\
 ∀d,r=.inr d->d.scalar=ac/\∀v Hf' H',Ext Hf H Hf' H'->Rep G Hf' d v->Q v H'
variable{P:ci}{w:World}{K:aU}{mg:MGT}{base:Heap}{n_:Nat}{x qual:Str}{f:Addr}{fd:c6}{N ps:LSt}
def R8{k:Nat}{F:MF3}(j:Fun K x qual st f fd)(S:aB N ps (au st))
 (h:∀(cdv:Value) (A:ca) (outer:List Env) (s:ah) (H:Hp) (X4:XK),bD k (A.deeper (gg qual (au st) s.heap.objs.size f cdv))->DSs c (iL CX0 P w K mg base N qual (au st) f cdv A outer s H X4).nox (fW st) F)(a:autoParam (Z N=n_) Zb):
  cD P w K mg base CX0 (k+1) f fd ps (spN (K,c) ps.length (zX n_ F)):=by
 subst a;show j.ok S (λvs H Q X4 b=>by have(Hf,ds,d,i,r,g,_):=b;rw[<- r.length];show g) λcdv A outer s H vs Q X4 hr b=>?_;have(Hf,ds,r,i,rd,g,e,m,n):=b;show(_,h cdv A outer s H X4 hr,?_);have(o,l,e):=bh e;show(Hf,H,Hf,_,o,av.start i rd,l,?_)
 cases o with
 |rtO B=>cases e;show m B rfl
 |rt d=>
  replace e:(if d.scalar then aa _ else ab)=aa r:=e;split at e
  .cases e;show(n d rfl).2
  .nomatch e
 | _=>nomatch e
def qk(m:LD->Option (LD ⊕ D))(f:MF2)(M:LS):OD:=(f M).bind λds=>(m ds).bind λr=>match r with
 |.inl B=>if B.all D.flat then aa (.lst B) else ab
 |.inr d=>if d.scalar then aa d else ab
variable{e:Expr}{es:LEx}{p pos:Pos}{fa:MF2}{k0:Nat}
def R9{k:Nat}{m:LD->Option (LD ⊕ D)}(pk:Pk X.prog X.w X.K X.mg X.base CX0 k x (f,fd,) ps (spN (Gx c X) ps.length m))(L:bD k0 X.A)(ha:DAB c X (e::es) fa)(hl:autoParam (Z (e::es)=Z ps) Zb)(G:autoParam (NDb x) Zc)(he:autoParam (StE X e es) Zb)(J:autoParam (BkE X pos es) Zb)(I:autoParam (k<=k0) Zc)(hg:autoParam (Gl X x) Zi):
  DE c X (.Call (.Name x p) (e::es) [] pos) (qk m fa):=PE.imp (py pk.ok (L.mono I) hg pk.g pk.kp pk.b .nil gq ha.pa G he J) λE H Q q_=>by
 have(Hf0,H0,Hf,M,d,st,a,U):=q_;have(ds,T,a):=bh a;have(r,Y,a):=bh a;show(Hf0,H0,Hf,M,ds,st,T,λvs Hf' H' x rv=>?_);rw[bT];show(H',ds,r,aq.refl _,rv,(ha.len M ds T).trans hl,Y,λB C l us z n y hn hf i N=>?_,λd' C=>?_)
 .subst C;replace a:(if B.all D.flat then aa _ else ab)=aa d:=a;split at a
  .rename_i u;cases a;have j:l6 Hf' n l=ab:=by rw[p8 (λvs q=>by rw[i]at q;nomatch q)];show x.s.free hn
   show U _ _ n ((x.trans (zC x.s y.h)).fix (x.h.free hn) j i) (l,us,rfl,be,((N.up y.s).flat u).up (bU j))
  .nomatch a
 .subst C;replace a:(if d'.scalar then aa d' else ab)=aa d:=a;split at a
  .rename_i u;cases a;show(u,λv z n y N=>U v Hf' n (x.trans (Ext.grow x.s y.h)) (N.sc u))
  .nomatch a
variable{fl:Str}{apos:Pos}{fo:MF1}{pl:Sem Bool}
def Iw{o:Expr}{k:Nat}{m:LD->OLD}(cn:Str)(ho:DB c X o fo)(pk:Pm X.prog X.w X.K X.mg X.base CX0 k (c cn) fl (f,fd,) ps (spO (Gx c X) ps.length m))(G:bD k0 X.A)(ha:DAB c X (e::es) fa)(hl:autoParam (Z (e::es)+1=Z ps) Zb)(I:autoParam (StE X e es) Zb)(C:autoParam (BkE X pos es) Zb)(ht:autoParam (eval (.Call (.Attribute o fl apos) (e::es) [] pos) X.env=(do
   let ov <- eval o X.env
   gJ apos.atName
   let (f,first,) <- eZ [ov] (hZ ov fl pl)
   jX pos f first (cj pos (aQ (e::es) X.env)) (iH pos (iG [] X.env)))) Zb)(y:autoParam (k<=k0) Zc):
  DO c X (.Call (.Attribute o fl apos) (e::es) [] pos) (iC cn fl m fo fa):=PE.imp (ym ho pk.c pk.m pk.ok (G.mono y) pk.b .nil gq ha.pa I C ht) λE H Q q_=>by
 have(Hf0,H0,Hf,M,B,st,g,kq):=q_;have(d,e1,j):=bh g;clear g
 cases d with
 |ins J ns ds=>
  have g:(if J=cn/\ns.contains fl=af then (fa M).bind λas=>(m _).bind λB=>if B.all D.flat then aa B else ab else ab)=aa B:=j;split at g
  .rename_i u;have(p,z):=u;subst p;have(as,L,j):=bh g;have(rs',e3,g):=bh j;split at g
   .rename_i hs;cases g;show(Hf0,H0,Hf,M,_,st,e1,λv n H1 T r=>?_);have(a,dx,vs,ev,q,N,rr):=id r;subst ev;show(a,dx,ns.zip vs,rfl,q,pR z,Hf0,H0,n,M,as,st.step T,L,λws aG H2 U r2=>?_);rw[bT];have x:=T.trans U;show(H2,.ins J ns ds::as,_,aq.refl _,.cons (r.up U.h) r2,by rw[cB,ha.len M as L];show hl,e3,λl us Hf3 H3 Y hn hf i r3=>(kq l us _ H3 (x.trans (zC x.s Y.h)) (x.h.free hn) (by rw[p8 (λvs q=>by rw[i]at q;nomatch q)];show x.s.free hn) i ((r3.up Y.s).flat hs)))
   .nomatch g
  .nomatch g
 | _=>nomatch j
abbrev me(w pr k:Nat)(js:LN)(g:D->LS->Option LS)(ft:MF4)(fe:MF1):LD->LS->LD->Option (LS×LD)
 | [],M,X2=>aa (M,X2,)
 |b::bs,M,X2=>if Z X2<=16777216 then (fh (gQ g ft fe (iP k js ((M.set pr (.im b)).set w .no))) X2).bind λa=>me w pr k js g ft fe bs (M.set pr (.im b)) a else ab
def qm(w pr:Nat)(a:MF4)(e d:MF2)(k:Nat)(js:LN)(g:D->LS->Option LS)(ft:MF4)(fe:MF1)(M:LS):Option Fl:=
 (a M).bind λb=>(d (M.set w .no)).bind λbs=>if b=!bs.isEmpty then (if b then e M else aa []).bind λc=>(me w pr k js g ft fe bs M c).map λp=>.nx (p.1.set w (.own p.2)) else ab
variable{G:Gc}{Hf0 H0 Hf H:Hp}{E:St}{M:LS}{v:V}
def av.setAny(h:av G Hf0 H0 Hf H E M):av G Hf0 H0 Hf H (E.set i (aa v)) (M.set i .no):=h.setNew (Ext.refl h.sub) trivial λa p=>(p.calm rfl).elim
variable{w pr:Nat}{js:LN}{fb:MF2}{g:D->LS->Option LS}{ft:MF4}{fe:MF1}{ρ1:LS}
def Ix{k:Nat}(hG:G.K=X.K)(hj:js.Nodup)(hk:∀d M ρ' i,g d M=aa ρ'->k<=i->ρ'[i]?=M[i]?)(C:∀d M ρ',g d M=aa ρ'->Z ρ'=Z M)(L:pr≠w){bs U L1:LD}{X4:jn}{a0:Addr}{r:LVv}
 (st:av G Hf0 H0 Hf H E (M.set w .no))(hw:w<Z M)(ew:E[w]?=aa (aa (.ref a0)))(ha:H a0=aa (.lst r))(r0:am G Hf U r)(hb:fb (M.set w .no)=aa bs)(fr:bs=[]->av G Hf0 H0 Hf H E (M.set w (.own U)))
 (el:me w pr k js g ft fe bs M U=aa (ρ1,L1,))(kq:∀σ' Hf' H',aq Hf Hf'->av G Hf0 H0 Hf' H' σ' (ρ1.set w (.own L1))->X4.nx σ' H'):
  x9 (tDI G fb) (ij pr) (jo (pJ k js (x6 X.K (c8 w)) (tDG G g) (tDT G ft) (tD G fe)) (ij w)) X4 E H:=by
 show(Hf0,H0,Hf,_,bs,st,hb,λJ j H1 Q it=>?_)
 show(λi m σ' H'=>m=Z bs-i/\i<=Z bs/\∃Hf' ρ' X2 a vs,av G Hf0 H0 Hf' H' σ' (ρ'.set w .no)/\w<Z ρ'/\σ'[w]?=aa (aa (.ref a))/\H' a=aa (.lst vs)/\am G Hf' X2 vs/\aq j Hf'/\me w pr k js g ft fe (bs.drop i) ρ' X2=aa _/\(i=Z bs->av G Hf0 H0 Hf' H' σ' (ρ'.set w (.own X2))),
  (Z bs,rfl,cr _,j,M,U,a0,r,st.step Q,hw,ew,Q.h _ _ ha,r0.up Q.f,aq.refl _,el,λe=>(fr (tU.mp e.symm)).step Q),?_)
 rintro i m σ' H' ⟨rfl,hi,Hf',ρ',X2,a,vs,N,hw',A,B,r',s1,b,own⟩;have(it1,it2):=it Hf' H' s1 N.sub i
 by_cases I:i<Z bs
 .have(d,ed,edr):=yW I;have(go,yl):=it1 d ed;rw[edr]at b;unfold me at b;split at b
  .rename_i hz;have(L',ec,el2):=bh b;show .inr (go,λu c=>Z bs-_=Z bs-_/\i+1<=Z bs/\∃Hf' ρ' X2 a vs,av G Hf0 H0 Hf' c u _/\w<Z ρ'/\u[w]?=aa _/\c a=aa _/\am G Hf' X2 vs/\aq j Hf'/\me w pr k js g ft fe _ ρ' X2=aa _/\_,λu c z=>(Z bs-(i+1),by lia,z),λx c y=>?_);have(v,T,rx):=yl x c y
   have n:av G Hf0 H0 v c (σ'.set pr (aa x)) ((ρ'.set pr (.im d)).set w .no):=by
    have:=(N.step T).setIm (i:=pr) rx;rw[set_comm _ _ L.symm]at this;show this
   have ew2:(σ'.set pr (aa x))[w]?=aa (aa (.ref a)):=by rw[lu L];show A
   show GG hj hk C n (λR q=>(.ref a,ew2,a,rfl,(vs,SqL.of (T.h _ _ B)),?_)) hz ec λl us Y H3 x3 hn hf hl rl=>?_
   .have:=q _ v c (Ext.refl n.sub) (GF (SqL.of (T.h _ _ B)) (r'.up T.f));rw[hG]at this;show this
   .have p:=n.setOwn (i:=w) (s:=.own L') rfl x3 hn hf (us,hl,rl);rw[set_set]at p;have hsl:w<Z (σ'.set pr (aa x)):=by rw[iE];show(dh.mp A).1
    show(rfl,I,Y,ρ'.set pr _,L',l,us,?_,by rw[iE];show hw',kj hsl,hl,rl,(s1.trans T.f).trans x3.f,el2,λ_=>p);have:=p.setNo (i:=w);rw[set_set]at this;show this
  .nomatch b
 .have ei:i=Z bs:=by lia
  subst ei;rw[drop_eq_nil_of_le (aO _)]at b;cases b;show .inl (it2 rfl,kq σ' Hf' H' (Q.f.trans s1) (own rfl))
variable{fg:MF2}{ft0:MF4}
def Sa{k:Nat}{s1 s2:Stmt}{rest:List Stmt}{F:MF3}(hj:js.Nodup)(hk:∀d M ρ' i,g d M=aa ρ'->k<=i->ρ'[i]?=M[i]?)(q:∀d M ρ',g d M=aa ρ'->Z ρ'=Z M)(C:pr≠w)
 (h1:PS X s1 (jo (tIf (tDT (Gx c X) ft0) (tDL (Gx c X) fg) (yi ip)) (ij w)))(h2:PS X s2 (x9 (tDI (Gx c X) fb) (ij pr) (jo (pJ k js (x6 X.K (c8 w)) (tDG (Gx c X) g) (tDT (Gx c X) ft) (tD (Gx c X) fe)) (ij w))))(hr:DSs c X rest F):
  DSs c X (s1::s2::rest) (λM=>if w<Z M then ai (qm w pr ft0 fg fb k js g ft fe) F M else ab):=PSs.imp (um h1 (um h2 hr)) λX4 E H q_=>by
 have(Hf0,H0,Hf,M,o,I,B,x):=q_;split at B
 .rename_i Q;have(r,j,B):=bh (B);have(b,e2,j):=bh j;have(bs,Y,j):=bh j;split at j
  .rename_i hb;have(L0,e4,j):=bh j;have(p,e5,j):=dW j;subst j;show(Hf0,H0,Hf,M,b,I,e2,λu U y=>?_);have G:w<Z E:=by rw[I.len];show Q
   have fin:∀{v:Hp},aq Hf v->∀σ' Hf' H',aq v Hf'->av _ Hf0 H0 Hf' H' σ' _->tDS _ F X4 σ' H':=λT σ' Hf' H' s1 m=>(Hf0,H0,Hf',_,o,m,B,by
    cases o with
    |nx M=>show λn h A s2 e=>x n h A ((T.trans s1).trans s2) e
    |bk M=>show λn h A s2 e=>x n h A ((T.trans s1).trans s2) e
    |ct M=>show λn h A s2 e=>x n h A ((T.trans s1).trans s2) e
    |rt d=>show x
    |rtO d=>show x
    |rtS d M=>show x
    |rtT t=>show x)
   cases b with
   |true=>
    show(Hf0,H0,u,M,L0,I.step y,e4,λa vs v H2 L ha r=>?_)
    show Ix rfl hj hk q C ((I.step y).step L).setAny Q (kj G) ha r Y (λz=>by rw[z]at hb;nomatch hb) e5 (λσ' Hf' H' s1 m=>fin (y.f.trans L.f) σ' Hf' H' s1 m)
   |false=>
    cases e4;show(cr _,λl N=>?_);have L:Ext u U u (upd U l (.lst [])):=Ext.tmp y.s N;have e:=(I.step y).setOwn (i:=w) (s:=.own []) rfl L N (y.s.free N) ([],be,.nil);have J:=e.setNo (i:=w);rw[set_set]at J;show Ix rfl hj hk q C J Q (kj G) be .nil Y (λ_=>e) e5 (λσ' Hf' H' s1 m=>fin y.f σ' Hf' H' s1 m)
  .nomatch j
 .nomatch B
def Sb{i k:Nat}(h:i<k):∀d (M ρ':LS) j,ay i d M=aa ρ'->k<=j->ρ'[j]?=M[j]?:=λd M ρ' j e a=>by cases e;show lu (by lia)
def Sc:∀d (M ρ':LS),ay i d M=aa ρ'->Z ρ'=Z M:=λd M ρ' e=>by cases e;show iE
variable{o1:O}{R:O->O}
def Sd(d:av G Hf0 H0 Hf H E M)(h:aJ i M=aa (o1,R,)):∃o v fp,M[i]?=aa (.deep o)/\E[i]?=aa (aa v)/\OT G Hf H o v fp/\fp.Nodup/\(∀a∈fp,H0 a=ab/\Hf a=ab)/\Foc G Hf H o v fp o1 v fp R:=by
 have main:∀o,M[i]?=aa (.deep o)->(∀v fp,OT G Hf H o v fp->fp.Nodup->Foc G Hf H o v fp o1 v fp R)->∃o v fp,M[i]?=aa (.deep o)/\E[i]?=aa (aa v)/\OT G Hf H o v fp/\fp.Nodup/\(∀a∈fp,H0 a=ab/\Hf a=ab)/\Foc G Hf H o v fp o1 v fp R:=λo es F=>by
  have(v,b,u,fp,c,r,n,z):=d.slot es;subst c;show(o,u,fp,es,b,r,n,z,F u fp r n)
 unfold aJ at h;split at h
 .rename_i l o es;cases h;show main _ es λv fp r n=>Foc.at r n
 .rename_i o _ es;cases h;show main _ es λv fp r n=>Foc.refl r n
 .nomatch h
def Sf{cn f:Str}(g:av G Hf0 H0 Hf H E M)(h:ba cn f (aJ i) M=aa (o1,R,)):∃o v fp v1 f1,M[i]?=aa (.deep o)/\E[i]?=aa (aa v)/\OT G Hf H o v fp/\fp.Nodup/\(∀a∈fp,H0 a=ab/\Hf a=ab)/\Foc G Hf H o v fp o1 v1 f1 R:=by
 have(q,c,h):=bh h;have(r,d,h):=dW h;cases h;have(o,v,fp,es,e,rt,n,z,F):=Sd g c;have(a,dx,ns,vs,j,f2,_,_,_,b):=F.fld d;show(o,v,fp,j,f2,es,e,rt,n,z,b)
variable{l:Addr}
def av.focFix{o:O}{fp:LAd}{ds:LD}{vs:LVv}(B:av G Hf0 H0 Hf H E M)(es:M[i]?=aa (.deep o))(J:E[i]?=aa (aa v))(r:OT G Hf H o v fp)(n:fp.Nodup)(z:∀a∈fp,H0 a=ab/\Hf a=ab)(F:Foc G Hf H o v fp (.lst (ds.map .fz)) (.ref l) [l] R)(ql:H l=aa (.lst vs))(rd:am G Hf ds vs):
  av G Hf0 H0 (upd Hf l (.lst vs)) H E (M.set i (.deep (R (.fz (.lst ds))))):=by
 have N:=F.sub l aA;have Q:=(z l N).2;have m:aq Hf (upd Hf l (.lst vs)):=bU Q;have(fp',T,mem,nd):=F.back _ H (.fz (.lst ds)) [] m (λb u e _=>e) ((l,vs,rfl,be,rd.up m),rfl)
 have c:∀a∈fp',a∈fp/\a≠l:=λa ha=>by
  rcases mem a ha with y |⟨y,y'⟩
  .show nomatch y
  .show(y,λe=>y' (by rw[e];show aA))
 have nl:∀j t w,j≠i->M[j]?=aa t->E[j]?=aa _->Holds G Hf H t w l->False:=λj t w hj b A p=>hj (B.dj j i t _ w v l b es A J p (fp,r,N));show B.re (B.ext.fix (z l N).1 Q ql) (by simp) (λj u t a b=>?_) λj t w a b A p=>?_
 .rcases c9 b with⟨e,e',_⟩ |⟨en,b⟩
  .subst e e';rw[J]at a;cases a;show(v,fp',rfl,T,(nd fH λa ha=>nomatch ha),λx f=>((z x (c x f).1).1,by rw[aN (c x f).2];show(z x (c x f).1).2))
  .have q:=B.at' j u t a b
   cases C:t.isOwn with
   |false=>
    cases t with
    |no=>trivial
    |im d=>have(U,I,h):=q;show(U,I,h.up m)
    |val U=>show q
    |deep o'=>
     have(w,gp,I,h,n2,Y):=q;subst I;show(w,gp,rfl,h.up m (aq.refl _),n2,λx f=>((Y x f).1,?_));rw[aN (λy=>nl j _ w en b a (gp,h,by rw[<- y];show f))]
     show(Y x f).2
    | _=>nomatch C
   |true=>
    have(l2,e2,e3,e4,q2):=q.own C;subst e2;show .ofOwn C (l2,rfl,e3,?_,q2.up m λo' L=>L);rw[aN (λy=>nl j t _ en b a ((Holds.own C).mpr (by rw[y])))];show e4
 .rcases c9 b with⟨e,e',_⟩ |⟨_,b⟩
  .subst e e';rw[J]at A;cases A;have(g,h,ha):=p;have:=OT.funM _ _ _ _ T h;subst this;show(_,es,(fp,r,(c a ha).1))
  .show(t,b,(B.at' j _ t A b).back (λo fp _ r=>r.up m (aq.refl _)) p)
def n9(i:Nat)(cn f:Str)(F:MF3)(M:LS):Option Fl:=(ba cn f (aJ i) M).bind λq=>q.1.items.bind λds=>F (M.set i (.deep (q.2 (.fz (.lst ds)))))
def Iy{F:MF3}(i:Nat)(cn f:Str)(h:DS c X st F):DS c X st (n9 i cn f F):=PS.imp h λX4 E H m=>by
 have(Hf0,H0,Hf,M,o,d,a,k):=m;have(q,e,a):=bh a;have(ds,g,a):=bh a;have(t,v,fp,v1,f1,es,j,rt,n,z,b):=Sf d e;rw[sy g]at b;have(l,vs,fs,rfl,p,B,rfl):=id b.r;have(rd,rfl):=B.unfz;show(Hf0,H0,_,_,o,d.focFix es j rt n z b p rd,a,k.up (bU (z l (b.sub l aA)).2))
structure Bas(K:aU)(X5:Addr)(m:Str)(f:Addr):Prop where
 sg:W.specialIn K (.ref X5) "__getattribute__"=aa (aa (.builtin "type.__getattribute__"))
 rd:W.readsIn K X5 (.type "type")=ac
 fc:W.findCls K (.ref X5) (.type "type") m=aa (.val (.ref f))
 kp:gm K (.ref f)=ac
variable{X5:Addr}
def Sg{U:PNS}{s:ah}{A:ca}{X4:PRS}{m:Str}{Q:Value×LVa->ah->Prop}(I:Inv X U E H s)(b:Bas X.K X5 m f)(h:∀a,Inv X U E H a->Q (.ref f,[],) a):wpAny (model X.prog X.w) A (hZ (.ref X5) m pl) Q X4 s:=
 W.method_cls I.kIn b.sg (W.cls_value I.kIn b.rd b.fc rfl (h _ (I.tok _)))
def mf(i:Nat)(m:MTf)(f:Xa):Xe:=λM=>match M[i]? with
 |some (.deep (.at _ _))=>(f M).bind λp=>match p.2[i]? with
  |some (.deep (.at l o))=>(m l p.1 o).map λq=>(q.2,p.2.set i (.deep (.at l q.1)),)
  | _=>ab
 | _=>ab
variable{sp:Sp}{t:TA}
def Sh{k:Nat}(l:Gl X x)(hm:X.mg x=aa (.ref X5))(b:Bas X.K X5 fl f)(F:cD X.prog X.w X.K X.mg X.base CX0 k f fd ps sp)(hr:bD k X.A)(j:dZ X.K fd ps [])(ha:PA X (e::es) t)
 (d:autoParam (StE X e es) Zb)(c:autoParam (BkE X pos es) Zb)(a:autoParam (NDb x) Zc)
 (m:autoParam (eval (.Call (.Attribute (.Name x p) fl apos) (e::es) [] pos) X.env=(do
   let ov <- eval (.Name x p) X.env
   gJ apos.atName
   let (f,first,) <- eZ [ov] (hZ ov fl pl)
   jX pos f first (cj pos (aQ (e::es) X.env)) (iH pos (iG [] X.env)))) Zb):
  PE X (.Call (.Attribute (.Name x p) fl apos) (e::es) [] pos) (yj sp [] E0 t):=by
 intro U s E H Q I h;show W.methodCall_KW (xT I l hm ?_ a) m;show Sg I b λs1 i=>?_;show W.callWith_K I.ok.mod.kin b.kp (thn (ha pos U s1 E H _ i h) λus s2 (vs,q,g,r,n)=>(g.kIn,(uA F hr j .nil gq g r n))) d c
variable{fa:Xa}{m:MTf}
def Si{Q:VK}(U:∀E H Q,sm (Gx c X) fa E H Q->t E H Q)(hn:∀M ds ρ',fa M=aa (ds,ρ',)->1+Z ds=Z ps)(q_:tDX (Gx c X) (mf i m fa) E H Q):yj (iB (Gx c X) ps.length m) [] E0 (jp (c8 i) t) E H Q:=by
 have(Hf0,H0,Hf,M,d,ρ',st,b,Y):=q_;unfold mf at b;split at b
 .rename_i C o0 p;have(pp,A,b):=bh b;have(ds,ρ1):=pp;split at b
  .rename_i l o1 e;have(q,J,b):=dW b;cases b;have(u,x,u',fp,L,rt,n,z):=st.slot p;subst L;have(el,rt0):=rt;subst el;show(_,x,U _ _ _ (Hf0,H0,Hf,M,ds,ρ1,st,A,λus Hf' H' f1 st1 r=>?_));change iB _ _ _ ((V.ref C::us)++[]) H' Q E0;rw[bT];have(w,B,w',gp,N,y,n1,z1):=st1.slot e;subst N;rw[x]at B;cases B;have(j,g):=y;cases j;show(Hf',ds,o1,q.1,q.2,C,gp,us,rfl,st1.sub,g,n1,λa ha=>(z1 a ha).2,r,hn _ _ _ A,J,λv h I T G r3 n3 z3 rv=>Y v h I (f1.trans G.f) (st1.treeBack e x (rfl,g) G (rfl,r3) n3 z3) rv)
  .nomatch b
 .nomatch b
section
variable{k:Nat}{o:Expr}
def Sj(n:PE X o (c8 i))(l:Gl X x)(hm:X.mg x=aa (.ref X5))(b:Bas X.K X5 fl f)(F:cD X.prog X.w X.K X.mg X.base CX0 k f fd ps (iB (Gx c X) ps.length m))(hr:bD k X.A)(j:dZ X.K fd ps [])(ha:DAX c X (e::es) fa)
 (u:autoParam (Z (e::es)+1=Z ps) Zb)(a:autoParam (aQ (o::e::es) X.env=(af,eval o X.env,)::aQ (e::es) X.env) Zb)(g:autoParam ((cj pos (aQ (e::es) X.env)).any (·.1)=af) Zb)(d:autoParam (NDb x) Zc)
 (q:autoParam (eval (.Call (.Attribute (.Name x p) fl apos) (o::e::es) [] pos) X.env=(do
   let ov <- eval (.Name x p) X.env
   gJ apos.atName
   let (f,first,) <- eZ [ov] (hZ ov fl pl)
   jX pos f first (cj pos (aQ (o::e::es) X.env)) (iH pos (iG [] X.env)))) Zb):
  DX c X (.Call (.Attribute (.Name x p) fl apos) (o::e::es) [] pos) (mf i m fa):=PE.imp (Sh l hm b F hr j (e9 n ha.pa a) a g d q) λE H Q r=>Si (λ_ _ _ h=>h) (λM ds ρ' h=>by have:=ha.len M ds ρ' h;lia) r
end
section
variable{k:Nat}
def oa(i:Nat)(cn fl:Str)(f:MF1)(M:LS):Option Fl:=match M[i]? with
 |some (.deep (.at l (.ins c' ns os)))=>if c'=cn/\Z ns<1000 then (a8 fl ns).bind λk=>match os[k]? with
  |some (.fz (.int a))=>match f M with
   |some (.int b)=>aa (.nx (M.set i (.deep (.at l (.ins c' ns (os.set k (.fz (.int (a+b)))))))))
   | _=>ab
  | _=>ab else ab
 | _=>ab
end
variable{g:MF1}
def Sk{o:Expr}{u:Pos}(cn:Str)(hc:Cls X.K (c cn))(hn:cR X.K (c cn) fl)(ho:PE X o (c8 i))(he:DE c X e g):DS c X (.AugAssign (.Attribute o fl u) .Add e pos) (oa i cn fl g):=PS.imp (MX ho he MZ) λX4 E H q_=>by
 have(Hf0,H0,Hf,M,o,Q,d,kq):=q_;unfold oa at d;split at d
 .rename_i l A ns os es;split at d
  .rename_i J;have(rfl,hlt):=J;have(k,U,d):=bh d;split at d
   .rename_i a eo;split at d
    .rename_i b eb;cases d;have(v,T,v',fp,e3,rt,n,z):=Q.slot es;subst e3;have F:=Foc.at rt n;have(el,p,dx,vs,fs,ep,L,hz,B,C):=id rt;subst el;cases ep;subst C;have(na,N):=b8.mp n;have(vk,fk,G,rk,_,sb,bk):=B.foc N eo;show(_,T,_,c A,dx,ns.zip vs,vk,rfl,L,hc,hn,(zQ vs U).trans G,Hf0,H0,Hf,M,_,Q,eb,λv2 r x m r1=>(a,b,rk.1,r1,?_));show(dx,ns.zip vs,m.h _ _ L,by rw[oR];lia,kq E r _ m.f ?_);have F1:=F.up m.f m.h;have keep:∀q w,q≠l->x q=aa w->upd x l (.ins (c A) dx (dA fl (.int (a+b)) (ns.zip vs))) q=aa w:=λq w j e=>by rw[aN j];show e
     have (I,r',Y,n'):=bk r (upd x l (.ins (c A) dx (dA fl (.int (a + b)) (ns.zip vs)))) (.fz (.int (a + b))) (.int (a + b)) [] m.f (λq w j hm _=>by
      show keep q w (λy=>?_) (m.h _ _ j);subst y;simp only[L]at j;cases j
      rcases hm with hm |hm
      .nomatch hm
      .show na hm) (rfl,rfl)
     show Q.foc es T (rt.up m.f m.h) m F1 (λq w j hn=>keep q w (λy=>hn (by rw[y];show aA)) j) (l,dx,vs.set k (.int (a+b)),I,rfl,by rw[be,zV hz U],by simp[hz],r',rfl) (b8.mpr ⟨λy=>?_,n' fH λq j=>nomatch j⟩) λq j=>?_
     .rcases Y l y with w |⟨w,_⟩
      .nomatch w
      .show na w
     .rcases bc.mp j with y |y
      .rw[y];show .inl aA
      .rcases Y q y with w |⟨w,_⟩
       .nomatch w
       .show .inl (bp _ w)
    .nomatch d
   .nomatch d
  .nomatch d
 .nomatch d
def sC(i:Nat)(f:MF1)(M:LS):Option Fl:=match M[i]? with
 |some (.im (.int a))=>match f M with
  |some (.int b)=>aa (.nx (M.set i (.im (.int (a-b)))))
  | _=>ab
 | _=>ab
def Sm(i:Nat){h:Pos}(y:X.N.Nodup)(z:DE c X e g)(hi:autoParam (X.N[i]?=aa x) Zb)(B:autoParam (Loc X.env.scope x) Zf)(A:autoParam (LcF X x) Zg):
  DS c X (.AugAssign (.Name x h) .Sub e pos) (sC i g):=PS.imp (Fc y hi B z Ma A) λX4 E H C=>by
 have(Hf0,H0,Hf,M,o,l,d,k):=C;unfold sC at d;split at d
 .rename_i a es;split at d
  .rename_i b n;cases d;have(v,p,w,q,j):=l.slot es;subst q;show(_,p,Hf0,H0,Hf,M,_,l,n,λu Hf' H' m r=>(a,b,j,r,k _ Hf' H' m.f ((l.step m).setIm rfl)))
  .nomatch d
 .nomatch d
def Sn{f:MF1}(h:PE X e (tBM X.K "list" (zN (Gx c X)) (tDB (Gx c X) f) (jp (tD (Gx c X) g) ip))):DE c X e (m2 gT f g):=PE.imp h λE H Q J=>by
 have(Hf0,H0,Hf,M,d,st,I,k):=J;have(x,y,C,G,m):=nr I
 obtain⟨ds,i,rfl,rfl⟩:∃ds i,x=.lst ds/\d=.int i:=by
  unfold gT at m
  grind
 show(Hf0,H0,Hf,M,_,st,C,λv b U p n=>?_);have(l,vs,el,q,B):=id n;subst el;show(.inl (rfl,_,SqL.of q),Hf0,H0,b,M,y,st.step p,G,λu j r a L=>(r,.lst ds,y,_,u,rfl,aq.refl _,n.up a.h,L.up a.s,m,λw A z T N=>k w j z ((p.trans a).trans (Ext.grow a.s T.h)) N))
section
variable{k:Nat}
def sD(x y:D):OD:=match x with
 |.dT ks ds=>(lc y).bind λk=>(a8 k ks).bind λj=>ds[j]?
 | _=>ab
end
def So{o:Expr}{f:MF1}(Y:X.A.units+1<cLine)(T:DE c X o f)(N:DE c X e g)(U:autoParam (rA e) Zj):DE c X (.Subscript o e pos) (m2 sD f g):=PE.imp (yy Y T N U) λE H Q q_=>by
 have(Hf0,H0,Hf,M,d,st,L,kq):=q_;have(x,y,z,C,h):=nr L;unfold sD at h;split at h
 .rename_i ks ds;have(k,G,h):=bh h;have(j,I,h):=bh h;show(Hf0,H0,Hf,M,_,st,z,λv l H1 r r1=>(Hf0,H0,l,M,y,st.step r,C,λu m w i r2=>?_));have(b,J,tk):=ss G r2;have(a,vs,rfl,ha,hz,B):=r1;subst J;have(q,n,p):=B.get h;show(a,q,rfl,?_,kq q m w (r.trans i) (p.up i.f));rw[<- n,<- qf vs I];show fX.t (i.s _ _ (i.f _ _ ha)) (tk.same i.s)
 .nomatch h
structure zY(K:aU)(x qual:Str)(st:Stmt)(f:Addr)(fd:c6):Prop where
 ex:∃(oc:Value) (od:Option Addr) (dV kV doc pm:Value) (an:Option Addr) (cdv ct:Value) (osl:Array (Option Value)),
  fd=jl x qual (kM st) (fW st) (au st) dV kV doc pm an cdv ct/\K.lookup f=aa (oc,od,.func fd,osl)/\W.codeIn K cdv qual=ac
 kp:gm K (.ref f)=ac
def Sr{oc:Value}{od an:Option Addr}{osl:Array (Option Value)}{dV kV doc pm cdv ct:Value}(l:K.lookup f=aa (oc,od,.func (jl x qual (kM st) (fW st) (au st) dV kV doc pm an cdv ct),osl))
 (c:W.codeIn K cdv qual=ac)(k:gm K (.ref f)=ac):zY K x qual st f (jl x qual (kM st) (fW st) (au st) dV kV doc pm an cdv ct):=((oc,od,dV,kV,doc,pm,an,cdv,ct,osl,rfl,l,c),k)
variable{n:Nat}
def Iz{ds:LVa}{T:Addr}{o:Obj}{items:Array Value}(l:K.lookup T=aa o)(d:o.data=.seq items n)(hd:fd.defaults=.ref T)
 (h:∀us:LVa,Z (us++ds)=Z ps->∃k,bindArgs fd (us,[])=seqItems? fd.defaults >>= k/\k (aa items)=pure (ps.zip (us++ds))):dZ K fd ps ds:=λs us X c=>by
 have(k,a,b):=h us c;show W.binds_K X hd l d a b
variable{w:World}
def Ss{k:Nat}{F:MF3}(u:zY K x qual st f fd)(S:aB N ps (au st))
 (h:∀(cdv:Value) (A:ca) (outer:List Env) (s:ah) (H:Hp) (X4:XK),bD k (A.deeper (gg qual (au st) s.heap.objs.size f cdv))->DSs c (iL CX0 P w K mg base N qual (au st) f cdv A outer s H X4).nox (fW st) F)(j:autoParam (Z N=n_) Zb):
  cD P w K mg base CX0 (k+1) f fd ps (spD (K,c) ps.length (aL n_ F)):=by
 subst j;have(oc,od,dV,kV,doc,pm,an,cdv,ct,osl,rfl,y,i):=u.ex;show FD y i S (λvs H Q X4 m=>by have(Hf,ds,d,q,r,a,_):=m;rw[<- r.length];show a) λA outer s H vs Q X4 hr m=>?_;have(Hf,ds,d,q,r,a,e,b):=m;show(_,(h cdv A outer s H X4 hr).nox,?_);unfold aL at e
 cases g:F _ with
 |none=>rw[g]at e;nomatch e
 |some o=>
  rw[g]at e;show(Hf,H,Hf,_,o,av.start q r,g,?_)
  cases o with
  |rt d=>cases e;show b
  |rtO B=>cases e;show λl vs Hf' H' x hn p a r=>b _ _ H' (x.fix hn p a) (l,vs,rfl,be,r.up (bU p))
  |nx M=>cases e;show λσ' Hf' H' _ n=>b _ Hf' H' n.ext rfl
  |rtS d M=>cases e;show λv σ' Hf' H' n r=>b v Hf' H' n.ext r
  | _=>nomatch e
end L2
namespace N_k51
open List
open PySem PySem.Spec PyProof.Rows L2
local macro_rules | `(tactic| walk_at "sc")=>`(tactic| exact ⟨rfl,rfl,rfl,by decide +kernel,rfl,by decide +kernel,by decide +kernel⟩)
def top(i:Nat):Stmt:=PySem.Challenge.pw_standstill_k51_whole_worlds_stand.main.body.getD i (.Pass (0,0,0,0))
nonrec def s_1:=top 2
nonrec def zZ:=top 3
nonrec def z4:=top 10
nonrec def z5:=top 11
nonrec def z6:=top 12
nonrec def z7:=top 13
nonrec def z8:=top 14
nonrec def z9:=top 15
nonrec def Aa:=top 16
nonrec def Ab:=top 17
nonrec def Ac:=top 18
nonrec def s_7:=top 19
nonrec def s_2:=top 21
nonrec def Ad:=top 22
nonrec def Ae:=top 24
nonrec def Ag:=top 25
nonrec def s_4:=top 26
nonrec def s_0:=top 29
nonrec def Ah:=top 30
nonrec def Ai:=top 31
nonrec def Aj:=top 34
nonrec def s_5:=top 35
nonrec def Ak:=top 36
nonrec def Al:=top 37
nonrec def Am:=top 38
nonrec def An:=top 39
nonrec def Ao:=top 40
nonrec def Ap:=top 41
nonrec def Aq:=top 42
nonrec def Ar:=top 43
nonrec def As:=top 44
nonrec def At:=top 45
nonrec def Au:=top 46
nonrec def Av:=top 47
nonrec def Aw:=top 48
nonrec def Ax:=top 49
nonrec def Ay:=top 50
nonrec def Az:=top 51
nonrec def s_6:=top 52
nonrec def AA:=bq (top 6) 0
nonrec def AB:=bq (top 6) 2
nonrec def AC:=bq (top 6) 3
nonrec def AD:=bq (top 6) 5
nonrec def AE:=bq (top 6) 6
nonrec def AF:=bq (top 6) 7
nonrec def AG:=bq (top 6) 8
nonrec def AH:=bq (top 6) 9
nonrec def AI:=bq (top 7) 0
nonrec def AJ:=bq (top 7) 2
nonrec def AK:=bq (top 7) 3
nonrec def AL:=bq (top 7) 5
nonrec def AM:=bq (top 7) 6
nonrec def AN:=bq (top 7) 7
nonrec def AO:=bq (top 7) 8
nonrec def AQ:=bq (top 7) 9
nonrec def AR:=bq (top 8) 0
nonrec def AS:=bq (top 8) 2
nonrec def AT:=bq (top 8) 3
nonrec def AU:=bq (top 8) 5
nonrec def AV:=bq (top 8) 6
nonrec def AW:=bq (top 8) 7
nonrec def AX:=bq (top 8) 8
nonrec def AY:=bq (top 8) 9
nonrec def AZ:=bq (top 9) 0
nonrec def A0:=bq (top 9) 2
nonrec def A1:=bq (top 9) 3
nonrec def A3:=bq (top 9) 5
nonrec def A4:=bq (top 9) 6
nonrec def A5:=bq (top 9) 7
nonrec def A6:=bq (top 9) 8
nonrec def A7:=bq (top 9) 9
nonrec def A8:=bq (top 32) 0
nonrec def s_8:=bq (top 32) 1
nonrec def A9:=bq (top 32) 2
nonrec def Ba:=bq (top 32) 3
nonrec def Bb:=bq (top 32) 4
nonrec def s_3:=bq (top 32) 5
nonrec def s_9:=bq (top 32) 6
nonrec def Bc:=bq (top 27) 1
nonrec def Bd:=bq (top 27) 2
nonrec def Be:=bq (top 27) 3
nonrec def Bf:=bq (top 27) 4
nonrec def Bg:=bq (top 27) 5
nonrec def Bh:=bq (top 27) 6
nonrec def Bi:=bq (top 27) 7
nonrec def Bj:=bq (top 27) 8
nonrec def Bk:=bq (top 27) 9
nonrec def Bl:=bq (top 27) 10
nonrec def Bm:=bq (top 27) 11
nonrec def Bo:=bq (top 27) 12
nonrec def Bp:=bq (top 27) 0
def qo:aB ["many","some","listed","thing"] ["many","some"] (au s_1):=by walk_at "sc"
def Su:aB ["truths"] ["truths"] (au zZ):=by walk_at "sc"
def IA:aB ["told","word"] ["told"] (au z4):=by walk_at "sc"
def Sv:aB ["items"] ["items"] (au z5):=by walk_at "sc"
def Sw:aB ["items","entries"] ["items","entries"] (au z6):=by walk_at "sc"
def Sx:aB ["items","sheet"] ["items","sheet"] (au z7):=by walk_at "sc"
def Sy:aB ["items"] ["items"] (au z8):=by walk_at "sc"
def Sz:aB ["items","without"] ["items","without"] (au z9):=by walk_at "sc"
def IB:aB ["items","sheet","lack","weights"] ["items","sheet","lack"] (au Aa):=by walk_at "sc"
def Bq:aB ["items","weights","thing","worth"] ["items"] (au Ab):=by walk_at "sc"
def SA:aB ["things","sheet","truth"] ["things","sheet","truth"] (au Ac):=by walk_at "sc"
def vE:aB ["items","things","lack","weights","taken","left","thing","weight"] ["items","things","lack"] (au s_7):=by walk_at "sc"
def IC:aB ["rule"] ["rule"] (au s_2):=by walk_at "sc"
def ID:aB ["rule","guard"] ["rule"] (au Ad):=by walk_at "sc"
def SB:aB ["bar"] ["bar"] (au Ae):=by walk_at "sc"
def IE:aB ["guard","sheet","pairs","part","tips"] ["guard","sheet"] (au Ag):=by walk_at "sc"
def IF:aB ["body","sheet","without","part"] ["body","sheet","without"] (au s_4):=by walk_at "sc"
def sE:aB ["plain","most","seeking","firsts","world"] ["plain","most"] (au s_0):=by walk_at "sc"
def SC:aB ["why"] ["why"] (au Ah):=by walk_at "sc"
def SD:aB ["order","needed"] ["order","needed"] (au Ai):=by walk_at "sc"
def SE:aB ["_law_script","_law_k"] ["_law_script","_law_k"] (au Aj):=by walk_at "sc"
def IG:aB ["_law_cell","_law_k","_law_prime","_law_once"] ["_law_cell","_law_k"] (au s_5):=by walk_at "sc"
def IH:aB ["_law_cell","_law_k","_law_many","_law_items_here","_law_j","_law_at","_law_worth"] ["_law_cell","_law_k","_law_many"] (au Ak):=by walk_at "sc"
def II:aB ["_law_cell","_law_k","_law_many","_law_sort","_law_items_here","_law_bound"] ["_law_cell","_law_k","_law_many"] (au Al):=by walk_at "sc"
def Br:aB ["_law_cell","_law_many","_law_word","_law_size","_law_parts"] ["_law_cell","_law_many"] (au Am):=by walk_at "sc"
def IJ:aB ["_law_cell","_law_many","_law_rules","_law_k"] ["_law_cell","_law_many"] (au An):=by walk_at "sc"
def IK:aB ["_law_script","_law_top","_law_head","_law_many","_law_rules","_law_cell"] ["_law_script","_law_top"] (au Ao):=by walk_at "sc"
def SF:aB ["_law_part_here"] ["_law_part_here"] (au Ap):=by walk_at "sc"
def IL:aB ["_law_plain_here","_law_rules","_law_word","_law_head","_law_parts"] ["_law_plain_here"] (au Aq):=by walk_at "sc"
def SG:aB ["_law_found"] ["_law_found"] (au Ar):=by walk_at "sc"
def Bs:aB ["_law_found","_law_many","_law_last","_law_thing"] ["_law_found","_law_many"] (au As):=by walk_at "sc"
def Bt:aB ["_law_items_here","_law_some","_law_total","_law_thing","_law_worth"] ["_law_items_here","_law_some"] (au At):=by walk_at "sc"
def SH:aB ["_law_part_here","_law_rising","_law_world"] ["_law_part_here","_law_rising","_law_world"] (au Au):=by walk_at "sc"
def SI:aB ["_law_rule_here","_law_rising","_law_world"] ["_law_rule_here","_law_rising","_law_world"] (au Av):=by walk_at "sc"
def SJ:aB ["_law_rule_here","_law_world"] ["_law_rule_here","_law_world"] (au Aw):=by walk_at "sc"
def IM:aB ["_law_plain_here","_law_world","_law_held","_law_grows","_law_rule_here"] ["_law_plain_here","_law_world"] (au Ax):=by walk_at "sc"
def SK:aB ["_law_plain_here","_law_world"] ["_law_plain_here","_law_world"] (au Ay):=by walk_at "sc"
def IN:aB ["_law_one","_law_other","_law_thing"] ["_law_one","_law_other"] (au Az):=by walk_at "sc"
def IP:aB ["_law_script","_law_plain_here","_law_handed","_law_most","_law_found","_law_last","_law_world"] ["_law_script"] (au s_6):=by walk_at "sc"
def SL:aB ["self","thing"] ["self","thing"] (au AA):=by walk_at "sc"
def SM:aB ["self"] ["self"] (au AB):=by walk_at "sc"
def SN:aB ["self"] ["self"] (au AC):=by walk_at "sc"
def SO:aB ["self","sheet"] ["self","sheet"] (au AD):=by walk_at "sc"
def SQ:aB ["self","sheet","order"] ["self","sheet","order"] (au AE):=by walk_at "sc"
def SR:aB ["self","sheet"] ["self","sheet"] (au AF):=by walk_at "sc"
def SS:aB ["self","sheet","without"] ["self","sheet","without"] (au AG):=by walk_at "sc"
def SU:aB ["self","sheet","without","order"] ["self","sheet","without","order"] (au AH):=by walk_at "sc"
def SV:aB ["self","thing"] ["self","thing"] (au AI):=by walk_at "sc"
def SW:aB ["self"] ["self"] (au AJ):=by walk_at "sc"
def SX:aB ["self"] ["self"] (au AK):=by walk_at "sc"
def SY:aB ["self","sheet"] ["self","sheet"] (au AL):=by walk_at "sc"
def SZ:aB ["self","sheet","order"] ["self","sheet","order"] (au AM):=by walk_at "sc"
def S0:aB ["self","sheet"] ["self","sheet"] (au AN):=by walk_at "sc"
def S1:aB ["self","sheet","without"] ["self","sheet","without"] (au AO):=by walk_at "sc"
def S2:aB ["self","sheet","without","order"] ["self","sheet","without","order"] (au AQ):=by walk_at "sc"
def S3:aB ["self","bound","items"] ["self","bound","items"] (au AR):=by walk_at "sc"
def S4:aB ["self"] ["self"] (au AS):=by walk_at "sc"
def S5:aB ["self"] ["self"] (au AT):=by walk_at "sc"
def S6:aB ["self","sheet"] ["self","sheet"] (au AU):=by walk_at "sc"
def S7:aB ["self","sheet","order"] ["self","sheet","order"] (au AV):=by walk_at "sc"
def IQ:aB ["self","sheet","lack"] ["self","sheet"] (au AW):=by walk_at "sc"
def S8:aB ["self","sheet","without"] ["self","sheet","without"] (au AX):=by walk_at "sc"
def IR:aB ["self","sheet","without","order","left"] ["self","sheet","without","order"] (au AY):=by walk_at "sc"
def S9:aB ["self","bound","items"] ["self","bound","items"] (au AZ):=by walk_at "sc"
def Ta:aB ["self"] ["self"] (au A0):=by walk_at "sc"
def Tb:aB ["self"] ["self"] (au A1):=by walk_at "sc"
def Tc:aB ["self","sheet"] ["self","sheet"] (au A3):=by walk_at "sc"
def Td:aB ["self","sheet","order"] ["self","sheet","order"] (au A4):=by walk_at "sc"
def IS:aB ["self","sheet","lack"] ["self","sheet"] (au A5):=by walk_at "sc"
def Te:aB ["self","sheet","without"] ["self","sheet","without"] (au A6):=by walk_at "sc"
def Tf:aB ["self","sheet","without","order"] ["self","sheet","without","order"] (au A7):=by walk_at "sc"
def Tg:aB ["self","plain"] ["self","plain"] (au A8):=by walk_at "sc"
def Bu:aB ["self","why","world"] ["self"] (au s_8):=by walk_at "sc"
def IT:aB ["self","why","line"] ["self","why"] (au A9):=by walk_at "sc"
def Bv:aB ["self","bar","places","choices"] ["self","bar"] (au Ba):=by walk_at "sc"
def vF:aB ["self","why","sheet","pair","cause","order","needed","bar","done","thing","ground"] ["self","why"] (au Bb):=by walk_at "sc"
def IU:aB ["self","sheet","why","order","things","part"] ["self","sheet","why","order"] (au s_3):=by walk_at "sc"
def Bw:aB ["self","sheet","group","order","without","things","head","body"] ["self","sheet","group","order"] (au s_9):=by walk_at "sc"
def IV:aB ["self","why","guard","part","thing"] ["self","why","guard"] (au Bc):=by walk_at "sc"
def IX:aB ["self","bar","why"] ["self","bar"] (au Bd):=by walk_at "sc"
def sF:aB ["self","bar","wider","pair","why"] ["self","bar"] (au Be):=by walk_at "sc"
def Th:aB ["self","thing","truth","why"] ["self","thing","truth","why"] (au Bf):=by walk_at "sc"
def IY:aB ["self","many","pair","why"] ["self","many"] (au Bg):=by walk_at "sc"
def IZ:aB ["self","going","why"] ["self"] (au Bh):=by walk_at "sc"
def vG:aB ["self","why","pairs","thing","truth"] ["self"] (au Bi):=by walk_at "sc"
def Bx:aB ["self","without","thing","things","is_loose"] ["self"] (au Bj):=by walk_at "sc"
def vH:aB ["self","without","used","rest","going","before","unused","maker"] ["self"] (au Bk):=by walk_at "sc"
def By:aB ["self","thing","without","found","place","part"] ["self","thing","without"] (au Bl):=by walk_at "sc"
def Ti:aB ["self","thing","without"] ["self","thing","without"] (au Bm):=by walk_at "sc"
def Tj:aB ["self","part","without"] ["self","part","without"] (au Bo):=by walk_at "sc"
def I0:aB ["self","plain","bars","sheet","rule","number","bar"] ["self","plain","bars","sheet"] (au Bp):=by walk_at "sc"
set_option genInjectivity false
set_option genSizeOf false
structure DfX(K:aU)(mg:MGT)(x:Str)(st:Stmt)(ps:LSt)(e:Addr×c6):Prop where
 F:zY K x x st e.1 e.2
 b:dZ K e.2 ps []
 g:mg x=aa (.ref e.1)
variable{P:ci}{w:World}{K:aU}{mg:MGT}{base:Heap}{x:Str}{st:Stmt}{ps:LSt}
def DfX.pk{CX:CXT}{k:Nat}{e:Addr×c6}{sp:Sp}(X4:DfX K mg x st ps e)(o:cD P w K mg base CX k e.1 e.2 ps sp):Pk P w K mg base CX k x e ps sp:=(o,X4.g,X4.F.kp,X4.b)
structure Db(K:aU)(x q:Str)(st:Stmt)(ps:LSt)(e:Addr×c6):Prop where
 F:Fun K x q st e.1 e.2
 b:dZ K e.2 ps []
def Db.mk2{q:Str}{f:Addr}{fd:c6}(F:Fun K x q st f fd)(b:autoParam (uD x q st ps) Zk):Db K x q st ps (f,fd,):=(F,F.binds b)
structure Wa where
(e_1 e_19 e_35 e_36 e_20 e_13 e_37 e_38 e_21 e_14 e_15 e_7 e_2 e_22 e_52 e_78 e_4 e_0 e_23 e_39 e_40 e_5 e_41 e_24 e_25 e_26 e_27 e_53 e_42 e_73 e_28 e_16 e_54 e_17 e_43 e_29 e_55 e_44 e_6 e_74 e_45 e_56 e_57 e_58 e_59 e_30 e_60 e_75 e_46 e_61 e_62 e_63 e_64 e_31 e_65 e_76 e_47 e_66 e_67 e_68 e_48 e_32 e_49 e_77 e_50 e_69 e_70 e_71 e_51 e_33 e_72 e_11 e_8 e_12 e_34 e_18 e_3 e_9 hY ii h6 ky h9 iW h7 gw hO j0 h8 ir e_10:Addr×c6)
 (cl:Str->Addr)
 (C_Spreading:Addr)
structure Wd(K:aU)(mg:MGT)(a:Wa):Prop where
 e_1:Df K mg "marks" s_1 ["many","some"] a.e_1
 e_19:Df K mg "numbers" zZ ["truths"] a.e_19
 e_35:Df K mg "part_of" z4 ["told"] a.e_35
 e_36:Df K mg "things_of" z5 ["items"] a.e_36
 e_20:Df K mg "worth_in" z6 ["items","entries"] a.e_20
 e_13:Df K mg "worth_not_out" z7 ["items","sheet"] a.e_13
 e_37:Df K mg "worth_of" z8 ["items"] a.e_37
 e_38:Df K mg "outside" z9 ["items","without"] a.e_38
 e_21:Df K mg "heavy" Aa ["items","sheet","lack"] a.e_21
 e_14:Df K mg "weights_of" Ab ["items"] a.e_14
 e_15:Df K mg "with_entry" Ac ["things","sheet","truth"] a.e_15
 e_7:Df K mg "enough" s_7 ["items","things","lack"] a.e_7
 e_2:Df K mg "body_of" s_2 ["rule"] a.e_2
 e_22:Df K mg "guard_of" Ad ["rule"] a.e_22
 e_52:Df K mg "guard_of_bar" Ae ["bar"] a.e_52
 e_78:Df K mg "pressed_by" Ag ["guard","sheet"] a.e_78
 e_4:Df K mg "lost_part" s_4 ["body","sheet","without"] a.e_4
 e_0:DfX K mg "worlds" s_0 ["plain","most"] a.e_0
 e_23:Df K mg "own_why" Ah ["why"] a.e_23
 e_39:Df K mg "needed_first" Ai ["order","needed"] a.e_39
 e_40:Df K mg "_law_cell_at" Aj ["_law_script","_law_k"] a.e_40
 e_5:Df K mg "_law_mixed" s_5 ["_law_cell","_law_k"] a.e_5
 e_41:Df K mg "_law_items" Ak ["_law_cell","_law_k","_law_many"] a.e_41
 e_24:Df K mg "_law_part" Al ["_law_cell","_law_k","_law_many"] a.e_24
 e_25:Df K mg "_law_rule" Am ["_law_cell","_law_many"] a.e_25
 e_26:Df K mg "_law_base" An ["_law_cell","_law_many"] a.e_26
 e_27:Df K mg "_law_plain" Ao ["_law_script","_law_top"] a.e_27
 e_53:Df K mg "_law_part_again" Ap ["_law_part_here"] a.e_53
 e_42:Df K mg "_law_again" Aq ["_law_plain_here"] a.e_42
 e_73:Df K mg "_law_whole" Ar ["_law_found"] a.e_73
 e_28:Df K mg "_law_set" As ["_law_found","_law_many"] a.e_28
 e_16:Df K mg "_law_sum" At ["_law_items_here","_law_some"] a.e_16
 e_54:Df K mg "_law_part_holds" Au ["_law_part_here","_law_rising","_law_world"] a.e_54
 e_17:Df K mg "_law_body_holds" Av ["_law_rule_here","_law_rising","_law_world"] a.e_17
 e_43:Df K mg "_law_broken" Aw ["_law_rule_here","_law_world"] a.e_43
 e_29:Df K mg "_law_built" Ax ["_law_plain_here","_law_world"] a.e_29
 e_55:Df K mg "_law_stands" Ay ["_law_plain_here","_law_world"] a.e_55
 e_44:Df K mg "_law_ahead" Az ["_law_one","_law_other"] a.e_44
 e_6:Df K mg "law" s_6 ["_law_script"] a.e_6
 e_74:Dm K (a.cl "In") "__init__" "In.__init__" AA ["self","thing"] a.e_74
 e_45:Dm K (a.cl "In") "named" "In.named" AB ["self"] a.e_45
 e_56:Dm K (a.cl "In") "wants" "In.wants" AC ["self"] a.e_56
 e_57:Dm K (a.cl "In") "sure" "In.sure" AD ["self","sheet"] a.e_57
 e_58:Dm K (a.cl "In") "sure_by" "In.sure_by" AE ["self","sheet","order"] a.e_58
 e_59:Dm K (a.cl "In") "tips" "In.tips" AF ["self","sheet"] a.e_59
 e_30:Dm K (a.cl "In") "lost" "In.lost" AG ["self","sheet","without"] a.e_30
 e_60:Dm K (a.cl "In") "lost_by" "In.lost_by" AH ["self","sheet","without","order"] a.e_60
 e_75:Dm K (a.cl "Out") "__init__" "Out.__init__" AI ["self","thing"] a.e_75
 e_46:Dm K (a.cl "Out") "named" "Out.named" AJ ["self"] a.e_46
 e_61:Dm K (a.cl "Out") "wants" "Out.wants" AK ["self"] a.e_61
 e_62:Dm K (a.cl "Out") "sure" "Out.sure" AL ["self","sheet"] a.e_62
 e_63:Dm K (a.cl "Out") "sure_by" "Out.sure_by" AM ["self","sheet","order"] a.e_63
 e_64:Dm K (a.cl "Out") "tips" "Out.tips" AN ["self","sheet"] a.e_64
 e_31:Dm K (a.cl "Out") "lost" "Out.lost" AO ["self","sheet","without"] a.e_31
 e_65:Dm K (a.cl "Out") "lost_by" "Out.lost_by" AQ ["self","sheet","without","order"] a.e_65
 e_76:Dm K (a.cl "Least") "__init__" "Least.__init__" AR ["self","bound","items"] a.e_76
 e_47:Dm K (a.cl "Least") "named" "Least.named" AS ["self"] a.e_47
 e_66:Dm K (a.cl "Least") "wants" "Least.wants" AT ["self"] a.e_66
 e_67:Dm K (a.cl "Least") "sure" "Least.sure" AU ["self","sheet"] a.e_67
 e_68:Dm K (a.cl "Least") "sure_by" "Least.sure_by" AV ["self","sheet","order"] a.e_68
 e_48:Dm K (a.cl "Least") "tips" "Least.tips" AW ["self","sheet"] a.e_48
 e_32:Dm K (a.cl "Least") "lost" "Least.lost" AX ["self","sheet","without"] a.e_32
 e_49:Dm K (a.cl "Least") "lost_by" "Least.lost_by" AY ["self","sheet","without","order"] a.e_49
 e_77:Dm K (a.cl "Most") "__init__" "Most.__init__" AZ ["self","bound","items"] a.e_77
 e_50:Dm K (a.cl "Most") "named" "Most.named" A0 ["self"] a.e_50
 e_69:Dm K (a.cl "Most") "wants" "Most.wants" A1 ["self"] a.e_69
 e_70:Dm K (a.cl "Most") "sure" "Most.sure" A3 ["self","sheet"] a.e_70
 e_71:Dm K (a.cl "Most") "sure_by" "Most.sure_by" A4 ["self","sheet","order"] a.e_71
 e_51:Dm K (a.cl "Most") "tips" "Most.tips" A5 ["self","sheet"] a.e_51
 e_33:Dm K (a.cl "Most") "lost" "Most.lost" A6 ["self","sheet","without"] a.e_33
 e_72:Dm K (a.cl "Most") "lost_by" "Most.lost_by" A7 ["self","sheet","without","order"] a.e_72
 e_11:Dm K (a.cl "Seeking") "__init__" "Seeking.__init__" A8 ["self","plain"] a.e_11
 e_8:Dm K (a.cl "Seeking") "another" "Seeking.another" s_8 ["self"] a.e_8
 e_12:Dm K (a.cl "Seeking") "close" "Seeking.close" A9 ["self","why"] a.e_12
 e_34:Dm K (a.cl "Seeking") "place_for" "Seeking.place_for" Ba ["self","bar"] a.e_34
 e_18:Dm K (a.cl "Seeking") "line_to" "Seeking.line_to" Bb ["self","why"] a.e_18
 e_3:Dm K (a.cl "Seeking") "grounds" "Seeking.grounds" s_3 ["self","sheet","why","order"] a.e_3
 e_9:Dm K (a.cl "Seeking") "grounds_of_group" "Seeking.grounds_of_group" s_9 ["self","sheet","group","order"] a.e_9
 hY:Dm K (a.cl "Seeking") "take_guard" "Spreading.take_guard" Bc ["self","why","guard"] a.hY
 ii:Dm K (a.cl "Seeking") "take_bar" "Spreading.take_bar" Bd ["self","bar"] a.ii
 h6:Dm K (a.cl "Seeking") "drop_wider" "Spreading.drop_wider" Be ["self","bar"] a.h6
 ky:Dm K (a.cl "Seeking") "put" "Spreading.put" Bf ["self","thing","truth","why"] a.ky
 h9:Dm K (a.cl "Seeking") "take_back" "Spreading.take_back" Bg ["self","many"] a.h9
 iW:Dm K (a.cl "Seeking") "settle" "Spreading.settle" Bh ["self"] a.iW
 h7:Dm K (a.cl "Seeking") "look_round" "Spreading.look_round" Bi ["self"] a.h7
 gw:Dm K (a.cl "Seeking") "put_loose_out" "Spreading.put_loose_out" Bj ["self"] a.gw
 hO:Dm K (a.cl "Seeking") "loose_marks" "Spreading.loose_marks" Bk ["self"] a.hO
 j0:Dm K (a.cl "Seeking") "kernel" "Spreading.kernel" Bl ["self","thing","without"] a.j0
 h8:Dm K (a.cl "Seeking") "lost_parts" "Spreading.lost_parts" Bm ["self","thing","without"] a.h8
 ir:Dm K (a.cl "Seeking") "keeping" "Spreading.keeping" Bo ["self","part","without"] a.ir
 e_10:Db K "__init__" "Spreading.__init__" Bp ["self","plain","bars","sheet"] a.e_10
 b1_worlds:∃ds,aI [V.int 1] ds/\dZ K a.e_0.2 ["plain","most"] ds
 rs:mg "In"=aa (.ref (a.cl "In"))
 n5:Cls K (a.cl "In")
 p6:Mk K (a.cl "In") a.e_74.1
 mu:cR K (a.cl "In") "thing"
 ri:mg "Out"=aa (.ref (a.cl "Out"))
 nq:Cls K (a.cl "Out")
 pw:Mk K (a.cl "Out") a.e_75.1
 mm:cR K (a.cl "Out") "thing"
 qq:mg "Least"=aa (.ref (a.cl "Least"))
 kT:Cls K (a.cl "Least")
 n7:Mk K (a.cl "Least") a.e_76.1
 lj:cR K (a.cl "Least") "bound"
 lb:cR K (a.cl "Least") "pieces"
 ro:mg "Most"=aa (.ref (a.cl "Most"))
 md:Cls K (a.cl "Most")
 pb:Mk K (a.cl "Most") a.e_77.1
 l0:cR K (a.cl "Most") "bound"
 lk:cR K (a.cl "Most") "pieces"
 o6:mg "Spreading"=aa (.ref a.C_Spreading)
 og:Bas K a.C_Spreading "__init__" a.e_10.1
 pz:mg "Seeking"=aa (.ref (a.cl "Seeking"))
 ad:Cls K (a.cl "Seeking")
 n0:Mk K (a.cl "Seeking") a.e_11.1
 il:cR K (a.cl "Seeking") "sheet"
 ll:cR K (a.cl "Seeking") "steps"
 ld:cR K (a.cl "Seeking") "bars"
 kr:cR K (a.cl "Seeking") "guards"
 gF:cR K (a.cl "Seeking") "watches"
 j3:cR K (a.cl "Seeking") "waiting"
 kv:cR K (a.cl "Seeking") "makers"
 lp:cR K (a.cl "Seeking") "paper"
 kF:cR K (a.cl "Seeking") "count"
 lw:cR K (a.cl "Seeking") "ended"
 qs:mg "all"=ab
 qa:mg "any"=ab
 p4:mg "bool"=ab
 nk:mg "enumerate"=ab
 q4:mg "int"=ab
 kQ:mg "isinstance"=ab
 q5:mg "len"=ab
 nS:mg "list"=ab
 oo:mg "range"=ab
 ny:mg "reversed"=ab
 rc:mg "set"=ab
 nL:mg "sorted"=ab
 p0:mg "sum"=ab
 pj:mg "tuple"=ab
 pq:kU K "bool"
 p5:kU K "int"
 pu:kU K "list"
 oD:kU K "tuple"
set_option genInjectivity true
set_option genSizeOf true
nonrec abbrev qD(P:ci)(w:World)(K:aU)(mg:MGT)(base:Heap)(a:Wa)(k:Nat)(x:Str)(e:Addr×c6)(ps:LSt)(m:LD->OD):Prop:=Pk P w K mg base CX0 k x e ps (spD (K,a.cl) ps.length m)
nonrec abbrev qO(P:ci)(w:World)(K:aU)(mg:MGT)(base:Heap)(a:Wa)(k:Nat)(x:Str)(e:Addr×c6)(ps:LSt)(m:LD->OLD):Prop:=Pk P w K mg base CX0 k x e ps (spO (K,a.cl) ps.length m)
nonrec abbrev gU(P:ci)(w:World)(K:aU)(mg:MGT)(base:Heap)(a:Wa)(k:Nat)(c x:Str)(e:Addr×c6)(ps:LSt)(m:MTf):Prop:=Pm P w K mg base CX0 k (a.cl c) x e ps (iB (K,a.cl) ps.length m)
nonrec abbrev qPD(P:ci)(w:World)(K:aU)(mg:MGT)(base:Heap)(a:Wa)(k:Nat)(c x:Str)(e:Addr×c6)(ps:LSt)(m:LD->OD):Prop:=Pm P w K mg base CX0 k (a.cl c) x e ps (spD (K,a.cl) ps.length m)
nonrec abbrev qPO(P:ci)(w:World)(K:aU)(mg:MGT)(base:Heap)(a:Wa)(k:Nat)(c x:Str)(e:Addr×c6)(ps:LSt)(m:LD->OLD):Prop:=Pm P w K mg base CX0 k (a.cl c) x e ps (spO (K,a.cl) ps.length m)
def Bz:MF3:=
 (ai (aY (mB (m2 dEq (aw cK (ag (ae 0) nZ)) (kI 2))) (fj 0) bz)
  (aT (bC (ag (mIx (ar 0) (kI 0)) (ag (mIx (ar 0) (kI 1)) (ag (aR (aW (mIx (ar 0) (kI 2)))) nZ))))))
def BA:=aL 1 Bz
def BB:MF3:=
 (ai (dq 1 nZ)
  (ai (bR (aW (mIx (ar 0) (kI 1))) (dk (bB (ay 2) (bB (ay 3) (bB (ay 4) dD)))) (dE 1 (bC (ag (ae 2) (ag (ae 3) (ag (aR (bu 1 [] (aW (ae 4)) (ay 0) kY (aw BA (ag (ae 0) nZ)))) nZ))))))
  (fM 1 (aT (bC (ag (mIx (ar 0) (kI 0)) (ag (ae 1) nZ)))))))
def BC:=aL 5 BB
def BD:MF3:=
 (ai (bR (aW (aR (ka (aR (jH (ae 0) (ae 1)))))) (ay 2) (aY (mB (m2 dNe (m2 dIn (ae 2) (ae 0)) (m2 dIn (ae 2) (ae 1)))) (aT (m2 dIn (ae 2) (ae 0))) bz))
  (aT (kBl af)))
def BE:=aL 3 BD
def BF:MF3:=
 (ai (aY (mB (m2 dLt (ae 1) (aw cK (ag (ae 0) nZ)))) (aT (mIx (ar 0) (ae 1))) bz)
  (aT (kI 0)))
def vI:=aL 2 BF
def vJ:MF3:=
 (ai (dq 2 nZ)
  (ai (bR (iO (ag (ae 1) nZ)) (ay 3) (ai (aY (mB (m2 dEq (m2 cb (ae 0) (kI 4)) (kI 1))) (dE 2 (bC (ag (kSt "make") (ag (ae 3) (ag (aR (ag (bC (ag (kSt "in") (ag (m2 cb (m2 eK (ae 3) (kI 1)) (ae 1)) nZ))) nZ)) nZ))))) bz)
  (ai (aY (mB (m2 dEq (m2 cb (ae 0) (kI 4)) (kI 2))) (dE 2 (bC (ag (kSt "make") (ag (ae 3) (ag (aR (ag (bC (ag (kSt "out") (ag (m2 cb (m2 eK (ae 3) (kI 1)) (ae 1)) nZ))) nZ)) nZ))))) bz)
  (aY (mB (m2 dEq (m2 cb (ae 0) (kI 4)) (kI 3))) (dE 2 (bC (ag (kSt "may") (ag (ae 3) (ag (aR nZ) nZ))))) bz))))
  (fj 2)))
def BG:=jA 4 vJ
def b_5:MF3:=
 (ai (a9 2 (mIx (ag (kI 2147483647) (ag (kI 1000000007) (ag (kI 998244353) (ag (kI 1000000009) nZ)))) (m2 cb (ae 1) (kI 4))))
  (ai (a9 3 (m2 cb (m2 l8 (m2 eK (m2 cb (ae 0) (m2 rK (kI 10) (kI 18))) (m2 l8 (kI 15485863) (m2 eK (ae 1) (kI 1)))) (kI 48271)) (ae 2)))
  (aT (m2 cb (m2 l8 (ae 3) (ae 3)) (kI 1000003)))))
def m_5:=aL 4 b_5
def BH:MF3:=
 (ai (dq 3 nZ)
  (ai (bR (iO (ag (m2 cb (aw m_5 (ag (ae 0) (ag (ae 1) nZ))) (kI 4)) nZ)) (ay 4) (ai (a9 5 (aw m_5 (ag (ae 0) (ag (m2 eK (m2 eK (ae 1) (kI 1)) (ae 4)) nZ))))
  (ai (a9 6 (mIx (ag (kI 1) (ag (kI 1) (ag (m2 cb (m2 kP (ae 5) (kI 8)) (kI 4)) (ag (m2 cb (ae 0) (m2 rK (kI 10) (kI 60))) nZ)))) (m2 cb (m2 kP (ae 5) (kI 32)) (kI 4))))
  (dE 3 (bC (ag (m2 cb (m2 kP (ae 5) (kI 128)) (ae 2)) (ag (ae 6) nZ)))))))
  (fj 3)))
def BI:=aL 7 BH
def BJ:MF3:=
 (ai (a9 3 (aw m_5 (ag (ae 0) (ag (ae 1) nZ))))
  (ai (aY (mB (m2 dLt (m2 cb (ae 3) (kI 8)) (kI 5))) (aT (bC (ag (mIx (ag (kSt "in") (ag (kSt "in") (ag (kSt "out") (ag (kSt "out") (ag (kSt "in") nZ))))) (m2 cb (ae 3) (kI 8))) (ag (m2 cb (m2 kP (ae 3) (kI 8)) (ae 2)) nZ)))) bz)
  (ai (a9 4 (aw BI (ag (ae 0) (ag (m2 eK (ae 1) (kI 1)) (ag (ae 2) nZ)))))
  (ai (a9 5 (aw m_5 (ag (ae 0) (ag (m2 eK (ae 1) (kI 5)) nZ))))
  (ai (aY (mB (m2 dEq (m2 cb (ae 5) (kI 4)) (kI 0))) (aT (bC (ag (mIx (ag (kSt "least") (ag (kSt "most") nZ)) (m2 cb (ae 3) (kI 2))) (ag (m2 l8 (m2 cb (ae 0) (m2 rK (kI 10) (kI 60))) (m2 kO (m2 cb (m2 kP (ae 5) (kI 4)) (kI 3)) (kI 1))) (ag (ae 4) nZ))))) bz)
  (aT (bC (ag (mIx (ag (kSt "least") (ag (kSt "most") nZ)) (m2 cb (ae 3) (kI 2))) (ag (m2 kO (m2 cb (m2 kP (ae 5) (kI 4)) (kI 5)) (kI 1)) (ag (ae 4) nZ))))))))))
def vK:=aL 6 BJ
def BK:MF3:=
 (ai (a9 2 (mIx (ag (kSt "make") (ag (kSt "make") (ag (kSt "make") (ag (kSt "make") (ag (kSt "may") (ag (kSt "may") (ag (kSt "may") (ag (kSt "never") nZ)))))))) (m2 cb (aw m_5 (ag (ae 0) (ag (kI 0) nZ))) (kI 8))))
  (ai (a9 3 (m2 cb (aw m_5 (ag (ae 0) (ag (kI 1) nZ))) (kI 4)))
  (ai (aY (da (mB (m2 dEq (ae 2) (kSt "never"))) (da (mB (m2 dEq (ae 3) (kI 0))) (mB (m2 dGt (m2 cb (aw m_5 (ag (ae 0) (ag (kI 2) nZ))) (kI 8)) (kI 0))))) (a9 3 (kI 2)) bz)
  (ai (a9 4 (aR (bu 1 [0,1] (iO (ag (ae 3) nZ)) (ay 0) kY (aw vK (ag (ae 1) (ag (m2 eK (kI 3) (m2 l8 (kI 6) (ae 0))) (ag (ae 2) nZ)))))))
  (ai (aY (mB (m2 dEq (ae 2) (kSt "never"))) (aT (bC (ag (ae 2) (ag kN (ag (ae 4) nZ))))) bz)
  (aT (bC (ag (ae 2) (ag (m2 cb (aw m_5 (ag (ae 0) (ag (kI 2) nZ))) (ae 1)) (ag (ae 4) nZ))))))))))
def BL:=aL 5 BK
def BM:MF3:=
 (ai (a9 2 (aw vI (ag (ae 0) (ag (kI 0) nZ))))
  (ai (a9 3 (m2 cb (ae 2) (ae 1)))
  (ai (dq 4 (k5 BG (ag (m2 kP (ae 2) (ae 1)) (ag (ae 3) nZ))))
  (ai (bR (aW (aR (mSl (ae 0) (mPt (kI 1)) (mPt (m2 eK (kI 1) (mIx (ag (kI 60) (ag (kI 60) (ag (kI 40) (ag (kI 24) (ag (kI 10) (ag (kI 5) nZ)))))) (ae 3))))))) (ay 5) (aY (mB (m2 dEq (ae 3) (kI 0))) (dE 4 (bC (ag (kSt "never") (ag kN (ag (aR (ag (bC (ag (kSt "most") (ag (m2 kO (m2 cb (ae 5) (kI 3)) (kI 2)) (ag (aR nZ) nZ)))) nZ)) nZ))))) (dE 4 (aw BL (ag (ae 5) (ag (ae 3) nZ))))))
  (fM 4 (aT (bC (ag (ae 3) (ag (ae 4) nZ)))))))))
def vL:=aL 6 BM
def BN:MF3:=
 (aT (j6 (jy "int" (ae 0)) (j7 (jy "bool" (ae 0)))))
def Ja:=aL 1 BN
def BO:MF3:=
 (ai (aY (dN (bx (jy "list" (ae 0)))) (aT (kBl af)) bz)
  (ai (a9 2 (m1 pL (kI 1)))
  (ai (bR (aW (ae 0)) (ay 3) (ai (aY (mOr (dN (bx (aw Ja (ag (ae 3) nZ)))) (dN (mB (l7 dLt dLt (ae 2) (ae 3) (ae 1))))) (aT (kBl af)) bz)
  (a9 2 (ae 3))))
  (aT (kBl ac)))))
def BP:=aL 4 BO
def BQ:MF3:=
 (ai (a9 2 (kI 0))
  (ai (bR (aW (ae 0)) (dk (bB (ay 3) (bB (ay 4) dD))) (aY (mB (m2 dIn (ae 3) (ae 1))) (ma 2 (mX (ae 4))) bz))
  (fj 2)))
def vM:=aL 5 BQ
def BR:MF3:=
 (ai (aY (mB (m2 dEq (mIx (ar 0) (kI 0)) (kSt "in"))) (aT (m2 dIn (mIx (ar 0) (kI 1)) (ae 1))) bz)
  (ai (aY (mB (m2 dEq (mIx (ar 0) (kI 0)) (kSt "out"))) (aT (m2 jw (mIx (ar 0) (kI 1)) (ae 2))) bz)
  (ai (aY (mB (m2 dEq (mIx (ar 0) (kI 0)) (kSt "least"))) (aT (m2 dGe (aw vM (ag (mIx (ar 0) (kI 2)) (ag (ae 1) nZ))) (mIx (ar 0) (kI 1)))) bz)
  (aT (m2 dLe (aw vM (ag (mIx (ar 0) (kI 2)) (ag (ae 2) nZ))) (mIx (ar 0) (kI 1)))))))
def BS:=aL 3 BR
def BU:MF3:=
 (aT (aw u9 (ag (aR (bu 1 [1,2] (aW (mIx (ar 0) (kI 2))) (ay 0) kY (aw BS (ag (ae 0) (ag (ae 1) (ag (ae 2) nZ)))))) nZ)))
def sG:=aL 3 BU
def BV:MF3:=
 (ai (aY (mOr (mB (m2 dEq (mIx (ar 0) (kI 0)) (kSt "may"))) (dN (bx (aw sG (ag (ae 0) (ag (ae 1) (ag (ae 1) nZ))))))) (aT (kBl af)) bz)
  (aT (vOr (m2 dEq (mIx (ar 0) (kI 0)) (kSt "never")) (m2 jw (mIx (ar 0) (kI 1)) (ae 1)))))
def vN:=aL 2 BV
def BW:MF3:=
 (ai (dq 2 nZ)
  (ai (a9 3 (kBl ac))
  (ai (dB (bx (ae 3)) (ai (a9 3 (kBl af))
  (bR (aW (mIx (ar 0) (kI 1))) (ay 4) (aY (da (mB (m2 dNe (mIx (ar 4) (kI 0)) (kSt "never"))) (da (mB (m2 dIn (mIx (ar 4) (kI 1)) (ae 1))) (mB (m2 jw (mIx (ar 4) (kI 1)) (cT 2))))) (aY (bx (nJ sG (ag (ae 4) (ag (cT 2) (ag (ae 1) nZ))))) (ai (dE 2 (mIx (ar 4) (kI 1)))
  (a9 3 (kBl ac))) bz) bz))) 1000000000)
  (fM 2 (cx (ka (ae 2)))))))
def vO:=aL 5 BW
def BX:MF3:=
 (ai (aY (bx (aw lV (ag (aR (bu 1 [1] (aW (mIx (ar 0) (kI 1))) (ay 0) kY (aw vN (ag (ae 0) (ag (ae 1) nZ))))) nZ))) (aT (kBl af)) bz)
  (aT (m2 dEq (aw vO (ag (ae 0) (ag (ae 1) nZ))) (ae 1))))
def BY:=aL 2 BX
def BZ:MF3:=
 (λM=>if 2 < Z M then ai (qm 2 3 (bx (ae 1)) (iA (ba "Seeking" "watches" (aJ 0)) (mIx (ar 1) (kI 0))) (aW (ae 1)) 1 [3,0] (ay 0) (mB (m2 f6 (ae 0) (aR (iA (ba "Seeking" "watches" (aJ 2)) (ae 1))))) (ae 0))
  (fM 2 (bR (aW (ae 2)) (ay 4) (aY (mB (m2 dEq (mIx (ar 4) (kI 0)) (kSt "bar"))) (bR (aW (mIx (pC (ba "Seeking" "bars" (aJ 0))) (mIx (ar 4) (kI 1)))) (ay 3) (qj 0 (lg (ba "Seeking" "watches" (aJ 0)) (ae 3)) (ae 4))) bz))) M else ab)
def B0:MTf:=eE 5 BZ
def B1:MF3:=
 (cx (ag (bg "In" "thing" (ae 0)) nZ))
def vP:=aL 1 B1
def B2:MF3:=
 (aT (kBl ac))
def B3:=aL 1 B2
def B4:MF3:=
 (cx (nN (aR (bu 2 [] (aW (ae 0)) (dk (bB (ay 0) (bB (ay 1) dD))) kY (ae 0)))))
def vQ:=aL 1 B4
def B5:MF3:=
 (aT (aw vQ (ag (bg "Least" "pieces" (ae 0)) nZ)))
def vR:=aL 1 B5
def B6:MF3:=
 (aT (kBl ac))
def B7:=aL 1 B6
def B8:MF3:=
 (aT (aw vQ (ag (bg "Most" "pieces" (ae 0)) nZ)))
def vS:=aL 1 B8
def B9:MF3:=
 (aT (kBl af))
def Ca:=aL 1 B9
def Cb:MF3:=
 (cx (ag (bg "Out" "thing" (ae 0)) nZ))
def vT:=aL 1 Cb
def Cc:MF3:=
 (aT (kBl af))
def Cd:=aL 1 Cc
def Ce:MF3:=
 (ai (qh 0 (ba "Seeking" "guards" (aJ 0)) (ae 1) (ae 2))
  (ai (bR (aW (ae 2)) (ay 3) (bR (aW (bi (aP "In" "named" vP (ae 3) λ_=>aa []) (bi (aP "Out" "named" vT (ae 3) λ_=>aa []) (bi (aP "Least" "named" vR (ae 3) λ_=>aa []) (aP "Most" "named" vS (ae 3) λ_=>aa []))))) (ay 4) (qi 0 1 (ba "Seeking" "watches" (aJ 0)) (bC (ag (ae 4) (ag (bi (aP "In" "wants" B3 (ae 3) λ_=>aa []) (bi (aP "Out" "wants" Cd (ae 3) λ_=>aa []) (bi (aP "Least" "wants" B7 (ae 3) λ_=>aa []) (aP "Most" "wants" Ca (ae 3) λ_=>aa [])))) nZ))))))
  (lh 0 (ba "Seeking" "waiting" (aJ 0)) (ae 1))))
def sH:MTf:=eE 5 Ce
abbrev Cf(as:LD):Option (LSt×LD):=rS 2 [("thing",(ae 1),)] as
abbrev vU(as:LD):Option (LSt×LD):=rS 2 [("thing",(ae 1),)] as
def Cg:MF3:=
 (cx (bu 2 [] (aW (ae 0)) (dk (bB (ay 0) (bB (ay 1) dD))) kY (vIf (bx (ae 1)) (iS "In" Cf (ag (ae 0) nZ)) (iS "Out" vU (ag (ae 0) nZ)))))
def Ch:=aL 1 Cg
def Ci:MF3:=
 (ai (dM (cM 0 "Seeking" "drop_wider" B0 (bP (mX (ae 1)) cF)))
  (ai (a9 2 (bC (ag (kSt "bar") (ag (aw cK (ag (pB (ba "Seeking" "bars" (aJ 0))) nZ)) nZ))))
  (ai (lh 0 (ba "Seeking" "bars" (aJ 0)) (ae 1))
  (dM (cM 0 "Seeking" "take_guard" sH (bP (mX (ae 2)) (bP (mX (aw Ch (ag (ae 1) nZ))) cF)))))))
def vV:MTf:=eE 3 Ci
abbrev Cj(as:LD):Option (LSt×LD):=rS 3 [("bound",(ae 1),),("pieces",(aR (ar 2)),)] as
abbrev Jb(as:LD):Option (LSt×LD):=rS 3 [("bound",(ae 1),),("pieces",(aR (ar 2)),)] as
def Ck:MF3:=
 (ai (a9 1 (mIx (ar 0) (kI 0)))
  (ai (aY (mB (m2 dEq (ae 1) (kSt "in"))) (aT (iS "In" Cf (ag (mIx (ar 0) (kI 1)) nZ))) bz)
  (ai (aY (mB (m2 dEq (ae 1) (kSt "out"))) (aT (iS "Out" vU (ag (mIx (ar 0) (kI 1)) nZ))) bz)
  (ai (aY (mB (m2 dEq (ae 1) (kSt "least"))) (aT (iS "Least" Cj (ag (mIx (ar 0) (kI 1)) (ag (mIx (ar 0) (kI 2)) nZ)))) bz)
  (aT (iS "Most" Jb (ag (mIx (ar 0) (kI 1)) (ag (mIx (ar 0) (kI 2)) nZ))))))))
def Cm:=aL 2 Ck
def b_2:MF3:=
 (cx (bu 1 [] (aW (mIx (ar 0) (kI 2))) (ay 0) kY (aw Cm (ag (ae 0) nZ))))
def m_2:=aL 1 b_2
def o_2:=jA 1 b_2
def Cn:MF3:=
 (ai (aY (mB (m2 dEq (mIx (ar 0) (kI 0)) (kSt "may"))) (cx (ag (iS "Least" Cj (ag (kI 1) (ag (aR nZ) nZ))) nZ)) bz)
  (ai (dq 1 (k5 o_2 (ag (ae 0) nZ)))
  (ai (aY (mB (m2 dEq (mIx (ar 0) (kI 0)) (kSt "make"))) (dE 1 (iS "Out" vU (ag (mIx (ar 0) (kI 1)) nZ))) bz)
  (fj 1))))
def vW:=aL 2 Cn
def Co:MF3:=
 (ai (eR 0 "Seeking" "sheet" (aJ 0) (iz (ar 3)))
  (ai (eR 0 "Seeking" "steps" (aJ 0) (iz nZ))
  (ai (eR 0 "Seeking" "bars" (aJ 0) (iz nZ))
  (ai (eR 0 "Seeking" "guards" (aJ 0) (λ_=>aa (.dT [] [])))
  (ai (eR 0 "Seeking" "watches" (aJ 0) (λ_=>aa (.dT [] [])))
  (ai (eR 0 "Seeking" "waiting" (aJ 0) (iz nZ))
  (ai (eR 0 "Seeking" "makers" (aJ 0) (jJ (aR (bu 1 [] (aW (mIx (ar 1) (kI 1))) (ay 0) (mB (m2 fY (mIx (ar 0) (kI 1)) kN)) (bC (ag (mIx (ar 0) (kI 1)) (ag (aw m_2 (ag (ae 0) nZ)) nZ)))))))
  (ai (bR (jD (ag (mIx (ar 1) (kI 1)) nZ)) (dk (bB (ay 5) (bB (ay 4) dD))) (dM (cM 0 "Seeking" "take_guard" sH (bP (mX (bC (ag (kSt "rule") (ag (ae 5) nZ)))) (bP (mX (aw vW (ag (ae 4) nZ))) cF)))))
  (bR (aW (ae 2)) (ay 6) (dM (cM 0 "Seeking" "take_bar" vV (bP (mX (ae 6)) cF))))))))))))
def Cp:MTf:=eE 7 Co
def Cq:MF3:=
 (ai (dM (mf 0 Cp (bP (mX (ae 1)) (bP (mX (aR nZ)) (bP (mX (aR (bu 1 [] (iO (ag (mIx (ar 1) (kI 0)) nZ)) (ay 0) kY kN))) cF)))))
  (ai (eR 0 "Seeking" "paper" (aJ 0) (iz nZ))
  (ai (eR 0 "Seeking" "count" (aJ 0) (jJ (kI 0)))
  (eR 0 "Seeking" "ended" (aJ 0) (jJ (kBl af))))))
def Cr:MTf:=eE 2 Cq
def Cs:MF3:=
 (cx (ag (bg "In" "thing" (ae 0)) nZ))
def Ct:=aL 3 Cs
def Cu:MF3:=
 (ai (pX 1)
  (ai (bR (aW (ae 0)) (dk (bB (ay 2) (bB (ay 3) dD))) (jF 1 (ae 2) (m2 eK (qd 1 (ae 2) (kI 0)) (ae 3))))
  (qe 1 (aT (ae 1)))))
def vX:=aL 4 Cu
def b_7:MF3:=
 (ai (a9 3 (aw vX (ag (ae 0) nZ)))
  (ai (dq 4 nZ)
  (ai (a9 5 (ae 2))
  (ai (bR (aW (ae 1)) (ay 6) (ai (a9 7 (sn (ae 3) (ae 6) (kI 0)))
  (aY (da (mB (m2 dGt (ae 5) (kI 0))) (mB (m2 dGt (ae 7) (kI 0)))) (ai (dE 4 (ae 6))
  (sC 5 (ae 7))) bz)))
  (fj 4)))))
def m_7:=aL 8 b_7
def Cv:MF3:=
 (cx (bu 1 [2,1] (aW (ae 0)) (ay 0) (mB (m2 dEq (mIx (ar 2) (ae 0)) (ae 1))) (ae 0)))
def qp:=aL 3 Cv
def Cw:MF3:=
 (aT (aw m_7 (ag (bg "Least" "pieces" (ae 0)) (ag (aw qp (ag (ae 2) (ag (ae 1) (ag (kBl ac) nZ)))) (ag (bg "Least" "bound" (ae 0)) nZ)))))
def Cy:=aL 3 Cw
def Cz:MF3:=
 (aT (aw jx (ag (aR (bu 2 [] (aW (ae 0)) (dk (bB (ay 0) (bB (ay 1) dD))) kY (ae 1))) nZ)))
def vY:=aL 1 Cz
def CA:MF3:=
 (aT (aw m_7 (ag (bg "Most" "pieces" (ae 0)) (ag (aw qp (ag (ae 2) (ag (ae 1) (ag (kBl af) nZ)))) (ag (m2 kO (aw vY (ag (bg "Most" "pieces" (ae 0)) nZ)) (bg "Most" "bound" (ae 0))) nZ)))))
def CB:=aL 3 CA
def CC:MF3:=
 (cx (ag (bg "Out" "thing" (ae 0)) nZ))
def CD:=aL 3 CC
def CF:MF3:=
 (aT (vIf (bx (mIx (ar 2) (bg "In" "thing" (ae 0)))) (aR nZ) (aR (ag (bg "In" "thing" (ae 0)) nZ))))
def CG:=aL 4 CF
def CH:MF3:=
 (cx (bu 1 [1] (aW (ae 0)) (ay 0) (dN (bx (mIx (ar 1) (mIx (ar 0) (kI 0))))) (ae 0)))
def vZ:=aL 2 CH
def CI:MF3:=
 (ai (a9 4 (aw vZ (ag (bg "Least" "pieces" (ae 0)) (ag (ae 2) nZ))))
  (aT (aw m_7 (ag (ae 4) (ag (aw qp (ag (ae 3) (ag (ae 1) (ag (kBl af) nZ)))) (ag (m2 eK (m2 kO (aw vY (ag (ae 4) nZ)) (bg "Least" "bound" (ae 0))) (kI 1)) nZ))))))
def CJ:=aL 5 CI
def CK:MF3:=
 (aT (aw m_7 (ag (bg "Most" "pieces" (ae 0)) (ag (aw qp (ag (ae 3) (ag (ae 1) (ag (kBl ac) nZ)))) (ag (m2 eK (bg "Most" "bound" (ae 0)) (kI 1)) nZ)))))
def CL:=aL 4 CK
def CM:MF3:=
 (cx (ag (bg "Out" "thing" (ae 0)) nZ))
def CN:=aL 4 CM
def CO:MF3:=
 (aT (vOr (m2 dIs (mIx (ar 1) (bg "In" "thing" (ae 0))) (kBl af)) (mIx (ar 2) (bg "In" "thing" (ae 0)))))
def sI:=aL 3 CO
def CP:MF3:=
 (aT (aw jx (ag (aR (bu 2 [1] (aW (ae 0)) (dk (bB (ay 0) (bB (ay 1) dD))) (mB (m2 fY (mIx (ar 2) (ae 0)) (kBl af))) (ae 1))) nZ)))
def qr:=aL 2 CP
def CQ:MF3:=
 (aT (m2 dLt (aw qr (ag (aw vZ (ag (bg "Least" "pieces" (ae 0)) (ag (ae 2) nZ))) (ag (ae 1) nZ))) (bg "Least" "bound" (ae 0))))
def sJ:=aL 3 CQ
def CS:MF3:=
 (aT (aw jx (ag (aR (bu 2 [1] (aW (ae 0)) (dk (bB (ay 0) (bB (ay 1) dD))) (mB (m2 dIs (mIx (ar 2) (ae 0)) (kBl ac))) (ae 1))) nZ)))
def sK:=aL 2 CS
def CT:MF3:=
 (aT (m2 dGt (aw sK (ag (bg "Most" "pieces" (ae 0)) (ag (ae 1) nZ))) (bg "Most" "bound" (ae 0))))
def sL:=aL 3 CT
def CU:MF3:=
 (aT (m2 dIs (mIx (ar 1) (bg "Out" "thing" (ae 0))) (kBl ac)))
def sM:=aL 3 CU
def b_4:MF3:=
 (ai (bR (aW (ae 0)) (ay 3) (aY (bx (bi (aP "In" "lost" sI (ae 3) (ag (ae 1) (ag (ae 2) nZ))) (bi (aP "Out" "lost" sM (ae 3) (ag (ae 1) (ag (ae 2) nZ))) (bi (aP "Least" "lost" sJ (ae 3) (ag (ae 1) (ag (ae 2) nZ))) (aP "Most" "lost" sL (ae 3) (ag (ae 1) (ag (ae 2) nZ))))))) (fj 3) bz))
  (aT kN))
def m_4:=aL 4 b_4
def b_1:MF3:=
 (ai (pX 2)
  (ai (bR (aW (ae 1)) (ay 3) (jF 2 (ae 3) (kBl ac)))
  (fM 2 (cx (bu 1 [2] (iO (ag (ae 0) nZ)) (ay 0) kY (m2 rZ (ae 0) (ae 1)))))))
def m_1:=aL 4 b_1
def o_1:=jA 4 b_1
def b_9:MF3:=
 (ai (a9 4 (aw m_1 (ag (aw cK (ag (ae 1) nZ)) (ag (ae 2) nZ))))
  (ai (dq 5 (mSl (aR (bu 1 [4,1] (aW (ae 3)) (ay 0) (da (bx (mIx (ar 1) (ae 0))) (mB (m2 dIs (mIx (ar 2) (ae 0)) (kBl ac)))) (ae 0))) (λ_=>aa ab) (mPt (kI 1))))
  (ai (bR (aW (bg "Seeking" "makers" (ae 0))) (dk (bB (ay 6) (bB (ay 7) dD))) (aY (bx (mIx (ar 4) (ae 6))) (k4 5 (kZ (bi (aP "In" "lost_by" CG (aw m_4 (ag (ae 7) (ag (ae 1) (ag (ae 4) nZ)))) (ag (ae 1) (ag (ae 4) (ag (ae 3) nZ)))) (bi (aP "Out" "lost_by" CN (aw m_4 (ag (ae 7) (ag (ae 1) (ag (ae 4) nZ)))) (ag (ae 1) (ag (ae 4) (ag (ae 3) nZ)))) (bi (aP "Least" "lost_by" CJ (aw m_4 (ag (ae 7) (ag (ae 1) (ag (ae 4) nZ)))) (ag (ae 1) (ag (ae 4) (ag (ae 3) nZ)))) (aP "Most" "lost_by" CL (aw m_4 (ag (ae 7) (ag (ae 1) (ag (ae 4) nZ)))) (ag (ae 1) (ag (ae 4) (ag (ae 3) nZ))))))))) bz))
  (fj 5))))
def m_9:=aL 8 b_9
def o_9:=jA 8 b_9
def b_3:MF3:=
 (ai (aY (mB (m2 dEq (mIx (ar 2) (kI 0)) (kSt "world"))) (cx (nW (ag (aw cK (ag (ae 1) nZ)) nZ))) bz)
  (ai (aY (mB (m2 dEq (mIx (ar 2) (kI 0)) (kSt "group"))) (cx (iC "Seeking" "grounds_of_group" o_9 (ae 0) (ag (ae 1) (ag (mIx (ar 2) (kI 1)) (ag (ae 3) nZ))))) bz)
  (ai (dq 4 nZ)
  (ai (bR (aW (m2 sD (bg "Seeking" "guards" (ae 0)) (ae 2))) (ay 5) (k4 4 (kZ (bi (aP "In" "sure_by" Ct (ae 5) (ag (ae 1) (ag (ae 3) nZ))) (bi (aP "Out" "sure_by" CD (ae 5) (ag (ae 1) (ag (ae 3) nZ))) (bi (aP "Least" "sure_by" Cy (ae 5) (ag (ae 1) (ag (ae 3) nZ))) (aP "Most" "sure_by" CB (ae 5) (ag (ae 1) (ag (ae 3) nZ)))))))))
  (fj 4)))))
def m_3:=aL 6 b_3
def o_3:=jA 6 b_3
def CV:MF3:=
 (cx (jH (aR (bu 1 [1] (aW (ae 0)) (ay 0) (bx (mIx (ar 1) (ae 0))) (ae 0))) (aR (bu 1 [1] (aW (ae 0)) (ay 0) (dN (bx (mIx (ar 1) (ae 0)))) (ae 0)))))
def v8:=aL 2 CV
def CW:MF3:=
 (aT (vIf (mB (m2 dEq (mIx (ar 0) (kI 0)) (kSt "group"))) (bC (ag (mIx (ar 0) (kI 0)) (ag (aR (aW (mIx (ar 0) (kI 1)))) nZ))) (ae 0)))
def sN:=aL 1 CW
def CY:MF3:=
 (ai (dq 2 (pC (ba "Seeking" "sheet" (aJ 0))))
  (ai (a9 5 (aR (bu 2 [] (pC (ba "Seeking" "steps" (aJ 0))) (dk (bB (ay 0) (bB (ay 1) dD))) kY (mIx (ar 0) (kI 0)))))
  (ai (dq 6 (k5 o_1 (ag (aw cK (ag (cT 2) nZ)) (ag (aR (iC "Seeking" "grounds" o_3 (cT 0) (ag (cT 2) (ag (ae 1) (ag (ae 5) nZ))))) nZ))))
  (ai (dq 7 nZ)
  (ai (dq 8 (ag (bC (ag kN (ag (aw sN (ag (ae 1) nZ)) nZ))) nZ))
  (ai (n9 0 "Seeking" "steps" (bR (l9 (ag (pD (ba "Seeking" "steps" (aJ 0))) nZ)) (dk (bB (ay 3) (bB (ay 4) dD))) (ai (a9 9 (mIx (ar 3) (kI 0)))
  (ai (aY (da (bx (mIx (ar 6) (ae 9))) (mB (m2 dIs (ae 4) kN))) (dE 7 (ae 3)) (aY (bx (mIx (ar 6) (ae 9))) (ai (dE 8 (bC (ag (ae 3) (ag (aw sN (ag (ae 4) nZ)) nZ))))
  (ai (gy 2 (ae 9) (j7 (mIx (ar 3) (kI 1))))
  (bR (aW (aR (iC "Seeking" "grounds" o_3 (cT 0) (ag (cT 2) (ag (ae 4) (ag (aw v8 (ag (ae 5) (ag (cT 6) nZ))) nZ)))))) (ay 10) (gy 6 (ae 10) (kBl ac))))) bz))
  (gy 2 (ae 9) kN)))))
  (eM (bC (ag (aR (qc 7)) (ag (aR (qc 8)) nZ))))))))))
def CZ:MTf:=eE 11 CY
def C0:MF3:=
 (ai (a9 2 (aR (bu 2 [] (jD (ag (pD (ba "Seeking" "steps" (aJ 0))) nZ)) (dk (bB (ay 0) (bB (ay 1) dD))) (mB (m2 dIs (mIx (ar 1) (kI 1)) kN)) (ae 0))))
  (ai (a9 3 (aR (bu 1 [0] (aW (ae 2)) (ay 0) kY (mIx (aW (mIx (aW (pD (ba "Seeking" "steps" (aJ 1)))) (ae 0))) (kI 0)))))
  (eM (mIx (ar 2) (vIf (mB (m2 dEq (aw cK (ag (ae 1) nZ)) (kI 1))) (kI 0) (m2 eK (m2 gT (ae 3) (mIx (ar 1) (m1 pL (kI 2)))) (kI 1)))))))
def C3:MTf:=eE 4 C0
def C4:MF3:=
 (ai (bR (aW (aR (mSl (pD (ba "Seeking" "steps" (aJ 0))) (mPt (ae 1)) (λ_=>aa ab)))) (dk (bB (ay 2) (bB (ay 3) dD))) (n4 0 (ba "Seeking" "sheet" (aJ 0)) (mIx (ar 2) (kI 0)) kN))
  (ai (eR 0 "Seeking" "steps" (aJ 0) (iz (mSl (pD (ba "Seeking" "steps" (aJ 0))) (λ_=>aa ab) (mPt (ae 1)))))
  (eR 0 "Seeking" "waiting" (aJ 0) (iz nZ))))
def C5:MTf:=eE 4 C4
def C6:MF3:=
 (ai (f9 2 (cM 0 "Seeking" "line_to" CZ (bP (mX (ae 1)) cF)))
  (ai (lh 0 (ba "Seeking" "paper" (aJ 0)) (ae 2))
  (aY (bx (mIx (ar 2) (kI 0))) (ai (dM (cM 0 "Seeking" "take_back" C5 (bP (cM 0 "Seeking" "place_for" C3 (bP (mX (mIx (ar 2) (kI 0))) cF)) cF)))
  (dM (cM 0 "Seeking" "take_bar" vV (bP (mX (mIx (ar 2) (kI 0))) cF)))) (eR 0 "Seeking" "ended" (aJ 0) (jJ (kBl ac))))))
def qt:MTf:=eE 3 C6
def C7:MF3:=
 (ai (n4 0 (ba "Seeking" "sheet" (aJ 0)) (ae 1) (ae 2))
  (ai (lh 0 (ba "Seeking" "steps" (aJ 0)) (bC (ag (bC (ag (ae 1) (ag (ae 2) nZ))) (ag (ae 3) nZ))))
  (qg 0 (ba "Seeking" "waiting" (aJ 0)) (iA (ba "Seeking" "watches" (aJ 0)) (bC (ag (ae 1) (ag (ae 2) nZ)))))))
def qu:MTf:=eE 4 C7
def C8:MF3:=
 (aT (m2 dIs (mIx (ar 1) (bg "In" "thing" (ae 0))) (kBl ac)))
def C9:=aL 2 C8
def Da:MF3:=
 (aT (vIf (mB (m2 dIs (mIx (ar 1) (bg "In" "thing" (ae 0))) kN)) (aR (ag (bC (ag (bg "In" "thing" (ae 0)) (ag (kBl ac) nZ))) nZ)) (aR nZ)))
def Dc:=aL 2 Da
def Dd:MF3:=
 (aT (m2 dGe (aw sK (ag (bg "Least" "pieces" (ae 0)) (ag (ae 1) nZ))) (bg "Least" "bound" (ae 0))))
def De:=aL 2 Dd
def Dg:MF3:=
 (ai (a9 3 (aw vX (ag (aR (bu 1 [1] (aW (ae 0)) (ay 0) (mB (m2 dIs (mIx (ar 1) (mIx (ar 0) (kI 0))) kN)) (ae 0))) nZ)))
  (cx (bu 1 [2,3] (si (ae 3)) (ay 0) (mB (m2 dGe (m2 sj (ae 2) (ae 0)) (ae 1))) (ae 0))))
def wa:=aL 4 Dg
def Dh:MF3:=
 (ai (a9 2 (m2 kO (bg "Least" "bound" (ae 0)) (aw sK (ag (bg "Least" "pieces" (ae 0)) (ag (ae 1) nZ)))))
  (cx (bu 1 [] (aW (aw wa (ag (bg "Least" "pieces" (ae 0)) (ag (ae 1) (ag (ae 2) nZ))))) (ay 0) kY (bC (ag (ae 0) (ag (kBl ac) nZ))))))
def Di:=aL 3 Dh
def Dj:MF3:=
 (aT (m2 dLe (aw qr (ag (bg "Most" "pieces" (ae 0)) (ag (ae 1) nZ))) (bg "Most" "bound" (ae 0))))
def Dk:=aL 2 Dj
def Dl:MF3:=
 (ai (a9 2 (m2 kO (aw qr (ag (bg "Most" "pieces" (ae 0)) (ag (ae 1) nZ))) (bg "Most" "bound" (ae 0))))
  (cx (bu 1 [] (aW (aw wa (ag (bg "Most" "pieces" (ae 0)) (ag (ae 1) (ag (ae 2) nZ))))) (ay 0) kY (bC (ag (ae 0) (ag (kBl af) nZ))))))
def Dn:=aL 3 Dl
def Do:MF3:=
 (aT (m2 dIs (mIx (ar 1) (bg "Out" "thing" (ae 0))) (kBl af)))
def Dr:=aL 2 Do
def Ds:MF3:=
 (aT (vIf (mB (m2 dIs (mIx (ar 1) (bg "Out" "thing" (ae 0))) kN)) (aR (ag (bC (ag (bg "Out" "thing" (ae 0)) (ag (kBl af) nZ))) nZ)) (aR nZ)))
def Dt:=aL 2 Ds
def Du:MF3:=
 (ai (a9 2 kN)
  (ai (bR (aW (ae 0)) (ay 3) (aY (dN (bx (bi (aP "In" "sure" C9 (ae 3) (ag (ae 1) nZ)) (bi (aP "Out" "sure" Dr (ae 3) (ag (ae 1) nZ)) (bi (aP "Least" "sure" De (ae 3) (ag (ae 1) nZ)) (aP "Most" "sure" Dk (ae 3) (ag (ae 1) nZ))))))) (ai (a9 4 (bi (aP "In" "tips" Dc (ae 3) (ag (ae 1) nZ)) (bi (aP "Out" "tips" Dt (ae 3) (ag (ae 1) nZ)) (bi (aP "Least" "tips" Di (ae 3) (ag (ae 1) nZ)) (aP "Most" "tips" Dn (ae 3) (ag (ae 1) nZ))))))
  (ai (a9 2 (vIf (mB (m2 dIs (ae 2) kN)) (ae 4) (aR (bu 1 [4] (aW (ae 2)) (ay 0) (mB (m2 f6 (ae 0) (ae 1))) (ae 0)))))
  (aY (dN (bx (ae 2))) (cx nZ) bz))) bz))
  (ai (aY (mB (m2 dIs (ae 2) kN)) (aT kN) bz)
  (cx (bu 2 [] (aW (ae 2)) (dk (bB (ay 0) (bB (ay 1) dD))) kY (bC (ag (ae 0) (ag (j7 (ae 1)) nZ))))))))
abbrev Dv(as:LD):Option (LD ⊕ D):=zX 5 Du as
def Dx:MF3:=
 (ai (dB (bx (pB (ba "Seeking" "waiting" (aJ 0)))) (ai (f9 1 (sA 0 (ba "Seeking" "waiting" (aJ 0))))
  (ai (a9 2 (qk Dv (ag (pB (lg (ba "Seeking" "guards" (aJ 0)) (ae 1))) (ag (pB (ba "Seeking" "sheet" (aJ 0))) nZ))))
  (ai (aY (mB (m2 dIs (ae 2) kN)) (eM (ae 1)) bz)
  (bR (aW (ae 2)) (dk (bB (ay 3) (bB (ay 4) dD))) (dM (cM 0 "Seeking" "put" qu (bP (mX (ae 3)) (bP (mX (ae 4)) (bP (mX (ae 1)) cF))))))))) 1000000000)
  (eM kN))
def Dy:MTf:=eE 5 Dx
def Dz:MF3:=
 (ai (aY (bx (bi (aP "In" "lost" sI (ae 1) (ag (bg "Seeking" "sheet" (ae 0)) (ag (aw m_1 (ag (aw cK (ag (bg "Seeking" "sheet" (ae 0)) nZ)) (ag (aR nZ) nZ))) nZ))) (bi (aP "Out" "lost" sM (ae 1) (ag (bg "Seeking" "sheet" (ae 0)) (ag (aw m_1 (ag (aw cK (ag (bg "Seeking" "sheet" (ae 0)) nZ)) (ag (aR nZ) nZ))) nZ))) (bi (aP "Least" "lost" sJ (ae 1) (ag (bg "Seeking" "sheet" (ae 0)) (ag (aw m_1 (ag (aw cK (ag (bg "Seeking" "sheet" (ae 0)) nZ)) (ag (aR nZ) nZ))) nZ))) (aP "Most" "lost" sL (ae 1) (ag (bg "Seeking" "sheet" (ae 0)) (ag (aw m_1 (ag (aw cK (ag (bg "Seeking" "sheet" (ae 0)) nZ)) (ag (aR nZ) nZ))) nZ))))))) (cx nZ) bz)
  (cx (bu 1 [2] (aW (bi (aP "In" "named" vP (ae 1) λ_=>aa []) (bi (aP "Out" "named" vT (ae 1) λ_=>aa []) (bi (aP "Least" "named" vR (ae 1) λ_=>aa []) (aP "Most" "named" vS (ae 1) λ_=>aa []))))) (ay 0) (bx (mIx (ar 1) (ae 0))) (ae 0))))
def DD:=aL 3 Dz
def DF:MF3:=
 (cx (bu 2 [2,0,1] (aW (bg "Seeking" "makers" (ae 0))) (dk (bB (ay 0) (bB (ay 1) dD))) (mB (m2 dEq (ae 0) (ae 4))) (aw m_4 (ag (ae 1) (ag (bg "Seeking" "sheet" (ae 3)) (ag (ae 2) nZ))))))
def DH:=aL 3 DF
def sO:MF3:=
 (ai (dq 3 (ag (ae 1) nZ))
  (ai (a9 4 (kI 0))
  (ai (dB (mB (m2 dLt (ae 4) (aw cK (ag (cT 3) nZ)))) (ai (bR (aW (aP "Seeking" "lost_parts" DH (ae 0) (ag (mIx (ar 3) (ae 4)) (ag (ae 2) nZ)))) (ay 5) (k4 3 (kZ (aR (bu 1 [3] (aW (aP "Seeking" "keeping" DD (ae 0) (ag (ae 5) (ag (ae 2) nZ)))) (ay 0) (mB (m2 jw (ae 0) (cT 1))) (ae 0))))))
  (ma 4 (mX (kI 1)))) 1000000000)
  (fM 3 (cx (ka (ae 3)))))))
def Xv:=aL 6 sO
def mh:=jA 6 sO
def DJ:MF3:=
 (ai (dq 1 (bu 1 [] (pC (ba "Seeking" "sheet" (aJ 0))) (ay 0) kY (m2 fY (ae 0) (kBl af))))
  (ai (dq 2 nZ)
  (ai (a9 3 (pD (ba "Seeking" "makers" (aJ 0))))
  (ai (a9 4 (kBl ac))
  (ai (dB (bx (ae 4)) (ai (a9 5 (aw cK (ag (cT 2) nZ)))
  (ai (dq 6 nZ)
  (ai (bR (aW (ae 3)) (ay 7) (aY (da (bx (mIx (ar 1) (mIx (ar 7) (kI 0)))) (mB (m2 dIs (aw m_4 (ag (mIx (ar 7) (kI 1)) (ag (pB (ba "Seeking" "sheet" (aJ 0))) (ag (cT 1) nZ)))) kN))) (ai (gy 1 (mIx (ar 7) (kI 0)) (kBl af))
  (dE 2 (ae 7))) (dE 6 (ae 7))))
  (ai (fM 6 (a9 3 (ae 6)))
  (a9 4 (j6 (m2 dGt (aw cK (ag (cT 2) nZ)) (ae 5)) (aw lV (ag (cT 1) nZ)))))))) 1000000000)
  (ai (fM 2 (eR 0 "Seeking" "makers" (aJ 0) (jJ (aR (jH (ae 2) (ae 3))))))
  (fM 1 (eM (ae 1)))))))))
def DK:MTf:=eE 8 DJ
def DM:MF3:=
 (ai (f9 1 (cM 0 "Seeking" "loose_marks" DK cF))
  (ai (a9 3 (aR (bu 2 [1] (vC (pC (ba "Seeking" "sheet" (aJ 0)))) (dk (bB (ay 0) (bB (ay 1) dD))) (da (bx (mIx (ar 2) (ae 0))) (mB (m2 dIs (ae 1) (kBl ac)))) (ae 0))))
  (ai (aY (bx (ae 3)) (eM (bC (ag (kSt "group") (ag (aR (iC "Seeking" "kernel" mh (cT 0) (ag (mIx (ar 3) (kI 0)) (ag (ae 1) nZ)))) nZ)))) bz)
  (ai (bR (jD (ag (ae 1) nZ)) (dk (bB (ay 2) (bB (ay 4) dD))) (aY (bx (ae 4)) (dM (cM 0 "Seeking" "put" qu (bP (mX (ae 2)) (bP (mX (kBl af)) (bP (mX (bC (ag (kSt "group") (ag (aR (iC "Seeking" "kernel" mh (cT 0) (ag (ae 2) (ag (ae 1) nZ)))) nZ)))) cF))))) bz))
  (eM kN)))))
def DN:MTf:=eE 5 DM
def DQ:MF3:=
 (ai (a9 1 (kBl ac))
  (ai (dB (bx (ae 1)) (ai (f9 2 (cM 0 "Seeking" "look_round" Dy cF))
  (ai (aY (mB (m2 dIs (ae 2) kN)) (f9 2 (cM 0 "Seeking" "put_loose_out" DN cF)) bz)
  (a9 1 (j6 (m2 dIs (ae 2) kN) (m2 dGt (aw cK (ag (pB (ba "Seeking" "waiting" (aJ 0))) nZ)) (kI 0)))))) 1000000000)
  (eM (ae 2))))
def sP:MTf:=eE 3 DQ
def DR:MF3:=
 (cx (bu 2 [] (jD (ag (ae 0) nZ)) (dk (bB (ay 0) (bB (ay 1) dD))) (bx (ae 1)) (ae 0)))
def sQ:=jA 1 DR
def b_8:MF3:=
 (ai (dB (dN (bx (pD (ba "Seeking" "ended" (aJ 0))))) (ai (f9 1 (cM 0 "Seeking" "settle" sP cF))
  (aY (mB (m2 fY (ae 1) kN)) (dM (cM 0 "Seeking" "close" qt (bP (mX (ae 1)) cF))) (aY (mB (m2 f6 kN (pB (ba "Seeking" "sheet" (aJ 0))))) (dM (cM 0 "Seeking" "put" qu (bP (mX (m2 gT (pB (ba "Seeking" "sheet" (aJ 0))) kN)) (bP (mX (kBl ac)) (bP (mX kN) cF))))) (ai (a9 2 (aR (p9 sQ (ag (pB (ba "Seeking" "sheet" (aJ 0))) nZ))))
  (ai (dM (cM 0 "Seeking" "close" qt (bP (mX (bC (ag (kSt "world") (ag (pD (ba "Seeking" "count" (aJ 0))) nZ)))) cF)))
  (ai (oa 0 "Seeking" "count" (kI 1))
  (eM (ae 2)))))))) 1000000000)
  (eM kN))
def m_8:MTf:=eE 3 b_8
def b_0:MF3:=
 (ai (nX 2 (n8 "Seeking" Cr (ag (ae 0) nZ)))
  (ai (dq 3 nZ)
  (ai (f9 4 (kc 2 "Seeking" "another" m_8 cF))
  (ai (dB (da (mB (m2 fY (ae 4) kN)) (mB (m2 dLt (aw cK (ag (cT 3) nZ)) (ae 1)))) (ai (dE 3 (ae 4))
  (f9 4 (kc 2 "Seeking" "another" m_8 cF))) 1000000000)
  (ai (aY (mB (m2 dIs (ae 4) kN)) (fM 3 (n9 2 "Seeking" "paper" (aT (bC (ag (ae 3) (ag (kBl ac) (ag (pD (ba "Seeking" "paper" (aJ 2))) nZ))))))) bz)
  (fM 3 (aT (bC (ag (ae 3) (ag (kBl af) (ag (aR nZ) nZ)))))))))))
def m_0:=aL 5 b_0
def b_6:MF3:=
 (ai (a9 1 (aw vL (ag (ae 0) (ag (kI 6) nZ))))
  (ai (a9 2 (aw BC (ag (ae 1) nZ)))
  (ai (a9 3 (m2 cb (aw vI (ag (ae 0) (ag (kI 1) nZ))) (kI 41)))
  (ai (a9 4 (aw m_0 (ag (ae 2) (ag (ae 3) nZ))))
  (ai (aY (mOr (dN (bx (jy "tuple" (ae 4)))) (mOr (mB (m2 dNe (aw cK (ag (ae 4) nZ)) (kI 3))) (dN (bx (jy "list" (mIx (ar 4) (kI 0))))))) (aT (kBl af)) bz)
  (ai (aY (mOr (dN (bx (jy "bool" (mIx (ar 4) (kI 1))))) (mOr (dN (bx (jy "list" (mIx (ar 4) (kI 2))))) (mB (m2 dNe (ae 2) (ae 1))))) (aT (kBl af)) bz)
  (ai (a9 5 kN)
  (ai (bR (aW (mIx (ar 4) (kI 0))) (ay 6) (ai (aY (mOr (dN (bx (aw BP (ag (ae 6) (ag (mIx (ar 1) (kI 0)) nZ))))) (dN (bx (aw BY (ag (ae 1) (ag (ae 6) nZ)))))) (aT (kBl af)) bz)
  (ai (aY (da (mB (m2 fY (ae 5) kN)) (dN (bx (aw BE (ag (ae 5) (ag (ae 6) nZ)))))) (aT (kBl af)) bz)
  (a9 5 (ae 6)))))
  (aT (j6 (m2 dLe (aw cK (ag (mIx (ar 4) (kI 0)) nZ)) (ae 3)) (vOr (mIx (ar 4) (kI 1)) (m2 dEq (aw cK (ag (mIx (ar 4) (kI 0)) nZ)) (ae 3)))))))))))))
def m_6:=aL 7 b_6
def cmN(s:Scope):LSt:=s.names.tail.filterMap λz=>match z.2 with |.local=>aa z.1 |.free=>aa z.1 | _=>ab
variable{fi:MF2}{g:L2.D->LS->Option LS}{ft:MF4}{fe:MF1}
def Tk{c:Str->Addr}{X:Cx}{d tg iter:Expr}{e:LEx}{scope:Scope}{pos:Pos}(k:Nat)(js:LN)(h:X.calm=ac)(hi:DIe c X tg iter fi)(j:∀cl X5 ex b a,DG c (X.comp scope (cmN scope) cl X5 ex b a) tg k g)(n:∀cl X5 ex b a,DTs c (X.comp scope (cmN scope) cl X5 ex b a) e ft)(i:∀cl X5 ex b a,DE c (X.comp scope (cmN scope) cl X5 ex b a) d fe)(f:autoParam (lO scope X.env.scope.names X.N (cmN scope) k js=ac) Zb)(m:autoParam (∀x,lB iter X.env x=pure x) Zd)(l:autoParam (js.Nodup) Zc):DO c X (.ListComp d [(tg,iter,e,0)] scope pos) (bu k js fi g ft fe):=kX k js _ h hi j n i f m l
seal DSs DS DX DE DO lV dEq gT dIn f6 rZ dIs fY sj sD pL jw ay dk bB dD cK m1 m2 da dE sC ma mB mf aw qk k5 p9 nJ jH l7 bu ag bP dM jD vC k4 fM n9 qe bg bR qd sn aY jy mIx si qc nW aR iS aP iC cM kc bz cF dN kZ mOr bi mPt jF gy aT cx eM fj l9 iO ai aW a9 pX dq f9 mSl nN ka bx bC ae cT ar dB qm mX qi lh oa pB pC pD qg ba iA lg sA n4 qh qj eR aJ jx j6 vIf j7 vOr jJ iz n8 nX
set_option hygiene false
local macro_rules
|`(@1)=>do
 let a<-Zz.fs "Tl W|Tn W|To W|Tp W|Tq W|Ts W|Tt W|Tu W|Tv W|Tw W|Jc W|Tx W|Tz W|TB W|TC W|TD W|TF W|TH W|TJ W|TK W|TL W|TM W|TN W|TQ W|TR W|TU W|TV W|TW W|TX W|TY W|TZ W|T0 W|T1 W|T3 W|T4 W|T5 W|T6 W|T7 W|T8 W|T9 W|Ua W|Ub W|Jd W|Uc W|Ud W|Ue W|Uf W|Ug W|Uh W|Ui W|Uj W|Uk W|Je W|Ul W|Um W|Uo W|Up W|Uq W|Ur W|Us W|Ut W|Uu W|Uv W|Uw W|Ux W|Uy W|Uz W|Jf W|UA W|UB W|UC W|UD W|UE W|UF W|UG W|UH W|UI W|UJ W|UK W|UL W|UM W|UN W"
 `(by first $[|$a]*)
|`(@0)=>do
 let a:=#[<-Zz.gr "DE _ _ _ _" ((<-Zz.fs "dv _|Ge|pP ? ?|dvc _|yK ? ? ?|O9 _ ? ? ?|N9|Gf|Gg ?|N8|DE.orE ? ?|nE ? ? rfl W.q5 PySem.boot_len ?|nt ? ? ? ?|Gj ? ? ?|rJ ?|uK ? ?|O5 1 hr ?|Pa _ ? 1 hr ?|Pb _ ? 1 hr|Ig ( eQ _ ? ? ( eD ( pv _ ) ) )|Ig ( eQ _ ? ? ( eD ( pvc _ ) ) )|pT 'In W.p6 ( Jg W ) .ok % ( glc rfl ) W.rs W.e_74.b ?|pT 'Out W.pw ( Jh W ) .ok % ( glc rfl ) W.ri W.e_75.b ?|pT 'In W.p6 ( Jg W ) .ok % rfl W.rs W.e_74.b ?|pT 'Out W.pw ( Jh W ) .ok % rfl W.ri W.e_75.b ?|pT 'Least W.n7 ( UO W ) .ok % rfl W.qq W.e_76.b ?|pT 'Most W.pb ( UP W ) .ok % rfl W.ro W.e_77.b ?")++#[<-`(Lean.Parser.Tactic.tacticSeq|refine uU (T := "int") W.p5 rfl W.kQ boot_int rfl W.q4 ?_)]++#[<-`(Lean.Parser.Tactic.tacticSeq|refine uU (T := "bool") W.pq rfl W.kQ boot_bool rfl W.p4 ?_)]++#[<-`(Lean.Parser.Tactic.tacticSeq|refine uU (T := "list") W.pu rfl W.kQ mL rfl W.nS ?_)]++#[<-`(Lean.Parser.Tactic.tacticSeq|refine uU (T := "tuple") W.oD rfl W.kQ boot_tuple rfl W.pj ?_)]++(<-Zz.fs "DO.de ?")),
 <-Zz.gr "DA _ _ _ _" ((<-Zz.fs "yJ ? ?|Oa")),
 <-Zz.gr "DSs _ _ _ _" ((<-Zz.fs "bo ?|aC ? ?|OY")),
 <-Zz.gr "PE _ _ _" ((<-Zz.fs "pv _|pvc _")),
 <-Zz.gr "DC _ _ _ _" ((<-Zz.fs "dvC _|yY _|DE.dc ?|DO.dc ?")),
 <-Zz.gr "DS _ _ _ _" ((<-Zz.fs "iR ?|pQ _ ! ?|d4 ? ? ?|jz ?|y4 _ ! ?")++#[<-`(Lean.Parser.Tactic.tacticSeq|refine eq (kk := 99) c7 rfl ?_ ?_ ?_)]++(<-Zz.fs "zG ?|GJ ?|O2 _|vA _ ! ?|lQ _ ?|G2 ? ? ?|nH _ c7 ? ?|O4 ( lL ( jZ jY xH xI yr ? ( e9 ( DE.pe ? ) d9 ) ) )|GK ( lL ( jZ jY xJ xK yu ? ( e9 ( DE.pe ? ) d9 ) ) )")++#[<-`(Lean.Parser.Tactic.tacticSeq|refine Il _ ?_ ?_ (yh (show DP _ _ _ _ _ from ?_) (show DZ _ _ _ _ _ from ?_) rfl))]++#[<-`(Lean.Parser.Tactic.tacticSeq|refine RL (lL (jZ jY xH xI yr (show DP _ _ _ _ _ from ?_) (e9 (DE.pe ?_) d9))))]),
 <-Zz.gr "DT _ _ _ _" ((<-Zz.fs "j5 ? ? ? ?|rF ?|Gi ?|DW.dt ?")),
 <-Zz.gr "DO _ _ _ _" ((<-Zz.fs "Oc ?|Gz ? ? ?|O6 1 hr ?|Iw _ ? 1 hr ?|Ri _ rfl rfl W.nS rfl W.ny|Rl rfl rfl W.nS rfl W.oo ?|uT mL rfl W.nS ?")),
 <-Zz.gr "DG _ _ _ _ _" ((<-Zz.fs "dgc _ _|OM _ _ !|OP rfl ?")),
 <-Zz.gr "DI _ _ _ _ _" ((<-Zz.fs "nF ?|PQ rfl W.nk ?|OS rfl W.oo ?|Q6 rfl W.ny ?")),
 <-Zz.gr "DP _ _ _ _ _" ((<-Zz.fs "eD ?|eQ _ ? ? ?")),
 <-Zz.gr "DAB _ _ _ _" ((<-Zz.fs "rC ? ?|Ob")),
 <-Zz.gr "DGs _ _ _ _ _" ((<-Zz.fs "OO ? ?|ON")),
 <-Zz.gr "DAX _ _ _ _" ((<-Zz.fs "HX ? ?|RD")),
 <-Zz.gr "DTs _ _ _ _" ((<-Zz.fs "OW|rP ?")),
 <-Zz.gr "DB _ _ _ _" ((<-Zz.fs "dvB _|zS ( eQ _ ? ? ( eD ( pv _ ) ) )|DE.db ?")),
 <-Zz.gr "PA _ _ _" ((<-Zz.fs "d9")),
 <-Zz.gr "DW _ _ _ _" ((<-Zz.fs "rH ? ?|uJ ?")),
 <-Zz.gr "DZ _ _ _ _ _" ((<-Zz.fs "Rm ?|HN ?|R4")),
 <-Zz.gr "DPt _ _ _ _" ((<-Zz.fs "Gy ?|Gw")),
 <-Zz.gr "DX _ _ _ _" ((<-Zz.fs "Ip _ ? 1 hr ?|RZ _ ? 1 hr|DE.dx ?")),
 <-Zz.gr "DL _ _ _ _" ((<-Zz.fs "zT ( eQ _ ? ? ( eD ( pv _ ) ) )")),
 <-Zz.gr "Cls _ _" ((<-Zz.fs "W.ad|W.n5|W.kT|W.md|W.nq")),
 <-Zz.gr "cR _ _ _" ((<-Zz.fs "W.gF|W.ld|W.mu|W.lb|W.lk|W.mm|W.kr|W.j3|W.il|W.ll|W.kv|W.lp|W.kF|W.lw|W.lj|W.l0")),
 <-Zz.gr "DIe _ _ _ _ _" ((<-Zz.fs "DI.de ?")),
 <-`(Lean.Parser.Tactic.tacticSeq|refine Tk _ _ rfl ?_ ?_ ?_ ?_),
 <-do let a:=(<-Zz.fs "Om|Oz")++#[<-`(Lean.Parser.Tactic.tacticSeq|((refine OB ?_); with_unfolding_all assumption))]++(<-Zz.fs "OH|OI|Go|Gp|Oi|Oj|Ol|Oo|Ot|Oq|Ox|Ov|Oy|QS")++#[<-`(Lean.Parser.Tactic.tacticSeq|((refine OC ?_); with_unfolding_all assumption))]++(<-Zz.fs "OA|Os|Op|On|Ow|Ou|P0")++#[<-`(Lean.Parser.Tactic.tacticSeq|((refine P1 ?_); with_unfolding_all assumption))];`(Lean.Parser.Tactic.tacticSeq|with_reducible first $[|$a]*),
 <-`(Lean.Parser.Tactic.tacticSeq|intro _ _ _ _ _)]
 `(by repeat' first $[|$a]*)
set_option hygiene true
variable{a:Wa}
def Tl(W:Wd K mg a):qD P w K mg base a 1 "_law_part_again" a.e_53 ["_law_part_here"] BA:=by
 show W.e_53.pk (aZ (F:=Bz) W.e_53.F SF λ_ _ _ _ _ _ hr=>?_);have b:=hr.units;unfold Bz;show @0
def UJ(W:Wd K mg a):qD P w K mg base a 2 "_law_again" a.e_42 ["_law_plain_here"] BC:=by
 show W.e_42.pk (aZ (F:=BB) W.e_42.F IL λ_ _ _ _ _ _ hr=>?_);unfold BB;have nd:=IL.nd;show @0
def UN(W:Wd K mg a):qD P w K mg base a 1 "_law_ahead" a.e_44 ["_law_one","_law_other"] BE:=by
 show W.e_44.pk (aZ (F:=BD) W.e_44.F IN λ_ _ _ _ _ _ hr=>?_);have b:=hr.units;unfold BD;have nd:=IN.nd;show(aC (eq (kk:=99) c7 rfl (nF (DO.de (zE rfl rfl W.nL (DO.de (zy @0 @0))))) @0 (bo (d4 (j5 @0 @0 (DE.db (nt pO pN @0 @0)) (DE.db (nt pO pN @0 @0))) (bo (iR (nt pO pN @0 @0))) @0))) @0)
def Tq(W:Wd K mg a):qD P w K mg base a 1 "_law_cell_at" a.e_40 ["_law_script","_law_k"] vI:=by
 show W.e_40.pk (aZ (F:=BF) W.e_40.F SE λ_ _ _ _ _ _ hr=>?_);unfold BF;show @0
def Ts(W:Wd K mg a):qO P w K mg base a 1 "_law_base" a.e_26 ["_law_cell","_law_many"] BG:=by
 show W.e_26.pk (nI (F:=vJ) W.e_26.F IJ λ_ _ _ _ _ _ hr=>?_);have b:=hr.units;unfold vJ;have nd:=IJ.nd;show @0
def Tn(W:Wd K mg a):qD P w K mg base a 1 "_law_mixed" a.e_5 ["_law_cell","_law_k"] m_5:=by
 show W.e_5.pk (aZ (F:=b_5) W.e_5.F IG λ_ _ _ _ _ _ hr=>?_);unfold b_5;have nd:=IG.nd;show @0
def To(W:Wd K mg a):qD P w K mg base a 2 "_law_items" a.e_41 ["_law_cell","_law_k","_law_many"] BI:=by
 show W.e_41.pk (aZ (F:=BH) W.e_41.F IH λ_ _ _ _ _ _ hr=>?_);unfold BH;have nd:=IH.nd;show @0
def Tp(W:Wd K mg a):qD P w K mg base a 3 "_law_part" a.e_24 ["_law_cell","_law_k","_law_many"] vK:=by
 show W.e_24.pk (aZ (F:=BJ) W.e_24.F II λ_ _ _ _ _ _ hr=>?_);have b:=hr.units;unfold BJ;have nd:=II.nd;show @0
def Tt(W:Wd K mg a):qD P w K mg base a 4 "_law_rule" a.e_25 ["_law_cell","_law_many"] BL:=by
 show W.e_25.pk (aZ (F:=BK) W.e_25.F Br λ_ _ _ _ _ _ hr=>?_);have b:=hr.units;unfold BK;have nd:=Br.nd;show(aC @0 (aC @0 (aC @0 (aC (rQ 4 1 [0,1] ["_law_j","_law_cell","_law_many"] Br.nd rfl @0 @0 @0 @0) @0))))
def UI(W:Wd K mg a):qD P w K mg base a 5 "_law_plain" a.e_27 ["_law_script","_law_top"] vL:=by
 show W.e_27.pk (aZ (F:=BM) W.e_27.F IK λ_ _ _ _ _ _ hr=>?_);have b:=hr.units;unfold BM;have nd:=IK.nd;show @0
def Tu(W:Wd K mg a):qD P w K mg base a 1 "_law_whole" a.e_73 ["_law_found"] Ja:=by
 show W.e_73.pk (aZ (F:=BN) W.e_73.F SG λ_ _ _ _ _ _ hr=>?_);unfold BN;show(bo (iR (uK @0 (rJ (yM @0)))))
def UL(W:Wd K mg a):qD P w K mg base a 2 "_law_set" a.e_28 ["_law_found","_law_many"] BP:=by
 show W.e_28.pk (aZ (F:=BO) W.e_28.F Bs λ_ _ _ _ _ _ hr=>?_);unfold BO;have nd:=Bs.nd;show(aC @0 (aC (pQ 2 Bs.nd (Gk @0)) (aC (eq (kk:=99) c7 rfl @0 @0 (aC (d4 (DW.dt (nz @0 (rG (Gi (QM @0 @0 @0 @0 @0 @0 @0))))) @0 @0) @0)) @0)))
def Tv(W:Wd K mg a):qD P w K mg base a 1 "_law_sum" a.e_16 ["_law_items_here","_law_some"] vM:=by
 show W.e_16.pk (aZ (F:=BQ) W.e_16.F Bt λ_ _ _ _ _ _ hr=>?_);unfold BQ;have nd:=Bt.nd;show(aC @0 (aC (eq (kk:=99) c7 rfl @0 @0 (bo (d4 (j5 pO pN @0 @0) (bo (HY 2 Bt.nd @0)) @0))) @0))
def Tw(W:Wd K mg a):qD P w K mg base a 2 "_law_part_holds" a.e_54 ["_law_part_here","_law_rising","_law_world"] BS:=by
 show W.e_54.pk (aZ (F:=BR) W.e_54.F SH λ_ _ _ _ _ _ hr=>?_);have b:=hr.units;unfold BR;show(aC (d4 @0 (bo (iR (nt pO pN @0 @0))) @0) (aC (d4 @0 (bo (iR (nt uS uR @0 @0))) @0) @0))
def Jc(W:Wd K mg a):qD P w K mg base a 3 "_law_body_holds" a.e_17 ["_law_rule_here","_law_rising","_law_world"] sG:=by
 show W.e_17.pk (aZ (F:=BU) W.e_17.F SI λ_ _ _ _ _ _ hr=>?_);unfold BU;show(bo (iR (nE (PH rfl) PJ rfl W.qs boot_all @0)))
def Tx(W:Wd K mg a):qD P w K mg base a 4 "_law_broken" a.e_43 ["_law_rule_here","_law_world"] vN:=by
 show W.e_43.pk (aZ (F:=BV) W.e_43.F SJ λ_ _ _ _ _ _ hr=>?_);have b:=hr.units;unfold BV;show(aC (d4 (DW.dt (nz @0 (rG @0))) @0 @0) (bo (iR (yL @0 (rJ (nt uS uR @0 @0))))))
def Tz(W:Wd K mg a):qD P w K mg base a 4 "_law_built" a.e_29 ["_law_plain_here","_law_world"] vO:=by
 show W.e_29.pk (aZ (F:=BW) W.e_29.F IM λ_ _ _ _ _ _ hr=>?_);have b:=hr.units;unfold BW;have nd:=IM.nd;show(aC @0 (aC @0 (aC (nH 1000000000 c7 @0 (aC @0 (bo (eq (kk:=99) c7 rfl @0 @0 (bo (d4 (DW.dt (rH @0 (rH (j5 pO pN @0 @0) (uJ (j5 uS uR @0 @0))))) (bo (d4 (rF (DE.db (O7 (Jc W) hr @0))) @0 @0)) @0)))))) (bo (lQ 2 (jz (zE rfl rfl W.nL @0)))))))
def UM(W:Wd K mg a):qD P w K mg base a 5 "_law_stands" a.e_55 ["_law_plain_here","_law_world"] BY:=by
 show W.e_55.pk (aZ (F:=BX) W.e_55.F SK λ_ _ _ _ _ _ hr=>?_);have b:=hr.units;unfold BX;show(aC (d4 (rF (DE.db (nE (GW rfl) GX rfl W.qa boot_any @0))) @0 @0) @0)
def TN(W:Wd K mg a):gU P w K mg base a 1 "Seeking" "drop_wider" a.h6 ["self","bar"] B0:=by
 show W.h6.pk W.ad (gC (F:=BZ) W.h6.F sF λ_ _ _ _ _ _ hr=>?_);have b:=hr.units;unfold BZ;have nd:=sF.nd
 show(Sa (w:=2) (pr:=3) (by decide) (Sb (by decide)) Sc (by decide) (px sF.nd rfl (by first |show b9 rfl |show bJ rfl) (E8 (rF @0) (zU (hu1 b) (eQ "Seeking" W.ad W.gF (eD (pv 0))) @0 (rfl,rfl,rfl,rfl)) (ux (d9)))) (Fd c7 rfl (nF @0) (xV sF.nd rfl (by first |show b9 rfl |show bJ rfl)) (Fa (yF (g:=tDG _ (ay 0)) (tt:=tDT _ (mB (m2 f6 (ae 0) (aR (iA (ba "Seeking" "watches" (aJ 2)) (ae 1)))))) (te:=tD _ (ae 0)) 1 [3,0] ["why","pair","self"] sF.nd rfl (by first |show b9 rfl |show bJ rfl) rfl (x8 @0) (λ_ _ _ _ _=>(DG.pg (dgc 0 1))) (λ_ _ _ _ _=>(rP (j5 @0 @0 @0 (DL.db (zU (hu1 b) (eQ "Seeking" W.ad W.gF (eD (pvc 2))) @0 (rfl,rfl,rfl,rfl)))))) (λ_ _ _ _ _=>(DE.pe @0))))) (bo (lQ 2 (eq (kk:=99) c7 rfl @0 @0 (bo (d4 @0 (bo (eq (kk:=99) c7 rfl (nF (pP (DL.dc (zT (eQ "Seeking" W.ad W.ld (eD (pv 0))))) @0)) @0 (bo (R7 (lL (jZ jY PySem.F.slot_list_remove PySem.F.type_list_remove (R6 b) (Ie (hu1 b) (eQ "Seeking" W.ad W.gF (eD (pv 0))) @0) (e9 (DE.pe @0) (d9)))))))) @0))))))
def TC(W:Wd K mg a):qPD P w K mg base a 1 "In" "named" a.e_45 ["self"] vP:=by
 show W.e_45.pk W.n5 (aZ (F:=B1) W.e_45.F SM λ_ _ _ _ _ _ hr=>?_);unfold B1;show @0
def TJ(W:Wd K mg a):qPD P w K mg base a 1 "In" "wants" a.e_56 ["self"] B3:=by
 show W.e_56.pk W.n5 (aZ (F:=B2) W.e_56.F SN λ_ _ _ _ _ _ hr=>?_);unfold B2;show @0
def TB(W:Wd K mg a):qD P w K mg base a 1 "things_of" a.e_36 ["items"] vQ:=by
 show W.e_36.pk (aZ (F:=B4) W.e_36.F Sv λ_ _ _ _ _ _ hr=>?_);unfold B4;show(bo (jz (Qz rfl rfl W.nL rfl W.rc @0)))
def TF(W:Wd K mg a):qPD P w K mg base a 2 "Least" "named" a.e_47 ["self"] vR:=by
 show W.e_47.pk W.kT (aZ (F:=B5) W.e_47.F S4 λ_ _ _ _ _ _ hr=>?_);unfold B5;show @0
def TL(W:Wd K mg a):qPD P w K mg base a 1 "Least" "wants" a.e_66 ["self"] B7:=by
 show W.e_66.pk W.kT (aZ (F:=B6) W.e_66.F S5 λ_ _ _ _ _ _ hr=>?_);unfold B6;show @0
def TH(W:Wd K mg a):qPD P w K mg base a 2 "Most" "named" a.e_50 ["self"] vS:=by
 show W.e_50.pk W.md (aZ (F:=B8) W.e_50.F Ta λ_ _ _ _ _ _ hr=>?_);unfold B8;show @0
def TM(W:Wd K mg a):qPD P w K mg base a 1 "Most" "wants" a.e_69 ["self"] Ca:=by
 show W.e_69.pk W.md (aZ (F:=B9) W.e_69.F Tb λ_ _ _ _ _ _ hr=>?_);unfold B9;show @0
def TD(W:Wd K mg a):qPD P w K mg base a 1 "Out" "named" a.e_46 ["self"] vT:=by
 show W.e_46.pk W.nq (aZ (F:=Cb) W.e_46.F SW λ_ _ _ _ _ _ hr=>?_);unfold Cb;show @0
def TK(W:Wd K mg a):qPD P w K mg base a 1 "Out" "wants" a.e_61 ["self"] Cd:=by
 show W.e_61.pk W.nq (aZ (F:=Cc) W.e_61.F SX λ_ _ _ _ _ _ hr=>?_);unfold Cc;show @0
def TR(W:Wd K mg a):gU P w K mg base a 3 "Seeking" "take_guard" a.hY ["self","why","guard"] sH:=by
 show W.hY.pk W.ad (gC (F:=Ce) W.hY.F IV λ_ _ _ _ _ _ hr=>?_);have b:=hr.units;unfold Ce;have nd:=IV.nd;show(aC (RQ (FR (hu1 b) (eQ "Seeking" W.ad W.kr (eD (pv 0))) (DE.pe @0) (DE.pe @0) rfl)) (aC (eq (kk:=99) c7 rfl @0 @0 (bo (eq (kk:=99) c7 rfl @0 @0 (bo (RW (lL (jZ jY xH xI yr (RV (hu1 b) (eQ "Seeking" W.ad W.gF (eD (pv 0))) (DE.pe @0) (ux (d9)) (rfl,rfl,rfl,rfl)) (e9 (pv 1) (d9))))))))) @0))
def Jg(W:Wd K mg a):Pm P w K mg base CX0 1 (a.cl "In") "__init__" a.e_74 ["self","thing"] (spI (K,a.cl) "In" ["self","thing"].length Cf):=
 W.e_74.pk W.n5 (u4 W.e_74.F SL λ_ _ _ _ _ _ hr=>(pS W.n5 W.mu (pv 0) (dv 1) u3))
def Jh(W:Wd K mg a):Pm P w K mg base CX0 1 (a.cl "Out") "__init__" a.e_75 ["self","thing"] (spI (K,a.cl) "Out" ["self","thing"].length vU):=
 W.e_75.pk W.nq (u4 W.e_75.F SV λ_ _ _ _ _ _ hr=>(pS W.nq W.mm (pv 0) (dv 1) u3))
def TQ(W:Wd K mg a):qD P w K mg base a 3 "guard_of_bar" a.e_52 ["bar"] Ch:=by
 show W.e_52.pk (aZ (F:=Cg) W.e_52.F SB λ_ _ _ _ _ _ hr=>?_);unfold Cg;show @0
def TY(W:Wd K mg a):gU P w K mg base a 4 "Seeking" "take_bar" a.ii ["self","bar"] vV:=by
 show W.ii.pk W.ad (gC (F:=Ci) W.ii.F IX λ_ _ _ _ _ _ hr=>?_);unfold Ci;have nd:=IX.nd;show @0
def UO(W:Wd K mg a):Pm P w K mg base CX0 1 (a.cl "Least") "__init__" a.e_76 ["self","bound","items"] (spI (K,a.cl) "Least" ["self","bound","items"].length Cj):=
 W.e_76.pk W.kT (u4 W.e_76.F S3 λ_ _ _ _ _ _ hr=>(pS W.kT W.lj (pv 0) (dv 1) (pS W.kT W.lb (pv 0) (DO.de (uT mL rfl W.nS (dvC 2))) u3)))
def UP(W:Wd K mg a):Pm P w K mg base CX0 1 (a.cl "Most") "__init__" a.e_77 ["self","bound","items"] (spI (K,a.cl) "Most" ["self","bound","items"].length Jb):=
 W.e_77.pk W.md (u4 W.e_77.F S9 λ_ _ _ _ _ _ hr=>(pS W.md W.l0 (pv 0) (dv 1) (pS W.md W.lk (pv 0) (DO.de (uT mL rfl W.nS (dvC 2))) u3)))
def TU(W:Wd K mg a):qD P w K mg base a 3 "part_of" a.e_35 ["told"] Cm:=by
 show W.e_35.pk (aZ (F:=Ck) W.e_35.F IA λ_ _ _ _ _ _ hr=>?_);have b:=hr.units;unfold Ck;have nd:=IA.nd;show @0
def TW(W:Wd K mg a):qD P w K mg base a 4 "body_of" a.e_2 ["rule"] m_2:=by
 show W.e_2.pk (aZ (F:=b_2) W.e_2.F IC λ_ _ _ _ _ _ hr=>?_);unfold b_2;show @0
def TV(W:Wd K mg a):qO P w K mg base a 4 "body_of" a.e_2 ["rule"] o_2:=by
 show W.e_2.pk (nI (F:=b_2) W.e_2.F IC λ_ _ _ _ _ _ hr=>?_);unfold b_2;show @0
def TX(W:Wd K mg a):qD P w K mg base a 5 "guard_of" a.e_22 ["rule"] vW:=by
 show W.e_22.pk (aZ (F:=Cn) W.e_22.F ID λ_ _ _ _ _ _ hr=>?_);have b:=hr.units;unfold Cn;have nd:=ID.nd;show @0
def UQ(W:Wd K mg a):cD P w K mg base CX0 6 a.e_10.1 a.e_10.2 ["self","plain","bars","sheet"] (iB (K,a.cl) ["self","plain","bars","sheet"].length Cp):=
 gC (k:=5) (N:=["self","plain","bars","sheet","rule","number","bar"]) (F:=Co) W.e_10.F I0 λcdv A outer s H X4 hr=>by
  unfold Co;have nd:=I0.nd;show @0
def UR(W:Wd K mg a):gU P w K mg base a 8 "Seeking" "__init__" a.e_11 ["self","plain"] Cr:=by
 show W.e_11.pk W.ad (gC (F:=Cq) W.e_11.F Tg λ_ _ _ _ _ _ hr=>?_);unfold Cq;show(aC (zG (Sj @0 rfl W.o6 W.og (UQ W) (hr.mono (by decide)) W.e_10.b @0)) @0)
def Uh(W:Wd K mg a):qPD P w K mg base a 1 "In" "sure_by" a.e_58 ["self","sheet","order"] Ct:=by
 show W.e_58.pk W.n5 (aZ (F:=Cs) W.e_58.F SQ λ_ _ _ _ _ _ hr=>?_);unfold Cs;show @0
def TZ(W:Wd K mg a):qD P w K mg base a 1 "weights_of" a.e_14 ["items"] vX:=by
 show W.e_14.pk (aZ (F:=Cu) W.e_14.F Bq λ_ _ _ _ _ _ hr=>?_);have b:=hr.units;unfold Cu;have nd:=Bq.nd;show(aC (ze 1 Bq.nd) (aC (eq (kk:=99) c7 rfl @0 @0 (bo (zf b @0 @0 (yK @0 (Rz b @0 @0 @0 (rfl,rfl,rfl,rfl)) @0)))) (bo (RB 1 @0))))
def T1(W:Wd K mg a):qD P w K mg base a 2 "enough" a.e_7 ["items","things","lack"] m_7:=by
 show W.e_7.pk (aZ (F:=b_7) W.e_7.F vE λ_ _ _ _ _ _ hr=>?_);have b:=hr.units;unfold b_7;have nd:=vE.nd;show(aC @0 (aC @0 (aC @0 (aC (eq (kk:=99) c7 rfl @0 @0 (aC (pQ 7 vE.nd (RH b @0 @0 @0 (rfl,rfl,rfl,rfl))) (bo (d4 @0 (aC @0 (bo (Sm 5 vE.nd @0))) @0)))) @0))))
def T0(W:Wd K mg a):qD P w K mg base a 1 "with_entry" a.e_15 ["things","sheet","truth"] qp:=by
 show W.e_15.pk (aZ (F:=Cv) W.e_15.F SA λ_ _ _ _ _ _ hr=>?_);have b:=hr.units;unfold Cv;show(bo (jz (kX 1 [2,1] ["thing","truth","sheet"] rfl @0 @0 @0 @0)))
def Uj(W:Wd K mg a):qPD P w K mg base a 3 "Least" "sure_by" a.e_68 ["self","sheet","order"] Cy:=by
 show W.e_68.pk W.kT (aZ (F:=Cw) W.e_68.F S7 λ_ _ _ _ _ _ hr=>?_);unfold Cw;show @0
def T3(W:Wd K mg a):qD P w K mg base a 1 "worth_of" a.e_37 ["items"] vY:=by
 show W.e_37.pk (aZ (F:=Cz) W.e_37.F Sy λ_ _ _ _ _ _ hr=>?_);unfold Cz;show(bo (iR (nE (yQ rfl) yR rfl W.p0 boot_sum @0)))
def Uk(W:Wd K mg a):qPD P w K mg base a 3 "Most" "sure_by" a.e_71 ["self","sheet","order"] CB:=by
 show W.e_71.pk W.md (aZ (F:=CA) W.e_71.F Td λ_ _ _ _ _ _ hr=>?_);unfold CA;show @0
def Ui(W:Wd K mg a):qPD P w K mg base a 1 "Out" "sure_by" a.e_63 ["self","sheet","order"] CD:=by
 show W.e_63.pk W.nq (aZ (F:=CC) W.e_63.F SZ λ_ _ _ _ _ _ hr=>?_);unfold CC;show @0
def Uc(W:Wd K mg a):qPD P w K mg base a 1 "In" "lost_by" a.e_60 ["self","sheet","without","order"] CG:=by
 show W.e_60.pk W.n5 (aZ (F:=CF) W.e_60.F SU λ_ _ _ _ _ _ hr=>?_);unfold CF;show @0
def T4(W:Wd K mg a):qD P w K mg base a 1 "outside" a.e_38 ["items","without"] vZ:=by
 show W.e_38.pk (aZ (F:=CH) W.e_38.F Sz λ_ _ _ _ _ _ hr=>?_);unfold CH;show @0
def Ue(W:Wd K mg a):qPD P w K mg base a 3 "Least" "lost_by" a.e_49 ["self","sheet","without","order"] CJ:=by
 show W.e_49.pk W.kT (aZ (F:=CI) W.e_49.F IR λ_ _ _ _ _ _ hr=>?_);unfold CI;have nd:=IR.nd;show @0
def Uf(W:Wd K mg a):qPD P w K mg base a 3 "Most" "lost_by" a.e_72 ["self","sheet","without","order"] CL:=by
 show W.e_72.pk W.md (aZ (F:=CK) W.e_72.F Tf λ_ _ _ _ _ _ hr=>?_);unfold CK;show @0
def Ud(W:Wd K mg a):qPD P w K mg base a 1 "Out" "lost_by" a.e_65 ["self","sheet","without","order"] CN:=by
 show W.e_65.pk W.nq (aZ (F:=CM) W.e_65.F S2 λ_ _ _ _ _ _ hr=>?_);unfold CM;show @0
def T7(W:Wd K mg a):qPD P w K mg base a 1 "In" "lost" a.e_30 ["self","sheet","without"] sI:=by
 show W.e_30.pk W.n5 (aZ (F:=CO) W.e_30.F SS λ_ _ _ _ _ _ hr=>?_);unfold CO;show(bo (iR (yL @0 @0)))
def T5(W:Wd K mg a):qD P w K mg base a 1 "worth_not_out" a.e_13 ["items","sheet"] qr:=by
 show W.e_13.pk (aZ (F:=CP) W.e_13.F Sx λ_ _ _ _ _ _ hr=>?_);unfold CP;show(bo (iR (nE (yQ rfl) yR rfl W.p0 boot_sum @0)))
def T9(W:Wd K mg a):qPD P w K mg base a 2 "Least" "lost" a.e_32 ["self","sheet","without"] sJ:=by
 show W.e_32.pk W.kT (aZ (F:=CQ) W.e_32.F S8 λ_ _ _ _ _ _ hr=>?_);unfold CQ;show @0
def T6(W:Wd K mg a):qD P w K mg base a 1 "worth_in" a.e_20 ["items","entries"] sK:=by
 show W.e_20.pk (aZ (F:=CS) W.e_20.F Sw λ_ _ _ _ _ _ hr=>?_);unfold CS;show(bo (iR (nE (yQ rfl) yR rfl W.p0 boot_sum @0)))
def Ua(W:Wd K mg a):qPD P w K mg base a 2 "Most" "lost" a.e_33 ["self","sheet","without"] sL:=by
 show W.e_33.pk W.md (aZ (F:=CT) W.e_33.F Te λ_ _ _ _ _ _ hr=>?_);unfold CT;show @0
def T8(W:Wd K mg a):qPD P w K mg base a 1 "Out" "lost" a.e_31 ["self","sheet","without"] sM:=by
 show W.e_31.pk W.nq (aZ (F:=CU) W.e_31.F S1 λ_ _ _ _ _ _ hr=>?_);unfold CU;show @0
def Jd(W:Wd K mg a):qD P w K mg base a 3 "lost_part" a.e_4 ["body","sheet","without"] m_4:=by
 show W.e_4.pk (aZ (F:=b_4) W.e_4.F IF λ_ _ _ _ _ _ hr=>?_);unfold b_4;have nd:=IF.nd;show @0
def Ub(W:Wd K mg a):qD P w K mg base a 1 "marks" a.e_1 ["many","some"] m_1:=by
 show W.e_1.pk (aZ (F:=b_1) W.e_1.F qo λ_ _ _ _ _ _ hr=>?_);have b:=hr.units;unfold b_1;have nd:=qo.nd;show(aC (ze 2 qo.nd) (aC (eq (kk:=99) c7 rfl @0 @0 (bo (zf b @0 @0 @0))) (bo (lQ 2 (jz (kX 1 [2] ["thing","listed"] rfl @0 @0 @0 (λ_ _ _ _ _=>(G1 b @0 @0))))))))
def Ul(W:Wd K mg a):qO P w K mg base a 1 "marks" a.e_1 ["many","some"] o_1:=by
 show W.e_1.pk (nI (F:=b_1) W.e_1.F qo λ_ _ _ _ _ _ hr=>?_);have b:=hr.units;unfold b_1;have nd:=qo.nd;show(aC (ze 2 qo.nd) (aC (eq (kk:=99) c7 rfl @0 @0 (bo (zf b @0 @0 @0))) (bo (lQ 2 (jz (kX 1 [2] ["thing","listed"] rfl @0 @0 @0 (λ_ _ _ _ _=>(G1 b @0 @0))))))))
def Ug(W:Wd K mg a):qPO P w K mg base a 4 "Seeking" "grounds_of_group" a.e_9 ["self","sheet","group","order"] o_9:=by
 show W.e_9.pk W.ad (nI (F:=b_9) W.e_9.F Bw λ_ _ _ _ _ _ hr=>?_);unfold b_9;have nd:=Bw.nd
 show(aC @0 (aC (y4 5 Bw.nd (by show Gz ?a ?b ?c;(case a=>show(DO.de (kX 1 [4,1] ["thing","without","sheet"] rfl (DI.de (nF (dv 3))) (λ_ _ _ _ _=>(dgc 0 1)) (λ_ _ _ _ _=>(rP (DW.dt (rH (rF (DE.db (pP (yY 1) (dvc 0)))) (uJ (j5 Go Gp (DE.db (pP (yY 2) (dvc 0))) (DE.db Gf))))))) (λ_ _ _ _ _=>(dvc 0)))));(case b=>show Gw);(case c=>show(Gy Ge)))) @0))
def Je(W:Wd K mg a):qPO P w K mg base a 5 "Seeking" "grounds" a.e_3 ["self","sheet","why","order"] o_3:=by
 show W.e_3.pk W.ad (nI (F:=b_3) W.e_3.F IU λ_ _ _ _ _ _ hr=>?_);have b:=hr.units;unfold b_3;have nd:=IU.nd;show(aC @0 (aC @0 (aC @0 (aC (eq (kk:=99) c7 rfl (nF (So (hu1 b) @0 @0)) @0 @0) @0))))
def US(W:Wd K mg a):qD P w K mg base a 1 "needed_first" a.e_39 ["order","needed"] v8:=by
 show W.e_39.pk (aZ (F:=CV) W.e_39.F SD λ_ _ _ _ _ _ hr=>?_);unfold CV;show(bo (jz (zy @0 @0)))
def Um(W:Wd K mg a):qD P w K mg base a 1 "own_why" a.e_23 ["why"] sN:=by
 show W.e_23.pk (aZ (F:=CW) W.e_23.F SC λ_ _ _ _ _ _ hr=>?_);have b:=hr.units;unfold CW;show @0
def Uo(W:Wd K mg a):gU P w K mg base a 6 "Seeking" "line_to" a.e_18 ["self","why"] CZ:=by
 show W.e_18.pk W.ad (gC (F:=CY) W.e_18.F vF λ_ _ _ _ _ _ hr=>?_);unfold CY;have nd:=vF.nd;show(aC (y4 2 vF.nd (uT mL rfl W.nS (DL.dc (zT (eQ "Seeking" W.ad W.il (eD (pv 0))))))) (aC (rQ 5 2 [] ["pair","cause"] vF.nd rfl (Ir @0) @0 @0 @0) (aC @0 (aC @0 (aC @0 (aC (Iy 0 "Seeking" "steps" (eq (kk:=99) c7 rfl @0 @0 (aC @0 (aC (d4 @0 @0 (bo (d4 @0 (aC @0 (aC (G2 @0 @0 (yM @0)) (bo (eq (kk:=99) c7 rfl (nF (DO.de (Iw "Seeking" @0 (Je W) hr (rC @0 (rC @0 (rC (HA (US W) hr @0) @0)))))) @0 @0)))) @0))) @0)))) @0))))))
def Up(W:Wd K mg a):gU P w K mg base a 1 "Seeking" "place_for" a.e_34 ["self","bar"] C3:=by
 show W.e_34.pk W.ad (gC (F:=C0) W.e_34.F Bv λ_ _ _ _ _ _ hr=>?_);have b:=hr.units;unfold C0;show(aC (rQ 2 2 [] ["place","step"] Bv.nd rfl @0 @0 @0 @0) (aC (rQ 3 1 [0] ["place","self"] Bv.nd rfl @0 @0 @0 @0) (bo (GJ (pP @0 (Gj @0 @0 (yK @0 (RF (jZ jY PySem.F.slot_list_index PySem.F.type_list_index (HZ b) (DE.pe @0) (e9 (DE.pe (pP @0 (Gk @0))) (d9)))) @0)))))))
def Uq(W:Wd K mg a):gU P w K mg base a 1 "Seeking" "take_back" a.h9 ["self","many"] C5:=by
 show W.h9.pk W.ad (gC (F:=C4) W.h9.F IY λ_ _ _ _ _ _ hr=>?_);unfold C4;have nd:=IY.nd;show(aC (eq (kk:=99) c7 rfl @0 @0 (bo (Ih (xZ (DE.pe @0) (xY (eQ "Seeking" W.ad W.il (eD (pv 0))) (DE.pe @0) yp (by intro _;rfl)) rfl rfl rfl)))) @0)
def UH(W:Wd K mg a):gU P w K mg base a 7 "Seeking" "close" a.e_12 ["self","why"] qt:=by
 show W.e_12.pk W.ad (gC (F:=C6) W.e_12.F IT λ_ _ _ _ _ _ hr=>?_);unfold C6;have nd:=IT.nd;show @0
def Jf(W:Wd K mg a):gU P w K mg base a 1 "Seeking" "put" a.ky ["self","thing","truth","why"] qu:=by
 show W.ky.pk W.ad (gC (F:=C7) W.ky.F Th λ_ _ _ _ _ _ hr=>?_);have b:=hr.units;unfold C7;show(aC (Ih (xZ (DE.pe @0) (xY (eQ "Seeking" W.ad W.il (eD (pv 0))) (DE.pe @0) yp (by intro _;rfl)) rfl rfl rfl)) (aC @0 (bo (RM (lL (jZ jY xJ xK yu (eQ "Seeking" W.ad W.j3 (eD (pv 0))) (e9 (zU (hu1 b) (eQ "Seeking" W.ad W.gF (eD (pv 0))) @0 (rfl,rfl,rfl,rfl)) (d9))))))))
def Us(W:Wd K mg a):qPD P w K mg base a 1 "In" "sure" a.e_57 ["self","sheet"] C9:=by
 show W.e_57.pk W.n5 (aZ (F:=C8) W.e_57.F SO λ_ _ _ _ _ _ hr=>?_);unfold C8;show @0
def Uw(W:Wd K mg a):qPD P w K mg base a 1 "In" "tips" a.e_59 ["self","sheet"] Dc:=by
 show W.e_59.pk W.n5 (aZ (F:=Da) W.e_59.F SR λ_ _ _ _ _ _ hr=>?_);unfold Da;show @0
def Uu(W:Wd K mg a):qPD P w K mg base a 2 "Least" "sure" a.e_67 ["self","sheet"] De:=by
 show W.e_67.pk W.kT (aZ (F:=Dd) W.e_67.F S6 λ_ _ _ _ _ _ hr=>?_);unfold Dd;show @0
def Ur(W:Wd K mg a):qD P w K mg base a 2 "heavy" a.e_21 ["items","sheet","lack"] wa:=by
 show W.e_21.pk (aZ (F:=Dg) W.e_21.F IB λ_ _ _ _ _ _ hr=>?_);have b:=hr.units;unfold Dg;have nd:=IB.nd;show(aC @0 (bo (jz (kX 1 [2,3] ["thing","lack","weights"] rfl (DI.de (Rx @0)) @0 (λ_ _ _ _ _=>(rP (j5 @0 @0 (DE.db (Ry b @0 @0)) @0))) @0))))
def Uy(W:Wd K mg a):qPD P w K mg base a 3 "Least" "tips" a.e_48 ["self","sheet"] Di:=by
 show W.e_48.pk W.kT (aZ (F:=Dh) W.e_48.F IQ λ_ _ _ _ _ _ hr=>?_);unfold Dh;have nd:=IQ.nd;show @0
def Uv(W:Wd K mg a):qPD P w K mg base a 2 "Most" "sure" a.e_70 ["self","sheet"] Dk:=by
 show W.e_70.pk W.md (aZ (F:=Dj) W.e_70.F Tc λ_ _ _ _ _ _ hr=>?_);unfold Dj;show @0
def Uz(W:Wd K mg a):qPD P w K mg base a 3 "Most" "tips" a.e_51 ["self","sheet"] Dn:=by
 show W.e_51.pk W.md (aZ (F:=Dl) W.e_51.F IS λ_ _ _ _ _ _ hr=>?_);unfold Dl;have nd:=IS.nd;show @0
def Ut(W:Wd K mg a):qPD P w K mg base a 1 "Out" "sure" a.e_62 ["self","sheet"] Dr:=by
 show W.e_62.pk W.nq (aZ (F:=Do) W.e_62.F SY λ_ _ _ _ _ _ hr=>?_);unfold Do;show @0
def Ux(W:Wd K mg a):qPD P w K mg base a 1 "Out" "tips" a.e_64 ["self","sheet"] Dt:=by
 show W.e_64.pk W.nq (aZ (F:=Ds) W.e_64.F S0 λ_ _ _ _ _ _ hr=>?_);unfold Ds;show @0
def UT(W:Wd K mg a):Pk P w K mg base CX0 4 "pressed_by" a.e_78 ["guard","sheet"] (spN (K,a.cl) ["guard","sheet"].length Dv):=by
 show W.e_78.pk (R8 (F:=Du) W.e_78.F IE λ_ _ _ _ _ _ hr=>?_);have b:=hr.units;unfold Du;have nd:=IE.nd;show(aC @0 (aC @0 (aC @0 (bo (jz (kX 2 [] ["thing","truth"] rfl @0 @0 @0 (λ_ _ _ _ _=>(Gg (yJ @0 (yJ (yM @0) @0))))))))))
def UE(W:Wd K mg a):gU P w K mg base a 5 "Seeking" "look_round" a.h7 ["self"] Dy:=by
 show W.h7.pk W.ad (gC (F:=Dx) W.h7.F vG λ_ _ _ _ _ _ hr=>?_);have b:=hr.units;unfold Dx;have nd:=vG.nd;show(aC (nH 1000000000 c7 @0 (aC (vA 1 vG.nd (RN (jZ jY PySem.F.slot_list_pop PySem.F.type_list_pop NB (eQ "Seeking" W.ad W.j3 (eD (pv 0))) (e9 E6 (d9))))) (aC (pQ 2 vG.nd (R9 (UT W) hr (rC (zS (Ie (hu1 b) (eQ "Seeking" W.ad W.kr (eD (pv 0))) @0)) @0))) @0))) @0)
def UB(W:Wd K mg a):qPD P w K mg base a 3 "Seeking" "keeping" a.ir ["self","part","without"] DD:=by
 show W.ir.pk W.ad (aZ (F:=Dz) W.ir.F Tj λ_ _ _ _ _ _ hr=>?_);unfold Dz;show @0
def UA(W:Wd K mg a):qPD P w K mg base a 4 "Seeking" "lost_parts" a.h8 ["self","thing","without"] DH:=by
 show W.h8.pk W.ad (aZ (F:=DF) W.h8.F Ti λ_ _ _ _ _ _ hr=>?_);have b:=hr.units;unfold DF;show(bo (jz (kX 2 [2,0,1] ["head","body","without","self","thing"] rfl @0 @0 @0 @0)))
def UD(W:Wd K mg a):qPO P w K mg base a 5 "Seeking" "kernel" a.j0 ["self","thing","without"] mh:=by
 show W.j0.pk W.ad (nI (F:=sO) W.j0.F By λ_ _ _ _ _ _ hr=>?_);unfold sO;have nd:=By.nd;show(aC @0 (aC @0 (aC (nH 1000000000 c7 @0 (aC (eq (kk:=99) c7 rfl @0 @0 (bo (GK (lL (jZ jY xJ xK yu (pv 3) (e9 (DE.pe (DO.de (kX 1 [3] ["other","found"] rfl @0 @0 (λ_ _ _ _ _=>(rP (j5 uS uR @0 (OX 1)))) @0))) (d9))))))) (bo (HY 4 By.nd @0)))) (bo (lQ 3 (jz (zE rfl rfl W.nL @0)))))))
def UC(W:Wd K mg a):gU P w K mg base a 4 "Seeking" "loose_marks" a.hO ["self"] DK:=by
 show W.hO.pk W.ad (gC (F:=DJ) W.hO.F vH λ_ _ _ _ _ _ hr=>?_);unfold DJ;have nd:=vH.nd;show(aC (O0 1 1 [] ["entry"] vH.nd rfl (Ir @0) (λ_ _ _ _ _=>@0) (λ_ _ _ _ _=>@0) (λ_ _ _ _ _=>@0)) (aC @0 (aC @0 (aC @0 (aC (nH 1000000000 c7 @0 (aC @0 (aC @0 (aC (eq (kk:=99) c7 rfl @0 @0 (bo (d4 (DW.dt (rH @0 (uJ (j5 @0 @0 (HA (Jd W) hr @0) @0)))) @0 @0))) (aC @0 (bo (pQ 4 vH.nd (uK @0 (rJ (nE (GW rfl) GX rfl W.qa boot_any @0)))))))))) (aC (lQ 2 (Il "Seeking" W.ad W.kv (yh (eD (pv 0)) (HN (DO.de (zy @0 @0))) rfl))) @0))))))
def UF(W:Wd K mg a):gU P w K mg base a 6 "Seeking" "put_loose_out" a.gw ["self"] DN:=by
 show W.gw.pk W.ad (gC (F:=DM) W.gw.F Bx λ_ _ _ _ _ _ hr=>?_);unfold DM;have nd:=Bx.nd;show(aC @0 (aC (rQ 3 2 [1] ["thing","entry","without"] Bx.nd rfl (R3 rfl W.nk @0) @0 @0 @0) @0))
def UG(W:Wd K mg a):gU P w K mg base a 7 "Seeking" "settle" a.iW ["self"] sP:=by
 show W.iW.pk W.ad (gC (F:=DQ) W.iW.F IZ λ_ _ _ _ _ _ hr=>?_);unfold DQ;have nd:=IZ.nd;show @0
def UU(W:Wd K mg a):qO P w K mg base a 1 "numbers" a.e_19 ["truths"] sQ:=by
 show W.e_19.pk (nI (F:=DR) W.e_19.F Su λ_ _ _ _ _ _ hr=>?_);unfold DR;show @0
def Ji(W:Wd K mg a):gU P w K mg base a 8 "Seeking" "another" a.e_8 ["self"] m_8:=by
 show W.e_8.pk W.ad (gC (F:=b_8) W.e_8.F Bu λ_ _ _ _ _ _ hr=>?_);have b:=hr.units;unfold b_8;have nd:=Bu.nd;show(aC (nH 1000000000 c7 @0 (aC @0 (bo (d4 @0 @0 (bo (d4 @0 (bo (zG (Ip "Seeking" @0 (Jf W) hr (HX (DE.dx (Sn (jZ jY PySem.F.slot_list_index PySem.F.type_list_index (HZ b) (zS (eQ "Seeking" W.ad W.il (eD (pv 0)))) (e9 (DE.pe @0) (d9))))) @0)))) (aC (pQ 2 Bu.nd (DO.de (QK (UU W) hr @0))) (aC @0 (aC (Sk "Seeking" W.ad W.kF @0 @0) @0))))))))) @0)
def UK(W:Wd K mg a):qD P w K mg base a 10 "worlds" a.e_0 ["plain","most"] m_0:=by
 show W.e_0.pk (Ss (F:=b_0) W.e_0.F sE λ_ _ _ _ _ _ hr=>?_);unfold b_0;have nd:=sE.nd;show(aC (Rn 2 sE.nd (R1 "Seeking" W.n0 (UR W).ok (hr.mono (by decide)) rfl W.pz W.e_11.b @0)) (aC @0 (aC (vA 4 sE.nd (Iq "Seeking" @0 (Ji W) hr)) (aC (nH 1000000000 c7 @0 (aC @0 (bo (vA 4 sE.nd (Iq "Seeking" @0 (Ji W) hr))))) (aC (d4 @0 (bo (lQ 3 (Iy 2 "Seeking" "paper" @0))) @0) @0)))))
def UV(W:Wd K mg a):qD P w K mg base a 11 "law" a.e_6 ["_law_script"] m_6:=by
 show W.e_6.pk (aZ (F:=b_6) W.e_6.F IP λ_ _ _ _ _ _ hr=>?_);have b:=hr.units;unfold b_6;have nd:=IP.nd;show(aC @0 (aC @0 (aC @0 (aC @0 (aC (d4 (DW.dt (nz @0 (nz @0 (rG @0)))) @0 @0) (aC (d4 (DW.dt (nz @0 (nz @0 (rG @0)))) @0 @0) (aC @0 (aC (eq (kk:=99) c7 rfl @0 @0 (aC (d4 (DW.dt (nz @0 (rG @0))) @0 @0) @0)) (bo (iR (uK @0 (rJ (yL @0 @0)))))))))))))
unseal DSs DS DX DE DO lV dEq gT dIn f6 rZ dIs fY sj sD pL jw ay dk bB dD cK m1 m2 da dE sC ma mB mf aw qk k5 p9 nJ jH l7 bu ag bP dM jD vC k4 fM n9 qe bg bR qd sn aY jy mIx si qc nW aR iS aP iC cM kc bz cF dN kZ mOr bi mPt jF gy aT cx eM fj l9 iO ai aW a9 pX dq f9 mSl nN ka bx bC ae cT ar dB qm mX qi lh oa pB pC pD qg ba iA lg sA n4 qh qj eR aJ jx j6 vIf j7 vOr jJ iz n8 nX
local macro_rules | `(tactic| walk_at "nrm")=>`(tactic| simp only [Hr,qQ,tW])
def p60:(0:Int)<10 ^ S (60:Int):=by decide
def Jj:m8 10 60:=(by decide,by decide,by decide)
variable{M:LS}
def UW{d c:Type}{k:Nat}{js:LN}(C:List d)(f:d->D)(q:c->D)(P:c->Prop)
 (hi:fi M=aa (C.map f))(hz:Z C<=16777216)(i:∀x∈C,∃z,P z/\gQ g ft fe (iP k js M) (f x)=aa (aa (q z))):∃a:List c,bu k js fi g ft fe M=aa (a.map q)/\Z a=Z C/\∀z∈a,P z:=by
 have key:∀b:List d,(∀x∈b,∃z,P z/\gQ g ft fe (iP k js M) (f x)=aa (aa (q z)))->∃a:List c,fh (gQ g ft fe (iP k js M)) (b.map f)=aa (a.map q)/\Z a=Z b/\∀z∈a,P z:=by
  intro b
  induction b with
  |nil=>intro _;show⟨[],rfl,rfl,λz hz=>nomatch hz⟩
  |cons y b m=>
   intro h;have(z,u,n):=h y aA;have(a,e,l,p):=m λx j=>h x (bp _ j);show(z::a,?_,by rw[cB,cB,l],λw r=>?_)
   .rw[bO];unfold fh
    grind
   .grind
 have(a,e,l,p):=key C i;show(a,?_,l,p);unfold bu
 grind
abbrev nmP:Prt->LI0
 |.inn t=>[t]
 |.out t=>[t]
 |.least _ L=>L.map (·.1)
 |.most _ L=>L.map (·.1)
variable{f:MF1}
def DU{g:MF1}{a b:LD}(h:f M=aa (.lst a))(h':g M=aa (.lst b))(c:Z a+Z b<=16777216):jH f g M=aa (a++b):=by
 unfold jH
 grind
def inS(C:LI0)(i:Nat):Bool:=C.any λx=>x==(i:Int)
def UX(ks:List Key)(k j:Key):gx (iw ks k) j=(gx ks j || decide (k=j)):=by
 unfold iw
 by_cases e:gx ks k=ac
 .grind
 .rw[if_neg e];unfold gx;simp
def UY(ks:List Key)(k:Key):Z (iw ks k)<=Z ks+1:=by
 unfold iw
 grind
variable{i:Nat}{fk fv:MF1}{d:L2.D}{C:LD}
def UZ{x:D}{k:Key}{ks:List Key}(a:fv M=aa d)(h2:fk M=aa x)(b:jE x=aa k)(c:M[i]?=aa (.ownd ks C))(e:Z ks<16777216):
  jF i fk fv M=aa (.nx (M.set i (.ownd (iw ks k) (iV ks C k d)))):=by
 unfold jF
 grind
def Jk(n:Int)(C:LI0)(d:0<=n)(m:n<=60)(i:Z C<=1000000):b_1 (eN 4 [.int n,.lst (C.map D.int)])=aa (.rtO (((bI (S n)).map (inS C)).map D.bl)):=by
 have(ρ',e,ks,ds,b,rfl,c,a):=Pf (g:=ay 3) (F:=jF 2 (ae 3) (λ_=>aa _)) (fi:=aW (ae 1)) C D.int
  (λpre M=>∃(ks:List Key) (ds:LD) (b:Sl),M=[.im (.int n),.im (.lst (C.map D.int)),.ownd ks ds,b]/\Z ks<=Z pre/\∀k:Int,gx ks (.inl k)=pre.any λx=>x==k)
  rfl ([],[],.no,rfl,aO _,λ_=>rfl) (by
   rintro pre x post M ex ⟨ks,ds,b,rfl,c,a⟩;have l:Z pre<Z C:=by rw[ex];simp
   show(_,_,rfl,.inl (UZ rfl rfl rfl rfl (by lia)),iw ks _,_,_,rfl,?_,λk=>?_)
   .have:=UY ks (.inl x);rw[aV];change _<=Z pre+1
    lia
   .rw[UX,a,any_append]
    congr 1
    simp only[gG,any_nil,tR]
    by_cases h:x=k
    .subst h;simp
    .rw[decide_eq_false (λq=>h (uj q))];show(beq_eq_false_iff_ne.mpr h).symm)
 show j8 rfl (j8 e ?_);rw[map_map];show congrArg _ (gt _ _ _ (rW rfl d (by lia)) (by rw[cN];lia) λj f=>?_);show fZ rfl rfl (ao rfl rfl ?_);change aa _=_;rw[a];rfl
def Jl(n:Int)(C:LI0)(b:0<=n)(c:n<=60)(a:Z C<=1000000):m_1 [.int n,.lst (C.map D.int)]=aa (.lst (((bI (S n)).map (inS C)).map D.bl)):=lR (Jk n C b c a)
def sR(ws:LB0):LI0:=((bI (Z ws)).filter λi=>ws.getD i af).map λ(i:Nat)=>(i:Int)
def wb(ws:LB0)(i:Int):i∈sR ws↔0<=i/\ws.getD i.toNat af=ac:=by
 unfold sR;rw[aM];constructor
 .rintro⟨j,a,rfl⟩;have(_,b):=cf.mp a;show(by lia,by show b)
 .rintro⟨d,h⟩;show(S i,cf.mpr (fG.mpr ?_,h),by lia)
  by_cases c:S i<Z ws
  .show c
  .rw[bE,gb (by lia)]at h
   nomatch h
def Jm(p:Prt):Cm [p.toD]=aa p.obj:=by
 cases p <;> rfl
variable{es:LOB}{L:LII}
def DV(h:InN es.length L)(hz:Z L<=100000):sK [.lst (L.map itD),.lst (es.map shD)]=aa (.int (cI (·==aa ac) es L)):=by
 show cV (cU (aH (ap (bV (fm L itD _ _ rfl (by lia) λz a=>(dS rfl (bA (ao (bj rfl rfl (jC (h z a).1 (h z a).2.1)) rfl (pV _ _))) λ_=>rfl))) rfl) (y8 (λt=>es.getD t.toNat ab==aa ac) L)))
def DY(h:InN es.length L)(hz:Z L<=100000):qr [.lst (L.map itD),.lst (es.map shD)]=aa (.int (cI (λe=>!(e==aa af)) es L)):=by
 show cV (cU (aH (ap (bV (fm L itD _ _ rfl (by lia) λz a=>(dS rfl (bA (ao (bj rfl rfl (jC (h z a).1 (h z a).2.1)) rfl (GS _ _))) λ_=>rfl))) rfl) (y8 (λt=>!(es.getD t.toNat ab==aa af)) L)))
variable{ws:LB0}
def Jn(h:InN es.length L)(c:Z ws=Z es)(hz:Z L<=100000):
  vZ [.lst (L.map itD),.lst (ws.map D.bl)]=aa (.lst ((L.filter λz=>!(ws.getD z.1.toNat af)).map itD)):=by
 show lR (congrArg _ (fm L itD _ itD rfl (by lia) λz a=>?_));have b:=h z a;show dS rfl (jB (cy (bj rfl rfl (j9 b.1 (by rw[c];show b.2.1))) rfl)) λ_=>rfl
def U0(h:InN es.length L)(hz:Z L<=100000):
  qr [.lst ((L.filter λz=>!(ws.getD z.1.toNat af)).map itD),.lst (es.map shD)]=aa (.int (bQ (λt=>!(es.getD t.toNat ab==aa af) && !(ws.getD t.toNat af)) L)):=by
 have c:=hE (λz:Int×Int=>!(ws.getD z.1.toNat af)) L;have a:InN es.length (L.filter λz=>!(ws.getD z.1.toNat af)):=λz b=>h z (cf.mp b).1;show(DY a (by lia)).trans (congrArg (λz=>aa _) (F0 (λt=>!(es.getD t.toNat ab==aa af)) (λt=>!(ws.getD t.toNat af)) L))
def U1(p:Prt)(h:p.Ok (Z es))(a:Z ws=Z es):∀m,m=(match p with |.inn _=>sI |.out _=>sM |.least _ _=>sJ |.most _ _=>sL) ->
  m [p.obj,.lst (es.map shD),.lst (ws.map D.bl)]=aa (.bl (p.lost es ws)):=by
 intro m e;subst e
 cases p with
 |inn t=>show cV (cU (u8 (ao (bj rfl rfl (jC h.1 h.2)) rfl (pV _ _)) (bj rfl rfl (j9 h.1 (by rw[a];show h.2)))))
 |out t=>show cV (cU (ao (bj rfl rfl (jC h.1 h.2)) rfl (pV _ _)))
 |least k L=>show cV (cU (ao (aH (ap (aH rfl (Jn h.1 a h.2)) (ap rfl rfl)) (U0 h.1 h.2)) rfl rfl))
 |most k L=>show cV (cU (ao (aH rfl (DV h.1 h.2)) rfl rfl))
variable{fo:MF1}{fa:MF2}
def Jo(p:Prt)(h:p.Ok (Z es))(b:Z ws=Z es)(a:fo M=aa p.obj)(ha:fa M=aa [.lst (es.map shD),.lst (ws.map D.bl)]):
  bi (aP "In" "lost" sI fo fa) (bi (aP "Out" "lost" sM fo fa) (bi (aP "Least" "lost" sJ fo fa) (aP "Most" "lost" sL fo fa))) M=aa (.bl (p.lost es ws)):=by
 have hm:=U1 p h b _ rfl
 cases p with
 |inn t=>show dU ((cE a rfl ha).trans hm)
 |out t=>show bK (bL a (by decide)) (dU ((cE a rfl ha).trans hm))
 |least k L=>show bK (bL a (by decide)) (bK (bL a (by decide)) (dU ((cE a rfl ha).trans hm)))
 |most k L=>show bK (bL a (by decide)) (bK (bL a (by decide)) (bK (bL a (by decide)) ((cE a rfl ha).trans hm)))
def U2(p:Prt)(h:p.Ok (Z es))(a:fo M=aa p.obj)(ha:fa M=aa [.lst (es.map shD)]):
  bi (aP "In" "sure" C9 fo fa) (bi (aP "Out" "sure" Dr fo fa) (bi (aP "Least" "sure" De fo fa) (aP "Most" "sure" Dk fo fa))) M=aa (.bl (p.sure es)):=by
 cases p with
 |inn t=>show dU ((cE a rfl ha).trans (cV (cU (ao (bj rfl rfl (jC h.1 h.2)) rfl (pV _ _)))))
 |out t=>show bK (bL a (by decide)) (dU ((cE a rfl ha).trans (cV (cU (ao (bj rfl rfl (jC h.1 h.2)) rfl (pV _ _))))))
 |least k L=>show bK (bL a (by decide)) (bK (bL a (by decide)) (dU ((cE a rfl ha).trans (cV (cU (ao (aH rfl (DV h.1 h.2)) rfl rfl))))))
 |most k L=>show bK (bL a (by decide)) (bK (bL a (by decide)) (bK (bL a (by decide)) ((cE a rfl ha).trans (cV (cU (ao (aH rfl (DY h.1 h.2)) rfl rfl))))))
variable{n:Nat}
def U3(r:Rul)(h:r.Ok n):m_2 [r.toD]=aa (.lst (r.ps.map Prt.obj)):=
 lR (congrArg _ (gt r.ps Prt.toD Prt.obj rfl (by have:=h.len;lia) λp _=>fZ rfl rfl (aH rfl (Jm p))))
structure Spr where
 es:LOB
 st:LD
 bs:LD
 gk:List (List Key)
 gd:LD
 ws:List (List Key×LD)
 wt:LD
 mks:D
 tl:List (Str×O)
def lsO(ds:LD):O:=.lst (ds.map .fz)
def wsO(ws:List (List Key×LD)):O:=.dT (ws.map (·.1)) (ws.map λp=>lsO p.2)
nonrec def spN:LSt:=["sheet","steps","bars","guards","watches","waiting","makers"]
nonrec def i5(tl:List (Str×O))(os:List O):O:=.ins "Seeking" (spN++tl.map (·.1)) (os++tl.map (·.2))
def Spr.o(s:Spr):O:=i5 s.tl [lsO (s.es.map shD),lsO s.st,lsO s.bs,.dT s.gk (s.gd.map .fz),wsO s.ws,lsO s.wt,.fz s.mks]
variable{l:Addr}{s:Spr}
def ke:ba "Seeking" "sheet" (aJ 0) (.deep (.at l s.o)::M)=aa (lsO (s.es.map shD),λx=>.at l (i5 s.tl [x,lsO s.st,lsO s.bs,.dT s.gk (s.gd.map .fz),wsO s.ws,lsO s.wt,.fz s.mks]),):=rfl
def D0:ba "Seeking" "steps" (aJ 0) (.deep (.at l s.o)::M)=aa (lsO s.st,λx=>.at l (i5 s.tl [lsO (s.es.map shD),x,lsO s.bs,.dT s.gk (s.gd.map .fz),wsO s.ws,lsO s.wt,.fz s.mks]),):=rfl
def D3:ba "Seeking" "bars" (aJ 0) (.deep (.at l s.o)::M)=aa (lsO s.bs,λx=>.at l (i5 s.tl [lsO (s.es.map shD),lsO s.st,x,.dT s.gk (s.gd.map .fz),wsO s.ws,lsO s.wt,.fz s.mks]),):=rfl
def Jp:ba "Seeking" "guards" (aJ 0) (.deep (.at l s.o)::M)=aa (.dT s.gk (s.gd.map .fz),λx=>.at l (i5 s.tl [lsO (s.es.map shD),lsO s.st,lsO s.bs,x,wsO s.ws,lsO s.wt,.fz s.mks]),):=rfl
def we:ba "Seeking" "watches" (aJ 0) (.deep (.at l s.o)::M)=aa (wsO s.ws,λx=>.at l (i5 s.tl [lsO (s.es.map shD),lsO s.st,lsO s.bs,.dT s.gk (s.gd.map .fz),x,lsO s.wt,.fz s.mks]),):=rfl
def qv:ba "Seeking" "waiting" (aJ 0) (.deep (.at l s.o)::M)=aa (lsO s.wt,λx=>.at l (i5 s.tl [lsO (s.es.map shD),lsO s.st,lsO s.bs,.dT s.gk (s.gd.map .fz),wsO s.ws,x,.fz s.mks]),):=rfl
def U4:ba "Seeking" "makers" (aJ 0) (.deep (.at l s.o)::M)=aa (.fz s.mks,λx=>.at l (i5 s.tl [lsO (s.es.map shD),lsO s.st,lsO s.bs,.dT s.gk (s.gd.map .fz),wsO s.ws,lsO s.wt,x]),):=rfl
variable{p:Xp}{ds:LD}{R:O->O}
def sS(h:p M=aa (lsO ds,R,)):pC p M=aa ds:=by
 unfold pC;rw[h];show zR ds
def sT:∀(ds:LD),O.kns (ds.map .fz)=ac
 | []=>by rw[map_nil,O.kns]
 |d::ds=>by rw[bO,O.kns,O.kn,sT ds];rfl
def jK(h:p M=aa (lsO ds,R,)):pB p M=aa (.lst ds):=by
 unfold pB lsO at *;rw[h,ax,O.kn,sT,if_pos rfl,O.toD,yH]
def li(h:p M=aa (.fz d,R,)):pD p M=aa d:=by
 unfold pD;rw[h];rfl
variable{K:Fl->Prop}
def sU(h:p M=aa (lsO ds,R,))(a:f M=aa d)(hz:Z ds<16777216)(k:K (.nx (M.set i (.deep (R (lsO (ds++[d]))))))):wp (lh i p f) M K:=(_,by
 unfold lh lsO at *;rw[h,ax,a,ax];change(if Z (ds.map O.fz)<16777216 then aa _ else ab).map _=_;rw[if_pos (by grind),show ds.map O.fz++_=(ds++[d]).map .fz by rw[bf];rfl];rfl,k)
variable{ks:List (List Key)}{os:List O}{y:L2.D}
def U5{k:List Key}(hv:fv M=aa d)(h:p M=aa (.dT ks os,R,))(a:fk M=aa y)(b:lc y=aa k)(hn:a8 k ks=ab)(hz:Z ks<16777216)
 (q:K (.nx (M.set i (.deep (R (.dT (ks++[k]) (os++[.fz d]))))))):wp (qh i p fk fv) M K:=(_,by
 unfold qh;rw[hv,ax,h,ax,a,ax,b,ax];change(if a8 k ks=ab/\Z ks<16777216 then aa _ else ab).map _=_;rw[if_pos (hn,hz)];rfl,q)
abbrev gD(k:List Key)(y:D):List (List Key×LD)->List (List Key×LD)
 | []=>[(k,[y],)]
 |p::ws=>if p.1=k then (p.1,p.2++[y],)::ws else p::gD k y ws
def D4{k:List Key}{y:D}:∀{ws:List (List Key×LD)},a8 k (ws.map (·.1))=ab->gD k y ws=ws++[(k,[y],)]
 | [],_=>rfl
 |p::ws,h=>by
  rw[bO]at h;unfold a8 at h;split at h
  .lia
  .rename_i e;unfold gD;rw[if_neg e]
   cases h':a8 k _ with
   |none=>rw[D4 h'];rfl
   |some j=>rw[h']at h;cases h
def D5{k:List Key}{y:D}:∀{ws:List (List Key×LD)} {j:Nat},a8 k (ws.map (·.1))=aa j->∃p,ws[j]?=aa p/\p.1=k/\gD k y ws=ws.set j (p.1,p.2++[y],)
 | [],_,h=>by cases h
 |p::ws,j,h=>by
  rw[bO]at h;unfold a8 at h;split at h
  .rename_i e;cases h;show(p,rfl,e,?_);unfold gD
   grind
  .rename_i e
   cases h':a8 k _ with
   |none=>rw[h']at h;cases h
   |some i=>
    rw[h']at h;cases h;have(q,a,b,c):=D5 h';show(q,by rw[g8];show a,b,?_);unfold gD;rw[if_neg e,c];rfl
structure bW(c:Nat)(ws:List (List Key×LD)):Prop where
 ln:Z ws<=c
 al:∀p∈ws,Z p.2<=c
variable{c:Nat}{ws:List (List Key×LD)}
def bW.add(h:bW c ws)(k:List Key)(y:D):bW (c+1) (gD k y ws):=by
 cases a:a8 k _ with
 |none=>
  rw[D4 a];show(by rw[aV,gc];have:=h.ln;lia,λp e=>?_)
  rcases bw.mp e with q |q
  .have:=h.al p q;lia
  .grind
 |some j=>
  have(p,b,_,d):=D5 a;rw[d];show(by rw[iE];have:=h.ln;lia,λq f=>?_)
  rcases mem_or_eq_of_mem_set f with z |z
  .have:=h.al q z;lia
  .rw[z];have:=h.al p (dX b)
   grind
def U6{k:List Key}(h:a8 k ks=ab)(hz:Z ks<16777216):(O.dT ks os).apdK k d=aa (.dT (ks++[k]) (os++[.lst [.fz d]])):=by
 unfold O.apdK
 grind
variable{j:Nat}{o2:O}
def U7{k:List Key}{o1:O}(h:a8 k ks=aa j)(a:os[j]?=aa o1)(h2:o1.appd d=aa o2):(O.dT ks os).apdK k d=aa (.dT ks (os.set j o2)):=by
 unfold O.apdK
 grind
def U8(h:Z ds<16777216):(lsO ds).appd y=aa (lsO (ds++[y])):=by
 unfold lsO O.appd
 grind
def U9(h:bW c ws)(e:c<16777216)(k:List Key)(y:D):(wsO ws).apdK k y=aa (wsO (gD k y ws)):=by
 unfold wsO
 cases a:a8 k _ with
 |none=>
  rw[U6 a (by rw[az];have:=h.ln;lia),D4 a,bf,bf]
  rfl
 |some j=>
  have(p,b,_,d):=D5 a;rw[U7 a (by rw[cz,b];rfl) (U8 (by have:=h.al p (dX b);lia)),d,hV,hV,nY (x:=p.1) (by grind)]
def Va{g:MF1}{k:List Key}(h:p M=aa (wsO ws,R,))(b:g M=aa y)(f:lc y=aa k)(e:ae j M=aa d)(ok:bW c ws)(a:c<16777216)(q:K (.nx (M.set i (.deep (R (wsO (gD k d ws))))))):wp (qi i j p g) M K:=(_,by
 unfold qi;rw[h,ax,b,ax,f,ax,e,ax,U9 ok a];rfl,q)
variable{m:MTf}{ρ1:LS}{o0 o o':O}
def fN{cn a:Str}{f:Xa}(h:M[i]?=aa (.deep (.at l o0)))(hi:o0.isIns cn a=ac)(c:f M=aa (ds,ρ1,))(b:ρ1[i]?=aa (.deep (.at l o)))(hm:m l ds o=aa (o',d,)):cM i cn a m f M=aa (d,ρ1.set i (.deep (.at l o')),):=by
 unfold cM
 grind
def Vb{cn:Str}(h:fa M=aa ds)(hm:∀l,m l ds (.ins cn [] [])=aa (o,.non,)):n8 cn m fa M=aa o:=by
 unfold n8;rw[h,ax];have a:∃o,∀l,m l ds _=aa (o,.non,):=(o,hm);rw[dif_pos a];have:=a.choose_spec 0
 grind
def Js(l:Addr)(Q:O->D->Prop)(r:Fl):Prop:=match r with
 |.nx M=>∃o,M[0]?=aa (.deep (.at l o))/\Q o .non
 |.rtS d M=>∃o,M[0]?=aa (.deep (.at l o))/\Q o d
 | _=>False
variable{N:Nat}
def Vc{F:MF3}{Q:O->D->Prop}(h:wp F (vB N l ds o) (Js l Q)):∃o' d,eE N F l ds o=aa (o',d,)/\Q o' d:=by
 have(r,e,q):=h;unfold eE;rw[e,ax]
 cases r with
 |nx M=>have(o',a,q):=q;show(o',.non,by dsimp only;rw[Im a];rfl,q)
 |rtS d M=>have(o',a,q):=q;show(o',d,by dsimp only;rw[Im a];rfl,q)
 | _=>show q.elim
def fO{F:MF3}(h:wp F (vB N l ds o) (Js l λx y=>x=o'/\y=d)):eE N F l ds o=aa (o',d,):=by
 have(a,b,e,rfl,rfl):=Vc h;show e
def i4(h:f M=aa d)(k:K (.rtS d M)):wp (eM f) M K:=(_,by unfold eM;rw[h];rfl,k)
def gV{cn f:Str}{g:LS->Option O}{x:O}{q:O×(O->O)}(a:g M=aa x)(h:p M=aa q)(b:q.1.setF cn f x=aa o2)(k:K (.nx (M.set i (.deep (q.2 o2))))):wp (eR i cn f p g) M K:=(_,by
 unfold eR;rw[a,ax,h,ax,b];rfl,k)
def i0{f:Xe}{ρ':LS}(h:f M=aa (d,ρ',))(k:K (.nx ρ')):wp (dM f) M K:=(_,by unfold dM;rw[h];rfl,k)
def oe{f:MF2}(h:f M=aa ds):iz f M=aa (lsO ds):=by unfold iz lsO;rw[h];rfl
def sV(h:f M=aa d):jJ f M=aa (.fz d):=by unfold jJ;rw[h];rfl
variable{ns:LI0}
def Vd(h:f M=aa (.lst (ns.map D.int)))(a:Z ns<4000)(h2:Z (cL ns)<64):nN f M=aa ((cL ns).map D.int):=by
 unfold nN;rw[h,ax];change(iY _).bind _=_;rw[zw,ax,if_pos (a,h2)]
def Jt(h:∀x∈ns,0<=x/\x<(n:Int)):Z (cL ns)<=n:=by
 by_cases c:Z (cL ns)<=n
 .show c
 .have d:∀x∈cL ns,x∈(bI n).map λ(i:Nat)=>(i:Int):=λx e=>by
   have(a,b):=h x ((iy x ns).mp e);show aM.mpr (S x,fG.mpr (by lia),by lia)
  have:=(pY _ _ ((k8 ns).imp λh=>Int.ne_of_lt h) d (by rw[az,cN];lia)).length_eq;rw[az,cN]at this
  lia
def D6(h:f M=aa (.lst ds))(h':M[i]?=aa (.own C))(a:Z C+Z ds<=16777216):k4 i (kZ f) M=aa (.nx (M.set i (.own (C++ds)))):=by
 unfold k4 kZ;rw[h,h'];change(if Z C+Z ds<=16777216 then _ else ab)=_;rw[if_pos a]
variable{p:Prt}
def qw(h:p.Ok n):∀x∈nmP p,0<=x/\x<(n:Int):=λx a=>by
 cases p with
 |inn t=>
  have:x=t:=by simpa[nmP]using a
  subst this
  show h
 |out t=>
  have:x=t:=by simpa[nmP]using a
  subst this
  show h
 |least k L=>have(z,hz,rfl):=aM.mp a;show((h.1 z hz).1,(h.1 z hz).2.1)
 |most k L=>have(z,hz,rfl):=aM.mp a;show((h.1 z hz).1,(h.1 z hz).2.1)
def put(es:LOB)(k:Nat)(b:Bool):LOB:=es.set k (aa b)
def ce(es:LOB)(k:Nat)(b:Bool):Z (put es k b)=Z es:=iE
def dz(es:LOB){k j:Nat}(b:Bool)(h:j≠k):(put es k b).getD j ab=es.getD j ab:=by
 unfold put;rw[bE,bE,lu (eX h)]
def fq(es:LOB){k:Nat}(b:Bool)(h:k<Z es):(put es k b).getD k ab=aa b:=by
 unfold put;rw[bE,kj h];rfl
variable{es':LOB}
def Ju{q:Option Bool->Bool}(h:∀z∈L,q (es'.getD z.1.toNat ab)=q (es.getD z.1.toNat ab)):cI q es' L=cI q es L:=by
 unfold cI;rw[filter_congr h]
def Ve{k:Nat}{b:Bool}(a:p.Ok (Z es))(h:(k:Int)∉nmP p):p.sure (put es k b)=p.sure es:=by
 have ne:∀t:Int,0<=t->t∈nmP p->S t≠k:=λt d f e=>by
  grind
 cases p with
 |inn t=>
  have:=ne t a.1 (by simp[nmP]);change((put es k b).getD t.toNat ab==aa ac)=_;rw[dz es b this]
  rfl
 |out t=>
  have:=ne t a.1 (by simp[nmP]);change((put es k b).getD t.toNat ab==aa af)=_;rw[dz es b this]
  rfl
 |least c L=>
  change decide _=decide _
  rw[Ju (es:=es) λz hz=>by rw[dz es b (ne z.1 (a.1 z hz).1 (aM.mpr (z,hz,rfl)))]]
 |most c L=>
  change decide _=decide _;rw[Ju (es:=es) λz hz=>by rw[dz es b (ne z.1 (a.1 z hz).1 (aM.mpr (z,hz,rfl)))]]
def opn(es:LOB)(t:Int):Bool:=es.getD t.toNat ab==ab
abbrev nmL:Prt->LI0
 |.inn t=>[t]
 |.out t=>[t]
 |.least _ L=>cL (L.map (·.1))
 |.most _ L=>cL (L.map (·.1))
abbrev gW:Prt->Bool
 |.inn _=>ac
 |.out _=>af
 |.least _ _=>ac
 |.most _ _=>af
def sW(h:p.Ok n)(hn:n<=60):Z (nmL p)<64:=by
 cases p with
 |inn t=>change 1<64;decide
 |out t=>change 1<64;decide
 |least k L=>have:=Jt (qw h);change(cL _).length<64;show mJ this (by lia)
 |most k L=>have:=Jt (qw h);change(cL _).length<64;show mJ this (by lia)
variable{t:Int}
def sX:t∈nmL p↔t∈nmP p:=by
 cases p with
 |inn u=>show Iff.rfl
 |out u=>show Iff.rfl
 |least k L=>show iy t _
 |most k L=>show iy t _
def Jv(a:Z L<=1000)(h2:Z (cL (L.map (·.1)))<64):vQ [.lst (L.map itD)]=aa (.lst ((cL (L.map (·.1))).map D.int)):=by
 show lR (congrArg _ (Vd (bV ?_) (by rw[az];lia) h2));rw[map_map];show gt L itD _ rfl (by lia) λz _=>fZ rfl rfl rfl
def Jw(p:Prt)(h:p.Ok n)(hn:n<=60)(b:Z (nmP p)<=1000)(a:fo M=aa p.obj):
  bi (aP "In" "named" vP fo λ_=>aa []) (bi (aP "Out" "named" vT fo λ_=>aa []) (bi (aP "Least" "named" vR fo λ_=>aa []) (aP "Most" "named" vS fo λ_=>aa []))) M=aa (.lst ((nmL p).map D.int)):=by
 have c:=sW h hn
 cases p with
 |inn t=>show dU ((cE a rfl rfl).trans rfl)
 |out t=>show bK (bL a (by decide)) (dU ((cE a rfl rfl).trans rfl))
 |least k L=>
  have e:=Jv (by simpa[nmP]using b) c
  show bK (bL a (by decide)) (bK (bL a (by decide)) (dU ((cE a rfl rfl).trans (cV (cU (aH rfl e))))))
 |most k L=>
  show bK (bL a (by decide)) (bK (bL a (by decide)) (bK (bL a (by decide)) ((cE a rfl rfl).trans (cV (cU (aH rfl (Jv (by simpa[nmP]using b) c)))))))
def Vf(p:Prt)(a:fo M=aa p.obj):
  bi (aP "In" "wants" B3 fo λ_=>aa []) (bi (aP "Out" "wants" Cd fo λ_=>aa []) (bi (aP "Least" "wants" B7 fo λ_=>aa []) (aP "Most" "wants" Ca fo λ_=>aa []))) M=aa (.bl (gW p)):=by
 cases p with
 |inn t=>show dU ((cE a rfl rfl).trans rfl)
 |out t=>show bK (bL a (by decide)) (dU ((cE a rfl rfl).trans rfl))
 |least k L=>show bK (bL a (by decide)) (bK (bL a (by decide)) (dU ((cE a rfl rfl).trans rfl)))
 |most k L=>show bK (bL a (by decide)) (bK (bL a (by decide)) (bK (bL a (by decide)) ((cE a rfl rfl).trans rfl)))
nonrec def Wss:=List (List Key×LD)
def gE(t:Int)(b:Bool):List Key:=[.inl t,.inl (cond b 1 0)]
def wg(y:D)(ws:Wss)(p:Prt):Wss:=(nmL p).foldl (λws t=>gD (gE t (gW p)) y ws) ws
def oh(y:D)(ps:List Prt)(ws:Wss):Wss:=ps.foldl (wg y) ws
def bW.ts{c:Nat}{b:Bool}{y:D}:∀(ts:LI0) {ws:Wss},bW c ws->bW (c+Z ts) (ts.foldl (λws t=>gD (gE t b) y ws) ws)
 | [],_,h=>h
 |t::ts,ws,h=>by
  have:=bW.ts (b:=b) (y:=y) ts (h.add (gE t b) y);rw[cB,show c+_=c+1+ts.length by lia];show this
def bW.le{a:Nat}{ws:Wss}(h:bW c ws)(b:c<=a):bW a ws:=(cZ h.ln b,λp d=>cZ (h.al p d) b)
def PrK(n:Nat)(p:Prt):Prop:=p.Ok n/\Z (nmP p)<=1000
def bW.prt{ws:Wss}(h:bW c ws)(a:PrK n p)(hn:n<=60):bW (c+64) (wg y ws p):=by
 have:=sW a.1 hn;show(bW.ts _ h).le (by lia)
def bW.reg{n:Nat}{y:D}(hn:n<=60):∀{ps:List Prt} {c:Nat} {ws:Wss},(∀p∈ps,PrK n p)->bW c ws->bW (c+64*Z ps) (oh y ps ws)
 | [],_,_,_,h=>h
 |p::ps,c,ws,hp,h=>by
  have:=bW.reg (y:=y) hn (λq a=>hp q (bp _ a)) (h.prt (y:=y) (hp p aA) hn);rw[cB,show c+64*_=c+64+64*ps.length by lia];show this
def wj(s:Spr)(y:D)(k:List Key)(ps:List Prt):Spr:={s with gk:=s.gk++[k],gd:=s.gd++[.lst (ps.map Prt.obj)],ws:=oh y ps s.ws,wt:=s.wt++[y]}
def Vg(ds:LD)(d:D):ds.map O.fz++[.fz d]=(ds++[d]).map .fz:=by rw[bf];rfl
def Jx{k:List Key}(s:Spr)(ps:List Prt)(z:lc y=aa k)(m:a8 k s.gk=ab)(j:Z s.gk<16777216)(h:∀p∈ps,PrK n p)(hn:n<=60)(x:bW c s.ws)(A:c+64*Z ps<16777216)(hz:Z s.wt<16777216)(u:Z ps<=100000):
  sH l [y,.lst (ps.map Prt.obj)] s.o=aa ((wj s y k ps).o,.non,):=by
 apply fO;apply aj;show U5 rfl Jp rfl z m j ?_;rw[Vg];apply aj
 show du ps Prt.obj (λpre M=>∃g a,M=[.deep (.at l ({s with gk:=s.gk++[k],gd:=s.gd++_,ws:=oh y pre s.ws}:Spr).o),.im y,.im _,g,a]) rfl (_,_,rfl) ?_ ?_
 .rintro pre p post M ex ⟨g,a,rfl⟩;have e:p∈ps:=by rw[ex];simp
  have b:=h p e;have i:Z pre<Z ps:=by rw[ex];simp
  have f:bW _ (oh y pre s.ws):=bW.reg hn (λq w=>h q (by rw[ex];simp[w])) x;have r:=sW b.1 hn;show(_,rfl,?_);walk_at "nrm"
  show du _ D.int (λpr M=>∃a,M=[.deep (.at l ({s with gk:=s.gk++[k],gd:=s.gd++_,ws:=pr.foldl (λws t=>gD (gE t (gW p)) y ws) _}:Spr).o),.im y,.im _,.im p.obj,a]) (eB (Jw p b.1 hn b.2 rfl) rfl) (_,rfl) ?_ ?_
  .rintro pr t po M d ⟨a,rfl⟩;have v:Z pr<Z (nmL p):=by rw[d];simp
   show(_,rfl,?_);walk_at "nrm";show Va we (dC (ap rfl (ap (Vf p rfl) rfl))) rfl rfl (bW.ts pr f) (by lia) ?_;show(.im (.int t),?_);rw[eW];rfl
  .rintro M ⟨a,rfl⟩;show(.im p.obj,a,?_);unfold oh;rw[eW];rfl
 .rintro M ⟨g,a,rfl⟩;show sU qv rfl hz (_,rfl,rfl,rfl)
def mkD(r:Rul):D:=.tup [.int r.hd,.lst (r.ps.map Prt.obj)]
def dO(B:LRu):LRu:=B.filter λr=>r.w != .never
def grd(r:Rul):List Prt:=match r.w with
 |.may=>[.least 1 []]
 |.make=>r.ps++[.out r.hd]
 |.never=>r.ps
structure RuK(n:Nat)(r:Rul):Prop where
 ok:r.Ok n
 nm:∀p∈r.ps,Z (nmP p)<=1000
 len:Z r.ps<=1000
variable{r:Rul}
def wm(h:RuK n r):∀p∈grd r,PrK n p:=λp a=>by
 have(w,hd,ps):=r
 cases w with
 |may=>
  have:p=.least 1 []:=by simpa[grd]using a
  subst this
  show(((λz hz=>nomatch hz),cr _),cr _)
 |make=>
  rcases bw.mp (a)with q |q
  .show(h.ok.ps p q,h.nm p q)
  .rw[bv.mp q]
   show(h.ok.hd (λz=>by nomatch z),by change 1<=1000;decide)
 |never=>show(h.ok.ps p a,h.nm p a)
def D7(h:RuK n r):Z (grd r)<=1001:=by
 have(w,hd,ps):=r;have a:Z ps<=1000:=h.len
 cases w with
 |may=>change 1<=1001;decide
 |make=>change(ps++_).length<=1001;rw[aV,gc];lia
 |never=>change Z ps<=1001;lia
def Jy(r:Rul)(h:r.Ok n):o_2 [r.toD]=aa (r.ps.map Prt.obj):=
 nU (congrArg _ (gt r.ps Prt.toD Prt.obj rfl (by have:=h.len;lia) λp _=>fZ rfl rfl (aH rfl (Jm p))))
def Vh(r:Rul)(h:RuK n r):vW [r.toD]=aa (.lst ((grd r).map Prt.obj)):=by
 apply gA;have(w,hd,ps):=r
 cases w with
 |may=>
  apply aj;show aS rfl (λ_=>?_) (λz=>by nomatch z)
  first |show iZ rfl (jI rfl) |grind
 |make=>
  apply aj;show aS rfl (λz=>by nomatch z) (λ_=>bH ?_);walk_at "nrm";apply aj
  show eC (by first |show vp rfl (Jy (.make,hd,ps) h.ok) |show eb) ?_
  walk_at "nrm";apply aj;show aS rfl (λ_=>?_) (λz=>by nomatch z);show gz rfl rfl (by rw[az];change Z ps<_;have:Z ps<=1000:=h.len;lia) ?_;walk_at "nrm";show nR rfl (jI ?_);change D.lst _=D.lst ((ps++_).map Prt.obj);rw[bf]
  rfl
 |never=>
  apply aj;show aS rfl (λz=>by nomatch z) (λ_=>bH ?_);walk_at "nrm";apply aj
  show eC (by first |show vp rfl (Jy (.never,hd,ps) h.ok) |show eb) ?_
  walk_at "nrm";apply aj;show aS rfl (λz=>by nomatch z) (λ_=>bH ?_);walk_at "nrm";show nR rfl (jI rfl)
def sY(i:Nat):D:=.tup [.str "rule",.int i]
def oi(i:Nat):List Key:=[.inr "rule",.inl i]
def Vi(h:oi i=oi j):i=j:=by
 have:=uj (qU (qU h).2).1
 lia
def D8{a:Type}[DecidableEq a]{f:a}:∀{ns:List a},f∉ns->a8 f ns=ab
 | [],_=>rfl
 |n::ns,h=>by
  unfold a8;rw[if_neg (λe=>h (by rw[e];show aA)),D8 (λq=>h (bp _ q))];rfl
def sp0(es:LOB)(B:LRu):Spr:=(es,[],[],[],[],[],[],.lst ((dO B).map mkD),[])
def mi(s:Spr)(p:Nat×Rul):Spr:=wj s (sY p.1) (oi p.1) (grd p.2)
structure SpK(n i c:Nat)(s:Spr):Prop where
 gk:s.gk=(bI i).map oi
 gl:Z s.gd=i
 ws:bW c s.ws
 wt:s.wt=(bI i).map sY
def SpK.step(h:SpK n i c s)(hr:RuK n r)(hn:n<=60):SpK n (i+1) (c+65000) (mi s (i,r,)):=by
 show(?_,?_,?_,?_)
 .change s.gk++_=_;rw[range_succ,bf,h.gk];rfl
 .change(s.gd++[_]).length=_;rw[aV,h.gl];rfl
 .have:=bW.reg (y:=sY i) hn (wm hr) h.ws;have a:=D7 hr;show this.le (by lia)
 .change s.wt++_=_;rw[range_succ,bf,h.wt];rfl
def SpK.fresh(h:SpK n i c s):a8 (oi i) s.gk=ab:=D8 λq=>by
 rw[h.gk]at q;have(j,a,e):=aM.mp q;have:=Vi e;subst this;show gH _ (fG.mp a)
abbrev fw:Nat->LRu->List (Nat×Rul)
 | _,[]=>[]
 |i,r::B=>(i,r,)::fw (i+1) B
def Jz:∀(i:Nat) (B:LRu),iU i (B.map Rul.toD)=(fw i B).map λp=>D.tup [.int p.1,p.2.toD]
 | _,[]=>rfl
 |i,r::B=>by rw[bO,iU,Jz _ B];rfl
def sZ:∀(i:Nat) (B:LRu) (j:Nat),(fw i B)[j]?=(B[j]?).map λr=>(i+j,r,)
 | _,[],_=>rfl
 |i,r::B,0=>rfl
 |i,r::B,j+1=>by simp only[fw,g8,g8,sZ _ B j,show i+1+j=i+(j+1) by lia]
variable{B:LRu}
def JA{pre post:List (Nat×Rul)}{p:Nat×Rul}(h:fw 0 B=pre++p::post):p.1=Z pre/\p.2∈B/\Z pre<Z B:=by
 have a:(fw 0 B)[Z pre]?=aa p:=by rw[h,oK (aO _),Nat.sub_self];rfl
 rw[sZ]at a
 cases hr:B[Z pre]? with
 |none=>rw[hr]at a;nomatch a
 |some r=>
  rw[hr]at a;cases a;show(lA _,dX hr,(dh.mp hr).1)
def pl0(n:Int)(B:LRu):D:=.tup [.int n,.lst (B.map Rul.toD)]
def Vj(hi:fi M=aa (B.map Rul.toD))(hok:∀r∈B,r.Ok n)(hz:Z B<=1000):
  bu 1 [] fi (ay 0) (mB (m2 fY (mIx (ar 0) (kI 1)) kN)) (bC (ag (mIx (ar 0) (kI 1)) (ag (aw m_2 (ag (ae 0) nZ)) nZ))) M=aa ((dO B).map mkD):=by
 show fm B Rul.toD _ mkD hi (by lia) λr hr=>?_;have a:=U3 r (hok r hr);have(w,hd,ps):=r
 cases w with
 |never=>show dS rfl rfl λz=>by nomatch z
 |make=>show dS rfl rfl λ_=>dC (ap rfl (ap (aH rfl a) rfl))
 |may=>show dS rfl rfl λ_=>dC (ap rfl (ap (aH rfl a) rfl))
def dP{g:Xa}(h:f M=aa d)(h':g M=aa (ds,M,)):bP (mX f) g M=aa (d::ds,M,):=by
 unfold bP mX;rw[h];change(g M).map _=_;rw[h'];rfl
def wn{f:MF2}(h:f M=aa [.lst C]):jD f M=aa (iU 0 C):=by
 unfold jD;rw[h];rfl
def spI(es:LOB)(B:LRu):Spr:=(fw 0 B).foldl mi (sp0 es B)
def SpK.foldT{n:Nat}(hn:n<=60){es:LOB}{B:LRu}(hr:∀r∈B,RuK n r):∀(k:Nat),k<=Z B->SpK n k (65000*k) (((fw 0 B).take k).foldl mi (sp0 es B))
 | 0,_=>(rfl,rfl,⟨cr _,λ_ h=>nomatch h⟩,rfl)
 |k+1,h=>by
  have a:(fw 0 B)[k]?=aa (k,B[k],):=by rw[sZ,b7 h];simp
  have:=(SpK.foldT hn (es:=es) hr k (Nat.le_of_succ_le h)).step (hr B[k] (g9 h)) hn;rw[take_succ,a,eW,show 65000*_=65000*k+65000 by lia];show this
def SpK.fold(hn:n<=60)(hr:∀r∈B,RuK n r){pre post:List (Nat×Rul)}{p:Nat×Rul}(h:fw 0 B=pre++p::post):SpK n pre.length (65000*Z pre) (pre.foldl mi (sp0 es B)):=by
 have:=SpK.foldT hn (es:=es) hr pre.length (fJ (JA h).2.2);rw[h,take_left' rfl]at this;show this
def JB:∀(ps:List (Nat×Rul)) (s:Spr),(ps.foldl mi s).tl=s.tl
 | [],_=>rfl
 |p::ps,s=>JB ps _
def Vk(h:s.tl=[]):s.o.isIns "Seeking" "take_guard"=ac:=by
 cases s;cases h;rfl
variable{v:Int}
def Vl{bars:LD}(hn:n<=60)(hr:∀r∈B,RuK n r)(hz:Z B<=250)
 (k:∀b c,K (.nx [.deep (.at l (spI es B).o),.im (pl0 v B),.im (.lst bars),.im (.lst (es.map shD)),b,c,.no])):
  wp (bR (jD (ag (mIx (ar 1) (kI 1)) nZ)) (dk (bB (ay 5) (bB (ay 4) dD))) (dM (cM 0 "Seeking" "take_guard" sH (bP (mX (bC (ag (kSt "rule") (ag (ae 5) nZ)))) (bP (mX (aw vW (ag (ae 4) nZ))) cF)))))
   [.deep (.at l (sp0 es B).o),.im (pl0 v B),.im (.lst bars),.im (.lst (es.map shD)),.no,.no,.no] K:=by
 show du (fw 0 B) (λp=>D.tup [.int p.1,p.2.toD]) (λpre M=>∃b c,M=[.deep (.at l (pre.foldl mi (sp0 es B)).o),.im _,.im _,.im _,b,c,.no]) ?_ (_,_,rfl) ?_ ?_
 .rw[<- Jz];show wn (ap (bj rfl rfl rfl) rfl)
 .rintro pre p post M ex ⟨b,c,rfl⟩;have(e,f,h):=JA ex;have d:=SpK.fold (es:=es) hn hr ex;have a:=hr p.2 f;have g:=D7 a;show(_,rfl,?_);walk_at "nrm";show i0 (fN rfl (Vk (JB pre _)) (dP rfl (dP (aH rfl (Vh p.2 a)) rfl)) rfl (Jx _ _ rfl (by rw[e];show d.fresh) (by rw[d.gk,az,cN];lia) (wm a) hn d.ws (by lia) (by rw[d.wt,az,cN];lia) (by lia))) ?_;show(.im p.2.toD,.im (.int p.1),?_);rw[eW];rfl
 .rintro M ⟨b,c,rfl⟩;show k b c
def Vm(hn:n<=60)(hr:∀r∈B,RuK n r)(hz:Z B<=250)(l:Addr):Cp l [pl0 v B,.lst [],.lst (es.map shD)] (.ins "Seeking" [] [])=aa ((spI es B).o,.non,):=by
 apply fO;apply aj;show gV (oe rfl) rfl rfl ?_;apply aj;show gV (oe rfl) rfl rfl ?_;apply aj;show gV (oe rfl) rfl rfl ?_;apply aj;show gV rfl rfl rfl ?_;apply aj;show gV rfl rfl rfl ?_;apply aj;show gV (oe rfl) rfl rfl ?_;apply aj;show gV (sV (bV (Vj (eB (bj rfl rfl rfl) rfl) (λr h=>(hr r h).ok) (by lia)))) rfl rfl ?_;apply aj;show Vl hn hr hz λa b=>?_;show du ([]:LN) (λ_=>D.non) (λ_ M=>M=_) rfl rfl ?_ ?_
 .rintro pre x post M ex;simp at ex
 .rintro M rfl;show(_,rfl,rfl,rfl)
def hup(es:LOB)(wo:LB0)(r:Rul):Bool:=r.w != .never && (wo.getD r.hd.toNat af && !(r.bodyLost es wo))
def JC(h:r.w≠.never):(r.w != .never)=ac:=by grind
inductive lq(B:LRu)(es:LOB)(a:LB0):LB0->Prop
 |refl:lq B es a a
 |step {b:LB0} {r:Rul}:lq B es a b->r∈B->hup es b r=ac->lq B es a (b.set r.hd.toNat af)
def wq(l:LB0)(k j:Nat):(l.set k af).getD j af=(l.getD j af && !(k==j)):=by grind
variable{a b:LB0}
def lq.len(h:lq B es a b):Z b=Z a:=by
 induction h with
 |refl=>rfl
 |step _ _ _ c=>rw[iE,c]
def lq.sub(h:lq B es a b)(i:Nat):b.getD i af=ac->a.getD i af=ac:=by
 induction h with
 |refl=>show id
 |step _ _ _ c=>
  grind
variable{wo:LB0}
def JD(h:hup es wo r=ac):r.w≠.never/\wo.getD r.hd.toNat af=ac/\r.bodyLost es wo=af:=by
 unfold hup at h
 grind
variable{le:LB0}
def Vn(hr:r.Ok (Z es))(g:nM le wo)(h:hup es wo r=ac)(f:le.getD r.hd.toNat af=ac):hup es le r=ac:=by
 have(a,b,c):=JD h
 have e:r.bodyLost es le=af:=by
  cases q:r.bodyLost es le with
  |false=>rfl
  |true=>
   have(p,d,i):=any_eq_true.mp q;have:r.bodyLost es wo=ac:=any_eq_true.mpr (p,d,vb (cW.refl es) g (hr.ps p d) i);rw[c]at this
   nomatch this
 unfold hup;rw[JC a,f,e];rfl
def Vo{fin:LB0}(hok:∀r∈B,r.Ok (Z es))(h:lq B es a b)(l:Z le=Z a)(g:∀i,le.getD i af=ac->a.getD i af=ac)(f:∀i,fin.getD i af=ac->b.getD i af=ac)
 (n:∀r∈B,hup es le r=ac->fin.getD r.hd.toNat af=ac):∀i,le.getD i af=ac->b.getD i af=ac:=by
 induction h with
 |refl=>show g
 | @step b r m hr j c=>
  have d:=λi q=>by
   have:=f i q;rw[wq]at this
   simpa using (b6 _ _▸this).1
  have c:=c d;intro i q;rw[wq,c i q,oG]
  cases e:(S r.hd==i)with
  |false=>rfl
  |true=>
   exfalso;have e:S r.hd=i:=by simpa using e
   subst e;have w:nM le b:=(by rw[m.len,l],c);have:=f _ (n r hr (Vn (hok r hr) w j q));rw[wq]at this;simp at this
def ct(bs:LB0):Nat:=Z (bs.filter λb=>b)
def Vp(bs:LB0):ct bs<=Z bs:=hE _ _
def JE:∀(bs:LB0) (k:Nat),bs.getD k af=ac->ct (bs.set k af)+1=ct bs
 | [],k,h=>by simp at h
 |b::bs,0,h=>by
  subst h
  rfl
 |b::bs,k+1,h=>by
  have a:=JE bs k (by show h)
  cases b with
  |false=>show a
  |true=>
   change(ct _+1)+1=ct bs+1;rw[a]
def Vq(bs:LB0)(k:Nat)(b:Bool):(bs.map D.bl).set k (.bl b)=(bs.set k b).map D.bl:=by rw[hV]
def jL(es:LOB):LB0:=es.map λe=>!(e==aa af)
def Vr(hi:fi M=aa (es.map shD))(hz:Z es<=1000):bu 1 [] fi (ay 0) kY (m2 fY (ae 0) (kBl af)) M=aa ((jL es).map D.bl):=by
 unfold jL;rw[<- QH];show gt es shD _ hi (by lia) λe _=>fZ rfl rfl (ao rfl rfl (GS _ _))
abbrev D9:Option Prt->D
 |some p=>p.obj
 |none=>.non
def Ea(ps:List Prt)(h:∀p∈ps,p.Ok (Z es))(e:Z wo=Z es):m_4 [.lst (ps.map Prt.obj),.lst (es.map shD),.lst (wo.map D.bl)]=aa (D9 (ps.find? λp=>p.lost es wo)):=by
 apply gA;apply aj;show du ps Prt.obj (λpre M=>∃c,M=[.im _,.im _,.im _,c]/\∀p∈pre,p.lost es wo=af) rfl ⟨_,rfl,λ_ h=>nomatch h⟩ ?_ ?_
 .rintro pre p post M ex ⟨c,rfl,a⟩;have d:p∈ps:=by grind
  show(_,rfl,?_);walk_at "nrm";show aS (cy (Jo p (h p d) e rfl rfl) rfl) (λz=>?_) (λz=>bH ?_)
  .show QJ rfl (dH ?_);rw[ex,find?_append,find?_eq_none.mpr λq b=>by rw[a q b];show bN,find?_cons_of_pos z];rfl
  .show(.im p.obj,rfl,λq b=>?_)
   grind
 .rintro M ⟨c,rfl,a⟩;show dG rfl (dH ?_);rw[find?_eq_none.mpr λq b=>by rw[a q b];grind];rfl
def Vs(x:Option Prt):dIs (D9 x) .non=aa (.bl x.isNone):=by
 cases x with
 |none=>rfl
 |some p=>cases p <;> rfl
def Eb(r:Rul):(r.ps.find? λp=>p.lost es wo).isNone=!(r.bodyLost es wo):=by
 unfold Rul.bodyLost
 grind
def i6(es:LOB)(wo:LB0)(r:Rul):Bool:=wo.getD r.hd.toNat af && !(r.bodyLost es wo)
nonrec def kf:=LB0×LRu×LRu
def b5(es:LOB)(a:kf)(r:Rul):kf:=if i6 es a.1 r then (a.1.set r.hd.toNat af,a.2.1++[r],a.2.2,) else (a.1,a.2.1,a.2.2++[r],)
def d6(es:LOB)(wo:LB0)(us rest:LRu):kf:=rest.foldl (b5 es) (wo,us,[],)
abbrev oj(es:LOB):Nat->LB0->LRu->LRu->kf
 | 0,wo,us,rest=>(wo,us,rest,)
 |k+1,wo,us,rest=>if Z us<(d6 es wo us rest).2.1.length/\(d6 es wo us rest).1.any id=ac then oj es k (d6 es wo us rest).1 (d6 es wo us rest).2.1 (d6 es wo us rest).2.2 else d6 es wo us rest
def cm(es:LOB)(ms:LRu):kf:=oj es (Z ms+1) (jL es) [] ms
structure L3(es:LOB)(ms:LRu)(a:kf)(q:LRu):Prop where
 len:Z a.1=Z es
 pe:lq ms es (jL es) a.1
 us:∀r∈a.2.1,a.1.getD r.hd.toNat af=af
 pm:(a.2.1++a.2.2++q).Perm ms
variable{ms:LRu}
def L3.step{a:kf}{q:LRu}(h:L3 es ms a (r::q))(c:∀r∈ms,r.w≠.never):L3 es ms (b5 es a r) q:=by
 have hr:r∈ms:=h.pm.mem_iff.mp (by simp)
 unfold b5
 by_cases b:i6 es a.1 r=ac
 .rw[if_pos b];show(by rw[iE];show h.len,.step h.pe hr ?_,λx d=>?_,?_)
  .unfold hup;rw[JC (c r hr),oG];show b
  .change(a.1.set r.hd.toNat af).getD _ af=af;rw[wq]
   rcases bw.mp d with z |z
   .rw[h.us x z];rfl
   .grind
  .show List.Perm.trans ?_ h.pm;rw[cO,cO,cO];show xr _ ?_;change(r::(a.2.2++q)).Perm _;show perm_middle.symm
 .rw[if_neg b];show(h.len,h.pe,h.us,?_);have:a.2.1++(a.2.2++[r])++q=a.2.1++a.2.2++r::q:=by simp
  rw[this];show h.pm
def L3.fold{es:LOB}{ms:LRu}(b:∀r∈ms,r.w≠.never):∀{q:LRu} {a:kf},L3 es ms a q->L3 es ms (q.foldl (b5 es) a) []
 | [],_,h=>h
 |r::q,a,h=>L3.fold (a:=b5 es a r) b (h.step b)
def s9{es:LOB}:∀(q:LRu) (a:kf),(q.foldl (b5 es) a).2.1.length+(q.foldl (b5 es) a).2.2.length=Z a.2.1+Z a.2.2+Z q/\Z a.2.1<=(q.foldl (b5 es) a).2.1.length
 | [],a=>(by simp,aO _)
 |r::q,a=>by
  have(b,h2):=s9 q _;rw[fQ,b];unfold b5 at *
  grind
def JF{es:LOB}:∀(q:LRu) (a:kf),(q.foldl (b5 es) a).2.1.length=Z a.2.1->(q.foldl (b5 es) a).1=a.1/\(q.foldl (b5 es) a).2.2=a.2.2++q/\∀r∈q,i6 es a.1 r=af
 | [],a,_=>⟨rfl,(bT _).symm,λ_ h=>nomatch h⟩
 |r::q,a,h=>by
  rw[fQ]at h ⊢;have h2:=(s9 (es:=es) q (b5 es a r)).2
  by_cases b:i6 es a.1 r=ac
  .exfalso;have e:b5 es a r=(a.1.set r.hd.toNat af,a.2.1++[r],a.2.2,):=by unfold b5;rw[if_pos b]
   grind
  .have e:b5 es a r=(a.1,a.2.1,a.2.2++[r],):=by unfold b5;rw[if_neg b]
   rw[e]at h ⊢;have(c,d,f):=JF q _ h
   grind
def Vt{bs:LB0}(h:bs.any id=af)(i:Nat):bs.getD i af=af:=by
 rw[bE]
 cases e:bs[i]? with
 |none=>rfl
 |some b=>
  cases b with
  |false=>rfl
  |true=>rw[any_eq_true.mpr (ac,dX e,rfl)]at h;nomatch h
def JG{es:LOB}{ms:LRu}(d:∀r∈ms,r.w≠.never):∀(k:Nat) (wo:LB0) (us rest:LRu),L3 es ms (wo,us,[],) rest->Z rest<k->L3 es ms (oj es k wo us rest) []/\∀r∈ms,i6 es (oj es k wo us rest).1 r=af
 | 0,_,_,_,_,h=>absurd h (iF _)
 |k+1,wo,us,rest,h,hk=>by
  have a:=L3.fold d h;have c:=s9 (es:=es) rest (wo,us,[],);unfold oj;split
  .rename_i f;show JG d k _ _ _ (a.len,a.pe,a.us,?_) ?_
   .have:=a.pm;rw[bT]at this ⊢;show this
   .have:(d6 es wo us rest).2.1.length+(d6 es wo us rest).2.2.length=Z us+0+Z rest:=c.1;lia
  .rename_i f;show(a,λr hr=>?_)
   cases ha:(d6 es wo us rest).1.any id with
   |false=>unfold i6;rw[Vt ha];rfl
   |true=>
    have e:(d6 es wo us rest).2.1.length=Z us:=by
     have:Z us<=(d6 es wo us rest).2.1.length:=c.2
     grind
    have(b,g,i):=JF rest _ e;have b:(d6 es wo us rest).1=wo:=b
    rcases bw.mp (h.pm.mem_iff.mpr hr)with z |z
    .rw[bT]at z;rw[b];unfold i6;rw[h.us r z];rfl
    .grind
def JH(a:∀r∈ms,r.w≠.never):L3 es ms (cm es ms) []/\∀r∈ms,i6 es (cm es ms).1 r=af:=
 JG a _ _ _ _ (by unfold jL;rw[az],.refl,(λ_ h=>nomatch h),by simp) (di _)
def Vu{x:O}(h:Z s.tl<900):s.o.setF "Seeking" "makers" x=aa (i5 s.tl [lsO (s.es.map shD),lsO s.st,lsO s.bs,.dT s.gk (s.gd.map .fz),wsO s.ws,lsO s.wt,x]):=by
 change(if _/\Z (spN++s.tl.map (·.1))<1000 then _ else ab)=_;rw[if_pos (rfl,by rw[aV,az];change 7+_<_;lia)];rfl
def Vv(x:Z s.tl<900)(hm:s.mks=.lst (ms.map mkD))(I:Z s.es<=60)(hok:∀r∈ms,r.Ok (Z s.es))(Q:∀r∈ms,r.w≠.never)(hz:Z ms<=1000):
  DK l [] s.o=aa (({s with mks:=.lst (((cm s.es ms).2.1++(cm s.es ms).2.2).map mkD)}:Spr).o,.lst ((cm s.es ms).1.map D.bl),):=by
 have v:Z (jL s.es)=Z s.es:=by unfold jL;rw[az]
 apply fO;apply aj;show eC (Vr (sS ke) (by lia)) ?_;walk_at "nrm";apply aj;show eC rfl ?_;walk_at "nrm";apply aj;show bn ((li U4).trans (by rw[hm])) ?_;walk_at "nrm";apply aj;show bn rfl ?_;walk_at "nrm";apply aj;show p7 (λm M=>∃(wo:LB0) (us rest:LRu) (g:Bool) (E G e:Sl),M=[.deep _,.own (wo.map D.bl),.own (us.map mkD),.im (.lst (rest.map mkD)),.im (.bl g),E,G,e]/\Z wo=Z s.es/\(us++rest).Perm ms/\(g=ac->oj s.es m wo us rest=cm s.es ms/\Z rest<m)/\(g=af->(wo,us,rest,)=cm s.es ms)) ?_ _ _ _ ⟨jL s.es,[],ms,ac,_,_,_,rfl,v,tX _,λ_=>(rfl,di _),λz=>by nomatch z⟩ (by lia)
 .rintro m M ⟨wo,us,rest,g,E,G,e,rfl,B,c,L,J⟩;show(g,rfl,?_,?_)
  .rintro rfl;have(f,u):=L rfl;have y:Z us+Z rest=Z ms:=by have:=c.length_eq;rw[aV]at this;show this
   apply aj;show bn (aH rfl (f7 us mkD)) ?_;walk_at "nrm";apply aj;show eC rfl ?_;walk_at "nrm";apply aj;show du rest mkD (λpre M=>∃e,M=[.deep _,.own ((pre.foldl (b5 s.es) (wo,us,[],)).1.map D.bl),.own ((pre.foldl (b5 s.es) (wo,us,[],)).2.1.map mkD),.im _,.im _,.im _,.own ((pre.foldl (b5 s.es) (wo,us,[],)).2.2.map mkD),e]/\(pre.foldl (b5 s.es) (wo,us,[],)).1.length=Z s.es) rfl (_,rfl,B) ?_ ?_
   .rintro pre r post M ex ⟨e,rfl,b⟩;have j:r∈ms:=c.mem_iff.mp (by rw[ex];simp);have hr:=hok r j;have(C,U):=hr.hd (Q r j);have N:Z pre<Z rest:=by rw[ex];simp
    have i:(pre.foldl _ (wo,us,[],)).2.1.length+(pre.foldl _ (wo,us,[],)).2.2.length=Z us+0+Z pre:=(s9 (es:=s.es) pre _).1;generalize h:pre.foldl _ _=A at *;show(_,rfl,?_);walk_at "nrm"
    have x:(da (bx (mIx (ar 1) (mIx (ar 7) (kI 0)))) (mB (m2 dIs (aw m_4 (ag (mIx (ar 7) (kI 1)) (ag (pB (ba "Seeking" "sheet" (aJ 0))) (ag (cT 1) nZ)))) kN))) [.deep (.at l s.o),.own (A.1.map D.bl),.own (A.2.1.map mkD),.im (.lst (rest.map mkD)),.im (.bl ac),.im (.int (Z us)),.own (A.2.2.map mkD),.im (mkD r)]=aa (i6 s.es A.1 r):=by
     unfold i6;rw[<- Eb];show iq (cy (bj rfl (bj rfl rfl rfl) (j9 C (by lia))) rfl) (bA (ao (aH (ap (bj rfl rfl rfl) (ap (jK ke) (ap rfl rfl))) (Ea r.ps hr.ps b)) rfl (Vs _)))
    show aS x (λz=>?_) (λz=>?_)
    .apply aj;show pZ rfl (bj rfl rfl rfl) rfl C (by rw[az];lia) ?_;walk_at "nrm";show gz rfl rfl (by rw[az];lia) ?_;show(.im (mkD r),?_,?_)
     .rw[eW,h];change _=[_,Sl.own ((b5 s.es A r).1.map D.bl),.own ((b5 s.es A r).2.1.map mkD),_,_,_,.own ((b5 s.es A r).2.2.map mkD),_]
      unfold b5
      rw[if_pos z,<- Vq,bf];rfl
     .rw[eW,h];change(b5 s.es A r).1.length=_
      unfold b5
      rw[if_pos z,iE];show b
    .show gz rfl rfl (by rw[az];lia) ?_;have H:¬i6 s.es A.1 r=ac:=by rw[z];show bN
     show(.im (mkD r),?_,?_)
     .rw[eW,h];change _=[_,Sl.own ((b5 s.es A r).1.map D.bl),.own ((b5 s.es A r).2.1.map mkD),_,_,_,.own ((b5 s.es A r).2.2.map mkD),_]
      unfold b5
      rw[if_neg H,bf];rfl
     .rw[eW,h];change(b5 s.es A r).1.length=_
      unfold b5
      rw[if_neg H];show b
   .rintro M ⟨e,rfl,b⟩;have i:(d6 s.es wo us rest).2.1.length+(d6 s.es wo us rest).2.2.length=Z us+0+Z rest:=(s9 rest _).1;change wp _ [.deep _,.own ((d6 s.es wo us rest).1.map D.bl),.own ((d6 s.es wo us rest).2.1.map mkD),.im _,.im _,.im _,.own ((d6 s.es wo us rest).2.2.map mkD),e] _;replace b:(d6 s.es wo us rest).1.length=Z s.es:=b
    have d:((d6 s.es wo us rest).2.1++(d6 s.es wo us rest).2.2).Perm ms:=by
     have gen:∀(q:LRu) a,((q.foldl (b5 s.es) a).2.1++(q.foldl (b5 s.es) a).2.2).Perm (a.2.1++a.2.2++q):=by
      intro q
      induction q with
      |nil=>intro a;simp
      |cons r q T=>
       intro a;show(T _).trans ?_
       unfold b5
       split
       .change(a.2.1++[r]++a.2.2++q).Perm _;rw[cO,cO,cO];show xr _ ?_;change(r::(a.2.2++q)).Perm _;show perm_middle.symm
       .change(a.2.1++_++q).Perm _;rw[show a.2.1++_++q=a.2.1++a.2.2++r::q by simp]
     show(gen rest _).trans ?_;rw[bT];show c
    cases m with
    |zero=>show absurd u (iF _)
    |succ m=>
     unfold oj at f;generalize h:d6 s.es wo us rest=A at *;apply aj;show bn rfl ?_;walk_at "nrm";show bn (rV (ao (aH rfl (f7 A.2.1 mkD)) rfl nQ) (aH rfl (GY A.1))) ?_
     by_cases n:Z us<Z A.2.1/\A.1.any id=ac
     .rw[if_pos n]at f;have p:(decide ((Z us:Int)<Z A.2.1) && A.1.any id)=ac:=by rw[n.2,decide_eq_true (by lia)];rfl
      rw[p];show⟨m,di _,A.1,A.2.1,A.2.2,ac,_,_,_,rfl,b,d,λ_=>(f,by lia),λz=>by nomatch z⟩
     .rw[if_neg n]at f
      have p:(decide ((Z us:Int)<Z A.2.1) && A.1.any id)=af:=by
       cases ha:A.1.any id with
       |false=>show tQ _
       |true=>
        have:¬Z us<Z A.2.1:=λq=>n (q,ha);rw[decide_eq_false (by lia)];rfl
      rw[p];show(0,oU _,A.1,A.2.1,A.2.2,af,_,_,_,rfl,b,d,(λz=>by nomatch z),λ_=>f)
  .rintro rfl;have y:Z us+Z rest=Z ms:=by have:=c.length_eq;rw[aV]at this;show this
   rw[<- (J rfl)];apply aj;show gV (sV (bV (DU rfl rfl (by rw[az,az];lia)))) rfl (Vu x) ?_;rw[<- bf];show i4 rfl (_,rfl,rfl,rfl)
def prD(z:Int×Bool):D:=.tup [.int z.1,.bl z.2]
def Ec(es:LOB)(t:Int):dIs (shD (es.getD t.toNat ab)) .non=aa (.bl (opn es t)):=by
 unfold opn
 cases es.getD t.toNat ab with
 |none=>rfl
 |some b=>cases b <;> rfl
def wt(L:LII)(j:Int):Int:=((L.filter λz=>z.1==j).map (·.2)).sum
def kW(W:LII):List Key:=W.map λz=>.inl z.1
def xW(W:LII):LD:=W.map λz=>.int z.2
def om(W:LII)(j:Int):Int:=((W.find? λz=>z.1==j).map (·.2)).getD 0
def upW(W:LII)(j v:Int):LII:=if W.any (λz=>z.1==j) then W.map (λz=>if z.1=j then (z.1,v,) else z) else W++[(j,v,)]
def JI(W:LII)(j:Int):gx (kW W) (.inl j)=W.any λz=>z.1==j:=by
 unfold gx kW;rw[any_map]
 congr 1
 funext z;show iD.mpr (by simp)
def Vw(W:LII)(j v:Int):iw (kW W) (.inl j)=kW (upW W j v):=by
 unfold iw upW;rw[JI];split
 .unfold kW;rw[map_map];show map_congr_left λz _=>?_;change _=iJ (if z.1=j then _ else z).1
  split <;> rfl
 .unfold kW;rw[bf];rfl
def Vx(W:LII)(j v:Int):iV (kW W) (xW W) (.inl j) (.int v)=xW (upW W j v):=by
 unfold iV upW;rw[JI];split
 .rename_i a;clear a;unfold kW xW
  induction W with
  |nil=>rfl
  |cons z W b=>
   simp only[bO,bO,tV,b,bO,bO]
   congr 1
   by_cases h:z.1=j
   .rw[if_pos (by rw[h]),if_pos h]
   .rw[if_neg λq=>h (uj q),if_neg h]
 .unfold xW;rw[bf];rfl
def JJ(W:LII)(j:Int):gS (kW W) (xW W) (.inl j)=(W.find? λz=>z.1==j).map λz=>D.int z.2:=by
 unfold gS kW xW
 induction W with
 |nil=>rfl
 |cons z W a=>
  grind
def JK(W:LII)(j:Int):(gS (kW W) (xW W) (.inl j)).getD (.int 0)=.int (om W j):=by
 rw[JJ];unfold om
 cases (W.find? λz=>z.1==j) <;> rfl
def wu(W:LII)(z:Int×Int):LII:=upW W z.1 (om W z.1+z.2)
def wts(L:LII):LII:=L.foldl wu []
structure WOk(W L:LII):Prop where
 nd:(W.map (·.1)).Nodup
 ks:∀j,j∈W.map (·.1)↔j∈L.map (·.1)
 vs:∀z∈W,z.2=wt L z.1
 ln:Z W<=Z L
def JL(L:LII)(z:Int×Int)(j:Int):wt (L++[z]) j=wt L j+if z.1=j then z.2 else 0:=by
 unfold wt;rw[km,bf,sum_append]
 congr 1
 by_cases h:z.1=j
 .rw[if_pos h,qN (by simp[h])];simp
 .rw[if_neg h,filter_cons_of_neg (by simp[h])];rfl
def Ed{j:Int}(h:j∉L.map (·.1)):wt L j=0:=by
 unfold wt
 rw[filter_eq_nil_iff.mpr λz hz=>by
  simp only[beq_iff_eq]
  grind]
 rfl
def WOk.get{W L:LII}(h:WOk W L)(j:Int):om W j=wt L j:=by
 unfold om
 cases e:W.find? _ with
 |none=>
  have hn:j∉W.map (·.1):=λq=>by
   grind
  rw[Ed λq=>hn ((h.ks j).mpr q)]
  rfl
 |some z=>
  have a:z.1=j:=by grind
  change z.2=_;rw[h.vs z (xm e),a]
def WOk.step{W L:LII}(h:WOk W L)(z:Int×Int):WOk (wu W z) (L++[z]):=by
 unfold wu upW;rw[h.get]
 by_cases d:W.any (λy=>y.1==z.1)=ac
 .rw[if_pos d]
  have f:(W.map λy=>if y.1=z.1 then (y.1,wt L z.1+z.2,) else y).map (·.1)=W.map (·.1):=by
   rw[map_map];show map_congr_left λy _=>?_;change(if y.1=z.1 then _ else y).1=_
   split <;> rfl
  show(by rw[f];show h.nd,λj=>?_,λy c=>?_,by rw[az,aV];have:=h.ln;lia)
  .rw[f,h.ks j,bf,bw];show(.inl,λq=>q.elim id λq=>?_);have(y,c,e):=any_eq_true.mp d;have g:j=z.1:=by simpa using q
   rw[g,<- (beq_iff_eq.mp e)];show(h.ks _).mp (aM.mpr (y,c,rfl))
  .have(x,l,ex):=aM.mp c;rw[JL]
   by_cases e:x.1=z.1
   .rw[if_pos e]at ex;rw[<- ex,if_pos e.symm,e]
   .rw[if_neg e]at ex;rw[<- ex,if_neg λq=>e q.symm,h.vs x l]
    lia
 .rw[if_neg d]
  have hn : z.1∉W.map (·.1):=λq=>d (by
   have(y,c,e):=aM.mp q;show any_eq_true.mpr (y,c,by simp[e]))
  show(?_,λj=>?_,λy c=>?_,by rw[aV,aV];have:=h.ln;change _+1<=_+1;lia)
  .rw[bf];show eV.mpr (h.nd,by simp,λa ha b i=>?_);have:b=z.1:=by simpa using i
   rw[this];show λq=>hn (q▸ha)
  .rw[bf,bf,bw,bw,h.ks j];rfl
  .rw[JL]
   rcases bw.mp c with q |q
   .have ne:z.1≠y.1:=λe=>hn (e▸aM.mpr (y,q,rfl));rw[if_neg ne,h.vs y q]
    lia
   .have:y=(z.1,wt L z.1+z.2,):=by simpa using q
    rw[this,if_pos rfl]
def qx(L:LII):WOk (wts L) L:=by
 have go:∀(post pre W:List _),WOk W pre->WOk (post.foldl wu W) (pre++post):=by
  intro post
  induction post with
  |nil=>intro pre W h;rw[bT];show h
  |cons z post a=>
   intro pre W h;have:=a _ _ (h.step z);rw[cO]at this;show this
 show go L [] [] (fH,λ_=>Iff.rfl,λz h=>(cG h).elim,aO _)
def JM(L:LII)(g:Z L<=100000):vX [.lst (L.map itD)]=aa (.kd (kW (wts L)) (xW (wts L))):=by
 apply gA;apply aj;show Hs rfl ?_;apply aj;show du L itD (λpre M=>∃a b,M=[.im _,.ownd (kW (wts pre)) (xW (wts pre)),a,b]) rfl (_,_,rfl) ?_ ?_
 .rintro pre z post M e ⟨a,b,rfl⟩;show(_,rfl,?_);change wp _ [.im _,.ownd _ _,.im _,.im _] _;have h:Z pre<=Z L:=by rw[e,aV];lia
  have f:=(qx pre).ln
  have d:wts (pre++[z])=upW (wts pre) z.1 (om (wts pre) z.1+z.2):=by
   unfold wts;rw[eW];rfl
  rw[d];generalize wts pre=W at f
  have c:qd 1 (ae 2) (kI 0) [.im (.lst (L.map itD)),.ownd (kW W) (xW W),.im (.int z.1),.im (.int z.2)]=aa (.int (om W z.1)):=by
   change aa ((gS _ _ _).getD _)=_;rw[JK]
  show Hs (o:=.nx [.im _,.ownd _ _,.im (.int z.1),.im (.int z.2)]) ?_ (_,_,rfl);unfold jF;rw[ao c rfl gB,ax];change(if Z (kW W)<16777216 then aa (Fl.nx [.im _,.ownd _ _,.im _,.im _]) else ab)=_;rw[if_pos (by unfold kW;rw[az];lia),Vw W z.1 _,Vx]
 .rintro M ⟨a,b,rfl⟩;show dG rfl (dH rfl)
def opI(es:LOB)(L:LII):LII:=L.filter λz=>opn es z.1
def hv(es:LOB)(L:LII)(lack:Int):LI0:=((wts (opI es L)).filter λz=>decide (z.2≥lack)).map (·.1)
def JN(h:InN es.length L)(d:Z L<=100000)(lack:Int):wa [.lst (L.map itD),.lst (es.map shD),.int lack]=aa (.lst ((hv es L lack).map D.int)):=by
 have c:Z (opI es L)<=Z L:=hE _ _;have ok:=qx (opI es L);have b:=ok.ln;apply gA;apply aj;show bn (aH (ap (bV (ds:=(opI es L).map itD) ?_) rfl) (JM _ (by lia))) ?_
 .show fm L itD _ itD rfl (by lia) λz hz=>?_;have a:=h z hz;show dS rfl (bA (ao (bj rfl (bj rfl rfl rfl) (jC a.1 a.2.1)) rfl (Ec es z.1))) λ_=>rfl
 generalize hW:wts _=W at ok b;show iZ ?_ (jI rfl);unfold hv;rw[hW,map_map];show fm W (λz=>D.int z.1) _ _ ?_ (by lia) λz hz=>?_
 .change aa _=_;unfold kW;rw[map_map];rfl
 .show dS rfl (bA (ao ?_ rfl Hw)) λ_=>rfl;change gS _ _ _=_;rw[JJ,H9 W ok.nd z hz];rfl
abbrev tps(es:LOB):Prt->List (Int×Bool)
 |.inn t=>if opn es t then [(t,ac,)] else []
 |.out t=>if opn es t then [(t,af,)] else []
 |.least k L=>(hv es L (k-cI (·==aa ac) es L)).map λt=>(t,ac,)
 |.most k L=>(hv es L (cI (λe=>!(e==aa af)) es L-k)).map λt=>(t,af,)
def ww(lack:Int):Z (hv es L lack)<=Z L:=by
 unfold hv;rw[az];have a:=hE (λz:Int×Int=>decide (z.2≥lack)) (wts (opI es L));have h2:=(qx (opI es L)).ln;have b:Z (opI es L)<=Z L:=hE _ _
 lia
def Vy(p:Prt)(h:p.Ok (Z es))(a:fo M=aa p.obj)(ha:fa M=aa [.lst (es.map shD)]):
  bi (aP "In" "tips" Dc fo fa) (bi (aP "Out" "tips" Dt fo fa) (bi (aP "Least" "tips" Di fo fa) (aP "Most" "tips" Dn fo fa))) M=aa (.lst ((tps es p).map prD)):=by
 cases p with
 |inn t=>
  show dU ((cE a rfl ha).trans (cV (cU (lY (bA (ao (bj rfl rfl (jC h.1 h.2)) rfl (Ec es t))) (λe=>?_) λe=>?_))))
  .change _=aa (D.lst ((if opn es t then _ else []).map prD));rw[if_pos e];rfl
  .change _=aa (D.lst ((if opn es t then _ else []).map prD));rw[if_neg (by grind)]
   rfl
 |out t=>
  show bK (bL a (by decide)) (dU ((cE a rfl ha).trans (cV (cU (lY (bA (ao (bj rfl rfl (jC h.1 h.2)) rfl (Ec es t))) (λe=>?_) λe=>?_)))))
  .change _=aa (D.lst ((if opn es t then _ else []).map prD));rw[if_pos e];rfl
  .change _=aa (D.lst ((if opn es t then _ else []).map prD));rw[if_neg (by grind)]
   rfl
 |least k L=>
  have b:=ww (es:=es) (L:=L) (k-cI (·==aa ac) es L);have h2:=h.2;show bK (bL a (by decide)) (bK (bL a (by decide)) (dU ((cE a rfl ha).trans ?_)));apply gA;apply aj;show bn (ao rfl (aH rfl (DV h.1 h.2)) l5) ?_;show iZ ?_ (jI rfl);change _=aa (((hv es L _).map λt=>_).map prD);rw[map_map]
  show gt _ D.int _ (eB (aH rfl (JN h.1 h.2 _)) rfl) (by lia) λt _=>fZ rfl rfl rfl
 |most k L=>
  have b:=ww (es:=es) (L:=L) (cI (λe=>!(e==aa af)) es L-k);have h2:=h.2;show bK (bL a (by decide)) (bK (bL a (by decide)) (bK (bL a (by decide)) ((cE a rfl ha).trans ?_)));apply gA;apply aj;show bn (ao (aH rfl (DY h.1 h.2)) rfl l5) ?_;show iZ ?_ (jI rfl);change _=aa (((hv es L _).map λt=>_).map prD);rw[map_map];show gt _ D.int _ (eB (aH rfl (JN h.1 h.2 _)) rfl) (by lia) λt _=>fZ rfl rfl rfl
abbrev neg(z:Int×Bool):Int×Bool:=(z.1,!z.2,)
abbrev pnx(es:LOB)(p:Prt):Option (List (Int×Bool))->List (Int×Bool)
 |none=>tps es p
 |some l=>l.filter λz=>decide (z∈tps es p)
abbrev pst(es:LOB)(a:Option (List (Int×Bool)))(p:Prt):Option (List (Int×Bool)):=if p.sure es then a else aa (pnx es p a)
abbrev tf:Option (List (Int×Bool))->D
 |none=>.non
 |some l=>.lst (l.map prD)
def JO(es:LOB):∀G:List Prt,G.foldl (pst es) (aa [])=aa []
 | []=>rfl
 |p::G=>by
  have:pst es (aa []) p=aa []:=by unfold pst;split <;> rfl
  rw[fQ,this];show JO es G
def Vz(h:p.Ok (Z es)):Z (tps es p)<=100000:=by
 cases p with
 |inn t=>
  change(if opn es t then _ else []).length<=100000;split
  .show(by decide:1<=100000)
  .show cr _
 |out t=>
  change(if opn es t then _ else []).length<=100000;split
  .show(by decide:1<=100000)
  .show cr _
 |least k L=>unfold tps;rw[az];show cZ (ww _) h.2
 |most k L=>unfold tps;rw[az];show cZ (ww _) h.2
def JP(x:Int×Bool)(l:List (Int×Bool)):f6 (prD x) (.lst (l.map prD))=aa (.bl (decide (x∈l))):=by
 have e:∀l:List _,dF (prD x) (l.map prD)=aa (decide (x∈l)):=by
  intro l
  induction l with
  |nil=>rfl
  |cons z l a=>
   change((deq 19 _ _).bind λb=>(dF _ _).map λr=>b || r)=_;rw[show deq 19 _ _=aa (z.1==x.1 && (z.2==x.2 && ac))from rfl,a];change aa _=_
   congr 1
   grind
 change((dF _ _).map D.bl)=_
 grind
abbrev JQ:Option (List (Int×Bool))->LD ⊕ D
 |none=>.inr .non
 |some l=>.inl (l.map prD)
abbrev prs(G:List Prt)(es:LOB):Option (List (Int×Bool)):=(G.foldl (pst es) ab).map λl=>l.map neg
abbrev kRN(x:LD ⊕ D):Fl->Prop
 |.rtO ds=>x=.inl ds
 |.rt d=>d.scalar=ac/\x=.inr d
 | _=>False
def VA{F:MF3}{x:LD ⊕ D}(h:wp F (eN N ds) (kRN x)):zX N F ds=aa x:=by
 have(r,e,q):=h;change(F _).bind Iv=aa x;rw[e,ax]
 cases r with
 |rtO us=>rw[show x=.inl us from q];rfl
 |rt d=>
  have(a,b):=q;rw[b]
  show if_pos a
 | _=>show q.elim
def VB(G:List Prt)(x:∀p∈G,p.Ok (Z es)):Dv [.lst (G.map Prt.obj),.lst (es.map shD)]=aa (JQ (prs G es)):=by
 apply VA;generalize m:D.lst _=q;apply aj;show bn rfl ?_;apply aj;show du G Prt.obj (λpre M=>∃h i,M=[.im q,.im _,.im (tf (pre.foldl (pst es) ab)),h,i]/\∀l,pre.foldl (pst es) ab=aa l->Z l<=100000) (by subst m;rfl) ⟨_,_,rfl,λl e=>by nomatch e⟩ ?_ ?_
 .rintro pre p post M u ⟨h,i,rfl,c⟩;have n:=x p (by rw[u];simp);have b:G.foldl (pst es) ab=post.foldl (pst es) (pst es (pre.foldl (pst es) ab) p):=by rw[u,eW,fQ]
  rw[eW,fQ,foldl_nil];generalize pre.foldl _ ab=a at c b;show(_,rfl,?_);show aS (jB (cy (U2 p n rfl rfl) rfl)) (λe=>?_) λe=>bH ?_
  .rw[xk]at e;have f:pst es a p=aa (pnx es p a):=by unfold pst;rw[if_neg (by rw[e];show bN)]
   apply aj;show bn (Vy p n rfl rfl) ?_;apply aj
   have v:(vIf (mB (m2 dIs (ae 2) kN)) (ae 4) (aR (bu 1 [4] (aW (ae 2)) (ay 0) (mB (m2 f6 (ae 0) (ae 1))) (ae 0)))) [.im q,.im (.lst (es.map shD)),.im (tf a),.im p.obj,.im (.lst ((tps es p).map prD))]=aa (tf (pst es a p))/\∀l,pst es a p=aa l->Z l<=100000:=by
    rw[f]
    cases a with
    |none=>show(rfl,λl e=>by cases e;show(Vz n))
    |some w=>
     have r:=c w rfl;show(lY rfl (λe=>by nomatch e) λ_=>bV (fm w prD _ prD rfl (by lia) λz _=>dS rfl (bA (ao rfl rfl (JP z _))) λ_=>rfl),λl e=>?_);cases e;show cZ (hE _ _) r
   show bn v.1 ?_;obtain⟨g,j⟩:∃g,pst es a p=aa g:=(_,f);have d:=v.2;rw[j]at b d ⊢
   cases g with
   |nil=>
    show aS rfl (λ_=>?_) λe=>by nomatch e
    show iZ rfl (?_);unfold prs;rw[b,JO]
    rfl
   |cons z g=>
    show aS rfl (λe=>by nomatch e) λ_=>bH (_,_,rfl,d)
  .rw[Bool.not_eq_false']at e;have f:pst es a p=a:=by unfold pst;rw[if_pos e]
   rw[f];show(_,_,rfl,c)
 .rintro M ⟨h,i,rfl,c⟩;unfold prs;generalize G.foldl _ ab=a at c;apply aj
  cases a with
  |none=>
   show aS rfl (λ_=>(dG rfl (rfl,rfl))) λe=>by nomatch e
  |some l=>
   have r:=c l rfl;show aS rfl (λe=>by nomatch e) λ_=>bH ?_;show iZ ?_ rfl;rw[map_map];show gt l prD _ rfl (by lia) λz _=>fZ rfl rfl rfl
def i7(h:opn es t=ac):es.getD t.toNat ab=ab:=by simpa[opn]using h
def JR(h:opn es t=ac):wt (opI es L) t=wt L t:=by
 unfold wt opI;rw[filter_filter]
 grind
def wx{lack:Int}:t∈hv es L lack↔opn es t=ac/\t∈L.map (·.1)/\wt L t≥lack:=by
 have ok:=qx (opI es L);constructor
 .intro h;have(z,hz,rfl):=aM.mp h;have(b,h2):=cf.mp hz;have h2:=of_decide_eq_true h2;have(y,c,a):=aM.mp ((ok.ks z.1).mp (aM.mpr (z,b,rfl)));have(g,d):=cf.mp c;rw[a]at d;show(d,aM.mpr (y,g,a),?_);rw[<- JR d,<- ok.vs z b];show h2
 .rintro⟨b,h2,f⟩;have(y,c,a):=aM.mp h2;have(z,hz,e):=aM.mp ((ok.ks t).mpr (aM.mpr (y,cf.mpr (c,by rw[a];show b),a)));show aM.mpr (z,cf.mpr (hz,decide_eq_true ?_),e);rw[ok.vs z hz,e,JR b];show f
def JS(es:LOB)(L:LII)(lack:Int):(hv es L lack).Nodup:=by
 unfold hv;show xp ((oO (p:=λz:Int×Int=>decide _)).map (·.1)) (qx _).nd
def Ee(z:Int×Int)(L:LII)(t:Int):wt (z::L) t=(if z.1=t then z.2 else 0)+wt L t:=by
 unfold wt
 grind
def wz(q:Option Bool->Bool)(es:LOB)(z:Int×Int)(L:LII):cI q es (z::L)=(if q (es.getD z.1.toNat ab) then z.2 else 0)+cI q es L:=by
 unfold cI
 grind
def Ef(h:InN n L)(t:Int):0<=wt L t:=by
 induction L with
 |nil=>show qL _
 |cons z L b=>
  have c:=h z aA;have h2:=b λy a=>h y (bp _ a);rw[Ee]
  grind
def lW{j:Int}{b:Bool}(t0:0<=t)(t1:t<(Z es:Int))(a:0<=j):(put es t.toNat b).getD j.toNat ab=if j=t then aa b else es.getD j.toNat ab:=by
 by_cases e:j=t
 .rw[if_pos e,e];show fq es b (by lia)
 .rw[if_neg e];show dz es b (by lia)
def wA(h:InN es.length L)(t0:0<=t)(t1:t<(Z es:Int))(a:opn es t=ac)(b:Bool):cI (·==aa ac) (put es t.toNat b) L=cI (·==aa ac) es L+if b then wt L t else 0:=by
 induction L with
 |nil=>cases b <;> rfl
 |cons z L d=>
  rw[wz,wz,Ee,(d λy c=>h y (bp _ c)),lW t0 t1 (h z aA).1]
  by_cases e:z.1=t
  .rw[if_pos e,if_pos e,e,i7 a]
   cases b with
   |true=>
    change z.2+(cI _ es L+wt L t)=0+cI _ es L+(z.2+wt L t)
    lia
   |false=>
    change 0+(cI _ es L+0)=0+cI _ es L+0
    lia
  .rw[if_neg e,if_neg e]
   split <;> split <;> lia
def wB(h:InN es.length L)(t0:0<=t)(t1:t<(Z es:Int))(a:opn es t=ac)(b:Bool):cI (λe=>!(e==aa af)) (put es t.toNat b) L=cI (λe=>!(e==aa af)) es L-if b then 0 else wt L t:=by
 induction L with
 |nil=>cases b <;> rfl
 |cons z L d=>
  rw[wz,wz,Ee,(d λy c=>h y (bp _ c)),lW t0 t1 (h z aA).1]
  by_cases e:z.1=t
  .rw[if_pos e,if_pos e,e,i7 a]
   cases b with
   |true=>
    change z.2+(cI _ es L-0)=z.2+cI _ es L-0
    lia
   |false=>
    change 0+(cI _ es L-wt L t)=z.2+cI _ es L-(z.2+wt L t)
    lia
  .rw[if_neg e,if_neg e]
   split <;> split <;> lia
def Eg(i:p.Ok (Z es))(d:p.sure es=af)(t:Int)(b:Bool):(t,b,)∈tps es p↔(0<=t/\t<(Z es:Int))/\opn es t=ac/\p.sure (put es t.toNat b)=ac:=by
 cases p with
 |inn t0=>
  have(f,g):=i;change _∈(if opn es t0 then _ else [])↔_
  have es':0<=t->t<_->(Prt.sure _ (.inn t0)=ac↔(if t0=t then aa b else es.getD t0.toNat ab)=aa ac):=λx y=>by
   rw[<- lW x y f];show beq_iff_eq
  have d:¬es.getD t0.toNat ab=aa ac:=λq=>by
   have:(es.getD t0.toNat ab==aa ac)=af:=d;rw[q]at this;show absurd this (by decide)
  constructor
  .intro h;split at h
   .rename_i c;have:(t,b,)=(t0,ac,):=by simpa using h
    cases this;show((f,g),c,(es' f g).mpr (if_pos rfl))
   .nomatch h
  .rintro⟨⟨x,y⟩,c,a⟩;have a:=(es' x y).mp a
   by_cases e:t0=t
   .rw[if_pos e]at a;cases a;rw[e,if_pos c];show aA
   .rw[if_neg e]at a
    show absurd a d
 |out t0=>
  have(f,g):=i;change _∈(if opn es t0 then _ else [])↔_
  have es':0<=t->t<_->(Prt.sure _ (.out t0)=ac↔(if t0=t then aa b else es.getD t0.toNat ab)=aa af):=λx y=>by
   rw[<- lW x y f];show beq_iff_eq
  have d:¬es.getD t0.toNat ab=aa af:=λq=>by
   have:(es.getD t0.toNat ab==aa af)=af:=d;rw[q]at this;show absurd this (by decide)
  constructor
  .intro h;split at h
   .rename_i c;have:(t,b,)=(t0,af,):=by simpa using h
    cases this;show((f,g),c,(es' f g).mpr (if_pos rfl))
   .nomatch h
  .rintro⟨⟨x,y⟩,c,a⟩;have a:=(es' x y).mp a
   by_cases e:t0=t
   .rw[if_pos e]at a;cases a;rw[e,if_pos c];show aA
   .rw[if_neg e]at a
    show absurd a d
 |least k L=>
  have hi:=i.1;have d:=of_decide_eq_false d;change _∈(hv es L _).map _↔(_/\_/\decide _=ac);rw[decide_eq_true_iff];constructor
  .intro h;have(u,hm,e):=aM.mp h;cases e;have(c,hn,l):=wx.mp hm;have(z,hz,j):=aM.mp hn;have hr:=hi z hz;rw[j]at hr;show((hr.1,hr.2.1),c,?_);rw[wA hi hr.1 hr.2.1 c,if_pos rfl];lia
  .rintro⟨⟨x,y⟩,c,a⟩;simp only[wA hi x y c]at a
   cases b with
   |false=>rw[if_neg (by decide)]at a;lia
   |true=>
    show aM.mpr (t,wx.mpr (c,?_,by lia),rfl)
    by_cases q:t∈L.map (·.1)
    .show q
    .rw[Ed q]at a
     lia
 |most k L=>
  have hi:=i.1;have d:=of_decide_eq_false d;change _∈(hv es L _).map _↔(_/\_/\decide _=ac);rw[decide_eq_true_iff];constructor
  .intro h;have(u,hm,e):=aM.mp h;cases e;have(c,hn,l):=wx.mp hm;have(z,hz,j):=aM.mp hn;have hr:=hi z hz;rw[j]at hr;show((hr.1,hr.2.1),c,?_);rw[wB hi hr.1 hr.2.1 c,if_neg (by decide)];lia
  .rintro⟨⟨x,y⟩,c,a⟩;rw[wB hi x y c]at a
   cases b with
   |true=>rw[if_pos rfl]at a;lia
   |false=>
    show aM.mpr (t,wx.mpr (c,?_,by lia),rfl)
    by_cases q:t∈L.map (·.1)
    .show q
    .rw[Ed q]at a
     lia
def wC(c:p.Ok (Z es))(t0:0<=t)(t1:t<(Z es:Int))(d:opn es t=ac)(b:Bool)(h:p.sure es=ac):p.sure (put es t.toNat b)=ac:=by
 have f:=i7 d
 cases p with
 |inn u=>
  have a:=beq_iff_eq.mp h;change((put es t.toNat b).getD u.toNat ab==aa ac)=ac;rw[lW t0 t1 c.1,if_neg (λe=>by rw[e,f]at a;nomatch a),a]
  rfl
 |out u=>
  have a:=beq_iff_eq.mp h;change((put es t.toNat b).getD u.toNat ab==aa af)=ac;rw[lW t0 t1 c.1,if_neg (λe=>by rw[e,f]at a;nomatch a),a]
  rfl
 |least k L=>
  have h:=of_decide_eq_true h;change decide _=ac;have:=Ef c.1 t;rw[decide_eq_true_iff,wA c.1 t0 t1 d]
  grind
 |most k L=>
  have h:=of_decide_eq_true h;change decide _=ac;have:=Ef c.1 t;rw[decide_eq_true_iff,wB c.1 t0 t1 d]
  grind
def VC(es:LOB)(p:Prt):((tps es p).map (·.1)).Nodup:=by
 have one:∀(q:Bool) (z:Int×Bool),((if q then [z] else []).map (·.1)).Nodup:=λq z=>by
  cases q
  .show fH
  .show b8.mpr (λh=>(cG h).elim,fH)
 cases p with
 |inn t=>show one _ _
 |out t=>show one _ _
 |least k L=>
  change(((hv es L _).map λt=>(t,ac,)).map (·.1)).Nodup;rw[map_map]
  show(map_id _).symm▸JS es L _
 |most k L=>
  change(((hv es L _).map λt=>(t,af,)).map (·.1)).Nodup;rw[map_map];show(map_id _).symm▸JS es L _
abbrev Eh(es:LOB)(G:List Prt):Option (List (Int×Bool))->Prop
 |none=>∀p∈G,p.sure es=ac
 |some l=>(∃p∈G,p.sure es=af)/\(∀z,z∈l↔∀p∈G,p.sure es=af->z∈tps es p)/\(l.map (·.1)).Nodup
def JT(es:LOB)(G:List Prt):Eh es G (G.foldl (pst es) ab):=by
 have go:∀(post pre:List Prt) b,Eh es pre b->Eh es (pre++post) (post.foldl (pst es) b):=by
  intro post
  induction post with
  |nil=>intro pre b h;rw[bT];show h
  |cons p post j=>
   intro pre b h;have:=j (pre++[p]) (pst es b p) ?_
   .grind
   unfold pst
   cases f:p.sure es with
   |true=>
    have hm:∀q,q∈pre++[p]->q∈pre\/q=p:=λq c=>(bw.mp c).imp id λe=>by simpa using e
    cases b with
    |none=>show λq c=>(hm q c).elim (h q) λe=>e▸f
    |some l=>
     have((q,c,i),h2,g):=h;show((q,bX _ c,i),λz=>?_,g)
     grind
   |false=>
    have d:p∈pre++[p]:=by simp
    cases b with
    |none=>
     show((p,d,f),λz=>?_,VC es p);show(λa q c e=>?_,λa=>a p d f)
     rcases bw.mp c with w |w
     .rw[h q w]at e;grind
     .have:q=p:=by simpa using w
      rw[this];show a
    |some l=>
     have(_,h2,g):=h;show((p,d,f),λz=>?_,xp ((oO (p:=λz=>decide (z∈tps es p))).map (·.1)) g);change z∈l.filter _↔_
     grind
 show go G [] ab λp d=>(cG d).elim
nonrec def Pr:=Int×Bool
nonrec abbrev LLP:=List (List Pr)
nonrec def Wy:=Bool×Nat
nonrec def Wt:=List (Pr×List Wy)
def wyS(b:Bool):Str:=cond b "bar" "rule"
def wyD(y:Wy):D:=.tup [.str (wyS y.1),.int y.2]
def wyK(y:Wy):List Key:=[.inr (wyS y.1),.inl y.2]
def eS(b:List Pr):D:=.lst (b.map prD)
def brP(z:Pr):Prt:=if z.2 then .inn z.1 else .out z.1
def brg(b:List Pr):List Prt:=b.map brP
variable{y:Wy}
def Ei{x:Wy}(h:wyK x=wyK y):x=y:=by
 have(a,i):=x;have(b,j):=y;have(c,h2):=qU h;have f:=uj (qU h2).1;have d:i=j:=by lia
 subst d;have e:wyS a=wyS b:=Sum.inr.inj c
 cases a <;> cases b <;> first |rfl |show absurd e (by decide)
variable{p q:Pr}
def JU(h:gE p.1 p.2=gE q.1 q.2):p=q:=by
 have(a,i):=p;have(b,j):=q;have(c,h2):=qU h
 grind
abbrev gM(p:Pr)(y:Wy):Wt->Wt
 | []=>[(p,[y],)]
 |q::tw=>if q.1=p then (q.1,q.2++[y],)::tw else q::gM p y tw
abbrev gX(p:Pr)(y:Wy):Wt->Wt
 | []=>[]
 |q::tw=>if q.1=p then (q.1,q.2.erase y,)::tw else q::gX p y tw
def look(tw:Wt)(p:Pr):List Wy:=match tw with
 | []=>[]
 |q::tw=>if q.1=p then q.2 else look tw p
def wtW(tw:Wt):Wss:=tw.map λq=>(gE q.1.1 q.1.2,q.2.map wyD,)
def JV(p:Pr)(y:Wy):∀tw:Wt,gD (gE p.1 p.2) (wyD y) (wtW tw)=wtW (gM p y tw)
 | []=>rfl
 |q::tw=>by
  change gD _ _ ((gE q.1.1 q.1.2,q.2.map wyD,)::wtW tw)=_;unfold gD gM
  by_cases e:q.1=p
  .rw[if_pos (by rw[e]),if_pos e];change _=(_,(q.2++[y]).map wyD,)::wtW tw
   grind
  .rw[if_neg (λz=>e (JU z)),if_neg e,JV p y tw];rfl
def ixW(p:Pr):∀tw:Wt,(a8 (gE p.1 p.2) ((wtW tw).map (·.1))=ab/\look tw p=[])\/∃j q,a8 (gE p.1 p.2) ((wtW tw).map (·.1))=aa j/\tw[j]?=aa q/\q.1=p/\look tw p=q.2/\∀y,gX p y tw=tw.set j (q.1,q.2.erase y,)
 | []=>.inl (rfl,rfl)
 |q::tw=>by
  change(a8 _ (gE q.1.1 q.1.2::(wtW tw).map (·.1))=ab/\_)\/∃j b,a8 _ (gE q.1.1 q.1.2::(wtW tw).map (·.1))=aa j/\_;unfold a8 look
  by_cases e:q.1=p
  .show .inr (0,q,if_pos (by rw[e]),rfl,e,if_pos e,λy=>?_);unfold gX
   grind
  .rw[if_neg (λz=>e (JU z)),if_neg e]
   rcases ixW p tw with⟨a,h2⟩ |⟨j,b,a,h2,c,d,f⟩
   .grind
   .show .inr (j+1,b,by rw[a];rfl,by rw[g8];show h2,c,d,λy=>?_);unfold gX
    grind
def wE(ds:LD):(lsO ds).items=aa ds:=zR ds
def VD(tw:Wt)(p:Pr):(wsO (wtW tw)).got (gE p.1 p.2)=aa ((look tw p).map wyD):=by
 unfold wsO O.got;dsimp only
 rcases ixW p tw with⟨a,h2⟩ |⟨j,q,a,h2,c,b,d⟩
 .grind
 .rw[a,b];dsimp only;rw[cz,wtW,cz,h2];show wE _
variable{tw:Wt}{pp:Xp}{g:MF1}
def Ej(h:pp M=aa (wsO (wtW tw),R,))(a:g M=aa (prD p)):iA pp g M=aa ((look tw p).map wyD):=by
 unfold iA;rw[h,ax,a,ax];show VD tw p
def VE(h:pp M=aa (wsO (wtW tw),R,))(e:g M=aa (prD p))(i:look tw p≠[]):∃a,lg pp g M=aa (lsO ((look tw p).map wyD),a,)/\∀y,a (lsO (((look tw p).erase y).map wyD))=R (wsO (wtW (gX p y tw))):=by
 rcases ixW p tw with⟨b,h2⟩ |⟨j,q,b,h2,f,c,d⟩
 .grind
 .show(λx=>R (.dT ((wtW tw).map (·.1)) (((wtW tw).map λp=>lsO p.2).set j x)),?_,λy=>?_)
  .unfold lg;rw[h,ax,e,ax];change((wsO _).key (gE p.1 p.2)).map _=_;unfold wsO O.key;dsimp only;rw[b,ax,cz,wtW,cz,h2,c];rfl
  .rw[d y,c];unfold wsO wtW;rw[hV,hV,hV,nY (by grind)]
def JW(z y:Wy):deq 19 (wyD z) (wyD y)=aa (z==y):=by
 rw[show deq 19 _ _=aa ((wyS z.1==wyS y.1) && ((_==_) && ac))from rfl]
 congr 1
 have(a,i):=z;have(b,j):=y;apply iD.mpr;simp only[b6,beq_iff_eq,Prod.mk.injEq,and_true];constructor
 .rintro⟨u,v⟩;show(?_,by lia)
  cases a <;> cases b <;> first |rfl |show absurd u (by decide)
 .grind
def Ek(y:Wy):∀X2:List Wy,dF (wyD y) (X2.map wyD)=aa (decide (y∈X2))
 | []=>rfl
 |z::X2=>by
  change((deq 19 _ _).bind λb=>(dF _ _).map λr=>b || r)=_;rw[JW,Ek y X2]
  grind
def JX(y:Wy):∀X2:List Wy,y∈X2->(X2.map wyD).eraseIdx ((X2.map wyD).findIdx (isE (wyD y)))=(X2.erase y).map wyD
 | [],h=>nomatch h
 |z::X2,h=>by
  have a:isE (wyD y) (wyD z)=(z==y):=by
   unfold isE;rw[JW]
   grind
  rw[bO,qR,a,erase_cons]
  cases e:z==y with
  |true=>rfl
  |false=>
   have:y∈X2:=by
    grind
   change wyD z::(X2.map wyD).eraseIdx _=_;rw[JX y X2 this];rfl
def VF{X2:List Wy}(h:y∈X2):(lsO (X2.map wyD)).remd (wyD y)=aa (lsO ((X2.erase y).map wyD)):=by
 unfold O.remd;rw[wE,ax,Ek,decide_eq_true h,if_pos rfl,JX y X2 h];rfl
def VG(y:Wy)(X2:List Wy):f6 (wyD y) (.lst (X2.map wyD))=aa (.bl (decide (y∈X2))):=by
 change((dF _ _).map D.bl)=_;rw[Ek];rfl
def gys(r b:Nat):List Wy:=(bI r).map (λi=>(af,i,))++(bI b).map λi=>(ac,i,)
def bS(B:LRu)(bs:LLP)(y:Wy):List Prt:=cond y.1 (brg (bs.getD y.2 [])) (((B[y.2]?).map grd).getD [])
def gdD(B:LRu)(bs:LLP)(y:Wy):D:=.lst ((bS B bs y).map Prt.obj)
def JY(r b:Nat):(gys r b).Nodup:=by
 show eV.mpr ((xq _ (λa b h e=>h (t4 e).2) nodup_range),(xq _ (λa b h e=>h (t4 e).2) nodup_range),?_)
 grind
variable{r:Nat}
def fA{b:Nat}:y∈gys r b↔y.2<cond y.1 b r:=by
 unfold gys;have(a,i):=y
 cases a <;> simp
def VH(r b:Nat):Z (gys r b)=r+b:=by unfold gys;simp
def El(r b:Nat):gys r (b+1)=gys r b++[(ac,b,)]:=by unfold gys;rw[range_succ];simp
def Em{b c:Type}[DecidableEq c]{f:b->c}(d:∀x y,f x=f y->x=y):∀{l:List b} {j:Nat} {a:b},l.Nodup->l[j]?=aa a->a8 (f a) (l.map f)=aa j
 | [],_,_,_,h=>by cases h
 |x::l,0,a,_,h=>by
  cases h
  show if_pos rfl
 |x::l,j+1,a,nd,h=>by
  have(g,i):=b8.mp nd;rw[bO];unfold a8;rw[if_neg (λe=>g (by grind)),Em d i h];rfl
structure Spt where
 es:LOB
 st:LD
 bs:LLP
 tw:Wt
 wt:List Wy
 ms:LRu
 pp:LD
 ct:Int
 en:Bool
def Spt.S(B:LRu)(s:Spt):Spr:=(s.es,s.st,s.bs.map eS,(gys B.length (Z s.bs)).map wyK,(gys B.length (Z s.bs)).map (gdD B s.bs),wtW s.tw,s.wt.map wyD,.lst (s.ms.map mkD),[("paper",lsO s.pp,),("count",.fz (.int s.ct),),("ended",.fz (.bl s.en),)])
def VI{s:Spt}(c:y∈gys B.length (Z s.bs))(b:g (.deep (.at l (s.S B).o)::M)=aa (wyD y)):pB (lg (ba "Seeking" "guards" (aJ 0)) g) (.deep (.at l (s.S B).o)::M)=aa (gdD B s.bs y):=by
 have(j,a):=oN c;unfold pB lg;rw[Jp,ax,b,ax];change(((O.dT ((gys B.length (Z s.bs)).map wyK) (((gys B.length (Z s.bs)).map _).map .fz)).key (wyK y)).map _).bind _=_;unfold O.key;dsimp only;rw[(Em (λ_ _=>Ei) (JY _ _) a),ax,cz,cz,a];rfl
def tj(y:Wy)(tw:Wt)(p:Prt):Wt:=(nmL p).foldl (λtw t=>gM (t,gW p,) y tw) tw
def ga(y:Wy)(ps:List Prt)(tw:Wt):Wt:=ps.foldl (tj y) tw
def VJ(y:Wy)(p:Prt)(tw:Wt):wg (wyD y) (wtW tw) p=wtW (tj y tw p):=by
 unfold wg tj;generalize nmL p=ts
 induction ts generalizing tw with
 |nil=>rfl
 |cons t ts a=>rw[fQ,fQ,JV (t,gW p,),a]
def wF(y:Wy)(ps:List Prt)(tw:Wt):oh (wyD y) ps (wtW tw)=wtW (ga y ps tw):=by
 unfold oh ga
 induction ps generalizing tw with
 |nil=>rfl
 |cons p ps a=>rw[fQ,fQ,VJ,a]
abbrev oq:Nat->LRu->Wt->Wt
 | _,[],tw=>tw
 |i,r::B,tw=>oq (i+1) B (ga (af,i,) (grd r) tw)
def JZ:∀(B:LRu) (i:Nat) (s:Spr) (tw:Wt),s.ws=wtW tw->(fw i B).foldl mi s=(s.es,s.st,s.bs,s.gk++(fw i B).map (λp=>oi p.1),s.gd++(fw i B).map (λp=>.lst ((grd p.2).map Prt.obj)),wtW (oq i B tw),s.wt++(fw i B).map (λp=>sY p.1),s.mks,s.tl)
 | [],i,s,tw,h=>by
  have(a,b,c,d,e,f,g,m,tl):=s;subst h;simp[fw]
  rfl
 |r::B,i,s,tw,h=>by
  rw[fw,fQ,JZ B _ _ (ga (af,i,) _ tw) (by rw[<- wF,<- h];rfl)];simp[mi,wj,oq]
def J0{a:Type}(f:Nat->a)(B:LRu):(fw 0 B).map (λp=>f p.1)=(bI (Z B)).map f:=by
 apply mF;intro j;rw[cz,sZ,cz]
 grind
def spT(es:LOB)(B:LRu):Spt:=(es,[],[],oq 0 B [],(bI (Z B)).map λi=>(af,i,),dO B,[],0,af)
def VL(es:LOB)(B:LRu):spI es B={(spT es B).S B with tl:=[]}:=by
 unfold spI;rw[JZ B 0 _ [] rfl,J0 oi,J0 sY];dsimp only[Spt.S,spT,sp0,gys];simp only[oS,map_nil,length_nil,range_zero,bT,map_map]
 congr 1
 apply mF;intro j;rw[cz,sZ,cz]
 by_cases h:j<Z B
 .rw[qM h];simp[gdD,bS,b7 h]
 .rw[gb (by lia),gb (by rw[cN];lia)];rfl
def tm(p q:Pr)(y:Wy):∀tw:Wt,look (gM p y tw) q=if q=p then look tw q++[y] else look tw q
 | []=>by
  change(if p=q then [y] else [])=if q=p then []++[y] else []
  grind
 |r::tw=>by
  by_cases e:r.1=p
  .rw[gM,if_pos e];change(if r.1=q then r.2++[y] else look tw q)=if q=p then (if r.1=q then r.2 else look tw q)++[y] else (if r.1=q then r.2 else look tw q)
   grind
  .rw[gM,if_neg e];change(if r.1=q then r.2 else look _ q)=if q=p then (if r.1=q then r.2 else look tw q)++[y] else (if r.1=q then r.2 else look tw q);rw[(tm p q y tw)]
   grind
def J4(p q:Pr)(y:Wy):∀tw:Wt,look (gX p y tw) q=if q=p then (look tw q).erase y else look tw q
 | []=>by
  split <;> rfl
 |r::tw=>by
  by_cases e:r.1=p
  .rw[gX,if_pos e];change(if r.1=q then r.2.erase y else look tw q)=if q=p then (if r.1=q then r.2 else look tw q).erase y else (if r.1=q then r.2 else look tw q)
   grind
  .rw[gX,if_neg e];change(if r.1=q then r.2 else look _ q)=if q=p then (if r.1=q then r.2 else look tw q).erase y else (if r.1=q then r.2 else look tw q);rw[(J4 p q y tw)]
   grind
nonrec def cn(tw:Wt)(p:Pr)(y:Wy):Nat:=(look tw p).count y
def gY:y∈look tw p↔0<cn tw p y:=count_pos_iff.symm
def VM{z:Wy}(h:z≠y):cn (gM p y tw) q z=cn tw q z:=by
 unfold cn;rw[tm];split
 .rw[count_append,count_singleton,if_neg (by rw[beq_iff_eq];show λe=>h e.symm)];rfl
 .rfl
def ot{y z:Wy}(h:z≠y)(q:Pr):∀(ps:List Prt) (tw:Wt),cn (ga y ps tw) q z=cn tw q z
 | [],_=>rfl
 |p::ps,tw=>by
  change cn (ga y ps _) q z=_;rw[ot h q ps];unfold tj;generalize nmL p=ts
  induction ts generalizing tw with
  |nil=>rfl
  |cons t ts a=>rw[fQ,a,VM h]
def VN(y:Wy)(tw:Wt)(z:Pr):tj y tw (brP z)=gM z y tw:=by
 have(t,b):=z
 cases b <;> rfl
def En(y:Wy)(q:Pr):∀(b:List Pr) (tw:Wt),cn (ga y (brg b) tw) q y=cn tw q y+b.count q
 | [],_=>rfl
 |z::b,tw=>by
  change cn (ga y (brg b) _) q y=_;rw[En y q b,VN,count_cons]
  have:cn (gM z y tw) q y=cn tw q y+if z==q then 1 else 0:=by
   unfold cn;rw[tm]
   by_cases e:q=z
   .rw[if_pos e,count_append,if_pos (by rw[e];show beq_self_eq_true z),count_singleton,if_pos (beq_self_eq_true y)]
   .rw[if_neg e,if_neg (by rw[beq_iff_eq];show λx=>e x.symm)];rfl
  lia
def lr(y:Wy)(ps:List Pr)(tw:Wt):Wt:=ps.foldl (λtw p=>gX p y tw) tw
def VO(p q:Pr)(y z:Wy)(tw:Wt):cn (gX p y tw) q z=if q=p/\z=y then cn tw q z-1 else cn tw q z:=by
 unfold cn;rw[J4]
 by_cases e:q=p
 .rw[if_pos e]
  by_cases f:z=y
  .rw[if_pos (e,f),f,count_erase_self]
  .rw[if_neg (λx=>f x.2),count_erase_of_ne f]
 .rw[if_neg e,if_neg (λx=>e x.1)]
def Eo(q:Pr)(y z:Wy):∀(ps:List Pr) (tw:Wt),ps.Nodup->cn (lr y ps tw) q z=if q∈ps/\z=y then cn tw q z-1 else cn tw q z
 | [],tw,_=>by rw[if_neg (λx=>nomatch x.1)];rfl
 |p::ps,tw,nd=>by
  have(a,b):=b8.mp nd;change cn (lr y ps _) q z=_;rw[Eo q y z ps _ b,VO]
  by_cases f:z=y
  .by_cases e:q=p
   .rw[if_neg (λx=>a (by rw[<- e];show x.1)),if_pos (e,f),if_pos (by rw[e];show aA,f)]
   .rw[if_neg (λx:q=p/\z=y=>e x.1)]
    by_cases g:q∈ps
    .rw[if_pos (g,f),if_pos (bp _ g,f)]
    .rw[if_neg (λx=>g x.1),if_neg (λx=>by rcases bc.mp x.1 with u |u;show e u;show g u)]
  .rw[if_neg (λx=>f x.2),if_neg (λx=>f x.2),if_neg (λx=>f x.2)]
def VP(h:bW c (wtW tw)):bW c (wtW (gX p y tw)):=by
 have gen:∀tw:Wt,Z (gX p y tw)=Z tw/\∀q∈gX p y tw,∃d∈tw,Z q.2<=Z d.2:=by
  intro tw
  induction tw with
  |nil=>show⟨rfl,λq h=>nomatch h⟩
  |cons r tw f=>
   dsimp only[gX];split
   .show(rfl,λq a=>?_)
    rcases bc.mp a with e |e
    .rw[e];show(r,aA,(erase_sublist).length_le)
    .show(q,bp _ e,aO _)
   .show(by rw[cB,f.1];rfl,λq a=>?_)
    rcases bc.mp a with e |e
    .rw[e];show(r,aA,aO _)
    .have(d,b,h2):=f.2 q e;show(d,bp _ b,h2)
 have(g,i):=gen tw;show(by unfold wtW;rw[az,g];have:=h.ln;unfold wtW at this;rwa [az]at this,λq a=>?_);have(x,j,rfl):=aM.mp a;have(l,b,h2):=i x j;have:=h.al _ (aM.mpr (l,b,rfl));rw[az]at this ⊢
 lia
def J5{c:Nat}{y:Wy}:∀{ps:List Pr} {tw:Wt},bW c (wtW tw)->bW c (wtW (lr y ps tw))
 | [],_,h=>h
 | _::ps,_,h=>J5 (ps:=ps) (VP h)
def Ep(h:bW c (wtW tw))(p:Pr):Z (look tw p)<=c:=by
 rcases ixW p tw with⟨_,h2⟩ |⟨j,q,b,h2,d,a,e⟩
 .rw[h2];show cr _
 .rw[a];have:=h.al _ (aM.mpr (q,dX h2,rfl))
  rwa [az]at this
def ou(nd:ns.Nodup)(h:∀x∈ns,0<=x/\x<(n:Int)):Z ns<=n:=by
 by_cases c:Z ns<=n
 .show c
 .have d:∀x∈ns,x∈(bI n).map λ(i:Nat)=>(i:Int):=λx e=>by
   have(a,b):=h x e;show aM.mpr (S x,fG.mpr (by lia),by lia)
  have:=(pY ns _ nd d (by rw[az,cN];lia)).length_eq;rw[az,cN]at this
  lia
structure df(n:Nat)(b:List Pr):Prop where
 nn:∀z∈b,0<=z.1/\z.1<(n:Int)
 nd:(b.map (·.1)).Nodup
variable{b:List Pr}
def df.pd(h:df n b):b.Nodup:=List.Pairwise.of_map _ (λ_ _ z e=>z (by rw[e])) h.nd
def df.len(h:df n b):Z b<=n:=by
 have:Z (b.map (·.1))<=n:=ou h.nd λx a=>by
  have(z,hz,rfl):=aM.mp a;show h.nn z hz
 rwa [az]at this
def df.nil(n:Nat):df n []:=((λ_ h=>nomatch h),fH)
structure d7(c r:Nat)(bs:LLP)(tw:Wt):Prop where
 wk:bW c (wtW tw)
 vl:∀p,∀y∈look tw p,y∈gys r (Z bs)
 br:∀j,(∀p,cn tw p (ac,j,)=0)\/(∀p,cn tw p (ac,j,)=if p∈bs.getD j [] then 1 else 0)
abbrev wider(tw:Wt):List Pr->List Wy
 | []=>[]
 |p::b=>(p::b).foldl (λX2 q=>X2.filter λy=>decide (y∈look tw q)) (look tw p)
def J6(tw:Wt):∀(b:List Pr) (X2:List Wy),(b.foldl (λX2 q=>X2.filter λy=>decide (y∈look tw q)) X2).Sublist X2/\∀y∈b.foldl (λX2 q=>X2.filter λy=>decide (y∈look tw q)) X2,∀p∈b,y∈look tw p
 | [],X2=>⟨qT _,λ_ _ _ h=>nomatch h⟩
 |q::b,X2=>by
  have(a,h2):=J6 tw b _;show(a.trans oO,λy c p d=>?_)
  rcases bc.mp d with e |e
  .rw[e];show of_decide_eq_true (cf.mp (a.subset c)).2
  .show h2 y c p e
def jM(bs:LLP)(tw:Wt)(y:Wy):Wt:=cond y.1 (lr y (bs.getD y.2 []) tw) tw
def mj(bs:LLP)(tw:Wt)(b:List Pr):Wt:=(wider tw b).foldl (jM bs) tw
def qy{bs:LLP}(c:∀b∈bs,b.Nodup)(p:Pr)(z:Wy):cn (jM bs tw y) p z=if y.1=ac/\p∈bs.getD y.2 []/\z=y then cn tw p z-1 else cn tw p z:=by
 have(a,j):=y
 cases a with
 |false=>rw[if_neg (λx=>by cases x.1)];rfl
 |true=>
  have nd:(bs.getD j []).Nodup:=by
   rw[bE]
   cases e:bs[j]? with
   |none=>show fH
   |some b=>show c b (dX e)
  change cn (lr _ _ tw) p z=_;rw[Eo p _ z _ _ nd]
  by_cases h:p∈bs.getD j []/\z=(ac,j,)
  .rw[if_pos h,if_pos (rfl,h)]
  .rw[if_neg h,if_neg (λx=>h x.2)]
def wG{bs:LLP}(a:∀b∈bs,b.Nodup)(p:Pr)(z:Wy):∀(X2:List Wy) (tw:Wt),z∉X2->cn (X2.foldl (jM bs) tw) p z=cn tw p z
 | [],_,_=>rfl
 |y::X2,tw,h=>by
  rw[fQ,wG a p z X2 _ (λq=>h (bp _ q)),qy a,if_neg (λx=>h (by rw[x.2.2];show aA))]
def Er{bs:LLP}(a:∀b∈bs,b.Nodup)(p:Pr)(z:Wy):∀(X2:List Wy) (tw:Wt),cn (X2.foldl (jM bs) tw) p z<=cn tw p z
 | [],_=>aO _
 |y::X2,tw=>by
  show cZ (Er a p z X2 _) ?_;rw[qy a]
  split <;> lia
def J7{c:Nat}{bs:LLP}:∀{X2:List Wy} {tw:Wt},bW c (wtW tw)->bW c (wtW (X2.foldl (jM bs) tw))
 | [],_,h=>h
 |y::X2,tw,h=>by
  show J7 (X2:=X2) ?_;unfold jM
  cases y.1 with
  |false=>show h
  |true=>show J5 h
def d7.wide{bs:LLP}(h:d7 c r bs tw)(a:(ac,j,)∈wider tw b):(∀p,cn tw p (ac,j,)=if p∈bs.getD j [] then 1 else 0)/\(wider tw b).count (ac,j,)=1/\(∀p∈b,p∈bs.getD j [])/\j<Z bs:=by
 cases b with
 |nil=>nomatch a
 |cons e b=>
  have(d,h2):=J6 tw _ _
  have ha:∀p,cn tw p (ac,j,)=if p∈bs.getD j [] then 1 else 0:=by
   rcases h.br j with z |z
   .have:=gY.mp (d.subset a)
    grind
   .show z
  show(ha,?_,λp f=>?_,fA.mp (h.vl e _ (d.subset a)))
  .have g:=count_pos_iff.mpr a;have i:(wider tw (e::b)).count _<=cn tw e (ac,j,):=d.count_le _
   grind
  .have:=gY.mp (h2 _ a p f)
   grind
def d7.dropped{bs:LLP}(h:d7 c r bs tw)(a:∀b∈bs,b.Nodup)(b:List Pr):d7 c r bs (mj bs tw b):=by
 show(J7 h.wk,λp y i=>h.vl p y (gY.mpr (fI (gY.mp i) (Er a p y _ _))),λj=>?_)
 by_cases d:(ac,j,)∈wider tw b
 .show .inl λp=>?_;have(ha,m,_):=h.wide d
  have gen:∀(X2:List Wy) tw,(ac,j,)∈X2->(∀p,p∉bs.getD j []->cn tw p (ac,j,)=0)->(∀p,cn tw p (ac,j,)<=1)->cn (X2.foldl (jM bs) tw) p (ac,j,)=0:=by
   intro X2
   induction X2 with
   |nil=>intro tw h;nomatch h
   |cons y X2 l=>
    intro tw hm f h2;rw[fQ]
    by_cases e:(ac,j,)=y
    .have:cn (jM bs tw y) p (ac,j,)=0:=by
      rw[qy a]
      by_cases g:p∈bs.getD j []
      .rw[if_pos (by rw[<- e],by rw[<- e];show g,e)];have:=h2 p
       lia
      .rw[f p g]
       split <;> rfl
     have:=Er a p (ac,j,) X2 (jM bs tw y)
     lia
    .show l _ (by rcases bc.mp hm with z |z;show absurd z e;show z) (λp g=>?_) λp=>?_
     .rw[qy a,if_neg (λx=>e x.2.2)];show f p g
     .rw[qy a,if_neg (λx=>e x.2.2)];show h2 p
  show gen _ _ d (λp g=>by rw[ha p,if_neg g]) λp=>by rw[ha p];split <;> lia
 .have e:∀p,cn (mj bs tw b) p _=cn tw p _:=λp=>wG a p _ _ _ d
  rcases h.br j with z |z
  .show .inl λp=>by rw[e];show z p
  .show .inr λp=>by rw[e];show z p
variable{p:Xp}
def VQ{q:O×(O->O)}(h:p M=aa q)(a:f M=aa d)(hr:q.1.remd d=aa o2)(k:K (.nx (M.set i (.deep (q.2 o2))))):wp (qj i p f) M K:=(_,by
 unfold qj;rw[h,ax,a,ax,hr];rfl,k)
def VR{a b:Sl}:ba "Seeking" "watches" (aJ 2) [a,b,.deep (.at l s.o)]=aa (wsO s.ws,λx=>.at l (i5 s.tl [lsO (s.es.map shD),lsO s.st,lsO s.bs,.dT s.gk (s.gd.map .fz),x,lsO s.wt,.fz s.mks]),):=rfl
def J8{l:Addr}{s:Spr}{tw:Wt}(g:s.ws=wtW tw):∀(b:List Pr) (v1 c d f:Sl) (X2:List Wy),Z X2<=16777216->∃a,me 2 3 1 [3,0] (ay 0) (mB (m2 f6 (ae 0) (aR (iA (ba "Seeking" "watches" (aJ 2)) (ae 1))))) (ae 0) (b.map prD) [.deep (.at l s.o),v1,c,d,f] (X2.map wyD)=aa ([.deep (.at l s.o),v1,c,a,f],(b.foldl (λX2 q=>X2.filter λy=>decide (y∈look tw q)) X2).map wyD,)
 | [],_,_,d,_,_,_=>(d,rfl)
 |p::b,v1,c,d,f,X2,hL=>by
  have(a,h):=J8 g b v1 c _ f _ (cZ (hE _ _) hL);show(a,?_);rw[bO];unfold me;rw[if_pos (by grind)]
  have e:fh (gQ (ay 0) (mB (m2 f6 (ae 0) (aR (iA _ (ae 1))))) (ae 0) [.no,.im _,.deep (.at l s.o)]) _=aa _:=
   u7 wyD _ wyD X2 λy _=>dS rfl (bA (ao rfl (bV (Ej (p:=p) (VR.trans (by rw[g])) rfl)) (VG y _))) λ_=>rfl
  change(fh (gQ _ _ _ [.no,.im _,.deep _]) _).bind _=_;rw[e,ax];show h
def VS(d:s.ws=wtW tw)(g:bW c (wtW tw))(f:c<=16777216)(k:∀h,K (.nx [.deep (.at l s.o),.im (eS b),.own ((wider tw b).map wyD),h,.no])):
  wp (qm 2 3 (bx (ae 1)) (iA (ba "Seeking" "watches" (aJ 0)) (mIx (ar 1) (kI 0))) (aW (ae 1)) 1 [3,0] (ay 0) (mB (m2 f6 (ae 0) (aR (iA (ba "Seeking" "watches" (aJ 2)) (ae 1))))) (ae 0)) [.deep (.at l s.o),.im (eS b),.no,.no,.no] K:=by
 cases b with
 |nil=>show(_,rfl,k .no)
 |cons p b=>
  have(a,e):=J8 d _ _ .no .no .no _ (cZ (Ep g p) f);show(_,?_,k a);unfold qm;rw[show bx _ _=aa ac from rfl,ax,show aW _ _=aa _ from rfl,ax,if_pos (show ac=!((p::b).map prD).isEmpty from rfl),Ej (p:=p) (we.trans (by rw[d])) (bj rfl rfl (lT (0,af,) (by decide) (by grind))),if_pos rfl,ax,e];rfl
def Es{bs:LLP}(a:∀b∈bs,df n b)(j:Nat):df n (bs.getD j []):=by
 rw[bE]
 cases e:bs[j]? with
 |none=>show df.nil n
 |some b=>grind
def VT(s:Spt)(b:List Pr)(ok:d7 c B.length s.bs s.tw)(G:c<16777216)(y:∀b∈s.bs,df n b):B0 l [eS b] (s.S B).o=aa ((({s with tw:=mj s.bs s.tw b}:Spt).S B).o,.non,):=by
 apply fO;apply aj;show VS rfl ok.wk (fJ G) λd=>?_
 show du _ wyD (λpre M=>∃d w,M=[.deep (.at l (({s with tw:=pre.foldl (jM s.bs) s.tw}:Spt).S B).o),.im _,.im _,d,w]) rfl (_,_,rfl) ?_ ?_
 .rintro pre ⟨a,j⟩ post M ex ⟨d,w,rfl⟩;show(_,rfl,?_);walk_at "nrm"
  cases a with
  |false=>
   show aS rfl (λz=>by nomatch z) (λ_=>bH ?_);show(d,.im (wyD (af,j,)),?_);rw[eW]
   rfl
  |true=>
   have(ha,A,_,H):=ok.wide (j:=j) (by rw[ex];simp)
   have m:(ac,j,)∉pre:=λq=>by
    grind
   have e:=Es y j
   show du (s.bs.getD j []) prD (λpr M=>∃d,M=[.deep (.at l (({s with tw:=lr (ac,j,) pr _}:Spt).S B).o),.im _,.im _,d,.im _]) (eB (bj (sS D3) (bj rfl rfl rfl) (lT [] (by lia) (by grind))) rfl) (_,rfl) ?_ ?_
   .rintro pr p po M i ⟨d,rfl⟩;have u:p∈s.bs.getD j []:=by grind
    have r:=λq=>by
     have:=e.pd;rw[i]at this;show(eV.mp this).2.2 p q p aA rfl
    have v:pr.Nodup:=by
     have:=e.pd
     grind
    have f : _∈look (lr (ac,j,) pr _) p:=gY.mpr (by
     rw[Eo p _ _ pr _ v,if_neg (λx=>r x.1),wG (λb h=>(y b h).pd) p _ _ _ m,ha p,if_pos u]
     grind)
    show(_,rfl,?_);walk_at "nrm"
    have(I,C,E):=VE (g:=ae 3) (M:=[.deep (.at l (({s with tw:=lr _ pr _}:Spt).S B).o),.im _,.im _,.im _,.im _]) we rfl (ne_nil_of_mem f)
    show VQ C rfl (VF f) ?_;dsimp only;rw[E];show(.im (prD p),?_);unfold lr;rw[eW];rfl
   .rintro M ⟨d,rfl⟩;show(d,.im (wyD (ac,j,)),?_);rw[eW];rfl
 .rintro M ⟨d,w,rfl⟩;show(_,rfl,rfl,rfl)
def VU(b:List Pr)(hz:Z b<=16777216):Ch [eS b]=aa (.lst ((brg b).map Prt.obj)):=by
 rw[show(brg b).map Prt.obj=b.map λz=>(brP z).obj from map_map]
 show lR (congrArg _ (gt b prD _ rfl hz λz _=>fZ rfl rfl (by
  have(t,x):=z
  cases x <;> rfl)))
def tq(h:df n b):∀p∈brg b,PrK n p:=λp a=>by
 have(z,hz,rfl):=aM.mp a;have:=h.nn z hz;have(t,x):=z
 cases x <;> show(this,(by decide:1<=1000))
def ml{b:Type}(l:List b)(a d:b)(j:Nat):(l++[a]).getD j d=if j=Z l then a else l.getD j d:=by grind
def d7.bar{bs:LLP}(h:d7 c r bs tw)(a:df n b)(hn:n<=60):d7 (c+3840) r (bs++[b]) (ga (ac,Z bs,) (brg b) tw):=by
 have d:∀p,cn tw p (ac,Z bs,)=0:=λp=>Nat.eq_zero_of_not_pos λq=>by
  have:Z bs<Z bs:=fA.mp (h.vl p _ (gY.mpr q))
  grind
 have g:∀p,cn _ p _=if p∈b then 1 else 0:=λp=>by
  rw[En,d p,lA,a.pd.count]
 show(?_,λp y f=>?_,λj=>?_)
 .rw[<- wF];show(bW.reg hn (tq a) h.wk).le ?_;unfold brg;rw[az];have:=a.len;lia
 .rw[aV,gc,El]
  by_cases e:y=(ac,Z bs,)
  .grind
  .show bX _ (h.vl p y (gY.mpr ?_));rw[<- ot e p _];show gY.mp f
 .rw[ml]
  by_cases e:j=Z bs
  .grind
  .have ne:((ac,j,):Wy)≠(ac,Z bs,):=λz=>e (t4 z).2;rw[if_neg e]
   rcases h.br j with z |z
   .show .inl λp=>by rw[ot ne];grind
   .show .inr λp=>by rw[ot ne];grind
def Spt.bar(s:Spt)(b:List Pr):Spt:={s with bs:=s.bs++[b],tw:=ga (ac,Z s.bs,) (brg b) (mj s.bs s.tw b),wt:=s.wt++[(ac,Z s.bs,)]}
def VV{bs:LLP}:(gys B.length (Z bs+1)).map (gdD B (bs++[b]))=(gys B.length (Z bs)).map (gdD B bs)++[.lst ((brg b).map Prt.obj)]:=by
 rw[El,bf]
 congr 1
 .show map_congr_left λy c=>?_;have:=fA.mp c;have(a,j):=y
  cases a with
  |false=>rfl
  |true=>
   have:j<Z bs:=this;unfold gdD bS
   grind
 .change[D.lst ((brg _).map Prt.obj)]=_
  grind
def VW(s:Spt)(b:List Pr)(ok:d7 c B.length s.bs s.tw)(m:c+3840<16777216)(d:∀b∈s.bs,df n b)(a:df n b)(hn:n<=60)(p:Z B+Z s.bs<100000)(j:Z s.wt<16777216):
  vV l [eS b] (s.S B).o=aa (((s.bar b).S B).o,.non,):=by
 have i:=a.len;have g:((gys B.length (Z s.bs)).map wyK).length=Z B+Z s.bs:=by rw[az,VH]
 apply fO;apply aj;show i0 (fN rfl rfl (dP rfl rfl) rfl (VT s b ok (by lia) d)) ?_;apply aj;show bn (dC (ap rfl (ap (aH (ap (jK D3) rfl) (f7 s.bs eS)) rfl))) ?_;walk_at "nrm";apply aj;show sU D3 rfl (by change(s.bs.map eS).length<_;rw[az];lia) ?_;change wp _ [.deep (.at l ((s.es,s.st,s.bs.map eS++_,(gys B.length (Z s.bs)).map wyK,(gys B.length (Z s.bs)).map _,wtW _,s.wt.map wyD,.lst _,(s.S B).tl):Spr).o),.im _,.im (wyD (ac,Z s.bs,))] _;show i0 (fN rfl rfl (dP rfl (dP (aH rfl (VU b (by lia))) rfl)) rfl (Jx _ _ rfl (D8 λq=>?_) ?_ (tq a) hn (ok.dropped (λb h=>(d b h).pd) b).wk ?_ ?_ ?_)) ?_
 .have(y,f,e):=aM.mp q;rw[Ei e]at f;have:Z s.bs<Z s.bs:=fA.mp f;show gH _ this
 .change((gys B.length (Z s.bs)).map wyK).length<_
  lia
 .unfold brg;rw[az];lia
 .change(s.wt.map wyD).length<_;rw[az];show j
 .unfold brg;rw[az];lia
 .show(_,rfl,?_,rfl)
  congr 1
  dsimp only[wj,Spt.bar,Spt.S];rw[wF,aV,gc,VV,El,bf,bf,bf];rfl
def jN{f:Xe}(h:f M=aa (d,ρ1,))(k:K (.nx (ρ1.set i (.im d)))):wp (f9 i f) M K:=(_,by unfold f9;rw[h];rfl,k)
def J9{k:Int}(hv:fv M=aa d)(h:p M=aa (lsO ds,R,))(c:fk M=aa (.int k))(a:0<=k)(b:k<Z ds)(q:K (.nx (M.set i (.deep (R (lsO (ds.set k.toNat d))))))):wp (n4 i p fk fv) M K:=(_,by
 unfold n4;simp only[hv,ax,h,ax,c,ax];change(((lsO ds).items.bind λds=>(ixN ds.length k).map λj=>O.lst _)).map _=_;simp only[wE,ax,show ixN ds.length k=aa k.toNat by unfold ixN;rw[if_pos a,if_pos b]];rfl,q)
def VX{f:MF2}{es:LD}(h:p M=aa (lsO ds,R,))(a:f M=aa es)(hz:Z ds+Z es<=16777216)(q:K (.nx (M.set i (.deep (R (lsO (ds++es))))))):wp (qg i p f) M K:=(_,by
 unfold qg;rw[h,ax,a,ax];change(if Z (ds.map O.fz)+Z es<=16777216 then aa _ else ab).map _=_;rw[if_pos (by rw[az];show hz),<- bf];rfl,q)
def i8(es:LOB):Nat:=ct (es.map (·==ab))
variable{b:Bool}
def VY(t0:0<=t)(t1:t<(Z es:Int))(a:opn es t=ac):i8 (put es t.toNat b)+1=i8 es:=by
 unfold i8 put;rw[hV];show JE _ _ ?_;unfold opn at a;rw[bE]at a ⊢;rw[cz,b7 (by lia)]at *;show a
def VZ(es:LOB):i8 es<=Z es:=by
 have:=Vp (es.map (·==ab))
 rwa [az]at this
def Spt.pt(s:Spt)(t:Int)(b:Bool)(w:D):Spt:={s with es:=put s.es t.toNat b,st:=s.st++[.tup [prD (t,b,),w]],wt:=s.wt++look s.tw (t,b,)}
structure SpJ(n c X3:Nat)(B:LRu)(s:Spt):Prop where
 es:Z s.es=n
 bk:∀b∈s.bs,df n b
 tw:d7 c B.length s.bs s.tw
 wv:∀y∈s.wt,y∈gys B.length (Z s.bs)
 ms:s.ms.Perm (dO B)
 mB:i8 s.es*(c+1)+Z s.wt<=X3
 sB:Z s.st+i8 s.es<=X3
 sv:∀d∈s.st,∃(z:Pr) (w:D),d=.tup [prD z,w]/\(0<=z.1/\z.1<(n:Int))/\s.es.getD z.1.toNat ab=aa z.2
nonrec def Me(c:Nat)(s:Spt):Nat:=i8 s.es*(c+1)+Z s.wt
variable{u:Int}
def Et(a:0<=u)(t0:0<=t)(h:u≠t):opn (put es t.toNat b) u=opn es u:=by
 unfold opn;rw[dz es b (by lia)]
variable{X3:Nat}{s:Spt}{w:L2.D}
def SpJ.pt(h:SpJ n c X3 B s)(t0:0<=t)(t1:t<(n:Int))(f:opn s.es t=ac):SpJ n c X3 B (s.pt t b w)/\Me c (s.pt t b w)<Me c s:=by
 have g:=VY (b:=b) t0 (by rw[h.es];show t1) f;have m:=Ep h.tw.wk (t,b,)
 have hm:Me c (s.pt t b w)<Me c s:=by
  change i8 (put s.es t.toNat b)*_+Z (s.wt++look s.tw _)<i8 s.es*_+Z s.wt;simp only[<- g,aV,Nat.succ_mul]
  lia
 show(((ce _ _ _).trans h.es,h.bk,h.tw,λy i=>?_,h.ms,cZ (fJ hm) h.mB,?_,λd hd=>?_),hm)
 .rcases bw.mp i with q |q
  .show h.wv y q
  .show h.tw.vl _ y q
 .change(s.st++[_]).length+i8 (put s.es t.toNat b)<=X3;rw[aV,gc];have:=h.sB
  lia
 .rcases bw.mp hd with q |q
  .have(z,j,e,l,a):=h.sv d q;show(z,j,e,l,?_);change(put s.es t.toNat b).getD z.1.toNat ab=_;rw[dz s.es b (λq=>by rw[q,i7 f]at a;nomatch a)];show a
  .show(_,w,bv.mp q,(t0,t1),fq s.es b (by rw[h.es];lia))
def Eu(h:SpJ n c X3 B s)(hB:X3+c<16777216)(t0:0<=t)(t1:t<(n:Int)):qu l [.int t,.bl b,w] (s.S B).o=aa (((s.pt t b w).S B).o,.non,):=by
 have f:=Ep h.tw.wk (t,b,);have a:=h.mB;have h2:=h.sB;have d:=h.es;apply fO;apply aj;show J9 rfl ke rfl t0 (by rw[az];change t<Z s.es;lia) ?_;have e:(s.es.map shD).set t.toNat (.bl b)=(put s.es t.toNat b).map shD:=by unfold put;rw[hV];rfl
 change wp _ [.deep (.at l (i5 (s.S B).tl [lsO ((s.es.map shD).set t.toNat _),lsO s.st,lsO _,.dT _ _,wsO _,lsO _,.fz _])),.im _,.im _,.im w] _;rw[e]
 change wp _ [.deep (.at l (({s with es:=put s.es t.toNat b}:Spt).S B).o),.im _,.im _,.im w] _
 apply aj;show sU D0 (dC (ap (dC (ap rfl (ap rfl rfl))) (ap rfl rfl))) (by change Z s.st<_;lia) ?_
 change wp _ [.deep (.at l (({s with es:=put s.es t.toNat b,st:=s.st++_}:Spt).S B).o),.im _,.im _,.im w] _
 show VX qv (Ej we (dC (ap rfl (ap rfl rfl)))) (by change(s.wt.map wyD).length+Z ((look s.tw (t,b,)).map wyD)<=_;rw[az,az];lia) ?_;show(_,rfl,?_,rfl);dsimp only[Spt.pt,Spt.S];simp only[bf];rfl
def puts(s:Spt)(w:D)(ps:List Pr):Spt:=ps.foldl (λs p=>s.pt p.1 p.2 w) s
structure fP(es:LOB)(ps:List Pr):Prop where
 nd:(ps.map (·.1)).Nodup
 op:∀z∈ps,(0<=z.1/\z.1<(Z es:Int))/\opn es z.1=ac
variable{z:Pr}
def fP.tail{ps:List Pr}(h:fP es (z::ps)):fP (put es z.1.toNat z.2) ps:=by
 have(f,g):=b8.mp h.nd;show(g,λy d=>?_);have((a,b),c):=h.op y (bp _ d);show((a,by rw[ce];show b),?_);rw[Et a ((h.op z aA).1.1) (λe=>f (aM.mpr (y,d,e)))];show c
def fP.pre{pre post:List Pr}(h:fP es (pre++post)):fP es pre:=(by have:=h.nd;rw[bf]at this;show(eV.mp this).1,λz hz=>h.op z (bX _ hz))
def ow{n c X3:Nat}{B:LRu}{w:D}:∀{ps:List Pr} {s:Spt},SpJ n c X3 B s->fP s.es ps->SpJ n c X3 B (puts s w ps)/\Me c (puts s w ps)<=Me c s
 | [],_,h,_=>(h,aO _)
 |z::ps,s,h,k=>by
  have((a,b),e):=k.op z aA;have(d,h2):=h.pt a (by rw[<- h.es];show b) e;have(f,g):=ow d k.tail;show(f,cZ g (fJ h2))
variable{G:List Prt}
def Ka(h:prs G es=ab):∀p∈G,p.sure es=ac:=by
 have:=JT es G;unfold prs at h
 cases e:G.foldl _ ab with
 |none=>rw[e]at this;show this
 |some l=>rw[e]at h;nomatch h
def ox{l:List Pr}(i:∀p∈G,p.Ok (Z es))(h:prs G es=aa l):fP es l/\(∀z:Pr,z∈l↔(0<=z.1/\z.1<(Z es:Int))/\opn es z.1=ac/\∀p∈G,p.sure (put es z.1.toNat (!z.2))=ac)/\∃p∈G,p.sure es=af:=by
 have:=JT es G;unfold prs at h
 cases e:G.foldl _ ab with
 |none=>rw[e]at h;nomatch h
 |some n=>
  rw[e]at h this;cases h;have((q,m,d),h2,u):=this
  have hm:∀z:Pr,z∈n.map neg↔(z.1,!z.2,)∈n:=λz=>by
   constructor
   .intro hz;have(y,v,rfl):=aM.mp hz;unfold neg;rw[Bool.not_not];show v
   .intro hz;show aM.mpr (_,hz,?_);unfold neg;rw[Bool.not_not]
  have key:∀z:Pr,z∈n.map neg↔_/\opn es z.1=ac/\∀p∈G,p.sure (put es z.1.toNat _)=ac:=λz=>by
   rw[hm,h2];constructor
   .intro a;have(j,r,_):=(Eg (i q m) d _ _).mp (a q m d);show(j,r,λp f=>?_)
    cases g:p.sure es with
    |true=>show wC (i p f) j.1 j.2 r _ g
    |false=>show((Eg (i p f) g _ _).mp (a p f g)).2.2
   .rintro⟨a,b,c⟩ p f g;show(Eg (i p f) g _ _).mpr (a,b,c p f)
  show((?_,λz hz=>?_),key,q,m,d)
  .rw[map_map];show u
  .have(a,b,_):=(key z).mp hz;show(a,b)
structure Grp(B:LRu)(es:LOB)(wo:LB0):Prop where
 len:Z wo=Z es
 no:∀i,wo.getD i af=ac->es.getD i ab≠aa af
 up:∀r∈dO B,wo.getD r.hd.toNat af=ac->r.bodyLost es wo=ac
def tu(es:LOB)(wo:LB0):LOB:=(sR wo).foldl (λes t=>put es t.toNat af) es
inductive Mvs(B:LRu)(bs:LLP)(e0:LOB):LOB->Prop
 |refl:Mvs B bs e0 e0
 |press {es:LOB} {t:Int} {b:Bool} {y:Wy}:Mvs B bs e0 es->y∈gys B.length (Z bs)->0<=t->t<(Z es:Int)->opn es t=ac->(∀p∈bS B bs y,p.sure (put es t.toNat (!b))=ac)->Mvs B bs e0 (put es t.toNat b)
 |out {es:LOB} {wo:LB0}:Mvs B bs e0 es->Grp B es wo->(∀i,wo.getD i af=ac->es.getD i ab=ab)->Mvs B bs e0 (tu es wo)
def Mvs.trans{bs:LLP}{e0 g i:LOB}(h:Mvs B bs e0 g)(h':Mvs B bs g i):Mvs B bs e0 i:=by
 induction h' with
 |refl=>show h
 |press _ a b c d e f=>show .press f a b c d e
 |out _ a b f=>show .out f a b
def wH{a:Bool}(h:i≠j):put (put es i a) j b=put (put es j b) i a:=by
 unfold put;show set_comm _ _ h
def wI(c:0<=u)(t0:0<=t)(h:u≠t)(a:opn es u=ac):opn (put es t.toNat b) u=ac:=by rw[Et c t0 h];show a
def Kb{B:LRu}{bs:LLP}{y:Wy}{w:D}(d:y∈gys B.length (Z bs)):∀{ps:List Pr} {s:Spt},(∀p∈bS B bs y,p.Ok (Z s.es))->fP s.es ps->(∀z∈ps,∀p∈bS B bs y,p.sure (put s.es z.1.toNat (!z.2))=ac)->Mvs B bs s.es (puts s w ps).es
 | [],_,_,_,_=>.refl
 |z::ps,s,hG,k,hp=>by
  have((a,b),e):=k.op z aA;have(g,i):=b8.mp k.nd;have f:Mvs B bs s.es (s.pt z.1 z.2 w).es:=.press .refl d a b e (hp z aA);show f.trans (Kb d (λp q=>by change p.Ok (Z (put s.es z.1.toNat z.2));rw[ce];show hG p q) k.tail λx c p q=>?_);have((h,j),l):=k.op x (bp _ c);have ne:z.1≠x.1:=λe=>g (aM.mpr (x,c,e.symm));change p.sure (put (put s.es z.1.toNat z.2) x.1.toNat _)=ac;rw[wH (by lia)];show wC (by rw[ce];show hG p q) a (by rw[ce];show b) (wI a h ne e) _ (hp x (bp _ c) p q)
abbrev V0:Option Wy->D
 |none=>.non
 |some y=>wyD y
abbrev lrF(B:LRu):Nat->Spt->Option Wy×Spt
 | 0,s=>(ab,s,)
 |k+1,s=>match s.wt with
  | []=>(ab,s,)
  |y::wt=>match prs (bS B s.bs y) s.es with
   |none=>(aa y,{s with wt:=wt},)
   |some ps=>lrF B k (puts {s with wt:=wt} (wyD y) ps)
def tz{k:Nat}(h:s.wt=[]):lrF B (k+1) s=(ab,s,):=by
 unfold lrF;rw[h]
def tB{k:Nat}{wt:List Wy}(h:s.wt=y::wt)(a:prs (bS B s.bs y) s.es=ab):lrF B (k+1) s=(aa y,{s with wt:=wt},):=by
 unfold lrF;rw[h];dsimp only;rw[a]
def qz{k:Nat}{wt:List Wy}{ps:List Pr}(h:s.wt=y::wt)(a:prs (bS B s.bs y) s.es=aa ps):lrF B (k+1) s=lrF B k (puts {s with wt:=wt} (wyD y) ps):=by
 rw[lrF];rw[h];dsimp only;rw[a]
def oA{bs:LLP}(hr:∀r∈B,RuK n r)(d:∀b∈bs,df n b):∀p∈bS B bs y,p.Ok n:=by
 have(a,j):=y;intro p c
 cases a with
 |true=>show(tq (Es d j) p c).1
 |false=>
  replace c:p∈((B[j]?).map grd).getD []:=c
  cases e:B[j]? with
  |none=>rw[e]at c;nomatch c
  |some r=>rw[e]at c;show(wm (hr r (dX e)) p c).1
def SpJ.pop{wt:List Wy}(h:SpJ n c X3 B s)(e:s.wt=y::wt):SpJ n c X3 B {s with wt:=wt}/\Me c {s with wt:=wt} < Me c s/\y∈gys B.length (Z s.bs):=by
 have hm:=h.mB;have a:Z s.wt=Z wt+1:=by grind
 show((h.es,h.bk,h.tw,λz hz=>h.wv z (by grind),h.ms,?_,h.sB,h.sv),?_,h.wv y (by grind))
 .grind
 .grind
def Kc(w:D):∀(ps:List Pr) (s:Spt),(puts s w ps).bs=s.bs/\(puts s w ps).tw=s.tw/\(puts s w ps).ms=s.ms
 | [],_=>(rfl,rfl,rfl)
 |z::ps,s=>Kc w ps _
structure V1(n c X3:Nat)(B:LRu)(s:Spt)(R:Option Wy×Spt):Prop where
 ok:SpJ n c X3 B R.2
 bs:R.2.bs=s.bs
 mv:Mvs B s.bs s.es R.2.es
 no:R.1=ab->R.2.wt=[]
 ye:∀y,R.1=aa y->y∈gys B.length (Z s.bs)/\∀p∈bS B s.bs y,p.sure R.2.es=ac
 le:Me c R.2<=Me c s
def tE{n c X3:Nat}{B:LRu}(hr:∀r∈B,RuK n r):∀(k:Nat) (s:Spt),SpJ n c X3 B s->Me c s<k->V1 n c X3 B s (lrF B k s)
 | 0,_,_,h=>absurd h (iF _)
 |k+1,s,h,hk=>by
  cases b:s.wt with
  |nil=>
   rw[tz b]
   show(h,rfl,.refl,(λ_=>b),(λy e=>by cases e),aO _)
  |cons y wt=>
   have(g,h2,j):=h.pop b;have i:∀p∈bS B s.bs y,p.Ok (Z s.es):=by rw[h.es];show oA hr h.bk
   cases d:prs _ s.es with
   |none=>
    rw[tB b d]
    show(g,rfl,.refl,(λz=>by cases z),(λz e=>by cases e;show(j,Ka d)),fJ h2)
   |some ps=>
    rw[qz b d];have(l,m,_):=ox i d;have(q,u):=ow g l
    have(f,_,_):=Kc _ ps {s with wt:=wt}
    have a:=tE hr k _ q (by lia)
    have m1:Mvs B s.bs s.es (puts {s with wt:=wt} (wyD y) ps).es:=Kb j (s:={s with wt:=wt}) i l λz hz=>((m z).mp hz).2.2
    show(a.ok,a.bs.trans f,m1.trans (by have:=a.mv;rw[f]at this;show this),a.no,λz e=>?_,by have:=a.le;lia);have:=a.ye z e
    grind
def V2{m:LD->Option (LD ⊕ D)}{f:MF2}{x:Option (List Pr)}(h:f M=aa ds)(h':m ds=aa (JQ x)):qk m f M=aa (tf x):=by
 unfold qk;rw[h,ax,h',ax]
 cases x with
 |none=>rfl
 |some l=>
  change(if (l.map prD).all D.flat=ac then aa _ else ab)=_;rw[if_pos (all_eq_true.mpr λd hd=>by have(z,_,rfl):=aM.mp hd;rfl)];rfl
def V3{wt:List Wy}(h:s.wt=y::wt):sA 0 (ba "Seeking" "waiting" (aJ 0)) (.deep (.at l (s.S B).o)::M)=aa (wyD y,.deep (.at l (({s with wt:=wt}:Spt).S B).o)::M,):=by
 change((lsO (s.wt.map wyD)).pop0).map _=_;rw[h];rfl
def V4{k:Nat}(hr:∀r∈B,RuK n r)(hB:X3+c<16777216)(h:SpJ n c X3 B s)(x:Me c s<k)(w:k<1000000000):Dy l [] (s.S B).o=aa (((lrF B k s).2.S B).o,V0 (lrF B k s).1,):=by
 apply fO;apply aj;show p7 (λm M=>∃a v1 v e f,M=[.deep (.at l (Spt.S B a).o),v1,v,e,f]/\SpJ n c X3 B a/\Me c a<m/\lrF B m a=lrF B k s) ?_ _ k _ (s,_,_,_,_,rfl,h,x,rfl) w;rintro m M ⟨a,v1,v,e,f,rfl,h',hm,i⟩
 cases m with
 |zero=>grind
 |succ m=>
  cases b:a.wt with
  |nil=>
   show(af,cy (jK qv) (by change nu (.lst (a.wt.map wyD))=_;rw[b];rfl),(λz=>by nomatch z),λ_=>?_);rw[<- i,tz b]
   show i4 rfl (_,rfl,rfl,rfl)
  |cons y wt=>
   have(q,h2,A):=h'.pop b;have u:∀p∈bS B a.bs y,p.Ok (Z a.es):=by rw[h'.es];show oA hr h'.bk
   show⟨ac,cy (jK qv) (by change nu (.lst (a.wt.map wyD))=_;rw[b];rfl),λ_=>?_,λz=>by nomatch z⟩;apply aj;show jN (V3 b) ?_;apply aj;show bn (d:=tf (prs _ a.es)) (V2 (ap (VI A rfl) (ap (jK ke) rfl)) (VB _ u)) ?_;apply aj
   cases j:prs _ a.es with
   |none=>
    show aS rfl (λ_=>?_) (λz=>by nomatch z);rw[<- i,tB b j]
    show i4 rfl (_,rfl,rfl,rfl)
   |some ps=>
    have(g,I,_):=ox u j;have(C,J):=ow q g;show aS rfl (λz=>by nomatch z) (λ_=>bH ?_)
    show du ps prD (λpre M=>∃e f,M=[.deep (.at l ((puts {a with wt:=wt} (wyD y) pre).S B).o),.im _,.im _,e,f]) rfl (_,_,rfl) ?_ ?_
    .rintro pre z post M ex ⟨e,f,rfl⟩;rw[ex]at g;have(E,_):=ow q g.pre;have((G,H),_):=g.op z (by simp);show(_,rfl,?_);walk_at "nrm";show i0 (fN rfl rfl (dP rfl (dP rfl (dP rfl rfl))) rfl (Eu E hB G (by rw[<- h'.es];show H))) ?_;show(.im (.int z.1),.im (.bl z.2),?_);unfold puts
     grind
    .rintro M ⟨e,f,rfl⟩;show(m,di _,_,_,_,_,_,rfl,C,by lia,?_);rw[<- i,qz b j]
def slf(es:LOB)(a b c d e:D)(C:LD)(ms:LRu):D:=.ins "Seeking" (spN++(["paper","count","ended"]:LSt)) ([.lst (es.map shD),a,b,c,d,e,.lst (ms.map mkD)]++C)
def fdL(r:Rul)(es:LOB)(wo:LB0):D:=D9 (r.ps.find? λp=>p.lost es wo)
variable{a b c e:L2.D}
def V5(hok:∀r∈ms,r.Ok (Z es))(f:Z wo=Z es)(hz:Z ms<=1000):DH [slf es a b c d e C ms,.int t,.lst (wo.map D.bl)]=aa (.lst ((ms.filter λr=>r.hd==t).map λr=>fdL r es wo)):=
 lR (congrArg _ (fm ms mkD _ _ rfl (by lia) λr hr=>dS rfl (bA (ao rfl rfl (by change dEq _ _=_;rfl))) λ_=>aH rfl (Ea r.ps (hok r hr).ps f)))
def kpL(p:Prt)(es:LOB)(wo:LB0):LI0:=if p.lost es ((bI (Z es)).map (inS [])) then [] else (nmL p).filter λt=>wo.getD t.toNat af
variable{p:Prt}
def V6(f:p.Ok (Z es))(hn:Z es<=60)(hm:Z (nmP p)<=1000)(j:Z wo=Z es):DD [slf es a b c d e C ms,p.obj,.lst (wo.map D.bl)]=aa (.lst ((kpL p es wo).map D.int)):=by
 have g:m_1 [.int (Z es),.lst []]=aa (.lst (((bI (Z es)).map (inS [])).map D.bl)):=by
  have:=Jl es.length [] (by lia) (by lia) (by decide)
  grind
 have i:=sW f hn;apply gA;apply aj;show aS (cy (Jo p f (by grind) rfl (ap rfl (ap (aH (ap (aH rfl (f7 es shD)) rfl) g) rfl))) rfl) (λz=>?_) (λz=>bH ?_)
 .show iZ rfl (jI ?_);unfold kpL
  grind
 .show iZ (fm _ D.int _ D.int (eB (Jw p f hn hm rfl) rfl) (by lia) λt h=>dS rfl (cy (bj rfl rfl (j9 (qw f t (sX.mp h)).1 (by rw[j];show(qw f t (sX.mp h)).2))) rfl) λ_=>rfl) (jI ?_);unfold kpL
  grind
def V7(p:Prt):(nmL p).Nodup:=by
 cases p with
 |inn t=>show b8.mpr ((λh=>nomatch h),fH)
 |out t=>show b8.mpr ((λh=>nomatch h),fH)
 |least k L=>show(k8 _).imp λh=>by lia
 |most k L=>show(k8 _).imp λh=>by lia
structure KOk(n:Nat)(wo:LB0)(fd:LI0):Prop where
 nd:fd.Nodup
 el:∀x∈fd,(0<=x/\x<(n:Int))/\wo.getD x.toNat af=ac
variable{fd:LI0}
def KOk.len(h:KOk n wo fd):Z fd<=n:=ou h.nd λx a=>(h.el x a).1
def KOk.more(h:KOk n wo fd)(d:p.Ok n):KOk n wo (fd++(kpL p es wo).filter λt=>!(fd.any λx=>x==t)):=by
 have b:(kpL p es wo).Sublist (nmL p):=by
  unfold kpL;split
  .grind
  .simp
 show(eV.mpr (h.nd,(xp b (V7 p)).sublist oO,λx c y f e=>?_),λx c=>?_)
 .grind
 .rcases bw.mp c with q |q
  .show h.el x q
  .have a:=(cf.mp q).1;show(qw d x (sX.mp (b.subset a)),?_);unfold kpL at a
   grind
def Kd(C:LI0)(i:Int):jw (.int i) (.lst (C.map D.int))=aa (.bl (!(C.any λx=>x==i))):=by
 change Option.map _ (if _=ac then aa _ else ab)=_;rw[if_pos (by rw[all_map];show(b6 _ _).mpr (rfl,all_eq_true.mpr λ_ _=>rfl)),any_map];rfl
def V8{n m:Int}(a:M[i]?=aa (.im (.int n)))(k:K (.nx (M.set i (.im (.int (n+m)))))):wp (ma i (mX λ_=>aa (.int m))) M K:=(_,by
 unfold ma;rw[a];rfl,k)
def Kp(es:LOB)(wo:LB0)(fd:LI0)(r:Rul):Prop:=∃p∈r.ps,p.lost es wo=ac/\∀y∈kpL p es wo,y∈fd
structure tF(es:LOB)(wo:LB0)(ms:LRu)(t:Int)(ks:LI0):Prop where
 mt:t∈ks
 nd:ks.Nodup
 el:∀x∈ks,(0<=x/\x<(Z es:Int))/\wo.getD x.toNat af=ac
 kp:∀r∈ms,r.hd∈ks->Kp es wo ks r
def V9(hn:Z es<=60)(hok:∀r∈ms,r.Ok (Z es))(hnm:∀r∈ms,∀p∈r.ps,Z (nmP p)<=1000)(hw:Z wo=Z es)(hz:Z ms<=1000)(hl:∀r∈ms,wo.getD r.hd.toNat af=ac->r.bodyLost es wo=ac)(t0:0<=t)(t1:t<(Z es:Int))(ht:wo.getD t.toNat af=ac):
  ∃ks:LI0,mh [slf es a b c d e C ms,.int t,.lst (wo.map D.bl)]=aa (ks.map D.int)/\tF es wo ms t ks:=by
 suffices h:wp sO _ (λr=>∃ks:LI0,r=.rtO (ks.map D.int)/\tF es wo ms t ks) by
  have(r,e,ks,rfl,h):=h;show(ks,nU e,h)
 apply aj;show eC rfl ?_;walk_at "nrm";apply aj;show bn rfl ?_;walk_at "nrm";apply aj;show p7 (λm M=>∃(fd:LI0) (g:Nat) (j:Sl),M=[.im _,.im _,.im _,.own (fd.map D.int),.im (.int g),j]/\KOk es.length wo fd/\g<=Z fd/\m+g=61/\t∈fd/\∀x∈fd.take g,∀r∈ms,r.hd=x->Kp es wo fd r) ?_ _ 61 _ ⟨[t],0,_,rfl,(b8.mpr ((λh=>nomatch h),fH),λx i=>by rw[bv.mp i];show((t0,t1),ht)),cr _,rfl,aA,λx i=>nomatch i⟩ (by decide);rintro m M ⟨fd,g,j,rfl,L,hp,hm,Q,I⟩;have hfl:=L.len;show(decide _,bA (ao rfl (aH rfl (f7 fd D.int)) rfl),λz=>?_,λz=>?_)
 .have N:g<Z fd:=by have:=of_decide_eq_true z;lia
  obtain⟨x,i⟩:∃x,fd[g]?=aa x:=(_,b7 N);have((x0,x1),xw):=L.el x (dX i)
  have U:atI (fd.map D.int) g=aa (.int x):=by
   rw[lT 0 (by lia) (by lia),cY,bE,i];rfl
  apply aj;show du _ _ (λpre M=>∃(ex:LI0) (j:Sl),M=[.im _,.im _,.im _,.own ((fd++ex).map D.int),.im _,j]/\KOk es.length wo (fd++ex)/\∀r∈pre,Kp es wo (fd++ex) r) (eB ((cE rfl rfl (ap (bj rfl rfl U) (ap rfl rfl))).trans (V5 hok hw hz)) rfl) ⟨[],j,by rw[bT],by rw[bT];show L,λr hr=>nomatch hr⟩ ?_ ?_
  .rintro pre r post M ex ⟨xt,j,rfl,l,f⟩;have hrm:r∈ms.filter λr=>r.hd==x:=by rw[ex];simp
   have(hr,A):=cf.mp hrm;have A:r.hd=x:=by simpa using A
   obtain⟨p,v,hp2,hp3⟩:∃p,p∈r.ps/\fdL r es wo=p.obj/\p.lost es wo=ac:=by
    unfold fdL
    cases Y:r.ps.find? _ with
    |none=>
     have:=Eb (es:=es) (wo:=wo) r;rw[Y,(hl r hr (by rw[A];show xw))]at this
     nomatch this
    |some p=>show(p,xm Y,rfl,find?_some Y)
   have w:=(hok r hr).ps p v;have n:=l.more (es:=es) w;have J:=n.len;rw[aV]at J;show(_,rfl,?_);walk_at "nrm";rw[hp2];show(_,D6 (bV (fm _ D.int _ D.int (eB ((cE rfl rfl (ap rfl (ap rfl rfl))).trans (V6 w hn (hnm r hr p v) hw)) rfl) ?_ λy _=>dS rfl (bA (ao rfl rfl (Kd (fd++xt) y))) λ_=>rfl)) rfl (by rw[az,az];lia),?_)
   .have:Z (kpL p es wo)<=Z (nmL p):=by
     unfold kpL;split
     .show cr _
     .show hE _ _
    have:=sW w hn
    lia
   .rw[cO]at n;show(_,.im p.obj,?_,n,λr' hr'=>?_)
    .simp only[bf,cO];rfl
    .rcases bw.mp hr' with q |q
     .have(T,E,G,H):=f r' q;show(T,E,G,λy B=>by rw[<- cO];show bX _ (H y B))
     .rw[bv.mp q];show(p,v,hp3,λy B=>?_);rw[<- cO]
      by_cases hm:y∈fd++xt
      .show bX _ hm
      .show cq _ (cf.mpr (B,?_));rw[xk,<- Bool.not_eq_true];intro h;have(u,hu,e):=any_eq_true.mp h;rw[beq_iff_eq.mp e]at hu;show hm hu
  .rintro M ⟨xt,j,rfl,l,f⟩;show V8 rfl (m-1,by lia,fd++xt,g+1,j,rfl,l,by rw[aV];lia,by lia,bX _ Q,λy B r hr e=>?_);rw[take_append_of_le_length N,take_succ,i]at B
   rcases bw.mp B with q |q
   .have(T,E,G,H):=I y q r hr e;show(T,E,G,λz hz=>bX _ (H z hz))
   .rw[bv.mp q]at e;show f r (cf.mpr (hr,by simpa using e))
 .show nO rfl ?_;have hpl:g=Z fd:=by have:=of_decide_eq_false z;lia
  show iZ (HC rfl (by lia) L.nd) (_,rfl,(iy _ _).mpr Q,(k8 _).imp (λh=>by lia),λx i=>L.el x ((iy _ _).mp i),λr hr hd=>?_);have(T,E,G,H):=I r.hd (by rw[hpl,take_length];show(iy _ _).mp hd) r hr rfl;show(T,E,G,λz hz=>(iy _ _).mpr (H z hz))
abbrev fB{a:Type}:Nat->List a->List (Nat×a)
 | _,[]=>[]
 |i,x::C=>(i,x,)::fB (i+1) C
def tG{a:Type}(f:a->D):∀(i:Nat) (C:List a),iU i (C.map f)=(fB i C).map λp=>D.tup [.int p.1,f p.2]
 | _,[]=>rfl
 |i,x::C=>by rw[bO,iU,tG f _ C];rfl
def wJ{a:Type}:∀(i:Nat) (C:List a) (j:Nat),(fB i C)[j]?=(C[j]?).map λx=>(i+j,x,)
 | _,[],_=>rfl
 |i,x::C,0=>rfl
 |i,x::C,j+1=>by rw[fB,g8,g8,wJ _ C j,show i+1+j=i+(j+1) by lia]
def ls{a:Type}{C:List a}{p:Nat×a}(h:p∈fB 0 C):C[p.1]?=aa p.2:=by
 have(j,b):=oN h;rw[wJ]at b
 grind
def wK{a:Type}:∀(i:Nat) (C:List a),Z (fB i C)=Z C
 | _,[]=>rfl
 |i,x::C=>by rw[fB,cB,cB,wK _ C]
def inL(es:LOB)(wo:LB0):LI0:=((fB 0 es).filter λp=>wo.getD p.1 af && p.2==aa ac).map λp=>(p.1:Int)
def kg(wo:LB0):LI0:=((fB 0 wo).filter λp=>p.2).map λp=>(p.1:Int)
def Wb(wo:LB0):fB 0 wo=(bI (Z wo)).map λi=>(i,wo.getD i af,):=by
 apply mF;intro j;rw[wJ,cz]
 grind
def wL(wo:LB0):kg wo=sR wo:=by
 unfold kg sR;rw[Wb,filter_map,map_map];rfl
def Ev:∀(ws:Wss),O.kns (ws.map λp=>lsO p.2)=ac
 | []=>by rw[map_nil,O.kns]
 |p::ws=>by rw[bO,O.kns,Ev ws,lsO,O.kn,sT];rfl
def Spt.D(B:LRu)(s:Spt):L2.D:=(s.S B).o.toD
def gdT(B:LRu)(bs:LLP):L2.D:=.dT ((gys B.length (Z bs)).map wyK) ((gys B.length (Z bs)).map (gdD B bs))
def wM(B:LRu)(s:Spt):s.D B=slf s.es (.lst s.st) (.lst (s.bs.map eS)) (gdT B s.bs) (wsO (wtW s.tw)).toD (.lst (s.wt.map wyD)) [.lst s.pp,.int s.ct,.bl s.en] s.ms:=by
 dsimp only[Spt.D,Spr.o,Spt.S,slf,gdT];simp only[lsO,O.toD,O.toDs,yH,List.map,ly,oS]
def Wc(B:LRu)(s:Spt):(s.S B).o.kn=ac:=by
 dsimp only[Spr.o,Spt.S,lsO,wsO];simp only[List.map,ly,oS,O.kn,O.kns,sT,qK];show Ev _
def Ew:cT 0 (.deep (.at l (s.S B).o)::M)=aa (s.D B):=by
 change(if (O.at l (s.S B).o).kn=ac then aa (O.at l (s.S B).o).toD else ab)=_;rw[O.kn,Wc,if_pos rfl,O.toD];rfl
def wN(B:LRu)(s:Spt)(wo:LB0)(t:Int):LD:=(mh [s.D B,.int t,.lst (wo.map D.bl)]).getD []
def tH(B:LRu)(s:Spt)(wo:LB0)(t:Int):D:=.tup [.str "group",.lst (wN B s wo t)]
structure fD(n:Nat)(ms:LRu):Prop where
 ok:∀r∈ms,r.Ok n
 nm:∀r∈ms,∀p∈r.ps,Z (nmP p)<=1000
 ne:∀r∈ms,r.w≠.never
 len:Z ms<=1000
def fD.of(hr:∀r∈B,RuK n r)(hz:Z B<=1000)(h:ms.Perm (dO B)):fD n ms:=by
 have hm:∀r∈ms,r∈B/\r.w≠.never:=λr q=>by
  have(a,b):=cf.mp (h.mem_iff.mp q)
  grind
 show(λr q=>(hr r (hm r q).1).ok,λr q=>(hr r (hm r q).1).nm,λr q=>(hm r q).2,by rw[h.length_eq];show cZ (hE _ _) hz)
def GpL(ms:LRu)(es:LOB)(wo:LB0):Prop:=Z wo=Z es/\∀r∈ms,wo.getD r.hd.toNat af=ac->r.bodyLost es wo=ac
def GpL.up(h:GpL ms es wo)(f:cW es es')(hok:∀r∈ms,r.Ok (Z es)):GpL ms es' wo:=(by rw[h.1,f.len],λr hr b=>rX (λp a z=>vb f (nM.refl _) ((hok r hr).ps p a) z) (h.2 r hr b))
variable{b:Bool}
def wO(t0:0<=t)(a:opn es t=ac):cW es (put es t.toNat b):=by
 show(ce _ _ _,λi=>?_)
 by_cases e:i=S t
 .rw[e];show .inl (i7 a)
 .show .inr (dz es b e)
def Ex(hn:n<=60)(a:Z s.es=n)(hm:fD n s.ms)(b:GpL s.ms s.es wo)(t0:0<=t)(t1:t<(n:Int))(d:wo.getD t.toNat af=ac):∃ks:LI0,wN B s wo t=ks.map D.int/\mh [s.D B,.int t,.lst (wo.map D.bl)]=aa (ks.map D.int)/\tF s.es wo s.ms t ks:=by
 have(ks,c,h):=V9 (by lia) (by rw[a];show hm.ok) hm.nm b.1 hm.len b.2 t0 (by rw[a];show t1) d;unfold wN;rw[wM B s,c];show(ks,rfl,rfl,h)
def Ke(hn:n<=60)(a:Z s.es=n)(hm:fD n s.ms)(e:GpL s.ms s.es wo)(t0:0<=t)(t1:t<(n:Int))(g:wo.getD t.toNat af=ac)(f:fo M=aa (s.D B))(ha:fa M=aa [.int t,.lst (wo.map D.bl)]):
  iC "Seeking" "kernel" mh fo fa M=aa (wN B s wo t):=by
 have(ks,c,b,_):=Ex hn a hm e t0 t1 g;rw[c];unfold iC;rw[f,ax];rw[wM B s]at b ⊢;change(if "Seeking"="Seeking" /\ List.contains (spN++(["paper","count","ended"]:LSt)) "kernel"=af then (fa M).bind λas=>(mh (slf s.es _ _ _ _ _ _ s.ms::as)).bind λB=>if B.all D.flat then aa B else ab else ab)=_;rw[if_pos (rfl,rfl),ha,ax,b,ax,if_pos (all_eq_true.mpr λd hd=>by have(z,_,rfl):=aM.mp hd;rfl)]
def eU(B:LRu)(wo:LB0)(s:Spt)(ts:LI0):Spt:=ts.foldl (λs t=>s.pt t af (tH B s wo t)) s
def wP{n c X3:Nat}{B:LRu}{wo:LB0}:∀{ts:LI0} {s:Spt},SpJ n c X3 B s->fP s.es (ts.map λt=>(t,af,))->SpJ n c X3 B (eU B wo s ts)/\Me c (eU B wo s ts)+Z ts<=Me c s/\(eU B wo s ts).es=ts.foldl (λes t=>put es t.toNat af) s.es/\cW s.es (eU B wo s ts).es/\(eU B wo s ts).bs=s.bs/\(eU B wo s ts).ms=s.ms
 | [],s,h,_=>(h,aO _,rfl,cW.refl _,rfl,rfl)
 |t::ts,s,h,k=>by
  have((a,b),e):=k.op _ aA;have(f,h2):=h.pt a (by rw[<- h.es];show b) e;have(g,j,m,d,p,r):=wP f k.tail;show(g,?_,m,?_,p,r)
  .have l:Me c (eU B wo (s.pt t af _) ts)+Z ts<=Me c _:=j;change Me c (eU B wo (s.pt t af _) ts)+(Z ts+1)<=_;lia
  .have f1:cW s.es (put s.es t.toNat af):=wO a e;show(d.len.trans f1.len,λi=>?_)
   rcases f1.at' i with q |q
   .show .inl q
   .rcases d.at' i with z |z
    .show .inl (q.symm.trans z)
    .show .inr (z.trans q)
def psT{pre post:LI0}(h:fP es ((pre++post).map λt=>(t,af,))):fP es (pre.map λt=>(t,af,)):=by
 rw[bf]at h;show h.pre
def reM(s:Spt):Spt:={s with ms:=(cm s.es s.ms).2.1++(cm s.es s.ms).2.2}
abbrev bM(B:LRu)(s:Spt):OD×Spt:=match inL s.es (cm s.es s.ms).1 with
 |x::_=>(aa (tH B (reM s) (cm s.es s.ms).1 x),reM s,)
 | []=>(ab,eU B (cm s.es s.ms).1 (reM s) (kg (cm s.es s.ms).1),)
variable{c:Nat}
def SpJ.rem'(h:SpJ n c X3 B s)(hm:fD n s.ms):SpJ n c X3 B (reM s)/\GpL s.ms s.es (cm s.es s.ms).1/\(reM s).ms.Perm s.ms/\∀i,(cm s.es s.ms).1.getD i af=ac->s.es.getD i ab≠aa af:=by
 have(a,b):=JH (es:=s.es) hm.ne;have pm:((cm s.es s.ms).2.1++(cm s.es s.ms).2.2).Perm s.ms:=by have:=a.pm;rw[bT]at this;show this
 show((h.es,h.bk,h.tw,h.wv,pm.trans h.ms,h.mB,h.sB,h.sv),(a.len,λr hr d=>?_),pm,λi hi e=>?_)
 .have:=b r hr;unfold i6 at this
  grind
 .have:=a.pe.sub i hi;unfold jL at this
  grind
def GpL.grp(h:GpL ms es wo)(pm:ms.Perm (dO B))(hn:∀i,wo.getD i af=ac->es.getD i ab≠aa af):Grp B es wo:=(h.1,hn,λr hr=>h.2 r (pm.mem_iff.mpr hr))
def Kf:t∈kg wo↔0<=t/\wo.getD t.toNat af=ac:=by rw[wL];show wb wo t
def We(wo:LB0):(kg wo).Nodup:=by
 rw[wL];show xq _ (λa b h e=>h (by lia)) (nodup_range.filter _)
def Kg(h:inL es wo=[])(i:Nat)(b:wo.getD i af=ac):es.getD i ab≠aa ac:=λe=>by
 rw[bE]at e
 cases a:es[i]? with
 |none=>rw[a]at e;nomatch e
 |some x=>
  rw[a]at e;have e:x=aa ac:=e;have hm:(i,x,)∈fB 0 es:=dX (by rw[wJ,a];simp);have:_∈inL es wo:=aM.mpr (_,cf.mpr (hm,by rw[b,e];rfl),rfl)
  grind
def tI(d:Z wo=Z es)(h:inL es wo=[])(hn:∀i,wo.getD i af=ac->es.getD i ab≠aa af):fP es ((kg wo).map λt=>(t,af,)):=by
 show(by rw[map_map];have:=We wo;simpa[Function.comp_def]using this,λz hz=>?_);have(t,a,rfl):=aM.mp hz;have(t0,tw):=Kf.mp a
 have lt:S t<Z wo:=by
  grind
 show((t0,by change t<_;lia),?_);unfold opn
 cases c:es.getD t.toNat ab with
 |none=>rfl
 |some b=>cases b with
  |true=>show absurd c (Kg h _ tw)
  |false=>grind
def wQ(hr:∀r∈B,RuK n r)(hz:Z B<=1000)(h:SpJ n c X3 B s):SpJ n c X3 B (bM B s).2/\(bM B s).2.bs=s.bs/\Mvs B s.bs s.es (bM B s).2.es/\Me c (bM B s).2<=Me c s/\((bM B s).1=ab->s.wt=[]->(bM B s).2.wt≠[]->Me c (bM B s).2<Me c s)/\((bM B s).1≠ab->∃wo,Grp B (bM B s).2.es wo/\∃i,wo.getD i af=ac/\(bM B s).2.es.getD i ab=aa ac):=by
 have(m,f,pm,a):=h.rem' (fD.of hr hz h.ms);unfold bM
 cases q:inL s.es (cm s.es s.ms).1 with
 |cons x C=>
  show(m,rfl,.refl,aO _,(λe=>by nomatch e),λ_=>(_,f.grp h.ms a,?_));have l:x∈inL s.es (cm s.es s.ms).1:=by grind
  have(p,v,rfl):=aM.mp l;have(g,j):=cf.mp v;have (h4,h5):=(b6 _ _).mp j;show(p.1,h4,?_);change s.es.getD p.1 ab=aa ac;rw[bE,(ls g)]
  grind
 |nil=>
  dsimp only;have(o1,o2,z,E,A,G):=wP m (tI f.1 q a);have y:Me c _+Z (kg (cm s.es s.ms).1)<=Me c s:=o2;show(o1,A,?_,by lia,λ_ w d=>?_,λe=>absurd rfl e)
  .rw[z,wL];show .out .refl (f.grp h.ms a) λi hi=>?_;change s.es.getD i ab=ab
   cases l:s.es.getD i ab with
   |none=>rfl
   |some b=>cases b with
    |true=>show absurd l (Kg q i hi)
    |false=>grind
  .cases u:kg (cm s.es s.ms).1 with
   |nil=>
    rw[u]at d
    show absurd w d
   |cons t ts=>
    grind
def Wf(hr:∀r∈B,RuK n r)(hz:Z B<=1000)(hn:n<=60)(hB:X3+c<16777216)(h:SpJ n c X3 B s):DN l [] (s.S B).o=aa (((bM B s).2.S B).o,(bM B s).1.getD .non,):=by
 have hm:=fD.of hr hz h.ms;have(h1,w,pm,E):=h.rem' hm;have j:(s.S B).es=s.es:=rfl;have a:=h.es;have e:fD n (reM s).ms:=(λr q=>hm.ok r (pm.mem_iff.mp q),λr q=>hm.nm r (pm.mem_iff.mp q),λr q=>hm.ne r (pm.mem_iff.mp q),by rw[pm.length_eq];show hm.len);have f:GpL (reM s).ms s.es (cm s.es s.ms).1:=(w.1,λr q=>w.2 r (pm.mem_iff.mp q));have g:=w.1;unfold bM;generalize J:(cm s.es s.ms).1=wo at *;apply fO;apply aj;show jN (fN rfl rfl rfl rfl (Vv (s:=s.S B) (by change 3<900;decide) rfl (by rw[j];lia) (by rw[j,a];show hm.ok) hm.ne hm.len)) ?_;change wp _ [.deep _,.im (.lst ((cm s.es s.ms).1.map D.bl)),.no,.no,.no] _;rw[J];apply aj;show bn (d:=.lst ((inL s.es wo).map D.int)) (bV ?_) ?_
 .unfold inL;rw[map_map];show fm (fB 0 s.es) (λp=>D.tup [.int p.1,shD p.2]) _ _ ?_ (by rw[wK];lia) λp G=>?_
  .rw[<- tG];change(pC _ _).map _=_;rw[sS ke];rfl
  .have A:=(dh.mp (ls G)).1;show dS rfl (iq (cy (bj rfl rfl (j9 (by lia) (by lia))) rfl) (bA (ao rfl rfl ?_))) λ_=>rfl;have(i,x):=p
   cases x with
   |none=>rfl
   |some b=>cases b <;> rfl
 .change wp _ [.deep (.at l ((reM s).S B).o),.im _,.no,.im _,.no] _;apply aj
  cases U:inL s.es wo with
  |cons x C=>
   have u:x∈inL s.es wo:=by rw[U];show aA
   have(p,G,ep):=aM.mp u;have(H,I):=cf.mp G;have h3:=(dh.mp (ls H)).1;have (h4,h5):=(b6 _ _).mp I
   show i4 (d:=tH B (reM s) wo x) (dC (ap rfl (ap (bV (Ke hn a e f (by lia) (by lia) (by rw[<- ep,cY];show h4) Ew (ap (bj rfl rfl (lT 0 (by decide) (by rw[cB];lia))) (ap rfl rfl)))) rfl))) (_,rfl,rfl,rfl)
  |nil=>
   have ps:=tI g U E;show aS rfl (λz=>by nomatch z) (λ_=>bH ?_);apply aj;show du (fB 0 wo) (λp=>D.tup [.int p.1,.bl p.2]) (λpre M=>∃N Q,M=[.deep (.at l ((eU B wo (reM s) ((pre.filter λp=>p.2).map λp=>p.1)).S B).o),.im _,N,.im _,Q]) ?_ (_,_,rfl) ?_ ?_
   .rw[<- tG];show wn rfl
   .rintro pre p post M ex ⟨N,Q,rfl⟩;show(_,rfl,?_);walk_at "nrm";have u:=ls (p:=p) (by rw[ex];simp);have A:=(dh.mp u).1
    cases m:p.2 with
    |false=>
     show aS rfl (λz=>by nomatch z) (λ_=>bH ?_);show(.im (.int p.1),.im (.bl af),?_)
     rw[km,filter_cons_of_neg (by rw[m];show bN),filter_nil,bT]
    |true=>
     have v:kg wo=(pre.filter λp=>p.2).map (λp=>(p.1:Int))++(p.1:Int)::(post.filter λp=>p.2).map λp=>p.1:=by
      unfold kg;simp only[ex,km,qN m,bf,bO]
     rw[v]at ps;have(o1,o2,o3,o4,o5,Y):=wP (wo:=wo) h1 (psT ps);generalize hT:(pre.filter λp=>p.2).map _=T at *;have y:GpL (eU B wo (reM s) T).ms (eU B wo (reM s) T).es wo:=by rw[Y];show f.up o4 (by change ∀r∈(reM s).ms,r.Ok (Z s.es);rw[a];show e.ok)
     have L:wo.getD (p.1:Int).toNat af=ac:=by simp only[cY,bE,u,m];rfl
     show i0 (fN rfl rfl (dP rfl (dP rfl (dP (dC (ap rfl (ap (bV (Ke hn o1.es (by rw[Y];show e) y (by lia) (by lia) L Ew (ap rfl (ap rfl rfl)))) rfl))) rfl))) rfl (Eu o1 hB (by lia) (by lia))) ?_;show(.im (.int p.1),.im (.bl ac),?_);rw[km,qN m,bf,hT];unfold eU;rw[filter_nil,bO,map_nil,eW];rfl
   .rintro M ⟨N,Q,rfl⟩;show i4 rfl (_,rfl,rfl,rfl)
abbrev stF(B:LRu)(c:Nat):Nat->Spt->OD×Spt
 | 0,s=>(ab,s,)
 |k+1,s=>if (lrF B (Me c s+1) s).1.isSome then ((lrF B (Me c s+1) s).1.map wyD,(lrF B (Me c s+1) s).2,) else if ((bM B (lrF B (Me c s+1) s).2).1.isSome || (bM B (lrF B (Me c s+1) s).2).2.wt.isEmpty) then bM B (lrF B (Me c s+1) s).2 else stF B c k (bM B (lrF B (Me c s+1) s).2).2
def Wg(B:LRu)(bs:LLP)(es:LOB):Prop:=(∃y∈gys B.length (Z bs),∀p∈bS B bs y,p.sure es=ac)\/∃wo,Grp B es wo/\∃i,wo.getD i af=ac/\es.getD i ab=aa ac
structure Wi(n c X3:Nat)(B:LRu)(s:Spt)(R:OD×Spt):Prop where
 ok:SpJ n c X3 B R.2
 bs:R.2.bs=s.bs
 mv:Mvs B s.bs s.es R.2.es
 en:R.1≠ab->Wg B s.bs R.2.es
 tp:∀w,R.1=aa w->∃ds,w=.tup ds
def Wj(h:(bM B s).1=aa w):∃ds,w=.tup ds:=by
 unfold bM at h;split at h
 .cases h;show(_,rfl)
 .grind
def none_of{a:Type}{x:Option a}(h:¬x.isSome=ac):x=ab:=by simp_all
def Ey{n c X3:Nat}{B:LRu}(hr:∀r∈B,RuK n r)(hz:Z B<=1000):∀(k:Nat) (s:Spt),SpJ n c X3 B s->Me c s<k->Wi n c X3 B s (stF B c k s)
 | 0,_,_,h=>absurd h (iF _)
 |k+1,s,h,hk=>by
  have l:=tE hr _ s h (di _);dsimp only[stF];generalize lrF B _ s=R at l;split
  .rename_i d;have(y,j):=xz.mp d;show(l.ok,l.bs,l.mv,(λ_=>.inl (y,l.ye y j)),λw i=>by rw[j]at i;cases i;show(_,rfl))
  .rename_i d;have(m,p,f,z,q,u):=wQ hr hz l.ok;rw[l.bs]at f;have x:=l.le;have pt:=λw=>Wj (B:=B) (s:=R.2) (w:=w);generalize bM B R.2=P at *;split
   .show(m,p.trans l.bs,l.mv.trans f,(λe=>.inr (u e)),pt)
   .rename_i g;have h2:P.2.wt≠[]:=λe=>g (by rw[e];show oH _);have v:=q (none_of λe=>g (by rw[e];rfl)) (l.no (none_of d)) h2;have a:=Ey hr hz k P.2 m (by lia);have b:=p.trans l.bs;show(a.ok,a.bs.trans b,(l.mv.trans f).trans (by have:=a.mv;rw[b]at this;show this),(λe=>by have:=a.en e;rw[b]at this;show this),a.tp)
def Wk(B:LRu)(s:Spt):dIs ((bM B s).1.getD .non) .non=aa (.bl (!(bM B s).1.isSome)):=by
 unfold bM
 split <;> rfl
def Wl{k:Nat}(hr:∀r∈B,RuK n r)(hz:Z B<=1000)(hn:n<=60)(hB:X3+c<16777216)(h:SpJ n c X3 B s)(E:Me c s<k)(C:k<1000000000):sP l [] (s.S B).o=aa (((stF B c k s).2.S B).o,(stF B c k s).1.getD .non,):=by
 apply fO;apply aj;show bn rfl ?_;walk_at "nrm";apply aj;show p7 (λm M=>∃(a:Spt) (g:Bool) (j:Sl),M=[.deep (.at l (a.S B).o),.im (.bl g),j]/\(g=ac->SpJ n c X3 B a/\Me c a<m/\stF B c m a=stF B c k s)/\(g=af->∃w:OD,j=.im (w.getD .non)/\(w,a,)=stF B c k s)) ?_ _ k _ ⟨s,ac,_,rfl,λ_=>(h,E,rfl),λz=>by nomatch z⟩ C;rintro m M ⟨a,g,j,rfl,u,q⟩;generalize stF B c k s=Z at u q ⊢;show(g,rfl,?_,?_)
 .rintro rfl;have(h',hm,b):=u rfl
  cases m with
  |zero=>show absurd hm (iF _)
  |succ m=>
   have f:=tE hr _ a h' (di _);have mB:=h'.mB;have v:=V4 (l:=l) hr hB h' (di _) (by change Me c a+1<_;change i8 a.es*_+a.wt.length+1<_;lia);dsimp only[stF]at b;generalize lrF B _ a=R at *;apply aj;show jN (fN rfl rfl rfl rfl v) ?_;apply aj
   cases hR:R.1 with
   |some y=>
    rw[if_pos (by rw[hR];rfl),hR]at b
    show aS rfl (λz=>by nomatch z) (λ_=>bH (bn ((rV rfl (ao (aH (ap (jK qv) rfl) (f7 R.2.wt wyD)) rfl nQ)).trans rfl) (0,oU _,R.2,af,_,rfl,(λz=>by nomatch z),λ_=>(aa _,rfl,b))))
   |none=>
    rw[if_neg (by rw[hR];show bN)]at b;have(G,L,N,Q,H,T):=wQ hr hz f.ok;have x:=Wf (l:=l) hr hz hn hB f.ok;have A:=Wk B R.2;have J:=f.le;generalize bM B R.2=P at *;show jN (fN rfl rfl rfl rfl x) ?_;show bn (rV (ao rfl rfl A) (ao (aH (ap (jK qv) rfl) (f7 P.2.wt wyD)) rfl nQ)) ?_
    by_cases d:(P.1.isSome || P.2.wt.isEmpty)=ac
    .rw[if_pos d]at b
     have i:(!P.1.isSome && decide ((0:Int)<P.2.wt.length))=af:=by
      rcases(ki _ _).mp d with z |z
      .rw[z];rfl
      .rw[isEmpty_iff.mp z];show tQ _
     rw[i];show(0,oU _,P.2,af,_,rfl,(λz=>by nomatch z),λ_=>(P.1,rfl,b))
    .rw[if_neg d]at b;have p:=none_of λe=>d (by rw[e];rfl);have h2:P.2.wt≠[]:=λe=>d (by rw[e];show oH _);have I:=H p (f.no hR) h2
     have i:(!P.1.isSome && decide ((0:Int)<P.2.wt.length))=ac:=by
      have:=length_pos_iff.mpr h2;rw[p,decide_eq_true (by lia)];rfl
     simp only[i];show⟨m,di _,P.2,ac,_,rfl,(λ_=>(G,by lia,b)),λz=>by nomatch z⟩
 .rintro rfl;have(w,rfl,e):=q rfl;rw[<- e];show i4 rfl (_,rfl,rfl,rfl)
structure SpB(n c:Nat)(B:LRu)(s:Spt):Prop where
 es:Z s.es=n
 bk:∀b∈s.bs,df n b
 tw:d7 c B.length s.bs s.tw
 wv:∀y∈s.wt,y∈gys B.length (Z s.bs)
 ms:s.ms.Perm (dO B)
 st:s.st=[]
 wl:Z s.wt=Z B+Z s.bs
def Kh{n q R:Nat}(hn:n<=60):∀(B:LRu) (i c:Nat) (tw:Wt),(∀r∈B,RuK n r/\Z (grd r)<=q)->i+Z B<=R->d7 c R [] tw->d7 (c+64*q*Z B) R [] (oq i B tw)
 | [],_,_,_,_,_,h=>h
 |r::B,i,c,tw,hr,hi,h=>by
  have(f,g):=hr r aA;simp only[cB]at hi
  have a:d7 (c+64*q) R [] (ga (af,i,) (grd r) tw):=by
   show(?_,λp y d=>?_,λj=>?_)
   .rw[<- wF];show(bW.reg hn (wm f) h.wk).le ?_
    lia
   .by_cases e:y=(af,i,)
    .rw[e];show fA.mpr ?_;change i<R
     lia
    .show h.vl p y (gY.mpr ?_);rw[<- ot e p _];show gY.mp d
   .show .inl λp=>?_;rw[ot (λe=>by cases e)]
    rcases h.br j with z |z
    .show z p
    .rw[z p]
     show if_neg λx=>by
      cases x
  have:=Kh hn B (i+1) _ _ (λx b=>hr x (bp _ b)) (by lia) a;rw[cB,Nat.mul_succ,show c+_=c+64*q+64*q*B.length by lia];show this
def Wm{q:Nat}(hn:n<=60)(a:Z es=n)(hr:∀r∈B,RuK n r/\Z (grd r)<=q):SpB n (64*q*Z B) B (spT es B):=by
 show(a,(λb h=>nomatch h),?_,λy c=>?_,tX _,rfl,by change((bI (Z B)).map _).length=_;rw[az,cN];rfl)
 .have:=Kh (R:=Z B) hn B 0 0 [] hr (by lia) (⟨cr _,λp h=>nomatch h⟩,(λp y h=>nomatch h),λj=>.inl λp=>rfl);rw[lA]at this;show this
 .have(i,hi,rfl):=aM.mp c;show fA.mpr (fG.mp hi)
inductive Wh where
 |ch
 |gd (y:Wy)
 |gp (ks:LI0)
 |wd (i:Int)
abbrev Wh.D:Wh->L2.D
 |.ch=>.non
 |.gd y=>wyD y
 |.gp ks=>.tup [.str "group",.lst (ks.map .int)]
 |.wd i=>.tup [.str "world",.int i]
def mkS(n:Nat)(ks:LI0):LB0:=(bI n).map (inS ks)
def qA(n:Nat)(ks:LI0):Z (mkS n ks)=n:=by unfold mkS;rw[az,cN]
variable{ks:LI0}
def mn(t0:0<=t)(t1:t<(n:Int)):(mkS n ks).getD t.toNat af=ac↔t∈ks:=by
 delta mkS inS
 rw[bE,cz,qM (by lia)];change(ks.any λx=>x==_)=ac↔_;rw[any_eq_true];constructor
 .rintro⟨x,a,e⟩
  rwa [show t=x by lia]
 .intro h;show(t,h,by rw[beq_iff_eq];lia)
nonrec abbrev eG(G:List Prt)(es:LOB):Prop:=∀p∈G,p.sure es=ac
structure GpR(n:Nat)(B:LRu)(es:LOB)(ks:LI0):Prop where
 nn:∀x∈ks,0<=x/\x<(n:Int)
 nd:ks.Nodup
 i:∃x∈ks,es.getD x.toNat ab=aa ac
 up:∀r∈dO B,r.hd∈ks->r.bodyLost es (mkS n ks)=ac
abbrev Rt(n:Nat)(B:LRu)(bs:LLP)(es:LOB):Wh->Prop
 |.ch=>False
 |.gd y=>y∈gys B.length (Z bs)/\eG (bS B bs y) es
 |.gp ks=>GpR n B es ks
 |.wd _=>∀k,k<n->es.getD k ab≠ab
nonrec def Stp:=Pr×Wh
nonrec abbrev LSp:=List Stp
def stD(x:Stp):D:=.tup [prD x.1,x.2.D]
abbrev bd(n:Nat):LSp->LOB
 | []=>hJ n ab
 |x::st=>put (bd n st) x.1.1.toNat x.1.2
abbrev Wh.nc:Wh->Bool
 |.gd _=>ac
 |.gp _=>ac
 | _=>af
structure Wn(n:Nat)(B:LRu)(bs:LLP)(es:LOB)(x:Stp):Prop where
 t0:0<=x.1.1
 t1:x.1.1<(n:Int)
 op:opn es x.1.1=ac
 ok:(x.2=.ch/\x.1.2=ac/\∀j:Nat,(j:Int)<x.1.1->es.getD j ab≠ab)\/(x.2.nc=ac/\Rt n B bs (put es x.1.1.toNat (!x.1.2)) x.2)
abbrev Tr(n:Nat)(B:LRu)(bs:LLP):LSp->Prop
 | []=>True
 |x::st=>Tr n B bs st/\Wn n B bs (bd n st) x
def fE(n:Nat):∀st:LSp,Z (bd n st)=n
 | []=>mx
 |x::st=>by rw[bd,ce,fE n st]
structure TrS(n:Nat)(B:LRu)(s:Spt)(st:LSp):Prop where
 sv:s.st=st.reverse.map stD
 es:s.es=bd n st
 tr:Tr n B s.bs st
variable{st:LSp}{w:Wh}
def TrS.pt(h:TrS n B s st)(t0:0<=t)(t1:t<(n:Int))(a:opn s.es t=ac)(c:w.nc=ac)(k:Rt n B s.bs (put s.es t.toNat (!b)) w):TrS n B (s.pt t b w.D) (((t,b,),w,)::st):=by
 show(?_,?_,h.tr,t0,t1,h.es▸a,.inr (c,h.es▸k))
 .change s.st++[_]=_;rw[h.sv,jc,bf];rfl
 .change put s.es _ _=_;rw[h.es];rfl
def TrM(n:Nat)(B:LRu)(st:LSp)(s:Spt):Prop:=∃xt:LSp,TrS n B s (xt++st)/\∀x∈xt,x.2.nc=ac
def TrM.refl(h:TrS n B s st):TrM n B st s:=⟨[],h,λ_ h=>nomatch h⟩
def TrM.pt(h:TrM n B st s)(t0:0<=t)(t1:t<(n:Int))(a:opn s.es t=ac)(c:w.nc=ac)(k:Rt n B s.bs (put s.es t.toNat (!b)) w):TrM n B st (s.pt t b w.D):=by
 have(xt,h,d):=h;show(_::xt,h.pt t0 t1 a c k,λx q=>?_)
 grind
def TrM.same{a:Spt}(h:TrM n B st s)(b:a.st=s.st)(c:a.es=s.es)(d:a.bs=s.bs):TrM n B st a:=by
 have(xt,h,e):=h;show(xt,(by rw[b];show h.sv,by rw[c];show h.es,by rw[d];show h.tr),e)
def Ez{n:Nat}{B:LRu}{y:Wy}{st:LSp}:∀{ps:List Pr} {s:Spt},y∈gys B.length (Z s.bs)->Z s.es=n->(∀p∈bS B s.bs y,p.Ok (Z s.es))->fP s.es ps->(∀z∈ps,eG (bS B s.bs y) (put s.es z.1.toNat (!z.2)))->TrM n B st s->TrM n B st (puts s (wyD y) ps)
 | [],_,_,_,_,_,_,h=>h
 |z::ps,s,hy,hl,hG,k,hp,h=>by
  have((a,b),e):=k.op z aA;have(d,g):=b8.mp k.nd;show Ez (s:=s.pt z.1 z.2 _) hy ((ce _ _ _).trans hl) (λp q=>by change p.Ok (Z (put s.es z.1.toNat z.2));rw[ce];show hG p q) k.tail (λx c p q=>?_) (h.pt (w:=.gd y) a (by lia) e rfl (hy,hp z aA));have((f,i),j):=k.op x (bp _ c);have ne:z.1≠x.1:=λe=>d (aM.mpr (x,c,e.symm));change p.sure (put (put s.es z.1.toNat z.2) x.1.toNat _)=ac;rw[wH (by lia)];show wC (by rw[ce];show hG p q) a (by rw[ce];show b) (wI a f ne e) _ (hp x (bp _ c) p q)
def tJ{n c X3:Nat}{B:LRu}{st:LSp}(hr:∀r∈B,RuK n r):∀(k:Nat) (s:Spt),SpJ n c X3 B s->TrM n B st s->TrM n B st (lrF B k s).2
 | 0,_,_,h=>h
 |k+1,s,h,q=>by
  cases a:s.wt with
  |nil=>rw[tz a];show q
  |cons y wt=>
   have(f,_,g):=h.pop a;have d:∀p∈bS B s.bs y,p.Ok (Z s.es):=by rw[h.es];show oA hr h.bk
   cases b:prs _ s.es with
   |none=>rw[tB a b];show q.same rfl rfl rfl
   |some ps=>
    rw[qz a b];have(e,i,_):=ox d b;show tJ hr k _ (ow f e).1 (Ez g h.es d e (λz hz=>((i z).mp hz).2.2) (q.same rfl rfl rfl))
variable{wo':LB0}
def Ki(h:p.Ok (Z es))(a:∀t∈nmP p,es.getD t.toNat ab=aa ac->es'.getD t.toNat ab=aa ac)(h2:∀t∈nmP p,(es.getD t.toNat ab=aa af\/wo.getD t.toNat af=ac)->(es'.getD t.toNat ab=aa af\/wo'.getD t.toNat af=ac))(s:p.lost es wo=ac):p.lost es' wo'=ac:=by
 cases p with
 |inn t=>
  have s:(_ || wo.getD t.toNat af)=ac:=s;change(_ || wo'.getD t.toNat af)=ac;rw[ki]at s ⊢
  rcases h2 t aA (s.imp beq_iff_eq.mp id)with q |q
  .grind
  .grind
 |out t=>show beq_iff_eq.mpr (a _ aA (beq_iff_eq.mp s))
 |least k L=>
  show decide_eq_true (Int.lt_of_le_of_lt (k6 λz hz=>((h.1 z hz).2.2,λq=>?_)) (of_decide_eq_true s))
  cases b:(!_ && !_)with
  |true=>rfl
  |false=>
   have:es.getD z.1.toNat ab=aa af\/wo.getD z.1.toNat af=ac:=by
    grind
   rcases h2 z.1 (aM.mpr (z,hz,rfl)) this with u |u
   .grind
   .grind
 |most k L=>
  show decide_eq_true (Int.lt_of_lt_of_le (of_decide_eq_true s) ?_);rw[jt,jt];show k6 λz hz=>((h.1 z hz).2.2,λq=>beq_iff_eq.mpr (a _ (aM.mpr (z,hz,rfl)) (beq_iff_eq.mp q)))
variable{r:Rul}
def Wo(g:Z es=n)(hr:r.Ok n)(h:Kp es wo ks r):r.bodyLost es (mkS n ks)=ac:=by
 subst g;have(p,c,l,a):=h;have b:=hr.ps p c;show any_eq_true.mpr (p,c,?_);unfold kpL at a
 by_cases d:p.lost es ((bI (Z es)).map (inS []))=ac
 .show vb (cW.refl _) (by rw[qA,az,cN],λi hi=>?_) b d;rw[bE,cz]at hi
  cases e:(bI (Z es))[i]? with
  |none=>rw[e]at hi;nomatch hi
  |some j=>rw[e]at hi;nomatch hi
 .rw[if_neg d]at a;show Ki b (λ_ _ e=>e) (λt f e=>e.imp id λw=>?_) l;have(t0,t1):=qw b t f;show(mn t0 t1).mpr (a t (cf.mpr (sX.mpr f,w)))
def tF.gp(h:tF es wo ms t ks)(a:Z es=n)(hm:∀r∈ms,r.Ok n)(pm:ms.Perm (dO B))(f:cW es es')(hi:es'.getD t.toNat ab=aa ac):GpR n B es' ks:=by
 subst a;show(λx c=>(h.el x c).1,h.nd,(t,h.mt,hi),λr hr hd=>?_);have hr:=pm.mem_iff.mpr hr;show rX (λp b z=>vb f (nM.refl _) ((hm r hr).ps p b) z) (Wo rfl (hm r hr) (h.kp r hr hd))
def Kj{n c X3:Nat}{B:LRu}{wo:LB0}{st:LSp}(hn:n<=60):∀{ts:LI0} {s:Spt},SpJ n c X3 B s->fD n s.ms->GpL s.ms s.es wo->(∀t∈ts,wo.getD t.toNat af=ac)->fP s.es (ts.map λt=>(t,af,))->TrM n B st s->TrM n B st (eU B wo s ts)
 | [],_,_,_,_,_,_,h=>h
 |t::ts,s,h,hm,hg,hw,k,q=>by
  have((a,b),e):=k.op _ aA;have b:t<n:=by rw[<- h.es];show b
  have a:0<=t:=a;have(ks,d,_,f):=Ex hn h.es hm hg a b (hw t aA);show Kj hn (s:=s.pt t af _) (h.pt a b e).1 hm (hg.up (wO a e) (by rw[h.es];show hm.ok)) (λu g=>hw u (bp _ g)) k.tail ?_;unfold tH;rw[d];show(q.pt (w:=.gp ks) a b e rfl (f.gp h.es hm.ok h.ms (wO a e) (fq s.es ac (by rw[h.es];lia))))
def Wp(hr:∀r∈B,RuK n r)(hz:Z B<=1000)(hn:n<=60)(h:SpJ n c X3 B s)(q:TrM n B st s):TrM n B st (bM B s).2/\∀w,(bM B s).1=aa w->∃ks,w=(Wh.gp ks).D/\GpR n B (bM B s).2.es ks:=by
 have hm:=fD.of hr hz h.ms;have(f,g,pm,i):=h.rem' hm;have a:fD n (reM s).ms:=(λr q=>hm.ok r (pm.mem_iff.mp q),λr q=>hm.nm r (pm.mem_iff.mp q),λr q=>hm.ne r (pm.mem_iff.mp q),by rw[pm.length_eq];show hm.len);have b:GpL (reM s).ms (reM s).es (cm s.es s.ms).1:=(g.1,λr q=>g.2 r (pm.mem_iff.mp q));have m:TrM n B st (reM s):=q.same rfl rfl rfl;unfold bM
 cases l:inL s.es (cm s.es s.ms).1 with
 |cons x C=>
  show(m,λw e=>?_);cases e;have E:x∈inL s.es (cm s.es s.ms).1:=by rw[l];show aA
  have(p,z,rfl):=aM.mp E;have(d,j):=cf.mp z;have (h4,h5):=(b6 _ _).mp j;have y:=(dh.mp (ls d)).1;have(ks,u,_,v):=Ex (t:=p.1) hn f.es a b (by lia) (by rw[<- h.es];lia) (by rw[cY];show h4);show(ks,?_,v.gp f.es a.ok f.ms (cW.refl _) ?_)
  .unfold tH;rw[u];rfl
  .change s.es.getD (p.1:Int).toNat ab=aa ac;rw[cY,bE,(ls d)]
   show eq_of_beq h5
 |nil=>show⟨Kj hn f a b (λt A=>(Kf.mp A).2) (tI g.1 l i) m,λw e=>nomatch e⟩
structure StS(n:Nat)(B:LRu)(s:Spt)(R:OD×Spt):Prop where
 tw:R.2.tw=s.tw
 pp:R.2.pp=s.pp
 ct:R.2.ct=s.ct
 en:R.2.en=s.en
 wy:∀w,R.1=aa w->∃wh:Wh,w=wh.D/\wh.nc=ac/\Rt n B s.bs R.2.es wh
def Kk(w:D):∀(ps:List Pr) (s:Spt),(puts s w ps).tw=s.tw/\(puts s w ps).pp=s.pp/\(puts s w ps).ct=s.ct/\(puts s w ps).en=s.en
 | [],_=>(rfl,rfl,rfl,rfl)
 |z::ps,s=>Kk w ps _
def Kl(B:LRu):∀k s,(lrF B k s).2.tw=s.tw/\(lrF B k s).2.pp=s.pp/\(lrF B k s).2.ct=s.ct/\(lrF B k s).2.en=s.en
 | 0,s=>(rfl,rfl,rfl,rfl)
 |k+1,s=>by
  cases e:s.wt with
  |nil=>rw[tz e];show(rfl,rfl,rfl,rfl)
  |cons y wt=>
   cases f:prs _ s.es with
   |none=>rw[tB e f];show(rfl,rfl,rfl,rfl)
   |some ps=>
    rw[qz e f];have(a,b,c,d):=Kl B k _
    have(g,h,i,d'):=Kk _ ps {s with wt:=wt}
    show(a.trans g,b.trans h,c.trans i,d.trans d')
def Km(B:LRu)(wo:LB0):∀(ts:LI0) (s:Spt),(eU B wo s ts).tw=s.tw/\(eU B wo s ts).pp=s.pp/\(eU B wo s ts).ct=s.ct/\(eU B wo s ts).en=s.en
 | [],_=>(rfl,rfl,rfl,rfl)
 |t::ts,s=>Km B wo ts _
def wR{n c X3:Nat}{B:LRu}{st:LSp}(hr:∀r∈B,RuK n r)(hz:Z B<=1000)(hn:n<=60):∀(k:Nat) (s:Spt),SpJ n c X3 B s->TrM n B st (lrF B (Me c s+1) s).2->TrM n B st (stF B c (k+1) s).2/\StS n B s (stF B c (k+1) s)
 |k,s,h,lt=>by
  have l:=tE hr _ s h (di _);have(a,b,d,f):=Kl B _ s;dsimp only[stF];generalize lrF B _ s=R at l lt a b d f;split
  .rename_i G;have(y,p):=xz.mp G;show(lt,a,b,d,f,λw e=>?_);rw[p]at e;cases e;show(.gd y,rfl,rfl,l.ye y p)
  .have(q,I,_):=wQ hr hz l.ok;have(pt,L):=Wp hr hz hn l.ok lt
   have J:(bM B R.2).2.tw=R.2.tw/\(bM B R.2).2.pp=R.2.pp/\(bM B R.2).2.ct=R.2.ct/\(bM B R.2).2.en=R.2.en:=by
    unfold bM;split
    .show(rfl,rfl,rfl,rfl)
    .show Km _ _ _ _
   generalize bM B R.2=P at *;have(g,i,j,m):=J;split
   .show(pt,g.trans a,i.trans b,j.trans d,m.trans f,λw e=>?_);have(ks,C,E):=L w e;show(.gp ks,C,rfl,E)
   .cases k with
    |zero=>show⟨pt,g.trans a,i.trans b,j.trans d,m.trans f,λw e=>nomatch e⟩
    |succ k=>
     have(H,u,v,x,z,A):=wR hr hz hn k P.2 q (tJ hr _ _ q pt);show(H,u.trans (g.trans a),v.trans (i.trans b),x.trans (j.trans d),z.trans (m.trans f),λw e=>by rw[<- (I.trans l.bs)];show A w e)
nonrec def wS(L:LII)(S:LI0):Int:=bQ (λt=>decide (t∈S)) L
def qB(p:Int->Bool)(z:Int×Int)(L:LII):bQ p (z::L)=(if p z.1=ac then z.2 else 0)+bQ p L:=by
 unfold bQ;rw[filter_cons];split
 .rw[bO,sum_cons]
 .omega
def Kn{p:Int->Bool}{t:Int}(h:p t=af):∀L:LII,bQ (λu=>p u || u==t) L=bQ p L+wt L t
 | []=>rfl
 |z::L=>by
  have e0:wt _ t=bQ (λu=>u==t) (z::L):=rfl;have a:wt L t=bQ (λu=>u==t) L:=rfl;simp only[e0,qB,qB,qB,(Kn h L),a]
  by_cases e:z.1=t
  .simp only[e,h,beq_self_eq_true];simp
   lia
  .simp only[beq_false_of_ne e,tR];simp
   lia
def Ko{S:LI0}(h:t∉S):wS L (S++[t])=wS L S+wt L t:=by
 rw[<- Kn (decide_eq_false h)];show pW λz _=>?_;rw[iD];simp
def Kq(p:Int->Bool):∀L:LII,bQ p L+bQ (λt=>!p t) L=bQ (λ_=>ac) L
 | []=>rfl
 |z::L=>by
  rw[qB,qB,qB,<- (Kq p L)]
  cases p z.1 <;> simp <;> lia
def Wq(e:InN n L)(hz:Z L<=100000)(a:LI0)(v:Z a<=1000)(nd:a.Nodup)(lack:Int):∃d,m_7 [.lst (L.map itD),.lst (a.map D.int),.int lack]=aa d/\∃ks:LI0,d=.lst (ks.map D.int)/\(∀k∈ks,k∈a)/\Z ks<=Z a/\(lack<=wS L a->lack<=wS L ks):=by
 apply lX;apply aj;show bn (aH rfl (JM L hz)) ?_;walk_at "nrm";apply aj;show eC rfl ?_;walk_at "nrm";apply aj;show bn rfl ?_;walk_at "nrm";apply aj;show du a D.int (λpre M=>∃(ks:LI0) (left:Int) (g i:Sl),M=[.im _,.im _,.im _,.im _,.own (ks.map D.int),.im (.int left),g,i]/\(∀k∈ks,k∈pre)/\Z ks<=Z pre/\left=lack-wS L ks/\(0<left->wS L ks=wS L pre)) rfl ([],lack,_,_,rfl,(λk h=>nomatch h),aO _,by rw[show wS L []=0 by unfold wS bQ;rw[filter_eq_nil_iff.mpr λz _=>by simp];rfl];lia,λ_=>rfl) ?_ ?_
 .rintro pre t post M ex ⟨ks,left,g,i,rfl,b,h2,j,l⟩
  have c:=λq=>by
   rw[ex]at nd;show(eV.mp nd).2.2 t q t aA rfl
  have m:Z pre<Z a:=by rw[ex];simp
  have w:=Ef e t;have r:=Ko (L:=L) c;have u:=Ko (L:=L) λq=>c (b t q);show(_,rfl,?_);walk_at "nrm";apply aj;show bn (d:=.int (wt L t)) ?_ ?_
  .rw[<- (qx L).get];change aa ((gS _ _ _).getD _)=_;rw[JK]
  walk_at "nrm";show aS (iq (bA (ao rfl rfl nQ)) (bA (ao rfl rfl nQ))) (λz=>?_) λz=>?_
  .have(x,y):=(b6 _ _).mp z;apply aj;show gz rfl rfl (by rw[az];lia) ?_;walk_at "nrm";show(_,rfl,ks++[t],left-wt L t,.im (.int t),.im (.int (wt L t)),?_,λk f=>?_,?_,by lia,λ_=>by lia)
   .rw[bf];rfl
   .rcases bw.mp f with q |q
    .show bX _ (b k q)
    .show cq _ q
   .rw[aV,aV];show Nat.add_le_add_right h2 _
  .show bH (ks,left,_,_,rfl,λk f=>bX _ (b k f),by rw[aV];lia,j,λq=>?_);rw[decide_eq_true q,oG]at z
   lia
 .rintro M ⟨ks,left,g,i,rfl,b,h2,j,l⟩;show nR rfl (jI (ks,rfl,b,h2,λq=>?_))
  by_cases p:0<left
  .rw[l p];show q
  .lia
def Wr(e:Option Bool)(b:Bool):dEq (shD e) (.bl b)=aa (.bl (e==aa b)):=by
 cases e with
 |none=>rfl
 |some c=>cases b <;> cases c <;> rfl
def wth(es:LOB)(b:Bool)(ord:LI0):LI0:=ord.filter λt=>es.getD t.toNat ab==aa b
variable{ord:LI0}
def wT(a:∀t∈ord,0<=t/\t<(Z es:Int))(d:Z ord<=1000)(b:Bool):qp [.lst (ord.map D.int),.lst (es.map shD),.bl b]=aa (.lst ((wth es b ord).map D.int)):=
 lR (congrArg _ (fm ord D.int _ D.int rfl (by lia) λt c=>dS rfl (bA (ao (bj rfl rfl (jC (a t c).1 (a t c).2)) rfl (Wr _ _))) λ_=>rfl))
def Kr(L:LII)(hz:Z L<=100000):vY [.lst (L.map itD)]=aa (.int (bQ (λ_=>ac) L)):=by
 show cV (cU (aH (ap (bV (fm L itD _ _ rfl (by lia) λz _=>dS rfl rfl λ_=>rfl)) rfl) (y8 (λ_=>ac) L)))
structure gZ(es:LOB)(ord:LI0):Prop where
 nn:∀t∈ord,0<=t/\t<(Z es:Int)
 nd:ord.Nodup
 al:∀t:Int,0<=t->t<(Z es:Int)->es.getD t.toNat ab≠ab->t∈ord
def gZ.len(h:gZ es ord):Z ord<=Z es:=ou h.nd h.nn
def Agr(ks:LI0)(es e':LOB):Prop:=Z e'=Z es/\∀k∈ks,e'.getD k.toNat ab=es.getD k.toNat ab
structure wU(es:LOB)(ks:LI0)(P:LOB->Prop):Prop where
 nn:∀k∈ks,(0<=k/\k<(Z es:Int))/\es.getD k.toNat ab≠ab
 ln:Z ks<=60
 ok:∀e',Agr ks es e'->P e'
def EA:t∈wth es b ord↔t∈ord/\es.getD t.toNat ab=aa b:=by
 unfold wth;rw[cf,beq_iff_eq]
def Ws(h:gZ es ord)(a:InN es.length L)(b:Bool):wS L (wth es b ord)=bQ (λt=>es.getD t.toNat ab==aa b) L:=pW λz hz=>by
 rw[iD,decide_eq_true_eq,EA,beq_iff_eq];show(λq=>q.2,λq=>(h.al z.1 (a z hz).1 (a z hz).2.1 (by grind),q))
def wV(h:gZ es ord)(hn:Z es<=60)(f:InN es.length L)(hz:Z L<=100000)(b:Bool)(lack:Int)(l:lack<=bQ (λt=>es.getD t.toNat ab==aa b) L):∃ks:LI0,m_7 [.lst (L.map itD),.lst ((wth es b ord).map D.int),.int lack]=aa (.lst (ks.map D.int))/\wU es ks λe'=>lack<=bQ (λt=>e'.getD t.toNat ab==aa b) L:=by
 have m:=h.len;have wl:Z (wth es b ord)<=Z ord:=hE _ _;have(d,e,ks,rfl,g,h2,i):=Wq f hz (wth es b ord) (by lia) (h.nd.sublist oO) lack;show(ks,e,λk j=>?_,by lia,λe' ha=>?_)
 .have(a,c):=EA.mp (g k j);show(h.nn k a,by rw[c];grind)
 .show tS (i (by rw[Ws h f b];show l)) (k6 λz hz=>((f z hz).2.2,λq=>?_));have q:=of_decide_eq_true q;rw[beq_iff_eq,ha.2 _ q];show(EA.mp (g _ q)).2
def wW{P:LOB->Prop}(h:0<=t/\t<(Z es:Int))(a:es.getD t.toNat ab=aa b)(k:∀e':LOB,e'.getD t.toNat ab=aa b->P e'):wU es [t] P:=(λx c=>by rw[bv.mp c];show⟨h,by rw[a];show λe=>nomatch e⟩,(by decide:1<=60),λe' ha=>k e' ((ha.2 t aA).trans a))
def wX{k:Int}(e:LOB):bQ (λt=>!(e.getD t.toNat ab==aa af)) L<=k↔bQ (λ_=>ac) L-k<=bQ (λt=>e.getD t.toNat ab==aa af) L:=by
 have:=Kq (λt=>e.getD t.toNat ab==aa af) L;lia
def sure_by(p:Prt)(c:p.Ok (Z es))(h:gZ es ord)(hn:Z es<=60)(d:p.sure es=ac)(a:fo M=aa p.obj)(ha:fa M=aa [.lst (es.map shD),.lst (ord.map D.int)]):
  ∃ks:LI0,bi (aP "In" "sure_by" Ct fo fa) (bi (aP "Out" "sure_by" CD fo fa) (bi (aP "Least" "sure_by" Cy fo fa) (aP "Most" "sure_by" CB fo fa))) M=aa (.lst (ks.map D.int))/\wU es ks λe'=>p.sure e'=ac:=by
 have f:=h.len
 cases p with
 |inn t=>show([t],dU ((cE a rfl ha).trans rfl),wW c (beq_iff_eq.mp d) λe' q=>beq_iff_eq.mpr q)
 |out t=>show([t],bK (bL a (by decide)) (dU ((cE a rfl ha).trans rfl)),wW c (beq_iff_eq.mp d) λe' q=>beq_iff_eq.mpr q)
 |least k L=>
  have(ks,e,b):=wV h hn c.1 c.2 ac k (of_decide_eq_true d)
  show(ks,bK (bL a (by decide)) (bK (bL a (by decide)) (dU ((cE a rfl ha).trans (cV (cU (aH (ap rfl (ap (aH rfl (wT h.nn (by lia) ac)) (ap rfl rfl))) e)))))),b.nn,b.ln,λe' q=>decide_eq_true (b.ok e' q))
 |most k L=>
  have(ks,e,b):=wV h hn c.1 c.2 af _ ((wX es).mp (of_decide_eq_true d));show(ks,bK (bL a (by decide)) (bK (bL a (by decide)) (bK (bL a (by decide)) ((cE a rfl ha).trans (cV (cU (aH (ap rfl (ap (aH rfl (wT h.nn (by lia) af)) (ap (ao (aH rfl (Kr L c.2)) rfl l5) rfl))) e)))))),b.nn,b.ln,λe' q=>decide_eq_true ((wX e').mpr (b.ok e' q)))
def Wu(p:Prt)(c:p.Ok (Z es))(m:Z wo=Z es)(h:gZ es ord)(hn:Z es<=60)(d:p.lost es wo=ac)(a:fo M=aa p.obj)(ha:fa M=aa [.lst (es.map shD),.lst (wo.map D.bl),.lst (ord.map D.int)]):
  ∃ks:LI0,bi (aP "In" "lost_by" CG fo fa) (bi (aP "Out" "lost_by" CN fo fa) (bi (aP "Least" "lost_by" CJ fo fa) (aP "Most" "lost_by" CL fo fa))) M=aa (.lst (ks.map D.int))/\wU es ks λe'=>p.lost e' wo=ac:=by
 have r:=h.len
 cases p with
 |inn t=>
  have f:=j9 c.1 (by rw[m];show c.2);have d:(_ || wo.getD t.toNat af)=ac:=d
  cases g:wo.getD t.toNat af with
  |true=>
   rw[g]at f
   show([],dU ((cE a rfl ha).trans (cV (cU (lY (cy (bj rfl rfl f) rfl) (λ_=>rfl) λe=>nomatch e)))),(λk q=>nomatch q),cr _,λe' _=>by change(_ || wo.getD t.toNat af)=ac;rw[g];show oH _)
  |false=>
   rw[g]at f;rw[g,tR]at d
   show([t],dU ((cE a rfl ha).trans (cV (cU (lY (cy (bj rfl rfl f) rfl) (λe=>nomatch e) λ_=>rfl)))),wW c (beq_iff_eq.mp d) λe' q=>by change(_ || _)=ac;rw[q];rfl)
 |out t=>show([t],bK (bL a (by decide)) (dU ((cE a rfl ha).trans rfl)),wW c (beq_iff_eq.mp d) λe' q=>beq_iff_eq.mpr q)
 |least k L=>
  have n:=hE (λz:Int×Int=>!(wo.getD z.1.toNat af)) L;have i:InN es.length (L.filter λz=>!(wo.getD z.1.toNat af)):=λz hz=>c.1 z (cf.mp hz).1;have j:∀e':List _,bQ _ L=_:=λe'=>(F0 (λt=>!(e'.getD t.toNat ab==aa af)) (λt=>!(wo.getD t.toNat af)) L).symm;have l:=Jn c.1 m c.2;have d:=of_decide_eq_true d;rw[j]at d;generalize L.filter _=left at n i j l d;have(ks,e,b):=wV h hn i (by have:=c.2;lia) af (bQ (λ_=>ac) left-k+1) (by have:=(wX es).mp (by lia:bQ _ left<=k-1);lia);show(ks,bK (bL a (by decide)) (bK (bL a (by decide)) (dU ((cE a rfl ha).trans ?_))),b.nn,b.ln,λe' q=>decide_eq_true ?_)
  .show cV (j8 (GP (aH rfl l)) (cU (aH (ap rfl (ap (aH rfl (wT h.nn (by lia) af)) (ap (ao (ao (aH rfl (Kr left (by have:=c.2;lia))) rfl l5) rfl gB) rfl))) e)))
  .rw[j];have:=b.ok e' q;have:=(wX (k:=k-1) (L:=left) e').mpr (by lia)
   lia
 |most k L=>
  have(ks,e,b):=wV h hn c.1 c.2 ac _ (of_decide_eq_true d);show(ks,bK (bL a (by decide)) (bK (bL a (by decide)) (bK (bL a (by decide)) ((cE a rfl ha).trans (cV (cU (aH (ap rfl (ap (aH rfl (wT h.nn (by lia) ac)) (ap (ao rfl rfl gB) rfl))) e)))))),b.nn,b.ln,λe' q=>decide_eq_true (b.ok e' q))
structure qC(es:LOB)(gs:LI0)(P:LOB->Prop):Prop where
 nn:∀k∈gs,(0<=k/\k<(Z es:Int))/\es.getD k.toNat ab≠ab
 ln:Z gs<=100000
 ok:∀e',Agr gs es e'->P e'
variable{ys:LI0}{e':LOB}
def Agr.left{C:LI0}(h:Agr (C++ys) es e'):Agr C es e':=(h.1,λk a=>h.2 k (bX _ a))
def Agr.right{C:LI0}(h:Agr (C++ys) es e'):Agr ys es e':=(h.1,λk a=>h.2 k (cq _ a))
def Wv{a:Type}(y:a)(l:List a):((y::l).drop (HT.sIx (y::l).length 0 ab)).take (HT.sIx (y::l).length (y::l).length (aa 1)-HT.sIx (y::l).length 0 ab)=[y]:=by
 rfl
variable{es0:LOB}{b c:L2.D}
def Ww(hl:Z es=n)(hn:n<=60)(hm:fD n ms)(pm:ms.Perm (dO B))(h:gZ es ord)(m:GpR n B es ks):
  ∃gs:LI0,o_9 [slf es0 a b c d e C ms,.lst (es.map shD),.lst (ks.map D.int),.lst (ord.map D.int)]=aa (gs.map D.int)/\qC es gs λe'=>GpR n B e' ks:=by
 subst hl;have ol:=h.len;have kl:=ou m.nd m.nn;have hml:=hm.len
 suffices z:wp b_9 _ (λr=>∃gs:LI0,r=.rtO (gs.map D.int)/\qC es gs λe'=>GpR es.length B e' ks) by
  have(r,e,gs,rfl,h):=z;show(gs,nU e,h)
 apply aj;show bn (aH (ap (aH rfl (f7 es shD)) (ap rfl rfl)) (Jl es.length ks (by lia) (by lia) (by lia))) ?_;apply aj;have E:∀t:Int,0<=t->t<_->atI ((mkS es.length ks).map D.bl) t=aa _:=λt t0 t1=>j9 t0 (by rw[qA];show t1);show eC (vn (bV (fm ord D.int _ D.int rfl (by lia) λt T=>dS rfl (iq (cy (bj rfl rfl (E t (h.nn t T).1 (h.nn t T).2)) rfl) (bA (ao (bj rfl rfl (jC (h.nn t T).1 (h.nn t T).2)) rfl (pV _ _)))) λ_=>rfl)) rfl rfl) ?_
 obtain⟨g,gl,hg0,J⟩:∃g gl,(ord.filter λt=>(mkS es.length ks).getD t.toNat af && (es.getD t.toNat ab==aa ac))=g::gl/\g∈ord/\g∈ks/\es.getD g.toNat ab=aa ac:=by
  have(x,U,ex):=m.i;have(x0,x1):=m.nn x U;have I:x∈ord.filter λt=>(mkS es.length ks).getD t.toNat af && (es.getD t.toNat ab==aa ac):=cf.mpr (h.al x x0 x1 (by rw[ex];show λq=>nomatch q),by rw[(mn x0 x1).mpr U,ex];rfl)
  cases j:ord.filter _ with
  |nil=>rw[j]at I;nomatch I
  |cons y l=>
   have hy:y∈ord.filter λt=>(mkS es.length ks).getD t.toNat af && (es.getD t.toNat ab==aa ac):=by rw[j];show aA
   have(y1,y2):=cf.mp hy;have(y2,y3):=(b6 _ _).mp y2;have(z0,z1):=h.nn y y1;show(y,l,rfl,y1,(mn z0 z1).mp y2,beq_iff_eq.mp y3)
 rw[hg0,Wv];apply aj;show du ms mkD (λpre M=>∃(gs:LI0) (v6 v7:Sl),M=[.im _,.im _,.im _,.im _,.im _,.own (gs.map D.int),v6,v7]/\(∀k∈gs,(0<=k/\k<_)/\es.getD k.toNat ab≠ab)/\Z gs<=1+60*Z pre/\g∈gs/\∀r∈pre,r.hd∈ks->∀e',Agr gs es e'->r.bodyLost e' (mkS es.length ks)=ac) rfl ⟨[g],_,_,rfl,(λk u=>by rw[bv.mp u];show⟨h.nn g J.1,by rw[J.2.2];show λq=>nomatch q⟩),aO _,aA,λr hr=>nomatch hr⟩ ?_ ?_
 .rintro pre r post M ex ⟨gs,v6,v7,rfl,L,h2,N,Q⟩;have w:r∈ms:=by rw[ex];simp
  have hpl:Z pre<Z ms:=by rw[ex];simp
  have A:=hm.ok r w;have(Y,d1):=A.hd (hm.ne r w);show(_,rfl,?_);show aS (cy (bj rfl rfl (E r.hd Y d1)) rfl) (λz=>?_) λz=>?_
  .have u:=(mn Y d1).mp z
   cases j:r.ps.find? _ with
   |none=>
    have:=Eb (es:=es) (wo:=mkS es.length ks) r;rw[j,(m.up r (pm.mem_iff.mp w) u)]at this
    nomatch this
   |some p=>
    have H:=xm j;have G:=Ea (wo:=mkS es.length ks) r.ps A.ps (qA _ _);rw[j]at G;have(js,e1,e2):=Wu (M:=[.im _,.im _,.im _,.im _,.im _,.own _,.im _,.im _]) (fo:=aw m_4 (ag (ae 7) (ag (ae 1) (ag (ae 4) λ_=>aa [])))) (fa:=ag (ae 1) (ag (ae 4) (ag (ae 3) λ_=>aa []))) p (A.ps p H) (qA _ _) h hn (find?_some j) (aH rfl G) rfl;have:=e2.ln;show(_,D6 e1 rfl (by rw[az,az];lia),gs++js,_,_,by rw[bf];rfl,λk u=>?_,?_,bX _ N,λr' v f e' ha=>?_)
    .rcases bw.mp u with q |q
     .show L k q
     .show e2.nn k q
    .simp only[aV,aV,gc];lia
    .rcases bw.mp v with q |q
     .show Q r' q f e' ha.left
     .rw[bv.mp q];show any_eq_true.mpr (p,H,e2.ok e' ha.right)
  .show bH (gs,_,_,rfl,L,by rw[aV];lia,N,λr' v f=>?_)
   rcases bw.mp v with q |q
   .show Q r' q f
   .rw[bv.mp q]at f;rw[(mn Y d1).mpr f]at z
    nomatch z
 .rintro M ⟨gs,v6,v7,rfl,L,h2,N,Q⟩;show nR rfl (gs,rfl,L,by lia,λe' ha=>(λx U=>m.nn x U,m.nd,(g,J.2.1,by rw[ha.2 g N];show J.2.2),λr hr u=>Q r (pm.mem_iff.mpr hr) u e' ha))
def Wx{bs:LLP}(hr:∀r∈B,RuK n r)(a:∀b∈bs,df n b)(hn:n<=60)(y:Wy):Z (bS B bs y)<=1001:=by
 have(z,j):=y
 cases z with
 |true=>
  change(brg (bs.getD j [])).length<=_;unfold brg;rw[az];have:=(Es a j).len
  lia
 |false=>
  change(((B[j]?).map grd).getD []).length<=_
  cases e:B[j]? with
  |none=>show cr _
  |some r=>show D7 (hr r (dX e))
def Wz{bs:LLP}(I:Z es=n)(hn:n<=60)(hr:∀r∈B,RuK n r)(H:∀b∈bs,df n b)(hm:fD n ms)(pm:ms.Perm (dO B))(h:gZ es ord)(l:Rt n B bs es w):
  ∃gs:LI0,o_3 [slf es0 a b (gdT B bs) d e C ms,.lst (es.map shD),w.D,.lst (ord.map D.int)]=aa (gs.map D.int)/\qC es gs λe'=>Rt n B bs e' w:=by
 suffices z:wp b_3 _ (λr=>∃gs:LI0,r=.rtO (gs.map D.int)/\qC es gs λe'=>Rt n B bs e' w) by
  have(r,e,gs,rfl,h):=z;show(gs,nU e,h)
 cases w with
 |ch=>show l.elim
 |wd i=>
  apply aj;show iZ (Rk (ap (aH rfl (f7 es shD)) rfl) (by lia) (by lia)) (_,rfl,λk c=>?_,by rw[az,cN];lia,λe' ha k c=>?_)
  .have(j,m,rfl):=aM.mp c;have:=fG.mp m;show((by lia,by lia),by rw[cY];show l j (by lia))
  .have:=ha.2 _ (aM.mpr (k,fG.mpr (by lia),rfl));rw[cY]at this;rw[this]
   show l k c
 |gp ks=>
  have(gs,u,f):=Ww I hn hm pm h l;apply aj;show aS rfl (λz=>nomatch z) λ_=>bH ?_;apply aj;show iZ ?_ (gs,rfl,f);change(if "Seeking"="Seeking" /\ List.contains (spN++(["paper","count","ended"]:LSt)) "grounds_of_group"=af then (o_9 [slf es0 a b _ d e C ms,_,_,_]).bind λB=>if B.all D.flat then aa B else ab else ab)=_
  rw[if_pos (rfl,rfl),u,ax,if_pos (all_eq_true.mpr λd hd=>by have(z,_,rfl):=aM.mp hd;rfl)]
 |gd y=>
  have(J,Q):=l;have L:=Wx hr H hn y;have ne:∀t:Str,(wyS y.1==t)=af->mB (m2 dEq (mIx (ar 2) (kI 0)) (λ_=>aa _)) (eN 6 [slf es0 a b (gdT B bs) d e C ms,.lst (es.map shD),(Wh.gd y).D,.lst (ord.map D.int)])=aa af:=λt T=>bA (ao rfl rfl (by rw[rT,T]));apply aj
  show aS (ne "world" (by cases y.1 <;> decide)) (λz=>nomatch z) λ_=>bH ?_
  apply aj
  show aS (ne "group" (by cases y.1 <;> decide)) (λz=>nomatch z) λ_=>bH ?_
  apply aj;show eC rfl ?_;apply aj;show du _ Prt.obj (λpre M=>∃(gs:LI0) (G:Sl),M=[.im _,.im _,.im _,.im _,.own (gs.map D.int),G]/\(∀k∈gs,(0<=k/\k<Z es)/\es.getD k.toNat ab≠ab)/\Z gs<=60*Z pre/\∀p∈pre,∀e',Agr gs es e'->p.sure e'=ac) (eB (d:=gdD B bs y) ?_ rfl) ⟨[],_,rfl,(λk c=>nomatch c),aO _,λp A=>nomatch A⟩ ?_ ?_
  .have(j,m):=oN J;change(a8 (wyK y) _).bind _=_;simp only[Em (λ_ _=>Ei) (JY _ _) m,ax,cz,m];rfl
  .rintro pre p post M ex ⟨gs,G,rfl,v,h2,x⟩;have g:p∈bS B bs y:=by rw[ex];simp
   have N:Z pre<Z (bS B bs y):=by rw[ex];simp
   show(_,rfl,?_);walk_at "nrm";have(js,u,f):=sure_by (M:=[.im _,.im _,.im (Wh.gd y).D,.im _,.own _,.im p.obj]) (fo:=ae 5) (fa:=ag (ae 1) (ag (ae 3) λ_=>aa [])) p (by rw[I];show(oA hr H) p g) h (by lia) (Q p g) rfl rfl;have:=f.ln;show(_,D6 u rfl (by rw[az,az];lia),gs++js,_,by rw[bf];rfl,λk c=>?_,?_,λU E e' ha=>?_)
   .rcases bw.mp c with q |q
    .show v k q
    .show f.nn k q
   .rw[aV,aV,gc];lia
   .rcases bw.mp E with q |q
    .show x U q e' ha.left
    .rw[bv.mp q];show f.ok e' ha.right
  .rintro M ⟨gs,G,rfl,v,h2,x⟩;show nR rfl (gs,rfl,v,by lia,λe' ha=>(J,λp A=>x p A e' ha))
def WA{a b c:LOB}(f:cW a b)(g:cW b c):cW a c:=(g.len.trans f.len,λi=>by
 rcases f.at' i with q |q
 .grind
 .rcases g.at' i with z |z
  .grind
  .grind)
def i9{bs:LLP}:∀(C:LSp) {st:LSp},Tr n B bs (C++st)->Tr n B bs st/\cW (bd n st) (bd n (C++st))/\∀x∈C,(bd n st).getD x.1.1.toNat ab=ab
 | [],st,h=>⟨h,cW.refl _,λx b=>nomatch b⟩
 |y::C,st,h=>by
  have(d,h2):=h;have(a,f,c):=i9 C d;show(a,WA f (wO h2.t0 h2.op),λx b=>?_)
  rcases bc.mp b with e |e
  .rw[e]
   rcases f.at' (S y.1.1) with q |q
   .lia
   .rw[<- q];show i7 h2.op
  .grind
def EB{bs:LLP}:∀{st:LSp},Tr n B bs st->∀t:Int,0<=t->(bd n st).getD t.toNat ab≠ab->∃x∈st,x.1.1=t
 | [],_,t,_,h=>absurd (by
   change(hJ n ab).getD t.toNat ab=ab;rw[bE,oM]
   split <;> rfl) h
 |x::st,h,t,t0,hs=>by
  by_cases e:x.1.1=t
  .grind
  .have:=h.2.t0;rw[bd,dz _ _ (by lia)]at hs;have(y,a,e):=EB h.1 t t0 hs
   grind
variable{x:Stp}
def wY{bs:LLP}{C:LSp}(h:Tr n B bs (C++x::st)):(bd n (C++x::st)).getD x.1.1.toNat ab=aa x.1.2:=by
 have(a,f,_):=i9 C h;have:=a.2.t0;have:=a.2.t1;have e:(bd n (x::st)).getD x.1.1.toNat ab=aa x.1.2:=fq _ _ (by rw[fE];lia)
 rcases f.at' (S x.1.1) with q |q
 .grind
 .grind
def oB{bs:LLP}:∀{st:LSp},Tr n B bs st->(st.map (·.1.1)).Nodup
 | [],_=>fH
 |x::st,h=>by
  show b8.mpr (λq=>?_,oB h.1);have(y,a,e):=aM.mp q;have(p,r,rfl):=mE a;have:=wY h.1;rw[e,i7 h.2.op]at this
  grind
def jO{bs:LLP}(h:Tr n B bs st)(b:x∈st):0<=x.1.1/\x.1.1<(n:Int):=by
 have(p,r,rfl):=mE b;have(a,_,_):=i9 p h;show(a.2.t0,a.2.t1)
def oC(st:LSp):LI0:=st.reverse.map (·.1.1)
def Ks{bs:LLP}(h:Tr n B bs st)(c:Z es=n)(d:∀t:Int,0<=t->es.getD t.toNat ab≠ab->(bd n st).getD t.toNat ab≠ab):gZ es (oC st):=by
 subst c;unfold oC;show(λt a=>?_,?_,λt t0 t1 a=>?_)
 .have(x,b,rfl):=aM.mp a;show jO h (hU.mp b)
 .rw[qS];show pairwise_reverse.mpr ((oB h).imp λq e=>q e.symm)
 .have(x,b,e):=EB h t t0 (d t t0 a)
  grind
def nfF(nd:LB0)(ord:LI0):LI0:=(ord.filter λt=>nd.getD t.toNat af)++ord.filter λt=>!nd.getD t.toNat af
def WB{nd:LB0}(b:∀t∈ord,0<=t/\t<(Z nd:Int))(d:Z ord<=1000):v8 [.lst (ord.map D.int),.lst (nd.map D.bl)]=aa (.lst ((nfF nd ord).map D.int)):=by
 have c:=hE (λt:Int=>nd.getD t.toNat af) ord;have h2:=hE (λt:Int=>!nd.getD t.toNat af) ord;show lR ?_;unfold nfF;rw[bf];show congrArg _ (DU (bV (fm ord D.int _ D.int rfl (by lia) λt a=>dS rfl (cy (bj rfl rfl (j9 (b t a).1 (b t a).2)) rfl) λ_=>rfl)) (bV (fm ord D.int _ D.int rfl (by lia) λt a=>dS rfl (jB (cy (bj rfl rfl (j9 (b t a).1 (b t a).2)) rfl)) λ_=>rfl)) (by grind))
def gZ.nf(h:gZ es ord)(nd:LB0):gZ es (nfF nd ord):=by
 have p:(nfF nd ord).Perm ord:=filter_append_perm _ _;show(λt a=>h.nn t (p.mem_iff.mp a),p.nodup_iff.mpr h.nd,λt t0 t1 a=>p.mem_iff.mpr (h.al t t0 t1 a))
nonrec def Ls:=Option Pr×Wh
abbrev tK(n:Nat)(B:LRu)(bs:LLP):LOB->List Ls->Prop
 | _,[]=>False
 |u,x::l=>match x.1 with
  |none=>l=[]/\Rt n B bs u x.2
  |some z=>opn u z.1=ac/\Rt n B bs (put u z.1.toNat (!z.2)) x.2/\tK n B bs (put u z.1.toNat z.2) l
abbrev prO:Option Pr->D
 |none=>.non
 |some z=>prD z
def dnD(x:Ls):D:=.tup [prO x.1,x.2.D]
structure LnS where
 nd:LB0
 bar:List Pr
 dn:List Ls
 post:LSp
def chs(st:LSp):List Pr:=(st.filter λx=>!x.2.nc).map (·.1)
structure LnI(n:Nat)(B:LRu)(bs:LLP)(st pre:LSp)(q:LnS):Prop where
 sp:st=pre++q.post
 nl:Z q.nd=n
 bl:q.bar.Sublist (chs pre)
 dl:Z q.dn<=Z pre+1
 dt:∀x∈q.dn,∀z,x.1=aa z->∃y∈pre,y.1=z/\y.2=x.2/\y.2.nc=ac
 rl:∀u:LOB,Z u=n->(∀t:Int,0<=t->t<(n:Int)->q.nd.getD t.toNat af=ac->(bd n q.post).getD t.toNat ab≠ab->u.getD t.toNat ab=(bd n q.post).getD t.toNat ab)->(∀z∈q.bar,u.getD z.1.toNat ab=aa z.2)->(∀x∈q.dn,∀z,x.1=aa z->opn u z.1=ac)->tK n B bs u q.dn.reverse
def qE(h:z∈chs st):∃x∈st,x.1=z/\x.2.nc=af:=by
 have(x,a,e):=aM.mp h
 grind
def Kt(st:LSp):Z (chs st)<=Z st:=by
 unfold chs
 grind
def orS(nd:LB0)(gs:LI0):LB0:=gs.foldl (λnd g=>nd.set g.toNat ac) nd
def EC:∀(gs:LI0) (nd:LB0),Z (orS nd gs)=Z nd
 | [],_=>rfl
 |g::gs,nd=>by
  change(orS _ gs).length=_;rw[EC gs,iE]
def ED{t:Int}(t0:0<=t):∀(gs:LI0) (nd:LB0),t<(Z nd:Int)->(nd.getD t.toNat af=ac\/t∈gs)->(orS nd gs).getD t.toNat af=ac
 | [],_,_,h=>h.elim id λq=>nomatch q
 |g::gs,nd,hl,h=>by
  show ED t0 gs _ (by rw[iE];show hl) ?_
  by_cases e:t=g
  .show .inl ?_;rw[bE,<- e,kj (by lia)];rfl
  .rcases h with q |q
   .show .inl ?_;rw[bE,List.getElem?_set];split
    .split
     .rfl
     .lia
    .rw[<- bE];show q
   .show .inr (by rcases bc.mp q with z |z;show absurd z e;show z)
def tL{u:LOB}(h:u.getD t.toNat ab=ab):opn u t=ac:=by unfold opn;rw[h];rfl
variable{pre post:LSp}{q:LnS}
def LnI.no{bs:LLP}(h:LnI n B bs st pre q)(e:q.post=x::post)(tr:Tr n B bs (x::post))(hn:q.nd.getD x.1.1.toNat af=af):LnI n B bs st (pre++[x]) {q with post:=post}:=by
 show(by rw[h.sp,e,cO];rfl,h.nl,?_,by rw[aV];have:=h.dl;change Z q.dn<=_+1+1;lia,λy g z b=>?_,λu i ha c d=>h.rl u i (λt t0 t1 hd a=>?_) c d)
 .show h.bl.trans ?_;unfold chs;rw[km,bf];show xn _ _
 .have(w,f,k):=h.dt y g z b;show(w,bX _ f,k)
 .have ne:t≠x.1.1:=λq=>by rw[q,hn]at hd;nomatch hd
  rw[e,bd,dz _ _ (by lia)]at a ⊢;show ha t t0 t1 hd a
def LnI.ch{bs:LLP}(h:LnI n B bs st pre q)(e:q.post=x::post)(tr:Tr n B bs (x::post))(g:x.2.nc=af):LnI n B bs st (pre++[x]) {q with bar:=q.bar++[x.1],post:=post}:=by
 have l:=tr.2.t0;show(by rw[h.sp,e,cO];rfl,h.nl,?_,by rw[aV];have:=h.dl;change Z q.dn<=_+1+1;lia,λy i z c=>?_,λu j ha a d=>h.rl u j (λt t0 t1 hd b=>?_) (λz hz=>a z (bX _ hz)) d)
 .unfold chs;rw[km,bf,qN (by rw[g];rfl)];show h.bl.append (qT _)
 .have(w,f,k):=h.dt y i z c;show(w,bX _ f,k)
 .by_cases ne:t=x.1.1
  .rw[e,ne,a x.1 (cq _ aA)];show(fq _ _ (by rw[fE];lia)).symm
  .rw[e,bd,dz _ _ (by lia)]at b ⊢;show ha t t0 t1 hd b
variable{gs:LI0}
def LnI.nc{bs:LLP}(h:LnI n B bs st pre q)(e:q.post=x::post)(tr:Tr n B bs st)(M:x.2.nc=ac)(H:qC (put (bd n post) x.1.1.toNat (!x.1.2)) gs λe'=>Rt n B bs e' x.2):LnI n B bs st (pre++[x]) (orS q.nd gs,q.bar,q.dn++[(aa x.1,x.2,)],post):=by
 have p:Tr n B bs (x::post):=by
  rw[h.sp,e]at tr;show(i9 pre tr).1
 have N:=p.2.t0
 have d:=λy a i=>by
  have:=oB tr;rw[h.sp,e,bf]at this;show(eV.mp this).2.2 y.1.1 (aM.mpr (y,a,rfl)) x.1.1 aA i
 have pr:∀y∈pre,0<=y.1.1:=λy a=>(jO tr (by rw[h.sp];show bX _ a)).1;show(by rw[h.sp,e,cO];rfl,(EC _ _).trans h.nl,?_,by rw[aV,aV];have:=h.dl;change _+1<=_+1+1;lia,λy a z b=>?_,λu J ha L G=>?_)
 .show h.bl.trans ?_;unfold chs;rw[km,bf];show xn _ _
 .rcases bw.mp a with m |m
  .have(w,j,k):=h.dt y m z b;show(w,bX _ j,k)
  .cases bv.mp m;cases b;show(x,cq _ aA,rfl,rfl,M)
 .have ne:∀t:Int,0<=t->t≠x.1.1->∀c,(put u x.1.1.toNat c).getD t.toNat ab=u.getD t.toNat ab:=λt t0 q c=>dz u c (by lia);have nl:=h.nl;rw[mD];show((G _ (cq _ aA) x.1 rfl),H.ok _ (by simp only[ce,ce,J,fE],λg f=>?_),h.rl _ (by rw[ce];show J) (λt t0 t1 hd I=>?_) (λz hz=>?_) λy a z b=>?_)
  .have((l,C),E):=H.nn g f;rw[ce,fE]at C
   by_cases r:g=x.1.1
   .rw[r,fq _ _ (by lia),fq _ _ (by rw[fE];lia)]
   .rw[ne g l r,dz _ _ (by lia)];rw[dz _ _ (by lia)]at E;show ha g l C (ED l gs _ (by lia) (.inr f)) E
  .by_cases v:t=x.1.1
   .rw[e,v,fq _ _ (by lia)];show(fq _ _ (by rw[fE];lia)).symm
   .rw[e,bd,dz _ _ (by lia)]at I;rw[ne t t0 v,e,bd,dz _ _ (by lia)];show ha t t0 t1 (ED t0 gs _ (by lia) (.inl hd)) I
  .have(y,a,i,_):=qE (h.bl.subset hz);rw[<- i,ne _ (pr y a) (d y a),i];show L z hz
  .have(w,j,A,_):=h.dt y a z b;show tL ?_;rw[<- A,ne _ (pr w j) (d w j),A];show i7 (G y (bX _ a) z b)
def Ku{b E w:Type}{g:D->LS->Option LS}{F:MF3}(f:b->D)(R:E->w->LS->Prop)(J:List b->E->Prop)(all:List b)
 (step:∀pre x post s,all=pre++x::post->J pre s->∃a,J (pre++[x]) a/\∀l M,R s l M->∃ρ1,g (f x) M=aa ρ1/\wp F ρ1 λr=>∃ρ',r=.nx ρ'/\R a l ρ'):∀(C pre:List b) (s:E),all=pre++C->J pre s->∃a,J all a/\∀l M,R s l M->∃ρ',iQ g F (C.map f) M=aa (.nx ρ')/\R a l ρ'
 | [],pre,s,e,h=>(s,by rw[e,bT];show h,λl M r=>(M,rfl,r))
 |x::C,pre,s,e,h=>by
  have(s1,n,p):=step pre x C s e h;have(s2,h2,q):=Ku f R J all step C _ s1 (by rw[e,cO];rfl) n;show(s2,h2,λl M r=>?_);have(ρ1,i,o,j,c,rfl,u):=p l M r;have(d,m,v):=q l c u;show(d,?_,v);rw[bO,iQ,i,ax,j];show m
def EE{cn f:Str}{F:MF3}(h:ba cn f (aJ i) M=aa (lsO ds,R,))(k:wp F (M.set i (.deep (R (.fz (.lst ds))))) K):wp (n9 i cn f F) M K:=by
 have(o,e,q):=k;show(o,by unfold n9;rw[h,ax,wE,ax];show e,q)
def Spt.F(B:LRu)(s:Spt):O:=i5 (s.S B).tl [lsO (s.es.map shD),.fz (.lst s.st),lsO (s.bs.map eS),.dT (s.S B).gk ((s.S B).gd.map .fz),wsO (wtW s.tw),lsO (s.wt.map wyD),.fz (.lst (s.ms.map mkD))]
def WC:cT 0 (.deep (.at l (s.F B))::M)=aa (s.D B):=by
 have k:(s.F B).kn=ac:=by
  dsimp only[Spt.F,Spt.S,lsO,wsO];simp only[List.map,ly,oS,O.kn,O.kns,sT,qK];show Ev _
 have d:(s.F B).toD=s.D B:=by
  dsimp only[Spt.D,Spt.F,Spt.S,Spr.o];simp only[lsO,O.toD,O.toDs,yH,ly]
 change(if (O.at l _).kn=ac then aa (O.at l _).toD else ab)=_;rw[O.kn,k,if_pos rfl,O.toD,d]
def Kv(a:w≠.ch):sN [w.D]=aa w.D:=by
 cases w with
 |ch=>show absurd rfl a
 |wd i=>rfl
 |gp ks=>rfl
 |gd y=>show cV (cU (lY (b:=af) (bA (ao rfl rfl (by rw[rT,show(wyS y.1 == "group")=af by cases y.1 <;> decide]))) (λe=>nomatch e) λ_=>rfl))
variable{b:Bool}
def Kw{k:Nat}(h:es.getD k ab=ab)(a:k<Z es):((put es k b).map shD).set k .non=es.map shD:=by
 unfold put;rw[hV,set_set];show nY ?_;rw[bE,b7 a]at h;have h:es[k]=ab:=h;rw[cz,b7 a,h];rfl
def WD{k:Nat}{c:Bool}:((put es k b).map shD).set k (.bl c)=(put es k c).map shD:=by
 unfold put;rw[hV,set_set,hV];rfl
def Kx(a:fo M=aa (s.D B))(ha:fa M=aa [.lst (es.map shD),w.D,.lst (ord.map D.int)])(h:o_3 [s.D B,.lst (es.map shD),w.D,.lst (ord.map D.int)]=aa (gs.map D.int)):iC "Seeking" "grounds" o_3 fo fa M=aa (gs.map D.int):=by
 unfold iC;rw[a,ax];rw[wM B s]at h ⊢;change(if "Seeking"="Seeking" /\ List.contains (spN++(["paper","count","ended"]:LSt)) "grounds"=af then (fa M).bind λas=>(o_3 (slf s.es _ _ _ _ _ _ s.ms::as)).bind λB=>if B.all D.flat then aa B else ab else ab)=_;rw[if_pos (rfl,rfl),ha,ax,h,ax,if_pos (all_eq_true.mpr λd hd=>by have(z,_,rfl):=aM.mp hd;rfl)]
variable{c:Nat}
def ground(hr:∀r∈B,RuK n r)(hz:Z B<=1000)(hn:n<=60)(h:SpJ n c X3 B s)(a:Z es=n)(b:gZ es ord)(d:Rt n B s.bs es w):∃gs:LI0,o_3 [s.D B,.lst (es.map shD),w.D,.lst (ord.map D.int)]=aa (gs.map D.int)/\qC es gs λe'=>Rt n B s.bs e' w:=by
 rw[wM];show Wz a hn hr h.bk (fD.of hr hz h.ms) h.ms b d
structure jP(n:Nat)(B:LRu)(bs:LLP)(st:LSp)(bar:List Pr)(dn:List Ls):Prop where
 bl:bar.Sublist (chs st.reverse)
 dl:Z dn<=n+1
 dt:∀x∈dn,∀z,x.1=aa z->∃y∈st,y.1=z/\y.2=x.2/\y.2.nc=ac
 rl:∀u:LOB,Z u=n->(∀z∈bar,u.getD z.1.toNat ab=aa z.2)->(∀x∈dn,∀z,x.1=aa z->opn u z.1=ac)->tK n B bs u dn
def tM(h:Tr n B s.bs st):Z st<=n:=by
 have:=ou (oB h) λx a=>by
  have(y,b,rfl):=aM.mp a;show jO h b
 rwa [az]at this
def WE(hr:∀r∈B,RuK n r)(hz:Z B<=1000)(hn:n<=60)(h:SpJ n c X3 B s)(t:TrS n B s st)(hw:Rt n B s.bs s.es w):∃(bar:List Pr) (dn:List Ls),(∀l,CZ l [w.D] (s.S B).o=aa (s.F B,.tup [eS bar,.lst (dn.map dnD)],))/\jP n B s.bs st bar dn:=by
 have hwc:w≠.ch:=λe=>by rw[e]at hw;show hw
 have tr:=t.tr;have tl:=tM tr;have Y:=t.es;have A:=fE n st;have C:=Ks tr A λ_ _ q=>q;have hol:=C.len;rw[Y]at hw;have(gs,e1,e2):=ground hr hz hn h A C hw;have hgl:=e2.ln
 have key:=Ku (g:=dk (bB (ay 3) (bB (ay 4) dD))) (F:=(ai (a9 9 (mIx (ar 3) (kI 0)))
  (ai (aY (da (bx (mIx (ar 6) (ae 9))) (mB (m2 dIs (ae 4) kN))) (dE 7 (ae 3)) (aY (bx (mIx (ar 6) (ae 9))) (ai (dE 8 (bC (ag (ae 3) (ag (aw sN (ag (ae 4) nZ)) nZ))))
  (ai (gy 2 (ae 9) (j7 (mIx (ar 3) (kI 1))))
  (bR (aW (aR (iC "Seeking" "grounds" o_3 _ (ag (cT 2) (ag (ae 4) (ag (aw v8 (ag (ae 5) (ag (cT 6) nZ))) nZ)))))) (ay 10) (gy 6 (ae 10) (kBl ac))))) bz))
  (gy 2 (ae 9) kN)))) stD (λq l M=>∃Q T U j,M=[.deep (.at l (s.F B)),.im w.D,.own ((bd n q.post).map shD),Q,T,.im (.lst ((oC st).map D.int)),.own (q.nd.map D.bl),.own (q.bar.map prD),.own (q.dn.map dnD),U,j]) (LnI n B s.bs st) st (by
  rintro pre x post q ex y;have E:=append_cancel_left (y.sp.symm.trans ex);have p:Tr n B s.bs (x::post):=by rw[ex]at tr;show(i9 pre tr).1
  have x0:=p.2.t0;have x1:=p.2.t1;have hpn:=i7 p.2.op;have G:=fE n post;have J:=y.nl;have m:=j9 x0 (by rw[J];show x1);have hun:=Kw (b:=x.1.2) hpn (by rw[G];lia);have hpl:Z pre<Z st:=by rw[ex];simp
  have hbl:=y.bl.length_le;have hcl:=Kt pre;have hdl:=y.dl
  cases I:q.nd.getD x.1.1.toNat af with
  |false=>
   show(_,y.no E p I,?_);rintro l M ⟨Q,T,U,j,rfl⟩;rw[I]at m;show(_,rfl,?_);apply aj;show bn rfl ?_;apply aj;show aS (b:=af) ?_ (λz=>nomatch z) λ_=>?_
   .unfold da;rw[cy (bj rfl rfl m) rfl];rfl
   .show aS (cy (bj rfl rfl m) rfl) (λz=>nomatch z) λ_=>bH ?_;show pZ rfl rfl rfl x0 (by rw[az,E,bd,ce,G];show x1) (_,rfl,.im (prD x.1),.im x.2.D,.im (.int x.1.1),j,?_);rw[E,bd,hun]
    rfl
  |true=>
   rw[I]at m
   cases i:x.2.nc with
   |false=>
    show(_,y.ch E p i,?_)
    have hxd:x.2.D=.non:=by
     rcases p.2.ok with⟨a,_⟩ |⟨a,_⟩
     .rw[a];rfl
     .rw[a]at i;nomatch i
    rintro l M ⟨Q,T,U,j,rfl⟩;show(_,rfl,?_);rw[hxd];apply aj;show bn rfl ?_;apply aj;show aS (iq (cy (bj rfl rfl m) rfl) rfl) (λ_=>?_) λz=>nomatch z;show gz rfl rfl (by rw[az];lia) ?_;show pZ rfl rfl rfl x0 (by rw[az,E,bd,ce,G];show x1) (_,rfl,.im (prD x.1),.im .non,.im (.int x.1.1),j,?_);rw[E,bd,hun,bf]
    rfl
   |true=>
    rcases p.2.ok with⟨a,_⟩ |⟨_,hR⟩
    .rw[a]at i;nomatch i
    have H:Z (put (bd n post) x.1.1.toNat (!x.1.2))=n:=by rw[ce,G]
    have L:gZ (put (bd n post) x.1.1.toNat (!x.1.2)) (oC st):=by
     show Ks tr H λu u0 hu=>?_;rw[ex]at tr ⊢;have(_,f,_):=i9 pre tr
     have:(bd n (x::post)).getD u.toNat ab≠ab:=by
      rw[bd]
      by_cases eu:u=x.1.1
      .rw[eu,fq _ _ (by rw[G];lia)];show λq=>nomatch q
      .rw[dz _ _ (by lia)]at hu ⊢;show hu
     rcases f.at' (S u) with z |z
     .show absurd z this
     .rw[z];show this
    have(js,e3,e4):=ground hr hz hn h H (L.nf q.nd) hR;show(_,y.nc E tr i e4,?_)
    have hxn:dIs x.2.D .non=aa (.bl af):=by
     cases hx2:x.2 with
     |ch=>rw[hx2]at i;nomatch i
     | _=>rfl
    have hxc:x.2≠.ch:=λq=>by rw[q]at i;nomatch i
    rintro l M ⟨Q,T,U,j,rfl⟩;show(_,rfl,?_);apply aj;show bn rfl ?_;apply aj;show aS (iq (cy (bj rfl rfl m) rfl) (bA (ao rfl rfl hxn))) (λz=>nomatch z) λ_=>?_;show aS (cy (bj rfl rfl m) rfl) (λ_=>?_) λz=>nomatch z;apply aj;show gz (dC (ap rfl (ap (aH rfl (Kv hxc)) rfl))) rfl (by rw[az];lia) ?_;apply aj;show pZ rfl rfl rfl x0 (by rw[az,E,bd,ce,G];show x1) ?_;rw[E,bd,WD];show du js D.int (λpre M=>∃v,M=[.deep _,.im _,.own _,.im _,.im _,.im _,.own ((orS q.nd pre).map D.bl),.own _,.own _,.im _,v]) (eB (bV (Kx WC (ap rfl (ap rfl (ap (aH rfl (WB (by rw[J];show(λu hu=>by have:=C.nn u hu;rwa [A]at this)) (by lia))) rfl))) e3)) rfl) (_,rfl) ?_ ?_
    .rintro pr g po M exj ⟨v,rfl⟩;have((g0,N),_):=e4.nn g (by rw[exj];simp);rw[H]at N;show(_,rfl,?_);show pZ rfl rfl rfl g0 (by rw[az,EC,J];show N) (.im (.int g),?_);rw[show D.bl ac=D.bl ac from rfl,<- hV];unfold orS;rw[eW];rfl
    .rintro M ⟨v,rfl⟩;show pZ rfl rfl rfl x0 (by rw[az,ce,G];show x1) (_,rfl,.im (prD x.1),.im x.2.D,.im (.int x.1.1),v,?_);rw[Kw hpn (by rw[G];lia),bf];rfl) st [] (mkS n gs,[],[(ab,w,)],st) rfl (rfl,qA _ _,qT _,aO _,(λx i z ez=>by rw[bv.mp i]at ez;nomatch ez),λu ul ha _ _=>(rfl,e2.ok u (by rw[ul,A],λg hg=>?_)))
 .have(q,y,kq):=key
  have hpe:q.post=[]:=by
   have:=y.sp;show self_eq_append_right.mp this
  show(q.bar.reverse,q.dn.reverse,λl=>?_,?_,?_,?_,?_)
  .apply fO;apply aj;show eC (sS ke) ?_;change wp _ [.deep _,.im w.D,.own (s.es.map shD),.no,.no,.no,.no,.no,.no,.no,.no] _;rw[Y];apply aj;show bn (d:=.lst ((oC st).map D.int)) (bV ?_) ?_
   .change bu 2 [] _ _ _ _ _=_;have:(s.S B).st=st.reverse.map stD:=t.sv;unfold oC;rw[map_map];show gt st.reverse stD _ ((sS D0).trans (by rw[this])) (by rw[lx];lia) λx _=>fZ rfl rfl rfl
   apply aj;show eC (d:=(mkS n gs).map D.bl) ?_ ?_
   .have hmk:=Jk n gs (by lia) (by lia) (by lia);show vp (ap (aH rfl (f7 _ shD)) (ap (bV (Kx Ew (ap rfl (ap rfl (ap rfl rfl))) e1)) rfl)) (nU (by rw[A];show hmk))
   apply aj;show eC rfl ?_;apply aj;show eC (ap (dC (ap rfl (ap (aH rfl (Kv hwc)) rfl))) rfl) ?_;apply aj;show EE D0 ?_;have(ρ',e5,Q,T,U,j,rfl):=kq l _ (_,_,_,_,rfl);show(.nx [.deep (.at l (s.F B)),.im w.D,.own ((bd n q.post).map shD),Q,T,.im (.lst ((oC st).map D.int)),.own (q.nd.map D.bl),.own (q.bar.map prD),.own (q.dn.map dnD),U,j],?_,?_)
   .change(l9 _ _).bind _=_;rw[Q7 (ap ((li rfl).trans (by change aa (D.lst s.st)=_;rw[t.sv])) rfl),ax,jb];show e5
   .show i4 ?_ (_,rfl,rfl,rfl);show dC (ap (bV ?_) (ap (bV ?_) rfl))
    .change aa (q.bar.map prD).reverse=_;rw[qS]
    .change aa (q.dn.map dnD).reverse=_;rw[qS]
  .unfold chs;have:=y.bl.reverse;unfold chs at this
   rwa [<- qS,<- filter_reverse]at this
  .rw[lx];have:=y.dl;lia
  .intro x i z ez;show y.dt x (hU.mp i) z ez
  .intro u ul hb hc;show y.rl u ul (λt t0 t1 _ ht=>?_) (λz hz=>hb z (hU.mpr hz)) λx i=>hc x (hU.mpr i);rw[hpe]at ht;have(x,i,_):=EB (B:=B) (bs:=s.bs) (st:=[]) trivial t t0 ht
   nomatch i
 .have((g0,N),gn):=e2.nn g hg;rw[A]at N;show ha g g0 N ((mn g0 N).mpr hg) gn
nonrec def Qn(i:Nat)(S:LSp):List (Nat×Stp):=(fB i S).filter λp=>!p.2.2.nc
def mo(x:Stp)(S:LSp):chs (x::S)=if x.2.nc then chs S else x.1::chs S:=by
 unfold chs;rw[filter_cons]
 cases x.2.nc <;> rfl
def EF:∀(S:LSp) (i j:Nat) (p:Nat×Stp),(Qn i S)[j]?=aa p->∃A X3,S=A++p.2::X3/\p.1=i+Z A/\chs A=(chs S).take j/\chs (p.2::X3)=(chs S).drop j/\p.2.2.nc=af
 | [],_,_,_,h=>by cases h
 |x::S,i,j,p,h=>by
  have h:((_::fB _ S).filter λp=>!p.2.2.nc)[j]?=aa p:=h;rw[filter_cons]at h
  cases f:x.2.nc with
  |true=>
   rw[if_neg (by simp[f])]at h;have(A,X3,a,b,c,d,e):=EF S _ j p h;show(x::A,X3,by rw[a];rfl,by rw[b,cB];lia,?_,?_,e)
   .rw[mo,mo,if_pos f,if_pos f];show c
   .rw[mo x,if_pos f];show d
  |false=>
   rw[if_pos (by simp[f])]at h
   cases j with
   |zero=>
    cases h
    show([],S,rfl,rfl,rfl,rfl,f)
   |succ j=>
    have(A,X3,a,b,c,d,e):=EF S _ j p h;show(x::A,X3,by rw[a];rfl,by rw[b,cB];lia,?_,?_,e)
    .rw[mo,mo,if_neg (by rw[f];show bN),if_neg (by rw[f];show bN),c];rfl
    .rw[mo x,if_neg (by rw[f];show bN),d];rfl
def Ky:∀(S:LSp) (i:Nat),(Qn i S).map (·.2.1)=chs S
 | [],_=>rfl
 |x::S,i=>by
  have a:=Ky S (i+1);change((_::fB _ S).filter λp=>!p.2.2.nc).map _=_;rw[filter_cons,mo]
  grind
def Kz(z y:Pr):isE (prD y) (prD z)=decide (z=y):=by
 unfold isE;rw[show deq 19 _ _=aa (z.1==y.1 && (z.2==y.2 && ac))from rfl]
 grind
def WF{a b:List Pr}{y:Pr}(h:y∉a):gT (.lst ((a++y::b).map prD)) (prD y)=aa (.int (Z a:Nat)):=by
 have ha:dF (prD y) ((a++y::b).map prD)=aa ac:=by
  have:=JP y (a++y::b);replace this:((dF _ _).map D.bl)=_:=this
  simp_all
 change(if dF _ _=aa ac then aa _ else ab)=_;rw[if_pos ha];clear ha
 congr 3
 induction a with
 |nil=>rw[oS,bO,qR,Kz,decide_eq_true rfl];rfl
 |cons z a c=>
  rw[ly,bO,qR,Kz,decide_eq_false (λe=>h (by grind))]
  grind
structure qF(S:LSp)(bar:List Pr)(A:LSp)(c:Stp)(X3:LSp):Prop where
 e:S=A++c::X3
 nc:c.2.nc=af
 br:∃b0 z,bar=b0++[z]/\b0.Sublist (chs A)/\z∈chs (c::X3)/\(b0=[]->chs A=[])/\∀y,b0.getLast?=aa y->∃A',chs A=A'++[y]
def WG(a:List Pr)(y z:Pr):atI ((a++[y]++[z]).map prD) (-2)=aa (prD y):=by
 have b:Z ((a++[y]++[z]).map prD)=Z a+2:=by simp
 unfold atI;rw[show ixN ((a++[y]++[z]).map prD).length (-2)=aa a.length by rw[b];unfold ixN;rw[if_neg (by lia)];simp;lia];simp
variable{S:LSp}
def WH{bar:List Pr}(U:s.st=S.map stD)(hok:∀x∈S,x.2=.ch\/x.2.nc=ac)(hl:Z S<=1000)(nd:(chs S).Nodup)(G:bar.Sublist (chs S))(I:bar≠[]):∃A c X3,qF S bar A c X3/\∀l,C3 l [eS bar] (s.F B)=aa (s.F B,.int (Z A:Nat),):=by
 have Q:=Ky S 0;have hql:Z (Qn 0 S)=Z (chs S):=by rw[<- Q,az]
 have hcl:=Kt S
 obtain⟨j,hj,b0,z,a,h1,h2,h3,h4,h5⟩:∃j,j<Z (chs S)/\∃b0 z,bar=b0++[z]/\b0.Sublist ((chs S).take j)/\z∈(chs S).drop j/\(b0=[]->(chs S).take j=[])/\(∀y,b0.getLast?=aa y->∃A',(chs S).take j=A'++[y])/\∀M:LS,M[1]?=aa (.im (eS bar))->M[3]?=aa (.im (.lst ((chs S).map prD)))->vIf (mB (m2 dEq (aw cK (ag (ae 1) nZ)) (kI 1))) (kI 0) (m2 eK (m2 gT (ae 3) (mIx (ar 1) (m1 pL (kI 2)))) (kI 1)) M=aa (.int (j:Nat)):=by
  have v1:∀M:LS,M[1]?=aa (.im (eS bar))->ae 1 M=aa (eS bar):=λM e=>by unfold ae;rw[e]
  have v3:∀M:LS,M[3]?=aa (.im (.lst ((chs S).map prD)))->ae 3 M=aa (.lst ((chs S).map prD)):=λM e=>by unfold ae;rw[e]
  have c1:∀M:LS,M[1]?=aa (.im (eS bar))->ar 1 M=aa (bar.map prD):=λM e=>by unfold ar;rw[e];rfl
  obtain⟨b0,z,a⟩:∃b0 z,bar=b0++[z]:=(_,_,(dropLast_concat_getLast I).symm)
  cases C:b0.getLast? with
  |none=>
   have e0:b0=[]:=getLast?_eq_none_iff.mp C;subst e0;have hz:z∈chs S:=G.subset (by rw[a];simp);show(0,length_pos_of_mem hz,[],z,a,nil_sublist _,hz,λ_=>rfl,(λy hy=>nomatch hy),λM n r=>?_)
   show lY (b:=ac) (bA (ao (aH (ap (v1 M n) rfl) (f7 bar prD)) rfl (by rw[a];rfl))) (λ_=>rfl) λq=>nomatch q
  |some y=>
   obtain⟨m,e0⟩:∃m,b0=m++[y]:=by
    have(m,rfl):=getLast?_eq_some_iff.mp C;show(m,rfl)
   subst e0;rw[a]at G;obtain⟨C1,w,hC,s1,s2⟩:∃r1 r2,chs S=r1++r2/\(m++[y]).Sublist r1/\[z].Sublist r2:=append_sublist_iff.mp G;have(g,D2,hD,s3,s4):=append_sublist_iff.mp s1;have(h,N,rfl):=mE (singleton_sublist.mp s4);have f:chs S=(g++h)++y::(N++w):=by rw[hC,hD];simp
   have J:y∉g++h:=λq=>by
    rw[f]at nd;show(eV.mp nd).2.2 y q y aA rfl
   have htk:(chs S).take (Z (g++h)+1)=(g++h)++[y]:=by rw[f,take_append,take_of_length_le (by lia)];simp
   have H:(chs S).drop (Z (g++h)+1)=N++w:=by rw[f,drop_append,drop_of_length_le (by lia)];simp
   show(Z (g++h)+1,?_,m++[y],z,a,?_,?_,(λq=>by simp at q),(λu Y=>(g++h,?_)),λM n r=>?_)
   .rw[f];have:=length_pos_of_mem (singleton_sublist.mp s2);simp;lia
   .rw[htk];show(s3.trans (xn _ _)).append (qT _)
   .rw[H];show cq _ (singleton_sublist.mp s2)
   .rw[htk];rw[getLast?_concat]at Y;cases Y;rfl
   .have E:dEq (.int (Z bar:Nat)) (.int 1)=aa (.bl af):=by
     rw[lU,a];simp;lia
    show lY (b:=af) (bA (ao (aH (ap (v1 M n) rfl) (f7 bar prD)) rfl E)) (λq=>nomatch q) λ_=>?_;show(ao (ao (v3 M r) (bj (c1 M n) rfl (by rw[a];show WG m y z)) (by rw[f];show WF J)) rfl gB).trans ?_
    congr 2
 obtain⟨p,v⟩:∃p,(Qn 0 S)[j]?=aa p:=(_,b7 (by lia));have(A,B',n,e2,r,e4,e5):=EF S 0 j p v;show(A,p.2,B',(n,e5,b0,z,a,by rw[r];show h1,by rw[e4];show h2,(by rw[r];show h3),by rw[r];show h4),λl=>?_);apply fO;apply aj;have L:pD (ba "Seeking" "steps" (aJ 0)) [.deep (.at l (s.F B)),.im (eS bar),.no,.no]=aa (.lst (S.map stD)):=(li rfl).trans (by rw[U]);show bn (d:=.lst ((Qn 0 S).map λp=>.int (p.1:Nat))) (bV (fm (fB 0 S) (λp=>D.tup [.int p.1,stD p.2]) _ _ (by rw[<- tG];show wn (ap L rfl)) (by rw[wK];lia) λp v=>?_)) ?_
 .show dS rfl (bA (ao rfl rfl ?_)) λ_=>rfl;have hx:=hok p.2 (dX (ls v));change dIs p.2.2.D .non=_
  cases e:p.2.2 with
  |ch=>rfl
  |gd y=>rfl
  |gp ks=>rfl
  |wd i=>rw[e]at hx;rcases hx with q |q <;> nomatch q
 apply aj;show bn (d:=.lst ((chs S).map prD)) (bV ?_) ?_
 .rw[<- Q,map_map];show gt (Qn 0 S) (λp=>D.int (p.1:Nat)) _ rfl (by lia) λp v=>fZ rfl rfl ?_;have T:=ls (cf.mp v).1;have hlt:=(dh.mp T).1;show bj (eB (d:=stD p.2) (bj (eB (d:=.lst (S.map stD)) ((li rfl).trans (by rw[U])) rfl) rfl ?_) rfl) rfl rfl;rw[lT ((0,ac,),.ch,) (by lia) (by lia),cY,bE,T];rfl
 show i4 (d:=.int (Z A:Nat)) (bj rfl (h5 _ rfl rfl) ?_) (_,rfl,rfl,rfl);rw[lT (0,((0,ac,),.ch,),) (by lia) (by lia),cY,bE,v];change aa (D.int (p.1:Nat))=_;rw[e2,lA]
def clr(es:LOB)(C:LSp):LOB:=C.foldl (λes x=>es.set x.1.1.toNat ab) es
def KA:∀(C:LSp) (es:LOB),Z (clr es C)=Z es
 | [],_=>rfl
 |x::C,es=>by
  change(clr _ C).length=_;rw[KA C,iE]
def KB{t:Nat}{b:Bool}:∀(C:LSp) (es:LOB),(∀x∈C,x.1.1.toNat≠t)->clr (put es t b) C=put (clr es C) t b
 | [],_,_=>rfl
 |x::C,es,h=>by
  change clr ((put es t b).set _ _) C=put (clr _ C) t b;rw[<- KB C _ λy a=>h y (bp _ a)];unfold put;rw[set_comm _ _ (h x aA).symm]
def KC{n:Nat}{B:LRu}{bs:LLP}{st:LSp}:∀C:LSp,Tr n B bs (C++st)->clr (bd n (C++st)) C.reverse=bd n st
 | [],_=>rfl
 |y::C,h=>by
  have y0:=h.2.t0;have c:=h.2.t1;rw[jc];unfold clr;rw[eW];change(clr (put (bd n (C++st)) y.1.1.toNat y.1.2) C.reverse).set _ ab=_;rw[KB _ _ λx a e=>?_,(KC C h.1)]
  .unfold put;rw[set_set];show nY ?_;have e:=(i9 _ h).2.2 y aA;have b:S y.1.1<Z (bd n st):=by rw[fE];lia
   rw[bE,b7 b]at e;rw[b7 b];show congrArg aa e
  .have a:=hU.mp a;have:=jO h.1 (bX st a);show(b8.mp (oB h)).1 (aM.mpr (x,bX _ a,?_));change x.1.1=y.1.1
   lia
def WI{f:Xe}{g:Xa}{a:LS}(h:f M=aa (d,ρ1,))(h':g ρ1=aa (ds,a,)):bP f g M=aa (d::ds,a,):=by
 unfold bP;rw[h];change(g ρ1).map _=_;rw[h'];rfl
def Spt.bk(n:Nat)(s:Spt)(A:LSp):Spt:={s with es:=bd n A.reverse,st:=A.map stD,wt:=[]}
variable{A X5:LSp}
def WJ(tr:Tr n B s.bs (A++X5).reverse)(f:s.st=(A++X5).map stD)(b:s.es=bd n (A++X5).reverse)(l:Addr):C5 l [.int (Z A:Nat)] (s.F B)=aa (((s.bk n A).S B).o,.non,):=by
 have h:((A++X5).drop (HT.sIx (A++X5).length 0 (aa (Z A)))).take (HT.sIx (A++X5).length (A++X5).length ab-HT.sIx (A++X5).length 0 (aa (Z A)))=X5:=by
  rw[HT.sIx_nat,HT.sIx_none,aV,show min A.length _=A.length by lia,drop_left' rfl,show A.length+X5.length-A.length=X5.length by lia,take_length]
 have i:((A++X5).drop (HT.sIx (A++X5).length 0 ab)).take (HT.sIx (A++X5).length (A++X5).length (aa (Z A))-HT.sIx (A++X5).length 0 ab)=A:=by
  rw[HT.sIx_nat,HT.sIx_none,aV,show min A.length _=A.length by lia,drop_zero,Nat.sub_zero,take_left' rfl]
 rw[mD]at tr b;have a:=KC X5.reverse tr;rw[jb,<- b]at a;have c:Z s.es=n:=by rw[b,fE]
 apply fO;apply aj
 show du X5 stD (λpre M=>∃d e,M=[.deep (.at l (({s with es:=clr s.es pre}:Spt).F B)),.im _,d,e]) (eB (bV ((vn ((li rfl).trans (by rw[f])) rfl rfl).trans (by rw[h]))) rfl) (_,_,rfl) ?_ ?_
 .rintro pre y post M ex ⟨d,e,rfl⟩;have g:=jO tr (bX A.reverse (hU.mpr (by rw[ex];simp:y∈X5)));show(_,rfl,?_);show J9 rfl rfl rfl g.1 (by rw[az,KA,c];show g.2) (.im (prD y.1),.im y.2.D,?_);have j:clr s.es (pre++[y])=(clr s.es pre).set y.1.1.toNat ab:=by unfold clr;rw[eW];rfl
  rw[j];dsimp only[Spt.F];rw[hV];rfl
 .rintro M ⟨d,e,rfl⟩;rw[a];apply aj;show gV (x:=lsO (A.map stD)) ?_ rfl rfl ?_
  .show oe ((vn ((li rfl).trans ?_) rfl rfl).trans (by rw[i]));rw[f]
  show gV (oe rfl) rfl rfl (_,rfl,rfl,rfl)
def lnD(bar:List Pr)(dn:List Ls):D:=.tup [eS bar,.lst (dn.map dnD)]
def Spt.ln(s:Spt)(bar:List Pr)(dn:List Ls):Spt:={s with pp:=s.pp++[lnD bar dn]}
def wZ{bar:List Pr}(tr:Tr n B s.bs st)(a:bar.Sublist (chs st.reverse)):df n bar:=by
 show(λz hz=>?_,?_)
 .have(y,c,e,_):=qE (a.subset hz);rw[<- e];show jO tr (hU.mp c)
 .show(a.map (·.1)).nodup ?_;unfold chs;rw[map_map];have b:(st.reverse.map (·.1.1)).Nodup:=by rw[qS];show pairwise_reverse.mpr ((oB tr).imp λq e=>q e.symm)
  show(oO.map _).nodup b
inductive ClO(n:Nat)(B:LRu)(s:Spt)(st:LSp):O->Prop
 |fin {dn:List Ls}:jP n B s.bs st [] dn->ClO n B s st (({s.ln [] dn with en:=ac}:Spt).F B)
 |bk {bar:List Pr} {dn:List Ls} {A X5:LSp} {x:Stp}:jP n B s.bs st bar dn->qF st.reverse bar A x X5->ClO n B s st (((((s.ln bar dn).bk n A).bar bar).S B).o)
variable{c0:Nat}
def WK(hr:∀r∈B,RuK n r)(hz:Z B<=1000)(hn:n<=60)(h:SpJ n c X3 B s)(g:d7 c0 B.length s.bs s.tw)(C:c0+3840<16777216)(v:Z s.bs<=60000)(E:Z s.pp<=60000)(t:TrS n B s st)(G:Rt n B s.bs s.es w):∃o,(∀l,qt l [w.D] (s.S B).o=aa (o,.non,))/\ClO n B s st o:=by
 have(bar,dn,i,k):=WE hr hz hn h t G;have tl:=tM t.tr;have tr:=t.tr
 by_cases f:bar=[]
 .subst f;show(_,λl=>?_,.fin k);apply fO;apply aj;show jN (fN rfl rfl (dP rfl rfl) rfl (i l)) ?_;apply aj;show sU rfl rfl (by lia) ?_;show aS rfl (λq=>nomatch q) λ_=>(gV (sV rfl) rfl rfl (_,rfl,rfl,rfl))
 .have d:=t.sv
  have (A,x,X5,pk,m):=WH (s:=s.ln bar dn) d (λy H=>by
   have(p,r,u):=mE (hU.mp H);rw[u]at tr
   rcases(i9 p tr).1.2.ok with⟨a,_⟩ |⟨a,_⟩
   .show .inl a
   .show .inr a) (by rw[lx];lia) ((wZ tr (qT _)).pd) k.bl f
  have j:st=(A++x::X5).reverse:=by rw[<- pk.e,jb]
  show(_,λl=>?_,.bk k pk);apply fO;apply aj;show jN (fN rfl rfl (dP rfl rfl) rfl (i l)) ?_;apply aj;show sU rfl rfl (by lia) ?_;show aS (b:=ac) (cy (bj rfl rfl rfl) ?_) (λ_=>?_) λq=>nomatch q
  .cases bar with
   |nil=>show absurd rfl f
   |cons z b=>rfl
  apply aj;show i0 (fN rfl rfl (ρ1:=[.deep _,.im w.D,.im (lnD bar dn)]) ?_ rfl (WJ (s:=s.ln bar dn) (by rw[<- j];show tr) (by rw[<- pk.e];show d) (by rw[<- j];show t.es) l)) ?_
  .show WI (fN rfl rfl (dP rfl rfl) rfl (m l)) rfl
  show i0 (fN rfl rfl (dP rfl rfl) rfl (VW _ bar g C h.bk (wZ tr k.bl) hn (by change Z B+Z s.bs<_;lia) (by change 0<_;lia))) (_,rfl,rfl,rfl)
abbrev dg:D->Nat
 |.tup [_,.non]=>1
 | _=>2
abbrev vl:Nat->LD->Nat
 | 0,_=>0
 | _+1,[]=>0
 |k+1,d::ds=>dg d*3 ^ k+vl k ds
def KD(d:D):1<=dg d/\dg d<=2:=by unfold dg;split <;> show(by decide,by decide)
def tN:∀(k:Nat) (ds:LD),vl k ds<3 ^ k
 | 0,_=>Nat.one_pos
 |k+1,[]=>Nat.pow_pos (by decide)
 |k+1,d::ds=>by
  have a:=tN k ds;have h2:=xv (3 ^ k) (KD d).2;simp only[vl,Nat.pow_succ]
  lia
def KE:∀(k:Nat) (a:LD) (d:D) (b:LD),Z a<k->vl k a<vl k (a++d::b)
 | 0,_,_,_,h=>absurd h (iF _)
 |k+1,[],d,b,_=>by
  have c:=xv (3 ^ k) (KD d).1;have h2:0<3 ^ k:=Nat.pow_pos (by decide);change 0<dg d*3 ^ k+vl k b
  lia
 |k+1,e::a,d,b,h=>Nat.add_lt_add_left (KE k a d b (Nat.lt_of_succ_lt_succ h)) _
def KF:∀(k:Nat) (a:LD) (x y:D) (b c:LD),Z a<k->dg x=1->dg y=2->vl k (a++x::b)<vl k (a++y::c)
 | 0,_,_,_,_,_,h,_,_=>absurd h (iF _)
 |k+1,[],x,y,b,c,_,hx,hy=>by
  have d:=tN k b;change dg x*3 ^ k+vl k b<dg y*3 ^ k+vl k c;rw[hx,hy]
  lia
 |k+1,e::a,x,y,b,c,h,hx,hy=>Nat.add_lt_add_left (KF k a x y b c (Nat.lt_of_succ_lt_succ h) hx hy) _
abbrev aK(B:LRu)(X5:Nat)(s:Spt):OD×Spt:=stF B X5 (Me X5 s+1) s
def nv(n:Nat)(B:LRu)(X5:Nat)(s:Spt):Nat:=vl n (aK B X5 s).2.st
structure Hd(n c0 X5 X3:Nat)(B:LRu)(s:Spt)(st:LSp):Prop where
 J:SpJ n X5 X3 B s
 tw:d7 (c0+3840*Z s.bs) B.length s.bs s.tw
 t:TrS n B s st
 pp:Z s.pp=Z s.bs
 en:s.en=af
 nb:Z s.bs<=nv n B X5 s
structure Par(n c0 X5 X3:Nat)(B:LRu):Prop where
 hr:∀r∈B,RuK n r
 hz:Z B<=250
 hn:n<=60
 hC:c0+3840*3 ^ n<=X5
 hB:n*(X5+1)+n+Z B+3<=X3
 h2:X3+X5<16777216
structure Se(n c0 X5 X3:Nat)(B:LRu)(s s1:Spt)(st st1:LSp):Prop where
 J:SpJ n X5 X3 B s1
 t:TrS n B s1 st1
 xt:∃xt,st1=xt++st/\∀x∈xt,x.2.nc=ac
 bs:s1.bs=s.bs
 tw:s1.tw=s.tw
 pp:s1.pp=s.pp
 ct:s1.ct=s.ct
 en:s1.en=s.en
variable{X5:Nat}
def Hd.se(P:Par n c0 X5 X3 B)(h:Hd n c0 X5 X3 B s st):∃st1,Se n c0 X5 X3 B s (aK B X5 s).2 st st1/\∀w,(aK B X5 s).1=aa w->∃wh:Wh,w=wh.D/\wh.nc=ac/\Rt n B s.bs (aK B X5 s).2.es wh:=by
 have hz:=P.hz;have a:=Ey P.hr (by lia) _ s h.J (di _);have((xt,g,i),b,c,d,e,f):=wR P.hr (by lia) P.hn _ s h.J (tJ P.hr _ _ h.J (TrM.refl h.t));show(_,(a.ok,g,(xt,rfl,i),a.bs,b,c,d,e),f)
def WL(P:Par n c0 X5 X3 B)(h:Hd n c0 X5 X3 B s st)(l:Addr):sP l [] (s.S B).o=aa (((aK B X5 s).2.S B).o,(aK B X5 s).1.getD .non,):=by
 have hz:=P.hz;have mB:=h.J.mB;have h2:=P.h2;show Wl P.hr (by lia) P.hn P.h2 h.J (di _) (by grind)
def KG{b:List Pr}{bs:LLP}:∀{st:LSp},Tr n B bs st->Tr n B (bs++[b]) st
 | [],_=>trivial
 |x::st,h=>by
  show(KG h.1,h.2.t0,h.2.t1,h.2.op,?_)
  rcases h.2.ok with q |⟨q1,q2⟩
  .show .inl q
  .show .inr (q1,?_)
   cases c:x.2 with
   |ch=>rw[c]at q2;show q2
   |wd i=>rw[c]at q2;show q2
   |gp ks=>rw[c]at q2;show q2
   |gd y=>
    rw[c]at q2;have(f,d):=q2;have hm:=fA.mp f;have(a,j):=y
    cases a with
    |false=>show(fA.mpr hm,d)
    |true=>
     show(fA.mpr (by change j<Z (bs++[b]);rw[aV];lia),?_)
     have e:bS B (bs++[b]) (ac,j,)=bS B bs (ac,j,):=by
      change brg _=brg _;rw[ml,if_neg (by lia)]
     rw[e];show d
def KH(P:Par n c0 X5 X3 B)(t:TrS n B s st)(bk:∀b∈s.bs,df n b)(tw:d7 X5 B.length s.bs s.tw)(wv:∀y∈s.wt,y∈gys B.length (Z s.bs))(ms:s.ms.Perm (dO B))(wl:Z s.wt<=Z B+1):SpJ n X5 X3 B s:=by
 have hB:=P.hB;have f:=VZ s.es;have c:Z s.es=n:=by rw[t.es,fE]
 have tl:=tM t.tr;have hm:i8 s.es*_<=n*(X5+1):=xv _ (by lia);show(c,bk,tw,wv,ms,by lia,by rw[t.sv,az,lx];lia,λd hd=>?_);rw[t.sv]at hd;have(x,a,rfl):=aM.mp hd;have a:=hU.mp a;have(p,r,e):=mE a;show(x.1,x.2.D,rfl,jO t.tr a,?_);rw[t.es,e];show wY (by rw[<- e];show t.tr)
variable{b0:List Pr}
def WM{bar:List Pr}(g:Z es=n)(f:df n bar)(e:bar=b0++[z])(m:∀y∈bar,y.2=ac)(i:∀y∈b0,es.getD y.1.toNat ab=aa ac)(hz:es.getD z.1.toNat ab=ab):∃p ps,prs (brg bar) es=aa (p::ps):=by
 have j:∀p∈brg bar,p.Ok (Z es):=λp b=>by rw[g];show(tq f p b).1
 have br:∀y∈bar,brP y=.inn y.1:=λy c=>by unfold brP;rw[m y c];rfl
 have a:z∈bar:=by rw[e];simp
 have h:=f.nn z a
 cases b:prs _ es with
 |none=>
  have:=Ka b _ (aM.mpr (z,a,rfl));rw[br z a]at this;have this:(es.getD z.1.toNat ab==aa ac)=ac:=this;rw[hz]at this
  nomatch this
 |some l=>
  have(_,h2,_):=ox j b
  have:_∈l:=(h2 (z.1,af,)).mpr ((h.1,by rw[g];show h.2),tL hz,λp b=>by
   have(y,c,rfl):=aM.mp b;rw[br y c];change((put es z.1.toNat ac).getD y.1.toNat ab==aa ac)=ac
   by_cases d:S y.1=S z.1
   .rw[d,fq es ac (by lia)];rfl
   .rw[dz es ac d]
    have:y∈b0:=by
     rw[e]at c
     rcases bw.mp c with q |q
     .show q
     .show absurd (by rw[bv.mp q]) d
    rw[i y this];rfl)
  cases l with
  |nil=>nomatch this
  |cons p ps=>show(p,ps,rfl)
def EG{bs:LLP}(tr:Tr n B bs st){y:Pr}(d:y∈chs st.reverse):y.2=ac/\(bd n st).getD y.1.toNat ab=aa ac:=by
 have(x,c,e,hn):=qE d;have(p,r,rfl):=mE (hU.mp c);have b:=wY tr
 rcases(i9 p tr).1.2.ok with⟨_,a,_⟩ |⟨a,_⟩
 .rw[e]at a b;rw[a]at b;show(a,b)
 .rw[a]at hn;nomatch hn
structure Clo(n:Nat)(s1 s2:Spt)(bar:List Pr)(dn:List Ls)(A:LSp):Prop where
 es:s2.es=bd n A.reverse
 sv:s2.st=A.map stD
 bs:s2.bs=s1.bs++[bar]
 tw:s2.tw=ga (ac,Z s1.bs,) (brg bar) (mj s1.bs s1.tw bar)
 wt:s2.wt=[(ac,Z s1.bs,)]
 ms:s2.ms=s1.ms
 pp:s2.pp=s1.pp++[lnD bar dn]
 en:s2.en=s1.en
variable{s2:Spt}{T st1:LSp}{dn:List Ls}
def WN{bar:List Pr}(P:Par n c0 X5 X3 B)(h:Hd n c0 X5 X3 B s st)(e:Se n c0 X5 X3 B s (aK B X5 s).2 st st1)(k:jP n B s.bs st1 bar dn)(p:qF st1.reverse bar A x T)(q:Clo n (aK B X5 s).2 s2 bar dn A):Hd n c0 X5 X3 B s2 A.reverse/\nv n B X5 s<nv n B X5 s2:=by
 have hn:=P.hn;have hz:=P.hz;have hC:=P.hC
 have er:st1=T.reverse++x::A.reverse:=by
  have:=congrArg List.reverse p.e;rw[jb,mD,jc,cO]at this;show this
 have c:=e.t.tr;rw[e.bs]at c;have g:Tr n B s.bs (x::A.reverse):=by rw[er]at c;show(i9 _ c).1
 have bk:=wZ c k.bl;have G:TrS n B s2 A.reverse:=(by rw[q.sv,jb],q.es,by rw[q.bs,e.bs];show KG g.1);have hnv:=tN n (aK B X5 s).2.st;have hnb:Z s.bs<=vl n (aK B X5 s).2.st:=h.nb;have j:Z s2.bs=Z s.bs+1:=by rw[q.bs,e.bs,aV];rfl
 have i:d7 (c0+3840*Z s.bs+3840) B.length s2.bs s2.tw:=by
  have:=(h.tw.dropped (λb I=>(h.J.bk b I).pd) bar).bar bk hn;rw[q.bs,q.tw,e.bs,e.tw];show this
 have L:SpJ n X5 X3 B s2:=by
  show KH P G (λb I=>?_) (i.wk.le (by lia),i.vl,i.br) (λy f=>?_) (by rw[q.ms];show e.J.ms) (by rw[q.wt];change 1<=_;lia)
  .rw[q.bs,e.bs]at I
   rcases bw.mp I with z |z
   .show h.J.bk b z
   .rw[bv.mp z];show bk
  .rw[q.wt]at f;rw[bv.mp f];show fA.mpr (by change _<Z s2.bs;rw[q.bs,aV];show di _)
 have r:nv n B X5 s<nv n B X5 s2:=by
  have(b0,z,eb,M,U,_,_):=p.br;have C:∀y∈bar,y.2=ac:=λy f=>(EG c (k.bl.subset f)).1;have m:=fE n A.reverse;have h0:∀y∈b0,s2.es.getD y.1.toNat ab=aa ac:=λy f=>by rw[q.es];show(EG g.1 (by rw[jb];show M.subset f)).2
  have Y:s2.es.getD z.1.toNat ab=ab:=by
   have(y,f,ey,_):=qE U;have tr2:Tr n B s.bs ((T.reverse++[x])++A.reverse):=by rw[cO];rw[er]at c;show c
   rw[q.es,<- ey];show(i9 _ tr2).2.2 y ?_
   rcases bc.mp f with u |u
   .rw[u];simp
   .simp[u]
  have(d,ps,N):=WM (by rw[q.es,m]) bk eb C h0 Y
  have hg:bS B s2.bs (ac,(aK B X5 s).2.bs.length,)=brg bar:=by
   change brg _=_;rw[q.bs,ml,if_pos rfl]
  have hok:∀u∈bS B s2.bs (ac,(aK B X5 s).2.bs.length,),u.Ok (Z s2.es):=by rw[hg,q.es,m];show λu l=>(tq bk u l).1
  rw[<- hg]at N;have(E,r2,_):=ox hok N;have(J3,_,f):=L.pop q.wt
  have t3:TrS n B {s2 with wt:=[]} A.reverse:=(G.sv,G.es,G.tr)
  have((u0,H),uo):=E.op d aA;have H:d.1<n:=by rw[q.es,m]at H;show H
  have(n1,n2):=b8.mp E.nd
  have t5:=Ez (s:=({ s2 with wt:=[] } : Spt).pt d.1 d.2 _) f (by change Z (put s2.es _ _)=n; rw [ce,q.es,m]) (λu l=>by change u.Ok (Z (put s2.es _ _)); rw [ce]; show hok u l) E.tail (λv hv u l=>by
   have((v0,v1),vo):=E.op v (bp _ hv);have ne:d.1≠v.1:=λee=>n1 (aM.mpr (v,hv,ee.symm));change u.sure (put (put s2.es d.1.toNat d.2) v.1.toNat _)=ac;rw[wH (by lia)];show wC (by rw[ce];show hok u l) u0 (by rw[ce,q.es,m];show H) (wI u0 v0 ne uo) _ (((r2 v).mp (bp _ hv)).2.2 u l)) (TrM.refl (t3.pt (w:=.gd _) u0 H uo rfl (f,((r2 d).mp aA).2.2)))
  have t6:TrM n B (((d.1,d.2,),.gd (ac,(aK B X5 s).2.bs.length,),)::A.reverse) (lrF B (Me X5 s2+1) s2).2:=by
   rw[qz q.wt N];show tJ P.hr _ _ (ow J3 E).1 t5
  have((xt,k2,_),_):=wR P.hr (by lia) hn _ s2 L t6
  have e1:(aK B X5 s).2.st=A.map stD++stD x::T.map stD:=by
   rw[e.t.sv,p.e,bf,bO]
  have e2:(aK B X5 s2).2.st=A.map stD++stD ((d.1,d.2,),.gd (ac,(aK B X5 s).2.bs.length,),)::xt.reverse.map stD:=by
   change(stF B X5 _ s2).2.st=_;rw[k2.sv,mD,jc,jb,cO,bf,bf];rfl
  unfold nv;rw[e1,e2];have tl:=tM g;rw[cB,lx]at tl;show KF n _ _ _ _ _ (by rw[az];lia) ?_ rfl
  have Q:x.2=.ch:=by
   rcases g.2.ok with⟨a,_⟩ |⟨a,_⟩
   .show a
   .rw[p.nc]at a;nomatch a
  unfold stD;rw[Q];rfl
 show((L,by rw[j];show i,G,by rw[q.pp,e.pp,aV,h.pp,j];rfl,by rw[q.en,e.en];show h.en,?_),r);rw[j];show mJ h.nb r
def EH(es:LOB):dF .non (es.map shD)=aa (es.any (·==ab)):=by
 induction es with
 |nil=>rfl
 |cons e es a=>
  change((deq 19 _ .non).bind λb=>(dF .non _).map λr=>b || r)=_;rw[a]
  cases e with
  |none=>rfl
  |some b=>cases b <;> rfl
def WO(h:es.any (·==ab)=ac):gT (.lst (es.map shD)) .non=aa (.int (es.findIdx (·==ab):Nat)):=by
 change(if dF _ _=aa ac then aa _ else ab)=_;rw[EH,h,if_pos rfl]
 congr 3
 clear h
 induction es with
 |nil=>rfl
 |cons e es a=>
  rw[bO,qR,qR,a]
  cases e with
  |none=>rfl
  |some b=>cases b <;> rfl
def wOf(es:LOB):LI0:=((fB 0 es).filter λp=>p.2==aa ac).map λp=>(p.1:Int)
def WP(h:es.any (·==ab)=af)(c:Z es<=1000):sQ [.lst (es.map shD)]=aa ((wOf es).map D.int):=by
 show nU ?_;unfold wOf;rw[map_map];show congrArg _ (fm _ _ _ _ (by rw[<- tG];show wn rfl) (by rw[wK];lia) λp a=>dS rfl (cy rfl ?_) λ_=>rfl);have hm:=any_eq_false.mp h p.2 (dX (ls a))
 cases e:p.2 with
 |none=>rw[e]at hm;show absurd rfl hm
 |some b=>cases b <;> rfl
variable{F:MF3}
def KI{t:MF4}{k:Nat}(h:t M=aa ac)(a:wp F M λr=>match r with
  |.nx ρ'=>wp (dB t F k) ρ' K
  |.rtS d ρ'=>K (.rtS d ρ')
  | _=>False):wp (dB t F (k+1)) M K:=by
 have(r,e,q):=a;dsimp only[wp,dB];rw[h,e,ax]
 cases r with
 |nx ρ'=>show q
 |rtS d ρ'=>show(_,rfl,q)
 | _=>show q.elim
def tO{t:MF4}{k:Nat}(h:t M=aa af)(q:K (.nx M)):wp (dB t F (k+1)) M K:=(.nx M,by unfold dB;rw[h];rfl,q)
nonrec def anT:MF4:=dN (bx (pD (ba "Seeking" "ended" (aJ 0))))
nonrec def anB:MF3:=(ai (f9 1 (cM 0 "Seeking" "settle" sP cF))
  (aY (mB (m2 fY (ae 1) kN)) (dM (cM 0 "Seeking" "close" qt (bP (mX (ae 1)) cF))) (aY (mB (m2 f6 kN (pB (ba "Seeking" "sheet" (aJ 0))))) (dM (cM 0 "Seeking" "put" qu (bP (mX (m2 gT (pB (ba "Seeking" "sheet" (aJ 0))) kN)) (bP (mX (kBl ac)) (bP (mX kN) cF))))) (ai (a9 2 (aR (p9 sQ (ag (pB (ba "Seeking" "sheet" (aJ 0))) nZ))))
  (ai (dM (cM 0 "Seeking" "close" qt (bP (mX (bC (ag (kSt "world") (ag (pD (ba "Seeking" "count" (aJ 0))) nZ)))) cF)))
  (ai (oa 0 "Seeking" "count" (kI 1))
  (eM (ae 2))))))))
abbrev anK(l:Addr)(o:O):Option (LI0)->Fl->Prop
 |none,x=>∃M,x=.nx M/\M[0]?=aa (.deep (.at l o))
 |some ws,x=>∃M,x=.rtS (.lst (ws.map D.int)) M/\M[0]?=aa (.deep (.at l o))
def WQ(P:Par n c0 X5 X3 B)(h:Hd n c0 X5 X3 B s st)(e:Se n c0 X5 X3 B s (aK B X5 s).2 st st1){t:Nat}(t1:t<n)(i:(aK B X5 s).2.es.getD t ab=ab)(p:∀j,j<t->(aK B X5 s).2.es.getD j ab≠ab):Hd n c0 X5 X3 B ((aK B X5 s).2.pt t ac .non) (((t,ac,),.ch,)::st1)/\nv n B X5 s<nv n B X5 ((aK B X5 s).2.pt t ac .non):=by
 have hz:=P.hz;have f:=tL (by rw[cY];show i);have c:=(e.J.pt (b:=ac) (w:=.non) (by lia) (by lia) f).1
 have d:TrS n B ((aK B X5 s).2.pt t ac .non) (((t,ac,),.ch,)::st1):=by
  show(?_,?_,e.t.tr,by change(0:Int)<=t;lia,by change(t:Int)<n;lia,by rw[<- e.t.es];show f,.inl (rfl,rfl,λj m=>?_))
  .change(aK B X5 s).2.st++[_]=_;rw[e.t.sv,jc,bf];rfl
  .change put (aK B X5 s).2.es _ _=_;rw[e.t.es];rfl
  .rw[<- e.t.es]
   grind
 have a:nv n B X5 s<nv n B X5 ((aK B X5 s).2.pt t ac .non):=by
  have((xt,l,_),_):=wR P.hr (by lia) P.hn _ _ c (tJ P.hr _ _ c (TrM.refl d));have tl:=tM d.tr;rw[cB]at tl
  have g:(aK B X5 ((aK B X5 s).2.pt t ac .non)).2.st=(aK B X5 s).2.st++stD ((t,ac,),.ch,)::xt.reverse.map stD:=by
   change(stF B X5 _ _).2.st=_;rw[l.sv,mD,jc,cO,bf,<- e.t.sv];rfl
  unfold nv;rw[g];show KE n _ _ _ (by rw[e.t.sv,az,lx];lia)
 show((c,?_,d,?_,?_,?_),a)
 .change d7 (c0+3840*(aK B X5 s).2.bs.length) _ (aK B X5 s).2.bs (aK B X5 s).2.tw;rw[e.bs,e.tw];show h.tw
 .change(aK B X5 s).2.pp.length=(aK B X5 s).2.bs.length;rw[e.bs,e.pp];show h.pp
 .change(aK B X5 s).2.en=af;rw[e.en];show h.en
 .change(aK B X5 s).2.bs.length<=_;rw[e.bs];show cZ h.nb (fJ a)
structure Car(n c0 X5 X3:Nat)(B:LRu)(I:Spt->LSp->List (LI0)->Prop)(F:Spt->List (LI0)->Prop):Prop where
 ch:∀{s st st1 fd} {t:Nat},Hd n c0 X5 X3 B s st->I s st fd->Se n c0 X5 X3 B s (aK B X5 s).2 st st1->(aK B X5 s).1=ab->t<n->(aK B X5 s).2.es.getD t ab=ab->I ((aK B X5 s).2.pt t ac .non) (((t,ac,),.ch,)::st1) fd
 cl:∀{s st st1 fd w bar dn A x T s2},Hd n c0 X5 X3 B s st->I s st fd->Se n c0 X5 X3 B s (aK B X5 s).2 st st1->(aK B X5 s).1=aa (Wh.D w)->Rt n B s.bs (aK B X5 s).2.es w->jP n B s.bs st1 bar dn->qF st1.reverse bar A x T->Clo n (aK B X5 s).2 s2 bar dn A->s2.ct=s.ct->Hd n c0 X5 X3 B s2 A.reverse->I s2 A.reverse fd
 fi:∀{s st st1 fd w dn s2},Hd n c0 X5 X3 B s st->I s st fd->Se n c0 X5 X3 B s (aK B X5 s).2 st st1->(aK B X5 s).1=aa (Wh.D w)->Rt n B s.bs (aK B X5 s).2.es w->jP n B s.bs st1 [] dn->s2.pp=s.pp++[lnD [] dn]->F s2 fd
 wc:∀{s st st1 fd bar dn A x T s2},Hd n c0 X5 X3 B s st->I s st fd->Se n c0 X5 X3 B s (aK B X5 s).2 st st1->(aK B X5 s).1=ab->(aK B X5 s).2.es.any (·==ab)=af->jP n B s.bs st1 bar dn->qF st1.reverse bar A x T->Clo n (aK B X5 s).2 s2 bar dn A->s2.ct=s.ct+1->Hd n c0 X5 X3 B s2 A.reverse->I s2 A.reverse (fd++[wOf (aK B X5 s).2.es])
 wf:∀{s st st1 fd dn s2},Hd n c0 X5 X3 B s st->I s st fd->Se n c0 X5 X3 B s (aK B X5 s).2 st st1->(aK B X5 s).1=ab->(aK B X5 s).2.es.any (·==ab)=af->jP n B s.bs st1 [] dn->s2.pp=s.pp++[lnD [] dn]->F s2 (fd++[wOf (aK B X5 s).2.es])
structure Fin(B:LRu)(F:Spt->List (LI0)->Prop)(fd:List (LI0))(o:O):Prop where
 ex:∃s:Spt,s.en=ac/\s.pp≠[]/\Z s.pp<=100000/\F s fd/\o=s.F B
inductive Af(n c0 X5 X3:Nat)(B:LRu)(I:Spt->LSp->List (LI0)->Prop)(F:Spt->List (LI0)->Prop)(fd:List (LI0))(v:Nat)(o:O):Prop
 |go (s:Spt) (st:LSp):Hd n c0 X5 X3 B s st->I s st fd->v<nv n B X5 s->o=(s.S B).o->Af n c0 X5 X3 B I F fd v o
 |fin:Fin B F fd o->Af n c0 X5 X3 B I F fd v o
variable{I:Spt->LSp->List (LI0)->Prop}{F:Spt->List (LI0)->Prop}
def EI(P:Par n c0 X5 X3 B)(K:Car n c0 X5 X3 B I F):∀(u:Nat) (s:Spt) (st:LSp) (fd:List (LI0)),Hd n c0 X5 X3 B s st->I s st fd->3 ^ n-nv n B X5 s<=u->∃(r:Option (LI0)) (o:O),(∀l v1 f k,u<k->wp (dB anT anB (k+1)) [.deep (.at l (s.S B).o),v1,f] (anK l o r))/\(r=ab->Fin B F fd o)/\∀ws,r=aa ws->Af n c0 X5 X3 B I F (fd++[ws]) (nv n B X5 s) o
 | u,s,st,fd,h,hI,hμ=>by
  have hz:=P.hz;have hn:=P.hn;have hC:=P.hC;have h2:=P.h2;have hnv:nv n B X5 s<3 ^ n:=tN _ _;have hnb:=h.nb;have hpp:=h.pp;have(st1,se,hwy):=h.se P;have i:=se.bs;have H:=se.ct;have m:=se.pp;have J1:=se.J;have Y:=WL P h;have L:=λ(bar dn A x T s2)=>WN (bar:=bar) (dn:=dn) (A:=A) (x:=x) (T:=T) (s2:=s2) P h se;have hch:=λt=>WQ (t:=t) P h se;have kch:=λt=>K.ch (t:=t) h hI se;have kcl:=λ(w bar dn A x T s2)=>K.cl (w:=w) (bar:=bar) (dn:=dn) (A:=A) (x:=x) (T:=T) (s2:=s2) h hI se;have kfi:=λ(w dn s2)=>K.fi (w:=w) (dn:=dn) (s2:=s2) h hI se;have kwc:=λ(bar dn A x T s2)=>K.wc (bar:=bar) (dn:=dn) (A:=A) (x:=x) (T:=T) (s2:=s2) h hI se;have kwf:=λ(dn s2)=>K.wf (dn:=dn) (s2:=s2) h hI se;generalize aK B X5 s=R at *;have y:=λ{w:Wh} C=>WK (w:=w) P.hr (by lia) hn J1 (by rw[i,se.tw];show h.tw) (by lia) (by rw[i];lia) (by rw[m];lia) se.t C;rw[i]at y
  have g:∀l v1 f k Q,wp _ [.deep _,.im _,f] _->wp (dB anT anB (k+1)) [.deep (.at l (s.S B).o),v1,f] Q:=λl v1 f k Q U=>by
   show KI (jB (cy (li rfl) (by change nu (.bl s.en)=aa af;rw[h.en];rfl))) ?_;apply aj;show jN (fN rfl rfl rfl rfl (Y l)) U
  cases hR:R.1 with
  |some wd=>
   have(w,rfl,hnc,C):=hwy wd hR;have(o,e1,ck):=y C
   have hwn:fY w.D .non=aa (.bl ac):=by
    cases w with
    |ch=>nomatch hnc
    | _=>rfl
   have step:=λl v1 f k Q U=>by
    show g l v1 f k Q ?_;rw[hR];show aS (bA (ao rfl rfl hwn)) (λ_=>(i0 (fN rfl rfl (dP rfl rfl) rfl (e1 l)) U)) λq=>nomatch q
   cases ck with
   | @fin dn k=>
    rw[i]at k
    show⟨ab,({R.2.ln [] dn with en:=ac}:Spt).F B,λl v1 f kk M=>?_,λ_=>({R.2.ln [] dn with en:=ac},rfl,?_,?_,kfi w dn _ hR C k (by change(R.2.ln [] dn).pp=_;unfold Spt.ln;rw[m]),rfl),λws e=>nomatch e⟩
    .obtain⟨kk,rfl⟩:∃j,kk=j+1:=(kk-1,by lia);show step l v1 f _ _ (tO rfl (_,rfl,rfl))
    .change R.2.pp++[_]≠[];simp
    .change(R.2.pp++[_]).length<=_;rw[aV,m];change _+1<=_
     lia
   | @bk bar dn A T x k p=>
    rw[i]at k;have q:Clo n R.2 (((R.2.ln bar dn).bk n A).bar bar) bar dn A:=(rfl,rfl,rfl,rfl,rfl,rfl,rfl,rfl);have(v,g2):=L bar dn A x T _ k p q
    match u,hμ with
    | 0,hμ=>lia
    | u+1,hμ=>
     have(r,o',i1,i2,i3):=EI P K u _ _ fd v (kcl w bar dn A x T _ hR C k p q H v) (by lia);show(r,o',λl v1 f kk M=>?_,i2,λws e=>?_)
     .obtain⟨kk,rfl⟩:∃j,kk=j+1:=(kk-1,by lia);show step l v1 f _ _ (i1 l _ _ kk (by lia))
     .cases i3 ws e with
      |go s' E a b c d=>show .go s' E a b (by lia) d
      |fin a=>show .fin a
  |none=>
   have hl1:=J1.es
   cases ha:R.2.es.any (·==ab)with
   |true=>
    have N:=xl (any_eq_true.mp ha)
    have G:R.2.es.getD (R.2.es.findIdx (·==ab)) ab=ab:=by
     rw[bE,b7 N];have:=findIdx_getElem (w:=N);show beq_iff_eq.mp this
    have(v,g2):=hch _ (by lia) G λj hj q=>by
     have:=not_of_lt_findIdx hj;rw[bE,b7 (by lia)]at q;have q:R.2.es[j]=ab:=q;rw[q]at this;show absurd this (by decide)
    match u,hμ with
    | 0,hμ=>lia
    | u+1,hμ=>
     have(r,o',i1,i2,i3):=EI P K u _ _ fd v (kch _ hR (by lia) G) (by lia);show(r,o',λl v1 f kk M=>?_,i2,λws e=>?_)
     .obtain⟨kk,rfl⟩:∃j,kk=j+1:=(kk-1,by lia);show g l v1 f _ _ ?_;rw[hR];show aS rfl (λq=>nomatch q) λ_=>?_;show aS (b:=ac) (bA (ao rfl (jK ke) (by change((dF .non (R.2.es.map shD)).map D.bl)=_;rw[EH,ha];rfl))) (λ_=>(i0 (fN rfl rfl (dP (ao (jK ke) rfl (WO ha)) (dP rfl (dP rfl rfl))) rfl ((λl=>Eu (t:=(R.2.es.findIdx (·==ab):Nat)) J1 P.h2 (by lia) (by lia)) l)) (i1 l _ _ kk (by lia)))) λq=>nomatch q
     .cases i3 ws e with
      |go s' E a b c d=>show .go s' E a b (by lia) d
      |fin a=>show .fin a
   |false=>
    have C:Rt n B s.bs R.2.es (.wd R.2.ct):=λk M q=>by
     rw[bE,b7 (by lia)]at q;have q:R.2.es[k]=ab:=q;show any_eq_false.mp ha _ (g9 _) (by rw[q];rfl)
    have(o,e1,ck):=y C
    have step:∀o2 l v1 f k Q,(∀v1 f,oa 0 "Seeking" "count" (kI 1) [.deep (.at l o),v1,f]=aa (.nx [.deep (.at l o2),v1,f]))->Q (.rtS (.lst ((wOf R.2.es).map D.int)) [.deep (.at l o2),.im .non,.im (.lst ((wOf R.2.es).map D.int))])->wp (dB anT anB (k+1)) [.deep (.at l (s.S B).o),v1,f] Q:=λo2 l v1 f k Q hau U=>by
     show g l v1 f k Q ?_;rw[hR];show aS rfl (λq=>nomatch q) λ_=>?_;show aS (b:=af) (bA (ao rfl (jK ke) (by change((dF .non (R.2.es.map shD)).map D.bl)=_;rw[EH,ha];rfl))) (λq=>nomatch q) λ_=>?_;apply aj;show bn (d:=.lst ((wOf R.2.es).map D.int)) (bV ?_) ?_
     .change(ag _ _ _).bind _=_;rw[ap (jK ke) rfl,ax];change(sQ [.lst (R.2.es.map shD)]).bind _=_;rw[(WP ha (by lia)),ax,if_pos (all_eq_true.mpr λd hd=>by have(z,_,rfl):=aM.mp hd;rfl)]
     apply aj;show i0 (fN rfl rfl (dP (d:=(Wh.wd R.2.ct).D) (dC (ap rfl (ap (li rfl) rfl))) rfl) rfl (e1 l)) ?_;apply aj;show(_,hau _ _,(i4 rfl U))
    cases ck with
    | @fin dn k=>
     rw[i]at k
     show(aa (wOf R.2.es),(({({R.2.ln [] dn with en:=ac}:Spt)with ct:=R.2.ct+1}:Spt).F B),λl v1 f kk M=>step _ l v1 f kk _ (λ_ _=>rfl) (_,rfl,rfl),(λe=>nomatch e),λws e=>?_)
     cases e
     show .fin ({({R.2.ln [] dn with en:=ac}:Spt)with ct:=R.2.ct+1},rfl,?_,?_,kwf dn _ hR ha k (by change(R.2.ln [] dn).pp=_;unfold Spt.ln;rw[m]),rfl)
     .change R.2.pp++[_]≠[];simp
     .change(R.2.pp++[_]).length<=_;rw[aV,m];change _+1<=_
      lia
    | @bk bar dn A T x k p=>
     rw[i]at k
     have q:Clo n R.2 {((R.2.ln bar dn).bk n A).bar bar with ct:=R.2.ct+1} bar dn A:=(rfl,rfl,rfl,rfl,rfl,rfl,rfl,rfl)
     have(v,g2):=L bar dn A x T _ k p q
     show(aa (wOf R.2.es),(({((R.2.ln bar dn).bk n A).bar bar with ct:=R.2.ct+1}:Spt).S B).o,λl v1 f kk M=>step _ l v1 f kk _ (λ_ _=>rfl) (_,rfl,rfl),(λe=>nomatch e),λws e=>?_)
     cases e;show .go _ _ v (kwc bar dn A x T _ hR ha k p q (by change R.2.ct+1=_;rw[H]) v) g2 rfl
def w5{cn a:Str}{f:Xa}(h:M[i]?=aa (.deep o))(hi:o.isIns cn a=ac)(e:f M=aa (ds,ρ1,))(c:ρ1[i]?=aa (.deep o))(hm:∀l,m l ds o=aa (o',d,)):kc i cn a m f M=aa (d,ρ1.set i (.deep o'),):=by
 have(ns,os,rfl,_):=zW hi;unfold kc;rw[h];change(if (O.ins cn ns os).isIns cn a=ac then _ else ab)=_;rw[if_pos hi,e,ax,c];have b:∃q,∀l,m l ds _=aa q:=(_,hm);dsimp only;rw[dif_pos b];have:=b.choose_spec 0;rw[hm 0]at this;rw[<- cP this]
inductive Sq:O->List (LI0)->O->Prop
 |nil {o o':O}:o.isIns "Seeking" "another"=ac->(∀l,m_8 l [] o=aa (o',.non,))->Sq o [] o'
 |cons {o o' oE:O} {w:LI0} {ws:List (LI0)}:o.isIns "Seeking" "another"=ac->(∀l,m_8 l [] o=aa (o',.lst (w.map D.int),))->Sq o' ws oE->Sq o (w::ws) oE
def wsD(ws:List (LI0)):D:=.lst (ws.map λw=>.lst (w.map D.int))
nonrec def wD(w:LI0):D:=.lst (w.map D.int)
nonrec def woT:MF4:=(da (mB (m2 fY (ae 4) kN)) (mB (m2 dLt (aw cK (ag (cT 3) nZ)) (ae 1))))
nonrec def woB:MF3:=(ai (dE 3 (ae 4)) (f9 4 (kc 2 "Seeking" "another" m_8 cF)))
def KJ{a:D}{most:Int}{oE:O}{K:Fl->Prop}:∀(ws:List (LI0)) (w:LI0) (o:O) (fs:List (LI0)) (k:Nat),Sq o ws oE->(Z fs:Int)<=most->Z fs+Z ws<10000000->Z ws+2<=k->((Z (fs++w::ws):Int)<=most->K (.nx [.im a,.im (.int most),.deep oE,.own ((fs++w::ws).map wD),.im .non]))->((¬(Z (fs++w::ws):Int)<=most)->∀o' d,K (.nx [.im a,.im (.int most),.deep o',.own (((fs++w::ws).take most.toNat).map wD),.im (wD d)]))->wp (dB woT woB k) [.im a,.im (.int most),.deep o,.own (fs.map wD),.im (wD w)] K
 |ws,w,o,fs,0,_,_,_,h,_,_=>absurd h (by lia)
 |ws,w,o,fs,k+1,hs,hm,hl,hk,k1,k2=>by
  have e:woT [.im a,.im (.int most),.deep o,.own (fs.map wD),.im (wD w)]=aa (decide (Z fs<most)):=by
   show(iq (a:=ac) rfl (bA (ao (aH rfl (f7 fs wD)) rfl nP))).trans ?_;rw[oG]
  by_cases c:Z fs<most
  .rw[decide_eq_true c]at e;show KI e ?_;apply aj;show gz rfl rfl (by rw[az];lia) ?_;have g:fs.map wD++[wD w]=(fs++[w]).map wD:=by rw[bf];rfl
   cases hs with
   |nil hi b=>
    show jN (w5 rfl hi rfl rfl b) ?_;rw[g];obtain⟨k,rfl⟩:∃j,k=j+1:=(k-1,by lia);show tO (by unfold woT da;rfl) (k1 ?_);rw[aV];change((Z fs+1:Nat):Int)<=_
    lia
   | @cons _ o' _ d ws' hi b f=>
    show jN (w5 rfl hi rfl rfl b) ?_;rw[g];have i:fs++w::d::ws'=(fs++[w])++d::ws':=by rw[cO];rfl
    rw[i]at k1 k2;simp only[cB]at hl hk;show KJ ws' d o' _ k f (by rw[aV];change((Z fs+1:Nat):Int)<=_;lia) (by rw[aV];change Z fs+1+_<_;lia) (by lia) k1 k2
  .rw[decide_eq_false c]at e;have l:Z fs=most.toNat:=by lia
   have:=k2 (by rw[aV,cB];lia) o w;rw[<- l,take_left' rfl]at this;show tO e this
def WR{f:Xa}(h:M[i]?=aa (.deep (.at l o0)))(b:f M=aa (ds,ρ1,))(a:ρ1[i]?=aa (.deep (.at l o)))(hm:m l ds o=aa (o',d,)):mf i m f M=aa (d,ρ1.set i (.deep (.at l o')),):=by
 unfold mf;simp only[h,b,ax,a];change(m l ds o).map _=_;rw[hm];rfl
def s00(n:Nat)(B:LRu):Spt:=spT (hJ n ab) B
def WS(P:Par n c0 X5 X3 B)(l:Addr):Cr l [pl0 n B] (.ins "Seeking" [] [])=aa (((s00 n B).S B).o,.non,):=by
 have hn:=P.hn;have e0:=Vm (v:=n) (es:=hJ n ab) P.hn P.hr P.hz l;rw[VL]at e0;apply fO;apply aj;show i0 (WR rfl (dP rfl (dP rfl (dP (bV ?_) rfl))) rfl e0) ?_
 .rw[map_replicate];show(gt _ _ _ ((rW (ap (bj rfl rfl rfl) rfl) (by lia) (by lia)).trans (by rw[cY])) (by rw[cN];lia) λ_ _=>fZ rfl rfl rfl).trans ?_;rw[map_const',cN];rfl
 apply aj;show gV (oe rfl) rfl rfl ?_;apply aj;show gV (sV rfl) rfl rfl (gV (sV rfl) rfl rfl (_,rfl,rfl,rfl))
variable{q:Nat}
def hd0(P:Par n (64*q*Z B) X5 X3 B)(c:∀r∈B,Z (grd r)<=q):Hd n (64*q*Z B) X5 X3 B (s00 n B) []:=by
 have hC:=P.hC;have b:=Wm P.hn (mx (a:=ab)) λr hr=>(P.hr r hr,c r hr);have t:TrS n B (s00 n B) []:=(rfl,rfl,trivial);show(KH P t b.bk (b.tw.wk.le (by lia),b.tw.vl,b.tw.br) b.wv b.ms (by have:=b.wl;change(spT _ B).wt.length<=_;rw[this];change Z B+0<=_;lia),b.tw,t,rfl,rfl,cr _)
def WT{fd:List (LI0)}(h:Fin B F fd o):Sq o [] o:=by
 have(s,e,_,_,_,rfl):=h.ex;show .nil rfl λl=>?_;apply fO;apply aj;show tO (jB (cy (li rfl) (by change nu (.bl s.en)=aa ac;rw[e];rfl))) (i4 rfl (_,rfl,rfl,rfl))
def KL(P:Par n c0 X5 X3 B)(K:Car n c0 X5 X3 B I F):∀(g:Nat) (s:Spt) (st:LSp) (fd:List (LI0)),Hd n c0 X5 X3 B s st->I s st fd->3 ^ n-nv n B X5 s<=g->∃ws oE,Sq (s.S B).o ws oE/\Fin B F (fd++ws) oE/\Z ws<=g
 | g,s,st,fd,h,hI,hμ=>by
  have hC:=P.hC;have h2:=P.h2;have y:nv n B X5 s<3 ^ n:=tN _ _;have(r,o,q,u,v):=EI P K _ s st fd h hI (aO _)
  have run:∀l,m_8 l [] (s.S B).o=aa (o,match r with |none=>.non |some w=>wD w,):=λl=>by
   apply fO;apply aj;show QB (q l _ _ 999999999 (by lia)) λx m=>?_
   cases r with
   |none=>
    have(M,rfl,e):=m
    show i4 rfl (o,e,rfl,rfl)
   |some w=>
    have(M,rfl,e):=m;show(o,e,rfl,rfl)
  cases r with
  |none=>show([],o,.nil rfl run,by rw[bT];show u rfl,cr _)
  |some w=>
   cases v w rfl with
   |fin f=>show([w],o,.cons rfl run (WT f),f,by change 1<=g;lia)
   |go z i a b c d=>
    subst d
    match g,hμ with
    | 0,hμ=>lia
    | g+1,hμ=>
     have(ws,oE,p,j,A):=KL P K g z i _ a b (by lia);show(w::ws,oE,.cons rfl run p,by rw[cO]at j;show j,by simp only[cB];lia)
def WU(P:Par n (64*q*Z B) X5 X3 B)(f:∀r∈B,Z (grd r)<=q)(K:Car n (64*q*Z B) X5 X3 B I F)(e:I (s00 n B) [] []):∃(ws:List (LI0)) (s:Spt),F s ws/\s.pp≠[]/\Z ws<=3 ^ n/\∀most:Int,0<=most->m_0 [pl0 n B,.int most]=aa (if (Z ws:Int)<=most then .tup [wsD ws,.bl ac,.lst s.pp] else .tup [wsD (ws.take most.toNat),.bl af,.lst []]):=by
 have hC:=P.hC;have h2:=P.h2;have(ws,oE,c,(s,f1,f2,h,d,rfl),b):=KL P K (3 ^ n) _ [] [] (hd0 P f) e (by lia);show(ws,s,d,f2,b,λmost hm=>?_);apply gA;apply aj;show Ro (Vb rfl (λl=>WS P l)) ?_;apply aj;show eC rfl ?_;apply aj
 cases c with
 |nil hi hr=>
  show jN (w5 rfl hi rfl rfl hr) ?_;apply aj;show tO (by unfold da;rfl) ?_;apply aj;show aS rfl (λ_=>?_) λq=>nomatch q
  show nO rfl (EE rfl (dG rfl (dH ((if_pos (hm)).symm))))
 | @cons _ o' _ w ws hi hr g=>
  rw[cB]at b;show jN (w5 rfl hi rfl rfl hr) ?_;apply aj;show KJ ws w o' [] _ g hm (by rw[length_nil];lia) (by lia) (λa=>?_) λa o2 i=>?_
  .apply aj;show aS rfl (λ_=>?_) λq=>nomatch q;show nO rfl (EE rfl (dG rfl (dH ((if_pos (a)).symm))))
  .apply aj;show aS rfl (λq=>nomatch q) λ_=>bH ?_;show nO rfl (dG rfl (dH ((if_neg (a)).symm)))
structure Scr(x:D)(ns:LI0):Prop where
 ln:cK [x]=aa (.int (Z ns))
 sq:iN x=aa (ns.map D.int)
 sl:∀{f:MF1} {l h:LS->Option (Option Int)} {M:LS} {lo hi:Option Int},f M=aa x->l M=aa lo->h M=aa hi->mSl f l h M=aa (((ns.drop (HT.sIx ns.length 0 lo)).take (HT.sIx ns.length ns.length hi-HT.sIx ns.length 0 lo)).map D.int)
def WV(ns:LI0):Scr (.kl (ns.map D.int)) ns:=(Hx _ _,rfl,λe a b=>Hz e a b)
def KM{x:D}(h:Scr x ns){i:Int}(b:0<=i):∃v,vI [x,.int i]=aa (.int v):=by
 by_cases a:i<Z ns
 .have(v,_,e):=lS b a;show(v,cV (u5 (u6 (bA (ao rfl (aH rfl h.ln) (nP.trans (by rw[decide_eq_true a])))) (cU (bj h.sq rfl e)))))
 .show(0,cV (j8 (nK (bA (ao rfl (aH rfl h.ln) (nP.trans (by rw[decide_eq_false a])))) rfl) rfl))
def oF(c k:Int)(q:0<=k)(r:k<=100):∃v,m_5 [.int c,.int k]=aa (.int v)/\0<=v/\v<1000003:=by
 suffices h:∃d,m_5 _=aa d/\∃v:Int,d=.int v/\0<=v/\v<1000003 by
  have(d,e,v,rfl,h):=h;show(v,e,h)
 apply lX;have(p,i,n):=lS (f:=D.int) (C:=[2147483647,1000000007,998244353,1000000009]) (eJ _ (by decide)) (g7 _ (by decide));have b:∀p∈([2147483647,1000000007,998244353,1000000009]:LI0),0<p/\p<=2147483647:=by decide
 have(j,u):=b p (dX i);have l:=eJ c (show 10 ^ S (18:Int)≠0 by decide);have m:=g7 c (show 0<10 ^ S (18:Int) by decide);have a:(10:Int) ^ S (18:Int)=1000000000000000000:=by decide
 have g:m8 10 18:=(by decide,by decide,by decide);apply aj;show bn (bj rfl (ao rfl rfl (cX (by decide))) n) ?_;apply aj;show bn (ao (ao (ao (ao rfl (ao rfl rfl (vm g)) (cX (by rw[a];decide))) (ao rfl (ao rfl rfl gB) (qb (.inr (by lia,by lia)))) gB) rfl (qb (.inr (by rw[a]at m l ⊢;lia,by lia)))) rfl (cX (by lia))) ?_;have o0:=eJ ((c % 10 ^ S (18:Int)+15485863*(k+1))*48271) (show p≠0 by lia);have o1:=g7 ((c % 10 ^ S (18:Int)+15485863*(k+1))*48271) j;generalize _*48271 % p=o at *;show dG (ao (ao rfl rfl (qb (.inr (by lia,by lia)))) rfl (cX (by decide))) (dH (_,rfl,eJ _ (by decide),g7 _ (by decide)))
def WW(c k n:Int)(x:0<=k)(G:k<=90)(H:1<=n):∃d,BI [.int c,.int k,.int n]=aa d/\∃L:LII,d=.lst (L.map itD)/\InN n.toNat L/\Z L<=3:=by
 have(v,m,I,v1):=oF c k x (by lia);have t0:0<=v % 4:=eJ _ (by decide);apply lX;apply aj;show eC rfl ?_;walk_at "nrm";apply aj;show du _ _ (λpre M=>∃(L:List _) (f g h:Sl),M=[.im _,.im _,.im _,.own (L.map itD),f,g,h]/\InN n.toNat L/\Z L=Z pre) (rW (ap (ao (aH rfl m) rfl (cX (by decide))) rfl) t0 (by lia)) ([],_,_,_,rfl,(λz hz=>nomatch hz),rfl) ?_ ?_
 .rintro pre j post M ex ⟨L,f,g,h,rfl,b,e⟩;have E:j<S (v % 4):=fG.mp (by rw[ex];simp)
  have r:Z pre<S (v % 4):=by
   have:Z pre<Z (bI (S (v % 4))):=by rw[ex];simp
   simpa using this
  have(a,l,A,B):=oF c (k+1+j) (by lia) (by lia);have(w,u,p):=lS (C:=[1,1,a / 8 % 4,c % 10 ^ S (60:Int)]) (i:=a / 32 % 4) (eJ _ (by decide)) (g7 _ (by decide))
  have y:0<=w:=by
   have:=dX u;simp only[bc,cG,or_false]at this
   rcases this with rfl |rfl |rfl |rfl
   .decide
   .decide
   .show eJ _ (by decide)
   .show eJ _ (Int.ne_of_gt p60)
  have m1:=g7 (a / 128) (show 0<n by lia);show(_,rfl,?_);apply aj;show bn (aH (ap rfl (ap (ao (ao rfl rfl gB) rfl gB) rfl)) l) ?_;apply aj;show bn (bj (ap rfl (ap rfl (ap (ao (ao rfl rfl (lZ (by decide,by decide))) rfl (cX (by decide))) (ap (ao rfl (ao rfl rfl (vm Jj)) (cX p60)) rfl)))) (ao (ao rfl rfl (lZ (by decide,by decide))) rfl (cX (by decide))) p) ?_;show gz (dC (ap (ao (ao rfl rfl (lZ (by decide,by decide))) rfl (cX (by lia))) (ap rfl rfl))) rfl (by rw[az];lia) (L++[(a / 128 % n,w,)],_,_,_,by rw[bf];rfl,λz hz=>?_,by rw[aV,aV,e];rfl)
  rcases bw.mp hz with q |q
  .show b z q
  .rw[bv.mp q];show((eJ _ (show n≠0 by lia)),by change _<_;lia,y)
 .rintro M ⟨L,f,g,h,rfl,b,e⟩;rw[cN]at e;show nR rfl (jI (L,rfl,b,by lia))
def WX(c k n:Int)(r:0<=k)(x:k<=80)(w:1<=n):∃d,vK [.int c,.int k,.int n]=aa d/\∃p:Prt,d=p.toD/\p.Ok n.toNat/\Z (nmP p)<=3:=by
 have(v,m,B,v1):=oF c k r (by lia);have(u,l,y,A):=oF c (k+5) (by lia) (by lia);have(d,j,L,rfl,e,q):=WW c (k+1) n (by lia) (by lia) w;have g:Z (L.map (·.1))<=3:=by rw[az];show q
 apply lX;apply aj;show bn (aH rfl m) ?_;walk_at "nrm";apply aj;show aS (bA (ao (ao rfl rfl (cX (by decide))) rfl nP)) (λz=>?_) λz=>bH ?_
 .have(wd,a,i):=lS (f:=D.str) (C:=["in","in","out","out","in"]) (eJ _ (by decide)) (of_decide_eq_true z);have h:=eJ (v / 8) (show n≠0 by lia);have m1:=g7 (v / 8) (show 0<n by lia);show dG (dC (ap (bj rfl (ao rfl rfl (cX (by decide))) i) (ap (ao (ao rfl rfl (lZ (by decide,by decide))) rfl (cX (by lia))) rfl))) (dH ?_);have:=dX a;simp only[bc,cG,or_false]at this;have one:1<=3:=by decide
  rcases this with rfl |rfl |rfl |rfl |rfl
  .show(.inn _,rfl,(h,by lia),one)
  .show(.inn _,rfl,(h,by lia),one)
  .show(.out _,rfl,(h,by lia),one)
  .show(.out _,rfl,(h,by lia),one)
  .show(.inn _,rfl,(h,by lia),one)
 .walk_at "nrm";have(wd,a,i):=lS (f:=D.str) (C:=["least","most"]) (eJ _ (by decide)) (g7 _ (by decide));have a:=dX a;simp only[bc,cG,or_false]at a
  have fin:∀b:Int,∃p:Prt,D.tup [.str wd,.int b,.lst _]=p.toD/\p.Ok n.toNat/\Z (nmP p)<=3:=λb=>by
   rcases a with rfl |rfl
   .show(.least b L,rfl,(e,by lia),g)
   .show(.most b L,rfl,(e,by lia),g)
  apply aj;show bn (aH (ap rfl (ap (ao rfl rfl gB) (ap rfl rfl))) j) ?_;apply aj;show bn (aH (ap rfl (ap (ao rfl rfl gB) rfl)) l) ?_;walk_at "nrm";apply aj;show aS (bA (ao (ao rfl rfl (cX (by decide))) rfl (lU _ _))) (λz=>?_) λz=>bH ?_
  .have c0:=eJ c (Int.ne_of_gt p60);show dG (dC (ap (bj rfl (ao rfl rfl (cX (by decide))) i) (ap (ao (ao rfl (ao rfl rfl (vm Jj)) (cX p60)) (ao (ao (ao rfl rfl (lZ (by decide,by decide))) rfl (cX (by decide))) rfl l5) (qb (.inr (by lia,by lia)))) (ap rfl rfl)))) (dH (fin _))
  .show dG (dC (ap (bj rfl (ao rfl rfl (cX (by decide))) i) (ap (ao (ao (ao rfl rfl (lZ (by decide,by decide))) rfl (cX (by decide))) rfl l5) (ap rfl rfl)))) (dH (fin _))
structure Ru5(n:Nat)(r:Rul):Prop where
 ok:r.Ok n
 nm:∀p∈r.ps,Z (nmP p)<=3
 ln:Z r.ps<=3
def Ru5.k(h:Ru5 n r):RuK n r:=(h.ok,λp a=>cZ (h.nm p a) (by decide),cZ h.ln (by decide))
def WY(c n:Int)(N:1<=n):∃d,BL [.int c,.int n]=aa d/\∃r:Rul,d=r.toD/\Ru5 n.toNat r:=by
 have(v,H,v0,v1):=oF c 0 (by decide) (by decide);have(u,G,U,Y):=oF c 1 (by decide) (by decide);have(t,A,t0,t1):=oF c 2 (by decide) (by decide);have(wd,l,I):=lS (f:=D.str) (C:=["make","make","make","make","may","may","may","never"]) (i:=v % 8) (eJ _ (by decide)) (g7 _ (by decide));have L:=eJ t (show n≠0 by lia);have m1:=g7 t (show 0<n by lia);have Q:=eJ u (show(4:Int)≠0 by decide);have s1:=g7 u (show(0:Int)<4 by decide);apply lX;change wp _ [.im _,.im _,.no,.no,.no] _;apply aj;show bn (d:=.str wd) (bj rfl (ao (aH rfl H) rfl (cX (by decide))) I) ?_;apply aj;show bn (d:=.int (u % 4)) (ao (aH rfl G) rfl (cX (by decide))) ?_;show QI (λM=>∃z:Int,M=[.im (.int c),.im (.int n),.im (.str wd),.im (.int z),.no]/\0<=z/\z<=3) ?_ ?_
 .show aS (iq (bA (ao rfl rfl (rT _ _))) (iq (bA (ao rfl rfl (lU _ _))) (bA (ao (ao (aH rfl A) rfl (cX (by decide))) rfl nQ)))) (λ_=>?_) λ_=>?_
  .show bn rfl (k_J (2,rfl,by decide,by decide))
  .show bH (k_J (u % 4,rfl,Q,by lia))
 .rintro M ⟨z,rfl,T,z3⟩
  have(ps,x,y,h):=UW (k:=1) (js:=[0,1]) (g:=ay 0) (ft:=λ_=>aa ac) (fe:=aw vK (ag (ae 1) (ag (m2 eK (kI 3) (m2 l8 (kI 6) (ae 0))) (ag (ae 2) nZ)))) (fi:=iO (ag (ae 3) nZ)) (M:=[.im (.int c),.im (.int n),.im (.str wd),.im (.int z),.no]) _ _ Prt.toD (λp=>p.Ok (S n)/\Z (nmP p)<=3) (rW rfl T (by lia)) (by rw[cN];lia) λj B=>by
   have B:=fG.mp B;have(d,E,p,rfl,a):=WX c (3+6*j) n (by lia) (by lia) N;show(p,a,fZ rfl rfl (aH (ap rfl (ap (ao rfl (ao rfl rfl (qb (.inr (by lia,by lia)))) gB) (ap rfl rfl))) E))
  rw[cN]at y;have m:Z ps<=3:=by lia
  apply aj;show bn (bV x) ?_;have l:=dX l;simp only[bc,cG,or_false]at l
  have mk:∀w:Wrd,w≠.never->wd=w.s->∃r:Rul,D.tup [.str wd,.int (t % n),.lst (ps.map Prt.toD)]=r.toD/\Ru5 n.toNat r:=λw J e=>⟨(w,t % n,ps),by rw[e];cases w <;> first |rfl |show absurd rfl J,(λ_=>(L,by change t % n<_;lia),λp a=>(h p a).1,by change Z ps<=_;lia),λp a=>(h p a).2,m⟩
  apply aj;show aS (b:=wd == "never") (bA (ao rfl rfl (rT _ _))) (λe=>?_) λe=>bH ?_
  .show dG (d:=.tup [.str wd,.non,.lst (ps.map Prt.toD)]) rfl (dH ((.never,0,ps),by rw[eq_of_beq e];rfl,(λq=>absurd rfl q,λp a=>(h p a).1,by change Z ps<=_;lia),λp a=>(h p a).2,m))
  .show dG (d:=.tup [.str wd,.int (t % n),.lst (ps.map Prt.toD)]) (dC (ap rfl (ap (ao (aH rfl A) rfl (cX (by lia))) (ap rfl rfl)))) (dH ?_)
   rcases l with q |q |q |q |q |q |q |q
   .show mk .make (λz=>nomatch z) q
   .show mk .make (λz=>nomatch z) q
   .show mk .make (λz=>nomatch z) q
   .show mk .make (λz=>nomatch z) q
   .show mk .may (λz=>nomatch z) q
   .show mk .may (λz=>nomatch z) q
   .show mk .may (λz=>nomatch z) q
   .rw[q]at e;nomatch e
def ptE(h:f M=aa (.int v)):mPt f M=aa (aa v):=by unfold mPt;rw[h];rfl
def ru1{w:Wrd}{hd:Int}{ps:List Prt}(h:0<=hd/\hd<(n:Int))(a:∀p∈ps,p.Ok n/\Z (nmP p)<=3)(b:Z ps<=3):Ru5 n (w,hd,ps):=((λ_=>h,λp q=>(a p q).1,by change Z ps<=_;lia),λp q=>(a p q).2,b)
def WZ(c n:Int)(x:0<=n)(A:n<=60):∃B:LRu,BG [.int c,.int n]=aa (B.map Rul.toD)/\(∀r∈B,Ru5 n.toNat r)/\Z B<=n.toNat:=by
 suffices h:wp vJ _ (λr=>∃B:LRu,r=.rtO (B.map Rul.toD)/\(∀r∈B,Ru5 n.toNat r)/\Z B<=n.toNat) by
  have(r,e,B,rfl,h):=h;show(B,nU e,h)
 apply aj;show eC rfl ?_;walk_at "nrm";apply aj;show du _ _ (λpre M=>∃(B:LRu) (f:Sl),M=[.im _,.im _,.own (B.map Rul.toD),f]/\(∀r∈B,Ru5 n.toNat r)/\Z B<=Z pre) (rW rfl x (by lia)) ([],_,rfl,(λr hr=>nomatch hr),aO _) ?_ ?_
 .rintro pre j post M ex ⟨B,f,rfl,g,h2⟩;have y:j<n.toNat:=fG.mp (by rw[ex];simp)
  have v:Z pre<n.toNat:=by
   have:Z pre<Z (bI n.toNat):=by rw[ex];simp
   simpa using this
  have u:=eJ (j+1:Int) (show n≠0 by lia);have m1:=g7 (j+1:Int) (show 0<n by lia);have one:1<=3:=by decide
  have add:∀r:Rul,Ru5 n.toNat r->∃(a:LRu) (f:Sl),[.im _,.im _,.own (B.map Rul.toD++[r.toD]),.im (.int j)]=[Sl.im (.int c),.im (.int n),.own (a.map Rul.toD),f]/\(∀r∈a,Ru5 n.toNat r)/\Z a<=Z (pre++[j]):=λr hr=>(B++[r],_,by rw[bf];rfl,λq w=>by rcases bw.mp w with z |z;show g q z;rw[bv.mp z];show hr,by rw[aV,aV];show Nat.add_le_add_right h2 _)
  have no:∀{k:Int},c % 4≠k->∀M:LS,M[0]?=aa (.im (.int c))->mB (m2 dEq (m2 cb (ae 0) (kI 4)) (λ_=>aa _)) M=aa af:=λ{k} h M e=>bA (ao (ao (by unfold ae;rw[e]) rfl (cX (by decide))) rfl ((lU _ _).trans (by rw[beq_false_of_ne h])));have ye:∀{k:Int},c % 4=k->∀M:LS,M[0]?=aa (.im (.int c))->mB (m2 dEq (m2 cb (ae 0) (kI 4)) (λ_=>aa _)) M=aa ac:=λ{k} h M e=>bA (ao (ao (by unfold ae;rw[e]) rfl (cX (by decide))) rfl ((lU _ _).trans (by rw[h,beq_self_eq_true])));show(_,rfl,?_);apply aj
  by_cases i:c % 4=1
  .show aS (ye i _ rfl) (λ_=>?_) λz=>nomatch z;show gz (d:=Rul.toD (.make,j,[.inn _])) (dC (ap rfl (ap rfl (ap (bV (ap (dC (ap rfl (ap (ao (ao rfl rfl gB) rfl (cX (by lia))) rfl))) rfl)) rfl)))) rfl (by rw[az];lia) ?_;apply aj;show aS (no (by lia) _ rfl) (λz=>nomatch z) λ_=>bH ?_;show aS (no (by lia) _ rfl) (λz=>nomatch z) λ_=>bH (add _ (ru1 (by lia,by lia) (λp b=>by rw[bv.mp b];show((u,by lia),one)) one))
  .show aS (no i _ rfl) (λz=>nomatch z) λ_=>bH ?_;apply aj
   by_cases l:c % 4=2
   .show aS (ye l _ rfl) (λ_=>?_) λz=>nomatch z;show gz (d:=Rul.toD (.make,j,[.out _])) (dC (ap rfl (ap rfl (ap (bV (ap (dC (ap rfl (ap (ao (ao rfl rfl gB) rfl (cX (by lia))) rfl))) rfl)) rfl)))) rfl (by rw[az];lia) ?_;show aS (no (by lia) _ rfl) (λz=>nomatch z) λ_=>bH (add _ (ru1 (by lia,by lia) (λp b=>by rw[bv.mp b];show((u,by lia),one)) one))
   .show aS (no l _ rfl) (λz=>nomatch z) λ_=>bH ?_
    by_cases m:c % 4=3
    .show aS (ye m _ rfl) (λ_=>?_) λz=>nomatch z;show gz (d:=Rul.toD (.may,j,[])) rfl rfl (by rw[az];lia) (add _ (ru1 (by lia,by lia) (λp b=>nomatch b) (cr _)))
    .show aS (no m _ rfl) (λz=>nomatch z) λ_=>bH (B,_,rfl,g,by rw[aV];lia)
 .rintro M ⟨B,f,rfl,g,h2⟩;rw[cN]at h2;show nR rfl (B,rfl,g,h2)
def W0{x:D}(E:Scr x ns)(U:Z ns<=63){top:Int}(t1:1<=top)(t6:top<=6):∃(n:Nat) (B:LRu),vL [x,.int top]=aa (pl0 n B)/\(n:Int)<top/\(∀r∈B,Ru5 n r)/\Z B<=5+Z ns:=by
 suffices h:∃d,vL _=aa d/\∃(n:Nat) (B:LRu),d=pl0 n B/\n<top/\(∀r∈B,Ru5 n r)/\Z B<=5+Z ns by
  have(d,e,n,B,rfl,h):=h;show(n,B,e,h)
 have(v,J):=KM E (qL _);have G:=eJ v (show top≠0 by lia);have m1:=g7 v (show 0<top by lia);have(B,j,N,h2):=WZ _ _ G (by lia);have(u,Y,I):=lS (f:=D.int) (C:=[60,60,40,24,10,5]) G (by change v % top<6;lia);apply lX;apply aj;show bn (aH rfl J) ?_;apply aj;show bn (ao rfl rfl (cX (by lia))) ?_;apply aj
 show eC (vp (ap (ao rfl rfl (lZ (by first |show .inl (by lia,by lia) |show .inr (by lia,by lia) |show(by lia,by lia)))) (ap rfl rfl)) j) ?_
 have g:Z ((ns.drop (HT.sIx ns.length 0 (aa 1))).take (HT.sIx ns.length ns.length (aa (1+u))-HT.sIx ns.length 0 (aa 1)))<=Z ns:=by
  grind
 generalize m:(ns.drop _).take _=A at g;generalize hn:v % top=n at *;apply aj;show du A D.int (λpre M=>∃(a:LRu) (i:Sl),M=[.im x,.im _,.im _,.im _,.own (a.map Rul.toD),i]/\(∀r∈a,Ru5 n.toNat r)/\Z a<=5+Z pre) (eB (bV ((E.sl rfl rfl (ptE (ao rfl (bj rfl rfl I) gB))).trans (by rw[m]))) rfl) (B,_,rfl,N,by change _<=5;lia) ?_ ?_
 .rintro pre c post M ex ⟨a,i,rfl,l,L⟩;have Q:Z pre<Z A:=by rw[ex];simp
  have add:∀r:Rul,Ru5 n.toNat r->∃(b:LRu) (i:Sl),[.im x,.im _,.im _,.im _,.own (a.map Rul.toD++[r.toD]),.im (.int c)]=[Sl.im x,.im (.int top),.im (.int v),.im (.int n),.own (b.map Rul.toD),i]/\(∀r∈b,Ru5 n.toNat r)/\Z b<=5+Z (pre++[c]):=λr hr=>(a++[r],_,by rw[bf];rfl,λq T=>by rcases bw.mp T with z |z;show l q z;rw[bv.mp z];show hr,by rw[aV,aV];change _+1<=5+(_+1);lia)
  show(_,rfl,?_);show aS (bA (ao rfl rfl (lU _ _))) (λz=>?_) λz=>?_
  .have w:n=0:=by simpa using z
   show gz (d:=Rul.toD (.never,0,[.most _ []])) (dC (ap rfl (ap rfl (ap (bV (ap (dC (ap rfl (ap (ao (ao rfl rfl (cX (by decide))) rfl l5) (ap rfl rfl)))) rfl)) rfl)))) rfl (by rw[az];lia) (add _ ((λq=>absurd rfl q,(λp y=>by rw[bv.mp y];show(λz hz=>(nomatch hz),cr _)),(by decide:1<=100000)),λp y=>by rw[bv.mp y];show cr _,(by decide:1<=3)))
  .have w:n≠0:=λq=>by rw[q]at z;nomatch z
   have(d,H,r,rfl,hr):=WY c n (by lia);show gz (aH rfl H) rfl (by rw[az];lia) (add r hr)
 .rintro M ⟨a,i,rfl,l,L⟩;show nO rfl (dG rfl (dH (S n,a,?_,by lia,l,by lia)));unfold pl0;rw[show(n.toNat:Int)=n by lia]
def W2(p:Prt):BA [p.toD]=aa p.toD:=by
 cases p with
 |inn t=>rfl
 |out t=>rfl
 |least k L=>rfl
 |most k L=>rfl
def W3(hr:∀r∈B,Ru5 n r)(f:Z B<=1000):BC [pl0 n B]=aa (pl0 n B):=by
 apply gA;apply aj;show eC rfl ?_;apply aj;show du B Rul.toD (λpre M=>∃a b c,M=[.im _,.own (pre.map Rul.toD),a,b,c]) (eB (bj rfl rfl rfl) rfl) (_,_,_,rfl) ?_ ?_
 .rintro pre r post M ex ⟨a,b,c,rfl⟩;have d:Z pre<Z B:=by rw[ex];simp
  have e:=(hr r (by rw[ex];simp)).ln;show(_,rfl,?_);show gz (dC (ap rfl (ap rfl (ap (bV (gt r.ps Prt.toD Prt.toD rfl (by lia) λp _=>fZ rfl rfl (aH rfl (W2 p)))) rfl)))) rfl (by rw[az];lia) (.im (.str r.w.s),.im r.hdD,.im (.lst (r.ps.map Prt.toD)),?_);rw[bf];rfl
 .rintro M ⟨a,b,c,rfl⟩;show nO rfl (dG rfl (dH rfl))
def W4(a:n<=5)(hr:∀r∈B,Ru5 n r)(c:Z B<=69):Par n (64*4*Z B) 950900 4760000 B:=by
 have b:3 ^ n<=243:=Nat.pow_le_pow_right (by decide) a
 have key:∀X5 X3:Nat,X5=950900->X3=4760000->Par n (64*4*Z B) X5 X3 B:=λX5 X3 hC hB=>by
  show(λr q=>(hr r q).k,by lia,by lia,by lia,by lia,by lia)
 show key _ _ rfl rfl
def W5(hr:∀r∈B,Ru5 n r):∀r∈B,Z (grd r)<=4:=λr q=>by
 have:=(hr r q).ln;have(w,hd,ps):=r;have this:Z ps<=3:=this
 cases w with
 |may=>show(by decide:1<=4)
 |never=>change Z ps<=4;lia
 |make=>change(ps++[_]).length<=4;rw[aV];change _+1<=4;lia
variable{e:LOB}
def KN(c:p.Ok (Z e))(t0:0<=t)(t1:t<(Z e:Int))(a:opn e t=ac)(h:t∉nmP p\/gW p≠b):p.sure (put e t.toNat b)=p.sure e:=by
 rcases h with h |h
 .show Ve c (by grind)
 .have d:=i7 a
  cases p with
  |inn u=>
   cases b with
   |true=>show absurd rfl h
   |false=>
    change((put e t.toNat af).getD u.toNat ab==aa ac)=(e.getD u.toNat ab==aa ac)
    by_cases q:S u=S t
    .rw[q,fq e af (by lia),d];rfl
    .rw[dz e af q]
  |out u=>
   cases b with
   |false=>show absurd rfl h
   |true=>
    change((put e t.toNat ac).getD u.toNat ab==aa af)=(e.getD u.toNat ab==aa af)
    by_cases q:S u=S t
    .rw[q,fq e ac (by lia),d];rfl
    .rw[dz e ac q]
  |least k L=>
   cases b with
   |true=>show absurd rfl h
   |false=>
    change decide _=decide _;rw[wA c.1 t0 t1 a af]
    simp
  |most k L=>
   cases b with
   |false=>show absurd rfl h
   |true=>
    change decide _=decide _;rw[wB c.1 t0 t1 a ac];simp
structure eI(G:List Prt)(es:LOB)(S:LI0):Prop where
 ns:¬eG G es
 np:∀(t:Int) (b:Bool),0<=t->t<(Z es:Int)->opn es t=ac->eG G (put es t.toNat (!b))->t∈S
variable{S:LI0}
def eI.pt(h:eI G es (t::S))(i:∀p∈G,p.Ok (Z es))(t0:0<=t)(t1:t<(Z es:Int))(j:opn es t=ac)(hn:∀p∈G,t∉nmP p\/gW p≠b):eI G (put es t.toNat b) S:=by
 show(λq=>h.ns λp a=>by rw[<- KN (i p a) t0 t1 j (hn p a)];show q p a,λu c d l f q=>?_);rw[ce]at l
 have ne:u≠t:=λe=>by
  unfold opn at f;rw[e,fq es b (by lia)]at f
  grind
 have g:opn es u=ac:=by rw[<- Et d t0 ne];show f
 have:=h.np u c d l g λp a=>by
  have e:=KN (e:=put es u.toNat (!c)) (by rw[ce];show i p a) t0 (by rw[ce];show t1) (wI t0 d (λe=>ne e.symm) j) (hn p a);rw[<- e,wH (by lia)]
  grind
 grind
def eI.of_prs{ps:List Pr}(c:∀p∈G,p.Ok (Z es))(h:prs G es=aa ps):eI G es (ps.map (·.1)):=by
 have(_,h2,p,e,a):=ox c h;show((λq=>by rw[q p e]at a;nomatch a),λt b t0 t1 d q=>(aM.mpr (_,(h2 (t,b,)).mpr ((t0,t1),d,q),rfl)))
def Wch(B:LRu)(bs:LLP)(tw:Wt)(y:Wy):Prop:=∀p∈bS B bs y,∀t∈nmL p,y∈look tw (t,gW p,)
def Jq(B:LRu)(s:Spt)(y0:Wy)(S:LI0):Prop:=∀y∈gys B.length (Z s.bs),Wch B s.bs s.tw y->y∈s.wt\/eI (bS B s.bs y) s.es (if y=y0 then S else [])
def eI.more{f:LI0}(h:eI G es S)(g:∀t∈S,t∈f):eI G es f:=(h.ns,λt b a c d e=>g t (h.np t b a c d e))
variable{y0:Wy}
def Jq.pt{w:D}(hr:∀r∈B,RuK n r)(k:SpJ n c X3 B s)(h:Jq B s y0 (t::S))(t0:0<=t)(t1:t<(n:Int))(g:opn s.es t=ac):Jq B (s.pt t b w) y0 S:=λy i e=>by
 have f:∀p∈bS B s.bs y,p.Ok (Z s.es):=by rw[k.es];show oA hr k.bk
 rcases h y i e with q |q
 .show .inl (bX _ q)
 .by_cases hn:∀p∈bS B s.bs y,t∉nmP p\/gW p≠b
  .show .inr (eI.pt (q.more ?_) f t0 (by rw[k.es];show t1) g hn)
   grind
  .have(p,a):=Classical.not_forall.mp hn;have(a,d):=Classical.not_imp.mp a;show .inl (cq _ ?_);have:=e p a t (sX.mpr (Classical.not_not.mp λz=>d (.inl z)));rw[(Classical.not_not.mp λz=>d (.inr z))]at this;show this
def Jq.puts{n c X3:Nat}{B:LRu}{y0:Wy}{w:D}(hr:∀r∈B,RuK n r):∀{ps:List Pr} {s:Spt},SpJ n c X3 B s->fP s.es ps->Jq B s y0 (ps.map (·.1))->Jq B (puts s w ps) y0 []
 | [],_,_,_,h=>h
 |z::ps,s,k,p,h=>by
  have((a,b),e):=p.op z aA;have b:z.1<n:=by rw[<- k.es];show b
  show Jq.puts hr (ps:=ps) (k.pt a b e).1 p.tail (Jq.pt hr k h a b e)
def Jr(B:LRu)(s:Spt):Prop:=∀y0,Jq B s y0 []
def Jr.of(h:Jq B s y0 []):Jr B s:=λ_ y b a=>by
 rcases h y b a with q |q
 .grind
 .grind
def KO{n c X3:Nat}{B:LRu}(hr:∀r∈B,RuK n r):∀(k:Nat) (s:Spt),SpJ n c X3 B s->Me c s<k->Jr B s->(lrF B k s).1=ab->Jr B (lrF B k s).2
 | 0,_,_,h,_,_=>absurd h (iF _)
 |k+1,s,h,hk,hj,he=>by
  cases b:s.wt with
  |nil=>rw[tz b];show hj
  |cons y wt=>
   have(f,h2,m):=h.pop b;have g:∀p∈bS B s.bs y,p.Ok (Z s.es):=by rw[h.es];show oA hr h.bk
   cases a:prs _ s.es with
   |none=>rw[tB b a]at he;cases he
   |some ps=>
    rw[qz b a]at he ⊢;have(i,u,_):=ox g a;have(l,v):=ow f i;show KO hr k _ l (by lia) (Jr.of (Jq.puts (y0:=y) hr f i ?_)) he;intro x j d
    by_cases e:x=y
    .rw[if_pos e];show .inr (by rw[e];show eI.of_prs g a)
    .rw[if_neg e]
     rcases hj x x j d with q |q
     .grind
     .grind
def KP{n c X3:Nat}{B:LRu}{wo:LB0}(hr:∀r∈B,RuK n r):∀{ts:LI0} {s:Spt},SpJ n c X3 B s->fP s.es (ts.map λt=>(t,af,))->Jr B s->Jr B (eU B wo s ts)
 | [],_,_,_,h=>h
 |t::ts,s,k,p,h=>by
  have((a,b),e):=p.op _ aA;have b:t<n:=by rw[<- k.es];show b
  show KP hr (ts:=ts) (k.pt a b e).1 p.tail (Jr.of (y0:=(af,0,)) (Jq.pt hr k (λy g f=>?_) a b e))
  rcases h y y g f with q |q
  .grind
  .rw[if_pos rfl]at q;show .inr (q.more λu d=>nomatch d)
def qG(B:LRu)(es:LOB):Prop:=∀wo,Grp B es wo->∀i,wo.getD i af=af
def W6(hm:fD es.length ms)(pm:ms.Perm (dO B))(g:Grp B es wo)(i:Nat)(hi:wo.getD i af=ac):(cm es ms).1.getD i af=ac:=by
 have(e,_):=JH hm.ne;show Vo hm.ok e.pe (by rw[g.len];unfold jL;rw[az]) (λj a=>?_) (λj a=>by rw[getD_nil]at a;nomatch a) (λr hr d=>?_) i hi
 .have f:=g.no j a
  have c:j<Z es:=by
   rw[<- g.len]
   grind
  unfold jL
  grind
 .have(_,h2,b):=JD d;rw[g.up r (pm.mem_iff.mp hr) h2]at b
  grind
def W7(wo:LB0)(es:LOB)(l:Z wo=Z es)(i:Nat):(tu es wo).getD i ab=if wo.getD i af=ac then aa af else es.getD i ab:=by
 unfold tu
 have gen:∀(ts:LI0) e,Z e=Z es->(∀t∈ts,0<=t/\t<Z es)->(ts.foldl (λes t=>put es t.toNat af) e).getD i ab=if (i:Int)∈ts then aa af else e.getD i ab:=by
  intro ts
  induction ts with
  |nil=>intro e _ _;rfl
  |cons t ts j=>
   intro e f c;have(a,b):=c t aA;rw[fQ,j _ (by rw[ce];show f) λu g=>c u (bp _ g)]
   by_cases d:(i:Int)∈ts
   .grind
   .rw[if_neg d]
    by_cases h2:i=t
    .rw[if_pos (by grind),show i=t.toNat by lia,fq e af (by lia)]
    .rw[if_neg (λq=>by rcases bc.mp q with z |z;show h2 z;show d z),dz e af (by lia)]
 rw[gen _ es rfl λt c=>?_]
 .by_cases h:wo.getD i af=ac
  .rw[if_pos h,if_pos ((wb wo i).mpr (by lia,by rw[cY];show h))]
  .rw[if_neg h,if_neg (λq=>h (by have:=((wb wo i).mp q).2;rwa [cY]at this))]
 .have(t0,tw):=(wb wo t).mp c
  grind
def lost_by(h:p.Ok (Z es))(a:∀i,es.getD i ab=aa ac->es'.getD i ab=aa ac)(h2:∀i,(es.getD i ab=aa af\/wo.getD i af=ac)->(es'.getD i ab=aa af\/wo'.getD i af=ac))(s:p.lost es wo=ac):p.lost es' wo'=ac:=Ki h (λt _=>a _) (λt _=>h2 _) s
def W8(hr:∀r∈B,RuK n r)(hz:Z B<=1000)(h:SpJ n c X3 B s)(y:(bM B s).1=ab):qG B (bM B s).2.es:=by
 have hm:=fD.of hr hz h.ms;have(M,l,pm,E):=h.rem' hm;unfold bM at y ⊢
 cases H:inL s.es (cm s.es s.ms).1 with
 |cons x C=>rw[H]at y;nomatch y
 |nil=>
  have(_,_,T,_,_,_):=wP M (tI l.1 H E);rw[T,wL];change qG B (tu s.es (cm s.es s.ms).1);have b:=W7 (cm s.es s.ms).1 s.es l.1;have m:fD s.es.length s.ms:=by rw[h.es];show hm
  have A:=λwo i=>W6 (wo:=wo) m h.ms (i:=i);generalize (cm s.es s.ms).1=wo at *
  have d:Z (tu s.es wo)=Z s.es:=by
   have:∀(ts:LI0) e,Z (ts.foldl (λes t=>put es t.toNat af) e)=Z e:=by
    intro ts
    induction ts with
    |nil=>intro e;rfl
    |cons t ts Q=>intro e;rw[fQ,Q,ce]
   show this _ _
  intro w g i
  cases hi:w.getD i af with
  |false=>rfl
  |true=>
   exfalso
   have a:∀j,(oP (· || ·) wo w).getD j af=(wo.getD j af || w.getD j af):=λj=>by
    have N:Z w=Z wo:=by rw[g.len,d,l.1]
    grind
   have L:Grp B s.es (oP (· || ·) wo w):=by
    show(by rw[length_zipWith,g.len,d,l.1,tY],λj I=>?_,λr f J=>?_)
    .rw[a]at I
     rcases(ki _ _).mp I with q |q
     .grind
     .intro e;show g.no j q ?_
      grind
    .have v:=m.ok r (h.ms.mem_iff.mpr f);rw[a]at J
     rcases(ki _ _).mp J with q |q
     .show rX (λp G z=>lost_by (v.ps p G) (λj e=>e) (λj e=>e.imp id λu=>by rw[a,u];rfl) z) (l.2 r (h.ms.mem_iff.mpr f) q)
     .show rX (λp G z=>lost_by (by rw[d];show v.ps p G) (λj e=>?_) (λj e=>?_) z) (g.up r f q)
      .grind
      .rw[a]
       rcases e with e |e
       .rw[b]at e;split at e
        .rename_i u;show .inr (by rw[u];rfl)
        .show .inl e
       .show .inr (by rw[e];show oH _)
   show g.no i hi ?_;rw[b,if_pos (A _ i L (by rw[a,hi];show oH _))]
def W9(hr:∀r∈B,RuK n r)(hz:Z B<=1000)(h:SpJ n c X3 B s)(g:Jr B s)(a:(bM B s).1=ab):Jr B (bM B s).2:=by
 have(e,f,pm,b):=h.rem' (fD.of hr hz h.ms);unfold bM at a ⊢
 cases d:inL s.es (cm s.es s.ms).1 with
 |cons x C=>rw[d]at a;nomatch a
 |nil=>show KP hr e (tI f.1 d b) g
def KQ{n c X3:Nat}{B:LRu}(hr:∀r∈B,RuK n r)(hz:Z B<=1000):∀(k:Nat) (s:Spt),SpJ n c X3 B s->Me c s<k->Jr B s->(stF B c k s).1=ab->Jr B (stF B c k s).2/\(stF B c k s).2.wt=[]/\qG B (stF B c k s).2.es
 | 0,_,_,h,_,_=>absurd h (iF _)
 |k+1,s,h,hk,hj,he=>by
  have l:=tE hr _ s h (di _);have f:=KO hr _ s h (di _) hj;unfold stF at he ⊢;generalize lrF B _ s=R at l f he ⊢
  by_cases b:R.1.isSome=ac
  .simp_all
  .rw[if_neg b]at he ⊢;have(g,q,u,v,i,w):=wQ hr hz l.ok;have j:=W9 hr hz l.ok (f (none_of b));have pg:=W8 hr hz l.ok;have p:=l.le;generalize bM B R.2=P at *
   by_cases a:(P.1.isSome || P.2.wt.isEmpty)=ac
   .grind
   .rw[if_neg a]at he ⊢;have d:=none_of λe=>a (by rw[e];rfl);have h2:P.2.wt≠[]:=λe=>a (by grind);have m:=i d (l.no (none_of b)) h2;show KQ hr hz k P.2 g (by lia) (j d) he
def Ind(bs:LLP)(tw:Wt)(j:Nat):Prop:=∀p,cn tw p (ac,j,)=if p∈bs.getD j [] then 1 else 0
structure Dw(B:LRu)(bs:LLP)(tw:Wt):Prop where
 ru:∀i,i<Z B->Wch B bs tw (af,i,)
 br:∀j,j<Z bs->Ind bs tw j\/∃j2,j<j2/\j2<Z bs/\∀p∈bs.getD j2 [],p∈bs.getD j []
def Xb{p q:Pr}{z:Wy}(h:z∈look tw q):z∈look (gM p y tw) q:=by
 rw[tm]
 grind
def EJ{b:Bool}{q:Pr}{y z:Wy}:∀(ts:LI0) {tw:Wt},z∈look tw q->z∈look (ts.foldl (λtw t=>gM (t,b,) y tw) tw) q
 | [],_,h=>h
 |t::ts,tw,h=>EJ ts (Xb h)
def w6{q:Pr}{y z:Wy}:∀(ps:List Prt) {tw:Wt},z∈look tw q->z∈look (ga y ps tw) q
 | [],_,h=>h
 |p::ps,tw,h=>w6 ps (EJ _ h)
def KR{y:Wy}:∀(ps:List Prt) {tw:Wt} {p:Prt} {t:Int},p∈ps->t∈nmL p->y∈look (ga y ps tw) (t,gW p,)
 | [],_,_,_,h,_=>nomatch h
 |q::ps,tw,p,t,h,ht=>by
  rcases bc.mp h with e |e
  .show w6 ps ?_;rw[<- e]
   have gen:∀(ts:LI0) tw,t∈ts->y∈look (ts.foldl (λtw t=>gM (t,gW p,) y tw) tw) (t,gW p,):=by
    intro ts
    induction ts with
    |nil=>intro tw h;cases h
    |cons u ts a=>
     intro tw h
     rcases bc.mp h with e |e
     .show EJ ts ?_;rw[tm,if_pos (by rw[e])]
      grind
     .grind
   show gen _ tw ht
  .show KR ps e ht
def KS{q:Pr}{z:Wy}:∀(B:LRu) (i:Nat) {tw:Wt},z∈look tw q->z∈look (oq i B tw) q
 | [],_,_,h=>h
 |r::B,i,tw,h=>KS B _ (w6 _ h)
def KU:∀(B:LRu) (i j:Nat) (tw:Wt) (r:Rul),B[j]?=aa r->∀p∈grd r,∀t∈nmL p,(af,i+j,)∈look (oq i B tw) (t,gW p,)
 | [],_,_,_,_,h,_,_,_,_=>by cases h
 |r'::B,i,0,tw,r,h,p,hp,t,ht=>by
  cases h
  show KS B _ (KR _ hp ht)
 |r'::B,i,j+1,tw,r,h,p,hp,t,ht=>by
  have:=KU B (i+1) j (ga (af,i,) (grd r') tw) r h p hp t ht;rw[show i+1+j=i+(j+1) by lia]at this;show this
def Xc(es:LOB)(B:LRu):Dw B [] (spT es B).tw:=by
 show(λi hi p a t c=>?_,λj b=>absurd b (iF _))
 have e:bS B [] (af,i,)=grd B[i]:=by
  change((B[i]?).map grd).getD []=_;rw[b7 hi];rfl
 rw[e]at a;have:=KU B 0 i [] B[i] (b7 hi) p a t c;rw[lA]at this;show this
def KW{bs:LLP}(a:∀b∈bs,b.Nodup)(p:Pr)(i:Nat):∀(X2:List Wy) (tw:Wt),cn (X2.foldl (jM bs) tw) p (af,i,)=cn tw p (af,i,)
 | [],_=>rfl
 |y::X2,tw=>by
  rw[fQ,KW a p i X2,qy a,if_neg (λx=>by rw[<- x.2.2]at x;cases x.1)]
def Dw.bar{bs:LLP}{b:List Pr}(h:Dw B bs tw)(k:d7 c B.length bs tw)(bk:∀b∈bs,df n b)(m:df n b):Dw B (bs++[b]) (ga (ac,Z bs,) (brg b) (mj bs tw b)):=by
 have a:=λb q=>(bk b q).pd;show(λi hi p d t u=>?_,λj r=>?_)
 .have:=h.ru i hi p d t u;show w6 _ (gY.mpr ?_);unfold mj;rw[KW a];show gY.mp this
 .rw[aV,gc]at r;unfold Ind
  by_cases e:j=Z bs
  .show .inl λp=>?_;rw[ml,if_pos e,e]
   have l:cn _ p (ac,Z bs,)=0:=Nat.eq_zero_of_not_pos λq=>by
    have:Z bs<Z bs:=fA.mp ((k.dropped a b).vl p _ (gY.mpr q));show gH _ this
   rw[En,l,lA,m.pd.count]
  .have f:j<Z bs:=by lia
   rw[ml,if_neg e]
   by_cases g:(ac,j,)∈wider tw b
   .show .inr (Z bs,f,by rw[aV,gc];lia,λp d=>?_);rw[ml,if_pos rfl]at d;show(k.wide g).2.2.1 p d
   .rcases h.br j f with q |⟨j2,q1,q2,q3⟩
    .show .inl λp=>?_;rw[ot λz=>e (t4 z).2];unfold mj;rw[wG a p _ _ _ g];show q p
    .show .inr (j2,q1,by rw[aV,gc];lia,λp d=>?_);rw[ml,if_neg (by lia)]at d;show q3 p d
structure jQ(B:LRu)(bs:LLP)(es:LOB):Prop where
 ru:∀r∈B,eI (grd r) es []
 br:∀b∈bs,eI (brg b) es []
 gr:qG B es
def eI.sub{g:List Prt}(h:eI G es S)(i:∀p∈G,p∈g):eI g es S:=(λq=>h.ns λp f=>q p (i p f),λt b a c d e=>h.np t b a c d λp f=>e p (i p f))
def Ind.wch{bs:LLP}(h:Ind bs tw j):Wch B bs tw (ac,j,):=λp c t a=>by
 have(z,hz,rfl):=aM.mp c
 have e:t=z.1/\gW (brP z)=z.2:=by
  have(u,b):=z
  cases b with
  |true=>show(bv.mp a,rfl)
  |false=>show(bv.mp a,rfl)
 rw[e.1,e.2];show gY.mpr ?_;rw[h z,if_pos hz]
 grind
def KY(hr:∀r∈B,RuK n r)(hz:Z B<=250)(J:SpJ n c X3 B s)(jr:Jr B s)(v:Dw B s.bs s.tw)(A:(stF B c (Me c s+1) s).1=ab)(h:(stF B c (Me c s+1) s).2.tw=s.tw):jQ B s.bs (stF B c (Me c s+1) s).2.es/\Jr B (stF B c (Me c s+1) s).2:=by
 have g:=(Ey hr (by lia) _ _ J (di _)).bs;have(x,j2,L):=KQ hr (by lia) _ _ J (di _) jr A;show(?_,x);generalize stF B c _ s=R at *
 have w:∀y∈gys B.length (Z s.bs),Wch B s.bs s.tw y->eI (bS B s.bs y) R.2.es []:=λy H G=>by
  rcases x y y (by rw[g];show H) (by rw[g,h];show G)with z |z
  .rw[j2]at z;nomatch z
  .rw[if_pos rfl,g]at z;show z
 have a:∀(m j:Nat),Z s.bs-j=m->j<Z s.bs->eI (brg (s.bs.getD j [])) R.2.es []:=by
  intro m
  induction m using Nat.strongRecOn  with
  |ind m I=>
   intro j hm d
   rcases v.br j d with z |⟨j2,z1,z2,z3⟩
   .show w _ (fA.mpr d) z.wch
   .show(I _ (by lia) j2 rfl z2).sub λp C=>?_;have(u,E,rfl):=aM.mp C;show aM.mpr (u,z3 u E,rfl)
 show(λr q=>?_,λb l=>?_,L)
 .have(i,hi):=oN q;have f:=(dh.mp hi).1;have:=w _ (fA.mpr f) (v.ru i f)
  have e:bS B s.bs (af,i,)=grd r:=by
   change((B[i]?).map grd).getD []=_;rw[hi];rfl
  rw[e]at this;show this
 .have(j,d):=oN l;have:=a _ j rfl ((dh.mp d).1);rw[bE,d]at this;show this
def KZ{bs:LLP}(d:y∈gys B.length (Z bs)):(∃r∈B,bS B bs y=grd r)\/∃b∈bs,bS B bs y=brg b:=by
 have(a,j):=y;have c:=fA.mp d
 cases a with
 |false=>
  show .inl (B[j],g9 c,?_);change((B[j]?).map grd).getD []=_
  grind
 |true=>
  show .inr (bs[j],g9 c,?_);change brg _=_
  grind
variable{F:LOB}
def qH{t:Nat}(f:cW e F)(h:F.getD t ab=aa b):cW (put e t b) F:=by
 show(by rw[ce];show f.len,λi=>?_)
 by_cases q:i=t
 .by_cases a:t<Z e
  .rw[q,fq e b a];grind
  .show .inl (by rw[q,bE,gb (by rw[ce];lia)];rfl)
 .rw[dz e b q];show f.at' i
def w9(F:LOB)(wo:LB0):LB0:=(bI (Z wo)).map λi=>wo.getD i af && !(F.getD i ab==aa af)
def xc(F:LOB)(wo:LB0)(i:Nat):(w9 F wo).getD i af=(wo.getD i af && !(F.getD i ab==aa af)):=by
 unfold w9
 grind
def jQ.grp{bs:LLP}(h:jQ B bs F)(hr:∀r∈B,RuK F.length r)(f:cW e F)(gl:Z wo=Z e)(g:∀r∈dO B,wo.getD r.hd.toNat af=ac->r.bodyLost e wo=ac)(i:Nat)(hi:wo.getD i af=ac):F.getD i ab=aa af:=by
 have d:Grp B F (w9 F wo):=by
  show(by unfold w9;rw[az,cN,gl,f.len],λj b e=>?_,λr hm c=>?_)
  .rw[xc,e,Bool.and_comm]at b
   nomatch b
  .rw[xc]at c;have(l,h2):=(b6 _ _).mp c;have(n,v):=cf.mp hm;show rX (λp m z=>lost_by (by rw[<- f.len];show(hr r n).ok.ps p m) (λj q=>?_) (λj q=>?_) z) (g r hm l)
   .rcases f.at' j with u |u
    .rw[q]at u;nomatch u
    .show u.trans q
   .by_cases a:F.getD j ab=aa af
    .show .inl a
    .rcases q with q |q
     .rcases f.at' j with u |u
      .rw[q]at u;nomatch u
      .show .inl (u.trans q)
     .show .inr ?_;rw[xc,q,beq_false_of_ne a];rfl
 have:=h.gr _ d i;rw[xc,hi,oG]at this;show eq_of_beq (by simpa using this)
def jQ.rt{bs:LLP}(h:jQ B bs F)(m:Z F=n)(hr:∀r∈B,RuK n r)(c:∀b∈bs,df n b)(f:cW e F)(j:w.nc=ac)(k:Rt n B bs e w):False:=by
 subst m
 cases w with
 |ch=>nomatch j
 |wd i=>nomatch j
 |gd y=>
  have ok:=oA hr c (y:=y);rw[f.len]at ok;have g:eG (bS B bs y) F:=λp d=>PM f (ok p d) (k.2 p d)
  rcases KZ k.1 with⟨r,hr,e⟩ |⟨b,c,e⟩
  .show(h.ru r hr).ns (e▸g)
  .show(h.br b c).ns (e▸g)
 |gp ks=>
  have(x,l,ex):=k.i;have(v,z):=k.nn x l;have:=h.grp hr f (by rw[qA,f.len]) (λr hm hd=>k.up r hm ?_) x.toNat ((mn v z).mpr l)
  .rcases f.at' x.toNat with u |u
   .rw[ex]at u;nomatch u
   .rw[ex,this]at u;nomatch u
  .have q:=cf.mp hm;have a:=(hr r q.1).ok.hd (by simpa using q.2);show(mn a.1 a.2).mp hd
structure Wrl(n:Nat)(B:LRu)(F:LOB):Prop where
 len:Z F=n
 fu:∀i,i<n->F.getD i ab≠ab
 ru:∀r∈B,¬eG (grd r) F
 gr:qG B F
def Bef(F G:LOB):Prop:=∃t:Nat,(∀j,j<t->F.getD j ab=G.getD j ab)/\F.getD t ab=aa ac/\G.getD t ab=aa af
variable{G:LOB}
def xf{b:List Pr}:eG (brg b) G↔∀y∈b,G.getD y.1.toNat ab=aa y.2:=by
 have one:∀y:Pr,(brP y).sure G=ac↔G.getD y.1.toNat ab=aa y.2:=λy=>by
  have(t,v):=y
  cases v <;> show beq_iff_eq
 show(λh y a=>(one y).mp (h _ (aM.mpr (y,a,rfl))),λh p c=>?_);have(y,a,rfl):=aM.mp c;show(one y).mpr (h y a)
def Wrl.quiet{P:List Prt}(h:Wrl n B G)(k:¬eG P G):eI P G []:=(k,λt b t0 t1 a _=>absurd (i7 a) (h.fu _ (by rw[h.len]at t1;lia)))
def Wrl.cl{bs:LLP}(h:Wrl n B G)(a:∀b∈bs,¬eG (brg b) G):jQ B bs G:=(λr hr=>h.quiet (h.ru r hr),λb q=>h.quiet (a b q),h.gr)
def EK(f:cW e G)(b:∀i,i<Z e->e.getD i ab≠ab):e=G:=by
 show ext_getElem f.len.symm λi a h2=>?_;have q:=(f.at' i).resolve_left (b i a);rw[bE,bE,b7 a,b7 h2]at q;show Eq.symm q
def bne{a:Bool}(h:¬a=b):a=!b:=by cases a <;> cases b <;> first |rfl |show absurd rfl h
def K0{bs:LLP}(hr:∀r∈B,RuK n r)(a:∀b∈bs,df n b)(h:Wrl n B G)(c:∀b∈bs,¬eG (brg b) G):∀(dn:List Ls) (u:LOB),Z u=n->cW u G->cW u F->(∀x∈dn,∀z,x.1=aa z->x.2.nc=ac/\(0<=z.1/\z.1<(n:Int))/\F.getD z.1.toNat ab=aa z.2)->tK n B bs u dn->G=F
 | [],_,_,_,_,_,d=>d.elim
 |(ab,w,)::l,u,hu,f,g,k,d=>by
  obtain⟨_,hR⟩:l=[]/\Rt n B bs u w:=d
  cases w with
  |ch=>show hR.elim
  |wd i=>
   have e:∀i,i<Z u->u.getD i ab≠ab:=λi hi=>hR i (by lia)
   show(EK f e).symm.trans (EK g e)
  |gd y=>show((h.cl c).rt h.len hr a f rfl hR).elim
  |gp ks=>show((h.cl c).rt h.len hr a f rfl hR).elim
 |(aa z,w,)::l,u,hu,f,g,k,d=>by
  obtain⟨q,hR,d⟩:opn u z.1=ac/\Rt n B bs (put u z.1.toNat (!z.2)) w/\tK n B bs (put u z.1.toNat z.2) l:=d;have(m,A,hz):=k _ aA z rfl;show K0 hr a h c l _ (by rw[ce];show hu) (qH f ?_) (qH g hz) (λx p=>k x (bp _ p)) d
  cases j:G.getD z.1.toNat ab with
  |none=>show absurd j (h.fu _ (by lia))
  |some v=>
   by_cases hv:v=z.2
   .rw[hv]
   .show((h.cl c).rt h.len hr a (qH f (by rw[j,bne hv])) m hR).elim
def xg:∀{X2:LSp},Z G=n->(∀x∈X2,G.getD x.1.1.toNat ab=aa x.1.2)->cW (bd n X2) G
 | [],hl,_=>(by rw[hl];show mx.symm,λi=>.inl (by change(hJ n ab).getD i ab=ab;rw[bE,oM];split <;> rfl))
 |x::X2,hl,h=>qH (xg hl λy a=>h y (bp _ a)) (h x aA)
def K1{t:Nat}:∀{X2:LSp},(∀x∈X2,x.1.1.toNat≠t)->(bd n X2).getD t ab=ab
 | [],_=>by change(hJ n ab).getD t ab=ab;rw[bE,oM];split <;> rfl
 |x::X2,h=>by
  rw[bd,dz _ _ λq=>h x aA q.symm];show K1 λy a=>h y (bp _ a)
def K2{x:Stp}(a:x.1.1.toNat<n):∀{X2:LSp},x∈X2->(bd n X2).getD x.1.1.toNat ab≠ab
 |y::X2,h=>by
  rw[bd]
  by_cases e:x.1.1.toNat=y.1.1.toNat
  .rw[e,fq _ _ (by rw[fE];lia)];show λq=>nomatch q
  .rw[dz _ _ e]
   rcases bc.mp h with q |q
   .show absurd (by rw[q]) e
   .show K2 a q
def K3{d g:Type}{f:d->g}:∀{l:List d},(l.map f).Nodup->∀{a b:d},a∈l->b∈l->f a=f b->a=b
 |c::l,h,a,b,ha,hb,e=>by
  rw[bO,b8]at h
  rcases bc.mp ha with p |p <;> rcases bc.mp hb with q |q
  .rw[p,q]
  .show absurd (aM.mpr (_,q,by rw[<- e,p])) h.1
  .show absurd (aM.mpr (_,p,by rw[e,q])) h.1
  .show K3 h.2 p q e
variable{bar:List Pr}
def EL{bs:LLP}(hr:∀r∈B,RuK n r)(m:∀b∈bs,df n b)(h:Wrl n B G)(A:∀b∈bs,¬eG (brg b) G)(tr:Tr n B bs st)(k:jP n B bs st bar dn)(c:eG (brg bar) G):G=bd n st:=by
 have c:=xf.mp c
 have val:∀y∈st,(bd n st).getD y.1.1.toNat ab=aa y.1.2:=λy a=>by
  have(p,r,rfl):=mE a;show wY tr
 have d:∀z∈bar,∃y∈st,y.1=z/\y.2.nc=af:=λz hz=>by
  have(y,a,q):=qE (k.bl.subset hz);show(y,hU.mp a,q)
 have g:∀y∈bar.map (λz=>(z,Wh.ch,)),∃z∈bar,(z,Wh.ch,)=y:=λy a=>aM.mp a
 have f1:cW (bd n (bar.map λz=>(z,Wh.ch,))) G:=xg h.len λy a=>by
  have(z,hz,rfl):=g y a;show c z hz
 show K0 hr m h A dn _ (fE n _) f1 (xg (fE n _) λy a=>?_) (λy a z f=>?_) (k.rl _ (fE n _) (λz hz=>?_) λy a z f=>?_)
 .have(z,hz,rfl):=g y a;have(v,hv,rfl,_):=d z hz;show val v hv
 .have(v,hv,rfl,l,e):=k.dt y a z f;show(l▸e,jO tr hv,val v hv)
 .have(v,hv,rfl,_):=d z hz;have:=jO tr hv;show((f1.at' _).resolve_left (K2 (x:=(v.1,Wh.ch,)) (by change S v.1.1<n;lia) (aM.mpr (_,hz,rfl)))).symm.trans (c _ hz)
 .have(v,hv,rfl,_,e):=k.dt y a z f;show tL (K1 λu C q=>?_);have(z,hz,rfl):=g u C;have(w,j,rfl,i):=d z hz;have E:=jO tr hv;have H:=jO tr j;have q:S w.1.1=S v.1.1:=q;rw[K3 (oB tr) j hv (by lia),e]at i
  nomatch i
def K4{bs:LLP}(hr:∀r∈B,RuK n r)(m:∀b∈bs,df n b)(h:Wrl n B G)(p:∀b∈bs,¬eG (brg b) G):∀{st:LSp},Tr n B bs st->cW (bd n st) G\/∃t:Nat,(∀j,j<t->(bd n st).getD j ab=G.getD j ab/\(bd n st).getD j ab≠ab)/\(bd n st).getD t ab=aa ac/\G.getD t ab=aa af
 | [],_=>.inl (xg h.len λ_ q=>nomatch q)
 |x::st,tr=>by
  have u:=tr.2.t0;have w:=tr.2.t1
  rcases K4 hr m h p tr.1 with f |⟨t,a,b,c⟩
  .cases d:G.getD x.1.1.toNat ab with
   |none=>show absurd d (h.fu _ (by lia))
   |some v=>
    by_cases hv:v=x.1.2
    .show .inl (qH f (by rw[d,hv]))
    .rcases tr.2.ok with⟨_,g,l⟩ |⟨g,l⟩
     .show .inr (S x.1.1,λj i=>?_,?_,?_)
      .rw[bd,dz _ _ (by lia)];have hn:=l j (by lia);show(((f.at' j).resolve_left hn).symm,hn)
      .rw[bd,fq _ _ (by rw[fE];lia),g]
      .rw[d,bne hv,g];rfl
     .show((h.cl p).rt h.len hr m (qH f (by rw[d,bne hv])) g l).elim
  .have ne:∀j,(bd n st).getD j ab≠ab->(bd n (x::st)).getD j ab=(bd n st).getD j ab:=λj q=>dz _ _ λe=>q (by rw[e];show i7 tr.2.op);show .inr (t,λj i=>?_,?_,c)
   .rw[ne j (a j i).2];show a j i
   .rw[ne t (by rw[b];show λq=>nomatch q)];show b
structure IW(n:Nat)(B:LRu)(s:Spt)(st:LSp)(Fs:List (LOB)):Prop where
 wr:∀F∈Fs,Wrl n B F/\∃b∈s.bs,eG (brg b) F
 br:∀G,Wrl n B G->G∉Fs->∀b∈s.bs,¬eG (brg b) G
 od:Fs.Pairwise Bef
 lt:∀F∈Fs,∀G,Wrl n B G->G∉Fs->Bef F G
 cp:∀A x T,st.reverse=A++x::T->x.2.nc=af->jQ B s.bs (bd n A.reverse)
 dw:Dw B s.bs s.tw
 jr:Jr B s
variable{s1:Spt}{Fs:List (LOB)}
def IW.cp1(w:IW n B s st Fs)(e:Se n c0 X5 X3 B s s1 st st1)(h:st1.reverse=A++x::T)(c:x.2.nc=af):jQ B s.bs (bd n A.reverse):=by
 have(xt,rfl,hn):=e.xt;have no:x∉xt.reverse:=λq=>by rw[hn x (hU.mp q)]at c;nomatch c
 rw[mD]at h
 rcases append_eq_append_iff.mp h with⟨a,d,b⟩ |⟨a,d,b⟩
 .show absurd (by rw[b];simp) no
 .cases a with
  |nil=>show absurd (by rw[oS]at b;rw[<- b];simp) no
  |cons y a=>
   cases b;show w.cp _ _ _ d c
variable{Fs':List (LOB)}
def IW.bk(P:Par n c0 X5 X3 B)(h:Hd n c0 X5 X3 B s st)(w:IW n B s st Fs)(e:Se n c0 X5 X3 B s (aK B X5 s).2 st st1)(k:jP n B s.bs st1 bar dn)(p:qF st1.reverse bar A x T)(q:Clo n (aK B X5 s).2 s2 bar dn A)(sub:∀F∈Fs',F∈Fs\/(Wrl n B F/\eG (brg bar) F))(sup:∀F∈Fs,F∈Fs')(od:Fs'.Pairwise Bef)(lt:∀F∈Fs',∀G,Wrl n B G->G∉Fs'->Bef F G)(new:∀G,Wrl n B G->G∉Fs'->¬eG (brg bar) G):IW n B s2 A.reverse Fs':=by
 have i:=e.t.tr;have bk:=wZ i k.bl;have E:s2.bs=s.bs++[bar]:=by rw[q.bs,e.bs]
 have cA:=w.cp1 e p.e p.nc;show(λF hF=>?_,λG hG hn b d=>?_,od,lt,λl u f h2 g=>?_,?_,λy0 y m hw=>?_)
 .rw[E]
  rcases sub F hF with z |⟨z1,z2⟩
  .have(a,b,d,c):=w.wr F z;show(a,b,bX _ d,c)
  .show(z1,bar,cq _ aA,z2)
 .rw[E]at d
  rcases bw.mp d with z |z
  .show w.br G hG (λq=>hn (sup G q)) b z
  .rw[bv.mp z];show new G hG hn
 .rw[jb]at h2;subst h2;have Q:=p.e;rw[cO]at Q;have N:=w.cp1 e Q g;rw[E];show(N.ru,λb d=>?_,N.gr)
  rcases bw.mp d with z |z
  .show N.br b z
  rw[bv.mp z]
  have er:st1=(u::f++x::T).reverse++l.reverse:=by
   rw[<- mD,<- jb (as:=st1),Q]
  rw[er]at i;have op:=(i9 _ i).2.2
  have L:∀{y:Pr} {X2:LSp},y∈chs X2->(∀v∈X2,v∈u::f++x::T)->(bd n l.reverse).getD y.1.toNat ab=ab:=λ{y X2} m hs=>by
   have(v,hv,rfl,_):=qE m;show op v (hU.mpr (hs v hv))
  have(b0,z,U,_,hz,h0,hl):=p.br
  have C:chs (l++u::f)=chs l++u.1::chs f:=by
   unfold chs;rw[km,qN (by rw[g];rfl),bf,bO]
  have Y:b0≠[]:=λq=>by have:=h0 q;rw[C]at this;simp at this
  obtain⟨b1,y,rfl⟩:∃b1 y,b0=b1++[y]:=(_,_,(dropLast_concat_getLast Y).symm);have(A',eA):=hl y (by simp)
  have m:y∈chs (u::f):=by
   have M:(chs l++u.1::chs f).getLast?=aa y:=by rw[<- C,eA];simp
   rw[getLast?_append,getLast?_cons]at M;have M:=cP M;rw[mo,g,<- M]
   cases hq:(chs f).getLast? with
   |none=>show aA
   |some v=>show bp _ (mem_of_getLast? hq)
  have oy:=L m λv hv=>bX _ hv;have oz:=L hz λv hv=>cq _ hv;have my:y∈bar:=by rw[U];simp
  have mz:z∈bar:=by rw[U];simp
  have ne:y.1≠z.1:=λq=>by
   have:=bk.nd;rw[U,bf,bf]at this;show(eV.mp this).2.2 y.1 (by simp) z.1 (by simp) q
  have ry:=bk.nn y my;have rz:=bk.nn z mz;show(λq=>?_,λt b t0 t1 ho q=>?_)
  .have:=xf.mp q z mz;rw[oz]at this
   nomatch this
  .have one:∀v∈bar,(bd n l.reverse).getD v.1.toNat ab=ab->S v.1=S t:=λv hv ov=>oI λH=>by
    have:=xf.mp q v hv;rw[dz _ _ H,ov]at this
    nomatch this
   have a:=one y my oy;have b:=one z mz oz
   lia
 .rw[E,q.tw,e.bs,e.tw];show w.dw.bar h.tw h.J.bk bk
 .rw[E]at m ⊢;have(a,j):=y
  by_cases ey:(a,j,)=(ac,Z s.bs,)
  .show .inl (by rw[q.wt,ey,e.bs];show aA)
  .have I:(a,j,)∈gys B.length (Z s.bs)/\bS B (s.bs++[bar]) (a,j,)=bS B s.bs (a,j,):=by
    have hm:=fA.mp m
    cases a with
    |false=>show(fA.mpr hm,rfl)
    |true=>
     have hm:j<Z (s.bs++[bar]):=hm;rw[aV,gc]at hm;have hj:j≠Z s.bs:=λq=>ey (by rw[q]);show(fA.mpr (by change j<Z s.bs;lia),?_);change brg _=brg _;rw[ml,if_neg hj]
   show .inr ?_;rw[I.2,q.es]
   have:eI (bS B s.bs (a,j,)) (bd n A.reverse) []:=by
    rcases KZ I.1 with⟨r,hr,H⟩ |⟨b,d,H⟩
    .rw[H];show cA.ru r hr
    .rw[H];show cA.br b d
   split <;> show this
def IW.new(P:Par n c0 X5 X3 B)(h:Hd n c0 X5 X3 B s st)(w:IW n B s st Fs)(e:Se n c0 X5 X3 B s (aK B X5 s).2 st st1)(u:(aK B X5 s).1=ab)(ha:(aK B X5 s).2.es.any (·==ab)=af):Wrl n B (aK B X5 s).2.es/\(aK B X5 s).2.es∉Fs/\∀G,Wrl n B G->G∉Fs->G≠(aK B X5 s).2.es->Bef (aK B X5 s).2.es G:=by
 have cl:jQ B s.bs (aK B X5 s).2.es:=(KY P.hr P.hz h.J w.jr w.dw u e.tw).1
 have fu:∀i,i<(aK B X5 s).2.es.length->(aK B X5 s).2.es.getD i ab≠ab:=λi hi q=>by
  rw[bE,b7 hi]at q;have q:(aK B X5 s).2.es[i]=ab:=q;show any_eq_false.mp ha _ (g9 _) (by rw[q];rfl)
 show((e.J.es,λi hi=>fu i (by rw[e.J.es];show hi),λr hr=>(cl.ru r hr).ns,cl.gr),λq=>?_,λG g hn ne=>?_)
 .have(_,b,l,m):=w.wr _ q;show(cl.br b l).ns m
 .have d:=e.t.tr;rw[e.bs]at d;have es:=e.t.es
  rcases K4 P.hr h.J.bk g (w.br G g hn) d with f |⟨t,a,b,c⟩
  .rw[<- es]at f;show absurd (EK f fu).symm ne
  .rw[<- es]at a b;show(t,λj p=>(a j p).1,b,c)
def Xd(P:Par n c0 X5 X3 B):Car n c0 X5 X3 B (λs st fd=>∃Fs:List (LOB),fd=Fs.map wOf/\IW n B s st Fs) λ_ fd=>∃Fs:List (LOB),fd=Fs.map wOf/\(∀G,G∈Fs↔Wrl n B G)/\Fs.Pairwise Bef:=by
 have i:∀{s s1:Spt} {st st1:LSp},Se n c0 X5 X3 B s s1 st st1->Tr n B s.bs st1:=λe=>by have:=e.t.tr;rwa [e.bs]at this
 have wh:∀{s:Spt} {st st1:LSp} {bar:List Pr} {dn:List Ls} {d:D} {Fs:List (LOB)},Hd n c0 X5 X3 B s st->IW n B s st Fs->Se n c0 X5 X3 B s (aK B X5 s).2 st st1->(aK B X5 s).1=aa d->jP n B s.bs st1 bar dn->∀G,Wrl n B G->G∉Fs->¬eG (brg bar) G:=λh w e g k G c hn v=>by
  have L:=w.br G c hn;have:=EL P.hr h.J.bk c L (i e) k v;have(_,_,E):=h.se P;have(wh,_,a,b):=E _ g;rw[e.t.es,<- this]at b;show(c.cl L).rt c.len P.hr h.J.bk (cW.refl _) a b
 show(?_,?_,?_,?_,?_)
 .rintro s st st1 _ t h ⟨Fs,rfl,w⟩ e g t1 N;have(cl,jr):=KY P.hr P.hz h.J w.jr w.dw g e.tw;have cl:jQ B s.bs (aK B X5 s).2.es:=cl;show(Fs,rfl,by change ∀F∈Fs,_/\∃b∈(aK B X5 s).2.bs,_;rw[e.bs];show w.wr,by change ∀G,_->_->∀b∈(aK B X5 s).2.bs,_;rw[e.bs];show w.br,w.od,w.lt,λA x T h2 Y=>?_,by change Dw B (aK B X5 s).2.bs (aK B X5 s).2.tw;rw[e.bs,e.tw];show w.dw,Jr.of (y0:=(af,0,)) (Jq.pt P.hr e.J (λy H U=>?_) (by lia) (by lia) (tL (by rw[cY];show N))))
  .change jQ B (aK B X5 s).2.bs _;rw[e.bs];rw[jc]at h2
   rcases append_eq_append_iff.mp h2 with⟨a,j,r⟩ |⟨a,j,r⟩
   .cases a with
    |nil=>
     rw[bT]at j;rw[j,jb,<- e.t.es]
     show cl
    |cons y a=>simp at r
   .cases a with
    |nil=>
     rw[bT]at j;rw[<- j,jb,<- e.t.es]
     show cl
    |cons y a=>
     cases r;show w.cp1 e j Y
  .rcases jr y y H U with z |z
   .show .inl z
   .rw[if_pos rfl]at z;show .inr (z.more λu Q=>nomatch Q)
 .rintro s st st1 _ w0 bar dn A x T s2 h ⟨Fs,rfl,w⟩ e g _ k p q _ _;show(Fs,rfl,w.bk P h e k p q (λF f=>.inl f) (λF f=>f) w.od w.lt (wh h w e g k))
 .rintro s st st1 _ w0 dn s2 h ⟨Fs,rfl,w⟩ e g _ k _;show(Fs,rfl,λG=>⟨λq=>(w.wr G q).1,λq=>oI λhn=>wh h w e g k G q hn λp C=>nomatch C⟩,w.od)
 .rintro s st st1 _ bar dn A x T s2 h ⟨Fs,rfl,w⟩ e g ha k p q _ _;have(m,I,M):=w.new P h e g ha;have es:=e.t.es;have lo:∀G,Wrl n B G->G∉Fs++[(aK B X5 s).2.es]->G∉Fs/\G≠(aK B X5 s).2.es:=λG _ hn=>(λq=>hn (bX _ q),λq=>hn (by rw[q];simp));show(Fs++[(aK B X5 s).2.es],by rw[bf];rfl,w.bk P h e k p q (λF f=>?_) (λF f=>bX _ f) (mC.mpr (w.od,pairwise_singleton _ _,λF f G c=>?_)) (λF f G c hn=>?_) λG c hn v=>?_)
  .rcases bw.mp f with z |z
   .show .inl z
   .rw[bv.mp z];show .inr (m,xf.mpr λy H=>?_);have(a,b):=EG (i e) (k.bl.subset H);rw[es,b,a]
  .rw[bv.mp c];show w.lt F f _ m I
  .have(l,h2):=lo G c hn
   rcases bw.mp f with z |z
   .show w.lt F z G c l
   .rw[bv.mp z];show M G c l h2
  .have(l,h2):=lo G c hn;show h2 (es▸EL P.hr h.J.bk c (w.br G c l) (i e) k v)
 .rintro s st st1 _ dn s2 h ⟨Fs,rfl,w⟩ e g ha k _;have(m,I,M):=w.new P h e g ha;show(Fs++[(aK B X5 s).2.es],by rw[bf];rfl,λG=>(λq=>?_,λq=>oI λhn=>?_),mC.mpr (w.od,pairwise_singleton _ _,λF f G c=>?_))
  .rcases bw.mp q with z |z
   .show(w.wr G z).1
   .rw[bv.mp z];show m
  .have l:G∉Fs:=λq=>hn (bX _ q);show hn (cq _ (by rw[EL P.hr h.J.bk q (w.br G q l) (i e) k (λp C=>nomatch C),<- e.t.es];show aA))
  .rw[bv.mp c];show w.lt F f _ m I
def Xf(P:Par n (64*q*Z B) X5 X3 B)(i:∀r∈B,Z (grd r)<=q):∃(Fs:List (LOB)) (pp:LD),(∀G,G∈Fs↔Wrl n B G)/\Fs.Pairwise Bef/\Z Fs<=3 ^ n/\pp≠[]/\∀most:Int,0<=most->m_0 [pl0 n B,.int most]=aa (if (Z Fs:Int)<=most then .tup [wsD (Fs.map wOf),.bl ac,.lst pp] else .tup [wsD ((Fs.map wOf).take most.toNat),.bl af,.lst []]):=by
 have f:∀y∈gys B.length 0,y∈(s00 n B).wt:=λy b=>by
  have(a,j):=y;have e:=fA.mp b
  cases a with
  |true=>show absurd e (iF _)
  |false=>show aM.mpr (j,fG.mpr e,rfl)
 have(ws,s,(Fs,rfl,g,h2),h,c,d):=WU P i (Xd P) ([],rfl,(λ_ q=>nomatch q),(λ_ _ _ _ q=>nomatch q),List.Pairwise.nil,(λ_ q=>nomatch q),(λA x T q _=>by simp at q),Xc _ B,λy0 y b _=>.inl (f y b));rw[az]at c d;show(Fs,s.pp,g,h2,c,h,d)
def K5(C:LI0)(t:Int):(C.any λx=>x==t)=decide (t∈C):=by
 rw[iD,any_eq_true,decide_eq_true_iff];show(λ(x,h,e)=>beq_iff_eq.mp e▸h,λh=>(t,h,beq_self_eq_true t))
def mq(C:LI0)(t:Int):dIn (.int t) (.lst (C.map D.int))=aa (.bl (decide (t∈C))):=by
 rw[<- K5];change Option.map D.bl (if _=ac then aa _ else ab)=_;rw[if_pos (by rw[all_map];show(b6 _ _).mpr (rfl,all_eq_true.mpr λ_ _=>rfl)),any_map];rfl
def EM(C:LI0)(t:Int):jw (.int t) (.lst (C.map D.int))=aa (.bl (!decide (t∈C))):=by rw[Kd,K5]
abbrev hW(R W:LI0):Prt->Bool
 |.inn t=>decide (t∈R)
 |.out t=>!decide (t∈W)
 |.least k L=>decide (k<=wS L R)
 |.most k L=>decide (wS L W<=k)
def K6(p:Int->Bool)(L:LII)(z:Int×Int):bQ p (L++[z])=bQ p L+(if p z.1=ac then z.2 else 0):=by
 unfold bQ;rw[km,bf,sum_append]
 congr 1
 cases h:p z.1 with
 |true=>simp[h]
 |false=>simp[h]
def K7(L:LII)(S:LI0):vM [.lst (L.map itD),.lst (S.map D.int)]=aa (.int (wS L S)):=by
 apply gA;apply aj;show bn rfl ?_;apply aj;show du L itD (λpre M=>∃a b,M=[.im (.lst (L.map itD)),.im (.lst (S.map D.int)),.im (.int (wS pre S)),a,b]) rfl (_,_,rfl) ?_ ?_
 .rintro pre z post M ex ⟨a,b,rfl⟩;show(_,rfl,?_);show aS (bA (ao rfl rfl (mq S z.1))) (λh=>?_) λh=>bH (.im (.int z.1),.im (.int z.2),?_)
  .show(_,rfl,.im (.int z.1),.im (.int z.2),?_);rw[show wS (pre++[z]) S=wS pre S+z.2 by unfold wS;rw[K6,if_pos h]];rfl
  .rw[show wS (pre++[z]) S=wS pre S by unfold wS;rw[K6,if_neg (by rw[h];decide),Int.add_zero]];rfl
 .rintro M ⟨a,b,rfl⟩;show(_,rfl,dH rfl)
def Xg(R W:LI0)(p:Prt):BS [p.toD,.lst (R.map D.int),.lst (W.map D.int)]=aa (.bl (hW R W p)):=by
 cases p with
 |inn t=>show cV (u5 (u6 rfl (cU (ao rfl rfl (mq R t)))))
 |out t=>show cV (j8 (nK rfl rfl) (u5 (u6 rfl (cU (ao rfl rfl (EM W t))))))
 |least k L=>show cV (j8 (nK rfl rfl) (j8 (nK rfl rfl) (u5 (u6 rfl (cU (ao (aH rfl (K7 L R)) rfl rfl))))))
 |most k L=>show cV (j8 (nK rfl rfl) (j8 (nK rfl rfl) (j8 (nK rfl rfl) (cU (ao (aH rfl (K7 L W)) rfl rfl)))))
def K8(R W:LI0)(r:Rul)(a:Z r.ps<=3):sG [r.toD,.lst (R.map D.int),.lst (W.map D.int)]=aa (.bl (r.ps.all (hW R W))):=by
 show cV (cU (aH (ap (bV (gt r.ps Prt.toD (λp=>D.bl (hW R W p)) rfl (by lia) λp _=>fZ rfl rfl (aH rfl (Xg R W p)))) rfl) ?_));have:=PK (r.ps.map (hW R W));rw[map_map,all_map]at this;show this
def brk(r:Rul)(W:LI0):Bool:=match r.w with
 |.may=>af
 |.make=>r.ps.all (hW W W) && !decide (r.hd∈W)
 |.never=>r.ps.all (hW W W)
def Xh(W:LI0)(r:Rul)(d:Z r.ps<=3):vN [r.toD,.lst (W.map D.int)]=aa (.bl (brk r W)):=by
 have c:=K8 W W r d;have(w,hd,ps):=r;have c:sG _=aa (.bl (ps.all (hW W W))):=c;have hn:=jB (cy (aH (f:=ag (ae 0) (ag (ae 1) (ag (ae 1) nZ))) (M:=eN 2 [Rul.toD (w,hd,ps),.lst (W.map D.int)]) rfl c) rfl);apply gA;apply aj;unfold brk
 cases w with
 |may=>show aS (b:=ac) (iT (a:=ac) rfl hn) (λ_=>dG rfl (dH rfl)) λz=>nomatch z
 |make=>
  cases h:ps.all (hW W W)with
  |false=>
   rw[h]at hn
   show aS (b:=ac) (iT (a:=af) rfl hn) (λ_=>dG rfl (dH rfl)) λz=>nomatch z
  |true=>
   rw[h]at hn
   show aS (b:=af) (iT (a:=af) rfl hn) (λz=>nomatch z) λ_=>bH (dG (u8 (a:=af) rfl (ao rfl rfl (EM W hd))) (dH rfl))
 |never=>
  cases h:ps.all (hW W W)with
  |false=>
   rw[h]at hn
   show aS (b:=ac) (iT (a:=af) rfl hn) (λ_=>dG rfl (dH rfl)) λz=>nomatch z
  |true=>
   rw[h]at hn;show aS (b:=af) (iT (a:=af) rfl hn) (λz=>nomatch z) λ_=>bH (dG (by unfold vOr;rfl) (dH rfl))
def K9:∀{H W:LI0},H.Nodup->(∀t∈H,t∈W)->Z H<=Z W
 | [],_,_,_=>cr _
 |t::H,W,nd,h=>by
  have(a,b):=b8.mp nd;have m:=h t aA;have:=K9 (W:=W.erase t) b λu c=>(mem_erase_of_ne (show u≠t from λe=>a (e▸c))).mpr (h u (bp _ c));rw[length_erase_of_mem m]at this;have:=length_pos_of_mem m;change Z H+1<=_;lia
structure Bld(B:LRu)(W H:LI0):Prop where
 nd:H.Nodup
 sb:∀t∈H,t∈W
 gr:∀S:Int->Prop,(∀r∈dO B,r.hd∈W->∀R:LI0,(∀t∈R,S t)->r.ps.all (hW R W)=ac->S r.hd)->∀t∈H,S t
def Xi{W:LI0}(hr:∀r∈B,Ru5 n r)(hl:Z B<=1000)(hw:Z W<60)(nw:W.Nodup):∃H:LI0,vO [pl0 n B,.lst (W.map D.int)]=aa (.lst ((cL H).map D.int))/\Bld B W H/\∀r∈dO B,r.hd∈W->r.hd∉H->r.ps.all (hW H W)=af:=by
 suffices h:∃d,vO _=aa d/\∃H:LI0,d=.lst ((cL H).map D.int)/\Bld B W H/\∀r∈dO B,r.hd∈W->r.hd∉H->r.ps.all (hW H W)=af by
  have(d,e,H,rfl,h):=h;show(H,e,h)
 have len:∀{H},Bld B W H->Z H<=Z W:=λb=>K9 b.nd b.sb;apply lX;apply aj;show eC rfl ?_;apply aj;show bn rfl ?_;apply aj;show p7 (λm M=>∃(H:LI0) (g:Bool) (i:Sl),M=[.im (pl0 n B),.im (.lst (W.map D.int)),.own (H.map D.int),.im (.bl g),i]/\Bld B W H/\(g=ac->Z W-Z H<m)/\(g=af->∀r∈dO B,r.hd∈W->r.hd∉H->r.ps.all (hW H W)=af)) ?_ _ 60 _ ⟨[],ac,_,rfl,⟨fH,(λ_ h=>nomatch h),λ_ _ _ h=>nomatch h⟩,λ_=>by lia,λz=>nomatch z⟩ (by decide);rintro m M ⟨H,g,i,rfl,bl,U,Y⟩;show(g,rfl,?_,?_)
 .rintro rfl;have U:=U rfl;apply aj;show bn rfl ?_;show du B Rul.toD (λpre M=>∃(c:LI0) (g:Bool) (i:Sl),M=[.im (pl0 n B),.im (.lst (W.map D.int)),.own (c.map D.int),.im (.bl g),i]/\Bld B W c/\(g=ac->Z H<Z c)/\(g=af->c=H/\∀r∈dO pre,r.hd∈W->r.hd∉H->r.ps.all (hW H W)=af)) (eB (bj rfl rfl rfl) rfl) (H,af,_,rfl,bl,(λz=>nomatch z),λ_=>⟨rfl,λ_ h=>nomatch h⟩) ?_ ?_
  .rintro pre r post M ex ⟨c,g,i,rfl,j,x,h2⟩;have p:r∈B:=by rw[ex];simp
   have J:=(hr r p).ln;have hl2:=len j;show(_,rfl,?_)
   have no:(r.w=.never\/r.hd∉W\/r.hd∈c\/r.ps.all (hW c W)=af)->∃(v:LI0) (E:Bool) (i:Sl),[Sl.im (pl0 n B),.im (.lst (W.map D.int)),.own (c.map D.int),.im (.bl g),.im r.toD]=[.im (pl0 n B),.im (.lst (W.map D.int)),.own (v.map D.int),.im (.bl E),i]/\Bld B W v/\(E=ac->Z H<Z v)/\(E=af->v=H/\∀q∈dO (pre++[r]),q.hd∈W->q.hd∉H->q.ps.all (hW H W)=af):=λq=>by
    show(c,g,_,rfl,j,x,λe=>?_);have(rfl,h2):=h2 e;show(rfl,λu hu a b=>?_);have(u1,A):=cf.mp hu
    rcases bw.mp u1 with z |z
    .show h2 u (cf.mpr (z,A)) a b
    .rw[bv.mp z]at a b A ⊢
     rcases q with q |q |q |q
     .rw[q]at A;nomatch A
     .show absurd a q
     .show absurd q b
     .show q
   by_cases f:r.w=.never
   .show aS (b:=af) ?_ (λz=>nomatch z) λ_=>bH (no (.inl f));have(w,hd,ps):=r;have f:w=.never:=f;subst f;unfold da;rfl
   have G:r∈dO B:=cf.mpr (p,bne_iff_ne.mpr f)
   have Q:r.toD=.tup [.str r.w.s,.int r.hd,.lst (r.ps.map Prt.toD)]:=by
    have(w,hd,ps):=r
    cases w with
    |never=>show absurd rfl f
    | _=>rfl
   have I:dNe (.str r.w.s) (.str "never")=aa (.bl ac):=by
    have(w,hd,ps):=r
    cases w with
    |never=>show absurd rfl f
    | _=>rfl
   show aS (b:=decide (r.hd∈W) && !decide (r.hd∈c)) ?_ (λz=>?_) λz=>bH (no ?_)
   .rw[Q];show iq (a:=ac) (bA (ao rfl rfl I)) (iq (bA (ao rfl rfl (mq W r.hd))) (bA (ao rfl rfl (EM c r.hd))))
   .have(C,N):=(b6 _ _).mp z;have C:=of_decide_eq_true C;have N:r.hd∉c:=by simpa using N
    show aS (cy (Hu rfl (K8 c W r J) rfl) rfl) (λy=>?_) λy=>bH (no (.inr (.inr (.inr y))));apply aj;rw[Q];show gz rfl rfl (by rw[az];lia) ?_;show bn rfl ⟨c++[r.hd],ac,_,by rw[bf];rfl,(?_,λt L=>?_,λS T t L=>?_),λ_=>?_,λz=>nomatch z⟩
    .show eV.mpr (j.nd,by simp,λa ha b hb e=>N ?_);rw[<- bv.mp hb,<- e];show ha
    .rcases bw.mp L with q |q
     .show j.sb t q
     .rw[bv.mp q];show C
    .have l:=j.gr S T
     rcases bw.mp L with q |q
     .show l t q
     .rw[bv.mp q];show T r G C c l y
    .rw[aV];change Z H<Z c+1
     cases g with
     |true=>show jS (x rfl)
     |false=>rw[(h2 rfl).1];show di _
   .rcases(Bool.and_eq_false_iff).mp z with q |q
    .show .inr (.inl (of_decide_eq_false q))
    .show .inr (.inr (.inl (by simpa using q)))
  .rintro M ⟨c,g,i,rfl,j,x,h2⟩;have:=len j
   cases g with
   |true=>show⟨Z W-Z c+1,by have:=x rfl;lia,c,ac,i,rfl,j,λ_=>by lia,λz=>nomatch z⟩
   |false=>
    have(rfl,h2):=h2 rfl;show(0,by lia,c,af,i,rfl,j,(λz=>nomatch z),λ_=>h2)
 .rintro rfl;have:=len bl;show nO rfl (iZ (HC rfl (by lia) bl.nd) (jI (H,rfl,bl,Y rfl)))
def La:∀(C ys:LI0),Z C=Z ys->cJ (deq 19) (C.map D.int) (ys.map D.int)=aa (C==ys)
 | [],[],_=>rfl
 | [],_::_,h=>by cases h
 | _::_,[],h=>by cases h
 |e::es,b::bs,h=>by
  have a:=La es bs (by simpa using h);change((deq 19 (.int e) (.int b)).bind λx=>(cJ (deq 19) (es.map D.int) (bs.map D.int)).map λr=>x && r)=_;rw[show deq 19 (.int e) (.int b)=aa (e==b)from rfl,a];rfl
def Xj(C ys:LI0):dEq (.lst (C.map D.int)) (.lst (ys.map D.int))=aa (.bl (C==ys)):=by
 change((if Z (C.map D.int)=Z (ys.map D.int) then cJ (deq 19) (C.map D.int) (ys.map D.int) else aa af):Option Bool).map D.bl=_;rw[az,az]
 by_cases h:Z C=Z ys
 .rw[if_pos h,La C ys h];rfl
 .rw[if_neg h]
  have:(C==ys)=af:=by
   cases q:C==ys with
   |false=>rfl
   |true=>show absurd (by rw[beq_iff_eq.mp q]) h
  rw[this];rfl
def shW(n:Nat)(W:LI0):LOB:=(bI n).map λi:Nat=>aa (decide ((i:Int)∈W))
def EN{W:LI0}:Z (shW n W)=n:=by unfold shW;rw[az,cN]
def jR{W:LI0}(h:0<=t/\t<(n:Int)):(shW n W).getD t.toNat ab=aa (decide (t∈W)):=by
 unfold shW;rw[bE,cz,qM (by lia)];change aa (decide ((S t:Int)∈W))=_;rw[show(t.toNat:Int)=t by lia]
def EO{W:LI0}(a:p.Ok n):p.sure (shW n W)=hW W W p:=by
 cases p with
 |inn t=>change(_==_)=decide _;rw[jR a];cases decide (t∈W) <;> rfl
 |out t=>change(_==_)=!decide _;rw[jR a];cases decide (t∈W) <;> rfl
 |least k L=>
  change decide (k<=_)=decide _;rw[jt,pW λz hz=>?_];have:=a.1 z hz;rw[jR (this.1,this.2.1)]
  cases decide (z.1∈W) <;> rfl
 |most k L=>
  change decide (_<=k)=decide _;rw[jt,pW λz hz=>?_];have:=a.1 z hz;rw[jR (this.1,this.2.1)]
  cases decide (z.1∈W) <;> rfl
def Lb{W:LI0}{R:LI0}(a:p.Ok n)(hR:∀t:Int,t∈R↔t∈W/\wo.getD t.toNat af=af):p.lost (shW n W) wo=!hW R W p:=by
 have key:∀t:Int,0<=t/\t<(n:Int)->(!((shW n W).getD t.toNat ab==aa af) && !wo.getD t.toNat af)=decide (t∈R):=λt h=>by
  rw[jR h,iD,decide_eq_true_iff,hR,b6]
  cases wo.getD t.toNat af <;> cases hd:decide (t∈W) <;> simp_all
 cases p with
 |inn t=>
  change(_ || _)=!decide (t∈R);rw[<- key t a]
  simp
 |out t=>change(_==_)=!!decide _;rw[jR a];cases decide (t∈W) <;> rfl
 |least k L=>
  change decide (_<k)=!decide (k<=_);rw[show bQ _ L=wS L R from pW λz hz=>key z.1 ((a.1 z hz).1,(a.1 z hz).2.1),<- decide_not]
  show decide_eq_decide.mpr Int.not_le.symm
 |most k L=>
  change decide (k<_)=!decide (_<=k);rw[<- decide_not,jt,pW λz hz=>?_]
  .show decide_eq_decide.mpr Int.not_le.symm
  .have:=a.1 z hz;rw[jR (this.1,this.2.1)]
   cases decide (z.1∈W) <;> rfl
def Xk{W:LI0}{R a:LI0}(b:p.Ok n)(h:∀t∈R,t∈a)(k:hW R W p=ac):hW a W p=ac:=by
 cases p with
 |inn t=>show decide_eq_true (h t (of_decide_eq_true k))
 |out t=>show k
 |most j L=>show k
 |least j L=>show decide_eq_true (tS (of_decide_eq_true k) (k6 λz hz=>((b.1 z hz).2.2,λq=>decide_eq_true (h _ (of_decide_eq_true q)))))
def Lc{W:LI0}(hr:r.Ok n):brk r W=ac↔eG (grd r) (shW n W):=by
 have d:r.ps.all (hW W W)=ac↔∀p∈r.ps,p.sure (shW n W)=ac:=by
  rw[all_eq_true];show(λh p c=>by rw[EO (hr.ps p c)];show h p c,λh p c=>by rw[<- EO (hr.ps p c)];show h p c)
 have(w,hd,ps):=r
 cases w with
 |may=>show((λh=>nomatch h),λh=>absurd (h _ aA) (by change ¬decide ((1:Int)<=0)=ac;decide))
 |never=>show d
 |make=>
  have e:(Prt.out hd).sure (shW n W)=!decide (hd∈W):=EO (hr.hd (by intro h;nomatch h));change(_ && _)=ac↔∀p∈ps++[.out hd],_;rw[b6,<- e];show(λ(a,b) p c=>?_,λh=>(d.mpr λp c=>h p (bX _ c),h _ (cq _ aA)))
  rcases bw.mp c with q |q
  .show d.mp a p q
  .rw[bv.mp q];show b
section
variable{W:LI0}
def Xl(hr:∀r∈B,Ru5 n r)(N:Z B<=1000)(hn:n<60)(j:∀t∈W,0<=t/\t<(n:Int))(L:W.Pairwise (· < ·)):∃b,BY [pl0 n B,.lst (W.map D.int)]=aa (.bl b)/\(b=ac↔Wrl n B (shW n W)):=by
 have J:W.Nodup:=L.imp λh e=>by lia
 have Y:Z W<=n:=ou J j;have(H,e,bl,cl):=Xi hr N (by lia) J
 have c:aw lV (ag (aR (bu 1 [1] (aW (mIx (ar 0) (kI 1))) (ay 0) kY (aw vN (ag (ae 0) (ag (ae 1) nZ))))) nZ) (eN 2 [pl0 n B,.lst (W.map D.int)])=aa (.bl (B.any λr=>brk r W)):=by
  show aH (ap (bV (gt B Rul.toD (λr=>D.bl (brk r W)) (eB (bj rfl rfl rfl) rfl) (by lia) λr q=>fZ rfl rfl (aH rfl (Xh W r (hr r q).ln)))) rfl) ?_;have:=GY (B.map λr=>brk r W);rw[map_map,any_map]at this;show this
 have G:(B.any λr=>brk r W)=af↔∀r∈B,¬eG (grd r) (shW n W):=by
  rw[any_eq_false];show(λh r q z=>h r q ((Lc (hr r q).ok).mpr z),λh r q z=>h r q ((Lc (hr r q).ok).mp z))
 have m:∀r∈dO B,Ru5 n r/\(0<=r.hd/\r.hd<(n:Int)):=λr q=>by
  have(a,b):=cf.mp q;show(hr r a,(hr r a).ok.hd (bne_iff_ne.mp b))
 have E:cL H=W↔qG B (shW n W):=by
  have M:cL H=W↔∀t∈W,t∈H:=(λh t q=>(iy t H).mp (by rw[h];show q),λh=>vh _ _ (k8 _) L λk=>by rw[iy];show(bl.sb k,h k));rw[M];show(λh wo g i=>?_,λh t q=>oI λhn=>?_)
  .cases hi:wo.getD i af with
   |false=>rfl
   |true=>
    have T:i<n:=by
     have:=g.len;rw[EN]at this;rw[<- this];show xy λq=>?_;rw[bE,gb q]at hi
     nomatch hi
    have l:=jR (W:=W) (t:=i) (n:=n) (by lia,by lia);rw[cY]at l;have Q:(i:Int)∈W:=oI λq=>g.no i hi (by rw[l,decide_eq_false q]);have:=(bl.gr (λt=>t∈W/\wo.getD t.toNat af=af) (λr q hd R hR v=>?_) i (h i Q)).2
    .rw[cY,hi]at this
     nomatch this
    .show(hd,?_)
     cases w:wo.getD r.hd.toNat af with
     |false=>rfl
     |true=>
      have(p,u,d):=any_eq_true.mp (g.up r q w);have ok:=(m r q).1.ok.ps p u;rw[Lb (R:=W.filter λt=>wo.getD t.toNat af==af) ok (λt=>by rw[cf,beq_iff_eq])]at d;rw[Xk ok (λt I=>cf.mpr ((hR t I).1,beq_iff_eq.mpr (hR t I).2)) (all_eq_true.mp v p u)]at d
      nomatch d
  .have wl:Z ((bI n).map λi:Nat=>decide ((i:Int)∈W/\(i:Int)∉H))=n:=by rw[az,cN]
   have f:∀{t:Int},0<=t/\t<(n:Int)->((bI n).map λi:Nat=>decide ((i:Int)∈W/\(i:Int)∉H)).getD t.toNat af=decide (t∈W/\t∉H):=λ{t} q=>by
    rw[bE,cz,qM (by lia)];change decide ((S t:Int)∈W/\(S t:Int)∉H)=_;rw[show(t.toNat:Int)=t by lia]
   have:=h _ (by rw[wl,EN],λi hi e=>?_,λr q hd=>?_) (S t)
   .rw[f (j t q),decide_eq_true (q,hn)]at this
    nomatch this
   .have T:i<n:=by
     rw[<- wl];show xy λq=>?_;rw[bE,gb q]at hi
     nomatch hi
    have x:0<=(i:Int)/\(i:Int)<n:=(by lia,by lia);have l:=jR (W:=W) x;have w:=f x;rw[cY]at l w;rw[w]at hi;rw[l,decide_eq_true (of_decide_eq_true hi).1]at e
    nomatch e
   .have(U,x):=m r q;rw[f x]at hd;have(A,C):=of_decide_eq_true hd;have ha:=cl r q A C;rw[all_eq_false]at ha;have(p,u,d):=ha;show any_eq_true.mpr (p,u,?_);rw[Lb (R:=H) (U.ok.ps p u) λt=>(λz=>(bl.sb t z,?_),λz=>?_)]
    .simpa using d
    .rw[f (j t (bl.sb t z))];show decide_eq_false λy=>y.2 z
    .rw[f (j t z.1)]at z;show oI λy=>of_decide_eq_false z.2 (z.1,y)
 show(!(B.any λr=>brk r W) && cL H==W,?_,?_)
 .apply gA;apply aj
  cases v:B.any λr=>brk r W with
  |true=>
   rw[v]at c
   show aS (b:=ac) (cy c rfl) (λ_=>dG rfl (dH rfl)) λz=>nomatch z
  |false=>
   rw[v]at c;show aS (b:=af) (cy c rfl) (λz=>nomatch z) λ_=>bH (dG (ao (aH rfl e) rfl (Xj _ _)) (dH rfl))
 .rw[b6,beq_iff_eq,E,xk,G];show(λ(a,b)=>(EN,λi hi=>?_,a,b),λh=>(h.ru,h.gr));have:=jR (W:=W) (t:=i) (n:=n) (by lia,by lia);rw[cY]at this;rw[this];show λq=>nomatch q
end
abbrev xh:Nat->List (LOB)
 | 0=>[[]]
 |n+1=>(xh n).map (aa ac::·)++(xh n).map (aa af::·)
def Ld:∀{n:Nat} {F:LOB},Z F=n->(∀i,i<n->F.getD i ab≠ab)->F∈xh n
 | 0,[],_,_=>aA
 |n+1,b::F,hl,h=>by
  have a:=Ld (n:=n) (F:=F) (Nat.succ.inj hl) λi hi=>h (i+1) (Nat.succ_lt_succ hi)
  cases b with
  |none=>show absurd rfl (h 0 (oU _))
  |some b=>
   cases b with
   |true=>show bX _ (aM.mpr (F,a,rfl))
   |false=>show cq _ (aM.mpr (F,a,rfl))
def Xm:∀n:_root_.Fin 6,∀F∈xh n.val,shW n.val (wOf F)=F/\(wOf F).Pairwise (· < ·)/\∀t∈wOf F,0<=t/\t<(n.val:Int):=by decide +kernel
def Xn{W:LI0}(d:W.Pairwise (· < ·))(e:∀t∈W,0<=t/\t<(n:Int)):BP [.lst (W.map D.int),.int n]=aa (.bl ac):=by
 apply gA;apply aj;show aS (b:=af) rfl (λz=>nomatch z) λ_=>bH ?_;apply aj;show bn rfl ?_;apply aj;show du W D.int (λpre M=>∃(a:Int) (c:Sl),M=[.im (.lst (W.map D.int)),.im (.int n),.im (.int a),c]/\(a=-1\/a∈pre)) rfl (_,_,rfl,.inl rfl) ?_ ?_
 .rintro pre t post M ex ⟨a,c,rfl,h⟩;have(t0,t1):=e t (by rw[ex];simp)
  have ha:a<t:=by
   rcases h with h |h
   .omega
   .rw[ex]at d;show(mC.mp d).2.2 a h t aA
  show(_,rfl,?_);apply aj;show aS (b:=af) (iT (a:=af) rfl (jB (b:=ac) (bA ((QN rfl rfl nP rfl nP).trans (by rw[decide_eq_true ha,decide_eq_true t1];rfl))))) (λz=>nomatch z) λ_=>bH ?_;show bn rfl (t,_,rfl,.inr (by simp))
 .rintro M ⟨a,c,rfl,_⟩;show dG rfl (dH rfl)
def Xo{A X3:LI0}(n:Z A<=20)(hB:Z X3<=20)(d:t∈A)(h2:t∉X3)(m:∀j<t,j∈A↔j∈X3):BE [.lst (A.map D.int),.lst (X3.map D.int)]=aa (.bl ac):=by
 have l:=zD (A++X3);have hm:∀x,x∈k9 (A++X3)↔x∈A\/x∈X3:=λx=>by rw[(vq _).mem_iff,bw]
 have e:=HB (f:=aR (jH (ae 0) (ae 1))) (M:=eN 3 [.lst (A.map D.int),.lst (X3.map D.int)]) (ns:=A++X3) ((bV (DU (a:=A.map D.int) (b:=X3.map D.int) rfl rfl (by rw[az,az];lia))).trans (by rw[bf])) (by rw[aV];lia);generalize k9 (A++X3)=X2 at *;apply gA;apply aj;show du X2 D.int (λpre M=>∃i,M=[.im (.lst (A.map D.int)),.im (.lst (X3.map D.int)),i]/\t∉pre) (eB (bV e) rfl) ⟨_,rfl,λh=>nomatch h⟩ ?_ ?_
 .rintro pre x post M ex ⟨i,rfl,g⟩;show(_,rfl,?_)
  have p:x<=t:=by
   have:t∈pre++x::post:=by rw[<- ex];show(hm t).mpr (.inl d)
   rcases bw.mp this with q |q
   .show absurd q g
   .rcases bc.mp q with q |q
    .show Int.le_of_eq q.symm
    .rw[ex]at l;show(oQ.mp (mC.mp l).2.1).1 t q
  by_cases c:x=t
  .subst c;show aS (b:=ac) (bA (ao (ao rfl rfl (mq A x)) (ao rfl rfl (mq X3 x)) ?_)) (λ_=>dG ((ao rfl rfl (mq A x)).trans (by rw[decide_eq_true d])) (dH rfl)) λz=>nomatch z;rw[decide_eq_true d,decide_eq_false h2];rfl
  .show aS (b:=af) (bA (ao (ao rfl rfl (mq A x)) (ao rfl rfl (mq X3 x)) ?_)) (λz=>nomatch z) λ_=>bH (_,rfl,λq=>?_)
   .rw[decide_eq_decide.mpr (m x (by lia))]
    cases decide (x∈X3) <;> rfl
   .rcases bw.mp q with z |z
    .show g z
    .show c (bv.mp z).symm
 .rintro M ⟨i,rfl,g⟩;show absurd ((hm t).mpr (.inl d)) g
def Xq(n:Int)(B:LRu):eO 20 (pl0 n B):=by
 show eO.le (n:=8) (λx a=>?_) (by decide)
 rcases bc.mp a with rfl |a
 .rfl
 .rw[bv.mp a];intro y b;have(r,_,rfl):=aM.mp b;show PL r
def Xr(ns:LI0)(h:Z ns<=63):m_6 [.kl (ns.map D.int)]=aa (.bl ac):=by
 have Q:=WV ns;have(c,e1):=KM Q (i:=1) (by decide);have(n,B,ep,hn,hr,hl):=W0 Q h (top:=6) (by decide) (by decide);have ea:=W3 hr (by lia);have(Fs,pp,f1,f2,_,_,l):=Xf (W4 (by lia) hr (by lia)) (W5 hr);have k0:=eJ c (show(41:Int)≠0 by decide);have l:=l _ k0
 have key:∃(d:List (LOB)) (b:Bool) (E:LD),m_0 [pl0 n B,.int (c % 41)]=aa (.tup [wsD (d.map wOf),.bl b,.lst E])/\(∀F∈d,Wrl n B F)/\d.Pairwise Bef/\(Z d:Int)<=c % 41/\(b=ac\/(Z d:Int)=c % 41):=by
  by_cases g:(Z Fs:Int)<=c % 41
  .rw[if_pos g]at l;show(Fs,ac,pp,l,λF q=>(f1 F).mp q,f2,g,.inl rfl)
  .rw[if_neg g,<- map_take]at l;have:(Z (Fs.take (S (c % 41))):Int)=c % 41:=by rw[length_take];lia
   show(Fs.take (S (c % 41)),af,[],l,λF q=>(f1 F).mp (mem_of_mem_take q),f2.sublist (take_sublist _ _),Int.le_of_eq this,.inr this)
 have(d,b,E,g1,v,N,g4,g5):=key;have r:∀F∈d,shW n (wOf F)=F/\(wOf F).Pairwise (· < ·)/\∀t∈wOf F,0<=t/\t<(n:Int):=λF q=>Xm (n,by lia) F (Ld (v F q).len (v F q).fu)
 have at':∀F∈d,∀t:Int,0<=t/\t<(n:Int)->F.getD t.toNat ab=aa (decide (t∈wOf F)):=λF q t ht=>by
  have:=jR (W:=wOf F) ht;rw[(r F q).1]at this;show this
 have wl:∀F∈d,Z (wOf F)<=20:=λF q=>by
  have:=ou ((r F q).2.1.imp λh e=>by lia) (r F q).2.2;lia
 apply gA;apply aj;show bn (aH rfl ep) ?_;apply aj;show bn (aH rfl ea) ?_;apply aj;show bn (ao (aH rfl e1) rfl (cX (by decide))) ?_;apply aj;show bn (aH rfl g1) ?_;apply aj;show aS (b:=af) (iT (a:=af) rfl (iT (a:=af) rfl rfl)) (λz=>nomatch z) λ_=>bH ?_;apply aj;show aS (b:=af) (iT (a:=af) rfl (iT (a:=af) rfl (bA (ao rfl rfl (Pi (Xq _ _)))))) (λz=>nomatch z) λ_=>bH ?_;apply aj;show bn rfl ?_;apply aj;show du d (λF=>wD (wOf F)) (λpre M=>∃(u:D) (I:Sl),M=[.im (.kl (ns.map D.int)),.im (pl0 n B),.im (pl0 n B),.im (.int (c % 41)),.im (.tup [wsD (d.map wOf),.bl b,.lst E]),.im u,I]/\(u=.non\/∃F∈pre,u=wD (wOf F))) (eB (bj rfl rfl rfl) (by unfold wsD;rw[map_map];rfl)) (_,_,rfl,.inl rfl) ?_ ?_
 .rintro pre F post M ex ⟨u,I,rfl,hv⟩;have m:F∈d:=by rw[ex];simp
  have(t1,T,H):=r F m;have(b',eb,w):=Xl hr (by lia) (by lia) H T;rw[t1]at w;have w:=w.mpr (v F m);subst w;show(_,rfl,?_);apply aj;show aS (b:=af) (iT (a:=af) (jB (b:=ac) (cy (aH rfl (Xn T H)) rfl)) (jB (b:=ac) (cy (aH rfl eb) rfl))) (λz=>nomatch z) λ_=>bH ?_;apply aj;show aS (b:=af) ?_ (λz=>nomatch z) λ_=>bH (bn rfl (_,_,rfl,.inr (F,by simp,rfl)))
  rcases hv with rfl |⟨G,hG,rfl⟩
  .unfold da;rfl
  .have f:G∈d:=by rw[ex];simp[hG]
   have C:Bef G F:=by
    rw[ex]at N;show(mC.mp N).2.2 G hG F aA
   have(t,Y,A,d3):=C
   have tn:t<n:=by
    show xy λq=>?_;rw[bE,gb (by rw[(v G f).len];show q)]at A
    nomatch A
   have y:∀{j:Int},0<=j->j<=t->0<=j/\j<(n:Int):=λa b=>(a,by lia);have L:=at' G f t (y (by lia) (qL _));have J:=at' F m t (y (by lia) (qL _));rw[cY,A]at L;rw[cY,d3]at J;show iq (a:=ac) rfl (jB (b:=ac) (cy (aH rfl (Xo (wl G f) (wl F m) (t:=t) (of_decide_eq_true (cP L).symm) (of_decide_eq_false (cP J).symm) λj hj=>?_)) rfl))
   by_cases x:0<=j
   .have U:=at' G f j (y x (by lia));have x2:=at' F m j (y x (by lia));rw[Y j.toNat (by lia),x2]at U;show decide_eq_decide.mp (cP U).symm
   .show(λq=>absurd ((r G f).2.2 j q).1 x,λq=>absurd (H j q).1 x)
 .rintro M ⟨u,I,rfl,_⟩;have p:cK [wsD (d.map wOf)]=aa (.int (Z d)):=(f7 (d.map wOf) wD).trans (by rw[az]);show dG ((rV (ao (aH rfl p) rfl Hv) (u8 (a:=b) rfl (ao (aH rfl p) rfl (lU _ _)))).trans ?_) (dH rfl);rw[decide_eq_true g4,oG]
  rcases g5 with q |q
  .rw[q];rfl
  .rw[q,beq_self_eq_true,oH]
def sp_law(K:aU):Sp:=λvs H Q _=>∃(a:Addr) (ns:LI0),vs=[.ref a]/\SqL K H a (ns.map V.int)/\Z ns<=63/\∀H',Q (.bl ac) H'
variable{K:aU}
def sp_law_of{H:Hp}{a:Addr}{X4:XK}(c:Z ns<=63)(b:SqL K H a (ns.map V.int)):sp_law K [.ref a] H (λv _=>v=.bl ac) X4:=(a,ns,rfl,b,c,λ_=>rfl)
variable{w:World}
def law_ok{a:Wa}(W:Wd K mg a):cD P w K mg base CX0 11 a.e_6.1 a.e_6.2 ["_law_script"] (sp_law K):=(UV W).ok.imp λvs H Q X4 (a,ns,b,c,d,k)=>
 (H,[.kl (ns.map D.int)],.bl ac,aq.refl _,(.ref a,[],b,(a,_,rfl,c,am.ints ns),rfl),rfl,Xr ns d,λv Hf' H' x r=>by rw[show v=V.bl ac from r];show k H')
variable{P:LVa->Prop}
def xi(h:P []):∀us:LVa,Z us=0->P us:=λus e=>by
 rw[eq_nil_of_length_eq_zero e];show h
def kh(h:∀a (us:LVa),Z us=n->P (a::us)):∀us:LVa,Z us=n+1->P us:=λus e=>by
 cases us with
 |nil=>cases e
 |cons a us=>show h a us (Nat.succ.inj e)
def EQ(h:∀a:Value,P [a]):∀us:LVa,Z us=1->P us:=kh (P:=λus=>P (us)) λa=>xi (h a)
def Le(h:∀a b:Value,P [a,b]):∀us:LVa,Z us=2->P us:=kh (P:=λus=>P (us)) λa=>kh (P:=λus=>P (a::us)) λb=>xi (h a b)
def Xs(h:∀a b c:Value,P [a,b,c]):∀us:LVa,Z us=3->P us:=kh (P:=λus=>P (us)) λa=>kh (P:=λus=>P (a::us)) λb=>kh (P:=λus=>P (a::b::us)) λc=>xi (h a b c)
def Xu(h:∀a b c d:Value,P [a,b,c,d]):∀us:LVa,Z us=4->P us:=kh (P:=λus=>P (us)) λa=>kh (P:=λus=>P (a::us)) λb=>kh (P:=λus=>P (a::b::us)) λc=>kh (P:=λus=>P (a::b::c::us)) λd=>xi (h a b c d)
local macro_rules | `(tactic| walk_at "bd")=>`(tactic| exact λ_ _ _ _ _ _=>by first | exact EQ λ_=>rfl | exact Le λ_ _=>rfl | exact Xs λ_ _ _=>rfl | exact Xu λ_ _ _ _=>rfl)
set_option autoImplicit true in
def all_mk{ad ae af ag ai aj ak al am an ao ap aq ar as av aw ax:Addr}{h:Heap}{bZ aE aF aG aH aI aJ aK aL aM aN b0 b1 aO aP aQ b2 aR aS aT b3 aU aV aW aX aY aZ a0 a1 a2 a3 a4 a5 a6 a7 a8 a9 b4 ba bb bc bd be bf bg bh bi bj bk bl bm bn bo bp bq br bs bu bv bw bx bz bA bB bC bD bE bF bG bH bI b5 bJ bK bL b6 b7 j m d w l q f b c p g n bM:c6}{U:Nat}{eH:Tok}{eg:Nat}{fa:Addr}(X:K.In h)(G:h.Ns cu mg)(hfa:mg "law"=aa (.ref fa))
 (b8:dQ K cu "In"=aa (aa (.ref ad)))
 (bN:dQ K cu "Out"=aa (aa (.ref ae)))
 (e6:dQ K cu "Least"=aa (aa (.ref af)))
 (ay:dQ K cu "Most"=aa (aa (.ref ag)))
 (M:dQ K cu "Spreading"=aa (aa (.ref ai)))
 (Y:dQ K cu "Seeking"=aa (aa (.ref aj)))
 (dn:Dq K "marks" s_1 f_1 bZ)
 (cf:Dq K "numbers" zZ f_19 aE)
 (cg:Dq K "part_of" z4 f_35 aF)
 (ch:Dq K "things_of" z5 f_36 aG)
 (ci:Dq K "worth_in" z6 f_20 aH)
 (cj:Dq K "worth_not_out" z7 f_13 aI)
 (ck:Dq K "worth_of" z8 f_37 aJ)
 (cm:Dq K "outside" z9 f_38 aK)
 (cn:Dq K "heavy" Aa f_21 aL)
 (co:Dq K "weights_of" Ab f_14 aM)
 (cp:Dq K "with_entry" Ac f_15 aN)
 (dp:Dq K "enough" s_7 f_7 b0)
 (dq:Dq K "body_of" s_2 f_2 b1)
 (cq:Dq K "guard_of" Ad f_22 aO)
 (cr:Dq K "guard_of_bar" Ae f_52 aP)
 (cs:Dq K "pressed_by" Ag f_78 aQ)
 (ds:Dq K "lost_part" s_4 f_4 b2)
 (ct:Dq K "own_why" Ah f_23 aR)
 (cv:Dq K "needed_first" Ai f_39 aS)
 (cx:Dq K "_law_cell_at" Aj f_40 aT)
 (dt:Dq K "_law_mixed" s_5 f_5 b3)
 (cy:Dq K "_law_items" Ak f_41 aU)
 (cz:Dq K "_law_part" Al f_24 aV)
 (cA:Dq K "_law_rule" Am f_25 aW)
 (cB:Dq K "_law_base" An f_26 aX)
 (cC:Dq K "_law_plain" Ao f_27 aY)
 (cD:Dq K "_law_part_again" Ap f_53 aZ)
 (cE:Dq K "_law_again" Aq f_42 a0)
 (cF:Dq K "_law_whole" Ar f_73 a1)
 (cG:Dq K "_law_set" As f_28 a2)
 (cH:Dq K "_law_sum" At f_16 a3)
 (cI:Dq K "_law_part_holds" Au f_54 a4)
 (cJ:Dq K "_law_body_holds" Av f_17 a5)
 (cK:Dq K "_law_broken" Aw f_43 a6)
 (cL:Dq K "_law_built" Ax f_29 a7)
 (cM:Dq K "_law_stands" Ay f_55 a8)
 (cN:Dq K "_law_ahead" Az f_44 a9)
 (cO:Dq K "law" s_6 f_6 b4)
 (bO:Dp K ad "__init__" "In.__init__" AA f_74 ba)
 (cP:Dp K ad "named" "In.named" AB f_45 bb)
 (cQ:Dp K ad "wants" "In.wants" AC f_56 bc)
 (cR:Dp K ad "sure" "In.sure" AD f_57 bd)
 (cS:Dp K ad "sure_by" "In.sure_by" AE f_58 be)
 (cT:Dp K ad "tips" "In.tips" AF f_59 bf)
 (cU:Dp K ad "lost" "In.lost" AG f_30 bg)
 (cV:Dp K ad "lost_by" "In.lost_by" AH f_60 bh)
 (bP:Dp K ae "__init__" "Out.__init__" AI f_75 bi)
 (cW:Dp K ae "named" "Out.named" AJ f_46 bj)
 (cX:Dp K ae "wants" "Out.wants" AK f_61 bk)
 (cY:Dp K ae "sure" "Out.sure" AL f_62 bl)
 (cZ:Dp K ae "sure_by" "Out.sure_by" AM f_63 bm)
 (c0:Dp K ae "tips" "Out.tips" AN f_64 bn)
 (c1:Dp K ae "lost" "Out.lost" AO f_31 bo)
 (c2:Dp K ae "lost_by" "Out.lost_by" AQ f_65 bp)
 (bQ:Dp K af "__init__" "Least.__init__" AR f_76 bq)
 (c3:Dp K af "named" "Least.named" AS f_47 br)
 (c4:Dp K af "wants" "Least.wants" AT f_66 bs)
 (c7:Dp K af "sure" "Least.sure" AU f_67 bu)
 (c8:Dp K af "sure_by" "Least.sure_by" AV f_68 bv)
 (c9:Dp K af "tips" "Least.tips" AW f_48 bw)
 (da:Dp K af "lost" "Least.lost" AX f_32 bx)
 (db:Dp K af "lost_by" "Least.lost_by" AY f_49 bz)
 (bR:Dp K ag "__init__" "Most.__init__" AZ f_77 bA)
 (dc:Dp K ag "named" "Most.named" A0 f_50 bB)
 (dd:Dp K ag "wants" "Most.wants" A1 f_69 bC)
 (de:Dp K ag "sure" "Most.sure" A3 f_70 bD)
 (df:Dp K ag "sure_by" "Most.sure_by" A4 f_71 bE)
 (dg:Dp K ag "tips" "Most.tips" A5 f_51 bF)
 (dh:Dp K ag "lost" "Most.lost" A6 f_33 bG)
 (di:Dp K ag "lost_by" "Most.lost_by" A7 f_72 bH)
 (bS:Dp K aj "__init__" "Seeking.__init__" A8 f_11 bI)
 (du:Dp K aj "another" "Seeking.another" s_8 f_8 b5)
 (dj:Dp K aj "close" "Seeking.close" A9 f_12 bJ)
 (dk:Dp K aj "place_for" "Seeking.place_for" Ba f_34 bK)
 (dl:Dp K aj "line_to" "Seeking.line_to" Bb f_18 bL)
 (dv:Dp K aj "grounds" "Seeking.grounds" s_3 f_3 b6)
 (dw:Dp K aj "grounds_of_group" "Seeking.grounds_of_group" s_9 f_9 b7)
 (A:Dp K aj "take_guard" "Spreading.take_guard" Bc ak j)
 (C:Dp K aj "take_bar" "Spreading.take_bar" Bd al m)
 (x:Dp K aj "drop_wider" "Spreading.drop_wider" Be am d)
 (L:Dp K aj "put" "Spreading.put" Bf an w)
 (B:Dp K aj "take_back" "Spreading.take_back" Bg ao l)
 (I:Dp K aj "settle" "Spreading.settle" Bh ap q)
 (y:Dp K aj "look_round" "Spreading.look_round" Bi aq f)
 (r:Dp K aj "put_loose_out" "Spreading.put_loose_out" Bj ar b)
 (u:Dp K aj "loose_marks" "Spreading.loose_marks" Bk as c)
 (H:Dp K aj "kernel" "Spreading.kernel" Bl av p)
 (z:Dp K aj "lost_parts" "Spreading.lost_parts" Bm aw g)
 (E:Dp K aj "keeping" "Spreading.keeping" Bo ax n)
 (dx:dQ K cu "worlds"=aa (aa (.ref f_0)))
 (dz:K.lookup f_0=aa (oc_0,od_0,.func (jl "worlds" "worlds" (kM s_0) (fW s_0) (au s_0) (.ref U) kV_0 dc_0 pm_0 an_0 cd_0 ct_0),sl_0))
 (J:K.lookup U=aa (oT_worlds,dT_worlds,.seq #[.int 1 eH] eg,sT_worlds))
 (dA:W.codeIn K cd_0 "worlds"=ac)
 (dB:gm K (.ref f_0)=ac)
 (T:W.specialIn K (.ref ai) "__getattribute__"=aa (aa (.builtin "type.__getattribute__")))
 (Q:W.readsIn K ai (.type "type")=ac)
 (N:W.findCls K (.ref ai) (.type "type") "__init__"=aa (.val (.ref f_10)))
 (b9:kH K ad ph=ac)
 (ca:lG K ad=ac)
 (cb:mV K ad=ac)
 (cc:cw K (.ref ad) "__setattr__"=aa (aa (.builtin "object.__setattr__")))
 (p6:mW K ad=ac)
 (cd:gm K (.ref ad)=ac)
 (mu:cw K (.ref ad) "thing"=aa ab)
 (bU:kH K ae ph=ac)
 (bV:lG K ae=ac)
 (bW:mV K ae=ac)
 (bX:cw K (.ref ae) "__setattr__"=aa (aa (.builtin "object.__setattr__")))
 (pw:mW K ae=ac)
 (bY:gm K (.ref ae)=ac)
 (mm:cw K (.ref ae) "thing"=aa ab)
 (fy:kH K af ph=ac)
 (ff:lG K af=ac)
 (ge:mV K af=ac)
 (gu:cw K (.ref af) "__setattr__"=aa (aa (.builtin "object.__setattr__")))
 (n7:mW K af=ac)
 (fx:gm K (.ref af)=ac)
 (lj:cw K (.ref af) "bound"=aa ab)
 (lb:cw K (.ref af) "pieces"=aa ab)
 (az:kH K ag ph=ac)
 (aA:lG K ag=ac)
 (aB:mV K ag=ac)
 (aC:cw K (.ref ag) "__setattr__"=aa (aa (.builtin "object.__setattr__")))
 (pb:mW K ag=ac)
 (aD:gm K (.ref ag)=ac)
 (l0:cw K (.ref ag) "bound"=aa ab)
 (lk:cw K (.ref ag) "pieces"=aa ab)
 (dr:kH K aj ph=ac)
 (c5:lG K aj=ac)
 (dy:mV K aj=ac)
 (d0:cw K (.ref aj) "__setattr__"=aa (aa (.builtin "object.__setattr__")))
 (n0:mW K aj=ac)
 (dm:gm K (.ref aj)=ac)
 (il:cw K (.ref aj) "sheet"=aa ab)
 (ll:cw K (.ref aj) "steps"=aa ab)
 (ld:cw K (.ref aj) "bars"=aa ab)
 (kr:cw K (.ref aj) "guards"=aa ab)
 (gF:cw K (.ref aj) "watches"=aa ab)
 (j3:cw K (.ref aj) "waiting"=aa ab)
 (kv:cw K (.ref aj) "makers"=aa ab)
 (lp:cw K (.ref aj) "paper"=aa ab)
 (kF:cw K (.ref aj) "count"=aa ab)
 (lw:cw K (.ref aj) "ended"=aa ab)
 (qs:dQ K cu "all"=aa ab)
 (qa:dQ K cu "any"=aa ab)
 (p4:dQ K cu "bool"=aa ab)
 (nk:dQ K cu "enumerate"=aa ab)
 (q4:dQ K cu "int"=aa ab)
 (kQ:dQ K cu "isinstance"=aa ab)
 (q5:dQ K cu "len"=aa ab)
 (nS:dQ K cu "list"=aa ab)
 (oo:dQ K cu "range"=aa ab)
 (ny:dQ K cu "reversed"=aa ab)
 (rc:dQ K cu "set"=aa ab)
 (nL:dQ K cu "sorted"=aa ab)
 (p0:dQ K cu "sum"=aa ab)
 (pj:dQ K cu "tuple"=aa ab)
 (ce:Fun K "__init__" "Spreading.__init__" Bp f_10 bM)
 (pq:kU K "bool")
 (p5:kU K "int")
 (pu:kU K "list")
 (oD:kU K "tuple")
  : ∃a:Wa,∃W:Wd K mg a,a.e_6.1=fa/\∀(s:ah) (v:Value),BindsTo s a.e_6.2 ([v],[]) [("_law_script",v,)]:=by
 have e:=hfa.symm.trans (kK X G cO.a);cases e;have hc:∃cl:Str->Addr,ad=cl "In" /\ ae=cl "Out" /\ af=cl "Least" /\ ag=cl "Most" /\ aj=cl "Seeking":=(λs=>if s="In" then ad else if s="Out" then ae else if s="Least" then af else if s="Most" then ag else if s="Seeking" then aj else 0,rfl,rfl,rfl,rfl,rfl);have(cl,rfl,rfl,rfl,rfl,rfl):=hc
 show(((f_1,bZ,),(f_19,aE,),(f_35,aF,),(f_36,aG,),(f_20,aH,),(f_13,aI,),(f_37,aJ,),(f_38,aK,),(f_21,aL,),(f_14,aM,),(f_15,aN,),(f_7,b0,),(f_2,b1,),(f_22,aO,),(f_52,aP,),(f_78,aQ,),(f_4,b2,),(f_0,_,),(f_23,aR,),(f_39,aS,),(f_40,aT,),(f_5,b3,),(f_41,aU,),(f_24,aV,),(f_25,aW,),(f_26,aX,),(f_27,aY,),(f_53,aZ,),(f_42,a0,),(f_73,a1,),(f_28,a2,),(f_16,a3,),(f_54,a4,),(f_17,a5,),(f_43,a6,),(f_29,a7,),(f_55,a8,),(f_44,a9,),(f_6,b4,),(f_74,ba,),(f_45,bb,),(f_56,bc,),(f_57,bd,),(f_58,be,),(f_59,bf,),(f_30,bg,),(f_60,bh,),(f_75,bi,),(f_46,bj,),(f_61,bk,),(f_62,bl,),(f_63,bm,),(f_64,bn,),(f_31,bo,),(f_65,bp,),(f_76,bq,),(f_47,br,),(f_66,bs,),(f_67,bu,),(f_68,bv,),(f_48,bw,),(f_32,bx,),(f_49,bz,),(f_77,bA,),(f_50,bB,),(f_69,bC,),(f_70,bD,),(f_71,bE,),(f_51,bF,),(f_33,bG,),(f_72,bH,),(f_11,bI,),(f_8,b5,),(f_12,bJ,),(f_34,bK,),(f_18,bL,),(f_3,b6,),(f_9,b7,),(ak,j,),(al,m,),(am,d,),(an,w,),(ao,l,),(ap,q,),(aq,f,),(ar,b,),(as,c,),(av,p,),(aw,g,),(ax,n,),(f_10,bM,),cl,ai),(dn.mk2 X G,cf.mk2 X G,cg.mk2 X G,ch.mk2 X G,ci.mk2 X G,cj.mk2 X G,ck.mk2 X G,cm.mk2 X G,cn.mk2 X G,co.mk2 X G,cp.mk2 X G,dp.mk2 X G,dq.mk2 X G,cq.mk2 X G,cr.mk2 X G,cs.mk2 X G,ds.mk2 X G,(Sr (st:=s_0) dz dA dB,(Iz J rfl rfl λus hl=>by
   rw[bT]at hl ⊢
   revert us hl
   show Le λ_ _=>(_,rfl,rfl)),kK X G dx),ct.mk2 X G,cv.mk2 X G,cx.mk2 X G,dt.mk2 X G,cy.mk2 X G,cz.mk2 X G,cA.mk2 X G,cB.mk2 X G,cC.mk2 X G,cD.mk2 X G,cE.mk2 X G,cF.mk2 X G,cG.mk2 X G,cH.mk2 X G,cI.mk2 X G,cJ.mk2 X G,cK.mk2 X G,cL.mk2 X G,cM.mk2 X G,cN.mk2 X G,cO.mk2 X G,bO.mk2,cP.mk2,cQ.mk2,cR.mk2,cS.mk2,cT.mk2,cU.mk2,cV.mk2,bP.mk2,cW.mk2,cX.mk2,cY.mk2,cZ.mk2,c0.mk2,c1.mk2,c2.mk2,bQ.mk2,c3.mk2,c4.mk2,c7.mk2,c8.mk2,c9.mk2,da.mk2,db.mk2,bR.mk2,dc.mk2,dd.mk2,de.mk2,df.mk2,dg.mk2,dh.mk2,di.mk2,bS.mk2,du.mk2,dj.mk2,dk.mk2,dl.mk2,dv.mk2,dw.mk2,A.mk2,C.mk2,x.mk2,L.mk2,B.mk2,I.mk2,y.mk2,r.mk2,u.mk2,H.mk2,z.mk2,E.mk2,Db.mk2 ce,(_,.cons (_,rfl) .nil,Iz J rfl rfl λus hq=>by
   have hl:Z us=1:=by simpa using hq
   clear hq
   revert us hl
   show EQ λ_=>(_,rfl,rfl)),kK X G b8,(b9,ca,cb,cc),(p6,bO.a,bO.i,cd),mu,kK X G bN,(bU,bV,bW,bX),(pw,bP.a,bP.i,bY),mm,kK X G e6,(fy,ff,ge,gu),(n7,bQ.a,bQ.i,fx),lj,lb,kK X G ay,(az,aA,aB,aC),(pb,bR.a,bR.i,aD),l0,lk,kK X G M,(T,Q,N,ce.kp),kK X G Y,(dr,c5,dy,d0),(n0,bS.a,bS.i,dm),il,ll,ld,kr,gF,j3,kv,lp,kF,lw,gL X G qs,gL X G qa,gL X G p4,gL X G nk,gL X G q4,gL X G kQ,gL X G q5,gL X G nS,gL X G oo,gL X G ny,gL X G rc,gL X G nL,gL X G p0,gL X G pj,pq,p5,pu,oD),rfl,cO.bt (λ_ _ _ _ _ _=>EQ λ_=>rfl))
end N_k51
structure PySem.W.Fast:Prop where
 (tw400660578136060607 tw18430863561715541022 tw2118018521571891919 tw1140708890525412740 tw5045564112857971791 tw1993442470983129885 tw17979773721324484007 tw5432869600402095968 tw5753041354931961820 tw17100668704501807012 tw17197775917064960953 tw9258561575401364895 tw11470735211740073075 te6562295813918167417 te14344739394939868365 te6282477543896762631 te17852715271613583405 te5494671076879320998 te17763464371233379210 te5977721129679699999 te12170137694099312427 te1401371724352310287 te2907924406345860790 te2638935575079228084 te11052319681917139863 te4546321813605648590 te9249492778994168202 te16656129433520816737 te6923247537471116413 te672680772483070531 te14785718750494766284 te14516006506047858862 te18255435841507815801 te9366180901284777146 te6510205301522916331 te17172784094970062576 te9422420557721190670 te8945581366188928502 te8615585959557088808 te115836442130785293 te11377207355129119445 te18170292911187183236 te7102028180426412280 te12630410170225589489 te15670643025346235349 te5198832277639304463 te2344838321691071000 te10218369266082166145 te11263398141370591142 te260457813581732909 te5628392917700934939 te7743374149565852631 te8549246225748456166 te9303770314307990229 te6821720852295853479 te17662620594387589877 te8576134643344070730 te9864850256237104819 te1145468616224740976 te6665977617474534832 te1035073612480633793 te3458818129147779511 te15795454503775534740 te12163378241822239717 te6492472380946896703 te8547341895219908372 te13074247981428628123 te3339048946411039640 te1899487683773539136 te11720839166798975236 te17245194725018383248 te7631888825233563394 te17105725535970265151 te3278312747374404916 te17469769784284102345 te9788198107547653225 te9510974319879723916 te16490815952420668680 te6444773670622570280 te8028033591218289818:True)
open PySem PySem.W PyProof.Rows
set_option maxRecDepth 100000 in
set_option maxHeartbeats 0 in
theorem PySem.Challenge.cw_standstill_k51_whole_worlds_stand_holds : PySem.Challenge.rw_standstill_k51_whole_worlds_stand.Holds := by
 w_on; o_law; k_head; (case hw=>w_witness2)
 k_fill
 refine L2.walk_ofK (l:=PySem.Challenge.rw_standstill_k51_whole_worlds_stand) (n:=63) (k:=11) (x:="_law_script") (CX:=L2.CX0) (sp:=N_k51.sp_law) rfl (by decide) rfl ⟨rfl,by decide,by decide⟩ (fun w h Y=>PySem.W.kIn_of Y) ?F (fun _ _ a ns hl _ hS=>N_k51.sp_law_of hl hS) (fun _ _ _ _ z=>z)
 case F =>
  intro w mg fa h KX G hmg
  have TT : ∃ a : N_k51.Wa,∃ W : N_k51.Wd (L2.KOf KX) mg a,a.e_6.1=fa /\ ∀ (s:Shared) (v:Value),BindsTo s a.e_6.2 ⟨[v],[]⟩ [("_law_script",v)]:=by
   dsimp only [L2.KOf]
   refine' N_k51.all_mk KX G hmg ..
   all_goals first | k_is | kit_is | k_exc | exact ⟨by k_is,L2.fun_mk (by k_is) (by k_is) (by k_is)⟩ | exact ⟨by k_is,by k_is,L2.fun_mk (by k_is) (by k_is) (by k_is)⟩ | exact L2.fun_mk (by k_is) (by k_is) (by k_is) | (intro t ht; simp only [List.mem_cons,List.not_mem_nil,or_false] at ht; rcases ht with rfl | rfl | rfl | rfl | rfl | rfl | rfl <;> kit_is) | skip
  obtain ⟨a,W,e1,hb⟩:=TT
  subst e1
  exact ⟨_,hb,fun base kb nb=>N_k51.law_ok W⟩
