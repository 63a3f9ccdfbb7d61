import PyProof.Rows.All
import Wide.All
import OpenK.AllK
import Wide.FinOn
import Lean
import PyProof.EqAt
import PyProof.EqKinds
import PyProof.TupleCall
import PyProof.NeKinds
import PySem.Challenge.RW_standstill_k57_side_by_side
set_option Elab.async false
set_option hygiene false
def Zz.tp:Nat->List String->Array Lean.Term->Lean.MacroM (Array Lean.Term×List String)
|0,_,_=>Lean.Macro.throwUnsupported
|_,[],a=>pure (a,[])
|n+1,x::l,a=>do
 if x=")" then return(a,l)
 if x="(" then
  let(b,l)<-tp n l #[]
  return<-tp n l (a.push (Lean.Syntax.mkApp b[0]! (b.extract 1 b.size)))
 if x=".ok" then
  let t:=a.back!
  return<-tp n l (a.pop.push (<-`(($t).ok)))
 tp n l (a.push (<-match x with|"?"=>`(?_)|"_"=>`(_)|"!"=>`(by assumption)|"1"=>`(@1)|"%"=>`(hr.mono (by decide))|"rfl"=>`(rfl)|_=>if x.front='\'' then pure (Lean.Syntax.mkStrLit (x.drop 1).toString)else pure (Lean.mkIdent x.toName)))
def Zz.tm(s:String):Lean.MacroM Lean.Term:=do
 let(b,_)<-Zz.tp 99 (s.splitOn " ") #[]
 return Lean.Syntax.mkApp b[0]! (b.extract 1 b.size)
def Zz.fs(s:String):Lean.MacroM (Array (Lean.TSyntax ``Lean.Parser.Tactic.tacticSeq)):=(s.splitOn "|").toArray.mapM fun x=>do
 let t<-Zz.tm x
 `(Lean.Parser.Tactic.tacticSeq|refine $t)
def Zz.gr(j:String)(a:Array (Lean.TSyntax ``Lean.Parser.Tactic.tacticSeq)):Lean.MacroM (Lean.TSyntax ``Lean.Parser.Tactic.tacticSeq):=do
 let j<-Zz.tm j
 `(Lean.Parser.Tactic.tacticSeq|(with_reducible show $j);first $[|$a]*)
set_option hygiene true
def Zz.st(s:Lean.Syntax):=s.rewriteBottomUp fun s=>
 if s.getKind==``Lean.Parser.Term.tuple then
  let a:=s[1].getArgs
  if a.size>0&&a[2]!.getArgs.size%2==1 then .node .none ``Lean.Parser.Term.anonymousCtor #[.atom .none "⟨",.node .none `null (#[a[0]!,a[1]!]++a[2]!.getArgs),.atom .none "⟩"] else s
 else if s.getKind==``Lean.Parser.Tactic.show then .node .none ``Lean.Parser.Tactic.refine #[.atom .none "refine",s[1]]
 else s.setInfo .none
def Zz.rc:Nat->Lean.Term->Lean.MacroM (Lean.TSyntax `rcasesPat)
|0,_=>Lean.Macro.throwUnsupported
|n+1,t=>do
 let b:=match t with|`(($a,$b,*))=>#[a]++b.getElems|`(⟨$b,*⟩)=>b.getElems|_=>#[]
 if b.size>0 then
  let l<-b.mapM fun x=>do let y<-rc n x;`(Lean.Parser.Tactic.rcasesPatLo|$y:rcasesPat)
  return<-`(rcasesPat|⟨$l,*⟩)
 match t with|`($i:ident)=>`(rcasesPat|$i:ident)|_=>`(rcasesPat|_)
set_option genSizeOf false
set_option linter.all false
set_option compiler.extract_closed false
set_option bootstrap.genMatcherCode false
local macro_rules
|`(def $d:declId $b* :$t $v:declVal)=>do return Zz.st (<-if t.raw.isIdent||t.raw.isOfKind `Lean.Parser.Term.prop||[`Option,`List].contains t.raw[0].getId then `(noncomputable def $d $b* :$t $v:declVal)else `(theorem $d $b* :$t $v:declVal))
|`(nonrec def $d:declId $s:optDeclSig $v:declVal)=>do return Zz.st (<-`(@[reducible] noncomputable def $d $s:optDeclSig $v:declVal))
|`(abbrev $d:declId $s:optDeclSig $v:declVal)=>do return Zz.st (<-`(noncomputable def $d $s:optDeclSig $v:declVal))
|`(def $d:declId $v:declVal)=>do return Zz.st (<-`(noncomputable def $d $v:declVal))
local macro_rules
|`(tactic|have $p:term:=$e)=>do let q<-Zz.rc 9 p;`(tactic|obtain $q:rcasesPat:=$e)
|`(tactic|show%$s $e)=>if s.getHeadInfo matches .original .. then `(tactic|refine $e)else Lean.Macro.throwUnsupported
local macro_rules
|`((%$s $a,$b,*))=>if b.elemsAndSeps.size%2=1&&s.getHeadInfo matches .original .. then `(⟨$a,$b,*⟩)else Lean.Macro.throwUnsupported
set_option maxRecDepth 100000
open Array renaming length_toList->i6,getElem?_eq_getElem->mh,getElem?_toList->qC,getD->qE,toList_push->xh
open Bool renaming false->af,true->ac,false_ne_true->bK,and_eq_true->ce,eq_iff_iff->jP,or_eq_true->jQ,and_true->qF,true_and->qG,noConfusion->tN,or_true->qH,and_false->tO,or_false->tP
open Classical renaming byContradiction->xi
open False renaming elim->g7
open ForInStep renaming yield->oi
open Int renaming toNat->S,toNat_natCast->cL,emod_nonneg->eE,emod_lt_of_pos->g8
open List renaming length->Z,mem_cons_self->aA,getD_eq_getElem?_getD->bp,length_map->aq,length_append->aP,getElem?_eq_getElem->b7,mem_cons_of_mem->bj,getElem?_eq_some_iff->cM,mem_singleton->bq,map_append->aT,getElem?_map->cx,mem_append_left->b8,mem_append_right->cF,range->bw,mem_map->aG,mem_append->bx,length_range->bU,mem_cons->a9,append_nil->bN,append_assoc->cG,length_cons->cf,getElem?_cons_succ->g9,mem_of_getElem?->dU,getElem?_eq_none->gB,nodup_cons->b9,mem_filter->cg,length_singleton->fB,map_cons->bG,not_mem_nil->dF,getElem?_append_left->ke,length_filter_le->gC,getElem?_append_right->lc,zip_cons_cons->fD,getElem?_set_self->kf,foldl_append->eU,getElem_mem->iB,nodup_append->fE,replicate->hE,getElem?_set_ne->lg,reverse_reverse->i7,getElem?_replicate->oj,foldl_cons->fQ,take_of_length_le->lh,mem_range->fF,mem_reverse->hJ,reverse_cons->i8,nodup_nil->fR,getElem?_of_mem->om,filter_append->kg,length_replicate->mi,length_set->iC,length_reverse->li,reverse_append->mj,any_cons->gD,pairwise_cons->ml,filter_cons_of_pos->qI,append_of_mem->mn,cons_append->lq,getElem_toArray->tQ,map_congr_left->oq,filter_sublist->ot,ext_getElem?->mo,getElem?_range->tR,zipWith->ou,lookup_cons->mq,findIdx_lt_length_of_exists->xj,map_set->hU,length_eq_zero_iff->tS,filterMap_cons->qJ,zipWith_cons_cons->tT,drop_of_length_le->tU,length_take->ow,set_cons_succ->qK,pairwise_append->tV,findIdx_cons->qL,getElem_range->xk,length_zip->ox,nil_append->oA,mem_of_find?_eq_some->xl,map_reverse->qM,sublist_append_left->xm,all_cons->mr,set_cons_zero->tW
open List.Nodup renaming sublist->xn
open List.Pairwise renaming map->xp,sublist->ED
open List.Perm renaming append_left->xq,refl->tX,cons->xr
open List.Sublist renaming refl->qN
open List.cons renaming inj->qP
open Nat renaming le_refl->aM,lt_succ_self->c8,ne_of_lt->bY,le_trans->cN,lt_of_lt_of_le->fG,zero_le->cy,le_of_lt->fH,not_lt_zero->iD,lt_irrefl->gE,lt_succ_of_lt->kh,lt_of_le_of_lt->mw,zero_add->jR,le_of_not_lt->oB,le_succ->ki,ne_of_gt->lr,lt_trans->mx,mul_le_mul_right->tY,min_eq_right->tZ,le_of_eq->qQ,succ_pos->qR,min_eq_left->t4,pow_le_pow_right->xu,min_self->t7
open Ne renaming symm->eV
open Option renaming some->aa,none->ab,bind_some->az,bind_eq_some_iff->t8,isSome_iff_exists->xv
open Option.some renaming inj->du
open Or renaming inr->bF,inl->bZ
open Prod.mk renaming inj->t9
open PyProof.Rows renaming callWith_type1->jS,firstMet->eW,callWith_builtin1->xy,IntsAre->gg,envOfC->gh,AllBare->kj,boot_list->oC
open PySem renaming wpAny_bind->am,wpAny_pure->aD,Shared->ah,starEach->aL,sizeLine->aU,mainGlobals->cz,sizeLine_eq->dG,compareOp->cY,wpAny_Call_Name_kw->i9,builtinLookup_eq_fast->km,wpAny_newObj_type->ja,FuncData->cS,Program->ci,wpAny_call_entry->jT,wpAny_mono->fS,wpAny_callSpecial?_slot->oF,foldedSetIterable->ls,backTo->cj,codeAny_builtin->ko,typeLookup_type->ku,rawInt->cu,bootBuiltins->jb,behindInMarks->jU,wpAny_holding->jV,keywordEach->iE,sysModules->hV,swapsWith->gi,Around->ca,binaryOp->fT,wpAny_setField_rec->oG,wpAny_passesOwn->mC,getMethod->hX,wpAny_truthy_bool->oH,assignEach->jc,NameKind->gj,mem_of_lookup->qS,wpAny_setState_of->oI,holding->eX,isSubtype_type->mD,wpAny_setEntries_of->qT,codeAny_mono->lu,intKind->fU,wpAny_loadPart'->ua,tupleKind_room_in1->qU,plainId_quiet->mE,backToKw->iF,standAt->gG,codeAny->gH,wpAny_isInstance->qV,attributeBase->oJ,wpAny_attempt->oK,wpAny_rule->lw,Spec->K2,sliceBounds->mF,Builtin->d7,callWith->jW,firstArgMember->qW,typeLookup->mG,scanBound->lx,pickOrder->jd,wpAny_execs_nil->ub,pyNext->hZ,wpAny_specialOf->uc,wpAny_updateSeq->ud,codeAny_call_builtin->xz,wpAny_fieldsOf->ue,wpAny_seqItems->uf,wpAny_of_eq->qX,Paired->ib,SetTable->dH,relayAll->mH,entryFor->mJ
open PySem.Around renaming in1_units->qY
open PySem.Builtin.Int renaming intBits->ug
open PySem.Builtin.List renaming listSameRef->uh,listExtendWith->xA,listLengthHint->EE,listTooLong->EF
open PySem.Builtin.Range renaming rangeSize->ui,small->EG
open PySem.Calls renaming spliced_cons->je,callWith_builtin->xB,evalArgs_plain->xC,spliced_nil->xD
open PySem.F renaming plainAttrs_list->jf,slot_list_append->uj,type_list_append->uk,called_set->ly,slot_list_reversed->xE,slot_list_extend->xF,type_list_extend->xG,slot_dict_get->xH,slot_dict_setdefault->EH
open PySem.Heap renaming get?_push_of_some->bz,get?_push_size->cO,lt_size->bD,size_push->jg,SameBut->gm,get?_update_other->oM,get?_update_self->oN
open PySem.Heap.SameBut renaming update->oO
open PySem.NameKind renaming free->fV,cell->mK
open PySem.Obj renaming mapSeq->ic
open PySem.Paired renaming length->oP
open PySem.PassesOwn renaming never->dz
open PySem.SeqAt renaming EqAt->cB
open PySem.SeqAt.EqAt renaming int_str->xI,str_int->xJ,same->xK
open PySem.SetTable renaming below->cH,grown->oQ
open PySem.SetTable.below renaming go->um
open PySem.Shared renaming TypeIs->uq
open PySem.Str renaming empty->oR,ofString->ur
open PySem.Value renaming ref->eY,type->kz,bool->lz,none->mL
open PySem.W renaming Frag->aR,findIn->cv,mg_none_of->ie,keepIn->gq,kia_one->jh,nsIn->dW,plainGet->kA,hasDictIn->lA,emptyDict->lB,plainOver->mM,instObj->lC,makesIn->mN,mg_of->kB,fnOf->ji
open Sum renaming inl->iG
open Sum.inl renaming inj->ut
open True renaming intro->iH
nonrec abbrev LB0:=List Bool
nonrec abbrev LI0:=List Int
nonrec abbrev LII:=List (Int×Int)
nonrec abbrev LOB:=List (Option Bool)
nonrec abbrev PRS:=PySem.Value->PySem.Shared->Prop
nonrec abbrev MGT:=PySem.Str->Option PySem.Value
nonrec abbrev PNS:=List (PySem.Addr×PySem.Obj)
nonrec abbrev LN:=List Nat
nonrec abbrev L2N:=List LN
nonrec abbrev LSt:=List PySem.Str
nonrec abbrev LVa:=List PySem.Value
nonrec abbrev LAd:=List PySem.Addr
nonrec abbrev LEx:=List PySem.Expr
def Za(_:True:=by rfl)(_:True:=by decide)(_:True:=by intro _;rfl)(_:True:=by first |exact bZ rfl |exact bF (bZ rfl) |exact bF (bF rfl))(_:True:=by first |exact bZ rfl |exact bF rfl)(_:True:=by first |exact .inl rfl |exact .inr rfl)(_:True:=by first |exact .inl rfl |exact .inr rfl |assumption)(_:True:=by first |rfl |exact glc rfl)(_:True:=by exact λ_ _=>rfl)(_:True:=by walk_at "bd")(_:True:=by first |exact ES _ (by decide) (by decide) |rfl)(_:True:=by decide +kernel)(_:True:=by exact Nat.le_of_ble_eq_true rfl)(_:True:=by first |exact E5 _ |rfl):=0
namespace Za
end Za
open Za renaming _auto_1->Zb,_auto_2->Zc,_auto_3->Zd,_auto_4->Ze,_auto_5->Zf,_auto_6->Zg,_auto_7->Zh,_auto_8->Zi,_auto_9->Zj,_auto_10->Zk,_auto_11->Zl,_auto_12->Zm,_auto_13->Zn,_auto_14->Zo
namespace L2
open List
open PySem PySem.Spec PyProof.Rows
nonrec def Key:=Sum Int Str
abbrev lD:Key->Value->Bool
 |.inl k,v=>Value.isInt k v
 |.inr x,v=>Value.isStrOf x v
abbrev EI(w:World):Key->Int
 |.inl k=>hashInt k
 |.inr x=>hashStr w x
def jk:∀{k:Key} {v:Value},lD k v=ac->(∃i t,k=iG i/\v=Value.int i t)\/(∃x t,k=Sum.inr x/\v=Value.str x t)
 |.inl i,v,h=>by
  have(t,e):=Value.isInt_shape h
  show .inl (i,t,rfl,e)
 |.inr x,v,h=>by
  have(t,e):=Value.isStrOf_shape h;show .inr (x,t,rfl,e)
def EJ(i:Int)(t:Tok):lD (.inl i) (.int i t)=ac:=by simp[lD,Value.isInt]
def EK(x:Str)(t:Tok):lD (.inr x) (.str x t)=ac:=by simp[lD,Value.isStrOf]
def uu(a b:Int):decide ((iG a:Key)=iG b)=(a==b):=by grind
def EL(a b:Str):decide ((Sum.inr a:Key)=Sum.inr b)=decide (a=b):=by grind
def xL(a:Int)(b:Str):decide ((iG a:Key)=Sum.inr b)=af:=decide_eq_false (λq=>nomatch q)
def xM(a:Str)(b:Int):decide ((Sum.inr a:Key)=iG b)=af:=decide_eq_false (λq=>nomatch q)
abbrev lE(prog:ci)(w:World):PySem.KeyKind prog w Key where
 is:=lD
 hash:=EI w
 inj:=λv a b ha hb=>by
  rcases jk ha with⟨i,t,rfl,rfl⟩ |⟨x,t,rfl,rfl⟩
  .rcases jk hb with⟨j,u,rfl,e⟩ |⟨y,u,rfl,e⟩
   .injection e with e1 _;rw[e1]
   .show nomatch e
  .rcases jk hb with⟨j,u,rfl,e⟩ |⟨y,u,rfl,e⟩
   .show nomatch e
   .injection e with e1 _;rw[e1]
 byValue:=λk v h=>by
  rcases jk h with⟨i,t,rfl,rfl⟩ |⟨x,t,rfl,rfl⟩ <;> rfl
 pyHash:=λhv h=>by
  rcases jk hv with⟨i,t,rfl,rfl⟩ |⟨x,t,rfl,rfl⟩
  .show wpAny_pyHash_int h
  .show wpAny_pyHash_str h
 eqBool:=λhu hv h=>by
  rcases jk hu with⟨i,t,rfl,rfl⟩ |⟨x,t,rfl,rfl⟩
  .rcases jk hv with⟨j,u,rfl,rfl⟩ |⟨y,u,rfl,rfl⟩
   .rw[uu]at h;show wpAny_eqBool_int h
   .rw[xL]at h;show xI i t y u _ _ _ _ h
  .rcases jk hv with⟨j,u,rfl,rfl⟩ |⟨y,u,rfl,rfl⟩
   .rw[xM]at h;show xJ x t j u _ _ _ _ h
   .rw[EL]at h;show wpAny_eqBool_str h
 «strs»:=λk x t v h=>by
  rcases jk h with⟨i,u,rfl,e⟩ |⟨y,u,rfl,e⟩
  .show nomatch e
  .injection e with e1 _
   subst e1
   cases v <;> rfl
def K3(prog:ci)(w:World)(i:Int)(t:Tok):(lE prog w).is (.inl i) (.int i t)=ac:=EJ i t
def K4(prog:ci)(w:World)(x:Str)(t:Tok):(lE prog w).is (.inr x) (.str x t)=ac:=EK x t
inductive V where
 |non |bl (b:Bool) |int (i:Int) |str (x:Str) |byt (b:Array UInt8) |flt (b:UInt64) |ref (a:Addr) |ty (n:String)
 deriving DecidableEq
nonrec abbrev LVv:=List V
abbrev aC:V->Value->Prop
 |.non,u=>u=mL
 |.bl b,u=>u=lz b
 |.int i,u=>∃t,u=Value.int i t
 |.str x,u=>∃t,u=Value.str x t
 |.byt b,u=>∃t,u=Value.bytes b t
 |.flt b,u=>∃t,u=Value.float b t
 |.ref a,u=>u=eY a
 |.ty n,u=>u=kz n
nonrec abbrev aH:LVv->LVa->Prop:=ib aC
variable{E:LVv}{us:LVa}
def aH.length(r:aH E us):Z E=Z us:=oP r
def aH.get:∀{E:LVv} {us:LVa} {i:Nat} {x:V},aH E us->E[i]?=aa x->∃u,us[i]?=aa u/\aC x u
 | _,_,_,_,.nil,e=>by simp at e
 | _,_,0,_,.cons r _,e=>by simp at e;subst e;show(_,rfl,r)
 | _,_,i+1,x,.cons _ t,e=>by
  have(u,a,h2):=aH.get t (by simpa using e);show(u,by simpa using a,h2)
def aH.set{x:V}{u:Value}(r:aC x u):∀{E:LVv} {us:LVa} (i:Nat),aH E us->aH (E.set i x) (us.set i u)
 | _,_,_,.nil=>.nil
 | _,_,0,.cons _ t=>.cons r t
 | _,_,i+1,.cons q t=>.cons q (aH.set r i t)
def aH.append:∀{E a:LVv} {us ws:LVa},aH E us->aH a ws->aH (E++a) (us++ws)
 | _,_,_,_,.nil,s=>s
 | _,_,_,_,.cons r t,s=>.cons r (aH.append t s)
def aH.take:∀{E:LVv} {us:LVa} (n:Nat),aH E us->aH (E.take n) (us.take n)
 | _,_,0,_=>.nil
 | _,_,_+1,.nil=>.nil
 | _,_,n+1,.cons r t=>.cons r (aH.take n t)
def aH.drop:∀{E:LVv} {us:LVa} (n:Nat),aH E us->aH (E.drop n) (us.drop n)
 | _,_,0,r=>r
 | _,_,_+1,.nil=>.nil
 | _,_,n+1,.cons _ t=>aH.drop n t
abbrev eZ:Option V->Option Value->Prop
 |some v,aa u=>aC v u
 |none,ab=>True
 | _,_=>False
abbrev KV{a:Type}:List (a×V)->List (a×Value)->Prop:=ib λ(p:a×V) (q:a×Value)=>p.1=q.1/\aC p.2 q.2
abbrev kV:Key->V
 |.inl i=>.int i
 |.inr x=>.str x
abbrev kR:Key->V->Prop
 |.inl i,v=>v=.int i\/∃b:Bool,v=.bl b/\i=cond b 1 0
 |.inr x,v=>v=.str x
abbrev xN:Key->Value->Bool
 |.inl k,.bool b=>decide (k=cond b 1 0)
 |k,v=>lD k v
def mO{k:Key}{v:Value}(h:xN k v=ac):(∃i t,k=.inl i/\v=.int i t)\/(∃b:Bool,k=.inl (cond b 1 0)/\v=.bool b)\/(∃x t,k=.inr x/\v=.str x t):=by
 unfold xN at h;split at h
 .rename_i a b;show .inr (.inl (b,by rw[of_decide_eq_true h],rfl))
 .rcases jk h with q |q
  .show .inl q
  .show .inr (.inr q)
def K5(a b:Bool):decide ((iG (cond a 1 0):Key)=iG (cond b 1 0))=(a==b):=by cases a <;> cases b <;> decide
def K6(a:Bool)(j:Int):decide ((iG (cond a 1 0):Key)=iG j)=((if a then 1 else 0)==j):=by rw[uu];cases a <;> rfl
def K7(j:Int)(a:Bool):decide ((iG j:Key)=iG (cond a 1 0))=(j==(if a then 1 else 0)):=by rw[uu];cases a <;> rfl
variable{prog:ci}{w:World}{A:ca}{W7:PRS}
def K8{s:ah}{b:Bool}{Q:Int->ah->Prop}(h:Q (hashInt (cond b 1 0)) {s with toks:=s.toks+1}):wpAny (model prog w) A (pyHash (.bool b)) Q W7 s:=by
 show W.pyHash_slot (T:="bool") rfl PySem.F.slot_bool_hash PySem.entry_int_hash (PySem.args_int_hash _) (beq_builtin_none _) (.inl rfl) ?_;cases b
 .show(show wpAny _ _ (do ret (<- mkInt 0)) _ _ s from am (wpAny_mkInt (aD (_,_,rfl,h))))
 .show(show wpAny _ _ (do ret (<- mkInt 1)) _ _ s from am (wpAny_mkInt (aD (_,_,rfl,h))))
abbrev mP(prog:ci)(w:World):PySem.KeyKind prog w Key where
 is:=xN
 hash:=EI w
 inj:=λv a b ha hb=>by
  rcases mO ha with⟨i,t,rfl,rfl⟩ |⟨c,rfl,rfl⟩ |⟨x,t,rfl,rfl⟩ <;> rcases mO hb with⟨j,u,rfl,e⟩ |⟨d,rfl,e⟩ |⟨y,u,rfl,e⟩ <;> cases e <;> rfl
 byValue:=λk v h=>by
  rcases mO h with⟨i,t,rfl,rfl⟩ |⟨c,rfl,rfl⟩ |⟨x,t,rfl,rfl⟩ <;> rfl
 pyHash:=λhv h=>by
  rcases mO hv with⟨i,t,rfl,rfl⟩ |⟨c,rfl,rfl⟩ |⟨x,t,rfl,rfl⟩
  .show wpAny_pyHash_int h
  .show K8 h
  .show wpAny_pyHash_str h
 eqBool:=λhu hv h=>by
  rcases mO hu with⟨i,t,rfl,rfl⟩ |⟨c,rfl,rfl⟩ |⟨x,t,rfl,rfl⟩ <;> rcases mO hv with⟨j,u,rfl,rfl⟩ |⟨d,rfl,rfl⟩ |⟨y,u,rfl,rfl⟩
  .rw[uu]at h;show cB.int_int _ _ _ _ _ _ _ _ h
  .rw[K7]at h;show cB.int_bool _ _ _ _ _ _ _ h
  .rw[xL]at h;show xI _ _ _ _ _ _ _ _ h
  .rw[K6]at h;show cB.bool_int _ _ _ _ _ _ _ h
  .rw[K5]at h;show cB.bool_bool _ _ _ _ _ _ h
  .rw[xL]at h;show cB.bool_str _ _ _ _ _ _ _ h
  .rw[xM]at h;show xJ _ _ _ _ _ _ _ _ h
  .rw[xM]at h;show cB.str_bool _ _ _ _ _ _ _ h
  .rw[EL]at h;show wpAny_eqBool_str h
 «strs»:=λk x t v h=>by
  rcases mO h with⟨i,u,rfl,e⟩ |⟨c,rfl,e⟩ |⟨y,u,rfl,e⟩
  .show nomatch e
  .show nomatch e
  .injection e with e1 _
   subst e1
   cases v <;> rfl
variable{P:ci}{v:V}
def K9{k:Key}{u:Value}(q:kR k v)(r:aC v u):(mP P w).is k u=ac:=by
 cases k with
 |inl i=>
  rcases q with rfl |⟨b,rfl,rfl⟩
  .have(t,e):=(show ∃t,u=Value.int i t from r);subst e;show EJ i t
  .cases (show u=lz b from r);cases b <;> rfl
 |inr x=>cases (show v=V.str x from q);have(t,e):=(show ∃t,u=Value.str x t from r);subst e;show EK x t
nonrec abbrev KRs:List Key->LVv->Prop:=ib kR
def EM{P:ci}{w:World}:∀{ks:List Key} {vs:LVv} {us:LVa},KRs ks vs->aH vs us->ItemsAre (mP P w) ks us
 | _,_,_,.nil,r=>by cases r;show .nil
 | _,_,_,.cons q t,r=>by
  cases r with
  |cons h t'=>show .cons (K9 q h) (EM t t')
inductive HO where
 |lst (E:LVv)
 |tup (E:LVv)
 |dK (kvs:List (Key×V)) |dT (kvs:List (List Key×V))
 |set (S:Int->Bool) (n:Nat)
 |ins (W8 dx:Addr) (fs:List (Str×V))
 |own (x:Addr)
 |xd (fs:List (Str×V))
 |met (f x:Addr)
 |rng (lo hi:Int)
 |frz (o:Obj) (u:HO)
 |tbl (ps:Array Value)
 |ext (φ:Heap->Prop)
nonrec def Hp:=Addr->Option HO
def fI(H:Hp)(b:Addr)(k:List Key):Prop:=∃vs,H b=aa (.tup vs)/\KRs k vs
variable{H H':Hp}{b:Addr}
def fI.up{k:List Key}(h:fI H b k)(a:∀b E,H b=aa (.tup E)->H' b=aa (.tup E)):fI H' b k:=let (vs,e,q):=h;(vs,a _ _ e,q)
def upd(H:Hp)(a:Addr)(o:HO):Hp:=λb=>if b=a then aa o else H b
variable{a:Addr}
def ba{o:HO}:upd H a o a=aa o:=by unfold upd;rw[if_pos rfl]
def aN{o:HO}(h:b≠a):upd H a o b=H b:=by unfold upd;rw[if_neg h]
def EN{o u:HO}(h:H a=aa o)(h':H b=aa u)(d:o≠u):a≠b:=by grind
def fJ{o:HO}(h:H a=aa o)(h':H b=ab):a≠b:=by
 intro e;subst e;rw[h]at h';cases h'
section
variable(P:ci)(w:World)
abbrev dX(H:Hp)(h:Heap)(a:Addr):HO->Prop
 |.lst E=>Z E<=aU/\∃(L:LVa) (n:Nat),aH E L/\h.get? a=aa {cls:=.type "list",data:=.seq L.toArray n}
 |.tup E=>Z E<=aU/\∃L:LVa,aH E L/\IsTup h a L.toArray
 |.dK kvs=>Z kvs<=aU/\(a==hV)=af/\∃vs,KV kvs vs/\h.DictOf (lE P w) a vs
 |.dT kvs=>Z kvs<=aU/\(a==hV)=af/\∃E:List (List Key×Addr×Value),
   ib (λ(p:List Key×V) (q:List Key×Addr×Value)=>p.1=q.1/\fI H q.2.1 p.1/\aC p.2 q.2.2) kvs E /\
   ∃o es c,h.get? a=aa o/\o.ExactDict/\o.data=.dict es c/\es.toList=E.map (entryOfKey (tupleKind (mP P w)))/\(E.map (·.1)).Nodup
 |.set S n=>h.SetOf (fU P w) a S n
 |.ins W8 dx fs=>H dx=aa (.own a)/\Z fs<=1000/\dx≠a/\h.get? a=aa (lC W8 dx) /\
   ∃mA,h.Ns1 dx mA/\(∀f,eZ (fs.lookup f) (mA f))/\PySem.Within mA (fs.map (·.1))
 |.own _=>∃o,h.get? a=aa o
 |.xd fs=>∃mA,h.Ns1 a mA/\∀f,eZ (fs.lookup f) (mA f)
 |.rng lo hi=>∃t u v,h.get? a=aa {cls:=.type "range",data:=.fields #[.int lo t,.int hi u,.int 1 v]}
 |.frz o u=>h.get? a=aa o/\dX H h a u
 |.tbl ps=>h.get? a=aa {cls:=.none,data:=.fields ps}
 |.met f x=>h.get? a=aa (W.methodObj (.ref f) (.ref x))
 |.ext φ=>φ h/\(∃o,h.get? a=aa o)/\∀b h2:Heap,φ b->(∀o,b.get? a=aa o->h2.get? a=aa o)->φ h2
def HOk(H:Hp)(h:Heap):Prop:=∀a o,H a=aa o->dX P w H h a o
end
variable{h:Heap}
def dX.lt{o:HO}(x:dX P w H h a o):a<h.objs.size:=by
 cases o with
 |lst E=>have(_,_,_,_,e):=x;show bD e
 |tup E=>have(_,_,_,p):=x;show p.lt
 |dK kvs=>have(_,_,_,_,o,_,_,e,_):=x;show bD e
 |dT kvs=>have(_,_,_,_,o,_,_,e,_):=x;show bD e
 |set S n=>have(o,_,_,_,e,_):=x;show bD e
 |ins W8 dx fs=>have(_,_,_,e,_):=x;show bD e
 |own y=>have(_,e):=x;show bD e
 |xd fs=>have(_,(_,_,_,e,_),_):=x;show bD e
 |rng lo hi=>have(_,_,_,e):=x;show bD e
 |frz b u=>have(e,_):=x;show bD e
 |tbl ps=>show bD (x)
 |met f y=>show bD (x)
 |ext φ=>have(_,(_,e),_):=x;show bD e
def ib.mapP{d e:Type}{F G:d->e->Prop}:∀{c:List d} {l₂:List e},ib F c l₂->(∀a b,F a b->G a b)->ib G c l₂
 | _,_,.nil,_=>.nil
 | _,_,.cons r t,f=>.cons (f _ _ r) (ib.mapP t f)
variable{h':Heap}
section
variable{o:HO}
def dX.stay(x:dX P w H h a o)(k:∀b u,(b=a\/H b=aa (.own a))->h.get? b=aa u->h'.get? b=aa u)
 (l:∀b,H b=aa (.own a)->H' b=aa (.own a))(m:∀b E,H b=aa (.tup E)->H' b=aa (.tup E)):dX P w H' h' a o:=by
 induction o with
 |lst E=>have(z,L,n,r,e):=x;show(z,L,n,r,k _ _ (.inl rfl) e)
 |tup E=>have(z,L,r,g,e,c):=x;show(z,L,r,g,k _ _ (.inl rfl) e,c)
 |dK kvs=>have(z,y,vs,r,g,es,i,e,c):=x;show(z,y,vs,r,g,es,i,k _ _ (.inl rfl) e,c)
 |dT kvs=>
  have(z,y,E,r,g,es,i,e,c):=x
  show(z,y,E,ib.mapP r λp q z=>(z.1,z.2.1.up m,z.2.2),g,es,i,k _ _ (.inl rfl) e,c)
 |set S n=>have(g,es,i,t,e,c):=x;show(g,es,i,t,k _ _ (.inl rfl) e,c)
 |ins W8 dx fs=>
  have(d,z,ne,e,mA,(od,es,i,j,c),r):=x
  show(l _ d,z,ne,k _ _ (.inl rfl) e,mA,(od,es,i,k _ _ (.inr d) j,c),r)
 |own y=>have(g,e):=x;show(g,k _ _ (.inl rfl) e)
 |xd fs=>have(mA,(od,es,i,e,c),r):=x;show(mA,(od,es,i,k _ _ (.inl rfl) e,c),r)
 |rng lo hi=>have(t,u,v,e):=x;show(t,u,v,k _ _ (.inl rfl) e)
 |frz g u A=>have(e,q):=x;show(k _ _ (.inl rfl) e,A q)
 |tbl ps=>
  have e:=x
  show k a _ (.inl rfl) e
 |met f y=>
  have e:=x
  show k a _ (.inl rfl) e
 |ext φ=>have(p,(o,e),st):=x;show(st _ _ p λo q=>k _ _ (.inl rfl) q,(o,k _ _ (.inl rfl) e),st)
end
def HOk.lt{o:HO}(x:HOk P w H h)(e:H a=aa o):a<h.objs.size:=(x a o e).lt
def HOk.fresh(x:HOk P w H h)(e:h.objs.size<=a):H a=ab:=by
 cases q:H a with
 |none=>rfl
 |some u=>show absurd (fG (x.lt q) e) (gE _)
def HOk.kept(x:HOk P w H h)(k:∀b u,h.get? b=aa u->h'.get? b=aa u):HOk P w H h':=λa o e=>
 (x a o e).stay (λb u _ q=>k b u q) (λ_ q=>q) λ_ _ q=>q
def HOk.laid{o:HO}(x:HOk P w H h)(k:∀b u,h.get? b=aa u->h'.get? b=aa u)(f:h.objs.size<=a)(new:dX P w (upd H a o) h' a o):HOk P w (upd H a o) h':=λb u e=>by
 have hn:=x.fresh f
 by_cases d:b=a
 .subst d;rw[ba]at e;cases e;show new
 .rw[aN d]at e;show(x b u e).stay (λc v _ q=>k c v q) (λc q=>by rw[aN (fJ q hn)];show q) λc E q=>by rw[aN (fJ q hn)];show q
def Rd(H:Hp)(a:Addr)(u:HO):Prop:=H a=aa u\/∃o,H a=aa (.frz o u)
def Rd.ok{u:HO}(r:Rd H a u)(x:HOk P w H h):dX P w H h a u:=by
 rcases r with r |⟨o,r⟩
 .show x a u r
 .have(_,q):=x a _ r;show q
abbrev Mut:Option HO->Prop
 |some (.lst _)=>True
 |some (.dK _)=>True
 |some (.dT _)=>True
 |some (.set _ _)=>True
 |some (.ins _ _ _)=>True
 |some (.ext _)=>True
 | _=>False
variable{x e:Addr}{o':HO}
def HOk.write(ok:HOk P w H h)(f:Mut (H x))(n:e=x\/H e=aa (.own x))(k:∀b u,b≠e->h.get? b=aa u->h'.get? b=aa u)(i:∃u,h'.get? e=aa u)
 (new:dX P w (upd H x o') h' x o'):HOk P w (upd H x o') h':=λb u q=>by
 have a:∀c y,H c=aa (.own y)->c≠x:=λc y r z=>by subst z;rw[r]at f;show f
 have d:∀c E,H c=aa (.tup E)->c≠x:=λc E r z=>by subst z;rw[r]at f;show f
 by_cases j:b=x
 .subst j;rw[ba]at q;grind
 .rw[aN j]at q
  by_cases g:b=e
  .have l:H b=aa (.own x):=by
    grind
   rw[q]at l;cases l;have(v,hv):=i;show(v,by rw[g];show hv)
  .show(ok b u q).stay (λc v m r=>k c v ?_ r) (λc r=>by rw[aN (a c b r)];show r) λc E r=>by rw[aN (d c E r)];show r
   grind
structure Un(fs ex:LAd)(H H':Hp)(h h':Heap):Prop where
 keep:∀b o,h.get? b=aa o->H b=ab->b∉fs->b∉ex->h'.get? b=aa o
 slot:∀b o,h.get? b=aa o->H b=ab->b∈fs->b∉ex->∃sl,h'.get? b=aa {o with slots:=sl}
 free:∀b o,h.get? b=aa o->H b=ab->b∉ex->H' b=ab
 there:∀b o,h.get? b=aa o->b∉ex->∃o',h'.get? b=aa o'
 tups:∀b E,H b=aa (.tup E)->H' b=aa (.tup E)
 frzs:∀b o u,H b=aa (.frz o u)->H' b=aa (.frz o u)
 tbls:∀b ps,H b=aa (.tbl ps)->∃more,H' b=aa (.tbl (ps++more))
variable{ex:LAd}{H1:Hp}{h1:Heap}
def Un.any{fs:LAd}(u:Un fs ex H H1 h h1){a:Obj}(q:h.get? b=aa a)(n:H b=ab)(d:b∉ex):∃sl,h1.get? b=aa {a with slots:=sl}:=by
 by_cases c:b∈fs
 .show u.slot b a q n c d
 .show(a.slots,u.keep b a q n c d)
variable{H2:Hp}{h2:Heap}
def Un.trans{fs:LAd}(a:Un fs ex H H1 h h1)(b:Un fs ex H1 H2 h1 h2):Un fs ex H H2 h h2 where
 keep:=λc ob q n hc hx=>b.keep c ob (a.keep c ob q n hc hx) (a.free c ob q n hx) hc hx
 slot:=λc ob q n hc hx=>by
  have(sl,e1):=a.slot c ob q n hc hx;have(sl',e2):=b.slot c _ e1 (a.free c ob q n hx) hc hx;show(sl',e2)
 free:=λc ob q n hx=>by
  have(o',e1):=a.there c ob q hx;show b.free c o' e1 (a.free c ob q n hx) hx
 there:=λc ob q hx=>by
  have(o',e1):=a.there c ob q hx;show b.there c o' e1 hx
 tups:=λc E q=>b.tups c E (a.tups c E q)
 frzs:=λc ob E q=>b.frzs c ob E (a.frzs c ob E q)
 tbls:=λc ps q=>by
  have(m1,e1):=a.tbls c ps q;have(m2,e2):=b.tbls c _ e1;show(m1++m2,by rw[e2,Array.append_assoc])
def Un.kept{fs:LAd}(k:∀b u,h.get? b=aa u->h'.get? b=aa u):Un fs ex H H h h':=
 (λb a q _ _ _=>k b a q,λb a q _ _ _=>(a.slots,k b a q),λ_ _ _ n _=>n,λb a q _=>(a,k b a q),λ_ _ q=>q,λ_ _ _ q=>q,λ_ ps q=>(#[],by rw[q];simp))
def Un.refl{fs:LAd}:Un fs ex H H h h:=Un.kept λ_ _ q=>q
def Un.laid{fs:LAd}{o:HO}(k:∀b u,h.get? b=aa u->h'.get? b=aa u)(hp:h.objs.size<=a)(hn:H a=ab):Un fs ex H (upd H a o) h h' where
 keep:=λb u q _ _ _=>k b u q
 slot:=λb u q _ _ _=>(u.slots,k b u q)
 free:=λb u q n _=>by rw[aN (bY (fG (bD q) hp))];show n
 there:=λb u q _=>(u,k b u q)
 tups:=λb E q=>by rw[aN (fJ q hn)];show q
 frzs:=λb u E q=>by rw[aN (fJ q hn)];show q
 tbls:=λb ps q=>(#[],by rw[aN (fJ q hn),q];simp)
def Un.write{fs:LAd}{o:HO}(a:Mut (H x))(g:e=x\/H e=aa (.own x))(k:∀b u,b≠e->h.get? b=aa u->h'.get? b=aa u)(d:∃u,h'.get? e=aa u):Un fs ex H (upd H x o) h h':=by
 have f:∀b,H b=ab->b≠x:=λb n z=>by subst z;rw[n]at a;show a
 have c:∀b,H b=ab->b≠e:=λb n z=>by
  grind
 have hm:∀b u,H b=aa u->¬Mut (aa u)->b≠x:=λb u q nm z=>by subst z;rw[q]at a;show nm a
 show(λb u q n _ _=>k b u (c b n) q,λb u q n _ _=>(u.slots,k b u (c b n) q),λb u q n _=>by rw[aN (f b n)];show n,λb u q _=>?_,
  λb E q=>by rw[aN (hm b _ q λz=>z)];show q,λb u E q=>by rw[aN (hm b _ q λz=>z)];show q,λb ps q=>(#[],by rw[aN (hm b _ q λz=>z),q];simp))
 grind
def trk(h:Heap)(H:Hp):LAd:=(bw h.objs.size).filter λa=>(H a).isSome
def oS(h:Heap)(H:Hp):Heap:=W.hideAll h (trk h H)
def La(h:Heap)(H:Hp):(oS h H).objs.size=h.objs.size:=W.hideAll_size _ _
def Lb{o:Obj}(e:h.get? b=aa o)(n:H b=ab):(oS h H).get? b=aa o:=
 W.hideAll_get _ e λhm=>by
  have q:=(cg.mp hm).2
  grind
def Lc{o:Obj}(e:(oS h H).get? b=aa o):h.get? b=aa o/\H b=ab:=by
 have e':=W.of_hideAll _ e;show(e',?_)
 cases q:H b with
 |none=>rfl
 |some x=>
  have hm:b∈trk h H:=cg.mpr (fF.mpr (bD e'),by simp[q]);have z:(oS h H).get? b=ab:=W.hideAll_none _ hm
  grind
def Ld(g h:Heap)(W5:Addr):PNS:=(bw h.objs.size).filterMap λa=>if a=W5\/(g.get? a).isSome=ac then ab else (h.get? a).map λo=>(a,o,)
def rest(g h:Heap)(W5 d:Addr):PNS:=(Ld g h W5).filter λp=>decide (p.1≠d)
structure Mod(K:aR)(mg:MGT)(base:Heap):Prop where
 kin:K.In base
 glob:base.Ns cz mg
 blt:∃mb,base.Ns builtinsNs mb/\∀x:Str,x ≠ "__name__" -> mb x=jb x
 nolimit:base.NoLimit
set_option genInjectivity false in
structure Cx where
 prog:ci
 w:World
 K:aR
 mg:Str->Option Value
 base:Heap
 A:ca
 N:LSt
 s₀:ah
 H₀:Hp
 env:Env
 outer:List Env
 stack:List Env
 ex:LAd
 fn:Str->Bool
 calm:Bool
 pn:PNS
 xe:Value->ah->Prop
nonrec abbrev NDb(x:Str):=(x==("__debug__":Str))=af
nonrec abbrev NCd(x:Str):=(x==("__classdict__":Str))=af
nonrec abbrev StE(X:Cx)(e:Expr)(es:LEx):=aL (e::es) X.env=(af,eval e X.env,)::aL es X.env
nonrec abbrev BkE(X:Cx)(pos:Pos)(es:LEx):=(cj pos (aL es X.env)).any (·.1)=af
nonrec abbrev LcF(X:Cx)(x:Str):=X.fn x=ac\/X.env.scope.names.lookup x=aa .local
def frs(l:List Env):LAd:=l.filterMap (·.frame)
nonrec def Cx.fs(X:Cx):LAd:=frs X.outer
def Vis(sc:Scope)(x:Str):Prop:=sc.names.lookup x=aa .local\/sc.names.lookup x=aa .cell\/sc.names.lookup x=aa .free
def Loc(sc:Scope)(x:Str):Prop:=sc.names.lookup x=aa .local\/sc.names.lookup x=aa .cell
def Le(env:Env)(h:Heap)(m:MGT)(x:Str)(u:Value):Prop:=
 (env.kindOf x=aa .local/\m x=aa u)\/((env.kindOf x=aa .cell\/env.kindOf x=aa .free)/\∃c,env.cells.lookup x=aa c/\h.IsCell c (aa u))
structure Cx.Ok(X:Cx):Prop where
 mod:Mod X.K X.mg X.base
 kind:X.env.scope.kind=.function
 glob:X.env.globals=cz
 blt:X.env.builtins=builtinsNs
 above:X.s₀.heap.objs.size<=X.env.locals
 inj:∀x y c,X.env.cells.lookup x=aa c->X.env.cells.lookup y=aa c->x=y
 has:∀x,(X.env.kindOf x=aa .cell\/X.env.kindOf x=aa .free)->∃c,X.env.cells.lookup x=aa c
 cab:∀x c,X.fn x=ac->X.env.cells.lookup x=aa c->X.s₀.heap.objs.size<=c
 hd:X.calm=ac->X.A.handled=ab
 frames:X.A.frames=aa X.stack
 stk:X.stack=X.outer\/(X.stack=X.env::X.outer/\X.env.frame=aa X.env.locals)
 exf:∀b∈X.ex,b≠X.env.locals/\∀x c,X.env.cells.lookup x=aa c->c≠b
 bs:∀b o,X.base.get? b=aa o->X.s₀.heap.get? b=aa o/\X.H₀ b=ab
 bsz:X.base.objs.size<=X.s₀.heap.objs.size
 noex:∀b o,X.base.get? b=aa o->b∉X.ex
 exfs:∀b∈X.ex,b∉X.fs
 funs:X.s₀.heap.FunFrames X.base X.outer
 frf:∀b∈X.fs,X.H₀ b=ab
structure Inv(X:Cx)(U:PNS)(C:List (Option V))(H:Hp)(s:ah):Prop where
 ok:X.Ok
 os:s.os=X.s₀.os
 bare:kj s.gens
 base:Un X.fs X.ex X.H₀ H X.s₀.heap s.heap
 loc:∃m,s.heap.Ns X.env.locals m/\∀(i:Nat) (x:Str) (v:V),X.N[i]?=aa x->C[i]?=aa (aa v)->Vis X.env.scope x->∃u,aC v u/\Le X.env s.heap m x u
 cell:∀x c,X.env.cells.lookup x=aa c->∃v,s.heap.IsCell c v
 free:H X.env.locals=ab
 freeC:∀x c,X.env.cells.lookup x=aa c->H c=ab
 pin:∀p∈X.pn++U,s.heap.get? p.1=aa p.2/\H p.1=ab/\p.1≠X.env.locals/\p.1∉X.fs/\∀v,p.2.data≠.cell v
 hok:HOk X.prog X.w H s.heap
 len:Z C=Z X.N
variable{X:Cx}
def Cx.Ok.nofr(ok:X.Ok){o:Obj}(e:X.base.get? b=aa o):b∉X.fs:=λa=>by
 have:=(ok.funs.mem a).1
 grind
variable{U:PNS}{C:List (Option V)}
def Inv.bs{s:ah}(I:Inv X U C H s):∀b o,X.base.get? b=aa o->s.heap.get? b=aa o/\H b=ab:=λb o e=>
 (I.base.keep b o (I.ok.bs b o e).1 (I.ok.bs b o e).2 (I.ok.nofr e) (I.ok.noex b o e),I.base.free b o (I.ok.bs b o e).1 (I.ok.bs b o e).2 (I.ok.noex b o e))
def Inv.bk{s:ah}(I:Inv X U C H s):∀b o,X.base.get? b=aa o->s.heap.get? b=aa o:=λb o e=>(I.bs b o e).1
def Inv.mod{s:ah}(I:Inv X U C H s):Mod X.K X.mg X.base:=I.ok.mod
def Inv.kIn{s:ah}(I:Inv X U C H s):X.K.In s.heap:=I.ok.mod.kin.keeps I.bk
def Inv.lt{s:ah}(I:Inv X U C H s):X.env.locals<s.heap.objs.size:=let (_,hn,_):=I.loc;hn.lt
def Inv.sz{s:ah}(I:Inv X U C H s):X.s₀.heap.objs.size<=s.heap.objs.size:=cN I.ok.above (fH I.lt)
def Inv.nofs{s:ah}(I:Inv X U C H s)(h:s.heap.objs.size<=a):a∉X.fs:=λb=>by
 have(_,o,c,_):=I.ok.funs.mem b;show absurd (fG (bD c) (cN I.sz h)) (gE _)
def Inv.cne{s:ah}(I:Inv X U C H s):∀x c,X.env.cells.lookup x=aa c->c≠X.env.locals:=λx c e z=>by
 have(v,o,f,hd):=I.cell x c e;have(m,(o',es,d,b,a,_),_):=I.loc
 grind
def Inv.funs{s:ah}(I:Inv X U C H s):s.heap.FunFrames X.base X.outer:=by
 have all:∀l,(∀b∈frs l,b∈X.fs)->X.s₀.heap.FunFrames X.base l->s.heap.FunFrames X.base l:=by
  intro l
  induction l with
  |nil=>intro _ _;trivial
  |cons env r j=>
   intro f h;have(g,(W5,o,d,hn,i,hd),hr):=h;have a:=f W5 (by unfold frs;rw[qJ,d];show aA);have(sl,e):=I.base.slot W5 o i (I.ok.frf W5 a) a λz=>I.ok.exfs W5 z a;show(g,(W5,_,d,hn,e,hd),j (λb c=>f b (by unfold frs;rw[qJ,d];show bj _ c)) hr)
 show all X.outer (λ_ c=>c) I.ok.funs
def Inv.stack{s:ah}(I:Inv X U C H s):s.heap.FunFrames X.base X.stack:=by
 rcases I.ok.stk with e |⟨e,hf⟩
 .rw[e];show I.funs
 .rw[e];have(m,hn,_):=I.loc;show .cons (by rw[I.ok.kind];decide) hf hn (Heap.get?_none_of_le (cN I.ok.bsz I.ok.above)) I.funs
def Inv.stkSub{s:ah}(I:Inv X U C H s):∀b∈frs X.stack,b∈X.env.locals::X.fs:=λb a=>by
 rcases I.ok.stk with e |⟨e,hf⟩
 .rw[e]at a;show bj _ a
 .rw[e]at a;unfold frs at a;rw[qJ,hf]at a;show a
def Inv.stkFree{s:ah}(I:Inv X U C H s):∀b∈frs X.stack,H b=ab:=λb a=>by
 rcases a9.mp (I.stkSub b a)with e |a
 .rw[e];show I.free
 .have(_,o,c,_):=I.ok.funs.mem a;show I.base.free b o c (I.ok.frf b a) λz=>I.ok.exfs b z a
variable{g':Array GenState}{t':Nat}{d':Drawn}
section
variable{s:ah}
def Inv.step{ch:LAd}(I:Inv X U C H s)
 (g:∀b∈ch,(b∈X.ex\/X.s₀.heap.objs.size<=b)/\b≠X.env.locals/\(∀x c,X.env.cells.lookup x=aa c->c≠b)/\∀p∈X.pn++U,p.1≠b)
 (keep:∀b o,b≠X.env.locals->b∉X.fs->b∉ch->s.heap.get? b=aa o->H b=ab->h'.get? b=aa o)
 (slot:∀b o,b≠X.env.locals->b∈X.fs->b∉ch->s.heap.get? b=aa o->H b=ab->∃sl,h'.get? b=aa {o with slots:=sl})(free:∀b o,b∉ch->s.heap.get? b=aa o->H b=ab->H' b=ab)
 (there:∀b o,b∉ch->s.heap.get? b=aa o->∃o',h'.get? b=aa o')
 (tups:∀b E,H b=aa (.tup E)->H' b=aa (.tup E))(frzs:∀b o u,H b=aa (.frz o u)->H' b=aa (.frz o u))(tbls:∀b ps,H b=aa (.tbl ps)->∃more,H' b=aa (.tbl (ps++more)))
 (ns:∀m,s.heap.Ns X.env.locals m->h'.Ns X.env.locals m)(hok:HOk X.prog X.w H' h')(T:kj g'):
  Inv X U C H' {s with heap:=h',gens:=g',drawn:=d',toks:=t'}:=by
 have J:∀b o,X.s₀.heap.get? b=aa o->b≠X.env.locals:=λb o e=>bY (fG (bD e) I.ok.above)
 have y:∀b o,X.s₀.heap.get? b=aa o->b∉X.ex->b∉ch:=λb o e a A=>by
  rcases(g b A).1 with z |z
  .show a z
  .show absurd (fG (bD e) z) (gE _)
 have f:∀x c,X.env.cells.lookup x=aa c->∀v,s.heap.IsCell c v->h'.IsCell c v:=λx c e v q_=>by
  have(o,B,hd):=q_;have h:=λz=>(g c z).2.2.1 x c e rfl
  by_cases M:c∈X.fs
  .have(sl,q):=slot c o (I.cne x c e) M h B (I.freeC x c e);show(_,q,hd)
  .show(o,keep c o (I.cne x c e) M h B (I.freeC x c e),hd)
 show(I.ok,I.os,T,(λb o e n A a=>(keep b o (J b o e) A (y b o e a) (I.base.keep b o e n A a) (I.base.free b o e n a)),λb o e n A a=>?_,λb o e n a=>?_,λb o e a=>?_,λb E e=>tups b E (I.base.tups b E e),λb o E e=>frzs b o E (I.base.frzs b o E e),λb ps e=>?_),?_,λx c e=>?_,?_,λx c e=>?_,λp N=>?_,hok,I.len)
 .have(sl,j):=I.base.slot b o e n A a;have(L,G):=slot b _ (J b o e) A (y b o e a) j (I.base.free b o e n a);show(L,G)
 .have(o',j):=I.base.there b o e a;show free b o' (y b o e a) j (I.base.free b o e n a)
 .have(o',j):=I.base.there b o e a;show there b o' (y b o e a) j
 .have(m1,j):=I.base.tbls b ps e;have(m2,G):=tbls b _ j;show(m1++m2,by rw[G,Array.append_assoc])
 .have(m,hn,Y):=I.loc;show(m,ns m hn,λi x v j G Q=>?_);have(u,r,l):=Y i x v j G Q;show(u,r,?_)
  rcases l with l |⟨k,c,e,z⟩
  .show .inl l
  .show .inr (k,c,e,f x c e _ z)
 .have(v,z):=I.cell x c e;show(v,f x c e v z)
 .have(m,(o,_,_,B,_),_):=I.loc;show free _ o (λz=>(g _ z).2.1 rfl) B I.free
 .have(v,o,B,hd):=I.cell x c e;show free c o (λz=>(g c z).2.2.1 x c e rfl) B (I.freeC x c e)
 .have(e,n,ne,nf,d):=I.pin p N;have h:=λz=>(g p.1 z).2.2.2 p N rfl;show(keep p.1 p.2 ne nf h e n,free p.1 p.2 h e n,ne,nf,d)
end
section
variable{s:ah}
def Inv.un(I:Inv X U C H s)(u:Un X.fs [] H H' s.heap h')(hok:HOk X.prog X.w H' h'):Inv X U C H' {s with heap:=h',toks:=t'}:=by
 have(m,(o,es,i,f,r),_):=id I.loc;have(sl,g):=u.any f I.free (by simp)
 show I.step (ch:=[]) (λ_ z=>nomatch z) (λb o _ d _ e n=>u.keep b o e n d (by simp)) (λb o _ d _ e n=>u.slot b o e n d (by simp)) (λb o _ e n=>u.free b o e n (by simp)) (λb o _ e=>u.there b o e (by simp)) u.tups u.frzs u.tbls (λj hm=>by
  have(o',es',c,a,h):=hm;rw[f]at a;cases a;show(_,es',c,g,h)) hok I.bare
end
section
variable{s:ah}
def Inv.call{ch:LAd}(I:Inv X U C H s)(u:Un (frs X.stack) ch H H' s.heap h')(hok:HOk X.prog X.w H' h')(l:kj g')
 (d:∀b∈ch,(b∈X.ex\/X.s₀.heap.objs.size<=b)/\b≠X.env.locals/\(∀x c,X.env.cells.lookup x=aa c->c≠b)/\∀p∈X.pn++U,p.1≠b):
  Inv X U C H' {s with heap:=h',gens:=g',drawn:=d',toks:=t'}:=by
 have(m,(o,es,v,i,r),_):=id I.loc;have(sl,h):=u.any i I.free λz=>(d _ z).2.1 rfl
 show I.step d (λb o h j a e n=>u.keep b o e n (λz=>(a9.mp (I.stkSub b z)).elim h j) a) (λb o _ _ a e n=>u.any e n a) (λb o a e n=>u.free b o e n a) (λb o a e=>u.there b o e a) u.tups u.frzs u.tbls (λy hm=>by
  have(o',es',g,f,q):=hm;rw[i]at f;cases f;show(_,es',g,h,q)) hok l
end
variable{it:Addr}
section
variable{s:ah}
def Inv.turned(I:Inv X U C H s)(k:∀b o,b≠it->s.heap.get? b=aa o->h'.get? b=aa o)(hn:H it=ab)(f:it≠X.env.locals)
 (h1:it∈X.ex\/X.s₀.heap.objs.size<=it)(h2:∀x c,X.env.cells.lookup x=aa c->c≠it)(h:∀p∈X.pn++U,p.1≠it):Inv X U C H {s with heap:=h',toks:=t'}:=by
 have d:∀b u,H b=aa u->b≠it:=λb u e z=>by rw[z,hn]at e;nomatch e
 show I.step (ch:=[it]) (λb i=>?_) (λb o _ _ a e _=>k b o (λz=>a (by simp[z])) e) (λb o _ _ a e _=>(o.slots,k b o (λz=>a (by simp[z])) e)) (λ_ _ _ _ n=>n)
  (λb o a e=>(o,k b o (λz=>a (by simp[z])) e)) (λ_ _ e=>e) (λ_ _ _ e=>e) (λb ps e=>(#[],by rw[e];simp)) (λm hm=>?_) (λb u e=>?_) I.bare
 .have e:b=it:=by simpa using i
  subst e;show(h1,f,h2,h)
 .have(o,es,g,j,r):=hm;show(o,es,g,k _ o (eV f) j,r)
 .show(I.hok b u e).stay (λc v a q=>k c v ?_ q) (λ_ q=>q) λ_ _ q=>q
  rcases a with z |z
  .rw[z];show d b u e
  .show d c _ z
end
section
variable{s:ah}
def Inv.tok(I:Inv X U C H s)(t:Nat):Inv X U C H {s with toks:=t}:=I.un Un.refl I.hok
end
section
variable{s:ah}
def Inv.kept(I:Inv X U C H s)(k:∀b u,s.heap.get? b=aa u->h'.get? b=aa u):Inv X U C H {s with heap:=h',toks:=t'}:=I.un (Un.kept k) (I.hok.kept k)
end
section
variable{s:ah}
def Inv.laid{o:HO}(I:Inv X U C H s)(k:∀b u,s.heap.get? b=aa u->h'.get? b=aa u)(c:s.heap.objs.size<=a)(new:dX X.prog X.w (upd H a o) h' a o):
  Inv X U C (upd H a o) {s with heap:=h',toks:=t'}:=I.un (Un.laid k c (I.hok.fresh c)) (I.hok.laid k c new)
end
section
variable{s:ah}
def Inv.write{o:HO}(I:Inv X U C H s)(d:Mut (H x))(c:e=x\/H e=aa (.own x))(k:∀b u,b≠e->s.heap.get? b=aa u->h'.get? b=aa u)(a:∃u,h'.get? e=aa u)
 (new:dX X.prog X.w (upd H x o) h' x o):Inv X U C (upd H x o) {s with heap:=h',toks:=t'}:=I.un (Un.write d c k a) (I.hok.write d c k a new)
end
def Inv.pins_of{s:ah}{a:PNS}(I:Inv X U C H s)(h:∀p∈a,s.heap.get? p.1=aa p.2/\H p.1=ab/\p.1≠X.env.locals/\p.1∉X.fs/\∀v,p.2.data≠.cell v):Inv X a C H s:=
 (I.ok,I.os,I.bare,I.base,I.loc,I.cell,I.free,I.freeC,λp b=>(bx.mp b).elim (λz=>I.pin p (b8 _ z)) (h p),I.hok,I.len)
variable{N:LSt}{i:Nat}{x:Str}
def EO(e:N.Nodup){j:Nat}(a:N[i]?=aa x)(b:N[j]?=aa x):i=j:=by
 have(h1,c):=cM.mp a;have(h2,d):=cM.mp b;show(List.getElem_inj e).mp (c.trans d.symm)
variable{W4:Model}{u:Value}{Q:Unit->ah->Prop}
section
variable{s:ah}
def EQ(I:Inv X U C H s)(hN:X.N.Nodup)(hi:X.N[i]?=aa x)(B:Loc X.env.scope x)(r:aC v u)
 (h:∀s',Inv X U (C.set i (aa v)) H s'->(∃a,gm a s.heap s'.heap/\(a=X.env.locals\/X.env.cells.lookup x=aa a))->Q () s')(hf:autoParam (LcF X x) Zh):wpAny W4 A (storeName X.env x u) Q W7 s:=by
 have(m,hn,hl):=id I.loc;have hcls:(X.env.scope.kind==.class || (X.env.scope.kind==.module && X.env.locals != X.env.globals))=af:=by rw[I.ok.kind];rfl
 have J:i<Z C:=by rw[I.len];show(cM.mp hi).1
 have cne:=I.cne
 have l:∀{a:Addr} {h':Heap},(∃o,s.heap.get? a=aa o/\H a=ab)->gm a s.heap h'->HOk X.prog X.w H h':=λ{a h'} ha f b ob e=>by
  have(_,_,hfree):=ha;show(I.hok b ob e).stay (λc w' E q=>(f.2 c ?_).trans q) (λ_ q=>q) λ_ _ q=>q
  grind
 rcases B with hk |hk
 .show wpAny_storeName_local hk hn (λh' hn' f=>?_) hcls;have(oL,_,_,hoL,_):=id hn;show h _ (I.ok,I.os,I.bare,(λb o e n L B=>((f.2 b (bY (fG (bD e) I.ok.above))).trans (I.base.keep b o e n L B)),λb o e n L B=>?_,I.base.free,λb o e B=>?_,I.base.tups,I.base.frzs,I.base.tbls),(_,hn',λj y v' g G e3=>?_),λy c e=>?_,I.free,I.freeC,λp hp=>?_,l (oL,hoL,I.free) f,by simpa using I.len) (_,f,.inl rfl)
  .have(sl,g):=I.base.slot b o e n L B;show(sl,(f.2 b (bY (fG (bD e) I.ok.above))).trans g)
  .have(o',g):=I.base.there b o e B;show(o',(f.2 b (bY (fG (bD e) I.ok.above))).trans g)
  .by_cases T:j=i
   .subst T;rw[hi]at g;cases g;rw[kf J]at G;cases G;show(u,r,.inl (hk,by simp))
   .rw[lg (eV T)]at G;have(u',r',q):=hl j y v' g G e3;show(u',r',?_)
    rcases q with⟨k,e⟩ |⟨k,c,e,z⟩
    .show .inl (k,?_);have:y≠x:=λe=>T (EO hN g (e▸hi))
     grind
    .show .inr (k,c,e,z.sameBut f (cne y c e))
  .have(w',z):=I.cell y c e;show(w',z.sameBut f (cne y c e))
  .have(e,n,ne,nf,d):=I.pin p hp;show((f.2 p.1 ne).trans e,n,ne,nf,d)
 .have M:X.fn x=ac:=by
   grind
  have(c,E):=I.ok.has x (.inl hk);have(w',z):=I.cell x c E;show wpAny_storeName_cell I.ok.kind hk E z (λh' Y f=>?_);have(oc,hoc,hocd):=id z
  show h {s with heap:=h'} (I.ok,I.os,I.bare,(λb o e n L B=>((f.2 b (bY (fG (bD e) (I.ok.cab x c M E)))).trans (I.base.keep b o e n L B)),λb o e n L B=>?_,I.base.free,λb o e B=>?_,I.base.tups,I.base.frzs,I.base.tbls),(m,hn.sameBut f (eV (cne x c E)),λj y v' g G e3=>?_),λy c' e=>?_,I.free,I.freeC,λp hp=>?_,l (oc,hoc,I.freeC x c E) f,by simpa using I.len) (c,f,.inr E)
  .have(sl,g):=I.base.slot b o e n L B;show(sl,(f.2 b (bY (fG (bD e) (I.ok.cab x c M E)))).trans g)
  .have(o',g):=I.base.there b o e B;show(o',(f.2 b (bY (fG (bD e) (I.ok.cab x c M E)))).trans g)
  .by_cases T:j=i
   .subst T;rw[hi]at g;cases g;rw[kf J]at G;cases G;show(u,r,.inr (.inl hk,c,E,Y))
   .rw[lg (eV T)]at G;have(u',r',q):=hl j y v' g G e3;show(u',r',?_)
    rcases q with q |⟨k,c',e,z'⟩
    .show .inl q
    .show .inr (k,c',e,z'.sameBut f ?_);rintro rfl;show T (EO hN g (I.ok.inj _ _ _ e E▸hi))
  .by_cases hcc:c'=c
   .subst hcc;show(_,Y)
   .have(w2,z2):=I.cell y c' e;show(w2,z2.sameBut f hcc)
  .have(e,n,ne,nf,d):=I.pin p hp;show((f.2 p.1 ?_).trans e,n,ne,nf,d);intro q;rw[q,hoc]at e;show d w' (by rw[<- (du e)];show hocd)
end
def xO{s:ah}(I:Inv X U C H s)(c:X.N.Nodup)(hi:X.N[i]?=aa x)(e:Loc X.env.scope x)(r:aC v u)
 (h:∀a,Inv X U (C.set i (aa v)) H a->Q () a)(d:autoParam (LcF X x) Zh):wpAny W4 A (storeName X.env x u) Q W7 s:=
 EQ I c hi e r (λa b _=>h a b) d
variable{s':ah}
def Inv.call'{s:ah}{ch:LAd}(I:Inv X U C H s)(e:s'.os=s.os)(u:Un (frs X.stack) ch H H' s.heap s'.heap)(hok:HOk X.prog X.w H' s'.heap)(d:kj s'.gens)
 (a:∀b∈ch,(b∈X.ex\/X.s₀.heap.objs.size<=b)/\b≠X.env.locals/\(∀x c,X.env.cells.lookup x=aa c->c≠b)/\∀p∈X.pn++U,p.1≠b):Inv X U C H' s':=by
 have(h',g',d',t',o'):=s';subst e;show I.call u hok d a
nonrec def XK:=Value->Option Addr->Hp->Prop
nonrec def St:=List (Option V)
nonrec def VK:=V->Hp->Prop
nonrec def TE:=St->Hp->VK->Prop
nonrec def TT:=St->Hp->(Bool->Hp->Prop)->Prop
nonrec def TA:=St->Hp->(LVv->Hp->Prop)->Prop
structure jm where
 nx:St->Hp->Prop
 rt:VK
 bk:St->Hp->Prop:=λ_ _=>False
 ct:St->Hp->Prop:=λ_ _=>False
nonrec def TS:=jm->St->Hp->Prop
def EP(X:Cx)(U:PNS)(C:St)(Q:VK)(u:Value)(s':ah):Prop:=∃v H',Inv X U C H' s'/\aC v u/\Q v H'
def TP(X:Cx)(U:PNS)(C:St)(Q:Bool->Hp->Prop)(b:Bool)(s':ah):Prop:=∃H',Inv X U C H' s'/\Q b H'
def AP(X:Cx)(U:PNS)(C:St)(Q:LVv->Hp->Prop)(us:LVa)(s':ah):Prop:=∃vs H',Inv X U C H' s'/\aH vs us/\Q vs H'
def SP(X:Cx)(U:PNS)(D:jm)(f:Flow)(s':ah):Prop:=
 match f with
 |.next=>∃σ' H',Inv X U σ' H' s'/\D.nx σ' H'
 |.brk=>∃σ' H',Inv X U σ' H' s'/\D.bk σ' H'
 |.cont=>∃σ' H',Inv X U σ' H' s'/\D.ct σ' H'
 |.ret u=>∃v σ' H',Inv X U σ' H' s'/\aC v u/\D.rt v H'
def PE(X:Cx)(e:Expr)(t:TE):Prop:=
 ∀(U:PNS) (s:ah) (C:St) (H:Hp) (Q:VK),Inv X U C H s->t C H Q->wpAny (model X.prog X.w) X.A (eval e X.env) (EP X U C Q) X.xe s
def PT(X:Cx)(e:Expr)(t:TT):Prop:=
 ∀(U:PNS) (s:ah) (C:St) (H:Hp) (Q:Bool->Hp->Prop),Inv X U C H s->t C H Q->wpAny (model X.prog X.w) X.A (isTrue e X.env (eval e X.env)) (TP X U C Q) X.xe s
def PW(X:Cx)(e:Expr)(t:TT):Prop:=
 ∀(a:Sem Value) (U:PNS) (s:ah) (C:St) (H:Hp) (Q:Bool->Hp->Prop),Inv X U C H s->t C H Q->wpAny (model X.prog X.w) X.A (isTrue e X.env a) (TP X U C Q) X.xe s
variable{e:Expr}
def PW.pt{t:TT}(h:PW X e t):PT X e t:=h _
def PA(X:Cx)(es:LEx)(t:TA):Prop:=
 ∀(pos:Pos) (U:PNS) (s:ah) (C:St) (H:Hp) (Q:LVv->Hp->Prop),Inv X U C H s->t C H Q->wpAny (model X.prog X.w) X.A (spliced (cj pos (aL es X.env))) (AP X U C Q) X.xe s
def PS(X:Cx)(st:Stmt)(t:TS):Prop:=
 ∀(U:PNS) (s:ah) (C:St) (H:Hp) (D:jm),Inv X U C H s->t D C H->wpAny (model X.prog X.w) X.A (exec st X.env) (SP X U D) X.xe s
def PSs(X:Cx)(st:List Stmt)(t:TS):Prop:=
 ∀(U:PNS) (s:ah) (C:St) (H:Hp) (D:jm),Inv X U C H s->t D C H->wpAny (model X.prog X.w) X.A (execs st X.env) (SP X U D) X.xe s
def thn{c:Type}{t:Sem c}{Q b:c->ah->Prop}{s:ah}(h:wpAny W4 A t Q W7 s)(d:∀a s,Q a s->b a s):wpAny W4 A t b W7 s:=fS h d λ_ _ x=>x
def cT(i:Nat):TE:=λC H Q=>∃v,C[i]?=aa (aa v)/\Q v H
def tC(v:V):TE:=λ_ H Q=>Q v H
variable{pos:Pos}
def mQ(g:X.N[i]?=aa x)(hv:Vis X.env.scope x)(hd:autoParam (NDb x) Zc)(d:autoParam (NCd x) Zc):PE X (.Name x pos) (cT i):=by
 intro U s C H Q I h;have(v,e,h):=h;have(m,hn,j):=I.loc;have(u,r,l):=j i x v g e hv;have fin:EP X U C Q u s:=(v,H,I,r,h)
 rcases l with⟨b,hm⟩ |⟨b,c,f,a⟩
 .show wpAny_Name (wpAny_loadName_local I.ok.kind b hn hm fin) hd
 .rcases b with b |b
  .show wpAny_Name (wpAny_loadName_cell I.ok.kind b f a fin) hd
  .show wpAny_Name (wpAny_loadName_free I.ok.kind b f a fin d) hd
def ER{i j pos}:PE X (.Constant (.int i) j pos) (tC (.int i)):=λ_ _ _ H _ I h=>wpAny_Constant_int (.int i,H,I.tok _,(_,rfl),h)
def Lf{b j pos}:PE X (.Constant (.bool b) j pos) (tC (.bl b)):=λ_ _ _ H _ I h=>Constant_bool (.bl b,H,I,rfl,h)
def Lg{j pos}:PE X (.Constant .none j pos) (tC .non):=λ_ _ _ H _ I h=>Constant_none (.non,H,I,rfl,h)
def Lh{x j pos}:PE X (.Constant (.str x) j pos) (tC (.str x)):=λ_ _ _ H _ I h=>Calls.Constant_str (.str x,H,I.tok _,(_,rfl),h)
def Gl(X:Cx)(x:Str):Prop:=X.env.kindOf x=aa .globalImplicit
variable{C:St}
def xP{s:ah}{Q:PRS}(I:Inv X U C H s)(a:Gl X x)(hm:X.mg x=aa u)(h:Q u s)
 (hd:autoParam (NDb x) Zc):wpAny (model X.prog X.w) X.A (eval (.Name x pos) X.env) Q W7 s:=
 Calls.Name_function_global I.ok.kind a (Calls.loadGlobal_global (by rw[I.ok.glob];show I.mod.glob.keeps I.bk) hm h) hd
def gJ{s:ah}{Q:PRS}(I:Inv X U C H s)(a:Gl X x)(hm:X.mg x=ab)(hv:jb x=aa u)(h:Q u s)
 (hn:autoParam (x ≠ "__name__") Zc)(hd:autoParam (NDb x) Zc):wpAny (model X.prog X.w) X.A (eval (.Name x pos) X.env) Q W7 s:=by
 have(mb,h1,h2):=I.mod.blt;show Calls.Name_function_global I.ok.kind a (Calls.loadGlobal_builtin (by rw[I.ok.glob];show I.mod.glob.keeps I.bk) hm (by rw[I.ok.blt];show h1.keeps I.bk) ((h2 x hn).trans hv) h) hd
def Li(a:Gl X x)(hm:X.mg x=ab)(hv:jb x=aa u)(r:aC v u)(hn:autoParam (x ≠ "__name__") Zc)(hd:autoParam (NDb x) Zc):PE X (.Name x pos) (tC v):=
 λ_ _ _ H _ I h=>gJ I a hm hv (v,H,I,r,h) hn hd
abbrev t2I(a b:TE)(k:Int->Int->Hp->Prop):St->Hp->Prop:=λC H=>a C H λx H1=>b C H1 λy H2=>∃i j,x=.int i/\y=.int j/\k i j H2
def gK(a b:TE):TE:=λC H Q=>t2I a b (λi j H2=>Q (.int (i+j)) H2) C H
def PC(X:Cx)(op:CmpOp)(a b:Expr)(t:TE):Prop:=
 ∀(U:PNS) (s:ah) (C:St) (H:Hp) (Q:VK),Inv X U C H s->t C H Q ->
  wpAny (model X.prog X.w) X.A (eval a X.env) (λv c=>wpAny (model X.prog X.w) X.A (eval b X.env) (λu d=>wpAny (model X.prog X.w) X.A (cY op v u) (EP X U C Q) X.xe d) X.xe c) X.xe s
variable{op:CmpOp}
def ES(b:Expr)(h:op≠.In)(h2:op≠.NotIn):jU op b=af:=by
 have a:(op==CmpOp.In)=af:=by grind
 have c:(op==CmpOp.NotIn)=af:=by grind
 cases b <;> simp[jU,a,c]
variable{a b:Expr}
def Lj{t:TE}(h:PC X op a b t)(h1:autoParam (jU op b=af) Zl):PE X (.Compare a [op] [b] pos) t:=λU s C H Q I c=>wpAny_Compare1 (h U s C H Q I c) h1
def Lk(t u:TT):TT:=λC H Q=>t C H λc H1=>if c=ac then u C H1 Q else Q af H1
def tOr(t u:TT):TT:=λC H Q=>t C H λc H1=>if c=ac then Q ac H1 else u C H1 Q
def Ll(t:TT):TT:=λC H Q=>t C H λc H1=>Q (!c) H1
variable{tA:TT}
def Lm(ha:PT X a tA):PW X (.BoolOp .And [a] pos) tA:=by
 intro wh U s C H Q I h;show isTrue_and (thn (ha U s C H Q I h) λc s1 e=>?_)
 cases c with
 |true=>show isTrue_and_nil e
 |false=>show e
def Ln(ha:PT X a tA):PW X (.BoolOp .Or [a] pos) tA:=by
 intro wh U s C H Q I h;show isTrue_or (thn (ha U s C H Q I h) λc s1 e=>?_)
 cases c with
 |false=>show isTrue_or_nil e
 |true=>show e
variable{tB':TT}
def Lo{rest:LEx}(ha:PT X a tA)(f:PW X (.BoolOp .And (b::rest) pos) tB'):PW X (.BoolOp .And (a::b::rest) pos) (Lk tA tB'):=by
 intro wh U s C H Q I h;show isTrue_and (thn (ha U s C H _ I h) λc s1 g=>?_);have(H1,d,e):=g
 cases c with
 |true=>show f wh U s1 C H1 Q d e
 |false=>show(H1,d,e)
def Lp{rest:LEx}(ha:PT X a tA)(f:PW X (.BoolOp .Or (b::rest) pos) tB'):PW X (.BoolOp .Or (a::b::rest) pos) (tOr tA tB'):=by
 intro wh U s C H Q I h;show isTrue_or (thn (ha U s C H _ I h) λc s1 g=>?_);have(H1,d,e):=g
 cases c with
 |true=>show(H1,d,e)
 |false=>show f wh U s1 C H1 Q d e
def Lq(ha:PT X a tA):PT X (.UnaryOp .Not a pos) (Ll tA):=by
 intro U s C H Q I h;show isTrue_not (ha U s C H _ I h)
def Lr(a b:TE):TE:=λC H Q=>a C H λx H1=>∃c,x=.bl c/\if c=ac then b C H1 Q else Q (.bl af) H1
def Lu(a b:TE):TE:=λC H Q=>a C H λx H1=>∃c,x=.bl c/\if c=ac then Q (.bl ac) H1 else b C H1 Q
def Lv(a:TE):TE:=λC H Q=>a C H λx H1=>∃c,x=.bl c/\Q (.bl (!c)) H1
def Lw{op}{t:TE}(h:PE X a t):PE X (.BoolOp op [a] pos) t:=λU s C H Q I b=>BoolOp_one (h U s C H Q I b)
variable{ta tb:TE}
def Lx{rest:LEx}(ha:PE X a ta)(f:PE X (.BoolOp .And (b::rest) pos) tb):PE X (.BoolOp .And (a::b::rest) pos) (Lr ta tb):=by
 intro U s C H Q I h;show BoolOp_and (thn (ha U s C H _ I h) λv s1 g=>?_);have(x,H1,e,i,d):=g;have(c,rfl,d):=d;subst i;show oH ?_
 cases c with
 |true=>show f U s1 C H1 Q e d
 |false=>show(.bl af,H1,e,rfl,d)
def Ly{rest:LEx}(ha:PE X a ta)(f:PE X (.BoolOp .Or (b::rest) pos) tb):PE X (.BoolOp .Or (a::b::rest) pos) (Lu ta tb):=by
 intro U s C H Q I h;show BoolOp_or (thn (ha U s C H _ I h) λv s1 g=>?_);have(x,H1,e,i,d):=g;have(c,rfl,d):=d;subst i;show oH ?_
 cases c with
 |false=>show f U s1 C H1 Q e d
 |true=>show(.bl ac,H1,e,rfl,d)
def Lz(ha:PE X a ta):PE X (.UnaryOp .Not a pos) (Lv ta):=by
 intro U s C H Q I h;show UnaryOp_ (thn (ha U s C H _ I h) λv s1 e=>?_);have(x,H1,d,f,b):=e;have(c,rfl,b):=b;subst f;show not_of (oH (.bl (!c),H1,d,rfl,b))
def tIf(t:TT)(ta tb:TE):TE:=λC H Q=>t C H λc H1=>if c=ac then ta C H1 Q else tb C H1 Q
variable{c:Expr}
def ET(i:PT X c tA)(ha:PE X a ta)(g:PE X b tb):PE X (.IfExp c a b pos) (tIf tA ta tb):=by
 intro U s C H Q I h;show wpAny_IfExp (thn (i U s C H _ I h) λd s1 j=>?_);have(H1,e,f):=j
 cases d with
 |true=>show ha U s1 C H1 Q e f
 |false=>show g U s1 C H1 Q e f
def SqL(K:aR)(H:Hp)(a:Addr)(E:LVv):Prop:=
 Rd H a (.lst E) \/
  ∃(o:Obj) (L:Array Value) (n:Nat),K.lookup a=aa o/\o.cls=.type "list" /\ o.dict=ab/\o.data=.seq L n/\L.size<=aU/\aH E L.toList
def SqT(K:aR)(H:Hp)(a:Addr)(E:LVv):Prop:=
 Rd H a (.tup E) \/
  ∃(o:Obj) (L:Array Value) (n:Nat),K.lookup a=aa o/\o.cls=.type "tuple" /\ o.data=.seq L n/\L.size<=aU/\aH E L.toList
abbrev LA:Value->Option V
 |.none=>aa .non
 |.bool b=>aa (.bl b)
 |.int i _=>aa (.int i)
 |.str x _=>aa (.str x)
 |.bytes b _=>aa (.byt b)
 |.float b _=>aa (.flt b)
 |.ref a=>aa (.ref a)
 |.type n=>aa (.ty n)
 | _=>ab
def aC.abs{x:V}(r:aC x u):LA u=aa x:=by
 cases x with
 |non=>subst r;rfl
 |bl _=>subst r;rfl
 |int _=>have(t,rfl):=r;rfl
 |str _=>have(t,rfl):=r;rfl
 |byt _=>have(t,rfl):=r;rfl
 |flt _=>have(t,rfl):=r;rfl
 |ref _=>subst r;rfl
 |ty _=>subst r;rfl
variable{y:V}
def aC.inj{x:V}(r:aC x u)(q:aC y u):x=y:=du (r.abs.symm.trans q.abs)
def aH.inj:∀{E a:LVv} {us:LVa},aH E us->aH a us->E=a
 | _,_,_,.nil,.nil=>rfl
 | _,_,_,.cons r t,.cons r' t'=>by rw[r.inj r',aH.inj t t']
variable{a:Addr}{K:aR}
def SqL.of(h:H a=aa (.lst E)):SqL K H a E:=.inl (.inl h)
def SqT.of(h:H a=aa (.tup E)):SqT K H a E:=.inl (.inl h)
def Inv.list{s:ah}(I:Inv X U C H s)(h:SqL X.K H a E):∃L:LVa,aH E L/\PlainL s.heap a L.toArray/\Z E<=aU:=by
 rcases h with h |⟨o,L,n,hk,hc,hd,hs,hz,r⟩
 .have(z,L,n,r,e):=h.ok I.hok;show(L,r,(_,n,e,rfl,rfl,rfl),z)
 .show(L.toList,r,(o,n,I.kIn a o hk,hc,hd,by simpa using hs),?_);have e:=r.length
  grind
def Inv.tuple{s:ah}(I:Inv X U C H s)(h:SqT X.K H a E):∃L:LVa,aH E L/\IsTup s.heap a L.toArray/\Z E<=aU:=by
 rcases h with h |⟨o,L,n,hk,hc,hs,hz,r⟩
 .have(z,L,r,p):=h.ok I.hok;show(L,r,p,z)
 .show(L.toList,r,(o,I.kIn a o hk,hc,n,by simpa using hs),?_);have e:=r.length;simp only[i6]at e
  lia
variable{ys:LVv}
def Inv.list_inj{s:ah}(I:Inv X U C H s)(h:SqL X.K H a E)(h':SqL X.K H a ys):E=ys:=by
 have(L,r,(o,n,e,_,_,d),_):=I.list h;have(b,c,(o',f,e',_,_,d'),_):=I.list h';rw[e]at e';cases e';rw[d]at d'
 injection d' with d1 _
 have:L=b:=by simpa using congrArg Array.toList d1
 subst this;show r.inj c
def Inv.tuple_inj{s:ah}(I:Inv X U C H s)(h:SqT X.K H a E)(h':SqT X.K H a ys):E=ys:=by
 have(L,r,(o,e,_,n,d),_):=I.tuple h;have(b,c,(o',e',_,f,d'),_):=I.tuple h';rw[e]at e';cases e';rw[d]at d'
 injection d' with d1 _
 have:L=b:=by simpa using congrArg Array.toList d1
 subst this;show r.inj c
nonrec def Cx.wish(X:Cx)(W7:PRS):Cx:={X with xe:=W7}
nonrec def Cx.nox(X:Cx):Cx:=X.wish λ_ _=>False
def Cx.Ok.wish(ok:X.Ok)(W7:PRS):(X.wish W7).Ok:=
 (ok.mod,ok.kind,ok.glob,ok.blt,ok.above,ok.inj,ok.has,ok.cab,ok.hd,ok.frames,ok.stk,ok.exf,ok.bs,ok.bsz,ok.noex,ok.exfs,ok.funs,ok.frf)
def Cx.Ok.unwish(ok:(X.wish W7).Ok):X.Ok:=
 (ok.mod,ok.kind,ok.glob,ok.blt,ok.above,ok.inj,ok.has,ok.cab,ok.hd,ok.frames,ok.stk,ok.exf,ok.bs,ok.bsz,ok.noex,ok.exfs,ok.funs,ok.frf)
def Inv.wish{s:ah}(I:Inv X U C H s)(W7:PRS):Inv (X.wish W7) U C H s:=(I.ok.wish W7,I.os,I.bare,I.base,I.loc,I.cell,I.free,I.freeC,I.pin,I.hok,I.len)
def Inv.unwish{s:ah}(I:Inv (X.wish W7) U C H s):Inv X U C H s:=(I.ok.unwish,I.os,I.bare,I.base,I.loc,I.cell,I.free,I.freeC,I.pin,I.hok,I.len)
def SP.unwish{D:jm}{f:Flow}(h:SP (X.wish W7) U D f s'):SP X U D f s':=by
 cases f with
 |next=>have(σ',H',I,q):=h;show(σ',H',I.unwish,q)
 |brk=>have(σ',H',I,q):=h;show(σ',H',I.unwish,q)
 |cont=>have(σ',H',I,q):=h;show(σ',H',I.unwish,q)
 |ret u=>have(v,σ',H',I,r,q):=h;show(v,σ',H',I.unwish,r,q)
def PSs.nox{st:List Stmt}{t:TS}(h:PSs X.nox st t):PSs X st t:=λU s C H D I a=>
 fS (h U s C H D (I.wish _) a) (λ_ _ q=>q.unwish) λ_ _ z=>g7 z
def LB:TS:=λD C H=>D.nx C H
def LC(t u:TS):TS:=λD C H=>t {D with nx:=u D} C H
def EU:PSs X [] LB:=λ_ _ C H _ I h=>ub (C,H,I,h)
variable{st:Stmt}{u:TS}
def uv{rest:List Stmt}{t:TS}(h1:PS X st t)(h2:PSs X rest u):PSs X (st::rest) (LC t u):=by
 intro U s C H D I h
 show wpAny_execs_cons (thn (h1 U s C H {D with nx:=u D} I h) λf s1 q=>?_)
 cases f with
 |next=>
  have(σ',H',a,q):=q
  show h2 U s1 σ' H' D a q
 |ret v=>show q
 |brk=>show q
 |cont=>show q
def EV{t:TS}(h1:PS X st t):PSs X [st] t:=by
 intro U s C H D I h;show wpAny_execs_cons (thn (h1 U s C H D I h) λf s1 q=>?_)
 cases f with
 |next=>show ub q
 |ret v=>show q
 |brk=>show q
 |cont=>show q
def Inv.quiet{s:ah}(I:Inv X U C H s):interactive X.env=af:=by simp[interactive,I.ok.kind]
def mR(te:TE):TS:=λD C H=>te C H λ_ H1=>D.nx C H1
variable{te:TE}
def kC(b:PE X e te)(c:autoParam (gi e ab pos.line X.env=pure af) Zb):PS X (.Expr e pos) (mR te):=by
 intro U s C H D I h;show wpAny_Expr_any (thn (b U s C H _ I h) λv s1 (x,H1,a,f,d)=>(C,H1,a,d)) I.quiet c
def LF(te:TE):TS:=λD C H=>te C H D.rt
def uw(b:PE X e te):PS X (.Return (aa e) pos) (LF te):=by
 intro U s C H D I h;show wpAny_Return_some (thn (b U s C H _ I h) λv s1 (x,H1,a,d,c)=>(x,C,H1,a,d,c))
def LG(c:TT)(t u:TS):TS:=λD C H=>c C H λb H1=>if b=ac then t D C H1 else u D C H1
variable{tc:TT}
def LH{t:TS}{a b:List Stmt}(i:PT X c tc)(ha:PSs X a t)(g:PSs X b u):PS X (.If c a b pos) (LG tc t u):=by
 intro U s C H D I h;show wpAny_If (thn (i U s C H _ I h) λd s1 j=>?_);have(H1,e,f):=j
 cases d with
 |true=>show ha U s1 C H1 D e f
 |false=>show g U s1 C H1 D e f
nonrec def TG:=V->St->Hp->(St->Hp->Prop)->Prop
nonrec def TGs:=LVv->St->Hp->(St->Hp->Prop)->Prop
def PG(X:Cx)(a:Expr)(t:TG):Prop:=
 ∀(U:PNS) (s:ah) (C:St) (H:Hp) (v:V) (u:Value) (Q:St->Hp->Prop),Inv X U C H s->aC v u->t v C H Q ->
  wpAny (model X.prog X.w) X.A (assign a X.env u) (λ_ s'=>∃σ' H',Inv X U σ' H' s'/\Q σ' H') X.xe s
def PGs(X:Cx)(ts:LEx)(t:TGs):Prop:=
 ∀(U:PNS) (s:ah) (C:St) (H:Hp) (vs:LVv) (us:LVa) (Q:St->Hp->Prop),Inv X U C H s->aH vs us->t vs C H Q ->
  wpAny (model X.prog X.w) X.A (assignInOrder ((jc ts X.env).map (·.2)) us) (λ_ s'=>∃σ' H',Inv X U σ' H' s'/\Q σ' H') X.xe s
nonrec def xQ:=V->V->V->Hp->(Hp->Prop)->Prop
def EW(X:Cx)(t:xQ):Prop:=
 ∀(U:PNS) (s:ah) (C:St) (H:Hp) (o i v:V) (b a u:Value) (Q:Hp->Prop),Inv X U C H s->aC o b->aC i a->aC v u->t o i v H Q ->
  wpAny (model X.prog X.w) X.A (setItem b a u) (λ_ s'=>∃H',Inv X U C H' s'/\Q H') X.xe s
nonrec def TIp:=V->V->Hp->VK->Prop
def PIp(X:Cx)(op:Operator)(t:TIp):Prop:=
 ∀(U:PNS) (s:ah) (C:St) (H:Hp) (x y:V) (v u:Value) (Q:VK),Inv X U C H s->aC x v->aC y u->t x y H Q ->
  wpAny (model X.prog X.w) X.A (inplaceOp op v u) (EP X U C Q) X.xe s
def ig(i:Nat):TG:=λv C H Q=>Q (C.set i (aa v)) H
def xR(b:X.N.Nodup)(hi:X.N[i]?=aa x)(d:Loc X.env.scope x)(c:autoParam (LcF X x) Zh):PG X (.Name x pos) (ig i):=by
 intro U s C H v u Q I r h;show wpAny_assign_Name (xO I b hi d r (λs' a=>(_,H,a,h)) c)
def LI:TGs:=λvs C H Q=>vs=[]/\Q C H
def LJ(t:TG)(u:TGs):TGs:=λvs C H Q=>∃v r,vs=v::r/\t v C H λσ' H'=>u r σ' H' Q
def LK:PGs X [] LI:=by
 intro U s C H vs us Q I r h;have(e,h):=h;show assignInOrder_nil (C,H,I,h)
variable{es:LEx}
def LL{t:TG}{u:TGs}(h1:PG X e t)(h2:PGs X es u)
 (d:autoParam ((jc (e::es) X.env).map (·.2)=assign e X.env::(jc es X.env).map (·.2)) Zb):PGs X (e::es) (LJ t u):=by
 intro U s C H vs us Q I r h;have(v,i,c,h):=h;subst c
 cases r with
 |cons r g=>
  rw[d];show assignInOrder_cons (thn (h1 U s C H _ _ _ I r h) λ_ s1 (a,H1,b,f)=>(h2 U s1 a H1 _ _ Q b g f))
def LM(K:aR)(n:Nat)(t:TGs):TG:=λv C H Q=>∃a E,v=.ref a/\SqT K H a E/\Z E=n/\t E C H Q
def LO{k:Nat}{t:TGs}{n:Nat}(i:X.calm=ac)(h:PGs X es t)
 (hn:autoParam (Z (jc es X.env)=n) Zb)(c:autoParam ((jc es X.env).findIdx? (·.1)=ab) Zb):PG X (.Tuple es k pos) (LM X.K n t):=by
 intro U s C H v u Q I r d;have(a,E,g,l,j,d):=d;subst g;subst r;have(L,f,m,hz):=I.tuple l;show assign_Tuple_tuple (I.ok.hd i) m (by simp[hn,<- j,f.length]) c λh' p=>?_;show h U _ C H E _ Q (I.kept λb o e=>p b o (bY (bD e)) e) (by simpa using f) d
def xS(to b:TE)(t:xQ):TG:=λv C H Q=>to C H λo H1=>b C H1 λi H2=>t o i v H2 λa=>Q C a
def xT{o i:Expr}{to d:TE}{t:xQ}(l:PE X o to)(hi:PE X i d)(m:EW X t)
 (ha:autoParam (∀ v,assign (.Subscript o i pos) X.env v=(do
   let a <- eX [v] (eval o X.env)
   let b <- eX [v,a] (eval i X.env)
   gG pos
   eX [v,a,b] (setItem a b v)
   release [v,a,b] [])) Zd):PG X (.Subscript o i pos) (xS to d t):=by
 intro U s C H v u Q I r h;show am (jV (thn (l U s C H _ I h) λa s1 c=>?_));have(x,H1,f,w,n):=c;show am (jV (thn (hi U s1 C H1 _ f n) λb s2 c=>?_));have(y,H2,g,z,p):=c;show am (wpAny_standAt (am (jV (thn (m U s2 C H2 x y v a b u _ g w z r p) λ_ A (e,j,q)=>(wpAny_release (C,e,j,q))))))
def jn(te:TE)(g:TG):TS:=λD C H=>te C H λx H1=>g x C H1 D.nx
variable{tg:Expr}{g:TG}
def xU(b:PE X e te)(c:PG X tg g)(d:autoParam (swapsWithSole [tg] e pos.line X.env=pure af) Zb)(f:autoParam (swappedStores [tg] e X.env=pure ab) Zb)
 (h1:autoParam ((jc [tg] X.env).map (·.2)=[assign tg X.env]) Zb):PS X (.Assign [tg] e pos) (jn te g):=by
 intro U s C H D I h;show wpAny_Assign_stores (thn (b U s C H _ I h) λv s1 j=>?_) d f;have(x,H1,a,l,i):=j;rw[h1];show thn (c U s1 C H1 x v _ a l i) λ_ s2 q=>q
variable{b4:Pos}
def oT(c:X.N.Nodup)(hi:X.N[i]?=aa x)(j:Loc X.env.scope x)(d:PE X e te)(g:autoParam (gi e (aa (.Name x b4)) pos.line X.env=pure af) Zb)(f:autoParam (LcF X x) Zh):
  PS X (.Assign [.Name x b4] e pos) (jn te (ig i)):=by
 intro U s C H D I h;show wpAny_Assign_Name (thn (d U s C H _ I h) λv s1 (y,H1,a,m,l)=>(xO a c hi j m (λs2 b=>(_,H1,b,l)) f)) g
def LP(i:Nat)(te:TE)(a:TIp):TS:=λD C H=>∃x,C[i]?=aa (aa x)/\te C H λy H1=>a x y H1 λz H2=>D.nx (C.set i (aa z)) H2
def EX{op:Operator}{n:TIp}(G:X.N.Nodup)(hi:X.N[i]?=aa x)(g:Loc X.env.scope x)(L:PE X e te)(T:PIp X op n)(M:autoParam (LcF X x) Zh):
  PS X (.AugAssign (.Name x b4) op e pos) (LP i te n):=by
 intro U s C H D I h;have(v,E,h):=h;have(m,hn,Q):=I.loc
 have j:Vis X.env.scope x:=by rcases g with k |k;show .inl k;show .inr (.inl k)
 have(u,r,l):=Q i x v hi E j;show wpAny_AugAssign_Name ?_
 have go:wpAny (model X.prog X.w) X.A (eval e X.env) (λw d=>wpAny (model X.prog X.w) X.A (inplaceOp op u w) (λr f=>wpAny (model X.prog X.w) X.A (storeName X.env x r) (λ_=>SP X U D .next) X.xe f) X.xe d) X.xe s:=by
  show thn (L U s C H _ I h) λw s1 q_=>?_;have(y,H1,p,r1,Y):=q_;show thn (T U s1 C H1 v y u w _ p r r1 Y) λz s2 (zv,H2,q,r2,q2)=>(xO q G hi g r2 (λs3 B=>(_,H2,B,q2)) M)
 rcases l with⟨a,hm⟩ |⟨a,c,J,b⟩
 .show wpAny_loadName_local I.ok.kind a hn hm go
 .rcases a with a |a
  .show wpAny_loadName_cell I.ok.kind a J b go
  .rcases g with k |k
   .have:X.env.scope.names.lookup x=aa .free:=a;rw[k]at this;nomatch this
   .have:X.env.scope.names.lookup x=aa .free:=a;rw[k]at this;nomatch this
def ipI(f:Int->Int->Int):TIp:=λx y H Q=>∃i j,x=.int i/\y=.int j/\Q (.int (f i j)) H
def LQ:PIp X .Add (ipI λi j=>i+j):=by
 intro U s C H x y v u Q I c d h;have(i,j,a,b,q):=h;subst a;subst b;have(t,rfl):=c;have(t',rfl):=d;show iadd_int (.int _,H,I.tok _,(_,rfl),q)
def LR:PIp X .Sub (ipI λi j=>i-j):=by
 intro U s C H x y v u Q I c d h;have(i,j,a,b,q):=h;subst a;subst b;have(t,rfl):=c;have(t',rfl):=d;show isub_int (.int _,H,I.tok _,(_,rfl),q)
def LU(c:TT)(tb:TS):TS:=λD C H=>∃W:Nat->St->Hp->Prop,(∃m,W m C H)/\∀m C H,W m C H ->
 c C H λb H1=>if b=ac then ∃N:St->Hp->Prop,(∀σ' H',N σ' H'->∃a,a<m/\W a σ' H')/\tb {D with nx:=N,ct:=N,bk:=D.nx} C H1 else D.nx C H1
variable{body:List Stmt}
def LV{tb:TS}(x:PassesOwn (model X.prog X.w) X.A X.env X.xe)(B:PT X c tc)(z:PSs X body tb):PS X (.While c body [] pos) (LU tc tb):=by
 intro U s C H D I h;have(W,(E,J),g):=h;show wpAny_While (codeAny_whileLoop (λn s'=>∃σ' H',Inv X U σ' H' s'/\W n σ' H') ?_ E (C,H,I,J));rintro n s1 ⟨d,H1,y,L⟩;show mC x (thn (B U s1 d H1 _ y (g n d H1 L)) λb s2 G=>?_);have(H2,r,i):=G
 cases b with
 |true=>
  have(N,u,i):=i;show mC x (thn (z U s2 d H2 _ r i) λf M j=>?_)
  cases f with
  |next=>
   have(a,e,l,p):=j;have(m,hm,q):=u a e p
   show(m,hm,a,e,l,q)
  |cont=>
   have(a,e,l,p):=j;have(m,hm,q):=u a e p
   show(m,hm,a,e,l,q)
  |brk=>show j
  |ret v=>show j
 |false=>
  show ub (d,H2,r,i)
structure It where
 go:Nat->Hp->Prop
 yld:Nat->Hp->V->Hp->Prop
 stop:Nat->Hp->Prop
def ij(X:Cx)(U:PNS)(H:Hp)(b:Addr):Prop:=
 H b=ab/\b≠X.env.locals/\b∉X.fs/\(b∈X.ex\/X.s₀.heap.objs.size<=b)/\(∀x c,X.env.cells.lookup x=aa c->c≠b)/\∀p∈X.pn++U,p.1≠b
def Inv.fpOk{s:ah}{b:Addr}(I:Inv X U C H s)(a:s.heap.objs.size<=b)(hn:H' b=ab):ij X U H' b:=by
 show(hn,lr (fG I.lt a),I.nofs a,.inr (cN I.sz a),λx c e z=>?_,λp d z=>(absurd (fG (bD (I.pin p d).1) (by rw[z];show a)) (gE _)));have(v,q):=I.cell x c e;show absurd (fG q.lt (by rw[z];show a)) (gE _)
structure jX(P:ci)(w:World)(K:aR)(tg:Expr)(J:It)(fp:LAd)(it:Addr)(tn:Nat->Heap->Prop):Prop where
 mem:it∈fp
 obj:∀i h,tn i h->∀b∈fp,∃o,h.get? b=aa o/\∀v,o.data≠.cell v
 keep:∀i h h',tn i h->(∀b∈fp,∀o,h.get? b=aa o->h'.get? b=aa o)->tn i h'
 item:∀(X:Cx),X.prog=P->X.w=w->X.K=K->X.calm=ac->∀(i:Nat) (U:PNS) (s:ah) (C:St) (H:Hp) (W7:PRS),Inv X U C H s->(∀b∈fp,ij X U H b)->tn i s.heap->J.go i H ->
  wpAny (model P w) X.A (hZ (.ref it)) (λr s1=>∃ u,r=aa u /\
   wpAny (model P w) X.A (letOwnedTupleGo tg (.ref it) u) (λ_ s2=>∃x H',Inv X U C H' s2/\aC x u/\J.yld i H x H'/\tn (i+1) s2.heap/\∀b∈fp,H' b=ab) W7 s1) W7 s
 done:∀(X:Cx),X.prog=P->X.w=w->X.K=K->X.calm=ac->∀(i:Nat) (U:PNS) (s:ah) (C:St) (H:Hp) (W7:PRS),Inv X U C H s->(∀b∈fp,ij X U H b)->tn i s.heap->J.stop i H ->
  wpAny (model P w) X.A (hZ (.ref it)) (λr s1=>r=ab/\Inv X U C H s1) W7 s
 self:∀(A:ca) (i:Nat) (s:ah) (Q:PRS) (W7:PRS),tn i s.heap->Q (.ref it) s->wpAny (model P w) A (pyIter (.ref it)) Q W7 s
nonrec def TI:=St->Hp->(It->Hp->Prop)->Prop
def PIE(X:Cx)(U:PNS)(C:St)(tg:Expr)(R:It->Hp->Prop)(a:Value)(s2:ah):Prop:=
 ∃(it:Addr) (fp:LAd) (tn:Nat->Heap->Prop) (J:It) (H':Hp),a=.ref it/\Inv X U C H' s2/\jX X.prog X.w X.K tg J fp it tn/\tn 0 s2.heap/\(∀b∈fp,ij X U H' b)/\R J H'
def PI(X:Cx)(tg iter:Expr)(a:TI):Prop:=
 ∀(U:PNS) (s:ah) (C:St) (H:Hp) (R:It->Hp->Prop),Inv X U C H s->a C H R ->
  wpAny (model X.prog X.w) X.A (eval iter X.env) (λv s1=>wpAny (model X.prog X.w) X.A (pyIter v) (PIE X U C tg R) X.xe s1) X.xe s
variable{u:Value}
def qZ{s:ah}{o:Obj}{n:String}{vs:Array Value}(c:s.heap.get? it = aa o)(b:o.cls = .type n)(hd:o.data = .fields vs)
   (hn:["enumerate", "zip", "dict_itemiterator", "dict_reverseitemiterator", "odict_iterator", "itertools.zip_longest", "itertools.pairwise"].contains n = af)(a:Q () s):wpAny W4 A (letOwnedTupleGo tg (.ref it) u) Q W7 s:= by
  cases tg <;> first
    |show aD a
    | (cases u <;> first
        |show aD a
        | (show am (wpAny_load c ?_)
           rw[b, hd];change wpAny W4 A (if _ = ac then _ else _) Q W7 s;rw[if_neg (by intro h;rw[hn, Bool.false_and]at h;nomatch h)];show aD a))
def Itl(K:aR)(a:Addr):It:=
 (λi H=>∃E x,SqL K H a E/\E[i]?=aa x,λi H x H'=>H'=H/\∀E,SqL K H a E->E[i]?=aa x,λi H=>∃E,SqL K H a E/\Z E<=i)
def Itt(K:aR)(a:Addr):It:=
 (λi H=>∃E x,SqT K H a E/\E[i]?=aa x,λi H x H'=>H'=H/\∀E,SqT K H a E->E[i]?=aa x,λi H=>∃E,SqT K H a E/\Z E<=i)
def Itr(lo:Int)(n:Nat):It:=(λi _=>i<n,λi H x H'=>H'=H/\x=.int (lo+i),λi _=>n<=i)
def LW(a it:Addr):jX P w K tg (Itl K a) [it] it (λi h=>h.IsListIter it a i) where
 mem:=by simp
 obj:=λi h st b hb=>by
  have e:b=it:=by simpa using hb
  subst e;have(o,e,c,d):=st;show⟨o,e,λv z=>by rw[d]at z;nomatch z⟩
 keep:=λi h h' st k=>st.at λo e=>k it (by simp) o e
 item:=by
  intro X hP hw hK hc i U s C H W7 I hf st hg;subst hP hw hK;have(E,x,hq,hx):=hg;have(L,rv,p,hz):=I.list hq;have(u,hu,ru):=rv.get hx;have(f0,f1,f2,f3,f4,f5):=hf it (by simp);show wpAny_pyNext_list_item st p.isList (by simpa using hu) λh' dd sb=>?_;have(o,e,c,d):=id dd;show(u,rfl,qZ e c d (rfl) (x,H,(I.turned (λb o hb e=>(sb.2 b hb).trans e) f0 f1 f3 f4 f5),ru,(rfl,λys hy=>by rw[I.list_inj hy hq];show hx),dd,λb hb=>(hf b hb).1))
 done:=by
  intro X hP hw hK hc i U s C H W7 I hf st hg;subst hP hw hK;have(E,hq,hx):=hg;have(L,rv,p,hz):=I.list hq;have(f0,f1,f2,f3,f4,f5):=hf it (by simp);have hl:=rv.length;show wpAny_pyNext_list_end (I.ok.hd hc) st p.isList (by simp;lia) λh' eb=>(rfl,I.turned (λb o hb e=>eb b o hb e) f0 f1 f3 f4 f5)
 self:=λ_ _ _ _ _ st h=>wpAny_pyIter_listiter st h
def LX(a it:Addr):jX P w K tg (Itt K a) [it] it (λi h=>h.IsTupleIter it a i) where
 mem:=by simp
 obj:=λi h st b hb=>by
  have e:b=it:=by simpa using hb
  subst e;have(o,e,c,d):=st;show⟨o,e,λv z=>by rw[d]at z;nomatch z⟩
 keep:=λi h h' st k=>st.at λo e=>k it (by simp) o e
 item:=by
  intro X hP hw hK hc i U s C H W7 I hf st hg;subst hP hw hK;have(E,x,hq,hx):=hg;have(L,rv,p,hz):=I.tuple hq;have(u,hu,ru):=rv.get hx;have(f0,f1,f2,f3,f4,f5):=hf it (by simp);show wpAny_pyNext_tuple_item st (p) (by simpa using hu) λh' dd sb=>?_;have(o,e,c,d):=id dd;show(u,rfl,qZ e c d (rfl) (x,H,(I.turned (λb o hb e=>(sb.2 b hb).trans e) f0 f1 f3 f4 f5),ru,(rfl,λys hy=>by rw[I.tuple_inj hy hq];show hx),dd,λb hb=>(hf b hb).1))
 done:=by
  intro X hP hw hK hc i U s C H W7 I hf st hg;subst hP hw hK;have(E,hq,hx):=hg;have(L,rv,p,hz):=I.tuple hq;have(f0,f1,f2,f3,f4,f5):=hf it (by simp);have hl:=rv.length;show wpAny_pyNext_tuple_end (I.ok.hd hc) st (p) (by simp;lia) λh' eb=>(rfl,I.turned (λb o hb e=>eb b o hb e) f0 f1 f3 f4 f5)
 self:=λ_ _ _ _ _ st h=>wpAny_pyIter_tupleiter st h
def LY(it:Addr)(lo:Int)(n:Nat):jX P w K tg (Itr lo n) [it] it (λi h=>IsRangeIter h it (lo+(i:Nat)*1) ((n:Int)-(i:Nat)) 1) where
 mem:=by simp
 obj:=λi h st b hb=>by
  have e:b=it:=by simpa using hb
  subst e
  show⟨_,st,λv z=>by
   nomatch z⟩
 keep:=λi h h' st k=>k it (by simp) _ st
 item:=by
  intro X hP hw hK hc i U s C H W7 I hf st hg;have(f0,f1,f2,f3,f4,f5):=hf it (by simp);show(Walks.range (I.ok.hd hc) it lo 1 n).item i s _ _ hg st λv h' tk hv dd kk=>?_;have(t,rfl):=hv
  have I1:Inv X U C H {s with heap:=h',toks:=tk}:=I.turned (λb o hb e=>kk b o (by simpa using hb) e) f0 f1 f3 f4 f5
  show(_,rfl,qZ dd rfl rfl (rfl) (.int _,H,I1,(t,?_),(rfl,rfl),dd,λb hb=>(hf b hb).1));rw[Int.mul_one]
 done:=by
  intro X hP hw hK hc i U s C H W7 I hf st hg;have(f0,f1,f2,f3,f4,f5):=hf it (by simp);show wpAny_pyNext_range_end (I.ok.hd hc) st (by have:n<=i:=hg;lia) λh' eb=>(rfl,I.turned (λb o hb e=>eb b o hb e) f0 f1 f3 f4 f5)
 self:=λ_ _ _ _ _ st h=>wpAny_pyIter_rangeiter st h
def xV(K:aR)(tl:TE):TI:=λC H R=>tl C H λx H1=>∃a,x=.ref a/\(∃E,SqL K H1 a E)/\R (Itl K a) H1
def LZ(K:aR)(tl:TE):TI:=λC H R=>tl C H λx H1=>∃a,x=.ref a/\(∃E,SqT K H1 a E)/\R (Itt K a) H1
variable{l:Expr}{tl:TE}
def xX(f:PE X l tl):PI X tg l (xV X.K tl):=by
 intro U s C H R I h;show thn (f U s C H _ I h) λv s1 j=>?_;have(x,H1,c,m,i):=j;have(a,e,(E,g),q):=i;subst e;subst m;have(L,n,p,hz):=c.list g;show wpAny_pyIter_list p.isList ?_;show(s1.heap.objs.size,_,_,_,H1,rfl,c.kept λb o e=>bz _ e,LW a _,(_,cO _ rfl,rfl,rfl),λb d=>?_,q);have e:b=s1.heap.objs.size:=by simpa using d
 subst e;show c.fpOk (aM _) (c.hok.fresh (aM _))
def L4(f:PE X l tl):PI X tg l (LZ X.K tl):=by
 intro U s C H R I h;show thn (f U s C H _ I h) λv s1 j=>?_;have(x,H1,c,m,i):=j;have(a,e,(E,g),q):=i;subst e;subst m;have(L,n,p,hz):=c.tuple g;show wpAny_pyIter_tuple (p) ?_;show(s1.heap.objs.size,_,_,_,H1,rfl,c.kept λb o e=>bz _ e,LX a _,(_,cO _ rfl,rfl,rfl),λb d=>?_,q);have e:b=s1.heap.objs.size:=by simpa using d
 subst e;show c.fpOk (aM _) (c.hok.fresh (aM _))
def L5{s:ah}{R:It->Hp->Prop}{lo hi:Int}{t u v:Tok}{c:Nat}(I:Inv X U C H s)(h1:-(2 ^ 62)<=lo)(h2:lo<2 ^ 62)(g:-(2 ^ 62)<=hi)(h:hi<2 ^ 62)
 (q:R (Itr lo (S (hi-lo))) H):wpAny (model X.prog X.w) X.A (pyIter (.ref s.heap.objs.size)) (PIE X U C tg R) W7 {s with heap:=s.heap.push {cls:=.type "range",data:=.fields #[.int lo t,.int hi u,.int 1 v]},toks:=c}:=by
 show wpAny_pyIter_range (IsRange.new ..) (small_one h1 h2 g h) ?_
 have a:Inv X U C H {s with heap:=s.heap.push {cls:=.type "range",data:=.fields #[.int lo t,.int hi u,.int 1 v]},toks:=c}:=I.kept λb o e=>bz _ e
 show((s.heap.push {cls:=.type "range",data:=.fields #[.int lo t,.int hi u,.int 1 v]}).objs.size,_,_,_,H,rfl,
  a.kept λb o e=>bz _ e,LY _ lo (S (hi-lo)),?_,λb i=>?_,q)
 .have d:lo+((0:Nat):Int)*1=lo:=by simp
  have f:((S (hi-lo):Nat):Int)-((0:Nat):Int)=ui lo hi 1:=by rw[rangeSize_one];split <;> lia
  rw[d,f];show cO _ rfl
 .have e:b=(s.heap.push {cls:=.type "range",data:=.fields #[.int lo t,.int hi u,.int 1 v]}).objs.size:=by simpa using i
  subst e;show a.fpOk (aM _) (a.hok.fresh (aM _))
def L6(ta:TA):TI:=λC H R=>ta C H λvs H1=>∃j:Int,vs=[.int j]/\-(2 ^ 62)<=j/\j<2 ^ 62/\R (Itr 0 (S j)) H1
variable{a:Expr}
def L7{ta:TA}{p:Pos}(d:Gl X "range")(hm:X.mg "range"=ab)(ha:PA X [a] ta)(f:autoParam (aL [a] X.env=[(af,eval a X.env,)]) Zb):PI X tg (.Call (.Name "range" p) [a] [] pos) (L6 ta):=by
 intro U s C H R I h;show Call_ (gJ I d hm boot_range (jS (thn (ha pos U s C H _ I h) λus s1 (vs,H1,c,i,b)=>?_) f rfl));have(j,e,b,g,q):=b;subst e
 cases i with
 |cons r l=>
  cases l;have(t,rfl):=r;show call_range_1 (L5 c (by lia) (by lia) b g (by simpa using q))
def xY(c:TI)(g:TG)(tb:TS):TS:=λD C H=>c C H λJ H1=>∃W:Nat->Nat->St->Hp->Prop,(∃m,W 0 m C H1)/\∀i m C H,W i m C H ->
 (J.stop i H/\D.nx C H)\/(J.go i H/\∃N:St->Hp->Prop,(∀σ' H',N σ' H'->∃b,b<m/\W (i+1) b σ' H')/\∀x H',J.yld i H x H'->g x C H' λa H2=>tb {D with nx:=N,ct:=N,bk:=D.nx} a H2)
def ux(fp:LAd)(h:Heap):PNS:=fp.filterMap λb=>(h.get? b).map λo=>(b,o,)
variable{fp:LAd}
def uz{b:Addr}{o:Obj}(a:b∈fp)(e:h.get? b=aa o):(b,o,)∈ux fp h:=mem_filterMap.mpr (b,a,by rw[e];rfl)
def L8{p:Addr×Obj}(a:p∈ux fp h):p.1∈fp/\h.get? p.1=aa p.2:=by
 have(b,c,e):=mem_filterMap.mp a
 cases q:h.get? b with
 |none=>rw[q]at e;nomatch e
 |some o=>
  grind
def Inv.pinned{s:ah}(I:Inv X U C H s)(c:∀b∈fp,ij X U H b)(g:∀b∈fp,∃o,s.heap.get? b=aa o/\∀v,o.data≠.cell v):Inv X (U++ux fp s.heap) C H s:=
 I.pins_of λp d=>(bx.mp d).elim (λz=>I.pin p (cF _ z)) λz=>by
  have(a,e):=L8 z;have(f,f1,f2,_):=c p.1 a
  grind
def Inv.unpinned{b:PNS}{s:ah}(I:Inv X (U++b) C H s):Inv X U C H s:=I.pins_of λp a=>I.pin p (cF _ (b8 _ a))
variable{iter:Expr}{wi:TI}
def EY{tb:TS}(E:PassesOwn (model X.prog X.w) X.A X.env X.xe)(hc:X.calm=ac)(hi:PI X tg iter wi)(hg:PG X tg g)(l:PSs X body tb)
 (hs:autoParam (∀x,ls iter X.env x=pure x) Zd):PS X (.For tg iter body [] pos) (xY wi g tb):=by
 intro U s C H D I h;show wpAny_For (thn (hi U s C H _ I h) λv s1 h1=>thn h1 λitv s2 h2=>?_) hs;have(it,fp,tn,J,H2,e,I2,T,st2,f2,W,(m0,w0),Q):=h2;subst e;have p:∀{H':Hp},(∀b∈fp,H' b=ab)->∀b∈fp,ij X U H' b:=λhn b l=>(hn b l,(f2 b l).2);show codeAny_forLoop_any (λn s'=>∃i σ' H',Inv X U σ' H' s'/\tn i s'.heap/\(∀b∈fp,H' b=ab)/\W i n σ' H') ?_ m0 (0,C,H2,I2,st2,λb l=>(f2 b l).1,w0);rintro n s3 ⟨i,q,Y,I3,M,B,w3⟩
 rcases Q i n q Y w3 with⟨stop,qn⟩ |⟨go,N,hN,step⟩
 .show mC E (thn (T.done X rfl rfl rfl hc i U s3 q Y X.xe I3 (p B) M stop) λr s4 (hr,I4)=>?_);subst hr;show ub (q,Y,I4,qn)
 .show mC E (thn (T.item X rfl rfl rfl hc i U s3 q Y X.xe I3 (p B) M go) λr s4 L=>?_);have(u,hr,h4):=L;subst hr;show mC E (thn h4 λ_ s5 L=>?_);have(x,H5,I5,r5,y5,z,fr5):=L;show mC E (thn (hg _ s5 q H5 x u _ (I5.pinned (p fr5) (T.obj _ _ z)) r5 (step x H5 y5)) λ_ s6 L=>?_);have(σ6,H6,I6,q6):=L;show mC E (thn (l _ s6 σ6 H6 _ I6 q6) λf s7 y=>?_)
  have again:∀{a:St} {c:Hp},Inv X _ a c s7->N a c->∃m,m<n/\∃i σ' H',Inv X U σ' H' s7/\tn i s7.heap/\(∀b∈fp,H' b=ab)/\W i m σ' H':=λ{a c} j G=>by
   have(m',hm,w7):=hN a c G;show(m',hm,i+1,a,c,j.unpinned,T.keep _ _ _ z λb l o e=>(j.pin _ (cF _ (cF _ (uz l e)))).1,λb l=>?_,w7);have(o,e,d):=T.obj _ _ z b l;show(j.pin _ (cF _ (cF _ (uz l e)))).2.1
  cases f with
  |next=>have(a,c,j,G):=y;show again j G
  |cont=>have(a,c,j,G):=y;show again j G
  |brk=>have(a,c,j,y):=y;show(a,c,j.unpinned,y)
  |ret v=>have(x7,a,c,j,r7,y):=y;show(x7,a,c,j.unpinned,r7,y)
nonrec def R2:=V->V->Hp->VK->Prop
def OpR(X:Cx)(f:Value->Value->Sem Value)(r:R2):Prop:=
 ∀(U:PNS) (s:ah) (C:St) (H:Hp) (x y:V) (v u:Value) (Q:VK),Inv X U C H s->aC x v->aC y u->r x y H Q ->
  wpAny (model X.prog X.w) X.A (f v u) (EP X U C Q) X.xe s
def UnR(X:Cx)(f:Value->Sem Value)(r:V->Hp->VK->Prop):Prop:=
 ∀(U:PNS) (s:ah) (C:St) (H:Hp) (x:V) (v:Value) (Q:VK),Inv X U C H s->aC x v->r x H Q ->
  wpAny (model X.prog X.w) X.A (f v) (EP X U C Q) X.xe s
def iI(X:Cx)(f:Value)(r:LVv->Hp->VK->Prop):Prop:=
 ∀(U:PNS) (s:ah) (C:St) (H:Hp) (E:LVv) (us:LVa) (Q:VK),Inv X U C H s->aH E us->r E H Q ->
  wpAny (model X.prog X.w) X.A (call f us) (EP X U C Q) X.xe s
def L9(X:Cx)(r:V->Hp->(Bool->Hp->Prop)->Prop):Prop:=
 ∀(U:PNS) (s:ah) (C:St) (H:Hp) (x:V) (v:Value) (Q:Bool->Hp->Prop),Inv X U C H s->aC x v->r x H Q ->
  wpAny (model X.prog X.w) X.A (truthy v) (TP X U C Q) X.xe s
def tOp(r:R2)(ta tb:TE):TE:=λC H Q=>ta C H λx H1=>tb C H1 λy H2=>r x y H2 Q
def tUn(r:V->Hp->VK->Prop)(ta:TE):TE:=λC H Q=>ta C H λx H1=>r x H1 Q
def rI(W8:Int->Int->Prop)(g:Int->Int->V):R2:=λx y H Q=>∃i j,x=.int i/\y=.int j/\W8 i j/\Q (g i j) H
def rI0(g:Int->Int->V):R2:=λx y H Q=>∃i j,x=.int i/\y=.int j/\Q (g i j) H
abbrev rU(g:Int->V):V->Hp->VK->Prop:=λx H Q=>∃i,x=.int i/\Q (g i) H
variable{f:Value->Value->Sem Value}
def xZ(ha:PE X a ta)(i:PE X b tb){s:ah}{R:V->V->Hp->Prop}(I:Inv X U C H s)
 (h:ta C H λx H1=>tb C H1 λy H2=>R x y H2){Q:PRS}
 (j:∀v u s2 x y H2,Inv X U C H2 s2->aC x v->aC y u->R x y H2->wpAny (model X.prog X.w) X.A (f v u) Q X.xe s2):
  wpAny (model X.prog X.w) X.A (eval a X.env) (λv c=>wpAny (model X.prog X.w) X.A (eval b X.env) (λu d=>wpAny (model X.prog X.w) X.A (f v u) Q X.xe d) X.xe c) X.xe s:=by
 show thn (ha U s C H _ I h) λv s1 n=>?_;have(x,H1,e,p,l):=n;show thn (i U s1 C H1 _ e l) λu s2 (y,H2,g,q,m)=>(j v u s2 x y H2 g p q m)
def EZ{op:Operator}{r:R2}(e:OpR X (fT op) r)(ha:PE X a ta)(d:PE X b tb):PE X (.BinOp a op b pos) (tOp r ta tb):=by
 intro U s C H Q I h;show wpAny_BinOp (xZ ha d I h λv u s2 x y H2 c rx f q=>e U s2 C H2 x y v u Q c rx f q)
def Ma{op:UnaryOp}{r:V->Hp->VK->Prop}(c:UnR X (unaryOp op) r)(ha:PE X a ta):PE X (.UnaryOp op a pos) (tUn r ta):=by
 intro U s C H Q I h;show UnaryOp_ (thn (ha U s C H _ I h) λv s1 (x,H1,b,e,d)=>c U s1 C H1 x v Q b e d)
def opI{W8:Int->Int->Prop}{g:Int->Int->Int}
 (rule:∀(i j:Int) (t u:Tok) (s:ah) (Q:PRS) (W7:PRS),W8 i j->Q (.int (g i j) s.toks) {s with toks:=s.toks+1}->wpAny (model X.prog X.w) X.A (f (.int i t) (.int j u)) Q W7 s):
  OpR X f (rI W8 λi j=>.int (g i j)):=by
 intro U s C H x y v u Q I rx b h;have(i,j,rfl,rfl,a,q):=h;have(t,rfl):=rx;have(t',rfl):=b;show rule i j t t' s _ _ a (.int _,H,I.tok _,(_,rfl),q)
def E3{g:Int->Int->Int}
 (rule:∀(i j:Int) (t u:Tok) (s:ah) (Q:PRS) (W7:PRS),Q (.int (g i j) s.toks) {s with toks:=s.toks+1}->wpAny (model X.prog X.w) X.A (f (.int i t) (.int j u)) Q W7 s):
  OpR X f (rI0 λi j=>.int (g i j)):=by
 intro U s C H x y v u Q I rx a h;have(i,j,rfl,rfl,q):=h;have(t,rfl):=rx;have(t',rfl):=a;show rule i j t t' s _ _ (.int _,H,I.tok _,(_,rfl),q)
def uA{g:Int->Int->Bool}
 (rule:∀(i j:Int) (t u:Tok) (s:ah) (Q:PRS) (W7:PRS),Q (.bool (g i j)) s->wpAny (model X.prog X.w) X.A (f (.int i t) (.int j u)) Q W7 s):
  OpR X f (rI0 λi j=>.bl (g i j)):=by
 intro U s C H x y v u Q I rx a h;have(i,j,rfl,rfl,q):=h;have(t,rfl):=rx;have(t',rfl):=a;show rule i j t t' s _ _ (.bl _,H,I,rfl,q)
def q5(i j:Int):Prop:=0<j/\j<1073741824
def mS(i j:Int):Prop:=0<=j/\j<=1000000/\i.natAbs<2 ^ 64
def mT(i j:Int):Prop:=(-(2 ^ 64)<i/\i<2 ^ 64)\/(-(2 ^ 64)<j/\j<2 ^ 64)
variable{j:Int}
def mT.ok{i:Int}(h:mT i j):IntMulOk i j:=by
 rcases h with⟨h1,h2⟩ |⟨h1,h2⟩
 .show .of_left (intBits_le_64 h1 h2)
 .show .of_right (intBits_le_64 h1 h2)
def Mb:OpR X (fT .Add) (rI0 λi j=>.int (i+j)):=E3 λ_ _ _ _ _ _ _ q=>add_int q
def Mc:OpR X (fT .Sub) (rI0 λi j=>.int (i-j)):=E3 λ_ _ _ _ _ _ _ q=>sub_int q
def Md:OpR X (fT .FloorDiv) (rI q5 λi j=>.int (i / j)):=opI λi j _ _ _ _ _ a q=>by
 have h1:=a.1;have h2:=a.2;show floordiv_int (by lia) (by rw[Int.fdiv_eq_ediv_of_nonneg i (by lia)];show q) (.inl (PyProof.noPylong_small (by lia)))
def Mf:OpR X (fT .Mod) (rI (λ_ j=>0<j) λi j=>.int (i % j)):=opI λi j _ _ _ _ _ a q=>by
 show mod_int' (by lia) (by rw[Int.fmod_eq_emod_of_nonneg i (by lia)];show q)
def Mg:OpR X (fT .Pow) (rI mS λi j=>.int (i ^ S j)):=opI λ_ _ _ _ _ _ _ a q=>pow_int_small a.1 a.2.1 a.2.2 q
def unI{f:Value->Sem Value}{g:Int->Int}
 (rule:∀(i:Int) (t:Tok) (s:ah) (Q:PRS) (W7:PRS),Q (.int (g i) s.toks) {s with toks:=s.toks+1}->wpAny (model X.prog X.w) X.A (f (.int i t)) Q W7 s):
  UnR X f (rU λi=>.int (g i)):=by
 intro U s C H x v Q I rx h;have(i,rfl,q):=h;have(t,rfl):=rx;show rule i t s _ _ (.int _,H,I.tok _,(_,rfl),q)
def Mh:UnR X (unaryOp .USub) (rU λi=>.int (-i)):=unI λ_ _ _ _ _ q=>neg_int q
abbrev x6:V->V->Bool
 |.non,.non=>ac |.non,.int _=>ac |.int _,.non=>ac |.non,.bl _=>ac |.bl _,.non=>ac |.non,.str _=>ac |.str _,.non=>ac
 |.int _,.int _=>ac |.bl _,.bl _=>ac |.str _,.str _=>ac |.byt _,.byt _=>ac
 |.int _,.str _=>ac |.str _,.int _=>ac |.bl _,.str _=>ac |.str _,.bl _=>ac
 | _,_=>af
def rEq:R2:=λx y H Q=>x6 x y=ac/\Q (.bl (decide (x=y))) H
def rNe:R2:=λx y H Q=>x6 x y=ac/\Q (.bl (!decide (x=y))) H
def x8{i:Int}:decide (V.int i=V.int j)=(i==j):=by
 rw[jP];simp
def q9{i j:Bool}:decide (V.bl i=V.bl j)=(i==j):=by
 rw[jP];simp
def x9{i j:Str}:decide (V.str i=V.str j)=(i==j):=by
 rw[jP];simp
def E4{i j:Array UInt8}:decide (V.byt i=V.byt j)=(i.toList==j.toList):=by
 rw[jP];cases i;cases j;simp
def bV{s:ah}{Q:VK}{k a:Bool}(I:Inv X U C H s)(q:Q (.bl k) H)(e:k=a):EP X U C Q (.bool a) s:=by
 subst e;show(.bl k,H,I,rfl,q)
def Mi:OpR X (cY .Eq) rEq:=by
 intro U s C H x y v u Q I rx a h;have(b,q):=h
 cases x with
 |non=>
  cases rx
  cases y with
  |non=>subst a;show PySem.EqNone.eq_none_none (bV I q (by rfl))
  |bl j=>subst a;show PySem.EqNone.eq_none_bool (bV I q (by rfl))
  |int j=>have(t',rfl):=a;show PySem.EqNone.eq_none_int (bV I q (by rfl))
  |str j=>have(t',rfl):=a;show PySem.EqNone.eq_none_str (bV I q (by rfl))
  | _=>show absurd (b) bK
 |bl i=>
  subst rx
  cases y with
  |non=>subst a;show PySem.EqNone.eq_bool_none (bV I q (by simp))
  |bl j=>subst a;show eq_bool (bV I q q9)
  |str j=>have(t',rfl):=a;show PySem.EqMixed.eq_bool_str (bV I q (by simp))
  | _=>show absurd (b) bK
 |int i=>
  have(t,rfl):=rx
  cases y with
  |non=>subst a;show PySem.EqNone.eq_int_none (bV I q (by simp))
  |int j=>have(t',rfl):=a;show eq_int (bV I q x8)
  |str j=>have(t',rfl):=a;show PySem.EqMixed.eq_int_str (bV I q (by simp))
  | _=>show absurd (b) bK
 |str i=>
  have(t,rfl):=rx
  cases y with
  |non=>subst a;show PySem.EqNone.eq_str_none (bV I q (by simp))
  |bl j=>subst a;show PySem.EqMixed.eq_str_bool (bV I q (by simp))
  |int j=>have(t',rfl):=a;show PySem.EqMixed.eq_str_int (bV I q (by simp))
  |str j=>have(t',rfl):=a;show eq_str (bV I q x9)
  | _=>show absurd (b) bK
 |byt i=>
  have(t,rfl):=rx
  cases y with
  |byt j=>have(t',rfl):=a;show W.eq_bytes (bV I q E4)
  | _=>show absurd (b) bK
 | _=>cases y <;> show absurd (show af=ac from b) bK
def Mj:OpR X (cY .NotEq) rNe:=by
 intro U s C H x y v u Q I rx a h;have(b,q):=h
 cases x with
 |non=>
  cases rx
  cases y with
  |non=>subst a;show PySem.EqNone.ne_none_none (bV I q (by rfl))
  |bl j=>subst a;show PySem.EqNone.ne_none_bool (bV I q (by rfl))
  |int j=>have(t',rfl):=a;show PySem.EqNone.ne_none_int (bV I q (by rfl))
  |str j=>have(t',rfl):=a;show PySem.EqNone.ne_none_str (bV I q (by rfl))
  | _=>show absurd (b) bK
 |bl i=>
  subst rx
  cases y with
  |non=>subst a;show PySem.EqNone.ne_bool_none (bV I q (by rfl))
  |bl j=>subst a;show ne_bool (bV I q (congrArg not q9))
  |str j=>have(t',rfl):=a;show PySem.EqMixed.ne_bool_str (bV I q (by simp))
  | _=>show absurd (b) bK
 |int i=>
  have(t,rfl):=rx
  cases y with
  |non=>subst a;show PySem.EqNone.ne_int_none (bV I q (by simp))
  |int j=>have(t',rfl):=a;show ne_int (bV I q (congrArg not x8))
  |str j=>have(t',rfl):=a;show PySem.EqMixed.ne_int_str (bV I q (by simp))
  | _=>show absurd (b) bK
 |str i=>
  have(t,rfl):=rx
  cases y with
  |non=>subst a;show PySem.EqNone.ne_str_none (bV I q (by simp))
  |bl j=>subst a;show PySem.EqMixed.ne_str_bool (bV I q (by simp))
  |int j=>have(t',rfl):=a;show PySem.EqMixed.ne_str_int (bV I q (by simp))
  |str j=>have(t',rfl):=a;show ne_str (bV I q (congrArg not x9))
  | _=>show absurd (b) bK
 |byt i=>
  have(t,rfl):=rx
  cases y with
  |byt j=>have(t',rfl):=a;show W.ne_bytes (bV I q (congrArg not E4))
  | _=>show absurd (show af=ac from b) bK
 | _=>cases y <;> show absurd (show af=ac from b) bK
def Ml:OpR X (cY .Lt) (rI0 λi j=>.bl (decide (i<j))):=uA λ_ _ _ _ _ _ _ q=>lt_int q
def Mm:OpR X (cY .LtE) (rI0 λi j=>.bl (decide (i<=j))):=uA λ_ _ _ _ _ _ _ q=>le_int q
def Mn:OpR X (cY .Gt) (rI0 λi j=>.bl (decide (j<i))):=uA λ_ _ _ _ _ _ _ q=>gt_int q
def Mo:OpR X (cY .GtE) (rI0 λi j=>.bl (decide (j<=i))):=uA λ_ _ _ _ _ _ _ q=>ge_int q
def Mp:OpR X (cY .Is) (λx y H Q=>y=.non/\Q (.bl (decide (x=.non))) H):=by
 intro U s C H x y v u Q I rx a h;have(rfl,q):=h;subst a;show is_none_gen (bV I q ?_)
 cases x <;> first
  |(subst rx;rfl)
  |(have(t,rfl):=rx;rfl)
def Mq:OpR X (cY .IsNot) (λx y H Q=>y=.non/\Q (.bl (!decide (x=.non))) H):=by
 intro U s C H x y v u Q I rx a h;have(rfl,q):=h;subst a;show isnot_none_gen (bV I q ?_)
 cases x <;> first
  |(subst rx;rfl)
  |(have(t,rfl):=rx;rfl)
def E5(b:Expr)(h:autoParam (op≠.In) Zc)(h2:autoParam (op≠.NotIn) Zc):jU op b=af:=by
 have a:(op==CmpOp.In)=af:=by grind
 have c:(op==CmpOp.NotIn)=af:=by grind
 cases b <;> simp[jU,a,c]
variable{r:R2}
def Mr(e:OpR X (cY op) r)(ha:PE X a ta)(d:PE X b tb)(hm:jU op b=af):PE X (.Compare a [op] [b] pos) (tOp r ta tb):=by
 intro U s C H Q I h;show wpAny_Compare1 (xZ ha d I h λv u s2 x y H2 c rx f q=>e U s2 C H2 x y v u Q c rx f q) hm
def Ms(t:TE):TT:=λC H Q=>t C H λx H'=>∃k,x=.bl k/\Q k H'
def Mt(l:OpR X (cY op) r)(ha:PE X a ta)(j:PE X b tb)(hm:jU op b=af):PT X (.Compare a [op] [b] pos) (Ms (tOp r ta tb)):=by
 intro U s C H Q I h
 show wpAny_isTrue_Compare1 (thn (ha U s C H _ I h) λv s1 (x,H1,f,q,m)=>thn (j U s1 C H1 _ f m) λu s2 (y,H2,g,w,n) =>
  thn (l U s2 C H2 x y v u _ g q w n) λc B (z,d,i,A,k,e,p)=>?_) hm
 subst e;subst A;show oH (d,i,p)
def ya(K:aR)(x:V)(H:Hp)(k:Bool):Prop:=
 match x with
 |.non=>k=af
 |.bl b=>k=b
 |.int i=>k=(i != 0)
 |.str y=>y.length<=aU/\k=((y.length:Int) != 0)
 |.byt y=>y.size<=aU/\k=((y.size:Int) != 0)
 |.ref p=>(∃E,SqL K H p E/\k=!E.isEmpty)\/(∃E,SqT K H p E/\k=!E.isEmpty)\/∃kvs,H p=aa (.dK kvs)/\k=!kvs.isEmpty
 | _=>False
def Mu{a:Type}{kvs:List (a×V)}{vs:List (a×Value)}(r:KV kvs vs):(!vs.isEmpty)=!kvs.isEmpty:=by
 cases r <;> rfl
variable{L:LVa}
def E6(r:aH E L):(!L.toArray.isEmpty)=!E.isEmpty:=by
 cases r <;> simp
def rb:(aU:Nat)<2 ^ 63:=by rw[dG];decide
def Mv:L9 X (λx H Q=>∃k,ya X.K x H k/\Q k H):=by
 intro U s C H x v Q I rx h;have(k,e,q):=h;have j:=dG
 cases x with
 |non=>
  subst rx;have e':=e;subst e'
  show truthy_none (H,I,q)
 |bl b=>
  subst rx;have e':=e;subst e'
  show oH (H,I,q)
 |int i=>
  have(t,rfl):=rx;have e':=e;subst e'
  show PySem.P.truthy_int (H,I,q)
 |str y=>
  have(t,rfl):=rx;obtain⟨g,e'⟩:y.length<=aU/\k=_:=e;subst e'
  show PySem.P.truthy_str (by lia) (H,I.tok _,q)
 |byt y=>
  have(t,rfl):=rx;obtain⟨g,e'⟩:y.size<=aU/\k=_:=e;subst e'
  show W.truthy_bytes (by lia) (H,I.tok _,q)
 |ref p=>
  subst rx;have e':=e
  rcases e' with⟨E,c,e'⟩ |⟨E,c,e'⟩ |⟨kvs,c,e'⟩
  .subst e';have(L,r,d,hz):=I.list c;have a:=r.length;show wpAny_truthy_list d.isList (by simp only[size_toArray];lia) (H,I.tok _,by rw[E6 r];show q)
  .subst e';have(L,r,d,hz):=I.tuple c;have a:=r.length;show truthy_tuple d (by simp only[size_toArray];lia) (H,I.tok _,by rw[E6 r];show q)
  .subst e';obtain⟨hz,f,vs,r,m⟩:Z kvs<=aU/\(p==hV)=af/\∃vs,KV kvs vs/\s.heap.DictOf (lE X.prog X.w) p vs:=I.hok p _ c;have a:=oP r
   show wpAny_truthy_dict f m (by lia) (H,I.tok _,by rw[Mu r];show q)
 | _=>show(show False from e).elim
def Mw(ha:PE X a ta)(d:∀b,isTrue a X.env b=(do let v <- b;gG a.pos;eX [v] (truthy v))):
  PT X a (λC H Q=>ta C H λx H'=>∃k,ya X.K x H' k/\Q k H'):=by
 intro U s C H Q I h;show isTrue_plain (thn (ha U s C H _ I h) λv s1 (x,H1,c,f,e)=>Mv U s1 C H1 x v Q c f e) (d _)
def Mx:OpR X (fT .Add) (λx y H Q=>∃i j,x=.str i/\y=.str j/\i.length+j.length<=aU/\Q (.str (i++j)) H):=by
 intro U s C H x y v u Q I rx a h;have(i,j,rfl,rfl,hz,q):=h;have(t,rfl):=rx;have(t',rfl):=a;show add_str (λt' b=>(.str _,H,I.tok _,(_,rfl),q)) hz
def My:OpR X (inplaceOp .Add) (λx y H Q=>∃i j,x=.str i/\y=.str j/\i.length+j.length<=aU/\Q (.str (i++j)) H):=by
 intro U s C H x y v u Q I rx a h;have(i,j,rfl,rfl,hz,q):=h;have(t,rfl):=rx;have(t',rfl):=a;show iadd_str (λt' b=>(.str _,H,I.tok _,(_,rfl),q)) hz
def mU{x:V}(r:aH [x] us):∃u,us=[u]/\aC x u:=by
 cases r with
 |cons a b=>cases b;show(_,rfl,a)
def Mz{x:V}(r:aH [x,y] us):∃u a,us=[u,a]/\aC x u/\aC y a:=by
 cases r with
 |cons b c=>
  cases c with
  |cons d e=>cases e;show(_,_,rfl,b,d)
structure mV(h:Heap)(x dx W8:Addr)(mA:MGT):Prop where
 obj:h.get? x=aa (lC W8 dx)
 ns:h.Ns1 dx mA
 ne:dx≠x
variable{mA:MGT}
def MA{dx:Addr}(n:h.Ns1 dx mA):∃od,h.get? dx=aa od/\∀name,W.lookIn name od=aa (mA name):=by
 have(o,es,g,d,hd,c,_,hm):=n;show(o,d,λname=>?_);have e:=hm name;unfold nsFind findBy at e;rw[<- Array.find?_toList]at e;unfold W.lookIn;rw[hd];dsimp only;split
 .grind
 .rename_i q;rw[q]at e
  have a:es.toList.any (·.refKey)=af:=by
   rw[any_eq_false];intro y f;have(z,t,b):=c y (Array.mem_toList_iff.mp f);simp[DictEntry.refKey,b]
  grind
def mV.look{x dx W8:Addr}(I:mV h x dx W8 mA):∃od,W.InstAt h x (lC W8 dx) W8 (aa od)/\∀name,W.lookIn name od=aa (mA name):=
 let (od,ho,hl):=MA I.ns
 (od,(I.obj,rfl,rfl,ho),hl)
variable{x W8:Addr}{name:Str}{v:Value}
section
variable{s:ah}{dx:Addr}
def MB{a:Bool}{Q:PRS}(X:K.In s.heap)(I:mV s.heap x dx W8 mA)(c:kA K W8 name=ac)(d:lA K W8=ac)
 (ha:cv K (.ref W8) name=aa ab)(hv:mA name=aa v)(b:W.handedIn v=ac)(h:Q v {s with toks:=s.toks+1}):
  wpAny (model prog w) A (getAttr (.ref x) name a) Q W7 s:=by
 have(od,J,e):=I.look;show W.get_value X J (W.plainGet_of c).1 (W.findObj_own d ha rfl (by rw[e,hv])) b h
end
variable{f:Addr}{pl:Sem Bool}
def MC{s:ah}{dx:Addr}{Q:Value×LVa->ah->Prop}(X:K.In s.heap)(I:mV s.heap x dx W8 mA)(a:kA K W8 name=ac)
 (b:cv K (.ref W8) name=aa (aa (.ref f)))(d:W.isFn K (.ref f)=ac)(hv:mA name=ab)(h:Q (.ref f,[.ref x],) s):
  wpAny (model prog w) A (hX (.ref x) name pl) Q W7 s:=by
 have(od,J,c):=I.look;show W.method_fn X J (W.plainGet_of a).1 (W.plainGet_of a).2 b (beq_iff_eq.mp d) (by change(W.lookIn name od).map (·.isSome)=aa af;rw[c,hv];rfl) h
section
variable{s:ah}{dx:Addr}
def MD{ns:LSt}(X:K.In s.heap)(I:mV s.heap x dx W8 mA)
 (n:cv K (.ref W8) "__setattr__"=aa (aa (.builtin "object.__setattr__")))(m:mM K W8=ac)(q:W.takerIn K W8 name=aa ab)(l:lA K W8=ac)
 (r:PySem.Within mA ns)(p:Z ns<=aU)
 (h:∀h',mV h' x dx W8 (λy=>if y=name then aa v else mA y)->gm dx s.heap h'->Q () {s with heap:=h',toks:=s.toks+2}):
  wpAny (model prog w) A (setAttr (.ref x) name v) Q W7 s:=by
 have(od,J,z):=I.look;show W.set_plain X J n (W.osa_open X J m q λb=>?_);have(u,j,e):=W.any_some l;show am (aD (am (am (wpAny_loadPart I.obj (am (W.Looks.here (W.looks_clsIn X j) ?_))))));rw[e];show aD (am (aD (am ?_)));show wpAny_nsSet1 I.ns λh' a c=>?_;have(B,i,g,f,hdD,d):=a.count (PySem.Within.cons name v r);show am (wpAny_lookBehind f (by rw[hdD];show pastItsLine_dict (cN d (by rw[cf];lia))) (aD (h _ ((c.2 _ (eV I.ne)).trans I.obj,a,I.ne) c)))
end
variable{R:Result->ah->Prop}{kw:List (Str×Value)}
section
variable{s:ah}
def ME{vs:LVa}(X:K.In s.heap)(hm:mN K W8=ac)
 (hi:cv K (.ref W8) "__init__"=aa (aa (.ref f)))(a:W.typeIn K (.ref f)=aa (.type "function"))
 (h:gH (model prog w) (A.under (.builtin "type.__call__" (.ref W8::vs,kw))) (.call (.ref f) (.ref (s.heap.objs.size + 1)::vs,kw)) (W.InitBack (s.heap.objs.size + 1) R)
   {s with heap:=(s.heap.push lB).push (lC W8 s.heap.objs.size)}):
  gH (model prog w) A (.call (.ref W8) (vs,kw)) R s:=by
 show W.make_core (W.makes_of X hm) (W.looks_findIn X hi) (λself=>W.bind_fn X self a) (.inl rfl) h
end
abbrev c9(f:Str)(v:V):List (Str×V)->List (Str×V)
 | []=>[(f,v,)]
 |(g,x,)::r=>if g=f then (g,v,)::r else (g,x,)::c9 f v r
def E7(f g:Str)(v:V):∀fs:List (Str×V),(c9 f v fs).lookup g=if g=f then aa v else fs.lookup g
 | []=>by
  change List.lookup g [_]=_
  grind
 |(k,x,)::r=>by
  rw[show c9 f v _=(if k=f then _::r else _::c9 f v r)from rfl]
  by_cases b:k=f
  .grind
  .rw[if_neg b]
   by_cases h:g=k
   .grind
   .have a:=beq_eq_false_iff_ne.mpr h;simp only[List.lookup,a];show(E7 f g v r)
def yb(f:Str)(v:V):∀fs:List (Str×V),f∈(c9 f v fs).map (·.1)/\∀g,g∈fs.map (·.1)->g∈(c9 f v fs).map (·.1)
 | []=>(by simp[c9],λg h=>by simp at h)
 |(k,x,)::r=>by
  have(a,b):=yb f v r;rw[show c9 f v _=(if k=f then _::r else _::c9 f v r)from rfl]
  grind
def E8(f:Str)(v:V):∀fs:List (Str×V),Z (c9 f v fs)<=Z fs+1
 | []=>by simp[c9]
 |(k,x,)::r=>by
  have a:=E8 f v r;rw[show c9 f v _=(if k=f then _::r else _::c9 f v r)from rfl]
  grind
variable{v:V}
def eZ.some_of{o:Option Value}(r:eZ (aa v) o):∃u,o=aa u/\aC v u:=by
 cases o with
 |none=>show(r).elim
 |some u=>show(u,rfl,r)
def eZ.none_of{o:Option Value}(r:eZ ab o):o=ab:=by
 cases o with
 |none=>rfl
 |some u=>show(r).elim
def MF(r:aC v u):W.handedIn u=ac:=by
 cases v with
 |non=>cases (r);rfl
 |bl b=>cases (r);rfl
 |int i=>have(t,e):=(r);subst e;rfl
 |str x=>have(t,e):=(r);subst e;rfl
 |byt b=>have(t,e):=(r);subst e;rfl
 |flt b=>have(t,e):=(r);subst e;rfl
 |ref a=>cases (r);rfl
 |ty n=>cases (r);rfl
variable{a:Addr}{fs:List (Str×V)}
def uB{dx:Addr}(hok:HOk P w H h)(e:H a=aa (.ins W8 dx fs)):∃mA,mV h a dx W8 mA/\(∀f,eZ (fs.lookup f) (mA f))/\PySem.Within mA (fs.map (·.1))/\Z fs<=1000/\H dx=aa (.own a):=by
 have(d,z,ne,b,mA,n,r,q):=(hok a _ e);show(mA,(b,n,ne),r,q,z,d)
structure Cls(K:aR)(W8:Addr):Prop where
 pg:kA K W8 oR=ac
 hd:lA K W8=ac
 po:mM K W8=ac
 sa:cv K (.ref W8) "__setattr__"=aa (aa (.builtin "object.__setattr__"))
def Cls.get(c:Cls K W8)(f:Str):kA K W8 f=ac:=c.pg
def cP(K:aR)(W8:Addr)(f:Str):Prop:=cv K (.ref W8) f=aa ab
variable{f:Str}
def cP.taker(n:cP K W8 f):W.takerIn K W8 f=aa ab:=by
 unfold W.takerIn;rw[show cv K _ f=aa ab from n];rfl
structure rf(K:aR)(W8:Addr)(m:Str)(f:Addr):Prop where
 at_:cv K (.ref W8) m=aa (aa (.ref f))
 fn:W.isFn K (.ref f)=ac
 kp:gq K (.ref f)=ac
def E9{s:ah}{dx:Addr}{b:Bool}{Q:PRS}(I:Inv X U C H s)(e:H a=aa (.ins W8 dx fs))(c:Cls X.K W8)(n:cP X.K W8 f)(l:fs.lookup f=aa v)
 (h:∀u s',Inv X U C H s'->aC v u->Q u s'):wpAny (model X.prog X.w) A (getAttr (.ref a) f b) Q W7 s:=by
 have(mA,O,r,_,_,_):=uB I.hok e;have(u,d,ru):=eZ.some_of (by rw[<- l];show r f);show MB I.kIn O (c.get f) c.hd n d (MF ru) (h u _ (I.tok _) ru)
variable{m:Str}
def Fa{s:ah}{dx:Addr}{g:Addr}{Q:Value×LVa->ah->Prop}(I:Inv X U C H s)(e:H a=aa (.ins W8 dx fs))(c:Cls X.K W8)(k:rf X.K W8 m g)(l:fs.lookup m=ab)
 (h:Q (.ref g,[.ref a],) s):wpAny (model X.prog X.w) A (hX (.ref a) m pl) Q W7 s:=by
 have(mA,O,r,_,_,_):=uB I.hok e;show MC I.kIn O (c.get m) k.at_ k.fn (eZ.none_of (by rw[<- l];show r m)) h
def Fb{s:ah}{dx:Addr}(I:Inv X U C H s)(e:H a=aa (.ins W8 dx fs))(c:Cls X.K W8)(n:cP X.K W8 f)(v:Z fs<1000)(m:aC y u)
 (h:∀s',Inv X U C (upd H a (.ins W8 dx (c9 f y fs))) s'->Q () s'):wpAny (model X.prog X.w) A (setAttr (.ref a) f u) Q W7 s:=by
 have(mA,O,r,wi,_,i):=uB I.hok e;have hz:Z (fs.map (·.1))<=aU:=by rw[aq,dG];lia
 show MD I.kIn O c.sa c.po n.taker c.hd wi hz λh' d p=>h _ ?_;have hd:∃o,h'.get? dx=aa o:=let (o,_,_,e',_):=d.ns;(o,e');show I.write (by rw[e];show iH) (.inr i) (λb q j z=>(p.2 b j).trans z) hd ?_;show(by rw[aN O.ne];show i,?_,O.ne,d.obj,_,d.ns,λg=>?_,λg l=>?_)
 .have:=E8 f y fs;lia
 .change eZ _ _;rw[E7]
  by_cases q:g=f
  .rw[if_pos q,if_pos q];show m
  .grind
 .by_cases q:g=f
  .rw[q];show(yb f y fs).1
  .show(yb f y fs).2 g (wi g λz=>l ?_)
   grind
section
variable{s:ah}
def Inv.made(I:Inv X U C H s):Inv X U C (upd (upd H s.heap.objs.size (.own (s.heap.objs.size+1))) (s.heap.objs.size+1) (.ins W8 s.heap.objs.size []))
  {s with heap:=(s.heap.push lB).push (lC W8 s.heap.objs.size)}:=by
 have a:(s.heap.push lB).get? s.heap.objs.size=aa lB:=cO s.heap rfl
 have c:((s.heap.push lB).push (lC W8 s.heap.objs.size)).get? (s.heap.objs.size+1)=aa (lC W8 s.heap.objs.size):=by
  have:=cO (s.heap.push lB) (o:=lC W8 s.heap.objs.size) rfl
  simp_all
 have d:(s.heap.push lB).Ns s.heap.objs.size _:=(lB,#[],_,a,rfl,(λe f=>absurd f (by simp)),λ_=>rfl);show(I.laid (o:=.own _) (t':=s.toks) (λb u q=>bz _ q) (aM _) (_,a)).laid (λb u q=>bz _ q) (qQ (jg _ _)) ?_;have ne:s.heap.objs.size≠s.heap.objs.size+1:=bY (c8 _);show(by rw[aN ne,ba],cy _,ne,c,λ_=>ab,(Heap.Ns1.of_empty d).at λo q=>bz _ q,λ_=>iH,λy g=>absurd rfl g)
end
variable{env:Env}
def MG{s:ah}{Q:PRS}(b:oJ e f env (eval e env)=eval e env)
 (h:wpAny (model prog w) A (eval e env) (λo a=>wpAny (model prog w) A (getAttr o f ac) Q W7 a) W7 s):wpAny (model prog w) A (eval (.Attribute e f pos) env) Q W7 s:=
 Attribute_any_ h (by rw[arm_eval_Attribute,b])
def MH(K:aR)(ta:TE)(f:Str):TE:=λC H Q=>ta C H λx H1=>∃a W8 dx fs v,x=.ref a/\H1 a=aa (.ins W8 dx fs)/\Cls K W8/\cP K W8 f/\fs.lookup f=aa v/\Q v H1
def Fc(K:aR)(ta b:TE)(f:Str):TS:=λD C H=>b C H λy H1=>ta C H1 λx H2=>∃a W8 dx fs,x=.ref a/\H2 a=aa (.ins W8 dx fs)/\Cls K W8/\cP K W8 f/\Z fs<1000 /\
 D.nx C (upd H2 a (.ins W8 dx (c9 f y fs)))
def Fd(X:Cx)(op:Operator)(rd:V->V->Hp->VK->Prop):Prop:=
 ∀(U:PNS) (s:ah) (C:St) (H:Hp) (x y:V) (u v:Value) (Q:VK),Inv X U C H s->aC x u->aC y v->rd x y H Q->wpAny (model X.prog X.w) X.A (inplaceOp op u v) (EP X U C Q) X.xe s
def MI(K:aR)(ta e:TE)(rd:V->V->Hp->VK->Prop)(f:Str):TS:=λD C H=>ta C H λx H1=>∃a W8 dx fs v,x=.ref a/\H1 a=aa (.ins W8 dx fs)/\Cls K W8/\cP K W8 f/\fs.lookup f=aa v /\
 e C H1 λy H2=>rd v y H2 λz d=>∃c b,d a=aa (.ins W8 c b)/\Z b<1000/\D.nx C (upd d a (.ins W8 c (c9 f z b)))
def Fe(j:PE X e ta)(i:oJ e f X.env (eval e X.env)=eval e X.env):PE X (.Attribute e f pos) (MH X.K ta f):=by
 intro U s C H Q I h;show MG i (thn (j U s C H _ I h) λu s1 m=>?_);have(x,H1,b,rx,a,W8,dx,fs,v,ex,g,c,n,l,q):=m;subst ex;obtain rfl:u=eY a:=rx;show E9 b g c n l λp s2 d ru=>(v,H1,d,ru,q)
variable{value:Expr}{tv:TE}
def yc{o:Expr}(ha:PE X o ta)(hv:PE X value tv)(i:gi value (aa (.Attribute o f b4)) pos.line X.env=pure af):PS X (.Assign [.Attribute o f b4] value pos) (Fc X.K ta tv f):=by
 intro U s C H D I h;show plainObj_wpAny_Assign_Attribute (thn (hv U s C H _ I h) λu s1 (y,H1,b,r,q)=>thn (ha U s1 C H1 _ b q) λj s2 p=>?_) i;have(x,H2,d,rx,a,W8,dx,fs,ex,g,c,n,l,m):=p;subst ex;obtain rfl:j=eY a:=rx;show Fb d g c n l r λv e=>(C,_,e,m)
variable{gF:Pos}
def MJ{o:Expr}{op:Operator}{rd:V->V->Hp->VK->Prop}(ha:PE X o ta)(hv:PE X value tv)(d:Fd X op rd):PS X (.AugAssign (.Attribute o f gF) op value pos) (MI X.K ta tv rd f):=by
 intro U s C H D I h;show wpAny_AugAssign_AttributeAny (thn (ha U s C H _ I h) λB s1 J=>?_);have(x,H1,e,rx,a,W8,dx,fs,v,ex,r,c,n,l,q):=J;subst ex;obtain rfl:B=eY a:=rx;show E9 e r c n l λu s2 g ru=>thn (hv U s2 C H1 _ g q) λQ N (y,H2,i,L,E)=>thn (d U N C H2 v y u Q _ i ru L E) λw4 Y (z,T,j,M,p,w,b,A,G)=>(Fb j b c n A M λs5 m=>(C,_,m,G))
abbrev MK:V->V->Hp->VK->Prop:=λx y H Q=>∃i j,x=.int i/\y=.int j/\Q (.int (i+j)) H
def ML:Fd X .Add MK:=by
 rintro U s C H x y u v Q I rx a ⟨i,j,rfl,rfl,q⟩;have(t,rfl):=(rx);have(t',rfl):=(a);show PyProof.Rows.iadd_int (.int _,H,I.tok _,(_,rfl),q)
inductive gL(K:aR)(H:Hp):V->Value->Prop where
 |non:gL K H .non (.type "NoneType")
 |bl (x:Bool):gL K H (.bl x) (.type "bool")
 |int (i:Int):gL K H (.int i) (.type "int")
 |str (x:Str):gL K H (.str x) (.type "str")
 |flt (x:UInt64):gL K H (.flt x) (.type "float")
 |lst {a:Addr} {E:LVv} (e:H a=aa (.lst E)):gL K H (.ref a) (.type "list")
 |frz {a:Addr} {o:Obj} {E:LVv} (e:H a=aa (.frz o (.lst E))):gL K H (.ref a) (.type "list")
 |tup {a:Addr} {E:LVv} (e:H a=aa (.tup E)):gL K H (.ref a) (.type "tuple")
 |dK {a:Addr} {kvs:List (Key×V)} (e:H a=aa (.dK kvs)):gL K H (.ref a) (.type "dict")
 |dT {a:Addr} {kvs:List (List Key×V)} (e:H a=aa (.dT kvs)):gL K H (.ref a) (.type "dict")
 |ins {a W8 dx:Addr} {fs:List (Str×V)} (e:H a=aa (.ins W8 dx fs)) (cl:Cls K W8) (ha:cv K (.ref W8) "__class__"=aa (aa (.builtin "object.__class__")))
   (hn:W.specialIn K (.builtin "object.__class__") "__get__"=aa (aa (.builtin "getset_descriptor.__get__"))) (htk:W.takesIn K (.builtin "object.__class__")=aa ac)
   (hm:W.mroIn K W8 (.type "object")=aa ac):gL K H (.ref a) (.ref W8)
variable{Q:PRS}{c:Value}{b:Bool}
section
variable{s:ah}
def MM{x:V}{u t:Value}(I:Inv X U C H s)(rx:aC x u)(ty:gL X.K H x t)(e:W.kitOne X.K t c=aa b)(h:∀g,Q (.bool b) {s with toks:=g}):
  wpAny (model X.prog X.w) A (call (.builtin "isinstance") [u,c]) Q W7 s:=by
 cases ty with
 |non=>cases (rx);show jh W.kitx_none I.kIn iH e (λz=>nomatch z) h
 |bl y=>cases (rx);show jh W.kitx_bool I.kIn iH e (λz=>nomatch z) h
 |int i=>have(t,q):=(rx);subst q;show jh W.kitx_int I.kIn iH e (λz=>nomatch z) h
 |str y=>have(t,q):=(rx);subst q;show jh W.kitx_str I.kIn iH e (λz=>nomatch z) h
 |flt y=>have(t,q):=(rx);subst q;show jh W.kitx_float I.kIn iH e (λz=>nomatch z) h
 | @lst a E d=>
  cases (rx);have(_,_,n,_,h1):=(I.hok a _ d)
  show jh W.kitx_list I.kIn (_,h1,rfl) e (λz=>nomatch z) h
 | @frz a j E d=>
  cases (rx);have(_,_,_,n,_,h1):=(I.hok a _ d)
  show jh W.kitx_list I.kIn (_,h1,rfl) e (λz=>nomatch z) h
 | @tup a E d=>
  cases (rx);have(_,_,_,p):=(I.hok a _ d);have(o,h1,h2,_):=p
  show jh W.kitx_tuple I.kIn (o,h1,h2) e (λz=>nomatch z) h
 | @dK a kvs d=>
  cases (rx);have(_,_,vs,_,p):=(I.hok a _ d);have(o,es,f,h1,h2,_):=p
  show jh W.kitx_dict I.kIn (o,h1,h2.1) e (λz=>nomatch z) h
 | @dT a kvs d=>
  cases (rx);have(_,_,E,_,o,es,f,h1,h2,_):=(I.hok a _ d)
  show jh W.kitx_dict I.kIn (o,h1,h2.1) e (λz=>nomatch z) h
 | @ins a W8 dx fs d cl ha hn htk hm=>
  cases (rx);have(mA,O,_):=uB I.hok d;have(od,J,_):=O.look;show jh (W.kitx_own (cl.get _) cl.hd ha hn htk hm) I.kIn J e (λz=>nomatch z) h
end
structure bA(k:Nat)(A:ca):Prop where
 hd:A.handled=ab
 dp:A.depth+3*k+5<recursionLimit
 un:A.units+16*k+200<cLine
def bA.mono{j k:Nat}(r:bA k A)(h:j<=k):bA j A:=(r.hd,by have:=r.dp;lia,by have:=r.un;lia)
def bA.deeper{k:Nat}(r:bA (k+1) A)(env:Env):bA k (A.deeper env):=
 (r.hd,by have:=r.dp;change A.depth+1+3*k+5<_;lia,by have:=r.un;change A.units+3+16*k+200<_;lia)
def MN:(A.under (.builtin "type.__call__" (.ref W8::us,kw))).depth=A.depth+1:=by
 first |rfl |simp[ca.under]
def MO:(A.under (.builtin "type.__call__" (.ref W8::us,kw))).units=A.units+1:=by
 first |rfl |simp[ca.under]
def bA.make{k:Nat}(r:bA (k+1) A)(W8:Addr)(us:LVa)(kw:List (Str×Value)):bA k (A.under (.builtin "type.__call__" (.ref W8::us,kw))):=
 (r.hd,by have:=r.dp;rw[MN];lia,by have:=r.un;rw[MO];lia)
def bA.depth{k:Nat}(r:bA k A):A.depth<recursionLimit:=by have:=r.dp;lia
def bA.units{k:Nat}(r:bA k A):A.units+64<cLine:=by have:=r.un;lia
def ik:TA:=λ_ H Q=>Q [] H
def jo(ta:TE)(tr:TA):TA:=λC H Q=>ta C H λx H1=>tr C H1 λE H2=>Q (x::E) H2
def dY:PA X [] ik:=λ_ _ _ _ H Q I h=>xD ([],H,I,.nil,h)
def eG{t:TA}(ha:PE X e te)(hr:PA X es t)(c:autoParam (StE X e es) Zb):PA X (e::es) (jo te t):=by
 intro pos U s C H Q I h;rw[c];show je (thn (ha U s C H _ I h) λu s1 (x,H1,a,g,d)=>(thn (hr pos U s1 C H1 _ a d) λus s2 (E,H2,b,i,f)=>(x::E,H2,b,.cons g i,f)))
def MP(t:TA):TE:=λC H Q=>t C H λE H1=>Z E<=aU/\∀p,H1 p=ab->Q (.ref p) (upd H1 p (.tup E))
def yd(t:TA):TE:=λC H Q=>t C H λE H1=>Z E<=aU/\∀p,H1 p=ab->Q (.ref p) (upd H1 p (.lst E))
def MQ{t:TA}{x1}(h:PA X es t):PE X (.Tuple es x1 pos) (MP t):=by
 intro U s C H Q I c;show wpAny_Tuple_spliced (thn (h pos U s C H _ I c) λus s1 (E,H1,a,r,z,q)=>(by rw[<- r.length];show z,?_));show(.ref s1.heap.objs.size,upd H1 s1.heap.objs.size _,a.laid (λb u e=>bz _ e) (aM _) ?_,rfl,q _ (a.hok.fresh (aM _)));show(z,us,r,(_,cO _ rfl,rfl,_,rfl))
def uC{t:TA}(h:PA X es t):PE X (.List es pos) (yd t):=by
 intro U s C H Q I c;show wpAny_List_spliced (thn (h pos U s C H _ I c) λus s1 (E,H1,a,r,z,q)=>(by rw[<- r.length];show z,?_));show(.ref s1.heap.objs.size,upd H1 s1.heap.objs.size _,a.laid (λb u e=>bz _ e) (aM _) ?_,rfl,q _ (a.hok.fresh (aM _)));show(z,us,0,r,cO _ rfl)
nonrec def Sp:=LVv->Hp->VK->XK->Prop
nonrec def CXT:=List Env->Hp->ah->XK->PRS
structure mW(P:ci)(w:World)(K:aR)(mg:MGT)(base:Heap)(A:ca)(outer:List Env)(s:ah)(H:Hp):Prop where
 frames:A.frames=aa outer
 mod:Mod K mg base
 bs:∀b o,base.get? b=aa o->s.heap.get? b=aa o/\H b=ab
 bsz:base.objs.size<=s.heap.objs.size
 funs:s.heap.FunFrames base outer
 frf:∀b∈frs outer,H b=ab
 hok:HOk P w H s.heap
 bare:kj s.gens
def CE(outer:List Env)(P:ci)(w:World)(H:Hp)(s:ah)(Q:VK)(u:Value)(s':ah):Prop:=
 ∃v H',s'.os=s.os/\kj s'.gens/\Un (frs outer) [] H H' s.heap s'.heap/\HOk P w H' s'.heap/\aC v u/\Q v H'
def CR(CX:CXT)(outer:List Env)(P:ci)(w:World)(H:Hp)(s:ah)(Q:VK)(W7:XK)(r:Result)(s':ah):Prop:=
 match r with
 |.ok (.ret u)=>CE outer P w H s Q u s'
 |.ok _=>False
 |.error e=>CX outer H s W7 e s'
structure cC(P:ci)(w:World)(K:aR)(mg:MGT)(base:Heap)(CX:CXT)(k:Nat)(f:Addr)(fd:cS)(ps:LSt)(sp:Sp):Prop where
 len:∀vs H Q W7,sp vs H Q W7->Z vs=Z ps
 run:∀(A:ca) (outer:List Env) (s:ah) (H:Hp) (args:Args) (us:LVa) (vs:LVv) (Q:VK) (W7:XK),bA k A->mW P w K mg base A outer s H->BindsTo s fd args (ps.zip us)->aH vs us->sp vs H Q W7 ->
  gH (model P w) A (.call (.ref f) args) (CR CX outer P w H s Q W7) s
variable{mg:MGT}{base:Heap}{CX:CXT}{f:Addr}{fd:cS}{ps:LSt}{sp:Sp}
def cC.imp{k:Nat}{a:Sp}(F:cC P w K mg base CX k f fd ps sp)
 (h:∀vs H Q W7,a vs H Q W7->sp vs H Q W7):cC P w K mg base CX k f fd ps a:=
 (λvs H Q W7 q=>F.len vs H Q W7 (h _ _ _ _ q),λA outer s H args us vs Q W7 hr c b hv d=>F.run A outer s H args us vs Q W7 hr c b hv (h _ _ _ _ d))
variable{outer:List Env}
def mW.make{s:ah}(e:mW P w K mg base A outer s H)(W8:Addr)(us:LVa)(kw:List (Str×Value)):
  mW P w K mg base (A.under (.builtin "type.__call__" (.ref W8::us,kw))) outer s H:=⟨by first |show e.frames |(simpa[ca.under]using e.frames),e.mod,e.bs,e.bsz,e.funs,e.frf,e.hok,e.bare⟩
def Inv.env0{s:ah}(I:Inv X U C H s):mW X.prog X.w X.K X.mg X.base X.A X.stack s H:=
 (I.ok.frames,I.ok.mod,I.bs,cN I.ok.bsz I.sz,I.stack,I.stkFree,I.hok,I.bare)
variable{Q:VK}
def Inv.after{s:ah}(I:Inv X U C H s)(h:CE X.stack X.prog X.w H s Q u s'):EP X U C Q u s':=by
 have(v,H',os,bare,un,hok,r,q):=h;have(c,g,d,t,a):=s';obtain rfl:a=s.os:=os;show(v,H',I.call un hok bare (λb z=>absurd z (by simp)),r,q)
def yf(sp:Sp)(a:LVv)(W7:XK)(t:TA):TE:=λC H Q=>t C H λvs H1=>sp (vs++a) H1 Q W7
def uD(W8:Addr)(m:Str)(sp:Sp)(b:LVv)(W7:XK)(ta:TE)(t:TA):TE:=λC H Q=>ta C H λx H1=>∃a dx fs,x=.ref a/\H1 a=aa (.ins W8 dx fs)/\fs.lookup m=ab /\
 t C H1 λvs H2=>sp (x::(vs++b)) H2 Q W7
def Ff(W8:Addr)(sp:Sp)(a:LVv)(W7:XK)(t:TA):TE:=λC H Q=>t C H λvs H1=>∀x dx,H1 x=ab->H1 dx=ab->dx≠x ->
 sp (.ref x::(vs++a)) (upd (upd H1 dx (.own x)) x (.ins W8 dx [])) (λv H2=>v=.non/\Q (.ref x) H2) W7
def dZ(K:aR)(fd:cS)(ps:LSt)(ds:LVa):Prop:=
 ∀(s:ah) (us:LVa),K.In s.heap->Z (us++ds)=Z ps->BindsTo s fd (us,[]) (ps.zip (us++ds))
def dZ.all(h:∀us:LVa,Z us=Z ps->bindArgs fd (us,[])=pure (ps.zip us)):dZ K fd ps []:=λs us _ a=>by
 rw[bN]at a ⊢;show .of_eq (h us a)
def mY(CX:CXT)(X:Cx)(W7:XK):Prop:=∀(U:PNS) (C:St) (H:Hp) (s:ah) (e:Value) (s':ah),Inv X U C H s->CX X.stack H s W7 e s'->X.xe e s'
variable{ff vs:LVv}{ds:LVa}{W7:XK}
def uE{k:Nat}{s:ah}(F:cC X.prog X.w X.K X.mg X.base CX k f fd ps sp)(hr:bA k X.A)(d:dZ X.K fd ps ds)(hd:aH ff ds)(i:mY CX X W7)
 (I:Inv X U C H s)(r:aH vs us)(h:sp (vs++ff) H Q W7):wpAny (model X.prog X.w) X.A (call (.ref f) us) (EP X U C Q) X.xe s:=by
 have b:=r.append hd;have g:Z (us++ds)=Z ps:=by rw[<- b.length];show F.len _ _ _ _ h
 show wpAny_call (lu (F.run X.A X.stack s H (us,[]) _ _ Q W7 hr I.env0 (d s us I.kIn g) b h) λr s' a=>?_)
 cases r with
 |error e=>show i U C H s e s' I a
 |ok c=>
  cases c with
  |ret u=>show I.after a
  |next=>show g7 a
  |brk=>show g7 a
  |cont=>show g7 a
variable{x:Str}{p:Pos}
def rg{k:Nat}{t:TA}(F:cC X.prog X.w X.K X.mg X.base CX k f fd ps sp)(hr:bA k X.A)(i:Gl X x)(hm:X.mg x=aa (.ref f))(j:gq X.K (.ref f)=ac)(d:dZ X.K fd ps ds)(hd:aH ff ds)(l:mY CX X W7)
 (ha:PA X (e::es) t)(a:autoParam (NDb x) Zc)(g:autoParam (StE X e es) Zb)(b:autoParam (BkE X pos es) Zb):
  PE X (.Call (.Name x p) (e::es) [] pos) (yf sp ff W7 t):=by
 intro U s C H Q I h;show i9 (xP I i hm ?_ a);show W.callWith_K I.ok.mod.kin j (thn (ha pos U s C H _ I h) λus s1 (vs,H1,c,r,q)=>(c.kIn,(uE F hr d hd l c r q))) g b
variable{apos:Pos}
def yg{k:Nat}{o:Expr}{t:TA}(p:PE X o ta)(c:Cls X.K W8)(hm:rf X.K W8 m f)(F:cC X.prog X.w X.K X.mg X.base CX k f fd ps sp)(hr:bA k X.A)(n:dZ X.K fd ps ds)(hd:aH ff ds)(y:mY CX X W7)(ha:PA X (e::es) t)
 (d:autoParam (StE X e es) Zb)(b:autoParam (BkE X pos es) Zb)
 (v:autoParam (eval (.Call (.Attribute o m apos) (e::es) [] pos) X.env=(do
   let ov <- eval o X.env
   gG apos.atName
   let (f,first,) <- eX [ov] (hX ov m pl)
   jW pos f first (cj pos (aL (e::es) X.env)) (iF pos (iE [] X.env)))) Zb):
  PE X (.Call (.Attribute o m apos) (e::es) [] pos) (uD W8 m sp ff W7 ta t):=by
 intro U s C H Q I h;show W.methodCall_KW (thn (p U s C H _ I h) λu s1 B=>?_) v;have(x,H1,g,rx,a,dx,fs,ex,j,l,q):=B;subst ex;obtain rfl:u=eY a:=rx;show Fa g j c hm l ?_;show W.callWith_K I.ok.mod.kin hm.kp (thn (ha pos U s1 C H1 _ g q) λus s2 (vs,H2,i,r,z)=>(i.kIn,(uE (vs:=.ref a::vs) F hr n hd y i (.cons rfl r) z))) d b
def yh{k:Nat}{o:Expr}(g:PE X o ta)(c:Cls X.K W8)(hm:rf X.K W8 m f)(F:cC X.prog X.w X.K X.mg X.base CX k f fd ps sp)(hr:bA k X.A)(e:dZ X.K fd ps ds)(hd:aH ff ds)(j:mY CX X W7)
 (i:autoParam (eval (.Call (.Attribute o m apos) [] [] pos) X.env=(do
   let ov <- eval o X.env
   gG apos.atName
   let (f,first,) <- eX [ov] (hX ov m pl)
   jW pos f first (cj pos (aL [] X.env)) (iF pos (iE [] X.env)))) Zb):
  PE X (.Call (.Attribute o m apos) [] [] pos) (uD W8 m sp ff W7 ta ik):=by
 intro U s C H Q I h;show W.methodCall_KW (thn (g U s C H _ I h) λu s1 n=>?_) i;have(x,H1,b,rx,a,dx,fs,ex,d,l,q):=n;subst ex;obtain rfl:u=eY a:=rx;show Fa b d c hm l (W.callWith_K0 b.kIn hm.kp (uE (vs:=[.ref a]) F hr e hd j b (.cons rfl .nil) q))
structure Mk(K:aR)(W8 f:Addr):Prop where
 makes:mN K W8=ac
 init:cv K (.ref W8) "__init__"=aa (aa (.ref f))
 fn:W.isFn K (.ref f)=ac
 kp:gq K (.ref W8)=ac
def MR{k:Nat}{s:ah}(W4:Mk X.K W8 f)(F:cC X.prog X.w X.K X.mg X.base CX k f fd ps sp)(hr:bA (k+1) X.A)(l:dZ X.K fd ps ds)(hd:aH ff ds)
 (n:mY CX X W7)(I:Inv X U C H s)(r:aH vs us)
 (h:∀x dx,H x=ab->H dx=ab->dx≠x->sp (.ref x::(vs++ff)) (upd (upd H dx (.own x)) x (.ins W8 dx [])) (λv H2=>v=.non/\Q (.ref x) H2) W7):
  wpAny (model X.prog X.w) X.A (call (.ref W8) us) (EP X U C Q) X.xe s:=by
 have c:=h _ s.heap.objs.size (I.hok.fresh (ki _)) (I.hok.fresh (aM _)) (bY (c8 _));have b:=Inv.made (W8:=W8) I;have d:aH (V.ref _::_) (eY (s.heap.objs.size+1)::_):=.cons rfl (r.append hd)
 have m:Z (eY (s.heap.objs.size+1)::us++ds)=Z ps:=by
  have e:=d.length;rw[F.len _ _ _ _ c]at e;show e.symm
 show wpAny_call (ME I.kIn W4.makes W4.init (beq_iff_eq.mp W4.fn) (lu (F.run _ X.stack _ _ (eY _::us,[]) _ _ _ W7 (hr.make W8 us [])
  (b.env0.make W8 us []) (l _ _ b.kIn m) d c) λr s' a=>?_))
 cases r with
 |error e=>show n U C _ _ e s' b a
 |ok j=>
  cases j with
  |ret u=>
   have(v,H',g,q,i,p):=b.after a;subst i
   show(q,(V.ref _,H',g,rfl,p))
  |next=>show g7 a
  |brk=>show g7 a
  |cont=>show g7 a
def Fg{k:Nat}{t:TA}(W4:Mk X.K W8 f)(F:cC X.prog X.w X.K X.mg X.base CX k f fd ps sp)(hr:bA (k+1) X.A)(i:Gl X x)(hm:X.mg x=aa (.ref W8))(d:dZ X.K fd ps ds)(hd:aH ff ds)(j:mY CX X W7)
 (ha:PA X (e::es) t)(a:autoParam (NDb x) Zc)(g:autoParam (StE X e es) Zb)(b:autoParam (BkE X pos es) Zb):
  PE X (.Call (.Name x p) (e::es) [] pos) (Ff W8 sp ff W7 t):=by
 intro U s C H Q I h;show i9 (xP I i hm ?_ a);show W.callWith_K I.ok.mod.kin W4.kp (thn (ha pos U s C H _ I h) λus s1 (vs,H1,c,r,q)=>(c.kIn,(MR W4 F hr d hd j c r q))) g b
structure aB(N P:LSt)(sc:Scope):Prop where
 kind:sc.kind=.function
 co:sc.isCoroutine=af
 gen:sc.isGenerator=af
 nd:N.Nodup
 pre:N.take (Z P)=P
 par:∀x∈P,sc.names.lookup x=aa .local\/sc.names.lookup x=aa .cell
 nofree:∀y∈sc.names,y.2≠.free
def Fh{kindOf:Str->Option gj}{x:Str}:∀{binds:List (Str×Value)} {m:MGT},(∀v,(x,v,)∉binds)->bindL kindOf binds m x=m x
 | [],_,_=>rfl
 |(n,v,)::r,m,h=>by
  unfold bindL;rw[Fh λw a=>h w (bj _ a)];split
  .grind
  .rfl
def Fi{kindOf:Str->Option gj}{x:Str}:∀{binds:List (Str×Value)} {m:MGT},(∀v,(x,v,)∉binds)->bindC kindOf binds m x=m x
 | [],_,_=>rfl
 |(n,v,)::r,m,h=>by
  unfold bindC;rw[Fi λw a=>h w (bj _ a)];split
  .rfl
  .grind
def Fj{kindOf:Str->Option gj}{x:Str}{v:Value}:∀{P:LSt} {vs:LVa} {i:Nat} {m:MGT},P.Nodup->P[i]?=aa x->vs[i]?=aa v->kindOf x=aa .local ->
  bindL kindOf (P.zip vs) m x=aa v
 | [],_,_,_,_,h,_,_=>by simp at h
 | _::_,[],_,_,_,_,h,_=>by simp at h
 |p::P,w::vs,0,m,nd,h1,h2,hk=>by
  simp at h1 h2;subst h1;subst h2;change bindL kindOf (_::P.zip vs) m p=_;dsimp only[bindL];rw[Fh λv hv=>(b9.mp nd).1 (of_mem_zip hv).1,if_pos hk]
  simp
 |p::P,w::vs,i+1,m,nd,h1,h2,hk=>by
  change bindL kindOf (_::P.zip vs) m x=_;show Fj (b9.mp nd).2 (by simpa using h1) (by simpa using h2) hk
def Fk{kindOf:Str->Option gj}{x:Str}{v:Value}:∀{P:LSt} {vs:LVa} {i:Nat} {m:MGT},P.Nodup->P[i]?=aa x->vs[i]?=aa v->kindOf x≠aa .local ->
  bindC kindOf (P.zip vs) m x=aa v
 | [],_,_,_,_,h,_,_=>by simp at h
 | _::_,[],_,_,_,_,h,_=>by simp at h
 |p::P,w::vs,0,m,nd,h1,h2,hk=>by
  simp at h1 h2;subst h1;subst h2;change bindC kindOf (_::P.zip vs) m p=_;dsimp only[bindC];rw[Fi λv hv=>(b9.mp nd).1 (of_mem_zip hv).1,if_neg hk]
  simp
 |p::P,w::vs,i+1,m,nd,h1,h2,hk=>by
  change bindC kindOf (_::P.zip vs) m x=_;show Fk (b9.mp nd).2 (by simpa using h1) (by simpa using h2) hk
def start(N:LSt)(vs:LVv):St:=vs.map aa++hE (Z N-Z vs) ab
abbrev iJ(CX:CXT)(P:ci)(w:World)(K:aR)(mg:MGT)(base:Heap)(N:LSt)(qual:Str)(scope:Scope)(f:Addr)(cd:Value)(A:ca)(outer:List Env)(s:ah)(H:Hp)(W7:XK):Cx where
 prog:=P
 w:=w
 K:=K
 mg:=mg
 base:=base
 A:=A.deeper (gh qual scope s.heap.objs.size f cd)
 N:=N
 s₀:=s
 H₀:=H
 env:=gh qual scope s.heap.objs.size f cd
 outer:=outer
 stack:=gh qual scope s.heap.objs.size f cd::outer
 ex:=[]
 calm:=ac
 fn:=λ_=>ac
 pn:=[]
 xe:=λe s'=>wpAny (model P w) (A.deeper (gh qual scope s.heap.objs.size f cd)) (leaving (gh qual scope s.heap.objs.size f cd) e) (λ_ s''=>CX outer H s W7 e s'') (λe' s''=>CX outer H s W7 e' s'') s'
variable{n:Nat}
def Fm{sc:Scope}(h:sc.names.lookup x=aa .cell):∃c,(cellsFrom n sc.names []).lookup x=aa c:=by
 show xv.mp (W.cellsFrom_some sc.names n [] (.inl h))
variable{qual:Str}{scope:Scope}
def MS{m:Value}{s s1:ah}
 (S:aB N ps scope)(hd:A.handled=ab)(e0:mW P w K mg base A outer s H)(I:Z vs=Z ps)(r:aH vs us)
 (x:InCallC s s.heap.objs.size (bindL (gh qual scope s.heap.objs.size f m).kindOf (ps.zip us) λ_=>ab) (cellsFrom (s.heap.objs.size+1) scope.names []) (bindC (gh qual scope s.heap.objs.size f m).kindOf (ps.zip us) λ_=>ab) s1):
  Inv (iJ CX P w K mg base N qual scope f m A outer s H W7) [] (start N vs) H s1:=by
 have C:Z ps<=Z N:=by have:=congrArg List.length S.pre;rw[ow]at this;lia
 have(h1,J,rfl,n):=x.done;have g:∀b:Addr,b∉(iJ CX P w K mg base N qual scope f m A outer s H W7).ex:=λb z=>absurd (show b∈([]:LAd)from z) (by simp)
 show((e0.mod,S.kind,rfl,rfl,aM _,λy z c h1 h2=>?_,λy d=>?_,λy c _ h=>?_,λ_=>hd,ca.frames_deeper e0.frames,.inr (rfl,rfl),λb z=>absurd z (g b),e0.bs,e0.bsz,λb _ _=>g b,λb z=>absurd z (g b),e0.funs,e0.frf),
  rfl,e0.bare,Un.kept n,(_,x.toInCall.ns,λi y v h1 h2 G=>?_),λy c h=>(_,x.cell y c h),e0.hok.fresh (aM _),λy c h=>?_,λp j=>absurd (show p∈([]:List _)from j) (by simp),e0.hok.kept n,?_)
 .show name_of_addr x.apart (qS h1) (qS h2)
 .have d:=d
  rcases d with d |d
  .show Fm d
  .show absurd rfl (S.nofree _ (qS d))
 .show fH (x.above y c (qS h))
 .have hi:i<Z vs:=by
   unfold start at h2
   by_cases hi:i<Z vs
   .show hi
   .rw[lc (by simpa using hi)]at h2;rw[oj]at h2
    split at h2 <;> nomatch h2
  have ha:vs[i]?=aa v:=by
   unfold start at h2;rw[ke (by simpa using hi),cx]at h2
   cases e:vs[i]? with
   |none=>rw[e]at h2;nomatch h2
   |some a=>rw[e]at h2;cases h2;rfl
  have(u,B,E):=r.get ha
  have j:ps[i]?=aa y:=by
   rw[<- S.pre,List.getElem?_take_of_lt (by lia)];show h1
  have l:ps.Nodup:=by rw[<- S.pre];show S.nd.sublist (take_sublist _ _)
  show(u,E,?_)
  rcases S.par y (dU j)with k |k
  .show .inl (k,Fj l j B k)
  .have(c,e):=Fm k;show .inr (.inl k,c,e,?_);have q:=x.cell y c e;rw[Fk l j B (by change scope.names.lookup y≠_;rw[k];decide)]at q;show q
 .show e0.hok.fresh (fH (x.above y c (qS h)))
 .unfold start;change _=Z N;rw[aP,aq,mi]
  lia
variable{an od:Option Addr}{osl:Array (Option Value)}
def Fo{k:Nat}{params:Arguments}{dV kV doc pm cdv ct oc:Value}
  (E:K.lookup f=aa (oc,od,.func (ji name qual params body scope dV kV doc pm an cdv ct),osl))(h:W.codeIn K cdv qual=ac)(S:aB N ps scope)
 (len:∀vs H Q W7,sp vs H Q W7->Z vs=Z ps)
 (a:∀ (A:ca) (outer:List Env) (s:ah) (H:Hp) (vs:LVv) (Q:VK) (W7:XK),bA k (A.deeper (gh qual scope s.heap.objs.size f cdv))->sp vs H Q W7 ->
   ∃t,PSs (iJ CX P w K mg base N qual scope f cdv A outer s H W7) body t/\t {nx:=λ_ H'=>Q .non H',rt:=Q} (start N vs) H):
  cC P w K mg base CX (k+1) f (ji name qual params body scope dV kV doc pm an cdv ct) ps sp:=by
 show(len,λA outer s H args us vs Q W7 hr e0 m r g=>?_);have j:=e0.mod.kin.keeps λb o e=>(e0.bs b o e).1
 have c:∀y∈ps.zip us,scope.names.lookup y.1=aa .local\/(scope.names.lookup y.1=aa .cell/\((cellsFrom (s.heap.objs.size+1) scope.names []).lookup y.1).isSome=ac):=λ(n,v) C=>by
  rcases S.par n (of_mem_zip C).1 with q |q
  .show .inl q
  .show .inr (q,W.cellsFrom_some _ _ _ (.inl q))
 show codeAny_call_function hr.depth (j _ _ E) rfl S.co S.gen rfl (W.codeRec_of j h) (m _ _ _ _ ?_);show wpAny_newFunctionEnv_cells S.kind c λenv p s1 x=>?_;subst p;show((e0.mod.nolimit.keeps λb o e=>(e0.bs b o e).1).keeps x.toInCall.keep,codeAny_func ?_);have(t,B,z):=a A outer s H vs Q W7 (hr.deeper _) g;have I:Inv (iJ CX P w K mg base N qual scope f cdv A outer s H W7) [] _ H s1:=MS S hr.hd e0 (len _ _ _ _ g) r x;show fS (B [] s1 _ H _ I z) (λl s' d=>?_) λe s' d=>d
 have fin:∀{σ':St} {H':Hp} {v:V} {u:Value},Inv (iJ CX P w K mg base N qual scope f cdv A outer s H W7) [] σ' H' s'->aC v u->Q v H'->CE outer P w H s Q u s':=
  λ{σ' H' v u} J i q=>(v,H',J.os,J.bare,J.base,J.hok,i,q)
 cases l with
 |ret u=>
  have(v,σ',H',J,i,q):=d
  show fin J i q
 |next=>
  have(σ',H',J,q):=d
  show fin (v:=V.non) J rfl q
 |brk=>
  have(_,_,_,q):=d
  show g7 q
 |cont=>
  have(_,_,_,q):=d;show g7 q
def tCB(r:LVv->Hp->VK->Prop)(t:TA):TE:=λC H Q=>t C H λvs H1=>r vs H1 Q
variable{r:LVv->Hp->VK->Prop}
def yi{t:TA}{id:String}(d:iI X (.builtin id) r)(g:Gl X x)(hm:X.mg x=ab)(hv:jb x=aa (.builtin id))(ha:PA X (e::es) t)(hn:autoParam (x ≠ "__name__") Zc)(a:autoParam (NDb x) Zc)
 (f:autoParam (StE X e es) Zb)(b:autoParam (BkE X pos es) Zb):PE X (.Call (.Name x p) (e::es) [] pos) (tCB r t):=by
 intro U s C H Q I h;show i9 (gJ I g hm hv (xy (thn (ha pos U s C H _ I h) λus s1 (vs,H1,c,j,i)=>d U s1 C H1 vs us Q c j i) f b) hn a)
variable{T:String}
def MT{t:TA}(d:iI X (.type T) r)(g:Gl X x)(hm:X.mg x=ab)(hv:jb x=aa (.type T))(ha:PA X (e::es) t)(hn:autoParam (x ≠ "__name__") Zc)(a:autoParam (NDb x) Zc)
 (f:autoParam (StE X e es) Zb)(b:autoParam (BkE X pos es) Zb):PE X (.Call (.Name x p) (e::es) [] pos) (tCB r t):=by
 intro U s C H Q I h;show i9 (gJ I g hm hv (jS (thn (ha pos U s C H _ I h) λus s1 (vs,H1,c,j,i)=>d U s1 C H1 vs us Q c j i) f b) hn a)
end L2
namespace HT
open List
open PySem PyProof.Rows
open PySem.SeqAt
open PySem.AutoSeq1 (wpAny_loadPart')
open PySem.MeetsSeq PySem.MeetsSeq2 PySem.MeetsSeq3
abbrev sIx(n d:Nat):Option Int->Nat
 |none=>d
 |some v=>if v<0 then S (v+(n:Int)) else min v.toNat n
def sIx_none(n d:Nat):sIx n d ab=d:=rfl
def sIx_nat(n d k:Nat):sIx n d (aa (k:Int))=min k n:=by rfl
end HT
namespace L2
open List
open PySem PySem.Spec PyProof.Rows
nonrec def TO:=St->Hp->(Option Int->Hp->Prop)->Prop
def PO(X:Cx)(e:Option Expr)(t:TO):Prop:=
 ∀(U:PNS) (s:ah) (C:St) (H:Hp) (Q:Option Int->Hp->Prop),Inv X U C H s->t C H Q ->
  wpAny (model X.prog X.w) X.A (evalPart e X.env) (λu a=>∃o H',Inv X U C H' a/\IsPart u o/\Q o H') X.xe s
def MU:TO:=λ_ H Q=>Q ab H
def MV(t:TE):TO:=λC H Q=>t C H λx a=>∃i,x=.int i/\Q (aa i) a
variable{ns:LI0}
def MW:∀{us:LVa},aH (ns.map V.int) us->gg us ns:=by
 induction ns with
 |nil=>intro us r;rw[map_nil]at r;cases r;show .nil
 |cons n ns a=>
  intro us r
  cases r with
  |cons b c=>
   have(t,e):=b;subst e;show .cons n t (a c)
variable{X:Cx}
def MX:PO X ab MU:=by
 intro U s C H Q I h;show aD (ab,H,I,.none,h)
variable{e:Expr}{te:TE}
def MY(h:PE X e te):PO X (aa e) (MV te):=by
 intro U s C H Q I c;show thn (h U s C H _ I c) λu s1 f=>?_;have(x,a,b,g,d):=f;have(i,rfl,q):=d;have(t,rfl):=g;show(aa i,a,b,.int i t,q)
variable{lo hi:Option Expr}
def SlR(X:Cx)(r:V->Option Int->Option Int->Hp->VK->Prop):Prop:=
 ∀(U:PNS) (s:ah) (C:St) (H:Hp) (x:V) (v vl a:Value) (lo hi:Option Int) (sl:Addr) (Q:VK),Inv X U C H s->aC x v->s.heap.IsSliceOf sl vl a .none->IsPart vl lo->IsPart a hi->r x lo hi H Q ->
  ∃T id,mG (.type T) "__getitem__"=pure (aa (.builtin id))/\s.TypeIs v T/\wpAny (model X.prog X.w) X.A (getItem v (.ref sl)) (EP X U C Q) X.xe s
def tSl(r:V->Option Int->Option Int->Hp->VK->Prop)(te:TE)(tl d:TO):TE:=λC H Q=>te C H λx a=>tl C a λl b=>d C b λu c=>r x l u c Q
variable{tl th:TO}{pos p2:Pos}
def MZ{r:V->Option Int->Option Int->Hp->VK->Prop}(hr:SlR X r)(y:PE X e te)(A:PO X lo tl)(E:PO X hi th):PE X (.Subscript e (.Slice lo hi ab p2) pos) (tSl r te tl th):=by
 intro U s C H Q I h;show Subscript_ (thn (y U s C H _ I h) λv s1 c=>?_);have(x,g,j,Y,L):=c;show wpAny_Slice (thn (A U s1 C g _ j L) λvl s2 (l,i,m,G,M)=>thn (E U s2 C i _ m M) λd a c=>?_);have(u,f,n,J,N):=c;show aD ?_
 have p:Inv X U C f {a with heap:=a.heap.push {cls:=.type "slice",data:=.fields #[vl,d,.none]}}:=n.kept λb ob q=>bz _ q
 have(T,id,w,B,z):=hr U {a with heap:=a.heap.push {cls:=.type "slice",data:=.fields #[vl,d,.none]}} C f x v vl d l u a.heap.objs.size Q p Y (Heap.IsSliceOf.new ..) G J N
 show tail_any B w z (by with_unfolding_all rfl)
def rh(E:LVv)(lo hi:Option Int):LVv:=(E.drop (HT.sIx E.length 0 lo)).take (HT.sIx E.length E.length hi-HT.sIx E.length 0 lo)
def M0(E:LVv)(lo hi:Option Int):Z (rh E lo hi)<=Z E:=by
 unfold rh;rw[ow,length_drop]
 lia
def ixN(n:Nat)(i:Int):Option Nat:=if 0<=i then (if i<n then aa (S i) else ab) else if -(n:Int)<=i then aa (S (i+n)) else ab
def atI{a:Type}(E:List a)(i:Int):Option a:=(ixN E.length i).bind λj=>E[j]?
variable{n j:Nat}{i:Int}
def Fp(h:ixN n i=aa j):seqIndex? i n=aa j/\j<n/\-(n:Int)<=i/\i<n:=by
 unfold ixN at h
 by_cases b:0<=i
 .rw[if_pos b]at h
  by_cases a:i<n
  .rw[if_pos a]at h;have e:=du h;show(by rw[seqIndex_of b a,e],by lia,by lia,a)
  .rw[if_neg a]at h;nomatch h
 .rw[if_neg b]at h
  by_cases a:-n<=i
  .rw[if_pos a]at h;have e:=du h;show(by rw[seqIndex_neg (by lia) a,e],by lia,a,by lia)
  .rw[if_neg a]at h;nomatch h
def Fq{a:Type}{E:List a}{v:a}(h:atI E i=aa v):∃j,seqIndex? i (Z E)=aa j/\E[j]?=aa v/\j<Z E/\-(Z E:Int)<=i/\i<Z E:=by
 unfold atI at h
 cases e:ixN E.length i with
 |none=>rw[e]at h;nomatch h
 |some j=>
  rw[e]at h;have(b,h2,c,d):=Fp e;show(j,b,h,h2,c,d)
def M1{a:Type}{E:List a}{v:a}(h:E[j]?=aa v):atI E (j:Int)=aa v:=by
 have b:=(cM.mp h).1
 have e:ixN E.length j=aa j:=by
  unfold ixN;rw[if_pos (by lia),if_pos (by lia)];simp
 unfold atI;rw[e];show h
def Ft(b:Expr):Prop:=∀o i,subscripted b af o i=operate [o,i] (getItem o i)
def IxR(X:Cx)(r:R2):Prop:=
 ∀(value a:Expr) (U:PNS) (s:ah) (C:St) (H:Hp) (x y:V) (v u:Value) (Q:VK),Inv X U C H s->aC x v->aC y u->r x y H Q ->
  subscripted a af v u=operate [v,u] (getItem v u)->wpAny (model X.prog X.w) X.A (subscriptTail value a v u) (EP X U C Q) X.xe s
def MtR(X:Cx)(id:String)(r:V->LVv->Hp->VK->Prop):Prop:=
 ∀(U:PNS) (s:ah) (C:St) (H:Hp) (x:V) (E:LVv) (v:Value) (us:LVa) (Q:VK),Inv X U C H s->aC x v->aH E us->r x E H Q ->
  wpAny (model X.prog X.w) X.A (call (.builtin id) (v::us)) (EP X U C Q) X.xe s
variable{r r':R2}
def IxR.or(h:IxR X r)(h':IxR X r'):IxR X (λx y H Q=>r x y H Q\/r' x y H Q):=by
 intro value a U s C H x y v u Q I rx c q b
 rcases q with q |q
 .show h value a U s C H x y v u Q I rx c q b
 .show h' value a U s C H x y v u Q I rx c q b
variable{a b:Expr}{ta tb:TE}
def M3(hr:IxR X r)(ha:PE X a ta)(e:PE X b tb)(f:Ft b):PE X (.Subscript a b pos) (tOp r ta tb):=by
 intro U s C H Q I h;show Subscript_ (xZ ha e I h λv u s2 x y c d rx g q=>hr a b U s2 C c x y v u Q d rx g q (f _ _))
def M4(K:aR):R2:=λx y H Q=>∃p E i v,x=.ref p/\y=.int i/\SqL K H p E/\atI E i=aa v/\Q v H
def M5(K:aR):R2:=λx y H Q=>∃p E i v,x=.ref p/\y=.int i/\SqT K H p E/\atI E i=aa v/\Q v H
def M6:IxR X (M4 X.K):=by
 intro value e U s C H x y v u Q I rx J h l;have(p,E,i,z,rfl,rfl,G,A,q):=h;subst rx;have(t,rfl):=J;have(L,r,c,hz):=I.list G;have(j,a,h2,M,m,n):=Fq A;have(w,f,d):=r.get h2;have B:=r.length;have hn:=rb;have fin:EP X U C Q w s:=(z,H,I,d,q)
 by_cases g:0<=i
 .have b:S i=j:=by
   rw[seqIndex_of g n]at a;show du a
  show item_listR c.isList g (by lia) (by rw[b];simpa using f) fin l
 .have b:S (i+L.toArray.size)=j:=by
   rw[seqIndex_neg (by lia) m]at a;rw[size_toArray,<- B];show du a
  show subscriptTail_builtinR c.isList.typeIs slot_list_getitem.lookup
   (wpAny_getItem_list_neg c.isList (by lia) (by rw[size_toArray] <;> lia) (by lia) (by rw[b];simpa using f) (rfl,fin)) l
def M7:IxR X (M5 X.K):=by
 intro value b U s C H x y v u Q I rx m h l;have(p,E,i,z,rfl,rfl,g,f,q):=h;subst rx;have(t,rfl):=m;have(L,r,c,hz):=I.tuple g;have(j,e,h2,n,A,B):=Fq f;have(w,d,a):=r.get h2;have hn:=rb;have fin:EP X U C Q w s:=(z,H,I,a,q)
 show subscriptTail_builtinR c.typeIs slot_tuple_getitem.lookup
  (getItem_tuple c (by lia) (by lia) (by rw[size_toArray,<- r.length];show e) (by simpa using d) (rfl,fin)) l
def M8(L:LVa)(n j:Nat)(u:Value):ic (·.setIfInBounds j u) {cls:=.type "list",data:=.seq L.toArray n}={cls:=.type "list",data:=.seq (L.set j u).toArray n}:=by
 simp[ic]
variable{U:PNS}{C:St}{H:Hp}{p:Addr}{E:LVv}
def Inv.lst{s:ah}(I:Inv X U C H s)(h:H p=aa (.lst E)):
  ∃(L:LVa) (n:Nat),aH E L/\s.heap.get? p=aa {cls:=.type "list",data:=.seq L.toArray n}/\Z E<=aU:=by
 have(z,L,n,r,e):=I.hok p _ h;show(L,n,r,e,z)
variable{ys:LVv}{L d0:LVa}{n':Nat}
def Inv.lstUpd{s:ah}{f:Obj->Obj}(I:Inv X U C H s)(h:H p=aa (.lst E))
 (d:s.heap.get? p=aa {cls:=.type "list",data:=.seq L.toArray n})(a:f {cls:=.type "list",data:=.seq L.toArray n}={cls:=.type "list",data:=.seq d0.toArray n'})(r:aH ys d0)(hz:Z ys<=aU)(t:Nat):
  Inv X U C (upd H p (.lst ys)) {s with heap:=s.heap.update p f,toks:=t}:=by
 have e:(s.heap.update p f).get? p=aa {cls:=.type "list",data:=.seq d0.toArray n'}:=by
  rw[oN f d (by rw[a] <;> rfl),a]
 show I.write (by rw[h];trivial) (.inl rfl) (λb u c q=>(oM _ _ (eV c)).trans q) (_,e) (hz,d0,n',r,e)
abbrev yj:V->V->V->Hp->(Hp->Prop)->Prop:=λo i v H Q=>∃p E k j,o=.ref p/\i=.int k/\H p=aa (.lst E)/\ixN E.length k=aa j/\Q (upd H p (.lst (E.set j v)))
def ym:EW X yj:=by
 intro U s C H o i v B A u Q I y x z h;have(p,E,k,j,rfl,rfl,m,w,q):=h;subst y;have(t,rfl):=x;have(L,n,r,d,hz):=I.lst m;have(a,h2,g,l):=Fp w;have c:=r.length;have hn:=rb
 have e:Inv X U C _ {s with heap:=s.heap.update p _}:=
  I.lstUpd m d (M8 L n j u) (r.set z j) (by rw[iC];show hz) s.toks
 by_cases f:0<=k
 .have b:S k=j:=by
   rw[seqIndex_of f l]at a;show du a
  show W.ki_setAt d f (by lia) (by rw[size_toArray,<- c];show l) (by rw[b];show(_,e,q))
 .have b:S (k+L.toArray.size)=j:=by
   rw[seqIndex_neg (by lia) g]at a;rw[size_toArray,<- c];show du a
  show W.ki_setBack d (by lia) (by rw[size_toArray,<- c];show g) (by lia) (by rw[b];show(_,e,q))
def M9(lo hi:Option Int)(n:Nat):(mF lo hi ab n).1=((HT.sIx n 0 lo:Nat):Int)/\(mF lo hi ab n).2.1=((HT.sIx n n hi:Nat):Int)/\(mF lo hi ab n).2.2=1:=by
 show(?_,?_,rfl)
 .cases lo with
  |none=>simp[mF,HT.sIx]
  |some i=>
   simp only[mF,HT.sIx,Option.getD_none]
   grind
 .cases hi with
  |none=>simp[mF,HT.sIx]
  |some i=>
   simp only[mF,HT.sIx,Option.getD_none]
   grind
def Na(L:LVa)(lo hi:Option Int):slicePick L.toArray lo hi ab=((L.drop (HT.sIx L.length 0 lo)).take (HT.sIx L.length L.length hi-HT.sIx L.length 0 lo)).toArray:=by
 have(a,h2,b):=M9 lo hi L.toArray.size;unfold slicePick;rw[a,h2,b]
 simp only[sliceRange_one,pick_run] <;> rfl
abbrev Nb(K:aR):V->Option Int->Option Int->Hp->VK->Prop:=λx lo hi H Q=>∃a E,x=.ref a/\SqL K H a E/\∀p,H p=ab->Q (.ref p) (upd H p (.lst (rh E lo hi)))
def Nd:SlR X (Nb X.K):=by
 intro U s C H x v vl l lo hi sl Q I rx e g i h;have(a,E,rfl,f,q):=h;subst rx;have(L,r,d,hz):=I.list f;have c:=r.length;show("list",_,slot_list_getitem.lookup,d.isList.typeIs,?_);show wpAny_getItem_list_slice d.isList e g i .none (by simp) ?_ (by grind);rw[Na,<- c];show(.ref s.heap.objs.size,_,I.laid (λb j q=>bz _ q) (aM _) ?_,rfl,q _ (I.hok.fresh (aM _)));show(cN (M0 E lo hi) hz,_,0,(r.drop _).take _,cO _ rfl)
abbrev fW:V->Bool
 |.non=>ac
 |.bl _=>ac
 |.int _=>ac
 |.str _=>ac
 | _=>af
abbrev eqV:V->V->Bool
 |.non,.non=>ac
 |.bl a,.bl b=>a==b
 |.bl a,.int b=>(if a then 1 else 0)==b
 |.int a,.bl b=>a==(if b then 1 else 0)
 |.int a,.int b=>a==b
 |.str a,.str b=>a==b
 | _,_=>af
variable{A:ca}{y x:V}{u v:Value}
def Fu{s:ah}(d:aC y u)(rx:aC x v)(e:fW y=ac)(c:fW x=ac):cB A s u v (eqV y x):=by
 cases y with
 |non=>
  cases d
  cases x with
  |non=>subst rx;show xK _
  |bl b=>subst rx;show cB.none_bool b
  |int b=>have(t,rfl):=rx;show cB.none_int b t
  |str b=>have(t,rfl):=rx;show cB.none_str b t
  | _=>show absurd (c) bK
 |bl a=>
  subst d
  cases x with
  |non=>subst rx;show cB.bool_none a
  |bl b=>subst rx;show cB.bool_bool a b
  |int b=>have(t,rfl):=rx;show cB.bool_int a b t
  |str b=>have(t,rfl):=rx;show cB.bool_str a b t
  | _=>show absurd (c) bK
 |int a=>
  have(t',rfl):=d
  cases x with
  |non=>subst rx;show cB.int_none a t'
  |bl b=>subst rx;show cB.int_bool a t' b
  |int b=>have(t,rfl):=rx;show cB.int_int a t' b t
  |str b=>have(t,rfl):=rx;show xI a t' b t
  | _=>show absurd (c) bK
 |str a=>
  have(t',rfl):=d
  cases x with
  |non=>subst rx;show cB.str_none a t'
  |bl b=>subst rx;show cB.str_bool a t' b
  |int b=>have(t,rfl):=rx;show xJ a t' b t
  |str b=>have(t,rfl):=rx;show cB.str_str a t' b t
  | _=>show absurd (c) bK
 | _=>show absurd (e) bK
def eqU(x:V)(u:Value):Bool:=match u with
 |.none=>eqV .non x
 |.bool b=>eqV (.bl b) x
 |.int i _=>eqV (.int i) x
 |.str z _=>eqV (.str z) x
 | _=>af
def Fv(r:aC y u)(f:fW y=ac):eqU x u=eqV y x:=by
 cases y with
 |non=>subst r;rfl
 |bl b=>subst r;rfl
 |int i=>have(t,rfl):=r;rfl
 |str z=>have(t,rfl):=r;rfl
 | _=>show absurd (f) bK
def yn{x:V}:∀{E:LVv} {us:LVa},aH E us->E.all fW=ac->us.any (eqU x)=E.any λy=>eqV y x
 | _,_,.nil,_=>rfl
 |y::E,u::us,.cons r t,f=>by
  rw[mr,ce]at f;rw[gD,gD,Fv r f.1,yn t f.2]
def yo{A:ca}{s:ah}{x:V}{v:Value}(rx:aC x v)(b:fW x=ac):∀{E:LVv} {us:LVa},aH E us->E.all fW=ac->∀u∈us,cB A s u v (eqU x u)
 | _,_,.nil,_=>λu a=>by nomatch a
 |y::E,u::us,.cons r t,f=>λc a=>by
  simp only[mr,ce]at f
  rcases a9.mp a with rfl |a
  .rw[Fv r f.1];show Fu r rx f.1 b
  .show yo rx b t f.2 c a
def inV(x:V)(E:LVv):Bool:=E.any λy=>eqV y x
def rIn(K:aR)(neg:Bool):R2:=λx y H Q=>∃p E,y=.ref p/\(SqL K H p E\/SqT K H p E)/\fW x=ac/\E.all fW=ac/\Q (.bl (if neg then !inV x E else inV x E)) H
def Nf:OpR X (cY .NotIn) (rIn X.K ac):=by
 intro U s C H x y v u Q I rx e h;have(p,E,rfl,a,d,fs,q):=h;subst e
 rcases a with a |a
 .have(L,r,c,hz):=I.list a;show SeqAt.notIn_listAt _ c.isList (λw b=>yo rx d r fs w (by simpa using b)) (.bl _,H,I,rfl,?_);rw[show L.toArray.any _=L.any (eqU x) by simp,yn r fs];show q
 .have(L,r,c,hz):=I.tuple a;show SeqAt.notIn_tupleAt _ c (λw b=>yo rx d r fs w (by simpa using b)) (.bl _,H,I,rfl,?_);rw[show L.toArray.any _=L.any (eqU x) by simp,yn r fs];show q
def Ng:iI X (.builtin "len") (λE H Q=>∃p ys,E=[.ref p]/\(SqL X.K H p ys\/SqT X.K H p ys)/\Q (.int (Z ys)) H):=by
 intro U s C H E us Q I r h;have(p,ys,rfl,b,q):=h;have(u,rfl,rx):=mU r;subst rx;have hn:=rb
 rcases b with b |b
 .have(L,r',c,hz):=I.list b;have a:=r'.length;show Calls.call_len_list c.isList (by grind) (.int (Z ys),H,I.tok _,(s.toks+1,by rw[size_toArray,a]),q)
 .have(L,r',c,hz):=I.tuple b;have a:=r'.length;show len_tuple c (by grind) (.int (Z ys),H,I.tok _,(s.toks+1,by rw[size_toArray,a]),q)
def Nh:iI X (.builtin "len") (λE H Q=>∃z,E=[.str z]/\z.length<=aU/\Q (.int z.length) H):=by
 intro U s C H E us Q I r h;have(z,rfl,hz,q):=h;have(u,rfl,t,rfl):=mU r;have hn:=rb;show len_str (by lia) (.int z.length,H,I.tok _,(_,rfl),q)
def Ni:iI X (.type "list") (λE H Q=>∃p ys,E=[.ref p]/\(SqL X.K H p ys\/SqT X.K H p ys)/\∀l,H l=ab->Q (.ref l) (upd H l (.lst ys))):=by
 intro U s C H E us Q I r h;have(p,ys,rfl,c,q):=h;have(u,rfl,rx):=mU r;subst rx
 have fin:∀L,aH ys L->Z ys<=aU->∀h' a,_ ->
   h'.get? s.heap.objs.size=aa {cls:=.type "list",dict:=ab,data:=.seq L.toArray a,slots:=#[]}->EP X U C Q _ {s with heap:=h'}:=λL r' hz h' a kp e=>
  (.ref s.heap.objs.size,_,I.laid kp (aM _) (show dX X.prog X.w _ h' _ (.lst ys)from(hz,L,a,r',e)),rfl,q _ (I.hok.fresh (aM _)))
 rcases c with c |c
 .have(L,r',g,hz):=I.list c;have b:=r'.length;have(o,f,d,n,hd):=g.isList;show call_list_seq p (.inl rfl) f d hd (λh' a kp e=>fin L r' hz h' a kp e) (by grind)
 .have(L,r',g,hz):=I.tuple c;have b:=r'.length;have(o,f,d,n,hd):=g;show call_list_seq p (.inr rfl) f d hd (λh' a kp e=>fin L r' hz h' a kp e) (by grind)
def tyV(K:aR)(T:String)(x:V)(H:Hp):Prop:=match x with
 |.str _=>T="str"
 |.int _=>T="int"
 |.ref p=>(T="list" /\ ∃E,SqL K H p E)\/(T="tuple" /\ ∃o,K.lookup p=aa o/\o.cls=.type "tuple" /\ o.dict=ab) \/
   (T="dict" /\ ((∃kvs,H p=aa (.dK kvs))\/∃kvs,H p=aa (.dT kvs)))\/(T="set" /\ ∃S n,H p=aa (.set S n))
 | _=>False
variable{T:String}
def Nj{s:ah}(I:Inv X U C H s)(r:aC x v)(ty:tyV X.K T x H):
  s.TypeIs v T/\∀a,v=.ref a->∃f,s.heap.get? a=aa f/\f.dict=ab:=by
 cases x with
 |str z=>
  have(t,rfl):=r;cases (ty)
  show⟨typeIs_str s z t,λ_ e=>nomatch e⟩
 |int i=>
  have(t,rfl):=r;cases (ty)
  show⟨typeIs_int s i t,λ_ e=>nomatch e⟩
 |ref p=>
  subst r
  rcases ty with⟨rfl,E,j⟩ |⟨rfl,o,b,h,hd⟩ |⟨rfl,b⟩ |⟨rfl,S,n,b⟩
  .have(L,_,g,_):=I.list j;show(g.isList.typeIs,λa e=>?_);cases e;have(o,n,e,c,hd,_):=g;show(o,e,hd)
  .show((o,I.kIn p o b,h),λa e=>?_);cases e;show(o,I.kIn _ o b,hd)
  .have z:∃o,s.heap.get? p=aa o/\o.ExactDict:=by
    rcases b with⟨kvs,b⟩ |⟨kvs,b⟩
    .have(_,_,_,_,o,_,_,e,ex,_):=I.hok p _ b;show(o,e,ex)
    .have(_,_,_,_,o,_,_,e,ex,_):=I.hok p _ b;show(o,e,ex)
   have(o,e,ex):=z;show((o,e,ex.1),λa d=>?_);cases d;show(o,e,ex.2.1)
  .have(o,_,_,_,e,ex,_):=I.hok p _ b;show((o,e,ex.1),λa d=>?_);cases d
   show(o,e,ex.2.1)
 | _=>show g7 ty
def tBM(K:aR)(T:String)(r:V->LVv->Hp->VK->Prop)(to:TE)(t:TA):TE:=λC H Q=>to C H λx a=>tyV K T x a/\t C a λE b=>r x E b Q
variable{es:LEx}{name:Str}{apos cpos:Pos}{r:V->LVv->Hp->VK->Prop}
def jp{o:Expr}{to:TE}{t:TA}{id:String}(pa:PlainAttrs T)(slot:Slot T name id)(f:typeOf (.builtin id)=pure (.type "method_descriptor"))(hm:MtR X id r)(q:PE X o to)(ha:PA X (e::es) t)
 (b:autoParam (oJ o name X.env (eval o X.env)=eval o X.env) Zb)
 (d:autoParam (((cj cpos (aL (e::es) X.env)).all (λx=>!x.1) && (iF cpos (iE [] X.env)).all (λx=>x.1.isSome)
   && decide (Z (e::es)+Z ([]:List Keyword)+(if ([]:List Keyword).isEmpty then 0 else 1)<30))=ac) Zb)
 (c:autoParam ((apos.endLine==cpos.line)=ac) Zb)(u:autoParam (StE X e es) Zb)(a:autoParam ((cj cpos (aL es X.env)).any (·.1)=af) Zb):
  PE X (.Call (.Attribute o name apos) (e::es) [] cpos) (tBM X.K T r to t):=by
 intro U s C H Q I h;show wpAny_Call_method_late b d c rfl (thn (q U s C H _ I h) λv s1 z=>?_);have(x,l,g,j,ty,w):=z;have(p,h2):=Nj g j ty;show(T,id,pa,slot,f,p,h2,?_);have i:=ha cpos U s1 C l _ g w;rw[u]at i ⊢
 show xB (by change(af || (cj cpos _).any (·.1))=af;rw[a] <;> rfl) (xC (thn i λus s2 (vs,m,n,A,y)=>hm U s2 C m x vs v us Q n j A y))
def MtM(X:Cx)(id:String)(r:V->LVv->Hp->VK->Prop):Prop:=
 ∀(U:PNS) (s:ah) (C:St) (H:Hp) (x:V) (E:LVv) (v:Value) (us:LVa) (Q:VK),Inv X U C H s->aC x v->aH E us->r x E H Q ->
  wpAny (model X.prog X.w) X.A (call (.builtin id) (v::us)) (EP X U C Q) X.xe s
def aH.one:∀{x:V} {us:LVa},aH [x] us->∃u,us=[u]/\aC x u:=λh=>by
 cases h with
 |cons r h=>
  cases h;show(_,rfl,r)
def aH.two:∀{x y:V} {us:LVa},aH [x,y] us->∃u v,us=[u,v]/\aC x u/\aC y v:=λh=>by
 cases h with
 |cons r h=>
  cases h with
  |cons q h=>
   cases h;show(_,_,rfl,r,q)
def aH.eraseIdx:∀{E:LVv} {us:LVa} (i:Nat),aH E us->aH (E.eraseIdx i) (us.eraseIdx i)
 | _,_,_,.nil=>.nil
 | _,_,0,.cons _ t=>t
 | _,_,i+1,.cons r t=>.cons r (aH.eraseIdx i t)
variable{us:LVa}
def aH.reverse(h:aH E us):aH E.reverse us.reverse:=by
 induction h with
 |nil=>show .nil
 |cons r t a=>rw[i8,i8];show aH.append a (.cons r .nil)
def yp{a:Type}:∀(l:List a) (i:Nat),Z (l.eraseIdx i)<=Z l
 | [],_=>aM _
 | _::_,0=>ki _
 | _::r,i+1=>Nat.succ_le_succ (yp r i)
variable{l:Addr}{t':Nat}
section
variable{s:ah}
def Inv.lset{f:Array Value->Array Value}(I:Inv X U C H s)(a:H l=aa (.lst E))
 (e:s.heap.get? l=aa {cls:=.type "list",data:=.seq L.toArray n})(c:f L.toArray=d0.toArray)(hv:aH ys d0)(hz:Z ys<=aU):
  Inv X U C (upd H l (.lst ys)) {s with heap:=s.heap.update l (ic f),toks:=t'}:=by
 have q:=PySem.IsL.update e f;rw[c]at q;show I.write (by rw[a];show trivial) (.inl rfl) (λg u b d=>(oM s.heap _ (eV b)).trans d) (_,q) (hz,d0,_,hv,q)
end
section
variable{s:ah}
def Inv.lnew(I:Inv X U C H s)(hv:aH ys L)(hz:Z ys<=aU):
  Inv X U C (upd H s.heap.objs.size (.lst ys)) {s with heap:=s.heap.push {cls:=.type "list",data:=.seq L.toArray},toks:=t'}:=
 I.laid (λ_ _ q=>bz _ q) (aM _) (hz,L,0,hv,cO _ rfl)
end
def Inv.fresh{s:ah}(I:Inv X U C H s):H s.heap.objs.size=ab:=I.hok.fresh (aM _)
def Inv.lstM{s:ah}(I:Inv X U C H s)(a:H l=aa (.lst E)):Z E<=aU/\∃(L:LVa) (n:Nat),aH E L/\Z E=Z L/\s.heap.get? l=aa {cls:=.type "list",data:=.seq L.toArray n}:=by
 have(z,L,n,r,e):=I.hok l _ a;show(z,L,n,r,r.length,e)
def Nk(h:n<=aU):EF n=af:=by
 show decide_eq_false (by lia)
abbrev uF:V->LVv->Hp->VK->Prop:=λx vs H Q=>∃l E y,x=.ref l/\vs=[y]/\H l=aa (.lst E)/\Z E<aU/\Q .non (upd H l (.lst (E++[y])))
def uG:MtM X "list.append" uF:=by
 intro U s C H x vs v us Q I rx b h;have(l,E,y,rfl,rfl,a,hz,q):=h;subst rx;have(u,rfl,ru):=b.one;have(z,L,n,r,c,e):=I.lstM a;show call_meets F.slot_list_append (_,e,rfl) F.entry_list_append (F.args_list_append_2 _ _) (PySem.list_append l L.toArray n u (by rw[size_toArray];lia)) (e,?_);show(.non,_,I.lset a e (by simp) (r.append (.cons ru .nil)) ?_,rfl,q);rw[aP,fB]
 lia
abbrev yq:V->LVv->Hp->VK->Prop:=λx vs H Q=>∃l b E a,x=.ref l/\vs=[.ref b]/\H l=aa (.lst E)/\H b=aa (.lst a)/\Z E+Z a<=aU/\Q .non (upd H l (.lst (E++a)))
def yr:MtM X "list.extend" yq:=by
 intro U s C H x vs v us Q I rx p h;have(l,b,E,A,rfl,rfl,f,hB,hz,q):=h;subst rx;have(u,rfl,ru):=p.one;subst ru;have(z,L,n,r,w,e):=I.lstM f;have(y,a,j,m,i,g):=I.lstM hB;have d:L.toArray.size+a.toArray.size<=aU:=by grind
 have c:¬(!L.toArray.isEmpty && EF (L.toArray.size+a.toArray.size))=ac:=by
  rw[Nk d,tO]
  grind
 show call_meets F.slot_list_extend (_,e,rfl) F.entry_list_extend (F.args_list_extend_2 _ _)
  (AutoSeq1.list_extend_list_list_0 l L.toArray n b a.toArray j c (by grind) (by lia)) (e,g,?_)
 show(.non,_,I.lset f e (by simp) (r.append m) ?_,rfl,q)
 grind
abbrev Fw:V->LVv->Hp->VK->Prop:=λx vs H Q=>∃l E i k y,x=.ref l/\vs=[.int i]/\H l=aa (.lst E)/\-(2 ^ 63)<=i/\i<2 ^ 63/\seqIndex? i (Z E)=aa k/\E[k]?=aa y/\Q y (upd H l (.lst (E.eraseIdx k)))
def Nl:MtM X "list.pop" Fw:=by
 intro U s C H x vs v us Q I rx m h;have(l,E,i,k,y,rfl,rfl,b,c,h2,d,j,q):=h;subst rx;have(u,rfl,ru):=m.one;have(t,rfl):=ru;have(z,L,n,r,f,e):=I.lstM b;have(w,g,a):=r.get j
 show call_meets F.slot_list_pop (_,e,rfl) F.entry_list_pop (F.args_list_pop_2 _ _)
  (MeetsSeq.list_pop_at l L.toArray n i t k w (fitsIndex_both c h2) (by rw[size_toArray,<- f];show d) (by rw[<- qC];show g) (by rw[size_toArray];lia)) (e,?_)
 show(y,_,I.lset b e ?_ (r.eraseIdx k) ?_,a,q)
 .change L.toArray.eraseIdxIfInBounds k=(L.eraseIdx k).toArray;rw[eraseIdxIfInBounds_toArray]
 .have:=yp E k
  lia
def Nm:R2:=λx y H Q=>∃l b E a,x=.ref l/\y=.ref b/\H l=aa (.lst E)/\H b=aa (.lst a)/\Z E+Z a<=aU/\∀p,H p=ab->Q (.ref p) (upd H p (.lst (E++a)))
def Fx:OpR X (fT .Add) Nm:=by
 intro U s C H x y v u Q I rx j h;have(l,b,E,A,rfl,rfl,f,hB,hz,q):=h;subst rx;subst j;have(z,L,n,r,m,e):=I.lstM f;have(w,a,p,i,g,c):=I.lstM hB;show PySem.P.add_list e c ?_ (by grind);have d:L.toArray++a.toArray=(L++a).toArray:=by simp
 rw[d];show(.ref _,_,I.lnew (r.append i) (by grind),rfl,q _ I.fresh)
end L2
namespace Att
open List
open PySem PySem.W PySem.Calls PyProof.Rows
variable{P:Params}{h:Heap}
def Nn:∀(ns:LI0) (vs:LVa),WellAll P h vs (ns.map WData.int)->gg vs ns:=by
 intro ns
 induction ns with
 |nil=>
  intro vs w;cases w
  show .nil
 |cons n ns c=>
  intro vs w
  cases w with
  |cons a b=>
   cases a;show .cons _ _ (c _ b)
variable{l:OpenLaw}{n:Nat}{vals:LVa}
def No(hn:l.most=aa n){args:List WData}
 (b:l.row.toRowW.claim.pre args=ac)(g:WellAll P h vals args):
  ∃a vs ns,vals=[eY a]/\args=[WData.list (ns.map WData.int)]/\h.get? a=aa {cls:=.type "list",data:=.seq vs.toArray}/\gg vs ns/\Z ns<=n:=by
 have(d,r,rfl,i,h2):=hasAllW_cons ((pre_splitW b).1);obtain rfl:=hasAllW_nil h2;have(E,rfl,j):=hasW_list i;have(ns,rfl):=items_int j
 have e:Z ns<=n:=by
  have f:(WTm.not (.lt (.lit (.int n)) (.len (.arg 0)))).holds [] {args:=[.list (ns.map .int)]}=ac:=by
   have f:=(holds_andW ((pre_splitW b).2)).1;rw[hn]at f;show f
  have u:=condW_of f (w_not (w_lt w_lit (w_len_list (w_arg rfl))))
  grind
 cases g with
 |cons p q=>
  cases q
  cases p with
  |list m c=>show(_,_,ns,rfl,rfl,m,Nn ns _ c,e)
def Np(l:OpenLaw)(args:List WData):l.row.toRowW.claim.post args (.bool ac) args=ac:=
 postW_of
  (show WShape.has [] _ .bool=ac by first |rfl |decide |simp[WShape.has])
  (w_eq_bool (w_res rfl) w_lit) rfl
variable{q:ci}{dr:LSt}{XP:MGT->Heap->Prop}{YP:World->Heap->Prop}{d:DefRec}
def attach_call
 (hn:l.most=aa n)(p:d.params.defaults=[])
 (call:∀ (w:World) (s₀ b:ah) (mg mb:MGT) (fa:Addr) (o:Obj) (pm i doc:Value) (a:Addr) (vs:LVa) (ns:LI0),
   Ground q dr [] XP w s₀ mg mb b.heap->YP w b.heap ->
   b.heap.get? fa=aa o->o.data=.func (docDef d.name d.params d.body d.scope pm i doc)->b.heap.CodeRec i d.name->mg d.name=aa (.ref fa) ->
   b.heap.get? a=aa {cls:=.type "list",data:=.seq vs.toArray}->gg vs ns->Z ns<=n->b.gens=#[] ->
   gH (model l.prog w) callerA (.call (.ref fa) ([.ref a],[])) (λr j=>r=.ok (.ret (.bool ac))/\OldK b.heap j.heap/\j.os=b.os/\kj j.gens) b):
  WalkO q dr XP YP l.row.toRowW d [] (λf vs=>PySem.call f vs):=by
 intro w s₀ b mg mb G Y fa o pm i doc dV kV E hd m x u B args vals as h y I v C;obtain rfl:dV=.none:=Dflts.none x p;obtain rfl:kV=.none:=Dflts.noKw x;have(a,vs,ns,rfl,rfl,g,c,e):=No hn h v;show enter_call (lu (call w s₀ b mg mb fa o pm i doc a vs ns G Y E (fd_plain hd) m u g c e B) λr j H=>?_);have(rfl,h2,z,A):=H;show(.inl (.bool ac,.bool ac,[],rfl,λ_=>rfl,.bool ac,Np l _,λ_=>(List.Pairwise.nil,λ_ hm=>(nomatch hm))),h2,z,A)
end Att
namespace L2
open List
open PySem PySem.Spec PyProof.Rows
def Fy:∀{vs:LVa} {ns:LI0},gg vs ns->aH (ns.map V.int) vs
 | _,_,.nil=>.nil
 | _,_,.cons n t h=>.cons (t,rfl) (Fy h)
def uH(H:Hp):Prop:=∀b,H b=ab\/∃o E,H b=aa (.frz o (.lst E))
variable{P:ci}{w:World}{K:aR}{mg:MGT}{a:Addr}{fd:cS}{x:Str}{ns:LI0}
def Nq{mb:MGT}{CX:CXT}{k:Nat}{fa:Addr}{sp:Sp}{c:ah}{vs:LVa}
 (T:K.In c.heap)(B:c.heap.Ns cz mg)(p:c.heap.Ns builtinsNs mb)(J:∀x:Str,x ≠ "__name__" -> mb x=jb x)(A:c.heap.NoLimit)(hg:c.gens=#[])
 (ha:c.heap.get? a=aa {cls:=.type "list",data:=.seq vs.toArray})(hi:gg vs ns)(hl:Z ns<=aU)(hr:bA k callerA)
 (F:∀base:Heap,K.In base->base.Ns cz mg->cC P w K mg base CX k fa fd [x] sp)(l:∀(s:ah) (u:Value),BindsTo s fd ([u],[]) [(x,u,)])
 (M:∀H:Hp,uH H->SqL K H a (ns.map V.int)->sp [.ref a] H (λv _=>v=.bl ac) λ_ _ _=>False)
 (I:∀H e g,CX [] H c (λ_ _ _=>False) e g->False):
  gH (model P w) callerA (.call (.ref fa) ([.ref a],[])) (λr g=>r=.ok (.ret (.bool ac))/\OldK c.heap g.heap/\g.os=c.os/\kj g.gens) c:=by
 have rv:=Fy hi
 have j:∀H:Hp,uH H->SqL K H a (ns.map V.int)->HOk P w H c.heap->(∀b,H b≠ab->b=a)->(H a≠ab->K.lookup a=ab) ->
   gH (model P w) callerA (.call (.ref fa) ([.ref a],[])) (λr g=>r=.ok (.ret (.bool ac))/\OldK c.heap g.heap/\g.os=c.os/\kj g.gens) c:=by
  intro H U hS hok hA hK;have f:∀{b:Addr} {o:Obj},c.heap.get? b=aa o->H b=ab->(oS c.heap H).get? b=aa o:=λe n=>Lb e n
  have N:∀{b:Addr} {o:Obj} {es:Array DictEntry} {G:Nat},c.heap.get? b=aa o->o.data=.dict es G->H b=ab:=λ{b o es G} e d=>by
   grind
  have i:∀{b:Addr} {m:MGT},c.heap.Ns b m->(oS c.heap H).Ns b m:=λ{b m} (o,es,G,e,d,r)=>(o,es,G,f e (N e d),d,r)
  have y:=λb o e=>f (T b o e) (by
   cases q:H b with
   |none=>rfl
   |some u=>
    have e':=hA b (by grind);subst e';rw[hK (by grind)]at e;nomatch e)
  have hM:Mod K mg _:=(y,i B,(mb,i p,J),let (mc,h1,h2):=A;(mc,i h1,h2));have e0:mW P w K mg _ callerA [] c H:=(rfl,hM,λb o e=>Lc e,qQ (La _ _),trivial,λb p=>absurd (show b∈([]:LAd)from p) (by simp),hok,.of_eq hg);show lu ((F _ y (i B)).run callerA [] c H ([.ref a],[]) _ [.ref a] _ _ hr e0 (l c _) (.cons rfl .nil) (M H U hS)) λr g h=>?_
  cases r with
  |error e=>show(I H e g h).elim
  |ok Y=>
   cases Y with
   |next=>show g7 h
   |brk=>show g7 h
   |cont=>show g7 h
   |ret u=>
    have(v,H',os,bare,un,C,r',q):=h;subst q;obtain rfl:u=lz ac:=r';show(rfl,OldK.of_keep λb o e=>?_,os,bare)
    cases q:H b with
    |none=>show un.keep b o e q (by intro z;show absurd (show b∈([]:LAd)from z) (by simp)) (by simp)
    |some u=>
     rcases U b with z |⟨ob,E,z⟩
     .grind
     .have z2:=un.frzs b ob _ z;have(e1,_):=hok b _ z;have(e2,_):=C b _ z2
      grind
 cases L:K.lookup a with
 |some o=>
  have e:=T a o L;rw[ha]at e;cases e
  show j _ (λ_=>.inl rfl) (.inr (_,vs.toArray,_,L,rfl,rfl,rfl,by rw[size_toArray,hi.length];grind)) (λb u z=>by have Q:_=aa u:=z;nomatch Q) (λb z=>absurd rfl z) λz=>absurd rfl z
 |none=>
  show j (λb=>if b=a then aa _ else ab) (λb=>?_) (.inl (.inr ({cls:=.type "list",data:=.seq vs.toArray},if_pos rfl))) (λb u z=>?_) (λb z=>?_) λ_=>L
  .grind
  .by_cases p:b=a
   .have Q:=(if_pos p).symm.trans z;cases Q;subst p;show(ha,by rw[aq];show hl,vs,_,rv,ha)
   .grind
  .grind
variable{h:Heap}
nonrec def KOf(_:K.In h):aR:=K
variable{l:W.OpenLaw}{q:ci}{dr:LSt}{XP:MGT->Heap->Prop}{YP:World->Heap->Prop}{d:DefRec}
def Nr{n k:Nat}{K:Params->aR}{CX:World->CXT}{sp:World->Sp}
 (hn:l.most=aa n)(z:n<=aU)(r:d.params.defaults=[])(hr:bA k callerA)
 (L:∀(w:World) (h:Heap),YP w h->(K w.params).In h)
 (F:∀ (w:World) (mg:MGT) (fa:Addr) (h:Heap),(K w.params).In h->h.Ns cz mg->mg d.name=aa (.ref fa) ->
   ∃fd:cS,(∀(s:ah) (u:Value),BindsTo s fd ([u],[]) [(x,u,)]) /\
    ∀base:Heap,(K w.params).In base->base.Ns cz mg->cC l.prog w (K w.params) mg base (CX w) k fa fd [x] (sp w))
 (A:∀(w:World) (H:Hp) (a:Addr) (ns:LI0),Z ns<=n->uH H->SqL (K w.params) H a (ns.map V.int)->sp w [.ref a] H (λv _=>v=.bl ac) λ_ _ _=>False)
 (p:∀(w:World) (H:Hp) (s:ah) (e:Value) (B:ah),CX w [] H s (λ_ _ _=>False) e B->False):
  W.WalkO q dr XP YP l.row.toRowW d [] (λf vs=>PySem.call f vs):=by
 show Att.attach_call hn r λw s₀ m mg mb fa o pm U doc a vs ns G Y ho hd N y j i c Q=>?_;have C:=L w _ Y;have(fd,M,E):=F w mg fa _ C G.T.g y;show Nq C G.T.g G.T.b G.T.builtins G.T.nolimit Q j i (cN c z) hr E M (λH I J=>A w H a ns c I J) λH e B=>p w H m e B
variable{CX:CXT}
def walk_ofK{n k:Nat}{K:Params->aR}{sp:aR->Sp}
 (hn:l.most=aa n)(g:n<=aU)(c:d.params.defaults=[])(hr:bA k callerA)
 (r:∀(w:World) (h:Heap),YP w h->(K w.params).In h)
 (F:∀ (w:World) (mg:MGT) (fa:Addr) (h:Heap),(K w.params).In h->h.Ns cz mg->mg d.name=aa (.ref fa) ->
   ∃fd:cS,(∀(s:ah) (u:Value),BindsTo s fd ([u],[]) [(x,u,)]) /\
    ∀base:Heap,(K w.params).In base->base.Ns cz mg->cC l.prog w (K w.params) mg base CX k fa fd [x] (sp (K w.params)))
 (i:∀(K:aR) (H:Hp) (a:Addr) (ns:LI0),Z ns<=n->uH H->SqL K H a (ns.map V.int)->sp K [.ref a] H (λv _=>v=.bl ac) λ_ _ _=>False)
 (b:∀(H:Hp) (s:ah) (e:Value) (j:ah),CX [] H s (λ_ _ _=>False) e j->False):
  W.WalkO q dr XP YP l.row.toRowW d [] (λf vs=>PySem.call f vs):=
 Nr hn g c hr r F (λw H a ns m h2 p=>i _ H a ns m h2 p) λ_ H s e j=>b H s e j
def bu(s:Stmt)(j:Nat):Stmt:=match s with
 |.ClassDef _ _ _ body _ _ _ _ _ _ _=>body.getD j (.Pass (0,0,0,0))
 | _=>.Pass (0,0,0,0)
def kE(s:Stmt):Arguments:=match s with
 |.FunctionDef _ a _ _ _ _ _ _ _ _=>a
 | _=>{posonlyargs:=[],args:=[],vararg:=ab,kwonlyargs:=[],kw_defaults:=[],kwarg:=ab,defaults:=[]}
def fX(s:Stmt):List Stmt:=match s with
 |.FunctionDef _ _ b _ _ _ _ _ _ _=>b
 | _=>[]
def aw(s:Stmt):Scope:=match s with
 |.FunctionDef _ _ _ _ _ _ sc _ _ _=>sc
 | _=>{kind:=.function,names:=[],isGenerator:=af,isCoroutine:=af}
nonrec abbrev CX0:CXT:=λ_ _ _ _ _ _=>False
nonrec abbrev E0:XK:=λ_ _ _=>False
variable{X:Cx}
def gM:mY CX0 X E0:=λ_ _ _ _ _ _ _ h=>h.elim
structure Fun(K:aR)(x qual:Str)(st:Stmt)(f:Addr)(fd:cS):Prop where
 ex:∃(oc:Value) (od:Option Addr) (kV doc pm:Value) (an:Option Addr) (cdv ct:Value) (osl:Array (Option Value)),
  fd=ji x qual (kE st) (fX st) (aw st) .none kV doc pm an cdv ct/\K.lookup f=aa (oc,od,.func fd,osl)/\W.codeIn K cdv qual=ac
 kp:gq K (.ref f)=ac
variable{base:Heap}{qual:Str}{st:Stmt}{f:Addr}{N ps:LSt}{sp:Sp}
def Fun.ok{k:Nat}(F:Fun K x qual st f fd)(S:aB N ps (aw st))(len:∀vs H Q W7,sp vs H Q W7->Z vs=Z ps)
 (a:∀ (cdv:Value) (A:ca) (outer:List Env) (s:ah) (H:Hp) (vs:LVv) (Q:VK) (W7:XK),bA k (A.deeper (gh qual (aw st) s.heap.objs.size f cdv))->sp vs H Q W7 ->
   ∃t,PSs (iJ CX0 P w K mg base N qual (aw st) f cdv A outer s H W7).nox (fX st) t/\t {nx:=λ_ H'=>Q .non H',rt:=Q} (start N vs) H):cC P w K mg base CX0 (k+1) f fd ps sp:=by
 have(oc,od,kV,doc,pm,an,cdv,ct,osl,rfl,d,b):=F.ex;show Fo d b S len λA outer s H vs Q W7 hr c=>?_;have(t,h,q):=a cdv A outer s H vs Q W7 hr c;show(t,h.nox,q)
def Fun.binds(F:Fun K x qual st f fd)
 (h:∀(kV doc pm:Value) (an:Option Addr) (cdv ct:Value) (us:LVa),Z us=Z ps->bindArgs (ji x qual (kE st) (fX st) (aw st) .none kV doc pm an cdv ct) (us,[])=pure (ps.zip us)):dZ K fd ps []:=by
 have(oc,od,kV,doc,pm,an,cdv,ct,osl,rfl,b,a):=F.ex;show .all (h kV doc pm an cdv ct)
variable{oc:Value}{an:Option Addr}{osl:Array (Option Value)}
def fun_mk{od:Option Addr}{kV doc pm cdv ct:Value}(l:K.lookup f=aa (oc,od,.func (ji x qual (kE st) (fX st) (aw st) .none kV doc pm an cdv ct),osl))
 (c:W.codeIn K cdv qual=ac)(k:gq K (.ref f)=ac):Fun K x qual st f (ji x qual (kE st) (fX st) (aw st) .none kV doc pm an cdv ct):=((oc,od,kV,doc,pm,an,cdv,ct,osl,rfl,l,c),k)
structure Df(K:aR)(mg:MGT)(x:Str)(st:Stmt)(ps:LSt)(e:Addr×cS):Prop where
 F:Fun K x x st e.1 e.2
 b:dZ K e.2 ps []
 g:mg x=aa (.ref e.1)
structure Dm(K:aR)(W8:Addr)(x q:Str)(st:Stmt)(ps:LSt)(e:Addr×cS):Prop where
 F:Fun K x q st e.1 e.2
 b:dZ K e.2 ps []
 m:rf K W8 x e.1
structure Pk(P:ci)(w:World)(K:aR)(mg:MGT)(base:Heap)(CX:CXT)(k:Nat)(x:Str)(e:Addr×cS)(ps:LSt)(sp:Sp):Prop where
 ok:cC P w K mg base CX k e.1 e.2 ps sp
 g:mg x=aa (.ref e.1)
 kp:gq K (.ref e.1)=ac
 b:dZ K e.2 ps []
structure Pm(P:ci)(w:World)(K:aR)(mg:MGT)(base:Heap)(CX:CXT)(k:Nat)(W8:Addr)(x:Str)(e:Addr×cS)(ps:LSt)(sp:Sp):Prop where
 ok:cC P w K mg base CX k e.1 e.2 ps sp
 c:Cls K W8
 m:rf K W8 x e.1
 b:dZ K e.2 ps []
variable{e:Addr×cS}
def Df.pk{k:Nat}(W7:Df K mg x st ps e)(o:cC P w K mg base CX k e.1 e.2 ps sp):Pk P w K mg base CX k x e ps sp:=(o,W7.g,W7.F.kp,W7.b)
variable{q:Str}{W8:Addr}
def Dm.pk{k:Nat}(W7:Dm K W8 x q st ps e)(c:Cls K W8)(o:cC P w K mg base CX k e.1 e.2 ps sp):Pm P w K mg base CX k W8 x e ps sp:=(o,c,W7.m,W7.b)
structure Dq(K:aR)(x:Str)(st:Stmt)(f:Addr)(fd:cS):Prop where
 a:dW K cz x=aa (aa (.ref f))
 F:Fun K x x st f fd
structure Dp(K:aR)(W8:Addr)(x q:Str)(st:Stmt)(f:Addr)(fd:cS):Prop where
 a:cv K (.ref W8) x=aa (aa (.ref f))
 i:W.isFn K (.ref f)=ac
 F:Fun K x q st f fd
nonrec abbrev uI(x q:Str)(st:Stmt)(ps:LSt):Prop:=∀(kV doc pm:Value) (an:Option Addr) (cdv ct:Value) (us:LVa),Z us=Z ps->bindArgs (ji x q (kE st) (fX st) (aw st) .none kV doc pm an cdv ct) (us,[])=pure (ps.zip us)
def Dq.mk2(d:Dq K x st f fd)(X:K.In h)(G:h.Ns cz mg)(b:autoParam (uI x x st ps) Zk):Df K mg x st ps (f,fd,):=(d.F,d.F.binds b,kB X G d.a)
def Dp.mk2(d:Dp K W8 x q st f fd)(b:autoParam (uI x q st ps) Zk):Dm K W8 x q st ps (f,fd,):=(d.F,d.F.binds b,(d.a,d.i,d.F.kp))
def Dq.bt{p:Str}(d:Dq K x st f fd)(b:uI x x st [p])(s:ah)(v:Value):BindsTo s fd ([v],[]) [(p,v,)]:=by
 have(oc,od,kV,doc,pm,an,cdv,ct,osl,rfl,c,a):=d.F.ex;show .of_eq (b kV doc pm an cdv ct [v] rfl)
variable{n:Nat}
def Fz(h:n<=1000):n<aU:=mw h (by decide)
variable{pos:Pos}
def pv(i:Nat)(b:autoParam (X.N[i]?=aa x) Zb)(hv:autoParam (Vis X.env.scope x) Ze)(hd:autoParam (NDb x) Zc)
 (a:autoParam (NCd x) Zc):PE X (.Name x pos) (cT i):=mQ b hv hd a
def ar(H H':Hp):Prop:=∀b o,H b=aa o->H' b=aa o
def ar.refl(H:Hp):ar H H:=λ_ _ h=>h
variable{H H1 H2:Hp}
def ar.trans(a:ar H H1)(b:ar H1 H2):ar H H2:=λc o h=>b c o (a c o h)
variable{H':Hp}{l:Addr}
def ar.free(e:ar H H')(h:H' l=Option.none):H l=Option.none:=by
 cases q:H l with
 |none=>rfl
 |some o=>
  rw[e l o q]at h
  nomatch h
def ar.seq{E:LVv}(e:ar H H')(h:SqL K H a E):SqL K H' a E:=by
 rcases h with(h |⟨o,h⟩) |h
 .show .inl (.inl (e _ _ h))
 .show .inl (.inr (o,e _ _ h))
 .show .inr h
section
variable{κ:Type}[DecidableEq κ]
def cQ(kvs:List (κ×V))(k:κ):Option V:=(kvs.find? λa=>decide (a.1=k)).map (·.2)
abbrev dO(kvs:List (κ×V))(k:κ)(v:V):List (κ×V):=
 if (kvs.any λa=>decide (a.1=k))=ac then kvs.map (λa=>if a.1=k then (a.1,v,) else a) else kvs++[(k,v,)]
def rj{p:κ×V}{r:List (κ×V)}{k:κ}(e:p.1=k):cQ (p::r) k=aa p.2:=by simp[cQ,find?_cons,e]
def oU{p:κ×V}{r:List (κ×V)}{k:κ}(e:¬p.1=k):cQ (p::r) k=cQ r k:=by simp[cQ,find?_cons,e]
def uJ(k:κ):∀kvs:List (κ×V),(kvs.any λa=>decide (a.1=k))=(cQ kvs k).isSome
 | []=>rfl
 |p::r=>by
  rw[gD]
  by_cases e:p.1=k
  .simp only[rj e,decide_eq_true e,Bool.true_or,Option.isSome_some]
  .rw[oU e,decide_eq_false e,Bool.false_or];show uJ k r
def yt(kvs:List (κ×V))(k:κ)(v:V):Z (dO kvs k v)<=Z kvs+1:=by
 unfold dO;split
 .rw[aq];lia
 .simp only[aP,cf,length_nil];lia
def eZ.isSome_eq{o:Option V}{u:Option Value}(r:eZ o u):o.isSome=u.isSome:=by
 cases o with
 |none=>cases u with
  |none=>rfl
  |some _=>show(r).elim
 |some _=>cases u with
  |none=>show(r).elim
  |some _=>rfl
def eZ.getD{o:Option V}{u:Option Value}{d:V}{d':Value}(r:eZ o u)(rd:aC d d'):aC (o.getD d) (u.getD d'):=by
 cases o with
 |none=>cases u with
  |none=>show rd
  |some _=>show(r).elim
 |some _=>cases u with
  |none=>show(r).elim
  |some _=>show r
def KV.val{kvs:List (κ×V)}{vs:List (κ×Value)}(r:KV kvs vs)(k:κ):eZ (cQ kvs k) (valueAt vs k):=by
 induction r with
 |nil=>show iH
 | @cons p q ps a h t d=>
  have(c,h2):=h
  by_cases e:p.1=k
  .have e':=c.symm.trans e;have b:valueAt (q::a) k=aa q.2:=by simp[valueAt,e']
   rw[rj e,b];show h2
  .have e':¬q.1=k:=λz=>e (c.trans z);have b:valueAt (q::a) k=valueAt a k:=by simp[valueAt,e']
   rw[oU e,b];show d
def KV.any{kvs:List (κ×V)}{vs:List (κ×Value)}(r:KV kvs vs)(k:κ):(kvs.any λa=>decide (a.1=k))=vs.any λa=>decide (a.1=k):=by
 induction r with
 |nil=>rfl
 |cons h t b=>simp only[gD,gD,b,h.1]
def KV.repl{kvs:List (κ×V)}{vs:List (κ×Value)}(r:KV kvs vs)(k:κ){y:V}{u:Value}(d:aC y u):
  KV (kvs.map λa=>if a.1=k then (a.1,y,) else a) (vs.map λa=>if a.1=k then (a.1,u,) else a):=by
 induction r with
 |nil=>show .nil
 | @cons p q ps f h t c=>
  rw[bG,bG];show .cons ?_ c;have(b,h2):=h
  by_cases e:p.1=k
  .rw[if_pos e,if_pos (b.symm.trans e)];show(b,d)
  .rw[if_neg e,if_neg (λz=>e (b.trans z))];show(b,h2)
def KV.put{kvs:List (κ×V)}{vs:List (κ×Value)}(r:KV kvs vs)(k:κ){y:V}{u:Value}(a:aC y u):KV (dO kvs k y) (stored vs k u):=by
 unfold dO stored;rw[r.any k]
 by_cases e:(vs.any λb=>decide (b.1=k))=ac
 .rw[if_pos e,if_pos e];show r.repl k a
 .rw[if_neg e,if_neg e];show ib.snoc r (rfl,a)
def KV.length{kvs:List (κ×V)}{vs:List (κ×Value)}(r:KV kvs vs):Z kvs=Z vs:=oP r
end
variable{u:Value}
def uK{k:Key}(r:aC (kV k) u):(lE P w).is k u=ac:=by
 cases k with
 |inl i=>have(t,e):=(r);subst e;show K3 P w i t
 |inr x=>have(t,e):=(r);subst e;show K4 P w x t
nonrec abbrev KT(H:Hp):List (List Key×V)->List (List Key×Addr×Value)->Prop:=ib λp q=>p.1=q.1/\fI H q.2.1 p.1/\aC p.2 q.2.2
variable{kvs:List (List Key×V)}{E:List (List Key×Addr×Value)}
def KT.val(r:KT H kvs E)(k:List Key):eZ (cQ kvs k) ((atKey E k).map (·.2)):=by
 induction r with
 |nil=>show iH
 | @cons p q ps a h t d=>
  have(c,_,h2):=h
  by_cases e:p.1=k
  .have e':=c.symm.trans e;have b:atKey (q::a) k=aa q.2:=by simp[atKey,e']
   rw[rj e,b];show h2
  .have e':¬q.1=k:=λz=>e (c.trans z);have b:atKey (q::a) k=atKey a k:=by simp[atKey,e']
   rw[oU e,b];show d
variable{y:V}
def KT.repl(r:KT H kvs E)(k:List Key)(f:aC y u):
  KT H (kvs.map λb=>if b.1=k then (b.1,y,) else b) (E.map (putAt k u)):=by
 induction r with
 |nil=>show .nil
 | @cons p q ps g h t d=>
  rw[bG,bG];show .cons ?_ d;have(a,h2,c):=h;unfold putAt
  by_cases e:p.1=k
  .rw[if_pos e,if_pos (a.symm.trans e)];show(a,h2,f)
  .rw[if_neg e,if_neg (λz=>e (a.trans z))];show(a,h2,c)
variable{b:Addr}
def KT.put(r:KT H kvs E)(k:List Key)(c:fI H b k)(a:aC y u):
  KT H (dO kvs k y) (storedH E k b u):=by
 have e:(kvs.any λd=>decide (d.1=k))=(atKey E k).isSome:=by
  rw[uJ,(r.val k).isSome_eq,Option.isSome_map]
 unfold dO storedH;rw[e]
 by_cases q:(atKey E k).isSome=ac
 .rw[if_pos q,if_pos q];show r.repl k a
 .rw[if_neg q,if_neg q];show ib.snoc r (rfl,c,a)
def KT.keeps(r:KT H kvs E)(c:∀b a,H b=aa (.tup a)->H' b=aa (.tup a)):KT H' kvs E:=
 ib.mapP r λ_ _ z=>(z.1,z.2.1.up c,z.2.2)
def FA{u:HO}(ok:HOk P w H h)(e:Rd H a u):dX P w H h a u:=e.ok ok
def oV{kvs:List (Key×V)}(ok:HOk P w H h)(e:Rd H a (.dK kvs)):Z kvs<=aU/\(a==hV)=af/\∃vs,KV kvs vs/\h.DictOf (lE P w) a vs:=
 show dX P w H h a (.dK kvs)from FA ok e
def FB{kvs:List (Key×V)}(ok:HOk P w H h)(e:H a=aa (.dK kvs)):Z kvs<=aU/\(a==hV)=af/\∃vs,KV kvs vs/\h.DictOf (lE P w) a vs:=oV ok (.inl e)
variable{ks:List Key}
def oW(ok:HOk P w H h)(e:fI H a ks):(tupleKind (mP P w)).is h ks a:=by
 have(vs,e,d):=e;have(_,L,r,o,b,h2,n,c):=(show dX P w H h a (.tup vs)from ok a _ e);show(o,L.toArray,n,b,h2,c,by simpa using EM d r)
def oX(ok:HOk P w H h)(e:Rd H a (.dT kvs)):Z kvs<=aU/\(a==hV)=af /\
  ∃E,KT H kvs E/\h.DictOfH (tupleKind (mP P w)) a E:=by
 have(z,y,E,r,o,es,d,f,h2,g,i,j):=(FA ok e);show(z,y,E,r,o,es,d,f,h2,g,i,λx b=>?_,j)
 have all:∀{l:List _} {m:List _},KT H l m->∀x∈m,(tupleKind (mP P w)).is h x.1 x.2.1:=by
  intro l m q
  induction q with
  |nil=>intro x b;show nomatch b
  | @cons p q ps u c t n=>
   intro x b
   rcases a9.mp b with e |b
   .subst e;show oW ok (by rw[<- c.1];show c.2.1)
   .show n x b
 show all r x b
def FC(ok:HOk P w H h)(e:H a=aa (.dT kvs)):Z kvs<=aU/\(a==hV)=af /\
  ∃E,KT H kvs E/\h.DictOfH (tupleKind (mP P w)) a E:=oX ok (.inl e)
def fY(H:Hp)(a:Addr)(y:V)(r:Option V):Prop:=
 (∃kvs k,Rd H a (.dK kvs)/\y=kV k/\r=cQ kvs k)\/∃kvs k b,Rd H a (.dT kvs)/\y=.ref b/\fI H b k/\r=cQ kvs k
def lF(H:Hp)(a:Addr)(y v:V)(H':Hp):Prop:=
 (∃kvs k,H a=aa (.dK kvs)/\y=kV k/\Z kvs<aU/\H'=upd H a (.dK (dO kvs k v))) \/
 ∃kvs k b,H a=aa (.dT kvs)/\y=.ref b/\fI H b k/\Z kvs<aU/\H'=upd H a (.dT (dO kvs k v))
def fY.k{kvs:List (Key×V)}{k:Key}(e:H a=aa (.dK kvs)):fY H a (kV k) (cQ kvs k):=.inl (kvs,k,.inl e,rfl,rfl)
def fY.t{k:List Key}(e:H a=aa (.dT kvs))(c:fI H b k):fY H a (.ref b) (cQ kvs k):=.inr (kvs,k,b,.inl e,rfl,c,rfl)
variable{v:V}
def lF.k{kvs:List (Key×V)}{k:Key}(e:H a=aa (.dK kvs))(b:Z kvs<aU):lF H a (kV k) v (upd H a (.dK (dO kvs k v))):=.inl (kvs,k,e,rfl,b,rfl)
def lF.t{k:List Key}(e:H a=aa (.dT kvs))(c:fI H b k)(d:Z kvs<aU):
  lF H a (.ref b) v (upd H a (.dT (dO kvs k v))):=.inr (kvs,k,b,e,rfl,c,d,rfl)
variable{U:PNS}{C:St}
def Inv.big{s:ah}(I:Inv X U C H s):hV<s.heap.objs.size:=by
 show mx (by decide) ((I.mod.glob.keeps I.bk).lt)
variable{A:ca}{W7 Q:PRS}
def Nt{s:ah}(G:A.units+1<cLine)(I:Inv X U C H s)(g:fY H a y (aa v))(q:aC y u)(h:∀f r,Inv X U C H r->aC v f->Q f r):
  wpAny (model X.prog X.w) A (getItem (.ref a) u) Q W7 s:=by
 rcases g with⟨kvs,k,e,j,l⟩ |⟨kvs,k,b,e,j,x,l⟩
 .subst j;have(z,hd,vs,c,i):=oV I.hok e;have(f,n,d):=eZ.some_of (by rw[l];show c.val k);show wpAny_getItem_of (uK q) i.mapOf n (h f _ (I.tok _) d)
 .subst j;cases (q);have(z,hd,E,c,i):=oX I.hok e;have(f,n,d):=eZ.some_of (by rw[l];show c.val k);have(p,B,m):=Option.map_eq_some_iff.mp n;show wpAny_getItem_heap (qU G) (oW I.hok x) i B ?_;rw[m];show h f _ (I.tok _) d
def Nu{s:ah}{o:Option V}(n:A.units+1<cLine)(I:Inv X U C H s)(g:fY H a y o)(i:aC y u)(h:∀j,Inv X U C H j->Q (.bool o.isSome) j):
  wpAny (model X.prog X.w) A (cY .In u (.ref a)) Q W7 s:=by
 rcases g with⟨kvs,k,e,f,l⟩ |⟨kvs,k,b,e,f,m,l⟩
 .subst f;have(z,hd,vs,c,d):=oV I.hok e;show wpAny_in_of (uK i) hd d.mapOf ?_;rw[<- (c.val k).isSome_eq,<- l];show h _ (I.tok _)
 .subst f;cases (i);have(z,hd,E,c,d):=oX I.hok e;show wpAny_in_heap (qU n) (oW I.hok m) hd d ?_;have q:=(c.val k).isSome_eq;rw[Option.isSome_map]at q;rw[<- q,<- l];show h _ (I.tok _)
variable{h':Heap}{t':Nat}
section
variable{s:ah}
def yu{c:HO}(I:Inv X U C H s)(g:Mut (H a))(f:gm a s.heap h')(e:∃q,h'.get? a=aa q)(new:dX X.prog X.w (upd H a c) h' a c):
  Inv X U C (upd H a c) {s with heap:=h',toks:=t'}:=
 I.write g (.inl rfl) (λb q d z=>(f.2 b d).trans z) e new
end
def Nv{kvs:List (Key×V)}{vs:List (Key×Value)}(z:Z kvs<=aU)(hd:(a==hV)=af)(b:KV kvs vs)(c:h'.DictOf (lE P w) a vs):
  dX P w H' h' a (.dK kvs):=(z,hd,vs,b,c)
variable{r:Value}
def Nw{s:ah}{Q:Unit->ah->Prop}(hu:A.units+1<cLine)(I:Inv X U C H s)(g:lF H a y v H')(L:aC y u)(J:aC v r)(h:∀M,Inv X U C H' M->Q () M):
  wpAny (model X.prog X.w) A (setItem (.ref a) u r) Q W7 s:=by
 rcases g with⟨kvs,k,e,n,l,m⟩ |⟨kvs,k,b,e,n,B,l,m⟩
 .subst n m;have(z,hd,vs,d,j):=FB I.hok e;have hz:Z vs<=aU:=by rw[<- d.length];show z
  have p:Z (dO kvs k v)<=aU:=by have:=yt kvs k v;lia
  show wpAny_setItem_pairs (uK L) j λh' f x=>h _ ?_;have he:∃q,h'.get? a=aa q:=let (q,_,_,i,_):=f;(q,i);show yu I (by rw[e];show iH) x he (Nv p hd (d.put k J) f)
 .subst n m;cases (L);have(z,hd,E,d,j):=FC I.hok e;have hz:Z E<=aU:=by rw[<- oP d];show z
  have p:Z (dO kvs k v)<=aU:=by have:=yt kvs k v;lia
  show wpAny_setItem_heap (qU hu) (oW I.hok B) j λh' f x=>h _ ?_;have(q,es,N,i,h2,T,Y,_,h5):=f;show yu I (by rw[e];show iH) x (q,i) (p,hd,_,(d.put k B J).keeps λc ys G=>?_,q,es,N,i,h2,T,Y,h5);rw[aN (EN G e (λz=>nomatch z))];show G
def rm(i:Expr):Prop:=∀b a,subscripted i af b a=operate [b,a] (getItem b a)
variable{prog:ci}{env:Env}{value:Expr}
def Nx{s:ah}{a:Expr}{T id:String}
 (l:mG (.type T) "__getitem__"=pure (aa (.builtin id)))(m:rm a)
 (h:wpAny (model prog w) A (eval value env) (λo d=>wpAny (model prog w) A (eval a env) (λi b=>b.TypeIs o T/\wpAny (model prog w) A (getItem o i) Q W7 b) W7 d) W7 s):
  wpAny (model prog w) A (eval (.Subscript value a pos) env) Q W7 s:=by
 show Subscript_ (fS h (λo d f=>fS f (λi b c=>?_) λ_ _ x=>x) λ_ _ x=>x);have(j,c):=c;show am ?_;show am (uc j l ?_)
 have fin:wpAny (model prog w) A (subscripted a af o i) (λr e=>wpAny (model prog w) A (letTemporaryGo value o r >>= λ_=>pure r) Q W7 e) W7 b:=by
  rw[m o i];show wpAny_operating (fS c (λr e g=>am (wpAny_letTemporaryGo (aD g))) λ_ _ x=>x)
 first
  |show aD (am fin)
  |show am _
  |show am fin
def Ny{s:ah}{o:Option V}(I:Inv X U C H s)(g:fY H a y o):s.TypeIs (.ref a) "dict":=by
 rcases g with⟨kvs,k,e,_,_⟩ |⟨kvs,k,b,e,_,_,_⟩
 .have(_,_,vs,_,c):=oV I.hok e;show c.typeIs
 .have(_,_,E,_,c):=oX I.hok e;show c.typeIs
def Nz(b ty:TE):TE:=λC H Q=>b C H λx H1=>ty C H1 λy H2=>∃a v,x=.ref a/\fY H2 a y (aa v)/\Q v H2
def NA(ty b:TE):TE:=λC H Q=>ty C H λy H1=>b C H1 λx H2=>∃a o,x=.ref a/\fY H2 a y o/\Q (.bl o.isSome) H2
def yv(d ty e:TE):TS:=λD C H=>e C H λv H1=>d C H1 λx H2=>ty C H2 λy c=>∃a b,x=.ref a/\lF c a y v b/\D.nx C b
variable{i:Expr}{td:TE}
def yw{o:Expr}{ty:TE}(l:X.A.units+1<cLine)(f:PE X o td)(hi:PE X i ty)(j:rm i):PE X (.Subscript o i pos) (Nz td ty):=by
 intro U s C H Q I h;show Nx PySem.F.slot_dict_getitem.lookup j (thn (f U s C H _ I h) λu s1 (x,H1,d,rx,m)=>thn (hi U s1 C H1 _ d m) λr s2 p=>?_);have(y,H2,c,q,a,v,ex,g,n):=p;subst ex;obtain rfl:u=eY a:=rx;show(Ny c g,Nt l c g q λz w e b=>(v,H2,e,b,n))
def NB{o:Expr}{ty:TE}(f:X.A.units+1<cLine)(hi:PE X i ty)(e:PE X o td):PC X .In i o (NA ty td):=by
 intro U s C H Q I h;show thn (hi U s C H _ I h) λq s1 (y,H1,b,p,l)=>thn (e U s1 C H1 _ b l) λu s2 n=>?_;have(x,H2,c,rx,a,j,ex,g,m):=n;subst ex;obtain rfl:u=eY a:=rx;show Nu f c g p λr d=>(.bl j.isSome,H2,d,rfl,m)
variable{b4:Pos}{tv:TE}
def FD{o:Expr}{ty:TE}(m:X.A.units+1<cLine)(j:PE X o td)(hi:PE X i ty)(hv:PE X value tv)(l:gi value (aa (.Subscript o i b4)) pos.line X.env=pure af):
  PS X (.Assign [.Subscript o i b4] value pos) (yv td ty tv):=by
 intro U s C H D I h;show wpAny_Assign_Subscript (thn (hv U s C H _ I h) λr s1 (v,H1,c,z,n)=>thn (j U s1 C H1 _ c n) λu s2 (x,H2,d,rx,p)=>thn (hi U s2 C H2 _ d p) λG J w=>?_) l;have(y,E,e,B,a,b,ex,g,q):=w;subst ex;obtain rfl:u=eY a:=rx;show Nw m e g B z λL f=>(C,b,f,q)
def NC(h:Heap)(a:hV<h.objs.size):dX P w H (h.push {cls:=.type "dict",data:=.dict #[]}) h.objs.size (.dK []):=
 (cy _,beq_eq_false_iff_ne.mpr (eV (bY a)),[],.nil,Heap.DictOf.new h)
def ND(h:Heap)(a:hV<h.objs.size):dX P w H (h.push {cls:=.type "dict",data:=.dict #[]}) h.objs.size (.dT []):=
 (cy _,beq_eq_false_iff_ne.mpr (eV (bY a)),[],.nil,_,#[],0,cO _ rfl,(rfl,rfl,rfl),rfl,rfl,fR)
def FE:TE:=λ_ H Q=>∀p,H p=ab->Q (.ref p) (upd H p (.dK []))
def NE:TE:=λ_ H Q=>∀p,H p=ab->Q (.ref p) (upd H p (.dT []))
def NF:PE X (.Dict [] [] pos) FE:=λU s C H Q I h=>
 wpAny_Dict_empty (.ref s.heap.objs.size,_,I.laid (λ_ _ q=>bz _ q) (aM _) (NC s.heap I.big),rfl,h _ (I.hok.fresh (aM _)))
def NG:PE X (.Dict [] [] pos) NE:=λU s C H Q I h=>
 wpAny_Dict_empty (.ref s.heap.objs.size,_,I.laid (λ_ _ q=>bz _ q) (aM _) (ND s.heap I.big),rfl,h _ (I.hok.fresh (aM _)))
structure M2(X:Cx)(o:Expr)(m:Str)(apos:Pos)(e f:Expr)(cpos:Pos):Prop where
 base:oJ o m X.env (eval o X.env)=eval o X.env
 few : ((cj cpos (aL [e,f] X.env)).all (λx=>!x.1) && (iF cpos (iE [] X.env)).all (λx=>x.1.isSome)
  && decide (Z ([e,f]:LEx)+Z ([]:List Keyword)+(if ([]:List Keyword).isEmpty then 0 else 1)<30))=ac
 line:(apos.endLine==cpos.line)=ac
 trees:cj cpos (aL [e,f] X.env)=[(af,eval e X.env,),(af,eval f X.env,)]
def IsD(H:Hp)(a:Addr):Prop:=(∃kvs,Rd H a (.dK kvs))\/∃kvs,Rd H a (.dT kvs)
def FF{s:ah}(I:Inv X U C H s)(d:IsD H a):
  s.TypeIs (.ref a) "dict" /\ (∀b,eY a=.ref b->∃c,s.heap.get? b=aa c/\c.dict=ab)/\(a==hV)=af:=by
 rcases d with⟨kvs,e⟩ |⟨kvs,e⟩
 .have(_,hd,vs,_,f):=oV I.hok e;show(f.typeIs,λb q=>?_,hd);cases q;have(c,_,_,g,h2,_):=f;show(c,g,h2.2.1)
 .have(_,hd,E,_,f):=oX I.hok e;show(f.typeIs,λb q=>?_,hd);cases q;have(c,_,_,g,h2,_):=f;show(c,g,h2.2.1)
variable{d:V}
def NH{s:ah}{o:Option V}(q:A.units+1<cLine)(I:Inv X U C H s)(g:fY H a y o)(j:aC y u)(rd:aC d r)(h:∀n m,Inv X U C H m->aC (o.getD d) n->Q n m):
  wpAny (model X.prog X.w) A (call (.builtin "dict.get") [.ref a,u,r]) Q W7 s:=by
 rcases g with⟨kvs,k,e,i,l⟩ |⟨kvs,k,b,e,i,p,l⟩
 .subst i;have(z,hd,vs,c,f):=oV I.hok e;show call_meetsIn xH f.typeIs PySem.F.entry_dict_get (PySem.F.args_dict_get_3 _ _ _) (meets_dict_get_default _ a (uK j) hd r) (_,f.mapOf,h _ _ (I.tok _) ?_);rw[l];show(c.val k).getD rd
 .subst i;cases (j);have(z,hd,E,c,f):=oX I.hok e;show call_meetsIn xH f.typeIs PySem.F.entry_dict_get (PySem.F.args_dict_get_3 _ _ _) (meetsH_dict_get_default _ a b hd r) (qU q,k,E,oW I.hok p,f,h _ _ (I.tok _) ?_);rw[l];show(c.val k).getD rd
def NI(td ty c:TE):TE:=λC H Q=>td C H λx H1=>∃a,x=.ref a/\IsD H1 a/\ty C H1 λy H2=>c C H2 λz b=>∃o,fY b a y o/\Q (o.getD z) b
variable{e f:Expr}{apos cpos:Pos}{tx:TE}
def yx{o:Expr}{ty:TE}(v:X.A.units+1<cLine)(r:PE X o td)(p:PE X e ty)(q:PE X f tx)(m:M2 X o "get" apos e f cpos):PE X (.Call (.Attribute o "get" apos) [e,f] [] cpos) (NI td ty tx):=by
 intro U s C H Q I h;show wpAny_Call_method m.base m.few m.line PySem.F.plainAttrs_dict xH PySem.F.type_dict_get (thn (r U s C H _ I h) λu s1 G=>?_);have(x,H1,c,rx,a,ex,d,w):=G;subst ex;obtain rfl:u=eY a:=rx;have(t1,M,_):=FF c d;show(t1,M,?_);rw[m.trees]
 show xB rfl (xC (je (thn (p U s1 C H1 _ c w) λT s2 (y,H2,j,J,B) =>
  je (thn (q U s2 C H2 _ j B) λN s3 (z,i,l,L,Y,g,E)=>xD ?_))))
 show NH v l g J L λw' s4 n b=>(_,i,n,b,E)
section
variable{κ:Type}[DecidableEq κ]
end
end L2
set_option maxHeartbeats 4000000
namespace L2
open List
open PySem
def yy{env:Env}(f:(Str×gj)->List (Str×Addr)->Sem (ForInStep (List (Str×Addr))))
 (i:∀n k r,k≠fV->f (n,k,) r=pure (.yield r))
 (h2:∀n r c,env.cells.lookup n=aa c->f (n,.free,) r=pure (.yield ((n,c,)::r))):
  ∀(l:List (Str×gj)) (a:List (Str×Addr)),(∀x∈l,x.2=.free->∃c,env.cells.lookup x.1=aa c) ->
   (∀x c,a.lookup x=aa c->env.cells.lookup x=aa c) ->
   ∃cl,forIn l a f=(pure cl:Sem _)/\(∀x c,cl.lookup x=aa c->env.cells.lookup x=aa c) /\
    (∀x,((∃c,a.lookup x=aa c)\/(x,fV,)∈l)->∃c,cl.lookup x=aa c)
 | [],a,_,ha=>(a,rfl,ha,λx d=>d.elim id (λz=>nomatch z))
 |(n,k,)::l,a,hl,ha=>by
  have b:=λx d=>hl x (bj _ d)
  by_cases u:k=.free
  .subst u;have(c,p):=hl _ aA rfl;have q:=p
   have h:∀x g,((n,c,)::a).lookup x=aa g->env.cells.lookup x=aa g:=λx g d=>by
    grind
   have(cl,e,j,m):=yy f i h2 l _ b h
   grind
  .have(cl,e,j,m):=yy f i h2 l a b ha
   grind
variable{scope:Scope}{env:Env}
def FG(h:∀x∈scope.names,x.2=.free->∃c,env.cells.lookup x.1=aa c):
  ∃cl,closureFor scope env=pure cl/\(∀x c,cl.lookup x=aa c->env.cells.lookup x=aa c)/\(∀x,(x,fV,)∈scope.names->∃c,cl.lookup x=aa c):=by
 have (cl,e,b,d):=yy (λx r=>(match x with
   |(name,kind)=>if (kind==fV)=ac then (do let a <- cellOf env name;pure (oi ((name,a,)::r))) else (pure (oi r):Sem _)))
  (λn k r g=>by
   have:(k==fV)=af:=by simpa using g
   simp only[this,Bool.false_eq_true,if_false])
  (λn r c f=>by
   simp only[beq_self_eq_true,if_true,cellOf,f,pure_bind])
  scope.names [] h (λx c z=>by nomatch z)
 show(cl,?_,b,λx i=>d x (.inr i));show(congrArg _ ?_).trans ((congrArg (λt=>t >>= pure) e).trans (pure_bind _ _));rfl
nonrec abbrev E00:Value->ah->Prop:=λ_ _=>False
variable{prog:ci}{w:World}{A:ca}{R:Result->ah->Prop}{c5 iter:Expr}{c3:LEx}{pos:Pos}
section
variable{s:ah}
def NJ{a:Expr}{it u:Value}(I:Nat->ah->Prop)
 (C:∀ n s,I n s->wpAny (model prog w) A (hZ it) (λr d=>match r with
   |none=>R (.ok .next) d
   | some v=>wpAny (model prog w) A (letOwnedTupleGo a it v) (λ_ e=>wpAny (model prog w) A (assign a env v) (λ_ j =>
     wpAny (model prog w) A (forIn c3 ac λc r=>if r=ac then do let ok <- isTrue c env (eval c env); pure (oi ok) else pure (oi r)) (λok f =>
      if ok=ac then wpAny (model prog w) A (eval c5 env) (λx l =>
       wpAny (model prog w) A (call (.builtin "list.append") [u,x]) (λ_ p=>∃m,m<n/\I m p) (notedBy (model prog w) A env λx b=>R (.error x) b) l) (notedBy (model prog w) A env λx b=>R (.error x) b) f
      else ∃m,m<n/\I m f) (notedBy (model prog w) A env λx b=>R (.error x) b) j) (notedBy (model prog w) A env λx b=>R (.error x) b) e) (notedBy (model prog w) A env λx b=>R (.error x) b) d) (notedBy (model prog w) A env λx b=>R (.error x) b) s)
 (n:Nat)(h:I n s):
  gH (model prog w) A (.compLoop (.ListComp c5 [(a,iter,c3,0)] scope pos) 0 it u env) R s:=by
 show codeAny_loop rfl I (λn s E=>?_) n h;show wpAny_noted ?_;show am (wpAny_standAt (am (fS (C n s E) (λr d g=>?_) λ_ _ h'=>h')))
 cases r with
 |none=>show aD g
 |some v=>
  show am (fS g (λ_ e q=>?_) λ_ _ h'=>h');show am (fS q (λ_ j y=>am (fS y (λok f i=>?_) λ_ _ h'=>h')) λ_ _ h'=>h')
  cases ok with
  |false=>show aD (rfl,i)
  |true=>
   show am (am (fS i (λx l z=>am (fS z (λ_ p B=>aD (aD (rfl,B))) λ_ _ h'=>h')) λ_ _ h'=>h'))
end
open PySem.Spec PyProof.Rows
nonrec def Cx.comp(X:Cx)(scope:Scope)(Nc:LSt)(cl:List (Str×Addr))(W8:Addr)(ex:LAd)(b:ah)(a:Hp):Cx:=
 {X with N:=Nc,s₀:=b,H₀:=a,env:=compEnvC scope cl W8 X.env,outer:=X.stack,ex:=ex,fn:=λ_=>af,pn:=[],xe:=E00}
def yA{env:Env}:∀{names:List (Str×gj)} {x:Str},names.lookup x=aa .free ->
  (names.map λ(n,k,)=>if (k==fV && env.scope.kind==.function && env.kindOf n==aa .cell) then (n,mK,) else (n,k,)).lookup x=aa .cell \/
  (names.map λ(n,k,)=>if (k==fV && env.scope.kind==.function && env.kindOf n==aa .cell) then (n,mK,) else (n,k,)).lookup x=aa .free
 | [],_,h=>by simp at h
 |(n,k,)::r,x,h=>by
  have a:=@yA env r x
  grind
def yB{env:Env}{a:gj}(b:a=.cell\/a=.free):∀{names:List (Str×gj)} {x:Str},
  (names.map λ(n,k,)=>if (k==fV && env.scope.kind==.function && env.kindOf n==aa .cell) then (n,mK,) else (n,k,)).lookup x=aa a ->
  (x,fV,)∈names\/(x,mK,)∈names
 | [],_,h=>by simp at h
 |(n,k,)::r,x,h=>by
  have h':List.lookup x ((if _=ac then _ else _)::_)=aa a:=h
  cases c:x==n with
  |true=>
   have e:=eq_of_beq c;subst e;split at h'
   .rename_i d
    have f:k=.free:=by
     rw[ce,ce]at d;show eq_of_beq d.1.1
    subst f;show .inl aA
   .simp only[mq,c]at h';have e:=du h';subst e
    rcases b with z |z
    .subst z;show .inr aA
    .subst z;show .inl aA
  |false=>
   have h2:(r.map λ(n,k,)=>if (k==fV && env.scope.kind==.function && env.kindOf n==aa .cell) then (n,mK,) else (n,k,)).lookup x=aa a:=by
    split at h' <;> (rw[mq,c]at h';show h')
   rcases(@yB env a b r x) h2 with z |z
   .show .inl (bj _ z)
   .show .inr (bj _ z)
def lG(scope:Scope)(outer:List (Str×gj))(N Nc:LSt)(k:Nat)(js:LN):Bool:=
 scope.names.all (λx=>(x.2 != .free || outer.lookup x.1==aa .cell || outer.lookup x.1==aa .free) && x.2 != .cell && (x.2 != .local || scope.names.lookup x.1==aa .local)) &&
 scope.kind==.function && Z Nc==k+Z js &&
 (bw (Z js)).all (λi=>match Nc[k + i]?,js[i]? with
  |some x,aa j=>N[j]?==aa x && scope.names.lookup x==aa .free
  | _,_=>af)
structure oY(scope:Scope)(outer:List (Str×gj))(N Nc:LSt)(k:Nat)(js:LN):Prop where
 free:∀x∈scope.names,x.2=.free->outer.lookup x.1=aa .cell\/outer.lookup x.1=aa .free
 nocell:∀x∈scope.names,x.2≠.cell
 loc:∀x∈scope.names,x.2=.local->scope.names.lookup x.1=aa .local
 kind:scope.kind=.function
 len:Z Nc=k+Z js
 at':∀i j,js[i]?=aa j->∃x,Nc[k+i]?=aa x/\N[j]?=aa x/\scope.names.lookup x=aa .free
variable{N Nc:LSt}{js:LN}
def oY.of{outer:List (Str×gj)}{k:Nat}(h:lG scope outer N Nc k js=ac):oY scope outer N Nc k js:=by
 unfold lG at h;rw[ce,ce,ce]at h;have(((b,h2),d),c):=h;rw[all_eq_true]at b c;show(λx a e=>?_,λx a e=>?_,λx a e=>?_,eq_of_beq h2,eq_of_beq d,λi j e=>?_)
 .have:=b x a;simp only[ce,jQ,bne_iff_ne,beq_iff_eq]at this
  rcases this.1.1 with(z |z) |z
  .show absurd e z
  .show .inl z
  .show .inr z
 .have:=b x a;simp only[ce,bne_iff_ne]at this;show this.1.2 e
 .have:=b x a;simp only[ce,jQ,bne_iff_ne,beq_iff_eq]at this
  rcases this.2 with z |z
  .show absurd e z
  .show z
 .have hi:=(cM.mp e).1;have:=c i (fF.mpr hi);rw[e]at this
  cases q:Nc[k+i]? with
  |none=>simp only[q]at this;nomatch this
  |some x=>
   rw[q]at this;simp only[ce,beq_iff_eq]at this;show(x,rfl,this.1,this.2)
def jq(k:Nat)(js:LN)(C:St):St:=hE k ab++js.map λj=>(C[j]?).getD ab
def PTs(X:Cx)(c3:LEx)(t:TT):Prop:=
 ∀(U:PNS) (s:ah) (C:St) (H:Hp) (Q:Bool->Hp->Prop),Inv X U C H s->t C H Q ->
  wpAny (model X.prog X.w) X.A (forIn c3 ac λc r=>if r=ac then do let ok <- isTrue c X.env (eval c X.env);pure (oi ok) else pure (oi r)) (TP X U C Q) X.xe s
def NK:TT:=λ_ H Q=>Q ac H
variable{X:Cx}
def NL:PTs X [] NK:=λ_ _ _ H _ I h=>wpAny_tests_nil (H,I,h)
def NM{c:Expr}{t:TT}(h:PT X c t):PTs X [c] t:=λU s C H Q I q=>wpAny_tests_one (h U s C H Q I q)
def yC(J:It)(g:TG)(tt:TT)(te:TE)(h:St)(j:Hp)(Q:VK):Prop:=
 ∃W:Nat->Nat->LVv->St->Hp->Prop,(∃m,W 0 m [] h j)/\∀i m c σ' H',W i m c σ' H' ->
  (J.stop i H'/\Z c<=aU/\∀D,j D=ab->H' D=ab->Q (.ref D) (upd H' D (.lst c))) \/
  (J.go i H'/\Z c<=aU/\∃ N : LVv->St->Hp->Prop,(∀ e f d,N e f d->∃ n,n < m/\W (i + 1) n e f d) /\
   ∀x d,J.yld i H' x d->g x σ' d λa p=>tt a p λb l=>if b=ac then te a l λy q=>N (c++[y]) a q else N c a l)
def oZ(k:Nat)(js:LN)(b:TI)(g:TG)(tt:TT)(te:TE):TE:=λC H Q=>b C H λJ a=>yC J g tt te (jq k js C) a Q
nonrec def Cx.to(X:Cx)(pn:PNS)(xe:PRS):Cx:={X with pn:=pn,xe:=xe}
variable{Y:Cx}{xe:PRS}{U:PNS}{C:St}{H:Hp}
def FH{s:ah}(I:Inv Y U C H s):Inv {Y with xe:=xe} U C H s:=
 ((I.ok.mod,I.ok.kind,I.ok.glob,I.ok.blt,I.ok.above,I.ok.inj,I.ok.has,I.ok.cab,I.ok.hd,I.ok.frames,I.ok.stk,I.ok.exf,I.ok.bs,I.ok.bsz,I.ok.noex,I.ok.exfs,I.ok.funs,I.ok.frf),I.os,I.bare,I.base,I.loc,I.cell,I.free,I.freeC,I.pin,I.hok,I.len)
def FI{s:ah}(I:Inv {Y with xe:=xe} U C H s):Inv Y U C H s:=
 ((I.ok.mod,I.ok.kind,I.ok.glob,I.ok.blt,I.ok.above,I.ok.inj,I.ok.has,I.ok.cab,I.ok.hd,I.ok.frames,I.ok.stk,I.ok.exf,I.ok.bs,I.ok.bsz,I.ok.noex,I.ok.exfs,I.ok.funs,I.ok.frf),I.os,I.bare,I.base,I.loc,I.cell,I.free,I.freeC,I.pin,I.hok,I.len)
variable{e:Expr}{t:TE}
def PE.to0(h:PE {Y with pn:=[],xe:=E00} e t):PE {Y with pn:=[],xe:=xe} e t:=λU s C H Q I q=>
 fS (h U s C H Q (FI I) q) (λu c (v,H',a,r,b)=>(v,H',FH a,r,b)) λ_ _ z=>z.elim
nonrec def jY(us:LVa)(n:Nat):Obj:={cls:=.type "list",data:=.seq us.toArray n}
variable{tg:Expr}{g:TG}{tt:TT}{te:TE}{H2:Hp}{s2:ah}{it:Addr}{fp:LAd}{tn:Nat->Heap->Prop}{J:It}{Q:VK}{RR:Value->Addr->Result->ah->Prop}{W7:PRS}
def NN{k:Nat}{PX:Cx->Prop}{cl:List (Str×Addr)}
 (hc:X.calm=ac)(ck:oY scope X.env.scope.names X.N Nc k js)
 (hg:∀cl W8 ex I H,PG (X.comp scope Nc cl W8 ex I H) tg g)(ht:∀cl W8 ex I H,PTs (X.comp scope Nc cl W8 ex I H) c3 tt)(he:∀cl W8 ex I H xe,PX ((X.comp scope Nc cl W8 ex I H).to [] xe)->PE ((X.comp scope Nc cl W8 ex I H).to [] xe) c5 te)
 (a1:∀x c,cl.lookup x=aa c->X.env.cells.lookup x=aa c)(a2:∀x,(x,fV,)∈scope.names->∃c,cl.lookup x=aa c)
 (G:Inv X U C H2 s2)(T:jX X.prog X.w X.K tg J fp it tn)(st2:tn 0 s2.heap)(f2:∀b∈fp,ij X U H2 b)(hW:yC J g tt te (jq k js C) H2 Q)
 (hRR:∀(D W8:Addr) (s':ah) (H':Hp),Inv X U C H' s'->(∃m,s'.heap.Ns W8 m)->ij X U H' W8->Q (.ref D) H'->RR (.ref D) W8 (.ok .next) s')
 (hPX:∀D W8,s2.heap.objs.size=D->D<W8->(∀b∈frs X.stack,b<D)->PX ((X.comp scope Nc cl W8 fp s2 H2).to [] (notedBy (model X.prog X.w) X.A (compEnvC scope cl W8 X.env) λx s'=>RR (.ref D) W8 (.error x) s'))):
  wpAny (model X.prog X.w) X.A (newList []) (λc4 s₃=>wpAny (model X.prog X.w) X.A (newFunctionEnv scope X.env.globals cl [] X.env.qual ab .none (aa X.env)) (λcenv s₄ =>
   gH (model X.prog X.w) X.A (.compStart (.ListComp c5 [(tg,iter,c3,0)] scope pos) 0 (.ref it) c4 {cenv with scope:=relabel scope X.env}) (RR c4 cenv.locals) s₄) W7 s₃) W7 s2:=by
 have(W,(m0,w0),turn):=hW;show ja (wpAny_newFunctionEnv ck.nocell (by intro y hy;simp at hy) (λh₁ B h=>?_) ck.kind);dsimp only at B h ⊢;generalize hP:s2.heap.push {cls:=.type "list",dict:=ab,data:=.seq ([]:LVa).toArray}=P at B h ⊢;generalize hD:s2.heap.objs.size=D at hP B h ⊢;have hCs:P.objs.size=D+1:=by rw[<- hP,jg,hD]
 generalize hC:P.objs.size=W8 at hCs B h ⊢;have hDC':D<W8:=by rw[hCs];show c8 _
 have hDC:D≠W8:=bY hDC';have below:∀b o,s2.heap.get? b=aa o->b<D:=λb o e=>hD▸bD e
 have old:∀b o,s2.heap.get? b=aa o->h₁.get? b=aa o:=λb o e=>by
  have f:=below b o e;show h.extBut b o (bY (mx f hDC')) (bz _ (hP▸bz _ e))
 have hDo:h₁.get? D=aa (jY [] 0):=h.extBut _ _ hDC (bz _ (by rw[<- hP,<- hD];show cO _ rfl));have Hn:∀b,D<=b->H2 b=ab:=λb f=>G.hok.fresh (by lia);have fpo:∀b∈fp,b<D:=λb f=>by have(o,e,_):=T.obj 0 _ st2 b f;show below b o e
 have clo:∀x c,cl.lookup x=aa c->c<D:=λx c e=>by
  have(v,o,ho,_):=G.cell x c (a1 x c e);show below c o ho
 have stko:∀b∈frs X.stack,b<D:=λb f=>by
  have(_,o,ho,_):=G.stack.mem f;show below b o ho
 let Y:Cx:=X.comp scope Nc cl W8 fp s2 H2
 have yk:Y.Ok:=by
  show(G.ok.mod,ck.kind,G.ok.glob,G.ok.blt,?_,?_,?_,?_,G.ok.hd,G.ok.frames,.inl rfl,?_,G.bs,?_,?_,?_,G.stack,G.stkFree)
  .change s2.heap.objs.size<=W8;lia
  .show λx y c h1 h2=>G.ok.inj x y c (a1 x c h1) (a1 y c h2)
  .intro x hx
   have:(x,fV,)∈scope.names\/(x,mK,)∈scope.names:=by
    rcases hx with hx |hx
    .show yB (.inl rfl) hx
    .show yB (.inr rfl) hx
   rcases this with z |z
   .show a2 x z
   .show absurd rfl (ck.nocell _ z)
  .show λx c z=>nomatch z
  .intro b f;show(?_,λx c e=>?_)
   .show bY (mx (fpo b f) hDC')
   .show(f2 b f).2.2.2.2.1 x c (a1 x c e)
  .show cN G.ok.bsz G.sz
  .intro b o e f
   rcases(f2 b f).2.2.2.1 with z |z
   .show G.ok.noex b o e z
   .show absurd (fG (bD e) (cN G.ok.bsz z)) (gE _)
  .intro b f z
   rcases a9.mp (G.stkSub b z)with e |e
   .show(f2 b f).2.1 e
   .show(f2 b f).2.2.1 e
 have I4:Inv Y [(D,jY [] 0,)] (jq k js C) H2 {s2 with heap:=h₁,toks:=s2.toks+Z ([]:List (Str×Value))}:=by
  show(yk,rfl,G.bare,Un.kept old,(_,B,λi x v e1 L e3=>?_),λx c e=>?_,Hn W8 (by lia),λx c e=>G.freeC x c (a1 x c e),λp M=>?_,G.hok.kept old,?_)
  .have e1:Nc[i]?=aa x:=e1;unfold jq at L
   have hik:k<=i:=by
    rcases Nat.lt_or_ge i k with z |z
    .rw[ke (by simpa using z),oj]at L;simp[z]at L
    .show z
   rw[lc (by simpa using hik),cx]at L;simp only[mi]at L
   cases q:js[i-k]? with
   |none=>rw[q]at L;cases L
   |some j=>
    rw[q]at L;have(x',q1,q2,q3):=ck.at' _ _ q;rw[show k+(i-k)=i by lia,e1]at q1;cases q1;have L:(C[j]?).getD ab=aa v:=du L
    have e2':C[j]?=aa (aa v):=by
     cases z:C[j]? with
     |none=>rw[z]at L;nomatch L
     |some y=>rw[z]at L;rw[show y=aa v from L]
    have hmem:(x,fV,)∈scope.names:=by
     have:∀l:List (Str×gj),l.lookup x=aa .free->(x,fV,)∈l:=by
      intro l
      induction l with
      |nil=>intro z;nomatch z
      |cons a l ih=>
       intro z;have(n,kk):=a;simp only[mq]at z
       cases f:x==n with
       |true=>
        rw[f]at z;cases z
        rw[eq_of_beq f];show aA
       |false=>rw[f]at z;show bj _ (ih z)
     show this _ q3
    have hout:X.env.kindOf x=aa .cell\/X.env.kindOf x=aa .free:=ck.free _ hmem rfl;have(m,hn,hl):=G.loc
    have vis:Vis X.env.scope x:=by
     rcases hout with z |z
     .show .inr (.inl z)
     .show .inr (.inr z)
    have(u,r,l):=hl j x v q2 e2' vis;show(u,r,.inr (yA q3,?_))
    rcases l with⟨z,_⟩ |⟨_,c,hcl,hcell⟩
    .rcases hout with y |y <;> (rw[y]at z;nomatch z)
    .have(c',hc'):=a2 x hmem;have:=a1 x c' hc';rw[hcl]at this;cases this;show(c,hc',hcell.keeps old)
  .have(v,z):=G.cell x c (a1 x c e);show(v,z.keeps old)
  .have M:p∈[(D,jY [] 0,)]:=(bx.mp M).elim (λz=>nomatch (show p∈([]:PNS)from z)) id;have M:=bq.mp M;subst M;show⟨hDo,Hn D (aM _),hDC,λz=>?_,λv z=>by nomatch z⟩;show absurd (stko D z) (gE _)
  .change(jq k js C).length=Z Nc;rw[ck.len];simp[jq]
 have st1:=T.keep 0 _ _ st2 λb _ o e=>old b o e
 have fpY:∀{H':Hp} {p:PNS},(∀q∈p,q.1=D)->(∀b∈fp,H' b=ab)->∀b∈fp,ij Y p H' b:=λ{H' p} M hn b f=>by
  show(hn b f,(yk.exf b f).1,yk.exfs b f,.inl f,λx c e=>(yk.exf b f).2 x c e,λq hq=>?_);rw[M q hq];show lr (fpo b f)
 let xe:Value->ah->Prop:=notedBy (model X.prog X.w) X.A (compEnvC scope cl W8 X.env) λx s'=>RR (.ref D) W8 (.error x) s'
 have M:=hPX D W8 hD hDC' stko
 have loop:gH (model X.prog X.w) X.A (.compLoop (.ListComp c5 [(tg,iter,c3,0)] scope pos) 0 (.ref it) (.ref D) (compEnvC scope cl W8 X.env)) (RR (.ref D) W8) {s2 with heap:=h₁,toks:=s2.toks+Z ([]:List (Str×Value))}:=by
  show NJ (λn s'=>∃i ys us nn σ' H',Inv Y [(D,jY us nn,)] σ' H' s'/\tn i s'.heap/\(∀b∈fp,H' b=ab)/\aH ys us/\W i n ys σ' H') ?_ m0
   (0,[],[],0,jq k js C,H2,I4,st1,λb f=>(f2 b f).1,.nil,w0)
  rintro n s3 ⟨i,ys,us,nn,σ3,H3,I3,st3,fr3,rv,w3⟩
  have one:∀q∈[(D,jY us nn,)],q.1=D:=λq hq=>by
   have:q=(D,jY us nn,):=by simpa using hq
   rw[this]
  rcases turn i n ys σ3 H3 w3 with⟨stop,hz,qn⟩ |⟨go,hz,N,hN,step⟩
  .show thn (T.done Y rfl rfl rfl hc i _ s3 σ3 H3 _ I3 (fpY one fr3) st3 stop) λr s4 (hr,I5)=>?_;subst hr;have(pD,nD,_,_,_):=I5.pin (D,jY us nn,) (by simp);have bs:=I5.base;have h2D:∀b o,H2 b=aa o->b≠D:=λb o e z=>by rw[z,Hn D (aM _)]at e;nomatch e
   have I6:Inv X U C (upd H3 D (.lst ys)) s4:=by
    show G.call' (ch:=fp) I5.os (bs.keep,bs.slot,λb o e n hx=>?_,bs.there,λb E e=>?_,λb o u e=>?_,λb ps e=>?_) (λb u e=>?_) I5.bare λb f=>?_
    .rw[aN (bY (below b o e))];show bs.free b o e n hx
    .rw[aN (h2D b _ e)];show bs.tups b E e
    .rw[aN (h2D b _ e)];show bs.frzs b o u e
    .rw[aN (h2D b _ e)];show bs.tbls b ps e
    .by_cases f:b=D
     .subst f;rw[ba]at e;cases e;show(hz,us,nn,rv,pD)
     .rw[aN f]at e;show(I5.hok b u e).stay (λc v _ q=>q) (λc q=>by rw[aN (fJ q nD)];show q) λc E q=>by rw[aN (fJ q nD)];show q
    .have(_,f1,_,f3,f4,f5):=f2 b f;show(f3,f1,f4,f5)
   have(m,hn,_):=I5.loc;show hRR D W8 s4 _ I6 (m,hn) (G.fpOk (by lia) ?_) (qn D (Hn D (aM _)) nD);rw[aN hDC.symm];show I5.free
  .show thn (T.item Y rfl rfl rfl hc i _ s3 σ3 H3 _ I3 (fpY one fr3) st3 go) λr s4 q_=>?_;have(u,hr,h4):=q_;subst hr;show thn h4 λ_ s5 q_=>?_;have(x,H5,I5,r5,y5,st5,fr5):=q_;have I5':=I5.pinned (fpY one fr5) (T.obj _ _ st5);show fS (hg cl W8 fp s2 H2 _ s5 σ3 H5 x u _ I5' r5 (step x H5 y5)) (λ_ s6 (σ6,H6,I6,q6)=>?_) λ_ _ z=>z.elim;show fS (ht cl W8 fp s2 H2 _ s6 σ6 H6 _ I6 q6) (λb s7 (H7,I7,q7)=>?_) λ_ _ z=>z.elim
   have kp:∀{H8:Hp} {s8:ah},Inv Y ([(D,jY us nn,)]++ux fp s5.heap) σ6 H8 s8->tn (i+1) s8.heap/\(∀b∈fp,H8 b=ab):=λ{H8 s8} I8=>by
    show(T.keep _ _ _ st5 λb f o e=>(I8.pin (b,o,) (cF _ (cF _ (uz f e)))).1,λb f=>?_);have(o,e,d):=T.obj _ _ st5 b f;show(I8.pin (b,o,) (cF _ (cF _ (uz f e)))).2.1
   cases b with
   |false=>
    have(m',hm,w7):=hN _ _ _ q7;have(st7,fr7):=kp I7
    show(m',hm,i+1,ys,us,nn,σ6,H7,I7.unpinned,st7,fr7,rv,w7)
   |true=>
    show thn (he cl W8 fp s2 H2 xe M _ s7 σ6 H7 _ (FH I7) q7) λuy s8 q_=>?_;have(y,H8,I8',r8,q8):=q_;have I8:=FI I8';have(m',hm,w8):=hN _ _ _ q8;have(st8,fr8):=kp I8;have(pD,nD,pC,pF,_):=I8.pin (D,jY us nn,) (by simp);have hl:=rv.length
    show wpAny_list_append_plain (items:=us.toArray) (nn,pD) (λh' hl' sb=>?_) (by simp only[size_toArray] <;> lia)
    have(n',e'):=hl';have I8n:Inv Y [] σ6 H8 s8:=I8.pins_of (λ_ z=>nomatch z);have I9:=I8n.turned (t':=s8.toks) (it:=D) (λb o f e=>(sb.2 b f).trans e) nD pC (.inr (by change s2.heap.objs.size<=D;lia)) (λx c e=>bY (clo x c e)) (λp M=>nomatch M);show(m',hm,i+1,ys++[y],us++[uy],n',σ6,H8,I9.pins_of (λp M=>?_),?_,fr8,rv.append (.cons r8 .nil),w8)
    .have M:p=(D,jY (us++[uy]) n',):=by simpa using M
     subst M;show⟨?_,nD,pC,pF,λv z=>by nomatch z⟩;have L:=e';rw[L];simp
    .show T.keep _ _ _ st8 λb f o e=>(sb.2 b (bY (fpo b f))).trans e
 show codeAny_compStart_list loop (T.self X.A 0 _ _ _ st1 loop)
def FJ{k:Nat}{cl:List (Str×Addr)}
 (y:X.calm=ac)(u:oY scope X.env.scope.names X.N Nc k js)
 (B:∀cl W8 ex d a,PG (X.comp scope Nc cl W8 ex d a) tg g)(E:∀cl W8 ex d a,PTs (X.comp scope Nc cl W8 ex d a) c3 tt)(z:∀cl W8 ex d a,PE (X.comp scope Nc cl W8 ex d a) c5 te)
 (q:∀x c,cl.lookup x=aa c->X.env.cells.lookup x=aa c)(r:∀x,(x,fV,)∈scope.names->∃c,cl.lookup x=aa c)
 (p:Inv X U C H2 s2)(T:jX X.prog X.w X.K tg J fp it tn)(n:tn 0 s2.heap)(f2:∀b∈fp,ij X U H2 b)(v:yC J g tt te (jq k js C) H2 Q)
 (j:∀(D W8:Addr) (l:ah) (H':Hp),Inv X U C H' l->(∃m,l.heap.Ns W8 m)->ij X U H' W8->Q (.ref D) H'->RR (.ref D) W8 (.ok .next) l):
  wpAny (model X.prog X.w) X.A (newList []) (λf h=>wpAny (model X.prog X.w) X.A (newFunctionEnv scope X.env.globals cl [] X.env.qual ab .none (aa X.env)) (λe i =>
   gH (model X.prog X.w) X.A (.compStart (.ListComp c5 [(tg,iter,c3,0)] scope pos) 0 (.ref it) f {e with scope:=relabel scope X.env}) (RR f e.locals) i) W7 h) W7 s2:=
 NN (PX:=λ_=>True) y u B E (λcl W8 ex d a xe _=>PE.to0 (z cl W8 ex d a)) q r p T n f2 v j λ_ _ _ _ _=>trivial
variable{wi:TI}
def NO(k:Nat)(js:LN)(Nc:LSt)(L:X.calm=ac)(hi:PI X tg iter wi)
 (Y:∀cl W8 ex c a,PG (X.comp scope Nc cl W8 ex c a) tg g)(ht:∀cl W8 ex c a,PTs (X.comp scope Nc cl W8 ex c a) c3 tt)(M:∀cl W8 ex c a,PE (X.comp scope Nc cl W8 ex c a) c5 te)
 (d:autoParam (lG scope X.env.scope.names X.N Nc k js=ac) Zb)(hs:autoParam (∀x,ls iter X.env x=pure x) Zd):
  PE X (.ListComp c5 [(tg,iter,c3,0)] scope pos) (oZ k js wi g tt te):=by
 intro U s C H Q I h;have d:=oY.of d;have(cl,f,p,r):=FG λx hx e=>I.ok.has x.1 (d.free x hx e);show wpAny_comprehension_free rfl hs f d.kind d.loc (thn (hi U s C H _ I h) λv s1 B=>thn B λitv s2 h2=>?_);have(it,fp,tn,J,H2,e,n,T,j,f2,E):=h2;subst e;show FJ L d Y ht M p r n T j f2 E λD W8 s' H' l (m,hn) A q=>?_;have(u,f1,_,w,y,z):=A;show(m,hn,λh' i=>(.ref D,H',l.turned (λb o G e=>(i.2 b G).trans e) u f1 w y z,rfl,q))
variable{i:Nat}{x:Str}{b4 eN:Pos}
def yD(k:Nat)(js:LN)(Nc:LSt)(hN:X.N.Nodup)(p:X.N[i]?=aa x)(w:Loc X.env.scope x)(hc:X.calm=ac)(hi:PI X tg iter wi)
 (hg:∀cl W8 ex d c,PG (X.comp scope Nc cl W8 ex d c) tg g)(ht:∀cl W8 ex d c,PTs (X.comp scope Nc cl W8 ex d c) c3 tt)(he:∀cl W8 ex d c,PE (X.comp scope Nc cl W8 ex d c) c5 te)
 (u:autoParam (gi (.ListComp c5 [(tg,iter,c3,0)] scope pos) (aa (.Name x b4)) eN.line X.env=pure ac) Zb)
 (f:autoParam (lG scope X.env.scope.names X.N Nc k js=ac) Zb)(hs:autoParam (∀x,ls iter X.env x=pure x) Zd)
 (hf:autoParam (LcF X x) Zh):
  PS X (.Assign [.Name x b4] (.ListComp c5 [(tg,iter,c3,0)] scope pos) eN) (jn (oZ k js wi g tt te) (ig i)):=by
 intro U s C H D I h;have f:=oY.of f;rw[exec_Assign_Name_used _ _ _ _ u];show am (wpAny_standAt (am ?_));have(cl,n,L,M):=FG λx w e=>I.ok.has x.1 (f.free x w e)
 show am (fS (wpAny_comprehension_free rfl hs n f.kind f.loc
  (thn (hi U s C H _ I h) λv s1 h1=>thn h1 λitv s2 h2=>?_)) (λ_ s' hq=>aD (aD hq)) λ_ _ e=>e)
 have(it,fp,tn,J,H2,e,G,T,y,f2,hW):=h2;subst e;show FJ hc f hg ht he L M G T y f2 hW λB W8 s' H' E (m,hn) fC q=>?_;have(Q,f1,Y,f3,A,f5):=fC;show wpAny_assign_Name (EQ (v:=.ref B) E hN p w rfl (λs'' j (a,sb,ha)=>?_) hf)
 have l:W8≠a:=by
  rcases ha with z |z
  .rw[z];show f1
  .show(A x a z).symm
 show(m,hn.sameBut sb l,λh' r=>(_,H',j.turned (λb o hb e=>(r.2 b hb).trans e) Q f1 f3 A f5,q))
def FK:OpR X (cY .Is) (λx y H Q=>∃b,y=.bl b/\(x=.non\/∃c,x=.bl c)/\Q (.bl (decide (x=.bl b))) H):=by
 intro U s C H x y v u Q I rx d h;have(b,rfl,a,q):=h;subst d
 rcases a with rfl |⟨c,rfl⟩
 .subst rx
  show wpAny_is_plain rfl (bV I q (by cases b <;> rfl))
 .subst rx
  show wpAny_is_plain rfl (bV I q (by cases b <;> cases c <;> rfl))
def FL:OpR X (cY .IsNot) (λx y H Q=>∃b,y=.bl b/\(x=.non\/∃c,x=.bl c)/\Q (.bl (!decide (x=.bl b))) H):=by
 intro U s C H x y v u Q I rx d h;have(b,rfl,a,q):=h;subst d
 rcases a with rfl |⟨c,rfl⟩
 .subst rx
  show wpAny_isNot_plain rfl (bV I q (by cases b <;> rfl))
 .subst rx
  show wpAny_isNot_plain rfl (bV I q (by cases b <;> cases c <;> rfl))
def NP(a:X.calm=ac):iI X (.builtin "sum") (λE H Q=>∃(p:Addr) (ns:LI0),E=[.ref p]/\SqL X.K H p (ns.map V.int)/\Q (.int ns.sum) H):=by
 intro U s C H E us Q I r h;have(p,ns,rfl,c,q):=h;have(u,rfl,rx):=mU r;subst rx;have(L,f,d,hz):=I.list c;have hi:=MW f;have(E,e):=hi.allInts.items;show sum_intListG (I.ok.hd a) (by rw[<- e];show d.isList) λh' g t' b=>?_
 have es:preSum (numAt E) E.size=ns.sum:=by
  rw[preSum_eq,lh (by simp),<- nums_intItems,<- e,hi.numsOf]
 rw[es];show(.int ns.sum,H,I.kept b,(_,rfl),q)
def NQ:iI X (.builtin "isinstance") (λE H Q=>∃x T t b,E=[x,.ty T]/\gL X.K H x t/\W.kitOne X.K t (.type T)=aa b/\Q (.bl b) H):=by
 intro U s C H E us Q I r h;have(x,T,t,b,rfl,ty,e,q):=h;have(u,d,rfl,rx,a):=Mz r;cases (a);show MM I rx ty e λc=>(.bl b,H,I.tok c,rfl,q)
variable{E:LVv}
def aH.at'{us:LVa}{u:Value}(r:aH E us)(e:us[i]?=aa u):∃x,E[i]?=aa x/\aC x u:=by
 have b:=r.length;have hi:i<Z E:=by have:=(cM.mp e).1;lia
 show(E[i],by simp[hi],?_);have(c,e',a):=r.get (i:=i) (x:=E[i]) (by simp[hi]);rw[e]at e';cases e';show a
def o7{env:Env}{a:gj}(b:a≠.free):∀{names:List (Str×gj)} {x:Str},names.lookup x=aa a ->
  (names.map λ(n,k,)=>if (k==fV && env.scope.kind==.function && env.kindOf n==aa .cell) then (n,mK,) else (n,k,)).lookup x=aa a
 | [],_,h=>by simp at h
 |(n,k,)::r,x,h=>by
  have c:=@o7 env a b r x
  grind
def NR(h:Vis scope x):Vis (relabel scope env) x:=by
 rcases h with h |h |h
 .show .inl (o7 (by decide) h)
 .show .inr (.inl (o7 (by decide) h))
 .rcases yA h with z |z
  .show .inr (.inl z)
  .show .inr (.inr z)
variable{W8:Addr}{ex:LAd}{cc:ah}{cs:Hp}
def pvc{cl:List (Str×Addr)}(i:Nat)(b:autoParam (Nc[i]?=aa x) Zb)(hv:autoParam (Vis scope x) Ze)(hd:autoParam (NDb x) Zc)
 (a:autoParam (NCd x) Zc):PE (X.comp scope Nc cl W8 ex cc cs) (.Name x pos) (cT i):=mQ b (NR hv) hd a
def pgc{cl:List (Str×Addr)}(i:Nat)(b:autoParam (Nc.Nodup) Zm)(hi:autoParam (Nc[i]?=aa x) Zb)(a:autoParam (scope.names.lookup x=aa .local) Zb):PG (X.comp scope Nc cl W8 ex cc cs) (.Name x pos) (ig i):=
 xR b hi (.inl (o7 (by decide) a)) (.inr (o7 (by decide) a))
def glc{cl:List (Str×Addr)}(h:scope.names.lookup x=aa .globalImplicit):Gl (X.comp scope Nc cl W8 ex cc cs) x:=o7 (by decide) h
variable{p:Addr}
def bQ{o:HO}(h:H p=ab):ar H (upd H p o):=λb u e=>by rw[aN (fJ e h)];show e
variable{K:aR}{H':Hp}{a:Addr}
def ar.tup(e:ar H H')(h:SqT K H a E):SqT K H' a E:=by
 rcases h with(h |⟨o,h⟩) |h
 .show .inl (.inl (e _ _ h))
 .show .inl (.inr (o,e _ _ h))
 .show .inr h
def lH(p:Addr)(H H':Hp):Prop:=∀b o,H b=aa o->b≠p->H' b=aa o
def lH.refl(p:Addr)(H:Hp):lH p H H:=λ_ _ h _=>h
variable{H1:Hp}
def lH.trans(a:lH p H H1)(b:lH p H1 H2):lH p H H2:=λc o h n=>b c o (a c o h n) n
def lH.seq(e:lH p H H')(n:a≠p)(h:SqL K H a E):SqL K H' a E:=by
 rcases h with(h |⟨o,h⟩) |h
 .show .inl (.inl (e _ _ h n))
 .show .inl (.inr (o,e _ _ h n))
 .show .inr h
def yE(K:aR)(H:Hp)(W5:Addr)(L:LII):Prop:=
 ∃a:List (Addr×Int×Int),SqL K H W5 (a.map λz=>V.ref z.1)/\(∀z∈a,SqT K H z.1 [.int z.2.1,.int z.2.2])/\L=a.map (·.2)/\Z a<=1000
def cI(p:Option Bool->Bool)(es:LOB)(L:LII):Int:=((L.filter λz=>p (es.getD z.1.toNat ab)).map (·.2)).sum
inductive Prt where
 |inn (t:Int) |out (t:Int) |least (k:Int) (L:LII) |most (k:Int) (L:LII)
abbrev NS(K:aR)(H:Hp)(p:Addr):Prt->Prop
 |.inn t=>SqT K H p [.str "in",.int t]
 |.out t=>SqT K H p [.str "out",.int t]
 |.least k L=>∃W5,SqT K H p [.str "least",.int k,.ref W5]/\yE K H W5 L
 |.most k L=>∃W5,SqT K H p [.str "most",.int k,.ref W5]/\yE K H W5 L
def bs(l:LB0):LOB:=l.map aa
abbrev Prt.holds(B ws:LB0):Prt->Bool
 |.inn t=>(B.getD t.toNat af)
 |.out t=>!(ws.getD t.toNat af)
 |.least k L=>decide (k<=cI (·==aa ac) (bs B) L)
 |.most k L=>decide (cI (·==aa ac) (bs ws) L<=k)
variable{h':Heap}
section
variable{s:ah}
def Inv.turnedMany{t':Nat}{ch:LAd}(I:Inv X U C H s)(k:∀b o,b∉ch->s.heap.get? b=aa o->h'.get? b=aa o)(d:∀b∈ch,ij X U H b):Inv X U C H {s with heap:=h',toks:=t'}:=by
 show I.step (λb j=>?_) (λb o _ _ a e _=>k b o a e) (λb o _ _ a e _=>(o.slots,k b o a e)) (λ_ _ _ _ n=>n)
  (λb o a e=>(o,k b o a e)) (λ_ _ e=>e) (λ_ _ _ e=>e) (λb ps e=>(#[],by rw[e];simp)) (λm hm=>?_) (λb u e=>?_) I.bare
 .have(_,f1,_,g,h,i):=d b j;show(g,f1,h,i)
 .have(o,es,f,l,r):=hm;show(o,es,f,k _ o (λz=>(d _ z).2.1 rfl) l,r)
 .show(I.hok b u e).stay (λc v a q=>k c v (λz=>?_) q) (λ_ q=>q) λ_ _ q=>q;have hn:=(d c z).1
  rcases a with y |y
  .rw[y,e]at hn;nomatch hn
  .rw[hn]at y;nomatch y
end
def Inv.track{s:ah}{o:HO}(I:Inv X U C H s)(f:ij X U H p)(l:dX X.prog X.w (upd H p o) s.heap p o):Inv X U C (upd H p o) s:=by
 have(g,f1,f2,h,i,j):=f;have ne:∀b u,H b=aa u->b≠p:=λb u e=>fJ e g;have one:∀b:Addr,b∉[p]->b≠p:=λb a z=>a (by rw[z];simp)
 show I.step (ch:=[p]) (λb a=>?_) (λb o _ _ d e _=>e) (λb o _ _ d e _=>(o.slots,e)) (λb o d e n=>?_)
  (λb o d e=>(o,e)) (λb E e=>?_) (λb o u e=>?_) (λb ps e=>(#[],?_)) (λm hm=>hm) (λb u e=>?_) I.bare
 .have e:b=p:=by simpa using a
  subst e;show(h,f1,i,j)
 .rw[aN (one b d)];show n
 .rw[aN (ne b _ e)];show e
 .rw[aN (ne b _ e)];show e
 .rw[aN (ne b _ e),e];rfl
 .by_cases a:b=p
  .subst a;rw[ba]at e;cases e;show l
  .rw[aN a]at e;show(I.hok b u e).stay (λc v _ q=>q) (λc q=>by rw[aN (ne c _ q)];show q) λc E q=>by rw[aN (ne c _ q)];show q
def bR(p:Int->Bool)(L:LII):Int:=((L.filter λz=>p z.1).map (·.2)).sum
def gN(p:Option Bool->Bool)(es:LOB)(L:LII):cI p es L=bR (λt=>p (es.getD t.toNat ab)) L:=rfl
def FM(p q:Int->Bool)(L:LII):bR p (L.filter λz=>q z.1)=bR (λt=>p t && q t) L:=by
 unfold bR;rw[filter_filter]
abbrev Prt.sure(es:LOB):Prt->Bool
 |.inn t=>es.getD t.toNat ab==aa ac
 |.out t=>es.getD t.toNat ab==aa af
 |.least k L=>decide (k<=cI (·==aa ac) es L)
 |.most k L=>decide (cI (λe=>!(e==aa af)) es L<=k)
abbrev Prt.lost(es:LOB)(ws:LB0):Prt->Bool
 |.inn t=>(es.getD t.toNat ab==aa af) || ws.getD t.toNat af
 |.out t=>es.getD t.toNat ab==aa ac
 |.least k L=>decide (bR (λt=>!(es.getD t.toNat ab==aa af) && !(ws.getD t.toNat af)) L<k)
 |.most k L=>decide (k<cI (·==aa ac) es L)
abbrev FN(W5:Addr)(L:LII)(vs:LVv):Prt->Prop
 |.inn t=>vs=[.str "in",.int t]
 |.out t=>vs=[.str "out",.int t]
 |.least k i=>vs=[.str "least",.int k,.ref W5]/\i=L
 |.most k i=>vs=[.str "most",.int k,.ref W5]/\i=L
variable{vs:LVv}
def FN.at{W5:Addr}{L:LII}{r:Prt}(t:FN W5 L vs r)(a:H p=aa (.tup vs))(b:yE K H W5 L):NS K H p r:=by
 cases r with
 |inn t'=>subst t;show SqT.of a
 |out t'=>subst t;show SqT.of a
 |least k i=>have(rfl,rfl):=t;show(W5,SqT.of a,b)
 |most k i=>have(rfl,rfl):=t;show(W5,SqT.of a,b)
inductive D where
 |non
 |bl (b:Bool)
 |int (i:Int)
 |str (x:Str)
 |lst (E:List D)
 |tup (E:List D)
 |kl (E:List D)
 |kt (E:List D)
 |dic (ks:List Key) (E:List D)
 |ins (c:Str) (ns:LSt) (E:List D)
 |kd (ks:List Key) (E:List D)
 |dT (ks:List (List Key)) (E:List D)
 deriving Inhabited
nonrec abbrev OD:=Option D
nonrec abbrev LD:=List D
nonrec abbrev OLD:=Option LD
set_option genInjectivity false in
structure Gc where
 K:aR
 cl:Str->Addr
mutual
def Rep(G:Gc)(H:Hp):D->V->Prop
 |.non,v=>v=.non
 |.bl b,v=>v=.bl b
 |.int i,v=>v=.int i
 |.str x,v=>v=.str x
 |.lst ds,v=>∃a vs,v=.ref a/\H a=aa (.lst vs)/\ao G H ds vs
 |.tup ds,v=>∃a vs,v=.ref a/\H a=aa (.tup vs)/\ao G H ds vs
 |.kl ds,v=>∃a vs,v=.ref a/\SqL G.K H a vs/\ao G H ds vs
 |.kt ds,v=>∃a vs,v=.ref a/\SqT G.K H a vs/\ao G H ds vs
 |.dic ks ds,v=>∃a vs,v=.ref a/\H a=aa (.dK (ks.zip vs))/\Z ks=Z vs/\ao G H ds vs
 |.ins c ns ds,v=>∃a dx vs,v=.ref a/\H a=aa (.ins (G.cl c) dx (ns.zip vs))/\Z ns=Z vs/\ao G H ds vs
 |.kd ks ds,v=>∃a od vs,v=.ref a/\H a=aa (.frz od (.dK (ks.zip vs)))/\Z ks=Z vs/\ao G H ds vs
 |.dT ks ds,v=>∃a vs,v=.ref a/\H a=aa (.dT (ks.zip vs))/\Z ks=Z vs/\ao G H ds vs
def ao(G:Gc)(H:Hp):LD->LVv->Prop
 | [],vs=>vs=[]
 |d::ds,vs=>∃v r,vs=v::r/\Rep G H d v/\ao G H ds r
end
mutual
theorem Rep.upM(s:ar H H'):∀(d:D) (v:V),Rep G H d v->Rep G H' d v
 |.non,_,h=>h
 |.bl _,_,h=>h
 |.int _,_,h=>h
 |.str _,_,h=>h
 |.lst ds,_,h_=>by have(a,vs,e,q,r):=h_;show(a,vs,e,s _ _ q,ao.upM s ds vs r)
 |.tup ds,_,h_=>by have(a,vs,e,q,r):=h_;show(a,vs,e,s _ _ q,ao.upM s ds vs r)
 |.kl ds,_,h_=>by have(a,vs,e,q,r):=h_;show(a,vs,e,s.seq q,ao.upM s ds vs r)
 |.kt ds,_,h_=>by have(a,vs,e,q,r):=h_;show(a,vs,e,s.tup q,ao.upM s ds vs r)
 |.dic _ ds,_,h_=>by have(a,vs,e,q,l,r):=h_;show(a,vs,e,s _ _ q,l,ao.upM s ds vs r)
 |.ins _ _ ds,_,h_=>by have(a,dx,vs,e,q,l,r):=h_;show(a,dx,vs,e,s _ _ q,l,ao.upM s ds vs r)
 |.kd _ ds,_,h_=>by have(a,od,vs,e,q,l,r):=h_;show(a,od,vs,e,s _ _ q,l,ao.upM s ds vs r)
 |.dT _ ds,_,h_=>by have(a,vs,e,q,l,r):=h_;show(a,vs,e,s _ _ q,l,ao.upM s ds vs r)
theorem ao.upM(s:ar H H'):∀(ds:LD) (vs:LVv),ao G H ds vs->ao G H' ds vs
 | [],_,h=>h
 |d::ds,_,h_=>by have(v,r,e,a,h2):=h_;show(v,r,e,Rep.upM s d v a,ao.upM s ds r h2)
end
variable{G:Gc}{d:D}{v:V}
def Rep.up(r:Rep G H d v)(s:ar H H'):Rep G H' d v:=Rep.upM s d v r
variable{ds:LD}
def ao.up(r:ao G H ds vs)(s:ar H H'):ao G H' ds vs:=ao.upM s ds vs r
def ao.nil:ao G H [] []:=rfl
def ao.cons(h:Rep G H d v)(t:ao G H ds vs):ao G H (d::ds) (v::vs):=(v,vs,rfl,h,t)
def ao.length:∀{ds:LD} {vs:LVv},ao G H ds vs->Z ds=Z vs
 | [],_,h=>by cases (h);rfl
 |d::ds,_,(v,r,e,_,h)=>by subst e;simp[ao.length h]
def ao.append:∀{ds es:LD} {vs us:LVv},ao G H ds vs->ao G H es us->ao G H (ds++es) (vs++us)
 | [],_,_,_,h,t=>by cases (h);show t
 |d::ds,_,_,_,(v,r,e,h1,h2),t=>by subst e;show(v,r++_,rfl,h1,ao.append h2 t)
def ao.get:∀{ds:LD} {vs:LVv} {i:Nat} {d:D},ao G H ds vs->ds[i]?=aa d->∃v,vs[i]?=aa v/\Rep G H d v
 | [],_,_,_,_,e=>by simp at e
 |d::ds,_,0,_,(v,r,e,h1,_),e'=>by subst e;simp at e';subst e';show(v,rfl,h1)
 |d::ds,_,i+1,d',q4_,e'=>by
  have(v,r,e,_,h2):=q4_;subst e;have(u,a,b):=ao.get h2 (by simpa using e');show(u,by simpa using a,b)
def ao.get':∀{ds:LD} {vs:LVv} {i:Nat} {v:V},ao G H ds vs->vs[i]?=aa v->∃d,ds[i]?=aa d/\Rep G H d v:=λ{ds vs i v} h e=>by
 have c:=h.length;have hi:i<Z ds:=by have:=(cM.mp e).1;lia
 have(u,a,b):=h.get (i:=i) (d:=ds[i]) (by simp[hi]);rw[e]at a;cases a;show(ds[i],by simp[hi],b)
def ao.ints:∀(ns:LI0),ao G H (ns.map D.int) (ns.map V.int)
 | []=>rfl
 |n::ns=>(_,_,rfl,rfl,ao.ints ns)
def ao.take:∀{ds:LD} {vs:LVv} (n:Nat),ao G H ds vs->ao G H (ds.take n) (vs.take n)
 | _,_,0,_=>rfl
 | [],_,n+1,h=>by cases (h);rfl
 |d::ds,_,n+1,(v,r,e,h1,h2)=>by subst e;show(v,r.take n,rfl,h1,ao.take n h2)
def ao.drop:∀{ds:LD} {vs:LVv} (n:Nat),ao G H ds vs->ao G H (ds.drop n) (vs.drop n)
 | _,_,0,h=>h
 | [],_,n+1,h=>by cases (h);rfl
 |d::ds,_,n+1,(v,r,e,h1,h2)=>by subst e;show ao.drop n h2
def ao.reverse:∀{ds:LD} {vs:LVv},ao G H ds vs->ao G H ds.reverse vs.reverse
 | [],_,h=>by cases (h);rfl
 |d::ds,_,q2_=>by
  have(v,r,e,a,h2):=q2_;subst e;rw[i8,i8];show(ao.reverse h2).append (.cons a .nil)
def ao.set:∀{ds:LD} {vs:LVv} (i:Nat) {d:D} {v:V},ao G H ds vs->Rep G H d v->ao G H (ds.set i d) (vs.set i v)
 | [],_,_,_,_,h,_=>by cases (h);show .nil
 |e::ds,_,0,_,_,(v,r,e',_,h2),q=>by subst e';show(_,r,rfl,q,h2)
 |e::ds,_,i+1,_,_,(v,r,e',h1,h2),q=>by subst e';show(v,r.set i _,rfl,h1,ao.set i h2 q)
abbrev iK:HO->Bool
 |.tup _=>ac
 | _=>af
structure Ext(Hf H Hf' H':Hp):Prop where
 f:ar Hf Hf'
 h:ar H H'
 s:ar Hf' H'
 n:∀l o,H l=aa o->iK o=af->Hf' l=Hf l
variable{Hf:Hp}
def Ext.refl(s:ar Hf H):Ext Hf H Hf H:=(ar.refl _,ar.refl _,s,λ_ _ _ _=>rfl)
variable{b3 bm:Hp}
def Ext.trans(a:Ext Hf H b3 H1)(b:Ext b3 H1 bm H2):Ext Hf H bm H2:=(a.f.trans b.f,a.h.trans b.h,b.s,λl o e t=>(b.n l o (a.h l o e) t).trans (a.n l o e t))
def Ext.new{o:HO}(s:ar Hf H)(h:H p=ab):Ext Hf H (upd Hf p o) (upd H p o):=
 (bQ (s.free h),bQ h,λb u e=>by
  by_cases a:b=p
  .subst a;rw[ba]at e ⊢;show e
  .rw[aN a]at e ⊢;show s b u e,λl u e _=>by rw[aN (fJ e h)])
def Ext.tmp{o:HO}(s:ar Hf H)(h:H p=ab):Ext Hf H Hf (upd H p o):=(ar.refl _,bQ h,s.trans (bQ h),λ_ _ _ _=>rfl)
def Ext.grow(s:ar Hf H)(g:ar H H1):Ext Hf H Hf H1:=(ar.refl _,g,s.trans g,λ_ _ _ _=>rfl)
def Ext.fix{o:HO}(a:Ext Hf H b3 H1)(hn:H p=ab)(d:b3 p=ab)(g:H1 p=aa o):Ext Hf H (upd b3 p o) H1:=
 (a.f.trans (bQ d),a.h,λb u e=>by
  by_cases c:b=p
  .subst c;rw[ba]at e;rw[g];show e
  .rw[aN c]at e;show a.s b u e,λl u e t=>by rw[aN (fJ e hn)];show a.n l u e t)
inductive O where
 |fz (d:D)
 |lst (E:List O)
 |tup (E:List O)
 |dic (ks:List Key) (E:List O)
 |ins (c:Str) (ns:LSt) (E:List O)
 |jnk (n:Nat)
 |dT (ks:List (List Key)) (E:List O)
 |at (l:Addr) (o:O)
 |any
 deriving Inhabited
mutual
def OT(G:Gc)(Hf H:Hp):O->V->LAd->Prop
 |.fz d,v,fp=>Rep G Hf d v/\fp=[]
 |.lst os,v,fp=>∃a vs fs,v=.ref a/\H a=aa (.lst vs)/\OTs G Hf H os vs fs/\fp=a::fs
 |.tup os,v,fp=>∃a vs,v=.ref a/\H a=aa (.tup vs)/\OTs G Hf H os vs fp
 |.dic ks os,v,fp=>∃a vs fs,v=.ref a/\H a=aa (.dK (ks.zip vs))/\Z ks=Z vs/\OTs G Hf H os vs fs/\fp=a::fs
 |.ins c ns os,v,fp=>∃a dx vs fs,v=.ref a/\H a=aa (.ins (G.cl c) dx (ns.zip vs))/\Z ns=Z vs/\OTs G Hf H os vs fs/\fp=a::fs
 |.jnk n,v,fp=>∃a vs,v=.ref a/\H a=aa (.lst vs)/\Z vs<=n/\fp=[a]
 |.dT ks os,v,fp=>∃a vs fs,v=.ref a/\H a=aa (.dT (ks.zip vs))/\Z ks=Z vs/\OTs G Hf H os vs fs/\fp=a::fs
 |.at l o,v,fp=>v=.ref l/\OT G Hf H o v fp
 |.any,_,fp=>fp=[]
def OTs(G:Gc)(Hf H:Hp):List O->LVv->LAd->Prop
 | [],vs,fp=>vs=[]/\fp=[]
 |o::os,vs,fp=>∃v r f1 f2,vs=v::r/\OT G Hf H o v f1/\OTs G Hf H os r f2/\fp=f1++f2
end
mutual
noncomputable def O.toD:O->D
 |.fz d=>d
 |.lst os=>.lst (O.toDs os)
 |.tup os=>.tup (O.toDs os)
 |.dic ks os=>.dic ks (O.toDs os)
 |.ins c ns os=>.ins c ns (O.toDs os)
 |.at _ o=>o.toD
 |.jnk _=>.non
 |.dT ks os=>.dT ks (O.toDs os)
 |.any=>.non
noncomputable def O.toDs:List O->LD
 | []=>[]
 |o::os=>o.toD::O.toDs os
end
mutual
noncomputable def O.kn:O->Bool
 |.fz _=>ac
 |.lst os=>O.kns os
 |.tup os=>O.kns os
 |.dic _ os=>O.kns os
 |.ins _ _ os=>O.kns os
 |.at _ o=>o.kn
 |.jnk _=>af
 |.dT _ os=>O.kns os
 |.any=>af
noncomputable def O.kns:List O->Bool
 | []=>ac
 |o::os=>o.kn && O.kns os
end
mutual
theorem OT.frameM(f:ar Hf Hf'):∀(o:O) (v:V) (fp:LAd),OT G Hf H o v fp->(∀b u,H b=aa u->(iK u=ac\/b∈fp)->H' b=aa u)->OT G Hf' H' o v fp
 |.fz d,_,_,h,_=>(h.1.up f,h.2)
 |.lst os,_,fp,h_,k=>by have(a,vs,fs,e,q,r,g):=h_;show(a,vs,fs,e,k _ _ q (.inr (by rw[g];show aA)),OTs.frameM f os vs fs r (λb u i hm=>k b u i (hm.imp_right λz=>by rw[g];show bj _ z)),g)
 |.tup os,_,fp,h_,k=>by have(a,vs,e,q,r):=h_;show(a,vs,e,k _ _ q (.inl rfl),OTs.frameM f os vs fp r k)
 |.dic ks os,_,fp,h_,k=>by have(a,vs,fs,e,q,z,r,g):=h_;show(a,vs,fs,e,k _ _ q (.inr (by rw[g];show aA)),z,OTs.frameM f os vs fs r (λb u i hm=>k b u i (hm.imp_right λz=>by rw[g];show bj _ z)),g)
 |.ins c ns os,_,fp,h_,k=>by have(a,dx,vs,fs,e,q,z,r,g):=h_;show(a,dx,vs,fs,e,k _ _ q (.inr (by rw[g];show aA)),z,OTs.frameM f os vs fs r (λb u i hm=>k b u i (hm.imp_right λz=>by rw[g];show bj _ z)),g)
 |.jnk n,_,fp,h_,k=>by have(a,vs,e,q,z,g):=h_;show(a,vs,e,k _ _ q (.inr (by rw[g];show aA)),z,g)
 |.dT ks os,_,fp,h_,k=>by have(a,vs,fs,e,q,z,r,g):=h_;show(a,vs,fs,e,k _ _ q (.inr (by rw[g];show aA)),z,OTs.frameM f os vs fs r (λb u i hm=>k b u i (hm.imp_right λz=>by rw[g];show bj _ z)),g)
 |.at _ o,v,fp,h_,k=>by have(e,r):=h_;show(e,OT.frameM f o v fp r k)
 |.any,_,_,h,_=>h
theorem OTs.frameM(f:ar Hf Hf'):∀(os:List O) (vs:LVv) (fp:LAd),OTs G Hf H os vs fp->(∀b u,H b=aa u->(iK u=ac\/b∈fp)->H' b=aa u)->OTs G Hf' H' os vs fp
 | [],_,_,h,_=>h
 |o::os,_,fp,h_,k=>by have(v,r,f1,f2,e,d,h2,a):=h_;show(v,r,f1,f2,e,OT.frameM f o v f1 d (λb u c hm=>k b u c (hm.imp_right λz=>by rw[a];show b8 _ z)),OTs.frameM f os r f2 h2 (λb u c hm=>k b u c (hm.imp_right λz=>by rw[a];show cF _ z)),a)
end
variable{Hf':Hp}
def OT.frame{o:O}(h:OT G Hf H o v fp)(f:ar Hf Hf')(k:∀b u,H b=aa u->(iK u=ac\/b∈fp)->H' b=aa u):OT G Hf' H' o v fp:=OT.frameM f o v fp h k
def OT.up{o:O}(h:OT G Hf H o v fp)(f:ar Hf Hf')(s:ar H H'):OT G Hf' H' o v fp:=h.frame f λb u e _=>s b u e
def uL{a b:Type}:∀{ks:List a} {vs us:List b},Z ks=Z vs->Z ks=Z us->ks.zip vs=ks.zip us->vs=us
 | [],[],[],_,_,_=>rfl
 |k::ks,v::vs,u::us,h1,h2,e=>by
  injection e with e1 e2
  injection e1 with _ e3
  rw[e3,uL (by simpa using h1) (by simpa using h2) e2]
 | [],_::_,_,h,_,_=>by cases h
 | [],[],_::_,_,h,_=>by cases h
 | _::_,[],_,h,_,_=>by cases h
 | _::_,_::_,[],_,h,_=>by cases h
mutual
theorem OT.funM:∀(o:O) (v:V) (f p:LAd),OT G Hf H o v f->OT G Hf' H o v p->f=p
 |.fz d,_,_,_,h,h'=>h.2.trans h'.2.symm
 |.lst os,_,_,_,q4_,q5_=>by
  have(a,vs,fs,e,q,r,l):=q4_;have(w,j,g,e',i,m,b):=q5_;subst e l b;cases e';rw[q]at i;cases i
  rw[OTs.funM os vs fs g r m]
 |.tup os,_,f,p,q4_,q5_=>by
  have(a,vs,e,q,r):=q4_;have(w,j,e',i,m):=q5_;subst e;cases e';rw[q]at i;cases i
  show OTs.funM os vs f p r m
 |.dic ks os,_,_,_,q4_,q5_=>by
  have(a,vs,fs,e,q,z,r,l):=q4_;have(w,j,g,e',i,u,m,b):=q5_;subst e l b;cases e';rw[q]at i;have:=uL z u (HO.dK.inj (du i));subst this
  rw[OTs.funM os vs fs g r m]
 |.ins c ns os,_,_,_,q4_,q5_=>by
  have(a,dx,vs,fs,e,q,z,r,l):=q4_;have(w,x,j,g,e',i,u,m,b):=q5_;subst e l b;cases e';rw[q]at i;have:=uL z u (HO.ins.inj (du i)).2.2;subst this
  rw[OTs.funM os vs fs g r m]
 |.jnk n,_,_,_,q4_,q5_=>by
  have(a,vs,e,q,z,l):=q4_;have(w,j,e',i,u,b):=q5_;subst e l b;cases e'
  rfl
 |.dT ks os,_,_,_,q4_,q5_=>by
  have(a,vs,fs,e,q,z,r,l):=q4_;have(w,j,g,e',i,u,m,b):=q5_;subst e l b;cases e';rw[q]at i;have:=uL z u (HO.dT.inj (du i));subst this
  rw[OTs.funM os vs fs g r m]
 |.at _ o,v,f,p,h,h'=>OT.funM o v f p h.2 h'.2
 |.any,_,_,_,h,h'=>(show _=[]from h).trans (show _=[]from h').symm
theorem OTs.funM:∀(os:List O) (vs:LVv) (f i:LAd),OTs G Hf H os vs f->OTs G Hf' H os vs i->f=i
 | [],_,_,_,h,h'=>h.2.trans h'.2.symm
 |o::os,_,_,_,q4_,q5_=>by
  have(v,r,f1,f2,e,l,h2,j):=q4_;have(n,m,b,c,e',d,g,a):=q5_;subst e j a;cases e';rw[OT.funM o v f1 b l d,OTs.funM os r f2 c h2 g]
end
mutual
theorem OT.memM:∀(o:O) (v:V) (f:LAd),OT G Hf H o v f->∀a∈f,∃u,H a=aa u/\iK u=af
 |.fz d,_,_,h,a,ha=>by rw[h.2]at ha;cases ha
 |.lst os,_,_,q3_,b,hb=>by
  have(a,vs,fs,e,q,r,g):=q3_;subst g
  rcases a9.mp hb with z |z
  .subst z;show(_,q,rfl)
  .show OTs.memM os vs fs r b z
 |.tup os,_,f,(a,vs,e,q,r),b,hb=>OTs.memM os vs f r b hb
 |.dic ks os,_,_,q3_,b,hb=>by
  have(a,vs,fs,e,q,z,r,g):=q3_;subst g
  rcases a9.mp hb with z |z
  .subst z;show(_,q,rfl)
  .show OTs.memM os vs fs r b z
 |.ins c ns os,_,_,q3_,b,hb=>by
  have(a,dx,vs,fs,e,q,z,r,g):=q3_;subst g
  rcases a9.mp hb with z |z
  .subst z;show(_,q,rfl)
  .show OTs.memM os vs fs r b z
 |.jnk n,_,_,q3_,b,hb=>by
  have(a,vs,e,q,z,g):=q3_;subst g;rw[bq.mp hb]
  show(_,q,rfl)
 |.dT ks os,_,_,q3_,b,hb=>by
  have(a,vs,fs,e,q,z,r,g):=q3_;subst g
  rcases a9.mp hb with z |z
  .subst z;show(_,q,rfl)
  .show OTs.memM os vs fs r b z
 |.at _ o,v,f,h,a,ha=>OT.memM o v f h.2 a ha
 |.any,_,_,h,a,ha=>by rw[show _=[]from h]at ha;cases ha
theorem OTs.memM:∀(os:List O) (vs:LVv) (f:LAd),OTs G Hf H os vs f->∀a∈f,∃u,H a=aa u/\iK u=af
 | [],_,_,h,a,ha=>by rw[h.2]at ha;cases ha
 |o::os,_,_,q3_,a,ha=>by
  have(v,r,f1,f2,e,c,h2,b):=q3_;subst b
  rcases bx.mp ha with z |z
  .show OT.memM o v f1 c a z
  .show OTs.memM os r f2 h2 a z
end
mutual
theorem OT.repM(s:ar Hf H):∀(o:O) (v:V) (f:LAd),o.kn=ac->OT G Hf H o v f->Rep G H o.toD v
 |.fz d,_,_,_,h=>by rw[O.toD];show h.1.up s
 |.lst os,_,_,hk,h_=>by have(a,vs,fs,e,q,r,b):=h_;rw[O.kn]at hk;rw[O.toD];show(a,vs,e,q,OTs.repM s os vs fs hk r)
 |.tup os,_,f,hk,h_=>by have(a,vs,e,q,r):=h_;rw[O.kn]at hk;rw[O.toD];show(a,vs,e,q,OTs.repM s os vs f hk r)
 |.dic ks os,_,_,hk,h_=>by have(a,vs,fs,e,q,z,r,b):=h_;rw[O.kn]at hk;rw[O.toD];show(a,vs,e,q,z,OTs.repM s os vs fs hk r)
 |.ins c ns os,_,_,hk,h_=>by have(a,dx,vs,fs,e,q,z,r,b):=h_;rw[O.kn]at hk;rw[O.toD];show(a,dx,vs,e,q,z,OTs.repM s os vs fs hk r)
 |.at _ o,v,f,hk,h=>by rw[O.kn]at hk;rw[O.toD];show OT.repM s o v f hk h.2
 |.jnk _,_,_,hk,_=>by rw[O.kn]at hk;cases hk
 |.dT ks os,_,_,hk,h_=>by have(a,vs,fs,e,q,z,r,b):=h_;rw[O.kn]at hk;rw[O.toD];show(a,vs,e,q,z,OTs.repM s os vs fs hk r)
 |.any,_,_,hk,_=>by rw[O.kn]at hk;cases hk
theorem OTs.repM(s:ar Hf H):∀(os:List O) (vs:LVv) (f:LAd),O.kns os=ac->OTs G Hf H os vs f->ao G H (O.toDs os) vs
 | [],_,_,_,h=>by rw[O.toDs];show h.1
 |o::os,_,_,hk,h_=>by
  have(v,r,f1,f2,e,a,h2,b):=h_;rw[O.kns,ce]at hk;rw[O.toDs];show(v,r,e,OT.repM s o v f1 hk.1 a,OTs.repM s os r f2 hk.2 h2)
end
def OT.rep{o:O}{f:LAd}(h:OT G Hf H o v f)(s:ar Hf H)(a:o.kn=ac):Rep G H o.toD v:=OT.repM s o v f a h
def OTs.fz:∀{ds:LD} {vs:LVv},ao G Hf ds vs->OTs G Hf H (ds.map .fz) vs []
 | [],_,h=>(h,rfl)
 |d::ds,_,(v,r,e,h1,h2)=>(v,r,[],[],e,(h1,rfl),OTs.fz h2,rfl)
def yF(ds:LD):O.toDs (ds.map .fz)=ds:=by
 induction ds with
 |nil=>rfl
 |cons d ds a=>rw[bG,O.toDs,O.toD,a]
inductive Sl where
 |no
 |im (d:D)
 |own (E:LD)
 |ownd (ks:List Key) (E:LD)
 |obj (c:Str) (ns:LSt) (E:LD)
 |pin (l:Addr) (E:LD)
 |pind (l:Addr) (ks:List Key) (E:LD)
 |pino (l:Addr) (c:Str) (ns:LSt) (E:LD)
 |deep (o:O)
 |val (u:V)
nonrec abbrev LS:=List Sl
nonrec def nZ{a:Type}:LS->Option (List a):=λ_=>aa []
nonrec def kY:LS->Option Bool:=λ_=>aa ac
nonrec def kN:LS->OD:=λ_=>aa .non
nonrec def kI(i:Int):LS->OD:=λ_=>aa (.int i)
nonrec def kSt(x:Str):LS->OD:=λ_=>aa (.str x)
nonrec def kBl(b:Bool):LS->OD:=λ_=>aa (.bl b)
nonrec abbrev MF1:=LS->OD
nonrec abbrev MF2:=LS->OLD
nonrec abbrev MF4:=LS->Option Bool
abbrev Sl.isOwn:Sl->Bool
 |.own _=>ac
 |.ownd _ _=>ac
 |.obj _ _ _=>ac
 |.pin _ _=>ac
 |.pind _ _ _=>ac
 |.pino _ _ _ _=>ac
 | _=>af
abbrev Sl.calm:Sl->Bool
 |.no=>ac
 |.im _=>ac
 | _=>af
abbrev jt(G:Gc)(Hf H:Hp)(l:Addr):Sl->Prop
 |.own ds=>∃vs,H l=aa (.lst vs)/\ao G Hf ds vs
 |.ownd ks ds=>∃vs,H l=aa (.dK (ks.zip vs))/\Z ks=Z vs/\ao G Hf ds vs
 |.obj c ns ds=>∃dx vs,H l=aa (.ins (G.cl c) dx (ns.zip vs))/\Z ns=Z vs/\ao G Hf ds vs
 |.pin a ds=>l=a/\∃vs,H l=aa (.lst vs)/\ao G Hf ds vs
 |.pind a ks ds=>l=a/\∃vs,H l=aa (.dK (ks.zip vs))/\Z ks=Z vs/\ao G Hf ds vs
 |.pino a c ns ds=>l=a/\∃dx vs,H l=aa (.ins (G.cl c) dx (ns.zip vs))/\Z ns=Z vs/\ao G Hf ds vs
 | _=>False
variable{l:Addr}
def jt.there2{s:Sl}(h:jt G Hf H l s):∃o,H l=aa o/\iK o=af:=by
 cases s with
 |own ds=>have(vs,h,_):=h;show(_,h,rfl)
 |ownd ks ds=>have(vs,h,_):=h;show(_,h,rfl)
 |obj c ns ds=>have(dx,vs,h,_):=h;show(_,h,rfl)
 |pin a ds=>have(_,vs,h,_):=h;show(_,h,rfl)
 |pind a ks ds=>have(_,vs,h,_):=h;show(_,h,rfl)
 |pino a c ns ds=>have(_,dx,vs,h,_):=h;show(_,h,rfl)
 | _=>show h.elim
def jt.up{s:Sl}(h:jt G Hf H l s)(f:ar Hf Hf')(e:∀o,H l=aa o->H' l=aa o):jt G Hf' H' l s:=by
 cases s with
 |own ds=>have(vs,h,r):=h;show(vs,e _ h,r.up f)
 |ownd ks ds=>have(vs,h,z,r):=h;show(vs,e _ h,z,r.up f)
 |obj c ns ds=>have(dx,vs,h,z,r):=h;show(dx,vs,e _ h,z,r.up f)
 |pin a ds=>have(q,vs,h,r):=h;show(q,vs,e _ h,r.up f)
 |pind a ks ds=>have(q,vs,h,z,r):=h;show(q,vs,e _ h,z,r.up f)
 |pino a c ns ds=>have(q,dx,vs,h,z,r):=h;show(q,dx,vs,e _ h,z,r.up f)
 | _=>show h.elim
abbrev gO(G:Gc)(H0 Hf H:Hp)(v:Option V):Sl->Prop
 |.no=>True
 |.im d=>∃u,v=aa u/\Rep G Hf d u
 |.deep o=>∃u fp,v=aa u/\OT G Hf H o u fp/\fp.Nodup/\∀a∈fp,H0 a=ab/\Hf a=ab
 |.val u=>v=aa u
 |s=>∃l,v=aa (.ref l)/\H0 l=ab/\Hf l=ab/\jt G Hf H l s
variable{H0:Hp}
def gO.own{v:Option V}{s:Sl}(a:s.isOwn=ac)(h:gO G H0 Hf H v s):∃l,v=aa (.ref l)/\H0 l=ab/\Hf l=ab/\jt G Hf H l s:=by
 cases s <;> first |show h |cases a
def gO.ofOwn{v:Option V}{s:Sl}(a:s.isOwn=ac)(h:∃l,v=aa (.ref l)/\H0 l=ab/\Hf l=ab/\jt G Hf H l s):gO G H0 Hf H v s:=by
 cases s <;> first |show h |cases a
def Holds(G:Gc)(Hf H:Hp)(s:Sl)(v:V)(a:Addr):Prop:=match s with
 |.deep o=>∃fp,OT G Hf H o v fp/\a∈fp
 |s=>s.isOwn=ac/\v=.ref a
def Holds.own{s:Sl}(b:s.isOwn=ac):Holds G Hf H s v a↔v=.ref a:=by
 cases s <;> first |show(λh=>h.2,λh=>(rfl,h)) |nomatch b
def Holds.calm{s:Sl}(h:Holds G Hf H s v a)(b:s.calm=ac):False:=by
 cases s <;> first |show tN h.1 |nomatch b
def gO.back{s:Sl}(q:gO G H0 Hf H (aa v) s)(k:∀o fp,s=.deep o->OT G Hf H o v fp->OT G Hf' H' o v fp)(h:Holds G Hf' H' s v a):Holds G Hf H s v a:=by
 cases s with
 |deep o=>
  have(u,fp,e,r,_):=q;cases e;have(fp',b,ha):=h;have:=OT.funM o v fp fp' (k o fp rfl r) b;subst this
  show(fp,r,ha)
 | _=>show h
def gO.there{s:Sl}(q:gO G H0 Hf H (aa v) s)(h:Holds G Hf H s v a):∃o,H a=aa o/\iK o=af:=by
 cases b:s.isOwn with
 |true=>
  have(l,e,_,_,c):=q.own b;cases e;cases ((Holds.own b).mp h)
  show c.there2
 |false=>
  cases s with
  |deep o=>
   have(fp,r,ha):=h
   show OT.memM o v fp r a ha
  | _=>first |show tN h.1 |nomatch b
structure au(G:Gc)(Hf0 H0 Hf H:Hp)(C:St)(M:LS):Prop where
 ext:Ext Hf0 H0 Hf H
 len:Z C=Z M
 at':∀(i:Nat) (v:Option V) (s:Sl),C[i]?=aa v->M[i]?=aa s->gO G H0 Hf H v s
 dj:∀(i j:Nat) (s t:Sl) (v w:V) (a:Addr),M[i]?=aa s->M[j]?=aa t->C[i]?=aa (aa v)->C[j]?=aa (aa w)->Holds G Hf H s v a->Holds G Hf H t w a->i=j
variable{Hf0:Hp}{M:LS}
def au.sub(h:au G Hf0 H0 Hf H C M):ar Hf H:=h.ext.s
def au.inj(h:au G Hf0 H0 Hf H C M)(i j:Nat)(s t:Sl)(l:Addr)(a:M[i]?=aa s)(b:M[j]?=aa t)(e:s.isOwn=ac)(f:t.isOwn=ac)(c:C[i]?=aa (aa (.ref l)))(d:C[j]?=aa (aa (.ref l))):i=j:=
 h.dj i j s t _ _ l a b c d ((Holds.own e).mpr rfl) ((Holds.own f).mpr rfl)
variable{ρ':LS}
def au.re{d g:Hp}(h:au G Hf0 H0 Hf H C M)(x:Ext d g Hf' H')(l:Z ρ'=Z M)(ha:∀(i:Nat) (v:Option V) (s:Sl),C[i]?=aa v->ρ'[i]?=aa s->gO G g Hf' H' v s)
 (hd:∀(i:Nat) (s:Sl) (v:V) (a:Addr),ρ'[i]?=aa s->C[i]?=aa (aa v)->Holds G Hf' H' s v a->∃t,M[i]?=aa t/\Holds G Hf H t v a):au G d g Hf' H' C ρ':=
 (x,h.len.trans l.symm,ha,λi j s t v w a b c e f p q=>by
  have(r,b0,m):=hd i s v a b e p;have(t0,c0,n):=hd j t w a c f q;show h.dj i j r t0 v w a b0 c0 e f m n)
def au.step(h:au G Hf0 H0 Hf H C M)(e:Ext Hf H Hf' H'):au G Hf0 H0 Hf' H' C M:=by
 show h.re (h.ext.trans e) rfl (λi v s a b=>?_) λi s v a b c d=>(s,b,(h.at' i _ s c b).back (λo fp _ r=>r.up e.f e.h) d);have q:=h.at' i v s a b
 cases m:s.isOwn with
 |true=>
  have(l,g,x,y,w):=q.own m;have(o,j,p):=w.there2
  show .ofOwn m (l,g,x,by rw[e.n l o j p];show y,w.up e.f λo j=>e.h _ _ j)
 |false=>
  cases s with
  |no=>trivial
  |im d=>have(u,g,r):=q;show(u,g,r.up e.f)
  |val u=>show q
  |deep o=>
   have(u,fp,g,r,n,z):=q;show(u,fp,g,r.up e.f e.h,n,λa ha=>((z a ha).1,?_));have(A,j,p):=OT.memM o u fp r a ha;rw[e.n a A j p]
   show(z a ha).2
  | _=>nomatch m
def au.slot{s:Sl}(h:au G Hf0 H0 Hf H C M)(e:M[i]?=aa s):∃v,C[i]?=aa v/\gO G H0 Hf H v s:=by
 have hi:i<Z C:=by rw[h.len];show(cM.mp e).1
 show(C[i],by simp[hi],h.at' i _ s (by simp[hi]) e)
def au.imm(h:au G Hf0 H0 Hf H C M)(e:M[i]?=aa (.im d)):∃v,C[i]?=aa (aa v)/\Rep G Hf d v:=by
 have(v,a,u,b,r):=h.slot e;subst b;show(u,a,r)
def au.ownAt{s:Sl}(c:s.isOwn=ac)(h:au G Hf0 H0 Hf H C M)(e:M[i]?=aa s):∃l,C[i]?=aa (aa (.ref l))/\H0 l=ab/\Hf l=ab/\jt G Hf H l s:=by
 have(v,a,q):=h.slot e;have(l,b,d):=q.own c;rw[b]at a;show(l,a,d)
variable{j:Nat}
def cU{b:Type}{l:List b}{x y:b}(h:(l.set i x)[j]?=aa y):(j=i/\y=x/\i<Z l)\/(j≠i/\l[j]?=aa y):=by
 by_cases a:j=i
 .subst a;left;have hi:j<Z l:=by have:=(cM.mp h).1;simpa using this
  rw[kf hi]at h;show(rfl,(du h).symm,hi)
 .right;rw[lg (eV a)]at h;show(a,h)
def au.setIm(h:au G Hf0 H0 Hf H C M)(r:Rep G Hf d v):au G Hf0 H0 Hf H (C.set i (aa v)) (M.set i (.im d)):=by
 show(h.ext,by simpa using h.len,λj u s a b=>?_,λj k s t u w l a b c d' p q=>?_)
 .rcases cU b with⟨e,e',_⟩ |⟨e,b⟩
  .subst e e'
   rcases cU a with⟨_,e',_⟩ |⟨e,_⟩
   .subst e';show(v,rfl,r)
   .show absurd rfl e
  .rcases cU a with⟨e',_⟩ |⟨_,a⟩
   .show absurd e' e
   .show h.at' j u s a b
 .rcases cU a with⟨e,e',_⟩ |⟨e,a⟩
  .subst e';show(p.calm rfl).elim
  .rcases cU b with⟨f,e',_⟩ |⟨f,b⟩
   .subst e';show(q.calm rfl).elim
   .rcases cU c with⟨e',_⟩ |⟨_,c⟩
    .show absurd e' e
    .rcases cU d' with⟨e',_⟩ |⟨_,d'⟩
     .show absurd e' f
     .show h.dj j k s t u w l a b c d' p q
def au.setNo(h:au G Hf0 H0 Hf H C M):au G Hf0 H0 Hf H C (M.set i .no):=by
 show h.re h.ext (by simp) (λj u s a b=>?_) λj s v a b c d=>?_
 .rcases cU b with⟨e,e',_⟩ |⟨e,b⟩
  .subst e';trivial
  .show h.at' j u s a b
 .rcases cU b with⟨e,e',_⟩ |⟨e,b⟩
  .subst e';show(d.calm rfl).elim
  .show(s,b,d)
variable{u:V}
def au.setNew{s:Sl}(h:au G Hf0 H0 Hf H C M)(e:Ext Hf H Hf' H')(n:gO G H0 Hf' H' (aa u) s)(hn:∀a,Holds G Hf' H' s u a->H a=ab):
  au G Hf0 H0 Hf' H' (C.set i (aa u)) (M.set i s):=by
 have h':=h.step e
 have no:∀j t w a,M[j]?=aa t->C[j]?=aa _->Holds G Hf' H' t w a->Holds G Hf' H' s u a->False:=λj t w a b c p q=>by
  have(o,n,_):=(h.at' j _ t c b).there ((h.at' j _ t c b).back (λo fp _ r=>r.up e.f e.h) p);rw[hn a q]at n;nomatch n
 show(h'.ext,by simpa using h.len,λj w t a b=>?_,λj k t t' v w l a b c d' p q=>?_)
 .rcases cU b with⟨e,e',_⟩ |⟨e,b⟩
  .subst e e'
   rcases cU a with⟨_,e',_⟩ |⟨e,_⟩
   .subst e';show n
   .show absurd rfl e
  .rcases cU a with⟨e',_⟩ |⟨_,a⟩
   .show absurd e' e
   .show h'.at' j w t a b
 .rcases cU a with⟨m,x,_⟩ |⟨m,a⟩
  .rcases cU b with⟨d,g,_⟩ |⟨d,b⟩
   .rw[m,d]
   .rcases cU c with⟨_,e',_⟩ |⟨e',_⟩
    .cases e';rw[x]at p
     rcases cU d' with⟨e',_⟩ |⟨_,d'⟩
     .show absurd e' d
     .show(no k t' w l b d' q p).elim
    .show absurd m e'
  .rcases cU c with⟨e',_⟩ |⟨_,c⟩
   .show absurd e' m
   .rcases cU b with⟨d,g,_⟩ |⟨d,b⟩
    .rcases cU d' with⟨_,e',_⟩ |⟨e',_⟩
     .cases e';rw[g]at q;show(no j t v l a c p q).elim
     .show absurd d e'
    .rcases cU d' with⟨e',_⟩ |⟨_,d'⟩
     .show absurd e' d
     .show h'.dj j k t t' v w l a b c d' p q
def au.setOwn{s:Sl}(b:s.isOwn=ac)(h:au G Hf0 H0 Hf H C M)(e:Ext Hf H Hf' H')(hn:H l=ab)(c:Hf' l=ab)(d:jt G Hf' H' l s):
  au G Hf0 H0 Hf' H' (C.set i (aa (.ref l))) (M.set i s):=
 h.setNew e (.ofOwn b (l,rfl,h.ext.h.free hn,c,d)) λa p=>by cases (Holds.own b).mp p;show hn
def au.chg{s s':Sl}(h:au G Hf0 H0 Hf H C M)(e:M[i]?=aa s)(el:C[i]?=aa (aa v))(k:∀b u,H b=aa u->Holds G Hf H s v b\/H' b=aa u)(ho:gO G H0 Hf H' (aa v) s')
 (hh:∀a,Holds G Hf H' s' v a->Holds G Hf H s v a\/∀(j:Nat) (t:Sl) (w:V),M[j]?=aa t->C[j]?=aa (aa w)->Holds G Hf H t w a->False):au G Hf0 H0 Hf H' C (M.set i s'):=by
 have q:=h.at' i _ s el e
 have m:∀b,Holds G Hf H s v b->H0 b=ab/\Hf b=ab:=λb p=>by
  cases hs:s.isOwn with
  |true=>
   have(l,J,h0,hf,_):=q.own hs;have A:=(Holds.own hs).mp p;cases J;cases A
   show(h0,hf)
  |false=>
   cases s with
   |deep o=>
    have(u,fp,J,r,n,z):=q;cases J;have(fp',r',ha):=p;have:=OT.funM o v fp fp' r r';subst this
    show z b ha
   | _=>first |show tN p.1 |nomatch hs
 have fr:∀j t w,j≠i->M[j]?=aa t->C[j]?=aa (aa w)->∀o fp,t=.deep o->OT G Hf H o w fp->OT G Hf H' o w fp:=λj t w hj b c o fp et r=>by
  subst et;show r.frame (ar.refl _) λx u hx hm=>?_
  rcases k x u hx with z |z
  .rcases hm with hm |hm
   .have(o',g,L):=q.there z;rw[hx]at g;cases g;rw[hm]at L
    nomatch L
   .show absurd (h.dj j i _ s w v x b e c el (fp,r,hm) z) hj
  .show z
 show((h.ext.f,λb u e=>?_,λb u e=>?_,h.ext.n),by simpa using h.len,λj u t a b=>?_,λj T t t' w Y a b c b' N p p'=>?_)
 .rcases k b u (h.ext.h b u e)with z |z
  .rw[(m b z).1]at e;nomatch e
  .show z
 .rcases k b u (h.ext.s b u e)with z |z
  .rw[(m b z).2]at e;nomatch e
  .show z
 .rcases cU b with⟨e',A,_⟩ |⟨en,b⟩
  .subst e' A;rw[el]at a;cases a;show ho
  .have U:=h.at' j u t a b
   cases Q:t.isOwn with
   |false=>
    cases t with
    |no=>trivial
    |im d=>show U
    |val u=>show U
    |deep o=>
     have(w,fp,J,r,n,z):=U;subst J
     show(w,fp,rfl,fr j _ w en b a o fp rfl r,n,z)
    | _=>nomatch Q
   |true=>
    have(l2,A,e3,e4,q2):=U.own Q;subst A;show .ofOwn Q (l2,rfl,e3,e4,q2.up (ar.refl _) λo' g=>?_)
    rcases k l2 o' g with z |z
    .show absurd (h.dj j i t s _ v l2 b e a el ((Holds.own Q).mpr rfl) z) en
    .show z
 .have B:∀j t w,_[j]?=aa t->C[j]?=aa (aa w)->Holds G Hf H' t w a->(j=i/\∀j t w,M[j]?=aa t->C[j]?=aa (aa w)->Holds G Hf H t w a->False)\/∃t0,M[j]?=aa t0/\Holds G Hf H t0 w a:=λj t w b y p=>by
   rcases cU b with⟨e',A,_⟩ |⟨en,b⟩
   .rw[A]at p;rw[e',el]at y;cases y;rw[e']
    rcases hh a p with z |z
    .show .inr (s,e,z)
    .show .inl (rfl,z)
   .show .inr (t,b,(h.at' j _ t y b).back (fr j t w en b y) p)
  rcases B j t w b b' p with⟨z1,z2⟩ |⟨t0,z1,z2⟩
  .rcases B T t' Y c N p' with⟨E,I⟩ |⟨t1,E,I⟩
   .rw[z1,E]
   .show(z2 T t1 Y E N I).elim
  .rcases B T t' Y c N p' with⟨E,I⟩ |⟨t1,E,I⟩
   .show(I j t0 w z1 b' z2).elim
   .show h.dj j T t0 t1 w Y a z1 E b' N z2 I
def au.chgX{s l:Sl}(h:au G Hf0 H0 Hf H C M)(x:Ext Hf H Hf' H1)(e:M[i]?=aa s)(el:C[i]?=aa (aa v))(k:∀b u,H1 b=aa u->Holds G Hf H s v b\/H' b=aa u)(d:gO G H0 Hf' H' (aa v) l)
 (m:∀a,Holds G Hf' H' l v a->Holds G Hf H s v a\/H a=ab):au G Hf0 H0 Hf' H' C (M.set i l):=by
 have up:∀b,Holds G Hf H s v b->Holds G Hf' H1 s v b:=λb p=>by
  cases s with
  |deep o=>have(fp,r,g):=p;show(fp,r.up x.f x.h,g)
  | _=>show p
 show(h.step x).chg e el (λb u g=>(k b u g).imp_left (up b)) d λa p=>?_
 rcases m a p with z |z
 .show .inl (up a z)
 .show .inr λj t w b c q=>?_;have(o,d,_):=(h.at' j _ t c b).there ((h.at' j _ t c b).back (λo fp _ r=>r.up x.f x.h) q);rw[z]at d
  nomatch d
def au.mutd{s f:Sl}{o:HO}(d:s.isOwn=ac)(c:f.isOwn=ac)(h:au G Hf0 H0 Hf H C M)(e:M[i]?=aa s)(el:C[i]?=aa (aa (.ref l)))(v:jt G Hf (upd H l o) l f):
  au G Hf0 H0 Hf (upd H l o) C (M.set i f):=by
 have(w,g,m,r,q):=h.ownAt d e;rw[el]at g;cases g;show h.chg e el (λb u n=>?_) (.ofOwn c (l,rfl,m,r,v)) λa p=>.inl ((Holds.own d).mpr ((Holds.own c).mp p))
 by_cases j:b=l
 .subst j;show .inl ((Holds.own d).mpr rfl)
 .show .inr (by rw[aN j];show n)
def au.fixd{s:Sl}{o:HO}(B:s.isOwn=ac)(h:au G Hf0 H0 Hf H C M)(e:M[i]?=aa s)(el:C[i]?=aa (aa (.ref l)))(U:H l=aa o)(hr:Rep G (upd Hf l o) d (.ref l)):
  au G Hf0 H0 (upd Hf l o) H C (M.set i (.im d)):=by
 have(l',f,T,g,q):=h.ownAt B e;rw[el]at f;cases f;show h.re (h.ext.fix T g U) (by simp) (λj u t a b=>?_) λj t v a b c p=>?_
 .rcases cU b with⟨e,e',_⟩ |⟨en,b⟩
  .subst e e';rw[el]at a;cases a;show(_,rfl,hr)
  .have q:=h.at' j u t a b
   cases m:t.isOwn with
   |false=>
    cases t with
    |no=>trivial
    |im d=>have(J,f,r):=q;show(J,f,r.up (bQ g))
    |val J=>show q
    |deep o=>
     have(w,fp,f,r,n,z):=q;subst f;show(w,fp,rfl,r.up (bQ g) (ar.refl _),n,λx E=>((z x E).1,?_));rw[aN (λy=>?_)]
     .show(z x E).2
     .subst y
      show en (h.dj j i _ s w _ x b e a el (fp,r,E) ((Holds.own B).mpr rfl))
    | _=>nomatch m
   |true=>
    have(I,L,N,Q,Y):=q.own m;subst L;show .ofOwn m (I,rfl,N,?_,Y.up (bQ g) λo' A=>A);rw[aN (λz=>?_)]
    .show Q
    .subst z;show en (h.inj j i t s I b e m B a el)
 .rcases cU b with⟨_,e',_⟩ |⟨_,b⟩
  .subst e';show(p.calm rfl).elim
  .show(t,b,(h.at' j _ t c b).back (λo fp _ r=>r.up (bQ g) (ar.refl _)) p)
def PE.imp{t':TE}(h:PE X e t)(i:∀C H Q,t' C H Q->t C H Q):PE X e t':=λU s C H Q I q=>h U s C H Q I (i C H Q q)
variable{t':TT}
def PT.imp{t:TT}(h:PT X e t)(i:∀C H Q,t' C H Q->t C H Q):PT X e t':=λU s C H Q I q=>h U s C H Q I (i C H Q q)
def PW.imp{t:TT}(h:PW X e t)(i:∀C H Q,t' C H Q->t C H Q):PW X e t':=λwh U s C H Q I q=>h wh U s C H Q I (i C H Q q)
variable{es:LEx}
def PA.imp{t t':TA}(h:PA X es t)(i:∀C H Q,t' C H Q->t C H Q):PA X es t':=λpos U s C H Q I q=>h pos U s C H Q I (i C H Q q)
def PS.imp{st:Stmt}{t t':TS}(h:PS X st t)(i:∀W7 C H,t' W7 C H->t W7 C H):PS X st t':=λU s C H W7 I q=>h U s C H W7 I (i W7 C H q)
def PSs.imp{st:List Stmt}{t t':TS}(h:PSs X st t)(i:∀W7 C H,t' W7 C H->t W7 C H):PSs X st t':=λU s C H W7 I q=>h U s C H W7 I (i W7 C H q)
def PG.imp{t t':TG}(h:PG X e t)(i:∀v C H Q,t' v C H Q->t v C H Q):PG X e t':=λU s C H v u Q I r q=>h U s C H v u Q I r (i v C H Q q)
def PGs.imp{t t':TGs}(h:PGs X es t)(i:∀v C H Q,t' v C H Q->t v C H Q):PGs X es t':=λU s C H v u Q I r q=>h U s C H v u Q I r (i v C H Q q)
def PI.imp{t t':TI}(h:PI X tg e t)(i:∀C H R,t' C H R->t C H R):PI X tg e t':=λU s C H R I q=>h U s C H R I (i C H R q)
def PTs.imp{t:TT}(h:PTs X c3 t)(i:∀C H Q,t' C H Q->t C H Q):PTs X c3 t':=λU s C H Q I q=>h U s C H Q I (i C H Q q)
def OpR.imp{f:Value->Value->Sem Value}{r a:R2}(h:OpR X f r)(i:∀x y H Q,a x y H Q->r x y H Q):OpR X f a:=λU s C H x y v u Q I rx b q=>h U s C H x y v u Q I rx b (i x y H Q q)
def iI.imp{f:Value}{r a:LVv->Hp->VK->Prop}(h:iI X f r)(i:∀E H Q,a E H Q->r E H Q):iI X f a:=λU s C H E us Q I rx q=>h U s C H E us Q I rx (i E H Q q)
nonrec def Gx(c:Str->Addr)(X:Cx):Gc:=(X.K,c)
inductive tD(G:Gc)(f:MF1)(C:St)(H:Hp)(Q:VK):Prop
 |mk:∀Hf0 H0 Hf M d,au G Hf0 H0 Hf H C M->f M=aa d->(∀v Hf' H',Ext Hf H Hf' H'->Rep G Hf' d v->Q v H')->tD G f C H Q
inductive tDB(G:Gc)(f:MF1)(C:St)(H:Hp)(Q:VK):Prop
 |mk:∀Hf0 H0 Hf M d,au G Hf0 H0 Hf H C M->f M=aa d->(∀v Hf' H',Ext Hf H Hf' H'->Rep G H' d v->Q v H')->tDB G f C H Q
inductive tDC(G:Gc)(f:MF2)(C:St)(H:Hp)(Q:VK):Prop
 |mk:∀Hf0 H0 Hf M ds,au G Hf0 H0 Hf H C M->f M=aa ds->(∀a vs Hf' H',Ext Hf H Hf' H'->(SqL G.K H' a vs\/SqT G.K H' a vs)->ao G Hf' ds vs->Q (.ref a) H')->tDC G f C H Q
inductive tDO(G:Gc)(f:MF2)(C:St)(H:Hp)(Q:VK):Prop
 |mk:∀Hf0 H0 Hf M ds,au G Hf0 H0 Hf H C M->f M=aa ds->(∀l vs Hf' H',Ext Hf H Hf' H'->H l=ab->Hf' l=ab->H' l=aa (.lst vs)->ao G Hf' ds vs->Q (.ref l) H')->tDO G f C H Q
inductive tDA(G:Gc)(f:MF2)(C:St)(H:Hp)(Q:LVv->Hp->Prop):Prop
 |mk:∀Hf0 H0 Hf M ds,au G Hf0 H0 Hf H C M->f M=aa ds->(∀vs Hf' H',Ext Hf H Hf' H'->ao G Hf' ds vs->Q vs H')->tDA G f C H Q
inductive FO(G:Gc)(f:MF2)(C:St)(H:Hp)(Q:LVv->Hp->Prop):Prop
 |mk:∀Hf0 H0 Hf M ds,au G Hf0 H0 Hf H C M->f M=aa ds->(∀vs Hf' H',Ext Hf H Hf' H'->ao G H' ds vs->Q vs H')->FO G f C H Q
inductive tDT(G:Gc)(f:MF4)(C:St)(H:Hp)(Q:Bool->Hp->Prop):Prop
 |mk:∀Hf0 H0 Hf M b,au G Hf0 H0 Hf H C M->f M=aa b->(∀Hf' H',Ext Hf H Hf' H'->Q b H')->tDT G f C H Q
def DE(c:Str->Addr)(X:Cx)(e:Expr)(f:MF1):Prop:=PE X e (tD (Gx c X) f)
def DB(c:Str->Addr)(X:Cx)(e:Expr)(f:MF1):Prop:=PE X e (tDB (Gx c X) f)
def DC(c:Str->Addr)(X:Cx)(e:Expr)(f:MF2):Prop:=PE X e (tDC (Gx c X) f)
def DO(c:Str->Addr)(X:Cx)(e:Expr)(f:MF2):Prop:=PE X e (tDO (Gx c X) f)
structure DA(c:Str->Addr)(X:Cx)(es:LEx)(f:MF2):Prop where
 pa:PA X es (tDA (Gx c X) f)
 len:∀M ds,f M=aa ds->Z ds=Z es
structure DAB(c:Str->Addr)(X:Cx)(es:LEx)(f:MF2):Prop where
 pa:PA X es (FO (Gx c X) f)
 len:∀M ds,f M=aa ds->Z ds=Z es
def DT(c:Str->Addr)(X:Cx)(e:Expr)(f:MF4):Prop:=PT X e (tDT (Gx c X) f)
def DW(c:Str->Addr)(X:Cx)(e:Expr)(f:MF4):Prop:=PW X e (tDT (Gx c X) f)
abbrev D.scalar:D->Bool
 |.non=>ac
 |.bl _=>ac
 |.int _=>ac
 |.str _=>ac
 | _=>af
def Rep.sc(a:d.scalar=ac)(r:Rep G H d v):Rep G H' d v:=by
 cases d <;> first |show r |cases a
abbrev iL:D->OLD
 |.lst E=>aa E
 |.tup E=>aa E
 |.kl E=>aa E
 |.kt E=>aa E
 | _=>ab
def rp(e:iL d=aa ds)(r:Rep G H d v):∃a vs,v=.ref a/\(SqL G.K H a vs\/SqT G.K H a vs)/\ao G H ds vs:=by
 cases d with
 |lst E=>cases e;have(a,vs,b,q,r):=r;show(a,vs,b,.inl (SqL.of q),r)
 |tup E=>cases e;have(a,vs,b,q,r):=r;show(a,vs,b,.inr (SqT.of q),r)
 |kl E=>cases e;have(a,vs,b,q,r):=r;show(a,vs,b,.inl q,r)
 |kt E=>cases e;have(a,vs,b,q,r):=r;show(a,vs,b,.inr q,r)
 | _=>nomatch e
def yG(s:ar H H')(h:SqL K H a vs\/SqT K H a vs):SqL K H' a vs\/SqT K H' a vs:=h.imp s.seq s.tup
def aI(f:MF2)(M:LS):OD:=(f M).map .lst
def bn(f:MF2)(M:LS):OD:=(f M).map .tup
def aS(f:MF1)(M:LS):OLD:=(f M).bind iL
def bf(f g:MF1)(M:LS):OD:=(f M).or (g M)
variable{c:Str->Addr}{f:MF1}
def DE.db(h:DE c X e f):DB c X e f:=PE.imp h λC H Q b=>by
 have(Hf0,H0,Hf,M,d,st,a,k):=b;show((Hf0,H0,Hf,M,d,st,a,λv Hf' H' x r=>k v Hf' H' x (r.up x.s)))
def DE.dc(h:DE c X e f):DC c X e (aS f):=PE.imp h λC H Q j=>by
 have(Hf0,H0,Hf,M,ds,st,b,k):=j;unfold aS at b
 cases g:f M with
 |none=>rw[g]at b;nomatch b
 |some d=>
  rw[g]at b;show(Hf0,H0,Hf,M,d,st,g,λv Hf' H' x r=>?_);have(a,vs,i,q,B):=rp b r;subst i;show k a vs Hf' H' x (yG x.s q) B
def DO.de{f:MF2}(h:DO c X e f):DE c X e (aI f):=PE.imp h λC H Q j=>by
 have(Hf0,H0,Hf,M,d,st,a,k):=j;unfold aI at a
 cases b:f M with
 |none=>rw[b]at a;nomatch a
 |some ds=>
  rw[b]at a;have a:=du a;subst a;show(Hf0,H0,Hf,M,ds,st,b,λl vs Hf' H' x hn g i r=>k _ _ H' (x.fix hn g i) (l,vs,rfl,ba,r.up (bQ g)))
def DO.dc{f:MF2}(h:DO c X e f):DC c X e f:=PE.imp h λC H Q d=>by
 have (Hf0,H0,Hf,M,ds,st,a,k):=d;show (
 (Hf0,H0,Hf,M,ds,st,a,λl vs Hf' H' x hn g b r=>k l vs Hf' H' x (.inl (SqL.of b)) r))
def DE.orE{g:MF1}(h:DE c X e f)(h':DE c X e g):DE c X e (bf f g):=λU s C H Q I i=>by
 have(Hf0,H0,Hf,M,d,st,a,k):=i;unfold bf at a
 cases b:f M with
 |some d'=>
  rw[b]at a;cases a
  show h U s C H Q I (Hf0,H0,Hf,M,_,st,b,k)
 |none=>
  rw[b]at a;show h' U s C H Q I (Hf0,H0,Hf,M,d,st,a,k)
def ae(i:Nat)(M:LS):OD:=match M[i]? with
 |some (.im d)=>aa d
 | _=>ab
def cZ(i:Nat)(M:LS):OD:=match M[i]? with
 |some (.im d)=>aa d
 |some (.own E)=>aa (.lst E)
 |some (.ownd ks E)=>aa (.dic ks E)
 |some (.deep o)=>if o.kn then aa o.toD else ab
 | _=>ab
def ax(i:Nat)(M:LS):OLD:=match M[i]? with
 |some (.im d)=>iL d
 |some (.own E)=>aa E
 | _=>ab
def FP(h:ae i M=aa d):M[i]?=aa (.im d):=by
 unfold ae at h
 grind
def FQ(h:PE X e (cT i)):DE c X e (ae i):=PE.imp h λC H Q f=>by
 have(Hf0,H0,Hf,M,d,st,b,k):=f;have(v,a,r):=st.imm (FP b);show(v,a,k v Hf H (Ext.refl st.sub) r)
def FR(h:PE X e (cT i)):DC c X e (ax i):=PE.imp h λC H Q j=>by
 have(Hf0,H0,Hf,M,ds,st,b,k):=j;unfold ax at b
 cases es:M[i]? with
 |none=>rw[es]at b;nomatch b
 |some s=>
  rw[es]at b
  cases s with
  |im d=>
   have(v,f,r):=st.imm es;have(a,vs,g,q,B):=rp b r;subst g
   show(_,f,k a vs Hf H (Ext.refl st.sub) (yG st.sub q) B)
  |own E=>
   cases b;have(l,f,_,_,vs,q,r):=st.ownAt rfl es
   show(_,f,k l vs Hf H (Ext.refl st.sub) (.inl (SqL.of q)) r)
  | _=>nomatch b
def FS(h:PE X e (cT i)):DB c X e (cZ i):=PE.imp h λC H Q j=>by
 have(Hf0,H0,Hf,M,d,st,a,k):=j;unfold cZ at a
 cases es:M[i]? with
 |none=>simp only[es]at a;nomatch a
 |some s=>
  rw[es]at a
  cases s with
  |im d=>
   cases a;have(v,b,r):=st.imm es
   show(_,b,k v Hf H (Ext.refl st.sub) (r.up st.sub))
  |own E=>
   cases a;have(l,b,_,_,vs,q,r):=st.ownAt rfl es
   show(_,b,k _ Hf H (Ext.refl st.sub) (l,vs,rfl,q,r.up st.sub))
  |ownd ks E=>
   cases a;have(l,b,_,_,vs,q,z,r):=st.ownAt rfl es
   show(_,b,k _ Hf H (Ext.refl st.sub) (l,vs,rfl,q,z,r.up st.sub))
  |deep o=>
   replace a:(if o.kn=ac then aa o.toD else ab)=aa d:=a;split at a
   .rename_i g;cases a;have(v,b,u,fp,f,r,_):=st.slot es;subst f;show(_,b,k _ Hf H (Ext.refl st.sub) (r.rep st.sub g))
   .nomatch a
  | _=>nomatch a
def uM(h:PE X e (tC v))(r:∀G H,Rep G H d v):DE c X e (λ_=>aa d):=PE.imp h λC H Q b=>by
 have(Hf0,H0,Hf,M,d',st,a,k):=b;cases a;show k v Hf H (Ext.refl st.sub) (r _ _)
def lI{i:Int}{j}:DE c X (.Constant (.int i) j pos) (λ_=>aa (.int i)):=uM ER λ_ _=>rfl
def FT{i:Bool}{j}:DE c X (.Constant (.bool i) j pos) (λ_=>aa (.bl i)):=uM Lf λ_ _=>rfl
def NT{j}:DE c X (.Constant .none j pos) kN:=uM Lg λ_ _=>rfl
def NU{i:Str}{j}:DE c X (.Constant (.str i) j pos) (λ_=>aa (.str i)):=uM Lh λ_ _=>rfl
def dv(i:Nat)(b:autoParam (X.N[i]?=aa x) Zb)(hv:autoParam (Vis X.env.scope x) Ze)(hd:autoParam (NDb x) Zc)
 (a:autoParam (NCd x) Zc):DE c X (.Name x pos) (ae i):=FQ (mQ b hv hd a)
def dvC(i:Nat)(b:autoParam (X.N[i]?=aa x) Zb)(hv:autoParam (Vis X.env.scope x) Ze)(hd:autoParam (NDb x) Zc)
 (a:autoParam (NCd x) Zc):DC c X (.Name x pos) (ax i):=FR (mQ b hv hd a)
def dvB(i:Nat)(b:autoParam (X.N[i]?=aa x) Zb)(hv:autoParam (Vis X.env.scope x) Ze)(hd:autoParam (NDb x) Zc)
 (a:autoParam (NCd x) Zc):DB c X (.Name x pos) (cZ i):=FS (mQ b hv hd a)
def ag(f:MF1)(g:MF2)(M:LS):OLD:=(f M).bind λd=>(g M).map λds=>d::ds
variable{g:MF2}
def uN(h:ag f g M=aa ds):∃d r,f M=aa d/\g M=aa r/\ds=d::r:=by
 unfold ag at h
 cases a:f M with
 |none=>rw[a]at h;nomatch h
 |some d=>
  cases b:g M with
  |none=>rw[a,b]at h;nomatch h
  |some r=>rw[a,b]at h;cases h;show(d,r,rfl,rfl,rfl)
def yH:DA c X [] nZ:=(PA.imp dY λC H Q b=>by have(Hf0,H0,Hf,M,ds,st,a,k):=b;cases a;show k [] Hf H (Ext.refl st.sub) rfl,λM ds h=>by cases h;rfl)
def iM(ha:DE c X e f)(hr:DA c X es g)(m:autoParam (StE X e es) Zb):DA c X (e::es) (ag f g):=by
 show(PA.imp (eG ha hr.pa m) λC H Q n=>?_,λM ds h=>?_)
 .have(Hf0,H0,Hf,M,ds,st,l,k):=n;have(d,r,b,a,rfl):=uN l;show(Hf0,H0,Hf,M,d,st,b,λv b3 H1 i p=>(Hf0,H0,b3,M,r,st.step i,a,λvs bm H2 j q=>k _ bm H2 (i.trans j) (.cons (p.up j.f) q)))
 .have(d,r,b,a,rfl):=uN h;simp[hr.len M r a]
def yI:DAB c X [] nZ:=(PA.imp dY λC H Q b=>by have(Hf0,H0,Hf,M,ds,st,a,k):=b;cases a;show k [] Hf H (Ext.refl st.sub) rfl,λM ds h=>by cases h;rfl)
def mZ(ha:DB c X e f)(hr:DAB c X es g)(m:autoParam (StE X e es) Zb):DAB c X (e::es) (ag f g):=by
 show(PA.imp (eG ha hr.pa m) λC H Q n=>?_,λM ds h=>?_)
 .have(Hf0,H0,Hf,M,ds,st,l,k):=n;have(d,r,b,a,rfl):=uN l;show(Hf0,H0,Hf,M,d,st,b,λv b3 H1 i p=>(Hf0,H0,b3,M,r,st.step i,a,λvs bm H2 j q=>k _ bm H2 (i.trans j) (.cons (p.up j.h) q)))
 .have(d,r,b,a,rfl):=uN h;simp[hr.len M r a]
def NV{f:MF2}(h:DA c X es f)(hz:autoParam (Z es<=1000) Zn):DO c X (.List es pos) f:=PE.imp (uC h.pa) λC H Q d=>by
 have (Hf0,H0,Hf,M,ds,st,b,k):=d;show (
 (Hf0,H0,Hf,M,ds,st,b,λvs Hf' H' x r=>(by
  rw[<- r.length,h.len M ds b];show fH (Fz hz),λp a=>k p vs Hf' _ (x.trans (Ext.tmp x.s a)) (x.h.free a) (x.s.free a) ba r)))
def FU{f:MF2}{g:Nat}(h:DA c X es f)(hz:autoParam (Z es<=1000) Zn):DE c X (.Tuple es g pos) (bn f):=PE.imp (MQ h.pa) λC H Q i=>by
 have(Hf0,H0,Hf,M,d,st,a,k):=i;unfold bn at a
 cases b:f M with
 |none=>rw[b]at a;nomatch a
 |some ds=>
  rw[b]at a;have a:=du a;subst a
  show(Hf0,H0,Hf,M,ds,st,b,λvs Hf' H' x r=>(by
   rw[<- r.length,h.len M ds b];show fH (Fz hz),λp e=>k _ _ _ (x.trans (Ext.new x.s e)) (p,vs,rfl,ba,r.up (bQ (x.s.free e)))))
def rD(G:Gc)(m:D->D->OD):R2:=λa b H Q=>∃Hf x y d,ar Hf H/\Rep G Hf x a/\Rep G Hf y b/\m x y=aa d/\∀v Hf' H',Ext Hf H Hf' H'->Rep G Hf' d v->Q v H'
nonrec abbrev OpD(c:Str->Addr)(X:Cx)(f:Value->Value->Sem Value)(m:D->D->OD):Prop:=OpR X f (rD (Gx c X) m)
def m2(m:D->D->OD)(f g:MF1)(M:LS):OD:=(f M).bind λx=>(g M).bind λy=>m x y
variable{m:D->D->OD}{g:MF1}
def m6(h:m2 m f g M=aa d):∃x y,f M=aa x/\g M=aa y/\m x y=aa d:=by
 unfold m2 at h
 cases a:f M with
 |none=>rw[a]at h;nomatch h
 |some x=>
  cases b:g M with
  |none=>rw[a,b]at h;nomatch h
  |some y=>rw[a,b]at h;show(x,y,rfl,rfl,h)
variable{r:R2}
def two(hr:∀x y H Q,rD (Gx c X) m x y H Q->r x y H Q)(h:tD (Gx c X) (m2 m f g) C H Q):tOp r (tD (Gx c X) f) (tD (Gx c X) g) C H Q:=by
 have(Hf0,H0,Hf,M,d,st,p,k):=h;have(x,y,j,l,n):=m6 p;show(Hf0,H0,Hf,M,x,st,j,λv b3 H1 e q=>(Hf0,H0,b3,M,y,st.step e,l,λu bm H2 b z=>hr _ _ _ _ (bm,x,y,d,b.s,q.up b.f,z,n,λw a i B A=>k w a i ((e.trans b).trans B) A)))
def FV(hr:∀x y H Q,rD (Gx c X) m x y H Q->r x y H Q)(q:∀x y d,m x y=aa d->d.scalar=ac)(h:tD (Gx c X) (m2 m f g) C H Q):tOp r (tDB (Gx c X) f) (tDB (Gx c X) g) C H Q:=by
 have(Hf0,H0,Hf,M,d,st,p,k):=h;have(x,y,l,n,b):=m6 p
 show(Hf0,H0,Hf,M,x,st,l,λv b3 H1 e z=>(Hf0,H0,b3,M,y,st.step e,n,λu bm H2 a A=>hr _ _ _ _ (H2,x,y,d,ar.refl _,z.up a.h,A,b,λw j i E B=>
  k w bm i ((e.trans a).trans (Ext.grow a.s E.h)) (B.sc (q _ _ _ b)))))
variable{a b:Expr}
def yJ{op:Operator}(e:OpD c X (fT op) m)(ha:DE c X a f)(d:DE c X b g):DE c X (.BinOp a op b pos) (m2 m f g):=
 PE.imp (EZ e ha d) λ_ _ _ h=>two (λ_ _ _ _ h=>h) h
variable{op:CmpOp}
def NW(i:OpD c X (cY op) m)(j:∀x y d,m x y=aa d->d.scalar=ac)(ha:DB c X a f)(e:DB c X b g)(hm:autoParam (jU op b=af) Zo):
  DE c X (.Compare a [op] [b] pos) (m2 m f g):=PE.imp (Mr i ha e hm) λ_ _ _ h=>FV (λ_ _ _ _ h=>h) j h
def mB(f:MF1)(M:LS):Option Bool:=(f M).bind λd=>match d with
 |.bl b=>aa b
 | _=>ab
def uO{b:Bool}(h:mB f M=aa b):f M=aa (.bl b):=by
 unfold mB at h
 cases e:f M with
 |none=>rw[e]at h;nomatch h
 |some d=>rw[e]at h;cases d <;> cases h;rfl
def o8(j:OpD c X (cY op) m)(l:∀x y d,m x y=aa d->d.scalar=ac)(ha:DB c X a f)(i:DB c X b g)(hm:autoParam (jU op b=af) Zo):
  DT c X (.Compare a [op] [b] pos) (mB (m2 m f g)):=PT.imp (Mt j ha i hm) λC H Q n=>by
 have (Hf0,H0,Hf,M,b,st,e,k):=n;show (
 FV (λ_ _ _ _ h=>h) l (Hf0,H0,Hf,M,.bl b,st,uO e,λv Hf' H' x r=>(b,r,k Hf' H' x)))
abbrev m7:D->Option Bool
 |.non=>aa af
 |.bl b=>aa b
 |.int i=>aa (i != 0)
 |.str x=>if x.length<=16777216 then aa ((x.length:Int) != 0) else ab
 |.lst E=>aa (!E.isEmpty)
 |.tup E=>aa (!E.isEmpty)
 |.kl E=>aa (!E.isEmpty)
 |.kt E=>aa (!E.isEmpty)
 |.dic ks _=>aa (!ks.isEmpty)
 | _=>ab
def ao.empty(r:ao G H ds vs):ds.isEmpty=vs.isEmpty:=by
 cases ds with
 |nil=>cases (r);rfl
 |cons d ds=>have(v,a,e,_):=r;subst e;rfl
def NX{a b:Type}{ks:List a}{vs:List b}(h:Z ks=Z vs):(ks.zip vs).isEmpty=ks.isEmpty:=by
 cases ks <;> cases vs <;> first |rfl |cases h
def NY{b:Bool}(e:m7 d=aa b)(r:Rep G H d v):ya G.K v H b:=by
 cases d with
 |non=>cases e;subst r;rfl
 |bl x=>cases e;subst r;rfl
 |int i=>cases e;subst r;rfl
 |str x=>
  subst r;replace e:(if x.length<=16777216 then aa _ else ab)=aa b:=e;split at e
  .rename_i f;cases e;show(by rw[dG];show f,rfl)
  .grind
 |lst E=>cases e;have(a,vs,c,q,r):=r;subst c;show .inl (vs,SqL.of q,by rw[r.empty])
 |tup E=>cases e;have(a,vs,c,q,r):=r;subst c;show .inr (.inl (vs,SqT.of q,by rw[r.empty]))
 |kl E=>cases e;have(a,vs,c,q,r):=r;subst c;show .inl (vs,q,by rw[r.empty])
 |kt E=>cases e;have(a,vs,c,q,r):=r;subst c;show .inr (.inl (vs,q,by rw[r.empty]))
 |dic ks E=>cases e;have(a,vs,c,q,l,r):=r;subst c;show .inr (.inr (_,q,by rw[NX l]))
 |ins _ _ _=>nomatch e
 |kd _ _=>nomatch e
 |dT _ _=>nomatch e
def bO(f:MF1)(M:LS):Option Bool:=(f M).bind m7
def yK(ha:DB c X a f)(i:autoParam (∀e,isTrue a X.env e=(do let v <- e;gG a.pos;eX [v] (truthy v))) Zd):DT c X a (bO f):=
 PT.imp (Mw ha i) λC H Q j=>by
  have(Hf0,H0,Hf,M,b,st,g,k):=j;unfold bO at g
  cases h:f M with
  |none=>rw[h]at g;nomatch g
  |some d=>
   rw[h]at g;show(Hf0,H0,Hf,M,d,st,h,λv Hf' H' x r=>(b,NY g r,k Hf' H' x))
def dL(f g:MF4)(M:LS):Option Bool:=(f M).bind λb=>if b then g M else aa af
def mOr(f g:MF4)(M:LS):Option Bool:=(f M).bind λb=>if b then aa ac else g M
def gP(f:MF4)(M:LS):Option Bool:=(f M).map not
variable{f:MF4}
def DW.dt(h:DW c X e f):DT c X e f:=PW.pt h
def yL(h:DT c X a f):DW c X (.BoolOp .And [a] pos) f:=Lm h
def NZ(h:DT c X a f):DW c X (.BoolOp .Or [a] pos) f:=Ln h
def yM{g:MF4}{rest:LEx}(h:DT c X a f)(h':DW c X (.BoolOp .And (b::rest) pos) g):DW c X (.BoolOp .And (a::b::rest) pos) (dL f g):=PW.imp (Lo h h') λC H Q j=>by
 have(Hf0,H0,Hf,M,b,st,d,k):=j;unfold dL at d
 cases e:f M with
 |none=>rw[e]at d;nomatch d
 |some x=>
  rw[e]at d;show(Hf0,H0,Hf,M,x,st,e,λb3 H1 i=>?_)
  cases x with
  |true=>rw[if_pos rfl];show(Hf0,H0,b3,M,b,st.step i,d,λbm H2 l=>k bm H2 (i.trans l))
  |false=>cases d;rw[if_neg bK];show k b3 H1 i
def FW{g:MF4}{rest:LEx}(h:DT c X a f)(h':DW c X (.BoolOp .Or (b::rest) pos) g):DW c X (.BoolOp .Or (a::b::rest) pos) (mOr f g):=PW.imp (Lp h h') λC H Q j=>by
 have(Hf0,H0,Hf,M,b,st,d,k):=j;unfold mOr at d
 cases e:f M with
 |none=>rw[e]at d;nomatch d
 |some x=>
  rw[e]at d;show(Hf0,H0,Hf,M,x,st,e,λb3 H1 i=>?_)
  cases x with
  |false=>rw[if_neg bK];show(Hf0,H0,b3,M,b,st.step i,d,λbm H2 l=>k bm H2 (i.trans l))
  |true=>cases d;rw[if_pos rfl];show k b3 H1 i
def N0(h:DT c X a f):DT c X (.UnaryOp .Not a pos) (gP f):=PT.imp (Lq h) λC H Q g=>by
 have(Hf0,H0,Hf,M,b,st,d,k):=g;unfold gP at d
 cases e:f M with
 |none=>rw[e]at d;nomatch d
 |some x=>
  rw[e]at d;cases d;show(Hf0,H0,Hf,M,x,st,e,λb3 H1 i=>k b3 H1 i)
def kG(f g:MF1)(M:LS):OD:=(mB f M).bind λb=>if b then g M else aa (.bl af)
def vOr(f g:MF1)(M:LS):OD:=(mB f M).bind λb=>if b then aa (.bl ac) else g M
def kH(f:MF1)(M:LS):OD:=(mB f M).map λb=>.bl (!b)
variable{f:MF1}
def FX{op}(h:DE c X a f):DE c X (.BoolOp op [a] pos) f:=Lw h
def FY{rest:LEx}(h:DE c X a f)(h':DE c X (.BoolOp .And (b::rest) pos) g):DE c X (.BoolOp .And (a::b::rest) pos) (kG f g):=PE.imp (Lx h h') λC H Q l=>by
 have(Hf0,H0,Hf,M,d,st,e,k):=l;unfold kG at e
 cases i:mB f M with
 |none=>rw[i]at e;nomatch e
 |some x=>
  rw[i]at e;show(Hf0,H0,Hf,M,.bl x,st,uO i,λv b3 H1 j m=>(x,m,?_))
  cases x with
  |true=>rw[if_pos rfl];show(Hf0,H0,b3,M,d,st.step j,e,λv bm H2 p n=>k v bm H2 (j.trans p) n)
  |false=>cases e;rw[if_neg bK];show k _ b3 H1 j rfl
def N1{rest:LEx}(h:DE c X a f)(h':DE c X (.BoolOp .Or (b::rest) pos) g):DE c X (.BoolOp .Or (a::b::rest) pos) (vOr f g):=PE.imp (Ly h h') λC H Q l=>by
 have(Hf0,H0,Hf,M,d,st,e,k):=l;unfold vOr at e
 cases i:mB f M with
 |none=>rw[i]at e;nomatch e
 |some x=>
  rw[i]at e;show(Hf0,H0,Hf,M,.bl x,st,uO i,λv b3 H1 j m=>(x,m,?_))
  cases x with
  |false=>rw[if_neg bK];show(Hf0,H0,b3,M,d,st.step j,e,λv bm H2 p n=>k v bm H2 (j.trans p) n)
  |true=>cases e;rw[if_pos rfl];show k _ b3 H1 j rfl
def FZ(h:DE c X a f):DE c X (.UnaryOp .Not a pos) (kH f):=PE.imp (Lz h) λC H Q g=>by
 have(Hf0,H0,Hf,M,d,st,b,k):=g;unfold kH at b
 cases e:mB f M with
 |none=>rw[e]at b;nomatch b
 |some x=>
  rw[e]at b;cases b;show(Hf0,H0,Hf,M,.bl x,st,uO e,λv b3 H1 j i=>(x,i,k _ b3 H1 j rfl))
def vIf(t:MF4)(f g:MF1)(M:LS):OD:=(t M).bind λb=>if b then f M else g M
variable{cd:Expr}
def F0{t:MF4}(m:DT c X cd t)(ha:DE c X a f)(l:DE c X b g):DE c X (.IfExp cd a b pos) (vIf t f g):=PE.imp (ET m ha l) λC H Q n=>by
 have(Hf0,H0,Hf,M,d,st,e,k):=n;unfold vIf at e
 cases i:t M with
 |none=>rw[i]at e;nomatch e
 |some x=>
  rw[i]at e;show(Hf0,H0,Hf,M,x,st,i,λb3 H1 h=>?_)
  cases x with
  |true=>rw[if_pos rfl];show(Hf0,H0,b3,M,d,st.step h,e,λv bm H2 j r=>k v bm H2 (h.trans j) r)
  |false=>rw[if_neg bK];show(Hf0,H0,b3,M,d,st.step h,e,λv bm H2 j r=>k v bm H2 (h.trans j) r)
noncomputable instance {i j:Int}:Decidable (q5 i j):=by unfold q5;infer_instance
noncomputable instance {i j:Int}:Decidable (mS i j):=by unfold mS;infer_instance
noncomputable instance {i j:Int}:Decidable (mT i j):=by unfold mT;infer_instance
abbrev dI(W8:Int->Int->Prop)[∀i j,Decidable (W8 i j)](g:Int->Int->D):D->D->OD
 |.int i,.int j=>if W8 i j then aa (g i j) else ab
 | _,_=>ab
abbrev dI0(g:Int->Int->D):D->D->OD
 |.int i,.int j=>aa (g i j)
 | _,_=>ab
abbrev da:D->D->OD
 |.int i,.int j=>aa (.int (i+j))
 |.str a,.str b=>if a.length+b.length<=16777216 then aa (.str (a++b)) else ab
 |.lst a,.lst b=>if a.length+b.length<=16777216 then aa (.lst (a++b)) else ab
 | _,_=>ab
nonrec def kK:D->D->OD:=dI0 λi j=>.int (i-j)
nonrec def N2:D->D->OD:=dI mT λi j=>.int (i*j)
nonrec def ju:D->D->OD:=dI q5 λi j=>.int (i / j)
nonrec def b5:D->D->OD:=dI (λ_ j=>0<j) λi j=>.int (i % j)
nonrec def rq:D->D->OD:=dI mS λi j=>.int (i ^ S j)
nonrec def N3:D->D->OD:=dI (λ_ j=>0<=j) λi j=>.int (i / 2 ^ S j)
nonrec def N4:D->D->OD:=dI0 λi j=>.int (d7.bitAnd i j)
nonrec def dLt:D->D->OD:=dI0 λi j=>.bl (decide (i<j))
nonrec def dLe:D->D->OD:=dI0 λi j=>.bl (decide (i<=j))
nonrec def dGt:D->D->OD:=dI0 λi j=>.bl (decide (j<i))
nonrec def dGe:D->D->OD:=dI0 λi j=>.bl (decide (j<=i))
variable{gd:Int->Int->D}
def uP{f:Value->Value->Sem Value}{W8:Int->Int->Prop}[∀i j,Decidable (W8 i j)]{g:Int->Int->V}(h:OpR X f (rI W8 g))(b:∀G H i j,Rep G H (gd i j) (g i j)):OpD c X f (dI W8 gd):=by
 rintro U s C H q r v u Q I rx n ⟨Hf,x,y,d,p,l,m,e,k⟩;unfold dI at e;split at e
 .split at e
  .rename_i a;cases e;show h U s C H q r v u Q I rx n (_,_,l,m,a,k _ Hf H (Ext.refl p) (b _ _ _ _))
  .nomatch e
 .nomatch e
def rA{f:Value->Value->Sem Value}{g:Int->Int->V}(h:OpR X f (rI0 g))(a:∀G H i j,Rep G H (gd i j) (g i j)):OpD c X f (dI0 gd):=by
 rintro U s C H p q v u Q I rx m ⟨Hf,x,y,d,n,b,l,e,k⟩;unfold dI0 at e;split at e
 .cases e;show h U s C H p q v u Q I rx m (_,_,b,l,k _ Hf H (Ext.refl n) (a _ _ _ _))
 .nomatch e
def N5:OpD c X (fT .Add) da:=by
 rintro U s C H l m v u Q I rx j ⟨Hf,x,y,d,h,f,g,e,k⟩;unfold da at e;split at e
 .cases e;show Mb U s C H l m v u Q I rx j (_,_,f,g,k _ Hf H (Ext.refl h) rfl)
 .split at e
  .rename_i i;cases e;show Mx U s C H l m v u Q I rx j (_,_,f,g,by rw[dG];show i,k _ Hf H (Ext.refl h) rfl)
  .nomatch e
 .split at e
  .rename_i i;cases e;have(a,vs,q,w,f):=f;have(b,us,r,z,g):=g
   show Fx U s C H l m v u Q I rx j (a,b,vs,us,q,r,h _ _ w,h _ _ z,by rw[dG,<- f.length,<- g.length];show i,
    λp n=>k _ _ _ (Ext.new h n) (p,_,rfl,ba,(f.append g).up (bQ (h.free n))))
  .nomatch e
 .nomatch e
def N6:OpD c X (fT .Sub) kK:=rA Mc λ_ _ _ _=>rfl
def N7:OpD c X (fT .FloorDiv) ju:=uP Md λ_ _ _ _=>rfl
def N8:OpD c X (fT .Mod) b5:=uP Mf λ_ _ _ _=>rfl
def N9:OpD c X (fT .Pow) rq:=uP Mg λ_ _ _ _=>rfl
def Oa:OpD c X (cY .Lt) dLt:=rA Ml λ_ _ _ _=>rfl
def Ob:OpD c X (cY .LtE) dLe:=rA Mm λ_ _ _ _=>rfl
def Oc:OpD c X (cY .Gt) dGt:=rA Mn λ_ _ _ _=>rfl
def Od:OpD c X (cY .GtE) dGe:=rA Mo λ_ _ _ _=>rfl
def uQ{g:Int->Int->D}(a:∀i j,(g i j).scalar=ac):∀x y d,dI0 g x y=aa d->d.scalar=ac:=by
 intro x y d e;unfold dI0 at e;split at e
 .cases e;show a _ _
 .nomatch e
def Oe:∀x y d,dLt x y=aa d->d.scalar=ac:=uQ λ_ _=>rfl
def Of:∀x y d,dLe x y=aa d->d.scalar=ac:=uQ λ_ _=>rfl
def Og:∀x y d,dGt x y=aa d->d.scalar=ac:=uQ λ_ _=>rfl
def Oh:∀x y d,dGe x y=aa d->d.scalar=ac:=uQ λ_ _=>rfl
abbrev rB:D->OD
 |.int i=>aa (.int (-i))
 | _=>ab
def m1(m:D->OD)(f:MF1)(M:LS):OD:=(f M).bind m
def Oi(ha:DE c X a f):DE c X (.UnaryOp .USub a pos) (m1 rB f):=PE.imp (Ma Mh ha) λC H Q g=>by
 have(Hf0,H0,Hf,M,d,st,b,k):=g;unfold m1 at b
 cases e:f M with
 |none=>rw[e]at b;nomatch b
 |some y=>
  rw[e]at b
  cases y with
  |int i=>cases b;show(Hf0,H0,Hf,M,.int i,st,e,λv Hf' H' x r=>(i,r,k _ Hf' H' x rfl))
  | _=>nomatch b
abbrev F6:D->Bool
 |.non=>ac
 | _=>af
def F7{x:D}(r:Rep G H x v):decide (v=.non)=F6 x:=by
 cases x with
 |non=>subst r;rfl
 |bl b=>subst r;rfl
 |int i=>subst r;rfl
 |str x=>subst r;rfl
 |lst _=>have(a,_,e,_):=r;subst e;rfl
 |tup _=>have(a,_,e,_):=r;subst e;rfl
 |kl _=>have(a,_,e,_):=r;subst e;rfl
 |kt _=>have(a,_,e,_):=r;subst e;rfl
 |dic _ _=>have(a,_,e,_):=r;subst e;rfl
 |ins _ _ _=>have(a,_,_,e,_):=r;subst e;rfl
 |kd _ _=>have(a,_,_,e,_):=r;subst e;rfl
 |dT _ _=>have(a,_,e,_):=r;subst e;rfl
def isD(x y:D):Option Bool:=match y with
 |.non=>aa (F6 x)
 |.bl b=>match x with
  |.non=>aa af
  |.bl a=>aa (a==b)
  | _=>ab
 | _=>ab
def dIs(x y:D):OD:=(isD x y).map .bl
def fZ(x y:D):OD:=(isD x y).map λb=>.bl (!b)
def F8:OpD c X (cY .Is) dIs:=by
 rintro U s C H l j v u Q I rx h ⟨Hf,x,y,d,i,f,g,e,k⟩
 cases y with
 |non=>
  cases e
  show Mp U s C H l j v u Q I rx h (g,by rw[F7 f];show k _ Hf H (Ext.refl i) rfl)
 |bl b=>
  cases x with
  |non=>cases e;subst f;show FK U s C H _ j v u Q I rx h (b,g,.inl rfl,k _ Hf H (Ext.refl i) rfl)
  |bl a=>cases e;subst f;show FK U s C H _ j v u Q I rx h (b,g,.inr (a,rfl),by rw[q9];show k _ Hf H (Ext.refl i) rfl)
  | _=>nomatch e
 | _=>nomatch e
def Oj:OpD c X (cY .IsNot) fZ:=by
 rintro U s C H l j v u Q I rx h ⟨Hf,x,y,d,i,f,g,e,k⟩
 cases y with
 |non=>
  cases e
  show Mq U s C H l j v u Q I rx h (g,by rw[F7 f];show k _ Hf H (Ext.refl i) rfl)
 |bl b=>
  cases x with
  |non=>cases e;subst f;show FL U s C H _ j v u Q I rx h (b,g,.inl rfl,k _ Hf H (Ext.refl i) rfl)
  |bl a=>cases e;subst f;show FL U s C H _ j v u Q I rx h (b,g,.inr (a,rfl),by rw[q9];show k _ Hf H (Ext.refl i) rfl)
  | _=>nomatch e
 | _=>nomatch e
def o9{x:Option Bool}{g:Bool->Bool}:∀d,x.map (λb=>D.bl (g b))=aa d->d.scalar=ac:=by
 intro d e
 cases x with
 |none=>nomatch e
 |some b=>cases e;rfl
def F9:∀x y d,dIs x y=aa d->d.scalar=ac:=λ_ _ d e=>o9 d e
def Ol:∀x y d,fZ x y=aa d->d.scalar=ac:=λ_ _ d e=>o9 d e
abbrev eqF:D->D->Bool
 |.non,.non=>ac
 |.bl a,.bl b=>a==b
 |.int a,.int b=>a==b
 |.str a,.str b=>a==b
 | _,_=>af
abbrev c6(f:D->D->Option Bool):LD->LD->Option Bool
 | [],[]=>aa ac
 |x::E,y::ys=>(f x y).bind λb=>(c6 f E ys).map λr=>b && r
 | _,_=>aa af
abbrev yN:D->D->Bool
 |.bl _,.int _=>ac
 |.int _,.bl _=>ac
 | _,_=>af
abbrev m8(f:D->D->Option Bool):D->D->Option Bool
 |.lst E,.lst ys=>if Z E=Z ys then c6 f E ys else aa af
 |.tup E,.tup ys=>if Z E=Z ys then c6 f E ys else ab
 |x,y=>if x.scalar && y.scalar && !yN x y then aa (eqF x y) else ab
abbrev deq:Nat->D->D->Option Bool
 | 0,_,_=>ab
 |n+1,x,y=>m8 (deq n) x y
def dEq(x y:D):OD:=(deq 20 x y).map .bl
def dNe(x y:D):OD:=(deq 20 x y).map λb=>.bl (!b)
def Om:∀x y d,dEq x y=aa d->d.scalar=ac:=λ_ _ d e=>o9 d e
def On:∀x y d,dNe x y=aa d->d.scalar=ac:=λ_ _ d e=>o9 d e
variable{x y:D}{E ys:LD}{b:Bool}
def uR{f:D->D->Option Bool}(h:c6 f (x::E) (y::ys)=aa b):∃a c,f x y=aa a/\c6 f E ys=aa c/\b=(a && c):=by
 dsimp only[c6]at h
 cases d:f x y with
 |none=>rw[d]at h;nomatch h
 |some a=>
  cases e:c6 f E ys with
  |none=>rw[d,e]at h;nomatch h
  |some c=>rw[d,e]at h;cases h;show(a,c,rfl,rfl,rfl)
def m9{f:D->D->Option Bool}:∀{E ys:LD} {b:Bool},Z E=Z ys->c6 f E ys=aa b->∃e:Nat->Bool,(∀j x y,E[j]?=aa x->ys[j]?=aa y->f x y=aa (e j))/\(bw (Z E)).all e=b
 | [],[],b,_,h=>by cases h;show(λ_=>ac,λj x y e=>by simp at e,rfl)
 |x::E,y::ys,b,hl,h=>by
  have(c,m,d,h2,rfl):=uR h;have(e,g,ha):=m9 (by simpa using hl) h2
  show(λj=>match j with | 0=>c |j+1=>e j,λj i l ex a=>?_,?_)
  .cases j with
   |zero=>simp at ex a;subst ex a;show d
   |succ j=>show g j i l (by simpa using ex) (by simpa using a)
  .rw[cf,range_succ_eq_map,mr,all_map,<- ha]
   rfl
 | [],_::_,_,hl,_=>by cases hl
 | _::_,[],_,hl,_=>by cases hl
def uS(s:d.scalar=ac):d=.non\/(∃b,d=.bl b)\/(∃i,d=.int i)\/∃z,d=.str z:=by
 cases d with
 |non=>show .inl rfl
 |bl b=>show .inr (.inl (b,rfl))
 |int i=>show .inr (.inr (.inl (i,rfl)))
 |str z=>show .inr (.inr (.inr (z,rfl)))
 | _=>nomatch s
def uT(c:(x.scalar && y.scalar && !yN x y)=ac)(d:Rep G H x v)(e:Rep G H y u):fW v=ac/\fW u=ac/\eqV v u=eqF x y/\x6 v u=ac/\decide (v=u)=eqF x y:=by
 rw[ce,ce]at c
 rcases uS c.1.1 with rfl |⟨a,rfl⟩ |⟨a,rfl⟩ |⟨a,rfl⟩ <;> rcases uS c.1.2 with rfl |⟨b,rfl⟩ |⟨b,rfl⟩ |⟨b,rfl⟩ <;> first
  |(cases c.2;done)
  |(subst d;subst e;show(rfl,rfl,rfl,rfl,?_);first |show q9 |show x8 |show x9 |rfl)
variable{n:Nat}
def uU(a:¬(∃E ys,x=.lst E/\y=.lst ys)/\¬(∃E ys,x=.tup E/\y=.tup ys))(h:deq (n+1) x y=aa b):(x.scalar && y.scalar && !yN x y)=ac/\b=eqF x y:=by
 replace h:m8 _ x y=aa b:=h;unfold m8 at h;split at h
 .show absurd (_,_,rfl,rfl) a.1
 .show absurd (_,_,rfl,rfl) a.2
 .split at h
  .rename_i c;cases h;show(c,rfl)
  .nomatch h
def Ga:∀(n:Nat) {x y:D} {b:Bool} {v:V},deq n x y=aa b->Rep G H x v->Rep G H y v->b=ac:=by
 intro n
 induction n with
 |zero=>intro x y b v h;nomatch h
 |succ n J=>
  have all:∀(E ys:LD) vs b,ao G H E vs->ao G H ys vs->c6 (deq n) E ys=aa b->b=ac:=by
   intro E
   induction E with
   |nil=>
    intro ys vs b d c h;cases (d);have:ys=[]:=tS.mp c.length;subst this
    cases h;rfl
   |cons x E l=>
    intro ys vs b d c h;have(v,r,e,C,h2):=d;subst e
    cases ys with
    |nil=>cases (c)
    |cons y ys=>
     have(N,M,e,i,j):=c;cases e;have(L,z,A,B,rfl):=uR h;rw[J A C i,l ys _ z h2 j B];rfl
  intro x y b v h d c
  by_cases p:∃E ys,x=.lst E/\y=.lst ys
  .have(E,ys,rfl,rfl):=p;have(a,vs,e,q,d):=d;have(w,m,e',g,c):=c;subst e;cases e';rw[q]at g;cases g;have f:=d.length.trans c.length.symm;replace h:(if Z E=Z ys then c6 _ E ys else aa af)=aa b:=h;rw[if_pos f]at h;show all E ys vs b d c h
  .by_cases u:∃E ys,x=.tup E/\y=.tup ys
   .have(E,ys,rfl,rfl):=u;have(a,vs,e,q,d):=d;have(w,m,e',g,c):=c;subst e;cases e';rw[q]at g;cases g;replace h:(if Z E=Z ys then c6 _ E ys else ab)=aa b:=h;rw[if_pos (d.length.trans c.length.symm)]at h;show all E ys vs b d c h
   .have(I,rfl):=uU (p,u) h;have(_,_,_,_,e):=uT I d c;rw[<- e];show decide_eq_true rfl
variable{us:LVv}
def pc{s:ah}{L a:LVa}{e:Nat->Bool}(B:ao G H E vs)(C:ao G H ys us)(r:aH vs L)(z:aH us a)
 (p:∀j x y,E[j]?=aa x->ys[j]?=aa y->deq n x y=aa (e j))
 (q:∀{x y:D} {b:Bool} {v u:V} {w g:Value},deq n x y=aa b->Rep G H x v->Rep G H y u->aC v w->aC u g->cB A s w g b):
  ∀j (f:j<L.toArray.size) (h2:j<a.toArray.size),cB A s L.toArray[j] a.toArray[j] (e j):=λj f h2=>by
 have c:j<Z L:=by simpa using f
 have d:j<Z a:=by simpa using h2
 have(v,l,I):=r.at' (i:=j) (u:=L[j]) (by simp[c]);have(u,h,ru):=z.at' (i:=j) (u:=a[j]) (by simp[d]);have(x,ex,rx):=B.get' l;have(y,m,J):=C.get' h;show q (p j x y ex m) rx J I ru
def yO{s:ah}(I:Inv X U C H s):∀(n:Nat) {A:ca} {x y:D} {b:Bool} {v u:V} {w z:Value},A.units+n<cLine->deq n x y=aa b->Rep (Gx c X) H x v->Rep (Gx c X) H y u->aC v w->aC u z->cB A s w z b:=by
 intro n
 induction n with
 |zero=>intro A x y b v u w z _ h;nomatch h
 |succ n ih=>
  intro A x y b v u w z hu h r1 r2 rv ru;have B:∀{x y:D} {b:Bool} {v u:V} {w z:Value},deq n x y=aa b->Rep _ H x v->Rep _ H y u->aC v w->aC u z->cB A.in1 s w z b:=λh a b c d=>ih (by rw[qY];lia) h a b c d
  by_cases hl:∃E ys,x=.lst E/\y=.lst ys
  .have(E,ys,rfl,rfl):=hl;have(a,vs,e,q,f):=id r1;have(N,r,e',G,g):=id r2;subst e e';cases rv;subst ru
   by_cases j:a=N
   .subst j;have:=Ga _ h ((a,vs,rfl,q,f)) (a,r,rfl,G,g);subst this;show xK _
   .show cB.of_refs j ?_;have(L,J,M,hz):=I.list (SqL.of q);have(p,l,m,Y):=I.list (SqL.of G);have l1:=J.length;have l2:=l.length;have l3:=f.length;have l4:=g.length;replace h:(if Z E=ys.length then c6 _ E ys else aa af)=aa b:=h;split at h
    .rename_i i;have(ee,Q,ha):=m9 i h;have:=SeqAt.RcAt.lists M.isList m.isList (by simp only[size_toArray];lia) (by lia) (pc f g J l Q B);rw[size_toArray,<- l1,<- l3,ha]at this;show this
    .rename_i i;cases h;show SeqAt.RcAt.lists_lengths M.isList m.isList (by simp only[size_toArray,bne_iff_ne];lia) (by lia)
  .by_cases ht:∃E ys,x=.tup E/\y=.tup ys
   .have(E,ys,rfl,rfl):=ht;have(a,vs,e,q,f):=id r1;have(N,r,e',G,g):=id r2;subst e e';subst rv;subst ru
    by_cases j:a=N
    .subst j;have:=Ga _ h ((a,vs,rfl,q,f)) (a,r,rfl,G,g);subst this;show xK _
    .show cB.of_refs j ?_;have(L,J,M,hz):=I.tuple (SqT.of q);have(p,l,m,Y):=I.tuple (SqT.of G);have l1:=J.length;have l2:=l.length;have l3:=f.length;have l4:=g.length;replace h:(if Z E=ys.length then c6 _ E ys else ab)=aa b:=h;split at h
     .rename_i i;have(ee,Q,ha):=m9 i h;have:=SeqAt.RcAt.tuples (M) (m) (by lia) (pc f g J l Q B);have T:L.toArray.size=p.toArray.size:=by simp only[size_toArray];lia
      rw[<- T,t7,beq_self_eq_true,qF,size_toArray,<- l1,<- l3,ha]at this;show this
     .nomatch h
   .have(hs,rfl):=uU (hl,ht) h;have(f1,f2,e,_,_):=uT hs r1 r2;rw[<- e];show Fu rv ru f1 f2
def Oo(hu:X.A.units+64<cLine):OpD c X (cY .Eq) dEq:=by
 rintro U s C H v u w G Q I rv ru ⟨Hf,x,y,d,s0,p,r,e,k⟩;unfold dEq at e
 cases h:deq 20 x y with
 |none=>rw[h]at e;nomatch e
 |some b=>
  rw[h]at e;cases e;have q0:=k _ Hf H (Ext.refl s0) rfl;have fin:EP X U C Q _ s:=(.bl b,H,I,rfl,q0);have p:=p.up s0;have r:=r.up s0;have n:∀{x y:D} {b:Bool} {v u:V} {w G:Value},deq 19 x y=aa b->Rep _ H x v->Rep (Gx c X) H y u->aC v w->aC u G->cB X.A.in1 s w G b:=λh a b c d=>yO I 19 (by rw[qY];lia) h a b c d
  by_cases hl:∃E ys,x=.lst E/\y=.lst ys
  .have(E,ys,rfl,rfl):=hl;have(a,vs,e,q,i):=id p;have(a',vs',e',q',j):=id r;subst e e';cases rv;subst ru;have(L,z,B,hz):=I.list (SqL.of q);have(m,g,l,T):=I.list (SqL.of q');have Y:=z.length;have l2:=g.length;have l3:=i.length;have l4:=j.length;replace h:(if Z E=ys.length then c6 _ E ys else aa af)=aa b:=h;split at h
   .rename_i f;have(ee,J,ha):=m9 f h;show SeqAt.eq_listAt B.isList l.isList (by simp only[size_toArray];lia) (by lia) (pc i j z g J n) ?_;rw[size_toArray,<- Y,<- l3,ha];show fin
   .rename_i f;cases h;show SeqAt.eq_list_lengthsAt B.isList l.isList (by simp only[size_toArray,bne_iff_ne];lia) (by lia) fin
  .by_cases ht:∃E ys,x=.tup E/\y=.tup ys
   .have(E,ys,rfl,rfl):=ht;have(a,vs,e,q,i):=id p;have(a',vs',e',q',j):=id r;subst e e';subst rv;subst ru;have(L,z,B,hz):=I.tuple (SqT.of q);have(m,g,l,T):=I.tuple (SqT.of q');have Y:=z.length;have l2:=g.length;have l3:=i.length;have l4:=j.length;replace h:(if Z E=ys.length then c6 _ E ys else ab)=aa b:=h;split at h
    .rename_i f;have(ee,J,ha):=m9 f h;show SeqAt.eq_tupleAt (B) (l) (by lia) (pc i j z g J n) ?_;have N:L.toArray.size=m.toArray.size:=by simp only[size_toArray];lia
     simp only[<- N,t7,beq_self_eq_true,qF,size_toArray,<- Y,<- l3,ha];show fin
    .nomatch h
   .have(hs,rfl):=uU (hl,ht) h;have(_,_,_,M,e):=uT hs p r;show Mi U s C H v u w G Q I rv ru (M,by rw[e];show q0)
def Op(hu:X.A.units+64<cLine):OpD c X (cY .NotEq) dNe:=by
 rintro U s C H v u w G Q I rv ru ⟨Hf,x,y,d,s0,p,r,e,k⟩;unfold dNe at e
 cases h:deq 20 x y with
 |none=>rw[h]at e;nomatch e
 |some b=>
  rw[h]at e;cases e;have q0:=k _ Hf H (Ext.refl s0) rfl;have fin:EP X U C Q _ s:=(.bl (!b),H,I,rfl,q0);have p:=p.up s0;have r:=r.up s0;have n:∀{x y:D} {b:Bool} {v u:V} {w G:Value},deq 19 x y=aa b->Rep _ H x v->Rep (Gx c X) H y u->aC v w->aC u G->cB X.A.in1 s w G b:=λh a b c d=>yO I 19 (by rw[qY];lia) h a b c d
  by_cases hl:∃E ys,x=.lst E/\y=.lst ys
  .have(E,ys,rfl,rfl):=hl;have(a,vs,e,q,i):=id p;have(a',vs',e',q',j):=id r;subst e e';cases rv;subst ru;have(L,z,B,hz):=I.list (SqL.of q);have(m,g,l,T):=I.list (SqL.of q');have Y:=z.length;have l2:=g.length;have l3:=i.length;have l4:=j.length;replace h:(if Z E=ys.length then c6 _ E ys else aa af)=aa b:=h;split at h
   .rename_i f;have(ee,J,ha):=m9 f h;show SeqAt.RcNeAt.lists B.isList l.isList (by simp only[size_toArray];lia) (by lia) (pc i j z g J n) X.prog X.w X.xe _ ?_;rw[size_toArray,<- Y,<- l3,ha];show fin
   .rename_i f;cases h;show SeqAt.RcNeAt.lists_lengths B.isList l.isList (by simp only[size_toArray,bne_iff_ne];lia) (by lia) X.prog X.w X.xe _ fin
  .by_cases ht:∃E ys,x=.tup E/\y=.tup ys
   .have(E,ys,rfl,rfl):=ht;have(a,vs,e,q,i):=id p;have(a',vs',e',q',j):=id r;subst e e';subst rv;subst ru;have(L,z,B,hz):=I.tuple (SqT.of q);have(m,g,l,T):=I.tuple (SqT.of q');have Y:=z.length;have l2:=g.length;have l3:=i.length;have l4:=j.length;replace h:(if Z E=ys.length then c6 _ E ys else ab)=aa b:=h;split at h
    .rename_i f;have(ee,J,ha):=m9 f h;show SeqAt.RcNeAt.tuples (B) (l) (by lia) (pc i j z g J n) X.prog X.w X.xe _ ?_;have N:L.toArray.size=m.toArray.size:=by simp only[size_toArray];lia
     simp only[<- N,t7,beq_self_eq_true,qF,size_toArray,<- Y,<- l3,ha];show fin
    .nomatch h
   .have(hs,rfl):=uU (hl,ht) h;have(_,_,_,M,e):=uT hs p r;show Mj U s C H v u w G Q I rv ru (M,by rw[e];show q0)
abbrev eqX:D->D->Bool
 |.non,.non=>ac
 |.bl a,.bl b=>a==b
 |.bl a,.int b=>(if a then 1 else 0)==b
 |.int a,.bl b=>a==(if b then 1 else 0)
 |.int a,.int b=>a==b
 |.str a,.str b=>a==b
 | _,_=>af
def inD(x y:D):Option Bool:=(iL y).bind λds=>if x.scalar && ds.all D.scalar then aa (ds.any λd=>eqX d x) else ab
def nh(x y:D):OD:=(inD x y).map λb=>.bl (!b)
def Oq:∀x y d,nh x y=aa d->d.scalar=ac:=λ_ _ d e=>o9 d e
def Os(c:x.scalar=ac)(d:y.scalar=ac)(e:Rep G H x v)(f:Rep G H y u):fW v=ac/\fW u=ac/\eqV v u=eqX x y:=by
 rcases uS c with rfl |⟨a,rfl⟩ |⟨a,rfl⟩ |⟨a,rfl⟩ <;> rcases uS d with rfl |⟨b,rfl⟩ |⟨b,rfl⟩ |⟨b,rfl⟩ <;> (subst e;subst f;show(rfl,rfl,rfl))
def Gb{G:Gc}{H:Hp}{x:D}{v:V}(b:x.scalar=ac)(r:Rep G H x v):∀{ds:LD} {vs:LVv},ds.all D.scalar=ac->ao G H ds vs->vs.all fW=ac/\inV v vs=ds.any λd=>eqX d x
 | [],_,_,h=>by cases (h);show(rfl,rfl)
 |d::ds,_,ha,q3_=>by
  have(u,g,e,f,h2):=q3_;subst e;simp only[mr,ce]at ha;have(f1,f2,e):=Os ha.1 b f r;have(c,a):=Gb b r ha.2 h2;show(by simp only[mr,f1,c];rfl,?_);unfold inV at a ⊢;simp only[gD,gD,e,a]
def Ot(e:inD x y=aa b)(d:Rep G H x v)(j:Rep G H y u):∃p vs,u=.ref p/\(SqL G.K H p vs\/SqT G.K H p vs)/\fW v=ac/\vs.all fW=ac/\inV v vs=b:=by
 unfold inD at e
 cases es:iL y with
 |none=>rw[es]at e;nomatch e
 |some ds=>
  rw[es]at e;replace e:(if _=ac then aa _ else ab)=aa b:=e;split at e
  .rename_i c;cases e;rw[ce]at c;have(a,vs,g,q,r):=rp es j;have(h,i):=Gb c.1 d c.2 r
   have f:fW v=ac:=by cases x <;> first |(subst d;rfl) |(cases c.1)
   show(a,vs,g,q,f,h,i)
  .nomatch e
def Ou:OpD c X (cY .NotIn) nh:=by
 rintro U s C H v u w m Q I l ru ⟨Hf,x,y,d,a,i,j,e,k⟩;unfold nh at e
 cases h:inD x y with
 |none=>rw[h]at e;nomatch e
 |some b=>
  rw[h]at e;cases e;have(p,vs,f,q,f1,f2,g):=Ot h (i.up a) (j.up a);show Nf U s C H v u w m Q I l ru (p,vs,f,q,f1,f2,?_);rw[if_pos rfl,g];show k _ Hf H (Ext.refl a) rfl
def Ov{i:Int}(h:atI ds i=aa d)(r:ao G H ds vs):∃v,atI vs i=aa v/\Rep G H d v:=by
 unfold atI at h ⊢;rw[<- r.length]
 cases e:ixN ds.length i with
 |none=>rw[e]at h;nomatch h
 |some j=>
  rw[e]at h;show r.get h
abbrev ixD(ds:LD):D->OD
 |.int k=>atI ds k
 | _=>ab
def mIx(f:MF2)(g:MF1)(M:LS):OD:=(f M).bind λds=>(g M).bind λi=>ixD ds i
variable{b:Expr}
def lJ{f:MF2}(ha:DC c X a f)(y:DE c X b g)(z:autoParam (Ft b) Zj):DE c X (.Subscript a b pos) (mIx f g):=
 PE.imp (M3 (M6.or M7) ha y z) λC H Q A=>by
  have(Hf0,H0,Hf,M,d,st,e,k):=A;unfold mIx at e
  cases j:f M with
  |none=>rw[j]at e;nomatch e
  |some ds=>
   cases p:g M with
   |none=>rw[j,p]at e;nomatch e
   |some i=>
    rw[j,p]at e
    cases i with
    |int n=>
     show(Hf0,H0,Hf,M,ds,st,j,λl vs b3 H1 x q r=>(Hf0,H0,b3,M,.int n,st.step x,p,λu bm H2 m B=>?_));cases (B);have(v,w,E):=Ov e r;have fin:=k v bm H2 (x.trans m) (E.up m.f)
     rcases q with q |q
     .show .inl (l,vs,n,v,rfl,rfl,m.h.seq q,w,fin)
     .show .inr (l,vs,n,v,rfl,rfl,m.h.tup q,w,fin)
    | _=>nomatch e
def rC(E:LD)(lo hi:Option Int):LD:=(E.drop (HT.sIx E.length 0 lo)).take (HT.sIx E.length E.length hi-HT.sIx E.length 0 lo)
abbrev lsD:D->OLD
 |.lst E=>aa E
 |.kl E=>aa E
 | _=>ab
def lK(e:lsD d=aa ds)(r:Rep G H d v):∃a vs,v=.ref a/\SqL G.K H a vs/\ao G H ds vs:=by
 cases d with
 |lst E=>cases e;have(a,vs,b,q,r):=r;show(a,vs,b,SqL.of q,r)
 |kl E=>cases e;have(a,vs,b,q,r):=r;show(a,vs,b,q,r)
 | _=>nomatch e
inductive Ge(G:Gc)(f:LS->Option (Option Int))(C:St)(H:Hp)(Q:Option Int->Hp->Prop):Prop
 |mk:∀Hf0 H0 Hf M i,au G Hf0 H0 Hf H C M->f M=aa i->(∀Hf' H',Ext Hf H Hf' H'->Q i H')->Ge G f C H Q
def DPt(c:Str->Addr)(X:Cx)(e:Option Expr)(f:LS->Option (Option Int)):Prop:=PO X e (Ge (Gx c X) f)
def uV:DPt c X ab (λ_=>aa ab):=λU s C H Q I b=>by
 have(Hf0,H0,Hf,M,i,st,a,k):=b;show(MX U s C H Q I (by cases a;show k Hf H (Ext.refl st.sub)))
abbrev mPt(f:MF1)(M:LS):Option (Option Int):=(f M).bind λd=>match d with
 |.int i=>aa (aa i)
 | _=>ab
def uW(h:DE c X e f):DPt c X (aa e) (mPt f):=λU s C H Q I g=>by
 have(Hf0,H0,Hf,M,i,st,a,k):=g
 show (MY h U s C H Q I (by
 unfold mPt at a
 cases b:f M with
 |none=>rw[b]at a;nomatch a
 |some d=>
  rw[b]at a
  cases d with
  |int n=>cases a;show(Hf0,H0,Hf,M,.int n,st,b,λv Hf' H' x r=>(n,r,k Hf' H' x))
  | _=>nomatch a))
def mSl(f:MF1)(l h:LS->Option (Option Int))(M:LS):OLD:=(f M).bind λd=>(lsD d).bind λds=>(l M).bind λlo=>(h M).map λhi=>rC ds lo hi
def Ow(r:ao G H ds vs)(lo hi:Option Int):ao G H (rC ds lo hi) (rh vs lo hi):=by
 unfold rC rh;rw[r.length];show(r.drop _).take _
variable{p2:Pos}
def uX{l h:LS->Option (Option Int)}{lo hi:Option Expr}(ha:DE c X e f)(L:DPt c X lo l)(J:DPt c X hi h):DO c X (.Subscript e (.Slice lo hi ab p2) pos) (mSl f l h):=
 PE.imp (MZ Nd ha L J) λC H Q N=>by
  have(Hf0,H0,Hf,M,B,st,b,k):=N;unfold mSl at b
  cases g:f M with
  |none=>rw[g]at b;nomatch b
  |some d=>
   cases i:lsD d with
   |none=>rw[g]at b;replace b:(lsD d).bind _=_:=b;rw[i]at b;nomatch b
   |some ds=>
    cases j:l M with
    |none=>rw[g]at b;replace b:(lsD d).bind _=_:=b;rw[i,j]at b;nomatch b
    |some A=>
     cases u:h M with
     |none=>rw[g]at b;replace b:(lsD d).bind _=_:=b;rw[i,j,u]at b;nomatch b
     |some w=>
      rw[g]at b;replace b:(lsD d).bind _=_:=b;rw[i,j,u]at b;cases b;show(Hf0,H0,Hf,M,d,st,g,λv b3 H1 m T=>(Hf0,H0,b3,M,A,st.step m,j,λbm H2 E=>(Hf0,H0,bm,M,w,(st.step m).step E,u,λn U G=>?_)));have(a,vs,I,q,r):=lK i T;subst I;have x:=(m.trans E).trans G;have y:=(E.trans G);show(a,vs,rfl,(m.s.trans y.h).seq q,λp z=>(k p _ n _ (x.trans (Ext.tmp x.s z)) (x.h.free z) (x.s.free z) ba (Ow (r.up y.f) _ _)))
abbrev rCD(G:Gc)(m:LD->OD):LVv->Hp->VK->Prop:=λvs H Q=>∃Hf ds d,ar Hf H/\ao G Hf ds vs/\m ds=aa d/\∀v Hf' H',Ext Hf H Hf' H'->Rep G Hf' d v->Q v H'
nonrec abbrev pf(c:Str->Addr)(X:Cx)(f:Value)(m:LD->OD):Prop:=iI X f (rCD (Gx c X) m)
def av(m:LD->OD)(f:MF2)(M:LS):OD:=(f M).bind m
variable{m:LD->OD}{f:MF2}
def uY(h:av m f M=aa d):∃ds,f M=aa ds/\m ds=aa d:=by
 unfold av at h
 cases e:f M with
 |none=>rw[e]at h;nomatch h
 |some ds=>rw[e]at h;show(ds,rfl,h)
variable{p:Pos}{x:Str}
def Ox{id:String}(j:pf c X (.builtin id) m)(n:Gl X x)(hm:X.mg x=ab)(hv:jb x=aa (.builtin id))(ha:DA c X (e::es) f)(hn:autoParam (x ≠ "__name__") Zc)(a:autoParam (NDb x) Zc)
 (l:autoParam (StE X e es) Zb)(b:autoParam (BkE X pos es) Zb):
  DE c X (.Call (.Name x p) (e::es) [] pos) (av m f):=PE.imp (yi j n hm hv ha.pa hn a l b) λC H Q q=>by
 have(Hf0,H0,Hf,M,d,st,i,k):=q;have(ds,g,h):=uY i;show(Hf0,H0,Hf,M,ds,st,g,λvs Hf' H' x r=>(Hf',ds,d,x.s,r,h,λv bm H2 w u=>k v bm H2 (x.trans w) u))
def ni{id:String}(l:pf c X (.builtin id) m)(u:∀ds d,m ds=aa d->d.scalar=ac)(q:Gl X x)(hm:X.mg x=ab)(hv:jb x=aa (.builtin id))(ha:DAB c X (e::es) f)(hn:autoParam (x ≠ "__name__") Zc)(a:autoParam (NDb x) Zc)
 (n:autoParam (StE X e es) Zb)(b:autoParam (BkE X pos es) Zb):
  DE c X (.Call (.Name x p) (e::es) [] pos) (av m f):=PE.imp (yi l q hm hv ha.pa hn a n b) λC H Q w=>by
 have(Hf0,H0,Hf,M,d,st,j,k):=w;have(ds,i,g):=uY j;show(Hf0,H0,Hf,M,ds,st,i,λvs Hf' H' x r=>(H',ds,d,ar.refl _,r,g,λv bm H2 z y=>k v Hf' H2 (x.trans (Ext.grow x.s z.h)) (y.sc (u _ _ g))))
abbrev bW:LD->OD
 | [.lst E]=>aa (.int (Z E))
 | [.tup E]=>aa (.int (Z E))
 | [.kl E]=>aa (.int (Z E))
 | [.kt E]=>aa (.int (Z E))
 | [.str x]=>if x.length<=16777216 then aa (.int x.length) else ab
 | _=>ab
def ao.one(r:ao G H [d] vs):∃v,vs=[v]/\Rep G H d v:=by
 have(v,a,e,h,q):=r;cases (q);show(v,e,h)
def Gf(e:bW ds=aa d):∃a,ds=[a]/\((∃E,iL a=aa E/\d=.int (Z E))\/∃x,a=.str x/\x.length<=16777216/\d=.int x.length):=by
 cases ds with
 |nil=>nomatch e
 |cons a ds=>
  cases ds with
  |cons _ _=>cases a <;> nomatch e
  |nil=>
   show(a,rfl,?_)
   cases a with
   |lst E=>cases e;show .inl (E,rfl,rfl)
   |tup E=>cases e;show .inl (E,rfl,rfl)
   |kl E=>cases e;show .inl (E,rfl,rfl)
   |kt E=>cases e;show .inl (E,rfl,rfl)
   |str x=>
    replace e:(if x.length<=16777216 then aa _ else ab)=aa d:=e
    grind
   | _=>nomatch e
def yP:pf c X (.builtin "len") bW:=by
 rintro U s C H vs us Q I l ⟨Hf,ds,d,j,r,e,k⟩
 have sq:∀b E,ds=[b]->iL b=aa E->d=.int (Z E)->wpAny _ X.A _ _ X.xe s:=λb E g es e0=>by
  subst g e0;have(v,f,i):=r.one;subst f;have(a,ws,h,q,B):=rp es i;subst h;show Ng U s C H _ us Q I l (a,ws,rfl,yG j q,?_);rw[<- B.length];show k _ Hf H (Ext.refl j) rfl
 obtain⟨b,g,⟨E,f,h⟩ |⟨x,rfl,m,rfl⟩⟩:=Gf e
 .show sq b E g f h
 .subst g;have(v,f,i):=r.one;subst f;show Nh U s C H _ us Q I l (_,by rw[show v=V.str _ from i],by rw[dG];show m,k _ Hf H (Ext.refl j) rfl)
def yQ:∀ds d,bW ds=aa d->d.scalar=ac:=by
 intro ds d e
 obtain⟨a,c,⟨E,b,rfl⟩ |⟨x,rfl,f,rfl⟩⟩:=Gf e <;> rfl
abbrev gQ:LD->Option (LI0)
 | []=>aa []
 |.int i::ds=>(gQ ds).map λr=>i::r
 | _=>ab
def Gg{G:Gc}{H:Hp}:∀{ds:LD} {ns:LI0} {vs:LVv},gQ ds=aa ns->ao G H ds vs->vs=ns.map V.int
 | [],_,_,e,r=>by cases e;show r
 |.int i::ds,_,_,e,q4_=>by
  have(v,b,e',a,h2):=q4_;subst e'
  cases es:gQ ds with
  |none=>rw[gQ,es]at e;cases e
  |some ns=>
   rw[gQ,es]at e;cases e;rw[Gg es h2,show v=V.int i from a]
   rfl
 |.non::_,_,_,e,_=>by cases e
 |.bl _::_,_,_,e,_=>by cases e
 |.str _::_,_,_,e,_=>by cases e
 |.lst _::_,_,_,e,_=>by cases e
 |.tup _::_,_,_,e,_=>by cases e
 |.kl _::_,_,_,e,_=>by cases e
 |.kt _::_,_,_,e,_=>by cases e
 |.dic _ _::_,_,_,e,_=>by cases e
 |.ins _ _ _::_,_,_,e,_=>by cases e
def Oy(ns:LI0):gQ (ns.map D.int)=aa ns:=by
 induction ns with
 |nil=>rfl
 |cons n ns a=>rw[bG,gQ,a];rfl
abbrev jw:LD->OD
 | [d]=>(lsD d).bind λds=>(gQ ds).map λns=>.int ns.sum
 | _=>ab
def yR(l:X.calm=ac):pf c X (.builtin "sum") jw:=by
 rintro U s C H vs us Q I n ⟨Hf,ds,d,g,r,e,k⟩;unfold jw at e;split at e
 .rename_i h
  cases b:lsD h with
  |none=>rw[b]at e;nomatch e
  |some E=>
   cases f:gQ E with
   |none=>rw[b]at e;replace e:(gQ E).map _=_:=e;rw[f]at e;nomatch e
   |some ns=>
    rw[b]at e;replace e:(gQ E).map _=_:=e;rw[f]at e;cases e;have(v,j,m):=r.one;subst j;have(a,ws,i,q,B):=lK b m;subst i;show NP l U s C H _ us Q I n (a,ns,rfl,?_,k _ Hf H (Ext.refl g) rfl);rw[<- Gg f B];show g.seq q
 .nomatch e
def yS:∀ds d,jw ds=aa d->d.scalar=ac:=by
 intro ds d e;unfold jw at e;split at e
 .rename_i c
  cases a:lsD c with
  |none=>rw[a]at e;nomatch e
  |some E=>
   rw[a]at e;replace e:(gQ E).map _=_:=e
   cases b:gQ E with
   |none=>rw[b]at e;nomatch e
   |some ns=>rw[b]at e;cases e;rfl
 .nomatch e
def uZ(n:jb x=aa (.type "list"))(m:Gl X x)(hm:X.mg x=ab)(ha:DC c X e f)(i:autoParam (aL [e] X.env=(af,eval e X.env,)::aL [] X.env) Zb)(hn:autoParam (x ≠ "__name__") Zc)(b:autoParam (NDb x) Zc)
 (g:autoParam ((cj pos (aL [] X.env)).any (·.1)=af) Zb):DO c X (.Call (.Name x p) [e] [] pos) f:=
 PE.imp (MT Ni m hm n (eG ha dY i) hn b i g) λC H Q u=>by
 have(Hf0,H0,Hf,M,ds,st,j,k):=u
 show (
  (Hf0,H0,Hf,M,ds,st,j,λa vs Hf' H' x q r=>(a,vs,rfl,q,λl d=>k l vs Hf' _ (x.trans (Ext.tmp x.s d)) (x.h.free d) (x.s.free d) ba r)))
abbrev tyN:D->Option String
 |.non=>aa "NoneType"
 |.bl _=>aa "bool"
 |.int _=>aa "int"
 |.str _=>aa "str"
 |.lst _=>aa "list"
 |.tup _=>aa "tuple"
 |.dic _ _=>aa "dict"
 | _=>ab
def yT(T:String)(d:D):OD:=(tyN d).map λt=>.bl (t==T || (t == "bool" && T == "int"))
def Oz{t:String}(e:tyN d=aa t)(r:Rep G H d v):gL G.K H v (.type t):=by
 cases d with
 |non=>cases e;subst r;show .non
 |bl b=>cases e;subst r;show .bl b
 |int i=>cases e;subst r;show .int i
 |str x=>cases e;subst r;show .str x
 |lst E=>cases e;have(a,vs,c,q,r):=r;subst c;show .lst q
 |tup E=>cases e;have(a,vs,c,q,r):=r;subst c;show .tup q
 |dic ks E=>cases e;have(a,vs,c,q,l,r):=r;subst c;show .dK q
 | _=>nomatch e
def rE(K:aR)(T:String):Prop:=∀t∈["NoneType","bool","int","str","list","tuple","dict"],W.kitOne K (.type t) (.type T)=aa (t==T || (t == "bool" && T == "int"))
def OA{t:String}(e:tyN d=aa t):t∈["NoneType","bool","int","str","list","tuple","dict"]:=by
 cases d <;> first |(cases e;decide) |cases e
def pi(T:String)(f:MF1)(M:LS):OD:=(f M).bind (yT T)
def Gh{f:MF1}{T:String}{b:Pos}{y:Str}(w:rE X.K T)(u:Gl X "isinstance")(hm:X.mg "isinstance"=ab)(z:jb y=aa (.type T))(j:Gl X y)(l:X.mg y=ab)(ha:DB c X e f)
 (q:autoParam (aL [e,.Name y b] X.env=(af,eval e X.env,)::aL [.Name y b] X.env) Zb)(n:autoParam (aL [.Name y b] X.env=(af,eval (.Name y b) X.env,)::aL [] X.env) Zb)
 (hn:autoParam (y ≠ "__name__") Zc)(i:autoParam ((y==("__debug__":Str))=af) Zc)(m:autoParam ((cj pos (aL [.Name y b] X.env)).any (·.1)=af) Zb):
  DE c X (.Call (.Name "isinstance" p) [e,.Name y b] [] pos) (pi T f):=
 PE.imp (yi NQ u hm boot_isinstance (eG ha (eG (Li (v:=.ty T) j l z rfl hn i) dY n) q) (by decide) (by decide) q m) λC H Q A=>by
  have(Hf0,H0,Hf,M,d,st,a,k):=A;unfold pi at a
  cases h:f M with
  |none=>rw[h]at a;nomatch a
  |some x=>
   rw[h]at a;replace a:yT T x=aa d:=a;unfold yT at a
   cases g:tyN x with
   |none=>rw[g]at a;nomatch a
   |some t=>
    rw[g]at a;cases a;show(Hf0,H0,Hf,M,x,st,h,λv Hf' H' B r=>(v,T,.type t,_,rfl,Oz g r,w t (OA g),k _ Hf' H' B rfl))
inductive tDG(G:Gc)(g:D->LS->Option LS)(v:V)(C:St)(H:Hp)(Q:St->Hp->Prop):Prop
 |mk:∀Hf0 H0 Hf M d ρ',au G Hf0 H0 Hf H C M->Rep G Hf d v->g d M=aa ρ'->(∀σ',au G Hf0 H0 Hf H σ' ρ'->Q σ' H)->tDG G g v C H Q
inductive Gi(G:Gc)(g:LD->LS->Option LS)(vs:LVv)(C:St)(H:Hp)(Q:St->Hp->Prop):Prop
 |mk:∀Hf0 H0 Hf M ds ρ',au G Hf0 H0 Hf H C M->ao G Hf ds vs->g ds M=aa ρ'->(∀σ',au G Hf0 H0 Hf H σ' ρ'->Q σ' H)->Gi G g vs C H Q
structure DG(c:Str->Addr)(X:Cx)(tg:Expr)(k:Nat)(g:D->LS->Option LS):Prop where
 pg:PG X tg (tDG (Gx c X) g)
 len:∀d M ρ',g d M=aa ρ'->Z ρ'=Z M
 keep:∀d M ρ' i,g d M=aa ρ'->k<=i->ρ'[i]?=M[i]?
structure DGs(c:Str->Addr)(X:Cx)(tg:LEx)(k:Nat)(g:LD->LS->Option LS):Prop where
 pg:PGs X tg (Gi (Gx c X) g)
 len:∀d M ρ',g d M=aa ρ'->Z ρ'=Z M
 keep:∀d M ρ' i,g d M=aa ρ'->k<=i->ρ'[i]?=M[i]?
 many:∀ds M ρ',g ds M=aa ρ'->Z ds=Z tg
def ay(i:Nat)(d:D)(M:LS):Option LS:=aa (M.set i (.im d))
def Gj{i k:Nat}(h:PG X e (ig i))(g:i<k):DG c X e k (ay i):=
 (PG.imp h λv C H Q b=>by have(Hf0,H0,Hf,M,d,ρ',st,r,a,q):=b;cases a;show q _ (st.setIm r),λd M ρ' h=>by cases h;simp,λd M ρ' j h f=>by
  cases h;rw[lg (by lia)])
def OB(i k:Nat)(a:X.N.Nodup)(d:autoParam (i<k) Zc)(hi:autoParam (X.N[i]?=aa x) Zb)(e:autoParam (Loc X.env.scope x) Zf)(b:autoParam (LcF X x) Zg):DG c X (.Name x pos) k (ay i):=
 Gj (xR a hi e b) d
def df(ds:LD)(M:LS):Option LS:=match ds with
 | []=>aa M
 | _=>ab
def bv(g:D->LS->Option LS)(h:LD->LS->Option LS)(ds:LD)(M:LS):Option LS:=match ds with
 |d::ds=>(g d M).bind λρ1=>h ds ρ1
 | []=>ab
def OC{k:Nat}:DGs c X [] k df:=by
 show(PGs.imp LK λvs C H Q f=>?_,λd M ρ' h=>?_,λd M ρ' i h _=>?_,λd M ρ' h=>?_)
 .have(Hf0,H0,Hf,M,ds,ρ',st,r,e,q):=f
  cases ds with
  |nil=>cases e;show(r,q _ st)
  |cons d ds=>nomatch e
 .cases d with
  |nil=>cases h;rfl
  |cons a b=>nomatch h
 .cases d with
  |nil=>cases h;rfl
  |cons a b=>nomatch h
 .cases d with
  |nil=>cases h;rfl
  |cons a b=>nomatch h
variable{h:LD->LS->Option LS}
def u3{g:D->LS->Option LS}(e:bv g h ds M=aa ρ'):∃d r ρ1,ds=d::r/\g d M=aa ρ1/\h r ρ1=aa ρ':=by
 cases ds with
 |nil=>nomatch e
 |cons d r=>
  replace e:(g d M).bind _=_:=e
  cases a:g d M with
  |none=>rw[a]at e;nomatch e
  |some ρ1=>rw[a]at e;show(d,r,ρ1,rfl,a,e)
def OE{k:Nat}{g:D->LS->Option LS}(j:DG c X e k g)(h2:DGs c X es k h)(n:autoParam ((jc (e::es) X.env).map (·.2)=assign e X.env::(jc es X.env).map (·.2)) Zb):DGs c X (e::es) k (bv g h):=by
 show(PGs.imp (LL j.pg h2.pg n) λvs C H Q p=>?_,λd M ρ' h=>?_,λd M ρ' i h hi=>?_,λd M ρ' h=>?_)
 .have(Hf0,H0,Hf,M,ds,ρ',st,r,l,q):=p;have(d,f,ρ1,rfl,b,a):=u3 l;have(v,x,m,w,u):=r;show(v,x,m,Hf0,H0,Hf,M,d,ρ1,st,w,b,λy st1=>(Hf0,H0,Hf,ρ1,f,ρ',st1,u,a,q))
 .have(d,f,ρ1,rfl,b,a):=u3 h;rw[h2.len _ _ _ a,j.len _ _ _ b]
 .have(d,f,ρ1,rfl,b,a):=u3 h;rw[h2.keep _ _ _ _ a hi,j.keep _ _ _ _ b hi]
 .have(d,f,ρ1,rfl,b,a):=u3 h;rw[cf,cf,h2.many _ _ _ a]
abbrev tpD:D->OLD
 |.tup E=>aa E
 |.kt E=>aa E
 | _=>ab
def Gk(e:tpD d=aa ds)(r:Rep G H d v):∃a vs,v=.ref a/\SqT G.K H a vs/\ao G H ds vs:=by
 cases d with
 |tup E=>cases e;have(a,vs,b,q,r):=r;show(a,vs,b,SqT.of q,r)
 |kt E=>cases e;have(a,vs,b,q,r):=r;show(a,vs,b,q,r)
 | _=>nomatch e
def cV(g:LD->LS->Option LS)(d:D)(M:LS):Option LS:=(tpD d).bind λds=>g ds M
def yU{g:LD->LS->Option LS}(h:cV g d M=aa ρ'):∃ds,tpD d=aa ds/\g ds M=aa ρ':=by
 unfold cV at h
 cases e:tpD d with
 |none=>rw[e]at h;nomatch h
 |some ds=>rw[e]at h;show(ds,rfl,h)
variable{kk:Nat}
def OF{k:Nat}{g:LD->LS->Option LS}(n:X.calm=ac)(h:DGs c X es k g)(hn:autoParam (Z (jc es X.env)=Z es) Zb)(f:autoParam ((jc es X.env).findIdx? (·.1)=ab) Zb):DG c X (.Tuple es kk pos) k (cV g):=by
 show(PG.imp (LO n h.pg hn f) λv C H Q p=>?_,λd M ρ' h'=>?_,λd M ρ' i h' hi=>?_)
 .have(Hf0,H0,Hf,M,d,ρ',st,r,m,q):=p;have(ds,e,b):=yU m;have(a,vs,l,u,j):=Gk e r;show(a,vs,l,st.sub.tup u,by rw[<- j.length];show h.many _ _ _ b,Hf0,H0,Hf,M,ds,ρ',st,j,b,q)
 .have(ds,e,b):=yU h';show h.len _ _ _ b
 .have(ds,e,b):=yU h';show h.keep _ _ _ _ b hi
def px(G:Gc)(Hf:Hp)(J:It)(ds:LD):Prop:=∀Hf' H',ar Hf Hf'->ar Hf' H'->∀i:Nat,
 (∀d,ds[i]?=aa d->J.go i H'/\∀x H2,J.yld i H' x H2->∃bm,Ext Hf' H' bm H2/\Rep G bm d x)/\(i=Z ds->J.stop i H')
def u4(G:Gc)(Hf H:Hp)(J:It)(ds:LD):Prop:=∀Hf' H',Ext Hf H Hf' H'->∀i:Nat,
 (∀d,ds[i]?=aa d->J.go i H'/\∀x H2,J.yld i H' x H2->∃bm,Ext Hf' H' bm H2/\Rep G bm d x)/\(i=Z ds->J.stop i H')
def px.toE(h:px G Hf J ds):u4 G Hf H J ds:=λHf' H' x i=>h Hf' H' x.f x.s i
inductive tDI(G:Gc)(f:MF2)(C:St)(H:Hp)(R:It->Hp->Prop):Prop
 |mk:∀Hf0 H0 Hf M ds,au G Hf0 H0 Hf H C M->f M=aa ds->(∀J Hf' H',Ext Hf H Hf' H'->px G Hf' J ds->R J H')->tDI G f C H R
inductive yV(G:Gc)(f:MF2)(C:St)(H:Hp)(R:It->Hp->Prop):Prop
 |mk:∀Hf0 H0 Hf M ds,au G Hf0 H0 Hf H C M->f M=aa ds->(∀J Hf' H',Ext Hf H Hf' H'->u4 G Hf' H' J ds->R J H')->yV G f C H R
def DI(c:Str->Addr)(X:Cx)(tg iter:Expr)(f:MF2):Prop:=PI X tg iter (tDI (Gx c X) f)
def DIe(c:Str->Addr)(X:Cx)(tg iter:Expr)(f:MF2):Prop:=PI X tg iter (yV (Gx c X) f)
def DI.de(h:DI c X tg e f):DIe c X tg e f:=PI.imp h λC H R b=>by
 have(Hf0,H0,Hf,M,ds,st,a,k):=b;show((Hf0,H0,Hf,M,ds,st,a,λJ Hf' H' x i=>k J Hf' H' x i.toE))
def Gm(q:SqL G.K H l vs)(r:ao G Hf ds vs):u4 G Hf H (Itl G.K l) ds:=λHf' H' b i=>by
 have a:=b.h.seq q;show(λd g=>?_,λj=>(vs,a,by rw[<- r.length,j];show aM _));have(v,c,m):=r.get g;show((vs,v,a,c),λx H2 (e,y)=>?_);subst e;have:=y vs a;rw[c]at this;cases this;show(Hf',Ext.refl b.s,m.up b.f)
def OG(q:SqT G.K Hf l vs)(r:ao G Hf ds vs):px G Hf (Itt G.K l) ds:=λHf' H' f s i=>by
 have a:=(f.trans s).tup q;show(λd e=>?_,λg=>(vs,a,by rw[<- r.length,g];show aM _));have(v,b,h):=r.get e;show((vs,v,a,b),λx H2 (c,y)=>?_);subst c;have:=y vs a;rw[b]at this;cases this;show(Hf',Ext.refl s,h.up f)
def py{f:MF1}(h:DE c X e f):DI c X tg e (aS f):=λU s C H R I A=>by
 have(Hf0,H0,Hf,M,ds,st,b,k):=A;unfold aS at b
 cases g:f M with
 |none=>rw[g]at b;nomatch b
 |some d=>
  rw[g]at b
  cases j:lsD d with
  |some l=>
   have:l=ds:=by cases d <;> first |(cases j;done) |(cases j;cases b;rfl)
   subst this;show xX h U s C H R I (Hf0,H0,Hf,M,d,st,g,λv Hf' H' x r=>?_);have(a,vs,n,q,B):=lK j r
   show⟨a,n,(vs,x.s.seq q),k _ Hf' H' x λbm H2 f2 s2 i=>by
    have p:=(f2.trans s2).seq q;show(λd w=>?_,λz=>(vs,p,by rw[<- B.length,z];show aM _));have(v,u,E):=B.get w;show((vs,v,p,u),λx G (m,y)=>?_);subst m;have:=y vs p;rw[u]at this;cases this
    show(bm,Ext.refl s2,E.up f2)⟩
  |none=>
   have m:tpD d=aa ds:=by cases d <;> first |(cases j;done) |(cases b;done) |(cases b;rfl)
   show L4 h U s C H R I (Hf0,H0,Hf,M,d,st,g,λv Hf' H' x r=>?_);have(a,vs,n,q,B):=Gk m r;show(a,n,(vs,x.s.tup q),k _ Hf' H' x (OG q B))
def rng(lo:Int)(n:Nat):LD:=(bw n).map λ(i:Nat)=>.int (lo+i)
def OH{lo:Int}:px G Hf (Itr lo n) (rng lo n):=λHf' H' f s i=>by
 show(λd a=>?_,λb=>?_)
 .unfold rng at a;rw[cx]at a
  cases e:(bw n)[i]? with
  |none=>rw[e]at a;nomatch a
  |some j=>
   rw[e]at a;have(hi,c):=cM.mp e;rw[bU]at hi;rw[xk]at c;subst c;cases a;show(hi,λx H2 (g,y)=>by subst g;show(Hf',Ext.refl s,y))
 .unfold rng at b;rw[aq,bU]at b;show qQ b.symm
abbrev yW:LD->OLD
 | [.int j]=>if -(2 ^ 62)<=j/\j<2 ^ 62 then aa (rng 0 (S j)) else ab
 | [.int i,.int j]=>if -(2 ^ 62)<=i/\i<2 ^ 62/\-(2 ^ 62)<=j/\j<2 ^ 62 then aa (rng i (S (j-i))) else ab
 | _=>ab
def io(f:MF2)(M:LS):OLD:=(f M).bind yW
def Gn(h:Gl X "range")(hm:X.mg "range"=ab)(ha:DA c X [a] f)(l:autoParam (aL [a] X.env=[(af,eval a X.env,)]) Zb):DI c X tg (.Call (.Name "range" p) [a] [] pos) (io f):=
 PI.imp (L7 h hm ha.pa l) λC H R m=>by
  have(Hf0,H0,Hf,M,ds,st,b,k):=m;unfold io at b
  cases d:f M with
  |none=>rw[d]at b;nomatch b
  |some as=>
   rw[d]at b;replace b:yW as=aa ds:=b;have i:=ha.len M as d;show(Hf0,H0,Hf,M,as,st,d,λvs Hf' H' x r=>?_);unfold yW at b;split at b
   .split at b
    .rename_i j e;cases b;have(v,g,n):=r.one;cases (n);show(j,g,e.1,e.2,k _ Hf' H' x OH)
    .nomatch b
   .nomatch i
   .nomatch b
def iN(k:Nat)(js:LN)(M:LS):LS:=hE k .no++js.map λj=>(M[j]?).getD .no
def au.weak(h:au G Hf0 H0 Hf H C M)(f:Z ρ'=Z M)(d:∀(i:Nat) (s:Sl),ρ'[i]?=aa s->s=.no\/M[i]?=aa s):au G Hf0 H0 Hf H C ρ':=by
 show h.re h.ext f (λi v s a b=>?_) λi s v a b c p=>?_
 .rcases d i s b with e |e
  .subst e;trivial
  .show h.at' i v s a e
 .rcases d i s b with e |e
  .subst e;show(p.calm rfl).elim
  .show(s,e,p)
def u5{a:Type}{k:Nat}{x:a}{l:List a}{y:a}(h:(hE k x++l)[i]?=aa y):(i<k/\y=x)\/(k<=i/\l[i-k]?=aa y):=by
 by_cases hi:i<k
 .left;rw[ke (by simpa using hi),oj,if_pos hi]at h;show(hi,(du h).symm)
 .right;rw[lc (by simpa using oB hi),mi]at h;show(oB hi,h)
def pA{a b:Type}{f:a->b}{l:List a}{y:b}(h:(l.map f)[i]?=aa y):∃x,l[i]?=aa x/\y=f x:=by
 rw[cx]at h
 cases e:l[i]? with
 |none=>rw[e]at h;nomatch h
 |some x=>rw[e]at h;show(x,rfl,(du h).symm)
def OI(h:js.Nodup){x:Nat}(a:js[i]?=aa x)(b:js[j]?=aa x):i=j:=by
 have(e,c):=cM.mp a;have(h2,d):=cM.mp b;show(List.getElem_inj h).mp (c.trans d.symm)
def au.comp(k:Nat)(h:au G Hf0 H0 Hf H C M)(U:js.Nodup):au G Hf0 H0 Hf H (jq k js C) (iN k js M):=by
 have own:∀i s,(iN k js M)[i]?=aa s->s.calm=af->∃j,k<=i/\js[i-k]?=aa j/\M[j]?=aa s:=λi s a r=>by
  rcases u5 a with⟨_,e⟩ |⟨hi,a⟩
  .subst e;nomatch r
  .have(j,f,es):=pA a
   cases e:M[j]? with
   |none=>rw[e]at es;subst es;nomatch r
   |some t=>rw[e]at es;replace es:s=t:=es;subst es;show(j,hi,f,e)
 have val:∀i v j,(jq k js C)[i]?=aa v->k<=i->js[i-k]?=aa j->v=(C[j]?).getD ab:=λi v j a hi f=>by
  rcases u5 a with⟨T,_⟩ |⟨_,a⟩
  .lia
  .have(A,g,es):=pA a;rw[f]at g;cases g;show es
 show(h.ext,by simp[jq,iN],λi v s a b=>?_,λi j s t y z l a b c d p q=>?_)
 .rcases u5 b with⟨_,e⟩ |⟨hi,b⟩
  .subst e;trivial
  .have(j,f,es):=pA b;have J:=val i v j a hi f
   cases e:M[j]? with
   |none=>rw[e]at es;subst es;trivial
   |some t=>
    rw[e]at es;subst es;have(u,Q,q):=h.slot e;rw[Q]at J;subst J;show q
 .have r:s.calm=af:=by
   cases w:s.calm with
   |true=>show(p.calm w).elim
   |false=>rfl
  have Y:t.calm=af:=by
   cases w:t.calm with
   |true=>show(q.calm w).elim
   |false=>rfl
  have(L,hi,I,B):=own i s a r;have(A,x,f,E):=own j t b Y;have v1:=val i _ L c hi I;have N:=val j _ A d x f;have(u1,m,_):=h.slot B;have(u2,n,_):=h.slot E;rw[m]at v1;rw[n]at N;subst v1 N;have:=h.dj L A s t y z l B E m n p q;subst this;have:=OI U I f
  lia
abbrev e7(h:D->Option OD):LD->OLD
 | []=>aa []
 |d::ds=>(h d).bind λo=>(e7 h ds).map λr=>match o with
  |some y=>y::r
  |none=>r
def OJ{h:D->Option OD}{r:LD}(e:e7 h (d::ds)=aa r):∃o a,h d=aa o/\e7 h ds=aa a/\r=(match o with |some y=>y::a |none=>a):=by
 dsimp only[e7]at e
 cases b:h d with
 |none=>rw[b]at e;nomatch e
 |some o=>
  cases c:e7 h ds with
  |none=>rw[b,c]at e;nomatch e
  |some a=>
   rw[b,c]at e;cases e;show(o,a,rfl,rfl,?_)
   cases o <;> rfl
def gR(g:D->LS->Option LS)(ft:MF4)(fe:MF1)(M:LS)(d:D):Option OD:=(g d M).bind λρ1=>(ft ρ1).bind λb=>if b then (fe ρ1).map aa else aa ab
def bg(k:Nat)(js:LN)(fi:MF2)(g:D->LS->Option LS)(ft:MF4)(fe:MF1)(M:LS):OLD:=
 (fi M).bind λds=>if Z ds<=16777216 then e7 (gR g ft fe (iN k js M)) ds else ab
def yX{a:Type}{l:List a}(h:i<Z l):∃x,l[i]?=aa x/\l.drop i=x::l.drop (i+1):=(l[i],by simp[h],(drop_eq_getElem_cons h))
def DTs(c:Str->Addr)(X:Cx)(c3:LEx)(f:MF4):Prop:=PTs X c3 (tDT (Gx c X) f)
def yY:DTs c X [] kY:=PTs.imp NL λC H Q d=>by
 have(Hf0,H0,Hf,M,b,st,a,k):=d;show(by cases a;show k Hf H (Ext.refl st.sub))
def rF{f:MF4}(h:DT c X e f):DTs c X [e] f:=NM h
variable{g:D->LS->Option LS}{ft:MF4}{fe:MF1}{B:LD}
def Go{k:Nat}(hj:js.Nodup)(hk:∀d M ρ' i,g d M=aa ρ'->k<=i->ρ'[i]?=M[i]?)(A:∀d M ρ',g d M=aa ρ'->Z ρ'=Z M){ti:TI}(st:au G Hf0 H0 Hf H C M)
 (hti:∀R:It->Hp->Prop,(∀J b3 H1,Ext Hf H b3 H1->u4 G b3 H1 J ds->R J H1)->ti C H R)(hz:Z ds<=16777216)(ef:e7 (gR g ft fe (iN k js M)) ds=aa B)
 (kq:∀l vs Hf' H',Ext Hf H Hf' H'->H l=ab->Hf' l=ab->H' l=aa (.lst vs)->ao G Hf' B vs->Q (.ref l) H'):oZ k js ti (tDG G g) (tDT G ft) (tD G fe) C H Q:=by
 show hti _ λJ b3 H1 x1 it=>?_
 show(λi m ys σ' H'=>m=Z ds-i/\i<=Z ds/\∃Hf' as rest,Ext b3 H1 Hf' H'/\au G Hf0 H0 Hf' H' σ' _/\ao G Hf' as ys/\e7 _ (ds.drop i)=aa rest/\B=as++rest/\Z as<=i,
  (Z ds,rfl,cy _,b3,[],B,Ext.refl x1.s,(st.step x1).comp k hj,rfl,ef,rfl,aM _),?_)
 rintro i m ys σ' H' ⟨rfl,hi,Hf',as,rest,x2,st2,ra,Y,er,hal⟩;have E:Z ys<=aU:=by rw[dG,<- ra.length];lia
 have(it1,it2):=it Hf' H' x2 i
 by_cases q:i<Z ds
 .have(d,ed,edr):=yX q;have(go,yl):=it1 d ed
  show .inr (go,E,λL N H2=>Z ds-_=Z ds-_/\i+1<=Z ds/\∃Hf' as rest,Ext b3 H1 Hf' H2/\au G Hf0 H0 Hf' H2 N _/\ao G Hf' as L/\e7 _ _=aa rest/\B=as++rest/\Z as<=i+1,
   λL N H2 w=>(Z ds-(i+1),by lia,w),λx H2 y=>?_)
  have(bm,x3,rx):=yl x H2 y;rw[edr]at Y;have(o,r',a,u,n):=OJ Y;unfold gR at a
  cases z:g d _ with
  |none=>rw[z]at a;nomatch a
  |some ρ1=>
   rw[z]at a;replace a:(ft ρ1).bind _=_:=a
   cases et:ft ρ1 with
   |none=>rw[et]at a;nomatch a
   |some b=>
    rw[et]at a;show(Hf0,H0,bm,iN k js M,d,ρ1,st2.step x3,rx,z,λT p=>(Hf0,H0,bm,ρ1,b,p,et,λr H4 I=>?_))
    have back:∀{c U:Hp},au G Hf0 H0 c U T ρ1->au G Hf0 H0 c U T _:=λ{c U} s5=>s5.weak (A _ _ _ z).symm λj s hs=>by
     rcases u5 hs with⟨_,e⟩ |⟨hj',_⟩
     .show .inl e
     .show .inr (by rw[hk _ _ _ _ z hj'];show hs)
    cases b with
    |true=>
     cases ee:fe ρ1 with
     |none=>rw[ee]at a;nomatch a
     |some y'=>
      rw[ee]at a;cases a;show(Hf0,H0,r,ρ1,y',p.step I,ee,λv c U x5 r5=>?_);have x:=(x3.trans I).trans x5;show(rfl,q,c,as++[y'],r',x2.trans x,back ((p.step I).step x5),(ra.up x.f).append (.cons r5 .nil),u,?_,by simp only[aP,fB];lia);simp only[er,n,cG]
      rfl
    |false=>
     cases a;have x:=x3.trans I;show(rfl,q,r,as,r',x2.trans x,back (p.step I),ra.up x.f,u,by rw[er,n],by lia)
 .have ei:i=Z ds:=by lia
  subst ei;show .inl (it2 rfl,E,λl h1 h2=>?_);rw[drop_eq_nil_of_le (aM _)]at Y;cases Y;rw[bN]at er;subst er;have x:=x1.trans x2;show kq l ys Hf' _ (x.trans (Ext.tmp x.s h2)) (x.h.free h2) (x.s.free h2) ba ra
variable{fi:MF2}
def yZ{k:Nat}(e:js.Nodup)(f:∀d M ρ' i,g d M=aa ρ'->k<=i->ρ'[i]?=M[i]?)(b:∀d M ρ',g d M=aa ρ'->Z ρ'=Z M)(h:tDO G (bg k js fi g ft fe) C H Q):
  oZ k js (yV G fi) (tDG G g) (tDT G ft) (tD G fe) C H Q:=by
 have(Hf0,H0,Hf,M,B,st,a,j):=h;unfold bg at a
 cases c:fi M with
 |none=>rw[c]at a;nomatch a
 |some ds=>
  rw[c]at a;replace a:(if Z ds<=16777216 then e7 _ ds else ab)=aa B:=a
  by_cases hz:Z ds<=16777216
  .rw[if_pos hz]at a;show Go e f b st (λR q=>(Hf0,H0,Hf,M,ds,st,c,λJ b3 H1 l it=>q J b3 H1 l it)) hz a j
  .rw[if_neg hz]at a
   nomatch a
def jx(k:Nat)(js:LN)(Nc:LSt)(d:X.calm=ac)(hi:DIe c X tg iter fi)(a:∀cl W8 ex cc cs,DG c (X.comp scope Nc cl W8 ex cc cs) tg k g)(j:∀cl W8 ex cc cs,DTs c (X.comp scope Nc cl W8 ex cc cs) c3 ft)
 (e:∀cl W8 ex cc cs,DE c (X.comp scope Nc cl W8 ex cc cs) c5 fe)(b:autoParam (lG scope X.env.scope.names X.N Nc k js=ac) Zb)(i:autoParam (∀x,ls iter X.env x=pure x) Zd)(f:autoParam (js.Nodup) Zc):
  DO c X (.ListComp c5 [(tg,iter,c3,0)] scope pos) (bg k js fi g ft fe):=
 PE.imp (NO (tt:=tDT (Gx c X) ft) (te:=tD (Gx c X) fe) k js Nc d hi (λcl W8 ex cc cs=>(a cl W8 ex cc cs).pg) j e b i) λC H Q h=>
  yZ f (a [] 0 [] X.s₀ X.H₀).keep (a [] 0 [] X.s₀ X.H₀).len h
def dvc{cl:List (Str×Addr)}(i:Nat)(b:autoParam (Nc[i]?=aa x) Zb)(hv:autoParam (Vis scope x) Ze)(hd:autoParam (NDb x) Zc)
 (a:autoParam (NCd x) Zc):DE c (X.comp scope Nc cl W8 ex cc cs) (.Name x pos) (ae i):=FQ (pvc i b hv hd a)
def OK{cl:List (Str×Addr)}(i:Nat)(b:autoParam (Nc[i]?=aa x) Zb)(hv:autoParam (Vis scope x) Ze)(hd:autoParam (NDb x) Zc)
 (a:autoParam (NCd x) Zc):DB c (X.comp scope Nc cl W8 ex cc cs) (.Name x pos) (cZ i):=FS (pvc i b hv hd a)
def rG{cl:List (Str×Addr)}(i:Nat)(b:autoParam (Nc[i]?=aa x) Zb)(hv:autoParam (Vis scope x) Ze)(hd:autoParam (NDb x) Zc)
 (a:autoParam (NCd x) Zc):DC c (X.comp scope Nc cl W8 ex cc cs) (.Name x pos) (ax i):=FR (pvc i b hv hd a)
def dgc{cl:List (Str×Addr)}(i k:Nat)(b:autoParam (i<k) Zc)(a:autoParam (Nc.Nodup) Zm)(hi:autoParam (Nc[i]?=aa x) Zb)(d:autoParam (scope.names.lookup x=aa .local) Zb):DG c (X.comp scope Nc cl W8 ex cc cs) (.Name x pos) k (ay i):=
 Gj (pgc i a hi d) b
inductive Fl where
 |nx (M:LS)
 |bk (M:LS)
 |ct (M:LS)
 |rt (d:D)
 |rtO (ds:LD)
 |rtS (d:D) (M:LS)
 |rtT (o:O)
nonrec abbrev MF3:=LS->Option Fl
abbrev u6(G:Gc)(Hf0 H0 Hf:Hp)(W7:jm):Fl->Prop
 |.nx ρ'=>∀σ' Hf' H',ar Hf Hf'->au G Hf0 H0 Hf' H' σ' ρ'->W7.nx σ' H'
 |.bk ρ'=>∀σ' Hf' H',ar Hf Hf'->au G Hf0 H0 Hf' H' σ' ρ'->W7.bk σ' H'
 |.ct ρ'=>∀σ' Hf' H',ar Hf Hf'->au G Hf0 H0 Hf' H' σ' ρ'->W7.ct σ' H'
 |.rt d=>∀v Hf' H',Ext Hf0 H0 Hf' H'->Rep G Hf' d v->W7.rt v H'
 |.rtO ds=>∀l vs Hf' H',Ext Hf0 H0 Hf' H'->H0 l=ab->Hf' l=ab->H' l=aa (.lst vs)->ao G Hf' ds vs->W7.rt (.ref l) H'
 |.rtS d M=>∀v σ' Hf' H',au G Hf0 H0 Hf' H' σ' M->Rep G Hf' d v->W7.rt v H'
 |.rtT o=>∀u fp Hf' H',Ext Hf0 H0 Hf' H'->OT G Hf' H' o u fp->fp.Nodup->(∀a∈fp,H0 a=ab/\Hf' a=ab)->W7.rt u H'
inductive tDS(G:Gc)(F:MF3)(W7:jm)(C:St)(H:Hp):Prop
 |mk:∀Hf0 H0 Hf M o,au G Hf0 H0 Hf H C M->F M=aa o->u6 G Hf0 H0 Hf W7 o->tDS G F W7 C H
def DS(c:Str->Addr)(X:Cx)(st:Stmt)(F:MF3):Prop:=PS X st (tDS (Gx c X) F)
def DSs(c:Str->Addr)(X:Cx)(st:List Stmt)(F:MF3):Prop:=PSs X st (tDS (Gx c X) F)
def bL(M:LS):Option Fl:=aa (.nx M)
def ai(F a:MF3)(M:LS):Option Fl:=(F M).bind λo=>match o with
 |.nx ρ'=>a ρ'
 |o=>aa o
def bi(t:MF4)(F a:MF3)(M:LS):Option Fl:=(t M).bind λb=>if b then F M else a M
def aX(i:Nat)(f:MF1)(M:LS):Option Fl:=(f M).map λd=>.nx (M.set i (.im d))
def cW(i:Nat)(f:MF2)(M:LS):Option Fl:=(f M).map λd=>.nx (M.set i (.own d))
def bh(f:MF1)(M:LS):Option Fl:=(f M).map .rt
def cq(f:MF2)(M:LS):Option Fl:=(f M).map .rtO
def eI(i:Nat)(M:LS):Option Fl:=match M[i]? with
 |some (.im d)=>aa (.rt d)
 |some (.own E)=>aa (.rtO E)
 | _=>ab
abbrev iO(g:D->LS->Option LS)(F:MF3):LD->MF3
 | [],M=>aa (.nx M)
 |d::ds,M=>(g d M).bind λρ1=>(F ρ1).bind λo=>match o with
  |.nx a=>iO g F ds a
  |.ct a=>iO g F ds a
  |.bk a=>aa (.nx a)
  |.rt d=>aa (.rt d)
  |.rtO d=>aa (.rtO d)
  |.rtS d a=>aa (.rtS d a)
  |.rtT o=>aa (.rtT o)
def bS(fi:MF2)(g:D->LS->Option LS)(F:MF3)(M:LS):Option Fl:=(fi M).bind λds=>iO g F ds M
abbrev dA(t:MF4)(F:MF3):Nat->MF3
 | 0,_=>ab
 |n+1,M=>(t M).bind λb=>if b then (F M).bind λo=>match o with
   |.nx a=>dA t F n a
   |.ct a=>dA t F n a
   |.bk a=>aa (.nx a)
   |.rt d=>aa (.rt d)
   |.rtO d=>aa (.rtO d)
   |.rtS d a=>aa (.rtS d a)
   |.rtT o=>aa (.rtT o)
  else aa (.nx M)
def y4(i:Nat)(M:LS):LS:=match M[i]? with
 |some (.own E)=>M.set i (.im (.lst E))
 |some (.ownd ks E)=>M.set i (.im (.dic ks E))
 |some (.obj c ns E)=>M.set i (.im (.ins c ns E))
 | _=>M
def fK(i:Nat)(F:MF3)(M:LS):Option Fl:=F (y4 i M)
def dh(i:Nat)(f:MF1)(M:LS):Option Fl:=(f M).bind λd=>match M[i]? with
 |some (.own E)=>if Z E<16777216 then aa (.nx (M.set i (.own (E++[d])))) else ab
 | _=>ab
def kL(f:MF1)(M:LS):OLD:=(f M).bind λd=>match d with
 |.lst E=>aa E
 | _=>ab
def kM(i:Nat)(f:MF2)(M:LS):Option Fl:=(f M).bind λds=>match M[i]? with
 |some (.own E)=>if Z E+Z ds<=16777216 then aa (.nx (M.set i (.own (E++ds)))) else ab
 | _=>ab
def OL:DSs c X [] bL:=PSs.imp EU λW7 C H b=>by
 have(Hf0,H0,Hf,M,o,d,a,k):=b;show(by cases a;show k C Hf H (ar.refl _) d)
def u6.up{W7:jm}{o:Fl}(h:u6 G Hf0 H0 Hf W7 o)(s:ar Hf Hf'):u6 G Hf0 H0 Hf' W7 o:=by
 cases o with
 |nx M=>show λσ' bm H2 s2 q=>h σ' bm H2 (s.trans s2) q
 |bk M=>show λσ' bm H2 s2 q=>h σ' bm H2 (s.trans s2) q
 |ct M=>show λσ' bm H2 s2 q=>h σ' bm H2 (s.trans s2) q
 |rt d=>show h
 |rtO d=>show h
 |rtS d M=>show h
 |rtT o=>show h
variable{st:Stmt}{sts:List Stmt}{F':MF3}
def aF{F:MF3}(f:DS c X st F)(h2:DSs c X sts F'):DSs c X (st::sts) (ai F F'):=PSs.imp (uv f h2) λW7 C H g=>by
 have(Hf0,H0,Hf,M,o,h,a,k):=g;unfold ai at a
 cases b:F M with
 |none=>rw[b]at a;nomatch a
 |some o1=>
  rw[b]at a;show(Hf0,H0,Hf,M,o1,h,b,?_)
  cases o1 with
  |nx ρ1=>show λi b3 H1 s1 e=>(Hf0,H0,b3,ρ1,o,e,a,k.up s1)
  |bk ρ1=>cases a;show k
  |ct ρ1=>cases a;show k
  |rt d=>cases a;show k
  |rtO d=>cases a;show k
  |rtS d ρ1=>cases a;show k
  |rtT o'=>cases a;show k
def bC{F:MF3}(a:DS c X st F):DSs c X [st] F:=EV a
variable{a b:List Stmt}{t:MF4}
def iP{F:MF3}(j:DT c X cd t)(ha:DSs c X a F)(i:DSs c X b F'):DS c X (.If cd a b pos) (bi t F F'):=PS.imp (LH j ha i) λW7 C H l=>by
 have(Hf0,H0,Hf,M,o,h,d,k):=l;unfold bi at d
 cases g:t M with
 |none=>rw[g]at d;nomatch d
 |some x=>
  rw[g]at d;show(Hf0,H0,Hf,M,x,h,g,λb3 H1 e=>?_)
  cases x with
  |true=>rw[if_pos rfl];show(Hf0,H0,b3,M,o,h.step e,d,k.up e.f)
  |false=>rw[if_neg bK];show(Hf0,H0,b3,M,o,h.step e,d,k.up e.f)
def Gp{f:MF1}(g:PS X st (jn te (ig i)))(hi:∀C H Q,tD (Gx c X) f C H Q->te C H Q):DS c X st (aX i f):=PS.imp g λW7 C H h=>by
 have(Hf0,H0,Hf,M,o,e,a,k):=h;unfold aX at a
 cases b:f M with
 |none=>rw[b]at a;nomatch a
 |some d=>
  rw[b]at a;cases a;show hi _ _ _ (Hf0,H0,Hf,M,d,e,b,λv Hf' H' x r=>k _ Hf' H' x.f ((e.step x).setIm r))
def Gq(j:PS X st (jn te (ig i)))(hi:∀C H Q,tDO (Gx c X) f C H Q->te C H Q):DS c X st (cW i f):=PS.imp j λW7 C H m=>by
 have(Hf0,H0,Hf,M,o,e,a,k):=m;unfold cW at a
 cases b:f M with
 |none=>rw[b]at a;nomatch a
 |some d=>
  rw[b]at a;cases a;show hi _ _ _ (Hf0,H0,Hf,M,d,e,b,λl vs Hf' H' x hn g h r=>k _ Hf' H' x.f (e.setOwn rfl x hn g (vs,h,r)))
def lL(i:Nat){f:MF1}(a:X.N.Nodup)(b:DE c X e f)(hi:autoParam (X.N[i]?=aa x) Zb)(j:autoParam (Loc X.env.scope x) Zf)(g:autoParam (gi e (aa (.Name x b4)) pos.line X.env=pure af) Zb)(d:autoParam (LcF X x) Zg):
  DS c X (.Assign [.Name x b4] e pos) (aX i f):=Gp (oT a hi j b g d) λ_ _ _ h=>h
def y6(i:Nat)(a:X.N.Nodup)(b:DO c X e f)(hi:autoParam (X.N[i]?=aa x) Zb)(j:autoParam (Loc X.env.scope x) Zf)(g:autoParam (gi e (aa (.Name x b4)) pos.line X.env=pure af) Zb)(d:autoParam (LcF X x) Zg):
  DS c X (.Assign [.Name x b4] e pos) (cW i f):=Gq (oT a hi j b g d) λ_ _ _ h=>h
def OM(h:tD G (aI f) C H Q):tDO G f C H Q:=by
 have(Hf0,H0,Hf,M,d,st,a,k):=h;unfold aI at a
 cases b:f M with
 |none=>rw[b]at a;nomatch a
 |some ds=>
  rw[b]at a;have a:=du a;subst a;show(Hf0,H0,Hf,M,ds,st,b,λl vs Hf' H' x hn c e r=>k _ _ H' (x.fix hn c e) (l,vs,rfl,ba,r.up (bQ c)))
def ON(i:Nat)(k:Nat)(js:LN)(Nc:LSt)(f:X.N.Nodup)(j:X.calm=ac)(hi:DIe c X tg iter fi)
 (a:∀cl W8 ex cc cs,DG c (X.comp scope Nc cl W8 ex cc cs) tg k g)(q:∀cl W8 ex cc cs,DTs c (X.comp scope Nc cl W8 ex cc cs) c3 ft)(l:∀cl W8 ex cc cs,DE c (X.comp scope Nc cl W8 ex cc cs) c5 fe)
 (b:autoParam (X.N[i]?=aa x) Zb)(r:autoParam (Loc X.env.scope x) Zf)
 (d:autoParam (gi (.ListComp c5 [(tg,iter,c3,0)] scope pos) (aa (.Name x b4)) eN.line X.env=pure ac) Zb)
 (e:autoParam (lG scope X.env.scope.names X.N Nc k js=ac) Zb)(p:autoParam (∀x,ls iter X.env x=pure x) Zd)(n:autoParam (js.Nodup) Zc)
 (m:autoParam (LcF X x) Zg):
  DS c X (.Assign [.Name x b4] (.ListComp c5 [(tg,iter,c3,0)] scope pos) eN) (cW i (bg k js fi g ft fe)):=
 Gq (yD (tt:=tDT (Gx c X) ft) (te:=tD (Gx c X) fe) k js Nc f b r j hi (λcl W8 ex cc cs=>(a cl W8 ex cc cs).pg) q l d e p m) λC H Q h=>yZ n (a [] 0 [] X.s₀ X.H₀).keep (a [] 0 [] X.s₀ X.H₀).len h
def rH(i:Nat)(k:Nat)(js:LN)(Nc:LSt)(f:X.N.Nodup)(j:X.calm=ac)(hi:DIe c X tg iter fi)
 (a:∀cl W8 ex cc cs,DG c (X.comp scope Nc cl W8 ex cc cs) tg k g)(q:∀cl W8 ex cc cs,DTs c (X.comp scope Nc cl W8 ex cc cs) c3 ft)(l:∀cl W8 ex cc cs,DE c (X.comp scope Nc cl W8 ex cc cs) c5 fe)
 (b:autoParam (X.N[i]?=aa x) Zb)(r:autoParam (Loc X.env.scope x) Zf)
 (d:autoParam (gi (.ListComp c5 [(tg,iter,c3,0)] scope pos) (aa (.Name x b4)) eN.line X.env=pure ac) Zb)
 (e:autoParam (lG scope X.env.scope.names X.N Nc k js=ac) Zb)(p:autoParam (∀x,ls iter X.env x=pure x) Zd)(n:autoParam (js.Nodup) Zc)
 (m:autoParam (LcF X x) Zg):
  DS c X (.Assign [.Name x b4] (.ListComp c5 [(tg,iter,c3,0)] scope pos) eN) (aX i (aI (bg k js fi g ft fe))):=
 Gp (yD (tt:=tDT (Gx c X) ft) (te:=tD (Gx c X) fe) k js Nc f b r j hi (λcl W8 ex cc cs=>(a cl W8 ex cc cs).pg) q l d e p m) λC H Q h=>yZ n (a [] 0 [] X.s₀ X.H₀).keep (a [] 0 [] X.s₀ X.H₀).len (OM h)
def rJ{f:MF1}(h:DE c X e f):DS c X (.Return (aa e) pos) (bh f):=PS.imp (uw h) λW7 C H i=>by
 have(Hf0,H0,Hf,M,o,g,a,k):=i;unfold bh at a
 cases b:f M with
 |none=>rw[b]at a;nomatch a
 |some d=>
  rw[b]at a;cases a;show(Hf0,H0,Hf,M,d,g,b,λv Hf' H' x r=>k v Hf' H' (g.ext.trans x) r)
def eJ(f:MF1)(M:LS):Option Fl:=(f M).map λd=>.rtS d M
def Gr{f:MF1}(h:DE c X e f):DS c X (.Return (aa e) pos) (eJ f):=PS.imp (uw h) λW7 C H i=>by
 have(Hf0,H0,Hf,M,o,g,a,k):=i;unfold eJ at a
 cases b:f M with
 |none=>rw[b]at a;nomatch a
 |some d=>
  rw[b]at a;cases a;show(Hf0,H0,Hf,M,d,g,b,λv Hf' H' x r=>k v C Hf' H' (g.step x) r)
def iQ(i:DO c X e f):DS c X (.Return (aa e) pos) (cq f):=PS.imp (uw i) λW7 C H n=>by
 have(Hf0,H0,Hf,M,o,g,a,k):=n;unfold cq at a
 cases b:f M with
 |none=>rw[b]at a;nomatch a
 |some d=>
  rw[b]at a;cases a;show(Hf0,H0,Hf,M,d,g,b,λl vs Hf' H' x hn j m r=>k l vs Hf' H' (g.ext.trans x) (g.ext.h.free hn) j m r)
def OO(h:PE X e (cT i)):DS c X (.Return (aa e) pos) (eI i):=PS.imp (uw h) λW7 C H m=>by
 have(Hf0,H0,Hf,M,o,b,a,k):=m;unfold eI at a
 cases es:M[i]? with
 |none=>rw[es]at a;nomatch a
 |some s=>
  rw[es]at a
  cases s with
  |im d=>
   cases a;have(v,f,r):=b.imm es
   show(_,f,k v Hf H b.ext r)
  |own E=>
   cases a;have(l,f,g,j,vs,q,r):=b.ownAt rfl es
   show(_,f,k l vs Hf H b.ext g j q r)
  | _=>nomatch a
def OP(i:Nat)(b:autoParam (X.N[i]?=aa x) Zb)(hv:autoParam (Vis X.env.scope x) Ze)(hd:autoParam (NDb x) Zc)
 (a:autoParam (NCd x) Zc):DS c X (.Return (aa (.Name x p)) pos) (eI i):=OO (mQ b hv hd a)
def e8{F:MF3}(hp:PassesOwn (model X.prog X.w) X.A X.env X.xe)(hc:X.calm=ac)(hi:DI c X tg iter fi)(hg:DG c X tg kk g)(hb:DSs c X a F)(hs:autoParam (∀x,ls iter X.env x=pure x) Zd):
  DS c X (.For tg iter a [] pos) (bS fi g F):=PS.imp (EY hp hc hi hg.pg hb hs) λW7 C H q_=>by
 have(Hf0,H0,Hf,M,o,T,p,k):=q_;unfold bS at p
 cases v:fi M with
 |none=>rw[v]at p;nomatch p
 |some ds=>
  rw[v]at p;show(Hf0,H0,Hf,M,ds,T,v,λJ b3 H1 Q it=>?_);show(λi m σ' H'=>m=Z ds-i/\i<=Z ds/\∃Hf' ρ',au _ Hf0 H0 Hf' H' σ' ρ'/\ar b3 Hf'/\iO g F (ds.drop i) ρ'=aa o,(Z ds,rfl,cy _,b3,M,T.step Q,ar.refl _,p),?_);rintro i m σ' H' ⟨rfl,hi',Hf',ρ',l,s1,em⟩;have(G,I):=it Hf' H' s1 l.sub i
  by_cases j:i<Z ds
  .have(d,Y,B):=yX j;have(go,yl):=G d Y;rw[B]at em;dsimp only[iO]at em;show .inr (go,λr H2=>Z ds-_=Z ds-_/\i+1<=Z ds/\∃Hf' ρ',au _ Hf0 H0 Hf' H2 r ρ'/\ar b3 Hf'/\iO g F _ ρ'=aa o,λr H2 w=>(Z ds-(i+1),by lia,w),λx H2 y=>?_);have(bm,U,rx):=yl x H2 y
   cases E:g d ρ' with
   |none=>rw[E]at em;nomatch em
   |some ρ1=>
    rw[E]at em;replace em:(F ρ1).bind _=_:=em
    cases z:F ρ1 with
    |none=>rw[z]at em;nomatch em
    |some o1=>
     rw[z]at em;show(Hf0,H0,bm,ρ',d,ρ1,l.step U,rx,E,λσ3 N=>(Hf0,H0,bm,ρ1,o1,N,z,?_));have L:=s1.trans U.f
     cases o1 with
     |nx h=>show λn b u q e=>(rfl,j,b,h,e,L.trans q,em)
     |ct h=>show λn b u q e=>(rfl,j,b,h,e,L.trans q,em)
     |bk h=>cases em;show λn b u q e=>k n b u ((Q.f.trans L).trans q) e
     |rt d=>cases em;show k
     |rtO d=>cases em;show k
     |rtS d h=>cases em;show k
     |rtT o'=>cases em;show k
  .have ei:i=Z ds:=by lia
   subst ei;rw[drop_eq_nil_of_le (aM _)]at em;cases em;show .inl (I rfl,k σ' Hf' H' (Q.f.trans s1) l)
def pE{F:MF3}(n:Nat)(G:PassesOwn (model X.prog X.w) X.A X.env X.xe)(E:DT c X cd t)(B:DSs c X a F):DS c X (.While cd a [] pos) (dA t F n):=PS.imp (LV G E B) λW7 C H I=>by
 have(Hf0,H0,Hf,M,o,J,z,k):=I;show(λm σ' H'=>∃Hf' ρ',au _ Hf0 H0 Hf' H' σ' ρ'/\ar Hf Hf'/\dA t F m ρ'=aa o,(n,Hf,M,J,ar.refl _,z),?_);rintro m σ' H' ⟨Hf',ρ',i,s1,em⟩
 cases m with
 |zero=>nomatch em
 |succ m=>
  dsimp only[dA]at em
  cases v:t ρ' with
  |none=>rw[v]at em;nomatch em
  |some b=>
   rw[v]at em;show(Hf0,H0,Hf',ρ',b,i,v,λbm H2 q=>?_)
   cases b with
   |false=>
    cases em
    show k σ' bm H2 (s1.trans q.f) (i.step q)
   |true=>
    cases u:F ρ' with
    |none=>rw[u]at em;nomatch em
    |some o1=>
     rw[u]at em;show(λp y=>∃Hf' ρ',au _ Hf0 H0 Hf' y p ρ'/\ar Hf Hf'/\dA t F m ρ'=aa o,λp y w=>(m,c8 _,w),Hf0,H0,bm,ρ',o1,i.step q,u,?_);have x:=s1.trans q.f
     cases o1 with
     |nx h=>show λj e r l g=>(e,h,g,x.trans l,em)
     |ct h=>show λj e r l g=>(e,h,g,x.trans l,em)
     |bk h=>cases em;show λj e r l g=>k j e r (x.trans l) g
     |rt d=>cases em;show k
     |rtO d=>cases em;show k
     |rtS d h=>cases em;show k
     |rtT o'=>cases em;show k
def OQ{F:MF3}{W7:jm}(h:tDS G (fK i F) W7 C H):tDS G F W7 C H:=by
 have(Hf0,H0,Hf,M,o,b,c,k):=h;unfold fK y4 at c;split at c
 .rename_i E es;have(l,e,f,a,vs,q,r):=b.ownAt rfl es;show(Hf0,H0,_,_,o,b.fixd (d:=.lst E) rfl es e q (l,vs,rfl,ba,r.up (bQ a)),c,k.up (bQ a))
 .rename_i ks E es;have(l,e,f,a,vs,q,z,r):=b.ownAt rfl es;show(Hf0,H0,_,_,o,b.fixd (d:=.dic ks E) rfl es e q (l,vs,rfl,ba,z,r.up (bQ a)),c,k.up (bQ a))
 .rename_i g ns E es;have(l,e,f,a,dx,vs,q,z,r):=b.ownAt rfl es;show(Hf0,H0,_,_,o,b.fixd (d:=.ins g ns E) rfl es e q (l,dx,vs,rfl,ba,z,r.up (bQ a)),c,k.up (bQ a))
 .show(Hf0,H0,Hf,M,o,b,c,k)
def nj{F:MF3}(i:Nat)(h:DS c X st F):DS c X st (fK i F):=PS.imp h λ_ _ _=>OQ
def Gu{f:MF1}(h:PS X st (mR (tBM X.K "list" uF (cT i) (jo (tD (Gx c X) f) ik)))):DS c X st (dh i f):=PS.imp h λW7 C H m=>by
 have(Hf0,H0,Hf,M,o,e,a,k):=m;unfold dh at a
 cases b:f M with
 |none=>rw[b]at a;nomatch a
 |some d=>
  rw[b]at a;split at a
  .rename_i E es;split at a
   .rename_i j;cases a;have(l,g,p,u,vs,q,r):=e.ownAt rfl es;show(_,g,.inl (rfl,_,SqL.of q),Hf0,H0,Hf,M,d,e,b,λv Hf' H' x n=>?_);show(l,vs,v,rfl,rfl,(x.h _ _ q),by rw[dG,<- r.length];show j,k C Hf' _ x.f ((e.step x).mutd rfl rfl es g (vs++[v],ba,(r.up x.f).append (.cons n .nil))))
   .nomatch a
  .nomatch a
def Gv{f:MF1}(h:PS X st (mR (tBM X.K "list" yq (cT i) (jo (tD (Gx c X) f) ik)))):DS c X st (kM i (kL f)):=PS.imp h λW7 C H u=>by
 have(Hf0,H0,Hf,M,o,g,b,k):=u;unfold kM kL at b
 cases e:f M with
 |none=>rw[e]at b;nomatch b
 |some d=>
  rw[e]at b
  cases d with
  |lst ds=>
   replace b:(match M[i]? with |some (.own E)=>if Z E+Z ds<=16777216 then aa _ else ab | _=>ab)=aa o:=b
   split at b
   .rename_i E es;split at b
    .rename_i p;cases b;have(l,j,z,A,vs,q,r):=g.ownAt rfl es;show(_,j,.inl (rfl,_,SqL.of q),Hf0,H0,Hf,M,.lst ds,g,e,λv Hf' H' x y=>?_);have(a,us,n,w,m):=y;subst n;show(l,a,vs,us,rfl,rfl,(x.h _ _ q),x.s _ _ w,by rw[dG,<- r.length,<- m.length];show p,k C Hf' _ x.f ((g.step x).mutd rfl rfl es j (vs++us,ba,(r.up x.f).append m)))
    .grind
   .grind
  | _=>nomatch b
abbrev Gw:Fl->OD
 |.rt d=>aa d
 |.rtO ds=>aa (.lst ds)
 |.rtS d _=>aa d
 |.nx _=>aa .non
 | _=>ab
def f6(n:Nat)(ds:LD):LS:=ds.map .im++hE (n-Z ds) .no
def aQ(n:Nat)(F:MF3)(ds:LD):OD:=(F (f6 n ds)).bind Gw
def jy(n:Nat)(F:MF3)(ds:LD):OLD:=(F (f6 n ds)).bind λo=>match o with
 |.rtO ds=>aa ds
 | _=>ab
def spD(G:Gc)(n:Nat)(m:LD->OD):Sp:=λvs H Q _=>∃Hf ds d,ar Hf H/\ao G Hf ds vs/\Z ds=n/\m ds=aa d/\∀v Hf' H',Ext Hf H Hf' H'->Rep G Hf' d v->Q v H'
def spO(G:Gc)(n:Nat)(m:LD->OLD):Sp:=λvs H Q _=>∃Hf ds B,ar Hf H/\ao G Hf ds vs/\Z ds=n/\m ds=aa B /\
 ∀l us Hf' H',Ext Hf H Hf' H'->H l=ab->Hf' l=ab->H' l=aa (.lst us)->ao G Hf' B us->Q (.ref l) H'
def au.start(h:ar Hf H)(r:ao G Hf ds vs):au G Hf H Hf H (start N vs) (f6 N.length ds):=by
 have im:∀i (s:Sl),(f6 N.length ds)[i]?=aa s->s=.no\/∃d,ds[i]?=aa d/\s=.im d:=λi s b=>by
  unfold f6 at b
  by_cases hi:i<Z ds
  .rw[ke (by simpa using hi)]at b;have(d,f,es):=pA b;show .inr (d,f,es)
  .rw[lc (by simpa using oB hi)]at b;have(_,e):=cM.mp b;rw[List.getElem_replicate]at e;show .inl e.symm
 show(Ext.refl h,by simp[L2.start,f6,r.length],λi v s a b=>?_,λi j s t v w l a b c d p q=>?_)
 .rcases im i s b with e |⟨d,f,es⟩
  .subst e;trivial
  .subst es;have(u,g,ru):=r.get f;show(u,?_,ru);unfold L2.start at a;rw[ke (by simpa using ((cM.mp g).1)),cx,g]at a;show(du a).symm
 .rcases im i s a with e |⟨d,f,es⟩
  .subst e;show(p.calm rfl).elim
  .subst es;show(p.calm rfl).elim
variable{P:ci}{mg:MGT}{base:Heap}{n_:Nat}{qual:Str}{f:Addr}{fd:cS}{ps:LSt}
def bc{k:Nat}{F:MF3}(q:Fun K x qual st f fd)(S:aB N ps (aw st))
 (h:∀(cdv:Value) (A:ca) (outer:List Env) (s:ah) (H:Hp) (W7:XK),bA k (A.deeper (gh qual (aw st) s.heap.objs.size f cdv))->DSs c (iJ CX0 P w K mg base N qual (aw st) f cdv A outer s H W7).nox (fX st) F)(i:autoParam (Z N=n_) Zb):
  cC P w K mg base CX0 (k+1) f fd ps (spD (K,c) ps.length (aQ n_ F)):=by
 subst i;show q.ok S (λvs H Q W7 j=>by have(Hf,ds,d,p,r,a,_):=j;rw[<- r.length];show a) λcdv A outer s H vs Q W7 hr j=>?_;have(Hf,ds,d,p,r,a,e,b):=j;show(_,h cdv A outer s H W7 hr,?_);unfold aQ at e
 cases g:F _ with
 |none=>rw[g]at e;nomatch e
 |some o=>
  rw[g]at e;show(Hf,H,Hf,_,o,au.start p r,g,?_)
  cases o with
  |nx M=>cases e;show λσ' Hf' H' _ m=>b _ Hf' H' m.ext rfl
  |bk M=>nomatch e
  |ct M=>nomatch e
  |rt d=>cases e;show b
  |rtO B=>cases e;show λl vs Hf' H' x hn n a r=>b _ _ H' (x.fix hn n a) (l,vs,rfl,ba,r.up (bQ n))
  |rtS d M=>cases e;show λv σ' Hf' H' m r=>b v Hf' H' m.ext r
  |rtT o=>nomatch e
def nr{k:Nat}{F:MF3}(l:Fun K x qual st f fd)(S:aB N ps (aw st))
 (h:∀(cdv:Value) (A:ca) (outer:List Env) (s:ah) (H:Hp) (W7:XK),bA k (A.deeper (gh qual (aw st) s.heap.objs.size f cdv))->DSs c (iJ CX0 P w K mg base N qual (aw st) f cdv A outer s H W7).nox (fX st) F)(b:autoParam (Z N=n_) Zb):
  cC P w K mg base CX0 (k+1) f fd ps (spO (K,c) ps.length (jy n_ F)):=by
 subst b;show l.ok S (λvs H Q W7 g=>by have(Hf,ds,d,j,r,i,_):=g;rw[<- r.length];show i) λcdv A outer s H vs Q W7 hr g=>?_;have(Hf,ds,B,j,r,i,e,m):=g;show(_,h cdv A outer s H W7 hr,?_);unfold jy at e
 cases a:F _ with
 |none=>rw[a]at e;nomatch e
 |some o=>
  rw[a]at e;show(Hf,H,Hf,_,o,au.start j r,a,?_)
  cases o with
  |rtO n=>cases e;show m
  | _=>nomatch e
variable{fa:MF2}{k0:Nat}
def y7{k:Nat}(pk:Pk X.prog X.w X.K X.mg X.base CX0 k x (f,fd,) ps (spD (Gx c X) ps.length m))(j:bA k0 X.A)(ha:DA c X (e::es) fa)(z:autoParam (Z (e::es)=Z ps) Zb)(a:autoParam (NDb x) Zc)(u:autoParam (StE X e es) Zb)(i:autoParam (BkE X pos es) Zb)(h:autoParam (k<=k0) Zc)(y:autoParam (Gl X x) Zi):
  DE c X (.Call (.Name x p) (e::es) [] pos) (av m fa):=PE.imp (rg pk.ok (j.mono h) y pk.g pk.kp pk.b .nil gM ha.pa a u i) λC H Q E=>by
 have(Hf0,H0,Hf,M,d,st,q,B):=E;have(ds,l,n):=uY q;show(Hf0,H0,Hf,M,ds,st,l,λvs Hf' H' x r=>?_);rw[bN];show(Hf',ds,d,x.s,r,(ha.len M ds l).trans z,n,λv bm H2 I G=>B v bm H2 (x.trans I) G)
def kO(m:LD->OLD)(f:MF2)(M:LS):OLD:=(f M).bind m
def OR{k:Nat}{m:LD->OLD}(pk:Pk X.prog X.w X.K X.mg X.base CX0 k x (f,fd,) ps (spO (Gx c X) ps.length m))(u:bA k0 X.A)(ha:DA c X (e::es) fa)(E:autoParam (Z (e::es)=Z ps) Zb)(i:autoParam (NDb x) Zc)(v:autoParam (StE X e es) Zb)(q:autoParam (BkE X pos es) Zb)(j:autoParam (k<=k0) Zc)(z:autoParam (Gl X x) Zi):
  DO c X (.Call (.Name x p) (e::es) [] pos) (kO m fa):=PE.imp (rg pk.ok (u.mono j) z pk.g pk.kp pk.b .nil gM ha.pa i v q) λC H Q I=>by
 have(Hf0,H0,Hf,M,B,st,a,G):=I;unfold kO at a
 cases d:fa M with
 |none=>rw[d]at a;nomatch a
 |some ds=>
  rw[d]at a;show(Hf0,H0,Hf,M,ds,st,d,λvs Hf' H' x r=>?_);rw[bN];show(Hf',ds,B,x.s,r,(ha.len M ds d).trans E,a,λl us bm H2 L hn y n J=>G l us bm H2 (x.trans L) (x.h.free hn) y n J)
def Gy(m:LD->OD)(f:MF2)(M:LS):OD:=(f M).bind λds=>(m ds).bind λd=>if d.scalar then aa d else ab
def Gz{G:Gc}{H:Hp}{f:Str}{d:D}:∀{ns:LSt} {ds:LD} {vs:LVv},(ns.zip ds).lookup f=aa d->ao G H ds vs->∃v,(ns.zip vs).lookup f=aa v/\Rep G H d v
 | [],_,_,e,_=>by simp at e
 |n::ns,[],_,e,_=>by simp at e
 |n::ns,x::ds,_,e,q4_=>by
  have(v,r,b,c,h2):=q4_;subst b;simp only[fD,mq]at e;simp only[fD,mq]
  cases a:f==n with
  |true=>rw[a]at e;cases e;show(v,rfl,c)
  |false=>rw[a]at e;show Gz e h2
def pG{f:Str}:∀{ns:LSt} {vs:LVv},ns.contains f=af->(ns.zip vs).lookup f=ab
 | [],_,_=>by simp
 |n::ns,[],_=>by rfl
 |n::ns,v::vs,h=>by
  rw[contains_cons,Bool.or_eq_false_iff]at h;simp only[fD,mq,h.1];show pG h.2
abbrev OS(cn f:Str):D->OD
 |.ins a ns ds=>if a=cn then (ns.zip ds).lookup f else ab
 | _=>ab
def bd(cn f:Str)(m:MF1)(M:LS):OD:=(m M).bind (OS cn f)
def aO(cn f:Str)(m:LD->OD)(fo:MF1)(fa:MF2)(M:LS):OD:=(fo M).bind λd=>match d with
 |.ins a ns ds=>if a=cn/\ns.contains f=af then (fa M).bind λas=>m (.ins a ns ds::as) else ab
 | _=>ab
variable{fl:Str}{fo:MF1}
def OU{o:Expr}(cn:Str)(l:Cls X.K (c cn))(hn:cP X.K (c cn) fl)(m:DE c X o fo)(j:autoParam (oJ o fl X.env (eval o X.env)=eval o X.env) Zb):DE c X (.Attribute o fl pos) (bd cn fl fo):=
 PE.imp (Fe m j) λC H Q n=>by
  have(Hf0,H0,Hf,M,d,st,b,k):=n;unfold bd at b
  cases e:fo M with
  |none=>rw[e]at b;nomatch b
  |some y=>
   rw[e]at b
   cases y with
   |ins g ns ds=>
    replace b:(if g=cn then (ns.zip ds).lookup fl else ab)=aa d:=b;split at b
    .rename_i f;subst f;show(Hf0,H0,Hf,M,_,st,e,λv Hf' H' x r=>?_);have(a,dx,vs,i,q,p,B):=r;have(u,h,ru):=Gz b B;show(a,c g,dx,ns.zip vs,u,i,x.s _ _ q,l,hn,h,k u Hf' H' x ru)
    .grind
   | _=>nomatch b
variable{apos:Pos}{pl:Sem Bool}
def OV{k:Nat}{o:Expr}(cn:Str)(Y:DE c X o fo)(pk:Pm X.prog X.w X.K X.mg X.base CX0 k (c cn) fl (f,fd,) ps (spD (Gx c X) ps.length m))(E:bA k0 X.A)(ha:DA c X (e::es) fa)(U:autoParam (Z (e::es)+1=Z ps) Zb)(G:autoParam (StE X e es) Zb)(z:autoParam (BkE X pos es) Zb)(ht:autoParam (eval (.Call (.Attribute o fl apos) (e::es) [] pos) X.env=(do
   let ov <- eval o X.env
   gG apos.atName
   let (f,first,) <- eX [ov] (hX ov fl pl)
   jW pos f first (cj pos (aL (e::es) X.env)) (iF pos (iE [] X.env)))) Zb)(n:autoParam (k<=k0) Zc):
  DE c X (.Call (.Attribute o fl apos) (e::es) [] pos) (aO cn fl m fo fa):=PE.imp (yg Y pk.c pk.m pk.ok (E.mono n) pk.b .nil gM ha.pa G z ht) λC H Q q_=>by
 have(Hf0,H0,Hf,M,d,st,g,kq):=q_;unfold aO at g
 cases j:fo M with
 |none=>rw[j]at g;nomatch g
 |some y=>
  rw[j]at g
  cases y with
  |ins J ns ds=>
   replace g:(if J=cn/\ns.contains fl=af then (fa M).bind λas=>m _ else ab)=aa d:=g;split at g
   .rename_i l;have(rfl,p):=l
    cases h:fa M with
    |none=>rw[h]at g;nomatch g
    |some as=>
     rw[h]at g;show(Hf0,H0,Hf,M,_,st,j,λv Hf' H' x r=>?_);have(a,dx,vs,T,q,L,B):=id r;show(a,dx,ns.zip vs,T,x.s _ _ q,pG p,Hf0,H0,Hf',M,as,st.step x,h,λws bm H2 I r2=>?_);rw[bN];show(bm,.ins J ns ds::as,d,I.s,.cons (r.up I.f) r2,by rw[cf,ha.len M as h];show U,g,λu i N x3 r3=>kq u i N ((x.trans I).trans x3) r3)
   .nomatch g
  | _=>nomatch g
def OW{k:Nat}{o:Expr}(cn:Str)(J:DE c X o fo)(pk:Pm X.prog X.w X.K X.mg X.base CX0 k (c cn) fl (f,fd,) ps (spD (Gx c X) ps.length m))(n:bA k0 X.A)(I:autoParam (1=Z ps) Zb)(L:autoParam (eval (.Call (.Attribute o fl apos) [] [] pos) X.env=(do
   let ov <- eval o X.env
   gG apos.atName
   let (f,first,) <- eX [ov] (hX ov fl pl)
   jW pos f first (cj pos (aL [] X.env)) (iF pos (iE [] X.env)))) Zb)(j:autoParam (k<=k0) Zc):
  DE c X (.Call (.Attribute o fl apos) [] [] pos) (aO cn fl m fo λ_=>aa []):=PE.imp (yh J pk.c pk.m pk.ok (n.mono j) pk.b .nil gM L) λC H Q T=>by
 have(Hf0,H0,Hf,M,d,st,e,N):=T;dsimp only[aO]at e
 cases h:fo M with
 |none=>rw[h]at e;nomatch e
 |some y=>
  simp only[h]at e
  cases y with
  |ins E ns ds=>
   replace e:(if E=cn/\ns.contains fl=af then (aa []).bind λas=>m _ else ab)=aa d:=e;split at e
   .rename_i i;have(rfl,l):=i;show(Hf0,H0,Hf,M,_,st,h,λv Hf' H' x r=>?_);have(a,dx,vs,G,q,p,B):=id r;show(a,dx,ns.zip vs,G,x.s _ _ q,pG l,(Hf',_,d,x.s,.cons r .nil,I,e,λu g z Y U=>N u g z (x.trans Y) U))
   .nomatch e
  | _=>nomatch e
abbrev u7:List (Str×(MF1))->LS->LSt->LD->Option (LSt×LD)
 | [],_,ns,ds=>aa (ns,ds,)
 |(f,m,)::r,M,ns,ds=>(m M).bind λd=>if ns.contains f then ab else u7 r M (ns++[f]) (ds++[d])
def OX(G:Gc)(cn:Str)(fs:List (Str×(MF1))):TS:=λW7 C H=>∃x dx Hf0 H0 Hf M ns us ds r,C[0]?=aa (aa (.ref x))/\(∀s∈M,Sl.calm s=ac)/\au G Hf0 H0 Hf H C M/\H0 x=ab/\Hf x=ab /\
 H x=aa (.ins (G.cl cn) dx (ns.zip us))/\Z ns=Z us/\Z ns+Z fs<=900/\ao G Hf ds us/\u7 fs M ns ds=aa r /\
 ∀a Hf' H',Ext Hf0 H0 Hf' H'->Hf' x=ab->H' x=aa (.ins (G.cl cn) dx (r.1.zip a))->Z r.1=Z a->ao G Hf' r.2 a->W7.nx C H'
def DSI(c:Str->Addr)(X:Cx)(cn:Str)(sts:List Stmt)(fs:List (Str×(MF1))):Prop:=PSs X sts (OX (Gx c X) cn fs)
def rK{f:Str}{v:V}:∀{ns:LSt} {us:LVv},Z ns=Z us->ns.contains f=af->c9 f v (ns.zip us)=(ns++[f]).zip (us++[v])
 | [],[],_,_=>rfl
 |n::ns,u::us,hl,h=>by
  rw[contains_cons,Bool.or_eq_false_iff]at h;have a:¬(n=f):=λz=>by rw[z,beq_self_eq_true]at h;cases h.1
  rw[fD];unfold c9
  first
   |(rw[if_neg a,rK (by simpa using hl) h.2];rfl)
   |(rw[if_neg _,rK (by simpa using hl) h.2];rfl)
   |(rw[if_neg (by simpa using a),rK (by simpa using hl) h.2];rfl)
   |(rw[if_neg (by simpa using λz=>a _),rK (by simpa using hl) h.2];rfl)
 | [],_::_,hl,_=>by cases hl
 | _::_,[],hl,_=>by cases hl
def u8{cn:Str}:DSI c X cn [] []:=PSs.imp EU λW7 C H q=>by
 have(x,dx,Hf0,H0,Hf,M,ns,us,ds,r,e0,no,e,f,a,d,b,hz,rd,em,k):=q;cases em;show k us Hf H e.ext a d b rd
variable{m:MF1}{fs:List (Str×(MF1))}
def pH{cn:Str}{o:Expr}(L:Cls X.K (c cn))(hn:cP X.K (c cn) fl)(T:PE X o (cT 0))(N:DE c X e m)(h:DSI c X cn sts fs)(A:autoParam (gi e (aa (.Attribute o fl b4)) pos.line X.env=pure af) Zb):
  DSI c X cn (.Assign [.Attribute o fl b4] e pos::sts) ((fl,m,)::fs):=PSs.imp (uv (yc T N A) h) λW7 C H q=>by
 have(x,dx,Hf0,H0,Hf,M,ns,us,ds,r,e0,no,J,E,Q,I,G,hz,rd,em,k):=q;unfold u7 at em
 cases z:m M with
 |none=>rw[z]at em;nomatch em
 |some d=>
  rw[z]at em;split at em
  .grind
  .rename_i l;have l:ns.contains fl=af:=by grind
   show(Hf0,H0,Hf,M,d,J,z,λv Hf' H' y U=>(_,e0,x,c cn,dx,ns.zip us,rfl,y.h _ _ I,L,hn,?_,?_))
   .grind
   .have j:Hf' x=ab:=by rw[y.n _ _ I rfl];show Q
    have g:=J.step y
    have B:au (Gx c X) Hf0 H0 Hf' (upd H' x (.ins (c cn) dx (c9 fl v (ns.zip us)))) C M:=by
     show g.re (g.ext.f,λb u e=>?_,λb u e=>?_,g.ext.n) rfl (λi w s a b=>?_) λi s w a b _ p=>(p.calm (no s (dU b))).elim
     .rw[aN (fJ e E)];show g.ext.h b u e
     .rw[aN (fJ e j)];show g.ext.s b u e
     .have A:=no s (dU b);have q:=g.at' i w s a b
      cases s with
      |no=>trivial
      |im d=>show q
      | _=>nomatch A
    show(x,dx,Hf0,H0,Hf',M,ns++[fl],us++[v],ds++[d],r,e0,no,B,E,j,?_,by rw[aP,aP,G];rfl,by rw[cf]at hz;rw[aP,fB];lia,(rd.up y.f).append (.cons U .nil),em,k);rw[ba,rK G l]
def del(H:Hp)(x:Addr):Hp:=λb=>if b=x then ab else H b
def GA{x:Addr}:del H x x=ab:=if_pos rfl
def GB{x b:Addr}(h:b≠x):del H x b=H b:=if_neg h
abbrev rL(n:Nat)(fs:List (Str×(MF1)))(as:LD):Option (LSt×LD):=u7 fs (.no::(as.map .im++hE (n-1-Z as) .no)) [] []
def spI(G:Gc)(cn:Str)(n:Nat)(m:LD->Option (LSt×LD)):Sp:=λvs H Q _=>∃x dx Hf as a r,vs=.ref x::a/\H x=aa (.ins (G.cl cn) dx [])/\Hf x=ab/\ar Hf H/\ao G Hf as a/\Z as+1=n/\m as=aa r /\
 ∀us Hf' H',Ext Hf (del H x) Hf' H'->Hf' x=ab->H' x=aa (.ins (G.cl cn) dx (r.1.zip us))->Z r.1=Z us->ao G Hf' r.2 us->Q .non H'
def u9{x qual cn:Str}{k:Nat}(G:Fun K x qual st f fd)(S:aB N ps (aw st))
 (h:∀(cdv:Value) (A:ca) (outer:List Env) (s:ah) (H:Hp) (W7:XK),bA k (A.deeper (gh qual (aw st) s.heap.objs.size f cdv))->DSI c (iJ CX0 P w K mg base N qual (aw st) f cdv A outer s H W7).nox cn (fX st) fs)
 (hz:autoParam (Z fs<=900) Zc)(y:autoParam (Z N=n_) Zb):cC P w K mg base CX0 (k+1) f fd ps (spI (K,c) cn ps.length (rL n_ fs)):=by
 subst y;show G.ok S (λvs H Q W7 q=>by have(x,dx,Hf,as,z,r,n,_,_,_,g,E,_):=q;subst n;rw[cf,<- g.length];show E) λcdv A outer s H vs Q W7 hr q=>(_,h cdv A outer s H W7 hr,?_);have(x,dx,Hf,as,z,r,n,U,M,s0,g,E,e,Y):=q;subst n;have la:=g.length
 have im:∀i s,(Sl.no::(as.map Sl.im++hE (Z N-1-Z as) .no))[i]?=aa s->s=.no\/∃d j,i=j+1/\as[j]?=aa d/\s=.im d:=λi s b=>by
  cases i with
  |zero=>left;simpa using b.symm
  |succ i=>
   rw[g9]at b
   by_cases hi:i<Z as
   .rw[ke (by simpa using hi)]at b;have(d,m,es):=pA b;show .inr (d,i,rfl,m,es)
   .rw[lc (by simpa using oB hi)]at b;have(_,e):=cM.mp b;rw[List.getElem_replicate]at e;show .inl e.symm
 have no:∀s∈_,Sl.calm s=ac:=λs T=>by
  have(i,hi):=om T
  rcases im i s hi with e |⟨d,_,_,_,e⟩ <;> (subst e;rfl)
 show(x,dx,Hf,del H x,Hf,_,[],[],[],r,rfl,no,((ar.refl _,λb o e=>?_,s0,λ_ _ _ _=>rfl),?_,λi v s a b=>?_,λi j s t v w l a b _ _ p _=>((p.calm (no s (dU a))).elim)),GA,M,U,rfl,by simpa using hz,rfl,e,λus Hf' H' xx I h2 J L=>Y us Hf' H' xx I h2 J L)
 .by_cases C:b=x
  .subst C;rw[GA]at e;nomatch e
  .rw[GB C]at e;show e
 .unfold L2.start;simp only[aP,aq,cf,mi]
  lia
 .rcases im i s b with e |⟨d,j,ei,m,es⟩
  .subst e;trivial
  .subst es ei;have(u,B,ru):=g.get m;show(u,?_,ru);unfold L2.start at a;rw[bG,lq,g9,ke (by simpa using ((cM.mp B).1)),cx,B]at a;show(du a).symm
def iR(cn:Str)(m:LD->Option (LSt×LD))(fa:MF2)(M:LS):OD:=(fa M).bind λas=>(m as).map λr=>.ins cn r.1 r.2
def pI{k:Nat}{m:LD->Option (LSt×LD)}(cn:Str)(U:Mk X.K (c cn) f)(F:cC X.prog X.w X.K X.mg X.base CX0 k f fd ps (spI (Gx c X) cn ps.length m))(hr:bA (k+1) X.A)(hg:Gl X x)(hm:X.mg x=aa (.ref (c cn)))(Y:dZ X.K fd ps [])(ha:DA c X (e::es) fa)
 (hl:autoParam (Z (e::es)+1=Z ps) Zb)(G:autoParam (NDb x) Zc)(he:autoParam (StE X e es) Zb)(I:autoParam (BkE X pos es) Zb):
  DE c X (.Call (.Name x p) (e::es) [] pos) (iR cn m fa):=PE.imp (Fg U F hr hg hm Y .nil gM ha.pa G he I) λC H Q q_=>by
 have(Hf0,H0,Hf,M,d,st,a,kq):=q_;unfold iR at a
 cases j:fa M with
 |none=>rw[j]at a;nomatch a
 |some as=>
  rw[j]at a;replace a:(m as).map _=_:=a
  cases E:m as with
  |none=>rw[E]at a;nomatch a
  |some r=>
   rw[E]at a;cases a;show(Hf0,H0,Hf,M,as,st,j,λvs Hf' H' B rv y dx v L N=>?_);rw[bN];have hy:(upd H' dx (.own y)) y=ab:=by rw[aN N.symm];show v
   have s1:ar H' (upd H' dx (.own y)):=bQ L;have s2:=s1.trans (bQ (o:=.ins (c cn) dx []) hy)
   have T:ar H' (del _ y):=λb u q=>by
    have:=fJ q v;rw[GB this];show s2 b u q
   show(y,dx,Hf',as,vs,r,rfl,ba,B.s.free v,B.s.trans s2,rv,by rw[ha.len M as j];show hl,E,λus bm H2 z g J i r2=>(rfl,?_));have x3:Ext Hf' H' bm H2:=(z.f,T.trans z.h,z.s,λl u q t=>z.n l u (T l u q) t);show kq _ _ H2 ((B.trans x3).fix (B.h.free v) g J) (y,dx,us,rfl,ba,i,r2.up (bQ g))
variable{r:Option Fl}
def pJ{F F':MF3}(h:F M=aa (.nx ρ'))(h':F' ρ'=r):ai F F' M=r:=by
 unfold ai;rw[h];show h'
def OY{F F':MF3}(h:F M=aa (.rt d)):ai F F' M=aa (.rt d):=by
 unfold ai;rw[h];rfl
def OZ{F F':MF3}(h:t M=aa ac)(h':F M=r):bi t F F' M=r:=by
 unfold bi;rw[h];show h'
def y8{F F':MF3}(h:t M=aa af)(h':F' M=r):bi t F F' M=r:=by
 unfold bi;rw[h];show h'
def GC{f:MF1}(h:f M=aa d):aX i f M=aa (.nx (M.set i (.im d))):=by
 unfold aX;rw[h];rfl
def O0{f:MF2}{d:LD}(h:f M=aa d):cW i f M=aa (.nx (M.set i (.own d))):=by
 unfold cW;rw[h];rfl
def di{f:MF1}(h:f M=aa d):bh f M=aa (.rt d):=by
 unfold bh;rw[h];rfl
def dk{F:MF3}(h:F (f6 n ds)=aa (.rt d)):aQ n F ds=aa d:=by
 unfold aQ;rw[h];rfl
def lM{F:MF3}{d:LD}(h:F (f6 n ds)=aa (.rtO d)):aQ n F ds=aa (.lst d):=by
 unfold aQ;rw[h];rfl
def aE{m:LD->OD}{f:MF2}(h:f M=aa ds)(h':m ds=aa d):av m f M=aa d:=by
 unfold av;rw[h];show h'
def va{a:Type}{h:D->Option OD}(f:a->D)(p:a->Bool)(q:a->D):∀(E:List a),(∀x∈E,h (f x)=aa (if p x then aa (q x) else ab))->e7 h (E.map f)=aa ((E.filter p).map q)
 | [],_=>rfl
 |x::E,hh=>by
  rw[bG];unfold e7;rw[hh x aA,va f p q E λy b=>hh y (bj _ b)]
  grind
def O1{a:Type}{h:D->Option OD}(f:a->D)(q:a->D)(E:List a)(b:∀x∈E,h (f x)=aa (aa (q x))):e7 h (E.map f)=aa (E.map q):=by
 have:=va f (λ_=>ac) q E λx c=>(b x c).trans rfl;rw[this,filter_eq_self.mpr λ_ _=>rfl]
def e9{a:Type}{k:Nat}(E:List a)(f:a->D)(p:a->Bool)(q:a->D)
 (hi:fi M=aa (E.map f))(hz:Z E<=16777216)(b:∀x∈E,gR g ft fe (iN k js M) (f x)=aa (if p x then aa (q x) else ab)):bg k js fi g ft fe M=aa ((E.filter p).map q):=by
 unfold bg;rw[hi];change(if Z (E.map f)<=16777216 then _ else ab)=_;rw[aq,if_pos hz];show va f p q E b
def fh{a:Type}{k:Nat}(E:List a)(f:a->D)(q:a->D)
 (hi:fi M=aa (E.map f))(hz:Z E<=16777216)(b:∀x∈E,gR g ft fe (iN k js M) (f x)=aa (aa (q x))):bg k js fi g ft fe M=aa (E.map q):=by
 unfold bg;rw[hi];change(if Z (E.map f)<=16777216 then _ else ab)=_;rw[aq,if_pos hz];show O1 f q E b
def GD{d:Type}{g:D->LS->Option LS}{F:MF3}(f:d->D)(I:List d->LS->Prop):∀(post pre:List d) (M:LS),I pre M ->
  (∀a x c M,pre++post=a++x::c->I a M->∃ρ1 b,g (f x) M=aa ρ1/\(F ρ1=aa (.nx b)\/F ρ1=aa (.ct b))/\I (a++[x]) b)->∃ρ',iO g F (post.map f) M=aa (.nx ρ')/\I (pre++post) ρ'
 | [],pre,M,h,_=>(M,rfl,by rw[bN];show h)
 |x::post,pre,M,h,hs=>by
  have(ρ1,b,i,j,h2):=hs pre x post M rfl h;have(ρ',l,e):=GD f I post _ b h2 (by rw[cG];show hs);show(ρ',?_,by rw[cG]at e;show e);rw[bG];unfold iO
  grind
def O2{b:Type}{F:MF3}(E:List b)(f:b->D)(I:List b->LS->Prop)(hi:fi M=aa (E.map f))(c:I [] M)
 (d:∀pre x post M,E=pre++x::post->I pre M->∃ρ1 a,g (f x) M=aa ρ1/\(F ρ1=aa (.nx a)\/F ρ1=aa (.ct a))/\I (pre++[x]) a):∃ρ',bS fi g F M=aa (.nx ρ')/\I E ρ':=by
 unfold bS;rw[hi];show GD f I E [] M c d
def O3(lo:Int)(n:Nat):rng lo n=(bw n).map λ(i:Nat)=>D.int (lo+i):=rfl
def O4{ns:LI0}:jw [.lst (ns.map D.int)]=aa (.int ns.sum):=by
 change(gQ _).map _=_;rw[Oy];rfl
variable{i:Int}
def kP{b:Type}{f:b->D}{E:List b}(c:0<=i)(d:i<Z E):∃x,E[S i]?=aa x/\atI (E.map f) i=aa (f x):=by
 have a:S i<Z E:=by lia
 show(E[S i],by simp[a],?_);have:=M1 (E:=E.map f) (j:=S i) (v:=f E[S i]) (by simp[a]);rw[show i.toNat=i by lia]at this;show this
def lN{a:Type}{f:a->D}{E:List a}(d:a)(e:0<=i)(g:i<Z E):atI (E.map f) i=aa (f (E.getD i.toNat d)):=by
 have(x,b,c):=kP e g;rw[c,bp,b];rfl
abbrev f7:Nat->D->Prop
 | 0,_=>False
 |n+1,d=>match d with
  |.lst E=>∀x∈E,f7 n x
  |.tup E=>∀x∈E,f7 n x
  |d=>d.scalar=ac
def y9{f:D->D->Option Bool}:∀(E:LD),(∀x∈E,f x x=aa ac)->c6 f E E=aa ac
 | [],_=>rfl
 |x::E,h=>by
  unfold c6;rw[h x aA,y9 E λy a=>h y (bj _ a)];rfl
def za:∀(n:Nat) (d:D),f7 n d->deq n d d=aa ac
 | 0,_,h=>h.elim
 |n+1,d,h=>by
  cases d with
  |lst E=>
   change(if Z E=Z E then c6 _ E E else aa af)=_;rw[if_pos rfl]
   show y9 E λx a=>za n x (h x a)
  |tup E=>
   change(if Z E=Z E then c6 _ E E else ab)=_;rw[if_pos rfl]
   show y9 E λx a=>za n x (h x a)
  |non=>rfl
  |bl b=>change aa (b==b)=_;rw[beq_self_eq_true]
  |int b=>change aa (b==b)=_;rw[beq_self_eq_true]
  |str b=>change aa (b==b)=_;rw[beq_self_eq_true]
  | _=>cases h
def f7.mono:∀(n:Nat) (d:D),f7 n d->f7 (n+1) d
 | 0,_,h=>h.elim
 |n+1,d,h=>by
  cases d with
  |lst E=>show λx a=>f7.mono n x (h x a)
  |tup E=>show λx a=>f7.mono n x (h x a)
  | _=>show h
def f7.le{m:Nat}(h:f7 n d)(hm:n<=m):f7 m d:=by
 induction hm with
 |refl=>show h
 |step _ a=>show f7.mono _ _ a
def GE(h:f7 20 d):dEq d d=aa (.bl ac):=by
 unfold dEq;rw[za 20 d h];rfl
def kS(i j:Int):dEq (.int i) (.int j)=aa (.bl (i==j)):=rfl
def rM(i j:Str):dEq (.str i) (.str j)=aa (.bl (i==j)):=rfl
def O5(i j:Bool):dEq (.bl i) (.bl j)=aa (.bl (i==j)):=rfl
def O6(i j:Int):dNe (.int i) (.int j)=aa (.bl (!(i==j))):=rfl
def O7(i j:Str):dNe (.str i) (.str j)=aa (.bl (!(i==j))):=rfl
variable{f:MF1}
def ap{m:D->D->OD}{g:MF1}{x:D}(a:f M=aa x)(h2:g M=aa y)(b:m x y=aa d):m2 m f g M=aa d:=by
 unfold m2;rw[a,h2];show b
variable{b:Bool}
def bE(h:f M=aa (.bl b)):mB f M=aa b:=by
 unfold mB;rw[h];rfl
def dB(h:f M=aa d)(h':m7 d=aa b):bO f M=aa b:=by
 unfold bO;rw[h];show h'
variable{f:MF4}
def pK(h:f M=aa b):gP f M=aa (!b):=by
 unfold gP;rw[h];rfl
variable{g:MF4}
def O8{r:Option Bool}(h:f M=aa ac)(h':g M=r):dL f g M=r:=by
 unfold dL;rw[h];show h'
def O9(h:f M=aa af):dL f g M=aa af:=by
 unfold dL;rw[h];rfl
def Pa(h:f M=aa ac):mOr f g M=aa ac:=by
 unfold mOr;rw[h];rfl
def Pb{r:Option Bool}(h:f M=aa af)(h':g M=r):mOr f g M=r:=by
 unfold mOr;rw[h];show h'
variable{a:Bool}
def jZ(h:f M=aa a)(h':g M=aa b):dL f g M=aa (a && b):=by
 cases a with
 |true=>show O8 h h'
 |false=>show O9 h
def rN(h:f M=aa a)(h':g M=aa b):mOr f g M=aa (a || b):=by
 cases a with
 |true=>show Pa h
 |false=>show Pb h h'
variable{f:MF1}
def pL{g:MF1}(h:f M=aa (.bl a))(h':g M=aa (.bl b)):kG f g M=aa (.bl (a && b)):=by
 unfold kG;rw[bE h]
 grind
def GF{g:MF1}(h:f M=aa (.bl a))(h':g M=aa (.bl b)):vOr f g M=aa (.bl (a || b)):=by
 unfold vOr;rw[bE h]
 grind
def Pc(h:f M=aa (.bl a)):kH f M=aa (.bl (!a)):=by
 unfold kH;rw[bE h];rfl
def aj{g:MF2}(h:f M=aa d)(h':g M=aa ds):ag f g M=aa (d::ds):=by
 unfold ag;rw[h,h'];rfl
variable{f:MF2}
def cw(h:f M=aa ds):bn f M=aa (.tup ds):=by
 unfold bn;rw[h];rfl
def bB(h:f M=aa ds):aI f M=aa (.lst ds):=by
 unfold aI;rw[h];rfl
def aY{g:MF1}{r:OD}(h:f M=aa ds)(h':g M=aa (.int i))(h2:atI ds i=r):mIx f g M=r:=by
 unfold mIx;rw[h,h'];show h2
def pM{W8:Int->Int->Prop}[∀i j,Decidable (W8 i j)]{g:Int->Int->D}{j:Int}(h:W8 i j):dI W8 g (.int i) (.int j)=aa (g i j):=by
 change(if W8 i j then aa _ else ab)=_;rw[if_pos h]
variable{f:MF1}
def Pd{i:Nat}(h:f M=aa d)(h':M[i]?=aa (.own E))(a:Z E<16777216):dh i f M=aa (.nx (M.set i (.own (E++[d])))):=by
 unfold dh;rw[h,h'];change(if Z E<16777216 then _ else ab)=_;rw[if_pos a]
variable{ρ1:LS}
def dP{g:D->LS->Option LS}(a:g d M=aa ρ1)(h2:ft ρ1=aa b)(c:b=ac->fe ρ1=aa y):gR g ft fe M d=aa (if b then aa y else ab):=by
 unfold gR
 grind
def eM{g:D->LS->Option LS}(a:g d M=aa ρ1)(h2:ft ρ1=aa ac)(b:fe ρ1=aa y):gR g ft fe M d=aa (aa y):=dP a h2 λ_=>b
def d8(h:f M=aa d)(h':iL d=aa ds):aS f M=aa ds:=by
 unfold aS;rw[h];show h'
variable{g:MF1}
def dQ(h:f M=aa d):bf f g M=aa d:=by
 unfold bf;rw[h];rfl
def bH{r:OD}(h:f M=ab)(h':g M=r):bf f g M=r:=by
 unfold bf;rw[h];show h'
def pN{f:MF2}{n:Int}(h:f M=aa [.int n])(b:0<=n)(a:n<2 ^ 62):io f M=aa ((bw (S n)).map λ(i:Nat)=>D.int i):=by
 unfold io;rw[h];change(if -_<=n/\n<2 ^ 62 then aa _ else ab)=_;rw[if_pos (by lia,a),O3]
 grind
variable{m:LD->OD}{ns:LSt}
def cD{cn f:Str}{as:LD}(h:fo M=aa (.ins cn ns ds))(hn:ns.contains f=af)(h':fa M=aa as):aO cn f m fo fa M=m (.ins cn ns ds::as):=by
 unfold aO
 grind
def bI{cn f a:Str}(h:fo M=aa (.ins a ns ds))(hn:a≠cn):aO cn f m fo fa M=ab:=by
 unfold aO
 grind
def itD(z:Int×Int):D:=.tup [.int z.1,.int z.2]
abbrev shD:Option Bool->D
 |none=>.non
 |some b=>.bl b
def InN(n:Nat)(L:LII):Prop:=∀z∈L,0<=z.1/\z.1<(n:Int)/\0<=z.2
def Pe(bs:LI0):f7 2 (.lst (bs.map D.int)):=λx a=>by
 have(b,_,rfl):=aG.mp a;show rfl
def jz{es:LOB}(a:0<=i)(b:i<Z es):atI (es.map shD) i=aa (shD (es.getD i.toNat ab)):=lN ab a b
def j4{es:LB0}(a:0<=i)(b:i<Z es):atI (es.map D.bl) i=aa (.bl (es.getD i.toNat af)):=lN af a b
def pO(e:Option Bool)(b:Bool):dIs (shD e) (.bl b)=aa (.bl (e==aa b)):=by
 cases e with
 |none=>rfl
 |some c=>cases b <;> cases c <;> rfl
def GG(e:Option Bool)(b:Bool):fZ (shD e) (.bl b)=aa (.bl (!(e==aa b))):=by
 cases e with
 |none=>rfl
 |some c=>cases b <;> cases c <;> rfl
abbrev Prt.toD:Prt->D
 |.inn t=>.tup [.str "in",.int t]
 |.out t=>.tup [.str "out",.int t]
 |.least k L=>.tup [.str "least",.int k,.lst (L.map itD)]
 |.most k L=>.tup [.str "most",.int k,.lst (L.map itD)]
abbrev Prt.obj:Prt->D
 |.inn t=>.ins "In" ["thing"] [.int t]
 |.out t=>.ins "Out" ["thing"] [.int t]
 |.least k L=>.ins "Least" ["bound","pieces"] [.int k,.lst (L.map itD)]
 |.most k L=>.ins "Most" ["bound","pieces"] [.int k,.lst (L.map itD)]
abbrev Prt.Ok(n:Nat):Prt->Prop
 |.inn t=>0<=t/\t<(n:Int)
 |.out t=>0<=t/\t<(n:Int)
 |.least _ L=>InN n L/\Z L<=100000
 |.most _ L=>InN n L/\Z L<=100000
def Pf(p:Int->Bool)(L:LII):((L.filter λz=>p z.1).map λz=>D.int z.2)=((L.filter λz=>p z.1).map (·.2)).map D.int:=by
 rw[map_map];rfl
def zb(p:Int->Bool)(L:LII):jw [.lst ((L.filter λz=>p z.1).map λz=>D.int z.2)]=aa (.int (bR p L)):=by
 rw[Pf,O4];rfl
def GH:∀{bs:LB0} {us:LVa},aH (bs.map V.bl) us->us=bs.map lz
 | [],_,.nil=>rfl
 |b::bs,_,.cons r t=>by
  rw[GH t];cases (r);rfl
def Pg(bs:LB0):((bw (Z bs)).any λi=>(bs[i]?).getD af)=bs.any id:=by
 rw[jP,any_eq_true,any_eq_true];constructor
 .rintro⟨i,hi,e⟩;have a:=fF.mp hi;simp only[b7 a]at e;show(_,iB a,e)
 .rintro⟨b,c,e⟩;have(i,hi,rfl):=List.getElem_of_mem c;show(i,fF.mpr hi,by simp only[b7 hi];show e)
def Ph{h:Heap}{o:Obj}(a:∀b x,b∉[h.objs.size]->(h.push o).get? b=aa x->h'.get? b=aa x):∀b x,h.get? b=aa x->h'.get? b=aa x:=
 λb x e=>a b x (λhm=>by rw[bq.mp hm]at e;show gE _ (bD e)) (bz _ e)
def Pi(j:X.calm=ac):iI X (.builtin "any") (λE H Q=>∃(p:Addr) (bs:LB0),E=[.ref p]/\SqL X.K H p (bs.map V.bl)/\Q (.bl (bs.any id)) H):=by
 intro U s C H E us Q I r h;have(l,bs,rfl,n,q):=h;have(u,rfl,rx):=mU r;subst rx;have(L,w,pl,hz):=I.list n;have e:=GH w;subst e;have c:=pl.isList;have d:l<s.heap.objs.size:=by have(_,e,_):=c;show bD e
 show call_any_walk (wpAny_pyIter_list c ?_)
 show(s.heap.objs.size,_,_,(bs.map lz).toArray.size,_,_,λi=>(bs[i]?).getD af,rfl,Walks.list (A:=X.A.in1) (I.ok.hd j) _ l (bY d) (bs.map lz).toArray,
  ((_,cO _ rfl,rfl,rfl),c.push _),λi v z y x g f=>?_,λh' B m=>?_)
 .have a:(bs.map lz)[i]?=aa v:=by simpa using g
  have(b,e,rfl):=pA a;simp only[e]at f;show oH f
 .have e:((bw (bs.map lz).toArray.size).any λi=>(bs[i]?).getD af)=bs.any id:=by
   rw[size_toArray,aq];show Pg bs
  rw[e];show(.bl _,H,I.kept (Ph m),rfl,q)
abbrev jA:LD->Option (LB0)
 | []=>aa []
 |.bl b::ds=>(jA ds).map λr=>b::r
 | _=>ab
def GI:∀{ds:LD} {bs:LB0},jA ds=aa bs->ds=bs.map D.bl
 | [],_,e=>by cases e;rfl
 |.bl b::ds,_,e=>by
  dsimp only[jA]at e
  cases es:jA ds with
  |none=>rw[es]at e;cases e
  |some r=>rw[es]at e;cases e;rw[GI es];rfl
 |.int _::_,_,e=>by cases e
 |.non::_,_,e=>by cases e
 |.str _::_,_,e=>by cases e
 |.lst _::_,_,e=>by cases e
 |.tup _::_,_,e=>by cases e
 |.kl _::_,_,e=>by cases e
 |.kt _::_,_,e=>by cases e
 |.dic _ _::_,_,e=>by cases e
 |.ins _ _ _::_,_,e=>by cases e
def Pj(bs:LB0):jA (bs.map D.bl)=aa bs:=by
 induction bs with
 |nil=>rfl
 |cons n ns a=>rw[bG,jA,a];rfl
def ao.bls{G:Gc}{H:Hp}:∀{bs:LB0} {vs:LVv},ao G H (bs.map D.bl) vs->vs=bs.map V.bl
 | [],_,h=>h
 |b::bs,_,q2_=>by
  have(v,r,e,a,h2):=q2_;subst e;rw[ao.bls h2,show v=V.bl b from a];rfl
abbrev pP:LD->OD
 | [d]=>(lsD d).bind λds=>(jA ds).map λbs=>.bl (bs.any id)
 | _=>ab
def GJ{f:LB0->D}(e:(match ds with | [d]=>(lsD d).bind λds=>(jA ds).map f | _=>ab)=aa d):∃a E bs,ds=[a]/\lsD a=aa E/\E=bs.map D.bl/\d=f bs:=by
 split at e
 .rename_i a
  cases b:lsD a with
  |none=>rw[b]at e;nomatch e
  |some E=>
   rw[b]at e;replace e:(jA E).map f=aa d:=e
   cases c:jA E with
   |none=>rw[c]at e;nomatch e
   |some bs=>rw[c]at e;cases e;show(a,E,bs,rfl,b,GI c,rfl)
 .nomatch e
def Pl(i:X.calm=ac):pf c X (.builtin "any") pP:=by
 rintro U s C H vs us Q I l ⟨Hf,ds,d,b,r,e,k⟩;have(m,E,bs,rfl,f,rfl,rfl):=GJ e;have(v,h,j):=r.one;subst h;have(a,ws,g,q,B):=lK f j;subst g;show Pi i U s C H _ us Q I l (a,bs,rfl,?_,k _ Hf H (Ext.refl b) rfl);rw[<- B.bls];show b.seq q
def Pn:∀ds d,pP ds=aa d->d.scalar=ac:=λds d e=>by
 have(a,E,bs,rfl,b,rfl,rfl):=GJ e;rfl
def Po(bs:LB0):pP [.lst (bs.map D.bl)]=aa (.bl (bs.any id)):=by
 change(jA _).map _=_;rw[Pj];rfl
inductive Wrd where
 |make |may |never
 deriving DecidableEq
abbrev Wrd.s:Wrd->Str
 |.make=>"make"
 |.may=>"may"
 |.never=>"never"
structure Rul where
 w:Wrd
 hd:Int
 ps:List Prt
nonrec abbrev LRu:=List Rul
def Rul.hdD(r:Rul):D:=match r.w with
 |.never=>.non
 | _=>.int r.hd
def Rul.toD(r:Rul):D:=.tup [.str r.w.s,r.hdD,.lst (r.ps.map Prt.toD)]
structure Rul.Ok(n:Nat)(r:Rul):Prop where
 hd:r.w≠.never->0<=r.hd/\r.hd<(n:Int)
 ps:∀p∈r.ps,p.Ok n
 len:Z r.ps<=100000
def Rul.bodyLost(r:Rul)(es:LOB)(ws:LB0):Bool:=r.ps.any λp=>p.lost es ws
def lO{p q:Int->Bool}:∀{L:LII},(∀z∈L,0<=z.2/\(p z.1=ac->q z.1=ac))->bR p L<=bR q L
 | [],_=>Int.le_refl _
 |z::L,h=>by
  have b:=lO λy a=>h y (bj _ a);have(c,d):=h z aA;unfold bR at b ⊢
  grind
def pQ{p q:Int->Bool}{L:LII}(h:∀z∈L,p z.1=q z.1):bR p L=bR q L:=by
 unfold bR;rw[filter_congr h]
structure cR(es es':LOB):Prop where
 len:Z es'=Z es
 at':∀i,es.getD i ab=ab\/es'.getD i ab=es.getD i ab
structure nt(ws ws':LB0):Prop where
 len:Z ws'=Z ws
 at':∀i,ws.getD i af=ac->ws'.getD i af=ac
def cR.refl(es:LOB):cR es es:=(rfl,λ_=>.inr rfl)
def nt.refl(ws:LB0):nt ws ws:=(rfl,λ_ h=>h)
variable{es':LOB}
def Pp{es:LOB}{p:Prt}(f:cR es es')(h:p.Ok (Z es))(s:p.sure es=ac):p.sure es'=ac:=by
 have key:∀{i:Nat} {b:Bool},(es.getD i ab==aa b)=ac->(es'.getD i ab==aa b)=ac:=λ{i b} e=>by
  rcases f.at' i with z |z
  .grind
  .grind
 have a:∀{i:Nat},(!(es'.getD i ab==aa af))=ac->(!(es.getD i ab==aa af))=ac:=λ{i} e=>by
  grind
 cases p with
 |inn t=>show key s
 |out t=>show key s
 |least k L=>
  have s:=of_decide_eq_true s;show decide_eq_true (Int.le_trans s ?_);rw[gN,gN]
  show lO λz hz=>((h.1 z hz).2.2,λe=>key e)
 |most k L=>
  have s:=of_decide_eq_true s;show decide_eq_true (Int.le_trans ?_ s);rw[gN,gN];show lO λz hz=>((h.1 z hz).2.2,λe=>a e)
variable{ws:LB0}
def vb{es:LOB}{ws':LB0}{p:Prt}(f:cR es es')(g:nt ws ws')(h:p.Ok (Z es))(s:p.lost es ws=ac):p.lost es' ws'=ac:=by
 have key:∀{i:Nat} {b:Bool},(es.getD i ab==aa b)=ac->(es'.getD i ab==aa b)=ac:=λ{i b} e=>by
  rcases f.at' i with z |z
  .rw[z]at e;cases b <;> cases e
  .rw[z];show e
 cases p with
 |inn t=>
  have s:(_ || ws.getD t.toNat af)=ac:=s;change(_ || ws'.getD t.toNat af)=ac;rw[jQ]at s ⊢
  show s.imp key (g.at' _)
 |out t=>show key s
 |least k L=>
  have s:=of_decide_eq_true s;show decide_eq_true (Int.lt_of_le_of_lt (lO λz hz=>((h.1 z hz).2.2,λe=>?_)) s);rw[ce]at e ⊢;show(?_,?_)
  .cases q:(es.getD z.1.toNat ab==aa af)with
   |false=>rfl
   |true=>rw[key q]at e;show e.1
  .cases q:ws.getD z.1.toNat af with
   |false=>rfl
   |true=>rw[g.at' _ q]at e;show e.2
 |most k L=>
  have s:=of_decide_eq_true s;show decide_eq_true (Int.lt_of_lt_of_le s ?_);rw[gN,gN];show lO λz hz=>((h.1 z hz).2.2,λe=>key e)
def rO{a:Type}{p q:a->Bool}{E:List a}(h:∀x∈E,p x=ac->q x=ac)(s:E.any p=ac):E.any q=ac:=by grind
def Ite(K:aR)(l:Addr):It:=
  (λi H=> ∃E x, SqL K H l E/\E[i]? = aa x,
   λi H v H'=> ∃p x, v = .ref p/\H p = ab/\H' = upd H p (.tup [.int i, x])/\(∀E, SqL K H l E->E[i]? = aa x),
   λi H=> ∃E, SqL K H l E/\Z E<=i)
variable{elts:LEx}{kx:Nat}
def Pq(e it l:Addr)(ne:e≠it):
  jX P w K (.Tuple elts kx pos) (Ite K l) [e,it] e (λi h=>(∃old,IsEnum h e it (i:Int) old)/\h.IsListIter it l i) where
 mem:=by simp
 obj:=λi h st b hb=>by
  have((old,he),(o1,e1,_,d1)):=st;simp only[a9,dF,or_false]at hb
  rcases hb with rfl |rfl
  .show⟨_,he,λv q=>by nomatch q⟩
  .show⟨o1,e1,λv q=>by rw[d1]at q;nomatch q⟩
 keep:=λi h h' st k=>by
  have((old,he),h1):=st;show((old,k e (by simp) _ he),h1.at λo q=>k it (by simp) o q)
 item:=by
  intro X hP hw hK hc i U s C H W7 I hf st hg;subst hP hw hK;have((old,he),h1):=st;have(E,x,q1,hx):=hg;have(its1,r1,p1,z1):=I.list q1;have(u1,e1,ru1):=r1.get hx;show wpAny_pyNext_enum_item he h1 p1.isList (by simpa using e1) ne λh' a1 a3 a5 a6 a7=>(_,rfl,?_);show wpAny_letOwnedTupleGo_enum a1 λh'' b1 b2=>?_
  have lt:∀b∈[e,it],b<s.heap.objs.size:=λb hb=>by
   simp only[a9,dF,or_false]at hb
   rcases hb with rfl |rfl
   .show bD he
   .have(o,e,_):=h1;show bD e
  have kk:∀b o,b∉[e,it]->s.heap.get? b=aa o->h''.get? b=aa o:=λb o hb e=>by
   simp only[a9,dF,or_false,not_or]at hb;have(n1,n2):=hb;show(b2.2 b n1).trans (a7 b o n1 n2 e)
  have fr:=I.hok.fresh (aM _)
  have I2:Inv X U C (upd H s.heap.objs.size (.tup [.int i,x])) {s with heap:=h'',toks:=s.toks+1}:=
   (I.turnedMany kk hf).track (I.fpOk (aM _) fr) ((by change 2<=aU;decide),_,.cons (s.toks,rfl) (.cons ru1 .nil),(_,((b2.2 _ (lr (lt e (by simp)))).trans a5),rfl,_,rfl))
  show(.ref s.heap.objs.size,_,I2,rfl,(_,x,rfl,fr,rfl,λxs' h=>by rw[I.list_inj h q1];show hx),((u1,?_),(a3.at λo q=>(b2.2 it (eV ne)).trans q)),λb hb=>?_)
  .have:((i+1:Nat):Int)=i+1:=by push_cast;rfl
   rw[this];show b1
  .rw[aN (bY (lt b hb))];show(hf b hb).1
 done:=by
  intro X hP hw hK hc i U s C H W7 I hf st hg;subst hP hw hK;have((old,he),h1):=st;have(E,q1,hend):=hg;have(its1,r1,p1,z1):=I.list q1;have l1':=r1.length;show wpAny_pyNext_enum_end (I.ok.hd hc) he h1 p1.isList (by simp;lia) λh' kk=>(rfl,I.turnedMany (λb o hb q=>?_) hf);simp only[a9,dF,or_false,not_or]at hb;show kk b o hb.2 q
 self:=λ_ _ _ _ _ st h=>by have((old,he),_):=st;show wpAny_pyIter_enum he h
def Ps(K:aR)(a:TA):TI:=λC H R=>a C H λvs H1=>∃l,vs=[.ref l]/\(∃E,SqL K H1 l E)/\R (Ite K l) H1
variable{gF:Pos}{a:Expr}{ta:TA}
def GK(v:Gl X "enumerate")(hm:X.mg "enumerate"=ab)(ha:PA X [a] ta)(w:autoParam (aL [a] X.env=[(af,eval a X.env,)]) Zb):
  PI X (.Tuple elts kx gF) (.Call (.Name "enumerate" p) [a] [] pos) (Ps X.K ta):=by
 intro U s C H R I h;show Call_ (gJ I v hm boot_enumerate (jS (thn (ha pos U s C H _ I h) λus s1 (vs,H1,d,j,y)=>?_) (by rw[w];rfl) (by rfl)));have(l,e,(E,r),q):=y;subst e;have(u,rfl,ru):=mU j;subst ru;have(i,j,x,A):=d.list r;show call_enumerate_list x.isList λh' f m z n=>?_;show wpAny_pyIter_enum f ?_;show(_,_,_,_,H1,rfl,(d.kept n),Pq _ _ _ (Nat.succ_ne_self _),((_,f),m),λb g=>?_,q);simp only[a9,dF,or_false]at g
 have c:s1.heap.objs.size<=b:=by
  rcases g with rfl |rfl
  .show Nat.le_add_right _ _
  .show aM _
 show d.fpOk c (d.hok.fresh c)
abbrev iS:Nat->LD->LD
 | _,[]=>[]
 |i,x::E=>.tup [.int i,x]::iS (i+1) E
def zc:∀(i:Nat) (E:LD),Z (iS i E)=Z E
 | _,[]=>rfl
 |i,x::E=>by simp only[iS,cf,cf,zc]
def zd:∀(k:Nat) (E:LD) (i:Nat),(iS k E)[i]?=(E[i]?).map λx=>.tup [.int (k+i:Nat),x]
 | _,[],_=>rfl
 |k,x::E,0=>rfl
 |k,x::E,i+1=>by simp only[iS,g9,g9,zd _ E i,show k+1+i=k+(i+1) by lia]
abbrev ze:LD->OLD
 | [x]=>(lsD x).map (iS 0)
 | _=>ab
def jB(f:MF2)(M:LS):OLD:=(f M).bind ze
def Pt{f:MF2}(J:Gl X "enumerate")(hm:X.mg "enumerate"=ab)(ha:DA c X [a] f)(L:autoParam (aL [a] X.env=[(af,eval a X.env,)]) Zb):
  DI c X (.Tuple elts kx gF) (.Call (.Name "enumerate" p) [a] [] pos) (jB f):=
 PI.imp (GK J hm ha.pa L) λC H R Q=>by
  have(Hf0,H0,Hf,M,ds,st,b,k):=Q;unfold jB at b
  cases j:f M with
  |none=>rw[j]at b;nomatch b
  |some as=>
   rw[j]at b;replace b:ze as=aa ds:=b;show(Hf0,H0,Hf,M,as,st,j,λvs Hf' H' x r=>?_);unfold ze at b;split at b
   .rename_i dx
    cases ex:lsD dx with
    |none=>rw[ex]at b;nomatch b
    |some E=>
     rw[ex]at b;cases b;have(v,G,T):=r.one;have(N,h,l,w,y):=lK ex T;subst l;show(N,G,(h,x.s.seq w),k _ Hf' H' x λbm H2 f2 s2 i=>?_);have m:=(f2.trans s2).seq w;have h1:=y.length;show(λd e=>?_,λB=>(h,m,by rw[zc]at B;lia));rw[zd]at e
     cases n:E[i]? with
     |none=>rw[n]at e;nomatch e
     |some x'=>
      rw[n]at e;cases e;have(U,g,ru1):=y.get n;show((h,U,m,g),λz H3 (pp,z1,I,u,A,Y)=>?_);subst I A;have q:=Y h m;rw[g]at q;cases q;show(upd bm pp _,Ext.new s2 u,pp,_,rfl,ba,.cons (by rw[jR];rfl) (.cons (ru1.up (f2.trans (bQ (s2.free u)))) .nil))
   .nomatch b
abbrev jC:D->Option Key
 |.int i=>aa (.inl i)
 |.str x=>aa (.inr x)
 | _=>ab
def rP{k:Key}(e:jC d=aa k)(r:Rep G H d v):v=kV k:=by
 cases d <;> first |(cases e;done) |(cases e;show r)
def gt(ks:List Key)(k:Key):Bool:=ks.any λj=>decide (j=k)
def iT{a:Type}(ks:List Key)(E:List a)(k:Key)(x:a):List a:=if gt ks k=ac then ou (λj y=>if j=k then x else y) ks E else E++[x]
def ip(ks:List Key)(k:Key):List Key:=if gt ks k=ac then ks else ks++[k]
def GL{ks:List Key}{k:Key}{v:V}:∀{ks:List Key} {vs:LVv},(ks.zip vs).map (λa=>if a.1=k then (a.1,v,) else a)=ks.zip (ou (λj y=>if j=k then v else y) ks vs)
 | [],_=>rfl
 | _::_,[]=>rfl
 |j::ks,y::vs=>by
  simp only[fD,bG,tT,fD,GL (ks:=ks)]
  by_cases h:j=k
  .subst h;simp
  .simp[h]
def zf{k:Key}:∀{ks:List Key} {vs:LVv},Z ks=Z vs->((ks.zip vs).any λa=>decide (a.1=k))=gt ks k
 | [],[],_=>rfl
 | [],_::_,h=>by cases h
 | _::_,[],h=>by cases h
 |j::ks,y::vs,h=>by
  simp only[fD,gD,gD,zf (by simpa using h)];rfl
variable{ks:List Key}
def Pu{k:Key}(h:Z ks=Z vs):dO (ks.zip vs) k v=(ip ks k).zip (iT ks vs k v):=by
 unfold dO ip iT;rw[zf h]
 by_cases e:gt ks k=ac
 .rw[if_pos e,if_pos e,if_pos e,GL (ks:=ks)]
 .rw[if_neg e,if_neg e,if_neg e,zip_append h];rfl
def cb{a:Type}{vs:List a}{k:Key}{v:a}(h:Z ks=Z vs):Z (ip ks k)=Z (iT ks vs k v):=by
 unfold ip iT
 by_cases e:gt ks k=ac
 .rw[if_pos e,if_pos e,length_zipWith];lia
 .rw[if_neg e,if_neg e,aP,aP,h];rfl
def ao.zipW{G:Gc}{H:Hp}{k:Key}{d:D}{v:V}(q:Rep G H d v):∀{ks:List Key} {ds:LD} {vs:LVv},ao G H ds vs->ao G H (ou (λj y=>if j=k then d else y) ks ds) (ou (λj y=>if j=k then v else y) ks vs)
 | [],_,_,_=>.nil
 | _::_,[],_,h=>by cases (h);show .nil
 |j::ks,x::ds,_,q3_=>by
  have(u,r,e,a,h2):=q3_;subst e;rw[tT,tT];show .cons ?_ (ao.zipW q h2)
  grind
def ao.put{k:Key}(r:ao G H ds vs)(q:Rep G H d v):ao G H (iT ks ds k d) (iT ks vs k v):=by
 unfold iT
 by_cases e:gt ks k=ac
 .rw[if_pos e,if_pos e];show r.zipW q
 .rw[if_neg e,if_neg e];show r.append (.cons q .nil)
def pR(i:Nat)(M:LS):Option Fl:=aa (.nx (M.set i (.ownd [] [])))
def jD(i:Nat)(a b:MF1)(M:LS):Option Fl:=(b M).bind λd=>(a M).bind λx=>(jC x).bind λk=>match M[i]? with
 |some (.ownd ks E)=>if Z ks<16777216 then aa (.nx (M.set i (.ownd (ip ks k) (iT ks E k d)))) else ab
 | _=>ab
def rQ(x y:D):OD:=(jC x).bind λk=>match y with
 |.dic ks _=>aa (.bl (gt ks k))
 | _=>ab
variable{i:Nat}
def Pw(e:PS X st (jn FE (ig i))):DS c X st (pR i):=PS.imp e λW7 C H g=>by
 have(Hf0,H0,Hf,M,o,b,d,k):=g;cases d;intro q a;have x:Ext Hf H Hf (upd H q (.dK [])):=Ext.tmp b.sub a;show k _ Hf _ x.f (b.setOwn rfl x a (b.sub.free a) ([],ba,rfl,.nil))
variable{p':Pos}
def zg(i:Nat)(a:X.N.Nodup)(hi:autoParam (X.N[i]?=aa x) Zb)(e:autoParam (Loc X.env.scope x) Zf)(d:autoParam (gi (.Dict [] [] pos) (aa (.Name x b4)) p'.line X.env=pure af) Zb)(b:autoParam (LcF X x) Zg):
  DS c X (.Assign [.Name x b4] (.Dict [] [] pos) p') (pR i):=Pw (oT a hi e NF d b)
variable{fk fv:MF1}
def Px(w:PS X st (yv (cT i) (tD (Gx c X) fk) (tD (Gx c X) fv))):DS c X st (jD i fk fv):=PS.imp w λW7 C H B=>by
 have(Hf0,H0,Hf,M,o,n,a,k):=B;unfold jD at a
 cases g:fv M with
 |none=>rw[g]at a;nomatch a
 |some d=>
  rw[g]at a
  cases j:fk M with
  |none=>rw[j]at a;nomatch a
  |some x=>
   rw[j]at a
   cases m:jC x with
   |none=>rw[az,az,m]at a;nomatch a
   |some A=>
    simp only[az,az,m]at a;split at a
    .rename_i ks E es;split at a
     .rename_i N;cases a;show(Hf0,H0,Hf,M,d,n,g,λv b3 H1 p G=>?_);have b:=n.step p;have(l,el,J,L,vs,q,z,r):=b.ownAt rfl es;show(_,el,Hf0,H0,b3,M,x,b,j,λy bm H2 e I=>?_);have u:=rP m I;subst u;show(l,_,rfl,lF.k (e.h _ _ q) (by rw[dG,ox];lia),?_);show k C bm _ (p.f.trans e.f) ((b.step e).mutd rfl rfl es el (iT ks vs A v,?_,cb z,(r.up e.f).put (G.up e.f)));rw[ba,Pu z]
     .nomatch a
    .nomatch a
variable{i' value:Expr}
def zh(f:X.A.units+64<cLine)(b:PE X e (cT i))(a:DE c X i' fk)(hv:DE c X value fv)(d:autoParam (gi value (aa (.Subscript e i' b4)) pos.line X.env=pure af) Zb):
  DS c X (.Assign [.Subscript e i' b4] value pos) (jD i fk fv):=Px (FD (by lia) b a hv d)
def Py{k:Key}:∀{ks:List Key} {vs:LVv},Z ks=Z vs->(cQ (ks.zip vs) k).isSome=gt ks k:=λ{ks vs} h=>by
 rw[<- uJ,zf h]
variable{b:Expr}
def GM(L:X.A.units+64<cLine)(ha:DE c X a f)(B:DE c X b g)(hm:autoParam (jU .In b=af) Zl):DE c X (.Compare a [.In] [b] pos) (m2 rQ f g):=
 PE.imp (Lj (NB (by lia) ha B) hm) λC H Q G=>by
  have(Hf0,H0,Hf,M,d,st,p,k):=G;have(x,y,m,n,e):=m6 p;show(Hf0,H0,Hf,M,x,st,m,λv b3 H1 i I=>(Hf0,H0,b3,M,y,st.step i,n,λu bm H2 j J=>?_));unfold rQ at e
  cases h:jC x with
  |none=>rw[h]at e;nomatch e
  |some N=>
   rw[h]at e
   cases y with
   |dic ks E=>
    cases e;have(l,vs,el,q,z,r):=J;have w:=rP h I;subst w el;show(l,_,rfl,fY.k (j.s _ _ q),k _ bm H2 (i.trans j) ?_);rw[Py z]
    rfl
   | _=>nomatch e
def gx(i:Nat)(fk fv:MF1)(M:LS):Option Fl:=(fv M).bind λd=>(fk M).bind λx=>match x with
 | .int k=>(match M[i]? with
  |some (.own E)=>(ixN E.length k).map λj=>.nx (M.set i (.own (E.set j d)))
  | _=>ab)
 | _=>ab
def Pz(z:PS X st (jn (tD (Gx c X) fv) (xS (cT i) (tD (Gx c X) fk) yj))):DS c X st (gx i fk fv):=PS.imp z λW7 C H A=>by
 have(Hf0,H0,Hf,M,o,u,a,k):=A;unfold gx at a
 cases m:fv M with
 |none=>rw[m]at a;nomatch a
 |some d=>
  rw[m]at a
  cases n:fk M with
  |none=>rw[n]at a;nomatch a
  |some x=>
   rw[n]at a;obtain⟨e,rfl⟩:∃e,x=.int e:=by grind
   replace a:(match M[i]? with |some (.own E)=>(ixN E.length e).map λj=>Fl.nx _ | _=>ab)=aa o:=a
   split at a
   .rename_i E es
    cases p:ixN E.length e with
    |none=>rw[p]at a;nomatch a
    |some j=>
     rw[p]at a;cases a;show(Hf0,H0,Hf,M,d,u,m,λv b3 H1 w B=>?_);have b:=u.step w;have(l,el,I,J,vs,q,r):=b.ownAt rfl es;show(_,el,Hf0,H0,b3,M,.int e,b,n,λy bm H2 g G=>?_);show(l,vs,e,j,rfl,G,(g.h _ _ q),by rw[<- r.length];show p,(k C bm _ (w.f.trans g.f) ((b.step g).mutd rfl rfl es el (vs.set j v,ba,(r.up g.f).set j (B.up g.f)))))
   .grind
def GN(d:PE X e (cT i))(b:DE c X i' fk)(hv:DE c X value fv)(f:autoParam (swapsWithSole [.Subscript e i' b4] value pos.line X.env=pure af) Zb)(g:autoParam (swappedStores [.Subscript e i' b4] value X.env=pure ab) Zb)
 (a:autoParam ((jc [.Subscript e i' b4] X.env).map (·.2)=[assign (.Subscript e i' b4) X.env]) Zb)
 (ha:autoParam (∀ v,assign (.Subscript e i' b4) X.env v=(do
   let ov <- eX [v] (eval e X.env)
   let iv <- eX [v,ov] (eval i' X.env)
   gG b4
   eX [v,ov,iv] (setItem ov iv v)
   release [v,ov,iv] [])) Zd):
  DS c X (.Assign [.Subscript e i' b4] value pos) (gx i fk fv):=Pz (xU hv (xT d b ym ha) f g a)
def zi{G:Gc}{H:Hp}{f:D->D->Option Bool}(i:∀(g h x:D) (c d:Bool) (v:V),Rep G H g v->Rep G H h v->f g x=aa c->f h x=aa d->c=d):
  ∀{a b ys:LD} {c d:Bool} {vs:LVv},ao G H a vs->ao G H b vs->c6 f a ys=aa c->c6 f b ys=aa d->c=d
 | [],[],[],_,_,_,_,_,h1,h2=>by cases h1;cases h2;rfl
 | [],[],_::_,_,_,_,_,_,h1,h2=>by cases h1;cases h2;rfl
 | [],_::_,_,_,_,_,r1,r2,_,_=>by have:=r1.length;have:=r2.length;simp at *;lia
 | _::_,[],_,_,_,_,r1,r2,_,_=>by have:=r1.length;have:=r2.length;simp at *;lia
 | _::_,_::_,[],_,_,_,_,_,h1,h2=>by cases h1;cases h2;rfl
 |g::a,h::b,y::ys,c,d,vs,r1,r2,h1,h2=>by
  have(v,r,e,p,q):=r1;have(E,C,e',p2,u):=r2;subst e;cases e';have(w,z,j,l,rfl):=uR h1;have(A,B,m,n,rfl):=uR h2;rw[(i _ _ _ _ _ _ p p2 j m),(zi i q u l n)]
abbrev vD:V->D
 |.bl b=>.bl b
 |.int i=>.int i
 |.str x=>.str x
 | _=>.non
def GO(s:d.scalar=ac)(r:Rep G H d v):d=vD v:=by
 cases d <;> first |(cases s;done) |(rw[show v=_ from r];rfl)
def vc{a:Addr}(s:d.scalar=ac)(r:Rep G H d (.ref a)):False:=by
 cases d <;> first |(cases s;done) |(cases (r))
def rR{G:Gc}{H:Hp}:∀(n:Nat) {r u x:D} {m p:Bool} {v:V},Rep G H r v->Rep G H u v->deq n r x=aa m->deq n u x=aa p->m=p
 | 0,_,_,_,_,_,_,_,_,h,_=>by cases h
 |n+1,r,u,x,m,p,v,r1,r2,h1,h2=>by
  replace h1:m8 _ r x=aa m:=h1;replace h2:m8 _ u x=aa p:=h2
  have W5:∀{E ys:LD},r=.lst E->u=.lst ys->m=p:=λ{E ys} l g=>by
   subst l g;have(a,vs,e,q,B):=r1;have(y,w,e',i,c):=r2;rw[e]at e';cases e';rw[q]at i;cases i;have A:=B.length;have C:=c.length
   cases x with
   |lst j=>
    replace h1:(if E.length=Z j then c6 _ E j else aa af)=aa m:=h1;replace h2:(if ys.length=Z j then c6 _ ys j else aa af)=aa p:=h2
    by_cases z:E.length=Z j
    .rw[if_pos z]at h1;rw[if_pos (by lia)]at h2;show zi (f:=deq n) (λ_ _ _ _ _ _=>rR n) B c h1 h2
    .grind
   | _=>cases h1
  have T:∀{E ys:LD},r=.tup E->u=.tup ys->m=p:=λ{E ys} l g=>by
   subst l g;have(a,vs,e,q,B):=r1;have(y,w,e',i,c):=r2;rw[e]at e';cases e';rw[q]at i;cases i;have A:=B.length;have C:=c.length
   cases x with
   |tup j=>
    replace h1:(if E.length=Z j then c6 _ E j else ab)=aa m:=h1;replace h2:(if ys.length=Z j then c6 _ ys j else ab)=aa p:=h2
    by_cases z:E.length=Z j
    .rw[if_pos z]at h1;rw[if_pos (by lia)]at h2;show zi (f:=deq n) (λ_ _ _ _ _ _=>rR n) B c h1 h2
    .grind
   | _=>cases h1
  have no:∀{d:D} {b:Bool},m8 (deq n) d x=aa b->d.scalar=ac\/(∃E,d=.lst E)\/∃E,d=.tup E:=λ{d b} h=>by
   unfold m8 at h
   grind
  rcases no h1 with s1 |⟨E,l⟩ |⟨E,l⟩
  .have:r=u:=by
    rcases no h2 with s2 |⟨ys,g⟩ |⟨ys,g⟩
    .rw[GO s1 r1,<- GO s2 r2]
    .subst g;have(a,_,e,_):=r2;subst e;show(vc s1 r1).elim
    .subst g;have(a,_,e,_):=r2;subst e;show(vc s1 r1).elim
   grind
  .rcases no h2 with s2 |⟨ys,g⟩ |⟨ys,g⟩
   .subst l;have(a,_,e,_):=r1;subst e;show(vc s2 r2).elim
   .grind
   .subst l g;have(a,vs,e,q,B):=r1;have(y,w,e',i,c):=r2;rw[e]at e';cases e';rw[q]at i;cases i
  .rcases no h2 with s2 |⟨ys,g⟩ |⟨ys,g⟩
   .subst l;have(a,_,e,_):=r1;subst e;show(vc s2 r2).elim
   .subst l g;have(a,vs,e,q,B):=r1;have(y,w,e',i,c):=r2;rw[e]at e';cases e';rw[q]at i;cases i
   .show T l g
abbrev dC(x:D):LD->Option Bool
 | []=>aa af
 |d::ds=>(deq 19 d x).bind λb=>(dC x ds).map λr=>b || r
def f8(x y:D):OD:=((iL y).bind (dC x)).map .bl
def PB:∀x y d,f8 x y=aa d->d.scalar=ac:=λ_ _ d e=>o9 d e
def GP{x:D}{b:Bool}(h:dC x (d::ds)=aa b):∃a c,deq 19 d x=aa a/\dC x ds=aa c/\b=(a || c):=by
 dsimp only[dC]at h
 cases e:deq 19 d x with
 |none=>rw[e]at h;nomatch h
 |some a=>
  cases f:dC x ds with
  |none=>rw[e,f]at h;nomatch h
  |some c=>rw[e,f]at h;cases h;show(a,c,rfl,rfl,rfl)
def zj{a:Type}{f g:a->Bool}:∀{l:List a},(∀x∈l,f x=g x)->l.any f=l.any g
 | [],_=>rfl
 |x::l,h=>by simp only[gD,gD,h x aA,zj λy b=>h y (bj _ b)]
open Classical in
def rS{U:PNS}{C:St}{H:Hp}{s:ah}{A:ca}{x:D}{J:V}{u:Value}(I:Inv X U C H s)(E:A.units+19<cLine)(rx:Rep (Gx c X) H x J)(ru:aC J u):
  ∀{ds:LD} {vs:LVv} {us:LVa} {b:Bool},ao (Gx c X) H ds vs->aH vs us->dC x ds=aa b ->
   ∃f:Value->Bool,(∀y∈us,cB A s y u (f y)/\∃d v,Rep (Gx c X) H d v/\aC v y/\deq 19 d x=aa (f y))/\us.any f=b
 | [],_,_,b,r,rv,h=>by
  cases (show _=[]from r);cases rv;cases h
  show(λ_=>af,(λy g=>by cases g),rfl)
 |d::ds,_,_,b,q4_,rv,h=>by
  have(v,G,l,n,M):=q4_;subst l;have(i,Q,m,h2,rfl):=GP h
  cases rv with
  | @cons _ y _ us a w=>
   have(f,B,ha):=rS I E rx ru M w h2;have j:cB A s y u i:=yO I 19 E m n rx a ru;show(λz=>if z=y then i else f z,λz hz=>?_,?_)
   .by_cases e:z=y
    .subst e;simp only[if_true];show(j,d,v,n,a,m)
    .simp only[e,if_false];show B z ((a9.mp hz).resolve_left e)
   .rw[gD,if_pos rfl,<- ha]
    congr 1
    by_cases g:y∈us
    .have(_,d',N,G,p,h'):=B y g;have l:N=v:=aC.inj p a;subst l;have L:f y=i:=rR 19 G n h' m;show zj λz hz=>?_
     by_cases e:z=y
     .subst e;simp[L]
     .simp[e]
    .show zj λz hz=>?_;have e:z≠y:=λq=>g (q▸hz);simp[e]
def PD(E:X.A.units+64<cLine):OpD c X (cY .In) f8:=by
 rintro U s C H v u w G Q I m ru ⟨Hf,x,y,d,g,l,B,e,k⟩;unfold f8 at e
 cases h:(iL y).bind _ with
 |none=>rw[h]at e;nomatch e
 |some b=>
  rw[h]at e;cases e
  cases es:iL y with
  |none=>rw[es]at h;nomatch h
  |some ds=>
   rw[es]at h;have(a,vs,p,q,r):=rp es (B.up g);subst p;subst ru;have fin:∃n H',Inv X U C H' s/\aC n _/\Q n H':=(.bl b,H,I,rfl,k _ Hf H (Ext.refl g) rfl)
   rcases q with q |q
   .have(L,j,pl,hz):=I.list q;have(f,i,ha):=rS (A:=X.A.in1) I (by grind) (l.up g) m r j h;show SeqAt.in_listAt f pl.isList (λz hz=>(i z (by grind)).1) ?_;rw[show L.toArray.any f=L.any f by simp,ha];show fin
   .have(L,j,pl,hz):=I.tuple q;have(f,i,ha):=rS (A:=X.A.in1) I (by grind) (l.up g) m r j h;show SeqAt.in_tupleAt f pl (λz hz=>(i z (by grind)).1) ?_;rw[show L.toArray.any f=L.any f by simp,ha];show fin
def Ris(E:Array Nat):Prop:=E.toList.Pairwise (· < ·)
variable{E:Array Nat}
def GQ(h:Ris E){a b:Nat}(c:a<b)(d:b<E.size):E.getD a j<E.getD b j:=by
 have e:=pairwise_iff_getElem.mp h a b (by simpa using mx c d) (by simpa using d) c;rw[qE,qE,dif_pos (mx c d),dif_pos d];show e
def zk(h:Ris E){a b:Nat}(c:a<=b)(d:b<E.size):E.getD a j<=E.getD b j:=by
 rcases Nat.eq_or_lt_of_le c with e |e
 .subst e;show aM _
 .show fH (GQ h e d)
def zl{E:Array Nat}{j:Nat}(h:Ris E):∀(a lo hi:Nat),lo<=hi->hi<=E.size->hi-lo<=a->(∀i,i<lo->E.getD i j<j)->(∀i,hi<=i->i<E.size->¬E.getD i j<j) ->
  um E j a lo hi<=E.size/\(∀i,i<um E j a lo hi->E.getD i j<j)/\∀i,um E j a lo hi<=i->i<E.size->¬E.getD i j<j
 | 0,lo,hi,h1,h2,h3,h4,h5=>by
  have e:lo=hi:=by lia
  subst e
  show(h2,h4,h5)
 |a+1,lo,hi,h1,h2,h3,h4,h5=>by
  dsimp only[um]
  by_cases c:lo<hi
  .rw[if_pos c]
   by_cases hm:E.getD ((lo+hi) / 2) j<j
   .simp only[hm];show zl h a _ hi (by lia) h2 (by lia) (λi b=>(mw (zk h (by lia) (by lia)) hm)) h5
   .simp only[hm];show zl h a lo _ (by lia) (by lia) (by lia) h4 λi b f d=>(hm (mw (zk h b f) d))
  .rw[if_neg c];have e:lo=hi:=by lia
   subst e;show(h2,h4,h5)
def zm(h:Ris E)(j:Nat):cH E j<=E.size/\(∀i,i<cH E j->E.getD i j<j)/\∀i,cH E j<=i->i<E.size->¬E.getD i j<j:=
 zl h E.size 0 E.size (cy _) (aM _) (by lia) (λi hi=>by lia) λi hi a=>by lia
def PF(h:Ris E)(hi:i<E.size):cH E (E[i]+1)=i+1:=by
 have(g,h2,f):=zm h _;have e:E.getD i (E[i]+1)=E[i]:=by rw[qE,dif_pos hi];rfl
 by_cases d:cH E (E[i]+1)<=i
 .show absurd (by rw[e];lia) (f i d hi)
 .by_cases c:i+1<cH E (E[i]+1)
  .have a:=h2 _ c;have b:=GQ h (j:=E[i]+1) (show i<i+1 by lia) (by lia)
   lia
  .lia
def PH(h:Ris E):cH E 0=0:=by
 have(a,h2,b):=zm h 0
 by_cases e:0<cH E 0
 .have:=h2 0 e;lia
 .lia
def PJ(h:Ris E)(hn:E[cH E j]?≠aa j):Ris (dH.insertAt E (cH E j) j):=by
 have(w,h2,r):=zm h j;unfold Ris dH.insertAt;have g:∀i,(hi:i<E.size)->E.getD i j=E[i]:=λi hi=>by rw[qE,dif_pos hi];rfl
 simp only[Array.toList_append,xh,Array.toList_extract,Array.toList_extract];simp only[extract_eq_drop_take]
 have l:∀x∈E.toList.take (cH E j),x<j:=λx p=>by
  have(i,hi,e):=mem_take_iff_getElem.mp p;have n:i<cH E j:=by lia
  have:=h2 i n;rw[g i (by lia)]at this;rw[<- e];show this
 have f:∀x∈E.toList.drop _,j<x:=λx p=>by
  have(i,hi,e):=mem_drop_iff_getElem.mp p;have m:cH E j+i<E.size:=by simpa[Nat.add_comm]using hi
  have a:=r _ (by lia) m;rw[g _ m]at a;have ex:x=E[cH E j+i]:=by rw[<- e];simp
  rw[ex]
  rcases Nat.lt_or_ge j E[cH E j+i]with q |q
  .show q
  .exfalso;have v:E[cH E j+i]=j:=by lia
   have d:cH E j<E.size:=by lia
   have b:=zk h (j:=j) (show cH E j<=cH E j+i by lia) m;rw[g _ m,g _ d,v]at b;have c:=r _ (aM _) d;rw[g _ d]at c;show hn (by rw[mh d];congr 1;lia)
 have u:List.take (E.size-cH E j) _=List.drop (cH E j) E.toList:=lh (by simp);rw[u];show tV.mpr (tV.mpr (ED (take_sublist _ _) h,by simp,λa ha b d=>?_),ED (drop_sublist _ _) h,λa ha b d=>?_)
 .have:b=j:=by simpa using d
  subst this;show l a ha
 .rcases bx.mp ha with ha |ha
  .show mx (l a ha) (f b d)
  .have:a=j:=by simpa using ha
   subst this;show f b d
def PK(n:Nat):Ris (Array.range n):=by
 unfold Ris;rw[Array.toList_range];show pairwise_lt_range
variable{t:dH}
def GR(h:t.slot j=.empty\/t.slot j=.dummy):t.place[cH t.place j]?≠aa j:=λe=>by
 have:t.slot j=.live (cH t.place j):=by
  unfold dH.slot
  grind
 grind
def zn{t:dH}{h:Int}:∀(a:Nat) (p:dH.Probe) {j:Nat} {d:Option Nat},(∀d',p.dummy=aa d'->t.place[cH t.place d']?≠aa d')->dH.probe.go t (λ_=>h+1) h a p=aa (.empty j d) ->
  t.place[cH t.place j]?≠aa j/\∀d',d=aa d'->t.place[cH t.place d']?≠aa d'
 | 0,_,_,_,_,e=>by cases e
 |a+1,p,j,d,hd,e=>by
  dsimp only[dH.probe.go]at e;split at e
  .rename_i b;cases e;show(GR (.inl b),hd)
  .rename_i b;show zn a _ (λd' q=>?_) e
   have:d'=p.j:=by
    unfold dH.advance at q;split at q
    .show(du q).symm
    .show(du q).symm
   subst this;show GR (.inr b)
  .rename_i i b;split at e
   .cases e
   .show zn a _ (λd' q=>hd d' ?_) e;unfold dH.advance at q
    split at q <;> show q
def PL{h:Int}{w:Bool}(e:t.freeSlot h=aa (j,w,)):t.place[cH t.place j]?≠aa j:=by
 unfold dH.freeSlot at e;split at e
 .rename_i c d b;have(a,h2):=zn _ _ (λd' q=>by nomatch q) b
  cases d with
  |none=>cases e;show a
  |some d'=>cases e;show h2 _ rfl
 .grind
def vd(t:dH)(n:Nat):Ris (t.standIn n).place/\(t.standIn n).led=t.led:=(PK n,rfl)
def PM(n:Nat)(h:Ris t.place):Ris (t.orStandIn n).place/\(t.orStandIn n).led=t.led:=by
 unfold dH.orStandIn;split
 .show(h,rfl)
 .show vd t n
def PN(es:Array (Int×Value))(h:Int)(x:Value)(hr:Ris t.place):Ris (layNew t es h x).2.1.place/\(layNew t es h x).2.1.led=t.led:=by
 unfold layNew;split
 .rename_i slot wd a;show PM _ (PJ hr (PL a))
 .show vd t _
variable{led:Bool}
def PP{mask finger moves:Nat}{plain:Bool}{c:Array Int}{t':dH}{order:Array Nat}(e:dH.laid mask finger moves led plain c=aa (t',order,)):Ris t'.place/\t'.led=led:=by
 unfold dH.laid at e
 cases d:dH.layClean mask c with
 |none=>rw[d]at e;nomatch e
 |some owner=>
  rw[d]at e;cases e;show(?_,rfl);unfold Ris;rw[pairwise_map,pairwise_filterMap];show List.Pairwise.imp (λ{a b} f=>?_) pairwise_lt_range
  simp_all
def PQ(es:Array (Int×Value))(a:Nat):Ris (mH t es a).2.1.place/\(mH t es a).2.1.led=t.led:=by
 unfold mH;split
 .rename_i t' order b;dsimp only;split
  .show(PP b)
  .show vd t _
 .show vd t _
def d3(P:ci)(w:World)(h:Heap)(a:Addr)(led:Bool)(S:Int->Bool)(n:Nat):Prop:=
 ∃o b d c,h.get? a=aa o/\o.ExactSet/\o.data=.set b d c/\ElemsOf (fU P w) b.toList/\(∀k,S k=ac↔∃e∈b.toList,(fU P w).is k e.2=ac)
  /\ b.size<lx/\c.fits b.size=ac/\b.size=n/\Ris c.place/\c.led=led
variable{h:Heap}{a:Addr}
def d3.stay{S:Int->Bool}(q:d3 P w h a led S n)(k:∀o,h.get? a=aa o->h'.get? a=aa o):d3 P w h' a led S n:=by
 have(o,b,c,e,d,r):=q;show(o,b,c,e,k o d,r)
def d3.congr{S b:Int->Bool}{c:Nat}(q:d3 P w h a led S n)(e:∀k,S k=b k)(en:n=c):d3 P w h a led b c:=by
 have:S=b:=funext e;subst this en;show q
variable{a4:Array (Int×Value)}{ep:Nat}{tb:dH}
def GS{o:Obj}{b:Array (Int×Value)}{c:dH}{S:Int->Bool}(m:h.get? a=aa o)(f:o.ExactSet)(hd:o.data=.set a4 ep tb)
 (d:ElemsOf (fU P w) b.toList)(hm:∀k,S k=ac↔∃e∈b.toList,(fU P w).is k e.2=ac)(j:b.size<lx)(l:c.fits b.size=ac)(hr:Ris c.place)(g:c.led=led):
  (h.update a (Obj.putSet b c)).get? a=aa {o with data:=.set b (ep+1) c}/\d3 P w (h.update a (Obj.putSet b c)) a led S b.size:=by
 have i:=(SetOf_store m f hd d hm j l).1;show(i,_,b,ep+1,c,i,f,rfl,d,hm,j,l,rfl,hr,g)
variable{s:ah}
def GT{g:Bool->Sem Unit}(H:∀(b:Bool) (i:ah) (x:Unit->ah->Prop),x () i->wpAny (model P w) A (g b) x W7 i){o:Obj}{c:Array (Int×Value)}{d:dH}{S:Int->Bool}
 (B:s.heap.get? a=aa o)(m:o.ExactSet)(hd:o.data=.set a4 ep tb)(l:ElemsOf (fU P w) c.toList)(hm:∀k,S k=ac↔∃e∈c.toList,(fU P w).is k e.2=ac)
 (p:c.size<lx)(G:d.fits c.size=ac)(hr:Ris d.place)(f:d.led=led){dm:Bool}{R:Option Bool->ah->Prop}
 (h:∀h',gm a s.heap h'->d3 P w h' a led S c.size->R (aa ac) {s with heap:=h'}):
  wpAny (model P w) A (do
    storeSet a c d
    if (!dm && d.tooFull)=ac then do
      g (mH d c (oQ c.size)).2.2
      storeSet a (mH d c (oQ c.size)).1 (mH d c (oQ c.size)).2.1
      pure (aa ac)
     else pure (aa ac)) R W7 s:=by
 show am (wpAny_storeSet_of B hd ?_ (fits_of_scanBound p));have(n,I):=GS B m hd l hm p G hr f;have E:=oO s.heap a (Obj.putSet c d);split
 .have pp:=relayAll_perm d c (oQ c.size);have y:=relayAll_fits d c (oQ c.size);have u:=PQ (t:=d) c (oQ c.size);generalize mH d c _=z at pp y u ⊢;have(j,J,L):=z;have v:j.size=c.size:=by rw[<- i6,pp.length_eq,i6]
  show am (H _ _ _ (am (wpAny_storeSet_of n rfl ?_ (fits_of_scanBound (by rw[v];show p)))));have C:=(GS n m rfl (l.perm pp) (λk=>(hm k).trans (λ(e,r,q)=>(e,pp.mem_iff.mpr r,q),λ(e,r,q)=>(e,pp.mem_iff.mp r,q))) (by rw[v];show p) y u.1 (u.2.trans f)).2;rw[v]at C;show aD (h _ (E.trans (oO _ a _)) C)
 .show aD (h _ E I)
def PR{S:Int->Bool}{k:Int}{x:Value}{Q:Bool->ah->Prop}(r:(fU P w).is k x=ac)(C:x.scannable=ac)(q:d3 P w s.heap a led S n)(room:n+1<lx)
 (h:∀h',gm a s.heap h'->d3 P w h' a led (λE=>S E || decide (E=k)) (if S k then n else n+1)->Q (!S k) {s with heap:=h'}):wpAny (model P w) A (setAddHashed a x ((fU P w).hash k)) Q W7 s:=by
 have(o,a4,ep,tb,u,l,hd,f,hm,J,H,hn,hr,g):=q;show jV (am (oI u hd H ?_));dsimp only;rw[byScan_of C J f,if_pos rfl];show am (am (lw (am (wpAny_setScan_of r u hd H f ?_))))
 cases hi:List.findIdx? _ a4.toList with
 |some j=>
  have(M,N,_):=findIdx?_eq_some_iff_getElem.mp hi;have y:=(hm k).mpr (a4.toList[j],iB M,N);show aD (aD ?_)
  have fin:=h s.heap (gm.refl a s.heap) (o,a4,ep,tb,u,l,hd,f,λE=>by
   rw[jQ,decide_eq_true_eq,<- hm E];show(λz=>z.elim id (λe=>e▸y),.inl),J,H,by rw[y];show hn,hr,g)
  rw[y]at fin
  show fin
 |none=>
  have y:S k=af:=by
   grind
  have L:∀b c p,p () c->wpAny (model P w) A (match b with |true=>rule "set.scan.the-table-gave-way" |false=>pure ()) p W7 c:=
   λb c p i=>by cases b <;> first |show aD i |show lw i
  have pp:=layNew_perm tb a4 ((fU P w).hash k) x;have B:=layNew_fits tb a4 ((fU P w).hash k) x;have G:=PN a4 ((fU P w).hash k) x hr;generalize layNew tb a4 _ x=z at pp B G ⊢;have(d,T,dm,U):=z;dsimp only at pp B G ⊢;rw[xh]at pp;have I:d.size=n+1:=by rw[<- i6,pp.length_eq,aP,i6,hn];rfl
  have fin:∀h',gm a s.heap h'->d3 P w h' a led _ d.size->Q ac {s with heap:=h'}:=λh' v m=>by
   have:=h h' v;rw[y]at this;rw[I]at m;show this m
  show am (L _ _ _ ?_);split
  .show am ?_;rw[hashByValue_scannable 8 C]
   show aD (GT (led:=led) (λb c p i=>by cases b <;> first |show aD i |show lw i) u l hd ((f.push r C).perm pp) (mem_push_iff r hm pp) (by rw[I];show room) ?_ ?_ ?_ λh' v m=>?_)
   .split
    .grind
    .show dH.fits_plain_off B
   .grind
   .grind
   .dsimp only;show aD (fin h' v m)
  .show am (aD ?_)
   show GT (λb c p i=>by cases b <;> first |show aD i |show lw i) u l hd ((f.push r C).perm pp) (mem_push_iff r hm pp) (by rw[I];show room) B G.1 (G.2.trans g) λh' v m=>?_
   dsimp only;show aD (fin h' v m)
set_option maxRecDepth 100000
def eO(w:World):Bool:=!(w.params.followText "set-order")
variable{I:Addr}{wr:LAd}{G:Array GenState->Array GenState->Prop}{Pv:Nat->Value->Prop}
def PU{St:Nat->ah->Prop}(W:WalksS P w A.in1 I fp wr G n Pv St)(S:Addr)(f:S∉fp)(val:Nat->Int)(hv:∀i v,Pv i v->∃t,v=.int (val i) t)(B:n+1<lx):
  ∀(k i:Nat) (s:ah),n-i=k->i<=n->St i s->d3 P w s.heap S led (λj=>(eW val i).any (·==j)) (Z (eW val i)) ->
   (∀c,Moved (S::wr) G s c->d3 P w c.heap S led (λj=>(eW val n).any (·==j)) (Z (eW val n))->R (.ok (.ret .none)) c) ->
   gH (model P w) A (.builtin "set.update.loop" ([.ref S,.ref I],[])) R s:=by
 have g:=λh=>f (W.sub _ h);have sub:∀b∈wr,b∈S::wr:=λb h=>bj _ h;intro k
 induction k with
 |zero=>
  intro i s r hi st q fin;obtain rfl:i=n:=by lia
  show ko F.entry_set_update_loop ?_
  show am (W.done s _ _ st λc m=>(aD (fin c (m.mono sub) (q.stay λo e=>m.heap S o g e))))
 |succ k u=>
  intro i s r hi st q fin;have lt:i<n:=by lia
  show ko F.entry_set_update_loop ?_;show am (W.item i s _ _ lt st λv c p d m=>?_);have(t,rfl):=hv i v p;show am (jV ?_);show jV (am ((fU P w).pyHash (intKind_is _ _ _ _) ?_));have room:Z (eW val i)+1<lx:=by have:=firstMet_length_le val i;lia
  show PR (intKind_is _ _ _ _) rfl (q.stay λo e=>m.heap S o g e) room λh' l x=>?_;have y:d3 P w h' S led (λj=>(eW val _).any (·==j)) (Z (eW val _)):=x.congr (λj=>by rw[firstMet_succ,step_any]) (by rw[firstMet_succ,step_length]);show aD (mE F.plain_set_update_loop _,u _ _ (by lia) lt (W.frame _ c _ _ d (ki _) λb a o e=>?_) y λs2 m2 z=>?_)
  .rw[l.2 b λh=>f (by rw[<- h];show a)];show e
  .show fin s2 (Moved.trans W.gtrans ((m.mono sub).then_heap (ki _) λb o a e=>?_) m2) z;rw[l.2 b λh=>a (by rw[h];show aA)];show e
nonrec def jE(led:Bool):Obj:={cls:=.type "set",dict:=ab,data:=.set #[] 0 (.fresh 0 0 led)}
def PV(a:Value){Q:PRS}(h:Q (.ref s.heap.objs.size) {s with heap:=s.heap.push (jE (eO w))}):
  gH (model P w) A (.call (.builtin "set.__new__") ([.type "set",a],[])) (wants Q W7) s:=by
 show codeAny_of_tree ?_;show am (qX (F.newCall_set_1 a) (aD (mE F.plain_set_new _,ko F.entry_set_new ?_)));have b:=sub_set_self
 wp_walk
 show wpAny_askSetting (aD ?_);show am (wpAny_alloc (aD (aD h)))
def PY(h:Heap)(led:Bool):d3 P w (h.push (jE led)) h.objs.size led (λ_=>af) 0:=
 (_,#[],0,_,cO _ rfl,(rfl,rfl,rfl),rfl,λe a=>by simp at a,λk=>by simp,by decide,rfl,rfl,by unfold Ris;simp[dH.fresh],rfl)
set_option maxRecDepth 100000
variable{ns:LI0}
set_option maxHeartbeats 8000000 in
def PZ{items:Array Value}{Q:PRS}(hh:A.handled=ab)(hl:s.heap.IsList l items)(hi:gg items.toList ns)(hb:items.size+1<lx)
 (h:∀ (h':Heap) (g:Nat),d3 P w h' s.heap.objs.size (eO w) (λj=>(eW (λi=>ns.getD i 0) items.size).any (·==j)) (Z (eW (λi=>ns.getD i 0) items.size)) ->
   (∀b o,b<s.heap.objs.size->s.heap.get? b=aa o->h'.get? b=aa o)->s.toks<=g->Q (.ref s.heap.objs.size) {s with heap:=h',toks:=g}):
  wpAny (model P w) A (call (.type "set") [.ref l]) Q W7 s:=by
 have(c,tl,L):=ly.mro;have E:=ly.made;have M:=ly.sub;show wpAny_call (codeAny_of_tree ?_);change wpAny _ _ (callAny (.type "set") _) _ _ _;show aD (Code.quiet_builtin _ (by decide +kernel),ko F.entry_type_call ?_);rw[ca.under_plain (weight_type_call_type "set" [.ref l] []) rfl];have h1:=ly.notType;have h2:=ly.canCreate;have hct:=F.typeCall_set_1 (.ref l)
 repeat (any_goals (first |assumption |wp_step))
 show lu (PV (.ref l) (W7:=W7) (Q:=λN d=>N=.ref s.heap.objs.size/\d={s with heap:=s.heap.push (jE (eO w))}) (rfl,rfl)) λr d hr=>?_
 cases r with
 |error e=>show hr
 |ok fl=>
  cases fl with
  |ret N=>
   have(rfl,rfl):=hr;have g0:(s.heap.push (jE (eO w))).get? s.heap.objs.size=aa (jE (eO w)):=cO _ rfl
   have hT:uq {s with heap:=s.heap.push (jE (eO w))} (.ref s.heap.objs.size) "set":=(_,g0,rfl)
   have hli:=ly.init.lookup;have hbi:=ly.init.bind (.ref s.heap.objs.size)
   repeat (any_goals (first |assumption |wp_step))
   show lu (xz (R:=wants (λr cc=>r=.none/\∃ h' g,cc={ s with heap:=h',toks:=g }/\s.toks<=g /\
     d3 P w h' s.heap.objs.size (eO w) (λj=>(eW (λi=>ns.getD i 0) items.size).any (·==j)) (Z (eW (λi=>ns.getD i 0) items.size)) /\
     (∀b o,b<s.heap.objs.size->s.heap.get? b=aa o->h'.get? b=aa o)) W7) ly.init.plain F.entry_set_init (check_set_init_1 hT ?_)) λy cc a=>?_
   .have((oc,od,odt,os),u,n,nl,p):=hl;simp only at n p;subst n p;have x:(s.heap.push (jE (eO w))).get? l=aa {cls:=.type "list",dict:=od,data:=.seq items nl,slots:=os}:=bz _ u;have k1:=F.sub_list_set;have k2:=F.sub_list_frozenset;have k3:(kz "list" == kz "dict")=af:=by decide
    have q:(s.heap.push (jE (eO w))).IsList l items:=(_,x,rfl,nl,rfl);unfold d7.«set.__init__» noKeywords d7.Frozenset.updateFrom;generalize z:pyIter=PI
    wp_walk
    subst z;show wpAny_pyIter_list q (am (wpAny_runValue ?_));have lt:l<s.heap.objs.size:=bD u;have C:A.in1.in1.in1.handled=ab:=by simp[hh]
    have G:l≠(s.heap.push (jE (eO w))).objs.size:=by rw[jg];show bY (kh lt)
    have H:s.heap.objs.size∉[(s.heap.push (jE (eO w))).objs.size,l]:=by
     rw[jg];simp only[a9,dF,or_false,not_or];show(bY (c8 _),lr lt)
    have hv:∀(i:Nat) (v:Value),items[i]?=aa v->∃t,v=.int ((λi=>ns.getD i 0) i) t:=λi v hv=>gg.int_at hi i v (by rw[qC];show hv);show PU (led:=eO w) ((Walks.list C _ l G items).toS) s.heap.objs.size H (λi=>ns.getD i 0) hv hb (items.size-0) 0 _ (by lia) (cy _) ((_,cO _ rfl,rfl,rfl),(q.push _)) ?hS0 ?hR
    case hS0=>show((PY (P:=P) (w:=w) s.heap (eO w)).stay λo e=>bz _ e).congr (λ_=>rfl) rfl
    case hR=>
     intro s' hm B;have(h',g',d',J,I):=s';have U:g'=s.gens:=hm.gens;have T:d'=s.drawn:=hm.drawn;have Y:I=s.os:=hm.os;subst U T Y;change wpAny _ _ _ _ _ _;show aD ?_;change wpAny _ _ (ret mL) _ _ _;show aD (rfl,h',J,rfl,hm.toks,B,λb o m e=>?_);have n2:b≠(s.heap.push (jE (eO w))).objs.size:=by rw[jg];show bY (kh m)
     show hm.heap b o ?_ (bz _ (bz _ e));simp only[a9,dF,or_false,not_or];show(bY m,n2)
   .cases y with
    |error e=>show a
    |ok f=>
     cases f with
     |ret r=>
      have(rfl,h',g,rfl,htk,q',kk):=a
      repeat (any_goals (first |assumption |wp_step))
      show h _ _ q' kk htk
     | _=>show a.elim
  | _=>show hr.elim
set_option maxRecDepth 100000
def zo{a:Type}:∀(l:List a) (i:Nat) (x:a),l[i]?=aa x->(x::l.eraseIdx i).Perm l
 | [],_,_,h=>by simp at h
 |y::l,0,x,h=>by simp at h;subst h;rfl
 |y::l,i+1,x,h=>by
  have:=zo l i x (by simpa using h);show(List.Perm.swap y x _).trans (xr y this)
def GU{d:Type}(next:Nat->Nat):∀(a k:Nat) (left:List d) (out:Array d),Z left=a->(jd.go next a k left out).toList.Perm (out.toList++left)
 | 0,k,left,out,h=>by
  obtain rfl:left=[]:=tS.mp h;dsimp only[jd.go]
  simp
 |a+1,k,left,out,h=>by
  dsimp only[jd.go]
  have b:next k % Z left<Z left:=Nat.mod_lt _ (by lia)
  have c:=b7 b;rw[c]
  show(GU next a _ _ _ (by rw[length_eraseIdx_of_lt b];lia)).trans ?_
  rw[xh,cG];show xq _ (zo left _ _ c)
def zp{a:Type}(next:Nat->Nat)(E:Array a):(jd next E).toList.Perm E.toList:=by
 have:=GU next E.size 0 E.toList #[] (by simp)
 simpa[jd]using this
def P0{a:Source}{Q:Nat->ah->Prop}(hn:n≠0)(h:∀i,i<n->Q i {s with drawn:=s.drawn.bump a}):wpAny (model P w) A (choose a n) Q W7 s:=λΓ p b=>
 (hn,h _ (Nat.mod_lt _ (Nat.pos_of_ne_zero hn)))
def GV{b:Type}:∀(n:Nat) (E:List b) {s:ah} {Q:List b->ah->Prop},Z E=n->(∀ys d,ys.Perm E->Q ys {s with drawn:=d})->wpAny (model P w) A (drawOrder n E) Q W7 s
 | 0,E,s,Q,hl,h=>by
  obtain rfl:E=[]:=tS.mp hl;have:=h [] s.drawn (tX _)
  show aD (by cases s;show this)
 |n+1,[],s,Q,hl,h=>by cases hl
 |n+1,x::E,s,Q,hl,h=>by
  show am (P0 (by simp) λi hi=>?_);have a:=b7 hi;rw[a];show am (GV n _ (by rw[length_eraseIdx_of_lt hi];lia) λys d c=>aD (h _ d ((xr _ c).trans (zo _ _ _ a))))
set_option maxRecDepth 100000
def iU:Slot "set_iterator" "__next__" "set_iterator.__next__" :=
 .of (owner:="set_iterator") (n:="__next__") (by rw[ku,km];kernel_rfl) (by decide +kernel) (by decide +kernel) (by decide +kernel) (by first |show .inl (by decide +kernel) |grind) (by rw[mD];kernel_rfl)
def ve:mJ table "set_iterator.__next__"=aa d7.«set_iterator.__next__»:=entryFor_of_fast (by kernel_rfl)
def vf(a:Value):argsOk "set_iterator.__next__" ([a],[]):=by unfold argsOk;kernel_rfl
def GW:Slot "set_iterator" "__iter__" "set_iterator.__iter__" :=
 .of (owner:="set_iterator") (n:="__iter__") (by rw[ku,km];kernel_rfl) (by decide +kernel) (by decide +kernel) (by decide +kernel) (by first |show .inl (by decide +kernel) |grind) (by rw[mD];kernel_rfl)
def P1:mJ table "set_iterator.__iter__"=aa d7.«dict_keyiterator.__iter__»:=
 entryFor_alias (id':="dict_keyiterator.__iter__") (by kernel_rfl) (by first |rfl |decide +kernel |(unfold String.splitOn;simp +decide [String.splitOnAux])) (by decide +kernel) (by kernel_rfl)
def P2(a:Value):argsOk "set_iterator.__iter__" ([a],[]):=by unfold argsOk;kernel_rfl
nonrec abbrev iq(h:Heap)(I:Addr)(b:Value)(i:Nat)(a:Addr)(n ep:Nat):Prop:=
 h.get? I=aa {cls:=.type "set_iterator",dict:=ab,data:=.fields #[b,cu i,.ref a,cu n,cu ep],slots:=#[]}
variable{slot:Nat}{Q:Option Value->ah->Prop}
def GX{slot':Nat}{o:Obj}{v:Value}(b:iq s.heap I (cu slot) i a n ep)(m:s.heap.get? a=aa o)(hd:o.data=.set a4 ep tb)(l:tb.fits a4.size=ac)(hn:a4.size=n)
 (h:∀(A':ca) (d:PRS) (R:Option (Value×Nat)->ah->Prop),R (aa (v,slot',)) s->wpAny (model P w) A' (setNext a slot i ep) R d s)
 (j:∀h',iq h' I (cu slot') (i+1) a n ep->gm I s.heap h'->Q (aa v) {s with heap:=h'}):wpAny (model P w) A (hZ (.ref I)) Q W7 s:=by
 have c:s.TypeIs (.ref I) "set_iterator":=(_,b,rfl);unfold hZ;show am (oK (oF (name:=ur "__next__") c iU (jT iU c ve ?_ (vf _))));change wpAny _ _ (fieldsOf (.ref I) >>= _) _ _ s;show am (ue b rfl ?_);show am (qT m hd l ?_);have e:(((a4.size:Nat):Int) != (n:Int))=af:=by rw[hn];simp
 rw[e,if_neg bK];change wpAny _ _ (setNext a ((slot:Nat):Int).toNat ((i:Nat):Int).toNat (S ((ep:Nat):Int)) >>= _) _ _ s;show am (h _ _ _ ?_);show am (oG b (by simp) λp f s1=>?_);show am (oG f (by simp) λh2 g s2=>aD (v,rfl,aD (j h2 ?_ (gm.trans s1 s2))));change h2.get? I=_;rw[g];rfl
def GY{o:Obj}(l:A.handled=ab)(c:iq s.heap I (cu slot) i a n ep)(p:s.heap.get? a=aa o)(hd:o.data=.set a4 ep tb)(j:tb.fits a4.size=ac)(hn:a4.size=n)
 (g:∀(A':ca) (e:PRS) (R:Option (Value×Nat)->ah->Prop),R ab s->wpAny (model P w) A' (setNext a slot i ep) R e s)
 (h:∀h',Heap.ExtBut I s.heap h'->Q ab {s with heap:=h'}):wpAny (model P w) A (hZ (.ref I)) Q W7 s:=by
 have d:s.TypeIs (.ref I) "set_iterator":=(_,c,rfl);unfold hZ;show am (oK (oF (name:=ur "__next__") d iU (jT iU d ve ?_ (vf _))));change wpAny _ _ (fieldsOf (.ref I) >>= _) _ _ s;show am (ue c rfl ?_);show am (qT p hd j ?_);have f:(((a4.size:Nat):Int) != (n:Int))=af:=by rw[hn];simp
 rw[f,if_neg bK];simp only[cL,cL,cL];show am (g _ _ _ ?_);show am (oG c (by simp) λr q s1=>?_);change wpAny _ _ (newExc (.type "StopIteration") [] >>= _) _ _ _;show am ?_;simp only[newExc,newTuple];show am (ja ?_ (by size_fits))
 show am (m:=qW _ _) (qX (a:=mL) (by first |rfl |(simp only[qW];rfl)) ?_)
 show ja ?_ (by size_fits);show am (wpAny_handled ?_);rw[show A.in1.handled=ab from l];show am (aD (wpAny_throw ?_));show am (qV (T:="StopIteration") (b:=ac) (_,cO _ rfl,rfl) isSubtype_stop ?_);show aD (h _ ((s1.extBut.push _).push _))
variable{T:Addr}{pls:Array Value}
def P3{pl:Nat}{o:Obj}{q:Int}{v:Value}(c:iq s.heap I (.ref T) i a n ep)(f:s.heap.get? a=aa o)(hd:o.data=.set a4 ep tb)(e:tb.fits a4.size=ac)(hn:a4.size=n)
 (l:s.heap.get? T=aa {cls:=.type "tuple",data:=.seq pls})(p:pls[i]?=aa (cu pl))(m:a4[pl]?=aa (q,v,))
 (j:∀h',iq h' I (.ref T) (i+1) a n ep->gm I s.heap h'->Q (aa v) {s with heap:=h'}):wpAny (model P w) A (hZ (.ref I)) Q W7 s:=by
 have b:s.TypeIs (.ref I) "set_iterator":=(_,c,rfl);unfold hZ;show am (oK (oF (name:=ur "__next__") b iU (jT iU b ve ?_ (vf _))));change wpAny _ _ (fieldsOf (.ref I) >>= _) _ _ s;show am (ue c rfl ?_);show am (qT f hd e ?_);have g:(((a4.size:Nat):Int) != (n:Int))=af:=by rw[hn];simp
 rw[g,if_neg bK];change wpAny _ _ (seqItems? (.ref T) >>= _) _ _ s;show am (uf l rfl ?_)
 change wpAny _ _ (match pls[S ((i:Nat):Int)]? with |some (.int place _)=>_ |some _=>_ |none=>_) _ _ s
 rw[cL,p];change wpAny _ _ (setNextDrawn a ((pl:Nat):Int).toNat (S ((ep:Nat):Int)) >>= _) _ _ s;simp only[cL,cL];show am ?_;unfold setNextDrawn;show am (oI f hd e ?_);dsimp only;rw[if_neg (by simp)];rw[m];show aD ?_;show am (oG c (by simp) λd h s1=>aD (v,rfl,aD (j d ?_ s1)));change d.get? I=_;rw[h];rfl
def P4{o:Obj}(l:A.handled=ab)(c:iq s.heap I (.ref T) i a n ep)(p:s.heap.get? a=aa o)(hd:o.data=.set a4 ep tb)(j:tb.fits a4.size=ac)(hn:a4.size=n)
 (d:s.heap.get? T=aa {cls:=.type "tuple",data:=.seq pls})(q:pls[i]?=ab)
 (h:∀h',Heap.ExtBut I s.heap h'->Q ab {s with heap:=h'}):wpAny (model P w) A (hZ (.ref I)) Q W7 s:=by
 have e:s.TypeIs (.ref I) "set_iterator":=(_,c,rfl);unfold hZ;show am (oK (oF (name:=ur "__next__") e iU (jT iU e ve ?_ (vf _))));change wpAny _ _ (fieldsOf (.ref I) >>= _) _ _ s;show am (ue c rfl ?_);show am (qT p hd j ?_);have f:(((a4.size:Nat):Int) != (n:Int))=af:=by rw[hn];simp
 rw[f,if_neg bK];change wpAny _ _ (seqItems? (.ref T) >>= _) _ _ s;show am (uf d rfl ?_)
 change wpAny _ _ (match pls[S ((i:Nat):Int)]? with |some (.int place _)=>_ |some _=>_ |none=>_) _ _ s
 rw[cL,q];show am (oG c (by simp) λv g r=>?_);show am (oG g (by simp) λx u s1=>?_);change wpAny _ _ (newExc (.type "StopIteration") [] >>= _) _ _ _;show am ?_;show am (ja ?_ (by size_fits))
 show am (m:=qW _ _) (qX (a:=mL) (by first |rfl |(simp only[qW];rfl)) ?_)
 show ja ?_ (by size_fits);show am (wpAny_handled ?_);rw[show A.in1.handled=ab from l];show am (aD (wpAny_throw ?_));show am (qV (T:="StopIteration") (b:=ac) (_,cO _ rfl,rfl) isSubtype_stop ?_);show aD (h _ (((gm.trans r s1).extBut.push _).push _))
set_option maxRecDepth 100000
def P5:mJ table "set.__iter__"=aa d7.«frozenset.__iter__»:=
 entryFor_alias (id':="frozenset.__iter__") (by kernel_rfl) (by first |rfl |decide +kernel |(unfold String.splitOn;simp +decide [String.splitOnAux])) (by decide +kernel) (by kernel_rfl)
abbrev rT(pl:Array Nat):Nat->Nat
 | 0=>0
 |i+1=>pl.getD i 0+1
def GZ{pl:Array Nat}(hi:i<pl.size):rT pl (i+1)=pl[i]+1:=by
 change pl.getD i 0+1=_;simp[qE,hi]
def G0{a b:Type}{f:a->Option b}{g:a->b}:∀(l:List a),(∀x∈l,f x=aa (g x))->l.filterMap f=l.map g
 | [],_=>rfl
 |x::l,h=>by simp only[qJ,h x aA,bG,G0 l λy c=>h y (bj _ c)]
def G1{pl:Array Nat}(h:Ris pl):∀i,i<=pl.size->cH pl (rT pl i)=i
 | 0,_=>PH h
 |i+1,hi=>by
  rw[GZ (by lia)];show PF h (by lia)
def vg{Q:Bool->ah->Prop}(h:Q (w.params.followText "set-order") s):wpAny (model P w) A setsByText Q W7 s:=by
 show am (wpAny_askSetting (aD h))
def G2{o:Obj}{R:Option (Value×Nat)->ah->Prop}(c:s.heap.get? a=aa o)(hd:o.data=.set a4 ep tb)(b:tb.fits a4.size=ac)(d:w.params.followText "set-order"=ac)
 (h:R (((jd (w.params.setOrder a ep) a4)[i]?).map λe=>(e.2,slot,)) s):wpAny (model P w) A (setNext a slot i ep) R W7 s:=by
 show am (oI c hd b ?_);show am (vg ?_);rw[d,if_pos rfl,if_neg (by simp)];show am ?_;show am (oI c hd b ?_);show am (vg ?_);rw[d,if_pos rfl];show am (wpAny_askSetting (aD (aD h)))
def G3{o:Obj}{R:Option (Value×Nat)->ah->Prop}(d:s.heap.get? a=aa o)(hd:o.data=.set a4 ep tb)(c:tb.fits a4.size=ac)(e:w.params.followText "set-order"=af)(f:(!tb.plain && decide (a4.size>1))=af)(b:tb.led=ac)
 (h:R (match a4[cH tb.place slot]?,tb.place[cH tb.place slot]? with |some (_,x),aa j=>aa (x,j+1,) | _,_=>ab) s):wpAny (model P w) A (setNext a slot i ep) R W7 s:=by
 show am (oI d hd c ?_);show am (vg ?_);rw[e,if_neg bK];change wpAny _ _ (if (!tb.plain && decide _)=ac then _ else _) _ _ s;rw[f,if_neg bK];change wpAny _ _ ((if _=ac then unsupported "set:maker-not-led" else pure ()) >>= _) _ _ s;rw[b,Bool.not_true,Bool.false_and,if_neg bK];show am (aD (aD h))
def zq{b:Value}{Q:PRS}(d:iq s.heap I b i a n ep)(h:Q (.ref I) s):wpAny (model P w) A (pyIter (.ref I)) Q W7 s:=by
 have c:s.TypeIs (.ref I) "set_iterator":=(_,d,rfl);show wpAny_pyIter_slot c GW (jT GW c P1 (aD (_,rfl,"set_iterator",_,c,iU.lookup,h)) (P2 _))
def P6{o:Obj}(hh:A.handled=ab)(ne:a≠I)(hd:o.data=.set a4 ep tb)(hf:tb.fits a4.size=ac)(hn:a4.size=n)(ht:w.params.followText "set-order"=ac):
  WalksS P w A I [I,a] [I] (λx y=>y=x) n (λi v=>((jd (w.params.setOrder a ep) a4).toList.map (·.2))[i]?=aa v) (λi s=>iq s.heap I (cu ((0:Nat):Int)) i a n ep/\s.heap.get? a=aa o) where
 sub:=λb hb=>by simp at hb;simp[hb]
 grefl:=λ_=>rfl
 gtrans:=λ_ _ _ h1 h2=>h2.trans h1
 frame:=λi s h' tk st _ hk=>(hk I (by simp) _ st.1,hk a (by simp) _ st.2)
 item:=λi s Q W7 hi st hQ=>by
  have hz:(jd (w.params.setOrder a ep) a4).size=n:=by rw[<- i6,(zp _ _).length_eq,i6,hn]
  have hx:_[i]?=aa (jd (w.params.setOrder a ep) a4)[i]:=mh (by lia);show GX st.1 st.2 hd hf hn (λA' E' R r=>G2 st.2 hd hf ht (by rw[hx];show r)) λh' g sb=>?_;show hQ _ _ (by rw[cx,qC,hx];rfl) (g,(sb.2 a ne).trans st.2) (λb o' hb e=>(sb.2 b (λh=>hb (by simp[h]))).trans e,rfl,rfl,rfl,aM _)
 done:=λs Q W7 st hQ=>by
  have hz:(jd (w.params.setOrder a ep) a4).size=n:=by rw[<- i6,(zp _ _).length_eq,i6,hn]
  have hx:(jd (w.params.setOrder a ep) a4)[n]?=ab:=Array.getElem?_eq_none (by lia);show GY hh st.1 st.2 hd hf hn (λA' E' R r=>G2 st.2 hd hf ht (by rw[hx];show r)) λh' eb=>hQ _ (λb o' hb e=>eb b o' (λh=>hb (by simp[h])) e,rfl,rfl,rfl,aM _)
 self:=λi s Q W7 st hQ=>zq st.1 hQ
def P7{o:Obj}(hh:A.handled=ab)(ne:a≠I)(hd:o.data=.set a4 ep tb)(hf:tb.fits a4.size=ac)(hn:a4.size=n)(ht:w.params.followText "set-order"=af)(hw:(!tb.plain && decide (a4.size>1))=af)(hled:tb.led=ac)(hr:Ris tb.place):
  WalksS P w A I [I,a] [I] (λx y=>y=x) n (λi v=>(a4.toList.map (·.2))[i]?=aa v) (λi s=>iq s.heap I (cu ((rT tb.place i:Nat):Int)) i a n ep/\s.heap.get? a=aa o) where
 sub:=λb hb=>by simp at hb;simp[hb]
 grefl:=λ_=>rfl
 gtrans:=λ_ _ _ h1 h2=>h2.trans h1
 frame:=λi s h' tk st _ hk=>(hk I (by simp) _ st.1,hk a (by simp) _ st.2)
 item:=λi s Q W7 hi st hQ=>by
  have hz:tb.place.size=a4.size:=by simp only[dH.fits,ce,beq_iff_eq]at hf;show hf.1
  have hb:=G1 hr i (by lia);have hx:a4[i]?=aa a4[i]:=mh (by lia);have hp:tb.place[i]?=aa tb.place[i]:=mh (by lia);have es:rT tb.place _=tb.place[i]'(by lia)+1:=GZ (by lia);show GX st.1 st.2 hd hf hn (slot':=rT tb.place _) (λA' E' R r=>G3 st.2 hd hf ht hw hled (by rw[hb,hx,hp];rw[es]at r;show r)) λh' g sb=>?_;show hQ _ _ (by rw[cx,qC,hx];rfl) (g,(sb.2 a ne).trans st.2) (λb o' hb e=>(sb.2 b (λh=>hb (by simp[h]))).trans e,rfl,rfl,rfl,aM _)
 done:=λs Q W7 st hQ=>by
  have hz:tb.place.size=a4.size:=by simp only[dH.fits,ce,beq_iff_eq]at hf;show hf.1
  have hb:=G1 hr n (by lia);have hx:a4[n]?=ab:=Array.getElem?_eq_none (by lia);show GY hh st.1 st.2 hd hf hn (λA' E' R r=>G3 st.2 hd hf ht hw hled (by rw[hb,hx];show r)) λh' eb=>hQ _ (λb o' hb e=>eb b o' (λh=>hb (by simp[h])) e,rfl,rfl,rfl,aM _)
 self:=λi s Q W7 st hQ=>zq st.1 hQ
def P8{o:Obj}(hh:A.handled=ab)(ne:a≠I)(nT:T≠I)(hd:o.data=.set a4 ep tb)(hf:tb.fits a4.size=ac)(hn:a4.size=n){ord:LN}(hp:ord.Perm (bw n)):
  WalksS P w A I [I,a,T] [I] (λx y=>y=x) n (λi v=>(ord.filterMap λj=>(a4[j]?).map (·.2))[i]?=aa v)
   (λi s=>iq s.heap I (.ref T) i a n ep/\s.heap.get? a=aa o/\s.heap.get? T=aa {cls:=.type "tuple",data:=.seq (ord.map λ(j:Nat)=>cu j).toArray}) where
 sub:=λb hb=>by simp at hb;simp[hb]
 grefl:=λ_=>rfl
 gtrans:=λ_ _ _ h1 h2=>h2.trans h1
 frame:=λi s h' tk st _ hk=>(hk I (by simp) _ st.1,hk a (by simp) _ st.2.1,hk T (by simp) _ st.2.2)
 item:=λi s Q W7 hi st hQ=>by
  have hl:Z ord=n:=by rw[hp.length_eq,bU]
  have lt:∀j∈ord,j<a4.size:=λj hj=>by rw[hn];show fF.mp (hp.mem_iff.mp hj)
  have hj:ord[i]?=aa _:=b7 (by lia);have hlt:ord[i]'(by lia)<a4.size:=lt _ (iB _);have hx:=mh hlt
  have em:(ord.filterMap λj=>(a4[j]?).map (·.2))=ord.map λj=>((a4[j]?).map (·.2)).getD .none:=by
   show G0 ord λj hj=>?_;have:a4[j]?=aa _:=mh (lt j hj);rw[this];rfl
  show P3 st.1 st.2.1 hd hf hn st.2.2 (by rw[List.getElem?_toArray,cx,hj];rfl) hx λh' g sb=>?_;show hQ _ _ ?_ (g,(sb.2 a ne).trans st.2.1,(sb.2 T nT).trans st.2.2) (λb o' hb e=>(sb.2 b (λh=>hb (by simp[h]))).trans e,rfl,rfl,rfl,aM _);rw[em,cx,hj];simp only[Option.map_some,hx];rfl
 done:=λs Q W7 st hQ=>by
  have hl:Z ord=n:=by rw[hp.length_eq,bU]
  show P4 hh st.1 st.2.1 hd hf hn st.2.2 (by rw[List.getElem?_toArray];show gB (by simp;lia)) λh' eb=>hQ _ (λb o' hb e=>eb b o' (λh=>hb (by simp[h])) e,rfl,rfl,rfl,aM _)
 self:=λi s Q W7 st hQ=>zq st.1 hQ
set_option maxRecDepth 100000
def G4{P:ci}{w:World}:∀(l:List (Int×Value)),ElemsOf (fU P w) l->∃ns:LI0,gg (l.map (·.2)) ns/\∀k,(∃e∈l,(fU P w).is k e.2=ac)↔k∈ns
 | [],_=>([],.nil,λk=>by simp)
 |e::l,h=>by
  have(ns,d,h2):=G4 l h.tail;have((k,b,_),_):=h.head;have(t,c):=Value.isInt_shape b;show(k::ns,by rw[bG,c];show .cons k t d,λj=>?_);rw[a9,<- h2 j];constructor
  .rintro⟨x,a,q⟩
   rcases a9.mp a with rfl |a
   .show .inl ((fU P w).inj _ _ _ q b)
   .show .inr (x,a,q)
  .rintro(rfl |⟨x,a,q⟩)
   .show(e,aA,b)
   .show(x,bj _ a,q)
def G5{a:Type}(E:List a):∀(n k:Nat),k+n=Z E->(List.range' k n).filterMap (λj=>E[j]?)=E.drop k
 | 0,k,h=>by rw[range'_zero,filterMap_nil,tU (by lia)]
 |n+1,k,h=>by
  rw[range'_succ,qJ,b7 _,G5 E n _ (by lia),drop_eq_getElem_cons (show k<E.length by lia)]
def P9{a:Type}(E:Array a):(bw E.size).filterMap (λj=>E[j]?)=E.toList:=by
 have:=G5 E.toList E.size 0 (by simp);rw[drop_zero]at this;rw[range_eq_range',<- this];simp
def Qa{S:Int->Bool}{Q:PRS}(q:d3 P w s.heap a (eO w) S n)
 (H:∀ (I:Addr) (fp:LAd) (l:LVa) (ns:LI0) (St:Nat->ah->Prop) (h':Heap) (d':Drawn),(∀ A' : ca,A'.handled=ab->WalksS P w A' I fp [I] (λx y=>y=x) n (λi v=>l[i]?=aa v) St) ->
   St 0 {s with heap:=h',drawn:=d'}->(∀b o,s.heap.get? b=aa o->h'.get? b=aa o)->s.heap.objs.size<=I->I∈fp->(∀b∈fp,b<h'.objs.size/\(b=a\/s.heap.objs.size<=b))->gg l ns->Z ns=n->(∀k,S k=ac↔k∈ns)->Q (.ref I) {s with heap:=h',drawn:=d'}):
  wpAny (model P w) A (pyIter (.ref a)) Q W7 s:=by
 have(o,a4,ep,tb,f,L,hd,J,hm,hb,h,hn,hr,C):=q;have U:s.TypeIs (.ref a) "set":=(o,f,L.1);have u:=bD f
 have fin:∀(vs:List _),vs.Perm a4.toList->∃ns,gg _ ns/\Z ns=n/\∀k,S k=ac↔k∈ns:=λvs p=>by
  have(ns,T,h2):=G4 vs (J.perm p);show(ns,T,?_,λk=>?_)
  .rw[<- T.length,aq,p.length_eq,i6,hn]
  .grind
 show wpAny_pyIter_slot U F.slot_set_iter (jT F.slot_set_iter U P5 ?_ (F.args_set_iter_1 _));change wpAny _ _ (d7.Frozenset.sizeOf a >>= _) _ _ s;show am ?_;show am (qT f hd h (aD ?_));show am ?_;show am (oI f hd h ?_);show am (vg (aD ?_));change wpAny _ _ (if (!w.params.followText "set-order" && (!tb.plain && decide _))=ac then _ else _) _ _ s
 cases N:w.params.followText "set-order" with
 |true=>
  show am (aD (am (wpAny_setEpoch_of f hd h ?_)));show am (ja ?_ (by size_fits));show aD ?_;have(ns,r,E,G):=fin _ (zp _ a4);have g:iq _ s.heap.objs.size (cu (0:Int)) 0 a n ep:=cO _ rfl;rw[hn];show(_,rfl,"set_iterator",_,(_,g,rfl),iU.lookup,?_);show H s.heap.objs.size [s.heap.objs.size,a] _ ns _ _ s.drawn (λA' B=>P6 B (bY u) hd h hn N) (g,bz _ f) (λb o' e=>bz _ e) (aM _) (by simp) (λb c=>?_) r E G;rw[jg];simp only[a9,dF,or_false]at c
  rcases c with rfl |rfl
  .show(c8 _,.inr (aM _))
  .show(kh u,.inl rfl)
 |false=>
  have m:tb.led=ac:=by rw[C];unfold eO;rw[N];rfl
  cases Y:(!tb.plain && decide (a4.size>1))with
  |false=>
   show am (aD (am (wpAny_setEpoch_of f hd h ?_)));show am (ja ?_ (by size_fits));show aD ?_;have(ns,r,E,G):=fin _ (tX _);have g:iq (s.heap.push {cls:=.type "set_iterator",dict:=ab,data:=.fields #[cu ((0:Nat):Int),cu ((0:Nat):Int),.ref a,cu n,cu ep],slots:=#[]}) s.heap.objs.size (cu ((0:Nat):Int)) 0 a n ep:=cO _ rfl;rw[hn];show(_,rfl,"set_iterator",_,(_,g,rfl),iU.lookup,?_);show H s.heap.objs.size [s.heap.objs.size,a] _ ns _ _ s.drawn (λA' B=>P7 B (bY u) hd h hn N Y m hr) (g,bz _ f) (λb o' e=>bz _ e) (aM _) (by simp) (λb c=>?_) r E G;rw[jg];simp only[a9,dF,or_false]at c
   rcases c with rfl |rfl
   .show(c8 _,.inr (aM _))
   .show(kh u,.inl rfl)
  |true=>
   show am (GV _ _ (by rw[bU]) λord d p=>?_);rw[hn]at p;have M:Z ((ord.map λ(i:Nat)=>cu i))<=aU:=by rw[aq,p.length_eq,bU];show fits_of_scanBound (by lia)
   show am (wpAny_newTuple ?_ M)
   show am (wpAny_setEpoch_of (s:={s with heap:=s.heap.push {cls:=.type "tuple",data:=.seq (ord.map λ(i:Nat)=>cu i).toArray},drawn:=d}) (bz _ f) hd h ?_)
   show am (ja ?_ (by size_fits));show aD ?_
   have pv:(ord.filterMap λj=>a4[j]?).Perm a4.toList:=by
    have:=p.filterMap λj=>a4[j]?;rw[<- hn,P9]at this;show this
   have(ns,r,E,G):=fin _ pv;rw[map_filterMap]at r
   have g:iq ((s.heap.push {cls:=.type "tuple",data:=.seq (ord.map λ(i:Nat)=>cu i).toArray}).push {cls:=.type "set_iterator",dict:=ab,data:=.fields #[.ref s.heap.objs.size,cu ((0:Nat):Int),.ref a,cu n,cu ep],slots:=#[]})
     (s.heap.push {cls:=.type "tuple",data:=.seq (ord.map λ(i:Nat)=>cu i).toArray}).objs.size (.ref s.heap.objs.size) 0 a n ep:=cO _ rfl
   rw[hn];show(_,rfl,"set_iterator",_,(_,g,rfl),iU.lookup,?_);have z:(s.heap.push {cls:=.type "tuple",data:=.seq (ord.map λ(i:Nat)=>cu i).toArray}).objs.size=s.heap.objs.size+1:=jg ..;show H _ [(s.heap.push {cls:=.type "tuple",data:=.seq (ord.map λ(i:Nat)=>cu i).toArray}).objs.size,a,s.heap.objs.size] _ ns _ _ d (λA' B=>P8 B (by rw[z];show bY (kh u)) (by rw[z];show bY (c8 _)) hd h hn p) (g,bz _ (bz _ f),bz _ (cO _ rfl)) (λb o' e=>bz _ (bz _ e)) (by rw[z];show ki _) (by simp) (λb c=>?_) r E G;rw[jg];simp only[a9,dF,or_false]at c
   rcases c with rfl |rfl |rfl
   .show(c8 _,.inr (by rw[z];show ki _))
   .show(by rw[z];show kh (kh u),.inl rfl)
   .show(by rw[z];show kh (c8 _),.inr (aM _))
set_option maxRecDepth 100000
variable{c4:Array Value}
def Qb{a:LVa}(h:ItemsOf (λi v=>a[i]?=aa v) c4 n)(b:Z a=n):c4.toList=a:=by
 show mo λi=>?_
 by_cases hi:i<n
 .have e:c4[i]?=aa (c4[i]'(by rw[h.1];show hi)):=mh _;rw[qC,e];show(h.2 i _ e).symm
 .rw[gB (by rw[i6,h.1];lia),gB (by lia)]
def Qc:mG (.type "set") "__len__"=pure (aa (.builtin "set.__len__")):=by rw[ku,km];kernel_rfl
def Qd{S:Int->Bool}{Q:LVa->ah->Prop}(hh:A.handled=ab)(q:d3 P w s.heap a (eO w) S n)(hn:n<=aU)
 (hQ:∀(h':Heap) (d':Drawn) (N:Nat) (c:LVa) (ns:LI0),(∀b o,s.heap.get? b=aa o->h'.get? b=aa o)->s.heap.objs.size<=h'.objs.size->s.toks<=N->gg c ns->Z ns=n->(∀k,S k=ac↔k∈ns)->Q c {s with heap:=h',drawn:=d',toks:=N}):
  wpAny (model P w) A (collect (.ref a)) Q W7 s:=by
 unfold collect;show am (wpAny_runValue (ko PySem.F.entry_proto_collect ?_));rw[ca.under_plainId PySem.F.plain_proto_collect _];change wpAny _ A.in1 (newList [] >>= λl=>again (.builtin "list.__iadd__" ([l,.ref a],[]))) _ _ s;show am (ja ?_);show aD (mE PySem.F.plain_list_iadd _,ko PySem.F.entry_list_iadd ?_);simp only[ca.under_plainId PySem.F.plain_list_iadd _];change wpAny _ A.in1 (xA (.ref s.heap.objs.size) (.ref a) (.ref s.heap.objs.size)) _ _ _;dsimp only[xA];have(o,a4,ep,tb,v,m,rest):=id q;have x:a<s.heap.objs.size:=bD v;have q1:d3 P w (s.heap.push {cls:=.type "list",data:=.seq ([]:LVa).toArray}) a (eO w) S n:=q.stay λo e=>bz _ e
 have hT:uq {s with heap:=s.heap.push {cls:=.type "list",data:=.seq ([]:LVa).toArray}} (.ref a) "set":=(o,bz _ v,m.1)
 show am (wpAny_typeOf hT ?_);have k1:uh (.ref s.heap.objs.size) (.ref a)=af:=by simp[uh,lr x]
 have k2:(kz "set" == kz "list")=af:=by decide
 have k3:(kz "set" == kz "tuple")=af:=by decide
 simp only[k1,k2,k3,tP,Bool.false_eq_true,if_false];show am (Qa q1 λI fp c ns St f g W z keep gI mI u J L i3=>?_)
 have d:uq {s with heap:=f,drawn:=g} (.ref a) "set":=(o,keep _ _ (bz _ v),m.1)
 have T:(s.heap.push {cls:=.type "list",data:=.seq ([]:LVa).toArray}).objs.size=s.heap.objs.size+1:=jg ..
 have M:s.heap.objs.size∉fp:=λhm=>by
  rcases(u _ hm).2 with e |e
  .show gE _ (by rw[<- e]at x;show x)
  .rw[T]at e;show Nat.not_succ_le_self _ e
 show am (jV ?_);unfold EE;show am (uc d Qc ?_);dsimp only;show am (qV d sub_set_self ?_);show am (wpAny_typeOf d (aD ?_))
 change wpAny _ A.in1 (rule "list.extend.makes-room" >>= λ_=>d7.List.listTouch (.ref s.heap.objs.size) >>= λ_ =>
  again (.builtin "list.extend.loop" ([.ref s.heap.objs.size,.ref I,.ref s.heap.objs.size],[]))) _ _ _
 show am (lw ?_);have G:=keep _ _ (cO _ rfl);show am ?_
 show am (ud (s:={s with heap:=f,drawn:=g}) G rfl ?_)
 have H:=oN (ic (·.push mL)) G rfl
 show ud (s:={s with heap:=f.update s.heap.objs.size (ic (·.push mL)),drawn:=g}) H rfl ?_
 have g3:=oN (ic (·.pop)) H rfl
 have p:∀b o,b≠s.heap.objs.size->f.get? b=aa o->((f.update s.heap.objs.size (ic (·.push mL))).update s.heap.objs.size (ic (·.pop))).get? b=aa o:=
  λb o r e=>(oM _ _ (eV r)).trans ((oM _ _ (eV r)).trans e)
 have C:=W A.in1 (by simp[hh])
 show aD (mE PySem.F.plain_extend_loop _,codeAny_extend_loopS C hn _ M _ n 0 _ _ _ rfl (cy _)
  (C.frame 0 ({s with heap:=f,drawn:=g}:ah) _ s.toks z (aM _) λb r o e=>p b o (λh=>M (h▸r)) e) g3 (ItemsOf.nil _) λs' E c' hm i j=>?_)
 show am (wpAny_load i (aD ?_));have lv:Z c=n:=by rw[J.length,L]
 rw[Qb j lv];have(h2,g',d',B,os'):=s';have Y:=hm.gens;have U:d'=g:=hm.drawn;have eo:=hm.os;subst Y U eo;show hQ h2 d' B c ns (λb o' e=>?_) (fH (bD i)) hm.toks J L i3;have y:=bD e;show hm.heap b o' ?_ (p b o' (bY y) (keep _ _ (bz _ e)));simp only[a9,dF,or_false,not_or];show(bY y,bY (fG y (cN (by rw[T];show ki _) gI)))
def Qe{S:Int->Bool}{Q:PRS}(y:A.handled=ab)(q:d3 P w s.heap a (eO w) S n)(g:n<64)
 (x:∀ (p:Addr) (h':Heap) (d':Drawn) (d e:Nat) (out:Array Value) (ns:LI0),(∀ b o,s.heap.get? b=aa o->h'.get? b=aa o)->s.heap.objs.size<=p->s.toks<=d->h'.get? p=aa (seqObj "list" out e)->gg out.toList ns->ns.Pairwise (·<=·)->Z ns=n->(∀ k,S k=ac↔k∈ns) ->
   Q (.ref p) {s with heap:=h',drawn:=d',toks:=d}):wpAny (model P w) A (call (.builtin "sorted") [.ref a]) Q W7 s:=by
 show Calls.call_function_entry kind_sorted plain_sorted entry_sorted (args_sorted1 _) ?_;show am (aD ?_);show am (Qd (by simp[y]) q (by rw[dG];lia) λm u d c ns keep grow htk h i z=>?_);show am (wpAny_newList ?_ (by rw[h.length,i,dG];lia));have f:(m.push _).get? m.objs.size=aa (seqObj "list" c.toArray 0):=cO _ rfl;show am (jV (jT slot_list_sort (_,f,rfl) entry_list_sort (list_sort_tree f h (by rw[h.length,i];show g) λout j o1 o2 B=>(_,rfl,?_)) (args_list_sort _)));have(e,v):=sortedHeap_at f;show aD (_,rfl,x _ _ u d e out j (λb o l=>?_) grow htk v o1 B (by rw[o2.length_eq,i]) λk=>(z k).trans (o2.mem_iff).symm);have r:=bD (keep b o l);rw[sortedHeap_old (bY r) (by rw[jg];show kh r)];show bz _ (keep b o l)
abbrev kU(x:Int):LI0->LI0
 | []=>[x]
 |y::r=>if x<y then x::y::r else if x=y then y::r else y::kU x r
def dD(ns:LI0):LI0:=ns.foldr kU []
def zt(x k:Int):∀l:LI0,k∈kU x l↔k=x\/k∈l
 | []=>by simp[kU]
 |y::r=>by
  unfold kU;split
  .simp
  .split
   .grind
   .rw[a9,zt x k r,a9]
    grind
def G6(x:Int):∀l:LI0,l.Pairwise (· < ·)->(kU x l).Pairwise (· < ·)
 | [],_=>by simp[kU]
 |y::r,h=>by
  have(d,h2):=ml.mp h;dsimp only[kU];split
  .rename_i f;show ml.mpr (λk c=>?_,h)
   rcases a9.mp c with e |c
   .subst e;show f
   .show Int.lt_trans f (d k c)
  .split
   .show h
   .rename_i a b;show ml.mpr (λk c=>?_,G6 x r h2)
    rcases(zt x k r).mp c with e |c
    .subst e;lia
    .show d k c
def jF(k:Int):∀l:LI0,k∈dD l↔k∈l
 | []=>by rfl
 |x::l=>by
  change k∈kU x (dD l)↔_;rw[zt,jF k l,a9]
def lP:∀l:LI0,(dD l).Pairwise (· < ·)
 | []=>by simp[dD]
 |x::l=>G6 x _ (lP l)
def zu:∀(l m:LI0),l.Pairwise (· < ·)->m.Pairwise (· < ·)->(∀k,k∈l↔k∈m)->l=m
 | [],[],_,_,_=>rfl
 | [],y::m,_,_,h=>by have:=(h y).mpr aA;simp at this
 |x::l,[],_,_,h=>by have:=(h x).mp aA;simp at this
 |x::l,y::m,hl,hm,h=>by
  have(b,a):=ml.mp hl;have(m1,m2):=ml.mp hm
  have e:x=y:=by
   rcases a9.mp ((h x).mp aA)with e |hx
   .lia
   .rcases a9.mp ((h y).mpr aA)with e |hy
    .grind
    .grind
  subst e;rw[zu l m a m2 λk=>?_]
  grind
def pS:∀(F W5:LI0),F.Nodup->(∀x∈F,x∈W5)->Z W5<=Z F->W5.Perm F
 | [],W5,_,_,h=>by
  grind
 |x::F,W5,hn,hs,h=>by
  have(d,b):=b9.mp hn;have a:=hs x aA;show(perm_cons_erase a).trans (xr x (pS F _ b (λy c=>?_) ?_))
  .grind
  .grind
def vh(val:Nat->Int):∀i,(eW val i).Nodup
 | 0=>by rw[firstMet_zero];grind
 |i+1=>by
  rw[firstMet_succ];unfold step_dedup;split
  .show vh val i
  .rename_i h;show fE.mpr (vh val i,by simp,λa ha b c e=>?_)
   grind
def G7(ns:LI0)(k:Int):(eW (λi=>ns.getD i 0) (Z ns)).any (·==k)=ac↔k∈ns:=by
 rw[firstMet_any]
 have e:(bw (Z ns)).map (λi=>ns.getD i 0)=ns:=by
  show mo λi=>?_;rw[cx]
  by_cases hi:i<Z ns
  .rw[tR hi];simp[hi]
  .rw[gB (by rw[bU];lia),gB (by lia)];rfl
 rw[e,any_eq_true];show(λb=>by have(x,a,q):=b;have:=beq_iff_eq.mp q;show this▸a,λh=>(k,h,by simp))
variable{out:LI0}
def Qf(d:out.Pairwise (·<=·))(f:Z out=(eW (λi=>ns.getD i 0) (Z ns)).length)(hm:∀k,(eW (λi=>ns.getD i 0) (Z ns)).any (·==k)=ac↔k∈out):out=dD ns:=by
 have nd:=vh (λi=>ns.getD i 0) (Z ns)
 have lt:out.Pairwise (· < ·):=by
  show List.Pairwise.imp₂ (λa b c h2=>(Int.lt_iff_le_and_ne.mpr (c,h2))) d ((pS _ out nd (λx e=>(hm x).mp (any_eq_true.mpr (x,e,by simp))) (by lia)).nodup_iff.mpr nd)
 show zu _ _ lt (lP ns) λk=>by rw[<- hm k,G7,jF]
def Qg(ns:LI0):Z (dD ns)=Z (eW (λi=>ns.getD i 0) ns.length):=by
 have m:∀x,x∈eW _ ns.length↔x∈dD ns:=λx=>by
  show Iff.trans ?_ (jF x ns).symm;show Iff.trans ?_ (G7 ns x);rw[any_eq_true];show(λh=>(x,h,by simp),λc=>by have(y,b,q):=c;have:=beq_iff_eq.mp q;show this▸b)
 rcases Nat.le_total (dD ns).length (Z (eW _ ns.length)) with h |h
 .show(pS _ _ (vh _ ns.length) (λx a=>(m x).mp a) h).length_eq
 .show(pS _ _ ((lP ns).imp λh=>Int.ne_of_lt h) (λx a=>(m x).mpr a) h).length_eq.symm
def Inv.draws(I:Inv X U C H s)(d':Drawn):Inv X U C H {s with drawn:=d'}:=by
 show I.step (ch:=[]) (λb a=>by nomatch a) (λb o _ _ _ e _=>e) (λb o _ _ _ e _=>(o.slots,e)) (λ_ _ _ _ n=>n)
  (λb o _ e=>(o,e)) (λ_ _ e=>e) (λ_ _ _ e=>e) (λb ps e=>(#[],by rw[e];simp)) (λm hm=>hm) I.hok I.bare
def zw:∀{vs:LVa} {ns:LI0},gg vs ns->aH (ns.map V.int) vs
 | _,_,.nil=>.nil
 | _,_,.cons n t h=>.cons (t,rfl) (zw h)
def zx:∀{ns:LI0} {vs:LVa},aH (ns.map V.int) vs->gg vs ns
 | [],_,.nil=>.nil
 |n::ns,_,.cons (t,e) h=>by subst e;show .cons n t (zx h)
def tSS(K:aR)(te:TE):TE:=λC H Q=>te C H λx H1=>∃l ns,x=.ref l/\SqL K H1 l (ns.map V.int)/\Z ns<4000/\Z (dD ns)<64/\∀p,H1 p=ab->Q (.ref p) (upd H1 p (.lst ((dD ns).map V.int)))
variable{c2:Pos}
def Qh(y:X.calm=ac)(j:Gl X "sorted")(n:X.mg "sorted"=ab)(m:Gl X "set")(r:X.mg "set"=ab)(T:PE X e te)
 (N:autoParam (aL [.Call (.Name "set" p2) [e] [] c2] X.env=(af,eval (.Call (.Name "set" p2) [e] [] c2) X.env,)::aL [] X.env) Zb)(h2:autoParam (aL [e] X.env=(af,eval e X.env,)::aL [] X.env) Zb)
 (v:autoParam ((cj pos (aL [] X.env)).any (·.1)=af) Zb)(d:autoParam ((cj c2 (aL [] X.env)).any (·.1)=af) Zb):
  PE X (.Call (.Name "sorted" p) [.Call (.Name "set" p2) [e] [] c2] [] pos) (tSS X.K te):=by
 intro U s C H Q I h;show i9 (gJ I j n boot_sorted ?_);show xy ?_ N v;show je (i9 (gJ I m r boot_set ?_));show jS ?_ h2 d;simp only[h2];show je (thn (T U s C H _ I h) λu s1 q_=>?_);have(x,H1,c,r1,l,ns,G,hq,hb,i,q):=q_;subst G;subst r1;show aD ?_;have(L,rr,pl,hz):=c.list hq;have A:=zx rr;have E:L.toArray.size=Z ns:=by rw[size_toArray,A.length]
 show PZ (c.ok.hd y) pl.isList (by simpa using A) (by rw[E];unfold lx;lia) λh' tk w keep htk=>?_;rw[E]at w;show aD ?_;have lt:s1.heap.objs.size<h'.objs.size:=by have(o,_,_,_,Y,_):=id w;show bD Y
 show Qe (c.ok.hd y) w (by rw[<- Qg];show i) λpp M f B ep out ns' a gp z J o1 o3 o4 o5=>?_;have en:=Qf o3 o4 o5;subst en;show(.ref pp,_,((c.laid (λb u g=>a _ _ (keep b u (bD g) g)) (cN (fH lt) gp) ?_).draws f),rfl,q pp (c.hok.fresh (cN (fH lt) gp)));show(by rw[aq,dG];lia,out.toList,ep,zw o1,by simpa using J)
abbrev iV:LD->Option (LI0)
 | []=>aa []
 |.int i::r=>(iV r).map (i::·)
 | _::_=>ab
def zy:∀{ds:LD} {ns:LI0},iV ds=aa ns->ds=ns.map D.int
 | [],_,h=>by cases h;rfl
 |.int i::r,ns,h=>by
  replace h:(iV r).map _=aa ns:=h
  cases e:iV r with
  |none=>rw[e]at h;cases h
  |some m=>rw[e]at h;cases h;rw[zy e];rfl
 |.non::_,_,h=>by cases h
 |.bl _::_,_,h=>by cases h
 |.str _::_,_,h=>by cases h
 |.lst _::_,_,h=>by cases h
 |.tup _::_,_,h=>by cases h
 |.kl _::_,_,h=>by cases h
 |.kt _::_,_,h=>by cases h
 |.dic _ _::_,_,h=>by cases h
 |.ins _ _ _::_,_,h=>by cases h
def zA:∀(ns:LI0),iV (ns.map D.int)=aa ns
 | []=>rfl
 |n::ns=>by change(iV _).map _=_;rw[zA ns];rfl
def zB{G:Gc}{H:Hp}:∀{ns:LI0} {vs:LVv},ao G H (ns.map D.int) vs->vs=ns.map V.int
 | [],_,h=>h
 |n::ns,_,(v,r,e,h1,h2)=>by rw[e,show v=V.int n from h1,zB h2];rfl
def nu(f:MF1)(M:LS):OLD:=(f M).bind λd=>(lsD d).bind λds=>(iV ds).bind λns=>if Z ns<4000/\Z (dD ns)<64 then aa ((dD ns).map .int) else ab
def Qi(J:X.calm=ac)(m:Gl X "sorted")(u:X.mg "sorted"=ab)(n:Gl X "set")(w:X.mg "set"=ab)(ha:DE c X e f)
 (I:autoParam (aL [.Call (.Name "set" p2) [e] [] c2] X.env=(af,eval (.Call (.Name "set" p2) [e] [] c2) X.env,)::aL [] X.env) Zb)(h2:autoParam (aL [e] X.env=(af,eval e X.env,)::aL [] X.env) Zb)
 (z:autoParam ((cj pos (aL [] X.env)).any (·.1)=af) Zb)(b:autoParam ((cj c2 (aL [] X.env)).any (·.1)=af) Zb):DO c X (.Call (.Name "sorted" p) [.Call (.Name "set" p2) [e] [] c2] [] pos) (nu f):=
 PE.imp (Qh J m u n w ha I h2 z b) λC H Q L=>by
  have(Hf0,H0,Hf,M,ds,st,a,k):=L;unfold nu at a
  cases g:f M with
  |none=>rw[g]at a;nomatch a
  |some d=>
   rw[g]at a
   cases i:lsD d with
   |none=>rw[az,i]at a;nomatch a
   |some E=>
    rw[az,i]at a
    cases j:iV E with
    |none=>rw[az,j]at a;nomatch a
    |some ns=>
     rw[az,j,az]at a;split at a
     .rename_i A;cases a;show(Hf0,H0,Hf,M,d,st,g,λv Hf' H' x r=>?_);have(l,vs,el,q,B):=lK i r;rw[zy j]at B;have G:=zB B;subst G el;show(l,ns,rfl,x.s.seq q,A.1,A.2,λpp y=>k pp _ Hf' _ (x.trans (Ext.tmp x.s y)) (x.h.free y) (x.s.free y) ba (ao.ints _))
     .grind
def gS(f g:MF1)(M:LS):OLD:=(f M).bind λx=>(g M).bind λy=>match x,y with
 |.lst a,.lst b=>if Z a+Z b<=16777216 then aa (a++b) else ab
 | _,_=>ab
def Qj(h:gS f g M=aa ds):∃a b,f M=aa (.lst a)/\g M=aa (.lst b)/\Z a+Z b<=16777216/\ds=a++b:=by
 unfold gS at h
 cases c:f M with
 |none=>rw[c]at h;nomatch h
 |some x=>
  cases d:g M with
  |none=>rw[c,d]at h;nomatch h
  |some y=>
   rw[c,d,az,az]at h;split at h
   .split at h
    .rename_i a b e;cases h;show(a,b,rfl,rfl,e,rfl)
    .nomatch h
   .nomatch h
def nz{a:Expr}(ha:DE c X a f)(r:DE c X b g):DO c X (.BinOp a .Add b pos) (gS f g):=PE.imp (EZ Fx ha r) λC H Q A=>by
 have(Hf0,H0,Hf,M,ds,st,q,k):=A;have(E,ys,j,n,w,rfl):=Qj q;show(Hf0,H0,Hf,M,_,st,j,λv b3 H1 i B=>(Hf0,H0,b3,M,_,st.step i,n,λu bm H2 d G=>?_));have(l,vs,el,y,s1):=B.up d.f;have(m,us,em,z,s2):=G;subst el em;have x:=i.trans d;show(l,m,vs,us,rfl,rfl,d.s _ _ y,d.s _ _ z,by rw[dG,<- s1.length,<- s2.length];show w,λp e=>k p _ bm _ (x.trans (Ext.tmp x.s e)) (x.h.free e) (x.s.free e) ba (s1.append s2))
def wp(F:MF3)(M:LS)(K:Fl->Prop):Prop:=∃o,F M=aa o/\K o
abbrev G8(F:MF3)(K:Fl->Prop):Fl->Prop
 |.nx M=>wp F M K
 |o=>K o
abbrev zC(J:LS->Prop)(K:Fl->Prop):Fl->Prop
 |.nx M=>J M
 |.ct M=>J M
 |.bk M=>K (.nx M)
 |o=>K o
def vi(Q:D->Prop)(o:Fl):Prop:=∃d,Gw o=aa d/\Q d
variable{K:Fl->Prop}
def Qk{F:MF3}{a:Fl->Prop}(h:wp F M K)(b:∀o,K o->a o):wp F M a:=by
 have(o,e,k):=h;show(o,e,b o k)
def ak{F F':MF3}(h:wp F M (G8 F' K)):wp (ai F F') M K:=by
 have(o,e,k):=h;unfold wp ai;rw[e]
 cases o with
 |nx ρ'=>show k
 | _=>show(_,rfl,k)
def b6(h:K (.nx M)):wp bL M K:=(_,rfl,h)
def bo(h:f M=aa d)(k:K (.nx (M.set i (.im d)))):wp (aX i f) M K:=(_,GC h,k)
def d4{f:MF2}{d:LD}(h:f M=aa d)(k:K (.nx (M.set i (.own d)))):wp (cW i f) M K:=(_,O0 h,k)
def fL(h:f M=aa d)(k:K (.rt d)):wp (bh f) M K:=(_,di h,k)
def iu{f:MF2}{d:LD}(h:f M=aa d)(k:K (.rtO d)):wp (cq f) M K:=(_,by unfold cq;rw[h];rfl,k)
def G9{F:MF3}{o:Fl}(h:F M=aa o)(k:K o):wp F M K:=(_,h,k)
variable{b:Bool}
def a8{t:MF4}{F F':MF3}(h:t M=aa b)(c:b=ac->wp F M K)(a:b=af->wp F' M K):wp (bi t F F') M K:=by
 unfold wp bi;rw[h]
 cases b with
 |true=>show c rfl
 |false=>show a rfl
def lQ{F:MF3}(e:y4 i M=ρ')(h:wp F ρ' K):wp (fK i F) M K:=by
 subst e;show h
variable{E:LD}
def f9(h:f M=aa d)(h':M[i]?=aa (.own E))(a:Z E<16777216)(k:K (.nx (M.set i (.own (E++[d]))))):wp (dh i f) M K:=(_,Pd h h' a,k)
def lR{k:Int}(hv:fv M=aa d)(c:fk M=aa (.int k))(h':M[i]?=aa (.own E))(a:0<=k)(b:k<Z E):gx i fk fv M=aa (.nx (M.set i (.own (E.set k.toNat d)))):=by
 have e:ixN E.length k=aa (S k):=by
  unfold ixN;rw[if_pos a,if_pos b]
 unfold gx;simp only[hv,az,c,az,h'];change(ixN E.length k).map _=_;rw[e];rfl
def pT{k:Int}(hv:fv M=aa d)(c:fk M=aa (.int k))(h':M[i]?=aa (.own E))(a:0<=k)(b:k<Z E)(q:K (.nx (M.set i (.own (E.set k.toNat d))))):wp (gx i fk fv) M K:=(_,lR hv c h' a b,q)
def Ha{i:Type}{g:D->LS->Option LS}{F:MF3}{K:Fl->Prop}(f:i->D)(I:List i->LS->Prop):∀(post pre:List i) (M:LS),I pre M ->
  (∀b x e M,pre++post=b++x::e->I b M->∃ρ1,g (f x) M=aa ρ1/\wp F ρ1 (zC (I (b++[x])) K))->(∀ρ',I (pre++post) ρ'->K (.nx ρ'))->wp (iO g F (post.map f)) M K
 | [],pre,M,h,_,hk=>(_,rfl,hk M (by rw[bN];show h))
 |x::post,pre,M,h,hs,hk=>by
  have(ρ1,j,o,l,c):=hs pre x post M rfl h;unfold wp;rw[bG];dsimp only[iO];simp only[j,az,l,az]
  have go:=λa h2=>
   Ha f I post (pre++[x]) a h2 (by rw[cG];show hs) (by rw[cG];show hk)
  cases o with
  |nx a=>show go a c
  |ct a=>show go a c
  |bk a=>show(_,rfl,c)
  |rt d=>show(_,rfl,c)
  |rtO d=>show(_,rfl,c)
  |rtS d a=>show(_,rfl,c)
  |rtT o=>show(_,rfl,c)
def dq{a:Type}{g:D->LS->Option LS}{F:MF3}(E:List a)(f:a->D)(I:List a->LS->Prop)(hi:fi M=aa (E.map f))(b:I [] M)
 (d:∀pre x post M,E=pre++x::post->I pre M->∃ρ1,g (f x) M=aa ρ1/\wp F ρ1 (zC (I (pre++[x])) K))(c:∀ρ',I E ρ'->K (.nx ρ')):wp (bS fi g F) M K:=by
 have(o,e,k):=Ha f I E [] M b d c;show(o,?_,k);unfold bS;rw[hi];show e
def rV{t:MF4}{F:MF3}{K:Fl->Prop}(I:Nat->LS->Prop)(g:∀m M,I m M->∃b,t M=aa b/\(b=ac->wp F M (zC (λρ'=>∃f,f<m/\I f ρ') K))/\(b=af->K (.nx M))):
  ∀(n m:Nat) (M:LS),I m M->m<n->wp (dA t F n) M K
 | 0,m,M,_,h=>absurd h (iD _)
 |n+1,m,M,h,hn=>by
  have(b,e,l,j):=g m M h;unfold wp;dsimp only[dA];simp only[e,az]
  cases b with
  |false=>show(_,rfl,j rfl)
  |true=>
   have(o,i,c):=l rfl;rw[i,az]
   have go:∀a,(∃f,f<m/\I f a)->wp _ a K:=λa q=>by
    have(f,hm,h2):=q;show rV I g n f a h2 (by lia)
   cases o with
   |nx a=>show go a c
   |ct a=>show go a c
   |bk a=>show(_,rfl,c)
   |rt d=>show(_,rfl,c)
   |rtO d=>show(_,rfl,c)
   |rtS d a=>show(_,rfl,c)
   |rtT o=>show(_,rfl,c)
variable{Q:D->Prop}
def lS{F:MF3}(h:wp F (f6 n ds) (vi Q)):∃d,aQ n F ds=aa d/\Q d:=by
 have(o,e,d,e',q):=h;show(d,?_,q);unfold aQ;rw[e];show e'
def jG{F:MF3}{r:D}(h:wp F (f6 n ds) (vi λd=>d=r)):aQ n F ds=aa r:=by
 have(d,e,q):=lS h;rw[e,q]
def fM(h:Q d):vi Q (.rt d):=(d,rfl,h)
def iw{d:LD}(h:Q (.lst d)):vi Q (.rtO d):=(.lst d,rfl,h)
def lT{t:MF4}{r:OD}(h:t M=aa b)(c:b=ac->f M=r)(a:b=af->g M=r):vIf t f g M=r:=by
 unfold vIf
 grind
def Ql{f:MF2}(h:f M=aa ds)(h':m ds=aa d)(a:d.scalar=ac):Gy m f M=aa d:=by
 unfold Gy;rw[h,az,h',az,if_pos a]
variable{i j:Int}
def cJ(h:0<j):b5 (.int i) (.int j)=aa (.int (i % j)):=pM h
def j5(h:q5 i j):ju (.int i) (.int j)=aa (.int (i / j)):=pM h
def Qm(h:mT i j):N2 (.int i) (.int j)=aa (.int (i*j)):=pM h
def vj(h:mS i j):rq (.int i) (.int j)=aa (.int (i ^ S j)):=pM h
def Qo(h:0<=j):N3 (.int i) (.int j)=aa (.int (i / 2 ^ S j)):=pM h
def dR:da (.int i) (.int j)=aa (.int (i+j)):=rfl
def lU:kK (.int i) (.int j)=aa (.int (i-j)):=rfl
def Qp:N4 (.int i) (.int j)=aa (.int (d7.bitAnd i j)):=rfl
def rW:dLt (.int i) (.int j)=aa (.bl (decide (i<j))):=rfl
def zD:dLe (.int i) (.int j)=aa (.bl (decide (i<=j))):=rfl
def nA:dGt (.int i) (.int j)=aa (.bl (decide (j<i))):=rfl
def Hb:dGe (.int i) (.int j)=aa (.bl (decide (j<=i))):=rfl
def d9{a:Type}(E:List a)(f:a->D):bW [.lst (E.map f)]=aa (.int (Z E)):=by
 change aa _=_;rw[aq]
def Hc{a:Type}(E:List a)(f:a->D):bW [.kl (E.map f)]=aa (.int (Z E)):=by
 change aa _=_;rw[aq]
def He{a:Type}(f:a->D)(E:List a)(lo hi:Option Int):rC (E.map f) lo hi=((E.drop (HT.sIx E.length 0 lo)).take (HT.sIx E.length E.length hi-HT.sIx E.length 0 lo)).map f:=by
 unfold rC
 simp_all
variable{lo hi:Option Int}
def j6{a:Type}{l h:LS->Option (Option Int)}{g:a->D}{E:List a}(e:f M=aa (.lst (E.map g)))(b:l M=aa lo)(c:h M=aa hi):mSl f l h M=aa (((E.drop (HT.sIx E.length 0 lo)).take (HT.sIx E.length E.length hi-HT.sIx E.length 0 lo)).map g):=by
 unfold mSl;rw[e,az];change(l M).bind _=_;rw[b,az,c,<- He];rfl
def Hg{a:Type}{l h:LS->Option (Option Int)}{g:a->D}{E:List a}(e:f M=aa (.kl (E.map g)))(b:l M=aa lo)(c:h M=aa hi):mSl f l h M=aa (((E.drop (HT.sIx E.length 0 lo)).take (HT.sIx E.length E.length hi-HT.sIx E.length 0 lo)).map g):=by
 unfold mSl;rw[e,az];change(l M).bind _=_;rw[b,az,c,<- He];rfl
def Qq{a:Type}(E:List a)(f:a->D):dEq (.lst (E.map f)) (.lst [])=aa (.bl E.isEmpty):=by cases E <;> rfl
def Qr{a:Type}(E:List a)(f:a->D):dNe (.lst (E.map f)) (.lst [])=aa (.bl (!E.isEmpty)):=by cases E <;> rfl
def Qs{a:Type}(f:a->Bool)(E:List a):(E.map λx=>D.bl (f x))=(E.map f).map D.bl:=by
 rw[map_map];rfl
def kJ(J:LS->Prop)(o:Fl):Prop:=∃ρ',o=.nx ρ'/\J ρ'
def k_J{J:LS->Prop}(h:J M):kJ J (.nx M):=(M,rfl,h)
def Hh{S F:MF3}(J:LS->Prop)(h:wp S M (kJ J))(k:∀ρ',J ρ'->wp F ρ' K):wp (ai S F) M K:=by
 apply ak;have(o,e,ρ',rfl,j):=h;show(_,e,k ρ' j)
def Qt{i:Nat}(h:M[i]?=aa (.im d))(k:K (.rt d)):wp (eI i) M K:=(_,by unfold eI;rw[h],k)
def lV{i:Nat}{d:LD}(h:M[i]?=aa (.own d))(k:K (.rtO d)):wp (eI i) M K:=(_,by unfold eI;rw[h],k)
abbrev D.flat:D->Bool
 |.tup E=>E.all D.scalar
 |d=>d.scalar
def lW(Hf H:Hp):Hp:=λa=>match H a with
 |some (.tup vs)=>aa (.tup vs)
 | _=>Hf a
def zE(h:H a=aa (.tup vs)):lW Hf H a=aa (.tup vs):=by
 unfold lW;rw[h]
def pU(h:∀vs,H a≠aa (.tup vs)):lW Hf H a=Hf a:=by
 unfold lW
 grind
def zF(s:ar Hf H)(g:ar H H'):Ext Hf H (lW Hf H') H':=by
 show(λb u e=>?_,g,λb u e=>?_,λl o e t=>pU λvs q=>?_)
 .have e':=g b u (s b u e)
  cases u with
  |tup vs=>show zE e'
  | _=>
   rw[pU (λvs q=>by rw[e']at q;nomatch q)];show e
 .by_cases h:∃vs,H' b=aa (.tup vs)
  .have(vs,h):=h;rw[zE h]at e;rw[h];show e
  .rw[pU (λvs q=>h (vs,q))]at e;show g b u (s b u e)
 .rw[g l o e]at q;cases q
  nomatch t
def ao.sc{G:Gc}{H H':Hp}:∀{ds:LD} {vs:LVv},ds.all D.scalar=ac->ao G H ds vs->ao G H' ds vs
 | [],_,_,h=>h
 |d::ds,_,hs,q3_=>by
  have(v,r,e,a,h2):=q3_;rw[mr,ce]at hs;show(v,r,e,a.sc hs.1,ao.sc hs.2 h2)
variable{G:Gc}
def Rep.flat(b:d.flat=ac)(r:Rep G H d v):Rep G (lW Hf H) d v:=by
 cases d with
 |tup E=>
  have(a,vs,e,h,q):=r
  show(a,vs,e,zE h,q.sc b)
 |non=>show r.sc b
 |bl _=>show r.sc b
 |int _=>show r.sc b
 |str _=>show r.sc b
 |lst _=>nomatch b
 |kl _=>nomatch b
 |kt _=>nomatch b
 |dic _ _=>nomatch b
 |ins _ _ _=>nomatch b
 |kd _ _=>nomatch b
 |dT _ _=>nomatch b
variable{f:Addr}
def Hi{k:Nat}(pk:Pk X.prog X.w X.K X.mg X.base CX0 k x (f,fd,) ps (spD (Gx c X) ps.length m))(l:bA k0 X.A)(ha:DAB c X (e::es) fa)(E:autoParam (Z (e::es)=Z ps) Zb)(a:autoParam (NDb x) Zc)(z:autoParam (StE X e es) Zb)(j:autoParam (BkE X pos es) Zb)(i:autoParam (k<=k0) Zc)(B:autoParam (Gl X x) Zi):
  DB c X (.Call (.Name x p) (e::es) [] pos) (av m fa):=PE.imp (rg pk.ok (l.mono i) B pk.g pk.kp pk.b .nil gM ha.pa a z j) λC H Q I=>by
 have(Hf0,H0,Hf,M,d,st,y,G):=I;have(ds,n,u):=uY y;show(Hf0,H0,Hf,M,ds,st,n,λvs Hf' H' x r=>?_);rw[bN];show(H',ds,d,ar.refl _,r,(ha.len M ds n).trans E,u,λv bm H2 q J=>G v Hf' H2 (x.trans (Ext.grow x.s q.h)) (J.up q.s))
def pV(m:LD->OLD)(f:MF2)(M:LS):OLD:=(f M).bind λds=>(m ds).bind λB=>if B.all D.flat then aa B else ab
def ao.flat{G:Gc}{Hf H:Hp}:∀{ds:LD} {vs:LVv},ds.all D.flat=ac->ao G H ds vs->ao G (lW Hf H) ds vs
 | [],_,_,h=>h
 |d::ds,_,hs,q3_=>by
  have(v,r,e,a,h2):=q3_;rw[mr,ce]at hs;show(v,r,e,a.flat hs.1,ao.flat hs.2 h2)
def Qu{k:Nat}{m:LD->OLD}(pk:Pk X.prog X.w X.K X.mg X.base CX0 k x (f,fd,) ps (spO (Gx c X) ps.length m))(y:bA k0 X.A)(ha:DAB c X (e::es) fa)(I:autoParam (Z (e::es)=Z ps) Zb)(n:autoParam (NDb x) Zc)(E:autoParam (StE X e es) Zb)(v:autoParam (BkE X pos es) Zb)(u:autoParam (k<=k0) Zc)(G:autoParam (Gl X x) Zi):
  DO c X (.Call (.Name x p) (e::es) [] pos) (pV m fa):=PE.imp (rg pk.ok (y.mono u) G pk.g pk.kp pk.b .nil gM ha.pa n E v) λC H Q N=>by
 have(Hf0,H0,Hf,M,B,st,a,L):=N;unfold pV at a
 cases i:fa M with
 |none=>rw[i]at a;nomatch a
 |some ds=>
  rw[i,az]at a
  cases j:m ds with
  |none=>rw[j]at a;nomatch a
  |some U=>
   rw[j,az]at a;split at a
   .rename_i J;cases a;show(Hf0,H0,Hf,M,ds,st,i,λvs Hf' H' x r=>?_);rw[bN];show(H',ds,_,ar.refl _,r,(ha.len M ds i).trans I,j,λl us bm H2 z hn Y d T=>L l us _ H2 (x.trans (zF x.s z.h)) (x.h.free hn) (by rw[pU (λvs q=>by rw[d]at q;nomatch q)];show x.s.free hn) d ((T.up z.s).flat J))
   .nomatch a
def vm{m:LD->OLD}{f:MF2}(h:f M=aa ds)(h':m ds=aa B):kO m f M=aa B:=by
 unfold kO;rw[h,az,h']
def nB{F:MF3}(h:F (f6 n ds)=aa (.rtO B)):jy n F ds=aa B:=by
 unfold jy;rw[h];rfl
def nC(ns:LI0):LI0:=ns.mergeSort λa b=>decide (a<=b)
def tSL(K:aR)(te:TE):TE:=λC H Q=>te C H λx H1=>∃l ns,x=.ref l/\SqL K H1 l (ns.map V.int)/\Z ns<64/\∀p,H1 p=ab->Q (.ref p) (upd H1 p (.lst ((nC ns).map V.int)))
def zG(ns:LI0):(nC ns).Perm ns:=mergeSort_perm _ _
def Hj(ns:LI0):(nC ns).Pairwise (·<=·):=(pairwise_mergeSort (λa b c=>by simp only[decide_eq_true_iff];lia) (λa b=>by simp only[jQ,decide_eq_true_iff];lia) ns).imp of_decide_eq_true
def Qv(p:out.Perm ns)(c:out.Pairwise (·<=·)):out=nC ns:=List.Perm.eq_of_pairwise (λa b _ _=>Int.le_antisymm) c (Hj ns) (p.trans (zG ns).symm)
def Qw(nd:ns.Nodup):nC ns=dD ns:=zu _ _ (List.Pairwise.imp₂ (λa b c h2=>(Int.lt_iff_le_and_ne.mpr (c,h2))) (Hj ns) ((zG ns).nodup_iff.mpr nd)) (lP _) λk=>by rw[jF];show(zG ns).mem_iff
def Qx(d:Gl X "sorted")(f:X.mg "sorted"=ab)(v:PE X e te)(j:autoParam (aL [e] X.env=(af,eval e X.env,)::aL [] X.env) Zb)(i:autoParam ((cj pos (aL [] X.env)).any (·.1)=af) Zb):
  PE X (.Call (.Name "sorted" p) [e] [] pos) (tSL X.K te):=by
 intro U s C H Q I h;show i9 (gJ I d f boot_sorted ?_);show xy ?_ j i;rw[j];show je (thn (v U s C H _ I h) λu s1 A=>?_);have(x,H1,a,B,l,ns,n,w,c,q):=A;subst n;subst B;show aD ?_;have(L,E,pl,hz):=a.list w;have m:=zx E;show sorted_ints pl.isList m (by rw[m.length];show c) λout y o1 o2 z=>?_;have(ep,r):=sortedAll_at s1.heap L out;have en:=Qv o2 z;subst en;have G:=o2.length_eq;show(.ref _,_,(a.laid (o:=.lst _) (λb u g=>sortedAll_old g) (ki _) (by rw[aq,dG];lia,out.toList,ep,zw o1,by simpa using r)),rfl,q _ (a.hok.fresh (ki _)))
def lX(f:MF1)(M:LS):OLD:=(f M).bind λd=>(lsD d).bind λds=>(iV ds).bind λns=>if Z ns<64 then aa ((nC ns).map .int) else ab
variable{f:MF1}
def Qy(w:X.calm=ac)(j:Gl X "sorted")(m:X.mg "sorted"=ab)(ha:DE c X e f)
 (z:autoParam (aL [e] X.env=(af,eval e X.env,)::aL [] X.env) Zb)(u:autoParam ((cj pos (aL [] X.env)).any (·.1)=af) Zb):DO c X (.Call (.Name "sorted" p) [e] [] pos) (lX f):=
 PE.imp (Qx j m ha z u) λC H Q G=>by
  have(Hf0,H0,Hf,M,ds,st,a,k):=G;unfold lX at a
  cases b:f M with
  |none=>rw[b]at a;nomatch a
  |some d=>
   rw[b]at a
   cases g:lsD d with
   |none=>rw[az,g]at a;nomatch a
   |some E=>
    rw[az,g]at a
    cases i:iV E with
    |none=>rw[az,i]at a;nomatch a
    |some ns=>
     rw[az,i,az]at a;split at a
     .rename_i A;cases a;show(Hf0,H0,Hf,M,d,st,b,λv Hf' H' x r=>?_);have(l,vs,el,q,B):=lK g r;rw[zy i]at B;have y:=zB B;subst y el;show(l,ns,rfl,x.s.seq q,A,λpp n=>k pp _ Hf' _ (x.trans (Ext.tmp x.s n)) (x.h.free n) (x.s.free n) ba (ao.ints _))
     .grind
def Qz(h:f M=aa (.lst (ns.map D.int)))(a:Z ns<64):lX f M=aa ((nC ns).map D.int):=by
 unfold lX;rw[h,az];change(iV _).bind _=_;rw[zA,az,if_pos a]
def QA(h:f M=aa (.lst (ns.map D.int)))(a:Z ns<64)(h2:ns.Nodup):lX f M=aa ((dD ns).map D.int):=by rw[Qz h a,Qw h2]
def Hk{k:Int}(h:k.natAbs<2 ^ n):ug k<=n:=by
 unfold ug;split
 .show cy _
 .rename_i a;have:k.natAbs≠0:=λz=>a (by rw[Int.natAbs_eq_zero.mp z];rfl);show(Nat.log2_lt this).mpr h
def nE(i j:Int):Prop:=mT i j\/(i.natAbs<2 ^ 200/\j.natAbs<2 ^ 200)
def nE.ok(h:nE i j):IntMulOk i j:=by
 rcases h with h |⟨h1,h2⟩
 .show h.ok
 .have a:=Hk h1;have b:=Hk h2;unfold IntMulOk
  have:d7.Int.intTooBig (ug i+ug j)=af:=by
   have c:400<=bitsLine:=by decide
   show decide_eq_false (by lia)
  rw[this,tO];show bK
noncomputable instance {i j:Int}:Decidable (nE i j):=by unfold nE;infer_instance
nonrec def lY:D->D->OD:=dI nE λi j=>.int (i*j)
def QB:OpR X (fT .Mult) (rI nE λi j=>.int (i*j)):=opI λ_ _ _ _ _ _ _ a q=>mul_int q a.ok
def QC:OpD c X (fT .Mult) lY:=uP QB λ_ _ _ _=>rfl
def pW(h:nE i j):lY (.int i) (.int j)=aa (.int (i*j)):=pM h
set_option maxRecDepth 100000
def rX:Slot "list_reverseiterator" "__next__" "list_reverseiterator.__next__":=Slot.of (n:="__next__") (owner:="list_reverseiterator")
 (by rw[ku,km];kernel_rfl) (by decide +kernel) (by decide +kernel) (by decide +kernel) (by first |show bZ (by decide +kernel) |grind) (by rw[mD];kernel_rfl)
def Hl:Slot "list_reverseiterator" "__iter__" "list_reverseiterator.__iter__":=Slot.of (n:="__iter__") (owner:="list_reverseiterator")
 (by rw[ku,km];kernel_rfl) (by decide +kernel) (by decide +kernel) (by decide +kernel) (by first |show bZ (by decide +kernel) |grind) (by rw[mD];kernel_rfl)
def Hm:mJ table "list_reverseiterator.__next__"=aa d7.«list_reverseiterator.__next__»:=by show entryFor_of_fast (by kernel_rfl)
def QD:mJ table "list_reverseiterator.__iter__"=aa d7.«dict_keyiterator.__iter__»:=by show entryFor_alias (id':="dict_keyiterator.__iter__") (by kernel_rfl) rfl (by decide +kernel) (by kernel_rfl)
def Ho(v:Value):argsOk "list_reverseiterator.__next__" ([v],[]):=by(unfold argsOk;kernel_rfl)
def QE(v:Value):argsOk "list_reverseiterator.__iter__" ([v],[]):=by(unfold argsOk;kernel_rfl)
def ga(h:Heap)(it l:Addr)(j:Int):Prop:=∃o,h.get? it=aa o/\o.cls=.type "list_reverseiterator" /\ o.data=.fields #[.ref l,cu j]
def ga.ty(h:ga s.heap it l j):s.TypeIs (.ref it) "list_reverseiterator":=by
 have(o,e,c,_):=h;show(o,e,c)
def vn{Q:PRS}(hr:ga s.heap it l j)(h:Q (.ref it) s):wpAny (model P w) A (pyIter (.ref it)) Q W7 s:=by
 show wpAny_pyIter_slot hr.ty Hl (jT Hl hr.ty QD (aD (eY it,rfl,"list_reverseiterator",_,hr.ty,rX.lookup,h)) (QE _))
variable{L:Array Value}
def Hq{j:Nat}{x:Value}{Q:Option Value->ah->Prop}(hr:ga s.heap it l j)(e:s.heap.IsList l L)(f:L[j]?=aa x)
 (c:∀h',ga h' it l ((j:Int)-1)->gm it s.heap h'->Q (aa x) {s with heap:=h'}):wpAny (model P w) A (hZ (.ref it)) Q W7 s:=by
 have(o,a,d,hd):=id hr;have(o2,h2,_,g,b):=e;show am (oK (oF hr.ty rX (jT rX hr.ty Hm ?_ (Ho _))));change wpAny _ _ (field _ 1 >>= _) _ _ s;show am (wpAny_field a hd rfl ?_);show am (wpAny_field a hd rfl ?_);show am (uf h2 b ?_);simp only[cL,f];show am (wpAny_setField a hd (by simp) (aD (x,rfl,aD (c _ ?_ (oO ..)))));show(_,oN _ a (Obj.isFreed_of_fields (Obj.data_mapFields hd _)),(Obj.cls_mapFields ..).trans d,?_);rw[Obj.data_mapFields hd];rfl
def Hr(d:j<0){Q:Option Value->ah->Prop}(c:A.handled=ab)(hr:ga s.heap it l j)
 (a:∀h',Heap.ExtBut it s.heap h'->Q ab {s with heap:=h'}):wpAny (model P w) A (hZ (.ref it)) Q W7 s:=by
 have(o,f,h,hd):=id hr;show am (oK (oF hr.ty rX (jT rX hr.ty Hm ?_ (Ho _))));change wpAny _ _ (field _ 1 >>= _) _ _ s;show am (wpAny_field f hd rfl ?_);change wpAny _ _ (if j<0 then _ else _) _ _ s;rw[if_pos d];show am (lw ?_);show am ?_;change wpAny _ _ _ _ _ _;show am ?_;simp only[newTuple]
 show am (ja ?_ (by size_fits));show am (qX (by first |rfl |(simp only[qW];rfl)) ?_)
 show ja ?_ (by size_fits);simp only[raiseNew];show am (wpAny_handled ?_);rw[show A.in1.handled=ab from c];show am (aD (wpAny_throw ?_));show am (qV (_,cO _ rfl,rfl) isSubtype_stop ?_);show aD (a _ λb u g e=>(bz _ (bz _ e)))
def QF{T n a:String}{m:d7}{args:LVa}{S:K2}{Q:PRS}{c:Value}{tl:LVa}
 (y:(kz T==kz "type")=af)(z:((Manifest.find? T).bind (·.mro.findSome? λt=>(Manifest.find? t).bind λb=>if b.noNew then aa ac else if b.attrs.any (·.1 == "__new__") then aa af else ab)).getD af=af)
 (p:mroOf (.type T)=pure (c::tl))(l:Bind.madeBy (.type T)=pure (aa a))(f:plainId a=ac)(q:isSubtype (.type n) (.type T)=pure af)
 (u:checkTypeCall T (args,[])=pure ())(j:checkBuiltinCall a (.type T::args,[])=pure ())(d:mJ table a=aa m)(g:Meets (m (.type T::args,[])) S)
 (h:S A.in1 (wants (λobj i=>i.TypeIs obj n/\Q obj i) W7) s):wpAny (model P w) A (call (.type T) args) Q W7 s:=by
 show wpAny_call (codeAny_of_tree ?_);change wpAny _ _ _ _ _ _;show aD (Code.quiet_builtin _ (by decide +kernel),ko F.entry_type_call ?_);simp only[ca.under_plain (weight_type_call_type T args []) (units_type_call_type T args [])]
 repeat (any_goals (first |assumption |wp_step))
 show lu (xz f d (qX j (g P w A.in1 _ s h))) λr s1 hr=>?_
 cases r with
 |error e=>show hr
 |ok fl=>
  cases fl with
  |ret obj=>
   have(v,x):=hr
   repeat (any_goals (first |assumption |wp_step))
  | _=>show hr.elim
def Ht:mroOf (.type "reversed")=pure [.type "reversed",.type "object"]:=by(rw[mroOf_type];kernel_rfl)
def QG:mG (.type "reversed") "__new__"=pure (aa (.builtin "reversed.__new__")):=by(rw[ku,km];kernel_rfl)
def QH:Bind.madeBy (.type "reversed")=pure (aa "reversed.__new__"):=madeBy_type Ht QG (by decide +kernel)
def QI:isSubtype (.type "list_reverseiterator") (.type "reversed")=pure af:=by(rw[mD];kernel_rfl)
def QJ:mJ table "reversed.__new__"=aa d7.«reversed.__new__»:=by show entryFor_of_tree (by kernel_rfl)
def Hu:jb "reversed"=aa (.type "reversed"):=by kernel_rfl
def QK:mG (.type "list") "__reversed__"=pure (aa (.builtin "list.__reversed__")):=by(rw[ku,km];kernel_rfl)
def QL(l:Addr)(L:Array Value)(n:Nat)(dc:Option Addr)(sl:Array (Option Value)):Meets (d7.«list.__reversed__» ([.ref l],[])) (λ_ R s=>s.heap.get? l=aa {cls:=.type "list",dict:=dc,data:=.seq L n,slots:=sl}/\R (.ok (.ret (.ref s.heap.objs.size))) {s with heap:=s.heap.push {cls:=.type "list_reverseiterator",data:=.fields #[.ref l,cu (((L.size:Nat):Int)-1)]}}):=
 .of_wp λprog w A R s h=>by
  have(a,h):=h
  wp_walk
  show(_,rfl,h)
def QM(l:Addr)(L:Array Value)(n:Nat)(dc:Option Addr)(sl:Array (Option Value)):Meets (d7.«reversed.__new__» ([.type "reversed",.ref l],[])) (λ_ R s=>s.heap.get? l=aa {cls:=.type "list",dict:=dc,data:=.seq L n,slots:=sl}/\R (.ok (.ret (.ref s.heap.objs.size))) {s with heap:=s.heap.push {cls:=.type "list_reverseiterator",data:=.fields #[.ref l,cu (((L.size:Nat):Int)-1)]}}):=
 .of_wp λprog w A R s h=>by
  have(a,g,d,b,os):=s;have(e,h):=h;have j:=QK;have f:isSubtype (.type "reversed") (.type "reversed")=pure ac:=by(rw[mD];kernel_rfl)
  have i:uq (a,g,d,b,os) (.ref l) "list":=(_,e,rfl);have m:=xE.bind (eY l)
  repeat (any_goals (first |assumption |wp_step))
  have step:gH _ A.in1 _ (λr c=>r=.ok _/\c=(a.push {cls:=.type "list_reverseiterator",data:=.fields #[.ref l,cu _]},g,d,b,os)) (a,g,d,b,os):=
   xz xE.plain PySem.F.entry_list_reversed (xE.check _ _ _ _ _ _ _ _ i (PySem.F.args_list_reversed_1 _) (QL l L n dc sl prog w A.in1 (λr c=>r=.ok (.ret (.ref a.objs.size))/\c=(a.push {cls:=.type "list_reverseiterator",data:=.fields #[.ref l,cu (((L.size:Nat):Int)-1)]},g,d,b,os)) (a,g,d,b,os) (e,rfl,rfl)))
  show lu step λr s1 hr=>?_;have(rfl,rfl):=hr;show aD (_,rfl,h)
def Hv{Q:PRS}(d:s.heap.IsList l L)
 (h:∀h',ga h' s.heap.objs.size l (((L.size:Nat):Int)-1)->(∀b o,s.heap.get? b=aa o->h'.get? b=aa o)->Q (.ref s.heap.objs.size) {s with heap:=h'}):wpAny (model P w) A (call (.type "reversed") [.ref l]) Q W7 s:=by
 have((c,a,dt,sl),g,f,n,hd):=d;subst f hd;have i:ga (s.heap.push {cls:=.type "list_reverseiterator",data:=.fields #[.ref l,cu _]}) s.heap.objs.size l ((L.size:Int)-1):=(_,cO _ rfl,rfl,rfl);show QF (rfl) (by decide +kernel) Ht QH (by decide +kernel) QI (by kernel_rfl) (by kernel_rfl) QJ (QM l L n a sl) (g,((_,cO _ rfl,rfl),h _ i λb o e=>bz _ e))
def Itv(K:aR)(l:Addr)(n:Nat):It:=
  (λi H=> ∃E x, SqL K H l E/\Z E = n/\E.reverse[i]? = aa x,
   λi H v H'=> H' = H/\∀E, SqL K H l E->E.reverse[i]? = aa v,
   λi H=> n<=i)
def ga.stay(q:ga h it l j)(k:∀o,h.get? it=aa o->h'.get? it=aa o):ga h' it l j:=by
 have(o,e,c,d):=q;show(o,k o e,c,d)
def QN{K:aR}(l it:Addr)(n:Nat):jX P w K tg (Itv K l n) [it] it (λi h=>ga h it l ((n:Int)-1-(i:Int))) where
 mem:=by simp
 obj:=λi h st b hb=>by
  have e:b=it:=by simpa using hb
  rw[e];have(o,e1,c,d):=st;show⟨o,e1,λv z=>by rw[d]at z;nomatch z⟩
 keep:=λi h h' st k=>st.stay λo e=>k it (by simp) o e
 item:=by
  intro X hP hw hK hc i U s C H W7 I hf st hg;subst hP hw hK;have(E,x,hq,hn,hx):=hg;have(L,rv,p,hz):=I.list hq
  have hi:i<Z E:=by
   have:=(cM.mp hx).1
   simpa using this
  have hx':E[n-1-i]?=aa x:=by
   rw[List.getElem?_reverse hi]at hx;rw[<- hn];show hx
  have(u,hu,ru):=rv.get hx';have(f0,f1,f2,f3,f4,f5):=hf it (by simp);have ej:(n-1-i)=((n-1-i:Nat):Int):=by lia
  rw[ej]at st;show Hq st p.isList (by simpa using hu) λh' dd sb=>?_;have e2:((n-1-i:Nat):Int)-1=n-1-((i+1:Nat):Int):=by lia
  rw[e2]at dd;have(o,e,c,d):=id dd;show(u,rfl,qZ e c d (rfl) (x,H,(I.turned (λb o hb e=>(sb.2 b hb).trans e) f0 f1 f3 f4 f5),ru,(rfl,λys hy=>by rw[I.list_inj hy hq];show hx),dd,λb hb=>(hf b hb).1))
 done:=by
  intro X hP hw hK hc i U s C H W7 I hf st hg;have hg:n<=i:=hg;have(f0,f1,f2,f3,f4,f5):=hf it (by simp);show Hr (by lia) (I.ok.hd hc) st λh' eb=>(rfl,I.turned (λb o hb e=>eb b o hb e) f0 f1 f3 f4 f5)
 self:=λ_ _ _ _ _ st h=>vn st h
def QO(K:aR)(ta:TA):TI:=λC H R=>ta C H λvs H1=>∃l E,vs=[.ref l]/\SqL K H1 l E/\R (Itv K l (Z E)) H1
variable{a:Expr}
def QP(n:Gl X "reversed")(hm:X.mg "reversed"=ab)(ha:PA X [a] ta)(r:autoParam (aL [a] X.env=[(af,eval a X.env,)]) Zb):PI X tg (.Call (.Name "reversed" p) [a] [] pos) (QO X.K ta):=by
 intro U s C H R I h;show Call_ (gJ I n hm Hu (jS (thn (ha pos U s C H _ I h) λus s1 w=>?_) (by rw[r];rfl) (by rfl)));have(vs,H1,c,d,l,E,e,j,q):=w;subst e;have(u,rfl,ru):=mU d;subst ru;have(f,d,v,y):=c.list j;have x:=d.length;show Hv v.isList λh' g i=>?_;show vn g ?_;show(_,_,_,_,H1,rfl,c.kept i,QN l _ (Z E),?_,λb m=>?_,q)
 .grind
 .have e:b=s1.heap.objs.size:=by simpa using m
  rw[e];show c.fpOk (aM _) (c.hok.fresh (aM _))
abbrev zH:LD->OLD
 | [x]=>(lsD x).map List.reverse
 | _=>ab
def lZ(f:MF2)(M:LS):OLD:=(f M).bind zH
variable{f:MF2}
def QQ(G:Gl X "reversed")(hm:X.mg "reversed"=ab)(ha:DA c X [a] f)(I:autoParam (aL [a] X.env=[(af,eval a X.env,)]) Zb):DI c X tg (.Call (.Name "reversed" p) [a] [] pos) (lZ f):=
 PI.imp (QP G hm ha.pa I) λC H R L=>by
  have(Hf0,H0,Hf,M,ds,st,b,k):=L;unfold lZ at b
  cases g:f M with
  |none=>rw[g]at b;nomatch b
  |some as=>
   rw[g]at b;replace b:zH as=aa ds:=b;show(Hf0,H0,Hf,M,as,st,g,λvs Hf' H' x r=>?_);unfold zH at b;split at b
   .rename_i dx
    cases ex:lsD dx with
    |none=>rw[ex]at b;nomatch b
    |some E=>
     rw[ex]at b;cases b;have(v,B,N):=r.one;have(J,e,h,n,w):=lK ex N;subst h;show(J,e,B,x.s.seq n,k _ Hf' H' x λbm H2 f2 s2 i=>?_);have m:=(f2.trans s2).seq n;have U:=w.length;show(λd y=>?_,λA=>?_)
     .have(u,l,ru):=w.reverse.get y;show((e,u,m,rfl,l),λz T q=>?_);have(rfl,Q):=q;have j:=Q e m;rw[l]at j;cases j;show(bm,Ext.refl s2,ru.up f2)
     .rw[li]at A;change Z e<=i
      lia
   .nomatch b
def QR{a:Type}{g:a->D}{E:List a}(h:f M=aa [.lst (E.map g)]):lZ f M=aa (E.reverse.map g):=by
 unfold lZ;rw[h];change aa (E.map g).reverse=_;simp
inductive tDX(G:Gc)(f:LS->Option (D×LS))(C:St)(H:Hp)(Q:VK):Prop
 |mk:∀Hf0 H0 Hf M d ρ',au G Hf0 H0 Hf H C M->f M=aa (d,ρ',)->(∀v Hf' H',ar Hf Hf'->au G Hf0 H0 Hf' H' C ρ'->Rep G Hf' d v->Q v H')->tDX G f C H Q
def DX(c:Str->Addr)(X:Cx)(e:Expr)(f:LS->Option (D×LS)):Prop:=PE X e (tDX (Gx c X) f)
def QS:mG (.type "list_reverseiterator") "__len__"=pure ab:=by(rw[ku,km];kernel_rfl)
def QT:mG (.type "list_reverseiterator") "__length_hint__"=pure (aa (.builtin "list_reverseiterator.__length_hint__")):=by(rw[ku,km];kernel_rfl)
def QU:isSubtype (.type "list_reverseiterator") (.type "list_reverseiterator")=pure ac:=by(rw[mD];kernel_rfl)
def QV{Q:Bool->ah->Prop}(hr:ga s.heap it l j)(h:Q af s):wpAny (model P w) A (EE (.ref it)) Q W7 s:=by
 show am (uc hr.ty QS ?_);show am (uc hr.ty QT ?_);show am (qV hr.ty QU (aD h))
def QW(hh:A.handled=ab)(hne:it≠l)(L:Array Value):Walks P w A it [it,l] [it] L.size (λi v=>L.toList.reverse[i]?=aa v) (λi h=>ga h it l ((L.size:Int)-1-(i:Int))/\h.IsList l L) where
 sub:=by simp
 frame:=λi h h' (a,o,e,c,n,d) k=>(a.stay λo e=>k it (by simp) o e,o,k l (by simp) o e,c,n,d)
 item:=λi s Q W7 hi st hQ=>by
  have(a,b):=st;have ej:(L.size-1-i)=((L.size-1-i:Nat):Int):=by lia
  rw[ej]at a;have hk:L.size-1-i<L.size:=by lia
  show Hq a b (x:=L[L.size-1-i]) (by simp[hk]) λh' a' sb=>?_;have e2:((L.size-1-i:Nat):Int)-1=L.size-1-((i+1:Nat):Int):=by lia
  rw[e2]at a';have hl:∀b o,b∉[it]->s.heap.get? b=aa o->h'.get? b=aa o:=λb o hb e=>(sb.2 b (by simpa using hb)).trans e;show hQ _ h' s.toks ?_ (a',?_) hl
  .rw[List.getElem?_reverse (by simpa using hi)];simp[hk]
  .have(o,e,c,n,d):=b;show(o,hl l o (by simpa using eV hne) e,c,n,d)
 done:=λs Q W7 st hQ=>by
  have(a,b):=st;show Hr (by lia) hh a λh' eb=>hQ h' s.toks λb o hb e=>eb b o (by simpa using hb) e
 self:=λi s Q W7 st h=>vn st.1 h
variable{c0:Nat}
def QX{S:Addr}(d:Value)(n:A.handled=ab)(j:it≠l)(g:S∉[it,l])(hr:ga s.heap it l ((L.size:Int)-1))(p:s.heap.IsList l L)(hn:L.size<=aU)
 (m:s.heap.get? S=aa {cls:=.type "list",dict:=ab,data:=.seq #[] c0,slots:=#[]})
 (kR:∀c c4 h,Moved (S::[it]) (λa b=>b=a) s c->c.heap.get? S=aa {cls:=.type "list",dict:=ab,data:=.seq c4 h,slots:=#[]}->ItemsOf (λi v=>L.toList.reverse[i]?=aa v) c4 L.size->R (.ok (.ret d)) c):
  wpAny (model P w) A.in1 (xA (.ref S) (.ref it) d) (λfin c=>match fin with |.done f=>R (.ok f) c |.again h=>h.quiet=ac/\gH (model P w) A h R c) (λe c=>R (.error e) c) s:=by
 have q:S≠it:=λz=>g (by rw[z];show aA);show am (wpAny_typeOf hr.ty ?_);have r:uh (.ref S) (.ref it)=af:=by simp[uh,q]
 simp only[r];show am (vn hr ?_);show am (jV (QV hr ?_));show aD (mE F.plain_extend_loop _,codeAny_extend_loopS ((QW (show A.in1.handled=ab from n) j L).toS) hn S g d L.size 0 _ #[] c0 rfl (cy _) (by simpa using hr,p) m (ItemsOf.nil _) kR)
def QY{Q:PRS}(E:A.handled=ab)(y:it≠l)(hr:ga s.heap it l ((L.size:Int)-1))(B:s.heap.IsList l L)(hn:L.size<=aU)
 (H:∀j c4 q,Moved [s.heap.objs.size,it] (λa b=>b=a) {s with heap:=s.heap.push {cls:=.type "list",data:=.seq #[]}} j->j.heap.get? s.heap.objs.size=aa {cls:=.type "list",dict:=ab,data:=.seq c4 q,slots:=#[]}->ItemsOf (λi v=>L.toList.reverse[i]?=aa v) c4 L.size->Q (.ref s.heap.objs.size) j):
  wpAny (model P w) A (call (.type "list") [.ref it]) Q W7 s:=by
 have f:it<s.heap.objs.size:=by have(o,e,_):=hr;show bD e
 have g:l<s.heap.objs.size:=by have(o,e,_):=B;show bD e
 have nf:s.heap.objs.size∉_:=λhm=>by
  rcases a9.mp hm with z |z
  .show absurd z (lr f)
  .show absurd (bq.mp z) (lr g)
 show callType_codes (Q₁:=λobj s1=>obj=.ref s.heap.objs.size/\s1={s with heap:=s.heap.push {cls:=.type "list",data:=.seq #[]}}) F.called_list (F.typeCall_list_1 _) F.entry_list_init (code_list_new _ (rfl,rfl)) λobj s1 J=>?_
 have(rfl,rfl):=J;have p:(s.heap.push {cls:=.type "list",data:=.seq #[]}).get? s.heap.objs.size=aa {cls:=.type "list",data:=.seq #[]}:=cO _ rfl;show((_,p,rfl),F.args_list_init_2 _ _,?_);apply am;show am (uf p rfl (aD ?_));apply am;show ud p rfl ?_;apply am;apply wpAny_letGo;have h:∀b o,b≠s.heap.objs.size->s.heap.get? b=aa o->((s.heap.push {cls:=.type "list",data:=.seq #[]}).update s.heap.objs.size (ic (λ_=>(#[]:Array Value)))).get? b=aa o:=λb o u e=>(oM _ _ (eV u)).trans (bz _ e)
 have x:((s.heap.push {cls:=.type "list",data:=.seq #[]}).update s.heap.objs.size (ic (λ_=>(#[]:Array Value)))).IsList l L:=by
  have(o,e,c,n,d):=B;show(o,h l o (bY g) e,c,n,d)
 show QX .none E y nf (hr.stay λo e=>h it o (bY f) e) x hn (oN _ p rfl) λj c4 q m r G=>?_
 have I:Moved [s.heap.objs.size,it] (λa b=>b=a) {s with heap:=s.heap.push {cls:=.type "list",data:=.seq #[]}} {s with heap:=(s.heap.push {cls:=.type "list",data:=.seq #[]}).update s.heap.objs.size (ic (λ_=>(#[]:Array Value)))}:=
  (λb o u e=>(oM _ _ (eV (λz=>u (by rw[z];show aA)))).trans e,rfl,rfl,rfl,aM _)
 show(rfl,H j c4 q (I.trans (λ_ _ _ C h2=>h2.trans C) m) r G)
def tRL(K:aR)(te:TE):TE:=λC H Q=>te C H λx H1=>∃l E,x=.ref l/\SqL K H1 l E/\∀p,H1 p=ab->Q (.ref p) (upd H1 p (.lst E.reverse))
def QZ(h:ItemsOf (λi v=>L.toList.reverse[i]?=aa v) c4 L.size):c4.toList=L.toList.reverse:=by
 have(c,hi):=h;show mo λi=>?_
 by_cases b:i<L.size
 .have a:i<c4.size:=by rw[c];show b
  rw[hi i c4[i] (by simp[a])];simp[a]
 .rw[gB (by simpa[c]using oB b),gB (by simpa using oB b)]
def Q0(hc:X.calm=ac)(r:Gl X "list")(y:X.mg "list"=ab)(v:Gl X "reversed")(A:X.mg "reversed"=ab)(he:PE X e te)
 (Y:autoParam (aL [.Call (.Name "reversed" p2) [e] [] c2] X.env=(af,eval (.Call (.Name "reversed" p2) [e] [] c2) X.env,)::aL [] X.env) Zb)(h2:autoParam (aL [e] X.env=(af,eval e X.env,)::aL [] X.env) Zb)
 (B:autoParam ((cj pos (aL [] X.env)).any (·.1)=af) Zb)(a:autoParam ((cj c2 (aL [] X.env)).any (·.1)=af) Zb):
  PE X (.Call (.Name "list" p) [.Call (.Name "reversed" p2) [e] [] c2] [] pos) (tRL X.K te):=by
 intro U s C H Q I h;show i9 (gJ I r y oC ?_);show jS ?_ Y B;show je (i9 (gJ I v A Hu ?_));show jS ?_ h2 a;rw[h2];show je (thn (he U s C H _ I h) λu s1 q_=>?_);have(x,H1,f,r1,l,E,T,hq,q):=q_;subst T;subst r1;show aD ?_;have(L,M,pl,hz):=f.list hq;show Hv pl.isList λh' G J=>?_;show aD ?_
 have w:h'.IsList l L.toArray:=by
  have(o,e,c,n,d):=pl.isList;show(o,J _ _ e,c,n,d)
 have lt:l<s1.heap.objs.size:=by have(o,e,_):=pl.isList;show bD e
 have le:s1.heap.objs.size<h'.objs.size:=by have(o,e,_):=G;show bD e
 show QY (f.ok.hd hc) (lr lt) G w (by rw[size_toArray,<- M.length];show hz) λs' c4 N m j ia=>?_;have(hp',g',d',tk',os'):=s';have(m1,m2,m3,m4,m5):=m;subst m2;subst m3;subst m4;show(.ref h'.objs.size,_,f.laid (λb u g=>m1 b u (λhm=>?_) (bz _ (J b u g))) (fH le) ?_,rfl,q _ (f.hok.fresh (fH le)))
 .have i:=bD g
  rcases a9.mp hm with z |z
  .rw[z]at i;show gE _ (mx i le)
  .rw[bq.mp z]at i;show gE _ i
 .show(by rw[li];show hz,c4.toList,N,?_,by simpa using j);rw[(QZ ia)]
  simpa using M.reverse
def pX(i:Nat)(M:LS):OLD:=match M[i]? with
 |some (.own E)=>aa E.reverse
 |some (.im (.lst E))=>aa E.reverse
 | _=>ab
variable{p3:Pos}
def Q1(i:Nat)(y:X.calm=ac)(g:Gl X "list")(j:X.mg "list"=ab)(h:Gl X "reversed")(m:X.mg "reversed"=ab)
 (w:autoParam (X.N[i]?=aa x) Zb)(hv:autoParam (Vis X.env.scope x) Ze)(hd:autoParam (NDb x) Zc)(f:autoParam (NCd x) Zc)
 (u:autoParam (aL [.Call (.Name "reversed" p2) [.Name x p3] [] c2] X.env=(af,eval (.Call (.Name "reversed" p2) [.Name x p3] [] c2) X.env,)::aL [] X.env) Zb)(h2:autoParam (aL [.Name x p3] X.env=(af,eval (.Name x p3) X.env,)::aL [] X.env) Zb)
 (n:autoParam ((cj pos (aL [] X.env)).any (·.1)=af) Zb)(b:autoParam ((cj c2 (aL [] X.env)).any (·.1)=af) Zb):
  DO c X (.Call (.Name "list" p) [.Call (.Name "reversed" p2) [.Name x p3] [] c2] [] pos) (pX i):=PE.imp (Q0 y g j h m (mQ w hv hd f) u h2 n b) λC H Q z=>by
 have(Hf0,H0,Hf,M,ds,st,d,k):=z;unfold pX at d;split at d
 .rename_i E es;cases d;have(l,e,A,B,vs,q,r):=st.ownAt rfl es;show(_,e,l,vs,rfl,SqL.of q,λp a=>k p _ Hf _ (Ext.tmp st.sub a) a (st.sub.free a) ba r.reverse)
 .rename_i E es;cases d;have(v,e,l,vs,rfl,q,r):=st.imm es;show(_,e,l,vs,rfl,SqL.of (st.sub _ _ q),λp a=>k p _ Hf _ (Ext.tmp st.sub a) a (st.sub.free a) ba r.reverse)
 .grind
def Hw:∀(n lo:Nat) (us:LVa),Z us=n->(∀j v,us[j]?=aa v->∃t,v=Value.int ((lo+j:Nat):Int) t)->aH (((List.range' lo n).map λ(i:Nat)=>(i:Int)).map V.int) us
 | 0,_,[],_,_=>.nil
 | 0,_,_::_,h,_=>by cases h
 | _+1,_,[],h,_=>by cases h
 |n+1,lo,u::us,h,k=>by
  show .cons (k 0 u rfl) (Hw n (lo+1) us (by simpa using h) λj v e=>?_);have:=k (j+1) v (by show e)
  rwa [show lo+(j+1)=lo+1+j by lia]at this
def tRR(ta:TA):TE:=λC H Q=>ta C H λvs H1=>∃j:Int,vs=[.int j]/\0<=j/\j<=1048576/\∀p,H1 p=ab->Q (.ref p) (upd H1 p (.lst (((bw (S j)).map λ(i:Nat)=>(i:Int)).map V.int)))
def Q2(G:X.calm=ac)(f:Gl X "list")(m:X.mg "list"=ab)(l:Gl X "range")(w:X.mg "range"=ab)(ha:PA X [a] ta)
 (E:autoParam (aL [.Call (.Name "range" p2) [a] [] c2] X.env=(af,eval (.Call (.Name "range" p2) [a] [] c2) X.env,)::aL [] X.env) Zb)(J:autoParam (aL [a] X.env=[(af,eval a X.env,)]) Zb)
 (x:autoParam ((cj pos (aL [] X.env)).any (·.1)=af) Zb):
  PE X (.Call (.Name "list" p) [.Call (.Name "range" p2) [a] [] c2] [] pos) (tRR ta):=by
 intro U s C H Q I h;show i9 (gJ I f m oC ?_);show jS ?_ E x;change wpAny _ _ (spliced ((af,eval (.Call (.Name "range" p2) [a] [] c2) X.env,)::cj pos (aL [] X.env))) _ _ s;show je (i9 (gJ I l w boot_range ?_));show jS (thn (ha c2 U s C H _ I h) λus s1 L=>?_) J rfl;have(vs,H1,c,M,j,e,Y,j1,q):=L;subst e
 cases M with
 |cons r N=>
  cases N;have(t,rfl):=r;show call_range_1 ?_;show aD ?_
  show call_list_range (n:=S j) (c.ok.hd G) (IsRange.new ..) (small_one (by lia) (by lia) (by lia) (by lia)) (by rw[rangeSize_one];split <;> lia) (by lia) λh' T c4 z kp d y=>?_
  have le:s1.heap.objs.size<=(s1.heap.push {cls:=.type "range",data:=.fields #[.int 0 s1.toks,.int j t,.int 1 (s1.toks+1)]}).objs.size:=by
   simp[Heap.push]
  show(.ref _,_,c.laid (h':=h') (t':=T) (o:=.lst (((bw (S j)).map λ(i:Nat)=>(i:Int)).map V.int)) (λb u g=>kp b u (bz _ g)) le ?_,rfl,q _ (c.hok.fresh le));show(by rw[aq,aq,bU];change _<=16777216;lia,c4.toList,z,?_,by show d);rw[range_eq_range'];show Hw j.toNat 0 c4.toList (by simpa using y.1) λi v B=>?_;have(t,A):=y.2 i v (by simpa using B);show(t,by rw[A];simp)
abbrev lrD:LD->OLD
 | [.int j]=>if 0<=j/\j<=1048576 then aa (((bw (S j)).map λ(i:Nat)=>(i:Int)).map D.int) else ab
 | _=>ab
def nF(f:MF2)(M:LS):OLD:=(f M).bind lrD
def Q3{n:Int}(h:f M=aa [.int n])(a:0<=n)(b:n<=1048576):nF f M=aa (((bw (S n)).map λ(i:Nat)=>(i:Int)).map D.int):=by
 unfold nF;rw[h];change(if 0<=n/\n<=1048576 then _ else ab)=_;rw[if_pos (a,b)]
def Q4(z:X.calm=ac)(e:Gl X "list")(m:X.mg "list"=ab)(g:Gl X "range")(n:X.mg "range"=ab)(ha:DA c X [a] f)
 (y:autoParam (aL [.Call (.Name "range" p2) [a] [] c2] X.env=(af,eval (.Call (.Name "range" p2) [a] [] c2) X.env,)::aL [] X.env) Zb)(A:autoParam (aL [a] X.env=[(af,eval a X.env,)]) Zb)
 (q:autoParam ((cj pos (aL [] X.env)).any (·.1)=af) Zb):
  DO c X (.Call (.Name "list" p) [.Call (.Name "range" p2) [a] [] c2] [] pos) (nF f):=PE.imp (Q2 z e m g n ha.pa y A q) λC H Q B=>by
 have(Hf0,H0,Hf,M,ds,st,b,k):=B;unfold nF at b
 cases d:f M with
 |none=>rw[d]at b;cases b
 |some as=>
  rw[d]at b;replace b:lrD as=aa ds:=b;show(Hf0,H0,Hf,M,as,st,d,λvs Hf' H' x r=>?_);unfold lrD at b;split at b
  .split at b
   .rename_i j u;cases b;have(v,w,E):=r.one;cases (show v=V.int j from E);show(j,w,u.1,u.2,λl i=>k l _ Hf' _ (x.trans (Ext.tmp x.s i)) (x.h.free i) (x.s.free i) ba (ao.ints _))
   .cases b
  .cases b
abbrev pY:LD->OD
 | [.int a,.int b]=>aa (.int (if b>a then b else a))
 | _=>ab
def Q5(l:X.calm=ac):pf c X (.builtin "max") pY:=by
 rintro U s C H vs us Q I p ⟨Hf,ds,d,q,r,e,k⟩;unfold pY at e;split at e
 .rename_i a b;cases e;have(v1,v,rfl,i,y,w,rfl,h2,j):=r;cases (j);cases (i);cases (h2)
  cases p with
  |cons m h=>
   cases h with
   |cons n h=>
    cases h;have(t,rfl):=m;have(u,rfl):=n;show PySem.max_two_ints (I.ok.hd l) λh' x g=>?_;show(.int _,H,I.kept g,?_,k _ Hf H (Ext.refl q) rfl)
    by_cases f:b>a
    .rw[if_pos f,if_pos f];show(u,rfl)
    .rw[if_neg f,if_neg f];show(t,rfl)
 .nomatch e
open Classical in
def dJ(f:LS->Option (D×LS))(M:LS):Option Fl:=(f M).map λp=>.nx p.2
def zJ{f:LS->Option (D×LS)}(g:DX c X e f)(h:autoParam (gi e ab pos.line X.env=pure af) Zb):DS c X (.Expr e pos) (dJ f):=PS.imp (kC g h) λW7 C H i=>by
 have(Hf0,H0,Hf,M,o,j,a,k):=i;unfold dJ at a
 cases b:f M with
 |none=>rw[b]at a;nomatch a
 |some p=>
  rw[b]at a;cases a;show(Hf0,H0,Hf,M,p.1,p.2,j,b,λv Hf' H' s d r=>k C Hf' H' s d)
def iW{f:LS->Option (D×LS)}(h:f M=aa (d,ρ',))(k:K (.nx ρ')):wp (dJ f) M K:=(_,by unfold dJ;rw[h];rfl,k)
def iX{f:MF1}(h:f M=aa d)(k:K (.rtS d M)):wp (eJ f) M K:=(_,by unfold eJ;rw[h];rfl,k)
def ao.erase{G:Gc}{H:Hp}:∀{ds:LD} {vs:LVv} (k:Nat),ao G H ds vs->ao G H (ds.eraseIdx k) (vs.eraseIdx k)
 | [],_,_,h=>by cases (show _=[]from h);show .nil
 |d::ds,_,0,(v,r,e,_,h2)=>by subst e;show h2
 |d::ds,_,k+1,(v,r,e,h1,h2)=>by subst e;show(v,r.eraseIdx k,rfl,h1,ao.erase k h2)
def Fre(W6 Hf:Hp)(fp:LAd):Prop:=fp.Nodup/\∀a∈fp,W6 a=ab/\Hf a=ab
variable{W6:Hp}
def Fre.nil:Fre W6 Hf []:=⟨.nil,λ_ h=>nomatch h⟩
def Fre.one(h:W6 l=ab)(h':Hf l=ab):Fre W6 Hf [l]:=(b9.mpr (dF,fR),λa ha=>by rw[bq.mp ha];show(h,h'))
def Fre.imp{b:Hp}(h:Fre W6 Hf fp)(k:∀a,W6 a=ab->b a=ab):Fre b Hf fp:=(h.1,λa ha=>(k a (h.2 a ha).1,(h.2 a ha).2))
def bsH(b:Bool)(H0 H:Hp):Hp:=bif b then H else H0
variable{a:Addr}
def zK(s:ar H0 H)(h:H a=ab):bsH b H0 H a=ab:=by
 cases b with
 |true=>show h
 |false=>show s.free h
inductive tDZ(G:Gc)(b:Bool)(f:LS->Option O)(C:St)(H:Hp)(Q:VK):Prop
 |mk:∀Hf0 H0 Hf M o,au G Hf0 H0 Hf H C M->f M=aa o->(∀u fp Hf' H',Ext Hf H Hf' H'->OT G Hf' H' o u fp->Fre (bsH b H0 H) Hf' fp->Q u H')->tDZ G b f C H Q
def DZ(c:Str->Addr)(X:Cx)(b:Bool)(e:Expr)(f:LS->Option O):Prop:=PE X e (tDZ (Gx c X) b f)
def jH(f:MF1)(M:LS):Option O:=(f M).map .fz
def ix(f:MF2)(M:LS):Option O:=(f M).map λds=>.lst (ds.map .fz)
def Hx{f:MF1}(h:DE c X e f):DZ c X b e (jH f):=PE.imp h λC H Q i=>by
 have(Hf0,H0,Hf,M,t,st,a,k):=i;unfold jH at a
 cases g:f M with
 |none=>rw[g]at a;nomatch a
 |some d=>
  rw[g]at a;cases a;show(Hf0,H0,Hf,M,d,st,g,λv Hf' H' x r=>k v [] Hf' H' x (r,rfl) .nil)
def Q6(h:DO c X e f):DZ c X b e (ix f):=PE.imp h λC H Q j=>by
 have(Hf0,H0,Hf,M,t,st,a,k):=j;unfold ix at a
 cases d:f M with
 |none=>rw[d]at a;nomatch a
 |some ds=>
  rw[d]at a;cases a;show(Hf0,H0,Hf,M,ds,st,d,λl vs Hf' H' x hn g i r=>k _ [l] Hf' H' x (l,vs,[],rfl,i,OTs.fz r,rfl) (.one (zK st.ext.h hn) g))
def spT(G:Gc)(n:Nat)(m:LD->Option O):Sp:=λvs H Q _=>∃Hf ds o,ar Hf H/\ao G Hf ds vs/\Z ds=n/\m ds=aa o/\∀u fp Hf' H',Ext Hf H Hf' H'->OT G Hf' H' o u fp->Fre H Hf' fp->Q u H'
mutual
noncomputable def O.flat:O->Bool
 |.fz d=>d.flat
 |.lst os=>O.flats os
 |.tup os=>O.flats os
 |.dic _ os=>O.flats os
 |.ins _ _ os=>O.flats os
 |.dT _ os=>O.flats os
 |.at _ o=>o.flat
 |.jnk _=>ac
 |.any=>ac
noncomputable def O.flats:List O->Bool
 | []=>ac
 |o::os=>o.flat && O.flats os
end
def nG(i:Nat)(f:LS->Option O)(M:LS):Option Fl:=(f M).map λo=>.nx (M.set i (.deep o))
def Q7(i:Nat){f:LS->Option O}(j:X.N.Nodup)(l:DZ c X ac e f)(hi:autoParam (X.N[i]?=aa x) Zb)(q:autoParam (Loc X.env.scope x) Zf)(n:autoParam (gi e (aa (.Name x b4)) pos.line X.env=pure af) Zb)(m:autoParam (LcF X x) Zg):
  DS c X (.Assign [.Name x b4] e pos) (nG i f):=PS.imp (oT j hi q l n m) λW7 C H v=>by
 have(Hf0,H0,Hf,M,o,g,b,k):=v;unfold nG at b
 cases d:f M with
 |none=>rw[d]at b;nomatch b
 |some t=>
  rw[d]at b;cases b;show(Hf0,H0,Hf,M,t,g,d,λu fp Hf' H' x r z=>k _ Hf' H' x.f (g.setNew x (u,fp,rfl,r,z.1,λa ha=>(g.ext.h.free (z.2 a ha).1,(z.2 a ha).2)) λa p=>?_));have(fp',w,ha):=p;have:=OT.funM t u fp fp' r w;subst this;show(z.2 a ha).1
def OTs.at:∀{G:Gc} {Hf H:Hp} {os:List O} {vs:LVv} {fp:LAd} {k:Nat} {o:O},OTs G Hf H os vs fp->os[k]?=aa o->∃v f,vs[k]?=aa v/\OT G Hf H o v f/\∀a∈f,a∈fp
 | _,_,_,[],_,_,_,_,_,e=>by simp at e
 | _,_,_,o::os,_,_,0,o',q8_,e'=>by
  have(v,r,f1,f2,e,d,h2,c):=q8_;cases e';subst e c
  show(v,f1,rfl,d,λa ha=>b8 _ ha)
 | _,_,_,o::os,_,_,k+1,o',q8_,e'=>by
  have(v,r,f1,f2,e,d,h2,c):=q8_;subst e c;have(g,f,a,b,m):=OTs.at h2 e';show(g,f,by rw[g9];show a,b,λa ha=>cF _ (m a ha))
variable{i:Nat}
def Q8{f:LS->Option O}{o:O}(h:f M=aa o)(k:K (.nx (M.set i (.deep o)))):wp (nG i f) M K:=(_,by unfold nG;rw[h];rfl,k)
def OTs.length{G:Gc}{Hf H:Hp}:∀{os:List O} {vs:LVv} {fp:LAd},OTs G Hf H os vs fp->Z os=Z vs
 | [],_,_,h=>by rw[h.1];rfl
 |o::os,_,_,(v,r,f1,f2,e,h1,h2,ef)=>by subst e;simp[OTs.length h2]
def OTs.append{G:Gc}{Hf H:Hp}:∀{os ps:List O} {vs us:LVv} {f g:LAd},OTs G Hf H os vs f->OTs G Hf H ps us g->OTs G Hf H (os++ps) (vs++us) (f++g)
 | [],_,_,_,_,_,h,t=>by have(a,b):=h;subst a b;show t
 |o::os,_,_,_,_,_,(v,r,f1,f2,e,h1,h2,ef),t=>by subst e ef;show(v,r++_,f1,f2++_,rfl,h1,OTs.append h2 t,cG _ _ _)
def OTs.one{o:O}{f:LAd}(h:OT G Hf H o v f):OTs G Hf H [o] [v] f:=(v,[],f,[],rfl,h,(rfl,rfl),(bN _).symm)
def O.appd(o:O)(d:D):Option O:=match o with
 |.lst E=>if Z E<16777216 then aa (.lst (E++[.fz d])) else ab
 |.jnk n=>if n<16777216 then aa (.jnk (n+1)) else ab
 | _=>ab
def Hy{o o':O}{fk:LAd}(h:o.appd d=aa o')(r:OT G Hf H o v fk):∃l us,v=.ref l/\H l=aa (.lst us)/\Z us<16777216/\l∈fk /\
  ∀Hf' H' w,fk.Nodup->ar Hf Hf'->(∀b u,b≠l->H b=aa u->H' b=aa u)->H' l=aa (.lst (us++[w]))->Rep G Hf' d w->OT G Hf' H' o' v fk:=by
 cases o with
 |lst E=>
  replace h:(if Z E<16777216 then aa _ else ab)=aa o':=h;split at h
  .rename_i j;cases h;have(l,us,fs,e,q,B,c):=r;subst e c;show(l,us,rfl,q,by rw[<- B.length];show j,aA,λHf' H' w n f m i a=>?_)
   have o1:=OTs.frameM f E us fs B λb u g hm=>m b u (λz=>by
    subst z;rw[q]at g;cases g
    rcases hm with hm |hm
    .nomatch hm
    .show(b9.mp n).1 hm) g
   have o2:=o1.append (.one (o:=.fz d) (a,rfl));rw[bN]at o2;show(l,us++[w],fs,rfl,i,o2,rfl)
  .nomatch h
 |jnk n=>
  replace h:(if n<16777216 then aa _ else ab)=aa o':=h;split at h
  .rename_i j;cases h;have(l,us,e,q,z,c):=r;subst e c;show(l,us,rfl,q,by lia,aA,λHf' H' w _ f m i a=>(l,us++[w],rfl,i,by rw[aP,fB];lia,rfl))
  .nomatch h
 | _=>nomatch h
def Hz(G:Gc)(Hf H:Hp)(C:St)(M:LS)(a:Addr):Prop:=∀(k:Nat) (t:Sl) (w:V),M[k]?=aa t->C[k]?=aa (aa w)->Holds G Hf H t w a->False
def HA(ks:LN)(a b:LS):Prop:=Z a=Z b/\∀m,m∉ks->a[m]?=b[m]?
def HA.refl(ks:LN)(a:LS):HA ks a a:=(rfl,λ_ _=>rfl)
def gT(H:Hp)(fp:LAd):Hp:=λa=>if a∈fp then ab else H a
def zM(h:a∈fp):gT H fp a=ab:=by unfold gT;rw[if_pos h]
def vp(h:a∉fp):gT H fp a=H a:=by unfold gT;rw[if_neg h]
def Q9:ar (gT H fp) H:=λa o e=>by
 by_cases h:a∈fp
 .rw[zM h]at e;nomatch e
 .rw[vp h]at e;show e
def HB{F H:Hp}(s:ar F H)(h:∀a∈fp,F a=ab):ar F (gT H fp):=λa o e=>by
 rw[vp (λz=>by rw[h a z]at e;nomatch e)];show s a o e
variable{kvs:List (Key×V)}
def Inv.freeze(I:Inv X U C H s)(e:H l=aa (.dK kvs)):∃od,Inv X U C (upd H l (.frz od (.dK kvs))) s:=by
 have(z,ns,vs,f,od,es,ep,g,r):=FB I.hok e;show(od,?_)
 have d:∀b u,H b=aa u->(∀w,u≠.dK w)->upd H l (.frz od (.dK kvs)) b=aa u:=λb u a i=>by
  rw[aN (λq=>by subst q;rw[e]at a;cases a;show i _ rfl)];show a
 have:=I.step (t':=s.toks) (d':=s.drawn) (ch:=[]) (λb a=>nomatch a) (λb o _ _ _ e _=>e) (λb o _ _ _ e _=>(o.slots,e)) (λb o _ _ n=>by rw[aN (λq=>by subst q;rw[e]at n;nomatch n)];show n)
  (λb o _ e=>(o,e)) (λb E a=>d b _ a (λw q=>by nomatch q)) (λb o u a=>d b _ a (λw q=>by nomatch q)) (λb ps a=>(#[],by rw[d b _ a (λw q=>by nomatch q)];simp)) (λm hm=>hm) (λb u a=>?_) I.bare
 .show this
 .by_cases q:b=l
  .subst q;rw[ba]at a;cases a;show(g,z,ns,vs,f,od,es,ep,g,r)
  .rw[aN q]at a;show(I.hok b u a).stay (λc v _ h=>h) (λc h=>d c _ h (λw q=>by nomatch q)) (λc E h=>d c _ h (λw q=>by nomatch q))
def Itk(od:Obj)(d:Addr):It:=
  (λi H=> ∃kvs k v, H d = aa (.frz od (.dK kvs))/\kvs[i]? = aa (k, v,),
   λi H x H'=> H' = H/\∀kvs, H d = aa (.frz od (.dK kvs))->∃k v, kvs[i]? = aa (k, v,)/\x = kV k,
   λi H=> ∃kvs, H d = aa (.frz od (.dK kvs))/\Z kvs<=i)
def KV.get:∀{E:List (Key×V)} {us:List (Key×Value)} {i:Nat} {x:Key×V},KV E us->E[i]?=aa x->∃u,us[i]?=aa u/\x.1=u.1/\aC x.2 u.2
 | _,_,_,_,.nil,e=>by simp at e
 | _,_,0,_,.cons r _,e=>by simp at e;subst e;show(_,rfl,r)
 | _,_,i+1,x,.cons _ t,e=>by
  have(u,a,h2):=KV.get t (by simpa using e);show(u,by simpa using a,h2)
def Ra{k:Key}{v:Value}(h:lD k v=ac):aC (kV k) v:=by
 rcases jk h with⟨i,t,rfl,rfl⟩ |⟨x,t,rfl,rfl⟩
 .show(t,rfl)
 .show(t,rfl)
variable{K:aR}
def Rb{od:Obj}{es:Array DictEntry}(hd:od.data=.dict es ep)(d it:Addr):jX P w K tg (Itk od d) [it] it (λi h=>h.IsKeyIter it d i es.size ep) where
 mem:=by simp
 obj:=λi h st b hb=>by
  have e:b=it:=by simpa using hb
  subst e;have(o,e,c,d):=st;show⟨o,e,λv z=>by rw[d]at z;nomatch z⟩
 keep:=λi h h' st k=>st.at λo e=>k it (by simp) o e
 item:=by
  intro X hP hw hK hc i U s C H W7 I hf st hg;subst hP hw hK;have(kvs,k,v,hH,hx):=hg;have(ho,z,ns,vs,rel,od',es',ep',ho',ex,hd',kk,pp,nd):=I.hok d _ hH;rw[ho]at ho';cases ho';rw[hd]at hd';cases hd';have hm:s.heap.DictAt _ d vs ep:=(od,es,ho,ex,hd,kk,pp,nd);have hl:es.size=Z vs:=by rw[<- pp.length];simp
  have((k',v'),hv,ek,rv):=KV.get rel hx;subst ek;have(f0,f1,f2,f3,f4,f5):=hf it (by simp);rw[hl]at st;show wpAny_pyNext_dict_item st hm hv λkey h' hkey dd sb=>?_;show(key,rfl,letGo_keyiter dd (kV k,H,(I.turned (λb o hb e=>(sb.2 b hb).trans e) f0 f1 f3 f4 f5),Ra hkey,(rfl,λkvs2 h2=>?_),by rw[hl];show dd,λb hb=>(hf b hb).1));rw[hH]at h2;cases h2;show(k,v,hx,rfl)
 done:=by
  intro X hP hw hK hc i U s C H W7 I hf st hg;subst hP hw hK;have(kvs,hH,hx):=hg;have(ho,z,ns,vs,rel,od',es',ep',ho',ex,hd',kk,pp,nd):=I.hok d _ hH;rw[ho]at ho';cases ho';rw[hd]at hd';cases hd';have hm:s.heap.DictAt _ d vs ep:=(od,es,ho,ex,hd,kk,pp,nd);have hl:es.size=Z vs:=by rw[<- pp.length];simp
  have hv:=oP rel;have(f0,f1,f2,f3,f4,f5):=hf it (by simp);rw[hl]at st;show wpAny_pyNext_dict_end (I.ok.hd hc) st hm (gB (by lia)) λh' eb=>(rfl,I.turned (λb o hb e=>eb b o hb e) f0 f1 f3 f4 f5)
 self:=λ_ _ _ _ _ st h=>wpAny_pyIter_keyiter st h
def Rc(te:TE):TI:=λC H R=>te C H λx H1=>∃d od kvs,x=.ref d/\H1 d=aa (.frz od (.dK kvs))/\R (Itk od d) H1
def Re(m:PE X e te):PI X tg e (Rc te):=by
 intro U s C H R I h;show thn (m U s C H _ I h) λv s1 u=>?_;have(x,H1,f,w,r):=u;have(d,od,kvs,ex,j,q):=r;subst ex;subst w;have(i,z,ns,vs,y,p,es,ep,c,g,a,kk,pp,nd):=f.hok d _ j;rw[i]at c;cases c;have hm:s1.heap.DictAt _ d vs ep:=(od,es,i,g,a,kk,pp,nd);have n:es.size=Z vs:=by rw[<- pp.length];simp
 show wpAny_pyIter_dict ns hm ?_;show(s1.heap.objs.size,_,_,_,H1,rfl,f.kept λb o e=>bz _ e,Rb a d _,(_,cO _ rfl,rfl,by rw[n];rfl),λb l=>?_,q);have e:b=s1.heap.objs.size:=by simpa using l
 subst e;show f.fpOk (aM _) (f.hok.fresh (aM _))
abbrev kD:Key->D
 |.inl i=>.int i
 |.inr x=>.str x
def Rf(k:Key):Rep G H (kD k) (kV k):=by cases k <;> rfl
abbrev Rg:D->OLD
 |.kd ks _=>aa (ks.map kD)
 | _=>ab
def rY(f:MF1)(M:LS):OLD:=(f M).bind Rg
def HC{a c:Type}:∀{ks:List a} {vs:List c} {i:Nat} {k:a},Z ks=Z vs->ks[i]?=aa k->∃v,(ks.zip vs)[i]?=aa (k,v,)
 | [],_,_,_,_,e=>by simp at e
 | _::_,[],_,_,h,_=>by cases h
 |k::ks,v::vs,0,_,_,e=>by simp at e;subst e;show(v,rfl)
 |k::ks,v::vs,i+1,_,h,e=>by
  have(u,b):=HC (by simpa using h) (by simpa using e);show(u,by simpa using b)
variable{f:MF1}
def Rh(I:DE c X e f):DI c X tg e (rY f):=PI.imp (Re I) λC H R L=>by
 have(Hf0,H0,Hf,M,ds,st,b,k):=L;unfold rY at b
 cases h:f M with
 |none=>rw[h]at b;nomatch b
 |some d=>
  rw[h,az]at b
  cases d with
  |kd ks E=>
   cases b;show(Hf0,H0,Hf,M,_,st,h,λv Hf' H' x r=>?_);have(a,od,vs,A,q,z,B):=r;show(a,od,_,A,x.s _ _ q,k _ Hf' H' x λbm H2 f2 s2 i=>?_);have l:=(f2.trans s2) _ _ q;show(λd g=>?_,λw=>(_,l,by rw[ox,<- z];rw[aq]at w;lia));rw[cx]at g
   cases j:ks[i]? with
   |none=>rw[j]at g;nomatch g
   |some n=>
    rw[j]at g;cases g;have(u,m):=HC z j;show((_,n,u,l,m),λy N (p,J)=>?_);subst p;have(Q,T,h2,G):=J _ l;rw[m]at h2;cases h2;subst G
    show(bm,Ext.refl s2,Rf n)
  | _=>nomatch b
def gU(ks:List Key)(E:LD)(k:Key):OD:=((ks.zip E).find? λa=>decide (a.1=k)).map (·.2)
def vq{G:Gc}{H:Hp}{k:Key}:∀{ks:List Key} {E:LD} {vs:LVv},Z ks=Z vs->ao G H E vs->(∀d,gU ks E k=aa d->∃v,cQ (ks.zip vs) k=aa v/\Rep G H d v)/\(gU ks E k=ab->cQ (ks.zip vs) k=ab)
 | [],_,_,_,_=>(λd h=>(by cases h),λ_=>rfl)
 | _::_,_,[],h,_=>by cases h
 |j::ks,[],v::vs,_,r=>by cases (r)
 |j::ks,x::E,v::vs,h,q4_=>by
  have(u,f,e,c,h2):=q4_
  injection e with e1 e2
  subst e1 e2;have(a,b):=vq (by simpa using h) h2;unfold gU;simp only[fD,fD]
  by_cases q:j=k
  .subst q;show(λd hd=>(v,rj rfl,?_),λhd=>?_)
   .rw[find?_cons_of_pos (by simp)]at hd;cases hd;show c
   .rw[find?_cons_of_pos (by simp)]at hd;cases hd
  .rw[find?_cons_of_neg (by simpa using q),oU q];show(a,b)
abbrev vt:D->Option (List Key×LD)
 |.dic ks E=>aa (ks,E,)
 |.kd ks E=>aa (ks,E,)
 | _=>ab
variable{a:Expr}
def HD{p:List Key×LD}(e:vt d=aa p)(r:Rep G H d v):∃a vs,v=.ref a/\Rd H a (.dK (p.1.zip vs))/\Z p.1=Z vs/\ao G H p.2 vs:=by
 cases d with
 |dic ks E=>cases e;have(a,vs,b,q,z,r):=r;show(a,vs,b,.inl q,z,r)
 |kd ks E=>cases e;have(a,od,vs,b,q,z,r):=r;show(a,vs,b,.inr (od,q),z,r)
 | _=>nomatch e
variable{u:HO}
def Rd.up{a:Addr}(h:Rd H a u)(s:ar H H'):Rd H' a u:=h.imp (s _ _) λb=>by
 have(o,e):=b;show((o,s _ _ e))
def rZ(x y:D):OD:=(vt x).bind λp=>(jC y).bind λk=>gU p.1 p.2 k
variable{b:Expr}
def Ri(hu:X.A.units+64<cLine)(ha:DE c X a f)(J:DE c X b g)(L:autoParam (rm b) Zj):DE c X (.Subscript a b pos) (m2 rZ f g):=
 PE.imp (yw (by lia) ha J L) λC H Q U=>by
  have(Hf0,H0,Hf,M,d,st,G,k):=U;have(x,y,B,E,e):=m6 G;show(Hf0,H0,Hf,M,x,st,B,λv b3 H1 n Y=>(Hf0,H0,b3,M,y,st.step n,E,λu bm H2 m r2=>?_));unfold rZ at e
  cases h:vt x with
  |none=>rw[h]at e;nomatch e
  |some p=>
   rw[h,az]at e
   cases i:jC y with
   |none=>rw[i]at e;nomatch e
   |some T=>
    rw[i,az]at e;have(l,vs,el,q,z,r):=HD h (Y.up m.f);have I:=rP i r2;subst I el;have(w,N,j):=(vq z r).1 d e;show(l,w,rfl,.inl (_,T,q.up m.s,rfl,N.symm),k _ bm H2 (n.trans m) j)
def pZ(i:Nat)(fk a:MF1)(M:LS):OD:=match M[i]? with
 |some (.ownd ks E)=>(fk M).bind λy=>(jC y).bind λk=>(a M).map λx=>(gU ks E k).getD x
 | _=>ab
variable{cpos:Pos}
def Rj{o:Expr}(hu:X.A.units+64<cLine){B:MF1}(U:PE X o (cT i))(T:DE c X a fk)(hx:DE c X b B)(m:M2 X o "get" apos a b cpos):DE c X (.Call (.Attribute o "get" apos) [a,b] [] cpos) (pZ i fk B):=
 PE.imp (yx (by lia) U T hx m) λC H Q q_=>by
  have(Hf0,H0,Hf,M,d,st,e,k):=q_;unfold pZ at e;split at e
  .rename_i ks E es
   cases j:fk M with
   |none=>rw[j]at e;nomatch e
   |some y=>
    rw[j,az]at e
    cases p:jC y with
    |none=>rw[p]at e;nomatch e
    |some J=>
     rw[p,az]at e
     cases n:B M with
     |none=>rw[n]at e;nomatch e
     |some x=>
      rw[n]at e;cases e;have(l,el,h0,hf,vs,q,z,r):=st.ownAt rfl es;show(_,el,l,rfl,.inl (_,.inl q),Hf0,H0,Hf,M,y,st,j,λv b3 H1 g r1=>(Hf0,H0,b3,M,x,st.step g,n,λu bm H2 I r2=>?_));have L:=rP p r1;subst L;show(cQ _ J,fY.k ((g.trans I).h _ _ q),k _ bm H2 (g.trans I) ?_);have(N,h2):=vq z (r.up (g.trans I).f)
      cases hv:gU ks E J with
      |none=>rw[h2 hv];show r2
      |some d=>
       have(w,Y,G):=N d hv;rw[Y];show G
  .nomatch e
def p7(i:Nat)(F:MF3)(M:LS):Option Fl:=match M[i]? with
 |some (.ownd ks E)=>F (M.set i (.im (.kd ks E)))
 | _=>F M
def Rk{F:MF3}{W7:jm}(I:Inv X U C H s)(h:tDS (Gx c X) (p7 i F) W7 C H):∃H',Inv X U C H' s/\tDS (Gx c X) F W7 C H':=by
 have(Hf0,H0,Hf,M,o,Q,T,k):=h;unfold p7 at T;split at T
 .rename_i ks E es;have(l,A,h0,G,vs,q,z,r):=Q.ownAt rfl es;have(od,I'):=I.freeze q;show(_,I',Hf0,H0,upd Hf l (.frz od (.dK (ks.zip vs))),M.set i _,o,?_,T,k.up (bQ G))
  have s1 : au _ Hf0 H0 Hf (upd H l (.frz od (.dK (ks.zip vs)))) C (M.set i .no):=Q.chg es A (λb u Y=>by
   by_cases g:b=l
   .subst g;show .inl ((Holds.own rfl).mpr rfl)
   .show .inr (by rw[aN g];show Y)) trivial λa p=>(p.calm rfl).elim
  have s2:au (Gx c X) Hf0 H0 (upd Hf l (.frz od (.dK (ks.zip vs)))) (upd H l (.frz od (.dK (ks.zip vs)))) C (M.set i .no):=by
   have fr:Hz (Gx c X) Hf H C (M.set i .no) l:=λm t w b x p=>by
    rcases cU b with⟨_,e',_⟩ |⟨ne,b⟩
    .subst e';show p.calm rfl
    .show ne (Q.dj m i t _ w _ l b es x A p ((Holds.own rfl).mpr rfl))
   have L:Hz (Gx c X) Hf (upd H l (.frz od (.dK (ks.zip vs)))) C _ l:=λm t w b x p=>by
    cases B:t.isOwn with
    |true=>
     show fr m t w b x ((Holds.own B).mpr ((Holds.own B).mp p))
    |false=>
     cases t with
     |deep o'=>
      have(fp,rr,ha):=p
      have (u,fp',eu,r2,_):=Q.at' m _ _ x (by
       rcases cU b with⟨_,e',_⟩ |⟨ne,b⟩
       .nomatch e'
       .show b)
      cases eu
      have r3:OT _ Hf (upd H l (.frz od (.dK (ks.zip vs)))) o' w fp':=r2.frame (ar.refl _) λb' u' g j=>by
       rw[aN (λJ=>?_)]
       .show g
       .subst J
        rcases j with j |j
        .rw[q]at g;cases g;nomatch j
        .show fr m _ w b x (fp',r2,j)
      have:=OT.funM o' w _ _ r3 rr;subst this
      show fr m _ w b x (fp',r2,ha)
     | _=>first |show tN p.1 |nomatch B
   show s1.re (s1.ext.f.trans (bQ G),s1.ext.h,λb u e=>?_,λb u e t=>?_) rfl (λm v t a b=>?_) λm t v a b x p=>(t,b,(s1.at' m _ t x b).back (λo' fp _ r=>r.up (bQ G) (ar.refl _)) p)
   .by_cases Y:b=l
    .subst Y;rw[ba]at e ⊢;show e
    .rw[aN Y]at e;show s1.ext.s b u e
   .rw[aN (λz=>by subst z;rw[h0]at e;nomatch e)];show s1.ext.n b u e t
   .have J:=s1.at' m v t a b
    cases B:t.isOwn with
    |true=>
     have(l2,e2,e3,e4,q2):=J.own B;subst e2;show .ofOwn B (l2,rfl,e3,?_,q2.up (bQ G) λo' ho'=>ho');rw[aN (λz=>by subst z;show L m t _ b a ((Holds.own B).mpr rfl))]
     show e4
    |false=>
     cases t with
     |no=>trivial
     |im d=>have(u',A,r):=J;show(u',A,r.up (bQ G))
     |val u'=>show J
     |deep o'=>
      have(w,fp,A,r,n,zz):=J;subst A;show(w,fp,rfl,r.up (bQ G) (ar.refl _),n,λy hy=>((zz y hy).1,?_));rw[aN (λz=>by subst z;show L m _ w b a (fp,r,hy))]
      show(zz y hy).2
     | _=>nomatch B
  have N:=s2.setIm (i:=i) (d:=.kd ks E) (l,od,vs,rfl,ba,z,r.up (bQ G))
  have e3:C.set i (aa (.ref l))=C:=by
   apply mo;intro jj
   by_cases hj:i=jj
   .subst hj;rw[kf (cM.mp A).1,A]
   .rw[lg hj]
  rw[e3,set_set]at N;show N
 .show(H,I,Hf0,H0,Hf,M,o,Q,T,k)
def Rl{F:MF3}(i:Nat)(h:DS c X st F):DS c X st (p7 i F):=λU s C H W7 I q=>by
 have(H',a,b):=Rk I q;show h U s C H' W7 a b
nonrec def Xe:=LS->Option (D×LS)
nonrec def Xa:=LS->Option (LD×LS)
nonrec def Xt:=LS->Option (Bool×LS)
def mX(f:MF1):Xe:=λM=>(f M).map λd=>(d,M,)
def cE:Xa:=λM=>aa ([],M,)
def bM(f:Xe)(g:Xa):Xa:=λM=>(f M).bind λp=>(g p.2).map λq=>(p.1::q.1,q.2,)
def Rm(h:mX f M=aa (d,ρ',)):f M=aa d/\ρ'=M:=by
 unfold mX at h
 cases e:f M with
 |none=>rw[e]at h;nomatch h
 |some d'=>rw[e]at h;cases h;show(rfl,rfl)
def HE{f:Xe}{g:Xa}(h:bM f g M=aa (ds,ρ',)):∃d r ρ1,f M=aa (d,ρ1,)/\g ρ1=aa (r,ρ',)/\ds=d::r:=by
 unfold bM at h
 cases b:f M with
 |none=>rw[b]at h;nomatch h
 |some p=>
  rw[b,az]at h
  cases a:g p.2 with
  |none=>rw[a]at h;nomatch h
  |some q=>rw[a]at h;cases h;show(p.1,q.1,p.2,rfl,a,rfl)
inductive r6(G:Gc)(f:Xa)(C:St)(H:Hp)(Q:LVv->Hp->Prop):Prop
 |mk:∀Hf0 H0 Hf M ds ρ',au G Hf0 H0 Hf H C M->f M=aa (ds,ρ',)->(∀vs Hf' H',ar Hf Hf'->au G Hf0 H0 Hf' H' C ρ'->ao G Hf' ds vs->Q vs H')->r6 G f C H Q
structure DAX(c:Str->Addr)(X:Cx)(es:LEx)(f:Xa):Prop where
 pa:PA X es (r6 (Gx c X) f)
 len:∀M ds ρ',f M=aa (ds,ρ',)->Z ds=Z es
def DE.dx(h:DE c X e f):DX c X e (mX f):=PE.imp h λC H Q g=>by
 have(Hf0,H0,Hf,M,d,ρ',st,b,k):=g;have(a,rfl):=Rm b;show(Hf0,H0,Hf,_,d,st,a,λv Hf' H' x r=>k v Hf' H' x.f (st.step x) r)
def Rn:DAX c X [] cE:=(PA.imp dY λC H Q b=>by have(Hf0,H0,Hf,M,ds,ρ',st,a,k):=b;cases a;show k [] Hf H (ar.refl _) st rfl,λM ds ρ' h=>by cases h;rfl)
variable{f:Xe}
def HF{g:Xa}(ha:DX c X e f)(hr:DAX c X es g)(l:autoParam (StE X e es) Zb):DAX c X (e::es) (bM f g):=by
 show(PA.imp (eG ha hr.pa l) λC H Q m=>?_,λM ds ρ' h=>?_)
 .have(Hf0,H0,Hf,M,ds,ρ',st,j,k):=m;have(d,r,ρ1,i,a,rfl):=HE j;show(Hf0,H0,Hf,M,d,ρ1,st,i,λv b3 H1 f1 st1 n=>(Hf0,H0,b3,ρ1,r,ρ',st1,a,λvs bm H2 f2 b p=>k _ bm H2 (f1.trans f2) b (.cons (n.up f2) p)))
 .have(d,r,ρ1,i,a,rfl):=HE h;simp[hr.len ρ1 r ρ' a]
def gb(i:Nat)(f:Xe)(M:LS):Option Fl:=(f M).map λp=>.nx (p.2.set i (.im p.1))
abbrev zN:D->D->OD
 |.int i,.int j=>aa (.int (i+j))
 |.str a,.str b=>if a.length+b.length<=16777216 then aa (.str (a++b)) else ab
 | _,_=>ab
def nH(i:Nat)(f:Xe)(M:LS):Option Fl:=match M[i]? with
 |some (.im x)=>(f M).bind λp=>(zN x p.1).map λz=>.nx (p.2.set i (.im z))
 | _=>ab
def vv(i:Nat)(g:X.N.Nodup)(h:DX c X e f)(hi:autoParam (X.N[i]?=aa x) Zb)(m:autoParam (Loc X.env.scope x) Zf)(l:autoParam (gi e (aa (.Name x b4)) pos.line X.env=pure af) Zb)(j:autoParam (LcF X x) Zg):
  DS c X (.Assign [.Name x b4] e pos) (gb i f):=PS.imp (oT g hi m h l j) λW7 C H n=>by
 have(Hf0,H0,Hf,M,o,q,a,k):=n;unfold gb at a
 cases b:f M with
 |none=>rw[b]at a;nomatch a
 |some p=>
  rw[b]at a;cases a;show(Hf0,H0,Hf,M,p.1,p.2,q,b,λv Hf' H' s d r=>k _ Hf' H' s (d.setIm r))
def Ro:PIp X .Add (rD (Gx c X) zN):=λU s C H x y v u Q I rx l p=>by
 have(Hf,dx,f,d,m,g,h,e,k):=p
 show (by
 cases dx with
 |int i=>
  cases f with
  |int j=>
   subst g;subst h;cases e
   show LQ U s C H _ _ v u Q I rx l (_,_,rfl,rfl,k _ Hf H (Ext.refl m) rfl)
  | _=>nomatch e
 |str a=>
  cases f with
  |str b=>
   subst g;subst h;replace e:(if _ then aa _ else ab)=aa d:=e;split at e
   .rename_i n;cases e;show My U s C H _ _ v u Q I rx l (_,_,rfl,rfl,by rw[dG];show n,k _ Hf H (Ext.refl m) rfl)
   .grind
  | _=>nomatch e
 | _=>nomatch e)
def Rp(i:Nat)(A:X.N.Nodup)(B:DX c X e f)(hi:autoParam (X.N[i]?=aa x) Zb)(G:autoParam (Loc X.env.scope x) Zf)(E:autoParam (LcF X x) Zg):
  DS c X (.AugAssign (.Name x b4) .Add e pos) (nH i f):=PS.imp (EX A hi G B (Ro) E) λW7 C H I=>by
 have(Hf0,H0,Hf,M,o,l,a,k):=I;unfold nH at a;split at a
 .rename_i d es
  cases g:f M with
  |none=>rw[g]at a;nomatch a
  |some p=>
   rw[g,az]at a
   cases h:zN d p.1 with
   |none=>rw[h]at a;nomatch a
   |some z=>
    rw[h]at a;cases a;have(v,n,w,q,j):=l.slot es;subst q;show(_,n,Hf0,H0,Hf,M,p.1,p.2,l,g,λu Hf' H' s b r=>(Hf',d,p.1,z,b.sub,j.up s,r,h,λy bm H2 m J=>k _ bm H2 (s.trans m.f) ((b.step m).setIm J)))
 .nomatch a
def isE(x d:D):Bool:=deq 19 d x==aa ac
def gV(y x:D):OD:=match y with
 |.lst ds=>if dC x ds=aa ac then aa (.int ((ds.findIdx (isE x):Nat):Int)) else ab
 | _=>ab
def zO{x:D}:∀{ds:LD} {b:Bool},dC x ds=aa b->(∀d∈ds,∃f,deq 19 d x=aa f)/\ds.any (isE x)=b
 | [],_,h=>by cases h;show(λd hd=>(dF hd).elim,rfl)
 |d::ds,b,h=>by
  have(a,j,c,h2,rfl):=GP h;have(g,i):=zO h2;show(λd' hd=>?_,?_)
  .rcases a9.mp hd with e |e
   .rw[e];show(a,c)
   .show g d' e
  .rw[gD,i];unfold isE;rw[c]
   cases a <;> rfl
abbrev zP(G:Gc):V->LVv->Hp->VK->Prop:=λa vs H Q=>∃Hf y x d w,vs=[w]/\ar Hf H/\Rep G Hf y a/\Rep G Hf x w/\gV y x=aa d/\∀v Hf' H',Ext Hf H Hf' H'->Rep G Hf' d v->Q v H'
def HG(hu:X.A.units+64<cLine):MtM X "list.index" (zP (Gx c X)):=by
 rintro U s C H x E v us Q I rx rv ⟨Hf,y,z,d,w,rfl,i,r1,r2,e,k⟩;unfold gV at e;split at e
 .rename_i ds;split at e
  .rename_i a;cases e;have(l,vs,el,q,B):=r1;subst el;subst rx;have(u,rfl,ru):=rv.one;have(z1,L,n,Y,T,e0):=I.lstM (i _ _ q);have(f,M,ha):=rS (A:=X.A.in1) I (by rw[qY];lia) (r2.up i) ru (B.up i) Y a;have(k1,k2):=zO a
   have same:∀m _,f L[m]=isE z (ds.getD m .non):=λm hm=>by
    have r:m<Z ds:=by rw[B.length,T];show hm
    have(v1,j,J):=B.get (b7 r);have(u1,b,ru1):=Y.get j;rw[b7 hm]at b;cases b;have(_,d',v',r',G,h'):=M L[m] (iB hm);have ev:=aC.inj G ru1;subst ev;have(b1,g):=k1 ds[m] (iB r);rw[bp,b7 r];change _=isE z ds[m];unfold isE;rw[g,(rR 19 r' (J.up i) h' g)]
    cases b1 <;> rfl
   have N:=xj (any_eq_true.mp k2);have h:ds.findIdx (isE z)<Z L:=by rw[<- T,<- B.length];show N
   show call_meets F.slot_list_index (_,e0,rfl) F.entry_list_index (F.args_list_index_2 _ _) (SeqAt.list_indexAt l L.toArray n ab #[] u f _ (by rw[size_toArray];show h) (by rw[dG]at z1;lia) ?_ ?_) (e0,λy hy=>(M y (by simpa using hy)).1,(.int _,H,I.tok _,(_,rfl),k _ Hf H (Ext.refl i) rfl))
   .simp only[tQ,same _ h,bp,b7 N];show findIdx_getElem
   .intro m hm p;rw[tQ,same m (by rw[size_toArray]at hm;show hm),bp,b7 _];have:=not_of_lt_findIdx p;show this
  .nomatch e
 .nomatch e
def Rq{f:MF1}(h:PE X e (tBM X.K "list" (zP (Gx c X)) (tD (Gx c X) f) (jo (tD (Gx c X) g) ik))):DE c X e (m2 gV f g):=PE.imp h λC H Q A=>by
 have(Hf0,H0,Hf,M,d,st,z,k):=A;have(x,y,p,r,a):=m6 z
 obtain⟨ds,rfl⟩:∃ds,x=.lst ds:=by
  unfold gV at a;split at a
  .show(_,rfl)
  .nomatch a
 show(Hf0,H0,Hf,M,_,st,p,λv b3 H1 i m=>?_);have(l,vs,el,q,B):=id m;subst el;show(.inl (rfl,_,SqL.of (i.s _ _ q)),Hf0,H0,b3,M,y,st.step i,r,λu bm H2 j E=>(bm,.lst ds,y,d,u,rfl,j.s,m.up j.f,E,a,λw b n I G=>k w b n ((i.trans j).trans I) G))
def HH{b:Type}:∀(a:List (Int×b)),(a.map (·.1)).Nodup->∀z∈a,a.find? (λy=>y.1==z.1)=aa z
 | [],_,_,h=>(dF h).elim
 |y::a,nd,z,h=>by
  rw[bG,b9]at nd;rw[find?_cons]
  rcases a9.mp h with e |e
  .rw[e,beq_self_eq_true]
  .have:_=af:=beq_eq_false_iff_ne.mpr λq=>nd.1 (aG.mpr (z,e,q.symm));rw[this];show HH a nd.2 z e
def DE.pe{f:MF1}(h:DE c X e f):PE X e (tD (Gx c X) f):=h
def DX.pe(h:DX c X e f):PE X e (tDX (Gx c X) f):=h
def Rr(x y z:D):OD:=(vt x).bind λp=>(jC y).map λk=>(gU p.1 p.2 k).getD z
def r9(f g h:MF1)(M:LS):OD:=(f M).bind λx=>(g M).bind λy=>(h M).bind λz=>Rr x y z
def Rs{o:Expr}(hu:X.A.units+64<cLine){f h:MF1}(ho:DE c X o f)(hk:DE c X a g)(hx:DE c X b h)(m:M2 X o "get" apos a b cpos):DE c X (.Call (.Attribute o "get" apos) [a,b] [] cpos) (r9 f g h):=
 PE.imp (yx (by lia) ho hk hx m) λC H Q q_=>by
  have(Hf0,H0,Hf,M,d,st,e,k):=q_;unfold r9 at e;have(x,I,e):=t8.mp e;have(y,J,e):=t8.mp e;have(z,L,e):=t8.mp e;have(p,N,e):=t8.mp e;have(n,T,e):=Option.map_eq_some_iff.mp e;show(Hf0,H0,Hf,M,x,st,I,λv b3 H1 j r1=>?_);have(l,vs,Y,rd,z0,r):=HD N r1;subst Y;show(l,rfl,.inl (_,rd.up j.s),Hf0,H0,b3,M,y,st.step j,J,λu bm H2 E r2=>(Hf0,H0,bm,M,z,(st.step j).step E,L,λw q G x3 r3=>?_));have U:=rP T r2;subst U;have i:=E.trans x3;show(cQ (p.1.zip vs) n,.inl (_,n,(rd.up j.s).up i.h,rfl,rfl),k _ q G (j.trans i) ?_);have(h1,h2):=vq (k:=n) z0 (r.up i.f);subst e
  cases hv:gU p.1 p.2 n with
  |none=>rw[h2 hv];show r3
  |some d=>
   have(w',hw,B):=h1 d hv;rw[hw];show B
structure Foc(G:Gc)(Hf H:Hp)(o:O)(v:V)(fp:LAd)(o1:O)(v1:V)(f1:LAd)(R:O->O):Prop where
 r:OT G Hf H o1 v1 f1
 n:f1.Nodup
 sub:∀a∈f1,a∈fp
 back:∀(Hf' H':Hp) (o2:O) (f2:LAd),ar Hf Hf'->(∀b u,H b=aa u->b∉f1->H' b=aa u)->OT G Hf' H' o2 v1 f2 ->
  ∃fp',OT G Hf' H' (R o2) v fp'/\(∀a∈fp',a∈f2\/(a∈fp/\a∉f1))/\(f2.Nodup->(∀a∈f2,a∈fp->a∈f1)->fp'.Nodup)
def Foc.refl{o:O}(h:OT G Hf H o v fp)(n:fp.Nodup):Foc G Hf H o v fp o v fp id:=
 (h,n,λ_ h=>h,λ_ _ _ f2 _ _ q=>(f2,q,λ_ h=>.inl h,λn _=>n))
variable{v1:V}{f1 f2:LAd}{R R':O->O}
def Foc.trans{o o1 o2:O}{g:V}(F:Foc G Hf H o v fp o1 v1 f1 R)(F':Foc G Hf H o1 v1 f1 o2 g f2 R'):Foc G Hf H o v fp o2 g f2 (λx=>R (R' x)):=by
 show(F'.r,F'.n,λa h=>F.sub a (F'.sub a h),λHf' H' m i s k h=>?_);have(d,p,m1,j):=F'.back Hf' H' m i s k h;have(fp',q,m2,l):=F.back Hf' H' _ d s (λb u e c=>k b u e λz=>c (F'.sub b z)) p;show(fp',q,λa ha=>?_,λnf f=>l (j nf λa ha c=>f a ha (F.sub a c)) λa ha c=>?_)
 .rcases m2 a ha with z |⟨z,z'⟩
  .rcases m1 a z with y |⟨y,y'⟩
   .show .inl y
   .show .inr (F.sub a y,y')
  .show .inr (z,λy=>z' (F'.sub a y))
 .rcases m1 a ha with y |⟨y,_⟩
  .show F'.sub a (f a y c)
  .show y
variable{b:Addr}
def HI{o:O}{f:LAd}(h:OT G Hf H o v f)(e:H b=aa u)(t:iK u=ac):b∉f:=λz=>by
 have(d,c,a):=OT.memM o v f h b z
 grind
def OTs.foc:∀{os:List O} {vs:LVv} {fp:LAd} {k:Nat} {o1:O},OTs G Hf H os vs fp->fp.Nodup->os[k]?=aa o1->∃v1 f1,vs[k]?=aa v1/\OT G Hf H o1 v1 f1/\f1.Nodup/\(∀a∈f1,a∈fp) /\
  ∀(Hf' H':Hp) (o2:O) (d:V) (f2:LAd),ar Hf Hf'->(∀b u,H b=aa u->(iK u=ac\/b∈fp)->b∉f1->H' b=aa u)->OT G Hf' H' o2 d f2 ->
  ∃fp',OTs G Hf' H' (os.set k o2) (vs.set k d) fp'/\(∀a∈fp',a∈f2\/(a∈fp/\a∉f1))/\(f2.Nodup->(∀a∈f2,a∈fp->a∈f1)->fp'.Nodup)
 | [],_,_,_,_,_,_,e=>by simp at e
 |o::os,_,_,0,o1,q5_,n,e'=>by
  have(v,r,f1,g,e,i,h2,m):=q5_;cases e';subst e m;have(p,w,dj):=fE.mp n;show(v,f1,rfl,i,p,λa ha=>b8 _ ha,λHf' H' o2 d f2 s k h=>(f2++g,?_,λa ha=>?_,λnf j=>(fE.mpr (nf,w,λa ha b c z=>by subst z;show dj a (j a ha (cF _ c)) a c rfl))))
  .simp only[tW,tW];show(d,r,f2,g,rfl,h,OTs.frameM s os r g h2 λb u c hm=>k b u c (hm.imp_right λy=>cF _ y) λz=>?_,rfl)
   rcases hm with t |t
   .show HI i c t z
   .show dj b z b t rfl
  .rcases bx.mp ha with z |z
   .show .inl z
   .show .inr (cF _ z,λy=>dj a y a z rfl)
 |o::os,_,_,k+1,o1,q5_,n,e'=>by
  have(v,r,f,g,e,i,h2,m):=q5_;subst e m;have(p,w,dj):=fE.mp n;have(v1,f1,B,q,E,l,bk):=OTs.foc h2 w e';show(v1,f1,by simp only[g9];show B,q,E,λa ha=>cF _ (l a ha),λHf' H' o2 d f2 s k h=>?_);have(x,I,A,C):=bk Hf' H' o2 d f2 s (λb u c hm=>k b u c (hm.imp_right λy=>cF _ y)) h;show(f++x,?_,λa ha=>?_,λnf j=>?_)
  .simp only[qK,qK];show(v,_,f,x,rfl,i.frame s λb u c hm=>k b u c (hm.imp_right λy=>b8 _ y) λz=>?_,I,rfl)
   rcases hm with t |t
   .show HI q c t z
   .show dj b t b (l b z) rfl
  .rcases bx.mp ha with z |z
   .show .inr (b8 _ z,λy=>dj a z a (l a y) rfl)
   .rcases A a z with y |⟨y,y'⟩
    .show .inl y
    .show .inr (cF _ y,y')
  .show fE.mpr (p,C nf λa ha c=>j a ha (cF _ c),λa ha b c z=>?_);subst z
   rcases A a c with y |⟨y,_⟩
   .show dj a ha a (l a (j a y (b8 _ ha))) rfl
   .show dj a ha a y rfl
def nI{b:Type}:∀{l:List b} {k:Nat} {x:b},l[k]?=aa x->l.set k x=l
 | [],_,_,e=>by simp at e
 | _::_,0,_,e=>by simp at e;subst e;rfl
 |a::l,k+1,x,e=>by rw[g9]at e;rw[qK,nI e]
variable{os:List O}{o1:O}
def Foc.root{o:O}{a:Addr}{fs:LAd}{k:Nat}{W:List O->O}(ha:H a=aa u)(E:iK u=af)(B:OTs G Hf H os vs fs)(n:(a::fs).Nodup)(e:os[k]?=aa o1)
 (mk:∀Hf' H' f c,H' a=aa u->OTs G Hf' H' f vs c->Z f=Z os->OT G Hf' H' (W f) (.ref a) (a::c)):∃v1 f1,vs[k]?=aa v1/\Foc G Hf H o (.ref a) (a::fs) o1 v1 f1 (λx=>W (os.set k x)):=by
 have(g,nf):=b9.mp n;have(v1,f1,l,q,C,i,bk):=B.foc nf e;show(v1,f1,l,q,C,λb d=>bj _ (i b d),λHf' H' o2 f2 s p h=>?_);have(c,v,r,A):=bk Hf' H' o2 v1 f2 s (λb u d _=>p b u d) h;rw[nI l]at v;show(a::c,mk Hf' H' _ c (p a u ha λz=>g (i a z)) v (by simp),λb d=>?_,λj m=>b9.mpr (λz=>?_,A j λb d w=>m b d (bj _ w)))
 .rcases a9.mp d with z |z
  .subst z;show .inr (aA,λy=>g (i b y))
  .rcases r b z with y |⟨y,y'⟩
   .show .inl y
   .show .inr (bj _ y,y')
 .rcases r a z with y |⟨y,_⟩
  .show g (i a (m a y aA))
  .show g y
def Foc.at{o:O}(h:OT G Hf H (.at l o) v fp)(n:fp.Nodup):Foc G Hf H (.at l o) v fp o v fp (.at l):=
 (h.2,n,λ_ h=>h,λ_ _ _ f2 _ _ q=>(f2,(h.1,q),λ_ h=>.inl h,λn _=>n))
def au.foc{o o1 o2:O}(m:au G Hf0 H0 Hf H C M)(es:M[i]?=aa (.deep o))(q:C[i]?=aa (aa v))(r:OT G Hf' H1 o v fp)(x:Ext Hf H Hf' H1)(F:Foc G Hf' H1 o v fp o1 v1 f1 R)
 (kk:∀b u,H1 b=aa u->b∉f1->H2 b=aa u)(new:OT G Hf' H2 o2 v1 f2)(J:f2.Nodup)(h2:∀a∈f2,a∈f1\/(H a=ab/\Hf' a=ab)):au G Hf0 H0 Hf' H2 C (M.set i (.deep (R o2))):=by
 have(L,g,E,d,n,z):=(m.at' i _ _ q es);cases E;have:=OT.funM o v fp g r (d.up x.f x.h);subst this;have(fp',B,mem,nd):=F.back Hf' H2 o2 f2 (ar.refl _) kk new
 have c:∀a∈fp',a∈fp\/_:=λa ha=>by
  rcases mem a ha with y |⟨y,_⟩
  .rcases h2 a y with w |w
   .show .inl (F.sub a w)
   .show .inr w
  .show .inl y
 show m.chgX x es q (λb u j=>?_) (v,fp',rfl,B,nd J λa ha j=>?_,λa ha=>?_) λa p=>?_
 .by_cases h:b∈f1
  .show .inl (fp,d,F.sub b h)
  .show .inr (kk b u j h)
 .rcases h2 a ha with y |y
  .show y
  .have(u,e,_):=OT.memM o v fp d a j;rw[y.1]at e
   nomatch e
 .rcases c a ha with y |y
  .have(u,e,I):=OT.memM o v fp d a y;show((z a y).1,?_);rw[x.n a u e I];show(z a y).2
  .show(m.ext.h.free y.1,y.2)
 .have(A,l,ha):=p;have:=OT.funM _ _ _ _ B l;subst this
  rcases c a ha with y |y
  .show .inl (fp,d,y)
  .show .inr y.1
def au.was{o:O}(g:au G Hf0 H0 Hf H C M)(es:M[i]?=aa (.deep o))(d:C[i]?=aa (aa v))(x:Ext Hf H Hf' H1)(r:OT G Hf' H1 o v fp):∀a∈fp,H a≠ab:=λa ha=>by
 have(l,b,e,c,n,z):=g.at' i _ _ d es;cases e;have:=OT.funM o v fp b r (c.up x.f x.h);subst this;have(u,j,_):=OT.memM o v fp c a ha
 grind
abbrev zQ:D->Option Key
 |.int i=>aa (.inl i)
 |.bl b=>aa (.inl (cond b 1 0))
 |.str x=>aa (.inr x)
 | _=>ab
abbrev sd:LD->Option (List Key)
 | []=>aa []
 |d::ds=>(zQ d).bind λk=>(sd ds).map (k::·)
abbrev kX:D->Option (List Key)
 |.tup ds=>sd ds
 | _=>ab
def Ru{k:Key}(h:zQ d=aa k)(r:Rep G H d v):kR k v:=by
 cases d with
 |int i=>cases h;show .inl r
 |bl b=>cases h;show .inr (b,r,rfl)
 |str x=>cases h;show r
 | _=>nomatch h
def HJ{G:Gc}{H:Hp}:∀{ds:LD} {ks:List Key} {vs:LVv},sd ds=aa ks->ao G H ds vs->KRs ks vs
 | [],_,_,h,r=>by cases h;cases (r);show .nil
 |d::ds,ks,_,h,q4_=>by
  have(v,r,e,c,h2):=q4_;subst e;dsimp only[sd]at h
  cases a:zQ d with
  |none=>rw[a]at h;cases h
  |some k=>
   simp only[a,az]at h
   cases b:sd ds with
   |none=>rw[b]at h;cases h
   |some f=>rw[b]at h;cases h;show .cons (Ru a c) (HJ b h2)
def sh{k:List Key}(h:kX d=aa k)(r:Rep G H d v):∃b,v=.ref b/\fI H b k:=by
 cases d with
 |tup ds=>have(a,vs,e,q,B):=r;show(a,e,vs,q,HJ h B)
 | _=>nomatch h
abbrev aV{a:Type}[DecidableEq a](f:a):List a->Option Nat
 | []=>ab
 |n::ns=>if n=f then aa 0 else (aV f ns).map (· + 1)
def zR{a:Type}[DecidableEq a]{f:a}:∀{ns:List a} {k:Nat},aV f ns=aa k->k<Z ns
 | [],_,e=>by cases e
 |n::ns,k,e=>by
  dsimp only[aV]at e;split at e
  .cases e;show qR _
  .cases h:aV f ns with
   |none=>rw[h]at e;cases e
   |some j=>rw[h]at e;cases e;show Nat.succ_lt_succ (zR h)
def zS{a:Type}[DecidableEq a]{b:Type}{f:a}:∀{ns:List a} {k:Nat} (vs:List b),aV f ns=aa k->(ns.zip vs).lookup f=vs[k]?
 | [],_,_,e=>by cases e
 | _::_,_,[],_=>by rfl
 |n::ns,k,v::vs,e=>by
  dsimp only[aV]at e;simp only[fD,mq];split at e
  .rename_i h;subst h;cases e;rw[beq_self_eq_true];rfl
  .rename_i h;simp only[beq_eq_false_iff_ne.mpr (eV h)]
   cases h':aV f ns with
   |none=>rw[h']at e;cases e
   |some j=>
    rw[h']at e;cases e;show zS vs h'
def p8{a:Type}[DecidableEq a]{f:a}:∀{ns:List a} {k:Nat} (vs:LVv),aV f ns=aa k->cQ (ns.zip vs) f=vs[k]?
 | [],_,_,e=>by cases e
 | _::_,_,[],_=>by rfl
 |n::ns,k,v::vs,e=>by
  dsimp only[aV]at e;simp only[fD];split at e
  .rename_i h;cases e;rw[rj h];rfl
  .rename_i h;rw[oU h]
   cases h':aV f ns with
   |none=>rw[h']at e;cases e
   |some j=>
    rw[h']at e;cases e;show p8 vs h'
def si{a:Type}[DecidableEq a]{f:a}:∀{ns:List a} (vs:LVv),aV f ns=ab->cQ (ns.zip vs) f=ab
 | [],_,_=>rfl
 | _::_,[],_=>by rfl
 |n::ns,v::vs,e=>by
  dsimp only[aV]at e;simp only[fD];split at e
  .cases e
  .rename_i h;rw[oU h]
   cases h':aV f ns with
   |none=>show si vs h'
   |some j=>rw[h']at e;cases e
def Foc.up{o o1:O}(F:Foc G Hf H o v fp o1 v1 f1 R)(f:ar Hf Hf')(s:ar H H'):Foc G Hf' H' o v fp o1 v1 f1 R:=
 (F.r.up f s,F.n,F.sub,λbm H2 o2 f2 s2 k h=>F.back bm H2 o2 f2 (f.trans s2) (λb u e a=>k b u (s b u e) a) h)
nonrec def Xp:=LS->Option (O×(O->O))
inductive tDP(G:Gc)(i:Nat)(f:Xp)(C:St)(H:Hp)(Q:VK):Prop
 |mk:∀Hf0 H0 Hf M o1 R,au G Hf0 H0 Hf H C M->f M=aa (o1,R,)->(∀o v fp v1 f1 Hf' H',M[i]?=aa (.deep o)->C[i]?=aa (aa v)->Ext Hf H Hf' H'->OT G Hf' H' o v fp->Foc G Hf' H' o v fp o1 v1 f1 R->Q v1 H')->tDP G i f C H Q
def DP(c:Str->Addr)(X:Cx)(e:Expr)(i:Nat)(f:Xp):Prop:=PE X e (tDP (Gx c X) i f)
def aJ(i:Nat):Xp:=λM=>match M[i]? with
 |some (.deep (.at l o))=>aa (o,.at l,)
 |some (.deep o)=>aa (o,id,)
 | _=>ab
abbrev O.fld(cn f:Str):O->Option (O×(O->O))
 |.ins c ns os=>if c=cn then (aV f ns).bind λk=>(os[k]?).map λo1=>(o1,λx=>.ins c ns (os.set k x),) else ab
 | _=>ab
def aW(cn f:Str)(p:Xp):Xp:=λM=>(p M).bind λq=>(q.1.fld cn f).map λr=>(r.1,λx=>q.2 (r.2 x),)
abbrev O.key(k:List Key):O->Option (O×(O->O))
 |.dT ks os=>(aV k ks).bind λj=>(os[j]?).map λo1=>(o1,λx=>.dT ks (os.set j x),)
 | _=>ab
def kZ(p:Xp)(g:MF1):Xp:=λM=>(p M).bind λq=>(g M).bind λd=>(kX d).bind λk=>(q.1.key k).map λr=>(r.1,λx=>q.2 (r.2 x),)
abbrev fzs:List O->OLD
 | []=>aa []
 |.fz d::os=>(fzs os).map (d::·)
 | _=>ab
def zT:∀(ds:LD),fzs (ds.map .fz)=aa ds
 | []=>rfl
 |d::ds=>by rw[bG,fzs,zT ds];rfl
def HK:∀{os:List O} {ds:LD},fzs os=aa ds->os=ds.map .fz
 | [],_,h=>by cases h;rfl
 |o::os,ds,h=>by
  cases o with
  |fz d=>
   simp only[fzs]at h
   cases e:fzs os with
   |none=>rw[e]at h;cases h
   |some a=>rw[e]at h;cases h;rw[bG,<- HK e]
  | _=>cases h
def OTs.unfz{G:Gc}{Hf H:Hp}:∀{ds:LD} {vs:LVv} {fs:LAd},OTs G Hf H (ds.map .fz) vs fs->ao G Hf ds vs/\fs=[]
 | [],_,_,h=>(h.1,h.2)
 |d::ds,_,_,q3_=>by
  have(v,r,f1,f2,e,c,h2,f):=q3_;have(a,b):=OTs.unfz h2;show((v,r,e,c.1,a),?_);rw[f,c.2,b];rfl
def pD(p:Xp)(M:LS):OD:=(p M).bind λq=>match q.1 with
 |.fz d=>aa d
 | _=>ab
def pB(p:Xp)(M:LS):OD:=(p M).bind λq=>if q.1.kn then aa q.1.toD else ab
abbrev O.items:O->OLD
 |.lst os=>fzs os
 | _=>ab
def pC(p:Xp)(M:LS):OLD:=(p M).bind λq=>q.1.items
inductive tDL(G:Gc)(f:MF2)(C:St)(H:Hp)(Q:VK):Prop
 |mk:∀Hf0 H0 Hf M ds,au G Hf0 H0 Hf H C M->f M=aa ds->(∀a vs Hf' H',Ext Hf H Hf' H'->H' a=aa (.lst vs)->ao G Hf' ds vs->Q (.ref a) H')->tDL G f C H Q
def DL(c:Str->Addr)(X:Cx)(e:Expr)(f:MF2):Prop:=PE X e (tDL (Gx c X) f)
def be{c d:Type}{a:Option c}{f:c->Option d}{b:d}(h:a.bind f=aa b):∃x,a=aa x/\f x=aa b:=by
 cases a with
 |none=>nomatch h
 |some x=>show(x,rfl,h)
def dS{c d:Type}{a:Option c}{f:c->d}{b:d}(h:a.map f=aa b):∃x,a=aa x/\f x=b:=by simp_all
def eq(h:PE X e (cT i)):DP c X e i (aJ i):=PE.imp h λC H Q j=>by
 have(Hf0,H0,Hf,M,o1,R,d,a,g):=j
 have main:∀o,M[i]?=aa (.deep o)->(∀v fp,OT _ Hf H o v fp->fp.Nodup->Foc _ Hf H o v fp o1 v fp R)->cT i C H Q:=λo es F=>by
  have(v,b,u,fp,f,r,n,z):=d.slot es;subst f;show(u,b,g o u fp u fp Hf H es b (Ext.refl d.sub) r (F u fp r n))
 unfold aJ at a;split at a
 .rename_i l o es;cases a;show main _ es λv fp r n=>Foc.at r n
 .rename_i o _ es;cases a;show main _ es λv fp r n=>Foc.refl r n
 .grind
variable{o2:O}
def Rv{cn f:Str}(h:o1.fld cn f=aa (o2,R,)):∃ns os k,o1=.ins cn ns os/\aV f ns=aa k/\os[k]?=aa o2/\R=λx=>.ins cn ns (os.set k x):=by
 cases o1 with
 |ins c ns os=>
  replace h:(if c=cn then (aV f ns).bind λk=>(os[k]?).map λo1=>_ else ab)=aa _:=h;split at h
  .rename_i d;subst d;have(k,a,h):=be h;have(o,b,h):=dS h;cases h;show(ns,os,k,rfl,a,b,rfl)
  .nomatch h
 | _=>nomatch h
def Foc.fld{o o1 o2:O}{cn f:Str}(F:Foc G Hf H o v fp o1 v1 f1 R)(h:o1.fld cn f=aa (o2,R',)):∃(a dx:Addr) (ns:LSt) (vs:LVv) (b:V) (f2:LAd),v1=.ref a/\H a=aa (.ins (G.cl cn) dx (ns.zip vs))/\(ns.zip vs).lookup f=aa b/\Foc G Hf H o v fp o2 b f2 (λx=>R (R' x)):=by
 have(ns,os,k,rfl,g,i,rfl):=Rv h;have(a,dx,vs,fs,rfl,ha,hz,B,rfl):=F.r;have(b,f2,j,e):=Foc.root (W:=.ins cn ns) ha rfl B F.n i λHf' H' l c d r _=>(a,dx,vs,c,rfl,d,hz,r,rfl);show(a,dx,ns,vs,b,f2,rfl,ha,(zS vs g).trans j,F.trans e)
variable{p:Xp}
def eQ{o:Expr}(cn:Str)(m:Cls X.K (c cn))(hn:cP X.K (c cn) fl)(n:DP c X o i p)(l:autoParam (oJ o fl X.env (eval o X.env)=eval o X.env) Zb):DP c X (.Attribute o fl pos) i (aW cn fl p):=PE.imp (Fe n l) λC H Q w=>by
 have(Hf0,H0,Hf,M,o2,R,y,b,u):=w;have(q,f,b):=be b;have(r,g,b):=dS b;cases b;show(Hf0,H0,Hf,M,q.1,q.2,y,f,λt v fp v1 f1 Hf' H' es j x rt F=>?_);have(a,dx,ns,vs,d,f2,h,ha,el,e):=F.fld g;show(a,_,dx,_,d,h,ha,m,hn,el,u t v fp d f2 Hf' H' es j x rt e)
def fI.same{k:List Key}(h:fI H b k)(s:ar H H'):fI H' b k:=h.up λb E e=>s _ _ e
def Rw{k:List Key}(h:o1.key k=aa (o2,R,)):∃ks os j,o1=.dT ks os/\aV k ks=aa j/\os[j]?=aa o2/\R=λx=>.dT ks (os.set j x):=by
 cases o1 with
 |dT ks os=>
  have(j,a,h):=be h;have(o,b,h):=dS h;cases h
  show(ks,os,j,rfl,a,b,rfl)
 | _=>nomatch h
def Foc.key{o o1 o2:O}{k:List Key}(F:Foc G Hf H o v fp o1 v1 f1 R)(h:o1.key k=aa (o2,R',)):∃a kvs b f2,v1=.ref a/\H a=aa (.dT kvs)/\cQ kvs k=aa b/\Foc G Hf H o v fp o2 b f2 (λx=>R (R' x)):=by
 have(ks,os,j,rfl,f,g,rfl):=Rw h;have(a,vs,fs,rfl,ha,hz,B,rfl):=F.r;have(b,f2,i,e):=Foc.root (W:=.dT ks) ha rfl B F.n g λHf' H' l c d r _=>(a,vs,c,rfl,d,hz,r,rfl);show(a,ks.zip vs,b,f2,rfl,ha,(p8 vs f).trans i,F.trans e)
def HL{o:Expr}(U:X.A.units+1<cLine)(N:DP c X o i p)(L:DE c X e g)(T:autoParam (rm e) Zj):DP c X (.Subscript o e pos) i (kZ p g):=PE.imp (yw U N L T) λC H Q q_=>by
 have(Hf0,H0,Hf,M,o2,R,m,j,Y):=q_;have(q,w,j):=be j;have(d,z,j):=be j;have(k,B,j):=be j;have(r,E,j):=dS j;cases j;show(Hf0,H0,Hf,M,q.1,q.2,m,w,λt v fp v1 f1 b3 H1 es J x rt F=>(Hf0,H0,b3,M,d,m.step x,z,λy bm H2 l r2=>?_));have(b,I,tk):=sh B r2;have(a,kvs,n,f2,G,ha,el,u):=(F.up l.f l.h).key E;subst I;show(a,n,G,?_,Y t v fp n f2 bm H2 es J (x.trans l) (rt.up l.f l.h) u);rw[<- el];show fY.t ha (tk.same l.s)
def HM(h:DP c X e i p):DE c X e (pD p):=PE.imp h λC H Q j=>by
 have(Hf0,H0,Hf,M,d,l,a,g):=j;have(q,f,a):=be a;show(Hf0,H0,Hf,M,q.1,q.2,l,f,λt v fp v1 f1 b3 H1 es m x rt F=>?_)
 cases b:q.1 with
 |fz d'=>rw[b]at a;cases a;have r:=F.r;rw[b]at r;show g _ _ _ x r.1
 | _=>simp only[b]at a;nomatch a
def zU(h:DP c X e i p):DB c X e (pB p):=PE.imp h λC H Q j=>by
 have(Hf0,H0,Hf,M,d,l,a,g):=j;have(q,b,a):=be a;split at a
 .rename_i f;cases a;show(Hf0,H0,Hf,M,q.1,q.2,l,b,λt v fp v1 f1 b3 H1 es m x rt F=>g _ _ _ x (F.r.rep x.s f))
 .grind
def sj(h:o1.items=aa ds):o1=.lst (ds.map .fz):=by
 cases o1 with
 |lst os=>rw[HK h]
 | _=>nomatch h
def zV(h:DP c X e i p):DL c X e (pC p):=PE.imp h λC H Q g=>by
 have(Hf0,H0,Hf,M,ds,j,b,f):=g;have(q,d,b):=be b;show(Hf0,H0,Hf,M,q.1,q.2,j,d,λt v fp v1 f1 b3 H1 es l x rt F=>?_);have r:=F.r;rw[sj b]at r;have(a,vs,fs,rfl,ha,B,_):=r;show f a vs b3 H1 x ha B.unfz.1
def DL.dc{f:MF2}(h:DL c X e f):DC c X e f:=PE.imp h λC H Q d=>by
 have(Hf0,H0,Hf,M,ds,st,a,k):=d;show(Hf0,H0,Hf,M,ds,st,a,λl vs Hf' H' x b r=>k l vs Hf' H' x (.inl (SqL.of b)) r)
def DL.db{f:MF2}(h:DL c X e f):DB c X e (aI f):=PE.imp h λC H Q i=>by
 have(Hf0,H0,Hf,M,d,st,a,k):=i;have(ds,b,a):=dS a;subst a;show(Hf0,H0,Hf,M,ds,st,b,λl vs Hf' H' x g r=>k _ Hf' H' x (l,vs,rfl,g,r.up x.s))
abbrev O.got(k:List Key):O->OLD
 |.dT ks os=>match aV k ks with
  |some j=>(os[j]?).bind O.items
  |none=>aa []
 | _=>ab
def iy(p:Xp)(g:MF1)(M:LS):OLD:=(p M).bind λq=>(g M).bind λd=>(kX d).bind λk=>q.1.got k
section
variable{o:Expr}
def zW{w:Pos}(hu:X.A.units+1<cLine)(ho:DP c X o i p)(hk:DE c X e g)(m:M2 X o "get" apos e (.List [] w) pos):DL c X (.Call (.Attribute o "get" apos) [e,.List [] w] [] pos) (iy p g):=PE.imp (yx hu ho hk (uC dY) m) λC H Q q_=>by
 have(Hf0,H0,Hf,M,ds,so,u,Y):=q_;have(q,e1,u):=be u;have(d,e2,u):=be u;have(k,e3,u):=be u;show(Hf0,H0,Hf,M,q.1,q.2,so,e1,λt v fp v1 f1 b3 H1 es ev x rt F=>?_)
 cases U:q.1 with
 |dT ks os=>
  rw[U]at u F;have(a,vs,fs,rfl,ha,hz,B,rfl):=F.r;show(a,rfl,.inr (_,.inl ha),Hf0,H0,b3,M,d,so.step x,e2,λy bm H2 z I=>(cy _,λl hl=>?_));have(b,eb,tk):=sh e3 I;subst eb;have E:Ext bm H2 bm (upd H2 l (.lst [])):=Ext.tmp z.s hl;show(cQ _ k,fY.t (E.h _ _ (z.h _ _ ha)) (tk.same (z.s.trans E.h)),?_)
  replace u:(match aV k ks with |some j=>(os[j]?).bind O.items |none=>aa [])=aa ds:=u
  cases G:aV k ks with
  |none=>
   rw[G]at u;cases u;rw[si vs G]
   show Y l [] bm _ ((x.trans z).trans E) ba .nil
  |some j=>
   rw[G]at u;have(o2,eo,u):=be u;have(v2,f2,J,F2):=Foc.root (o:=.dT ks os) (W:=.dT ks) ha rfl B F.n eo λHf' H' os' L N r _=>(a,vs,L,rfl,N,hz,r,rfl);have I:=(F2.up (z.f.trans E.f) (z.h.trans E.h)).r;rw[sj u]at I;have(b2,ws,fs2,rfl,hb,T,_):=I;rw[p8 vs G,J]
   show Y b2 ws bm _ ((x.trans z).trans E) hb T.unfz.1
 | _=>rw[U]at u;nomatch u
end
def OTs.stay{fs:LAd}{c:HO}(r:OTs G Hf H os us fs)(d:H l=aa c)(e:iK c=af)(hn:l∉fs)(f:ar Hf Hf')(s:∀b u,b≠l->H b=aa u->H' b=aa u):OTs G Hf' H' os us fs:=
 OTs.frameM f os us fs r λb u a hm=>s b u (λz=>by
  subst z;rw[d]at a;cases a
  rcases hm with t |t
  .grind
  .show hn t) a
def k4(i:Nat)(p:Xp)(f:MF1)(M:LS):Option Fl:=(p M).bind λq=>(f M).bind λd=>(q.1.appd d).map λo2=>.nx (M.set i (.deep (q.2 o2)))
abbrev O.extd(ds:LD):O->Option O
 |.lst os=>if Z os+Z ds<=16777216 then aa (.lst (os++ds.map .fz)) else ab
 | _=>ab
def p9(i:Nat)(p:Xp)(f:MF2)(M:LS):Option Fl:=(p M).bind λq=>(f M).bind λds=>(q.1.extd ds).map λo2=>.nx (M.set i (.deep (q.2 o2)))
abbrev O.pop0:O->Option (D×O)
 |.lst (.fz d::os)=>aa (d,.lst os,)
 | _=>ab
def sm(i:Nat)(p:Xp):Xe:=λM=>(p M).bind λq=>q.1.pop0.map λr=>(r.1,M.set i (.deep (q.2 r.2)),)
def O.setAt(k:D)(d:D)(o:O):Option O:=match k with
 |.int n=>o.items.bind λds=>(ixN ds.length n).map λj=>.lst ((ds.set j d).map .fz)
 | _=>ab
def nJ(i:Nat)(p:Xp)(fk fv:MF1)(M:LS):Option Fl:=(fv M).bind λd=>(p M).bind λq=>(fk M).bind λx=>(q.1.setAt x d).map λo2=>.nx (M.set i (.deep (q.2 o2)))
def O.putNew(o x:O)(k:List Key):Option O:=match o with
 |.dT ks os=>if aV k ks=ab/\Z ks<16777216 then aa (.dT (ks++[k]) (os++[x])) else ab
 | _=>ab
def qb(i:Nat)(p:Xp)(fk fv:MF1)(M:LS):Option Fl:=(fv M).bind λd=>(p M).bind λq=>(fk M).bind λx=>(kX x).bind λk=>(q.1.putNew (.fz d) k).map λo2=>.nx (M.set i (.deep (q.2 o2)))
def Rx{f:MF1}(h:PS X st (mR (tBM X.K "list" uF (tDP (Gx c X) i p) (jo (tD (Gx c X) f) ik)))):DS c X st (k4 i p f):=PS.imp h λW7 C H N=>by
 have(Hf0,H0,Hf,M,o,y,j,J):=N;have(q,B,j):=be j;have(d,E,j):=be j;have(o2,G,j):=dS j;subst j;show(Hf0,H0,Hf,M,q.1,q.2,y,B,λt v fp v1 f1 b3 H1 es I x rt F=>?_);have(l,us,el,A,hz,L,next):=Hy G F.r;subst el;show(.inl (rfl,_,SqL.of A),Hf0,H0,b3,M,d,y.step x,E,λw bm H2 g Q=>?_);show(l,us,w,rfl,rfl,g.h _ _ A,by rw[dG];show hz,J C bm _ (x.trans g).f ?_)
 show y.foc es I (rt.up g.f g.h) (x.trans g) (F.up g.f g.h) (λb u m hn=>by rw[aN (λz=>hn (by rw[z];show L))];show m)
  (next bm _ w F.n g.f (λb u m e=>by rw[aN m];show g.h b u e) ba Q) F.n λa ha=>.inl ha
def Ry{f:MF2}(h:PS X st (mR (tBM X.K "list" yq (tDP (Gx c X) i p) (jo (tDL (Gx c X) f) ik)))):DS c X st (p9 i p f):=PS.imp h λW7 C H T=>by
 have(Hf0,H0,Hf,M,o,y,j,Q):=T;have(q,J,j):=be j;have(ds,L,j):=be j;have(o2,g,j):=dS j;subst j;show(Hf0,H0,Hf,M,q.1,q.2,y,J,λt v fp v1 f1 b3 H1 es N x rt F=>?_)
 cases E:q.1 with
 |lst os=>
  rw[E]at g F;replace g:(if Z os+Z ds<=16777216 then aa _ else ab)=aa o2:=g;split at g
  .rename_i hz;cases g;have(l,us,fs,rfl,w,B,rfl):=F.r;show(.inl (rfl,_,SqL.of w),Hf0,H0,b3,M,ds,y.step x,L,λb A bm H2 d m I=>?_);show(l,b,us,A,rfl,rfl,(d.h _ _ w),m,by rw[dG,<- B.length,<- I.length];show hz,Q C bm _ (x.trans d).f ?_);have o1:OTs _ bm (upd H2 l (.lst (us++A))) os us fs:=B.stay w rfl ((b9.mp F.n).1) d.f λb u m e=>by rw[aN m];show d.h b u e
   have G:=o1.append (OTs.fz I);rw[bN]at G
   show y.foc es N (rt.up d.f d.h) (x.trans d) (F.up d.f d.h) (λb u m hn=>by rw[aN (λz=>hn (by rw[z];show aA))];show m)
    (l,us++A,fs,rfl,ba,G,rfl) F.n λa ha=>.inl ha
  .nomatch g
 | _=>rw[E]at g;nomatch g
def Rz(h:PE X e (tBM X.K "list" Fw (tDP (Gx c X) i p) (jo (tC (.int 0)) ik))):DX c X e (sm i p):=PE.imp h λC H Q q_=>by
 have(Hf0,H0,Hf,M,d,ρ',L,m,Y):=q_;have(q,N,m):=be m;have(r,j,m):=dS m;cases m;show(Hf0,H0,Hf,M,q.1,q.2,L,N,λt v fp v1 f1 b3 H1 es T x rt F=>?_)
 cases J:q.1 with
 |lst os=>
  rw[J]at j F
  cases os with
  |nil=>nomatch j
  |cons o1 os=>
   cases o1 with
   |fz d=>
    cases j;have(l,us,fs,rfl,A,B,rfl):=F.r;have(w,g,g1,I,rfl,G,E,rfl):=B;have(rd,rfl):=G;show(.inl (rfl,_,SqL.of A),l,w::g,0,0,w,rfl,rfl,A,by decide,by decide,?_,rfl,?_)
    .have U:(decide ((0:Int)<=0) && decide (0<(Z (w::g):Int)))=ac:=by simp
     unfold seqIndex?;rw[if_neg (show ¬(0:Int)<0 by decide),if_pos U];rfl
    .have nl:=(b9.mp F.n).1;show Y w b3 _ x.f ?_ rd;have o1:OTs _ b3 (upd H1 l (.lst g)) os g I:=E.stay A rfl nl (ar.refl _) λb u y e=>by rw[aN y];show e
     show L.foc es T rt x F (λb u y hn=>by rw[aN (λz=>hn (by rw[z];show aA))];show y)
      (l,g,I,rfl,ba,o1,rfl) F.n λa ha=>.inl ha
   | _=>nomatch j
 | _=>rw[J]at j;nomatch j
def HN(hp:PS X st (jn (tD (Gx c X) fv) (xS (tDP (Gx c X) i p) (tD (Gx c X) fk) yj))):DS c X st (nJ i p fk fv):=PS.imp hp λW7 C H q_=>by
 have(Hf0,H0,Hf,M,o,E,e,kq):=q_;have(d,L,e):=be e;have(q,N,e):=be e;have(k,Q,e):=be e;have(o2,m,e):=dS e;subst e;show(Hf0,H0,Hf,M,d,E,L,λw b3 H1 G r1=>(Hf0,H0,b3,M,q.1,q.2,E.step G,N,λt v fp v1 f1 bm H2 es Y I rt F=>(Hf0,H0,bm,M,k,(E.step G).step I,Q,λy x J g r3=>?_)))
 cases k with
 |int n=>
  have(ds,T,m):=be (m);have(j,U,m):=dS m;subst m;have A:=F.up g.f g.h;rw[sj T]at A;have(l,us,fs,rfl,ql,B,e):=A.r;have(rd,rfl):=B.unfz;show(l,us,n,j,rfl,r3,ql,by rw[<- rd.length];show U,kq C x _ ((G.trans I).trans g).f ?_);have nf:OTs _ x (upd J l (.lst (us.set j w))) _ _ []:=OTs.fz (rd.set j (r1.up (I.f.trans g.f)))
  have:=(E.step G).foc es Y (rt.up g.f g.h) (I.trans g) A (λb u hb hn=>by rw[aN (λz=>hn (by rw[e,z];show aA))];show hb)
   (o2:=.lst _) (l,us.set j w,[],rfl,ba,nf,rfl) (by rw[<- e];show A.n) λa ha=>.inl (by rw[e];show ha)
  show this
 | _=>nomatch m
def RA{a:Type}[DecidableEq a]{k:a}{ks:List a}(hz:Z ks=Z vs)(h:aV k ks=ab):dO (ks.zip vs) k v=(ks++[k]).zip (vs++[v]):=by
 unfold dO;rw[uJ,si vs h,if_neg (by simp),zip_append hz];rfl
def HP{ks:List (List Key)}{x:O}{k:List Key}{g:LAd}{w:V}(r:OT G Hf H (.dT ks os) (.ref l) f1)(n:f1.Nodup)(a:aV k ks=ab)(f:ar Hf Hf')(s:∀b u,b≠l->H b=aa u->H' b=aa u):
  ∃kvs,H l=aa (.dT kvs)/\Z kvs=Z ks/\cQ kvs k=ab/\l∈f1/\(H' l=aa (.dT (dO kvs k w))->OT G Hf' H' x w g->OT G Hf' H' (.dT (ks++[k]) (os++[x])) (.ref l) (f1++g)):=by
 have(e,vs,fs,el,c,hz,B,rfl):=r;cases el;show(ks.zip vs,c,by rw[ox];lia,si vs a,aA,λd rx=>(l,vs++[w],fs++g,rfl,?_,by simp[hz],((B.stay c rfl (b9.mp n).1 f s).append (.one rx)),rfl));rw[d,RA hz a]
def RB{x:O}{k:List Key}(h:o1.putNew x k=aa o2):∃ks os,o1=.dT ks os/\aV k ks=ab/\Z ks<16777216/\o2=.dT (ks++[k]) (os++[x]):=by
 cases o1 with
 |dT ks os=>
  replace h:(if aV k ks=ab/\Z ks<16777216 then aa _ else ab)=aa o2:=h;split at h
  .rename_i a;cases h;show(ks,os,rfl,a.1,a.2,rfl)
  .nomatch h
 | _=>nomatch h
def RC(hp:PS X st (yv (tDP (Gx c X) i p) (tD (Gx c X) fk) (tD (Gx c X) fv))):DS c X st (qb i p fk fv):=PS.imp hp λW7 C H q_=>by
 have(Hf0,H0,Hf,M,o,A,g,kq):=q_;have(d,U,g):=be g;have(q,Y,g):=be g;have(y,e3,g):=be g;have(k,e5,g):=be g;have(o2,e4,g):=dS g;subst g;show(Hf0,H0,Hf,M,d,A,U,λw b3 H1 E r1=>(Hf0,H0,b3,M,q.1,q.2,A.step E,Y,λt v fp v1 f1 bm H2 es ev G rt F=>(Hf0,H0,bm,M,y,(A.step E).step G,e3,λz I T j r3=>?_)));have(ks,os,h1,hk,N,rfl):=RB e4;have m:=F.up j.f j.h;rw[h1]at m;have(b,rfl,tk):=sh e5 r3;have(l,vs,fs,rfl,Q,hz,B,g):=id m.r;have(kvs,x,L,hv,lm,nw):=HP (H':=upd T l (.dT _)) m.r m.n hk (ar.refl _) λb u J e=>by rw[aN J];show e
 rw[Q]at x;cases x;show(l,_,rfl,lF.t Q (tk.same j.s) (by rw[dG,L];show N),kq C I _ ((E.trans G).trans j).f ?_)
 show(A.step E).foc es ev (rt.up j.f j.h) (G.trans j) m (λb u J hn=>by rw[aN (λz=>hn (by rw[z];show lm))];show J)
  (nw ba (r1.up (G.f.trans j.f),rfl)) (by rw[bN];show m.n) λa ha=>.inl (by rw[bN]at ha;show ha)
section
variable{prog:ci}{w:World}{K:Type}[DecidableEq K]{kn:HeapKind prog w K}{A:ca}{W7:PRS}{s:ah}
def RD{d b:Addr}{E:List (K×Addr×Value)}{k:K}{dv:Value}{Q:PRS}(i:kn.room A)(f:kn.is s.heap k b)(hm:s.heap.DictOfH kn d E)(hz:Z E<=aU)
 (m:∀q,atKey E k=aa q->Q q.2 {s with toks:=s.toks+kn.draws k})
 (h2:atKey E k=ab->∀h',h'.DictOfH kn d (storedH E k b dv)->gm d s.heap h'->Q dv {s with heap:=h',toks:=s.toks+kn.draws k}):
  wpAny (model prog w) A (dictSetDefault d (.ref b) dv) Q W7 s:=by
 have(r,l,ep,go,n,a,el,all,nd):=hm;unfold dictSetDefault
 try with_reducible show jV ?_
 show am (kn.pyHash i f ?_);show am (wpAny_dictFind_heap i f go a el all nd (λno=>?_) λj q h=>?_)
 .have p:=not_mem_keys_of_get no;have z:=atKey_none_of_get no
  show am (lw (am (wpAny_updateDictKeys (hz:=by have e:=size_of_entries el; lia) go a (aD (h2 z _ (_,_,ep + 1,oN _ go (Obj.isFreed_of_dict (Obj.data_mapDictKeys a _)),
   n.mapDictKeys _,Obj.data_mapDictKeys a _,?_,?_,?_) (oO ..))))))
  .rw[storedH_new z];simp[el,entryOfKey]
  .rw[storedH_new z];intro y c
   rcases bx.mp c with c |c
   .show kn.keeps (all y c) go a (oO ..)
   .rw[bq.mp c];show kn.keeps f go a (oO ..)
  .rw[storedH_new z,aT,fE];show(nd,b9.mpr (dF,fR),λy c u g e=>?_);rw[bq.mp g]at e;show p ((show y=k from e)▸c)
 .show am (wpAny_dictEntries go a ?_);rw[entry_at el j,h];show am (lw (aD (m q (atKey_of_get nd h))))
def RE(kn:HeapKind prog w K)(d b:Addr)(hd:(d==hV)=af)(dv:Value):
  MeetsIn prog w (d7.«dict.setdefault» ([.ref d,.ref b,dv],[])) (λA R s=>kn.room A.in1/\∃ k E,kn.is s.heap k b/\s.heap.DictOfH kn d E/\Z E<=aU /\
   (∀q,atKey E k=aa q->R (.ok (.ret q.2)) {s with toks:=s.toks+kn.draws k}) /\
   (atKey E k=ab->∀h',h'.DictOfH kn d (storedH E k b dv)->gm d s.heap h'->R (.ok (.ret dv)) {s with heap:=h',toks:=s.toks+kn.draws k})):=
 .of_wp λA R s i=>by
  have(h,k,E,f,hm,hz,e,h2):=i;show am ?_;show am (wpAny_notOrdered_dict hm.typeIs ?_);show aD ?_;change wpAny _ _ (if _=ac then _ else _) _ _ s;rw[hd,if_neg (λz=>nomatch z)];show am (RD h f hm hz (λq g=>aD (q.2,rfl,e q g)) λhn h' a c=>aD (dv,rfl,h2 hn h' a c))
end
variable{a:Addr}{z:V}{r:Value}{kvs:List (List Key×V)}
def RF{k:List Key}{Q:PRS}(T:A.units+1<cLine)(I:Inv X U C H s)(e:H a=aa (.dT kvs))(p:fI H b k)(Y:aC z r)
 (J:∀v u h,cQ kvs k=aa v->Inv X U C H h->aC v u->Q u h)(h2:cQ kvs k=ab->Z kvs<aU/\∀h,Inv X U C (upd H a (.dT (dO kvs k z))) h->Q r h):
  wpAny (model X.prog X.w) A (call (.builtin "dict.setdefault") [.ref a,.ref b,r]) Q W7 s:=by
 have(L,hd,E,d,m):=FC I.hok e;show call_meetsIn EH m.typeIs PySem.F.entry_dict_setdefault (PySem.F.args_dict_setdefault_3 _ _ _) (RE _ a b hd r) (qU T,k,E,oW I.hok p,m,by rw[<- oP d];show L,λq l=>?_,λhn h' i N=>?_)
 .have f:=d.val k;rw[l]at f
  cases hv:cQ kvs k with
  |none=>rw[hv]at f;show f.elim
  |some v=>rw[hv]at f;show J v q.2 _ hv (I.tok _) f
 .have hv:cQ kvs k=ab:=by
   have f:=d.val k;rw[hn]at f
   cases hv:cQ kvs k with
   |none=>rfl
   |some v=>rw[hv]at f;show f.elim
  have(M,l):=h2 hv;have(q,es,ep,g,x,y,B,_,G):=i;have j:Z (dO kvs k z)<=aU:=by have:=yt kvs k z;lia
  show l _ (yu I (by rw[e];show iH) N (q,g) (j,hd,_,(d.put k p Y).keeps λc ys n=>?_,q,es,ep,g,x,y,B,G));rw[aN (EN n e (λz=>nomatch z))];show n
def HQ(d ty e:TE):TE:=λC H Q=>d C H λx H1=>∃a,x=.ref a/\IsD H1 a/\ty C H1 λy H2=>e C H2 λz c=>∃kvs k b,c a=aa (.dT kvs)/\y=.ref b/\fI c b k /\
 (∀v,cQ kvs k=aa v->Q v c)/\(cQ kvs k=ab->Z kvs<aU/\Q z (upd c a (.dT (dO kvs k z))))
variable{f:Expr}{td ty tx:TE}
def RG{o:Expr}(L:X.A.units+1<cLine)(J:PE X o td)(E:PE X e ty)(G:PE X f tx)(m:M2 X o "setdefault" apos e f cpos):PE X (.Call (.Attribute o "setdefault" apos) [e,f] [] cpos) (HQ td ty tx):=by
 intro U s C H Q I h;show wpAny_Call_method m.base m.few m.line PySem.F.plainAttrs_dict EH PySem.F.type_dict_setdefault (thn (J U s C H _ I h) λu s1 Y=>?_);have(x,H1,j,rx,a,ex,d,M):=Y;subst ex;obtain rfl:u=eY a:=rx;have(t1,t2,_):=FF j d;show(t1,t2,?_);rw[m.trees];show xB rfl (xC (je (thn (E U s1 C H1 _ j M) λiv s2 g=>?_)));have(y,H2,q,ry,N):=g;show je (thn (G U s2 C H2 _ q N) λfv s3 i=>xD ?_);have(z,p,r,n,kvs,k,b,w,B,tk,T,l):=i;subst B;cases (ry);show RF L r w tk n (λv u s4 hv c ru=>(v,p,c,ru,T v hv)) λhn=>((l hn).1,λs4 c=>(z,_,c,n,(l hn).2))
def O.apdK(o:O)(k:List Key)(d:D):Option O:=match o with
 |.dT ks os=>match aV k ks with
  |some j=>(os[j]?).bind λo1=>(o1.appd d).map λo2=>.dT ks (os.set j o2)
  |none=>if Z ks<16777216 then aa (.dT (ks++[k]) (os++[.lst [.fz d]])) else ab
 | _=>ab
def qc(i j:Nat)(p:Xp)(g:MF1)(M:LS):Option Fl:=(p M).bind λq=>(g M).bind λy=>(kX y).bind λk=>(ae j M).bind λd=>(q.1.apdK k d).map λo2=>.nx (M.set i (.deep (q.2 o2)))
def RH{jv:Nat}(h:PS X st (mR (tBM X.K "list" uF (HQ (tDP (Gx c X) i p) (tD (Gx c X) g) (yd ik)) (jo (cT jv) ik)))):DS c X st (qc i jv p g):=PS.imp h λW7 C H q_=>by
 have(Hf0,H0,Hf,M,o,Q,E,kq):=q_;have(q,e1,E):=be E;have(y,e2,E):=be E;have(k,e3,E):=be E;have(d,e4,E):=be E;have(o2,m,E):=dS E;subst E;have(w,ew,rw0):=Q.imm (FP e4);show(Hf0,H0,Hf,M,q.1,q.2,Q,e1,λt v fp v1 f1 b3 H1 es ev x rt F=>?_)
 cases h1:q.1 with
 |dT ks os=>
  rw[h1]at m F;have(a,vs,fs,rfl,ha,hz,B,rfl):=id F.r;show(a,rfl,.inr (_,.inl ha),Hf0,H0,b3,M,y,Q.step x,e2,λu bm H2 G r2=>(cy _,λl N=>?_));have(b,eb,tk):=sh e3 r2;subst eb;have x3:Ext bm H2 bm (upd H2 l (.lst [])):=Ext.tmp G.s N;have A:=G.trans x3;have xa:=x.trans A;show(ks.zip vs,k,b,(A.h _ _ ha),rfl,tk.same (G.s.trans x3.h),λv2 I=>?_,λhn=>?_)
  .cases J:aV k ks with
   |none=>rw[si vs J]at I;nomatch I
   |some j=>
    replace m:(match aV k ks with |some j=>(os[j]?).bind λo1=>(o1.appd d).map λo2=>O.dT ks _ |none=>if Z ks<16777216 then aa _ else ab)=aa o2:=m
    simp only[J]at m;have(ok,eo,m):=be m;have(on,ea,m):=dS m;subst m;have(v3,f3,ev3,F4):=Foc.root (W:=.dT ks) ha rfl B F.n eo λHf' H' os' fs' ha' r _=>(a,vs,fs',rfl,ha',hz,r,rfl);rw[p8 vs J,ev3]at I;cases I;have F5:=(F.trans F4).up A.f A.h;have(l2,us,el,ql,hz2,lm,next):=Hy ea F5.r;subst el;show(.inl (rfl,_,SqL.of ql),w,ew,l2,us,w,rfl,rfl,ql,by rw[dG];show hz2,kq C bm _ xa.f ?_)
    have:=Q.foc es ev (rt.up A.f A.h) xa F5 (λb u L hn=>by rw[aN (λz=>hn (by rw[z];show lm))];show L)
     (next bm _ w F5.n (ar.refl _) (λb u L e=>by rw[aN L];show e) ba (rw0.up xa.f)) F5.n λa ha=>.inl ha
    show this
  .cases J:aV k ks with
   |some j=>
    rw[p8 vs J]at hn;have:=zR J;rw[List.getElem?_eq_none_iff]at hn
    lia
   |none=>
    replace m:(match aV k ks with |some j=>(os[j]?).bind λo1=>(o1.appd d).map λo2=>O.dT ks _ |none=>if Z ks<16777216 then aa _ else ab)=aa o2:=m
    rw[J]at m;replace m:(if Z ks<16777216 then aa _ else ab)=aa o2:=m;split at m
    .rename_i hlt;cases m;have nal:=fJ (G.h _ _ ha) N
     have lf:∀g,g∈fp->g≠l:=λg U z=>by
      have:=Q.was es ev x rt g U;subst z;show this ((x.h.trans G.h).free N)
     have Y:upd (upd H2 l (.lst [])) a (.dT (dO (ks.zip vs) k (.ref l))) l=aa (.lst []):=by rw[aN nal.symm,ba]
     show(by rw[dG,ox];lia,.inl (rfl,_,SqL.of Y),w,ew,l,[],w,rfl,rfl,Y,by rw[dG];show qR _,kq C bm _ xa.f ?_);have xb:=x.trans G;have T:=F.up G.f G.h
     have keep:∀b u,b≠a->H2 b=aa u->upd (upd (upd H2 l (.lst [])) a (.dT (dO (ks.zip vs) k (.ref l)))) l (.lst ([]++[w])) b=aa u:=λb u L e=>by
      have nb:=fJ e N;rw[aN nb,aN L,aN nb];show e
     have(kvs,ql',hkv,hv,lm,nw):=HP T.r T.n J (ar.refl _) keep;rw[G.h _ _ ha]at ql';cases ql';show Q.foc es ev (rt.up G.f G.h) xb T (λb u L hn=>keep b u (λz=>hn (by rw[z];show lm)) L) (nw (by rw[aN nal,ba]) (l,[w],[],rfl,ba,OTs.one (rw0.up xb.f,rfl),rfl)) (fE.mpr (T.n,b9.mpr (dF,fR),λg U g' hg' z=>by rw[bq.mp hg']at z;show lf g (T.sub g U) z)) λg U=>?_
     rcases bx.mp U with y |y
     .show .inl y
     .rw[bq.mp y];show .inr (xb.h.free N,xb.s.free N)
    .nomatch m
 | _=>rw[h1]at m;nomatch m
def zX{f:Str}{v:V}:∀{ns:LSt} {vs:LVv} {k:Nat},Z ns=Z vs->aV f ns=aa k->c9 f v (ns.zip vs)=ns.zip (vs.set k v)
 | [],_,_,_,h=>by cases h
 | _::_,[],_,hl,_=>by cases hl
 |n::ns,u::vs,k,hl,h=>by
  dsimp only[aV]at h;rw[fD];dsimp only[c9];split at h
  .rename_i e;cases h;simp only[if_pos e,tW,fD]
  .rename_i e;rw[if_neg e]
   cases h':aV f ns with
   |none=>rw[h']at h;cases h
   |some j=>
    rw[h']at h;cases h;simp only[qK,fD,zX (by simpa using hl) h']
def HR{f:Str}{v:V}:∀{ns:LSt} {vs:LVv},Z ns=Z vs->aV f ns=ab->c9 f v (ns.zip vs)=(ns++[f]).zip (vs++[v])
 | [],[],_,_=>rfl
 | [],_::_,hl,_=>by cases hl
 | _::_,[],hl,_=>by cases hl
 |n::ns,u::vs,hl,h=>by
  dsimp only[aV]at h;rw[fD];dsimp only[c9];split at h
  .cases h
  .rename_i e;rw[if_neg e]
   cases h':aV f ns with
   |none=>simp only[lq,lq,fD,HR (by simpa using hl) h']
   |some j=>rw[h']at h;nomatch h
def O.setF(o:O)(cn f:Str)(x:O):Option O:=match o with
 | .ins c ns os=>if c=cn/\Z ns < 1000 then (match aV f ns with
  |some k=>aa (.ins c ns (os.set k x))
  |none=>aa (.ins c (ns++[f]) (os++[x]))) else ab
 | _=>ab
def eR(i:Nat)(cn f:Str)(p:Xp)(g:LS->Option O)(M:LS):Option Fl:=(g M).bind λx=>(p M).bind λq=>(q.1.setF cn f x).map λo2=>.nx (M.set i (.deep (q.2 o2)))
def OTs.len{G:Gc}{Hf H:Hp}:∀{os:List O} {vs:LVv} {fs:LAd},OTs G Hf H os vs fs->Z os=Z vs
 | [],_,_,h=>by rw[h.1];rfl
 |o::os,_,_,(v,r,f1,f2,e,_,h2,_)=>by subst e;simp[OTs.len h2]
def HS{g:LS->Option O}(cn:Str)(hc:Cls X.K (c cn))(hn:cP X.K (c cn) fl)(hp:PS X st (Fc X.K (tDP (Gx c X) i p) (tDZ (Gx c X) ac g) fl)):DS c X st (eR i cn fl p g):=PS.imp hp λW7 C H q_=>by
 have(Hf0,H0,Hf,M,o,L,A,kq):=q_;have(x,e1,A):=be A;have(q,e2,A):=be A;have(o2,j,A):=dS A;subst A;show(Hf0,H0,Hf,M,x,L,e1,λu gp b3 H1 x1 rx l=>(Hf0,H0,b3,M,q.1,q.2,L.step x1,e2,λt v fp v1 f1 bm H2 es T Q rt F=>?_));have m:=x1.trans Q
 have hg:∀b∈gp,H b=ab/\bm b=ab:=λb d=>by
  show((l.2 b d).1,?_);have(w,hw,ht):=OT.memM x u gp rx b d;rw[Q.n b w hw ht];show(l.2 b d).2
 have ng:=λb d hf=>(L.was es T m rt) b hf (hg b d).1
 cases h1:q.1 with
 |ins c' ns os=>
  rw[h1]at j F;replace j:(if c'=cn/\Z ns<1000 then _ else ab)=aa o2:=j;split at j
  .rename_i hcc;have(rfl,hlt):=hcc;have(a,dx,vs,fs,rfl,ha,hz,B,rfl):=id F.r;have(N,I):=b9.mp F.n;have E:=λz=>ng a z (F.sub a aA);show(a,_,dx,ns.zip vs,rfl,ha,hc,hn,by rw[ox];lia,kq C bm _ m.f ?_);have keep:∀b w,b≠a->H2 b=aa w->upd H2 a (.ins (c c') dx (c9 fl u (ns.zip vs))) b=aa w:=λb w d e=>by rw[aN d];show e
   have J:=(rx.up Q.f Q.h).frame (ar.refl _) λb w d hm=>keep b w (λz=>by
    subst z;rw[ha]at d;cases d
    rcases hm with hm |hm
    .nomatch hm
    .show E hm) d
   have kk:∀b w,H2 b=aa w->b∉a::fs->upd H2 a _ b=aa w:=λb w d hn=>keep b w (λz=>hn (by rw[z];show aA)) d
   cases G:aV fl ns with
   |some k=>
    rw[G]at j;cases j;have hkl:k<Z os:=by rw[B.len,<- hz];show zR G
    have(vk,fk,evk,_,_,sb,bk):=B.foc I (b7 hkl)
    have (U,r',m',n'):=bk bm _ x u gp (ar.refl _) (λb w d hm _=>keep b w (λz=>by
     subst z;rw[ha]at d;cases d
     rcases hm with hm |hm
     .nomatch hm
     .show N hm) d) J
    show L.foc es T rt m F kk (a,dx,vs.set k u,U,rfl,by rw[ba,zX hz G],by simp[hz],r',rfl) (b9.mpr (λz=>?_,n' l.1 λb d hf=>absurd (F.sub b (bj _ hf)) (ng b d))) λb d=>?_
    .rcases m' a z with y |⟨y,_⟩
     .show E y
     .show N y
    .rcases a9.mp d with z |z
     .rw[z];show .inl aA
     .rcases m' b z with y |⟨y,_⟩
      .show .inr (hg b y)
      .show .inl (bj _ y)
   |none=>
    rw[G]at j;cases j;show L.foc es T rt m F kk (a,dx,vs++[u],fs++gp,rfl,by rw[ba,HR hz G],by simp[hz],((B.stay ha rfl N (ar.refl _) keep).append (.one J)),rfl) (b9.mpr (λz=>?_,fE.mpr (I,l.1,λb d b' Y z=>by subst z;show ng b Y (F.sub b (bj _ d))))) λb d=>?_
    .rcases bx.mp z with y |y
     .show N y
     .show E y
    .rcases a9.mp d with z |z
     .rw[z];show .inl aA
     .rcases bx.mp z with y |y
      .show .inl (bj _ y)
      .show .inr (hg b y)
  .nomatch j
 | _=>rw[h1]at j;nomatch j
nonrec def MTf:=Addr->LD->O->Option (O×D)
def iz(G:Gc)(n:Nat)(m:MTf):Sp:=λvs H Q _=>∃Hf ds o o' d l fp b,vs=.ref l::b/\ar Hf H/\OT G Hf H o (.ref l) fp/\fp.Nodup/\(∀a∈fp,Hf a=ab)/\ao G Hf ds b/\1+Z ds=n/\m l ds o=aa (o',d,) /\
 ∀v Hf' H' fp',Ext Hf (gT H fp) Hf' H'->OT G Hf' H' o' (.ref l) fp'->fp'.Nodup->(∀a∈fp',gT H fp a=ab/\Hf' a=ab)->Rep G Hf' d v->Q v H'
def vw(N:Nat)(l:Addr)(ds:LD)(o:O):LS:=(f6 N (.non::ds)).set 0 (.deep (.at l o))
open Classical in
def nK(l:Addr)(M:LS):Option O:=match (M[0]?:Option Sl)with
 |some (Sl.deep (.at l' o))=>if l'=l then aa o else ab
 | _=>ab
def RI{o:O}(h:nK l M=aa o):M[0]?=aa (.deep (.at l o)):=by
 unfold nK at h
 grind
def HU{o:O}(h:M[0]?=aa (.deep (.at l o))):nK l M=aa o:=by
 unfold nK;rw[h];show if_pos rfl
def eB(N:Nat)(F:MF3):MTf:=λl ds o=>(F (vw N l ds o)).bind λr=>match r with
 |.nx M=>(nK l M).map λo'=>(o',.non,)
 |.rtS d M=>(nK l M).map λo'=>(o',d,)
 | _=>ab
def au.startMT{o:O}{b:LVv}(f:ar Hf H)(e:OT G Hf H o (.ref l) fp)(n:fp.Nodup)(c:∀a∈fp,Hf a=ab)(r:ao G Hf ds b):
  au G Hf (gT H fp) Hf H (L2.start N (.ref l::b)) (vw N.length l ds o):=by
 show(au.start (HB f c) (.cons (d:=.non) rfl r)).setNew (i:=0) (Ext.grow (HB f c) Q9) (.ref l,fp,rfl,(rfl,e),n,λa ha=>(zM ha,c a ha)) λa p=>by
  have(fp',g,ha):=p;have:=OT.funM o _ fp fp' e g.2;subst this;show zM ha
variable{f:Addr}
def gy{k:Nat}{F:MF3}(C:Fun K x qual st f fd)(S:aB N ps (aw st))
 (h:∀(cdv:Value) (A:ca) (outer:List Env) (s:ah) (H:Hp) (W7:XK),bA k (A.deeper (gh qual (aw st) s.heap.objs.size f cdv))->DSs c (iJ CX0 P w K mg base N qual (aw st) f cdv A outer s H W7).nox (fX st) F)(i:autoParam (Z N=n_) Zb):
  cC P w K mg base CX0 (k+1) f fd ps (iz (K,c) ps.length (eB n_ F)):=by
 subst i;show C.ok S (λvs H Q W7 j=>by have(Hf,ds,o,o',d,l,fp,p,g,B,y,n,q,r,hn,_):=j;rw[g,cf,<- r.length];lia) λcdv A outer s H vs Q W7 hr j=>?_;have(Hf,ds,o,o',d,l,fp,p,g,B,y,n,q,r,hn,e,G):=j;show(_,h cdv A outer s H W7 hr,?_);subst g;unfold eB at e
 cases b:F _ with
 |none=>rw[b]at e;nomatch e
 |some z=>
  rw[b,az]at e;show(Hf,gT H fp,Hf,_,z,au.startMT B y n q r,b,?_)
  have fin:∀M d',(nK l M).map (λo'=>(o',d',))=aa (o',d,)->∀v σ' Hf' H',au (K,c) Hf _ Hf' H' σ' M->Rep (K,c) Hf' d' v->Q v H':=λM d' e v σ' Hf' H' a m=>by
   have(t,E,e):=dS e;cases e;have(u,L,U,fp',T,rt,I,J):=a.slot (RI E);cases rt.1;show G v Hf' H' fp' a.ext rt.2 I J m
  cases z with
  |nx M=>show λσ' Hf' H' _ a=>fin M .non e .non σ' Hf' H' a rfl
  |rtS d' M=>show λv σ' Hf' H' a m=>fin M d' e v σ' Hf' H' a m
  | _=>nomatch e
def au.treeBack{o o':O}{fp':LAd}(n:au G Hf0 H0 Hf H C M)(es:M[i]?=aa (.deep o))(e:C[i]?=aa (aa v))(r:OT G Hf H o v fp)(x:Ext Hf (gT H fp) Hf' H')(f:OT G Hf' H' o' v fp')(l:fp'.Nodup)(d:∀a∈fp',gT H fp a=ab/\Hf' a=ab):au G Hf0 H0 Hf' H' C (M.set i (.deep o')):=by
 have s1 : au G Hf0 H0 Hf (gT H fp) C (M.set i .no):=n.chg es e (λb y j=>by
  by_cases c:b∈fp
  .show .inl (fp,r,c)
  .show .inr (by rw[vp c];show j)) trivial λa p=>(p.calm rfl).elim
 have s2:=s1.setNew (i:=i) (s:=.deep o') x (v,fp',rfl,f,l,λa ha=>(s1.ext.h.free (d a ha).1,(d a ha).2)) λa p=>by
  have(g,m,ha):=p;have:=OT.funM o' v fp' g f m;subst this;show(d a ha).1
 rw[nI e,set_set]at s2;show s2
abbrev O.isIns(cn fl:Str):O->Bool
 |.ins c ns _=>decide (c=cn) && !ns.contains fl
 | _=>af
def zY{cn fl:Str}{o:O}(h:o.isIns cn fl=ac):∃ns os,o=.ins cn ns os/\ns.contains fl=af:=by
 cases o with
 |ins c ns os=>
  replace h:(decide _ && !ns.contains fl)=ac:=h
  simp_all
 | _=>nomatch h
def cK(i:Nat)(cn fl:Str)(m:MTf)(f:Xa):Xe:=λM=>match M[i]? with
 |some (.deep (.at _ o0))=>if o0.isIns cn fl then (f M).bind λp=>match p.2[i]? with
  |some (.deep (.at l o))=>(m l p.1 o).map λq=>(q.2,p.2.set i (.deep (.at l q.1)),)
  | _=>ab else ab
 | _=>ab
open Classical in
def j7(i:Nat)(cn fl:Str)(m:MTf)(f:Xa):Xe:=λM=>match M[i]? with
 |some (.deep o0)=>if o0.isIns cn fl then (f M).bind λp=>match p.2[i]? with
  |some (.deep (.ins c' ns os))=>if h:∃q,∀l,m l p.1 (.ins c' ns os)=aa q then aa (h.choose.2,p.2.set i (.deep h.choose.1),) else ab
  | _=>ab else ab
 | _=>ab
variable{fa:Xa}{m:MTf}{Q:VK}{t:TA}
def HV(cn:Str)(ht:∀C H Q,r6 (Gx c X) fa C H Q->t C H Q)(hn:∀M ds ρ',fa M=aa (ds,ρ',)->1+Z ds=Z ps)(q_:tDX (Gx c X) (cK i cn fl m fa) C H Q):uD (c cn) fl (iz (Gx c X) ps.length m) [] E0 (cT i) t C H Q:=by
 have(Hf0,H0,Hf,M,d,ρ',st,b,kq):=q_;unfold cK at b;split at b
 .rename_i I o0 p;split at b
  .rename_i hi;have(ns,os,rfl,y):=zY hi;have(pp,E,b):=be b;have(ds,ρ1):=pp;split at b
   .rename_i l o1 e;have(q,N,b):=dS b;cases b;have(u,x,u',fp,T,rt,n,z):=st.slot p;subst T;have(el,a,dx,vs,fs,Y,ha,hz,B,efp):=rt;subst el;cases Y;show(_,x,I,dx,ns.zip vs,rfl,ha,pG y,ht _ _ _ (Hf0,H0,Hf,M,ds,ρ1,st,E,λus Hf' H' f1 st1 r=>?_));rw[bN];have(w,G,w',gp,U,A,n1,z1):=st1.slot e;subst U;rw[x]at G;cases G;have(j,g):=A;cases j;show(Hf',ds,o1,q.1,q.2,I,gp,us,rfl,st1.sub,g,n1,λa ha=>(z1 a ha).2,r,hn _ _ _ E,N,λv h L fp3 J r3 n3 z3 rv=>kq v h L (f1.trans J.f) (st1.treeBack e x (rfl,g) J (rfl,r3) n3 z3) rv)
   .grind
  .grind
 .grind
def RJ(cn:Str)(ht:∀C H Q,r6 (Gx c X) fa C H Q->t C H Q)(hn:∀M ds ρ',fa M=aa (ds,ρ',)->1+Z ds=Z ps)(q_:tDX (Gx c X) (j7 i cn fl m fa) C H Q):uD (c cn) fl (iz (Gx c X) ps.length m) [] E0 (cT i) t C H Q:=by
 have(Hf0,H0,Hf,M,d,ρ',st,b,kq):=q_;unfold j7 at b;split at b
 .rename_i o0 j;split at b
  .rename_i hi;have(ns,os,rfl,p):=zY hi;have(pp,A,b):=be b;have(ds,ρ1):=pp;split at b
   .rename_i N x y e;split at b
    .rename_i I;have E:=I.choose_spec;generalize I.choose=q at b E;cases b;have(u,l,u',fp,T,rt,n,z):=st.slot j;subst T;have(a,dx,vs,fs,Y,ha,hz,B,efp):=rt;subst Y;show(_,l,a,dx,ns.zip vs,rfl,ha,pG p,ht _ _ _ (Hf0,H0,Hf,M,ds,ρ1,st,A,λus Hf' H' f1 st1 r=>?_));rw[bN];have(w,G,w',gp,U,g,n1,z1):=st1.slot e;subst U;rw[l]at G;cases G;show(Hf',ds,.ins N x y,q.1,q.2,a,gp,us,rfl,st1.sub,g,n1,λa ha=>(z1 a ha).2,r,hn _ _ _ A,E a,λv h L fp3 J r3 n3 z3 rv=>kq v h L (f1.trans J.f) (st1.treeBack e l g J r3 n3 z3) rv)
    .nomatch b
   .nomatch b
  .nomatch b
 .nomatch b
def HW{k:Nat}{o:Expr}(cn:Str)(l:PE X o (cT i))(pk:Pm X.prog X.w X.K X.mg X.base CX0 k (c cn) fl (f,fd,) ps (iz (Gx c X) ps.length m))(g:bA k0 X.A)(ha:DAX c X (e::es) fa)(q:autoParam (Z (e::es)+1=Z ps) Zb)(j:autoParam (StE X e es) Zb)(d:autoParam (BkE X pos es) Zb)(n:autoParam (eval (.Call (.Attribute o fl apos) (e::es) [] pos) X.env=(do
   let ov <- eval o X.env
   gG apos.atName
   let (f,first,) <- eX [ov] (hX ov fl pl)
   jW pos f first (cj pos (aL (e::es) X.env)) (iF pos (iE [] X.env)))) Zb)(a:autoParam (k<=k0) Zc):
  DX c X (.Call (.Attribute o fl apos) (e::es) [] pos) (cK i cn fl m fa):=PE.imp (yg l pk.c pk.m pk.ok (g.mono a) pk.b .nil gM ha.pa j d n) λC H Q p=>HV cn (λ_ _ _ h=>h) (λM ds ρ' h=>by have:=ha.len M ds ρ' h;lia) p
def RK{k:Nat}{o:Expr}(cn:Str)(l:PE X o (cT i))(pk:Pm X.prog X.w X.K X.mg X.base CX0 k (c cn) fl (f,fd,) ps (iz (Gx c X) ps.length m))(d:bA k0 X.A)(j:autoParam (1=Z ps) Zb)(n:autoParam (eval (.Call (.Attribute o fl apos) [] [] pos) X.env=(do
   let ov <- eval o X.env
   gG apos.atName
   let (f,first,) <- eX [ov] (hX ov fl pl)
   jW pos f first (cj pos (aL [] X.env)) (iF pos (iE [] X.env)))) Zb)(a:autoParam (k<=k0) Zc):
  DX c X (.Call (.Attribute o fl apos) [] [] pos) (cK i cn fl m cE):=PE.imp (yh l pk.c pk.m pk.ok (d.mono a) pk.b .nil gM n) λC H Q e=>HV cn (λC H Q e=>by have(Hf0,H0,Hf,M,ds,ρ',st,g,k):=e;cases g;show k [] Hf H (ar.refl _) st rfl) (λM ds ρ' h=>by cases h;show j) e
def HX{k:Nat}{o:Expr}(cn:Str)(l:PE X o (cT i))(pk:Pm X.prog X.w X.K X.mg X.base CX0 k (c cn) fl (f,fd,) ps (iz (Gx c X) ps.length m))(d:bA k0 X.A)(j:autoParam (1=Z ps) Zb)(n:autoParam (eval (.Call (.Attribute o fl apos) [] [] pos) X.env=(do
   let ov <- eval o X.env
   gG apos.atName
   let (f,first,) <- eX [ov] (hX ov fl pl)
   jW pos f first (cj pos (aL [] X.env)) (iF pos (iE [] X.env)))) Zb)(a:autoParam (k<=k0) Zc):
  DX c X (.Call (.Attribute o fl apos) [] [] pos) (j7 i cn fl m cE):=PE.imp (yh l pk.c pk.m pk.ok (d.mono a) pk.b .nil gM n) λC H Q e=>RJ cn (λC H Q e=>by have(Hf0,H0,Hf,M,ds,ρ',st,g,k):=e;cases g;show k [] Hf H (ar.refl _) st rfl) (λM ds ρ' h=>by cases h;show j) e
open Classical in
def nM(cn:Str)(m:MTf)(fa:MF2)(M:LS):Option O:=(fa M).bind λds=>if h:∃o,∀l,m l ds (.ins cn [] [])=aa (o,.non,) then aa h.choose else ab
variable{bb:Bool}{fa:MF2}
def RL{cn:Str}(hC:W8=G.cl cn)(I:∀C H Q,tDA G fa C H Q->t C H Q)(hn:∀M ds,fa M=aa ds->1+Z ds=Z ps)(T:tDZ G bb (nM cn m fa) C H Q):Ff W8 (iz G ps.length m) [] E0 t C H Q:=by
 have(Hf0,H0,Hf,M,o,st,c,L):=T;have(ds,x,c):=be c;split at c
 .rename_i B;have A:=B.choose_spec;generalize B.choose=o' at c A;cases c;show I _ _ _ (Hf0,H0,Hf,M,ds,st,x,λvs b3 H1 d r y dx p i j=>?_);rw[bN];subst hC;have J:(upd H1 dx (.own y)) y=ab:=by rw[aN j.symm];show p
  have s1:ar H1 (upd H1 dx (.own y)):=bQ i;have s2:=s1.trans (bQ (o:=.ins (G.cl cn) dx []) J)
  have w:ar H1 (gT _ [y]):=λb u q=>by
   rw[vp (λz=>fJ q p (bq.mp z))];show s2 b u q
  show(b3,ds,.ins cn [] [],o,.non,y,[y],vs,rfl,d.s.trans s2,(y,dx,[],[],rfl,ba,rfl,(rfl,rfl),rfl),b9.mpr (dF,fR),λa ha=>by rw[bq.mp ha];show d.s.free p,r,hn M ds x,A y,λv bm H2 g e U N E Y=>(Y,?_));have x3:Ext b3 H1 bm H2:=(e.f,w.trans e.h,e.s,λl u q t=>e.n l u (w l u q) t);show L _ g bm H2 (d.trans x3) U (N,λa ha=>(zK st.ext.h (d.h.free (w.free (E a ha).1)),(E a ha).2))
 .nomatch c
variable{p:Pos}
def RM{k:Nat}(cn:Str)(d:Mk X.K (c cn) f)(F:cC X.prog X.w X.K X.mg X.base CX0 k f fd ps (iz (Gx c X) ps.length m))(hr:bA (k+1) X.A)(j:Gl X x)(hm:X.mg x=aa (.ref (c cn)))(g:dZ X.K fd ps [])(ha:DA c X (e::es) fa)
 (n:autoParam (Z (e::es)+1=Z ps) Zb)(a:autoParam (NDb x) Zc)(i:autoParam (StE X e es) Zb)(b:autoParam (BkE X pos es) Zb):
  DZ c X bb (.Call (.Name x p) (e::es) [] pos) (nM cn m fa):=PE.imp (Fg d F hr j hm g .nil gM ha.pa a i b) λC H Q l=>RL rfl (λ_ _ _ h=>h) (λM ds h=>by have:=ha.len M ds h;lia) l
def hu1{u:Nat}(h:u+64<cLine):u+1<cLine:=mw (Nat.add_le_add_left (by decide) u) h
def HY{f:MF2}(h:DL c X e f):DIe c X tg e f:=PI.imp (xX h) λC H R d=>by
 have(Hf0,H0,Hf,M,ds,st,b,k):=d;show(Hf0,H0,Hf,M,ds,st,b,λl vs Hf' H' x a r=>(l,rfl,(vs,SqL.of a),k _ Hf' H' x (Gm (SqL.of a) r)))
def vz(f:MF2)(M:LS):OLD:=(f M).map (iS 0)
variable{a:Expr}
def RN{f:MF2}(L:Gl X "enumerate")(hm:X.mg "enumerate"=ab)(ha:DL c X a f)(w:autoParam (aL [a] X.env=[(af,eval a X.env,)]) Zb):
  DIe c X (.Tuple elts kx gF) (.Call (.Name "enumerate" p) [a] [] pos) (vz f):=PI.imp (GK L hm (eG ha dY w) w) λC H R N=>by
 have(Hf0,H0,Hf,M,ds,st,g,k):=N;have(E,A,g):=dS g;subst g;show(Hf0,H0,Hf,M,E,st,A,λl vs Hf' H' x q r=>(l,rfl,(vs,SqL.of q),k _ Hf' H' x λbm H2 e i=>?_));have j:SqL X.K H2 l vs:=SqL.of (e.h _ _ q);have Y:=r.length;show(λd b=>?_,λG=>(vs,j,by rw[zc]at G;lia));rw[zd]at b;have(y,I,b):=dS b;subst b;have(u,n,ru):=r.get I;show((vs,u,j,n),λz U T=>?_);have(pp,z1,J,v,B,Q):=T;subst J B;have m:=Q vs j;rw[n]at m;cases m;show(upd bm pp _,Ext.new e.s v,pp,_,rfl,ba,.cons (by rw[jR];rfl) (.cons (ru.up (e.f.trans (bQ (e.s.free v)))) .nil))
def RO:DZ c X bb (.Dict [] [] pos) (λ_=>aa (.dT [] [])):=PE.imp NG λC H Q d=>by
 have(Hf0,H0,Hf,M,o,st,b,k):=d;cases b;intro l a;show k _ [l] Hf _ (Ext.tmp st.sub a) (l,[],[],rfl,ba,rfl,(rfl,rfl),rfl) (.one (zK st.ext.h a) (st.sub.free a))
end L2
namespace HT
open List
open PySem PyProof.Rows
open PySem.SeqAt
open PySem.AutoSeq1 (wpAny_loadPart')
open PySem.MeetsSeq PySem.MeetsSeq2 PySem.MeetsSeq3
def RP(l:Addr)(L:Array Value)(n:Nat)(x:Value)(f:Value->Bool)(j:Nat)(p:j<L.size)(q:f L[j]=ac)(hz:L.size<=aU)(k:Nat):
  ∀i:Nat,j-i=k->i<=j->(∀m (hm:m<L.size),i<=m->m<j->f L[m]=af)->Meets (d7.«list.remove.loop» ([.ref l,x,cu i],[]))
   (λA R s=>s.heap.get? l=aa {cls:=.type "list",dict:=ab,data:=.seq L n,slots:=#[]}/\(∀y,y∈L->EqAt A.in1 s y x (f y))/\R (.ok (.ret .none)) {s with heap:=s.heap.update l (ic λE=>E.eraseIdxIfInBounds j)}):=by
 induction k with
 |zero=>
  intro i r e b prog w A R s h;have(c,d,h):=h;obtain rfl:i=j:=by lia
  wp_walk using ua c
  rw[show L[S (_:Int)]?=aa L[i] by simp[p]];show am (d _ (Array.getElem_mem p) prog w _ _ ?_);have g:(L.eraseIdxIfInBounds i).size<=aU+1:=cN (size_erased L _) (Nat.le_succ_of_le hz)
  wp_walk using (ud c rfl (_hz':=g)),ua c
  show h
 |succ k u=>
  intro i r e b prog w A R s h;have(c,d,h):=h;have a:i<L.size:=by lia
  wp_walk using ua c
  rw[show L[S ((i:Nat):Int)]?=aa L[i] by simp[a]];show am (d _ (Array.getElem_mem a) prog w _ _ ?_);rw[b i a (aM _) (by lia)]
  wp_walk
  show (mE plain_remove_loop _,ko entry_remove_loop (by
   show u (i+1) (by lia) (by lia) (λm hm v h2=>b m hm (by lia) h2) prog w A R _ (c,d,h)))
def remAt(l:Addr)(L:Array Value)(n:Nat)(x:Value)(f:Value->Bool)(j:Nat)(e:j<L.size)(a:f L[j]=ac)(b:∀m (hm:m<L.size),m<j->f L[m]=af)(hz:L.size<=aU):Meets (d7.«list.remove» ([.ref l,x],[]))
   (λA R s=>s.heap.get? l=aa {cls:=.type "list",dict:=ab,data:=.seq L n,slots:=#[]}/\(∀y,y∈L->EqAt A.in1 s y x (f y))/\R (.ok (.ret .none)) {s with heap:=s.heap.update l (ic λE=>E.eraseIdxIfInBounds j)}):=by
 intro prog w A R s h;have(c,d,h):=h
 wp_walk using ua c
 show (mE plain_remove_loop _,ko entry_remove_loop (by
  show RP l L n x f j e a hz _ 0 rfl (cy _) (λm hm _ h2=>b m hm h2) prog w A R _ (c,d,h)))
end HT
namespace L2
open List
open PySem PySem.Spec PyProof.Rows
abbrev HZ(G:Gc):V->LVv->Hp->VK->Prop:=λa vs H Q=>∃Hf l us ds x w,a=.ref l/\vs=[w]/\ar Hf H/\H l=aa (.lst us)/\ao G Hf ds us/\Rep G Hf x w/\dC x ds=aa ac/\Q .non (upd H l (.lst (us.eraseIdx (ds.findIdx (isE x)))))
def O.remd(x:D)(o:O):Option O:=o.items.bind λds=>if dC x ds=aa ac then aa (.lst ((ds.eraseIdx (ds.findIdx (isE x))).map .fz)) else ab
def qd(i:Nat)(p:Xp)(f:MF1)(M:LS):Option Fl:=(p M).bind λq=>(f M).bind λd=>(q.1.remd d).map λo2=>.nx (M.set i (.deep (q.2 o2)))
variable{c:Str->Addr}{X:Cx}
def RQ(hu:X.A.units+64<cLine):MtM X "list.remove" (HZ (Gx c X)):=by
 rintro U s C H x E v us Q I rx rv ⟨Hf,l,vs,ds,z,w,rfl,rfl,G,q,B,r2,a,k⟩;subst rx;have(u,rfl,ru):=rv.one;have(z1,L,n,j,N,e0):=I.lstM q;have(f,J,ha):=rS (A:=X.A.in1) I (by rw[qY];lia) (r2.up G) ru (B.up G) j a;have(k1,k2):=zO a
 have same:∀m _,f L[m]=isE z (ds.getD m .non):=λm hm=>by
  have i:m<Z ds:=by rw[B.length,N];show hm
  have(v1,g,r):=B.get (b7 i);have(u1,b,ru1):=j.get g;rw[b7 hm]at b;cases b;have(_,d',v',r',p,h'):=J L[m] (iB hm);have Y:=aC.inj p ru1;subst Y;have(T,d):=k1 ds[m] (iB i);rw[bp,b7 i];change _=isE z ds[m];unfold isE;rw[d,(rR 19 r' (r.up G) h' d)]
  cases T <;> rfl
 have M:=xj (any_eq_true.mp k2);have e:ds.findIdx (isE z)<Z L:=by rw[<- N,<- B.length];show M
 show call_meets F.slot_list_remove (_,e0,rfl) F.entry_list_remove (F.args_list_remove_2 _ _) (HT.remAt l L.toArray n u f _ (by rw[size_toArray];show e) ?_ ?_ (by rw[size_toArray];lia)) (e0,λy hy=>(J y (by simpa using hy)).1,?_)
 .rw[tQ,same _ e,bp,b7 M];show findIdx_getElem
 .intro m hm h;rw[tQ,same m (by rw[size_toArray]at hm;show hm),bp,b7 _];have:=not_of_lt_findIdx h;show this
 .show(.non,_,I.lset q e0 ?_ (j.eraseIdx _) ?_,rfl,k)
  .change L.toArray.eraseIdxIfInBounds _=(L.eraseIdx _).toArray;rw[eraseIdxIfInBounds_toArray]
  .have:=yp vs (ds.findIdx (isE z))
   lia
variable{st:Stmt}{i:Nat}{p:Xp}
def RS{f:MF1}(h:PS X st (mR (tBM X.K "list" (HZ (Gx c X)) (tDP (Gx c X) i p) (jo (tD (Gx c X) f) ik)))):DS c X st (qd i p f):=PS.imp h λW7 C H q_=>by
 have(Hf0,H0,Hf,M,o,G,g,kq):=q_;have(q,N,g):=be g;have(d,Q,g):=be g;have(o2,y,g):=dS g;subst g;have(ds,T,y):=be (y);split at y
 .rename_i A;cases y;show(Hf0,H0,Hf,M,q.1,q.2,G,N,λt v fp v1 f1 E H1 es U x rt F=>?_);have L:=F.r;rw[sj T]at L;have(l,us,fs,rfl,J,B,j):=L;have(rd,rfl):=B.unfz;show(.inl (rfl,_,SqL.of J),Hf0,H0,E,M,d,G.step x,Q,λw m H2 e r2=>?_);show(m,l,us,ds,d,w,rfl,rfl,e.s,e.h _ _ J,rd.up e.f,r2,A,kq C m _ (x.trans e).f ?_);have I:=F.up e.f e.h
  have:=G.foc es U (rt.up e.f e.h) (x.trans e) I (λb u Y hn=>by rw[aN (λz=>hn (by rw[j,z];show aA))];show Y)
   (o2:=.lst ((ds.eraseIdx (ds.findIdx (isE d))).map .fz)) (l,_,[],rfl,ba,OTs.fz ((rd.up e.f).erase _),rfl) (by rw[<- j];show I.n) λa ha=>.inl (by rw[j];show ha)
  show this
 .nomatch y
def iA(cn f:Str)(m:LD->OLD)(fo:MF1)(fa:MF2)(M:LS):OLD:=(fo M).bind λd=>match d with
 |.ins a ns ds=>if a=cn/\ns.contains f=af then (fa M).bind λas=>(m (.ins a ns ds::as)).bind λB=>if B.all D.flat then aa B else ab else ab
 | _=>ab
abbrev H9:Fl->Option (LD ⊕ D)
 |.rtO ds=>aa (.inl ds)
 |.rt d=>if d.scalar then aa (.inr d) else ab
 | _=>ab
abbrev zZ(n:Nat)(F:MF3)(ds:LD):Option (LD ⊕ D):=(F (f6 n ds)).bind H9
def spN(G:Gc)(n:Nat)(m:LD->Option (LD ⊕ D)):Sp:=λvs H Q _=>∃Hf ds r,ar Hf H/\ao G Hf ds vs/\Z ds=n/\m ds=aa r/\(∀B,r=.inl B->∀l us Hf' H',Ext Hf H Hf' H'->H l=ab->Hf' l=ab->H' l=aa (.lst us)->ao G Hf' B us->Q (.ref l) H') /\
 ∀d,r=.inr d->d.scalar=ac/\∀v Hf' H',Ext Hf H Hf' H'->Rep G Hf' d v->Q v H'
variable{P:ci}{w:World}{K:aR}{mg:MGT}{base:Heap}{n_:Nat}{x qual:Str}{f:Addr}{fd:cS}{N ps:LSt}
def RT{k:Nat}{F:MF3}(j:Fun K x qual st f fd)(S:aB N ps (aw st))
 (h:∀(cdv:Value) (A:ca) (outer:List Env) (s:ah) (H:Hp) (W7:XK),bA k (A.deeper (gh qual (aw st) s.heap.objs.size f cdv))->DSs c (iJ CX0 P w K mg base N qual (aw st) f cdv A outer s H W7).nox (fX st) F)(a:autoParam (Z N=n_) Zb):
  cC P w K mg base CX0 (k+1) f fd ps (spN (K,c) ps.length (zZ n_ F)):=by
 subst a;show j.ok S (λvs H Q W7 b=>by have(Hf,ds,d,i,r,g,_):=b;rw[<- r.length];show g) λcdv A outer s H vs Q W7 hr b=>?_;have(Hf,ds,r,i,rd,g,e,m,n):=b;show(_,h cdv A outer s H W7 hr,?_);have(o,l,e):=be e;show(Hf,H,Hf,_,o,au.start i rd,l,?_)
 cases o with
 |rtO B=>cases e;show m B rfl
 |rt d=>
  replace e:(if d.scalar then aa _ else ab)=aa r:=e;split at e
  .cases e;show(n d rfl).2
  .nomatch e
 | _=>nomatch e
def qe(m:LD->Option (LD ⊕ D))(f:MF2)(M:LS):OD:=(f M).bind λds=>(m ds).bind λr=>match r with
 |.inl B=>if B.all D.flat then aa (.lst B) else ab
 |.inr d=>if d.scalar then aa d else ab
variable{e:Expr}{es:LEx}{p pos:Pos}{fa:MF2}{k0:Nat}
def RU{k:Nat}{m:LD->Option (LD ⊕ D)}(pk:Pk X.prog X.w X.K X.mg X.base CX0 k x (f,fd,) ps (spN (Gx c X) ps.length m))(L:bA k0 X.A)(ha:DAB c X (e::es) fa)(hl:autoParam (Z (e::es)=Z ps) Zb)(G:autoParam (NDb x) Zc)(he:autoParam (StE X e es) Zb)(J:autoParam (BkE X pos es) Zb)(I:autoParam (k<=k0) Zc)(hg:autoParam (Gl X x) Zi):
  DE c X (.Call (.Name x p) (e::es) [] pos) (qe m fa):=PE.imp (rg pk.ok (L.mono I) hg pk.g pk.kp pk.b .nil gM ha.pa G he J) λC H Q q_=>by
 have(Hf0,H0,Hf,M,d,st,a,U):=q_;have(ds,T,a):=be a;have(r,Y,a):=be a;show(Hf0,H0,Hf,M,ds,st,T,λvs Hf' H' x rv=>?_);rw[bN];show(H',ds,r,ar.refl _,rv,(ha.len M ds T).trans hl,Y,λB E l us z n y hn hf i N=>?_,λd' E=>?_)
 .subst E;replace a:(if B.all D.flat then aa _ else ab)=aa d:=a;split at a
  .rename_i u;cases a;have j:lW Hf' n l=ab:=by rw[pU (λvs q=>by rw[i]at q;nomatch q)];show x.s.free hn
   show U _ _ n ((x.trans (zF x.s y.h)).fix (x.h.free hn) j i) (l,us,rfl,ba,((N.up y.s).flat u).up (bQ j))
  .nomatch a
 .subst E;replace a:(if d'.scalar then aa d' else ab)=aa d:=a;split at a
  .rename_i u;cases a;show(u,λv z n y N=>U v Hf' n (x.trans (Ext.grow x.s y.h)) (N.sc u))
  .nomatch a
variable{fl:Str}{apos:Pos}{fo:MF1}{pl:Sem Bool}
def Ia{o:Expr}{k:Nat}{m:LD->OLD}(cn:Str)(ho:DB c X o fo)(pk:Pm X.prog X.w X.K X.mg X.base CX0 k (c cn) fl (f,fd,) ps (spO (Gx c X) ps.length m))(G:bA k0 X.A)(ha:DAB c X (e::es) fa)(hl:autoParam (Z (e::es)+1=Z ps) Zb)(I:autoParam (StE X e es) Zb)(E:autoParam (BkE X pos es) Zb)(ht:autoParam (eval (.Call (.Attribute o fl apos) (e::es) [] pos) X.env=(do
   let ov <- eval o X.env
   gG apos.atName
   let (f,first,) <- eX [ov] (hX ov fl pl)
   jW pos f first (cj pos (aL (e::es) X.env)) (iF pos (iE [] X.env)))) Zb)(y:autoParam (k<=k0) Zc):
  DO c X (.Call (.Attribute o fl apos) (e::es) [] pos) (iA cn fl m fo fa):=PE.imp (yg ho pk.c pk.m pk.ok (G.mono y) pk.b .nil gM ha.pa I E ht) λC H Q q_=>by
 have(Hf0,H0,Hf,M,B,st,g,kq):=q_;have(d,e1,j):=be g;clear g
 cases d with
 |ins J ns ds=>
  have g:(if J=cn/\ns.contains fl=af then (fa M).bind λas=>(m _).bind λB=>if B.all D.flat then aa B else ab else ab)=aa B:=j;split at g
  .rename_i u;have(p,z):=u;subst p;have(as,L,j):=be g;have(rs',e3,g):=be j;split at g
   .rename_i hs;cases g;show(Hf0,H0,Hf,M,_,st,e1,λv n H1 T r=>?_);have(a,dx,vs,ev,q,N,rr):=id r;subst ev;show(a,dx,ns.zip vs,rfl,q,pG z,Hf0,H0,n,M,as,st.step T,L,λws bm H2 U r2=>?_);rw[bN];have x:=T.trans U;show(H2,.ins J ns ds::as,_,ar.refl _,.cons (r.up U.h) r2,by rw[cf,ha.len M as L];show hl,e3,λl us Hf3 H3 Y hn hf i r3=>(kq l us _ H3 (x.trans (zF x.s Y.h)) (x.h.free hn) (by rw[pU (λvs q=>by rw[i]at q;nomatch q)];show x.s.free hn) i ((r3.up Y.s).flat hs)))
   .nomatch g
  .nomatch g
 | _=>nomatch j
abbrev l5(w pr k:Nat)(js:LN)(g:D->LS->Option LS)(ft:MF4)(fe:MF1):LD->LS->LD->Option (LS×LD)
 | [],M,W5=>aa (M,W5,)
 |b::bs,M,W5=>if Z W5<=16777216 then (e7 (gR g ft fe (iN k js ((M.set pr (.im b)).set w .no))) W5).bind λa=>l5 w pr k js g ft fe bs (M.set pr (.im b)) a else ab
def qf(w pr:Nat)(a:MF4)(e d:MF2)(k:Nat)(js:LN)(g:D->LS->Option LS)(ft:MF4)(fe:MF1)(M:LS):Option Fl:=
 (a M).bind λb=>(d (M.set w .no)).bind λbs=>if b=!bs.isEmpty then (if b then e M else aa []).bind λc=>(l5 w pr k js g ft fe bs M c).map λp=>.nx (p.1.set w (.own p.2)) else ab
variable{G:Gc}{Hf0 H0 Hf H:Hp}{C:St}{M:LS}{v:V}
def au.setAny(h:au G Hf0 H0 Hf H C M):au G Hf0 H0 Hf H (C.set i (aa v)) (M.set i .no):=h.setNew (Ext.refl h.sub) trivial λa p=>(p.calm rfl).elim
variable{w pr:Nat}{js:LN}{fb:MF2}{g:D->LS->Option LS}{ft:MF4}{fe:MF1}{ρ1:LS}
def Ib{k:Nat}(hG:G.K=X.K)(hj:js.Nodup)(hk:∀d M ρ' i,g d M=aa ρ'->k<=i->ρ'[i]?=M[i]?)(E:∀d M ρ',g d M=aa ρ'->Z ρ'=Z M)(L:pr≠w){bs U L1:LD}{W7:jm}{a0:Addr}{r:LVv}
 (st:au G Hf0 H0 Hf H C (M.set w .no))(hw:w<Z M)(ew:C[w]?=aa (aa (.ref a0)))(ha:H a0=aa (.lst r))(r0:ao G Hf U r)(hb:fb (M.set w .no)=aa bs)(fr:bs=[]->au G Hf0 H0 Hf H C (M.set w (.own U)))
 (el:l5 w pr k js g ft fe bs M U=aa (ρ1,L1,))(kq:∀σ' Hf' H',ar Hf Hf'->au G Hf0 H0 Hf' H' σ' (ρ1.set w (.own L1))->W7.nx σ' H'):
  xY (tDI G fb) (ig pr) (jn (oZ k js (xV X.K (cT w)) (tDG G g) (tDT G ft) (tD G fe)) (ig w)) W7 C H:=by
 show(Hf0,H0,Hf,_,bs,st,hb,λJ j H1 Q it=>?_)
 show(λi m σ' H'=>m=Z bs-i/\i<=Z bs/\∃Hf' ρ' W5 a vs,au G Hf0 H0 Hf' H' σ' (ρ'.set w .no)/\w<Z ρ'/\σ'[w]?=aa (aa (.ref a))/\H' a=aa (.lst vs)/\ao G Hf' W5 vs/\ar j Hf'/\l5 w pr k js g ft fe (bs.drop i) ρ' W5=aa _/\(i=Z bs->au G Hf0 H0 Hf' H' σ' (ρ'.set w (.own W5))),
  (Z bs,rfl,cy _,j,M,U,a0,r,st.step Q,hw,ew,Q.h _ _ ha,r0.up Q.f,ar.refl _,el,λe=>(fr (tS.mp e.symm)).step Q),?_)
 rintro i m σ' H' ⟨rfl,hi,Hf',ρ',W5,a,vs,N,hw',A,B,r',s1,b,own⟩;have(it1,it2):=it Hf' H' s1 N.sub i
 by_cases I:i<Z bs
 .have(d,ed,edr):=yX I;have(go,yl):=it1 d ed;rw[edr]at b;unfold l5 at b;split at b
  .rename_i hz;have(L',ec,el2):=be b;show .inr (go,λu c=>Z bs-_=Z bs-_/\i+1<=Z bs/\∃Hf' ρ' W5 a vs,au G Hf0 H0 Hf' c u _/\w<Z ρ'/\u[w]?=aa _/\c a=aa _/\ao G Hf' W5 vs/\ar j Hf'/\l5 w pr k js g ft fe _ ρ' W5=aa _/\_,λu c z=>(Z bs-(i+1),by lia,z),λx c y=>?_);have(v,T,rx):=yl x c y
   have n:au G Hf0 H0 v c (σ'.set pr (aa x)) ((ρ'.set pr (.im d)).set w .no):=by
    have:=(N.step T).setIm (i:=pr) rx;rw[set_comm _ _ L.symm]at this;show this
   have ew2:(σ'.set pr (aa x))[w]?=aa (aa (.ref a)):=by rw[lg L];show A
   show Go hj hk E n (λR q=>(.ref a,ew2,a,rfl,(vs,SqL.of (T.h _ _ B)),?_)) hz ec λl us Y H3 x3 hn hf hl rl=>?_
   .have:=q _ v c (Ext.refl n.sub) (Gm (SqL.of (T.h _ _ B)) (r'.up T.f));rw[hG]at this;show this
   .have p:=n.setOwn (i:=w) (s:=.own L') rfl x3 hn hf (us,hl,rl);rw[set_set]at p;have hsl:w<Z (σ'.set pr (aa x)):=by rw[iC];show(cM.mp A).1
    show(rfl,I,Y,ρ'.set pr _,L',l,us,?_,by rw[iC];show hw',kf hsl,hl,rl,(s1.trans T.f).trans x3.f,el2,λ_=>p);have:=p.setNo (i:=w);rw[set_set]at this;show this
  .nomatch b
 .have ei:i=Z bs:=by lia
  subst ei;rw[drop_eq_nil_of_le (aM _)]at b;cases b;show .inl (it2 rfl,kq σ' Hf' H' (Q.f.trans s1) (own rfl))
variable{fg:MF2}{ft0:MF4}
def RV{k:Nat}{s1 s2:Stmt}{rest:List Stmt}{F:MF3}(hj:js.Nodup)(hk:∀d M ρ' i,g d M=aa ρ'->k<=i->ρ'[i]?=M[i]?)(q:∀d M ρ',g d M=aa ρ'->Z ρ'=Z M)(E:pr≠w)
 (h1:PS X s1 (jn (tIf (tDT (Gx c X) ft0) (tDL (Gx c X) fg) (yd ik)) (ig w)))(h2:PS X s2 (xY (tDI (Gx c X) fb) (ig pr) (jn (oZ k js (xV X.K (cT w)) (tDG (Gx c X) g) (tDT (Gx c X) ft) (tD (Gx c X) fe)) (ig w))))(hr:DSs c X rest F):
  DSs c X (s1::s2::rest) (λM=>if w<Z M then ai (qf w pr ft0 fg fb k js g ft fe) F M else ab):=PSs.imp (uv h1 (uv h2 hr)) λW7 C H q_=>by
 have(Hf0,H0,Hf,M,o,I,B,x):=q_;split at B
 .rename_i Q;have(r,j,B):=be (B);have(b,e2,j):=be j;have(bs,Y,j):=be j;split at j
  .rename_i hb;have(L0,e4,j):=be j;have(p,e5,j):=dS j;subst j;show(Hf0,H0,Hf,M,b,I,e2,λu U y=>?_);have G:w<Z C:=by rw[I.len];show Q
   have fin:∀{v:Hp},ar Hf v->∀σ' Hf' H',ar v Hf'->au _ Hf0 H0 Hf' H' σ' _->tDS _ F W7 σ' H':=λT σ' Hf' H' s1 m=>(Hf0,H0,Hf',_,o,m,B,by
    cases o with
    |nx M=>show λn h A s2 e=>x n h A ((T.trans s1).trans s2) e
    |bk M=>show λn h A s2 e=>x n h A ((T.trans s1).trans s2) e
    |ct M=>show λn h A s2 e=>x n h A ((T.trans s1).trans s2) e
    |rt d=>show x
    |rtO d=>show x
    |rtS d M=>show x
    |rtT t=>show x)
   cases b with
   |true=>
    show(Hf0,H0,u,M,L0,I.step y,e4,λa vs v H2 L ha r=>?_)
    show Ib rfl hj hk q E ((I.step y).step L).setAny Q (kf G) ha r Y (λz=>by rw[z]at hb;nomatch hb) e5 (λσ' Hf' H' s1 m=>fin (y.f.trans L.f) σ' Hf' H' s1 m)
   |false=>
    cases e4;show(cy _,λl N=>?_);have L:Ext u U u (upd U l (.lst [])):=Ext.tmp y.s N;have e:=(I.step y).setOwn (i:=w) (s:=.own []) rfl L N (y.s.free N) ([],ba,.nil);have J:=e.setNo (i:=w);rw[set_set]at J;show Ib rfl hj hk q E J Q (kf G) ba .nil Y (λ_=>e) e5 (λσ' Hf' H' s1 m=>fin y.f σ' Hf' H' s1 m)
  .nomatch j
 .nomatch B
def RW{i k:Nat}(h:i<k):∀d (M ρ':LS) j,ay i d M=aa ρ'->k<=j->ρ'[j]?=M[j]?:=λd M ρ' j e a=>by cases e;show lg (by lia)
def RX:∀d (M ρ':LS),ay i d M=aa ρ'->Z ρ'=Z M:=λd M ρ' e=>by cases e;show iC
variable{o1:O}{R:O->O}
def RY(d:au G Hf0 H0 Hf H C M)(h:aJ i M=aa (o1,R,)):∃o v fp,M[i]?=aa (.deep o)/\C[i]?=aa (aa v)/\OT G Hf H o v fp/\fp.Nodup/\(∀a∈fp,H0 a=ab/\Hf a=ab)/\Foc G Hf H o v fp o1 v fp R:=by
 have main:∀o,M[i]?=aa (.deep o)->(∀v fp,OT G Hf H o v fp->fp.Nodup->Foc G Hf H o v fp o1 v fp R)->∃o v fp,M[i]?=aa (.deep o)/\C[i]?=aa (aa v)/\OT G Hf H o v fp/\fp.Nodup/\(∀a∈fp,H0 a=ab/\Hf a=ab)/\Foc G Hf H o v fp o1 v fp R:=λo es F=>by
  have(v,b,u,fp,c,r,n,z):=d.slot es;subst c;show(o,u,fp,es,b,r,n,z,F u fp r n)
 unfold aJ at h;split at h
 .rename_i l o es;cases h;show main _ es λv fp r n=>Foc.at r n
 .rename_i o _ es;cases h;show main _ es λv fp r n=>Foc.refl r n
 .nomatch h
def RZ{cn f:Str}(g:au G Hf0 H0 Hf H C M)(h:aW cn f (aJ i) M=aa (o1,R,)):∃o v fp v1 f1,M[i]?=aa (.deep o)/\C[i]?=aa (aa v)/\OT G Hf H o v fp/\fp.Nodup/\(∀a∈fp,H0 a=ab/\Hf a=ab)/\Foc G Hf H o v fp o1 v1 f1 R:=by
 have(q,c,h):=be h;have(r,d,h):=dS h;cases h;have(o,v,fp,es,e,rt,n,z,F):=RY g c;have(a,dx,ns,vs,j,f2,_,_,_,b):=F.fld d;show(o,v,fp,j,f2,es,e,rt,n,z,b)
variable{l:Addr}
def au.focFix{o:O}{fp:LAd}{ds:LD}{vs:LVv}(B:au G Hf0 H0 Hf H C M)(es:M[i]?=aa (.deep o))(J:C[i]?=aa (aa v))(r:OT G Hf H o v fp)(n:fp.Nodup)(z:∀a∈fp,H0 a=ab/\Hf a=ab)(F:Foc G Hf H o v fp (.lst (ds.map .fz)) (.ref l) [l] R)(ql:H l=aa (.lst vs))(rd:ao G Hf ds vs):
  au G Hf0 H0 (upd Hf l (.lst vs)) H C (M.set i (.deep (R (.fz (.lst ds))))):=by
 have lf:=F.sub l aA;have N:=(z l lf).2;have m:ar Hf (upd Hf l (.lst vs)):=bQ N;have(fp',Q,mem,nd):=F.back _ H (.fz (.lst ds)) [] m (λb u e _=>e) ((l,vs,rfl,ba,rd.up m),rfl)
 have c:∀a∈fp',a∈fp/\a≠l:=λa ha=>by
  rcases mem a ha with y |⟨y,y'⟩
  .show nomatch y
  .show(y,λe=>y' (by rw[e];show aA))
 have nl:∀j t w,j≠i->M[j]?=aa t->C[j]?=aa _->Holds G Hf H t w l->False:=λj t w hj b A p=>hj (B.dj j i t _ w v l b es A J p (fp,r,lf));show B.re (B.ext.fix (z l lf).1 N ql) (by simp) (λj u t a b=>?_) λj t w a b A p=>?_
 .rcases cU b with⟨e,e',_⟩ |⟨en,b⟩
  .subst e e';rw[J]at a;cases a;show(v,fp',rfl,Q,(nd fR λa ha=>nomatch ha),λx f=>((z x (c x f).1).1,by rw[aN (c x f).2];show(z x (c x f).1).2))
  .have q:=B.at' j u t a b
   cases E:t.isOwn with
   |false=>
    cases t with
    |no=>trivial
    |im d=>have(T,I,h):=q;show(T,I,h.up m)
    |val T=>show q
    |deep o'=>
     have(w,gp,I,h,n2,U):=q;subst I;show(w,gp,rfl,h.up m (ar.refl _),n2,λx f=>((U x f).1,?_));rw[aN (λy=>nl j _ w en b a (gp,h,by rw[<- y];show f))]
     show(U x f).2
    | _=>nomatch E
   |true=>
    have(l2,Y,e3,e4,q2):=q.own E;subst Y;show .ofOwn E (l2,rfl,e3,?_,q2.up m λo' L=>L);rw[aN (λy=>nl j t _ en b a ((Holds.own E).mpr (by rw[y])))];show e4
 .rcases cU b with⟨e,e',_⟩ |⟨_,b⟩
  .subst e e';rw[J]at A;cases A;have(g,h,ha):=p;have:=OT.funM _ _ _ _ Q h;subst this;show(_,es,(fp,r,(c a ha).1))
  .show(t,b,(B.at' j _ t A b).back (λo fp _ r=>r.up m (ar.refl _)) p)
def nN(i:Nat)(cn f:Str)(F:MF3)(M:LS):Option Fl:=(aW cn f (aJ i) M).bind λq=>q.1.items.bind λds=>F (M.set i (.deep (q.2 (.fz (.lst ds)))))
def Ic{F:MF3}(i:Nat)(cn f:Str)(h:DS c X st F):DS c X st (nN i cn f F):=PS.imp h λW7 C H m=>by
 have(Hf0,H0,Hf,M,o,d,a,k):=m;have(q,e,a):=be a;have(ds,g,a):=be a;have(t,v,fp,v1,f1,es,j,rt,n,z,b):=RZ d e;rw[sj g]at b;have(l,vs,fs,rfl,p,B,rfl):=id b.r;have(rd,rfl):=B.unfz;show(Hf0,H0,_,_,o,d.focFix es j rt n z b p rd,a,k.up (bQ (z l (b.sub l aA)).2))
structure Bas(K:aR)(W8:Addr)(m:Str)(f:Addr):Prop where
 sg:W.specialIn K (.ref W8) "__getattribute__"=aa (aa (.builtin "type.__getattribute__"))
 rd:W.readsIn K W8 (.type "type")=ac
 fc:W.findCls K (.ref W8) (.type "type") m=aa (.val (.ref f))
 kp:gq K (.ref f)=ac
variable{W8:Addr}
def R0{U:PNS}{s:ah}{A:ca}{W7:PRS}{m:Str}{Q:Value×LVa->ah->Prop}(I:Inv X U C H s)(b:Bas X.K W8 m f)(h:∀a,Inv X U C H a->Q (.ref f,[],) a):wpAny (model X.prog X.w) A (hX (.ref W8) m pl) Q W7 s:=
 W.method_cls I.kIn b.sg (W.cls_value I.kIn b.rd b.fc rfl (h _ (I.tok _)))
def l6(i:Nat)(m:MTf)(f:Xa):Xe:=λM=>match M[i]? with
 |some (.deep (.at _ _))=>(f M).bind λp=>match p.2[i]? with
  |some (.deep (.at l o))=>(m l p.1 o).map λq=>(q.2,p.2.set i (.deep (.at l q.1)),)
  | _=>ab
 | _=>ab
variable{sp:Sp}{t:TA}
def R1{k:Nat}(l:Gl X x)(hm:X.mg x=aa (.ref W8))(b:Bas X.K W8 fl f)(F:cC X.prog X.w X.K X.mg X.base CX0 k f fd ps sp)(hr:bA k X.A)(j:dZ X.K fd ps [])(ha:PA X (e::es) t)
 (d:autoParam (StE X e es) Zb)(c:autoParam (BkE X pos es) Zb)(a:autoParam (NDb x) Zc)
 (m:autoParam (eval (.Call (.Attribute (.Name x p) fl apos) (e::es) [] pos) X.env=(do
   let ov <- eval (.Name x p) X.env
   gG apos.atName
   let (f,first,) <- eX [ov] (hX ov fl pl)
   jW pos f first (cj pos (aL (e::es) X.env)) (iF pos (iE [] X.env)))) Zb):
  PE X (.Call (.Attribute (.Name x p) fl apos) (e::es) [] pos) (yf sp [] E0 t):=by
 intro U s C H Q I h;show W.methodCall_KW (xP I l hm ?_ a) m;show R0 I b λs1 i=>?_;show W.callWith_K I.ok.mod.kin b.kp (thn (ha pos U s1 C H _ i h) λus s2 (vs,q,g,r,n)=>(g.kIn,(uE F hr j .nil gM g r n))) d c
variable{fa:Xa}{m:MTf}
def R3{Q:VK}(U:∀C H Q,r6 (Gx c X) fa C H Q->t C H Q)(hn:∀M ds ρ',fa M=aa (ds,ρ',)->1+Z ds=Z ps)(q_:tDX (Gx c X) (l6 i m fa) C H Q):yf (iz (Gx c X) ps.length m) [] E0 (jo (cT i) t) C H Q:=by
 have(Hf0,H0,Hf,M,d,ρ',st,b,Y):=q_;unfold l6 at b;split at b
 .rename_i E o0 p;have(pp,A,b):=be b;have(ds,ρ1):=pp;split at b
  .rename_i l o1 e;have(q,J,b):=dS b;cases b;have(u,x,u',fp,L,rt,n,z):=st.slot p;subst L;have(el,rt0):=rt;subst el;show(_,x,U _ _ _ (Hf0,H0,Hf,M,ds,ρ1,st,A,λus Hf' H' f1 st1 r=>?_));change iz _ _ _ ((V.ref E::us)++[]) H' Q E0;rw[bN];have(w,B,w',gp,N,y,n1,z1):=st1.slot e;subst N;rw[x]at B;cases B;have(j,g):=y;cases j;show(Hf',ds,o1,q.1,q.2,E,gp,us,rfl,st1.sub,g,n1,λa ha=>(z1 a ha).2,r,hn _ _ _ A,J,λv h I T G r3 n3 z3 rv=>Y v h I (f1.trans G.f) (st1.treeBack e x (rfl,g) G (rfl,r3) n3 z3) rv)
  .nomatch b
 .nomatch b
section
variable{k:Nat}{o:Expr}
def R4(n:PE X o (cT i))(l:Gl X x)(hm:X.mg x=aa (.ref W8))(b:Bas X.K W8 fl f)(F:cC X.prog X.w X.K X.mg X.base CX0 k f fd ps (iz (Gx c X) ps.length m))(hr:bA k X.A)(j:dZ X.K fd ps [])(ha:DAX c X (e::es) fa)
 (u:autoParam (Z (e::es)+1=Z ps) Zb)(a:autoParam (aL (o::e::es) X.env=(af,eval o X.env,)::aL (e::es) X.env) Zb)(g:autoParam ((cj pos (aL (e::es) X.env)).any (·.1)=af) Zb)(d:autoParam (NDb x) Zc)
 (q:autoParam (eval (.Call (.Attribute (.Name x p) fl apos) (o::e::es) [] pos) X.env=(do
   let ov <- eval (.Name x p) X.env
   gG apos.atName
   let (f,first,) <- eX [ov] (hX ov fl pl)
   jW pos f first (cj pos (aL (o::e::es) X.env)) (iF pos (iE [] X.env)))) Zb):
  DX c X (.Call (.Attribute (.Name x p) fl apos) (o::e::es) [] pos) (l6 i m fa):=PE.imp (R1 l hm b F hr j (eG n ha.pa a) a g d q) λC H Q r=>R3 (λ_ _ _ h=>h) (λM ds ρ' h=>by have:=ha.len M ds ρ' h;lia) r
end
section
variable{k:Nat}
def nO(i:Nat)(cn fl:Str)(f:MF1)(M:LS):Option Fl:=match M[i]? with
 |some (.deep (.at l (.ins c' ns os)))=>if c'=cn/\Z ns<1000 then (aV fl ns).bind λk=>match os[k]? with
  |some (.fz (.int a))=>match f M with
   |some (.int b)=>aa (.nx (M.set i (.deep (.at l (.ins c' ns (os.set k (.fz (.int (a+b)))))))))
   | _=>ab
  | _=>ab else ab
 | _=>ab
end
variable{g:MF1}
def R5{o:Expr}{u:Pos}(cn:Str)(hc:Cls X.K (c cn))(hn:cP X.K (c cn) fl)(ho:PE X o (cT i))(he:DE c X e g):DS c X (.AugAssign (.Attribute o fl u) .Add e pos) (nO i cn fl g):=PS.imp (MJ ho he ML) λW7 C H q_=>by
 have(Hf0,H0,Hf,M,o,Q,d,kq):=q_;unfold nO at d;split at d
 .rename_i l A ns os es;split at d
  .rename_i J;have(rfl,hlt):=J;have(k,U,d):=be d;split at d
   .rename_i a eo;split at d
    .rename_i b eb;cases d;have(v,T,v',fp,e3,rt,n,z):=Q.slot es;subst e3;have F:=Foc.at rt n;have(el,p,dx,vs,fs,ep,L,hz,B,E):=id rt;subst el;cases ep;subst E;have(na,N):=b9.mp n;have(vk,fk,G,rk,_,sb,bk):=B.foc N eo;show(_,T,_,c A,dx,ns.zip vs,vk,rfl,L,hc,hn,(zS vs U).trans G,Hf0,H0,Hf,M,_,Q,eb,λv2 r x m r1=>(a,b,rk.1,r1,?_));show(dx,ns.zip vs,m.h _ _ L,by rw[ox];lia,kq C r _ m.f ?_);have F1:=F.up m.f m.h;have keep:∀q w,q≠l->x q=aa w->upd x l (.ins (c A) dx (c9 fl (.int (a+b)) (ns.zip vs))) q=aa w:=λq w j e=>by rw[aN j];show e
     have (I,r',Y,n'):=bk r (upd x l (.ins (c A) dx (c9 fl (.int (a + b)) (ns.zip vs)))) (.fz (.int (a + b))) (.int (a + b)) [] m.f (λq w j hm _=>by
      show keep q w (λy=>?_) (m.h _ _ j);subst y;simp only[L]at j;cases j
      rcases hm with hm |hm
      .nomatch hm
      .show na hm) (rfl,rfl)
     show Q.foc es T (rt.up m.f m.h) m F1 (λq w j hn=>keep q w (λy=>hn (by rw[y];show aA)) j) (l,dx,vs.set k (.int (a+b)),I,rfl,by rw[ba,zX hz U],by simp[hz],r',rfl) (b9.mpr ⟨λy=>?_,n' fR λq j=>nomatch j⟩) λq j=>?_
     .rcases Y l y with w |⟨w,_⟩
      .nomatch w
      .show na w
     .rcases a9.mp j with y |y
      .rw[y];show .inl aA
      .rcases Y q y with w |⟨w,_⟩
       .nomatch w
       .show .inl (bj _ w)
    .nomatch d
   .nomatch d
  .nomatch d
 .nomatch d
def sn(i:Nat)(f:MF1)(M:LS):Option Fl:=match M[i]? with
 |some (.im (.int a))=>match f M with
  |some (.int b)=>aa (.nx (M.set i (.im (.int (a-b)))))
  | _=>ab
 | _=>ab
def R6(i:Nat){h:Pos}(y:X.N.Nodup)(z:DE c X e g)(hi:autoParam (X.N[i]?=aa x) Zb)(B:autoParam (Loc X.env.scope x) Zf)(A:autoParam (LcF X x) Zg):
  DS c X (.AugAssign (.Name x h) .Sub e pos) (sn i g):=PS.imp (EX y hi B z LR A) λW7 C H E=>by
 have(Hf0,H0,Hf,M,o,l,d,k):=E;unfold sn at d;split at d
 .rename_i a es;split at d
  .rename_i b n;cases d;have(v,p,w,q,j):=l.slot es;subst q;show(_,p,Hf0,H0,Hf,M,_,l,n,λu Hf' H' m r=>(a,b,j,r,k _ Hf' H' m.f ((l.step m).setIm rfl)))
  .nomatch d
 .nomatch d
def R7{f:MF1}(h:PE X e (tBM X.K "list" (zP (Gx c X)) (tDB (Gx c X) f) (jo (tD (Gx c X) g) ik))):DE c X e (m2 gV f g):=PE.imp h λC H Q J=>by
 have(Hf0,H0,Hf,M,d,st,I,k):=J;have(x,y,E,G,m):=m6 I
 obtain⟨ds,i,rfl,rfl⟩:∃ds i,x=.lst ds/\d=.int i:=by
  unfold gV at m
  grind
 show(Hf0,H0,Hf,M,_,st,E,λv b U p n=>?_);have(l,vs,el,q,B):=id n;subst el;show(.inl (rfl,_,SqL.of q),Hf0,H0,b,M,y,st.step p,G,λu j r a L=>(r,.lst ds,y,_,u,rfl,ar.refl _,n.up a.h,L.up a.s,m,λw A z T N=>k w j z ((p.trans a).trans (Ext.grow a.s T.h)) N))
section
variable{k:Nat}
def sr(x y:D):OD:=match x with
 |.dT ks ds=>(kX y).bind λk=>(aV k ks).bind λj=>ds[j]?
 | _=>ab
end
def R8{o:Expr}{f:MF1}(Y:X.A.units+1<cLine)(T:DE c X o f)(N:DE c X e g)(U:autoParam (rm e) Zj):DE c X (.Subscript o e pos) (m2 sr f g):=PE.imp (yw Y T N U) λC H Q q_=>by
 have(Hf0,H0,Hf,M,d,st,L,kq):=q_;have(x,y,z,E,h):=m6 L;unfold sr at h;split at h
 .rename_i ks ds;have(k,G,h):=be h;have(j,I,h):=be h;show(Hf0,H0,Hf,M,_,st,z,λv l H1 r r1=>(Hf0,H0,l,M,y,st.step r,E,λu m w i r2=>?_));have(b,J,tk):=sh G r2;have(a,vs,rfl,ha,hz,B):=r1;subst J;have(q,n,p):=B.get h;show(a,q,rfl,?_,kq q m w (r.trans i) (p.up i.f));rw[<- n,<- p8 vs I];show fY.t (i.s _ _ (i.f _ _ ha)) (tk.same i.s)
 .nomatch h
structure z4(K:aR)(x qual:Str)(st:Stmt)(f:Addr)(fd:cS):Prop where
 ex:∃(oc:Value) (od:Option Addr) (dV kV doc pm:Value) (an:Option Addr) (cdv ct:Value) (osl:Array (Option Value)),
  fd=ji x qual (kE st) (fX st) (aw st) dV kV doc pm an cdv ct/\K.lookup f=aa (oc,od,.func fd,osl)/\W.codeIn K cdv qual=ac
 kp:gq K (.ref f)=ac
def R9{oc:Value}{od an:Option Addr}{osl:Array (Option Value)}{dV kV doc pm cdv ct:Value}(l:K.lookup f=aa (oc,od,.func (ji x qual (kE st) (fX st) (aw st) dV kV doc pm an cdv ct),osl))
 (c:W.codeIn K cdv qual=ac)(k:gq K (.ref f)=ac):z4 K x qual st f (ji x qual (kE st) (fX st) (aw st) dV kV doc pm an cdv ct):=((oc,od,dV,kV,doc,pm,an,cdv,ct,osl,rfl,l,c),k)
variable{n:Nat}
def Ie{ds:LVa}{T:Addr}{o:Obj}{items:Array Value}(l:K.lookup T=aa o)(d:o.data=.seq items n)(hd:fd.defaults=.ref T)
 (h:∀us:LVa,Z (us++ds)=Z ps->∃k,bindArgs fd (us,[])=seqItems? fd.defaults >>= k/\k (aa items)=pure (ps.zip (us++ds))):dZ K fd ps ds:=λs us X c=>by
 have(k,a,b):=h us c;show W.binds_K X hd l d a b
variable{w:World}
def Sa{k:Nat}{F:MF3}(u:z4 K x qual st f fd)(S:aB N ps (aw st))
 (h:∀(cdv:Value) (A:ca) (outer:List Env) (s:ah) (H:Hp) (W7:XK),bA k (A.deeper (gh qual (aw st) s.heap.objs.size f cdv))->DSs c (iJ CX0 P w K mg base N qual (aw st) f cdv A outer s H W7).nox (fX st) F)(j:autoParam (Z N=n_) Zb):
  cC P w K mg base CX0 (k+1) f fd ps (spD (K,c) ps.length (aQ n_ F)):=by
 subst j;have(oc,od,dV,kV,doc,pm,an,cdv,ct,osl,rfl,y,i):=u.ex;show Fo y i S (λvs H Q W7 m=>by have(Hf,ds,d,q,r,a,_):=m;rw[<- r.length];show a) λA outer s H vs Q W7 hr m=>?_;have(Hf,ds,d,q,r,a,e,b):=m;show(_,(h cdv A outer s H W7 hr).nox,?_);unfold aQ at e
 cases g:F _ with
 |none=>rw[g]at e;nomatch e
 |some o=>
  rw[g]at e;show(Hf,H,Hf,_,o,au.start q r,g,?_)
  cases o with
  |rt d=>cases e;show b
  |rtO B=>cases e;show λl vs Hf' H' x hn p a r=>b _ _ H' (x.fix hn p a) (l,vs,rfl,ba,r.up (bQ p))
  |nx M=>cases e;show λσ' Hf' H' _ n=>b _ Hf' H' n.ext rfl
  |rtS d M=>cases e;show λv σ' Hf' H' n r=>b v Hf' H' n.ext r
  | _=>nomatch e
def It2(lo:Int)(n:Nat):It:=(λi _=>i<n,λi H x H'=>H'=H/\x=.int (lo+i*2),λi _=>n<=i)
variable{tg:Expr}
def Sb(it:Addr)(lo:Int)(n:Nat):jX P w K tg (It2 lo n) [it] it (λi h=>IsRangeIter h it (lo+(i:Nat)*2) ((n:Int)-(i:Nat)) 2) where
 mem:=bq.mpr rfl
 obj:=λi h st b hb=>by
  cases bq.mp hb
  show⟨_,st,λv z=>by
   have z':Data.fields _=Data.cell v:=z;cases z'⟩
 keep:=λi h h' st k=>k it (bq.mpr rfl) _ st
 item:=by
  intro X eP ew eK cm i U s C H W7 I hf st hg;subst eP ew eK;have(f0,f1,f2,f3,f4,f5):=hf it (bq.mpr rfl);have W:=Walks.range (prog:=X.prog) (w:=X.w) (I.ok.hd cm) it lo 2 n;show W.item i s _ _ hg st λv h' tk hv dd kk=>?_;have(t,rfl):=hv
  have I1:Inv X U C H {s with heap:=h',toks:=tk}:=I.turned (λb o hb e=>kk b o (by simpa using hb) e) f0 f1 f3 f4 f5
  show(_,rfl,qZ (s:={s with heap:=h',toks:=tk}) (n:="range_iterator") dd rfl rfl (by decide) (.int (lo+i*2),H,I1,(t,?_),(rfl,rfl),dd,λb hb=>(hf b hb).1))
  rfl
 done:=by
  intro X eP ew eK cm i U s C H W7 I hf st hg;subst eP ew eK;have(f0,f1,f2,f3,f4,f5):=hf it (bq.mpr rfl);show wpAny_pyNext_range_end (I.ok.hd cm) st (by have:n<=i:=hg;lia) λh' eb=>(rfl,I.turned (t':=s.toks) (λb o hb e=>eb b o hb e) f0 f1 f3 f4 f5)
 self:=λ_ _ _ _ _ st h=>wpAny_pyIter_rangeiter st h
def Ig(a b:Int):ui a b 2=S ((b-a+1) / 2):=by
 unfold ui;rw[if_pos (by decide)]
 split <;> lia
def Sc{a b:Int}(ha:-(2 ^ 61)<=a)(c:a<2 ^ 61)(e:-(2 ^ 61)<=b)(d:b<2 ^ 61):EG a b 2=ac:=by
 unfold EG;rw[Ig];simp only[d7.Range.rangeFitsLong,ce,jQ,decide_eq_true_eq,beq_iff_eq,show((2:Int)>0) by decide,if_true];lia
variable{a b d:Expr}
def Sd{l:TA}(x:Gl X "range")(hm:X.mg "range"=ab)(ha:PA X [a,b,d] l)(y:autoParam (aL [a,b,d] X.env=[(af,eval a X.env,),(af,eval b X.env,),(af,eval d X.env,)]) Zb)(c:autoParam (aL [b,d] X.env=[(af,eval b X.env,),(af,eval d X.env,)]) Zb):
  PI X tg (.Call (.Name "range" p) [a,b,d] [] pos) (λC H R=>l C H λvs f=>∃i j:Int,vs=[.int i,.int j,.int 2]/\(-(2 ^ 61)<=i/\i<2 ^ 61/\-(2 ^ 61)<=j/\j<2 ^ 61)/\R (It2 i (S ((j-i+1) / 2))) f):=by
 intro U s C H R I h;show Call_ (gJ I x hm boot_range (jS (thn (ha pos U s C H _ I h) λus s1 (vs,f,m,A,z)=>?_) (by rw[y,c]) (by rw[c];rfl)));have(i,j,rfl,(n,r,u,v),q):=z
 cases A with
 |cons M B=>
  cases B with
  |cons N E=>
   cases E with
   |cons Q G=>
    cases G;have(t1,rfl):=M;have(J,rfl):=N;have(L,rfl):=Q;show PySem.call_range_3 (by decide) ?_ (.inl (PyProof.noPylong_small (by decide)));show wpAny_pyIter_range (IsRange.new ..) (Sc n r u v) ?_
    have g:Inv X U C f {s1 with heap:=s1.heap.push {cls:=.type "range",data:=.fields #[.int i t1,.int j J,.int 2 L]}}:=m.kept (t':=s1.toks) λb o e=>bz _ e
    show(_,[_],_,_,f,rfl,g.kept (t':=s1.toks) λb o e=>bz _ e,Sb _ i (S ((j-i+1) / 2)),?_,λb w=>?_,q)
    .change IsRangeIter _ _ (i+((0:Nat):Int)*2) (((S ((j-i+1) / 2):Nat):Int)-((0:Nat):Int)) 2;rw[show i+((0:Nat):Int)*2=i by lia,show(((((j-i+1) / 2).toNat:Nat):Int)-((0:Nat):Int))=ui i j 2 by rw[Ig];lia];show cO _ rfl
    .cases bq.mp w;show g.fpOk Nat.le.refl (g.hok.fresh Nat.le.refl)
def vA(lo:Int)(n:Nat):LD:=(bw n).map λ(i:Nat)=>.int (lo+i*2)
def k5(f:MF2)(M:LS):OLD:=(f M).bind λds=>match ds with
 | [.int i,.int j,.int k]=>if k=2/\(-(2 ^ 61)<=i/\i<2 ^ 61/\-(2 ^ 61)<=j/\j<2 ^ 61) then aa (vA i (S ((j-i+1) / 2))) else ab
 | _=>ab
def Sf{lo:Int}:px G Hf (It2 lo n) (vA lo n):=λHf' H' f s i=>by
 show(λd a=>?_,λb=>?_)
 .unfold vA at a;rw[cx]at a
  cases e:(bw n)[i]? with
  |none=>rw[e]at a;cases a
  |some j=>
   rw[e]at a;have(hi,c):=cM.mp e;rw[bU]at hi;rw[xk]at c;subst c;cases a;show(hi,λx h (g,y)=>by subst g;show(Hf',Ext.refl s,y))
 .unfold vA at b;rw[aq,bU]at b;show qQ b.symm
def Ih{f:MF2}(m:Gl X "range")(hm:X.mg "range"=ab)(ha:DA c X [a,b,d] f)(n:autoParam (aL [a,b,d] X.env=[(af,eval a X.env,),(af,eval b X.env,),(af,eval d X.env,)]) Zb)(l:autoParam (aL [b,d] X.env=[(af,eval b X.env,),(af,eval d X.env,)]) Zb):DI c X tg (.Call (.Name "range" p) [a,b,d] [] pos) (k5 f):=
 PI.imp (Sd m hm ha.pa n l) λC H R q=>by
  have(Hf0,H0,Hf,M,B,st,e,k):=q;unfold k5 at e
  cases g:f M with
  |none=>rw[g]at e;cases e
  |some ds=>
   rw[g,az]at e;split at e
   .rename_i i j kk;split at e
    .rename_i h;cases e;have(rfl,h):=h;show(Hf0,H0,Hf,M,_,st,g,λvs Hf' H' x r=>?_);have(v1,_,rfl,u,z,_,rfl,v,A,_,rfl,w,y):=r;cases (show _=[]from y);cases (show v1=V.int i from u);cases (show z=V.int j from v);cases (show A=V.int 2 from w);show(i,j,rfl,h,k _ Hf' H' x Sf)
    .cases e
   .cases e
end L2
namespace N_k57
open List
open PySem PySem.Spec PyProof.Rows L2
local macro_rules | `(tactic| walk_at "sc")=>`(tactic| exact ⟨rfl,rfl,rfl,by decide +kernel,rfl,by decide +kernel,by decide +kernel⟩)
def top(i:Nat):Stmt:=PySem.Challenge.pw_standstill_k57_side_by_side.main.body.getD i (.Pass (0,0,0,0))
nonrec def s_1:=top 2
nonrec def z5:=top 3
nonrec def z6:=top 10
nonrec def z7:=top 11
nonrec def z8:=top 12
nonrec def z9:=top 13
nonrec def Aa:=top 14
nonrec def Ab:=top 15
nonrec def Ac:=top 16
nonrec def Ad:=top 17
nonrec def Ae:=top 18
nonrec def s_7:=top 19
nonrec def s_2:=top 21
nonrec def Ag:=top 22
nonrec def Ah:=top 24
nonrec def Ai:=top 25
nonrec def s_5:=top 26
nonrec def s_0:=top 29
nonrec def Aj:=top 30
nonrec def Ak:=top 31
nonrec def Al:=top 34
nonrec def s_6:=top 35
nonrec def Am:=top 36
nonrec def An:=top 37
nonrec def Ao:=top 38
nonrec def Ap:=top 39
nonrec def Aq:=top 40
nonrec def Ar:=top 41
nonrec def As:=top 42
nonrec def At:=top 43
nonrec def Au:=top 44
nonrec def Av:=top 45
nonrec def s_3:=top 46
nonrec def Aw:=bu (top 6) 0
nonrec def Ax:=bu (top 6) 2
nonrec def Ay:=bu (top 6) 3
nonrec def Az:=bu (top 6) 5
nonrec def AA:=bu (top 6) 6
nonrec def AB:=bu (top 6) 7
nonrec def AC:=bu (top 6) 8
nonrec def AD:=bu (top 6) 9
nonrec def AE:=bu (top 7) 0
nonrec def AF:=bu (top 7) 2
nonrec def AG:=bu (top 7) 3
nonrec def AH:=bu (top 7) 5
nonrec def AI:=bu (top 7) 6
nonrec def AJ:=bu (top 7) 7
nonrec def AK:=bu (top 7) 8
nonrec def AL:=bu (top 7) 9
nonrec def AM:=bu (top 8) 0
nonrec def AN:=bu (top 8) 2
nonrec def AO:=bu (top 8) 3
nonrec def AQ:=bu (top 8) 5
nonrec def AR:=bu (top 8) 6
nonrec def AS:=bu (top 8) 7
nonrec def AT:=bu (top 8) 8
nonrec def AU:=bu (top 8) 9
nonrec def AV:=bu (top 9) 0
nonrec def AW:=bu (top 9) 2
nonrec def AX:=bu (top 9) 3
nonrec def AY:=bu (top 9) 5
nonrec def AZ:=bu (top 9) 6
nonrec def A0:=bu (top 9) 7
nonrec def A1:=bu (top 9) 8
nonrec def A3:=bu (top 9) 9
nonrec def A4:=bu (top 32) 0
nonrec def s_8:=bu (top 32) 1
nonrec def A5:=bu (top 32) 2
nonrec def A6:=bu (top 32) 3
nonrec def A7:=bu (top 32) 4
nonrec def s_4:=bu (top 32) 5
nonrec def s_9:=bu (top 32) 6
nonrec def A8:=bu (top 27) 1
nonrec def A9:=bu (top 27) 2
nonrec def Ba:=bu (top 27) 3
nonrec def Bb:=bu (top 27) 4
nonrec def Bc:=bu (top 27) 5
nonrec def Bd:=bu (top 27) 6
nonrec def Be:=bu (top 27) 7
nonrec def Bf:=bu (top 27) 8
nonrec def Bg:=bu (top 27) 9
nonrec def Bh:=bu (top 27) 10
nonrec def Bi:=bu (top 27) 11
nonrec def Bj:=bu (top 27) 12
nonrec def Bk:=bu (top 27) 0
def qg:aB ["many","some","listed","thing"] ["many","some"] (aw s_1):=by walk_at "sc"
def Sg:aB ["truths"] ["truths"] (aw z5):=by walk_at "sc"
def Ii:aB ["told","word"] ["told"] (aw z6):=by walk_at "sc"
def Sh:aB ["items"] ["items"] (aw z7):=by walk_at "sc"
def Si:aB ["items","entries"] ["items","entries"] (aw z8):=by walk_at "sc"
def Sj:aB ["items","sheet"] ["items","sheet"] (aw z9):=by walk_at "sc"
def Sk:aB ["items"] ["items"] (aw Aa):=by walk_at "sc"
def Sm:aB ["items","without"] ["items","without"] (aw Ab):=by walk_at "sc"
def Ij:aB ["items","sheet","lack","weights"] ["items","sheet","lack"] (aw Ac):=by walk_at "sc"
def Bl:aB ["items","weights","thing","worth"] ["items"] (aw Ad):=by walk_at "sc"
def Sn:aB ["things","sheet","truth"] ["things","sheet","truth"] (aw Ae):=by walk_at "sc"
def vB:aB ["items","things","lack","weights","taken","left","thing","weight"] ["items","things","lack"] (aw s_7):=by walk_at "sc"
def Ik:aB ["rule"] ["rule"] (aw s_2):=by walk_at "sc"
def Il:aB ["rule","guard"] ["rule"] (aw Ag):=by walk_at "sc"
def So:aB ["bar"] ["bar"] (aw Ah):=by walk_at "sc"
def Im:aB ["guard","sheet","pairs","part","tips"] ["guard","sheet"] (aw Ai):=by walk_at "sc"
def Io:aB ["body","sheet","without","part"] ["body","sheet","without"] (aw s_5):=by walk_at "sc"
def ss:aB ["plain","most","seeking","firsts","world"] ["plain","most"] (aw s_0):=by walk_at "sc"
def Sr:aB ["why"] ["why"] (aw Aj):=by walk_at "sc"
def Ss:aB ["order","needed"] ["order","needed"] (aw Ak):=by walk_at "sc"
def Su:aB ["_law_script","_law_k"] ["_law_script","_law_k"] (aw Al):=by walk_at "sc"
def Ip:aB ["_law_cell","_law_k","_law_prime","_law_once"] ["_law_cell","_law_k"] (aw s_6):=by walk_at "sc"
def Iq:aB ["_law_cell","_law_k","_law_many","_law_items_here","_law_j","_law_at","_law_worth"] ["_law_cell","_law_k","_law_many"] (aw Am):=by walk_at "sc"
def Ir:aB ["_law_cell","_law_k","_law_many","_law_sort","_law_items_here","_law_bound"] ["_law_cell","_law_k","_law_many"] (aw An):=by walk_at "sc"
def Bm:aB ["_law_cell","_law_many","_law_word","_law_size","_law_parts"] ["_law_cell","_law_many"] (aw Ao):=by walk_at "sc"
def Iu:aB ["_law_cell","_law_many","_law_rules","_law_k"] ["_law_cell","_law_many"] (aw Ap):=by walk_at "sc"
def Iv:aB ["_law_script","_law_top","_law_head","_law_many","_law_rules","_law_cell"] ["_law_script","_law_top"] (aw Aq):=by walk_at "sc"
def Sv:aB ["_law_part_here"] ["_law_part_here"] (aw Ar):=by walk_at "sc"
def Iw:aB ["_law_plain_here","_law_rules","_law_word","_law_head","_law_parts"] ["_law_plain_here"] (aw As):=by walk_at "sc"
def Sw:aB ["_law_part_here","_law_by"] ["_law_part_here","_law_by"] (aw At):=by walk_at "sc"
def Ix:aB ["_law_plain_here","_law_by","_law_rules","_law_word","_law_head","_law_parts","_law_at"] ["_law_plain_here","_law_by"] (aw Au):=by walk_at "sc"
def Bo:aB ["_law_ones","_law_others","_law_way","_law_rules","_law_k"] ["_law_ones","_law_others","_law_way"] (aw Av):=by walk_at "sc"
def vC:aB ["_law_script","_law_one","_law_other","_law_most","_law_ones","_law_others","_law_rules","_law_found","_law_due","_law_world","_law_beside"] ["_law_script"] (aw s_3):=by walk_at "sc"
def Sx:aB ["self","thing"] ["self","thing"] (aw Aw):=by walk_at "sc"
def Sy:aB ["self"] ["self"] (aw Ax):=by walk_at "sc"
def Sz:aB ["self"] ["self"] (aw Ay):=by walk_at "sc"
def SA:aB ["self","sheet"] ["self","sheet"] (aw Az):=by walk_at "sc"
def SB:aB ["self","sheet","order"] ["self","sheet","order"] (aw AA):=by walk_at "sc"
def SC:aB ["self","sheet"] ["self","sheet"] (aw AB):=by walk_at "sc"
def SD:aB ["self","sheet","without"] ["self","sheet","without"] (aw AC):=by walk_at "sc"
def SE:aB ["self","sheet","without","order"] ["self","sheet","without","order"] (aw AD):=by walk_at "sc"
def SF:aB ["self","thing"] ["self","thing"] (aw AE):=by walk_at "sc"
def SG:aB ["self"] ["self"] (aw AF):=by walk_at "sc"
def SH:aB ["self"] ["self"] (aw AG):=by walk_at "sc"
def SI:aB ["self","sheet"] ["self","sheet"] (aw AH):=by walk_at "sc"
def SJ:aB ["self","sheet","order"] ["self","sheet","order"] (aw AI):=by walk_at "sc"
def SK:aB ["self","sheet"] ["self","sheet"] (aw AJ):=by walk_at "sc"
def SL:aB ["self","sheet","without"] ["self","sheet","without"] (aw AK):=by walk_at "sc"
def SM:aB ["self","sheet","without","order"] ["self","sheet","without","order"] (aw AL):=by walk_at "sc"
def SN:aB ["self","bound","items"] ["self","bound","items"] (aw AM):=by walk_at "sc"
def SO:aB ["self"] ["self"] (aw AN):=by walk_at "sc"
def SQ:aB ["self"] ["self"] (aw AO):=by walk_at "sc"
def SR:aB ["self","sheet"] ["self","sheet"] (aw AQ):=by walk_at "sc"
def SS:aB ["self","sheet","order"] ["self","sheet","order"] (aw AR):=by walk_at "sc"
def Iy:aB ["self","sheet","lack"] ["self","sheet"] (aw AS):=by walk_at "sc"
def SU:aB ["self","sheet","without"] ["self","sheet","without"] (aw AT):=by walk_at "sc"
def Iz:aB ["self","sheet","without","order","left"] ["self","sheet","without","order"] (aw AU):=by walk_at "sc"
def SV:aB ["self","bound","items"] ["self","bound","items"] (aw AV):=by walk_at "sc"
def SW:aB ["self"] ["self"] (aw AW):=by walk_at "sc"
def SX:aB ["self"] ["self"] (aw AX):=by walk_at "sc"
def SY:aB ["self","sheet"] ["self","sheet"] (aw AY):=by walk_at "sc"
def SZ:aB ["self","sheet","order"] ["self","sheet","order"] (aw AZ):=by walk_at "sc"
def IA:aB ["self","sheet","lack"] ["self","sheet"] (aw A0):=by walk_at "sc"
def S0:aB ["self","sheet","without"] ["self","sheet","without"] (aw A1):=by walk_at "sc"
def S3:aB ["self","sheet","without","order"] ["self","sheet","without","order"] (aw A3):=by walk_at "sc"
def S4:aB ["self","plain"] ["self","plain"] (aw A4):=by walk_at "sc"
def Bp:aB ["self","why","world"] ["self"] (aw s_8):=by walk_at "sc"
def IB:aB ["self","why","line"] ["self","why"] (aw A5):=by walk_at "sc"
def Bq:aB ["self","bar","places","choices"] ["self","bar"] (aw A6):=by walk_at "sc"
def vE:aB ["self","why","sheet","pair","cause","order","needed","bar","done","thing","ground"] ["self","why"] (aw A7):=by walk_at "sc"
def IC:aB ["self","sheet","why","order","things","part"] ["self","sheet","why","order"] (aw s_4):=by walk_at "sc"
def Br:aB ["self","sheet","group","order","without","things","head","body"] ["self","sheet","group","order"] (aw s_9):=by walk_at "sc"
def ID:aB ["self","why","guard","part","thing"] ["self","why","guard"] (aw A8):=by walk_at "sc"
def IE:aB ["self","bar","why"] ["self","bar"] (aw A9):=by walk_at "sc"
def sw:aB ["self","bar","wider","pair","why"] ["self","bar"] (aw Ba):=by walk_at "sc"
def S5:aB ["self","thing","truth","why"] ["self","thing","truth","why"] (aw Bb):=by walk_at "sc"
def IF:aB ["self","many","pair","why"] ["self","many"] (aw Bc):=by walk_at "sc"
def IG:aB ["self","going","why"] ["self"] (aw Bd):=by walk_at "sc"
def vF:aB ["self","why","pairs","thing","truth"] ["self"] (aw Be):=by walk_at "sc"
def Bs:aB ["self","without","thing","things","is_loose"] ["self"] (aw Bf):=by walk_at "sc"
def vG:aB ["self","without","used","rest","going","before","unused","maker"] ["self"] (aw Bg):=by walk_at "sc"
def Bt:aB ["self","thing","without","found","place","part"] ["self","thing","without"] (aw Bh):=by walk_at "sc"
def S6:aB ["self","thing","without"] ["self","thing","without"] (aw Bi):=by walk_at "sc"
def S7:aB ["self","part","without"] ["self","part","without"] (aw Bj):=by walk_at "sc"
def IH:aB ["self","plain","bars","sheet","rule","number","bar"] ["self","plain","bars","sheet"] (aw Bk):=by walk_at "sc"
set_option genInjectivity false
set_option genSizeOf false
structure DfX(K:aR)(mg:MGT)(x:Str)(st:Stmt)(ps:LSt)(e:Addr×cS):Prop where
 F:z4 K x x st e.1 e.2
 b:dZ K e.2 ps []
 g:mg x=aa (.ref e.1)
variable{P:ci}{w:World}{K:aR}{mg:MGT}{base:Heap}{x:Str}{st:Stmt}{ps:LSt}
def DfX.pk{CX:CXT}{k:Nat}{e:Addr×cS}{sp:Sp}(W7:DfX K mg x st ps e)(o:cC P w K mg base CX k e.1 e.2 ps sp):Pk P w K mg base CX k x e ps sp:=(o,W7.g,W7.F.kp,W7.b)
structure Db(K:aR)(x q:Str)(st:Stmt)(ps:LSt)(e:Addr×cS):Prop where
 F:Fun K x q st e.1 e.2
 b:dZ K e.2 ps []
def Db.mk2{q:Str}{f:Addr}{fd:cS}(F:Fun K x q st f fd)(b:autoParam (uI x q st ps) Zk):Db K x q st ps (f,fd,):=(F,F.binds b)
structure Wa where
(e_1 e_20 e_34 e_35 e_21 e_14 e_36 e_37 e_22 e_15 e_16 e_7 e_2 e_23 e_49 e_72 e_5 e_0 e_24 e_38 e_25 e_6 e_39 e_26 e_27 e_28 e_11 e_50 e_17 e_40 e_41 e_18 e_3 e_68 e_42 e_51 e_52 e_53 e_54 e_29 e_55 e_69 e_43 e_56 e_57 e_58 e_59 e_30 e_60 e_70 e_44 e_61 e_62 e_63 e_45 e_31 e_46 e_71 e_47 e_64 e_65 e_66 e_48 e_32 e_67 e_12 e_8 e_13 e_33 e_19 e_4 e_9 h6 il h7 kF ii j0 h8 g5 hY j3 h9 jl e_10:Addr×cS)
 (cl:Str->Addr)
 (C_Spreading:Addr)
structure Wd(K:aR)(mg:MGT)(a:Wa):Prop where
 e_1:Df K mg "marks" s_1 ["many","some"] a.e_1
 e_20:Df K mg "numbers" z5 ["truths"] a.e_20
 e_34:Df K mg "part_of" z6 ["told"] a.e_34
 e_35:Df K mg "things_of" z7 ["items"] a.e_35
 e_21:Df K mg "worth_in" z8 ["items","entries"] a.e_21
 e_14:Df K mg "worth_not_out" z9 ["items","sheet"] a.e_14
 e_36:Df K mg "worth_of" Aa ["items"] a.e_36
 e_37:Df K mg "outside" Ab ["items","without"] a.e_37
 e_22:Df K mg "heavy" Ac ["items","sheet","lack"] a.e_22
 e_15:Df K mg "weights_of" Ad ["items"] a.e_15
 e_16:Df K mg "with_entry" Ae ["things","sheet","truth"] a.e_16
 e_7:Df K mg "enough" s_7 ["items","things","lack"] a.e_7
 e_2:Df K mg "body_of" s_2 ["rule"] a.e_2
 e_23:Df K mg "guard_of" Ag ["rule"] a.e_23
 e_49:Df K mg "guard_of_bar" Ah ["bar"] a.e_49
 e_72:Df K mg "pressed_by" Ai ["guard","sheet"] a.e_72
 e_5:Df K mg "lost_part" s_5 ["body","sheet","without"] a.e_5
 e_0:DfX K mg "worlds" s_0 ["plain","most"] a.e_0
 e_24:Df K mg "own_why" Aj ["why"] a.e_24
 e_38:Df K mg "needed_first" Ak ["order","needed"] a.e_38
 e_25:Df K mg "_law_cell_at" Al ["_law_script","_law_k"] a.e_25
 e_6:Df K mg "_law_mixed" s_6 ["_law_cell","_law_k"] a.e_6
 e_39:Df K mg "_law_items" Am ["_law_cell","_law_k","_law_many"] a.e_39
 e_26:Df K mg "_law_part" An ["_law_cell","_law_k","_law_many"] a.e_26
 e_27:Df K mg "_law_rule" Ao ["_law_cell","_law_many"] a.e_27
 e_28:Df K mg "_law_base" Ap ["_law_cell","_law_many"] a.e_28
 e_11:Df K mg "_law_plain" Aq ["_law_script","_law_top"] a.e_11
 e_50:Df K mg "_law_part_again" Ar ["_law_part_here"] a.e_50
 e_17:Df K mg "_law_again" As ["_law_plain_here"] a.e_17
 e_40:Df K mg "_law_part_moved" At ["_law_part_here","_law_by"] a.e_40
 e_41:Df K mg "_law_moved" Au ["_law_plain_here","_law_by"] a.e_41
 e_18:Df K mg "_law_mingled" Av ["_law_ones","_law_others","_law_way"] a.e_18
 e_3:Df K mg "law" s_3 ["_law_script"] a.e_3
 e_68:Dm K (a.cl "In") "__init__" "In.__init__" Aw ["self","thing"] a.e_68
 e_42:Dm K (a.cl "In") "named" "In.named" Ax ["self"] a.e_42
 e_51:Dm K (a.cl "In") "wants" "In.wants" Ay ["self"] a.e_51
 e_52:Dm K (a.cl "In") "sure" "In.sure" Az ["self","sheet"] a.e_52
 e_53:Dm K (a.cl "In") "sure_by" "In.sure_by" AA ["self","sheet","order"] a.e_53
 e_54:Dm K (a.cl "In") "tips" "In.tips" AB ["self","sheet"] a.e_54
 e_29:Dm K (a.cl "In") "lost" "In.lost" AC ["self","sheet","without"] a.e_29
 e_55:Dm K (a.cl "In") "lost_by" "In.lost_by" AD ["self","sheet","without","order"] a.e_55
 e_69:Dm K (a.cl "Out") "__init__" "Out.__init__" AE ["self","thing"] a.e_69
 e_43:Dm K (a.cl "Out") "named" "Out.named" AF ["self"] a.e_43
 e_56:Dm K (a.cl "Out") "wants" "Out.wants" AG ["self"] a.e_56
 e_57:Dm K (a.cl "Out") "sure" "Out.sure" AH ["self","sheet"] a.e_57
 e_58:Dm K (a.cl "Out") "sure_by" "Out.sure_by" AI ["self","sheet","order"] a.e_58
 e_59:Dm K (a.cl "Out") "tips" "Out.tips" AJ ["self","sheet"] a.e_59
 e_30:Dm K (a.cl "Out") "lost" "Out.lost" AK ["self","sheet","without"] a.e_30
 e_60:Dm K (a.cl "Out") "lost_by" "Out.lost_by" AL ["self","sheet","without","order"] a.e_60
 e_70:Dm K (a.cl "Least") "__init__" "Least.__init__" AM ["self","bound","items"] a.e_70
 e_44:Dm K (a.cl "Least") "named" "Least.named" AN ["self"] a.e_44
 e_61:Dm K (a.cl "Least") "wants" "Least.wants" AO ["self"] a.e_61
 e_62:Dm K (a.cl "Least") "sure" "Least.sure" AQ ["self","sheet"] a.e_62
 e_63:Dm K (a.cl "Least") "sure_by" "Least.sure_by" AR ["self","sheet","order"] a.e_63
 e_45:Dm K (a.cl "Least") "tips" "Least.tips" AS ["self","sheet"] a.e_45
 e_31:Dm K (a.cl "Least") "lost" "Least.lost" AT ["self","sheet","without"] a.e_31
 e_46:Dm K (a.cl "Least") "lost_by" "Least.lost_by" AU ["self","sheet","without","order"] a.e_46
 e_71:Dm K (a.cl "Most") "__init__" "Most.__init__" AV ["self","bound","items"] a.e_71
 e_47:Dm K (a.cl "Most") "named" "Most.named" AW ["self"] a.e_47
 e_64:Dm K (a.cl "Most") "wants" "Most.wants" AX ["self"] a.e_64
 e_65:Dm K (a.cl "Most") "sure" "Most.sure" AY ["self","sheet"] a.e_65
 e_66:Dm K (a.cl "Most") "sure_by" "Most.sure_by" AZ ["self","sheet","order"] a.e_66
 e_48:Dm K (a.cl "Most") "tips" "Most.tips" A0 ["self","sheet"] a.e_48
 e_32:Dm K (a.cl "Most") "lost" "Most.lost" A1 ["self","sheet","without"] a.e_32
 e_67:Dm K (a.cl "Most") "lost_by" "Most.lost_by" A3 ["self","sheet","without","order"] a.e_67
 e_12:Dm K (a.cl "Seeking") "__init__" "Seeking.__init__" A4 ["self","plain"] a.e_12
 e_8:Dm K (a.cl "Seeking") "another" "Seeking.another" s_8 ["self"] a.e_8
 e_13:Dm K (a.cl "Seeking") "close" "Seeking.close" A5 ["self","why"] a.e_13
 e_33:Dm K (a.cl "Seeking") "place_for" "Seeking.place_for" A6 ["self","bar"] a.e_33
 e_19:Dm K (a.cl "Seeking") "line_to" "Seeking.line_to" A7 ["self","why"] a.e_19
 e_4:Dm K (a.cl "Seeking") "grounds" "Seeking.grounds" s_4 ["self","sheet","why","order"] a.e_4
 e_9:Dm K (a.cl "Seeking") "grounds_of_group" "Seeking.grounds_of_group" s_9 ["self","sheet","group","order"] a.e_9
 h6:Dm K (a.cl "Seeking") "take_guard" "Spreading.take_guard" A8 ["self","why","guard"] a.h6
 il:Dm K (a.cl "Seeking") "take_bar" "Spreading.take_bar" A9 ["self","bar"] a.il
 h7:Dm K (a.cl "Seeking") "drop_wider" "Spreading.drop_wider" Ba ["self","bar"] a.h7
 kF:Dm K (a.cl "Seeking") "put" "Spreading.put" Bb ["self","thing","truth","why"] a.kF
 ii:Dm K (a.cl "Seeking") "take_back" "Spreading.take_back" Bc ["self","many"] a.ii
 j0:Dm K (a.cl "Seeking") "settle" "Spreading.settle" Bd ["self"] a.j0
 h8:Dm K (a.cl "Seeking") "look_round" "Spreading.look_round" Be ["self"] a.h8
 g5:Dm K (a.cl "Seeking") "put_loose_out" "Spreading.put_loose_out" Bf ["self"] a.g5
 hY:Dm K (a.cl "Seeking") "loose_marks" "Spreading.loose_marks" Bg ["self"] a.hY
 j3:Dm K (a.cl "Seeking") "kernel" "Spreading.kernel" Bh ["self","thing","without"] a.j3
 h9:Dm K (a.cl "Seeking") "lost_parts" "Spreading.lost_parts" Bi ["self","thing","without"] a.h9
 jl:Dm K (a.cl "Seeking") "keeping" "Spreading.keeping" Bj ["self","part","without"] a.jl
 e_10:Db K "__init__" "Spreading.__init__" Bk ["self","plain","bars","sheet"] a.e_10
 b1_worlds:∃ds,aH [V.int 1] ds/\dZ K a.e_0.2 ["plain","most"] ds
 rs:mg "In"=aa (.ref (a.cl "In"))
 oo:Cls K (a.cl "In")
 qq:Mk K (a.cl "In") a.e_68.1
 ny:cP K (a.cl "In") "thing"
 rn:mg "Out"=aa (.ref (a.cl "Out"))
 nS:Cls K (a.cl "Out")
 p0:Mk K (a.cl "Out") a.e_69.1
 nk:cP K (a.cl "Out") "thing"
 qs:mg "Least"=aa (.ref (a.cl "Least"))
 kT:Cls K (a.cl "Least")
 o6:Mk K (a.cl "Least") a.e_70.1
 lk:cP K (a.cl "Least") "bound"
 ld:cP K (a.cl "Least") "pieces"
 ro:mg "Most"=aa (.ref (a.cl "Most"))
 mu:Cls K (a.cl "Most")
 pu:Mk K (a.cl "Most") a.e_71.1
 mm:cP K (a.cl "Most") "bound"
 ll:cP K (a.cl "Most") "pieces"
 pq:mg "Spreading"=aa (.ref a.C_Spreading)
 pb:Bas K a.C_Spreading "__init__" a.e_10.1
 p4:mg "Seeking"=aa (.ref (a.cl "Seeking"))
 ad:Cls K (a.cl "Seeking")
 n7:Mk K (a.cl "Seeking") a.e_12.1
 ir:cP K (a.cl "Seeking") "sheet"
 lp:cP K (a.cl "Seeking") "steps"
 lj:cP K (a.cl "Seeking") "bars"
 kv:cP K (a.cl "Seeking") "guards"
 hO:cP K (a.cl "Seeking") "watches"
 kr:cP K (a.cl "Seeking") "waiting"
 ky:cP K (a.cl "Seeking") "makers"
 l0:cP K (a.cl "Seeking") "paper"
 kQ:cP K (a.cl "Seeking") "count"
 md:cP K (a.cl "Seeking") "ended"
 q4:mg "any"=ab
 qa:mg "bool"=ab
 nL:mg "enumerate"=ab
 nq:mg "isinstance"=ab
 p5:mg "len"=ab
 og:mg "list"=ab
 rc:mg "max"=ab
 n5:mg "range"=ab
 n0:mg "reversed"=ab
 ri:mg "set"=ab
 oD:mg "sorted"=ab
 p6:mg "sum"=ab
 pw:mg "tuple"=ab
 pz:rE K "bool"
 pj:rE K "tuple"
set_option genInjectivity true
set_option genSizeOf true
nonrec abbrev qD(P:ci)(w:World)(K:aR)(mg:MGT)(base:Heap)(a:Wa)(k:Nat)(x:Str)(e:Addr×cS)(ps:LSt)(m:LD->OD):Prop:=Pk P w K mg base CX0 k x e ps (spD (K,a.cl) ps.length m)
nonrec abbrev qO(P:ci)(w:World)(K:aR)(mg:MGT)(base:Heap)(a:Wa)(k:Nat)(x:Str)(e:Addr×cS)(ps:LSt)(m:LD->OLD):Prop:=Pk P w K mg base CX0 k x e ps (spO (K,a.cl) ps.length m)
nonrec abbrev gW(P:ci)(w:World)(K:aR)(mg:MGT)(base:Heap)(a:Wa)(k:Nat)(c x:Str)(e:Addr×cS)(ps:LSt)(m:MTf):Prop:=Pm P w K mg base CX0 k (a.cl c) x e ps (iz (K,a.cl) ps.length m)
nonrec abbrev qPD(P:ci)(w:World)(K:aR)(mg:MGT)(base:Heap)(a:Wa)(k:Nat)(c x:Str)(e:Addr×cS)(ps:LSt)(m:LD->OD):Prop:=Pm P w K mg base CX0 k (a.cl c) x e ps (spD (K,a.cl) ps.length m)
nonrec abbrev qPO(P:ci)(w:World)(K:aR)(mg:MGT)(base:Heap)(a:Wa)(k:Nat)(c x:Str)(e:Addr×cS)(ps:LSt)(m:LD->OLD):Prop:=Pm P w K mg base CX0 k (a.cl c) x e ps (spO (K,a.cl) ps.length m)
def Bu:MF3:=
 (ai (bi (mB (m2 dEq (av bW (ag (ae 0) nZ)) (kI 2))) (eI 0) bL)
  (bh (bn (ag (mIx (ax 0) (kI 0)) (ag (mIx (ax 0) (kI 1)) (ag (aI (aS (mIx (ax 0) (kI 2)))) nZ))))))
def Bv:=aQ 1 Bu
def Bw:MF3:=
 (ai (cW 1 nZ)
  (ai (bS (aS (mIx (ax 0) (kI 1))) (cV (bv (ay 2) (bv (ay 3) (bv (ay 4) df)))) (dh 1 (bn (ag (ae 2) (ag (ae 3) (ag (aI (bg 1 [] (aS (ae 4)) (ay 0) kY (av Bv (ag (ae 0) nZ)))) nZ))))))
  (fK 1 (bh (bn (ag (mIx (ax 0) (kI 0)) (ag (ae 1) nZ)))))))
def sx:=aQ 5 Bw
def Bx:MF3:=
 (ai (bi (mB (m2 dLt (ae 1) (av bW (ag (ae 0) nZ)))) (bh (mIx (ax 0) (ae 1))) bL)
  (bh (kI 0)))
def sy:=aQ 2 Bx
def By:MF3:=
 (ai (bi (mB (m2 dEq (ae 2) (kI 0))) (cq (gS (ae 0) (ae 1))) bL)
  (ai (bi (mB (m2 dEq (ae 2) (kI 1))) (cq (gS (ae 1) (ae 0))) bL)
  (ai (aX 3 (aI nZ))
  (ai (bS (io (ag (av pY (ag (av bW (ag (ae 0) nZ)) (ag (av bW (ag (ae 1) nZ)) nZ))) nZ)) (ay 4) (aX 3 (aI (gS (aI (gS (ae 3) (aI (mSl (ae 1) (mPt (ae 4)) (mPt (m2 da (ae 4) (kI 1))))))) (aI (mSl (ae 0) (mPt (ae 4)) (mPt (m2 da (ae 4) (kI 1)))))))))
  (eI 3)))))
def vH:=aQ 5 By
def Bz:MF3:=
 (ai (bi (mB (m2 dEq (av bW (ag (ae 0) nZ)) (kI 2))) (bh (bn (ag (mIx (ax 0) (kI 0)) (ag (m2 da (mIx (ax 0) (kI 1)) (ae 1)) nZ)))) bL)
  (bh (bn (ag (mIx (ax 0) (kI 0)) (ag (mIx (ax 0) (kI 1)) (ag (aI (bg 2 [1] (aS (mIx (ax 0) (kI 2))) (cV (bv (ay 0) (bv (ay 1) df))) kY (bn (ag (m2 da (ae 0) (ae 2)) (ag (ae 1) nZ))))) nZ))))))
def vI:=aQ 2 Bz
def BA:MF3:=
 (ai (cW 2 nZ)
  (ai (bS (aS (mIx (ax 0) (kI 1))) (cV (bv (ay 3) (bv (ay 4) (bv (ay 5) df)))) (ai (aX 6 kN)
  (ai (bi (mB (m2 fZ (ae 4) kN)) (aX 6 (m2 da (ae 4) (ae 1))) bL)
  (dh 2 (bn (ag (ae 3) (ag (ae 6) (ag (aI (bg 1 [1] (aS (ae 5)) (ay 0) kY (av vI (ag (ae 0) (ag (ae 1) nZ))))) nZ))))))))
  (eI 2)))
def BB:=aQ 7 BA
def vJ:MF3:=
 (ai (cW 2 nZ)
  (ai (bS (io (ag (ae 1) nZ)) (ay 3) (ai (bi (mB (m2 dEq (m2 b5 (ae 0) (kI 4)) (kI 1))) (dh 2 (bn (ag (kSt "make") (ag (ae 3) (ag (aI (ag (bn (ag (kSt "in") (ag (m2 b5 (m2 da (ae 3) (kI 1)) (ae 1)) nZ))) nZ)) nZ))))) bL)
  (ai (bi (mB (m2 dEq (m2 b5 (ae 0) (kI 4)) (kI 2))) (dh 2 (bn (ag (kSt "make") (ag (ae 3) (ag (aI (ag (bn (ag (kSt "out") (ag (m2 b5 (m2 da (ae 3) (kI 1)) (ae 1)) nZ))) nZ)) nZ))))) bL)
  (bi (mB (m2 dEq (m2 b5 (ae 0) (kI 4)) (kI 3))) (dh 2 (bn (ag (kSt "may") (ag (ae 3) (ag (aI nZ) nZ))))) bL))))
  (eI 2)))
def BC:=jy 4 vJ
def b_6:MF3:=
 (ai (aX 2 (mIx (ag (kI 2147483647) (ag (kI 1000000007) (ag (kI 998244353) (ag (kI 1000000009) nZ)))) (m2 b5 (ae 1) (kI 4))))
  (ai (aX 3 (m2 b5 (m2 lY (m2 da (m2 b5 (ae 0) (m2 rq (kI 10) (kI 18))) (m2 lY (kI 15485863) (m2 da (ae 1) (kI 1)))) (kI 48271)) (ae 2)))
  (bh (m2 b5 (m2 lY (ae 3) (ae 3)) (kI 1000003)))))
def m_6:=aQ 4 b_6
def BD:MF3:=
 (ai (cW 3 nZ)
  (ai (bS (io (ag (m2 b5 (av m_6 (ag (ae 0) (ag (ae 1) nZ))) (kI 4)) nZ)) (ay 4) (ai (aX 5 (av m_6 (ag (ae 0) (ag (m2 da (m2 da (ae 1) (kI 1)) (ae 4)) nZ))))
  (ai (aX 6 (mIx (ag (kI 1) (ag (kI 1) (ag (m2 b5 (m2 ju (ae 5) (kI 8)) (kI 4)) (ag (m2 b5 (ae 0) (m2 rq (kI 10) (kI 60))) nZ)))) (m2 b5 (m2 ju (ae 5) (kI 32)) (kI 4))))
  (dh 3 (bn (ag (m2 b5 (m2 ju (ae 5) (kI 128)) (ae 2)) (ag (ae 6) nZ)))))))
  (eI 3)))
def BE:=aQ 7 BD
def BF:MF3:=
 (ai (aX 3 (av m_6 (ag (ae 0) (ag (ae 1) nZ))))
  (ai (bi (mB (m2 dLt (m2 b5 (ae 3) (kI 8)) (kI 5))) (bh (bn (ag (mIx (ag (kSt "in") (ag (kSt "in") (ag (kSt "out") (ag (kSt "out") (ag (kSt "in") nZ))))) (m2 b5 (ae 3) (kI 8))) (ag (m2 b5 (m2 ju (ae 3) (kI 8)) (ae 2)) nZ)))) bL)
  (ai (aX 4 (av BE (ag (ae 0) (ag (m2 da (ae 1) (kI 1)) (ag (ae 2) nZ)))))
  (ai (aX 5 (av m_6 (ag (ae 0) (ag (m2 da (ae 1) (kI 5)) nZ))))
  (ai (bi (mB (m2 dEq (m2 b5 (ae 5) (kI 4)) (kI 0))) (bh (bn (ag (mIx (ag (kSt "least") (ag (kSt "most") nZ)) (m2 b5 (ae 3) (kI 2))) (ag (m2 lY (m2 b5 (ae 0) (m2 rq (kI 10) (kI 60))) (m2 kK (m2 b5 (m2 ju (ae 5) (kI 4)) (kI 3)) (kI 1))) (ag (ae 4) nZ))))) bL)
  (bh (bn (ag (mIx (ag (kSt "least") (ag (kSt "most") nZ)) (m2 b5 (ae 3) (kI 2))) (ag (m2 kK (m2 b5 (m2 ju (ae 5) (kI 4)) (kI 5)) (kI 1)) (ag (ae 4) nZ))))))))))
def vK:=aQ 6 BF
def BG:MF3:=
 (ai (aX 2 (mIx (ag (kSt "make") (ag (kSt "make") (ag (kSt "make") (ag (kSt "make") (ag (kSt "may") (ag (kSt "may") (ag (kSt "may") (ag (kSt "never") nZ)))))))) (m2 b5 (av m_6 (ag (ae 0) (ag (kI 0) nZ))) (kI 8))))
  (ai (aX 3 (m2 b5 (av m_6 (ag (ae 0) (ag (kI 1) nZ))) (kI 4)))
  (ai (bi (dL (mB (m2 dEq (ae 2) (kSt "never"))) (dL (mB (m2 dEq (ae 3) (kI 0))) (mB (m2 dGt (m2 b5 (av m_6 (ag (ae 0) (ag (kI 2) nZ))) (kI 8)) (kI 0))))) (aX 3 (kI 2)) bL)
  (ai (aX 4 (aI (bg 1 [0,1] (io (ag (ae 3) nZ)) (ay 0) kY (av vK (ag (ae 1) (ag (m2 da (kI 3) (m2 lY (kI 6) (ae 0))) (ag (ae 2) nZ)))))))
  (ai (bi (mB (m2 dEq (ae 2) (kSt "never"))) (bh (bn (ag (ae 2) (ag kN (ag (ae 4) nZ))))) bL)
  (bh (bn (ag (ae 2) (ag (m2 b5 (av m_6 (ag (ae 0) (ag (kI 2) nZ))) (ae 1)) (ag (ae 4) nZ))))))))))
def BH:=aQ 5 BG
def BI:MF3:=
 (ai (aX 2 (av sy (ag (ae 0) (ag (kI 0) nZ))))
  (ai (aX 3 (m2 b5 (ae 2) (ae 1)))
  (ai (cW 4 (kO BC (ag (m2 ju (ae 2) (ae 1)) (ag (ae 3) nZ))))
  (ai (bS (aS (aI (mSl (ae 0) (mPt (kI 1)) (mPt (m2 da (kI 1) (mIx (ag (kI 60) (ag (kI 60) (ag (kI 40) (ag (kI 24) (ag (kI 10) (ag (kI 5) nZ)))))) (ae 3))))))) (ay 5) (bi (mB (m2 dEq (ae 3) (kI 0))) (dh 4 (bn (ag (kSt "never") (ag kN (ag (aI (ag (bn (ag (kSt "most") (ag (m2 kK (m2 b5 (ae 5) (kI 3)) (kI 2)) (ag (aI nZ) nZ)))) nZ)) nZ))))) (dh 4 (av BH (ag (ae 5) (ag (ae 3) nZ))))))
  (fK 4 (bh (bn (ag (ae 3) (ag (ae 4) nZ)))))))))
def sA:=aQ 6 BI
def BJ:MF3:=
 (λM=>if 2 < Z M then ai (qf 2 3 (bO (ae 1)) (iy (aW "Seeking" "watches" (aJ 0)) (mIx (ax 1) (kI 0))) (aS (ae 1)) 1 [3,0] (ay 0) (mB (m2 f8 (ae 0) (aI (iy (aW "Seeking" "watches" (aJ 2)) (ae 1))))) (ae 0))
  (fK 2 (bS (aS (ae 2)) (ay 4) (bi (mB (m2 dEq (mIx (ax 4) (kI 0)) (kSt "bar"))) (bS (aS (mIx (pC (aW "Seeking" "bars" (aJ 0))) (mIx (ax 4) (kI 1)))) (ay 3) (qd 0 (kZ (aW "Seeking" "watches" (aJ 0)) (ae 3)) (ae 4))) bL))) M else ab)
def BK:MTf:=eB 5 BJ
def BL:MF3:=
 (cq (ag (bd "In" "thing" (ae 0)) nZ))
def vL:=aQ 1 BL
def BM:MF3:=
 (bh (kBl ac))
def BN:=aQ 1 BM
def BO:MF3:=
 (cq (nu (aI (bg 2 [] (aS (ae 0)) (cV (bv (ay 0) (bv (ay 1) df))) kY (ae 0)))))
def vM:=aQ 1 BO
def BP:MF3:=
 (bh (av vM (ag (bd "Least" "pieces" (ae 0)) nZ)))
def vN:=aQ 1 BP
def BQ:MF3:=
 (bh (kBl ac))
def BR:=aQ 1 BQ
def BS:MF3:=
 (bh (av vM (ag (bd "Most" "pieces" (ae 0)) nZ)))
def vO:=aQ 1 BS
def BU:MF3:=
 (bh (kBl af))
def BV:=aQ 1 BU
def BW:MF3:=
 (cq (ag (bd "Out" "thing" (ae 0)) nZ))
def vP:=aQ 1 BW
def BX:MF3:=
 (bh (kBl af))
def BY:=aQ 1 BX
def BZ:MF3:=
 (ai (qb 0 (aW "Seeking" "guards" (aJ 0)) (ae 1) (ae 2))
  (ai (bS (aS (ae 2)) (ay 3) (bS (aS (bf (aO "In" "named" vL (ae 3) λ_=>aa []) (bf (aO "Out" "named" vP (ae 3) λ_=>aa []) (bf (aO "Least" "named" vN (ae 3) λ_=>aa []) (aO "Most" "named" vO (ae 3) λ_=>aa []))))) (ay 4) (qc 0 1 (aW "Seeking" "watches" (aJ 0)) (bn (ag (ae 4) (ag (bf (aO "In" "wants" BN (ae 3) λ_=>aa []) (bf (aO "Out" "wants" BY (ae 3) λ_=>aa []) (bf (aO "Least" "wants" BR (ae 3) λ_=>aa []) (aO "Most" "wants" BV (ae 3) λ_=>aa [])))) nZ))))))
  (k4 0 (aW "Seeking" "waiting" (aJ 0)) (ae 1))))
def sC:MTf:=eB 5 BZ
abbrev B0(as:LD):Option (LSt×LD):=rL 2 [("thing",(ae 1),)] as
abbrev vQ(as:LD):Option (LSt×LD):=rL 2 [("thing",(ae 1),)] as
def B1:MF3:=
 (cq (bg 2 [] (aS (ae 0)) (cV (bv (ay 0) (bv (ay 1) df))) kY (vIf (bO (ae 1)) (iR "In" B0 (ag (ae 0) nZ)) (iR "Out" vQ (ag (ae 0) nZ)))))
def B2:=aQ 1 B1
def B3:MF3:=
 (ai (dJ (cK 0 "Seeking" "drop_wider" BK (bM (mX (ae 1)) cE)))
  (ai (aX 2 (bn (ag (kSt "bar") (ag (av bW (ag (pB (aW "Seeking" "bars" (aJ 0))) nZ)) nZ))))
  (ai (k4 0 (aW "Seeking" "bars" (aJ 0)) (ae 1))
  (dJ (cK 0 "Seeking" "take_guard" sC (bM (mX (ae 2)) (bM (mX (av B2 (ag (ae 1) nZ))) cE)))))))
def vR:MTf:=eB 3 B3
abbrev B4(as:LD):Option (LSt×LD):=rL 3 [("bound",(ae 1),),("pieces",(aI (ax 2)),)] as
abbrev II(as:LD):Option (LSt×LD):=rL 3 [("bound",(ae 1),),("pieces",(aI (ax 2)),)] as
def B5:MF3:=
 (ai (aX 1 (mIx (ax 0) (kI 0)))
  (ai (bi (mB (m2 dEq (ae 1) (kSt "in"))) (bh (iR "In" B0 (ag (mIx (ax 0) (kI 1)) nZ))) bL)
  (ai (bi (mB (m2 dEq (ae 1) (kSt "out"))) (bh (iR "Out" vQ (ag (mIx (ax 0) (kI 1)) nZ))) bL)
  (ai (bi (mB (m2 dEq (ae 1) (kSt "least"))) (bh (iR "Least" B4 (ag (mIx (ax 0) (kI 1)) (ag (mIx (ax 0) (kI 2)) nZ)))) bL)
  (bh (iR "Most" II (ag (mIx (ax 0) (kI 1)) (ag (mIx (ax 0) (kI 2)) nZ))))))))
def B6:=aQ 2 B5
def b_2:MF3:=
 (cq (bg 1 [] (aS (mIx (ax 0) (kI 2))) (ay 0) kY (av B6 (ag (ae 0) nZ))))
def m_2:=aQ 1 b_2
def o_2:=jy 1 b_2
def B7:MF3:=
 (ai (bi (mB (m2 dEq (mIx (ax 0) (kI 0)) (kSt "may"))) (cq (ag (iR "Least" B4 (ag (kI 1) (ag (aI nZ) nZ))) nZ)) bL)
  (ai (cW 1 (kO o_2 (ag (ae 0) nZ)))
  (ai (bi (mB (m2 dEq (mIx (ax 0) (kI 0)) (kSt "make"))) (dh 1 (iR "Out" vQ (ag (mIx (ax 0) (kI 1)) nZ))) bL)
  (eI 1))))
def vS:=aQ 2 B7
def B8:MF3:=
 (ai (eR 0 "Seeking" "sheet" (aJ 0) (ix (ax 3)))
  (ai (eR 0 "Seeking" "steps" (aJ 0) (ix nZ))
  (ai (eR 0 "Seeking" "bars" (aJ 0) (ix nZ))
  (ai (eR 0 "Seeking" "guards" (aJ 0) (λ_=>aa (.dT [] [])))
  (ai (eR 0 "Seeking" "watches" (aJ 0) (λ_=>aa (.dT [] [])))
  (ai (eR 0 "Seeking" "waiting" (aJ 0) (ix nZ))
  (ai (eR 0 "Seeking" "makers" (aJ 0) (jH (aI (bg 1 [] (aS (mIx (ax 1) (kI 1))) (ay 0) (mB (m2 fZ (mIx (ax 0) (kI 1)) kN)) (bn (ag (mIx (ax 0) (kI 1)) (ag (av m_2 (ag (ae 0) nZ)) nZ)))))))
  (ai (bS (jB (ag (mIx (ax 1) (kI 1)) nZ)) (cV (bv (ay 5) (bv (ay 4) df))) (dJ (cK 0 "Seeking" "take_guard" sC (bM (mX (bn (ag (kSt "rule") (ag (ae 5) nZ)))) (bM (mX (av vS (ag (ae 4) nZ))) cE)))))
  (bS (aS (ae 2)) (ay 6) (dJ (cK 0 "Seeking" "take_bar" vR (bM (mX (ae 6)) cE))))))))))))
def B9:MTf:=eB 7 B8
def Ca:MF3:=
 (ai (dJ (l6 0 B9 (bM (mX (ae 1)) (bM (mX (aI nZ)) (bM (mX (aI (bg 1 [] (io (ag (mIx (ax 1) (kI 0)) nZ)) (ay 0) kY kN))) cE)))))
  (ai (eR 0 "Seeking" "paper" (aJ 0) (ix nZ))
  (ai (eR 0 "Seeking" "count" (aJ 0) (jH (kI 0)))
  (eR 0 "Seeking" "ended" (aJ 0) (jH (kBl af))))))
def Cb:MTf:=eB 2 Ca
def Cc:MF3:=
 (cq (ag (bd "In" "thing" (ae 0)) nZ))
def Cd:=aQ 3 Cc
def Ce:MF3:=
 (ai (pR 1)
  (ai (bS (aS (ae 0)) (cV (bv (ay 2) (bv (ay 3) df))) (jD 1 (ae 2) (m2 da (pZ 1 (ae 2) (kI 0)) (ae 3))))
  (p7 1 (bh (ae 1)))))
def vT:=aQ 4 Ce
def b_7:MF3:=
 (ai (aX 3 (av vT (ag (ae 0) nZ)))
  (ai (cW 4 nZ)
  (ai (aX 5 (ae 2))
  (ai (bS (aS (ae 1)) (ay 6) (ai (aX 7 (r9 (ae 3) (ae 6) (kI 0)))
  (bi (dL (mB (m2 dGt (ae 5) (kI 0))) (mB (m2 dGt (ae 7) (kI 0)))) (ai (dh 4 (ae 6))
  (sn 5 (ae 7))) bL)))
  (eI 4)))))
def m_7:=aQ 8 b_7
def Cf:MF3:=
 (cq (bg 1 [2,1] (aS (ae 0)) (ay 0) (mB (m2 dEq (mIx (ax 2) (ae 0)) (ae 1))) (ae 0)))
def qh:=aQ 3 Cf
def Cg:MF3:=
 (bh (av m_7 (ag (bd "Least" "pieces" (ae 0)) (ag (av qh (ag (ae 2) (ag (ae 1) (ag (kBl ac) nZ)))) (ag (bd "Least" "bound" (ae 0)) nZ)))))
def Ch:=aQ 3 Cg
def Ci:MF3:=
 (bh (av jw (ag (aI (bg 2 [] (aS (ae 0)) (cV (bv (ay 0) (bv (ay 1) df))) kY (ae 1))) nZ)))
def vU:=aQ 1 Ci
def Cj:MF3:=
 (bh (av m_7 (ag (bd "Most" "pieces" (ae 0)) (ag (av qh (ag (ae 2) (ag (ae 1) (ag (kBl af) nZ)))) (ag (m2 kK (av vU (ag (bd "Most" "pieces" (ae 0)) nZ)) (bd "Most" "bound" (ae 0))) nZ)))))
def Ck:=aQ 3 Cj
def Cm:MF3:=
 (cq (ag (bd "Out" "thing" (ae 0)) nZ))
def Cn:=aQ 3 Cm
def Co:MF3:=
 (bh (vIf (bO (mIx (ax 2) (bd "In" "thing" (ae 0)))) (aI nZ) (aI (ag (bd "In" "thing" (ae 0)) nZ))))
def Cp:=aQ 4 Co
def Cq:MF3:=
 (cq (bg 1 [1] (aS (ae 0)) (ay 0) (gP (bO (mIx (ax 1) (mIx (ax 0) (kI 0))))) (ae 0)))
def vV:=aQ 2 Cq
def Cr:MF3:=
 (ai (aX 4 (av vV (ag (bd "Least" "pieces" (ae 0)) (ag (ae 2) nZ))))
  (bh (av m_7 (ag (ae 4) (ag (av qh (ag (ae 3) (ag (ae 1) (ag (kBl af) nZ)))) (ag (m2 da (m2 kK (av vU (ag (ae 4) nZ)) (bd "Least" "bound" (ae 0))) (kI 1)) nZ))))))
def Cs:=aQ 5 Cr
def Ct:MF3:=
 (bh (av m_7 (ag (bd "Most" "pieces" (ae 0)) (ag (av qh (ag (ae 3) (ag (ae 1) (ag (kBl ac) nZ)))) (ag (m2 da (bd "Most" "bound" (ae 0)) (kI 1)) nZ)))))
def Cu:=aQ 4 Ct
def Cv:MF3:=
 (cq (ag (bd "Out" "thing" (ae 0)) nZ))
def Cw:=aQ 4 Cv
def Cy:MF3:=
 (bh (vOr (m2 dIs (mIx (ax 1) (bd "In" "thing" (ae 0))) (kBl af)) (mIx (ax 2) (bd "In" "thing" (ae 0)))))
def sD:=aQ 3 Cy
def Cz:MF3:=
 (bh (av jw (ag (aI (bg 2 [1] (aS (ae 0)) (cV (bv (ay 0) (bv (ay 1) df))) (mB (m2 fZ (mIx (ax 2) (ae 0)) (kBl af))) (ae 1))) nZ)))
def qi:=aQ 2 Cz
def CA:MF3:=
 (bh (m2 dLt (av qi (ag (av vV (ag (bd "Least" "pieces" (ae 0)) (ag (ae 2) nZ))) (ag (ae 1) nZ))) (bd "Least" "bound" (ae 0))))
def sE:=aQ 3 CA
def CB:MF3:=
 (bh (av jw (ag (aI (bg 2 [1] (aS (ae 0)) (cV (bv (ay 0) (bv (ay 1) df))) (mB (m2 dIs (mIx (ax 2) (ae 0)) (kBl ac))) (ae 1))) nZ)))
def sF:=aQ 2 CB
def CC:MF3:=
 (bh (m2 dGt (av sF (ag (bd "Most" "pieces" (ae 0)) (ag (ae 1) nZ))) (bd "Most" "bound" (ae 0))))
def sG:=aQ 3 CC
def CD:MF3:=
 (bh (m2 dIs (mIx (ax 1) (bd "Out" "thing" (ae 0))) (kBl ac)))
def sH:=aQ 3 CD
def b_5:MF3:=
 (ai (bS (aS (ae 0)) (ay 3) (bi (bO (bf (aO "In" "lost" sD (ae 3) (ag (ae 1) (ag (ae 2) nZ))) (bf (aO "Out" "lost" sH (ae 3) (ag (ae 1) (ag (ae 2) nZ))) (bf (aO "Least" "lost" sE (ae 3) (ag (ae 1) (ag (ae 2) nZ))) (aO "Most" "lost" sG (ae 3) (ag (ae 1) (ag (ae 2) nZ))))))) (eI 3) bL))
  (bh kN))
def m_5:=aQ 4 b_5
def b_1:MF3:=
 (ai (pR 2)
  (ai (bS (aS (ae 1)) (ay 3) (jD 2 (ae 3) (kBl ac)))
  (fK 2 (cq (bg 1 [2] (io (ag (ae 0) nZ)) (ay 0) kY (m2 rQ (ae 0) (ae 1)))))))
def m_1:=aQ 4 b_1
def o_1:=jy 4 b_1
def b_9:MF3:=
 (ai (aX 4 (av m_1 (ag (av bW (ag (ae 1) nZ)) (ag (ae 2) nZ))))
  (ai (cW 5 (mSl (aI (bg 1 [4,1] (aS (ae 3)) (ay 0) (dL (bO (mIx (ax 1) (ae 0))) (mB (m2 dIs (mIx (ax 2) (ae 0)) (kBl ac)))) (ae 0))) (λ_=>aa ab) (mPt (kI 1))))
  (ai (bS (aS (bd "Seeking" "makers" (ae 0))) (cV (bv (ay 6) (bv (ay 7) df))) (bi (bO (mIx (ax 4) (ae 6))) (kM 5 (kL (bf (aO "In" "lost_by" Cp (av m_5 (ag (ae 7) (ag (ae 1) (ag (ae 4) nZ)))) (ag (ae 1) (ag (ae 4) (ag (ae 3) nZ)))) (bf (aO "Out" "lost_by" Cw (av m_5 (ag (ae 7) (ag (ae 1) (ag (ae 4) nZ)))) (ag (ae 1) (ag (ae 4) (ag (ae 3) nZ)))) (bf (aO "Least" "lost_by" Cs (av m_5 (ag (ae 7) (ag (ae 1) (ag (ae 4) nZ)))) (ag (ae 1) (ag (ae 4) (ag (ae 3) nZ)))) (aO "Most" "lost_by" Cu (av m_5 (ag (ae 7) (ag (ae 1) (ag (ae 4) nZ)))) (ag (ae 1) (ag (ae 4) (ag (ae 3) nZ))))))))) bL))
  (eI 5))))
def m_9:=aQ 8 b_9
def o_9:=jy 8 b_9
def b_4:MF3:=
 (ai (bi (mB (m2 dEq (mIx (ax 2) (kI 0)) (kSt "world"))) (cq (nF (ag (av bW (ag (ae 1) nZ)) nZ))) bL)
  (ai (bi (mB (m2 dEq (mIx (ax 2) (kI 0)) (kSt "group"))) (cq (iA "Seeking" "grounds_of_group" o_9 (ae 0) (ag (ae 1) (ag (mIx (ax 2) (kI 1)) (ag (ae 3) nZ))))) bL)
  (ai (cW 4 nZ)
  (ai (bS (aS (m2 sr (bd "Seeking" "guards" (ae 0)) (ae 2))) (ay 5) (kM 4 (kL (bf (aO "In" "sure_by" Cd (ae 5) (ag (ae 1) (ag (ae 3) nZ))) (bf (aO "Out" "sure_by" Cn (ae 5) (ag (ae 1) (ag (ae 3) nZ))) (bf (aO "Least" "sure_by" Ch (ae 5) (ag (ae 1) (ag (ae 3) nZ))) (aO "Most" "sure_by" Ck (ae 5) (ag (ae 1) (ag (ae 3) nZ)))))))))
  (eI 4)))))
def m_4:=aQ 6 b_4
def o_4:=jy 6 b_4
def CF:MF3:=
 (cq (gS (aI (bg 1 [1] (aS (ae 0)) (ay 0) (bO (mIx (ax 1) (ae 0))) (ae 0))) (aI (bg 1 [1] (aS (ae 0)) (ay 0) (gP (bO (mIx (ax 1) (ae 0)))) (ae 0)))))
def vW:=aQ 2 CF
def CG:MF3:=
 (bh (vIf (mB (m2 dEq (mIx (ax 0) (kI 0)) (kSt "group"))) (bn (ag (mIx (ax 0) (kI 0)) (ag (aI (aS (mIx (ax 0) (kI 1)))) nZ))) (ae 0)))
def sI:=aQ 1 CG
def CH:MF3:=
 (ai (cW 2 (pC (aW "Seeking" "sheet" (aJ 0))))
  (ai (aX 5 (aI (bg 2 [] (pC (aW "Seeking" "steps" (aJ 0))) (cV (bv (ay 0) (bv (ay 1) df))) kY (mIx (ax 0) (kI 0)))))
  (ai (cW 6 (kO o_1 (ag (av bW (ag (cZ 2) nZ)) (ag (aI (iA "Seeking" "grounds" o_4 (cZ 0) (ag (cZ 2) (ag (ae 1) (ag (ae 5) nZ))))) nZ))))
  (ai (cW 7 nZ)
  (ai (cW 8 (ag (bn (ag kN (ag (av sI (ag (ae 1) nZ)) nZ))) nZ))
  (ai (nN 0 "Seeking" "steps" (bS (lZ (ag (pD (aW "Seeking" "steps" (aJ 0))) nZ)) (cV (bv (ay 3) (bv (ay 4) df))) (ai (aX 9 (mIx (ax 3) (kI 0)))
  (ai (bi (dL (bO (mIx (ax 6) (ae 9))) (mB (m2 dIs (ae 4) kN))) (dh 7 (ae 3)) (bi (bO (mIx (ax 6) (ae 9))) (ai (dh 8 (bn (ag (ae 3) (ag (av sI (ag (ae 4) nZ)) nZ))))
  (ai (gx 2 (ae 9) (kH (mIx (ax 3) (kI 1))))
  (bS (aS (aI (iA "Seeking" "grounds" o_4 (cZ 0) (ag (cZ 2) (ag (ae 4) (ag (av vW (ag (ae 5) (ag (cZ 6) nZ))) nZ)))))) (ay 10) (gx 6 (ae 10) (kBl ac))))) bL))
  (gx 2 (ae 9) kN)))))
  (eJ (bn (ag (aI (pX 7)) (ag (aI (pX 8)) nZ))))))))))
def CI:MTf:=eB 11 CH
def CJ:MF3:=
 (ai (aX 2 (aI (bg 2 [] (jB (ag (pD (aW "Seeking" "steps" (aJ 0))) nZ)) (cV (bv (ay 0) (bv (ay 1) df))) (mB (m2 dIs (mIx (ax 1) (kI 1)) kN)) (ae 0))))
  (ai (aX 3 (aI (bg 1 [0] (aS (ae 2)) (ay 0) kY (mIx (aS (mIx (aS (pD (aW "Seeking" "steps" (aJ 1)))) (ae 0))) (kI 0)))))
  (eJ (mIx (ax 2) (vIf (mB (m2 dEq (av bW (ag (ae 1) nZ)) (kI 1))) (kI 0) (m2 da (m2 gV (ae 3) (mIx (ax 1) (m1 rB (kI 2)))) (kI 1)))))))
def CK:MTf:=eB 4 CJ
def CL:MF3:=
 (ai (bS (aS (aI (mSl (pD (aW "Seeking" "steps" (aJ 0))) (mPt (ae 1)) (λ_=>aa ab)))) (cV (bv (ay 2) (bv (ay 3) df))) (nJ 0 (aW "Seeking" "sheet" (aJ 0)) (mIx (ax 2) (kI 0)) kN))
  (ai (eR 0 "Seeking" "steps" (aJ 0) (ix (mSl (pD (aW "Seeking" "steps" (aJ 0))) (λ_=>aa ab) (mPt (ae 1)))))
  (eR 0 "Seeking" "waiting" (aJ 0) (ix nZ))))
def CM:MTf:=eB 4 CL
def CN:MF3:=
 (ai (gb 2 (cK 0 "Seeking" "line_to" CI (bM (mX (ae 1)) cE)))
  (ai (k4 0 (aW "Seeking" "paper" (aJ 0)) (ae 2))
  (bi (bO (mIx (ax 2) (kI 0))) (ai (dJ (cK 0 "Seeking" "take_back" CM (bM (cK 0 "Seeking" "place_for" CK (bM (mX (mIx (ax 2) (kI 0))) cE)) cE)))
  (dJ (cK 0 "Seeking" "take_bar" vR (bM (mX (mIx (ax 2) (kI 0))) cE)))) (eR 0 "Seeking" "ended" (aJ 0) (jH (kBl ac))))))
def qj:MTf:=eB 3 CN
def CO:MF3:=
 (ai (nJ 0 (aW "Seeking" "sheet" (aJ 0)) (ae 1) (ae 2))
  (ai (k4 0 (aW "Seeking" "steps" (aJ 0)) (bn (ag (bn (ag (ae 1) (ag (ae 2) nZ))) (ag (ae 3) nZ))))
  (p9 0 (aW "Seeking" "waiting" (aJ 0)) (iy (aW "Seeking" "watches" (aJ 0)) (bn (ag (ae 1) (ag (ae 2) nZ)))))))
def qk:MTf:=eB 4 CO
def CP:MF3:=
 (bh (m2 dIs (mIx (ax 1) (bd "In" "thing" (ae 0))) (kBl ac)))
def CQ:=aQ 2 CP
def CS:MF3:=
 (bh (vIf (mB (m2 dIs (mIx (ax 1) (bd "In" "thing" (ae 0))) kN)) (aI (ag (bn (ag (bd "In" "thing" (ae 0)) (ag (kBl ac) nZ))) nZ)) (aI nZ)))
def CT:=aQ 2 CS
def CU:MF3:=
 (bh (m2 dGe (av sF (ag (bd "Least" "pieces" (ae 0)) (ag (ae 1) nZ))) (bd "Least" "bound" (ae 0))))
def CV:=aQ 2 CU
def CW:MF3:=
 (ai (aX 3 (av vT (ag (aI (bg 1 [1] (aS (ae 0)) (ay 0) (mB (m2 dIs (mIx (ax 1) (mIx (ax 0) (kI 0))) kN)) (ae 0))) nZ)))
  (cq (bg 1 [2,3] (rY (ae 3)) (ay 0) (mB (m2 dGe (m2 rZ (ae 2) (ae 0)) (ae 1))) (ae 0))))
def vX:=aQ 4 CW
def CY:MF3:=
 (ai (aX 2 (m2 kK (bd "Least" "bound" (ae 0)) (av sF (ag (bd "Least" "pieces" (ae 0)) (ag (ae 1) nZ)))))
  (cq (bg 1 [] (aS (av vX (ag (bd "Least" "pieces" (ae 0)) (ag (ae 1) (ag (ae 2) nZ))))) (ay 0) kY (bn (ag (ae 0) (ag (kBl ac) nZ))))))
def CZ:=aQ 3 CY
def C0:MF3:=
 (bh (m2 dLe (av qi (ag (bd "Most" "pieces" (ae 0)) (ag (ae 1) nZ))) (bd "Most" "bound" (ae 0))))
def C3:=aQ 2 C0
def C4:MF3:=
 (ai (aX 2 (m2 kK (av qi (ag (bd "Most" "pieces" (ae 0)) (ag (ae 1) nZ))) (bd "Most" "bound" (ae 0))))
  (cq (bg 1 [] (aS (av vX (ag (bd "Most" "pieces" (ae 0)) (ag (ae 1) (ag (ae 2) nZ))))) (ay 0) kY (bn (ag (ae 0) (ag (kBl af) nZ))))))
def C5:=aQ 3 C4
def C6:MF3:=
 (bh (m2 dIs (mIx (ax 1) (bd "Out" "thing" (ae 0))) (kBl af)))
def C7:=aQ 2 C6
def C8:MF3:=
 (bh (vIf (mB (m2 dIs (mIx (ax 1) (bd "Out" "thing" (ae 0))) kN)) (aI (ag (bn (ag (bd "Out" "thing" (ae 0)) (ag (kBl af) nZ))) nZ)) (aI nZ)))
def C9:=aQ 2 C8
def Da:MF3:=
 (ai (aX 2 kN)
  (ai (bS (aS (ae 0)) (ay 3) (bi (gP (bO (bf (aO "In" "sure" CQ (ae 3) (ag (ae 1) nZ)) (bf (aO "Out" "sure" C7 (ae 3) (ag (ae 1) nZ)) (bf (aO "Least" "sure" CV (ae 3) (ag (ae 1) nZ)) (aO "Most" "sure" C3 (ae 3) (ag (ae 1) nZ))))))) (ai (aX 4 (bf (aO "In" "tips" CT (ae 3) (ag (ae 1) nZ)) (bf (aO "Out" "tips" C9 (ae 3) (ag (ae 1) nZ)) (bf (aO "Least" "tips" CZ (ae 3) (ag (ae 1) nZ)) (aO "Most" "tips" C5 (ae 3) (ag (ae 1) nZ))))))
  (ai (aX 2 (vIf (mB (m2 dIs (ae 2) kN)) (ae 4) (aI (bg 1 [4] (aS (ae 2)) (ay 0) (mB (m2 f8 (ae 0) (ae 1))) (ae 0)))))
  (bi (gP (bO (ae 2))) (cq nZ) bL))) bL))
  (ai (bi (mB (m2 dIs (ae 2) kN)) (bh kN) bL)
  (cq (bg 2 [] (aS (ae 2)) (cV (bv (ay 0) (bv (ay 1) df))) kY (bn (ag (ae 0) (ag (kH (ae 1)) nZ))))))))
abbrev Dc(as:LD):Option (LD ⊕ D):=zZ 5 Da as
def Dd:MF3:=
 (ai (dA (bO (pB (aW "Seeking" "waiting" (aJ 0)))) (ai (gb 1 (sm 0 (aW "Seeking" "waiting" (aJ 0))))
  (ai (aX 2 (qe Dc (ag (pB (kZ (aW "Seeking" "guards" (aJ 0)) (ae 1))) (ag (pB (aW "Seeking" "sheet" (aJ 0))) nZ))))
  (ai (bi (mB (m2 dIs (ae 2) kN)) (eJ (ae 1)) bL)
  (bS (aS (ae 2)) (cV (bv (ay 3) (bv (ay 4) df))) (dJ (cK 0 "Seeking" "put" qk (bM (mX (ae 3)) (bM (mX (ae 4)) (bM (mX (ae 1)) cE))))))))) 1000000000)
  (eJ kN))
def De:MTf:=eB 5 Dd
def Dg:MF3:=
 (ai (bi (bO (bf (aO "In" "lost" sD (ae 1) (ag (bd "Seeking" "sheet" (ae 0)) (ag (av m_1 (ag (av bW (ag (bd "Seeking" "sheet" (ae 0)) nZ)) (ag (aI nZ) nZ))) nZ))) (bf (aO "Out" "lost" sH (ae 1) (ag (bd "Seeking" "sheet" (ae 0)) (ag (av m_1 (ag (av bW (ag (bd "Seeking" "sheet" (ae 0)) nZ)) (ag (aI nZ) nZ))) nZ))) (bf (aO "Least" "lost" sE (ae 1) (ag (bd "Seeking" "sheet" (ae 0)) (ag (av m_1 (ag (av bW (ag (bd "Seeking" "sheet" (ae 0)) nZ)) (ag (aI nZ) nZ))) nZ))) (aO "Most" "lost" sG (ae 1) (ag (bd "Seeking" "sheet" (ae 0)) (ag (av m_1 (ag (av bW (ag (bd "Seeking" "sheet" (ae 0)) nZ)) (ag (aI nZ) nZ))) nZ))))))) (cq nZ) bL)
  (cq (bg 1 [2] (aS (bf (aO "In" "named" vL (ae 1) λ_=>aa []) (bf (aO "Out" "named" vP (ae 1) λ_=>aa []) (bf (aO "Least" "named" vN (ae 1) λ_=>aa []) (aO "Most" "named" vO (ae 1) λ_=>aa []))))) (ay 0) (bO (mIx (ax 1) (ae 0))) (ae 0))))
def Dh:=aQ 3 Dg
def Di:MF3:=
 (cq (bg 2 [2,0,1] (aS (bd "Seeking" "makers" (ae 0))) (cV (bv (ay 0) (bv (ay 1) df))) (mB (m2 dEq (ae 0) (ae 4))) (av m_5 (ag (ae 1) (ag (bd "Seeking" "sheet" (ae 3)) (ag (ae 2) nZ))))))
def Dj:=aQ 3 Di
def sJ:MF3:=
 (ai (cW 3 (ag (ae 1) nZ))
  (ai (aX 4 (kI 0))
  (ai (dA (mB (m2 dLt (ae 4) (av bW (ag (cZ 3) nZ)))) (ai (bS (aS (aO "Seeking" "lost_parts" Dj (ae 0) (ag (mIx (ax 3) (ae 4)) (ag (ae 2) nZ)))) (ay 5) (kM 3 (kL (aI (bg 1 [3] (aS (aO "Seeking" "keeping" Dh (ae 0) (ag (ae 5) (ag (ae 2) nZ)))) (ay 0) (mB (m2 nh (ae 0) (cZ 1))) (ae 0))))))
  (nH 4 (mX (kI 1)))) 1000000000)
  (fK 3 (cq (lX (ae 3)))))))
def W0:=aQ 6 sJ
def l7:=jy 6 sJ
def Dk:MF3:=
 (ai (cW 1 (bg 1 [] (pC (aW "Seeking" "sheet" (aJ 0))) (ay 0) kY (m2 fZ (ae 0) (kBl af))))
  (ai (cW 2 nZ)
  (ai (aX 3 (pD (aW "Seeking" "makers" (aJ 0))))
  (ai (aX 4 (kBl ac))
  (ai (dA (bO (ae 4)) (ai (aX 5 (av bW (ag (cZ 2) nZ)))
  (ai (cW 6 nZ)
  (ai (bS (aS (ae 3)) (ay 7) (bi (dL (bO (mIx (ax 1) (mIx (ax 7) (kI 0)))) (mB (m2 dIs (av m_5 (ag (mIx (ax 7) (kI 1)) (ag (pB (aW "Seeking" "sheet" (aJ 0))) (ag (cZ 1) nZ)))) kN))) (ai (gx 1 (mIx (ax 7) (kI 0)) (kBl af))
  (dh 2 (ae 7))) (dh 6 (ae 7))))
  (ai (fK 6 (aX 3 (ae 6)))
  (aX 4 (kG (m2 dGt (av bW (ag (cZ 2) nZ)) (ae 5)) (av pP (ag (cZ 1) nZ)))))))) 1000000000)
  (ai (fK 2 (eR 0 "Seeking" "makers" (aJ 0) (jH (aI (gS (ae 2) (ae 3))))))
  (fK 1 (eJ (ae 1)))))))))
def Dl:MTf:=eB 8 Dk
def Dn:MF3:=
 (ai (gb 1 (cK 0 "Seeking" "loose_marks" Dl cE))
  (ai (aX 3 (aI (bg 2 [1] (vz (pC (aW "Seeking" "sheet" (aJ 0)))) (cV (bv (ay 0) (bv (ay 1) df))) (dL (bO (mIx (ax 2) (ae 0))) (mB (m2 dIs (ae 1) (kBl ac)))) (ae 0))))
  (ai (bi (bO (ae 3)) (eJ (bn (ag (kSt "group") (ag (aI (iA "Seeking" "kernel" l7 (cZ 0) (ag (mIx (ax 3) (kI 0)) (ag (ae 1) nZ)))) nZ)))) bL)
  (ai (bS (jB (ag (ae 1) nZ)) (cV (bv (ay 2) (bv (ay 4) df))) (bi (bO (ae 4)) (dJ (cK 0 "Seeking" "put" qk (bM (mX (ae 2)) (bM (mX (kBl af)) (bM (mX (bn (ag (kSt "group") (ag (aI (iA "Seeking" "kernel" l7 (cZ 0) (ag (ae 2) (ag (ae 1) nZ)))) nZ)))) cE))))) bL))
  (eJ kN)))))
def Do:MTf:=eB 5 Dn
def Dr:MF3:=
 (ai (aX 1 (kBl ac))
  (ai (dA (bO (ae 1)) (ai (gb 2 (cK 0 "Seeking" "look_round" De cE))
  (ai (bi (mB (m2 dIs (ae 2) kN)) (gb 2 (cK 0 "Seeking" "put_loose_out" Do cE)) bL)
  (aX 1 (kG (m2 dIs (ae 2) kN) (m2 dGt (av bW (ag (pB (aW "Seeking" "waiting" (aJ 0))) nZ)) (kI 0)))))) 1000000000)
  (eJ (ae 2))))
def sK:MTf:=eB 3 Dr
def Ds:MF3:=
 (cq (bg 2 [] (jB (ag (ae 0) nZ)) (cV (bv (ay 0) (bv (ay 1) df))) (bO (ae 1)) (ae 0)))
def sL:=jy 1 Ds
def b_8:MF3:=
 (ai (dA (gP (bO (pD (aW "Seeking" "ended" (aJ 0))))) (ai (gb 1 (cK 0 "Seeking" "settle" sK cE))
  (bi (mB (m2 fZ (ae 1) kN)) (dJ (cK 0 "Seeking" "close" qj (bM (mX (ae 1)) cE))) (bi (mB (m2 f8 kN (pB (aW "Seeking" "sheet" (aJ 0))))) (dJ (cK 0 "Seeking" "put" qk (bM (mX (m2 gV (pB (aW "Seeking" "sheet" (aJ 0))) kN)) (bM (mX (kBl ac)) (bM (mX kN) cE))))) (ai (aX 2 (aI (pV sL (ag (pB (aW "Seeking" "sheet" (aJ 0))) nZ))))
  (ai (dJ (cK 0 "Seeking" "close" qj (bM (mX (bn (ag (kSt "world") (ag (pD (aW "Seeking" "count" (aJ 0))) nZ)))) cE)))
  (ai (nO 0 "Seeking" "count" (kI 1))
  (eJ (ae 2)))))))) 1000000000)
  (eJ kN))
def m_8:MTf:=eB 3 b_8
def b_0:MF3:=
 (ai (nG 2 (nM "Seeking" Cb (ag (ae 0) nZ)))
  (ai (cW 3 nZ)
  (ai (gb 4 (j7 2 "Seeking" "another" m_8 cE))
  (ai (dA (dL (mB (m2 fZ (ae 4) kN)) (mB (m2 dLt (av bW (ag (cZ 3) nZ)) (ae 1)))) (ai (dh 3 (ae 4))
  (gb 4 (j7 2 "Seeking" "another" m_8 cE))) 1000000000)
  (ai (bi (mB (m2 dIs (ae 4) kN)) (fK 3 (nN 2 "Seeking" "paper" (bh (bn (ag (ae 3) (ag (kBl ac) (ag (pD (aW "Seeking" "paper" (aJ 2))) nZ))))))) bL)
  (fK 3 (bh (bn (ag (ae 3) (ag (kBl af) (ag (aI nZ) nZ)))))))))))
def m_0:=aQ 5 b_0
def b_3:MF3:=
 (ai (aX 1 (av sA (ag (aI (mSl (aI (bg 1 [0] (k5 (ag (kI 0) (ag (av bW (ag (ae 0) nZ)) (ag (kI 2) nZ)))) (ay 0) kY (mIx (ax 1) (ae 0)))) (λ_=>aa ab) (mPt (kI 9)))) (ag (kI 3) nZ))))
  (ai (aX 2 (av sA (ag (aI (mSl (aI (bg 1 [0] (k5 (ag (kI 1) (ag (av bW (ag (ae 0) nZ)) (ag (kI 2) nZ)))) (ay 0) kY (mIx (ax 1) (ae 0)))) (λ_=>aa ab) (mPt (kI 9)))) (ag (kI 4) nZ))))
  (ai (aX 3 (m2 b5 (m2 ju (av sy (ag (ae 0) (ag (kI 0) nZ))) (kI 12)) (kI 34)))
  (ai (aX 4 (av m_0 (ag (av sx (ag (ae 1) nZ)) (ag (kI 33) nZ))))
  (ai (aX 5 (av m_0 (ag (av sx (ag (ae 2) nZ)) (ag (kI 33) nZ))))
  (ai (aX 6 (av vH (ag (mIx (aS (av sx (ag (ae 1) nZ))) (kI 1)) (ag (av BB (ag (ae 2) (ag (mIx (ax 1) (kI 0)) nZ))) (ag (m2 b5 (m2 ju (av sy (ag (ae 0) (ag (kI 1) nZ))) (kI 12)) (kI 3)) nZ)))))
  (ai (aX 7 (av m_0 (ag (bn (ag (m2 da (mIx (ax 1) (kI 0)) (mIx (ax 2) (kI 0))) (ag (ae 6) nZ))) (ag (ae 3) nZ))))
  (ai (cW 8 nZ)
  (ai (bS (aS (mIx (ax 4) (kI 0))) (ay 9) (bS (aS (mIx (ax 5) (kI 0))) (ay 10) (dh 8 (aI (gS (ae 9) (aI (bg 1 [1] (aS (ae 10)) (ay 0) kY (m2 da (ae 0) (mIx (ax 1) (kI 0))))))))))
  (ai (bi (mOr (gP (bO (pi "tuple" (ae 7)))) (mOr (mB (m2 dNe (av bW (ag (ae 7) nZ)) (kI 3))) (gP (bO (pi "bool" (mIx (ax 7) (kI 1))))))) (bh (kBl af)) bL)
  (fK 8 (bh (kG (m2 dEq (mIx (ax 7) (kI 0)) (aI (mSl (ae 8) (λ_=>aa ab) (mPt (ae 3))))) (m2 dEq (mIx (ax 7) (kI 1)) (m2 dLe (av bW (ag (ae 8) nZ)) (ae 3))))))))))))))))
def m_3:=aQ 11 b_3
def cmN(s:Scope):LSt:=s.names.tail.filterMap λz=>match z.2 with |.local=>aa z.1 |.free=>aa z.1 | _=>ab
variable{fi:MF2}{g:L2.D->LS->Option LS}{ft:MF4}{fe:MF1}
def S8{c:Str->Addr}{X:Cx}{d tg iter:Expr}{e:LEx}{scope:Scope}{pos:Pos}(k:Nat)(js:LN)(h:X.calm=ac)(hi:DIe c X tg iter fi)(j:∀cl W8 ex b a,DG c (X.comp scope (cmN scope) cl W8 ex b a) tg k g)(n:∀cl W8 ex b a,DTs c (X.comp scope (cmN scope) cl W8 ex b a) e ft)(i:∀cl W8 ex b a,DE c (X.comp scope (cmN scope) cl W8 ex b a) d fe)(f:autoParam (lG scope X.env.scope.names X.N (cmN scope) k js=ac) Zb)(m:autoParam (∀x,ls iter X.env x=pure x) Zd)(l:autoParam (js.Nodup) Zc):DO c X (.ListComp d [(tg,iter,e,0)] scope pos) (bg k js fi g ft fe):=jx k js _ h hi j n i f m l
seal DSs DS DX DE DO pP dEq gV f8 rQ dIs fZ rZ sr rB nh ay cV bv df bW m1 m2 dL dh sn nH mB l6 av qe kO pV gS bg ag bM dJ jB vz kM fK nN p7 bd bS pZ r9 bi pi mIx rY pX nF aI iR aO iA cK j7 bL cE gP kL mOr bf mPt jD gx bh cq eJ eI lZ io k5 ai aS aX pR cW gb mSl nu lX bO bn ae cZ ax dA qf mX pY qc k4 nO pB pC pD p9 aW iy kZ sm nJ qb qd eR aJ jw kG vIf kH vOr jH ix nM nG
set_option hygiene false
local macro_rules
|`(@1)=>do
 let a<-Zz.fs "S9 W|Ta W|Tb W|Tc W|Td W|Te W|Tf W|Tg W|Th W|Ti W|Tj W|Tk W|Tl W|Tn W|To W|Tp W|Tq W|Ts W|Tt W|Tu W|Tv W|Tw W|Tx W|Tz W|TB W|TC W|TD W|TF W|TH W|TJ W|TK W|TL W|TM W|TN W|TQ W|TR W|TU W|IJ W|TV W|TW W|TX W|TY W|TZ W|T0 W|T1 W|T3 W|T4 W|IK W|T5 W|T6 W|T7 W|T8 W|T9 W|Ua W|Ub W|Uc W|Ud W|Ue W|Uf W|Ug W|Uh W|Ui W|IL W|Uj W|Uk W|Ul W|Um W|Uo W|Up W|Uq W|Ur W|Us W|Ut W|Uu W|Uv W"
 `(by first $[|$a]*)
|`(@0)=>do
 let a:=#[<-Zz.gr "DE _ _ _ _" ((<-Zz.fs "dv _|lI|lJ ? ?|yJ ? ? ?|dvc _|OU _ ? ? ?|FU ?|NU|FT|NT|DE.orE ? ?|ni ? ? rfl W.p5 PySem.boot_len ?|NW ? ? ? ?|F0 ? ? ?|FX ?|FY ? ?|y7 1 hr ?|OV _ ? 1 hr ?|OW _ ? 1 hr|HM ( eQ _ ? ? ( eq ( pv _ ) ) )|HM ( eQ _ ? ? ( eq ( pvc _ ) ) )|pI 'In W.qq ( IM W ) .ok % ( glc rfl ) W.rs W.e_68.b ?|pI 'Out W.p0 ( IN W ) .ok % ( glc rfl ) W.rn W.e_69.b ?|pI 'In W.qq ( IM W ) .ok % rfl W.rs W.e_68.b ?|pI 'Out W.p0 ( IN W ) .ok % rfl W.rn W.e_69.b ?|pI 'Least W.o6 ( Uw W ) .ok % rfl W.qs W.e_70.b ?|pI 'Most W.pu ( Ux W ) .ok % rfl W.ro W.e_71.b ?")++#[<-`(Lean.Parser.Tactic.tacticSeq|refine Gh (T := "tuple") W.pj rfl W.nq boot_tuple rfl W.pw ?_)]++#[<-`(Lean.Parser.Tactic.tacticSeq|refine Gh (T := "bool") W.pz rfl W.nq boot_bool rfl W.qa ?_)]++(<-Zz.fs "DO.de ?")),
 <-Zz.gr "DA _ _ _ _" ((<-Zz.fs "iM ? ?|yH")),
 <-Zz.gr "DSs _ _ _ _" ((<-Zz.fs "bC ?|aF ? ?|OL")),
 <-Zz.gr "PE _ _ _" ((<-Zz.fs "pv _|pvc _")),
 <-Zz.gr "DC _ _ _ _" ((<-Zz.fs "dvC _|rG _|DE.dc ?|DO.dc ?")),
 <-Zz.gr "DO _ _ _ _" ((<-Zz.fs "NV ?|uX ? ? ?|OR 1 hr ?|Ia _ ? 1 hr ?|Q1 _ rfl rfl W.og rfl W.n0|Q4 rfl rfl W.og rfl W.n5 ?|uZ oC rfl W.og ?")),
 <-Zz.gr "DT _ _ _ _" ((<-Zz.fs "o8 ? ? ? ?|yK ?|N0 ?|DW.dt ?")),
 <-Zz.gr "DG _ _ _ _ _" ((<-Zz.fs "dgc _ _|OB _ _ !|OF rfl ?")),
 <-Zz.gr "DI _ _ _ _ _" ((<-Zz.fs "py ?|Pt rfl W.nL ?|Gn rfl W.n5 ?|QQ rfl W.n0 ?")),
 <-Zz.gr "DP _ _ _ _ _" ((<-Zz.fs "eq ?|eQ _ ? ? ?")),
 <-Zz.gr "DS _ _ _ _" ((<-Zz.fs "rJ ?|lL _ ! ?|iP ? ? ?|iQ ?|y6 _ ! ?")++#[<-`(Lean.Parser.Tactic.tacticSeq|refine e8 (kk := 99) dz rfl ?_ ?_ ?_)]++(<-Zz.fs "zJ ?|OP _|Gr ?|nj _ ?|vv _ ! ?|GN ? ? ?|pE _ dz ? ?|Gu ( kC ( jp jf uj uk uG ? ( eG ( DE.pe ? ) dY ) ) )|Gv ( kC ( jp jf xF xG yr ? ( eG ( DE.pe ? ) dY ) ) )")++#[<-`(Lean.Parser.Tactic.tacticSeq|refine HS _ ?_ ?_ (yc (show DP _ _ _ _ _ from ?_) (show DZ _ _ _ _ _ from ?_) rfl))]++#[<-`(Lean.Parser.Tactic.tacticSeq|refine Rx (kC (jp jf uj uk uG (show DP _ _ _ _ _ from ?_) (eG (DE.pe ?_) dY))))]),
 <-Zz.gr "DGs _ _ _ _ _" ((<-Zz.fs "OE ? ?|OC")),
 <-Zz.gr "DAB _ _ _ _" ((<-Zz.fs "mZ ? ?|yI")),
 <-Zz.gr "DAX _ _ _ _" ((<-Zz.fs "HF ? ?|Rn")),
 <-Zz.gr "DTs _ _ _ _" ((<-Zz.fs "yY|rF ?")),
 <-Zz.gr "DB _ _ _ _" ((<-Zz.fs "dvB _|zU ( eQ _ ? ? ( eq ( pv _ ) ) )|DE.db ?")),
 <-Zz.gr "PA _ _ _" ((<-Zz.fs "dY")),
 <-Zz.gr "DPt _ _ _ _" ((<-Zz.fs "uW ?|uV")),
 <-Zz.gr "DZ _ _ _ _ _" ((<-Zz.fs "Q6 ?|Hx ?|RO")),
 <-Zz.gr "DW _ _ _ _" ((<-Zz.fs "yM ? ?|yL ?")),
 <-Zz.gr "DX _ _ _ _" ((<-Zz.fs "HW _ ? 1 hr ?|RK _ ? 1 hr|DE.dx ?")),
 <-Zz.gr "DL _ _ _ _" ((<-Zz.fs "zV ( eQ _ ? ? ( eq ( pv _ ) ) )")),
 <-Zz.gr "Cls _ _" ((<-Zz.fs "W.ad|W.oo|W.kT|W.mu|W.nS")),
 <-Zz.gr "cP _ _ _" ((<-Zz.fs "W.hO|W.lj|W.ny|W.ld|W.ll|W.nk|W.kv|W.kr|W.ir|W.lp|W.ky|W.l0|W.kQ|W.md|W.lk|W.mm")),
 <-Zz.gr "DIe _ _ _ _ _" ((<-Zz.fs "DI.de ?")),
 <-`(Lean.Parser.Tactic.tacticSeq|refine S8 _ _ rfl ?_ ?_ ?_ ?_),
 <-do let a:=(<-Zz.fs "N8|Om")++#[<-`(Lean.Parser.Tactic.tacticSeq|((refine Oo ?_); with_unfolding_all assumption))]++(<-Zz.fs "N5|yP|yQ|F8|F9|N7|N6|Oc|Oj|Og|Ol|Oa|QC|Oe|N9|PB")++#[<-`(Lean.Parser.Tactic.tacticSeq|((refine PD ?_); with_unfolding_all assumption))]++(<-Zz.fs "Od|Ob|Oh|Of")++#[<-`(Lean.Parser.Tactic.tacticSeq|((refine Op ?_); with_unfolding_all assumption))]++(<-Zz.fs "On");`(Lean.Parser.Tactic.tacticSeq|with_reducible first $[|$a]*),
 <-`(Lean.Parser.Tactic.tacticSeq|intro _ _ _ _ _)]
 `(by repeat' first $[|$a]*)
set_option hygiene true
variable{a:Wa}
def S9(W:Wd K mg a):qD P w K mg base a 1 "_law_part_again" a.e_50 ["_law_part_here"] Bv:=by
 show W.e_50.pk (bc (F:=Bu) W.e_50.F Sv λ_ _ _ _ _ _ hr=>?_);have b:=hr.units;unfold Bu;show @0
def Us(W:Wd K mg a):qD P w K mg base a 2 "_law_again" a.e_17 ["_law_plain_here"] sx:=by
 show W.e_17.pk (bc (F:=Bw) W.e_17.F Iw λ_ _ _ _ _ _ hr=>?_);unfold Bw;have nd:=Iw.nd;show @0
def Te(W:Wd K mg a):qD P w K mg base a 1 "_law_cell_at" a.e_25 ["_law_script","_law_k"] sy:=by
 show W.e_25.pk (bc (F:=Bx) W.e_25.F Su λ_ _ _ _ _ _ hr=>?_);unfold Bx;show @0
def Uv(W:Wd K mg a):qD P w K mg base a 1 "_law_mingled" a.e_18 ["_law_ones","_law_others","_law_way"] vH:=by
 show W.e_18.pk (bc (F:=By) W.e_18.F Bo λ_ _ _ _ _ _ hr=>?_);have b:=hr.units;unfold By;have nd:=Bo.nd;show(aF (iP @0 (bC (iQ (nz @0 @0))) @0) (aF (iP @0 (bC (iQ (nz @0 @0))) @0) (aF @0 (aF (e8 (kk:=99) dz rfl (Gn rfl W.n5 (iM (Ox (Q5 rfl) rfl W.rc boot_max @0) @0)) @0 (bC (lL 3 Bo.nd (DO.de (nz (DO.de (nz @0 @0)) @0))))) @0))))
def Ta(W:Wd K mg a):qD P w K mg base a 1 "_law_part_moved" a.e_40 ["_law_part_here","_law_by"] vI:=by
 show W.e_40.pk (bc (F:=Bz) W.e_40.F Sw λ_ _ _ _ _ _ hr=>?_);have b:=hr.units;unfold Bz;show @0
def Uu(W:Wd K mg a):qD P w K mg base a 2 "_law_moved" a.e_41 ["_law_plain_here","_law_by"] BB:=by
 show W.e_41.pk (bc (F:=BA) W.e_41.F Ix λ_ _ _ _ _ _ hr=>?_);unfold BA;have nd:=Ix.nd;show @0
def Tf(W:Wd K mg a):qO P w K mg base a 1 "_law_base" a.e_28 ["_law_cell","_law_many"] BC:=by
 show W.e_28.pk (nr (F:=vJ) W.e_28.F Iu λ_ _ _ _ _ _ hr=>?_);have b:=hr.units;unfold vJ;have nd:=Iu.nd;show @0
def Tb(W:Wd K mg a):qD P w K mg base a 1 "_law_mixed" a.e_6 ["_law_cell","_law_k"] m_6:=by
 show W.e_6.pk (bc (F:=b_6) W.e_6.F Ip λ_ _ _ _ _ _ hr=>?_);unfold b_6;have nd:=Ip.nd;show @0
def Tc(W:Wd K mg a):qD P w K mg base a 2 "_law_items" a.e_39 ["_law_cell","_law_k","_law_many"] BE:=by
 show W.e_39.pk (bc (F:=BD) W.e_39.F Iq λ_ _ _ _ _ _ hr=>?_);unfold BD;have nd:=Iq.nd;show @0
def Td(W:Wd K mg a):qD P w K mg base a 3 "_law_part" a.e_26 ["_law_cell","_law_k","_law_many"] vK:=by
 show W.e_26.pk (bc (F:=BF) W.e_26.F Ir λ_ _ _ _ _ _ hr=>?_);have b:=hr.units;unfold BF;have nd:=Ir.nd;show @0
def Tg(W:Wd K mg a):qD P w K mg base a 4 "_law_rule" a.e_27 ["_law_cell","_law_many"] BH:=by
 show W.e_27.pk (bc (F:=BG) W.e_27.F Bm λ_ _ _ _ _ _ hr=>?_);have b:=hr.units;unfold BG;have nd:=Bm.nd;show(aF @0 (aF @0 (aF @0 (aF (rH 4 1 [0,1] ["_law_j","_law_cell","_law_many"] Bm.nd rfl @0 @0 @0 @0) @0))))
def IP(W:Wd K mg a):qD P w K mg base a 5 "_law_plain" a.e_11 ["_law_script","_law_top"] sA:=by
 show W.e_11.pk (bc (F:=BI) W.e_11.F Iv λ_ _ _ _ _ _ hr=>?_);have b:=hr.units;unfold BI;have nd:=Iv.nd;show @0
def Ts(W:Wd K mg a):gW P w K mg base a 1 "Seeking" "drop_wider" a.h7 ["self","bar"] BK:=by
 show W.h7.pk W.ad (gy (F:=BJ) W.h7.F sw λ_ _ _ _ _ _ hr=>?_);have b:=hr.units;unfold BJ;have nd:=sw.nd
 show(RV (w:=2) (pr:=3) (by decide) (RW (by decide)) RX (by decide) (oT sw.nd rfl (by first |show bZ rfl |show bF rfl) (ET (yK @0) (zW (hu1 b) (eQ "Seeking" W.ad W.hO (eq (pv 0))) @0 (rfl,rfl,rfl,rfl)) (uC (dY)))) (EY dz rfl (py @0) (xR sw.nd rfl (by first |show bZ rfl |show bF rfl)) (EV (yD (g:=tDG _ (ay 0)) (tt:=tDT _ (mB (m2 f8 (ae 0) (aI (iy (aW "Seeking" "watches" (aJ 2)) (ae 1)))))) (te:=tD _ (ae 0)) 1 [3,0] ["why","pair","self"] sw.nd rfl (by first |show bZ rfl |show bF rfl) rfl (xX @0) (λ_ _ _ _ _=>(DG.pg (dgc 0 1))) (λ_ _ _ _ _=>(rF (o8 @0 @0 @0 (DL.db (zW (hu1 b) (eQ "Seeking" W.ad W.hO (eq (pvc 2))) @0 (rfl,rfl,rfl,rfl)))))) (λ_ _ _ _ _=>(DE.pe @0))))) (bC (nj 2 (e8 (kk:=99) dz rfl @0 @0 (bC (iP @0 (bC (e8 (kk:=99) dz rfl (py (lJ (DL.dc (zV (eQ "Seeking" W.ad W.lj (eq (pv 0))))) @0)) @0 (bC (RS (kC (jp jf PySem.F.slot_list_remove PySem.F.type_list_remove (RQ b) (HL (hu1 b) (eQ "Seeking" W.ad W.hO (eq (pv 0))) @0) (eG (DE.pe @0) (dY)))))))) @0))))))
def Ti(W:Wd K mg a):qPD P w K mg base a 1 "In" "named" a.e_42 ["self"] vL:=by
 show W.e_42.pk W.oo (bc (F:=BL) W.e_42.F Sy λ_ _ _ _ _ _ hr=>?_);unfold BL;show @0
def Tn(W:Wd K mg a):qPD P w K mg base a 1 "In" "wants" a.e_51 ["self"] BN:=by
 show W.e_51.pk W.oo (bc (F:=BM) W.e_51.F Sz λ_ _ _ _ _ _ hr=>?_);unfold BM;show @0
def Th(W:Wd K mg a):qD P w K mg base a 1 "things_of" a.e_35 ["items"] vM:=by
 show W.e_35.pk (bc (F:=BO) W.e_35.F Sh λ_ _ _ _ _ _ hr=>?_);unfold BO;show(bC (iQ (Qi rfl rfl W.oD rfl W.ri @0)))
def Tk(W:Wd K mg a):qPD P w K mg base a 2 "Least" "named" a.e_44 ["self"] vN:=by
 show W.e_44.pk W.kT (bc (F:=BP) W.e_44.F SO λ_ _ _ _ _ _ hr=>?_);unfold BP;show @0
def Tp(W:Wd K mg a):qPD P w K mg base a 1 "Least" "wants" a.e_61 ["self"] BR:=by
 show W.e_61.pk W.kT (bc (F:=BQ) W.e_61.F SQ λ_ _ _ _ _ _ hr=>?_);unfold BQ;show @0
def Tl(W:Wd K mg a):qPD P w K mg base a 2 "Most" "named" a.e_47 ["self"] vO:=by
 show W.e_47.pk W.mu (bc (F:=BS) W.e_47.F SW λ_ _ _ _ _ _ hr=>?_);unfold BS;show @0
def Tq(W:Wd K mg a):qPD P w K mg base a 1 "Most" "wants" a.e_64 ["self"] BV:=by
 show W.e_64.pk W.mu (bc (F:=BU) W.e_64.F SX λ_ _ _ _ _ _ hr=>?_);unfold BU;show @0
def Tj(W:Wd K mg a):qPD P w K mg base a 1 "Out" "named" a.e_43 ["self"] vP:=by
 show W.e_43.pk W.nS (bc (F:=BW) W.e_43.F SG λ_ _ _ _ _ _ hr=>?_);unfold BW;show @0
def To(W:Wd K mg a):qPD P w K mg base a 1 "Out" "wants" a.e_56 ["self"] BY:=by
 show W.e_56.pk W.nS (bc (F:=BX) W.e_56.F SH λ_ _ _ _ _ _ hr=>?_);unfold BX;show @0
def Tu(W:Wd K mg a):gW P w K mg base a 3 "Seeking" "take_guard" a.h6 ["self","why","guard"] sC:=by
 show W.h6.pk W.ad (gy (F:=BZ) W.h6.F ID λ_ _ _ _ _ _ hr=>?_);have b:=hr.units;unfold BZ;have nd:=ID.nd;show(aF (RC (FD (hu1 b) (eQ "Seeking" W.ad W.kv (eq (pv 0))) (DE.pe @0) (DE.pe @0) rfl)) (aF (e8 (kk:=99) dz rfl @0 @0 (bC (e8 (kk:=99) dz rfl @0 @0 (bC (RH (kC (jp jf uj uk uG (RG (hu1 b) (eQ "Seeking" W.ad W.hO (eq (pv 0))) (DE.pe @0) (uC (dY)) (rfl,rfl,rfl,rfl)) (eG (pv 1) (dY))))))))) @0))
def IM(W:Wd K mg a):Pm P w K mg base CX0 1 (a.cl "In") "__init__" a.e_68 ["self","thing"] (spI (K,a.cl) "In" ["self","thing"].length B0):=
 W.e_68.pk W.oo (u9 W.e_68.F Sx λ_ _ _ _ _ _ hr=>(pH W.oo W.ny (pv 0) (dv 1) u8))
def IN(W:Wd K mg a):Pm P w K mg base CX0 1 (a.cl "Out") "__init__" a.e_69 ["self","thing"] (spI (K,a.cl) "Out" ["self","thing"].length vQ):=
 W.e_69.pk W.nS (u9 W.e_69.F SF λ_ _ _ _ _ _ hr=>(pH W.nS W.nk (pv 0) (dv 1) u8))
def Tt(W:Wd K mg a):qD P w K mg base a 3 "guard_of_bar" a.e_49 ["bar"] B2:=by
 show W.e_49.pk (bc (F:=B1) W.e_49.F So λ_ _ _ _ _ _ hr=>?_);unfold B1;show @0
def TB(W:Wd K mg a):gW P w K mg base a 4 "Seeking" "take_bar" a.il ["self","bar"] vR:=by
 show W.il.pk W.ad (gy (F:=B3) W.il.F IE λ_ _ _ _ _ _ hr=>?_);unfold B3;have nd:=IE.nd;show @0
def Uw(W:Wd K mg a):Pm P w K mg base CX0 1 (a.cl "Least") "__init__" a.e_70 ["self","bound","items"] (spI (K,a.cl) "Least" ["self","bound","items"].length B4):=
 W.e_70.pk W.kT (u9 W.e_70.F SN λ_ _ _ _ _ _ hr=>(pH W.kT W.lk (pv 0) (dv 1) (pH W.kT W.ld (pv 0) (DO.de (uZ oC rfl W.og (dvC 2))) u8)))
def Ux(W:Wd K mg a):Pm P w K mg base CX0 1 (a.cl "Most") "__init__" a.e_71 ["self","bound","items"] (spI (K,a.cl) "Most" ["self","bound","items"].length II):=
 W.e_71.pk W.mu (u9 W.e_71.F SV λ_ _ _ _ _ _ hr=>(pH W.mu W.mm (pv 0) (dv 1) (pH W.mu W.ll (pv 0) (DO.de (uZ oC rfl W.og (dvC 2))) u8)))
def Tv(W:Wd K mg a):qD P w K mg base a 3 "part_of" a.e_34 ["told"] B6:=by
 show W.e_34.pk (bc (F:=B5) W.e_34.F Ii λ_ _ _ _ _ _ hr=>?_);have b:=hr.units;unfold B5;have nd:=Ii.nd;show @0
def Tx(W:Wd K mg a):qD P w K mg base a 4 "body_of" a.e_2 ["rule"] m_2:=by
 show W.e_2.pk (bc (F:=b_2) W.e_2.F Ik λ_ _ _ _ _ _ hr=>?_);unfold b_2;show @0
def Tw(W:Wd K mg a):qO P w K mg base a 4 "body_of" a.e_2 ["rule"] o_2:=by
 show W.e_2.pk (nr (F:=b_2) W.e_2.F Ik λ_ _ _ _ _ _ hr=>?_);unfold b_2;show @0
def Tz(W:Wd K mg a):qD P w K mg base a 5 "guard_of" a.e_23 ["rule"] vS:=by
 show W.e_23.pk (bc (F:=B7) W.e_23.F Il λ_ _ _ _ _ _ hr=>?_);have b:=hr.units;unfold B7;have nd:=Il.nd;show @0
def Uy(W:Wd K mg a):cC P w K mg base CX0 6 a.e_10.1 a.e_10.2 ["self","plain","bars","sheet"] (iz (K,a.cl) ["self","plain","bars","sheet"].length B9):=
 gy (k:=5) (N:=["self","plain","bars","sheet","rule","number","bar"]) (F:=B8) W.e_10.F IH λcdv A outer s H W7 hr=>by
  unfold B8;have nd:=IH.nd;show @0
def Uz(W:Wd K mg a):gW P w K mg base a 8 "Seeking" "__init__" a.e_12 ["self","plain"] Cb:=by
 show W.e_12.pk W.ad (gy (F:=Ca) W.e_12.F S4 λ_ _ _ _ _ _ hr=>?_);unfold Ca;show(aF (zJ (R4 @0 rfl W.pq W.pb (Uy W) (hr.mono (by decide)) W.e_10.b @0)) @0)
def T0(W:Wd K mg a):qPD P w K mg base a 1 "In" "sure_by" a.e_53 ["self","sheet","order"] Cd:=by
 show W.e_53.pk W.oo (bc (F:=Cc) W.e_53.F SB λ_ _ _ _ _ _ hr=>?_);unfold Cc;show @0
def TC(W:Wd K mg a):qD P w K mg base a 1 "weights_of" a.e_15 ["items"] vT:=by
 show W.e_15.pk (bc (F:=Ce) W.e_15.F Bl λ_ _ _ _ _ _ hr=>?_);have b:=hr.units;unfold Ce;have nd:=Bl.nd;show(aF (zg 1 Bl.nd) (aF (e8 (kk:=99) dz rfl @0 @0 (bC (zh b @0 @0 (yJ @0 (Rj b @0 @0 @0 (rfl,rfl,rfl,rfl)) @0)))) (bC (Rl 1 @0))))
def TF(W:Wd K mg a):qD P w K mg base a 2 "enough" a.e_7 ["items","things","lack"] m_7:=by
 show W.e_7.pk (bc (F:=b_7) W.e_7.F vB λ_ _ _ _ _ _ hr=>?_);have b:=hr.units;unfold b_7;have nd:=vB.nd;show(aF @0 (aF @0 (aF @0 (aF (e8 (kk:=99) dz rfl @0 @0 (aF (lL 7 vB.nd (Rs b @0 @0 @0 (rfl,rfl,rfl,rfl))) (bC (iP @0 (aF @0 (bC (R6 5 vB.nd @0))) @0)))) @0))))
def TD(W:Wd K mg a):qD P w K mg base a 1 "with_entry" a.e_16 ["things","sheet","truth"] qh:=by
 show W.e_16.pk (bc (F:=Cf) W.e_16.F Sn λ_ _ _ _ _ _ hr=>?_);have b:=hr.units;unfold Cf;show(bC (iQ (jx 1 [2,1] ["thing","truth","sheet"] rfl @0 @0 @0 @0)))
def T3(W:Wd K mg a):qPD P w K mg base a 3 "Least" "sure_by" a.e_63 ["self","sheet","order"] Ch:=by
 show W.e_63.pk W.kT (bc (F:=Cg) W.e_63.F SS λ_ _ _ _ _ _ hr=>?_);unfold Cg;show @0
def TH(W:Wd K mg a):qD P w K mg base a 1 "worth_of" a.e_36 ["items"] vU:=by
 show W.e_36.pk (bc (F:=Ci) W.e_36.F Sk λ_ _ _ _ _ _ hr=>?_);unfold Ci;show(bC (rJ (ni (yR rfl) yS rfl W.p6 boot_sum @0)))
def T4(W:Wd K mg a):qPD P w K mg base a 3 "Most" "sure_by" a.e_66 ["self","sheet","order"] Ck:=by
 show W.e_66.pk W.mu (bc (F:=Cj) W.e_66.F SZ λ_ _ _ _ _ _ hr=>?_);unfold Cj;show @0
def T1(W:Wd K mg a):qPD P w K mg base a 1 "Out" "sure_by" a.e_58 ["self","sheet","order"] Cn:=by
 show W.e_58.pk W.nS (bc (F:=Cm) W.e_58.F SJ λ_ _ _ _ _ _ hr=>?_);unfold Cm;show @0
def TV(W:Wd K mg a):qPD P w K mg base a 1 "In" "lost_by" a.e_55 ["self","sheet","without","order"] Cp:=by
 show W.e_55.pk W.oo (bc (F:=Co) W.e_55.F SE λ_ _ _ _ _ _ hr=>?_);unfold Co;show @0
def TJ(W:Wd K mg a):qD P w K mg base a 1 "outside" a.e_37 ["items","without"] vV:=by
 show W.e_37.pk (bc (F:=Cq) W.e_37.F Sm λ_ _ _ _ _ _ hr=>?_);unfold Cq;show @0
def TX(W:Wd K mg a):qPD P w K mg base a 3 "Least" "lost_by" a.e_46 ["self","sheet","without","order"] Cs:=by
 show W.e_46.pk W.kT (bc (F:=Cr) W.e_46.F Iz λ_ _ _ _ _ _ hr=>?_);unfold Cr;have nd:=Iz.nd;show @0
def TY(W:Wd K mg a):qPD P w K mg base a 3 "Most" "lost_by" a.e_67 ["self","sheet","without","order"] Cu:=by
 show W.e_67.pk W.mu (bc (F:=Ct) W.e_67.F S3 λ_ _ _ _ _ _ hr=>?_);unfold Ct;show @0
def TW(W:Wd K mg a):qPD P w K mg base a 1 "Out" "lost_by" a.e_60 ["self","sheet","without","order"] Cw:=by
 show W.e_60.pk W.nS (bc (F:=Cv) W.e_60.F SM λ_ _ _ _ _ _ hr=>?_);unfold Cv;show @0
def TM(W:Wd K mg a):qPD P w K mg base a 1 "In" "lost" a.e_29 ["self","sheet","without"] sD:=by
 show W.e_29.pk W.oo (bc (F:=Cy) W.e_29.F SD λ_ _ _ _ _ _ hr=>?_);unfold Cy;show(bC (rJ (N1 @0 @0)))
def TK(W:Wd K mg a):qD P w K mg base a 1 "worth_not_out" a.e_14 ["items","sheet"] qi:=by
 show W.e_14.pk (bc (F:=Cz) W.e_14.F Sj λ_ _ _ _ _ _ hr=>?_);unfold Cz;show(bC (rJ (ni (yR rfl) yS rfl W.p6 boot_sum @0)))
def TQ(W:Wd K mg a):qPD P w K mg base a 2 "Least" "lost" a.e_31 ["self","sheet","without"] sE:=by
 show W.e_31.pk W.kT (bc (F:=CA) W.e_31.F SU λ_ _ _ _ _ _ hr=>?_);unfold CA;show @0
def TL(W:Wd K mg a):qD P w K mg base a 1 "worth_in" a.e_21 ["items","entries"] sF:=by
 show W.e_21.pk (bc (F:=CB) W.e_21.F Si λ_ _ _ _ _ _ hr=>?_);unfold CB;show(bC (rJ (ni (yR rfl) yS rfl W.p6 boot_sum @0)))
def TR(W:Wd K mg a):qPD P w K mg base a 2 "Most" "lost" a.e_32 ["self","sheet","without"] sG:=by
 show W.e_32.pk W.mu (bc (F:=CC) W.e_32.F S0 λ_ _ _ _ _ _ hr=>?_);unfold CC;show @0
def TN(W:Wd K mg a):qPD P w K mg base a 1 "Out" "lost" a.e_30 ["self","sheet","without"] sH:=by
 show W.e_30.pk W.nS (bc (F:=CD) W.e_30.F SL λ_ _ _ _ _ _ hr=>?_);unfold CD;show @0
def IJ(W:Wd K mg a):qD P w K mg base a 3 "lost_part" a.e_5 ["body","sheet","without"] m_5:=by
 show W.e_5.pk (bc (F:=b_5) W.e_5.F Io λ_ _ _ _ _ _ hr=>?_);unfold b_5;have nd:=Io.nd;show @0
def TU(W:Wd K mg a):qD P w K mg base a 1 "marks" a.e_1 ["many","some"] m_1:=by
 show W.e_1.pk (bc (F:=b_1) W.e_1.F qg λ_ _ _ _ _ _ hr=>?_);have b:=hr.units;unfold b_1;have nd:=qg.nd;show(aF (zg 2 qg.nd) (aF (e8 (kk:=99) dz rfl @0 @0 (bC (zh b @0 @0 @0))) (bC (nj 2 (iQ (jx 1 [2] ["thing","listed"] rfl @0 @0 @0 (λ_ _ _ _ _=>(GM b @0 @0))))))))
def T5(W:Wd K mg a):qO P w K mg base a 1 "marks" a.e_1 ["many","some"] o_1:=by
 show W.e_1.pk (nr (F:=b_1) W.e_1.F qg λ_ _ _ _ _ _ hr=>?_);have b:=hr.units;unfold b_1;have nd:=qg.nd;show(aF (zg 2 qg.nd) (aF (e8 (kk:=99) dz rfl @0 @0 (bC (zh b @0 @0 @0))) (bC (nj 2 (iQ (jx 1 [2] ["thing","listed"] rfl @0 @0 @0 (λ_ _ _ _ _=>(GM b @0 @0))))))))
def TZ(W:Wd K mg a):qPO P w K mg base a 4 "Seeking" "grounds_of_group" a.e_9 ["self","sheet","group","order"] o_9:=by
 show W.e_9.pk W.ad (nr (F:=b_9) W.e_9.F Br λ_ _ _ _ _ _ hr=>?_);unfold b_9;have nd:=Br.nd
 show(aF @0 (aF (y6 5 Br.nd (by show uX ?a ?b ?c;(case a=>show(DO.de (jx 1 [4,1] ["thing","without","sheet"] rfl (DI.de (py (dv 3))) (λ_ _ _ _ _=>(dgc 0 1)) (λ_ _ _ _ _=>(rF (DW.dt (yM (yK (DE.db (lJ (rG 1) (dvc 0)))) (yL (o8 F8 F9 (DE.db (lJ (rG 2) (dvc 0))) (DE.db FT))))))) (λ_ _ _ _ _=>(dvc 0)))));(case b=>show uV);(case c=>show(uW lI)))) @0))
def IK(W:Wd K mg a):qPO P w K mg base a 5 "Seeking" "grounds" a.e_4 ["self","sheet","why","order"] o_4:=by
 show W.e_4.pk W.ad (nr (F:=b_4) W.e_4.F IC λ_ _ _ _ _ _ hr=>?_);have b:=hr.units;unfold b_4;have nd:=IC.nd;show(aF @0 (aF @0 (aF @0 (aF (e8 (kk:=99) dz rfl (py (R8 (hu1 b) @0 @0)) @0 @0) @0))))
def UA(W:Wd K mg a):qD P w K mg base a 1 "needed_first" a.e_38 ["order","needed"] vW:=by
 show W.e_38.pk (bc (F:=CF) W.e_38.F Ss λ_ _ _ _ _ _ hr=>?_);unfold CF;show(bC (iQ (nz @0 @0)))
def T6(W:Wd K mg a):qD P w K mg base a 1 "own_why" a.e_24 ["why"] sI:=by
 show W.e_24.pk (bc (F:=CG) W.e_24.F Sr λ_ _ _ _ _ _ hr=>?_);have b:=hr.units;unfold CG;show @0
def T7(W:Wd K mg a):gW P w K mg base a 6 "Seeking" "line_to" a.e_19 ["self","why"] CI:=by
 show W.e_19.pk W.ad (gy (F:=CH) W.e_19.F vE λ_ _ _ _ _ _ hr=>?_);unfold CH;have nd:=vE.nd;show(aF (y6 2 vE.nd (uZ oC rfl W.og (DL.dc (zV (eQ "Seeking" W.ad W.ir (eq (pv 0))))))) (aF (rH 5 2 [] ["pair","cause"] vE.nd rfl (HY @0) @0 @0 @0) (aF @0 (aF @0 (aF @0 (aF (Ic 0 "Seeking" "steps" (e8 (kk:=99) dz rfl @0 @0 (aF @0 (aF (iP @0 @0 (bC (iP @0 (aF @0 (aF (GN @0 @0 (FZ @0)) (bC (e8 (kk:=99) dz rfl (py (DO.de (Ia "Seeking" @0 (IK W) hr (mZ @0 (mZ @0 (mZ (Hi (UA W) hr @0) @0)))))) @0 @0)))) @0))) @0)))) @0))))))
def T8(W:Wd K mg a):gW P w K mg base a 1 "Seeking" "place_for" a.e_33 ["self","bar"] CK:=by
 show W.e_33.pk W.ad (gy (F:=CJ) W.e_33.F Bq λ_ _ _ _ _ _ hr=>?_);have b:=hr.units;unfold CJ;show(aF (rH 2 2 [] ["place","step"] Bq.nd rfl @0 @0 @0 @0) (aF (rH 3 1 [0] ["place","self"] Bq.nd rfl @0 @0 @0 @0) (bC (Gr (lJ @0 (F0 @0 @0 (yJ @0 (Rq (jp jf PySem.F.slot_list_index PySem.F.type_list_index (HG b) (DE.pe @0) (eG (DE.pe (lJ @0 (Oi @0))) (dY)))) @0)))))))
def T9(W:Wd K mg a):gW P w K mg base a 1 "Seeking" "take_back" a.ii ["self","many"] CM:=by
 show W.ii.pk W.ad (gy (F:=CL) W.ii.F IF λ_ _ _ _ _ _ hr=>?_);unfold CL;have nd:=IF.nd;show(aF (e8 (kk:=99) dz rfl @0 @0 (bC (HN (xU (DE.pe @0) (xT (eQ "Seeking" W.ad W.ir (eq (pv 0))) (DE.pe @0) ym (by intro _;rfl)) rfl rfl rfl)))) @0)
def Ur(W:Wd K mg a):gW P w K mg base a 7 "Seeking" "close" a.e_13 ["self","why"] qj:=by
 show W.e_13.pk W.ad (gy (F:=CN) W.e_13.F IB λ_ _ _ _ _ _ hr=>?_);unfold CN;have nd:=IB.nd;show @0
def IL(W:Wd K mg a):gW P w K mg base a 1 "Seeking" "put" a.kF ["self","thing","truth","why"] qk:=by
 show W.kF.pk W.ad (gy (F:=CO) W.kF.F S5 λ_ _ _ _ _ _ hr=>?_);have b:=hr.units;unfold CO;show(aF (HN (xU (DE.pe @0) (xT (eQ "Seeking" W.ad W.ir (eq (pv 0))) (DE.pe @0) ym (by intro _;rfl)) rfl rfl rfl)) (aF @0 (bC (Ry (kC (jp jf xF xG yr (eQ "Seeking" W.ad W.kr (eq (pv 0))) (eG (zW (hu1 b) (eQ "Seeking" W.ad W.hO (eq (pv 0))) @0 (rfl,rfl,rfl,rfl)) (dY))))))))
def Ub(W:Wd K mg a):qPD P w K mg base a 1 "In" "sure" a.e_52 ["self","sheet"] CQ:=by
 show W.e_52.pk W.oo (bc (F:=CP) W.e_52.F SA λ_ _ _ _ _ _ hr=>?_);unfold CP;show @0
def Uf(W:Wd K mg a):qPD P w K mg base a 1 "In" "tips" a.e_54 ["self","sheet"] CT:=by
 show W.e_54.pk W.oo (bc (F:=CS) W.e_54.F SC λ_ _ _ _ _ _ hr=>?_);unfold CS;show @0
def Ud(W:Wd K mg a):qPD P w K mg base a 2 "Least" "sure" a.e_62 ["self","sheet"] CV:=by
 show W.e_62.pk W.kT (bc (F:=CU) W.e_62.F SR λ_ _ _ _ _ _ hr=>?_);unfold CU;show @0
def Ua(W:Wd K mg a):qD P w K mg base a 2 "heavy" a.e_22 ["items","sheet","lack"] vX:=by
 show W.e_22.pk (bc (F:=CW) W.e_22.F Ij λ_ _ _ _ _ _ hr=>?_);have b:=hr.units;unfold CW;have nd:=Ij.nd;show(aF @0 (bC (iQ (jx 1 [2,3] ["thing","lack","weights"] rfl (DI.de (Rh @0)) @0 (λ_ _ _ _ _=>(rF (o8 @0 @0 (DE.db (Ri b @0 @0)) @0))) @0))))
def Uh(W:Wd K mg a):qPD P w K mg base a 3 "Least" "tips" a.e_45 ["self","sheet"] CZ:=by
 show W.e_45.pk W.kT (bc (F:=CY) W.e_45.F Iy λ_ _ _ _ _ _ hr=>?_);unfold CY;have nd:=Iy.nd;show @0
def Ue(W:Wd K mg a):qPD P w K mg base a 2 "Most" "sure" a.e_65 ["self","sheet"] C3:=by
 show W.e_65.pk W.mu (bc (F:=C0) W.e_65.F SY λ_ _ _ _ _ _ hr=>?_);unfold C0;show @0
def Ui(W:Wd K mg a):qPD P w K mg base a 3 "Most" "tips" a.e_48 ["self","sheet"] C5:=by
 show W.e_48.pk W.mu (bc (F:=C4) W.e_48.F IA λ_ _ _ _ _ _ hr=>?_);unfold C4;have nd:=IA.nd;show @0
def Uc(W:Wd K mg a):qPD P w K mg base a 1 "Out" "sure" a.e_57 ["self","sheet"] C7:=by
 show W.e_57.pk W.nS (bc (F:=C6) W.e_57.F SI λ_ _ _ _ _ _ hr=>?_);unfold C6;show @0
def Ug(W:Wd K mg a):qPD P w K mg base a 1 "Out" "tips" a.e_59 ["self","sheet"] C9:=by
 show W.e_59.pk W.nS (bc (F:=C8) W.e_59.F SK λ_ _ _ _ _ _ hr=>?_);unfold C8;show @0
def UB(W:Wd K mg a):Pk P w K mg base CX0 4 "pressed_by" a.e_72 ["guard","sheet"] (spN (K,a.cl) ["guard","sheet"].length Dc):=by
 show W.e_72.pk (RT (F:=Da) W.e_72.F Im λ_ _ _ _ _ _ hr=>?_);have b:=hr.units;unfold Da;have nd:=Im.nd;show(aF @0 (aF @0 (aF @0 (bC (iQ (jx 2 [] ["thing","truth"] rfl @0 @0 @0 (λ_ _ _ _ _=>(FU (iM @0 (iM (FZ @0) @0))))))))))
def Uo(W:Wd K mg a):gW P w K mg base a 5 "Seeking" "look_round" a.h8 ["self"] De:=by
 show W.h8.pk W.ad (gy (F:=Dd) W.h8.F vF λ_ _ _ _ _ _ hr=>?_);have b:=hr.units;unfold Dd;have nd:=vF.nd;show(aF (pE 1000000000 dz @0 (aF (vv 1 vF.nd (Rz (jp jf PySem.F.slot_list_pop PySem.F.type_list_pop Nl (eQ "Seeking" W.ad W.kr (eq (pv 0))) (eG ER (dY))))) (aF (lL 2 vF.nd (RU (UB W) hr (mZ (zU (HL (hu1 b) (eQ "Seeking" W.ad W.kv (eq (pv 0))) @0)) @0))) @0))) @0)
def Uk(W:Wd K mg a):qPD P w K mg base a 3 "Seeking" "keeping" a.jl ["self","part","without"] Dh:=by
 show W.jl.pk W.ad (bc (F:=Dg) W.jl.F S7 λ_ _ _ _ _ _ hr=>?_);unfold Dg;show @0
def Uj(W:Wd K mg a):qPD P w K mg base a 4 "Seeking" "lost_parts" a.h9 ["self","thing","without"] Dj:=by
 show W.h9.pk W.ad (bc (F:=Di) W.h9.F S6 λ_ _ _ _ _ _ hr=>?_);have b:=hr.units;unfold Di;show(bC (iQ (jx 2 [2,0,1] ["head","body","without","self","thing"] rfl @0 @0 @0 @0)))
def Um(W:Wd K mg a):qPO P w K mg base a 5 "Seeking" "kernel" a.j3 ["self","thing","without"] l7:=by
 show W.j3.pk W.ad (nr (F:=sJ) W.j3.F Bt λ_ _ _ _ _ _ hr=>?_);unfold sJ;have nd:=Bt.nd;show(aF @0 (aF @0 (aF (pE 1000000000 dz @0 (aF (e8 (kk:=99) dz rfl @0 @0 (bC (Gv (kC (jp jf xF xG yr (pv 3) (eG (DE.pe (DO.de (jx 1 [3] ["other","found"] rfl @0 @0 (λ_ _ _ _ _=>(rF (o8 Ou Oq @0 (OK 1)))) @0))) (dY))))))) (bC (Rp 4 Bt.nd @0)))) (bC (nj 3 (iQ (Qy rfl rfl W.oD @0)))))))
def Ul(W:Wd K mg a):gW P w K mg base a 4 "Seeking" "loose_marks" a.hY ["self"] Dl:=by
 show W.hY.pk W.ad (gy (F:=Dk) W.hY.F vG λ_ _ _ _ _ _ hr=>?_);unfold Dk;have nd:=vG.nd;show(aF (ON 1 1 [] ["entry"] vG.nd rfl (HY @0) (λ_ _ _ _ _=>@0) (λ_ _ _ _ _=>@0) (λ_ _ _ _ _=>@0)) (aF @0 (aF @0 (aF @0 (aF (pE 1000000000 dz @0 (aF @0 (aF @0 (aF (e8 (kk:=99) dz rfl @0 @0 (bC (iP (DW.dt (yM @0 (yL (o8 @0 @0 (Hi (IJ W) hr @0) @0)))) @0 @0))) (aF @0 (bC (lL 4 vG.nd (FY @0 (FX (ni (Pl rfl) Pn rfl W.q4 boot_any @0)))))))))) (aF (nj 2 (HS "Seeking" W.ad W.ky (yc (eq (pv 0)) (Hx (DO.de (nz @0 @0))) rfl))) @0))))))
def Up(W:Wd K mg a):gW P w K mg base a 6 "Seeking" "put_loose_out" a.g5 ["self"] Do:=by
 show W.g5.pk W.ad (gy (F:=Dn) W.g5.F Bs λ_ _ _ _ _ _ hr=>?_);unfold Dn;have nd:=Bs.nd;show(aF @0 (aF (rH 3 2 [1] ["thing","entry","without"] Bs.nd rfl (RN rfl W.nL @0) @0 @0 @0) @0))
def Uq(W:Wd K mg a):gW P w K mg base a 7 "Seeking" "settle" a.j0 ["self"] sK:=by
 show W.j0.pk W.ad (gy (F:=Dr) W.j0.F IG λ_ _ _ _ _ _ hr=>?_);unfold Dr;have nd:=IG.nd;show @0
def UC(W:Wd K mg a):qO P w K mg base a 1 "numbers" a.e_20 ["truths"] sL:=by
 show W.e_20.pk (nr (F:=Ds) W.e_20.F Sg λ_ _ _ _ _ _ hr=>?_);unfold Ds;show @0
def IQ(W:Wd K mg a):gW P w K mg base a 8 "Seeking" "another" a.e_8 ["self"] m_8:=by
 show W.e_8.pk W.ad (gy (F:=b_8) W.e_8.F Bp λ_ _ _ _ _ _ hr=>?_);have b:=hr.units;unfold b_8;have nd:=Bp.nd;show(aF (pE 1000000000 dz @0 (aF @0 (bC (iP @0 @0 (bC (iP @0 (bC (zJ (HW "Seeking" @0 (IL W) hr (HF (DE.dx (R7 (jp jf PySem.F.slot_list_index PySem.F.type_list_index (HG b) (zU (eQ "Seeking" W.ad W.ir (eq (pv 0)))) (eG (DE.pe @0) (dY))))) @0)))) (aF (lL 2 Bp.nd (DO.de (Qu (UC W) hr @0))) (aF @0 (aF (R5 "Seeking" W.ad W.kQ @0 @0) @0))))))))) @0)
def Ut(W:Wd K mg a):qD P w K mg base a 10 "worlds" a.e_0 ["plain","most"] m_0:=by
 show W.e_0.pk (Sa (F:=b_0) W.e_0.F ss λ_ _ _ _ _ _ hr=>?_);unfold b_0;have nd:=ss.nd;show(aF (Q7 2 ss.nd (RM "Seeking" W.n7 (Uz W).ok (hr.mono (by decide)) rfl W.p4 W.e_12.b @0)) (aF @0 (aF (vv 4 ss.nd (HX "Seeking" @0 (IQ W) hr)) (aF (pE 1000000000 dz @0 (aF @0 (bC (vv 4 ss.nd (HX "Seeking" @0 (IQ W) hr))))) (aF (iP @0 (bC (nj 3 (Ic 2 "Seeking" "paper" @0))) @0) @0)))))
def UD(W:Wd K mg a):qD P w K mg base a 11 "law" a.e_3 ["_law_script"] m_3:=by
 show W.e_3.pk (bc (F:=b_3) W.e_3.F vC λ_ _ _ _ _ _ hr=>?_);have d:=hr.units;unfold b_3;have nd:=vC.nd
 show(aF (lL 1 vC.nd (y7 (IP W) hr (iM (DO.de (by show uX ?a ?b ?c;(case a=>show(DO.de (jx 1 [0] ["_law_k","_law_script"] rfl (DI.de (Ih rfl W.n5 (iM lI (iM (ni yP yQ rfl W.p5 PySem.boot_len (mZ (DE.db (dv 0)) yI)) (iM lI yH))))) (λ_ _ _ _ _=>(dgc 0 1)) (λ_ _ _ _ _=>yY) (λ_ _ _ _ _=>(lJ (rG 1) (dvc 0))))));(case b=>show uV);(case c=>show(uW lI)))) @0))) (aF (lL 2 vC.nd (y7 (IP W) hr (iM (DO.de (by show uX ?a ?b ?c;(case a=>show(DO.de (jx 1 [0] ["_law_k","_law_script"] rfl (DI.de (Ih rfl W.n5 (iM lI (iM (ni yP yQ rfl W.p5 PySem.boot_len (mZ (DE.db (dv 0)) yI)) (iM lI yH))))) (λ_ _ _ _ _=>(dgc 0 1)) (λ_ _ _ _ _=>yY) (λ_ _ _ _ _=>(lJ (rG 1) (dvc 0))))));(case b=>show uV);(case c=>show(uW lI)))) @0))) (aF @0 (aF @0 (aF @0 (aF @0 (aF @0 (aF @0 (aF (e8 (kk:=99) dz rfl @0 @0 (bC (e8 (kk:=99) dz rfl @0 @0 (bC (Gu (kC (jp jf uj uk uG (pv 8) (eG (DE.pe (DO.de (nz @0 @0))) (dY))))))))) (aF (iP (DW.dt (FW @0 (FW @0 (NZ @0)))) @0 @0) @0))))))))))
unseal DSs DS DX DE DO pP dEq gV f8 rQ dIs fZ rZ sr rB nh ay cV bv df bW m1 m2 dL dh sn nH mB l6 av qe kO pV gS bg ag bM dJ jB vz kM fK nN p7 bd bS pZ r9 bi pi mIx rY pX nF aI iR aO iA cK j7 bL cE gP kL mOr bf mPt jD gx bh cq eJ eI lZ io k5 ai aS aX pR cW gb mSl nu lX bO bn ae cZ ax dA qf mX pY qc k4 nO pB pC pD p9 aW iy kZ sm nJ qb qd eR aJ jw kG vIf kH vOr jH ix nM nG
local macro_rules | `(tactic| walk_at "nrm")=>`(tactic| simp only [G8,qK,tW])
def p60:(0:Int)<10 ^ S (60:Int):=by decide
def IR:mS 10 60:=(by decide,by decide,by decide)
variable{M:LS}
def UE{d c:Type}{k:Nat}{js:LN}(E:List d)(f:d->D)(q:c->D)(P:c->Prop)
 (hi:fi M=aa (E.map f))(hz:Z E<=16777216)(i:∀x∈E,∃z,P z/\gR g ft fe (iN k js M) (f x)=aa (aa (q z))):∃a:List c,bg k js fi g ft fe M=aa (a.map q)/\Z a=Z E/\∀z∈a,P z:=by
 have key:∀b:List d,(∀x∈b,∃z,P z/\gR g ft fe (iN k js M) (f x)=aa (aa (q z)))->∃a:List c,e7 (gR g ft fe (iN k js M)) (b.map f)=aa (a.map q)/\Z a=Z b/\∀z∈a,P z:=by
  intro b
  induction b with
  |nil=>intro _;show⟨[],rfl,rfl,λz hz=>nomatch hz⟩
  |cons y b m=>
   intro h;have(z,u,n):=h y aA;have(a,e,l,p):=m λx j=>h x (bj _ j);show(z::a,?_,by rw[cf,cf,l],λw r=>?_)
   .rw[bG];unfold e7
    grind
   .grind
 have(a,e,l,p):=key E i;show(a,?_,l,p);unfold bg
 grind
abbrev nmP:Prt->LI0
 |.inn t=>[t]
 |.out t=>[t]
 |.least _ L=>L.map (·.1)
 |.most _ L=>L.map (·.1)
variable{f:MF1}
def nP{g:MF1}{a b:LD}(h:f M=aa (.lst a))(h':g M=aa (.lst b))(c:Z a+Z b<=16777216):gS f g M=aa (a++b):=by
 unfold gS
 grind
def inS(E:LI0)(i:Nat):Bool:=E.any λx=>x==(i:Int)
def UF(ks:List Key)(k j:Key):gt (ip ks k) j=(gt ks j || decide (k=j)):=by
 unfold ip
 by_cases e:gt ks k=ac
 .grind
 .rw[if_neg e];unfold gt;simp
def UG(ks:List Key)(k:Key):Z (ip ks k)<=Z ks+1:=by
 unfold ip
 grind
variable{i:Nat}{fk fv:MF1}{d:L2.D}{E:LD}
def UH{x:D}{k:Key}{ks:List Key}(a:fv M=aa d)(h2:fk M=aa x)(b:jC x=aa k)(c:M[i]?=aa (.ownd ks E))(e:Z ks<16777216):
  jD i fk fv M=aa (.nx (M.set i (.ownd (ip ks k) (iT ks E k d)))):=by
 unfold jD
 grind
def IS(n:Int)(E:LI0)(d:0<=n)(m:n<=60)(i:Z E<=1000000):b_1 (f6 4 [.int n,.lst (E.map D.int)])=aa (.rtO (((bw (S n)).map (inS E)).map D.bl)):=by
 have(ρ',e,ks,ds,b,rfl,c,a):=O2 (g:=ay 3) (F:=jD 2 (ae 3) (λ_=>aa _)) (fi:=aS (ae 1)) E D.int
  (λpre M=>∃(ks:List Key) (ds:LD) (b:Sl),M=[.im (.int n),.im (.lst (E.map D.int)),.ownd ks ds,b]/\Z ks<=Z pre/\∀k:Int,gt ks (.inl k)=pre.any λx=>x==k)
  rfl ([],[],.no,rfl,aM _,λ_=>rfl) (by
   rintro pre x post M ex ⟨ks,ds,b,rfl,c,a⟩;have l:Z pre<Z E:=by rw[ex];simp
   show(_,_,rfl,.inl (UH rfl rfl rfl rfl (by lia)),ip ks _,_,_,rfl,?_,λk=>?_)
   .have:=UG ks (.inl x);rw[aP];change _<=Z pre+1
    lia
   .rw[UF,a,any_append]
    congr 1
    simp only[gD,any_nil,tP]
    by_cases h:x=k
    .subst h;simp
    .rw[decide_eq_false (λq=>h (ut q))];show(beq_eq_false_iff_ne.mpr h).symm)
 show pJ rfl (pJ e ?_);rw[map_map];show congrArg _ (fh _ _ _ (pN rfl d (by lia)) (by rw[bU];lia) λj f=>?_);show eM rfl rfl (ap rfl rfl ?_);change aa _=_;rw[a];rfl
def IT(n:Int)(E:LI0)(b:0<=n)(c:n<=60)(a:Z E<=1000000):m_1 [.int n,.lst (E.map D.int)]=aa (.lst (((bw (S n)).map (inS E)).map D.bl)):=lM (IS n E b c a)
def sM(ws:LB0):LI0:=((bw (Z ws)).filter λi=>ws.getD i af).map λ(i:Nat)=>(i:Int)
def vY(ws:LB0)(i:Int):i∈sM ws↔0<=i/\ws.getD i.toNat af=ac:=by
 unfold sM;rw[aG];constructor
 .rintro⟨j,a,rfl⟩;have(_,b):=cg.mp a;show(by lia,by show b)
 .rintro⟨d,h⟩;show(S i,cg.mpr (fF.mpr ?_,h),by lia)
  by_cases c:S i<Z ws
  .show c
  .rw[bp,gB (by lia)]at h
   nomatch h
def IU(p:Prt):B6 [p.toD]=aa p.obj:=by
 cases p <;> rfl
variable{es:LOB}{L:LII}
def Dt(h:InN es.length L)(hz:Z L<=100000):sF [.lst (L.map itD),.lst (es.map shD)]=aa (.int (cI (·==aa ac) es L)):=by
 show dk (di (aE (aj (bB (e9 L itD _ _ rfl (by lia) λz a=>(dP rfl (bE (ap (aY rfl rfl (jz (h z a).1 (h z a).2.1)) rfl (pO _ _))) λ_=>rfl))) rfl) (zb (λt=>es.getD t.toNat ab==aa ac) L)))
def Du(h:InN es.length L)(hz:Z L<=100000):qi [.lst (L.map itD),.lst (es.map shD)]=aa (.int (cI (λe=>!(e==aa af)) es L)):=by
 show dk (di (aE (aj (bB (e9 L itD _ _ rfl (by lia) λz a=>(dP rfl (bE (ap (aY rfl rfl (jz (h z a).1 (h z a).2.1)) rfl (GG _ _))) λ_=>rfl))) rfl) (zb (λt=>!(es.getD t.toNat ab==aa af)) L)))
variable{ws:LB0}
def IV(h:InN es.length L)(c:Z ws=Z es)(hz:Z L<=100000):
  vV [.lst (L.map itD),.lst (ws.map D.bl)]=aa (.lst ((L.filter λz=>!(ws.getD z.1.toNat af)).map itD)):=by
 show lM (congrArg _ (e9 L itD _ itD rfl (by lia) λz a=>?_));have b:=h z a;show dP rfl (pK (dB (aY rfl rfl (j4 b.1 (by rw[c];show b.2.1))) rfl)) λ_=>rfl
def UI(h:InN es.length L)(hz:Z L<=100000):
  qi [.lst ((L.filter λz=>!(ws.getD z.1.toNat af)).map itD),.lst (es.map shD)]=aa (.int (bR (λt=>!(es.getD t.toNat ab==aa af) && !(ws.getD t.toNat af)) L)):=by
 have c:=gC (λz:Int×Int=>!(ws.getD z.1.toNat af)) L;have a:InN es.length (L.filter λz=>!(ws.getD z.1.toNat af)):=λz b=>h z (cg.mp b).1;show(Du a (by lia)).trans (congrArg (λz=>aa _) (FM (λt=>!(es.getD t.toNat ab==aa af)) (λt=>!(ws.getD t.toNat af)) L))
def UJ(p:Prt)(h:p.Ok (Z es))(a:Z ws=Z es):∀m,m=(match p with |.inn _=>sD |.out _=>sH |.least _ _=>sE |.most _ _=>sG) ->
  m [p.obj,.lst (es.map shD),.lst (ws.map D.bl)]=aa (.bl (p.lost es ws)):=by
 intro m e;subst e
 cases p with
 |inn t=>show dk (di (GF (ap (aY rfl rfl (jz h.1 h.2)) rfl (pO _ _)) (aY rfl rfl (j4 h.1 (by rw[a];show h.2)))))
 |out t=>show dk (di (ap (aY rfl rfl (jz h.1 h.2)) rfl (pO _ _)))
 |least k L=>show dk (di (ap (aE (aj (aE rfl (IV h.1 a h.2)) (aj rfl rfl)) (UI h.1 h.2)) rfl rfl))
 |most k L=>show dk (di (ap (aE rfl (Dt h.1 h.2)) rfl rfl))
variable{fo:MF1}{fa:MF2}
def IX(p:Prt)(h:p.Ok (Z es))(b:Z ws=Z es)(a:fo M=aa p.obj)(ha:fa M=aa [.lst (es.map shD),.lst (ws.map D.bl)]):
  bf (aO "In" "lost" sD fo fa) (bf (aO "Out" "lost" sH fo fa) (bf (aO "Least" "lost" sE fo fa) (aO "Most" "lost" sG fo fa))) M=aa (.bl (p.lost es ws)):=by
 have hm:=UJ p h b _ rfl
 cases p with
 |inn t=>show dQ ((cD a rfl ha).trans hm)
 |out t=>show bH (bI a (by decide)) (dQ ((cD a rfl ha).trans hm))
 |least k L=>show bH (bI a (by decide)) (bH (bI a (by decide)) (dQ ((cD a rfl ha).trans hm)))
 |most k L=>show bH (bI a (by decide)) (bH (bI a (by decide)) (bH (bI a (by decide)) ((cD a rfl ha).trans hm)))
def UK(p:Prt)(h:p.Ok (Z es))(a:fo M=aa p.obj)(ha:fa M=aa [.lst (es.map shD)]):
  bf (aO "In" "sure" CQ fo fa) (bf (aO "Out" "sure" C7 fo fa) (bf (aO "Least" "sure" CV fo fa) (aO "Most" "sure" C3 fo fa))) M=aa (.bl (p.sure es)):=by
 cases p with
 |inn t=>show dQ ((cD a rfl ha).trans (dk (di (ap (aY rfl rfl (jz h.1 h.2)) rfl (pO _ _)))))
 |out t=>show bH (bI a (by decide)) (dQ ((cD a rfl ha).trans (dk (di (ap (aY rfl rfl (jz h.1 h.2)) rfl (pO _ _))))))
 |least k L=>show bH (bI a (by decide)) (bH (bI a (by decide)) (dQ ((cD a rfl ha).trans (dk (di (ap (aE rfl (Dt h.1 h.2)) rfl rfl))))))
 |most k L=>show bH (bI a (by decide)) (bH (bI a (by decide)) (bH (bI a (by decide)) ((cD a rfl ha).trans (dk (di (ap (aE rfl (Du h.1 h.2)) rfl rfl))))))
variable{n:Nat}
def UL(r:Rul)(h:r.Ok n):m_2 [r.toD]=aa (.lst (r.ps.map Prt.obj)):=
 lM (congrArg _ (fh r.ps Prt.toD Prt.obj rfl (by have:=h.len;lia) λp _=>eM rfl rfl (aE rfl (IU p))))
structure Spr where
 es:LOB
 st:LD
 bs:LD
 gk:List (List Key)
 gd:LD
 ws:List (List Key×LD)
 wt:LD
 mks:D
 tl:List (Str×O)
def lsO(ds:LD):O:=.lst (ds.map .fz)
def wsO(ws:List (List Key×LD)):O:=.dT (ws.map (·.1)) (ws.map λp=>lsO p.2)
nonrec def spN:LSt:=["sheet","steps","bars","guards","watches","waiting","makers"]
nonrec def iY(tl:List (Str×O))(os:List O):O:=.ins "Seeking" (spN++tl.map (·.1)) (os++tl.map (·.2))
def Spr.o(s:Spr):O:=iY s.tl [lsO (s.es.map shD),lsO s.st,lsO s.bs,.dT s.gk (s.gd.map .fz),wsO s.ws,lsO s.wt,.fz s.mks]
variable{l:Addr}{s:Spr}
def j8:aW "Seeking" "sheet" (aJ 0) (.deep (.at l s.o)::M)=aa (lsO (s.es.map shD),λx=>.at l (iY s.tl [x,lsO s.st,lsO s.bs,.dT s.gk (s.gd.map .fz),wsO s.ws,lsO s.wt,.fz s.mks]),):=rfl
def Dv:aW "Seeking" "steps" (aJ 0) (.deep (.at l s.o)::M)=aa (lsO s.st,λx=>.at l (iY s.tl [lsO (s.es.map shD),x,lsO s.bs,.dT s.gk (s.gd.map .fz),wsO s.ws,lsO s.wt,.fz s.mks]),):=rfl
def Dx:aW "Seeking" "bars" (aJ 0) (.deep (.at l s.o)::M)=aa (lsO s.bs,λx=>.at l (iY s.tl [lsO (s.es.map shD),lsO s.st,x,.dT s.gk (s.gd.map .fz),wsO s.ws,lsO s.wt,.fz s.mks]),):=rfl
def IY:aW "Seeking" "guards" (aJ 0) (.deep (.at l s.o)::M)=aa (.dT s.gk (s.gd.map .fz),λx=>.at l (iY s.tl [lsO (s.es.map shD),lsO s.st,lsO s.bs,x,wsO s.ws,lsO s.wt,.fz s.mks]),):=rfl
def vZ:aW "Seeking" "watches" (aJ 0) (.deep (.at l s.o)::M)=aa (wsO s.ws,λx=>.at l (iY s.tl [lsO (s.es.map shD),lsO s.st,lsO s.bs,.dT s.gk (s.gd.map .fz),x,lsO s.wt,.fz s.mks]),):=rfl
def qm:aW "Seeking" "waiting" (aJ 0) (.deep (.at l s.o)::M)=aa (lsO s.wt,λx=>.at l (iY s.tl [lsO (s.es.map shD),lsO s.st,lsO s.bs,.dT s.gk (s.gd.map .fz),wsO s.ws,x,.fz s.mks]),):=rfl
def UM:aW "Seeking" "makers" (aJ 0) (.deep (.at l s.o)::M)=aa (.fz s.mks,λx=>.at l (iY s.tl [lsO (s.es.map shD),lsO s.st,lsO s.bs,.dT s.gk (s.gd.map .fz),wsO s.ws,lsO s.wt,x]),):=rfl
variable{p:Xp}{ds:LD}{R:O->O}
def sN(h:p M=aa (lsO ds,R,)):pC p M=aa ds:=by
 unfold pC;rw[h];show zT ds
def sO:∀(ds:LD),O.kns (ds.map .fz)=ac
 | []=>by rw[map_nil,O.kns]
 |d::ds=>by rw[bG,O.kns,O.kn,sO ds];rfl
def jI(h:p M=aa (lsO ds,R,)):pB p M=aa (.lst ds):=by
 unfold pB lsO at *;rw[h,az,O.kn,sO,if_pos rfl,O.toD,yF]
def k6(h:p M=aa (.fz d,R,)):pD p M=aa d:=by
 unfold pD;rw[h];rfl
variable{K:Fl->Prop}
def sP(h:p M=aa (lsO ds,R,))(a:f M=aa d)(hz:Z ds<16777216)(k:K (.nx (M.set i (.deep (R (lsO (ds++[d]))))))):wp (k4 i p f) M K:=(_,by
 unfold k4 lsO at *;rw[h,az,a,az];change(if Z (ds.map O.fz)<16777216 then aa _ else ab).map _=_;rw[if_pos (by grind),show ds.map O.fz++_=(ds++[d]).map .fz by rw[aT];rfl];rfl,k)
variable{ks:List (List Key)}{os:List O}{y:L2.D}
def UN{k:List Key}(hv:fv M=aa d)(h:p M=aa (.dT ks os,R,))(a:fk M=aa y)(b:kX y=aa k)(hn:aV k ks=ab)(hz:Z ks<16777216)
 (q:K (.nx (M.set i (.deep (R (.dT (ks++[k]) (os++[.fz d]))))))):wp (qb i p fk fv) M K:=(_,by
 unfold qb;rw[hv,az,h,az,a,az,b,az];change(if aV k ks=ab/\Z ks<16777216 then aa _ else ab).map _=_;rw[if_pos (hn,hz)];rfl,q)
abbrev gz(k:List Key)(y:D):List (List Key×LD)->List (List Key×LD)
 | []=>[(k,[y],)]
 |p::ws=>if p.1=k then (p.1,p.2++[y],)::ws else p::gz k y ws
def Dy{k:List Key}{y:D}:∀{ws:List (List Key×LD)},aV k (ws.map (·.1))=ab->gz k y ws=ws++[(k,[y],)]
 | [],_=>rfl
 |p::ws,h=>by
  rw[bG]at h;unfold aV at h;split at h
  .lia
  .rename_i e;unfold gz;rw[if_neg e]
   cases h':aV k _ with
   |none=>rw[Dy h'];rfl
   |some j=>rw[h']at h;cases h
def Dz{k:List Key}{y:D}:∀{ws:List (List Key×LD)} {j:Nat},aV k (ws.map (·.1))=aa j->∃p,ws[j]?=aa p/\p.1=k/\gz k y ws=ws.set j (p.1,p.2++[y],)
 | [],_,h=>by cases h
 |p::ws,j,h=>by
  rw[bG]at h;unfold aV at h;split at h
  .rename_i e;cases h;show(p,rfl,e,?_);unfold gz
   grind
  .rename_i e
   cases h':aV k _ with
   |none=>rw[h']at h;cases h
   |some i=>
    rw[h']at h;cases h;have(q,a,b,c):=Dz h';show(q,by rw[g9];show a,b,?_);unfold gz;rw[if_neg e,c];rfl
structure bT(c:Nat)(ws:List (List Key×LD)):Prop where
 ln:Z ws<=c
 al:∀p∈ws,Z p.2<=c
variable{c:Nat}{ws:List (List Key×LD)}
def bT.add(h:bT c ws)(k:List Key)(y:D):bT (c+1) (gz k y ws):=by
 cases a:aV k _ with
 |none=>
  rw[Dy a];show(by rw[aP,fB];have:=h.ln;lia,λp e=>?_)
  rcases bx.mp e with q |q
  .have:=h.al p q;lia
  .grind
 |some j=>
  have(p,b,_,d):=Dz a;rw[d];show(by rw[iC];have:=h.ln;lia,λq f=>?_)
  rcases mem_or_eq_of_mem_set f with z |z
  .have:=h.al q z;lia
  .rw[z];have:=h.al p (dU b)
   grind
def UO{k:List Key}(h:aV k ks=ab)(hz:Z ks<16777216):(O.dT ks os).apdK k d=aa (.dT (ks++[k]) (os++[.lst [.fz d]])):=by
 unfold O.apdK
 grind
variable{j:Nat}{o2:O}
def UP{k:List Key}{o1:O}(h:aV k ks=aa j)(a:os[j]?=aa o1)(h2:o1.appd d=aa o2):(O.dT ks os).apdK k d=aa (.dT ks (os.set j o2)):=by
 unfold O.apdK
 grind
def UQ(h:Z ds<16777216):(lsO ds).appd y=aa (lsO (ds++[y])):=by
 unfold lsO O.appd
 grind
def UR(h:bT c ws)(e:c<16777216)(k:List Key)(y:D):(wsO ws).apdK k y=aa (wsO (gz k y ws)):=by
 unfold wsO
 cases a:aV k _ with
 |none=>
  rw[UO a (by rw[aq];have:=h.ln;lia),Dy a,aT,aT]
  rfl
 |some j=>
  have(p,b,_,d):=Dz a;rw[UP a (by rw[cx,b];rfl) (UQ (by have:=h.al p (dU b);lia)),d,hU,hU,nI (x:=p.1) (by grind)]
def US{g:MF1}{k:List Key}(h:p M=aa (wsO ws,R,))(b:g M=aa y)(f:kX y=aa k)(e:ae j M=aa d)(ok:bT c ws)(a:c<16777216)(q:K (.nx (M.set i (.deep (R (wsO (gz k d ws))))))):wp (qc i j p g) M K:=(_,by
 unfold qc;rw[h,az,b,az,f,az,e,az,UR ok a];rfl,q)
variable{m:MTf}{ρ1:LS}{o0 o o':O}
def fN{cn a:Str}{f:Xa}(h:M[i]?=aa (.deep (.at l o0)))(hi:o0.isIns cn a=ac)(c:f M=aa (ds,ρ1,))(b:ρ1[i]?=aa (.deep (.at l o)))(hm:m l ds o=aa (o',d,)):cK i cn a m f M=aa (d,ρ1.set i (.deep (.at l o')),):=by
 unfold cK
 grind
def UT{cn:Str}(h:fa M=aa ds)(hm:∀l,m l ds (.ins cn [] [])=aa (o,.non,)):nM cn m fa M=aa o:=by
 unfold nM;rw[h,az];have a:∃o,∀l,m l ds _=aa (o,.non,):=(o,hm);rw[dif_pos a];have:=a.choose_spec 0
 grind
def IZ(l:Addr)(Q:O->D->Prop)(r:Fl):Prop:=match r with
 |.nx M=>∃o,M[0]?=aa (.deep (.at l o))/\Q o .non
 |.rtS d M=>∃o,M[0]?=aa (.deep (.at l o))/\Q o d
 | _=>False
variable{N:Nat}
def UU{F:MF3}{Q:O->D->Prop}(h:wp F (vw N l ds o) (IZ l Q)):∃o' d,eB N F l ds o=aa (o',d,)/\Q o' d:=by
 have(r,e,q):=h;unfold eB;rw[e,az]
 cases r with
 |nx M=>have(o',a,q):=q;show(o',.non,by dsimp only;rw[HU a];rfl,q)
 |rtS d M=>have(o',a,q):=q;show(o',d,by dsimp only;rw[HU a];rfl,q)
 | _=>show q.elim
def fO{F:MF3}(h:wp F (vw N l ds o) (IZ l λx y=>x=o'/\y=d)):eB N F l ds o=aa (o',d,):=by
 have(a,b,e,rfl,rfl):=UU h;show e
def iX(h:f M=aa d)(k:K (.rtS d M)):wp (eJ f) M K:=(_,by unfold eJ;rw[h];rfl,k)
def gX{cn f:Str}{g:LS->Option O}{x:O}{q:O×(O->O)}(a:g M=aa x)(h:p M=aa q)(b:q.1.setF cn f x=aa o2)(k:K (.nx (M.set i (.deep (q.2 o2))))):wp (eR i cn f p g) M K:=(_,by
 unfold eR;rw[a,az,h,az,b];rfl,k)
def iW{f:Xe}{ρ':LS}(h:f M=aa (d,ρ',))(k:K (.nx ρ')):wp (dJ f) M K:=(_,by unfold dJ;rw[h];rfl,k)
def nQ{f:MF2}(h:f M=aa ds):ix f M=aa (lsO ds):=by unfold ix lsO;rw[h];rfl
def sQ(h:f M=aa d):jH f M=aa (.fz d):=by unfold jH;rw[h];rfl
variable{ns:LI0}
def UV(h:f M=aa (.lst (ns.map D.int)))(a:Z ns<4000)(h2:Z (dD ns)<64):nu f M=aa ((dD ns).map D.int):=by
 unfold nu;rw[h,az];change(iV _).bind _=_;rw[zA,az,if_pos (a,h2)]
def I0(h:∀x∈ns,0<=x/\x<(n:Int)):Z (dD ns)<=n:=by
 by_cases c:Z (dD ns)<=n
 .show c
 .have d:∀x∈dD ns,x∈(bw n).map λ(i:Nat)=>(i:Int):=λx e=>by
   have(a,b):=h x ((jF x ns).mp e);show aG.mpr (S x,fF.mpr (by lia),by lia)
  have:=(pS _ _ ((lP ns).imp λh=>Int.ne_of_lt h) d (by rw[aq,bU];lia)).length_eq;rw[aq,bU]at this
  lia
def DD(h:f M=aa (.lst ds))(h':M[i]?=aa (.own E))(a:Z E+Z ds<=16777216):kM i (kL f) M=aa (.nx (M.set i (.own (E++ds)))):=by
 unfold kM kL;rw[h,h'];change(if Z E+Z ds<=16777216 then _ else ab)=_;rw[if_pos a]
variable{p:Prt}
def qo(h:p.Ok n):∀x∈nmP p,0<=x/\x<(n:Int):=λx a=>by
 cases p with
 |inn t=>
  have:x=t:=by simpa[nmP]using a
  subst this
  show h
 |out t=>
  have:x=t:=by simpa[nmP]using a
  subst this
  show h
 |least k L=>have(z,hz,rfl):=aG.mp a;show((h.1 z hz).1,(h.1 z hz).2.1)
 |most k L=>have(z,hz,rfl):=aG.mp a;show((h.1 z hz).1,(h.1 z hz).2.1)
def put(es:LOB)(k:Nat)(b:Bool):LOB:=es.set k (aa b)
def cb(es:LOB)(k:Nat)(b:Bool):Z (put es k b)=Z es:=iC
def c7(es:LOB){k j:Nat}(b:Bool)(h:j≠k):(put es k b).getD j ab=es.getD j ab:=by
 unfold put;rw[bp,bp,lg (eV h)]
def fj(es:LOB){k:Nat}(b:Bool)(h:k<Z es):(put es k b).getD k ab=aa b:=by
 unfold put;rw[bp,kf h];rfl
variable{es':LOB}
def Ja{q:Option Bool->Bool}(h:∀z∈L,q (es'.getD z.1.toNat ab)=q (es.getD z.1.toNat ab)):cI q es' L=cI q es L:=by
 unfold cI;rw[filter_congr h]
def UW{k:Nat}{b:Bool}(a:p.Ok (Z es))(h:(k:Int)∉nmP p):p.sure (put es k b)=p.sure es:=by
 have ne:∀t:Int,0<=t->t∈nmP p->S t≠k:=λt d f e=>by
  grind
 cases p with
 |inn t=>
  have:=ne t a.1 (by simp[nmP]);change((put es k b).getD t.toNat ab==aa ac)=_;rw[c7 es b this]
  rfl
 |out t=>
  have:=ne t a.1 (by simp[nmP]);change((put es k b).getD t.toNat ab==aa af)=_;rw[c7 es b this]
  rfl
 |least c L=>
  change decide _=decide _
  rw[Ja (es:=es) λz hz=>by rw[c7 es b (ne z.1 (a.1 z hz).1 (aG.mpr (z,hz,rfl)))]]
 |most c L=>
  change decide _=decide _;rw[Ja (es:=es) λz hz=>by rw[c7 es b (ne z.1 (a.1 z hz).1 (aG.mpr (z,hz,rfl)))]]
def opn(es:LOB)(t:Int):Bool:=es.getD t.toNat ab==ab
abbrev nmL:Prt->LI0
 |.inn t=>[t]
 |.out t=>[t]
 |.least _ L=>dD (L.map (·.1))
 |.most _ L=>dD (L.map (·.1))
abbrev gY:Prt->Bool
 |.inn _=>ac
 |.out _=>af
 |.least _ _=>ac
 |.most _ _=>af
def sR(h:p.Ok n)(hn:n<=60):Z (nmL p)<64:=by
 cases p with
 |inn t=>change 1<64;decide
 |out t=>change 1<64;decide
 |least k L=>have:=I0 (qo h);change(dD _).length<64;show mw this (by lia)
 |most k L=>have:=I0 (qo h);change(dD _).length<64;show mw this (by lia)
variable{t:Int}
def sS:t∈nmL p↔t∈nmP p:=by
 cases p with
 |inn u=>show Iff.rfl
 |out u=>show Iff.rfl
 |least k L=>show jF t _
 |most k L=>show jF t _
def Jb(a:Z L<=1000)(h2:Z (dD (L.map (·.1)))<64):vM [.lst (L.map itD)]=aa (.lst ((dD (L.map (·.1))).map D.int)):=by
 show lM (congrArg _ (UV (bB ?_) (by rw[aq];lia) h2));rw[map_map];show fh L itD _ rfl (by lia) λz _=>eM rfl rfl rfl
def Jc(p:Prt)(h:p.Ok n)(hn:n<=60)(b:Z (nmP p)<=1000)(a:fo M=aa p.obj):
  bf (aO "In" "named" vL fo λ_=>aa []) (bf (aO "Out" "named" vP fo λ_=>aa []) (bf (aO "Least" "named" vN fo λ_=>aa []) (aO "Most" "named" vO fo λ_=>aa []))) M=aa (.lst ((nmL p).map D.int)):=by
 have c:=sR h hn
 cases p with
 |inn t=>show dQ ((cD a rfl rfl).trans rfl)
 |out t=>show bH (bI a (by decide)) (dQ ((cD a rfl rfl).trans rfl))
 |least k L=>
  have e:=Jb (by simpa[nmP]using b) c
  show bH (bI a (by decide)) (bH (bI a (by decide)) (dQ ((cD a rfl rfl).trans (dk (di (aE rfl e))))))
 |most k L=>
  show bH (bI a (by decide)) (bH (bI a (by decide)) (bH (bI a (by decide)) ((cD a rfl rfl).trans (dk (di (aE rfl (Jb (by simpa[nmP]using b) c)))))))
def UX(p:Prt)(a:fo M=aa p.obj):
  bf (aO "In" "wants" BN fo λ_=>aa []) (bf (aO "Out" "wants" BY fo λ_=>aa []) (bf (aO "Least" "wants" BR fo λ_=>aa []) (aO "Most" "wants" BV fo λ_=>aa []))) M=aa (.bl (gY p)):=by
 cases p with
 |inn t=>show dQ ((cD a rfl rfl).trans rfl)
 |out t=>show bH (bI a (by decide)) (dQ ((cD a rfl rfl).trans rfl))
 |least k L=>show bH (bI a (by decide)) (bH (bI a (by decide)) (dQ ((cD a rfl rfl).trans rfl)))
 |most k L=>show bH (bI a (by decide)) (bH (bI a (by decide)) (bH (bI a (by decide)) ((cD a rfl rfl).trans rfl)))
nonrec def Wss:=List (List Key×LD)
def gA(t:Int)(b:Bool):List Key:=[.inl t,.inl (cond b 1 0)]
def v8(y:D)(ws:Wss)(p:Prt):Wss:=(nmL p).foldl (λws t=>gz (gA t (gY p)) y ws) ws
def nR(y:D)(ps:List Prt)(ws:Wss):Wss:=ps.foldl (v8 y) ws
def bT.ts{c:Nat}{b:Bool}{y:D}:∀(ts:LI0) {ws:Wss},bT c ws->bT (c+Z ts) (ts.foldl (λws t=>gz (gA t b) y ws) ws)
 | [],_,h=>h
 |t::ts,ws,h=>by
  have:=bT.ts (b:=b) (y:=y) ts (h.add (gA t b) y);rw[cf,show c+_=c+1+ts.length by lia];show this
def bT.le{a:Nat}{ws:Wss}(h:bT c ws)(b:c<=a):bT a ws:=(cN h.ln b,λp d=>cN (h.al p d) b)
def PrK(n:Nat)(p:Prt):Prop:=p.Ok n/\Z (nmP p)<=1000
def bT.prt{ws:Wss}(h:bT c ws)(a:PrK n p)(hn:n<=60):bT (c+64) (v8 y ws p):=by
 have:=sR a.1 hn;show(bT.ts _ h).le (by lia)
def bT.reg{n:Nat}{y:D}(hn:n<=60):∀{ps:List Prt} {c:Nat} {ws:Wss},(∀p∈ps,PrK n p)->bT c ws->bT (c+64*Z ps) (nR y ps ws)
 | [],_,_,_,h=>h
 |p::ps,c,ws,hp,h=>by
  have:=bT.reg (y:=y) hn (λq a=>hp q (bj _ a)) (h.prt (y:=y) (hp p aA) hn);rw[cf,show c+64*_=c+64+64*ps.length by lia];show this
def we(s:Spr)(y:D)(k:List Key)(ps:List Prt):Spr:={s with gk:=s.gk++[k],gd:=s.gd++[.lst (ps.map Prt.obj)],ws:=nR y ps s.ws,wt:=s.wt++[y]}
def UY(ds:LD)(d:D):ds.map O.fz++[.fz d]=(ds++[d]).map .fz:=by rw[aT];rfl
def Jd{k:List Key}(s:Spr)(ps:List Prt)(z:kX y=aa k)(m:aV k s.gk=ab)(j:Z s.gk<16777216)(h:∀p∈ps,PrK n p)(hn:n<=60)(x:bT c s.ws)(A:c+64*Z ps<16777216)(hz:Z s.wt<16777216)(u:Z ps<=100000):
  sC l [y,.lst (ps.map Prt.obj)] s.o=aa ((we s y k ps).o,.non,):=by
 apply fO;apply ak;show UN rfl IY rfl z m j ?_;rw[UY];apply ak
 show dq ps Prt.obj (λpre M=>∃g a,M=[.deep (.at l ({s with gk:=s.gk++[k],gd:=s.gd++_,ws:=nR y pre s.ws}:Spr).o),.im y,.im _,g,a]) rfl (_,_,rfl) ?_ ?_
 .rintro pre p post M ex ⟨g,a,rfl⟩;have e:p∈ps:=by rw[ex];simp
  have b:=h p e;have i:Z pre<Z ps:=by rw[ex];simp
  have f:bT _ (nR y pre s.ws):=bT.reg hn (λq w=>h q (by rw[ex];simp[w])) x;have r:=sR b.1 hn;show(_,rfl,?_);walk_at "nrm"
  show dq _ D.int (λpr M=>∃a,M=[.deep (.at l ({s with gk:=s.gk++[k],gd:=s.gd++_,ws:=pr.foldl (λws t=>gz (gA t (gY p)) y ws) _}:Spr).o),.im y,.im _,.im p.obj,a]) (d8 (Jc p b.1 hn b.2 rfl) rfl) (_,rfl) ?_ ?_
  .rintro pr t po M d ⟨a,rfl⟩;have v:Z pr<Z (nmL p):=by rw[d];simp
   show(_,rfl,?_);walk_at "nrm";show US vZ (cw (aj rfl (aj (UX p rfl) rfl))) rfl rfl (bT.ts pr f) (by lia) ?_;show(.im (.int t),?_);rw[eU];rfl
  .rintro M ⟨a,rfl⟩;show(.im p.obj,a,?_);unfold nR;rw[eU];rfl
 .rintro M ⟨g,a,rfl⟩;show sP qm rfl hz (_,rfl,rfl,rfl)
def mkD(r:Rul):D:=.tup [.int r.hd,.lst (r.ps.map Prt.obj)]
def dM(B:LRu):LRu:=B.filter λr=>r.w != .never
def grd(r:Rul):List Prt:=match r.w with
 |.may=>[.least 1 []]
 |.make=>r.ps++[.out r.hd]
 |.never=>r.ps
structure RuK(n:Nat)(r:Rul):Prop where
 ok:r.Ok n
 nm:∀p∈r.ps,Z (nmP p)<=1000
 len:Z r.ps<=1000
variable{r:Rul}
def wg(h:RuK n r):∀p∈grd r,PrK n p:=λp a=>by
 have(w,hd,ps):=r
 cases w with
 |may=>
  have:p=.least 1 []:=by simpa[grd]using a
  subst this
  show(((λz hz=>nomatch hz),cy _),cy _)
 |make=>
  rcases bx.mp (a)with q |q
  .show(h.ok.ps p q,h.nm p q)
  .rw[bq.mp q]
   show(h.ok.hd (λz=>by nomatch z),by change 1<=1000;decide)
 |never=>show(h.ok.ps p a,h.nm p a)
def DF(h:RuK n r):Z (grd r)<=1001:=by
 have(w,hd,ps):=r;have a:Z ps<=1000:=h.len
 cases w with
 |may=>change 1<=1001;decide
 |make=>change(ps++_).length<=1001;rw[aP,fB];lia
 |never=>change Z ps<=1001;lia
def Je(r:Rul)(h:r.Ok n):o_2 [r.toD]=aa (r.ps.map Prt.obj):=
 nB (congrArg _ (fh r.ps Prt.toD Prt.obj rfl (by have:=h.len;lia) λp _=>eM rfl rfl (aE rfl (IU p))))
def UZ(r:Rul)(h:RuK n r):vS [r.toD]=aa (.lst ((grd r).map Prt.obj)):=by
 apply jG;have(w,hd,ps):=r
 cases w with
 |may=>
  apply ak;show a8 rfl (λ_=>?_) (λz=>by nomatch z)
  first |show iu rfl (iw rfl) |grind
 |make=>
  apply ak;show a8 rfl (λz=>by nomatch z) (λ_=>b6 ?_);walk_at "nrm";apply ak
  show d4 (by first |show vm rfl (Je (.make,hd,ps) h.ok) |show eb) ?_
  walk_at "nrm";apply ak;show a8 rfl (λ_=>?_) (λz=>by nomatch z);show f9 rfl rfl (by rw[aq];change Z ps<_;have:Z ps<=1000:=h.len;lia) ?_;walk_at "nrm";show lV rfl (iw ?_);change D.lst _=D.lst ((ps++_).map Prt.obj);rw[aT]
  rfl
 |never=>
  apply ak;show a8 rfl (λz=>by nomatch z) (λ_=>b6 ?_);walk_at "nrm";apply ak
  show d4 (by first |show vm rfl (Je (.never,hd,ps) h.ok) |show eb) ?_
  walk_at "nrm";apply ak;show a8 rfl (λz=>by nomatch z) (λ_=>b6 ?_);walk_at "nrm";show lV rfl (iw rfl)
def sT(i:Nat):D:=.tup [.str "rule",.int i]
def nU(i:Nat):List Key:=[.inr "rule",.inl i]
def U0(h:nU i=nU j):i=j:=by
 have:=ut (qP (qP h).2).1
 lia
def DH{a:Type}[DecidableEq a]{f:a}:∀{ns:List a},f∉ns->aV f ns=ab
 | [],_=>rfl
 |n::ns,h=>by
  unfold aV;rw[if_neg (λe=>h (by rw[e];show aA)),DH (λq=>h (bj _ q))];rfl
def sp0(es:LOB)(B:LRu):Spr:=(es,[],[],[],[],[],[],.lst ((dM B).map mkD),[])
def l8(s:Spr)(p:Nat×Rul):Spr:=we s (sT p.1) (nU p.1) (grd p.2)
structure SpK(n i c:Nat)(s:Spr):Prop where
 gk:s.gk=(bw i).map nU
 gl:Z s.gd=i
 ws:bT c s.ws
 wt:s.wt=(bw i).map sT
def SpK.step(h:SpK n i c s)(hr:RuK n r)(hn:n<=60):SpK n (i+1) (c+65000) (l8 s (i,r,)):=by
 show(?_,?_,?_,?_)
 .change s.gk++_=_;rw[range_succ,aT,h.gk];rfl
 .change(s.gd++[_]).length=_;rw[aP,h.gl];rfl
 .have:=bT.reg (y:=sT i) hn (wg hr) h.ws;have a:=DF hr;show this.le (by lia)
 .change s.wt++_=_;rw[range_succ,aT,h.wt];rfl
def SpK.fresh(h:SpK n i c s):aV (nU i) s.gk=ab:=DH λq=>by
 rw[h.gk]at q;have(j,a,e):=aG.mp q;have:=U0 e;subst this;show gE _ (fF.mp a)
abbrev fm:Nat->LRu->List (Nat×Rul)
 | _,[]=>[]
 |i,r::B=>(i,r,)::fm (i+1) B
def Jf:∀(i:Nat) (B:LRu),iS i (B.map Rul.toD)=(fm i B).map λp=>D.tup [.int p.1,p.2.toD]
 | _,[]=>rfl
 |i,r::B=>by rw[bG,iS,Jf _ B];rfl
def sU:∀(i:Nat) (B:LRu) (j:Nat),(fm i B)[j]?=(B[j]?).map λr=>(i+j,r,)
 | _,[],_=>rfl
 |i,r::B,0=>rfl
 |i,r::B,j+1=>by simp only[fm,g9,g9,sU _ B j,show i+1+j=i+(j+1) by lia]
variable{B:LRu}
def Jg{pre post:List (Nat×Rul)}{p:Nat×Rul}(h:fm 0 B=pre++p::post):p.1=Z pre/\p.2∈B/\Z pre<Z B:=by
 have a:(fm 0 B)[Z pre]?=aa p:=by rw[h,lc (aM _),Nat.sub_self];rfl
 rw[sU]at a
 cases hr:B[Z pre]? with
 |none=>rw[hr]at a;nomatch a
 |some r=>
  rw[hr]at a;cases a;show(jR _,dU hr,(cM.mp hr).1)
def pl0(n:Int)(B:LRu):D:=.tup [.int n,.lst (B.map Rul.toD)]
def U1(hi:fi M=aa (B.map Rul.toD))(hok:∀r∈B,r.Ok n)(hz:Z B<=1000):
  bg 1 [] fi (ay 0) (mB (m2 fZ (mIx (ax 0) (kI 1)) kN)) (bn (ag (mIx (ax 0) (kI 1)) (ag (av m_2 (ag (ae 0) nZ)) nZ))) M=aa ((dM B).map mkD):=by
 show e9 B Rul.toD _ mkD hi (by lia) λr hr=>?_;have a:=UL r (hok r hr);have(w,hd,ps):=r
 cases w with
 |never=>show dP rfl rfl λz=>by nomatch z
 |make=>show dP rfl rfl λ_=>cw (aj rfl (aj (aE rfl a) rfl))
 |may=>show dP rfl rfl λ_=>cw (aj rfl (aj (aE rfl a) rfl))
def dN{g:Xa}(h:f M=aa d)(h':g M=aa (ds,M,)):bM (mX f) g M=aa (d::ds,M,):=by
 unfold bM mX;rw[h];change(g M).map _=_;rw[h'];rfl
def wj{f:MF2}(h:f M=aa [.lst E]):jB f M=aa (iS 0 E):=by
 unfold jB;rw[h];rfl
def spI(es:LOB)(B:LRu):Spr:=(fm 0 B).foldl l8 (sp0 es B)
def SpK.foldT{n:Nat}(hn:n<=60){es:LOB}{B:LRu}(hr:∀r∈B,RuK n r):∀(k:Nat),k<=Z B->SpK n k (65000*k) (((fm 0 B).take k).foldl l8 (sp0 es B))
 | 0,_=>(rfl,rfl,⟨cy _,λ_ h=>nomatch h⟩,rfl)
 |k+1,h=>by
  have a:(fm 0 B)[k]?=aa (k,B[k],):=by rw[sU,b7 h];simp
  have:=(SpK.foldT hn (es:=es) hr k (Nat.le_of_succ_le h)).step (hr B[k] (iB h)) hn;rw[take_succ,a,eU,show 65000*_=65000*k+65000 by lia];show this
def SpK.fold(hn:n<=60)(hr:∀r∈B,RuK n r){pre post:List (Nat×Rul)}{p:Nat×Rul}(h:fm 0 B=pre++p::post):SpK n pre.length (65000*Z pre) (pre.foldl l8 (sp0 es B)):=by
 have:=SpK.foldT hn (es:=es) hr pre.length (fH (Jg h).2.2);rw[h,take_left' rfl]at this;show this
def Jh:∀(ps:List (Nat×Rul)) (s:Spr),(ps.foldl l8 s).tl=s.tl
 | [],_=>rfl
 |p::ps,s=>Jh ps _
def U2(h:s.tl=[]):s.o.isIns "Seeking" "take_guard"=ac:=by
 cases s;cases h;rfl
variable{v:Int}
def U3{bars:LD}(hn:n<=60)(hr:∀r∈B,RuK n r)(hz:Z B<=250)
 (k:∀b c,K (.nx [.deep (.at l (spI es B).o),.im (pl0 v B),.im (.lst bars),.im (.lst (es.map shD)),b,c,.no])):
  wp (bS (jB (ag (mIx (ax 1) (kI 1)) nZ)) (cV (bv (ay 5) (bv (ay 4) df))) (dJ (cK 0 "Seeking" "take_guard" sC (bM (mX (bn (ag (kSt "rule") (ag (ae 5) nZ)))) (bM (mX (av vS (ag (ae 4) nZ))) cE)))))
   [.deep (.at l (sp0 es B).o),.im (pl0 v B),.im (.lst bars),.im (.lst (es.map shD)),.no,.no,.no] K:=by
 show dq (fm 0 B) (λp=>D.tup [.int p.1,p.2.toD]) (λpre M=>∃b c,M=[.deep (.at l (pre.foldl l8 (sp0 es B)).o),.im _,.im _,.im _,b,c,.no]) ?_ (_,_,rfl) ?_ ?_
 .rw[<- Jf];show wj (aj (aY rfl rfl rfl) rfl)
 .rintro pre p post M ex ⟨b,c,rfl⟩;have(e,f,h):=Jg ex;have d:=SpK.fold (es:=es) hn hr ex;have a:=hr p.2 f;have g:=DF a;show(_,rfl,?_);walk_at "nrm";show iW (fN rfl (U2 (Jh pre _)) (dN rfl (dN (aE rfl (UZ p.2 a)) rfl)) rfl (Jd _ _ rfl (by rw[e];show d.fresh) (by rw[d.gk,aq,bU];lia) (wg a) hn d.ws (by lia) (by rw[d.wt,aq,bU];lia) (by lia))) ?_;show(.im p.2.toD,.im (.int p.1),?_);rw[eU];rfl
 .rintro M ⟨b,c,rfl⟩;show k b c
def U4(hn:n<=60)(hr:∀r∈B,RuK n r)(hz:Z B<=250)(l:Addr):B9 l [pl0 v B,.lst [],.lst (es.map shD)] (.ins "Seeking" [] [])=aa ((spI es B).o,.non,):=by
 apply fO;apply ak;show gX (nQ rfl) rfl rfl ?_;apply ak;show gX (nQ rfl) rfl rfl ?_;apply ak;show gX (nQ rfl) rfl rfl ?_;apply ak;show gX rfl rfl rfl ?_;apply ak;show gX rfl rfl rfl ?_;apply ak;show gX (nQ rfl) rfl rfl ?_;apply ak;show gX (sQ (bB (U1 (d8 (aY rfl rfl rfl) rfl) (λr h=>(hr r h).ok) (by lia)))) rfl rfl ?_;apply ak;show U3 hn hr hz λa b=>?_;show dq ([]:LN) (λ_=>D.non) (λ_ M=>M=_) rfl rfl ?_ ?_
 .rintro pre x post M ex;simp at ex
 .rintro M rfl;show(_,rfl,rfl,rfl)
def hup(es:LOB)(wo:LB0)(r:Rul):Bool:=r.w != .never && (wo.getD r.hd.toNat af && !(r.bodyLost es wo))
def Ji(h:r.w≠.never):(r.w != .never)=ac:=by grind
inductive k7(B:LRu)(es:LOB)(a:LB0):LB0->Prop
 |refl:k7 B es a a
 |step {b:LB0} {r:Rul}:k7 B es a b->r∈B->hup es b r=ac->k7 B es a (b.set r.hd.toNat af)
def wm(l:LB0)(k j:Nat):(l.set k af).getD j af=(l.getD j af && !(k==j)):=by grind
variable{a b:LB0}
def k7.len(h:k7 B es a b):Z b=Z a:=by
 induction h with
 |refl=>rfl
 |step _ _ _ c=>rw[iC,c]
def k7.sub(h:k7 B es a b)(i:Nat):b.getD i af=ac->a.getD i af=ac:=by
 induction h with
 |refl=>show id
 |step _ _ _ c=>
  grind
variable{wo:LB0}
def Jj(h:hup es wo r=ac):r.w≠.never/\wo.getD r.hd.toNat af=ac/\r.bodyLost es wo=af:=by
 unfold hup at h
 grind
variable{le:LB0}
def U5(hr:r.Ok (Z es))(g:nt le wo)(h:hup es wo r=ac)(f:le.getD r.hd.toNat af=ac):hup es le r=ac:=by
 have(a,b,c):=Jj h
 have e:r.bodyLost es le=af:=by
  cases q:r.bodyLost es le with
  |false=>rfl
  |true=>
   have(p,d,i):=any_eq_true.mp q;have:r.bodyLost es wo=ac:=any_eq_true.mpr (p,d,vb (cR.refl es) g (hr.ps p d) i);rw[c]at this
   nomatch this
 unfold hup;rw[Ji a,f,e];rfl
def U6{fin:LB0}(hok:∀r∈B,r.Ok (Z es))(h:k7 B es a b)(l:Z le=Z a)(g:∀i,le.getD i af=ac->a.getD i af=ac)(f:∀i,fin.getD i af=ac->b.getD i af=ac)
 (n:∀r∈B,hup es le r=ac->fin.getD r.hd.toNat af=ac):∀i,le.getD i af=ac->b.getD i af=ac:=by
 induction h with
 |refl=>show g
 | @step b r m hr j c=>
  have d:=λi q=>by
   have:=f i q;rw[wm]at this
   simpa using (ce _ _▸this).1
  have c:=c d;intro i q;rw[wm,c i q,qG]
  cases e:(S r.hd==i)with
  |false=>rfl
  |true=>
   exfalso;have e:S r.hd=i:=by simpa using e
   subst e;have w:nt le b:=(by rw[m.len,l],c);have:=f _ (n r hr (U5 (hok r hr) w j q));rw[wm]at this;simp at this
def ct(bs:LB0):Nat:=Z (bs.filter λb=>b)
def U7(bs:LB0):ct bs<=Z bs:=gC _ _
def Jk:∀(bs:LB0) (k:Nat),bs.getD k af=ac->ct (bs.set k af)+1=ct bs
 | [],k,h=>by simp at h
 |b::bs,0,h=>by
  subst h
  rfl
 |b::bs,k+1,h=>by
  have a:=Jk bs k (by show h)
  cases b with
  |false=>show a
  |true=>
   change(ct _+1)+1=ct bs+1;rw[a]
def U8(bs:LB0)(k:Nat)(b:Bool):(bs.map D.bl).set k (.bl b)=(bs.set k b).map D.bl:=by rw[hU]
def jJ(es:LOB):LB0:=es.map λe=>!(e==aa af)
def U9(hi:fi M=aa (es.map shD))(hz:Z es<=1000):bg 1 [] fi (ay 0) kY (m2 fZ (ae 0) (kBl af)) M=aa ((jJ es).map D.bl):=by
 unfold jJ;rw[<- Qs];show fh es shD _ hi (by lia) λe _=>eM rfl rfl (ap rfl rfl (GG _ _))
abbrev DJ:Option Prt->D
 |some p=>p.obj
 |none=>.non
def DK(ps:List Prt)(h:∀p∈ps,p.Ok (Z es))(e:Z wo=Z es):m_5 [.lst (ps.map Prt.obj),.lst (es.map shD),.lst (wo.map D.bl)]=aa (DJ (ps.find? λp=>p.lost es wo)):=by
 apply jG;apply ak;show dq ps Prt.obj (λpre M=>∃c,M=[.im _,.im _,.im _,c]/\∀p∈pre,p.lost es wo=af) rfl ⟨_,rfl,λ_ h=>nomatch h⟩ ?_ ?_
 .rintro pre p post M ex ⟨c,rfl,a⟩;have d:p∈ps:=by grind
  show(_,rfl,?_);walk_at "nrm";show a8 (dB (IX p (h p d) e rfl rfl) rfl) (λz=>?_) (λz=>b6 ?_)
  .show Qt rfl (fM ?_);rw[ex,find?_append,find?_eq_none.mpr λq b=>by rw[a q b];show bK,find?_cons_of_pos z];rfl
  .show(.im p.obj,rfl,λq b=>?_)
   grind
 .rintro M ⟨c,rfl,a⟩;show fL rfl (fM ?_);rw[find?_eq_none.mpr λq b=>by rw[a q b];grind];rfl
def Va(x:Option Prt):dIs (DJ x) .non=aa (.bl x.isNone):=by
 cases x with
 |none=>rfl
 |some p=>cases p <;> rfl
def DM(r:Rul):(r.ps.find? λp=>p.lost es wo).isNone=!(r.bodyLost es wo):=by
 unfold Rul.bodyLost
 grind
def iZ(es:LOB)(wo:LB0)(r:Rul):Bool:=wo.getD r.hd.toNat af && !(r.bodyLost es wo)
nonrec def j9:=LB0×LRu×LRu
def bX(es:LOB)(a:j9)(r:Rul):j9:=if iZ es a.1 r then (a.1.set r.hd.toNat af,a.2.1++[r],a.2.2,) else (a.1,a.2.1,a.2.2++[r],)
def d5(es:LOB)(wo:LB0)(us rest:LRu):j9:=rest.foldl (bX es) (wo,us,[],)
abbrev nV(es:LOB):Nat->LB0->LRu->LRu->j9
 | 0,wo,us,rest=>(wo,us,rest,)
 |k+1,wo,us,rest=>if Z us<(d5 es wo us rest).2.1.length/\(d5 es wo us rest).1.any id=ac then nV es k (d5 es wo us rest).1 (d5 es wo us rest).2.1 (d5 es wo us rest).2.2 else d5 es wo us rest
def cr(es:LOB)(ms:LRu):j9:=nV es (Z ms+1) (jJ es) [] ms
structure L3(es:LOB)(ms:LRu)(a:j9)(q:LRu):Prop where
 len:Z a.1=Z es
 pe:k7 ms es (jJ es) a.1
 us:∀r∈a.2.1,a.1.getD r.hd.toNat af=af
 pm:(a.2.1++a.2.2++q).Perm ms
variable{ms:LRu}
def L3.step{a:j9}{q:LRu}(h:L3 es ms a (r::q))(c:∀r∈ms,r.w≠.never):L3 es ms (bX es a r) q:=by
 have hr:r∈ms:=h.pm.mem_iff.mp (by simp);unfold bX
 by_cases b:iZ es a.1 r=ac
 .rw[if_pos b];show(by rw[iC];show h.len,.step h.pe hr ?_,λx d=>?_,?_)
  .unfold hup;rw[Ji (c r hr),qG];show b
  .change(a.1.set r.hd.toNat af).getD _ af=af;rw[wm]
   rcases bx.mp d with z |z
   .rw[h.us x z];rfl
   .grind
  .show List.Perm.trans ?_ h.pm;rw[cG,cG,cG];show xq _ ?_;change(r::(a.2.2++q)).Perm _;show perm_middle.symm
 .rw[if_neg b];show(h.len,h.pe,h.us,?_);have:a.2.1++(a.2.2++[r])++q=a.2.1++a.2.2++r::q:=by simp
  rw[this];show h.pm
def L3.fold{es:LOB}{ms:LRu}(b:∀r∈ms,r.w≠.never):∀{q:LRu} {a:j9},L3 es ms a q->L3 es ms (q.foldl (bX es) a) []
 | [],_,h=>h
 |r::q,a,h=>L3.fold (a:=bX es a r) b (h.step b)
def sV{es:LOB}:∀(q:LRu) (a:j9),(q.foldl (bX es) a).2.1.length+(q.foldl (bX es) a).2.2.length=Z a.2.1+Z a.2.2+Z q/\Z a.2.1<=(q.foldl (bX es) a).2.1.length
 | [],a=>(by simp,aM _)
 |r::q,a=>by
  have(b,h2):=sV q _;rw[fQ,b];unfold bX at *
  grind
def Jl{es:LOB}:∀(q:LRu) (a:j9),(q.foldl (bX es) a).2.1.length=Z a.2.1->(q.foldl (bX es) a).1=a.1/\(q.foldl (bX es) a).2.2=a.2.2++q/\∀r∈q,iZ es a.1 r=af
 | [],a,_=>⟨rfl,(bN _).symm,λ_ h=>nomatch h⟩
 |r::q,a,h=>by
  rw[fQ]at h ⊢;have h2:=(sV (es:=es) q (bX es a r)).2
  by_cases b:iZ es a.1 r=ac
  .exfalso;have e:bX es a r=(a.1.set r.hd.toNat af,a.2.1++[r],a.2.2,):=by unfold bX;rw[if_pos b]
   grind
  .have e:bX es a r=(a.1,a.2.1,a.2.2++[r],):=by unfold bX;rw[if_neg b]
   rw[e]at h ⊢;have(c,d,f):=Jl q _ h
   grind
def Vb{bs:LB0}(h:bs.any id=af)(i:Nat):bs.getD i af=af:=by
 rw[bp]
 cases e:bs[i]? with
 |none=>rfl
 |some b=>
  cases b with
  |false=>rfl
  |true=>rw[any_eq_true.mpr (ac,dU e,rfl)]at h;nomatch h
def Jm{es:LOB}{ms:LRu}(d:∀r∈ms,r.w≠.never):∀(k:Nat) (wo:LB0) (us rest:LRu),L3 es ms (wo,us,[],) rest->Z rest<k->L3 es ms (nV es k wo us rest) []/\∀r∈ms,iZ es (nV es k wo us rest).1 r=af
 | 0,_,_,_,_,h=>absurd h (iD _)
 |k+1,wo,us,rest,h,hk=>by
  have a:=L3.fold d h;have c:=sV (es:=es) rest (wo,us,[],);unfold nV;split
  .rename_i f;show Jm d k _ _ _ (a.len,a.pe,a.us,?_) ?_
   .have:=a.pm;rw[bN]at this ⊢;show this
   .have:(d5 es wo us rest).2.1.length+(d5 es wo us rest).2.2.length=Z us+0+Z rest:=c.1;lia
  .rename_i f;show(a,λr hr=>?_)
   cases ha:(d5 es wo us rest).1.any id with
   |false=>unfold iZ;rw[Vb ha];rfl
   |true=>
    have e:(d5 es wo us rest).2.1.length=Z us:=by
     have:Z us<=(d5 es wo us rest).2.1.length:=c.2
     grind
    have(b,g,i):=Jl rest _ e;have b:(d5 es wo us rest).1=wo:=b
    rcases bx.mp (h.pm.mem_iff.mpr hr)with z |z
    .rw[bN]at z;rw[b];unfold iZ;rw[h.us r z];rfl
    .grind
def Jn(a:∀r∈ms,r.w≠.never):L3 es ms (cr es ms) []/\∀r∈ms,iZ es (cr es ms).1 r=af:=
 Jm a _ _ _ _ (by unfold jJ;rw[aq],.refl,(λ_ h=>nomatch h),by simp) (c8 _)
def Vc{x:O}(h:Z s.tl<900):s.o.setF "Seeking" "makers" x=aa (iY s.tl [lsO (s.es.map shD),lsO s.st,lsO s.bs,.dT s.gk (s.gd.map .fz),wsO s.ws,lsO s.wt,x]):=by
 change(if _/\Z (spN++s.tl.map (·.1))<1000 then _ else ab)=_;rw[if_pos (rfl,by rw[aP,aq];change 7+_<_;lia)];rfl
def Vd(x:Z s.tl<900)(hm:s.mks=.lst (ms.map mkD))(I:Z s.es<=60)(hok:∀r∈ms,r.Ok (Z s.es))(Q:∀r∈ms,r.w≠.never)(hz:Z ms<=1000):
  Dl l [] s.o=aa (({s with mks:=.lst (((cr s.es ms).2.1++(cr s.es ms).2.2).map mkD)}:Spr).o,.lst ((cr s.es ms).1.map D.bl),):=by
 have v:Z (jJ s.es)=Z s.es:=by unfold jJ;rw[aq]
 apply fO;apply ak;show d4 (U9 (sN j8) (by lia)) ?_;walk_at "nrm";apply ak;show d4 rfl ?_;walk_at "nrm";apply ak;show bo ((k6 UM).trans (by rw[hm])) ?_;walk_at "nrm";apply ak;show bo rfl ?_;walk_at "nrm";apply ak;show rV (λm M=>∃(wo:LB0) (us rest:LRu) (g:Bool) (E G e:Sl),M=[.deep _,.own (wo.map D.bl),.own (us.map mkD),.im (.lst (rest.map mkD)),.im (.bl g),E,G,e]/\Z wo=Z s.es/\(us++rest).Perm ms/\(g=ac->nV s.es m wo us rest=cr s.es ms/\Z rest<m)/\(g=af->(wo,us,rest,)=cr s.es ms)) ?_ _ _ _ ⟨jJ s.es,[],ms,ac,_,_,_,rfl,v,tX _,λ_=>(rfl,c8 _),λz=>by nomatch z⟩ (by lia)
 .rintro m M ⟨wo,us,rest,g,E,G,e,rfl,B,c,L,J⟩;show(g,rfl,?_,?_)
  .rintro rfl;have(f,u):=L rfl;have y:Z us+Z rest=Z ms:=by have:=c.length_eq;rw[aP]at this;show this
   apply ak;show bo (aE rfl (d9 us mkD)) ?_;walk_at "nrm";apply ak;show d4 rfl ?_;walk_at "nrm";apply ak;show dq rest mkD (λpre M=>∃e,M=[.deep _,.own ((pre.foldl (bX s.es) (wo,us,[],)).1.map D.bl),.own ((pre.foldl (bX s.es) (wo,us,[],)).2.1.map mkD),.im _,.im _,.im _,.own ((pre.foldl (bX s.es) (wo,us,[],)).2.2.map mkD),e]/\(pre.foldl (bX s.es) (wo,us,[],)).1.length=Z s.es) rfl (_,rfl,B) ?_ ?_
   .rintro pre r post M ex ⟨e,rfl,b⟩;have j:r∈ms:=c.mem_iff.mp (by rw[ex];simp);have hr:=hok r j;have(C,U):=hr.hd (Q r j);have N:Z pre<Z rest:=by rw[ex];simp
    have i:(pre.foldl _ (wo,us,[],)).2.1.length+(pre.foldl _ (wo,us,[],)).2.2.length=Z us+0+Z pre:=(sV (es:=s.es) pre _).1;generalize h:pre.foldl _ _=A at *;show(_,rfl,?_);walk_at "nrm"
    have x:(dL (bO (mIx (ax 1) (mIx (ax 7) (kI 0)))) (mB (m2 dIs (av m_5 (ag (mIx (ax 7) (kI 1)) (ag (pB (aW "Seeking" "sheet" (aJ 0))) (ag (cZ 1) nZ)))) kN))) [.deep (.at l s.o),.own (A.1.map D.bl),.own (A.2.1.map mkD),.im (.lst (rest.map mkD)),.im (.bl ac),.im (.int (Z us)),.own (A.2.2.map mkD),.im (mkD r)]=aa (iZ s.es A.1 r):=by
     unfold iZ;rw[<- DM];show jZ (dB (aY rfl (aY rfl rfl rfl) (j4 C (by lia))) rfl) (bE (ap (aE (aj (aY rfl rfl rfl) (aj (jI j8) (aj rfl rfl))) (DK r.ps hr.ps b)) rfl (Va _)))
    show a8 x (λz=>?_) (λz=>?_)
    .apply ak;show pT rfl (aY rfl rfl rfl) rfl C (by rw[aq];lia) ?_;walk_at "nrm";show f9 rfl rfl (by rw[aq];lia) ?_;show(.im (mkD r),?_,?_)
     .rw[eU,h];change _=[_,Sl.own ((bX s.es A r).1.map D.bl),.own ((bX s.es A r).2.1.map mkD),_,_,_,.own ((bX s.es A r).2.2.map mkD),_];unfold bX;rw[if_pos z,<- U8,aT];rfl
     .rw[eU,h];change(bX s.es A r).1.length=_;unfold bX;rw[if_pos z,iC];show b
    .show f9 rfl rfl (by rw[aq];lia) ?_;have H:¬iZ s.es A.1 r=ac:=by rw[z];show bK
     show(.im (mkD r),?_,?_)
     .rw[eU,h];change _=[_,Sl.own ((bX s.es A r).1.map D.bl),.own ((bX s.es A r).2.1.map mkD),_,_,_,.own ((bX s.es A r).2.2.map mkD),_];unfold bX;rw[if_neg H,aT];rfl
     .rw[eU,h];change(bX s.es A r).1.length=_;unfold bX;rw[if_neg H];show b
   .rintro M ⟨e,rfl,b⟩;have i:(d5 s.es wo us rest).2.1.length+(d5 s.es wo us rest).2.2.length=Z us+0+Z rest:=(sV rest _).1;change wp _ [.deep _,.own ((d5 s.es wo us rest).1.map D.bl),.own ((d5 s.es wo us rest).2.1.map mkD),.im _,.im _,.im _,.own ((d5 s.es wo us rest).2.2.map mkD),e] _;replace b:(d5 s.es wo us rest).1.length=Z s.es:=b
    have d:((d5 s.es wo us rest).2.1++(d5 s.es wo us rest).2.2).Perm ms:=by
     have gen:∀(q:LRu) a,((q.foldl (bX s.es) a).2.1++(q.foldl (bX s.es) a).2.2).Perm (a.2.1++a.2.2++q):=by
      intro q
      induction q with
      |nil=>intro a;simp
      |cons r q T=>
       intro a;show(T _).trans ?_;unfold bX;split
       .change(a.2.1++[r]++a.2.2++q).Perm _;rw[cG,cG,cG];show xq _ ?_;change(r::(a.2.2++q)).Perm _;show perm_middle.symm
       .change(a.2.1++_++q).Perm _;rw[show a.2.1++_++q=a.2.1++a.2.2++r::q by simp]
     show(gen rest _).trans ?_;rw[bN];show c
    cases m with
    |zero=>show absurd u (iD _)
    |succ m=>
     unfold nV at f;generalize h:d5 s.es wo us rest=A at *;apply ak;show bo rfl ?_;walk_at "nrm";show bo (pL (ap (aE rfl (d9 A.2.1 mkD)) rfl nA) (aE rfl (Po A.1))) ?_
     by_cases n:Z us<Z A.2.1/\A.1.any id=ac
     .rw[if_pos n]at f;have p:(decide ((Z us:Int)<Z A.2.1) && A.1.any id)=ac:=by rw[n.2,decide_eq_true (by lia)];rfl
      rw[p];show⟨m,c8 _,A.1,A.2.1,A.2.2,ac,_,_,_,rfl,b,d,λ_=>(f,by lia),λz=>by nomatch z⟩
     .rw[if_neg n]at f
      have p:(decide ((Z us:Int)<Z A.2.1) && A.1.any id)=af:=by
       cases ha:A.1.any id with
       |false=>show tO _
       |true=>
        have:¬Z us<Z A.2.1:=λq=>n (q,ha);rw[decide_eq_false (by lia)];rfl
      rw[p];show(0,qR _,A.1,A.2.1,A.2.2,af,_,_,_,rfl,b,d,(λz=>by nomatch z),λ_=>f)
  .rintro rfl;have y:Z us+Z rest=Z ms:=by have:=c.length_eq;rw[aP]at this;show this
   rw[<- (J rfl)];apply ak;show gX (sQ (bB (nP rfl rfl (by rw[aq,aq];lia)))) rfl (Vc x) ?_;rw[<- aT];show iX rfl (_,rfl,rfl,rfl)
def prD(z:Int×Bool):D:=.tup [.int z.1,.bl z.2]
def DN(es:LOB)(t:Int):dIs (shD (es.getD t.toNat ab)) .non=aa (.bl (opn es t)):=by
 unfold opn
 cases es.getD t.toNat ab with
 |none=>rfl
 |some b=>cases b <;> rfl
def wt(L:LII)(j:Int):Int:=((L.filter λz=>z.1==j).map (·.2)).sum
def kW(W:LII):List Key:=W.map λz=>.inl z.1
def xW(W:LII):LD:=W.map λz=>.int z.2
def nW(W:LII)(j:Int):Int:=((W.find? λz=>z.1==j).map (·.2)).getD 0
def upW(W:LII)(j v:Int):LII:=if W.any (λz=>z.1==j) then W.map (λz=>if z.1=j then (z.1,v,) else z) else W++[(j,v,)]
def Jo(W:LII)(j:Int):gt (kW W) (.inl j)=W.any λz=>z.1==j:=by
 unfold gt kW;rw[any_map]
 congr 1
 funext z;show jP.mpr (by simp)
def Ve(W:LII)(j v:Int):ip (kW W) (.inl j)=kW (upW W j v):=by
 unfold ip upW;rw[Jo];split
 .unfold kW;rw[map_map];show oq λz _=>?_;change _=iG (if z.1=j then _ else z).1
  split <;> rfl
 .unfold kW;rw[aT];rfl
def Vf(W:LII)(j v:Int):iT (kW W) (xW W) (.inl j) (.int v)=xW (upW W j v):=by
 unfold iT upW;rw[Jo];split
 .rename_i a;clear a;unfold kW xW
  induction W with
  |nil=>rfl
  |cons z W b=>
   simp only[bG,bG,tT,b,bG,bG]
   congr 1
   by_cases h:z.1=j
   .rw[if_pos (by rw[h]),if_pos h]
   .rw[if_neg λq=>h (ut q),if_neg h]
 .unfold xW;rw[aT];rfl
def Jp(W:LII)(j:Int):gU (kW W) (xW W) (.inl j)=(W.find? λz=>z.1==j).map λz=>D.int z.2:=by
 unfold gU kW xW
 induction W with
 |nil=>rfl
 |cons z W a=>
  grind
def Js(W:LII)(j:Int):(gU (kW W) (xW W) (.inl j)).getD (.int 0)=.int (nW W j):=by
 rw[Jp];unfold nW
 cases (W.find? λz=>z.1==j) <;> rfl
def wn(W:LII)(z:Int×Int):LII:=upW W z.1 (nW W z.1+z.2)
def wts(L:LII):LII:=L.foldl wn []
structure WOk(W L:LII):Prop where
 nd:(W.map (·.1)).Nodup
 ks:∀j,j∈W.map (·.1)↔j∈L.map (·.1)
 vs:∀z∈W,z.2=wt L z.1
 ln:Z W<=Z L
def Jt(L:LII)(z:Int×Int)(j:Int):wt (L++[z]) j=wt L j+if z.1=j then z.2 else 0:=by
 unfold wt;rw[kg,aT,sum_append]
 congr 1
 by_cases h:z.1=j
 .rw[if_pos h,qI (by simp[h])];simp
 .rw[if_neg h,filter_cons_of_neg (by simp[h])];rfl
def DQ{j:Int}(h:j∉L.map (·.1)):wt L j=0:=by
 unfold wt
 rw[filter_eq_nil_iff.mpr λz hz=>by
  simp only[beq_iff_eq]
  grind]
 rfl
def WOk.get{W L:LII}(h:WOk W L)(j:Int):nW W j=wt L j:=by
 unfold nW
 cases e:W.find? _ with
 |none=>
  have hn:j∉W.map (·.1):=λq=>by
   grind
  rw[DQ λq=>hn ((h.ks j).mpr q)]
  rfl
 |some z=>
  have a:z.1=j:=by grind
  change z.2=_;rw[h.vs z (xl e),a]
def WOk.step{W L:LII}(h:WOk W L)(z:Int×Int):WOk (wn W z) (L++[z]):=by
 unfold wn upW;rw[h.get]
 by_cases d:W.any (λy=>y.1==z.1)=ac
 .rw[if_pos d]
  have f:(W.map λy=>if y.1=z.1 then (y.1,wt L z.1+z.2,) else y).map (·.1)=W.map (·.1):=by
   rw[map_map];show oq λy _=>?_;change(if y.1=z.1 then _ else y).1=_
   split <;> rfl
  show(by rw[f];show h.nd,λj=>?_,λy c=>?_,by rw[aq,aP];have:=h.ln;lia)
  .rw[f,h.ks j,aT,bx];show(.inl,λq=>q.elim id λq=>?_);have(y,c,e):=any_eq_true.mp d;have g:j=z.1:=by simpa using q
   rw[g,<- (beq_iff_eq.mp e)];show(h.ks _).mp (aG.mpr (y,c,rfl))
  .have(x,l,ex):=aG.mp c;rw[Jt]
   by_cases e:x.1=z.1
   .rw[if_pos e]at ex;rw[<- ex,if_pos e.symm,e]
   .rw[if_neg e]at ex;rw[<- ex,if_neg λq=>e q.symm,h.vs x l]
    lia
 .rw[if_neg d]
  have hn : z.1∉W.map (·.1):=λq=>d (by
   have(y,c,e):=aG.mp q;show any_eq_true.mpr (y,c,by simp[e]))
  show(?_,λj=>?_,λy c=>?_,by rw[aP,aP];have:=h.ln;change _+1<=_+1;lia)
  .rw[aT];show fE.mpr (h.nd,by simp,λa ha b i=>?_);have:b=z.1:=by simpa using i
   rw[this];show λq=>hn (q▸ha)
  .rw[aT,aT,bx,bx,h.ks j];rfl
  .rw[Jt]
   rcases bx.mp c with q |q
   .have ne:z.1≠y.1:=λe=>hn (e▸aG.mpr (y,q,rfl));rw[if_neg ne,h.vs y q]
    lia
   .have:y=(z.1,wt L z.1+z.2,):=by simpa using q
    rw[this,if_pos rfl]
def qp(L:LII):WOk (wts L) L:=by
 have go:∀(post pre W:List _),WOk W pre->WOk (post.foldl wn W) (pre++post):=by
  intro post
  induction post with
  |nil=>intro pre W h;rw[bN];show h
  |cons z post a=>
   intro pre W h;have:=a _ _ (h.step z);rw[cG]at this;show this
 show go L [] [] (fR,λ_=>Iff.rfl,λz h=>(dF h).elim,aM _)
def Ju(L:LII)(g:Z L<=100000):vT [.lst (L.map itD)]=aa (.kd (kW (wts L)) (xW (wts L))):=by
 apply jG;apply ak;show G9 rfl ?_;apply ak;show dq L itD (λpre M=>∃a b,M=[.im _,.ownd (kW (wts pre)) (xW (wts pre)),a,b]) rfl (_,_,rfl) ?_ ?_
 .rintro pre z post M e ⟨a,b,rfl⟩;show(_,rfl,?_);change wp _ [.im _,.ownd _ _,.im _,.im _] _;have h:Z pre<=Z L:=by rw[e,aP];lia
  have f:=(qp pre).ln
  have d:wts (pre++[z])=upW (wts pre) z.1 (nW (wts pre) z.1+z.2):=by
   unfold wts;rw[eU];rfl
  rw[d];generalize wts pre=W at f
  have c:pZ 1 (ae 2) (kI 0) [.im (.lst (L.map itD)),.ownd (kW W) (xW W),.im (.int z.1),.im (.int z.2)]=aa (.int (nW W z.1)):=by
   change aa ((gU _ _ _).getD _)=_;rw[Js]
  show G9 (o:=.nx [.im _,.ownd _ _,.im (.int z.1),.im (.int z.2)]) ?_ (_,_,rfl);unfold jD;rw[ap c rfl dR,az];change(if Z (kW W)<16777216 then aa (Fl.nx [.im _,.ownd _ _,.im _,.im _]) else ab)=_;rw[if_pos (by unfold kW;rw[aq];lia),Ve W z.1 _,Vf]
 .rintro M ⟨a,b,rfl⟩;show fL rfl (fM rfl)
def opI(es:LOB)(L:LII):LII:=L.filter λz=>opn es z.1
def hv(es:LOB)(L:LII)(lack:Int):LI0:=((wts (opI es L)).filter λz=>decide (z.2≥lack)).map (·.1)
def Jv(h:InN es.length L)(e:Z L<=100000)(lack:Int):vX [.lst (L.map itD),.lst (es.map shD),.int lack]=aa (.lst ((hv es L lack).map D.int)):=by
 have d:Z (opI es L)<=Z L:=gC _ _;have ok:=qp (opI es L);have c:=ok.ln;apply jG;apply ak;show bo (aE (aj (bB (ds:=(opI es L).map itD) ?_) rfl) (Ju _ (by lia))) ?_
 .show e9 L itD _ itD rfl (by lia) λz hz=>?_;have a:=h z hz;show dP rfl (bE (ap (aY rfl (aY rfl rfl rfl) (jz a.1 a.2.1)) rfl (DN es z.1))) λ_=>rfl
 generalize b:wts _=W at ok c;show iu ?_ (iw rfl);unfold hv;rw[b,map_map];show e9 W (λz=>D.int z.1) _ _ ?_ (by lia) λz hz=>?_
 .change aa _=_;unfold kW;rw[map_map];rfl
 .show dP rfl (bE (ap ?_ rfl Hb)) λ_=>rfl;change gU _ _ _=_;rw[Jp,HH W ok.nd z hz];rfl
abbrev tps(es:LOB):Prt->List (Int×Bool)
 |.inn t=>if opn es t then [(t,ac,)] else []
 |.out t=>if opn es t then [(t,af,)] else []
 |.least k L=>(hv es L (k-cI (·==aa ac) es L)).map λt=>(t,ac,)
 |.most k L=>(hv es L (cI (λe=>!(e==aa af)) es L-k)).map λt=>(t,af,)
def wq(lack:Int):Z (hv es L lack)<=Z L:=by
 unfold hv;rw[aq];have a:=gC (λz:Int×Int=>decide (z.2≥lack)) (wts (opI es L));have h2:=(qp (opI es L)).ln;have b:Z (opI es L)<=Z L:=gC _ _
 lia
def Vg(p:Prt)(h:p.Ok (Z es))(a:fo M=aa p.obj)(ha:fa M=aa [.lst (es.map shD)]):
  bf (aO "In" "tips" CT fo fa) (bf (aO "Out" "tips" C9 fo fa) (bf (aO "Least" "tips" CZ fo fa) (aO "Most" "tips" C5 fo fa))) M=aa (.lst ((tps es p).map prD)):=by
 cases p with
 |inn t=>
  show dQ ((cD a rfl ha).trans (dk (di (lT (bE (ap (aY rfl rfl (jz h.1 h.2)) rfl (DN es t))) (λe=>?_) λe=>?_))))
  .change _=aa (D.lst ((if opn es t then _ else []).map prD));rw[if_pos e];rfl
  .change _=aa (D.lst ((if opn es t then _ else []).map prD));rw[if_neg (by grind)]
   rfl
 |out t=>
  show bH (bI a (by decide)) (dQ ((cD a rfl ha).trans (dk (di (lT (bE (ap (aY rfl rfl (jz h.1 h.2)) rfl (DN es t))) (λe=>?_) λe=>?_)))))
  .change _=aa (D.lst ((if opn es t then _ else []).map prD));rw[if_pos e];rfl
  .change _=aa (D.lst ((if opn es t then _ else []).map prD));rw[if_neg (by grind)]
   rfl
 |least k L=>
  have b:=wq (es:=es) (L:=L) (k-cI (·==aa ac) es L);have h2:=h.2;show bH (bI a (by decide)) (bH (bI a (by decide)) (dQ ((cD a rfl ha).trans ?_)));apply jG;apply ak;show bo (ap rfl (aE rfl (Dt h.1 h.2)) lU) ?_;show iu ?_ (iw rfl);change _=aa (((hv es L _).map λt=>_).map prD);rw[map_map]
  show fh _ D.int _ (d8 (aE rfl (Jv h.1 h.2 _)) rfl) (by lia) λt _=>eM rfl rfl rfl
 |most k L=>
  have b:=wq (es:=es) (L:=L) (cI (λe=>!(e==aa af)) es L-k);have h2:=h.2;show bH (bI a (by decide)) (bH (bI a (by decide)) (bH (bI a (by decide)) ((cD a rfl ha).trans ?_)));apply jG;apply ak;show bo (ap (aE rfl (Du h.1 h.2)) rfl lU) ?_;show iu ?_ (iw rfl);change _=aa (((hv es L _).map λt=>_).map prD);rw[map_map];show fh _ D.int _ (d8 (aE rfl (Jv h.1 h.2 _)) rfl) (by lia) λt _=>eM rfl rfl rfl
abbrev neg(z:Int×Bool):Int×Bool:=(z.1,!z.2,)
abbrev pnx(es:LOB)(p:Prt):Option (List (Int×Bool))->List (Int×Bool)
 |none=>tps es p
 |some l=>l.filter λz=>decide (z∈tps es p)
abbrev pst(es:LOB)(a:Option (List (Int×Bool)))(p:Prt):Option (List (Int×Bool)):=if p.sure es then a else aa (pnx es p a)
abbrev sW:Option (List (Int×Bool))->D
 |none=>.non
 |some l=>.lst (l.map prD)
def Jw(es:LOB):∀G:List Prt,G.foldl (pst es) (aa [])=aa []
 | []=>rfl
 |p::G=>by
  have:pst es (aa []) p=aa []:=by unfold pst;split <;> rfl
  rw[fQ,this];show Jw es G
def Vh(h:p.Ok (Z es)):Z (tps es p)<=100000:=by
 cases p with
 |inn t=>
  change(if opn es t then _ else []).length<=100000;split
  .show(by decide:1<=100000)
  .show cy _
 |out t=>
  change(if opn es t then _ else []).length<=100000;split
  .show(by decide:1<=100000)
  .show cy _
 |least k L=>unfold tps;rw[aq];show cN (wq _) h.2
 |most k L=>unfold tps;rw[aq];show cN (wq _) h.2
def Jx(x:Int×Bool)(l:List (Int×Bool)):f8 (prD x) (.lst (l.map prD))=aa (.bl (decide (x∈l))):=by
 have e:∀l:List _,dC (prD x) (l.map prD)=aa (decide (x∈l)):=by
  intro l
  induction l with
  |nil=>rfl
  |cons z l a=>
   change((deq 19 _ _).bind λb=>(dC _ _).map λr=>b || r)=_;rw[show deq 19 _ _=aa (z.1==x.1 && (z.2==x.2 && ac))from rfl,a];change aa _=_
   congr 1
   grind
 change((dC _ _).map D.bl)=_
 grind
abbrev Jy:Option (List (Int×Bool))->LD ⊕ D
 |none=>.inr .non
 |some l=>.inl (l.map prD)
abbrev prs(G:List Prt)(es:LOB):Option (List (Int×Bool)):=(G.foldl (pst es) ab).map λl=>l.map neg
abbrev kRN(x:LD ⊕ D):Fl->Prop
 |.rtO ds=>x=.inl ds
 |.rt d=>d.scalar=ac/\x=.inr d
 | _=>False
def Vi{F:MF3}{x:LD ⊕ D}(h:wp F (f6 N ds) (kRN x)):zZ N F ds=aa x:=by
 have(r,e,q):=h;change(F _).bind H9=aa x;rw[e,az]
 cases r with
 |rtO us=>rw[show x=.inl us from q];rfl
 |rt d=>
  have(a,b):=q;rw[b]
  show if_pos a
 | _=>show q.elim
def Vj(G:List Prt)(x:∀p∈G,p.Ok (Z es)):Dc [.lst (G.map Prt.obj),.lst (es.map shD)]=aa (Jy (prs G es)):=by
 apply Vi;generalize m:D.lst _=q;apply ak;show bo rfl ?_;apply ak;show dq G Prt.obj (λpre M=>∃h i,M=[.im q,.im _,.im (sW (pre.foldl (pst es) ab)),h,i]/\∀l,pre.foldl (pst es) ab=aa l->Z l<=100000) (by subst m;rfl) ⟨_,_,rfl,λl e=>by nomatch e⟩ ?_ ?_
 .rintro pre p post M u ⟨h,i,rfl,c⟩;have n:=x p (by rw[u];simp);have b:G.foldl (pst es) ab=post.foldl (pst es) (pst es (pre.foldl (pst es) ab) p):=by rw[u,eU,fQ]
  rw[eU,fQ,foldl_nil];generalize pre.foldl _ ab=a at c b;show(_,rfl,?_);show a8 (pK (dB (UK p n rfl rfl) rfl)) (λe=>?_) λe=>b6 ?_
  .rw[Bool.not_eq_true']at e;have f:pst es a p=aa (pnx es p a):=by unfold pst;rw[if_neg (by rw[e];show bK)]
   apply ak;show bo (Vg p n rfl rfl) ?_;apply ak
   have v:(vIf (mB (m2 dIs (ae 2) kN)) (ae 4) (aI (bg 1 [4] (aS (ae 2)) (ay 0) (mB (m2 f8 (ae 0) (ae 1))) (ae 0)))) [.im q,.im (.lst (es.map shD)),.im (sW a),.im p.obj,.im (.lst ((tps es p).map prD))]=aa (sW (pst es a p))/\∀l,pst es a p=aa l->Z l<=100000:=by
    rw[f]
    cases a with
    |none=>show(rfl,λl e=>by cases e;show(Vh n))
    |some w=>
     have r:=c w rfl;show(lT rfl (λe=>by nomatch e) λ_=>bB (e9 w prD _ prD rfl (by lia) λz _=>dP rfl (bE (ap rfl rfl (Jx z _))) λ_=>rfl),λl e=>?_);cases e;show cN (gC _ _) r
   show bo v.1 ?_;obtain⟨g,j⟩:∃g,pst es a p=aa g:=(_,f);have d:=v.2;rw[j]at b d ⊢
   cases g with
   |nil=>
    show a8 rfl (λ_=>?_) λe=>by nomatch e
    show iu rfl (?_);unfold prs;rw[b,Jw]
    rfl
   |cons z g=>
    show a8 rfl (λe=>by nomatch e) λ_=>b6 (_,_,rfl,d)
  .rw[Bool.not_eq_false']at e;have f:pst es a p=a:=by unfold pst;rw[if_pos e]
   rw[f];show(_,_,rfl,c)
 .rintro M ⟨h,i,rfl,c⟩;unfold prs;generalize G.foldl _ ab=a at c;apply ak
  cases a with
  |none=>
   show a8 rfl (λ_=>(fL rfl (rfl,rfl))) λe=>by nomatch e
  |some l=>
   have r:=c l rfl;show a8 rfl (λe=>by nomatch e) λ_=>b6 ?_;show iu ?_ rfl;rw[map_map];show fh l prD _ rfl (by lia) λz _=>eM rfl rfl rfl
def i0(h:opn es t=ac):es.getD t.toNat ab=ab:=by simpa[opn]using h
def Jz(h:opn es t=ac):wt (opI es L) t=wt L t:=by
 unfold wt opI;rw[filter_filter]
 grind
def wu{lack:Int}:t∈hv es L lack↔opn es t=ac/\t∈L.map (·.1)/\wt L t≥lack:=by
 have ok:=qp (opI es L);constructor
 .intro h;have(z,hz,rfl):=aG.mp h;have(b,h2):=cg.mp hz;have h2:=of_decide_eq_true h2;have(y,c,a):=aG.mp ((ok.ks z.1).mp (aG.mpr (z,b,rfl)));have(g,d):=cg.mp c;rw[a]at d;show(d,aG.mpr (y,g,a),?_);rw[<- Jz d,<- ok.vs z b];show h2
 .rintro⟨b,h2,f⟩;have(y,c,a):=aG.mp h2;have(z,hz,e):=aG.mp ((ok.ks t).mpr (aG.mpr (y,cg.mpr (c,by rw[a];show b),a)));show aG.mpr (z,cg.mpr (hz,decide_eq_true ?_),e);rw[ok.vs z hz,e,Jz b];show f
def JA(es:LOB)(L:LII)(lack:Int):(hv es L lack).Nodup:=by
 unfold hv;show xn ((ot (p:=λz:Int×Int=>decide _)).map (·.1)) (qp _).nd
def DR(z:Int×Int)(L:LII)(t:Int):wt (z::L) t=(if z.1=t then z.2 else 0)+wt L t:=by
 unfold wt
 grind
def ww(q:Option Bool->Bool)(es:LOB)(z:Int×Int)(L:LII):cI q es (z::L)=(if q (es.getD z.1.toNat ab) then z.2 else 0)+cI q es L:=by
 unfold cI
 grind
def DU(h:InN n L)(t:Int):0<=wt L t:=by
 induction L with
 |nil=>show Int.le_refl _
 |cons z L b=>
  have c:=h z aA;have h2:=b λy a=>h y (bj _ a);rw[DR]
  grind
def lR{j:Int}{b:Bool}(t0:0<=t)(t1:t<(Z es:Int))(a:0<=j):(put es t.toNat b).getD j.toNat ab=if j=t then aa b else es.getD j.toNat ab:=by
 by_cases e:j=t
 .rw[if_pos e,e];show fj es b (by lia)
 .rw[if_neg e];show c7 es b (by lia)
def wx(h:InN es.length L)(t0:0<=t)(t1:t<(Z es:Int))(a:opn es t=ac)(b:Bool):cI (·==aa ac) (put es t.toNat b) L=cI (·==aa ac) es L+if b then wt L t else 0:=by
 induction L with
 |nil=>cases b <;> rfl
 |cons z L d=>
  rw[ww,ww,DR,(d λy c=>h y (bj _ c)),lR t0 t1 (h z aA).1]
  by_cases e:z.1=t
  .rw[if_pos e,if_pos e,e,i0 a]
   cases b with
   |true=>
    change z.2+(cI _ es L+wt L t)=0+cI _ es L+(z.2+wt L t)
    lia
   |false=>
    change 0+(cI _ es L+0)=0+cI _ es L+0
    lia
  .rw[if_neg e,if_neg e]
   split <;> split <;> lia
def wz(h:InN es.length L)(t0:0<=t)(t1:t<(Z es:Int))(a:opn es t=ac)(b:Bool):cI (λe=>!(e==aa af)) (put es t.toNat b) L=cI (λe=>!(e==aa af)) es L-if b then 0 else wt L t:=by
 induction L with
 |nil=>cases b <;> rfl
 |cons z L d=>
  rw[ww,ww,DR,(d λy c=>h y (bj _ c)),lR t0 t1 (h z aA).1]
  by_cases e:z.1=t
  .rw[if_pos e,if_pos e,e,i0 a]
   cases b with
   |true=>
    change z.2+(cI _ es L-0)=z.2+cI _ es L-0
    lia
   |false=>
    change 0+(cI _ es L-wt L t)=z.2+cI _ es L-(z.2+wt L t)
    lia
  .rw[if_neg e,if_neg e]
   split <;> split <;> lia
def DV(i:p.Ok (Z es))(d:p.sure es=af)(t:Int)(b:Bool):(t,b,)∈tps es p↔(0<=t/\t<(Z es:Int))/\opn es t=ac/\p.sure (put es t.toNat b)=ac:=by
 cases p with
 |inn t0=>
  have(f,g):=i;change _∈(if opn es t0 then _ else [])↔_
  have es':0<=t->t<_->(Prt.sure _ (.inn t0)=ac↔(if t0=t then aa b else es.getD t0.toNat ab)=aa ac):=λx y=>by
   rw[<- lR x y f];show beq_iff_eq
  have d:¬es.getD t0.toNat ab=aa ac:=λq=>by
   have:(es.getD t0.toNat ab==aa ac)=af:=d;rw[q]at this;show absurd this (by decide)
  constructor
  .intro h;split at h
   .rename_i c;have:(t,b,)=(t0,ac,):=by simpa using h
    cases this;show((f,g),c,(es' f g).mpr (if_pos rfl))
   .nomatch h
  .rintro⟨⟨x,y⟩,c,a⟩;have a:=(es' x y).mp a
   by_cases e:t0=t
   .rw[if_pos e]at a;cases a;rw[e,if_pos c];show aA
   .rw[if_neg e]at a
    show absurd a d
 |out t0=>
  have(f,g):=i;change _∈(if opn es t0 then _ else [])↔_
  have es':0<=t->t<_->(Prt.sure _ (.out t0)=ac↔(if t0=t then aa b else es.getD t0.toNat ab)=aa af):=λx y=>by
   rw[<- lR x y f];show beq_iff_eq
  have d:¬es.getD t0.toNat ab=aa af:=λq=>by
   have:(es.getD t0.toNat ab==aa af)=af:=d;rw[q]at this;show absurd this (by decide)
  constructor
  .intro h;split at h
   .rename_i c;have:(t,b,)=(t0,af,):=by simpa using h
    cases this;show((f,g),c,(es' f g).mpr (if_pos rfl))
   .nomatch h
  .rintro⟨⟨x,y⟩,c,a⟩;have a:=(es' x y).mp a
   by_cases e:t0=t
   .rw[if_pos e]at a;cases a;rw[e,if_pos c];show aA
   .rw[if_neg e]at a
    show absurd a d
 |least k L=>
  have hi:=i.1;have d:=of_decide_eq_false d;change _∈(hv es L _).map _↔(_/\_/\decide _=ac);rw[decide_eq_true_iff];constructor
  .intro h;have(u,hm,e):=aG.mp h;cases e;have(c,hn,l):=wu.mp hm;have(z,hz,j):=aG.mp hn;have hr:=hi z hz;rw[j]at hr;show((hr.1,hr.2.1),c,?_);rw[wx hi hr.1 hr.2.1 c,if_pos rfl];lia
  .rintro⟨⟨x,y⟩,c,a⟩;simp only[wx hi x y c]at a
   cases b with
   |false=>rw[if_neg (by decide)]at a;lia
   |true=>
    show aG.mpr (t,wu.mpr (c,?_,by lia),rfl)
    by_cases q:t∈L.map (·.1)
    .show q
    .rw[DQ q]at a
     lia
 |most k L=>
  have hi:=i.1;have d:=of_decide_eq_false d;change _∈(hv es L _).map _↔(_/\_/\decide _=ac);rw[decide_eq_true_iff];constructor
  .intro h;have(u,hm,e):=aG.mp h;cases e;have(c,hn,l):=wu.mp hm;have(z,hz,j):=aG.mp hn;have hr:=hi z hz;rw[j]at hr;show((hr.1,hr.2.1),c,?_);rw[wz hi hr.1 hr.2.1 c,if_neg (by decide)];lia
  .rintro⟨⟨x,y⟩,c,a⟩;rw[wz hi x y c]at a
   cases b with
   |true=>rw[if_pos rfl]at a;lia
   |false=>
    show aG.mpr (t,wu.mpr (c,?_,by lia),rfl)
    by_cases q:t∈L.map (·.1)
    .show q
    .rw[DQ q]at a
     lia
def wA(c:p.Ok (Z es))(t0:0<=t)(t1:t<(Z es:Int))(d:opn es t=ac)(b:Bool)(h:p.sure es=ac):p.sure (put es t.toNat b)=ac:=by
 have f:=i0 d
 cases p with
 |inn u=>
  have a:=beq_iff_eq.mp h;change((put es t.toNat b).getD u.toNat ab==aa ac)=ac;rw[lR t0 t1 c.1,if_neg (λe=>by rw[e,f]at a;nomatch a),a]
  rfl
 |out u=>
  have a:=beq_iff_eq.mp h;change((put es t.toNat b).getD u.toNat ab==aa af)=ac;rw[lR t0 t1 c.1,if_neg (λe=>by rw[e,f]at a;nomatch a),a]
  rfl
 |least k L=>
  have h:=of_decide_eq_true h;change decide _=ac;have:=DU c.1 t;rw[decide_eq_true_iff,wx c.1 t0 t1 d]
  grind
 |most k L=>
  have h:=of_decide_eq_true h;change decide _=ac;have:=DU c.1 t;rw[decide_eq_true_iff,wz c.1 t0 t1 d]
  grind
def Vk(es:LOB)(p:Prt):((tps es p).map (·.1)).Nodup:=by
 have one:∀(q:Bool) (z:Int×Bool),((if q then [z] else []).map (·.1)).Nodup:=λq z=>by
  cases q
  .show fR
  .show b9.mpr (λh=>(dF h).elim,fR)
 cases p with
 |inn t=>show one _ _
 |out t=>show one _ _
 |least k L=>
  change(((hv es L _).map λt=>(t,ac,)).map (·.1)).Nodup;rw[map_map]
  show(map_id _).symm▸JA es L _
 |most k L=>
  change(((hv es L _).map λt=>(t,af,)).map (·.1)).Nodup;rw[map_map];show(map_id _).symm▸JA es L _
abbrev DY(es:LOB)(G:List Prt):Option (List (Int×Bool))->Prop
 |none=>∀p∈G,p.sure es=ac
 |some l=>(∃p∈G,p.sure es=af)/\(∀z,z∈l↔∀p∈G,p.sure es=af->z∈tps es p)/\(l.map (·.1)).Nodup
def JB(es:LOB)(G:List Prt):DY es G (G.foldl (pst es) ab):=by
 have go:∀(post pre:List Prt) b,DY es pre b->DY es (pre++post) (post.foldl (pst es) b):=by
  intro post
  induction post with
  |nil=>intro pre b h;rw[bN];show h
  |cons p post j=>
   intro pre b h;have:=j (pre++[p]) (pst es b p) ?_
   .grind
   unfold pst
   cases f:p.sure es with
   |true=>
    have hm:∀q,q∈pre++[p]->q∈pre\/q=p:=λq c=>(bx.mp c).imp id λe=>by simpa using e
    cases b with
    |none=>show λq c=>(hm q c).elim (h q) λe=>e▸f
    |some l=>
     have((q,c,i),h2,g):=h;show((q,b8 _ c,i),λz=>?_,g)
     grind
   |false=>
    have d:p∈pre++[p]:=by simp
    cases b with
    |none=>
     show((p,d,f),λz=>?_,Vk es p);show(λa q c e=>?_,λa=>a p d f)
     rcases bx.mp c with w |w
     .rw[h q w]at e;grind
     .have:q=p:=by simpa using w
      rw[this];show a
    |some l=>
     have(_,h2,g):=h;show((p,d,f),λz=>?_,xn ((ot (p:=λz=>decide (z∈tps es p))).map (·.1)) g);change z∈l.filter _↔_
     grind
 show go G [] ab λp d=>(dF d).elim
nonrec def Pr:=Int×Bool
nonrec abbrev LLP:=List (List Pr)
nonrec def Wy:=Bool×Nat
nonrec def Wt:=List (Pr×List Wy)
def wyS(b:Bool):Str:=cond b "bar" "rule"
def wyD(y:Wy):D:=.tup [.str (wyS y.1),.int y.2]
def wyK(y:Wy):List Key:=[.inr (wyS y.1),.inl y.2]
def eS(b:List Pr):D:=.lst (b.map prD)
def brP(z:Pr):Prt:=if z.2 then .inn z.1 else .out z.1
def brg(b:List Pr):List Prt:=b.map brP
variable{y:Wy}
def D0{x:Wy}(h:wyK x=wyK y):x=y:=by
 have(a,i):=x;have(b,j):=y;have(c,h2):=qP h;have f:=ut (qP h2).1;have d:i=j:=by lia
 subst d;have e:wyS a=wyS b:=Sum.inr.inj c
 cases a <;> cases b <;> first |rfl |show absurd e (by decide)
variable{p q:Pr}
def JC(h:gA p.1 p.2=gA q.1 q.2):p=q:=by
 have(a,i):=p;have(b,j):=q;have(c,h2):=qP h
 grind
abbrev gK(p:Pr)(y:Wy):Wt->Wt
 | []=>[(p,[y],)]
 |q::tw=>if q.1=p then (q.1,q.2++[y],)::tw else q::gK p y tw
abbrev gZ(p:Pr)(y:Wy):Wt->Wt
 | []=>[]
 |q::tw=>if q.1=p then (q.1,q.2.erase y,)::tw else q::gZ p y tw
def look(tw:Wt)(p:Pr):List Wy:=match tw with
 | []=>[]
 |q::tw=>if q.1=p then q.2 else look tw p
def wtW(tw:Wt):Wss:=tw.map λq=>(gA q.1.1 q.1.2,q.2.map wyD,)
def JD(p:Pr)(y:Wy):∀tw:Wt,gz (gA p.1 p.2) (wyD y) (wtW tw)=wtW (gK p y tw)
 | []=>rfl
 |q::tw=>by
  change gz _ _ ((gA q.1.1 q.1.2,q.2.map wyD,)::wtW tw)=_;unfold gz gK
  by_cases e:q.1=p
  .rw[if_pos (by rw[e]),if_pos e];change _=(_,(q.2++[y]).map wyD,)::wtW tw
   grind
  .rw[if_neg (λz=>e (JC z)),if_neg e,JD p y tw];rfl
def ixW(p:Pr):∀tw:Wt,(aV (gA p.1 p.2) ((wtW tw).map (·.1))=ab/\look tw p=[])\/∃j q,aV (gA p.1 p.2) ((wtW tw).map (·.1))=aa j/\tw[j]?=aa q/\q.1=p/\look tw p=q.2/\∀y,gZ p y tw=tw.set j (q.1,q.2.erase y,)
 | []=>.inl (rfl,rfl)
 |q::tw=>by
  change(aV _ (gA q.1.1 q.1.2::(wtW tw).map (·.1))=ab/\_)\/∃j b,aV _ (gA q.1.1 q.1.2::(wtW tw).map (·.1))=aa j/\_;unfold aV look
  by_cases e:q.1=p
  .show .inr (0,q,if_pos (by rw[e]),rfl,e,if_pos e,λy=>?_);unfold gZ
   grind
  .rw[if_neg (λz=>e (JC z)),if_neg e]
   rcases ixW p tw with⟨a,h2⟩ |⟨j,b,a,h2,c,d,f⟩
   .grind
   .show .inr (j+1,b,by rw[a];rfl,by rw[g9];show h2,c,d,λy=>?_);unfold gZ
    grind
def wB(ds:LD):(lsO ds).items=aa ds:=zT ds
def Vl(tw:Wt)(p:Pr):(wsO (wtW tw)).got (gA p.1 p.2)=aa ((look tw p).map wyD):=by
 unfold wsO O.got;dsimp only
 rcases ixW p tw with⟨a,h2⟩ |⟨j,q,a,h2,c,b,d⟩
 .grind
 .rw[a,b];dsimp only;rw[cx,wtW,cx,h2];show wB _
variable{tw:Wt}{pp:Xp}{g:MF1}
def D3(h:pp M=aa (wsO (wtW tw),R,))(a:g M=aa (prD p)):iy pp g M=aa ((look tw p).map wyD):=by
 unfold iy;rw[h,az,a,az];show Vl tw p
def Vm(h:pp M=aa (wsO (wtW tw),R,))(e:g M=aa (prD p))(i:look tw p≠[]):∃a,kZ pp g M=aa (lsO ((look tw p).map wyD),a,)/\∀y,a (lsO (((look tw p).erase y).map wyD))=R (wsO (wtW (gZ p y tw))):=by
 rcases ixW p tw with⟨b,h2⟩ |⟨j,q,b,h2,f,c,d⟩
 .grind
 .show(λx=>R (.dT ((wtW tw).map (·.1)) (((wtW tw).map λp=>lsO p.2).set j x)),?_,λy=>?_)
  .unfold kZ;rw[h,az,e,az];change((wsO _).key (gA p.1 p.2)).map _=_;unfold wsO O.key;dsimp only;rw[b,az,cx,wtW,cx,h2,c];rfl
  .rw[d y,c];unfold wsO wtW;rw[hU,hU,hU,nI (by grind)]
def JE(z y:Wy):deq 19 (wyD z) (wyD y)=aa (z==y):=by
 rw[show deq 19 _ _=aa ((wyS z.1==wyS y.1) && ((_==_) && ac))from rfl]
 congr 1
 have(a,i):=z;have(b,j):=y;apply jP.mpr;simp only[ce,beq_iff_eq,Prod.mk.injEq,and_true];constructor
 .rintro⟨u,v⟩;show(?_,by lia)
  cases a <;> cases b <;> first |rfl |show absurd u (by decide)
 .grind
def D4(y:Wy):∀W5:List Wy,dC (wyD y) (W5.map wyD)=aa (decide (y∈W5))
 | []=>rfl
 |z::W5=>by
  change((deq 19 _ _).bind λb=>(dC _ _).map λr=>b || r)=_;rw[JE,D4 y W5]
  grind
def JF(y:Wy):∀W5:List Wy,y∈W5->(W5.map wyD).eraseIdx ((W5.map wyD).findIdx (isE (wyD y)))=(W5.erase y).map wyD
 | [],h=>nomatch h
 |z::W5,h=>by
  have a:isE (wyD y) (wyD z)=(z==y):=by
   unfold isE;rw[JE]
   grind
  rw[bG,qL,a,erase_cons]
  cases e:z==y with
  |true=>rfl
  |false=>
   have:y∈W5:=by
    grind
   change wyD z::(W5.map wyD).eraseIdx _=_;rw[JF y W5 this];rfl
def Vn{W5:List Wy}(h:y∈W5):(lsO (W5.map wyD)).remd (wyD y)=aa (lsO ((W5.erase y).map wyD)):=by
 unfold O.remd;rw[wB,az,D4,decide_eq_true h,if_pos rfl,JF y W5 h];rfl
def Vo(y:Wy)(W5:List Wy):f8 (wyD y) (.lst (W5.map wyD))=aa (.bl (decide (y∈W5))):=by
 change((dC _ _).map D.bl)=_;rw[D4];rfl
def gys(r b:Nat):List Wy:=(bw r).map (λi=>(af,i,))++(bw b).map λi=>(ac,i,)
def bP(B:LRu)(bs:LLP)(y:Wy):List Prt:=cond y.1 (brg (bs.getD y.2 [])) (((B[y.2]?).map grd).getD [])
def gdD(B:LRu)(bs:LLP)(y:Wy):D:=.lst ((bP B bs y).map Prt.obj)
def JG(r b:Nat):(gys r b).Nodup:=by
 show fE.mpr ((xp _ (λa b h e=>h (t9 e).2) nodup_range),(xp _ (λa b h e=>h (t9 e).2) nodup_range),?_)
 grind
variable{r:Nat}
def fq{b:Nat}:y∈gys r b↔y.2<cond y.1 b r:=by
 unfold gys;have(a,i):=y
 cases a <;> simp
def Vp(r b:Nat):Z (gys r b)=r+b:=by unfold gys;simp
def D5(r b:Nat):gys r (b+1)=gys r b++[(ac,b,)]:=by unfold gys;rw[range_succ];simp
def D6{b c:Type}[DecidableEq c]{f:b->c}(d:∀x y,f x=f y->x=y):∀{l:List b} {j:Nat} {a:b},l.Nodup->l[j]?=aa a->aV (f a) (l.map f)=aa j
 | [],_,_,_,h=>by cases h
 |x::l,0,a,_,h=>by
  cases h
  show if_pos rfl
 |x::l,j+1,a,nd,h=>by
  have(g,i):=b9.mp nd;rw[bG];unfold aV;rw[if_neg (λe=>g (by grind)),D6 d i h];rfl
structure Spt where
 es:LOB
 st:LD
 bs:LLP
 tw:Wt
 wt:List Wy
 ms:LRu
 pp:LD
 ct:Int
 en:Bool
def Spt.S(B:LRu)(s:Spt):Spr:=(s.es,s.st,s.bs.map eS,(gys B.length (Z s.bs)).map wyK,(gys B.length (Z s.bs)).map (gdD B s.bs),wtW s.tw,s.wt.map wyD,.lst (s.ms.map mkD),[("paper",lsO s.pp,),("count",.fz (.int s.ct),),("ended",.fz (.bl s.en),)])
def Vq{s:Spt}(c:y∈gys B.length (Z s.bs))(b:g (.deep (.at l (s.S B).o)::M)=aa (wyD y)):pB (kZ (aW "Seeking" "guards" (aJ 0)) g) (.deep (.at l (s.S B).o)::M)=aa (gdD B s.bs y):=by
 have(j,a):=om c;unfold pB kZ;rw[IY,az,b,az];change(((O.dT ((gys B.length (Z s.bs)).map wyK) (((gys B.length (Z s.bs)).map _).map .fz)).key (wyK y)).map _).bind _=_;unfold O.key;dsimp only;rw[(D6 (λ_ _=>D0) (JG _ _) a),az,cx,cx,a];rfl
def sX(y:Wy)(tw:Wt)(p:Prt):Wt:=(nmL p).foldl (λtw t=>gK (t,gY p,) y tw) tw
def gc(y:Wy)(ps:List Prt)(tw:Wt):Wt:=ps.foldl (sX y) tw
def Vr(y:Wy)(p:Prt)(tw:Wt):v8 (wyD y) (wtW tw) p=wtW (sX y tw p):=by
 unfold v8 sX;generalize nmL p=ts
 induction ts generalizing tw with
 |nil=>rfl
 |cons t ts a=>rw[fQ,fQ,JD (t,gY p,),a]
def wC(y:Wy)(ps:List Prt)(tw:Wt):nR (wyD y) ps (wtW tw)=wtW (gc y ps tw):=by
 unfold nR gc
 induction ps generalizing tw with
 |nil=>rfl
 |cons p ps a=>rw[fQ,fQ,Vr,a]
abbrev nX:Nat->LRu->Wt->Wt
 | _,[],tw=>tw
 |i,r::B,tw=>nX (i+1) B (gc (af,i,) (grd r) tw)
def JH:∀(B:LRu) (i:Nat) (s:Spr) (tw:Wt),s.ws=wtW tw->(fm i B).foldl l8 s=(s.es,s.st,s.bs,s.gk++(fm i B).map (λp=>nU p.1),s.gd++(fm i B).map (λp=>.lst ((grd p.2).map Prt.obj)),wtW (nX i B tw),s.wt++(fm i B).map (λp=>sT p.1),s.mks,s.tl)
 | [],i,s,tw,h=>by
  have(a,b,c,d,e,f,g,m,tl):=s;subst h;simp[fm]
  rfl
 |r::B,i,s,tw,h=>by
  rw[fm,fQ,JH B _ _ (gc (af,i,) _ tw) (by rw[<- wC,<- h];rfl)];simp[l8,we,nX]
def JI{a:Type}(f:Nat->a)(B:LRu):(fm 0 B).map (λp=>f p.1)=(bw (Z B)).map f:=by
 apply mo;intro j;rw[cx,sU,cx]
 grind
def spT(es:LOB)(B:LRu):Spt:=(es,[],[],nX 0 B [],(bw (Z B)).map λi=>(af,i,),dM B,[],0,af)
def Vs(es:LOB)(B:LRu):spI es B={(spT es B).S B with tl:=[]}:=by
 unfold spI;rw[JH B 0 _ [] rfl,JI nU,JI sT];dsimp only[Spt.S,spT,sp0,gys];simp only[oA,map_nil,length_nil,range_zero,bN,map_map]
 congr 1
 apply mo;intro j;rw[cx,sU,cx]
 by_cases h:j<Z B
 .rw[tR h];simp[gdD,bP,b7 h]
 .rw[gB (by lia),gB (by rw[bU];lia)];rfl
def sY(p q:Pr)(y:Wy):∀tw:Wt,look (gK p y tw) q=if q=p then look tw q++[y] else look tw q
 | []=>by
  change(if p=q then [y] else [])=if q=p then []++[y] else []
  grind
 |r::tw=>by
  by_cases e:r.1=p
  .rw[gK,if_pos e];change(if r.1=q then r.2++[y] else look tw q)=if q=p then (if r.1=q then r.2 else look tw q)++[y] else (if r.1=q then r.2 else look tw q)
   grind
  .rw[gK,if_neg e];change(if r.1=q then r.2 else look _ q)=if q=p then (if r.1=q then r.2 else look tw q)++[y] else (if r.1=q then r.2 else look tw q);rw[(sY p q y tw)]
   grind
def JJ(p q:Pr)(y:Wy):∀tw:Wt,look (gZ p y tw) q=if q=p then (look tw q).erase y else look tw q
 | []=>by
  split <;> rfl
 |r::tw=>by
  by_cases e:r.1=p
  .rw[gZ,if_pos e];change(if r.1=q then r.2.erase y else look tw q)=if q=p then (if r.1=q then r.2 else look tw q).erase y else (if r.1=q then r.2 else look tw q)
   grind
  .rw[gZ,if_neg e];change(if r.1=q then r.2 else look _ q)=if q=p then (if r.1=q then r.2 else look tw q).erase y else (if r.1=q then r.2 else look tw q);rw[(JJ p q y tw)]
   grind
nonrec def cn(tw:Wt)(p:Pr)(y:Wy):Nat:=(look tw p).count y
def g4:y∈look tw p↔0<cn tw p y:=count_pos_iff.symm
def Vt{z:Wy}(h:z≠y):cn (gK p y tw) q z=cn tw q z:=by
 unfold cn;rw[sY];split
 .rw[count_append,count_singleton,if_neg (by rw[beq_iff_eq];show λe=>h e.symm)];rfl
 .rfl
def nY{y z:Wy}(h:z≠y)(q:Pr):∀(ps:List Prt) (tw:Wt),cn (gc y ps tw) q z=cn tw q z
 | [],_=>rfl
 |p::ps,tw=>by
  change cn (gc y ps _) q z=_;rw[nY h q ps];unfold sX;generalize nmL p=ts
  induction ts generalizing tw with
  |nil=>rfl
  |cons t ts a=>rw[fQ,a,Vt h]
def Vu(y:Wy)(tw:Wt)(z:Pr):sX y tw (brP z)=gK z y tw:=by
 have(t,b):=z
 cases b <;> rfl
def D7(y:Wy)(q:Pr):∀(b:List Pr) (tw:Wt),cn (gc y (brg b) tw) q y=cn tw q y+b.count q
 | [],_=>rfl
 |z::b,tw=>by
  change cn (gc y (brg b) _) q y=_;rw[D7 y q b,Vu,count_cons]
  have:cn (gK z y tw) q y=cn tw q y+if z==q then 1 else 0:=by
   unfold cn;rw[sY]
   by_cases e:q=z
   .rw[if_pos e,count_append,if_pos (by rw[e];show beq_self_eq_true z),count_singleton,if_pos (beq_self_eq_true y)]
   .rw[if_neg e,if_neg (by rw[beq_iff_eq];show λx=>e x.symm)];rfl
  lia
def k8(y:Wy)(ps:List Pr)(tw:Wt):Wt:=ps.foldl (λtw p=>gZ p y tw) tw
def Vv(p q:Pr)(y z:Wy)(tw:Wt):cn (gZ p y tw) q z=if q=p/\z=y then cn tw q z-1 else cn tw q z:=by
 unfold cn;rw[JJ]
 by_cases e:q=p
 .rw[if_pos e]
  by_cases f:z=y
  .rw[if_pos (e,f),f,count_erase_self]
  .rw[if_neg (λx=>f x.2),count_erase_of_ne f]
 .rw[if_neg e,if_neg (λx=>e x.1)]
def D8(q:Pr)(y z:Wy):∀(ps:List Pr) (tw:Wt),ps.Nodup->cn (k8 y ps tw) q z=if q∈ps/\z=y then cn tw q z-1 else cn tw q z
 | [],tw,_=>by rw[if_neg (λx=>nomatch x.1)];rfl
 |p::ps,tw,nd=>by
  have(a,b):=b9.mp nd;change cn (k8 y ps _) q z=_;rw[D8 q y z ps _ b,Vv]
  by_cases f:z=y
  .by_cases e:q=p
   .rw[if_neg (λx=>a (by rw[<- e];show x.1)),if_pos (e,f),if_pos (by rw[e];show aA,f)]
   .rw[if_neg (λx:q=p/\z=y=>e x.1)]
    by_cases g:q∈ps
    .rw[if_pos (g,f),if_pos (bj _ g,f)]
    .rw[if_neg (λx=>g x.1),if_neg (λx=>by rcases a9.mp x.1 with u |u;show e u;show g u)]
  .rw[if_neg (λx=>f x.2),if_neg (λx=>f x.2),if_neg (λx=>f x.2)]
def Vw(h:bT c (wtW tw)):bT c (wtW (gZ p y tw)):=by
 have gen:∀tw:Wt,Z (gZ p y tw)=Z tw/\∀q∈gZ p y tw,∃d∈tw,Z q.2<=Z d.2:=by
  intro tw
  induction tw with
  |nil=>show⟨rfl,λq h=>nomatch h⟩
  |cons r tw f=>
   dsimp only[gZ];split
   .show(rfl,λq a=>?_)
    rcases a9.mp a with e |e
    .rw[e];show(r,aA,(erase_sublist).length_le)
    .show(q,bj _ e,aM _)
   .show(by rw[cf,f.1];rfl,λq a=>?_)
    rcases a9.mp a with e |e
    .rw[e];show(r,aA,aM _)
    .have(d,b,h2):=f.2 q e;show(d,bj _ b,h2)
 have(g,i):=gen tw;show(by unfold wtW;rw[aq,g];have:=h.ln;unfold wtW at this;rwa [aq]at this,λq a=>?_);have(x,j,rfl):=aG.mp a;have(l,b,h2):=i x j;have:=h.al _ (aG.mpr (l,b,rfl));rw[aq]at this ⊢
 lia
def JK{c:Nat}{y:Wy}:∀{ps:List Pr} {tw:Wt},bT c (wtW tw)->bT c (wtW (k8 y ps tw))
 | [],_,h=>h
 | _::ps,_,h=>JK (ps:=ps) (Vw h)
def D9(h:bT c (wtW tw))(p:Pr):Z (look tw p)<=c:=by
 rcases ixW p tw with⟨_,h2⟩ |⟨j,q,b,h2,d,a,e⟩
 .rw[h2];show cy _
 .rw[a];have:=h.al _ (aG.mpr (q,dU h2,rfl))
  rwa [aq]at this
def sZ(nd:ns.Nodup)(h:∀x∈ns,0<=x/\x<(n:Int)):Z ns<=n:=by
 by_cases c:Z ns<=n
 .show c
 .have d:∀x∈ns,x∈(bw n).map λ(i:Nat)=>(i:Int):=λx e=>by
   have(a,b):=h x e;show aG.mpr (S x,fF.mpr (by lia),by lia)
  have:=(pS ns _ nd d (by rw[aq,bU];lia)).length_eq;rw[aq,bU]at this
  lia
structure cX(n:Nat)(b:List Pr):Prop where
 nn:∀z∈b,0<=z.1/\z.1<(n:Int)
 nd:(b.map (·.1)).Nodup
variable{b:List Pr}
def cX.pd(h:cX n b):b.Nodup:=List.Pairwise.of_map _ (λ_ _ z e=>z (by rw[e])) h.nd
def cX.len(h:cX n b):Z b<=n:=by
 have:Z (b.map (·.1))<=n:=sZ h.nd λx a=>by
  have(z,hz,rfl):=aG.mp a;show h.nn z hz
 rwa [aq]at this
def cX.nil(n:Nat):cX n []:=((λ_ h=>nomatch h),fR)
structure d6(c r:Nat)(bs:LLP)(tw:Wt):Prop where
 wk:bT c (wtW tw)
 vl:∀p,∀y∈look tw p,y∈gys r (Z bs)
 br:∀j,(∀p,cn tw p (ac,j,)=0)\/(∀p,cn tw p (ac,j,)=if p∈bs.getD j [] then 1 else 0)
abbrev wider(tw:Wt):List Pr->List Wy
 | []=>[]
 |p::b=>(p::b).foldl (λW5 q=>W5.filter λy=>decide (y∈look tw q)) (look tw p)
def JL(tw:Wt):∀(b:List Pr) (W5:List Wy),(b.foldl (λW5 q=>W5.filter λy=>decide (y∈look tw q)) W5).Sublist W5/\∀y∈b.foldl (λW5 q=>W5.filter λy=>decide (y∈look tw q)) W5,∀p∈b,y∈look tw p
 | [],W5=>⟨qN _,λ_ _ _ h=>nomatch h⟩
 |q::b,W5=>by
  have(a,h2):=JL tw b _;show(a.trans ot,λy c p d=>?_)
  rcases a9.mp d with e |e
  .rw[e];show of_decide_eq_true (cg.mp (a.subset c)).2
  .show h2 y c p e
def jK(bs:LLP)(tw:Wt)(y:Wy):Wt:=cond y.1 (k8 y (bs.getD y.2 []) tw) tw
def l9(bs:LLP)(tw:Wt)(b:List Pr):Wt:=(wider tw b).foldl (jK bs) tw
def qr{bs:LLP}(c:∀b∈bs,b.Nodup)(p:Pr)(z:Wy):cn (jK bs tw y) p z=if y.1=ac/\p∈bs.getD y.2 []/\z=y then cn tw p z-1 else cn tw p z:=by
 have(a,j):=y
 cases a with
 |false=>rw[if_neg (λx=>by cases x.1)];rfl
 |true=>
  have nd:(bs.getD j []).Nodup:=by
   rw[bp]
   cases e:bs[j]? with
   |none=>show fR
   |some b=>show c b (dU e)
  change cn (k8 _ _ tw) p z=_;rw[D8 p _ z _ _ nd]
  by_cases h:p∈bs.getD j []/\z=(ac,j,)
  .rw[if_pos h,if_pos (rfl,h)]
  .rw[if_neg h,if_neg (λx=>h x.2)]
def wE{bs:LLP}(a:∀b∈bs,b.Nodup)(p:Pr)(z:Wy):∀(W5:List Wy) (tw:Wt),z∉W5->cn (W5.foldl (jK bs) tw) p z=cn tw p z
 | [],_,_=>rfl
 |y::W5,tw,h=>by
  rw[fQ,wE a p z W5 _ (λq=>h (bj _ q)),qr a,if_neg (λx=>h (by rw[x.2.2];show aA))]
def Ea{bs:LLP}(a:∀b∈bs,b.Nodup)(p:Pr)(z:Wy):∀(W5:List Wy) (tw:Wt),cn (W5.foldl (jK bs) tw) p z<=cn tw p z
 | [],_=>aM _
 |y::W5,tw=>by
  show cN (Ea a p z W5 _) ?_;rw[qr a]
  split <;> lia
def JM{c:Nat}{bs:LLP}:∀{W5:List Wy} {tw:Wt},bT c (wtW tw)->bT c (wtW (W5.foldl (jK bs) tw))
 | [],_,h=>h
 |y::W5,tw,h=>by
  show JM (W5:=W5) ?_;unfold jK
  cases y.1 with
  |false=>show h
  |true=>show JK h
def d6.wide{bs:LLP}(h:d6 c r bs tw)(a:(ac,j,)∈wider tw b):(∀p,cn tw p (ac,j,)=if p∈bs.getD j [] then 1 else 0)/\(wider tw b).count (ac,j,)=1/\(∀p∈b,p∈bs.getD j [])/\j<Z bs:=by
 cases b with
 |nil=>nomatch a
 |cons e b=>
  have(d,h2):=JL tw _ _
  have ha:∀p,cn tw p (ac,j,)=if p∈bs.getD j [] then 1 else 0:=by
   rcases h.br j with z |z
   .have:=g4.mp (d.subset a)
    grind
   .show z
  show(ha,?_,λp f=>?_,fq.mp (h.vl e _ (d.subset a)))
  .have g:=count_pos_iff.mpr a;have i:(wider tw (e::b)).count _<=cn tw e (ac,j,):=d.count_le _
   grind
  .have:=g4.mp (h2 _ a p f)
   grind
def d6.dropped{bs:LLP}(h:d6 c r bs tw)(a:∀b∈bs,b.Nodup)(b:List Pr):d6 c r bs (l9 bs tw b):=by
 show(JM h.wk,λp y i=>h.vl p y (g4.mpr (fG (g4.mp i) (Ea a p y _ _))),λj=>?_)
 by_cases d:(ac,j,)∈wider tw b
 .show .inl λp=>?_;have(ha,m,_):=h.wide d
  have gen:∀(W5:List Wy) tw,(ac,j,)∈W5->(∀p,p∉bs.getD j []->cn tw p (ac,j,)=0)->(∀p,cn tw p (ac,j,)<=1)->cn (W5.foldl (jK bs) tw) p (ac,j,)=0:=by
   intro W5
   induction W5 with
   |nil=>intro tw h;nomatch h
   |cons y W5 l=>
    intro tw hm f h2;rw[fQ]
    by_cases e:(ac,j,)=y
    .have:cn (jK bs tw y) p (ac,j,)=0:=by
      rw[qr a]
      by_cases g:p∈bs.getD j []
      .rw[if_pos (by rw[<- e],by rw[<- e];show g,e)];have:=h2 p
       lia
      .rw[f p g]
       split <;> rfl
     have:=Ea a p (ac,j,) W5 (jK bs tw y)
     lia
    .show l _ (by rcases a9.mp hm with z |z;show absurd z e;show z) (λp g=>?_) λp=>?_
     .rw[qr a,if_neg (λx=>e x.2.2)];show f p g
     .rw[qr a,if_neg (λx=>e x.2.2)];show h2 p
  show gen _ _ d (λp g=>by rw[ha p,if_neg g]) λp=>by rw[ha p];split <;> lia
 .have e:∀p,cn (l9 bs tw b) p _=cn tw p _:=λp=>wE a p _ _ _ d
  rcases h.br j with z |z
  .show .inl λp=>by rw[e];show z p
  .show .inr λp=>by rw[e];show z p
variable{p:Xp}
def Vx{q:O×(O->O)}(h:p M=aa q)(a:f M=aa d)(hr:q.1.remd d=aa o2)(k:K (.nx (M.set i (.deep (q.2 o2))))):wp (qd i p f) M K:=(_,by
 unfold qd;rw[h,az,a,az,hr];rfl,k)
def Vy{a b:Sl}:aW "Seeking" "watches" (aJ 2) [a,b,.deep (.at l s.o)]=aa (wsO s.ws,λx=>.at l (iY s.tl [lsO (s.es.map shD),lsO s.st,lsO s.bs,.dT s.gk (s.gd.map .fz),x,lsO s.wt,.fz s.mks]),):=rfl
def JN{l:Addr}{s:Spr}{tw:Wt}(g:s.ws=wtW tw):∀(b:List Pr) (v1 c d f:Sl) (W5:List Wy),Z W5<=16777216->∃a,l5 2 3 1 [3,0] (ay 0) (mB (m2 f8 (ae 0) (aI (iy (aW "Seeking" "watches" (aJ 2)) (ae 1))))) (ae 0) (b.map prD) [.deep (.at l s.o),v1,c,d,f] (W5.map wyD)=aa ([.deep (.at l s.o),v1,c,a,f],(b.foldl (λW5 q=>W5.filter λy=>decide (y∈look tw q)) W5).map wyD,)
 | [],_,_,d,_,_,_=>(d,rfl)
 |p::b,v1,c,d,f,W5,hL=>by
  have(a,h):=JN g b v1 c _ f _ (cN (gC _ _) hL);show(a,?_);rw[bG];unfold l5;rw[if_pos (by grind)]
  have e:e7 (gR (ay 0) (mB (m2 f8 (ae 0) (aI (iy _ (ae 1))))) (ae 0) [.no,.im _,.deep (.at l s.o)]) _=aa _:=
   va wyD _ wyD W5 λy _=>dP rfl (bE (ap rfl (bB (D3 (p:=p) (Vy.trans (by rw[g])) rfl)) (Vo y _))) λ_=>rfl
  change(e7 (gR _ _ _ [.no,.im _,.deep _]) _).bind _=_;rw[e,az];show h
def Vz(d:s.ws=wtW tw)(g:bT c (wtW tw))(f:c<=16777216)(k:∀h,K (.nx [.deep (.at l s.o),.im (eS b),.own ((wider tw b).map wyD),h,.no])):
  wp (qf 2 3 (bO (ae 1)) (iy (aW "Seeking" "watches" (aJ 0)) (mIx (ax 1) (kI 0))) (aS (ae 1)) 1 [3,0] (ay 0) (mB (m2 f8 (ae 0) (aI (iy (aW "Seeking" "watches" (aJ 2)) (ae 1))))) (ae 0)) [.deep (.at l s.o),.im (eS b),.no,.no,.no] K:=by
 cases b with
 |nil=>show(_,rfl,k .no)
 |cons p b=>
  have(a,e):=JN d _ _ .no .no .no _ (cN (D9 g p) f);show(_,?_,k a);unfold qf;rw[show bO _ _=aa ac from rfl,az,show aS _ _=aa _ from rfl,az,if_pos (show ac=!((p::b).map prD).isEmpty from rfl),D3 (p:=p) (vZ.trans (by rw[d])) (aY rfl rfl (lN (0,af,) (by decide) (by grind))),if_pos rfl,az,e];rfl
def Eb{bs:LLP}(a:∀b∈bs,cX n b)(j:Nat):cX n (bs.getD j []):=by
 rw[bp]
 cases e:bs[j]? with
 |none=>show cX.nil n
 |some b=>grind
def VA(s:Spt)(b:List Pr)(ok:d6 c B.length s.bs s.tw)(G:c<16777216)(y:∀b∈s.bs,cX n b):BK l [eS b] (s.S B).o=aa ((({s with tw:=l9 s.bs s.tw b}:Spt).S B).o,.non,):=by
 apply fO;apply ak;show Vz rfl ok.wk (fH G) λd=>?_
 show dq _ wyD (λpre M=>∃d w,M=[.deep (.at l (({s with tw:=pre.foldl (jK s.bs) s.tw}:Spt).S B).o),.im _,.im _,d,w]) rfl (_,_,rfl) ?_ ?_
 .rintro pre ⟨a,j⟩ post M ex ⟨d,w,rfl⟩;show(_,rfl,?_);walk_at "nrm"
  cases a with
  |false=>
   show a8 rfl (λz=>by nomatch z) (λ_=>b6 ?_);show(d,.im (wyD (af,j,)),?_);rw[eU]
   rfl
  |true=>
   have(ha,A,_,H):=ok.wide (j:=j) (by rw[ex];simp)
   have m:(ac,j,)∉pre:=λq=>by
    grind
   have e:=Eb y j
   show dq (s.bs.getD j []) prD (λpr M=>∃d,M=[.deep (.at l (({s with tw:=k8 (ac,j,) pr _}:Spt).S B).o),.im _,.im _,d,.im _]) (d8 (aY (sN Dx) (aY rfl rfl rfl) (lN [] (by lia) (by grind))) rfl) (_,rfl) ?_ ?_
   .rintro pr p po M i ⟨d,rfl⟩;have u:p∈s.bs.getD j []:=by grind
    have r:=λq=>by
     have:=e.pd;rw[i]at this;show(fE.mp this).2.2 p q p aA rfl
    have v:pr.Nodup:=by
     have:=e.pd
     grind
    have f : _∈look (k8 (ac,j,) pr _) p:=g4.mpr (by
     rw[D8 p _ _ pr _ v,if_neg (λx=>r x.1),wE (λb h=>(y b h).pd) p _ _ _ m,ha p,if_pos u]
     grind)
    show(_,rfl,?_);walk_at "nrm"
    have(I,C,E):=Vm (g:=ae 3) (M:=[.deep (.at l (({s with tw:=k8 _ pr _}:Spt).S B).o),.im _,.im _,.im _,.im _]) vZ rfl (ne_nil_of_mem f)
    show Vx C rfl (Vn f) ?_;dsimp only;rw[E];show(.im (prD p),?_);unfold k8;rw[eU];rfl
   .rintro M ⟨d,rfl⟩;show(d,.im (wyD (ac,j,)),?_);rw[eU];rfl
 .rintro M ⟨d,w,rfl⟩;show(_,rfl,rfl,rfl)
def VB(b:List Pr)(hz:Z b<=16777216):B2 [eS b]=aa (.lst ((brg b).map Prt.obj)):=by
 rw[show(brg b).map Prt.obj=b.map λz=>(brP z).obj from map_map]
 show lM (congrArg _ (fh b prD _ rfl hz λz _=>eM rfl rfl (by
  have(t,x):=z
  cases x <;> rfl)))
def s9(h:cX n b):∀p∈brg b,PrK n p:=λp a=>by
 have(z,hz,rfl):=aG.mp a;have:=h.nn z hz;have(t,x):=z
 cases x <;> show(this,(by decide:1<=1000))
def ma{b:Type}(l:List b)(a d:b)(j:Nat):(l++[a]).getD j d=if j=Z l then a else l.getD j d:=by grind
def d6.bar{bs:LLP}(h:d6 c r bs tw)(a:cX n b)(hn:n<=60):d6 (c+3840) r (bs++[b]) (gc (ac,Z bs,) (brg b) tw):=by
 have d:∀p,cn tw p (ac,Z bs,)=0:=λp=>Nat.eq_zero_of_not_pos λq=>by
  have:Z bs<Z bs:=fq.mp (h.vl p _ (g4.mpr q))
  grind
 have g:∀p,cn _ p _=if p∈b then 1 else 0:=λp=>by
  rw[D7,d p,jR,a.pd.count]
 show(?_,λp y f=>?_,λj=>?_)
 .rw[<- wC];show(bT.reg hn (s9 a) h.wk).le ?_;unfold brg;rw[aq];have:=a.len;lia
 .rw[aP,fB,D5]
  by_cases e:y=(ac,Z bs,)
  .grind
  .show b8 _ (h.vl p y (g4.mpr ?_));rw[<- nY e p _];show g4.mp f
 .rw[ma]
  by_cases e:j=Z bs
  .grind
  .have ne:((ac,j,):Wy)≠(ac,Z bs,):=λz=>e (t9 z).2;rw[if_neg e]
   rcases h.br j with z |z
   .show .inl λp=>by rw[nY ne];grind
   .show .inr λp=>by rw[nY ne];grind
def Spt.bar(s:Spt)(b:List Pr):Spt:={s with bs:=s.bs++[b],tw:=gc (ac,Z s.bs,) (brg b) (l9 s.bs s.tw b),wt:=s.wt++[(ac,Z s.bs,)]}
def VC{bs:LLP}:(gys B.length (Z bs+1)).map (gdD B (bs++[b]))=(gys B.length (Z bs)).map (gdD B bs)++[.lst ((brg b).map Prt.obj)]:=by
 rw[D5,aT]
 congr 1
 .show oq λy c=>?_;have:=fq.mp c;have(a,j):=y
  cases a with
  |false=>rfl
  |true=>
   have:j<Z bs:=this;unfold gdD bP
   grind
 .change[D.lst ((brg _).map Prt.obj)]=_
  grind
def VD(s:Spt)(b:List Pr)(ok:d6 c B.length s.bs s.tw)(m:c+3840<16777216)(d:∀b∈s.bs,cX n b)(a:cX n b)(hn:n<=60)(p:Z B+Z s.bs<100000)(j:Z s.wt<16777216):
  vR l [eS b] (s.S B).o=aa (((s.bar b).S B).o,.non,):=by
 have i:=a.len;have g:((gys B.length (Z s.bs)).map wyK).length=Z B+Z s.bs:=by rw[aq,Vp]
 apply fO;apply ak;show iW (fN rfl rfl (dN rfl rfl) rfl (VA s b ok (by lia) d)) ?_;apply ak;show bo (cw (aj rfl (aj (aE (aj (jI Dx) rfl) (d9 s.bs eS)) rfl))) ?_;walk_at "nrm";apply ak;show sP Dx rfl (by change(s.bs.map eS).length<_;rw[aq];lia) ?_;change wp _ [.deep (.at l ((s.es,s.st,s.bs.map eS++_,(gys B.length (Z s.bs)).map wyK,(gys B.length (Z s.bs)).map _,wtW _,s.wt.map wyD,.lst _,(s.S B).tl):Spr).o),.im _,.im (wyD (ac,Z s.bs,))] _;show iW (fN rfl rfl (dN rfl (dN (aE rfl (VB b (by lia))) rfl)) rfl (Jd _ _ rfl (DH λq=>?_) ?_ (s9 a) hn (ok.dropped (λb h=>(d b h).pd) b).wk ?_ ?_ ?_)) ?_
 .have(y,f,e):=aG.mp q;rw[D0 e]at f;have:Z s.bs<Z s.bs:=fq.mp f;show gE _ this
 .change((gys B.length (Z s.bs)).map wyK).length<_
  lia
 .unfold brg;rw[aq];lia
 .change(s.wt.map wyD).length<_;rw[aq];show j
 .unfold brg;rw[aq];lia
 .show(_,rfl,?_,rfl)
  congr 1
  dsimp only[we,Spt.bar,Spt.S];rw[wC,aP,fB,VC,D5,aT,aT,aT];rfl
def jL{f:Xe}(h:f M=aa (d,ρ1,))(k:K (.nx (ρ1.set i (.im d)))):wp (gb i f) M K:=(_,by unfold gb;rw[h];rfl,k)
def JO{k:Int}(hv:fv M=aa d)(h:p M=aa (lsO ds,R,))(c:fk M=aa (.int k))(a:0<=k)(b:k<Z ds)(q:K (.nx (M.set i (.deep (R (lsO (ds.set k.toNat d))))))):wp (nJ i p fk fv) M K:=(_,by
 unfold nJ;simp only[hv,az,h,az,c,az];change(((lsO ds).items.bind λds=>(ixN ds.length k).map λj=>O.lst _)).map _=_;simp only[wB,az,show ixN ds.length k=aa k.toNat by unfold ixN;rw[if_pos a,if_pos b]];rfl,q)
def VE{f:MF2}{es:LD}(h:p M=aa (lsO ds,R,))(a:f M=aa es)(hz:Z ds+Z es<=16777216)(q:K (.nx (M.set i (.deep (R (lsO (ds++es))))))):wp (p9 i p f) M K:=(_,by
 unfold p9;rw[h,az,a,az];change(if Z (ds.map O.fz)+Z es<=16777216 then aa _ else ab).map _=_;rw[if_pos (by rw[aq];show hz),<- aT];rfl,q)
def i4(es:LOB):Nat:=ct (es.map (·==ab))
variable{b:Bool}
def VF(t0:0<=t)(t1:t<(Z es:Int))(a:opn es t=ac):i4 (put es t.toNat b)+1=i4 es:=by
 unfold i4 put;rw[hU];show Jk _ _ ?_;unfold opn at a;rw[bp]at a ⊢;rw[cx,b7 (by lia)]at *;show a
def VG(es:LOB):i4 es<=Z es:=by
 have:=U7 (es.map (·==ab))
 rwa [aq]at this
def Spt.pt(s:Spt)(t:Int)(b:Bool)(w:D):Spt:={s with es:=put s.es t.toNat b,st:=s.st++[.tup [prD (t,b,),w]],wt:=s.wt++look s.tw (t,b,)}
structure SpJ(n c W6:Nat)(B:LRu)(s:Spt):Prop where
 es:Z s.es=n
 bk:∀b∈s.bs,cX n b
 tw:d6 c B.length s.bs s.tw
 wv:∀y∈s.wt,y∈gys B.length (Z s.bs)
 ms:s.ms.Perm (dM B)
 mB:i4 s.es*(c+1)+Z s.wt<=W6
 sB:Z s.st+i4 s.es<=W6
 sv:∀d∈s.st,∃(z:Pr) (w:D),d=.tup [prD z,w]/\(0<=z.1/\z.1<(n:Int))/\s.es.getD z.1.toNat ab=aa z.2
nonrec def Me(c:Nat)(s:Spt):Nat:=i4 s.es*(c+1)+Z s.wt
variable{u:Int}
def Ec(a:0<=u)(t0:0<=t)(h:u≠t):opn (put es t.toNat b) u=opn es u:=by
 unfold opn;rw[c7 es b (by lia)]
variable{W6:Nat}{s:Spt}{w:L2.D}
def SpJ.pt(h:SpJ n c W6 B s)(t0:0<=t)(t1:t<(n:Int))(f:opn s.es t=ac):SpJ n c W6 B (s.pt t b w)/\Me c (s.pt t b w)<Me c s:=by
 have g:=VF (b:=b) t0 (by rw[h.es];show t1) f;have m:=D9 h.tw.wk (t,b,)
 have hm:Me c (s.pt t b w)<Me c s:=by
  change i4 (put s.es t.toNat b)*_+Z (s.wt++look s.tw _)<i4 s.es*_+Z s.wt;simp only[<- g,aP,Nat.succ_mul]
  lia
 show(((cb _ _ _).trans h.es,h.bk,h.tw,λy i=>?_,h.ms,cN (fH hm) h.mB,?_,λd hd=>?_),hm)
 .rcases bx.mp i with q |q
  .show h.wv y q
  .show h.tw.vl _ y q
 .change(s.st++[_]).length+i4 (put s.es t.toNat b)<=W6;rw[aP,fB];have:=h.sB
  lia
 .rcases bx.mp hd with q |q
  .have(z,j,e,l,a):=h.sv d q;show(z,j,e,l,?_);change(put s.es t.toNat b).getD z.1.toNat ab=_;rw[c7 s.es b (λq=>by rw[q,i0 f]at a;nomatch a)];show a
  .show(_,w,bq.mp q,(t0,t1),fj s.es b (by rw[h.es];lia))
def Ed(h:SpJ n c W6 B s)(hB:W6+c<16777216)(t0:0<=t)(t1:t<(n:Int)):qk l [.int t,.bl b,w] (s.S B).o=aa (((s.pt t b w).S B).o,.non,):=by
 have f:=D9 h.tw.wk (t,b,);have a:=h.mB;have h2:=h.sB;have d:=h.es;apply fO;apply ak;show JO rfl j8 rfl t0 (by rw[aq];change t<Z s.es;lia) ?_;have e:(s.es.map shD).set t.toNat (.bl b)=(put s.es t.toNat b).map shD:=by unfold put;rw[hU];rfl
 change wp _ [.deep (.at l (iY (s.S B).tl [lsO ((s.es.map shD).set t.toNat _),lsO s.st,lsO _,.dT _ _,wsO _,lsO _,.fz _])),.im _,.im _,.im w] _;rw[e]
 change wp _ [.deep (.at l (({s with es:=put s.es t.toNat b}:Spt).S B).o),.im _,.im _,.im w] _
 apply ak;show sP Dv (cw (aj (cw (aj rfl (aj rfl rfl))) (aj rfl rfl))) (by change Z s.st<_;lia) ?_
 change wp _ [.deep (.at l (({s with es:=put s.es t.toNat b,st:=s.st++_}:Spt).S B).o),.im _,.im _,.im w] _
 show VE qm (D3 vZ (cw (aj rfl (aj rfl rfl)))) (by change(s.wt.map wyD).length+Z ((look s.tw (t,b,)).map wyD)<=_;rw[aq,aq];lia) ?_;show(_,rfl,?_,rfl);dsimp only[Spt.pt,Spt.S];simp only[aT];rfl
def puts(s:Spt)(w:D)(ps:List Pr):Spt:=ps.foldl (λs p=>s.pt p.1 p.2 w) s
structure fP(es:LOB)(ps:List Pr):Prop where
 nd:(ps.map (·.1)).Nodup
 op:∀z∈ps,(0<=z.1/\z.1<(Z es:Int))/\opn es z.1=ac
variable{z:Pr}
def fP.tail{ps:List Pr}(h:fP es (z::ps)):fP (put es z.1.toNat z.2) ps:=by
 have(f,g):=b9.mp h.nd;show(g,λy d=>?_);have((a,b),c):=h.op y (bj _ d);show((a,by rw[cb];show b),?_);rw[Ec a ((h.op z aA).1.1) (λe=>f (aG.mpr (y,d,e)))];show c
def fP.pre{pre post:List Pr}(h:fP es (pre++post)):fP es pre:=(by have:=h.nd;rw[aT]at this;show(fE.mp this).1,λz hz=>h.op z (b8 _ hz))
def n4{n c W6:Nat}{B:LRu}{w:D}:∀{ps:List Pr} {s:Spt},SpJ n c W6 B s->fP s.es ps->SpJ n c W6 B (puts s w ps)/\Me c (puts s w ps)<=Me c s
 | [],_,h,_=>(h,aM _)
 |z::ps,s,h,k=>by
  have((a,b),e):=k.op z aA;have(d,h2):=h.pt a (by rw[<- h.es];show b) e;have(f,g):=n4 d k.tail;show(f,cN g (fH h2))
variable{G:List Prt}
def JP(h:prs G es=ab):∀p∈G,p.sure es=ac:=by
 have:=JB es G;unfold prs at h
 cases e:G.foldl _ ab with
 |none=>rw[e]at this;show this
 |some l=>rw[e]at h;nomatch h
def n6{l:List Pr}(i:∀p∈G,p.Ok (Z es))(h:prs G es=aa l):fP es l/\(∀z:Pr,z∈l↔(0<=z.1/\z.1<(Z es:Int))/\opn es z.1=ac/\∀p∈G,p.sure (put es z.1.toNat (!z.2))=ac)/\∃p∈G,p.sure es=af:=by
 have:=JB es G;unfold prs at h
 cases e:G.foldl _ ab with
 |none=>rw[e]at h;nomatch h
 |some n=>
  rw[e]at h this;cases h;have((q,m,d),h2,u):=this
  have hm:∀z:Pr,z∈n.map neg↔(z.1,!z.2,)∈n:=λz=>by
   constructor
   .intro hz;have(y,v,rfl):=aG.mp hz;unfold neg;rw[Bool.not_not];show v
   .intro hz;show aG.mpr (_,hz,?_);unfold neg;rw[Bool.not_not]
  have key:∀z:Pr,z∈n.map neg↔_/\opn es z.1=ac/\∀p∈G,p.sure (put es z.1.toNat _)=ac:=λz=>by
   rw[hm,h2];constructor
   .intro a;have(j,r,_):=(DV (i q m) d _ _).mp (a q m d);show(j,r,λp f=>?_)
    cases g:p.sure es with
    |true=>show wA (i p f) j.1 j.2 r _ g
    |false=>show((DV (i p f) g _ _).mp (a p f g)).2.2
   .rintro⟨a,b,c⟩ p f g;show(DV (i p f) g _ _).mpr (a,b,c p f)
  show((?_,λz hz=>?_),key,q,m,d)
  .rw[map_map];show u
  .have(a,b,_):=(key z).mp hz;show(a,b)
structure Grp(B:LRu)(es:LOB)(wo:LB0):Prop where
 len:Z wo=Z es
 no:∀i,wo.getD i af=ac->es.getD i ab≠aa af
 up:∀r∈dM B,wo.getD r.hd.toNat af=ac->r.bodyLost es wo=ac
def tf(es:LOB)(wo:LB0):LOB:=(sM wo).foldl (λes t=>put es t.toNat af) es
inductive Mvs(B:LRu)(bs:LLP)(e0:LOB):LOB->Prop
 |refl:Mvs B bs e0 e0
 |press {es:LOB} {t:Int} {b:Bool} {y:Wy}:Mvs B bs e0 es->y∈gys B.length (Z bs)->0<=t->t<(Z es:Int)->opn es t=ac->(∀p∈bP B bs y,p.sure (put es t.toNat (!b))=ac)->Mvs B bs e0 (put es t.toNat b)
 |out {es:LOB} {wo:LB0}:Mvs B bs e0 es->Grp B es wo->(∀i,wo.getD i af=ac->es.getD i ab=ab)->Mvs B bs e0 (tf es wo)
def Mvs.trans{bs:LLP}{e0 g i:LOB}(h:Mvs B bs e0 g)(h':Mvs B bs g i):Mvs B bs e0 i:=by
 induction h' with
 |refl=>show h
 |press _ a b c d e f=>show .press f a b c d e
 |out _ a b f=>show .out f a b
def wF{a:Bool}(h:i≠j):put (put es i a) j b=put (put es j b) i a:=by
 unfold put;show set_comm _ _ h
def wG(c:0<=u)(t0:0<=t)(h:u≠t)(a:opn es u=ac):opn (put es t.toNat b) u=ac:=by rw[Ec c t0 h];show a
def JQ{B:LRu}{bs:LLP}{y:Wy}{w:D}(d:y∈gys B.length (Z bs)):∀{ps:List Pr} {s:Spt},(∀p∈bP B bs y,p.Ok (Z s.es))->fP s.es ps->(∀z∈ps,∀p∈bP B bs y,p.sure (put s.es z.1.toNat (!z.2))=ac)->Mvs B bs s.es (puts s w ps).es
 | [],_,_,_,_=>.refl
 |z::ps,s,hG,k,hp=>by
  have((a,b),e):=k.op z aA;have(g,i):=b9.mp k.nd;have f:Mvs B bs s.es (s.pt z.1 z.2 w).es:=.press .refl d a b e (hp z aA);show f.trans (JQ d (λp q=>by change p.Ok (Z (put s.es z.1.toNat z.2));rw[cb];show hG p q) k.tail λx c p q=>?_);have((h,j),l):=k.op x (bj _ c);have ne:z.1≠x.1:=λe=>g (aG.mpr (x,c,e.symm));change p.sure (put (put s.es z.1.toNat z.2) x.1.toNat _)=ac;rw[wF (by lia)];show wA (by rw[cb];show hG p q) a (by rw[cb];show b) (wG a h ne e) _ (hp x (bj _ c) p q)
abbrev VH:Option Wy->D
 |none=>.non
 |some y=>wyD y
abbrev lrF(B:LRu):Nat->Spt->Option Wy×Spt
 | 0,s=>(ab,s,)
 |k+1,s=>match s.wt with
  | []=>(ab,s,)
  |y::wt=>match prs (bP B s.bs y) s.es with
   |none=>(aa y,{s with wt:=wt},)
   |some ps=>lrF B k (puts {s with wt:=wt} (wyD y) ps)
def tj{k:Nat}(h:s.wt=[]):lrF B (k+1) s=(ab,s,):=by
 unfold lrF;rw[h]
def tm{k:Nat}{wt:List Wy}(h:s.wt=y::wt)(a:prs (bP B s.bs y) s.es=ab):lrF B (k+1) s=(aa y,{s with wt:=wt},):=by
 unfold lrF;rw[h];dsimp only;rw[a]
def qt{k:Nat}{wt:List Wy}{ps:List Pr}(h:s.wt=y::wt)(a:prs (bP B s.bs y) s.es=aa ps):lrF B (k+1) s=lrF B k (puts {s with wt:=wt} (wyD y) ps):=by
 rw[lrF];rw[h];dsimp only;rw[a]
def n8{bs:LLP}(hr:∀r∈B,RuK n r)(d:∀b∈bs,cX n b):∀p∈bP B bs y,p.Ok n:=by
 have(a,j):=y;intro p c
 cases a with
 |true=>show(s9 (Eb d j) p c).1
 |false=>
  replace c:p∈((B[j]?).map grd).getD []:=c
  cases e:B[j]? with
  |none=>rw[e]at c;nomatch c
  |some r=>rw[e]at c;show(wg (hr r (dU e)) p c).1
def SpJ.pop{wt:List Wy}(h:SpJ n c W6 B s)(e:s.wt=y::wt):SpJ n c W6 B {s with wt:=wt}/\Me c {s with wt:=wt} < Me c s/\y∈gys B.length (Z s.bs):=by
 have hm:=h.mB;have a:Z s.wt=Z wt+1:=by grind
 show((h.es,h.bk,h.tw,λz hz=>h.wv z (by grind),h.ms,?_,h.sB,h.sv),?_,h.wv y (by grind))
 .grind
 .grind
def JR(w:D):∀(ps:List Pr) (s:Spt),(puts s w ps).bs=s.bs/\(puts s w ps).tw=s.tw/\(puts s w ps).ms=s.ms
 | [],_=>(rfl,rfl,rfl)
 |z::ps,s=>JR w ps _
structure VI(n c W6:Nat)(B:LRu)(s:Spt)(R:Option Wy×Spt):Prop where
 ok:SpJ n c W6 B R.2
 bs:R.2.bs=s.bs
 mv:Mvs B s.bs s.es R.2.es
 no:R.1=ab->R.2.wt=[]
 ye:∀y,R.1=aa y->y∈gys B.length (Z s.bs)/\∀p∈bP B s.bs y,p.sure R.2.es=ac
 le:Me c R.2<=Me c s
def tq{n c W6:Nat}{B:LRu}(hr:∀r∈B,RuK n r):∀(k:Nat) (s:Spt),SpJ n c W6 B s->Me c s<k->VI n c W6 B s (lrF B k s)
 | 0,_,_,h=>absurd h (iD _)
 |k+1,s,h,hk=>by
  cases b:s.wt with
  |nil=>
   rw[tj b]
   show(h,rfl,.refl,(λ_=>b),(λy e=>by cases e),aM _)
  |cons y wt=>
   have(g,h2,j):=h.pop b;have i:∀p∈bP B s.bs y,p.Ok (Z s.es):=by rw[h.es];show n8 hr h.bk
   cases d:prs _ s.es with
   |none=>
    rw[tm b d]
    show(g,rfl,.refl,(λz=>by cases z),(λz e=>by cases e;show(j,JP d)),fH h2)
   |some ps=>
    rw[qt b d];have(l,m,_):=n6 i d;have(q,u):=n4 g l
    have(f,_,_):=JR _ ps {s with wt:=wt}
    have a:=tq hr k _ q (by lia)
    have m1:Mvs B s.bs s.es (puts {s with wt:=wt} (wyD y) ps).es:=JQ j (s:={s with wt:=wt}) i l λz hz=>((m z).mp hz).2.2
    show(a.ok,a.bs.trans f,m1.trans (by have:=a.mv;rw[f]at this;show this),a.no,λz e=>?_,by have:=a.le;lia);have:=a.ye z e
    grind
def VJ{m:LD->Option (LD ⊕ D)}{f:MF2}{x:Option (List Pr)}(h:f M=aa ds)(h':m ds=aa (Jy x)):qe m f M=aa (sW x):=by
 unfold qe;rw[h,az,h',az]
 cases x with
 |none=>rfl
 |some l=>
  change(if (l.map prD).all D.flat=ac then aa _ else ab)=_;rw[if_pos (all_eq_true.mpr λd hd=>by have(z,_,rfl):=aG.mp hd;rfl)];rfl
def VL{wt:List Wy}(h:s.wt=y::wt):sm 0 (aW "Seeking" "waiting" (aJ 0)) (.deep (.at l (s.S B).o)::M)=aa (wyD y,.deep (.at l (({s with wt:=wt}:Spt).S B).o)::M,):=by
 change((lsO (s.wt.map wyD)).pop0).map _=_;rw[h];rfl
def VM{k:Nat}(hr:∀r∈B,RuK n r)(hB:W6+c<16777216)(h:SpJ n c W6 B s)(x:Me c s<k)(w:k<1000000000):De l [] (s.S B).o=aa (((lrF B k s).2.S B).o,VH (lrF B k s).1,):=by
 apply fO;apply ak;show rV (λm M=>∃a v1 v e f,M=[.deep (.at l (Spt.S B a).o),v1,v,e,f]/\SpJ n c W6 B a/\Me c a<m/\lrF B m a=lrF B k s) ?_ _ k _ (s,_,_,_,_,rfl,h,x,rfl) w;rintro m M ⟨a,v1,v,e,f,rfl,h',hm,i⟩
 cases m with
 |zero=>grind
 |succ m=>
  cases b:a.wt with
  |nil=>
   show(af,dB (jI qm) (by change m7 (.lst (a.wt.map wyD))=_;rw[b];rfl),(λz=>by nomatch z),λ_=>?_);rw[<- i,tj b]
   show iX rfl (_,rfl,rfl,rfl)
  |cons y wt=>
   have(q,h2,A):=h'.pop b;have u:∀p∈bP B a.bs y,p.Ok (Z a.es):=by rw[h'.es];show n8 hr h'.bk
   show⟨ac,dB (jI qm) (by change m7 (.lst (a.wt.map wyD))=_;rw[b];rfl),λ_=>?_,λz=>by nomatch z⟩;apply ak;show jL (VL b) ?_;apply ak;show bo (d:=sW (prs _ a.es)) (VJ (aj (Vq A rfl) (aj (jI j8) rfl)) (Vj _ u)) ?_;apply ak
   cases j:prs _ a.es with
   |none=>
    show a8 rfl (λ_=>?_) (λz=>by nomatch z);rw[<- i,tm b j]
    show iX rfl (_,rfl,rfl,rfl)
   |some ps=>
    have(g,I,_):=n6 u j;have(C,J):=n4 q g;show a8 rfl (λz=>by nomatch z) (λ_=>b6 ?_)
    show dq ps prD (λpre M=>∃e f,M=[.deep (.at l ((puts {a with wt:=wt} (wyD y) pre).S B).o),.im _,.im _,e,f]) rfl (_,_,rfl) ?_ ?_
    .rintro pre z post M ex ⟨e,f,rfl⟩;rw[ex]at g;have(E,_):=n4 q g.pre;have((G,H),_):=g.op z (by simp);show(_,rfl,?_);walk_at "nrm";show iW (fN rfl rfl (dN rfl (dN rfl (dN rfl rfl))) rfl (Ed E hB G (by rw[<- h'.es];show H))) ?_;show(.im (.int z.1),.im (.bl z.2),?_);unfold puts
     grind
    .rintro M ⟨e,f,rfl⟩;show(m,c8 _,_,_,_,_,_,rfl,C,by lia,?_);rw[<- i,qt b j]
def slf(es:LOB)(a b c d e:D)(E:LD)(ms:LRu):D:=.ins "Seeking" (spN++(["paper","count","ended"]:LSt)) ([.lst (es.map shD),a,b,c,d,e,.lst (ms.map mkD)]++E)
def fdL(r:Rul)(es:LOB)(wo:LB0):D:=DJ (r.ps.find? λp=>p.lost es wo)
variable{a b c e:L2.D}
def VN(hok:∀r∈ms,r.Ok (Z es))(f:Z wo=Z es)(hz:Z ms<=1000):Dj [slf es a b c d e E ms,.int t,.lst (wo.map D.bl)]=aa (.lst ((ms.filter λr=>r.hd==t).map λr=>fdL r es wo)):=
 lM (congrArg _ (e9 ms mkD _ _ rfl (by lia) λr hr=>dP rfl (bE (ap rfl rfl (by change dEq _ _=_;rfl))) λ_=>aE rfl (DK r.ps (hok r hr).ps f)))
def kpL(p:Prt)(es:LOB)(wo:LB0):LI0:=if p.lost es ((bw (Z es)).map (inS [])) then [] else (nmL p).filter λt=>wo.getD t.toNat af
variable{p:Prt}
def VO(f:p.Ok (Z es))(hn:Z es<=60)(hm:Z (nmP p)<=1000)(j:Z wo=Z es):Dh [slf es a b c d e E ms,p.obj,.lst (wo.map D.bl)]=aa (.lst ((kpL p es wo).map D.int)):=by
 have g:m_1 [.int (Z es),.lst []]=aa (.lst (((bw (Z es)).map (inS [])).map D.bl)):=by
  have:=IT es.length [] (by lia) (by lia) (by decide)
  grind
 have i:=sR f hn;apply jG;apply ak;show a8 (dB (IX p f (by grind) rfl (aj rfl (aj (aE (aj (aE rfl (d9 es shD)) rfl) g) rfl))) rfl) (λz=>?_) (λz=>b6 ?_)
 .show iu rfl (iw ?_);unfold kpL
  grind
 .show iu (e9 _ D.int _ D.int (d8 (Jc p f hn hm rfl) rfl) (by lia) λt h=>dP rfl (dB (aY rfl rfl (j4 (qo f t (sS.mp h)).1 (by rw[j];show(qo f t (sS.mp h)).2))) rfl) λ_=>rfl) (iw ?_);unfold kpL
  grind
def VP(p:Prt):(nmL p).Nodup:=by
 cases p with
 |inn t=>show b9.mpr ((λh=>nomatch h),fR)
 |out t=>show b9.mpr ((λh=>nomatch h),fR)
 |least k L=>show(lP _).imp λh=>by lia
 |most k L=>show(lP _).imp λh=>by lia
structure KOk(n:Nat)(wo:LB0)(fd:LI0):Prop where
 nd:fd.Nodup
 el:∀x∈fd,(0<=x/\x<(n:Int))/\wo.getD x.toNat af=ac
variable{fd:LI0}
def KOk.len(h:KOk n wo fd):Z fd<=n:=sZ h.nd λx a=>(h.el x a).1
def KOk.more(h:KOk n wo fd)(d:p.Ok n):KOk n wo (fd++(kpL p es wo).filter λt=>!(fd.any λx=>x==t)):=by
 have b:(kpL p es wo).Sublist (nmL p):=by
  unfold kpL;split
  .grind
  .simp
 show(fE.mpr (h.nd,(xn b (VP p)).sublist ot,λx c y f e=>?_),λx c=>?_)
 .grind
 .rcases bx.mp c with q |q
  .show h.el x q
  .have a:=(cg.mp q).1;show(qo d x (sS.mp (b.subset a)),?_);unfold kpL at a
   grind
def VQ(E:LI0)(i:Int):nh (.int i) (.lst (E.map D.int))=aa (.bl (!(E.any λx=>x==i))):=by
 change Option.map _ (if _=ac then aa _ else ab)=_;rw[if_pos (by rw[all_map];show(ce _ _).mpr (rfl,all_eq_true.mpr λ_ _=>rfl)),any_map];rfl
def VR{n m:Int}(a:M[i]?=aa (.im (.int n)))(k:K (.nx (M.set i (.im (.int (n+m)))))):wp (nH i (mX λ_=>aa (.int m))) M K:=(_,by
 unfold nH;rw[a];rfl,k)
def Kp(es:LOB)(wo:LB0)(fd:LI0)(r:Rul):Prop:=∃p∈r.ps,p.lost es wo=ac/\∀y∈kpL p es wo,y∈fd
structure tu(es:LOB)(wo:LB0)(ms:LRu)(t:Int)(ks:LI0):Prop where
 mt:t∈ks
 nd:ks.Nodup
 el:∀x∈ks,(0<=x/\x<(Z es:Int))/\wo.getD x.toNat af=ac
 kp:∀r∈ms,r.hd∈ks->Kp es wo ks r
def VS(hn:Z es<=60)(hok:∀r∈ms,r.Ok (Z es))(hnm:∀r∈ms,∀p∈r.ps,Z (nmP p)<=1000)(hw:Z wo=Z es)(hz:Z ms<=1000)(hl:∀r∈ms,wo.getD r.hd.toNat af=ac->r.bodyLost es wo=ac)(t0:0<=t)(t1:t<(Z es:Int))(ht:wo.getD t.toNat af=ac):
  ∃ks:LI0,l7 [slf es a b c d e E ms,.int t,.lst (wo.map D.bl)]=aa (ks.map D.int)/\tu es wo ms t ks:=by
 suffices h:wp sJ _ (λr=>∃ks:LI0,r=.rtO (ks.map D.int)/\tu es wo ms t ks) by
  have(r,e,ks,rfl,h):=h;show(ks,nB e,h)
 apply ak;show d4 rfl ?_;walk_at "nrm";apply ak;show bo rfl ?_;walk_at "nrm";apply ak;show rV (λm M=>∃(fd:LI0) (g:Nat) (j:Sl),M=[.im _,.im _,.im _,.own (fd.map D.int),.im (.int g),j]/\KOk es.length wo fd/\g<=Z fd/\m+g=61/\t∈fd/\∀x∈fd.take g,∀r∈ms,r.hd=x->Kp es wo fd r) ?_ _ 61 _ ⟨[t],0,_,rfl,(b9.mpr ((λh=>nomatch h),fR),λx i=>by rw[bq.mp i];show((t0,t1),ht)),cy _,rfl,aA,λx i=>nomatch i⟩ (by decide);rintro m M ⟨fd,g,j,rfl,L,hp,hm,Q,I⟩;have hfl:=L.len;show(decide _,bE (ap rfl (aE rfl (d9 fd D.int)) rfl),λz=>?_,λz=>?_)
 .have N:g<Z fd:=by have:=of_decide_eq_true z;lia
  obtain⟨x,i⟩:∃x,fd[g]?=aa x:=(_,b7 N);have((x0,x1),xw):=L.el x (dU i)
  have U:atI (fd.map D.int) g=aa (.int x):=by
   rw[lN 0 (by lia) (by lia),cL,bp,i];rfl
  apply ak;show dq _ _ (λpre M=>∃(ex:LI0) (j:Sl),M=[.im _,.im _,.im _,.own ((fd++ex).map D.int),.im _,j]/\KOk es.length wo (fd++ex)/\∀r∈pre,Kp es wo (fd++ex) r) (d8 ((cD rfl rfl (aj (aY rfl rfl U) (aj rfl rfl))).trans (VN hok hw hz)) rfl) ⟨[],j,by rw[bN],by rw[bN];show L,λr hr=>nomatch hr⟩ ?_ ?_
  .rintro pre r post M ex ⟨xt,j,rfl,l,f⟩;have hrm:r∈ms.filter λr=>r.hd==x:=by rw[ex];simp
   have(hr,A):=cg.mp hrm;have A:r.hd=x:=by simpa using A
   obtain⟨p,v,hp2,hp3⟩:∃p,p∈r.ps/\fdL r es wo=p.obj/\p.lost es wo=ac:=by
    unfold fdL
    cases Y:r.ps.find? _ with
    |none=>
     have:=DM (es:=es) (wo:=wo) r;rw[Y,(hl r hr (by rw[A];show xw))]at this
     nomatch this
    |some p=>show(p,xl Y,rfl,find?_some Y)
   have w:=(hok r hr).ps p v;have n:=l.more (es:=es) w;have J:=n.len;rw[aP]at J;show(_,rfl,?_);walk_at "nrm";rw[hp2];show(_,DD (bB (e9 _ D.int _ D.int (d8 ((cD rfl rfl (aj rfl (aj rfl rfl))).trans (VO w hn (hnm r hr p v) hw)) rfl) ?_ λy _=>dP rfl (bE (ap rfl rfl (VQ (fd++xt) y))) λ_=>rfl)) rfl (by rw[aq,aq];lia),?_)
   .have:Z (kpL p es wo)<=Z (nmL p):=by
     unfold kpL;split
     .show cy _
     .show gC _ _
    have:=sR w hn
    lia
   .rw[cG]at n;show(_,.im p.obj,?_,n,λr' hr'=>?_)
    .simp only[aT,cG];rfl
    .rcases bx.mp hr' with q |q
     .have(T,C,G,H):=f r' q;show(T,C,G,λy B=>by rw[<- cG];show b8 _ (H y B))
     .rw[bq.mp q];show(p,v,hp3,λy B=>?_);rw[<- cG]
      by_cases hm:y∈fd++xt
      .show b8 _ hm
      .show cF _ (cg.mpr (B,?_));rw[Bool.not_eq_true',<- Bool.not_eq_true];intro h;have(u,hu,e):=any_eq_true.mp h;rw[beq_iff_eq.mp e]at hu;show hm hu
  .rintro M ⟨xt,j,rfl,l,f⟩;show VR rfl (m-1,by lia,fd++xt,g+1,j,rfl,l,by rw[aP];lia,by lia,b8 _ Q,λy B r hr e=>?_);rw[take_append_of_le_length N,take_succ,i]at B
   rcases bx.mp B with q |q
   .have(T,C,G,H):=I y q r hr e;show(T,C,G,λz hz=>b8 _ (H z hz))
   .rw[bq.mp q]at e;show f r (cg.mpr (hr,by simpa using e))
 .show lQ rfl ?_;have hpl:g=Z fd:=by have:=of_decide_eq_false z;lia
  show iu (QA rfl (by lia) L.nd) (_,rfl,(jF _ _).mpr Q,(lP _).imp (λh=>by lia),λx i=>L.el x ((jF _ _).mp i),λr hr hd=>?_);have(T,C,G,H):=I r.hd (by rw[hpl,take_length];show(jF _ _).mp hd) r hr rfl;show(T,C,G,λz hz=>(jF _ _).mpr (H z hz))
abbrev dE{a:Type}:Nat->List a->List (Nat×a)
 | _,[]=>[]
 |i,x::E=>(i,x,)::dE (i+1) E
def tz{a:Type}(f:a->D):∀(i:Nat) (E:List a),iS i (E.map f)=(dE i E).map λp=>D.tup [.int p.1,f p.2]
 | _,[]=>rfl
 |i,x::E=>by rw[bG,iS,tz f _ E];rfl
def wH{a:Type}:∀(i:Nat) (E:List a) (j:Nat),(dE i E)[j]?=(E[j]?).map λx=>(i+j,x,)
 | _,[],_=>rfl
 |i,x::E,0=>rfl
 |i,x::E,j+1=>by rw[dE,g9,g9,wH _ E j,show i+1+j=i+(j+1) by lia]
def k9{a:Type}{E:List a}{p:Nat×a}(h:p∈dE 0 E):E[p.1]?=aa p.2:=by
 have(j,b):=om h;rw[wH]at b
 grind
def tB{a:Type}:∀(i:Nat) (E:List a),Z (dE i E)=Z E
 | _,[]=>rfl
 |i,x::E=>by rw[dE,cf,cf,tB _ E]
def inL(es:LOB)(wo:LB0):LI0:=((dE 0 es).filter λp=>wo.getD p.1 af && p.2==aa ac).map λp=>(p.1:Int)
def ka(wo:LB0):LI0:=((dE 0 wo).filter λp=>p.2).map λp=>(p.1:Int)
def VT(wo:LB0):dE 0 wo=(bw (Z wo)).map λi=>(i,wo.getD i af,):=by
 apply mo;intro j;rw[wH,cx]
 grind
def wI(wo:LB0):ka wo=sM wo:=by
 unfold ka sM;rw[VT,filter_map,map_map];rfl
def Ee:∀(ws:Wss),O.kns (ws.map λp=>lsO p.2)=ac
 | []=>by rw[map_nil,O.kns]
 |p::ws=>by rw[bG,O.kns,Ee ws,lsO,O.kn,sO];rfl
def Spt.D(B:LRu)(s:Spt):L2.D:=(s.S B).o.toD
def gdT(B:LRu)(bs:LLP):L2.D:=.dT ((gys B.length (Z bs)).map wyK) ((gys B.length (Z bs)).map (gdD B bs))
def wJ(B:LRu)(s:Spt):s.D B=slf s.es (.lst s.st) (.lst (s.bs.map eS)) (gdT B s.bs) (wsO (wtW s.tw)).toD (.lst (s.wt.map wyD)) [.lst s.pp,.int s.ct,.bl s.en] s.ms:=by
 dsimp only[Spt.D,Spr.o,Spt.S,slf,gdT];simp only[lsO,O.toD,O.toDs,yF,List.map,lq,oA]
def VU(B:LRu)(s:Spt):(s.S B).o.kn=ac:=by
 dsimp only[Spr.o,Spt.S,lsO,wsO];simp only[List.map,lq,oA,O.kn,O.kns,sO,qF];show Ee _
def Ef:cZ 0 (.deep (.at l (s.S B).o)::M)=aa (s.D B):=by
 change(if (O.at l (s.S B).o).kn=ac then aa (O.at l (s.S B).o).toD else ab)=_;rw[O.kn,VU,if_pos rfl,O.toD];rfl
def wK(B:LRu)(s:Spt)(wo:LB0)(t:Int):LD:=(l7 [s.D B,.int t,.lst (wo.map D.bl)]).getD []
def tE(B:LRu)(s:Spt)(wo:LB0)(t:Int):D:=.tup [.str "group",.lst (wK B s wo t)]
structure fw(n:Nat)(ms:LRu):Prop where
 ok:∀r∈ms,r.Ok n
 nm:∀r∈ms,∀p∈r.ps,Z (nmP p)<=1000
 ne:∀r∈ms,r.w≠.never
 len:Z ms<=1000
def fw.of(hr:∀r∈B,RuK n r)(hz:Z B<=1000)(h:ms.Perm (dM B)):fw n ms:=by
 have hm:∀r∈ms,r∈B/\r.w≠.never:=λr q=>by
  have(a,b):=cg.mp (h.mem_iff.mp q)
  grind
 show(λr q=>(hr r (hm r q).1).ok,λr q=>(hr r (hm r q).1).nm,λr q=>(hm r q).2,by rw[h.length_eq];show cN (gC _ _) hz)
def GpL(ms:LRu)(es:LOB)(wo:LB0):Prop:=Z wo=Z es/\∀r∈ms,wo.getD r.hd.toNat af=ac->r.bodyLost es wo=ac
def GpL.up(h:GpL ms es wo)(f:cR es es')(hok:∀r∈ms,r.Ok (Z es)):GpL ms es' wo:=(by rw[h.1,f.len],λr hr b=>rO (λp a z=>vb f (nt.refl _) ((hok r hr).ps p a) z) (h.2 r hr b))
variable{b:Bool}
def wL(t0:0<=t)(a:opn es t=ac):cR es (put es t.toNat b):=by
 show(cb _ _ _,λi=>?_)
 by_cases e:i=S t
 .rw[e];show .inl (i0 a)
 .show .inr (c7 es b e)
def Eg(hn:n<=60)(a:Z s.es=n)(hm:fw n s.ms)(b:GpL s.ms s.es wo)(t0:0<=t)(t1:t<(n:Int))(d:wo.getD t.toNat af=ac):∃ks:LI0,wK B s wo t=ks.map D.int/\l7 [s.D B,.int t,.lst (wo.map D.bl)]=aa (ks.map D.int)/\tu s.es wo s.ms t ks:=by
 have(ks,c,h):=VS (by lia) (by rw[a];show hm.ok) hm.nm b.1 hm.len b.2 t0 (by rw[a];show t1) d;unfold wK;rw[wJ B s,c];show(ks,rfl,rfl,h)
def JS(hn:n<=60)(a:Z s.es=n)(hm:fw n s.ms)(e:GpL s.ms s.es wo)(t0:0<=t)(t1:t<(n:Int))(g:wo.getD t.toNat af=ac)(f:fo M=aa (s.D B))(ha:fa M=aa [.int t,.lst (wo.map D.bl)]):
  iA "Seeking" "kernel" l7 fo fa M=aa (wK B s wo t):=by
 have(ks,c,b,_):=Eg hn a hm e t0 t1 g;rw[c];unfold iA;rw[f,az];rw[wJ B s]at b ⊢;change(if "Seeking"="Seeking" /\ List.contains (spN++(["paper","count","ended"]:LSt)) "kernel"=af then (fa M).bind λas=>(l7 (slf s.es _ _ _ _ _ _ s.ms::as)).bind λB=>if B.all D.flat then aa B else ab else ab)=_;rw[if_pos (rfl,rfl),ha,az,b,az,if_pos (all_eq_true.mpr λd hd=>by have(z,_,rfl):=aG.mp hd;rfl)]
def eT(B:LRu)(wo:LB0)(s:Spt)(ts:LI0):Spt:=ts.foldl (λs t=>s.pt t af (tE B s wo t)) s
def wM{n c W6:Nat}{B:LRu}{wo:LB0}:∀{ts:LI0} {s:Spt},SpJ n c W6 B s->fP s.es (ts.map λt=>(t,af,))->SpJ n c W6 B (eT B wo s ts)/\Me c (eT B wo s ts)+Z ts<=Me c s/\(eT B wo s ts).es=ts.foldl (λes t=>put es t.toNat af) s.es/\cR s.es (eT B wo s ts).es/\(eT B wo s ts).bs=s.bs/\(eT B wo s ts).ms=s.ms
 | [],s,h,_=>(h,aM _,rfl,cR.refl _,rfl,rfl)
 |t::ts,s,h,k=>by
  have((a,b),e):=k.op _ aA;have(f,h2):=h.pt a (by rw[<- h.es];show b) e;have(g,j,m,d,p,r):=wM f k.tail;show(g,?_,m,?_,p,r)
  .have l:Me c (eT B wo (s.pt t af _) ts)+Z ts<=Me c _:=j;change Me c (eT B wo (s.pt t af _) ts)+(Z ts+1)<=_;lia
  .have f1:cR s.es (put s.es t.toNat af):=wL a e;show(d.len.trans f1.len,λi=>?_)
   rcases f1.at' i with q |q
   .show .inl q
   .rcases d.at' i with z |z
    .show .inl (q.symm.trans z)
    .show .inr (z.trans q)
def psT{pre post:LI0}(h:fP es ((pre++post).map λt=>(t,af,))):fP es (pre.map λt=>(t,af,)):=by
 rw[aT]at h;show h.pre
def reM(s:Spt):Spt:={s with ms:=(cr s.es s.ms).2.1++(cr s.es s.ms).2.2}
abbrev bJ(B:LRu)(s:Spt):OD×Spt:=match inL s.es (cr s.es s.ms).1 with
 |x::_=>(aa (tE B (reM s) (cr s.es s.ms).1 x),reM s,)
 | []=>(ab,eT B (cr s.es s.ms).1 (reM s) (ka (cr s.es s.ms).1),)
variable{c:Nat}
def SpJ.rem'(h:SpJ n c W6 B s)(hm:fw n s.ms):SpJ n c W6 B (reM s)/\GpL s.ms s.es (cr s.es s.ms).1/\(reM s).ms.Perm s.ms/\∀i,(cr s.es s.ms).1.getD i af=ac->s.es.getD i ab≠aa af:=by
 have(a,b):=Jn (es:=s.es) hm.ne;have pm:((cr s.es s.ms).2.1++(cr s.es s.ms).2.2).Perm s.ms:=by have:=a.pm;rw[bN]at this;show this
 show((h.es,h.bk,h.tw,h.wv,pm.trans h.ms,h.mB,h.sB,h.sv),(a.len,λr hr d=>?_),pm,λi hi e=>?_)
 .have:=b r hr;unfold iZ at this
  grind
 .have:=a.pe.sub i hi;unfold jJ at this
  grind
def GpL.grp(h:GpL ms es wo)(pm:ms.Perm (dM B))(hn:∀i,wo.getD i af=ac->es.getD i ab≠aa af):Grp B es wo:=(h.1,hn,λr hr=>h.2 r (pm.mem_iff.mpr hr))
def JT:t∈ka wo↔0<=t/\wo.getD t.toNat af=ac:=by rw[wI];show vY wo t
def VV(wo:LB0):(ka wo).Nodup:=by
 rw[wI];show xp _ (λa b h e=>h (by lia)) (nodup_range.filter _)
def JU(h:inL es wo=[])(i:Nat)(b:wo.getD i af=ac):es.getD i ab≠aa ac:=λe=>by
 rw[bp]at e
 cases a:es[i]? with
 |none=>rw[a]at e;nomatch e
 |some x=>
  rw[a]at e;have e:x=aa ac:=e;have hm:(i,x,)∈dE 0 es:=dU (by rw[wH,a];simp);have:_∈inL es wo:=aG.mpr (_,cg.mpr (hm,by rw[b,e];rfl),rfl)
  grind
def tF(d:Z wo=Z es)(h:inL es wo=[])(hn:∀i,wo.getD i af=ac->es.getD i ab≠aa af):fP es ((ka wo).map λt=>(t,af,)):=by
 show(by rw[map_map];have:=VV wo;simpa[Function.comp_def]using this,λz hz=>?_);have(t,a,rfl):=aG.mp hz;have(t0,tw):=JT.mp a
 have lt:S t<Z wo:=by
  grind
 show((t0,by change t<_;lia),?_);unfold opn
 cases c:es.getD t.toNat ab with
 |none=>rfl
 |some b=>cases b with
  |true=>show absurd c (JU h _ tw)
  |false=>grind
def wN(hr:∀r∈B,RuK n r)(hz:Z B<=1000)(h:SpJ n c W6 B s):SpJ n c W6 B (bJ B s).2/\(bJ B s).2.bs=s.bs/\Mvs B s.bs s.es (bJ B s).2.es/\Me c (bJ B s).2<=Me c s/\((bJ B s).1=ab->s.wt=[]->(bJ B s).2.wt≠[]->Me c (bJ B s).2<Me c s)/\((bJ B s).1≠ab->∃wo,Grp B (bJ B s).2.es wo/\∃i,wo.getD i af=ac/\(bJ B s).2.es.getD i ab=aa ac):=by
 have(m,f,pm,a):=h.rem' (fw.of hr hz h.ms);unfold bJ
 cases q:inL s.es (cr s.es s.ms).1 with
 |cons x E=>
  show(m,rfl,.refl,aM _,(λe=>by nomatch e),λ_=>(_,f.grp h.ms a,?_));have l:x∈inL s.es (cr s.es s.ms).1:=by grind
  have(p,v,rfl):=aG.mp l;have(g,j):=cg.mp v;have (h4,h5):=(ce _ _).mp j;show(p.1,h4,?_);change s.es.getD p.1 ab=aa ac;rw[bp,(k9 g)]
  grind
 |nil=>
  dsimp only;have(o1,o2,z,C,A,G):=wM m (tF f.1 q a);have y:Me c _+Z (ka (cr s.es s.ms).1)<=Me c s:=o2;show(o1,A,?_,by lia,λ_ w d=>?_,λe=>absurd rfl e)
  .rw[z,wI];show .out .refl (f.grp h.ms a) λi hi=>?_;change s.es.getD i ab=ab
   cases l:s.es.getD i ab with
   |none=>rfl
   |some b=>cases b with
    |true=>show absurd l (JU q i hi)
    |false=>grind
  .cases u:ka (cr s.es s.ms).1 with
   |nil=>
    rw[u]at d
    show absurd w d
   |cons t ts=>
    grind
def VW(hr:∀r∈B,RuK n r)(hz:Z B<=1000)(hn:n<=60)(hB:W6+c<16777216)(h:SpJ n c W6 B s):Do l [] (s.S B).o=aa (((bJ B s).2.S B).o,(bJ B s).1.getD .non,):=by
 have hm:=fw.of hr hz h.ms;have(h1,w,pm,C):=h.rem' hm;have j:(s.S B).es=s.es:=rfl;have a:=h.es;have e:fw n (reM s).ms:=(λr q=>hm.ok r (pm.mem_iff.mp q),λr q=>hm.nm r (pm.mem_iff.mp q),λr q=>hm.ne r (pm.mem_iff.mp q),by rw[pm.length_eq];show hm.len);have f:GpL (reM s).ms s.es (cr s.es s.ms).1:=(w.1,λr q=>w.2 r (pm.mem_iff.mp q));have g:=w.1;unfold bJ;generalize J:(cr s.es s.ms).1=wo at *;apply fO;apply ak;show jL (fN rfl rfl rfl rfl (Vd (s:=s.S B) (by change 3<900;decide) rfl (by rw[j];lia) (by rw[j,a];show hm.ok) hm.ne hm.len)) ?_;change wp _ [.deep _,.im (.lst ((cr s.es s.ms).1.map D.bl)),.no,.no,.no] _;rw[J];apply ak;show bo (d:=.lst ((inL s.es wo).map D.int)) (bB ?_) ?_
 .unfold inL;rw[map_map];show e9 (dE 0 s.es) (λp=>D.tup [.int p.1,shD p.2]) _ _ ?_ (by rw[tB];lia) λp G=>?_
  .rw[<- tz];change(pC _ _).map _=_;rw[sN j8];rfl
  .have A:=(cM.mp (k9 G)).1;show dP rfl (jZ (dB (aY rfl rfl (j4 (by lia) (by lia))) rfl) (bE (ap rfl rfl ?_))) λ_=>rfl;have(i,x):=p
   cases x with
   |none=>rfl
   |some b=>cases b <;> rfl
 .change wp _ [.deep (.at l ((reM s).S B).o),.im _,.no,.im _,.no] _;apply ak
  cases U:inL s.es wo with
  |cons x E=>
   have u:x∈inL s.es wo:=by rw[U];show aA
   have(p,G,ep):=aG.mp u;have(H,I):=cg.mp G;have h3:=(cM.mp (k9 H)).1;have (h4,h5):=(ce _ _).mp I
   show iX (d:=tE B (reM s) wo x) (cw (aj rfl (aj (bB (JS hn a e f (by lia) (by lia) (by rw[<- ep,cL];show h4) Ef (aj (aY rfl rfl (lN 0 (by decide) (by rw[cf];lia))) (aj rfl rfl)))) rfl))) (_,rfl,rfl,rfl)
  |nil=>
   have ps:=tF g U C;show a8 rfl (λz=>by nomatch z) (λ_=>b6 ?_);apply ak;show dq (dE 0 wo) (λp=>D.tup [.int p.1,.bl p.2]) (λpre M=>∃N Q,M=[.deep (.at l ((eT B wo (reM s) ((pre.filter λp=>p.2).map λp=>p.1)).S B).o),.im _,N,.im _,Q]) ?_ (_,_,rfl) ?_ ?_
   .rw[<- tz];show wj rfl
   .rintro pre p post M ex ⟨N,Q,rfl⟩;show(_,rfl,?_);walk_at "nrm";have u:=k9 (p:=p) (by rw[ex];simp);have A:=(cM.mp u).1
    cases m:p.2 with
    |false=>
     show a8 rfl (λz=>by nomatch z) (λ_=>b6 ?_);show(.im (.int p.1),.im (.bl af),?_)
     rw[kg,filter_cons_of_neg (by rw[m];show bK),filter_nil,bN]
    |true=>
     have v:ka wo=(pre.filter λp=>p.2).map (λp=>(p.1:Int))++(p.1:Int)::(post.filter λp=>p.2).map λp=>p.1:=by
      unfold ka;simp only[ex,kg,qI m,aT,bG]
     rw[v]at ps;have(o1,o2,o3,o4,o5,Y):=wM (wo:=wo) h1 (psT ps);generalize hT:(pre.filter λp=>p.2).map _=T at *;have y:GpL (eT B wo (reM s) T).ms (eT B wo (reM s) T).es wo:=by rw[Y];show f.up o4 (by change ∀r∈(reM s).ms,r.Ok (Z s.es);rw[a];show e.ok)
     have L:wo.getD (p.1:Int).toNat af=ac:=by simp only[cL,bp,u,m];rfl
     show iW (fN rfl rfl (dN rfl (dN rfl (dN (cw (aj rfl (aj (bB (JS hn o1.es (by rw[Y];show e) y (by lia) (by lia) L Ef (aj rfl (aj rfl rfl)))) rfl))) rfl))) rfl (Ed o1 hB (by lia) (by lia))) ?_;show(.im (.int p.1),.im (.bl ac),?_);rw[kg,qI m,aT,hT];unfold eT;rw[filter_nil,bG,map_nil,eU];rfl
   .rintro M ⟨N,Q,rfl⟩;show iX rfl (_,rfl,rfl,rfl)
abbrev stF(B:LRu)(c:Nat):Nat->Spt->OD×Spt
 | 0,s=>(ab,s,)
 |k+1,s=>if (lrF B (Me c s+1) s).1.isSome then ((lrF B (Me c s+1) s).1.map wyD,(lrF B (Me c s+1) s).2,) else if ((bJ B (lrF B (Me c s+1) s).2).1.isSome || (bJ B (lrF B (Me c s+1) s).2).2.wt.isEmpty) then bJ B (lrF B (Me c s+1) s).2 else stF B c k (bJ B (lrF B (Me c s+1) s).2).2
def VX(B:LRu)(bs:LLP)(es:LOB):Prop:=(∃y∈gys B.length (Z bs),∀p∈bP B bs y,p.sure es=ac)\/∃wo,Grp B es wo/\∃i,wo.getD i af=ac/\es.getD i ab=aa ac
structure VY(n c W6:Nat)(B:LRu)(s:Spt)(R:OD×Spt):Prop where
 ok:SpJ n c W6 B R.2
 bs:R.2.bs=s.bs
 mv:Mvs B s.bs s.es R.2.es
 en:R.1≠ab->VX B s.bs R.2.es
 tp:∀w,R.1=aa w->∃ds,w=.tup ds
def VZ(h:(bJ B s).1=aa w):∃ds,w=.tup ds:=by
 unfold bJ at h;split at h
 .cases h;show(_,rfl)
 .grind
def none_of{a:Type}{x:Option a}(h:¬x.isSome=ac):x=ab:=by simp_all
def Eh{n c W6:Nat}{B:LRu}(hr:∀r∈B,RuK n r)(hz:Z B<=1000):∀(k:Nat) (s:Spt),SpJ n c W6 B s->Me c s<k->VY n c W6 B s (stF B c k s)
 | 0,_,_,h=>absurd h (iD _)
 |k+1,s,h,hk=>by
  have l:=tq hr _ s h (c8 _);dsimp only[stF];generalize lrF B _ s=R at l;split
  .rename_i d;have(y,j):=xv.mp d;show(l.ok,l.bs,l.mv,(λ_=>.inl (y,l.ye y j)),λw i=>by rw[j]at i;cases i;show(_,rfl))
  .rename_i d;have(m,p,f,z,q,u):=wN hr hz l.ok;rw[l.bs]at f;have x:=l.le;have pt:=λw=>VZ (B:=B) (s:=R.2) (w:=w);generalize bJ B R.2=P at *;split
   .show(m,p.trans l.bs,l.mv.trans f,(λe=>.inr (u e)),pt)
   .rename_i g;have h2:P.2.wt≠[]:=λe=>g (by rw[e];show qH _);have v:=q (none_of λe=>g (by rw[e];rfl)) (l.no (none_of d)) h2;have a:=Eh hr hz k P.2 m (by lia);have b:=p.trans l.bs;show(a.ok,a.bs.trans b,(l.mv.trans f).trans (by have:=a.mv;rw[b]at this;show this),(λe=>by have:=a.en e;rw[b]at this;show this),a.tp)
def V0(B:LRu)(s:Spt):dIs ((bJ B s).1.getD .non) .non=aa (.bl (!(bJ B s).1.isSome)):=by
 unfold bJ
 split <;> rfl
def V1{k:Nat}(hr:∀r∈B,RuK n r)(hz:Z B<=1000)(hn:n<=60)(hB:W6+c<16777216)(h:SpJ n c W6 B s)(E:Me c s<k)(C:k<1000000000):sK l [] (s.S B).o=aa (((stF B c k s).2.S B).o,(stF B c k s).1.getD .non,):=by
 apply fO;apply ak;show bo rfl ?_;walk_at "nrm";apply ak;show rV (λm M=>∃(a:Spt) (g:Bool) (j:Sl),M=[.deep (.at l (a.S B).o),.im (.bl g),j]/\(g=ac->SpJ n c W6 B a/\Me c a<m/\stF B c m a=stF B c k s)/\(g=af->∃w:OD,j=.im (w.getD .non)/\(w,a,)=stF B c k s)) ?_ _ k _ ⟨s,ac,_,rfl,λ_=>(h,E,rfl),λz=>by nomatch z⟩ C;rintro m M ⟨a,g,j,rfl,u,q⟩;generalize stF B c k s=Z at u q ⊢;show(g,rfl,?_,?_)
 .rintro rfl;have(h',hm,b):=u rfl
  cases m with
  |zero=>show absurd hm (iD _)
  |succ m=>
   have f:=tq hr _ a h' (c8 _);have mB:=h'.mB;have v:=VM (l:=l) hr hB h' (c8 _) (by change Me c a+1<_;change i4 a.es*_+a.wt.length+1<_;lia);dsimp only[stF]at b;generalize lrF B _ a=R at *;apply ak;show jL (fN rfl rfl rfl rfl v) ?_;apply ak
   cases hR:R.1 with
   |some y=>
    rw[if_pos (by rw[hR];rfl),hR]at b
    show a8 rfl (λz=>by nomatch z) (λ_=>b6 (bo ((pL rfl (ap (aE (aj (jI qm) rfl) (d9 R.2.wt wyD)) rfl nA)).trans rfl) (0,qR _,R.2,af,_,rfl,(λz=>by nomatch z),λ_=>(aa _,rfl,b))))
   |none=>
    rw[if_neg (by rw[hR];show bK)]at b;have(G,L,N,Q,H,T):=wN hr hz f.ok;have x:=VW (l:=l) hr hz hn hB f.ok;have A:=V0 B R.2;have J:=f.le;generalize bJ B R.2=P at *;show jL (fN rfl rfl rfl rfl x) ?_;show bo (pL (ap rfl rfl A) (ap (aE (aj (jI qm) rfl) (d9 P.2.wt wyD)) rfl nA)) ?_
    by_cases d:(P.1.isSome || P.2.wt.isEmpty)=ac
    .rw[if_pos d]at b
     have i:(!P.1.isSome && decide ((0:Int)<P.2.wt.length))=af:=by
      rcases(jQ _ _).mp d with z |z
      .rw[z];rfl
      .rw[isEmpty_iff.mp z];show tO _
     rw[i];show(0,qR _,P.2,af,_,rfl,(λz=>by nomatch z),λ_=>(P.1,rfl,b))
    .rw[if_neg d]at b;have p:=none_of λe=>d (by rw[e];rfl);have h2:P.2.wt≠[]:=λe=>d (by rw[e];show qH _);have I:=H p (f.no hR) h2
     have i:(!P.1.isSome && decide ((0:Int)<P.2.wt.length))=ac:=by
      have:=length_pos_iff.mpr h2;rw[p,decide_eq_true (by lia)];rfl
     simp only[i];show⟨m,c8 _,P.2,ac,_,rfl,(λ_=>(G,by lia,b)),λz=>by nomatch z⟩
 .rintro rfl;have(w,rfl,e):=q rfl;rw[<- e];show iX rfl (_,rfl,rfl,rfl)
structure SpB(n c:Nat)(B:LRu)(s:Spt):Prop where
 es:Z s.es=n
 bk:∀b∈s.bs,cX n b
 tw:d6 c B.length s.bs s.tw
 wv:∀y∈s.wt,y∈gys B.length (Z s.bs)
 ms:s.ms.Perm (dM B)
 st:s.st=[]
 wl:Z s.wt=Z B+Z s.bs
def JV{n q R:Nat}(hn:n<=60):∀(B:LRu) (i c:Nat) (tw:Wt),(∀r∈B,RuK n r/\Z (grd r)<=q)->i+Z B<=R->d6 c R [] tw->d6 (c+64*q*Z B) R [] (nX i B tw)
 | [],_,_,_,_,_,h=>h
 |r::B,i,c,tw,hr,hi,h=>by
  have(f,g):=hr r aA;simp only[cf]at hi
  have a:d6 (c+64*q) R [] (gc (af,i,) (grd r) tw):=by
   show(?_,λp y d=>?_,λj=>?_)
   .rw[<- wC];show(bT.reg hn (wg f) h.wk).le ?_
    lia
   .by_cases e:y=(af,i,)
    .rw[e];show fq.mpr ?_;change i<R
     lia
    .show h.vl p y (g4.mpr ?_);rw[<- nY e p _];show g4.mp d
   .show .inl λp=>?_;rw[nY (λe=>by cases e)]
    rcases h.br j with z |z
    .show z p
    .rw[z p]
     show if_neg λx=>by
      cases x
  have:=JV hn B (i+1) _ _ (λx b=>hr x (bj _ b)) (by lia) a;rw[cf,Nat.mul_succ,show c+_=c+64*q+64*q*B.length by lia];show this
def V2{q:Nat}(hn:n<=60)(a:Z es=n)(hr:∀r∈B,RuK n r/\Z (grd r)<=q):SpB n (64*q*Z B) B (spT es B):=by
 show(a,(λb h=>nomatch h),?_,λy c=>?_,tX _,rfl,by change((bw (Z B)).map _).length=_;rw[aq,bU];rfl)
 .have:=JV (R:=Z B) hn B 0 0 [] hr (by lia) (⟨cy _,λp h=>nomatch h⟩,(λp y h=>nomatch h),λj=>.inl λp=>rfl);rw[jR]at this;show this
 .have(i,hi,rfl):=aG.mp c;show fq.mpr (fF.mp hi)
inductive Wh where
 |ch
 |gd (y:Wy)
 |gp (ks:LI0)
 |wd (i:Int)
abbrev Wh.D:Wh->L2.D
 |.ch=>.non
 |.gd y=>wyD y
 |.gp ks=>.tup [.str "group",.lst (ks.map .int)]
 |.wd i=>.tup [.str "world",.int i]
def mkS(n:Nat)(ks:LI0):LB0:=(bw n).map (inS ks)
def qu(n:Nat)(ks:LI0):Z (mkS n ks)=n:=by unfold mkS;rw[aq,bU]
variable{ks:LI0}
def me(t0:0<=t)(t1:t<(n:Int)):(mkS n ks).getD t.toNat af=ac↔t∈ks:=by
 delta mkS inS
 rw[bp,cx,tR (by lia)];change(ks.any λx=>x==_)=ac↔_;rw[any_eq_true];constructor
 .rintro⟨x,a,e⟩
  rwa [show t=x by lia]
 .intro h;show(t,h,by rw[beq_iff_eq];lia)
nonrec abbrev eC(G:List Prt)(es:LOB):Prop:=∀p∈G,p.sure es=ac
structure GpR(n:Nat)(B:LRu)(es:LOB)(ks:LI0):Prop where
 nn:∀x∈ks,0<=x/\x<(n:Int)
 nd:ks.Nodup
 i:∃x∈ks,es.getD x.toNat ab=aa ac
 up:∀r∈dM B,r.hd∈ks->r.bodyLost es (mkS n ks)=ac
abbrev Rt(n:Nat)(B:LRu)(bs:LLP)(es:LOB):Wh->Prop
 |.ch=>False
 |.gd y=>y∈gys B.length (Z bs)/\eC (bP B bs y) es
 |.gp ks=>GpR n B es ks
 |.wd _=>∀k,k<n->es.getD k ab≠ab
nonrec def Stp:=Pr×Wh
nonrec abbrev LSp:=List Stp
def stD(x:Stp):D:=.tup [prD x.1,x.2.D]
abbrev aZ(n:Nat):LSp->LOB
 | []=>hE n ab
 |x::st=>put (aZ n st) x.1.1.toNat x.1.2
abbrev Wh.nc:Wh->Bool
 |.gd _=>ac
 |.gp _=>ac
 | _=>af
structure V3(n:Nat)(B:LRu)(bs:LLP)(es:LOB)(x:Stp):Prop where
 t0:0<=x.1.1
 t1:x.1.1<(n:Int)
 op:opn es x.1.1=ac
 ok:(x.2=.ch/\x.1.2=ac/\∀j:Nat,(j:Int)<x.1.1->es.getD j ab≠ab)\/(x.2.nc=ac/\Rt n B bs (put es x.1.1.toNat (!x.1.2)) x.2)
abbrev Tr(n:Nat)(B:LRu)(bs:LLP):LSp->Prop
 | []=>True
 |x::st=>Tr n B bs st/\V3 n B bs (aZ n st) x
def fA(n:Nat):∀st:LSp,Z (aZ n st)=n
 | []=>mi
 |x::st=>by rw[aZ,cb,fA n st]
structure TrS(n:Nat)(B:LRu)(s:Spt)(st:LSp):Prop where
 sv:s.st=st.reverse.map stD
 es:s.es=aZ n st
 tr:Tr n B s.bs st
variable{st:LSp}{w:Wh}
def TrS.pt(h:TrS n B s st)(t0:0<=t)(t1:t<(n:Int))(a:opn s.es t=ac)(c:w.nc=ac)(k:Rt n B s.bs (put s.es t.toNat (!b)) w):TrS n B (s.pt t b w.D) (((t,b,),w,)::st):=by
 show(?_,?_,h.tr,t0,t1,h.es▸a,.inr (c,h.es▸k))
 .change s.st++[_]=_;rw[h.sv,i8,aT];rfl
 .change put s.es _ _=_;rw[h.es];rfl
def TrM(n:Nat)(B:LRu)(st:LSp)(s:Spt):Prop:=∃xt:LSp,TrS n B s (xt++st)/\∀x∈xt,x.2.nc=ac
def TrM.refl(h:TrS n B s st):TrM n B st s:=⟨[],h,λ_ h=>nomatch h⟩
def TrM.pt(h:TrM n B st s)(t0:0<=t)(t1:t<(n:Int))(a:opn s.es t=ac)(c:w.nc=ac)(k:Rt n B s.bs (put s.es t.toNat (!b)) w):TrM n B st (s.pt t b w.D):=by
 have(xt,h,d):=h;show(_::xt,h.pt t0 t1 a c k,λx q=>?_)
 grind
def TrM.same{a:Spt}(h:TrM n B st s)(b:a.st=s.st)(c:a.es=s.es)(d:a.bs=s.bs):TrM n B st a:=by
 have(xt,h,e):=h;show(xt,(by rw[b];show h.sv,by rw[c];show h.es,by rw[d];show h.tr),e)
def Ei{n:Nat}{B:LRu}{y:Wy}{st:LSp}:∀{ps:List Pr} {s:Spt},y∈gys B.length (Z s.bs)->Z s.es=n->(∀p∈bP B s.bs y,p.Ok (Z s.es))->fP s.es ps->(∀z∈ps,eC (bP B s.bs y) (put s.es z.1.toNat (!z.2)))->TrM n B st s->TrM n B st (puts s (wyD y) ps)
 | [],_,_,_,_,_,_,h=>h
 |z::ps,s,hy,hl,hG,k,hp,h=>by
  have((a,b),e):=k.op z aA;have(d,g):=b9.mp k.nd;show Ei (s:=s.pt z.1 z.2 _) hy ((cb _ _ _).trans hl) (λp q=>by change p.Ok (Z (put s.es z.1.toNat z.2));rw[cb];show hG p q) k.tail (λx c p q=>?_) (h.pt (w:=.gd y) a (by lia) e rfl (hy,hp z aA));have((f,i),j):=k.op x (bj _ c);have ne:z.1≠x.1:=λe=>d (aG.mpr (x,c,e.symm));change p.sure (put (put s.es z.1.toNat z.2) x.1.toNat _)=ac;rw[wF (by lia)];show wA (by rw[cb];show hG p q) a (by rw[cb];show b) (wG a f ne e) _ (hp x (bj _ c) p q)
def tG{n c W6:Nat}{B:LRu}{st:LSp}(hr:∀r∈B,RuK n r):∀(k:Nat) (s:Spt),SpJ n c W6 B s->TrM n B st s->TrM n B st (lrF B k s).2
 | 0,_,_,h=>h
 |k+1,s,h,q=>by
  cases a:s.wt with
  |nil=>rw[tj a];show q
  |cons y wt=>
   have(f,_,g):=h.pop a;have d:∀p∈bP B s.bs y,p.Ok (Z s.es):=by rw[h.es];show n8 hr h.bk
   cases b:prs _ s.es with
   |none=>rw[tm a b];show q.same rfl rfl rfl
   |some ps=>
    rw[qt a b];have(e,i,_):=n6 d b;show tG hr k _ (n4 f e).1 (Ei g h.es d e (λz hz=>((i z).mp hz).2.2) (q.same rfl rfl rfl))
variable{wo':LB0}
def JW(h:p.Ok (Z es))(a:∀t∈nmP p,es.getD t.toNat ab=aa ac->es'.getD t.toNat ab=aa ac)(h2:∀t∈nmP p,(es.getD t.toNat ab=aa af\/wo.getD t.toNat af=ac)->(es'.getD t.toNat ab=aa af\/wo'.getD t.toNat af=ac))(s:p.lost es wo=ac):p.lost es' wo'=ac:=by
 cases p with
 |inn t=>
  have s:(_ || wo.getD t.toNat af)=ac:=s;change(_ || wo'.getD t.toNat af)=ac;rw[jQ]at s ⊢
  rcases h2 t aA (s.imp beq_iff_eq.mp id)with q |q
  .grind
  .grind
 |out t=>show beq_iff_eq.mpr (a _ aA (beq_iff_eq.mp s))
 |least k L=>
  show decide_eq_true (Int.lt_of_le_of_lt (lO λz hz=>((h.1 z hz).2.2,λq=>?_)) (of_decide_eq_true s))
  cases b:(!_ && !_)with
  |true=>rfl
  |false=>
   have:es.getD z.1.toNat ab=aa af\/wo.getD z.1.toNat af=ac:=by
    grind
   rcases h2 z.1 (aG.mpr (z,hz,rfl)) this with u |u
   .grind
   .grind
 |most k L=>
  show decide_eq_true (Int.lt_of_lt_of_le (of_decide_eq_true s) ?_);rw[gN,gN];show lO λz hz=>((h.1 z hz).2.2,λq=>beq_iff_eq.mpr (a _ (aG.mpr (z,hz,rfl)) (beq_iff_eq.mp q)))
variable{r:Rul}
def V4(g:Z es=n)(hr:r.Ok n)(h:Kp es wo ks r):r.bodyLost es (mkS n ks)=ac:=by
 subst g;have(p,c,l,a):=h;have b:=hr.ps p c;show any_eq_true.mpr (p,c,?_);unfold kpL at a
 by_cases d:p.lost es ((bw (Z es)).map (inS []))=ac
 .show vb (cR.refl _) (by rw[qu,aq,bU],λi hi=>?_) b d;rw[bp,cx]at hi
  cases e:(bw (Z es))[i]? with
  |none=>rw[e]at hi;nomatch hi
  |some j=>rw[e]at hi;nomatch hi
 .rw[if_neg d]at a;show JW b (λ_ _ e=>e) (λt f e=>e.imp id λw=>?_) l;have(t0,t1):=qo b t f;show(me t0 t1).mpr (a t (cg.mpr (sS.mpr f,w)))
def tu.gp(h:tu es wo ms t ks)(a:Z es=n)(hm:∀r∈ms,r.Ok n)(pm:ms.Perm (dM B))(f:cR es es')(hi:es'.getD t.toNat ab=aa ac):GpR n B es' ks:=by
 subst a;show(λx c=>(h.el x c).1,h.nd,(t,h.mt,hi),λr hr hd=>?_);have hr:=pm.mem_iff.mpr hr;show rO (λp b z=>vb f (nt.refl _) ((hm r hr).ps p b) z) (V4 rfl (hm r hr) (h.kp r hr hd))
def JX{n c W6:Nat}{B:LRu}{wo:LB0}{st:LSp}(hn:n<=60):∀{ts:LI0} {s:Spt},SpJ n c W6 B s->fw n s.ms->GpL s.ms s.es wo->(∀t∈ts,wo.getD t.toNat af=ac)->fP s.es (ts.map λt=>(t,af,))->TrM n B st s->TrM n B st (eT B wo s ts)
 | [],_,_,_,_,_,_,h=>h
 |t::ts,s,h,hm,hg,hw,k,q=>by
  have((a,b),e):=k.op _ aA;have b:t<n:=by rw[<- h.es];show b
  have a:0<=t:=a;have(ks,d,_,f):=Eg hn h.es hm hg a b (hw t aA);show JX hn (s:=s.pt t af _) (h.pt a b e).1 hm (hg.up (wL a e) (by rw[h.es];show hm.ok)) (λu g=>hw u (bj _ g)) k.tail ?_;unfold tE;rw[d];show(q.pt (w:=.gp ks) a b e rfl (f.gp h.es hm.ok h.ms (wL a e) (fj s.es ac (by rw[h.es];lia))))
def V5(hr:∀r∈B,RuK n r)(hz:Z B<=1000)(hn:n<=60)(h:SpJ n c W6 B s)(q:TrM n B st s):TrM n B st (bJ B s).2/\∀w,(bJ B s).1=aa w->∃ks,w=(Wh.gp ks).D/\GpR n B (bJ B s).2.es ks:=by
 have hm:=fw.of hr hz h.ms;have(f,g,pm,i):=h.rem' hm;have a:fw n (reM s).ms:=(λr q=>hm.ok r (pm.mem_iff.mp q),λr q=>hm.nm r (pm.mem_iff.mp q),λr q=>hm.ne r (pm.mem_iff.mp q),by rw[pm.length_eq];show hm.len);have b:GpL (reM s).ms (reM s).es (cr s.es s.ms).1:=(g.1,λr q=>g.2 r (pm.mem_iff.mp q));have m:TrM n B st (reM s):=q.same rfl rfl rfl;unfold bJ
 cases l:inL s.es (cr s.es s.ms).1 with
 |cons x E=>
  show(m,λw e=>?_);cases e;have C:x∈inL s.es (cr s.es s.ms).1:=by rw[l];show aA
  have(p,z,rfl):=aG.mp C;have(d,j):=cg.mp z;have (h4,h5):=(ce _ _).mp j;have y:=(cM.mp (k9 d)).1;have(ks,u,_,v):=Eg (t:=p.1) hn f.es a b (by lia) (by rw[<- h.es];lia) (by rw[cL];show h4);show(ks,?_,v.gp f.es a.ok f.ms (cR.refl _) ?_)
  .unfold tE;rw[u];rfl
  .change s.es.getD (p.1:Int).toNat ab=aa ac;rw[cL,bp,(k9 d)]
   show eq_of_beq h5
 |nil=>show⟨JX hn f a b (λt A=>(JT.mp A).2) (tF g.1 l i) m,λw e=>nomatch e⟩
structure StS(n:Nat)(B:LRu)(s:Spt)(R:OD×Spt):Prop where
 tw:R.2.tw=s.tw
 pp:R.2.pp=s.pp
 ct:R.2.ct=s.ct
 en:R.2.en=s.en
 wy:∀w,R.1=aa w->∃wh:Wh,w=wh.D/\wh.nc=ac/\Rt n B s.bs R.2.es wh
def JY(w:D):∀(ps:List Pr) (s:Spt),(puts s w ps).tw=s.tw/\(puts s w ps).pp=s.pp/\(puts s w ps).ct=s.ct/\(puts s w ps).en=s.en
 | [],_=>(rfl,rfl,rfl,rfl)
 |z::ps,s=>JY w ps _
def JZ(B:LRu):∀k s,(lrF B k s).2.tw=s.tw/\(lrF B k s).2.pp=s.pp/\(lrF B k s).2.ct=s.ct/\(lrF B k s).2.en=s.en
 | 0,s=>(rfl,rfl,rfl,rfl)
 |k+1,s=>by
  cases e:s.wt with
  |nil=>rw[tj e];show(rfl,rfl,rfl,rfl)
  |cons y wt=>
   cases f:prs _ s.es with
   |none=>rw[tm e f];show(rfl,rfl,rfl,rfl)
   |some ps=>
    rw[qt e f];have(a,b,c,d):=JZ B k _
    have(g,h,i,d'):=JY _ ps {s with wt:=wt}
    show(a.trans g,b.trans h,c.trans i,d.trans d')
def J0(B:LRu)(wo:LB0):∀(ts:LI0) (s:Spt),(eT B wo s ts).tw=s.tw/\(eT B wo s ts).pp=s.pp/\(eT B wo s ts).ct=s.ct/\(eT B wo s ts).en=s.en
 | [],_=>(rfl,rfl,rfl,rfl)
 |t::ts,s=>J0 B wo ts _
def wO{n c W6:Nat}{B:LRu}{st:LSp}(hr:∀r∈B,RuK n r)(hz:Z B<=1000)(hn:n<=60):∀(k:Nat) (s:Spt),SpJ n c W6 B s->TrM n B st (lrF B (Me c s+1) s).2->TrM n B st (stF B c (k+1) s).2/\StS n B s (stF B c (k+1) s)
 |k,s,h,lt=>by
  have l:=tq hr _ s h (c8 _);have(a,b,d,f):=JZ B _ s;dsimp only[stF];generalize lrF B _ s=R at l lt a b d f;split
  .rename_i G;have(y,p):=xv.mp G;show(lt,a,b,d,f,λw e=>?_);rw[p]at e;cases e;show(.gd y,rfl,rfl,l.ye y p)
  .have(q,I,_):=wN hr hz l.ok;have(pt,L):=V5 hr hz hn l.ok lt
   have J:(bJ B R.2).2.tw=R.2.tw/\(bJ B R.2).2.pp=R.2.pp/\(bJ B R.2).2.ct=R.2.ct/\(bJ B R.2).2.en=R.2.en:=by
    unfold bJ;split
    .show(rfl,rfl,rfl,rfl)
    .show J0 _ _ _ _
   generalize bJ B R.2=P at *;have(g,i,j,m):=J;split
   .show(pt,g.trans a,i.trans b,j.trans d,m.trans f,λw e=>?_);have(ks,C,E):=L w e;show(.gp ks,C,rfl,E)
   .cases k with
    |zero=>show⟨pt,g.trans a,i.trans b,j.trans d,m.trans f,λw e=>nomatch e⟩
    |succ k=>
     have(H,u,v,x,z,A):=wO hr hz hn k P.2 q (tG hr _ _ q pt);show(H,u.trans (g.trans a),v.trans (i.trans b),x.trans (j.trans d),z.trans (m.trans f),λw e=>by rw[<- (I.trans l.bs)];show A w e)
nonrec def wS(L:LII)(S:LI0):Int:=bR (λt=>decide (t∈S)) L
def qv(p:Int->Bool)(z:Int×Int)(L:LII):bR p (z::L)=(if p z.1=ac then z.2 else 0)+bR p L:=by
 unfold bR;rw[filter_cons];split
 .rw[bG,sum_cons]
 .omega
def J4{p:Int->Bool}{t:Int}(h:p t=af):∀L:LII,bR (λu=>p u || u==t) L=bR p L+wt L t
 | []=>rfl
 |z::L=>by
  have e0:wt _ t=bR (λu=>u==t) (z::L):=rfl;have a:wt L t=bR (λu=>u==t) L:=rfl;simp only[e0,qv,qv,qv,(J4 h L),a]
  by_cases e:z.1=t
  .simp only[e,h,beq_self_eq_true];simp
   lia
  .simp only[beq_false_of_ne e,tP];simp
   lia
def J5{S:LI0}(h:t∉S):wS L (S++[t])=wS L S+wt L t:=by
 rw[<- J4 (decide_eq_false h)];show pQ λz _=>?_;rw[jP];simp
def J6(p:Int->Bool):∀L:LII,bR p L+bR (λt=>!p t) L=bR (λ_=>ac) L
 | []=>rfl
 |z::L=>by
  rw[qv,qv,qv,<- (J6 p L)]
  cases p z.1 <;> simp <;> lia
def V6(e:InN n L)(hz:Z L<=100000)(a:LI0)(v:Z a<=1000)(nd:a.Nodup)(lack:Int):∃d,m_7 [.lst (L.map itD),.lst (a.map D.int),.int lack]=aa d/\∃ks:LI0,d=.lst (ks.map D.int)/\(∀k∈ks,k∈a)/\Z ks<=Z a/\(lack<=wS L a->lack<=wS L ks):=by
 apply lS;apply ak;show bo (aE rfl (Ju L hz)) ?_;walk_at "nrm";apply ak;show d4 rfl ?_;walk_at "nrm";apply ak;show bo rfl ?_;walk_at "nrm";apply ak;show dq a D.int (λpre M=>∃(ks:LI0) (left:Int) (g i:Sl),M=[.im _,.im _,.im _,.im _,.own (ks.map D.int),.im (.int left),g,i]/\(∀k∈ks,k∈pre)/\Z ks<=Z pre/\left=lack-wS L ks/\(0<left->wS L ks=wS L pre)) rfl ([],lack,_,_,rfl,(λk h=>nomatch h),aM _,by rw[show wS L []=0 by unfold wS bR;rw[filter_eq_nil_iff.mpr λz _=>by simp];rfl];lia,λ_=>rfl) ?_ ?_
 .rintro pre t post M ex ⟨ks,left,g,i,rfl,b,h2,j,l⟩
  have c:=λq=>by
   rw[ex]at nd;show(fE.mp nd).2.2 t q t aA rfl
  have m:Z pre<Z a:=by rw[ex];simp
  have w:=DU e t;have r:=J5 (L:=L) c;have u:=J5 (L:=L) λq=>c (b t q);show(_,rfl,?_);walk_at "nrm";apply ak;show bo (d:=.int (wt L t)) ?_ ?_
  .rw[<- (qp L).get];change aa ((gU _ _ _).getD _)=_;rw[Js]
  walk_at "nrm";show a8 (jZ (bE (ap rfl rfl nA)) (bE (ap rfl rfl nA))) (λz=>?_) λz=>?_
  .have(x,y):=(ce _ _).mp z;apply ak;show f9 rfl rfl (by rw[aq];lia) ?_;walk_at "nrm";show(_,rfl,ks++[t],left-wt L t,.im (.int t),.im (.int (wt L t)),?_,λk f=>?_,?_,by lia,λ_=>by lia)
   .rw[aT];rfl
   .rcases bx.mp f with q |q
    .show b8 _ (b k q)
    .show cF _ q
   .rw[aP,aP];show Nat.add_le_add_right h2 _
  .show b6 (ks,left,_,_,rfl,λk f=>b8 _ (b k f),by rw[aP];lia,j,λq=>?_);rw[decide_eq_true q,qG]at z
   lia
 .rintro M ⟨ks,left,g,i,rfl,b,h2,j,l⟩;show lV rfl (iw (ks,rfl,b,h2,λq=>?_))
  by_cases p:0<left
  .rw[l p];show q
  .lia
def V7(e:Option Bool)(b:Bool):dEq (shD e) (.bl b)=aa (.bl (e==aa b)):=by
 cases e with
 |none=>rfl
 |some c=>cases b <;> cases c <;> rfl
def wth(es:LOB)(b:Bool)(ord:LI0):LI0:=ord.filter λt=>es.getD t.toNat ab==aa b
variable{ord:LI0}
def wP(a:∀t∈ord,0<=t/\t<(Z es:Int))(d:Z ord<=1000)(b:Bool):qh [.lst (ord.map D.int),.lst (es.map shD),.bl b]=aa (.lst ((wth es b ord).map D.int)):=
 lM (congrArg _ (e9 ord D.int _ D.int rfl (by lia) λt c=>dP rfl (bE (ap (aY rfl rfl (jz (a t c).1 (a t c).2)) rfl (V7 _ _))) λ_=>rfl))
def J7(L:LII)(hz:Z L<=100000):vU [.lst (L.map itD)]=aa (.int (bR (λ_=>ac) L)):=by
 show dk (di (aE (aj (bB (e9 L itD _ _ rfl (by lia) λz _=>dP rfl rfl λ_=>rfl)) rfl) (zb (λ_=>ac) L)))
structure g6(es:LOB)(ord:LI0):Prop where
 nn:∀t∈ord,0<=t/\t<(Z es:Int)
 nd:ord.Nodup
 al:∀t:Int,0<=t->t<(Z es:Int)->es.getD t.toNat ab≠ab->t∈ord
def g6.len(h:g6 es ord):Z ord<=Z es:=sZ h.nd h.nn
def Agr(ks:LI0)(es e':LOB):Prop:=Z e'=Z es/\∀k∈ks,e'.getD k.toNat ab=es.getD k.toNat ab
structure wQ(es:LOB)(ks:LI0)(P:LOB->Prop):Prop where
 nn:∀k∈ks,(0<=k/\k<(Z es:Int))/\es.getD k.toNat ab≠ab
 ln:Z ks<=60
 ok:∀e',Agr ks es e'->P e'
def Ej:t∈wth es b ord↔t∈ord/\es.getD t.toNat ab=aa b:=by
 unfold wth;rw[cg,beq_iff_eq]
def V8(h:g6 es ord)(a:InN es.length L)(b:Bool):wS L (wth es b ord)=bR (λt=>es.getD t.toNat ab==aa b) L:=pQ λz hz=>by
 rw[jP,decide_eq_true_eq,Ej,beq_iff_eq];show(λq=>q.2,λq=>(h.al z.1 (a z hz).1 (a z hz).2.1 (by grind),q))
def wR(h:g6 es ord)(hn:Z es<=60)(f:InN es.length L)(hz:Z L<=100000)(b:Bool)(lack:Int)(l:lack<=bR (λt=>es.getD t.toNat ab==aa b) L):∃ks:LI0,m_7 [.lst (L.map itD),.lst ((wth es b ord).map D.int),.int lack]=aa (.lst (ks.map D.int))/\wQ es ks λe'=>lack<=bR (λt=>e'.getD t.toNat ab==aa b) L:=by
 have m:=h.len;have wl:Z (wth es b ord)<=Z ord:=gC _ _;have(d,e,ks,rfl,g,h2,i):=V6 f hz (wth es b ord) (by lia) (h.nd.sublist ot) lack;show(ks,e,λk j=>?_,by lia,λe' ha=>?_)
 .have(a,c):=Ej.mp (g k j);show(h.nn k a,by rw[c];grind)
 .show Int.le_trans (i (by rw[V8 h f b];show l)) (lO λz hz=>((f z hz).2.2,λq=>?_));have q:=of_decide_eq_true q;rw[beq_iff_eq,ha.2 _ q];show(Ej.mp (g _ q)).2
def wT{P:LOB->Prop}(h:0<=t/\t<(Z es:Int))(a:es.getD t.toNat ab=aa b)(k:∀e':LOB,e'.getD t.toNat ab=aa b->P e'):wQ es [t] P:=(λx c=>by rw[bq.mp c];show⟨h,by rw[a];show λe=>nomatch e⟩,(by decide:1<=60),λe' ha=>k e' ((ha.2 t aA).trans a))
def wU{k:Int}(e:LOB):bR (λt=>!(e.getD t.toNat ab==aa af)) L<=k↔bR (λ_=>ac) L-k<=bR (λt=>e.getD t.toNat ab==aa af) L:=by
 have:=J6 (λt=>e.getD t.toNat ab==aa af) L;lia
def sure_by(p:Prt)(c:p.Ok (Z es))(h:g6 es ord)(hn:Z es<=60)(d:p.sure es=ac)(a:fo M=aa p.obj)(ha:fa M=aa [.lst (es.map shD),.lst (ord.map D.int)]):
  ∃ks:LI0,bf (aO "In" "sure_by" Cd fo fa) (bf (aO "Out" "sure_by" Cn fo fa) (bf (aO "Least" "sure_by" Ch fo fa) (aO "Most" "sure_by" Ck fo fa))) M=aa (.lst (ks.map D.int))/\wQ es ks λe'=>p.sure e'=ac:=by
 have f:=h.len
 cases p with
 |inn t=>show([t],dQ ((cD a rfl ha).trans rfl),wT c (beq_iff_eq.mp d) λe' q=>beq_iff_eq.mpr q)
 |out t=>show([t],bH (bI a (by decide)) (dQ ((cD a rfl ha).trans rfl)),wT c (beq_iff_eq.mp d) λe' q=>beq_iff_eq.mpr q)
 |least k L=>
  have(ks,e,b):=wR h hn c.1 c.2 ac k (of_decide_eq_true d)
  show(ks,bH (bI a (by decide)) (bH (bI a (by decide)) (dQ ((cD a rfl ha).trans (dk (di (aE (aj rfl (aj (aE rfl (wP h.nn (by lia) ac)) (aj rfl rfl))) e)))))),b.nn,b.ln,λe' q=>decide_eq_true (b.ok e' q))
 |most k L=>
  have(ks,e,b):=wR h hn c.1 c.2 af _ ((wU es).mp (of_decide_eq_true d));show(ks,bH (bI a (by decide)) (bH (bI a (by decide)) (bH (bI a (by decide)) ((cD a rfl ha).trans (dk (di (aE (aj rfl (aj (aE rfl (wP h.nn (by lia) af)) (aj (ap (aE rfl (J7 L c.2)) rfl lU) rfl))) e)))))),b.nn,b.ln,λe' q=>decide_eq_true ((wU e').mpr (b.ok e' q)))
def V9(p:Prt)(c:p.Ok (Z es))(m:Z wo=Z es)(h:g6 es ord)(hn:Z es<=60)(d:p.lost es wo=ac)(a:fo M=aa p.obj)(ha:fa M=aa [.lst (es.map shD),.lst (wo.map D.bl),.lst (ord.map D.int)]):
  ∃ks:LI0,bf (aO "In" "lost_by" Cp fo fa) (bf (aO "Out" "lost_by" Cw fo fa) (bf (aO "Least" "lost_by" Cs fo fa) (aO "Most" "lost_by" Cu fo fa))) M=aa (.lst (ks.map D.int))/\wQ es ks λe'=>p.lost e' wo=ac:=by
 have r:=h.len
 cases p with
 |inn t=>
  have f:=j4 c.1 (by rw[m];show c.2);have d:(_ || wo.getD t.toNat af)=ac:=d
  cases g:wo.getD t.toNat af with
  |true=>
   rw[g]at f
   show([],dQ ((cD a rfl ha).trans (dk (di (lT (dB (aY rfl rfl f) rfl) (λ_=>rfl) λe=>nomatch e)))),(λk q=>nomatch q),cy _,λe' _=>by change(_ || wo.getD t.toNat af)=ac;rw[g];show qH _)
  |false=>
   rw[g]at f;rw[g,tP]at d
   show([t],dQ ((cD a rfl ha).trans (dk (di (lT (dB (aY rfl rfl f) rfl) (λe=>nomatch e) λ_=>rfl)))),wT c (beq_iff_eq.mp d) λe' q=>by change(_ || _)=ac;rw[q];rfl)
 |out t=>show([t],bH (bI a (by decide)) (dQ ((cD a rfl ha).trans rfl)),wT c (beq_iff_eq.mp d) λe' q=>beq_iff_eq.mpr q)
 |least k L=>
  have n:=gC (λz:Int×Int=>!(wo.getD z.1.toNat af)) L;have i:InN es.length (L.filter λz=>!(wo.getD z.1.toNat af)):=λz hz=>c.1 z (cg.mp hz).1;have j:∀e':List _,bR _ L=_:=λe'=>(FM (λt=>!(e'.getD t.toNat ab==aa af)) (λt=>!(wo.getD t.toNat af)) L).symm;have l:=IV c.1 m c.2;have d:=of_decide_eq_true d;rw[j]at d;generalize L.filter _=left at n i j l d;have(ks,e,b):=wR h hn i (by have:=c.2;lia) af (bR (λ_=>ac) left-k+1) (by have:=(wU es).mp (by lia:bR _ left<=k-1);lia);show(ks,bH (bI a (by decide)) (bH (bI a (by decide)) (dQ ((cD a rfl ha).trans ?_))),b.nn,b.ln,λe' q=>decide_eq_true ?_)
  .show dk (pJ (GC (aE rfl l)) (di (aE (aj rfl (aj (aE rfl (wP h.nn (by lia) af)) (aj (ap (ap (aE rfl (J7 left (by have:=c.2;lia))) rfl lU) rfl dR) rfl))) e)))
  .rw[j];have:=b.ok e' q;have:=(wU (k:=k-1) (L:=left) e').mpr (by lia)
   lia
 |most k L=>
  have(ks,e,b):=wR h hn c.1 c.2 ac _ (of_decide_eq_true d);show(ks,bH (bI a (by decide)) (bH (bI a (by decide)) (bH (bI a (by decide)) ((cD a rfl ha).trans (dk (di (aE (aj rfl (aj (aE rfl (wP h.nn (by lia) ac)) (aj (ap rfl rfl dR) rfl))) e)))))),b.nn,b.ln,λe' q=>decide_eq_true (b.ok e' q))
structure qw(es:LOB)(gs:LI0)(P:LOB->Prop):Prop where
 nn:∀k∈gs,(0<=k/\k<(Z es:Int))/\es.getD k.toNat ab≠ab
 ln:Z gs<=100000
 ok:∀e',Agr gs es e'->P e'
variable{ys:LI0}{e':LOB}
def Agr.left{E:LI0}(h:Agr (E++ys) es e'):Agr E es e':=(h.1,λk a=>h.2 k (b8 _ a))
def Agr.right{E:LI0}(h:Agr (E++ys) es e'):Agr ys es e':=(h.1,λk a=>h.2 k (cF _ a))
def Wb{a:Type}(y:a)(l:List a):((y::l).drop (HT.sIx (y::l).length 0 ab)).take (HT.sIx (y::l).length (y::l).length (aa 1)-HT.sIx (y::l).length 0 ab)=[y]:=by
 rfl
variable{es0:LOB}{b c:L2.D}
def Wc(hl:Z es=n)(hn:n<=60)(hm:fw n ms)(pm:ms.Perm (dM B))(h:g6 es ord)(m:GpR n B es ks):
  ∃gs:LI0,o_9 [slf es0 a b c d e E ms,.lst (es.map shD),.lst (ks.map D.int),.lst (ord.map D.int)]=aa (gs.map D.int)/\qw es gs λe'=>GpR n B e' ks:=by
 subst hl;have ol:=h.len;have kl:=sZ m.nd m.nn;have hml:=hm.len
 suffices z:wp b_9 _ (λr=>∃gs:LI0,r=.rtO (gs.map D.int)/\qw es gs λe'=>GpR es.length B e' ks) by
  have(r,e,gs,rfl,h):=z;show(gs,nB e,h)
 apply ak;show bo (aE (aj (aE rfl (d9 es shD)) (aj rfl rfl)) (IT es.length ks (by lia) (by lia) (by lia))) ?_;apply ak;have C:∀t:Int,0<=t->t<_->atI ((mkS es.length ks).map D.bl) t=aa _:=λt t0 t1=>j4 t0 (by rw[qu];show t1);show d4 (j6 (bB (e9 ord D.int _ D.int rfl (by lia) λt T=>dP rfl (jZ (dB (aY rfl rfl (C t (h.nn t T).1 (h.nn t T).2)) rfl) (bE (ap (aY rfl rfl (jz (h.nn t T).1 (h.nn t T).2)) rfl (pO _ _)))) λ_=>rfl)) rfl rfl) ?_
 obtain⟨g,gl,hg0,J⟩:∃g gl,(ord.filter λt=>(mkS es.length ks).getD t.toNat af && (es.getD t.toNat ab==aa ac))=g::gl/\g∈ord/\g∈ks/\es.getD g.toNat ab=aa ac:=by
  have(x,U,ex):=m.i;have(x0,x1):=m.nn x U;have I:x∈ord.filter λt=>(mkS es.length ks).getD t.toNat af && (es.getD t.toNat ab==aa ac):=cg.mpr (h.al x x0 x1 (by rw[ex];show λq=>nomatch q),by rw[(me x0 x1).mpr U,ex];rfl)
  cases j:ord.filter _ with
  |nil=>rw[j]at I;nomatch I
  |cons y l=>
   have hy:y∈ord.filter λt=>(mkS es.length ks).getD t.toNat af && (es.getD t.toNat ab==aa ac):=by rw[j];show aA
   have(y1,y2):=cg.mp hy;have(y2,y3):=(ce _ _).mp y2;have(z0,z1):=h.nn y y1;show(y,l,rfl,y1,(me z0 z1).mp y2,beq_iff_eq.mp y3)
 rw[hg0,Wb];apply ak;show dq ms mkD (λpre M=>∃(gs:LI0) (v6 v7:Sl),M=[.im _,.im _,.im _,.im _,.im _,.own (gs.map D.int),v6,v7]/\(∀k∈gs,(0<=k/\k<_)/\es.getD k.toNat ab≠ab)/\Z gs<=1+60*Z pre/\g∈gs/\∀r∈pre,r.hd∈ks->∀e',Agr gs es e'->r.bodyLost e' (mkS es.length ks)=ac) rfl ⟨[g],_,_,rfl,(λk u=>by rw[bq.mp u];show⟨h.nn g J.1,by rw[J.2.2];show λq=>nomatch q⟩),aM _,aA,λr hr=>nomatch hr⟩ ?_ ?_
 .rintro pre r post M ex ⟨gs,v6,v7,rfl,L,h2,N,Q⟩;have w:r∈ms:=by rw[ex];simp
  have hpl:Z pre<Z ms:=by rw[ex];simp
  have A:=hm.ok r w;have(Y,d1):=A.hd (hm.ne r w);show(_,rfl,?_);show a8 (dB (aY rfl rfl (C r.hd Y d1)) rfl) (λz=>?_) λz=>?_
  .have u:=(me Y d1).mp z
   cases j:r.ps.find? _ with
   |none=>
    have:=DM (es:=es) (wo:=mkS es.length ks) r;rw[j,(m.up r (pm.mem_iff.mp w) u)]at this
    nomatch this
   |some p=>
    have H:=xl j;have G:=DK (wo:=mkS es.length ks) r.ps A.ps (qu _ _);rw[j]at G;have(js,e1,e2):=V9 (M:=[.im _,.im _,.im _,.im _,.im _,.own _,.im _,.im _]) (fo:=av m_5 (ag (ae 7) (ag (ae 1) (ag (ae 4) λ_=>aa [])))) (fa:=ag (ae 1) (ag (ae 4) (ag (ae 3) λ_=>aa []))) p (A.ps p H) (qu _ _) h hn (find?_some j) (aE rfl G) rfl;have:=e2.ln;show(_,DD e1 rfl (by rw[aq,aq];lia),gs++js,_,_,by rw[aT];rfl,λk u=>?_,?_,b8 _ N,λr' v f e' ha=>?_)
    .rcases bx.mp u with q |q
     .show L k q
     .show e2.nn k q
    .simp only[aP,aP,fB];lia
    .rcases bx.mp v with q |q
     .show Q r' q f e' ha.left
     .rw[bq.mp q];show any_eq_true.mpr (p,H,e2.ok e' ha.right)
  .show b6 (gs,_,_,rfl,L,by rw[aP];lia,N,λr' v f=>?_)
   rcases bx.mp v with q |q
   .show Q r' q f
   .rw[bq.mp q]at f;rw[(me Y d1).mpr f]at z
    nomatch z
 .rintro M ⟨gs,v6,v7,rfl,L,h2,N,Q⟩;show lV rfl (gs,rfl,L,by lia,λe' ha=>(λx U=>m.nn x U,m.nd,(g,J.2.1,by rw[ha.2 g N];show J.2.2),λr hr u=>Q r (pm.mem_iff.mpr hr) u e' ha))
def We{bs:LLP}(hr:∀r∈B,RuK n r)(a:∀b∈bs,cX n b)(hn:n<=60)(y:Wy):Z (bP B bs y)<=1001:=by
 have(z,j):=y
 cases z with
 |true=>
  change(brg (bs.getD j [])).length<=_;unfold brg;rw[aq];have:=(Eb a j).len
  lia
 |false=>
  change(((B[j]?).map grd).getD []).length<=_
  cases e:B[j]? with
  |none=>show cy _
  |some r=>show DF (hr r (dU e))
def Wf{bs:LLP}(I:Z es=n)(hn:n<=60)(hr:∀r∈B,RuK n r)(H:∀b∈bs,cX n b)(hm:fw n ms)(pm:ms.Perm (dM B))(h:g6 es ord)(l:Rt n B bs es w):
  ∃gs:LI0,o_4 [slf es0 a b (gdT B bs) d e E ms,.lst (es.map shD),w.D,.lst (ord.map D.int)]=aa (gs.map D.int)/\qw es gs λe'=>Rt n B bs e' w:=by
 suffices z:wp b_4 _ (λr=>∃gs:LI0,r=.rtO (gs.map D.int)/\qw es gs λe'=>Rt n B bs e' w) by
  have(r,e,gs,rfl,h):=z;show(gs,nB e,h)
 cases w with
 |ch=>show l.elim
 |wd i=>
  apply ak;show iu (Q3 (aj (aE rfl (d9 es shD)) rfl) (by lia) (by lia)) (_,rfl,λk c=>?_,by rw[aq,bU];lia,λe' ha k c=>?_)
  .have(j,m,rfl):=aG.mp c;have:=fF.mp m;show((by lia,by lia),by rw[cL];show l j (by lia))
  .have:=ha.2 _ (aG.mpr (k,fF.mpr (by lia),rfl));rw[cL]at this;rw[this]
   show l k c
 |gp ks=>
  have(gs,u,f):=Wc I hn hm pm h l;apply ak;show a8 rfl (λz=>nomatch z) λ_=>b6 ?_;apply ak;show iu ?_ (gs,rfl,f);change(if "Seeking"="Seeking" /\ List.contains (spN++(["paper","count","ended"]:LSt)) "grounds_of_group"=af then (o_9 [slf es0 a b _ d e E ms,_,_,_]).bind λB=>if B.all D.flat then aa B else ab else ab)=_
  rw[if_pos (rfl,rfl),u,az,if_pos (all_eq_true.mpr λd hd=>by have(z,_,rfl):=aG.mp hd;rfl)]
 |gd y=>
  have(J,Q):=l;have L:=We hr H hn y;have ne:∀t:Str,(wyS y.1==t)=af->mB (m2 dEq (mIx (ax 2) (kI 0)) (λ_=>aa _)) (f6 6 [slf es0 a b (gdT B bs) d e E ms,.lst (es.map shD),(Wh.gd y).D,.lst (ord.map D.int)])=aa af:=λt T=>bE (ap rfl rfl (by rw[rM,T]));apply ak
  show a8 (ne "world" (by cases y.1 <;> decide)) (λz=>nomatch z) λ_=>b6 ?_
  apply ak
  show a8 (ne "group" (by cases y.1 <;> decide)) (λz=>nomatch z) λ_=>b6 ?_
  apply ak;show d4 rfl ?_;apply ak;show dq _ Prt.obj (λpre M=>∃(gs:LI0) (G:Sl),M=[.im _,.im _,.im _,.im _,.own (gs.map D.int),G]/\(∀k∈gs,(0<=k/\k<Z es)/\es.getD k.toNat ab≠ab)/\Z gs<=60*Z pre/\∀p∈pre,∀e',Agr gs es e'->p.sure e'=ac) (d8 (d:=gdD B bs y) ?_ rfl) ⟨[],_,rfl,(λk c=>nomatch c),aM _,λp A=>nomatch A⟩ ?_ ?_
  .have(j,m):=om J;change(aV (wyK y) _).bind _=_;simp only[D6 (λ_ _=>D0) (JG _ _) m,az,cx,m];rfl
  .rintro pre p post M ex ⟨gs,G,rfl,v,h2,x⟩;have g:p∈bP B bs y:=by rw[ex];simp
   have N:Z pre<Z (bP B bs y):=by rw[ex];simp
   show(_,rfl,?_);walk_at "nrm";have(js,u,f):=sure_by (M:=[.im _,.im _,.im (Wh.gd y).D,.im _,.own _,.im p.obj]) (fo:=ae 5) (fa:=ag (ae 1) (ag (ae 3) λ_=>aa [])) p (by rw[I];show(n8 hr H) p g) h (by lia) (Q p g) rfl rfl;have:=f.ln;show(_,DD u rfl (by rw[aq,aq];lia),gs++js,_,by rw[aT];rfl,λk c=>?_,?_,λU C e' ha=>?_)
   .rcases bx.mp c with q |q
    .show v k q
    .show f.nn k q
   .rw[aP,aP,fB];lia
   .rcases bx.mp C with q |q
    .show x U q e' ha.left
    .rw[bq.mp q];show f.ok e' ha.right
  .rintro M ⟨gs,G,rfl,v,h2,x⟩;show lV rfl (gs,rfl,v,by lia,λe' ha=>(J,λp A=>x p A e' ha))
def Wg{a b c:LOB}(f:cR a b)(g:cR b c):cR a c:=(g.len.trans f.len,λi=>by
 rcases f.at' i with q |q
 .grind
 .rcases g.at' i with z |z
  .grind
  .grind)
def i5{bs:LLP}:∀(E:LSp) {st:LSp},Tr n B bs (E++st)->Tr n B bs st/\cR (aZ n st) (aZ n (E++st))/\∀x∈E,(aZ n st).getD x.1.1.toNat ab=ab
 | [],st,h=>⟨h,cR.refl _,λx b=>nomatch b⟩
 |y::E,st,h=>by
  have(d,h2):=h;have(a,f,c):=i5 E d;show(a,Wg f (wL h2.t0 h2.op),λx b=>?_)
  rcases a9.mp b with e |e
  .rw[e]
   rcases f.at' (S y.1.1) with q |q
   .lia
   .rw[<- q];show i0 h2.op
  .grind
def Ek{bs:LLP}:∀{st:LSp},Tr n B bs st->∀t:Int,0<=t->(aZ n st).getD t.toNat ab≠ab->∃x∈st,x.1.1=t
 | [],_,t,_,h=>absurd (by
   change(hE n ab).getD t.toNat ab=ab;rw[bp,oj]
   split <;> rfl) h
 |x::st,h,t,t0,hs=>by
  by_cases e:x.1.1=t
  .grind
  .have:=h.2.t0;rw[aZ,c7 _ _ (by lia)]at hs;have(y,a,e):=Ek h.1 t t0 hs
   grind
variable{x:Stp}
def wV{bs:LLP}{E:LSp}(h:Tr n B bs (E++x::st)):(aZ n (E++x::st)).getD x.1.1.toNat ab=aa x.1.2:=by
 have(a,f,_):=i5 E h;have:=a.2.t0;have:=a.2.t1;have e:(aZ n (x::st)).getD x.1.1.toNat ab=aa x.1.2:=fj _ _ (by rw[fA];lia)
 rcases f.at' (S x.1.1) with q |q
 .grind
 .grind
def n9{bs:LLP}:∀{st:LSp},Tr n B bs st->(st.map (·.1.1)).Nodup
 | [],_=>fR
 |x::st,h=>by
  show b9.mpr (λq=>?_,n9 h.1);have(y,a,e):=aG.mp q;have(p,r,rfl):=mn a;have:=wV h.1;rw[e,i0 h.2.op]at this
  grind
def jM{bs:LLP}(h:Tr n B bs st)(b:x∈st):0<=x.1.1/\x.1.1<(n:Int):=by
 have(p,r,rfl):=mn b;have(a,_,_):=i5 p h;show(a.2.t0,a.2.t1)
def oa(st:LSp):LI0:=st.reverse.map (·.1.1)
def J8{bs:LLP}(h:Tr n B bs st)(c:Z es=n)(d:∀t:Int,0<=t->es.getD t.toNat ab≠ab->(aZ n st).getD t.toNat ab≠ab):g6 es (oa st):=by
 subst c;unfold oa;show(λt a=>?_,?_,λt t0 t1 a=>?_)
 .have(x,b,rfl):=aG.mp a;show jM h (hJ.mp b)
 .rw[qM];show pairwise_reverse.mpr ((n9 h).imp λq e=>q e.symm)
 .have(x,b,e):=Ek h t t0 (d t t0 a)
  grind
def nfF(nd:LB0)(ord:LI0):LI0:=(ord.filter λt=>nd.getD t.toNat af)++ord.filter λt=>!nd.getD t.toNat af
def Wi{nd:LB0}(b:∀t∈ord,0<=t/\t<(Z nd:Int))(d:Z ord<=1000):vW [.lst (ord.map D.int),.lst (nd.map D.bl)]=aa (.lst ((nfF nd ord).map D.int)):=by
 have c:=gC (λt:Int=>nd.getD t.toNat af) ord;have h2:=gC (λt:Int=>!nd.getD t.toNat af) ord;show lM ?_;unfold nfF;rw[aT];show congrArg _ (nP (bB (e9 ord D.int _ D.int rfl (by lia) λt a=>dP rfl (dB (aY rfl rfl (j4 (b t a).1 (b t a).2)) rfl) λ_=>rfl)) (bB (e9 ord D.int _ D.int rfl (by lia) λt a=>dP rfl (pK (dB (aY rfl rfl (j4 (b t a).1 (b t a).2)) rfl)) λ_=>rfl)) (by grind))
def g6.nf(h:g6 es ord)(nd:LB0):g6 es (nfF nd ord):=by
 have p:(nfF nd ord).Perm ord:=filter_append_perm _ _;show(λt a=>h.nn t (p.mem_iff.mp a),p.nodup_iff.mpr h.nd,λt t0 t1 a=>p.mem_iff.mpr (h.al t t0 t1 a))
nonrec def Ls:=Option Pr×Wh
abbrev tH(n:Nat)(B:LRu)(bs:LLP):LOB->List Ls->Prop
 | _,[]=>False
 |u,x::l=>match x.1 with
  |none=>l=[]/\Rt n B bs u x.2
  |some z=>opn u z.1=ac/\Rt n B bs (put u z.1.toNat (!z.2)) x.2/\tH n B bs (put u z.1.toNat z.2) l
abbrev prO:Option Pr->D
 |none=>.non
 |some z=>prD z
def dnD(x:Ls):D:=.tup [prO x.1,x.2.D]
structure LnS where
 nd:LB0
 bar:List Pr
 dn:List Ls
 post:LSp
def chs(st:LSp):List Pr:=(st.filter λx=>!x.2.nc).map (·.1)
structure LnI(n:Nat)(B:LRu)(bs:LLP)(st pre:LSp)(q:LnS):Prop where
 sp:st=pre++q.post
 nl:Z q.nd=n
 bl:q.bar.Sublist (chs pre)
 dl:Z q.dn<=Z pre+1
 dt:∀x∈q.dn,∀z,x.1=aa z->∃y∈pre,y.1=z/\y.2=x.2/\y.2.nc=ac
 rl:∀u:LOB,Z u=n->(∀t:Int,0<=t->t<(n:Int)->q.nd.getD t.toNat af=ac->(aZ n q.post).getD t.toNat ab≠ab->u.getD t.toNat ab=(aZ n q.post).getD t.toNat ab)->(∀z∈q.bar,u.getD z.1.toNat ab=aa z.2)->(∀x∈q.dn,∀z,x.1=aa z->opn u z.1=ac)->tH n B bs u q.dn.reverse
def qx(h:z∈chs st):∃x∈st,x.1=z/\x.2.nc=af:=by
 have(x,a,e):=aG.mp h
 grind
def J9(st:LSp):Z (chs st)<=Z st:=by
 unfold chs
 grind
def orS(nd:LB0)(gs:LI0):LB0:=gs.foldl (λnd g=>nd.set g.toNat ac) nd
def El:∀(gs:LI0) (nd:LB0),Z (orS nd gs)=Z nd
 | [],_=>rfl
 |g::gs,nd=>by
  change(orS _ gs).length=_;rw[El gs,iC]
def Em{t:Int}(t0:0<=t):∀(gs:LI0) (nd:LB0),t<(Z nd:Int)->(nd.getD t.toNat af=ac\/t∈gs)->(orS nd gs).getD t.toNat af=ac
 | [],_,_,h=>h.elim id λq=>nomatch q
 |g::gs,nd,hl,h=>by
  show Em t0 gs _ (by rw[iC];show hl) ?_
  by_cases e:t=g
  .show .inl ?_;rw[bp,<- e,kf (by lia)];rfl
  .rcases h with q |q
   .show .inl ?_;rw[bp,List.getElem?_set];split
    .split
     .rfl
     .lia
    .rw[<- bp];show q
   .show .inr (by rcases a9.mp q with z |z;show absurd z e;show z)
def tI{u:LOB}(h:u.getD t.toNat ab=ab):opn u t=ac:=by unfold opn;rw[h];rfl
variable{pre post:LSp}{q:LnS}
def LnI.no{bs:LLP}(h:LnI n B bs st pre q)(e:q.post=x::post)(tr:Tr n B bs (x::post))(hn:q.nd.getD x.1.1.toNat af=af):LnI n B bs st (pre++[x]) {q with post:=post}:=by
 show(by rw[h.sp,e,cG];rfl,h.nl,?_,by rw[aP];have:=h.dl;change Z q.dn<=_+1+1;lia,λy g z b=>?_,λu i ha c d=>h.rl u i (λt t0 t1 hd a=>?_) c d)
 .show h.bl.trans ?_;unfold chs;rw[kg,aT];show xm _ _
 .have(w,f,k):=h.dt y g z b;show(w,b8 _ f,k)
 .have ne:t≠x.1.1:=λq=>by rw[q,hn]at hd;nomatch hd
  rw[e,aZ,c7 _ _ (by lia)]at a ⊢;show ha t t0 t1 hd a
def LnI.ch{bs:LLP}(h:LnI n B bs st pre q)(e:q.post=x::post)(tr:Tr n B bs (x::post))(g:x.2.nc=af):LnI n B bs st (pre++[x]) {q with bar:=q.bar++[x.1],post:=post}:=by
 have l:=tr.2.t0;show(by rw[h.sp,e,cG];rfl,h.nl,?_,by rw[aP];have:=h.dl;change Z q.dn<=_+1+1;lia,λy i z c=>?_,λu j ha a d=>h.rl u j (λt t0 t1 hd b=>?_) (λz hz=>a z (b8 _ hz)) d)
 .unfold chs;rw[kg,aT,qI (by rw[g];rfl)];show h.bl.append (qN _)
 .have(w,f,k):=h.dt y i z c;show(w,b8 _ f,k)
 .by_cases ne:t=x.1.1
  .rw[e,ne,a x.1 (cF _ aA)];show(fj _ _ (by rw[fA];lia)).symm
  .rw[e,aZ,c7 _ _ (by lia)]at b ⊢;show ha t t0 t1 hd b
variable{gs:LI0}
def LnI.nc{bs:LLP}(h:LnI n B bs st pre q)(e:q.post=x::post)(tr:Tr n B bs st)(M:x.2.nc=ac)(H:qw (put (aZ n post) x.1.1.toNat (!x.1.2)) gs λe'=>Rt n B bs e' x.2):LnI n B bs st (pre++[x]) (orS q.nd gs,q.bar,q.dn++[(aa x.1,x.2,)],post):=by
 have p:Tr n B bs (x::post):=by
  rw[h.sp,e]at tr;show(i5 pre tr).1
 have N:=p.2.t0
 have d:=λy a i=>by
  have:=n9 tr;rw[h.sp,e,aT]at this;show(fE.mp this).2.2 y.1.1 (aG.mpr (y,a,rfl)) x.1.1 aA i
 have pr:∀y∈pre,0<=y.1.1:=λy a=>(jM tr (by rw[h.sp];show b8 _ a)).1;show(by rw[h.sp,e,cG];rfl,(El _ _).trans h.nl,?_,by rw[aP,aP];have:=h.dl;change _+1<=_+1+1;lia,λy a z b=>?_,λu J ha L G=>?_)
 .show h.bl.trans ?_;unfold chs;rw[kg,aT];show xm _ _
 .rcases bx.mp a with m |m
  .have(w,j,k):=h.dt y m z b;show(w,b8 _ j,k)
  .cases bq.mp m;cases b;show(x,cF _ aA,rfl,rfl,M)
 .have ne:∀t:Int,0<=t->t≠x.1.1->∀c,(put u x.1.1.toNat c).getD t.toNat ab=u.getD t.toNat ab:=λt t0 q c=>c7 u c (by lia);have nl:=h.nl;rw[mj];show((G _ (cF _ aA) x.1 rfl),H.ok _ (by simp only[cb,cb,J,fA],λg f=>?_),h.rl _ (by rw[cb];show J) (λt t0 t1 hd I=>?_) (λz hz=>?_) λy a z b=>?_)
  .have((l,C),E):=H.nn g f;rw[cb,fA]at C
   by_cases r:g=x.1.1
   .rw[r,fj _ _ (by lia),fj _ _ (by rw[fA];lia)]
   .rw[ne g l r,c7 _ _ (by lia)];rw[c7 _ _ (by lia)]at E;show ha g l C (Em l gs _ (by lia) (.inr f)) E
  .by_cases v:t=x.1.1
   .rw[e,v,fj _ _ (by lia)];show(fj _ _ (by rw[fA];lia)).symm
   .rw[e,aZ,c7 _ _ (by lia)]at I;rw[ne t t0 v,e,aZ,c7 _ _ (by lia)];show ha t t0 t1 (Em t0 gs _ (by lia) (.inl hd)) I
  .have(y,a,i,_):=qx (h.bl.subset hz);rw[<- i,ne _ (pr y a) (d y a),i];show L z hz
  .have(w,j,A,_):=h.dt y a z b;show tI ?_;rw[<- A,ne _ (pr w j) (d w j),A];show i0 (G y (b8 _ a) z b)
def Ka{b C w:Type}{g:D->LS->Option LS}{F:MF3}(f:b->D)(R:C->w->LS->Prop)(J:List b->C->Prop)(all:List b)
 (step:∀pre x post s,all=pre++x::post->J pre s->∃a,J (pre++[x]) a/\∀l M,R s l M->∃ρ1,g (f x) M=aa ρ1/\wp F ρ1 λr=>∃ρ',r=.nx ρ'/\R a l ρ'):∀(E pre:List b) (s:C),all=pre++E->J pre s->∃a,J all a/\∀l M,R s l M->∃ρ',iO g F (E.map f) M=aa (.nx ρ')/\R a l ρ'
 | [],pre,s,e,h=>(s,by rw[e,bN];show h,λl M r=>(M,rfl,r))
 |x::E,pre,s,e,h=>by
  have(s1,n,p):=step pre x E s e h;have(s2,h2,q):=Ka f R J all step E _ s1 (by rw[e,cG];rfl) n;show(s2,h2,λl M r=>?_);have(ρ1,i,o,j,c,rfl,u):=p l M r;have(d,m,v):=q l c u;show(d,?_,v);rw[bG,iO,i,az,j];show m
def En{cn f:Str}{F:MF3}(h:aW cn f (aJ i) M=aa (lsO ds,R,))(k:wp F (M.set i (.deep (R (.fz (.lst ds))))) K):wp (nN i cn f F) M K:=by
 have(o,e,q):=k;show(o,by unfold nN;rw[h,az,wB,az];show e,q)
def Spt.F(B:LRu)(s:Spt):O:=iY (s.S B).tl [lsO (s.es.map shD),.fz (.lst s.st),lsO (s.bs.map eS),.dT (s.S B).gk ((s.S B).gd.map .fz),wsO (wtW s.tw),lsO (s.wt.map wyD),.fz (.lst (s.ms.map mkD))]
def Wj:cZ 0 (.deep (.at l (s.F B))::M)=aa (s.D B):=by
 have k:(s.F B).kn=ac:=by
  dsimp only[Spt.F,Spt.S,lsO,wsO];simp only[List.map,lq,oA,O.kn,O.kns,sO,qF];show Ee _
 have d:(s.F B).toD=s.D B:=by
  dsimp only[Spt.D,Spt.F,Spt.S,Spr.o];simp only[lsO,O.toD,O.toDs,yF,lq]
 change(if (O.at l _).kn=ac then aa (O.at l _).toD else ab)=_;rw[O.kn,k,if_pos rfl,O.toD,d]
def Kb(a:w≠.ch):sI [w.D]=aa w.D:=by
 cases w with
 |ch=>show absurd rfl a
 |wd i=>rfl
 |gp ks=>rfl
 |gd y=>show dk (di (lT (b:=af) (bE (ap rfl rfl (by rw[rM,show(wyS y.1 == "group")=af by cases y.1 <;> decide]))) (λe=>nomatch e) λ_=>rfl))
variable{b:Bool}
def Kc{k:Nat}(h:es.getD k ab=ab)(a:k<Z es):((put es k b).map shD).set k .non=es.map shD:=by
 unfold put;rw[hU,set_set];show nI ?_;rw[bp,b7 a]at h;have h:es[k]=ab:=h;rw[cx,b7 a,h];rfl
def Wk{k:Nat}{c:Bool}:((put es k b).map shD).set k (.bl c)=(put es k c).map shD:=by
 unfold put;rw[hU,set_set,hU];rfl
def Kd(a:fo M=aa (s.D B))(ha:fa M=aa [.lst (es.map shD),w.D,.lst (ord.map D.int)])(h:o_4 [s.D B,.lst (es.map shD),w.D,.lst (ord.map D.int)]=aa (gs.map D.int)):iA "Seeking" "grounds" o_4 fo fa M=aa (gs.map D.int):=by
 unfold iA;rw[a,az];rw[wJ B s]at h ⊢;change(if "Seeking"="Seeking" /\ List.contains (spN++(["paper","count","ended"]:LSt)) "grounds"=af then (fa M).bind λas=>(o_4 (slf s.es _ _ _ _ _ _ s.ms::as)).bind λB=>if B.all D.flat then aa B else ab else ab)=_;rw[if_pos (rfl,rfl),ha,az,h,az,if_pos (all_eq_true.mpr λd hd=>by have(z,_,rfl):=aG.mp hd;rfl)]
variable{c:Nat}
def ground(hr:∀r∈B,RuK n r)(hz:Z B<=1000)(hn:n<=60)(h:SpJ n c W6 B s)(a:Z es=n)(b:g6 es ord)(d:Rt n B s.bs es w):∃gs:LI0,o_4 [s.D B,.lst (es.map shD),w.D,.lst (ord.map D.int)]=aa (gs.map D.int)/\qw es gs λe'=>Rt n B s.bs e' w:=by
 rw[wJ];show Wf a hn hr h.bk (fw.of hr hz h.ms) h.ms b d
structure jN(n:Nat)(B:LRu)(bs:LLP)(st:LSp)(bar:List Pr)(dn:List Ls):Prop where
 bl:bar.Sublist (chs st.reverse)
 dl:Z dn<=n+1
 dt:∀x∈dn,∀z,x.1=aa z->∃y∈st,y.1=z/\y.2=x.2/\y.2.nc=ac
 rl:∀u:LOB,Z u=n->(∀z∈bar,u.getD z.1.toNat ab=aa z.2)->(∀x∈dn,∀z,x.1=aa z->opn u z.1=ac)->tH n B bs u dn
def tJ(h:Tr n B s.bs st):Z st<=n:=by
 have:=sZ (n9 h) λx a=>by
  have(y,b,rfl):=aG.mp a;show jM h b
 rwa [aq]at this
def Wl(hr:∀r∈B,RuK n r)(hz:Z B<=1000)(hn:n<=60)(h:SpJ n c W6 B s)(t:TrS n B s st)(hw:Rt n B s.bs s.es w):∃(bar:List Pr) (dn:List Ls),(∀l,CI l [w.D] (s.S B).o=aa (s.F B,.tup [eS bar,.lst (dn.map dnD)],))/\jN n B s.bs st bar dn:=by
 have hwc:w≠.ch:=λe=>by rw[e]at hw;show hw
 have tr:=t.tr;have tl:=tJ tr;have Y:=t.es;have A:=fA n st;have C:=J8 tr A λ_ _ q=>q;have hol:=C.len;rw[Y]at hw;have(gs,e1,e2):=ground hr hz hn h A C hw;have hgl:=e2.ln
 have key:=Ka (g:=cV (bv (ay 3) (bv (ay 4) df))) (F:=(ai (aX 9 (mIx (ax 3) (kI 0)))
  (ai (bi (dL (bO (mIx (ax 6) (ae 9))) (mB (m2 dIs (ae 4) kN))) (dh 7 (ae 3)) (bi (bO (mIx (ax 6) (ae 9))) (ai (dh 8 (bn (ag (ae 3) (ag (av sI (ag (ae 4) nZ)) nZ))))
  (ai (gx 2 (ae 9) (kH (mIx (ax 3) (kI 1))))
  (bS (aS (aI (iA "Seeking" "grounds" o_4 _ (ag (cZ 2) (ag (ae 4) (ag (av vW (ag (ae 5) (ag (cZ 6) nZ))) nZ)))))) (ay 10) (gx 6 (ae 10) (kBl ac))))) bL))
  (gx 2 (ae 9) kN)))) stD (λq l M=>∃Q T U j,M=[.deep (.at l (s.F B)),.im w.D,.own ((aZ n q.post).map shD),Q,T,.im (.lst ((oa st).map D.int)),.own (q.nd.map D.bl),.own (q.bar.map prD),.own (q.dn.map dnD),U,j]) (LnI n B s.bs st) st (by
  rintro pre x post q ex y;have E:=append_cancel_left (y.sp.symm.trans ex);have p:Tr n B s.bs (x::post):=by rw[ex]at tr;show(i5 pre tr).1
  have x0:=p.2.t0;have x1:=p.2.t1;have hpn:=i0 p.2.op;have G:=fA n post;have J:=y.nl;have m:=j4 x0 (by rw[J];show x1);have hun:=Kc (b:=x.1.2) hpn (by rw[G];lia);have hpl:Z pre<Z st:=by rw[ex];simp
  have hbl:=y.bl.length_le;have hcl:=J9 pre;have hdl:=y.dl
  cases I:q.nd.getD x.1.1.toNat af with
  |false=>
   show(_,y.no E p I,?_);rintro l M ⟨Q,T,U,j,rfl⟩;rw[I]at m;show(_,rfl,?_);apply ak;show bo rfl ?_;apply ak;show a8 (b:=af) ?_ (λz=>nomatch z) λ_=>?_
   .unfold dL;rw[dB (aY rfl rfl m) rfl];rfl
   .show a8 (dB (aY rfl rfl m) rfl) (λz=>nomatch z) λ_=>b6 ?_;show pT rfl rfl rfl x0 (by rw[aq,E,aZ,cb,G];show x1) (_,rfl,.im (prD x.1),.im x.2.D,.im (.int x.1.1),j,?_);rw[E,aZ,hun]
    rfl
  |true=>
   rw[I]at m
   cases i:x.2.nc with
   |false=>
    show(_,y.ch E p i,?_)
    have hxd:x.2.D=.non:=by
     rcases p.2.ok with⟨a,_⟩ |⟨a,_⟩
     .rw[a];rfl
     .rw[a]at i;nomatch i
    rintro l M ⟨Q,T,U,j,rfl⟩;show(_,rfl,?_);rw[hxd];apply ak;show bo rfl ?_;apply ak;show a8 (jZ (dB (aY rfl rfl m) rfl) rfl) (λ_=>?_) λz=>nomatch z;show f9 rfl rfl (by rw[aq];lia) ?_;show pT rfl rfl rfl x0 (by rw[aq,E,aZ,cb,G];show x1) (_,rfl,.im (prD x.1),.im .non,.im (.int x.1.1),j,?_);rw[E,aZ,hun,aT]
    rfl
   |true=>
    rcases p.2.ok with⟨a,_⟩ |⟨_,hR⟩
    .rw[a]at i;nomatch i
    have H:Z (put (aZ n post) x.1.1.toNat (!x.1.2))=n:=by rw[cb,G]
    have L:g6 (put (aZ n post) x.1.1.toNat (!x.1.2)) (oa st):=by
     show J8 tr H λu u0 hu=>?_;rw[ex]at tr ⊢;have(_,f,_):=i5 pre tr
     have:(aZ n (x::post)).getD u.toNat ab≠ab:=by
      rw[aZ]
      by_cases eu:u=x.1.1
      .rw[eu,fj _ _ (by rw[G];lia)];show λq=>nomatch q
      .rw[c7 _ _ (by lia)]at hu ⊢;show hu
     rcases f.at' (S u) with z |z
     .show absurd z this
     .rw[z];show this
    have(js,e3,e4):=ground hr hz hn h H (L.nf q.nd) hR;show(_,y.nc E tr i e4,?_)
    have hxn:dIs x.2.D .non=aa (.bl af):=by
     cases hx2:x.2 with
     |ch=>rw[hx2]at i;nomatch i
     | _=>rfl
    have hxc:x.2≠.ch:=λq=>by rw[q]at i;nomatch i
    rintro l M ⟨Q,T,U,j,rfl⟩;show(_,rfl,?_);apply ak;show bo rfl ?_;apply ak;show a8 (jZ (dB (aY rfl rfl m) rfl) (bE (ap rfl rfl hxn))) (λz=>nomatch z) λ_=>?_;show a8 (dB (aY rfl rfl m) rfl) (λ_=>?_) λz=>nomatch z;apply ak;show f9 (cw (aj rfl (aj (aE rfl (Kb hxc)) rfl))) rfl (by rw[aq];lia) ?_;apply ak;show pT rfl rfl rfl x0 (by rw[aq,E,aZ,cb,G];show x1) ?_;rw[E,aZ,Wk];show dq js D.int (λpre M=>∃v,M=[.deep _,.im _,.own _,.im _,.im _,.im _,.own ((orS q.nd pre).map D.bl),.own _,.own _,.im _,v]) (d8 (bB (Kd Wj (aj rfl (aj rfl (aj (aE rfl (Wi (by rw[J];show(λu hu=>by have:=C.nn u hu;rwa [A]at this)) (by lia))) rfl))) e3)) rfl) (_,rfl) ?_ ?_
    .rintro pr g po M exj ⟨v,rfl⟩;have((g0,N),_):=e4.nn g (by rw[exj];simp);rw[H]at N;show(_,rfl,?_);show pT rfl rfl rfl g0 (by rw[aq,El,J];show N) (.im (.int g),?_);rw[show D.bl ac=D.bl ac from rfl,<- hU];unfold orS;rw[eU];rfl
    .rintro M ⟨v,rfl⟩;show pT rfl rfl rfl x0 (by rw[aq,cb,G];show x1) (_,rfl,.im (prD x.1),.im x.2.D,.im (.int x.1.1),v,?_);rw[Kc hpn (by rw[G];lia),aT];rfl) st [] (mkS n gs,[],[(ab,w,)],st) rfl (rfl,qu _ _,qN _,aM _,(λx i z ez=>by rw[bq.mp i]at ez;nomatch ez),λu ul ha _ _=>(rfl,e2.ok u (by rw[ul,A],λg hg=>?_)))
 .have(q,y,kq):=key
  have hpe:q.post=[]:=by
   have:=y.sp;show self_eq_append_right.mp this
  show(q.bar.reverse,q.dn.reverse,λl=>?_,?_,?_,?_,?_)
  .apply fO;apply ak;show d4 (sN j8) ?_;change wp _ [.deep _,.im w.D,.own (s.es.map shD),.no,.no,.no,.no,.no,.no,.no,.no] _;rw[Y];apply ak;show bo (d:=.lst ((oa st).map D.int)) (bB ?_) ?_
   .change bg 2 [] _ _ _ _ _=_;have:(s.S B).st=st.reverse.map stD:=t.sv;unfold oa;rw[map_map];show fh st.reverse stD _ ((sN Dv).trans (by rw[this])) (by rw[li];lia) λx _=>eM rfl rfl rfl
   apply ak;show d4 (d:=(mkS n gs).map D.bl) ?_ ?_
   .have hmk:=IS n gs (by lia) (by lia) (by lia);show vm (aj (aE rfl (d9 _ shD)) (aj (bB (Kd Ef (aj rfl (aj rfl (aj rfl rfl))) e1)) rfl)) (nB (by rw[A];show hmk))
   apply ak;show d4 rfl ?_;apply ak;show d4 (aj (cw (aj rfl (aj (aE rfl (Kb hwc)) rfl))) rfl) ?_;apply ak;show En Dv ?_;have(ρ',e5,Q,T,U,j,rfl):=kq l _ (_,_,_,_,rfl);show(.nx [.deep (.at l (s.F B)),.im w.D,.own ((aZ n q.post).map shD),Q,T,.im (.lst ((oa st).map D.int)),.own (q.nd.map D.bl),.own (q.bar.map prD),.own (q.dn.map dnD),U,j],?_,?_)
   .change(lZ _ _).bind _=_;rw[QR (aj ((k6 rfl).trans (by change aa (D.lst s.st)=_;rw[t.sv])) rfl),az,i7];show e5
   .show iX ?_ (_,rfl,rfl,rfl);show cw (aj (bB ?_) (aj (bB ?_) rfl))
    .change aa (q.bar.map prD).reverse=_;rw[qM]
    .change aa (q.dn.map dnD).reverse=_;rw[qM]
  .unfold chs;have:=y.bl.reverse;unfold chs at this
   rwa [<- qM,<- filter_reverse]at this
  .rw[li];have:=y.dl;lia
  .intro x i z ez;show y.dt x (hJ.mp i) z ez
  .intro u ul hb hc;show y.rl u ul (λt t0 t1 _ ht=>?_) (λz hz=>hb z (hJ.mpr hz)) λx i=>hc x (hJ.mpr i);rw[hpe]at ht;have(x,i,_):=Ek (B:=B) (bs:=s.bs) (st:=[]) trivial t t0 ht
   nomatch i
 .have((g0,N),gn):=e2.nn g hg;rw[A]at N;show ha g g0 N ((me g0 N).mpr hg) gn
nonrec def Qn(i:Nat)(S:LSp):List (Nat×Stp):=(dE i S).filter λp=>!p.2.2.nc
def mf(x:Stp)(S:LSp):chs (x::S)=if x.2.nc then chs S else x.1::chs S:=by
 unfold chs;rw[filter_cons]
 cases x.2.nc <;> rfl
def Eo:∀(S:LSp) (i j:Nat) (p:Nat×Stp),(Qn i S)[j]?=aa p->∃A W6,S=A++p.2::W6/\p.1=i+Z A/\chs A=(chs S).take j/\chs (p.2::W6)=(chs S).drop j/\p.2.2.nc=af
 | [],_,_,_,h=>by cases h
 |x::S,i,j,p,h=>by
  have h:((_::dE _ S).filter λp=>!p.2.2.nc)[j]?=aa p:=h;rw[filter_cons]at h
  cases f:x.2.nc with
  |true=>
   rw[if_neg (by simp[f])]at h;have(A,W6,a,b,c,d,e):=Eo S _ j p h;show(x::A,W6,by rw[a];rfl,by rw[b,cf];lia,?_,?_,e)
   .rw[mf,mf,if_pos f,if_pos f];show c
   .rw[mf x,if_pos f];show d
  |false=>
   rw[if_pos (by simp[f])]at h
   cases j with
   |zero=>
    cases h
    show([],S,rfl,rfl,rfl,rfl,f)
   |succ j=>
    have(A,W6,a,b,c,d,e):=Eo S _ j p h;show(x::A,W6,by rw[a];rfl,by rw[b,cf];lia,?_,?_,e)
    .rw[mf,mf,if_neg (by rw[f];show bK),if_neg (by rw[f];show bK),c];rfl
    .rw[mf x,if_neg (by rw[f];show bK),d];rfl
def Ke:∀(S:LSp) (i:Nat),(Qn i S).map (·.2.1)=chs S
 | [],_=>rfl
 |x::S,i=>by
  have a:=Ke S (i+1);change((_::dE _ S).filter λp=>!p.2.2.nc).map _=_;rw[filter_cons,mf]
  grind
def Kf(z y:Pr):isE (prD y) (prD z)=decide (z=y):=by
 unfold isE;rw[show deq 19 _ _=aa (z.1==y.1 && (z.2==y.2 && ac))from rfl]
 grind
def Wm{a b:List Pr}{y:Pr}(h:y∉a):gV (.lst ((a++y::b).map prD)) (prD y)=aa (.int (Z a:Nat)):=by
 have ha:dC (prD y) ((a++y::b).map prD)=aa ac:=by
  have:=Jx y (a++y::b);replace this:((dC _ _).map D.bl)=_:=this
  simp_all
 change(if dC _ _=aa ac then aa _ else ab)=_;rw[if_pos ha];clear ha
 congr 3
 induction a with
 |nil=>rw[oA,bG,qL,Kf,decide_eq_true rfl];rfl
 |cons z a c=>
  rw[lq,bG,qL,Kf,decide_eq_false (λe=>h (by grind))]
  grind
structure qy(S:LSp)(bar:List Pr)(A:LSp)(c:Stp)(W6:LSp):Prop where
 e:S=A++c::W6
 nc:c.2.nc=af
 br:∃b0 z,bar=b0++[z]/\b0.Sublist (chs A)/\z∈chs (c::W6)/\(b0=[]->chs A=[])/\∀y,b0.getLast?=aa y->∃A',chs A=A'++[y]
def Wn(a:List Pr)(y z:Pr):atI ((a++[y]++[z]).map prD) (-2)=aa (prD y):=by
 have b:Z ((a++[y]++[z]).map prD)=Z a+2:=by simp
 unfold atI;rw[show ixN ((a++[y]++[z]).map prD).length (-2)=aa a.length by rw[b];unfold ixN;rw[if_neg (by lia)];simp;lia];simp
variable{S:LSp}
def Wo{bar:List Pr}(U:s.st=S.map stD)(hok:∀x∈S,x.2=.ch\/x.2.nc=ac)(hl:Z S<=1000)(nd:(chs S).Nodup)(G:bar.Sublist (chs S))(I:bar≠[]):∃A c W6,qy S bar A c W6/\∀l,CK l [eS bar] (s.F B)=aa (s.F B,.int (Z A:Nat),):=by
 have Q:=Ke S 0;have hql:Z (Qn 0 S)=Z (chs S):=by rw[<- Q,aq]
 have hcl:=J9 S
 obtain⟨j,hj,b0,z,a,h1,h2,h3,h4,h5⟩:∃j,j<Z (chs S)/\∃b0 z,bar=b0++[z]/\b0.Sublist ((chs S).take j)/\z∈(chs S).drop j/\(b0=[]->(chs S).take j=[])/\(∀y,b0.getLast?=aa y->∃A',(chs S).take j=A'++[y])/\∀M:LS,M[1]?=aa (.im (eS bar))->M[3]?=aa (.im (.lst ((chs S).map prD)))->vIf (mB (m2 dEq (av bW (ag (ae 1) nZ)) (kI 1))) (kI 0) (m2 da (m2 gV (ae 3) (mIx (ax 1) (m1 rB (kI 2)))) (kI 1)) M=aa (.int (j:Nat)):=by
  have v1:∀M:LS,M[1]?=aa (.im (eS bar))->ae 1 M=aa (eS bar):=λM e=>by unfold ae;rw[e]
  have v3:∀M:LS,M[3]?=aa (.im (.lst ((chs S).map prD)))->ae 3 M=aa (.lst ((chs S).map prD)):=λM e=>by unfold ae;rw[e]
  have c1:∀M:LS,M[1]?=aa (.im (eS bar))->ax 1 M=aa (bar.map prD):=λM e=>by unfold ax;rw[e];rfl
  obtain⟨b0,z,a⟩:∃b0 z,bar=b0++[z]:=(_,_,(dropLast_concat_getLast I).symm)
  cases C:b0.getLast? with
  |none=>
   have e0:b0=[]:=getLast?_eq_none_iff.mp C;subst e0;have hz:z∈chs S:=G.subset (by rw[a];simp);show(0,length_pos_of_mem hz,[],z,a,nil_sublist _,hz,λ_=>rfl,(λy hy=>nomatch hy),λM n r=>?_)
   show lT (b:=ac) (bE (ap (aE (aj (v1 M n) rfl) (d9 bar prD)) rfl (by rw[a];rfl))) (λ_=>rfl) λq=>nomatch q
  |some y=>
   obtain⟨m,e0⟩:∃m,b0=m++[y]:=by
    have(m,rfl):=getLast?_eq_some_iff.mp C;show(m,rfl)
   subst e0;rw[a]at G;obtain⟨C1,w,hC,s1,s2⟩:∃r1 r2,chs S=r1++r2/\(m++[y]).Sublist r1/\[z].Sublist r2:=append_sublist_iff.mp G;have(g,D2,hD,s3,s4):=append_sublist_iff.mp s1;have(h,N,rfl):=mn (singleton_sublist.mp s4);have f:chs S=(g++h)++y::(N++w):=by rw[hC,hD];simp
   have J:y∉g++h:=λq=>by
    rw[f]at nd;show(fE.mp nd).2.2 y q y aA rfl
   have htk:(chs S).take (Z (g++h)+1)=(g++h)++[y]:=by rw[f,take_append,lh (by lia)];simp
   have H:(chs S).drop (Z (g++h)+1)=N++w:=by rw[f,drop_append,tU (by lia)];simp
   show(Z (g++h)+1,?_,m++[y],z,a,?_,?_,(λq=>by simp at q),(λu Y=>(g++h,?_)),λM n r=>?_)
   .rw[f];have:=length_pos_of_mem (singleton_sublist.mp s2);simp;lia
   .rw[htk];show(s3.trans (xm _ _)).append (qN _)
   .rw[H];show cF _ (singleton_sublist.mp s2)
   .rw[htk];rw[getLast?_concat]at Y;cases Y;rfl
   .have E:dEq (.int (Z bar:Nat)) (.int 1)=aa (.bl af):=by
     rw[kS,a];simp;lia
    show lT (b:=af) (bE (ap (aE (aj (v1 M n) rfl) (d9 bar prD)) rfl E)) (λq=>nomatch q) λ_=>?_;show(ap (ap (v3 M r) (aY (c1 M n) rfl (by rw[a];show Wn m y z)) (by rw[f];show Wm J)) rfl dR).trans ?_
    congr 2
 obtain⟨p,v⟩:∃p,(Qn 0 S)[j]?=aa p:=(_,b7 (by lia));have(A,B',n,e2,r,e4,e5):=Eo S 0 j p v;show(A,p.2,B',(n,e5,b0,z,a,by rw[r];show h1,by rw[e4];show h2,(by rw[r];show h3),by rw[r];show h4),λl=>?_);apply fO;apply ak;have L:pD (aW "Seeking" "steps" (aJ 0)) [.deep (.at l (s.F B)),.im (eS bar),.no,.no]=aa (.lst (S.map stD)):=(k6 rfl).trans (by rw[U]);show bo (d:=.lst ((Qn 0 S).map λp=>.int (p.1:Nat))) (bB (e9 (dE 0 S) (λp=>D.tup [.int p.1,stD p.2]) _ _ (by rw[<- tz];show wj (aj L rfl)) (by rw[tB];lia) λp v=>?_)) ?_
 .show dP rfl (bE (ap rfl rfl ?_)) λ_=>rfl;have hx:=hok p.2 (dU (k9 v));change dIs p.2.2.D .non=_
  cases e:p.2.2 with
  |ch=>rfl
  |gd y=>rfl
  |gp ks=>rfl
  |wd i=>rw[e]at hx;rcases hx with q |q <;> nomatch q
 apply ak;show bo (d:=.lst ((chs S).map prD)) (bB ?_) ?_
 .rw[<- Q,map_map];show fh (Qn 0 S) (λp=>D.int (p.1:Nat)) _ rfl (by lia) λp v=>eM rfl rfl ?_;have T:=k9 (cg.mp v).1;have hlt:=(cM.mp T).1;show aY (d8 (d:=stD p.2) (aY (d8 (d:=.lst (S.map stD)) ((k6 rfl).trans (by rw[U])) rfl) rfl ?_) rfl) rfl rfl;rw[lN ((0,ac,),.ch,) (by lia) (by lia),cL,bp,T];rfl
 show iX (d:=.int (Z A:Nat)) (aY rfl (h5 _ rfl rfl) ?_) (_,rfl,rfl,rfl);rw[lN (0,((0,ac,),.ch,),) (by lia) (by lia),cL,bp,v];change aa (D.int (p.1:Nat))=_;rw[e2,jR]
def clr(es:LOB)(E:LSp):LOB:=E.foldl (λes x=>es.set x.1.1.toNat ab) es
def Kg:∀(E:LSp) (es:LOB),Z (clr es E)=Z es
 | [],_=>rfl
 |x::E,es=>by
  change(clr _ E).length=_;rw[Kg E,iC]
def Kh{t:Nat}{b:Bool}:∀(E:LSp) (es:LOB),(∀x∈E,x.1.1.toNat≠t)->clr (put es t b) E=put (clr es E) t b
 | [],_,_=>rfl
 |x::E,es,h=>by
  change clr ((put es t b).set _ _) E=put (clr _ E) t b;rw[<- Kh E _ λy a=>h y (bj _ a)];unfold put;rw[set_comm _ _ (h x aA).symm]
def Ki{n:Nat}{B:LRu}{bs:LLP}{st:LSp}:∀E:LSp,Tr n B bs (E++st)->clr (aZ n (E++st)) E.reverse=aZ n st
 | [],_=>rfl
 |y::E,h=>by
  have y0:=h.2.t0;have c:=h.2.t1;rw[i8];unfold clr;rw[eU];change(clr (put (aZ n (E++st)) y.1.1.toNat y.1.2) E.reverse).set _ ab=_;rw[Kh _ _ λx a e=>?_,(Ki E h.1)]
  .unfold put;rw[set_set];show nI ?_;have e:=(i5 _ h).2.2 y aA;have b:S y.1.1<Z (aZ n st):=by rw[fA];lia
   rw[bp,b7 b]at e;rw[b7 b];show congrArg aa e
  .have a:=hJ.mp a;have:=jM h.1 (b8 st a);show(b9.mp (n9 h)).1 (aG.mpr (x,b8 _ a,?_));change x.1.1=y.1.1
   lia
def Wp{f:Xe}{g:Xa}{a:LS}(h:f M=aa (d,ρ1,))(h':g ρ1=aa (ds,a,)):bM f g M=aa (d::ds,a,):=by
 unfold bM;rw[h];change(g ρ1).map _=_;rw[h'];rfl
def Spt.bk(n:Nat)(s:Spt)(A:LSp):Spt:={s with es:=aZ n A.reverse,st:=A.map stD,wt:=[]}
variable{A W8:LSp}
def Wq(tr:Tr n B s.bs (A++W8).reverse)(f:s.st=(A++W8).map stD)(b:s.es=aZ n (A++W8).reverse)(l:Addr):CM l [.int (Z A:Nat)] (s.F B)=aa (((s.bk n A).S B).o,.non,):=by
 have h:((A++W8).drop (HT.sIx (A++W8).length 0 (aa (Z A)))).take (HT.sIx (A++W8).length (A++W8).length ab-HT.sIx (A++W8).length 0 (aa (Z A)))=W8:=by
  rw[HT.sIx_nat,HT.sIx_none,aP,show min A.length _=A.length by lia,drop_left' rfl,show A.length+W8.length-A.length=W8.length by lia,take_length]
 have i:((A++W8).drop (HT.sIx (A++W8).length 0 ab)).take (HT.sIx (A++W8).length (A++W8).length (aa (Z A))-HT.sIx (A++W8).length 0 ab)=A:=by
  rw[HT.sIx_nat,HT.sIx_none,aP,show min A.length _=A.length by lia,drop_zero,Nat.sub_zero,take_left' rfl]
 rw[mj]at tr b;have a:=Ki W8.reverse tr;rw[i7,<- b]at a;have c:Z s.es=n:=by rw[b,fA]
 apply fO;apply ak
 show dq W8 stD (λpre M=>∃d e,M=[.deep (.at l (({s with es:=clr s.es pre}:Spt).F B)),.im _,d,e]) (d8 (bB ((j6 ((k6 rfl).trans (by rw[f])) rfl rfl).trans (by rw[h]))) rfl) (_,_,rfl) ?_ ?_
 .rintro pre y post M ex ⟨d,e,rfl⟩;have g:=jM tr (b8 A.reverse (hJ.mpr (by rw[ex];simp:y∈W8)));show(_,rfl,?_);show JO rfl rfl rfl g.1 (by rw[aq,Kg,c];show g.2) (.im (prD y.1),.im y.2.D,?_);have j:clr s.es (pre++[y])=(clr s.es pre).set y.1.1.toNat ab:=by unfold clr;rw[eU];rfl
  rw[j];dsimp only[Spt.F];rw[hU];rfl
 .rintro M ⟨d,e,rfl⟩;rw[a];apply ak;show gX (x:=lsO (A.map stD)) ?_ rfl rfl ?_
  .show nQ ((j6 ((k6 rfl).trans ?_) rfl rfl).trans (by rw[i]));rw[f]
  show gX (nQ rfl) rfl rfl (_,rfl,rfl,rfl)
def lnD(bar:List Pr)(dn:List Ls):D:=.tup [eS bar,.lst (dn.map dnD)]
def Spt.ln(s:Spt)(bar:List Pr)(dn:List Ls):Spt:={s with pp:=s.pp++[lnD bar dn]}
def wW{bar:List Pr}(tr:Tr n B s.bs st)(a:bar.Sublist (chs st.reverse)):cX n bar:=by
 show(λz hz=>?_,?_)
 .have(y,c,e,_):=qx (a.subset hz);rw[<- e];show jM tr (hJ.mp c)
 .show(a.map (·.1)).nodup ?_;unfold chs;rw[map_map];have b:(st.reverse.map (·.1.1)).Nodup:=by rw[qM];show pairwise_reverse.mpr ((n9 tr).imp λq e=>q e.symm)
  show(ot.map _).nodup b
inductive ClO(n:Nat)(B:LRu)(s:Spt)(st:LSp):O->Prop
 |fin {dn:List Ls}:jN n B s.bs st [] dn->ClO n B s st (({s.ln [] dn with en:=ac}:Spt).F B)
 |bk {bar:List Pr} {dn:List Ls} {A W8:LSp} {x:Stp}:jN n B s.bs st bar dn->qy st.reverse bar A x W8->ClO n B s st (((((s.ln bar dn).bk n A).bar bar).S B).o)
variable{c0:Nat}
def Wr(hr:∀r∈B,RuK n r)(hz:Z B<=1000)(hn:n<=60)(h:SpJ n c W6 B s)(g:d6 c0 B.length s.bs s.tw)(C:c0+3840<16777216)(v:Z s.bs<=60000)(E:Z s.pp<=60000)(t:TrS n B s st)(G:Rt n B s.bs s.es w):∃o,(∀l,qj l [w.D] (s.S B).o=aa (o,.non,))/\ClO n B s st o:=by
 have(bar,dn,i,k):=Wl hr hz hn h t G;have tl:=tJ t.tr;have tr:=t.tr
 by_cases f:bar=[]
 .subst f;show(_,λl=>?_,.fin k);apply fO;apply ak;show jL (fN rfl rfl (dN rfl rfl) rfl (i l)) ?_;apply ak;show sP rfl rfl (by lia) ?_;show a8 rfl (λq=>nomatch q) λ_=>(gX (sQ rfl) rfl rfl (_,rfl,rfl,rfl))
 .have d:=t.sv
  have (A,x,W8,pk,m):=Wo (s:=s.ln bar dn) d (λy H=>by
   have(p,r,u):=mn (hJ.mp H);rw[u]at tr
   rcases(i5 p tr).1.2.ok with⟨a,_⟩ |⟨a,_⟩
   .show .inl a
   .show .inr a) (by rw[li];lia) ((wW tr (qN _)).pd) k.bl f
  have j:st=(A++x::W8).reverse:=by rw[<- pk.e,i7]
  show(_,λl=>?_,.bk k pk);apply fO;apply ak;show jL (fN rfl rfl (dN rfl rfl) rfl (i l)) ?_;apply ak;show sP rfl rfl (by lia) ?_;show a8 (b:=ac) (dB (aY rfl rfl rfl) ?_) (λ_=>?_) λq=>nomatch q
  .cases bar with
   |nil=>show absurd rfl f
   |cons z b=>rfl
  apply ak;show iW (fN rfl rfl (ρ1:=[.deep _,.im w.D,.im (lnD bar dn)]) ?_ rfl (Wq (s:=s.ln bar dn) (by rw[<- j];show tr) (by rw[<- pk.e];show d) (by rw[<- j];show t.es) l)) ?_
  .show Wp (fN rfl rfl (dN rfl rfl) rfl (m l)) rfl
  show iW (fN rfl rfl (dN rfl rfl) rfl (VD _ bar g C h.bk (wW tr k.bl) hn (by change Z B+Z s.bs<_;lia) (by change 0<_;lia))) (_,rfl,rfl,rfl)
abbrev dg:D->Nat
 |.tup [_,.non]=>1
 | _=>2
abbrev vl:Nat->LD->Nat
 | 0,_=>0
 | _+1,[]=>0
 |k+1,d::ds=>dg d*3 ^ k+vl k ds
def Kj(d:D):1<=dg d/\dg d<=2:=by unfold dg;split <;> show(by decide,by decide)
def tK:∀(k:Nat) (ds:LD),vl k ds<3 ^ k
 | 0,_=>Nat.one_pos
 |k+1,[]=>Nat.pow_pos (by decide)
 |k+1,d::ds=>by
  have a:=tK k ds;have h2:=tY (3 ^ k) (Kj d).2;simp only[vl,Nat.pow_succ]
  lia
def Kk:∀(k:Nat) (a:LD) (d:D) (b:LD),Z a<k->vl k a<vl k (a++d::b)
 | 0,_,_,_,h=>absurd h (iD _)
 |k+1,[],d,b,_=>by
  have c:=tY (3 ^ k) (Kj d).1;have h2:0<3 ^ k:=Nat.pow_pos (by decide);change 0<dg d*3 ^ k+vl k b
  lia
 |k+1,e::a,d,b,h=>Nat.add_lt_add_left (Kk k a d b (Nat.lt_of_succ_lt_succ h)) _
def Kl:∀(k:Nat) (a:LD) (x y:D) (b c:LD),Z a<k->dg x=1->dg y=2->vl k (a++x::b)<vl k (a++y::c)
 | 0,_,_,_,_,_,h,_,_=>absurd h (iD _)
 |k+1,[],x,y,b,c,_,hx,hy=>by
  have d:=tK k b;change dg x*3 ^ k+vl k b<dg y*3 ^ k+vl k c;rw[hx,hy]
  lia
 |k+1,e::a,x,y,b,c,h,hx,hy=>Nat.add_lt_add_left (Kl k a x y b c (Nat.lt_of_succ_lt_succ h) hx hy) _
abbrev aK(B:LRu)(W8:Nat)(s:Spt):OD×Spt:=stF B W8 (Me W8 s+1) s
def nv(n:Nat)(B:LRu)(W8:Nat)(s:Spt):Nat:=vl n (aK B W8 s).2.st
structure Hd(n c0 W8 W6:Nat)(B:LRu)(s:Spt)(st:LSp):Prop where
 J:SpJ n W8 W6 B s
 tw:d6 (c0+3840*Z s.bs) B.length s.bs s.tw
 t:TrS n B s st
 pp:Z s.pp=Z s.bs
 en:s.en=af
 nb:Z s.bs<=nv n B W8 s
structure Par(n c0 W8 W6:Nat)(B:LRu):Prop where
 hr:∀r∈B,RuK n r
 hz:Z B<=250
 hn:n<=60
 hC:c0+3840*3 ^ n<=W8
 hB:n*(W8+1)+n+Z B+3<=W6
 h2:W6+W8<16777216
structure Se(n c0 W8 W6:Nat)(B:LRu)(s s1:Spt)(st st1:LSp):Prop where
 J:SpJ n W8 W6 B s1
 t:TrS n B s1 st1
 xt:∃xt,st1=xt++st/\∀x∈xt,x.2.nc=ac
 bs:s1.bs=s.bs
 tw:s1.tw=s.tw
 pp:s1.pp=s.pp
 ct:s1.ct=s.ct
 en:s1.en=s.en
variable{W8:Nat}
def Hd.se(P:Par n c0 W8 W6 B)(h:Hd n c0 W8 W6 B s st):∃st1,Se n c0 W8 W6 B s (aK B W8 s).2 st st1/\∀w,(aK B W8 s).1=aa w->∃wh:Wh,w=wh.D/\wh.nc=ac/\Rt n B s.bs (aK B W8 s).2.es wh:=by
 have hz:=P.hz;have a:=Eh P.hr (by lia) _ s h.J (c8 _);have((xt,g,i),b,c,d,e,f):=wO P.hr (by lia) P.hn _ s h.J (tG P.hr _ _ h.J (TrM.refl h.t));show(_,(a.ok,g,(xt,rfl,i),a.bs,b,c,d,e),f)
def Ws(P:Par n c0 W8 W6 B)(h:Hd n c0 W8 W6 B s st)(l:Addr):sK l [] (s.S B).o=aa (((aK B W8 s).2.S B).o,(aK B W8 s).1.getD .non,):=by
 have hz:=P.hz;have mB:=h.J.mB;have h2:=P.h2;show V1 P.hr (by lia) P.hn P.h2 h.J (c8 _) (by grind)
def Km{b:List Pr}{bs:LLP}:∀{st:LSp},Tr n B bs st->Tr n B (bs++[b]) st
 | [],_=>trivial
 |x::st,h=>by
  show(Km h.1,h.2.t0,h.2.t1,h.2.op,?_)
  rcases h.2.ok with q |⟨q1,q2⟩
  .show .inl q
  .show .inr (q1,?_)
   cases c:x.2 with
   |ch=>rw[c]at q2;show q2
   |wd i=>rw[c]at q2;show q2
   |gp ks=>rw[c]at q2;show q2
   |gd y=>
    rw[c]at q2;have(f,d):=q2;have hm:=fq.mp f;have(a,j):=y
    cases a with
    |false=>show(fq.mpr hm,d)
    |true=>
     show(fq.mpr (by change j<Z (bs++[b]);rw[aP];lia),?_)
     have e:bP B (bs++[b]) (ac,j,)=bP B bs (ac,j,):=by
      change brg _=brg _;rw[ma,if_neg (by lia)]
     rw[e];show d
def Kn(P:Par n c0 W8 W6 B)(t:TrS n B s st)(bk:∀b∈s.bs,cX n b)(tw:d6 W8 B.length s.bs s.tw)(wv:∀y∈s.wt,y∈gys B.length (Z s.bs))(ms:s.ms.Perm (dM B))(wl:Z s.wt<=Z B+1):SpJ n W8 W6 B s:=by
 have hB:=P.hB;have f:=VG s.es;have c:Z s.es=n:=by rw[t.es,fA]
 have tl:=tJ t.tr;have hm:i4 s.es*_<=n*(W8+1):=tY _ (by lia);show(c,bk,tw,wv,ms,by lia,by rw[t.sv,aq,li];lia,λd hd=>?_);rw[t.sv]at hd;have(x,a,rfl):=aG.mp hd;have a:=hJ.mp a;have(p,r,e):=mn a;show(x.1,x.2.D,rfl,jM t.tr a,?_);rw[t.es,e];show wV (by rw[<- e];show t.tr)
variable{b0:List Pr}
def Wu{bar:List Pr}(g:Z es=n)(f:cX n bar)(e:bar=b0++[z])(m:∀y∈bar,y.2=ac)(i:∀y∈b0,es.getD y.1.toNat ab=aa ac)(hz:es.getD z.1.toNat ab=ab):∃p ps,prs (brg bar) es=aa (p::ps):=by
 have j:∀p∈brg bar,p.Ok (Z es):=λp b=>by rw[g];show(s9 f p b).1
 have br:∀y∈bar,brP y=.inn y.1:=λy c=>by unfold brP;rw[m y c];rfl
 have a:z∈bar:=by rw[e];simp
 have h:=f.nn z a
 cases b:prs _ es with
 |none=>
  have:=JP b _ (aG.mpr (z,a,rfl));rw[br z a]at this;have this:(es.getD z.1.toNat ab==aa ac)=ac:=this;rw[hz]at this
  nomatch this
 |some l=>
  have(_,h2,_):=n6 j b
  have:_∈l:=(h2 (z.1,af,)).mpr ((h.1,by rw[g];show h.2),tI hz,λp b=>by
   have(y,c,rfl):=aG.mp b;rw[br y c];change((put es z.1.toNat ac).getD y.1.toNat ab==aa ac)=ac
   by_cases d:S y.1=S z.1
   .rw[d,fj es ac (by lia)];rfl
   .rw[c7 es ac d]
    have:y∈b0:=by
     rw[e]at c
     rcases bx.mp c with q |q
     .show q
     .show absurd (by rw[bq.mp q]) d
    rw[i y this];rfl)
  cases l with
  |nil=>nomatch this
  |cons p ps=>show(p,ps,rfl)
def Ep{bs:LLP}(tr:Tr n B bs st){y:Pr}(d:y∈chs st.reverse):y.2=ac/\(aZ n st).getD y.1.toNat ab=aa ac:=by
 have(x,c,e,hn):=qx d;have(p,r,rfl):=mn (hJ.mp c);have b:=wV tr
 rcases(i5 p tr).1.2.ok with⟨_,a,_⟩ |⟨a,_⟩
 .rw[e]at a b;rw[a]at b;show(a,b)
 .rw[a]at hn;nomatch hn
structure Clo(n:Nat)(s1 s2:Spt)(bar:List Pr)(dn:List Ls)(A:LSp):Prop where
 es:s2.es=aZ n A.reverse
 sv:s2.st=A.map stD
 bs:s2.bs=s1.bs++[bar]
 tw:s2.tw=gc (ac,Z s1.bs,) (brg bar) (l9 s1.bs s1.tw bar)
 wt:s2.wt=[(ac,Z s1.bs,)]
 ms:s2.ms=s1.ms
 pp:s2.pp=s1.pp++[lnD bar dn]
 en:s2.en=s1.en
variable{s2:Spt}{T st1:LSp}{dn:List Ls}
def Wv{bar:List Pr}(P:Par n c0 W8 W6 B)(h:Hd n c0 W8 W6 B s st)(e:Se n c0 W8 W6 B s (aK B W8 s).2 st st1)(k:jN n B s.bs st1 bar dn)(p:qy st1.reverse bar A x T)(q:Clo n (aK B W8 s).2 s2 bar dn A):Hd n c0 W8 W6 B s2 A.reverse/\nv n B W8 s<nv n B W8 s2:=by
 have hn:=P.hn;have hz:=P.hz;have hC:=P.hC
 have er:st1=T.reverse++x::A.reverse:=by
  have:=congrArg List.reverse p.e;rw[i7,mj,i8,cG]at this;show this
 have c:=e.t.tr;rw[e.bs]at c;have g:Tr n B s.bs (x::A.reverse):=by rw[er]at c;show(i5 _ c).1
 have bk:=wW c k.bl;have G:TrS n B s2 A.reverse:=(by rw[q.sv,i7],q.es,by rw[q.bs,e.bs];show Km g.1);have hnv:=tK n (aK B W8 s).2.st;have hnb:Z s.bs<=vl n (aK B W8 s).2.st:=h.nb;have j:Z s2.bs=Z s.bs+1:=by rw[q.bs,e.bs,aP];rfl
 have i:d6 (c0+3840*Z s.bs+3840) B.length s2.bs s2.tw:=by
  have:=(h.tw.dropped (λb I=>(h.J.bk b I).pd) bar).bar bk hn;rw[q.bs,q.tw,e.bs,e.tw];show this
 have L:SpJ n W8 W6 B s2:=by
  show Kn P G (λb I=>?_) (i.wk.le (by lia),i.vl,i.br) (λy f=>?_) (by rw[q.ms];show e.J.ms) (by rw[q.wt];change 1<=_;lia)
  .rw[q.bs,e.bs]at I
   rcases bx.mp I with z |z
   .show h.J.bk b z
   .rw[bq.mp z];show bk
  .rw[q.wt]at f;rw[bq.mp f];show fq.mpr (by change _<Z s2.bs;rw[q.bs,aP];show c8 _)
 have r:nv n B W8 s<nv n B W8 s2:=by
  have(b0,z,eb,M,U,_,_):=p.br;have C:∀y∈bar,y.2=ac:=λy f=>(Ep c (k.bl.subset f)).1;have m:=fA n A.reverse;have h0:∀y∈b0,s2.es.getD y.1.toNat ab=aa ac:=λy f=>by rw[q.es];show(Ep g.1 (by rw[i7];show M.subset f)).2
  have Y:s2.es.getD z.1.toNat ab=ab:=by
   have(y,f,ey,_):=qx U;have tr2:Tr n B s.bs ((T.reverse++[x])++A.reverse):=by rw[cG];rw[er]at c;show c
   rw[q.es,<- ey];show(i5 _ tr2).2.2 y ?_
   rcases a9.mp f with u |u
   .rw[u];simp
   .simp[u]
  have(d,ps,N):=Wu (by rw[q.es,m]) bk eb C h0 Y
  have hg:bP B s2.bs (ac,(aK B W8 s).2.bs.length,)=brg bar:=by
   change brg _=_;rw[q.bs,ma,if_pos rfl]
  have hok:∀u∈bP B s2.bs (ac,(aK B W8 s).2.bs.length,),u.Ok (Z s2.es):=by rw[hg,q.es,m];show λu l=>(s9 bk u l).1
  rw[<- hg]at N;have(E,r2,_):=n6 hok N;have(J3,_,f):=L.pop q.wt
  have t3:TrS n B {s2 with wt:=[]} A.reverse:=(G.sv,G.es,G.tr)
  have((u0,H),uo):=E.op d aA;have H:d.1<n:=by rw[q.es,m]at H;show H
  have(n1,n2):=b9.mp E.nd
  have t5:=Ei (s:=({ s2 with wt:=[] } : Spt).pt d.1 d.2 _) f (by change Z (put s2.es _ _)=n; rw [cb,q.es,m]) (λu l=>by change u.Ok (Z (put s2.es _ _)); rw [cb]; show hok u l) E.tail (λv hv u l=>by
   have((v0,v1),vo):=E.op v (bj _ hv);have ne:d.1≠v.1:=λee=>n1 (aG.mpr (v,hv,ee.symm));change u.sure (put (put s2.es d.1.toNat d.2) v.1.toNat _)=ac;rw[wF (by lia)];show wA (by rw[cb];show hok u l) u0 (by rw[cb,q.es,m];show H) (wG u0 v0 ne uo) _ (((r2 v).mp (bj _ hv)).2.2 u l)) (TrM.refl (t3.pt (w:=.gd _) u0 H uo rfl (f,((r2 d).mp aA).2.2)))
  have t6:TrM n B (((d.1,d.2,),.gd (ac,(aK B W8 s).2.bs.length,),)::A.reverse) (lrF B (Me W8 s2+1) s2).2:=by
   rw[qt q.wt N];show tG P.hr _ _ (n4 J3 E).1 t5
  have((xt,k2,_),_):=wO P.hr (by lia) hn _ s2 L t6
  have e1:(aK B W8 s).2.st=A.map stD++stD x::T.map stD:=by
   rw[e.t.sv,p.e,aT,bG]
  have e2:(aK B W8 s2).2.st=A.map stD++stD ((d.1,d.2,),.gd (ac,(aK B W8 s).2.bs.length,),)::xt.reverse.map stD:=by
   change(stF B W8 _ s2).2.st=_;rw[k2.sv,mj,i8,i7,cG,aT,aT];rfl
  unfold nv;rw[e1,e2];have tl:=tJ g;rw[cf,li]at tl;show Kl n _ _ _ _ _ (by rw[aq];lia) ?_ rfl
  have Q:x.2=.ch:=by
   rcases g.2.ok with⟨a,_⟩ |⟨a,_⟩
   .show a
   .rw[p.nc]at a;nomatch a
  unfold stD;rw[Q];rfl
 show((L,by rw[j];show i,G,by rw[q.pp,e.pp,aP,h.pp,j];rfl,by rw[q.en,e.en];show h.en,?_),r);rw[j];show mw h.nb r
def Er(es:LOB):dC .non (es.map shD)=aa (es.any (·==ab)):=by
 induction es with
 |nil=>rfl
 |cons e es a=>
  change((deq 19 _ .non).bind λb=>(dC .non _).map λr=>b || r)=_;rw[a]
  cases e with
  |none=>rfl
  |some b=>cases b <;> rfl
def Ww(h:es.any (·==ab)=ac):gV (.lst (es.map shD)) .non=aa (.int (es.findIdx (·==ab):Nat)):=by
 change(if dC _ _=aa ac then aa _ else ab)=_;rw[Er,h,if_pos rfl]
 congr 3
 clear h
 induction es with
 |nil=>rfl
 |cons e es a=>
  rw[bG,qL,qL,a]
  cases e with
  |none=>rfl
  |some b=>cases b <;> rfl
def wOf(es:LOB):LI0:=((dE 0 es).filter λp=>p.2==aa ac).map λp=>(p.1:Int)
def Wx(h:es.any (·==ab)=af)(c:Z es<=1000):sL [.lst (es.map shD)]=aa ((wOf es).map D.int):=by
 show nB ?_;unfold wOf;rw[map_map];show congrArg _ (e9 _ _ _ _ (by rw[<- tz];show wj rfl) (by rw[tB];lia) λp a=>dP rfl (dB rfl ?_) λ_=>rfl);have hm:=any_eq_false.mp h p.2 (dU (k9 a))
 cases e:p.2 with
 |none=>rw[e]at hm;show absurd rfl hm
 |some b=>cases b <;> rfl
variable{F:MF3}
def Ko{t:MF4}{k:Nat}(h:t M=aa ac)(a:wp F M λr=>match r with
  |.nx ρ'=>wp (dA t F k) ρ' K
  |.rtS d ρ'=>K (.rtS d ρ')
  | _=>False):wp (dA t F (k+1)) M K:=by
 have(r,e,q):=a;dsimp only[wp,dA];rw[h,e,az]
 cases r with
 |nx ρ'=>show q
 |rtS d ρ'=>show(_,rfl,q)
 | _=>show q.elim
def tL{t:MF4}{k:Nat}(h:t M=aa af)(q:K (.nx M)):wp (dA t F (k+1)) M K:=(.nx M,by unfold dA;rw[h];rfl,q)
nonrec def anT:MF4:=gP (bO (pD (aW "Seeking" "ended" (aJ 0))))
nonrec def anB:MF3:=(ai (gb 1 (cK 0 "Seeking" "settle" sK cE))
  (bi (mB (m2 fZ (ae 1) kN)) (dJ (cK 0 "Seeking" "close" qj (bM (mX (ae 1)) cE))) (bi (mB (m2 f8 kN (pB (aW "Seeking" "sheet" (aJ 0))))) (dJ (cK 0 "Seeking" "put" qk (bM (mX (m2 gV (pB (aW "Seeking" "sheet" (aJ 0))) kN)) (bM (mX (kBl ac)) (bM (mX kN) cE))))) (ai (aX 2 (aI (pV sL (ag (pB (aW "Seeking" "sheet" (aJ 0))) nZ))))
  (ai (dJ (cK 0 "Seeking" "close" qj (bM (mX (bn (ag (kSt "world") (ag (pD (aW "Seeking" "count" (aJ 0))) nZ)))) cE)))
  (ai (nO 0 "Seeking" "count" (kI 1))
  (eJ (ae 2))))))))
abbrev anK(l:Addr)(o:O):Option (LI0)->Fl->Prop
 |none,x=>∃M,x=.nx M/\M[0]?=aa (.deep (.at l o))
 |some ws,x=>∃M,x=.rtS (.lst (ws.map D.int)) M/\M[0]?=aa (.deep (.at l o))
def Wz(P:Par n c0 W8 W6 B)(h:Hd n c0 W8 W6 B s st)(e:Se n c0 W8 W6 B s (aK B W8 s).2 st st1){t:Nat}(t1:t<n)(i:(aK B W8 s).2.es.getD t ab=ab)(p:∀j,j<t->(aK B W8 s).2.es.getD j ab≠ab):Hd n c0 W8 W6 B ((aK B W8 s).2.pt t ac .non) (((t,ac,),.ch,)::st1)/\nv n B W8 s<nv n B W8 ((aK B W8 s).2.pt t ac .non):=by
 have hz:=P.hz;have f:=tI (by rw[cL];show i);have c:=(e.J.pt (b:=ac) (w:=.non) (by lia) (by lia) f).1
 have d:TrS n B ((aK B W8 s).2.pt t ac .non) (((t,ac,),.ch,)::st1):=by
  show(?_,?_,e.t.tr,by change(0:Int)<=t;lia,by change(t:Int)<n;lia,by rw[<- e.t.es];show f,.inl (rfl,rfl,λj m=>?_))
  .change(aK B W8 s).2.st++[_]=_;rw[e.t.sv,i8,aT];rfl
  .change put (aK B W8 s).2.es _ _=_;rw[e.t.es];rfl
  .rw[<- e.t.es]
   grind
 have a:nv n B W8 s<nv n B W8 ((aK B W8 s).2.pt t ac .non):=by
  have((xt,l,_),_):=wO P.hr (by lia) P.hn _ _ c (tG P.hr _ _ c (TrM.refl d));have tl:=tJ d.tr;rw[cf]at tl
  have g:(aK B W8 ((aK B W8 s).2.pt t ac .non)).2.st=(aK B W8 s).2.st++stD ((t,ac,),.ch,)::xt.reverse.map stD:=by
   change(stF B W8 _ _).2.st=_;rw[l.sv,mj,i8,cG,aT,<- e.t.sv];rfl
  unfold nv;rw[g];show Kk n _ _ _ (by rw[e.t.sv,aq,li];lia)
 show((c,?_,d,?_,?_,?_),a)
 .change d6 (c0+3840*(aK B W8 s).2.bs.length) _ (aK B W8 s).2.bs (aK B W8 s).2.tw;rw[e.bs,e.tw];show h.tw
 .change(aK B W8 s).2.pp.length=(aK B W8 s).2.bs.length;rw[e.bs,e.pp];show h.pp
 .change(aK B W8 s).2.en=af;rw[e.en];show h.en
 .change(aK B W8 s).2.bs.length<=_;rw[e.bs];show cN h.nb (fH a)
structure Car(n c0 W8 W6:Nat)(B:LRu)(I:Spt->LSp->List (LI0)->Prop)(F:Spt->List (LI0)->Prop):Prop where
 ch:∀{s st st1 fd} {t:Nat},Hd n c0 W8 W6 B s st->I s st fd->Se n c0 W8 W6 B s (aK B W8 s).2 st st1->(aK B W8 s).1=ab->t<n->(aK B W8 s).2.es.getD t ab=ab->I ((aK B W8 s).2.pt t ac .non) (((t,ac,),.ch,)::st1) fd
 cl:∀{s st st1 fd w bar dn A x T s2},Hd n c0 W8 W6 B s st->I s st fd->Se n c0 W8 W6 B s (aK B W8 s).2 st st1->(aK B W8 s).1=aa (Wh.D w)->Rt n B s.bs (aK B W8 s).2.es w->jN n B s.bs st1 bar dn->qy st1.reverse bar A x T->Clo n (aK B W8 s).2 s2 bar dn A->s2.ct=s.ct->Hd n c0 W8 W6 B s2 A.reverse->I s2 A.reverse fd
 fi:∀{s st st1 fd w dn s2},Hd n c0 W8 W6 B s st->I s st fd->Se n c0 W8 W6 B s (aK B W8 s).2 st st1->(aK B W8 s).1=aa (Wh.D w)->Rt n B s.bs (aK B W8 s).2.es w->jN n B s.bs st1 [] dn->s2.pp=s.pp++[lnD [] dn]->F s2 fd
 wc:∀{s st st1 fd bar dn A x T s2},Hd n c0 W8 W6 B s st->I s st fd->Se n c0 W8 W6 B s (aK B W8 s).2 st st1->(aK B W8 s).1=ab->(aK B W8 s).2.es.any (·==ab)=af->jN n B s.bs st1 bar dn->qy st1.reverse bar A x T->Clo n (aK B W8 s).2 s2 bar dn A->s2.ct=s.ct+1->Hd n c0 W8 W6 B s2 A.reverse->I s2 A.reverse (fd++[wOf (aK B W8 s).2.es])
 wf:∀{s st st1 fd dn s2},Hd n c0 W8 W6 B s st->I s st fd->Se n c0 W8 W6 B s (aK B W8 s).2 st st1->(aK B W8 s).1=ab->(aK B W8 s).2.es.any (·==ab)=af->jN n B s.bs st1 [] dn->s2.pp=s.pp++[lnD [] dn]->F s2 (fd++[wOf (aK B W8 s).2.es])
structure Fin(B:LRu)(F:Spt->List (LI0)->Prop)(fd:List (LI0))(o:O):Prop where
 ex:∃s:Spt,s.en=ac/\s.pp≠[]/\Z s.pp<=100000/\F s fd/\o=s.F B
inductive Af(n c0 W8 W6:Nat)(B:LRu)(I:Spt->LSp->List (LI0)->Prop)(F:Spt->List (LI0)->Prop)(fd:List (LI0))(v:Nat)(o:O):Prop
 |go (s:Spt) (st:LSp):Hd n c0 W8 W6 B s st->I s st fd->v<nv n B W8 s->o=(s.S B).o->Af n c0 W8 W6 B I F fd v o
 |fin:Fin B F fd o->Af n c0 W8 W6 B I F fd v o
variable{I:Spt->LSp->List (LI0)->Prop}{F:Spt->List (LI0)->Prop}
def Es(P:Par n c0 W8 W6 B)(K:Car n c0 W8 W6 B I F):∀(u:Nat) (s:Spt) (st:LSp) (fd:List (LI0)),Hd n c0 W8 W6 B s st->I s st fd->3 ^ n-nv n B W8 s<=u->∃(r:Option (LI0)) (o:O),(∀l v1 f k,u<k->wp (dA anT anB (k+1)) [.deep (.at l (s.S B).o),v1,f] (anK l o r))/\(r=ab->Fin B F fd o)/\∀ws,r=aa ws->Af n c0 W8 W6 B I F (fd++[ws]) (nv n B W8 s) o
 | u,s,st,fd,h,hI,hμ=>by
  have hz:=P.hz;have hn:=P.hn;have hC:=P.hC;have h2:=P.h2;have hnv:nv n B W8 s<3 ^ n:=tK _ _;have hnb:=h.nb;have hpp:=h.pp;have(st1,se,hwy):=h.se P;have i:=se.bs;have H:=se.ct;have m:=se.pp;have J1:=se.J;have Y:=Ws P h;have L:=λ(bar dn A x T s2)=>Wv (bar:=bar) (dn:=dn) (A:=A) (x:=x) (T:=T) (s2:=s2) P h se;have hch:=λt=>Wz (t:=t) P h se;have kch:=λt=>K.ch (t:=t) h hI se;have kcl:=λ(w bar dn A x T s2)=>K.cl (w:=w) (bar:=bar) (dn:=dn) (A:=A) (x:=x) (T:=T) (s2:=s2) h hI se;have kfi:=λ(w dn s2)=>K.fi (w:=w) (dn:=dn) (s2:=s2) h hI se;have kwc:=λ(bar dn A x T s2)=>K.wc (bar:=bar) (dn:=dn) (A:=A) (x:=x) (T:=T) (s2:=s2) h hI se;have kwf:=λ(dn s2)=>K.wf (dn:=dn) (s2:=s2) h hI se;generalize aK B W8 s=R at *;have y:=λ{w:Wh} C=>Wr (w:=w) P.hr (by lia) hn J1 (by rw[i,se.tw];show h.tw) (by lia) (by rw[i];lia) (by rw[m];lia) se.t C;rw[i]at y
  have g:∀l v1 f k Q,wp _ [.deep _,.im _,f] _->wp (dA anT anB (k+1)) [.deep (.at l (s.S B).o),v1,f] Q:=λl v1 f k Q U=>by
   show Ko (pK (dB (k6 rfl) (by change m7 (.bl s.en)=aa af;rw[h.en];rfl))) ?_;apply ak;show jL (fN rfl rfl rfl rfl (Y l)) U
  cases hR:R.1 with
  |some wd=>
   have(w,rfl,hnc,C):=hwy wd hR;have(o,e1,ck):=y C
   have hwn:fZ w.D .non=aa (.bl ac):=by
    cases w with
    |ch=>nomatch hnc
    | _=>rfl
   have step:=λl v1 f k Q U=>by
    show g l v1 f k Q ?_;rw[hR];show a8 (bE (ap rfl rfl hwn)) (λ_=>(iW (fN rfl rfl (dN rfl rfl) rfl (e1 l)) U)) λq=>nomatch q
   cases ck with
   | @fin dn k=>
    rw[i]at k
    show⟨ab,({R.2.ln [] dn with en:=ac}:Spt).F B,λl v1 f kk M=>?_,λ_=>({R.2.ln [] dn with en:=ac},rfl,?_,?_,kfi w dn _ hR C k (by change(R.2.ln [] dn).pp=_;unfold Spt.ln;rw[m]),rfl),λws e=>nomatch e⟩
    .obtain⟨kk,rfl⟩:∃j,kk=j+1:=(kk-1,by lia);show step l v1 f _ _ (tL rfl (_,rfl,rfl))
    .change R.2.pp++[_]≠[];simp
    .change(R.2.pp++[_]).length<=_;rw[aP,m];change _+1<=_
     lia
   | @bk bar dn A T x k p=>
    rw[i]at k;have q:Clo n R.2 (((R.2.ln bar dn).bk n A).bar bar) bar dn A:=(rfl,rfl,rfl,rfl,rfl,rfl,rfl,rfl);have(v,g2):=L bar dn A x T _ k p q
    match u,hμ with
    | 0,hμ=>lia
    | u+1,hμ=>
     have(r,o',i1,i2,i3):=Es P K u _ _ fd v (kcl w bar dn A x T _ hR C k p q H v) (by lia);show(r,o',λl v1 f kk M=>?_,i2,λws e=>?_)
     .obtain⟨kk,rfl⟩:∃j,kk=j+1:=(kk-1,by lia);show step l v1 f _ _ (i1 l _ _ kk (by lia))
     .cases i3 ws e with
      |go s' E a b c d=>show .go s' E a b (by lia) d
      |fin a=>show .fin a
  |none=>
   have hl1:=J1.es
   cases ha:R.2.es.any (·==ab)with
   |true=>
    have N:=xj (any_eq_true.mp ha)
    have G:R.2.es.getD (R.2.es.findIdx (·==ab)) ab=ab:=by
     rw[bp,b7 N];have:=findIdx_getElem (w:=N);show beq_iff_eq.mp this
    have(v,g2):=hch _ (by lia) G λj hj q=>by
     have:=not_of_lt_findIdx hj;rw[bp,b7 (by lia)]at q;have q:R.2.es[j]=ab:=q;rw[q]at this;show absurd this (by decide)
    match u,hμ with
    | 0,hμ=>lia
    | u+1,hμ=>
     have(r,o',i1,i2,i3):=Es P K u _ _ fd v (kch _ hR (by lia) G) (by lia);show(r,o',λl v1 f kk M=>?_,i2,λws e=>?_)
     .obtain⟨kk,rfl⟩:∃j,kk=j+1:=(kk-1,by lia);show g l v1 f _ _ ?_;rw[hR];show a8 rfl (λq=>nomatch q) λ_=>?_;show a8 (b:=ac) (bE (ap rfl (jI j8) (by change((dC .non (R.2.es.map shD)).map D.bl)=_;rw[Er,ha];rfl))) (λ_=>(iW (fN rfl rfl (dN (ap (jI j8) rfl (Ww ha)) (dN rfl (dN rfl rfl))) rfl ((λl=>Ed (t:=(R.2.es.findIdx (·==ab):Nat)) J1 P.h2 (by lia) (by lia)) l)) (i1 l _ _ kk (by lia)))) λq=>nomatch q
     .cases i3 ws e with
      |go s' E a b c d=>show .go s' E a b (by lia) d
      |fin a=>show .fin a
   |false=>
    have C:Rt n B s.bs R.2.es (.wd R.2.ct):=λk M q=>by
     rw[bp,b7 (by lia)]at q;have q:R.2.es[k]=ab:=q;show any_eq_false.mp ha _ (iB _) (by rw[q];rfl)
    have(o,e1,ck):=y C
    have step:∀o2 l v1 f k Q,(∀v1 f,nO 0 "Seeking" "count" (kI 1) [.deep (.at l o),v1,f]=aa (.nx [.deep (.at l o2),v1,f]))->Q (.rtS (.lst ((wOf R.2.es).map D.int)) [.deep (.at l o2),.im .non,.im (.lst ((wOf R.2.es).map D.int))])->wp (dA anT anB (k+1)) [.deep (.at l (s.S B).o),v1,f] Q:=λo2 l v1 f k Q hau U=>by
     show g l v1 f k Q ?_;rw[hR];show a8 rfl (λq=>nomatch q) λ_=>?_;show a8 (b:=af) (bE (ap rfl (jI j8) (by change((dC .non (R.2.es.map shD)).map D.bl)=_;rw[Er,ha];rfl))) (λq=>nomatch q) λ_=>?_;apply ak;show bo (d:=.lst ((wOf R.2.es).map D.int)) (bB ?_) ?_
     .change(ag _ _ _).bind _=_;rw[aj (jI j8) rfl,az];change(sL [.lst (R.2.es.map shD)]).bind _=_;rw[(Wx ha (by lia)),az,if_pos (all_eq_true.mpr λd hd=>by have(z,_,rfl):=aG.mp hd;rfl)]
     apply ak;show iW (fN rfl rfl (dN (d:=(Wh.wd R.2.ct).D) (cw (aj rfl (aj (k6 rfl) rfl))) rfl) rfl (e1 l)) ?_;apply ak;show(_,hau _ _,(iX rfl U))
    cases ck with
    | @fin dn k=>
     rw[i]at k
     show(aa (wOf R.2.es),(({({R.2.ln [] dn with en:=ac}:Spt)with ct:=R.2.ct+1}:Spt).F B),λl v1 f kk M=>step _ l v1 f kk _ (λ_ _=>rfl) (_,rfl,rfl),(λe=>nomatch e),λws e=>?_)
     cases e
     show .fin ({({R.2.ln [] dn with en:=ac}:Spt)with ct:=R.2.ct+1},rfl,?_,?_,kwf dn _ hR ha k (by change(R.2.ln [] dn).pp=_;unfold Spt.ln;rw[m]),rfl)
     .change R.2.pp++[_]≠[];simp
     .change(R.2.pp++[_]).length<=_;rw[aP,m];change _+1<=_
      lia
    | @bk bar dn A T x k p=>
     rw[i]at k
     have q:Clo n R.2 {((R.2.ln bar dn).bk n A).bar bar with ct:=R.2.ct+1} bar dn A:=(rfl,rfl,rfl,rfl,rfl,rfl,rfl,rfl)
     have(v,g2):=L bar dn A x T _ k p q
     show(aa (wOf R.2.es),(({((R.2.ln bar dn).bk n A).bar bar with ct:=R.2.ct+1}:Spt).S B).o,λl v1 f kk M=>step _ l v1 f kk _ (λ_ _=>rfl) (_,rfl,rfl),(λe=>nomatch e),λws e=>?_)
     cases e;show .go _ _ v (kwc bar dn A x T _ hR ha k p q (by change R.2.ct+1=_;rw[H]) v) g2 rfl
def wX{cn a:Str}{f:Xa}(h:M[i]?=aa (.deep o))(hi:o.isIns cn a=ac)(e:f M=aa (ds,ρ1,))(c:ρ1[i]?=aa (.deep o))(hm:∀l,m l ds o=aa (o',d,)):j7 i cn a m f M=aa (d,ρ1.set i (.deep o'),):=by
 have(ns,os,rfl,_):=zY hi;unfold j7;rw[h];change(if (O.ins cn ns os).isIns cn a=ac then _ else ab)=_;rw[if_pos hi,e,az,c];have b:∃q,∀l,m l ds _=aa q:=(_,hm);dsimp only;rw[dif_pos b];have:=b.choose_spec 0;rw[hm 0]at this;rw[<- du this]
inductive Sq:O->List (LI0)->O->Prop
 |nil {o o':O}:o.isIns "Seeking" "another"=ac->(∀l,m_8 l [] o=aa (o',.non,))->Sq o [] o'
 |cons {o o' oE:O} {w:LI0} {ws:List (LI0)}:o.isIns "Seeking" "another"=ac->(∀l,m_8 l [] o=aa (o',.lst (w.map D.int),))->Sq o' ws oE->Sq o (w::ws) oE
def wsD(ws:List (LI0)):D:=.lst (ws.map λw=>.lst (w.map D.int))
nonrec def wD(w:LI0):D:=.lst (w.map D.int)
nonrec def woT:MF4:=(dL (mB (m2 fZ (ae 4) kN)) (mB (m2 dLt (av bW (ag (cZ 3) nZ)) (ae 1))))
nonrec def woB:MF3:=(ai (dh 3 (ae 4)) (gb 4 (j7 2 "Seeking" "another" m_8 cE)))
def Kq{a:D}{most:Int}{oE:O}{K:Fl->Prop}:∀(ws:List (LI0)) (w:LI0) (o:O) (fs:List (LI0)) (k:Nat),Sq o ws oE->(Z fs:Int)<=most->Z fs+Z ws<10000000->Z ws+2<=k->((Z (fs++w::ws):Int)<=most->K (.nx [.im a,.im (.int most),.deep oE,.own ((fs++w::ws).map wD),.im .non]))->((¬(Z (fs++w::ws):Int)<=most)->∀o' d,K (.nx [.im a,.im (.int most),.deep o',.own (((fs++w::ws).take most.toNat).map wD),.im (wD d)]))->wp (dA woT woB k) [.im a,.im (.int most),.deep o,.own (fs.map wD),.im (wD w)] K
 |ws,w,o,fs,0,_,_,_,h,_,_=>absurd h (by lia)
 |ws,w,o,fs,k+1,hs,hm,hl,hk,k1,k2=>by
  have e:woT [.im a,.im (.int most),.deep o,.own (fs.map wD),.im (wD w)]=aa (decide (Z fs<most)):=by
   show(jZ (a:=ac) rfl (bE (ap (aE rfl (d9 fs wD)) rfl rW))).trans ?_;rw[qG]
  by_cases c:Z fs<most
  .rw[decide_eq_true c]at e;show Ko e ?_;apply ak;show f9 rfl rfl (by rw[aq];lia) ?_;have g:fs.map wD++[wD w]=(fs++[w]).map wD:=by rw[aT];rfl
   cases hs with
   |nil hi b=>
    show jL (wX rfl hi rfl rfl b) ?_;rw[g];obtain⟨k,rfl⟩:∃j,k=j+1:=(k-1,by lia);show tL (by unfold woT dL;rfl) (k1 ?_);rw[aP];change((Z fs+1:Nat):Int)<=_
    lia
   | @cons _ o' _ d ws' hi b f=>
    show jL (wX rfl hi rfl rfl b) ?_;rw[g];have i:fs++w::d::ws'=(fs++[w])++d::ws':=by rw[cG];rfl
    rw[i]at k1 k2;simp only[cf]at hl hk;show Kq ws' d o' _ k f (by rw[aP];change((Z fs+1:Nat):Int)<=_;lia) (by rw[aP];change Z fs+1+_<_;lia) (by lia) k1 k2
  .rw[decide_eq_false c]at e;have l:Z fs=most.toNat:=by lia
   have:=k2 (by rw[aP,cf];lia) o w;rw[<- l,take_left' rfl]at this;show tL e this
def WA{f:Xa}(h:M[i]?=aa (.deep (.at l o0)))(b:f M=aa (ds,ρ1,))(a:ρ1[i]?=aa (.deep (.at l o)))(hm:m l ds o=aa (o',d,)):l6 i m f M=aa (d,ρ1.set i (.deep (.at l o')),):=by
 unfold l6;simp only[h,b,az,a];change(m l ds o).map _=_;rw[hm];rfl
def s00(n:Nat)(B:LRu):Spt:=spT (hE n ab) B
def WB(P:Par n c0 W8 W6 B)(l:Addr):Cb l [pl0 n B] (.ins "Seeking" [] [])=aa (((s00 n B).S B).o,.non,):=by
 have hn:=P.hn;have e0:=U4 (v:=n) (es:=hE n ab) P.hn P.hr P.hz l;rw[Vs]at e0;apply fO;apply ak;show iW (WA rfl (dN rfl (dN rfl (dN (bB ?_) rfl))) rfl e0) ?_
 .rw[map_replicate];show(fh _ _ _ ((pN (aj (aY rfl rfl rfl) rfl) (by lia) (by lia)).trans (by rw[cL])) (by rw[bU];lia) λ_ _=>eM rfl rfl rfl).trans ?_;rw[map_const',bU];rfl
 apply ak;show gX (nQ rfl) rfl rfl ?_;apply ak;show gX (sQ rfl) rfl rfl (gX (sQ rfl) rfl rfl (_,rfl,rfl,rfl))
variable{q:Nat}
def hd0(P:Par n (64*q*Z B) W8 W6 B)(c:∀r∈B,Z (grd r)<=q):Hd n (64*q*Z B) W8 W6 B (s00 n B) []:=by
 have hC:=P.hC;have b:=V2 P.hn (mi (a:=ab)) λr hr=>(P.hr r hr,c r hr);have t:TrS n B (s00 n B) []:=(rfl,rfl,trivial);show(Kn P t b.bk (b.tw.wk.le (by lia),b.tw.vl,b.tw.br) b.wv b.ms (by have:=b.wl;change(spT _ B).wt.length<=_;rw[this];change Z B+0<=_;lia),b.tw,t,rfl,rfl,cy _)
def WC{fd:List (LI0)}(h:Fin B F fd o):Sq o [] o:=by
 have(s,e,_,_,_,rfl):=h.ex;show .nil rfl λl=>?_;apply fO;apply ak;show tL (pK (dB (k6 rfl) (by change m7 (.bl s.en)=aa ac;rw[e];rfl))) (iX rfl (_,rfl,rfl,rfl))
def Kr(P:Par n c0 W8 W6 B)(K:Car n c0 W8 W6 B I F):∀(g:Nat) (s:Spt) (st:LSp) (fd:List (LI0)),Hd n c0 W8 W6 B s st->I s st fd->3 ^ n-nv n B W8 s<=g->∃ws oE,Sq (s.S B).o ws oE/\Fin B F (fd++ws) oE/\Z ws<=g
 | g,s,st,fd,h,hI,hμ=>by
  have hC:=P.hC;have h2:=P.h2;have y:nv n B W8 s<3 ^ n:=tK _ _;have(r,o,q,u,v):=Es P K _ s st fd h hI (aM _)
  have run:∀l,m_8 l [] (s.S B).o=aa (o,match r with |none=>.non |some w=>wD w,):=λl=>by
   apply fO;apply ak;show Qk (q l _ _ 999999999 (by lia)) λx m=>?_
   cases r with
   |none=>
    have(M,rfl,e):=m
    show iX rfl (o,e,rfl,rfl)
   |some w=>
    have(M,rfl,e):=m;show(o,e,rfl,rfl)
  cases r with
  |none=>show([],o,.nil rfl run,by rw[bN];show u rfl,cy _)
  |some w=>
   cases v w rfl with
   |fin f=>show([w],o,.cons rfl run (WC f),f,by change 1<=g;lia)
   |go z i a b c d=>
    subst d
    match g,hμ with
    | 0,hμ=>lia
    | g+1,hμ=>
     have(ws,oE,p,j,A):=Kr P K g z i _ a b (by lia);show(w::ws,oE,.cons rfl run p,by rw[cG]at j;show j,by simp only[cf];lia)
def WD(P:Par n (64*q*Z B) W8 W6 B)(f:∀r∈B,Z (grd r)<=q)(K:Car n (64*q*Z B) W8 W6 B I F)(e:I (s00 n B) [] []):∃(ws:List (LI0)) (s:Spt),F s ws/\s.pp≠[]/\Z ws<=3 ^ n/\∀most:Int,0<=most->m_0 [pl0 n B,.int most]=aa (if (Z ws:Int)<=most then .tup [wsD ws,.bl ac,.lst s.pp] else .tup [wsD (ws.take most.toNat),.bl af,.lst []]):=by
 have hC:=P.hC;have h2:=P.h2;have(ws,oE,c,(s,f1,f2,h,d,rfl),b):=Kr P K (3 ^ n) _ [] [] (hd0 P f) e (by lia);show(ws,s,d,f2,b,λmost hm=>?_);apply jG;apply ak;show Q8 (UT rfl (λl=>WB P l)) ?_;apply ak;show d4 rfl ?_;apply ak
 cases c with
 |nil hi hr=>
  show jL (wX rfl hi rfl rfl hr) ?_;apply ak;show tL (by unfold dL;rfl) ?_;apply ak;show a8 rfl (λ_=>?_) λq=>nomatch q
  show lQ rfl (En rfl (fL rfl (fM ((if_pos (hm)).symm))))
 | @cons _ o' _ w ws hi hr g=>
  rw[cf]at b;show jL (wX rfl hi rfl rfl hr) ?_;apply ak;show Kq ws w o' [] _ g hm (by rw[length_nil];lia) (by lia) (λa=>?_) λa o2 i=>?_
  .apply ak;show a8 rfl (λ_=>?_) λq=>nomatch q;show lQ rfl (En rfl (fL rfl (fM ((if_pos (a)).symm))))
  .apply ak;show a8 rfl (λq=>nomatch q) λ_=>b6 ?_;show lQ rfl (fL rfl (fM ((if_neg (a)).symm)))
structure Scr(x:D)(ns:LI0):Prop where
 ln:bW [x]=aa (.int (Z ns))
 sq:iL x=aa (ns.map D.int)
 sl:∀{f:MF1} {l h:LS->Option (Option Int)} {M:LS} {lo hi:Option Int},f M=aa x->l M=aa lo->h M=aa hi->mSl f l h M=aa (((ns.drop (HT.sIx ns.length 0 lo)).take (HT.sIx ns.length ns.length hi-HT.sIx ns.length 0 lo)).map D.int)
def WE(ns:LI0):Scr (.kl (ns.map D.int)) ns:=(Hc _ _,rfl,λe a b=>Hg e a b)
def Ks(ns:LI0):Scr (.lst (ns.map D.int)) ns:=(d9 _ _,rfl,λe a b=>j6 e a b)
def Et{x:D}(h:Scr x ns){i:Int}(b:0<=i):∃v,sy [x,.int i]=aa (.int v):=by
 by_cases a:i<Z ns
 .have(v,_,e):=kP b a;show(v,dk (OY (OZ (bE (ap rfl (aE rfl h.ln) (rW.trans (by rw[decide_eq_true a])))) (di (aY h.sq rfl e)))))
 .show(0,dk (pJ (y8 (bE (ap rfl (aE rfl h.ln) (rW.trans (by rw[decide_eq_false a])))) rfl) rfl))
def oe(c k:Int)(q:0<=k)(r:k<=100):∃v,m_6 [.int c,.int k]=aa (.int v)/\0<=v/\v<1000003:=by
 suffices h:∃d,m_6 _=aa d/\∃v:Int,d=.int v/\0<=v/\v<1000003 by
  have(d,e,v,rfl,h):=h;show(v,e,h)
 apply lS;have(p,i,n):=kP (f:=D.int) (E:=[2147483647,1000000007,998244353,1000000009]) (eE _ (by decide)) (g8 _ (by decide));have b:∀p∈([2147483647,1000000007,998244353,1000000009]:LI0),0<p/\p<=2147483647:=by decide
 have(j,u):=b p (dU i);have l:=eE c (show 10 ^ S (18:Int)≠0 by decide);have m:=g8 c (show 0<10 ^ S (18:Int) by decide);have a:(10:Int) ^ S (18:Int)=1000000000000000000:=by decide
 have g:mS 10 18:=(by decide,by decide,by decide);apply ak;show bo (aY rfl (ap rfl rfl (cJ (by decide))) n) ?_;apply ak;show bo (ap (ap (ap (ap rfl (ap rfl rfl (vj g)) (cJ (by rw[a];decide))) (ap rfl (ap rfl rfl dR) (pW (.inr (by lia,by lia)))) dR) rfl (pW (.inr (by rw[a]at m l ⊢;lia,by lia)))) rfl (cJ (by lia))) ?_;have o0:=eE ((c % 10 ^ S (18:Int)+15485863*(k+1))*48271) (show p≠0 by lia);have o1:=g8 ((c % 10 ^ S (18:Int)+15485863*(k+1))*48271) j;generalize _*48271 % p=o at *;show fL (ap (ap rfl rfl (pW (.inr (by lia,by lia)))) rfl (cJ (by decide))) (fM (_,rfl,eE _ (by decide),g8 _ (by decide)))
def WF(c k n:Int)(x:0<=k)(G:k<=90)(H:1<=n):∃d,BE [.int c,.int k,.int n]=aa d/\∃L:LII,d=.lst (L.map itD)/\InN n.toNat L/\Z L<=3:=by
 have(v,m,I,v1):=oe c k x (by lia);have t0:0<=v % 4:=eE _ (by decide);apply lS;apply ak;show d4 rfl ?_;walk_at "nrm";apply ak;show dq _ _ (λpre M=>∃(L:List _) (f g h:Sl),M=[.im _,.im _,.im _,.own (L.map itD),f,g,h]/\InN n.toNat L/\Z L=Z pre) (pN (aj (ap (aE rfl m) rfl (cJ (by decide))) rfl) t0 (by lia)) ([],_,_,_,rfl,(λz hz=>nomatch hz),rfl) ?_ ?_
 .rintro pre j post M ex ⟨L,f,g,h,rfl,b,e⟩;have C:j<S (v % 4):=fF.mp (by rw[ex];simp)
  have r:Z pre<S (v % 4):=by
   have:Z pre<Z (bw (S (v % 4))):=by rw[ex];simp
   simpa using this
  have(a,l,A,B):=oe c (k+1+j) (by lia) (by lia);have(w,u,p):=kP (E:=[1,1,a / 8 % 4,c % 10 ^ S (60:Int)]) (i:=a / 32 % 4) (eE _ (by decide)) (g8 _ (by decide))
  have y:0<=w:=by
   have:=dU u;simp only[a9,dF,or_false]at this
   rcases this with rfl |rfl |rfl |rfl
   .decide
   .decide
   .show eE _ (by decide)
   .show eE _ (Int.ne_of_gt p60)
  have m1:=g8 (a / 128) (show 0<n by lia);show(_,rfl,?_);apply ak;show bo (aE (aj rfl (aj (ap (ap rfl rfl dR) rfl dR) rfl)) l) ?_;apply ak;show bo (aY (aj rfl (aj rfl (aj (ap (ap rfl rfl (j5 (by decide,by decide))) rfl (cJ (by decide))) (aj (ap rfl (ap rfl rfl (vj IR)) (cJ p60)) rfl)))) (ap (ap rfl rfl (j5 (by decide,by decide))) rfl (cJ (by decide))) p) ?_;show f9 (cw (aj (ap (ap rfl rfl (j5 (by decide,by decide))) rfl (cJ (by lia))) (aj rfl rfl))) rfl (by rw[aq];lia) (L++[(a / 128 % n,w,)],_,_,_,by rw[aT];rfl,λz hz=>?_,by rw[aP,aP,e];rfl)
  rcases bx.mp hz with q |q
  .show b z q
  .rw[bq.mp q];show((eE _ (show n≠0 by lia)),by change _<_;lia,y)
 .rintro M ⟨L,f,g,h,rfl,b,e⟩;rw[bU]at e;show lV rfl (iw (L,rfl,b,by lia))
def WG(c k n:Int)(r:0<=k)(x:k<=80)(w:1<=n):∃d,vK [.int c,.int k,.int n]=aa d/\∃p:Prt,d=p.toD/\p.Ok n.toNat/\Z (nmP p)<=3:=by
 have(v,m,B,v1):=oe c k r (by lia);have(u,l,y,A):=oe c (k+5) (by lia) (by lia);have(d,j,L,rfl,e,q):=WF c (k+1) n (by lia) (by lia) w;have g:Z (L.map (·.1))<=3:=by rw[aq];show q
 apply lS;apply ak;show bo (aE rfl m) ?_;walk_at "nrm";apply ak;show a8 (bE (ap (ap rfl rfl (cJ (by decide))) rfl rW)) (λz=>?_) λz=>b6 ?_
 .have(wd,a,i):=kP (f:=D.str) (E:=["in","in","out","out","in"]) (eE _ (by decide)) (of_decide_eq_true z);have h:=eE (v / 8) (show n≠0 by lia);have m1:=g8 (v / 8) (show 0<n by lia);show fL (cw (aj (aY rfl (ap rfl rfl (cJ (by decide))) i) (aj (ap (ap rfl rfl (j5 (by decide,by decide))) rfl (cJ (by lia))) rfl))) (fM ?_);have:=dU a;simp only[a9,dF,or_false]at this;have one:1<=3:=by decide
  rcases this with rfl |rfl |rfl |rfl |rfl
  .show(.inn _,rfl,(h,by lia),one)
  .show(.inn _,rfl,(h,by lia),one)
  .show(.out _,rfl,(h,by lia),one)
  .show(.out _,rfl,(h,by lia),one)
  .show(.inn _,rfl,(h,by lia),one)
 .walk_at "nrm";have(wd,a,i):=kP (f:=D.str) (E:=["least","most"]) (eE _ (by decide)) (g8 _ (by decide));have a:=dU a;simp only[a9,dF,or_false]at a
  have fin:∀b:Int,∃p:Prt,D.tup [.str wd,.int b,.lst _]=p.toD/\p.Ok n.toNat/\Z (nmP p)<=3:=λb=>by
   rcases a with rfl |rfl
   .show(.least b L,rfl,(e,by lia),g)
   .show(.most b L,rfl,(e,by lia),g)
  apply ak;show bo (aE (aj rfl (aj (ap rfl rfl dR) (aj rfl rfl))) j) ?_;apply ak;show bo (aE (aj rfl (aj (ap rfl rfl dR) rfl)) l) ?_;walk_at "nrm";apply ak;show a8 (bE (ap (ap rfl rfl (cJ (by decide))) rfl (kS _ _))) (λz=>?_) λz=>b6 ?_
  .have c0:=eE c (Int.ne_of_gt p60);show fL (cw (aj (aY rfl (ap rfl rfl (cJ (by decide))) i) (aj (ap (ap rfl (ap rfl rfl (vj IR)) (cJ p60)) (ap (ap (ap rfl rfl (j5 (by decide,by decide))) rfl (cJ (by decide))) rfl lU) (pW (.inr (by lia,by lia)))) (aj rfl rfl)))) (fM (fin _))
  .show fL (cw (aj (aY rfl (ap rfl rfl (cJ (by decide))) i) (aj (ap (ap (ap rfl rfl (j5 (by decide,by decide))) rfl (cJ (by decide))) rfl lU) (aj rfl rfl)))) (fM (fin _))
structure Ru5(n:Nat)(r:Rul):Prop where
 ok:r.Ok n
 nm:∀p∈r.ps,Z (nmP p)<=3
 ln:Z r.ps<=3
def Ru5.k(h:Ru5 n r):RuK n r:=(h.ok,λp a=>cN (h.nm p a) (by decide),cN h.ln (by decide))
def WH(c n:Int)(N:1<=n):∃d,BH [.int c,.int n]=aa d/\∃r:Rul,d=r.toD/\Ru5 n.toNat r:=by
 have(v,H,v0,v1):=oe c 0 (by decide) (by decide);have(u,G,U,Y):=oe c 1 (by decide) (by decide);have(t,A,t0,t1):=oe c 2 (by decide) (by decide);have(wd,l,I):=kP (f:=D.str) (E:=["make","make","make","make","may","may","may","never"]) (i:=v % 8) (eE _ (by decide)) (g8 _ (by decide));have L:=eE t (show n≠0 by lia);have m1:=g8 t (show 0<n by lia);have Q:=eE u (show(4:Int)≠0 by decide);have s1:=g8 u (show(0:Int)<4 by decide);apply lS;change wp _ [.im _,.im _,.no,.no,.no] _;apply ak;show bo (d:=.str wd) (aY rfl (ap (aE rfl H) rfl (cJ (by decide))) I) ?_;apply ak;show bo (d:=.int (u % 4)) (ap (aE rfl G) rfl (cJ (by decide))) ?_;show Hh (λM=>∃z:Int,M=[.im (.int c),.im (.int n),.im (.str wd),.im (.int z),.no]/\0<=z/\z<=3) ?_ ?_
 .show a8 (jZ (bE (ap rfl rfl (rM _ _))) (jZ (bE (ap rfl rfl (kS _ _))) (bE (ap (ap (aE rfl A) rfl (cJ (by decide))) rfl nA)))) (λ_=>?_) λ_=>?_
  .show bo rfl (k_J (2,rfl,by decide,by decide))
  .show b6 (k_J (u % 4,rfl,Q,by lia))
 .rintro M ⟨z,rfl,T,z3⟩
  have(ps,x,y,h):=UE (k:=1) (js:=[0,1]) (g:=ay 0) (ft:=λ_=>aa ac) (fe:=av vK (ag (ae 1) (ag (m2 da (kI 3) (m2 lY (kI 6) (ae 0))) (ag (ae 2) nZ)))) (fi:=io (ag (ae 3) nZ)) (M:=[.im (.int c),.im (.int n),.im (.str wd),.im (.int z),.no]) _ _ Prt.toD (λp=>p.Ok (S n)/\Z (nmP p)<=3) (pN rfl T (by lia)) (by rw[bU];lia) λj B=>by
   have B:=fF.mp B;have(d,C,p,rfl,a):=WG c (3+6*j) n (by lia) (by lia) N;show(p,a,eM rfl rfl (aE (aj rfl (aj (ap rfl (ap rfl rfl (pW (.inr (by lia,by lia)))) dR) (aj rfl rfl))) C))
  rw[bU]at y;have m:Z ps<=3:=by lia
  apply ak;show bo (bB x) ?_;have l:=dU l;simp only[a9,dF,or_false]at l
  have mk:∀w:Wrd,w≠.never->wd=w.s->∃r:Rul,D.tup [.str wd,.int (t % n),.lst (ps.map Prt.toD)]=r.toD/\Ru5 n.toNat r:=λw J e=>⟨(w,t % n,ps),by rw[e];cases w <;> first |rfl |show absurd rfl J,(λ_=>(L,by change t % n<_;lia),λp a=>(h p a).1,by change Z ps<=_;lia),λp a=>(h p a).2,m⟩
  apply ak;show a8 (b:=wd == "never") (bE (ap rfl rfl (rM _ _))) (λe=>?_) λe=>b6 ?_
  .show fL (d:=.tup [.str wd,.non,.lst (ps.map Prt.toD)]) rfl (fM ((.never,0,ps),by rw[eq_of_beq e];rfl,(λq=>absurd rfl q,λp a=>(h p a).1,by change Z ps<=_;lia),λp a=>(h p a).2,m))
  .show fL (d:=.tup [.str wd,.int (t % n),.lst (ps.map Prt.toD)]) (cw (aj rfl (aj (ap (aE rfl A) rfl (cJ (by lia))) (aj rfl rfl)))) (fM ?_)
   rcases l with q |q |q |q |q |q |q |q
   .show mk .make (λz=>nomatch z) q
   .show mk .make (λz=>nomatch z) q
   .show mk .make (λz=>nomatch z) q
   .show mk .make (λz=>nomatch z) q
   .show mk .may (λz=>nomatch z) q
   .show mk .may (λz=>nomatch z) q
   .show mk .may (λz=>nomatch z) q
   .rw[q]at e;nomatch e
def ptE(h:f M=aa (.int v)):mPt f M=aa (aa v):=by unfold mPt;rw[h];rfl
def ru1{w:Wrd}{hd:Int}{ps:List Prt}(h:0<=hd/\hd<(n:Int))(a:∀p∈ps,p.Ok n/\Z (nmP p)<=3)(b:Z ps<=3):Ru5 n (w,hd,ps):=((λ_=>h,λp q=>(a p q).1,by change Z ps<=_;lia),λp q=>(a p q).2,b)
def WI(c n:Int)(x:0<=n)(A:n<=60):∃B:LRu,BC [.int c,.int n]=aa (B.map Rul.toD)/\(∀r∈B,Ru5 n.toNat r)/\Z B<=n.toNat:=by
 suffices h:wp vJ _ (λr=>∃B:LRu,r=.rtO (B.map Rul.toD)/\(∀r∈B,Ru5 n.toNat r)/\Z B<=n.toNat) by
  have(r,e,B,rfl,h):=h;show(B,nB e,h)
 apply ak;show d4 rfl ?_;walk_at "nrm";apply ak;show dq _ _ (λpre M=>∃(B:LRu) (f:Sl),M=[.im _,.im _,.own (B.map Rul.toD),f]/\(∀r∈B,Ru5 n.toNat r)/\Z B<=Z pre) (pN rfl x (by lia)) ([],_,rfl,(λr hr=>nomatch hr),aM _) ?_ ?_
 .rintro pre j post M ex ⟨B,f,rfl,g,h2⟩;have y:j<n.toNat:=fF.mp (by rw[ex];simp)
  have v:Z pre<n.toNat:=by
   have:Z pre<Z (bw n.toNat):=by rw[ex];simp
   simpa using this
  have u:=eE (j+1:Int) (show n≠0 by lia);have m1:=g8 (j+1:Int) (show 0<n by lia);have one:1<=3:=by decide
  have add:∀r:Rul,Ru5 n.toNat r->∃(a:LRu) (f:Sl),[.im _,.im _,.own (B.map Rul.toD++[r.toD]),.im (.int j)]=[Sl.im (.int c),.im (.int n),.own (a.map Rul.toD),f]/\(∀r∈a,Ru5 n.toNat r)/\Z a<=Z (pre++[j]):=λr hr=>(B++[r],_,by rw[aT];rfl,λq w=>by rcases bx.mp w with z |z;show g q z;rw[bq.mp z];show hr,by rw[aP,aP];show Nat.add_le_add_right h2 _)
  have no:∀{k:Int},c % 4≠k->∀M:LS,M[0]?=aa (.im (.int c))->mB (m2 dEq (m2 b5 (ae 0) (kI 4)) (λ_=>aa _)) M=aa af:=λ{k} h M e=>bE (ap (ap (by unfold ae;rw[e]) rfl (cJ (by decide))) rfl ((kS _ _).trans (by rw[beq_false_of_ne h])));have ye:∀{k:Int},c % 4=k->∀M:LS,M[0]?=aa (.im (.int c))->mB (m2 dEq (m2 b5 (ae 0) (kI 4)) (λ_=>aa _)) M=aa ac:=λ{k} h M e=>bE (ap (ap (by unfold ae;rw[e]) rfl (cJ (by decide))) rfl ((kS _ _).trans (by rw[h,beq_self_eq_true])));show(_,rfl,?_);apply ak
  by_cases i:c % 4=1
  .show a8 (ye i _ rfl) (λ_=>?_) λz=>nomatch z;show f9 (d:=Rul.toD (.make,j,[.inn _])) (cw (aj rfl (aj rfl (aj (bB (aj (cw (aj rfl (aj (ap (ap rfl rfl dR) rfl (cJ (by lia))) rfl))) rfl)) rfl)))) rfl (by rw[aq];lia) ?_;apply ak;show a8 (no (by lia) _ rfl) (λz=>nomatch z) λ_=>b6 ?_;show a8 (no (by lia) _ rfl) (λz=>nomatch z) λ_=>b6 (add _ (ru1 (by lia,by lia) (λp b=>by rw[bq.mp b];show((u,by lia),one)) one))
  .show a8 (no i _ rfl) (λz=>nomatch z) λ_=>b6 ?_;apply ak
   by_cases l:c % 4=2
   .show a8 (ye l _ rfl) (λ_=>?_) λz=>nomatch z;show f9 (d:=Rul.toD (.make,j,[.out _])) (cw (aj rfl (aj rfl (aj (bB (aj (cw (aj rfl (aj (ap (ap rfl rfl dR) rfl (cJ (by lia))) rfl))) rfl)) rfl)))) rfl (by rw[aq];lia) ?_;show a8 (no (by lia) _ rfl) (λz=>nomatch z) λ_=>b6 (add _ (ru1 (by lia,by lia) (λp b=>by rw[bq.mp b];show((u,by lia),one)) one))
   .show a8 (no l _ rfl) (λz=>nomatch z) λ_=>b6 ?_
    by_cases m:c % 4=3
    .show a8 (ye m _ rfl) (λ_=>?_) λz=>nomatch z;show f9 (d:=Rul.toD (.may,j,[])) rfl rfl (by rw[aq];lia) (add _ (ru1 (by lia,by lia) (λp b=>nomatch b) (cy _)))
    .show a8 (no m _ rfl) (λz=>nomatch z) λ_=>b6 (B,_,rfl,g,by rw[aP];lia)
 .rintro M ⟨B,f,rfl,g,h2⟩;rw[bU]at h2;show lV rfl (B,rfl,g,h2)
def Kt{x:D}(C:Scr x ns)(U:Z ns<=63){top:Int}(t1:1<=top)(t6:top<=6):∃(n:Nat) (B:LRu),sA [x,.int top]=aa (pl0 n B)/\(n:Int)<top/\(∀r∈B,Ru5 n r)/\Z B<=5+Z ns:=by
 suffices h:∃d,sA _=aa d/\∃(n:Nat) (B:LRu),d=pl0 n B/\n<top/\(∀r∈B,Ru5 n r)/\Z B<=5+Z ns by
  have(d,e,n,B,rfl,h):=h;show(n,B,e,h)
 have(v,J):=Et C (Int.le_refl _);have G:=eE v (show top≠0 by lia);have m1:=g8 v (show 0<top by lia);have(B,j,N,h2):=WI _ _ G (by lia);have(u,Y,I):=kP (f:=D.int) (E:=[60,60,40,24,10,5]) G (by change v % top<6;lia);apply lS;apply ak;show bo (aE rfl J) ?_;apply ak;show bo (ap rfl rfl (cJ (by lia))) ?_;apply ak
 show d4 (vm (aj (ap rfl rfl (j5 (by first |show .inl (by lia,by lia) |show .inr (by lia,by lia) |show(by lia,by lia)))) (aj rfl rfl)) j) ?_
 have g:Z ((ns.drop (HT.sIx ns.length 0 (aa 1))).take (HT.sIx ns.length ns.length (aa (1+u))-HT.sIx ns.length 0 (aa 1)))<=Z ns:=by
  grind
 generalize m:(ns.drop _).take _=A at g;generalize hn:v % top=n at *;apply ak;show dq A D.int (λpre M=>∃(a:LRu) (i:Sl),M=[.im x,.im _,.im _,.im _,.own (a.map Rul.toD),i]/\(∀r∈a,Ru5 n.toNat r)/\Z a<=5+Z pre) (d8 (bB ((C.sl rfl rfl (ptE (ap rfl (aY rfl rfl I) dR))).trans (by rw[m]))) rfl) (B,_,rfl,N,by change _<=5;lia) ?_ ?_
 .rintro pre c post M ex ⟨a,i,rfl,l,L⟩;have Q:Z pre<Z A:=by rw[ex];simp
  have add:∀r:Rul,Ru5 n.toNat r->∃(b:LRu) (i:Sl),[.im x,.im _,.im _,.im _,.own (a.map Rul.toD++[r.toD]),.im (.int c)]=[Sl.im x,.im (.int top),.im (.int v),.im (.int n),.own (b.map Rul.toD),i]/\(∀r∈b,Ru5 n.toNat r)/\Z b<=5+Z (pre++[c]):=λr hr=>(a++[r],_,by rw[aT];rfl,λq T=>by rcases bx.mp T with z |z;show l q z;rw[bq.mp z];show hr,by rw[aP,aP];change _+1<=5+(_+1);lia)
  show(_,rfl,?_);show a8 (bE (ap rfl rfl (kS _ _))) (λz=>?_) λz=>?_
  .have w:n=0:=by simpa using z
   show f9 (d:=Rul.toD (.never,0,[.most _ []])) (cw (aj rfl (aj rfl (aj (bB (aj (cw (aj rfl (aj (ap (ap rfl rfl (cJ (by decide))) rfl lU) (aj rfl rfl)))) rfl)) rfl)))) rfl (by rw[aq];lia) (add _ ((λq=>absurd rfl q,(λp y=>by rw[bq.mp y];show(λz hz=>(nomatch hz),cy _)),(by decide:1<=100000)),λp y=>by rw[bq.mp y];show cy _,(by decide:1<=3)))
  .have w:n≠0:=λq=>by rw[q]at z;nomatch z
   have(d,H,r,rfl,hr):=WH c n (by lia);show f9 (aE rfl H) rfl (by rw[aq];lia) (add r hr)
 .rintro M ⟨a,i,rfl,l,L⟩;show lQ rfl (fL rfl (fM (S n,a,?_,by lia,l,by lia)));unfold pl0;rw[show(n.toNat:Int)=n by lia]
def WJ(p:Prt):Bv [p.toD]=aa p.toD:=by
 cases p with
 |inn t=>rfl
 |out t=>rfl
 |least k L=>rfl
 |most k L=>rfl
def Ku(hr:∀r∈B,Ru5 n r)(f:Z B<=1000):sx [pl0 n B]=aa (pl0 n B):=by
 apply jG;apply ak;show d4 rfl ?_;apply ak;show dq B Rul.toD (λpre M=>∃a b c,M=[.im _,.own (pre.map Rul.toD),a,b,c]) (d8 (aY rfl rfl rfl) rfl) (_,_,_,rfl) ?_ ?_
 .rintro pre r post M ex ⟨a,b,c,rfl⟩;have d:Z pre<Z B:=by rw[ex];simp
  have e:=(hr r (by rw[ex];simp)).ln;show(_,rfl,?_);show f9 (cw (aj rfl (aj rfl (aj (bB (fh r.ps Prt.toD Prt.toD rfl (by lia) λp _=>eM rfl rfl (aE rfl (WJ p)))) rfl)))) rfl (by rw[aq];lia) (.im (.str r.w.s),.im r.hdD,.im (.lst (r.ps.map Prt.toD)),?_);rw[aT];rfl
 .rintro M ⟨a,b,c,rfl⟩;show lQ rfl (fL rfl (fM rfl))
def Eu(a:n<=5)(hr:∀r∈B,Ru5 n r)(c:Z B<=69):Par n (64*4*Z B) 950900 4760000 B:=by
 have b:3 ^ n<=243:=xu (by decide) a
 have key:∀W8 W6:Nat,W8=950900->W6=4760000->Par n (64*4*Z B) W8 W6 B:=λW8 W6 hC hB=>by
  show(λr q=>(hr r q).k,by lia,by lia,by lia,by lia,by lia)
 show key _ _ rfl rfl
def Ev(hr:∀r∈B,Ru5 n r):∀r∈B,Z (grd r)<=4:=λr q=>by
 have:=(hr r q).ln;have(w,hd,ps):=r;have this:Z ps<=3:=this
 cases w with
 |may=>show(by decide:1<=4)
 |never=>change Z ps<=4;lia
 |make=>change(ps++[_]).length<=4;rw[aP];change _+1<=4;lia
variable{e:LOB}
def Kv(c:p.Ok (Z e))(t0:0<=t)(t1:t<(Z e:Int))(a:opn e t=ac)(h:t∉nmP p\/gY p≠b):p.sure (put e t.toNat b)=p.sure e:=by
 rcases h with h |h
 .show UW c (by grind)
 .have d:=i0 a
  cases p with
  |inn u=>
   cases b with
   |true=>show absurd rfl h
   |false=>
    change((put e t.toNat af).getD u.toNat ab==aa ac)=(e.getD u.toNat ab==aa ac)
    by_cases q:S u=S t
    .rw[q,fj e af (by lia),d];rfl
    .rw[c7 e af q]
  |out u=>
   cases b with
   |false=>show absurd rfl h
   |true=>
    change((put e t.toNat ac).getD u.toNat ab==aa af)=(e.getD u.toNat ab==aa af)
    by_cases q:S u=S t
    .rw[q,fj e ac (by lia),d];rfl
    .rw[c7 e ac q]
  |least k L=>
   cases b with
   |true=>show absurd rfl h
   |false=>
    change decide _=decide _;rw[wx c.1 t0 t1 a af]
    simp
  |most k L=>
   cases b with
   |false=>show absurd rfl h
   |true=>
    change decide _=decide _;rw[wz c.1 t0 t1 a ac];simp
structure eD(G:List Prt)(es:LOB)(S:LI0):Prop where
 ns:¬eC G es
 np:∀(t:Int) (b:Bool),0<=t->t<(Z es:Int)->opn es t=ac->eC G (put es t.toNat (!b))->t∈S
variable{S:LI0}
def eD.pt(h:eD G es (t::S))(i:∀p∈G,p.Ok (Z es))(t0:0<=t)(t1:t<(Z es:Int))(j:opn es t=ac)(hn:∀p∈G,t∉nmP p\/gY p≠b):eD G (put es t.toNat b) S:=by
 show(λq=>h.ns λp a=>by rw[<- Kv (i p a) t0 t1 j (hn p a)];show q p a,λu c d l f q=>?_);rw[cb]at l
 have ne:u≠t:=λe=>by
  unfold opn at f;rw[e,fj es b (by lia)]at f
  grind
 have g:opn es u=ac:=by rw[<- Ec d t0 ne];show f
 have:=h.np u c d l g λp a=>by
  have e:=Kv (e:=put es u.toNat (!c)) (by rw[cb];show i p a) t0 (by rw[cb];show t1) (wG t0 d (λe=>ne e.symm) j) (hn p a);rw[<- e,wF (by lia)]
  grind
 grind
def eD.of_prs{ps:List Pr}(c:∀p∈G,p.Ok (Z es))(h:prs G es=aa ps):eD G es (ps.map (·.1)):=by
 have(_,h2,p,e,a):=n6 c h;show((λq=>by rw[q p e]at a;nomatch a),λt b t0 t1 d q=>(aG.mpr (_,(h2 (t,b,)).mpr ((t0,t1),d,q),rfl)))
def Wch(B:LRu)(bs:LLP)(tw:Wt)(y:Wy):Prop:=∀p∈bP B bs y,∀t∈nmL p,y∈look tw (t,gY p,)
def Jq(B:LRu)(s:Spt)(y0:Wy)(S:LI0):Prop:=∀y∈gys B.length (Z s.bs),Wch B s.bs s.tw y->y∈s.wt\/eD (bP B s.bs y) s.es (if y=y0 then S else [])
def eD.more{f:LI0}(h:eD G es S)(g:∀t∈S,t∈f):eD G es f:=(h.ns,λt b a c d e=>g t (h.np t b a c d e))
variable{y0:Wy}
def Jq.pt{w:D}(hr:∀r∈B,RuK n r)(k:SpJ n c W6 B s)(h:Jq B s y0 (t::S))(t0:0<=t)(t1:t<(n:Int))(g:opn s.es t=ac):Jq B (s.pt t b w) y0 S:=λy i e=>by
 have f:∀p∈bP B s.bs y,p.Ok (Z s.es):=by rw[k.es];show n8 hr k.bk
 rcases h y i e with q |q
 .show .inl (b8 _ q)
 .by_cases hn:∀p∈bP B s.bs y,t∉nmP p\/gY p≠b
  .show .inr (eD.pt (q.more ?_) f t0 (by rw[k.es];show t1) g hn)
   grind
  .have(p,a):=Classical.not_forall.mp hn;have(a,d):=Classical.not_imp.mp a;show .inl (cF _ ?_);have:=e p a t (sS.mpr (Classical.not_not.mp λz=>d (.inl z)));rw[(Classical.not_not.mp λz=>d (.inr z))]at this;show this
def Jq.puts{n c W6:Nat}{B:LRu}{y0:Wy}{w:D}(hr:∀r∈B,RuK n r):∀{ps:List Pr} {s:Spt},SpJ n c W6 B s->fP s.es ps->Jq B s y0 (ps.map (·.1))->Jq B (puts s w ps) y0 []
 | [],_,_,_,h=>h
 |z::ps,s,k,p,h=>by
  have((a,b),e):=p.op z aA;have b:z.1<n:=by rw[<- k.es];show b
  show Jq.puts hr (ps:=ps) (k.pt a b e).1 p.tail (Jq.pt hr k h a b e)
def Jr(B:LRu)(s:Spt):Prop:=∀y0,Jq B s y0 []
def Jr.of(h:Jq B s y0 []):Jr B s:=λ_ y b a=>by
 rcases h y b a with q |q
 .grind
 .grind
def Kw{n c W6:Nat}{B:LRu}(hr:∀r∈B,RuK n r):∀(k:Nat) (s:Spt),SpJ n c W6 B s->Me c s<k->Jr B s->(lrF B k s).1=ab->Jr B (lrF B k s).2
 | 0,_,_,h,_,_=>absurd h (iD _)
 |k+1,s,h,hk,hj,he=>by
  cases b:s.wt with
  |nil=>rw[tj b];show hj
  |cons y wt=>
   have(f,h2,m):=h.pop b;have g:∀p∈bP B s.bs y,p.Ok (Z s.es):=by rw[h.es];show n8 hr h.bk
   cases a:prs _ s.es with
   |none=>rw[tm b a]at he;cases he
   |some ps=>
    rw[qt b a]at he ⊢;have(i,u,_):=n6 g a;have(l,v):=n4 f i;show Kw hr k _ l (by lia) (Jr.of (Jq.puts (y0:=y) hr f i ?_)) he;intro x j d
    by_cases e:x=y
    .rw[if_pos e];show .inr (by rw[e];show eD.of_prs g a)
    .rw[if_neg e]
     rcases hj x x j d with q |q
     .grind
     .grind
def Kx{n c W6:Nat}{B:LRu}{wo:LB0}(hr:∀r∈B,RuK n r):∀{ts:LI0} {s:Spt},SpJ n c W6 B s->fP s.es (ts.map λt=>(t,af,))->Jr B s->Jr B (eT B wo s ts)
 | [],_,_,_,h=>h
 |t::ts,s,k,p,h=>by
  have((a,b),e):=p.op _ aA;have b:t<n:=by rw[<- k.es];show b
  show Kx hr (ts:=ts) (k.pt a b e).1 p.tail (Jr.of (y0:=(af,0,)) (Jq.pt hr k (λy g f=>?_) a b e))
  rcases h y y g f with q |q
  .grind
  .rw[if_pos rfl]at q;show .inr (q.more λu d=>nomatch d)
def oh(B:LRu)(es:LOB):Prop:=∀wo,Grp B es wo->∀i,wo.getD i af=af
def WK(hm:fw es.length ms)(pm:ms.Perm (dM B))(g:Grp B es wo)(i:Nat)(hi:wo.getD i af=ac):(cr es ms).1.getD i af=ac:=by
 have(e,_):=Jn hm.ne;show U6 hm.ok e.pe (by rw[g.len];unfold jJ;rw[aq]) (λj a=>?_) (λj a=>by rw[getD_nil]at a;nomatch a) (λr hr d=>?_) i hi
 .have f:=g.no j a
  have c:j<Z es:=by
   rw[<- g.len]
   grind
  unfold jJ
  grind
 .have(_,h2,b):=Jj d;rw[g.up r (pm.mem_iff.mp hr) h2]at b
  grind
def WL(wo:LB0)(es:LOB)(l:Z wo=Z es)(i:Nat):(tf es wo).getD i ab=if wo.getD i af=ac then aa af else es.getD i ab:=by
 unfold tf
 have gen:∀(ts:LI0) e,Z e=Z es->(∀t∈ts,0<=t/\t<Z es)->(ts.foldl (λes t=>put es t.toNat af) e).getD i ab=if (i:Int)∈ts then aa af else e.getD i ab:=by
  intro ts
  induction ts with
  |nil=>intro e _ _;rfl
  |cons t ts j=>
   intro e f c;have(a,b):=c t aA;rw[fQ,j _ (by rw[cb];show f) λu g=>c u (bj _ g)]
   by_cases d:(i:Int)∈ts
   .grind
   .rw[if_neg d]
    by_cases h2:i=t
    .rw[if_pos (by grind),show i=t.toNat by lia,fj e af (by lia)]
    .rw[if_neg (λq=>by rcases a9.mp q with z |z;show h2 z;show d z),c7 e af (by lia)]
 rw[gen _ es rfl λt c=>?_]
 .by_cases h:wo.getD i af=ac
  .rw[if_pos h,if_pos ((vY wo i).mpr (by lia,by rw[cL];show h))]
  .rw[if_neg h,if_neg (λq=>h (by have:=((vY wo i).mp q).2;rwa [cL]at this))]
 .have(t0,tw):=(vY wo t).mp c
  grind
def lost_by(h:p.Ok (Z es))(a:∀i,es.getD i ab=aa ac->es'.getD i ab=aa ac)(h2:∀i,(es.getD i ab=aa af\/wo.getD i af=ac)->(es'.getD i ab=aa af\/wo'.getD i af=ac))(s:p.lost es wo=ac):p.lost es' wo'=ac:=JW h (λt _=>a _) (λt _=>h2 _) s
def WM(hr:∀r∈B,RuK n r)(hz:Z B<=1000)(h:SpJ n c W6 B s)(y:(bJ B s).1=ab):oh B (bJ B s).2.es:=by
 have hm:=fw.of hr hz h.ms;have(M,l,pm,C):=h.rem' hm;unfold bJ at y ⊢
 cases H:inL s.es (cr s.es s.ms).1 with
 |cons x E=>rw[H]at y;nomatch y
 |nil=>
  have(_,_,T,_,_,_):=wM M (tF l.1 H C);rw[T,wI];change oh B (tf s.es (cr s.es s.ms).1);have b:=WL (cr s.es s.ms).1 s.es l.1;have m:fw s.es.length s.ms:=by rw[h.es];show hm
  have A:=λwo i=>WK (wo:=wo) m h.ms (i:=i);generalize (cr s.es s.ms).1=wo at *
  have d:Z (tf s.es wo)=Z s.es:=by
   have:∀(ts:LI0) e,Z (ts.foldl (λes t=>put es t.toNat af) e)=Z e:=by
    intro ts
    induction ts with
    |nil=>intro e;rfl
    |cons t ts Q=>intro e;rw[fQ,Q,cb]
   show this _ _
  intro w g i
  cases hi:w.getD i af with
  |false=>rfl
  |true=>
   exfalso
   have a:∀j,(ou (· || ·) wo w).getD j af=(wo.getD j af || w.getD j af):=λj=>by
    have N:Z w=Z wo:=by rw[g.len,d,l.1]
    grind
   have L:Grp B s.es (ou (· || ·) wo w):=by
    show(by rw[length_zipWith,g.len,d,l.1,t7],λj I=>?_,λr f J=>?_)
    .rw[a]at I
     rcases(jQ _ _).mp I with q |q
     .grind
     .intro e;show g.no j q ?_
      grind
    .have v:=m.ok r (h.ms.mem_iff.mpr f);rw[a]at J
     rcases(jQ _ _).mp J with q |q
     .show rO (λp G z=>lost_by (v.ps p G) (λj e=>e) (λj e=>e.imp id λu=>by rw[a,u];rfl) z) (l.2 r (h.ms.mem_iff.mpr f) q)
     .show rO (λp G z=>lost_by (by rw[d];show v.ps p G) (λj e=>?_) (λj e=>?_) z) (g.up r f q)
      .grind
      .rw[a]
       rcases e with e |e
       .rw[b]at e;split at e
        .rename_i u;show .inr (by rw[u];rfl)
        .show .inl e
       .show .inr (by rw[e];show qH _)
   show g.no i hi ?_;rw[b,if_pos (A _ i L (by rw[a,hi];show qH _))]
def WN(hr:∀r∈B,RuK n r)(hz:Z B<=1000)(h:SpJ n c W6 B s)(g:Jr B s)(a:(bJ B s).1=ab):Jr B (bJ B s).2:=by
 have(e,f,pm,b):=h.rem' (fw.of hr hz h.ms);unfold bJ at a ⊢
 cases d:inL s.es (cr s.es s.ms).1 with
 |cons x E=>rw[d]at a;nomatch a
 |nil=>show Kx hr e (tF f.1 d b) g
def Ky{n c W6:Nat}{B:LRu}(hr:∀r∈B,RuK n r)(hz:Z B<=1000):∀(k:Nat) (s:Spt),SpJ n c W6 B s->Me c s<k->Jr B s->(stF B c k s).1=ab->Jr B (stF B c k s).2/\(stF B c k s).2.wt=[]/\oh B (stF B c k s).2.es
 | 0,_,_,h,_,_=>absurd h (iD _)
 |k+1,s,h,hk,hj,he=>by
  have l:=tq hr _ s h (c8 _);have f:=Kw hr _ s h (c8 _) hj;unfold stF at he ⊢;generalize lrF B _ s=R at l f he ⊢
  by_cases b:R.1.isSome=ac
  .simp_all
  .rw[if_neg b]at he ⊢;have(g,q,u,v,i,w):=wN hr hz l.ok;have j:=WN hr hz l.ok (f (none_of b));have pg:=WM hr hz l.ok;have p:=l.le;generalize bJ B R.2=P at *
   by_cases a:(P.1.isSome || P.2.wt.isEmpty)=ac
   .grind
   .rw[if_neg a]at he ⊢;have d:=none_of λe=>a (by rw[e];rfl);have h2:P.2.wt≠[]:=λe=>a (by grind);have m:=i d (l.no (none_of b)) h2;show Ky hr hz k P.2 g (by lia) (j d) he
def Ind(bs:LLP)(tw:Wt)(j:Nat):Prop:=∀p,cn tw p (ac,j,)=if p∈bs.getD j [] then 1 else 0
structure Dw(B:LRu)(bs:LLP)(tw:Wt):Prop where
 ru:∀i,i<Z B->Wch B bs tw (af,i,)
 br:∀j,j<Z bs->Ind bs tw j\/∃j2,j<j2/\j2<Z bs/\∀p∈bs.getD j2 [],p∈bs.getD j []
def WO{p q:Pr}{z:Wy}(h:z∈look tw q):z∈look (gK p y tw) q:=by
 rw[sY]
 grind
def Ew{b:Bool}{q:Pr}{y z:Wy}:∀(ts:LI0) {tw:Wt},z∈look tw q->z∈look (ts.foldl (λtw t=>gK (t,b,) y tw) tw) q
 | [],_,h=>h
 |t::ts,tw,h=>Ew ts (WO h)
def wY{q:Pr}{y z:Wy}:∀(ps:List Prt) {tw:Wt},z∈look tw q->z∈look (gc y ps tw) q
 | [],_,h=>h
 |p::ps,tw,h=>wY ps (Ew _ h)
def Kz{y:Wy}:∀(ps:List Prt) {tw:Wt} {p:Prt} {t:Int},p∈ps->t∈nmL p->y∈look (gc y ps tw) (t,gY p,)
 | [],_,_,_,h,_=>nomatch h
 |q::ps,tw,p,t,h,ht=>by
  rcases a9.mp h with e |e
  .show wY ps ?_;rw[<- e]
   have gen:∀(ts:LI0) tw,t∈ts->y∈look (ts.foldl (λtw t=>gK (t,gY p,) y tw) tw) (t,gY p,):=by
    intro ts
    induction ts with
    |nil=>intro tw h;cases h
    |cons u ts a=>
     intro tw h
     rcases a9.mp h with e |e
     .show Ew ts ?_;rw[sY,if_pos (by rw[e])]
      grind
     .grind
   show gen _ tw ht
  .show Kz ps e ht
def KA{q:Pr}{z:Wy}:∀(B:LRu) (i:Nat) {tw:Wt},z∈look tw q->z∈look (nX i B tw) q
 | [],_,_,h=>h
 |r::B,i,tw,h=>KA B _ (wY _ h)
def KB:∀(B:LRu) (i j:Nat) (tw:Wt) (r:Rul),B[j]?=aa r->∀p∈grd r,∀t∈nmL p,(af,i+j,)∈look (nX i B tw) (t,gY p,)
 | [],_,_,_,_,h,_,_,_,_=>by cases h
 |r'::B,i,0,tw,r,h,p,hp,t,ht=>by
  cases h
  show KA B _ (Kz _ hp ht)
 |r'::B,i,j+1,tw,r,h,p,hp,t,ht=>by
  have:=KB B (i+1) j (gc (af,i,) (grd r') tw) r h p hp t ht;rw[show i+1+j=i+(j+1) by lia]at this;show this
def WP(es:LOB)(B:LRu):Dw B [] (spT es B).tw:=by
 show(λi hi p a t c=>?_,λj b=>absurd b (iD _))
 have e:bP B [] (af,i,)=grd B[i]:=by
  change((B[i]?).map grd).getD []=_;rw[b7 hi];rfl
 rw[e]at a;have:=KB B 0 i [] B[i] (b7 hi) p a t c;rw[jR]at this;show this
def KC{bs:LLP}(a:∀b∈bs,b.Nodup)(p:Pr)(i:Nat):∀(W5:List Wy) (tw:Wt),cn (W5.foldl (jK bs) tw) p (af,i,)=cn tw p (af,i,)
 | [],_=>rfl
 |y::W5,tw=>by
  rw[fQ,KC a p i W5,qr a,if_neg (λx=>by rw[<- x.2.2]at x;cases x.1)]
def Dw.bar{bs:LLP}{b:List Pr}(h:Dw B bs tw)(k:d6 c B.length bs tw)(bk:∀b∈bs,cX n b)(m:cX n b):Dw B (bs++[b]) (gc (ac,Z bs,) (brg b) (l9 bs tw b)):=by
 have a:=λb q=>(bk b q).pd;show(λi hi p d t u=>?_,λj r=>?_)
 .have:=h.ru i hi p d t u;show wY _ (g4.mpr ?_);unfold l9;rw[KC a];show g4.mp this
 .rw[aP,fB]at r;unfold Ind
  by_cases e:j=Z bs
  .show .inl λp=>?_;rw[ma,if_pos e,e]
   have l:cn _ p (ac,Z bs,)=0:=Nat.eq_zero_of_not_pos λq=>by
    have:Z bs<Z bs:=fq.mp ((k.dropped a b).vl p _ (g4.mpr q));show gE _ this
   rw[D7,l,jR,m.pd.count]
  .have f:j<Z bs:=by lia
   rw[ma,if_neg e]
   by_cases g:(ac,j,)∈wider tw b
   .show .inr (Z bs,f,by rw[aP,fB];lia,λp d=>?_);rw[ma,if_pos rfl]at d;show(k.wide g).2.2.1 p d
   .rcases h.br j f with q |⟨j2,q1,q2,q3⟩
    .show .inl λp=>?_;rw[nY λz=>e (t9 z).2];unfold l9;rw[wE a p _ _ _ g];show q p
    .show .inr (j2,q1,by rw[aP,fB];lia,λp d=>?_);rw[ma,if_neg (by lia)]at d;show q3 p d
structure jO(B:LRu)(bs:LLP)(es:LOB):Prop where
 ru:∀r∈B,eD (grd r) es []
 br:∀b∈bs,eD (brg b) es []
 gr:oh B es
def eD.sub{g:List Prt}(h:eD G es S)(i:∀p∈G,p∈g):eD g es S:=(λq=>h.ns λp f=>q p (i p f),λt b a c d e=>h.np t b a c d λp f=>e p (i p f))
def Ind.wch{bs:LLP}(h:Ind bs tw j):Wch B bs tw (ac,j,):=λp c t a=>by
 have(z,hz,rfl):=aG.mp c
 have e:t=z.1/\gY (brP z)=z.2:=by
  have(u,b):=z
  cases b with
  |true=>show(bq.mp a,rfl)
  |false=>show(bq.mp a,rfl)
 rw[e.1,e.2];show g4.mpr ?_;rw[h z,if_pos hz]
 grind
def KD(hr:∀r∈B,RuK n r)(hz:Z B<=250)(J:SpJ n c W6 B s)(jr:Jr B s)(dm:Dw B s.bs s.tw)(x:(stF B c (Me c s+1) s).1=ab)(h:(stF B c (Me c s+1) s).2.tw=s.tw):jO B s.bs (stF B c (Me c s+1) s).2.es/\Jr B (stF B c (Me c s+1) s).2:=by
 have g:=(Eh hr (by lia) _ _ J (c8 _)).bs;have(w,j2,I):=Ky hr (by lia) _ _ J (c8 _) jr x;show(?_,w);generalize stF B c _ s=R at *
 have v:∀y∈gys B.length (Z s.bs),Wch B s.bs s.tw y->eD (bP B s.bs y) R.2.es []:=λy G E=>by
  rcases w y y (by rw[g];show G) (by rw[g,h];show E)with z |z
  .rw[j2]at z;nomatch z
  .rw[if_pos rfl,g]at z;show z
 have a:∀(m j:Nat),Z s.bs-j=m->j<Z s.bs->eD (brg (s.bs.getD j [])) R.2.es []:=by
  intro m
  induction m using Nat.strongRecOn  with
  |ind m H=>
   intro j hm d
   rcases dm.br j d with z |⟨j2,z1,z2,z3⟩
   .show v _ (fq.mpr d) z.wch
   .show(H _ (by lia) j2 rfl z2).sub λp A=>?_;have(u,C,rfl):=aG.mp A;show aG.mpr (u,z3 u C,rfl)
 show(λr q=>?_,λb l=>?_,I)
 .have(i,hi):=om q;have f:=(cM.mp hi).1;have:=v _ (fq.mpr f) (dm.ru i f)
  have e:bP B s.bs (af,i,)=grd r:=by
   change((B[i]?).map grd).getD []=_;rw[hi];rfl
  rw[e]at this;show this
 .have(j,d):=om l;have:=a _ j rfl ((cM.mp d).1);rw[bp,d]at this;show this
def KE{bs:LLP}(d:y∈gys B.length (Z bs)):(∃r∈B,bP B bs y=grd r)\/∃b∈bs,bP B bs y=brg b:=by
 have(a,j):=y;have c:=fq.mp d
 cases a with
 |false=>
  show .inl (B[j],iB c,?_);change((B[j]?).map grd).getD []=_
  grind
 |true=>
  show .inr (bs[j],iB c,?_);change brg _=_
  grind
variable{F:LOB}
def qz{t:Nat}(f:cR e F)(h:F.getD t ab=aa b):cR (put e t b) F:=by
 show(by rw[cb];show f.len,λi=>?_)
 by_cases q:i=t
 .by_cases a:t<Z e
  .rw[q,fj e b a];grind
  .show .inl (by rw[q,bp,gB (by rw[cb];lia)];rfl)
 .rw[c7 e b q];show f.at' i
def wZ(F:LOB)(wo:LB0):LB0:=(bw (Z wo)).map λi=>wo.getD i af && !(F.getD i ab==aa af)
def w5(F:LOB)(wo:LB0)(i:Nat):(wZ F wo).getD i af=(wo.getD i af && !(F.getD i ab==aa af)):=by
 unfold wZ
 grind
def jO.grp{bs:LLP}(h:jO B bs F)(hr:∀r∈B,RuK F.length r)(f:cR e F)(gl:Z wo=Z e)(g:∀r∈dM B,wo.getD r.hd.toNat af=ac->r.bodyLost e wo=ac)(i:Nat)(hi:wo.getD i af=ac):F.getD i ab=aa af:=by
 have d:Grp B F (wZ F wo):=by
  show(by unfold wZ;rw[aq,bU,gl,f.len],λj b e=>?_,λr hm c=>?_)
  .rw[w5,e,Bool.and_comm]at b
   nomatch b
  .rw[w5]at c;have(l,h2):=(ce _ _).mp c;have(n,v):=cg.mp hm;show rO (λp m z=>lost_by (by rw[<- f.len];show(hr r n).ok.ps p m) (λj q=>?_) (λj q=>?_) z) (g r hm l)
   .rcases f.at' j with u |u
    .rw[q]at u;nomatch u
    .show u.trans q
   .by_cases a:F.getD j ab=aa af
    .show .inl a
    .rcases q with q |q
     .rcases f.at' j with u |u
      .rw[q]at u;nomatch u
      .show .inl (u.trans q)
     .show .inr ?_;rw[w5,q,beq_false_of_ne a];rfl
 have:=h.gr _ d i;rw[w5,hi,qG]at this;show eq_of_beq (by simpa using this)
def jO.rt{bs:LLP}(h:jO B bs F)(m:Z F=n)(hr:∀r∈B,RuK n r)(c:∀b∈bs,cX n b)(f:cR e F)(j:w.nc=ac)(k:Rt n B bs e w):False:=by
 subst m
 cases w with
 |ch=>nomatch j
 |wd i=>nomatch j
 |gd y=>
  have ok:=n8 hr c (y:=y);rw[f.len]at ok;have g:eC (bP B bs y) F:=λp d=>Pp f (ok p d) (k.2 p d)
  rcases KE k.1 with⟨r,hr,e⟩ |⟨b,c,e⟩
  .show(h.ru r hr).ns (e▸g)
  .show(h.br b c).ns (e▸g)
 |gp ks=>
  have(x,l,ex):=k.i;have(v,z):=k.nn x l;have:=h.grp hr f (by rw[qu,f.len]) (λr hm hd=>k.up r hm ?_) x.toNat ((me v z).mpr l)
  .rcases f.at' x.toNat with u |u
   .rw[ex]at u;nomatch u
   .rw[ex,this]at u;nomatch u
  .have q:=cg.mp hm;have a:=(hr r q.1).ok.hd (by simpa using q.2);show(me a.1 a.2).mp hd
structure Wrl(n:Nat)(B:LRu)(F:LOB):Prop where
 len:Z F=n
 fu:∀i,i<n->F.getD i ab≠ab
 ru:∀r∈B,¬eC (grd r) F
 gr:oh B F
def Bef(F G:LOB):Prop:=∃t:Nat,(∀j,j<t->F.getD j ab=G.getD j ab)/\F.getD t ab=aa ac/\G.getD t ab=aa af
variable{G:LOB}
def w6{b:List Pr}:eC (brg b) G↔∀y∈b,G.getD y.1.toNat ab=aa y.2:=by
 have one:∀y:Pr,(brP y).sure G=ac↔G.getD y.1.toNat ab=aa y.2:=λy=>by
  have(t,v):=y
  cases v <;> show beq_iff_eq
 show(λh y a=>(one y).mp (h _ (aG.mpr (y,a,rfl))),λh p c=>?_);have(y,a,rfl):=aG.mp c;show(one y).mpr (h y a)
def Wrl.quiet{P:List Prt}(h:Wrl n B G)(k:¬eC P G):eD P G []:=(k,λt b t0 t1 a _=>absurd (i0 a) (h.fu _ (by rw[h.len]at t1;lia)))
def Wrl.cl{bs:LLP}(h:Wrl n B G)(a:∀b∈bs,¬eC (brg b) G):jO B bs G:=(λr hr=>h.quiet (h.ru r hr),λb q=>h.quiet (a b q),h.gr)
def Ex(f:cR e G)(b:∀i,i<Z e->e.getD i ab≠ab):e=G:=by
 show ext_getElem f.len.symm λi a h2=>?_;have q:=(f.at' i).resolve_left (b i a);rw[bp,bp,b7 a,b7 h2]at q;show Eq.symm q
def bne{a:Bool}(h:¬a=b):a=!b:=by cases a <;> cases b <;> first |rfl |show absurd rfl h
def KF{bs:LLP}(hr:∀r∈B,RuK n r)(a:∀b∈bs,cX n b)(h:Wrl n B G)(c:∀b∈bs,¬eC (brg b) G):∀(dn:List Ls) (u:LOB),Z u=n->cR u G->cR u F->(∀x∈dn,∀z,x.1=aa z->x.2.nc=ac/\(0<=z.1/\z.1<(n:Int))/\F.getD z.1.toNat ab=aa z.2)->tH n B bs u dn->G=F
 | [],_,_,_,_,_,d=>d.elim
 |(ab,w,)::l,u,hu,f,g,k,d=>by
  obtain⟨_,hR⟩:l=[]/\Rt n B bs u w:=d
  cases w with
  |ch=>show hR.elim
  |wd i=>
   have e:∀i,i<Z u->u.getD i ab≠ab:=λi hi=>hR i (by lia)
   show(Ex f e).symm.trans (Ex g e)
  |gd y=>show((h.cl c).rt h.len hr a f rfl hR).elim
  |gp ks=>show((h.cl c).rt h.len hr a f rfl hR).elim
 |(aa z,w,)::l,u,hu,f,g,k,d=>by
  obtain⟨q,hR,d⟩:opn u z.1=ac/\Rt n B bs (put u z.1.toNat (!z.2)) w/\tH n B bs (put u z.1.toNat z.2) l:=d;have(m,A,hz):=k _ aA z rfl;show KF hr a h c l _ (by rw[cb];show hu) (qz f ?_) (qz g hz) (λx p=>k x (bj _ p)) d
  cases j:G.getD z.1.toNat ab with
  |none=>show absurd j (h.fu _ (by lia))
  |some v=>
   by_cases hv:v=z.2
   .rw[hv]
   .show((h.cl c).rt h.len hr a (qz f (by rw[j,bne hv])) m hR).elim
def w9:∀{W5:LSp},Z G=n->(∀x∈W5,G.getD x.1.1.toNat ab=aa x.1.2)->cR (aZ n W5) G
 | [],hl,_=>(by rw[hl];show mi.symm,λi=>.inl (by change(hE n ab).getD i ab=ab;rw[bp,oj];split <;> rfl))
 |x::W5,hl,h=>qz (w9 hl λy a=>h y (bj _ a)) (h x aA)
def KG{t:Nat}:∀{W5:LSp},(∀x∈W5,x.1.1.toNat≠t)->(aZ n W5).getD t ab=ab
 | [],_=>by change(hE n ab).getD t ab=ab;rw[bp,oj];split <;> rfl
 |x::W5,h=>by
  rw[aZ,c7 _ _ λq=>h x aA q.symm];show KG λy a=>h y (bj _ a)
def KH{x:Stp}(a:x.1.1.toNat<n):∀{W5:LSp},x∈W5->(aZ n W5).getD x.1.1.toNat ab≠ab
 |y::W5,h=>by
  rw[aZ]
  by_cases e:x.1.1.toNat=y.1.1.toNat
  .rw[e,fj _ _ (by rw[fA];lia)];show λq=>nomatch q
  .rw[c7 _ _ e]
   rcases a9.mp h with q |q
   .show absurd (by rw[q]) e
   .show KH a q
def KI{d g:Type}{f:d->g}:∀{l:List d},(l.map f).Nodup->∀{a b:d},a∈l->b∈l->f a=f b->a=b
 |c::l,h,a,b,ha,hb,e=>by
  rw[bG,b9]at h
  rcases a9.mp ha with p |p <;> rcases a9.mp hb with q |q
  .rw[p,q]
  .show absurd (aG.mpr (_,q,by rw[<- e,p])) h.1
  .show absurd (aG.mpr (_,p,by rw[e,q])) h.1
  .show KI h.2 p q e
variable{bar:List Pr}
def Ey{bs:LLP}(hr:∀r∈B,RuK n r)(m:∀b∈bs,cX n b)(h:Wrl n B G)(A:∀b∈bs,¬eC (brg b) G)(tr:Tr n B bs st)(k:jN n B bs st bar dn)(c:eC (brg bar) G):G=aZ n st:=by
 have c:=w6.mp c
 have val:∀y∈st,(aZ n st).getD y.1.1.toNat ab=aa y.1.2:=λy a=>by
  have(p,r,rfl):=mn a;show wV tr
 have d:∀z∈bar,∃y∈st,y.1=z/\y.2.nc=af:=λz hz=>by
  have(y,a,q):=qx (k.bl.subset hz);show(y,hJ.mp a,q)
 have g:∀y∈bar.map (λz=>(z,Wh.ch,)),∃z∈bar,(z,Wh.ch,)=y:=λy a=>aG.mp a
 have f1:cR (aZ n (bar.map λz=>(z,Wh.ch,))) G:=w9 h.len λy a=>by
  have(z,hz,rfl):=g y a;show c z hz
 show KF hr m h A dn _ (fA n _) f1 (w9 (fA n _) λy a=>?_) (λy a z f=>?_) (k.rl _ (fA n _) (λz hz=>?_) λy a z f=>?_)
 .have(z,hz,rfl):=g y a;have(v,hv,rfl,_):=d z hz;show val v hv
 .have(v,hv,rfl,l,e):=k.dt y a z f;show(l▸e,jM tr hv,val v hv)
 .have(v,hv,rfl,_):=d z hz;have:=jM tr hv;show((f1.at' _).resolve_left (KH (x:=(v.1,Wh.ch,)) (by change S v.1.1<n;lia) (aG.mpr (_,hz,rfl)))).symm.trans (c _ hz)
 .have(v,hv,rfl,_,e):=k.dt y a z f;show tI (KG λu C q=>?_);have(z,hz,rfl):=g u C;have(w,j,rfl,i):=d z hz;have E:=jM tr hv;have H:=jM tr j;have q:S w.1.1=S v.1.1:=q;rw[KI (n9 tr) j hv (by lia),e]at i
  nomatch i
def KJ{bs:LLP}(hr:∀r∈B,RuK n r)(m:∀b∈bs,cX n b)(h:Wrl n B G)(p:∀b∈bs,¬eC (brg b) G):∀{st:LSp},Tr n B bs st->cR (aZ n st) G\/∃t:Nat,(∀j,j<t->(aZ n st).getD j ab=G.getD j ab/\(aZ n st).getD j ab≠ab)/\(aZ n st).getD t ab=aa ac/\G.getD t ab=aa af
 | [],_=>.inl (w9 h.len λ_ q=>nomatch q)
 |x::st,tr=>by
  have u:=tr.2.t0;have w:=tr.2.t1
  rcases KJ hr m h p tr.1 with f |⟨t,a,b,c⟩
  .cases d:G.getD x.1.1.toNat ab with
   |none=>show absurd d (h.fu _ (by lia))
   |some v=>
    by_cases hv:v=x.1.2
    .show .inl (qz f (by rw[d,hv]))
    .rcases tr.2.ok with⟨_,g,l⟩ |⟨g,l⟩
     .show .inr (S x.1.1,λj i=>?_,?_,?_)
      .rw[aZ,c7 _ _ (by lia)];have hn:=l j (by lia);show(((f.at' j).resolve_left hn).symm,hn)
      .rw[aZ,fj _ _ (by rw[fA];lia),g]
      .rw[d,bne hv,g];rfl
     .show((h.cl p).rt h.len hr m (qz f (by rw[d,bne hv])) g l).elim
  .have ne:∀j,(aZ n st).getD j ab≠ab->(aZ n (x::st)).getD j ab=(aZ n st).getD j ab:=λj q=>c7 _ _ λe=>q (by rw[e];show i0 tr.2.op);show .inr (t,λj i=>?_,?_,c)
   .rw[ne j (a j i).2];show a j i
   .rw[ne t (by rw[b];show λq=>nomatch q)];show b
structure IW(n:Nat)(B:LRu)(s:Spt)(st:LSp)(Fs:List (LOB)):Prop where
 wr:∀F∈Fs,Wrl n B F/\∃b∈s.bs,eC (brg b) F
 br:∀G,Wrl n B G->G∉Fs->∀b∈s.bs,¬eC (brg b) G
 od:Fs.Pairwise Bef
 lt:∀F∈Fs,∀G,Wrl n B G->G∉Fs->Bef F G
 cp:∀A x T,st.reverse=A++x::T->x.2.nc=af->jO B s.bs (aZ n A.reverse)
 dw:Dw B s.bs s.tw
 jr:Jr B s
variable{s1:Spt}{Fs:List (LOB)}
def IW.cp1(w:IW n B s st Fs)(e:Se n c0 W8 W6 B s s1 st st1)(h:st1.reverse=A++x::T)(c:x.2.nc=af):jO B s.bs (aZ n A.reverse):=by
 have(xt,rfl,hn):=e.xt;have no:x∉xt.reverse:=λq=>by rw[hn x (hJ.mp q)]at c;nomatch c
 rw[mj]at h
 rcases append_eq_append_iff.mp h with⟨a,d,b⟩ |⟨a,d,b⟩
 .show absurd (by rw[b];simp) no
 .cases a with
  |nil=>show absurd (by rw[oA]at b;rw[<- b];simp) no
  |cons y a=>
   cases b;show w.cp _ _ _ d c
variable{Fs':List (LOB)}
def IW.bk(P:Par n c0 W8 W6 B)(h:Hd n c0 W8 W6 B s st)(w:IW n B s st Fs)(e:Se n c0 W8 W6 B s (aK B W8 s).2 st st1)(k:jN n B s.bs st1 bar dn)(p:qy st1.reverse bar A x T)(q:Clo n (aK B W8 s).2 s2 bar dn A)(sub:∀F∈Fs',F∈Fs\/(Wrl n B F/\eC (brg bar) F))(sup:∀F∈Fs,F∈Fs')(od:Fs'.Pairwise Bef)(lt:∀F∈Fs',∀G,Wrl n B G->G∉Fs'->Bef F G)(new:∀G,Wrl n B G->G∉Fs'->¬eC (brg bar) G):IW n B s2 A.reverse Fs':=by
 have i:=e.t.tr;have bk:=wW i k.bl;have E:s2.bs=s.bs++[bar]:=by rw[q.bs,e.bs]
 have cA:=w.cp1 e p.e p.nc;show(λF hF=>?_,λG hG hn b d=>?_,od,lt,λl u f h2 g=>?_,?_,λy0 y m hw=>?_)
 .rw[E]
  rcases sub F hF with z |⟨z1,z2⟩
  .have(a,b,d,c):=w.wr F z;show(a,b,b8 _ d,c)
  .show(z1,bar,cF _ aA,z2)
 .rw[E]at d
  rcases bx.mp d with z |z
  .show w.br G hG (λq=>hn (sup G q)) b z
  .rw[bq.mp z];show new G hG hn
 .rw[i7]at h2;subst h2;have Q:=p.e;rw[cG]at Q;have N:=w.cp1 e Q g;rw[E];show(N.ru,λb d=>?_,N.gr)
  rcases bx.mp d with z |z
  .show N.br b z
  rw[bq.mp z]
  have er:st1=(u::f++x::T).reverse++l.reverse:=by
   rw[<- mj,<- i7 (as:=st1),Q]
  rw[er]at i;have op:=(i5 _ i).2.2
  have L:∀{y:Pr} {W5:LSp},y∈chs W5->(∀v∈W5,v∈u::f++x::T)->(aZ n l.reverse).getD y.1.toNat ab=ab:=λ{y W5} m hs=>by
   have(v,hv,rfl,_):=qx m;show op v (hJ.mpr (hs v hv))
  have(b0,z,U,_,hz,h0,hl):=p.br
  have C:chs (l++u::f)=chs l++u.1::chs f:=by
   unfold chs;rw[kg,qI (by rw[g];rfl),aT,bG]
  have Y:b0≠[]:=λq=>by have:=h0 q;rw[C]at this;simp at this
  obtain⟨b1,y,rfl⟩:∃b1 y,b0=b1++[y]:=(_,_,(dropLast_concat_getLast Y).symm);have(A',eA):=hl y (by simp)
  have m:y∈chs (u::f):=by
   have M:(chs l++u.1::chs f).getLast?=aa y:=by rw[<- C,eA];simp
   rw[getLast?_append,getLast?_cons]at M;have M:=du M;rw[mf,g,<- M]
   cases hq:(chs f).getLast? with
   |none=>show aA
   |some v=>show bj _ (mem_of_getLast? hq)
  have oy:=L m λv hv=>b8 _ hv;have oz:=L hz λv hv=>cF _ hv;have my:y∈bar:=by rw[U];simp
  have mz:z∈bar:=by rw[U];simp
  have ne:y.1≠z.1:=λq=>by
   have:=bk.nd;rw[U,aT,aT]at this;show(fE.mp this).2.2 y.1 (by simp) z.1 (by simp) q
  have ry:=bk.nn y my;have rz:=bk.nn z mz;show(λq=>?_,λt b t0 t1 ho q=>?_)
  .have:=w6.mp q z mz;rw[oz]at this
   nomatch this
  .have one:∀v∈bar,(aZ n l.reverse).getD v.1.toNat ab=ab->S v.1=S t:=λv hv ov=>xi λH=>by
    have:=w6.mp q v hv;rw[c7 _ _ H,ov]at this
    nomatch this
   have a:=one y my oy;have b:=one z mz oz
   lia
 .rw[E,q.tw,e.bs,e.tw];show w.dw.bar h.tw h.J.bk bk
 .rw[E]at m ⊢;have(a,j):=y
  by_cases ey:(a,j,)=(ac,Z s.bs,)
  .show .inl (by rw[q.wt,ey,e.bs];show aA)
  .have I:(a,j,)∈gys B.length (Z s.bs)/\bP B (s.bs++[bar]) (a,j,)=bP B s.bs (a,j,):=by
    have hm:=fq.mp m
    cases a with
    |false=>show(fq.mpr hm,rfl)
    |true=>
     have hm:j<Z (s.bs++[bar]):=hm;rw[aP,fB]at hm;have hj:j≠Z s.bs:=λq=>ey (by rw[q]);show(fq.mpr (by change j<Z s.bs;lia),?_);change brg _=brg _;rw[ma,if_neg hj]
   show .inr ?_;rw[I.2,q.es]
   have:eD (bP B s.bs (a,j,)) (aZ n A.reverse) []:=by
    rcases KE I.1 with⟨r,hr,H⟩ |⟨b,d,H⟩
    .rw[H];show cA.ru r hr
    .rw[H];show cA.br b d
   split <;> show this
def IW.new(P:Par n c0 W8 W6 B)(h:Hd n c0 W8 W6 B s st)(w:IW n B s st Fs)(e:Se n c0 W8 W6 B s (aK B W8 s).2 st st1)(u:(aK B W8 s).1=ab)(ha:(aK B W8 s).2.es.any (·==ab)=af):Wrl n B (aK B W8 s).2.es/\(aK B W8 s).2.es∉Fs/\∀G,Wrl n B G->G∉Fs->G≠(aK B W8 s).2.es->Bef (aK B W8 s).2.es G:=by
 have cl:jO B s.bs (aK B W8 s).2.es:=(KD P.hr P.hz h.J w.jr w.dw u e.tw).1
 have fu:∀i,i<(aK B W8 s).2.es.length->(aK B W8 s).2.es.getD i ab≠ab:=λi hi q=>by
  rw[bp,b7 hi]at q;have q:(aK B W8 s).2.es[i]=ab:=q;show any_eq_false.mp ha _ (iB _) (by rw[q];rfl)
 show((e.J.es,λi hi=>fu i (by rw[e.J.es];show hi),λr hr=>(cl.ru r hr).ns,cl.gr),λq=>?_,λG g hn ne=>?_)
 .have(_,b,l,m):=w.wr _ q;show(cl.br b l).ns m
 .have d:=e.t.tr;rw[e.bs]at d;have es:=e.t.es
  rcases KJ P.hr h.J.bk g (w.br G g hn) d with f |⟨t,a,b,c⟩
  .rw[<- es]at f;show absurd (Ex f fu).symm ne
  .rw[<- es]at a b;show(t,λj p=>(a j p).1,b,c)
def KL:¬Bef F F:=λc=>by have(t,_,a,b):=c;rw[a]at b;nomatch b
def WQ(h:Bef F G)(k:Bef G F):False:=by
 have(t,a,b,c):=h;have(u,d,f,g):=k
 rcases Nat.lt_trichotomy t u with q |q |q
 .rw[d t q,b]at c;nomatch c
 .rw[<- q,b]at g;nomatch g
 .rw[a u q,f]at g;nomatch g
def KM:∀{E ys:List (LOB)},E.Pairwise Bef->ys.Pairwise Bef->(∀F,F∈E↔F∈ys)->E=ys
 | [],[],_,_,_=>rfl
 | [],y::ys,_,_,h=>nomatch (h y).mpr aA
 |x::E,[],_,_,h=>nomatch (h x).mp aA
 |x::E,y::ys,h1,h2,h=>by
  have(a,c):=ml.mp h1;have(b,d):=ml.mp h2
  have e:x=y:=by
   rcases a9.mp ((h x).mp aA)with q |q
   .show q
   .rcases a9.mp ((h y).mpr aA)with z |z
    .show z.symm
    .show(WQ (b x q) (a y z)).elim
  subst e;show congrArg _ (KM c d λF=>(λq=>?_,λq=>?_))
  .rcases a9.mp ((h F).mp (bj _ q))with z |z
   .show absurd (z▸a F q) KL
   .show z
  .rcases a9.mp ((h F).mpr (bj _ q))with z |z
   .show absurd (z▸b F q) KL
   .show z
def WR(P:Par n c0 W8 W6 B):Car n c0 W8 W6 B (λs st fd=>∃Fs:List (LOB),fd=Fs.map wOf/\IW n B s st Fs) λ_ fd=>∃Fs:List (LOB),fd=Fs.map wOf/\(∀G,G∈Fs↔Wrl n B G)/\Fs.Pairwise Bef:=by
 have i:∀{s s1:Spt} {st st1:LSp},Se n c0 W8 W6 B s s1 st st1->Tr n B s.bs st1:=λe=>by have:=e.t.tr;rwa [e.bs]at this
 have wh:∀{s:Spt} {st st1:LSp} {bar:List Pr} {dn:List Ls} {d:D} {Fs:List (LOB)},Hd n c0 W8 W6 B s st->IW n B s st Fs->Se n c0 W8 W6 B s (aK B W8 s).2 st st1->(aK B W8 s).1=aa d->jN n B s.bs st1 bar dn->∀G,Wrl n B G->G∉Fs->¬eC (brg bar) G:=λh w e g k G c hn v=>by
  have L:=w.br G c hn;have:=Ey P.hr h.J.bk c L (i e) k v;have(_,_,E):=h.se P;have(wh,_,a,b):=E _ g;rw[e.t.es,<- this]at b;show(c.cl L).rt c.len P.hr h.J.bk (cR.refl _) a b
 show(?_,?_,?_,?_,?_)
 .rintro s st st1 _ t h ⟨Fs,rfl,w⟩ e g t1 N;have(cl,jr):=KD P.hr P.hz h.J w.jr w.dw g e.tw;have cl:jO B s.bs (aK B W8 s).2.es:=cl;show(Fs,rfl,by change ∀F∈Fs,_/\∃b∈(aK B W8 s).2.bs,_;rw[e.bs];show w.wr,by change ∀G,_->_->∀b∈(aK B W8 s).2.bs,_;rw[e.bs];show w.br,w.od,w.lt,λA x T h2 Y=>?_,by change Dw B (aK B W8 s).2.bs (aK B W8 s).2.tw;rw[e.bs,e.tw];show w.dw,Jr.of (y0:=(af,0,)) (Jq.pt P.hr e.J (λy H U=>?_) (by lia) (by lia) (tI (by rw[cL];show N))))
  .change jO B (aK B W8 s).2.bs _;rw[e.bs];rw[i8]at h2
   rcases append_eq_append_iff.mp h2 with⟨a,j,r⟩ |⟨a,j,r⟩
   .cases a with
    |nil=>
     rw[bN]at j;rw[j,i7,<- e.t.es]
     show cl
    |cons y a=>simp at r
   .cases a with
    |nil=>
     rw[bN]at j;rw[<- j,i7,<- e.t.es]
     show cl
    |cons y a=>
     cases r;show w.cp1 e j Y
  .rcases jr y y H U with z |z
   .show .inl z
   .rw[if_pos rfl]at z;show .inr (z.more λu Q=>nomatch Q)
 .rintro s st st1 _ w0 bar dn A x T s2 h ⟨Fs,rfl,w⟩ e g _ k p q _ _;show(Fs,rfl,w.bk P h e k p q (λF f=>.inl f) (λF f=>f) w.od w.lt (wh h w e g k))
 .rintro s st st1 _ w0 dn s2 h ⟨Fs,rfl,w⟩ e g _ k _;show(Fs,rfl,λG=>⟨λq=>(w.wr G q).1,λq=>xi λhn=>wh h w e g k G q hn λp C=>nomatch C⟩,w.od)
 .rintro s st st1 _ bar dn A x T s2 h ⟨Fs,rfl,w⟩ e g ha k p q _ _;have(m,I,M):=w.new P h e g ha;have es:=e.t.es;have lo:∀G,Wrl n B G->G∉Fs++[(aK B W8 s).2.es]->G∉Fs/\G≠(aK B W8 s).2.es:=λG _ hn=>(λq=>hn (b8 _ q),λq=>hn (by rw[q];simp));show(Fs++[(aK B W8 s).2.es],by rw[aT];rfl,w.bk P h e k p q (λF f=>?_) (λF f=>b8 _ f) (tV.mpr (w.od,pairwise_singleton _ _,λF f G c=>?_)) (λF f G c hn=>?_) λG c hn v=>?_)
  .rcases bx.mp f with z |z
   .show .inl z
   .rw[bq.mp z];show .inr (m,w6.mpr λy H=>?_);have(a,b):=Ep (i e) (k.bl.subset H);rw[es,b,a]
  .rw[bq.mp c];show w.lt F f _ m I
  .have(l,h2):=lo G c hn
   rcases bx.mp f with z |z
   .show w.lt F z G c l
   .rw[bq.mp z];show M G c l h2
  .have(l,h2):=lo G c hn;show h2 (es▸Ey P.hr h.J.bk c (w.br G c l) (i e) k v)
 .rintro s st st1 _ dn s2 h ⟨Fs,rfl,w⟩ e g ha k _;have(m,I,M):=w.new P h e g ha;show(Fs++[(aK B W8 s).2.es],by rw[aT];rfl,λG=>(λq=>?_,λq=>xi λhn=>?_),tV.mpr (w.od,pairwise_singleton _ _,λF f G c=>?_))
  .rcases bx.mp q with z |z
   .show(w.wr G z).1
   .rw[bq.mp z];show m
  .have l:G∉Fs:=λq=>hn (b8 _ q);show hn (cF _ (by rw[Ey P.hr h.J.bk q (w.br G q l) (i e) k (λp C=>nomatch C),<- e.t.es];show aA))
  .rw[bq.mp c];show w.lt F f _ m I
def Ez(P:Par n (64*q*Z B) W8 W6 B)(i:∀r∈B,Z (grd r)<=q):∃(Fs:List (LOB)) (pp:LD),(∀G,G∈Fs↔Wrl n B G)/\Fs.Pairwise Bef/\Z Fs<=3 ^ n/\pp≠[]/\∀most:Int,0<=most->m_0 [pl0 n B,.int most]=aa (if (Z Fs:Int)<=most then .tup [wsD (Fs.map wOf),.bl ac,.lst pp] else .tup [wsD ((Fs.map wOf).take most.toNat),.bl af,.lst []]):=by
 have f:∀y∈gys B.length 0,y∈(s00 n B).wt:=λy b=>by
  have(a,j):=y;have e:=fq.mp b
  cases a with
  |true=>show absurd e (iD _)
  |false=>show aG.mpr (j,fF.mpr e,rfl)
 have(ws,s,(Fs,rfl,g,h2),h,c,d):=WD P i (WR P) ([],rfl,(λ_ q=>nomatch q),(λ_ _ _ _ q=>nomatch q),List.Pairwise.nil,(λ_ q=>nomatch q),(λA x T q _=>by simp at q),WP _ B,λy0 y b _=>.inl (f y b));rw[aq]at c d;show(Fs,s.pp,g,h2,c,h,d)
def KN(ws:List (LI0)):f7 20 (wsD ws):=by
 show f7.le (n:=3) (λx a=>?_) (by decide);have(w,_,rfl):=aG.mp a;show Pe w
def mvT(d:Int)(L:LII):LII:=L.map λz=>(z.1+d,z.2,)
abbrev mvP(d:Int):Prt->Prt
 |.inn t=>.inn (t+d)
 |.out t=>.out (t+d)
 |.least k L=>.least k (mvT d L)
 |.most k L=>.most k (mvT d L)
def mvR(d:Int)(r:Rul):Rul:=(r.w,r.hd+d,r.ps.map (mvP d))
def xc(p:Int->Bool)(d:Int)(L:LII):bR p (mvT d L)=bR (λt=>p (t+d)) L:=by
 unfold bR mvT;rw[filter_map,map_map];rfl
def EA(r:Rul):mvR 0 r=r:=by
 have(w,hd,ps):=r;have a:∀L,mvT 0 L=L:=λL=>(oq λz _=>by rw[Int.add_zero];rfl).trans (map_id _)
 have h2:∀p,mvP 0 p=p:=λp=>by cases p <;> simp[mvP,a]
 unfold mvR;rw[Int.add_zero,oq (g:=id) λp _=>h2 p,map_id]
variable{m d:Nat}{W7:LOB}
def EB(h:∀t:Int,0<=t->t<(m:Int)->F.getD (t+d).toNat ab=W7.getD t.toNat ab)(a:p.Ok m):(mvP d p).sure F=p.sure W7:=by
 cases p with
 |inn t=>change(_==_)=(_==_);rw[h t a.1 a.2]
 |out t=>change(_==_)=(_==_);rw[h t a.1 a.2]
 |least k L=>
  show congrArg (λx=>decide (k<=x)) ?_;rw[gN,gN,xc]
  show pQ λz hz=>by rw[h _ (a.1 z hz).1 (a.1 z hz).2.1]
 |most k L=>
  show congrArg (λx=>decide (x<=k)) ?_;rw[gN,gN,xc];show pQ λz hz=>by rw[h _ (a.1 z hz).1 (a.1 z hz).2.1]
variable{w:LB0}
def KO(h:∀t:Int,0<=t->t<(m:Int)->F.getD (t+d).toNat ab=W7.getD t.toNat ab)(b:∀t:Int,0<=t->t<(m:Int)->wo.getD (t+d).toNat af=w.getD t.toNat af)(a:p.Ok m):(mvP d p).lost F wo=p.lost W7 w:=by
 cases p with
 |inn t=>change(_==_ || _)=(_==_ || _);rw[h t a.1 a.2,b t a.1 a.2]
 |out t=>change(_==_)=(_==_);rw[h t a.1 a.2]
 |least k L=>
  show congrArg (λx=>decide (x<k)) ?_;rw[xc]
  show pQ λz hz=>by rw[h _ (a.1 z hz).1 (a.1 z hz).2.1,b _ (a.1 z hz).1 (a.1 z hz).2.1]
 |most k L=>
  show congrArg (λx=>decide (k<x)) ?_;rw[gN,gN,xc];show pQ λz hz=>by rw[h _ (a.1 z hz).1 (a.1 z hz).2.1]
def xf(h:∀t:Int,0<=t->t<(m:Int)->F.getD (t+d).toNat ab=W7.getD t.toNat ab)(hr:r.Ok m):eC (grd (mvR d r)) F↔eC (grd r) W7:=by
 have a:(∀p∈r.ps.map (mvP d),p.sure F=ac)↔∀p∈r.ps,p.sure W7=ac:=(λk p q=>by rw[<- EB h (hr.ps p q)];show k _ (aG.mpr (p,q,rfl)),λk p q=>by
  have(u,v,rfl):=aG.mp q;rw[EB h (hr.ps u v)];show k u v)
 have(w,hd,ps):=r
 cases w with
 |may=>show(λk p q=>by cases bq.mp q;show k (.least 1 []) aA,λk p q=>by cases bq.mp q;show k (.least 1 []) aA)
 |never=>show a
 |make=>
  have b:=EB (p:=.out hd) h (hr.hd λq=>nomatch q);have b:(Prt.out (hd+d)).sure F=(Prt.out hd).sure W7:=b;change(∀p∈_++[Prt.out (hd+d)],_)↔∀p∈ps++[.out hd],_;simp only[bx,bq,or_imp,forall_and,forall_eq];rw[b];show(λk=>(a.mp k.1,k.2),λk=>(a.mpr k.1,k.2))
def KP(h:∀t:Int,0<=t->t<(m:Int)->F.getD (t+d).toNat ab=W7.getD t.toNat ab)(a:∀t:Int,0<=t->t<(m:Int)->wo.getD (t+d).toNat af=w.getD t.toNat af)(hr:r.Ok m):(mvR d r).bodyLost F wo=r.bodyLost W7 w:=by
 change(r.ps.map (mvP d)).any _=r.ps.any _;rw[any_map,jP,any_eq_true,any_eq_true];show(λ(p,q,z)=>(p,q,by rw[<- KO h a (hr.ps p q)];show z),λ(p,q,z)=>(p,q,by change(mvP d p).lost F wo=ac;rw[KO h a (hr.ps p q)];show z))
structure Sid(m n d:Nat)(rx B:LRu)(W7 F:LOB):Prop where
 le:Z W7=m
 lf:Z F=n
 dm:d+m<=n
 at':∀t:Int,0<=t->t<(m:Int)->F.getD (t+d).toNat ab=W7.getD t.toNat ab
 ok:∀r∈rx,r.Ok m
 inn:∀r∈rx,mvR d r∈B
 hd0:∀r∈dM B,0<=r.hd
 only:∀r∈dM B,(d:Int)<=r.hd->r.hd<(d+m:Nat)->∃q∈dM rx,mvR d q=r
variable{rx:LRu}
def qA(ok:∀r∈rx,r.Ok m)(h:r∈dM rx):r.Ok m/\0<=r.hd/\r.hd<(m:Int):=by
 have(a,b):=cg.mp h;show(ok r a,(ok r a).hd (bne_iff_ne.mp b))
def qB{f:Nat->Bool}(t0:0<=t)(t1:t<(n:Int)):((bw n).map f).getD t.toNat af=f t.toNat:=by
 rw[bp,cx,tR (by lia)];rfl
def tM{E:LB0}(h:E.getD i af=ac):i<Z E:=Nat.lt_of_not_le λq=>by
 rw[bp,gB q]at h
 nomatch h
def Sid.no(S:Sid m n d rx B W7 F)(h:oh B F):oh rx W7:=λw g i=>by
 cases hi:w.getD i af with
 |false=>rfl
 |true=>
  have x:=tM hi;have gl:=g.len;have dm:=S.dm;have le:=S.le
  have key:∀t:Int,0<=t->t<(m:Int)->((bw n).map λj=>decide (d<=j/\j<d+m) && w.getD (j-d) af).getD (t+d).toNat af=w.getD t.toNat af:=λt t0 t1=>by
   rw[qB (by lia) (by lia),decide_eq_true (by lia,by lia),show(t+d).toNat-d=t.toNat by lia];rfl
  have G:Grp B F ((bw n).map λj=>decide (d<=j/\j<d+m) && w.getD (j-d) af):=by
   show(by rw[aq,bU,S.lf],λj e=>?_,λr q hd=>?_)
   .have c:=tM e;rw[aq,bU]at c;have p:=qB (f:=λj=>decide (d<=j/\j<d+m) && w.getD (j-d) af) (n:=n) (t:=j) (by lia) (by lia);rw[cL,e]at p;have(a,b):=(ce _ _).mp p.symm;have a:=of_decide_eq_true a;have:=S.at' ((j-d:Nat):Int) (by lia) (by lia);rw[cL,show(((j-d:Nat):Int)+d).toNat=j by lia]at this;rw[this];show g.no _ b
   .have c:=tM hd;rw[aq,bU]at c;have v:=S.hd0 r q;rw[qB v (by lia)]at hd;have(a,b):=(ce _ _).mp hd;have a:=of_decide_eq_true a;have(u,l,rfl):=S.only r q (by lia) (by lia);have(ok,y,z):=qA S.ok l;rw[KP S.at' key ok];show g.up u l ?_;have b:w.getD ((u.hd+d).toNat-d) af=ac:=b;rw[show(u.hd+d).toNat-d=u.hd.toNat by lia]at b;show b
  have:=h _ G (i+d);have k:=key i (by lia) (by lia);rw[cL,hi,show((i:Int)+d).toNat=i+d by lia,this]at k
  nomatch k
def Sid.cut(S:Sid m n d rx B W7 F)(g:Grp B F wo):Grp rx W7 ((bw m).map λi=>wo.getD (i+d) af):=by
 have key:∀t:Int,0<=t->t<(m:Int)->wo.getD (t+d).toNat af=((bw m).map λi=>wo.getD (i+d) af).getD t.toNat af:=λt t0 t1=>by
  rw[qB t0 t1,show(t+d).toNat=t.toNat+d by lia]
 show(by rw[aq,bU,S.le],λj c=>?_,λr q hd=>?_)
 .have e:=tM c;rw[aq,bU]at e;have k:=key j (by lia) (by lia);have a:=S.at' j (by lia) (by lia);rw[cL]at k a;rw[<- a];show g.no _ (k.trans c)
 .have(ok,f,h):=qA S.ok q;have(a,b):=cg.mp q;rw[<- KP S.at' key ok];show g.up (mvR d r) (cg.mpr (S.inn r a,b)) ((key _ f h).trans hd)
variable{n1:Nat}
def KQ{l:Nat}{p v:LRu}{A W6:LOB}(w:Z A=n1)(H:Z W6=l)(c:∀r∈p,r.Ok n1)(d:∀r∈v,r.Ok l)(hm:∀r,r∈B↔r∈p\/r∈v.map (mvR n1)):Wrl (n1+l) B (A++W6)↔Wrl n1 p A/\Wrl l v W6:=by
 have E:∀i,i<n1->(A++W6).getD i ab=A.getD i ab:=λi hi=>by
  rw[bp,ke (by lia),<- bp]
 have G:∀i,(A++W6).getD (i+n1) ab=W6.getD i ab:=λi=>by
  rw[bp,lc (by lia),w,Nat.add_sub_cancel,<- bp]
 have mk:∀r∈dM B,r∈dM p\/∃q∈dM v,mvR n1 q=r:=λr q=>by
  have(a,b):=cg.mp q
  rcases(hm r).mp a with z |z
  .show .inl (cg.mpr (z,b))
  .have(u,j,rfl):=aG.mp z;show .inr (u,cg.mpr (j,b),rfl)
 have I:∀r∈dM B,0<=r.hd:=λr q=>by
  rcases mk r q with z |⟨u,j,rfl⟩
  .show(qA c z).2.1
  .have:=(qA d j).2.1;change 0<=u.hd+n1;lia
 have h:Sid n1 (n1+l) 0 p B A (A++W6):=by
  show(w,by rw[aP,w,H],by lia,λt t0 t1=>?_,c,λr q=>(hm _).mpr (.inl (by rw[show((0:Nat):Int)=0 from rfl,EA];show q)),I,λr q a b=>?_)
  .rw[show(t+((0:Nat):Int)).toNat=t.toNat by lia];show E _ (by lia)
  .rcases mk r q with z |⟨u,j,rfl⟩
   .show(r,z,EA r)
   .have:=(qA d j).2.1;have b:u.hd+n1<(0+n1:Nat):=b;lia
 have m:Sid l (n1+l) n1 v B W6 (A++W6):=by
  show(H,h.lf,by lia,λt t0 t1=>?_,d,λr q=>(hm _).mpr (.inr (aG.mpr (r,q,rfl))),I,λr q a b=>?_)
  .rw[show(t+(n1:Int)).toNat=t.toNat+n1 by lia];show G _
  .rcases mk r q with z |z
   .have:=(qA c z).2.2;lia
   .show z
 constructor
 .intro W;show((w,λi hi=>by rw[<- E i hi];show W.fu i (by lia),λr q z=>W.ru _ (h.inn r q) ((xf h.at' (c r q)).mpr z),h.no W.gr),(H,λi hi=>by rw[<- G i];show W.fu _ (by lia),λr q z=>W.ru _ (m.inn r q) ((xf m.at' (d r q)).mpr z),m.no W.gr))
 .rintro⟨x,C⟩;show(h.lf,λi hi=>?_,λr q z=>?_,λwo g i=>?_)
  .by_cases q:i<n1
   .rw[E i q];show x.fu i q
   .rw[show i=(i-n1)+n1 by lia,G];show C.fu _ (by lia)
  .rcases(hm r).mp q with y |y
   .show x.ru r y ((xf h.at' (c r y)).mp ?_);rw[show((0:Nat):Int)=0 from rfl,EA];show z
   .have(u,j,rfl):=aG.mp y;show C.ru u j ((xf m.at' (d u j)).mp z)
  .cases hi:wo.getD i af with
   |false=>rfl
   |true=>
    have M:=tM hi;rw[g.len,h.lf]at M;have J:=x.gr _ (h.cut g) i;have L:=C.gr _ (m.cut g) (i-n1)
    by_cases q:i<n1
    .have e:=qB (f:=λi=>wo.getD (i+0) af) (n:=n1) (t:=i) (by lia) (by lia);rw[cL,J]at e;show absurd (e.trans hi) (by decide)
    .have e:=qB (f:=λi=>wo.getD (i+n1) af) (n:=l) (t:=(i-n1:Nat)) (by lia) (by lia);rw[cL,L]at e;have e:af=wo.getD (i-n1+n1) af:=e;rw[show i-n1+n1=i by lia,hi]at e
     nomatch e
def KR{a:Type}:∀(i:Nat) (E ys:List a),dE i (E++ys)=dE i E++dE (i+Z E) ys
 |i,[],ys=>rfl
 |i,x::E,ys=>by
  change(i,x,)::dE (i+1) (E++ys)=_;rw[KR (i+1) E ys,show i+1+E.length=i+(x::E).length by rw[cf];lia];rfl
def KS{a:Type}(k:Nat):∀(i:Nat) (E:List a),dE (i+k) E=(dE i E).map λp=>(p.1+k,p.2,)
 |i,[]=>rfl
 |i,x::E=>by
  change(i+k,x,)::dE (i+k+1) E=_;rw[show i+k+1=i+1+k by lia,KS k (i+1) E];rfl
def WS(A W6:LOB):wOf (A++W6)=wOf A++(wOf W6).map (· + (Z A:Int)):=by
 unfold wOf;rw[KR,jR,kg,aT]
 congr 1
 have:=KS A.length 0 W6;rw[jR]at this;rw[this,filter_map,map_map,map_map];show oq λp _=>by change((p.1+Z A:Nat):Int)=(p.1:Int)+Z A;lia
def KU{a:Type}(k:Nat):∀E:List a,(E.map λ_=>k).sum=Z E*k
 | []=>(Nat.zero_mul k).symm
 |x::E=>by rw[bG,sum_cons,KU k E,cf,Nat.succ_mul,Nat.add_comm]
def KW(Fs a:List (LOB)):Z (Fs.flatMap λA=>a.map (A++·))=Z Fs*Z a:=by
 rw[length_flatMap,<- KU];simp
abbrev gf(Fs a:List (LOB)):List (LOB):=Fs.flatMap λA=>a.map (A++·)
def WT{g:List (LOB)}(m:∀A∈Fs,Z A=n1)(n:Fs.Pairwise Bef)(h2:g.Pairwise Bef):(gf Fs g).Pairwise Bef:=by
 have d:∀{A W6:LOB} {i:Nat},i<Z A->(A++W6).getD i ab=A.getD i ab:=λhi=>by
  rw[bp,ke hi,<- bp]
 have e:∀(A W6:LOB) (i:Nat),(A++W6).getD (i+Z A) ab=W6.getD i ab:=λA W6 i=>by
  rw[bp,lc (by lia),Nat.add_sub_cancel,<- bp]
 unfold gf;show pairwise_flatMap.mpr (λA h=>?_,?_)
 .show pairwise_map.mpr (h2.imp λ(t,a,b,c)=>(t+Z A,λj l=>?_,by rw[e];show b,by rw[e];show c))
  by_cases q:j<Z A
  .rw[d q,d q]
  .rw[show j=(j-A.length)+A.length by lia,e,e];show a _ (by lia)
 .show n.imp_of_mem λ{A A'} h f (t,a,b,c) x p y r=>?_;have(W6,_,rfl):=aG.mp p;have(v,_,rfl):=aG.mp r;have w:=m A h;have u:=m A' f
  have tl:t<n1:=Nat.lt_of_not_le λq=>by
   rw[bp,gB (by lia)]at b
   nomatch b
  show(t,λj l=>by rw[d (by lia),d (by lia)];show a j l,by rw[d (by lia)];show b,by rw[d (by lia)];show c)
def WU(d:Int)(p:Prt)(hz:Z (nmP p)<=3):vI [p.toD,.int d]=aa (mvP d p).toD:=by
 cases p with
 |inn t=>rfl
 |out t=>rfl
 |least k L=>
  have hz:Z (L.map (·.1))<=3:=hz;rw[aq]at hz;show dk (pJ (y8 rfl rfl) (di (cw (aj rfl (aj rfl (aj (bB ((fh L itD (λz=>itD (z.1+d,z.2,)) rfl (by lia) λz _=>eM rfl rfl (cw (aj (ap rfl rfl dR) (aj rfl rfl)))).trans ?_)) rfl))))));change aa _=aa ((mvT d L).map itD);unfold mvT;rw[map_map]
  rfl
 |most k L=>
  have hz:Z (L.map (·.1))<=3:=hz;rw[aq]at hz;show dk (pJ (y8 rfl rfl) (di (cw (aj rfl (aj rfl (aj (bB ((fh L itD (λz=>itD (z.1+d,z.2,)) rfl (by lia) λz _=>eM rfl rfl (cw (aj (ap rfl rfl dR) (aj rfl rfl)))).trans ?_)) rfl))))));change aa _=aa ((mvT d L).map itD);unfold mvT;rw[map_map];rfl
def WV(d:Int)(hr:∀r∈B,Ru5 n r)(j:Z B<=1000):BB [pl0 n B,.int d]=aa (.lst ((B.map (mvR d)).map Rul.toD)):=by
 apply jG;apply ak;show d4 rfl ?_;apply ak;show dq B Rul.toD (λpre M=>∃c f g a,M=[.im (pl0 n B),.im (.int d),.own ((pre.map (mvR d)).map Rul.toD),c,f,g,a]) (d8 (aY rfl rfl rfl) rfl) (_,_,_,_,rfl) ?_ ?_
 .rintro pre r post M ex ⟨c,f,g,a,rfl⟩;have i:Z pre<Z B:=by rw[ex];simp
  have h:=hr r (by rw[ex];simp);show(_,rfl,?_);apply ak;show bo rfl ?_;have comp:∀a:D,bn (ag (ae 3) (ag (ae 6) (ag (aI (bg 1 [1] (aS (ae 5)) (ay 0) kY (av vI (ag (ae 0) (ag (ae 1) nZ))))) nZ))) [.im (pl0 n B),.im (.int d),.own ((pre.map (mvR d)).map Rul.toD),.im (.str r.w.s),.im r.hdD,.im (.lst (r.ps.map Prt.toD)),.im a]=aa (.tup [.str r.w.s,a,.lst ((r.ps.map (mvP d)).map Prt.toD)]):=λa=>cw (aj rfl (aj rfl (aj (bB ((fh r.ps Prt.toD (λp=>(mvP d p).toD) rfl (by have:=h.ln;lia) λp q=>eM rfl rfl (aE rfl (WU d p (h.nm p q)))).trans (by rw[map_map];rfl))) rfl)));show Hh (λM=>∃a:D,M=[.im (pl0 n B),.im (.int d),.own ((pre.map (mvR d)).map Rul.toD),.im (.str r.w.s),.im r.hdD,.im (.lst (r.ps.map Prt.toD)),.im a]/\.tup [.str r.w.s,a,.lst ((r.ps.map (mvP d)).map Prt.toD)]=(mvR d r).toD) ?_ ?_
  .have(w,hd,ps):=r
   cases w with
   |never=>show a8 (b:=af) rfl (λz=>nomatch z) λ_=>b6 (k_J (_,rfl,rfl))
   | _=>show a8 (b:=ac) rfl (λ_=>bo (ap rfl rfl dR) (k_J (_,rfl,rfl))) λz=>nomatch z
  .rintro M ⟨a,rfl,e⟩;show f9 ((comp a).trans (by rw[e])) rfl (by rw[aq,aq];lia) (.im (.str r.w.s),.im r.hdD,.im (.lst (r.ps.map Prt.toD)),.im a,?_);rw[aT,aT];rfl
 .rintro M ⟨c,f,g,a,rfl⟩;show lV rfl (iw rfl)
def mv5(h:Ru5 n r):Ru5 (m+n) (mvR m r):=by
 have pk:∀p∈r.ps,(mvP m p).Ok (m+n)/\Z (nmP (mvP m p))<=3:=λp q=>by
  have ok:=h.ok.ps p q;have nm:=h.nm p q
  have inn:∀{L:LII},InN n L->InN (m+n) (mvT m L):=λk z hz=>by
   have(y,c,rfl):=aG.mp hz;have:=k y c;show(by change 0<=y.1+m;lia,by change y.1+m<_;lia,this.2.2)
  have le:∀L:LII,Z (mvT m L)=Z L:=λL=>aq _
  cases p with
  |inn t=>show((by change 0<=t+m;have:=ok.1;lia,by change t+m<_;have:=ok.2;lia),nm)
  |out t=>show((by change 0<=t+m;have:=ok.1;lia,by change t+m<_;have:=ok.2;lia),nm)
  |least k L=>show((inn ok.1,by rw[le];show ok.2),by change((mvT m L).map (·.1)).length<=3;rw[aq,le];have nm:Z (L.map (·.1))<=3:=nm;rwa [aq]at nm)
  |most k L=>show((inn ok.1,by rw[le];show ok.2),by change((mvT m L).map (·.1)).length<=3;rw[aq,le];have nm:Z (L.map (·.1))<=3:=nm;rwa [aq]at nm)
 have a:∀p∈(mvR m r).ps,p.Ok (m+n)/\Z (nmP p)<=3:=λp q=>by
  have(u,b,rfl):=aG.mp q;show pk u b
 have ln:(mvR m r).ps.length=Z r.ps:=aq _;show((λq=>?_,λp q=>(a p q).1,by rw[ln];show h.ok.len),λp q=>(a p q).2,by rw[ln];show h.ln);have:=h.ok.hd q;show(by change 0<=r.hd+m;lia,by change r.hd+m<_;lia)
def up5(h:Ru5 n r):Ru5 (n+m) r:=by
 show((λq=>?_,λp q=>?_,h.ok.len),h.nm,h.ln)
 .have:=h.ok.hd q;show(this.1,by lia)
 .have ok:=h.ok.ps p q;have inn:∀{L:LII},InN n L->InN (n+m) L:=λk z hz=>((k z hz).1,by have:=(k z hz).2.1;lia,(k z hz).2.2)
  cases p with
  |inn t=>show(ok.1,by have:=ok.2;lia)
  |out t=>show(ok.1,by have:=ok.2;lia)
  |least k L=>show(inn ok.1,ok.2)
  |most k L=>show(inn ok.1,ok.2)
def KY{a:Type}(E:List a)(k:Nat):(E.drop (HT.sIx E.length 0 (aa (k:Int)))).take (HT.sIx E.length E.length (aa ((k:Int)+1))-HT.sIx E.length 0 (aa (k:Int)))=(E.drop k).take 1:=by
 rw[show((k:Int)+1)=((k+1:Nat):Int) by lia,HT.sIx_nat,HT.sIx_nat]
 by_cases h:k<Z E
 .rw[t4 (by lia),t4 (by lia),Nat.add_sub_cancel_left]
 .rw[tZ (by lia),tZ (by lia),tU (aM _),tU (by lia),take_nil,take_nil]
def WW(as bs:LRu)(ha:Z as<=1000)(m:Z bs<=1000)(w:Int):∃a:LRu,vH [.lst (as.map Rul.toD),.lst (bs.map Rul.toD),.int w]=aa (.lst (a.map Rul.toD))/\(∀r,r∈a↔r∈as\/r∈bs)/\Z a<=Z as+Z bs:=by
 suffices h:∃d,vH _=aa d/\∃a:LRu,d=.lst (a.map Rul.toD)/\(∀r,r∈a↔r∈as\/r∈bs)/\a.length<=as.length+bs.length by
  have(d,e,a,rfl,h):=h;show(a,e,h)
 have n:(as.map Rul.toD).length=as.length:=aq _;have p:(bs.map Rul.toD).length=bs.length:=aq _;apply lS;apply ak;show a8 (bE (ap rfl rfl (kS _ _))) (λ_=>iu (nP rfl rfl (by lia)) (iw (as++bs,by rw[aT],λr=>bx,by rw[aP];show aM _))) λ_=>b6 ?_;apply ak;show a8 (bE (ap rfl rfl (kS _ _))) (λ_=>iu (nP rfl rfl (by lia)) (iw (bs++as,by rw[aT],λr=>by rw[bx,or_comm],by rw[aP];lia))) λ_=>b6 ?_;apply ak;show bo rfl ?_;apply ak
 obtain⟨N,f,j⟩:∃N:Nat,(as.length<=N/\bs.length<=N/\N<=1000)/\pY [.int as.length,.int bs.length]=aa (.int N):=by
  show(max as.length bs.length,by lia,?_);change aa (D.int _)=_
  congr 2
  split <;> lia
 have g:∀(E:LRu) (k:Nat) (r:Rul),r∈E.take (k+1)↔r∈E.take k\/r∈(E.drop k).take 1:=λE k r=>by
  rw[take_add,bx]
 have tl:∀(E:LRu) (k:Nat),(E.take (k+1)).length=(E.take k).length+((E.drop k).take 1).length:=λE k=>by
  rw[take_add,aP]
 show dq (bw N) (λi:Nat=>D.int i) (λpre M=>∃(a:LRu) (c:Sl),M=[.im (.lst (as.map Rul.toD)),.im (.lst (bs.map Rul.toD)),.im (.int w),.im (.lst (a.map Rul.toD)),c]/\(∀r,r∈a↔r∈as.take pre.length\/r∈bs.take pre.length)/\a.length=(as.take pre.length).length+(bs.take pre.length).length) ((pN (aj (aE (aj (aE rfl (d9 as Rul.toD)) (aj (aE rfl (d9 bs Rul.toD)) rfl)) j) rfl) (by lia) (by lia)).trans (by rw[cL])) ([],_,rfl,λr=>by simp,by simp) ?_ ?_
 .rintro pre k post M ex ⟨a,c,rfl,b,h2⟩
  have l:k=pre.length:=by
   have:(bw N)[pre.length]?=aa k:=by rw[ex];simp
   have(_,q):=cM.mp this;rw[xk]at q;show q.symm
  subst l;have t1:(as.take pre.length).length<=as.length:=by rw[ow];lia
  have u:(bs.take pre.length).length<=bs.length:=by rw[ow];lia
  have v:=length_take_le 1 (as.drop pre.length);have x:=length_take_le 1 (bs.drop pre.length);show(_,rfl,bo (d:=.lst ((a++(bs.drop pre.length).take 1++(as.drop pre.length).take 1).map Rul.toD)) (bB ?_) (_,_,rfl,λr=>?_,?_))
  .rw[aT,aT];show nP (bB (nP rfl ((bB (j6 rfl (ptE rfl) (ptE (ap rfl rfl dR)))).trans (by rw[KY])) ?_)) ((bB (j6 rfl (ptE rfl) (ptE (ap rfl rfl dR)))).trans (by rw[KY])) ?_
   .rw[aq,aq];lia
   .rw[aP,aq,aq,aq];lia
  .rw[aP,fB,bx,bx,b,g as,g bs]
   grind
  .rw[aP,aP,aP,fB,h2,tl as,tl bs];lia
 .rintro M ⟨a,c,rfl,b,h2⟩;rw[bU]at b h2;rw[lh f.1,lh f.2.1]at b h2;show(_,rfl,fM (a,rfl,b,qQ h2))
def KZ(ws:List (LI0)){most:Int}(h:0<=most):(ws.drop (HT.sIx ws.length 0 ab)).take (HT.sIx ws.length ws.length (aa most)-HT.sIx ws.length 0 ab)=ws.take most.toNat:=by
 rw[show aa most=aa (most.toNat:Int) by rw[show(most.toNat:Int)=most by lia],HT.sIx_nat,HT.sIx_none,drop_zero,Nat.sub_zero]
 by_cases a:most.toNat<=Z ws
 .rw[t4 a]
 .rw[tZ (by lia),take_length,lh (by lia)]
def K0(ns:LI0)(h:Z ns<=63)(a:Nat)(ha:a<=1)(M:LS):∃d:LI0,aI (mSl (aI (bg 1 [0] (k5 (ag (λ_=>aa (.int a)) (ag (av bW (ag (ae 0) nZ)) (ag (kI 2) nZ)))) (ay 0) kY (mIx (ax 1) (ae 0)))) (λ_=>aa ab) (mPt (kI 9))) (.im (.kl (ns.map D.int))::M)=aa (.lst (d.map D.int))/\Z d<=9:=by
 have l:bW [.kl (ns.map D.int)]=aa (.int (Z ns)):=by change aa (D.int _)=_;rw[aq]
 have hr:k5 (ag (λ_=>aa (.int a)) (ag (av bW (ag (ae 0) nZ)) (ag (kI 2) nZ))) (.im (.kl (ns.map D.int))::M)=aa ((bw (S (((Z ns:Int)-a+1) / 2))).map λi:Nat=>D.int (a+i*2)):=by
  unfold k5;rw[aj rfl (aj (aE rfl l) (aj rfl rfl)),az];show if_pos (rfl,by lia,by lia,by lia,by lia)
 have j:=fh (bw (S (((Z ns:Int)-a+1) / 2))) (λi:Nat=>D.int (a+i*2)) (λi:Nat=>D.int (ns.getD ((a:Int)+i*2).toNat 0)) (k:=1) (js:=[0]) (g:=ay 0) (ft:=λ_=>aa ac) (fe:=mIx (ax 1) (ae 0)) hr (by rw[bU];lia) λi hi=>by
  have:=fF.mp hi;have(x,ex,e):=kP (f:=D.int) (E:=ns) (i:=(a:Int)+i*2) (by lia) (by lia);show eM rfl rfl (aY rfl rfl (e.trans ?_));rw[bp,ex];rfl
 generalize c:(bw (S (((Z ns:Int)-a+1) / 2))).map (λi:Nat=>ns.getD ((a:Int)+i*2).toNat 0)=E;have b:=bB (j.trans (show aa ((bw (S (((Z ns:Int)-a+1) / 2))).map λi:Nat=>D.int (ns.getD ((a:Int)+i*2).toNat 0))=aa (E.map D.int) by rw[<- c,map_map];rfl));show(E.take 9,(bB (j6 b rfl rfl)).trans ?_,by rw[ow];lia);rw[show aa (9:Int)=aa ((9:Nat):Int)from rfl,HT.sIx_nat,HT.sIx_none,drop_zero,Nat.sub_zero]
 by_cases q:9<=Z E
 .rw[t4 q]
 .rw[tZ (by lia),take_length,lh (by lia)]
def WX(ns:LI0)(h:Z ns<=63):m_3 [.kl (ns.map D.int)]=aa (.bl ac):=by
 have hk:=WE ns;have(c0,e0):=Et hk (i:=0) (by decide);have(c1,e1):=Et hk (i:=1) (by decide);have(as,ha,la):=K0 ns h 0 (by decide) [.no,.no,.no,.no,.no,.no,.no,.no,.no,.no];have(n1,w,Q,hn1,l,hl1):=Kt (Ks as) (by lia) (top:=3) (by decide) (by decide);have(bs,hb,lb):=K0 ns h 1 (by decide) [.im (pl0 n1 w),.no,.no,.no,.no,.no,.no,.no,.no,.no];have(p,C,T,hn2,j,hl2):=Kt (Ks bs) (by lia) (top:=4) (by decide) (by decide);have x:=Ku l (by lia);have N:=Ku j (by lia);have em:=WV (n1:Int) j (by lia);have(B,eg,hm,hl):=WW w (C.map (mvR n1)) (by lia) (by rw[aq];lia) (c1 / 12 % 3);rw[aq]at hl
 have hr:∀r∈B,Ru5 (n1+p) r:=λr q=>by
  rcases(hm r).mp q with z |z
  .show up5 (l r z)
  .have(u,hu,rfl):=aG.mp z;show mv5 (j u hu)
 have(Fs,pp,f1,f2,f3,_,H):=Ez (Eu (by lia) l (by lia)) (Ev l);have(c,L,I,g2,g3,_,J):=Ez (Eu (by lia) j (by lia)) (Ev j);have(Hs,ph,h1,h2,_,_,U):=Ez (Eu (by lia) hr (by lia)) (Ev hr);have p1:3 ^ n1<=9:=xu (by decide) (by lia:n1<=2);have p2:3 ^ p<=27:=xu (by decide) (by lia:p<=3);have lf:∀A∈Fs,Z A=n1:=λA q=>((f1 A).mp q).len
 have e:gf Fs c=Hs:=KM (WT lf f2 g2) h2 λF=>by
  rw[h1];unfold gf;rw[mem_flatMap];constructor
  .rintro⟨A,v,q⟩;have(W6,hB,rfl):=aG.mp q;show(KQ (lf A v) ((I W6).mp hB).len (λr q=>(l r q).ok) (λr q=>(j r q).ok) hm).mpr ((f1 A).mp v,(I W6).mp hB)
  .intro W;have wl:=W.len;have e:F.take n1++F.drop n1=F:=take_append_drop _ _;have:=(KQ (A:=F.take n1) (W6:=F.drop n1) (by rw[ow];lia) (by rw[length_drop];lia) (λr q=>(l r q).ok) (λr q=>(j r q).ok) hm).mp (by rw[e];show W);show(_,(f1 _).mpr this.1,aG.mpr (_,(I _).mpr this.2,e))
 subst e;have H:=H 33 (by decide);rw[if_pos (by lia)]at H;have J:=J 33 (by decide);rw[if_pos (by lia)]at J;have m0:=eE (c0 / 12) (show(34:Int)≠0 by decide);have U:=U _ m0;generalize Y:c0 / 12 % 34=most at *;apply jG;apply ak;show bo (aE (aj ha rfl) Q) ?_;apply ak;show bo (aE (aj hb rfl) T) ?_;apply ak
 show bo (ap (ap (aE rfl e0) rfl (j5 (by first |show .inl (by lia,by lia) |show .inr (by lia,by lia) |show(by lia,by lia)))) rfl (cJ (by decide))) ?_
 rw[Y];apply ak;show bo (aE (aj (aE rfl x) (aj rfl rfl)) H) ?_;apply ak;show bo (aE (aj (aE rfl N) (aj rfl rfl)) J) ?_;apply ak
 show bo (aE (aj (aY (d8 (aE rfl x) rfl) rfl rfl) (aj (aE (aj rfl (aj (aY rfl rfl rfl) rfl)) em) (aj (ap (ap (aE rfl e1) rfl (j5 (by first |show .inl (by lia,by lia) |show .inr (by lia,by lia) |show(by lia,by lia)))) rfl (cJ (by decide))) rfl))) eg) ?_
 apply ak;show bo (aE (aj (cw (aj (ap (aY rfl rfl rfl) (aY rfl rfl rfl) dR) (aj rfl rfl))) (aj rfl rfl)) ((by rw[<- Int.natCast_add];show U:m_0 [pl0 ((n1:Int)+p) B,_]=_))) ?_
 have pl:∀A∈Fs,∀W6∈c,wD (wOf (A++W6))=.lst ((wOf A).map D.int++(wOf W6).map λt=>D.int (t+n1)):=λA v W6 _=>by
  rw[WS,lf A v];change D.lst _=D.lst _;rw[aT,map_map];rfl
 have wl:∀A:LOB,Z A<=100->Z (wOf A)<=100:=λA q=>by
  unfold wOf;rw[aq];show cN (gC _ _) ?_;rw[tB];show q
 have total:Z (gf Fs c)=Z Fs*Z c:=KW Fs c;have small:Z Fs*Z c<=9*27:=Nat.mul_le_mul (by lia) (by lia);apply ak;show d4 rfl ?_;apply ak;show dq Fs (λA=>wD (wOf A)) (λpre M=>∃G f,M=[.im (.kl (ns.map D.int)),.im (pl0 n1 w),.im (pl0 p C),.im (.int most),.im (.tup [wsD (Fs.map wOf),.bl ac,.lst pp]),.im (.tup [wsD (c.map wOf),.bl ac,.lst L]),.im (.lst (B.map Rul.toD)),.im _,.own ((gf pre c).map λF=>wD (wOf F)),G,f]) (d8 (aY rfl rfl rfl) (by unfold wsD;rw[map_map];rfl)) (_,_,rfl) ?_ ?_
 .rintro pre A post M ex ⟨G,f,rfl⟩;have v:A∈Fs:=by rw[ex];simp
  have hpl:Z pre<Z Fs:=by rw[ex];simp
  have tp:Z (gf pre c)=Z pre*Z c:=KW pre c;have tp2:Z pre*Z c<=Z Fs*Z c:=tY _ (by lia);show(_,rfl,?_);show dq c (λW6=>wD (wOf W6)) (λm M=>∃f,M=[.im (.kl (ns.map D.int)),.im (pl0 n1 w),.im (pl0 p C),.im (.int most),.im (.tup [wsD (Fs.map wOf),.bl ac,.lst pp]),.im (.tup [wsD (c.map wOf),.bl ac,.lst L]),.im (.lst (B.map Rul.toD)),.im _,.own ((gf pre c++m.map (A++·)).map λF=>wD (wOf F)),.im (wD (wOf A)),f]) (d8 (aY rfl rfl rfl) (by unfold wsD;rw[map_map];rfl)) (_,by rw[map_nil,bN];rfl) ?_ ?_
  .rintro m W6 po2 M y ⟨f,rfl⟩;have hB:W6∈c:=by rw[y];simp
   have hpl2:Z m<Z c:=by rw[y];simp
   have wa:=wl A (by rw[lf A v];lia);have wb:=wl W6 (by rw[((I W6).mp hB).len];lia);show(_,rfl,f9 (d:=wD (wOf (A++W6))) ?_ rfl (by rw[aq,aP,aq,tp];lia) (.im (wD (wOf W6)),?_))
   .rw[pl A v W6 hB];show bB (nP rfl (bB (fh (wOf W6) D.int (λt=>D.int (t+n1)) rfl (by lia) λt _=>eM rfl rfl (ap rfl (aY rfl rfl rfl) dR))) (by rw[aq,aq];lia))
   .rw[show(m++[W6]).map (A++·)=m.map (A++·)++[A++W6] by rw[aT];rfl,<- cG,aT (l₂:=[A++W6])];rfl
  .rintro M ⟨f,rfl⟩;show(.im (wD (wOf A)),f,?_);unfold gf;rw[flatMap_append,flatMap_cons,flatMap_nil,bN]
 .rintro M ⟨G,f,rfl⟩;have ed:.lst ((gf Fs c).map λF=>wD (wOf F))=wsD ((gf Fs c).map wOf):=by unfold wsD;rw[map_map];rfl
  have ln:Z ((gf Fs c).map wOf)=Z (gf Fs c):=aq _;rw[<- ln];generalize (gf Fs c).map wOf=ws at *
  by_cases n:Z ws<=most
  .rw[if_pos n];apply ak;show a8 (b:=af) (rN (a:=af) rfl (rN (a:=af) rfl rfl)) (λz=>nomatch z) λ_=>b6 ?_;show lQ (ρ':=[.im (.kl (ns.map D.int)),.im (pl0 n1 w),.im (pl0 p C),.im (.int most),.im (.tup [wsD (Fs.map wOf),.bl ac,.lst pp]),.im (.tup [wsD (c.map wOf),.bl ac,.lst L]),.im (.lst (B.map Rul.toD)),.im _,.im (.lst ((gf Fs c).map λF=>wD (wOf F))),G,f]) rfl ?_;rw[ed];show fL (pL (ap rfl ((bB (j6 (E:=ws) (g:=wD) rfl rfl (ptE rfl))).trans (by rw[KZ ws m0,lh (by lia)];rfl)) (GE (KN ws))) (ap rfl (ap (aE rfl (d9 ws wD)) rfl (zD.trans (by rw[decide_eq_true n]))) rfl)) (fM rfl)
  .rw[if_neg n];apply ak;show a8 (b:=af) (rN (a:=af) rfl (rN (a:=af) rfl rfl)) (λz=>nomatch z) λ_=>b6 ?_;show lQ (ρ':=[.im (.kl (ns.map D.int)),.im (pl0 n1 w),.im (pl0 p C),.im (.int most),.im (.tup [wsD (Fs.map wOf),.bl ac,.lst pp]),.im (.tup [wsD (c.map wOf),.bl ac,.lst L]),.im (.lst (B.map Rul.toD)),.im _,.im (.lst ((gf Fs c).map λF=>wD (wOf F))),G,f]) rfl ?_;rw[ed];show fL (pL (ap rfl ((bB (j6 (E:=ws) (g:=wD) rfl rfl (ptE rfl))).trans (by rw[KZ ws m0];rfl)) (GE (KN _))) (ap rfl (ap (aE rfl (d9 ws wD)) rfl (zD.trans (by rw[decide_eq_false n]))) rfl)) (fM rfl)
def sp_law(K:aR):Sp:=λvs H Q _=>∃(a:Addr) (ns:LI0),vs=[.ref a]/\SqL K H a (ns.map V.int)/\Z ns<=63/\∀H',Q (.bl ac) H'
variable{K:aR}
def sp_law_of{H:Hp}{a:Addr}{W7:XK}(c:Z ns<=63)(b:SqL K H a (ns.map V.int)):sp_law K [.ref a] H (λv _=>v=.bl ac) W7:=(a,ns,rfl,b,c,λ_=>rfl)
variable{w:World}
def law_ok{a:Wa}(W:Wd K mg a):cC P w K mg base CX0 11 a.e_3.1 a.e_3.2 ["_law_script"] (sp_law K):=(UD W).ok.imp λvs H Q W7 (a,ns,b,c,d,k)=>
 (H,[.kl (ns.map D.int)],.bl ac,ar.refl _,(.ref a,[],b,(a,_,rfl,c,ao.ints ns),rfl),rfl,WX ns d,λv Hf' H' x r=>by rw[show v=V.bl ac from r];show k H')
variable{P:LVa->Prop}
def xg(h:P []):∀us:LVa,Z us=0->P us:=λus e=>by
 rw[eq_nil_of_length_eq_zero e];show h
def kc(h:∀a (us:LVa),Z us=n->P (a::us)):∀us:LVa,Z us=n+1->P us:=λus e=>by
 cases us with
 |nil=>cases e
 |cons a us=>show h a us (Nat.succ.inj e)
def EC(h:∀a:Value,P [a]):∀us:LVa,Z us=1->P us:=kc (P:=λus=>P (us)) λa=>xg (h a)
def K1(h:∀a b:Value,P [a,b]):∀us:LVa,Z us=2->P us:=kc (P:=λus=>P (us)) λa=>kc (P:=λus=>P (a::us)) λb=>xg (h a b)
def WY(h:∀a b c:Value,P [a,b,c]):∀us:LVa,Z us=3->P us:=kc (P:=λus=>P (us)) λa=>kc (P:=λus=>P (a::us)) λb=>kc (P:=λus=>P (a::b::us)) λc=>xg (h a b c)
def WZ(h:∀a b c d:Value,P [a,b,c,d]):∀us:LVa,Z us=4->P us:=kc (P:=λus=>P (us)) λa=>kc (P:=λus=>P (a::us)) λb=>kc (P:=λus=>P (a::b::us)) λc=>kc (P:=λus=>P (a::b::c::us)) λd=>xg (h a b c d)
local macro_rules | `(tactic| walk_at "bd")=>`(tactic| exact λ_ _ _ _ _ _=>by first | exact EC λ_=>rfl | exact K1 λ_ _=>rfl | exact WY λ_ _ _=>rfl | exact WZ λ_ _ _ _=>rfl)
set_option autoImplicit true in
def all_mk{ad ae af ag ai aj ak al am an ao ap aq ar as au av ax:Addr}{h:Heap}{bT aE aF aG aH aI aJ aK aL aM aN bU bV aO aP aQ bW aR aS aT bX aU aV aW aX aY aZ a0 a1 a2 a3 bY a4 a5 a6 a7 a8 a9 ba bb bc bd be bf bg bh bi bj bk bl bm bn bo bp bq br bs bu bv bw bx bz bA bB bC bZ bD bE bF b0 b1 j m d w l q f b c p g n bG:cS}{U:Nat}{e6:Tok}{eL:Nat}{fa:Addr}(X:K.In h)(G:h.Ns cz mg)(hfa:mg "law"=aa (.ref fa))
 (b2:dW K cz "In"=aa (aa (.ref ad)))
 (bH:dW K cz "Out"=aa (aa (.ref ae)))
 (fx:dW K cz "Least"=aa (aa (.ref af)))
 (ay:dW K cz "Most"=aa (aa (.ref ag)))
 (M:dW K cz "Spreading"=aa (aa (.ref ai)))
 (Y:dW K cz "Seeking"=aa (aa (.ref aj)))
 (c9:Dq K "marks" s_1 f_1 bT)
 (b9:Dq K "numbers" z5 f_20 aE)
 (ca:Dq K "part_of" z6 f_34 aF)
 (cb:Dq K "things_of" z7 f_35 aG)
 (cc:Dq K "worth_in" z8 f_21 aH)
 (cd:Dq K "worth_not_out" z9 f_14 aI)
 (ce:Dq K "worth_of" Aa f_36 aJ)
 (cf:Dq K "outside" Ab f_37 aK)
 (cg:Dq K "heavy" Ac f_22 aL)
 (ch:Dq K "weights_of" Ad f_15 aM)
 (ci:Dq K "with_entry" Ae f_16 aN)
 (da:Dq K "enough" s_7 f_7 bU)
 (db:Dq K "body_of" s_2 f_2 bV)
 (cj:Dq K "guard_of" Ag f_23 aO)
 (ck:Dq K "guard_of_bar" Ah f_49 aP)
 (cm:Dq K "pressed_by" Ai f_72 aQ)
 (dc:Dq K "lost_part" s_5 f_5 bW)
 (cn:Dq K "own_why" Aj f_24 aR)
 (co:Dq K "needed_first" Ak f_38 aS)
 (cp:Dq K "_law_cell_at" Al f_25 aT)
 (dd:Dq K "_law_mixed" s_6 f_6 bX)
 (cq:Dq K "_law_items" Am f_39 aU)
 (cr:Dq K "_law_part" An f_26 aV)
 (cs:Dq K "_law_rule" Ao f_27 aW)
 (ct:Dq K "_law_base" Ap f_28 aX)
 (cu:Dq K "_law_plain" Aq f_11 aY)
 (cw:Dq K "_law_part_again" Ar f_50 aZ)
 (cx:Dq K "_law_again" As f_17 a0)
 (cy:Dq K "_law_part_moved" At f_40 a1)
 (cA:Dq K "_law_moved" Au f_41 a2)
 (cB:Dq K "_law_mingled" Av f_18 a3)
 (cC:Dq K "law" s_3 f_3 bY)
 (bI:Dp K ad "__init__" "In.__init__" Aw f_68 a4)
 (cD:Dp K ad "named" "In.named" Ax f_42 a5)
 (cE:Dp K ad "wants" "In.wants" Ay f_51 a6)
 (cF:Dp K ad "sure" "In.sure" Az f_52 a7)
 (cG:Dp K ad "sure_by" "In.sure_by" AA f_53 a8)
 (cH:Dp K ad "tips" "In.tips" AB f_54 a9)
 (cI:Dp K ad "lost" "In.lost" AC f_29 ba)
 (cJ:Dp K ad "lost_by" "In.lost_by" AD f_55 bb)
 (bJ:Dp K ae "__init__" "Out.__init__" AE f_69 bc)
 (cK:Dp K ae "named" "Out.named" AF f_43 bd)
 (cL:Dp K ae "wants" "Out.wants" AG f_56 be)
 (cM:Dp K ae "sure" "Out.sure" AH f_57 bf)
 (cN:Dp K ae "sure_by" "Out.sure_by" AI f_58 bg)
 (cO:Dp K ae "tips" "Out.tips" AJ f_59 bh)
 (cP:Dp K ae "lost" "Out.lost" AK f_30 bi)
 (cQ:Dp K ae "lost_by" "Out.lost_by" AL f_60 bj)
 (bK:Dp K af "__init__" "Least.__init__" AM f_70 bk)
 (cR:Dp K af "named" "Least.named" AN f_44 bl)
 (cT:Dp K af "wants" "Least.wants" AO f_61 bm)
 (cU:Dp K af "sure" "Least.sure" AQ f_62 bn)
 (cV:Dp K af "sure_by" "Least.sure_by" AR f_63 bo)
 (cW:Dp K af "tips" "Least.tips" AS f_45 bp)
 (cX:Dp K af "lost" "Least.lost" AT f_31 bq)
 (cY:Dp K af "lost_by" "Least.lost_by" AU f_46 br)
 (bL:Dp K ag "__init__" "Most.__init__" AV f_71 bs)
 (cZ:Dp K ag "named" "Most.named" AW f_47 bu)
 (c0:Dp K ag "wants" "Most.wants" AX f_64 bv)
 (c1:Dp K ag "sure" "Most.sure" AY f_65 bw)
 (c2:Dp K ag "sure_by" "Most.sure_by" AZ f_66 bx)
 (c3:Dp K ag "tips" "Most.tips" A0 f_48 bz)
 (c4:Dp K ag "lost" "Most.lost" A1 f_32 bA)
 (c5:Dp K ag "lost_by" "Most.lost_by" A3 f_67 bB)
 (bM:Dp K aj "__init__" "Seeking.__init__" A4 f_12 bC)
 (de:Dp K aj "another" "Seeking.another" s_8 f_8 bZ)
 (c6:Dp K aj "close" "Seeking.close" A5 f_13 bD)
 (c7:Dp K aj "place_for" "Seeking.place_for" A6 f_33 bE)
 (c8:Dp K aj "line_to" "Seeking.line_to" A7 f_19 bF)
 (df:Dp K aj "grounds" "Seeking.grounds" s_4 f_4 b0)
 (dg:Dp K aj "grounds_of_group" "Seeking.grounds_of_group" s_9 f_9 b1)
 (A:Dp K aj "take_guard" "Spreading.take_guard" A8 ak j)
 (C:Dp K aj "take_bar" "Spreading.take_bar" A9 al m)
 (x:Dp K aj "drop_wider" "Spreading.drop_wider" Ba am d)
 (L:Dp K aj "put" "Spreading.put" Bb an w)
 (B:Dp K aj "take_back" "Spreading.take_back" Bc ao l)
 (I:Dp K aj "settle" "Spreading.settle" Bd ap q)
 (y:Dp K aj "look_round" "Spreading.look_round" Be aq f)
 (r:Dp K aj "put_loose_out" "Spreading.put_loose_out" Bf ar b)
 (u:Dp K aj "loose_marks" "Spreading.loose_marks" Bg as c)
 (H:Dp K aj "kernel" "Spreading.kernel" Bh au p)
 (z:Dp K aj "lost_parts" "Spreading.lost_parts" Bi av g)
 (E:Dp K aj "keeping" "Spreading.keeping" Bj ax n)
 (dh:dW K cz "worlds"=aa (aa (.ref f_0)))
 (di:K.lookup f_0=aa (oc_0,od_0,.func (ji "worlds" "worlds" (kE s_0) (fX s_0) (aw s_0) (.ref U) kV_0 dc_0 pm_0 an_0 cd_0 ct_0),sl_0))
 (J:K.lookup U=aa (oT_worlds,dT_worlds,.seq #[.int 1 e6] eL,sT_worlds))
 (dj:W.codeIn K cd_0 "worlds"=ac)
 (dk:gq K (.ref f_0)=ac)
 (T:W.specialIn K (.ref ai) "__getattribute__"=aa (aa (.builtin "type.__getattribute__")))
 (Q:W.readsIn K ai (.type "type")=ac)
 (N:W.findCls K (.ref ai) (.type "type") "__init__"=aa (.val (.ref f_10)))
 (b3:kA K ad oR=ac)
 (b4:lA K ad=ac)
 (b5:mM K ad=ac)
 (b6:cv K (.ref ad) "__setattr__"=aa (aa (.builtin "object.__setattr__")))
 (qq:mN K ad=ac)
 (b7:gq K (.ref ad)=ac)
 (ny:cv K (.ref ad) "thing"=aa ab)
 (bO:kA K ae oR=ac)
 (bP:lA K ae=ac)
 (bQ:mM K ae=ac)
 (bR:cv K (.ref ae) "__setattr__"=aa (aa (.builtin "object.__setattr__")))
 (p0:mN K ae=ac)
 (bS:gq K (.ref ae)=ac)
 (nk:cv K (.ref ae) "thing"=aa ab)
 (gu:kA K af oR=ac)
 (fy:lA K af=ac)
 (gv:mM K af=ac)
 (gw:cv K (.ref af) "__setattr__"=aa (aa (.builtin "object.__setattr__")))
 (o6:mN K af=ac)
 (ge:gq K (.ref af)=ac)
 (lk:cv K (.ref af) "bound"=aa ab)
 (ld:cv K (.ref af) "pieces"=aa ab)
 (az:kA K ag oR=ac)
 (aA:lA K ag=ac)
 (aB:mM K ag=ac)
 (aC:cv K (.ref ag) "__setattr__"=aa (aa (.builtin "object.__setattr__")))
 (pu:mN K ag=ac)
 (aD:gq K (.ref ag)=ac)
 (mm:cv K (.ref ag) "bound"=aa ab)
 (ll:cv K (.ref ag) "pieces"=aa ab)
 (eh:kA K aj oR=ac)
 (dy:lA K aj=ac)
 (eF:mM K aj=ac)
 (eH:cv K (.ref aj) "__setattr__"=aa (aa (.builtin "object.__setattr__")))
 (n7:mN K aj=ac)
 (d2:gq K (.ref aj)=ac)
 (ir:cv K (.ref aj) "sheet"=aa ab)
 (lp:cv K (.ref aj) "steps"=aa ab)
 (lj:cv K (.ref aj) "bars"=aa ab)
 (kv:cv K (.ref aj) "guards"=aa ab)
 (hO:cv K (.ref aj) "watches"=aa ab)
 (kr:cv K (.ref aj) "waiting"=aa ab)
 (ky:cv K (.ref aj) "makers"=aa ab)
 (l0:cv K (.ref aj) "paper"=aa ab)
 (kQ:cv K (.ref aj) "count"=aa ab)
 (md:cv K (.ref aj) "ended"=aa ab)
 (q4:dW K cz "any"=aa ab)
 (qa:dW K cz "bool"=aa ab)
 (nL:dW K cz "enumerate"=aa ab)
 (nq:dW K cz "isinstance"=aa ab)
 (p5:dW K cz "len"=aa ab)
 (og:dW K cz "list"=aa ab)
 (rc:dW K cz "max"=aa ab)
 (n5:dW K cz "range"=aa ab)
 (n0:dW K cz "reversed"=aa ab)
 (ri:dW K cz "set"=aa ab)
 (oD:dW K cz "sorted"=aa ab)
 (p6:dW K cz "sum"=aa ab)
 (pw:dW K cz "tuple"=aa ab)
 (b8:Fun K "__init__" "Spreading.__init__" Bk f_10 bG)
 (pz:rE K "bool")
 (pj:rE K "tuple")
  : ∃a:Wa,∃W:Wd K mg a,a.e_3.1=fa/\∀(s:ah) (v:Value),BindsTo s a.e_3.2 ([v],[]) [("_law_script",v,)]:=by
 have e:=hfa.symm.trans (kB X G cC.a);cases e;have hc:∃cl:Str->Addr,ad=cl "In" /\ ae=cl "Out" /\ af=cl "Least" /\ ag=cl "Most" /\ aj=cl "Seeking":=(λs=>if s="In" then ad else if s="Out" then ae else if s="Least" then af else if s="Most" then ag else if s="Seeking" then aj else 0,rfl,rfl,rfl,rfl,rfl);have(cl,rfl,rfl,rfl,rfl,rfl):=hc
 show(((f_1,bT,),(f_20,aE,),(f_34,aF,),(f_35,aG,),(f_21,aH,),(f_14,aI,),(f_36,aJ,),(f_37,aK,),(f_22,aL,),(f_15,aM,),(f_16,aN,),(f_7,bU,),(f_2,bV,),(f_23,aO,),(f_49,aP,),(f_72,aQ,),(f_5,bW,),(f_0,_,),(f_24,aR,),(f_38,aS,),(f_25,aT,),(f_6,bX,),(f_39,aU,),(f_26,aV,),(f_27,aW,),(f_28,aX,),(f_11,aY,),(f_50,aZ,),(f_17,a0,),(f_40,a1,),(f_41,a2,),(f_18,a3,),(f_3,bY,),(f_68,a4,),(f_42,a5,),(f_51,a6,),(f_52,a7,),(f_53,a8,),(f_54,a9,),(f_29,ba,),(f_55,bb,),(f_69,bc,),(f_43,bd,),(f_56,be,),(f_57,bf,),(f_58,bg,),(f_59,bh,),(f_30,bi,),(f_60,bj,),(f_70,bk,),(f_44,bl,),(f_61,bm,),(f_62,bn,),(f_63,bo,),(f_45,bp,),(f_31,bq,),(f_46,br,),(f_71,bs,),(f_47,bu,),(f_64,bv,),(f_65,bw,),(f_66,bx,),(f_48,bz,),(f_32,bA,),(f_67,bB,),(f_12,bC,),(f_8,bZ,),(f_13,bD,),(f_33,bE,),(f_19,bF,),(f_4,b0,),(f_9,b1,),(ak,j,),(al,m,),(am,d,),(an,w,),(ao,l,),(ap,q,),(aq,f,),(ar,b,),(as,c,),(au,p,),(av,g,),(ax,n,),(f_10,bG,),cl,ai),(c9.mk2 X G,b9.mk2 X G,ca.mk2 X G,cb.mk2 X G,cc.mk2 X G,cd.mk2 X G,ce.mk2 X G,cf.mk2 X G,cg.mk2 X G,ch.mk2 X G,ci.mk2 X G,da.mk2 X G,db.mk2 X G,cj.mk2 X G,ck.mk2 X G,cm.mk2 X G,dc.mk2 X G,(R9 (st:=s_0) di dj dk,(Ie J rfl rfl λus hl=>by
   rw[bN]at hl ⊢
   revert us hl
   show K1 λ_ _=>(_,rfl,rfl)),kB X G dh),cn.mk2 X G,co.mk2 X G,cp.mk2 X G,dd.mk2 X G,cq.mk2 X G,cr.mk2 X G,cs.mk2 X G,ct.mk2 X G,cu.mk2 X G,cw.mk2 X G,cx.mk2 X G,cy.mk2 X G,cA.mk2 X G,cB.mk2 X G,cC.mk2 X G,bI.mk2,cD.mk2,cE.mk2,cF.mk2,cG.mk2,cH.mk2,cI.mk2,cJ.mk2,bJ.mk2,cK.mk2,cL.mk2,cM.mk2,cN.mk2,cO.mk2,cP.mk2,cQ.mk2,bK.mk2,cR.mk2,cT.mk2,cU.mk2,cV.mk2,cW.mk2,cX.mk2,cY.mk2,bL.mk2,cZ.mk2,c0.mk2,c1.mk2,c2.mk2,c3.mk2,c4.mk2,c5.mk2,bM.mk2,de.mk2,c6.mk2,c7.mk2,c8.mk2,df.mk2,dg.mk2,A.mk2,C.mk2,x.mk2,L.mk2,B.mk2,I.mk2,y.mk2,r.mk2,u.mk2,H.mk2,z.mk2,E.mk2,Db.mk2 b8,(_,.cons (_,rfl) .nil,Ie J rfl rfl λus hq=>by
   have hl:Z us=1:=by simpa using hq
   clear hq
   revert us hl
   show EC λ_=>(_,rfl,rfl)),kB X G b2,(b3,b4,b5,b6),(qq,bI.a,bI.i,b7),ny,kB X G bH,(bO,bP,bQ,bR),(p0,bJ.a,bJ.i,bS),nk,kB X G fx,(gu,fy,gv,gw),(o6,bK.a,bK.i,ge),lk,ld,kB X G ay,(az,aA,aB,aC),(pu,bL.a,bL.i,aD),mm,ll,kB X G M,(T,Q,N,b8.kp),kB X G Y,(eh,dy,eF,eH),(n7,bM.a,bM.i,d2),ir,lp,lj,kv,hO,kr,ky,l0,kQ,md,ie X G q4,ie X G qa,ie X G nL,ie X G nq,ie X G p5,ie X G og,ie X G rc,ie X G n5,ie X G n0,ie X G ri,ie X G oD,ie X G p6,ie X G pw,pz,pj),rfl,cC.bt (λ_ _ _ _ _ _=>EC λ_=>rfl))
end N_k57
structure PySem.W.Fast:Prop where
 (tw10596475373519693509 tw7557522372231704939 tw13380939932817674665 tw7428635445203521721 tw724613905003755690 tw6979824363797246320 tw326377222564520745 tw2301478838104568225 tw3738158537701094026 tw1487046836378132654 tw6171861803059734914 tw4283983710309713855 te6562295813918167417 te14344739394939868365 te6282477543896762631 te17852715271613583405 te5494671076879320998 te16559357974372973700 te15365205803628217264 te8160281277679067869 te4946135133699110761 te489421646133546344 te17826858328598494554 te14171605405843837169 te7870961935761139584 te16531032089957838468 te5617421744864336487 te3620728930454897355 te8694031951245687029 te697052439270323333 te14069170097662668308 te17021966730059176093 te5291694154086624926 te5554128894024559040 te2252412234028207016 te7545652676001002358 te10830523075326148708 te4422627424185125258 te4549135591739766950 te18053764694005923735 te4361950008161108515 te10921570014330621126 te5573681763900132487 te1786032429683646968 te6397419955283367473 te11820450164412831195 te17307508241915907949 te3189665713161587491 te6809120939653488952 te471502596760797601 te14129542875584196382 te15242633713932093957 te7288691892329939729 te796316235332447290 te10508901132430074462 te9640380339090972871 te14935277383613532051 te2945593553749521222 te1074887085810213357 te18219242995727391674 te9896505911534525497 te6001154044514879374 te18040957409493695289 te5662451572191461130 te6406483323062400830 te11911135421177629276 te6771241481210772186 te4935528400925275247 te1236263808078847759 te15495201742639314006 te10546515467075228278 te474999002244958452 te5514071873520927781 te7392840548555678785 te6463307286240965268 te6752957937811495571 te6456263028859788992 te4556216568808838747 te16587336538242459919 te2642935344326583962 te16588268565884843271 te13105918462923033457 te17209218547714655722 te5202476950099292495 te16089311517956017574 te1108214360142761195 te3620964487273491555 te8463083299318094948 te16501014479193505013 te17941335599216962242 te12666208768238006036 te5351412683551692133 te17363816445562108863 te9175355452523384570 te4474708618965293143 te9819920770623080441 te7050873732440899566 te6463520908889705328 te14160904947262734768 te16716093177704936149 te15526035502609288309 te8611435909551172 te1530124592923940454 te12931319640713330041 te15436717553380572358 te14705944354669345562 te2873380277108256232 te8582747175776340176 te18283784795383348706 te13571550288999966936 te7670270959275560631 te13817556559589652893 te10243670813446076659 te5943511613326801684 te13323158827416122469 te6589897389877471734 te17492438910100793759 te15737846816259414279 te9481965992559610750 te7652262486456966276 te11798622411925261585 te9155192988735460870 te15640980977510992518 te14498971304127017701 te9155023557053345789 te5866395751632092756 te13312454276462147620 te11996737466124271401 te845560388476063770 te15606658328289093120 te15457827455768784566 te4821055289025039011 te12101186418492672414 te6004766515148422826 te712278335355275898 te3580960155953155045 te9554060609421958542 te14042482336893160997 te6203014340891921772 te17343385300880755589:True)
open PySem PySem.W PyProof.Rows
set_option maxRecDepth 100000 in
set_option maxHeartbeats 0 in
theorem PySem.Challenge.cw_standstill_k57_side_by_side_holds : PySem.Challenge.rw_standstill_k57_side_by_side.Holds := by
 w_on; o_law; k_head; (case hw=>w_witness2)
 k_fill
 refine L2.walk_ofK (l:=PySem.Challenge.rw_standstill_k57_side_by_side) (n:=63) (k:=11) (x:="_law_script") (CX:=L2.CX0) (sp:=N_k57.sp_law) rfl (by decide) rfl ⟨rfl,by decide,by decide⟩ (fun w h Y=>PySem.W.kIn_of Y) ?F (fun _ _ a ns hl _ hS=>N_k57.sp_law_of hl hS) (fun _ _ _ _ z=>z)
 case F =>
  intro w mg fa h KX G hmg
  have TT : ∃ a : N_k57.Wa,∃ W : N_k57.Wd (L2.KOf KX) mg a,a.e_3.1=fa /\ ∀ (s:Shared) (v:Value),BindsTo s a.e_3.2 ⟨[v],[]⟩ [("_law_script",v)]:=by
   dsimp only [L2.KOf]
   refine' N_k57.all_mk KX G hmg ..
   all_goals first | k_is | kit_is | k_exc | exact ⟨by k_is,L2.fun_mk (by k_is) (by k_is) (by k_is)⟩ | exact ⟨by k_is,by k_is,L2.fun_mk (by k_is) (by k_is) (by k_is)⟩ | exact L2.fun_mk (by k_is) (by k_is) (by k_is) | (intro t ht; simp only [List.mem_cons,List.not_mem_nil,or_false] at ht; rcases ht with rfl | rfl | rfl | rfl | rfl | rfl | rfl <;> kit_is) | skip
  obtain ⟨a,W,e1,hb⟩:=TT
  subst e1
  exact ⟨_,hb,fun base kb nb=>N_k57.law_ok W⟩
