import PyProof.Rows.All
import Wide.All
import OpenK.AllK
import Wide.FinOn
import Lean
import PyProof.EqAt
import PyProof.EqKinds
import PyProof.TupleCall
import PyProof.NeKinds
import PySem.Challenge.RW_standstill_k55_a_bar_more
set_option Elab.async false
set_option hygiene false
def L2.tp:Nat->List String->Array Lean.Term->Lean.MacroM (Array Lean.Term×List String)
|0,_,_=>Lean.Macro.throwUnsupported
|_,[],a=>pure (a,[])
|n+1,x::l,a=>do
 if x=")" then return(a,l)
 if x="(" then
  let(b,l)<-tp n l #[]
  return<-tp n l (a.push (Lean.Syntax.mkApp b[0]! (b.extract 1 b.size)))
 if x=".ok" then
  let t:=a.back!
  return<-tp n l (a.pop.push (<-`(($t).ok)))
 tp n l (a.push (<-match x with|"?"=>`(?_)|"_"=>`(_)|"!"=>`(by assumption)|"1"=>`(@1)|"%"=>`(hr.mono (by decide))|"rfl"=>`(rfl)|_=>if x.front='\'' then pure (Lean.Syntax.mkStrLit (x.drop 1).toString)else pure (Lean.mkIdent x.toName)))
def L2.tm(s:String):Lean.MacroM Lean.Term:=do
 let(b,_)<-L2.tp 99 (s.splitOn " ") #[]
 return Lean.Syntax.mkApp b[0]! (b.extract 1 b.size)
def L2.fs(s:String):Lean.MacroM (Array (Lean.TSyntax ``Lean.Parser.Tactic.tacticSeq)):=(s.splitOn "|").toArray.mapM fun x=>do
 let t<-L2.tm x
 `(Lean.Parser.Tactic.tacticSeq|refine $t)
def L2.gr(j:String)(a:Array (Lean.TSyntax ``Lean.Parser.Tactic.tacticSeq)):Lean.MacroM (Lean.TSyntax ``Lean.Parser.Tactic.tacticSeq):=do
 let j<-L2.tm j
 `(Lean.Parser.Tactic.tacticSeq|(with_reducible show $j);first $[|$a]*)
set_option hygiene true
def L2.rc:Nat->Lean.Term->Lean.MacroM (Lean.TSyntax `rcasesPat)
|0,_=>Lean.Macro.throwUnsupported
|n+1,t=>do
 let b:=match t with|`(($a,$b,*))=>#[a]++b.getElems|`(⟨$b,*⟩)=>b.getElems|_=>#[]
 if b.size>0 then
  let l<-b.mapM fun x=>do let y<-rc n x;`(Lean.Parser.Tactic.rcasesPatLo|$y:rcasesPat)
  return<-`(rcasesPat|⟨$l,*⟩)
 match t with|`($i:ident)=>`(rcasesPat|$i:ident)|_=>`(rcasesPat|_)
set_option genSizeOf false
set_option linter.all false
set_option compiler.extract_closed false
set_option bootstrap.genMatcherCode false
local macro_rules
|`(def $d:declId $b* :$t $v:declVal)=>if t.raw.isIdent||t.raw.isOfKind `Lean.Parser.Term.prop||[`Option,`List].contains t.raw[0].getId then `(noncomputable def $d $b* :$t $v:declVal)else `(theorem $d $b* :$t $v:declVal)
|`(nonrec def $d:declId $s:optDeclSig $v:declVal)=>`(@[reducible] noncomputable def $d $s:optDeclSig $v:declVal)
|`(abbrev $d:declId $s:optDeclSig $v:declVal)=>`(noncomputable def $d $s:optDeclSig $v:declVal)
|`(def $d:declId $v:declVal)=>`(noncomputable def $d $v:declVal)
local macro_rules
|`(tactic|have $p:term:=$e)=>do let q<-L2.rc 9 p;`(tactic|obtain $q:rcasesPat:=$e)
|`(tactic|show%$s $e)=>if s.getHeadInfo matches .original .. then `(tactic|refine $e)else Lean.Macro.throwUnsupported
local macro_rules
|`((%$s $a,$b,*))=>if b.elemsAndSeps.size%2=1&&s.getHeadInfo matches .original .. then `(⟨$a,$b,*⟩)else Lean.Macro.throwUnsupported
set_option maxRecDepth 100000
open Array renaming length_toList->iT,getElem?_eq_getElem->l6,getElem?_toList->qw,getD->qx,toList_push->wU
open Bool renaming true->ac,false->af,false_ne_true->bJ,and_eq_true->ca,eq_iff_iff->iU,or_eq_true->jW,and_true->qy,true_and->qz,noConfusion->tH,or_true->qA,and_false->tI,or_false->tJ
open Classical renaming byContradiction->wV,propDecidable->Em
open False renaming elim->gY
open ForInStep renaming yield->n9
open Int renaming toNat_natCast->dD,emod_nonneg->dY,emod_lt_of_pos->f7
open List renaming mem_cons_self->az,getD_eq_getElem?_getD->bK,getElem?_eq_getElem->bY,length_append->aR,length_map->aA,mem_cons_of_mem->bi,getElem?_eq_some_iff->cX,mem_singleton->bB,getElem?_map->cB,mem_append_left->bZ,map_append->bd,mem_append_right->cv,mem_map->aJ,mem_append->bv,mem_cons->aX,range->bL,append_nil->bN,length_cons->cb,length_range->cI,append_assoc->cJ,getElem?_cons_succ->gZ,mem_of_getElem?->dP,nodup_cons->b7,mem_filter->cw,map_cons->bD,getElem?_eq_none->ix,length_singleton->fH,not_mem_nil->dA,length_filter_le->gy,getElem_mem->g4,zip_cons_cons->e9,getElem?_set_self->jX,foldl_append->eI,nodup_append->fh,replicate->g6,getElem?_append_left->l7,getElem?_set_ne->kX,getElem?_append_right->oa,reverse_reverse->iV,getElem?_replicate->oe,foldl_cons->fI,mem_range->eJ,mem_reverse->g7,reverse_cons->iW,nodup_nil->fJ,getElem?_of_mem->oh,filter_append->jY,length_replicate->l8,length_set->iy,length_reverse->kZ,reverse_append->l9,any_cons->gz,pairwise_cons->ma,filter_cons_of_pos->qB,append_of_mem->me,cons_append->k4,getElem_toArray->tK,filter_sublist->oi,ext_getElem?->mf,getElem?_range->tL,zipWith->oj,lookup_cons->mh,pairwise_append->qC,findIdx_lt_length_of_exists->wW,map_set->g8,length_eq_zero_iff->tM,filterMap_cons->qE,take_of_length_le->tN,zipWith_cons_cons->tO,set_cons_succ->qF,findIdx_cons->qG,all_cons->k5,length_zip->om,nil_append->oq,mem_of_find?_eq_some->wX,map_reverse->qH,sublist_append_left->wY,set_cons_zero->tP,pairwise_singleton->wZ
open List.Nodup renaming sublist->w5
open List.Pairwise renaming map->w6,sublist->En
open List.Perm renaming append_left->w9,refl->tQ,cons->xc
open List.Sublist renaming refl->qI
open List.cons renaming inj->qJ
open Nat renaming le_refl->aL,lt_succ_self->c8,ne_of_lt->bU,zero_le->ce,le_trans->cS,lt_of_lt_of_le->fj,le_of_lt->eK,not_lt_zero->g9,lt_irrefl->gA,lt_succ_of_lt->jZ,lt_of_le_of_lt->mi,le_of_not_lt->ot,le_succ->j4,ne_of_gt->k6,zero_add->k7,lt_trans->mj,succ_pos->ou,lt_of_succ_lt_succ->xf,le_of_ble_eq_true->xg,mul_le_mul_right->xh,min_self->tR
open Ne renaming symm->eM
open Option renaming some->aa,none->ab,bind_some->ax,bind_eq_some_iff->ow,isSome_iff_exists->xi
open Option.some renaming inj->dh
open Or renaming inr->bw,inl->bS
open Prod.mk renaming inj->tS
open PyProof.Rows renaming callWith_type1->j5,firstMet->eN,callWith_builtin1->xj,IntsAre->f8,envOfC->fK,boot_list->ml,AllBare->j6
open PySem renaming wpAny_bind->aj,wpAny_pure->aE,Shared->ah,starEach->aM,sizeLine->aS,mainGlobals->cC,sizeLine_eq->di,compareOp->cK,wpAny_Call_Name_kw->iX,builtinLookup_eq_fast->j7,wpAny_newObj_type->iY,FuncData->cT,Program->cf,wpAny_call_entry->jD,wpAny_mono->fL,wpAny_callSpecial?_slot->ox,foldedSetIterable->k8,backTo->cg,codeAny_builtin->j8,typeLookup_type->j9,rawInt->cj,wpAny_holding->jE,keywordEach->iz,sysModules->hE,wpAny_truthy_bool->mn,swapsWith->f9,bootBuiltins->jF,Around->b5,binaryOp->fM,wpAny_setField_rec->oA,wpAny_passesOwn->mo,getMethod->hJ,behindInMarks->k9,assignEach->iZ,NameKind->ga,mem_of_lookup->qK,wpAny_setState_of->oB,holding->eO,isSubtype_type->mq,wpAny_setEntries_of->qL,codeAny_mono->lc,intKind->fN,wpAny_loadPart'->tT,tupleKind_room_in1->qM,plainId_quiet->mr,backToKw->iA,standAt->gB,codeAny->gC,wpAny_isInstance->qN,attributeBase->oC,wpAny_attempt->oF,wpAny_rule->lg,Spec->K0,sliceBounds->mw,Builtin->eP,callWith->jG,firstArgMember->qP,wpAny_pyIter_list->tU,typeLookup->mx,scanBound->lh,pickOrder->i0,wpAny_execs_nil->tV,pyNext->hU,wpAny_specialOf->tW,wpAny_updateSeq->tX,call_meets->oG,codeAny_call_builtin->xk,wpAny_fieldsOf->tY,wpAny_seqItems->tZ,wpAny_of_eq->qQ,Paired->hV,SetTable->dB,relayAll->mC,entryFor->mD
open PySem.Around renaming in1_units->qR
open PySem.Builtin.Int renaming intBits->t4
open PySem.Builtin.List renaming listSameRef->t7,listExtendWith->xl,listLengthHint->Eo,listFitsIndex->Ep,listTooLong->Er
open PySem.Calls renaming spliced_cons->i4,callWith_builtin->xm,evalArgs_plain->xn,spliced_nil->xp
open PySem.F renaming plainAttrs_list->i5,called_set->li,slot_list_reversed->xq,slot_list_append->xr,type_list_append->xu,slot_list_extend->xv,type_list_extend->xy,slot_dict_get->xz,slot_dict_setdefault->Es
open PySem.Heap renaming get?_push_of_some->bA,get?_push_size->cL,lt_size->bz,size_push->i6,SameBut->gc,get?_update_other->oH,get?_update_self->oI
open PySem.Heap.SameBut renaming update->oJ
open PySem.NameKind renaming free->fO,cell->mE
open PySem.Obj renaming mapSeq->hX
open PySem.Paired renaming length->oK
open PySem.PassesOwn renaming never->dE
open PySem.SeqAt renaming EqAt->cx
open PySem.SeqAt.EqAt renaming int_str->xA,str_int->xB,same->xC
open PySem.SetTable renaming below->cD,grown->oM
open PySem.SetTable.below renaming go->t8
open PySem.Shared renaming TypeIs->t9
open PySem.Str renaming empty->oN,ofString->ua
open PySem.Value renaming ref->eQ,bool->iB,type->ka,none->mF
open PySem.W renaming Frag->aQ,findIn->cm,mg_none_of->iC,keepIn->gf,kia_one->i7,nsIn->dZ,plainGet->kc,hasDictIn->lq,emptyDict->lr,plainOver->mG,instObj->ls,makesIn->mH,mg_of->ke,fnOf->i8
open Sum renaming inl->iD
open Sum.inl renaming inj->ub
open True renaming intro->iE
nonrec abbrev LB0:=List Bool
nonrec abbrev LI0:=List Int
nonrec abbrev LII:=List (Int×Int)
nonrec abbrev LOB:=List (Option Bool)
nonrec abbrev PRS:=PySem.Value->PySem.Shared->Prop
nonrec abbrev MGT:=PySem.Str->Option PySem.Value
nonrec abbrev PNS:=List (PySem.Addr×PySem.Obj)
nonrec abbrev LN:=List Nat
nonrec abbrev L2N:=List LN
nonrec abbrev LSt:=List PySem.Str
nonrec abbrev LVa:=List PySem.Value
nonrec abbrev LAd:=List PySem.Addr
nonrec abbrev LEx:=List PySem.Expr
def Za(_:True:=by rfl)(_:True:=by decide)(_:True:=by intro _;rfl)(_:True:=by first |exact bS rfl |exact bw (bS rfl) |exact bw (bw rfl))(_:True:=by first |exact bS rfl |exact bw rfl)(_:True:=by first |exact .inl rfl |exact .inr rfl)(_:True:=by first |exact .inl rfl |exact .inr rfl |assumption)(_:True:=by first |rfl |exact glc rfl)(_:True:=by exact λ_ _=>rfl)(_:True:=by walk_at "bd")(_:True:=by exact xg rfl)(_:True:=by first |exact nobehind _ (by decide) (by decide) |rfl)(_:True:=by decide +kernel)(_:True:=by first |exact EK _ |rfl):=0
namespace Za
end Za
open Za renaming _auto_1->Zb,_auto_2->Zc,_auto_3->Zd,_auto_4->Ze,_auto_5->Zf,_auto_6->Zg,_auto_7->Zh,_auto_8->Zi,_auto_9->Zj,_auto_10->Zk,_auto_11->Zl,_auto_12->Zm,_auto_13->Zn,_auto_14->Zo
namespace L2
open List
open PySem PySem.Spec PyProof.Rows
nonrec def Key:=Sum Int Str
abbrev lu:Key->Value->Bool
 |.inl k,v=>Value.isInt k v
 |.inr x,v=>Value.isStrOf x v
abbrev Et(w:World):Key->Int
 |.inl k=>hashInt k
 |.inr x=>hashStr w x
def i9:∀{k:Key} {v:Value},lu k v=ac->(∃i t,k=iD i/\v=Value.int i t)\/(∃x t,k=Sum.inr x/\v=Value.str x t)
 |.inl i,v,h=>by
  have(t,e):=Value.isInt_shape h
  show .inl (i,t,rfl,e)
 |.inr x,v,h=>by
  have(t,e):=Value.isStrOf_shape h;show .inr (x,t,rfl,e)
def Eu(i:Int)(t:Tok):lu (.inl i) (.int i t)=ac:=by simp[lu,Value.isInt]
def Ev(x:Str)(t:Tok):lu (.inr x) (.str x t)=ac:=by simp[lu,Value.isStrOf]
def uc(a b:Int):decide ((iD a:Key)=iD b)=(a==b):=by grind
def Ew(a b:Str):decide ((Sum.inr a:Key)=Sum.inr b)=decide (a=b):=by grind
def xD(a:Int)(b:Str):decide ((iD a:Key)=Sum.inr b)=af:=decide_eq_false (λq=>nomatch q)
def xE(a:Str)(b:Int):decide ((Sum.inr a:Key)=iD b)=af:=decide_eq_false (λq=>nomatch q)
abbrev lw(prog:cf)(w:World):PySem.KeyKind prog w Key where
 is:=lu
 hash:=Et w
 inj:=λv a b ha hb=>by
  rcases i9 ha with⟨i,t,rfl,rfl⟩ |⟨x,t,rfl,rfl⟩
  .rcases i9 hb with⟨j,u,rfl,e⟩ |⟨y,u,rfl,e⟩
   .injection e with e1 _;rw[e1]
   .show nomatch e
  .rcases i9 hb with⟨j,u,rfl,e⟩ |⟨y,u,rfl,e⟩
   .show nomatch e
   .injection e with e1 _;rw[e1]
 byValue:=λk v h=>by
  rcases i9 h with⟨i,t,rfl,rfl⟩ |⟨x,t,rfl,rfl⟩ <;> rfl
 pyHash:=λhv h=>by
  rcases i9 hv with⟨i,t,rfl,rfl⟩ |⟨x,t,rfl,rfl⟩
  .show wpAny_pyHash_int h
  .show wpAny_pyHash_str h
 eqBool:=λhu hv h=>by
  rcases i9 hu with⟨i,t,rfl,rfl⟩ |⟨x,t,rfl,rfl⟩
  .rcases i9 hv with⟨j,u,rfl,rfl⟩ |⟨y,u,rfl,rfl⟩
   .rw[uc]at h;show wpAny_eqBool_int h
   .rw[xD]at h;show xA i t y u _ _ _ _ h
  .rcases i9 hv with⟨j,u,rfl,rfl⟩ |⟨y,u,rfl,rfl⟩
   .rw[xE]at h;show xB x t j u _ _ _ _ h
   .rw[Ew]at h;show wpAny_eqBool_str h
 «strs»:=λk x t v h=>by
  rcases i9 h with⟨i,u,rfl,e⟩ |⟨y,u,rfl,e⟩
  .show nomatch e
  .injection e with e1 _
   subst e1
   cases v <;> rfl
def K1(prog:cf)(w:World)(i:Int)(t:Tok):(lw prog w).is (.inl i) (.int i t)=ac:=Eu i t
def K2(prog:cf)(w:World)(x:Str)(t:Tok):(lw prog w).is (.inr x) (.str x t)=ac:=Ev x t
inductive V where
 |non |bl (b:Bool) |int (i:Int) |str (x:Str) |byt (b:Array UInt8) |flt (b:UInt64) |ref (a:Addr) |ty (n:String)
 deriving DecidableEq
nonrec abbrev LVv:=List V
abbrev aC:V->Value->Prop
 |.non,u=>u=mF
 |.bl b,u=>u=iB b
 |.int i,u=>∃t,u=Value.int i t
 |.str x,u=>∃t,u=Value.str x t
 |.byt b,u=>∃t,u=Value.bytes b t
 |.flt b,u=>∃t,u=Value.float b t
 |.ref a,u=>u=eQ a
 |.ty n,u=>u=ka n
nonrec abbrev aF:LVv->LVa->Prop:=hV aC
variable{C:LVv}{us:LVa}
def aF.length(r:aF C us):C.length=us.length:=oK r
def aF.get:∀{C:LVv} {us:LVa} {i:Nat} {x:V},aF C us->C[i]?=aa x->∃u,us[i]?=aa u/\aC x u
 | _,_,_,_,.nil,e=>by simp at e
 | _,_,0,_,.cons r _,e=>by simp at e;subst e;show(_,rfl,r)
 | _,_,i+1,x,.cons _ t,e=>by
  have(u,a,h2):=aF.get t (by simpa using e);show(u,by simpa using a,h2)
def aF.set{x:V}{u:Value}(r:aC x u):∀{C:LVv} {us:LVa} (i:Nat),aF C us->aF (C.set i x) (us.set i u)
 | _,_,_,.nil=>.nil
 | _,_,0,.cons _ t=>.cons r t
 | _,_,i+1,.cons q t=>.cons q (aF.set r i t)
def aF.append:∀{C a:LVv} {us ws:LVa},aF C us->aF a ws->aF (C++a) (us++ws)
 | _,_,_,_,.nil,s=>s
 | _,_,_,_,.cons r t,s=>.cons r (aF.append t s)
def aF.take:∀{C:LVv} {us:LVa} (n:Nat),aF C us->aF (C.take n) (us.take n)
 | _,_,0,_=>.nil
 | _,_,_+1,.nil=>.nil
 | _,_,n+1,.cons r t=>.cons r (aF.take n t)
def aF.drop:∀{C:LVv} {us:LVa} (n:Nat),aF C us->aF (C.drop n) (us.drop n)
 | _,_,0,r=>r
 | _,_,_+1,.nil=>.nil
 | _,_,n+1,.cons _ t=>aF.drop n t
abbrev eR:Option V->Option Value->Prop
 |some v,aa u=>aC v u
 |none,ab=>True
 | _,_=>False
abbrev KV{a:Type}:List (a×V)->List (a×Value)->Prop:=hV λ(p:a×V) (q:a×Value)=>p.1=q.1/\aC p.2 q.2
abbrev kV:Key->V
 |.inl i=>.int i
 |.inr x=>.str x
abbrev kR:Key->V->Prop
 |.inl i,v=>v=.int i\/∃b:Bool,v=.bl b/\i=cond b 1 0
 |.inr x,v=>v=.str x
abbrev xF:Key->Value->Bool
 |.inl k,.bool b=>decide (k=cond b 1 0)
 |k,v=>lu k v
def mJ{k:Key}{v:Value}(h:xF k v=ac):(∃i t,k=.inl i/\v=.int i t)\/(∃b:Bool,k=.inl (cond b 1 0)/\v=.bool b)\/(∃x t,k=.inr x/\v=.str x t):=by
 unfold xF at h;split at h
 .rename_i a b;show .inr (.inl (b,by rw[of_decide_eq_true h],rfl))
 .rcases i9 h with q |q
  .show .inl q
  .show .inr (.inr q)
def K3(a b:Bool):decide ((iD (cond a 1 0):Key)=iD (cond b 1 0))=(a==b):=by cases a <;> cases b <;> decide
def K4(a:Bool)(j:Int):decide ((iD (cond a 1 0):Key)=iD j)=((if a then 1 else 0)==j):=by rw[uc];cases a <;> rfl
def K5(j:Int)(a:Bool):decide ((iD j:Key)=iD (cond a 1 0))=(j==(if a then 1 else 0)):=by rw[uc];cases a <;> rfl
variable{prog:cf}{w:World}{A:b5}{W8:PRS}
def K6{s:ah}{b:Bool}{Q:Int->ah->Prop}(h:Q (hashInt (cond b 1 0)) {s with toks:=s.toks+1}):wpAny (model prog w) A (pyHash (.bool b)) Q W8 s:=by
 show W.pyHash_slot (T:="bool") rfl PySem.F.slot_bool_hash PySem.entry_int_hash (PySem.args_int_hash _) (beq_builtin_none _) (.inl rfl) ?_;cases b
 .show(show wpAny _ _ (do ret (<- mkInt 0)) _ _ s from aj (wpAny_mkInt (aE (_,_,rfl,h))))
 .show(show wpAny _ _ (do ret (<- mkInt 1)) _ _ s from aj (wpAny_mkInt (aE (_,_,rfl,h))))
abbrev mK(prog:cf)(w:World):PySem.KeyKind prog w Key where
 is:=xF
 hash:=Et w
 inj:=λv a b ha hb=>by
  rcases mJ ha with⟨i,t,rfl,rfl⟩ |⟨c,rfl,rfl⟩ |⟨x,t,rfl,rfl⟩ <;> rcases mJ hb with⟨j,u,rfl,e⟩ |⟨d,rfl,e⟩ |⟨y,u,rfl,e⟩ <;> cases e <;> rfl
 byValue:=λk v h=>by
  rcases mJ h with⟨i,t,rfl,rfl⟩ |⟨c,rfl,rfl⟩ |⟨x,t,rfl,rfl⟩ <;> rfl
 pyHash:=λhv h=>by
  rcases mJ hv with⟨i,t,rfl,rfl⟩ |⟨c,rfl,rfl⟩ |⟨x,t,rfl,rfl⟩
  .show wpAny_pyHash_int h
  .show K6 h
  .show wpAny_pyHash_str h
 eqBool:=λhu hv h=>by
  rcases mJ hu with⟨i,t,rfl,rfl⟩ |⟨c,rfl,rfl⟩ |⟨x,t,rfl,rfl⟩ <;> rcases mJ hv with⟨j,u,rfl,rfl⟩ |⟨d,rfl,rfl⟩ |⟨y,u,rfl,rfl⟩
  .rw[uc]at h;show cx.int_int _ _ _ _ _ _ _ _ h
  .rw[K5]at h;show cx.int_bool _ _ _ _ _ _ _ h
  .rw[xD]at h;show xA _ _ _ _ _ _ _ _ h
  .rw[K4]at h;show cx.bool_int _ _ _ _ _ _ _ h
  .rw[K3]at h;show cx.bool_bool _ _ _ _ _ _ h
  .rw[xD]at h;show cx.bool_str _ _ _ _ _ _ _ h
  .rw[xE]at h;show xB _ _ _ _ _ _ _ _ h
  .rw[xE]at h;show cx.str_bool _ _ _ _ _ _ _ h
  .rw[Ew]at h;show wpAny_eqBool_str h
 «strs»:=λk x t v h=>by
  rcases mJ h with⟨i,u,rfl,e⟩ |⟨c,rfl,e⟩ |⟨y,u,rfl,e⟩
  .show nomatch e
  .show nomatch e
  .injection e with e1 _
   subst e1
   cases v <;> rfl
variable{P:cf}{v:V}
def K7{k:Key}{u:Value}(q:kR k v)(r:aC v u):(mK P w).is k u=ac:=by
 cases k with
 |inl i=>
  rcases q with rfl |⟨b,rfl,rfl⟩
  .have(t,e):=(show ∃t,u=Value.int i t from r);subst e;show Eu i t
  .cases (show u=iB b from r);cases b <;> rfl
 |inr x=>cases (show v=V.str x from q);have(t,e):=(show ∃t,u=Value.str x t from r);subst e;show Ev x t
nonrec abbrev KRs:List Key->LVv->Prop:=hV kR
def Ex{P:cf}{w:World}:∀{ks:List Key} {vs:LVv} {us:LVa},KRs ks vs->aF vs us->ItemsAre (mK P w) ks us
 | _,_,_,.nil,r=>by cases r;show .nil
 | _,_,_,.cons q t,r=>by
  cases r with
  |cons h t'=>show .cons (K7 q h) (Ex t t')
inductive HO where
 |lst (C:LVv)
 |tup (C:LVv)
 |dK (kvs:List (Key×V)) |dT (kvs:List (List Key×V))
 |set (S:Int->Bool) (n:Nat)
 |ins (W9 dx:Addr) (fs:List (Str×V))
 |own (x:Addr)
 |xd (fs:List (Str×V))
 |met (f x:Addr)
 |rng (lo hi:Int)
 |frz (o:Obj) (u:HO)
 |tbl (ps:Array Value)
 |ext (φ:Heap->Prop)
nonrec def Hp:=Addr->Option HO
def fm(H:Hp)(b:Addr)(k:List Key):Prop:=∃vs,H b=aa (.tup vs)/\KRs k vs
variable{H H':Hp}{b:Addr}
def fm.up{k:List Key}(h:fm H b k)(a:∀b C,H b=aa (.tup C)->H' b=aa (.tup C)):fm H' b k:=let (vs,e,q):=h;(vs,a _ _ e,q)
def upd(H:Hp)(a:Addr)(o:HO):Hp:=λb=>if b=a then aa o else H b
variable{a:Addr}
def aY{o:HO}:upd H a o a=aa o:=by unfold upd;rw[if_pos rfl]
def aK{o:HO}(h:b≠a):upd H a o b=H b:=by unfold upd;rw[if_neg h]
def Ey{o u:HO}(h:H a=aa o)(h':H b=aa u)(d:o≠u):a≠b:=by grind
def fq{o:HO}(h:H a=aa o)(h':H b=ab):a≠b:=by
 intro e;subst e;rw[h]at h';cases h'
section
variable(P:cf)(w:World)
abbrev dQ(H:Hp)(h:Heap)(a:Addr):HO->Prop
 |.lst C=>C.length<=aS/\∃(L:LVa) (n:Nat),aF C L/\h.get? a=aa {cls:=.type "list",data:=.seq L.toArray n}
 |.tup C=>C.length<=aS/\∃L:LVa,aF C L/\IsTup h a L.toArray
 |.dK kvs=>kvs.length<=aS/\(a==hE)=af/\∃vs,KV kvs vs/\h.DictOf (lw P w) a vs
 |.dT kvs=>kvs.length<=aS/\(a==hE)=af/\∃C:List (List Key×Addr×Value),
   hV (λ(p:List Key×V) (q:List Key×Addr×Value)=>p.1=q.1/\fm H q.2.1 p.1/\aC p.2 q.2.2) kvs C /\
   ∃o es c,h.get? a=aa o/\o.ExactDict/\o.data=.dict es c/\es.toList=C.map (entryOfKey (tupleKind (mK P w)))/\(C.map (·.1)).Nodup
 |.set S n=>h.SetOf (fN P w) a S n
 |.ins W9 dx fs=>H dx=aa (.own a)/\fs.length<=1000/\dx≠a/\h.get? a=aa (ls W9 dx) /\
   ∃mA,h.Ns1 dx mA/\(∀f,eR (fs.lookup f) (mA f))/\PySem.Within mA (fs.map (·.1))
 |.own _=>∃o,h.get? a=aa o
 |.xd fs=>∃mA,h.Ns1 a mA/\∀f,eR (fs.lookup f) (mA f)
 |.rng lo hi=>∃t u v,h.get? a=aa {cls:=.type "range",data:=.fields #[.int lo t,.int hi u,.int 1 v]}
 |.frz o u=>h.get? a=aa o/\dQ H h a u
 |.tbl ps=>h.get? a=aa {cls:=.none,data:=.fields ps}
 |.met f x=>h.get? a=aa (W.methodObj (.ref f) (.ref x))
 |.ext φ=>φ h/\(∃o,h.get? a=aa o)/\∀b h2:Heap,φ b->(∀o,b.get? a=aa o->h2.get? a=aa o)->φ h2
def HOk(H:Hp)(h:Heap):Prop:=∀a o,H a=aa o->dQ P w H h a o
end
variable{h:Heap}
def dQ.lt{o:HO}(x:dQ P w H h a o):a<h.objs.size:=by
 cases o with
 |lst C=>have(_,_,_,_,e):=x;show bz e
 |tup C=>have(_,_,_,p):=x;show p.lt
 |dK kvs=>have(_,_,_,_,o,_,_,e,_):=x;show bz e
 |dT kvs=>have(_,_,_,_,o,_,_,e,_):=x;show bz e
 |set S n=>have(o,_,_,_,e,_):=x;show bz e
 |ins W9 dx fs=>have(_,_,_,e,_):=x;show bz e
 |own y=>have(_,e):=x;show bz e
 |xd fs=>have(_,(_,_,_,e,_),_):=x;show bz e
 |rng lo hi=>have(_,_,_,e):=x;show bz e
 |frz b u=>have(e,_):=x;show bz e
 |tbl ps=>show bz (x)
 |met f y=>show bz (x)
 |ext φ=>have(_,(_,e),_):=x;show bz e
def hV.mapP{e g:Type}{F G:e->g->Prop}:∀{c:List e} {d:List g},hV F c d->(∀a b,F a b->G a b)->hV G c d
 | _,_,.nil,_=>.nil
 | _,_,.cons r t,f=>.cons (f _ _ r) (hV.mapP t f)
variable{h':Heap}
section
variable{o:HO}
def dQ.stay(x:dQ P w H h a o)(k:∀b u,(b=a\/H b=aa (.own a))->h.get? b=aa u->h'.get? b=aa u)
 (l:∀b,H b=aa (.own a)->H' b=aa (.own a))(m:∀b C,H b=aa (.tup C)->H' b=aa (.tup C)):dQ P w H' h' a o:=by
 induction o with
 |lst C=>have(z,L,n,r,e):=x;show(z,L,n,r,k _ _ (.inl rfl) e)
 |tup C=>have(z,L,r,g,e,c):=x;show(z,L,r,g,k _ _ (.inl rfl) e,c)
 |dK kvs=>have(z,y,vs,r,g,es,i,e,c):=x;show(z,y,vs,r,g,es,i,k _ _ (.inl rfl) e,c)
 |dT kvs=>
  have(z,y,C,r,g,es,i,e,c):=x
  show(z,y,C,hV.mapP r λp q z=>(z.1,z.2.1.up m,z.2.2),g,es,i,k _ _ (.inl rfl) e,c)
 |set S n=>have(g,es,i,t,e,c):=x;show(g,es,i,t,k _ _ (.inl rfl) e,c)
 |ins W9 dx fs=>
  have(d,z,ne,e,mA,(od,es,i,j,c),r):=x
  show(l _ d,z,ne,k _ _ (.inl rfl) e,mA,(od,es,i,k _ _ (.inr d) j,c),r)
 |own y=>have(g,e):=x;show(g,k _ _ (.inl rfl) e)
 |xd fs=>have(mA,(od,es,i,e,c),r):=x;show(mA,(od,es,i,k _ _ (.inl rfl) e,c),r)
 |rng lo hi=>have(t,u,v,e):=x;show(t,u,v,k _ _ (.inl rfl) e)
 |frz g u A=>have(e,q):=x;show(k _ _ (.inl rfl) e,A q)
 |tbl ps=>
  have e:=x
  show k a _ (.inl rfl) e
 |met f y=>
  have e:=x
  show k a _ (.inl rfl) e
 |ext φ=>have(p,(o,e),st):=x;show(st _ _ p λo q=>k _ _ (.inl rfl) q,(o,k _ _ (.inl rfl) e),st)
end
def HOk.lt{o:HO}(x:HOk P w H h)(e:H a=aa o):a<h.objs.size:=(x a o e).lt
def HOk.fresh(x:HOk P w H h)(e:h.objs.size<=a):H a=ab:=by
 cases q:H a with
 |none=>rfl
 |some u=>show absurd (fj (x.lt q) e) (gA _)
def HOk.kept(x:HOk P w H h)(k:∀b u,h.get? b=aa u->h'.get? b=aa u):HOk P w H h':=λa o e=>
 (x a o e).stay (λb u _ q=>k b u q) (λ_ q=>q) λ_ _ q=>q
def HOk.laid{o:HO}(x:HOk P w H h)(k:∀b u,h.get? b=aa u->h'.get? b=aa u)(f:h.objs.size<=a)(new:dQ P w (upd H a o) h' a o):HOk P w (upd H a o) h':=λb u e=>by
 have hn:=x.fresh f
 by_cases d:b=a
 .subst d;rw[aY]at e;cases e;show new
 .rw[aK d]at e;show(x b u e).stay (λc v _ q=>k c v q) (λc q=>by rw[aK (fq q hn)];show q) λc C q=>by rw[aK (fq q hn)];show q
def Rd(H:Hp)(a:Addr)(u:HO):Prop:=H a=aa u\/∃o,H a=aa (.frz o u)
def Rd.ok{u:HO}(r:Rd H a u)(x:HOk P w H h):dQ P w H h a u:=by
 rcases r with r |⟨o,r⟩
 .show x a u r
 .have(_,q):=x a _ r;show q
abbrev Mut:Option HO->Prop
 |some (.lst _)=>True
 |some (.dK _)=>True
 |some (.dT _)=>True
 |some (.set _ _)=>True
 |some (.ins _ _ _)=>True
 |some (.ext _)=>True
 | _=>False
variable{x e:Addr}{o':HO}
def HOk.write(ok:HOk P w H h)(f:Mut (H x))(n:e=x\/H e=aa (.own x))(k:∀b u,b≠e->h.get? b=aa u->h'.get? b=aa u)(i:∃u,h'.get? e=aa u)
 (new:dQ P w (upd H x o') h' x o'):HOk P w (upd H x o') h':=λb u q=>by
 have a:∀c y,H c=aa (.own y)->c≠x:=λc y r z=>by subst z;rw[r]at f;show f
 have d:∀c C,H c=aa (.tup C)->c≠x:=λc C r z=>by subst z;rw[r]at f;show f
 by_cases j:b=x
 .subst j;rw[aY]at q;grind
 .rw[aK j]at q
  by_cases g:b=e
  .have l:H b=aa (.own x):=by
    grind
   rw[q]at l;cases l;have(v,hv):=i;show(v,by rw[g];show hv)
  .show(ok b u q).stay (λc v m r=>k c v ?_ r) (λc r=>by rw[aK (a c b r)];show r) λc C r=>by rw[aK (d c C r)];show r
   grind
structure Un(fs ex:LAd)(H H':Hp)(h h':Heap):Prop where
 keep:∀b o,h.get? b=aa o->H b=ab->b∉fs->b∉ex->h'.get? b=aa o
 slot:∀b o,h.get? b=aa o->H b=ab->b∈fs->b∉ex->∃sl,h'.get? b=aa {o with slots:=sl}
 free:∀b o,h.get? b=aa o->H b=ab->b∉ex->H' b=ab
 there:∀b o,h.get? b=aa o->b∉ex->∃o',h'.get? b=aa o'
 tups:∀b C,H b=aa (.tup C)->H' b=aa (.tup C)
 frzs:∀b o u,H b=aa (.frz o u)->H' b=aa (.frz o u)
 tbls:∀b ps,H b=aa (.tbl ps)->∃more,H' b=aa (.tbl (ps++more))
variable{ex:LAd}{H1:Hp}{h1:Heap}
def Un.any{fs:LAd}(u:Un fs ex H H1 h h1){a:Obj}(q:h.get? b=aa a)(n:H b=ab)(d:b∉ex):∃sl,h1.get? b=aa {a with slots:=sl}:=by
 by_cases c:b∈fs
 .show u.slot b a q n c d
 .show(a.slots,u.keep b a q n c d)
variable{H2:Hp}{h2:Heap}
def Un.trans{fs:LAd}(a:Un fs ex H H1 h h1)(b:Un fs ex H1 H2 h1 h2):Un fs ex H H2 h h2 where
 keep:=λc ob q n hc hx=>b.keep c ob (a.keep c ob q n hc hx) (a.free c ob q n hx) hc hx
 slot:=λc ob q n hc hx=>by
  have(sl,e1):=a.slot c ob q n hc hx;have(sl',e2):=b.slot c _ e1 (a.free c ob q n hx) hc hx;show(sl',e2)
 free:=λc ob q n hx=>by
  have(o',e1):=a.there c ob q hx;show b.free c o' e1 (a.free c ob q n hx) hx
 there:=λc ob q hx=>by
  have(o',e1):=a.there c ob q hx;show b.there c o' e1 hx
 tups:=λc C q=>b.tups c C (a.tups c C q)
 frzs:=λc ob C q=>b.frzs c ob C (a.frzs c ob C q)
 tbls:=λc ps q=>by
  have(m1,e1):=a.tbls c ps q;have(m2,e2):=b.tbls c _ e1;show(m1++m2,by rw[e2,Array.append_assoc])
def Un.kept{fs:LAd}(k:∀b u,h.get? b=aa u->h'.get? b=aa u):Un fs ex H H h h':=
 (λb a q _ _ _=>k b a q,λb a q _ _ _=>(a.slots,k b a q),λ_ _ _ n _=>n,λb a q _=>(a,k b a q),λ_ _ q=>q,λ_ _ _ q=>q,λ_ ps q=>(#[],by rw[q];simp))
def Un.refl{fs:LAd}:Un fs ex H H h h:=Un.kept λ_ _ q=>q
def Un.laid{fs:LAd}{o:HO}(k:∀b u,h.get? b=aa u->h'.get? b=aa u)(hp:h.objs.size<=a)(hn:H a=ab):Un fs ex H (upd H a o) h h' where
 keep:=λb u q _ _ _=>k b u q
 slot:=λb u q _ _ _=>(u.slots,k b u q)
 free:=λb u q n _=>by rw[aK (bU (fj (bz q) hp))];show n
 there:=λb u q _=>(u,k b u q)
 tups:=λb C q=>by rw[aK (fq q hn)];show q
 frzs:=λb u C q=>by rw[aK (fq q hn)];show q
 tbls:=λb ps q=>(#[],by rw[aK (fq q hn),q];simp)
def Un.write{fs:LAd}{o:HO}(a:Mut (H x))(g:e=x\/H e=aa (.own x))(k:∀b u,b≠e->h.get? b=aa u->h'.get? b=aa u)(d:∃u,h'.get? e=aa u):Un fs ex H (upd H x o) h h':=by
 have f:∀b,H b=ab->b≠x:=λb n z=>by subst z;rw[n]at a;show a
 have c:∀b,H b=ab->b≠e:=λb n z=>by
  grind
 have hm:∀b u,H b=aa u->¬Mut (aa u)->b≠x:=λb u q nm z=>by subst z;rw[q]at a;show nm a
 show(λb u q n _ _=>k b u (c b n) q,λb u q n _ _=>(u.slots,k b u (c b n) q),λb u q n _=>by rw[aK (f b n)];show n,λb u q _=>?_,
  λb C q=>by rw[aK (hm b _ q λz=>z)];show q,λb u C q=>by rw[aK (hm b _ q λz=>z)];show q,λb ps q=>(#[],by rw[aK (hm b _ q λz=>z),q];simp))
 grind
def trk(h:Heap)(H:Hp):LAd:=(bL h.objs.size).filter λa=>(H a).isSome
def oO(h:Heap)(H:Hp):Heap:=W.hideAll h (trk h H)
def K8(h:Heap)(H:Hp):(oO h H).objs.size=h.objs.size:=W.hideAll_size _ _
def K9{o:Obj}(e:h.get? b=aa o)(n:H b=ab):(oO h H).get? b=aa o:=
 W.hideAll_get _ e λhm=>by
  have q:=(cw.mp hm).2
  grind
def La{o:Obj}(e:(oO h H).get? b=aa o):h.get? b=aa o/\H b=ab:=by
 have e':=W.of_hideAll _ e;show(e',?_)
 cases q:H b with
 |none=>rfl
 |some x=>
  have hm:b∈trk h H:=cw.mpr (eJ.mpr (bz e'),by simp[q]);have z:(oO h H).get? b=ab:=W.hideAll_none _ hm
  grind
def Lb(g h:Heap)(W6:Addr):PNS:=(bL h.objs.size).filterMap λa=>if a=W6\/(g.get? a).isSome=ac then ab else (h.get? a).map λo=>(a,o,)
def rest(g h:Heap)(W6 d:Addr):PNS:=(Lb g h W6).filter λp=>decide (p.1≠d)
structure Mod(K:aQ)(mg:MGT)(base:Heap):Prop where
 kin:K.In base
 glob:base.Ns cC mg
 blt:∃mb,base.Ns builtinsNs mb/\∀x:Str,x ≠ "__name__" -> mb x=jF x
 nolimit:base.NoLimit
set_option genInjectivity false in
structure Cx where
 prog:cf
 w:World
 K:aQ
 mg:Str->Option Value
 base:Heap
 A:b5
 N:LSt
 s₀:ah
 H₀:Hp
 env:Env
 outer:List Env
 stack:List Env
 ex:LAd
 fn:Str->Bool
 calm:Bool
 pn:PNS
 xe:Value->ah->Prop
nonrec abbrev NDb(x:Str):=(x==("__debug__":Str))=af
nonrec abbrev NCd(x:Str):=(x==("__classdict__":Str))=af
nonrec abbrev StE(X:Cx)(e:Expr)(es:LEx):=aM (e::es) X.env=(af,eval e X.env,)::aM es X.env
nonrec abbrev BkE(X:Cx)(pos:Pos)(es:LEx):=(cg pos (aM es X.env)).any (·.1)=af
nonrec abbrev LcF(X:Cx)(x:Str):=X.fn x=ac\/X.env.scope.names.lookup x=aa .local
def frs(l:List Env):LAd:=l.filterMap (·.frame)
nonrec def Cx.fs(X:Cx):LAd:=frs X.outer
def Vis(sc:Scope)(x:Str):Prop:=sc.names.lookup x=aa .local\/sc.names.lookup x=aa .cell\/sc.names.lookup x=aa .free
def Loc(sc:Scope)(x:Str):Prop:=sc.names.lookup x=aa .local\/sc.names.lookup x=aa .cell
def Lc(env:Env)(h:Heap)(m:MGT)(x:Str)(u:Value):Prop:=
 (env.kindOf x=aa .local/\m x=aa u)\/((env.kindOf x=aa .cell\/env.kindOf x=aa .free)/\∃c,env.cells.lookup x=aa c/\h.IsCell c (aa u))
structure Cx.Ok(X:Cx):Prop where
 mod:Mod X.K X.mg X.base
 kind:X.env.scope.kind=.function
 glob:X.env.globals=cC
 blt:X.env.builtins=builtinsNs
 above:X.s₀.heap.objs.size<=X.env.locals
 inj:∀x y c,X.env.cells.lookup x=aa c->X.env.cells.lookup y=aa c->x=y
 has:∀x,(X.env.kindOf x=aa .cell\/X.env.kindOf x=aa .free)->∃c,X.env.cells.lookup x=aa c
 cab:∀x c,X.fn x=ac->X.env.cells.lookup x=aa c->X.s₀.heap.objs.size<=c
 hd:X.calm=ac->X.A.handled=ab
 frames:X.A.frames=aa X.stack
 stk:X.stack=X.outer\/(X.stack=X.env::X.outer/\X.env.frame=aa X.env.locals)
 exf:∀b∈X.ex,b≠X.env.locals/\∀x c,X.env.cells.lookup x=aa c->c≠b
 bs:∀b o,X.base.get? b=aa o->X.s₀.heap.get? b=aa o/\X.H₀ b=ab
 bsz:X.base.objs.size<=X.s₀.heap.objs.size
 noex:∀b o,X.base.get? b=aa o->b∉X.ex
 exfs:∀b∈X.ex,b∉X.fs
 funs:X.s₀.heap.FunFrames X.base X.outer
 frf:∀b∈X.fs,X.H₀ b=ab
structure Inv(X:Cx)(U:PNS)(E:List (Option V))(H:Hp)(s:ah):Prop where
 ok:X.Ok
 os:s.os=X.s₀.os
 bare:j6 s.gens
 base:Un X.fs X.ex X.H₀ H X.s₀.heap s.heap
 loc:∃m,s.heap.Ns X.env.locals m/\∀(i:Nat) (x:Str) (v:V),X.N[i]?=aa x->E[i]?=aa (aa v)->Vis X.env.scope x->∃u,aC v u/\Lc X.env s.heap m x u
 cell:∀x c,X.env.cells.lookup x=aa c->∃v,s.heap.IsCell c v
 free:H X.env.locals=ab
 freeC:∀x c,X.env.cells.lookup x=aa c->H c=ab
 pin:∀p∈X.pn++U,s.heap.get? p.1=aa p.2/\H p.1=ab/\p.1≠X.env.locals/\p.1∉X.fs/\∀v,p.2.data≠.cell v
 hok:HOk X.prog X.w H s.heap
 len:E.length=X.N.length
variable{X:Cx}
def Cx.Ok.nofr(ok:X.Ok){o:Obj}(e:X.base.get? b=aa o):b∉X.fs:=λa=>by
 have:=(ok.funs.mem a).1
 grind
variable{U:PNS}{E:List (Option V)}
def Inv.bs{s:ah}(I:Inv X U E H s):∀b o,X.base.get? b=aa o->s.heap.get? b=aa o/\H b=ab:=λb o e=>
 (I.base.keep b o (I.ok.bs b o e).1 (I.ok.bs b o e).2 (I.ok.nofr e) (I.ok.noex b o e),I.base.free b o (I.ok.bs b o e).1 (I.ok.bs b o e).2 (I.ok.noex b o e))
def Inv.bk{s:ah}(I:Inv X U E H s):∀b o,X.base.get? b=aa o->s.heap.get? b=aa o:=λb o e=>(I.bs b o e).1
def Inv.mod{s:ah}(I:Inv X U E H s):Mod X.K X.mg X.base:=I.ok.mod
def Inv.kIn{s:ah}(I:Inv X U E H s):X.K.In s.heap:=I.ok.mod.kin.keeps I.bk
def Inv.lt{s:ah}(I:Inv X U E H s):X.env.locals<s.heap.objs.size:=let (_,hn,_):=I.loc;hn.lt
def Inv.sz{s:ah}(I:Inv X U E H s):X.s₀.heap.objs.size<=s.heap.objs.size:=cS I.ok.above (eK I.lt)
def Inv.nofs{s:ah}(I:Inv X U E H s)(h:s.heap.objs.size<=a):a∉X.fs:=λb=>by
 have(_,o,c,_):=I.ok.funs.mem b;show absurd (fj (bz c) (cS I.sz h)) (gA _)
def Inv.cne{s:ah}(I:Inv X U E H s):∀x c,X.env.cells.lookup x=aa c->c≠X.env.locals:=λx c e z=>by
 have(v,o,f,hd):=I.cell x c e;have(m,(o',es,d,b,a,_),_):=I.loc
 grind
def Inv.funs{s:ah}(I:Inv X U E H s):s.heap.FunFrames X.base X.outer:=by
 have all:∀l,(∀b∈frs l,b∈X.fs)->X.s₀.heap.FunFrames X.base l->s.heap.FunFrames X.base l:=by
  intro l
  induction l with
  |nil=>intro _ _;trivial
  |cons env r j=>
   intro f h;have(g,(W6,o,d,hn,i,hd),hr):=h;have a:=f W6 (by unfold frs;rw[qE,d];show az);have(sl,e):=I.base.slot W6 o i (I.ok.frf W6 a) a λz=>I.ok.exfs W6 z a;show(g,(W6,_,d,hn,e,hd),j (λb c=>f b (by unfold frs;rw[qE,d];show bi _ c)) hr)
 show all X.outer (λ_ c=>c) I.ok.funs
def Inv.stack{s:ah}(I:Inv X U E H s):s.heap.FunFrames X.base X.stack:=by
 rcases I.ok.stk with e |⟨e,hf⟩
 .rw[e];show I.funs
 .rw[e];have(m,hn,_):=I.loc;show .cons (by rw[I.ok.kind];decide) hf hn (Heap.get?_none_of_le (cS I.ok.bsz I.ok.above)) I.funs
def Inv.stkSub{s:ah}(I:Inv X U E H s):∀b∈frs X.stack,b∈X.env.locals::X.fs:=λb a=>by
 rcases I.ok.stk with e |⟨e,hf⟩
 .rw[e]at a;show bi _ a
 .rw[e]at a;unfold frs at a;rw[qE,hf]at a;show a
def Inv.stkFree{s:ah}(I:Inv X U E H s):∀b∈frs X.stack,H b=ab:=λb a=>by
 rcases aX.mp (I.stkSub b a)with e |a
 .rw[e];show I.free
 .have(_,o,c,_):=I.ok.funs.mem a;show I.base.free b o c (I.ok.frf b a) λz=>I.ok.exfs b z a
variable{g':Array GenState}{t':Nat}{d':Drawn}
section
variable{s:ah}
def Inv.step{ch:LAd}(I:Inv X U E H s)
 (g:∀b∈ch,(b∈X.ex\/X.s₀.heap.objs.size<=b)/\b≠X.env.locals/\(∀x c,X.env.cells.lookup x=aa c->c≠b)/\∀p∈X.pn++U,p.1≠b)
 (keep:∀b o,b≠X.env.locals->b∉X.fs->b∉ch->s.heap.get? b=aa o->H b=ab->h'.get? b=aa o)
 (slot:∀b o,b≠X.env.locals->b∈X.fs->b∉ch->s.heap.get? b=aa o->H b=ab->∃sl,h'.get? b=aa {o with slots:=sl})(free:∀b o,b∉ch->s.heap.get? b=aa o->H b=ab->H' b=ab)
 (there:∀b o,b∉ch->s.heap.get? b=aa o->∃o',h'.get? b=aa o')
 (tups:∀b C,H b=aa (.tup C)->H' b=aa (.tup C))(frzs:∀b o u,H b=aa (.frz o u)->H' b=aa (.frz o u))(tbls:∀b ps,H b=aa (.tbl ps)->∃more,H' b=aa (.tbl (ps++more)))
 (ns:∀m,s.heap.Ns X.env.locals m->h'.Ns X.env.locals m)(hok:HOk X.prog X.w H' h')(T:j6 g'):
  Inv X U E H' {s with heap:=h',gens:=g',drawn:=d',toks:=t'}:=by
 have J:∀b o,X.s₀.heap.get? b=aa o->b≠X.env.locals:=λb o e=>bU (fj (bz e) I.ok.above)
 have y:∀b o,X.s₀.heap.get? b=aa o->b∉X.ex->b∉ch:=λb o e a A=>by
  rcases(g b A).1 with z |z
  .show a z
  .show absurd (fj (bz e) z) (gA _)
 have f:∀x c,X.env.cells.lookup x=aa c->∀v,s.heap.IsCell c v->h'.IsCell c v:=λx c e v q_=>by
  have(o,B,hd):=q_;have h:=λz=>(g c z).2.2.1 x c e rfl
  by_cases M:c∈X.fs
  .have(sl,q):=slot c o (I.cne x c e) M h B (I.freeC x c e);show(_,q,hd)
  .show(o,keep c o (I.cne x c e) M h B (I.freeC x c e),hd)
 show(I.ok,I.os,T,(λb o e n A a=>(keep b o (J b o e) A (y b o e a) (I.base.keep b o e n A a) (I.base.free b o e n a)),λb o e n A a=>?_,λb o e n a=>?_,λb o e a=>?_,λb C e=>tups b C (I.base.tups b C e),λb o C e=>frzs b o C (I.base.frzs b o C e),λb ps e=>?_),?_,λx c e=>?_,?_,λx c e=>?_,λp N=>?_,hok,I.len)
 .have(sl,j):=I.base.slot b o e n A a;have(L,G):=slot b _ (J b o e) A (y b o e a) j (I.base.free b o e n a);show(L,G)
 .have(o',j):=I.base.there b o e a;show free b o' (y b o e a) j (I.base.free b o e n a)
 .have(o',j):=I.base.there b o e a;show there b o' (y b o e a) j
 .have(m1,j):=I.base.tbls b ps e;have(m2,G):=tbls b _ j;show(m1++m2,by rw[G,Array.append_assoc])
 .have(m,hn,Y):=I.loc;show(m,ns m hn,λi x v j G Q=>?_);have(u,r,l):=Y i x v j G Q;show(u,r,?_)
  rcases l with l |⟨k,c,e,z⟩
  .show .inl l
  .show .inr (k,c,e,f x c e _ z)
 .have(v,z):=I.cell x c e;show(v,f x c e v z)
 .have(m,(o,_,_,B,_),_):=I.loc;show free _ o (λz=>(g _ z).2.1 rfl) B I.free
 .have(v,o,B,hd):=I.cell x c e;show free c o (λz=>(g c z).2.2.1 x c e rfl) B (I.freeC x c e)
 .have(e,n,ne,nf,d):=I.pin p N;have h:=λz=>(g p.1 z).2.2.2 p N rfl;show(keep p.1 p.2 ne nf h e n,free p.1 p.2 h e n,ne,nf,d)
end
section
variable{s:ah}
def Inv.un(I:Inv X U E H s)(u:Un X.fs [] H H' s.heap h')(hok:HOk X.prog X.w H' h'):Inv X U E H' {s with heap:=h',toks:=t'}:=by
 have(m,(o,es,i,f,r),_):=id I.loc;have(sl,g):=u.any f I.free (by simp)
 show I.step (ch:=[]) (λ_ z=>nomatch z) (λb o _ d _ e n=>u.keep b o e n d (by simp)) (λb o _ d _ e n=>u.slot b o e n d (by simp)) (λb o _ e n=>u.free b o e n (by simp)) (λb o _ e=>u.there b o e (by simp)) u.tups u.frzs u.tbls (λj hm=>by
  have(o',es',c,a,h):=hm;rw[f]at a;cases a;show(_,es',c,g,h)) hok I.bare
end
section
variable{s:ah}
def Inv.call{ch:LAd}(I:Inv X U E H s)(u:Un (frs X.stack) ch H H' s.heap h')(hok:HOk X.prog X.w H' h')(l:j6 g')
 (d:∀b∈ch,(b∈X.ex\/X.s₀.heap.objs.size<=b)/\b≠X.env.locals/\(∀x c,X.env.cells.lookup x=aa c->c≠b)/\∀p∈X.pn++U,p.1≠b):
  Inv X U E H' {s with heap:=h',gens:=g',drawn:=d',toks:=t'}:=by
 have(m,(o,es,v,i,r),_):=id I.loc;have(sl,h):=u.any i I.free λz=>(d _ z).2.1 rfl
 show I.step d (λb o h j a e n=>u.keep b o e n (λz=>(aX.mp (I.stkSub b z)).elim h j) a) (λb o _ _ a e n=>u.any e n a) (λb o a e n=>u.free b o e n a) (λb o a e=>u.there b o e a) u.tups u.frzs u.tbls (λy hm=>by
  have(o',es',g,f,q):=hm;rw[i]at f;cases f;show(_,es',g,h,q)) hok l
end
variable{it:Addr}
section
variable{s:ah}
def Inv.turned(I:Inv X U E H s)(k:∀b o,b≠it->s.heap.get? b=aa o->h'.get? b=aa o)(hn:H it=ab)(f:it≠X.env.locals)
 (h1:it∈X.ex\/X.s₀.heap.objs.size<=it)(h2:∀x c,X.env.cells.lookup x=aa c->c≠it)(h:∀p∈X.pn++U,p.1≠it):Inv X U E H {s with heap:=h',toks:=t'}:=by
 have d:∀b u,H b=aa u->b≠it:=λb u e z=>by rw[z,hn]at e;nomatch e
 show I.step (ch:=[it]) (λb i=>?_) (λb o _ _ a e _=>k b o (λz=>a (by simp[z])) e) (λb o _ _ a e _=>(o.slots,k b o (λz=>a (by simp[z])) e)) (λ_ _ _ _ n=>n)
  (λb o a e=>(o,k b o (λz=>a (by simp[z])) e)) (λ_ _ e=>e) (λ_ _ _ e=>e) (λb ps e=>(#[],by rw[e];simp)) (λm hm=>?_) (λb u e=>?_) I.bare
 .have e:b=it:=by simpa using i
  subst e;show(h1,f,h2,h)
 .have(o,es,g,j,r):=hm;show(o,es,g,k _ o (eM f) j,r)
 .show(I.hok b u e).stay (λc v a q=>k c v ?_ q) (λ_ q=>q) λ_ _ q=>q
  rcases a with z |z
  .rw[z];show d b u e
  .show d c _ z
end
section
variable{s:ah}
def Inv.tok(I:Inv X U E H s)(t:Nat):Inv X U E H {s with toks:=t}:=I.un Un.refl I.hok
end
section
variable{s:ah}
def Inv.kept(I:Inv X U E H s)(k:∀b u,s.heap.get? b=aa u->h'.get? b=aa u):Inv X U E H {s with heap:=h',toks:=t'}:=I.un (Un.kept k) (I.hok.kept k)
end
section
variable{s:ah}
def Inv.laid{o:HO}(I:Inv X U E H s)(k:∀b u,s.heap.get? b=aa u->h'.get? b=aa u)(c:s.heap.objs.size<=a)(new:dQ X.prog X.w (upd H a o) h' a o):
  Inv X U E (upd H a o) {s with heap:=h',toks:=t'}:=I.un (Un.laid k c (I.hok.fresh c)) (I.hok.laid k c new)
end
section
variable{s:ah}
def Inv.write{o:HO}(I:Inv X U E H s)(d:Mut (H x))(c:e=x\/H e=aa (.own x))(k:∀b u,b≠e->s.heap.get? b=aa u->h'.get? b=aa u)(a:∃u,h'.get? e=aa u)
 (new:dQ X.prog X.w (upd H x o) h' x o):Inv X U E (upd H x o) {s with heap:=h',toks:=t'}:=I.un (Un.write d c k a) (I.hok.write d c k a new)
end
def Inv.pins_of{s:ah}{a:PNS}(I:Inv X U E H s)(h:∀p∈a,s.heap.get? p.1=aa p.2/\H p.1=ab/\p.1≠X.env.locals/\p.1∉X.fs/\∀v,p.2.data≠.cell v):Inv X a E H s:=
 (I.ok,I.os,I.bare,I.base,I.loc,I.cell,I.free,I.freeC,λp b=>(bv.mp b).elim (λz=>I.pin p (bZ _ z)) (h p),I.hok,I.len)
variable{N:LSt}{i:Nat}{x:Str}
def Ez(e:N.Nodup){j:Nat}(a:N[i]?=aa x)(b:N[j]?=aa x):i=j:=by
 have(h1,c):=cX.mp a;have(h2,d):=cX.mp b;show(List.getElem_inj e).mp (c.trans d.symm)
variable{W5:Model}{u:Value}{Q:Unit->ah->Prop}
section
variable{s:ah}
def EA(I:Inv X U E H s)(hN:X.N.Nodup)(hi:X.N[i]?=aa x)(B:Loc X.env.scope x)(r:aC v u)
 (h:∀s',Inv X U (E.set i (aa v)) H s'->(∃a,gc a s.heap s'.heap/\(a=X.env.locals\/X.env.cells.lookup x=aa a))->Q () s')(hf:autoParam (LcF X x) Zh):wpAny W5 A (storeName X.env x u) Q W8 s:=by
 have(m,hn,hl):=id I.loc;have hcls:(X.env.scope.kind==.class || (X.env.scope.kind==.module && X.env.locals != X.env.globals))=af:=by rw[I.ok.kind];rfl
 have J:i<E.length:=by rw[I.len];show(cX.mp hi).1
 have cne:=I.cne
 have l:∀{a:Addr} {h':Heap},(∃o,s.heap.get? a=aa o/\H a=ab)->gc a s.heap h'->HOk X.prog X.w H h':=λ{a h'} ha f b ob e=>by
  have(_,_,hfree):=ha;show(I.hok b ob e).stay (λc w' C q=>(f.2 c ?_).trans q) (λ_ q=>q) λ_ _ q=>q
  grind
 rcases B with hk |hk
 .show wpAny_storeName_local hk hn (λh' hn' f=>?_) hcls;have(oL,_,_,hoL,_):=id hn;show h _ (I.ok,I.os,I.bare,(λb o e n L B=>((f.2 b (bU (fj (bz e) I.ok.above))).trans (I.base.keep b o e n L B)),λb o e n L B=>?_,I.base.free,λb o e B=>?_,I.base.tups,I.base.frzs,I.base.tbls),(_,hn',λj y v' g G e3=>?_),λy c e=>?_,I.free,I.freeC,λp hp=>?_,l (oL,hoL,I.free) f,by simpa using I.len) (_,f,.inl rfl)
  .have(sl,g):=I.base.slot b o e n L B;show(sl,(f.2 b (bU (fj (bz e) I.ok.above))).trans g)
  .have(o',g):=I.base.there b o e B;show(o',(f.2 b (bU (fj (bz e) I.ok.above))).trans g)
  .by_cases T:j=i
   .subst T;rw[hi]at g;cases g;rw[jX J]at G;cases G;show(u,r,.inl (hk,by simp))
   .rw[kX (eM T)]at G;have(u',r',q):=hl j y v' g G e3;show(u',r',?_)
    rcases q with⟨k,e⟩ |⟨k,c,e,z⟩
    .show .inl (k,?_);have:y≠x:=λe=>T (Ez hN g (e▸hi))
     grind
    .show .inr (k,c,e,z.sameBut f (cne y c e))
  .have(w',z):=I.cell y c e;show(w',z.sameBut f (cne y c e))
  .have(e,n,ne,nf,d):=I.pin p hp;show((f.2 p.1 ne).trans e,n,ne,nf,d)
 .have M:X.fn x=ac:=by
   grind
  have(c,C):=I.ok.has x (.inl hk);have(w',z):=I.cell x c C;show wpAny_storeName_cell I.ok.kind hk C z (λh' Y f=>?_);have(oc,hoc,hocd):=id z
  show h {s with heap:=h'} (I.ok,I.os,I.bare,(λb o e n L B=>((f.2 b (bU (fj (bz e) (I.ok.cab x c M C)))).trans (I.base.keep b o e n L B)),λb o e n L B=>?_,I.base.free,λb o e B=>?_,I.base.tups,I.base.frzs,I.base.tbls),(m,hn.sameBut f (eM (cne x c C)),λj y v' g G e3=>?_),λy c' e=>?_,I.free,I.freeC,λp hp=>?_,l (oc,hoc,I.freeC x c C) f,by simpa using I.len) (c,f,.inr C)
  .have(sl,g):=I.base.slot b o e n L B;show(sl,(f.2 b (bU (fj (bz e) (I.ok.cab x c M C)))).trans g)
  .have(o',g):=I.base.there b o e B;show(o',(f.2 b (bU (fj (bz e) (I.ok.cab x c M C)))).trans g)
  .by_cases T:j=i
   .subst T;rw[hi]at g;cases g;rw[jX J]at G;cases G;show(u,r,.inr (.inl hk,c,C,Y))
   .rw[kX (eM T)]at G;have(u',r',q):=hl j y v' g G e3;show(u',r',?_)
    rcases q with q |⟨k,c',e,z'⟩
    .show .inl q
    .show .inr (k,c',e,z'.sameBut f ?_);rintro rfl;show T (Ez hN g (I.ok.inj _ _ _ e C▸hi))
  .by_cases hcc:c'=c
   .subst hcc;show(_,Y)
   .have(w2,z2):=I.cell y c' e;show(w2,z2.sameBut f hcc)
  .have(e,n,ne,nf,d):=I.pin p hp;show((f.2 p.1 ?_).trans e,n,ne,nf,d);intro q;rw[q,hoc]at e;show d w' (by rw[<- (dh e)];show hocd)
end
def xG{s:ah}(I:Inv X U E H s)(c:X.N.Nodup)(hi:X.N[i]?=aa x)(e:Loc X.env.scope x)(r:aC v u)
 (h:∀a,Inv X U (E.set i (aa v)) H a->Q () a)(d:autoParam (LcF X x) Zh):wpAny W5 A (storeName X.env x u) Q W8 s:=
 EA I c hi e r (λa b _=>h a b) d
variable{s':ah}
def Inv.call'{s:ah}{ch:LAd}(I:Inv X U E H s)(e:s'.os=s.os)(u:Un (frs X.stack) ch H H' s.heap s'.heap)(hok:HOk X.prog X.w H' s'.heap)(d:j6 s'.gens)
 (a:∀b∈ch,(b∈X.ex\/X.s₀.heap.objs.size<=b)/\b≠X.env.locals/\(∀x c,X.env.cells.lookup x=aa c->c≠b)/\∀p∈X.pn++U,p.1≠b):Inv X U E H' s':=by
 have(h',g',d',t',o'):=s';subst e;show I.call u hok d a
nonrec def XK:=Value->Option Addr->Hp->Prop
nonrec def St:=List (Option V)
nonrec def VK:=V->Hp->Prop
nonrec def TE:=St->Hp->VK->Prop
nonrec def TT:=St->Hp->(Bool->Hp->Prop)->Prop
nonrec def TA:=St->Hp->(LVv->Hp->Prop)->Prop
structure ja where
 nx:St->Hp->Prop
 rt:VK
 bk:St->Hp->Prop:=λ_ _=>False
 ct:St->Hp->Prop:=λ_ _=>False
nonrec def TS:=ja->St->Hp->Prop
def EP(X:Cx)(U:PNS)(E:St)(Q:VK)(u:Value)(s':ah):Prop:=∃v H',Inv X U E H' s'/\aC v u/\Q v H'
def TP(X:Cx)(U:PNS)(E:St)(Q:Bool->Hp->Prop)(b:Bool)(s':ah):Prop:=∃H',Inv X U E H' s'/\Q b H'
def AP(X:Cx)(U:PNS)(E:St)(Q:LVv->Hp->Prop)(us:LVa)(s':ah):Prop:=∃vs H',Inv X U E H' s'/\aF vs us/\Q vs H'
def SP(X:Cx)(U:PNS)(D:ja)(f:Flow)(s':ah):Prop:=
 match f with
 |.next=>∃σ' H',Inv X U σ' H' s'/\D.nx σ' H'
 |.brk=>∃σ' H',Inv X U σ' H' s'/\D.bk σ' H'
 |.cont=>∃σ' H',Inv X U σ' H' s'/\D.ct σ' H'
 |.ret u=>∃v σ' H',Inv X U σ' H' s'/\aC v u/\D.rt v H'
def PE(X:Cx)(e:Expr)(t:TE):Prop:=
 ∀(U:PNS) (s:ah) (E:St) (H:Hp) (Q:VK),Inv X U E H s->t E H Q->wpAny (model X.prog X.w) X.A (eval e X.env) (EP X U E Q) X.xe s
def PT(X:Cx)(e:Expr)(t:TT):Prop:=
 ∀(U:PNS) (s:ah) (E:St) (H:Hp) (Q:Bool->Hp->Prop),Inv X U E H s->t E H Q->wpAny (model X.prog X.w) X.A (isTrue e X.env (eval e X.env)) (TP X U E Q) X.xe s
def PW(X:Cx)(e:Expr)(t:TT):Prop:=
 ∀(a:Sem Value) (U:PNS) (s:ah) (E:St) (H:Hp) (Q:Bool->Hp->Prop),Inv X U E H s->t E H Q->wpAny (model X.prog X.w) X.A (isTrue e X.env a) (TP X U E Q) X.xe s
variable{e:Expr}
def PW.pt{t:TT}(h:PW X e t):PT X e t:=h _
def PA(X:Cx)(es:LEx)(t:TA):Prop:=
 ∀(pos:Pos) (U:PNS) (s:ah) (E:St) (H:Hp) (Q:LVv->Hp->Prop),Inv X U E H s->t E H Q->wpAny (model X.prog X.w) X.A (spliced (cg pos (aM es X.env))) (AP X U E Q) X.xe s
def PS(X:Cx)(st:Stmt)(t:TS):Prop:=
 ∀(U:PNS) (s:ah) (E:St) (H:Hp) (D:ja),Inv X U E H s->t D E H->wpAny (model X.prog X.w) X.A (exec st X.env) (SP X U D) X.xe s
def PSs(X:Cx)(st:List Stmt)(t:TS):Prop:=
 ∀(U:PNS) (s:ah) (E:St) (H:Hp) (D:ja),Inv X U E H s->t D E H->wpAny (model X.prog X.w) X.A (execs st X.env) (SP X U D) X.xe s
def thn{c:Type}{t:Sem c}{Q b:c->ah->Prop}{s:ah}(h:wpAny W5 A t Q W8 s)(d:∀a s,Q a s->b a s):wpAny W5 A t b W8 s:=fL h d λ_ _ x=>x
def cE(i:Nat):TE:=λE H Q=>∃v,E[i]?=aa (aa v)/\Q v H
def tC(v:V):TE:=λ_ H Q=>Q v H
variable{pos:Pos}
def lx(g:X.N[i]?=aa x)(hv:Vis X.env.scope x)(hd:autoParam (NDb x) Zc)(d:autoParam (NCd x) Zc):PE X (.Name x pos) (cE i):=by
 intro U s E H Q I h;have(v,e,h):=h;have(m,hn,j):=I.loc;have(u,r,l):=j i x v g e hv;have fin:EP X U E Q u s:=(v,H,I,r,h)
 rcases l with⟨b,hm⟩ |⟨b,c,f,a⟩
 .show wpAny_Name (wpAny_loadName_local I.ok.kind b hn hm fin) hd
 .rcases b with b |b
  .show wpAny_Name (wpAny_loadName_cell I.ok.kind b f a fin) hd
  .show wpAny_Name (wpAny_loadName_free I.ok.kind b f a fin d) hd
def xH{i j pos}:PE X (.Constant (.int i) j pos) (tC (.int i)):=λ_ _ _ H _ I h=>wpAny_Constant_int (.int i,H,I.tok _,(_,rfl),h)
def Ld{b j pos}:PE X (.Constant (.bool b) j pos) (tC (.bl b)):=λ_ _ _ H _ I h=>Constant_bool (.bl b,H,I,rfl,h)
def Le{j pos}:PE X (.Constant .none j pos) (tC .non):=λ_ _ _ H _ I h=>Constant_none (.non,H,I,rfl,h)
def Lf{x j pos}:PE X (.Constant (.str x) j pos) (tC (.str x)):=λ_ _ _ H _ I h=>Calls.Constant_str (.str x,H,I.tok _,(_,rfl),h)
def Gl(X:Cx)(x:Str):Prop:=X.env.kindOf x=aa .globalImplicit
variable{E:St}
def xI{s:ah}{Q:PRS}(I:Inv X U E H s)(a:Gl X x)(hm:X.mg x=aa u)(h:Q u s)
 (hd:autoParam (NDb x) Zc):wpAny (model X.prog X.w) X.A (eval (.Name x pos) X.env) Q W8 s:=
 Calls.Name_function_global I.ok.kind a (Calls.loadGlobal_global (by rw[I.ok.glob];show I.mod.glob.keeps I.bk) hm h) hd
def hZ{s:ah}{Q:PRS}(I:Inv X U E H s)(a:Gl X x)(hm:X.mg x=ab)(hv:jF x=aa u)(h:Q u s)
 (hn:autoParam (x ≠ "__name__") Zc)(hd:autoParam (NDb x) Zc):wpAny (model X.prog X.w) X.A (eval (.Name x pos) X.env) Q W8 s:=by
 have(mb,h1,h2):=I.mod.blt;show Calls.Name_function_global I.ok.kind a (Calls.loadGlobal_builtin (by rw[I.ok.glob];show I.mod.glob.keeps I.bk) hm (by rw[I.ok.blt];show h1.keeps I.bk) ((h2 x hn).trans hv) h) hd
def Lg(a:Gl X x)(hm:X.mg x=ab)(hv:jF x=aa u)(r:aC v u)(hn:autoParam (x ≠ "__name__") Zc)(hd:autoParam (NDb x) Zc):PE X (.Name x pos) (tC v):=
 λ_ _ _ H _ I h=>hZ I a hm hv (v,H,I,r,h) hn hd
abbrev t2I(a b:TE)(k:Int->Int->Hp->Prop):St->Hp->Prop:=λE H=>a E H λx H1=>b E H1 λy H2=>∃i j,x=.int i/\y=.int j/\k i j H2
def gD(a b:TE):TE:=λE H Q=>t2I a b (λi j H2=>Q (.int (i+j)) H2) E H
def PC(X:Cx)(op:CmpOp)(a b:Expr)(t:TE):Prop:=
 ∀(U:PNS) (s:ah) (E:St) (H:Hp) (Q:VK),Inv X U E H s->t E H Q ->
  wpAny (model X.prog X.w) X.A (eval a X.env) (λv c=>wpAny (model X.prog X.w) X.A (eval b X.env) (λu d=>wpAny (model X.prog X.w) X.A (cK op v u) (EP X U E Q) X.xe d) X.xe c) X.xe s
variable{a b:Expr}
def Lh{op:CmpOp}{t:TE}(h:PC X op a b t)(h1:autoParam (k9 op b=af) Zm):PE X (.Compare a [op] [b] pos) t:=λU s E H Q I c=>wpAny_Compare1 (h U s E H Q I c) h1
def Li(t u:TT):TT:=λE H Q=>t E H λc H1=>if c=ac then u E H1 Q else Q af H1
def tOr(t u:TT):TT:=λE H Q=>t E H λc H1=>if c=ac then Q ac H1 else u E H1 Q
def Lj(t:TT):TT:=λE H Q=>t E H λc H1=>Q (!c) H1
variable{tA:TT}
def Lk(ha:PT X a tA):PW X (.BoolOp .And [a] pos) tA:=by
 intro wh U s E H Q I h;show isTrue_and (thn (ha U s E H Q I h) λc s1 e=>?_)
 cases c with
 |true=>show isTrue_and_nil e
 |false=>show e
def Ll(ha:PT X a tA):PW X (.BoolOp .Or [a] pos) tA:=by
 intro wh U s E H Q I h;show isTrue_or (thn (ha U s E H Q I h) λc s1 e=>?_)
 cases c with
 |false=>show isTrue_or_nil e
 |true=>show e
variable{tB':TT}
def Lm{rest:LEx}(ha:PT X a tA)(f:PW X (.BoolOp .And (b::rest) pos) tB'):PW X (.BoolOp .And (a::b::rest) pos) (Li tA tB'):=by
 intro wh U s E H Q I h;show isTrue_and (thn (ha U s E H _ I h) λc s1 g=>?_);have(H1,d,e):=g
 cases c with
 |true=>show f wh U s1 E H1 Q d e
 |false=>show(H1,d,e)
def Ln{rest:LEx}(ha:PT X a tA)(f:PW X (.BoolOp .Or (b::rest) pos) tB'):PW X (.BoolOp .Or (a::b::rest) pos) (tOr tA tB'):=by
 intro wh U s E H Q I h;show isTrue_or (thn (ha U s E H _ I h) λc s1 g=>?_);have(H1,d,e):=g
 cases c with
 |true=>show(H1,d,e)
 |false=>show f wh U s1 E H1 Q d e
def Lo(ha:PT X a tA):PT X (.UnaryOp .Not a pos) (Lj tA):=by
 intro U s E H Q I h;show isTrue_not (ha U s E H _ I h)
def Lp(a b:TE):TE:=λE H Q=>a E H λx H1=>∃c,x=.bl c/\if c=ac then b E H1 Q else Q (.bl af) H1
def Lq(a b:TE):TE:=λE H Q=>a E H λx H1=>∃c,x=.bl c/\if c=ac then Q (.bl ac) H1 else b E H1 Q
def Lr(a:TE):TE:=λE H Q=>a E H λx H1=>∃c,x=.bl c/\Q (.bl (!c)) H1
def Lu{op}{t:TE}(h:PE X a t):PE X (.BoolOp op [a] pos) t:=λU s E H Q I b=>BoolOp_one (h U s E H Q I b)
variable{ta tb:TE}
def Lv{rest:LEx}(ha:PE X a ta)(f:PE X (.BoolOp .And (b::rest) pos) tb):PE X (.BoolOp .And (a::b::rest) pos) (Lp ta tb):=by
 intro U s E H Q I h;show BoolOp_and (thn (ha U s E H _ I h) λv s1 g=>?_);have(x,H1,e,i,d):=g;have(c,rfl,d):=d;subst i;show mn ?_
 cases c with
 |true=>show f U s1 E H1 Q e d
 |false=>show(.bl af,H1,e,rfl,d)
def Lw{rest:LEx}(ha:PE X a ta)(f:PE X (.BoolOp .Or (b::rest) pos) tb):PE X (.BoolOp .Or (a::b::rest) pos) (Lq ta tb):=by
 intro U s E H Q I h;show BoolOp_or (thn (ha U s E H _ I h) λv s1 g=>?_);have(x,H1,e,i,d):=g;have(c,rfl,d):=d;subst i;show mn ?_
 cases c with
 |false=>show f U s1 E H1 Q e d
 |true=>show(.bl ac,H1,e,rfl,d)
def Lx(ha:PE X a ta):PE X (.UnaryOp .Not a pos) (Lr ta):=by
 intro U s E H Q I h;show UnaryOp_ (thn (ha U s E H _ I h) λv s1 e=>?_);have(x,H1,d,f,b):=e;have(c,rfl,b):=b;subst f;show not_of (mn (.bl (!c),H1,d,rfl,b))
def tIf(t:TT)(ta tb:TE):TE:=λE H Q=>t E H λc H1=>if c=ac then ta E H1 Q else tb E H1 Q
variable{c:Expr}
def EB(i:PT X c tA)(ha:PE X a ta)(g:PE X b tb):PE X (.IfExp c a b pos) (tIf tA ta tb):=by
 intro U s E H Q I h;show wpAny_IfExp (thn (i U s E H _ I h) λd s1 j=>?_);have(H1,e,f):=j
 cases d with
 |true=>show ha U s1 E H1 Q e f
 |false=>show g U s1 E H1 Q e f
def SqL(K:aQ)(H:Hp)(a:Addr)(C:LVv):Prop:=
 Rd H a (.lst C) \/
  ∃(o:Obj) (L:Array Value) (n:Nat),K.lookup a=aa o/\o.cls=.type "list" /\ o.dict=ab/\o.data=.seq L n/\L.size<=aS/\aF C L.toList
def SqT(K:aQ)(H:Hp)(a:Addr)(C:LVv):Prop:=
 Rd H a (.tup C) \/
  ∃(o:Obj) (L:Array Value) (n:Nat),K.lookup a=aa o/\o.cls=.type "tuple" /\ o.data=.seq L n/\L.size<=aS/\aF C L.toList
abbrev Ly:Value->Option V
 |.none=>aa .non
 |.bool b=>aa (.bl b)
 |.int i _=>aa (.int i)
 |.str x _=>aa (.str x)
 |.bytes b _=>aa (.byt b)
 |.float b _=>aa (.flt b)
 |.ref a=>aa (.ref a)
 |.type n=>aa (.ty n)
 | _=>ab
def aC.abs{x:V}(r:aC x u):Ly u=aa x:=by
 cases x with
 |non=>subst r;rfl
 |bl _=>subst r;rfl
 |int _=>have(t,rfl):=r;rfl
 |str _=>have(t,rfl):=r;rfl
 |byt _=>have(t,rfl):=r;rfl
 |flt _=>have(t,rfl):=r;rfl
 |ref _=>subst r;rfl
 |ty _=>subst r;rfl
variable{y:V}
def aC.inj{x:V}(r:aC x u)(q:aC y u):x=y:=dh (r.abs.symm.trans q.abs)
def aF.inj:∀{C a:LVv} {us:LVa},aF C us->aF a us->C=a
 | _,_,_,.nil,.nil=>rfl
 | _,_,_,.cons r t,.cons r' t'=>by rw[r.inj r',aF.inj t t']
variable{a:Addr}{K:aQ}
def SqL.of(h:H a=aa (.lst C)):SqL K H a C:=.inl (.inl h)
def SqT.of(h:H a=aa (.tup C)):SqT K H a C:=.inl (.inl h)
def Inv.list{s:ah}(I:Inv X U E H s)(h:SqL X.K H a C):∃L:LVa,aF C L/\PlainL s.heap a L.toArray/\C.length<=aS:=by
 rcases h with h |⟨o,L,n,hk,hc,hd,hs,hz,r⟩
 .have(z,L,n,r,e):=h.ok I.hok;show(L,r,(_,n,e,rfl,rfl,rfl),z)
 .show(L.toList,r,(o,n,I.kIn a o hk,hc,hd,by simpa using hs),?_);have e:=r.length
  grind
def Inv.tuple{s:ah}(I:Inv X U E H s)(h:SqT X.K H a C):∃L:LVa,aF C L/\IsTup s.heap a L.toArray/\C.length<=aS:=by
 rcases h with h |⟨o,L,n,hk,hc,hs,hz,r⟩
 .have(z,L,r,p):=h.ok I.hok;show(L,r,p,z)
 .show(L.toList,r,(o,I.kIn a o hk,hc,n,by simpa using hs),?_);have e:=r.length;simp only[iT]at e
  lia
variable{ys:LVv}
def Inv.list_inj{s:ah}(I:Inv X U E H s)(h:SqL X.K H a C)(h':SqL X.K H a ys):C=ys:=by
 have(L,r,(o,n,e,_,_,d),_):=I.list h;have(b,c,(o',f,e',_,_,d'),_):=I.list h';rw[e]at e';cases e';rw[d]at d'
 injection d' with d1 _
 have:L=b:=by simpa using congrArg Array.toList d1
 subst this;show r.inj c
def Inv.tuple_inj{s:ah}(I:Inv X U E H s)(h:SqT X.K H a C)(h':SqT X.K H a ys):C=ys:=by
 have(L,r,(o,e,_,n,d),_):=I.tuple h;have(b,c,(o',e',_,f,d'),_):=I.tuple h';rw[e]at e';cases e';rw[d]at d'
 injection d' with d1 _
 have:L=b:=by simpa using congrArg Array.toList d1
 subst this;show r.inj c
nonrec def Cx.wish(X:Cx)(W8:PRS):Cx:={X with xe:=W8}
nonrec def Cx.nox(X:Cx):Cx:=X.wish λ_ _=>False
def Cx.Ok.wish(ok:X.Ok)(W8:PRS):(X.wish W8).Ok:=
 (ok.mod,ok.kind,ok.glob,ok.blt,ok.above,ok.inj,ok.has,ok.cab,ok.hd,ok.frames,ok.stk,ok.exf,ok.bs,ok.bsz,ok.noex,ok.exfs,ok.funs,ok.frf)
def Cx.Ok.unwish(ok:(X.wish W8).Ok):X.Ok:=
 (ok.mod,ok.kind,ok.glob,ok.blt,ok.above,ok.inj,ok.has,ok.cab,ok.hd,ok.frames,ok.stk,ok.exf,ok.bs,ok.bsz,ok.noex,ok.exfs,ok.funs,ok.frf)
def Inv.wish{s:ah}(I:Inv X U E H s)(W8:PRS):Inv (X.wish W8) U E H s:=(I.ok.wish W8,I.os,I.bare,I.base,I.loc,I.cell,I.free,I.freeC,I.pin,I.hok,I.len)
def Inv.unwish{s:ah}(I:Inv (X.wish W8) U E H s):Inv X U E H s:=(I.ok.unwish,I.os,I.bare,I.base,I.loc,I.cell,I.free,I.freeC,I.pin,I.hok,I.len)
def SP.unwish{D:ja}{f:Flow}(h:SP (X.wish W8) U D f s'):SP X U D f s':=by
 cases f with
 |next=>have(σ',H',I,q):=h;show(σ',H',I.unwish,q)
 |brk=>have(σ',H',I,q):=h;show(σ',H',I.unwish,q)
 |cont=>have(σ',H',I,q):=h;show(σ',H',I.unwish,q)
 |ret u=>have(v,σ',H',I,r,q):=h;show(v,σ',H',I.unwish,r,q)
def PSs.nox{st:List Stmt}{t:TS}(h:PSs X.nox st t):PSs X st t:=λU s E H D I a=>
 fL (h U s E H D (I.wish _) a) (λ_ _ q=>q.unwish) λ_ _ z=>gY z
def Lz:TS:=λD E H=>D.nx E H
def LA(t u:TS):TS:=λD E H=>t {D with nx:=u D} E H
def EC:PSs X [] Lz:=λ_ _ E H _ I h=>tV (E,H,I,h)
variable{st:Stmt}{u:TS}
def ud{rest:List Stmt}{t:TS}(h1:PS X st t)(h2:PSs X rest u):PSs X (st::rest) (LA t u):=by
 intro U s E H D I h
 show wpAny_execs_cons (thn (h1 U s E H {D with nx:=u D} I h) λf s1 q=>?_)
 cases f with
 |next=>
  have(σ',H',a,q):=q
  show h2 U s1 σ' H' D a q
 |ret v=>show q
 |brk=>show q
 |cont=>show q
def ED{t:TS}(h1:PS X st t):PSs X [st] t:=by
 intro U s E H D I h;show wpAny_execs_cons (thn (h1 U s E H D I h) λf s1 q=>?_)
 cases f with
 |next=>show tV q
 |ret v=>show q
 |brk=>show q
 |cont=>show q
def Inv.quiet{s:ah}(I:Inv X U E H s):interactive X.env=af:=by simp[interactive,I.ok.kind]
def ly(te:TE):TS:=λD E H=>te E H λ_ H1=>D.nx E H1
variable{te:TE}
def kf(b:PE X e te)(c:autoParam (f9 e ab pos.line X.env=pure af) Zb):PS X (.Expr e pos) (ly te):=by
 intro U s E H D I h;show wpAny_Expr_any (thn (b U s E H _ I h) λv s1 (x,H1,a,f,d)=>(E,H1,a,d)) I.quiet c
def LB(te:TE):TS:=λD E H=>te E H D.rt
def qS(b:PE X e te):PS X (.Return (aa e) pos) (LB te):=by
 intro U s E H D I h;show wpAny_Return_some (thn (b U s E H _ I h) λv s1 (x,H1,a,d,c)=>(x,E,H1,a,d,c))
def LC(c:TT)(t u:TS):TS:=λD E H=>c E H λb H1=>if b=ac then t D E H1 else u D E H1
variable{tc:TT}
def LF{t:TS}{a b:List Stmt}(i:PT X c tc)(ha:PSs X a t)(g:PSs X b u):PS X (.If c a b pos) (LC tc t u):=by
 intro U s E H D I h;show wpAny_If (thn (i U s E H _ I h) λd s1 j=>?_);have(H1,e,f):=j
 cases d with
 |true=>show ha U s1 E H1 D e f
 |false=>show g U s1 E H1 D e f
nonrec def TG:=V->St->Hp->(St->Hp->Prop)->Prop
nonrec def TGs:=LVv->St->Hp->(St->Hp->Prop)->Prop
def PG(X:Cx)(a:Expr)(t:TG):Prop:=
 ∀(U:PNS) (s:ah) (E:St) (H:Hp) (v:V) (u:Value) (Q:St->Hp->Prop),Inv X U E H s->aC v u->t v E H Q ->
  wpAny (model X.prog X.w) X.A (assign a X.env u) (λ_ s'=>∃σ' H',Inv X U σ' H' s'/\Q σ' H') X.xe s
def PGs(X:Cx)(ts:LEx)(t:TGs):Prop:=
 ∀(U:PNS) (s:ah) (E:St) (H:Hp) (vs:LVv) (us:LVa) (Q:St->Hp->Prop),Inv X U E H s->aF vs us->t vs E H Q ->
  wpAny (model X.prog X.w) X.A (assignInOrder ((iZ ts X.env).map (·.2)) us) (λ_ s'=>∃σ' H',Inv X U σ' H' s'/\Q σ' H') X.xe s
nonrec def xJ:=V->V->V->Hp->(Hp->Prop)->Prop
def EE(X:Cx)(t:xJ):Prop:=
 ∀(U:PNS) (s:ah) (E:St) (H:Hp) (o i v:V) (b a u:Value) (Q:Hp->Prop),Inv X U E H s->aC o b->aC i a->aC v u->t o i v H Q ->
  wpAny (model X.prog X.w) X.A (setItem b a u) (λ_ s'=>∃H',Inv X U E H' s'/\Q H') X.xe s
nonrec def TIp:=V->V->Hp->VK->Prop
def PIp(X:Cx)(op:Operator)(t:TIp):Prop:=
 ∀(U:PNS) (s:ah) (E:St) (H:Hp) (x y:V) (v u:Value) (Q:VK),Inv X U E H s->aC x v->aC y u->t x y H Q ->
  wpAny (model X.prog X.w) X.A (inplaceOp op v u) (EP X U E Q) X.xe s
def ib(i:Nat):TG:=λv E H Q=>Q (E.set i (aa v)) H
def xK(b:X.N.Nodup)(hi:X.N[i]?=aa x)(d:Loc X.env.scope x)(c:autoParam (LcF X x) Zh):PG X (.Name x pos) (ib i):=by
 intro U s E H v u Q I r h;show wpAny_assign_Name (xG I b hi d r (λs' a=>(_,H,a,h)) c)
def LG:TGs:=λvs E H Q=>vs=[]/\Q E H
def LH(t:TG)(u:TGs):TGs:=λvs E H Q=>∃v r,vs=v::r/\t v E H λσ' H'=>u r σ' H' Q
def LI:PGs X [] LG:=by
 intro U s E H vs us Q I r h;have(e,h):=h;show assignInOrder_nil (E,H,I,h)
variable{es:LEx}
def LJ{t:TG}{u:TGs}(h1:PG X e t)(h2:PGs X es u)
 (d:autoParam ((iZ (e::es) X.env).map (·.2)=assign e X.env::(iZ es X.env).map (·.2)) Zb):PGs X (e::es) (LH t u):=by
 intro U s E H vs us Q I r h;have(v,i,c,h):=h;subst c
 cases r with
 |cons r g=>
  rw[d];show assignInOrder_cons (thn (h1 U s E H _ _ _ I r h) λ_ s1 (a,H1,b,f)=>(h2 U s1 a H1 _ _ Q b g f))
def LK(K:aQ)(n:Nat)(t:TGs):TG:=λv E H Q=>∃a C,v=.ref a/\SqT K H a C/\C.length=n/\t C E H Q
def LL{k:Nat}{t:TGs}{n:Nat}(i:X.calm=ac)(h:PGs X es t)
 (hn:autoParam ((iZ es X.env).length=n) Zb)(c:autoParam ((iZ es X.env).findIdx? (·.1)=ab) Zb):PG X (.Tuple es k pos) (LK X.K n t):=by
 intro U s E H v u Q I r d;have(a,C,g,l,j,d):=d;subst g;subst r;have(L,f,m,hz):=I.tuple l;show assign_Tuple_tuple (I.ok.hd i) m (by simp[hn,<- j,f.length]) c λh' p=>?_;show h U _ E H C _ Q (I.kept λb o e=>p b o (bU (bz e)) e) (by simpa using f) d
def xL(to b:TE)(t:xJ):TG:=λv E H Q=>to E H λo H1=>b E H1 λi H2=>t o i v H2 λa=>Q E a
def xM{o i:Expr}{to d:TE}{t:xJ}(l:PE X o to)(hi:PE X i d)(m:EE X t)
 (ha:autoParam (∀ v,assign (.Subscript o i pos) X.env v=(do
   let a <- eO [v] (eval o X.env)
   let b <- eO [v,a] (eval i X.env)
   gB pos
   eO [v,a,b] (setItem a b v)
   release [v,a,b] [])) Zd):PG X (.Subscript o i pos) (xL to d t):=by
 intro U s E H v u Q I r h;show aj (jE (thn (l U s E H _ I h) λa s1 c=>?_));have(x,H1,f,w,n):=c;show aj (jE (thn (hi U s1 E H1 _ f n) λb s2 c=>?_));have(y,H2,g,z,p):=c;show aj (wpAny_standAt (aj (jE (thn (m U s2 E H2 x y v a b u _ g w z r p) λ_ A (e,j,q)=>(wpAny_release (E,e,j,q))))))
def jb(te:TE)(g:TG):TS:=λD E H=>te E H λx H1=>g x E H1 D.nx
variable{tg:Expr}{g:TG}
def xN(b:PE X e te)(c:PG X tg g)(d:autoParam (swapsWithSole [tg] e pos.line X.env=pure af) Zb)(f:autoParam (swappedStores [tg] e X.env=pure ab) Zb)
 (h1:autoParam ((iZ [tg] X.env).map (·.2)=[assign tg X.env]) Zb):PS X (.Assign [tg] e pos) (jb te g):=by
 intro U s E H D I h;show wpAny_Assign_stores (thn (b U s E H _ I h) λv s1 j=>?_) d f;have(x,H1,a,l,i):=j;rw[h1];show thn (c U s1 E H1 x v _ a l i) λ_ s2 q=>q
variable{b4:Pos}
def oP(c:X.N.Nodup)(hi:X.N[i]?=aa x)(j:Loc X.env.scope x)(d:PE X e te)(g:autoParam (f9 e (aa (.Name x b4)) pos.line X.env=pure af) Zb)(f:autoParam (LcF X x) Zh):
  PS X (.Assign [.Name x b4] e pos) (jb te (ib i)):=by
 intro U s E H D I h;show wpAny_Assign_Name (thn (d U s E H _ I h) λv s1 (y,H1,a,m,l)=>(xG a c hi j m (λs2 b=>(_,H1,b,l)) f)) g
def LM(i:Nat)(te:TE)(a:TIp):TS:=λD E H=>∃x,E[i]?=aa (aa x)/\te E H λy H1=>a x y H1 λz H2=>D.nx (E.set i (aa z)) H2
variable{op:Operator}
def EF{n:TIp}(G:X.N.Nodup)(hi:X.N[i]?=aa x)(g:Loc X.env.scope x)(L:PE X e te)(T:PIp X op n)(M:autoParam (LcF X x) Zh):
  PS X (.AugAssign (.Name x b4) op e pos) (LM i te n):=by
 intro U s E H D I h;have(v,C,h):=h;have(m,hn,Q):=I.loc
 have j:Vis X.env.scope x:=by rcases g with k |k;show .inl k;show .inr (.inl k)
 have(u,r,l):=Q i x v hi C j;show wpAny_AugAssign_Name ?_
 have go:wpAny (model X.prog X.w) X.A (eval e X.env) (λw d=>wpAny (model X.prog X.w) X.A (inplaceOp op u w) (λr f=>wpAny (model X.prog X.w) X.A (storeName X.env x r) (λ_=>SP X U D .next) X.xe f) X.xe d) X.xe s:=by
  show thn (L U s E H _ I h) λw s1 q_=>?_;have(y,H1,p,r1,Y):=q_;show thn (T U s1 E H1 v y u w _ p r r1 Y) λz s2 (zv,H2,q,r2,q2)=>(xG q G hi g r2 (λs3 B=>(_,H2,B,q2)) M)
 rcases l with⟨a,hm⟩ |⟨a,c,J,b⟩
 .show wpAny_loadName_local I.ok.kind a hn hm go
 .rcases a with a |a
  .show wpAny_loadName_cell I.ok.kind a J b go
  .rcases g with k |k
   .have:X.env.scope.names.lookup x=aa .free:=a;rw[k]at this;nomatch this
   .have:X.env.scope.names.lookup x=aa .free:=a;rw[k]at this;nomatch this
def ipI(f:Int->Int->Int):TIp:=λx y H Q=>∃i j,x=.int i/\y=.int j/\Q (.int (f i j)) H
def LO:PIp X .Add (ipI λi j=>i+j):=by
 intro U s E H x y v u Q I c d h;have(i,j,a,b,q):=h;subst a;subst b;have(t,rfl):=c;have(t',rfl):=d;show iadd_int (.int _,H,I.tok _,(_,rfl),q)
def LP:PIp X .Sub (ipI λi j=>i-j):=by
 intro U s E H x y v u Q I c d h;have(i,j,a,b,q):=h;subst a;subst b;have(t,rfl):=c;have(t',rfl):=d;show isub_int (.int _,H,I.tok _,(_,rfl),q)
def LQ(c:TT)(tb:TS):TS:=λD E H=>∃W:Nat->St->Hp->Prop,(∃m,W m E H)/\∀m E H,W m E H ->
 c E H λb H1=>if b=ac then ∃N:St->Hp->Prop,(∀σ' H',N σ' H'->∃a,a<m/\W a σ' H')/\tb {D with nx:=N,ct:=N,bk:=D.nx} E H1 else D.nx E H1
variable{body:List Stmt}
def LR{tb:TS}(x:PassesOwn (model X.prog X.w) X.A X.env X.xe)(B:PT X c tc)(z:PSs X body tb):PS X (.While c body [] pos) (LQ tc tb):=by
 intro U s E H D I h;have(W,(C,J),g):=h;show wpAny_While (codeAny_whileLoop (λn s'=>∃σ' H',Inv X U σ' H' s'/\W n σ' H') ?_ C (E,H,I,J));rintro n s1 ⟨d,H1,y,L⟩;show mo x (thn (B U s1 d H1 _ y (g n d H1 L)) λb s2 G=>?_);have(H2,r,i):=G
 cases b with
 |true=>
  have(N,u,i):=i;show mo x (thn (z U s2 d H2 _ r i) λf M j=>?_)
  cases f with
  |next=>
   have(a,e,l,p):=j;have(m,hm,q):=u a e p
   show(m,hm,a,e,l,q)
  |cont=>
   have(a,e,l,p):=j;have(m,hm,q):=u a e p
   show(m,hm,a,e,l,q)
  |brk=>show j
  |ret v=>show j
 |false=>
  show tV (d,H2,r,i)
structure It where
 go:Nat->Hp->Prop
 yld:Nat->Hp->V->Hp->Prop
 stop:Nat->Hp->Prop
def ic(X:Cx)(U:PNS)(H:Hp)(b:Addr):Prop:=
 H b=ab/\b≠X.env.locals/\b∉X.fs/\(b∈X.ex\/X.s₀.heap.objs.size<=b)/\(∀x c,X.env.cells.lookup x=aa c->c≠b)/\∀p∈X.pn++U,p.1≠b
def Inv.fpOk{s:ah}{b:Addr}(I:Inv X U E H s)(a:s.heap.objs.size<=b)(hn:H' b=ab):ic X U H' b:=by
 show(hn,k6 (fj I.lt a),I.nofs a,.inr (cS I.sz a),λx c e z=>?_,λp d z=>(absurd (fj (bz (I.pin p d).1) (by rw[z];show a)) (gA _)));have(v,q):=I.cell x c e;show absurd (fj q.lt (by rw[z];show a)) (gA _)
structure kg(P:cf)(w:World)(K:aQ)(tg:Expr)(J:It)(fp:LAd)(it:Addr)(tn:Nat->Heap->Prop):Prop where
 mem:it∈fp
 obj:∀i h,tn i h->∀b∈fp,∃o,h.get? b=aa o/\∀v,o.data≠.cell v
 keep:∀i h h',tn i h->(∀b∈fp,∀o,h.get? b=aa o->h'.get? b=aa o)->tn i h'
 item:∀(X:Cx),X.prog=P->X.w=w->X.K=K->X.calm=ac->∀(i:Nat) (U:PNS) (s:ah) (E:St) (H:Hp) (W8:PRS),Inv X U E H s->(∀b∈fp,ic X U H b)->tn i s.heap->J.go i H ->
  wpAny (model P w) X.A (hU (.ref it)) (λr s1=>∃ u,r=aa u /\
   wpAny (model P w) X.A (letOwnedTupleGo tg (.ref it) u) (λ_ s2=>∃x H',Inv X U E H' s2/\aC x u/\J.yld i H x H'/\tn (i+1) s2.heap/\∀b∈fp,H' b=ab) W8 s1) W8 s
 done:∀(X:Cx),X.prog=P->X.w=w->X.K=K->X.calm=ac->∀(i:Nat) (U:PNS) (s:ah) (E:St) (H:Hp) (W8:PRS),Inv X U E H s->(∀b∈fp,ic X U H b)->tn i s.heap->J.stop i H ->
  wpAny (model P w) X.A (hU (.ref it)) (λr s1=>r=ab/\Inv X U E H s1) W8 s
 self:∀(A:b5) (i:Nat) (s:ah) (Q:PRS) (W8:PRS),tn i s.heap->Q (.ref it) s->wpAny (model P w) A (pyIter (.ref it)) Q W8 s
nonrec def TI:=St->Hp->(It->Hp->Prop)->Prop
def PIE(X:Cx)(U:PNS)(E:St)(tg:Expr)(R:It->Hp->Prop)(a:Value)(s2:ah):Prop:=
 ∃(it:Addr) (fp:LAd) (tn:Nat->Heap->Prop) (J:It) (H':Hp),a=.ref it/\Inv X U E H' s2/\kg X.prog X.w X.K tg J fp it tn/\tn 0 s2.heap/\(∀b∈fp,ic X U H' b)/\R J H'
def PI(X:Cx)(tg iter:Expr)(a:TI):Prop:=
 ∀(U:PNS) (s:ah) (E:St) (H:Hp) (R:It->Hp->Prop),Inv X U E H s->a E H R ->
  wpAny (model X.prog X.w) X.A (eval iter X.env) (λv s1=>wpAny (model X.prog X.w) X.A (pyIter v) (PIE X U E tg R) X.xe s1) X.xe s
variable{u:Value}
def ue{s:ah}{o:Obj}{n:String}{vs:Array Value}(c:s.heap.get? it = aa o)(b:o.cls = .type n)(hd:o.data = .fields vs)
   (hn:["enumerate", "zip", "dict_itemiterator", "dict_reverseitemiterator", "odict_iterator", "itertools.zip_longest", "itertools.pairwise"].contains n = af)(a:Q () s):wpAny W5 A (letOwnedTupleGo tg (.ref it) u) Q W8 s:= by
  cases tg <;> first
    |show aE a
    | (cases u <;> first
        |show aE a
        | (show aj (wpAny_load c ?_)
           rw[b, hd];change wpAny W5 A (if _ = ac then _ else _) Q W8 s;rw[if_neg (by intro h;rw[hn, Bool.false_and]at h;nomatch h)];show aE a))
def Itl(K:aQ)(a:Addr):It:=
 (λi H=>∃C x,SqL K H a C/\C[i]?=aa x,λi H x H'=>H'=H/\∀C,SqL K H a C->C[i]?=aa x,λi H=>∃C,SqL K H a C/\C.length<=i)
def Itt(K:aQ)(a:Addr):It:=
 (λi H=>∃C x,SqT K H a C/\C[i]?=aa x,λi H x H'=>H'=H/\∀C,SqT K H a C->C[i]?=aa x,λi H=>∃C,SqT K H a C/\C.length<=i)
def Itr(lo:Int)(n:Nat):It:=(λi _=>i<n,λi H x H'=>H'=H/\x=.int (lo+i),λi _=>n<=i)
def LU(a it:Addr):kg P w K tg (Itl K a) [it] it (λi h=>h.IsListIter it a i) where
 mem:=by simp
 obj:=λi h st b hb=>by
  have e:b=it:=by simpa using hb
  subst e;have(o,e,c,d):=st;show⟨o,e,λv z=>by rw[d]at z;nomatch z⟩
 keep:=λi h h' st k=>st.at λo e=>k it (by simp) o e
 item:=by
  intro X hP hw hK hc i U s E H W8 I hf st hg;subst hP hw hK;have(C,x,hq,hx):=hg;have(L,rv,p,hz):=I.list hq;have(u,hu,ru):=rv.get hx;have(f0,f1,f2,f3,f4,f5):=hf it (by simp);show wpAny_pyNext_list_item st p.isList (by simpa using hu) λh' eF sb=>?_;have(o,e,c,d):=id eF;show(u,rfl,ue e c d (rfl) (x,H,(I.turned (λb o hb e=>(sb.2 b hb).trans e) f0 f1 f3 f4 f5),ru,(rfl,λys hy=>by rw[I.list_inj hy hq];show hx),eF,λb hb=>(hf b hb).1))
 done:=by
  intro X hP hw hK hc i U s E H W8 I hf st hg;subst hP hw hK;have(C,hq,hx):=hg;have(L,rv,p,hz):=I.list hq;have(f0,f1,f2,f3,f4,f5):=hf it (by simp);have hl:=rv.length;show wpAny_pyNext_list_end (I.ok.hd hc) st p.isList (by simp;lia) λh' eb=>(rfl,I.turned (λb o hb e=>eb b o hb e) f0 f1 f3 f4 f5)
 self:=λ_ _ _ _ _ st h=>wpAny_pyIter_listiter st h
def LV(a it:Addr):kg P w K tg (Itt K a) [it] it (λi h=>h.IsTupleIter it a i) where
 mem:=by simp
 obj:=λi h st b hb=>by
  have e:b=it:=by simpa using hb
  subst e;have(o,e,c,d):=st;show⟨o,e,λv z=>by rw[d]at z;nomatch z⟩
 keep:=λi h h' st k=>st.at λo e=>k it (by simp) o e
 item:=by
  intro X hP hw hK hc i U s E H W8 I hf st hg;subst hP hw hK;have(C,x,hq,hx):=hg;have(L,rv,p,hz):=I.tuple hq;have(u,hu,ru):=rv.get hx;have(f0,f1,f2,f3,f4,f5):=hf it (by simp);show wpAny_pyNext_tuple_item st (p) (by simpa using hu) λh' eF sb=>?_;have(o,e,c,d):=id eF;show(u,rfl,ue e c d (rfl) (x,H,(I.turned (λb o hb e=>(sb.2 b hb).trans e) f0 f1 f3 f4 f5),ru,(rfl,λys hy=>by rw[I.tuple_inj hy hq];show hx),eF,λb hb=>(hf b hb).1))
 done:=by
  intro X hP hw hK hc i U s E H W8 I hf st hg;subst hP hw hK;have(C,hq,hx):=hg;have(L,rv,p,hz):=I.tuple hq;have(f0,f1,f2,f3,f4,f5):=hf it (by simp);have hl:=rv.length;show wpAny_pyNext_tuple_end (I.ok.hd hc) st (p) (by simp;lia) λh' eb=>(rfl,I.turned (λb o hb e=>eb b o hb e) f0 f1 f3 f4 f5)
 self:=λ_ _ _ _ _ st h=>wpAny_pyIter_tupleiter st h
def LW(it:Addr)(lo:Int)(n:Nat):kg P w K tg (Itr lo n) [it] it (λi h=>IsRangeIter h it (lo+(i:Nat)*1) ((n:Int)-(i:Nat)) 1) where
 mem:=by simp
 obj:=λi h st b hb=>by
  have e:b=it:=by simpa using hb
  subst e
  show⟨_,st,λv z=>by
   nomatch z⟩
 keep:=λi h h' st k=>k it (by simp) _ st
 item:=by
  intro X hP hw hK hc i U s E H W8 I hf st hg;have(f0,f1,f2,f3,f4,f5):=hf it (by simp);show(Walks.range (I.ok.hd hc) it lo 1 n).item i s _ _ hg st λv h' tk hv eF kk=>?_;have(t,rfl):=hv
  have I1:Inv X U E H {s with heap:=h',toks:=tk}:=I.turned (λb o hb e=>kk b o (by simpa using hb) e) f0 f1 f3 f4 f5
  show(_,rfl,ue eF rfl rfl (rfl) (.int _,H,I1,(t,?_),(rfl,rfl),eF,λb hb=>(hf b hb).1));rw[Int.mul_one]
 done:=by
  intro X hP hw hK hc i U s E H W8 I hf st hg;have(f0,f1,f2,f3,f4,f5):=hf it (by simp);show wpAny_pyNext_range_end (I.ok.hd hc) st (by have:n<=i:=hg;lia) λh' eb=>(rfl,I.turned (λb o hb e=>eb b o hb e) f0 f1 f3 f4 f5)
 self:=λ_ _ _ _ _ st h=>wpAny_pyIter_rangeiter st h
def xO(K:aQ)(tl:TE):TI:=λE H R=>tl E H λx H1=>∃a,x=.ref a/\(∃C,SqL K H1 a C)/\R (Itl K a) H1
def LX(K:aQ)(tl:TE):TI:=λE H R=>tl E H λx H1=>∃a,x=.ref a/\(∃C,SqT K H1 a C)/\R (Itt K a) H1
variable{l:Expr}{tl:TE}
def xP(f:PE X l tl):PI X tg l (xO X.K tl):=by
 intro U s E H R I h;show thn (f U s E H _ I h) λv s1 j=>?_;have(x,H1,c,m,i):=j;have(a,e,(C,g),q):=i;subst e;subst m;have(L,n,p,hz):=c.list g;show tU p.isList ?_;show(s1.heap.objs.size,_,_,_,H1,rfl,c.kept λb o e=>bA _ e,LU a _,(_,cL _ rfl,rfl,rfl),λb d=>?_,q);have e:b=s1.heap.objs.size:=by simpa using d
 subst e;show c.fpOk (aL _) (c.hok.fresh (aL _))
def LY(f:PE X l tl):PI X tg l (LX X.K tl):=by
 intro U s E H R I h;show thn (f U s E H _ I h) λv s1 j=>?_;have(x,H1,c,m,i):=j;have(a,e,(C,g),q):=i;subst e;subst m;have(L,n,p,hz):=c.tuple g;show wpAny_pyIter_tuple (p) ?_;show(s1.heap.objs.size,_,_,_,H1,rfl,c.kept λb o e=>bA _ e,LV a _,(_,cL _ rfl,rfl,rfl),λb d=>?_,q);have e:b=s1.heap.objs.size:=by simpa using d
 subst e;show c.fpOk (aL _) (c.hok.fresh (aL _))
def LZ{s:ah}{R:It->Hp->Prop}{lo hi:Int}{t u v:Tok}{c:Nat}(I:Inv X U E H s)(h1:-(2 ^ 62)<=lo)(h2:lo<2 ^ 62)(g:-(2 ^ 62)<=hi)(h:hi<2 ^ 62)
 (q:R (Itr lo (hi-lo).toNat) H):wpAny (model X.prog X.w) X.A (pyIter (.ref s.heap.objs.size)) (PIE X U E tg R) W8 {s with heap:=s.heap.push {cls:=.type "range",data:=.fields #[.int lo t,.int hi u,.int 1 v]},toks:=c}:=by
 show wpAny_pyIter_range (IsRange.new ..) (small_one h1 h2 g h) ?_
 have a:Inv X U E H {s with heap:=s.heap.push {cls:=.type "range",data:=.fields #[.int lo t,.int hi u,.int 1 v]},toks:=c}:=I.kept λb o e=>bA _ e
 show((s.heap.push {cls:=.type "range",data:=.fields #[.int lo t,.int hi u,.int 1 v]}).objs.size,_,_,_,H,rfl,
  a.kept λb o e=>bA _ e,LW _ lo (hi-lo).toNat,?_,λb i=>?_,q)
 .have d:lo+((0:Nat):Int)*1=lo:=by simp
  have f:(((hi-lo).toNat:Nat):Int)-((0:Nat):Int)=eP.Range.rangeSize lo hi 1:=by rw[rangeSize_one];split <;> lia
  rw[d,f];show cL _ rfl
 .have e:b=(s.heap.push {cls:=.type "range",data:=.fields #[.int lo t,.int hi u,.int 1 v]}).objs.size:=by simpa using i
  subst e;show a.fpOk (aL _) (a.hok.fresh (aL _))
def L4(ta:TA):TI:=λE H R=>ta E H λvs H1=>∃j:Int,vs=[.int j]/\-(2 ^ 62)<=j/\j<2 ^ 62/\R (Itr 0 j.toNat) H1
variable{a:Expr}
def L5{ta:TA}{p:Pos}(d:Gl X "range")(hm:X.mg "range"=ab)(ha:PA X [a] ta)(f:autoParam (aM [a] X.env=[(af,eval a X.env,)]) Zb):PI X tg (.Call (.Name "range" p) [a] [] pos) (L4 ta):=by
 intro U s E H R I h;show Call_ (hZ I d hm boot_range (j5 (thn (ha pos U s E H _ I h) λus s1 (vs,H1,c,i,b)=>?_) f rfl));have(j,e,b,g,q):=b;subst e
 cases i with
 |cons r l=>
  cases l;have(t,rfl):=r;show call_range_1 (LZ c (by lia) (by lia) b g (by simpa using q))
def xQ(c:TI)(g:TG)(tb:TS):TS:=λD E H=>c E H λJ H1=>∃W:Nat->Nat->St->Hp->Prop,(∃m,W 0 m E H1)/\∀i m E H,W i m E H ->
 (J.stop i H/\D.nx E H)\/(J.go i H/\∃N:St->Hp->Prop,(∀σ' H',N σ' H'->∃b,b<m/\W (i+1) b σ' H')/\∀x H',J.yld i H x H'->g x E H' λa H2=>tb {D with nx:=N,ct:=N,bk:=D.nx} a H2)
def uf(fp:LAd)(h:Heap):PNS:=fp.filterMap λb=>(h.get? b).map λo=>(b,o,)
variable{fp:LAd}
def ug{b:Addr}{o:Obj}(a:b∈fp)(e:h.get? b=aa o):(b,o,)∈uf fp h:=mem_filterMap.mpr (b,a,by rw[e];rfl)
def L6{p:Addr×Obj}(a:p∈uf fp h):p.1∈fp/\h.get? p.1=aa p.2:=by
 have(b,c,e):=mem_filterMap.mp a
 cases q:h.get? b with
 |none=>rw[q]at e;nomatch e
 |some o=>
  grind
def Inv.pinned{s:ah}(I:Inv X U E H s)(c:∀b∈fp,ic X U H b)(g:∀b∈fp,∃o,s.heap.get? b=aa o/\∀v,o.data≠.cell v):Inv X (U++uf fp s.heap) E H s:=
 I.pins_of λp d=>(bv.mp d).elim (λz=>I.pin p (cv _ z)) λz=>by
  have(a,e):=L6 z;have(f,f1,f2,_):=c p.1 a
  grind
def Inv.unpinned{b:PNS}{s:ah}(I:Inv X (U++b) E H s):Inv X U E H s:=I.pins_of λp a=>I.pin p (cv _ (bZ _ a))
variable{iter:Expr}{wi:TI}
def EG{tb:TS}(C:PassesOwn (model X.prog X.w) X.A X.env X.xe)(hc:X.calm=ac)(hi:PI X tg iter wi)(hg:PG X tg g)(l:PSs X body tb)
 (hs:autoParam (∀x,k8 iter X.env x=pure x) Zd):PS X (.For tg iter body [] pos) (xQ wi g tb):=by
 intro U s E H D I h;show wpAny_For (thn (hi U s E H _ I h) λv s1 h1=>thn h1 λitv s2 h2=>?_) hs;have(it,fp,tn,J,H2,e,I2,T,st2,f2,W,(m0,w0),Q):=h2;subst e;have p:∀{H':Hp},(∀b∈fp,H' b=ab)->∀b∈fp,ic X U H' b:=λhn b l=>(hn b l,(f2 b l).2);show codeAny_forLoop_any (λn s'=>∃i σ' H',Inv X U σ' H' s'/\tn i s'.heap/\(∀b∈fp,H' b=ab)/\W i n σ' H') ?_ m0 (0,E,H2,I2,st2,λb l=>(f2 b l).1,w0);rintro n s3 ⟨i,q,Y,I3,M,B,w3⟩
 rcases Q i n q Y w3 with⟨stop,qn⟩ |⟨go,N,hN,step⟩
 .show mo C (thn (T.done X rfl rfl rfl hc i U s3 q Y X.xe I3 (p B) M stop) λr s4 (hr,I4)=>?_);subst hr;show tV (q,Y,I4,qn)
 .show mo C (thn (T.item X rfl rfl rfl hc i U s3 q Y X.xe I3 (p B) M go) λr s4 L=>?_);have(u,hr,h4):=L;subst hr;show mo C (thn h4 λ_ s5 L=>?_);have(x,H5,I5,r5,y5,z,fr5):=L;show mo C (thn (hg _ s5 q H5 x u _ (I5.pinned (p fr5) (T.obj _ _ z)) r5 (step x H5 y5)) λ_ s6 L=>?_);have(σ6,H6,I6,q6):=L;show mo C (thn (l _ s6 σ6 H6 _ I6 q6) λf s7 y=>?_)
  have again:∀{a:St} {c:Hp},Inv X _ a c s7->N a c->∃m,m<n/\∃i σ' H',Inv X U σ' H' s7/\tn i s7.heap/\(∀b∈fp,H' b=ab)/\W i m σ' H':=λ{a c} j G=>by
   have(m',hm,w7):=hN a c G;show(m',hm,i+1,a,c,j.unpinned,T.keep _ _ _ z λb l o e=>(j.pin _ (cv _ (cv _ (ug l e)))).1,λb l=>?_,w7);have(o,e,d):=T.obj _ _ z b l;show(j.pin _ (cv _ (cv _ (ug l e)))).2.1
  cases f with
  |next=>have(a,c,j,G):=y;show again j G
  |cont=>have(a,c,j,G):=y;show again j G
  |brk=>have(a,c,j,y):=y;show(a,c,j.unpinned,y)
  |ret v=>have(x7,a,c,j,r7,y):=y;show(x7,a,c,j.unpinned,r7,y)
nonrec def R2:=V->V->Hp->VK->Prop
def OpR(X:Cx)(f:Value->Value->Sem Value)(r:R2):Prop:=
 ∀(U:PNS) (s:ah) (E:St) (H:Hp) (x y:V) (v u:Value) (Q:VK),Inv X U E H s->aC x v->aC y u->r x y H Q ->
  wpAny (model X.prog X.w) X.A (f v u) (EP X U E Q) X.xe s
def UnR(X:Cx)(f:Value->Sem Value)(r:V->Hp->VK->Prop):Prop:=
 ∀(U:PNS) (s:ah) (E:St) (H:Hp) (x:V) (v:Value) (Q:VK),Inv X U E H s->aC x v->r x H Q ->
  wpAny (model X.prog X.w) X.A (f v) (EP X U E Q) X.xe s
def ie(X:Cx)(f:Value)(r:LVv->Hp->VK->Prop):Prop:=
 ∀(U:PNS) (s:ah) (E:St) (H:Hp) (C:LVv) (us:LVa) (Q:VK),Inv X U E H s->aF C us->r C H Q ->
  wpAny (model X.prog X.w) X.A (call f us) (EP X U E Q) X.xe s
def L7(X:Cx)(r:V->Hp->(Bool->Hp->Prop)->Prop):Prop:=
 ∀(U:PNS) (s:ah) (E:St) (H:Hp) (x:V) (v:Value) (Q:Bool->Hp->Prop),Inv X U E H s->aC x v->r x H Q ->
  wpAny (model X.prog X.w) X.A (truthy v) (TP X U E Q) X.xe s
def tOp(r:R2)(ta tb:TE):TE:=λE H Q=>ta E H λx H1=>tb E H1 λy H2=>r x y H2 Q
def tUn(r:V->Hp->VK->Prop)(ta:TE):TE:=λE H Q=>ta E H λx H1=>r x H1 Q
def rI(W9:Int->Int->Prop)(g:Int->Int->V):R2:=λx y H Q=>∃i j,x=.int i/\y=.int j/\W9 i j/\Q (g i j) H
def rI0(g:Int->Int->V):R2:=λx y H Q=>∃i j,x=.int i/\y=.int j/\Q (g i j) H
abbrev rU(g:Int->V):V->Hp->VK->Prop:=λx H Q=>∃i,x=.int i/\Q (g i) H
variable{f:Value->Value->Sem Value}
def xR(ha:PE X a ta)(i:PE X b tb){s:ah}{R:V->V->Hp->Prop}(I:Inv X U E H s)
 (h:ta E H λx H1=>tb E H1 λy H2=>R x y H2){Q:PRS}
 (j:∀v u s2 x y H2,Inv X U E H2 s2->aC x v->aC y u->R x y H2->wpAny (model X.prog X.w) X.A (f v u) Q X.xe s2):
  wpAny (model X.prog X.w) X.A (eval a X.env) (λv c=>wpAny (model X.prog X.w) X.A (eval b X.env) (λu d=>wpAny (model X.prog X.w) X.A (f v u) Q X.xe d) X.xe c) X.xe s:=by
 show thn (ha U s E H _ I h) λv s1 n=>?_;have(x,H1,e,p,l):=n;show thn (i U s1 E H1 _ e l) λu s2 (y,H2,g,q,m)=>(j v u s2 x y H2 g p q m)
def EH{r:R2}(e:OpR X (fM op) r)(ha:PE X a ta)(d:PE X b tb):PE X (.BinOp a op b pos) (tOp r ta tb):=by
 intro U s E H Q I h;show wpAny_BinOp (xR ha d I h λv u s2 x y H2 c f g q=>e U s2 E H2 x y v u Q c f g q)
def L8{op:UnaryOp}{r:V->Hp->VK->Prop}(c:UnR X (unaryOp op) r)(ha:PE X a ta):PE X (.UnaryOp op a pos) (tUn r ta):=by
 intro U s E H Q I h;show UnaryOp_ (thn (ha U s E H _ I h) λv s1 (x,H1,b,e,d)=>c U s1 E H1 x v Q b e d)
def opI{W9:Int->Int->Prop}{g:Int->Int->Int}
 (rule:∀(i j:Int) (t u:Tok) (s:ah) (Q:PRS) (W8:PRS),W9 i j->Q (.int (g i j) s.toks) {s with toks:=s.toks+1}->wpAny (model X.prog X.w) X.A (f (.int i t) (.int j u)) Q W8 s):
  OpR X f (rI W9 λi j=>.int (g i j)):=by
 intro U s E H x y v u Q I b c h;have(i,j,rfl,rfl,a,q):=h;have(t,rfl):=b;have(t',rfl):=c;show rule i j t t' s _ _ a (.int _,H,I.tok _,(_,rfl),q)
def EI{g:Int->Int->Int}
 (rule:∀(i j:Int) (t u:Tok) (s:ah) (Q:PRS) (W8:PRS),Q (.int (g i j) s.toks) {s with toks:=s.toks+1}->wpAny (model X.prog X.w) X.A (f (.int i t) (.int j u)) Q W8 s):
  OpR X f (rI0 λi j=>.int (g i j)):=by
 intro U s E H x y v u Q I a b h;have(i,j,rfl,rfl,q):=h;have(t,rfl):=a;have(t',rfl):=b;show rule i j t t' s _ _ (.int _,H,I.tok _,(_,rfl),q)
def uh{g:Int->Int->Bool}
 (rule:∀(i j:Int) (t u:Tok) (s:ah) (Q:PRS) (W8:PRS),Q (.bool (g i j)) s->wpAny (model X.prog X.w) X.A (f (.int i t) (.int j u)) Q W8 s):
  OpR X f (rI0 λi j=>.bl (g i j)):=by
 intro U s E H x y v u Q I a b h;have(i,j,rfl,rfl,q):=h;have(t,rfl):=a;have(t',rfl):=b;show rule i j t t' s _ _ (.bl _,H,I,rfl,q)
def qT(i j:Int):Prop:=0<j/\j<1073741824
def kh(i j:Int):Prop:=0<=j/\j<=1000000/\i.natAbs<2 ^ 64
def qU(i j:Int):Prop:=(-(2 ^ 64)<i/\i<2 ^ 64)\/(-(2 ^ 64)<j/\j<2 ^ 64)
variable{j:Int}
def qU.ok{i:Int}(h:qU i j):IntMulOk i j:=by
 rcases h with⟨h1,h2⟩ |⟨h1,h2⟩
 .show .of_left (intBits_le_64 h1 h2)
 .show .of_right (intBits_le_64 h1 h2)
def L9:OpR X (fM .Add) (rI0 λi j=>.int (i+j)):=EI λ_ _ _ _ _ _ _ q=>add_int q
def Ma:OpR X (fM .Sub) (rI0 λi j=>.int (i-j)):=EI λ_ _ _ _ _ _ _ q=>sub_int q
def Mb:OpR X (fM .FloorDiv) (rI qT λi j=>.int (i / j)):=opI λi j _ _ _ _ _ a q=>by
 have h1:=a.1;have h2:=a.2;show floordiv_int (by lia) (by rw[Int.fdiv_eq_ediv_of_nonneg i (by lia)];show q) (.inl (PyProof.noPylong_small (by lia)))
def Mc:OpR X (fM .Mod) (rI (λ_ j=>0<j) λi j=>.int (i % j)):=opI λi j _ _ _ _ _ a q=>by
 show mod_int' (by lia) (by rw[Int.fmod_eq_emod_of_nonneg i (by lia)];show q)
def Md:OpR X (fM .Pow) (rI kh λi j=>.int (i ^ j.toNat)):=opI λ_ _ _ _ _ _ _ a q=>pow_int_small a.1 a.2.1 a.2.2 q
def unI{f:Value->Sem Value}{g:Int->Int}
 (rule:∀(i:Int) (t:Tok) (s:ah) (Q:PRS) (W8:PRS),Q (.int (g i) s.toks) {s with toks:=s.toks+1}->wpAny (model X.prog X.w) X.A (f (.int i t)) Q W8 s):
  UnR X f (rU λi=>.int (g i)):=by
 intro U s E H x v Q I a h;have(i,rfl,q):=h;have(t,rfl):=a;show rule i t s _ _ (.int _,H,I.tok _,(_,rfl),q)
def Mf:UnR X (unaryOp .USub) (rU λi=>.int (-i)):=unI λ_ _ _ _ _ q=>neg_int q
abbrev xS:V->V->Bool
 |.non,.non=>ac |.non,.int _=>ac |.int _,.non=>ac |.non,.bl _=>ac |.bl _,.non=>ac |.non,.str _=>ac |.str _,.non=>ac
 |.int _,.int _=>ac |.bl _,.bl _=>ac |.str _,.str _=>ac |.byt _,.byt _=>ac
 |.int _,.str _=>ac |.str _,.int _=>ac |.bl _,.str _=>ac |.str _,.bl _=>ac
 | _,_=>af
def rEq:R2:=λx y H Q=>xS x y=ac/\Q (.bl (decide (x=y))) H
def rNe:R2:=λx y H Q=>xS x y=ac/\Q (.bl (!decide (x=y))) H
def xT{i:Int}:decide (V.int i=V.int j)=(i==j):=by
 rw[iU];simp
def qV{i j:Bool}:decide (V.bl i=V.bl j)=(i==j):=by
 rw[iU];simp
def xU{i j:Str}:decide (V.str i=V.str j)=(i==j):=by
 rw[iU];simp
def EJ{i j:Array UInt8}:decide (V.byt i=V.byt j)=(i.toList==j.toList):=by
 rw[iU];cases i;cases j;simp
def bV{s:ah}{Q:VK}{k a:Bool}(I:Inv X U E H s)(q:Q (.bl k) H)(e:k=a):EP X U E Q (.bool a) s:=by
 subst e;show(.bl k,H,I,rfl,q)
def Mg:OpR X (cK .Eq) rEq:=by
 intro U s E H x y v u Q I c a h;have(b,q):=h
 cases x with
 |non=>
  cases c
  cases y with
  |non=>subst a;show PySem.EqNone.eq_none_none (bV I q (by rfl))
  |bl j=>subst a;show PySem.EqNone.eq_none_bool (bV I q (by rfl))
  |int j=>have(t',rfl):=a;show PySem.EqNone.eq_none_int (bV I q (by rfl))
  |str j=>have(t',rfl):=a;show PySem.EqNone.eq_none_str (bV I q (by rfl))
  | _=>show absurd (b) bJ
 |bl i=>
  subst c
  cases y with
  |non=>subst a;show PySem.EqNone.eq_bool_none (bV I q (by simp))
  |bl j=>subst a;show eq_bool (bV I q qV)
  |str j=>have(t',rfl):=a;show PySem.EqMixed.eq_bool_str (bV I q (by simp))
  | _=>show absurd (b) bJ
 |int i=>
  have(t,rfl):=c
  cases y with
  |non=>subst a;show PySem.EqNone.eq_int_none (bV I q (by simp))
  |int j=>have(t',rfl):=a;show eq_int (bV I q xT)
  |str j=>have(t',rfl):=a;show PySem.EqMixed.eq_int_str (bV I q (by simp))
  | _=>show absurd (b) bJ
 |str i=>
  have(t,rfl):=c
  cases y with
  |non=>subst a;show PySem.EqNone.eq_str_none (bV I q (by simp))
  |bl j=>subst a;show PySem.EqMixed.eq_str_bool (bV I q (by simp))
  |int j=>have(t',rfl):=a;show PySem.EqMixed.eq_str_int (bV I q (by simp))
  |str j=>have(t',rfl):=a;show eq_str (bV I q xU)
  | _=>show absurd (b) bJ
 |byt i=>
  have(t,rfl):=c
  cases y with
  |byt j=>have(t',rfl):=a;show W.eq_bytes (bV I q EJ)
  | _=>show absurd (b) bJ
 | _=>cases y <;> show absurd (show af=ac from b) bJ
def Mh:OpR X (cK .NotEq) rNe:=by
 intro U s E H x y v u Q I c a h;have(b,q):=h
 cases x with
 |non=>
  cases c
  cases y with
  |non=>subst a;show PySem.EqNone.ne_none_none (bV I q (by rfl))
  |bl j=>subst a;show PySem.EqNone.ne_none_bool (bV I q (by rfl))
  |int j=>have(t',rfl):=a;show PySem.EqNone.ne_none_int (bV I q (by rfl))
  |str j=>have(t',rfl):=a;show PySem.EqNone.ne_none_str (bV I q (by rfl))
  | _=>show absurd (b) bJ
 |bl i=>
  subst c
  cases y with
  |non=>subst a;show PySem.EqNone.ne_bool_none (bV I q (by rfl))
  |bl j=>subst a;show ne_bool (bV I q (congrArg not qV))
  |str j=>have(t',rfl):=a;show PySem.EqMixed.ne_bool_str (bV I q (by simp))
  | _=>show absurd (b) bJ
 |int i=>
  have(t,rfl):=c
  cases y with
  |non=>subst a;show PySem.EqNone.ne_int_none (bV I q (by simp))
  |int j=>have(t',rfl):=a;show ne_int (bV I q (congrArg not xT))
  |str j=>have(t',rfl):=a;show PySem.EqMixed.ne_int_str (bV I q (by simp))
  | _=>show absurd (b) bJ
 |str i=>
  have(t,rfl):=c
  cases y with
  |non=>subst a;show PySem.EqNone.ne_str_none (bV I q (by simp))
  |bl j=>subst a;show PySem.EqMixed.ne_str_bool (bV I q (by simp))
  |int j=>have(t',rfl):=a;show PySem.EqMixed.ne_str_int (bV I q (by simp))
  |str j=>have(t',rfl):=a;show ne_str (bV I q (congrArg not xU))
  | _=>show absurd (b) bJ
 |byt i=>
  have(t,rfl):=c
  cases y with
  |byt j=>have(t',rfl):=a;show W.ne_bytes (bV I q (congrArg not EJ))
  | _=>show absurd (show af=ac from b) bJ
 | _=>cases y <;> show absurd (show af=ac from b) bJ
def Mi:OpR X (cK .Lt) (rI0 λi j=>.bl (decide (i<j))):=uh λ_ _ _ _ _ _ _ q=>lt_int q
def Mj:OpR X (cK .LtE) (rI0 λi j=>.bl (decide (i<=j))):=uh λ_ _ _ _ _ _ _ q=>le_int q
def Ml:OpR X (cK .Gt) (rI0 λi j=>.bl (decide (j<i))):=uh λ_ _ _ _ _ _ _ q=>gt_int q
def Mm:OpR X (cK .GtE) (rI0 λi j=>.bl (decide (j<=i))):=uh λ_ _ _ _ _ _ _ q=>ge_int q
def Mn:OpR X (cK .Is) (λx y H Q=>y=.non/\Q (.bl (decide (x=.non))) H):=by
 intro U s E H x y v u Q I a b h;have(rfl,q):=h;subst b;show is_none_gen (bV I q ?_)
 cases x <;> first
  |(subst a;rfl)
  |(have(t,rfl):=a;rfl)
def Mo:OpR X (cK .IsNot) (λx y H Q=>y=.non/\Q (.bl (!decide (x=.non))) H):=by
 intro U s E H x y v u Q I a b h;have(rfl,q):=h;subst b;show isnot_none_gen (bV I q ?_)
 cases x <;> first
  |(subst a;rfl)
  |(have(t,rfl):=a;rfl)
variable{op:CmpOp}
def EK(b:Expr)(h:autoParam (op≠.In) Zc)(h2:autoParam (op≠.NotIn) Zc):k9 op b=af:=by
 have a:(op==CmpOp.In)=af:=by grind
 have c:(op==CmpOp.NotIn)=af:=by grind
 cases b <;> simp[k9,a,c]
variable{r:R2}
def Mp(e:OpR X (cK op) r)(ha:PE X a ta)(d:PE X b tb)(hm:k9 op b=af):PE X (.Compare a [op] [b] pos) (tOp r ta tb):=by
 intro U s E H Q I h;show wpAny_Compare1 (xR ha d I h λv u s2 x y H2 c f g q=>e U s2 E H2 x y v u Q c f g q) hm
def Mq(t:TE):TT:=λE H Q=>t E H λx H'=>∃k,x=.bl k/\Q k H'
def Mr(l:OpR X (cK op) r)(ha:PE X a ta)(j:PE X b tb)(hm:k9 op b=af):PT X (.Compare a [op] [b] pos) (Mq (tOp r ta tb)):=by
 intro U s E H Q I h
 show wpAny_isTrue_Compare1 (thn (ha U s E H _ I h) λv s1 (x,H1,f,q,m)=>thn (j U s1 E H1 _ f m) λu s2 (y,H2,g,w,n) =>
  thn (l U s2 E H2 x y v u _ g q w n) λc B (z,d,i,A,k,e,p)=>?_) hm
 subst e;subst A;show mn (d,i,p)
def xV(K:aQ)(x:V)(H:Hp)(k:Bool):Prop:=
 match x with
 |.non=>k=af
 |.bl b=>k=b
 |.int i=>k=(i != 0)
 |.str y=>y.length<=aS/\k=((y.length:Int) != 0)
 |.byt y=>y.size<=aS/\k=((y.size:Int) != 0)
 |.ref p=>(∃C,SqL K H p C/\k=!C.isEmpty)\/(∃C,SqT K H p C/\k=!C.isEmpty)\/∃kvs,H p=aa (.dK kvs)/\k=!kvs.isEmpty
 | _=>False
def Ms{a:Type}{kvs:List (a×V)}{vs:List (a×Value)}(r:KV kvs vs):(!vs.isEmpty)=!kvs.isEmpty:=by
 cases r <;> rfl
variable{L:LVa}
def EL(r:aF C L):(!L.toArray.isEmpty)=!C.isEmpty:=by
 cases r <;> simp
def qW:(aS:Nat)<2 ^ 63:=by rw[di];decide
def Mt:L7 X (λx H Q=>∃k,xV X.K x H k/\Q k H):=by
 intro U s E H x v Q I c h;have(k,e,q):=h;have l:=di
 cases x with
 |non=>
  subst c;have e':=e;subst e'
  show truthy_none (H,I,q)
 |bl b=>
  subst c;have e':=e;subst e'
  show mn (H,I,q)
 |int i=>
  have(t,rfl):=c;have e':=e;subst e'
  show PySem.P.truthy_int (H,I,q)
 |str y=>
  have(t,rfl):=c;obtain⟨j,e'⟩:y.length<=aS/\k=_:=e;subst e'
  show PySem.P.truthy_str (by lia) (H,I.tok _,q)
 |byt y=>
  have(t,rfl):=c;obtain⟨j,e'⟩:y.size<=aS/\k=_:=e;subst e'
  show W.truthy_bytes (by lia) (H,I.tok _,q)
 |ref p=>
  subst c;have e':=e
  rcases e' with⟨C,d,e'⟩ |⟨C,d,e'⟩ |⟨kvs,d,e'⟩
  .subst e';have(L,r,f,hz):=I.list d;have a:=r.length;show wpAny_truthy_list f.isList (by simp only[size_toArray];lia) (H,I.tok _,by rw[EL r];show q)
  .subst e';have(L,r,f,hz):=I.tuple d;have a:=r.length;show truthy_tuple f (by simp only[size_toArray];lia) (H,I.tok _,by rw[EL r];show q)
  .subst e';obtain⟨hz,g,vs,r,m⟩:kvs.length<=aS/\(p==hE)=af/\∃vs,KV kvs vs/\s.heap.DictOf (lw X.prog X.w) p vs:=I.hok p _ d;have a:=oK r
   show wpAny_truthy_dict g m (by lia) (H,I.tok _,by rw[Ms r];show q)
 | _=>show(show False from e).elim
def Mu(ha:PE X a ta)(d:∀b,isTrue a X.env b=(do let v <- b;gB a.pos;eO [v] (truthy v))):
  PT X a (λE H Q=>ta E H λx H'=>∃k,xV X.K x H' k/\Q k H'):=by
 intro U s E H Q I h;show isTrue_plain (thn (ha U s E H _ I h) λv s1 (x,H1,c,f,e)=>Mt U s1 E H1 x v Q c f e) (d _)
def Mv:OpR X (fM .Add) (λx y H Q=>∃i j,x=.str i/\y=.str j/\i.length+j.length<=aS/\Q (.str (i++j)) H):=by
 intro U s E H x y v u Q I a b h;have(i,j,rfl,rfl,hz,q):=h;have(t,rfl):=a;have(t',rfl):=b;show add_str (λt' c=>(.str _,H,I.tok _,(_,rfl),q)) hz
def Mw:OpR X (inplaceOp .Add) (λx y H Q=>∃i j,x=.str i/\y=.str j/\i.length+j.length<=aS/\Q (.str (i++j)) H):=by
 intro U s E H x y v u Q I a b h;have(i,j,rfl,rfl,hz,q):=h;have(t,rfl):=a;have(t',rfl):=b;show iadd_str (λt' c=>(.str _,H,I.tok _,(_,rfl),q)) hz
def lz{x:V}(r:aF [x] us):∃u,us=[u]/\aC x u:=by
 cases r with
 |cons a b=>cases b;show(_,rfl,a)
def EM{x:V}(r:aF [x,y] us):∃u a,us=[u,a]/\aC x u/\aC y a:=by
 cases r with
 |cons b c=>
  cases c with
  |cons d e=>cases e;show(_,_,rfl,b,d)
structure mL(h:Heap)(x dx W9:Addr)(mA:MGT):Prop where
 obj:h.get? x=aa (ls W9 dx)
 ns:h.Ns1 dx mA
 ne:dx≠x
variable{mA:MGT}
def Mx{dx:Addr}(n:h.Ns1 dx mA):∃od,h.get? dx=aa od/\∀name,W.lookIn name od=aa (mA name):=by
 have(o,es,g,d,hd,c,_,hm):=n;show(o,d,λname=>?_);have e:=hm name;unfold nsFind findBy at e;rw[<- Array.find?_toList]at e;unfold W.lookIn;rw[hd];dsimp only;split
 .grind
 .rename_i q;rw[q]at e
  have a:es.toList.any (·.refKey)=af:=by
   rw[any_eq_false];intro y f;have(z,t,b):=c y (Array.mem_toList_iff.mp f);simp[DictEntry.refKey,b]
  grind
def mL.look{x dx W9:Addr}(I:mL h x dx W9 mA):∃od,W.InstAt h x (ls W9 dx) W9 (aa od)/\∀name,W.lookIn name od=aa (mA name):=
 let (od,ho,hl):=Mx I.ns
 (od,(I.obj,rfl,rfl,ho),hl)
variable{x W9:Addr}{name:Str}{v:Value}
section
variable{s:ah}{dx:Addr}
def My{a:Bool}{Q:PRS}(X:K.In s.heap)(I:mL s.heap x dx W9 mA)(c:kc K W9 name=ac)(d:lq K W9=ac)
 (ha:cm K (.ref W9) name=aa ab)(hv:mA name=aa v)(b:W.handedIn v=ac)(h:Q v {s with toks:=s.toks+1}):
  wpAny (model prog w) A (getAttr (.ref x) name a) Q W8 s:=by
 have(od,J,e):=I.look;show W.get_value X J (W.plainGet_of c).1 (W.findObj_own d ha rfl (by rw[e,hv])) b h
end
variable{f:Addr}{pl:Sem Bool}
def Mz{s:ah}{dx:Addr}{Q:Value×LVa->ah->Prop}(X:K.In s.heap)(I:mL s.heap x dx W9 mA)(a:kc K W9 name=ac)
 (b:cm K (.ref W9) name=aa (aa (.ref f)))(d:W.isFn K (.ref f)=ac)(hv:mA name=ab)(h:Q (.ref f,[.ref x],) s):
  wpAny (model prog w) A (hJ (.ref x) name pl) Q W8 s:=by
 have(od,J,c):=I.look;show W.method_fn X J (W.plainGet_of a).1 (W.plainGet_of a).2 b (beq_iff_eq.mp d) (by change(W.lookIn name od).map (·.isSome)=aa af;rw[c,hv];rfl) h
section
variable{s:ah}{dx:Addr}
def MA{ns:LSt}(X:K.In s.heap)(I:mL s.heap x dx W9 mA)
 (n:cm K (.ref W9) "__setattr__"=aa (aa (.builtin "object.__setattr__")))(m:mG K W9=ac)(q:W.takerIn K W9 name=aa ab)(l:lq K W9=ac)
 (r:PySem.Within mA ns)(p:ns.length<=aS)
 (h:∀h',mL h' x dx W9 (λy=>if y=name then aa v else mA y)->gc dx s.heap h'->Q () {s with heap:=h',toks:=s.toks+2}):
  wpAny (model prog w) A (setAttr (.ref x) name v) Q W8 s:=by
 have(od,J,z):=I.look;show W.set_plain X J n (W.osa_open X J m q λb=>?_);have(u,j,e):=W.any_some l;show aj (aE (aj (aj (wpAny_loadPart I.obj (aj (W.Looks.here (W.looks_clsIn X j) ?_))))));rw[e];show aE (aj (aE (aj ?_)));show wpAny_nsSet1 I.ns λh' a c=>?_;have(B,i,g,f,hdD,d):=a.count (PySem.Within.cons name v r);show aj (wpAny_lookBehind f (by rw[hdD];show pastItsLine_dict (cS d (by rw[cb];lia))) (aE (h _ ((c.2 _ (eM I.ne)).trans I.obj,a,I.ne) c)))
end
variable{R:Result->ah->Prop}{kw:List (Str×Value)}
section
variable{s:ah}
def MB{vs:LVa}(X:K.In s.heap)(hm:mH K W9=ac)
 (hi:cm K (.ref W9) "__init__"=aa (aa (.ref f)))(a:W.typeIn K (.ref f)=aa (.type "function"))
 (h:gC (model prog w) (A.under (.builtin "type.__call__" (.ref W9::vs,kw))) (.call (.ref f) (.ref (s.heap.objs.size + 1)::vs,kw)) (W.InitBack (s.heap.objs.size + 1) R)
   {s with heap:=(s.heap.push lr).push (ls W9 s.heap.objs.size)}):
  gC (model prog w) A (.call (.ref W9) (vs,kw)) R s:=by
 show W.make_core (W.makes_of X hm) (W.looks_findIn X hi) (λself=>W.bind_fn X self a) (.inl rfl) h
end
abbrev c9(f:Str)(v:V):List (Str×V)->List (Str×V)
 | []=>[(f,v,)]
 |(g,x,)::r=>if g=f then (g,v,)::r else (g,x,)::c9 f v r
def EN(f g:Str)(v:V):∀fs:List (Str×V),(c9 f v fs).lookup g=if g=f then aa v else fs.lookup g
 | []=>by
  change List.lookup g [_]=_
  grind
 |(k,x,)::r=>by
  rw[show c9 f v _=(if k=f then _::r else _::c9 f v r)from rfl]
  by_cases b:k=f
  .grind
  .rw[if_neg b]
   by_cases h:g=k
   .grind
   .have a:=beq_eq_false_iff_ne.mpr h;simp only[List.lookup,a];show(EN f g v r)
def xX(f:Str)(v:V):∀fs:List (Str×V),f∈(c9 f v fs).map (·.1)/\∀g,g∈fs.map (·.1)->g∈(c9 f v fs).map (·.1)
 | []=>(by simp[c9],λg h=>by simp at h)
 |(k,x,)::r=>by
  have(a,b):=xX f v r;rw[show c9 f v _=(if k=f then _::r else _::c9 f v r)from rfl]
  grind
def EO(f:Str)(v:V):∀fs:List (Str×V),(c9 f v fs).length<=fs.length+1
 | []=>by simp[c9]
 |(k,x,)::r=>by
  have a:=EO f v r;rw[show c9 f v _=(if k=f then _::r else _::c9 f v r)from rfl]
  grind
variable{v:V}
def eR.some_of{o:Option Value}(r:eR (aa v) o):∃u,o=aa u/\aC v u:=by
 cases o with
 |none=>show(r).elim
 |some u=>show(u,rfl,r)
def eR.none_of{o:Option Value}(r:eR ab o):o=ab:=by
 cases o with
 |none=>rfl
 |some u=>show(r).elim
def MC(r:aC v u):W.handedIn u=ac:=by
 cases v with
 |non=>cases (r);rfl
 |bl b=>cases (r);rfl
 |int i=>have(t,e):=(r);subst e;rfl
 |str x=>have(t,e):=(r);subst e;rfl
 |byt b=>have(t,e):=(r);subst e;rfl
 |flt b=>have(t,e):=(r);subst e;rfl
 |ref a=>cases (r);rfl
 |ty n=>cases (r);rfl
variable{a:Addr}{fs:List (Str×V)}
def uj{dx:Addr}(hok:HOk P w H h)(e:H a=aa (.ins W9 dx fs)):∃mA,mL h a dx W9 mA/\(∀f,eR (fs.lookup f) (mA f))/\PySem.Within mA (fs.map (·.1))/\fs.length<=1000/\H dx=aa (.own a):=by
 have(d,z,ne,b,mA,n,r,q):=(hok a _ e);show(mA,(b,n,ne),r,q,z,d)
structure Cls(K:aQ)(W9:Addr):Prop where
 pg:kc K W9 oN=ac
 hd:lq K W9=ac
 po:mG K W9=ac
 sa:cm K (.ref W9) "__setattr__"=aa (aa (.builtin "object.__setattr__"))
def Cls.get(c:Cls K W9)(f:Str):kc K W9 f=ac:=c.pg
def cM(K:aQ)(W9:Addr)(f:Str):Prop:=cm K (.ref W9) f=aa ab
variable{f:Str}
def cM.taker(n:cM K W9 f):W.takerIn K W9 f=aa ab:=by
 unfold W.takerIn;rw[show cm K _ f=aa ab from n];rfl
structure qX(K:aQ)(W9:Addr)(m:Str)(f:Addr):Prop where
 at_:cm K (.ref W9) m=aa (aa (.ref f))
 fn:W.isFn K (.ref f)=ac
 kp:gf K (.ref f)=ac
def EQ{s:ah}{dx:Addr}{b:Bool}{Q:PRS}(I:Inv X U E H s)(e:H a=aa (.ins W9 dx fs))(c:Cls X.K W9)(n:cM X.K W9 f)(l:fs.lookup f=aa v)
 (h:∀u s',Inv X U E H s'->aC v u->Q u s'):wpAny (model X.prog X.w) A (getAttr (.ref a) f b) Q W8 s:=by
 have(mA,O,r,_,_,_):=uj I.hok e;have(u,d,ru):=eR.some_of (by rw[<- l];show r f);show My I.kIn O (c.get f) c.hd n d (MC ru) (h u _ (I.tok _) ru)
variable{m:Str}
def ER{s:ah}{dx:Addr}{g:Addr}{Q:Value×LVa->ah->Prop}(I:Inv X U E H s)(e:H a=aa (.ins W9 dx fs))(c:Cls X.K W9)(k:qX X.K W9 m g)(l:fs.lookup m=ab)
 (h:Q (.ref g,[.ref a],) s):wpAny (model X.prog X.w) A (hJ (.ref a) m pl) Q W8 s:=by
 have(mA,O,r,_,_,_):=uj I.hok e;show Mz I.kIn O (c.get m) k.at_ k.fn (eR.none_of (by rw[<- l];show r m)) h
def ES{s:ah}{dx:Addr}(I:Inv X U E H s)(e:H a=aa (.ins W9 dx fs))(c:Cls X.K W9)(n:cM X.K W9 f)(v:fs.length<1000)(m:aC y u)
 (h:∀s',Inv X U E (upd H a (.ins W9 dx (c9 f y fs))) s'->Q () s'):wpAny (model X.prog X.w) A (setAttr (.ref a) f u) Q W8 s:=by
 have(mA,O,r,wi,_,i):=uj I.hok e;have hz:(fs.map (·.1)).length<=aS:=by rw[aA,di];lia
 show MA I.kIn O c.sa c.po n.taker c.hd wi hz λh' d p=>h _ ?_;have hd:∃o,h'.get? dx=aa o:=let (o,_,_,e',_):=d.ns;(o,e');show I.write (by rw[e];show iE) (.inr i) (λb q j z=>(p.2 b j).trans z) hd ?_;show(by rw[aK O.ne];show i,?_,O.ne,d.obj,_,d.ns,λg=>?_,λg l=>?_)
 .have:=EO f y fs;lia
 .change eR _ _;rw[EN]
  by_cases q:g=f
  .rw[if_pos q,if_pos q];show m
  .grind
 .by_cases q:g=f
  .rw[q];show(xX f y fs).1
  .show(xX f y fs).2 g (wi g λz=>l ?_)
   grind
section
variable{s:ah}
def Inv.made(I:Inv X U E H s):Inv X U E (upd (upd H s.heap.objs.size (.own (s.heap.objs.size+1))) (s.heap.objs.size+1) (.ins W9 s.heap.objs.size []))
  {s with heap:=(s.heap.push lr).push (ls W9 s.heap.objs.size)}:=by
 have a:(s.heap.push lr).get? s.heap.objs.size=aa lr:=cL s.heap rfl
 have c:((s.heap.push lr).push (ls W9 s.heap.objs.size)).get? (s.heap.objs.size+1)=aa (ls W9 s.heap.objs.size):=by
  have:=cL (s.heap.push lr) (o:=ls W9 s.heap.objs.size) rfl
  simp_all
 have d:(s.heap.push lr).Ns s.heap.objs.size _:=(lr,#[],_,a,rfl,(λe f=>absurd f (by simp)),λ_=>rfl);show(I.laid (o:=.own _) (t':=s.toks) (λb u q=>bA _ q) (aL _) (_,a)).laid (λb u q=>bA _ q) (Nat.le_of_eq (i6 _ _)) ?_;have ne:s.heap.objs.size≠s.heap.objs.size+1:=bU (c8 _);show(by rw[aK ne,aY],ce _,ne,c,λ_=>ab,(Heap.Ns1.of_empty d).at λo q=>bA _ q,λ_=>iE,λy g=>absurd rfl g)
end
variable{env:Env}
def MD{s:ah}{Q:PRS}(b:oC e f env (eval e env)=eval e env)
 (h:wpAny (model prog w) A (eval e env) (λo a=>wpAny (model prog w) A (getAttr o f ac) Q W8 a) W8 s):wpAny (model prog w) A (eval (.Attribute e f pos) env) Q W8 s:=
 Attribute_any_ h (by rw[arm_eval_Attribute,b])
def ME(K:aQ)(ta:TE)(f:Str):TE:=λE H Q=>ta E H λx H1=>∃a W9 dx fs v,x=.ref a/\H1 a=aa (.ins W9 dx fs)/\Cls K W9/\cM K W9 f/\fs.lookup f=aa v/\Q v H1
def ET(K:aQ)(ta b:TE)(f:Str):TS:=λD E H=>b E H λy H1=>ta E H1 λx H2=>∃a W9 dx fs,x=.ref a/\H2 a=aa (.ins W9 dx fs)/\Cls K W9/\cM K W9 f/\fs.length<1000 /\
 D.nx E (upd H2 a (.ins W9 dx (c9 f y fs)))
def EU(X:Cx)(op:Operator)(rd:V->V->Hp->VK->Prop):Prop:=
 ∀(U:PNS) (s:ah) (E:St) (H:Hp) (x y:V) (u v:Value) (Q:VK),Inv X U E H s->aC x u->aC y v->rd x y H Q->wpAny (model X.prog X.w) X.A (inplaceOp op u v) (EP X U E Q) X.xe s
def MF(K:aQ)(ta e:TE)(rd:V->V->Hp->VK->Prop)(f:Str):TS:=λD E H=>ta E H λx H1=>∃a W9 dx fs v,x=.ref a/\H1 a=aa (.ins W9 dx fs)/\Cls K W9/\cM K W9 f/\fs.lookup f=aa v /\
 e E H1 λy H2=>rd v y H2 λz d=>∃c b,d a=aa (.ins W9 c b)/\b.length<1000/\D.nx E (upd d a (.ins W9 c (c9 f z b)))
def EV(j:PE X e ta)(i:oC e f X.env (eval e X.env)=eval e X.env):PE X (.Attribute e f pos) (ME X.K ta f):=by
 intro U s E H Q I h;show MD i (thn (j U s E H _ I h) λu s1 m=>?_);have(x,H1,b,p,a,W9,dx,fs,v,ex,g,c,n,l,q):=m;subst ex;obtain rfl:u=eQ a:=p;show EQ b g c n l λr s2 d ru=>(v,H1,d,ru,q)
variable{value:Expr}{tv:TE}
def xY{o:Expr}(ha:PE X o ta)(hv:PE X value tv)(i:f9 value (aa (.Attribute o f b4)) pos.line X.env=pure af):PS X (.Assign [.Attribute o f b4] value pos) (ET X.K ta tv f):=by
 intro U s E H D I h;show plainObj_wpAny_Assign_Attribute (thn (hv U s E H _ I h) λu s1 (y,H1,b,v,q)=>thn (ha U s1 E H1 _ b q) λj s2 p=>?_) i;have(x,H2,d,r,a,W9,dx,fs,ex,g,c,n,l,m):=p;subst ex;obtain rfl:j=eQ a:=r;show ES d g c n l v λw e=>(E,_,e,m)
variable{gF:Pos}
def MG{o:Expr}{op:Operator}{rd:V->V->Hp->VK->Prop}(ha:PE X o ta)(hv:PE X value tv)(d:EU X op rd):PS X (.AugAssign (.Attribute o f gF) op value pos) (MF X.K ta tv rd f):=by
 intro U s E H D I h;show wpAny_AugAssign_AttributeAny (thn (ha U s E H _ I h) λB s1 J=>?_);have(x,H1,e,L,a,W9,dx,fs,v,ex,r,c,n,l,q):=J;subst ex;obtain rfl:B=eQ a:=L;show EQ e r c n l λu s2 g ru=>thn (hv U s2 E H1 _ g q) λT Q (y,H2,i,M,C)=>thn (d U Q E H2 v y u T _ i ru M C) λw4 s4 (z,Y,j,N,p,w,b,A,G)=>(ES j b c n A N λs5 m=>(E,_,m,G))
abbrev MH:V->V->Hp->VK->Prop:=λx y H Q=>∃i j,x=.int i/\y=.int j/\Q (.int (i+j)) H
def MI:EU X .Add MH:=by
 rintro U s E H x y u v Q I a b ⟨i,j,rfl,rfl,q⟩;have(t,rfl):=(a);have(t',rfl):=(b);show PyProof.Rows.iadd_int (.int _,H,I.tok _,(_,rfl),q)
inductive gE(K:aQ)(H:Hp):V->Value->Prop where
 |non:gE K H .non (.type "NoneType")
 |bl (x:Bool):gE K H (.bl x) (.type "bool")
 |int (i:Int):gE K H (.int i) (.type "int")
 |str (x:Str):gE K H (.str x) (.type "str")
 |flt (x:UInt64):gE K H (.flt x) (.type "float")
 |lst {a:Addr} {C:LVv} (e:H a=aa (.lst C)):gE K H (.ref a) (.type "list")
 |frz {a:Addr} {o:Obj} {C:LVv} (e:H a=aa (.frz o (.lst C))):gE K H (.ref a) (.type "list")
 |tup {a:Addr} {C:LVv} (e:H a=aa (.tup C)):gE K H (.ref a) (.type "tuple")
 |dK {a:Addr} {kvs:List (Key×V)} (e:H a=aa (.dK kvs)):gE K H (.ref a) (.type "dict")
 |dT {a:Addr} {kvs:List (List Key×V)} (e:H a=aa (.dT kvs)):gE K H (.ref a) (.type "dict")
 |ins {a W9 dx:Addr} {fs:List (Str×V)} (e:H a=aa (.ins W9 dx fs)) (cl:Cls K W9) (ha:cm K (.ref W9) "__class__"=aa (aa (.builtin "object.__class__")))
   (hn:W.specialIn K (.builtin "object.__class__") "__get__"=aa (aa (.builtin "getset_descriptor.__get__"))) (htk:W.takesIn K (.builtin "object.__class__")=aa ac)
   (hm:W.mroIn K W9 (.type "object")=aa ac):gE K H (.ref a) (.ref W9)
variable{Q:PRS}{c:Value}{b:Bool}
section
variable{s:ah}
def MJ{x:V}{u t:Value}(I:Inv X U E H s)(f:aC x u)(ty:gE X.K H x t)(e:W.kitOne X.K t c=aa b)(h:∀j,Q (.bool b) {s with toks:=j}):
  wpAny (model X.prog X.w) A (call (.builtin "isinstance") [u,c]) Q W8 s:=by
 cases ty with
 |non=>cases (f);show i7 W.kitx_none I.kIn iE e (λz=>nomatch z) h
 |bl y=>cases (f);show i7 W.kitx_bool I.kIn iE e (λz=>nomatch z) h
 |int i=>have(t,q):=(f);subst q;show i7 W.kitx_int I.kIn iE e (λz=>nomatch z) h
 |str y=>have(t,q):=(f);subst q;show i7 W.kitx_str I.kIn iE e (λz=>nomatch z) h
 |flt y=>have(t,q):=(f);subst q;show i7 W.kitx_float I.kIn iE e (λz=>nomatch z) h
 | @lst a C d=>
  cases (f);have(_,_,n,_,h1):=(I.hok a _ d)
  show i7 W.kitx_list I.kIn (_,h1,rfl) e (λz=>nomatch z) h
 | @frz a l C d=>
  cases (f);have(_,_,_,n,_,h1):=(I.hok a _ d)
  show i7 W.kitx_list I.kIn (_,h1,rfl) e (λz=>nomatch z) h
 | @tup a C d=>
  cases (f);have(_,_,_,p):=(I.hok a _ d);have(o,h1,h2,_):=p
  show i7 W.kitx_tuple I.kIn (o,h1,h2) e (λz=>nomatch z) h
 | @dK a kvs d=>
  cases (f);have(_,_,vs,_,p):=(I.hok a _ d);have(o,es,g,h1,h2,_):=p
  show i7 W.kitx_dict I.kIn (o,h1,h2.1) e (λz=>nomatch z) h
 | @dT a kvs d=>
  cases (f);have(_,_,C,_,o,es,g,h1,h2,_):=(I.hok a _ d)
  show i7 W.kitx_dict I.kIn (o,h1,h2.1) e (λz=>nomatch z) h
 | @ins a W9 dx fs d cl ha hn htk hm=>
  cases (f);have(mA,O,_):=uj I.hok d;have(od,J,_):=O.look;show i7 (W.kitx_own (cl.get _) cl.hd ha hn htk hm) I.kIn J e (λz=>nomatch z) h
end
structure bu(k:Nat)(A:b5):Prop where
 hd:A.handled=ab
 dp:A.depth+3*k+5<recursionLimit
 un:A.units+16*k+200<cLine
def bu.mono{j k:Nat}(r:bu k A)(h:j<=k):bu j A:=(r.hd,by have:=r.dp;lia,by have:=r.un;lia)
def bu.deeper{k:Nat}(r:bu (k+1) A)(env:Env):bu k (A.deeper env):=
 (r.hd,by have:=r.dp;change A.depth+1+3*k+5<_;lia,by have:=r.un;change A.units+3+16*k+200<_;lia)
def MK:(A.under (.builtin "type.__call__" (.ref W9::us,kw))).depth=A.depth+1:=by
 first |rfl |simp[b5.under]
def ML:(A.under (.builtin "type.__call__" (.ref W9::us,kw))).units=A.units+1:=by
 first |rfl |simp[b5.under]
def bu.make{k:Nat}(r:bu (k+1) A)(W9:Addr)(us:LVa)(kw:List (Str×Value)):bu k (A.under (.builtin "type.__call__" (.ref W9::us,kw))):=
 (r.hd,by have:=r.dp;rw[MK];lia,by have:=r.un;rw[ML];lia)
def bu.depth{k:Nat}(r:bu k A):A.depth<recursionLimit:=by have:=r.dp;lia
def bu.units{k:Nat}(r:bu k A):A.units+64<cLine:=by have:=r.un;lia
def ig:TA:=λ_ H Q=>Q [] H
def jc(ta:TE)(tr:TA):TA:=λE H Q=>ta E H λx H1=>tr E H1 λC H2=>Q (x::C) H2
def dR:PA X [] ig:=λ_ _ _ _ H Q I h=>xp ([],H,I,.nil,h)
def d3{t:TA}(ha:PE X e te)(hr:PA X es t)(c:autoParam (StE X e es) Zb):PA X (e::es) (jc te t):=by
 intro pos U s E H Q I h;rw[c];show i4 (thn (ha U s E H _ I h) λu s1 (x,H1,a,g,d)=>(thn (hr pos U s1 E H1 _ a d) λus s2 (C,H2,b,i,f)=>(x::C,H2,b,.cons g i,f)))
def MM(t:TA):TE:=λE H Q=>t E H λC H1=>C.length<=aS/\∀p,H1 p=ab->Q (.ref p) (upd H1 p (.tup C))
def xZ(t:TA):TE:=λE H Q=>t E H λC H1=>C.length<=aS/\∀p,H1 p=ab->Q (.ref p) (upd H1 p (.lst C))
def EW{t:TA}{x1}(h:PA X es t):PE X (.Tuple es x1 pos) (MM t):=by
 intro U s E H Q I c;show wpAny_Tuple_spliced (thn (h pos U s E H _ I c) λus s1 (C,H1,a,r,z,q)=>(by rw[<- r.length];show z,?_));show(.ref s1.heap.objs.size,upd H1 s1.heap.objs.size _,a.laid (λb u e=>bA _ e) (aL _) ?_,rfl,q _ (a.hok.fresh (aL _)));show(z,us,r,(_,cL _ rfl,rfl,_,rfl))
def uk{t:TA}(h:PA X es t):PE X (.List es pos) (xZ t):=by
 intro U s E H Q I c;show wpAny_List_spliced (thn (h pos U s E H _ I c) λus s1 (C,H1,a,r,z,q)=>(by rw[<- r.length];show z,?_));show(.ref s1.heap.objs.size,upd H1 s1.heap.objs.size _,a.laid (λb u e=>bA _ e) (aL _) ?_,rfl,q _ (a.hok.fresh (aL _)));show(z,us,0,r,cL _ rfl)
nonrec def Sp:=LVv->Hp->VK->XK->Prop
nonrec def CXT:=List Env->Hp->ah->XK->PRS
structure mM(P:cf)(w:World)(K:aQ)(mg:MGT)(base:Heap)(A:b5)(outer:List Env)(s:ah)(H:Hp):Prop where
 frames:A.frames=aa outer
 mod:Mod K mg base
 bs:∀b o,base.get? b=aa o->s.heap.get? b=aa o/\H b=ab
 bsz:base.objs.size<=s.heap.objs.size
 funs:s.heap.FunFrames base outer
 frf:∀b∈frs outer,H b=ab
 hok:HOk P w H s.heap
 bare:j6 s.gens
def CE(outer:List Env)(P:cf)(w:World)(H:Hp)(s:ah)(Q:VK)(u:Value)(s':ah):Prop:=
 ∃v H',s'.os=s.os/\j6 s'.gens/\Un (frs outer) [] H H' s.heap s'.heap/\HOk P w H' s'.heap/\aC v u/\Q v H'
def CR(CX:CXT)(outer:List Env)(P:cf)(w:World)(H:Hp)(s:ah)(Q:VK)(W8:XK)(r:Result)(s':ah):Prop:=
 match r with
 |.ok (.ret u)=>CE outer P w H s Q u s'
 |.ok _=>False
 |.error e=>CX outer H s W8 e s'
structure cq(P:cf)(w:World)(K:aQ)(mg:MGT)(base:Heap)(CX:CXT)(k:Nat)(f:Addr)(fd:cT)(ps:LSt)(sp:Sp):Prop where
 len:∀vs H Q W8,sp vs H Q W8->vs.length=ps.length
 run:∀(A:b5) (outer:List Env) (s:ah) (H:Hp) (args:Args) (us:LVa) (vs:LVv) (Q:VK) (W8:XK),bu k A->mM P w K mg base A outer s H->BindsTo s fd args (ps.zip us)->aF vs us->sp vs H Q W8 ->
  gC (model P w) A (.call (.ref f) args) (CR CX outer P w H s Q W8) s
variable{mg:MGT}{base:Heap}{CX:CXT}{f:Addr}{fd:cT}{ps:LSt}{sp:Sp}
def cq.imp{k:Nat}{a:Sp}(F:cq P w K mg base CX k f fd ps sp)
 (h:∀vs H Q W8,a vs H Q W8->sp vs H Q W8):cq P w K mg base CX k f fd ps a:=
 (λvs H Q W8 q=>F.len vs H Q W8 (h _ _ _ _ q),λA outer s H args us vs Q W8 hr c b hv d=>F.run A outer s H args us vs Q W8 hr c b hv (h _ _ _ _ d))
variable{outer:List Env}
def mM.make{s:ah}(e:mM P w K mg base A outer s H)(W9:Addr)(us:LVa)(kw:List (Str×Value)):
  mM P w K mg base (A.under (.builtin "type.__call__" (.ref W9::us,kw))) outer s H:=⟨by first |show e.frames |(simpa[b5.under]using e.frames),e.mod,e.bs,e.bsz,e.funs,e.frf,e.hok,e.bare⟩
def Inv.env0{s:ah}(I:Inv X U E H s):mM X.prog X.w X.K X.mg X.base X.A X.stack s H:=
 (I.ok.frames,I.ok.mod,I.bs,cS I.ok.bsz I.sz,I.stack,I.stkFree,I.hok,I.bare)
variable{Q:VK}
def Inv.after{s:ah}(I:Inv X U E H s)(h:CE X.stack X.prog X.w H s Q u s'):EP X U E Q u s':=by
 have(v,H',os,bare,un,hok,r,q):=h;have(c,g,d,t,a):=s';obtain rfl:a=s.os:=os;show(v,H',I.call un hok bare (λb z=>absurd z (by simp)),r,q)
def x6(sp:Sp)(a:LVv)(W8:XK)(t:TA):TE:=λE H Q=>t E H λvs H1=>sp (vs++a) H1 Q W8
def um(W9:Addr)(m:Str)(sp:Sp)(b:LVv)(W8:XK)(ta:TE)(t:TA):TE:=λE H Q=>ta E H λx H1=>∃a dx fs,x=.ref a/\H1 a=aa (.ins W9 dx fs)/\fs.lookup m=ab /\
 t E H1 λvs H2=>sp (x::(vs++b)) H2 Q W8
def EX(W9:Addr)(sp:Sp)(a:LVv)(W8:XK)(t:TA):TE:=λE H Q=>t E H λvs H1=>∀x dx,H1 x=ab->H1 dx=ab->dx≠x ->
 sp (.ref x::(vs++a)) (upd (upd H1 dx (.own x)) x (.ins W9 dx [])) (λv H2=>v=.non/\Q (.ref x) H2) W8
def dS(K:aQ)(fd:cT)(ps:LSt)(ds:LVa):Prop:=
 ∀(s:ah) (us:LVa),K.In s.heap->(us++ds).length=ps.length->BindsTo s fd (us,[]) (ps.zip (us++ds))
def dS.all(h:∀us:LVa,us.length=ps.length->bindArgs fd (us,[])=pure (ps.zip us)):dS K fd ps []:=λs us _ a=>by
 rw[bN]at a ⊢;show .of_eq (h us a)
def mN(CX:CXT)(X:Cx)(W8:XK):Prop:=∀(U:PNS) (E:St) (H:Hp) (s:ah) (e:Value) (s':ah),Inv X U E H s->CX X.stack H s W8 e s'->X.xe e s'
variable{ff vs:LVv}{ds:LVa}{W8:XK}
def uq{k:Nat}{s:ah}(F:cq X.prog X.w X.K X.mg X.base CX k f fd ps sp)(hr:bu k X.A)(d:dS X.K fd ps ds)(hd:aF ff ds)(i:mN CX X W8)
 (I:Inv X U E H s)(r:aF vs us)(h:sp (vs++ff) H Q W8):wpAny (model X.prog X.w) X.A (call (.ref f) us) (EP X U E Q) X.xe s:=by
 have b:=r.append hd;have g:(us++ds).length=ps.length:=by rw[<- b.length];show F.len _ _ _ _ h
 show wpAny_call (lc (F.run X.A X.stack s H (us,[]) _ _ Q W8 hr I.env0 (d s us I.kIn g) b h) λr s' a=>?_)
 cases r with
 |error e=>show i U E H s e s' I a
 |ok c=>
  cases c with
  |ret u=>show I.after a
  |next=>show gY a
  |brk=>show gY a
  |cont=>show gY a
variable{x:Str}{p:Pos}
def oQ{k:Nat}{t:TA}(F:cq X.prog X.w X.K X.mg X.base CX k f fd ps sp)(hr:bu k X.A)(i:Gl X x)(hm:X.mg x=aa (.ref f))(j:gf X.K (.ref f)=ac)(d:dS X.K fd ps ds)(hd:aF ff ds)(l:mN CX X W8)
 (ha:PA X (e::es) t)(a:autoParam (NDb x) Zc)(g:autoParam (StE X e es) Zb)(b:autoParam (BkE X pos es) Zb):
  PE X (.Call (.Name x p) (e::es) [] pos) (x6 sp ff W8 t):=by
 intro U s E H Q I h;show iX (xI I i hm ?_ a);show W.callWith_K I.ok.mod.kin j (thn (ha pos U s E H _ I h) λus s1 (vs,H1,c,r,q)=>(c.kIn,(uq F hr d hd l c r q))) g b
variable{apos:Pos}
def x8{k:Nat}{o:Expr}{t:TA}(p:PE X o ta)(c:Cls X.K W9)(hm:qX X.K W9 m f)(F:cq X.prog X.w X.K X.mg X.base CX k f fd ps sp)(hr:bu k X.A)(n:dS X.K fd ps ds)(hd:aF ff ds)(y:mN CX X W8)(ha:PA X (e::es) t)
 (d:autoParam (StE X e es) Zb)(b:autoParam (BkE X pos es) Zb)
 (v:autoParam (eval (.Call (.Attribute o m apos) (e::es) [] pos) X.env=(do
   let ov <- eval o X.env
   gB apos.atName
   let (f,first,) <- eO [ov] (hJ ov m pl)
   jG pos f first (cg pos (aM (e::es) X.env)) (iA pos (iz [] X.env)))) Zb):
  PE X (.Call (.Attribute o m apos) (e::es) [] pos) (um W9 m sp ff W8 ta t):=by
 intro U s E H Q I h;show W.methodCall_KW (thn (p U s E H _ I h) λu s1 B=>?_) v;have(x,H1,g,C,a,dx,fs,ex,j,l,q):=B;subst ex;obtain rfl:u=eQ a:=C;show ER g j c hm l ?_;show W.callWith_K I.ok.mod.kin hm.kp (thn (ha pos U s1 E H1 _ g q) λus s2 (vs,H2,i,r,z)=>(i.kIn,(uq (vs:=.ref a::vs) F hr n hd y i (.cons rfl r) z))) d b
def x9{k:Nat}{o:Expr}(g:PE X o ta)(c:Cls X.K W9)(hm:qX X.K W9 m f)(F:cq X.prog X.w X.K X.mg X.base CX k f fd ps sp)(hr:bu k X.A)(e:dS X.K fd ps ds)(hd:aF ff ds)(j:mN CX X W8)
 (i:autoParam (eval (.Call (.Attribute o m apos) [] [] pos) X.env=(do
   let ov <- eval o X.env
   gB apos.atName
   let (f,first,) <- eO [ov] (hJ ov m pl)
   jG pos f first (cg pos (aM [] X.env)) (iA pos (iz [] X.env)))) Zb):
  PE X (.Call (.Attribute o m apos) [] [] pos) (um W9 m sp ff W8 ta ig):=by
 intro U s E H Q I h;show W.methodCall_KW (thn (g U s E H _ I h) λu s1 n=>?_) i;have(x,H1,b,p,a,dx,fs,ex,d,l,q):=n;subst ex;obtain rfl:u=eQ a:=p;show ER b d c hm l (W.callWith_K0 b.kIn hm.kp (uq (vs:=[.ref a]) F hr e hd j b (.cons rfl .nil) q))
structure Mk(K:aQ)(W9 f:Addr):Prop where
 makes:mH K W9=ac
 init:cm K (.ref W9) "__init__"=aa (aa (.ref f))
 fn:W.isFn K (.ref f)=ac
 kp:gf K (.ref W9)=ac
def MN{k:Nat}{s:ah}(W5:Mk X.K W9 f)(F:cq X.prog X.w X.K X.mg X.base CX k f fd ps sp)(hr:bu (k+1) X.A)(l:dS X.K fd ps ds)(hd:aF ff ds)
 (n:mN CX X W8)(I:Inv X U E H s)(r:aF vs us)
 (h:∀x dx,H x=ab->H dx=ab->dx≠x->sp (.ref x::(vs++ff)) (upd (upd H dx (.own x)) x (.ins W9 dx [])) (λv H2=>v=.non/\Q (.ref x) H2) W8):
  wpAny (model X.prog X.w) X.A (call (.ref W9) us) (EP X U E Q) X.xe s:=by
 have c:=h _ s.heap.objs.size (I.hok.fresh (j4 _)) (I.hok.fresh (aL _)) (bU (c8 _));have b:=Inv.made (W9:=W9) I;have d:aF (V.ref _::_) (eQ (s.heap.objs.size+1)::_):=.cons rfl (r.append hd)
 have m:(eQ (s.heap.objs.size+1)::us++ds).length=ps.length:=by
  have e:=d.length;rw[F.len _ _ _ _ c]at e;show e.symm
 show wpAny_call (MB I.kIn W5.makes W5.init (beq_iff_eq.mp W5.fn) (lc (F.run _ X.stack _ _ (eQ _::us,[]) _ _ _ W8 (hr.make W9 us [])
  (b.env0.make W9 us []) (l _ _ b.kIn m) d c) λr s' a=>?_))
 cases r with
 |error e=>show n U E _ _ e s' b a
 |ok j=>
  cases j with
  |ret u=>
   have(v,H',g,q,i,p):=b.after a;subst i
   show(q,(V.ref _,H',g,rfl,p))
  |next=>show gY a
  |brk=>show gY a
  |cont=>show gY a
def EY{k:Nat}{t:TA}(W5:Mk X.K W9 f)(F:cq X.prog X.w X.K X.mg X.base CX k f fd ps sp)(hr:bu (k+1) X.A)(i:Gl X x)(hm:X.mg x=aa (.ref W9))(d:dS X.K fd ps ds)(hd:aF ff ds)(j:mN CX X W8)
 (ha:PA X (e::es) t)(a:autoParam (NDb x) Zc)(g:autoParam (StE X e es) Zb)(b:autoParam (BkE X pos es) Zb):
  PE X (.Call (.Name x p) (e::es) [] pos) (EX W9 sp ff W8 t):=by
 intro U s E H Q I h;show iX (xI I i hm ?_ a);show W.callWith_K I.ok.mod.kin W5.kp (thn (ha pos U s E H _ I h) λus s1 (vs,H1,c,r,q)=>(c.kIn,(MN W5 F hr d hd j c r q))) g b
structure aB(N P:LSt)(sc:Scope):Prop where
 kind:sc.kind=.function
 co:sc.isCoroutine=af
 gen:sc.isGenerator=af
 nd:N.Nodup
 pre:N.take P.length=P
 par:∀x∈P,sc.names.lookup x=aa .local\/sc.names.lookup x=aa .cell
 nofree:∀y∈sc.names,y.2≠.free
def EZ{kindOf:Str->Option ga}{x:Str}:∀{binds:List (Str×Value)} {m:MGT},(∀v,(x,v,)∉binds)->bindL kindOf binds m x=m x
 | [],_,_=>rfl
 |(n,v,)::r,m,h=>by
  unfold bindL;rw[EZ λw a=>h w (bi _ a)];split
  .grind
  .rfl
def E3{kindOf:Str->Option ga}{x:Str}:∀{binds:List (Str×Value)} {m:MGT},(∀v,(x,v,)∉binds)->bindC kindOf binds m x=m x
 | [],_,_=>rfl
 |(n,v,)::r,m,h=>by
  unfold bindC;rw[E3 λw a=>h w (bi _ a)];split
  .rfl
  .grind
def E4{kindOf:Str->Option ga}{x:Str}{v:Value}:∀{P:LSt} {vs:LVa} {i:Nat} {m:MGT},P.Nodup->P[i]?=aa x->vs[i]?=aa v->kindOf x=aa .local ->
  bindL kindOf (P.zip vs) m x=aa v
 | [],_,_,_,_,h,_,_=>by simp at h
 | _::_,[],_,_,_,_,h,_=>by simp at h
 |p::P,w::vs,0,m,nd,h1,h2,hk=>by
  simp at h1 h2;subst h1;subst h2;change bindL kindOf (_::P.zip vs) m p=_;dsimp only[bindL];rw[EZ λv hv=>(b7.mp nd).1 (of_mem_zip hv).1,if_pos hk]
  simp
 |p::P,w::vs,i+1,m,nd,h1,h2,hk=>by
  change bindL kindOf (_::P.zip vs) m x=_;show E4 (b7.mp nd).2 (by simpa using h1) (by simpa using h2) hk
def E5{kindOf:Str->Option ga}{x:Str}{v:Value}:∀{P:LSt} {vs:LVa} {i:Nat} {m:MGT},P.Nodup->P[i]?=aa x->vs[i]?=aa v->kindOf x≠aa .local ->
  bindC kindOf (P.zip vs) m x=aa v
 | [],_,_,_,_,h,_,_=>by simp at h
 | _::_,[],_,_,_,_,h,_=>by simp at h
 |p::P,w::vs,0,m,nd,h1,h2,hk=>by
  simp at h1 h2;subst h1;subst h2;change bindC kindOf (_::P.zip vs) m p=_;dsimp only[bindC];rw[E3 λv hv=>(b7.mp nd).1 (of_mem_zip hv).1,if_neg hk]
  simp
 |p::P,w::vs,i+1,m,nd,h1,h2,hk=>by
  change bindC kindOf (_::P.zip vs) m x=_;show E5 (b7.mp nd).2 (by simpa using h1) (by simpa using h2) hk
def start(N:LSt)(vs:LVv):St:=vs.map aa++g6 (N.length-vs.length) ab
abbrev ij(CX:CXT)(P:cf)(w:World)(K:aQ)(mg:MGT)(base:Heap)(N:LSt)(qual:Str)(scope:Scope)(f:Addr)(cd:Value)(A:b5)(outer:List Env)(s:ah)(H:Hp)(W8:XK):Cx where
 prog:=P
 w:=w
 K:=K
 mg:=mg
 base:=base
 A:=A.deeper (fK qual scope s.heap.objs.size f cd)
 N:=N
 s₀:=s
 H₀:=H
 env:=fK qual scope s.heap.objs.size f cd
 outer:=outer
 stack:=fK qual scope s.heap.objs.size f cd::outer
 ex:=[]
 calm:=ac
 fn:=λ_=>ac
 pn:=[]
 xe:=λe s'=>wpAny (model P w) (A.deeper (fK qual scope s.heap.objs.size f cd)) (leaving (fK qual scope s.heap.objs.size f cd) e) (λ_ s''=>CX outer H s W8 e s'') (λe' s''=>CX outer H s W8 e' s'') s'
variable{n:Nat}
def E6{sc:Scope}(h:sc.names.lookup x=aa .cell):∃c,(cellsFrom n sc.names []).lookup x=aa c:=by
 show xi.mp (W.cellsFrom_some sc.names n [] (.inl h))
variable{qual:Str}{scope:Scope}
def MO{m:Value}{s s1:ah}
 (S:aB N ps scope)(hd:A.handled=ab)(e0:mM P w K mg base A outer s H)(I:vs.length=ps.length)(r:aF vs us)
 (x:InCallC s s.heap.objs.size (bindL (fK qual scope s.heap.objs.size f m).kindOf (ps.zip us) λ_=>ab) (cellsFrom (s.heap.objs.size+1) scope.names []) (bindC (fK qual scope s.heap.objs.size f m).kindOf (ps.zip us) λ_=>ab) s1):
  Inv (ij CX P w K mg base N qual scope f m A outer s H W8) [] (start N vs) H s1:=by
 have C:ps.length<=N.length:=by have:=congrArg List.length S.pre;rw[length_take]at this;lia
 have(h1,J,rfl,n):=x.done;have g:∀b:Addr,b∉(ij CX P w K mg base N qual scope f m A outer s H W8).ex:=λb z=>absurd (show b∈([]:LAd)from z) (by simp)
 show((e0.mod,S.kind,rfl,rfl,aL _,λy z c h1 h2=>?_,λy d=>?_,λy c _ h=>?_,λ_=>hd,b5.frames_deeper e0.frames,.inr (rfl,rfl),λb z=>absurd z (g b),e0.bs,e0.bsz,λb _ _=>g b,λb z=>absurd z (g b),e0.funs,e0.frf),
  rfl,e0.bare,Un.kept n,(_,x.toInCall.ns,λi y v h1 h2 G=>?_),λy c h=>(_,x.cell y c h),e0.hok.fresh (aL _),λy c h=>?_,λp j=>absurd (show p∈([]:List _)from j) (by simp),e0.hok.kept n,?_)
 .show name_of_addr x.apart (qK h1) (qK h2)
 .have d:=d
  rcases d with d |d
  .show E6 d
  .show absurd rfl (S.nofree _ (qK d))
 .show eK (x.above y c (qK h))
 .have hi:i<vs.length:=by
   unfold start at h2
   by_cases hi:i<vs.length
   .show hi
   .rw[oa (by simpa using hi)]at h2;rw[oe]at h2
    split at h2 <;> nomatch h2
  have ha:vs[i]?=aa v:=by
   unfold start at h2;rw[l7 (by simpa using hi),cB]at h2
   cases e:vs[i]? with
   |none=>rw[e]at h2;nomatch h2
   |some a=>rw[e]at h2;cases h2;rfl
  have(u,B,E):=r.get ha
  have j:ps[i]?=aa y:=by
   rw[<- S.pre,List.getElem?_take_of_lt (by lia)];show h1
  have l:ps.Nodup:=by rw[<- S.pre];show S.nd.sublist (take_sublist _ _)
  show(u,E,?_)
  rcases S.par y (dP j)with k |k
  .show .inl (k,E4 l j B k)
  .have(c,e):=E6 k;show .inr (.inl k,c,e,?_);have q:=x.cell y c e;rw[E5 l j B (by change scope.names.lookup y≠_;rw[k];decide)]at q;show q
 .show e0.hok.fresh (eK (x.above y c (qK h)))
 .unfold start;change _=N.length;rw[aR,aA,l8]
  lia
variable{an od:Option Addr}{osl:Array (Option Value)}
def E7{k:Nat}{params:Arguments}{dV kV doc pm cdv ct oc:Value}
  (E:K.lookup f=aa (oc,od,.func (i8 name qual params body scope dV kV doc pm an cdv ct),osl))(h:W.codeIn K cdv qual=ac)(S:aB N ps scope)
 (len:∀vs H Q W8,sp vs H Q W8->vs.length=ps.length)
 (a:∀ (A:b5) (outer:List Env) (s:ah) (H:Hp) (vs:LVv) (Q:VK) (W8:XK),bu k (A.deeper (fK qual scope s.heap.objs.size f cdv))->sp vs H Q W8 ->
   ∃t,PSs (ij CX P w K mg base N qual scope f cdv A outer s H W8) body t/\t {nx:=λ_ H'=>Q .non H',rt:=Q} (start N vs) H):
  cq P w K mg base CX (k+1) f (i8 name qual params body scope dV kV doc pm an cdv ct) ps sp:=by
 show(len,λA outer s H args us vs Q W8 hr e0 m r g=>?_);have j:=e0.mod.kin.keeps λb o e=>(e0.bs b o e).1
 have c:∀y∈ps.zip us,scope.names.lookup y.1=aa .local\/(scope.names.lookup y.1=aa .cell/\((cellsFrom (s.heap.objs.size+1) scope.names []).lookup y.1).isSome=ac):=λ(n,v) C=>by
  rcases S.par n (of_mem_zip C).1 with q |q
  .show .inl q
  .show .inr (q,W.cellsFrom_some _ _ _ (.inl q))
 show codeAny_call_function hr.depth (j _ _ E) rfl S.co S.gen rfl (W.codeRec_of j h) (m _ _ _ _ ?_);show wpAny_newFunctionEnv_cells S.kind c λenv p s1 x=>?_;subst p;show((e0.mod.nolimit.keeps λb o e=>(e0.bs b o e).1).keeps x.toInCall.keep,codeAny_func ?_);have(t,B,z):=a A outer s H vs Q W8 (hr.deeper _) g;have I:Inv (ij CX P w K mg base N qual scope f cdv A outer s H W8) [] _ H s1:=MO S hr.hd e0 (len _ _ _ _ g) r x;show fL (B [] s1 _ H _ I z) (λl s' d=>?_) λe s' d=>d
 have fin:∀{σ':St} {H':Hp} {v:V} {u:Value},Inv (ij CX P w K mg base N qual scope f cdv A outer s H W8) [] σ' H' s'->aC v u->Q v H'->CE outer P w H s Q u s':=
  λ{σ' H' v u} J i q=>(v,H',J.os,J.bare,J.base,J.hok,i,q)
 cases l with
 |ret u=>
  have(v,σ',H',J,i,q):=d
  show fin J i q
 |next=>
  have(σ',H',J,q):=d
  show fin (v:=V.non) J rfl q
 |brk=>
  have(_,_,_,q):=d
  show gY q
 |cont=>
  have(_,_,_,q):=d;show gY q
def tCB(r:LVv->Hp->VK->Prop)(t:TA):TE:=λE H Q=>t E H λvs H1=>r vs H1 Q
variable{r:LVv->Hp->VK->Prop}
def E8{t:TA}{id:String}(d:ie X (.builtin id) r)(g:Gl X x)(hm:X.mg x=ab)(hv:jF x=aa (.builtin id))(ha:PA X (e::es) t)(hn:autoParam (x ≠ "__name__") Zc)(a:autoParam (NDb x) Zc)
 (f:autoParam (StE X e es) Zb)(b:autoParam (BkE X pos es) Zb):PE X (.Call (.Name x p) (e::es) [] pos) (tCB r t):=by
 intro U s E H Q I h;show iX (hZ I g hm hv (xj (thn (ha pos U s E H _ I h) λus s1 (vs,H1,c,j,i)=>d U s1 E H1 vs us Q c j i) f b) hn a)
variable{T:String}
def MP{t:TA}(d:ie X (.type T) r)(g:Gl X x)(hm:X.mg x=ab)(hv:jF x=aa (.type T))(ha:PA X (e::es) t)(hn:autoParam (x ≠ "__name__") Zc)(a:autoParam (NDb x) Zc)
 (f:autoParam (StE X e es) Zb)(b:autoParam (BkE X pos es) Zb):PE X (.Call (.Name x p) (e::es) [] pos) (tCB r t):=by
 intro U s E H Q I h;show iX (hZ I g hm hv (j5 (thn (ha pos U s E H _ I h) λus s1 (vs,H1,c,j,i)=>d U s1 E H1 vs us Q c j i) f b) hn a)
end L2
namespace HT
open List
open PySem PyProof.Rows
open PySem.SeqAt
open PySem.AutoSeq1 (wpAny_loadPart')
open PySem.MeetsSeq PySem.MeetsSeq2 PySem.MeetsSeq3
abbrev sIx(n d:Nat):Option Int->Nat
 |none=>d
 |some v=>if v<0 then (v+(n:Int)).toNat else min v.toNat n
def sIx_none(n d:Nat):sIx n d ab=d:=rfl
def sIx_nat(n d k:Nat):sIx n d (aa (k:Int))=min k n:=by rfl
end HT
namespace L2
open List
open PySem PySem.Spec PyProof.Rows
nonrec def TO:=St->Hp->(Option Int->Hp->Prop)->Prop
def PO(X:Cx)(e:Option Expr)(t:TO):Prop:=
 ∀(U:PNS) (s:ah) (E:St) (H:Hp) (Q:Option Int->Hp->Prop),Inv X U E H s->t E H Q ->
  wpAny (model X.prog X.w) X.A (evalPart e X.env) (λu a=>∃o H',Inv X U E H' a/\IsPart u o/\Q o H') X.xe s
def MQ:TO:=λ_ H Q=>Q ab H
def MR(t:TE):TO:=λE H Q=>t E H λx a=>∃i,x=.int i/\Q (aa i) a
variable{ns:LI0}
def MS:∀{us:LVa},aF (ns.map V.int) us->f8 us ns:=by
 induction ns with
 |nil=>intro us r;rw[map_nil]at r;cases r;show .nil
 |cons n ns a=>
  intro us r
  cases r with
  |cons b c=>
   have(t,e):=b;subst e;show .cons n t (a c)
variable{X:Cx}
def MT:PO X ab MQ:=by
 intro U s E H Q I h;show aE (ab,H,I,.none,h)
variable{e:Expr}{te:TE}
def MU(h:PE X e te):PO X (aa e) (MR te):=by
 intro U s E H Q I c;show thn (h U s E H _ I c) λu s1 f=>?_;have(x,a,b,g,d):=f;have(i,rfl,q):=d;have(t,rfl):=g;show(aa i,a,b,.int i t,q)
variable{lo hi:Option Expr}
def SlR(X:Cx)(r:V->Option Int->Option Int->Hp->VK->Prop):Prop:=
 ∀(U:PNS) (s:ah) (E:St) (H:Hp) (x:V) (v vl a:Value) (lo hi:Option Int) (sl:Addr) (Q:VK),Inv X U E H s->aC x v->s.heap.IsSliceOf sl vl a .none->IsPart vl lo->IsPart a hi->r x lo hi H Q ->
  ∃T id,mx (.type T) "__getitem__"=pure (aa (.builtin id))/\s.TypeIs v T/\wpAny (model X.prog X.w) X.A (getItem v (.ref sl)) (EP X U E Q) X.xe s
def tSl(r:V->Option Int->Option Int->Hp->VK->Prop)(te:TE)(tl d:TO):TE:=λE H Q=>te E H λx a=>tl E a λl b=>d E b λu c=>r x l u c Q
variable{tl th:TO}{pos p2:Pos}
def MV{r:V->Option Int->Option Int->Hp->VK->Prop}(hr:SlR X r)(y:PE X e te)(A:PO X lo tl)(C:PO X hi th):PE X (.Subscript e (.Slice lo hi ab p2) pos) (tSl r te tl th):=by
 intro U s E H Q I h;show Subscript_ (thn (y U s E H _ I h) λv s1 c=>?_);have(x,g,j,Y,L):=c;show wpAny_Slice (thn (A U s1 E g _ j L) λvl s2 (l,i,m,G,M)=>thn (C U s2 E i _ m M) λd a c=>?_);have(u,f,n,J,N):=c;show aE ?_
 have p:Inv X U E f {a with heap:=a.heap.push {cls:=.type "slice",data:=.fields #[vl,d,.none]}}:=n.kept λb ob q=>bA _ q
 have(T,id,w,B,z):=hr U {a with heap:=a.heap.push {cls:=.type "slice",data:=.fields #[vl,d,.none]}} E f x v vl d l u a.heap.objs.size Q p Y (Heap.IsSliceOf.new ..) G J N
 show tail_any B w z (by with_unfolding_all rfl)
def qY(C:LVv)(lo hi:Option Int):LVv:=(C.drop (HT.sIx C.length 0 lo)).take (HT.sIx C.length C.length hi-HT.sIx C.length 0 lo)
def MW(C:LVv)(lo hi:Option Int):(qY C lo hi).length<=C.length:=by
 unfold qY;rw[length_take,length_drop]
 lia
def ixN(n:Nat)(i:Int):Option Nat:=if 0<=i then (if i<n then aa i.toNat else ab) else if -(n:Int)<=i then aa (i+n).toNat else ab
def atI{a:Type}(C:List a)(i:Int):Option a:=(ixN C.length i).bind λj=>C[j]?
variable{n j:Nat}{i:Int}
def E9(h:ixN n i=aa j):seqIndex? i n=aa j/\j<n/\-(n:Int)<=i/\i<n:=by
 unfold ixN at h
 by_cases b:0<=i
 .rw[if_pos b]at h
  by_cases a:i<n
  .rw[if_pos a]at h;have e:=dh h;show(by rw[seqIndex_of b a,e],by lia,by lia,a)
  .rw[if_neg a]at h;nomatch h
 .rw[if_neg b]at h
  by_cases a:-n<=i
  .rw[if_pos a]at h;have e:=dh h;show(by rw[seqIndex_neg (by lia) a,e],by lia,a,by lia)
  .rw[if_neg a]at h;nomatch h
def Fa{a:Type}{C:List a}{v:a}(h:atI C i=aa v):∃j,seqIndex? i C.length=aa j/\C[j]?=aa v/\j<C.length/\-(C.length:Int)<=i/\i<C.length:=by
 unfold atI at h
 cases e:ixN C.length i with
 |none=>rw[e]at h;nomatch h
 |some j=>
  rw[e]at h;have(b,h2,c,d):=E9 e;show(j,b,h,h2,c,d)
def MX{a:Type}{C:List a}{v:a}(h:C[j]?=aa v):atI C (j:Int)=aa v:=by
 have b:=(cX.mp h).1
 have e:ixN C.length j=aa j:=by
  unfold ixN;rw[if_pos (by lia),if_pos (by lia)];simp
 unfold atI;rw[e];show h
def Fb(b:Expr):Prop:=∀o i,subscripted b af o i=operate [o,i] (getItem o i)
def IxR(X:Cx)(r:R2):Prop:=
 ∀(value a:Expr) (U:PNS) (s:ah) (E:St) (H:Hp) (x y:V) (v u:Value) (Q:VK),Inv X U E H s->aC x v->aC y u->r x y H Q ->
  subscripted a af v u=operate [v,u] (getItem v u)->wpAny (model X.prog X.w) X.A (subscriptTail value a v u) (EP X U E Q) X.xe s
def MtR(X:Cx)(id:String)(r:V->LVv->Hp->VK->Prop):Prop:=
 ∀(U:PNS) (s:ah) (E:St) (H:Hp) (x:V) (C:LVv) (v:Value) (us:LVa) (Q:VK),Inv X U E H s->aC x v->aF C us->r x C H Q ->
  wpAny (model X.prog X.w) X.A (call (.builtin id) (v::us)) (EP X U E Q) X.xe s
variable{r r':R2}
def IxR.or(h:IxR X r)(h':IxR X r'):IxR X (λx y H Q=>r x y H Q\/r' x y H Q):=by
 intro value a U s E H x y v u Q I c d q b
 rcases q with q |q
 .show h value a U s E H x y v u Q I c d q b
 .show h' value a U s E H x y v u Q I c d q b
variable{a b:Expr}{ta tb:TE}
def Fc(hr:IxR X r)(ha:PE X a ta)(e:PE X b tb)(f:Fb b):PE X (.Subscript a b pos) (tOp r ta tb):=by
 intro U s E H Q I h;show Subscript_ (xR ha e I h λv u s2 x y c d g i q=>hr a b U s2 E c x y v u Q d g i q (f _ _))
def MY(K:aQ):R2:=λx y H Q=>∃p C i v,x=.ref p/\y=.int i/\SqL K H p C/\atI C i=aa v/\Q v H
def MZ(K:aQ):R2:=λx y H Q=>∃p C i v,x=.ref p/\y=.int i/\SqT K H p C/\atI C i=aa v/\Q v H
def M0:IxR X (MY X.K):=by
 intro value e U s E H x y v u Q I J M h l;have(p,C,i,z,rfl,rfl,G,A,q):=h;subst J;have(t,rfl):=M;have(L,r,c,hz):=I.list G;have(j,a,h2,N,m,n):=Fa A;have(w,f,d):=r.get h2;have B:=r.length;have hn:=qW;have fin:EP X U E Q w s:=(z,H,I,d,q)
 by_cases g:0<=i
 .have b:i.toNat=j:=by
   rw[seqIndex_of g n]at a;show dh a
  show item_listR c.isList g (by lia) (by rw[b];simpa using f) fin l
 .have b:(i+L.toArray.size).toNat=j:=by
   rw[seqIndex_neg (by lia) m]at a;rw[size_toArray,<- B];show dh a
  show subscriptTail_builtinR c.isList.typeIs slot_list_getitem.lookup
   (wpAny_getItem_list_neg c.isList (by lia) (by rw[size_toArray] <;> lia) (by lia) (by rw[b];simpa using f) (rfl,fin)) l
def Fd:IxR X (MZ X.K):=by
 intro value b U s E H x y v u Q I m n h l;have(p,C,i,z,rfl,rfl,g,f,q):=h;subst m;have(t,rfl):=n;have(L,r,c,hz):=I.tuple g;have(j,e,h2,A,B,G):=Fa f;have(w,d,a):=r.get h2;have hn:=qW;have fin:EP X U E Q w s:=(z,H,I,a,q)
 show subscriptTail_builtinR c.typeIs slot_tuple_getitem.lookup
  (getItem_tuple c (by lia) (by lia) (by rw[size_toArray,<- r.length];show e) (by simpa using d) (rfl,fin)) l
def M1(L:LVa)(n j:Nat)(u:Value):hX (·.setIfInBounds j u) {cls:=.type "list",data:=.seq L.toArray n}={cls:=.type "list",data:=.seq (L.set j u).toArray n}:=by
 simp[hX]
variable{U:PNS}{E:St}{H:Hp}{p:Addr}{C:LVv}
def Inv.lst{s:ah}(I:Inv X U E H s)(h:H p=aa (.lst C)):
  ∃(L:LVa) (n:Nat),aF C L/\s.heap.get? p=aa {cls:=.type "list",data:=.seq L.toArray n}/\C.length<=aS:=by
 have(z,L,n,r,e):=I.hok p _ h;show(L,n,r,e,z)
variable{ys:LVv}{L dy:LVa}{n':Nat}
def Inv.lstUpd{s:ah}{f:Obj->Obj}(I:Inv X U E H s)(h:H p=aa (.lst C))
 (d:s.heap.get? p=aa {cls:=.type "list",data:=.seq L.toArray n})(a:f {cls:=.type "list",data:=.seq L.toArray n}={cls:=.type "list",data:=.seq dy.toArray n'})(r:aF ys dy)(hz:ys.length<=aS)(t:Nat):
  Inv X U E (upd H p (.lst ys)) {s with heap:=s.heap.update p f,toks:=t}:=by
 have e:(s.heap.update p f).get? p=aa {cls:=.type "list",data:=.seq dy.toArray n'}:=by
  rw[oI f d (by rw[a] <;> rfl),a]
 show I.write (by rw[h];trivial) (.inl rfl) (λb u c q=>(oH _ _ (eM c)).trans q) (_,e) (hz,dy,n',r,e)
abbrev ya:V->V->V->Hp->(Hp->Prop)->Prop:=λo i v H Q=>∃p C k j,o=.ref p/\i=.int k/\H p=aa (.lst C)/\ixN C.length k=aa j/\Q (upd H p (.lst (C.set j v)))
def yb:EE X ya:=by
 intro U s E H o i v B A u Q I y x z h;have(p,C,k,j,rfl,rfl,m,w,q):=h;subst y;have(t,rfl):=x;have(L,n,r,d,hz):=I.lst m;have(a,h2,g,l):=E9 w;have c:=r.length;have hn:=qW
 have e:Inv X U E _ {s with heap:=s.heap.update p _}:=
  I.lstUpd m d (M1 L n j u) (r.set z j) (by rw[iy];show hz) s.toks
 by_cases f:0<=k
 .have b:k.toNat=j:=by
   rw[seqIndex_of f l]at a;show dh a
  show W.ki_setAt d f (by lia) (by rw[size_toArray,<- c];show l) (by rw[b];show(_,e,q))
 .have b:(k+L.toArray.size).toNat=j:=by
   rw[seqIndex_neg (by lia) g]at a;rw[size_toArray,<- c];show dh a
  show W.ki_setBack d (by lia) (by rw[size_toArray,<- c];show g) (by lia) (by rw[b];show(_,e,q))
def M3(lo hi:Option Int)(n:Nat):(mw lo hi ab n).1=((HT.sIx n 0 lo:Nat):Int)/\(mw lo hi ab n).2.1=((HT.sIx n n hi:Nat):Int)/\(mw lo hi ab n).2.2=1:=by
 show(?_,?_,rfl)
 .cases lo with
  |none=>simp[mw,HT.sIx]
  |some i=>
   simp only[mw,HT.sIx,Option.getD_none]
   grind
 .cases hi with
  |none=>simp[mw,HT.sIx]
  |some i=>
   simp only[mw,HT.sIx,Option.getD_none]
   grind
def M4(L:LVa)(lo hi:Option Int):slicePick L.toArray lo hi ab=((L.drop (HT.sIx L.length 0 lo)).take (HT.sIx L.length L.length hi-HT.sIx L.length 0 lo)).toArray:=by
 have(a,h2,b):=M3 lo hi L.toArray.size;unfold slicePick;rw[a,h2,b]
 simp only[sliceRange_one,pick_run] <;> rfl
abbrev M5(K:aQ):V->Option Int->Option Int->Hp->VK->Prop:=λx lo hi H Q=>∃a C,x=.ref a/\SqL K H a C/\∀p,H p=ab->Q (.ref p) (upd H p (.lst (qY C lo hi)))
def M6:SlR X (M5 X.K):=by
 intro U s E H x v vl m lo hi sl Q I j e g i h;have(a,C,rfl,f,q):=h;subst j;have(L,r,d,hz):=I.list f;have c:=r.length;show("list",_,slot_list_getitem.lookup,d.isList.typeIs,?_);show wpAny_getItem_list_slice d.isList e g i .none (by simp) ?_ (by grind);rw[M4,<- c];show(.ref s.heap.objs.size,_,I.laid (λb l q=>bA _ q) (aL _) ?_,rfl,q _ (I.hok.fresh (aL _)));show(cS (MW C lo hi) hz,_,0,(r.drop _).take _,cL _ rfl)
abbrev fP:V->Bool
 |.non=>ac
 |.bl _=>ac
 |.int _=>ac
 |.str _=>ac
 | _=>af
abbrev eqV:V->V->Bool
 |.non,.non=>ac
 |.bl a,.bl b=>a==b
 |.bl a,.int b=>(if a then 1 else 0)==b
 |.int a,.bl b=>a==(if b then 1 else 0)
 |.int a,.int b=>a==b
 |.str a,.str b=>a==b
 | _,_=>af
variable{A:b5}{y x:V}{u v:Value}
def Fe{s:ah}(e:aC y u)(c:aC x v)(f:fP y=ac)(d:fP x=ac):cx A s u v (eqV y x):=by
 cases y with
 |non=>
  cases e
  cases x with
  |non=>subst c;show xC _
  |bl b=>subst c;show cx.none_bool b
  |int b=>have(t,rfl):=c;show cx.none_int b t
  |str b=>have(t,rfl):=c;show cx.none_str b t
  | _=>show absurd (d) bJ
 |bl a=>
  subst e
  cases x with
  |non=>subst c;show cx.bool_none a
  |bl b=>subst c;show cx.bool_bool a b
  |int b=>have(t,rfl):=c;show cx.bool_int a b t
  |str b=>have(t,rfl):=c;show cx.bool_str a b t
  | _=>show absurd (d) bJ
 |int a=>
  have(t',rfl):=e
  cases x with
  |non=>subst c;show cx.int_none a t'
  |bl b=>subst c;show cx.int_bool a t' b
  |int b=>have(t,rfl):=c;show cx.int_int a t' b t
  |str b=>have(t,rfl):=c;show xA a t' b t
  | _=>show absurd (d) bJ
 |str a=>
  have(t',rfl):=e
  cases x with
  |non=>subst c;show cx.str_none a t'
  |bl b=>subst c;show cx.str_bool a t' b
  |int b=>have(t,rfl):=c;show xB a t' b t
  |str b=>have(t,rfl):=c;show cx.str_str a t' b t
  | _=>show absurd (d) bJ
 | _=>show absurd (f) bJ
def eqU(x:V)(u:Value):Bool:=match u with
 |.none=>eqV .non x
 |.bool b=>eqV (.bl b) x
 |.int i _=>eqV (.int i) x
 |.str z _=>eqV (.str z) x
 | _=>af
def Ff(r:aC y u)(f:fP y=ac):eqU x u=eqV y x:=by
 cases y with
 |non=>subst r;rfl
 |bl b=>subst r;rfl
 |int i=>have(t,rfl):=r;rfl
 |str z=>have(t,rfl):=r;rfl
 | _=>show absurd (f) bJ
def qZ{x:V}:∀{C:LVv} {us:LVa},aF C us->C.all fP=ac->us.any (eqU x)=C.any λy=>eqV y x
 | _,_,.nil,_=>rfl
 |y::C,u::us,.cons r t,f=>by
  rw[k5,ca]at f;rw[gz,gz,Ff r f.1,qZ t f.2]
def q5{A:b5}{s:ah}{x:V}{v:Value}(c:aC x v)(b:fP x=ac):∀{C:LVv} {us:LVa},aF C us->C.all fP=ac->∀u∈us,cx A s u v (eqU x u)
 | _,_,.nil,_=>λu a=>by nomatch a
 |y::C,u::us,.cons r t,f=>λd a=>by
  simp only[k5,ca]at f
  rcases aX.mp a with rfl |a
  .rw[Ff r f.1];show Fe r c f.1 b
  .show q5 c b t f.2 d a
def inV(x:V)(C:LVv):Bool:=C.any λy=>eqV y x
def rIn(K:aQ)(neg:Bool):R2:=λx y H Q=>∃p C,y=.ref p/\(SqL K H p C\/SqT K H p C)/\fP x=ac/\C.all fP=ac/\Q (.bl (if neg then !inV x C else inV x C)) H
def M7:OpR X (cK .In) (rIn X.K af):=by
 intro U s E H x y v u Q I e f h;have(p,C,rfl,a,d,fs,q):=h;subst f
 rcases a with a |a
 .have(L,r,c,hz):=I.list a;show SeqAt.in_listAt _ c.isList (λw b=>q5 e d r fs w (by simpa using b)) (.bl _,H,I,rfl,?_);rw[show L.toArray.any _=L.any (eqU x) by simp,qZ r fs];show q
 .have(L,r,c,hz):=I.tuple a;show SeqAt.in_tupleAt _ c (λw b=>q5 e d r fs w (by simpa using b)) (.bl _,H,I,rfl,?_);rw[show L.toArray.any _=L.any (eqU x) by simp,qZ r fs];show q
def M8:OpR X (cK .NotIn) (rIn X.K ac):=by
 intro U s E H x y v u Q I e f h;have(p,C,rfl,a,d,fs,q):=h;subst f
 rcases a with a |a
 .have(L,r,c,hz):=I.list a;show SeqAt.notIn_listAt _ c.isList (λw b=>q5 e d r fs w (by simpa using b)) (.bl _,H,I,rfl,?_);rw[show L.toArray.any _=L.any (eqU x) by simp,qZ r fs];show q
 .have(L,r,c,hz):=I.tuple a;show SeqAt.notIn_tupleAt _ c (λw b=>q5 e d r fs w (by simpa using b)) (.bl _,H,I,rfl,?_);rw[show L.toArray.any _=L.any (eqU x) by simp,qZ r fs];show q
def M9:ie X (.builtin "len") (λC H Q=>∃p ys,C=[.ref p]/\(SqL X.K H p ys\/SqT X.K H p ys)/\Q (.int ys.length) H):=by
 intro U s E H C us Q I r h;have(p,ys,rfl,b,q):=h;have(u,rfl,d):=lz r;subst d;have hn:=qW
 rcases b with b |b
 .have(L,r',c,hz):=I.list b;have a:=r'.length;show Calls.call_len_list c.isList (by grind) (.int ys.length,H,I.tok _,(s.toks+1,by rw[size_toArray,a]),q)
 .have(L,r',c,hz):=I.tuple b;have a:=r'.length;show len_tuple c (by grind) (.int ys.length,H,I.tok _,(s.toks+1,by rw[size_toArray,a]),q)
def Na:ie X (.builtin "len") (λC H Q=>∃z,C=[.str z]/\z.length<=aS/\Q (.int z.length) H):=by
 intro U s E H C us Q I r h;have(z,rfl,hz,q):=h;have(u,rfl,t,rfl):=lz r;have hn:=qW;show len_str (by lia) (.int z.length,H,I.tok _,(_,rfl),q)
def Nb:ie X (.type "list") (λC H Q=>∃p ys,C=[.ref p]/\(SqL X.K H p ys\/SqT X.K H p ys)/\∀l,H l=ab->Q (.ref l) (upd H l (.lst ys))):=by
 intro U s E H C us Q I r h;have(p,ys,rfl,c,q):=h;have(u,rfl,i):=lz r;subst i
 have fin:∀L,aF ys L->ys.length<=aS->∀h' a,_ ->
   h'.get? s.heap.objs.size=aa {cls:=.type "list",dict:=ab,data:=.seq L.toArray a,slots:=#[]}->EP X U E Q _ {s with heap:=h'}:=λL r' hz h' a kp e=>
  (.ref s.heap.objs.size,_,I.laid kp (aL _) (show dQ X.prog X.w _ h' _ (.lst ys)from(hz,L,a,r',e)),rfl,q _ (I.hok.fresh (aL _)))
 rcases c with c |c
 .have(L,r',g,hz):=I.list c;have b:=r'.length;have(o,f,d,n,hd):=g.isList;show call_list_seq p (.inl rfl) f d hd (λh' a kp e=>fin L r' hz h' a kp e) (by grind)
 .have(L,r',g,hz):=I.tuple c;have b:=r'.length;have(o,f,d,n,hd):=g;show call_list_seq p (.inr rfl) f d hd (λh' a kp e=>fin L r' hz h' a kp e) (by grind)
def tyV(K:aQ)(T:String)(x:V)(H:Hp):Prop:=match x with
 |.str _=>T="str"
 |.int _=>T="int"
 |.ref p=>(T="list" /\ ∃C,SqL K H p C)\/(T="tuple" /\ ∃o,K.lookup p=aa o/\o.cls=.type "tuple" /\ o.dict=ab) \/
   (T="dict" /\ ((∃kvs,H p=aa (.dK kvs))\/∃kvs,H p=aa (.dT kvs)))\/(T="set" /\ ∃S n,H p=aa (.set S n))
 | _=>False
variable{T:String}
def Nd{s:ah}(I:Inv X U E H s)(r:aC x v)(ty:tyV X.K T x H):
  s.TypeIs v T/\∀a,v=.ref a->∃f,s.heap.get? a=aa f/\f.dict=ab:=by
 cases x with
 |str z=>
  have(t,rfl):=r;cases (ty)
  show⟨typeIs_str s z t,λ_ e=>nomatch e⟩
 |int i=>
  have(t,rfl):=r;cases (ty)
  show⟨typeIs_int s i t,λ_ e=>nomatch e⟩
 |ref p=>
  subst r
  rcases ty with⟨rfl,C,j⟩ |⟨rfl,o,b,h,hd⟩ |⟨rfl,b⟩ |⟨rfl,S,n,b⟩
  .have(L,_,g,_):=I.list j;show(g.isList.typeIs,λa e=>?_);cases e;have(o,n,e,c,hd,_):=g;show(o,e,hd)
  .show((o,I.kIn p o b,h),λa e=>?_);cases e;show(o,I.kIn _ o b,hd)
  .have z:∃o,s.heap.get? p=aa o/\o.ExactDict:=by
    rcases b with⟨kvs,b⟩ |⟨kvs,b⟩
    .have(_,_,_,_,o,_,_,e,ex,_):=I.hok p _ b;show(o,e,ex)
    .have(_,_,_,_,o,_,_,e,ex,_):=I.hok p _ b;show(o,e,ex)
   have(o,e,ex):=z;show((o,e,ex.1),λa d=>?_);cases d;show(o,e,ex.2.1)
  .have(o,_,_,_,e,ex,_):=I.hok p _ b;show((o,e,ex.1),λa d=>?_);cases d
   show(o,e,ex.2.1)
 | _=>show gY ty
def tBM(K:aQ)(T:String)(r:V->LVv->Hp->VK->Prop)(to:TE)(t:TA):TE:=λE H Q=>to E H λx a=>tyV K T x a/\t E a λC b=>r x C b Q
variable{es:LEx}{name:Str}{apos cpos:Pos}{r:V->LVv->Hp->VK->Prop}
def jd{o:Expr}{to:TE}{t:TA}{id:String}(pa:PlainAttrs T)(slot:Slot T name id)(f:typeOf (.builtin id)=pure (.type "method_descriptor"))(hm:MtR X id r)(q:PE X o to)(ha:PA X (e::es) t)
 (b:autoParam (oC o name X.env (eval o X.env)=eval o X.env) Zb)
 (d:autoParam (((cg cpos (aM (e::es) X.env)).all (λx=>!x.1) && (iA cpos (iz [] X.env)).all (λx=>x.1.isSome)
   && decide ((e::es).length+([]:List Keyword).length+(if ([]:List Keyword).isEmpty then 0 else 1)<30))=ac) Zb)
 (c:autoParam ((apos.endLine==cpos.line)=ac) Zb)(u:autoParam (StE X e es) Zb)(a:autoParam ((cg cpos (aM es X.env)).any (·.1)=af) Zb):
  PE X (.Call (.Attribute o name apos) (e::es) [] cpos) (tBM X.K T r to t):=by
 intro U s E H Q I h;show wpAny_Call_method_late b d c rfl (thn (q U s E H _ I h) λv s1 z=>?_);have(x,l,g,j,ty,w):=z;have(p,h2):=Nd g j ty;show(T,id,pa,slot,f,p,h2,?_);have i:=ha cpos U s1 E l _ g w;rw[u]at i ⊢
 show xm (by change(af || (cg cpos _).any (·.1))=af;rw[a] <;> rfl) (xn (thn i λus s2 (vs,m,n,A,y)=>hm U s2 E m x vs v us Q n j A y))
def MtM(X:Cx)(id:String)(r:V->LVv->Hp->VK->Prop):Prop:=
 ∀(U:PNS) (s:ah) (E:St) (H:Hp) (x:V) (C:LVv) (v:Value) (us:LVa) (Q:VK),Inv X U E H s->aC x v->aF C us->r x C H Q ->
  wpAny (model X.prog X.w) X.A (call (.builtin id) (v::us)) (EP X U E Q) X.xe s
def aF.one:∀{x:V} {us:LVa},aF [x] us->∃u,us=[u]/\aC x u:=λh=>by
 cases h with
 |cons r h=>
  cases h;show(_,rfl,r)
def aF.two:∀{x y:V} {us:LVa},aF [x,y] us->∃u v,us=[u,v]/\aC x u/\aC y v:=λh=>by
 cases h with
 |cons r h=>
  cases h with
  |cons q h=>
   cases h;show(_,_,rfl,r,q)
def aF.eraseIdx:∀{C:LVv} {us:LVa} (i:Nat),aF C us->aF (C.eraseIdx i) (us.eraseIdx i)
 | _,_,_,.nil=>.nil
 | _,_,0,.cons _ t=>t
 | _,_,i+1,.cons r t=>.cons r (aF.eraseIdx i t)
variable{us:LVa}
def aF.reverse(h:aF C us):aF C.reverse us.reverse:=by
 induction h with
 |nil=>show .nil
 |cons r t a=>rw[iW,iW];show aF.append a (.cons r .nil)
def yc{a:Type}:∀(l:List a) (i:Nat),(l.eraseIdx i).length<=l.length
 | [],_=>aL _
 | _::_,0=>j4 _
 | _::r,i+1=>Nat.succ_le_succ (yc r i)
variable{l:Addr}{t':Nat}
section
variable{s:ah}
def Inv.lset{f:Array Value->Array Value}(I:Inv X U E H s)(a:H l=aa (.lst C))
 (e:s.heap.get? l=aa {cls:=.type "list",data:=.seq L.toArray n})(c:f L.toArray=dy.toArray)(hv:aF ys dy)(hz:ys.length<=aS):
  Inv X U E (upd H l (.lst ys)) {s with heap:=s.heap.update l (hX f),toks:=t'}:=by
 have q:=PySem.IsL.update e f;rw[c]at q;show I.write (by rw[a];show trivial) (.inl rfl) (λg u b d=>(oH s.heap _ (eM b)).trans d) (_,q) (hz,dy,_,hv,q)
end
section
variable{s:ah}
def Inv.lnew(I:Inv X U E H s)(hv:aF ys L)(hz:ys.length<=aS):
  Inv X U E (upd H s.heap.objs.size (.lst ys)) {s with heap:=s.heap.push {cls:=.type "list",data:=.seq L.toArray},toks:=t'}:=
 I.laid (λ_ _ q=>bA _ q) (aL _) (hz,L,0,hv,cL _ rfl)
end
def Inv.fresh{s:ah}(I:Inv X U E H s):H s.heap.objs.size=ab:=I.hok.fresh (aL _)
def Inv.lstM{s:ah}(I:Inv X U E H s)(a:H l=aa (.lst C)):C.length<=aS/\∃(L:LVa) (n:Nat),aF C L/\C.length=L.length/\s.heap.get? l=aa {cls:=.type "list",data:=.seq L.toArray n}:=by
 have(z,L,n,r,e):=I.hok l _ a;show(z,L,n,r,r.length,e)
def Nf(h:n<=aS):Er n=af:=by
 show decide_eq_false (by lia)
abbrev ur:V->LVv->Hp->VK->Prop:=λx vs H Q=>∃l C y,x=.ref l/\vs=[y]/\H l=aa (.lst C)/\C.length<aS/\Q .non (upd H l (.lst (C++[y])))
def yd:MtM X "list.append" ur:=by
 intro U s E H x vs v us Q I c b h;have(l,C,y,rfl,rfl,a,hz,q):=h;subst c;have(u,rfl,ru):=b.one;have(z,L,n,r,d,e):=I.lstM a;show oG F.slot_list_append (_,e,rfl) F.entry_list_append (F.args_list_append_2 _ _) (PySem.list_append l L.toArray n u (by rw[size_toArray];lia)) (e,?_);show(.non,_,I.lset a e (by simp) (r.append (.cons ru .nil)) ?_,rfl,q);rw[aR,fH]
 lia
abbrev yf:V->LVv->Hp->VK->Prop:=λx vs H Q=>∃l b C a,x=.ref l/\vs=[.ref b]/\H l=aa (.lst C)/\H b=aa (.lst a)/\C.length+a.length<=aS/\Q .non (upd H l (.lst (C++a)))
def yg:MtM X "list.extend" yf:=by
 intro U s E H x vs v us Q I w p h;have(l,b,C,B,rfl,rfl,f,hB,hz,q):=h;subst w;have(u,rfl,ru):=p.one;subst ru;have(z,L,n,r,y,e):=I.lstM f;have(A,a,j,m,i,g):=I.lstM hB;have d:L.toArray.size+a.toArray.size<=aS:=by grind
 have c:¬(!L.toArray.isEmpty && Er (L.toArray.size+a.toArray.size))=ac:=by
  rw[Nf d,tI]
  grind
 show oG F.slot_list_extend (_,e,rfl) F.entry_list_extend (F.args_list_extend_2 _ _)
  (AutoSeq1.list_extend_list_list_0 l L.toArray n b a.toArray j c (by grind) (by lia)) (e,g,?_)
 show(.non,_,I.lset f e (by simp) (r.append m) ?_,rfl,q)
 grind
abbrev Fg:V->LVv->Hp->VK->Prop:=λx vs H Q=>∃l C i k y,x=.ref l/\vs=[.int i]/\H l=aa (.lst C)/\-(2 ^ 63)<=i/\i<2 ^ 63/\seqIndex? i C.length=aa k/\C[k]?=aa y/\Q y (upd H l (.lst (C.eraseIdx k)))
def Ng:MtM X "list.pop" Fg:=by
 intro U s E H x vs v us Q I p m h;have(l,C,i,k,y,rfl,rfl,b,c,h2,d,j,q):=h;subst p;have(u,rfl,ru):=m.one;have(t,rfl):=ru;have(z,L,n,r,f,e):=I.lstM b;have(w,g,a):=r.get j
 show oG F.slot_list_pop (_,e,rfl) F.entry_list_pop (F.args_list_pop_2 _ _)
  (MeetsSeq.list_pop_at l L.toArray n i t k w (fitsIndex_both c h2) (by rw[size_toArray,<- f];show d) (by rw[<- qw];show g) (by rw[size_toArray];lia)) (e,?_)
 show(y,_,I.lset b e ?_ (r.eraseIdx k) ?_,a,q)
 .change L.toArray.eraseIdxIfInBounds k=(L.eraseIdx k).toArray;rw[eraseIdxIfInBounds_toArray]
 .have:=yc C k
  lia
def Nh:R2:=λx y H Q=>∃l b C a,x=.ref l/\y=.ref b/\H l=aa (.lst C)/\H b=aa (.lst a)/\C.length+a.length<=aS/\∀p,H p=ab->Q (.ref p) (upd H p (.lst (C++a)))
def Fh:OpR X (fM .Add) Nh:=by
 intro U s E H x y v u Q I j m h;have(l,b,C,B,rfl,rfl,f,hB,hz,q):=h;subst j;subst m;have(z,L,n,r,p,e):=I.lstM f;have(A,a,w,i,g,c):=I.lstM hB;show PySem.P.add_list e c ?_ (by grind);have d:L.toArray++a.toArray=(L++a).toArray:=by simp
 rw[d];show(.ref _,_,I.lnew (r.append i) (by grind),rfl,q _ I.fresh)
end L2
namespace Att
open List
open PySem PySem.W PySem.Calls PyProof.Rows
variable{P:Params}{h:Heap}
def Ni:∀(ns:LI0) (vs:LVa),WellAll P h vs (ns.map WData.int)->f8 vs ns:=by
 intro ns
 induction ns with
 |nil=>
  intro vs w;cases w
  show .nil
 |cons n ns c=>
  intro vs w
  cases w with
  |cons a b=>
   cases a;show .cons _ _ (c _ b)
variable{l:OpenLaw}{n:Nat}{vals:LVa}
def Nj(hn:l.most=aa n){args:List WData}
 (b:l.row.toRowW.claim.pre args=ac)(g:WellAll P h vals args):
  ∃a vs ns,vals=[eQ a]/\args=[WData.list (ns.map WData.int)]/\h.get? a=aa {cls:=.type "list",data:=.seq vs.toArray}/\f8 vs ns/\ns.length<=n:=by
 have(d,r,rfl,i,h2):=hasAllW_cons ((pre_splitW b).1);obtain rfl:=hasAllW_nil h2;have(C,rfl,j):=hasW_list i;have(ns,rfl):=items_int j
 have e:ns.length<=n:=by
  have f:(WTm.not (.lt (.lit (.int n)) (.len (.arg 0)))).holds [] {args:=[.list (ns.map .int)]}=ac:=by
   have f:=(holds_andW ((pre_splitW b).2)).1;rw[hn]at f;show f
  have u:=condW_of f (w_not (w_lt w_lit (w_len_list (w_arg rfl))))
  grind
 cases g with
 |cons p q=>
  cases q
  cases p with
  |list m c=>show(_,_,ns,rfl,rfl,m,Ni ns _ c,e)
def Nk(l:OpenLaw)(args:List WData):l.row.toRowW.claim.post args (.bool ac) args=ac:=
 postW_of
  (show WShape.has [] _ .bool=ac by first |rfl |decide |simp[WShape.has])
  (w_eq_bool (w_res rfl) w_lit) rfl
variable{q:cf}{dm:LSt}{XP:MGT->Heap->Prop}{YP:World->Heap->Prop}{d:DefRec}
def attach_call
 (hn:l.most=aa n)(p:d.params.defaults=[])
 (call:∀ (w:World) (s₀ b:ah) (mg mb:MGT) (fa:Addr) (o:Obj) (pm i doc:Value) (a:Addr) (vs:LVa) (ns:LI0),
   Ground q dm [] XP w s₀ mg mb b.heap->YP w b.heap ->
   b.heap.get? fa=aa o->o.data=.func (docDef d.name d.params d.body d.scope pm i doc)->b.heap.CodeRec i d.name->mg d.name=aa (.ref fa) ->
   b.heap.get? a=aa {cls:=.type "list",data:=.seq vs.toArray}->f8 vs ns->ns.length<=n->b.gens=#[] ->
   gC (model l.prog w) callerA (.call (.ref fa) ([.ref a],[])) (λr j=>r=.ok (.ret (.bool ac))/\OldK b.heap j.heap/\j.os=b.os/\j6 j.gens) b):
  WalkO q dm XP YP l.row.toRowW d [] (λf vs=>PySem.call f vs):=by
 intro w s₀ b mg mb G Y fa o pm i doc dV kV E hd m x u B args vals as h y I v C;obtain rfl:dV=.none:=Dflts.none x p;obtain rfl:kV=.none:=Dflts.noKw x;have(a,vs,ns,rfl,rfl,g,c,e):=Nj hn h v;show enter_call (lc (call w s₀ b mg mb fa o pm i doc a vs ns G Y E (fd_plain hd) m u g c e B) λr j H=>?_);have(rfl,h2,z,A):=H;show(.inl (.bool ac,.bool ac,[],rfl,λ_=>rfl,.bool ac,Nk l _,λ_=>(List.Pairwise.nil,λ_ hm=>(nomatch hm))),h2,z,A)
end Att
namespace L2
open List
open PySem PySem.Spec PyProof.Rows
def Fi:∀{vs:LVa} {ns:LI0},f8 vs ns->aF (ns.map V.int) vs
 | _,_,.nil=>.nil
 | _,_,.cons n t h=>.cons (t,rfl) (Fi h)
def ut(H:Hp):Prop:=∀b,H b=ab\/∃o C,H b=aa (.frz o (.lst C))
variable{P:cf}{w:World}{K:aQ}{mg:MGT}{a:Addr}{fd:cT}{x:Str}{ns:LI0}
def Nl{mb:MGT}{CX:CXT}{k:Nat}{fa:Addr}{sp:Sp}{c:ah}{vs:LVa}
 (T:K.In c.heap)(B:c.heap.Ns cC mg)(p:c.heap.Ns builtinsNs mb)(J:∀x:Str,x ≠ "__name__" -> mb x=jF x)(A:c.heap.NoLimit)(hg:c.gens=#[])
 (ha:c.heap.get? a=aa {cls:=.type "list",data:=.seq vs.toArray})(hi:f8 vs ns)(hl:ns.length<=aS)(hr:bu k callerA)
 (F:∀base:Heap,K.In base->base.Ns cC mg->cq P w K mg base CX k fa fd [x] sp)(l:∀(s:ah) (u:Value),BindsTo s fd ([u],[]) [(x,u,)])
 (M:∀H:Hp,ut H->SqL K H a (ns.map V.int)->sp [.ref a] H (λv _=>v=.bl ac) λ_ _ _=>False)
 (I:∀H e g,CX [] H c (λ_ _ _=>False) e g->False):
  gC (model P w) callerA (.call (.ref fa) ([.ref a],[])) (λr g=>r=.ok (.ret (.bool ac))/\OldK c.heap g.heap/\g.os=c.os/\j6 g.gens) c:=by
 have rv:=Fi hi
 have j:∀H:Hp,ut H->SqL K H a (ns.map V.int)->HOk P w H c.heap->(∀b,H b≠ab->b=a)->(H a≠ab->K.lookup a=ab) ->
   gC (model P w) callerA (.call (.ref fa) ([.ref a],[])) (λr g=>r=.ok (.ret (.bool ac))/\OldK c.heap g.heap/\g.os=c.os/\j6 g.gens) c:=by
  intro H U hS hok hA hK;have f:∀{b:Addr} {o:Obj},c.heap.get? b=aa o->H b=ab->(oO c.heap H).get? b=aa o:=λe n=>K9 e n
  have N:∀{b:Addr} {o:Obj} {es:Array DictEntry} {G:Nat},c.heap.get? b=aa o->o.data=.dict es G->H b=ab:=λ{b o es G} e d=>by
   grind
  have i:∀{b:Addr} {m:MGT},c.heap.Ns b m->(oO c.heap H).Ns b m:=λ{b m} (o,es,G,e,d,r)=>(o,es,G,f e (N e d),d,r)
  have y:=λb o e=>f (T b o e) (by
   cases q:H b with
   |none=>rfl
   |some u=>
    have e':=hA b (by grind);subst e';rw[hK (by grind)]at e;nomatch e)
  have hM:Mod K mg _:=(y,i B,(mb,i p,J),let (mc,h1,h2):=A;(mc,i h1,h2));have e0:mM P w K mg _ callerA [] c H:=(rfl,hM,λb o e=>La e,Nat.le_of_eq (K8 _ _),trivial,λb p=>absurd (show b∈([]:LAd)from p) (by simp),hok,.of_eq hg);show lc ((F _ y (i B)).run callerA [] c H ([.ref a],[]) _ [.ref a] _ _ hr e0 (l c _) (.cons rfl .nil) (M H U hS)) λr g h=>?_
  cases r with
  |error e=>show(I H e g h).elim
  |ok Y=>
   cases Y with
   |next=>show gY h
   |brk=>show gY h
   |cont=>show gY h
   |ret u=>
    have(v,H',os,bare,un,E,r',q):=h;subst q;obtain rfl:u=iB ac:=r';show(rfl,OldK.of_keep λb o e=>?_,os,bare)
    cases q:H b with
    |none=>show un.keep b o e q (by intro z;show absurd (show b∈([]:LAd)from z) (by simp)) (by simp)
    |some u=>
     rcases U b with z |⟨ob,C,z⟩
     .grind
     .have z2:=un.frzs b ob _ z;have(e1,_):=hok b _ z;have(e2,_):=E b _ z2
      grind
 cases L:K.lookup a with
 |some o=>
  have e:=T a o L;rw[ha]at e;cases e
  show j _ (λ_=>.inl rfl) (.inr (_,vs.toArray,_,L,rfl,rfl,rfl,by rw[size_toArray,hi.length];grind)) (λb u z=>by have Q:_=aa u:=z;nomatch Q) (λb z=>absurd rfl z) λz=>absurd rfl z
 |none=>
  show j (λb=>if b=a then aa _ else ab) (λb=>?_) (.inl (.inr ({cls:=.type "list",data:=.seq vs.toArray},if_pos rfl))) (λb u z=>?_) (λb z=>?_) λ_=>L
  .grind
  .by_cases p:b=a
   .have Q:=(if_pos p).symm.trans z;cases Q;subst p;show(ha,by rw[aA];show hl,vs,_,rv,ha)
   .grind
  .grind
variable{h:Heap}
nonrec def KOf(_:K.In h):aQ:=K
variable{l:W.OpenLaw}{q:cf}{dm:LSt}{XP:MGT->Heap->Prop}{YP:World->Heap->Prop}{d:DefRec}
def Nm{n k:Nat}{K:Params->aQ}{CX:World->CXT}{sp:World->Sp}
 (hn:l.most=aa n)(z:n<=aS)(r:d.params.defaults=[])(hr:bu k callerA)
 (L:∀(w:World) (h:Heap),YP w h->(K w.params).In h)
 (F:∀ (w:World) (mg:MGT) (fa:Addr) (h:Heap),(K w.params).In h->h.Ns cC mg->mg d.name=aa (.ref fa) ->
   ∃fd:cT,(∀(s:ah) (u:Value),BindsTo s fd ([u],[]) [(x,u,)]) /\
    ∀base:Heap,(K w.params).In base->base.Ns cC mg->cq l.prog w (K w.params) mg base (CX w) k fa fd [x] (sp w))
 (A:∀(w:World) (H:Hp) (a:Addr) (ns:LI0),ns.length<=n->ut H->SqL (K w.params) H a (ns.map V.int)->sp w [.ref a] H (λv _=>v=.bl ac) λ_ _ _=>False)
 (p:∀(w:World) (H:Hp) (s:ah) (e:Value) (B:ah),CX w [] H s (λ_ _ _=>False) e B->False):
  W.WalkO q dm XP YP l.row.toRowW d [] (λf vs=>PySem.call f vs):=by
 show Att.attach_call hn r λw s₀ m mg mb fa o pm U doc a vs ns G Y ho hd N y j i c Q=>?_;have C:=L w _ Y;have(fd,M,E):=F w mg fa _ C G.T.g y;show Nl C G.T.g G.T.b G.T.builtins G.T.nolimit Q j i (cS c z) hr E M (λH I J=>A w H a ns c I J) λH e B=>p w H m e B
variable{CX:CXT}
def walk_ofK{n k:Nat}{K:Params->aQ}{sp:aQ->Sp}
 (hn:l.most=aa n)(g:n<=aS)(c:d.params.defaults=[])(hr:bu k callerA)
 (r:∀(w:World) (h:Heap),YP w h->(K w.params).In h)
 (F:∀ (w:World) (mg:MGT) (fa:Addr) (h:Heap),(K w.params).In h->h.Ns cC mg->mg d.name=aa (.ref fa) ->
   ∃fd:cT,(∀(s:ah) (u:Value),BindsTo s fd ([u],[]) [(x,u,)]) /\
    ∀base:Heap,(K w.params).In base->base.Ns cC mg->cq l.prog w (K w.params) mg base CX k fa fd [x] (sp (K w.params)))
 (i:∀(K:aQ) (H:Hp) (a:Addr) (ns:LI0),ns.length<=n->ut H->SqL K H a (ns.map V.int)->sp K [.ref a] H (λv _=>v=.bl ac) λ_ _ _=>False)
 (b:∀(H:Hp) (s:ah) (e:Value) (j:ah),CX [] H s (λ_ _ _=>False) e j->False):
  W.WalkO q dm XP YP l.row.toRowW d [] (λf vs=>PySem.call f vs):=
 Nm hn g c hr r F (λw H a ns m h2 p=>i _ H a ns m h2 p) λ_ H s e j=>b H s e j
def bj(s:Stmt)(j:Nat):Stmt:=match s with
 |.ClassDef _ _ _ body _ _ _ _ _ _ _=>body.getD j (.Pass (0,0,0,0))
 | _=>.Pass (0,0,0,0)
def ki(s:Stmt):Arguments:=match s with
 |.FunctionDef _ a _ _ _ _ _ _ _ _=>a
 | _=>{posonlyargs:=[],args:=[],vararg:=ab,kwonlyargs:=[],kw_defaults:=[],kwarg:=ab,defaults:=[]}
def fw(s:Stmt):List Stmt:=match s with
 |.FunctionDef _ _ b _ _ _ _ _ _ _=>b
 | _=>[]
def au(s:Stmt):Scope:=match s with
 |.FunctionDef _ _ _ _ _ _ sc _ _ _=>sc
 | _=>{kind:=.function,names:=[],isGenerator:=af,isCoroutine:=af}
nonrec abbrev CX0:CXT:=λ_ _ _ _ _ _=>False
nonrec abbrev E0:XK:=λ_ _ _=>False
variable{X:Cx}
def gg:mN CX0 X E0:=λ_ _ _ _ _ _ _ h=>h.elim
structure Fun(K:aQ)(x qual:Str)(st:Stmt)(f:Addr)(fd:cT):Prop where
 ex:∃(oc:Value) (od:Option Addr) (kV doc pm:Value) (an:Option Addr) (cdv ct:Value) (osl:Array (Option Value)),
  fd=i8 x qual (ki st) (fw st) (au st) .none kV doc pm an cdv ct/\K.lookup f=aa (oc,od,.func fd,osl)/\W.codeIn K cdv qual=ac
 kp:gf K (.ref f)=ac
variable{base:Heap}{qual:Str}{st:Stmt}{f:Addr}{N ps:LSt}{sp:Sp}
def Fun.ok{k:Nat}(F:Fun K x qual st f fd)(S:aB N ps (au st))(len:∀vs H Q W8,sp vs H Q W8->vs.length=ps.length)
 (a:∀ (cdv:Value) (A:b5) (outer:List Env) (s:ah) (H:Hp) (vs:LVv) (Q:VK) (W8:XK),bu k (A.deeper (fK qual (au st) s.heap.objs.size f cdv))->sp vs H Q W8 ->
   ∃t,PSs (ij CX0 P w K mg base N qual (au st) f cdv A outer s H W8).nox (fw st) t/\t {nx:=λ_ H'=>Q .non H',rt:=Q} (start N vs) H):cq P w K mg base CX0 (k+1) f fd ps sp:=by
 have(oc,od,kV,doc,pm,an,cdv,ct,osl,rfl,d,b):=F.ex;show E7 d b S len λA outer s H vs Q W8 hr c=>?_;have(t,h,q):=a cdv A outer s H vs Q W8 hr c;show(t,h.nox,q)
def Fun.binds(F:Fun K x qual st f fd)
 (h:∀(kV doc pm:Value) (an:Option Addr) (cdv ct:Value) (us:LVa),us.length=ps.length->bindArgs (i8 x qual (ki st) (fw st) (au st) .none kV doc pm an cdv ct) (us,[])=pure (ps.zip us)):dS K fd ps []:=by
 have(oc,od,kV,doc,pm,an,cdv,ct,osl,rfl,b,a):=F.ex;show .all (h kV doc pm an cdv ct)
variable{oc:Value}{an:Option Addr}{osl:Array (Option Value)}
def fun_mk{od:Option Addr}{kV doc pm cdv ct:Value}(l:K.lookup f=aa (oc,od,.func (i8 x qual (ki st) (fw st) (au st) .none kV doc pm an cdv ct),osl))
 (c:W.codeIn K cdv qual=ac)(k:gf K (.ref f)=ac):Fun K x qual st f (i8 x qual (ki st) (fw st) (au st) .none kV doc pm an cdv ct):=((oc,od,kV,doc,pm,an,cdv,ct,osl,rfl,l,c),k)
structure Df(K:aQ)(mg:MGT)(x:Str)(st:Stmt)(ps:LSt)(e:Addr×cT):Prop where
 F:Fun K x x st e.1 e.2
 b:dS K e.2 ps []
 g:mg x=aa (.ref e.1)
structure Dm(K:aQ)(W9:Addr)(x q:Str)(st:Stmt)(ps:LSt)(e:Addr×cT):Prop where
 F:Fun K x q st e.1 e.2
 b:dS K e.2 ps []
 m:qX K W9 x e.1
structure Pk(P:cf)(w:World)(K:aQ)(mg:MGT)(base:Heap)(CX:CXT)(k:Nat)(x:Str)(e:Addr×cT)(ps:LSt)(sp:Sp):Prop where
 ok:cq P w K mg base CX k e.1 e.2 ps sp
 g:mg x=aa (.ref e.1)
 kp:gf K (.ref e.1)=ac
 b:dS K e.2 ps []
structure Pm(P:cf)(w:World)(K:aQ)(mg:MGT)(base:Heap)(CX:CXT)(k:Nat)(W9:Addr)(x:Str)(e:Addr×cT)(ps:LSt)(sp:Sp):Prop where
 ok:cq P w K mg base CX k e.1 e.2 ps sp
 c:Cls K W9
 m:qX K W9 x e.1
 b:dS K e.2 ps []
variable{e:Addr×cT}
def Df.pk{k:Nat}(W8:Df K mg x st ps e)(o:cq P w K mg base CX k e.1 e.2 ps sp):Pk P w K mg base CX k x e ps sp:=(o,W8.g,W8.F.kp,W8.b)
variable{q:Str}{W9:Addr}
def Dm.pk{k:Nat}(W8:Dm K W9 x q st ps e)(c:Cls K W9)(o:cq P w K mg base CX k e.1 e.2 ps sp):Pm P w K mg base CX k W9 x e ps sp:=(o,c,W8.m,W8.b)
structure Dq(K:aQ)(x:Str)(st:Stmt)(f:Addr)(fd:cT):Prop where
 a:dZ K cC x=aa (aa (.ref f))
 F:Fun K x x st f fd
structure Dp(K:aQ)(W9:Addr)(x q:Str)(st:Stmt)(f:Addr)(fd:cT):Prop where
 a:cm K (.ref W9) x=aa (aa (.ref f))
 i:W.isFn K (.ref f)=ac
 F:Fun K x q st f fd
nonrec abbrev uu(x q:Str)(st:Stmt)(ps:LSt):Prop:=∀(kV doc pm:Value) (an:Option Addr) (cdv ct:Value) (us:LVa),us.length=ps.length->bindArgs (i8 x q (ki st) (fw st) (au st) .none kV doc pm an cdv ct) (us,[])=pure (ps.zip us)
def Dq.mk2(d:Dq K x st f fd)(X:K.In h)(G:h.Ns cC mg)(b:autoParam (uu x x st ps) Zk):Df K mg x st ps (f,fd,):=(d.F,d.F.binds b,ke X G d.a)
def Dp.mk2(d:Dp K W9 x q st f fd)(b:autoParam (uu x q st ps) Zk):Dm K W9 x q st ps (f,fd,):=(d.F,d.F.binds b,(d.a,d.i,d.F.kp))
def Dq.bt{p:Str}(d:Dq K x st f fd)(b:uu x x st [p])(s:ah)(v:Value):BindsTo s fd ([v],[]) [(p,v,)]:=by
 have(oc,od,kV,doc,pm,an,cdv,ct,osl,rfl,c,a):=d.F.ex;show .of_eq (b kV doc pm an cdv ct [v] rfl)
variable{n:Nat}
def yh(h:n<=1000):n<aS:=mi h (by decide)
variable{pos:Pos}
def pv(i:Nat)(b:autoParam (X.N[i]?=aa x) Zb)(hv:autoParam (Vis X.env.scope x) Ze)(hd:autoParam (NDb x) Zc)
 (a:autoParam (NCd x) Zc):PE X (.Name x pos) (cE i):=lx b hv hd a
def aq(H H':Hp):Prop:=∀b o,H b=aa o->H' b=aa o
def aq.refl(H:Hp):aq H H:=λ_ _ h=>h
variable{H H1 H2:Hp}
def aq.trans(a:aq H H1)(b:aq H1 H2):aq H H2:=λc o h=>b c o (a c o h)
variable{H':Hp}{l:Addr}
def aq.free(e:aq H H')(h:H' l=Option.none):H l=Option.none:=by
 cases q:H l with
 |none=>rfl
 |some o=>
  rw[e l o q]at h
  nomatch h
def aq.seq{C:LVv}(e:aq H H')(h:SqL K H a C):SqL K H' a C:=by
 rcases h with(h |⟨o,h⟩) |h
 .show .inl (.inl (e _ _ h))
 .show .inl (.inr (o,e _ _ h))
 .show .inr h
section
variable{κ:Type}[DecidableEq κ]
def cN(kvs:List (κ×V))(k:κ):Option V:=(kvs.find? λa=>decide (a.1=k)).map (·.2)
abbrev dL(kvs:List (κ×V))(k:κ)(v:V):List (κ×V):=
 if (kvs.any λa=>decide (a.1=k))=ac then kvs.map (λa=>if a.1=k then (a.1,v,) else a) else kvs++[(k,v,)]
def q9{p:κ×V}{r:List (κ×V)}{k:κ}(e:p.1=k):cN (p::r) k=aa p.2:=by simp[cN,find?_cons,e]
def oR{p:κ×V}{r:List (κ×V)}{k:κ}(e:¬p.1=k):cN (p::r) k=cN r k:=by simp[cN,find?_cons,e]
def uv(k:κ):∀kvs:List (κ×V),(kvs.any λa=>decide (a.1=k))=(cN kvs k).isSome
 | []=>rfl
 |p::r=>by
  rw[gz]
  by_cases e:p.1=k
  .simp only[q9 e,decide_eq_true e,Bool.true_or,Option.isSome_some]
  .rw[oR e,decide_eq_false e,Bool.false_or];show uv k r
def yi(kvs:List (κ×V))(k:κ)(v:V):(dL kvs k v).length<=kvs.length+1:=by
 unfold dL;split
 .rw[aA];lia
 .simp only[aR,cb,length_nil];lia
def eR.isSome_eq{o:Option V}{u:Option Value}(r:eR o u):o.isSome=u.isSome:=by
 cases o with
 |none=>cases u with
  |none=>rfl
  |some _=>show(r).elim
 |some _=>cases u with
  |none=>show(r).elim
  |some _=>rfl
def eR.getD{o:Option V}{u:Option Value}{d:V}{d':Value}(r:eR o u)(rd:aC d d'):aC (o.getD d) (u.getD d'):=by
 cases o with
 |none=>cases u with
  |none=>show rd
  |some _=>show(r).elim
 |some _=>cases u with
  |none=>show(r).elim
  |some _=>show r
def KV.val{kvs:List (κ×V)}{vs:List (κ×Value)}(r:KV kvs vs)(k:κ):eR (cN kvs k) (valueAt vs k):=by
 induction r with
 |nil=>show iE
 | @cons p q ps a h t d=>
  have(c,h2):=h
  by_cases e:p.1=k
  .have e':=c.symm.trans e;have b:valueAt (q::a) k=aa q.2:=by simp[valueAt,e']
   rw[q9 e,b];show h2
  .have e':¬q.1=k:=λz=>e (c.trans z);have b:valueAt (q::a) k=valueAt a k:=by simp[valueAt,e']
   rw[oR e,b];show d
def KV.any{kvs:List (κ×V)}{vs:List (κ×Value)}(r:KV kvs vs)(k:κ):(kvs.any λa=>decide (a.1=k))=vs.any λa=>decide (a.1=k):=by
 induction r with
 |nil=>rfl
 |cons h t b=>simp only[gz,gz,b,h.1]
def KV.repl{kvs:List (κ×V)}{vs:List (κ×Value)}(r:KV kvs vs)(k:κ){y:V}{u:Value}(d:aC y u):
  KV (kvs.map λa=>if a.1=k then (a.1,y,) else a) (vs.map λa=>if a.1=k then (a.1,u,) else a):=by
 induction r with
 |nil=>show .nil
 | @cons p q ps f h t c=>
  rw[bD,bD];show .cons ?_ c;have(b,h2):=h
  by_cases e:p.1=k
  .rw[if_pos e,if_pos (b.symm.trans e)];show(b,d)
  .rw[if_neg e,if_neg (λz=>e (b.trans z))];show(b,h2)
def KV.put{kvs:List (κ×V)}{vs:List (κ×Value)}(r:KV kvs vs)(k:κ){y:V}{u:Value}(a:aC y u):KV (dL kvs k y) (stored vs k u):=by
 unfold dL stored;rw[r.any k]
 by_cases e:(vs.any λb=>decide (b.1=k))=ac
 .rw[if_pos e,if_pos e];show r.repl k a
 .rw[if_neg e,if_neg e];show hV.snoc r (rfl,a)
def KV.length{kvs:List (κ×V)}{vs:List (κ×Value)}(r:KV kvs vs):kvs.length=vs.length:=oK r
end
variable{u:Value}
def uw{k:Key}(r:aC (kV k) u):(lw P w).is k u=ac:=by
 cases k with
 |inl i=>have(t,e):=(r);subst e;show K1 P w i t
 |inr x=>have(t,e):=(r);subst e;show K2 P w x t
nonrec abbrev KT(H:Hp):List (List Key×V)->List (List Key×Addr×Value)->Prop:=hV λp q=>p.1=q.1/\fm H q.2.1 p.1/\aC p.2 q.2.2
variable{kvs:List (List Key×V)}{C:List (List Key×Addr×Value)}
def KT.val(r:KT H kvs C)(k:List Key):eR (cN kvs k) ((atKey C k).map (·.2)):=by
 induction r with
 |nil=>show iE
 | @cons p q ps a h t d=>
  have(c,_,h2):=h
  by_cases e:p.1=k
  .have e':=c.symm.trans e;have b:atKey (q::a) k=aa q.2:=by simp[atKey,e']
   rw[q9 e,b];show h2
  .have e':¬q.1=k:=λz=>e (c.trans z);have b:atKey (q::a) k=atKey a k:=by simp[atKey,e']
   rw[oR e,b];show d
variable{y:V}
def KT.repl(r:KT H kvs C)(k:List Key)(f:aC y u):
  KT H (kvs.map λb=>if b.1=k then (b.1,y,) else b) (C.map (putAt k u)):=by
 induction r with
 |nil=>show .nil
 | @cons p q ps g h t d=>
  rw[bD,bD];show .cons ?_ d;have(a,h2,c):=h;unfold putAt
  by_cases e:p.1=k
  .rw[if_pos e,if_pos (a.symm.trans e)];show(a,h2,f)
  .rw[if_neg e,if_neg (λz=>e (a.trans z))];show(a,h2,c)
variable{b:Addr}
def KT.put(r:KT H kvs C)(k:List Key)(c:fm H b k)(a:aC y u):
  KT H (dL kvs k y) (storedH C k b u):=by
 have e:(kvs.any λd=>decide (d.1=k))=(atKey C k).isSome:=by
  rw[uv,(r.val k).isSome_eq,Option.isSome_map]
 unfold dL storedH;rw[e]
 by_cases q:(atKey C k).isSome=ac
 .rw[if_pos q,if_pos q];show r.repl k a
 .rw[if_neg q,if_neg q];show hV.snoc r (rfl,c,a)
def KT.keeps(r:KT H kvs C)(c:∀b a,H b=aa (.tup a)->H' b=aa (.tup a)):KT H' kvs C:=
 hV.mapP r λ_ _ z=>(z.1,z.2.1.up c,z.2.2)
def Fj{u:HO}(ok:HOk P w H h)(e:Rd H a u):dQ P w H h a u:=e.ok ok
def oS{kvs:List (Key×V)}(ok:HOk P w H h)(e:Rd H a (.dK kvs)):kvs.length<=aS/\(a==hE)=af/\∃vs,KV kvs vs/\h.DictOf (lw P w) a vs:=
 show dQ P w H h a (.dK kvs)from Fj ok e
def Fk{kvs:List (Key×V)}(ok:HOk P w H h)(e:H a=aa (.dK kvs)):kvs.length<=aS/\(a==hE)=af/\∃vs,KV kvs vs/\h.DictOf (lw P w) a vs:=oS ok (.inl e)
variable{ks:List Key}
def oT(ok:HOk P w H h)(e:fm H a ks):(tupleKind (mK P w)).is h ks a:=by
 have(vs,e,d):=e;have(_,L,r,o,b,h2,n,c):=(show dQ P w H h a (.tup vs)from ok a _ e);show(o,L.toArray,n,b,h2,c,by simpa using Ex d r)
def oU(ok:HOk P w H h)(e:Rd H a (.dT kvs)):kvs.length<=aS/\(a==hE)=af /\
  ∃C,KT H kvs C/\h.DictOfH (tupleKind (mK P w)) a C:=by
 have(z,y,C,r,o,es,d,f,h2,g,i,j):=(Fj ok e);show(z,y,C,r,o,es,d,f,h2,g,i,λx b=>?_,j)
 have all:∀{l:List _} {m:List _},KT H l m->∀x∈m,(tupleKind (mK P w)).is h x.1 x.2.1:=by
  intro l m q
  induction q with
  |nil=>intro x b;show nomatch b
  | @cons p q ps u c t n=>
   intro x b
   rcases aX.mp b with e |b
   .subst e;show oT ok (by rw[<- c.1];show c.2.1)
   .show n x b
 show all r x b
def Fm(ok:HOk P w H h)(e:H a=aa (.dT kvs)):kvs.length<=aS/\(a==hE)=af /\
  ∃C,KT H kvs C/\h.DictOfH (tupleKind (mK P w)) a C:=oU ok (.inl e)
def fQ(H:Hp)(a:Addr)(y:V)(r:Option V):Prop:=
 (∃kvs k,Rd H a (.dK kvs)/\y=kV k/\r=cN kvs k)\/∃kvs k b,Rd H a (.dT kvs)/\y=.ref b/\fm H b k/\r=cN kvs k
def lA(H:Hp)(a:Addr)(y v:V)(H':Hp):Prop:=
 (∃kvs k,H a=aa (.dK kvs)/\y=kV k/\kvs.length<aS/\H'=upd H a (.dK (dL kvs k v))) \/
 ∃kvs k b,H a=aa (.dT kvs)/\y=.ref b/\fm H b k/\kvs.length<aS/\H'=upd H a (.dT (dL kvs k v))
def fQ.k{kvs:List (Key×V)}{k:Key}(e:H a=aa (.dK kvs)):fQ H a (kV k) (cN kvs k):=.inl (kvs,k,.inl e,rfl,rfl)
def fQ.t{k:List Key}(e:H a=aa (.dT kvs))(c:fm H b k):fQ H a (.ref b) (cN kvs k):=.inr (kvs,k,b,.inl e,rfl,c,rfl)
variable{v:V}
def lA.k{kvs:List (Key×V)}{k:Key}(e:H a=aa (.dK kvs))(b:kvs.length<aS):lA H a (kV k) v (upd H a (.dK (dL kvs k v))):=.inl (kvs,k,e,rfl,b,rfl)
def lA.t{k:List Key}(e:H a=aa (.dT kvs))(c:fm H b k)(d:kvs.length<aS):
  lA H a (.ref b) v (upd H a (.dT (dL kvs k v))):=.inr (kvs,k,b,e,rfl,c,d,rfl)
variable{U:PNS}{E:St}
def Inv.big{s:ah}(I:Inv X U E H s):hE<s.heap.objs.size:=by
 show mj (by decide) ((I.mod.glob.keeps I.bk).lt)
variable{A:b5}{W8 Q:PRS}
def Nn{s:ah}(G:A.units+1<cLine)(I:Inv X U E H s)(g:fQ H a y (aa v))(q:aC y u)(h:∀f r,Inv X U E H r->aC v f->Q f r):
  wpAny (model X.prog X.w) A (getItem (.ref a) u) Q W8 s:=by
 rcases g with⟨kvs,k,e,j,l⟩ |⟨kvs,k,b,e,j,x,l⟩
 .subst j;have(z,hd,vs,c,i):=oS I.hok e;have(f,n,d):=eR.some_of (by rw[l];show c.val k);show wpAny_getItem_of (uw q) i.mapOf n (h f _ (I.tok _) d)
 .subst j;cases (q);have(z,hd,C,c,i):=oU I.hok e;have(f,n,d):=eR.some_of (by rw[l];show c.val k);have(p,B,m):=Option.map_eq_some_iff.mp n;show wpAny_getItem_heap (qM G) (oT I.hok x) i B ?_;rw[m];show h f _ (I.tok _) d
def No{s:ah}{o:Option V}(n:A.units+1<cLine)(I:Inv X U E H s)(g:fQ H a y o)(i:aC y u)(h:∀j,Inv X U E H j->Q (.bool o.isSome) j):
  wpAny (model X.prog X.w) A (cK .In u (.ref a)) Q W8 s:=by
 rcases g with⟨kvs,k,e,f,l⟩ |⟨kvs,k,b,e,f,m,l⟩
 .subst f;have(z,hd,vs,c,d):=oS I.hok e;show wpAny_in_of (uw i) hd d.mapOf ?_;rw[<- (c.val k).isSome_eq,<- l];show h _ (I.tok _)
 .subst f;cases (i);have(z,hd,C,c,d):=oU I.hok e;show wpAny_in_heap (qM n) (oT I.hok m) hd d ?_;have q:=(c.val k).isSome_eq;rw[Option.isSome_map]at q;rw[<- q,<- l];show h _ (I.tok _)
variable{h':Heap}{t':Nat}
section
variable{s:ah}
def yj{c:HO}(I:Inv X U E H s)(g:Mut (H a))(f:gc a s.heap h')(e:∃q,h'.get? a=aa q)(new:dQ X.prog X.w (upd H a c) h' a c):
  Inv X U E (upd H a c) {s with heap:=h',toks:=t'}:=
 I.write g (.inl rfl) (λb q d z=>(f.2 b d).trans z) e new
end
def Np{kvs:List (Key×V)}{vs:List (Key×Value)}(z:kvs.length<=aS)(hd:(a==hE)=af)(b:KV kvs vs)(c:h'.DictOf (lw P w) a vs):
  dQ P w H' h' a (.dK kvs):=(z,hd,vs,b,c)
variable{r:Value}
def Nq{s:ah}{Q:Unit->ah->Prop}(hu:A.units+1<cLine)(I:Inv X U E H s)(g:lA H a y v H')(L:aC y u)(J:aC v r)(h:∀M,Inv X U E H' M->Q () M):
  wpAny (model X.prog X.w) A (setItem (.ref a) u r) Q W8 s:=by
 rcases g with⟨kvs,k,e,n,l,m⟩ |⟨kvs,k,b,e,n,B,l,m⟩
 .subst n m;have(z,hd,vs,d,j):=Fk I.hok e;have hz:vs.length<=aS:=by rw[<- d.length];show z
  have p:(dL kvs k v).length<=aS:=by have:=yi kvs k v;lia
  show wpAny_setItem_pairs (uw L) j λh' f x=>h _ ?_;have he:∃q,h'.get? a=aa q:=let (q,_,_,i,_):=f;(q,i);show yj I (by rw[e];show iE) x he (Np p hd (d.put k J) f)
 .subst n m;cases (L);have(z,hd,C,d,j):=Fm I.hok e;have hz:C.length<=aS:=by rw[<- oK d];show z
  have p:(dL kvs k v).length<=aS:=by have:=yi kvs k v;lia
  show wpAny_setItem_heap (qM hu) (oT I.hok B) j λh' f x=>h _ ?_;have(q,es,N,i,h2,T,Y,_,h5):=f;show yj I (by rw[e];show iE) x (q,i) (p,hd,_,(d.put k B J).keeps λc ys G=>?_,q,es,N,i,h2,T,Y,h5);rw[aK (Ey G e (λz=>nomatch z))];show G
def rb(i:Expr):Prop:=∀b a,subscripted i af b a=operate [b,a] (getItem b a)
variable{prog:cf}{env:Env}{value:Expr}
def Nr{s:ah}{a:Expr}{T id:String}
 (l:mx (.type T) "__getitem__"=pure (aa (.builtin id)))(m:rb a)
 (h:wpAny (model prog w) A (eval value env) (λo d=>wpAny (model prog w) A (eval a env) (λi b=>b.TypeIs o T/\wpAny (model prog w) A (getItem o i) Q W8 b) W8 d) W8 s):
  wpAny (model prog w) A (eval (.Subscript value a pos) env) Q W8 s:=by
 show Subscript_ (fL h (λo d f=>fL f (λi b c=>?_) λ_ _ x=>x) λ_ _ x=>x);have(j,c):=c;show aj ?_;show aj (tW j l ?_)
 have fin:wpAny (model prog w) A (subscripted a af o i) (λr e=>wpAny (model prog w) A (letTemporaryGo value o r >>= λ_=>pure r) Q W8 e) W8 b:=by
  rw[m o i];show wpAny_operating (fL c (λr e g=>aj (wpAny_letTemporaryGo (aE g))) λ_ _ x=>x)
 first
  |show aE (aj fin)
  |show aj _
  |show aj fin
def Nt{s:ah}{o:Option V}(I:Inv X U E H s)(g:fQ H a y o):s.TypeIs (.ref a) "dict":=by
 rcases g with⟨kvs,k,e,_,_⟩ |⟨kvs,k,b,e,_,_,_⟩
 .have(_,_,vs,_,c):=oS I.hok e;show c.typeIs
 .have(_,_,C,_,c):=oU I.hok e;show c.typeIs
def Nu(b ty:TE):TE:=λE H Q=>b E H λx H1=>ty E H1 λy H2=>∃a v,x=.ref a/\fQ H2 a y (aa v)/\Q v H2
def Nv(ty b:TE):TE:=λE H Q=>ty E H λy H1=>b E H1 λx H2=>∃a o,x=.ref a/\fQ H2 a y o/\Q (.bl o.isSome) H2
def ym(d ty e:TE):TS:=λD E H=>e E H λv H1=>d E H1 λx H2=>ty E H2 λy c=>∃a b,x=.ref a/\lA c a y v b/\D.nx E b
variable{i:Expr}{td:TE}
def yn{o:Expr}{ty:TE}(l:X.A.units+1<cLine)(f:PE X o td)(hi:PE X i ty)(j:rb i):PE X (.Subscript o i pos) (Nu td ty):=by
 intro U s E H Q I h;show Nr PySem.F.slot_dict_getitem.lookup j (thn (f U s E H _ I h) λu s1 (x,H1,d,q,m)=>thn (hi U s1 E H1 _ d m) λw s2 p=>?_);have(y,H2,c,r,a,v,ex,g,n):=p;subst ex;obtain rfl:u=eQ a:=q;show(Nt c g,Nn l c g r λB z e b=>(v,H2,e,b,n))
def Nw{o:Expr}{ty:TE}(f:X.A.units+1<cLine)(hi:PE X i ty)(e:PE X o td):PC X .In i o (Nv ty td):=by
 intro U s E H Q I h;show thn (hi U s E H _ I h) λr s1 (y,H1,b,q,l)=>thn (e U s1 E H1 _ b l) λu s2 n=>?_;have(x,H2,c,p,a,j,ex,g,m):=n;subst ex;obtain rfl:u=eQ a:=p;show No f c g q λv d=>(.bl j.isSome,H2,d,rfl,m)
variable{b4:Pos}{tv:TE}
def Fo{o:Expr}{ty:TE}(m:X.A.units+1<cLine)(j:PE X o td)(hi:PE X i ty)(hv:PE X value tv)(l:f9 value (aa (.Subscript o i b4)) pos.line X.env=pure af):
  PS X (.Assign [.Subscript o i b4] value pos) (ym td ty tv):=by
 intro U s E H D I h;show wpAny_Assign_Subscript (thn (hv U s E H _ I h) λr s1 (v,H1,c,z,n)=>thn (j U s1 E H1 _ c n) λu s2 (x,H2,d,B,p)=>thn (hi U s2 E H2 _ d p) λJ L w=>?_) l;have(y,G,e,C,a,b,ex,g,q):=w;subst ex;obtain rfl:u=eQ a:=B;show Nq m e g C z λM f=>(E,b,f,q)
def Nx(h:Heap)(a:hE<h.objs.size):dQ P w H (h.push {cls:=.type "dict",data:=.dict #[]}) h.objs.size (.dK []):=
 (ce _,beq_eq_false_iff_ne.mpr (eM (bU a)),[],.nil,Heap.DictOf.new h)
def Ny(h:Heap)(a:hE<h.objs.size):dQ P w H (h.push {cls:=.type "dict",data:=.dict #[]}) h.objs.size (.dT []):=
 (ce _,beq_eq_false_iff_ne.mpr (eM (bU a)),[],.nil,_,#[],0,cL _ rfl,(rfl,rfl,rfl),rfl,rfl,fJ)
def Fp:TE:=λ_ H Q=>∀p,H p=ab->Q (.ref p) (upd H p (.dK []))
def Nz:TE:=λ_ H Q=>∀p,H p=ab->Q (.ref p) (upd H p (.dT []))
def NA:PE X (.Dict [] [] pos) Fp:=λU s E H Q I h=>
 wpAny_Dict_empty (.ref s.heap.objs.size,_,I.laid (λ_ _ q=>bA _ q) (aL _) (Nx s.heap I.big),rfl,h _ (I.hok.fresh (aL _)))
def NB:PE X (.Dict [] [] pos) Nz:=λU s E H Q I h=>
 wpAny_Dict_empty (.ref s.heap.objs.size,_,I.laid (λ_ _ q=>bA _ q) (aL _) (Ny s.heap I.big),rfl,h _ (I.hok.fresh (aL _)))
structure M2(X:Cx)(o:Expr)(m:Str)(apos:Pos)(e f:Expr)(cpos:Pos):Prop where
 base:oC o m X.env (eval o X.env)=eval o X.env
 few : ((cg cpos (aM [e,f] X.env)).all (λx=>!x.1) && (iA cpos (iz [] X.env)).all (λx=>x.1.isSome)
  && decide (([e,f]:LEx).length+([]:List Keyword).length+(if ([]:List Keyword).isEmpty then 0 else 1)<30))=ac
 line:(apos.endLine==cpos.line)=ac
 trees:cg cpos (aM [e,f] X.env)=[(af,eval e X.env,),(af,eval f X.env,)]
def IsD(H:Hp)(a:Addr):Prop:=(∃kvs,Rd H a (.dK kvs))\/∃kvs,Rd H a (.dT kvs)
def Fq{s:ah}(I:Inv X U E H s)(d:IsD H a):
  s.TypeIs (.ref a) "dict" /\ (∀b,eQ a=.ref b->∃c,s.heap.get? b=aa c/\c.dict=ab)/\(a==hE)=af:=by
 rcases d with⟨kvs,e⟩ |⟨kvs,e⟩
 .have(_,hd,vs,_,f):=oS I.hok e;show(f.typeIs,λb q=>?_,hd);cases q;have(c,_,_,g,h2,_):=f;show(c,g,h2.2.1)
 .have(_,hd,C,_,f):=oU I.hok e;show(f.typeIs,λb q=>?_,hd);cases q;have(c,_,_,g,h2,_):=f;show(c,g,h2.2.1)
variable{d:V}
def NC{s:ah}{o:Option V}(q:A.units+1<cLine)(I:Inv X U E H s)(g:fQ H a y o)(j:aC y u)(rd:aC d r)(h:∀n m,Inv X U E H m->aC (o.getD d) n->Q n m):
  wpAny (model X.prog X.w) A (call (.builtin "dict.get") [.ref a,u,r]) Q W8 s:=by
 rcases g with⟨kvs,k,e,i,l⟩ |⟨kvs,k,b,e,i,p,l⟩
 .subst i;have(z,hd,vs,c,f):=oS I.hok e;show call_meetsIn xz f.typeIs PySem.F.entry_dict_get (PySem.F.args_dict_get_3 _ _ _) (meets_dict_get_default _ a (uw j) hd r) (_,f.mapOf,h _ _ (I.tok _) ?_);rw[l];show(c.val k).getD rd
 .subst i;cases (j);have(z,hd,C,c,f):=oU I.hok e;show call_meetsIn xz f.typeIs PySem.F.entry_dict_get (PySem.F.args_dict_get_3 _ _ _) (meetsH_dict_get_default _ a b hd r) (qM q,k,C,oT I.hok p,f,h _ _ (I.tok _) ?_);rw[l];show(c.val k).getD rd
def ND(td ty c:TE):TE:=λE H Q=>td E H λx H1=>∃a,x=.ref a/\IsD H1 a/\ty E H1 λy H2=>c E H2 λz b=>∃o,fQ b a y o/\Q (o.getD z) b
variable{e f:Expr}{apos cpos:Pos}{tx:TE}
def yo{o:Expr}{ty:TE}(v:X.A.units+1<cLine)(r:PE X o td)(p:PE X e ty)(q:PE X f tx)(m:M2 X o "get" apos e f cpos):PE X (.Call (.Attribute o "get" apos) [e,f] [] cpos) (ND td ty tx):=by
 intro U s E H Q I h;show wpAny_Call_method m.base m.few m.line PySem.F.plainAttrs_dict xz PySem.F.type_dict_get (thn (r U s E H _ I h) λu s1 G=>?_);have(x,H1,c,J,a,ex,d,w):=G;subst ex;obtain rfl:u=eQ a:=J;have(t1,N,_):=Fq c d;show(t1,N,?_);rw[m.trees]
 show xm rfl (xn (i4 (thn (p U s1 E H1 _ c w) λY s2 (y,H2,j,L,B) =>
  i4 (thn (q U s2 E H2 _ j B) λT s3 (z,i,l,M,ov,g,C)=>xp ?_))))
 show NC v l g L M λw' s4 n b=>(_,i,n,b,C)
section
variable{κ:Type}[DecidableEq κ]
end
end L2
set_option maxHeartbeats 4000000
namespace L2
open List
open PySem
def yp{env:Env}(f:(Str×ga)->List (Str×Addr)->Sem (ForInStep (List (Str×Addr))))
 (i:∀n k r,k≠fO->f (n,k,) r=pure (.yield r))
 (h2:∀n r c,env.cells.lookup n=aa c->f (n,.free,) r=pure (.yield ((n,c,)::r))):
  ∀(l:List (Str×ga)) (a:List (Str×Addr)),(∀x∈l,x.2=.free->∃c,env.cells.lookup x.1=aa c) ->
   (∀x c,a.lookup x=aa c->env.cells.lookup x=aa c) ->
   ∃cl,forIn l a f=(pure cl:Sem _)/\(∀x c,cl.lookup x=aa c->env.cells.lookup x=aa c) /\
    (∀x,((∃c,a.lookup x=aa c)\/(x,fO,)∈l)->∃c,cl.lookup x=aa c)
 | [],a,_,ha=>(a,rfl,ha,λx d=>d.elim id (λz=>nomatch z))
 |(n,k,)::l,a,hl,ha=>by
  have b:=λx d=>hl x (bi _ d)
  by_cases u:k=.free
  .subst u;have(c,p):=hl _ az rfl;have q:=p
   have h:∀x g,((n,c,)::a).lookup x=aa g->env.cells.lookup x=aa g:=λx g d=>by
    grind
   have(cl,e,j,m):=yp f i h2 l _ b h
   grind
  .have(cl,e,j,m):=yp f i h2 l a b ha
   grind
variable{scope:Scope}{env:Env}
def Ft(h:∀x∈scope.names,x.2=.free->∃c,env.cells.lookup x.1=aa c):
  ∃cl,closureFor scope env=pure cl/\(∀x c,cl.lookup x=aa c->env.cells.lookup x=aa c)/\(∀x,(x,fO,)∈scope.names->∃c,cl.lookup x=aa c):=by
 have (cl,e,b,d):=yp (λx r=>(match x with
   |(name,kind)=>if (kind==fO)=ac then (do let a <- cellOf env name;pure (n9 ((name,a,)::r))) else (pure (n9 r):Sem _)))
  (λn k r g=>by
   have:(k==fO)=af:=by simpa using g
   simp only[this,Bool.false_eq_true,if_false])
  (λn r c f=>by
   simp only[beq_self_eq_true,if_true,cellOf,f,pure_bind])
  scope.names [] h (λx c z=>by nomatch z)
 show(cl,?_,b,λx i=>d x (.inr i));show(congrArg _ ?_).trans ((congrArg (λt=>t >>= pure) e).trans (pure_bind _ _));rfl
nonrec abbrev E00:Value->ah->Prop:=λ_ _=>False
variable{prog:cf}{w:World}{A:b5}{R:Result->ah->Prop}{dd iter:Expr}{c4:LEx}{pos:Pos}
section
variable{s:ah}
def NE{a:Expr}{it u:Value}(I:Nat->ah->Prop)
 (C:∀ n s,I n s->wpAny (model prog w) A (hU it) (λr d=>match r with
   |none=>R (.ok .next) d
   | some v=>wpAny (model prog w) A (letOwnedTupleGo a it v) (λ_ e=>wpAny (model prog w) A (assign a env v) (λ_ j =>
     wpAny (model prog w) A (forIn c4 ac λc r=>if r=ac then do let ok <- isTrue c env (eval c env); pure (n9 ok) else pure (n9 r)) (λok f =>
      if ok=ac then wpAny (model prog w) A (eval dd env) (λx l =>
       wpAny (model prog w) A (call (.builtin "list.append") [u,x]) (λ_ p=>∃m,m<n/\I m p) (notedBy (model prog w) A env λx b=>R (.error x) b) l) (notedBy (model prog w) A env λx b=>R (.error x) b) f
      else ∃m,m<n/\I m f) (notedBy (model prog w) A env λx b=>R (.error x) b) j) (notedBy (model prog w) A env λx b=>R (.error x) b) e) (notedBy (model prog w) A env λx b=>R (.error x) b) d) (notedBy (model prog w) A env λx b=>R (.error x) b) s)
 (n:Nat)(h:I n s):
  gC (model prog w) A (.compLoop (.ListComp dd [(a,iter,c4,0)] scope pos) 0 it u env) R s:=by
 show codeAny_loop rfl I (λn s E=>?_) n h;show wpAny_noted ?_;show aj (wpAny_standAt (aj (fL (C n s E) (λr d g=>?_) λ_ _ h'=>h')))
 cases r with
 |none=>show aE g
 |some v=>
  show aj (fL g (λ_ e q=>?_) λ_ _ h'=>h');show aj (fL q (λ_ j y=>aj (fL y (λok f i=>?_) λ_ _ h'=>h')) λ_ _ h'=>h')
  cases ok with
  |false=>show aE (rfl,i)
  |true=>
   show aj (aj (fL i (λx l z=>aj (fL z (λ_ p B=>aE (aE (rfl,B))) λ_ _ h'=>h')) λ_ _ h'=>h'))
end
open PySem.Spec PyProof.Rows
nonrec def Cx.comp(X:Cx)(scope:Scope)(Nc:LSt)(cl:List (Str×Addr))(W9:Addr)(ex:LAd)(b:ah)(a:Hp):Cx:=
 {X with N:=Nc,s₀:=b,H₀:=a,env:=compEnvC scope cl W9 X.env,outer:=X.stack,ex:=ex,fn:=λ_=>af,pn:=[],xe:=E00}
def yq{env:Env}:∀{names:List (Str×ga)} {x:Str},names.lookup x=aa .free ->
  (names.map λ(n,k,)=>if (k==fO && env.scope.kind==.function && env.kindOf n==aa .cell) then (n,mE,) else (n,k,)).lookup x=aa .cell \/
  (names.map λ(n,k,)=>if (k==fO && env.scope.kind==.function && env.kindOf n==aa .cell) then (n,mE,) else (n,k,)).lookup x=aa .free
 | [],_,h=>by simp at h
 |(n,k,)::r,x,h=>by
  have a:=@yq env r x
  grind
def yr{env:Env}{a:ga}(b:a=.cell\/a=.free):∀{names:List (Str×ga)} {x:Str},
  (names.map λ(n,k,)=>if (k==fO && env.scope.kind==.function && env.kindOf n==aa .cell) then (n,mE,) else (n,k,)).lookup x=aa a ->
  (x,fO,)∈names\/(x,mE,)∈names
 | [],_,h=>by simp at h
 |(n,k,)::r,x,h=>by
  have h':List.lookup x ((if _=ac then _ else _)::_)=aa a:=h
  cases c:x==n with
  |true=>
   have e:=eq_of_beq c;subst e;split at h'
   .rename_i d
    have f:k=.free:=by
     rw[ca,ca]at d;show eq_of_beq d.1.1
    subst f;show .inl az
   .simp only[mh,c]at h';have e:=dh h';subst e
    rcases b with z |z
    .subst z;show .inr az
    .subst z;show .inl az
  |false=>
   have h2:(r.map λ(n,k,)=>if (k==fO && env.scope.kind==.function && env.kindOf n==aa .cell) then (n,mE,) else (n,k,)).lookup x=aa a:=by
    split at h' <;> (rw[mh,c]at h';show h')
   rcases(@yr env a b r x) h2 with z |z
   .show .inl (bi _ z)
   .show .inr (bi _ z)
def lB(scope:Scope)(outer:List (Str×ga))(N Nc:LSt)(k:Nat)(js:LN):Bool:=
 scope.names.all (λx=>(x.2 != .free || outer.lookup x.1==aa .cell || outer.lookup x.1==aa .free) && x.2 != .cell && (x.2 != .local || scope.names.lookup x.1==aa .local)) &&
 scope.kind==.function && Nc.length==k+js.length &&
 (bL js.length).all (λi=>match Nc[k + i]?,js[i]? with
  |some x,aa j=>N[j]?==aa x && scope.names.lookup x==aa .free
  | _,_=>af)
structure oV(scope:Scope)(outer:List (Str×ga))(N Nc:LSt)(k:Nat)(js:LN):Prop where
 free:∀x∈scope.names,x.2=.free->outer.lookup x.1=aa .cell\/outer.lookup x.1=aa .free
 nocell:∀x∈scope.names,x.2≠.cell
 loc:∀x∈scope.names,x.2=.local->scope.names.lookup x.1=aa .local
 kind:scope.kind=.function
 len:Nc.length=k+js.length
 at':∀i j,js[i]?=aa j->∃x,Nc[k+i]?=aa x/\N[j]?=aa x/\scope.names.lookup x=aa .free
variable{N Nc:LSt}{js:LN}
def oV.of{outer:List (Str×ga)}{k:Nat}(h:lB scope outer N Nc k js=ac):oV scope outer N Nc k js:=by
 unfold lB at h;rw[ca,ca,ca]at h;have(((b,h2),d),c):=h;rw[all_eq_true]at b c;show(λx a e=>?_,λx a e=>?_,λx a e=>?_,eq_of_beq h2,eq_of_beq d,λi j e=>?_)
 .have:=b x a;simp only[ca,jW,bne_iff_ne,beq_iff_eq]at this
  rcases this.1.1 with(z |z) |z
  .show absurd e z
  .show .inl z
  .show .inr z
 .have:=b x a;simp only[ca,bne_iff_ne]at this;show this.1.2 e
 .have:=b x a;simp only[ca,jW,bne_iff_ne,beq_iff_eq]at this
  rcases this.2 with z |z
  .show absurd e z
  .show z
 .have hi:=(cX.mp e).1;have:=c i (eJ.mpr hi);rw[e]at this
  cases q:Nc[k+i]? with
  |none=>simp only[q]at this;nomatch this
  |some x=>
   rw[q]at this;simp only[ca,beq_iff_eq]at this;show(x,rfl,this.1,this.2)
def je(k:Nat)(js:LN)(E:St):St:=g6 k ab++js.map λj=>(E[j]?).getD ab
def PTs(X:Cx)(c4:LEx)(t:TT):Prop:=
 ∀(U:PNS) (s:ah) (E:St) (H:Hp) (Q:Bool->Hp->Prop),Inv X U E H s->t E H Q ->
  wpAny (model X.prog X.w) X.A (forIn c4 ac λc r=>if r=ac then do let ok <- isTrue c X.env (eval c X.env);pure (n9 ok) else pure (n9 r)) (TP X U E Q) X.xe s
def NF:TT:=λ_ H Q=>Q ac H
variable{X:Cx}
def NG:PTs X [] NF:=λ_ _ _ H _ I h=>wpAny_tests_nil (H,I,h)
def NH{c:Expr}{t:TT}(h:PT X c t):PTs X [c] t:=λU s E H Q I q=>wpAny_tests_one (h U s E H Q I q)
def yt(J:It)(g:TG)(tt:TT)(te:TE)(h:St)(j:Hp)(Q:VK):Prop:=
 ∃W:Nat->Nat->LVv->St->Hp->Prop,(∃m,W 0 m [] h j)/\∀i m c σ' H',W i m c σ' H' ->
  (J.stop i H'/\c.length<=aS/\∀D,j D=ab->H' D=ab->Q (.ref D) (upd H' D (.lst c))) \/
  (J.go i H'/\c.length<=aS/\∃ N : LVv->St->Hp->Prop,(∀ e f d,N e f d->∃ n,n < m/\W (i + 1) n e f d) /\
   ∀x d,J.yld i H' x d->g x σ' d λa p=>tt a p λb l=>if b=ac then te a l λy q=>N (c++[y]) a q else N c a l)
def oW(k:Nat)(js:LN)(b:TI)(g:TG)(tt:TT)(te:TE):TE:=λE H Q=>b E H λJ a=>yt J g tt te (je k js E) a Q
nonrec def Cx.to(X:Cx)(pn:PNS)(xe:PRS):Cx:={X with pn:=pn,xe:=xe}
variable{Y:Cx}{xe:PRS}{U:PNS}{E:St}{H:Hp}
def Fu{s:ah}(I:Inv Y U E H s):Inv {Y with xe:=xe} U E H s:=
 ((I.ok.mod,I.ok.kind,I.ok.glob,I.ok.blt,I.ok.above,I.ok.inj,I.ok.has,I.ok.cab,I.ok.hd,I.ok.frames,I.ok.stk,I.ok.exf,I.ok.bs,I.ok.bsz,I.ok.noex,I.ok.exfs,I.ok.funs,I.ok.frf),I.os,I.bare,I.base,I.loc,I.cell,I.free,I.freeC,I.pin,I.hok,I.len)
def Fv{s:ah}(I:Inv {Y with xe:=xe} U E H s):Inv Y U E H s:=
 ((I.ok.mod,I.ok.kind,I.ok.glob,I.ok.blt,I.ok.above,I.ok.inj,I.ok.has,I.ok.cab,I.ok.hd,I.ok.frames,I.ok.stk,I.ok.exf,I.ok.bs,I.ok.bsz,I.ok.noex,I.ok.exfs,I.ok.funs,I.ok.frf),I.os,I.bare,I.base,I.loc,I.cell,I.free,I.freeC,I.pin,I.hok,I.len)
variable{e:Expr}{t:TE}
def PE.to0(h:PE {Y with pn:=[],xe:=E00} e t):PE {Y with pn:=[],xe:=xe} e t:=λU s E H Q I q=>
 fL (h U s E H Q (Fv I) q) (λu c (v,H',a,r,b)=>(v,H',Fu a,r,b)) λ_ _ z=>z.elim
nonrec def jH(us:LVa)(n:Nat):Obj:={cls:=.type "list",data:=.seq us.toArray n}
variable{tg:Expr}{g:TG}{tt:TT}{te:TE}{H2:Hp}{s2:ah}{it:Addr}{fp:LAd}{tn:Nat->Heap->Prop}{J:It}{Q:VK}{RR:Value->Addr->Result->ah->Prop}{W8:PRS}
def NI{k:Nat}{PX:Cx->Prop}{cl:List (Str×Addr)}
 (hc:X.calm=ac)(ck:oV scope X.env.scope.names X.N Nc k js)
 (hg:∀cl W9 ex I H,PG (X.comp scope Nc cl W9 ex I H) tg g)(ht:∀cl W9 ex I H,PTs (X.comp scope Nc cl W9 ex I H) c4 tt)(he:∀cl W9 ex I H xe,PX ((X.comp scope Nc cl W9 ex I H).to [] xe)->PE ((X.comp scope Nc cl W9 ex I H).to [] xe) dd te)
 (a1:∀x c,cl.lookup x=aa c->X.env.cells.lookup x=aa c)(a2:∀x,(x,fO,)∈scope.names->∃c,cl.lookup x=aa c)
 (G:Inv X U E H2 s2)(T:kg X.prog X.w X.K tg J fp it tn)(st2:tn 0 s2.heap)(f2:∀b∈fp,ic X U H2 b)(hW:yt J g tt te (je k js E) H2 Q)
 (hRR:∀(D W9:Addr) (s':ah) (H':Hp),Inv X U E H' s'->(∃m,s'.heap.Ns W9 m)->ic X U H' W9->Q (.ref D) H'->RR (.ref D) W9 (.ok .next) s')
 (hPX:∀D W9,s2.heap.objs.size=D->D<W9->(∀b∈frs X.stack,b<D)->PX ((X.comp scope Nc cl W9 fp s2 H2).to [] (notedBy (model X.prog X.w) X.A (compEnvC scope cl W9 X.env) λx s'=>RR (.ref D) W9 (.error x) s'))):
  wpAny (model X.prog X.w) X.A (newList []) (λc5 s₃=>wpAny (model X.prog X.w) X.A (newFunctionEnv scope X.env.globals cl [] X.env.qual ab .none (aa X.env)) (λcenv s₄ =>
   gC (model X.prog X.w) X.A (.compStart (.ListComp dd [(tg,iter,c4,0)] scope pos) 0 (.ref it) c5 {cenv with scope:=relabel scope X.env}) (RR c5 cenv.locals) s₄) W8 s₃) W8 s2:=by
 have(W,(m0,w0),turn):=hW;show iY (wpAny_newFunctionEnv ck.nocell (by intro y hy;simp at hy) (λh₁ B h=>?_) ck.kind);dsimp only at B h ⊢;generalize hP:s2.heap.push {cls:=.type "list",dict:=ab,data:=.seq ([]:LVa).toArray}=P at B h ⊢;generalize hD:s2.heap.objs.size=D at hP B h ⊢;have hCs:P.objs.size=D+1:=by rw[<- hP,i6,hD]
 generalize hC:P.objs.size=W9 at hCs B h ⊢;have hDC':D<W9:=by rw[hCs];show c8 _
 have hDC:D≠W9:=bU hDC';have below:∀b o,s2.heap.get? b=aa o->b<D:=λb o e=>hD▸bz e
 have old:∀b o,s2.heap.get? b=aa o->h₁.get? b=aa o:=λb o e=>by
  have f:=below b o e;show h.extBut b o (bU (mj f hDC')) (bA _ (hP▸bA _ e))
 have hDo:h₁.get? D=aa (jH [] 0):=h.extBut _ _ hDC (bA _ (by rw[<- hP,<- hD];show cL _ rfl));have Hn:∀b,D<=b->H2 b=ab:=λb f=>G.hok.fresh (by lia);have fpo:∀b∈fp,b<D:=λb f=>by have(o,e,_):=T.obj 0 _ st2 b f;show below b o e
 have clo:∀x c,cl.lookup x=aa c->c<D:=λx c e=>by
  have(v,o,ho,_):=G.cell x c (a1 x c e);show below c o ho
 have stko:∀b∈frs X.stack,b<D:=λb f=>by
  have(_,o,ho,_):=G.stack.mem f;show below b o ho
 let Y:Cx:=X.comp scope Nc cl W9 fp s2 H2
 have yk:Y.Ok:=by
  show(G.ok.mod,ck.kind,G.ok.glob,G.ok.blt,?_,?_,?_,?_,G.ok.hd,G.ok.frames,.inl rfl,?_,G.bs,?_,?_,?_,G.stack,G.stkFree)
  .change s2.heap.objs.size<=W9;lia
  .show λx y c h1 h2=>G.ok.inj x y c (a1 x c h1) (a1 y c h2)
  .intro x hx
   have:(x,fO,)∈scope.names\/(x,mE,)∈scope.names:=by
    rcases hx with hx |hx
    .show yr (.inl rfl) hx
    .show yr (.inr rfl) hx
   rcases this with z |z
   .show a2 x z
   .show absurd rfl (ck.nocell _ z)
  .show λx c z=>nomatch z
  .intro b f;show(?_,λx c e=>?_)
   .show bU (mj (fpo b f) hDC')
   .show(f2 b f).2.2.2.2.1 x c (a1 x c e)
  .show cS G.ok.bsz G.sz
  .intro b o e f
   rcases(f2 b f).2.2.2.1 with z |z
   .show G.ok.noex b o e z
   .show absurd (fj (bz e) (cS G.ok.bsz z)) (gA _)
  .intro b f z
   rcases aX.mp (G.stkSub b z)with e |e
   .show(f2 b f).2.1 e
   .show(f2 b f).2.2.1 e
 have I4:Inv Y [(D,jH [] 0,)] (je k js E) H2 {s2 with heap:=h₁,toks:=s2.toks+([]:List (Str×Value)).length}:=by
  show(yk,rfl,G.bare,Un.kept old,(_,B,λi x v e1 L e3=>?_),λx c e=>?_,Hn W9 (by lia),λx c e=>G.freeC x c (a1 x c e),λp M=>?_,G.hok.kept old,?_)
  .have e1:Nc[i]?=aa x:=e1;unfold je at L
   have hik:k<=i:=by
    rcases Nat.lt_or_ge i k with z |z
    .rw[l7 (by simpa using z),oe]at L;simp[z]at L
    .show z
   rw[oa (by simpa using hik),cB]at L;simp only[l8]at L
   cases q:js[i-k]? with
   |none=>rw[q]at L;cases L
   |some j=>
    rw[q]at L;have(x',q1,q2,q3):=ck.at' _ _ q;rw[show k+(i-k)=i by lia,e1]at q1;cases q1;have L:(E[j]?).getD ab=aa v:=dh L
    have e2':E[j]?=aa (aa v):=by
     cases z:E[j]? with
     |none=>rw[z]at L;nomatch L
     |some y=>rw[z]at L;rw[show y=aa v from L]
    have hmem:(x,fO,)∈scope.names:=by
     have:∀l:List (Str×ga),l.lookup x=aa .free->(x,fO,)∈l:=by
      intro l
      induction l with
      |nil=>intro z;nomatch z
      |cons a l ih=>
       intro z;have(n,kk):=a;simp only[mh]at z
       cases f:x==n with
       |true=>
        rw[f]at z;cases z
        rw[eq_of_beq f];show az
       |false=>rw[f]at z;show bi _ (ih z)
     show this _ q3
    have hout:X.env.kindOf x=aa .cell\/X.env.kindOf x=aa .free:=ck.free _ hmem rfl;have(m,hn,hl):=G.loc
    have vis:Vis X.env.scope x:=by
     rcases hout with z |z
     .show .inr (.inl z)
     .show .inr (.inr z)
    have(u,r,l):=hl j x v q2 e2' vis;show(u,r,.inr (yq q3,?_))
    rcases l with⟨z,_⟩ |⟨_,c,hcl,hcell⟩
    .rcases hout with y |y <;> (rw[y]at z;nomatch z)
    .have(c',hc'):=a2 x hmem;have:=a1 x c' hc';rw[hcl]at this;cases this;show(c,hc',hcell.keeps old)
  .have(v,z):=G.cell x c (a1 x c e);show(v,z.keeps old)
  .have M:p∈[(D,jH [] 0,)]:=(bv.mp M).elim (λz=>nomatch (show p∈([]:PNS)from z)) id;have M:=bB.mp M;subst M;show⟨hDo,Hn D (aL _),hDC,λz=>?_,λv z=>by nomatch z⟩;show absurd (stko D z) (gA _)
  .change(je k js E).length=Nc.length;rw[ck.len];simp[je]
 have st1:=T.keep 0 _ _ st2 λb _ o e=>old b o e
 have fpY:∀{H':Hp} {p:PNS},(∀q∈p,q.1=D)->(∀b∈fp,H' b=ab)->∀b∈fp,ic Y p H' b:=λ{H' p} M hn b f=>by
  show(hn b f,(yk.exf b f).1,yk.exfs b f,.inl f,λx c e=>(yk.exf b f).2 x c e,λq hq=>?_);rw[M q hq];show k6 (fpo b f)
 let xe:Value->ah->Prop:=notedBy (model X.prog X.w) X.A (compEnvC scope cl W9 X.env) λx s'=>RR (.ref D) W9 (.error x) s'
 have M:=hPX D W9 hD hDC' stko
 have loop:gC (model X.prog X.w) X.A (.compLoop (.ListComp dd [(tg,iter,c4,0)] scope pos) 0 (.ref it) (.ref D) (compEnvC scope cl W9 X.env)) (RR (.ref D) W9) {s2 with heap:=h₁,toks:=s2.toks+([]:List (Str×Value)).length}:=by
  show NE (λn s'=>∃i ys us nn σ' H',Inv Y [(D,jH us nn,)] σ' H' s'/\tn i s'.heap/\(∀b∈fp,H' b=ab)/\aF ys us/\W i n ys σ' H') ?_ m0
   (0,[],[],0,je k js E,H2,I4,st1,λb f=>(f2 b f).1,.nil,w0)
  rintro n s3 ⟨i,ys,us,nn,σ3,H3,I3,st3,fr3,rv,w3⟩
  have one:∀q∈[(D,jH us nn,)],q.1=D:=λq hq=>by
   have:q=(D,jH us nn,):=by simpa using hq
   rw[this]
  rcases turn i n ys σ3 H3 w3 with⟨stop,hz,qn⟩ |⟨go,hz,N,hN,step⟩
  .show thn (T.done Y rfl rfl rfl hc i _ s3 σ3 H3 _ I3 (fpY one fr3) st3 stop) λr s4 (hr,I5)=>?_;subst hr;have(pD,nD,_,_,_):=I5.pin (D,jH us nn,) (by simp);have bs:=I5.base;have h2D:∀b o,H2 b=aa o->b≠D:=λb o e z=>by rw[z,Hn D (aL _)]at e;nomatch e
   have I6:Inv X U E (upd H3 D (.lst ys)) s4:=by
    show G.call' (ch:=fp) I5.os (bs.keep,bs.slot,λb o e n hx=>?_,bs.there,λb C e=>?_,λb o u e=>?_,λb ps e=>?_) (λb u e=>?_) I5.bare λb f=>?_
    .rw[aK (bU (below b o e))];show bs.free b o e n hx
    .rw[aK (h2D b _ e)];show bs.tups b C e
    .rw[aK (h2D b _ e)];show bs.frzs b o u e
    .rw[aK (h2D b _ e)];show bs.tbls b ps e
    .by_cases f:b=D
     .subst f;rw[aY]at e;cases e;show(hz,us,nn,rv,pD)
     .rw[aK f]at e;show(I5.hok b u e).stay (λc v _ q=>q) (λc q=>by rw[aK (fq q nD)];show q) λc C q=>by rw[aK (fq q nD)];show q
    .have(_,f1,_,f3,f4,f5):=f2 b f;show(f3,f1,f4,f5)
   have(m,hn,_):=I5.loc;show hRR D W9 s4 _ I6 (m,hn) (G.fpOk (by lia) ?_) (qn D (Hn D (aL _)) nD);rw[aK hDC.symm];show I5.free
  .show thn (T.item Y rfl rfl rfl hc i _ s3 σ3 H3 _ I3 (fpY one fr3) st3 go) λr s4 q_=>?_;have(u,hr,h4):=q_;subst hr;show thn h4 λ_ s5 q_=>?_;have(x,H5,I5,r5,y5,st5,fr5):=q_;have I5':=I5.pinned (fpY one fr5) (T.obj _ _ st5);show fL (hg cl W9 fp s2 H2 _ s5 σ3 H5 x u _ I5' r5 (step x H5 y5)) (λ_ s6 (σ6,H6,I6,q6)=>?_) λ_ _ z=>z.elim;show fL (ht cl W9 fp s2 H2 _ s6 σ6 H6 _ I6 q6) (λb s7 (H7,I7,q7)=>?_) λ_ _ z=>z.elim
   have kp:∀{H8:Hp} {s8:ah},Inv Y ([(D,jH us nn,)]++uf fp s5.heap) σ6 H8 s8->tn (i+1) s8.heap/\(∀b∈fp,H8 b=ab):=λ{H8 s8} I8=>by
    show(T.keep _ _ _ st5 λb f o e=>(I8.pin (b,o,) (cv _ (cv _ (ug f e)))).1,λb f=>?_);have(o,e,d):=T.obj _ _ st5 b f;show(I8.pin (b,o,) (cv _ (cv _ (ug f e)))).2.1
   cases b with
   |false=>
    have(m',hm,w7):=hN _ _ _ q7;have(st7,fr7):=kp I7
    show(m',hm,i+1,ys,us,nn,σ6,H7,I7.unpinned,st7,fr7,rv,w7)
   |true=>
    show thn (he cl W9 fp s2 H2 xe M _ s7 σ6 H7 _ (Fu I7) q7) λuy s8 q_=>?_;have(y,H8,I8',r8,q8):=q_;have I8:=Fv I8';have(m',hm,w8):=hN _ _ _ q8;have(st8,fr8):=kp I8;have(pD,nD,pC,pF,_):=I8.pin (D,jH us nn,) (by simp);have hl:=rv.length
    show wpAny_list_append_plain (items:=us.toArray) (nn,pD) (λh' hl' sb=>?_) (by simp only[size_toArray] <;> lia)
    have(n',e'):=hl';have I8n:Inv Y [] σ6 H8 s8:=I8.pins_of (λ_ z=>nomatch z);have I9:=I8n.turned (t':=s8.toks) (it:=D) (λb o f e=>(sb.2 b f).trans e) nD pC (.inr (by change s2.heap.objs.size<=D;lia)) (λx c e=>bU (clo x c e)) (λp M=>nomatch M);show(m',hm,i+1,ys++[y],us++[uy],n',σ6,H8,I9.pins_of (λp M=>?_),?_,fr8,rv.append (.cons r8 .nil),w8)
    .have M:p=(D,jH (us++[uy]) n',):=by simpa using M
     subst M;show⟨?_,nD,pC,pF,λv z=>by nomatch z⟩;have L:=e';rw[L];simp
    .show T.keep _ _ _ st8 λb f o e=>(sb.2 b (bU (fpo b f))).trans e
 show codeAny_compStart_list loop (T.self X.A 0 _ _ _ st1 loop)
def Fw{k:Nat}{cl:List (Str×Addr)}
 (v:X.calm=ac)(u:oV scope X.env.scope.names X.N Nc k js)
 (z:∀cl W9 ex d a,PG (X.comp scope Nc cl W9 ex d a) tg g)(B:∀cl W9 ex d a,PTs (X.comp scope Nc cl W9 ex d a) c4 tt)(y:∀cl W9 ex d a,PE (X.comp scope Nc cl W9 ex d a) dd te)
 (q:∀x c,cl.lookup x=aa c->X.env.cells.lookup x=aa c)(r:∀x,(x,fO,)∈scope.names->∃c,cl.lookup x=aa c)
 (p:Inv X U E H2 s2)(T:kg X.prog X.w X.K tg J fp it tn)(n:tn 0 s2.heap)(f2:∀b∈fp,ic X U H2 b)(hW:yt J g tt te (je k js E) H2 Q)
 (j:∀(D W9:Addr) (l:ah) (H':Hp),Inv X U E H' l->(∃m,l.heap.Ns W9 m)->ic X U H' W9->Q (.ref D) H'->RR (.ref D) W9 (.ok .next) l):
  wpAny (model X.prog X.w) X.A (newList []) (λf h=>wpAny (model X.prog X.w) X.A (newFunctionEnv scope X.env.globals cl [] X.env.qual ab .none (aa X.env)) (λe i =>
   gC (model X.prog X.w) X.A (.compStart (.ListComp dd [(tg,iter,c4,0)] scope pos) 0 (.ref it) f {e with scope:=relabel scope X.env}) (RR f e.locals) i) W8 h) W8 s2:=
 NI (PX:=λ_=>True) v u z B (λcl W9 ex d a xe _=>PE.to0 (y cl W9 ex d a)) q r p T n f2 hW j λ_ _ _ _ _=>trivial
variable{wi:TI}
def NJ(k:Nat)(js:LN)(Nc:LSt)(G:X.calm=ac)(hi:PI X tg iter wi)
 (M:∀cl W9 ex c a,PG (X.comp scope Nc cl W9 ex c a) tg g)(ht:∀cl W9 ex c a,PTs (X.comp scope Nc cl W9 ex c a) c4 tt)(L:∀cl W9 ex c a,PE (X.comp scope Nc cl W9 ex c a) dd te)
 (d:autoParam (lB scope X.env.scope.names X.N Nc k js=ac) Zb)(Y:autoParam (∀x,k8 iter X.env x=pure x) Zd):
  PE X (.ListComp dd [(tg,iter,c4,0)] scope pos) (oW k js wi g tt te):=by
 intro U s E H Q I h;have d:=oV.of d;have(cl,f,p,r):=Ft λx hx e=>I.ok.has x.1 (d.free x hx e);show wpAny_comprehension_free rfl Y f d.kind d.loc (thn (hi U s E H _ I h) λv s1 B=>thn B λitv s2 h2=>?_);have(it,fp,tn,J,H2,e,n,T,j,f2,hW):=h2;subst e;show Fw G d M ht L p r n T j f2 hW λD W9 s' H' l (m,hn) A q=>?_;have(u,f1,_,w,y,z):=A;show(m,hn,λh' i=>(.ref D,H',l.turned (λb o C e=>(i.2 b C).trans e) u f1 w y z,rfl,q))
variable{i:Nat}{x:Str}{b4 eL:Pos}
def yu(k:Nat)(js:LN)(Nc:LSt)(hN:X.N.Nodup)(p:X.N[i]?=aa x)(w:Loc X.env.scope x)(hc:X.calm=ac)(hi:PI X tg iter wi)
 (hg:∀cl W9 ex d c,PG (X.comp scope Nc cl W9 ex d c) tg g)(ht:∀cl W9 ex d c,PTs (X.comp scope Nc cl W9 ex d c) c4 tt)(he:∀cl W9 ex d c,PE (X.comp scope Nc cl W9 ex d c) dd te)
 (u:autoParam (f9 (.ListComp dd [(tg,iter,c4,0)] scope pos) (aa (.Name x b4)) eL.line X.env=pure ac) Zb)
 (f:autoParam (lB scope X.env.scope.names X.N Nc k js=ac) Zb)(hs:autoParam (∀x,k8 iter X.env x=pure x) Zd)
 (hf:autoParam (LcF X x) Zh):
  PS X (.Assign [.Name x b4] (.ListComp dd [(tg,iter,c4,0)] scope pos) eL) (jb (oW k js wi g tt te) (ib i)):=by
 intro U s E H D I h;have f:=oV.of f;rw[exec_Assign_Name_used _ _ _ _ u];show aj (wpAny_standAt (aj ?_));have(cl,n,L,M):=Ft λx w e=>I.ok.has x.1 (f.free x w e)
 show aj (fL (wpAny_comprehension_free rfl hs n f.kind f.loc
  (thn (hi U s E H _ I h) λv s1 h1=>thn h1 λitv s2 h2=>?_)) (λ_ s' hq=>aE (aE hq)) λ_ _ e=>e)
 have(it,fp,tn,J,H2,e,G,T,y,f2,hW):=h2;subst e;show Fw hc f hg ht he L M G T y f2 hW λB W9 s' H' C (m,hn) fC q=>?_;have(Q,f1,Y,f3,A,f5):=fC;show wpAny_assign_Name (EA (v:=.ref B) C hN p w rfl (λs'' j (a,sb,ha)=>?_) hf)
 have l:W9≠a:=by
  rcases ha with z |z
  .rw[z];show f1
  .show(A x a z).symm
 show(m,hn.sameBut sb l,λh' r=>(_,H',j.turned (λb o hb e=>(r.2 b hb).trans e) Q f1 f3 A f5,q))
def Fx:OpR X (cK .Is) (λx y H Q=>∃b,y=.bl b/\(x=.non\/∃c,x=.bl c)/\Q (.bl (decide (x=.bl b))) H):=by
 intro U s E H x y v u Q I a e h;have(b,rfl,d,q):=h;subst e
 rcases d with rfl |⟨c,rfl⟩
 .subst a
  show wpAny_is_plain rfl (bV I q (by cases b <;> rfl))
 .subst a
  show wpAny_is_plain rfl (bV I q (by cases b <;> cases c <;> rfl))
def Fy:OpR X (cK .IsNot) (λx y H Q=>∃b,y=.bl b/\(x=.non\/∃c,x=.bl c)/\Q (.bl (!decide (x=.bl b))) H):=by
 intro U s E H x y v u Q I a e h;have(b,rfl,d,q):=h;subst e
 rcases d with rfl |⟨c,rfl⟩
 .subst a
  show wpAny_isNot_plain rfl (bV I q (by cases b <;> rfl))
 .subst a
  show wpAny_isNot_plain rfl (bV I q (by cases b <;> cases c <;> rfl))
def NK(a:X.calm=ac):ie X (.builtin "sum") (λC H Q=>∃(p:Addr) (ns:LI0),C=[.ref p]/\SqL X.K H p (ns.map V.int)/\Q (.int ns.sum) H):=by
 intro U s E H C us Q I r h;have(p,ns,rfl,c,q):=h;have(u,rfl,g):=lz r;subst g;have(L,f,d,hz):=I.list c;have hi:=MS f;have(C,e):=hi.allInts.items;show sum_intListG (I.ok.hd a) (by rw[<- e];show d.isList) λh' i t' b=>?_
 have es:preSum (numAt C) C.size=ns.sum:=by
  rw[preSum_eq,tN (by simp),<- nums_intItems,<- e,hi.numsOf]
 rw[es];show(.int ns.sum,H,I.kept b,(_,rfl),q)
def NL:ie X (.builtin "isinstance") (λC H Q=>∃x T t b,C=[x,.ty T]/\gE X.K H x t/\W.kitOne X.K t (.type T)=aa b/\Q (.bl b) H):=by
 intro U s E H C us Q I r h;have(x,T,t,b,rfl,ty,e,q):=h;have(u,f,rfl,c,a):=EM r;cases (a);show MJ I c ty e λd=>(.bl b,H,I.tok d,rfl,q)
variable{C:LVv}
def aF.at'{us:LVa}{u:Value}(r:aF C us)(e:us[i]?=aa u):∃x,C[i]?=aa x/\aC x u:=by
 have b:=r.length;have hi:i<C.length:=by have:=(cX.mp e).1;lia
 show(C[i],by simp[hi],?_);have(c,e',a):=r.get (i:=i) (x:=C[i]) (by simp[hi]);rw[e]at e';cases e';show a
def oX{env:Env}{a:ga}(b:a≠.free):∀{names:List (Str×ga)} {x:Str},names.lookup x=aa a ->
  (names.map λ(n,k,)=>if (k==fO && env.scope.kind==.function && env.kindOf n==aa .cell) then (n,mE,) else (n,k,)).lookup x=aa a
 | [],_,h=>by simp at h
 |(n,k,)::r,x,h=>by
  have c:=@oX env a b r x
  grind
def NM(h:Vis scope x):Vis (relabel scope env) x:=by
 rcases h with h |h |h
 .show .inl (oX (by decide) h)
 .show .inr (.inl (oX (by decide) h))
 .rcases yq h with z |z
  .show .inr (.inl z)
  .show .inr (.inr z)
variable{W9:Addr}{ex:LAd}{cc:ah}{cs:Hp}
def pvc{cl:List (Str×Addr)}(i:Nat)(b:autoParam (Nc[i]?=aa x) Zb)(hv:autoParam (Vis scope x) Ze)(hd:autoParam (NDb x) Zc)
 (a:autoParam (NCd x) Zc):PE (X.comp scope Nc cl W9 ex cc cs) (.Name x pos) (cE i):=lx b (NM hv) hd a
def pgc{cl:List (Str×Addr)}(i:Nat)(b:autoParam (Nc.Nodup) Zn)(hi:autoParam (Nc[i]?=aa x) Zb)(a:autoParam (scope.names.lookup x=aa .local) Zb):PG (X.comp scope Nc cl W9 ex cc cs) (.Name x pos) (ib i):=
 xK b hi (.inl (oX (by decide) a)) (.inr (oX (by decide) a))
def glc{cl:List (Str×Addr)}(h:scope.names.lookup x=aa .globalImplicit):Gl (X.comp scope Nc cl W9 ex cc cs) x:=oX (by decide) h
variable{p:Addr}
def bO{o:HO}(h:H p=ab):aq H (upd H p o):=λb u e=>by rw[aK (fq e h)];show e
variable{K:aQ}{H':Hp}{a:Addr}
def aq.tup(e:aq H H')(h:SqT K H a C):SqT K H' a C:=by
 rcases h with(h |⟨o,h⟩) |h
 .show .inl (.inl (e _ _ h))
 .show .inl (.inr (o,e _ _ h))
 .show .inr h
def lC(p:Addr)(H H':Hp):Prop:=∀b o,H b=aa o->b≠p->H' b=aa o
def lC.refl(p:Addr)(H:Hp):lC p H H:=λ_ _ h _=>h
variable{H1:Hp}
def lC.trans(a:lC p H H1)(b:lC p H1 H2):lC p H H2:=λc o h n=>b c o (a c o h n) n
def lC.seq(e:lC p H H')(n:a≠p)(h:SqL K H a C):SqL K H' a C:=by
 rcases h with(h |⟨o,h⟩) |h
 .show .inl (.inl (e _ _ h n))
 .show .inl (.inr (o,e _ _ h n))
 .show .inr h
def yv(K:aQ)(H:Hp)(W6:Addr)(L:LII):Prop:=
 ∃a:List (Addr×Int×Int),SqL K H W6 (a.map λz=>V.ref z.1)/\(∀z∈a,SqT K H z.1 [.int z.2.1,.int z.2.2])/\L=a.map (·.2)/\a.length<=1000
def cF(p:Option Bool->Bool)(es:LOB)(L:LII):Int:=((L.filter λz=>p (es.getD z.1.toNat ab)).map (·.2)).sum
inductive Prt where
 |inn (t:Int) |out (t:Int) |least (k:Int) (L:LII) |most (k:Int) (L:LII)
abbrev NN(K:aQ)(H:Hp)(p:Addr):Prt->Prop
 |.inn t=>SqT K H p [.str "in",.int t]
 |.out t=>SqT K H p [.str "out",.int t]
 |.least k L=>∃W6,SqT K H p [.str "least",.int k,.ref W6]/\yv K H W6 L
 |.most k L=>∃W6,SqT K H p [.str "most",.int k,.ref W6]/\yv K H W6 L
def bs(l:LB0):LOB:=l.map aa
abbrev Prt.holds(B ws:LB0):Prt->Bool
 |.inn t=>(B.getD t.toNat af)
 |.out t=>!(ws.getD t.toNat af)
 |.least k L=>decide (k<=cF (·==aa ac) (bs B) L)
 |.most k L=>decide (cF (·==aa ac) (bs ws) L<=k)
variable{h':Heap}
section
variable{s:ah}
def Inv.turnedMany{t':Nat}{ch:LAd}(I:Inv X U E H s)(k:∀b o,b∉ch->s.heap.get? b=aa o->h'.get? b=aa o)(d:∀b∈ch,ic X U H b):Inv X U E H {s with heap:=h',toks:=t'}:=by
 show I.step (λb j=>?_) (λb o _ _ a e _=>k b o a e) (λb o _ _ a e _=>(o.slots,k b o a e)) (λ_ _ _ _ n=>n)
  (λb o a e=>(o,k b o a e)) (λ_ _ e=>e) (λ_ _ _ e=>e) (λb ps e=>(#[],by rw[e];simp)) (λm hm=>?_) (λb u e=>?_) I.bare
 .have(_,f1,_,g,h,i):=d b j;show(g,f1,h,i)
 .have(o,es,f,l,r):=hm;show(o,es,f,k _ o (λz=>(d _ z).2.1 rfl) l,r)
 .show(I.hok b u e).stay (λc v a q=>k c v (λz=>?_) q) (λ_ q=>q) λ_ _ q=>q;have hn:=(d c z).1
  rcases a with y |y
  .rw[y,e]at hn;nomatch hn
  .rw[hn]at y;nomatch y
end
def Inv.track{s:ah}{o:HO}(I:Inv X U E H s)(f:ic X U H p)(l:dQ X.prog X.w (upd H p o) s.heap p o):Inv X U E (upd H p o) s:=by
 have(g,f1,f2,h,i,j):=f;have ne:∀b u,H b=aa u->b≠p:=λb u e=>fq e g;have one:∀b:Addr,b∉[p]->b≠p:=λb a z=>a (by rw[z];simp)
 show I.step (ch:=[p]) (λb a=>?_) (λb o _ _ d e _=>e) (λb o _ _ d e _=>(o.slots,e)) (λb o d e n=>?_)
  (λb o d e=>(o,e)) (λb C e=>?_) (λb o u e=>?_) (λb ps e=>(#[],?_)) (λm hm=>hm) (λb u e=>?_) I.bare
 .have e:b=p:=by simpa using a
  subst e;show(h,f1,i,j)
 .rw[aK (one b d)];show n
 .rw[aK (ne b _ e)];show e
 .rw[aK (ne b _ e)];show e
 .rw[aK (ne b _ e),e];rfl
 .by_cases a:b=p
  .subst a;rw[aY]at e;cases e;show l
  .rw[aK a]at e;show(I.hok b u e).stay (λc v _ q=>q) (λc q=>by rw[aK (ne c _ q)];show q) λc C q=>by rw[aK (ne c _ q)];show q
def bR(p:Int->Bool)(L:LII):Int:=((L.filter λz=>p z.1).map (·.2)).sum
def jI(p:Option Bool->Bool)(es:LOB)(L:LII):cF p es L=bR (λt=>p (es.getD t.toNat ab)) L:=rfl
def Fz(p q:Int->Bool)(L:LII):bR p (L.filter λz=>q z.1)=bR (λt=>p t && q t) L:=by
 unfold bR;rw[filter_filter]
abbrev Prt.sure(es:LOB):Prt->Bool
 |.inn t=>es.getD t.toNat ab==aa ac
 |.out t=>es.getD t.toNat ab==aa af
 |.least k L=>decide (k<=cF (·==aa ac) es L)
 |.most k L=>decide (cF (λe=>!(e==aa af)) es L<=k)
abbrev Prt.lost(es:LOB)(ws:LB0):Prt->Bool
 |.inn t=>(es.getD t.toNat ab==aa af) || ws.getD t.toNat af
 |.out t=>es.getD t.toNat ab==aa ac
 |.least k L=>decide (bR (λt=>!(es.getD t.toNat ab==aa af) && !(ws.getD t.toNat af)) L<k)
 |.most k L=>decide (k<cF (·==aa ac) es L)
abbrev FA(W6:Addr)(L:LII)(vs:LVv):Prt->Prop
 |.inn t=>vs=[.str "in",.int t]
 |.out t=>vs=[.str "out",.int t]
 |.least k i=>vs=[.str "least",.int k,.ref W6]/\i=L
 |.most k i=>vs=[.str "most",.int k,.ref W6]/\i=L
variable{vs:LVv}
def FA.at{W6:Addr}{L:LII}{r:Prt}(t:FA W6 L vs r)(a:H p=aa (.tup vs))(b:yv K H W6 L):NN K H p r:=by
 cases r with
 |inn t'=>subst t;show SqT.of a
 |out t'=>subst t;show SqT.of a
 |least k i=>have(rfl,rfl):=t;show(W6,SqT.of a,b)
 |most k i=>have(rfl,rfl):=t;show(W6,SqT.of a,b)
inductive D where
 |non
 |bl (b:Bool)
 |int (i:Int)
 |str (x:Str)
 |lst (C:List D)
 |tup (C:List D)
 |kl (C:List D)
 |kt (C:List D)
 |dic (ks:List Key) (C:List D)
 |ins (c:Str) (ns:LSt) (C:List D)
 |kd (ks:List Key) (C:List D)
 |dT (ks:List (List Key)) (C:List D)
 deriving Inhabited
nonrec abbrev OD:=Option D
nonrec abbrev LD:=List D
nonrec abbrev OLD:=Option LD
set_option genInjectivity false in
structure Gc where
 K:aQ
 cl:Str->Addr
mutual
def Rep(G:Gc)(H:Hp):D->V->Prop
 |.non,v=>v=.non
 |.bl b,v=>v=.bl b
 |.int i,v=>v=.int i
 |.str x,v=>v=.str x
 |.lst ds,v=>∃a vs,v=.ref a/\H a=aa (.lst vs)/\ak G H ds vs
 |.tup ds,v=>∃a vs,v=.ref a/\H a=aa (.tup vs)/\ak G H ds vs
 |.kl ds,v=>∃a vs,v=.ref a/\SqL G.K H a vs/\ak G H ds vs
 |.kt ds,v=>∃a vs,v=.ref a/\SqT G.K H a vs/\ak G H ds vs
 |.dic ks ds,v=>∃a vs,v=.ref a/\H a=aa (.dK (ks.zip vs))/\ks.length=vs.length/\ak G H ds vs
 |.ins c ns ds,v=>∃a dx vs,v=.ref a/\H a=aa (.ins (G.cl c) dx (ns.zip vs))/\ns.length=vs.length/\ak G H ds vs
 |.kd ks ds,v=>∃a od vs,v=.ref a/\H a=aa (.frz od (.dK (ks.zip vs)))/\ks.length=vs.length/\ak G H ds vs
 |.dT ks ds,v=>∃a vs,v=.ref a/\H a=aa (.dT (ks.zip vs))/\ks.length=vs.length/\ak G H ds vs
def ak(G:Gc)(H:Hp):LD->LVv->Prop
 | [],vs=>vs=[]
 |d::ds,vs=>∃v r,vs=v::r/\Rep G H d v/\ak G H ds r
end
mutual
theorem Rep.upM(s:aq H H'):∀(d:D) (v:V),Rep G H d v->Rep G H' d v
 |.non,_,h=>h
 |.bl _,_,h=>h
 |.int _,_,h=>h
 |.str _,_,h=>h
 |.lst ds,_,h_=>by have(a,vs,e,q,r):=h_;show(a,vs,e,s _ _ q,ak.upM s ds vs r)
 |.tup ds,_,h_=>by have(a,vs,e,q,r):=h_;show(a,vs,e,s _ _ q,ak.upM s ds vs r)
 |.kl ds,_,h_=>by have(a,vs,e,q,r):=h_;show(a,vs,e,s.seq q,ak.upM s ds vs r)
 |.kt ds,_,h_=>by have(a,vs,e,q,r):=h_;show(a,vs,e,s.tup q,ak.upM s ds vs r)
 |.dic _ ds,_,h_=>by have(a,vs,e,q,l,r):=h_;show(a,vs,e,s _ _ q,l,ak.upM s ds vs r)
 |.ins _ _ ds,_,h_=>by have(a,dx,vs,e,q,l,r):=h_;show(a,dx,vs,e,s _ _ q,l,ak.upM s ds vs r)
 |.kd _ ds,_,h_=>by have(a,od,vs,e,q,l,r):=h_;show(a,od,vs,e,s _ _ q,l,ak.upM s ds vs r)
 |.dT _ ds,_,h_=>by have(a,vs,e,q,l,r):=h_;show(a,vs,e,s _ _ q,l,ak.upM s ds vs r)
theorem ak.upM(s:aq H H'):∀(ds:LD) (vs:LVv),ak G H ds vs->ak G H' ds vs
 | [],_,h=>h
 |d::ds,_,h_=>by have(v,r,e,a,h2):=h_;show(v,r,e,Rep.upM s d v a,ak.upM s ds r h2)
end
variable{G:Gc}{d:D}{v:V}
def Rep.up(r:Rep G H d v)(s:aq H H'):Rep G H' d v:=Rep.upM s d v r
variable{ds:LD}
def ak.up(r:ak G H ds vs)(s:aq H H'):ak G H' ds vs:=ak.upM s ds vs r
def ak.nil:ak G H [] []:=rfl
def ak.cons(h:Rep G H d v)(t:ak G H ds vs):ak G H (d::ds) (v::vs):=(v,vs,rfl,h,t)
def ak.length:∀{ds:LD} {vs:LVv},ak G H ds vs->ds.length=vs.length
 | [],_,h=>by cases (h);rfl
 |d::ds,_,(v,r,e,_,h)=>by subst e;simp[ak.length h]
def ak.append:∀{ds es:LD} {vs us:LVv},ak G H ds vs->ak G H es us->ak G H (ds++es) (vs++us)
 | [],_,_,_,h,t=>by cases (h);show t
 |d::ds,_,_,_,(v,r,e,h1,h2),t=>by subst e;show(v,r++_,rfl,h1,ak.append h2 t)
def ak.get:∀{ds:LD} {vs:LVv} {i:Nat} {d:D},ak G H ds vs->ds[i]?=aa d->∃v,vs[i]?=aa v/\Rep G H d v
 | [],_,_,_,_,e=>by simp at e
 |d::ds,_,0,_,(v,r,e,h1,_),e'=>by subst e;simp at e';subst e';show(v,rfl,h1)
 |d::ds,_,i+1,d',q4_,e'=>by
  have(v,r,e,_,h2):=q4_;subst e;have(u,a,b):=ak.get h2 (by simpa using e');show(u,by simpa using a,b)
def ak.get':∀{ds:LD} {vs:LVv} {i:Nat} {v:V},ak G H ds vs->vs[i]?=aa v->∃d,ds[i]?=aa d/\Rep G H d v:=λ{ds vs i v} h e=>by
 have c:=h.length;have hi:i<ds.length:=by have:=(cX.mp e).1;lia
 have(u,a,b):=h.get (i:=i) (d:=ds[i]) (by simp[hi]);rw[e]at a;cases a;show(ds[i],by simp[hi],b)
def ak.ints:∀(ns:LI0),ak G H (ns.map D.int) (ns.map V.int)
 | []=>rfl
 |n::ns=>(_,_,rfl,rfl,ak.ints ns)
def ak.take:∀{ds:LD} {vs:LVv} (n:Nat),ak G H ds vs->ak G H (ds.take n) (vs.take n)
 | _,_,0,_=>rfl
 | [],_,n+1,h=>by cases (h);rfl
 |d::ds,_,n+1,(v,r,e,h1,h2)=>by subst e;show(v,r.take n,rfl,h1,ak.take n h2)
def ak.drop:∀{ds:LD} {vs:LVv} (n:Nat),ak G H ds vs->ak G H (ds.drop n) (vs.drop n)
 | _,_,0,h=>h
 | [],_,n+1,h=>by cases (h);rfl
 |d::ds,_,n+1,(v,r,e,h1,h2)=>by subst e;show ak.drop n h2
def ak.reverse:∀{ds:LD} {vs:LVv},ak G H ds vs->ak G H ds.reverse vs.reverse
 | [],_,h=>by cases (h);rfl
 |d::ds,_,q2_=>by
  have(v,r,e,a,h2):=q2_;subst e;rw[iW,iW];show(ak.reverse h2).append (.cons a .nil)
def ak.set:∀{ds:LD} {vs:LVv} (i:Nat) {d:D} {v:V},ak G H ds vs->Rep G H d v->ak G H (ds.set i d) (vs.set i v)
 | [],_,_,_,_,h,_=>by cases (h);show .nil
 |e::ds,_,0,_,_,(v,r,e',_,h2),q=>by subst e';show(_,r,rfl,q,h2)
 |e::ds,_,i+1,_,_,(v,r,e',h1,h2),q=>by subst e';show(v,r.set i _,rfl,h1,ak.set i h2 q)
abbrev iF:HO->Bool
 |.tup _=>ac
 | _=>af
structure Ext(Hf H Hf' H':Hp):Prop where
 f:aq Hf Hf'
 h:aq H H'
 s:aq Hf' H'
 n:∀l o,H l=aa o->iF o=af->Hf' l=Hf l
variable{Hf:Hp}
def Ext.refl(s:aq Hf H):Ext Hf H Hf H:=(aq.refl _,aq.refl _,s,λ_ _ _ _=>rfl)
variable{b3 bm:Hp}
def Ext.trans(a:Ext Hf H b3 H1)(b:Ext b3 H1 bm H2):Ext Hf H bm H2:=(a.f.trans b.f,a.h.trans b.h,b.s,λl o e t=>(b.n l o (a.h l o e) t).trans (a.n l o e t))
def Ext.new{o:HO}(s:aq Hf H)(h:H p=ab):Ext Hf H (upd Hf p o) (upd H p o):=
 (bO (s.free h),bO h,λb u e=>by
  by_cases a:b=p
  .subst a;rw[aY]at e ⊢;show e
  .rw[aK a]at e ⊢;show s b u e,λl u e _=>by rw[aK (fq e h)])
def Ext.tmp{o:HO}(s:aq Hf H)(h:H p=ab):Ext Hf H Hf (upd H p o):=(aq.refl _,bO h,s.trans (bO h),λ_ _ _ _=>rfl)
def Ext.grow(s:aq Hf H)(g:aq H H1):Ext Hf H Hf H1:=(aq.refl _,g,s.trans g,λ_ _ _ _=>rfl)
def Ext.fix{o:HO}(a:Ext Hf H b3 H1)(hn:H p=ab)(d:b3 p=ab)(g:H1 p=aa o):Ext Hf H (upd b3 p o) H1:=
 (a.f.trans (bO d),a.h,λb u e=>by
  by_cases c:b=p
  .subst c;rw[aY]at e;rw[g];show e
  .rw[aK c]at e;show a.s b u e,λl u e t=>by rw[aK (fq e hn)];show a.n l u e t)
inductive O where
 |fz (d:D)
 |lst (C:List O)
 |tup (C:List O)
 |dic (ks:List Key) (C:List O)
 |ins (c:Str) (ns:LSt) (C:List O)
 |jnk (n:Nat)
 |dT (ks:List (List Key)) (C:List O)
 |at (l:Addr) (o:O)
 |any
 deriving Inhabited
mutual
def OT(G:Gc)(Hf H:Hp):O->V->LAd->Prop
 |.fz d,v,fp=>Rep G Hf d v/\fp=[]
 |.lst os,v,fp=>∃a vs fs,v=.ref a/\H a=aa (.lst vs)/\OTs G Hf H os vs fs/\fp=a::fs
 |.tup os,v,fp=>∃a vs,v=.ref a/\H a=aa (.tup vs)/\OTs G Hf H os vs fp
 |.dic ks os,v,fp=>∃a vs fs,v=.ref a/\H a=aa (.dK (ks.zip vs))/\ks.length=vs.length/\OTs G Hf H os vs fs/\fp=a::fs
 |.ins c ns os,v,fp=>∃a dx vs fs,v=.ref a/\H a=aa (.ins (G.cl c) dx (ns.zip vs))/\ns.length=vs.length/\OTs G Hf H os vs fs/\fp=a::fs
 |.jnk n,v,fp=>∃a vs,v=.ref a/\H a=aa (.lst vs)/\vs.length<=n/\fp=[a]
 |.dT ks os,v,fp=>∃a vs fs,v=.ref a/\H a=aa (.dT (ks.zip vs))/\ks.length=vs.length/\OTs G Hf H os vs fs/\fp=a::fs
 |.at l o,v,fp=>v=.ref l/\OT G Hf H o v fp
 |.any,_,fp=>fp=[]
def OTs(G:Gc)(Hf H:Hp):List O->LVv->LAd->Prop
 | [],vs,fp=>vs=[]/\fp=[]
 |o::os,vs,fp=>∃v r f1 f2,vs=v::r/\OT G Hf H o v f1/\OTs G Hf H os r f2/\fp=f1++f2
end
mutual
noncomputable def O.toD:O->D
 |.fz d=>d
 |.lst os=>.lst (O.toDs os)
 |.tup os=>.tup (O.toDs os)
 |.dic ks os=>.dic ks (O.toDs os)
 |.ins c ns os=>.ins c ns (O.toDs os)
 |.at _ o=>o.toD
 |.jnk _=>.non
 |.dT ks os=>.dT ks (O.toDs os)
 |.any=>.non
noncomputable def O.toDs:List O->LD
 | []=>[]
 |o::os=>o.toD::O.toDs os
end
mutual
noncomputable def O.kn:O->Bool
 |.fz _=>ac
 |.lst os=>O.kns os
 |.tup os=>O.kns os
 |.dic _ os=>O.kns os
 |.ins _ _ os=>O.kns os
 |.at _ o=>o.kn
 |.jnk _=>af
 |.dT _ os=>O.kns os
 |.any=>af
noncomputable def O.kns:List O->Bool
 | []=>ac
 |o::os=>o.kn && O.kns os
end
mutual
theorem OT.frameM(f:aq Hf Hf'):∀(o:O) (v:V) (fp:LAd),OT G Hf H o v fp->(∀b u,H b=aa u->(iF u=ac\/b∈fp)->H' b=aa u)->OT G Hf' H' o v fp
 |.fz d,_,_,h,_=>(h.1.up f,h.2)
 |.lst os,_,fp,h_,k=>by have(a,vs,fs,e,q,r,g):=h_;show(a,vs,fs,e,k _ _ q (.inr (by rw[g];show az)),OTs.frameM f os vs fs r (λb u i hm=>k b u i (hm.imp_right λz=>by rw[g];show bi _ z)),g)
 |.tup os,_,fp,h_,k=>by have(a,vs,e,q,r):=h_;show(a,vs,e,k _ _ q (.inl rfl),OTs.frameM f os vs fp r k)
 |.dic ks os,_,fp,h_,k=>by have(a,vs,fs,e,q,z,r,g):=h_;show(a,vs,fs,e,k _ _ q (.inr (by rw[g];show az)),z,OTs.frameM f os vs fs r (λb u i hm=>k b u i (hm.imp_right λz=>by rw[g];show bi _ z)),g)
 |.ins c ns os,_,fp,h_,k=>by have(a,dx,vs,fs,e,q,z,r,g):=h_;show(a,dx,vs,fs,e,k _ _ q (.inr (by rw[g];show az)),z,OTs.frameM f os vs fs r (λb u i hm=>k b u i (hm.imp_right λz=>by rw[g];show bi _ z)),g)
 |.jnk n,_,fp,h_,k=>by have(a,vs,e,q,z,g):=h_;show(a,vs,e,k _ _ q (.inr (by rw[g];show az)),z,g)
 |.dT ks os,_,fp,h_,k=>by have(a,vs,fs,e,q,z,r,g):=h_;show(a,vs,fs,e,k _ _ q (.inr (by rw[g];show az)),z,OTs.frameM f os vs fs r (λb u i hm=>k b u i (hm.imp_right λz=>by rw[g];show bi _ z)),g)
 |.at _ o,v,fp,h_,k=>by have(e,r):=h_;show(e,OT.frameM f o v fp r k)
 |.any,_,_,h,_=>h
theorem OTs.frameM(f:aq Hf Hf'):∀(os:List O) (vs:LVv) (fp:LAd),OTs G Hf H os vs fp->(∀b u,H b=aa u->(iF u=ac\/b∈fp)->H' b=aa u)->OTs G Hf' H' os vs fp
 | [],_,_,h,_=>h
 |o::os,_,fp,h_,k=>by have(v,r,f1,f2,e,d,h2,a):=h_;show(v,r,f1,f2,e,OT.frameM f o v f1 d (λb u c hm=>k b u c (hm.imp_right λz=>by rw[a];show bZ _ z)),OTs.frameM f os r f2 h2 (λb u c hm=>k b u c (hm.imp_right λz=>by rw[a];show cv _ z)),a)
end
variable{Hf':Hp}
def OT.frame{o:O}(h:OT G Hf H o v fp)(f:aq Hf Hf')(k:∀b u,H b=aa u->(iF u=ac\/b∈fp)->H' b=aa u):OT G Hf' H' o v fp:=OT.frameM f o v fp h k
def OT.up{o:O}(h:OT G Hf H o v fp)(f:aq Hf Hf')(s:aq H H'):OT G Hf' H' o v fp:=h.frame f λb u e _=>s b u e
def ux{a b:Type}:∀{ks:List a} {vs us:List b},ks.length=vs.length->ks.length=us.length->ks.zip vs=ks.zip us->vs=us
 | [],[],[],_,_,_=>rfl
 |k::ks,v::vs,u::us,h1,h2,e=>by
  injection e with e1 e2
  injection e1 with _ e3
  rw[e3,ux (by simpa using h1) (by simpa using h2) e2]
 | [],_::_,_,h,_,_=>by cases h
 | [],[],_::_,_,h,_=>by cases h
 | _::_,[],_,h,_,_=>by cases h
 | _::_,_::_,[],_,h,_=>by cases h
mutual
theorem OT.funM:∀(o:O) (v:V) (f p:LAd),OT G Hf H o v f->OT G Hf' H o v p->f=p
 |.fz d,_,_,_,h,h'=>h.2.trans h'.2.symm
 |.lst os,_,_,_,q4_,q5_=>by
  have(a,vs,fs,e,q,r,l):=q4_;have(w,j,g,e',i,m,b):=q5_;subst e l b;cases e';rw[q]at i;cases i
  rw[OTs.funM os vs fs g r m]
 |.tup os,_,f,p,q4_,q5_=>by
  have(a,vs,e,q,r):=q4_;have(w,j,e',i,m):=q5_;subst e;cases e';rw[q]at i;cases i
  show OTs.funM os vs f p r m
 |.dic ks os,_,_,_,q4_,q5_=>by
  have(a,vs,fs,e,q,z,r,l):=q4_;have(w,j,g,e',i,u,m,b):=q5_;subst e l b;cases e';rw[q]at i;have:=ux z u (HO.dK.inj (dh i));subst this
  rw[OTs.funM os vs fs g r m]
 |.ins c ns os,_,_,_,q4_,q5_=>by
  have(a,dx,vs,fs,e,q,z,r,l):=q4_;have(w,x,j,g,e',i,u,m,b):=q5_;subst e l b;cases e';rw[q]at i;have:=ux z u (HO.ins.inj (dh i)).2.2;subst this
  rw[OTs.funM os vs fs g r m]
 |.jnk n,_,_,_,q4_,q5_=>by
  have(a,vs,e,q,z,l):=q4_;have(w,j,e',i,u,b):=q5_;subst e l b;cases e'
  rfl
 |.dT ks os,_,_,_,q4_,q5_=>by
  have(a,vs,fs,e,q,z,r,l):=q4_;have(w,j,g,e',i,u,m,b):=q5_;subst e l b;cases e';rw[q]at i;have:=ux z u (HO.dT.inj (dh i));subst this
  rw[OTs.funM os vs fs g r m]
 |.at _ o,v,f,p,h,h'=>OT.funM o v f p h.2 h'.2
 |.any,_,_,_,h,h'=>(show _=[]from h).trans (show _=[]from h').symm
theorem OTs.funM:∀(os:List O) (vs:LVv) (f i:LAd),OTs G Hf H os vs f->OTs G Hf' H os vs i->f=i
 | [],_,_,_,h,h'=>h.2.trans h'.2.symm
 |o::os,_,_,_,q4_,q5_=>by
  have(v,r,f1,f2,e,l,h2,j):=q4_;have(n,m,b,c,e',d,g,a):=q5_;subst e j a;cases e';rw[OT.funM o v f1 b l d,OTs.funM os r f2 c h2 g]
end
mutual
theorem OT.memM:∀(o:O) (v:V) (f:LAd),OT G Hf H o v f->∀a∈f,∃u,H a=aa u/\iF u=af
 |.fz d,_,_,h,a,ha=>by rw[h.2]at ha;cases ha
 |.lst os,_,_,q3_,b,hb=>by
  have(a,vs,fs,e,q,r,g):=q3_;subst g
  rcases aX.mp hb with z |z
  .subst z;show(_,q,rfl)
  .show OTs.memM os vs fs r b z
 |.tup os,_,f,(a,vs,e,q,r),b,hb=>OTs.memM os vs f r b hb
 |.dic ks os,_,_,q3_,b,hb=>by
  have(a,vs,fs,e,q,z,r,g):=q3_;subst g
  rcases aX.mp hb with z |z
  .subst z;show(_,q,rfl)
  .show OTs.memM os vs fs r b z
 |.ins c ns os,_,_,q3_,b,hb=>by
  have(a,dx,vs,fs,e,q,z,r,g):=q3_;subst g
  rcases aX.mp hb with z |z
  .subst z;show(_,q,rfl)
  .show OTs.memM os vs fs r b z
 |.jnk n,_,_,q3_,b,hb=>by
  have(a,vs,e,q,z,g):=q3_;subst g;rw[bB.mp hb]
  show(_,q,rfl)
 |.dT ks os,_,_,q3_,b,hb=>by
  have(a,vs,fs,e,q,z,r,g):=q3_;subst g
  rcases aX.mp hb with z |z
  .subst z;show(_,q,rfl)
  .show OTs.memM os vs fs r b z
 |.at _ o,v,f,h,a,ha=>OT.memM o v f h.2 a ha
 |.any,_,_,h,a,ha=>by rw[show _=[]from h]at ha;cases ha
theorem OTs.memM:∀(os:List O) (vs:LVv) (f:LAd),OTs G Hf H os vs f->∀a∈f,∃u,H a=aa u/\iF u=af
 | [],_,_,h,a,ha=>by rw[h.2]at ha;cases ha
 |o::os,_,_,q3_,a,ha=>by
  have(v,r,f1,f2,e,c,h2,b):=q3_;subst b
  rcases bv.mp ha with z |z
  .show OT.memM o v f1 c a z
  .show OTs.memM os r f2 h2 a z
end
mutual
theorem OT.repM(s:aq Hf H):∀(o:O) (v:V) (f:LAd),o.kn=ac->OT G Hf H o v f->Rep G H o.toD v
 |.fz d,_,_,_,h=>by rw[O.toD];show h.1.up s
 |.lst os,_,_,hk,h_=>by have(a,vs,fs,e,q,r,b):=h_;rw[O.kn]at hk;rw[O.toD];show(a,vs,e,q,OTs.repM s os vs fs hk r)
 |.tup os,_,f,hk,h_=>by have(a,vs,e,q,r):=h_;rw[O.kn]at hk;rw[O.toD];show(a,vs,e,q,OTs.repM s os vs f hk r)
 |.dic ks os,_,_,hk,h_=>by have(a,vs,fs,e,q,z,r,b):=h_;rw[O.kn]at hk;rw[O.toD];show(a,vs,e,q,z,OTs.repM s os vs fs hk r)
 |.ins c ns os,_,_,hk,h_=>by have(a,dx,vs,fs,e,q,z,r,b):=h_;rw[O.kn]at hk;rw[O.toD];show(a,dx,vs,e,q,z,OTs.repM s os vs fs hk r)
 |.at _ o,v,f,hk,h=>by rw[O.kn]at hk;rw[O.toD];show OT.repM s o v f hk h.2
 |.jnk _,_,_,hk,_=>by rw[O.kn]at hk;cases hk
 |.dT ks os,_,_,hk,h_=>by have(a,vs,fs,e,q,z,r,b):=h_;rw[O.kn]at hk;rw[O.toD];show(a,vs,e,q,z,OTs.repM s os vs fs hk r)
 |.any,_,_,hk,_=>by rw[O.kn]at hk;cases hk
theorem OTs.repM(s:aq Hf H):∀(os:List O) (vs:LVv) (f:LAd),O.kns os=ac->OTs G Hf H os vs f->ak G H (O.toDs os) vs
 | [],_,_,_,h=>by rw[O.toDs];show h.1
 |o::os,_,_,hk,h_=>by
  have(v,r,f1,f2,e,a,h2,b):=h_;rw[O.kns,ca]at hk;rw[O.toDs];show(v,r,e,OT.repM s o v f1 hk.1 a,OTs.repM s os r f2 hk.2 h2)
end
def OT.rep{o:O}{f:LAd}(h:OT G Hf H o v f)(s:aq Hf H)(a:o.kn=ac):Rep G H o.toD v:=OT.repM s o v f a h
def OTs.fz:∀{ds:LD} {vs:LVv},ak G Hf ds vs->OTs G Hf H (ds.map .fz) vs []
 | [],_,h=>(h,rfl)
 |d::ds,_,(v,r,e,h1,h2)=>(v,r,[],[],e,(h1,rfl),OTs.fz h2,rfl)
def rf(ds:LD):O.toDs (ds.map .fz)=ds:=by
 induction ds with
 |nil=>rfl
 |cons d ds a=>rw[bD,O.toDs,O.toD,a]
inductive Sl where
 |no
 |im (d:D)
 |own (C:LD)
 |ownd (ks:List Key) (C:LD)
 |obj (c:Str) (ns:LSt) (C:LD)
 |pin (l:Addr) (C:LD)
 |pind (l:Addr) (ks:List Key) (C:LD)
 |pino (l:Addr) (c:Str) (ns:LSt) (C:LD)
 |deep (o:O)
 |val (u:V)
nonrec abbrev LS:=List Sl
nonrec def nZ{a:Type}:LS->Option (List a):=λ_=>aa []
nonrec def kY:LS->Option Bool:=λ_=>aa ac
nonrec def kN:LS->OD:=λ_=>aa .non
nonrec def kI(i:Int):LS->OD:=λ_=>aa (.int i)
nonrec def kSt(x:Str):LS->OD:=λ_=>aa (.str x)
nonrec def kBl(b:Bool):LS->OD:=λ_=>aa (.bl b)
nonrec abbrev MF1:=LS->OD
nonrec abbrev MF2:=LS->OLD
nonrec abbrev MF4:=LS->Option Bool
abbrev Sl.isOwn:Sl->Bool
 |.own _=>ac
 |.ownd _ _=>ac
 |.obj _ _ _=>ac
 |.pin _ _=>ac
 |.pind _ _ _=>ac
 |.pino _ _ _ _=>ac
 | _=>af
abbrev Sl.calm:Sl->Bool
 |.no=>ac
 |.im _=>ac
 | _=>af
abbrev jf(G:Gc)(Hf H:Hp)(l:Addr):Sl->Prop
 |.own ds=>∃vs,H l=aa (.lst vs)/\ak G Hf ds vs
 |.ownd ks ds=>∃vs,H l=aa (.dK (ks.zip vs))/\ks.length=vs.length/\ak G Hf ds vs
 |.obj c ns ds=>∃dx vs,H l=aa (.ins (G.cl c) dx (ns.zip vs))/\ns.length=vs.length/\ak G Hf ds vs
 |.pin a ds=>l=a/\∃vs,H l=aa (.lst vs)/\ak G Hf ds vs
 |.pind a ks ds=>l=a/\∃vs,H l=aa (.dK (ks.zip vs))/\ks.length=vs.length/\ak G Hf ds vs
 |.pino a c ns ds=>l=a/\∃dx vs,H l=aa (.ins (G.cl c) dx (ns.zip vs))/\ns.length=vs.length/\ak G Hf ds vs
 | _=>False
variable{l:Addr}
def jf.there2{s:Sl}(h:jf G Hf H l s):∃o,H l=aa o/\iF o=af:=by
 cases s with
 |own ds=>have(vs,h,_):=h;show(_,h,rfl)
 |ownd ks ds=>have(vs,h,_):=h;show(_,h,rfl)
 |obj c ns ds=>have(dx,vs,h,_):=h;show(_,h,rfl)
 |pin a ds=>have(_,vs,h,_):=h;show(_,h,rfl)
 |pind a ks ds=>have(_,vs,h,_):=h;show(_,h,rfl)
 |pino a c ns ds=>have(_,dx,vs,h,_):=h;show(_,h,rfl)
 | _=>show h.elim
def jf.up{s:Sl}(h:jf G Hf H l s)(f:aq Hf Hf')(e:∀o,H l=aa o->H' l=aa o):jf G Hf' H' l s:=by
 cases s with
 |own ds=>have(vs,h,r):=h;show(vs,e _ h,r.up f)
 |ownd ks ds=>have(vs,h,z,r):=h;show(vs,e _ h,z,r.up f)
 |obj c ns ds=>have(dx,vs,h,z,r):=h;show(dx,vs,e _ h,z,r.up f)
 |pin a ds=>have(q,vs,h,r):=h;show(q,vs,e _ h,r.up f)
 |pind a ks ds=>have(q,vs,h,z,r):=h;show(q,vs,e _ h,z,r.up f)
 |pino a c ns ds=>have(q,dx,vs,h,z,r):=h;show(q,dx,vs,e _ h,z,r.up f)
 | _=>show h.elim
abbrev gG(G:Gc)(H0 Hf H:Hp)(v:Option V):Sl->Prop
 |.no=>True
 |.im d=>∃u,v=aa u/\Rep G Hf d u
 |.deep o=>∃u fp,v=aa u/\OT G Hf H o u fp/\fp.Nodup/\∀a∈fp,H0 a=ab/\Hf a=ab
 |.val u=>v=aa u
 |s=>∃l,v=aa (.ref l)/\H0 l=ab/\Hf l=ab/\jf G Hf H l s
variable{H0:Hp}
def gG.own{v:Option V}{s:Sl}(a:s.isOwn=ac)(h:gG G H0 Hf H v s):∃l,v=aa (.ref l)/\H0 l=ab/\Hf l=ab/\jf G Hf H l s:=by
 cases s <;> first |show h |cases a
def gG.ofOwn{v:Option V}{s:Sl}(a:s.isOwn=ac)(h:∃l,v=aa (.ref l)/\H0 l=ab/\Hf l=ab/\jf G Hf H l s):gG G H0 Hf H v s:=by
 cases s <;> first |show h |cases a
def Holds(G:Gc)(Hf H:Hp)(s:Sl)(v:V)(a:Addr):Prop:=match s with
 |.deep o=>∃fp,OT G Hf H o v fp/\a∈fp
 |s=>s.isOwn=ac/\v=.ref a
def Holds.own{s:Sl}(b:s.isOwn=ac):Holds G Hf H s v a↔v=.ref a:=by
 cases s <;> first |show(λh=>h.2,λh=>(rfl,h)) |nomatch b
def Holds.calm{s:Sl}(h:Holds G Hf H s v a)(b:s.calm=ac):False:=by
 cases s <;> first |show tH h.1 |nomatch b
def gG.back{s:Sl}(q:gG G H0 Hf H (aa v) s)(k:∀o fp,s=.deep o->OT G Hf H o v fp->OT G Hf' H' o v fp)(h:Holds G Hf' H' s v a):Holds G Hf H s v a:=by
 cases s with
 |deep o=>
  have(u,fp,e,r,_):=q;cases e;have(fp',b,ha):=h;have:=OT.funM o v fp fp' (k o fp rfl r) b;subst this
  show(fp,r,ha)
 | _=>show h
def gG.there{s:Sl}(q:gG G H0 Hf H (aa v) s)(h:Holds G Hf H s v a):∃o,H a=aa o/\iF o=af:=by
 cases b:s.isOwn with
 |true=>
  have(l,e,_,_,c):=q.own b;cases e;cases ((Holds.own b).mp h)
  show c.there2
 |false=>
  cases s with
  |deep o=>
   have(fp,r,ha):=h
   show OT.memM o v fp r a ha
  | _=>first |show tH h.1 |nomatch b
structure ar(G:Gc)(Hf0 H0 Hf H:Hp)(E:St)(M:LS):Prop where
 ext:Ext Hf0 H0 Hf H
 len:E.length=M.length
 at':∀(i:Nat) (v:Option V) (s:Sl),E[i]?=aa v->M[i]?=aa s->gG G H0 Hf H v s
 dj:∀(i j:Nat) (s t:Sl) (v w:V) (a:Addr),M[i]?=aa s->M[j]?=aa t->E[i]?=aa (aa v)->E[j]?=aa (aa w)->Holds G Hf H s v a->Holds G Hf H t w a->i=j
variable{Hf0:Hp}{M:LS}
def ar.sub(h:ar G Hf0 H0 Hf H E M):aq Hf H:=h.ext.s
def ar.inj(h:ar G Hf0 H0 Hf H E M)(i j:Nat)(s t:Sl)(l:Addr)(a:M[i]?=aa s)(b:M[j]?=aa t)(e:s.isOwn=ac)(f:t.isOwn=ac)(c:E[i]?=aa (aa (.ref l)))(d:E[j]?=aa (aa (.ref l))):i=j:=
 h.dj i j s t _ _ l a b c d ((Holds.own e).mpr rfl) ((Holds.own f).mpr rfl)
variable{ρ':LS}
def ar.re{d g:Hp}(h:ar G Hf0 H0 Hf H E M)(x:Ext d g Hf' H')(l:ρ'.length=M.length)(ha:∀(i:Nat) (v:Option V) (s:Sl),E[i]?=aa v->ρ'[i]?=aa s->gG G g Hf' H' v s)
 (hd:∀(i:Nat) (s:Sl) (v:V) (a:Addr),ρ'[i]?=aa s->E[i]?=aa (aa v)->Holds G Hf' H' s v a->∃t,M[i]?=aa t/\Holds G Hf H t v a):ar G d g Hf' H' E ρ':=
 (x,h.len.trans l.symm,ha,λi j s t v w a b c e f p q=>by
  have(r,b0,m):=hd i s v a b e p;have(t0,c0,n):=hd j t w a c f q;show h.dj i j r t0 v w a b0 c0 e f m n)
def ar.step(h:ar G Hf0 H0 Hf H E M)(e:Ext Hf H Hf' H'):ar G Hf0 H0 Hf' H' E M:=by
 show h.re (h.ext.trans e) rfl (λi v s a b=>?_) λi s v a b c d=>(s,b,(h.at' i _ s c b).back (λo fp _ r=>r.up e.f e.h) d);have q:=h.at' i v s a b
 cases m:s.isOwn with
 |true=>
  have(l,g,x,y,w):=q.own m;have(o,j,p):=w.there2
  show .ofOwn m (l,g,x,by rw[e.n l o j p];show y,w.up e.f λo j=>e.h _ _ j)
 |false=>
  cases s with
  |no=>trivial
  |im d=>have(u,g,r):=q;show(u,g,r.up e.f)
  |val u=>show q
  |deep o=>
   have(u,fp,g,r,n,z):=q;show(u,fp,g,r.up e.f e.h,n,λa ha=>((z a ha).1,?_));have(A,j,p):=OT.memM o u fp r a ha;rw[e.n a A j p]
   show(z a ha).2
  | _=>nomatch m
def ar.slot{s:Sl}(h:ar G Hf0 H0 Hf H E M)(e:M[i]?=aa s):∃v,E[i]?=aa v/\gG G H0 Hf H v s:=by
 have hi:i<E.length:=by rw[h.len];show(cX.mp e).1
 show(E[i],by simp[hi],h.at' i _ s (by simp[hi]) e)
def ar.imm(h:ar G Hf0 H0 Hf H E M)(e:M[i]?=aa (.im d)):∃v,E[i]?=aa (aa v)/\Rep G Hf d v:=by
 have(v,a,u,b,r):=h.slot e;subst b;show(u,a,r)
def ar.ownAt{s:Sl}(c:s.isOwn=ac)(h:ar G Hf0 H0 Hf H E M)(e:M[i]?=aa s):∃l,E[i]?=aa (aa (.ref l))/\H0 l=ab/\Hf l=ab/\jf G Hf H l s:=by
 have(v,a,q):=h.slot e;have(l,b,d):=q.own c;rw[b]at a;show(l,a,d)
variable{j:Nat}
def cU{b:Type}{l:List b}{x y:b}(h:(l.set i x)[j]?=aa y):(j=i/\y=x/\i<l.length)\/(j≠i/\l[j]?=aa y):=by
 by_cases a:j=i
 .subst a;left;have hi:j<l.length:=by have:=(cX.mp h).1;simpa using this
  rw[jX hi]at h;show(rfl,(dh h).symm,hi)
 .right;rw[kX (eM a)]at h;show(a,h)
def ar.setIm(h:ar G Hf0 H0 Hf H E M)(r:Rep G Hf d v):ar G Hf0 H0 Hf H (E.set i (aa v)) (M.set i (.im d)):=by
 show(h.ext,by simpa using h.len,λj u s a b=>?_,λj k s t u w l a b c d' p q=>?_)
 .rcases cU b with⟨e,e',_⟩ |⟨e,b⟩
  .subst e e'
   rcases cU a with⟨_,e',_⟩ |⟨e,_⟩
   .subst e';show(v,rfl,r)
   .show absurd rfl e
  .rcases cU a with⟨e',_⟩ |⟨_,a⟩
   .show absurd e' e
   .show h.at' j u s a b
 .rcases cU a with⟨e,e',_⟩ |⟨e,a⟩
  .subst e';show(p.calm rfl).elim
  .rcases cU b with⟨f,e',_⟩ |⟨f,b⟩
   .subst e';show(q.calm rfl).elim
   .rcases cU c with⟨e',_⟩ |⟨_,c⟩
    .show absurd e' e
    .rcases cU d' with⟨e',_⟩ |⟨_,d'⟩
     .show absurd e' f
     .show h.dj j k s t u w l a b c d' p q
def ar.setNo(h:ar G Hf0 H0 Hf H E M):ar G Hf0 H0 Hf H E (M.set i .no):=by
 show h.re h.ext (by simp) (λj u s a b=>?_) λj s v a b c d=>?_
 .rcases cU b with⟨e,e',_⟩ |⟨e,b⟩
  .subst e';trivial
  .show h.at' j u s a b
 .rcases cU b with⟨e,e',_⟩ |⟨e,b⟩
  .subst e';show(d.calm rfl).elim
  .show(s,b,d)
variable{u:V}
def ar.setNew{s:Sl}(h:ar G Hf0 H0 Hf H E M)(e:Ext Hf H Hf' H')(n:gG G H0 Hf' H' (aa u) s)(hn:∀a,Holds G Hf' H' s u a->H a=ab):
  ar G Hf0 H0 Hf' H' (E.set i (aa u)) (M.set i s):=by
 have h':=h.step e
 have no:∀j t w a,M[j]?=aa t->E[j]?=aa _->Holds G Hf' H' t w a->Holds G Hf' H' s u a->False:=λj t w a b c p q=>by
  have(o,n,_):=(h.at' j _ t c b).there ((h.at' j _ t c b).back (λo fp _ r=>r.up e.f e.h) p);rw[hn a q]at n;nomatch n
 show(h'.ext,by simpa using h.len,λj w t a b=>?_,λj k t t' v w l a b c d' p q=>?_)
 .rcases cU b with⟨e,e',_⟩ |⟨e,b⟩
  .subst e e'
   rcases cU a with⟨_,e',_⟩ |⟨e,_⟩
   .subst e';show n
   .show absurd rfl e
  .rcases cU a with⟨e',_⟩ |⟨_,a⟩
   .show absurd e' e
   .show h'.at' j w t a b
 .rcases cU a with⟨m,x,_⟩ |⟨m,a⟩
  .rcases cU b with⟨d,g,_⟩ |⟨d,b⟩
   .rw[m,d]
   .rcases cU c with⟨_,e',_⟩ |⟨e',_⟩
    .cases e';rw[x]at p
     rcases cU d' with⟨e',_⟩ |⟨_,d'⟩
     .show absurd e' d
     .show(no k t' w l b d' q p).elim
    .show absurd m e'
  .rcases cU c with⟨e',_⟩ |⟨_,c⟩
   .show absurd e' m
   .rcases cU b with⟨d,g,_⟩ |⟨d,b⟩
    .rcases cU d' with⟨_,e',_⟩ |⟨e',_⟩
     .cases e';rw[g]at q;show(no j t v l a c p q).elim
     .show absurd d e'
    .rcases cU d' with⟨e',_⟩ |⟨_,d'⟩
     .show absurd e' d
     .show h'.dj j k t t' v w l a b c d' p q
def ar.setOwn{s:Sl}(b:s.isOwn=ac)(h:ar G Hf0 H0 Hf H E M)(e:Ext Hf H Hf' H')(hn:H l=ab)(c:Hf' l=ab)(d:jf G Hf' H' l s):
  ar G Hf0 H0 Hf' H' (E.set i (aa (.ref l))) (M.set i s):=
 h.setNew e (.ofOwn b (l,rfl,h.ext.h.free hn,c,d)) λa p=>by cases (Holds.own b).mp p;show hn
def ar.chg{s s':Sl}(h:ar G Hf0 H0 Hf H E M)(e:M[i]?=aa s)(el:E[i]?=aa (aa v))(k:∀b u,H b=aa u->Holds G Hf H s v b\/H' b=aa u)(ho:gG G H0 Hf H' (aa v) s')
 (hh:∀a,Holds G Hf H' s' v a->Holds G Hf H s v a\/∀(j:Nat) (t:Sl) (w:V),M[j]?=aa t->E[j]?=aa (aa w)->Holds G Hf H t w a->False):ar G Hf0 H0 Hf H' E (M.set i s'):=by
 have q:=h.at' i _ s el e
 have m:∀b,Holds G Hf H s v b->H0 b=ab/\Hf b=ab:=λb p=>by
  cases hs:s.isOwn with
  |true=>
   have(l,J,h0,hf,_):=q.own hs;have A:=(Holds.own hs).mp p;cases J;cases A
   show(h0,hf)
  |false=>
   cases s with
   |deep o=>
    have(u,fp,J,r,n,z):=q;cases J;have(fp',r',ha):=p;have:=OT.funM o v fp fp' r r';subst this
    show z b ha
   | _=>first |show tH p.1 |nomatch hs
 have fr:∀j t w,j≠i->M[j]?=aa t->E[j]?=aa (aa w)->∀o fp,t=.deep o->OT G Hf H o w fp->OT G Hf H' o w fp:=λj t w hj b c o fp et r=>by
  subst et;show r.frame (aq.refl _) λx u hx hm=>?_
  rcases k x u hx with z |z
  .rcases hm with hm |hm
   .have(o',g,L):=q.there z;rw[hx]at g;cases g;rw[hm]at L
    nomatch L
   .show absurd (h.dj j i _ s w v x b e c el (fp,r,hm) z) hj
  .show z
 show((h.ext.f,λb u e=>?_,λb u e=>?_,h.ext.n),by simpa using h.len,λj u t a b=>?_,λj T t t' w Y a b c b' N p p'=>?_)
 .rcases k b u (h.ext.h b u e)with z |z
  .rw[(m b z).1]at e;nomatch e
  .show z
 .rcases k b u (h.ext.s b u e)with z |z
  .rw[(m b z).2]at e;nomatch e
  .show z
 .rcases cU b with⟨e',A,_⟩ |⟨en,b⟩
  .subst e' A;rw[el]at a;cases a;show ho
  .have U:=h.at' j u t a b
   cases Q:t.isOwn with
   |false=>
    cases t with
    |no=>trivial
    |im d=>show U
    |val u=>show U
    |deep o=>
     have(w,fp,J,r,n,z):=U;subst J
     show(w,fp,rfl,fr j _ w en b a o fp rfl r,n,z)
    | _=>nomatch Q
   |true=>
    have(l2,A,e3,e4,q2):=U.own Q;subst A;show .ofOwn Q (l2,rfl,e3,e4,q2.up (aq.refl _) λo' g=>?_)
    rcases k l2 o' g with z |z
    .show absurd (h.dj j i t s _ v l2 b e a el ((Holds.own Q).mpr rfl) z) en
    .show z
 .have B:∀j t w,_[j]?=aa t->E[j]?=aa (aa w)->Holds G Hf H' t w a->(j=i/\∀j t w,M[j]?=aa t->E[j]?=aa (aa w)->Holds G Hf H t w a->False)\/∃t0,M[j]?=aa t0/\Holds G Hf H t0 w a:=λj t w b y p=>by
   rcases cU b with⟨e',A,_⟩ |⟨en,b⟩
   .rw[A]at p;rw[e',el]at y;cases y;rw[e']
    rcases hh a p with z |z
    .show .inr (s,e,z)
    .show .inl (rfl,z)
   .show .inr (t,b,(h.at' j _ t y b).back (fr j t w en b y) p)
  rcases B j t w b b' p with⟨z1,z2⟩ |⟨t0,z1,z2⟩
  .rcases B T t' Y c N p' with⟨C,I⟩ |⟨t1,C,I⟩
   .rw[z1,C]
   .show(z2 T t1 Y C N I).elim
  .rcases B T t' Y c N p' with⟨C,I⟩ |⟨t1,C,I⟩
   .show(I j t0 w z1 b' z2).elim
   .show h.dj j T t0 t1 w Y a z1 C b' N z2 I
def ar.chgX{s l:Sl}(h:ar G Hf0 H0 Hf H E M)(x:Ext Hf H Hf' H1)(e:M[i]?=aa s)(el:E[i]?=aa (aa v))(k:∀b u,H1 b=aa u->Holds G Hf H s v b\/H' b=aa u)(d:gG G H0 Hf' H' (aa v) l)
 (m:∀a,Holds G Hf' H' l v a->Holds G Hf H s v a\/H a=ab):ar G Hf0 H0 Hf' H' E (M.set i l):=by
 have up:∀b,Holds G Hf H s v b->Holds G Hf' H1 s v b:=λb p=>by
  cases s with
  |deep o=>have(fp,r,g):=p;show(fp,r.up x.f x.h,g)
  | _=>show p
 show(h.step x).chg e el (λb u g=>(k b u g).imp_left (up b)) d λa p=>?_
 rcases m a p with z |z
 .show .inl (up a z)
 .show .inr λj t w b c q=>?_;have(o,d,_):=(h.at' j _ t c b).there ((h.at' j _ t c b).back (λo fp _ r=>r.up x.f x.h) q);rw[z]at d
  nomatch d
def ar.mutd{s f:Sl}{o:HO}(d:s.isOwn=ac)(c:f.isOwn=ac)(h:ar G Hf0 H0 Hf H E M)(e:M[i]?=aa s)(el:E[i]?=aa (aa (.ref l)))(v:jf G Hf (upd H l o) l f):
  ar G Hf0 H0 Hf (upd H l o) E (M.set i f):=by
 have(w,g,m,r,q):=h.ownAt d e;rw[el]at g;cases g;show h.chg e el (λb u n=>?_) (.ofOwn c (l,rfl,m,r,v)) λa p=>.inl ((Holds.own d).mpr ((Holds.own c).mp p))
 by_cases j:b=l
 .subst j;show .inl ((Holds.own d).mpr rfl)
 .show .inr (by rw[aK j];show n)
def ar.fixd{s:Sl}{o:HO}(B:s.isOwn=ac)(h:ar G Hf0 H0 Hf H E M)(e:M[i]?=aa s)(el:E[i]?=aa (aa (.ref l)))(U:H l=aa o)(hr:Rep G (upd Hf l o) d (.ref l)):
  ar G Hf0 H0 (upd Hf l o) H E (M.set i (.im d)):=by
 have(l',f,T,g,q):=h.ownAt B e;rw[el]at f;cases f;show h.re (h.ext.fix T g U) (by simp) (λj u t a b=>?_) λj t v a b c p=>?_
 .rcases cU b with⟨e,e',_⟩ |⟨en,b⟩
  .subst e e';rw[el]at a;cases a;show(_,rfl,hr)
  .have q:=h.at' j u t a b
   cases m:t.isOwn with
   |false=>
    cases t with
    |no=>trivial
    |im d=>have(J,f,r):=q;show(J,f,r.up (bO g))
    |val J=>show q
    |deep o=>
     have(w,fp,f,r,n,z):=q;subst f;show(w,fp,rfl,r.up (bO g) (aq.refl _),n,λx C=>((z x C).1,?_));rw[aK (λy=>?_)]
     .show(z x C).2
     .subst y
      show en (h.dj j i _ s w _ x b e a el (fp,r,C) ((Holds.own B).mpr rfl))
    | _=>nomatch m
   |true=>
    have(I,L,N,Q,Y):=q.own m;subst L;show .ofOwn m (I,rfl,N,?_,Y.up (bO g) λo' A=>A);rw[aK (λz=>?_)]
    .show Q
    .subst z;show en (h.inj j i t s I b e m B a el)
 .rcases cU b with⟨_,e',_⟩ |⟨_,b⟩
  .subst e';show(p.calm rfl).elim
  .show(t,b,(h.at' j _ t c b).back (λo fp _ r=>r.up (bO g) (aq.refl _)) p)
def PE.imp{t':TE}(h:PE X e t)(i:∀E H Q,t' E H Q->t E H Q):PE X e t':=λU s E H Q I q=>h U s E H Q I (i E H Q q)
variable{t':TT}
def PT.imp{t:TT}(h:PT X e t)(i:∀E H Q,t' E H Q->t E H Q):PT X e t':=λU s E H Q I q=>h U s E H Q I (i E H Q q)
def PW.imp{t:TT}(h:PW X e t)(i:∀E H Q,t' E H Q->t E H Q):PW X e t':=λwh U s E H Q I q=>h wh U s E H Q I (i E H Q q)
variable{es:LEx}
def PA.imp{t t':TA}(h:PA X es t)(i:∀E H Q,t' E H Q->t E H Q):PA X es t':=λpos U s E H Q I q=>h pos U s E H Q I (i E H Q q)
def PS.imp{st:Stmt}{t t':TS}(h:PS X st t)(i:∀W8 E H,t' W8 E H->t W8 E H):PS X st t':=λU s E H W8 I q=>h U s E H W8 I (i W8 E H q)
def PSs.imp{st:List Stmt}{t t':TS}(h:PSs X st t)(i:∀W8 E H,t' W8 E H->t W8 E H):PSs X st t':=λU s E H W8 I q=>h U s E H W8 I (i W8 E H q)
def PG.imp{t t':TG}(h:PG X e t)(i:∀v E H Q,t' v E H Q->t v E H Q):PG X e t':=λU s E H v u Q I r q=>h U s E H v u Q I r (i v E H Q q)
def PGs.imp{t t':TGs}(h:PGs X es t)(i:∀v E H Q,t' v E H Q->t v E H Q):PGs X es t':=λU s E H v u Q I r q=>h U s E H v u Q I r (i v E H Q q)
def PI.imp{t t':TI}(h:PI X tg e t)(i:∀E H R,t' E H R->t E H R):PI X tg e t':=λU s E H R I q=>h U s E H R I (i E H R q)
def PTs.imp{t:TT}(h:PTs X c4 t)(i:∀E H Q,t' E H Q->t E H Q):PTs X c4 t':=λU s E H Q I q=>h U s E H Q I (i E H Q q)
def OpR.imp{f:Value->Value->Sem Value}{r a:R2}(h:OpR X f r)(i:∀x y H Q,a x y H Q->r x y H Q):OpR X f a:=λU s E H x y v u Q I b c q=>h U s E H x y v u Q I b c (i x y H Q q)
def ie.imp{f:Value}{r a:LVv->Hp->VK->Prop}(h:ie X f r)(i:∀C H Q,a C H Q->r C H Q):ie X f a:=λU s E H C us Q I b q=>h U s E H C us Q I b (i C H Q q)
nonrec def Gx(c:Str->Addr)(X:Cx):Gc:=(X.K,c)
inductive tD(G:Gc)(f:MF1)(E:St)(H:Hp)(Q:VK):Prop
 |mk:∀Hf0 H0 Hf M d,ar G Hf0 H0 Hf H E M->f M=aa d->(∀v Hf' H',Ext Hf H Hf' H'->Rep G Hf' d v->Q v H')->tD G f E H Q
inductive tDB(G:Gc)(f:MF1)(E:St)(H:Hp)(Q:VK):Prop
 |mk:∀Hf0 H0 Hf M d,ar G Hf0 H0 Hf H E M->f M=aa d->(∀v Hf' H',Ext Hf H Hf' H'->Rep G H' d v->Q v H')->tDB G f E H Q
inductive tDC(G:Gc)(f:MF2)(E:St)(H:Hp)(Q:VK):Prop
 |mk:∀Hf0 H0 Hf M ds,ar G Hf0 H0 Hf H E M->f M=aa ds->(∀a vs Hf' H',Ext Hf H Hf' H'->(SqL G.K H' a vs\/SqT G.K H' a vs)->ak G Hf' ds vs->Q (.ref a) H')->tDC G f E H Q
inductive tDO(G:Gc)(f:MF2)(E:St)(H:Hp)(Q:VK):Prop
 |mk:∀Hf0 H0 Hf M ds,ar G Hf0 H0 Hf H E M->f M=aa ds->(∀l vs Hf' H',Ext Hf H Hf' H'->H l=ab->Hf' l=ab->H' l=aa (.lst vs)->ak G Hf' ds vs->Q (.ref l) H')->tDO G f E H Q
inductive tDA(G:Gc)(f:MF2)(E:St)(H:Hp)(Q:LVv->Hp->Prop):Prop
 |mk:∀Hf0 H0 Hf M ds,ar G Hf0 H0 Hf H E M->f M=aa ds->(∀vs Hf' H',Ext Hf H Hf' H'->ak G Hf' ds vs->Q vs H')->tDA G f E H Q
inductive FB(G:Gc)(f:MF2)(E:St)(H:Hp)(Q:LVv->Hp->Prop):Prop
 |mk:∀Hf0 H0 Hf M ds,ar G Hf0 H0 Hf H E M->f M=aa ds->(∀vs Hf' H',Ext Hf H Hf' H'->ak G H' ds vs->Q vs H')->FB G f E H Q
inductive tDT(G:Gc)(f:MF4)(E:St)(H:Hp)(Q:Bool->Hp->Prop):Prop
 |mk:∀Hf0 H0 Hf M b,ar G Hf0 H0 Hf H E M->f M=aa b->(∀Hf' H',Ext Hf H Hf' H'->Q b H')->tDT G f E H Q
def DE(c:Str->Addr)(X:Cx)(e:Expr)(f:MF1):Prop:=PE X e (tD (Gx c X) f)
def DB(c:Str->Addr)(X:Cx)(e:Expr)(f:MF1):Prop:=PE X e (tDB (Gx c X) f)
def DC(c:Str->Addr)(X:Cx)(e:Expr)(f:MF2):Prop:=PE X e (tDC (Gx c X) f)
def DO(c:Str->Addr)(X:Cx)(e:Expr)(f:MF2):Prop:=PE X e (tDO (Gx c X) f)
structure DA(c:Str->Addr)(X:Cx)(es:LEx)(f:MF2):Prop where
 pa:PA X es (tDA (Gx c X) f)
 len:∀M ds,f M=aa ds->ds.length=es.length
structure DAB(c:Str->Addr)(X:Cx)(es:LEx)(f:MF2):Prop where
 pa:PA X es (FB (Gx c X) f)
 len:∀M ds,f M=aa ds->ds.length=es.length
def DT(c:Str->Addr)(X:Cx)(e:Expr)(f:MF4):Prop:=PT X e (tDT (Gx c X) f)
def DW(c:Str->Addr)(X:Cx)(e:Expr)(f:MF4):Prop:=PW X e (tDT (Gx c X) f)
abbrev D.scalar:D->Bool
 |.non=>ac
 |.bl _=>ac
 |.int _=>ac
 |.str _=>ac
 | _=>af
def Rep.sc(a:d.scalar=ac)(r:Rep G H d v):Rep G H' d v:=by
 cases d <;> first |show r |cases a
abbrev iG:D->OLD
 |.lst C=>aa C
 |.tup C=>aa C
 |.kl C=>aa C
 |.kt C=>aa C
 | _=>ab
def rg(e:iG d=aa ds)(r:Rep G H d v):∃a vs,v=.ref a/\(SqL G.K H a vs\/SqT G.K H a vs)/\ak G H ds vs:=by
 cases d with
 |lst C=>cases e;have(a,vs,b,q,r):=r;show(a,vs,b,.inl (SqL.of q),r)
 |tup C=>cases e;have(a,vs,b,q,r):=r;show(a,vs,b,.inr (SqT.of q),r)
 |kl C=>cases e;have(a,vs,b,q,r):=r;show(a,vs,b,.inl q,r)
 |kt C=>cases e;have(a,vs,b,q,r):=r;show(a,vs,b,.inr q,r)
 | _=>nomatch e
def yw(s:aq H H')(h:SqL K H a vs\/SqT K H a vs):SqL K H' a vs\/SqT K H' a vs:=h.imp s.seq s.tup
def aP(f:MF2)(M:LS):OD:=(f M).map .lst
def bo(f:MF2)(M:LS):OD:=(f M).map .tup
def aV(f:MF1)(M:LS):OLD:=(f M).bind iG
def bh(f g:MF1)(M:LS):OD:=(f M).or (g M)
variable{c:Str->Addr}{f:MF1}
def DE.db(h:DE c X e f):DB c X e f:=PE.imp h λE H Q b=>by
 have(Hf0,H0,Hf,M,d,st,a,k):=b;show((Hf0,H0,Hf,M,d,st,a,λv Hf' H' x r=>k v Hf' H' x (r.up x.s)))
def DE.dc(h:DE c X e f):DC c X e (aV f):=PE.imp h λE H Q j=>by
 have(Hf0,H0,Hf,M,ds,st,b,k):=j;unfold aV at b
 cases g:f M with
 |none=>rw[g]at b;nomatch b
 |some d=>
  rw[g]at b;show(Hf0,H0,Hf,M,d,st,g,λv Hf' H' x r=>?_);have(a,vs,i,q,B):=rg b r;subst i;show k a vs Hf' H' x (yw x.s q) B
def DO.de{f:MF2}(h:DO c X e f):DE c X e (aP f):=PE.imp h λE H Q j=>by
 have(Hf0,H0,Hf,M,d,st,a,k):=j;unfold aP at a
 cases b:f M with
 |none=>rw[b]at a;nomatch a
 |some ds=>
  rw[b]at a;have a:=dh a;subst a;show(Hf0,H0,Hf,M,ds,st,b,λl vs Hf' H' x hn g i r=>k _ _ H' (x.fix hn g i) (l,vs,rfl,aY,r.up (bO g)))
def DO.dc{f:MF2}(h:DO c X e f):DC c X e f:=PE.imp h λE H Q d=>by
 have (Hf0,H0,Hf,M,ds,st,a,k):=d;show (
 (Hf0,H0,Hf,M,ds,st,a,λl vs Hf' H' x hn g b r=>k l vs Hf' H' x (.inl (SqL.of b)) r))
def DE.orE{g:MF1}(h:DE c X e f)(h':DE c X e g):DE c X e (bh f g):=λU s E H Q I i=>by
 have(Hf0,H0,Hf,M,d,st,a,k):=i;unfold bh at a
 cases b:f M with
 |some d'=>
  rw[b]at a;cases a
  show h U s E H Q I (Hf0,H0,Hf,M,_,st,b,k)
 |none=>
  rw[b]at a;show h' U s E H Q I (Hf0,H0,Hf,M,d,st,a,k)
def ae(i:Nat)(M:LS):OD:=match M[i]? with
 |some (.im d)=>aa d
 | _=>ab
def cO(i:Nat)(M:LS):OD:=match M[i]? with
 |some (.im d)=>aa d
 |some (.own C)=>aa (.lst C)
 |some (.ownd ks C)=>aa (.dic ks C)
 |some (.deep o)=>if o.kn then aa o.toD else ab
 | _=>ab
def av(i:Nat)(M:LS):OLD:=match M[i]? with
 |some (.im d)=>iG d
 |some (.own C)=>aa C
 | _=>ab
def FC(h:ae i M=aa d):M[i]?=aa (.im d):=by
 unfold ae at h
 grind
def FD(h:PE X e (cE i)):DE c X e (ae i):=PE.imp h λE H Q f=>by
 have(Hf0,H0,Hf,M,d,st,b,k):=f;have(v,a,r):=st.imm (FC b);show(v,a,k v Hf H (Ext.refl st.sub) r)
def FE(h:PE X e (cE i)):DC c X e (av i):=PE.imp h λE H Q j=>by
 have(Hf0,H0,Hf,M,ds,st,b,k):=j;unfold av at b
 cases es:M[i]? with
 |none=>rw[es]at b;nomatch b
 |some s=>
  rw[es]at b
  cases s with
  |im d=>
   have(v,f,r):=st.imm es;have(a,vs,g,q,B):=rg b r;subst g
   show(_,f,k a vs Hf H (Ext.refl st.sub) (yw st.sub q) B)
  |own C=>
   cases b;have(l,f,_,_,vs,q,r):=st.ownAt rfl es
   show(_,f,k l vs Hf H (Ext.refl st.sub) (.inl (SqL.of q)) r)
  | _=>nomatch b
def FF(h:PE X e (cE i)):DB c X e (cO i):=PE.imp h λE H Q j=>by
 have(Hf0,H0,Hf,M,d,st,a,k):=j;unfold cO at a
 cases es:M[i]? with
 |none=>simp only[es]at a;nomatch a
 |some s=>
  rw[es]at a
  cases s with
  |im d=>
   cases a;have(v,b,r):=st.imm es
   show(_,b,k v Hf H (Ext.refl st.sub) (r.up st.sub))
  |own C=>
   cases a;have(l,b,_,_,vs,q,r):=st.ownAt rfl es
   show(_,b,k _ Hf H (Ext.refl st.sub) (l,vs,rfl,q,r.up st.sub))
  |ownd ks C=>
   cases a;have(l,b,_,_,vs,q,z,r):=st.ownAt rfl es
   show(_,b,k _ Hf H (Ext.refl st.sub) (l,vs,rfl,q,z,r.up st.sub))
  |deep o=>
   replace a:(if o.kn=ac then aa o.toD else ab)=aa d:=a;split at a
   .rename_i g;cases a;have(v,b,u,fp,f,r,_):=st.slot es;subst f;show(_,b,k _ Hf H (Ext.refl st.sub) (r.rep st.sub g))
   .nomatch a
  | _=>nomatch a
def uz(h:PE X e (tC v))(r:∀G H,Rep G H d v):DE c X e (λ_=>aa d):=PE.imp h λE H Q b=>by
 have(Hf0,H0,Hf,M,d',st,a,k):=b;cases a;show k v Hf H (Ext.refl st.sub) (r _ _)
def FG{i:Int}{j}:DE c X (.Constant (.int i) j pos) (λ_=>aa (.int i)):=uz xH λ_ _=>rfl
def FH{i:Bool}{j}:DE c X (.Constant (.bool i) j pos) (λ_=>aa (.bl i)):=uz Ld λ_ _=>rfl
def NO{j}:DE c X (.Constant .none j pos) kN:=uz Le λ_ _=>rfl
def NP{i:Str}{j}:DE c X (.Constant (.str i) j pos) (λ_=>aa (.str i)):=uz Lf λ_ _=>rfl
def dv(i:Nat)(b:autoParam (X.N[i]?=aa x) Zb)(hv:autoParam (Vis X.env.scope x) Ze)(hd:autoParam (NDb x) Zc)
 (a:autoParam (NCd x) Zc):DE c X (.Name x pos) (ae i):=FD (lx b hv hd a)
def dvC(i:Nat)(b:autoParam (X.N[i]?=aa x) Zb)(hv:autoParam (Vis X.env.scope x) Ze)(hd:autoParam (NDb x) Zc)
 (a:autoParam (NCd x) Zc):DC c X (.Name x pos) (av i):=FE (lx b hv hd a)
def dvB(i:Nat)(b:autoParam (X.N[i]?=aa x) Zb)(hv:autoParam (Vis X.env.scope x) Ze)(hd:autoParam (NDb x) Zc)
 (a:autoParam (NCd x) Zc):DB c X (.Name x pos) (cO i):=FF (lx b hv hd a)
def ag(f:MF1)(g:MF2)(M:LS):OLD:=(f M).bind λd=>(g M).map λds=>d::ds
variable{g:MF2}
def oY(h:ag f g M=aa ds):∃d r,f M=aa d/\g M=aa r/\ds=d::r:=by
 unfold ag at h
 cases a:f M with
 |none=>rw[a]at h;nomatch h
 |some d=>
  cases b:g M with
  |none=>rw[a,b]at h;nomatch h
  |some r=>rw[a,b]at h;cases h;show(d,r,rfl,rfl,rfl)
def NQ:DA c X [] nZ:=(PA.imp dR λE H Q b=>by have(Hf0,H0,Hf,M,ds,st,a,k):=b;cases a;show k [] Hf H (Ext.refl st.sub) rfl,λM ds h=>by cases h;rfl)
def uA(ha:DE c X e f)(hr:DA c X es g)(m:autoParam (StE X e es) Zb):DA c X (e::es) (ag f g):=by
 show(PA.imp (d3 ha hr.pa m) λE H Q n=>?_,λM ds h=>?_)
 .have(Hf0,H0,Hf,M,ds,st,l,k):=n;have(d,r,b,a,rfl):=oY l;show(Hf0,H0,Hf,M,d,st,b,λv b3 H1 i p=>(Hf0,H0,b3,M,r,st.step i,a,λvs bm H2 j q=>k _ bm H2 (i.trans j) (.cons (p.up j.f) q)))
 .have(d,r,b,a,rfl):=oY h;simp[hr.len M r a]
def NR:DAB c X [] nZ:=(PA.imp dR λE H Q b=>by have(Hf0,H0,Hf,M,ds,st,a,k):=b;cases a;show k [] Hf H (Ext.refl st.sub) rfl,λM ds h=>by cases h;rfl)
def rh(ha:DB c X e f)(hr:DAB c X es g)(m:autoParam (StE X e es) Zb):DAB c X (e::es) (ag f g):=by
 show(PA.imp (d3 ha hr.pa m) λE H Q n=>?_,λM ds h=>?_)
 .have(Hf0,H0,Hf,M,ds,st,l,k):=n;have(d,r,b,a,rfl):=oY l;show(Hf0,H0,Hf,M,d,st,b,λv b3 H1 i p=>(Hf0,H0,b3,M,r,st.step i,a,λvs bm H2 j q=>k _ bm H2 (i.trans j) (.cons (p.up j.h) q)))
 .have(d,r,b,a,rfl):=oY h;simp[hr.len M r a]
def NS{f:MF2}(h:DA c X es f)(hz:autoParam (es.length<=1000) Zl):DO c X (.List es pos) f:=PE.imp (uk h.pa) λE H Q d=>by
 have (Hf0,H0,Hf,M,ds,st,b,k):=d;show (
 (Hf0,H0,Hf,M,ds,st,b,λvs Hf' H' x r=>(by
  rw[<- r.length,h.len M ds b];show eK (yh hz),λp a=>k p vs Hf' _ (x.trans (Ext.tmp x.s a)) (x.h.free a) (x.s.free a) aY r)))
variable{k':Nat}
def FI{f:MF2}(h:DA c X es f)(hz:autoParam (es.length<=1000) Zl):DE c X (.Tuple es k' pos) (bo f):=PE.imp (EW h.pa) λE H Q g=>by
 have(Hf0,H0,Hf,M,d,st,a,k):=g;unfold bo at a
 cases b:f M with
 |none=>rw[b]at a;nomatch a
 |some ds=>
  rw[b]at a;have a:=dh a;subst a
  show(Hf0,H0,Hf,M,ds,st,b,λvs Hf' H' x r=>(by
   rw[<- r.length,h.len M ds b];show eK (yh hz),λp e=>k _ _ _ (x.trans (Ext.new x.s e)) (p,vs,rfl,aY,r.up (bO (x.s.free e)))))
def rD(G:Gc)(m:D->D->OD):R2:=λa b H Q=>∃Hf x y d,aq Hf H/\Rep G Hf x a/\Rep G Hf y b/\m x y=aa d/\∀v Hf' H',Ext Hf H Hf' H'->Rep G Hf' d v->Q v H'
nonrec abbrev OpD(c:Str->Addr)(X:Cx)(f:Value->Value->Sem Value)(m:D->D->OD):Prop:=OpR X f (rD (Gx c X) m)
def m2(m:D->D->OD)(f g:MF1)(M:LS):OD:=(f M).bind λx=>(g M).bind λy=>m x y
variable{m:D->D->OD}{g:MF1}
def mO(h:m2 m f g M=aa d):∃x y,f M=aa x/\g M=aa y/\m x y=aa d:=by
 unfold m2 at h
 cases a:f M with
 |none=>rw[a]at h;nomatch h
 |some x=>
  cases b:g M with
  |none=>rw[a,b]at h;nomatch h
  |some y=>rw[a,b]at h;show(x,y,rfl,rfl,h)
variable{r:R2}
def two(hr:∀x y H Q,rD (Gx c X) m x y H Q->r x y H Q)(h:tD (Gx c X) (m2 m f g) E H Q):tOp r (tD (Gx c X) f) (tD (Gx c X) g) E H Q:=by
 have(Hf0,H0,Hf,M,d,st,p,k):=h;have(x,y,j,l,n):=mO p;show(Hf0,H0,Hf,M,x,st,j,λv b3 H1 e q=>(Hf0,H0,b3,M,y,st.step e,l,λu bm H2 b z=>hr _ _ _ _ (bm,x,y,d,b.s,q.up b.f,z,n,λw a i B A=>k w a i ((e.trans b).trans B) A)))
def FJ(hr:∀x y H Q,rD (Gx c X) m x y H Q->r x y H Q)(q:∀x y d,m x y=aa d->d.scalar=ac)(h:tD (Gx c X) (m2 m f g) E H Q):tOp r (tDB (Gx c X) f) (tDB (Gx c X) g) E H Q:=by
 have(Hf0,H0,Hf,M,d,st,p,k):=h;have(x,y,l,n,b):=mO p
 show(Hf0,H0,Hf,M,x,st,l,λv b3 H1 e z=>(Hf0,H0,b3,M,y,st.step e,n,λu bm H2 a A=>hr _ _ _ _ (H2,x,y,d,aq.refl _,z.up a.h,A,b,λw j i C B=>
  k w bm i ((e.trans a).trans (Ext.grow a.s C.h)) (B.sc (q _ _ _ b)))))
variable{a b:Expr}
def yx{op:Operator}(e:OpD c X (fM op) m)(ha:DE c X a f)(d:DE c X b g):DE c X (.BinOp a op b pos) (m2 m f g):=
 PE.imp (EH e ha d) λ_ _ _ h=>two (λ_ _ _ _ h=>h) h
variable{op:CmpOp}
def yy(i:OpD c X (cK op) m)(j:∀x y d,m x y=aa d->d.scalar=ac)(ha:DB c X a f)(e:DB c X b g)(hm:autoParam (k9 op b=af) Zo):
  DE c X (.Compare a [op] [b] pos) (m2 m f g):=PE.imp (Mp i ha e hm) λ_ _ _ h=>FJ (λ_ _ _ _ h=>h) j h
def mB(f:MF1)(M:LS):Option Bool:=(f M).bind λd=>match d with
 |.bl b=>aa b
 | _=>ab
def uB{b:Bool}(h:mB f M=aa b):f M=aa (.bl b):=by
 unfold mB at h
 cases e:f M with
 |none=>rw[e]at h;nomatch h
 |some d=>rw[e]at h;cases d <;> cases h;rfl
def mP(j:OpD c X (cK op) m)(l:∀x y d,m x y=aa d->d.scalar=ac)(ha:DB c X a f)(i:DB c X b g)(hm:autoParam (k9 op b=af) Zo):
  DT c X (.Compare a [op] [b] pos) (mB (m2 m f g)):=PT.imp (Mr j ha i hm) λE H Q n=>by
 have (Hf0,H0,Hf,M,b,st,e,k):=n;show (
 FJ (λ_ _ _ _ h=>h) l (Hf0,H0,Hf,M,.bl b,st,uB e,λv Hf' H' x r=>(b,r,k Hf' H' x)))
abbrev mQ:D->Option Bool
 |.non=>aa af
 |.bl b=>aa b
 |.int i=>aa (i != 0)
 |.str x=>if x.length<=16777216 then aa ((x.length:Int) != 0) else ab
 |.lst C=>aa (!C.isEmpty)
 |.tup C=>aa (!C.isEmpty)
 |.kl C=>aa (!C.isEmpty)
 |.kt C=>aa (!C.isEmpty)
 |.dic ks _=>aa (!ks.isEmpty)
 | _=>ab
def ak.empty(r:ak G H ds vs):ds.isEmpty=vs.isEmpty:=by
 cases ds with
 |nil=>cases (r);rfl
 |cons d ds=>have(v,a,e,_):=r;subst e;rfl
def NT{a b:Type}{ks:List a}{vs:List b}(h:ks.length=vs.length):(ks.zip vs).isEmpty=ks.isEmpty:=by
 cases ks <;> cases vs <;> first |rfl |cases h
def NU{b:Bool}(e:mQ d=aa b)(r:Rep G H d v):xV G.K v H b:=by
 cases d with
 |non=>cases e;subst r;rfl
 |bl x=>cases e;subst r;rfl
 |int i=>cases e;subst r;rfl
 |str x=>
  subst r;replace e:(if x.length<=16777216 then aa _ else ab)=aa b:=e;split at e
  .rename_i f;cases e;show(by rw[di];show f,rfl)
  .grind
 |lst C=>cases e;have(a,vs,c,q,r):=r;subst c;show .inl (vs,SqL.of q,by rw[r.empty])
 |tup C=>cases e;have(a,vs,c,q,r):=r;subst c;show .inr (.inl (vs,SqT.of q,by rw[r.empty]))
 |kl C=>cases e;have(a,vs,c,q,r):=r;subst c;show .inl (vs,q,by rw[r.empty])
 |kt C=>cases e;have(a,vs,c,q,r):=r;subst c;show .inr (.inl (vs,q,by rw[r.empty]))
 |dic ks C=>cases e;have(a,vs,c,q,l,r):=r;subst c;show .inr (.inr (_,q,by rw[NT l]))
 |ins _ _ _=>nomatch e
 |kd _ _=>nomatch e
 |dT _ _=>nomatch e
def bM(f:MF1)(M:LS):Option Bool:=(f M).bind mQ
def yA(ha:DB c X a f)(i:autoParam (∀e,isTrue a X.env e=(do let v <- e;gB a.pos;eO [v] (truthy v))) Zd):DT c X a (bM f):=
 PT.imp (Mu ha i) λE H Q j=>by
  have(Hf0,H0,Hf,M,b,st,g,k):=j;unfold bM at g
  cases h:f M with
  |none=>rw[h]at g;nomatch g
  |some d=>
   rw[h]at g;show(Hf0,H0,Hf,M,d,st,h,λv Hf' H' x r=>(b,NU g r,k Hf' H' x))
def dF(f g:MF4)(M:LS):Option Bool:=(f M).bind λb=>if b then g M else aa af
def mOr(f g:MF4)(M:LS):Option Bool:=(f M).bind λb=>if b then aa ac else g M
def fR(f:MF4)(M:LS):Option Bool:=(f M).map not
variable{f:MF4}
def DW.dt(h:DW c X e f):DT c X e f:=PW.pt h
def yB(h:DT c X a f):DW c X (.BoolOp .And [a] pos) f:=Lk h
def FK(h:DT c X a f):DW c X (.BoolOp .Or [a] pos) f:=Ll h
def yC{g:MF4}{rest:LEx}(h:DT c X a f)(h':DW c X (.BoolOp .And (b::rest) pos) g):DW c X (.BoolOp .And (a::b::rest) pos) (dF f g):=PW.imp (Lm h h') λE H Q j=>by
 have(Hf0,H0,Hf,M,b,st,d,k):=j;unfold dF at d
 cases e:f M with
 |none=>rw[e]at d;nomatch d
 |some x=>
  rw[e]at d;show(Hf0,H0,Hf,M,x,st,e,λb3 H1 i=>?_)
  cases x with
  |true=>rw[if_pos rfl];show(Hf0,H0,b3,M,b,st.step i,d,λbm H2 l=>k bm H2 (i.trans l))
  |false=>cases d;rw[if_neg bJ];show k b3 H1 i
def rj{g:MF4}{rest:LEx}(h:DT c X a f)(h':DW c X (.BoolOp .Or (b::rest) pos) g):DW c X (.BoolOp .Or (a::b::rest) pos) (mOr f g):=PW.imp (Ln h h') λE H Q j=>by
 have(Hf0,H0,Hf,M,b,st,d,k):=j;unfold mOr at d
 cases e:f M with
 |none=>rw[e]at d;nomatch d
 |some x=>
  rw[e]at d;show(Hf0,H0,Hf,M,x,st,e,λb3 H1 i=>?_)
  cases x with
  |false=>rw[if_neg bJ];show(Hf0,H0,b3,M,b,st.step i,d,λbm H2 l=>k bm H2 (i.trans l))
  |true=>cases d;rw[if_pos rfl];show k b3 H1 i
def NV(h:DT c X a f):DT c X (.UnaryOp .Not a pos) (fR f):=PT.imp (Lo h) λE H Q g=>by
 have(Hf0,H0,Hf,M,b,st,d,k):=g;unfold fR at d
 cases e:f M with
 |none=>rw[e]at d;nomatch d
 |some x=>
  rw[e]at d;cases d;show(Hf0,H0,Hf,M,x,st,e,λb3 H1 i=>k b3 H1 i)
def lD(f g:MF1)(M:LS):OD:=(mB f M).bind λb=>if b then g M else aa (.bl af)
def vOr(f g:MF1)(M:LS):OD:=(mB f M).bind λb=>if b then aa (.bl ac) else g M
def mR(f:MF1)(M:LS):OD:=(mB f M).map λb=>.bl (!b)
variable{f:MF1}
def FL{op}(h:DE c X a f):DE c X (.BoolOp op [a] pos) f:=Lu h
def FM{rest:LEx}(h:DE c X a f)(h':DE c X (.BoolOp .And (b::rest) pos) g):DE c X (.BoolOp .And (a::b::rest) pos) (lD f g):=PE.imp (Lv h h') λE H Q l=>by
 have(Hf0,H0,Hf,M,d,st,e,k):=l;unfold lD at e
 cases i:mB f M with
 |none=>rw[i]at e;nomatch e
 |some x=>
  rw[i]at e;show(Hf0,H0,Hf,M,.bl x,st,uB i,λv b3 H1 j m=>(x,m,?_))
  cases x with
  |true=>rw[if_pos rfl];show(Hf0,H0,b3,M,d,st.step j,e,λv bm H2 p n=>k v bm H2 (j.trans p) n)
  |false=>cases e;rw[if_neg bJ];show k _ b3 H1 j rfl
def NW{rest:LEx}(h:DE c X a f)(h':DE c X (.BoolOp .Or (b::rest) pos) g):DE c X (.BoolOp .Or (a::b::rest) pos) (vOr f g):=PE.imp (Lw h h') λE H Q l=>by
 have(Hf0,H0,Hf,M,d,st,e,k):=l;unfold vOr at e
 cases i:mB f M with
 |none=>rw[i]at e;nomatch e
 |some x=>
  rw[i]at e;show(Hf0,H0,Hf,M,.bl x,st,uB i,λv b3 H1 j m=>(x,m,?_))
  cases x with
  |false=>rw[if_neg bJ];show(Hf0,H0,b3,M,d,st.step j,e,λv bm H2 p n=>k v bm H2 (j.trans p) n)
  |true=>cases e;rw[if_pos rfl];show k _ b3 H1 j rfl
def FN(h:DE c X a f):DE c X (.UnaryOp .Not a pos) (mR f):=PE.imp (Lx h) λE H Q g=>by
 have(Hf0,H0,Hf,M,d,st,b,k):=g;unfold mR at b
 cases e:mB f M with
 |none=>rw[e]at b;nomatch b
 |some x=>
  rw[e]at b;cases b;show(Hf0,H0,Hf,M,.bl x,st,uB e,λv b3 H1 j i=>(x,i,k _ b3 H1 j rfl))
def vIf(t:MF4)(f g:MF1)(M:LS):OD:=(t M).bind λb=>if b then f M else g M
variable{cd:Expr}
def FO{t:MF4}(m:DT c X cd t)(ha:DE c X a f)(l:DE c X b g):DE c X (.IfExp cd a b pos) (vIf t f g):=PE.imp (EB m ha l) λE H Q n=>by
 have(Hf0,H0,Hf,M,d,st,e,k):=n;unfold vIf at e
 cases i:t M with
 |none=>rw[i]at e;nomatch e
 |some x=>
  rw[i]at e;show(Hf0,H0,Hf,M,x,st,i,λb3 H1 h=>?_)
  cases x with
  |true=>rw[if_pos rfl];show(Hf0,H0,b3,M,d,st.step h,e,λv bm H2 j r=>k v bm H2 (h.trans j) r)
  |false=>rw[if_neg bJ];show(Hf0,H0,b3,M,d,st.step h,e,λv bm H2 j r=>k v bm H2 (h.trans j) r)
noncomputable instance {i j:Int}:Decidable (qT i j):=by unfold qT;infer_instance
noncomputable instance {i j:Int}:Decidable (kh i j):=by unfold kh;infer_instance
noncomputable instance {i j:Int}:Decidable (qU i j):=by unfold qU;infer_instance
abbrev dI(W9:Int->Int->Prop)[∀i j,Decidable (W9 i j)](g:Int->Int->D):D->D->OD
 |.int i,.int j=>if W9 i j then aa (g i j) else ab
 | _,_=>ab
abbrev dI0(g:Int->Int->D):D->D->OD
 |.int i,.int j=>aa (g i j)
 | _,_=>ab
abbrev da:D->D->OD
 |.int i,.int j=>aa (.int (i+j))
 |.str a,.str b=>if a.length+b.length<=16777216 then aa (.str (a++b)) else ab
 |.lst a,.lst b=>if a.length+b.length<=16777216 then aa (.lst (a++b)) else ab
 | _,_=>ab
nonrec def kj:D->D->OD:=dI0 λi j=>.int (i-j)
nonrec def km:D->D->OD:=dI qT λi j=>.int (i / j)
nonrec def bP:D->D->OD:=dI (λ_ j=>0<j) λi j=>.int (i % j)
nonrec def mS:D->D->OD:=dI kh λi j=>.int (i ^ j.toNat)
nonrec def dLt:D->D->OD:=dI0 λi j=>.bl (decide (i<j))
nonrec def dLe:D->D->OD:=dI0 λi j=>.bl (decide (i<=j))
nonrec def dGt:D->D->OD:=dI0 λi j=>.bl (decide (j<i))
nonrec def dGe:D->D->OD:=dI0 λi j=>.bl (decide (j<=i))
variable{gd:Int->Int->D}
def uC{f:Value->Value->Sem Value}{W9:Int->Int->Prop}[∀i j,Decidable (W9 i j)]{g:Int->Int->V}(h:OpR X f (rI W9 g))(b:∀G H i j,Rep G H (gd i j) (g i j)):OpD c X f (dI W9 gd):=by
 rintro U s E H r w v u Q I n p ⟨Hf,x,y,d,q,l,m,e,k⟩;unfold dI at e;split at e
 .split at e
  .rename_i a;cases e;show h U s E H r w v u Q I n p (_,_,l,m,a,k _ Hf H (Ext.refl q) (b _ _ _ _))
  .nomatch e
 .nomatch e
def rm{f:Value->Value->Sem Value}{g:Int->Int->V}(h:OpR X f (rI0 g))(a:∀G H i j,Rep G H (gd i j) (g i j)):OpD c X f (dI0 gd):=by
 rintro U s E H q r v u Q I m n ⟨Hf,x,y,d,p,b,l,e,k⟩;unfold dI0 at e;split at e
 .cases e;show h U s E H q r v u Q I m n (_,_,b,l,k _ Hf H (Ext.refl p) (a _ _ _ _))
 .nomatch e
def NX:OpD c X (fM .Add) da:=by
 rintro U s E H m n v u Q I j l ⟨Hf,x,y,d,h,f,g,e,k⟩;unfold da at e;split at e
 .cases e;show L9 U s E H m n v u Q I j l (_,_,f,g,k _ Hf H (Ext.refl h) rfl)
 .split at e
  .rename_i i;cases e;show Mv U s E H m n v u Q I j l (_,_,f,g,by rw[di];show i,k _ Hf H (Ext.refl h) rfl)
  .nomatch e
 .split at e
  .rename_i i;cases e;have(a,vs,r,z,f):=f;have(b,us,w,A,g):=g
   show Fh U s E H m n v u Q I j l (a,b,vs,us,r,w,h _ _ z,h _ _ A,by rw[di,<- f.length,<- g.length];show i,
    λp q=>k _ _ _ (Ext.new h q) (p,_,rfl,aY,(f.append g).up (bO (h.free q))))
  .nomatch e
 .nomatch e
def NY:OpD c X (fM .Sub) kj:=rm Ma λ_ _ _ _=>rfl
def NZ:OpD c X (fM .FloorDiv) km:=uC Mb λ_ _ _ _=>rfl
def N0:OpD c X (fM .Mod) bP:=uC Mc λ_ _ _ _=>rfl
def N1:OpD c X (fM .Pow) mS:=uC Md λ_ _ _ _=>rfl
def N2:OpD c X (cK .Lt) dLt:=rm Mi λ_ _ _ _=>rfl
def N3:OpD c X (cK .LtE) dLe:=rm Mj λ_ _ _ _=>rfl
def N4:OpD c X (cK .Gt) dGt:=rm Ml λ_ _ _ _=>rfl
def N5:OpD c X (cK .GtE) dGe:=rm Mm λ_ _ _ _=>rfl
def uD{g:Int->Int->D}(a:∀i j,(g i j).scalar=ac):∀x y d,dI0 g x y=aa d->d.scalar=ac:=by
 intro x y d e;unfold dI0 at e;split at e
 .cases e;show a _ _
 .nomatch e
def N6:∀x y d,dLt x y=aa d->d.scalar=ac:=uD λ_ _=>rfl
def N7:∀x y d,dLe x y=aa d->d.scalar=ac:=uD λ_ _=>rfl
def N8:∀x y d,dGt x y=aa d->d.scalar=ac:=uD λ_ _=>rfl
def N9:∀x y d,dGe x y=aa d->d.scalar=ac:=uD λ_ _=>rfl
abbrev rn:D->OD
 |.int i=>aa (.int (-i))
 | _=>ab
def m1(m:D->OD)(f:MF1)(M:LS):OD:=(f M).bind m
def Oa(ha:DE c X a f):DE c X (.UnaryOp .USub a pos) (m1 rn f):=PE.imp (L8 Mf ha) λE H Q g=>by
 have(Hf0,H0,Hf,M,d,st,b,k):=g;unfold m1 at b
 cases e:f M with
 |none=>rw[e]at b;nomatch b
 |some y=>
  rw[e]at b
  cases y with
  |int i=>cases b;show(Hf0,H0,Hf,M,.int i,st,e,λv Hf' H' x r=>(i,r,k _ Hf' H' x rfl))
  | _=>nomatch b
abbrev FP:D->Bool
 |.non=>ac
 | _=>af
def FQ{x:D}(r:Rep G H x v):decide (v=.non)=FP x:=by
 cases x with
 |non=>subst r;rfl
 |bl b=>subst r;rfl
 |int i=>subst r;rfl
 |str x=>subst r;rfl
 |lst _=>have(a,_,e,_):=r;subst e;rfl
 |tup _=>have(a,_,e,_):=r;subst e;rfl
 |kl _=>have(a,_,e,_):=r;subst e;rfl
 |kt _=>have(a,_,e,_):=r;subst e;rfl
 |dic _ _=>have(a,_,e,_):=r;subst e;rfl
 |ins _ _ _=>have(a,_,_,e,_):=r;subst e;rfl
 |kd _ _=>have(a,_,_,e,_):=r;subst e;rfl
 |dT _ _=>have(a,_,e,_):=r;subst e;rfl
def isD(x y:D):Option Bool:=match y with
 |.non=>aa (FP x)
 |.bl b=>match x with
  |.non=>aa af
  |.bl a=>aa (a==b)
  | _=>ab
 | _=>ab
def dIs(x y:D):OD:=(isD x y).map .bl
def fA(x y:D):OD:=(isD x y).map λb=>.bl (!b)
def FR:OpD c X (cK .Is) dIs:=by
 rintro U s E H m l v u Q I h i ⟨Hf,x,y,d,j,f,g,e,k⟩
 cases y with
 |non=>
  cases e
  show Mn U s E H m l v u Q I h i (g,by rw[FQ f];show k _ Hf H (Ext.refl j) rfl)
 |bl b=>
  cases x with
  |non=>cases e;subst f;show Fx U s E H _ l v u Q I h i (b,g,.inl rfl,k _ Hf H (Ext.refl j) rfl)
  |bl a=>cases e;subst f;show Fx U s E H _ l v u Q I h i (b,g,.inr (a,rfl),by rw[qV];show k _ Hf H (Ext.refl j) rfl)
  | _=>nomatch e
 | _=>nomatch e
def Ob:OpD c X (cK .IsNot) fA:=by
 rintro U s E H m l v u Q I h i ⟨Hf,x,y,d,j,f,g,e,k⟩
 cases y with
 |non=>
  cases e
  show Mo U s E H m l v u Q I h i (g,by rw[FQ f];show k _ Hf H (Ext.refl j) rfl)
 |bl b=>
  cases x with
  |non=>cases e;subst f;show Fy U s E H _ l v u Q I h i (b,g,.inl rfl,k _ Hf H (Ext.refl j) rfl)
  |bl a=>cases e;subst f;show Fy U s E H _ l v u Q I h i (b,g,.inr (a,rfl),by rw[qV];show k _ Hf H (Ext.refl j) rfl)
  | _=>nomatch e
 | _=>nomatch e
def mT{x:Option Bool}{g:Bool->Bool}:∀d,x.map (λb=>D.bl (g b))=aa d->d.scalar=ac:=by
 intro d e
 cases x with
 |none=>nomatch e
 |some b=>cases e;rfl
def FS:∀x y d,dIs x y=aa d->d.scalar=ac:=λ_ _ d e=>mT d e
def Oc:∀x y d,fA x y=aa d->d.scalar=ac:=λ_ _ d e=>mT d e
abbrev eqF:D->D->Bool
 |.non,.non=>ac
 |.bl a,.bl b=>a==b
 |.int a,.int b=>a==b
 |.str a,.str b=>a==b
 | _,_=>af
abbrev cY(f:D->D->Option Bool):LD->LD->Option Bool
 | [],[]=>aa ac
 |x::C,y::ys=>(f x y).bind λb=>(cY f C ys).map λr=>b && r
 | _,_=>aa af
abbrev yD:D->D->Bool
 |.bl _,.int _=>ac
 |.int _,.bl _=>ac
 | _,_=>af
abbrev mU(f:D->D->Option Bool):D->D->Option Bool
 |.lst C,.lst ys=>if C.length=ys.length then cY f C ys else aa af
 |.tup C,.tup ys=>if C.length=ys.length then cY f C ys else ab
 |x,y=>if x.scalar && y.scalar && !yD x y then aa (eqF x y) else ab
abbrev deq:Nat->D->D->Option Bool
 | 0,_,_=>ab
 |n+1,x,y=>mU (deq n) x y
def dEq(x y:D):OD:=(deq 20 x y).map .bl
def dNe(x y:D):OD:=(deq 20 x y).map λb=>.bl (!b)
def Od:∀x y d,dEq x y=aa d->d.scalar=ac:=λ_ _ d e=>mT d e
def Oe:∀x y d,dNe x y=aa d->d.scalar=ac:=λ_ _ d e=>mT d e
variable{x y:D}{C ys:LD}{b:Bool}
def uE{f:D->D->Option Bool}(h:cY f (x::C) (y::ys)=aa b):∃a c,f x y=aa a/\cY f C ys=aa c/\b=(a && c):=by
 dsimp only[cY]at h
 cases d:f x y with
 |none=>rw[d]at h;nomatch h
 |some a=>
  cases e:cY f C ys with
  |none=>rw[d,e]at h;nomatch h
  |some c=>rw[d,e]at h;cases h;show(a,c,rfl,rfl,rfl)
def mV{f:D->D->Option Bool}:∀{C ys:LD} {b:Bool},C.length=ys.length->cY f C ys=aa b->∃e:Nat->Bool,(∀j x y,C[j]?=aa x->ys[j]?=aa y->f x y=aa (e j))/\(bL C.length).all e=b
 | [],[],b,_,h=>by cases h;show(λ_=>ac,λj x y e=>by simp at e,rfl)
 |x::C,y::ys,b,hl,h=>by
  have(c,m,d,h2,rfl):=uE h;have(e,g,ha):=mV (by simpa using hl) h2
  show(λj=>match j with | 0=>c |j+1=>e j,λj i l ex a=>?_,?_)
  .cases j with
   |zero=>simp at ex a;subst ex a;show d
   |succ j=>show g j i l (by simpa using ex) (by simpa using a)
  .rw[cb,range_succ_eq_map,k5,all_map,<- ha]
   rfl
 | [],_::_,_,hl,_=>by cases hl
 | _::_,[],_,hl,_=>by cases hl
def uF(s:d.scalar=ac):d=.non\/(∃b,d=.bl b)\/(∃i,d=.int i)\/∃z,d=.str z:=by
 cases d with
 |non=>show .inl rfl
 |bl b=>show .inr (.inl (b,rfl))
 |int i=>show .inr (.inr (.inl (i,rfl)))
 |str z=>show .inr (.inr (.inr (z,rfl)))
 | _=>nomatch s
def uG(c:(x.scalar && y.scalar && !yD x y)=ac)(d:Rep G H x v)(e:Rep G H y u):fP v=ac/\fP u=ac/\eqV v u=eqF x y/\xS v u=ac/\decide (v=u)=eqF x y:=by
 rw[ca,ca]at c
 rcases uF c.1.1 with rfl |⟨a,rfl⟩ |⟨a,rfl⟩ |⟨a,rfl⟩ <;> rcases uF c.1.2 with rfl |⟨b,rfl⟩ |⟨b,rfl⟩ |⟨b,rfl⟩ <;> first
  |(cases c.2;done)
  |(subst d;subst e;show(rfl,rfl,rfl,rfl,?_);first |show qV |show xT |show xU |rfl)
variable{n:Nat}
def uH(a:¬(∃C ys,x=.lst C/\y=.lst ys)/\¬(∃C ys,x=.tup C/\y=.tup ys))(h:deq (n+1) x y=aa b):(x.scalar && y.scalar && !yD x y)=ac/\b=eqF x y:=by
 replace h:mU _ x y=aa b:=h;unfold mU at h;split at h
 .show absurd (_,_,rfl,rfl) a.1
 .show absurd (_,_,rfl,rfl) a.2
 .split at h
  .rename_i c;cases h;show(c,rfl)
  .nomatch h
def FT:∀(n:Nat) {x y:D} {b:Bool} {v:V},deq n x y=aa b->Rep G H x v->Rep G H y v->b=ac:=by
 intro n
 induction n with
 |zero=>intro x y b v h;nomatch h
 |succ n J=>
  have all:∀(C ys:LD) vs b,ak G H C vs->ak G H ys vs->cY (deq n) C ys=aa b->b=ac:=by
   intro C
   induction C with
   |nil=>
    intro ys vs b d c h;cases (d);have:ys=[]:=tM.mp c.length;subst this
    cases h;rfl
   |cons x C l=>
    intro ys vs b d c h;have(v,r,e,E,h2):=d;subst e
    cases ys with
    |nil=>cases (c)
    |cons y ys=>
     have(N,M,e,i,j):=c;cases e;have(L,z,A,B,rfl):=uE h;rw[J A E i,l ys _ z h2 j B];rfl
  intro x y b v h d c
  by_cases p:∃C ys,x=.lst C/\y=.lst ys
  .have(C,ys,rfl,rfl):=p;have(a,vs,e,q,d):=d;have(w,m,e',g,c):=c;subst e;cases e';rw[q]at g;cases g;have f:=d.length.trans c.length.symm;replace h:(if C.length=ys.length then cY _ C ys else aa af)=aa b:=h;rw[if_pos f]at h;show all C ys vs b d c h
  .by_cases u:∃C ys,x=.tup C/\y=.tup ys
   .have(C,ys,rfl,rfl):=u;have(a,vs,e,q,d):=d;have(w,m,e',g,c):=c;subst e;cases e';rw[q]at g;cases g;replace h:(if C.length=ys.length then cY _ C ys else ab)=aa b:=h;rw[if_pos (d.length.trans c.length.symm)]at h;show all C ys vs b d c h
   .have(I,rfl):=uH (p,u) h;have(_,_,_,_,e):=uG I d c;rw[<- e];show decide_eq_true rfl
variable{us:LVv}
def oZ{s:ah}{L a:LVa}{e:Nat->Bool}(B:ak G H C vs)(E:ak G H ys us)(r:aF vs L)(z:aF us a)
 (p:∀j x y,C[j]?=aa x->ys[j]?=aa y->deq n x y=aa (e j))
 (q:∀{x y:D} {b:Bool} {v u:V} {w g:Value},deq n x y=aa b->Rep G H x v->Rep G H y u->aC v w->aC u g->cx A s w g b):
  ∀j (f:j<L.toArray.size) (h2:j<a.toArray.size),cx A s L.toArray[j] a.toArray[j] (e j):=λj f h2=>by
 have c:j<L.length:=by simpa using f
 have d:j<a.length:=by simpa using h2
 have(v,l,I):=r.at' (i:=j) (u:=L[j]) (by simp[c]);have(u,h,ru):=z.at' (i:=j) (u:=a[j]) (by simp[d]);have(x,ex,J):=B.get' l;have(y,m,M):=E.get' h;show q (p j x y ex m) J M I ru
def yE{s:ah}(I:Inv X U E H s):∀(n:Nat) {A:b5} {x y:D} {b:Bool} {v u:V} {w z:Value},A.units+n<cLine->deq n x y=aa b->Rep (Gx c X) H x v->Rep (Gx c X) H y u->aC v w->aC u z->cx A s w z b:=by
 intro n
 induction n with
 |zero=>intro A x y b v u w z _ h;nomatch h
 |succ n ih=>
  intro A x y b v u w z hu h r1 r2 rv ru;have B:∀{x y:D} {b:Bool} {v u:V} {w z:Value},deq n x y=aa b->Rep _ H x v->Rep _ H y u->aC v w->aC u z->cx A.in1 s w z b:=λh a b c d=>ih (by rw[qR];lia) h a b c d
  by_cases hl:∃C ys,x=.lst C/\y=.lst ys
  .have(C,ys,rfl,rfl):=hl;have(a,vs,e,q,f):=id r1;have(N,r,e',G,g):=id r2;subst e e';cases rv;subst ru
   by_cases j:a=N
   .subst j;have:=FT _ h ((a,vs,rfl,q,f)) (a,r,rfl,G,g);subst this;show xC _
   .show cx.of_refs j ?_;have(L,J,M,hz):=I.list (SqL.of q);have(p,l,m,Y):=I.list (SqL.of G);have l1:=J.length;have l2:=l.length;have l3:=f.length;have l4:=g.length;replace h:(if C.length=ys.length then cY _ C ys else aa af)=aa b:=h;split at h
    .rename_i i;have(ee,Q,ha):=mV i h;have:=SeqAt.RcAt.lists M.isList m.isList (by simp only[size_toArray];lia) (by lia) (oZ f g J l Q B);rw[size_toArray,<- l1,<- l3,ha]at this;show this
    .rename_i i;cases h;show SeqAt.RcAt.lists_lengths M.isList m.isList (by simp only[size_toArray,bne_iff_ne];lia) (by lia)
  .by_cases ht:∃C ys,x=.tup C/\y=.tup ys
   .have(C,ys,rfl,rfl):=ht;have(a,vs,e,q,f):=id r1;have(N,r,e',G,g):=id r2;subst e e';subst rv;subst ru
    by_cases j:a=N
    .subst j;have:=FT _ h ((a,vs,rfl,q,f)) (a,r,rfl,G,g);subst this;show xC _
    .show cx.of_refs j ?_;have(L,J,M,hz):=I.tuple (SqT.of q);have(p,l,m,Y):=I.tuple (SqT.of G);have l1:=J.length;have l2:=l.length;have l3:=f.length;have l4:=g.length;replace h:(if C.length=ys.length then cY _ C ys else ab)=aa b:=h;split at h
     .rename_i i;have(ee,Q,ha):=mV i h;have:=SeqAt.RcAt.tuples (M) (m) (by lia) (oZ f g J l Q B);have T:L.toArray.size=p.toArray.size:=by simp only[size_toArray];lia
      rw[<- T,tR,beq_self_eq_true,qy,size_toArray,<- l1,<- l3,ha]at this;show this
     .nomatch h
   .have(hs,rfl):=uH (hl,ht) h;have(f1,f2,e,_,_):=uG hs r1 r2;rw[<- e];show Fe rv ru f1 f2
def Of(hu:X.A.units+64<cLine):OpD c X (cK .Eq) dEq:=by
 rintro U s E H v u w G Q I rv ru ⟨Hf,x,y,d,s0,p,r,e,k⟩;unfold dEq at e
 cases h:deq 20 x y with
 |none=>rw[h]at e;nomatch e
 |some b=>
  rw[h]at e;cases e;have q0:=k _ Hf H (Ext.refl s0) rfl;have fin:EP X U E Q _ s:=(.bl b,H,I,rfl,q0);have p:=p.up s0;have r:=r.up s0;have n:∀{x y:D} {b:Bool} {v u:V} {w G:Value},deq 19 x y=aa b->Rep _ H x v->Rep (Gx c X) H y u->aC v w->aC u G->cx X.A.in1 s w G b:=λh a b c d=>yE I 19 (by rw[qR];lia) h a b c d
  by_cases hl:∃C ys,x=.lst C/\y=.lst ys
  .have(C,ys,rfl,rfl):=hl;have(a,vs,e,q,i):=id p;have(a',vs',e',q',j):=id r;subst e e';cases rv;subst ru;have(L,z,B,hz):=I.list (SqL.of q);have(m,g,l,T):=I.list (SqL.of q');have Y:=z.length;have l2:=g.length;have l3:=i.length;have l4:=j.length;replace h:(if C.length=ys.length then cY _ C ys else aa af)=aa b:=h;split at h
   .rename_i f;have(ee,J,ha):=mV f h;show SeqAt.eq_listAt B.isList l.isList (by simp only[size_toArray];lia) (by lia) (oZ i j z g J n) ?_;rw[size_toArray,<- Y,<- l3,ha];show fin
   .rename_i f;cases h;show SeqAt.eq_list_lengthsAt B.isList l.isList (by simp only[size_toArray,bne_iff_ne];lia) (by lia) fin
  .by_cases ht:∃C ys,x=.tup C/\y=.tup ys
   .have(C,ys,rfl,rfl):=ht;have(a,vs,e,q,i):=id p;have(a',vs',e',q',j):=id r;subst e e';subst rv;subst ru;have(L,z,B,hz):=I.tuple (SqT.of q);have(m,g,l,T):=I.tuple (SqT.of q');have Y:=z.length;have l2:=g.length;have l3:=i.length;have l4:=j.length;replace h:(if C.length=ys.length then cY _ C ys else ab)=aa b:=h;split at h
    .rename_i f;have(ee,J,ha):=mV f h;show SeqAt.eq_tupleAt (B) (l) (by lia) (oZ i j z g J n) ?_;have N:L.toArray.size=m.toArray.size:=by simp only[size_toArray];lia
     simp only[<- N,tR,beq_self_eq_true,qy,size_toArray,<- Y,<- l3,ha];show fin
    .nomatch h
   .have(hs,rfl):=uH (hl,ht) h;have(_,_,_,M,e):=uG hs p r;show Mg U s E H v u w G Q I rv ru (M,by rw[e];show q0)
def Og(hu:X.A.units+64<cLine):OpD c X (cK .NotEq) dNe:=by
 rintro U s E H v u w G Q I rv ru ⟨Hf,x,y,d,s0,p,r,e,k⟩;unfold dNe at e
 cases h:deq 20 x y with
 |none=>rw[h]at e;nomatch e
 |some b=>
  rw[h]at e;cases e;have q0:=k _ Hf H (Ext.refl s0) rfl;have fin:EP X U E Q _ s:=(.bl (!b),H,I,rfl,q0);have p:=p.up s0;have r:=r.up s0;have n:∀{x y:D} {b:Bool} {v u:V} {w G:Value},deq 19 x y=aa b->Rep _ H x v->Rep (Gx c X) H y u->aC v w->aC u G->cx X.A.in1 s w G b:=λh a b c d=>yE I 19 (by rw[qR];lia) h a b c d
  by_cases hl:∃C ys,x=.lst C/\y=.lst ys
  .have(C,ys,rfl,rfl):=hl;have(a,vs,e,q,i):=id p;have(a',vs',e',q',j):=id r;subst e e';cases rv;subst ru;have(L,z,B,hz):=I.list (SqL.of q);have(m,g,l,T):=I.list (SqL.of q');have Y:=z.length;have l2:=g.length;have l3:=i.length;have l4:=j.length;replace h:(if C.length=ys.length then cY _ C ys else aa af)=aa b:=h;split at h
   .rename_i f;have(ee,J,ha):=mV f h;show SeqAt.RcNeAt.lists B.isList l.isList (by simp only[size_toArray];lia) (by lia) (oZ i j z g J n) X.prog X.w X.xe _ ?_;rw[size_toArray,<- Y,<- l3,ha];show fin
   .rename_i f;cases h;show SeqAt.RcNeAt.lists_lengths B.isList l.isList (by simp only[size_toArray,bne_iff_ne];lia) (by lia) X.prog X.w X.xe _ fin
  .by_cases ht:∃C ys,x=.tup C/\y=.tup ys
   .have(C,ys,rfl,rfl):=ht;have(a,vs,e,q,i):=id p;have(a',vs',e',q',j):=id r;subst e e';subst rv;subst ru;have(L,z,B,hz):=I.tuple (SqT.of q);have(m,g,l,T):=I.tuple (SqT.of q');have Y:=z.length;have l2:=g.length;have l3:=i.length;have l4:=j.length;replace h:(if C.length=ys.length then cY _ C ys else ab)=aa b:=h;split at h
    .rename_i f;have(ee,J,ha):=mV f h;show SeqAt.RcNeAt.tuples (B) (l) (by lia) (oZ i j z g J n) X.prog X.w X.xe _ ?_;have N:L.toArray.size=m.toArray.size:=by simp only[size_toArray];lia
     simp only[<- N,tR,beq_self_eq_true,qy,size_toArray,<- Y,<- l3,ha];show fin
    .nomatch h
   .have(hs,rfl):=uH (hl,ht) h;have(_,_,_,M,e):=uG hs p r;show Mh U s E H v u w G Q I rv ru (M,by rw[e];show q0)
abbrev eqX:D->D->Bool
 |.non,.non=>ac
 |.bl a,.bl b=>a==b
 |.bl a,.int b=>(if a then 1 else 0)==b
 |.int a,.bl b=>a==(if b then 1 else 0)
 |.int a,.int b=>a==b
 |.str a,.str b=>a==b
 | _,_=>af
def inD(x y:D):Option Bool:=(iG y).bind λds=>if x.scalar && ds.all D.scalar then aa (ds.any λd=>eqX d x) else ab
def dIn(x y:D):OD:=(inD x y).map .bl
def ko(x y:D):OD:=(inD x y).map λb=>.bl (!b)
def FU:∀x y d,dIn x y=aa d->d.scalar=ac:=λ_ _ d e=>mT d e
def FV:∀x y d,ko x y=aa d->d.scalar=ac:=λ_ _ d e=>mT d e
def Oh(c:x.scalar=ac)(d:y.scalar=ac)(e:Rep G H x v)(f:Rep G H y u):fP v=ac/\fP u=ac/\eqV v u=eqX x y:=by
 rcases uF c with rfl |⟨a,rfl⟩ |⟨a,rfl⟩ |⟨a,rfl⟩ <;> rcases uF d with rfl |⟨b,rfl⟩ |⟨b,rfl⟩ |⟨b,rfl⟩ <;> (subst e;subst f;show(rfl,rfl,rfl))
def FW{G:Gc}{H:Hp}{x:D}{v:V}(b:x.scalar=ac)(r:Rep G H x v):∀{ds:LD} {vs:LVv},ds.all D.scalar=ac->ak G H ds vs->vs.all fP=ac/\inV v vs=ds.any λd=>eqX d x
 | [],_,_,h=>by cases (h);show(rfl,rfl)
 |d::ds,_,ha,q3_=>by
  have(u,g,e,f,h2):=q3_;subst e;simp only[k5,ca]at ha;have(f1,f2,e):=Oh ha.1 b f r;have(c,a):=FW b r ha.2 h2;show(by simp only[k5,f1,c];rfl,?_);unfold inV at a ⊢;simp only[gz,gz,e,a]
def FX(e:inD x y=aa b)(d:Rep G H x v)(j:Rep G H y u):∃p vs,u=.ref p/\(SqL G.K H p vs\/SqT G.K H p vs)/\fP v=ac/\vs.all fP=ac/\inV v vs=b:=by
 unfold inD at e
 cases es:iG y with
 |none=>rw[es]at e;nomatch e
 |some ds=>
  rw[es]at e;replace e:(if _=ac then aa _ else ab)=aa b:=e;split at e
  .rename_i c;cases e;rw[ca]at c;have(a,vs,g,q,r):=rg es j;have(h,i):=FW c.1 d c.2 r
   have f:fP v=ac:=by cases x <;> first |(subst d;rfl) |(cases c.1)
   show(a,vs,g,q,f,h,i)
  .nomatch e
def FY:OpD c X (cK .In) dIn:=by
 rintro U s E H v u w m Q I l ru ⟨Hf,x,y,d,a,i,j,e,k⟩;unfold dIn at e
 cases h:inD x y with
 |none=>rw[h]at e;nomatch e
 |some b=>
  rw[h]at e;cases e;have(p,vs,f,q,f1,f2,g):=FX h (i.up a) (j.up a);show M7 U s E H v u w m Q I l ru (p,vs,f,q,f1,f2,?_);rw[if_neg bJ,g];show k _ Hf H (Ext.refl a) rfl
def FZ:OpD c X (cK .NotIn) ko:=by
 rintro U s E H v u w m Q I l ru ⟨Hf,x,y,d,a,i,j,e,k⟩;unfold ko at e
 cases h:inD x y with
 |none=>rw[h]at e;nomatch e
 |some b=>
  rw[h]at e;cases e;have(p,vs,f,q,f1,f2,g):=FX h (i.up a) (j.up a);show M8 U s E H v u w m Q I l ru (p,vs,f,q,f1,f2,?_);rw[if_pos rfl,g];show k _ Hf H (Ext.refl a) rfl
def Oi{i:Int}(h:atI ds i=aa d)(r:ak G H ds vs):∃v,atI vs i=aa v/\Rep G H d v:=by
 unfold atI at h ⊢;rw[<- r.length]
 cases e:ixN ds.length i with
 |none=>rw[e]at h;nomatch h
 |some j=>
  rw[e]at h;show r.get h
abbrev ixD(ds:LD):D->OD
 |.int k=>atI ds k
 | _=>ab
def mIx(f:MF2)(g:MF1)(M:LS):OD:=(f M).bind λds=>(g M).bind λi=>ixD ds i
variable{b:Expr}
def o7{f:MF2}(ha:DC c X a f)(y:DE c X b g)(z:autoParam (Fb b) Zj):DE c X (.Subscript a b pos) (mIx f g):=
 PE.imp (Fc (M0.or Fd) ha y z) λE H Q A=>by
  have(Hf0,H0,Hf,M,d,st,e,k):=A;unfold mIx at e
  cases j:f M with
  |none=>rw[j]at e;nomatch e
  |some ds=>
   cases p:g M with
   |none=>rw[j,p]at e;nomatch e
   |some i=>
    rw[j,p]at e
    cases i with
    |int n=>
     show(Hf0,H0,Hf,M,ds,st,j,λl vs b3 H1 x q r=>(Hf0,H0,b3,M,.int n,st.step x,p,λu bm H2 m B=>?_));cases (B);have(v,w,C):=Oi e r;have fin:=k v bm H2 (x.trans m) (C.up m.f)
     rcases q with q |q
     .show .inl (l,vs,n,v,rfl,rfl,m.h.seq q,w,fin)
     .show .inr (l,vs,n,v,rfl,rfl,m.h.tup q,w,fin)
    | _=>nomatch e
def rp(C:LD)(lo hi:Option Int):LD:=(C.drop (HT.sIx C.length 0 lo)).take (HT.sIx C.length C.length hi-HT.sIx C.length 0 lo)
abbrev lsD:D->OLD
 |.lst C=>aa C
 |.kl C=>aa C
 | _=>ab
def ku(e:lsD d=aa ds)(r:Rep G H d v):∃a vs,v=.ref a/\SqL G.K H a vs/\ak G H ds vs:=by
 cases d with
 |lst C=>cases e;have(a,vs,b,q,r):=r;show(a,vs,b,SqL.of q,r)
 |kl C=>cases e;have(a,vs,b,q,r):=r;show(a,vs,b,q,r)
 | _=>nomatch e
inductive F0(G:Gc)(f:LS->Option (Option Int))(E:St)(H:Hp)(Q:Option Int->Hp->Prop):Prop
 |mk:∀Hf0 H0 Hf M i,ar G Hf0 H0 Hf H E M->f M=aa i->(∀Hf' H',Ext Hf H Hf' H'->Q i H')->F0 G f E H Q
def DPt(c:Str->Addr)(X:Cx)(e:Option Expr)(f:LS->Option (Option Int)):Prop:=PO X e (F0 (Gx c X) f)
def F6:DPt c X ab (λ_=>aa ab):=λU s E H Q I b=>by
 have(Hf0,H0,Hf,M,i,st,a,k):=b;show(MT U s E H Q I (by cases a;show k Hf H (Ext.refl st.sub)))
abbrev mPt(f:MF1)(M:LS):Option (Option Int):=(f M).bind λd=>match d with
 |.int i=>aa (aa i)
 | _=>ab
def F7(h:DE c X e f):DPt c X (aa e) (mPt f):=λU s E H Q I g=>by
 have(Hf0,H0,Hf,M,i,st,a,k):=g
 show (MU h U s E H Q I (by
 unfold mPt at a
 cases b:f M with
 |none=>rw[b]at a;nomatch a
 |some d=>
  rw[b]at a
  cases d with
  |int n=>cases a;show(Hf0,H0,Hf,M,.int n,st,b,λv Hf' H' x r=>(n,r,k Hf' H' x))
  | _=>nomatch a))
def mSl(f:MF1)(l h:LS->Option (Option Int))(M:LS):OLD:=(f M).bind λd=>(lsD d).bind λds=>(l M).bind λlo=>(h M).map λhi=>rp ds lo hi
def Oj(r:ak G H ds vs)(lo hi:Option Int):ak G H (rp ds lo hi) (qY vs lo hi):=by
 unfold rp qY;rw[r.length];show(r.drop _).take _
variable{p2:Pos}
def F8{l h:LS->Option (Option Int)}{lo hi:Option Expr}(ha:DE c X e f)(L:DPt c X lo l)(J:DPt c X hi h):DO c X (.Subscript e (.Slice lo hi ab p2) pos) (mSl f l h):=
 PE.imp (MV M6 ha L J) λE H Q N=>by
  have(Hf0,H0,Hf,M,B,st,b,k):=N;unfold mSl at b
  cases g:f M with
  |none=>rw[g]at b;nomatch b
  |some d=>
   cases i:lsD d with
   |none=>rw[g]at b;replace b:(lsD d).bind _=_:=b;rw[i]at b;nomatch b
   |some ds=>
    cases j:l M with
    |none=>rw[g]at b;replace b:(lsD d).bind _=_:=b;rw[i,j]at b;nomatch b
    |some A=>
     cases u:h M with
     |none=>rw[g]at b;replace b:(lsD d).bind _=_:=b;rw[i,j,u]at b;nomatch b
     |some w=>
      rw[g]at b;replace b:(lsD d).bind _=_:=b;rw[i,j,u]at b;cases b;show(Hf0,H0,Hf,M,d,st,g,λv b3 H1 m T=>(Hf0,H0,b3,M,A,st.step m,j,λbm H2 C=>(Hf0,H0,bm,M,w,(st.step m).step C,u,λn U G=>?_)));have(a,vs,I,q,r):=ku i T;subst I;have x:=(m.trans C).trans G;have y:=(C.trans G);show(a,vs,rfl,(m.s.trans y.h).seq q,λp z=>(k p _ n _ (x.trans (Ext.tmp x.s z)) (x.h.free z) (x.s.free z) aY (Oj (r.up y.f) _ _)))
abbrev rCD(G:Gc)(m:LD->OD):LVv->Hp->VK->Prop:=λvs H Q=>∃Hf ds d,aq Hf H/\ak G Hf ds vs/\m ds=aa d/\∀v Hf' H',Ext Hf H Hf' H'->Rep G Hf' d v->Q v H'
nonrec abbrev rq(c:Str->Addr)(X:Cx)(f:Value)(m:LD->OD):Prop:=ie X f (rCD (Gx c X) m)
def aw(m:LD->OD)(f:MF2)(M:LS):OD:=(f M).bind m
variable{m:LD->OD}{f:MF2}
def yF(h:aw m f M=aa d):∃ds,f M=aa ds/\m ds=aa d:=by
 unfold aw at h
 cases e:f M with
 |none=>rw[e]at h;nomatch h
 |some ds=>rw[e]at h;show(ds,rfl,h)
variable{p:Pos}{x:Str}
def o8{id:String}(l:rq c X (.builtin id) m)(u:∀ds d,m ds=aa d->d.scalar=ac)(q:Gl X x)(hm:X.mg x=ab)(hv:jF x=aa (.builtin id))(ha:DAB c X (e::es) f)(hn:autoParam (x ≠ "__name__") Zc)(a:autoParam (NDb x) Zc)
 (n:autoParam (StE X e es) Zb)(b:autoParam (BkE X pos es) Zb):
  DE c X (.Call (.Name x p) (e::es) [] pos) (aw m f):=PE.imp (E8 l q hm hv ha.pa hn a n b) λE H Q w=>by
 have(Hf0,H0,Hf,M,d,st,j,k):=w;have(ds,i,g):=yF j;show(Hf0,H0,Hf,M,ds,st,i,λvs Hf' H' x r=>(H',ds,d,aq.refl _,r,g,λv bm H2 z y=>k v Hf' H2 (x.trans (Ext.grow x.s z.h)) (y.sc (u _ _ g))))
abbrev cG:LD->OD
 | [.lst C]=>aa (.int C.length)
 | [.tup C]=>aa (.int C.length)
 | [.kl C]=>aa (.int C.length)
 | [.kt C]=>aa (.int C.length)
 | [.str x]=>if x.length<=16777216 then aa (.int x.length) else ab
 | _=>ab
def ak.one(r:ak G H [d] vs):∃v,vs=[v]/\Rep G H d v:=by
 have(v,a,e,h,q):=r;cases (q);show(v,e,h)
def F9(e:cG ds=aa d):∃a,ds=[a]/\((∃C,iG a=aa C/\d=.int C.length)\/∃x,a=.str x/\x.length<=16777216/\d=.int x.length):=by
 cases ds with
 |nil=>nomatch e
 |cons a ds=>
  cases ds with
  |cons _ _=>cases a <;> nomatch e
  |nil=>
   show(a,rfl,?_)
   cases a with
   |lst C=>cases e;show .inl (C,rfl,rfl)
   |tup C=>cases e;show .inl (C,rfl,rfl)
   |kl C=>cases e;show .inl (C,rfl,rfl)
   |kt C=>cases e;show .inl (C,rfl,rfl)
   |str x=>
    replace e:(if x.length<=16777216 then aa _ else ab)=aa d:=e
    grind
   | _=>nomatch e
def Ol:rq c X (.builtin "len") cG:=by
 rintro U s E H vs us Q I l ⟨Hf,ds,d,j,r,e,k⟩
 have sq:∀b C,ds=[b]->iG b=aa C->d=.int C.length->wpAny _ X.A _ _ X.xe s:=λb C g es e0=>by
  subst g e0;have(v,f,i):=r.one;subst f;have(a,ws,h,q,B):=rg es i;subst h;show M9 U s E H _ us Q I l (a,ws,rfl,yw j q,?_);rw[<- B.length];show k _ Hf H (Ext.refl j) rfl
 obtain⟨b,g,⟨C,f,h⟩ |⟨x,rfl,m,rfl⟩⟩:=F9 e
 .show sq b C g f h
 .subst g;have(v,f,i):=r.one;subst f;show Na U s E H _ us Q I l (_,by rw[show v=V.str _ from i],by rw[di];show m,k _ Hf H (Ext.refl j) rfl)
def Om:∀ds d,cG ds=aa d->d.scalar=ac:=by
 intro ds d e
 obtain⟨a,c,⟨C,b,rfl⟩ |⟨x,rfl,f,rfl⟩⟩:=F9 e <;> rfl
abbrev gH:LD->Option (LI0)
 | []=>aa []
 |.int i::ds=>(gH ds).map λr=>i::r
 | _=>ab
def Ga{G:Gc}{H:Hp}:∀{ds:LD} {ns:LI0} {vs:LVv},gH ds=aa ns->ak G H ds vs->vs=ns.map V.int
 | [],_,_,e,r=>by cases e;show r
 |.int i::ds,_,_,e,q4_=>by
  have(v,b,e',a,h2):=q4_;subst e'
  cases es:gH ds with
  |none=>rw[gH,es]at e;cases e
  |some ns=>
   rw[gH,es]at e;cases e;rw[Ga es h2,show v=V.int i from a]
   rfl
 |.non::_,_,_,e,_=>by cases e
 |.bl _::_,_,_,e,_=>by cases e
 |.str _::_,_,_,e,_=>by cases e
 |.lst _::_,_,_,e,_=>by cases e
 |.tup _::_,_,_,e,_=>by cases e
 |.kl _::_,_,_,e,_=>by cases e
 |.kt _::_,_,_,e,_=>by cases e
 |.dic _ _::_,_,_,e,_=>by cases e
 |.ins _ _ _::_,_,_,e,_=>by cases e
def On(ns:LI0):gH (ns.map D.int)=aa ns:=by
 induction ns with
 |nil=>rfl
 |cons n ns a=>rw[bD,gH,a];rfl
abbrev jg:LD->OD
 | [d]=>(lsD d).bind λds=>(gH ds).map λns=>.int ns.sum
 | _=>ab
def yG(l:X.calm=ac):rq c X (.builtin "sum") jg:=by
 rintro U s E H vs us Q I n ⟨Hf,ds,d,g,r,e,k⟩;unfold jg at e;split at e
 .rename_i h
  cases b:lsD h with
  |none=>rw[b]at e;nomatch e
  |some C=>
   cases f:gH C with
   |none=>rw[b]at e;replace e:(gH C).map _=_:=e;rw[f]at e;nomatch e
   |some ns=>
    rw[b]at e;replace e:(gH C).map _=_:=e;rw[f]at e;cases e;have(v,j,m):=r.one;subst j;have(a,ws,i,q,B):=ku b m;subst i;show NK l U s E H _ us Q I n (a,ns,rfl,?_,k _ Hf H (Ext.refl g) rfl);rw[<- Ga f B];show g.seq q
 .nomatch e
def yH:∀ds d,jg ds=aa d->d.scalar=ac:=by
 intro ds d e;unfold jg at e;split at e
 .rename_i c
  cases a:lsD c with
  |none=>rw[a]at e;nomatch e
  |some C=>
   rw[a]at e;replace e:(gH C).map _=_:=e
   cases b:gH C with
   |none=>rw[b]at e;nomatch e
   |some ns=>rw[b]at e;cases e;rfl
 .nomatch e
def uI(n:jF x=aa (.type "list"))(m:Gl X x)(hm:X.mg x=ab)(ha:DC c X e f)(i:autoParam (aM [e] X.env=(af,eval e X.env,)::aM [] X.env) Zb)(hn:autoParam (x ≠ "__name__") Zc)(b:autoParam (NDb x) Zc)
 (g:autoParam ((cg pos (aM [] X.env)).any (·.1)=af) Zb):DO c X (.Call (.Name x p) [e] [] pos) f:=
 PE.imp (MP Nb m hm n (d3 ha dR i) hn b i g) λE H Q u=>by
 have(Hf0,H0,Hf,M,ds,st,j,k):=u
 show (
  (Hf0,H0,Hf,M,ds,st,j,λa vs Hf' H' x q r=>(a,vs,rfl,q,λl d=>k l vs Hf' _ (x.trans (Ext.tmp x.s d)) (x.h.free d) (x.s.free d) aY r)))
abbrev tyN:D->Option String
 |.non=>aa "NoneType"
 |.bl _=>aa "bool"
 |.int _=>aa "int"
 |.str _=>aa "str"
 |.lst _=>aa "list"
 |.tup _=>aa "tuple"
 |.dic _ _=>aa "dict"
 | _=>ab
def yI(T:String)(d:D):OD:=(tyN d).map λt=>.bl (t==T || (t == "bool" && T == "int"))
def Oo{t:String}(e:tyN d=aa t)(r:Rep G H d v):gE G.K H v (.type t):=by
 cases d with
 |non=>cases e;subst r;show .non
 |bl b=>cases e;subst r;show .bl b
 |int i=>cases e;subst r;show .int i
 |str x=>cases e;subst r;show .str x
 |lst C=>cases e;have(a,vs,c,q,r):=r;subst c;show .lst q
 |tup C=>cases e;have(a,vs,c,q,r):=r;subst c;show .tup q
 |dic ks C=>cases e;have(a,vs,c,q,l,r):=r;subst c;show .dK q
 | _=>nomatch e
def rA(K:aQ)(T:String):Prop:=∀t∈["NoneType","bool","int","str","list","tuple","dict"],W.kitOne K (.type t) (.type T)=aa (t==T || (t == "bool" && T == "int"))
def Op{t:String}(e:tyN d=aa t):t∈["NoneType","bool","int","str","list","tuple","dict"]:=by
 cases d <;> first |(cases e;decide) |cases e
def mW(T:String)(f:MF1)(M:LS):OD:=(f M).bind (yI T)
def Gb{f:MF1}{T:String}{b:Pos}{y:Str}(w:rA X.K T)(u:Gl X "isinstance")(hm:X.mg "isinstance"=ab)(z:jF y=aa (.type T))(j:Gl X y)(l:X.mg y=ab)(ha:DB c X e f)
 (q:autoParam (aM [e,.Name y b] X.env=(af,eval e X.env,)::aM [.Name y b] X.env) Zb)(n:autoParam (aM [.Name y b] X.env=(af,eval (.Name y b) X.env,)::aM [] X.env) Zb)
 (hn:autoParam (y ≠ "__name__") Zc)(i:autoParam ((y==("__debug__":Str))=af) Zc)(m:autoParam ((cg pos (aM [.Name y b] X.env)).any (·.1)=af) Zb):
  DE c X (.Call (.Name "isinstance" p) [e,.Name y b] [] pos) (mW T f):=
 PE.imp (E8 NL u hm boot_isinstance (d3 ha (d3 (Lg (v:=.ty T) j l z rfl hn i) dR n) q) (by decide) (by decide) q m) λE H Q A=>by
  have(Hf0,H0,Hf,M,d,st,a,k):=A;unfold mW at a
  cases h:f M with
  |none=>rw[h]at a;nomatch a
  |some x=>
   rw[h]at a;replace a:yI T x=aa d:=a;unfold yI at a
   cases g:tyN x with
   |none=>rw[g]at a;nomatch a
   |some t=>
    rw[g]at a;cases a;show(Hf0,H0,Hf,M,x,st,h,λv Hf' H' B r=>(v,T,.type t,_,rfl,Oo g r,w t (Op g),k _ Hf' H' B rfl))
inductive tDG(G:Gc)(g:D->LS->Option LS)(v:V)(E:St)(H:Hp)(Q:St->Hp->Prop):Prop
 |mk:∀Hf0 H0 Hf M d ρ',ar G Hf0 H0 Hf H E M->Rep G Hf d v->g d M=aa ρ'->(∀σ',ar G Hf0 H0 Hf H σ' ρ'->Q σ' H)->tDG G g v E H Q
inductive Ge(G:Gc)(g:LD->LS->Option LS)(vs:LVv)(E:St)(H:Hp)(Q:St->Hp->Prop):Prop
 |mk:∀Hf0 H0 Hf M ds ρ',ar G Hf0 H0 Hf H E M->ak G Hf ds vs->g ds M=aa ρ'->(∀σ',ar G Hf0 H0 Hf H σ' ρ'->Q σ' H)->Ge G g vs E H Q
structure DG(c:Str->Addr)(X:Cx)(tg:Expr)(k:Nat)(g:D->LS->Option LS):Prop where
 pg:PG X tg (tDG (Gx c X) g)
 len:∀d M ρ',g d M=aa ρ'->ρ'.length=M.length
 keep:∀d M ρ' i,g d M=aa ρ'->k<=i->ρ'[i]?=M[i]?
structure DGs(c:Str->Addr)(X:Cx)(tg:LEx)(k:Nat)(g:LD->LS->Option LS):Prop where
 pg:PGs X tg (Ge (Gx c X) g)
 len:∀d M ρ',g d M=aa ρ'->ρ'.length=M.length
 keep:∀d M ρ' i,g d M=aa ρ'->k<=i->ρ'[i]?=M[i]?
 many:∀ds M ρ',g ds M=aa ρ'->ds.length=tg.length
def ay(i:Nat)(d:D)(M:LS):Option LS:=aa (M.set i (.im d))
def Gf{i k:Nat}(h:PG X e (ib i))(g:i<k):DG c X e k (ay i):=
 (PG.imp h λv E H Q b=>by have(Hf0,H0,Hf,M,d,ρ',st,r,a,q):=b;cases a;show q _ (st.setIm r),λd M ρ' h=>by cases h;simp,λd M ρ' j h f=>by
  cases h;rw[kX (by lia)])
def Oq(i k:Nat)(a:X.N.Nodup)(d:autoParam (i<k) Zc)(hi:autoParam (X.N[i]?=aa x) Zb)(e:autoParam (Loc X.env.scope x) Zf)(b:autoParam (LcF X x) Zg):DG c X (.Name x pos) k (ay i):=
 Gf (xK a hi e b) d
def dk(ds:LD)(M:LS):Option LS:=match ds with
 | []=>aa M
 | _=>ab
def bq(g:D->LS->Option LS)(h:LD->LS->Option LS)(ds:LD)(M:LS):Option LS:=match ds with
 |d::ds=>(g d M).bind λρ1=>h ds ρ1
 | []=>ab
def Os{k:Nat}:DGs c X [] k dk:=by
 show(PGs.imp LI λvs E H Q f=>?_,λd M ρ' h=>?_,λd M ρ' i h _=>?_,λd M ρ' h=>?_)
 .have(Hf0,H0,Hf,M,ds,ρ',st,r,e,q):=f
  cases ds with
  |nil=>cases e;show(r,q _ st)
  |cons d ds=>nomatch e
 .cases d with
  |nil=>cases h;rfl
  |cons a b=>nomatch h
 .cases d with
  |nil=>cases h;rfl
  |cons a b=>nomatch h
 .cases d with
  |nil=>cases h;rfl
  |cons a b=>nomatch h
variable{h:LD->LS->Option LS}
def uJ{g:D->LS->Option LS}(e:bq g h ds M=aa ρ'):∃d r ρ1,ds=d::r/\g d M=aa ρ1/\h r ρ1=aa ρ':=by
 cases ds with
 |nil=>nomatch e
 |cons d r=>
  replace e:(g d M).bind _=_:=e
  cases a:g d M with
  |none=>rw[a]at e;nomatch e
  |some ρ1=>rw[a]at e;show(d,r,ρ1,rfl,a,e)
def Ot{k:Nat}{g:D->LS->Option LS}(j:DG c X e k g)(h2:DGs c X es k h)(n:autoParam ((iZ (e::es) X.env).map (·.2)=assign e X.env::(iZ es X.env).map (·.2)) Zb):DGs c X (e::es) k (bq g h):=by
 show(PGs.imp (LJ j.pg h2.pg n) λvs E H Q p=>?_,λd M ρ' h=>?_,λd M ρ' i h hi=>?_,λd M ρ' h=>?_)
 .have(Hf0,H0,Hf,M,ds,ρ',st,r,l,q):=p;have(d,f,ρ1,rfl,b,a):=uJ l;have(v,x,m,w,u):=r;show(v,x,m,Hf0,H0,Hf,M,d,ρ1,st,w,b,λy st1=>(Hf0,H0,Hf,ρ1,f,ρ',st1,u,a,q))
 .have(d,f,ρ1,rfl,b,a):=uJ h;rw[h2.len _ _ _ a,j.len _ _ _ b]
 .have(d,f,ρ1,rfl,b,a):=uJ h;rw[h2.keep _ _ _ _ a hi,j.keep _ _ _ _ b hi]
 .have(d,f,ρ1,rfl,b,a):=uJ h;rw[cb,cb,h2.many _ _ _ a]
abbrev tpD:D->OLD
 |.tup C=>aa C
 |.kt C=>aa C
 | _=>ab
def Gg(e:tpD d=aa ds)(r:Rep G H d v):∃a vs,v=.ref a/\SqT G.K H a vs/\ak G H ds vs:=by
 cases d with
 |tup C=>cases e;have(a,vs,b,q,r):=r;show(a,vs,b,SqT.of q,r)
 |kt C=>cases e;have(a,vs,b,q,r):=r;show(a,vs,b,q,r)
 | _=>nomatch e
def cZ(g:LD->LS->Option LS)(d:D)(M:LS):Option LS:=(tpD d).bind λds=>g ds M
def yJ{g:LD->LS->Option LS}(h:cZ g d M=aa ρ'):∃ds,tpD d=aa ds/\g ds M=aa ρ':=by
 unfold cZ at h
 cases e:tpD d with
 |none=>rw[e]at h;nomatch h
 |some ds=>rw[e]at h;show(ds,rfl,h)
variable{kk:Nat}
def Ou{k:Nat}{g:LD->LS->Option LS}(n:X.calm=ac)(h:DGs c X es k g)(hn:autoParam ((iZ es X.env).length=es.length) Zb)(f:autoParam ((iZ es X.env).findIdx? (·.1)=ab) Zb):DG c X (.Tuple es kk pos) k (cZ g):=by
 show(PG.imp (LL n h.pg hn f) λv E H Q p=>?_,λd M ρ' h'=>?_,λd M ρ' i h' hi=>?_)
 .have(Hf0,H0,Hf,M,d,ρ',st,r,m,q):=p;have(ds,e,b):=yJ m;have(a,vs,l,u,j):=Gg e r;show(a,vs,l,st.sub.tup u,by rw[<- j.length];show h.many _ _ _ b,Hf0,H0,Hf,M,ds,ρ',st,j,b,q)
 .have(ds,e,b):=yJ h';show h.len _ _ _ b
 .have(ds,e,b):=yJ h';show h.keep _ _ _ _ b hi
def rB(G:Gc)(Hf:Hp)(J:It)(ds:LD):Prop:=∀Hf' H',aq Hf Hf'->aq Hf' H'->∀i:Nat,
 (∀d,ds[i]?=aa d->J.go i H'/\∀x H2,J.yld i H' x H2->∃bm,Ext Hf' H' bm H2/\Rep G bm d x)/\(i=ds.length->J.stop i H')
def uK(G:Gc)(Hf H:Hp)(J:It)(ds:LD):Prop:=∀Hf' H',Ext Hf H Hf' H'->∀i:Nat,
 (∀d,ds[i]?=aa d->J.go i H'/\∀x H2,J.yld i H' x H2->∃bm,Ext Hf' H' bm H2/\Rep G bm d x)/\(i=ds.length->J.stop i H')
def rB.toE(h:rB G Hf J ds):uK G Hf H J ds:=λHf' H' x i=>h Hf' H' x.f x.s i
inductive tDI(G:Gc)(f:MF2)(E:St)(H:Hp)(R:It->Hp->Prop):Prop
 |mk:∀Hf0 H0 Hf M ds,ar G Hf0 H0 Hf H E M->f M=aa ds->(∀J Hf' H',Ext Hf H Hf' H'->rB G Hf' J ds->R J H')->tDI G f E H R
inductive yK(G:Gc)(f:MF2)(E:St)(H:Hp)(R:It->Hp->Prop):Prop
 |mk:∀Hf0 H0 Hf M ds,ar G Hf0 H0 Hf H E M->f M=aa ds->(∀J Hf' H',Ext Hf H Hf' H'->uK G Hf' H' J ds->R J H')->yK G f E H R
def DI(c:Str->Addr)(X:Cx)(tg iter:Expr)(f:MF2):Prop:=PI X tg iter (tDI (Gx c X) f)
def DIe(c:Str->Addr)(X:Cx)(tg iter:Expr)(f:MF2):Prop:=PI X tg iter (yK (Gx c X) f)
def DI.de(h:DI c X tg e f):DIe c X tg e f:=PI.imp h λE H R b=>by
 have(Hf0,H0,Hf,M,ds,st,a,k):=b;show((Hf0,H0,Hf,M,ds,st,a,λJ Hf' H' x i=>k J Hf' H' x i.toE))
def Gh(q:SqL G.K H l vs)(r:ak G Hf ds vs):uK G Hf H (Itl G.K l) ds:=λHf' H' b i=>by
 have a:=b.h.seq q;show(λd g=>?_,λj=>(vs,a,by rw[<- r.length,j];show aL _));have(v,c,m):=r.get g;show((vs,v,a,c),λx H2 (e,y)=>?_);subst e;have:=y vs a;rw[c]at this;cases this;show(Hf',Ext.refl b.s,m.up b.f)
def Ov(q:SqT G.K Hf l vs)(r:ak G Hf ds vs):rB G Hf (Itt G.K l) ds:=λHf' H' f s i=>by
 have a:=(f.trans s).tup q;show(λd e=>?_,λg=>(vs,a,by rw[<- r.length,g];show aL _));have(v,b,h):=r.get e;show((vs,v,a,b),λx H2 (c,y)=>?_);subst c;have:=y vs a;rw[b]at this;cases this;show(Hf',Ext.refl s,h.up f)
def o9{f:MF1}(h:DE c X e f):DI c X tg e (aV f):=λU s E H R I A=>by
 have(Hf0,H0,Hf,M,ds,st,b,k):=A;unfold aV at b
 cases g:f M with
 |none=>rw[g]at b;nomatch b
 |some d=>
  rw[g]at b
  cases j:lsD d with
  |some l=>
   have:l=ds:=by cases d <;> first |(cases j;done) |(cases j;cases b;rfl)
   subst this;show xP h U s E H R I (Hf0,H0,Hf,M,d,st,g,λv Hf' H' x r=>?_);have(a,vs,n,q,B):=ku j r
   show⟨a,n,(vs,x.s.seq q),k _ Hf' H' x λbm H2 f2 s2 i=>by
    have p:=(f2.trans s2).seq q;show(λd w=>?_,λz=>(vs,p,by rw[<- B.length,z];show aL _));have(v,u,C):=B.get w;show((vs,v,p,u),λx G (m,y)=>?_);subst m;have:=y vs p;rw[u]at this;cases this
    show(bm,Ext.refl s2,C.up f2)⟩
  |none=>
   have m:tpD d=aa ds:=by cases d <;> first |(cases j;done) |(cases b;done) |(cases b;rfl)
   show LY h U s E H R I (Hf0,H0,Hf,M,d,st,g,λv Hf' H' x r=>?_);have(a,vs,n,q,B):=Gg m r;show(a,n,(vs,x.s.tup q),k _ Hf' H' x (Ov q B))
def rng(lo:Int)(n:Nat):LD:=(bL n).map λ(i:Nat)=>.int (lo+i)
def Ow{lo:Int}:rB G Hf (Itr lo n) (rng lo n):=λHf' H' f s i=>by
 show(λd a=>?_,λb=>?_)
 .unfold rng at a;rw[cB]at a
  cases e:(bL n)[i]? with
  |none=>rw[e]at a;nomatch a
  |some j=>
   rw[e]at a;have(hi,c):=cX.mp e;rw[cI]at hi;rw[List.getElem_range]at c;subst c;cases a;show(hi,λx H2 (g,y)=>by subst g;show(Hf',Ext.refl s,y))
 .unfold rng at b;rw[aA,cI]at b;show Nat.le_of_eq b.symm
abbrev yL:LD->OLD
 | [.int j]=>if -(2 ^ 62)<=j/\j<2 ^ 62 then aa (rng 0 j.toNat) else ab
 | [.int i,.int j]=>if -(2 ^ 62)<=i/\i<2 ^ 62/\-(2 ^ 62)<=j/\j<2 ^ 62 then aa (rng i (j-i).toNat) else ab
 | _=>ab
def gJ(f:MF2)(M:LS):OLD:=(f M).bind yL
def Ox(h:Gl X "range")(hm:X.mg "range"=ab)(ha:DA c X [a] f)(l:autoParam (aM [a] X.env=[(af,eval a X.env,)]) Zb):DI c X tg (.Call (.Name "range" p) [a] [] pos) (gJ f):=
 PI.imp (L5 h hm ha.pa l) λE H R m=>by
  have(Hf0,H0,Hf,M,ds,st,b,k):=m;unfold gJ at b
  cases d:f M with
  |none=>rw[d]at b;nomatch b
  |some as=>
   rw[d]at b;replace b:yL as=aa ds:=b;have i:=ha.len M as d;show(Hf0,H0,Hf,M,as,st,d,λvs Hf' H' x r=>?_);unfold yL at b;split at b
   .split at b
    .rename_i j e;cases b;have(v,g,n):=r.one;cases (n);show(j,g,e.1,e.2,k _ Hf' H' x Ow)
    .nomatch b
   .nomatch i
   .nomatch b
def iH(k:Nat)(js:LN)(M:LS):LS:=g6 k .no++js.map λj=>(M[j]?).getD .no
def ar.weak(h:ar G Hf0 H0 Hf H E M)(f:ρ'.length=M.length)(d:∀(i:Nat) (s:Sl),ρ'[i]?=aa s->s=.no\/M[i]?=aa s):ar G Hf0 H0 Hf H E ρ':=by
 show h.re h.ext f (λi v s a b=>?_) λi s v a b c p=>?_
 .rcases d i s b with e |e
  .subst e;trivial
  .show h.at' i v s a e
 .rcases d i s b with e |e
  .subst e;show(p.calm rfl).elim
  .show(s,e,p)
def uL{a:Type}{k:Nat}{x:a}{l:List a}{y:a}(h:(g6 k x++l)[i]?=aa y):(i<k/\y=x)\/(k<=i/\l[i-k]?=aa y):=by
 by_cases hi:i<k
 .left;rw[l7 (by simpa using hi),oe,if_pos hi]at h;show(hi,(dh h).symm)
 .right;rw[oa (by simpa using ot hi),l8]at h;show(ot hi,h)
def mY{a b:Type}{f:a->b}{l:List a}{y:b}(h:(l.map f)[i]?=aa y):∃x,l[i]?=aa x/\y=f x:=by
 rw[cB]at h
 cases e:l[i]? with
 |none=>rw[e]at h;nomatch h
 |some x=>rw[e]at h;show(x,rfl,(dh h).symm)
def Oy(h:js.Nodup){x:Nat}(a:js[i]?=aa x)(b:js[j]?=aa x):i=j:=by
 have(e,c):=cX.mp a;have(h2,d):=cX.mp b;show(List.getElem_inj h).mp (c.trans d.symm)
def ar.comp(k:Nat)(h:ar G Hf0 H0 Hf H E M)(U:js.Nodup):ar G Hf0 H0 Hf H (je k js E) (iH k js M):=by
 have own:∀i s,(iH k js M)[i]?=aa s->s.calm=af->∃j,k<=i/\js[i-k]?=aa j/\M[j]?=aa s:=λi s a r=>by
  rcases uL a with⟨_,e⟩ |⟨hi,a⟩
  .subst e;nomatch r
  .have(j,f,es):=mY a
   cases e:M[j]? with
   |none=>rw[e]at es;subst es;nomatch r
   |some t=>rw[e]at es;replace es:s=t:=es;subst es;show(j,hi,f,e)
 have val:∀i v j,(je k js E)[i]?=aa v->k<=i->js[i-k]?=aa j->v=(E[j]?).getD ab:=λi v j a hi f=>by
  rcases uL a with⟨T,_⟩ |⟨_,a⟩
  .lia
  .have(A,g,es):=mY a;rw[f]at g;cases g;show es
 show(h.ext,by simp[je,iH],λi v s a b=>?_,λi j s t y z l a b c d p q=>?_)
 .rcases uL b with⟨_,e⟩ |⟨hi,b⟩
  .subst e;trivial
  .have(j,f,es):=mY b;have J:=val i v j a hi f
   cases e:M[j]? with
   |none=>rw[e]at es;subst es;trivial
   |some t=>
    rw[e]at es;subst es;have(u,Q,q):=h.slot e;rw[Q]at J;subst J;show q
 .have r:s.calm=af:=by
   cases w:s.calm with
   |true=>show(p.calm w).elim
   |false=>rfl
  have Y:t.calm=af:=by
   cases w:t.calm with
   |true=>show(q.calm w).elim
   |false=>rfl
  have(L,hi,I,B):=own i s a r;have(A,x,f,C):=own j t b Y;have v1:=val i _ L c hi I;have N:=val j _ A d x f;have(u1,m,_):=h.slot B;have(u2,n,_):=h.slot C;rw[m]at v1;rw[n]at N;subst v1 N;have:=h.dj L A s t y z l B C m n p q;subst this;have:=Oy U I f
  lia
abbrev eS(h:D->Option OD):LD->OLD
 | []=>aa []
 |d::ds=>(h d).bind λo=>(eS h ds).map λr=>match o with
  |some y=>y::r
  |none=>r
def Oz{h:D->Option OD}{r:LD}(e:eS h (d::ds)=aa r):∃o a,h d=aa o/\eS h ds=aa a/\r=(match o with |some y=>y::a |none=>a):=by
 dsimp only[eS]at e
 cases b:h d with
 |none=>rw[b]at e;nomatch e
 |some o=>
  cases c:eS h ds with
  |none=>rw[b,c]at e;nomatch e
  |some a=>
   rw[b,c]at e;cases e;show(o,a,rfl,rfl,?_)
   cases o <;> rfl
def gK(g:D->LS->Option LS)(ft:MF4)(fe:MF1)(M:LS)(d:D):Option OD:=(g d M).bind λρ1=>(ft ρ1).bind λb=>if b then (fe ρ1).map aa else aa ab
def bn(k:Nat)(js:LN)(fi:MF2)(g:D->LS->Option LS)(ft:MF4)(fe:MF1)(M:LS):OLD:=
 (fi M).bind λds=>if ds.length<=16777216 then eS (gK g ft fe (iH k js M)) ds else ab
def yM{a:Type}{l:List a}(h:i<l.length):∃x,l[i]?=aa x/\l.drop i=x::l.drop (i+1):=(l[i],by simp[h],(drop_eq_getElem_cons h))
def DTs(c:Str->Addr)(X:Cx)(c4:LEx)(f:MF4):Prop:=PTs X c4 (tDT (Gx c X) f)
def OA:DTs c X [] kY:=PTs.imp NG λE H Q d=>by
 have(Hf0,H0,Hf,M,b,st,a,k):=d;show(by cases a;show k Hf H (Ext.refl st.sub))
def rC{f:MF4}(h:DT c X e f):DTs c X [e] f:=NH h
variable{g:D->LS->Option LS}{ft:MF4}{fe:MF1}{B:LD}
def Gi{k:Nat}(hj:js.Nodup)(hk:∀d M ρ' i,g d M=aa ρ'->k<=i->ρ'[i]?=M[i]?)(A:∀d M ρ',g d M=aa ρ'->ρ'.length=M.length){ti:TI}(st:ar G Hf0 H0 Hf H E M)
 (hti:∀R:It->Hp->Prop,(∀J b3 H1,Ext Hf H b3 H1->uK G b3 H1 J ds->R J H1)->ti E H R)(hz:ds.length<=16777216)(ef:eS (gK g ft fe (iH k js M)) ds=aa B)
 (kq:∀l vs Hf' H',Ext Hf H Hf' H'->H l=ab->Hf' l=ab->H' l=aa (.lst vs)->ak G Hf' B vs->Q (.ref l) H'):oW k js ti (tDG G g) (tDT G ft) (tD G fe) E H Q:=by
 show hti _ λJ b3 H1 x1 it=>?_
 show(λi m ys σ' H'=>m=ds.length-i/\i<=ds.length/\∃Hf' as rest,Ext b3 H1 Hf' H'/\ar G Hf0 H0 Hf' H' σ' _/\ak G Hf' as ys/\eS _ (ds.drop i)=aa rest/\B=as++rest/\as.length<=i,
  (ds.length,rfl,ce _,b3,[],B,Ext.refl x1.s,(st.step x1).comp k hj,rfl,ef,rfl,aL _),?_)
 rintro i m ys σ' H' ⟨rfl,hi,Hf',as,rest,x2,st2,ra,Y,er,hal⟩;have C:ys.length<=aS:=by rw[di,<- ra.length];lia
 have(it1,it2):=it Hf' H' x2 i
 by_cases q:i<ds.length
 .have(d,ed,edr):=yM q;have(go,yl):=it1 d ed
  show .inr (go,C,λL N H2=>ds.length-_=ds.length-_/\i+1<=ds.length/\∃Hf' as rest,Ext b3 H1 Hf' H2/\ar G Hf0 H0 Hf' H2 N _/\ak G Hf' as L/\eS _ _=aa rest/\B=as++rest/\as.length<=i+1,
   λL N H2 w=>(ds.length-(i+1),by lia,w),λx H2 y=>?_)
  have(bm,x3,rx):=yl x H2 y;rw[edr]at Y;have(o,r',a,u,n):=Oz Y;unfold gK at a
  cases z:g d _ with
  |none=>rw[z]at a;nomatch a
  |some ρ1=>
   rw[z]at a;replace a:(ft ρ1).bind _=_:=a
   cases et:ft ρ1 with
   |none=>rw[et]at a;nomatch a
   |some b=>
    rw[et]at a;show(Hf0,H0,bm,iH k js M,d,ρ1,st2.step x3,rx,z,λT p=>(Hf0,H0,bm,ρ1,b,p,et,λr H4 I=>?_))
    have back:∀{c U:Hp},ar G Hf0 H0 c U T ρ1->ar G Hf0 H0 c U T _:=λ{c U} s5=>s5.weak (A _ _ _ z).symm λj s hs=>by
     rcases uL hs with⟨_,e⟩ |⟨hj',_⟩
     .show .inl e
     .show .inr (by rw[hk _ _ _ _ z hj'];show hs)
    cases b with
    |true=>
     cases ee:fe ρ1 with
     |none=>rw[ee]at a;nomatch a
     |some y'=>
      rw[ee]at a;cases a;show(Hf0,H0,r,ρ1,y',p.step I,ee,λv c U x5 r5=>?_);have x:=(x3.trans I).trans x5;show(rfl,q,c,as++[y'],r',x2.trans x,back ((p.step I).step x5),(ra.up x.f).append (.cons r5 .nil),u,?_,by simp only[aR,fH];lia);simp only[er,n,cJ]
      rfl
    |false=>
     cases a;have x:=x3.trans I;show(rfl,q,r,as,r',x2.trans x,back (p.step I),ra.up x.f,u,by rw[er,n],by lia)
 .have ei:i=ds.length:=by lia
  subst ei;show .inl (it2 rfl,C,λl h1 h2=>?_);rw[drop_eq_nil_of_le (aL _)]at Y;cases Y;rw[bN]at er;subst er;have x:=x1.trans x2;show kq l ys Hf' _ (x.trans (Ext.tmp x.s h2)) (x.h.free h2) (x.s.free h2) aY ra
variable{fi:MF2}
def yN{k:Nat}(e:js.Nodup)(f:∀d M ρ' i,g d M=aa ρ'->k<=i->ρ'[i]?=M[i]?)(b:∀d M ρ',g d M=aa ρ'->ρ'.length=M.length)(h:tDO G (bn k js fi g ft fe) E H Q):
  oW k js (yK G fi) (tDG G g) (tDT G ft) (tD G fe) E H Q:=by
 have(Hf0,H0,Hf,M,B,st,a,j):=h;unfold bn at a
 cases c:fi M with
 |none=>rw[c]at a;nomatch a
 |some ds=>
  rw[c]at a;replace a:(if ds.length<=16777216 then eS _ ds else ab)=aa B:=a
  by_cases hz:ds.length<=16777216
  .rw[if_pos hz]at a;show Gi e f b st (λR q=>(Hf0,H0,Hf,M,ds,st,c,λJ b3 H1 l it=>q J b3 H1 l it)) hz a j
  .rw[if_neg hz]at a
   nomatch a
def kz(k:Nat)(js:LN)(Nc:LSt)(d:X.calm=ac)(hi:DIe c X tg iter fi)(a:∀cl W9 ex cc cs,DG c (X.comp scope Nc cl W9 ex cc cs) tg k g)(j:∀cl W9 ex cc cs,DTs c (X.comp scope Nc cl W9 ex cc cs) c4 ft)
 (e:∀cl W9 ex cc cs,DE c (X.comp scope Nc cl W9 ex cc cs) dd fe)(b:autoParam (lB scope X.env.scope.names X.N Nc k js=ac) Zb)(i:autoParam (∀x,k8 iter X.env x=pure x) Zd)(f:autoParam (js.Nodup) Zc):
  DO c X (.ListComp dd [(tg,iter,c4,0)] scope pos) (bn k js fi g ft fe):=
 PE.imp (NJ (tt:=tDT (Gx c X) ft) (te:=tD (Gx c X) fe) k js Nc d hi (λcl W9 ex cc cs=>(a cl W9 ex cc cs).pg) j e b i) λE H Q h=>
  yN f (a [] 0 [] X.s₀ X.H₀).keep (a [] 0 [] X.s₀ X.H₀).len h
def dvc{cl:List (Str×Addr)}(i:Nat)(b:autoParam (Nc[i]?=aa x) Zb)(hv:autoParam (Vis scope x) Ze)(hd:autoParam (NDb x) Zc)
 (a:autoParam (NCd x) Zc):DE c (X.comp scope Nc cl W9 ex cc cs) (.Name x pos) (ae i):=FD (pvc i b hv hd a)
def OB{cl:List (Str×Addr)}(i:Nat)(b:autoParam (Nc[i]?=aa x) Zb)(hv:autoParam (Vis scope x) Ze)(hd:autoParam (NDb x) Zc)
 (a:autoParam (NCd x) Zc):DB c (X.comp scope Nc cl W9 ex cc cs) (.Name x pos) (cO i):=FF (pvc i b hv hd a)
def yO{cl:List (Str×Addr)}(i:Nat)(b:autoParam (Nc[i]?=aa x) Zb)(hv:autoParam (Vis scope x) Ze)(hd:autoParam (NDb x) Zc)
 (a:autoParam (NCd x) Zc):DC c (X.comp scope Nc cl W9 ex cc cs) (.Name x pos) (av i):=FE (pvc i b hv hd a)
def dgc{cl:List (Str×Addr)}(i k:Nat)(b:autoParam (i<k) Zc)(a:autoParam (Nc.Nodup) Zn)(hi:autoParam (Nc[i]?=aa x) Zb)(d:autoParam (scope.names.lookup x=aa .local) Zb):DG c (X.comp scope Nc cl W9 ex cc cs) (.Name x pos) k (ay i):=
 Gf (pgc i a hi d) b
inductive Fl where
 |nx (M:LS)
 |bk (M:LS)
 |ct (M:LS)
 |rt (d:D)
 |rtO (ds:LD)
 |rtS (d:D) (M:LS)
 |rtT (o:O)
nonrec abbrev MF3:=LS->Option Fl
abbrev uM(G:Gc)(Hf0 H0 Hf:Hp)(W8:ja):Fl->Prop
 |.nx ρ'=>∀σ' Hf' H',aq Hf Hf'->ar G Hf0 H0 Hf' H' σ' ρ'->W8.nx σ' H'
 |.bk ρ'=>∀σ' Hf' H',aq Hf Hf'->ar G Hf0 H0 Hf' H' σ' ρ'->W8.bk σ' H'
 |.ct ρ'=>∀σ' Hf' H',aq Hf Hf'->ar G Hf0 H0 Hf' H' σ' ρ'->W8.ct σ' H'
 |.rt d=>∀v Hf' H',Ext Hf0 H0 Hf' H'->Rep G Hf' d v->W8.rt v H'
 |.rtO ds=>∀l vs Hf' H',Ext Hf0 H0 Hf' H'->H0 l=ab->Hf' l=ab->H' l=aa (.lst vs)->ak G Hf' ds vs->W8.rt (.ref l) H'
 |.rtS d M=>∀v σ' Hf' H',ar G Hf0 H0 Hf' H' σ' M->Rep G Hf' d v->W8.rt v H'
 |.rtT o=>∀u fp Hf' H',Ext Hf0 H0 Hf' H'->OT G Hf' H' o u fp->fp.Nodup->(∀a∈fp,H0 a=ab/\Hf' a=ab)->W8.rt u H'
inductive tDS(G:Gc)(F:MF3)(W8:ja)(E:St)(H:Hp):Prop
 |mk:∀Hf0 H0 Hf M o,ar G Hf0 H0 Hf H E M->F M=aa o->uM G Hf0 H0 Hf W8 o->tDS G F W8 E H
def DS(c:Str->Addr)(X:Cx)(st:Stmt)(F:MF3):Prop:=PS X st (tDS (Gx c X) F)
def DSs(c:Str->Addr)(X:Cx)(st:List Stmt)(F:MF3):Prop:=PSs X st (tDS (Gx c X) F)
def bE(M:LS):Option Fl:=aa (.nx M)
def ai(F a:MF3)(M:LS):Option Fl:=(F M).bind λo=>match o with
 |.nx ρ'=>a ρ'
 |o=>aa o
def be(t:MF4)(F a:MF3)(M:LS):Option Fl:=(t M).bind λb=>if b then F M else a M
def aZ(i:Nat)(f:MF1)(M:LS):Option Fl:=(f M).map λd=>.nx (M.set i (.im d))
def c6(i:Nat)(f:MF2)(M:LS):Option Fl:=(f M).map λd=>.nx (M.set i (.own d))
def a8(f:MF1)(M:LS):Option Fl:=(f M).map .rt
def cy(f:MF2)(M:LS):Option Fl:=(f M).map .rtO
def eT(i:Nat)(M:LS):Option Fl:=match M[i]? with
 |some (.im d)=>aa (.rt d)
 |some (.own C)=>aa (.rtO C)
 | _=>ab
abbrev iI(g:D->LS->Option LS)(F:MF3):LD->MF3
 | [],M=>aa (.nx M)
 |d::ds,M=>(g d M).bind λρ1=>(F ρ1).bind λo=>match o with
  |.nx a=>iI g F ds a
  |.ct a=>iI g F ds a
  |.bk a=>aa (.nx a)
  |.rt d=>aa (.rt d)
  |.rtO d=>aa (.rtO d)
  |.rtS d a=>aa (.rtS d a)
  |.rtT o=>aa (.rtT o)
def b6(fi:MF2)(g:D->LS->Option LS)(F:MF3)(M:LS):Option Fl:=(fi M).bind λds=>iI g F ds M
abbrev dq(t:MF4)(F:MF3):Nat->MF3
 | 0,_=>ab
 |n+1,M=>(t M).bind λb=>if b then (F M).bind λo=>match o with
   |.nx a=>dq t F n a
   |.ct a=>dq t F n a
   |.bk a=>aa (.nx a)
   |.rt d=>aa (.rt d)
   |.rtO d=>aa (.rtO d)
   |.rtS d a=>aa (.rtS d a)
   |.rtT o=>aa (.rtT o)
  else aa (.nx M)
def yP(i:Nat)(M:LS):LS:=match M[i]? with
 |some (.own C)=>M.set i (.im (.lst C))
 |some (.ownd ks C)=>M.set i (.im (.dic ks C))
 |some (.obj c ns C)=>M.set i (.im (.ins c ns C))
 | _=>M
def fS(i:Nat)(F:MF3)(M:LS):Option Fl:=F (yP i M)
def dC(i:Nat)(f:MF1)(M:LS):Option Fl:=(f M).bind λd=>match M[i]? with
 |some (.own C)=>if C.length<16777216 then aa (.nx (M.set i (.own (C++[d])))) else ab
 | _=>ab
def kA(f:MF1)(M:LS):OLD:=(f M).bind λd=>match d with
 |.lst C=>aa C
 | _=>ab
def kB(i:Nat)(f:MF2)(M:LS):Option Fl:=(f M).bind λds=>match M[i]? with
 |some (.own C)=>if C.length+ds.length<=16777216 then aa (.nx (M.set i (.own (C++ds)))) else ab
 | _=>ab
def OC:DSs c X [] bE:=PSs.imp EC λW8 E H b=>by
 have(Hf0,H0,Hf,M,o,d,a,k):=b;show(by cases a;show k E Hf H (aq.refl _) d)
def uM.up{W8:ja}{o:Fl}(h:uM G Hf0 H0 Hf W8 o)(s:aq Hf Hf'):uM G Hf0 H0 Hf' W8 o:=by
 cases o with
 |nx M=>show λσ' bm H2 s2 q=>h σ' bm H2 (s.trans s2) q
 |bk M=>show λσ' bm H2 s2 q=>h σ' bm H2 (s.trans s2) q
 |ct M=>show λσ' bm H2 s2 q=>h σ' bm H2 (s.trans s2) q
 |rt d=>show h
 |rtO d=>show h
 |rtS d M=>show h
 |rtT o=>show h
variable{st:Stmt}{sts:List Stmt}{F':MF3}
def aD{F:MF3}(f:DS c X st F)(h2:DSs c X sts F'):DSs c X (st::sts) (ai F F'):=PSs.imp (ud f h2) λW8 E H g=>by
 have(Hf0,H0,Hf,M,o,h,a,k):=g;unfold ai at a
 cases b:F M with
 |none=>rw[b]at a;nomatch a
 |some o1=>
  rw[b]at a;show(Hf0,H0,Hf,M,o1,h,b,?_)
  cases o1 with
  |nx ρ1=>show λi b3 H1 s1 e=>(Hf0,H0,b3,ρ1,o,e,a,k.up s1)
  |bk ρ1=>cases a;show k
  |ct ρ1=>cases a;show k
  |rt d=>cases a;show k
  |rtO d=>cases a;show k
  |rtS d ρ1=>cases a;show k
  |rtT o'=>cases a;show k
def bx{F:MF3}(a:DS c X st F):DSs c X [st] F:=ED a
variable{a b:List Stmt}{t:MF4}
def gL{F:MF3}(j:DT c X cd t)(ha:DSs c X a F)(i:DSs c X b F'):DS c X (.If cd a b pos) (be t F F'):=PS.imp (LF j ha i) λW8 E H l=>by
 have(Hf0,H0,Hf,M,o,h,d,k):=l;unfold be at d
 cases g:t M with
 |none=>rw[g]at d;nomatch d
 |some x=>
  rw[g]at d;show(Hf0,H0,Hf,M,x,h,g,λb3 H1 e=>?_)
  cases x with
  |true=>rw[if_pos rfl];show(Hf0,H0,b3,M,o,h.step e,d,k.up e.f)
  |false=>rw[if_neg bJ];show(Hf0,H0,b3,M,o,h.step e,d,k.up e.f)
def Gj{f:MF1}(g:PS X st (jb te (ib i)))(hi:∀E H Q,tD (Gx c X) f E H Q->te E H Q):DS c X st (aZ i f):=PS.imp g λW8 E H h=>by
 have(Hf0,H0,Hf,M,o,e,a,k):=h;unfold aZ at a
 cases b:f M with
 |none=>rw[b]at a;nomatch a
 |some d=>
  rw[b]at a;cases a;show hi _ _ _ (Hf0,H0,Hf,M,d,e,b,λv Hf' H' x r=>k _ Hf' H' x.f ((e.step x).setIm r))
def Gk(j:PS X st (jb te (ib i)))(hi:∀E H Q,tDO (Gx c X) f E H Q->te E H Q):DS c X st (c6 i f):=PS.imp j λW8 E H m=>by
 have(Hf0,H0,Hf,M,o,e,a,k):=m;unfold c6 at a
 cases b:f M with
 |none=>rw[b]at a;nomatch a
 |some d=>
  rw[b]at a;cases a;show hi _ _ _ (Hf0,H0,Hf,M,d,e,b,λl vs Hf' H' x hn g h r=>k _ Hf' H' x.f (e.setOwn rfl x hn g (vs,h,r)))
def pc(i:Nat){f:MF1}(a:X.N.Nodup)(b:DE c X e f)(hi:autoParam (X.N[i]?=aa x) Zb)(j:autoParam (Loc X.env.scope x) Zf)(g:autoParam (f9 e (aa (.Name x b4)) pos.line X.env=pure af) Zb)(d:autoParam (LcF X x) Zg):
  DS c X (.Assign [.Name x b4] e pos) (aZ i f):=Gj (oP a hi j b g d) λ_ _ _ h=>h
def uN(i:Nat)(a:X.N.Nodup)(b:DO c X e f)(hi:autoParam (X.N[i]?=aa x) Zb)(j:autoParam (Loc X.env.scope x) Zf)(g:autoParam (f9 e (aa (.Name x b4)) pos.line X.env=pure af) Zb)(d:autoParam (LcF X x) Zg):
  DS c X (.Assign [.Name x b4] e pos) (c6 i f):=Gk (oP a hi j b g d) λ_ _ _ h=>h
def OE(h:tD G (aP f) E H Q):tDO G f E H Q:=by
 have(Hf0,H0,Hf,M,d,st,a,k):=h;unfold aP at a
 cases b:f M with
 |none=>rw[b]at a;nomatch a
 |some ds=>
  rw[b]at a;have a:=dh a;subst a;show(Hf0,H0,Hf,M,ds,st,b,λl vs Hf' H' x hn c e r=>k _ _ H' (x.fix hn c e) (l,vs,rfl,aY,r.up (bO c)))
def OF(i:Nat)(k:Nat)(js:LN)(Nc:LSt)(f:X.N.Nodup)(j:X.calm=ac)(hi:DIe c X tg iter fi)
 (a:∀cl W9 ex cc cs,DG c (X.comp scope Nc cl W9 ex cc cs) tg k g)(q:∀cl W9 ex cc cs,DTs c (X.comp scope Nc cl W9 ex cc cs) c4 ft)(l:∀cl W9 ex cc cs,DE c (X.comp scope Nc cl W9 ex cc cs) dd fe)
 (b:autoParam (X.N[i]?=aa x) Zb)(r:autoParam (Loc X.env.scope x) Zf)
 (d:autoParam (f9 (.ListComp dd [(tg,iter,c4,0)] scope pos) (aa (.Name x b4)) eL.line X.env=pure ac) Zb)
 (e:autoParam (lB scope X.env.scope.names X.N Nc k js=ac) Zb)(p:autoParam (∀x,k8 iter X.env x=pure x) Zd)(n:autoParam (js.Nodup) Zc)
 (m:autoParam (LcF X x) Zg):
  DS c X (.Assign [.Name x b4] (.ListComp dd [(tg,iter,c4,0)] scope pos) eL) (c6 i (bn k js fi g ft fe)):=
 Gk (yu (tt:=tDT (Gx c X) ft) (te:=tD (Gx c X) fe) k js Nc f b r j hi (λcl W9 ex cc cs=>(a cl W9 ex cc cs).pg) q l d e p m) λE H Q h=>yN n (a [] 0 [] X.s₀ X.H₀).keep (a [] 0 [] X.s₀ X.H₀).len h
def rE(i:Nat)(k:Nat)(js:LN)(Nc:LSt)(f:X.N.Nodup)(j:X.calm=ac)(hi:DIe c X tg iter fi)
 (a:∀cl W9 ex cc cs,DG c (X.comp scope Nc cl W9 ex cc cs) tg k g)(q:∀cl W9 ex cc cs,DTs c (X.comp scope Nc cl W9 ex cc cs) c4 ft)(l:∀cl W9 ex cc cs,DE c (X.comp scope Nc cl W9 ex cc cs) dd fe)
 (b:autoParam (X.N[i]?=aa x) Zb)(r:autoParam (Loc X.env.scope x) Zf)
 (d:autoParam (f9 (.ListComp dd [(tg,iter,c4,0)] scope pos) (aa (.Name x b4)) eL.line X.env=pure ac) Zb)
 (e:autoParam (lB scope X.env.scope.names X.N Nc k js=ac) Zb)(p:autoParam (∀x,k8 iter X.env x=pure x) Zd)(n:autoParam (js.Nodup) Zc)
 (m:autoParam (LcF X x) Zg):
  DS c X (.Assign [.Name x b4] (.ListComp dd [(tg,iter,c4,0)] scope pos) eL) (aZ i (aP (bn k js fi g ft fe))):=
 Gj (yu (tt:=tDT (Gx c X) ft) (te:=tD (Gx c X) fe) k js Nc f b r j hi (λcl W9 ex cc cs=>(a cl W9 ex cc cs).pg) q l d e p m) λE H Q h=>yN n (a [] 0 [] X.s₀ X.H₀).keep (a [] 0 [] X.s₀ X.H₀).len (OE h)
def lE{f:MF1}(h:DE c X e f):DS c X (.Return (aa e) pos) (a8 f):=PS.imp (qS h) λW8 E H i=>by
 have(Hf0,H0,Hf,M,o,g,a,k):=i;unfold a8 at a
 cases b:f M with
 |none=>rw[b]at a;nomatch a
 |some d=>
  rw[b]at a;cases a;show(Hf0,H0,Hf,M,d,g,b,λv Hf' H' x r=>k v Hf' H' (g.ext.trans x) r)
def fB(f:MF1)(M:LS):Option Fl:=(f M).map λd=>.rtS d M
def Gm{f:MF1}(h:DE c X e f):DS c X (.Return (aa e) pos) (fB f):=PS.imp (qS h) λW8 E H i=>by
 have(Hf0,H0,Hf,M,o,g,a,k):=i;unfold fB at a
 cases b:f M with
 |none=>rw[b]at a;nomatch a
 |some d=>
  rw[b]at a;cases a;show(Hf0,H0,Hf,M,d,g,b,λv Hf' H' x r=>k v E Hf' H' (g.step x) r)
def jJ(i:DO c X e f):DS c X (.Return (aa e) pos) (cy f):=PS.imp (qS i) λW8 E H n=>by
 have(Hf0,H0,Hf,M,o,g,a,k):=n;unfold cy at a
 cases b:f M with
 |none=>rw[b]at a;nomatch a
 |some d=>
  rw[b]at a;cases a;show(Hf0,H0,Hf,M,d,g,b,λl vs Hf' H' x hn j m r=>k l vs Hf' H' (g.ext.trans x) (g.ext.h.free hn) j m r)
def OG(h:PE X e (cE i)):DS c X (.Return (aa e) pos) (eT i):=PS.imp (qS h) λW8 E H m=>by
 have(Hf0,H0,Hf,M,o,b,a,k):=m;unfold eT at a
 cases es:M[i]? with
 |none=>rw[es]at a;nomatch a
 |some s=>
  rw[es]at a
  cases s with
  |im d=>
   cases a;have(v,f,r):=b.imm es
   show(_,f,k v Hf H b.ext r)
  |own C=>
   cases a;have(l,f,g,j,vs,q,r):=b.ownAt rfl es
   show(_,f,k l vs Hf H b.ext g j q r)
  | _=>nomatch a
def OH(i:Nat)(b:autoParam (X.N[i]?=aa x) Zb)(hv:autoParam (Vis X.env.scope x) Ze)(hd:autoParam (NDb x) Zc)
 (a:autoParam (NCd x) Zc):DS c X (.Return (aa (.Name x p)) pos) (eT i):=OG (lx b hv hd a)
def fT{F:MF3}(hp:PassesOwn (model X.prog X.w) X.A X.env X.xe)(hc:X.calm=ac)(hi:DI c X tg iter fi)(hg:DG c X tg kk g)(hb:DSs c X a F)(hs:autoParam (∀x,k8 iter X.env x=pure x) Zd):
  DS c X (.For tg iter a [] pos) (b6 fi g F):=PS.imp (EG hp hc hi hg.pg hb hs) λW8 E H q_=>by
 have(Hf0,H0,Hf,M,o,T,p,k):=q_;unfold b6 at p
 cases v:fi M with
 |none=>rw[v]at p;nomatch p
 |some ds=>
  rw[v]at p;show(Hf0,H0,Hf,M,ds,T,v,λJ b3 H1 Q it=>?_);show(λi m σ' H'=>m=ds.length-i/\i<=ds.length/\∃Hf' ρ',ar _ Hf0 H0 Hf' H' σ' ρ'/\aq b3 Hf'/\iI g F (ds.drop i) ρ'=aa o,(ds.length,rfl,ce _,b3,M,T.step Q,aq.refl _,p),?_);rintro i m σ' H' ⟨rfl,hi',Hf',ρ',l,s1,em⟩;have(G,I):=it Hf' H' s1 l.sub i
  by_cases j:i<ds.length
  .have(d,Y,B):=yM j;have(go,yl):=G d Y;rw[B]at em;dsimp only[iI]at em;show .inr (go,λr H2=>ds.length-_=ds.length-_/\i+1<=ds.length/\∃Hf' ρ',ar _ Hf0 H0 Hf' H2 r ρ'/\aq b3 Hf'/\iI g F _ ρ'=aa o,λr H2 w=>(ds.length-(i+1),by lia,w),λx H2 y=>?_);have(bm,U,rx):=yl x H2 y
   cases C:g d ρ' with
   |none=>rw[C]at em;nomatch em
   |some ρ1=>
    rw[C]at em;replace em:(F ρ1).bind _=_:=em
    cases z:F ρ1 with
    |none=>rw[z]at em;nomatch em
    |some o1=>
     rw[z]at em;show(Hf0,H0,bm,ρ',d,ρ1,l.step U,rx,C,λσ3 N=>(Hf0,H0,bm,ρ1,o1,N,z,?_));have L:=s1.trans U.f
     cases o1 with
     |nx h=>show λn b u q e=>(rfl,j,b,h,e,L.trans q,em)
     |ct h=>show λn b u q e=>(rfl,j,b,h,e,L.trans q,em)
     |bk h=>cases em;show λn b u q e=>k n b u ((Q.f.trans L).trans q) e
     |rt d=>cases em;show k
     |rtO d=>cases em;show k
     |rtS d h=>cases em;show k
     |rtT o'=>cases em;show k
  .have ei:i=ds.length:=by lia
   subst ei;rw[drop_eq_nil_of_le (aL _)]at em;cases em;show .inl (I rfl,k σ' Hf' H' (Q.f.trans s1) l)
def pf{F:MF3}(n:Nat)(G:PassesOwn (model X.prog X.w) X.A X.env X.xe)(C:DT c X cd t)(B:DSs c X a F):DS c X (.While cd a [] pos) (dq t F n):=PS.imp (LR G C B) λW8 E H I=>by
 have(Hf0,H0,Hf,M,o,J,z,k):=I;show(λm σ' H'=>∃Hf' ρ',ar _ Hf0 H0 Hf' H' σ' ρ'/\aq Hf Hf'/\dq t F m ρ'=aa o,(n,Hf,M,J,aq.refl _,z),?_);rintro m σ' H' ⟨Hf',ρ',i,s1,em⟩
 cases m with
 |zero=>nomatch em
 |succ m=>
  dsimp only[dq]at em
  cases v:t ρ' with
  |none=>rw[v]at em;nomatch em
  |some b=>
   rw[v]at em;show(Hf0,H0,Hf',ρ',b,i,v,λbm H2 q=>?_)
   cases b with
   |false=>
    cases em
    show k σ' bm H2 (s1.trans q.f) (i.step q)
   |true=>
    cases u:F ρ' with
    |none=>rw[u]at em;nomatch em
    |some o1=>
     rw[u]at em;show(λp y=>∃Hf' ρ',ar _ Hf0 H0 Hf' y p ρ'/\aq Hf Hf'/\dq t F m ρ'=aa o,λp y w=>(m,c8 _,w),Hf0,H0,bm,ρ',o1,i.step q,u,?_);have x:=s1.trans q.f
     cases o1 with
     |nx h=>show λj e r l g=>(e,h,g,x.trans l,em)
     |ct h=>show λj e r l g=>(e,h,g,x.trans l,em)
     |bk h=>cases em;show λj e r l g=>k j e r (x.trans l) g
     |rt d=>cases em;show k
     |rtO d=>cases em;show k
     |rtS d h=>cases em;show k
     |rtT o'=>cases em;show k
def OI{F:MF3}{W8:ja}(h:tDS G (fS i F) W8 E H):tDS G F W8 E H:=by
 have(Hf0,H0,Hf,M,o,b,c,k):=h;unfold fS yP at c;split at c
 .rename_i C es;have(l,e,f,a,vs,q,r):=b.ownAt rfl es;show(Hf0,H0,_,_,o,b.fixd (d:=.lst C) rfl es e q (l,vs,rfl,aY,r.up (bO a)),c,k.up (bO a))
 .rename_i ks C es;have(l,e,f,a,vs,q,z,r):=b.ownAt rfl es;show(Hf0,H0,_,_,o,b.fixd (d:=.dic ks C) rfl es e q (l,vs,rfl,aY,z,r.up (bO a)),c,k.up (bO a))
 .rename_i g ns C es;have(l,e,f,a,dx,vs,q,z,r):=b.ownAt rfl es;show(Hf0,H0,_,_,o,b.fixd (d:=.ins g ns C) rfl es e q (l,dx,vs,rfl,aY,z,r.up (bO a)),c,k.up (bO a))
 .show(Hf0,H0,Hf,M,o,b,c,k)
def mZ{F:MF3}(i:Nat)(h:DS c X st F):DS c X st (fS i F):=PS.imp h λ_ _ _=>OI
def OJ{f:MF1}(h:PS X st (ly (tBM X.K "list" ur (cE i) (jc (tD (Gx c X) f) ig)))):DS c X st (dC i f):=PS.imp h λW8 E H m=>by
 have(Hf0,H0,Hf,M,o,e,a,k):=m;unfold dC at a
 cases b:f M with
 |none=>rw[b]at a;nomatch a
 |some d=>
  rw[b]at a;split at a
  .rename_i C es;split at a
   .rename_i j;cases a;have(l,g,p,u,vs,q,r):=e.ownAt rfl es;show(_,g,.inl (rfl,_,SqL.of q),Hf0,H0,Hf,M,d,e,b,λv Hf' H' x n=>?_);show(l,vs,v,rfl,rfl,(x.h _ _ q),by rw[di,<- r.length];show j,k E Hf' _ x.f ((e.step x).mutd rfl rfl es g (vs++[v],aY,(r.up x.f).append (.cons n .nil))))
   .nomatch a
  .nomatch a
def Gn{f:MF1}(h:PS X st (ly (tBM X.K "list" yf (cE i) (jc (tD (Gx c X) f) ig)))):DS c X st (kB i (kA f)):=PS.imp h λW8 E H u=>by
 have(Hf0,H0,Hf,M,o,g,b,k):=u;unfold kB kA at b
 cases e:f M with
 |none=>rw[e]at b;nomatch b
 |some d=>
  rw[e]at b
  cases d with
  |lst ds=>
   replace b:(match M[i]? with |some (.own C)=>if C.length+ds.length<=16777216 then aa _ else ab | _=>ab)=aa o:=b
   split at b
   .rename_i C es;split at b
    .rename_i p;cases b;have(l,j,z,A,vs,q,r):=g.ownAt rfl es;show(_,j,.inl (rfl,_,SqL.of q),Hf0,H0,Hf,M,.lst ds,g,e,λv Hf' H' x y=>?_);have(a,us,n,w,m):=y;subst n;show(l,a,vs,us,rfl,rfl,(x.h _ _ q),x.s _ _ w,by rw[di,<- r.length,<- m.length];show p,k E Hf' _ x.f ((g.step x).mutd rfl rfl es j (vs++us,aY,(r.up x.f).append m)))
    .grind
   .grind
  | _=>nomatch b
abbrev Go:Fl->OD
 |.rt d=>aa d
 |.rtO ds=>aa (.lst ds)
 |.rtS d _=>aa d
 |.nx _=>aa .non
 | _=>ab
def eU(n:Nat)(ds:LD):LS:=ds.map .im++g6 (n-ds.length) .no
def aO(n:Nat)(F:MF3)(ds:LD):OD:=(F (eU n ds)).bind Go
def jh(n:Nat)(F:MF3)(ds:LD):OLD:=(F (eU n ds)).bind λo=>match o with
 |.rtO ds=>aa ds
 | _=>ab
def spD(G:Gc)(n:Nat)(m:LD->OD):Sp:=λvs H Q _=>∃Hf ds d,aq Hf H/\ak G Hf ds vs/\ds.length=n/\m ds=aa d/\∀v Hf' H',Ext Hf H Hf' H'->Rep G Hf' d v->Q v H'
def spO(G:Gc)(n:Nat)(m:LD->OLD):Sp:=λvs H Q _=>∃Hf ds B,aq Hf H/\ak G Hf ds vs/\ds.length=n/\m ds=aa B /\
 ∀l us Hf' H',Ext Hf H Hf' H'->H l=ab->Hf' l=ab->H' l=aa (.lst us)->ak G Hf' B us->Q (.ref l) H'
def ar.start(h:aq Hf H)(r:ak G Hf ds vs):ar G Hf H Hf H (start N vs) (eU N.length ds):=by
 have im:∀i (s:Sl),(eU N.length ds)[i]?=aa s->s=.no\/∃d,ds[i]?=aa d/\s=.im d:=λi s b=>by
  unfold eU at b
  by_cases hi:i<ds.length
  .rw[l7 (by simpa using hi)]at b;have(d,f,es):=mY b;show .inr (d,f,es)
  .rw[oa (by simpa using ot hi)]at b;have(_,e):=cX.mp b;rw[List.getElem_replicate]at e;show .inl e.symm
 show(Ext.refl h,by simp[L2.start,eU,r.length],λi v s a b=>?_,λi j s t v w l a b c d p q=>?_)
 .rcases im i s b with e |⟨d,f,es⟩
  .subst e;trivial
  .subst es;have(u,g,ru):=r.get f;show(u,?_,ru);unfold L2.start at a;rw[l7 (by simpa using ((cX.mp g).1)),cB,g]at a;show(dh a).symm
 .rcases im i s a with e |⟨d,f,es⟩
  .subst e;show(p.calm rfl).elim
  .subst es;show(p.calm rfl).elim
variable{P:cf}{mg:MGT}{base:Heap}{n_:Nat}{qual:Str}{f:Addr}{fd:cT}{ps:LSt}
def a9{k:Nat}{F:MF3}(q:Fun K x qual st f fd)(S:aB N ps (au st))
 (h:∀(cdv:Value) (A:b5) (outer:List Env) (s:ah) (H:Hp) (W8:XK),bu k (A.deeper (fK qual (au st) s.heap.objs.size f cdv))->DSs c (ij CX0 P w K mg base N qual (au st) f cdv A outer s H W8).nox (fw st) F)(i:autoParam (N.length=n_) Zb):
  cq P w K mg base CX0 (k+1) f fd ps (spD (K,c) ps.length (aO n_ F)):=by
 subst i;show q.ok S (λvs H Q W8 j=>by have(Hf,ds,d,p,r,a,_):=j;rw[<- r.length];show a) λcdv A outer s H vs Q W8 hr j=>?_;have(Hf,ds,d,p,r,a,e,b):=j;show(_,h cdv A outer s H W8 hr,?_);unfold aO at e
 cases g:F _ with
 |none=>rw[g]at e;nomatch e
 |some o=>
  rw[g]at e;show(Hf,H,Hf,_,o,ar.start p r,g,?_)
  cases o with
  |nx M=>cases e;show λσ' Hf' H' _ m=>b _ Hf' H' m.ext rfl
  |bk M=>nomatch e
  |ct M=>nomatch e
  |rt d=>cases e;show b
  |rtO B=>cases e;show λl vs Hf' H' x hn n a r=>b _ _ H' (x.fix hn n a) (l,vs,rfl,aY,r.up (bO n))
  |rtS d M=>cases e;show λv σ' Hf' H' m r=>b v Hf' H' m.ext r
  |rtT o=>nomatch e
def m6{k:Nat}{F:MF3}(l:Fun K x qual st f fd)(S:aB N ps (au st))
 (h:∀(cdv:Value) (A:b5) (outer:List Env) (s:ah) (H:Hp) (W8:XK),bu k (A.deeper (fK qual (au st) s.heap.objs.size f cdv))->DSs c (ij CX0 P w K mg base N qual (au st) f cdv A outer s H W8).nox (fw st) F)(b:autoParam (N.length=n_) Zb):
  cq P w K mg base CX0 (k+1) f fd ps (spO (K,c) ps.length (jh n_ F)):=by
 subst b;show l.ok S (λvs H Q W8 g=>by have(Hf,ds,d,j,r,i,_):=g;rw[<- r.length];show i) λcdv A outer s H vs Q W8 hr g=>?_;have(Hf,ds,B,j,r,i,e,m):=g;show(_,h cdv A outer s H W8 hr,?_);unfold jh at e
 cases a:F _ with
 |none=>rw[a]at e;nomatch e
 |some o=>
  rw[a]at e;show(Hf,H,Hf,_,o,ar.start j r,a,?_)
  cases o with
  |rtO n=>cases e;show m
  | _=>nomatch e
variable{fa:MF2}{k0:Nat}
def Gp{k:Nat}(pk:Pk X.prog X.w X.K X.mg X.base CX0 k x (f,fd,) ps (spD (Gx c X) ps.length m))(j:bu k0 X.A)(ha:DA c X (e::es) fa)(z:autoParam ((e::es).length=ps.length) Zb)(a:autoParam (NDb x) Zc)(u:autoParam (StE X e es) Zb)(i:autoParam (BkE X pos es) Zb)(h:autoParam (k<=k0) Zc)(y:autoParam (Gl X x) Zi):
  DE c X (.Call (.Name x p) (e::es) [] pos) (aw m fa):=PE.imp (oQ pk.ok (j.mono h) y pk.g pk.kp pk.b .nil gg ha.pa a u i) λE H Q C=>by
 have(Hf0,H0,Hf,M,d,st,q,B):=C;have(ds,l,n):=yF q;show(Hf0,H0,Hf,M,ds,st,l,λvs Hf' H' x r=>?_);rw[bN];show(Hf',ds,d,x.s,r,(ha.len M ds l).trans z,n,λv bm H2 I G=>B v bm H2 (x.trans I) G)
def kC(m:LD->OLD)(f:MF2)(M:LS):OLD:=(f M).bind m
def OK{k:Nat}{m:LD->OLD}(pk:Pk X.prog X.w X.K X.mg X.base CX0 k x (f,fd,) ps (spO (Gx c X) ps.length m))(u:bu k0 X.A)(ha:DA c X (e::es) fa)(C:autoParam ((e::es).length=ps.length) Zb)(i:autoParam (NDb x) Zc)(v:autoParam (StE X e es) Zb)(q:autoParam (BkE X pos es) Zb)(j:autoParam (k<=k0) Zc)(z:autoParam (Gl X x) Zi):
  DO c X (.Call (.Name x p) (e::es) [] pos) (kC m fa):=PE.imp (oQ pk.ok (u.mono j) z pk.g pk.kp pk.b .nil gg ha.pa i v q) λE H Q I=>by
 have(Hf0,H0,Hf,M,B,st,a,G):=I;unfold kC at a
 cases d:fa M with
 |none=>rw[d]at a;nomatch a
 |some ds=>
  rw[d]at a;show(Hf0,H0,Hf,M,ds,st,d,λvs Hf' H' x r=>?_);rw[bN];show(Hf',ds,B,x.s,r,(ha.len M ds d).trans C,a,λl us bm H2 L hn y n J=>G l us bm H2 (x.trans L) (x.h.free hn) y n J)
def Gq{G:Gc}{H:Hp}{f:Str}{d:D}:∀{ns:LSt} {ds:LD} {vs:LVv},(ns.zip ds).lookup f=aa d->ak G H ds vs->∃v,(ns.zip vs).lookup f=aa v/\Rep G H d v
 | [],_,_,e,_=>by simp at e
 |n::ns,[],_,e,_=>by simp at e
 |n::ns,x::ds,_,e,q4_=>by
  have(v,r,b,c,h2):=q4_;subst b;simp only[e9,mh]at e;simp only[e9,mh]
  cases a:f==n with
  |true=>rw[a]at e;cases e;show(v,rfl,c)
  |false=>rw[a]at e;show Gq e h2
def ph{f:Str}:∀{ns:LSt} {vs:LVv},ns.contains f=af->(ns.zip vs).lookup f=ab
 | [],_,_=>by simp
 |n::ns,[],_=>by rfl
 |n::ns,v::vs,h=>by
  rw[contains_cons,Bool.or_eq_false_iff]at h;simp only[e9,mh,h.1];show ph h.2
abbrev OL(cn f:Str):D->OD
 |.ins a ns ds=>if a=cn then (ns.zip ds).lookup f else ab
 | _=>ab
def bf(cn f:Str)(m:MF1)(M:LS):OD:=(m M).bind (OL cn f)
def aN(cn f:Str)(m:LD->OD)(fo:MF1)(fa:MF2)(M:LS):OD:=(fo M).bind λd=>match d with
 |.ins a ns ds=>if a=cn/\ns.contains f=af then (fa M).bind λas=>m (.ins a ns ds::as) else ab
 | _=>ab
variable{fl:Str}{fo:MF1}
def OM{o:Expr}(cn:Str)(l:Cls X.K (c cn))(hn:cM X.K (c cn) fl)(m:DE c X o fo)(j:autoParam (oC o fl X.env (eval o X.env)=eval o X.env) Zb):DE c X (.Attribute o fl pos) (bf cn fl fo):=
 PE.imp (EV m j) λE H Q n=>by
  have(Hf0,H0,Hf,M,d,st,b,k):=n;unfold bf at b
  cases e:fo M with
  |none=>rw[e]at b;nomatch b
  |some y=>
   rw[e]at b
   cases y with
   |ins g ns ds=>
    replace b:(if g=cn then (ns.zip ds).lookup fl else ab)=aa d:=b;split at b
    .rename_i f;subst f;show(Hf0,H0,Hf,M,_,st,e,λv Hf' H' x r=>?_);have(a,dx,vs,i,q,p,B):=r;have(u,h,ru):=Gq b B;show(a,c g,dx,ns.zip vs,u,i,x.s _ _ q,l,hn,h,k u Hf' H' x ru)
    .grind
   | _=>nomatch b
variable{apos:Pos}{pl:Sem Bool}
def ON{k:Nat}{o:Expr}(cn:Str)(Y:DE c X o fo)(pk:Pm X.prog X.w X.K X.mg X.base CX0 k (c cn) fl (f,fd,) ps (spD (Gx c X) ps.length m))(C:bu k0 X.A)(ha:DA c X (e::es) fa)(U:autoParam ((e::es).length+1=ps.length) Zb)(G:autoParam (StE X e es) Zb)(z:autoParam (BkE X pos es) Zb)(ht:autoParam (eval (.Call (.Attribute o fl apos) (e::es) [] pos) X.env=(do
   let ov <- eval o X.env
   gB apos.atName
   let (f,first,) <- eO [ov] (hJ ov fl pl)
   jG pos f first (cg pos (aM (e::es) X.env)) (iA pos (iz [] X.env)))) Zb)(n:autoParam (k<=k0) Zc):
  DE c X (.Call (.Attribute o fl apos) (e::es) [] pos) (aN cn fl m fo fa):=PE.imp (x8 Y pk.c pk.m pk.ok (C.mono n) pk.b .nil gg ha.pa G z ht) λE H Q q_=>by
 have(Hf0,H0,Hf,M,d,st,g,kq):=q_;unfold aN at g
 cases j:fo M with
 |none=>rw[j]at g;nomatch g
 |some y=>
  rw[j]at g
  cases y with
  |ins J ns ds=>
   replace g:(if J=cn/\ns.contains fl=af then (fa M).bind λas=>m _ else ab)=aa d:=g;split at g
   .rename_i l;have(rfl,p):=l
    cases h:fa M with
    |none=>rw[h]at g;nomatch g
    |some as=>
     rw[h]at g;show(Hf0,H0,Hf,M,_,st,j,λv Hf' H' x r=>?_);have(a,dx,vs,T,q,L,B):=id r;show(a,dx,ns.zip vs,T,x.s _ _ q,ph p,Hf0,H0,Hf',M,as,st.step x,h,λws bm H2 I r2=>?_);rw[bN];show(bm,.ins J ns ds::as,d,I.s,.cons (r.up I.f) r2,by rw[cb,ha.len M as h];show U,g,λu i N x3 r3=>kq u i N ((x.trans I).trans x3) r3)
   .nomatch g
  | _=>nomatch g
def OO{k:Nat}{o:Expr}(cn:Str)(J:DE c X o fo)(pk:Pm X.prog X.w X.K X.mg X.base CX0 k (c cn) fl (f,fd,) ps (spD (Gx c X) ps.length m))(n:bu k0 X.A)(I:autoParam (1=ps.length) Zb)(L:autoParam (eval (.Call (.Attribute o fl apos) [] [] pos) X.env=(do
   let ov <- eval o X.env
   gB apos.atName
   let (f,first,) <- eO [ov] (hJ ov fl pl)
   jG pos f first (cg pos (aM [] X.env)) (iA pos (iz [] X.env)))) Zb)(j:autoParam (k<=k0) Zc):
  DE c X (.Call (.Attribute o fl apos) [] [] pos) (aN cn fl m fo λ_=>aa []):=PE.imp (x9 J pk.c pk.m pk.ok (n.mono j) pk.b .nil gg L) λE H Q T=>by
 have(Hf0,H0,Hf,M,d,st,e,N):=T;dsimp only[aN]at e
 cases h:fo M with
 |none=>rw[h]at e;nomatch e
 |some y=>
  simp only[h]at e
  cases y with
  |ins C ns ds=>
   replace e:(if C=cn/\ns.contains fl=af then (aa []).bind λas=>m _ else ab)=aa d:=e;split at e
   .rename_i i;have(rfl,l):=i;show(Hf0,H0,Hf,M,_,st,h,λv Hf' H' x r=>?_);have(a,dx,vs,G,q,p,B):=id r;show(a,dx,ns.zip vs,G,x.s _ _ q,ph l,(Hf',_,d,x.s,.cons r .nil,I,e,λu g z Y U=>N u g z (x.trans Y) U))
   .nomatch e
  | _=>nomatch e
abbrev uO:List (Str×(MF1))->LS->LSt->LD->Option (LSt×LD)
 | [],_,ns,ds=>aa (ns,ds,)
 |(f,m,)::r,M,ns,ds=>(m M).bind λd=>if ns.contains f then ab else uO r M (ns++[f]) (ds++[d])
def OP(G:Gc)(cn:Str)(fs:List (Str×(MF1))):TS:=λW8 E H=>∃x dx Hf0 H0 Hf M ns us ds r,E[0]?=aa (aa (.ref x))/\(∀s∈M,Sl.calm s=ac)/\ar G Hf0 H0 Hf H E M/\H0 x=ab/\Hf x=ab /\
 H x=aa (.ins (G.cl cn) dx (ns.zip us))/\ns.length=us.length/\ns.length+fs.length<=900/\ak G Hf ds us/\uO fs M ns ds=aa r /\
 ∀a Hf' H',Ext Hf0 H0 Hf' H'->Hf' x=ab->H' x=aa (.ins (G.cl cn) dx (r.1.zip a))->r.1.length=a.length->ak G Hf' r.2 a->W8.nx E H'
def DSI(c:Str->Addr)(X:Cx)(cn:Str)(sts:List Stmt)(fs:List (Str×(MF1))):Prop:=PSs X sts (OP (Gx c X) cn fs)
def rF{f:Str}{v:V}:∀{ns:LSt} {us:LVv},ns.length=us.length->ns.contains f=af->c9 f v (ns.zip us)=(ns++[f]).zip (us++[v])
 | [],[],_,_=>rfl
 |n::ns,u::us,hl,h=>by
  rw[contains_cons,Bool.or_eq_false_iff]at h;have a:¬(n=f):=λz=>by rw[z,beq_self_eq_true]at h;cases h.1
  rw[e9];unfold c9
  first
   |(rw[if_neg a,rF (by simpa using hl) h.2];rfl)
   |(rw[if_neg _,rF (by simpa using hl) h.2];rfl)
   |(rw[if_neg (by simpa using a),rF (by simpa using hl) h.2];rfl)
   |(rw[if_neg (by simpa using λz=>a _),rF (by simpa using hl) h.2];rfl)
 | [],_::_,hl,_=>by cases hl
 | _::_,[],hl,_=>by cases hl
def uP{cn:Str}:DSI c X cn [] []:=PSs.imp EC λW8 E H q=>by
 have(x,dx,Hf0,H0,Hf,M,ns,us,ds,r,e0,no,e,f,a,d,b,hz,rd,em,k):=q;cases em;show k us Hf H e.ext a d b rd
variable{m:MF1}{fs:List (Str×(MF1))}
def pi{cn:Str}{o:Expr}(L:Cls X.K (c cn))(hn:cM X.K (c cn) fl)(T:PE X o (cE 0))(N:DE c X e m)(h:DSI c X cn sts fs)(A:autoParam (f9 e (aa (.Attribute o fl b4)) pos.line X.env=pure af) Zb):
  DSI c X cn (.Assign [.Attribute o fl b4] e pos::sts) ((fl,m,)::fs):=PSs.imp (ud (xY T N A) h) λW8 E H q=>by
 have(x,dx,Hf0,H0,Hf,M,ns,us,ds,r,e0,no,J,C,Q,I,G,hz,rd,em,k):=q;unfold uO at em
 cases z:m M with
 |none=>rw[z]at em;nomatch em
 |some d=>
  rw[z]at em;split at em
  .grind
  .rename_i l;have l:ns.contains fl=af:=by grind
   show(Hf0,H0,Hf,M,d,J,z,λv Hf' H' y U=>(_,e0,x,c cn,dx,ns.zip us,rfl,y.h _ _ I,L,hn,?_,?_))
   .grind
   .have j:Hf' x=ab:=by rw[y.n _ _ I rfl];show Q
    have g:=J.step y
    have B:ar (Gx c X) Hf0 H0 Hf' (upd H' x (.ins (c cn) dx (c9 fl v (ns.zip us)))) E M:=by
     show g.re (g.ext.f,λb u e=>?_,λb u e=>?_,g.ext.n) rfl (λi w s a b=>?_) λi s w a b _ p=>(p.calm (no s (dP b))).elim
     .rw[aK (fq e C)];show g.ext.h b u e
     .rw[aK (fq e j)];show g.ext.s b u e
     .have A:=no s (dP b);have q:=g.at' i w s a b
      cases s with
      |no=>trivial
      |im d=>show q
      | _=>nomatch A
    show(x,dx,Hf0,H0,Hf',M,ns++[fl],us++[v],ds++[d],r,e0,no,B,C,j,?_,by rw[aR,aR,G];rfl,by rw[cb]at hz;rw[aR,fH];lia,(rd.up y.f).append (.cons U .nil),em,k);rw[aY,rF G l]
def del(H:Hp)(x:Addr):Hp:=λb=>if b=x then ab else H b
def Gr{x:Addr}:del H x x=ab:=if_pos rfl
def Gu{x b:Addr}(h:b≠x):del H x b=H b:=if_neg h
abbrev rG(n:Nat)(fs:List (Str×(MF1)))(as:LD):Option (LSt×LD):=uO fs (.no::(as.map .im++g6 (n-1-as.length) .no)) [] []
def spI(G:Gc)(cn:Str)(n:Nat)(m:LD->Option (LSt×LD)):Sp:=λvs H Q _=>∃x dx Hf as a r,vs=.ref x::a/\H x=aa (.ins (G.cl cn) dx [])/\Hf x=ab/\aq Hf H/\ak G Hf as a/\as.length+1=n/\m as=aa r /\
 ∀us Hf' H',Ext Hf (del H x) Hf' H'->Hf' x=ab->H' x=aa (.ins (G.cl cn) dx (r.1.zip us))->r.1.length=us.length->ak G Hf' r.2 us->Q .non H'
def uQ{x qual cn:Str}{k:Nat}(G:Fun K x qual st f fd)(S:aB N ps (au st))
 (h:∀(cdv:Value) (A:b5) (outer:List Env) (s:ah) (H:Hp) (W8:XK),bu k (A.deeper (fK qual (au st) s.heap.objs.size f cdv))->DSI c (ij CX0 P w K mg base N qual (au st) f cdv A outer s H W8).nox cn (fw st) fs)
 (hz:autoParam (fs.length<=900) Zc)(y:autoParam (N.length=n_) Zb):cq P w K mg base CX0 (k+1) f fd ps (spI (K,c) cn ps.length (rG n_ fs)):=by
 subst y;show G.ok S (λvs H Q W8 q=>by have(x,dx,Hf,as,z,r,n,_,_,_,g,E,_):=q;subst n;rw[cb,<- g.length];show E) λcdv A outer s H vs Q W8 hr q=>(_,h cdv A outer s H W8 hr,?_);have(x,dx,Hf,as,z,r,n,U,M,s0,g,E,e,Y):=q;subst n;have la:=g.length
 have im:∀i s,(Sl.no::(as.map Sl.im++g6 (N.length-1-as.length) .no))[i]?=aa s->s=.no\/∃d j,i=j+1/\as[j]?=aa d/\s=.im d:=λi s b=>by
  cases i with
  |zero=>left;simpa using b.symm
  |succ i=>
   rw[gZ]at b
   by_cases hi:i<as.length
   .rw[l7 (by simpa using hi)]at b;have(d,m,es):=mY b;show .inr (d,i,rfl,m,es)
   .rw[oa (by simpa using ot hi)]at b;have(_,e):=cX.mp b;rw[List.getElem_replicate]at e;show .inl e.symm
 have no:∀s∈_,Sl.calm s=ac:=λs T=>by
  have(i,hi):=oh T
  rcases im i s hi with e |⟨d,_,_,_,e⟩ <;> (subst e;rfl)
 show(x,dx,Hf,del H x,Hf,_,[],[],[],r,rfl,no,((aq.refl _,λb o e=>?_,s0,λ_ _ _ _=>rfl),?_,λi v s a b=>?_,λi j s t v w l a b _ _ p _=>((p.calm (no s (dP a))).elim)),Gr,M,U,rfl,by simpa using hz,rfl,e,λus Hf' H' xx I h2 J L=>Y us Hf' H' xx I h2 J L)
 .by_cases C:b=x
  .subst C;rw[Gr]at e;nomatch e
  .rw[Gu C]at e;show e
 .unfold L2.start;simp only[aR,aA,cb,l8]
  lia
 .rcases im i s b with e |⟨d,j,ei,m,es⟩
  .subst e;trivial
  .subst es ei;have(u,B,ru):=g.get m;show(u,?_,ru);unfold L2.start at a;rw[bD,k4,gZ,l7 (by simpa using ((cX.mp B).1)),cB,B]at a;show(dh a).symm
def iJ(cn:Str)(m:LD->Option (LSt×LD))(fa:MF2)(M:LS):OD:=(fa M).bind λas=>(m as).map λr=>.ins cn r.1 r.2
def px{k:Nat}{m:LD->Option (LSt×LD)}(cn:Str)(U:Mk X.K (c cn) f)(F:cq X.prog X.w X.K X.mg X.base CX0 k f fd ps (spI (Gx c X) cn ps.length m))(hr:bu (k+1) X.A)(hg:Gl X x)(hm:X.mg x=aa (.ref (c cn)))(Y:dS X.K fd ps [])(ha:DA c X (e::es) fa)
 (hl:autoParam ((e::es).length+1=ps.length) Zb)(G:autoParam (NDb x) Zc)(he:autoParam (StE X e es) Zb)(I:autoParam (BkE X pos es) Zb):
  DE c X (.Call (.Name x p) (e::es) [] pos) (iJ cn m fa):=PE.imp (EY U F hr hg hm Y .nil gg ha.pa G he I) λE H Q q_=>by
 have(Hf0,H0,Hf,M,d,st,a,kq):=q_;unfold iJ at a
 cases j:fa M with
 |none=>rw[j]at a;nomatch a
 |some as=>
  rw[j]at a;replace a:(m as).map _=_:=a
  cases C:m as with
  |none=>rw[C]at a;nomatch a
  |some r=>
   rw[C]at a;cases a;show(Hf0,H0,Hf,M,as,st,j,λvs Hf' H' B rv y dx v L N=>?_);rw[bN];have hy:(upd H' dx (.own y)) y=ab:=by rw[aK N.symm];show v
   have s1:aq H' (upd H' dx (.own y)):=bO L;have s2:=s1.trans (bO (o:=.ins (c cn) dx []) hy)
   have T:aq H' (del _ y):=λb u q=>by
    have:=fq q v;rw[Gu this];show s2 b u q
   show(y,dx,Hf',as,vs,r,rfl,aY,B.s.free v,B.s.trans s2,rv,by rw[ha.len M as j];show hl,C,λus bm H2 z g J i r2=>(rfl,?_));have x3:Ext Hf' H' bm H2:=(z.f,T.trans z.h,z.s,λl u q t=>z.n l u (T l u q) t);show kq _ _ H2 ((B.trans x3).fix (B.h.free v) g J) (y,dx,us,rfl,aY,i,r2.up (bO g))
variable{r:Option Fl}
def jK{F F':MF3}(h:F M=aa (.nx ρ'))(h':F' ρ'=r):ai F F' M=r:=by
 unfold ai;rw[h];show h'
def uR{F F':MF3}(h:F M=aa (.rt d)):ai F F' M=aa (.rt d):=by
 unfold ai;rw[h];rfl
def uS{F F':MF3}(h:t M=aa ac)(h':F M=r):be t F F' M=r:=by
 unfold be;rw[h];show h'
def m7{F F':MF3}(h:t M=aa af)(h':F' M=r):be t F F' M=r:=by
 unfold be;rw[h];show h'
def Gv{f:MF1}(h:f M=aa d):aZ i f M=aa (.nx (M.set i (.im d))):=by
 unfold aZ;rw[h];rfl
def OQ{f:MF2}{d:LD}(h:f M=aa d):c6 i f M=aa (.nx (M.set i (.own d))):=by
 unfold c6;rw[h];rfl
def cP{f:MF1}(h:f M=aa d):a8 f M=aa (.rt d):=by
 unfold a8;rw[h];rfl
def cQ{F:MF3}(h:F (eU n ds)=aa (.rt d)):aO n F ds=aa d:=by
 unfold aO;rw[h];rfl
def lF{F:MF3}{d:LD}(h:F (eU n ds)=aa (.rtO d)):aO n F ds=aa (.lst d):=by
 unfold aO;rw[h];rfl
def aG{m:LD->OD}{f:MF2}(h:f M=aa ds)(h':m ds=aa d):aw m f M=aa d:=by
 unfold aw;rw[h];show h'
def uT{a:Type}{h:D->Option OD}(f:a->D)(p:a->Bool)(q:a->D):∀(C:List a),(∀x∈C,h (f x)=aa (if p x then aa (q x) else ab))->eS h (C.map f)=aa ((C.filter p).map q)
 | [],_=>rfl
 |x::C,hh=>by
  rw[bD];unfold eS;rw[hh x az,uT f p q C λy b=>hh y (bi _ b)]
  grind
def OR{a:Type}{h:D->Option OD}(f:a->D)(q:a->D)(C:List a)(b:∀x∈C,h (f x)=aa (aa (q x))):eS h (C.map f)=aa (C.map q):=by
 have:=uT f (λ_=>ac) q C λx c=>(b x c).trans rfl;rw[this,filter_eq_self.mpr λ_ _=>rfl]
def d9{a:Type}{k:Nat}(C:List a)(f:a->D)(p:a->Bool)(q:a->D)
 (hi:fi M=aa (C.map f))(hz:C.length<=16777216)(b:∀x∈C,gK g ft fe (iH k js M) (f x)=aa (if p x then aa (q x) else ab)):bn k js fi g ft fe M=aa ((C.filter p).map q):=by
 unfold bn;rw[hi];change(if (C.map f).length<=16777216 then _ else ab)=_;rw[aA,if_pos hz];show uT f p q C b
def gM{a:Type}{k:Nat}(C:List a)(f:a->D)(q:a->D)
 (hi:fi M=aa (C.map f))(hz:C.length<=16777216)(b:∀x∈C,gK g ft fe (iH k js M) (f x)=aa (aa (q x))):bn k js fi g ft fe M=aa (C.map q):=by
 unfold bn;rw[hi];change(if (C.map f).length<=16777216 then _ else ab)=_;rw[aA,if_pos hz];show OR f q C b
def Gw{d:Type}{g:D->LS->Option LS}{F:MF3}(f:d->D)(I:List d->LS->Prop):∀(post pre:List d) (M:LS),I pre M ->
  (∀a x c M,pre++post=a++x::c->I a M->∃ρ1 b,g (f x) M=aa ρ1/\(F ρ1=aa (.nx b)\/F ρ1=aa (.ct b))/\I (a++[x]) b)->∃ρ',iI g F (post.map f) M=aa (.nx ρ')/\I (pre++post) ρ'
 | [],pre,M,h,_=>(M,rfl,by rw[bN];show h)
 |x::post,pre,M,h,hs=>by
  have(ρ1,b,i,j,h2):=hs pre x post M rfl h;have(ρ',l,e):=Gw f I post _ b h2 (by rw[cJ];show hs);show(ρ',?_,by rw[cJ]at e;show e);rw[bD];unfold iI
  grind
def OS{b:Type}{F:MF3}(C:List b)(f:b->D)(I:List b->LS->Prop)(hi:fi M=aa (C.map f))(c:I [] M)
 (d:∀pre x post M,C=pre++x::post->I pre M->∃ρ1 a,g (f x) M=aa ρ1/\(F ρ1=aa (.nx a)\/F ρ1=aa (.ct a))/\I (pre++[x]) a):∃ρ',b6 fi g F M=aa (.nx ρ')/\I C ρ':=by
 unfold b6
 rw[hi];show Gw f I C [] M c d
def OU(lo:Int)(n:Nat):rng lo n=(bL n).map λ(i:Nat)=>D.int (lo+i):=rfl
def OV{ns:LI0}:jg [.lst (ns.map D.int)]=aa (.int ns.sum):=by
 change(gH _).map _=_;rw[On];rfl
variable{i:Int}
def lG{b:Type}{f:b->D}{C:List b}(c:0<=i)(d:i<C.length):∃x,C[i.toNat]?=aa x/\atI (C.map f) i=aa (f x):=by
 have a:i.toNat<C.length:=by lia
 show(C[i.toNat],by simp[a],?_);have:=MX (C:=C.map f) (j:=i.toNat) (v:=f C[i.toNat]) (by simp[a]);rw[show i.toNat=i by lia]at this;show this
def lH{a:Type}{f:a->D}{C:List a}(d:a)(e:0<=i)(g:i<C.length):atI (C.map f) i=aa (f (C.getD i.toNat d)):=by
 have(x,b,c):=lG e g;rw[c,bK,b];rfl
abbrev fU:Nat->D->Prop
 | 0,_=>False
 |n+1,d=>match d with
  |.lst C=>∀x∈C,fU n x
  |.tup C=>∀x∈C,fU n x
  |d=>d.scalar=ac
def yQ{f:D->D->Option Bool}:∀(C:LD),(∀x∈C,f x x=aa ac)->cY f C C=aa ac
 | [],_=>rfl
 |x::C,h=>by
  unfold cY;rw[h x az,yQ C λy a=>h y (bi _ a)];rfl
def yR:∀(n:Nat) (d:D),fU n d->deq n d d=aa ac
 | 0,_,h=>h.elim
 |n+1,d,h=>by
  cases d with
  |lst C=>
   change(if C.length=C.length then cY _ C C else aa af)=_;rw[if_pos rfl]
   show yQ C λx a=>yR n x (h x a)
  |tup C=>
   change(if C.length=C.length then cY _ C C else ab)=_;rw[if_pos rfl]
   show yQ C λx a=>yR n x (h x a)
  |non=>rfl
  |bl b=>change aa (b==b)=_;rw[beq_self_eq_true]
  |int b=>change aa (b==b)=_;rw[beq_self_eq_true]
  |str b=>change aa (b==b)=_;rw[beq_self_eq_true]
  | _=>cases h
def fU.mono:∀(n:Nat) (d:D),fU n d->fU (n+1) d
 | 0,_,h=>h.elim
 |n+1,d,h=>by
  cases d with
  |lst C=>show λx a=>fU.mono n x (h x a)
  |tup C=>show λx a=>fU.mono n x (h x a)
  | _=>show h
def fU.le{m:Nat}(h:fU n d)(hm:n<=m):fU m d:=by
 induction hm with
 |refl=>show h
 |step _ a=>show fU.mono _ _ a
def OW(h:fU 20 d):dEq d d=aa (.bl ac):=by
 unfold dEq;rw[yR 20 d h];rfl
def m8(i j:Int):dEq (.int i) (.int j)=aa (.bl (i==j)):=rfl
def rH(i j:Str):dEq (.str i) (.str j)=aa (.bl (i==j)):=rfl
variable{f:MF1}
def ap{m:D->D->OD}{g:MF1}{x:D}(a:f M=aa x)(h2:g M=aa y)(b:m x y=aa d):m2 m f g M=aa d:=by
 unfold m2;rw[a,h2];show b
variable{b:Bool}
def bC(h:f M=aa (.bl b)):mB f M=aa b:=by
 unfold mB;rw[h];rfl
def df(h:f M=aa d)(h':mQ d=aa b):bM f M=aa b:=by
 unfold bM;rw[h];show h'
variable{f:MF4}
def m9(h:f M=aa b):fR f M=aa (!b):=by
 unfold fR;rw[h];rfl
variable{g:MF4}
def OX{r:Option Bool}(h:f M=aa ac)(h':g M=r):dF f g M=r:=by
 unfold dF;rw[h];show h'
def OY(h:f M=aa af):dF f g M=aa af:=by
 unfold dF;rw[h];rfl
def OZ(h:f M=aa ac):mOr f g M=aa ac:=by
 unfold mOr;rw[h];rfl
def O0{r:Option Bool}(h:f M=aa af)(h':g M=r):mOr f g M=r:=by
 unfold mOr;rw[h];show h'
variable{a:Bool}
def jL(h:f M=aa a)(h':g M=aa b):dF f g M=aa (a && b):=by
 cases a with
 |true=>show OX h h'
 |false=>show OY h
def py(h:f M=aa a)(h':g M=aa b):mOr f g M=aa (a || b):=by
 cases a with
 |true=>show OZ h
 |false=>show O0 h h'
variable{f:MF1}
def uU{g:MF1}(h:f M=aa (.bl a))(h':g M=aa (.bl b)):lD f g M=aa (.bl (a && b)):=by
 unfold lD;rw[bC h]
 grind
def Gy{g:MF1}(h:f M=aa (.bl a))(h':g M=aa (.bl b)):vOr f g M=aa (.bl (a || b)):=by
 unfold vOr;rw[bC h]
 grind
def ao{g:MF2}(h:f M=aa d)(h':g M=aa ds):ag f g M=aa (d::ds):=by
 unfold ag;rw[h,h'];rfl
variable{f:MF2}
def cV(h:f M=aa ds):bo f M=aa (.tup ds):=by
 unfold bo;rw[h];rfl
def bW(h:f M=aa ds):aP f M=aa (.lst ds):=by
 unfold aP;rw[h];rfl
def ba{g:MF1}{r:OD}(h:f M=aa ds)(h':g M=aa (.int i))(h2:atI ds i=r):mIx f g M=r:=by
 unfold mIx;rw[h,h'];show h2
def uV{W9:Int->Int->Prop}[∀i j,Decidable (W9 i j)]{g:Int->Int->D}{j:Int}(h:W9 i j):dI W9 g (.int i) (.int j)=aa (g i j):=by
 change(if W9 i j then aa _ else ab)=_;rw[if_pos h]
variable{f:MF1}
def O1{i:Nat}(h:f M=aa d)(h':M[i]?=aa (.own C))(a:C.length<16777216):dC i f M=aa (.nx (M.set i (.own (C++[d])))):=by
 unfold dC;rw[h,h'];change(if C.length<16777216 then _ else ab)=_;rw[if_pos a]
variable{ρ1:LS}
def dG{g:D->LS->Option LS}(a:g d M=aa ρ1)(h2:ft ρ1=aa b)(c:b=ac->fe ρ1=aa y):gK g ft fe M d=aa (if b then aa y else ab):=by
 unfold gK
 grind
def fV{g:D->LS->Option LS}(a:g d M=aa ρ1)(h2:ft ρ1=aa ac)(b:fe ρ1=aa y):gK g ft fe M d=aa (aa y):=dG a h2 λ_=>b
def fD(h:f M=aa d)(h':iG d=aa ds):aV f M=aa ds:=by
 unfold aV;rw[h];show h'
variable{g:MF1}
def dM(h:f M=aa d):bh f g M=aa d:=by
 unfold bh;rw[h];rfl
def bF{r:OD}(h:f M=ab)(h':g M=r):bh f g M=r:=by
 unfold bh;rw[h];show h'
def pA{f:MF2}{n:Int}(h:f M=aa [.int n])(b:0<=n)(a:n<2 ^ 62):gJ f M=aa ((bL n.toNat).map λ(i:Nat)=>D.int i):=by
 unfold gJ;rw[h];change(if -_<=n/\n<2 ^ 62 then aa _ else ab)=_;rw[if_pos (by lia,a),OU]
 grind
variable{m:LD->OD}{ns:LSt}
def cz{cn f:Str}{as:LD}(h:fo M=aa (.ins cn ns ds))(hn:ns.contains f=af)(h':fa M=aa as):aN cn f m fo fa M=m (.ins cn ns ds::as):=by
 unfold aN
 grind
def bG{cn f a:Str}(h:fo M=aa (.ins a ns ds))(hn:a≠cn):aN cn f m fo fa M=ab:=by
 unfold aN
 grind
def itD(z:Int×Int):D:=.tup [.int z.1,.int z.2]
abbrev shD:Option Bool->D
 |none=>.non
 |some b=>.bl b
def InN(n:Nat)(L:LII):Prop:=∀z∈L,0<=z.1/\z.1<(n:Int)/\0<=z.2
def O2(bs:LI0):fU 2 (.lst (bs.map D.int)):=λx a=>by
 have(b,_,rfl):=aJ.mp a;show rfl
def ji{es:LOB}(a:0<=i)(b:i<es.length):atI (es.map shD) i=aa (shD (es.getD i.toNat ab)):=lH ab a b
def jM{es:LB0}(a:0<=i)(b:i<es.length):atI (es.map D.bl) i=aa (.bl (es.getD i.toNat af)):=lH af a b
def pE(e:Option Bool)(b:Bool):dIs (shD e) (.bl b)=aa (.bl (e==aa b)):=by
 cases e with
 |none=>rfl
 |some c=>cases b <;> cases c <;> rfl
def Gz(e:Option Bool)(b:Bool):fA (shD e) (.bl b)=aa (.bl (!(e==aa b))):=by
 cases e with
 |none=>rfl
 |some c=>cases b <;> cases c <;> rfl
abbrev Prt.toD:Prt->D
 |.inn t=>.tup [.str "in",.int t]
 |.out t=>.tup [.str "out",.int t]
 |.least k L=>.tup [.str "least",.int k,.lst (L.map itD)]
 |.most k L=>.tup [.str "most",.int k,.lst (L.map itD)]
abbrev Prt.obj:Prt->D
 |.inn t=>.ins "In" ["thing"] [.int t]
 |.out t=>.ins "Out" ["thing"] [.int t]
 |.least k L=>.ins "Least" ["bound","pieces"] [.int k,.lst (L.map itD)]
 |.most k L=>.ins "Most" ["bound","pieces"] [.int k,.lst (L.map itD)]
abbrev Prt.Ok(n:Nat):Prt->Prop
 |.inn t=>0<=t/\t<(n:Int)
 |.out t=>0<=t/\t<(n:Int)
 |.least _ L=>InN n L/\L.length<=100000
 |.most _ L=>InN n L/\L.length<=100000
def O3(p:Int->Bool)(L:LII):((L.filter λz=>p z.1).map λz=>D.int z.2)=((L.filter λz=>p z.1).map (·.2)).map D.int:=by
 rw[map_map];rfl
def yS(p:Int->Bool)(L:LII):jg [.lst ((L.filter λz=>p z.1).map λz=>D.int z.2)]=aa (.int (bR p L)):=by
 rw[O3,OV];rfl
def yT:∀{bs:LB0} {us:LVa},aF (bs.map V.bl) us->us=bs.map iB
 | [],_,.nil=>rfl
 |b::bs,_,.cons r t=>by
  rw[yT t];cases (r);rfl
def O4(bs:LB0):((bL bs.length).all λi=>(bs[i]?).getD ac)=bs.all id:=by
 rw[iU,all_eq_true,all_eq_true];constructor
 .intro h b c;have(i,hi,e):=List.getElem_of_mem c
  simp_all
 .intro h i hi;have a:=eJ.mp hi;simp only[bY a];show h _ (g4 a)
def O5(bs:LB0):((bL bs.length).any λi=>(bs[i]?).getD af)=bs.any id:=by
 rw[iU,any_eq_true,any_eq_true];constructor
 .rintro⟨i,hi,e⟩;have a:=eJ.mp hi;simp only[bY a]at e;show(_,g4 a,e)
 .rintro⟨b,c,e⟩;have(i,hi,rfl):=List.getElem_of_mem c;show(i,eJ.mpr hi,by simp only[bY hi];show e)
def GA{h:Heap}{o:Obj}(a:∀b x,b∉[h.objs.size]->(h.push o).get? b=aa x->h'.get? b=aa x):∀b x,h.get? b=aa x->h'.get? b=aa x:=
 λb x e=>a b x (λhm=>by rw[bB.mp hm]at e;show gA _ (bz e)) (bA _ e)
def O6(j:X.calm=ac):ie X (.builtin "all") (λC H Q=>∃(p:Addr) (bs:LB0),C=[.ref p]/\SqL X.K H p (bs.map V.bl)/\Q (.bl (bs.all id)) H):=by
 intro U s E H C us Q I r h;have(l,bs,rfl,n,q):=h;have(u,rfl,x):=lz r;subst x;have(L,w,pl,hz):=I.list n;have e:=yT w;subst e;have c:=pl.isList;have d:l<s.heap.objs.size:=by have(_,e,_):=c;show bz e
 show call_all_walk (tU c ?_)
 show(s.heap.objs.size,_,_,(bs.map iB).toArray.size,_,_,λi=>(bs[i]?).getD ac,rfl,Walks.list (A:=X.A.in1) (I.ok.hd j) _ l (bU d) (bs.map iB).toArray,
  ((_,cL _ rfl,rfl,rfl),c.push _),λi v B z y g f=>?_,λh' G m=>?_)
 .have a:(bs.map iB)[i]?=aa v:=by simpa using g
  have(b,e,rfl):=mY a;simp only[e]at f;show mn f
 .have e:((bL (bs.map iB).toArray.size).all λi=>(bs[i]?).getD ac)=bs.all id:=by
   rw[size_toArray,aA];show O4 bs
  rw[e];show(.bl _,H,I.kept (GA m),rfl,q)
def O7(j:X.calm=ac):ie X (.builtin "any") (λC H Q=>∃(p:Addr) (bs:LB0),C=[.ref p]/\SqL X.K H p (bs.map V.bl)/\Q (.bl (bs.any id)) H):=by
 intro U s E H C us Q I r h;have(l,bs,rfl,n,q):=h;have(u,rfl,x):=lz r;subst x;have(L,w,pl,hz):=I.list n;have e:=yT w;subst e;have c:=pl.isList;have d:l<s.heap.objs.size:=by have(_,e,_):=c;show bz e
 show call_any_walk (tU c ?_)
 show(s.heap.objs.size,_,_,(bs.map iB).toArray.size,_,_,λi=>(bs[i]?).getD af,rfl,Walks.list (A:=X.A.in1) (I.ok.hd j) _ l (bU d) (bs.map iB).toArray,
  ((_,cL _ rfl,rfl,rfl),c.push _),λi v B z y g f=>?_,λh' G m=>?_)
 .have a:(bs.map iB)[i]?=aa v:=by simpa using g
  have(b,e,rfl):=mY a;simp only[e]at f;show mn f
 .have e:((bL (bs.map iB).toArray.size).any λi=>(bs[i]?).getD af)=bs.any id:=by
   rw[size_toArray,aA];show O5 bs
  rw[e];show(.bl _,H,I.kept (GA m),rfl,q)
abbrev ik:LD->Option (LB0)
 | []=>aa []
 |.bl b::ds=>(ik ds).map λr=>b::r
 | _=>ab
def GB:∀{ds:LD} {bs:LB0},ik ds=aa bs->ds=bs.map D.bl
 | [],_,e=>by cases e;rfl
 |.bl b::ds,_,e=>by
  dsimp only[ik]at e
  cases es:ik ds with
  |none=>rw[es]at e;cases e
  |some r=>rw[es]at e;cases e;rw[GB es];rfl
 |.int _::_,_,e=>by cases e
 |.non::_,_,e=>by cases e
 |.str _::_,_,e=>by cases e
 |.lst _::_,_,e=>by cases e
 |.tup _::_,_,e=>by cases e
 |.kl _::_,_,e=>by cases e
 |.kt _::_,_,e=>by cases e
 |.dic _ _::_,_,e=>by cases e
 |.ins _ _ _::_,_,e=>by cases e
def GC(bs:LB0):ik (bs.map D.bl)=aa bs:=by
 induction bs with
 |nil=>rfl
 |cons n ns a=>rw[bD,ik,a];rfl
def ak.bls{G:Gc}{H:Hp}:∀{bs:LB0} {vs:LVv},ak G H (bs.map D.bl) vs->vs=bs.map V.bl
 | [],_,h=>h
 |b::bs,_,q2_=>by
  have(v,r,e,a,h2):=q2_;subst e;rw[ak.bls h2,show v=V.bl b from a];rfl
abbrev uW:LD->OD
 | [d]=>(lsD d).bind λds=>(ik ds).map λbs=>.bl (bs.all id)
 | _=>ab
abbrev pG:LD->OD
 | [d]=>(lsD d).bind λds=>(ik ds).map λbs=>.bl (bs.any id)
 | _=>ab
def uX{f:LB0->D}(e:(match ds with | [d]=>(lsD d).bind λds=>(ik ds).map f | _=>ab)=aa d):∃a C bs,ds=[a]/\lsD a=aa C/\C=bs.map D.bl/\d=f bs:=by
 split at e
 .rename_i a
  cases b:lsD a with
  |none=>rw[b]at e;nomatch e
  |some C=>
   rw[b]at e;replace e:(ik C).map f=aa d:=e
   cases c:ik C with
   |none=>rw[c]at e;nomatch e
   |some bs=>rw[c]at e;cases e;show(a,C,bs,rfl,b,GB c,rfl)
 .nomatch e
def O8(i:X.calm=ac):rq c X (.builtin "all") uW:=by
 rintro U s E H vs us Q I l ⟨Hf,ds,d,b,r,e,k⟩;have(m,C,bs,rfl,f,rfl,rfl):=uX e;have(v,h,j):=r.one;subst h;have(a,ws,g,q,B):=ku f j;subst g;show O6 i U s E H _ us Q I l (a,bs,rfl,?_,k _ Hf H (Ext.refl b) rfl);rw[<- B.bls];show b.seq q
def O9(i:X.calm=ac):rq c X (.builtin "any") pG:=by
 rintro U s E H vs us Q I l ⟨Hf,ds,d,b,r,e,k⟩;have(m,C,bs,rfl,f,rfl,rfl):=uX e;have(v,h,j):=r.one;subst h;have(a,ws,g,q,B):=ku f j;subst g;show O7 i U s E H _ us Q I l (a,bs,rfl,?_,k _ Hf H (Ext.refl b) rfl);rw[<- B.bls];show b.seq q
def Pa:∀ds d,uW ds=aa d->d.scalar=ac:=λds d e=>by
 have(a,C,bs,rfl,b,rfl,rfl):=uX e;rfl
def Pb:∀ds d,pG ds=aa d->d.scalar=ac:=λds d e=>by
 have(a,C,bs,rfl,b,rfl,rfl):=uX e;rfl
def Pc(bs:LB0):uW [.lst (bs.map D.bl)]=aa (.bl (bs.all id)):=by
 change(ik _).map _=_;rw[GC];rfl
def Pd(bs:LB0):pG [.lst (bs.map D.bl)]=aa (.bl (bs.any id)):=by
 change(ik _).map _=_;rw[GC];rfl
inductive Wrd where
 |make |may |never
 deriving DecidableEq
abbrev Wrd.s:Wrd->Str
 |.make=>"make"
 |.may=>"may"
 |.never=>"never"
structure Rul where
 w:Wrd
 hd:Int
 ps:List Prt
nonrec abbrev LRu:=List Rul
def Rul.hdD(r:Rul):D:=match r.w with
 |.never=>.non
 | _=>.int r.hd
def Rul.toD(r:Rul):D:=.tup [.str r.w.s,r.hdD,.lst (r.ps.map Prt.toD)]
structure Rul.Ok(n:Nat)(r:Rul):Prop where
 hd:r.w≠.never->0<=r.hd/\r.hd<(n:Int)
 ps:∀p∈r.ps,p.Ok n
 len:r.ps.length<=100000
def Rul.bodyLost(r:Rul)(es:LOB)(ws:LB0):Bool:=r.ps.any λp=>p.lost es ws
def lI{p q:Int->Bool}:∀{L:LII},(∀z∈L,0<=z.2/\(p z.1=ac->q z.1=ac))->bR p L<=bR q L
 | [],_=>Int.le_refl _
 |z::L,h=>by
  have b:=lI λy a=>h y (bi _ a);have(c,d):=h z az;unfold bR at b ⊢
  grind
def uY{p q:Int->Bool}{L:LII}(h:∀z∈L,p z.1=q z.1):bR p L=bR q L:=by
 unfold bR;rw[filter_congr h]
structure cR(es es':LOB):Prop where
 len:es'.length=es.length
 at':∀i,es.getD i ab=ab\/es'.getD i ab=es.getD i ab
structure nh(ws ws':LB0):Prop where
 len:ws'.length=ws.length
 at':∀i,ws.getD i af=ac->ws'.getD i af=ac
def cR.refl(es:LOB):cR es es:=(rfl,λ_=>.inr rfl)
def nh.refl(ws:LB0):nh ws ws:=(rfl,λ_ h=>h)
variable{es':LOB}
def Pe{es:LOB}{p:Prt}(f:cR es es')(h:p.Ok es.length)(s:p.sure es=ac):p.sure es'=ac:=by
 have key:∀{i:Nat} {b:Bool},(es.getD i ab==aa b)=ac->(es'.getD i ab==aa b)=ac:=λ{i b} e=>by
  rcases f.at' i with z |z
  .grind
  .grind
 have a:∀{i:Nat},(!(es'.getD i ab==aa af))=ac->(!(es.getD i ab==aa af))=ac:=λ{i} e=>by
  grind
 cases p with
 |inn t=>show key s
 |out t=>show key s
 |least k L=>
  have s:=of_decide_eq_true s;show decide_eq_true (Int.le_trans s ?_);rw[jI,jI]
  show lI λz hz=>((h.1 z hz).2.2,λe=>key e)
 |most k L=>
  have s:=of_decide_eq_true s;show decide_eq_true (Int.le_trans ?_ s);rw[jI,jI];show lI λz hz=>((h.1 z hz).2.2,λe=>a e)
variable{ws:LB0}
def uZ{es:LOB}{ws':LB0}{p:Prt}(f:cR es es')(g:nh ws ws')(h:p.Ok es.length)(s:p.lost es ws=ac):p.lost es' ws'=ac:=by
 have key:∀{i:Nat} {b:Bool},(es.getD i ab==aa b)=ac->(es'.getD i ab==aa b)=ac:=λ{i b} e=>by
  rcases f.at' i with z |z
  .rw[z]at e;cases b <;> cases e
  .rw[z];show e
 cases p with
 |inn t=>
  have s:(_ || ws.getD t.toNat af)=ac:=s;change(_ || ws'.getD t.toNat af)=ac;rw[jW]at s ⊢
  show s.imp key (g.at' _)
 |out t=>show key s
 |least k L=>
  have s:=of_decide_eq_true s;show decide_eq_true (Int.lt_of_le_of_lt (lI λz hz=>((h.1 z hz).2.2,λe=>?_)) s);rw[ca]at e ⊢;show(?_,?_)
  .cases q:(es.getD z.1.toNat ab==aa af)with
   |false=>rfl
   |true=>rw[key q]at e;show e.1
  .cases q:ws.getD z.1.toNat af with
   |false=>rfl
   |true=>rw[g.at' _ q]at e;show e.2
 |most k L=>
  have s:=of_decide_eq_true s;show decide_eq_true (Int.lt_of_lt_of_le s ?_);rw[jI,jI];show lI λz hz=>((h.1 z hz).2.2,λe=>key e)
def rJ{a:Type}{p q:a->Bool}{C:List a}(h:∀x∈C,p x=ac->q x=ac)(s:C.any p=ac):C.any q=ac:=by grind
def Ite(K:aQ)(l:Addr):It:=
  (λi H=> ∃C x, SqL K H l C/\C[i]? = aa x,
   λi H v H'=> ∃p x, v = .ref p/\H p = ab/\H' = upd H p (.tup [.int i, x])/\(∀C, SqL K H l C->C[i]? = aa x),
   λi H=> ∃C, SqL K H l C/\C.length<=i)
variable{elts:LEx}{kx:Nat}
def Pf(e it l:Addr)(ne:e≠it):
  kg P w K (.Tuple elts kx pos) (Ite K l) [e,it] e (λi h=>(∃old,IsEnum h e it (i:Int) old)/\h.IsListIter it l i) where
 mem:=by simp
 obj:=λi h st b hb=>by
  have((old,he),(o1,e1,_,d1)):=st;simp only[aX,dA,or_false]at hb
  rcases hb with rfl |rfl
  .show⟨_,he,λv q=>by nomatch q⟩
  .show⟨o1,e1,λv q=>by rw[d1]at q;nomatch q⟩
 keep:=λi h h' st k=>by
  have((old,he),h1):=st;show((old,k e (by simp) _ he),h1.at λo q=>k it (by simp) o q)
 item:=by
  intro X hP hw hK hc i U s E H W8 I hf st hg;subst hP hw hK;have((old,he),h1):=st;have(C,x,q1,hx):=hg;have(its1,r1,p1,z1):=I.list q1;have(u1,e1,ru1):=r1.get hx;show wpAny_pyNext_enum_item he h1 p1.isList (by simpa using e1) ne λh' a1 a3 a5 a6 a7=>(_,rfl,?_);show wpAny_letOwnedTupleGo_enum a1 λh'' b1 b2=>?_
  have lt:∀b∈[e,it],b<s.heap.objs.size:=λb hb=>by
   simp only[aX,dA,or_false]at hb
   rcases hb with rfl |rfl
   .show bz he
   .have(o,e,_):=h1;show bz e
  have kk:∀b o,b∉[e,it]->s.heap.get? b=aa o->h''.get? b=aa o:=λb o hb e=>by
   simp only[aX,dA,or_false,not_or]at hb;have(n1,n2):=hb;show(b2.2 b n1).trans (a7 b o n1 n2 e)
  have fr:=I.hok.fresh (aL _)
  have I2:Inv X U E (upd H s.heap.objs.size (.tup [.int i,x])) {s with heap:=h'',toks:=s.toks+1}:=
   (I.turnedMany kk hf).track (I.fpOk (aL _) fr) ((by change 2<=aS;decide),_,.cons (s.toks,rfl) (.cons ru1 .nil),(_,((b2.2 _ (k6 (lt e (by simp)))).trans a5),rfl,_,rfl))
  show(.ref s.heap.objs.size,_,I2,rfl,(_,x,rfl,fr,rfl,λxs' h=>by rw[I.list_inj h q1];show hx),((u1,?_),(a3.at λo q=>(b2.2 it (eM ne)).trans q)),λb hb=>?_)
  .have:((i+1:Nat):Int)=i+1:=by push_cast;rfl
   rw[this];show b1
  .rw[aK (bU (lt b hb))];show(hf b hb).1
 done:=by
  intro X hP hw hK hc i U s E H W8 I hf st hg;subst hP hw hK;have((old,he),h1):=st;have(C,q1,hend):=hg;have(its1,r1,p1,z1):=I.list q1;have l1':=r1.length;show wpAny_pyNext_enum_end (I.ok.hd hc) he h1 p1.isList (by simp;lia) λh' kk=>(rfl,I.turnedMany (λb o hb q=>?_) hf);simp only[aX,dA,or_false,not_or]at hb;show kk b o hb.2 q
 self:=λ_ _ _ _ _ st h=>by have((old,he),_):=st;show wpAny_pyIter_enum he h
def Pg(K:aQ)(a:TA):TI:=λE H R=>a E H λvs H1=>∃l,vs=[.ref l]/\(∃C,SqL K H1 l C)/\R (Ite K l) H1
variable{gF:Pos}{a:Expr}{ta:TA}
def GD(v:Gl X "enumerate")(hm:X.mg "enumerate"=ab)(ha:PA X [a] ta)(w:autoParam (aM [a] X.env=[(af,eval a X.env,)]) Zb):
  PI X (.Tuple elts kx gF) (.Call (.Name "enumerate" p) [a] [] pos) (Pg X.K ta):=by
 intro U s E H R I h;show Call_ (hZ I v hm boot_enumerate (j5 (thn (ha pos U s E H _ I h) λus s1 (vs,H1,d,j,y)=>?_) (by rw[w];rfl) (by rfl)));have(l,e,(C,r),q):=y;subst e;have(u,rfl,ru):=lz j;subst ru;have(i,j,x,A):=d.list r;show call_enumerate_list x.isList λh' f m z n=>?_;show wpAny_pyIter_enum f ?_;show(_,_,_,_,H1,rfl,(d.kept n),Pf _ _ _ (Nat.succ_ne_self _),((_,f),m),λb g=>?_,q);simp only[aX,dA,or_false]at g
 have c:s1.heap.objs.size<=b:=by
  rcases g with rfl |rfl
  .show Nat.le_add_right _ _
  .show aL _
 show d.fpOk c (d.hok.fresh c)
abbrev iK:Nat->LD->LD
 | _,[]=>[]
 |i,x::C=>.tup [.int i,x]::iK (i+1) C
def yU:∀(i:Nat) (C:LD),(iK i C).length=C.length
 | _,[]=>rfl
 |i,x::C=>by simp only[iK,cb,cb,yU]
def yV:∀(k:Nat) (C:LD) (i:Nat),(iK k C)[i]?=(C[i]?).map λx=>.tup [.int (k+i:Nat),x]
 | _,[],_=>rfl
 |k,x::C,0=>rfl
 |k,x::C,i+1=>by simp only[iK,gZ,gZ,yV _ C i,show k+1+i=k+(i+1) by lia]
abbrev yW:LD->OLD
 | [x]=>(lsD x).map (iK 0)
 | _=>ab
def jk(f:MF2)(M:LS):OLD:=(f M).bind yW
def Ph{f:MF2}(J:Gl X "enumerate")(hm:X.mg "enumerate"=ab)(ha:DA c X [a] f)(L:autoParam (aM [a] X.env=[(af,eval a X.env,)]) Zb):
  DI c X (.Tuple elts kx gF) (.Call (.Name "enumerate" p) [a] [] pos) (jk f):=
 PI.imp (GD J hm ha.pa L) λE H R Q=>by
  have(Hf0,H0,Hf,M,ds,st,b,k):=Q;unfold jk at b
  cases j:f M with
  |none=>rw[j]at b;nomatch b
  |some as=>
   rw[j]at b;replace b:yW as=aa ds:=b;show(Hf0,H0,Hf,M,as,st,j,λvs Hf' H' x r=>?_);unfold yW at b;split at b
   .rename_i dx
    cases ex:lsD dx with
    |none=>rw[ex]at b;nomatch b
    |some C=>
     rw[ex]at b;cases b;have(v,G,T):=r.one;have(N,h,l,w,y):=ku ex T;subst l;show(N,G,(h,x.s.seq w),k _ Hf' H' x λbm H2 f2 s2 i=>?_);have m:=(f2.trans s2).seq w;have h1:=y.length;show(λd e=>?_,λB=>(h,m,by rw[yU]at B;lia));rw[yV]at e
     cases n:C[i]? with
     |none=>rw[n]at e;nomatch e
     |some x'=>
      rw[n]at e;cases e;have(U,g,ru1):=y.get n;show((h,U,m,g),λz H3 (pp,z1,I,u,A,Y)=>?_);subst I A;have q:=Y h m;rw[g]at q;cases q;show(upd bm pp _,Ext.new s2 u,pp,_,rfl,aY,.cons (by rw[k7];rfl) (.cons (ru1.up (f2.trans (bO (s2.free u)))) .nil))
   .nomatch b
abbrev jl:D->Option Key
 |.int i=>aa (.inl i)
 |.str x=>aa (.inr x)
 | _=>ab
def rK{k:Key}(e:jl d=aa k)(r:Rep G H d v):v=kV k:=by
 cases d <;> first |(cases e;done) |(cases e;show r)
def gh(ks:List Key)(k:Key):Bool:=ks.any λj=>decide (j=k)
def iL{a:Type}(ks:List Key)(C:List a)(k:Key)(x:a):List a:=if gh ks k=ac then oj (λj y=>if j=k then x else y) ks C else C++[x]
def il(ks:List Key)(k:Key):List Key:=if gh ks k=ac then ks else ks++[k]
def GE{ks:List Key}{k:Key}{v:V}:∀{ks:List Key} {vs:LVv},(ks.zip vs).map (λa=>if a.1=k then (a.1,v,) else a)=ks.zip (oj (λj y=>if j=k then v else y) ks vs)
 | [],_=>rfl
 | _::_,[]=>rfl
 |j::ks,y::vs=>by
  simp only[e9,bD,tO,e9,GE (ks:=ks)]
  by_cases h:j=k
  .subst h;simp
  .simp[h]
def yX{k:Key}:∀{ks:List Key} {vs:LVv},ks.length=vs.length->((ks.zip vs).any λa=>decide (a.1=k))=gh ks k
 | [],[],_=>rfl
 | [],_::_,h=>by cases h
 | _::_,[],h=>by cases h
 |j::ks,y::vs,h=>by
  simp only[e9,gz,gz,yX (by simpa using h)];rfl
variable{ks:List Key}
def Pi{k:Key}(h:ks.length=vs.length):dL (ks.zip vs) k v=(il ks k).zip (iL ks vs k v):=by
 unfold dL il iL;rw[yX h]
 by_cases e:gh ks k=ac
 .rw[if_pos e,if_pos e,if_pos e,GE (ks:=ks)]
 .rw[if_neg e,if_neg e,if_neg e,zip_append h];rfl
def b8{a:Type}{vs:List a}{k:Key}{v:a}(h:ks.length=vs.length):(il ks k).length=(iL ks vs k v).length:=by
 unfold il iL
 by_cases e:gh ks k=ac
 .rw[if_pos e,if_pos e,length_zipWith];lia
 .rw[if_neg e,if_neg e,aR,aR,h];rfl
def ak.zipW{G:Gc}{H:Hp}{k:Key}{d:D}{v:V}(q:Rep G H d v):∀{ks:List Key} {ds:LD} {vs:LVv},ak G H ds vs->ak G H (oj (λj y=>if j=k then d else y) ks ds) (oj (λj y=>if j=k then v else y) ks vs)
 | [],_,_,_=>.nil
 | _::_,[],_,h=>by cases (h);show .nil
 |j::ks,x::ds,_,q3_=>by
  have(u,r,e,a,h2):=q3_;subst e;rw[tO,tO];show .cons ?_ (ak.zipW q h2)
  grind
def ak.put{k:Key}(r:ak G H ds vs)(q:Rep G H d v):ak G H (iL ks ds k d) (iL ks vs k v):=by
 unfold iL
 by_cases e:gh ks k=ac
 .rw[if_pos e,if_pos e];show r.zipW q
 .rw[if_neg e,if_neg e];show r.append (.cons q .nil)
def pH(i:Nat)(M:LS):Option Fl:=aa (.nx (M.set i (.ownd [] [])))
def jm(i:Nat)(a b:MF1)(M:LS):Option Fl:=(b M).bind λd=>(a M).bind λx=>(jl x).bind λk=>match M[i]? with
 |some (.ownd ks C)=>if ks.length<16777216 then aa (.nx (M.set i (.ownd (il ks k) (iL ks C k d)))) else ab
 | _=>ab
def rL(x y:D):OD:=(jl x).bind λk=>match y with
 |.dic ks _=>aa (.bl (gh ks k))
 | _=>ab
variable{i:Nat}
def Pj(e:PS X st (jb Fp (ib i))):DS c X st (pH i):=PS.imp e λW8 E H g=>by
 have(Hf0,H0,Hf,M,o,b,d,k):=g;cases d;intro q a;have x:Ext Hf H Hf (upd H q (.dK [])):=Ext.tmp b.sub a;show k _ Hf _ x.f (b.setOwn rfl x a (b.sub.free a) ([],aY,rfl,.nil))
variable{p':Pos}
def yY(i:Nat)(a:X.N.Nodup)(hi:autoParam (X.N[i]?=aa x) Zb)(e:autoParam (Loc X.env.scope x) Zf)(d:autoParam (f9 (.Dict [] [] pos) (aa (.Name x b4)) p'.line X.env=pure af) Zb)(b:autoParam (LcF X x) Zg):
  DS c X (.Assign [.Name x b4] (.Dict [] [] pos) p') (pH i):=Pj (oP a hi e NA d b)
variable{fk fv:MF1}
def Pl(w:PS X st (ym (cE i) (tD (Gx c X) fk) (tD (Gx c X) fv))):DS c X st (jm i fk fv):=PS.imp w λW8 E H B=>by
 have(Hf0,H0,Hf,M,o,n,a,k):=B;unfold jm at a
 cases g:fv M with
 |none=>rw[g]at a;nomatch a
 |some d=>
  rw[g]at a
  cases j:fk M with
  |none=>rw[j]at a;nomatch a
  |some x=>
   rw[j]at a
   cases m:jl x with
   |none=>rw[ax,ax,m]at a;nomatch a
   |some A=>
    simp only[ax,ax,m]at a;split at a
    .rename_i ks C es;split at a
     .rename_i N;cases a;show(Hf0,H0,Hf,M,d,n,g,λv b3 H1 p G=>?_);have b:=n.step p;have(l,el,J,L,vs,q,z,r):=b.ownAt rfl es;show(_,el,Hf0,H0,b3,M,x,b,j,λy bm H2 e I=>?_);have u:=rK m I;subst u;show(l,_,rfl,lA.k (e.h _ _ q) (by rw[di,om];lia),?_);show k E bm _ (p.f.trans e.f) ((b.step e).mutd rfl rfl es el (iL ks vs A v,?_,b8 z,(r.up e.f).put (G.up e.f)));rw[aY,Pi z]
     .nomatch a
    .nomatch a
variable{i' value:Expr}
def yZ(f:X.A.units+64<cLine)(b:PE X e (cE i))(a:DE c X i' fk)(hv:DE c X value fv)(d:autoParam (f9 value (aa (.Subscript e i' b4)) pos.line X.env=pure af) Zb):
  DS c X (.Assign [.Subscript e i' b4] value pos) (jm i fk fv):=Pl (Fo (by lia) b a hv d)
def Pn{k:Key}:∀{ks:List Key} {vs:LVv},ks.length=vs.length->(cN (ks.zip vs) k).isSome=gh ks k:=λ{ks vs} h=>by
 rw[<- uv,yX h]
variable{b:Expr}
def GF(L:X.A.units+64<cLine)(ha:DE c X a f)(B:DE c X b g)(hm:autoParam (k9 .In b=af) Zm):DE c X (.Compare a [.In] [b] pos) (m2 rL f g):=
 PE.imp (Lh (Nw (by lia) ha B) hm) λE H Q G=>by
  have(Hf0,H0,Hf,M,d,st,p,k):=G;have(x,y,m,n,e):=mO p;show(Hf0,H0,Hf,M,x,st,m,λv b3 H1 i I=>(Hf0,H0,b3,M,y,st.step i,n,λu bm H2 j J=>?_));unfold rL at e
  cases h:jl x with
  |none=>rw[h]at e;nomatch e
  |some N=>
   rw[h]at e
   cases y with
   |dic ks C=>
    cases e;have(l,vs,el,q,z,r):=J;have w:=rK h I;subst w el;show(l,_,rfl,fQ.k (j.s _ _ q),k _ bm H2 (i.trans j) ?_);rw[Pn z]
    rfl
   | _=>nomatch e
def gi(i:Nat)(fk fv:MF1)(M:LS):Option Fl:=(fv M).bind λd=>(fk M).bind λx=>match x with
 | .int k=>(match M[i]? with
  |some (.own C)=>(ixN C.length k).map λj=>.nx (M.set i (.own (C.set j d)))
  | _=>ab)
 | _=>ab
def Po(z:PS X st (jb (tD (Gx c X) fv) (xL (cE i) (tD (Gx c X) fk) ya))):DS c X st (gi i fk fv):=PS.imp z λW8 E H A=>by
 have(Hf0,H0,Hf,M,o,u,a,k):=A;unfold gi at a
 cases m:fv M with
 |none=>rw[m]at a;nomatch a
 |some d=>
  rw[m]at a
  cases n:fk M with
  |none=>rw[n]at a;nomatch a
  |some x=>
   rw[n]at a;obtain⟨e,rfl⟩:∃e,x=.int e:=by grind
   replace a:(match M[i]? with |some (.own C)=>(ixN C.length e).map λj=>Fl.nx _ | _=>ab)=aa o:=a
   split at a
   .rename_i C es
    cases p:ixN C.length e with
    |none=>rw[p]at a;nomatch a
    |some j=>
     rw[p]at a;cases a;show(Hf0,H0,Hf,M,d,u,m,λv b3 H1 w B=>?_);have b:=u.step w;have(l,el,I,J,vs,q,r):=b.ownAt rfl es;show(_,el,Hf0,H0,b3,M,.int e,b,n,λy bm H2 g G=>?_);show(l,vs,e,j,rfl,G,(g.h _ _ q),by rw[<- r.length];show p,(k E bm _ (w.f.trans g.f) ((b.step g).mutd rfl rfl es el (vs.set j v,aY,(r.up g.f).set j (B.up g.f)))))
   .grind
def GG(d:PE X e (cE i))(b:DE c X i' fk)(hv:DE c X value fv)(f:autoParam (swapsWithSole [.Subscript e i' b4] value pos.line X.env=pure af) Zb)(g:autoParam (swappedStores [.Subscript e i' b4] value X.env=pure ab) Zb)
 (a:autoParam ((iZ [.Subscript e i' b4] X.env).map (·.2)=[assign (.Subscript e i' b4) X.env]) Zb)
 (ha:autoParam (∀ v,assign (.Subscript e i' b4) X.env v=(do
   let ov <- eO [v] (eval e X.env)
   let iv <- eO [v,ov] (eval i' X.env)
   gB b4
   eO [v,ov,iv] (setItem ov iv v)
   release [v,ov,iv] [])) Zd):
  DS c X (.Assign [.Subscript e i' b4] value pos) (gi i fk fv):=Po (xN hv (xM d b yb ha) f g a)
def y4{G:Gc}{H:Hp}{f:D->D->Option Bool}(i:∀(g h x:D) (c d:Bool) (v:V),Rep G H g v->Rep G H h v->f g x=aa c->f h x=aa d->c=d):
  ∀{a b ys:LD} {c d:Bool} {vs:LVv},ak G H a vs->ak G H b vs->cY f a ys=aa c->cY f b ys=aa d->c=d
 | [],[],[],_,_,_,_,_,h1,h2=>by cases h1;cases h2;rfl
 | [],[],_::_,_,_,_,_,_,h1,h2=>by cases h1;cases h2;rfl
 | [],_::_,_,_,_,_,r1,r2,_,_=>by have:=r1.length;have:=r2.length;simp at *;lia
 | _::_,[],_,_,_,_,r1,r2,_,_=>by have:=r1.length;have:=r2.length;simp at *;lia
 | _::_,_::_,[],_,_,_,_,_,h1,h2=>by cases h1;cases h2;rfl
 |g::a,h::b,y::ys,c,d,vs,r1,r2,h1,h2=>by
  have(v,r,e,p,q):=r1;have(E,C,e',p2,u):=r2;subst e;cases e';have(w,z,j,l,rfl):=uE h1;have(A,B,m,n,rfl):=uE h2;rw[(i _ _ _ _ _ _ p p2 j m),(y4 i q u l n)]
abbrev vD:V->D
 |.bl b=>.bl b
 |.int i=>.int i
 |.str x=>.str x
 | _=>.non
def GH(s:d.scalar=ac)(r:Rep G H d v):d=vD v:=by
 cases d <;> first |(cases s;done) |(rw[show v=_ from r];rfl)
def u3{a:Addr}(s:d.scalar=ac)(r:Rep G H d (.ref a)):False:=by
 cases d <;> first |(cases s;done) |(cases (r))
def rM{G:Gc}{H:Hp}:∀(n:Nat) {r u x:D} {m p:Bool} {v:V},Rep G H r v->Rep G H u v->deq n r x=aa m->deq n u x=aa p->m=p
 | 0,_,_,_,_,_,_,_,_,h,_=>by cases h
 |n+1,r,u,x,m,p,v,r1,r2,h1,h2=>by
  replace h1:mU _ r x=aa m:=h1;replace h2:mU _ u x=aa p:=h2
  have W6:∀{C ys:LD},r=.lst C->u=.lst ys->m=p:=λ{C ys} l g=>by
   subst l g;have(a,vs,e,q,B):=r1;have(y,w,e',i,c):=r2;rw[e]at e';cases e';rw[q]at i;cases i;have A:=B.length;have E:=c.length
   cases x with
   |lst j=>
    replace h1:(if C.length=j.length then cY _ C j else aa af)=aa m:=h1;replace h2:(if ys.length=j.length then cY _ ys j else aa af)=aa p:=h2
    by_cases z:C.length=j.length
    .rw[if_pos z]at h1;rw[if_pos (by lia)]at h2;show y4 (f:=deq n) (λ_ _ _ _ _ _=>rM n) B c h1 h2
    .grind
   | _=>cases h1
  have T:∀{C ys:LD},r=.tup C->u=.tup ys->m=p:=λ{C ys} l g=>by
   subst l g;have(a,vs,e,q,B):=r1;have(y,w,e',i,c):=r2;rw[e]at e';cases e';rw[q]at i;cases i;have A:=B.length;have E:=c.length
   cases x with
   |tup j=>
    replace h1:(if C.length=j.length then cY _ C j else ab)=aa m:=h1;replace h2:(if ys.length=j.length then cY _ ys j else ab)=aa p:=h2
    by_cases z:C.length=j.length
    .rw[if_pos z]at h1;rw[if_pos (by lia)]at h2;show y4 (f:=deq n) (λ_ _ _ _ _ _=>rM n) B c h1 h2
    .grind
   | _=>cases h1
  have no:∀{d:D} {b:Bool},mU (deq n) d x=aa b->d.scalar=ac\/(∃C,d=.lst C)\/∃C,d=.tup C:=λ{d b} h=>by
   unfold mU at h
   grind
  rcases no h1 with s1 |⟨C,l⟩ |⟨C,l⟩
  .have:r=u:=by
    rcases no h2 with s2 |⟨ys,g⟩ |⟨ys,g⟩
    .rw[GH s1 r1,<- GH s2 r2]
    .subst g;have(a,_,e,_):=r2;subst e;show(u3 s1 r1).elim
    .subst g;have(a,_,e,_):=r2;subst e;show(u3 s1 r1).elim
   grind
  .rcases no h2 with s2 |⟨ys,g⟩ |⟨ys,g⟩
   .subst l;have(a,_,e,_):=r1;subst e;show(u3 s2 r2).elim
   .grind
   .subst l g;have(a,vs,e,q,B):=r1;have(y,w,e',i,c):=r2;rw[e]at e';cases e';rw[q]at i;cases i
  .rcases no h2 with s2 |⟨ys,g⟩ |⟨ys,g⟩
   .subst l;have(a,_,e,_):=r1;subst e;show(u3 s2 r2).elim
   .subst l g;have(a,vs,e,q,B):=r1;have(y,w,e',i,c):=r2;rw[e]at e';cases e';rw[q]at i;cases i
   .show T l g
abbrev du(x:D):LD->Option Bool
 | []=>aa af
 |d::ds=>(deq 19 d x).bind λb=>(du x ds).map λr=>b || r
def fW(x y:D):OD:=((iG y).bind (du x)).map .bl
def Pp:∀x y d,fW x y=aa d->d.scalar=ac:=λ_ _ d e=>mT d e
def GI{x:D}{b:Bool}(h:du x (d::ds)=aa b):∃a c,deq 19 d x=aa a/\du x ds=aa c/\b=(a || c):=by
 dsimp only[du]at h
 cases e:deq 19 d x with
 |none=>rw[e]at h;nomatch h
 |some a=>
  cases f:du x ds with
  |none=>rw[e,f]at h;nomatch h
  |some c=>rw[e,f]at h;cases h;show(a,c,rfl,rfl,rfl)
def y6{a:Type}{f g:a->Bool}:∀{l:List a},(∀x∈l,f x=g x)->l.any f=l.any g
 | [],_=>rfl
 |x::l,h=>by simp only[gz,gz,h x az,y6 λy b=>h y (bi _ b)]
open Classical in
def rN{U:PNS}{E:St}{H:Hp}{s:ah}{A:b5}{x:D}{L:V}{u:Value}(I:Inv X U E H s)(C:A.units+19<cLine)(J:Rep (Gx c X) H x L)(ru:aC L u):
  ∀{ds:LD} {vs:LVv} {us:LVa} {b:Bool},ak (Gx c X) H ds vs->aF vs us->du x ds=aa b ->
   ∃f:Value->Bool,(∀y∈us,cx A s y u (f y)/\∃d v,Rep (Gx c X) H d v/\aC v y/\deq 19 d x=aa (f y))/\us.any f=b
 | [],_,_,b,r,rv,h=>by
  cases (show _=[]from r);cases rv;cases h
  show(λ_=>af,(λy g=>by cases g),rfl)
 |d::ds,_,_,b,q4_,rv,h=>by
  have(v,G,l,n,N):=q4_;subst l;have(i,T,m,h2,rfl):=GI h
  cases rv with
  | @cons _ y _ us a w=>
   have(f,B,ha):=rN I C J ru N w h2;have j:cx A s y u i:=yE I 19 C m n J a ru;show(λz=>if z=y then i else f z,λz hz=>?_,?_)
   .by_cases e:z=y
    .subst e;simp only[if_true];show(j,d,v,n,a,m)
    .simp only[e,if_false];show B z ((aX.mp hz).resolve_left e)
   .rw[gz,if_pos rfl,<- ha]
    congr 1
    by_cases g:y∈us
    .have(_,d',Q,G,p,h'):=B y g;have l:Q=v:=aC.inj p a;subst l;have M:f y=i:=rM 19 G n h' m;show y6 λz hz=>?_
     by_cases e:z=y
     .subst e;simp[M]
     .simp[e]
    .show y6 λz hz=>?_;have e:z≠y:=λq=>g (q▸hz);simp[e]
def Pq(C:X.A.units+64<cLine):OpD c X (cK .In) fW:=by
 rintro U s E H v u w G Q I m ru ⟨Hf,x,y,d,g,l,B,e,k⟩;unfold fW at e
 cases h:(iG y).bind _ with
 |none=>rw[h]at e;nomatch e
 |some b=>
  rw[h]at e;cases e
  cases es:iG y with
  |none=>rw[es]at h;nomatch h
  |some ds=>
   rw[es]at h;have(a,vs,p,q,r):=rg es (B.up g);subst p;subst ru;have fin:∃n H',Inv X U E H' s/\aC n _/\Q n H':=(.bl b,H,I,rfl,k _ Hf H (Ext.refl g) rfl)
   rcases q with q |q
   .have(L,j,pl,hz):=I.list q;have(f,i,ha):=rN (A:=X.A.in1) I (by grind) (l.up g) m r j h;show SeqAt.in_listAt f pl.isList (λz hz=>(i z (by grind)).1) ?_;rw[show L.toArray.any f=L.any f by simp,ha];show fin
   .have(L,j,pl,hz):=I.tuple q;have(f,i,ha):=rN (A:=X.A.in1) I (by grind) (l.up g) m r j h;show SeqAt.in_tupleAt f pl (λz hz=>(i z (by grind)).1) ?_;rw[show L.toArray.any f=L.any f by simp,ha];show fin
def Ris(C:Array Nat):Prop:=C.toList.Pairwise (· < ·)
variable{C:Array Nat}
def GJ(h:Ris C){a b:Nat}(c:a<b)(d:b<C.size):C.getD a j<C.getD b j:=by
 have e:=pairwise_iff_getElem.mp h a b (by simpa using mj c d) (by simpa using d) c;rw[qx,qx,dif_pos (mj c d),dif_pos d];show e
def y7(h:Ris C){a b:Nat}(c:a<=b)(d:b<C.size):C.getD a j<=C.getD b j:=by
 rcases Nat.eq_or_lt_of_le c with e |e
 .subst e;show aL _
 .show eK (GJ h e d)
def y8{C:Array Nat}{j:Nat}(h:Ris C):∀(a lo hi:Nat),lo<=hi->hi<=C.size->hi-lo<=a->(∀i,i<lo->C.getD i j<j)->(∀i,hi<=i->i<C.size->¬C.getD i j<j) ->
  t8 C j a lo hi<=C.size/\(∀i,i<t8 C j a lo hi->C.getD i j<j)/\∀i,t8 C j a lo hi<=i->i<C.size->¬C.getD i j<j
 | 0,lo,hi,h1,h2,h3,h4,h5=>by
  have e:lo=hi:=by lia
  subst e
  show(h2,h4,h5)
 |a+1,lo,hi,h1,h2,h3,h4,h5=>by
  dsimp only[t8]
  by_cases c:lo<hi
  .rw[if_pos c]
   by_cases hm:C.getD ((lo+hi) / 2) j<j
   .simp only[hm];show y8 h a _ hi (by lia) h2 (by lia) (λi b=>(mi (y7 h (by lia) (by lia)) hm)) h5
   .simp only[hm];show y8 h a lo _ (by lia) (by lia) (by lia) h4 λi b f d=>(hm (mi (y7 h b f) d))
  .rw[if_neg c];have e:lo=hi:=by lia
   subst e;show(h2,h4,h5)
def y9(h:Ris C)(j:Nat):cD C j<=C.size/\(∀i,i<cD C j->C.getD i j<j)/\∀i,cD C j<=i->i<C.size->¬C.getD i j<j:=
 y8 h C.size 0 C.size (ce _) (aL _) (by lia) (λi hi=>by lia) λi hi a=>by lia
def Ps(h:Ris C)(hi:i<C.size):cD C (C[i]+1)=i+1:=by
 have(g,h2,f):=y9 h _;have e:C.getD i (C[i]+1)=C[i]:=by rw[qx,dif_pos hi];rfl
 by_cases d:cD C (C[i]+1)<=i
 .show absurd (by rw[e];lia) (f i d hi)
 .by_cases c:i+1<cD C (C[i]+1)
  .have a:=h2 _ c;have b:=GJ h (j:=C[i]+1) (show i<i+1 by lia) (by lia)
   lia
  .lia
def Pt(h:Ris C):cD C 0=0:=by
 have(a,h2,b):=y9 h 0
 by_cases e:0<cD C 0
 .have:=h2 0 e;lia
 .lia
def Pu(h:Ris C)(hn:C[cD C j]?≠aa j):Ris (dB.insertAt C (cD C j) j):=by
 have(w,h2,r):=y9 h j;unfold Ris dB.insertAt;have g:∀i,(hi:i<C.size)->C.getD i j=C[i]:=λi hi=>by rw[qx,dif_pos hi];rfl
 simp only[Array.toList_append,wU,Array.toList_extract,Array.toList_extract];simp only[extract_eq_drop_take]
 have l:∀x∈C.toList.take (cD C j),x<j:=λx p=>by
  have(i,hi,e):=mem_take_iff_getElem.mp p;have n:i<cD C j:=by lia
  have:=h2 i n;rw[g i (by lia)]at this;rw[<- e];show this
 have f:∀x∈C.toList.drop _,j<x:=λx p=>by
  have(i,hi,e):=mem_drop_iff_getElem.mp p;have m:cD C j+i<C.size:=by simpa[Nat.add_comm]using hi
  have a:=r _ (by lia) m;rw[g _ m]at a;have ex:x=C[cD C j+i]:=by rw[<- e];simp
  rw[ex]
  rcases Nat.lt_or_ge j C[cD C j+i]with q |q
  .show q
  .exfalso;have v:C[cD C j+i]=j:=by lia
   have d:cD C j<C.size:=by lia
   have b:=y7 h (j:=j) (show cD C j<=cD C j+i by lia) m;rw[g _ m,g _ d,v]at b;have c:=r _ (aL _) d;rw[g _ d]at c;show hn (by rw[l6 d];congr 1;lia)
 have u:List.take (C.size-cD C j) _=List.drop (cD C j) C.toList:=tN (by simp);rw[u];show qC.mpr (qC.mpr (En (take_sublist _ _) h,by simp,λa ha b d=>?_),En (drop_sublist _ _) h,λa ha b d=>?_)
 .have:b=j:=by simpa using d
  subst this;show l a ha
 .rcases bv.mp ha with ha |ha
  .show mj (l a ha) (f b d)
  .have:a=j:=by simpa using ha
   subst this;show f b d
def Pw(n:Nat):Ris (Array.range n):=by
 unfold Ris;rw[Array.toList_range];show pairwise_lt_range
variable{t:dB}
def GK(h:t.slot j=.empty\/t.slot j=.dummy):t.place[cD t.place j]?≠aa j:=λe=>by
 have:t.slot j=.live (cD t.place j):=by
  unfold dB.slot
  grind
 grind
def za{t:dB}{h:Int}:∀(a:Nat) (p:dB.Probe) {j:Nat} {d:Option Nat},(∀d',p.dummy=aa d'->t.place[cD t.place d']?≠aa d')->dB.probe.go t (λ_=>h+1) h a p=aa (.empty j d) ->
  t.place[cD t.place j]?≠aa j/\∀d',d=aa d'->t.place[cD t.place d']?≠aa d'
 | 0,_,_,_,_,e=>by cases e
 |a+1,p,j,d,hd,e=>by
  dsimp only[dB.probe.go]at e;split at e
  .rename_i b;cases e;show(GK (.inl b),hd)
  .rename_i b;show za a _ (λd' q=>?_) e
   have:d'=p.j:=by
    unfold dB.advance at q;split at q
    .show(dh q).symm
    .show(dh q).symm
   subst this;show GK (.inr b)
  .rename_i i b;split at e
   .cases e
   .show za a _ (λd' q=>hd d' ?_) e;unfold dB.advance at q
    split at q <;> show q
def Px{h:Int}{w:Bool}(e:t.freeSlot h=aa (j,w,)):t.place[cD t.place j]?≠aa j:=by
 unfold dB.freeSlot at e;split at e
 .rename_i c d b;have(a,h2):=za _ _ (λd' q=>by nomatch q) b
  cases d with
  |none=>cases e;show a
  |some d'=>cases e;show h2 _ rfl
 .grind
def u4(t:dB)(n:Nat):Ris (t.standIn n).place/\(t.standIn n).led=t.led:=(Pw n,rfl)
def Py(n:Nat)(h:Ris t.place):Ris (t.orStandIn n).place/\(t.orStandIn n).led=t.led:=by
 unfold dB.orStandIn;split
 .show(h,rfl)
 .show u4 t n
def Pz(es:Array (Int×Value))(h:Int)(x:Value)(hr:Ris t.place):Ris (layNew t es h x).2.1.place/\(layNew t es h x).2.1.led=t.led:=by
 unfold layNew;split
 .rename_i slot wd a;show Py _ (Pu hr (Px a))
 .show u4 t _
variable{led:Bool}
def PB{mask finger moves:Nat}{plain:Bool}{c:Array Int}{t':dB}{order:Array Nat}(e:dB.laid mask finger moves led plain c=aa (t',order,)):Ris t'.place/\t'.led=led:=by
 unfold dB.laid at e
 cases d:dB.layClean mask c with
 |none=>rw[d]at e;nomatch e
 |some owner=>
  rw[d]at e;cases e;show(?_,rfl);unfold Ris;rw[pairwise_map,pairwise_filterMap];show List.Pairwise.imp (λ{a b} f=>?_) pairwise_lt_range
  simp_all
def PD(es:Array (Int×Value))(a:Nat):Ris (mC t es a).2.1.place/\(mC t es a).2.1.led=t.led:=by
 unfold mC;split
 .rename_i t' order b;dsimp only;split
  .show(PB b)
  .show u4 t _
 .show u4 t _
def dU(P:cf)(w:World)(h:Heap)(a:Addr)(led:Bool)(S:Int->Bool)(n:Nat):Prop:=
 ∃o b d c,h.get? a=aa o/\o.ExactSet/\o.data=.set b d c/\ElemsOf (fN P w) b.toList/\(∀k,S k=ac↔∃e∈b.toList,(fN P w).is k e.2=ac)
  /\ b.size<lh/\c.fits b.size=ac/\b.size=n/\Ris c.place/\c.led=led
variable{h:Heap}{a:Addr}
def dU.stay{S:Int->Bool}(q:dU P w h a led S n)(k:∀o,h.get? a=aa o->h'.get? a=aa o):dU P w h' a led S n:=by
 have(o,b,c,e,d,r):=q;show(o,b,c,e,k o d,r)
def dU.congr{S b:Int->Bool}{c:Nat}(q:dU P w h a led S n)(e:∀k,S k=b k)(en:n=c):dU P w h a led b c:=by
 have:S=b:=funext e;subst this en;show q
variable{a4:Array (Int×Value)}{ep:Nat}{tb:dB}
def GL{o:Obj}{b:Array (Int×Value)}{c:dB}{S:Int->Bool}(m:h.get? a=aa o)(f:o.ExactSet)(hd:o.data=.set a4 ep tb)
 (d:ElemsOf (fN P w) b.toList)(hm:∀k,S k=ac↔∃e∈b.toList,(fN P w).is k e.2=ac)(j:b.size<lh)(l:c.fits b.size=ac)(hr:Ris c.place)(g:c.led=led):
  (h.update a (Obj.putSet b c)).get? a=aa {o with data:=.set b (ep+1) c}/\dU P w (h.update a (Obj.putSet b c)) a led S b.size:=by
 have i:=(SetOf_store m f hd d hm j l).1;show(i,_,b,ep+1,c,i,f,rfl,d,hm,j,l,rfl,hr,g)
variable{s:ah}
def GM{g:Bool->Sem Unit}(I:∀(b:Bool) (i:ah) (x:Unit->ah->Prop),x () i->wpAny (model P w) A (g b) x W8 i){o:Obj}{c:Array (Int×Value)}{d:dB}{S:Int->Bool}
 (B:s.heap.get? a=aa o)(m:o.ExactSet)(hd:o.data=.set a4 ep tb)(l:ElemsOf (fN P w) c.toList)(hm:∀k,S k=ac↔∃e∈c.toList,(fN P w).is k e.2=ac)
 (p:c.size<lh)(H:d.fits c.size=ac)(hr:Ris d.place)(f:d.led=led){G:Bool}{R:Option Bool->ah->Prop}
 (h:∀h',gc a s.heap h'->dU P w h' a led S c.size->R (aa ac) {s with heap:=h'}):
  wpAny (model P w) A (do
    storeSet a c d
    if (!G && d.tooFull)=ac then do
      g (mC d c (oM c.size)).2.2
      storeSet a (mC d c (oM c.size)).1 (mC d c (oM c.size)).2.1
      pure (aa ac)
     else pure (aa ac)) R W8 s:=by
 show aj (wpAny_storeSet_of B hd ?_ (fits_of_scanBound p));have(n,J):=GL B m hd l hm p H hr f;have E:=oJ s.heap a (Obj.putSet c d);split
 .have pp:=relayAll_perm d c (oM c.size);have y:=relayAll_fits d c (oM c.size);have u:=PD (t:=d) c (oM c.size);generalize mC d c _=z at pp y u ⊢;have(j,L,M):=z;have v:j.size=c.size:=by rw[<- iT,pp.length_eq,iT]
  show aj (I _ _ _ (aj (wpAny_storeSet_of n rfl ?_ (fits_of_scanBound (by rw[v];show p)))));have C:=(GL n m rfl (l.perm pp) (λk=>(hm k).trans (λ(e,r,q)=>(e,pp.mem_iff.mpr r,q),λ(e,r,q)=>(e,pp.mem_iff.mp r,q))) (by rw[v];show p) y u.1 (u.2.trans f)).2;rw[v]at C;show aE (h _ (E.trans (oJ _ a _)) C)
 .show aE (h _ E J)
def PF{S:Int->Bool}{k:Int}{x:Value}{Q:Bool->ah->Prop}(r:(fN P w).is k x=ac)(C:x.scannable=ac)(q:dU P w s.heap a led S n)(room:n+1<lh)
 (h:∀h',gc a s.heap h'->dU P w h' a led (λk'=>S k' || decide (k'=k)) (if S k then n else n+1)->Q (!S k) {s with heap:=h'}):wpAny (model P w) A (setAddHashed a x ((fN P w).hash k)) Q W8 s:=by
 have(o,a4,ep,tb,u,l,hd,f,hm,I,G,hn,hr,g):=q;show jE (aj (oB u hd G ?_));dsimp only;rw[byScan_of C I f,if_pos rfl];show aj (aj (lg (aj (wpAny_setScan_of r u hd G f ?_))))
 cases hi:List.findIdx? _ a4.toList with
 |some j=>
  have(L,M,_):=findIdx?_eq_some_iff_getElem.mp hi;have y:=(hm k).mpr (a4.toList[j],g4 L,M);show aE (aE ?_)
  have fin:=h s.heap (gc.refl a s.heap) (o,a4,ep,tb,u,l,hd,f,λk'=>by
   rw[jW,decide_eq_true_eq,<- hm k'];show(λz=>z.elim id (λe=>e▸y),.inl),I,G,by rw[y];show hn,hr,g)
  rw[y]at fin
  show fin
 |none=>
  have y:S k=af:=by
   grind
  have J:∀b c p,p () c->wpAny (model P w) A (match b with |true=>rule "set.scan.the-table-gave-way" |false=>pure ()) p W8 c:=
   λb c p i=>by cases b <;> first |show aE i |show lg i
  have pp:=layNew_perm tb a4 ((fN P w).hash k) x;have B:=layNew_fits tb a4 ((fN P w).hash k) x;have E:=Pz a4 ((fN P w).hash k) x hr;generalize layNew tb a4 _ x=z at pp B E ⊢;have(d,N,T,U):=z;dsimp only at pp B E ⊢;rw[wU]at pp;have H:d.size=n+1:=by rw[<- iT,pp.length_eq,aR,iT,hn];rfl
  have fin:∀h',gc a s.heap h'->dU P w h' a led _ d.size->Q ac {s with heap:=h'}:=λh' v m=>by
   have:=h h' v;rw[y]at this;rw[H]at m;show this m
  show aj (J _ _ _ ?_);split
  .show aj ?_;rw[hashByValue_scannable 8 C]
   show aE (GM (led:=led) (λb c p i=>by cases b <;> first |show aE i |show lg i) u l hd ((f.push r C).perm pp) (mem_push_iff r hm pp) (by rw[H];show room) ?_ ?_ ?_ λh' v m=>?_)
   .split
    .grind
    .show dB.fits_plain_off B
   .grind
   .grind
   .dsimp only;show aE (fin h' v m)
  .show aj (aE ?_)
   show GM (λb c p i=>by cases b <;> first |show aE i |show lg i) u l hd ((f.push r C).perm pp) (mem_push_iff r hm pp) (by rw[H];show room) B E.1 (E.2.trans g) λh' v m=>?_
   dsimp only;show aE (fin h' v m)
set_option maxRecDepth 100000
def eq(w:World):Bool:=!(w.params.followText "set-order")
variable{I:Addr}{wr:LAd}{G:Array GenState->Array GenState->Prop}{Pv:Nat->Value->Prop}
def PH{St:Nat->ah->Prop}(W:WalksS P w A.in1 I fp wr G n Pv St)(S:Addr)(f:S∉fp)(val:Nat->Int)(hv:∀i v,Pv i v->∃t,v=.int (val i) t)(B:n+1<lh):
  ∀(k i:Nat) (s:ah),n-i=k->i<=n->St i s->dU P w s.heap S led (λj=>(eN val i).any (·==j)) (eN val i).length ->
   (∀c,Moved (S::wr) G s c->dU P w c.heap S led (λj=>(eN val n).any (·==j)) (eN val n).length->R (.ok (.ret .none)) c) ->
   gC (model P w) A (.builtin "set.update.loop" ([.ref S,.ref I],[])) R s:=by
 have g:=λh=>f (W.sub _ h);have sub:∀b∈wr,b∈S::wr:=λb h=>bi _ h;intro k
 induction k with
 |zero=>
  intro i s r hi st q fin;obtain rfl:i=n:=by lia
  show j8 F.entry_set_update_loop ?_
  show aj (W.done s _ _ st λc m=>(aE (fin c (m.mono sub) (q.stay λo e=>m.heap S o g e))))
 |succ k u=>
  intro i s r hi st q fin;have lt:i<n:=by lia
  show j8 F.entry_set_update_loop ?_;show aj (W.item i s _ _ lt st λv c p d m=>?_);have(t,rfl):=hv i v p;show aj (jE ?_);show jE (aj ((fN P w).pyHash (intKind_is _ _ _ _) ?_));have room:(eN val i).length+1<lh:=by have:=firstMet_length_le val i;lia
  show PF (intKind_is _ _ _ _) rfl (q.stay λo e=>m.heap S o g e) room λh' l x=>?_;have y:dU P w h' S led (λj=>(eN val _).any (·==j)) (eN val _).length:=x.congr (λj=>by rw[firstMet_succ,step_any]) (by rw[firstMet_succ,step_length]);show aE (mr F.plain_set_update_loop _,u _ _ (by lia) lt (W.frame _ c _ _ d (j4 _) λb a o e=>?_) y λs2 m2 z=>?_)
  .rw[l.2 b λh=>f (by rw[<- h];show a)];show e
  .show fin s2 (Moved.trans W.gtrans ((m.mono sub).then_heap (j4 _) λb o a e=>?_) m2) z;rw[l.2 b λh=>a (by rw[h];show az)];show e
nonrec def jn(led:Bool):Obj:={cls:=.type "set",dict:=ab,data:=.set #[] 0 (.fresh 0 0 led)}
def PJ(a:Value){Q:PRS}(h:Q (.ref s.heap.objs.size) {s with heap:=s.heap.push (jn (eq w))}):
  gC (model P w) A (.call (.builtin "set.__new__") ([.type "set",a],[])) (wants Q W8) s:=by
 show codeAny_of_tree ?_;show aj (qQ (F.newCall_set_1 a) (aE (mr F.plain_set_new _,j8 F.entry_set_new ?_)));have b:=sub_set_self
 wp_walk
 show wpAny_askSetting (aE ?_);show aj (wpAny_alloc (aE (aE h)))
def PK(h:Heap)(led:Bool):dU P w (h.push (jn led)) h.objs.size led (λ_=>af) 0:=
 (_,#[],0,_,cL _ rfl,(rfl,rfl,rfl),rfl,λe a=>by simp at a,λk=>by simp,by decide,rfl,rfl,by unfold Ris;simp[dB.fresh],rfl)
set_option maxRecDepth 100000
variable{ns:LI0}
set_option maxHeartbeats 8000000 in
def PL{items:Array Value}{Q:PRS}(hh:A.handled=ab)(hl:s.heap.IsList l items)(hi:f8 items.toList ns)(hb:items.size+1<lh)
 (h:∀ (h':Heap) (g:Nat),dU P w h' s.heap.objs.size (eq w) (λj=>(eN (λi=>ns.getD i 0) items.size).any (·==j)) (eN (λi=>ns.getD i 0) items.size).length ->
   (∀b o,b<s.heap.objs.size->s.heap.get? b=aa o->h'.get? b=aa o)->s.toks<=g->Q (.ref s.heap.objs.size) {s with heap:=h',toks:=g}):
  wpAny (model P w) A (call (.type "set") [.ref l]) Q W8 s:=by
 have(c,tl,L):=li.mro;have E:=li.made;have M:=li.sub;show wpAny_call (codeAny_of_tree ?_);change wpAny _ _ (callAny (.type "set") _) _ _ _;show aE (Code.quiet_builtin _ (by decide +kernel),j8 F.entry_type_call ?_);rw[b5.under_plain (weight_type_call_type "set" [.ref l] []) rfl];have h1:=li.notType;have h2:=li.canCreate;have hct:=F.typeCall_set_1 (.ref l)
 repeat (any_goals (first |assumption |wp_step))
 show lc (PJ (.ref l) (W8:=W8) (Q:=λN d=>N=.ref s.heap.objs.size/\d={s with heap:=s.heap.push (jn (eq w))}) (rfl,rfl)) λr d hr=>?_
 cases r with
 |error e=>show hr
 |ok fl=>
  cases fl with
  |ret N=>
   have(rfl,rfl):=hr;have g0:(s.heap.push (jn (eq w))).get? s.heap.objs.size=aa (jn (eq w)):=cL _ rfl
   have hT:t9 {s with heap:=s.heap.push (jn (eq w))} (.ref s.heap.objs.size) "set":=(_,g0,rfl)
   have hli:=li.init.lookup;have hbi:=li.init.bind (.ref s.heap.objs.size)
   repeat (any_goals (first |assumption |wp_step))
   show lc (xk (R:=wants (λr cc=>r=.none/\∃ h' g,cc={ s with heap:=h',toks:=g }/\s.toks<=g /\
     dU P w h' s.heap.objs.size (eq w) (λj=>(eN (λi=>ns.getD i 0) items.size).any (·==j)) (eN (λi=>ns.getD i 0) items.size).length /\
     (∀b o,b<s.heap.objs.size->s.heap.get? b=aa o->h'.get? b=aa o)) W8) li.init.plain F.entry_set_init (check_set_init_1 hT ?_)) λy cc a=>?_
   .have((oc,od,odt,os),u,n,nl,p):=hl;simp only at n p;subst n p;have x:(s.heap.push (jn (eq w))).get? l=aa {cls:=.type "list",dict:=od,data:=.seq items nl,slots:=os}:=bA _ u;have k1:=F.sub_list_set;have k2:=F.sub_list_frozenset;have k3:(ka "list" == ka "dict")=af:=by decide
    have q:(s.heap.push (jn (eq w))).IsList l items:=(_,x,rfl,nl,rfl);unfold eP.«set.__init__» noKeywords eP.Frozenset.updateFrom;generalize z:pyIter=PI
    wp_walk
    subst z;show tU q (aj (wpAny_runValue ?_));have lt:l<s.heap.objs.size:=bz u;have C:A.in1.in1.in1.handled=ab:=by simp[hh]
    have G:l≠(s.heap.push (jn (eq w))).objs.size:=by rw[i6];show bU (jZ lt)
    have H:s.heap.objs.size∉[(s.heap.push (jn (eq w))).objs.size,l]:=by
     rw[i6];simp only[aX,dA,or_false,not_or];show(bU (c8 _),k6 lt)
    have hv:∀(i:Nat) (v:Value),items[i]?=aa v->∃t,v=.int ((λi=>ns.getD i 0) i) t:=λi v hv=>f8.int_at hi i v (by rw[qw];show hv);show PH (led:=eq w) ((Walks.list C _ l G items).toS) s.heap.objs.size H (λi=>ns.getD i 0) hv hb (items.size-0) 0 _ (by lia) (ce _) ((_,cL _ rfl,rfl,rfl),(q.push _)) ?hS0 ?hR
    case hS0=>show((PK (P:=P) (w:=w) s.heap (eq w)).stay λo e=>bA _ e).congr (λ_=>rfl) rfl
    case hR=>
     intro s' hm B;have(h',g',d',J,I):=s';have U:g'=s.gens:=hm.gens;have T:d'=s.drawn:=hm.drawn;have Y:I=s.os:=hm.os;subst U T Y;change wpAny _ _ _ _ _ _;show aE ?_;change wpAny _ _ (ret mF) _ _ _;show aE (rfl,h',J,rfl,hm.toks,B,λb o m e=>?_);have n2:b≠(s.heap.push (jn (eq w))).objs.size:=by rw[i6];show bU (jZ m)
     show hm.heap b o ?_ (bA _ (bA _ e));simp only[aX,dA,or_false,not_or];show(bU m,n2)
   .cases y with
    |error e=>show a
    |ok f=>
     cases f with
     |ret r=>
      have(rfl,h',g,rfl,htk,q',kk):=a
      repeat (any_goals (first |assumption |wp_step))
      show h _ _ q' kk htk
     | _=>show a.elim
  | _=>show hr.elim
set_option maxRecDepth 100000
def zb{a:Type}:∀(l:List a) (i:Nat) (x:a),l[i]?=aa x->(x::l.eraseIdx i).Perm l
 | [],_,_,h=>by simp at h
 |y::l,0,x,h=>by simp at h;subst h;rfl
 |y::l,i+1,x,h=>by
  have:=zb l i x (by simpa using h);show(List.Perm.swap y x _).trans (xc y this)
def GN{d:Type}(next:Nat->Nat):∀(a k:Nat) (left:List d) (out:Array d),left.length=a->(i0.go next a k left out).toList.Perm (out.toList++left)
 | 0,k,left,out,h=>by
  obtain rfl:left=[]:=tM.mp h;dsimp only[i0.go]
  simp
 |a+1,k,left,out,h=>by
  dsimp only[i0.go]
  have b:next k % left.length<left.length:=Nat.mod_lt _ (by lia)
  have c:=bY b;rw[c]
  show(GN next a _ _ _ (by rw[length_eraseIdx_of_lt b];lia)).trans ?_
  rw[wU,cJ];show w9 _ (zb left _ _ c)
def zc{a:Type}(next:Nat->Nat)(C:Array a):(i0 next C).toList.Perm C.toList:=by
 have:=GN next C.size 0 C.toList #[] (by simp)
 simpa[i0]using this
def PM{a:Source}{Q:Nat->ah->Prop}(hn:n≠0)(h:∀i,i<n->Q i {s with drawn:=s.drawn.bump a}):wpAny (model P w) A (choose a n) Q W8 s:=λΓ p b=>
 (hn,h _ (Nat.mod_lt _ (Nat.pos_of_ne_zero hn)))
def GO{b:Type}:∀(n:Nat) (C:List b) {s:ah} {Q:List b->ah->Prop},C.length=n->(∀ys d,ys.Perm C->Q ys {s with drawn:=d})->wpAny (model P w) A (drawOrder n C) Q W8 s
 | 0,C,s,Q,hl,h=>by
  obtain rfl:C=[]:=tM.mp hl;have:=h [] s.drawn (tQ _)
  show aE (by cases s;show this)
 |n+1,[],s,Q,hl,h=>by cases hl
 |n+1,x::C,s,Q,hl,h=>by
  show aj (PM (by simp) λi hi=>?_);have a:=bY hi;rw[a];show aj (GO n _ (by rw[length_eraseIdx_of_lt hi];lia) λys d c=>aE (h _ d ((xc _ c).trans (zb _ _ _ a))))
set_option maxRecDepth 100000
def iM:Slot "set_iterator" "__next__" "set_iterator.__next__" :=
 .of (owner:="set_iterator") (n:="__next__") (by rw[j9,j7];kernel_rfl) (by decide +kernel) (by decide +kernel) (by decide +kernel) (by first |show .inl (by decide +kernel) |grind) (by rw[mq];kernel_rfl)
def u5:mD table "set_iterator.__next__"=aa eP.«set_iterator.__next__»:=entryFor_of_fast (by kernel_rfl)
def u6(a:Value):argsOk "set_iterator.__next__" ([a],[]):=by unfold argsOk;kernel_rfl
def GP:Slot "set_iterator" "__iter__" "set_iterator.__iter__" :=
 .of (owner:="set_iterator") (n:="__iter__") (by rw[j9,j7];kernel_rfl) (by decide +kernel) (by decide +kernel) (by decide +kernel) (by first |show .inl (by decide +kernel) |grind) (by rw[mq];kernel_rfl)
def PN:mD table "set_iterator.__iter__"=aa eP.«dict_keyiterator.__iter__»:=
 entryFor_alias (id':="dict_keyiterator.__iter__") (by kernel_rfl) (by first |rfl |decide +kernel |(unfold String.splitOn;simp +decide [String.splitOnAux])) (by decide +kernel) (by kernel_rfl)
def PP(a:Value):argsOk "set_iterator.__iter__" ([a],[]):=by unfold argsOk;kernel_rfl
nonrec abbrev io(h:Heap)(I:Addr)(b:Value)(i:Nat)(a:Addr)(n ep:Nat):Prop:=
 h.get? I=aa {cls:=.type "set_iterator",dict:=ab,data:=.fields #[b,cj i,.ref a,cj n,cj ep],slots:=#[]}
variable{slot:Nat}{Q:Option Value->ah->Prop}
def GQ{slot':Nat}{o:Obj}{v:Value}(b:io s.heap I (cj slot) i a n ep)(m:s.heap.get? a=aa o)(hd:o.data=.set a4 ep tb)(l:tb.fits a4.size=ac)(hn:a4.size=n)
 (h:∀(A':b5) (d:PRS) (R:Option (Value×Nat)->ah->Prop),R (aa (v,slot',)) s->wpAny (model P w) A' (setNext a slot i ep) R d s)
 (j:∀h',io h' I (cj slot') (i+1) a n ep->gc I s.heap h'->Q (aa v) {s with heap:=h'}):wpAny (model P w) A (hU (.ref I)) Q W8 s:=by
 have c:s.TypeIs (.ref I) "set_iterator":=(_,b,rfl);unfold hU;show aj (oF (ox (name:=ua "__next__") c iM (jD iM c u5 ?_ (u6 _))));change wpAny _ _ (fieldsOf (.ref I) >>= _) _ _ s;show aj (tY b rfl ?_);show aj (qL m hd l ?_);have e:(((a4.size:Nat):Int) != (n:Int))=af:=by rw[hn];simp
 rw[e,if_neg bJ];change wpAny _ _ (setNext a ((slot:Nat):Int).toNat ((i:Nat):Int).toNat ((ep:Nat):Int).toNat >>= _) _ _ s;show aj (h _ _ _ ?_);show aj (oA b (by simp) λp f s1=>?_);show aj (oA f (by simp) λh2 g s2=>aE (v,rfl,aE (j h2 ?_ (gc.trans s1 s2))));change h2.get? I=_;rw[g];rfl
def GR{o:Obj}(l:A.handled=ab)(c:io s.heap I (cj slot) i a n ep)(p:s.heap.get? a=aa o)(hd:o.data=.set a4 ep tb)(j:tb.fits a4.size=ac)(hn:a4.size=n)
 (g:∀(A':b5) (e:PRS) (R:Option (Value×Nat)->ah->Prop),R ab s->wpAny (model P w) A' (setNext a slot i ep) R e s)
 (h:∀h',Heap.ExtBut I s.heap h'->Q ab {s with heap:=h'}):wpAny (model P w) A (hU (.ref I)) Q W8 s:=by
 have d:s.TypeIs (.ref I) "set_iterator":=(_,c,rfl);unfold hU;show aj (oF (ox (name:=ua "__next__") d iM (jD iM d u5 ?_ (u6 _))));change wpAny _ _ (fieldsOf (.ref I) >>= _) _ _ s;show aj (tY c rfl ?_);show aj (qL p hd j ?_);have f:(((a4.size:Nat):Int) != (n:Int))=af:=by rw[hn];simp
 rw[f,if_neg bJ];simp only[dD,dD,dD];show aj (g _ _ _ ?_);show aj (oA c (by simp) λr q s1=>?_);change wpAny _ _ (newExc (.type "StopIteration") [] >>= _) _ _ _;show aj ?_;simp only[newExc,newTuple];show aj (iY ?_ (by size_fits))
 show aj (m:=qP _ _) (qQ (a:=mF) (by first |rfl |(simp only[qP];rfl)) ?_)
 show iY ?_ (by size_fits);show aj (wpAny_handled ?_);rw[show A.in1.handled=ab from l];show aj (aE (wpAny_throw ?_));show aj (qN (T:="StopIteration") (b:=ac) (_,cL _ rfl,rfl) isSubtype_stop ?_);show aE (h _ ((s1.extBut.push _).push _))
variable{T:Addr}{pls:Array Value}
def PQ{pl:Nat}{o:Obj}{q:Int}{v:Value}(c:io s.heap I (.ref T) i a n ep)(f:s.heap.get? a=aa o)(hd:o.data=.set a4 ep tb)(e:tb.fits a4.size=ac)(hn:a4.size=n)
 (l:s.heap.get? T=aa {cls:=.type "tuple",data:=.seq pls})(p:pls[i]?=aa (cj pl))(m:a4[pl]?=aa (q,v,))
 (j:∀h',io h' I (.ref T) (i+1) a n ep->gc I s.heap h'->Q (aa v) {s with heap:=h'}):wpAny (model P w) A (hU (.ref I)) Q W8 s:=by
 have b:s.TypeIs (.ref I) "set_iterator":=(_,c,rfl);unfold hU;show aj (oF (ox (name:=ua "__next__") b iM (jD iM b u5 ?_ (u6 _))));change wpAny _ _ (fieldsOf (.ref I) >>= _) _ _ s;show aj (tY c rfl ?_);show aj (qL f hd e ?_);have g:(((a4.size:Nat):Int) != (n:Int))=af:=by rw[hn];simp
 rw[g,if_neg bJ];change wpAny _ _ (seqItems? (.ref T) >>= _) _ _ s;show aj (tZ l rfl ?_)
 change wpAny _ _ (match pls[((i:Nat):Int).toNat]? with |some (.int place _)=>_ |some _=>_ |none=>_) _ _ s
 rw[dD,p];change wpAny _ _ (setNextDrawn a ((pl:Nat):Int).toNat ((ep:Nat):Int).toNat >>= _) _ _ s;simp only[dD,dD];show aj ?_;unfold setNextDrawn;show aj (oB f hd e ?_);dsimp only;rw[if_neg (by simp)];rw[m];show aE ?_;show aj (oA c (by simp) λd h s1=>aE (v,rfl,aE (j d ?_ s1)));change d.get? I=_;rw[h];rfl
def PR{o:Obj}(l:A.handled=ab)(c:io s.heap I (.ref T) i a n ep)(p:s.heap.get? a=aa o)(hd:o.data=.set a4 ep tb)(j:tb.fits a4.size=ac)(hn:a4.size=n)
 (d:s.heap.get? T=aa {cls:=.type "tuple",data:=.seq pls})(q:pls[i]?=ab)
 (h:∀h',Heap.ExtBut I s.heap h'->Q ab {s with heap:=h'}):wpAny (model P w) A (hU (.ref I)) Q W8 s:=by
 have e:s.TypeIs (.ref I) "set_iterator":=(_,c,rfl);unfold hU;show aj (oF (ox (name:=ua "__next__") e iM (jD iM e u5 ?_ (u6 _))));change wpAny _ _ (fieldsOf (.ref I) >>= _) _ _ s;show aj (tY c rfl ?_);show aj (qL p hd j ?_);have f:(((a4.size:Nat):Int) != (n:Int))=af:=by rw[hn];simp
 rw[f,if_neg bJ];change wpAny _ _ (seqItems? (.ref T) >>= _) _ _ s;show aj (tZ d rfl ?_)
 change wpAny _ _ (match pls[((i:Nat):Int).toNat]? with |some (.int place _)=>_ |some _=>_ |none=>_) _ _ s
 rw[dD,q];show aj (oA c (by simp) λv g r=>?_);show aj (oA g (by simp) λx u s1=>?_);change wpAny _ _ (newExc (.type "StopIteration") [] >>= _) _ _ _;show aj ?_;show aj (iY ?_ (by size_fits))
 show aj (m:=qP _ _) (qQ (a:=mF) (by first |rfl |(simp only[qP];rfl)) ?_)
 show iY ?_ (by size_fits);show aj (wpAny_handled ?_);rw[show A.in1.handled=ab from l];show aj (aE (wpAny_throw ?_));show aj (qN (T:="StopIteration") (b:=ac) (_,cL _ rfl,rfl) isSubtype_stop ?_);show aE (h _ (((gc.trans r s1).extBut.push _).push _))
set_option maxRecDepth 100000
def PU:mD table "set.__iter__"=aa eP.«frozenset.__iter__»:=
 entryFor_alias (id':="frozenset.__iter__") (by kernel_rfl) (by first |rfl |decide +kernel |(unfold String.splitOn;simp +decide [String.splitOnAux])) (by decide +kernel) (by kernel_rfl)
abbrev rO(pl:Array Nat):Nat->Nat
 | 0=>0
 |i+1=>pl.getD i 0+1
def GS{pl:Array Nat}(hi:i<pl.size):rO pl (i+1)=pl[i]+1:=by
 change pl.getD i 0+1=_;simp[qx,hi]
def GT{a b:Type}{f:a->Option b}{g:a->b}:∀(l:List a),(∀x∈l,f x=aa (g x))->l.filterMap f=l.map g
 | [],_=>rfl
 |x::l,h=>by simp only[qE,h x az,bD,GT l λy c=>h y (bi _ c)]
def GU{pl:Array Nat}(h:Ris pl):∀i,i<=pl.size->cD pl (rO pl i)=i
 | 0,_=>Pt h
 |i+1,hi=>by
  rw[GS (by lia)];show Ps h (by lia)
def u7{Q:Bool->ah->Prop}(h:Q (w.params.followText "set-order") s):wpAny (model P w) A setsByText Q W8 s:=by
 show aj (wpAny_askSetting (aE h))
def GV{o:Obj}{R:Option (Value×Nat)->ah->Prop}(c:s.heap.get? a=aa o)(hd:o.data=.set a4 ep tb)(b:tb.fits a4.size=ac)(d:w.params.followText "set-order"=ac)
 (h:R (((i0 (w.params.setOrder a ep) a4)[i]?).map λe=>(e.2,slot,)) s):wpAny (model P w) A (setNext a slot i ep) R W8 s:=by
 show aj (oB c hd b ?_);show aj (u7 ?_);rw[d,if_pos rfl,if_neg (by simp)];show aj ?_;show aj (oB c hd b ?_);show aj (u7 ?_);rw[d,if_pos rfl];show aj (wpAny_askSetting (aE (aE h)))
def GW{o:Obj}{R:Option (Value×Nat)->ah->Prop}(d:s.heap.get? a=aa o)(hd:o.data=.set a4 ep tb)(c:tb.fits a4.size=ac)(e:w.params.followText "set-order"=af)(f:(!tb.plain && decide (a4.size>1))=af)(b:tb.led=ac)
 (h:R (match a4[cD tb.place slot]?,tb.place[cD tb.place slot]? with |some (_,x),aa j=>aa (x,j+1,) | _,_=>ab) s):wpAny (model P w) A (setNext a slot i ep) R W8 s:=by
 show aj (oB d hd c ?_);show aj (u7 ?_);rw[e,if_neg bJ];change wpAny _ _ (if (!tb.plain && decide _)=ac then _ else _) _ _ s;rw[f,if_neg bJ];change wpAny _ _ ((if _=ac then unsupported "set:maker-not-led" else pure ()) >>= _) _ _ s;rw[b,Bool.not_true,Bool.false_and,if_neg bJ];show aj (aE (aE h))
def zd{b:Value}{Q:PRS}(d:io s.heap I b i a n ep)(h:Q (.ref I) s):wpAny (model P w) A (pyIter (.ref I)) Q W8 s:=by
 have c:s.TypeIs (.ref I) "set_iterator":=(_,d,rfl);show wpAny_pyIter_slot c GP (jD GP c PN (aE (_,rfl,"set_iterator",_,c,iM.lookup,h)) (PP _))
def PV{o:Obj}(hh:A.handled=ab)(ne:a≠I)(hd:o.data=.set a4 ep tb)(hf:tb.fits a4.size=ac)(hn:a4.size=n)(ht:w.params.followText "set-order"=ac):
  WalksS P w A I [I,a] [I] (λx y=>y=x) n (λi v=>((i0 (w.params.setOrder a ep) a4).toList.map (·.2))[i]?=aa v) (λi s=>io s.heap I (cj ((0:Nat):Int)) i a n ep/\s.heap.get? a=aa o) where
 sub:=λb hb=>by simp at hb;simp[hb]
 grefl:=λ_=>rfl
 gtrans:=λ_ _ _ h1 h2=>h2.trans h1
 frame:=λi s h' tk st _ hk=>(hk I (by simp) _ st.1,hk a (by simp) _ st.2)
 item:=λi s Q W8 hi st hQ=>by
  have hz:(i0 (w.params.setOrder a ep) a4).size=n:=by rw[<- iT,(zc _ _).length_eq,iT,hn]
  have hx:_[i]?=aa (i0 (w.params.setOrder a ep) a4)[i]:=l6 (by lia);show GQ st.1 st.2 hd hf hn (λA' E' R r=>GV st.2 hd hf ht (by rw[hx];show r)) λh' g sb=>?_;show hQ _ _ (by rw[cB,qw,hx];rfl) (g,(sb.2 a ne).trans st.2) (λb o' hb e=>(sb.2 b (λh=>hb (by simp[h]))).trans e,rfl,rfl,rfl,aL _)
 done:=λs Q W8 st hQ=>by
  have hz:(i0 (w.params.setOrder a ep) a4).size=n:=by rw[<- iT,(zc _ _).length_eq,iT,hn]
  have hx:(i0 (w.params.setOrder a ep) a4)[n]?=ab:=Array.getElem?_eq_none (by lia);show GR hh st.1 st.2 hd hf hn (λA' E' R r=>GV st.2 hd hf ht (by rw[hx];show r)) λh' eb=>hQ _ (λb o' hb e=>eb b o' (λh=>hb (by simp[h])) e,rfl,rfl,rfl,aL _)
 self:=λi s Q W8 st hQ=>zd st.1 hQ
def PY{o:Obj}(hh:A.handled=ab)(ne:a≠I)(hd:o.data=.set a4 ep tb)(hf:tb.fits a4.size=ac)(hn:a4.size=n)(ht:w.params.followText "set-order"=af)(hw:(!tb.plain && decide (a4.size>1))=af)(hled:tb.led=ac)(hr:Ris tb.place):
  WalksS P w A I [I,a] [I] (λx y=>y=x) n (λi v=>(a4.toList.map (·.2))[i]?=aa v) (λi s=>io s.heap I (cj ((rO tb.place i:Nat):Int)) i a n ep/\s.heap.get? a=aa o) where
 sub:=λb hb=>by simp at hb;simp[hb]
 grefl:=λ_=>rfl
 gtrans:=λ_ _ _ h1 h2=>h2.trans h1
 frame:=λi s h' tk st _ hk=>(hk I (by simp) _ st.1,hk a (by simp) _ st.2)
 item:=λi s Q W8 hi st hQ=>by
  have hz:tb.place.size=a4.size:=by simp only[dB.fits,ca,beq_iff_eq]at hf;show hf.1
  have hb:=GU hr i (by lia);have hx:a4[i]?=aa a4[i]:=l6 (by lia);have hp:tb.place[i]?=aa tb.place[i]:=l6 (by lia);have es:rO tb.place _=tb.place[i]'(by lia)+1:=GS (by lia);show GQ st.1 st.2 hd hf hn (slot':=rO tb.place _) (λA' E' R r=>GW st.2 hd hf ht hw hled (by rw[hb,hx,hp];rw[es]at r;show r)) λh' g sb=>?_;show hQ _ _ (by rw[cB,qw,hx];rfl) (g,(sb.2 a ne).trans st.2) (λb o' hb e=>(sb.2 b (λh=>hb (by simp[h]))).trans e,rfl,rfl,rfl,aL _)
 done:=λs Q W8 st hQ=>by
  have hz:tb.place.size=a4.size:=by simp only[dB.fits,ca,beq_iff_eq]at hf;show hf.1
  have hb:=GU hr n (by lia);have hx:a4[n]?=ab:=Array.getElem?_eq_none (by lia);show GR hh st.1 st.2 hd hf hn (λA' E' R r=>GW st.2 hd hf ht hw hled (by rw[hb,hx];show r)) λh' eb=>hQ _ (λb o' hb e=>eb b o' (λh=>hb (by simp[h])) e,rfl,rfl,rfl,aL _)
 self:=λi s Q W8 st hQ=>zd st.1 hQ
def PZ{o:Obj}(hh:A.handled=ab)(ne:a≠I)(nT:T≠I)(hd:o.data=.set a4 ep tb)(hf:tb.fits a4.size=ac)(hn:a4.size=n){ord:LN}(hp:ord.Perm (bL n)):
  WalksS P w A I [I,a,T] [I] (λx y=>y=x) n (λi v=>(ord.filterMap λj=>(a4[j]?).map (·.2))[i]?=aa v)
   (λi s=>io s.heap I (.ref T) i a n ep/\s.heap.get? a=aa o/\s.heap.get? T=aa {cls:=.type "tuple",data:=.seq (ord.map λ(j:Nat)=>cj j).toArray}) where
 sub:=λb hb=>by simp at hb;simp[hb]
 grefl:=λ_=>rfl
 gtrans:=λ_ _ _ h1 h2=>h2.trans h1
 frame:=λi s h' tk st _ hk=>(hk I (by simp) _ st.1,hk a (by simp) _ st.2.1,hk T (by simp) _ st.2.2)
 item:=λi s Q W8 hi st hQ=>by
  have hl:ord.length=n:=by rw[hp.length_eq,cI]
  have lt:∀j∈ord,j<a4.size:=λj hj=>by rw[hn];show eJ.mp (hp.mem_iff.mp hj)
  have hj:ord[i]?=aa _:=bY (by lia);have hlt:ord[i]'(by lia)<a4.size:=lt _ (g4 _);have hx:=l6 hlt
  have em:(ord.filterMap λj=>(a4[j]?).map (·.2))=ord.map λj=>((a4[j]?).map (·.2)).getD .none:=by
   show GT ord λj hj=>?_;have:a4[j]?=aa _:=l6 (lt j hj);rw[this];rfl
  show PQ st.1 st.2.1 hd hf hn st.2.2 (by rw[List.getElem?_toArray,cB,hj];rfl) hx λh' g sb=>?_;show hQ _ _ ?_ (g,(sb.2 a ne).trans st.2.1,(sb.2 T nT).trans st.2.2) (λb o' hb e=>(sb.2 b (λh=>hb (by simp[h]))).trans e,rfl,rfl,rfl,aL _);rw[em,cB,hj];simp only[Option.map_some,hx];rfl
 done:=λs Q W8 st hQ=>by
  have hl:ord.length=n:=by rw[hp.length_eq,cI]
  show PR hh st.1 st.2.1 hd hf hn st.2.2 (by rw[List.getElem?_toArray];show ix (by simp;lia)) λh' eb=>hQ _ (λb o' hb e=>eb b o' (λh=>hb (by simp[h])) e,rfl,rfl,rfl,aL _)
 self:=λi s Q W8 st hQ=>zd st.1 hQ
set_option maxRecDepth 100000
def GX{P:cf}{w:World}:∀(l:List (Int×Value)),ElemsOf (fN P w) l->∃ns:LI0,f8 (l.map (·.2)) ns/\∀k,(∃e∈l,(fN P w).is k e.2=ac)↔k∈ns
 | [],_=>([],.nil,λk=>by simp)
 |e::l,h=>by
  have(ns,d,h2):=GX l h.tail;have((k,b,_),_):=h.head;have(t,c):=Value.isInt_shape b;show(k::ns,by rw[bD,c];show .cons k t d,λj=>?_);rw[aX,<- h2 j];constructor
  .rintro⟨x,a,q⟩
   rcases aX.mp a with rfl |a
   .show .inl ((fN P w).inj _ _ _ q b)
   .show .inr (x,a,q)
  .rintro(rfl |⟨x,a,q⟩)
   .show(e,az,b)
   .show(x,bi _ a,q)
def GY{a:Type}(C:List a):∀(n k:Nat),k+n=C.length->(List.range' k n).filterMap (λj=>C[j]?)=C.drop k
 | 0,k,h=>by rw[range'_zero,filterMap_nil,drop_of_length_le (by lia)]
 |n+1,k,h=>by
  rw[range'_succ,qE,bY _,GY C n _ (by lia),drop_eq_getElem_cons (show k<C.length by lia)]
def P0{a:Type}(C:Array a):(bL C.size).filterMap (λj=>C[j]?)=C.toList:=by
 have:=GY C.toList C.size 0 (by simp);rw[drop_zero]at this;rw[range_eq_range',<- this];simp
def P1{S:Int->Bool}{Q:PRS}(q:dU P w s.heap a (eq w) S n)
 (H:∀ (I:Addr) (fp:LAd) (l:LVa) (ns:LI0) (St:Nat->ah->Prop) (h':Heap) (d':Drawn),(∀ A' : b5,A'.handled=ab->WalksS P w A' I fp [I] (λx y=>y=x) n (λi v=>l[i]?=aa v) St) ->
   St 0 {s with heap:=h',drawn:=d'}->(∀b o,s.heap.get? b=aa o->h'.get? b=aa o)->s.heap.objs.size<=I->I∈fp->(∀b∈fp,b<h'.objs.size/\(b=a\/s.heap.objs.size<=b))->f8 l ns->ns.length=n->(∀k,S k=ac↔k∈ns)->Q (.ref I) {s with heap:=h',drawn:=d'}):
  wpAny (model P w) A (pyIter (.ref a)) Q W8 s:=by
 have(o,a4,ep,tb,f,L,hd,J,hm,hb,h,hn,hr,C):=q;have U:s.TypeIs (.ref a) "set":=(o,f,L.1);have u:=bz f
 have fin:∀(vs:List _),vs.Perm a4.toList->∃ns,f8 _ ns/\ns.length=n/\∀k,S k=ac↔k∈ns:=λvs p=>by
  have(ns,T,h2):=GX vs (J.perm p);show(ns,T,?_,λk=>?_)
  .rw[<- T.length,aA,p.length_eq,iT,hn]
  .grind
 show wpAny_pyIter_slot U F.slot_set_iter (jD F.slot_set_iter U PU ?_ (F.args_set_iter_1 _));change wpAny _ _ (eP.Frozenset.sizeOf a >>= _) _ _ s;show aj ?_;show aj (qL f hd h (aE ?_));show aj ?_;show aj (oB f hd h ?_);show aj (u7 (aE ?_));change wpAny _ _ (if (!w.params.followText "set-order" && (!tb.plain && decide _))=ac then _ else _) _ _ s
 cases N:w.params.followText "set-order" with
 |true=>
  show aj (aE (aj (wpAny_setEpoch_of f hd h ?_)));show aj (iY ?_ (by size_fits));show aE ?_;have(ns,r,E,G):=fin _ (zc _ a4);have g:io _ s.heap.objs.size (cj (0:Int)) 0 a n ep:=cL _ rfl;rw[hn];show(_,rfl,"set_iterator",_,(_,g,rfl),iM.lookup,?_);show H s.heap.objs.size [s.heap.objs.size,a] _ ns _ _ s.drawn (λA' B=>PV B (bU u) hd h hn N) (g,bA _ f) (λb o' e=>bA _ e) (aL _) (by simp) (λb c=>?_) r E G;rw[i6];simp only[aX,dA,or_false]at c
  rcases c with rfl |rfl
  .show(c8 _,.inr (aL _))
  .show(jZ u,.inl rfl)
 |false=>
  have m:tb.led=ac:=by rw[C];unfold eq;rw[N];rfl
  cases Y:(!tb.plain && decide (a4.size>1))with
  |false=>
   show aj (aE (aj (wpAny_setEpoch_of f hd h ?_)));show aj (iY ?_ (by size_fits));show aE ?_;have(ns,r,E,G):=fin _ (tQ _);have g:io (s.heap.push {cls:=.type "set_iterator",dict:=ab,data:=.fields #[cj ((0:Nat):Int),cj ((0:Nat):Int),.ref a,cj n,cj ep],slots:=#[]}) s.heap.objs.size (cj ((0:Nat):Int)) 0 a n ep:=cL _ rfl;rw[hn];show(_,rfl,"set_iterator",_,(_,g,rfl),iM.lookup,?_);show H s.heap.objs.size [s.heap.objs.size,a] _ ns _ _ s.drawn (λA' B=>PY B (bU u) hd h hn N Y m hr) (g,bA _ f) (λb o' e=>bA _ e) (aL _) (by simp) (λb c=>?_) r E G;rw[i6];simp only[aX,dA,or_false]at c
   rcases c with rfl |rfl
   .show(c8 _,.inr (aL _))
   .show(jZ u,.inl rfl)
  |true=>
   show aj (GO _ _ (by rw[cI]) λord d p=>?_);rw[hn]at p;have M:((ord.map λ(i:Nat)=>cj i)).length<=aS:=by rw[aA,p.length_eq,cI];show fits_of_scanBound (by lia)
   show aj (wpAny_newTuple ?_ M)
   show aj (wpAny_setEpoch_of (s:={s with heap:=s.heap.push {cls:=.type "tuple",data:=.seq (ord.map λ(i:Nat)=>cj i).toArray},drawn:=d}) (bA _ f) hd h ?_)
   show aj (iY ?_ (by size_fits));show aE ?_
   have pv:(ord.filterMap λj=>a4[j]?).Perm a4.toList:=by
    have:=p.filterMap λj=>a4[j]?;rw[<- hn,P0]at this;show this
   have(ns,r,E,G):=fin _ pv;rw[map_filterMap]at r
   have g:io ((s.heap.push {cls:=.type "tuple",data:=.seq (ord.map λ(i:Nat)=>cj i).toArray}).push {cls:=.type "set_iterator",dict:=ab,data:=.fields #[.ref s.heap.objs.size,cj ((0:Nat):Int),.ref a,cj n,cj ep],slots:=#[]})
     (s.heap.push {cls:=.type "tuple",data:=.seq (ord.map λ(i:Nat)=>cj i).toArray}).objs.size (.ref s.heap.objs.size) 0 a n ep:=cL _ rfl
   rw[hn];show(_,rfl,"set_iterator",_,(_,g,rfl),iM.lookup,?_);have z:(s.heap.push {cls:=.type "tuple",data:=.seq (ord.map λ(i:Nat)=>cj i).toArray}).objs.size=s.heap.objs.size+1:=i6 ..;show H _ [(s.heap.push {cls:=.type "tuple",data:=.seq (ord.map λ(i:Nat)=>cj i).toArray}).objs.size,a,s.heap.objs.size] _ ns _ _ d (λA' B=>PZ B (by rw[z];show bU (jZ u)) (by rw[z];show bU (c8 _)) hd h hn p) (g,bA _ (bA _ f),bA _ (cL _ rfl)) (λb o' e=>bA _ (bA _ e)) (by rw[z];show j4 _) (by simp) (λb c=>?_) r E G;rw[i6];simp only[aX,dA,or_false]at c
   rcases c with rfl |rfl |rfl
   .show(c8 _,.inr (by rw[z];show j4 _))
   .show(by rw[z];show jZ (jZ u),.inl rfl)
   .show(by rw[z];show jZ (c8 _),.inr (aL _))
set_option maxRecDepth 100000
variable{c5:Array Value}
def P2{a:LVa}(h:ItemsOf (λi v=>a[i]?=aa v) c5 n)(b:a.length=n):c5.toList=a:=by
 show mf λi=>?_
 by_cases hi:i<n
 .have e:c5[i]?=aa (c5[i]'(by rw[h.1];show hi)):=l6 _;rw[qw,e];show(h.2 i _ e).symm
 .rw[ix (by rw[iT,h.1];lia),ix (by lia)]
def P3:mx (.type "set") "__len__"=pure (aa (.builtin "set.__len__")):=by rw[j9,j7];kernel_rfl
def P4{S:Int->Bool}{Q:LVa->ah->Prop}(hh:A.handled=ab)(q:dU P w s.heap a (eq w) S n)(hn:n<=aS)
 (hQ:∀(h':Heap) (d':Drawn) (N:Nat) (c:LVa) (ns:LI0),(∀b o,s.heap.get? b=aa o->h'.get? b=aa o)->s.heap.objs.size<=h'.objs.size->s.toks<=N->f8 c ns->ns.length=n->(∀k,S k=ac↔k∈ns)->Q c {s with heap:=h',drawn:=d',toks:=N}):
  wpAny (model P w) A (collect (.ref a)) Q W8 s:=by
 unfold collect;show aj (wpAny_runValue (j8 PySem.F.entry_proto_collect ?_));rw[b5.under_plainId PySem.F.plain_proto_collect _];change wpAny _ A.in1 (newList [] >>= λl=>again (.builtin "list.__iadd__" ([l,.ref a],[]))) _ _ s;show aj (iY ?_);show aE (mr PySem.F.plain_list_iadd _,j8 PySem.F.entry_list_iadd ?_);simp only[b5.under_plainId PySem.F.plain_list_iadd _];change wpAny _ A.in1 (xl (.ref s.heap.objs.size) (.ref a) (.ref s.heap.objs.size)) _ _ _;dsimp only[xl];have(o,a4,ep,tb,v,m,rest):=id q;have x:a<s.heap.objs.size:=bz v;have q1:dU P w (s.heap.push {cls:=.type "list",data:=.seq ([]:LVa).toArray}) a (eq w) S n:=q.stay λo e=>bA _ e
 have hT:t9 {s with heap:=s.heap.push {cls:=.type "list",data:=.seq ([]:LVa).toArray}} (.ref a) "set":=(o,bA _ v,m.1)
 show aj (wpAny_typeOf hT ?_);have k1:t7 (.ref s.heap.objs.size) (.ref a)=af:=by simp[t7,k6 x]
 have k2:(ka "set" == ka "list")=af:=by decide
 have k3:(ka "set" == ka "tuple")=af:=by decide
 simp only[k1,k2,k3,tJ,Bool.false_eq_true,if_false];show aj (P1 q1 λI fp c ns St f g W z keep gI mI u J L i3=>?_)
 have d:t9 {s with heap:=f,drawn:=g} (.ref a) "set":=(o,keep _ _ (bA _ v),m.1)
 have T:(s.heap.push {cls:=.type "list",data:=.seq ([]:LVa).toArray}).objs.size=s.heap.objs.size+1:=i6 ..
 have M:s.heap.objs.size∉fp:=λhm=>by
  rcases(u _ hm).2 with e |e
  .show gA _ (by rw[<- e]at x;show x)
  .rw[T]at e;show Nat.not_succ_le_self _ e
 show aj (jE ?_);unfold Eo;show aj (tW d P3 ?_);dsimp only;show aj (qN d sub_set_self ?_);show aj (wpAny_typeOf d (aE ?_))
 change wpAny _ A.in1 (rule "list.extend.makes-room" >>= λ_=>eP.List.listTouch (.ref s.heap.objs.size) >>= λ_ =>
  again (.builtin "list.extend.loop" ([.ref s.heap.objs.size,.ref I,.ref s.heap.objs.size],[]))) _ _ _
 show aj (lg ?_);have G:=keep _ _ (cL _ rfl);show aj ?_
 show aj (tX (s:={s with heap:=f,drawn:=g}) G rfl ?_)
 have H:=oI (hX (·.push mF)) G rfl
 show tX (s:={s with heap:=f.update s.heap.objs.size (hX (·.push mF)),drawn:=g}) H rfl ?_
 have g3:=oI (hX (·.pop)) H rfl
 have p:∀b o,b≠s.heap.objs.size->f.get? b=aa o->((f.update s.heap.objs.size (hX (·.push mF))).update s.heap.objs.size (hX (·.pop))).get? b=aa o:=
  λb o r e=>(oH _ _ (eM r)).trans ((oH _ _ (eM r)).trans e)
 have C:=W A.in1 (by simp[hh])
 show aE (mr PySem.F.plain_extend_loop _,codeAny_extend_loopS C hn _ M _ n 0 _ _ _ rfl (ce _)
  (C.frame 0 ({s with heap:=f,drawn:=g}:ah) _ s.toks z (aL _) λb r o e=>p b o (λh=>M (h▸r)) e) g3 (ItemsOf.nil _) λs' E c' hm i j=>?_)
 show aj (wpAny_load i (aE ?_));have lv:c.length=n:=by rw[J.length,L]
 rw[P2 j lv];have(h2,g',d',B,os'):=s';have Y:=hm.gens;have U:d'=g:=hm.drawn;have eo:=hm.os;subst Y U eo;show hQ h2 d' B c ns (λb o' e=>?_) (eK (bz i)) hm.toks J L i3;have y:=bz e;show hm.heap b o' ?_ (p b o' (bU y) (keep _ _ (bA _ e)));simp only[aX,dA,or_false,not_or];show(bU y,bU (fj y (cS (by rw[T];show j4 _) gI)))
def P5{S:Int->Bool}{Q:PRS}(y:A.handled=ab)(q:dU P w s.heap a (eq w) S n)(g:n<64)
 (x:∀ (p:Addr) (h':Heap) (d':Drawn) (d e:Nat) (out:Array Value) (ns:LI0),(∀ b o,s.heap.get? b=aa o->h'.get? b=aa o)->s.heap.objs.size<=p->s.toks<=d->h'.get? p=aa (seqObj "list" out e)->f8 out.toList ns->ns.Pairwise (·<=·)->ns.length=n->(∀ k,S k=ac↔k∈ns) ->
   Q (.ref p) {s with heap:=h',drawn:=d',toks:=d}):wpAny (model P w) A (call (.builtin "sorted") [.ref a]) Q W8 s:=by
 show Calls.call_function_entry kind_sorted plain_sorted entry_sorted (args_sorted1 _) ?_;show aj (aE ?_);show aj (P4 (by simp[y]) q (by rw[di];lia) λm u d c ns keep grow htk h i z=>?_);show aj (wpAny_newList ?_ (by rw[h.length,i,di];lia));have f:(m.push _).get? m.objs.size=aa (seqObj "list" c.toArray 0):=cL _ rfl;show aj (jE (jD slot_list_sort (_,f,rfl) entry_list_sort (list_sort_tree f h (by rw[h.length,i];show g) λout j o1 o2 B=>(_,rfl,?_)) (args_list_sort _)));have(e,v):=sortedHeap_at f;show aE (_,rfl,x _ _ u d e out j (λb o l=>?_) grow htk v o1 B (by rw[o2.length_eq,i]) λk=>(z k).trans (o2.mem_iff).symm);have r:=bz (keep b o l);rw[sortedHeap_old (bU r) (by rw[i6];show jZ r)];show bA _ (keep b o l)
abbrev kE(x:Int):LI0->LI0
 | []=>[x]
 |y::r=>if x<y then x::y::r else if x=y then y::r else y::kE x r
def dz(ns:LI0):LI0:=ns.foldr kE []
def ze(x k:Int):∀l:LI0,k∈kE x l↔k=x\/k∈l
 | []=>by simp[kE]
 |y::r=>by
  unfold kE;split
  .simp
  .split
   .grind
   .rw[aX,ze x k r,aX]
    grind
def GZ(x:Int):∀l:LI0,l.Pairwise (· < ·)->(kE x l).Pairwise (· < ·)
 | [],_=>by simp[kE]
 |y::r,h=>by
  have(d,h2):=ma.mp h;dsimp only[kE];split
  .rename_i f;show ma.mpr (λk c=>?_,h)
   rcases aX.mp c with e |c
   .subst e;show f
   .show Int.lt_trans f (d k c)
  .split
   .show h
   .rename_i a b;show ma.mpr (λk c=>?_,GZ x r h2)
    rcases(ze x k r).mp c with e |c
    .subst e;lia
    .show d k c
def jo(k:Int):∀l:LI0,k∈dz l↔k∈l
 | []=>by rfl
 |x::l=>by
  change k∈kE x (dz l)↔_;rw[ze,jo k l,aX]
def lJ:∀l:LI0,(dz l).Pairwise (· < ·)
 | []=>by simp[dz]
 |x::l=>GZ x _ (lJ l)
def zf:∀(l m:LI0),l.Pairwise (· < ·)->m.Pairwise (· < ·)->(∀k,k∈l↔k∈m)->l=m
 | [],[],_,_,_=>rfl
 | [],y::m,_,_,h=>by have:=(h y).mpr az;simp at this
 |x::l,[],_,_,h=>by have:=(h x).mp az;simp at this
 |x::l,y::m,hl,hm,h=>by
  have(b,a):=ma.mp hl;have(m1,m2):=ma.mp hm
  have e:x=y:=by
   rcases aX.mp ((h x).mp az)with e |hx
   .lia
   .rcases aX.mp ((h y).mpr az)with e |hy
    .grind
    .grind
  subst e;rw[zf l m a m2 λk=>?_]
  grind
def pI:∀(F W6:LI0),F.Nodup->(∀x∈F,x∈W6)->W6.length<=F.length->W6.Perm F
 | [],W6,_,_,h=>by
  grind
 |x::F,W6,hn,hs,h=>by
  have(d,b):=b7.mp hn;have a:=hs x az;show(perm_cons_erase a).trans (xc x (pI F _ b (λy c=>?_) ?_))
  .grind
  .grind
def u8(val:Nat->Int):∀i,(eN val i).Nodup
 | 0=>by rw[firstMet_zero];grind
 |i+1=>by
  rw[firstMet_succ];unfold step_dedup;split
  .show u8 val i
  .rename_i h;show fh.mpr (u8 val i,by simp,λa ha b c e=>?_)
   grind
def G0(ns:LI0)(k:Int):(eN (λi=>ns.getD i 0) ns.length).any (·==k)=ac↔k∈ns:=by
 rw[firstMet_any]
 have e:(bL ns.length).map (λi=>ns.getD i 0)=ns:=by
  show mf λi=>?_;rw[cB]
  by_cases hi:i<ns.length
  .rw[tL hi];simp[hi]
  .rw[ix (by rw[cI];lia),ix (by lia)];rfl
 rw[e,any_eq_true];show(λb=>by have(x,a,q):=b;have:=beq_iff_eq.mp q;show this▸a,λh=>(k,h,by simp))
variable{out:LI0}
def P6(d:out.Pairwise (·<=·))(f:out.length=(eN (λi=>ns.getD i 0) ns.length).length)(hm:∀k,(eN (λi=>ns.getD i 0) ns.length).any (·==k)=ac↔k∈out):out=dz ns:=by
 have nd:=u8 (λi=>ns.getD i 0) ns.length
 have lt:out.Pairwise (· < ·):=by
  show List.Pairwise.imp₂ (λa b c h2=>(Int.lt_iff_le_and_ne.mpr (c,h2))) d ((pI _ out nd (λx e=>(hm x).mp (any_eq_true.mpr (x,e,by simp))) (by lia)).nodup_iff.mpr nd)
 show zf _ _ lt (lJ ns) λk=>by rw[<- hm k,G0,jo]
def P7(ns:LI0):(dz ns).length=(eN (λi=>ns.getD i 0) ns.length).length:=by
 have m:∀x,x∈eN _ ns.length↔x∈dz ns:=λx=>by
  show Iff.trans ?_ (jo x ns).symm;show Iff.trans ?_ (G0 ns x);rw[any_eq_true];show(λh=>(x,h,by simp),λc=>by have(y,b,q):=c;have:=beq_iff_eq.mp q;show this▸b)
 rcases Nat.le_total (dz ns).length (eN _ ns.length).length with h |h
 .show(pI _ _ (u8 _ ns.length) (λx a=>(m x).mp a) h).length_eq
 .show(pI _ _ ((lJ ns).imp λh=>Int.ne_of_lt h) (λx a=>(m x).mpr a) h).length_eq.symm
def Inv.draws(I:Inv X U E H s)(d':Drawn):Inv X U E H {s with drawn:=d'}:=by
 show I.step (ch:=[]) (λb a=>by nomatch a) (λb o _ _ _ e _=>e) (λb o _ _ _ e _=>(o.slots,e)) (λ_ _ _ _ n=>n)
  (λb o _ e=>(o,e)) (λ_ _ e=>e) (λ_ _ _ e=>e) (λb ps e=>(#[],by rw[e];simp)) (λm hm=>hm) I.hok I.bare
def zg:∀{vs:LVa} {ns:LI0},f8 vs ns->aF (ns.map V.int) vs
 | _,_,.nil=>.nil
 | _,_,.cons n t h=>.cons (t,rfl) (zg h)
def zh:∀{ns:LI0} {vs:LVa},aF (ns.map V.int) vs->f8 vs ns
 | [],_,.nil=>.nil
 |n::ns,_,.cons (t,e) h=>by subst e;show .cons n t (zh h)
def tSS(K:aQ)(te:TE):TE:=λE H Q=>te E H λx H1=>∃l ns,x=.ref l/\SqL K H1 l (ns.map V.int)/\ns.length<4000/\(dz ns).length<64/\∀p,H1 p=ab->Q (.ref p) (upd H1 p (.lst ((dz ns).map V.int)))
variable{c3:Pos}
def P8(y:X.calm=ac)(j:Gl X "sorted")(n:X.mg "sorted"=ab)(m:Gl X "set")(r:X.mg "set"=ab)(T:PE X e te)
 (N:autoParam (aM [.Call (.Name "set" p2) [e] [] c3] X.env=(af,eval (.Call (.Name "set" p2) [e] [] c3) X.env,)::aM [] X.env) Zb)(h2:autoParam (aM [e] X.env=(af,eval e X.env,)::aM [] X.env) Zb)
 (v:autoParam ((cg pos (aM [] X.env)).any (·.1)=af) Zb)(d:autoParam ((cg c3 (aM [] X.env)).any (·.1)=af) Zb):
  PE X (.Call (.Name "sorted" p) [.Call (.Name "set" p2) [e] [] c3] [] pos) (tSS X.K te):=by
 intro U s E H Q I h;show iX (hZ I j n boot_sorted ?_);show xj ?_ N v;show i4 (iX (hZ I m r boot_set ?_));show j5 ?_ h2 d;simp only[h2];show i4 (thn (T U s E H _ I h) λu s1 q_=>?_);have(x,H1,c,r1,l,ns,G,hq,hb,i,q):=q_;subst G;subst r1;show aE ?_;have(L,rr,pl,hz):=c.list hq;have A:=zh rr;have C:L.toArray.size=ns.length:=by rw[size_toArray,A.length]
 show PL (c.ok.hd y) pl.isList (by simpa using A) (by rw[C];unfold lh;lia) λh' tk w keep htk=>?_;rw[C]at w;show aE ?_;have lt:s1.heap.objs.size<h'.objs.size:=by have(o,_,_,_,Y,_):=id w;show bz Y
 show P5 (c.ok.hd y) w (by rw[<- P7];show i) λpp M f B ep out ns' a gp z J o1 o3 o4 o5=>?_;have en:=P6 o3 o4 o5;subst en;show(.ref pp,_,((c.laid (λb u g=>a _ _ (keep b u (bz g) g)) (cS (eK lt) gp) ?_).draws f),rfl,q pp (c.hok.fresh (cS (eK lt) gp)));show(by rw[aA,di];lia,out.toList,ep,zg o1,by simpa using J)
abbrev iN:LD->Option (LI0)
 | []=>aa []
 |.int i::r=>(iN r).map (i::·)
 | _::_=>ab
def zi:∀{ds:LD} {ns:LI0},iN ds=aa ns->ds=ns.map D.int
 | [],_,h=>by cases h;rfl
 |.int i::r,ns,h=>by
  replace h:(iN r).map _=aa ns:=h
  cases e:iN r with
  |none=>rw[e]at h;cases h
  |some m=>rw[e]at h;cases h;rw[zi e];rfl
 |.non::_,_,h=>by cases h
 |.bl _::_,_,h=>by cases h
 |.str _::_,_,h=>by cases h
 |.lst _::_,_,h=>by cases h
 |.tup _::_,_,h=>by cases h
 |.kl _::_,_,h=>by cases h
 |.kt _::_,_,h=>by cases h
 |.dic _ _::_,_,h=>by cases h
 |.ins _ _ _::_,_,h=>by cases h
def zj:∀(ns:LI0),iN (ns.map D.int)=aa ns
 | []=>rfl
 |n::ns=>by change(iN _).map _=_;rw[zj ns];rfl
def zk{G:Gc}{H:Hp}:∀{ns:LI0} {vs:LVv},ak G H (ns.map D.int) vs->vs=ns.map V.int
 | [],_,h=>h
 |n::ns,_,(v,r,e,h1,h2)=>by rw[e,show v=V.int n from h1,zk h2];rfl
def ni(f:MF1)(M:LS):OLD:=(f M).bind λd=>(lsD d).bind λds=>(iN ds).bind λns=>if ns.length<4000/\(dz ns).length<64 then aa ((dz ns).map .int) else ab
def P9(J:X.calm=ac)(m:Gl X "sorted")(u:X.mg "sorted"=ab)(n:Gl X "set")(w:X.mg "set"=ab)(ha:DE c X e f)
 (I:autoParam (aM [.Call (.Name "set" p2) [e] [] c3] X.env=(af,eval (.Call (.Name "set" p2) [e] [] c3) X.env,)::aM [] X.env) Zb)(h2:autoParam (aM [e] X.env=(af,eval e X.env,)::aM [] X.env) Zb)
 (z:autoParam ((cg pos (aM [] X.env)).any (·.1)=af) Zb)(b:autoParam ((cg c3 (aM [] X.env)).any (·.1)=af) Zb):DO c X (.Call (.Name "sorted" p) [.Call (.Name "set" p2) [e] [] c3] [] pos) (ni f):=
 PE.imp (P8 J m u n w ha I h2 z b) λE H Q L=>by
  have(Hf0,H0,Hf,M,ds,st,a,k):=L;unfold ni at a
  cases g:f M with
  |none=>rw[g]at a;nomatch a
  |some d=>
   rw[g]at a
   cases i:lsD d with
   |none=>rw[ax,i]at a;nomatch a
   |some C=>
    rw[ax,i]at a
    cases j:iN C with
    |none=>rw[ax,j]at a;nomatch a
    |some ns=>
     rw[ax,j,ax]at a;split at a
     .rename_i A;cases a;show(Hf0,H0,Hf,M,d,st,g,λv Hf' H' x r=>?_);have(l,vs,el,q,B):=ku i r;rw[zi j]at B;have G:=zk B;subst G el;show(l,ns,rfl,x.s.seq q,A.1,A.2,λpp y=>k pp _ Hf' _ (x.trans (Ext.tmp x.s y)) (x.h.free y) (x.s.free y) aY (ak.ints _))
     .grind
def kG(f g:MF1)(M:LS):OLD:=(f M).bind λx=>(g M).bind λy=>match x,y with
 |.lst a,.lst b=>if a.length+b.length<=16777216 then aa (a++b) else ab
 | _,_=>ab
def Qa(h:kG f g M=aa ds):∃a b,f M=aa (.lst a)/\g M=aa (.lst b)/\a.length+b.length<=16777216/\ds=a++b:=by
 unfold kG at h
 cases c:f M with
 |none=>rw[c]at h;nomatch h
 |some x=>
  cases d:g M with
  |none=>rw[c,d]at h;nomatch h
  |some y=>
   rw[c,d,ax,ax]at h;split at h
   .split at h
    .rename_i a b e;cases h;show(a,b,rfl,rfl,e,rfl)
    .nomatch h
   .nomatch h
def G1{a:Expr}(ha:DE c X a f)(r:DE c X b g):DO c X (.BinOp a .Add b pos) (kG f g):=PE.imp (EH Fh ha r) λE H Q A=>by
 have(Hf0,H0,Hf,M,ds,st,q,k):=A;have(C,ys,j,n,w,rfl):=Qa q;show(Hf0,H0,Hf,M,_,st,j,λv b3 H1 i B=>(Hf0,H0,b3,M,_,st.step i,n,λu bm H2 d G=>?_));have(l,vs,el,y,s1):=B.up d.f;have(m,us,em,z,s2):=G;subst el em;have x:=i.trans d;show(l,m,vs,us,rfl,rfl,d.s _ _ y,d.s _ _ z,by rw[di,<- s1.length,<- s2.length];show w,λp e=>k p _ bm _ (x.trans (Ext.tmp x.s e)) (x.h.free e) (x.s.free e) aY (s1.append s2))
def wp(F:MF3)(M:LS)(K:Fl->Prop):Prop:=∃o,F M=aa o/\K o
abbrev G2(F:MF3)(K:Fl->Prop):Fl->Prop
 |.nx M=>wp F M K
 |o=>K o
abbrev zl(J:LS->Prop)(K:Fl->Prop):Fl->Prop
 |.nx M=>J M
 |.ct M=>J M
 |.bk M=>K (.nx M)
 |o=>K o
def u9(Q:D->Prop)(o:Fl):Prop:=∃d,Go o=aa d/\Q d
variable{K:Fl->Prop}
def Qb{F:MF3}{a:Fl->Prop}(h:wp F M K)(b:∀o,K o->a o):wp F M a:=by
 have(o,e,k):=h;show(o,e,b o k)
def am{F F':MF3}(h:wp F M (G2 F' K)):wp (ai F F') M K:=by
 have(o,e,k):=h;unfold wp ai;rw[e]
 cases o with
 |nx ρ'=>show k
 | _=>show(_,rfl,k)
def b9(h:K (.nx M)):wp bE M K:=(_,rfl,h)
def bp(h:f M=aa d)(k:K (.nx (M.set i (.im d)))):wp (aZ i f) M K:=(_,Gv h,k)
def d4{f:MF2}{d:LD}(h:f M=aa d)(k:K (.nx (M.set i (.own d)))):wp (c6 i f) M K:=(_,OQ h,k)
def gj(h:f M=aa d)(k:K (.rt d)):wp (a8 f) M K:=(_,cP h,k)
def jp{f:MF2}{d:LD}(h:f M=aa d)(k:K (.rtO d)):wp (cy f) M K:=(_,by unfold cy;rw[h];rfl,k)
def G3{F:MF3}{o:Fl}(h:F M=aa o)(k:K o):wp F M K:=(_,h,k)
variable{b:Bool}
def bc{t:MF4}{F F':MF3}(h:t M=aa b)(c:b=ac->wp F M K)(a:b=af->wp F' M K):wp (be t F F') M K:=by
 unfold wp be;rw[h]
 cases b with
 |true=>show c rfl
 |false=>show a rfl
def pJ{F:MF3}(e:yP i M=ρ')(h:wp F ρ' K):wp (fS i F) M K:=by
 subst e;show h
variable{C:LD}
def gN(h:f M=aa d)(h':M[i]?=aa (.own C))(a:C.length<16777216)(k:K (.nx (M.set i (.own (C++[d]))))):wp (dC i f) M K:=(_,O1 h h' a,k)
def lK{k:Int}(hv:fv M=aa d)(c:fk M=aa (.int k))(h':M[i]?=aa (.own C))(a:0<=k)(b:k<C.length):gi i fk fv M=aa (.nx (M.set i (.own (C.set k.toNat d)))):=by
 have e:ixN C.length k=aa k.toNat:=by
  unfold ixN;rw[if_pos a,if_pos b]
 unfold gi;simp only[hv,ax,c,ax,h'];change(ixN C.length k).map _=_;rw[e];rfl
def pK{k:Int}(hv:fv M=aa d)(c:fk M=aa (.int k))(h':M[i]?=aa (.own C))(a:0<=k)(b:k<C.length)(q:K (.nx (M.set i (.own (C.set k.toNat d))))):wp (gi i fk fv) M K:=(_,lK hv c h' a b,q)
def G4{i:Type}{g:D->LS->Option LS}{F:MF3}{K:Fl->Prop}(f:i->D)(I:List i->LS->Prop):∀(post pre:List i) (M:LS),I pre M ->
  (∀b x e M,pre++post=b++x::e->I b M->∃ρ1,g (f x) M=aa ρ1/\wp F ρ1 (zl (I (b++[x])) K))->(∀ρ',I (pre++post) ρ'->K (.nx ρ'))->wp (iI g F (post.map f)) M K
 | [],pre,M,h,_,hk=>(_,rfl,hk M (by rw[bN];show h))
 |x::post,pre,M,h,hs,hk=>by
  have(ρ1,j,o,l,c):=hs pre x post M rfl h;unfold wp;rw[bD];dsimp only[iI];simp only[j,ax,l,ax]
  have go:=λa h2=>
   G4 f I post (pre++[x]) a h2 (by rw[cJ];show hs) (by rw[cJ];show hk)
  cases o with
  |nx a=>show go a c
  |ct a=>show go a c
  |bk a=>show(_,rfl,c)
  |rt d=>show(_,rfl,c)
  |rtO d=>show(_,rfl,c)
  |rtS d a=>show(_,rfl,c)
  |rtT o=>show(_,rfl,c)
def dH{a:Type}{g:D->LS->Option LS}{F:MF3}(C:List a)(f:a->D)(I:List a->LS->Prop)(hi:fi M=aa (C.map f))(b:I [] M)
 (d:∀pre x post M,C=pre++x::post->I pre M->∃ρ1,g (f x) M=aa ρ1/\wp F ρ1 (zl (I (pre++[x])) K))(c:∀ρ',I C ρ'->K (.nx ρ')):wp (b6 fi g F) M K:=by
 have(o,e,k):=G4 f I C [] M b d c;show(o,?_,k)
 unfold b6
 rw[hi];show e
def rP{t:MF4}{F:MF3}{K:Fl->Prop}(I:Nat->LS->Prop)(g:∀m M,I m M->∃b,t M=aa b/\(b=ac->wp F M (zl (λρ'=>∃f,f<m/\I f ρ') K))/\(b=af->K (.nx M))):
  ∀(n m:Nat) (M:LS),I m M->m<n->wp (dq t F n) M K
 | 0,m,M,_,h=>absurd h (g9 _)
 |n+1,m,M,h,hn=>by
  have(b,e,l,j):=g m M h;unfold wp;dsimp only[dq];simp only[e,ax]
  cases b with
  |false=>show(_,rfl,j rfl)
  |true=>
   have(o,i,c):=l rfl;rw[i,ax]
   have go:∀a,(∃f,f<m/\I f a)->wp _ a K:=λa q=>by
    have(f,hm,h2):=q;show rP I g n f a h2 (by lia)
   cases o with
   |nx a=>show go a c
   |ct a=>show go a c
   |bk a=>show(_,rfl,c)
   |rt d=>show(_,rfl,c)
   |rtO d=>show(_,rfl,c)
   |rtS d a=>show(_,rfl,c)
   |rtT o=>show(_,rfl,c)
variable{Q:D->Prop}
def nj{F:MF3}(h:wp F (eU n ds) (u9 Q)):∃d,aO n F ds=aa d/\Q d:=by
 have(o,e,d,e',q):=h;show(d,?_,q);unfold aO;rw[e];show e'
def jN{F:MF3}{r:D}(h:wp F (eU n ds) (u9 λd=>d=r)):aO n F ds=aa r:=by
 have(d,e,q):=nj h;rw[e,q]
def gm(h:Q d):u9 Q (.rt d):=(d,rfl,h)
def jO{d:LD}(h:Q (.lst d)):u9 Q (.rtO d):=(.lst d,rfl,h)
def lL{t:MF4}{r:OD}(h:t M=aa b)(c:b=ac->f M=r)(a:b=af->g M=r):vIf t f g M=r:=by
 unfold vIf
 grind
variable{i j:Int}
def cr(h:0<j):bP (.int i) (.int j)=aa (.int (i % j)):=uV h
def lM(h:qT i j):km (.int i) (.int j)=aa (.int (i / j)):=uV h
def pL(h:kh i j):mS (.int i) (.int j)=aa (.int (i ^ j.toNat)):=uV h
def eB:da (.int i) (.int j)=aa (.int (i+j)):=rfl
def lN:kj (.int i) (.int j)=aa (.int (i-j)):=rfl
def rQ:dLt (.int i) (.int j)=aa (.bl (decide (i<j))):=rfl
def lO:dGt (.int i) (.int j)=aa (.bl (decide (j<i))):=rfl
def G5:dGe (.int i) (.int j)=aa (.bl (decide (j<=i))):=rfl
def fX{a:Type}(C:List a)(f:a->D):cG [.lst (C.map f)]=aa (.int C.length):=by
 change aa _=_;rw[aA]
def G6{a:Type}(C:List a)(f:a->D):cG [.kl (C.map f)]=aa (.int C.length):=by
 change aa _=_;rw[aA]
def G7{a:Type}(f:a->D)(C:List a)(lo hi:Option Int):rp (C.map f) lo hi=((C.drop (HT.sIx C.length 0 lo)).take (HT.sIx C.length C.length hi-HT.sIx C.length 0 lo)).map f:=by
 unfold rp
 simp_all
variable{lo hi:Option Int}
def va{a:Type}{l h:LS->Option (Option Int)}{g:a->D}{C:List a}(e:f M=aa (.lst (C.map g)))(b:l M=aa lo)(c:h M=aa hi):mSl f l h M=aa (((C.drop (HT.sIx C.length 0 lo)).take (HT.sIx C.length C.length hi-HT.sIx C.length 0 lo)).map g):=by
 unfold mSl;rw[e,ax];change(l M).bind _=_;rw[b,ax,c,<- G7];rfl
def G8{a:Type}{l h:LS->Option (Option Int)}{g:a->D}{C:List a}(e:f M=aa (.kl (C.map g)))(b:l M=aa lo)(c:h M=aa hi):mSl f l h M=aa (((C.drop (HT.sIx C.length 0 lo)).take (HT.sIx C.length C.length hi-HT.sIx C.length 0 lo)).map g):=by
 unfold mSl;rw[e,ax];change(l M).bind _=_;rw[b,ax,c,<- G7];rfl
def Qc{a:Type}(f:a->Bool)(C:List a):(C.map λx=>D.bl (f x))=(C.map f).map D.bl:=by
 rw[map_map];rfl
def kJ(J:LS->Prop)(o:Fl):Prop:=∃ρ',o=.nx ρ'/\J ρ'
def k_J{J:LS->Prop}(h:J M):kJ J (.nx M):=(M,rfl,h)
def G9{S F:MF3}(J:LS->Prop)(h:wp S M (kJ J))(k:∀ρ',J ρ'->wp F ρ' K):wp (ai S F) M K:=by
 apply am;have(o,e,ρ',rfl,j):=h;show(_,e,k ρ' j)
def Qd{i:Nat}(h:M[i]?=aa (.im d))(k:K (.rt d)):wp (eT i) M K:=(_,by unfold eT;rw[h],k)
def nr{i:Nat}{d:LD}(h:M[i]?=aa (.own d))(k:K (.rtO d)):wp (eT i) M K:=(_,by unfold eT;rw[h],k)
abbrev D.flat:D->Bool
 |.tup C=>C.all D.scalar
 |d=>d.scalar
def lP(Hf H:Hp):Hp:=λa=>match H a with
 |some (.tup vs)=>aa (.tup vs)
 | _=>Hf a
def zm(h:H a=aa (.tup vs)):lP Hf H a=aa (.tup vs):=by
 unfold lP;rw[h]
def pM(h:∀vs,H a≠aa (.tup vs)):lP Hf H a=Hf a:=by
 unfold lP
 grind
def zn(s:aq Hf H)(g:aq H H'):Ext Hf H (lP Hf H') H':=by
 show(λb u e=>?_,g,λb u e=>?_,λl o e t=>pM λvs q=>?_)
 .have e':=g b u (s b u e)
  cases u with
  |tup vs=>show zm e'
  | _=>
   rw[pM (λvs q=>by rw[e']at q;nomatch q)];show e
 .by_cases h:∃vs,H' b=aa (.tup vs)
  .have(vs,h):=h;rw[zm h]at e;rw[h];show e
  .rw[pM (λvs q=>h (vs,q))]at e;show g b u (s b u e)
 .rw[g l o e]at q;cases q
  nomatch t
def ak.sc{G:Gc}{H H':Hp}:∀{ds:LD} {vs:LVv},ds.all D.scalar=ac->ak G H ds vs->ak G H' ds vs
 | [],_,_,h=>h
 |d::ds,_,hs,q3_=>by
  have(v,r,e,a,h2):=q3_;rw[k5,ca]at hs;show(v,r,e,a.sc hs.1,ak.sc hs.2 h2)
variable{G:Gc}
def Rep.flat(b:d.flat=ac)(r:Rep G H d v):Rep G (lP Hf H) d v:=by
 cases d with
 |tup C=>
  have(a,vs,e,h,q):=r
  show(a,vs,e,zm h,q.sc b)
 |non=>show r.sc b
 |bl _=>show r.sc b
 |int _=>show r.sc b
 |str _=>show r.sc b
 |lst _=>nomatch b
 |kl _=>nomatch b
 |kt _=>nomatch b
 |dic _ _=>nomatch b
 |ins _ _ _=>nomatch b
 |kd _ _=>nomatch b
 |dT _ _=>nomatch b
variable{f:Addr}
def Ha{k:Nat}(pk:Pk X.prog X.w X.K X.mg X.base CX0 k x (f,fd,) ps (spD (Gx c X) ps.length m))(l:bu k0 X.A)(ha:DAB c X (e::es) fa)(C:autoParam ((e::es).length=ps.length) Zb)(a:autoParam (NDb x) Zc)(z:autoParam (StE X e es) Zb)(j:autoParam (BkE X pos es) Zb)(i:autoParam (k<=k0) Zc)(B:autoParam (Gl X x) Zi):
  DB c X (.Call (.Name x p) (e::es) [] pos) (aw m fa):=PE.imp (oQ pk.ok (l.mono i) B pk.g pk.kp pk.b .nil gg ha.pa a z j) λE H Q I=>by
 have(Hf0,H0,Hf,M,d,st,y,G):=I;have(ds,n,u):=yF y;show(Hf0,H0,Hf,M,ds,st,n,λvs Hf' H' x r=>?_);rw[bN];show(H',ds,d,aq.refl _,r,(ha.len M ds n).trans C,u,λv bm H2 q J=>G v Hf' H2 (x.trans (Ext.grow x.s q.h)) (J.up q.s))
def pN(m:LD->OLD)(f:MF2)(M:LS):OLD:=(f M).bind λds=>(m ds).bind λB=>if B.all D.flat then aa B else ab
def ak.flat{G:Gc}{Hf H:Hp}:∀{ds:LD} {vs:LVv},ds.all D.flat=ac->ak G H ds vs->ak G (lP Hf H) ds vs
 | [],_,_,h=>h
 |d::ds,_,hs,q3_=>by
  have(v,r,e,a,h2):=q3_;rw[k5,ca]at hs;show(v,r,e,a.flat hs.1,ak.flat hs.2 h2)
def Qe{k:Nat}{m:LD->OLD}(pk:Pk X.prog X.w X.K X.mg X.base CX0 k x (f,fd,) ps (spO (Gx c X) ps.length m))(y:bu k0 X.A)(ha:DAB c X (e::es) fa)(I:autoParam ((e::es).length=ps.length) Zb)(n:autoParam (NDb x) Zc)(C:autoParam (StE X e es) Zb)(v:autoParam (BkE X pos es) Zb)(u:autoParam (k<=k0) Zc)(G:autoParam (Gl X x) Zi):
  DO c X (.Call (.Name x p) (e::es) [] pos) (pN m fa):=PE.imp (oQ pk.ok (y.mono u) G pk.g pk.kp pk.b .nil gg ha.pa n C v) λE H Q N=>by
 have(Hf0,H0,Hf,M,B,st,a,L):=N;unfold pN at a
 cases i:fa M with
 |none=>rw[i]at a;nomatch a
 |some ds=>
  rw[i,ax]at a
  cases j:m ds with
  |none=>rw[j]at a;nomatch a
  |some U=>
   rw[j,ax]at a;split at a
   .rename_i J;cases a;show(Hf0,H0,Hf,M,ds,st,i,λvs Hf' H' x r=>?_);rw[bN];show(H',ds,_,aq.refl _,r,(ha.len M ds i).trans I,j,λl us bm H2 z hn Y d T=>L l us _ H2 (x.trans (zn x.s z.h)) (x.h.free hn) (by rw[pM (λvs q=>by rw[d]at q;nomatch q)];show x.s.free hn) d ((T.up z.s).flat J))
   .nomatch a
def vb{m:LD->OLD}{f:MF2}(h:f M=aa ds)(h':m ds=aa B):kC m f M=aa B:=by
 unfold kC;rw[h,ax,h']
def nt{F:MF3}(h:F (eU n ds)=aa (.rtO B)):jh n F ds=aa B:=by
 unfold jh;rw[h];rfl
def nu(ns:LI0):LI0:=ns.mergeSort λa b=>decide (a<=b)
def tSL(K:aQ)(te:TE):TE:=λE H Q=>te E H λx H1=>∃l ns,x=.ref l/\SqL K H1 l (ns.map V.int)/\ns.length<64/\∀p,H1 p=ab->Q (.ref p) (upd H1 p (.lst ((nu ns).map V.int)))
def zo(ns:LI0):(nu ns).Perm ns:=mergeSort_perm _ _
def Hb(ns:LI0):(nu ns).Pairwise (·<=·):=(pairwise_mergeSort (λa b c=>by simp only[decide_eq_true_iff];lia) (λa b=>by simp only[jW,decide_eq_true_iff];lia) ns).imp of_decide_eq_true
def Qf(p:out.Perm ns)(c:out.Pairwise (·<=·)):out=nu ns:=List.Perm.eq_of_pairwise (λa b _ _=>Int.le_antisymm) c (Hb ns) (p.trans (zo ns).symm)
def Qg(nd:ns.Nodup):nu ns=dz ns:=zf _ _ (List.Pairwise.imp₂ (λa b c h2=>(Int.lt_iff_le_and_ne.mpr (c,h2))) (Hb ns) ((zo ns).nodup_iff.mpr nd)) (lJ _) λk=>by rw[jo];show(zo ns).mem_iff
def Qh(d:Gl X "sorted")(f:X.mg "sorted"=ab)(v:PE X e te)(j:autoParam (aM [e] X.env=(af,eval e X.env,)::aM [] X.env) Zb)(i:autoParam ((cg pos (aM [] X.env)).any (·.1)=af) Zb):
  PE X (.Call (.Name "sorted" p) [e] [] pos) (tSL X.K te):=by
 intro U s E H Q I h;show iX (hZ I d f boot_sorted ?_);show xj ?_ j i;rw[j];show i4 (thn (v U s E H _ I h) λu s1 A=>?_);have(x,H1,a,B,l,ns,n,w,c,q):=A;subst n;subst B;show aE ?_;have(L,C,pl,hz):=a.list w;have m:=zh C;show sorted_ints pl.isList m (by rw[m.length];show c) λout y o1 o2 z=>?_;have(ep,r):=sortedAll_at s1.heap L out;have en:=Qf o2 z;subst en;have G:=o2.length_eq;show(.ref _,_,(a.laid (o:=.lst _) (λb u g=>sortedAll_old g) (j4 _) (by rw[aA,di];lia,out.toList,ep,zg o1,by simpa using r)),rfl,q _ (a.hok.fresh (j4 _)))
def lQ(f:MF1)(M:LS):OLD:=(f M).bind λd=>(lsD d).bind λds=>(iN ds).bind λns=>if ns.length<64 then aa ((nu ns).map .int) else ab
variable{f:MF1}
def Qi(w:X.calm=ac)(j:Gl X "sorted")(m:X.mg "sorted"=ab)(ha:DE c X e f)
 (z:autoParam (aM [e] X.env=(af,eval e X.env,)::aM [] X.env) Zb)(u:autoParam ((cg pos (aM [] X.env)).any (·.1)=af) Zb):DO c X (.Call (.Name "sorted" p) [e] [] pos) (lQ f):=
 PE.imp (Qh j m ha z u) λE H Q G=>by
  have(Hf0,H0,Hf,M,ds,st,a,k):=G;unfold lQ at a
  cases b:f M with
  |none=>rw[b]at a;nomatch a
  |some d=>
   rw[b]at a
   cases g:lsD d with
   |none=>rw[ax,g]at a;nomatch a
   |some C=>
    rw[ax,g]at a
    cases i:iN C with
    |none=>rw[ax,i]at a;nomatch a
    |some ns=>
     rw[ax,i,ax]at a;split at a
     .rename_i A;cases a;show(Hf0,H0,Hf,M,d,st,b,λv Hf' H' x r=>?_);have(l,vs,el,q,B):=ku g r;rw[zi i]at B;have y:=zk B;subst y el;show(l,ns,rfl,x.s.seq q,A,λpp n=>k pp _ Hf' _ (x.trans (Ext.tmp x.s n)) (x.h.free n) (x.s.free n) aY (ak.ints _))
     .grind
def Qj(h:f M=aa (.lst (ns.map D.int)))(a:ns.length<64):lQ f M=aa ((nu ns).map D.int):=by
 unfold lQ;rw[h,ax];change(iN _).bind _=_;rw[zj,ax,if_pos a]
def Qk(h:f M=aa (.lst (ns.map D.int)))(a:ns.length<64)(h2:ns.Nodup):lQ f M=aa ((dz ns).map D.int):=by rw[Qj h a,Qg h2]
def Hc{k:Int}(h:k.natAbs<2 ^ n):t4 k<=n:=by
 unfold t4;split
 .show ce _
 .rename_i a;have:k.natAbs≠0:=λz=>a (by rw[Int.natAbs_eq_zero.mp z];rfl);show(Nat.log2_lt this).mpr h
def nz(i j:Int):Prop:=qU i j\/(i.natAbs<2 ^ 200/\j.natAbs<2 ^ 200)
def nz.ok(h:nz i j):IntMulOk i j:=by
 rcases h with h |⟨h1,h2⟩
 .show h.ok
 .have a:=Hc h1;have b:=Hc h2;unfold IntMulOk
  have:eP.Int.intTooBig (t4 i+t4 j)=af:=by
   have c:400<=bitsLine:=by decide
   show decide_eq_false (by lia)
  rw[this,tI];show bJ
noncomputable instance {i j:Int}:Decidable (nz i j):=by unfold nz;infer_instance
nonrec def jP:D->D->OD:=dI nz λi j=>.int (i*j)
def Ql:OpR X (fM .Mult) (rI nz λi j=>.int (i*j)):=opI λ_ _ _ _ _ _ _ a q=>mul_int q a.ok
def Qm:OpD c X (fM .Mult) jP:=uC Ql λ_ _ _ _=>rfl
def nA(h:nz i j):jP (.int i) (.int j)=aa (.int (i*j)):=uV h
set_option maxRecDepth 100000
def rR:Slot "list_reverseiterator" "__next__" "list_reverseiterator.__next__":=Slot.of (n:="__next__") (owner:="list_reverseiterator")
 (by rw[j9,j7];kernel_rfl) (by decide +kernel) (by decide +kernel) (by decide +kernel) (by first |show bS (by decide +kernel) |grind) (by rw[mq];kernel_rfl)
def He:Slot "list_reverseiterator" "__iter__" "list_reverseiterator.__iter__":=Slot.of (n:="__iter__") (owner:="list_reverseiterator")
 (by rw[j9,j7];kernel_rfl) (by decide +kernel) (by decide +kernel) (by decide +kernel) (by first |show bS (by decide +kernel) |grind) (by rw[mq];kernel_rfl)
def Hg:mD table "list_reverseiterator.__next__"=aa eP.«list_reverseiterator.__next__»:=by show entryFor_of_fast (by kernel_rfl)
def Qo:mD table "list_reverseiterator.__iter__"=aa eP.«dict_keyiterator.__iter__»:=by show entryFor_alias (id':="dict_keyiterator.__iter__") (by kernel_rfl) rfl (by decide +kernel) (by kernel_rfl)
def Hh(v:Value):argsOk "list_reverseiterator.__next__" ([v],[]):=by(unfold argsOk;kernel_rfl)
def Qp(v:Value):argsOk "list_reverseiterator.__iter__" ([v],[]):=by(unfold argsOk;kernel_rfl)
def fY(h:Heap)(it l:Addr)(j:Int):Prop:=∃o,h.get? it=aa o/\o.cls=.type "list_reverseiterator" /\ o.data=.fields #[.ref l,cj j]
def fY.ty(h:fY s.heap it l j):s.TypeIs (.ref it) "list_reverseiterator":=by
 have(o,e,c,_):=h;show(o,e,c)
def vc{Q:PRS}(hr:fY s.heap it l j)(h:Q (.ref it) s):wpAny (model P w) A (pyIter (.ref it)) Q W8 s:=by
 show wpAny_pyIter_slot hr.ty He (jD He hr.ty Qo (aE (eQ it,rfl,"list_reverseiterator",_,hr.ty,rR.lookup,h)) (Qp _))
variable{L:Array Value}
def Hi{j:Nat}{x:Value}{Q:Option Value->ah->Prop}(hr:fY s.heap it l j)(e:s.heap.IsList l L)(f:L[j]?=aa x)
 (c:∀h',fY h' it l ((j:Int)-1)->gc it s.heap h'->Q (aa x) {s with heap:=h'}):wpAny (model P w) A (hU (.ref it)) Q W8 s:=by
 have(o,a,d,hd):=id hr;have(o2,h2,_,g,b):=e;show aj (oF (ox hr.ty rR (jD rR hr.ty Hg ?_ (Hh _))));change wpAny _ _ (field _ 1 >>= _) _ _ s;show aj (wpAny_field a hd rfl ?_);show aj (wpAny_field a hd rfl ?_);show aj (tZ h2 b ?_);simp only[dD,f];show aj (wpAny_setField a hd (by simp) (aE (x,rfl,aE (c _ ?_ (oJ ..)))));show(_,oI _ a (Obj.isFreed_of_fields (Obj.data_mapFields hd _)),(Obj.cls_mapFields ..).trans d,?_);rw[Obj.data_mapFields hd];rfl
def Hj(d:j<0){Q:Option Value->ah->Prop}(c:A.handled=ab)(hr:fY s.heap it l j)
 (a:∀h',Heap.ExtBut it s.heap h'->Q ab {s with heap:=h'}):wpAny (model P w) A (hU (.ref it)) Q W8 s:=by
 have(o,f,h,hd):=id hr;show aj (oF (ox hr.ty rR (jD rR hr.ty Hg ?_ (Hh _))));change wpAny _ _ (field _ 1 >>= _) _ _ s;show aj (wpAny_field f hd rfl ?_);change wpAny _ _ (if j<0 then _ else _) _ _ s;rw[if_pos d];show aj (lg ?_);show aj ?_;change wpAny _ _ _ _ _ _;show aj ?_;simp only[newTuple]
 show aj (iY ?_ (by size_fits));show aj (qQ (by first |rfl |(simp only[qP];rfl)) ?_)
 show iY ?_ (by size_fits);simp only[raiseNew];show aj (wpAny_handled ?_);rw[show A.in1.handled=ab from c];show aj (aE (wpAny_throw ?_));show aj (qN (_,cL _ rfl,rfl) isSubtype_stop ?_);show aE (a _ λb u g e=>(bA _ (bA _ e)))
def Qq{T n a:String}{m:eP}{args:LVa}{S:K0}{Q:PRS}{c:Value}{tl:LVa}
 (y:(ka T==ka "type")=af)(z:((Manifest.find? T).bind (·.mro.findSome? λt=>(Manifest.find? t).bind λb=>if b.noNew then aa ac else if b.attrs.any (·.1 == "__new__") then aa af else ab)).getD af=af)
 (p:mroOf (.type T)=pure (c::tl))(l:Bind.madeBy (.type T)=pure (aa a))(f:plainId a=ac)(q:isSubtype (.type n) (.type T)=pure af)
 (u:checkTypeCall T (args,[])=pure ())(j:checkBuiltinCall a (.type T::args,[])=pure ())(d:mD table a=aa m)(g:Meets (m (.type T::args,[])) S)
 (h:S A.in1 (wants (λobj i=>i.TypeIs obj n/\Q obj i) W8) s):wpAny (model P w) A (call (.type T) args) Q W8 s:=by
 show wpAny_call (codeAny_of_tree ?_);change wpAny _ _ _ _ _ _;show aE (Code.quiet_builtin _ (by decide +kernel),j8 F.entry_type_call ?_);simp only[b5.under_plain (weight_type_call_type T args []) (units_type_call_type T args [])]
 repeat (any_goals (first |assumption |wp_step))
 show lc (xk f d (qQ j (g P w A.in1 _ s h))) λr s1 hr=>?_
 cases r with
 |error e=>show hr
 |ok fl=>
  cases fl with
  |ret obj=>
   have(v,x):=hr
   repeat (any_goals (first |assumption |wp_step))
  | _=>show hr.elim
def Hk:mroOf (.type "reversed")=pure [.type "reversed",.type "object"]:=by(rw[mroOf_type];kernel_rfl)
def Qr:mx (.type "reversed") "__new__"=pure (aa (.builtin "reversed.__new__")):=by(rw[j9,j7];kernel_rfl)
def Qs:Bind.madeBy (.type "reversed")=pure (aa "reversed.__new__"):=madeBy_type Hk Qr (by decide +kernel)
def Qt:isSubtype (.type "list_reverseiterator") (.type "reversed")=pure af:=by(rw[mq];kernel_rfl)
def Qu:mD table "reversed.__new__"=aa eP.«reversed.__new__»:=by show entryFor_of_tree (by kernel_rfl)
def Hl:jF "reversed"=aa (.type "reversed"):=by kernel_rfl
def Qv:mx (.type "list") "__reversed__"=pure (aa (.builtin "list.__reversed__")):=by(rw[j9,j7];kernel_rfl)
def Qw(l:Addr)(L:Array Value)(n:Nat)(dc:Option Addr)(sl:Array (Option Value)):Meets (eP.«list.__reversed__» ([.ref l],[])) (λ_ R s=>s.heap.get? l=aa {cls:=.type "list",dict:=dc,data:=.seq L n,slots:=sl}/\R (.ok (.ret (.ref s.heap.objs.size))) {s with heap:=s.heap.push {cls:=.type "list_reverseiterator",data:=.fields #[.ref l,cj (((L.size:Nat):Int)-1)]}}):=
 .of_wp λprog w A R s h=>by
  have(a,h):=h
  wp_walk
  show(_,rfl,h)
def Qx(l:Addr)(L:Array Value)(n:Nat)(dc:Option Addr)(sl:Array (Option Value)):Meets (eP.«reversed.__new__» ([.type "reversed",.ref l],[])) (λ_ R s=>s.heap.get? l=aa {cls:=.type "list",dict:=dc,data:=.seq L n,slots:=sl}/\R (.ok (.ret (.ref s.heap.objs.size))) {s with heap:=s.heap.push {cls:=.type "list_reverseiterator",data:=.fields #[.ref l,cj (((L.size:Nat):Int)-1)]}}):=
 .of_wp λprog w A R s h=>by
  have(a,g,d,b,os):=s;have(e,h):=h;have j:=Qv;have f:isSubtype (.type "reversed") (.type "reversed")=pure ac:=by(rw[mq];kernel_rfl)
  have i:t9 (a,g,d,b,os) (.ref l) "list":=(_,e,rfl);have m:=xq.bind (eQ l)
  repeat (any_goals (first |assumption |wp_step))
  have step:gC _ A.in1 _ (λr c=>r=.ok _/\c=(a.push {cls:=.type "list_reverseiterator",data:=.fields #[.ref l,cj _]},g,d,b,os)) (a,g,d,b,os):=
   xk xq.plain PySem.F.entry_list_reversed (xq.check _ _ _ _ _ _ _ _ i (PySem.F.args_list_reversed_1 _) (Qw l L n dc sl prog w A.in1 (λr c=>r=.ok (.ret (.ref a.objs.size))/\c=(a.push {cls:=.type "list_reverseiterator",data:=.fields #[.ref l,cj (((L.size:Nat):Int)-1)]},g,d,b,os)) (a,g,d,b,os) (e,rfl,rfl)))
  show lc step λr s1 hr=>?_;have(rfl,rfl):=hr;show aE (_,rfl,h)
def Hm{Q:PRS}(d:s.heap.IsList l L)
 (h:∀h',fY h' s.heap.objs.size l (((L.size:Nat):Int)-1)->(∀b o,s.heap.get? b=aa o->h'.get? b=aa o)->Q (.ref s.heap.objs.size) {s with heap:=h'}):wpAny (model P w) A (call (.type "reversed") [.ref l]) Q W8 s:=by
 have((c,a,dt,sl),g,f,n,hd):=d;subst f hd;have i:fY (s.heap.push {cls:=.type "list_reverseiterator",data:=.fields #[.ref l,cj _]}) s.heap.objs.size l ((L.size:Int)-1):=(_,cL _ rfl,rfl,rfl);show Qq (rfl) (by decide +kernel) Hk Qs (by decide +kernel) Qt (by kernel_rfl) (by kernel_rfl) Qu (Qx l L n a sl) (g,((_,cL _ rfl,rfl),h _ i λb o e=>bA _ e))
def Itv(K:aQ)(l:Addr)(n:Nat):It:=
  (λi H=> ∃C x, SqL K H l C/\C.length = n/\C.reverse[i]? = aa x,
   λi H v H'=> H' = H/\∀C, SqL K H l C->C.reverse[i]? = aa v,
   λi H=> n<=i)
def fY.stay(q:fY h it l j)(k:∀o,h.get? it=aa o->h'.get? it=aa o):fY h' it l j:=by
 have(o,e,c,d):=q;show(o,k o e,c,d)
def Qy{K:aQ}(l it:Addr)(n:Nat):kg P w K tg (Itv K l n) [it] it (λi h=>fY h it l ((n:Int)-1-(i:Int))) where
 mem:=by simp
 obj:=λi h st b hb=>by
  have e:b=it:=by simpa using hb
  rw[e];have(o,e1,c,d):=st;show⟨o,e1,λv z=>by rw[d]at z;nomatch z⟩
 keep:=λi h h' st k=>st.stay λo e=>k it (by simp) o e
 item:=by
  intro X hP hw hK hc i U s E H W8 I hf st hg;subst hP hw hK;have(C,x,hq,hn,hx):=hg;have(L,rv,p,hz):=I.list hq
  have hi:i<C.length:=by
   have:=(cX.mp hx).1
   simpa using this
  have hx':C[n-1-i]?=aa x:=by
   rw[List.getElem?_reverse hi]at hx;rw[<- hn];show hx
  have(u,hu,ru):=rv.get hx';have(f0,f1,f2,f3,f4,f5):=hf it (by simp);have ej:(n-1-i)=((n-1-i:Nat):Int):=by lia
  rw[ej]at st;show Hi st p.isList (by simpa using hu) λh' eF sb=>?_;have e2:((n-1-i:Nat):Int)-1=n-1-((i+1:Nat):Int):=by lia
  rw[e2]at eF;have(o,e,c,d):=id eF;show(u,rfl,ue e c d (rfl) (x,H,(I.turned (λb o hb e=>(sb.2 b hb).trans e) f0 f1 f3 f4 f5),ru,(rfl,λys hy=>by rw[I.list_inj hy hq];show hx),eF,λb hb=>(hf b hb).1))
 done:=by
  intro X hP hw hK hc i U s E H W8 I hf st hg;have hg:n<=i:=hg;have(f0,f1,f2,f3,f4,f5):=hf it (by simp);show Hj (by lia) (I.ok.hd hc) st λh' eb=>(rfl,I.turned (λb o hb e=>eb b o hb e) f0 f1 f3 f4 f5)
 self:=λ_ _ _ _ _ st h=>vc st h
def Qz(K:aQ)(ta:TA):TI:=λE H R=>ta E H λvs H1=>∃l C,vs=[.ref l]/\SqL K H1 l C/\R (Itv K l C.length) H1
variable{a:Expr}
def QA(n:Gl X "reversed")(hm:X.mg "reversed"=ab)(ha:PA X [a] ta)(r:autoParam (aM [a] X.env=[(af,eval a X.env,)]) Zb):PI X tg (.Call (.Name "reversed" p) [a] [] pos) (Qz X.K ta):=by
 intro U s E H R I h;show Call_ (hZ I n hm Hl (j5 (thn (ha pos U s E H _ I h) λus s1 w=>?_) (by rw[r];rfl) (by rfl)));have(vs,H1,c,d,l,C,e,j,q):=w;subst e;have(u,rfl,ru):=lz d;subst ru;have(f,d,v,y):=c.list j;have x:=d.length;show Hm v.isList λh' g i=>?_;show vc g ?_;show(_,_,_,_,H1,rfl,c.kept i,Qy l _ C.length,?_,λb m=>?_,q)
 .grind
 .have e:b=s1.heap.objs.size:=by simpa using m
  rw[e];show c.fpOk (aL _) (c.hok.fresh (aL _))
abbrev zp:LD->OLD
 | [x]=>(lsD x).map List.reverse
 | _=>ab
def lR(f:MF2)(M:LS):OLD:=(f M).bind zp
variable{f:MF2}
def QB(G:Gl X "reversed")(hm:X.mg "reversed"=ab)(ha:DA c X [a] f)(I:autoParam (aM [a] X.env=[(af,eval a X.env,)]) Zb):DI c X tg (.Call (.Name "reversed" p) [a] [] pos) (lR f):=
 PI.imp (QA G hm ha.pa I) λE H R L=>by
  have(Hf0,H0,Hf,M,ds,st,b,k):=L;unfold lR at b
  cases g:f M with
  |none=>rw[g]at b;nomatch b
  |some as=>
   rw[g]at b;replace b:zp as=aa ds:=b;show(Hf0,H0,Hf,M,as,st,g,λvs Hf' H' x r=>?_);unfold zp at b;split at b
   .rename_i dx
    cases ex:lsD dx with
    |none=>rw[ex]at b;nomatch b
    |some C=>
     rw[ex]at b;cases b;have(v,B,N):=r.one;have(J,e,h,n,w):=ku ex N;subst h;show(J,e,B,x.s.seq n,k _ Hf' H' x λbm H2 f2 s2 i=>?_);have m:=(f2.trans s2).seq n;have U:=w.length;show(λd y=>?_,λA=>?_)
     .have(u,l,ru):=w.reverse.get y;show((e,u,m,rfl,l),λz T q=>?_);have(rfl,Q):=q;have j:=Q e m;rw[l]at j;cases j;show(bm,Ext.refl s2,ru.up f2)
     .rw[kZ]at A;change e.length<=i
      lia
   .nomatch b
def QC{a:Type}{g:a->D}{C:List a}(h:f M=aa [.lst (C.map g)]):lR f M=aa (C.reverse.map g):=by
 unfold lR;rw[h];change aa (C.map g).reverse=_;simp
inductive tDX(G:Gc)(f:LS->Option (D×LS))(E:St)(H:Hp)(Q:VK):Prop
 |mk:∀Hf0 H0 Hf M d ρ',ar G Hf0 H0 Hf H E M->f M=aa (d,ρ',)->(∀v Hf' H',aq Hf Hf'->ar G Hf0 H0 Hf' H' E ρ'->Rep G Hf' d v->Q v H')->tDX G f E H Q
def DX(c:Str->Addr)(X:Cx)(e:Expr)(f:LS->Option (D×LS)):Prop:=PE X e (tDX (Gx c X) f)
def QD:mx (.type "list_reverseiterator") "__len__"=pure ab:=by(rw[j9,j7];kernel_rfl)
def QE:mx (.type "list_reverseiterator") "__length_hint__"=pure (aa (.builtin "list_reverseiterator.__length_hint__")):=by(rw[j9,j7];kernel_rfl)
def QF:isSubtype (.type "list_reverseiterator") (.type "list_reverseiterator")=pure ac:=by(rw[mq];kernel_rfl)
def QG{Q:Bool->ah->Prop}(hr:fY s.heap it l j)(h:Q af s):wpAny (model P w) A (Eo (.ref it)) Q W8 s:=by
 show aj (tW hr.ty QD ?_);show aj (tW hr.ty QE ?_);show aj (qN hr.ty QF (aE h))
def QH(hh:A.handled=ab)(hne:it≠l)(L:Array Value):Walks P w A it [it,l] [it] L.size (λi v=>L.toList.reverse[i]?=aa v) (λi h=>fY h it l ((L.size:Int)-1-(i:Int))/\h.IsList l L) where
 sub:=by simp
 frame:=λi h h' (a,o,e,c,n,d) k=>(a.stay λo e=>k it (by simp) o e,o,k l (by simp) o e,c,n,d)
 item:=λi s Q W8 hi st hQ=>by
  have(a,b):=st;have ej:(L.size-1-i)=((L.size-1-i:Nat):Int):=by lia
  rw[ej]at a;have hk:L.size-1-i<L.size:=by lia
  show Hi a b (x:=L[L.size-1-i]) (by simp[hk]) λh' a' sb=>?_;have e2:((L.size-1-i:Nat):Int)-1=L.size-1-((i+1:Nat):Int):=by lia
  rw[e2]at a';have hl:∀b o,b∉[it]->s.heap.get? b=aa o->h'.get? b=aa o:=λb o hb e=>(sb.2 b (by simpa using hb)).trans e;show hQ _ h' s.toks ?_ (a',?_) hl
  .rw[List.getElem?_reverse (by simpa using hi)];simp[hk]
  .have(o,e,c,n,d):=b;show(o,hl l o (by simpa using eM hne) e,c,n,d)
 done:=λs Q W8 st hQ=>by
  have(a,b):=st;show Hj (by lia) hh a λh' eb=>hQ h' s.toks λb o hb e=>eb b o (by simpa using hb) e
 self:=λi s Q W8 st h=>vc st.1 h
variable{c0:Nat}
def QI{S:Addr}(d:Value)(n:A.handled=ab)(j:it≠l)(g:S∉[it,l])(hr:fY s.heap it l ((L.size:Int)-1))(p:s.heap.IsList l L)(hn:L.size<=aS)
 (m:s.heap.get? S=aa {cls:=.type "list",dict:=ab,data:=.seq #[] c0,slots:=#[]})
 (kR:∀c c5 h,Moved (S::[it]) (λa b=>b=a) s c->c.heap.get? S=aa {cls:=.type "list",dict:=ab,data:=.seq c5 h,slots:=#[]}->ItemsOf (λi v=>L.toList.reverse[i]?=aa v) c5 L.size->R (.ok (.ret d)) c):
  wpAny (model P w) A.in1 (xl (.ref S) (.ref it) d) (λfin c=>match fin with |.done f=>R (.ok f) c |.again h=>h.quiet=ac/\gC (model P w) A h R c) (λe c=>R (.error e) c) s:=by
 have q:S≠it:=λz=>g (by rw[z];show az);show aj (wpAny_typeOf hr.ty ?_);have r:t7 (.ref S) (.ref it)=af:=by simp[t7,q]
 simp only[r];show aj (vc hr ?_);show aj (jE (QG hr ?_));show aE (mr F.plain_extend_loop _,codeAny_extend_loopS ((QH (show A.in1.handled=ab from n) j L).toS) hn S g d L.size 0 _ #[] c0 rfl (ce _) (by simpa using hr,p) m (ItemsOf.nil _) kR)
def QJ{Q:PRS}(E:A.handled=ab)(y:it≠l)(hr:fY s.heap it l ((L.size:Int)-1))(B:s.heap.IsList l L)(hn:L.size<=aS)
 (H:∀j c5 q,Moved [s.heap.objs.size,it] (λa b=>b=a) {s with heap:=s.heap.push {cls:=.type "list",data:=.seq #[]}} j->j.heap.get? s.heap.objs.size=aa {cls:=.type "list",dict:=ab,data:=.seq c5 q,slots:=#[]}->ItemsOf (λi v=>L.toList.reverse[i]?=aa v) c5 L.size->Q (.ref s.heap.objs.size) j):
  wpAny (model P w) A (call (.type "list") [.ref it]) Q W8 s:=by
 have f:it<s.heap.objs.size:=by have(o,e,_):=hr;show bz e
 have g:l<s.heap.objs.size:=by have(o,e,_):=B;show bz e
 have nf:s.heap.objs.size∉_:=λhm=>by
  rcases aX.mp hm with z |z
  .show absurd z (k6 f)
  .show absurd (bB.mp z) (k6 g)
 show callType_codes (Q₁:=λobj s1=>obj=.ref s.heap.objs.size/\s1={s with heap:=s.heap.push {cls:=.type "list",data:=.seq #[]}}) F.called_list (F.typeCall_list_1 _) F.entry_list_init (code_list_new _ (rfl,rfl)) λobj s1 J=>?_
 have(rfl,rfl):=J;have p:(s.heap.push {cls:=.type "list",data:=.seq #[]}).get? s.heap.objs.size=aa {cls:=.type "list",data:=.seq #[]}:=cL _ rfl;show((_,p,rfl),F.args_list_init_2 _ _,?_);apply aj;show aj (tZ p rfl (aE ?_));apply aj;show tX p rfl ?_;apply aj;apply wpAny_letGo;have h:∀b o,b≠s.heap.objs.size->s.heap.get? b=aa o->((s.heap.push {cls:=.type "list",data:=.seq #[]}).update s.heap.objs.size (hX (λ_=>(#[]:Array Value)))).get? b=aa o:=λb o u e=>(oH _ _ (eM u)).trans (bA _ e)
 have x:((s.heap.push {cls:=.type "list",data:=.seq #[]}).update s.heap.objs.size (hX (λ_=>(#[]:Array Value)))).IsList l L:=by
  have(o,e,c,n,d):=B;show(o,h l o (bU g) e,c,n,d)
 show QI .none E y nf (hr.stay λo e=>h it o (bU f) e) x hn (oI _ p rfl) λj c5 q m r G=>?_
 have I:Moved [s.heap.objs.size,it] (λa b=>b=a) {s with heap:=s.heap.push {cls:=.type "list",data:=.seq #[]}} {s with heap:=(s.heap.push {cls:=.type "list",data:=.seq #[]}).update s.heap.objs.size (hX (λ_=>(#[]:Array Value)))}:=
  (λb o u e=>(oH _ _ (eM (λz=>u (by rw[z];show az)))).trans e,rfl,rfl,rfl,aL _)
 show(rfl,H j c5 q (I.trans (λ_ _ _ C h2=>h2.trans C) m) r G)
def tRL(K:aQ)(te:TE):TE:=λE H Q=>te E H λx H1=>∃l C,x=.ref l/\SqL K H1 l C/\∀p,H1 p=ab->Q (.ref p) (upd H1 p (.lst C.reverse))
def QK(h:ItemsOf (λi v=>L.toList.reverse[i]?=aa v) c5 L.size):c5.toList=L.toList.reverse:=by
 have(c,hi):=h;show mf λi=>?_
 by_cases b:i<L.size
 .have a:i<c5.size:=by rw[c];show b
  rw[hi i c5[i] (by simp[a])];simp[a]
 .rw[ix (by simpa[c]using ot b),ix (by simpa using ot b)]
def QL(hc:X.calm=ac)(r:Gl X "list")(y:X.mg "list"=ab)(v:Gl X "reversed")(A:X.mg "reversed"=ab)(he:PE X e te)
 (Y:autoParam (aM [.Call (.Name "reversed" p2) [e] [] c3] X.env=(af,eval (.Call (.Name "reversed" p2) [e] [] c3) X.env,)::aM [] X.env) Zb)(h2:autoParam (aM [e] X.env=(af,eval e X.env,)::aM [] X.env) Zb)
 (B:autoParam ((cg pos (aM [] X.env)).any (·.1)=af) Zb)(a:autoParam ((cg c3 (aM [] X.env)).any (·.1)=af) Zb):
  PE X (.Call (.Name "list" p) [.Call (.Name "reversed" p2) [e] [] c3] [] pos) (tRL X.K te):=by
 intro U s E H Q I h;show iX (hZ I r y ml ?_);show j5 ?_ Y B;show i4 (iX (hZ I v A Hl ?_));show j5 ?_ h2 a;rw[h2];show i4 (thn (he U s E H _ I h) λu s1 q_=>?_);have(x,H1,f,r1,l,C,T,hq,q):=q_;subst T;subst r1;show aE ?_;have(L,M,pl,hz):=f.list hq;show Hm pl.isList λh' G J=>?_;show aE ?_
 have w:h'.IsList l L.toArray:=by
  have(o,e,c,n,d):=pl.isList;show(o,J _ _ e,c,n,d)
 have lt:l<s1.heap.objs.size:=by have(o,e,_):=pl.isList;show bz e
 have le:s1.heap.objs.size<h'.objs.size:=by have(o,e,_):=G;show bz e
 show QJ (f.ok.hd hc) (k6 lt) G w (by rw[size_toArray,<- M.length];show hz) λs' c5 N m j ia=>?_;have(hp',g',d',tk',os'):=s';have(m1,m2,m3,m4,m5):=m;subst m2;subst m3;subst m4;show(.ref h'.objs.size,_,f.laid (λb u g=>m1 b u (λhm=>?_) (bA _ (J b u g))) (eK le) ?_,rfl,q _ (f.hok.fresh (eK le)))
 .have i:=bz g
  rcases aX.mp hm with z |z
  .rw[z]at i;show gA _ (mj i le)
  .rw[bB.mp z]at i;show gA _ i
 .show(by rw[kZ];show hz,c5.toList,N,?_,by simpa using j);rw[(QK ia)]
  simpa using M.reverse
def pO(i:Nat)(M:LS):OLD:=match M[i]? with
 |some (.own C)=>aa C.reverse
 |some (.im (.lst C))=>aa C.reverse
 | _=>ab
variable{p3:Pos}
def QM(i:Nat)(y:X.calm=ac)(g:Gl X "list")(j:X.mg "list"=ab)(h:Gl X "reversed")(m:X.mg "reversed"=ab)
 (w:autoParam (X.N[i]?=aa x) Zb)(hv:autoParam (Vis X.env.scope x) Ze)(hd:autoParam (NDb x) Zc)(f:autoParam (NCd x) Zc)
 (u:autoParam (aM [.Call (.Name "reversed" p2) [.Name x p3] [] c3] X.env=(af,eval (.Call (.Name "reversed" p2) [.Name x p3] [] c3) X.env,)::aM [] X.env) Zb)(h2:autoParam (aM [.Name x p3] X.env=(af,eval (.Name x p3) X.env,)::aM [] X.env) Zb)
 (n:autoParam ((cg pos (aM [] X.env)).any (·.1)=af) Zb)(b:autoParam ((cg c3 (aM [] X.env)).any (·.1)=af) Zb):
  DO c X (.Call (.Name "list" p) [.Call (.Name "reversed" p2) [.Name x p3] [] c3] [] pos) (pO i):=PE.imp (QL y g j h m (lx w hv hd f) u h2 n b) λE H Q z=>by
 have(Hf0,H0,Hf,M,ds,st,d,k):=z;unfold pO at d;split at d
 .rename_i C es;cases d;have(l,e,A,B,vs,q,r):=st.ownAt rfl es;show(_,e,l,vs,rfl,SqL.of q,λp a=>k p _ Hf _ (Ext.tmp st.sub a) a (st.sub.free a) aY r.reverse)
 .rename_i C es;cases d;have(v,e,l,vs,rfl,q,r):=st.imm es;show(_,e,l,vs,rfl,SqL.of (st.sub _ _ q),λp a=>k p _ Hf _ (Ext.tmp st.sub a) a (st.sub.free a) aY r.reverse)
 .grind
def Ho:∀(n lo:Nat) (us:LVa),us.length=n->(∀j v,us[j]?=aa v->∃t,v=Value.int ((lo+j:Nat):Int) t)->aF (((List.range' lo n).map λ(i:Nat)=>(i:Int)).map V.int) us
 | 0,_,[],_,_=>.nil
 | 0,_,_::_,h,_=>by cases h
 | _+1,_,[],h,_=>by cases h
 |n+1,lo,u::us,h,k=>by
  show .cons (k 0 u rfl) (Ho n (lo+1) us (by simpa using h) λj v e=>?_);have:=k (j+1) v (by show e)
  rwa [show lo+(j+1)=lo+1+j by lia]at this
def tRR(ta:TA):TE:=λE H Q=>ta E H λvs H1=>∃j:Int,vs=[.int j]/\0<=j/\j<=1048576/\∀p,H1 p=ab->Q (.ref p) (upd H1 p (.lst (((bL j.toNat).map λ(i:Nat)=>(i:Int)).map V.int)))
def QN(G:X.calm=ac)(f:Gl X "list")(m:X.mg "list"=ab)(l:Gl X "range")(w:X.mg "range"=ab)(ha:PA X [a] ta)
 (C:autoParam (aM [.Call (.Name "range" p2) [a] [] c3] X.env=(af,eval (.Call (.Name "range" p2) [a] [] c3) X.env,)::aM [] X.env) Zb)(J:autoParam (aM [a] X.env=[(af,eval a X.env,)]) Zb)
 (x:autoParam ((cg pos (aM [] X.env)).any (·.1)=af) Zb):
  PE X (.Call (.Name "list" p) [.Call (.Name "range" p2) [a] [] c3] [] pos) (tRR ta):=by
 intro U s E H Q I h;show iX (hZ I f m ml ?_);show j5 ?_ C x;change wpAny _ _ (spliced ((af,eval (.Call (.Name "range" p2) [a] [] c3) X.env,)::cg pos (aM [] X.env))) _ _ s;show i4 (iX (hZ I l w boot_range ?_));show j5 (thn (ha c3 U s E H _ I h) λus s1 L=>?_) J rfl;have(vs,H1,c,M,j,e,Y,j1,q):=L;subst e
 cases M with
 |cons r N=>
  cases N;have(t,rfl):=r;show call_range_1 ?_;show aE ?_
  show call_list_range (n:=j.toNat) (c.ok.hd G) (IsRange.new ..) (small_one (by lia) (by lia) (by lia) (by lia)) (by rw[rangeSize_one];split <;> lia) (by lia) λh' T c5 z kp d y=>?_
  have le:s1.heap.objs.size<=(s1.heap.push {cls:=.type "range",data:=.fields #[.int 0 s1.toks,.int j t,.int 1 (s1.toks+1)]}).objs.size:=by
   simp[Heap.push]
  show(.ref _,_,c.laid (h':=h') (t':=T) (o:=.lst (((bL j.toNat).map λ(i:Nat)=>(i:Int)).map V.int)) (λb u g=>kp b u (bA _ g)) le ?_,rfl,q _ (c.hok.fresh le));show(by rw[aA,aA,cI];change _<=16777216;lia,c5.toList,z,?_,by show d);rw[range_eq_range'];show Ho j.toNat 0 c5.toList (by simpa using y.1) λi v B=>?_;have(t,A):=y.2 i v (by simpa using B);show(t,by rw[A];simp)
abbrev lrD:LD->OLD
 | [.int j]=>if 0<=j/\j<=1048576 then aa (((bL j.toNat).map λ(i:Nat)=>(i:Int)).map D.int) else ab
 | _=>ab
def nB(f:MF2)(M:LS):OLD:=(f M).bind lrD
def QO{n:Int}(h:f M=aa [.int n])(a:0<=n)(b:n<=1048576):nB f M=aa (((bL n.toNat).map λ(i:Nat)=>(i:Int)).map D.int):=by
 unfold nB;rw[h];change(if 0<=n/\n<=1048576 then _ else ab)=_;rw[if_pos (a,b)]
def QP(z:X.calm=ac)(e:Gl X "list")(m:X.mg "list"=ab)(g:Gl X "range")(n:X.mg "range"=ab)(ha:DA c X [a] f)
 (y:autoParam (aM [.Call (.Name "range" p2) [a] [] c3] X.env=(af,eval (.Call (.Name "range" p2) [a] [] c3) X.env,)::aM [] X.env) Zb)(A:autoParam (aM [a] X.env=[(af,eval a X.env,)]) Zb)
 (q:autoParam ((cg pos (aM [] X.env)).any (·.1)=af) Zb):
  DO c X (.Call (.Name "list" p) [.Call (.Name "range" p2) [a] [] c3] [] pos) (nB f):=PE.imp (QN z e m g n ha.pa y A q) λE H Q B=>by
 have(Hf0,H0,Hf,M,ds,st,b,k):=B;unfold nB at b
 cases d:f M with
 |none=>rw[d]at b;cases b
 |some as=>
  rw[d]at b;replace b:lrD as=aa ds:=b;show(Hf0,H0,Hf,M,as,st,d,λvs Hf' H' x r=>?_);unfold lrD at b;split at b
  .split at b
   .rename_i j u;cases b;have(v,w,C):=r.one;cases (show v=V.int j from C);show(j,w,u.1,u.2,λl i=>k l _ Hf' _ (x.trans (Ext.tmp x.s i)) (x.h.free i) (x.s.free i) aY (ak.ints _))
   .cases b
  .cases b
open Classical in
def dN(f:LS->Option (D×LS))(M:LS):Option Fl:=(f M).map λp=>.nx p.2
def zq{f:LS->Option (D×LS)}(g:DX c X e f)(h:autoParam (f9 e ab pos.line X.env=pure af) Zb):DS c X (.Expr e pos) (dN f):=PS.imp (kf g h) λW8 E H i=>by
 have(Hf0,H0,Hf,M,o,j,a,k):=i;unfold dN at a
 cases b:f M with
 |none=>rw[b]at a;nomatch a
 |some p=>
  rw[b]at a;cases a;show(Hf0,H0,Hf,M,p.1,p.2,j,b,λv Hf' H' s d r=>k E Hf' H' s d)
def ak.erase{G:Gc}{H:Hp}:∀{ds:LD} {vs:LVv} (k:Nat),ak G H ds vs->ak G H (ds.eraseIdx k) (vs.eraseIdx k)
 | [],_,_,h=>by cases (show _=[]from h);show .nil
 |d::ds,_,0,(v,r,e,_,h2)=>by subst e;show h2
 |d::ds,_,k+1,(v,r,e,h1,h2)=>by subst e;show(v,r.eraseIdx k,rfl,h1,ak.erase k h2)
def Fre(W7 Hf:Hp)(fp:LAd):Prop:=fp.Nodup/\∀a∈fp,W7 a=ab/\Hf a=ab
variable{W7:Hp}
def Fre.nil:Fre W7 Hf []:=⟨.nil,λ_ h=>nomatch h⟩
def Fre.one(h:W7 l=ab)(h':Hf l=ab):Fre W7 Hf [l]:=(b7.mpr (dA,fJ),λa ha=>by rw[bB.mp ha];show(h,h'))
def Fre.imp{b:Hp}(h:Fre W7 Hf fp)(k:∀a,W7 a=ab->b a=ab):Fre b Hf fp:=(h.1,λa ha=>(k a (h.2 a ha).1,(h.2 a ha).2))
def bsH(b:Bool)(H0 H:Hp):Hp:=bif b then H else H0
variable{a:Addr}
def QQ(s:aq H H')(h:bsH b H0 H' a=ab):bsH b H0 H a=ab:=by
 cases b with
 |true=>show s.free h
 |false=>show h
def vd(s:aq H0 H)(h:H a=ab):bsH b H0 H a=ab:=by
 cases b with
 |true=>show h
 |false=>show s.free h
inductive tDZ(G:Gc)(b:Bool)(f:LS->Option O)(E:St)(H:Hp)(Q:VK):Prop
 |mk:∀Hf0 H0 Hf M o,ar G Hf0 H0 Hf H E M->f M=aa o->(∀u fp Hf' H',Ext Hf H Hf' H'->OT G Hf' H' o u fp->Fre (bsH b H0 H) Hf' fp->Q u H')->tDZ G b f E H Q
def DZ(c:Str->Addr)(X:Cx)(b:Bool)(e:Expr)(f:LS->Option O):Prop:=PE X e (tDZ (Gx c X) b f)
inductive Hq(G:Gc)(b:Bool)(f:MF2)(g:LS->Option O)(E:St)(H:Hp)(Q:LVv->Hp->Prop):Prop
 |mk:∀Hf0 H0 Hf M ds o,ar G Hf0 H0 Hf H E M->f M=aa ds->g M=aa o->(∀vs u fp Hf' H',Ext Hf H Hf' H'->ak G Hf' ds vs->OT G Hf' H' o u fp->Fre (bsH b H0 H) Hf' fp->Q (vs++[u]) H')->Hq G b f g E H Q
structure DAZ(c:Str->Addr)(X:Cx)(b:Bool)(es:LEx)(f:MF2)(g:LS->Option O):Prop where
 pa:PA X es (Hq (Gx c X) b f g)
 len:∀M ds,f M=aa ds->ds.length+1=es.length
def jq(f:MF1)(M:LS):Option O:=(f M).map .fz
def ip(f:MF2)(M:LS):Option O:=(f M).map λds=>.lst (ds.map .fz)
def pP(i:Nat)(M:LS):Option O:=match M[i]? with
 |some (.im d)=>aa (.fz d)
 |some (.own C)=>aa (.lst (C.map .fz))
 |some (.deep o)=>aa o
 | _=>ab
def rS(f:MF2)(g:LS->Option O)(M:LS):Option O:=(f M).bind λds=>(g M).map λo=>.tup (ds.map .fz++[o])
def OTs.snoc{G:Gc}{Hf H:Hp}{o:O}{u:V}{fp:LAd}(h:OT G Hf H o u fp):∀{ds:LD} {vs:LVv},ak G Hf ds vs->OTs G Hf H (ds.map .fz++[o]) (vs++[u]) fp
 | [],_,r=>by cases (r);show(u,[],fp,[],rfl,h,(rfl,rfl),(bN _).symm)
 |d::ds,_,(v,r,e,h1,h2)=>by subst e;show(v,r++[u],[],fp,rfl,(h1,rfl),OTs.snoc h h2,rfl)
def Hr{f:MF1}(h:DE c X e f):DZ c X b e (jq f):=PE.imp h λE H Q i=>by
 have(Hf0,H0,Hf,M,t,st,a,k):=i;unfold jq at a
 cases g:f M with
 |none=>rw[g]at a;nomatch a
 |some d=>
  rw[g]at a;cases a;show(Hf0,H0,Hf,M,d,st,g,λv Hf' H' x r=>k v [] Hf' H' x (r,rfl) .nil)
def QR(h:DO c X e f):DZ c X b e (ip f):=PE.imp h λE H Q j=>by
 have(Hf0,H0,Hf,M,t,st,a,k):=j;unfold ip at a
 cases d:f M with
 |none=>rw[d]at a;nomatch a
 |some ds=>
  rw[d]at a;cases a;show(Hf0,H0,Hf,M,ds,st,d,λl vs Hf' H' x hn g i r=>k _ [l] Hf' H' x (l,vs,[],rfl,i,OTs.fz r,rfl) (.one (vd st.ext.h hn) g))
variable{i:Nat}
def QS(h:PE X e (cE i)):DZ c X af e (pP i):=PE.imp h λE H Q m=>by
 have(Hf0,H0,Hf,M,t,st,a,k):=m;unfold pP at a
 cases es:M[i]? with
 |none=>simp only[es]at a;nomatch a
 |some s=>
  rw[es]at a
  cases s with
  |im d=>
   cases a;have(v,b,r):=st.imm es
   show(_,b,k v [] Hf H (Ext.refl st.sub) (r,rfl) .nil)
  |own C=>
   cases a;have(l,b,g,j,vs,q,r):=st.ownAt rfl es
   show(_,b,k _ [l] Hf H (Ext.refl st.sub) (l,vs,[],rfl,q,OTs.fz r,rfl) (.one g j))
  |deep o=>
   cases a;have(v,b,u,fp,f,r,n,z):=st.slot es;subst f
   show(_,b,k u fp Hf H (Ext.refl st.sub) r (n,z))
  | _=>nomatch a
def QT(i:Nat)(b:autoParam (X.N[i]?=aa x) Zb)(hv:autoParam (Vis X.env.scope x) Ze)(hd:autoParam (NDb x) Zc)
 (a:autoParam (NCd x) Zc):DZ c X af (.Name x pos) (pP i):=QS (lx b hv hd a)
variable{g:LS->Option O}
def QU(h:DZ c X b e g)(f:autoParam (aM [e] X.env=[(af,eval e X.env,)]) Zb):DAZ c X b [e] nZ g:=
 (PA.imp (d3 h dR f) λE H Q i=>by
  have(Hf0,H0,Hf,M,ds,o,st,a,d,k):=i;cases a;show(Hf0,H0,Hf,M,o,st,d,λu fp Hf' H' x r z=>k [] u fp Hf' H' x rfl r z),λM ds h=>by cases h;rfl)
def QV{f:MF1}{fs:MF2}(h:DE c X e f)(hr:DAZ c X b es fs g)(q:autoParam (StE X e es) Zb):DAZ c X b (e::es) (ag f fs) g:=by
 show(PA.imp (d3 h hr.pa q) λE H Q w=>?_,λM ds h=>?_)
 .have(Hf0,H0,Hf,M,ds,o,st,n,p,k):=w;have(d,r,l,i,rfl):=oY n;show(Hf0,H0,Hf,M,d,st,l,λv b3 H1 j x=>(Hf0,H0,b3,M,r,o,st.step j,i,p,λvs u fp bm H2 m y A z=>k _ u fp bm H2 (j.trans m) (.cons (x.up m.f) y) A (z.imp λa ha=>QQ j.h ha)))
 .have(d,r,l,i,rfl):=oY h;simp[<- hr.len M r i]
def QW(h:DAZ c X b es f g)(hz:autoParam (es.length<=1000) Zl):DZ c X b (.Tuple es k' pos) (rS f g):=PE.imp (EW h.pa) λE H Q j=>by
 have(Hf0,H0,Hf,M,t,st,a,k):=j;unfold rS at a
 cases d:f M with
 |none=>rw[d]at a;nomatch a
 |some ds=>
  rw[d,ax]at a
  cases e:g M with
  |none=>rw[e]at a;nomatch a
  |some o=>
   rw[e]at a;cases a;show(Hf0,H0,Hf,M,ds,o,st,d,e,λvs u fp Hf' H' x r l z=>(?_,λp i=>(k _ fp Hf' _ (x.trans (Ext.tmp x.s i)) (p,_,rfl,aY,OTs.snoc (l.up (aq.refl _) (bO i)) r) z)));rw[aR,<- r.length,fH,h.len M ds d];show eK (yh hz)
section
variable{o:Expr}
def zB(f:LS->Option O)(M:LS):OD:=(f M).bind λo=>if o.kn then aa o.toD else ab
end
abbrev Hs:Fl->Option O
 |.rt d=>aa (.fz d)
 |.rtO ds=>aa (.lst (ds.map .fz))
 |.rtT o=>aa o
 | _=>ab
def rT(n:Nat)(F:MF3)(ds:LD):Option O:=(F (eU n ds)).bind Hs
def spT(G:Gc)(n:Nat)(m:LD->Option O):Sp:=λvs H Q _=>∃Hf ds o,aq Hf H/\ak G Hf ds vs/\ds.length=n/\m ds=aa o/\∀u fp Hf' H',Ext Hf H Hf' H'->OT G Hf' H' o u fp->Fre H Hf' fp->Q u H'
variable{K:aQ}
def QX{f:Addr}{k:Nat}{F:MF3}(p:Fun K x qual st f fd)(S:aB N ps (au st))
 (h:∀(cdv:Value) (A:b5) (outer:List Env) (s:ah) (H:Hp) (W8:XK),bu k (A.deeper (fK qual (au st) s.heap.objs.size f cdv))->DSs c (ij CX0 P w K mg base N qual (au st) f cdv A outer s H W8).nox (fw st) F)(g:autoParam (N.length=n_) Zb):
  cq P w K mg base CX0 (k+1) f fd ps (spT (K,c) ps.length (rT n_ F)):=by
 subst g;show p.ok S (λvs H Q W8 j=>by have(Hf,ds,d,m,r,a,_):=j;rw[<- r.length];show a) λcdv A outer s H vs Q W8 hr j=>?_;have(Hf,ds,t,m,r,a,e,i):=j;show(_,h cdv A outer s H W8 hr,?_);unfold rT at e
 cases b:F _ with
 |none=>rw[b]at e;nomatch e
 |some o=>
  rw[b]at e;show(Hf,H,Hf,_,o,ar.start m r,b,?_)
  cases o with
  |rt d=>cases e;show λv Hf' H' x r=>i v [] Hf' H' x (r,rfl) .nil
  |rtO B=>cases e;show λl vs Hf' H' x hn q a r=>i _ [l] Hf' H' x (l,vs,[],rfl,a,OTs.fz r,rfl) (.one hn q)
  |rtT o=>cases e;show λu fp Hf' H' x r n z=>i u fp Hf' H' x r (n,z)
  | _=>nomatch e
mutual
noncomputable def O.flat:O->Bool
 |.fz d=>d.flat
 |.lst os=>O.flats os
 |.tup os=>O.flats os
 |.dic _ os=>O.flats os
 |.ins _ _ os=>O.flats os
 |.dT _ os=>O.flats os
 |.at _ o=>o.flat
 |.jnk _=>ac
 |.any=>ac
noncomputable def O.flats:List O->Bool
 | []=>ac
 |o::os=>o.flat && O.flats os
end
def pQ(m:LD->Option O)(f:MF2)(M:LS):Option O:=(f M).bind m
variable{f:Addr}
def Ht{k:Nat}{m:LD->Option O}(pk:Pk X.prog X.w X.K X.mg X.base CX0 k x (f,fd,) ps (spT (Gx c X) ps.length m))(q:bu k0 X.A)(ha:DA c X (e::es) fa)(B:autoParam ((e::es).length=ps.length) Zb)(j:autoParam (NDb x) Zc)(v:autoParam (StE X e es) Zb)(n:autoParam (BkE X pos es) Zb)(l:autoParam (k<=k0) Zc)(y:autoParam (Gl X x) Zi):
  DZ c X b (.Call (.Name x p) (e::es) [] pos) (pQ m fa):=PE.imp (oQ pk.ok (q.mono l) y pk.g pk.kp pk.b .nil gg ha.pa j v n) λE H Q G=>by
 have(Hf0,H0,Hf,M,o,st,d,C):=G;unfold pQ at d
 cases i:fa M with
 |none=>rw[i]at d;nomatch d
 |some ds=>
  rw[i,ax]at d;show(Hf0,H0,Hf,M,ds,st,i,λvs Hf' H' x r=>?_);rw[bN];show(Hf',ds,o,x.s,r,(ha.len M ds i).trans B,d,λu fp bm H2 J I z=>C u fp bm H2 (x.trans J) I (z.imp λa h=>vd st.ext.h (x.h.free h)))
def nC(i:Nat)(f:LS->Option O)(M:LS):Option Fl:=(f M).map λo=>.nx (M.set i (.deep o))
variable{f:LS->Option O}
def QY(i:Nat)(j:X.N.Nodup)(l:DZ c X ac e f)(hi:autoParam (X.N[i]?=aa x) Zb)(q:autoParam (Loc X.env.scope x) Zf)(n:autoParam (f9 e (aa (.Name x b4)) pos.line X.env=pure af) Zb)(m:autoParam (LcF X x) Zg):
  DS c X (.Assign [.Name x b4] e pos) (nC i f):=PS.imp (oP j hi q l n m) λW8 E H v=>by
 have(Hf0,H0,Hf,M,o,g,b,k):=v;unfold nC at b
 cases d:f M with
 |none=>rw[d]at b;nomatch b
 |some t=>
  rw[d]at b;cases b;show(Hf0,H0,Hf,M,t,g,d,λu fp Hf' H' x r z=>k _ Hf' H' x.f (g.setNew x (u,fp,rfl,r,z.1,λa ha=>(g.ext.h.free (z.2 a ha).1,(z.2 a ha).2)) λa p=>?_));have(fp',w,ha):=p;have:=OT.funM t u fp fp' r w;subst this;show(z.2 a ha).1
def nE(f:LS->Option O)(M:LS):Option Fl:=(f M).map .rtT
def QZ(g:DZ c X af e f):DS c X (.Return (aa e) pos) (nE f):=PS.imp (qS g) λW8 E H h=>by
 have(Hf0,H0,Hf,M,o,d,a,k):=h;unfold nE at a
 cases b:f M with
 |none=>rw[b]at a;nomatch a
 |some t=>
  rw[b]at a;cases a;show(Hf0,H0,Hf,M,t,d,b,λu fp Hf' H' x r z=>k u fp Hf' H' (d.ext.trans x) r z.1 z.2)
def OTs.at:∀{G:Gc} {Hf H:Hp} {os:List O} {vs:LVv} {fp:LAd} {k:Nat} {o:O},OTs G Hf H os vs fp->os[k]?=aa o->∃v f,vs[k]?=aa v/\OT G Hf H o v f/\∀a∈f,a∈fp
 | _,_,_,[],_,_,_,_,_,e=>by simp at e
 | _,_,_,o::os,_,_,0,o',q8_,e'=>by
  have(v,r,f1,f2,e,d,h2,c):=q8_;cases e';subst e c
  show(v,f1,rfl,d,λa ha=>bZ _ ha)
 | _,_,_,o::os,_,_,k+1,o',q8_,e'=>by
  have(v,r,f1,f2,e,d,h2,c):=q8_;subst e c;have(g,f,a,b,m):=OTs.at h2 e';show(g,f,by rw[gZ];show a,b,λa ha=>cv _ (m a ha))
def Q0{o:O}{K:Fl->Prop}(h:f M=aa o)(k:K (.nx (M.set i (.deep o)))):wp (nC i f) M K:=(_,by unfold nC;rw[h];rfl,k)
def Q1{o:O}{K:Fl->Prop}(h:f M=aa o)(k:K (.rtT o)):wp (nE f) M K:=(_,by unfold nE;rw[h];rfl,k)
def Hu(Q:O->Prop)(o:Fl):Prop:=∃t,Hs o=aa t/\Q t
def Q2{F:MF3}{Q:O->Prop}(h:wp F (eU n ds) (Hu Q)):∃o,rT n F ds=aa o/\Q o:=by
 have(o,e,d,e',q):=h;show(d,?_,q);unfold rT;rw[e];show e'
def Q3{Q:O->Prop}{o:O}(h:Q o):Hu Q (.rtT o):=(o,rfl,h)
def OTs.length{G:Gc}{Hf H:Hp}:∀{os:List O} {vs:LVv} {fp:LAd},OTs G Hf H os vs fp->os.length=vs.length
 | [],_,_,h=>by rw[h.1];rfl
 |o::os,_,_,(v,r,f1,f2,e,h1,h2,ef)=>by subst e;simp[OTs.length h2]
def OTs.append{G:Gc}{Hf H:Hp}:∀{os ps:List O} {vs us:LVv} {f g:LAd},OTs G Hf H os vs f->OTs G Hf H ps us g->OTs G Hf H (os++ps) (vs++us) (f++g)
 | [],_,_,_,_,_,h,t=>by have(a,b):=h;subst a b;show t
 |o::os,_,_,_,_,_,(v,r,f1,f2,e,h1,h2,ef),t=>by subst e ef;show(v,r++_,f1,f2++_,rfl,h1,OTs.append h2 t,cJ _ _ _)
def OTs.one{o:O}{f:LAd}(h:OT G Hf H o v f):OTs G Hf H [o] [v] f:=(v,[],f,[],rfl,h,(rfl,rfl),(bN _).symm)
def O.appd(o:O)(d:D):Option O:=match o with
 |.lst C=>if C.length<16777216 then aa (.lst (C++[.fz d])) else ab
 |.jnk n=>if n<16777216 then aa (.jnk (n+1)) else ab
 | _=>ab
def Hv{o o':O}{fk:LAd}(h:o.appd d=aa o')(r:OT G Hf H o v fk):∃l us,v=.ref l/\H l=aa (.lst us)/\us.length<16777216/\l∈fk /\
  ∀Hf' H' w,fk.Nodup->aq Hf Hf'->(∀b u,b≠l->H b=aa u->H' b=aa u)->H' l=aa (.lst (us++[w]))->Rep G Hf' d w->OT G Hf' H' o' v fk:=by
 cases o with
 |lst C=>
  replace h:(if C.length<16777216 then aa _ else ab)=aa o':=h;split at h
  .rename_i j;cases h;have(l,us,fs,e,q,B,c):=r;subst e c;show(l,us,rfl,q,by rw[<- B.length];show j,az,λHf' H' w n f m i a=>?_)
   have o1:=OTs.frameM f C us fs B λb u g hm=>m b u (λz=>by
    subst z;rw[q]at g;cases g
    rcases hm with hm |hm
    .nomatch hm
    .show(b7.mp n).1 hm) g
   have o2:=o1.append (.one (o:=.fz d) (a,rfl));rw[bN]at o2;show(l,us++[w],fs,rfl,i,o2,rfl)
  .nomatch h
 |jnk n=>
  replace h:(if n<16777216 then aa _ else ab)=aa o':=h;split at h
  .rename_i j;cases h;have(l,us,e,q,z,c):=r;subst e c;show(l,us,rfl,q,by lia,az,λHf' H' w _ f m i a=>(l,us++[w],rfl,i,by rw[aR,fH];lia,rfl))
  .nomatch h
 | _=>nomatch h
def Hw(G:Gc)(Hf H:Hp)(E:St)(M:LS)(a:Addr):Prop:=∀(k:Nat) (t:Sl) (w:V),M[k]?=aa t->E[k]?=aa (aa w)->Holds G Hf H t w a->False
def gO(H0 H:Hp)(S:LAd):Hp:=λa=>if a∈S then H a else match H a with
 |some (.tup vs)=>aa (.tup vs)
 | _=>H0 a
def Q4{S:LAd}(h:a∈S):gO H0 H S a=H a:=by unfold gO;rw[if_pos h]
def Q5{S:LAd}(h:H a=aa (.tup vs)):gO H0 H S a=aa (.tup vs):=by
 unfold gO;split
 .show h
 .rw[h]
def Q6{S:LAd}(h:a∉S)(h':∀vs,H a≠aa (.tup vs)):gO H0 H S a=H0 a:=by
 unfold gO
 grind
def Q7(s:aq H0 H)(S:LAd):aq (gO H0 H S) H:=λa o e=>by
 unfold gO at e;split at e
 .show e
 .split at e
  .rename_i vs h;rw[h];show e
  .show s a o e
def Q8(s:aq H0 H)(S:LAd):aq H0 (gO H0 H S):=λa o e=>by
 have e':=s a o e;unfold gO
 grind
abbrev O.isFz:O->Bool
 |.fz _=>ac
 | _=>af
def Hx(ks:LN)(a b:LS):Prop:=a.length=b.length/\∀m,m∉ks->a[m]?=b[m]?
def Hx.refl(ks:LN)(a:LS):Hx ks a a:=(rfl,λ_ _=>rfl)
def gP(H:Hp)(fp:LAd):Hp:=λa=>if a∈fp then ab else H a
def zt(h:a∈fp):gP H fp a=ab:=by unfold gP;rw[if_pos h]
def ve(h:a∉fp):gP H fp a=H a:=by unfold gP;rw[if_neg h]
def Q9:aq (gP H fp) H:=λa o e=>by
 by_cases h:a∈fp
 .rw[zt h]at e;nomatch e
 .rw[ve h]at e;show e
def Hy{F H:Hp}(s:aq F H)(h:∀a∈fp,F a=ab):aq F (gP H fp):=λa o e=>by
 rw[ve (λz=>by rw[h a z]at e;nomatch e)];show s a o e
variable{kvs:List (Key×V)}
def Inv.freeze(I:Inv X U E H s)(e:H l=aa (.dK kvs)):∃od,Inv X U E (upd H l (.frz od (.dK kvs))) s:=by
 have(z,ns,vs,f,od,es,ep,g,r):=Fk I.hok e;show(od,?_)
 have d:∀b u,H b=aa u->(∀w,u≠.dK w)->upd H l (.frz od (.dK kvs)) b=aa u:=λb u a i=>by
  rw[aK (λq=>by subst q;rw[e]at a;cases a;show i _ rfl)];show a
 have:=I.step (t':=s.toks) (d':=s.drawn) (ch:=[]) (λb a=>nomatch a) (λb o _ _ _ e _=>e) (λb o _ _ _ e _=>(o.slots,e)) (λb o _ _ n=>by rw[aK (λq=>by subst q;rw[e]at n;nomatch n)];show n)
  (λb o _ e=>(o,e)) (λb C a=>d b _ a (λw q=>by nomatch q)) (λb o u a=>d b _ a (λw q=>by nomatch q)) (λb ps a=>(#[],by rw[d b _ a (λw q=>by nomatch q)];simp)) (λm hm=>hm) (λb u a=>?_) I.bare
 .show this
 .by_cases q:b=l
  .subst q;rw[aY]at a;cases a;show(g,z,ns,vs,f,od,es,ep,g,r)
  .rw[aK q]at a;show(I.hok b u a).stay (λc v _ h=>h) (λc h=>d c _ h (λw q=>by nomatch q)) (λc C h=>d c _ h (λw q=>by nomatch q))
def Itk(od:Obj)(d:Addr):It:=
  (λi H=> ∃kvs k v, H d = aa (.frz od (.dK kvs))/\kvs[i]? = aa (k, v,),
   λi H x H'=> H' = H/\∀kvs, H d = aa (.frz od (.dK kvs))->∃k v, kvs[i]? = aa (k, v,)/\x = kV k,
   λi H=> ∃kvs, H d = aa (.frz od (.dK kvs))/\kvs.length<=i)
def KV.get:∀{C:List (Key×V)} {us:List (Key×Value)} {i:Nat} {x:Key×V},KV C us->C[i]?=aa x->∃u,us[i]?=aa u/\x.1=u.1/\aC x.2 u.2
 | _,_,_,_,.nil,e=>by simp at e
 | _,_,0,_,.cons r _,e=>by simp at e;subst e;show(_,rfl,r)
 | _,_,i+1,x,.cons _ t,e=>by
  have(u,a,h2):=KV.get t (by simpa using e);show(u,by simpa using a,h2)
def Ra{k:Key}{v:Value}(h:lu k v=ac):aC (kV k) v:=by
 rcases i9 h with⟨i,t,rfl,rfl⟩ |⟨x,t,rfl,rfl⟩
 .show(t,rfl)
 .show(t,rfl)
def Rb{od:Obj}{es:Array DictEntry}(hd:od.data=.dict es ep)(d it:Addr):kg P w K tg (Itk od d) [it] it (λi h=>h.IsKeyIter it d i es.size ep) where
 mem:=by simp
 obj:=λi h st b hb=>by
  have e:b=it:=by simpa using hb
  subst e;have(o,e,c,d):=st;show⟨o,e,λv z=>by rw[d]at z;nomatch z⟩
 keep:=λi h h' st k=>st.at λo e=>k it (by simp) o e
 item:=by
  intro X hP hw hK hc i U s E H W8 I hf st hg;subst hP hw hK;have(kvs,k,v,hH,hx):=hg;have(ho,z,ns,vs,rel,od',es',ep',ho',ex,hd',kk,pp,nd):=I.hok d _ hH;rw[ho]at ho';cases ho';rw[hd]at hd';cases hd';have hm:s.heap.DictAt _ d vs ep:=(od,es,ho,ex,hd,kk,pp,nd);have hl:es.size=vs.length:=by rw[<- pp.length];simp
  have((k',v'),hv,ek,rv):=KV.get rel hx;subst ek;have(f0,f1,f2,f3,f4,f5):=hf it (by simp);rw[hl]at st;show wpAny_pyNext_dict_item st hm hv λkey h' hkey eF sb=>?_;show(key,rfl,letGo_keyiter eF (kV k,H,(I.turned (λb o hb e=>(sb.2 b hb).trans e) f0 f1 f3 f4 f5),Ra hkey,(rfl,λkvs2 h2=>?_),by rw[hl];show eF,λb hb=>(hf b hb).1));rw[hH]at h2;cases h2;show(k,v,hx,rfl)
 done:=by
  intro X hP hw hK hc i U s E H W8 I hf st hg;subst hP hw hK;have(kvs,hH,hx):=hg;have(ho,z,ns,vs,rel,od',es',ep',ho',ex,hd',kk,pp,nd):=I.hok d _ hH;rw[ho]at ho';cases ho';rw[hd]at hd';cases hd';have hm:s.heap.DictAt _ d vs ep:=(od,es,ho,ex,hd,kk,pp,nd);have hl:es.size=vs.length:=by rw[<- pp.length];simp
  have hv:=oK rel;have(f0,f1,f2,f3,f4,f5):=hf it (by simp);rw[hl]at st;show wpAny_pyNext_dict_end (I.ok.hd hc) st hm (ix (by lia)) λh' eb=>(rfl,I.turned (λb o hb e=>eb b o hb e) f0 f1 f3 f4 f5)
 self:=λ_ _ _ _ _ st h=>wpAny_pyIter_keyiter st h
def Rc(te:TE):TI:=λE H R=>te E H λx H1=>∃d od kvs,x=.ref d/\H1 d=aa (.frz od (.dK kvs))/\R (Itk od d) H1
def Re(m:PE X e te):PI X tg e (Rc te):=by
 intro U s E H R I h;show thn (m U s E H _ I h) λv s1 u=>?_;have(x,H1,f,w,r):=u;have(d,od,kvs,ex,j,q):=r;subst ex;subst w;have(i,z,ns,vs,y,p,es,ep,c,g,a,kk,pp,nd):=f.hok d _ j;rw[i]at c;cases c;have hm:s1.heap.DictAt _ d vs ep:=(od,es,i,g,a,kk,pp,nd);have n:es.size=vs.length:=by rw[<- pp.length];simp
 show wpAny_pyIter_dict ns hm ?_;show(s1.heap.objs.size,_,_,_,H1,rfl,f.kept λb o e=>bA _ e,Rb a d _,(_,cL _ rfl,rfl,by rw[n];rfl),λb l=>?_,q);have e:b=s1.heap.objs.size:=by simpa using l
 subst e;show f.fpOk (aL _) (f.hok.fresh (aL _))
abbrev kD:Key->D
 |.inl i=>.int i
 |.inr x=>.str x
def Rf(k:Key):Rep G H (kD k) (kV k):=by cases k <;> rfl
abbrev Rg:D->OLD
 |.kd ks _=>aa (ks.map kD)
 | _=>ab
def rV(f:MF1)(M:LS):OLD:=(f M).bind Rg
def Hz{a c:Type}:∀{ks:List a} {vs:List c} {i:Nat} {k:a},ks.length=vs.length->ks[i]?=aa k->∃v,(ks.zip vs)[i]?=aa (k,v,)
 | [],_,_,_,_,e=>by simp at e
 | _::_,[],_,_,h,_=>by cases h
 |k::ks,v::vs,0,_,_,e=>by simp at e;subst e;show(v,rfl)
 |k::ks,v::vs,i+1,_,h,e=>by
  have(u,b):=Hz (by simpa using h) (by simpa using e);show(u,by simpa using b)
variable{f:MF1}
def Rh(I:DE c X e f):DI c X tg e (rV f):=PI.imp (Re I) λE H R L=>by
 have(Hf0,H0,Hf,M,ds,st,b,k):=L;unfold rV at b
 cases h:f M with
 |none=>rw[h]at b;nomatch b
 |some d=>
  rw[h,ax]at b
  cases d with
  |kd ks C=>
   cases b;show(Hf0,H0,Hf,M,_,st,h,λv Hf' H' x r=>?_);have(a,od,vs,A,q,z,B):=r;show(a,od,_,A,x.s _ _ q,k _ Hf' H' x λbm H2 f2 s2 i=>?_);have l:=(f2.trans s2) _ _ q;show(λd g=>?_,λw=>(_,l,by rw[om,<- z];rw[aA]at w;lia));rw[cB]at g
   cases j:ks[i]? with
   |none=>rw[j]at g;nomatch g
   |some n=>
    rw[j]at g;cases g;have(u,m):=Hz z j;show((_,n,u,l,m),λy N (p,J)=>?_);subst p;have(Q,T,h2,G):=J _ l;rw[m]at h2;cases h2;subst G
    show(bm,Ext.refl s2,Rf n)
  | _=>nomatch b
def gQ(ks:List Key)(C:LD)(k:Key):OD:=((ks.zip C).find? λa=>decide (a.1=k)).map (·.2)
def vf{G:Gc}{H:Hp}{k:Key}:∀{ks:List Key} {C:LD} {vs:LVv},ks.length=vs.length->ak G H C vs->(∀d,gQ ks C k=aa d->∃v,cN (ks.zip vs) k=aa v/\Rep G H d v)/\(gQ ks C k=ab->cN (ks.zip vs) k=ab)
 | [],_,_,_,_=>(λd h=>(by cases h),λ_=>rfl)
 | _::_,_,[],h,_=>by cases h
 |j::ks,[],v::vs,_,r=>by cases (r)
 |j::ks,x::C,v::vs,h,q4_=>by
  have(u,f,e,c,h2):=q4_
  injection e with e1 e2
  subst e1 e2;have(a,b):=vf (by simpa using h) h2;unfold gQ;simp only[e9,e9]
  by_cases q:j=k
  .subst q;show(λd hd=>(v,q9 rfl,?_),λhd=>?_)
   .rw[find?_cons_of_pos (by simp)]at hd;cases hd;show c
   .rw[find?_cons_of_pos (by simp)]at hd;cases hd
  .rw[find?_cons_of_neg (by simpa using q),oR q];show(a,b)
abbrev vg:D->Option (List Key×LD)
 |.dic ks C=>aa (ks,C,)
 |.kd ks C=>aa (ks,C,)
 | _=>ab
variable{a:Expr}
def HA{p:List Key×LD}(e:vg d=aa p)(r:Rep G H d v):∃a vs,v=.ref a/\Rd H a (.dK (p.1.zip vs))/\p.1.length=vs.length/\ak G H p.2 vs:=by
 cases d with
 |dic ks C=>cases e;have(a,vs,b,q,z,r):=r;show(a,vs,b,.inl q,z,r)
 |kd ks C=>cases e;have(a,od,vs,b,q,z,r):=r;show(a,vs,b,.inr (od,q),z,r)
 | _=>nomatch e
variable{u:HO}
def Rd.up{a:Addr}(h:Rd H a u)(s:aq H H'):Rd H' a u:=h.imp (s _ _) λb=>by
 have(o,e):=b;show((o,s _ _ e))
def rW(x y:D):OD:=(vg x).bind λp=>(jl y).bind λk=>gQ p.1 p.2 k
variable{b:Expr}
def Ri(hu:X.A.units+64<cLine){g:MF1}(ha:DE c X a f)(J:DE c X b g)(L:autoParam (rb b) Zj):DE c X (.Subscript a b pos) (m2 rW f g):=
 PE.imp (yn (by lia) ha J L) λE H Q U=>by
  have(Hf0,H0,Hf,M,d,st,G,k):=U;have(x,y,B,C,e):=mO G;show(Hf0,H0,Hf,M,x,st,B,λv b3 H1 n Y=>(Hf0,H0,b3,M,y,st.step n,C,λu bm H2 m r2=>?_));unfold rW at e
  cases h:vg x with
  |none=>rw[h]at e;nomatch e
  |some p=>
   rw[h,ax]at e
   cases i:jl y with
   |none=>rw[i]at e;nomatch e
   |some T=>
    rw[i,ax]at e;have(l,vs,el,q,z,r):=HA h (Y.up m.f);have I:=rK i r2;subst I el;have(w,N,j):=(vf z r).1 d e;show(l,w,rfl,.inl (_,T,q.up m.s,rfl,N.symm),k _ bm H2 (n.trans m) j)
def pR(i:Nat)(fk a:MF1)(M:LS):OD:=match M[i]? with
 |some (.ownd ks C)=>(fk M).bind λy=>(jl y).bind λk=>(a M).map λx=>(gQ ks C k).getD x
 | _=>ab
variable{cpos:Pos}
def Rj{o:Expr}(hu:X.A.units+64<cLine){B:MF1}(U:PE X o (cE i))(T:DE c X a fk)(hx:DE c X b B)(m:M2 X o "get" apos a b cpos):DE c X (.Call (.Attribute o "get" apos) [a,b] [] cpos) (pR i fk B):=
 PE.imp (yo (by lia) U T hx m) λE H Q q_=>by
  have(Hf0,H0,Hf,M,d,st,e,k):=q_;unfold pR at e;split at e
  .rename_i ks C es
   cases j:fk M with
   |none=>rw[j]at e;nomatch e
   |some y=>
    rw[j,ax]at e
    cases p:jl y with
    |none=>rw[p]at e;nomatch e
    |some J=>
     rw[p,ax]at e
     cases n:B M with
     |none=>rw[n]at e;nomatch e
     |some x=>
      rw[n]at e;cases e;have(l,el,h0,hf,vs,q,z,r):=st.ownAt rfl es;show(_,el,l,rfl,.inl (_,.inl q),Hf0,H0,Hf,M,y,st,j,λv b3 H1 g r1=>(Hf0,H0,b3,M,x,st.step g,n,λu bm H2 I r2=>?_));have L:=rK p r1;subst L;show(cN _ J,fQ.k ((g.trans I).h _ _ q),k _ bm H2 (g.trans I) ?_);have(N,h2):=vf z (r.up (g.trans I).f)
      cases hv:gQ ks C J with
      |none=>rw[h2 hv];show r2
      |some d=>
       have(w,Y,G):=N d hv;rw[Y];show G
  .nomatch e
def pS(i:Nat)(F:MF3)(M:LS):Option Fl:=match M[i]? with
 |some (.ownd ks C)=>F (M.set i (.im (.kd ks C)))
 | _=>F M
def Rk{F:MF3}{W8:ja}(I:Inv X U E H s)(h:tDS (Gx c X) (pS i F) W8 E H):∃H',Inv X U E H' s/\tDS (Gx c X) F W8 E H':=by
 have(Hf0,H0,Hf,M,o,Q,T,k):=h;unfold pS at T;split at T
 .rename_i ks C es;have(l,A,h0,G,vs,q,z,r):=Q.ownAt rfl es;have(od,I'):=I.freeze q;show(_,I',Hf0,H0,upd Hf l (.frz od (.dK (ks.zip vs))),M.set i _,o,?_,T,k.up (bO G))
  have s1 : ar _ Hf0 H0 Hf (upd H l (.frz od (.dK (ks.zip vs)))) E (M.set i .no):=Q.chg es A (λb u Y=>by
   by_cases g:b=l
   .subst g;show .inl ((Holds.own rfl).mpr rfl)
   .show .inr (by rw[aK g];show Y)) trivial λa p=>(p.calm rfl).elim
  have s2:ar (Gx c X) Hf0 H0 (upd Hf l (.frz od (.dK (ks.zip vs)))) (upd H l (.frz od (.dK (ks.zip vs)))) E (M.set i .no):=by
   have fr:Hw (Gx c X) Hf H E (M.set i .no) l:=λm t w b x p=>by
    rcases cU b with⟨_,e',_⟩ |⟨ne,b⟩
    .subst e';show p.calm rfl
    .show ne (Q.dj m i t _ w _ l b es x A p ((Holds.own rfl).mpr rfl))
   have L:Hw (Gx c X) Hf (upd H l (.frz od (.dK (ks.zip vs)))) E _ l:=λm t w b x p=>by
    cases B:t.isOwn with
    |true=>
     show fr m t w b x ((Holds.own B).mpr ((Holds.own B).mp p))
    |false=>
     cases t with
     |deep o'=>
      have(fp,rr,ha):=p
      have (u,fp',eu,r2,_):=Q.at' m _ _ x (by
       rcases cU b with⟨_,e',_⟩ |⟨ne,b⟩
       .nomatch e'
       .show b)
      cases eu
      have r3:OT _ Hf (upd H l (.frz od (.dK (ks.zip vs)))) o' w fp':=r2.frame (aq.refl _) λb' u' g j=>by
       rw[aK (λJ=>?_)]
       .show g
       .subst J
        rcases j with j |j
        .rw[q]at g;cases g;nomatch j
        .show fr m _ w b x (fp',r2,j)
      have:=OT.funM o' w _ _ r3 rr;subst this
      show fr m _ w b x (fp',r2,ha)
     | _=>first |show tH p.1 |nomatch B
   show s1.re (s1.ext.f.trans (bO G),s1.ext.h,λb u e=>?_,λb u e t=>?_) rfl (λm v t a b=>?_) λm t v a b x p=>(t,b,(s1.at' m _ t x b).back (λo' fp _ r=>r.up (bO G) (aq.refl _)) p)
   .by_cases Y:b=l
    .subst Y;rw[aY]at e ⊢;show e
    .rw[aK Y]at e;show s1.ext.s b u e
   .rw[aK (λz=>by subst z;rw[h0]at e;nomatch e)];show s1.ext.n b u e t
   .have J:=s1.at' m v t a b
    cases B:t.isOwn with
    |true=>
     have(l2,e2,e3,e4,q2):=J.own B;subst e2;show .ofOwn B (l2,rfl,e3,?_,q2.up (bO G) λo' ho'=>ho');rw[aK (λz=>by subst z;show L m t _ b a ((Holds.own B).mpr rfl))]
     show e4
    |false=>
     cases t with
     |no=>trivial
     |im d=>have(u',A,r):=J;show(u',A,r.up (bO G))
     |val u'=>show J
     |deep o'=>
      have(w,fp,A,r,n,zz):=J;subst A;show(w,fp,rfl,r.up (bO G) (aq.refl _),n,λy hy=>((zz y hy).1,?_));rw[aK (λz=>by subst z;show L m _ w b a (fp,r,hy))]
      show(zz y hy).2
     | _=>nomatch B
  have N:=s2.setIm (i:=i) (d:=.kd ks C) (l,od,vs,rfl,aY,z,r.up (bO G))
  have e3:E.set i (aa (.ref l))=E:=by
   apply mf;intro jj
   by_cases hj:i=jj
   .subst hj;rw[jX (cX.mp A).1,A]
   .rw[kX hj]
  rw[e3,set_set]at N;show N
 .show(H,I,Hf0,H0,Hf,M,o,Q,T,k)
def Rl{F:MF3}(i:Nat)(h:DS c X st F):DS c X st (pS i F):=λU s E H W8 I q=>by
 have(H',a,b):=Rk I q;show h U s E H' W8 a b
def OTs.reps{G:Gc}{Hf H:Hp}:∀{os:List O} {vs:LVv} {f:LAd},os.all O.isFz=ac->OTs G Hf H os vs f->ak G Hf (O.toDs os) vs
 | [],_,_,_,h=>by rw[O.toDs];show h.1
 |o::os,_,_,hz,q4_=>by
  have(v,r,f1,f2,e,a,h2,b):=q4_;rw[k5,ca]at hz;rw[O.toDs]
  cases o with
  |fz d=>rw[O.toD];show(v,r,e,a.1,OTs.reps hz.2 h2)
  | _=>cases hz.1
nonrec def Xe:=LS->Option (D×LS)
nonrec def Xa:=LS->Option (LD×LS)
nonrec def Xt:=LS->Option (Bool×LS)
def mX(f:MF1):Xe:=λM=>(f M).map λd=>(d,M,)
def cu:Xa:=λM=>aa ([],M,)
def bH(f:Xe)(g:Xa):Xa:=λM=>(f M).bind λp=>(g p.2).map λq=>(p.1::q.1,q.2,)
def Rm(h:mX f M=aa (d,ρ',)):f M=aa d/\ρ'=M:=by
 unfold mX at h
 cases e:f M with
 |none=>rw[e]at h;nomatch h
 |some d'=>rw[e]at h;cases h;show(rfl,rfl)
def HB{f:Xe}{g:Xa}(h:bH f g M=aa (ds,ρ',)):∃d r ρ1,f M=aa (d,ρ1,)/\g ρ1=aa (r,ρ',)/\ds=d::r:=by
 unfold bH at h
 cases b:f M with
 |none=>rw[b]at h;nomatch h
 |some p=>
  rw[b,ax]at h
  cases a:g p.2 with
  |none=>rw[a]at h;nomatch h
  |some q=>rw[a]at h;cases h;show(p.1,q.1,p.2,rfl,a,rfl)
inductive pT(G:Gc)(f:Xa)(E:St)(H:Hp)(Q:LVv->Hp->Prop):Prop
 |mk:∀Hf0 H0 Hf M ds ρ',ar G Hf0 H0 Hf H E M->f M=aa (ds,ρ',)->(∀vs Hf' H',aq Hf Hf'->ar G Hf0 H0 Hf' H' E ρ'->ak G Hf' ds vs->Q vs H')->pT G f E H Q
structure DAX(c:Str->Addr)(X:Cx)(es:LEx)(f:Xa):Prop where
 pa:PA X es (pT (Gx c X) f)
 len:∀M ds ρ',f M=aa (ds,ρ',)->ds.length=es.length
def DE.dx(h:DE c X e f):DX c X e (mX f):=PE.imp h λE H Q g=>by
 have(Hf0,H0,Hf,M,d,ρ',st,b,k):=g;have(a,rfl):=Rm b;show(Hf0,H0,Hf,_,d,st,a,λv Hf' H' x r=>k v Hf' H' x.f (st.step x) r)
def Rn:DAX c X [] cu:=(PA.imp dR λE H Q b=>by have(Hf0,H0,Hf,M,ds,ρ',st,a,k):=b;cases a;show k [] Hf H (aq.refl _) st rfl,λM ds ρ' h=>by cases h;rfl)
variable{f:Xe}
def HC{g:Xa}(ha:DX c X e f)(hr:DAX c X es g)(l:autoParam (StE X e es) Zb):DAX c X (e::es) (bH f g):=by
 show(PA.imp (d3 ha hr.pa l) λE H Q m=>?_,λM ds ρ' h=>?_)
 .have(Hf0,H0,Hf,M,ds,ρ',st,j,k):=m;have(d,r,ρ1,i,a,rfl):=HB j;show(Hf0,H0,Hf,M,d,ρ1,st,i,λv b3 H1 f1 st1 n=>(Hf0,H0,b3,ρ1,r,ρ',st1,a,λvs bm H2 f2 b p=>k _ bm H2 (f1.trans f2) b (.cons (n.up f2) p)))
 .have(d,r,ρ1,i,a,rfl):=HB h;simp[hr.len ρ1 r ρ' a]
def fZ(i:Nat)(f:Xe)(M:LS):Option Fl:=(f M).map λp=>.nx (p.2.set i (.im p.1))
abbrev zu:D->D->OD
 |.int i,.int j=>aa (.int (i+j))
 |.str a,.str b=>if a.length+b.length<=16777216 then aa (.str (a++b)) else ab
 | _,_=>ab
def lS(i:Nat)(f:Xe)(M:LS):Option Fl:=match M[i]? with
 |some (.im x)=>(f M).bind λp=>(zu x p.1).map λz=>.nx (p.2.set i (.im z))
 | _=>ab
def vh(i:Nat)(g:X.N.Nodup)(h:DX c X e f)(hi:autoParam (X.N[i]?=aa x) Zb)(m:autoParam (Loc X.env.scope x) Zf)(l:autoParam (f9 e (aa (.Name x b4)) pos.line X.env=pure af) Zb)(j:autoParam (LcF X x) Zg):
  DS c X (.Assign [.Name x b4] e pos) (fZ i f):=PS.imp (oP g hi m h l j) λW8 E H n=>by
 have(Hf0,H0,Hf,M,o,q,a,k):=n;unfold fZ at a
 cases b:f M with
 |none=>rw[b]at a;nomatch a
 |some p=>
  rw[b]at a;cases a;show(Hf0,H0,Hf,M,p.1,p.2,q,b,λv Hf' H' s d r=>k _ Hf' H' s (d.setIm r))
def Ro:PIp X .Add (rD (Gx c X) zu):=λU s E H x y v u Q I l m q=>by
 have(Hf,dx,f,d,n,g,h,e,k):=q
 show (by
 cases dx with
 |int i=>
  cases f with
  |int j=>
   subst g;subst h;cases e
   show LO U s E H _ _ v u Q I l m (_,_,rfl,rfl,k _ Hf H (Ext.refl n) rfl)
  | _=>nomatch e
 |str a=>
  cases f with
  |str b=>
   subst g;subst h;replace e:(if _ then aa _ else ab)=aa d:=e;split at e
   .rename_i p;cases e;show Mw U s E H _ _ v u Q I l m (_,_,rfl,rfl,by rw[di];show p,k _ Hf H (Ext.refl n) rfl)
   .grind
  | _=>nomatch e
 | _=>nomatch e)
def HD(i:Nat)(A:X.N.Nodup)(B:DX c X e f)(hi:autoParam (X.N[i]?=aa x) Zb)(G:autoParam (Loc X.env.scope x) Zf)(C:autoParam (LcF X x) Zg):
  DS c X (.AugAssign (.Name x b4) .Add e pos) (lS i f):=PS.imp (EF A hi G B (Ro) C) λW8 E H I=>by
 have(Hf0,H0,Hf,M,o,l,a,k):=I;unfold lS at a;split at a
 .rename_i d es
  cases g:f M with
  |none=>rw[g]at a;nomatch a
  |some p=>
   rw[g,ax]at a
   cases h:zu d p.1 with
   |none=>rw[h]at a;nomatch a
   |some z=>
    rw[h]at a;cases a;have(v,n,w,q,j):=l.slot es;subst q;show(_,n,Hf0,H0,Hf,M,p.1,p.2,l,g,λu Hf' H' s b r=>(Hf',d,p.1,z,b.sub,j.up s,r,h,λy bm H2 m J=>k _ bm H2 (s.trans m.f) ((b.step m).setIm J)))
 .nomatch a
def isE(x d:D):Bool:=deq 19 d x==aa ac
def gR(y x:D):OD:=match y with
 |.lst ds=>if du x ds=aa ac then aa (.int ((ds.findIdx (isE x):Nat):Int)) else ab
 | _=>ab
def zw{x:D}:∀{ds:LD} {b:Bool},du x ds=aa b->(∀d∈ds,∃f,deq 19 d x=aa f)/\ds.any (isE x)=b
 | [],_,h=>by cases h;show(λd hd=>(dA hd).elim,rfl)
 |d::ds,b,h=>by
  have(a,j,c,h2,rfl):=GI h;have(g,i):=zw h2;show(λd' hd=>?_,?_)
  .rcases aX.mp hd with e |e
   .rw[e];show(a,c)
   .show g d' e
  .rw[gz,i];unfold isE;rw[c]
   cases a <;> rfl
abbrev zx(G:Gc):V->LVv->Hp->VK->Prop:=λa vs H Q=>∃Hf y x d w,vs=[w]/\aq Hf H/\Rep G Hf y a/\Rep G Hf x w/\gR y x=aa d/\∀v Hf' H',Ext Hf H Hf' H'->Rep G Hf' d v->Q v H'
def HE(hu:X.A.units+64<cLine):MtM X "list.index" (zx (Gx c X)):=by
 rintro U s E H x C v us Q I rx rv ⟨Hf,y,z,d,w,rfl,i,r1,r2,e,k⟩;unfold gR at e;split at e
 .rename_i ds;split at e
  .rename_i a;cases e;have(l,vs,el,q,B):=r1;subst el;subst rx;have(u,rfl,ru):=rv.one;have(z1,L,n,Y,T,e0):=I.lstM (i _ _ q);have(f,M,ha):=rN (A:=X.A.in1) I (by rw[qR];lia) (r2.up i) ru (B.up i) Y a;have(k1,k2):=zw a
   have same:∀m _,f L[m]=isE z (ds.getD m .non):=λm hm=>by
    have r:m<ds.length:=by rw[B.length,T];show hm
    have(v1,j,J):=B.get (bY r);have(u1,b,ru1):=Y.get j;rw[bY hm]at b;cases b;have(_,d',v',r',G,h'):=M L[m] (g4 hm);have ev:=aC.inj G ru1;subst ev;have(b1,g):=k1 ds[m] (g4 r);rw[bK,bY r];change _=isE z ds[m];unfold isE;rw[g,(rM 19 r' (J.up i) h' g)]
    cases b1 <;> rfl
   have N:=wW (any_eq_true.mp k2);have h:ds.findIdx (isE z)<L.length:=by rw[<- T,<- B.length];show N
   show oG F.slot_list_index (_,e0,rfl) F.entry_list_index (F.args_list_index_2 _ _) (SeqAt.list_indexAt l L.toArray n ab #[] u f _ (by rw[size_toArray];show h) (by rw[di]at z1;lia) ?_ ?_) (e0,λy hy=>(M y (by simpa using hy)).1,(.int _,H,I.tok _,(_,rfl),k _ Hf H (Ext.refl i) rfl))
   .simp only[tK,same _ h,bK,bY N];show findIdx_getElem
   .intro m hm p;rw[tK,same m (by rw[size_toArray]at hm;show hm),bK,bY _];have:=not_of_lt_findIdx p;show this
  .nomatch e
 .nomatch e
variable{g:MF1}
def Rp{f:MF1}(h:PE X e (tBM X.K "list" (zx (Gx c X)) (tD (Gx c X) f) (jc (tD (Gx c X) g) ig))):DE c X e (m2 gR f g):=PE.imp h λE H Q A=>by
 have(Hf0,H0,Hf,M,d,st,z,k):=A;have(x,y,p,r,a):=mO z
 obtain⟨ds,rfl⟩:∃ds,x=.lst ds:=by
  unfold gR at a;split at a
  .show(_,rfl)
  .nomatch a
 show(Hf0,H0,Hf,M,_,st,p,λv b3 H1 i m=>?_);have(l,vs,el,q,B):=id m;subst el;show(.inl (rfl,_,SqL.of (i.s _ _ q)),Hf0,H0,b3,M,y,st.step i,r,λu bm H2 j C=>(bm,.lst ds,y,d,u,rfl,j.s,m.up j.f,C,a,λw b n I G=>k w b n ((i.trans j).trans I) G))
def HF{b:Type}:∀(a:List (Int×b)),(a.map (·.1)).Nodup->∀z∈a,a.find? (λy=>y.1==z.1)=aa z
 | [],_,_,h=>(dA h).elim
 |y::a,nd,z,h=>by
  rw[bD,b7]at nd;rw[find?_cons]
  rcases aX.mp h with e |e
  .rw[e,beq_self_eq_true]
  .have:_=af:=beq_eq_false_iff_ne.mpr λq=>nd.1 (aJ.mpr (z,e,q.symm));rw[this];show HF a nd.2 z e
def DE.pe{f:MF1}(h:DE c X e f):PE X e (tD (Gx c X) f):=h
def DX.pe(h:DX c X e f):PE X e (tDX (Gx c X) f):=h
def Rq(x y z:D):OD:=(vg x).bind λp=>(jl y).map λk=>(gQ p.1 p.2 k).getD z
def rX(f g h:MF1)(M:LS):OD:=(f M).bind λx=>(g M).bind λy=>(h M).bind λz=>Rq x y z
def Rr{o:Expr}(hu:X.A.units+64<cLine){f h:MF1}(ho:DE c X o f)(hk:DE c X a g)(hx:DE c X b h)(m:M2 X o "get" apos a b cpos):DE c X (.Call (.Attribute o "get" apos) [a,b] [] cpos) (rX f g h):=
 PE.imp (yo (by lia) ho hk hx m) λE H Q q_=>by
  have(Hf0,H0,Hf,M,d,st,e,k):=q_;unfold rX at e;have(x,I,e):=ow.mp e;have(y,J,e):=ow.mp e;have(z,L,e):=ow.mp e;have(p,N,e):=ow.mp e;have(n,T,e):=Option.map_eq_some_iff.mp e;show(Hf0,H0,Hf,M,x,st,I,λv b3 H1 j r1=>?_);have(l,vs,Y,rd,z0,r):=HA N r1;subst Y;show(l,rfl,.inl (_,rd.up j.s),Hf0,H0,b3,M,y,st.step j,J,λu bm H2 C r2=>(Hf0,H0,bm,M,z,(st.step j).step C,L,λw q G x3 r3=>?_));have U:=rK T r2;subst U;have i:=C.trans x3;show(cN (p.1.zip vs) n,.inl (_,n,(rd.up j.s).up i.h,rfl,rfl),k _ q G (j.trans i) ?_);have(h1,h2):=vf (k:=n) z0 (r.up i.f);subst e
  cases hv:gQ p.1 p.2 n with
  |none=>rw[h2 hv];show r3
  |some d=>
   have(w',hw,B):=h1 d hv;rw[hw];show B
structure Foc(G:Gc)(Hf H:Hp)(o:O)(v:V)(fp:LAd)(o1:O)(v1:V)(f1:LAd)(R:O->O):Prop where
 r:OT G Hf H o1 v1 f1
 n:f1.Nodup
 sub:∀a∈f1,a∈fp
 back:∀(Hf' H':Hp) (o2:O) (f2:LAd),aq Hf Hf'->(∀b u,H b=aa u->b∉f1->H' b=aa u)->OT G Hf' H' o2 v1 f2 ->
  ∃fp',OT G Hf' H' (R o2) v fp'/\(∀a∈fp',a∈f2\/(a∈fp/\a∉f1))/\(f2.Nodup->(∀a∈f2,a∈fp->a∈f1)->fp'.Nodup)
def Foc.refl{o:O}(h:OT G Hf H o v fp)(n:fp.Nodup):Foc G Hf H o v fp o v fp id:=
 (h,n,λ_ h=>h,λ_ _ _ f2 _ _ q=>(f2,q,λ_ h=>.inl h,λn _=>n))
variable{v1:V}{f1 f2:LAd}{R R':O->O}
def Foc.trans{o o1 o2:O}{g:V}(F:Foc G Hf H o v fp o1 v1 f1 R)(F':Foc G Hf H o1 v1 f1 o2 g f2 R'):Foc G Hf H o v fp o2 g f2 (λx=>R (R' x)):=by
 show(F'.r,F'.n,λa h=>F.sub a (F'.sub a h),λHf' H' m i s k h=>?_);have(d,p,m1,j):=F'.back Hf' H' m i s k h;have(fp',q,m2,l):=F.back Hf' H' _ d s (λb u e c=>k b u e λz=>c (F'.sub b z)) p;show(fp',q,λa ha=>?_,λnf f=>l (j nf λa ha c=>f a ha (F.sub a c)) λa ha c=>?_)
 .rcases m2 a ha with z |⟨z,z'⟩
  .rcases m1 a z with y |⟨y,y'⟩
   .show .inl y
   .show .inr (F.sub a y,y')
  .show .inr (z,λy=>z' (F'.sub a y))
 .rcases m1 a ha with y |⟨y,_⟩
  .show F'.sub a (f a y c)
  .show y
variable{b:Addr}
def HG{o:O}{f:LAd}(h:OT G Hf H o v f)(e:H b=aa u)(t:iF u=ac):b∉f:=λz=>by
 have(d,c,a):=OT.memM o v f h b z
 grind
def OTs.foc:∀{os:List O} {vs:LVv} {fp:LAd} {k:Nat} {o1:O},OTs G Hf H os vs fp->fp.Nodup->os[k]?=aa o1->∃v1 f1,vs[k]?=aa v1/\OT G Hf H o1 v1 f1/\f1.Nodup/\(∀a∈f1,a∈fp) /\
  ∀(Hf' H':Hp) (o2:O) (d:V) (f2:LAd),aq Hf Hf'->(∀b u,H b=aa u->(iF u=ac\/b∈fp)->b∉f1->H' b=aa u)->OT G Hf' H' o2 d f2 ->
  ∃fp',OTs G Hf' H' (os.set k o2) (vs.set k d) fp'/\(∀a∈fp',a∈f2\/(a∈fp/\a∉f1))/\(f2.Nodup->(∀a∈f2,a∈fp->a∈f1)->fp'.Nodup)
 | [],_,_,_,_,_,_,e=>by simp at e
 |o::os,_,_,0,o1,q5_,n,e'=>by
  have(v,r,f1,g,e,i,h2,m):=q5_;cases e';subst e m;have(p,w,dj):=fh.mp n;show(v,f1,rfl,i,p,λa ha=>bZ _ ha,λHf' H' o2 d f2 s k h=>(f2++g,?_,λa ha=>?_,λnf j=>(fh.mpr (nf,w,λa ha b c z=>by subst z;show dj a (j a ha (cv _ c)) a c rfl))))
  .simp only[tP,tP];show(d,r,f2,g,rfl,h,OTs.frameM s os r g h2 λb u c hm=>k b u c (hm.imp_right λy=>cv _ y) λz=>?_,rfl)
   rcases hm with t |t
   .show HG i c t z
   .show dj b z b t rfl
  .rcases bv.mp ha with z |z
   .show .inl z
   .show .inr (cv _ z,λy=>dj a y a z rfl)
 |o::os,_,_,k+1,o1,q5_,n,e'=>by
  have(v,r,f,g,e,i,h2,m):=q5_;subst e m;have(p,w,dj):=fh.mp n;have(v1,f1,B,q,E,l,bk):=OTs.foc h2 w e';show(v1,f1,by simp only[gZ];show B,q,E,λa ha=>cv _ (l a ha),λHf' H' o2 d f2 s k h=>?_);have(x,I,A,C):=bk Hf' H' o2 d f2 s (λb u c hm=>k b u c (hm.imp_right λy=>cv _ y)) h;show(f++x,?_,λa ha=>?_,λnf j=>?_)
  .simp only[qF,qF];show(v,_,f,x,rfl,i.frame s λb u c hm=>k b u c (hm.imp_right λy=>bZ _ y) λz=>?_,I,rfl)
   rcases hm with t |t
   .show HG q c t z
   .show dj b t b (l b z) rfl
  .rcases bv.mp ha with z |z
   .show .inr (bZ _ z,λy=>dj a z a (l a y) rfl)
   .rcases A a z with y |⟨y,y'⟩
    .show .inl y
    .show .inr (cv _ y,y')
  .show fh.mpr (p,C nf λa ha c=>j a ha (cv _ c),λa ha b c z=>?_);subst z
   rcases A a c with y |⟨y,_⟩
   .show dj a ha a (l a (j a y (bZ _ ha))) rfl
   .show dj a ha a y rfl
def nF{b:Type}:∀{l:List b} {k:Nat} {x:b},l[k]?=aa x->l.set k x=l
 | [],_,_,e=>by simp at e
 | _::_,0,_,e=>by simp at e;subst e;rfl
 |a::l,k+1,x,e=>by rw[gZ]at e;rw[qF,nF e]
variable{os:List O}{o1:O}
def Foc.root{o:O}{a:Addr}{fs:LAd}{k:Nat}{W:List O->O}(ha:H a=aa u)(C:iF u=af)(B:OTs G Hf H os vs fs)(n:(a::fs).Nodup)(e:os[k]?=aa o1)
 (mk:∀Hf' H' f c,H' a=aa u->OTs G Hf' H' f vs c->f.length=os.length->OT G Hf' H' (W f) (.ref a) (a::c)):∃v1 f1,vs[k]?=aa v1/\Foc G Hf H o (.ref a) (a::fs) o1 v1 f1 (λx=>W (os.set k x)):=by
 have(g,nf):=b7.mp n;have(v1,f1,l,q,A,i,bk):=B.foc nf e;show(v1,f1,l,q,A,λb d=>bi _ (i b d),λHf' H' o2 f2 s k' h=>?_);have(c,r,p,w):=bk Hf' H' o2 v1 f2 s (λb u d _=>k' b u d) h;rw[nF l]at r;show(a::c,mk Hf' H' _ c (k' a u ha λz=>g (i a z)) r (by simp),λb d=>?_,λj m=>b7.mpr (λz=>?_,w j λb d v=>m b d (bi _ v)))
 .rcases aX.mp d with z |z
  .subst z;show .inr (az,λy=>g (i b y))
  .rcases p b z with y |⟨y,y'⟩
   .show .inl y
   .show .inr (bi _ y,y')
 .rcases p a z with y |⟨y,_⟩
  .show g (i a (m a y az))
  .show g y
def Foc.at{o:O}(h:OT G Hf H (.at l o) v fp)(n:fp.Nodup):Foc G Hf H (.at l o) v fp o v fp (.at l):=
 (h.2,n,λ_ h=>h,λ_ _ _ f2 _ _ q=>(f2,(h.1,q),λ_ h=>.inl h,λn _=>n))
def ar.foc{o o1 o2:O}(m:ar G Hf0 H0 Hf H E M)(es:M[i]?=aa (.deep o))(q:E[i]?=aa (aa v))(r:OT G Hf' H1 o v fp)(x:Ext Hf H Hf' H1)(F:Foc G Hf' H1 o v fp o1 v1 f1 R)
 (kk:∀b u,H1 b=aa u->b∉f1->H2 b=aa u)(new:OT G Hf' H2 o2 v1 f2)(J:f2.Nodup)(h2:∀a∈f2,a∈f1\/(H a=ab/\Hf' a=ab)):ar G Hf0 H0 Hf' H2 E (M.set i (.deep (R o2))):=by
 have(L,g,C,d,n,z):=(m.at' i _ _ q es);cases C;have:=OT.funM o v fp g r (d.up x.f x.h);subst this;have(fp',B,mem,nd):=F.back Hf' H2 o2 f2 (aq.refl _) kk new
 have c:∀a∈fp',a∈fp\/_:=λa ha=>by
  rcases mem a ha with y |⟨y,_⟩
  .rcases h2 a y with w |w
   .show .inl (F.sub a w)
   .show .inr w
  .show .inl y
 show m.chgX x es q (λb u j=>?_) (v,fp',rfl,B,nd J λa ha j=>?_,λa ha=>?_) λa p=>?_
 .by_cases h:b∈f1
  .show .inl (fp,d,F.sub b h)
  .show .inr (kk b u j h)
 .rcases h2 a ha with y |y
  .show y
  .have(u,e,_):=OT.memM o v fp d a j;rw[y.1]at e
   nomatch e
 .rcases c a ha with y |y
  .have(u,e,I):=OT.memM o v fp d a y;show((z a y).1,?_);rw[x.n a u e I];show(z a y).2
  .show(m.ext.h.free y.1,y.2)
 .have(A,l,ha):=p;have:=OT.funM _ _ _ _ B l;subst this
  rcases c a ha with y |y
  .show .inl (fp,d,y)
  .show .inr y.1
def ar.was{o:O}(g:ar G Hf0 H0 Hf H E M)(es:M[i]?=aa (.deep o))(d:E[i]?=aa (aa v))(x:Ext Hf H Hf' H1)(r:OT G Hf' H1 o v fp):∀a∈fp,H a≠ab:=λa ha=>by
 have(l,b,e,c,n,z):=g.at' i _ _ d es;cases e;have:=OT.funM o v fp b r (c.up x.f x.h);subst this;have(u,j,_):=OT.memM o v fp c a ha
 grind
abbrev zy:D->Option Key
 |.int i=>aa (.inl i)
 |.bl b=>aa (.inl (cond b 1 0))
 |.str x=>aa (.inr x)
 | _=>ab
abbrev rY:LD->Option (List Key)
 | []=>aa []
 |d::ds=>(zy d).bind λk=>(rY ds).map (k::·)
abbrev kH:D->Option (List Key)
 |.tup ds=>rY ds
 | _=>ab
def Rs{k:Key}(h:zy d=aa k)(r:Rep G H d v):kR k v:=by
 cases d with
 |int i=>cases h;show .inl r
 |bl b=>cases h;show .inr (b,r,rfl)
 |str x=>cases h;show r
 | _=>nomatch h
def HH{G:Gc}{H:Hp}:∀{ds:LD} {ks:List Key} {vs:LVv},rY ds=aa ks->ak G H ds vs->KRs ks vs
 | [],_,_,h,r=>by cases h;cases (r);show .nil
 |d::ds,ks,_,h,q4_=>by
  have(v,r,e,c,h2):=q4_;subst e;dsimp only[rY]at h
  cases a:zy d with
  |none=>rw[a]at h;cases h
  |some k=>
   simp only[a,ax]at h
   cases b:rY ds with
   |none=>rw[b]at h;cases h
   |some f=>rw[b]at h;cases h;show .cons (Rs a c) (HH b h2)
def rZ{k:List Key}(h:kH d=aa k)(r:Rep G H d v):∃b,v=.ref b/\fm H b k:=by
 cases d with
 |tup ds=>have(a,vs,e,q,B):=r;show(a,e,vs,q,HH h B)
 | _=>nomatch h
abbrev aT{a:Type}[DecidableEq a](f:a):List a->Option Nat
 | []=>ab
 |n::ns=>if n=f then aa 0 else (aT f ns).map (· + 1)
def zA{a:Type}[DecidableEq a]{f:a}:∀{ns:List a} {k:Nat},aT f ns=aa k->k<ns.length
 | [],_,e=>by cases e
 |n::ns,k,e=>by
  dsimp only[aT]at e;split at e
  .cases e;show ou _
  .cases h:aT f ns with
   |none=>rw[h]at e;cases e
   |some j=>rw[h]at e;cases e;show Nat.succ_lt_succ (zA h)
def zC{a:Type}[DecidableEq a]{b:Type}{f:a}:∀{ns:List a} {k:Nat} (vs:List b),aT f ns=aa k->(ns.zip vs).lookup f=vs[k]?
 | [],_,_,e=>by cases e
 | _::_,_,[],_=>by rfl
 |n::ns,k,v::vs,e=>by
  dsimp only[aT]at e;simp only[e9,mh];split at e
  .rename_i h;subst h;cases e;rw[beq_self_eq_true];rfl
  .rename_i h;simp only[beq_eq_false_iff_ne.mpr (eM h)]
   cases h':aT f ns with
   |none=>rw[h']at e;cases e
   |some j=>
    rw[h']at e;cases e;show zC vs h'
def pU{a:Type}[DecidableEq a]{f:a}:∀{ns:List a} {k:Nat} (vs:LVv),aT f ns=aa k->cN (ns.zip vs) f=vs[k]?
 | [],_,_,e=>by cases e
 | _::_,_,[],_=>by rfl
 |n::ns,k,v::vs,e=>by
  dsimp only[aT]at e;simp only[e9];split at e
  .rename_i h;cases e;rw[q9 h];rfl
  .rename_i h;rw[oR h]
   cases h':aT f ns with
   |none=>rw[h']at e;cases e
   |some j=>
    rw[h']at e;cases e;show pU vs h'
def r6{a:Type}[DecidableEq a]{f:a}:∀{ns:List a} (vs:LVv),aT f ns=ab->cN (ns.zip vs) f=ab
 | [],_,_=>rfl
 | _::_,[],_=>by rfl
 |n::ns,v::vs,e=>by
  dsimp only[aT]at e;simp only[e9];split at e
  .cases e
  .rename_i h;rw[oR h]
   cases h':aT f ns with
   |none=>show r6 vs h'
   |some j=>rw[h']at e;cases e
def Foc.up{o o1:O}(F:Foc G Hf H o v fp o1 v1 f1 R)(f:aq Hf Hf')(s:aq H H'):Foc G Hf' H' o v fp o1 v1 f1 R:=
 (F.r.up f s,F.n,F.sub,λbm H2 o2 f2 s2 k h=>F.back bm H2 o2 f2 (f.trans s2) (λb u e a=>k b u (s b u e) a) h)
nonrec def Xp:=LS->Option (O×(O->O))
inductive tDP(G:Gc)(i:Nat)(f:Xp)(E:St)(H:Hp)(Q:VK):Prop
 |mk:∀Hf0 H0 Hf M o1 R,ar G Hf0 H0 Hf H E M->f M=aa (o1,R,)->(∀o v fp v1 f1 Hf' H',M[i]?=aa (.deep o)->E[i]?=aa (aa v)->Ext Hf H Hf' H'->OT G Hf' H' o v fp->Foc G Hf' H' o v fp o1 v1 f1 R->Q v1 H')->tDP G i f E H Q
def DP(c:Str->Addr)(X:Cx)(e:Expr)(i:Nat)(f:Xp):Prop:=PE X e (tDP (Gx c X) i f)
def aH(i:Nat):Xp:=λM=>match M[i]? with
 |some (.deep (.at l o))=>aa (o,.at l,)
 |some (.deep o)=>aa (o,id,)
 | _=>ab
abbrev O.fld(cn f:Str):O->Option (O×(O->O))
 |.ins c ns os=>if c=cn then (aT f ns).bind λk=>(os[k]?).map λo1=>(o1,λx=>.ins c ns (os.set k x),) else ab
 | _=>ab
def aU(cn f:Str)(p:Xp):Xp:=λM=>(p M).bind λq=>(q.1.fld cn f).map λr=>(r.1,λx=>q.2 (r.2 x),)
abbrev O.key(k:List Key):O->Option (O×(O->O))
 |.dT ks os=>(aT k ks).bind λj=>(os[j]?).map λo1=>(o1,λx=>.dT ks (os.set j x),)
 | _=>ab
def kK(p:Xp)(g:MF1):Xp:=λM=>(p M).bind λq=>(g M).bind λd=>(kH d).bind λk=>(q.1.key k).map λr=>(r.1,λx=>q.2 (r.2 x),)
abbrev fzs:List O->OLD
 | []=>aa []
 |.fz d::os=>(fzs os).map (d::·)
 | _=>ab
def zD:∀(ds:LD),fzs (ds.map .fz)=aa ds
 | []=>rfl
 |d::ds=>by rw[bD,fzs,zD ds];rfl
def HI:∀{os:List O} {ds:LD},fzs os=aa ds->os=ds.map .fz
 | [],_,h=>by cases h;rfl
 |o::os,ds,h=>by
  cases o with
  |fz d=>
   simp only[fzs]at h
   cases e:fzs os with
   |none=>rw[e]at h;cases h
   |some a=>rw[e]at h;cases h;rw[bD,<- HI e]
  | _=>cases h
def OTs.unfz{G:Gc}{Hf H:Hp}:∀{ds:LD} {vs:LVv} {fs:LAd},OTs G Hf H (ds.map .fz) vs fs->ak G Hf ds vs/\fs=[]
 | [],_,_,h=>(h.1,h.2)
 |d::ds,_,_,q3_=>by
  have(v,r,f1,f2,e,c,h2,f):=q3_;have(a,b):=OTs.unfz h2;show((v,r,e,c.1,a),?_);rw[f,c.2,b];rfl
def pD(p:Xp)(M:LS):OD:=(p M).bind λq=>match q.1 with
 |.fz d=>aa d
 | _=>ab
def pB(p:Xp)(M:LS):OD:=(p M).bind λq=>if q.1.kn then aa q.1.toD else ab
abbrev O.items:O->OLD
 |.lst os=>fzs os
 | _=>ab
def pC(p:Xp)(M:LS):OLD:=(p M).bind λq=>q.1.items
inductive tDL(G:Gc)(f:MF2)(E:St)(H:Hp)(Q:VK):Prop
 |mk:∀Hf0 H0 Hf M ds,ar G Hf0 H0 Hf H E M->f M=aa ds->(∀a vs Hf' H',Ext Hf H Hf' H'->H' a=aa (.lst vs)->ak G Hf' ds vs->Q (.ref a) H')->tDL G f E H Q
def DL(c:Str->Addr)(X:Cx)(e:Expr)(f:MF2):Prop:=PE X e (tDL (Gx c X) f)
def bg{c d:Type}{a:Option c}{f:c->Option d}{b:d}(h:a.bind f=aa b):∃x,a=aa x/\f x=aa b:=by
 cases a with
 |none=>nomatch h
 |some x=>show(x,rfl,h)
def dO{c d:Type}{a:Option c}{f:c->d}{b:d}(h:a.map f=aa b):∃x,a=aa x/\f x=b:=by simp_all
def d5(h:PE X e (cE i)):DP c X e i (aH i):=PE.imp h λE H Q j=>by
 have(Hf0,H0,Hf,M,o1,R,d,a,g):=j
 have main:∀o,M[i]?=aa (.deep o)->(∀v fp,OT _ Hf H o v fp->fp.Nodup->Foc _ Hf H o v fp o1 v fp R)->cE i E H Q:=λo es F=>by
  have(v,b,u,fp,f,r,n,z):=d.slot es;subst f;show(u,b,g o u fp u fp Hf H es b (Ext.refl d.sub) r (F u fp r n))
 unfold aH at a;split at a
 .rename_i l o es;cases a;show main _ es λv fp r n=>Foc.at r n
 .rename_i o _ es;cases a;show main _ es λv fp r n=>Foc.refl r n
 .grind
variable{o2:O}
def Ru{cn f:Str}(h:o1.fld cn f=aa (o2,R,)):∃ns os k,o1=.ins cn ns os/\aT f ns=aa k/\os[k]?=aa o2/\R=λx=>.ins cn ns (os.set k x):=by
 cases o1 with
 |ins c ns os=>
  replace h:(if c=cn then (aT f ns).bind λk=>(os[k]?).map λo1=>_ else ab)=aa _:=h;split at h
  .rename_i d;subst d;have(k,a,h):=bg h;have(o,b,h):=dO h;cases h;show(ns,os,k,rfl,a,b,rfl)
  .nomatch h
 | _=>nomatch h
def Foc.fld{o o1 o2:O}{cn f:Str}(F:Foc G Hf H o v fp o1 v1 f1 R)(h:o1.fld cn f=aa (o2,R',)):∃(a dx:Addr) (ns:LSt) (vs:LVv) (b:V) (f2:LAd),v1=.ref a/\H a=aa (.ins (G.cl cn) dx (ns.zip vs))/\(ns.zip vs).lookup f=aa b/\Foc G Hf H o v fp o2 b f2 (λx=>R (R' x)):=by
 have(ns,os,k,rfl,g,i,rfl):=Ru h;have(a,dx,vs,fs,rfl,ha,hz,B,rfl):=F.r;have(b,f2,j,e):=Foc.root (W:=.ins cn ns) ha rfl B F.n i λHf' H' l c d r _=>(a,dx,vs,c,rfl,d,hz,r,rfl);show(a,dx,ns,vs,b,f2,rfl,ha,(zC vs g).trans j,F.trans e)
variable{p:Xp}
def eC{o:Expr}(cn:Str)(m:Cls X.K (c cn))(hn:cM X.K (c cn) fl)(n:DP c X o i p)(l:autoParam (oC o fl X.env (eval o X.env)=eval o X.env) Zb):DP c X (.Attribute o fl pos) i (aU cn fl p):=PE.imp (EV n l) λE H Q w=>by
 have(Hf0,H0,Hf,M,o2,R,y,b,u):=w;have(q,f,b):=bg b;have(r,g,b):=dO b;cases b;show(Hf0,H0,Hf,M,q.1,q.2,y,f,λt v fp v1 f1 Hf' H' es j x rt F=>?_);have(a,dx,ns,vs,d,f2,h,ha,el,e):=F.fld g;show(a,_,dx,_,d,h,ha,m,hn,el,u t v fp d f2 Hf' H' es j x rt e)
def fm.same{k:List Key}(h:fm H b k)(s:aq H H'):fm H' b k:=h.up λb C e=>s _ _ e
def Rv{k:List Key}(h:o1.key k=aa (o2,R,)):∃ks os j,o1=.dT ks os/\aT k ks=aa j/\os[j]?=aa o2/\R=λx=>.dT ks (os.set j x):=by
 cases o1 with
 |dT ks os=>
  have(j,a,h):=bg h;have(o,b,h):=dO h;cases h
  show(ks,os,j,rfl,a,b,rfl)
 | _=>nomatch h
def Foc.key{o o1 o2:O}{k:List Key}(F:Foc G Hf H o v fp o1 v1 f1 R)(h:o1.key k=aa (o2,R',)):∃a kvs b f2,v1=.ref a/\H a=aa (.dT kvs)/\cN kvs k=aa b/\Foc G Hf H o v fp o2 b f2 (λx=>R (R' x)):=by
 have(ks,os,j,rfl,f,g,rfl):=Rv h;have(a,vs,fs,rfl,ha,hz,B,rfl):=F.r;have(b,f2,i,e):=Foc.root (W:=.dT ks) ha rfl B F.n g λHf' H' l c d r _=>(a,vs,c,rfl,d,hz,r,rfl);show(a,ks.zip vs,b,f2,rfl,ha,(pU vs f).trans i,F.trans e)
def HJ{o:Expr}(U:X.A.units+1<cLine)(N:DP c X o i p)(L:DE c X e g)(T:autoParam (rb e) Zj):DP c X (.Subscript o e pos) i (kK p g):=PE.imp (yn U N L T) λE H Q q_=>by
 have(Hf0,H0,Hf,M,o2,R,m,j,Y):=q_;have(q,w,j):=bg j;have(d,z,j):=bg j;have(k,B,j):=bg j;have(r,C,j):=dO j;cases j;show(Hf0,H0,Hf,M,q.1,q.2,m,w,λt v fp v1 f1 b3 H1 es J x rt F=>(Hf0,H0,b3,M,d,m.step x,z,λy bm H2 l r2=>?_));have(b,I,tk):=rZ B r2;have(a,kvs,n,f2,G,ha,el,u):=(F.up l.f l.h).key C;subst I;show(a,n,G,?_,Y t v fp n f2 bm H2 es J (x.trans l) (rt.up l.f l.h) u);rw[<- el];show fQ.t ha (tk.same l.s)
def HK(h:DP c X e i p):DE c X e (pD p):=PE.imp h λE H Q j=>by
 have(Hf0,H0,Hf,M,d,l,a,g):=j;have(q,f,a):=bg a;show(Hf0,H0,Hf,M,q.1,q.2,l,f,λt v fp v1 f1 b3 H1 es m x rt F=>?_)
 cases b:q.1 with
 |fz d'=>rw[b]at a;cases a;have r:=F.r;rw[b]at r;show g _ _ _ x r.1
 | _=>simp only[b]at a;nomatch a
def zE(h:DP c X e i p):DB c X e (pB p):=PE.imp h λE H Q j=>by
 have(Hf0,H0,Hf,M,d,l,a,g):=j;have(q,b,a):=bg a;split at a
 .rename_i f;cases a;show(Hf0,H0,Hf,M,q.1,q.2,l,b,λt v fp v1 f1 b3 H1 es m x rt F=>g _ _ _ x (F.r.rep x.s f))
 .grind
def r9(h:o1.items=aa ds):o1=.lst (ds.map .fz):=by
 cases o1 with
 |lst os=>rw[HI h]
 | _=>nomatch h
def zF(h:DP c X e i p):DL c X e (pC p):=PE.imp h λE H Q g=>by
 have(Hf0,H0,Hf,M,ds,j,b,f):=g;have(q,d,b):=bg b;show(Hf0,H0,Hf,M,q.1,q.2,j,d,λt v fp v1 f1 b3 H1 es l x rt F=>?_);have r:=F.r;rw[r9 b]at r;have(a,vs,fs,rfl,ha,B,_):=r;show f a vs b3 H1 x ha B.unfz.1
def DL.dc{f:MF2}(h:DL c X e f):DC c X e f:=PE.imp h λE H Q d=>by
 have(Hf0,H0,Hf,M,ds,st,a,k):=d;show(Hf0,H0,Hf,M,ds,st,a,λl vs Hf' H' x b r=>k l vs Hf' H' x (.inl (SqL.of b)) r)
def DL.db{f:MF2}(h:DL c X e f):DB c X e (aP f):=PE.imp h λE H Q i=>by
 have(Hf0,H0,Hf,M,d,st,a,k):=i;have(ds,b,a):=dO a;subst a;show(Hf0,H0,Hf,M,ds,st,b,λl vs Hf' H' x g r=>k _ Hf' H' x (l,vs,rfl,g,r.up x.s))
abbrev O.got(k:List Key):O->OLD
 |.dT ks os=>match aT k ks with
  |some j=>(os[j]?).bind O.items
  |none=>aa []
 | _=>ab
def iq(p:Xp)(g:MF1)(M:LS):OLD:=(p M).bind λq=>(g M).bind λd=>(kH d).bind λk=>q.1.got k
section
variable{o:Expr}
def zG{w:Pos}(hu:X.A.units+1<cLine)(ho:DP c X o i p)(hk:DE c X e g)(m:M2 X o "get" apos e (.List [] w) pos):DL c X (.Call (.Attribute o "get" apos) [e,.List [] w] [] pos) (iq p g):=PE.imp (yo hu ho hk (uk dR) m) λE H Q q_=>by
 have(Hf0,H0,Hf,M,ds,so,u,Y):=q_;have(q,e1,u):=bg u;have(d,e2,u):=bg u;have(k,e3,u):=bg u;show(Hf0,H0,Hf,M,q.1,q.2,so,e1,λt v fp v1 f1 b3 H1 es ev x rt F=>?_)
 cases U:q.1 with
 |dT ks os=>
  rw[U]at u F;have(a,vs,fs,rfl,ha,hz,B,rfl):=F.r;show(a,rfl,.inr (_,.inl ha),Hf0,H0,b3,M,d,so.step x,e2,λy bm H2 z I=>(ce _,λl hl=>?_));have(b,eb,tk):=rZ e3 I;subst eb;have C:Ext bm H2 bm (upd H2 l (.lst [])):=Ext.tmp z.s hl;show(cN _ k,fQ.t (C.h _ _ (z.h _ _ ha)) (tk.same (z.s.trans C.h)),?_)
  replace u:(match aT k ks with |some j=>(os[j]?).bind O.items |none=>aa [])=aa ds:=u
  cases G:aT k ks with
  |none=>
   rw[G]at u;cases u;rw[r6 vs G]
   show Y l [] bm _ ((x.trans z).trans C) aY .nil
  |some j=>
   rw[G]at u;have(o2,eo,u):=bg u;have(v2,f2,J,F2):=Foc.root (o:=.dT ks os) (W:=.dT ks) ha rfl B F.n eo λHf' H' os' L N r _=>(a,vs,L,rfl,N,hz,r,rfl);have I:=(F2.up (z.f.trans C.f) (z.h.trans C.h)).r;rw[r9 u]at I;have(b2,ws,fs2,rfl,hb,T,_):=I;rw[pU vs G,J]
   show Y b2 ws bm _ ((x.trans z).trans C) hb T.unfz.1
 | _=>rw[U]at u;nomatch u
end
def OTs.stay{fs:LAd}{c:HO}(r:OTs G Hf H os us fs)(d:H l=aa c)(e:iF c=af)(hn:l∉fs)(f:aq Hf Hf')(s:∀b u,b≠l->H b=aa u->H' b=aa u):OTs G Hf' H' os us fs:=
 OTs.frameM f os us fs r λb u a hm=>s b u (λz=>by
  subst z;rw[d]at a;cases a
  rcases hm with t |t
  .grind
  .show hn t) a
def kL(i:Nat)(p:Xp)(f:MF1)(M:LS):Option Fl:=(p M).bind λq=>(f M).bind λd=>(q.1.appd d).map λo2=>.nx (M.set i (.deep (q.2 o2)))
abbrev O.extd(ds:LD):O->Option O
 |.lst os=>if os.length+ds.length<=16777216 then aa (.lst (os++ds.map .fz)) else ab
 | _=>ab
def pV(i:Nat)(p:Xp)(f:MF2)(M:LS):Option Fl:=(p M).bind λq=>(f M).bind λds=>(q.1.extd ds).map λo2=>.nx (M.set i (.deep (q.2 o2)))
abbrev O.pop0:O->Option (D×O)
 |.lst (.fz d::os)=>aa (d,.lst os,)
 | _=>ab
def sd(i:Nat)(p:Xp):Xe:=λM=>(p M).bind λq=>q.1.pop0.map λr=>(r.1,M.set i (.deep (q.2 r.2)),)
def O.setAt(k:D)(d:D)(o:O):Option O:=match k with
 |.int n=>o.items.bind λds=>(ixN ds.length n).map λj=>.lst ((ds.set j d).map .fz)
 | _=>ab
def nG(i:Nat)(p:Xp)(fk fv:MF1)(M:LS):Option Fl:=(fv M).bind λd=>(p M).bind λq=>(fk M).bind λx=>(q.1.setAt x d).map λo2=>.nx (M.set i (.deep (q.2 o2)))
def O.putNew(o x:O)(k:List Key):Option O:=match o with
 |.dT ks os=>if aT k ks=ab/\ks.length<16777216 then aa (.dT (ks++[k]) (os++[x])) else ab
 | _=>ab
def pW(i:Nat)(p:Xp)(fk fv:MF1)(M:LS):Option Fl:=(fv M).bind λd=>(p M).bind λq=>(fk M).bind λx=>(kH x).bind λk=>(q.1.putNew (.fz d) k).map λo2=>.nx (M.set i (.deep (q.2 o2)))
def Rw{f:MF1}(h:PS X st (ly (tBM X.K "list" ur (tDP (Gx c X) i p) (jc (tD (Gx c X) f) ig)))):DS c X st (kL i p f):=PS.imp h λW8 E H N=>by
 have(Hf0,H0,Hf,M,o,y,j,J):=N;have(q,B,j):=bg j;have(d,C,j):=bg j;have(o2,G,j):=dO j;subst j;show(Hf0,H0,Hf,M,q.1,q.2,y,B,λt v fp v1 f1 b3 H1 es I x rt F=>?_);have(l,us,el,A,hz,L,next):=Hv G F.r;subst el;show(.inl (rfl,_,SqL.of A),Hf0,H0,b3,M,d,y.step x,C,λw bm H2 g Q=>?_);show(l,us,w,rfl,rfl,g.h _ _ A,by rw[di];show hz,J E bm _ (x.trans g).f ?_)
 show y.foc es I (rt.up g.f g.h) (x.trans g) (F.up g.f g.h) (λb u m hn=>by rw[aK (λz=>hn (by rw[z];show L))];show m)
  (next bm _ w F.n g.f (λb u m e=>by rw[aK m];show g.h b u e) aY Q) F.n λa ha=>.inl ha
def Rx{f:MF2}(h:PS X st (ly (tBM X.K "list" yf (tDP (Gx c X) i p) (jc (tDL (Gx c X) f) ig)))):DS c X st (pV i p f):=PS.imp h λW8 E H T=>by
 have(Hf0,H0,Hf,M,o,y,j,Q):=T;have(q,J,j):=bg j;have(ds,L,j):=bg j;have(o2,g,j):=dO j;subst j;show(Hf0,H0,Hf,M,q.1,q.2,y,J,λt v fp v1 f1 b3 H1 es N x rt F=>?_)
 cases C:q.1 with
 |lst os=>
  rw[C]at g F;replace g:(if os.length+ds.length<=16777216 then aa _ else ab)=aa o2:=g;split at g
  .rename_i hz;cases g;have(l,us,fs,rfl,w,B,rfl):=F.r;show(.inl (rfl,_,SqL.of w),Hf0,H0,b3,M,ds,y.step x,L,λb A bm H2 d m I=>?_);show(l,b,us,A,rfl,rfl,(d.h _ _ w),m,by rw[di,<- B.length,<- I.length];show hz,Q E bm _ (x.trans d).f ?_);have o1:OTs _ bm (upd H2 l (.lst (us++A))) os us fs:=B.stay w rfl ((b7.mp F.n).1) d.f λb u m e=>by rw[aK m];show d.h b u e
   have G:=o1.append (OTs.fz I);rw[bN]at G
   show y.foc es N (rt.up d.f d.h) (x.trans d) (F.up d.f d.h) (λb u m hn=>by rw[aK (λz=>hn (by rw[z];show az))];show m)
    (l,us++A,fs,rfl,aY,G,rfl) F.n λa ha=>.inl ha
  .nomatch g
 | _=>rw[C]at g;nomatch g
def Ry(h:PE X e (tBM X.K "list" Fg (tDP (Gx c X) i p) (jc (tC (.int 0)) ig))):DX c X e (sd i p):=PE.imp h λE H Q q_=>by
 have(Hf0,H0,Hf,M,d,ρ',L,m,Y):=q_;have(q,N,m):=bg m;have(r,j,m):=dO m;cases m;show(Hf0,H0,Hf,M,q.1,q.2,L,N,λt v fp v1 f1 b3 H1 es T x rt F=>?_)
 cases J:q.1 with
 |lst os=>
  rw[J]at j F
  cases os with
  |nil=>nomatch j
  |cons o1 os=>
   cases o1 with
   |fz d=>
    cases j;have(l,us,fs,rfl,A,B,rfl):=F.r;have(w,g,g1,I,rfl,G,C,rfl):=B;have(rd,rfl):=G;show(.inl (rfl,_,SqL.of A),l,w::g,0,0,w,rfl,rfl,A,by decide,by decide,?_,rfl,?_)
    .have U:(decide ((0:Int)<=0) && decide (0<((w::g).length:Int)))=ac:=by simp
     unfold seqIndex?;rw[if_neg (show ¬(0:Int)<0 by decide),if_pos U];rfl
    .have nl:=(b7.mp F.n).1;show Y w b3 _ x.f ?_ rd;have o1:OTs _ b3 (upd H1 l (.lst g)) os g I:=C.stay A rfl nl (aq.refl _) λb u y e=>by rw[aK y];show e
     show L.foc es T rt x F (λb u y hn=>by rw[aK (λz=>hn (by rw[z];show az))];show y)
      (l,g,I,rfl,aY,o1,rfl) F.n λa ha=>.inl ha
   | _=>nomatch j
 | _=>rw[J]at j;nomatch j
def HL(hp:PS X st (jb (tD (Gx c X) fv) (xL (tDP (Gx c X) i p) (tD (Gx c X) fk) ya))):DS c X st (nG i p fk fv):=PS.imp hp λW8 E H q_=>by
 have(Hf0,H0,Hf,M,o,C,e,kq):=q_;have(d,L,e):=bg e;have(q,N,e):=bg e;have(k,Q,e):=bg e;have(o2,m,e):=dO e;subst e;show(Hf0,H0,Hf,M,d,C,L,λw b3 H1 G r1=>(Hf0,H0,b3,M,q.1,q.2,C.step G,N,λt v fp v1 f1 bm H2 es Y I rt F=>(Hf0,H0,bm,M,k,(C.step G).step I,Q,λy x J g r3=>?_)))
 cases k with
 |int n=>
  have(ds,T,m):=bg (m);have(j,U,m):=dO m;subst m;have A:=F.up g.f g.h;rw[r9 T]at A;have(l,us,fs,rfl,ql,B,e):=A.r;have(rd,rfl):=B.unfz;show(l,us,n,j,rfl,r3,ql,by rw[<- rd.length];show U,kq E x _ ((G.trans I).trans g).f ?_);have nf:OTs _ x (upd J l (.lst (us.set j w))) _ _ []:=OTs.fz (rd.set j (r1.up (I.f.trans g.f)))
  have:=(C.step G).foc es Y (rt.up g.f g.h) (I.trans g) A (λb u hb hn=>by rw[aK (λz=>hn (by rw[e,z];show az))];show hb)
   (o2:=.lst _) (l,us.set j w,[],rfl,aY,nf,rfl) (by rw[<- e];show A.n) λa ha=>.inl (by rw[e];show ha)
  show this
 | _=>nomatch m
def Rz{a:Type}[DecidableEq a]{k:a}{ks:List a}(hz:ks.length=vs.length)(h:aT k ks=ab):dL (ks.zip vs) k v=(ks++[k]).zip (vs++[v]):=by
 unfold dL;rw[uv,r6 vs h,if_neg (by simp),zip_append hz];rfl
def HM{ks:List (List Key)}{x:O}{k:List Key}{g:LAd}{w:V}(r:OT G Hf H (.dT ks os) (.ref l) f1)(n:f1.Nodup)(a:aT k ks=ab)(f:aq Hf Hf')(s:∀b u,b≠l->H b=aa u->H' b=aa u):
  ∃kvs,H l=aa (.dT kvs)/\kvs.length=ks.length/\cN kvs k=ab/\l∈f1/\(H' l=aa (.dT (dL kvs k w))->OT G Hf' H' x w g->OT G Hf' H' (.dT (ks++[k]) (os++[x])) (.ref l) (f1++g)):=by
 have(h,vs,fs,el,c,hz,B,rfl):=r;cases el;show(ks.zip vs,c,by rw[om];lia,r6 vs a,az,λd e=>(l,vs++[w],fs++g,rfl,?_,by simp[hz],((B.stay c rfl (b7.mp n).1 f s).append (.one e)),rfl));rw[d,Rz hz a]
def RA{x:O}{k:List Key}(h:o1.putNew x k=aa o2):∃ks os,o1=.dT ks os/\aT k ks=ab/\ks.length<16777216/\o2=.dT (ks++[k]) (os++[x]):=by
 cases o1 with
 |dT ks os=>
  replace h:(if aT k ks=ab/\ks.length<16777216 then aa _ else ab)=aa o2:=h;split at h
  .rename_i a;cases h;show(ks,os,rfl,a.1,a.2,rfl)
  .nomatch h
 | _=>nomatch h
def RB(hp:PS X st (ym (tDP (Gx c X) i p) (tD (Gx c X) fk) (tD (Gx c X) fv))):DS c X st (pW i p fk fv):=PS.imp hp λW8 E H q_=>by
 have(Hf0,H0,Hf,M,o,A,g,kq):=q_;have(d,U,g):=bg g;have(q,Y,g):=bg g;have(y,e3,g):=bg g;have(k,e5,g):=bg g;have(o2,e4,g):=dO g;subst g;show(Hf0,H0,Hf,M,d,A,U,λw b3 H1 C r1=>(Hf0,H0,b3,M,q.1,q.2,A.step C,Y,λt v fp v1 f1 bm H2 es ev G rt F=>(Hf0,H0,bm,M,y,(A.step C).step G,e3,λz I T j r3=>?_)));have(ks,os,h1,hk,N,rfl):=RA e4;have m:=F.up j.f j.h;rw[h1]at m;have(b,rfl,tk):=rZ e5 r3;have(l,vs,fs,rfl,Q,hz,B,g):=id m.r;have(kvs,x,L,hv,lm,nw):=HM (H':=upd T l (.dT _)) m.r m.n hk (aq.refl _) λb u J e=>by rw[aK J];show e
 rw[Q]at x;cases x;show(l,_,rfl,lA.t Q (tk.same j.s) (by rw[di,L];show N),kq E I _ ((C.trans G).trans j).f ?_)
 show(A.step C).foc es ev (rt.up j.f j.h) (G.trans j) m (λb u J hn=>by rw[aK (λz=>hn (by rw[z];show lm))];show J)
  (nw aY (r1.up (G.f.trans j.f),rfl)) (by rw[bN];show m.n) λa ha=>.inl (by rw[bN]at ha;show ha)
section
variable{prog:cf}{w:World}{K:Type}[DecidableEq K]{kn:HeapKind prog w K}{A:b5}{W8:PRS}{s:ah}
def RC{d b:Addr}{C:List (K×Addr×Value)}{k:K}{dv:Value}{Q:PRS}(i:kn.room A)(f:kn.is s.heap k b)(hm:s.heap.DictOfH kn d C)(hz:C.length<=aS)
 (m:∀q,atKey C k=aa q->Q q.2 {s with toks:=s.toks+kn.draws k})
 (h2:atKey C k=ab->∀h',h'.DictOfH kn d (storedH C k b dv)->gc d s.heap h'->Q dv {s with heap:=h',toks:=s.toks+kn.draws k}):
  wpAny (model prog w) A (dictSetDefault d (.ref b) dv) Q W8 s:=by
 have(r,l,ep,go,n,a,el,all,nd):=hm;unfold dictSetDefault
 try with_reducible show jE ?_
 show aj (kn.pyHash i f ?_);show aj (wpAny_dictFind_heap i f go a el all nd (λno=>?_) λj q h=>?_)
 .have p:=not_mem_keys_of_get no;have z:=atKey_none_of_get no
  show aj (lg (aj (wpAny_updateDictKeys (hz:=by have e:=size_of_entries el; lia) go a (aE (h2 z _ (_,_,ep + 1,oI _ go (Obj.isFreed_of_dict (Obj.data_mapDictKeys a _)),
   n.mapDictKeys _,Obj.data_mapDictKeys a _,?_,?_,?_) (oJ ..))))))
  .rw[storedH_new z];simp[el,entryOfKey]
  .rw[storedH_new z];intro y c
   rcases bv.mp c with c |c
   .show kn.keeps (all y c) go a (oJ ..)
   .rw[bB.mp c];show kn.keeps f go a (oJ ..)
  .rw[storedH_new z,bd,fh];show(nd,b7.mpr (dA,fJ),λy c u g e=>?_);rw[bB.mp g]at e;show p ((show y=k from e)▸c)
 .show aj (wpAny_dictEntries go a ?_);rw[entry_at el j,h];show aj (lg (aE (m q (atKey_of_get nd h))))
def RD(kn:HeapKind prog w K)(d b:Addr)(hd:(d==hE)=af)(dv:Value):
  MeetsIn prog w (eP.«dict.setdefault» ([.ref d,.ref b,dv],[])) (λA R s=>kn.room A.in1/\∃ k C,kn.is s.heap k b/\s.heap.DictOfH kn d C/\C.length<=aS /\
   (∀q,atKey C k=aa q->R (.ok (.ret q.2)) {s with toks:=s.toks+kn.draws k}) /\
   (atKey C k=ab->∀h',h'.DictOfH kn d (storedH C k b dv)->gc d s.heap h'->R (.ok (.ret dv)) {s with heap:=h',toks:=s.toks+kn.draws k})):=
 .of_wp λA R s i=>by
  have(h,k,C,f,hm,hz,e,h2):=i;show aj ?_;show aj (wpAny_notOrdered_dict hm.typeIs ?_);show aE ?_;change wpAny _ _ (if _=ac then _ else _) _ _ s;rw[hd,if_neg (λz=>nomatch z)];show aj (RC h f hm hz (λq g=>aE (q.2,rfl,e q g)) λhn h' a c=>aE (dv,rfl,h2 hn h' a c))
end
variable{a:Addr}{z:V}{r:Value}{kvs:List (List Key×V)}
def RE{k:List Key}{Q:PRS}(T:A.units+1<cLine)(I:Inv X U E H s)(e:H a=aa (.dT kvs))(p:fm H b k)(Y:aC z r)
 (J:∀v u h,cN kvs k=aa v->Inv X U E H h->aC v u->Q u h)(h2:cN kvs k=ab->kvs.length<aS/\∀h,Inv X U E (upd H a (.dT (dL kvs k z))) h->Q r h):
  wpAny (model X.prog X.w) A (call (.builtin "dict.setdefault") [.ref a,.ref b,r]) Q W8 s:=by
 have(L,hd,C,d,m):=Fm I.hok e;show call_meetsIn Es m.typeIs PySem.F.entry_dict_setdefault (PySem.F.args_dict_setdefault_3 _ _ _) (RD _ a b hd r) (qM T,k,C,oT I.hok p,m,by rw[<- oK d];show L,λq l=>?_,λhn h' i N=>?_)
 .have f:=d.val k;rw[l]at f
  cases hv:cN kvs k with
  |none=>rw[hv]at f;show f.elim
  |some v=>rw[hv]at f;show J v q.2 _ hv (I.tok _) f
 .have hv:cN kvs k=ab:=by
   have f:=d.val k;rw[hn]at f
   cases hv:cN kvs k with
   |none=>rfl
   |some v=>rw[hv]at f;show f.elim
  have(M,l):=h2 hv;have(q,es,ep,g,x,y,B,_,G):=i;have j:(dL kvs k z).length<=aS:=by have:=yi kvs k z;lia
  show l _ (yj I (by rw[e];show iE) N (q,g) (j,hd,_,(d.put k p Y).keeps λc ys n=>?_,q,es,ep,g,x,y,B,G));rw[aK (Ey n e (λz=>nomatch z))];show n
def HN(d ty e:TE):TE:=λE H Q=>d E H λx H1=>∃a,x=.ref a/\IsD H1 a/\ty E H1 λy H2=>e E H2 λz c=>∃kvs k b,c a=aa (.dT kvs)/\y=.ref b/\fm c b k /\
 (∀v,cN kvs k=aa v->Q v c)/\(cN kvs k=ab->kvs.length<aS/\Q z (upd c a (.dT (dL kvs k z))))
variable{f:Expr}{td ty tx:TE}
def RF{o:Expr}(L:X.A.units+1<cLine)(J:PE X o td)(C:PE X e ty)(G:PE X f tx)(m:M2 X o "setdefault" apos e f cpos):PE X (.Call (.Attribute o "setdefault" apos) [e,f] [] cpos) (HN td ty tx):=by
 intro U s E H Q I h;show wpAny_Call_method m.base m.few m.line PySem.F.plainAttrs_dict Es PySem.F.type_dict_setdefault (thn (J U s E H _ I h) λu s1 Y=>?_);have(x,H1,j,rx,a,ex,d,M):=Y;subst ex;obtain rfl:u=eQ a:=rx;have(t1,t2,_):=Fq j d;show(t1,t2,?_);rw[m.trees];show xm rfl (xn (i4 (thn (C U s1 E H1 _ j M) λiv s2 g=>?_)));have(y,H2,q,ry,N):=g;show i4 (thn (G U s2 E H2 _ q N) λfv s3 i=>xp ?_);have(z,p,r,n,kvs,k,b,w,B,tk,T,l):=i;subst B;cases (ry);show RE L r w tk n (λv u s4 hv c ru=>(v,p,c,ru,T v hv)) λhn=>((l hn).1,λs4 c=>(z,_,c,n,(l hn).2))
def O.apdK(o:O)(k:List Key)(d:D):Option O:=match o with
 |.dT ks os=>match aT k ks with
  |some j=>(os[j]?).bind λo1=>(o1.appd d).map λo2=>.dT ks (os.set j o2)
  |none=>if ks.length<16777216 then aa (.dT (ks++[k]) (os++[.lst [.fz d]])) else ab
 | _=>ab
def pX(i j:Nat)(p:Xp)(g:MF1)(M:LS):Option Fl:=(p M).bind λq=>(g M).bind λy=>(kH y).bind λk=>(ae j M).bind λd=>(q.1.apdK k d).map λo2=>.nx (M.set i (.deep (q.2 o2)))
def RG{jv:Nat}(h:PS X st (ly (tBM X.K "list" ur (HN (tDP (Gx c X) i p) (tD (Gx c X) g) (xZ ig)) (jc (cE jv) ig)))):DS c X st (pX i jv p g):=PS.imp h λW8 E H q_=>by
 have(Hf0,H0,Hf,M,o,Q,C,kq):=q_;have(q,e1,C):=bg C;have(y,e2,C):=bg C;have(k,e3,C):=bg C;have(d,e4,C):=bg C;have(o2,m,C):=dO C;subst C;have(w,ew,rw0):=Q.imm (FC e4);show(Hf0,H0,Hf,M,q.1,q.2,Q,e1,λt v fp v1 f1 b3 H1 es ev x rt F=>?_)
 cases h1:q.1 with
 |dT ks os=>
  rw[h1]at m F;have(a,vs,fs,rfl,ha,hz,B,rfl):=id F.r;show(a,rfl,.inr (_,.inl ha),Hf0,H0,b3,M,y,Q.step x,e2,λu bm H2 G r2=>(ce _,λl N=>?_));have(b,eb,tk):=rZ e3 r2;subst eb;have x3:Ext bm H2 bm (upd H2 l (.lst [])):=Ext.tmp G.s N;have A:=G.trans x3;have xa:=x.trans A;show(ks.zip vs,k,b,(A.h _ _ ha),rfl,tk.same (G.s.trans x3.h),λv2 I=>?_,λhn=>?_)
  .cases J:aT k ks with
   |none=>rw[r6 vs J]at I;nomatch I
   |some j=>
    replace m:(match aT k ks with |some j=>(os[j]?).bind λo1=>(o1.appd d).map λo2=>O.dT ks _ |none=>if ks.length<16777216 then aa _ else ab)=aa o2:=m
    simp only[J]at m;have(ok,eo,m):=bg m;have(on,ea,m):=dO m;subst m;have(v3,f3,ev3,F4):=Foc.root (W:=.dT ks) ha rfl B F.n eo λHf' H' os' fs' ha' r _=>(a,vs,fs',rfl,ha',hz,r,rfl);rw[pU vs J,ev3]at I;cases I;have F5:=(F.trans F4).up A.f A.h;have(l2,us,el,ql,hz2,lm,next):=Hv ea F5.r;subst el;show(.inl (rfl,_,SqL.of ql),w,ew,l2,us,w,rfl,rfl,ql,by rw[di];show hz2,kq E bm _ xa.f ?_)
    have:=Q.foc es ev (rt.up A.f A.h) xa F5 (λb u L hn=>by rw[aK (λz=>hn (by rw[z];show lm))];show L)
     (next bm _ w F5.n (aq.refl _) (λb u L e=>by rw[aK L];show e) aY (rw0.up xa.f)) F5.n λa ha=>.inl ha
    show this
  .cases J:aT k ks with
   |some j=>
    rw[pU vs J]at hn;have:=zA J;rw[List.getElem?_eq_none_iff]at hn
    lia
   |none=>
    replace m:(match aT k ks with |some j=>(os[j]?).bind λo1=>(o1.appd d).map λo2=>O.dT ks _ |none=>if ks.length<16777216 then aa _ else ab)=aa o2:=m
    rw[J]at m;replace m:(if ks.length<16777216 then aa _ else ab)=aa o2:=m;split at m
    .rename_i hlt;cases m;have nal:=fq (G.h _ _ ha) N
     have lf:∀g,g∈fp->g≠l:=λg U z=>by
      have:=Q.was es ev x rt g U;subst z;show this ((x.h.trans G.h).free N)
     have Y:upd (upd H2 l (.lst [])) a (.dT (dL (ks.zip vs) k (.ref l))) l=aa (.lst []):=by rw[aK nal.symm,aY]
     show(by rw[di,om];lia,.inl (rfl,_,SqL.of Y),w,ew,l,[],w,rfl,rfl,Y,by rw[di];show ou _,kq E bm _ xa.f ?_);have xb:=x.trans G;have T:=F.up G.f G.h
     have keep:∀b u,b≠a->H2 b=aa u->upd (upd (upd H2 l (.lst [])) a (.dT (dL (ks.zip vs) k (.ref l)))) l (.lst ([]++[w])) b=aa u:=λb u L e=>by
      have nb:=fq e N;rw[aK nb,aK L,aK nb];show e
     have(kvs,ql',hkv,hv,lm,nw):=HM T.r T.n J (aq.refl _) keep;rw[G.h _ _ ha]at ql';cases ql';show Q.foc es ev (rt.up G.f G.h) xb T (λb u L hn=>keep b u (λz=>hn (by rw[z];show lm)) L) (nw (by rw[aK nal,aY]) (l,[w],[],rfl,aY,OTs.one (rw0.up xb.f,rfl),rfl)) (fh.mpr (T.n,b7.mpr (dA,fJ),λg U g' hg' z=>by rw[bB.mp hg']at z;show lf g (T.sub g U) z)) λg U=>?_
     rcases bv.mp U with y |y
     .show .inl y
     .rw[bB.mp y];show .inr (xb.h.free N,xb.s.free N)
    .nomatch m
 | _=>rw[h1]at m;nomatch m
def zH{f:Str}{v:V}:∀{ns:LSt} {vs:LVv} {k:Nat},ns.length=vs.length->aT f ns=aa k->c9 f v (ns.zip vs)=ns.zip (vs.set k v)
 | [],_,_,_,h=>by cases h
 | _::_,[],_,hl,_=>by cases hl
 |n::ns,u::vs,k,hl,h=>by
  dsimp only[aT]at h;rw[e9];dsimp only[c9];split at h
  .rename_i e;cases h;simp only[if_pos e,tP,e9]
  .rename_i e;rw[if_neg e]
   cases h':aT f ns with
   |none=>rw[h']at h;cases h
   |some j=>
    rw[h']at h;cases h;simp only[qF,e9,zH (by simpa using hl) h']
def HP{f:Str}{v:V}:∀{ns:LSt} {vs:LVv},ns.length=vs.length->aT f ns=ab->c9 f v (ns.zip vs)=(ns++[f]).zip (vs++[v])
 | [],[],_,_=>rfl
 | [],_::_,hl,_=>by cases hl
 | _::_,[],hl,_=>by cases hl
 |n::ns,u::vs,hl,h=>by
  dsimp only[aT]at h;rw[e9];dsimp only[c9];split at h
  .cases h
  .rename_i e;rw[if_neg e]
   cases h':aT f ns with
   |none=>simp only[k4,k4,e9,HP (by simpa using hl) h']
   |some j=>rw[h']at h;nomatch h
def O.setF(o:O)(cn f:Str)(x:O):Option O:=match o with
 | .ins c ns os=>if c=cn/\ns.length < 1000 then (match aT f ns with
  |some k=>aa (.ins c ns (os.set k x))
  |none=>aa (.ins c (ns++[f]) (os++[x]))) else ab
 | _=>ab
def eD(i:Nat)(cn f:Str)(p:Xp)(g:LS->Option O)(M:LS):Option Fl:=(g M).bind λx=>(p M).bind λq=>(q.1.setF cn f x).map λo2=>.nx (M.set i (.deep (q.2 o2)))
def OTs.len{G:Gc}{Hf H:Hp}:∀{os:List O} {vs:LVv} {fs:LAd},OTs G Hf H os vs fs->os.length=vs.length
 | [],_,_,h=>by rw[h.1];rfl
 |o::os,_,_,(v,r,f1,f2,e,_,h2,_)=>by subst e;simp[OTs.len h2]
def HQ{g:LS->Option O}(cn:Str)(hc:Cls X.K (c cn))(hn:cM X.K (c cn) fl)(hp:PS X st (ET X.K (tDP (Gx c X) i p) (tDZ (Gx c X) ac g) fl)):DS c X st (eD i cn fl p g):=PS.imp hp λW8 E H q_=>by
 have(Hf0,H0,Hf,M,o,L,A,kq):=q_;have(x,e1,A):=bg A;have(q,e2,A):=bg A;have(o2,j,A):=dO A;subst A;show(Hf0,H0,Hf,M,x,L,e1,λu gp b3 H1 x1 rx l=>(Hf0,H0,b3,M,q.1,q.2,L.step x1,e2,λt v fp v1 f1 bm H2 es T Q rt F=>?_));have m:=x1.trans Q
 have hg:∀b∈gp,H b=ab/\bm b=ab:=λb d=>by
  show((l.2 b d).1,?_);have(w,hw,ht):=OT.memM x u gp rx b d;rw[Q.n b w hw ht];show(l.2 b d).2
 have ng:=λb d hf=>(L.was es T m rt) b hf (hg b d).1
 cases h1:q.1 with
 |ins c' ns os=>
  rw[h1]at j F;replace j:(if c'=cn/\ns.length<1000 then _ else ab)=aa o2:=j;split at j
  .rename_i hcc;have(rfl,hlt):=hcc;have(a,dx,vs,fs,rfl,ha,hz,B,rfl):=id F.r;have(N,I):=b7.mp F.n;have C:=λz=>ng a z (F.sub a az);show(a,_,dx,ns.zip vs,rfl,ha,hc,hn,by rw[om];lia,kq E bm _ m.f ?_);have keep:∀b w,b≠a->H2 b=aa w->upd H2 a (.ins (c c') dx (c9 fl u (ns.zip vs))) b=aa w:=λb w d e=>by rw[aK d];show e
   have J:=(rx.up Q.f Q.h).frame (aq.refl _) λb w d hm=>keep b w (λz=>by
    subst z;rw[ha]at d;cases d
    rcases hm with hm |hm
    .nomatch hm
    .show C hm) d
   have kk:∀b w,H2 b=aa w->b∉a::fs->upd H2 a _ b=aa w:=λb w d hn=>keep b w (λz=>hn (by rw[z];show az)) d
   cases G:aT fl ns with
   |some k=>
    rw[G]at j;cases j;have hkl:k<os.length:=by rw[B.len,<- hz];show zA G
    have(vk,fk,evk,_,_,sb,bk):=B.foc I (bY hkl)
    have (U,r',m',n'):=bk bm _ x u gp (aq.refl _) (λb w d hm _=>keep b w (λz=>by
     subst z;rw[ha]at d;cases d
     rcases hm with hm |hm
     .nomatch hm
     .show N hm) d) J
    show L.foc es T rt m F kk (a,dx,vs.set k u,U,rfl,by rw[aY,zH hz G],by simp[hz],r',rfl) (b7.mpr (λz=>?_,n' l.1 λb d hf=>absurd (F.sub b (bi _ hf)) (ng b d))) λb d=>?_
    .rcases m' a z with y |⟨y,_⟩
     .show C y
     .show N y
    .rcases aX.mp d with z |z
     .rw[z];show .inl az
     .rcases m' b z with y |⟨y,_⟩
      .show .inr (hg b y)
      .show .inl (bi _ y)
   |none=>
    rw[G]at j;cases j;show L.foc es T rt m F kk (a,dx,vs++[u],fs++gp,rfl,by rw[aY,HP hz G],by simp[hz],((B.stay ha rfl N (aq.refl _) keep).append (.one J)),rfl) (b7.mpr (λz=>?_,fh.mpr (I,l.1,λb d b' Y z=>by subst z;show ng b Y (F.sub b (bi _ d))))) λb d=>?_
    .rcases bv.mp z with y |y
     .show N y
     .show C y
    .rcases aX.mp d with z |z
     .rw[z];show .inl az
     .rcases bv.mp z with y |y
      .show .inl (bi _ y)
      .show .inr (hg b y)
  .nomatch j
 | _=>rw[h1]at j;nomatch j
nonrec def MTf:=Addr->LD->O->Option (O×D)
def iu(G:Gc)(n:Nat)(m:MTf):Sp:=λvs H Q _=>∃Hf ds o o' d l fp b,vs=.ref l::b/\aq Hf H/\OT G Hf H o (.ref l) fp/\fp.Nodup/\(∀a∈fp,Hf a=ab)/\ak G Hf ds b/\1+ds.length=n/\m l ds o=aa (o',d,) /\
 ∀v Hf' H' fp',Ext Hf (gP H fp) Hf' H'->OT G Hf' H' o' (.ref l) fp'->fp'.Nodup->(∀a∈fp',gP H fp a=ab/\Hf' a=ab)->Rep G Hf' d v->Q v H'
def vi(N:Nat)(l:Addr)(ds:LD)(o:O):LS:=(eU N (.non::ds)).set 0 (.deep (.at l o))
open Classical in
def nH(l:Addr)(M:LS):Option O:=match (M[0]?:Option Sl)with
 |some (Sl.deep (.at l' o))=>if l'=l then aa o else ab
 | _=>ab
def RH{o:O}(h:nH l M=aa o):M[0]?=aa (.deep (.at l o)):=by
 unfold nH at h
 grind
def HR{o:O}(h:M[0]?=aa (.deep (.at l o))):nH l M=aa o:=by
 unfold nH;rw[h];show if_pos rfl
def d6(N:Nat)(F:MF3):MTf:=λl ds o=>(F (vi N l ds o)).bind λr=>match r with
 |.nx M=>(nH l M).map λo'=>(o',.non,)
 |.rtS d M=>(nH l M).map λo'=>(o',d,)
 | _=>ab
def ar.startMT{o:O}{b:LVv}(f:aq Hf H)(e:OT G Hf H o (.ref l) fp)(n:fp.Nodup)(c:∀a∈fp,Hf a=ab)(r:ak G Hf ds b):
  ar G Hf (gP H fp) Hf H (L2.start N (.ref l::b)) (vi N.length l ds o):=by
 show(ar.start (Hy f c) (.cons (d:=.non) rfl r)).setNew (i:=0) (Ext.grow (Hy f c) Q9) (.ref l,fp,rfl,(rfl,e),n,λa ha=>(zt ha,c a ha)) λa p=>by
  have(fp',g,ha):=p;have:=OT.funM o _ fp fp' e g.2;subst this;show zt ha
variable{f:Addr}
def gq{k:Nat}{F:MF3}(C:Fun K x qual st f fd)(S:aB N ps (au st))
 (h:∀(cdv:Value) (A:b5) (outer:List Env) (s:ah) (H:Hp) (W8:XK),bu k (A.deeper (fK qual (au st) s.heap.objs.size f cdv))->DSs c (ij CX0 P w K mg base N qual (au st) f cdv A outer s H W8).nox (fw st) F)(i:autoParam (N.length=n_) Zb):
  cq P w K mg base CX0 (k+1) f fd ps (iu (K,c) ps.length (d6 n_ F)):=by
 subst i;show C.ok S (λvs H Q W8 j=>by have(Hf,ds,o,o',d,l,fp,p,g,B,y,n,q,r,hn,_):=j;rw[g,cb,<- r.length];lia) λcdv A outer s H vs Q W8 hr j=>?_;have(Hf,ds,o,o',d,l,fp,p,g,B,y,n,q,r,hn,e,G):=j;show(_,h cdv A outer s H W8 hr,?_);subst g;unfold d6 at e
 cases b:F _ with
 |none=>rw[b]at e;nomatch e
 |some z=>
  rw[b,ax]at e;show(Hf,gP H fp,Hf,_,z,ar.startMT B y n q r,b,?_)
  have fin:∀M d',(nH l M).map (λo'=>(o',d',))=aa (o',d,)->∀v σ' Hf' H',ar (K,c) Hf _ Hf' H' σ' M->Rep (K,c) Hf' d' v->Q v H':=λM d' e v σ' Hf' H' a m=>by
   have(t,E,e):=dO e;cases e;have(u,L,U,fp',T,rt,I,J):=a.slot (RH E);cases rt.1;show G v Hf' H' fp' a.ext rt.2 I J m
  cases z with
  |nx M=>show λσ' Hf' H' _ a=>fin M .non e .non σ' Hf' H' a rfl
  |rtS d' M=>show λv σ' Hf' H' a m=>fin M d' e v σ' Hf' H' a m
  | _=>nomatch e
def ar.treeBack{o o':O}{fp':LAd}(n:ar G Hf0 H0 Hf H E M)(es:M[i]?=aa (.deep o))(e:E[i]?=aa (aa v))(r:OT G Hf H o v fp)(x:Ext Hf (gP H fp) Hf' H')(f:OT G Hf' H' o' v fp')(l:fp'.Nodup)(d:∀a∈fp',gP H fp a=ab/\Hf' a=ab):ar G Hf0 H0 Hf' H' E (M.set i (.deep o')):=by
 have s1 : ar G Hf0 H0 Hf (gP H fp) E (M.set i .no):=n.chg es e (λb y j=>by
  by_cases c:b∈fp
  .show .inl (fp,r,c)
  .show .inr (by rw[ve c];show j)) trivial λa p=>(p.calm rfl).elim
 have s2:=s1.setNew (i:=i) (s:=.deep o') x (v,fp',rfl,f,l,λa ha=>(s1.ext.h.free (d a ha).1,(d a ha).2)) λa p=>by
  have(g,m,ha):=p;have:=OT.funM o' v fp' g f m;subst this;show(d a ha).1
 rw[nF e,set_set]at s2;show s2
abbrev O.isIns(cn fl:Str):O->Bool
 |.ins c ns _=>decide (c=cn) && !ns.contains fl
 | _=>af
def zJ{cn fl:Str}{o:O}(h:o.isIns cn fl=ac):∃ns os,o=.ins cn ns os/\ns.contains fl=af:=by
 cases o with
 |ins c ns os=>
  replace h:(decide _ && !ns.contains fl)=ac:=h
  simp_all
 | _=>nomatch h
def cH(i:Nat)(cn fl:Str)(m:MTf)(f:Xa):Xe:=λM=>match M[i]? with
 |some (.deep (.at _ o0))=>if o0.isIns cn fl then (f M).bind λp=>match p.2[i]? with
  |some (.deep (.at l o))=>(m l p.1 o).map λq=>(q.2,p.2.set i (.deep (.at l q.1)),)
  | _=>ab else ab
 | _=>ab
open Classical in
def jQ(i:Nat)(cn fl:Str)(m:MTf)(f:Xa):Xe:=λM=>match M[i]? with
 |some (.deep o0)=>if o0.isIns cn fl then (f M).bind λp=>match p.2[i]? with
  |some (.deep (.ins c' ns os))=>if h:∃q,∀l,m l p.1 (.ins c' ns os)=aa q then aa (h.choose.2,p.2.set i (.deep h.choose.1),) else ab
  | _=>ab else ab
 | _=>ab
variable{fa:Xa}{m:MTf}{Q:VK}{t:TA}
def HS(cn:Str)(ht:∀E H Q,pT (Gx c X) fa E H Q->t E H Q)(hn:∀M ds ρ',fa M=aa (ds,ρ',)->1+ds.length=ps.length)(q_:tDX (Gx c X) (cH i cn fl m fa) E H Q):um (c cn) fl (iu (Gx c X) ps.length m) [] E0 (cE i) t E H Q:=by
 have(Hf0,H0,Hf,M,d,ρ',st,b,kq):=q_;unfold cH at b;split at b
 .rename_i I o0 p;split at b
  .rename_i hi;have(ns,os,rfl,y):=zJ hi;have(pp,C,b):=bg b;have(ds,ρ1):=pp;split at b
   .rename_i l o1 e;have(q,N,b):=dO b;cases b;have(u,x,u',fp,T,rt,n,z):=st.slot p;subst T;have(el,a,dx,vs,fs,Y,ha,hz,B,efp):=rt;subst el;cases Y;show(_,x,I,dx,ns.zip vs,rfl,ha,ph y,ht _ _ _ (Hf0,H0,Hf,M,ds,ρ1,st,C,λus Hf' H' f1 st1 r=>?_));rw[bN];have(w,G,w',gp,U,A,n1,z1):=st1.slot e;subst U;rw[x]at G;cases G;have(j,g):=A;cases j;show(Hf',ds,o1,q.1,q.2,I,gp,us,rfl,st1.sub,g,n1,λa ha=>(z1 a ha).2,r,hn _ _ _ C,N,λv h L fp3 J r3 n3 z3 rv=>kq v h L (f1.trans J.f) (st1.treeBack e x (rfl,g) J (rfl,r3) n3 z3) rv)
   .grind
  .grind
 .grind
def RI(cn:Str)(ht:∀E H Q,pT (Gx c X) fa E H Q->t E H Q)(hn:∀M ds ρ',fa M=aa (ds,ρ',)->1+ds.length=ps.length)(q_:tDX (Gx c X) (jQ i cn fl m fa) E H Q):um (c cn) fl (iu (Gx c X) ps.length m) [] E0 (cE i) t E H Q:=by
 have(Hf0,H0,Hf,M,d,ρ',st,b,kq):=q_;unfold jQ at b;split at b
 .rename_i o0 j;split at b
  .rename_i hi;have(ns,os,rfl,p):=zJ hi;have(pp,A,b):=bg b;have(ds,ρ1):=pp;split at b
   .rename_i N x y e;split at b
    .rename_i I;have C:=I.choose_spec;generalize I.choose=q at b C;cases b;have(u,l,u',fp,T,rt,n,z):=st.slot j;subst T;have(a,dx,vs,fs,Y,ha,hz,B,efp):=rt;subst Y;show(_,l,a,dx,ns.zip vs,rfl,ha,ph p,ht _ _ _ (Hf0,H0,Hf,M,ds,ρ1,st,A,λus Hf' H' f1 st1 r=>?_));rw[bN];have(w,G,w',gp,U,g,n1,z1):=st1.slot e;subst U;rw[l]at G;cases G;show(Hf',ds,.ins N x y,q.1,q.2,a,gp,us,rfl,st1.sub,g,n1,λa ha=>(z1 a ha).2,r,hn _ _ _ A,C a,λv h L fp3 J r3 n3 z3 rv=>kq v h L (f1.trans J.f) (st1.treeBack e l g J r3 n3 z3) rv)
    .nomatch b
   .nomatch b
  .nomatch b
 .nomatch b
def HU{k:Nat}{o:Expr}(cn:Str)(l:PE X o (cE i))(pk:Pm X.prog X.w X.K X.mg X.base CX0 k (c cn) fl (f,fd,) ps (iu (Gx c X) ps.length m))(g:bu k0 X.A)(ha:DAX c X (e::es) fa)(q:autoParam ((e::es).length+1=ps.length) Zb)(j:autoParam (StE X e es) Zb)(d:autoParam (BkE X pos es) Zb)(n:autoParam (eval (.Call (.Attribute o fl apos) (e::es) [] pos) X.env=(do
   let ov <- eval o X.env
   gB apos.atName
   let (f,first,) <- eO [ov] (hJ ov fl pl)
   jG pos f first (cg pos (aM (e::es) X.env)) (iA pos (iz [] X.env)))) Zb)(a:autoParam (k<=k0) Zc):
  DX c X (.Call (.Attribute o fl apos) (e::es) [] pos) (cH i cn fl m fa):=PE.imp (x8 l pk.c pk.m pk.ok (g.mono a) pk.b .nil gg ha.pa j d n) λE H Q p=>HS cn (λ_ _ _ h=>h) (λM ds ρ' h=>by have:=ha.len M ds ρ' h;lia) p
def RJ{k:Nat}{o:Expr}(cn:Str)(l:PE X o (cE i))(pk:Pm X.prog X.w X.K X.mg X.base CX0 k (c cn) fl (f,fd,) ps (iu (Gx c X) ps.length m))(d:bu k0 X.A)(j:autoParam (1=ps.length) Zb)(n:autoParam (eval (.Call (.Attribute o fl apos) [] [] pos) X.env=(do
   let ov <- eval o X.env
   gB apos.atName
   let (f,first,) <- eO [ov] (hJ ov fl pl)
   jG pos f first (cg pos (aM [] X.env)) (iA pos (iz [] X.env)))) Zb)(a:autoParam (k<=k0) Zc):
  DX c X (.Call (.Attribute o fl apos) [] [] pos) (cH i cn fl m cu):=PE.imp (x9 l pk.c pk.m pk.ok (d.mono a) pk.b .nil gg n) λE H Q e=>HS cn (λE H Q e=>by have(Hf0,H0,Hf,M,ds,ρ',st,g,k):=e;cases g;show k [] Hf H (aq.refl _) st rfl) (λM ds ρ' h=>by cases h;show j) e
def HV{k:Nat}{o:Expr}(cn:Str)(l:PE X o (cE i))(pk:Pm X.prog X.w X.K X.mg X.base CX0 k (c cn) fl (f,fd,) ps (iu (Gx c X) ps.length m))(d:bu k0 X.A)(j:autoParam (1=ps.length) Zb)(n:autoParam (eval (.Call (.Attribute o fl apos) [] [] pos) X.env=(do
   let ov <- eval o X.env
   gB apos.atName
   let (f,first,) <- eO [ov] (hJ ov fl pl)
   jG pos f first (cg pos (aM [] X.env)) (iA pos (iz [] X.env)))) Zb)(a:autoParam (k<=k0) Zc):
  DX c X (.Call (.Attribute o fl apos) [] [] pos) (jQ i cn fl m cu):=PE.imp (x9 l pk.c pk.m pk.ok (d.mono a) pk.b .nil gg n) λE H Q e=>RI cn (λE H Q e=>by have(Hf0,H0,Hf,M,ds,ρ',st,g,k):=e;cases g;show k [] Hf H (aq.refl _) st rfl) (λM ds ρ' h=>by cases h;show j) e
open Classical in
def nI(cn:Str)(m:MTf)(fa:MF2)(M:LS):Option O:=(fa M).bind λds=>if h:∃o,∀l,m l ds (.ins cn [] [])=aa (o,.non,) then aa h.choose else ab
variable{bb:Bool}{fa:MF2}
def RK{cn:Str}(hC:W9=G.cl cn)(I:∀E H Q,tDA G fa E H Q->t E H Q)(hn:∀M ds,fa M=aa ds->1+ds.length=ps.length)(T:tDZ G bb (nI cn m fa) E H Q):EX W9 (iu G ps.length m) [] E0 t E H Q:=by
 have(Hf0,H0,Hf,M,o,st,c,L):=T;have(ds,x,c):=bg c;split at c
 .rename_i B;have A:=B.choose_spec;generalize B.choose=o' at c A;cases c;show I _ _ _ (Hf0,H0,Hf,M,ds,st,x,λvs b3 H1 d r y dx p i j=>?_);rw[bN];subst hC;have J:(upd H1 dx (.own y)) y=ab:=by rw[aK j.symm];show p
  have s1:aq H1 (upd H1 dx (.own y)):=bO i;have s2:=s1.trans (bO (o:=.ins (G.cl cn) dx []) J)
  have w:aq H1 (gP _ [y]):=λb u q=>by
   rw[ve (λz=>fq q p (bB.mp z))];show s2 b u q
  show(b3,ds,.ins cn [] [],o,.non,y,[y],vs,rfl,d.s.trans s2,(y,dx,[],[],rfl,aY,rfl,(rfl,rfl),rfl),b7.mpr (dA,fJ),λa ha=>by rw[bB.mp ha];show d.s.free p,r,hn M ds x,A y,λv bm H2 g e U N C Y=>(Y,?_));have x3:Ext b3 H1 bm H2:=(e.f,w.trans e.h,e.s,λl u q t=>e.n l u (w l u q) t);show L _ g bm H2 (d.trans x3) U (N,λa ha=>(vd st.ext.h (d.h.free (w.free (C a ha).1)),(C a ha).2))
 .nomatch c
variable{p:Pos}
def RL{k:Nat}(cn:Str)(d:Mk X.K (c cn) f)(F:cq X.prog X.w X.K X.mg X.base CX0 k f fd ps (iu (Gx c X) ps.length m))(hr:bu (k+1) X.A)(j:Gl X x)(hm:X.mg x=aa (.ref (c cn)))(g:dS X.K fd ps [])(ha:DA c X (e::es) fa)
 (n:autoParam ((e::es).length+1=ps.length) Zb)(a:autoParam (NDb x) Zc)(i:autoParam (StE X e es) Zb)(b:autoParam (BkE X pos es) Zb):
  DZ c X bb (.Call (.Name x p) (e::es) [] pos) (nI cn m fa):=PE.imp (EY d F hr j hm g .nil gg ha.pa a i b) λE H Q l=>RK rfl (λ_ _ _ h=>h) (λM ds h=>by have:=ha.len M ds h;lia) l
def hu1{u:Nat}(h:u+64<cLine):u+1<cLine:=mi (Nat.add_le_add_left (by decide) u) h
def HW{f:MF2}(h:DL c X e f):DIe c X tg e f:=PI.imp (xP h) λE H R d=>by
 have(Hf0,H0,Hf,M,ds,st,b,k):=d;show(Hf0,H0,Hf,M,ds,st,b,λl vs Hf' H' x a r=>(l,rfl,(vs,SqL.of a),k _ Hf' H' x (Gh (SqL.of a) r)))
def vj(f:MF2)(M:LS):OLD:=(f M).map (iK 0)
variable{a:Expr}
def RM{f:MF2}(L:Gl X "enumerate")(hm:X.mg "enumerate"=ab)(ha:DL c X a f)(w:autoParam (aM [a] X.env=[(af,eval a X.env,)]) Zb):
  DIe c X (.Tuple elts kx gF) (.Call (.Name "enumerate" p) [a] [] pos) (vj f):=PI.imp (GD L hm (d3 ha dR w) w) λE H R N=>by
 have(Hf0,H0,Hf,M,ds,st,g,k):=N;have(C,A,g):=dO g;subst g;show(Hf0,H0,Hf,M,C,st,A,λl vs Hf' H' x q r=>(l,rfl,(vs,SqL.of q),k _ Hf' H' x λbm H2 e i=>?_));have j:SqL X.K H2 l vs:=SqL.of (e.h _ _ q);have Y:=r.length;show(λd b=>?_,λG=>(vs,j,by rw[yU]at G;lia));rw[yV]at b;have(y,I,b):=dO b;subst b;have(u,n,ru):=r.get I;show((vs,u,j,n),λz U T=>?_);have(pp,z1,J,v,B,Q):=T;subst J B;have m:=Q vs j;rw[n]at m;cases m;show(upd bm pp _,Ext.new e.s v,pp,_,rfl,aY,.cons (by rw[k7];rfl) (.cons (ru.up (e.f.trans (bO (e.s.free v)))) .nil))
def RN:DZ c X bb (.Dict [] [] pos) (λ_=>aa (.dT [] [])):=PE.imp NB λE H Q d=>by
 have(Hf0,H0,Hf,M,o,st,b,k):=d;cases b;intro l a;show k _ [l] Hf _ (Ext.tmp st.sub a) (l,[],[],rfl,aY,rfl,(rfl,rfl),rfl) (.one (vd st.ext.h a) (st.sub.free a))
end L2
namespace HT
open List
open PySem PyProof.Rows
open PySem.SeqAt
open PySem.AutoSeq1 (wpAny_loadPart')
open PySem.MeetsSeq PySem.MeetsSeq2 PySem.MeetsSeq3
def RO(l:Addr)(L:Array Value)(n:Nat)(x:Value)(f:Value->Bool)(j:Nat)(p:j<L.size)(q:f L[j]=ac)(hz:L.size<=aS)(k:Nat):
  ∀i:Nat,j-i=k->i<=j->(∀m (hm:m<L.size),i<=m->m<j->f L[m]=af)->Meets (eP.«list.remove.loop» ([.ref l,x,cj i],[]))
   (λA R s=>s.heap.get? l=aa {cls:=.type "list",dict:=ab,data:=.seq L n,slots:=#[]}/\(∀y,y∈L->EqAt A.in1 s y x (f y))/\R (.ok (.ret .none)) {s with heap:=s.heap.update l (hX λC=>C.eraseIdxIfInBounds j)}):=by
 induction k with
 |zero=>
  intro i r e b prog w A R s h;have(c,d,h):=h;obtain rfl:i=j:=by lia
  wp_walk using tT c
  rw[show L[(_:Int).toNat]?=aa L[i] by simp[p]];show aj (d _ (Array.getElem_mem p) prog w _ _ ?_);have g:(L.eraseIdxIfInBounds i).size<=aS+1:=cS (size_erased L _) (Nat.le_succ_of_le hz)
  wp_walk using (tX c rfl (_hz':=g)),tT c
  show h
 |succ k u=>
  intro i r e b prog w A R s h;have(c,d,h):=h;have a:i<L.size:=by lia
  wp_walk using tT c
  rw[show L[((i:Nat):Int).toNat]?=aa L[i] by simp[a]];show aj (d _ (Array.getElem_mem a) prog w _ _ ?_);rw[b i a (aL _) (by lia)]
  wp_walk
  show (mr plain_remove_loop _,j8 entry_remove_loop (by
   show u (i+1) (by lia) (by lia) (λm hm v h2=>b m hm (by lia) h2) prog w A R _ (c,d,h)))
def remAt(l:Addr)(L:Array Value)(n:Nat)(x:Value)(f:Value->Bool)(j:Nat)(e:j<L.size)(a:f L[j]=ac)(b:∀m (hm:m<L.size),m<j->f L[m]=af)(hz:L.size<=aS):Meets (eP.«list.remove» ([.ref l,x],[]))
   (λA R s=>s.heap.get? l=aa {cls:=.type "list",dict:=ab,data:=.seq L n,slots:=#[]}/\(∀y,y∈L->EqAt A.in1 s y x (f y))/\R (.ok (.ret .none)) {s with heap:=s.heap.update l (hX λC=>C.eraseIdxIfInBounds j)}):=by
 intro prog w A R s h;have(c,d,h):=h
 wp_walk using tT c
 show (mr plain_remove_loop _,j8 entry_remove_loop (by
  show RO l L n x f j e a hz _ 0 rfl (ce _) (λm hm _ h2=>b m hm h2) prog w A R _ (c,d,h)))
end HT
namespace L2
open List
open PySem PySem.Spec PyProof.Rows
abbrev HX(G:Gc):V->LVv->Hp->VK->Prop:=λa vs H Q=>∃Hf l us ds x w,a=.ref l/\vs=[w]/\aq Hf H/\H l=aa (.lst us)/\ak G Hf ds us/\Rep G Hf x w/\du x ds=aa ac/\Q .non (upd H l (.lst (us.eraseIdx (ds.findIdx (isE x)))))
def O.remd(x:D)(o:O):Option O:=o.items.bind λds=>if du x ds=aa ac then aa (.lst ((ds.eraseIdx (ds.findIdx (isE x))).map .fz)) else ab
def pY(i:Nat)(p:Xp)(f:MF1)(M:LS):Option Fl:=(p M).bind λq=>(f M).bind λd=>(q.1.remd d).map λo2=>.nx (M.set i (.deep (q.2 o2)))
variable{c:Str->Addr}{X:Cx}
def RP(hu:X.A.units+64<cLine):MtM X "list.remove" (HX (Gx c X)):=by
 rintro U s E H x C v us Q I rx rv ⟨Hf,l,vs,ds,z,w,rfl,rfl,G,q,B,r2,a,k⟩;subst rx;have(u,rfl,ru):=rv.one;have(z1,L,n,j,N,e0):=I.lstM q;have(f,J,ha):=rN (A:=X.A.in1) I (by rw[qR];lia) (r2.up G) ru (B.up G) j a;have(k1,k2):=zw a
 have same:∀m _,f L[m]=isE z (ds.getD m .non):=λm hm=>by
  have i:m<ds.length:=by rw[B.length,N];show hm
  have(v1,g,r):=B.get (bY i);have(u1,b,ru1):=j.get g;rw[bY hm]at b;cases b;have(_,d',v',r',p,h'):=J L[m] (g4 hm);have Y:=aC.inj p ru1;subst Y;have(T,d):=k1 ds[m] (g4 i);rw[bK,bY i];change _=isE z ds[m];unfold isE;rw[d,(rM 19 r' (r.up G) h' d)]
  cases T <;> rfl
 have M:=wW (any_eq_true.mp k2);have e:ds.findIdx (isE z)<L.length:=by rw[<- N,<- B.length];show M
 show oG F.slot_list_remove (_,e0,rfl) F.entry_list_remove (F.args_list_remove_2 _ _) (HT.remAt l L.toArray n u f _ (by rw[size_toArray];show e) ?_ ?_ (by rw[size_toArray];lia)) (e0,λy hy=>(J y (by simpa using hy)).1,?_)
 .rw[tK,same _ e,bK,bY M];show findIdx_getElem
 .intro m hm h;rw[tK,same m (by rw[size_toArray]at hm;show hm),bK,bY _];have:=not_of_lt_findIdx h;show this
 .show(.non,_,I.lset q e0 ?_ (j.eraseIdx _) ?_,rfl,k)
  .change L.toArray.eraseIdxIfInBounds _=(L.eraseIdx _).toArray;rw[eraseIdxIfInBounds_toArray]
  .have:=yc vs (ds.findIdx (isE z))
   lia
variable{st:Stmt}{i:Nat}{p:Xp}
def RQ{f:MF1}(h:PS X st (ly (tBM X.K "list" (HX (Gx c X)) (tDP (Gx c X) i p) (jc (tD (Gx c X) f) ig)))):DS c X st (pY i p f):=PS.imp h λW8 E H q_=>by
 have(Hf0,H0,Hf,M,o,G,g,kq):=q_;have(q,N,g):=bg g;have(d,Q,g):=bg g;have(o2,y,g):=dO g;subst g;have(ds,T,y):=bg (y);split at y
 .rename_i A;cases y;show(Hf0,H0,Hf,M,q.1,q.2,G,N,λt v fp v1 f1 C H1 es U x rt F=>?_);have L:=F.r;rw[r9 T]at L;have(l,us,fs,rfl,J,B,j):=L;have(rd,rfl):=B.unfz;show(.inl (rfl,_,SqL.of J),Hf0,H0,C,M,d,G.step x,Q,λw m H2 e r2=>?_);show(m,l,us,ds,d,w,rfl,rfl,e.s,e.h _ _ J,rd.up e.f,r2,A,kq E m _ (x.trans e).f ?_);have I:=F.up e.f e.h
  have:=G.foc es U (rt.up e.f e.h) (x.trans e) I (λb u Y hn=>by rw[aK (λz=>hn (by rw[j,z];show az))];show Y)
   (o2:=.lst ((ds.eraseIdx (ds.findIdx (isE d))).map .fz)) (l,_,[],rfl,aY,OTs.fz ((rd.up e.f).erase _),rfl) (by rw[<- j];show I.n) λa ha=>.inl (by rw[j];show ha)
  show this
 .nomatch y
def iw(cn f:Str)(m:LD->OLD)(fo:MF1)(fa:MF2)(M:LS):OLD:=(fo M).bind λd=>match d with
 |.ins a ns ds=>if a=cn/\ns.contains f=af then (fa M).bind λas=>(m (.ins a ns ds::as)).bind λB=>if B.all D.flat then aa B else ab else ab
 | _=>ab
abbrev HY:Fl->Option (LD ⊕ D)
 |.rtO ds=>aa (.inl ds)
 |.rt d=>if d.scalar then aa (.inr d) else ab
 | _=>ab
abbrev zK(n:Nat)(F:MF3)(ds:LD):Option (LD ⊕ D):=(F (eU n ds)).bind HY
def spN(G:Gc)(n:Nat)(m:LD->Option (LD ⊕ D)):Sp:=λvs H Q _=>∃Hf ds r,aq Hf H/\ak G Hf ds vs/\ds.length=n/\m ds=aa r/\(∀B,r=.inl B->∀l us Hf' H',Ext Hf H Hf' H'->H l=ab->Hf' l=ab->H' l=aa (.lst us)->ak G Hf' B us->Q (.ref l) H') /\
 ∀d,r=.inr d->d.scalar=ac/\∀v Hf' H',Ext Hf H Hf' H'->Rep G Hf' d v->Q v H'
variable{P:cf}{w:World}{K:aQ}{mg:MGT}{base:Heap}{n_:Nat}{x qual:Str}{f:Addr}{fd:cT}{N ps:LSt}
def RS{k:Nat}{F:MF3}(j:Fun K x qual st f fd)(S:aB N ps (au st))
 (h:∀(cdv:Value) (A:b5) (outer:List Env) (s:ah) (H:Hp) (W8:XK),bu k (A.deeper (fK qual (au st) s.heap.objs.size f cdv))->DSs c (ij CX0 P w K mg base N qual (au st) f cdv A outer s H W8).nox (fw st) F)(a:autoParam (N.length=n_) Zb):
  cq P w K mg base CX0 (k+1) f fd ps (spN (K,c) ps.length (zK n_ F)):=by
 subst a;show j.ok S (λvs H Q W8 b=>by have(Hf,ds,d,i,r,g,_):=b;rw[<- r.length];show g) λcdv A outer s H vs Q W8 hr b=>?_;have(Hf,ds,r,i,rd,g,e,m,n):=b;show(_,h cdv A outer s H W8 hr,?_);have(o,l,e):=bg e;show(Hf,H,Hf,_,o,ar.start i rd,l,?_)
 cases o with
 |rtO B=>cases e;show m B rfl
 |rt d=>
  replace e:(if d.scalar then aa _ else ab)=aa r:=e;split at e
  .cases e;show(n d rfl).2
  .nomatch e
 | _=>nomatch e
def pZ(m:LD->Option (LD ⊕ D))(f:MF2)(M:LS):OD:=(f M).bind λds=>(m ds).bind λr=>match r with
 |.inl B=>if B.all D.flat then aa (.lst B) else ab
 |.inr d=>if d.scalar then aa d else ab
variable{e:Expr}{es:LEx}{p pos:Pos}{fa:MF2}{k0:Nat}
def RT{k:Nat}{m:LD->Option (LD ⊕ D)}(pk:Pk X.prog X.w X.K X.mg X.base CX0 k x (f,fd,) ps (spN (Gx c X) ps.length m))(L:bu k0 X.A)(ha:DAB c X (e::es) fa)(hl:autoParam ((e::es).length=ps.length) Zb)(G:autoParam (NDb x) Zc)(he:autoParam (StE X e es) Zb)(J:autoParam (BkE X pos es) Zb)(I:autoParam (k<=k0) Zc)(hg:autoParam (Gl X x) Zi):
  DE c X (.Call (.Name x p) (e::es) [] pos) (pZ m fa):=PE.imp (oQ pk.ok (L.mono I) hg pk.g pk.kp pk.b .nil gg ha.pa G he J) λE H Q q_=>by
 have(Hf0,H0,Hf,M,d,st,a,U):=q_;have(ds,T,a):=bg a;have(r,Y,a):=bg a;show(Hf0,H0,Hf,M,ds,st,T,λvs Hf' H' x rv=>?_);rw[bN];show(H',ds,r,aq.refl _,rv,(ha.len M ds T).trans hl,Y,λB C l us z n y hn hf i N=>?_,λd' C=>?_)
 .subst C;replace a:(if B.all D.flat then aa _ else ab)=aa d:=a;split at a
  .rename_i u;cases a;have j:lP Hf' n l=ab:=by rw[pM (λvs q=>by rw[i]at q;nomatch q)];show x.s.free hn
   show U _ _ n ((x.trans (zn x.s y.h)).fix (x.h.free hn) j i) (l,us,rfl,aY,((N.up y.s).flat u).up (bO j))
  .nomatch a
 .subst C;replace a:(if d'.scalar then aa d' else ab)=aa d:=a;split at a
  .rename_i u;cases a;show(u,λv z n y N=>U v Hf' n (x.trans (Ext.grow x.s y.h)) (N.sc u))
  .nomatch a
variable{fl:Str}{apos:Pos}{fo:MF1}{pl:Sem Bool}
def HZ{o:Expr}{k:Nat}{m:LD->OLD}(cn:Str)(ho:DB c X o fo)(pk:Pm X.prog X.w X.K X.mg X.base CX0 k (c cn) fl (f,fd,) ps (spO (Gx c X) ps.length m))(G:bu k0 X.A)(ha:DAB c X (e::es) fa)(hl:autoParam ((e::es).length+1=ps.length) Zb)(I:autoParam (StE X e es) Zb)(C:autoParam (BkE X pos es) Zb)(ht:autoParam (eval (.Call (.Attribute o fl apos) (e::es) [] pos) X.env=(do
   let ov <- eval o X.env
   gB apos.atName
   let (f,first,) <- eO [ov] (hJ ov fl pl)
   jG pos f first (cg pos (aM (e::es) X.env)) (iA pos (iz [] X.env)))) Zb)(y:autoParam (k<=k0) Zc):
  DO c X (.Call (.Attribute o fl apos) (e::es) [] pos) (iw cn fl m fo fa):=PE.imp (x8 ho pk.c pk.m pk.ok (G.mono y) pk.b .nil gg ha.pa I C ht) λE H Q q_=>by
 have(Hf0,H0,Hf,M,B,st,g,kq):=q_;have(d,e1,j):=bg g;clear g
 cases d with
 |ins J ns ds=>
  have g:(if J=cn/\ns.contains fl=af then (fa M).bind λas=>(m _).bind λB=>if B.all D.flat then aa B else ab else ab)=aa B:=j;split at g
  .rename_i u;have(p,z):=u;subst p;have(as,L,j):=bg g;have(rs',e3,g):=bg j;split at g
   .rename_i hs;cases g;show(Hf0,H0,Hf,M,_,st,e1,λv n H1 T r=>?_);have(a,dx,vs,ev,q,N,rr):=id r;subst ev;show(a,dx,ns.zip vs,rfl,q,ph z,Hf0,H0,n,M,as,st.step T,L,λws bm H2 U r2=>?_);rw[bN];have x:=T.trans U;show(H2,.ins J ns ds::as,_,aq.refl _,.cons (r.up U.h) r2,by rw[cb,ha.len M as L];show hl,e3,λl us Hf3 H3 Y hn hf i r3=>(kq l us _ H3 (x.trans (zn x.s Y.h)) (x.h.free hn) (by rw[pM (λvs q=>by rw[i]at q;nomatch q)];show x.s.free hn) i ((r3.up Y.s).flat hs)))
   .nomatch g
  .nomatch g
 | _=>nomatch j
abbrev lT(w pr k:Nat)(js:LN)(g:D->LS->Option LS)(ft:MF4)(fe:MF1):LD->LS->LD->Option (LS×LD)
 | [],M,W6=>aa (M,W6,)
 |b::bs,M,W6=>if W6.length<=16777216 then (eS (gK g ft fe (iH k js ((M.set pr (.im b)).set w .no))) W6).bind λa=>lT w pr k js g ft fe bs (M.set pr (.im b)) a else ab
def p7(w pr:Nat)(a:MF4)(e d:MF2)(k:Nat)(js:LN)(g:D->LS->Option LS)(ft:MF4)(fe:MF1)(M:LS):Option Fl:=
 (a M).bind λb=>(d (M.set w .no)).bind λbs=>if b=!bs.isEmpty then (if b then e M else aa []).bind λc=>(lT w pr k js g ft fe bs M c).map λp=>.nx (p.1.set w (.own p.2)) else ab
variable{G:Gc}{Hf0 H0 Hf H:Hp}{E:St}{M:LS}{v:V}
def ar.setAny(h:ar G Hf0 H0 Hf H E M):ar G Hf0 H0 Hf H (E.set i (aa v)) (M.set i .no):=h.setNew (Ext.refl h.sub) trivial λa p=>(p.calm rfl).elim
variable{w pr:Nat}{js:LN}{fb:MF2}{g:D->LS->Option LS}{ft:MF4}{fe:MF1}{ρ1:LS}
def H9{k:Nat}(hG:G.K=X.K)(hj:js.Nodup)(hk:∀d M ρ' i,g d M=aa ρ'->k<=i->ρ'[i]?=M[i]?)(C:∀d M ρ',g d M=aa ρ'->ρ'.length=M.length)(L:pr≠w){bs U L1:LD}{W8:ja}{a0:Addr}{r:LVv}
 (st:ar G Hf0 H0 Hf H E (M.set w .no))(hw:w<M.length)(ew:E[w]?=aa (aa (.ref a0)))(ha:H a0=aa (.lst r))(r0:ak G Hf U r)(hb:fb (M.set w .no)=aa bs)(fr:bs=[]->ar G Hf0 H0 Hf H E (M.set w (.own U)))
 (el:lT w pr k js g ft fe bs M U=aa (ρ1,L1,))(kq:∀σ' Hf' H',aq Hf Hf'->ar G Hf0 H0 Hf' H' σ' (ρ1.set w (.own L1))->W8.nx σ' H'):
  xQ (tDI G fb) (ib pr) (jb (oW k js (xO X.K (cE w)) (tDG G g) (tDT G ft) (tD G fe)) (ib w)) W8 E H:=by
 show(Hf0,H0,Hf,_,bs,st,hb,λJ j H1 Q it=>?_)
 show(λi m σ' H'=>m=bs.length-i/\i<=bs.length/\∃Hf' ρ' W6 a vs,ar G Hf0 H0 Hf' H' σ' (ρ'.set w .no)/\w<ρ'.length/\σ'[w]?=aa (aa (.ref a))/\H' a=aa (.lst vs)/\ak G Hf' W6 vs/\aq j Hf'/\lT w pr k js g ft fe (bs.drop i) ρ' W6=aa _/\(i=bs.length->ar G Hf0 H0 Hf' H' σ' (ρ'.set w (.own W6))),
  (bs.length,rfl,ce _,j,M,U,a0,r,st.step Q,hw,ew,Q.h _ _ ha,r0.up Q.f,aq.refl _,el,λe=>(fr (tM.mp e.symm)).step Q),?_)
 rintro i m σ' H' ⟨rfl,hi,Hf',ρ',W6,a,vs,N,hw',A,B,r',s1,b,own⟩;have(it1,it2):=it Hf' H' s1 N.sub i
 by_cases I:i<bs.length
 .have(d,ed,edr):=yM I;have(go,yl):=it1 d ed;rw[edr]at b;unfold lT at b;split at b
  .rename_i hz;have(L',ec,el2):=bg b;show .inr (go,λu c=>bs.length-_=bs.length-_/\i+1<=bs.length/\∃Hf' ρ' W6 a vs,ar G Hf0 H0 Hf' c u _/\w<ρ'.length/\u[w]?=aa _/\c a=aa _/\ak G Hf' W6 vs/\aq j Hf'/\lT w pr k js g ft fe _ ρ' W6=aa _/\_,λu c z=>(bs.length-(i+1),by lia,z),λx c y=>?_);have(v,T,rx):=yl x c y
   have n:ar G Hf0 H0 v c (σ'.set pr (aa x)) ((ρ'.set pr (.im d)).set w .no):=by
    have:=(N.step T).setIm (i:=pr) rx;rw[set_comm _ _ L.symm]at this;show this
   have ew2:(σ'.set pr (aa x))[w]?=aa (aa (.ref a)):=by rw[kX L];show A
   show Gi hj hk C n (λR q=>(.ref a,ew2,a,rfl,(vs,SqL.of (T.h _ _ B)),?_)) hz ec λl us Y H3 x3 hn hf hl rl=>?_
   .have:=q _ v c (Ext.refl n.sub) (Gh (SqL.of (T.h _ _ B)) (r'.up T.f));rw[hG]at this;show this
   .have p:=n.setOwn (i:=w) (s:=.own L') rfl x3 hn hf (us,hl,rl);rw[set_set]at p;have hsl:w<(σ'.set pr (aa x)).length:=by rw[iy];show(cX.mp A).1
    show(rfl,I,Y,ρ'.set pr _,L',l,us,?_,by rw[iy];show hw',jX hsl,hl,rl,(s1.trans T.f).trans x3.f,el2,λ_=>p);have:=p.setNo (i:=w);rw[set_set]at this;show this
  .nomatch b
 .have ei:i=bs.length:=by lia
  subst ei;rw[drop_eq_nil_of_le (aL _)]at b;cases b;show .inl (it2 rfl,kq σ' Hf' H' (Q.f.trans s1) (own rfl))
variable{fg:MF2}{ft0:MF4}
def RU{k:Nat}{s1 s2:Stmt}{rest:List Stmt}{F:MF3}(hj:js.Nodup)(hk:∀d M ρ' i,g d M=aa ρ'->k<=i->ρ'[i]?=M[i]?)(q:∀d M ρ',g d M=aa ρ'->ρ'.length=M.length)(C:pr≠w)
 (h1:PS X s1 (jb (tIf (tDT (Gx c X) ft0) (tDL (Gx c X) fg) (xZ ig)) (ib w)))(h2:PS X s2 (xQ (tDI (Gx c X) fb) (ib pr) (jb (oW k js (xO X.K (cE w)) (tDG (Gx c X) g) (tDT (Gx c X) ft) (tD (Gx c X) fe)) (ib w))))(hr:DSs c X rest F):
  DSs c X (s1::s2::rest) (λM=>if w<M.length then ai (p7 w pr ft0 fg fb k js g ft fe) F M else ab):=PSs.imp (ud h1 (ud h2 hr)) λW8 E H q_=>by
 have(Hf0,H0,Hf,M,o,I,B,x):=q_;split at B
 .rename_i Q;have(r,j,B):=bg (B);have(b,e2,j):=bg j;have(bs,Y,j):=bg j;split at j
  .rename_i hb;have(L0,e4,j):=bg j;have(p,e5,j):=dO j;subst j;show(Hf0,H0,Hf,M,b,I,e2,λu U y=>?_);have G:w<E.length:=by rw[I.len];show Q
   have fin:∀{v:Hp},aq Hf v->∀σ' Hf' H',aq v Hf'->ar _ Hf0 H0 Hf' H' σ' _->tDS _ F W8 σ' H':=λT σ' Hf' H' s1 m=>(Hf0,H0,Hf',_,o,m,B,by
    cases o with
    |nx M=>show λn h A s2 e=>x n h A ((T.trans s1).trans s2) e
    |bk M=>show λn h A s2 e=>x n h A ((T.trans s1).trans s2) e
    |ct M=>show λn h A s2 e=>x n h A ((T.trans s1).trans s2) e
    |rt d=>show x
    |rtO d=>show x
    |rtS d M=>show x
    |rtT t=>show x)
   cases b with
   |true=>
    show(Hf0,H0,u,M,L0,I.step y,e4,λa vs v H2 L ha r=>?_)
    show H9 rfl hj hk q C ((I.step y).step L).setAny Q (jX G) ha r Y (λz=>by rw[z]at hb;nomatch hb) e5 (λσ' Hf' H' s1 m=>fin (y.f.trans L.f) σ' Hf' H' s1 m)
   |false=>
    cases e4;show(ce _,λl N=>?_);have L:Ext u U u (upd U l (.lst [])):=Ext.tmp y.s N;have e:=(I.step y).setOwn (i:=w) (s:=.own []) rfl L N (y.s.free N) ([],aY,.nil);have J:=e.setNo (i:=w);rw[set_set]at J;show H9 rfl hj hk q C J Q (jX G) aY .nil Y (λ_=>e) e5 (λσ' Hf' H' s1 m=>fin y.f σ' Hf' H' s1 m)
  .nomatch j
 .nomatch B
def RV{i k:Nat}(h:i<k):∀d (M ρ':LS) j,ay i d M=aa ρ'->k<=j->ρ'[j]?=M[j]?:=λd M ρ' j e a=>by cases e;show kX (by lia)
def RW:∀d (M ρ':LS),ay i d M=aa ρ'->ρ'.length=M.length:=λd M ρ' e=>by cases e;show iy
variable{o1:O}{R:O->O}
def RX(d:ar G Hf0 H0 Hf H E M)(h:aH i M=aa (o1,R,)):∃o v fp,M[i]?=aa (.deep o)/\E[i]?=aa (aa v)/\OT G Hf H o v fp/\fp.Nodup/\(∀a∈fp,H0 a=ab/\Hf a=ab)/\Foc G Hf H o v fp o1 v fp R:=by
 have main:∀o,M[i]?=aa (.deep o)->(∀v fp,OT G Hf H o v fp->fp.Nodup->Foc G Hf H o v fp o1 v fp R)->∃o v fp,M[i]?=aa (.deep o)/\E[i]?=aa (aa v)/\OT G Hf H o v fp/\fp.Nodup/\(∀a∈fp,H0 a=ab/\Hf a=ab)/\Foc G Hf H o v fp o1 v fp R:=λo es F=>by
  have(v,b,u,fp,c,r,n,z):=d.slot es;subst c;show(o,u,fp,es,b,r,n,z,F u fp r n)
 unfold aH at h;split at h
 .rename_i l o es;cases h;show main _ es λv fp r n=>Foc.at r n
 .rename_i o _ es;cases h;show main _ es λv fp r n=>Foc.refl r n
 .nomatch h
def RY{cn f:Str}(g:ar G Hf0 H0 Hf H E M)(h:aU cn f (aH i) M=aa (o1,R,)):∃o v fp v1 f1,M[i]?=aa (.deep o)/\E[i]?=aa (aa v)/\OT G Hf H o v fp/\fp.Nodup/\(∀a∈fp,H0 a=ab/\Hf a=ab)/\Foc G Hf H o v fp o1 v1 f1 R:=by
 have(q,c,h):=bg h;have(r,d,h):=dO h;cases h;have(o,v,fp,es,e,rt,n,z,F):=RX g c;have(a,dx,ns,vs,j,f2,_,_,_,b):=F.fld d;show(o,v,fp,j,f2,es,e,rt,n,z,b)
variable{l:Addr}
def ar.focFix{o:O}{fp:LAd}{ds:LD}{vs:LVv}(B:ar G Hf0 H0 Hf H E M)(es:M[i]?=aa (.deep o))(J:E[i]?=aa (aa v))(r:OT G Hf H o v fp)(n:fp.Nodup)(z:∀a∈fp,H0 a=ab/\Hf a=ab)(F:Foc G Hf H o v fp (.lst (ds.map .fz)) (.ref l) [l] R)(ql:H l=aa (.lst vs))(rd:ak G Hf ds vs):
  ar G Hf0 H0 (upd Hf l (.lst vs)) H E (M.set i (.deep (R (.fz (.lst ds))))):=by
 have N:=F.sub l az;have Q:=(z l N).2;have m:aq Hf (upd Hf l (.lst vs)):=bO Q;have(fp',T,mem,nd):=F.back _ H (.fz (.lst ds)) [] m (λb u e _=>e) ((l,vs,rfl,aY,rd.up m),rfl)
 have c:∀a∈fp',a∈fp/\a≠l:=λa ha=>by
  rcases mem a ha with y |⟨y,y'⟩
  .show nomatch y
  .show(y,λe=>y' (by rw[e];show az))
 have nl:∀j t w,j≠i->M[j]?=aa t->E[j]?=aa _->Holds G Hf H t w l->False:=λj t w hj b A p=>hj (B.dj j i t _ w v l b es A J p (fp,r,N));show B.re (B.ext.fix (z l N).1 Q ql) (by simp) (λj u t a b=>?_) λj t w a b A p=>?_
 .rcases cU b with⟨e,e',_⟩ |⟨en,b⟩
  .subst e e';rw[J]at a;cases a;show(v,fp',rfl,T,(nd fJ λa ha=>nomatch ha),λx f=>((z x (c x f).1).1,by rw[aK (c x f).2];show(z x (c x f).1).2))
  .have q:=B.at' j u t a b
   cases C:t.isOwn with
   |false=>
    cases t with
    |no=>trivial
    |im d=>have(U,I,h):=q;show(U,I,h.up m)
    |val U=>show q
    |deep o'=>
     have(w,gp,I,h,n2,Y):=q;subst I;show(w,gp,rfl,h.up m (aq.refl _),n2,λx f=>((Y x f).1,?_));rw[aK (λy=>nl j _ w en b a (gp,h,by rw[<- y];show f))]
     show(Y x f).2
    | _=>nomatch C
   |true=>
    have(l2,e2,e3,e4,q2):=q.own C;subst e2;show .ofOwn C (l2,rfl,e3,?_,q2.up m λo' L=>L);rw[aK (λy=>nl j t _ en b a ((Holds.own C).mpr (by rw[y])))];show e4
 .rcases cU b with⟨e,e',_⟩ |⟨_,b⟩
  .subst e e';rw[J]at A;cases A;have(g,h,ha):=p;have:=OT.funM _ _ _ _ T h;subst this;show(_,es,(fp,r,(c a ha).1))
  .show(t,b,(B.at' j _ t A b).back (λo fp _ r=>r.up m (aq.refl _)) p)
def nJ(i:Nat)(cn f:Str)(F:MF3)(M:LS):Option Fl:=(aU cn f (aH i) M).bind λq=>q.1.items.bind λds=>F (M.set i (.deep (q.2 (.fz (.lst ds)))))
def Ia{F:MF3}(i:Nat)(cn f:Str)(h:DS c X st F):DS c X st (nJ i cn f F):=PS.imp h λW8 E H m=>by
 have(Hf0,H0,Hf,M,o,d,a,k):=m;have(q,e,a):=bg a;have(ds,g,a):=bg a;have(t,v,fp,v1,f1,es,j,rt,n,z,b):=RY d e;rw[r9 g]at b;have(l,vs,fs,rfl,p,B,rfl):=id b.r;have(rd,rfl):=B.unfz;show(Hf0,H0,_,_,o,d.focFix es j rt n z b p rd,a,k.up (bO (z l (b.sub l az)).2))
structure Bas(K:aQ)(W9:Addr)(m:Str)(f:Addr):Prop where
 sg:W.specialIn K (.ref W9) "__getattribute__"=aa (aa (.builtin "type.__getattribute__"))
 rd:W.readsIn K W9 (.type "type")=ac
 fc:W.findCls K (.ref W9) (.type "type") m=aa (.val (.ref f))
 kp:gf K (.ref f)=ac
variable{W9:Addr}
def RZ{U:PNS}{s:ah}{A:b5}{W8:PRS}{m:Str}{Q:Value×LVa->ah->Prop}(I:Inv X U E H s)(b:Bas X.K W9 m f)(h:∀a,Inv X U E H a->Q (.ref f,[],) a):wpAny (model X.prog X.w) A (hJ (.ref W9) m pl) Q W8 s:=
 W.method_cls I.kIn b.sg (W.cls_value I.kIn b.rd b.fc rfl (h _ (I.tok _)))
def lU(i:Nat)(m:MTf)(f:Xa):Xe:=λM=>match M[i]? with
 |some (.deep (.at _ _))=>(f M).bind λp=>match p.2[i]? with
  |some (.deep (.at l o))=>(m l p.1 o).map λq=>(q.2,p.2.set i (.deep (.at l q.1)),)
  | _=>ab
 | _=>ab
variable{sp:Sp}{t:TA}
def R0{k:Nat}(l:Gl X x)(hm:X.mg x=aa (.ref W9))(b:Bas X.K W9 fl f)(F:cq X.prog X.w X.K X.mg X.base CX0 k f fd ps sp)(hr:bu k X.A)(j:dS X.K fd ps [])(ha:PA X (e::es) t)
 (d:autoParam (StE X e es) Zb)(c:autoParam (BkE X pos es) Zb)(a:autoParam (NDb x) Zc)
 (m:autoParam (eval (.Call (.Attribute (.Name x p) fl apos) (e::es) [] pos) X.env=(do
   let ov <- eval (.Name x p) X.env
   gB apos.atName
   let (f,first,) <- eO [ov] (hJ ov fl pl)
   jG pos f first (cg pos (aM (e::es) X.env)) (iA pos (iz [] X.env)))) Zb):
  PE X (.Call (.Attribute (.Name x p) fl apos) (e::es) [] pos) (x6 sp [] E0 t):=by
 intro U s E H Q I h;show W.methodCall_KW (xI I l hm ?_ a) m;show RZ I b λs1 i=>?_;show W.callWith_K I.ok.mod.kin b.kp (thn (ha pos U s1 E H _ i h) λus s2 (vs,q,g,r,n)=>(g.kIn,(uq F hr j .nil gg g r n))) d c
variable{fa:Xa}{m:MTf}
def R1{Q:VK}(U:∀E H Q,pT (Gx c X) fa E H Q->t E H Q)(hn:∀M ds ρ',fa M=aa (ds,ρ',)->1+ds.length=ps.length)(q_:tDX (Gx c X) (lU i m fa) E H Q):x6 (iu (Gx c X) ps.length m) [] E0 (jc (cE i) t) E H Q:=by
 have(Hf0,H0,Hf,M,d,ρ',st,b,Y):=q_;unfold lU at b;split at b
 .rename_i C o0 p;have(pp,A,b):=bg b;have(ds,ρ1):=pp;split at b
  .rename_i l o1 e;have(q,J,b):=dO b;cases b;have(u,x,u',fp,L,rt,n,z):=st.slot p;subst L;have(el,rt0):=rt;subst el;show(_,x,U _ _ _ (Hf0,H0,Hf,M,ds,ρ1,st,A,λus Hf' H' f1 st1 r=>?_));change iu _ _ _ ((V.ref C::us)++[]) H' Q E0;rw[bN];have(w,B,w',gp,N,y,n1,z1):=st1.slot e;subst N;rw[x]at B;cases B;have(j,g):=y;cases j;show(Hf',ds,o1,q.1,q.2,C,gp,us,rfl,st1.sub,g,n1,λa ha=>(z1 a ha).2,r,hn _ _ _ A,J,λv h I T G r3 n3 z3 rv=>Y v h I (f1.trans G.f) (st1.treeBack e x (rfl,g) G (rfl,r3) n3 z3) rv)
  .nomatch b
 .nomatch b
section
variable{k:Nat}{o:Expr}
def R3(n:PE X o (cE i))(l:Gl X x)(hm:X.mg x=aa (.ref W9))(b:Bas X.K W9 fl f)(F:cq X.prog X.w X.K X.mg X.base CX0 k f fd ps (iu (Gx c X) ps.length m))(hr:bu k X.A)(j:dS X.K fd ps [])(ha:DAX c X (e::es) fa)
 (u:autoParam ((e::es).length+1=ps.length) Zb)(a:autoParam (aM (o::e::es) X.env=(af,eval o X.env,)::aM (e::es) X.env) Zb)(g:autoParam ((cg pos (aM (e::es) X.env)).any (·.1)=af) Zb)(d:autoParam (NDb x) Zc)
 (q:autoParam (eval (.Call (.Attribute (.Name x p) fl apos) (o::e::es) [] pos) X.env=(do
   let ov <- eval (.Name x p) X.env
   gB apos.atName
   let (f,first,) <- eO [ov] (hJ ov fl pl)
   jG pos f first (cg pos (aM (o::e::es) X.env)) (iA pos (iz [] X.env)))) Zb):
  DX c X (.Call (.Attribute (.Name x p) fl apos) (o::e::es) [] pos) (lU i m fa):=PE.imp (R0 l hm b F hr j (d3 n ha.pa a) a g d q) λE H Q r=>R1 (λ_ _ _ h=>h) (λM ds ρ' h=>by have:=ha.len M ds ρ' h;lia) r
end
section
variable{k:Nat}
def nK(i:Nat)(cn fl:Str)(f:MF1)(M:LS):Option Fl:=match M[i]? with
 |some (.deep (.at l (.ins c' ns os)))=>if c'=cn/\ns.length<1000 then (aT fl ns).bind λk=>match os[k]? with
  |some (.fz (.int a))=>match f M with
   |some (.int b)=>aa (.nx (M.set i (.deep (.at l (.ins c' ns (os.set k (.fz (.int (a+b)))))))))
   | _=>ab
  | _=>ab else ab
 | _=>ab
end
variable{g:MF1}
def R4{o:Expr}{u:Pos}(cn:Str)(hc:Cls X.K (c cn))(hn:cM X.K (c cn) fl)(ho:PE X o (cE i))(he:DE c X e g):DS c X (.AugAssign (.Attribute o fl u) .Add e pos) (nK i cn fl g):=PS.imp (MG ho he MI) λW8 E H q_=>by
 have(Hf0,H0,Hf,M,o,Q,d,kq):=q_;unfold nK at d;split at d
 .rename_i l A ns os es;split at d
  .rename_i J;have(rfl,hlt):=J;have(k,U,d):=bg d;split at d
   .rename_i a eo;split at d
    .rename_i b eb;cases d;have(v,T,v',fp,e3,rt,n,z):=Q.slot es;subst e3;have F:=Foc.at rt n;have(el,p,dx,vs,fs,ep,L,hz,B,C):=id rt;subst el;cases ep;subst C;have(na,N):=b7.mp n;have(vk,fk,G,rk,_,sb,bk):=B.foc N eo;show(_,T,_,c A,dx,ns.zip vs,vk,rfl,L,hc,hn,(zC vs U).trans G,Hf0,H0,Hf,M,_,Q,eb,λv2 r x m r1=>(a,b,rk.1,r1,?_));show(dx,ns.zip vs,m.h _ _ L,by rw[om];lia,kq E r _ m.f ?_);have F1:=F.up m.f m.h;have keep:∀q w,q≠l->x q=aa w->upd x l (.ins (c A) dx (c9 fl (.int (a+b)) (ns.zip vs))) q=aa w:=λq w j e=>by rw[aK j];show e
     have (I,r',Y,n'):=bk r (upd x l (.ins (c A) dx (c9 fl (.int (a + b)) (ns.zip vs)))) (.fz (.int (a + b))) (.int (a + b)) [] m.f (λq w j hm _=>by
      show keep q w (λy=>?_) (m.h _ _ j);subst y;simp only[L]at j;cases j
      rcases hm with hm |hm
      .nomatch hm
      .show na hm) (rfl,rfl)
     show Q.foc es T (rt.up m.f m.h) m F1 (λq w j hn=>keep q w (λy=>hn (by rw[y];show az)) j) (l,dx,vs.set k (.int (a+b)),I,rfl,by rw[aY,zH hz U],by simp[hz],r',rfl) (b7.mpr ⟨λy=>?_,n' fJ λq j=>nomatch j⟩) λq j=>?_
     .rcases Y l y with w |⟨w,_⟩
      .nomatch w
      .show na w
     .rcases aX.mp j with y |y
      .rw[y];show .inl az
      .rcases Y q y with w |⟨w,_⟩
       .nomatch w
       .show .inl (bi _ w)
    .nomatch d
   .nomatch d
  .nomatch d
 .nomatch d
def sh(i:Nat)(f:MF1)(M:LS):Option Fl:=match M[i]? with
 |some (.im (.int a))=>match f M with
  |some (.int b)=>aa (.nx (M.set i (.im (.int (a-b)))))
  | _=>ab
 | _=>ab
def R5(i:Nat){h:Pos}(y:X.N.Nodup)(z:DE c X e g)(hi:autoParam (X.N[i]?=aa x) Zb)(B:autoParam (Loc X.env.scope x) Zf)(A:autoParam (LcF X x) Zg):
  DS c X (.AugAssign (.Name x h) .Sub e pos) (sh i g):=PS.imp (EF y hi B z LP A) λW8 E H C=>by
 have(Hf0,H0,Hf,M,o,l,d,k):=C;unfold sh at d;split at d
 .rename_i a es;split at d
  .rename_i b n;cases d;have(v,p,w,q,j):=l.slot es;subst q;show(_,p,Hf0,H0,Hf,M,_,l,n,λu Hf' H' m r=>(a,b,j,r,k _ Hf' H' m.f ((l.step m).setIm rfl)))
  .nomatch d
 .nomatch d
def R6{f:MF1}(h:PE X e (tBM X.K "list" (zx (Gx c X)) (tDB (Gx c X) f) (jc (tD (Gx c X) g) ig))):DE c X e (m2 gR f g):=PE.imp h λE H Q J=>by
 have(Hf0,H0,Hf,M,d,st,I,k):=J;have(x,y,C,G,m):=mO I
 obtain⟨ds,i,rfl,rfl⟩:∃ds i,x=.lst ds/\d=.int i:=by
  unfold gR at m
  grind
 show(Hf0,H0,Hf,M,_,st,C,λv b U p n=>?_);have(l,vs,el,q,B):=id n;subst el;show(.inl (rfl,_,SqL.of q),Hf0,H0,b,M,y,st.step p,G,λu j r a L=>(r,.lst ds,y,_,u,rfl,aq.refl _,n.up a.h,L.up a.s,m,λw A z T N=>k w j z ((p.trans a).trans (Ext.grow a.s T.h)) N))
section
variable{k:Nat}
def si(x y:D):OD:=match x with
 |.dT ks ds=>(kH y).bind λk=>(aT k ks).bind λj=>ds[j]?
 | _=>ab
end
def R7{o:Expr}{f:MF1}(Y:X.A.units+1<cLine)(T:DE c X o f)(N:DE c X e g)(U:autoParam (rb e) Zj):DE c X (.Subscript o e pos) (m2 si f g):=PE.imp (yn Y T N U) λE H Q q_=>by
 have(Hf0,H0,Hf,M,d,st,L,kq):=q_;have(x,y,z,C,h):=mO L;unfold si at h;split at h
 .rename_i ks ds;have(k,G,h):=bg h;have(j,I,h):=bg h;show(Hf0,H0,Hf,M,_,st,z,λv l H1 r r1=>(Hf0,H0,l,M,y,st.step r,C,λu m w i r2=>?_));have(b,J,tk):=rZ G r2;have(a,vs,rfl,ha,hz,B):=r1;subst J;have(q,n,p):=B.get h;show(a,q,rfl,?_,kq q m w (r.trans i) (p.up i.f));rw[<- n,<- pU vs I];show fQ.t (i.s _ _ (i.f _ _ ha)) (tk.same i.s)
 .nomatch h
structure zM(K:aQ)(x qual:Str)(st:Stmt)(f:Addr)(fd:cT):Prop where
 ex:∃(oc:Value) (od:Option Addr) (dV kV doc pm:Value) (an:Option Addr) (cdv ct:Value) (osl:Array (Option Value)),
  fd=i8 x qual (ki st) (fw st) (au st) dV kV doc pm an cdv ct/\K.lookup f=aa (oc,od,.func fd,osl)/\W.codeIn K cdv qual=ac
 kp:gf K (.ref f)=ac
def R8{oc:Value}{od an:Option Addr}{osl:Array (Option Value)}{dV kV doc pm cdv ct:Value}(l:K.lookup f=aa (oc,od,.func (i8 x qual (ki st) (fw st) (au st) dV kV doc pm an cdv ct),osl))
 (c:W.codeIn K cdv qual=ac)(k:gf K (.ref f)=ac):zM K x qual st f (i8 x qual (ki st) (fw st) (au st) dV kV doc pm an cdv ct):=((oc,od,dV,kV,doc,pm,an,cdv,ct,osl,rfl,l,c),k)
variable{n:Nat}
def Ib{ds:LVa}{T:Addr}{o:Obj}{items:Array Value}(l:K.lookup T=aa o)(d:o.data=.seq items n)(hd:fd.defaults=.ref T)
 (h:∀us:LVa,(us++ds).length=ps.length->∃k,bindArgs fd (us,[])=seqItems? fd.defaults >>= k/\k (aa items)=pure (ps.zip (us++ds))):dS K fd ps ds:=λs us X c=>by
 have(k,a,b):=h us c;show W.binds_K X hd l d a b
variable{w:World}
def R9{k:Nat}{F:MF3}(u:zM K x qual st f fd)(S:aB N ps (au st))
 (h:∀(cdv:Value) (A:b5) (outer:List Env) (s:ah) (H:Hp) (W8:XK),bu k (A.deeper (fK qual (au st) s.heap.objs.size f cdv))->DSs c (ij CX0 P w K mg base N qual (au st) f cdv A outer s H W8).nox (fw st) F)(j:autoParam (N.length=n_) Zb):
  cq P w K mg base CX0 (k+1) f fd ps (spD (K,c) ps.length (aO n_ F)):=by
 subst j;have(oc,od,dV,kV,doc,pm,an,cdv,ct,osl,rfl,y,i):=u.ex;show E7 y i S (λvs H Q W8 m=>by have(Hf,ds,d,q,r,a,_):=m;rw[<- r.length];show a) λA outer s H vs Q W8 hr m=>?_;have(Hf,ds,d,q,r,a,e,b):=m;show(_,(h cdv A outer s H W8 hr).nox,?_);unfold aO at e
 cases g:F _ with
 |none=>rw[g]at e;nomatch e
 |some o=>
  rw[g]at e;show(Hf,H,Hf,_,o,ar.start q r,g,?_)
  cases o with
  |rt d=>cases e;show b
  |rtO B=>cases e;show λl vs Hf' H' x hn p a r=>b _ _ H' (x.fix hn p a) (l,vs,rfl,aY,r.up (bO p))
  |nx M=>cases e;show λσ' Hf' H' _ n=>b _ Hf' H' n.ext rfl
  |rtS d M=>cases e;show λv σ' Hf' H' n r=>b v Hf' H' n.ext r
  | _=>nomatch e
def nM(f:LS->Option O)(M:LS):OLD:=(f M).bind λo=>match o with
 |.tup [_,.lst os]=>if os.all O.isFz then aa (O.toDs os) else ab
 | _=>ab
variable{a:Expr}{p':Pos}
def Sa{f:LS->Option O}{j}(ha:DZ c X ac a f):DO c X (.Subscript a (.Constant (.int 1) j p') pos) (nM f):=
 PE.imp (Fc Fd ha (xH (i:=1)) (λ_ _=>rfl)) λE H Q C=>by
  have(Hf0,H0,Hf,M,ds,st,b,k):=C;unfold nM at b;have(o,w,b):=ow.mp b;split at b
  .rename_i N os;split at b
   .rename_i hz;cases b;show(Hf0,H0,Hf,M,_,st,w,λu fp d v I r z=>?_);have(t,vs,y,q,Y,T,f1,f2,A,t0,ts,h):=r;have(v1,U,J,L,m,t1,n,e):=ts;have(l,us,fs,el,G,B,g):=t1;have(x,_):=n;subst x m A el;have p:l∈fp:=by rw[h,e,g];simp
    show(t,_,1,.ref l,y,rfl,SqT.of q,rfl,k l us d v I (z.2 l p).1 (z.2 l p).2 G (B.reps hz))
   .nomatch b
  .nomatch b
abbrev Ic:V->LVv->Hp->VK->Prop:=λx vs H Q=>∃l C y i,x=.ref l/\vs=[.int i,y]/\H l=aa (.lst C)/\0<=i/\i<=C.length/\C.length<16777216/\Q .non (upd H l (.lst (C.take i.toNat++y::C.drop i.toNat)))
def Ie:∀{C:LVv} {us:LVa} (n:Nat),aF C us->aF (C.take n) (us.take n)
 | _,_,0,_=>.nil
 | _,_,_+1,.nil=>.nil
 | _,_,n+1,.cons r t=>.cons r (Ie n t)
def Ig:∀{C:LVv} {us:LVa} (n:Nat),aF C us->aF (C.drop n) (us.drop n)
 | _,_,0,h=>h
 | _,_,_+1,.nil=>.nil
 | _,_,n+1,.cons _ t=>Ig n t
def Sb:MtM X "list.insert" Ic:=by
 intro U s E H x vs v us Q I j g h;have(l,C,y,i,rfl,rfl,b,u,hi,hz,q):=h;subst j;have(w,p,rfl,f,m):=EM g;have(t,rfl):=f;have(z,L,n,r,d,e):=I.lstM b
 have a:Ep i=ac:=by
  unfold Ep;rw[ca,decide_eq_true_eq,decide_eq_true_eq];lia
 show oG F.slot_list_insert (_,e,rfl) F.entry_list_insert (F.args_list_insert_3 _ _ _) (PySem.AutoSeq1.list_insert_list_int_val_1 l L.toArray n i t p (by rw[a];show λz=>by nomatch z) (by rw[size_toArray,<- d];show z)) (e,?_);show(.non,_,I.lset b e ?_ ((Ie _ r).append (.cons m (Ig _ r))) ?_,rfl,q)
 .have c:¬i<0:=by lia
  have h2:min i.toNat L.toArray.size=i.toNat:=by rw[size_toArray];lia
  simp only[if_neg c,h2];simp[tN]
 .rw[aR,cb,length_take,length_drop,di];lia
def nN(i:Nat)(f:Xa)(M:LS):Option Fl:=match M[i]? with
 |some (.own _)=>(f M).bind λp=>match p.2[i]?,p.1 with
  |some (.own C),[.int n,d]=>if 0<=n/\n<=C.length/\C.length<16777216 then aa (.nx (p.2.set i (.own (C.take n.toNat++d::C.drop n.toNat)))) else ab
  | _,_=>ab
 | _=>ab
def Ih{G:Gc}{H:Hp}:∀{ds:LD} {vs:LVv} (n:Nat),ak G H ds vs->ak G H (ds.take n) (vs.take n)
 | _,_,0,_=>by rw[take_zero,take_zero];rfl
 | [],_,_+1,h=>by cases (h);rfl
 |d::ds,_,n+1,(v,r,e,h1,h2)=>by subst e;show(v,_,rfl,h1,Ih n h2)
def Ii{G:Gc}{H:Hp}:∀{ds:LD} {vs:LVv} (n:Nat),ak G H ds vs->ak G H (ds.drop n) (vs.drop n)
 | _,_,0,h=>h
 | [],_,_+1,h=>by cases (h);rfl
 |d::ds,_,n+1,(v,r,e,h1,h2)=>by subst e;show Ii n h2
def Sc{f:Xa}(h:PS X st (ly (tBM X.K "list" Ic (cE i) (pT (Gx c X) f)))):DS c X st (nN i f):=PS.imp h λW8 E H T=>by
 have(Hf0,H0,Hf,M,o,G,a,k):=T;unfold nN at a;split at a
 .rename_i xs0 m
  cases e:f M with
  |none=>rw[e]at a;nomatch a
  |some p=>
   rw[e,ax]at a;split at a
   .rename_i C n d es j;split at a
    .rename_i N;cases a;have(l,g,h0,hf,U,Q,r0):=G.ownAt rfl m;show(_,g,.inl (rfl,_,SqL.of Q),Hf0,H0,Hf,M,p.1,p.2,G,e,λY Hf' H' s b B=>?_);rw[j]at B;have(v1,r1,u,x,I,r2,v,y,w):=B;cases (x);cases (w);subst v;subst u;have(l2,z,J,L,vs,q,r):=b.ownAt rfl es;rw[g]at z;cases z;have A:=r.length;show(l,vs,I,n,rfl,rfl,q,N.1,by lia,by lia,k E Hf' _ s (b.mutd rfl rfl es g (_,aY,(Ih _ r).append (I,_,rfl,y,Ii _ r))))
    .nomatch a
   .nomatch a
 .nomatch a
def DZ.de{f:LS->Option O}(h:DZ c X ac e f):DE c X e (zB f):=PE.imp h λE H Q v=>by
 have(Hf0,H0,Hf,M,d,st,a,k):=v;unfold zB at a;have(o,m,a):=ow.mp a;split at a
 .rename_i p;cases a;show(Hf0,H0,Hf,M,o,st,m,λu fp Hf' H' x r z=>?_);have z:Fre H Hf' fp:=z;have sub:aq (gO Hf' H' fp) H':=Q7 x.s fp;have more:aq Hf' (gO Hf' H' fp):=Q8 x.s fp
  have y:OT (Gx c X) Hf' (gO Hf' H' fp) o u fp:=r.frame (aq.refl _) λb w i hm=>by
   rcases hm with hm |hm
   .cases w with
    |tup vs=>show Q5 i
    | _=>nomatch hm
   .rw[Q4 hm];show i
  show k u (gO Hf' H' fp) H' (x.f.trans more,x.h,sub,λl w g j=>?_) (OT.repM more o u fp p y);rw[Q6 (λhm=>?_) λvs q=>?_]
  .show x.n l w g j
  .have:=(z.2 l hm).1;rw[g]at this
   nomatch this
  .rw[x.h l w g]at q;cases q
   nomatch j
 .nomatch a
end L2
namespace N_k55
open List
open PySem PySem.Spec PyProof.Rows L2
local macro_rules | `(tactic| walk_at "sc")=>`(tactic| exact ⟨rfl,rfl,rfl,by decide +kernel,rfl,by decide +kernel,by decide +kernel⟩)
def top(i:Nat):Stmt:=PySem.Challenge.pw_standstill_k55_a_bar_more.main.body.getD i (.Pass (0,0,0,0))
nonrec def s_1:=top 2
nonrec def zN:=top 3
nonrec def zO:=top 10
nonrec def zP:=top 11
nonrec def zQ:=top 12
nonrec def zR:=top 13
nonrec def zS:=top 14
nonrec def zT:=top 15
nonrec def zU:=top 16
nonrec def zV:=top 17
nonrec def zW:=top 18
nonrec def s_7:=top 19
nonrec def s_2:=top 21
nonrec def zX:=top 22
nonrec def zY:=top 24
nonrec def zZ:=top 25
nonrec def s_6:=top 26
nonrec def s_0:=top 29
nonrec def z4:=top 30
nonrec def z5:=top 31
nonrec def z6:=top 34
nonrec def s_3:=top 35
nonrec def z7:=top 36
nonrec def z8:=top 37
nonrec def z9:=top 38
nonrec def Aa:=top 39
nonrec def Ab:=top 40
nonrec def Ac:=top 41
nonrec def Ad:=top 42
nonrec def Ae:=top 43
nonrec def Ag:=top 44
nonrec def Ah:=top 45
nonrec def s_4:=top 46
nonrec def Ai:=bj (top 6) 0
nonrec def Aj:=bj (top 6) 2
nonrec def Ak:=bj (top 6) 3
nonrec def Al:=bj (top 6) 5
nonrec def Am:=bj (top 6) 6
nonrec def An:=bj (top 6) 7
nonrec def Ao:=bj (top 6) 8
nonrec def Ap:=bj (top 6) 9
nonrec def Aq:=bj (top 7) 0
nonrec def Ar:=bj (top 7) 2
nonrec def As:=bj (top 7) 3
nonrec def At:=bj (top 7) 5
nonrec def Au:=bj (top 7) 6
nonrec def Av:=bj (top 7) 7
nonrec def Aw:=bj (top 7) 8
nonrec def Ax:=bj (top 7) 9
nonrec def Ay:=bj (top 8) 0
nonrec def Az:=bj (top 8) 2
nonrec def AA:=bj (top 8) 3
nonrec def AB:=bj (top 8) 5
nonrec def AC:=bj (top 8) 6
nonrec def AD:=bj (top 8) 7
nonrec def AE:=bj (top 8) 8
nonrec def AF:=bj (top 8) 9
nonrec def AG:=bj (top 9) 0
nonrec def AH:=bj (top 9) 2
nonrec def AI:=bj (top 9) 3
nonrec def AJ:=bj (top 9) 5
nonrec def AK:=bj (top 9) 6
nonrec def AL:=bj (top 9) 7
nonrec def AM:=bj (top 9) 8
nonrec def AN:=bj (top 9) 9
nonrec def AO:=bj (top 32) 0
nonrec def s_8:=bj (top 32) 1
nonrec def AQ:=bj (top 32) 2
nonrec def AR:=bj (top 32) 3
nonrec def AS:=bj (top 32) 4
nonrec def s_5:=bj (top 32) 5
nonrec def s_9:=bj (top 32) 6
nonrec def AT:=bj (top 27) 1
nonrec def AU:=bj (top 27) 2
nonrec def AV:=bj (top 27) 3
nonrec def AW:=bj (top 27) 4
nonrec def AX:=bj (top 27) 5
nonrec def AY:=bj (top 27) 6
nonrec def AZ:=bj (top 27) 7
nonrec def A0:=bj (top 27) 8
nonrec def A1:=bj (top 27) 9
nonrec def A3:=bj (top 27) 10
nonrec def A4:=bj (top 27) 11
nonrec def A5:=bj (top 27) 12
nonrec def A6:=bj (top 27) 0
def p8:aB ["many","some","listed","thing"] ["many","some"] (au s_1):=by walk_at "sc"
def Sd:aB ["truths"] ["truths"] (au zN):=by walk_at "sc"
def Ij:aB ["told","word"] ["told"] (au zO):=by walk_at "sc"
def Sf:aB ["items"] ["items"] (au zP):=by walk_at "sc"
def Sg:aB ["items","entries"] ["items","entries"] (au zQ):=by walk_at "sc"
def Sh:aB ["items","sheet"] ["items","sheet"] (au zR):=by walk_at "sc"
def Si:aB ["items"] ["items"] (au zS):=by walk_at "sc"
def Sj:aB ["items","without"] ["items","without"] (au zT):=by walk_at "sc"
def Ik:aB ["items","sheet","lack","weights"] ["items","sheet","lack"] (au zU):=by walk_at "sc"
def A7:aB ["items","weights","thing","worth"] ["items"] (au zV):=by walk_at "sc"
def Sk:aB ["things","sheet","truth"] ["things","sheet","truth"] (au zW):=by walk_at "sc"
def vm:aB ["items","things","lack","weights","taken","left","thing","weight"] ["items","things","lack"] (au s_7):=by walk_at "sc"
def Il:aB ["rule"] ["rule"] (au s_2):=by walk_at "sc"
def Im:aB ["rule","guard"] ["rule"] (au zX):=by walk_at "sc"
def Sm:aB ["bar"] ["bar"] (au zY):=by walk_at "sc"
def Io:aB ["guard","sheet","pairs","part","tips"] ["guard","sheet"] (au zZ):=by walk_at "sc"
def Ip:aB ["body","sheet","without","part"] ["body","sheet","without"] (au s_6):=by walk_at "sc"
def sj:aB ["plain","most","seeking","firsts","world"] ["plain","most"] (au s_0):=by walk_at "sc"
def Sn:aB ["why"] ["why"] (au z4):=by walk_at "sc"
def So:aB ["order","needed"] ["order","needed"] (au z5):=by walk_at "sc"
def Sr:aB ["_law_script","_law_k"] ["_law_script","_law_k"] (au z6):=by walk_at "sc"
def Iq:aB ["_law_cell","_law_k","_law_prime","_law_once"] ["_law_cell","_law_k"] (au s_3):=by walk_at "sc"
def Ir:aB ["_law_cell","_law_k","_law_many","_law_items_here","_law_j","_law_at","_law_worth"] ["_law_cell","_law_k","_law_many"] (au z7):=by walk_at "sc"
def Iu:aB ["_law_cell","_law_k","_law_many","_law_sort","_law_items_here","_law_bound"] ["_law_cell","_law_k","_law_many"] (au z8):=by walk_at "sc"
def A8:aB ["_law_cell","_law_many","_law_word","_law_size","_law_parts"] ["_law_cell","_law_many"] (au z9):=by walk_at "sc"
def Iv:aB ["_law_cell","_law_many","_law_rules","_law_k"] ["_law_cell","_law_many"] (au Aa):=by walk_at "sc"
def Iw:aB ["_law_script","_law_top","_law_head","_law_many","_law_rules","_law_cell"] ["_law_script","_law_top"] (au Ab):=by walk_at "sc"
def Ss:aB ["_law_part_here"] ["_law_part_here"] (au Ac):=by walk_at "sc"
def Ix:aB ["_law_plain_here","_law_rules","_law_word","_law_head","_law_parts"] ["_law_plain_here"] (au Ad):=by walk_at "sc"
def A9:aB ["_law_items_here","_law_some","_law_total","_law_thing","_law_worth"] ["_law_items_here","_law_some"] (au Ae):=by walk_at "sc"
def Su:aB ["_law_part_here","_law_rising","_law_world"] ["_law_part_here","_law_rising","_law_world"] (au Ag):=by walk_at "sc"
def Sv:aB ["_law_rule_here","_law_rising","_law_world"] ["_law_rule_here","_law_rising","_law_world"] (au Ah):=by walk_at "sc"
def vn:aB ["_law_script","_law_plain_here","_law_told","_law_cell","_law_bar","_law_rules","_law_found"] ["_law_script"] (au s_4):=by walk_at "sc"
def Sw:aB ["self","thing"] ["self","thing"] (au Ai):=by walk_at "sc"
def Sx:aB ["self"] ["self"] (au Aj):=by walk_at "sc"
def Sy:aB ["self"] ["self"] (au Ak):=by walk_at "sc"
def Sz:aB ["self","sheet"] ["self","sheet"] (au Al):=by walk_at "sc"
def SA:aB ["self","sheet","order"] ["self","sheet","order"] (au Am):=by walk_at "sc"
def SB:aB ["self","sheet"] ["self","sheet"] (au An):=by walk_at "sc"
def SC:aB ["self","sheet","without"] ["self","sheet","without"] (au Ao):=by walk_at "sc"
def SD:aB ["self","sheet","without","order"] ["self","sheet","without","order"] (au Ap):=by walk_at "sc"
def SE:aB ["self","thing"] ["self","thing"] (au Aq):=by walk_at "sc"
def SF:aB ["self"] ["self"] (au Ar):=by walk_at "sc"
def SG:aB ["self"] ["self"] (au As):=by walk_at "sc"
def SH:aB ["self","sheet"] ["self","sheet"] (au At):=by walk_at "sc"
def SI:aB ["self","sheet","order"] ["self","sheet","order"] (au Au):=by walk_at "sc"
def SJ:aB ["self","sheet"] ["self","sheet"] (au Av):=by walk_at "sc"
def SK:aB ["self","sheet","without"] ["self","sheet","without"] (au Aw):=by walk_at "sc"
def SL:aB ["self","sheet","without","order"] ["self","sheet","without","order"] (au Ax):=by walk_at "sc"
def SM:aB ["self","bound","items"] ["self","bound","items"] (au Ay):=by walk_at "sc"
def SN:aB ["self"] ["self"] (au Az):=by walk_at "sc"
def SO:aB ["self"] ["self"] (au AA):=by walk_at "sc"
def SQ:aB ["self","sheet"] ["self","sheet"] (au AB):=by walk_at "sc"
def SR:aB ["self","sheet","order"] ["self","sheet","order"] (au AC):=by walk_at "sc"
def Iy:aB ["self","sheet","lack"] ["self","sheet"] (au AD):=by walk_at "sc"
def SS:aB ["self","sheet","without"] ["self","sheet","without"] (au AE):=by walk_at "sc"
def Iz:aB ["self","sheet","without","order","left"] ["self","sheet","without","order"] (au AF):=by walk_at "sc"
def SU:aB ["self","bound","items"] ["self","bound","items"] (au AG):=by walk_at "sc"
def SV:aB ["self"] ["self"] (au AH):=by walk_at "sc"
def SW:aB ["self"] ["self"] (au AI):=by walk_at "sc"
def SX:aB ["self","sheet"] ["self","sheet"] (au AJ):=by walk_at "sc"
def SY:aB ["self","sheet","order"] ["self","sheet","order"] (au AK):=by walk_at "sc"
def IA:aB ["self","sheet","lack"] ["self","sheet"] (au AL):=by walk_at "sc"
def SZ:aB ["self","sheet","without"] ["self","sheet","without"] (au AM):=by walk_at "sc"
def S0:aB ["self","sheet","without","order"] ["self","sheet","without","order"] (au AN):=by walk_at "sc"
def S1:aB ["self","plain"] ["self","plain"] (au AO):=by walk_at "sc"
def Ba:aB ["self","why","world"] ["self"] (au s_8):=by walk_at "sc"
def IB:aB ["self","why","line"] ["self","why"] (au AQ):=by walk_at "sc"
def Bb:aB ["self","bar","places","choices"] ["self","bar"] (au AR):=by walk_at "sc"
def vp:aB ["self","why","sheet","pair","cause","order","needed","bar","done","thing","ground"] ["self","why"] (au AS):=by walk_at "sc"
def IC:aB ["self","sheet","why","order","things","part"] ["self","sheet","why","order"] (au s_5):=by walk_at "sc"
def Bc:aB ["self","sheet","group","order","without","things","head","body"] ["self","sheet","group","order"] (au s_9):=by walk_at "sc"
def ID:aB ["self","why","guard","part","thing"] ["self","why","guard"] (au AT):=by walk_at "sc"
def IE:aB ["self","bar","why"] ["self","bar"] (au AU):=by walk_at "sc"
def sm:aB ["self","bar","wider","pair","why"] ["self","bar"] (au AV):=by walk_at "sc"
def S2:aB ["self","thing","truth","why"] ["self","thing","truth","why"] (au AW):=by walk_at "sc"
def IF:aB ["self","many","pair","why"] ["self","many"] (au AX):=by walk_at "sc"
def IG:aB ["self","going","why"] ["self"] (au AY):=by walk_at "sc"
def vq:aB ["self","why","pairs","thing","truth"] ["self"] (au AZ):=by walk_at "sc"
def Bd:aB ["self","without","thing","things","is_loose"] ["self"] (au A0):=by walk_at "sc"
def vt:aB ["self","without","used","rest","going","before","unused","maker"] ["self"] (au A1):=by walk_at "sc"
def Be:aB ["self","thing","without","found","place","part"] ["self","thing","without"] (au A3):=by walk_at "sc"
def S3:aB ["self","thing","without"] ["self","thing","without"] (au A4):=by walk_at "sc"
def S4:aB ["self","part","without"] ["self","part","without"] (au A5):=by walk_at "sc"
def IH:aB ["self","plain","bars","sheet","rule","number","bar"] ["self","plain","bars","sheet"] (au A6):=by walk_at "sc"
set_option genInjectivity false
set_option genSizeOf false
structure DfX(K:aQ)(mg:MGT)(x:Str)(st:Stmt)(ps:LSt)(e:Addr×cT):Prop where
 F:zM K x x st e.1 e.2
 b:dS K e.2 ps []
 g:mg x=aa (.ref e.1)
variable{P:cf}{w:World}{K:aQ}{mg:MGT}{base:Heap}{x:Str}{st:Stmt}{ps:LSt}
def DfX.pk{CX:CXT}{k:Nat}{e:Addr×cT}{sp:Sp}(W8:DfX K mg x st ps e)(o:cq P w K mg base CX k e.1 e.2 ps sp):Pk P w K mg base CX k x e ps sp:=(o,W8.g,W8.F.kp,W8.b)
structure Db(K:aQ)(x q:Str)(st:Stmt)(ps:LSt)(e:Addr×cT):Prop where
 F:Fun K x q st e.1 e.2
 b:dS K e.2 ps []
def Db.mk2{q:Str}{f:Addr}{fd:cT}(F:Fun K x q st f fd)(b:autoParam (uu x q st ps) Zk):Db K x q st ps (f,fd,):=(F,F.binds b)
structure Wa where
(e_1 e_19 e_33 e_34 e_20 e_14 e_35 e_36 e_21 e_15 e_16 e_7 e_2 e_22 e_46 e_72 e_6 e_0 e_23 e_37 e_24 e_3 e_38 e_11 e_25 e_26 e_27 e_47 e_67 e_17 e_48 e_49 e_4 e_68 e_39 e_50 e_51 e_52 e_53 e_28 e_54 e_69 e_40 e_55 e_56 e_57 e_58 e_29 e_59 e_70 e_41 e_60 e_61 e_62 e_42 e_30 e_43 e_71 e_44 e_63 e_64 e_65 e_45 e_31 e_66 e_12 e_8 e_13 e_32 e_18 e_5 e_9 h6 ir h7 kT ii kr h8 g5 hY kv h9 j3 e_10:Addr×cT)
 (cl:Str->Addr)
 (C_Spreading:Addr)
structure Wd(K:aQ)(mg:MGT)(a:Wa):Prop where
 e_1:Df K mg "marks" s_1 ["many","some"] a.e_1
 e_19:Df K mg "numbers" zN ["truths"] a.e_19
 e_33:Df K mg "part_of" zO ["told"] a.e_33
 e_34:Df K mg "things_of" zP ["items"] a.e_34
 e_20:Df K mg "worth_in" zQ ["items","entries"] a.e_20
 e_14:Df K mg "worth_not_out" zR ["items","sheet"] a.e_14
 e_35:Df K mg "worth_of" zS ["items"] a.e_35
 e_36:Df K mg "outside" zT ["items","without"] a.e_36
 e_21:Df K mg "heavy" zU ["items","sheet","lack"] a.e_21
 e_15:Df K mg "weights_of" zV ["items"] a.e_15
 e_16:Df K mg "with_entry" zW ["things","sheet","truth"] a.e_16
 e_7:Df K mg "enough" s_7 ["items","things","lack"] a.e_7
 e_2:Df K mg "body_of" s_2 ["rule"] a.e_2
 e_22:Df K mg "guard_of" zX ["rule"] a.e_22
 e_46:Df K mg "guard_of_bar" zY ["bar"] a.e_46
 e_72:Df K mg "pressed_by" zZ ["guard","sheet"] a.e_72
 e_6:Df K mg "lost_part" s_6 ["body","sheet","without"] a.e_6
 e_0:DfX K mg "worlds" s_0 ["plain","most"] a.e_0
 e_23:Df K mg "own_why" z4 ["why"] a.e_23
 e_37:Df K mg "needed_first" z5 ["order","needed"] a.e_37
 e_24:Df K mg "_law_cell_at" z6 ["_law_script","_law_k"] a.e_24
 e_3:Df K mg "_law_mixed" s_3 ["_law_cell","_law_k"] a.e_3
 e_38:Df K mg "_law_items" z7 ["_law_cell","_law_k","_law_many"] a.e_38
 e_11:Df K mg "_law_part" z8 ["_law_cell","_law_k","_law_many"] a.e_11
 e_25:Df K mg "_law_rule" z9 ["_law_cell","_law_many"] a.e_25
 e_26:Df K mg "_law_base" Aa ["_law_cell","_law_many"] a.e_26
 e_27:Df K mg "_law_plain" Ab ["_law_script","_law_top"] a.e_27
 e_47:Df K mg "_law_part_again" Ac ["_law_part_here"] a.e_47
 e_67:Df K mg "_law_again" Ad ["_law_plain_here"] a.e_67
 e_17:Df K mg "_law_sum" Ae ["_law_items_here","_law_some"] a.e_17
 e_48:Df K mg "_law_part_holds" Ag ["_law_part_here","_law_rising","_law_world"] a.e_48
 e_49:Df K mg "_law_body_holds" Ah ["_law_rule_here","_law_rising","_law_world"] a.e_49
 e_4:Df K mg "law" s_4 ["_law_script"] a.e_4
 e_68:Dm K (a.cl "In") "__init__" "In.__init__" Ai ["self","thing"] a.e_68
 e_39:Dm K (a.cl "In") "named" "In.named" Aj ["self"] a.e_39
 e_50:Dm K (a.cl "In") "wants" "In.wants" Ak ["self"] a.e_50
 e_51:Dm K (a.cl "In") "sure" "In.sure" Al ["self","sheet"] a.e_51
 e_52:Dm K (a.cl "In") "sure_by" "In.sure_by" Am ["self","sheet","order"] a.e_52
 e_53:Dm K (a.cl "In") "tips" "In.tips" An ["self","sheet"] a.e_53
 e_28:Dm K (a.cl "In") "lost" "In.lost" Ao ["self","sheet","without"] a.e_28
 e_54:Dm K (a.cl "In") "lost_by" "In.lost_by" Ap ["self","sheet","without","order"] a.e_54
 e_69:Dm K (a.cl "Out") "__init__" "Out.__init__" Aq ["self","thing"] a.e_69
 e_40:Dm K (a.cl "Out") "named" "Out.named" Ar ["self"] a.e_40
 e_55:Dm K (a.cl "Out") "wants" "Out.wants" As ["self"] a.e_55
 e_56:Dm K (a.cl "Out") "sure" "Out.sure" At ["self","sheet"] a.e_56
 e_57:Dm K (a.cl "Out") "sure_by" "Out.sure_by" Au ["self","sheet","order"] a.e_57
 e_58:Dm K (a.cl "Out") "tips" "Out.tips" Av ["self","sheet"] a.e_58
 e_29:Dm K (a.cl "Out") "lost" "Out.lost" Aw ["self","sheet","without"] a.e_29
 e_59:Dm K (a.cl "Out") "lost_by" "Out.lost_by" Ax ["self","sheet","without","order"] a.e_59
 e_70:Dm K (a.cl "Least") "__init__" "Least.__init__" Ay ["self","bound","items"] a.e_70
 e_41:Dm K (a.cl "Least") "named" "Least.named" Az ["self"] a.e_41
 e_60:Dm K (a.cl "Least") "wants" "Least.wants" AA ["self"] a.e_60
 e_61:Dm K (a.cl "Least") "sure" "Least.sure" AB ["self","sheet"] a.e_61
 e_62:Dm K (a.cl "Least") "sure_by" "Least.sure_by" AC ["self","sheet","order"] a.e_62
 e_42:Dm K (a.cl "Least") "tips" "Least.tips" AD ["self","sheet"] a.e_42
 e_30:Dm K (a.cl "Least") "lost" "Least.lost" AE ["self","sheet","without"] a.e_30
 e_43:Dm K (a.cl "Least") "lost_by" "Least.lost_by" AF ["self","sheet","without","order"] a.e_43
 e_71:Dm K (a.cl "Most") "__init__" "Most.__init__" AG ["self","bound","items"] a.e_71
 e_44:Dm K (a.cl "Most") "named" "Most.named" AH ["self"] a.e_44
 e_63:Dm K (a.cl "Most") "wants" "Most.wants" AI ["self"] a.e_63
 e_64:Dm K (a.cl "Most") "sure" "Most.sure" AJ ["self","sheet"] a.e_64
 e_65:Dm K (a.cl "Most") "sure_by" "Most.sure_by" AK ["self","sheet","order"] a.e_65
 e_45:Dm K (a.cl "Most") "tips" "Most.tips" AL ["self","sheet"] a.e_45
 e_31:Dm K (a.cl "Most") "lost" "Most.lost" AM ["self","sheet","without"] a.e_31
 e_66:Dm K (a.cl "Most") "lost_by" "Most.lost_by" AN ["self","sheet","without","order"] a.e_66
 e_12:Dm K (a.cl "Seeking") "__init__" "Seeking.__init__" AO ["self","plain"] a.e_12
 e_8:Dm K (a.cl "Seeking") "another" "Seeking.another" s_8 ["self"] a.e_8
 e_13:Dm K (a.cl "Seeking") "close" "Seeking.close" AQ ["self","why"] a.e_13
 e_32:Dm K (a.cl "Seeking") "place_for" "Seeking.place_for" AR ["self","bar"] a.e_32
 e_18:Dm K (a.cl "Seeking") "line_to" "Seeking.line_to" AS ["self","why"] a.e_18
 e_5:Dm K (a.cl "Seeking") "grounds" "Seeking.grounds" s_5 ["self","sheet","why","order"] a.e_5
 e_9:Dm K (a.cl "Seeking") "grounds_of_group" "Seeking.grounds_of_group" s_9 ["self","sheet","group","order"] a.e_9
 h6:Dm K (a.cl "Seeking") "take_guard" "Spreading.take_guard" AT ["self","why","guard"] a.h6
 ir:Dm K (a.cl "Seeking") "take_bar" "Spreading.take_bar" AU ["self","bar"] a.ir
 h7:Dm K (a.cl "Seeking") "drop_wider" "Spreading.drop_wider" AV ["self","bar"] a.h7
 kT:Dm K (a.cl "Seeking") "put" "Spreading.put" AW ["self","thing","truth","why"] a.kT
 ii:Dm K (a.cl "Seeking") "take_back" "Spreading.take_back" AX ["self","many"] a.ii
 kr:Dm K (a.cl "Seeking") "settle" "Spreading.settle" AY ["self"] a.kr
 h8:Dm K (a.cl "Seeking") "look_round" "Spreading.look_round" AZ ["self"] a.h8
 g5:Dm K (a.cl "Seeking") "put_loose_out" "Spreading.put_loose_out" A0 ["self"] a.g5
 hY:Dm K (a.cl "Seeking") "loose_marks" "Spreading.loose_marks" A1 ["self"] a.hY
 kv:Dm K (a.cl "Seeking") "kernel" "Spreading.kernel" A3 ["self","thing","without"] a.kv
 h9:Dm K (a.cl "Seeking") "lost_parts" "Spreading.lost_parts" A4 ["self","thing","without"] a.h9
 j3:Dm K (a.cl "Seeking") "keeping" "Spreading.keeping" A5 ["self","part","without"] a.j3
 e_10:Db K "__init__" "Spreading.__init__" A6 ["self","plain","bars","sheet"] a.e_10
 b1_worlds:∃ds,aF [V.int 1] ds/\dS K a.e_0.2 ["plain","most"] ds
 sf:mg "In"=aa (.ref (a.cl "In"))
 oo:Cls K (a.cl "In")
 qq:Mk K (a.cl "In") a.e_68.1
 nL:cM K (a.cl "In") "thing"
 rs:mg "Out"=aa (.ref (a.cl "Out"))
 n0:Cls K (a.cl "Out")
 p5:Mk K (a.cl "Out") a.e_69.1
 nq:cM K (a.cl "Out") "thing"
 qs:mg "Least"=aa (.ref (a.cl "Least"))
 ld:Cls K (a.cl "Least")
 o6:Mk K (a.cl "Least") a.e_70.1
 ll:cM K (a.cl "Least") "bound"
 lj:cM K (a.cl "Least") "pieces"
 r4:mg "Most"=aa (.ref (a.cl "Most"))
 nk:Cls K (a.cl "Most")
 pz:Mk K (a.cl "Most") a.e_71.1
 mu:cM K (a.cl "Most") "bound"
 lp:cM K (a.cl "Most") "pieces"
 pw:mg "Spreading"=aa (.ref a.C_Spreading)
 pb:Bas K a.C_Spreading "__init__" a.e_10.1
 p6:mg "Seeking"=aa (.ref (a.cl "Seeking"))
 ad:Cls K (a.cl "Seeking")
 og:Mk K (a.cl "Seeking") a.e_12.1
 j0:cM K (a.cl "Seeking") "sheet"
 l0:cM K (a.cl "Seeking") "steps"
 lk:cM K (a.cl "Seeking") "bars"
 kF:cM K (a.cl "Seeking") "guards"
 hO:cM K (a.cl "Seeking") "watches"
 ky:cM K (a.cl "Seeking") "waiting"
 kQ:cM K (a.cl "Seeking") "makers"
 md:cM K (a.cl "Seeking") "paper"
 lb:cM K (a.cl "Seeking") "count"
 mm:cM K (a.cl "Seeking") "ended"
 q4:mg "all"=ab
 rc:mg "any"=ab
 nS:mg "enumerate"=ab
 ny:mg "isinstance"=ab
 ri:mg "len"=ab
 n7:mg "list"=ab
 pj:mg "range"=ab
 n5:mg "reversed"=ab
 ro:mg "set"=ab
 oD:mg "sorted"=ab
 qa:mg "sum"=ab
 p0:mg "tuple"=ab
 p4:rA K "list"
 pu:rA K "tuple"
set_option genInjectivity true
set_option genSizeOf true
nonrec abbrev qD(P:cf)(w:World)(K:aQ)(mg:MGT)(base:Heap)(a:Wa)(k:Nat)(x:Str)(e:Addr×cT)(ps:LSt)(m:LD->OD):Prop:=Pk P w K mg base CX0 k x e ps (spD (K,a.cl) ps.length m)
nonrec abbrev qO(P:cf)(w:World)(K:aQ)(mg:MGT)(base:Heap)(a:Wa)(k:Nat)(x:Str)(e:Addr×cT)(ps:LSt)(m:LD->OLD):Prop:=Pk P w K mg base CX0 k x e ps (spO (K,a.cl) ps.length m)
nonrec abbrev gS(P:cf)(w:World)(K:aQ)(mg:MGT)(base:Heap)(a:Wa)(k:Nat)(c x:Str)(e:Addr×cT)(ps:LSt)(m:MTf):Prop:=Pm P w K mg base CX0 k (a.cl c) x e ps (iu (K,a.cl) ps.length m)
nonrec abbrev qPD(P:cf)(w:World)(K:aQ)(mg:MGT)(base:Heap)(a:Wa)(k:Nat)(c x:Str)(e:Addr×cT)(ps:LSt)(m:LD->OD):Prop:=Pm P w K mg base CX0 k (a.cl c) x e ps (spD (K,a.cl) ps.length m)
nonrec abbrev qPO(P:cf)(w:World)(K:aQ)(mg:MGT)(base:Heap)(a:Wa)(k:Nat)(c x:Str)(e:Addr×cT)(ps:LSt)(m:LD->OLD):Prop:=Pm P w K mg base CX0 k (a.cl c) x e ps (spO (K,a.cl) ps.length m)
def Bf:MF3:=
 (ai (be (mB (m2 dEq (aw cG (ag (ae 0) nZ)) (kI 2))) (eT 0) bE)
  (a8 (bo (ag (mIx (av 0) (kI 0)) (ag (mIx (av 0) (kI 1)) (ag (aP (aV (mIx (av 0) (kI 2)))) nZ))))))
def Bg:=aO 1 Bf
def Bh:MF3:=
 (ai (c6 1 nZ)
  (ai (b6 (aV (mIx (av 0) (kI 1))) (cZ (bq (ay 2) (bq (ay 3) (bq (ay 4) dk)))) (dC 1 (bo (ag (ae 2) (ag (ae 3) (ag (aP (bn 1 [] (aV (ae 4)) (ay 0) kY (aw Bg (ag (ae 0) nZ)))) nZ))))))
  (nE (rS (ag (mIx (av 0) (kI 0)) nZ) (pP 1)))))
def sn(as:LD):Option O:=rT 5 Bh as
def Bi:MF3:=
 (ai (aZ 2 (kI 0))
  (ai (b6 (aV (ae 0)) (cZ (bq (ay 3) (bq (ay 4) dk))) (be (mB (m2 dIn (ae 3) (ae 1))) (lS 2 (mX (ae 4))) bE))
  (eT 2)))
def vv:=aO 5 Bi
def Bj:MF3:=
 (ai (be (mB (m2 dEq (mIx (av 0) (kI 0)) (kSt "in"))) (a8 (m2 dIn (mIx (av 0) (kI 1)) (ae 1))) bE)
  (ai (be (mB (m2 dEq (mIx (av 0) (kI 0)) (kSt "out"))) (a8 (m2 ko (mIx (av 0) (kI 1)) (ae 2))) bE)
  (ai (be (mB (m2 dEq (mIx (av 0) (kI 0)) (kSt "least"))) (a8 (m2 dGe (aw vv (ag (mIx (av 0) (kI 2)) (ag (ae 1) nZ))) (mIx (av 0) (kI 1)))) bE)
  (a8 (m2 dLe (aw vv (ag (mIx (av 0) (kI 2)) (ag (ae 2) nZ))) (mIx (av 0) (kI 1)))))))
def Bk:=aO 3 Bj
def Bl:MF3:=
 (a8 (aw uW (ag (aP (bn 1 [1,2] (aV (mIx (av 0) (kI 2))) (ay 0) kY (aw Bk (ag (ae 0) (ag (ae 1) (ag (ae 2) nZ)))))) nZ)))
def Bm:=aO 3 Bl
def Bo:MF3:=
 (ai (be (mB (m2 dLt (ae 1) (aw cG (ag (ae 0) nZ)))) (a8 (mIx (av 0) (ae 1))) bE)
  (a8 (kI 0)))
def sr:=aO 2 Bo
def b_3:MF3:=
 (ai (aZ 2 (mIx (ag (kI 2147483647) (ag (kI 1000000007) (ag (kI 998244353) (ag (kI 1000000009) nZ)))) (m2 bP (ae 1) (kI 4))))
  (ai (aZ 3 (m2 bP (m2 jP (m2 da (m2 bP (ae 0) (m2 mS (kI 10) (kI 18))) (m2 jP (kI 15485863) (m2 da (ae 1) (kI 1)))) (kI 48271)) (ae 2)))
  (a8 (m2 bP (m2 jP (ae 3) (ae 3)) (kI 1000003)))))
def m_3:=aO 4 b_3
def Bp:MF3:=
 (ai (c6 3 nZ)
  (ai (b6 (gJ (ag (m2 bP (aw m_3 (ag (ae 0) (ag (ae 1) nZ))) (kI 4)) nZ)) (ay 4) (ai (aZ 5 (aw m_3 (ag (ae 0) (ag (m2 da (m2 da (ae 1) (kI 1)) (ae 4)) nZ))))
  (ai (aZ 6 (mIx (ag (kI 1) (ag (kI 1) (ag (m2 bP (m2 km (ae 5) (kI 8)) (kI 4)) (ag (m2 bP (ae 0) (m2 mS (kI 10) (kI 60))) nZ)))) (m2 bP (m2 km (ae 5) (kI 32)) (kI 4))))
  (dC 3 (bo (ag (m2 bP (m2 km (ae 5) (kI 128)) (ae 2)) (ag (ae 6) nZ)))))))
  (eT 3)))
def Bq:=aO 7 Bp
def Br:MF3:=
 (ai (aZ 3 (aw m_3 (ag (ae 0) (ag (ae 1) nZ))))
  (ai (be (mB (m2 dLt (m2 bP (ae 3) (kI 8)) (kI 5))) (a8 (bo (ag (mIx (ag (kSt "in") (ag (kSt "in") (ag (kSt "out") (ag (kSt "out") (ag (kSt "in") nZ))))) (m2 bP (ae 3) (kI 8))) (ag (m2 bP (m2 km (ae 3) (kI 8)) (ae 2)) nZ)))) bE)
  (ai (aZ 4 (aw Bq (ag (ae 0) (ag (m2 da (ae 1) (kI 1)) (ag (ae 2) nZ)))))
  (ai (aZ 5 (aw m_3 (ag (ae 0) (ag (m2 da (ae 1) (kI 5)) nZ))))
  (ai (be (mB (m2 dEq (m2 bP (ae 5) (kI 4)) (kI 0))) (a8 (bo (ag (mIx (ag (kSt "least") (ag (kSt "most") nZ)) (m2 bP (ae 3) (kI 2))) (ag (m2 jP (m2 bP (ae 0) (m2 mS (kI 10) (kI 60))) (m2 kj (m2 bP (m2 km (ae 5) (kI 4)) (kI 3)) (kI 1))) (ag (ae 4) nZ))))) bE)
  (a8 (bo (ag (mIx (ag (kSt "least") (ag (kSt "most") nZ)) (m2 bP (ae 3) (kI 2))) (ag (m2 kj (m2 bP (m2 km (ae 5) (kI 4)) (kI 5)) (kI 1)) (ag (ae 4) nZ))))))))))
def qb:=aO 6 Br
def vw:MF3:=
 (ai (c6 2 nZ)
  (ai (b6 (gJ (ag (ae 1) nZ)) (ay 3) (ai (be (mB (m2 dEq (m2 bP (ae 0) (kI 4)) (kI 1))) (dC 2 (bo (ag (kSt "make") (ag (ae 3) (ag (aP (ag (bo (ag (kSt "in") (ag (m2 bP (m2 da (ae 3) (kI 1)) (ae 1)) nZ))) nZ)) nZ))))) bE)
  (ai (be (mB (m2 dEq (m2 bP (ae 0) (kI 4)) (kI 2))) (dC 2 (bo (ag (kSt "make") (ag (ae 3) (ag (aP (ag (bo (ag (kSt "out") (ag (m2 bP (m2 da (ae 3) (kI 1)) (ae 1)) nZ))) nZ)) nZ))))) bE)
  (be (mB (m2 dEq (m2 bP (ae 0) (kI 4)) (kI 3))) (dC 2 (bo (ag (kSt "may") (ag (ae 3) (ag (aP nZ) nZ))))) bE))))
  (eT 2)))
def Bs:=jh 4 vw
def Bt:MF3:=
 (ai (aZ 2 (mIx (ag (kSt "make") (ag (kSt "make") (ag (kSt "make") (ag (kSt "make") (ag (kSt "may") (ag (kSt "may") (ag (kSt "may") (ag (kSt "never") nZ)))))))) (m2 bP (aw m_3 (ag (ae 0) (ag (kI 0) nZ))) (kI 8))))
  (ai (aZ 3 (m2 bP (aw m_3 (ag (ae 0) (ag (kI 1) nZ))) (kI 4)))
  (ai (be (dF (mB (m2 dEq (ae 2) (kSt "never"))) (dF (mB (m2 dEq (ae 3) (kI 0))) (mB (m2 dGt (m2 bP (aw m_3 (ag (ae 0) (ag (kI 2) nZ))) (kI 8)) (kI 0))))) (aZ 3 (kI 2)) bE)
  (ai (aZ 4 (aP (bn 1 [0,1] (gJ (ag (ae 3) nZ)) (ay 0) kY (aw qb (ag (ae 1) (ag (m2 da (kI 3) (m2 jP (kI 6) (ae 0))) (ag (ae 2) nZ)))))))
  (ai (be (mB (m2 dEq (ae 2) (kSt "never"))) (a8 (bo (ag (ae 2) (ag kN (ag (ae 4) nZ))))) bE)
  (a8 (bo (ag (ae 2) (ag (m2 bP (aw m_3 (ag (ae 0) (ag (kI 2) nZ))) (ae 1)) (ag (ae 4) nZ))))))))))
def Bu:=aO 5 Bt
def Bv:MF3:=
 (ai (aZ 2 (aw sr (ag (ae 0) (ag (kI 0) nZ))))
  (ai (aZ 3 (m2 bP (ae 2) (ae 1)))
  (ai (c6 4 (kC Bs (ag (m2 km (ae 2) (ae 1)) (ag (ae 3) nZ))))
  (ai (b6 (aV (aP (mSl (ae 0) (mPt (kI 1)) (mPt (m2 da (kI 1) (mIx (ag (kI 60) (ag (kI 60) (ag (kI 40) (ag (kI 24) (ag (kI 10) (ag (kI 5) nZ)))))) (ae 3))))))) (ay 5) (be (mB (m2 dEq (ae 3) (kI 0))) (dC 4 (bo (ag (kSt "never") (ag kN (ag (aP (ag (bo (ag (kSt "most") (ag (m2 kj (m2 bP (ae 5) (kI 3)) (kI 2)) (ag (aP nZ) nZ)))) nZ)) nZ))))) (dC 4 (aw Bu (ag (ae 5) (ag (ae 3) nZ))))))
  (fS 4 (a8 (bo (ag (ae 3) (ag (ae 4) nZ)))))))))
def vz:=aO 6 Bv
def Bw:MF3:=
 (λM=>if 2 < M.length then ai (p7 2 3 (bM (ae 1)) (iq (aU "Seeking" "watches" (aH 0)) (mIx (av 1) (kI 0))) (aV (ae 1)) 1 [3,0] (ay 0) (mB (m2 fW (ae 0) (aP (iq (aU "Seeking" "watches" (aH 2)) (ae 1))))) (ae 0))
  (fS 2 (b6 (aV (ae 2)) (ay 4) (be (mB (m2 dEq (mIx (av 4) (kI 0)) (kSt "bar"))) (b6 (aV (mIx (pC (aU "Seeking" "bars" (aH 0))) (mIx (av 4) (kI 1)))) (ay 3) (pY 0 (kK (aU "Seeking" "watches" (aH 0)) (ae 3)) (ae 4))) bE))) M else ab)
def Bx:MTf:=d6 5 Bw
def By:MF3:=
 (cy (ag (bf "In" "thing" (ae 0)) nZ))
def vA:=aO 1 By
def Bz:MF3:=
 (a8 (kBl ac))
def BA:=aO 1 Bz
def BB:MF3:=
 (cy (ni (aP (bn 2 [] (aV (ae 0)) (cZ (bq (ay 0) (bq (ay 1) dk))) kY (ae 0)))))
def vB:=aO 1 BB
def BC:MF3:=
 (a8 (aw vB (ag (bf "Least" "pieces" (ae 0)) nZ)))
def vC:=aO 1 BC
def BD:MF3:=
 (a8 (kBl ac))
def BE:=aO 1 BD
def BF:MF3:=
 (a8 (aw vB (ag (bf "Most" "pieces" (ae 0)) nZ)))
def vE:=aO 1 BF
def BG:MF3:=
 (a8 (kBl af))
def BH:=aO 1 BG
def BI:MF3:=
 (cy (ag (bf "Out" "thing" (ae 0)) nZ))
def vF:=aO 1 BI
def BJ:MF3:=
 (a8 (kBl af))
def BK:=aO 1 BJ
def BL:MF3:=
 (ai (pW 0 (aU "Seeking" "guards" (aH 0)) (ae 1) (ae 2))
  (ai (b6 (aV (ae 2)) (ay 3) (b6 (aV (bh (aN "In" "named" vA (ae 3) λ_=>aa []) (bh (aN "Out" "named" vF (ae 3) λ_=>aa []) (bh (aN "Least" "named" vC (ae 3) λ_=>aa []) (aN "Most" "named" vE (ae 3) λ_=>aa []))))) (ay 4) (pX 0 1 (aU "Seeking" "watches" (aH 0)) (bo (ag (ae 4) (ag (bh (aN "In" "wants" BA (ae 3) λ_=>aa []) (bh (aN "Out" "wants" BK (ae 3) λ_=>aa []) (bh (aN "Least" "wants" BE (ae 3) λ_=>aa []) (aN "Most" "wants" BH (ae 3) λ_=>aa [])))) nZ))))))
  (kL 0 (aU "Seeking" "waiting" (aH 0)) (ae 1))))
def ss:MTf:=d6 5 BL
abbrev BM(as:LD):Option (LSt×LD):=rG 2 [("thing",(ae 1),)] as
abbrev vG(as:LD):Option (LSt×LD):=rG 2 [("thing",(ae 1),)] as
def BN:MF3:=
 (cy (bn 2 [] (aV (ae 0)) (cZ (bq (ay 0) (bq (ay 1) dk))) kY (vIf (bM (ae 1)) (iJ "In" BM (ag (ae 0) nZ)) (iJ "Out" vG (ag (ae 0) nZ)))))
def BO:=aO 1 BN
def BP:MF3:=
 (ai (dN (cH 0 "Seeking" "drop_wider" Bx (bH (mX (ae 1)) cu)))
  (ai (aZ 2 (bo (ag (kSt "bar") (ag (aw cG (ag (pB (aU "Seeking" "bars" (aH 0))) nZ)) nZ))))
  (ai (kL 0 (aU "Seeking" "bars" (aH 0)) (ae 1))
  (dN (cH 0 "Seeking" "take_guard" ss (bH (mX (ae 2)) (bH (mX (aw BO (ag (ae 1) nZ))) cu)))))))
def vH:MTf:=d6 3 BP
abbrev BQ(as:LD):Option (LSt×LD):=rG 3 [("bound",(ae 1),),("pieces",(aP (av 2)),)] as
abbrev II(as:LD):Option (LSt×LD):=rG 3 [("bound",(ae 1),),("pieces",(aP (av 2)),)] as
def BR:MF3:=
 (ai (aZ 1 (mIx (av 0) (kI 0)))
  (ai (be (mB (m2 dEq (ae 1) (kSt "in"))) (a8 (iJ "In" BM (ag (mIx (av 0) (kI 1)) nZ))) bE)
  (ai (be (mB (m2 dEq (ae 1) (kSt "out"))) (a8 (iJ "Out" vG (ag (mIx (av 0) (kI 1)) nZ))) bE)
  (ai (be (mB (m2 dEq (ae 1) (kSt "least"))) (a8 (iJ "Least" BQ (ag (mIx (av 0) (kI 1)) (ag (mIx (av 0) (kI 2)) nZ)))) bE)
  (a8 (iJ "Most" II (ag (mIx (av 0) (kI 1)) (ag (mIx (av 0) (kI 2)) nZ))))))))
def BS:=aO 2 BR
def b_2:MF3:=
 (cy (bn 1 [] (aV (mIx (av 0) (kI 2))) (ay 0) kY (aw BS (ag (ae 0) nZ))))
def m_2:=aO 1 b_2
def o_2:=jh 1 b_2
def BU:MF3:=
 (ai (be (mB (m2 dEq (mIx (av 0) (kI 0)) (kSt "may"))) (cy (ag (iJ "Least" BQ (ag (kI 1) (ag (aP nZ) nZ))) nZ)) bE)
  (ai (c6 1 (kC o_2 (ag (ae 0) nZ)))
  (ai (be (mB (m2 dEq (mIx (av 0) (kI 0)) (kSt "make"))) (dC 1 (iJ "Out" vG (ag (mIx (av 0) (kI 1)) nZ))) bE)
  (eT 1))))
def vI:=aO 2 BU
def BV:MF3:=
 (ai (eD 0 "Seeking" "sheet" (aH 0) (ip (av 3)))
  (ai (eD 0 "Seeking" "steps" (aH 0) (ip nZ))
  (ai (eD 0 "Seeking" "bars" (aH 0) (ip nZ))
  (ai (eD 0 "Seeking" "guards" (aH 0) (λ_=>aa (.dT [] [])))
  (ai (eD 0 "Seeking" "watches" (aH 0) (λ_=>aa (.dT [] [])))
  (ai (eD 0 "Seeking" "waiting" (aH 0) (ip nZ))
  (ai (eD 0 "Seeking" "makers" (aH 0) (jq (aP (bn 1 [] (aV (mIx (av 1) (kI 1))) (ay 0) (mB (m2 fA (mIx (av 0) (kI 1)) kN)) (bo (ag (mIx (av 0) (kI 1)) (ag (aw m_2 (ag (ae 0) nZ)) nZ)))))))
  (ai (b6 (jk (ag (mIx (av 1) (kI 1)) nZ)) (cZ (bq (ay 5) (bq (ay 4) dk))) (dN (cH 0 "Seeking" "take_guard" ss (bH (mX (bo (ag (kSt "rule") (ag (ae 5) nZ)))) (bH (mX (aw vI (ag (ae 4) nZ))) cu)))))
  (b6 (aV (ae 2)) (ay 6) (dN (cH 0 "Seeking" "take_bar" vH (bH (mX (ae 6)) cu))))))))))))
def BW:MTf:=d6 7 BV
def BX:MF3:=
 (ai (dN (lU 0 BW (bH (mX (ae 1)) (bH (mX (aP nZ)) (bH (mX (aP (bn 1 [] (gJ (ag (mIx (av 1) (kI 0)) nZ)) (ay 0) kY kN))) cu)))))
  (ai (eD 0 "Seeking" "paper" (aH 0) (ip nZ))
  (ai (eD 0 "Seeking" "count" (aH 0) (jq (kI 0)))
  (eD 0 "Seeking" "ended" (aH 0) (jq (kBl af))))))
def BY:MTf:=d6 2 BX
def BZ:MF3:=
 (cy (ag (bf "In" "thing" (ae 0)) nZ))
def B0:=aO 3 BZ
def B1:MF3:=
 (ai (pH 1)
  (ai (b6 (aV (ae 0)) (cZ (bq (ay 2) (bq (ay 3) dk))) (jm 1 (ae 2) (m2 da (pR 1 (ae 2) (kI 0)) (ae 3))))
  (pS 1 (a8 (ae 1)))))
def vJ:=aO 4 B1
def b_7:MF3:=
 (ai (aZ 3 (aw vJ (ag (ae 0) nZ)))
  (ai (c6 4 nZ)
  (ai (aZ 5 (ae 2))
  (ai (b6 (aV (ae 1)) (ay 6) (ai (aZ 7 (rX (ae 3) (ae 6) (kI 0)))
  (be (dF (mB (m2 dGt (ae 5) (kI 0))) (mB (m2 dGt (ae 7) (kI 0)))) (ai (dC 4 (ae 6))
  (sh 5 (ae 7))) bE)))
  (eT 4)))))
def m_7:=aO 8 b_7
def B2:MF3:=
 (cy (bn 1 [2,1] (aV (ae 0)) (ay 0) (mB (m2 dEq (mIx (av 2) (ae 0)) (ae 1))) (ae 0)))
def qc:=aO 3 B2
def B3:MF3:=
 (a8 (aw m_7 (ag (bf "Least" "pieces" (ae 0)) (ag (aw qc (ag (ae 2) (ag (ae 1) (ag (kBl ac) nZ)))) (ag (bf "Least" "bound" (ae 0)) nZ)))))
def B4:=aO 3 B3
def B5:MF3:=
 (a8 (aw jg (ag (aP (bn 2 [] (aV (ae 0)) (cZ (bq (ay 0) (bq (ay 1) dk))) kY (ae 1))) nZ)))
def vK:=aO 1 B5
def B6:MF3:=
 (a8 (aw m_7 (ag (bf "Most" "pieces" (ae 0)) (ag (aw qc (ag (ae 2) (ag (ae 1) (ag (kBl af) nZ)))) (ag (m2 kj (aw vK (ag (bf "Most" "pieces" (ae 0)) nZ)) (bf "Most" "bound" (ae 0))) nZ)))))
def B7:=aO 3 B6
def B8:MF3:=
 (cy (ag (bf "Out" "thing" (ae 0)) nZ))
def B9:=aO 3 B8
def Ca:MF3:=
 (a8 (vIf (bM (mIx (av 2) (bf "In" "thing" (ae 0)))) (aP nZ) (aP (ag (bf "In" "thing" (ae 0)) nZ))))
def Cb:=aO 4 Ca
def Cc:MF3:=
 (cy (bn 1 [1] (aV (ae 0)) (ay 0) (fR (bM (mIx (av 1) (mIx (av 0) (kI 0))))) (ae 0)))
def vL:=aO 2 Cc
def Cd:MF3:=
 (ai (aZ 4 (aw vL (ag (bf "Least" "pieces" (ae 0)) (ag (ae 2) nZ))))
  (a8 (aw m_7 (ag (ae 4) (ag (aw qc (ag (ae 3) (ag (ae 1) (ag (kBl af) nZ)))) (ag (m2 da (m2 kj (aw vK (ag (ae 4) nZ)) (bf "Least" "bound" (ae 0))) (kI 1)) nZ))))))
def Ce:=aO 5 Cd
def Cf:MF3:=
 (a8 (aw m_7 (ag (bf "Most" "pieces" (ae 0)) (ag (aw qc (ag (ae 3) (ag (ae 1) (ag (kBl ac) nZ)))) (ag (m2 da (bf "Most" "bound" (ae 0)) (kI 1)) nZ)))))
def Cg:=aO 4 Cf
def Ch:MF3:=
 (cy (ag (bf "Out" "thing" (ae 0)) nZ))
def Ci:=aO 4 Ch
def Cj:MF3:=
 (a8 (vOr (m2 dIs (mIx (av 1) (bf "In" "thing" (ae 0))) (kBl af)) (mIx (av 2) (bf "In" "thing" (ae 0)))))
def sx:=aO 3 Cj
def Ck:MF3:=
 (a8 (aw jg (ag (aP (bn 2 [1] (aV (ae 0)) (cZ (bq (ay 0) (bq (ay 1) dk))) (mB (m2 fA (mIx (av 2) (ae 0)) (kBl af))) (ae 1))) nZ)))
def qd:=aO 2 Ck
def Cm:MF3:=
 (a8 (m2 dLt (aw qd (ag (aw vL (ag (bf "Least" "pieces" (ae 0)) (ag (ae 2) nZ))) (ag (ae 1) nZ))) (bf "Least" "bound" (ae 0))))
def sy:=aO 3 Cm
def Cn:MF3:=
 (a8 (aw jg (ag (aP (bn 2 [1] (aV (ae 0)) (cZ (bq (ay 0) (bq (ay 1) dk))) (mB (m2 dIs (mIx (av 2) (ae 0)) (kBl ac))) (ae 1))) nZ)))
def sA:=aO 2 Cn
def Co:MF3:=
 (a8 (m2 dGt (aw sA (ag (bf "Most" "pieces" (ae 0)) (ag (ae 1) nZ))) (bf "Most" "bound" (ae 0))))
def sC:=aO 3 Co
def Cp:MF3:=
 (a8 (m2 dIs (mIx (av 1) (bf "Out" "thing" (ae 0))) (kBl ac)))
def sD:=aO 3 Cp
def b_6:MF3:=
 (ai (b6 (aV (ae 0)) (ay 3) (be (bM (bh (aN "In" "lost" sx (ae 3) (ag (ae 1) (ag (ae 2) nZ))) (bh (aN "Out" "lost" sD (ae 3) (ag (ae 1) (ag (ae 2) nZ))) (bh (aN "Least" "lost" sy (ae 3) (ag (ae 1) (ag (ae 2) nZ))) (aN "Most" "lost" sC (ae 3) (ag (ae 1) (ag (ae 2) nZ))))))) (eT 3) bE))
  (a8 kN))
def m_6:=aO 4 b_6
def b_1:MF3:=
 (ai (pH 2)
  (ai (b6 (aV (ae 1)) (ay 3) (jm 2 (ae 3) (kBl ac)))
  (fS 2 (cy (bn 1 [2] (gJ (ag (ae 0) nZ)) (ay 0) kY (m2 rL (ae 0) (ae 1)))))))
def m_1:=aO 4 b_1
def o_1:=jh 4 b_1
def b_9:MF3:=
 (ai (aZ 4 (aw m_1 (ag (aw cG (ag (ae 1) nZ)) (ag (ae 2) nZ))))
  (ai (c6 5 (mSl (aP (bn 1 [4,1] (aV (ae 3)) (ay 0) (dF (bM (mIx (av 1) (ae 0))) (mB (m2 dIs (mIx (av 2) (ae 0)) (kBl ac)))) (ae 0))) (λ_=>aa ab) (mPt (kI 1))))
  (ai (b6 (aV (bf "Seeking" "makers" (ae 0))) (cZ (bq (ay 6) (bq (ay 7) dk))) (be (bM (mIx (av 4) (ae 6))) (kB 5 (kA (bh (aN "In" "lost_by" Cb (aw m_6 (ag (ae 7) (ag (ae 1) (ag (ae 4) nZ)))) (ag (ae 1) (ag (ae 4) (ag (ae 3) nZ)))) (bh (aN "Out" "lost_by" Ci (aw m_6 (ag (ae 7) (ag (ae 1) (ag (ae 4) nZ)))) (ag (ae 1) (ag (ae 4) (ag (ae 3) nZ)))) (bh (aN "Least" "lost_by" Ce (aw m_6 (ag (ae 7) (ag (ae 1) (ag (ae 4) nZ)))) (ag (ae 1) (ag (ae 4) (ag (ae 3) nZ)))) (aN "Most" "lost_by" Cg (aw m_6 (ag (ae 7) (ag (ae 1) (ag (ae 4) nZ)))) (ag (ae 1) (ag (ae 4) (ag (ae 3) nZ))))))))) bE))
  (eT 5))))
def m_9:=aO 8 b_9
def o_9:=jh 8 b_9
def b_5:MF3:=
 (ai (be (mB (m2 dEq (mIx (av 2) (kI 0)) (kSt "world"))) (cy (nB (ag (aw cG (ag (ae 1) nZ)) nZ))) bE)
  (ai (be (mB (m2 dEq (mIx (av 2) (kI 0)) (kSt "group"))) (cy (iw "Seeking" "grounds_of_group" o_9 (ae 0) (ag (ae 1) (ag (mIx (av 2) (kI 1)) (ag (ae 3) nZ))))) bE)
  (ai (c6 4 nZ)
  (ai (b6 (aV (m2 si (bf "Seeking" "guards" (ae 0)) (ae 2))) (ay 5) (kB 4 (kA (bh (aN "In" "sure_by" B0 (ae 5) (ag (ae 1) (ag (ae 3) nZ))) (bh (aN "Out" "sure_by" B9 (ae 5) (ag (ae 1) (ag (ae 3) nZ))) (bh (aN "Least" "sure_by" B4 (ae 5) (ag (ae 1) (ag (ae 3) nZ))) (aN "Most" "sure_by" B7 (ae 5) (ag (ae 1) (ag (ae 3) nZ)))))))))
  (eT 4)))))
def m_5:=aO 6 b_5
def o_5:=jh 6 b_5
def Cq:MF3:=
 (cy (kG (aP (bn 1 [1] (aV (ae 0)) (ay 0) (bM (mIx (av 1) (ae 0))) (ae 0))) (aP (bn 1 [1] (aV (ae 0)) (ay 0) (fR (bM (mIx (av 1) (ae 0)))) (ae 0)))))
def vM:=aO 2 Cq
def Cr:MF3:=
 (a8 (vIf (mB (m2 dEq (mIx (av 0) (kI 0)) (kSt "group"))) (bo (ag (mIx (av 0) (kI 0)) (ag (aP (aV (mIx (av 0) (kI 1)))) nZ))) (ae 0)))
def sE:=aO 1 Cr
def Cs:MF3:=
 (ai (c6 2 (pC (aU "Seeking" "sheet" (aH 0))))
  (ai (aZ 5 (aP (bn 2 [] (pC (aU "Seeking" "steps" (aH 0))) (cZ (bq (ay 0) (bq (ay 1) dk))) kY (mIx (av 0) (kI 0)))))
  (ai (c6 6 (kC o_1 (ag (aw cG (ag (cO 2) nZ)) (ag (aP (iw "Seeking" "grounds" o_5 (cO 0) (ag (cO 2) (ag (ae 1) (ag (ae 5) nZ))))) nZ))))
  (ai (c6 7 nZ)
  (ai (c6 8 (ag (bo (ag kN (ag (aw sE (ag (ae 1) nZ)) nZ))) nZ))
  (ai (nJ 0 "Seeking" "steps" (b6 (lR (ag (pD (aU "Seeking" "steps" (aH 0))) nZ)) (cZ (bq (ay 3) (bq (ay 4) dk))) (ai (aZ 9 (mIx (av 3) (kI 0)))
  (ai (be (dF (bM (mIx (av 6) (ae 9))) (mB (m2 dIs (ae 4) kN))) (dC 7 (ae 3)) (be (bM (mIx (av 6) (ae 9))) (ai (dC 8 (bo (ag (ae 3) (ag (aw sE (ag (ae 4) nZ)) nZ))))
  (ai (gi 2 (ae 9) (mR (mIx (av 3) (kI 1))))
  (b6 (aV (aP (iw "Seeking" "grounds" o_5 (cO 0) (ag (cO 2) (ag (ae 4) (ag (aw vM (ag (ae 5) (ag (cO 6) nZ))) nZ)))))) (ay 10) (gi 6 (ae 10) (kBl ac))))) bE))
  (gi 2 (ae 9) kN)))))
  (fB (bo (ag (aP (pO 7)) (ag (aP (pO 8)) nZ))))))))))
def Ct:MTf:=d6 11 Cs
def Cu:MF3:=
 (ai (aZ 2 (aP (bn 2 [] (jk (ag (pD (aU "Seeking" "steps" (aH 0))) nZ)) (cZ (bq (ay 0) (bq (ay 1) dk))) (mB (m2 dIs (mIx (av 1) (kI 1)) kN)) (ae 0))))
  (ai (aZ 3 (aP (bn 1 [0] (aV (ae 2)) (ay 0) kY (mIx (aV (mIx (aV (pD (aU "Seeking" "steps" (aH 1)))) (ae 0))) (kI 0)))))
  (fB (mIx (av 2) (vIf (mB (m2 dEq (aw cG (ag (ae 1) nZ)) (kI 1))) (kI 0) (m2 da (m2 gR (ae 3) (mIx (av 1) (m1 rn (kI 2)))) (kI 1)))))))
def Cv:MTf:=d6 4 Cu
def Cw:MF3:=
 (ai (b6 (aV (aP (mSl (pD (aU "Seeking" "steps" (aH 0))) (mPt (ae 1)) (λ_=>aa ab)))) (cZ (bq (ay 2) (bq (ay 3) dk))) (nG 0 (aU "Seeking" "sheet" (aH 0)) (mIx (av 2) (kI 0)) kN))
  (ai (eD 0 "Seeking" "steps" (aH 0) (ip (mSl (pD (aU "Seeking" "steps" (aH 0))) (λ_=>aa ab) (mPt (ae 1)))))
  (eD 0 "Seeking" "waiting" (aH 0) (ip nZ))))
def Cy:MTf:=d6 4 Cw
def Cz:MF3:=
 (ai (fZ 2 (cH 0 "Seeking" "line_to" Ct (bH (mX (ae 1)) cu)))
  (ai (kL 0 (aU "Seeking" "paper" (aH 0)) (ae 2))
  (be (bM (mIx (av 2) (kI 0))) (ai (dN (cH 0 "Seeking" "take_back" Cy (bH (cH 0 "Seeking" "place_for" Cv (bH (mX (mIx (av 2) (kI 0))) cu)) cu)))
  (dN (cH 0 "Seeking" "take_bar" vH (bH (mX (mIx (av 2) (kI 0))) cu)))) (eD 0 "Seeking" "ended" (aH 0) (jq (kBl ac))))))
def qe:MTf:=d6 3 Cz
def CA:MF3:=
 (ai (nG 0 (aU "Seeking" "sheet" (aH 0)) (ae 1) (ae 2))
  (ai (kL 0 (aU "Seeking" "steps" (aH 0)) (bo (ag (bo (ag (ae 1) (ag (ae 2) nZ))) (ag (ae 3) nZ))))
  (pV 0 (aU "Seeking" "waiting" (aH 0)) (iq (aU "Seeking" "watches" (aH 0)) (bo (ag (ae 1) (ag (ae 2) nZ)))))))
def qf:MTf:=d6 4 CA
def CB:MF3:=
 (a8 (m2 dIs (mIx (av 1) (bf "In" "thing" (ae 0))) (kBl ac)))
def CC:=aO 2 CB
def CD:MF3:=
 (a8 (vIf (mB (m2 dIs (mIx (av 1) (bf "In" "thing" (ae 0))) kN)) (aP (ag (bo (ag (bf "In" "thing" (ae 0)) (ag (kBl ac) nZ))) nZ)) (aP nZ)))
def CF:=aO 2 CD
def CG:MF3:=
 (a8 (m2 dGe (aw sA (ag (bf "Least" "pieces" (ae 0)) (ag (ae 1) nZ))) (bf "Least" "bound" (ae 0))))
def CH:=aO 2 CG
def CI:MF3:=
 (ai (aZ 3 (aw vJ (ag (aP (bn 1 [1] (aV (ae 0)) (ay 0) (mB (m2 dIs (mIx (av 1) (mIx (av 0) (kI 0))) kN)) (ae 0))) nZ)))
  (cy (bn 1 [2,3] (rV (ae 3)) (ay 0) (mB (m2 dGe (m2 rW (ae 2) (ae 0)) (ae 1))) (ae 0))))
def vN:=aO 4 CI
def CJ:MF3:=
 (ai (aZ 2 (m2 kj (bf "Least" "bound" (ae 0)) (aw sA (ag (bf "Least" "pieces" (ae 0)) (ag (ae 1) nZ)))))
  (cy (bn 1 [] (aV (aw vN (ag (bf "Least" "pieces" (ae 0)) (ag (ae 1) (ag (ae 2) nZ))))) (ay 0) kY (bo (ag (ae 0) (ag (kBl ac) nZ))))))
def CK:=aO 3 CJ
def CL:MF3:=
 (a8 (m2 dLe (aw qd (ag (bf "Most" "pieces" (ae 0)) (ag (ae 1) nZ))) (bf "Most" "bound" (ae 0))))
def CM:=aO 2 CL
def CN:MF3:=
 (ai (aZ 2 (m2 kj (aw qd (ag (bf "Most" "pieces" (ae 0)) (ag (ae 1) nZ))) (bf "Most" "bound" (ae 0))))
  (cy (bn 1 [] (aV (aw vN (ag (bf "Most" "pieces" (ae 0)) (ag (ae 1) (ag (ae 2) nZ))))) (ay 0) kY (bo (ag (ae 0) (ag (kBl af) nZ))))))
def CO:=aO 3 CN
def CP:MF3:=
 (a8 (m2 dIs (mIx (av 1) (bf "Out" "thing" (ae 0))) (kBl af)))
def CQ:=aO 2 CP
def CS:MF3:=
 (a8 (vIf (mB (m2 dIs (mIx (av 1) (bf "Out" "thing" (ae 0))) kN)) (aP (ag (bo (ag (bf "Out" "thing" (ae 0)) (ag (kBl af) nZ))) nZ)) (aP nZ)))
def CT:=aO 2 CS
def CU:MF3:=
 (ai (aZ 2 kN)
  (ai (b6 (aV (ae 0)) (ay 3) (be (fR (bM (bh (aN "In" "sure" CC (ae 3) (ag (ae 1) nZ)) (bh (aN "Out" "sure" CQ (ae 3) (ag (ae 1) nZ)) (bh (aN "Least" "sure" CH (ae 3) (ag (ae 1) nZ)) (aN "Most" "sure" CM (ae 3) (ag (ae 1) nZ))))))) (ai (aZ 4 (bh (aN "In" "tips" CF (ae 3) (ag (ae 1) nZ)) (bh (aN "Out" "tips" CT (ae 3) (ag (ae 1) nZ)) (bh (aN "Least" "tips" CK (ae 3) (ag (ae 1) nZ)) (aN "Most" "tips" CO (ae 3) (ag (ae 1) nZ))))))
  (ai (aZ 2 (vIf (mB (m2 dIs (ae 2) kN)) (ae 4) (aP (bn 1 [4] (aV (ae 2)) (ay 0) (mB (m2 fW (ae 0) (ae 1))) (ae 0)))))
  (be (fR (bM (ae 2))) (cy nZ) bE))) bE))
  (ai (be (mB (m2 dIs (ae 2) kN)) (a8 kN) bE)
  (cy (bn 2 [] (aV (ae 2)) (cZ (bq (ay 0) (bq (ay 1) dk))) kY (bo (ag (ae 0) (ag (mR (ae 1)) nZ))))))))
abbrev CV(as:LD):Option (LD ⊕ D):=zK 5 CU as
def CW:MF3:=
 (ai (dq (bM (pB (aU "Seeking" "waiting" (aH 0)))) (ai (fZ 1 (sd 0 (aU "Seeking" "waiting" (aH 0))))
  (ai (aZ 2 (pZ CV (ag (pB (kK (aU "Seeking" "guards" (aH 0)) (ae 1))) (ag (pB (aU "Seeking" "sheet" (aH 0))) nZ))))
  (ai (be (mB (m2 dIs (ae 2) kN)) (fB (ae 1)) bE)
  (b6 (aV (ae 2)) (cZ (bq (ay 3) (bq (ay 4) dk))) (dN (cH 0 "Seeking" "put" qf (bH (mX (ae 3)) (bH (mX (ae 4)) (bH (mX (ae 1)) cu))))))))) 1000000000)
  (fB kN))
def CY:MTf:=d6 5 CW
def CZ:MF3:=
 (ai (be (bM (bh (aN "In" "lost" sx (ae 1) (ag (bf "Seeking" "sheet" (ae 0)) (ag (aw m_1 (ag (aw cG (ag (bf "Seeking" "sheet" (ae 0)) nZ)) (ag (aP nZ) nZ))) nZ))) (bh (aN "Out" "lost" sD (ae 1) (ag (bf "Seeking" "sheet" (ae 0)) (ag (aw m_1 (ag (aw cG (ag (bf "Seeking" "sheet" (ae 0)) nZ)) (ag (aP nZ) nZ))) nZ))) (bh (aN "Least" "lost" sy (ae 1) (ag (bf "Seeking" "sheet" (ae 0)) (ag (aw m_1 (ag (aw cG (ag (bf "Seeking" "sheet" (ae 0)) nZ)) (ag (aP nZ) nZ))) nZ))) (aN "Most" "lost" sC (ae 1) (ag (bf "Seeking" "sheet" (ae 0)) (ag (aw m_1 (ag (aw cG (ag (bf "Seeking" "sheet" (ae 0)) nZ)) (ag (aP nZ) nZ))) nZ))))))) (cy nZ) bE)
  (cy (bn 1 [2] (aV (bh (aN "In" "named" vA (ae 1) λ_=>aa []) (bh (aN "Out" "named" vF (ae 1) λ_=>aa []) (bh (aN "Least" "named" vC (ae 1) λ_=>aa []) (aN "Most" "named" vE (ae 1) λ_=>aa []))))) (ay 0) (bM (mIx (av 1) (ae 0))) (ae 0))))
def C0:=aO 3 CZ
def C3:MF3:=
 (cy (bn 2 [2,0,1] (aV (bf "Seeking" "makers" (ae 0))) (cZ (bq (ay 0) (bq (ay 1) dk))) (mB (m2 dEq (ae 0) (ae 4))) (aw m_6 (ag (ae 1) (ag (bf "Seeking" "sheet" (ae 3)) (ag (ae 2) nZ))))))
def C4:=aO 3 C3
def sF:MF3:=
 (ai (c6 3 (ag (ae 1) nZ))
  (ai (aZ 4 (kI 0))
  (ai (dq (mB (m2 dLt (ae 4) (aw cG (ag (cO 3) nZ)))) (ai (b6 (aV (aN "Seeking" "lost_parts" C4 (ae 0) (ag (mIx (av 3) (ae 4)) (ag (ae 2) nZ)))) (ay 5) (kB 3 (kA (aP (bn 1 [3] (aV (aN "Seeking" "keeping" C0 (ae 0) (ag (ae 5) (ag (ae 2) nZ)))) (ay 0) (mB (m2 ko (ae 0) (cO 1))) (ae 0))))))
  (lS 4 (mX (kI 1)))) 1000000000)
  (fS 3 (cy (lQ (ae 3)))))))
def W3:=aO 6 sF
def lV:=jh 6 sF
def C5:MF3:=
 (ai (c6 1 (bn 1 [] (pC (aU "Seeking" "sheet" (aH 0))) (ay 0) kY (m2 fA (ae 0) (kBl af))))
  (ai (c6 2 nZ)
  (ai (aZ 3 (pD (aU "Seeking" "makers" (aH 0))))
  (ai (aZ 4 (kBl ac))
  (ai (dq (bM (ae 4)) (ai (aZ 5 (aw cG (ag (cO 2) nZ)))
  (ai (c6 6 nZ)
  (ai (b6 (aV (ae 3)) (ay 7) (be (dF (bM (mIx (av 1) (mIx (av 7) (kI 0)))) (mB (m2 dIs (aw m_6 (ag (mIx (av 7) (kI 1)) (ag (pB (aU "Seeking" "sheet" (aH 0))) (ag (cO 1) nZ)))) kN))) (ai (gi 1 (mIx (av 7) (kI 0)) (kBl af))
  (dC 2 (ae 7))) (dC 6 (ae 7))))
  (ai (fS 6 (aZ 3 (ae 6)))
  (aZ 4 (lD (m2 dGt (aw cG (ag (cO 2) nZ)) (ae 5)) (aw pG (ag (cO 1) nZ)))))))) 1000000000)
  (ai (fS 2 (eD 0 "Seeking" "makers" (aH 0) (jq (aP (kG (ae 2) (ae 3))))))
  (fS 1 (fB (ae 1)))))))))
def C6:MTf:=d6 8 C5
def C7:MF3:=
 (ai (fZ 1 (cH 0 "Seeking" "loose_marks" C6 cu))
  (ai (aZ 3 (aP (bn 2 [1] (vj (pC (aU "Seeking" "sheet" (aH 0)))) (cZ (bq (ay 0) (bq (ay 1) dk))) (dF (bM (mIx (av 2) (ae 0))) (mB (m2 dIs (ae 1) (kBl ac)))) (ae 0))))
  (ai (be (bM (ae 3)) (fB (bo (ag (kSt "group") (ag (aP (iw "Seeking" "kernel" lV (cO 0) (ag (mIx (av 3) (kI 0)) (ag (ae 1) nZ)))) nZ)))) bE)
  (ai (b6 (jk (ag (ae 1) nZ)) (cZ (bq (ay 2) (bq (ay 4) dk))) (be (bM (ae 4)) (dN (cH 0 "Seeking" "put" qf (bH (mX (ae 2)) (bH (mX (kBl af)) (bH (mX (bo (ag (kSt "group") (ag (aP (iw "Seeking" "kernel" lV (cO 0) (ag (ae 2) (ag (ae 1) nZ)))) nZ)))) cu))))) bE))
  (fB kN)))))
def C8:MTf:=d6 5 C7
def C9:MF3:=
 (ai (aZ 1 (kBl ac))
  (ai (dq (bM (ae 1)) (ai (fZ 2 (cH 0 "Seeking" "look_round" CY cu))
  (ai (be (mB (m2 dIs (ae 2) kN)) (fZ 2 (cH 0 "Seeking" "put_loose_out" C8 cu)) bE)
  (aZ 1 (lD (m2 dIs (ae 2) kN) (m2 dGt (aw cG (ag (pB (aU "Seeking" "waiting" (aH 0))) nZ)) (kI 0)))))) 1000000000)
  (fB (ae 2))))
def sG:MTf:=d6 3 C9
def Da:MF3:=
 (cy (bn 2 [] (jk (ag (ae 0) nZ)) (cZ (bq (ay 0) (bq (ay 1) dk))) (bM (ae 1)) (ae 0)))
def sH:=jh 1 Da
def b_8:MF3:=
 (ai (dq (fR (bM (pD (aU "Seeking" "ended" (aH 0))))) (ai (fZ 1 (cH 0 "Seeking" "settle" sG cu))
  (be (mB (m2 fA (ae 1) kN)) (dN (cH 0 "Seeking" "close" qe (bH (mX (ae 1)) cu))) (be (mB (m2 fW kN (pB (aU "Seeking" "sheet" (aH 0))))) (dN (cH 0 "Seeking" "put" qf (bH (mX (m2 gR (pB (aU "Seeking" "sheet" (aH 0))) kN)) (bH (mX (kBl ac)) (bH (mX kN) cu))))) (ai (aZ 2 (aP (pN sH (ag (pB (aU "Seeking" "sheet" (aH 0))) nZ))))
  (ai (dN (cH 0 "Seeking" "close" qe (bH (mX (bo (ag (kSt "world") (ag (pD (aU "Seeking" "count" (aH 0))) nZ)))) cu)))
  (ai (nK 0 "Seeking" "count" (kI 1))
  (fB (ae 2)))))))) 1000000000)
  (fB kN))
def m_8:MTf:=d6 3 b_8
def b_0:MF3:=
 (ai (nC 2 (nI "Seeking" BY (ag (ae 0) nZ)))
  (ai (c6 3 nZ)
  (ai (fZ 4 (jQ 2 "Seeking" "another" m_8 cu))
  (ai (dq (dF (mB (m2 fA (ae 4) kN)) (mB (m2 dLt (aw cG (ag (cO 3) nZ)) (ae 1)))) (ai (dC 3 (ae 4))
  (fZ 4 (jQ 2 "Seeking" "another" m_8 cu))) 1000000000)
  (ai (be (mB (m2 dIs (ae 4) kN)) (fS 3 (nJ 2 "Seeking" "paper" (a8 (bo (ag (ae 3) (ag (kBl ac) (ag (pD (aU "Seeking" "paper" (aH 2))) nZ))))))) bE)
  (fS 3 (a8 (bo (ag (ae 3) (ag (kBl af) (ag (aP nZ) nZ)))))))))))
def m_0:=aO 5 b_0
def b_4:MF3:=
 (ai (aZ 1 (aw vz (ag (ae 0) (ag (kI 6) nZ))))
  (ai (aZ 2 (aw m_0 (ag (zB (pQ sn (ag (ae 1) nZ))) (ag (kI 33) nZ))))
  (ai (be (mOr (fR (bM (mW "tuple" (ae 2)))) (mOr (mB (m2 dNe (aw cG (ag (ae 2) nZ)) (kI 3))) (fR (bM (mW "list" (mIx (av 2) (kI 0))))))) (a8 (kBl af)) bE)
  (ai (aZ 3 (m2 da (m2 bP (aw sr (ag (ae 0) (ag (kI 2) nZ))) (m2 mS (kI 10) (kI 40))) (m2 bP (aw sr (ag (ae 0) (ag (kI 0) nZ))) (m2 mS (kI 10) (kI 9)))))
  (ai (aZ 4 (bo (ag (kSt "never") (ag kN (ag (aP nZ) nZ)))))
  (ai (be (mB (m2 dGt (mIx (av 1) (kI 0)) (kI 0))) (aZ 4 (bo (ag (kSt "never") (ag kN (ag (aP (bn 1 [3,1] (gJ (ag (m2 da (kI 1) (m2 bP (aw m_3 (ag (ae 3) (ag (kI 29) nZ))) (kI 3))) nZ)) (ay 0) kY (aw qb (ag (ae 1) (ag (m2 da (kI 30) (m2 jP (kI 6) (ae 0))) (ag (mIx (av 2) (kI 0)) nZ)))))) nZ))))) bE)
  (ai (c6 5 (nM (pQ sn (ag (ae 1) nZ))))
  (ai (nN 5 (bH (mX (m2 bP (aw m_3 (ag (ae 3) (ag (kI 28) nZ))) (m2 da (aw cG (ag (cO 5) nZ)) (kI 1)))) (bH (mX (ae 4)) cu)))
  (ai (fS 5 (aZ 6 (aw m_0 (ag (bo (ag (mIx (av 1) (kI 0)) (ag (ae 5) nZ))) (ag (kI 33) nZ)))))
  (ai (be (mOr (fR (bM (mW "tuple" (ae 6)))) (mOr (mB (m2 dNe (aw cG (ag (ae 6) nZ)) (kI 3))) (mOr (mB (m2 fA (mIx (av 2) (kI 1)) (kBl ac))) (mB (m2 fA (mIx (av 6) (kI 1)) (kBl ac)))))) (a8 (kBl af)) bE)
  (a8 (m2 dEq (mIx (av 6) (kI 0)) (aP (bn 1 [4] (aV (mIx (av 2) (kI 0))) (ay 0) (fR (bM (aw Bm (ag (ae 1) (ag (ae 0) (ag (ae 0) nZ)))))) (ae 0)))))))))))))))
def m_4:=aO 7 b_4
def cmN(s:Scope):LSt:=s.names.tail.filterMap λz=>match z.2 with |.local=>aa z.1 |.free=>aa z.1 | _=>ab
variable{fi:MF2}{g:L2.D->LS->Option LS}{ft:MF4}{fe:MF1}
def S5{c:Str->Addr}{X:Cx}{d tg iter:Expr}{e:LEx}{scope:Scope}{pos:Pos}(k:Nat)(js:LN)(h:X.calm=ac)(hi:DIe c X tg iter fi)(j:∀cl W9 ex b a,DG c (X.comp scope (cmN scope) cl W9 ex b a) tg k g)(n:∀cl W9 ex b a,DTs c (X.comp scope (cmN scope) cl W9 ex b a) e ft)(i:∀cl W9 ex b a,DE c (X.comp scope (cmN scope) cl W9 ex b a) d fe)(f:autoParam (lB scope X.env.scope.names X.N (cmN scope) k js=ac) Zb)(m:autoParam (∀x,k8 iter X.env x=pure x) Zd)(l:autoParam (js.Nodup) Zc):DO c X (.ListComp d [(tg,iter,e,0)] scope pos) (bn k js fi g ft fe):=kz k js _ h hi j n i f m l
seal DSs DS DX DE DO pG dEq gR dIn fW rL dIs fA rW si rn ko ay cZ bq dk cG m1 m2 dF dC sh lS mB lU aw pZ kC pN kG bn ag bH dN jk vj kB fS nJ pS bf b6 pR rX be nN mW mIx rV pO nB aP iJ aN iw cH jQ bE cu fR kA mOr bh mPt jm gi a8 cy fB eT lR gJ ai aV aZ pH c6 fZ mSl ni lQ bM bo ae cO av dq p7 mX pX kL nK pB pC pD pV aU iq kK sd nG pW pY eD aH jg lD vIf mR vOr zB pQ jq nM ip nI nE nC rS pP
set_option hygiene false
local macro_rules
|`(@1)=>do
 let a<-L2.fs "S6 W|S7 W|S8 W|S9 W|Ta W|Tb W|Tc W|Td W|Te W|Tf W|Tg W|Th W|Ti W|Tj W|Tk W|Tl W|Tn W|To W|Tp W|Tq W|Ts W|Tt W|Tu W|Tv W|Tw W|Tx W|Tz W|TB W|TC W|TD W|TF W|TH W|TJ W|TK W|TL W|TM W|TN W|TQ W|IJ W|TR W|TU W|TV W|TW W|TX W|TY W|TZ W|T0 W|T1 W|IK W|T3 W|T4 W|T5 W|T6 W|T7 W|T8 W|T9 W|Ua W|Ub W|Uc W|Ud W|Ue W|Uf W|Ug W|IL W|Uh W|Ui W|Uj W|Uk W|Ul W|Um W|Uo W|Up W|Uq W|IM W|Ur W"
 `(by first $[|$a]*)
|`(@0)=>do
 let a:=#[<-L2.gr "DE _ _ _ _" ((<-L2.fs "dv _|FG|o7 ? ?|yx ? ? ?|dvc _|OM _ ? ? ?|NP|FI ?|FH|NO|DE.orE ? ?|o8 ? ? rfl W.ri PySem.boot_len ?|yy ? ? ? ?|FO ? ? ?|FL ?|FM ? ?|Gp 1 hr ?|ON _ ? 1 hr ?|OO _ ? 1 hr|HK ( eC _ ? ? ( d5 ( pv _ ) ) )|HK ( eC _ ? ? ( d5 ( pvc _ ) ) )|px 'In W.qq ( IN W ) .ok % ( glc rfl ) W.sf W.e_68.b ?|px 'Out W.p5 ( IP W ) .ok % ( glc rfl ) W.rs W.e_69.b ?|px 'In W.qq ( IN W ) .ok % rfl W.sf W.e_68.b ?|px 'Out W.p5 ( IP W ) .ok % rfl W.rs W.e_69.b ?|px 'Least W.o6 ( Us W ) .ok % rfl W.qs W.e_70.b ?|px 'Most W.pz ( Ut W ) .ok % rfl W.r4 W.e_71.b ?")++#[<-`(Lean.Parser.Tactic.tacticSeq|refine Gb (T := "tuple") W.pu rfl W.ny boot_tuple rfl W.p0 ?_)]++#[<-`(Lean.Parser.Tactic.tacticSeq|refine Gb (T := "list") W.p4 rfl W.ny ml rfl W.n7 ?_)]++(<-L2.fs "DO.de ?")),
 <-L2.gr "DA _ _ _ _" ((<-L2.fs "uA ? ?|NQ")),
 <-L2.gr "DSs _ _ _ _" ((<-L2.fs "bx ?|aD ? ?|OC")),
 <-L2.gr "PE _ _ _" ((<-L2.fs "pv _|pvc _")),
 <-L2.gr "DC _ _ _ _" ((<-L2.fs "dvC _|yO _|DE.dc ?|DO.dc ?")),
 <-L2.gr "DT _ _ _ _" ((<-L2.fs "mP ? ? ? ?|yA ?|NV ?|DW.dt ?")),
 <-L2.gr "DO _ _ _ _" ((<-L2.fs "NS ?|F8 ? ? ?|OK 1 hr ?|HZ _ ? 1 hr ?|QM _ rfl rfl W.n7 rfl W.n5|QP rfl rfl W.n7 rfl W.pj ?|uI ml rfl W.n7 ?")),
 <-L2.gr "DG _ _ _ _ _" ((<-L2.fs "dgc _ _|Oq _ _ !|Ou rfl ?")),
 <-L2.gr "DP _ _ _ _ _" ((<-L2.fs "d5 ?|eC _ ? ? ?")),
 <-L2.gr "DS _ _ _ _" ((<-L2.fs "lE ?|pc _ ! ?|gL ? ? ?|jJ ?|uN _ ! ?")++#[<-`(Lean.Parser.Tactic.tacticSeq|refine fT (kk := 99) dE rfl ?_ ?_ ?_)]++(<-L2.fs "zq ?|Gm ?|OH _|vh _ ! ?|mZ _ ?|GG ? ? ?|pf _ dE ? ?|OJ ( kf ( jd i5 xr xu yd ? ( d3 ( DE.pe ? ) dR ) ) )|Gn ( kf ( jd i5 xv xy yg ? ( d3 ( DE.pe ? ) dR ) ) )")++#[<-`(Lean.Parser.Tactic.tacticSeq|refine HQ _ ?_ ?_ (xY (show DP _ _ _ _ _ from ?_) (show DZ _ _ _ _ _ from ?_) rfl))]++#[<-`(Lean.Parser.Tactic.tacticSeq|refine Rw (kf (jd i5 xr xu yd (show DP _ _ _ _ _ from ?_) (d3 (DE.pe ?_) dR))))]),
 <-L2.gr "DI _ _ _ _ _" ((<-L2.fs "o9 ?|Ph rfl W.nS ?|Ox rfl W.pj ?|QB rfl W.n5 ?")),
 <-L2.gr "DAB _ _ _ _" ((<-L2.fs "rh ? ?|NR")),
 <-L2.gr "DGs _ _ _ _ _" ((<-L2.fs "Ot ? ?|Os")),
 <-L2.gr "DAX _ _ _ _" ((<-L2.fs "HC ? ?|Rn")),
 <-L2.gr "DTs _ _ _ _" ((<-L2.fs "OA|rC ?")),
 <-L2.gr "DB _ _ _ _" ((<-L2.fs "dvB _|zE ( eC _ ? ? ( d5 ( pv _ ) ) )|DE.db ?")),
 <-L2.gr "PA _ _ _" ((<-L2.fs "dR")),
 <-L2.gr "DZ _ _ _ _ _" ((<-L2.fs "QR ?|Hr ?|RN")),
 <-L2.gr "DW _ _ _ _" ((<-L2.fs "yC ? ?|yB ?")),
 <-L2.gr "DPt _ _ _ _" ((<-L2.fs "F7 ?|F6")),
 <-L2.gr "DX _ _ _ _" ((<-L2.fs "HU _ ? 1 hr ?|RJ _ ? 1 hr|DE.dx ?")),
 <-L2.gr "DL _ _ _ _" ((<-L2.fs "zF ( eC _ ? ? ( d5 ( pv _ ) ) )")),
 <-L2.gr "Cls _ _" ((<-L2.fs "W.ad|W.oo|W.ld|W.nk|W.n0")),
 <-L2.gr "cM _ _ _" ((<-L2.fs "W.hO|W.lk|W.nL|W.lj|W.lp|W.nq|W.kF|W.ky|W.j0|W.l0|W.kQ|W.md|W.lb|W.mm|W.ll|W.mu")),
 <-L2.gr "DIe _ _ _ _ _" ((<-L2.fs "DI.de ?")),
 <-`(Lean.Parser.Tactic.tacticSeq|refine S5 _ _ rfl ?_ ?_ ?_ ?_),
 <-do let a:=(<-L2.fs "N0|Od")++#[<-`(Lean.Parser.Tactic.tacticSeq|((refine Of ?_); with_unfolding_all assumption))]++(<-L2.fs "Ol|Om|FR|NX|FS|N4|NY|NZ|Ob|N8|Oc|Qm|N2|N1|N6|N5|N9|Pp")++#[<-`(Lean.Parser.Tactic.tacticSeq|((refine Pq ?_); with_unfolding_all assumption))]++#[<-`(Lean.Parser.Tactic.tacticSeq|((refine Og ?_); with_unfolding_all assumption))]++(<-L2.fs "N3|Oe|N7");`(Lean.Parser.Tactic.tacticSeq|with_reducible first $[|$a]*),
 <-`(Lean.Parser.Tactic.tacticSeq|intro _ _ _ _ _)]
 `(by repeat' first $[|$a]*)
set_option hygiene true
variable{a:Wa}
def S6(W:Wd K mg a):qD P w K mg base a 1 "_law_part_again" a.e_47 ["_law_part_here"] Bg:=by
 show W.e_47.pk (a9 (F:=Bf) W.e_47.F Ss λ_ _ _ _ _ _ hr=>?_);have b:=hr.units;unfold Bf;show @0
def IQ(W:Wd K mg a):Pk P w K mg base CX0 2 "_law_again" a.e_67 ["_law_plain_here"] (spT (K,a.cl) ["_law_plain_here"].length sn):=by
 show W.e_67.pk (QX (F:=Bh) W.e_67.F Ix λ_ _ _ _ _ _ hr=>?_);unfold Bh;have nd:=Ix.nd;show(aD @0 (aD @0 (bx (QZ (QW (QV @0 (QU (QT 1))))))))
def S7(W:Wd K mg a):qD P w K mg base a 1 "_law_sum" a.e_17 ["_law_items_here","_law_some"] vv:=by
 show W.e_17.pk (a9 (F:=Bi) W.e_17.F A9 λ_ _ _ _ _ _ hr=>?_);unfold Bi;have nd:=A9.nd;show(aD @0 (aD (fT (kk:=99) dE rfl @0 @0 (bx (gL (mP FY FU @0 @0) (bx (HD 2 A9.nd @0)) @0))) @0))
def S8(W:Wd K mg a):qD P w K mg base a 2 "_law_part_holds" a.e_48 ["_law_part_here","_law_rising","_law_world"] Bk:=by
 show W.e_48.pk (a9 (F:=Bj) W.e_48.F Su λ_ _ _ _ _ _ hr=>?_);have b:=hr.units;unfold Bj;show(aD (gL @0 (bx (lE (yy FY FU @0 @0))) @0) (aD (gL @0 (bx (lE (yy FZ FV @0 @0))) @0) @0))
def Ur(W:Wd K mg a):qD P w K mg base a 3 "_law_body_holds" a.e_49 ["_law_rule_here","_law_rising","_law_world"] Bm:=by
 show W.e_49.pk (a9 (F:=Bl) W.e_49.F Sv λ_ _ _ _ _ _ hr=>?_);unfold Bl;show(bx (lE (o8 (O8 rfl) Pa rfl W.q4 boot_all @0)))
def Tc(W:Wd K mg a):qD P w K mg base a 1 "_law_cell_at" a.e_24 ["_law_script","_law_k"] sr:=by
 show W.e_24.pk (a9 (F:=Bo) W.e_24.F Sr λ_ _ _ _ _ _ hr=>?_);unfold Bo;show @0
def S9(W:Wd K mg a):qD P w K mg base a 1 "_law_mixed" a.e_3 ["_law_cell","_law_k"] m_3:=by
 show W.e_3.pk (a9 (F:=b_3) W.e_3.F Iq λ_ _ _ _ _ _ hr=>?_);unfold b_3;have nd:=Iq.nd;show @0
def Ta(W:Wd K mg a):qD P w K mg base a 2 "_law_items" a.e_38 ["_law_cell","_law_k","_law_many"] Bq:=by
 show W.e_38.pk (a9 (F:=Bp) W.e_38.F Ir λ_ _ _ _ _ _ hr=>?_);unfold Bp;have nd:=Ir.nd;show @0
def Tb(W:Wd K mg a):qD P w K mg base a 3 "_law_part" a.e_11 ["_law_cell","_law_k","_law_many"] qb:=by
 show W.e_11.pk (a9 (F:=Br) W.e_11.F Iu λ_ _ _ _ _ _ hr=>?_);have b:=hr.units;unfold Br;have nd:=Iu.nd;show @0
def Td(W:Wd K mg a):qO P w K mg base a 1 "_law_base" a.e_26 ["_law_cell","_law_many"] Bs:=by
 show W.e_26.pk (m6 (F:=vw) W.e_26.F Iv λ_ _ _ _ _ _ hr=>?_);have b:=hr.units;unfold vw;have nd:=Iv.nd;show @0
def Te(W:Wd K mg a):qD P w K mg base a 4 "_law_rule" a.e_25 ["_law_cell","_law_many"] Bu:=by
 show W.e_25.pk (a9 (F:=Bt) W.e_25.F A8 λ_ _ _ _ _ _ hr=>?_);have b:=hr.units;unfold Bt;have nd:=A8.nd;show(aD @0 (aD @0 (aD @0 (aD (rE 4 1 [0,1] ["_law_j","_law_cell","_law_many"] A8.nd rfl @0 @0 @0 @0) @0))))
def Uq(W:Wd K mg a):qD P w K mg base a 5 "_law_plain" a.e_27 ["_law_script","_law_top"] vz:=by
 show W.e_27.pk (a9 (F:=Bv) W.e_27.F Iw λ_ _ _ _ _ _ hr=>?_);have b:=hr.units;unfold Bv;have nd:=Iw.nd;show @0
def Tp(W:Wd K mg a):gS P w K mg base a 1 "Seeking" "drop_wider" a.h7 ["self","bar"] Bx:=by
 show W.h7.pk W.ad (gq (F:=Bw) W.h7.F sm λ_ _ _ _ _ _ hr=>?_);have b:=hr.units;unfold Bw;have nd:=sm.nd
 show(RU (w:=2) (pr:=3) (by decide) (RV (by decide)) RW (by decide) (oP sm.nd rfl (by first |show bS rfl |show bw rfl) (EB (yA @0) (zG (hu1 b) (eC "Seeking" W.ad W.hO (d5 (pv 0))) @0 (rfl,rfl,rfl,rfl)) (uk (dR)))) (EG dE rfl (o9 @0) (xK sm.nd rfl (by first |show bS rfl |show bw rfl)) (ED (yu (g:=tDG _ (ay 0)) (tt:=tDT _ (mB (m2 fW (ae 0) (aP (iq (aU "Seeking" "watches" (aH 2)) (ae 1)))))) (te:=tD _ (ae 0)) 1 [3,0] ["why","pair","self"] sm.nd rfl (by first |show bS rfl |show bw rfl) rfl (xP @0) (λ_ _ _ _ _=>(DG.pg (dgc 0 1))) (λ_ _ _ _ _=>(rC (mP @0 @0 @0 (DL.db (zG (hu1 b) (eC "Seeking" W.ad W.hO (d5 (pvc 2))) @0 (rfl,rfl,rfl,rfl)))))) (λ_ _ _ _ _=>(DE.pe @0))))) (bx (mZ 2 (fT (kk:=99) dE rfl @0 @0 (bx (gL @0 (bx (fT (kk:=99) dE rfl (o9 (o7 (DL.dc (zF (eC "Seeking" W.ad W.lk (d5 (pv 0))))) @0)) @0 (bx (RQ (kf (jd i5 PySem.F.slot_list_remove PySem.F.type_list_remove (RP b) (HJ (hu1 b) (eC "Seeking" W.ad W.hO (d5 (pv 0))) @0) (d3 (DE.pe @0) (dR)))))))) @0))))))
def Tg(W:Wd K mg a):qPD P w K mg base a 1 "In" "named" a.e_39 ["self"] vA:=by
 show W.e_39.pk W.oo (a9 (F:=By) W.e_39.F Sx λ_ _ _ _ _ _ hr=>?_);unfold By;show @0
def Tk(W:Wd K mg a):qPD P w K mg base a 1 "In" "wants" a.e_50 ["self"] BA:=by
 show W.e_50.pk W.oo (a9 (F:=Bz) W.e_50.F Sy λ_ _ _ _ _ _ hr=>?_);unfold Bz;show @0
def Tf(W:Wd K mg a):qD P w K mg base a 1 "things_of" a.e_34 ["items"] vB:=by
 show W.e_34.pk (a9 (F:=BB) W.e_34.F Sf λ_ _ _ _ _ _ hr=>?_);unfold BB;show(bx (jJ (P9 rfl rfl W.oD rfl W.ro @0)))
def Ti(W:Wd K mg a):qPD P w K mg base a 2 "Least" "named" a.e_41 ["self"] vC:=by
 show W.e_41.pk W.ld (a9 (F:=BC) W.e_41.F SN λ_ _ _ _ _ _ hr=>?_);unfold BC;show @0
def Tn(W:Wd K mg a):qPD P w K mg base a 1 "Least" "wants" a.e_60 ["self"] BE:=by
 show W.e_60.pk W.ld (a9 (F:=BD) W.e_60.F SO λ_ _ _ _ _ _ hr=>?_);unfold BD;show @0
def Tj(W:Wd K mg a):qPD P w K mg base a 2 "Most" "named" a.e_44 ["self"] vE:=by
 show W.e_44.pk W.nk (a9 (F:=BF) W.e_44.F SV λ_ _ _ _ _ _ hr=>?_);unfold BF;show @0
def To(W:Wd K mg a):qPD P w K mg base a 1 "Most" "wants" a.e_63 ["self"] BH:=by
 show W.e_63.pk W.nk (a9 (F:=BG) W.e_63.F SW λ_ _ _ _ _ _ hr=>?_);unfold BG;show @0
def Th(W:Wd K mg a):qPD P w K mg base a 1 "Out" "named" a.e_40 ["self"] vF:=by
 show W.e_40.pk W.n0 (a9 (F:=BI) W.e_40.F SF λ_ _ _ _ _ _ hr=>?_);unfold BI;show @0
def Tl(W:Wd K mg a):qPD P w K mg base a 1 "Out" "wants" a.e_55 ["self"] BK:=by
 show W.e_55.pk W.n0 (a9 (F:=BJ) W.e_55.F SG λ_ _ _ _ _ _ hr=>?_);unfold BJ;show @0
def Ts(W:Wd K mg a):gS P w K mg base a 3 "Seeking" "take_guard" a.h6 ["self","why","guard"] ss:=by
 show W.h6.pk W.ad (gq (F:=BL) W.h6.F ID λ_ _ _ _ _ _ hr=>?_);have b:=hr.units;unfold BL;have nd:=ID.nd;show(aD (RB (Fo (hu1 b) (eC "Seeking" W.ad W.kF (d5 (pv 0))) (DE.pe @0) (DE.pe @0) rfl)) (aD (fT (kk:=99) dE rfl @0 @0 (bx (fT (kk:=99) dE rfl @0 @0 (bx (RG (kf (jd i5 xr xu yd (RF (hu1 b) (eC "Seeking" W.ad W.hO (d5 (pv 0))) (DE.pe @0) (uk (dR)) (rfl,rfl,rfl,rfl)) (d3 (pv 1) (dR))))))))) @0))
def IN(W:Wd K mg a):Pm P w K mg base CX0 1 (a.cl "In") "__init__" a.e_68 ["self","thing"] (spI (K,a.cl) "In" ["self","thing"].length BM):=
 W.e_68.pk W.oo (uQ W.e_68.F Sw λ_ _ _ _ _ _ hr=>(pi W.oo W.nL (pv 0) (dv 1) uP))
def IP(W:Wd K mg a):Pm P w K mg base CX0 1 (a.cl "Out") "__init__" a.e_69 ["self","thing"] (spI (K,a.cl) "Out" ["self","thing"].length vG):=
 W.e_69.pk W.n0 (uQ W.e_69.F SE λ_ _ _ _ _ _ hr=>(pi W.n0 W.nq (pv 0) (dv 1) uP))
def Tq(W:Wd K mg a):qD P w K mg base a 3 "guard_of_bar" a.e_46 ["bar"] BO:=by
 show W.e_46.pk (a9 (F:=BN) W.e_46.F Sm λ_ _ _ _ _ _ hr=>?_);unfold BN;show @0
def Tx(W:Wd K mg a):gS P w K mg base a 4 "Seeking" "take_bar" a.ir ["self","bar"] vH:=by
 show W.ir.pk W.ad (gq (F:=BP) W.ir.F IE λ_ _ _ _ _ _ hr=>?_);unfold BP;have nd:=IE.nd;show @0
def Us(W:Wd K mg a):Pm P w K mg base CX0 1 (a.cl "Least") "__init__" a.e_70 ["self","bound","items"] (spI (K,a.cl) "Least" ["self","bound","items"].length BQ):=
 W.e_70.pk W.ld (uQ W.e_70.F SM λ_ _ _ _ _ _ hr=>(pi W.ld W.ll (pv 0) (dv 1) (pi W.ld W.lj (pv 0) (DO.de (uI ml rfl W.n7 (dvC 2))) uP)))
def Ut(W:Wd K mg a):Pm P w K mg base CX0 1 (a.cl "Most") "__init__" a.e_71 ["self","bound","items"] (spI (K,a.cl) "Most" ["self","bound","items"].length II):=
 W.e_71.pk W.nk (uQ W.e_71.F SU λ_ _ _ _ _ _ hr=>(pi W.nk W.mu (pv 0) (dv 1) (pi W.nk W.lp (pv 0) (DO.de (uI ml rfl W.n7 (dvC 2))) uP)))
def Tt(W:Wd K mg a):qD P w K mg base a 3 "part_of" a.e_33 ["told"] BS:=by
 show W.e_33.pk (a9 (F:=BR) W.e_33.F Ij λ_ _ _ _ _ _ hr=>?_);have b:=hr.units;unfold BR;have nd:=Ij.nd;show @0
def Tv(W:Wd K mg a):qD P w K mg base a 4 "body_of" a.e_2 ["rule"] m_2:=by
 show W.e_2.pk (a9 (F:=b_2) W.e_2.F Il λ_ _ _ _ _ _ hr=>?_);unfold b_2;show @0
def Tu(W:Wd K mg a):qO P w K mg base a 4 "body_of" a.e_2 ["rule"] o_2:=by
 show W.e_2.pk (m6 (F:=b_2) W.e_2.F Il λ_ _ _ _ _ _ hr=>?_);unfold b_2;show @0
def Tw(W:Wd K mg a):qD P w K mg base a 5 "guard_of" a.e_22 ["rule"] vI:=by
 show W.e_22.pk (a9 (F:=BU) W.e_22.F Im λ_ _ _ _ _ _ hr=>?_);have b:=hr.units;unfold BU;have nd:=Im.nd;show @0
def Uu(W:Wd K mg a):cq P w K mg base CX0 6 a.e_10.1 a.e_10.2 ["self","plain","bars","sheet"] (iu (K,a.cl) ["self","plain","bars","sheet"].length BW):=
 gq (k:=5) (N:=["self","plain","bars","sheet","rule","number","bar"]) (F:=BV) W.e_10.F IH λcdv A outer s H W8 hr=>by
  unfold BV;have nd:=IH.nd;show @0
def Uv(W:Wd K mg a):gS P w K mg base a 8 "Seeking" "__init__" a.e_12 ["self","plain"] BY:=by
 show W.e_12.pk W.ad (gq (F:=BX) W.e_12.F S1 λ_ _ _ _ _ _ hr=>?_);unfold BX;show(aD (zq (R3 @0 rfl W.pw W.pb (Uu W) (hr.mono (by decide)) W.e_10.b @0)) @0)
def TY(W:Wd K mg a):qPD P w K mg base a 1 "In" "sure_by" a.e_52 ["self","sheet","order"] B0:=by
 show W.e_52.pk W.oo (a9 (F:=BZ) W.e_52.F SA λ_ _ _ _ _ _ hr=>?_);unfold BZ;show @0
def Tz(W:Wd K mg a):qD P w K mg base a 1 "weights_of" a.e_15 ["items"] vJ:=by
 show W.e_15.pk (a9 (F:=B1) W.e_15.F A7 λ_ _ _ _ _ _ hr=>?_);have b:=hr.units;unfold B1;have nd:=A7.nd;show(aD (yY 1 A7.nd) (aD (fT (kk:=99) dE rfl @0 @0 (bx (yZ b @0 @0 (yx @0 (Rj b @0 @0 @0 (rfl,rfl,rfl,rfl)) @0)))) (bx (Rl 1 @0))))
def TC(W:Wd K mg a):qD P w K mg base a 2 "enough" a.e_7 ["items","things","lack"] m_7:=by
 show W.e_7.pk (a9 (F:=b_7) W.e_7.F vm λ_ _ _ _ _ _ hr=>?_);have b:=hr.units;unfold b_7;have nd:=vm.nd;show(aD @0 (aD @0 (aD @0 (aD (fT (kk:=99) dE rfl @0 @0 (aD (pc 7 vm.nd (Rr b @0 @0 @0 (rfl,rfl,rfl,rfl))) (bx (gL @0 (aD @0 (bx (R5 5 vm.nd @0))) @0)))) @0))))
def TB(W:Wd K mg a):qD P w K mg base a 1 "with_entry" a.e_16 ["things","sheet","truth"] qc:=by
 show W.e_16.pk (a9 (F:=B2) W.e_16.F Sk λ_ _ _ _ _ _ hr=>?_);have b:=hr.units;unfold B2;show(bx (jJ (kz 1 [2,1] ["thing","truth","sheet"] rfl @0 @0 @0 @0)))
def T0(W:Wd K mg a):qPD P w K mg base a 3 "Least" "sure_by" a.e_62 ["self","sheet","order"] B4:=by
 show W.e_62.pk W.ld (a9 (F:=B3) W.e_62.F SR λ_ _ _ _ _ _ hr=>?_);unfold B3;show @0
def TD(W:Wd K mg a):qD P w K mg base a 1 "worth_of" a.e_35 ["items"] vK:=by
 show W.e_35.pk (a9 (F:=B5) W.e_35.F Si λ_ _ _ _ _ _ hr=>?_);unfold B5;show(bx (lE (o8 (yG rfl) yH rfl W.qa boot_sum @0)))
def T1(W:Wd K mg a):qPD P w K mg base a 3 "Most" "sure_by" a.e_65 ["self","sheet","order"] B7:=by
 show W.e_65.pk W.nk (a9 (F:=B6) W.e_65.F SY λ_ _ _ _ _ _ hr=>?_);unfold B6;show @0
def TZ(W:Wd K mg a):qPD P w K mg base a 1 "Out" "sure_by" a.e_57 ["self","sheet","order"] B9:=by
 show W.e_57.pk W.n0 (a9 (F:=B8) W.e_57.F SI λ_ _ _ _ _ _ hr=>?_);unfold B8;show @0
def TR(W:Wd K mg a):qPD P w K mg base a 1 "In" "lost_by" a.e_54 ["self","sheet","without","order"] Cb:=by
 show W.e_54.pk W.oo (a9 (F:=Ca) W.e_54.F SD λ_ _ _ _ _ _ hr=>?_);unfold Ca;show @0
def TF(W:Wd K mg a):qD P w K mg base a 1 "outside" a.e_36 ["items","without"] vL:=by
 show W.e_36.pk (a9 (F:=Cc) W.e_36.F Sj λ_ _ _ _ _ _ hr=>?_);unfold Cc;show @0
def TV(W:Wd K mg a):qPD P w K mg base a 3 "Least" "lost_by" a.e_43 ["self","sheet","without","order"] Ce:=by
 show W.e_43.pk W.ld (a9 (F:=Cd) W.e_43.F Iz λ_ _ _ _ _ _ hr=>?_);unfold Cd;have nd:=Iz.nd;show @0
def TW(W:Wd K mg a):qPD P w K mg base a 3 "Most" "lost_by" a.e_66 ["self","sheet","without","order"] Cg:=by
 show W.e_66.pk W.nk (a9 (F:=Cf) W.e_66.F S0 λ_ _ _ _ _ _ hr=>?_);unfold Cf;show @0
def TU(W:Wd K mg a):qPD P w K mg base a 1 "Out" "lost_by" a.e_59 ["self","sheet","without","order"] Ci:=by
 show W.e_59.pk W.n0 (a9 (F:=Ch) W.e_59.F SL λ_ _ _ _ _ _ hr=>?_);unfold Ch;show @0
def TK(W:Wd K mg a):qPD P w K mg base a 1 "In" "lost" a.e_28 ["self","sheet","without"] sx:=by
 show W.e_28.pk W.oo (a9 (F:=Cj) W.e_28.F SC λ_ _ _ _ _ _ hr=>?_);unfold Cj;show(bx (lE (NW @0 @0)))
def TH(W:Wd K mg a):qD P w K mg base a 1 "worth_not_out" a.e_14 ["items","sheet"] qd:=by
 show W.e_14.pk (a9 (F:=Ck) W.e_14.F Sh λ_ _ _ _ _ _ hr=>?_);unfold Ck;show(bx (lE (o8 (yG rfl) yH rfl W.qa boot_sum @0)))
def TM(W:Wd K mg a):qPD P w K mg base a 2 "Least" "lost" a.e_30 ["self","sheet","without"] sy:=by
 show W.e_30.pk W.ld (a9 (F:=Cm) W.e_30.F SS λ_ _ _ _ _ _ hr=>?_);unfold Cm;show @0
def TJ(W:Wd K mg a):qD P w K mg base a 1 "worth_in" a.e_20 ["items","entries"] sA:=by
 show W.e_20.pk (a9 (F:=Cn) W.e_20.F Sg λ_ _ _ _ _ _ hr=>?_);unfold Cn;show(bx (lE (o8 (yG rfl) yH rfl W.qa boot_sum @0)))
def TN(W:Wd K mg a):qPD P w K mg base a 2 "Most" "lost" a.e_31 ["self","sheet","without"] sC:=by
 show W.e_31.pk W.nk (a9 (F:=Co) W.e_31.F SZ λ_ _ _ _ _ _ hr=>?_);unfold Co;show @0
def TL(W:Wd K mg a):qPD P w K mg base a 1 "Out" "lost" a.e_29 ["self","sheet","without"] sD:=by
 show W.e_29.pk W.n0 (a9 (F:=Cp) W.e_29.F SK λ_ _ _ _ _ _ hr=>?_);unfold Cp;show @0
def IJ(W:Wd K mg a):qD P w K mg base a 3 "lost_part" a.e_6 ["body","sheet","without"] m_6:=by
 show W.e_6.pk (a9 (F:=b_6) W.e_6.F Ip λ_ _ _ _ _ _ hr=>?_);unfold b_6;have nd:=Ip.nd;show @0
def TQ(W:Wd K mg a):qD P w K mg base a 1 "marks" a.e_1 ["many","some"] m_1:=by
 show W.e_1.pk (a9 (F:=b_1) W.e_1.F p8 λ_ _ _ _ _ _ hr=>?_);have b:=hr.units;unfold b_1;have nd:=p8.nd;show(aD (yY 2 p8.nd) (aD (fT (kk:=99) dE rfl @0 @0 (bx (yZ b @0 @0 @0))) (bx (mZ 2 (jJ (kz 1 [2] ["thing","listed"] rfl @0 @0 @0 (λ_ _ _ _ _=>(GF b @0 @0))))))))
def T3(W:Wd K mg a):qO P w K mg base a 1 "marks" a.e_1 ["many","some"] o_1:=by
 show W.e_1.pk (m6 (F:=b_1) W.e_1.F p8 λ_ _ _ _ _ _ hr=>?_);have b:=hr.units;unfold b_1;have nd:=p8.nd;show(aD (yY 2 p8.nd) (aD (fT (kk:=99) dE rfl @0 @0 (bx (yZ b @0 @0 @0))) (bx (mZ 2 (jJ (kz 1 [2] ["thing","listed"] rfl @0 @0 @0 (λ_ _ _ _ _=>(GF b @0 @0))))))))
def TX(W:Wd K mg a):qPO P w K mg base a 4 "Seeking" "grounds_of_group" a.e_9 ["self","sheet","group","order"] o_9:=by
 show W.e_9.pk W.ad (m6 (F:=b_9) W.e_9.F Bc λ_ _ _ _ _ _ hr=>?_);unfold b_9;have nd:=Bc.nd
 show(aD @0 (aD (uN 5 Bc.nd (by show F8 ?a ?b ?c;(case a=>show(DO.de (kz 1 [4,1] ["thing","without","sheet"] rfl (DI.de (o9 (dv 3))) (λ_ _ _ _ _=>(dgc 0 1)) (λ_ _ _ _ _=>(rC (DW.dt (yC (yA (DE.db (o7 (yO 1) (dvc 0)))) (yB (mP FR FS (DE.db (o7 (yO 2) (dvc 0))) (DE.db FH))))))) (λ_ _ _ _ _=>(dvc 0)))));(case b=>show F6);(case c=>show(F7 FG)))) @0))
def IK(W:Wd K mg a):qPO P w K mg base a 5 "Seeking" "grounds" a.e_5 ["self","sheet","why","order"] o_5:=by
 show W.e_5.pk W.ad (m6 (F:=b_5) W.e_5.F IC λ_ _ _ _ _ _ hr=>?_);have b:=hr.units;unfold b_5;have nd:=IC.nd;show(aD @0 (aD @0 (aD @0 (aD (fT (kk:=99) dE rfl (o9 (R7 (hu1 b) @0 @0)) @0 @0) @0))))
def Uw(W:Wd K mg a):qD P w K mg base a 1 "needed_first" a.e_37 ["order","needed"] vM:=by
 show W.e_37.pk (a9 (F:=Cq) W.e_37.F So λ_ _ _ _ _ _ hr=>?_);unfold Cq;show(bx (jJ (G1 @0 @0)))
def T4(W:Wd K mg a):qD P w K mg base a 1 "own_why" a.e_23 ["why"] sE:=by
 show W.e_23.pk (a9 (F:=Cr) W.e_23.F Sn λ_ _ _ _ _ _ hr=>?_);have b:=hr.units;unfold Cr;show @0
def T5(W:Wd K mg a):gS P w K mg base a 6 "Seeking" "line_to" a.e_18 ["self","why"] Ct:=by
 show W.e_18.pk W.ad (gq (F:=Cs) W.e_18.F vp λ_ _ _ _ _ _ hr=>?_);unfold Cs;have nd:=vp.nd;show(aD (uN 2 vp.nd (uI ml rfl W.n7 (DL.dc (zF (eC "Seeking" W.ad W.j0 (d5 (pv 0))))))) (aD (rE 5 2 [] ["pair","cause"] vp.nd rfl (HW @0) @0 @0 @0) (aD @0 (aD @0 (aD @0 (aD (Ia 0 "Seeking" "steps" (fT (kk:=99) dE rfl @0 @0 (aD @0 (aD (gL @0 @0 (bx (gL @0 (aD @0 (aD (GG @0 @0 (FN @0)) (bx (fT (kk:=99) dE rfl (o9 (DO.de (HZ "Seeking" @0 (IK W) hr (rh @0 (rh @0 (rh (Ha (Uw W) hr @0) @0)))))) @0 @0)))) @0))) @0)))) @0))))))
def T6(W:Wd K mg a):gS P w K mg base a 1 "Seeking" "place_for" a.e_32 ["self","bar"] Cv:=by
 show W.e_32.pk W.ad (gq (F:=Cu) W.e_32.F Bb λ_ _ _ _ _ _ hr=>?_);have b:=hr.units;unfold Cu;show(aD (rE 2 2 [] ["place","step"] Bb.nd rfl @0 @0 @0 @0) (aD (rE 3 1 [0] ["place","self"] Bb.nd rfl @0 @0 @0 @0) (bx (Gm (o7 @0 (FO @0 @0 (yx @0 (Rp (jd i5 PySem.F.slot_list_index PySem.F.type_list_index (HE b) (DE.pe @0) (d3 (DE.pe (o7 @0 (Oa @0))) (dR)))) @0)))))))
def T7(W:Wd K mg a):gS P w K mg base a 1 "Seeking" "take_back" a.ii ["self","many"] Cy:=by
 show W.ii.pk W.ad (gq (F:=Cw) W.ii.F IF λ_ _ _ _ _ _ hr=>?_);unfold Cw;have nd:=IF.nd;show(aD (fT (kk:=99) dE rfl @0 @0 (bx (HL (xN (DE.pe @0) (xM (eC "Seeking" W.ad W.j0 (d5 (pv 0))) (DE.pe @0) yb (by intro _;rfl)) rfl rfl rfl)))) @0)
def Up(W:Wd K mg a):gS P w K mg base a 7 "Seeking" "close" a.e_13 ["self","why"] qe:=by
 show W.e_13.pk W.ad (gq (F:=Cz) W.e_13.F IB λ_ _ _ _ _ _ hr=>?_);unfold Cz;have nd:=IB.nd;show @0
def IL(W:Wd K mg a):gS P w K mg base a 1 "Seeking" "put" a.kT ["self","thing","truth","why"] qf:=by
 show W.kT.pk W.ad (gq (F:=CA) W.kT.F S2 λ_ _ _ _ _ _ hr=>?_);have b:=hr.units;unfold CA;show(aD (HL (xN (DE.pe @0) (xM (eC "Seeking" W.ad W.j0 (d5 (pv 0))) (DE.pe @0) yb (by intro _;rfl)) rfl rfl rfl)) (aD @0 (bx (Rx (kf (jd i5 xv xy yg (eC "Seeking" W.ad W.ky (d5 (pv 0))) (d3 (zG (hu1 b) (eC "Seeking" W.ad W.hO (d5 (pv 0))) @0 (rfl,rfl,rfl,rfl)) (dR))))))))
def T9(W:Wd K mg a):qPD P w K mg base a 1 "In" "sure" a.e_51 ["self","sheet"] CC:=by
 show W.e_51.pk W.oo (a9 (F:=CB) W.e_51.F Sz λ_ _ _ _ _ _ hr=>?_);unfold CB;show @0
def Ud(W:Wd K mg a):qPD P w K mg base a 1 "In" "tips" a.e_53 ["self","sheet"] CF:=by
 show W.e_53.pk W.oo (a9 (F:=CD) W.e_53.F SB λ_ _ _ _ _ _ hr=>?_);unfold CD;show @0
def Ub(W:Wd K mg a):qPD P w K mg base a 2 "Least" "sure" a.e_61 ["self","sheet"] CH:=by
 show W.e_61.pk W.ld (a9 (F:=CG) W.e_61.F SQ λ_ _ _ _ _ _ hr=>?_);unfold CG;show @0
def T8(W:Wd K mg a):qD P w K mg base a 2 "heavy" a.e_21 ["items","sheet","lack"] vN:=by
 show W.e_21.pk (a9 (F:=CI) W.e_21.F Ik λ_ _ _ _ _ _ hr=>?_);have b:=hr.units;unfold CI;have nd:=Ik.nd;show(aD @0 (bx (jJ (kz 1 [2,3] ["thing","lack","weights"] rfl (DI.de (Rh @0)) @0 (λ_ _ _ _ _=>(rC (mP @0 @0 (DE.db (Ri b @0 @0)) @0))) @0))))
def Uf(W:Wd K mg a):qPD P w K mg base a 3 "Least" "tips" a.e_42 ["self","sheet"] CK:=by
 show W.e_42.pk W.ld (a9 (F:=CJ) W.e_42.F Iy λ_ _ _ _ _ _ hr=>?_);unfold CJ;have nd:=Iy.nd;show @0
def Uc(W:Wd K mg a):qPD P w K mg base a 2 "Most" "sure" a.e_64 ["self","sheet"] CM:=by
 show W.e_64.pk W.nk (a9 (F:=CL) W.e_64.F SX λ_ _ _ _ _ _ hr=>?_);unfold CL;show @0
def Ug(W:Wd K mg a):qPD P w K mg base a 3 "Most" "tips" a.e_45 ["self","sheet"] CO:=by
 show W.e_45.pk W.nk (a9 (F:=CN) W.e_45.F IA λ_ _ _ _ _ _ hr=>?_);unfold CN;have nd:=IA.nd;show @0
def Ua(W:Wd K mg a):qPD P w K mg base a 1 "Out" "sure" a.e_56 ["self","sheet"] CQ:=by
 show W.e_56.pk W.n0 (a9 (F:=CP) W.e_56.F SH λ_ _ _ _ _ _ hr=>?_);unfold CP;show @0
def Ue(W:Wd K mg a):qPD P w K mg base a 1 "Out" "tips" a.e_58 ["self","sheet"] CT:=by
 show W.e_58.pk W.n0 (a9 (F:=CS) W.e_58.F SJ λ_ _ _ _ _ _ hr=>?_);unfold CS;show @0
def Ux(W:Wd K mg a):Pk P w K mg base CX0 4 "pressed_by" a.e_72 ["guard","sheet"] (spN (K,a.cl) ["guard","sheet"].length CV):=by
 show W.e_72.pk (RS (F:=CU) W.e_72.F Io λ_ _ _ _ _ _ hr=>?_);have b:=hr.units;unfold CU;have nd:=Io.nd;show(aD @0 (aD @0 (aD @0 (bx (jJ (kz 2 [] ["thing","truth"] rfl @0 @0 @0 (λ_ _ _ _ _=>(FI (uA @0 (uA (FN @0) @0))))))))))
def Ul(W:Wd K mg a):gS P w K mg base a 5 "Seeking" "look_round" a.h8 ["self"] CY:=by
 show W.h8.pk W.ad (gq (F:=CW) W.h8.F vq λ_ _ _ _ _ _ hr=>?_);have b:=hr.units;unfold CW;have nd:=vq.nd;show(aD (pf 1000000000 dE @0 (aD (vh 1 vq.nd (Ry (jd i5 PySem.F.slot_list_pop PySem.F.type_list_pop Ng (eC "Seeking" W.ad W.ky (d5 (pv 0))) (d3 xH (dR))))) (aD (pc 2 vq.nd (RT (Ux W) hr (rh (zE (HJ (hu1 b) (eC "Seeking" W.ad W.kF (d5 (pv 0))) @0)) @0))) @0))) @0)
def Ui(W:Wd K mg a):qPD P w K mg base a 3 "Seeking" "keeping" a.j3 ["self","part","without"] C0:=by
 show W.j3.pk W.ad (a9 (F:=CZ) W.j3.F S4 λ_ _ _ _ _ _ hr=>?_);unfold CZ;show @0
def Uh(W:Wd K mg a):qPD P w K mg base a 4 "Seeking" "lost_parts" a.h9 ["self","thing","without"] C4:=by
 show W.h9.pk W.ad (a9 (F:=C3) W.h9.F S3 λ_ _ _ _ _ _ hr=>?_);have b:=hr.units;unfold C3;show(bx (jJ (kz 2 [2,0,1] ["head","body","without","self","thing"] rfl @0 @0 @0 @0)))
def Uk(W:Wd K mg a):qPO P w K mg base a 5 "Seeking" "kernel" a.kv ["self","thing","without"] lV:=by
 show W.kv.pk W.ad (m6 (F:=sF) W.kv.F Be λ_ _ _ _ _ _ hr=>?_);unfold sF;have nd:=Be.nd;show(aD @0 (aD @0 (aD (pf 1000000000 dE @0 (aD (fT (kk:=99) dE rfl @0 @0 (bx (Gn (kf (jd i5 xv xy yg (pv 3) (d3 (DE.pe (DO.de (kz 1 [3] ["other","found"] rfl @0 @0 (λ_ _ _ _ _=>(rC (mP FZ FV @0 (OB 1)))) @0))) (dR))))))) (bx (HD 4 Be.nd @0)))) (bx (mZ 3 (jJ (Qi rfl rfl W.oD @0)))))))
def Uj(W:Wd K mg a):gS P w K mg base a 4 "Seeking" "loose_marks" a.hY ["self"] C6:=by
 show W.hY.pk W.ad (gq (F:=C5) W.hY.F vt λ_ _ _ _ _ _ hr=>?_);unfold C5;have nd:=vt.nd;show(aD (OF 1 1 [] ["entry"] vt.nd rfl (HW @0) (λ_ _ _ _ _=>@0) (λ_ _ _ _ _=>@0) (λ_ _ _ _ _=>@0)) (aD @0 (aD @0 (aD @0 (aD (pf 1000000000 dE @0 (aD @0 (aD @0 (aD (fT (kk:=99) dE rfl @0 @0 (bx (gL (DW.dt (yC @0 (yB (mP @0 @0 (Ha (IJ W) hr @0) @0)))) @0 @0))) (aD @0 (bx (pc 4 vt.nd (FM @0 (FL (o8 (O9 rfl) Pb rfl W.rc boot_any @0)))))))))) (aD (mZ 2 (HQ "Seeking" W.ad W.kQ (xY (d5 (pv 0)) (Hr (DO.de (G1 @0 @0))) rfl))) @0))))))
def Um(W:Wd K mg a):gS P w K mg base a 6 "Seeking" "put_loose_out" a.g5 ["self"] C8:=by
 show W.g5.pk W.ad (gq (F:=C7) W.g5.F Bd λ_ _ _ _ _ _ hr=>?_);unfold C7;have nd:=Bd.nd;show(aD @0 (aD (rE 3 2 [1] ["thing","entry","without"] Bd.nd rfl (RM rfl W.nS @0) @0 @0 @0) @0))
def Uo(W:Wd K mg a):gS P w K mg base a 7 "Seeking" "settle" a.kr ["self"] sG:=by
 show W.kr.pk W.ad (gq (F:=C9) W.kr.F IG λ_ _ _ _ _ _ hr=>?_);unfold C9;have nd:=IG.nd;show @0
def Uy(W:Wd K mg a):qO P w K mg base a 1 "numbers" a.e_19 ["truths"] sH:=by
 show W.e_19.pk (m6 (F:=Da) W.e_19.F Sd λ_ _ _ _ _ _ hr=>?_);unfold Da;show @0
def IR(W:Wd K mg a):gS P w K mg base a 8 "Seeking" "another" a.e_8 ["self"] m_8:=by
 show W.e_8.pk W.ad (gq (F:=b_8) W.e_8.F Ba λ_ _ _ _ _ _ hr=>?_);have b:=hr.units;unfold b_8;have nd:=Ba.nd;show(aD (pf 1000000000 dE @0 (aD @0 (bx (gL @0 @0 (bx (gL @0 (bx (zq (HU "Seeking" @0 (IL W) hr (HC (DE.dx (R6 (jd i5 PySem.F.slot_list_index PySem.F.type_list_index (HE b) (zE (eC "Seeking" W.ad W.j0 (d5 (pv 0)))) (d3 (DE.pe @0) (dR))))) @0)))) (aD (pc 2 Ba.nd (DO.de (Qe (Uy W) hr @0))) (aD @0 (aD (R4 "Seeking" W.ad W.lb @0 @0) @0))))))))) @0)
def IM(W:Wd K mg a):qD P w K mg base a 10 "worlds" a.e_0 ["plain","most"] m_0:=by
 show W.e_0.pk (R9 (F:=b_0) W.e_0.F sj λ_ _ _ _ _ _ hr=>?_);unfold b_0;have nd:=sj.nd;show(aD (QY 2 sj.nd (RL "Seeking" W.og (Uv W).ok (hr.mono (by decide)) rfl W.p6 W.e_12.b @0)) (aD @0 (aD (vh 4 sj.nd (HV "Seeking" @0 (IR W) hr)) (aD (pf 1000000000 dE @0 (aD @0 (bx (vh 4 sj.nd (HV "Seeking" @0 (IR W) hr))))) (aD (gL @0 (bx (mZ 3 (Ia 2 "Seeking" "paper" @0))) @0) @0)))))
def Uz(W:Wd K mg a):qD P w K mg base a 11 "law" a.e_4 ["_law_script"] m_4:=by
 show W.e_4.pk (a9 (F:=b_4) W.e_4.F vn λ_ _ _ _ _ _ hr=>?_);have b:=hr.units;unfold b_4;have nd:=vn.nd;show(aD @0 (aD (pc 2 vn.nd (Gp (IM W) hr (uA (DZ.de (Ht (IQ W) hr @0)) @0))) (aD (gL (DW.dt (rj @0 (rj @0 (FK @0)))) @0 @0) (aD @0 (aD @0 (aD @0 (aD (uN 5 vn.nd (Sa (Ht (IQ W) hr @0))) (aD (Sc (kf (jd i5 PySem.F.slot_list_insert PySem.F.type_list_insert Sb (pv 5) (DAX.pa @0)))) (aD @0 (aD (gL (DW.dt (rj @0 (rj @0 (rj @0 (FK @0))))) @0 @0) @0))))))))))
unseal DSs DS DX DE DO pG dEq gR dIn fW rL dIs fA rW si rn ko ay cZ bq dk cG m1 m2 dF dC sh lS mB lU aw pZ kC pN kG bn ag bH dN jk vj kB fS nJ pS bf b6 pR rX be nN mW mIx rV pO nB aP iJ aN iw cH jQ bE cu fR kA mOr bh mPt jm gi a8 cy fB eT lR gJ ai aV aZ pH c6 fZ mSl ni lQ bM bo ae cO av dq p7 mX pX kL nK pB pC pD pV aU iq kK sd nG pW pY eD aH jg lD vIf mR vOr zB pQ jq nM ip nI nE nC rS pP
local macro_rules | `(tactic| walk_at "evS")=>`(tactic| first | decide | lia | assumption | exact ⟨by decide,by decide⟩ | exact ⟨by lia,by lia⟩ | exact .inl ⟨by decide,by decide⟩ | exact .inr ⟨by decide,by decide⟩ | exact .inl ⟨by lia,by lia⟩ | exact .inr ⟨by lia,by lia⟩ | exact ⟨by decide,by decide,by decide⟩)
local macro_rules | `(tactic| walk_at "nrm")=>`(tactic| simp only [G2,qF,tP])
def p60:(0:Int)<10 ^ (60:Int).toNat:=by decide
def IS:kh 10 60:=(by decide,by decide,by decide)
variable{M:LS}
def IT{d c:Type}{k:Nat}{js:LN}(C:List d)(f:d->D)(q:c->D)(P:c->Prop)
 (hi:fi M=aa (C.map f))(hz:C.length<=16777216)(i:∀x∈C,∃z,P z/\gK g ft fe (iH k js M) (f x)=aa (aa (q z))):∃a:List c,bn k js fi g ft fe M=aa (a.map q)/\a.length=C.length/\∀z∈a,P z:=by
 have key:∀b:List d,(∀x∈b,∃z,P z/\gK g ft fe (iH k js M) (f x)=aa (aa (q z)))->∃a:List c,eS (gK g ft fe (iH k js M)) (b.map f)=aa (a.map q)/\a.length=b.length/\∀z∈a,P z:=by
  intro b
  induction b with
  |nil=>intro _;show⟨[],rfl,rfl,λz hz=>nomatch hz⟩
  |cons y b m=>
   intro h;have(z,u,n):=h y az;have(a,e,l,p):=m λx j=>h x (bi _ j);show(z::a,?_,by rw[cb,cb,l],λw r=>?_)
   .rw[bD];unfold eS
    grind
   .grind
 have(a,e,l,p):=key C i;show(a,?_,l,p);unfold bn
 grind
abbrev nmP:Prt->LI0
 |.inn t=>[t]
 |.out t=>[t]
 |.least _ L=>L.map (·.1)
 |.most _ L=>L.map (·.1)
variable{f:MF1}
def IU{g:MF1}{a b:LD}(h:f M=aa (.lst a))(h':g M=aa (.lst b))(c:a.length+b.length<=16777216):kG f g M=aa (a++b):=by
 unfold kG
 grind
def inS(C:LI0)(i:Nat):Bool:=C.any λx=>x==(i:Int)
def UA(ks:List Key)(k j:Key):gh (il ks k) j=(gh ks j || decide (k=j)):=by
 unfold il
 by_cases e:gh ks k=ac
 .grind
 .rw[if_neg e];unfold gh;simp
def UB(ks:List Key)(k:Key):(il ks k).length<=ks.length+1:=by
 unfold il
 grind
variable{i:Nat}{fk fv:MF1}{d:L2.D}{C:LD}
def UC{x:D}{k:Key}{ks:List Key}(a:fv M=aa d)(h2:fk M=aa x)(b:jl x=aa k)(c:M[i]?=aa (.ownd ks C))(e:ks.length<16777216):
  jm i fk fv M=aa (.nx (M.set i (.ownd (il ks k) (iL ks C k d)))):=by
 unfold jm
 grind
def IV(n:Int)(C:LI0)(d:0<=n)(m:n<=60)(i:C.length<=1000000):b_1 (eU 4 [.int n,.lst (C.map D.int)])=aa (.rtO (((bL n.toNat).map (inS C)).map D.bl)):=by
 have(ρ',e,ks,ds,b,rfl,c,a):=OS (g:=ay 3) (F:=jm 2 (ae 3) (λ_=>aa _)) (fi:=aV (ae 1)) C D.int
  (λpre M=>∃(ks:List Key) (ds:LD) (b:Sl),M=[.im (.int n),.im (.lst (C.map D.int)),.ownd ks ds,b]/\ks.length<=pre.length/\∀k:Int,gh ks (.inl k)=pre.any λx=>x==k)
  rfl ([],[],.no,rfl,aL _,λ_=>rfl) (by
   rintro pre x post M ex ⟨ks,ds,b,rfl,c,a⟩;have l:pre.length<C.length:=by rw[ex];simp
   show(_,_,rfl,.inl (UC rfl rfl rfl rfl (by lia)),il ks _,_,_,rfl,?_,λk=>?_)
   .have:=UB ks (.inl x);rw[aR];change _<=pre.length+1
    lia
   .rw[UA,a,any_append]
    congr 1
    simp only[gz,any_nil,tJ]
    by_cases h:x=k
    .subst h;simp
    .rw[decide_eq_false (λq=>h (ub q))];show(beq_eq_false_iff_ne.mpr h).symm)
 show jK rfl (jK e ?_);rw[map_map];show congrArg _ (gM _ _ _ (pA rfl d (by lia)) (by rw[cI];lia) λj f=>?_);show fV rfl rfl (ap rfl rfl ?_);change aa _=_;rw[a];rfl
def IX(n:Int)(C:LI0)(b:0<=n)(c:n<=60)(a:C.length<=1000000):m_1 [.int n,.lst (C.map D.int)]=aa (.lst (((bL n.toNat).map (inS C)).map D.bl)):=lF (IV n C b c a)
def sI(ws:LB0):LI0:=((bL ws.length).filter λi=>ws.getD i af).map λ(i:Nat)=>(i:Int)
def vO(ws:LB0)(i:Int):i∈sI ws↔0<=i/\ws.getD i.toNat af=ac:=by
 unfold sI;rw[aJ];constructor
 .rintro⟨j,a,rfl⟩;have(_,b):=cw.mp a;show(by lia,by show b)
 .rintro⟨d,h⟩;show(i.toNat,cw.mpr (eJ.mpr ?_,h),by lia)
  by_cases c:i.toNat<ws.length
  .show c
  .rw[bK,ix (by lia)]at h
   nomatch h
def IY(p:Prt):BS [p.toD]=aa p.obj:=by
 cases p <;> rfl
variable{es:LOB}{L:LII}
def Dc(h:InN es.length L)(hz:L.length<=100000):sA [.lst (L.map itD),.lst (es.map shD)]=aa (.int (cF (·==aa ac) es L)):=by
 show cQ (cP (aG (ao (bW (d9 L itD _ _ rfl (by lia) λz a=>(dG rfl (bC (ap (ba rfl rfl (ji (h z a).1 (h z a).2.1)) rfl (pE _ _))) λ_=>rfl))) rfl) (yS (λt=>es.getD t.toNat ab==aa ac) L)))
def Dd(h:InN es.length L)(hz:L.length<=100000):qd [.lst (L.map itD),.lst (es.map shD)]=aa (.int (cF (λe=>!(e==aa af)) es L)):=by
 show cQ (cP (aG (ao (bW (d9 L itD _ _ rfl (by lia) λz a=>(dG rfl (bC (ap (ba rfl rfl (ji (h z a).1 (h z a).2.1)) rfl (Gz _ _))) λ_=>rfl))) rfl) (yS (λt=>!(es.getD t.toNat ab==aa af)) L)))
variable{ws:LB0}
def IZ(h:InN es.length L)(c:ws.length=es.length)(hz:L.length<=100000):
  vL [.lst (L.map itD),.lst (ws.map D.bl)]=aa (.lst ((L.filter λz=>!(ws.getD z.1.toNat af)).map itD)):=by
 show lF (congrArg _ (d9 L itD _ itD rfl (by lia) λz a=>?_));have b:=h z a;show dG rfl (m9 (df (ba rfl rfl (jM b.1 (by rw[c];show b.2.1))) rfl)) λ_=>rfl
def UD(h:InN es.length L)(hz:L.length<=100000):
  qd [.lst ((L.filter λz=>!(ws.getD z.1.toNat af)).map itD),.lst (es.map shD)]=aa (.int (bR (λt=>!(es.getD t.toNat ab==aa af) && !(ws.getD t.toNat af)) L)):=by
 have c:=gy (λz:Int×Int=>!(ws.getD z.1.toNat af)) L;have a:InN es.length (L.filter λz=>!(ws.getD z.1.toNat af)):=λz b=>h z (cw.mp b).1;show(Dd a (by lia)).trans (congrArg (λz=>aa _) (Fz (λt=>!(es.getD t.toNat ab==aa af)) (λt=>!(ws.getD t.toNat af)) L))
def UE(p:Prt)(h:p.Ok es.length)(a:ws.length=es.length):∀m,m=(match p with |.inn _=>sx |.out _=>sD |.least _ _=>sy |.most _ _=>sC) ->
  m [p.obj,.lst (es.map shD),.lst (ws.map D.bl)]=aa (.bl (p.lost es ws)):=by
 intro m e;subst e
 cases p with
 |inn t=>show cQ (cP (Gy (ap (ba rfl rfl (ji h.1 h.2)) rfl (pE _ _)) (ba rfl rfl (jM h.1 (by rw[a];show h.2)))))
 |out t=>show cQ (cP (ap (ba rfl rfl (ji h.1 h.2)) rfl (pE _ _)))
 |least k L=>show cQ (cP (ap (aG (ao (aG rfl (IZ h.1 a h.2)) (ao rfl rfl)) (UD h.1 h.2)) rfl rfl))
 |most k L=>show cQ (cP (ap (aG rfl (Dc h.1 h.2)) rfl rfl))
variable{fo:MF1}{fa:MF2}
def I0(p:Prt)(h:p.Ok es.length)(b:ws.length=es.length)(a:fo M=aa p.obj)(ha:fa M=aa [.lst (es.map shD),.lst (ws.map D.bl)]):
  bh (aN "In" "lost" sx fo fa) (bh (aN "Out" "lost" sD fo fa) (bh (aN "Least" "lost" sy fo fa) (aN "Most" "lost" sC fo fa))) M=aa (.bl (p.lost es ws)):=by
 have hm:=UE p h b _ rfl
 cases p with
 |inn t=>show dM ((cz a rfl ha).trans hm)
 |out t=>show bF (bG a (by decide)) (dM ((cz a rfl ha).trans hm))
 |least k L=>show bF (bG a (by decide)) (bF (bG a (by decide)) (dM ((cz a rfl ha).trans hm)))
 |most k L=>show bF (bG a (by decide)) (bF (bG a (by decide)) (bF (bG a (by decide)) ((cz a rfl ha).trans hm)))
def UF(p:Prt)(h:p.Ok es.length)(a:fo M=aa p.obj)(ha:fa M=aa [.lst (es.map shD)]):
  bh (aN "In" "sure" CC fo fa) (bh (aN "Out" "sure" CQ fo fa) (bh (aN "Least" "sure" CH fo fa) (aN "Most" "sure" CM fo fa))) M=aa (.bl (p.sure es)):=by
 cases p with
 |inn t=>show dM ((cz a rfl ha).trans (cQ (cP (ap (ba rfl rfl (ji h.1 h.2)) rfl (pE _ _)))))
 |out t=>show bF (bG a (by decide)) (dM ((cz a rfl ha).trans (cQ (cP (ap (ba rfl rfl (ji h.1 h.2)) rfl (pE _ _))))))
 |least k L=>show bF (bG a (by decide)) (bF (bG a (by decide)) (dM ((cz a rfl ha).trans (cQ (cP (ap (aG rfl (Dc h.1 h.2)) rfl rfl))))))
 |most k L=>show bF (bG a (by decide)) (bF (bG a (by decide)) (bF (bG a (by decide)) ((cz a rfl ha).trans (cQ (cP (ap (aG rfl (Dd h.1 h.2)) rfl rfl))))))
variable{n:Nat}
def UG(r:Rul)(h:r.Ok n):m_2 [r.toD]=aa (.lst (r.ps.map Prt.obj)):=
 lF (congrArg _ (gM r.ps Prt.toD Prt.obj rfl (by have:=h.len;lia) λp _=>fV rfl rfl (aG rfl (IY p))))
structure Spr where
 es:LOB
 st:LD
 bs:LD
 gk:List (List Key)
 gd:LD
 ws:List (List Key×LD)
 wt:LD
 mks:D
 tl:List (Str×O)
def lsO(ds:LD):O:=.lst (ds.map .fz)
def wsO(ws:List (List Key×LD)):O:=.dT (ws.map (·.1)) (ws.map λp=>lsO p.2)
nonrec def spN:LSt:=["sheet","steps","bars","guards","watches","waiting","makers"]
nonrec def iO(tl:List (Str×O))(os:List O):O:=.ins "Seeking" (spN++tl.map (·.1)) (os++tl.map (·.2))
def Spr.o(s:Spr):O:=iO s.tl [lsO (s.es.map shD),lsO s.st,lsO s.bs,.dT s.gk (s.gd.map .fz),wsO s.ws,lsO s.wt,.fz s.mks]
variable{l:Addr}{s:Spr}
def jR:aU "Seeking" "sheet" (aH 0) (.deep (.at l s.o)::M)=aa (lsO (s.es.map shD),λx=>.at l (iO s.tl [x,lsO s.st,lsO s.bs,.dT s.gk (s.gd.map .fz),wsO s.ws,lsO s.wt,.fz s.mks]),):=rfl
def De:aU "Seeking" "steps" (aH 0) (.deep (.at l s.o)::M)=aa (lsO s.st,λx=>.at l (iO s.tl [lsO (s.es.map shD),x,lsO s.bs,.dT s.gk (s.gd.map .fz),wsO s.ws,lsO s.wt,.fz s.mks]),):=rfl
def Dg:aU "Seeking" "bars" (aH 0) (.deep (.at l s.o)::M)=aa (lsO s.bs,λx=>.at l (iO s.tl [lsO (s.es.map shD),lsO s.st,x,.dT s.gk (s.gd.map .fz),wsO s.ws,lsO s.wt,.fz s.mks]),):=rfl
def Ja:aU "Seeking" "guards" (aH 0) (.deep (.at l s.o)::M)=aa (.dT s.gk (s.gd.map .fz),λx=>.at l (iO s.tl [lsO (s.es.map shD),lsO s.st,lsO s.bs,x,wsO s.ws,lsO s.wt,.fz s.mks]),):=rfl
def vP:aU "Seeking" "watches" (aH 0) (.deep (.at l s.o)::M)=aa (wsO s.ws,λx=>.at l (iO s.tl [lsO (s.es.map shD),lsO s.st,lsO s.bs,.dT s.gk (s.gd.map .fz),x,lsO s.wt,.fz s.mks]),):=rfl
def qg:aU "Seeking" "waiting" (aH 0) (.deep (.at l s.o)::M)=aa (lsO s.wt,λx=>.at l (iO s.tl [lsO (s.es.map shD),lsO s.st,lsO s.bs,.dT s.gk (s.gd.map .fz),wsO s.ws,x,.fz s.mks]),):=rfl
def UH:aU "Seeking" "makers" (aH 0) (.deep (.at l s.o)::M)=aa (.fz s.mks,λx=>.at l (iO s.tl [lsO (s.es.map shD),lsO s.st,lsO s.bs,.dT s.gk (s.gd.map .fz),wsO s.ws,lsO s.wt,x]),):=rfl
variable{p:Xp}{ds:LD}{R:O->O}
def sJ(h:p M=aa (lsO ds,R,)):pC p M=aa ds:=by
 unfold pC;rw[h];show zD ds
def qh:∀(ds:LD),O.kns (ds.map .fz)=ac
 | []=>by rw[map_nil,O.kns]
 |d::ds=>by rw[bD,O.kns,O.kn,qh ds];rfl
def jt(h:p M=aa (lsO ds,R,)):pB p M=aa (.lst ds):=by
 unfold pB lsO at *;rw[h,ax,O.kn,qh,if_pos rfl,O.toD,rf]
def kM(h:p M=aa (.fz d,R,)):pD p M=aa d:=by
 unfold pD;rw[h];rfl
variable{K:Fl->Prop}
def sK(h:p M=aa (lsO ds,R,))(a:f M=aa d)(hz:ds.length<16777216)(k:K (.nx (M.set i (.deep (R (lsO (ds++[d]))))))):wp (kL i p f) M K:=(_,by
 unfold kL lsO at *;rw[h,ax,a,ax];change(if (ds.map O.fz).length<16777216 then aa _ else ab).map _=_;rw[if_pos (by grind),show ds.map O.fz++_=(ds++[d]).map .fz by rw[bd];rfl];rfl,k)
variable{ks:List (List Key)}{os:List O}{y:L2.D}
def UI{k:List Key}(hv:fv M=aa d)(h:p M=aa (.dT ks os,R,))(a:fk M=aa y)(b:kH y=aa k)(hn:aT k ks=ab)(hz:ks.length<16777216)
 (q:K (.nx (M.set i (.deep (R (.dT (ks++[k]) (os++[.fz d]))))))):wp (pW i p fk fv) M K:=(_,by
 unfold pW;rw[hv,ax,h,ax,a,ax,b,ax];change(if aT k ks=ab/\ks.length<16777216 then aa _ else ab).map _=_;rw[if_pos (hn,hz)];rfl,q)
abbrev gt(k:List Key)(y:D):List (List Key×LD)->List (List Key×LD)
 | []=>[(k,[y],)]
 |p::ws=>if p.1=k then (p.1,p.2++[y],)::ws else p::gt k y ws
def Dh{k:List Key}{y:D}:∀{ws:List (List Key×LD)},aT k (ws.map (·.1))=ab->gt k y ws=ws++[(k,[y],)]
 | [],_=>rfl
 |p::ws,h=>by
  rw[bD]at h;unfold aT at h;split at h
  .lia
  .rename_i e;unfold gt;rw[if_neg e]
   cases h':aT k _ with
   |none=>rw[Dh h'];rfl
   |some j=>rw[h']at h;cases h
def Di{k:List Key}{y:D}:∀{ws:List (List Key×LD)} {j:Nat},aT k (ws.map (·.1))=aa j->∃p,ws[j]?=aa p/\p.1=k/\gt k y ws=ws.set j (p.1,p.2++[y],)
 | [],_,h=>by cases h
 |p::ws,j,h=>by
  rw[bD]at h;unfold aT at h;split at h
  .rename_i e;cases h;show(p,rfl,e,?_);unfold gt
   grind
  .rename_i e
   cases h':aT k _ with
   |none=>rw[h']at h;cases h
   |some i=>
    rw[h']at h;cases h;have(q,a,b,c):=Di h';show(q,by rw[gZ];show a,b,?_);unfold gt;rw[if_neg e,c];rfl
structure bT(c:Nat)(ws:List (List Key×LD)):Prop where
 ln:ws.length<=c
 al:∀p∈ws,p.2.length<=c
variable{c:Nat}{ws:List (List Key×LD)}
def bT.add(h:bT c ws)(k:List Key)(y:D):bT (c+1) (gt k y ws):=by
 cases a:aT k _ with
 |none=>
  rw[Dh a];show(by rw[aR,fH];have:=h.ln;lia,λp e=>?_)
  rcases bv.mp e with q |q
  .have:=h.al p q;lia
  .grind
 |some j=>
  have(p,b,_,d):=Di a;rw[d];show(by rw[iy];have:=h.ln;lia,λq f=>?_)
  rcases mem_or_eq_of_mem_set f with z |z
  .have:=h.al q z;lia
  .rw[z];have:=h.al p (dP b)
   grind
def UJ{k:List Key}(h:aT k ks=ab)(hz:ks.length<16777216):(O.dT ks os).apdK k d=aa (.dT (ks++[k]) (os++[.lst [.fz d]])):=by
 unfold O.apdK
 grind
variable{j:Nat}{o2:O}
def UK{k:List Key}{o1:O}(h:aT k ks=aa j)(a:os[j]?=aa o1)(h2:o1.appd d=aa o2):(O.dT ks os).apdK k d=aa (.dT ks (os.set j o2)):=by
 unfold O.apdK
 grind
def UL(h:ds.length<16777216):(lsO ds).appd y=aa (lsO (ds++[y])):=by
 unfold lsO O.appd
 grind
def UM(h:bT c ws)(e:c<16777216)(k:List Key)(y:D):(wsO ws).apdK k y=aa (wsO (gt k y ws)):=by
 unfold wsO
 cases a:aT k _ with
 |none=>
  rw[UJ a (by rw[aA];have:=h.ln;lia),Dh a,bd,bd]
  rfl
 |some j=>
  have(p,b,_,d):=Di a;rw[UK a (by rw[cB,b];rfl) (UL (by have:=h.al p (dP b);lia)),d,g8,g8,nF (x:=p.1) (by grind)]
def UN{g:MF1}{k:List Key}(h:p M=aa (wsO ws,R,))(b:g M=aa y)(f:kH y=aa k)(e:ae j M=aa d)(ok:bT c ws)(a:c<16777216)(q:K (.nx (M.set i (.deep (R (wsO (gt k d ws))))))):wp (pX i j p g) M K:=(_,by
 unfold pX;rw[h,ax,b,ax,f,ax,e,ax,UM ok a];rfl,q)
variable{m:MTf}{ρ1:LS}{o0 o o':O}
def fE{cn a:Str}{f:Xa}(h:M[i]?=aa (.deep (.at l o0)))(hi:o0.isIns cn a=ac)(c:f M=aa (ds,ρ1,))(b:ρ1[i]?=aa (.deep (.at l o)))(hm:m l ds o=aa (o',d,)):cH i cn a m f M=aa (d,ρ1.set i (.deep (.at l o')),):=by
 unfold cH
 grind
def UO{cn:Str}(h:fa M=aa ds)(hm:∀l,m l ds (.ins cn [] [])=aa (o,.non,)):nI cn m fa M=aa o:=by
 unfold nI;rw[h,ax];have a:∃o,∀l,m l ds _=aa (o,.non,):=(o,hm);rw[dif_pos a];have:=a.choose_spec 0
 grind
def Jb(l:Addr)(Q:O->D->Prop)(r:Fl):Prop:=match r with
 |.nx M=>∃o,M[0]?=aa (.deep (.at l o))/\Q o .non
 |.rtS d M=>∃o,M[0]?=aa (.deep (.at l o))/\Q o d
 | _=>False
variable{N:Nat}
def UP{F:MF3}{Q:O->D->Prop}(h:wp F (vi N l ds o) (Jb l Q)):∃o' d,d6 N F l ds o=aa (o',d,)/\Q o' d:=by
 have(r,e,q):=h;unfold d6;rw[e,ax]
 cases r with
 |nx M=>have(o',a,q):=q;show(o',.non,by dsimp only;rw[HR a];rfl,q)
 |rtS d M=>have(o',a,q):=q;show(o',d,by dsimp only;rw[HR a];rfl,q)
 | _=>show q.elim
def fF{F:MF3}(h:wp F (vi N l ds o) (Jb l λx y=>x=o'/\y=d)):d6 N F l ds o=aa (o',d,):=by
 have(a,b,e,rfl,rfl):=UP h;show e
def ju(h:f M=aa d)(k:K (.rtS d M)):wp (fB f) M K:=(_,by unfold fB;rw[h];rfl,k)
def gT{cn f:Str}{g:LS->Option O}{x:O}{q:O×(O->O)}(a:g M=aa x)(h:p M=aa q)(b:q.1.setF cn f x=aa o2)(k:K (.nx (M.set i (.deep (q.2 o2))))):wp (eD i cn f p g) M K:=(_,by
 unfold eD;rw[a,ax,h,ax,b];rfl,k)
def jw{f:Xe}{ρ':LS}(h:f M=aa (d,ρ',))(k:K (.nx ρ')):wp (dN f) M K:=(_,by unfold dN;rw[h];rfl,k)
def nO{f:MF2}(h:f M=aa ds):ip f M=aa (lsO ds):=by unfold ip lsO;rw[h];rfl
def sL(h:f M=aa d):jq f M=aa (.fz d):=by unfold jq;rw[h];rfl
variable{ns:LI0}
def UQ(h:f M=aa (.lst (ns.map D.int)))(a:ns.length<4000)(h2:(dz ns).length<64):ni f M=aa ((dz ns).map D.int):=by
 unfold ni;rw[h,ax];change(iN _).bind _=_;rw[zj,ax,if_pos (a,h2)]
def Jc(h:∀x∈ns,0<=x/\x<(n:Int)):(dz ns).length<=n:=by
 by_cases c:(dz ns).length<=n
 .show c
 .have d:∀x∈dz ns,x∈(bL n).map λ(i:Nat)=>(i:Int):=λx e=>by
   have(a,b):=h x ((jo x ns).mp e);show aJ.mpr (x.toNat,eJ.mpr (by lia),by lia)
  have:=(pI _ _ ((lJ ns).imp λh=>Int.ne_of_lt h) d (by rw[aA,cI];lia)).length_eq;rw[aA,cI]at this
  lia
def Dj(h:f M=aa (.lst ds))(h':M[i]?=aa (.own C))(a:C.length+ds.length<=16777216):kB i (kA f) M=aa (.nx (M.set i (.own (C++ds)))):=by
 unfold kB kA;rw[h,h'];change(if C.length+ds.length<=16777216 then _ else ab)=_;rw[if_pos a]
variable{p:Prt}
def qi(h:p.Ok n):∀x∈nmP p,0<=x/\x<(n:Int):=λx a=>by
 cases p with
 |inn t=>
  have:x=t:=by simpa[nmP]using a
  subst this
  show h
 |out t=>
  have:x=t:=by simpa[nmP]using a
  subst this
  show h
 |least k L=>have(z,hz,rfl):=aJ.mp a;show((h.1 z hz).1,(h.1 z hz).2.1)
 |most k L=>have(z,hz,rfl):=aJ.mp a;show((h.1 z hz).1,(h.1 z hz).2.1)
def put(es:LOB)(k:Nat)(b:Bool):LOB:=es.set k (aa b)
def b8(es:LOB)(k:Nat)(b:Bool):(put es k b).length=es.length:=iy
def c7(es:LOB){k j:Nat}(b:Bool)(h:j≠k):(put es k b).getD j ab=es.getD j ab:=by
 unfold put;rw[bK,bK,kX (eM h)]
def eV(es:LOB){k:Nat}(b:Bool)(h:k<es.length):(put es k b).getD k ab=aa b:=by
 unfold put;rw[bK,jX h];rfl
variable{es':LOB}
def Jd{q:Option Bool->Bool}(h:∀z∈L,q (es'.getD z.1.toNat ab)=q (es.getD z.1.toNat ab)):cF q es' L=cF q es L:=by
 unfold cF;rw[filter_congr h]
def UR{k:Nat}{b:Bool}(a:p.Ok es.length)(h:(k:Int)∉nmP p):p.sure (put es k b)=p.sure es:=by
 have ne:∀t:Int,0<=t->t∈nmP p->t.toNat≠k:=λt d f e=>by
  grind
 cases p with
 |inn t=>
  have:=ne t a.1 (by simp[nmP]);change((put es k b).getD t.toNat ab==aa ac)=_;rw[c7 es b this]
  rfl
 |out t=>
  have:=ne t a.1 (by simp[nmP]);change((put es k b).getD t.toNat ab==aa af)=_;rw[c7 es b this]
  rfl
 |least c L=>
  change decide _=decide _
  rw[Jd (es:=es) λz hz=>by rw[c7 es b (ne z.1 (a.1 z hz).1 (aJ.mpr (z,hz,rfl)))]]
 |most c L=>
  change decide _=decide _;rw[Jd (es:=es) λz hz=>by rw[c7 es b (ne z.1 (a.1 z hz).1 (aJ.mpr (z,hz,rfl)))]]
def opn(es:LOB)(t:Int):Bool:=es.getD t.toNat ab==ab
abbrev nmL:Prt->LI0
 |.inn t=>[t]
 |.out t=>[t]
 |.least _ L=>dz (L.map (·.1))
 |.most _ L=>dz (L.map (·.1))
abbrev gU:Prt->Bool
 |.inn _=>ac
 |.out _=>af
 |.least _ _=>ac
 |.most _ _=>af
def sM(h:p.Ok n)(hn:n<=60):(nmL p).length<64:=by
 cases p with
 |inn t=>change 1<64;decide
 |out t=>change 1<64;decide
 |least k L=>have:=Jc (qi h);change(dz _).length<64;show mi this (by lia)
 |most k L=>have:=Jc (qi h);change(dz _).length<64;show mi this (by lia)
variable{t:Int}
def sN:t∈nmL p↔t∈nmP p:=by
 cases p with
 |inn u=>show Iff.rfl
 |out u=>show Iff.rfl
 |least k L=>show jo t _
 |most k L=>show jo t _
def Je(a:L.length<=1000)(h2:(dz (L.map (·.1))).length<64):vB [.lst (L.map itD)]=aa (.lst ((dz (L.map (·.1))).map D.int)):=by
 show lF (congrArg _ (UQ (bW ?_) (by rw[aA];lia) h2));rw[map_map];show gM L itD _ rfl (by lia) λz _=>fV rfl rfl rfl
def Jf(p:Prt)(h:p.Ok n)(hn:n<=60)(b:(nmP p).length<=1000)(a:fo M=aa p.obj):
  bh (aN "In" "named" vA fo λ_=>aa []) (bh (aN "Out" "named" vF fo λ_=>aa []) (bh (aN "Least" "named" vC fo λ_=>aa []) (aN "Most" "named" vE fo λ_=>aa []))) M=aa (.lst ((nmL p).map D.int)):=by
 have c:=sM h hn
 cases p with
 |inn t=>show dM ((cz a rfl rfl).trans rfl)
 |out t=>show bF (bG a (by decide)) (dM ((cz a rfl rfl).trans rfl))
 |least k L=>
  have e:=Je (by simpa[nmP]using b) c
  show bF (bG a (by decide)) (bF (bG a (by decide)) (dM ((cz a rfl rfl).trans (cQ (cP (aG rfl e))))))
 |most k L=>
  show bF (bG a (by decide)) (bF (bG a (by decide)) (bF (bG a (by decide)) ((cz a rfl rfl).trans (cQ (cP (aG rfl (Je (by simpa[nmP]using b) c)))))))
def US(p:Prt)(a:fo M=aa p.obj):
  bh (aN "In" "wants" BA fo λ_=>aa []) (bh (aN "Out" "wants" BK fo λ_=>aa []) (bh (aN "Least" "wants" BE fo λ_=>aa []) (aN "Most" "wants" BH fo λ_=>aa []))) M=aa (.bl (gU p)):=by
 cases p with
 |inn t=>show dM ((cz a rfl rfl).trans rfl)
 |out t=>show bF (bG a (by decide)) (dM ((cz a rfl rfl).trans rfl))
 |least k L=>show bF (bG a (by decide)) (bF (bG a (by decide)) (dM ((cz a rfl rfl).trans rfl)))
 |most k L=>show bF (bG a (by decide)) (bF (bG a (by decide)) (bF (bG a (by decide)) ((cz a rfl rfl).trans rfl)))
nonrec def Wss:=List (List Key×LD)
def gx(t:Int)(b:Bool):List Key:=[.inl t,.inl (cond b 1 0)]
def vQ(y:D)(ws:Wss)(p:Prt):Wss:=(nmL p).foldl (λws t=>gt (gx t (gU p)) y ws) ws
def nP(y:D)(ps:List Prt)(ws:Wss):Wss:=ps.foldl (vQ y) ws
def bT.ts{c:Nat}{b:Bool}{y:D}:∀(ts:LI0) {ws:Wss},bT c ws->bT (c+ts.length) (ts.foldl (λws t=>gt (gx t b) y ws) ws)
 | [],_,h=>h
 |t::ts,ws,h=>by
  have:=bT.ts (b:=b) (y:=y) ts (h.add (gx t b) y);rw[cb,show c+_=c+1+ts.length by lia];show this
def bT.le{a:Nat}{ws:Wss}(h:bT c ws)(b:c<=a):bT a ws:=(cS h.ln b,λp d=>cS (h.al p d) b)
def PrK(n:Nat)(p:Prt):Prop:=p.Ok n/\(nmP p).length<=1000
def bT.prt{ws:Wss}(h:bT c ws)(a:PrK n p)(hn:n<=60):bT (c+64) (vQ y ws p):=by
 have:=sM a.1 hn;show(bT.ts _ h).le (by lia)
def bT.reg{n:Nat}{y:D}(hn:n<=60):∀{ps:List Prt} {c:Nat} {ws:Wss},(∀p∈ps,PrK n p)->bT c ws->bT (c+64*ps.length) (nP y ps ws)
 | [],_,_,_,h=>h
 |p::ps,c,ws,hp,h=>by
  have:=bT.reg (y:=y) hn (λq a=>hp q (bi _ a)) (h.prt (y:=y) (hp p az) hn);rw[cb,show c+64*_=c+64+64*ps.length by lia];show this
def vR(s:Spr)(y:D)(k:List Key)(ps:List Prt):Spr:={s with gk:=s.gk++[k],gd:=s.gd++[.lst (ps.map Prt.obj)],ws:=nP y ps s.ws,wt:=s.wt++[y]}
def UT(ds:LD)(d:D):ds.map O.fz++[.fz d]=(ds++[d]).map .fz:=by rw[bd];rfl
def Jg{k:List Key}(s:Spr)(ps:List Prt)(z:kH y=aa k)(m:aT k s.gk=ab)(j:s.gk.length<16777216)(h:∀p∈ps,PrK n p)(hn:n<=60)(x:bT c s.ws)(A:c+64*ps.length<16777216)(hz:s.wt.length<16777216)(u:ps.length<=100000):
  ss l [y,.lst (ps.map Prt.obj)] s.o=aa ((vR s y k ps).o,.non,):=by
 apply fF;apply am;show UI rfl Ja rfl z m j ?_;rw[UT];apply am
 show dH ps Prt.obj (λpre M=>∃g a,M=[.deep (.at l ({s with gk:=s.gk++[k],gd:=s.gd++_,ws:=nP y pre s.ws}:Spr).o),.im y,.im _,g,a]) rfl (_,_,rfl) ?_ ?_
 .rintro pre p post M ex ⟨g,a,rfl⟩;have e:p∈ps:=by rw[ex];simp
  have b:=h p e;have i:pre.length<ps.length:=by rw[ex];simp
  have f:bT _ (nP y pre s.ws):=bT.reg hn (λq w=>h q (by rw[ex];simp[w])) x;have r:=sM b.1 hn;show(_,rfl,?_);walk_at "nrm"
  show dH _ D.int (λpr M=>∃a,M=[.deep (.at l ({s with gk:=s.gk++[k],gd:=s.gd++_,ws:=pr.foldl (λws t=>gt (gx t (gU p)) y ws) _}:Spr).o),.im y,.im _,.im p.obj,a]) (fD (Jf p b.1 hn b.2 rfl) rfl) (_,rfl) ?_ ?_
  .rintro pr t po M d ⟨a,rfl⟩;have v:pr.length<(nmL p).length:=by rw[d];simp
   show(_,rfl,?_);walk_at "nrm";show UN vP (cV (ao rfl (ao (US p rfl) rfl))) rfl rfl (bT.ts pr f) (by lia) ?_;show(.im (.int t),?_);rw[eI];rfl
  .rintro M ⟨a,rfl⟩;show(.im p.obj,a,?_);unfold nP;rw[eI];rfl
 .rintro M ⟨g,a,rfl⟩;show sK qg rfl hz (_,rfl,rfl,rfl)
def mkD(r:Rul):D:=.tup [.int r.hd,.lst (r.ps.map Prt.obj)]
def eW(B:LRu):LRu:=B.filter λr=>r.w != .never
def grd(r:Rul):List Prt:=match r.w with
 |.may=>[.least 1 []]
 |.make=>r.ps++[.out r.hd]
 |.never=>r.ps
structure RuK(n:Nat)(r:Rul):Prop where
 ok:r.Ok n
 nm:∀p∈r.ps,(nmP p).length<=1000
 len:r.ps.length<=1000
variable{r:Rul}
def vS(h:RuK n r):∀p∈grd r,PrK n p:=λp a=>by
 have(w,hd,ps):=r
 cases w with
 |may=>
  have:p=.least 1 []:=by simpa[grd]using a
  subst this
  show(((λz hz=>nomatch hz),ce _),ce _)
 |make=>
  rcases bv.mp (a)with q |q
  .show(h.ok.ps p q,h.nm p q)
  .rw[bB.mp q]
   show(h.ok.hd (λz=>by nomatch z),by change 1<=1000;decide)
 |never=>show(h.ok.ps p a,h.nm p a)
def Dk(h:RuK n r):(grd r).length<=1001:=by
 have(w,hd,ps):=r;have a:ps.length<=1000:=h.len
 cases w with
 |may=>change 1<=1001;decide
 |make=>change(ps++_).length<=1001;rw[aR,fH];lia
 |never=>change ps.length<=1001;lia
def Jh(r:Rul)(h:r.Ok n):o_2 [r.toD]=aa (r.ps.map Prt.obj):=
 nt (congrArg _ (gM r.ps Prt.toD Prt.obj rfl (by have:=h.len;lia) λp _=>fV rfl rfl (aG rfl (IY p))))
def UU(r:Rul)(h:RuK n r):vI [r.toD]=aa (.lst ((grd r).map Prt.obj)):=by
 apply jN;have(w,hd,ps):=r
 cases w with
 |may=>
  apply am;show bc rfl (λ_=>?_) (λz=>by nomatch z)
  first |show jp rfl (jO rfl) |grind
 |make=>
  apply am;show bc rfl (λz=>by nomatch z) (λ_=>b9 ?_);walk_at "nrm";apply am
  show d4 (by first |show vb rfl (Jh (.make,hd,ps) h.ok) |show eb) ?_
  walk_at "nrm";apply am;show bc rfl (λ_=>?_) (λz=>by nomatch z);show gN rfl rfl (by rw[aA];change ps.length<_;have:ps.length<=1000:=h.len;lia) ?_;walk_at "nrm";show nr rfl (jO ?_);change D.lst _=D.lst ((ps++_).map Prt.obj);rw[bd]
  rfl
 |never=>
  apply am;show bc rfl (λz=>by nomatch z) (λ_=>b9 ?_);walk_at "nrm";apply am
  show d4 (by first |show vb rfl (Jh (.never,hd,ps) h.ok) |show eb) ?_
  walk_at "nrm";apply am;show bc rfl (λz=>by nomatch z) (λ_=>b9 ?_);walk_at "nrm";show nr rfl (jO rfl)
def sO(i:Nat):D:=.tup [.str "rule",.int i]
def nQ(i:Nat):List Key:=[.inr "rule",.inl i]
def UV(h:nQ i=nQ j):i=j:=by
 have:=ub (qJ (qJ h).2).1
 lia
def Dl{a:Type}[DecidableEq a]{f:a}:∀{ns:List a},f∉ns->aT f ns=ab
 | [],_=>rfl
 |n::ns,h=>by
  unfold aT;rw[if_neg (λe=>h (by rw[e];show az)),Dl (λq=>h (bi _ q))];rfl
def sp0(es:LOB)(B:LRu):Spr:=(es,[],[],[],[],[],[],.lst ((eW B).map mkD),[])
def lW(s:Spr)(p:Nat×Rul):Spr:=vR s (sO p.1) (nQ p.1) (grd p.2)
structure SpK(n i c:Nat)(s:Spr):Prop where
 gk:s.gk=(bL i).map nQ
 gl:s.gd.length=i
 ws:bT c s.ws
 wt:s.wt=(bL i).map sO
def SpK.step(h:SpK n i c s)(hr:RuK n r)(hn:n<=60):SpK n (i+1) (c+65000) (lW s (i,r,)):=by
 show(?_,?_,?_,?_)
 .change s.gk++_=_;rw[range_succ,bd,h.gk];rfl
 .change(s.gd++[_]).length=_;rw[aR,h.gl];rfl
 .have:=bT.reg (y:=sO i) hn (vS hr) h.ws;have a:=Dk hr;show this.le (by lia)
 .change s.wt++_=_;rw[range_succ,bd,h.wt];rfl
def SpK.fresh(h:SpK n i c s):aT (nQ i) s.gk=ab:=Dl λq=>by
 rw[h.gk]at q;have(j,a,e):=aJ.mp q;have:=UV e;subst this;show gA _ (eJ.mp a)
abbrev eX:Nat->LRu->List (Nat×Rul)
 | _,[]=>[]
 |i,r::B=>(i,r,)::eX (i+1) B
def Ji:∀(i:Nat) (B:LRu),iK i (B.map Rul.toD)=(eX i B).map λp=>D.tup [.int p.1,p.2.toD]
 | _,[]=>rfl
 |i,r::B=>by rw[bD,iK,Ji _ B];rfl
def sP:∀(i:Nat) (B:LRu) (j:Nat),(eX i B)[j]?=(B[j]?).map λr=>(i+j,r,)
 | _,[],_=>rfl
 |i,r::B,0=>rfl
 |i,r::B,j+1=>by simp only[eX,gZ,gZ,sP _ B j,show i+1+j=i+(j+1) by lia]
variable{B:LRu}
def Jj{pre post:List (Nat×Rul)}{p:Nat×Rul}(h:eX 0 B=pre++p::post):p.1=pre.length/\p.2∈B/\pre.length<B.length:=by
 have a:(eX 0 B)[pre.length]?=aa p:=by rw[h,oa (aL _),Nat.sub_self];rfl
 rw[sP]at a
 cases hr:B[pre.length]? with
 |none=>rw[hr]at a;nomatch a
 |some r=>
  rw[hr]at a;cases a;show(k7 _,dP hr,(cX.mp hr).1)
def pl0(n:Int)(B:LRu):D:=.tup [.int n,.lst (B.map Rul.toD)]
def UW(hi:fi M=aa (B.map Rul.toD))(hok:∀r∈B,r.Ok n)(hz:B.length<=1000):
  bn 1 [] fi (ay 0) (mB (m2 fA (mIx (av 0) (kI 1)) kN)) (bo (ag (mIx (av 0) (kI 1)) (ag (aw m_2 (ag (ae 0) nZ)) nZ))) M=aa ((eW B).map mkD):=by
 show d9 B Rul.toD _ mkD hi (by lia) λr hr=>?_;have a:=UG r (hok r hr);have(w,hd,ps):=r
 cases w with
 |never=>show dG rfl rfl λz=>by nomatch z
 |make=>show dG rfl rfl λ_=>cV (ao rfl (ao (aG rfl a) rfl))
 |may=>show dG rfl rfl λ_=>cV (ao rfl (ao (aG rfl a) rfl))
def dJ{g:Xa}(h:f M=aa d)(h':g M=aa (ds,M,)):bH (mX f) g M=aa (d::ds,M,):=by
 unfold bH mX;rw[h];change(g M).map _=_;rw[h'];rfl
def vT{f:MF2}(h:f M=aa [.lst C]):jk f M=aa (iK 0 C):=by
 unfold jk;rw[h];rfl
def spI(es:LOB)(B:LRu):Spr:=(eX 0 B).foldl lW (sp0 es B)
def SpK.foldT{n:Nat}(hn:n<=60){es:LOB}{B:LRu}(hr:∀r∈B,RuK n r):∀(k:Nat),k<=B.length->SpK n k (65000*k) (((eX 0 B).take k).foldl lW (sp0 es B))
 | 0,_=>(rfl,rfl,⟨ce _,λ_ h=>nomatch h⟩,rfl)
 |k+1,h=>by
  have a:(eX 0 B)[k]?=aa (k,B[k],):=by rw[sP,bY h];simp
  have:=(SpK.foldT hn (es:=es) hr k (Nat.le_of_succ_le h)).step (hr B[k] (g4 h)) hn;rw[take_succ,a,eI,show 65000*_=65000*k+65000 by lia];show this
def SpK.fold(hn:n<=60)(hr:∀r∈B,RuK n r){pre post:List (Nat×Rul)}{p:Nat×Rul}(h:eX 0 B=pre++p::post):SpK n pre.length (65000*pre.length) (pre.foldl lW (sp0 es B)):=by
 have:=SpK.foldT hn (es:=es) hr pre.length (eK (Jj h).2.2);rw[h,take_left' rfl]at this;show this
def Jk:∀(ps:List (Nat×Rul)) (s:Spr),(ps.foldl lW s).tl=s.tl
 | [],_=>rfl
 |p::ps,s=>Jk ps _
def UX(h:s.tl=[]):s.o.isIns "Seeking" "take_guard"=ac:=by
 cases s;cases h;rfl
variable{v:Int}
def UY{bars:LD}(hn:n<=60)(hr:∀r∈B,RuK n r)(hz:B.length<=250)
 (k:∀b c,K (.nx [.deep (.at l (spI es B).o),.im (pl0 v B),.im (.lst bars),.im (.lst (es.map shD)),b,c,.no])):
  wp (b6 (jk (ag (mIx (av 1) (kI 1)) nZ)) (cZ (bq (ay 5) (bq (ay 4) dk))) (dN (cH 0 "Seeking" "take_guard" ss (bH (mX (bo (ag (kSt "rule") (ag (ae 5) nZ)))) (bH (mX (aw vI (ag (ae 4) nZ))) cu)))))
   [.deep (.at l (sp0 es B).o),.im (pl0 v B),.im (.lst bars),.im (.lst (es.map shD)),.no,.no,.no] K:=by
 show dH (eX 0 B) (λp=>D.tup [.int p.1,p.2.toD]) (λpre M=>∃b c,M=[.deep (.at l (pre.foldl lW (sp0 es B)).o),.im _,.im _,.im _,b,c,.no]) ?_ (_,_,rfl) ?_ ?_
 .rw[<- Ji];show vT (ao (ba rfl rfl rfl) rfl)
 .rintro pre p post M ex ⟨b,c,rfl⟩;have(e,f,h):=Jj ex;have d:=SpK.fold (es:=es) hn hr ex;have a:=hr p.2 f;have g:=Dk a;show(_,rfl,?_);walk_at "nrm";show jw (fE rfl (UX (Jk pre _)) (dJ rfl (dJ (aG rfl (UU p.2 a)) rfl)) rfl (Jg _ _ rfl (by rw[e];show d.fresh) (by rw[d.gk,aA,cI];lia) (vS a) hn d.ws (by lia) (by rw[d.wt,aA,cI];lia) (by lia))) ?_;show(.im p.2.toD,.im (.int p.1),?_);rw[eI];rfl
 .rintro M ⟨b,c,rfl⟩;show k b c
def UZ(hn:n<=60)(hr:∀r∈B,RuK n r)(hz:B.length<=250)(l:Addr):BW l [pl0 v B,.lst [],.lst (es.map shD)] (.ins "Seeking" [] [])=aa ((spI es B).o,.non,):=by
 apply fF;apply am;show gT (nO rfl) rfl rfl ?_;apply am;show gT (nO rfl) rfl rfl ?_;apply am;show gT (nO rfl) rfl rfl ?_;apply am;show gT rfl rfl rfl ?_;apply am;show gT rfl rfl rfl ?_;apply am;show gT (nO rfl) rfl rfl ?_;apply am;show gT (sL (bW (UW (fD (ba rfl rfl rfl) rfl) (λr h=>(hr r h).ok) (by lia)))) rfl rfl ?_;apply am;show UY hn hr hz λa b=>?_;show dH ([]:LN) (λ_=>D.non) (λ_ M=>M=_) rfl rfl ?_ ?_
 .rintro pre x post M ex;simp at ex
 .rintro M rfl;show(_,rfl,rfl,rfl)
def hup(es:LOB)(wo:LB0)(r:Rul):Bool:=r.w != .never && (wo.getD r.hd.toNat af && !(r.bodyLost es wo))
def Jl(h:r.w≠.never):(r.w != .never)=ac:=by grind
inductive kO(B:LRu)(es:LOB)(a:LB0):LB0->Prop
 |refl:kO B es a a
 |step {b:LB0} {r:Rul}:kO B es a b->r∈B->hup es b r=ac->kO B es a (b.set r.hd.toNat af)
def vU(l:LB0)(k j:Nat):(l.set k af).getD j af=(l.getD j af && !(k==j)):=by grind
variable{a b:LB0}
def kO.len(h:kO B es a b):b.length=a.length:=by
 induction h with
 |refl=>rfl
 |step _ _ _ c=>rw[iy,c]
def kO.sub(h:kO B es a b)(i:Nat):b.getD i af=ac->a.getD i af=ac:=by
 induction h with
 |refl=>show id
 |step _ _ _ c=>
  grind
variable{wo:LB0}
def Jm(h:hup es wo r=ac):r.w≠.never/\wo.getD r.hd.toNat af=ac/\r.bodyLost es wo=af:=by
 unfold hup at h
 grind
variable{le:LB0}
def U0(hr:r.Ok es.length)(g:nh le wo)(h:hup es wo r=ac)(f:le.getD r.hd.toNat af=ac):hup es le r=ac:=by
 have(a,b,c):=Jm h
 have e:r.bodyLost es le=af:=by
  cases q:r.bodyLost es le with
  |false=>rfl
  |true=>
   have(p,d,i):=any_eq_true.mp q;have:r.bodyLost es wo=ac:=any_eq_true.mpr (p,d,uZ (cR.refl es) g (hr.ps p d) i);rw[c]at this
   nomatch this
 unfold hup;rw[Jl a,f,e];rfl
def U1{fin:LB0}(hok:∀r∈B,r.Ok es.length)(h:kO B es a b)(l:le.length=a.length)(g:∀i,le.getD i af=ac->a.getD i af=ac)(f:∀i,fin.getD i af=ac->b.getD i af=ac)
 (n:∀r∈B,hup es le r=ac->fin.getD r.hd.toNat af=ac):∀i,le.getD i af=ac->b.getD i af=ac:=by
 induction h with
 |refl=>show g
 | @step b r m hr j c=>
  have d:=λi q=>by
   have:=f i q;rw[vU]at this
   simpa using (ca _ _▸this).1
  have c:=c d;intro i q;rw[vU,c i q,qz]
  cases e:(r.hd.toNat==i)with
  |false=>rfl
  |true=>
   exfalso;have e:r.hd.toNat=i:=by simpa using e
   subst e;have w:nh le b:=(by rw[m.len,l],c);have:=f _ (n r hr (U0 (hok r hr) w j q));rw[vU]at this;simp at this
def ct(bs:LB0):Nat:=(bs.filter λb=>b).length
def U2(bs:LB0):ct bs<=bs.length:=gy _ _
def Jn:∀(bs:LB0) (k:Nat),bs.getD k af=ac->ct (bs.set k af)+1=ct bs
 | [],k,h=>by simp at h
 |b::bs,0,h=>by
  subst h
  rfl
 |b::bs,k+1,h=>by
  have a:=Jn bs k (by show h)
  cases b with
  |false=>show a
  |true=>
   change(ct _+1)+1=ct bs+1;rw[a]
def U3(bs:LB0)(k:Nat)(b:Bool):(bs.map D.bl).set k (.bl b)=(bs.set k b).map D.bl:=by rw[g8]
def jx(es:LOB):LB0:=es.map λe=>!(e==aa af)
def U4(hi:fi M=aa (es.map shD))(hz:es.length<=1000):bn 1 [] fi (ay 0) kY (m2 fA (ae 0) (kBl af)) M=aa ((jx es).map D.bl):=by
 unfold jx;rw[<- Qc];show gM es shD _ hi (by lia) λe _=>fV rfl rfl (ap rfl rfl (Gz _ _))
abbrev Dn:Option Prt->D
 |some p=>p.obj
 |none=>.non
def Do(ps:List Prt)(h:∀p∈ps,p.Ok es.length)(e:wo.length=es.length):m_6 [.lst (ps.map Prt.obj),.lst (es.map shD),.lst (wo.map D.bl)]=aa (Dn (ps.find? λp=>p.lost es wo)):=by
 apply jN;apply am;show dH ps Prt.obj (λpre M=>∃c,M=[.im _,.im _,.im _,c]/\∀p∈pre,p.lost es wo=af) rfl ⟨_,rfl,λ_ h=>nomatch h⟩ ?_ ?_
 .rintro pre p post M ex ⟨c,rfl,a⟩;have d:p∈ps:=by grind
  show(_,rfl,?_);walk_at "nrm";show bc (df (I0 p (h p d) e rfl rfl) rfl) (λz=>?_) (λz=>b9 ?_)
  .show Qd rfl (gm ?_);rw[ex,find?_append,find?_eq_none.mpr λq b=>by rw[a q b];show bJ,find?_cons_of_pos z];rfl
  .show(.im p.obj,rfl,λq b=>?_)
   grind
 .rintro M ⟨c,rfl,a⟩;show gj rfl (gm ?_);rw[find?_eq_none.mpr λq b=>by rw[a q b];grind];rfl
def U5(x:Option Prt):dIs (Dn x) .non=aa (.bl x.isNone):=by
 cases x with
 |none=>rfl
 |some p=>cases p <;> rfl
def Dr(r:Rul):(r.ps.find? λp=>p.lost es wo).isNone=!(r.bodyLost es wo):=by
 unfold Rul.bodyLost
 grind
def iP(es:LOB)(wo:LB0)(r:Rul):Bool:=wo.getD r.hd.toNat af && !(r.bodyLost es wo)
nonrec def jS:=LB0×LRu×LRu
def bX(es:LOB)(a:jS)(r:Rul):jS:=if iP es a.1 r then (a.1.set r.hd.toNat af,a.2.1++[r],a.2.2,) else (a.1,a.2.1,a.2.2++[r],)
def dW(es:LOB)(wo:LB0)(us rest:LRu):jS:=rest.foldl (bX es) (wo,us,[],)
abbrev nR(es:LOB):Nat->LB0->LRu->LRu->jS
 | 0,wo,us,rest=>(wo,us,rest,)
 |k+1,wo,us,rest=>if us.length<(dW es wo us rest).2.1.length/\(dW es wo us rest).1.any id=ac then nR es k (dW es wo us rest).1 (dW es wo us rest).2.1 (dW es wo us rest).2.2 else dW es wo us rest
def ci(es:LOB)(ms:LRu):jS:=nR es (ms.length+1) (jx es) [] ms
structure L3(es:LOB)(ms:LRu)(a:jS)(q:LRu):Prop where
 len:a.1.length=es.length
 pe:kO ms es (jx es) a.1
 us:∀r∈a.2.1,a.1.getD r.hd.toNat af=af
 pm:(a.2.1++a.2.2++q).Perm ms
variable{ms:LRu}
def L3.step{a:jS}{q:LRu}(h:L3 es ms a (r::q))(c:∀r∈ms,r.w≠.never):L3 es ms (bX es a r) q:=by
 have hr:r∈ms:=h.pm.mem_iff.mp (by simp);unfold bX
 by_cases b:iP es a.1 r=ac
 .rw[if_pos b];show(by rw[iy];show h.len,.step h.pe hr ?_,λx d=>?_,?_)
  .unfold hup;rw[Jl (c r hr),qz];show b
  .change(a.1.set r.hd.toNat af).getD _ af=af;rw[vU]
   rcases bv.mp d with z |z
   .rw[h.us x z];rfl
   .grind
  .show List.Perm.trans ?_ h.pm;rw[cJ,cJ,cJ];show w9 _ ?_;change(r::(a.2.2++q)).Perm _;show perm_middle.symm
 .rw[if_neg b];show(h.len,h.pe,h.us,?_);have:a.2.1++(a.2.2++[r])++q=a.2.1++a.2.2++r::q:=by simp
  rw[this];show h.pm
def L3.fold{es:LOB}{ms:LRu}(b:∀r∈ms,r.w≠.never):∀{q:LRu} {a:jS},L3 es ms a q->L3 es ms (q.foldl (bX es) a) []
 | [],_,h=>h
 |r::q,a,h=>L3.fold (a:=bX es a r) b (h.step b)
def sQ{es:LOB}:∀(q:LRu) (a:jS),(q.foldl (bX es) a).2.1.length+(q.foldl (bX es) a).2.2.length=a.2.1.length+a.2.2.length+q.length/\a.2.1.length<=(q.foldl (bX es) a).2.1.length
 | [],a=>(by simp,aL _)
 |r::q,a=>by
  have(b,h2):=sQ q _;rw[fI,b];unfold bX at *
  grind
def Jo{es:LOB}:∀(q:LRu) (a:jS),(q.foldl (bX es) a).2.1.length=a.2.1.length->(q.foldl (bX es) a).1=a.1/\(q.foldl (bX es) a).2.2=a.2.2++q/\∀r∈q,iP es a.1 r=af
 | [],a,_=>⟨rfl,(bN _).symm,λ_ h=>nomatch h⟩
 |r::q,a,h=>by
  rw[fI]at h ⊢;have h2:=(sQ (es:=es) q (bX es a r)).2
  by_cases b:iP es a.1 r=ac
  .exfalso;have e:bX es a r=(a.1.set r.hd.toNat af,a.2.1++[r],a.2.2,):=by unfold bX;rw[if_pos b]
   grind
  .have e:bX es a r=(a.1,a.2.1,a.2.2++[r],):=by unfold bX;rw[if_neg b]
   rw[e]at h ⊢;have(c,d,f):=Jo q _ h
   grind
def U6{bs:LB0}(h:bs.any id=af)(i:Nat):bs.getD i af=af:=by
 rw[bK]
 cases e:bs[i]? with
 |none=>rfl
 |some b=>
  cases b with
  |false=>rfl
  |true=>rw[any_eq_true.mpr (ac,dP e,rfl)]at h;nomatch h
def Jp{es:LOB}{ms:LRu}(d:∀r∈ms,r.w≠.never):∀(k:Nat) (wo:LB0) (us rest:LRu),L3 es ms (wo,us,[],) rest->rest.length<k->L3 es ms (nR es k wo us rest) []/\∀r∈ms,iP es (nR es k wo us rest).1 r=af
 | 0,_,_,_,_,h=>absurd h (g9 _)
 |k+1,wo,us,rest,h,hk=>by
  have a:=L3.fold d h;have c:=sQ (es:=es) rest (wo,us,[],);unfold nR;split
  .rename_i f;show Jp d k _ _ _ (a.len,a.pe,a.us,?_) ?_
   .have:=a.pm;rw[bN]at this ⊢;show this
   .have:(dW es wo us rest).2.1.length+(dW es wo us rest).2.2.length=us.length+0+rest.length:=c.1;lia
  .rename_i f;show(a,λr hr=>?_)
   cases ha:(dW es wo us rest).1.any id with
   |false=>unfold iP;rw[U6 ha];rfl
   |true=>
    have e:(dW es wo us rest).2.1.length=us.length:=by
     have:us.length<=(dW es wo us rest).2.1.length:=c.2
     grind
    have(b,g,i):=Jo rest _ e;have b:(dW es wo us rest).1=wo:=b
    rcases bv.mp (h.pm.mem_iff.mpr hr)with z |z
    .rw[bN]at z;rw[b];unfold iP;rw[h.us r z];rfl
    .grind
def Js(a:∀r∈ms,r.w≠.never):L3 es ms (ci es ms) []/\∀r∈ms,iP es (ci es ms).1 r=af:=
 Jp a _ _ _ _ (by unfold jx;rw[aA],.refl,(λ_ h=>nomatch h),by simp) (c8 _)
def U7{x:O}(h:s.tl.length<900):s.o.setF "Seeking" "makers" x=aa (iO s.tl [lsO (s.es.map shD),lsO s.st,lsO s.bs,.dT s.gk (s.gd.map .fz),wsO s.ws,lsO s.wt,x]):=by
 change(if _/\(spN++s.tl.map (·.1)).length<1000 then _ else ab)=_;rw[if_pos (rfl,by rw[aR,aA];change 7+_<_;lia)];rfl
def U8(x:s.tl.length<900)(hm:s.mks=.lst (ms.map mkD))(I:s.es.length<=60)(hok:∀r∈ms,r.Ok s.es.length)(Q:∀r∈ms,r.w≠.never)(hz:ms.length<=1000):
  C6 l [] s.o=aa (({s with mks:=.lst (((ci s.es ms).2.1++(ci s.es ms).2.2).map mkD)}:Spr).o,.lst ((ci s.es ms).1.map D.bl),):=by
 have v:(jx s.es).length=s.es.length:=by unfold jx;rw[aA]
 apply fF;apply am;show d4 (U4 (sJ jR) (by lia)) ?_;walk_at "nrm";apply am;show d4 rfl ?_;walk_at "nrm";apply am;show bp ((kM UH).trans (by rw[hm])) ?_;walk_at "nrm";apply am;show bp rfl ?_;walk_at "nrm";apply am;show rP (λm M=>∃(wo:LB0) (us rest:LRu) (g:Bool) (E G e:Sl),M=[.deep _,.own (wo.map D.bl),.own (us.map mkD),.im (.lst (rest.map mkD)),.im (.bl g),E,G,e]/\wo.length=s.es.length/\(us++rest).Perm ms/\(g=ac->nR s.es m wo us rest=ci s.es ms/\rest.length<m)/\(g=af->(wo,us,rest,)=ci s.es ms)) ?_ _ _ _ ⟨jx s.es,[],ms,ac,_,_,_,rfl,v,tQ _,λ_=>(rfl,c8 _),λz=>by nomatch z⟩ (by lia)
 .rintro m M ⟨wo,us,rest,g,E,G,e,rfl,B,c,L,J⟩;show(g,rfl,?_,?_)
  .rintro rfl;have(f,u):=L rfl;have y:us.length+rest.length=ms.length:=by have:=c.length_eq;rw[aR]at this;show this
   apply am;show bp (aG rfl (fX us mkD)) ?_;walk_at "nrm";apply am;show d4 rfl ?_;walk_at "nrm";apply am;show dH rest mkD (λpre M=>∃e,M=[.deep _,.own ((pre.foldl (bX s.es) (wo,us,[],)).1.map D.bl),.own ((pre.foldl (bX s.es) (wo,us,[],)).2.1.map mkD),.im _,.im _,.im _,.own ((pre.foldl (bX s.es) (wo,us,[],)).2.2.map mkD),e]/\(pre.foldl (bX s.es) (wo,us,[],)).1.length=s.es.length) rfl (_,rfl,B) ?_ ?_
   .rintro pre r post M ex ⟨e,rfl,b⟩;have j:r∈ms:=c.mem_iff.mp (by rw[ex];simp);have hr:=hok r j;have(C,U):=hr.hd (Q r j);have N:pre.length<rest.length:=by rw[ex];simp
    have i:(pre.foldl _ (wo,us,[],)).2.1.length+(pre.foldl _ (wo,us,[],)).2.2.length=us.length+0+pre.length:=(sQ (es:=s.es) pre _).1;generalize h:pre.foldl _ _=A at *;show(_,rfl,?_);walk_at "nrm"
    have x:(dF (bM (mIx (av 1) (mIx (av 7) (kI 0)))) (mB (m2 dIs (aw m_6 (ag (mIx (av 7) (kI 1)) (ag (pB (aU "Seeking" "sheet" (aH 0))) (ag (cO 1) nZ)))) kN))) [.deep (.at l s.o),.own (A.1.map D.bl),.own (A.2.1.map mkD),.im (.lst (rest.map mkD)),.im (.bl ac),.im (.int us.length),.own (A.2.2.map mkD),.im (mkD r)]=aa (iP s.es A.1 r):=by
     unfold iP;rw[<- Dr];show jL (df (ba rfl (ba rfl rfl rfl) (jM C (by lia))) rfl) (bC (ap (aG (ao (ba rfl rfl rfl) (ao (jt jR) (ao rfl rfl))) (Do r.ps hr.ps b)) rfl (U5 _)))
    show bc x (λz=>?_) (λz=>?_)
    .apply am;show pK rfl (ba rfl rfl rfl) rfl C (by rw[aA];lia) ?_;walk_at "nrm";show gN rfl rfl (by rw[aA];lia) ?_;show(.im (mkD r),?_,?_)
     .rw[eI,h];change _=[_,Sl.own ((bX s.es A r).1.map D.bl),.own ((bX s.es A r).2.1.map mkD),_,_,_,.own ((bX s.es A r).2.2.map mkD),_];unfold bX;rw[if_pos z,<- U3,bd];rfl
     .rw[eI,h];change(bX s.es A r).1.length=_;unfold bX;rw[if_pos z,iy];show b
    .show gN rfl rfl (by rw[aA];lia) ?_;have H:¬iP s.es A.1 r=ac:=by rw[z];show bJ
     show(.im (mkD r),?_,?_)
     .rw[eI,h];change _=[_,Sl.own ((bX s.es A r).1.map D.bl),.own ((bX s.es A r).2.1.map mkD),_,_,_,.own ((bX s.es A r).2.2.map mkD),_];unfold bX;rw[if_neg H,bd];rfl
     .rw[eI,h];change(bX s.es A r).1.length=_;unfold bX;rw[if_neg H];show b
   .rintro M ⟨e,rfl,b⟩;have i:(dW s.es wo us rest).2.1.length+(dW s.es wo us rest).2.2.length=us.length+0+rest.length:=(sQ rest _).1;change wp _ [.deep _,.own ((dW s.es wo us rest).1.map D.bl),.own ((dW s.es wo us rest).2.1.map mkD),.im _,.im _,.im _,.own ((dW s.es wo us rest).2.2.map mkD),e] _;replace b:(dW s.es wo us rest).1.length=s.es.length:=b
    have d:((dW s.es wo us rest).2.1++(dW s.es wo us rest).2.2).Perm ms:=by
     have gen:∀(q:LRu) a,((q.foldl (bX s.es) a).2.1++(q.foldl (bX s.es) a).2.2).Perm (a.2.1++a.2.2++q):=by
      intro q
      induction q with
      |nil=>intro a;simp
      |cons r q T=>
       intro a;show(T _).trans ?_;unfold bX;split
       .change(a.2.1++[r]++a.2.2++q).Perm _;rw[cJ,cJ,cJ];show w9 _ ?_;change(r::(a.2.2++q)).Perm _;show perm_middle.symm
       .change(a.2.1++_++q).Perm _;rw[show a.2.1++_++q=a.2.1++a.2.2++r::q by simp]
     show(gen rest _).trans ?_;rw[bN];show c
    cases m with
    |zero=>show absurd u (g9 _)
    |succ m=>
     unfold nR at f;generalize h:dW s.es wo us rest=A at *;apply am;show bp rfl ?_;walk_at "nrm";show bp (uU (ap (aG rfl (fX A.2.1 mkD)) rfl lO) (aG rfl (Pd A.1))) ?_
     by_cases n:us.length<A.2.1.length/\A.1.any id=ac
     .rw[if_pos n]at f;have p:(decide ((us.length:Int)<A.2.1.length) && A.1.any id)=ac:=by rw[n.2,decide_eq_true (by lia)];rfl
      rw[p];show⟨m,c8 _,A.1,A.2.1,A.2.2,ac,_,_,_,rfl,b,d,λ_=>(f,by lia),λz=>by nomatch z⟩
     .rw[if_neg n]at f
      have p:(decide ((us.length:Int)<A.2.1.length) && A.1.any id)=af:=by
       cases ha:A.1.any id with
       |false=>show tI _
       |true=>
        have:¬us.length<A.2.1.length:=λq=>n (q,ha);rw[decide_eq_false (by lia)];rfl
      rw[p];show(0,ou _,A.1,A.2.1,A.2.2,af,_,_,_,rfl,b,d,(λz=>by nomatch z),λ_=>f)
  .rintro rfl;have y:us.length+rest.length=ms.length:=by have:=c.length_eq;rw[aR]at this;show this
   rw[<- (J rfl)];apply am;show gT (sL (bW (IU rfl rfl (by rw[aA,aA];lia)))) rfl (U7 x) ?_;rw[<- bd];show ju rfl (_,rfl,rfl,rfl)
def prD(z:Int×Bool):D:=.tup [.int z.1,.bl z.2]
def Ds(es:LOB)(t:Int):dIs (shD (es.getD t.toNat ab)) .non=aa (.bl (opn es t)):=by
 unfold opn
 cases es.getD t.toNat ab with
 |none=>rfl
 |some b=>cases b <;> rfl
def wt(L:LII)(j:Int):Int:=((L.filter λz=>z.1==j).map (·.2)).sum
def kW(W:LII):List Key:=W.map λz=>.inl z.1
def xW(W:LII):LD:=W.map λz=>.int z.2
def nU(W:LII)(j:Int):Int:=((W.find? λz=>z.1==j).map (·.2)).getD 0
def upW(W:LII)(j v:Int):LII:=if W.any (λz=>z.1==j) then W.map (λz=>if z.1=j then (z.1,v,) else z) else W++[(j,v,)]
def Jt(W:LII)(j:Int):gh (kW W) (.inl j)=W.any λz=>z.1==j:=by
 unfold gh kW;rw[any_map]
 congr 1
 funext z;show iU.mpr (by simp)
def U9(W:LII)(j v:Int):il (kW W) (.inl j)=kW (upW W j v):=by
 unfold il upW;rw[Jt];split
 .unfold kW;rw[map_map];show map_congr_left λz _=>?_;change _=iD (if z.1=j then _ else z).1
  split <;> rfl
 .unfold kW;rw[bd];rfl
def Va(W:LII)(j v:Int):iL (kW W) (xW W) (.inl j) (.int v)=xW (upW W j v):=by
 unfold iL upW;rw[Jt];split
 .rename_i a;clear a;unfold kW xW
  induction W with
  |nil=>rfl
  |cons z W b=>
   simp only[bD,bD,tO,b,bD,bD]
   congr 1
   by_cases h:z.1=j
   .rw[if_pos (by rw[h]),if_pos h]
   .rw[if_neg λq=>h (ub q),if_neg h]
 .unfold xW;rw[bd];rfl
def Ju(W:LII)(j:Int):gQ (kW W) (xW W) (.inl j)=(W.find? λz=>z.1==j).map λz=>D.int z.2:=by
 unfold gQ kW xW
 induction W with
 |nil=>rfl
 |cons z W a=>
  grind
def Jv(W:LII)(j:Int):(gQ (kW W) (xW W) (.inl j)).getD (.int 0)=.int (nU W j):=by
 rw[Ju];unfold nU
 cases (W.find? λz=>z.1==j) <;> rfl
def vV(W:LII)(z:Int×Int):LII:=upW W z.1 (nU W z.1+z.2)
def wts(L:LII):LII:=L.foldl vV []
structure WOk(W L:LII):Prop where
 nd:(W.map (·.1)).Nodup
 ks:∀j,j∈W.map (·.1)↔j∈L.map (·.1)
 vs:∀z∈W,z.2=wt L z.1
 ln:W.length<=L.length
def Jw(L:LII)(z:Int×Int)(j:Int):wt (L++[z]) j=wt L j+if z.1=j then z.2 else 0:=by
 unfold wt;rw[jY,bd,sum_append]
 congr 1
 by_cases h:z.1=j
 .rw[if_pos h,qB (by simp[h])];simp
 .rw[if_neg h,filter_cons_of_neg (by simp[h])];rfl
def Dt{j:Int}(h:j∉L.map (·.1)):wt L j=0:=by
 unfold wt
 rw[filter_eq_nil_iff.mpr λz hz=>by
  simp only[beq_iff_eq]
  grind]
 rfl
def WOk.get{W L:LII}(h:WOk W L)(j:Int):nU W j=wt L j:=by
 unfold nU
 cases e:W.find? _ with
 |none=>
  have hn:j∉W.map (·.1):=λq=>by
   grind
  rw[Dt λq=>hn ((h.ks j).mpr q)]
  rfl
 |some z=>
  have a:z.1=j:=by grind
  change z.2=_;rw[h.vs z (wX e),a]
def WOk.step{W L:LII}(h:WOk W L)(z:Int×Int):WOk (vV W z) (L++[z]):=by
 unfold vV upW;rw[h.get]
 by_cases d:W.any (λy=>y.1==z.1)=ac
 .rw[if_pos d]
  have f:(W.map λy=>if y.1=z.1 then (y.1,wt L z.1+z.2,) else y).map (·.1)=W.map (·.1):=by
   rw[map_map];show map_congr_left λy _=>?_;change(if y.1=z.1 then _ else y).1=_
   split <;> rfl
  show(by rw[f];show h.nd,λj=>?_,λy c=>?_,by rw[aA,aR];have:=h.ln;lia)
  .rw[f,h.ks j,bd,bv];show(.inl,λq=>q.elim id λq=>?_);have(y,c,e):=any_eq_true.mp d;have g:j=z.1:=by simpa using q
   rw[g,<- (beq_iff_eq.mp e)];show(h.ks _).mp (aJ.mpr (y,c,rfl))
  .have(x,l,ex):=aJ.mp c;rw[Jw]
   by_cases e:x.1=z.1
   .rw[if_pos e]at ex;rw[<- ex,if_pos e.symm,e]
   .rw[if_neg e]at ex;rw[<- ex,if_neg λq=>e q.symm,h.vs x l]
    lia
 .rw[if_neg d]
  have hn : z.1∉W.map (·.1):=λq=>d (by
   have(y,c,e):=aJ.mp q;show any_eq_true.mpr (y,c,by simp[e]))
  show(?_,λj=>?_,λy c=>?_,by rw[aR,aR];have:=h.ln;change _+1<=_+1;lia)
  .rw[bd];show fh.mpr (h.nd,by simp,λa ha b i=>?_);have:b=z.1:=by simpa using i
   rw[this];show λq=>hn (q▸ha)
  .rw[bd,bd,bv,bv,h.ks j];rfl
  .rw[Jw]
   rcases bv.mp c with q |q
   .have ne:z.1≠y.1:=λe=>hn (e▸aJ.mpr (y,q,rfl));rw[if_neg ne,h.vs y q]
    lia
   .have:y=(z.1,wt L z.1+z.2,):=by simpa using q
    rw[this,if_pos rfl]
def qj(L:LII):WOk (wts L) L:=by
 have go:∀(post pre W:List _),WOk W pre->WOk (post.foldl vV W) (pre++post):=by
  intro post
  induction post with
  |nil=>intro pre W h;rw[bN];show h
  |cons z post a=>
   intro pre W h;have:=a _ _ (h.step z);rw[cJ]at this;show this
 show go L [] [] (fJ,λ_=>Iff.rfl,λz h=>(dA h).elim,aL _)
def Jx(L:LII)(g:L.length<=100000):vJ [.lst (L.map itD)]=aa (.kd (kW (wts L)) (xW (wts L))):=by
 apply jN;apply am;show G3 rfl ?_;apply am;show dH L itD (λpre M=>∃a b,M=[.im _,.ownd (kW (wts pre)) (xW (wts pre)),a,b]) rfl (_,_,rfl) ?_ ?_
 .rintro pre z post M e ⟨a,b,rfl⟩;show(_,rfl,?_);change wp _ [.im _,.ownd _ _,.im _,.im _] _;have h:pre.length<=L.length:=by rw[e,aR];lia
  have f:=(qj pre).ln
  have d:wts (pre++[z])=upW (wts pre) z.1 (nU (wts pre) z.1+z.2):=by
   unfold wts;rw[eI];rfl
  rw[d];generalize wts pre=W at f
  have c:pR 1 (ae 2) (kI 0) [.im (.lst (L.map itD)),.ownd (kW W) (xW W),.im (.int z.1),.im (.int z.2)]=aa (.int (nU W z.1)):=by
   change aa ((gQ _ _ _).getD _)=_;rw[Jv]
  show G3 (o:=.nx [.im _,.ownd _ _,.im (.int z.1),.im (.int z.2)]) ?_ (_,_,rfl);unfold jm;rw[ap c rfl eB,ax];change(if (kW W).length<16777216 then aa (Fl.nx [.im _,.ownd _ _,.im _,.im _]) else ab)=_;rw[if_pos (by unfold kW;rw[aA];lia),U9 W z.1 _,Va]
 .rintro M ⟨a,b,rfl⟩;show gj rfl (gm rfl)
def opI(es:LOB)(L:LII):LII:=L.filter λz=>opn es z.1
def hv(es:LOB)(L:LII)(lack:Int):LI0:=((wts (opI es L)).filter λz=>decide (z.2≥lack)).map (·.1)
def Jy(h:InN es.length L)(d:L.length<=100000)(lack:Int):vN [.lst (L.map itD),.lst (es.map shD),.int lack]=aa (.lst ((hv es L lack).map D.int)):=by
 have c:(opI es L).length<=L.length:=gy _ _;have ok:=qj (opI es L);have b:=ok.ln;apply jN;apply am;show bp (aG (ao (bW (ds:=(opI es L).map itD) ?_) rfl) (Jx _ (by lia))) ?_
 .show d9 L itD _ itD rfl (by lia) λz hz=>?_;have a:=h z hz;show dG rfl (bC (ap (ba rfl (ba rfl rfl rfl) (ji a.1 a.2.1)) rfl (Ds es z.1))) λ_=>rfl
 generalize hW:wts _=W at ok b;show jp ?_ (jO rfl);unfold hv;rw[hW,map_map];show d9 W (λz=>D.int z.1) _ _ ?_ (by lia) λz hz=>?_
 .change aa _=_;unfold kW;rw[map_map];rfl
 .show dG rfl (bC (ap ?_ rfl G5)) λ_=>rfl;change gQ _ _ _=_;rw[Ju,HF W ok.nd z hz];rfl
abbrev tps(es:LOB):Prt->List (Int×Bool)
 |.inn t=>if opn es t then [(t,ac,)] else []
 |.out t=>if opn es t then [(t,af,)] else []
 |.least k L=>(hv es L (k-cF (·==aa ac) es L)).map λt=>(t,ac,)
 |.most k L=>(hv es L (cF (λe=>!(e==aa af)) es L-k)).map λt=>(t,af,)
def vW(lack:Int):(hv es L lack).length<=L.length:=by
 unfold hv;rw[aA];have a:=gy (λz:Int×Int=>decide (z.2≥lack)) (wts (opI es L));have h2:=(qj (opI es L)).ln;have b:(opI es L).length<=L.length:=gy _ _
 lia
def Vb(p:Prt)(h:p.Ok es.length)(a:fo M=aa p.obj)(ha:fa M=aa [.lst (es.map shD)]):
  bh (aN "In" "tips" CF fo fa) (bh (aN "Out" "tips" CT fo fa) (bh (aN "Least" "tips" CK fo fa) (aN "Most" "tips" CO fo fa))) M=aa (.lst ((tps es p).map prD)):=by
 cases p with
 |inn t=>
  show dM ((cz a rfl ha).trans (cQ (cP (lL (bC (ap (ba rfl rfl (ji h.1 h.2)) rfl (Ds es t))) (λe=>?_) λe=>?_))))
  .change _=aa (D.lst ((if opn es t then _ else []).map prD));rw[if_pos e];rfl
  .change _=aa (D.lst ((if opn es t then _ else []).map prD));rw[if_neg (by grind)]
   rfl
 |out t=>
  show bF (bG a (by decide)) (dM ((cz a rfl ha).trans (cQ (cP (lL (bC (ap (ba rfl rfl (ji h.1 h.2)) rfl (Ds es t))) (λe=>?_) λe=>?_)))))
  .change _=aa (D.lst ((if opn es t then _ else []).map prD));rw[if_pos e];rfl
  .change _=aa (D.lst ((if opn es t then _ else []).map prD));rw[if_neg (by grind)]
   rfl
 |least k L=>
  have b:=vW (es:=es) (L:=L) (k-cF (·==aa ac) es L);have h2:=h.2;show bF (bG a (by decide)) (bF (bG a (by decide)) (dM ((cz a rfl ha).trans ?_)));apply jN;apply am;show bp (ap rfl (aG rfl (Dc h.1 h.2)) lN) ?_;show jp ?_ (jO rfl);change _=aa (((hv es L _).map λt=>_).map prD);rw[map_map]
  show gM _ D.int _ (fD (aG rfl (Jy h.1 h.2 _)) rfl) (by lia) λt _=>fV rfl rfl rfl
 |most k L=>
  have b:=vW (es:=es) (L:=L) (cF (λe=>!(e==aa af)) es L-k);have h2:=h.2;show bF (bG a (by decide)) (bF (bG a (by decide)) (bF (bG a (by decide)) ((cz a rfl ha).trans ?_)));apply jN;apply am;show bp (ap (aG rfl (Dd h.1 h.2)) rfl lN) ?_;show jp ?_ (jO rfl);change _=aa (((hv es L _).map λt=>_).map prD);rw[map_map];show gM _ D.int _ (fD (aG rfl (Jy h.1 h.2 _)) rfl) (by lia) λt _=>fV rfl rfl rfl
abbrev neg(z:Int×Bool):Int×Bool:=(z.1,!z.2,)
abbrev pnx(es:LOB)(p:Prt):Option (List (Int×Bool))->List (Int×Bool)
 |none=>tps es p
 |some l=>l.filter λz=>decide (z∈tps es p)
abbrev pst(es:LOB)(a:Option (List (Int×Bool)))(p:Prt):Option (List (Int×Bool)):=if p.sure es then a else aa (pnx es p a)
abbrev sR:Option (List (Int×Bool))->D
 |none=>.non
 |some l=>.lst (l.map prD)
def Jz(es:LOB):∀G:List Prt,G.foldl (pst es) (aa [])=aa []
 | []=>rfl
 |p::G=>by
  have:pst es (aa []) p=aa []:=by unfold pst;split <;> rfl
  rw[fI,this];show Jz es G
def Vc(h:p.Ok es.length):(tps es p).length<=100000:=by
 cases p with
 |inn t=>
  change(if opn es t then _ else []).length<=100000;split
  .show(by decide:1<=100000)
  .show ce _
 |out t=>
  change(if opn es t then _ else []).length<=100000;split
  .show(by decide:1<=100000)
  .show ce _
 |least k L=>unfold tps;rw[aA];show cS (vW _) h.2
 |most k L=>unfold tps;rw[aA];show cS (vW _) h.2
def JA(x:Int×Bool)(l:List (Int×Bool)):fW (prD x) (.lst (l.map prD))=aa (.bl (decide (x∈l))):=by
 have e:∀l:List _,du (prD x) (l.map prD)=aa (decide (x∈l)):=by
  intro l
  induction l with
  |nil=>rfl
  |cons z l a=>
   change((deq 19 _ _).bind λb=>(du _ _).map λr=>b || r)=_;rw[show deq 19 _ _=aa (z.1==x.1 && (z.2==x.2 && ac))from rfl,a];change aa _=_
   congr 1
   grind
 change((du _ _).map D.bl)=_
 grind
abbrev JB:Option (List (Int×Bool))->LD ⊕ D
 |none=>.inr .non
 |some l=>.inl (l.map prD)
abbrev prs(G:List Prt)(es:LOB):Option (List (Int×Bool)):=(G.foldl (pst es) ab).map λl=>l.map neg
abbrev kRN(x:LD ⊕ D):Fl->Prop
 |.rtO ds=>x=.inl ds
 |.rt d=>d.scalar=ac/\x=.inr d
 | _=>False
def Vd{F:MF3}{x:LD ⊕ D}(h:wp F (eU N ds) (kRN x)):zK N F ds=aa x:=by
 have(r,e,q):=h;change(F _).bind HY=aa x;rw[e,ax]
 cases r with
 |rtO us=>rw[show x=.inl us from q];rfl
 |rt d=>
  have(a,b):=q;rw[b]
  show if_pos a
 | _=>show q.elim
def Ve(G:List Prt)(x:∀p∈G,p.Ok es.length):CV [.lst (G.map Prt.obj),.lst (es.map shD)]=aa (JB (prs G es)):=by
 apply Vd;generalize m:D.lst _=q;apply am;show bp rfl ?_;apply am;show dH G Prt.obj (λpre M=>∃h i,M=[.im q,.im _,.im (sR (pre.foldl (pst es) ab)),h,i]/\∀l,pre.foldl (pst es) ab=aa l->l.length<=100000) (by subst m;rfl) ⟨_,_,rfl,λl e=>by nomatch e⟩ ?_ ?_
 .rintro pre p post M u ⟨h,i,rfl,c⟩;have n:=x p (by rw[u];simp);have b:G.foldl (pst es) ab=post.foldl (pst es) (pst es (pre.foldl (pst es) ab) p):=by rw[u,eI,fI]
  rw[eI,fI,foldl_nil];generalize pre.foldl _ ab=a at c b;show(_,rfl,?_);show bc (m9 (df (UF p n rfl rfl) rfl)) (λe=>?_) λe=>b9 ?_
  .rw[Bool.not_eq_true']at e;have f:pst es a p=aa (pnx es p a):=by unfold pst;rw[if_neg (by rw[e];show bJ)]
   apply am;show bp (Vb p n rfl rfl) ?_;apply am
   have v:(vIf (mB (m2 dIs (ae 2) kN)) (ae 4) (aP (bn 1 [4] (aV (ae 2)) (ay 0) (mB (m2 fW (ae 0) (ae 1))) (ae 0)))) [.im q,.im (.lst (es.map shD)),.im (sR a),.im p.obj,.im (.lst ((tps es p).map prD))]=aa (sR (pst es a p))/\∀l,pst es a p=aa l->l.length<=100000:=by
    rw[f]
    cases a with
    |none=>show(rfl,λl e=>by cases e;show(Vc n))
    |some w=>
     have r:=c w rfl;show(lL rfl (λe=>by nomatch e) λ_=>bW (d9 w prD _ prD rfl (by lia) λz _=>dG rfl (bC (ap rfl rfl (JA z _))) λ_=>rfl),λl e=>?_);cases e;show cS (gy _ _) r
   show bp v.1 ?_;obtain⟨g,j⟩:∃g,pst es a p=aa g:=(_,f);have d:=v.2;rw[j]at b d ⊢
   cases g with
   |nil=>
    show bc rfl (λ_=>?_) λe=>by nomatch e
    show jp rfl (?_);unfold prs;rw[b,Jz]
    rfl
   |cons z g=>
    show bc rfl (λe=>by nomatch e) λ_=>b9 (_,_,rfl,d)
  .rw[Bool.not_eq_false']at e;have f:pst es a p=a:=by unfold pst;rw[if_pos e]
   rw[f];show(_,_,rfl,c)
 .rintro M ⟨h,i,rfl,c⟩;unfold prs;generalize G.foldl _ ab=a at c;apply am
  cases a with
  |none=>
   show bc rfl (λ_=>(gj rfl (rfl,rfl))) λe=>by nomatch e
  |some l=>
   have r:=c l rfl;show bc rfl (λe=>by nomatch e) λ_=>b9 ?_;show jp ?_ rfl;rw[map_map];show gM l prD _ rfl (by lia) λz _=>fV rfl rfl rfl
def iQ(h:opn es t=ac):es.getD t.toNat ab=ab:=by simpa[opn]using h
def JC(h:opn es t=ac):wt (opI es L) t=wt L t:=by
 unfold wt opI;rw[filter_filter]
 grind
def vX{lack:Int}:t∈hv es L lack↔opn es t=ac/\t∈L.map (·.1)/\wt L t≥lack:=by
 have ok:=qj (opI es L);constructor
 .intro h;have(z,hz,rfl):=aJ.mp h;have(b,h2):=cw.mp hz;have h2:=of_decide_eq_true h2;have(y,c,a):=aJ.mp ((ok.ks z.1).mp (aJ.mpr (z,b,rfl)));have(g,d):=cw.mp c;rw[a]at d;show(d,aJ.mpr (y,g,a),?_);rw[<- JC d,<- ok.vs z b];show h2
 .rintro⟨b,h2,f⟩;have(y,c,a):=aJ.mp h2;have(z,hz,e):=aJ.mp ((ok.ks t).mpr (aJ.mpr (y,cw.mpr (c,by rw[a];show b),a)));show aJ.mpr (z,cw.mpr (hz,decide_eq_true ?_),e);rw[ok.vs z hz,e,JC b];show f
def JD(es:LOB)(L:LII)(lack:Int):(hv es L lack).Nodup:=by
 unfold hv;show w5 ((oi (p:=λz:Int×Int=>decide _)).map (·.1)) (qj _).nd
def Du(z:Int×Int)(L:LII)(t:Int):wt (z::L) t=(if z.1=t then z.2 else 0)+wt L t:=by
 unfold wt
 grind
def vY(q:Option Bool->Bool)(es:LOB)(z:Int×Int)(L:LII):cF q es (z::L)=(if q (es.getD z.1.toNat ab) then z.2 else 0)+cF q es L:=by
 unfold cF
 grind
def Dv(h:InN n L)(t:Int):0<=wt L t:=by
 induction L with
 |nil=>show Int.le_refl _
 |cons z L b=>
  have c:=h z az;have h2:=b λy a=>h y (bi _ a);rw[Du]
  grind
def lK{j:Int}{b:Bool}(t0:0<=t)(t1:t<(es.length:Int))(a:0<=j):(put es t.toNat b).getD j.toNat ab=if j=t then aa b else es.getD j.toNat ab:=by
 by_cases e:j=t
 .rw[if_pos e,e];show eV es b (by lia)
 .rw[if_neg e];show c7 es b (by lia)
def vZ(h:InN es.length L)(t0:0<=t)(t1:t<(es.length:Int))(a:opn es t=ac)(b:Bool):cF (·==aa ac) (put es t.toNat b) L=cF (·==aa ac) es L+if b then wt L t else 0:=by
 induction L with
 |nil=>cases b <;> rfl
 |cons z L d=>
  rw[vY,vY,Du,(d λy c=>h y (bi _ c)),lK t0 t1 (h z az).1]
  by_cases e:z.1=t
  .rw[if_pos e,if_pos e,e,iQ a]
   cases b with
   |true=>
    change z.2+(cF _ es L+wt L t)=0+cF _ es L+(z.2+wt L t)
    lia
   |false=>
    change 0+(cF _ es L+0)=0+cF _ es L+0
    lia
  .rw[if_neg e,if_neg e]
   split <;> split <;> lia
def v8(h:InN es.length L)(t0:0<=t)(t1:t<(es.length:Int))(a:opn es t=ac)(b:Bool):cF (λe=>!(e==aa af)) (put es t.toNat b) L=cF (λe=>!(e==aa af)) es L-if b then 0 else wt L t:=by
 induction L with
 |nil=>cases b <;> rfl
 |cons z L d=>
  rw[vY,vY,Du,(d λy c=>h y (bi _ c)),lK t0 t1 (h z az).1]
  by_cases e:z.1=t
  .rw[if_pos e,if_pos e,e,iQ a]
   cases b with
   |true=>
    change z.2+(cF _ es L-0)=z.2+cF _ es L-0
    lia
   |false=>
    change 0+(cF _ es L-wt L t)=z.2+cF _ es L-(z.2+wt L t)
    lia
  .rw[if_neg e,if_neg e]
   split <;> split <;> lia
def Dx(i:p.Ok es.length)(d:p.sure es=af)(t:Int)(b:Bool):(t,b,)∈tps es p↔(0<=t/\t<(es.length:Int))/\opn es t=ac/\p.sure (put es t.toNat b)=ac:=by
 cases p with
 |inn t0=>
  have(f,g):=i;change _∈(if opn es t0 then _ else [])↔_
  have es':0<=t->t<_->(Prt.sure _ (.inn t0)=ac↔(if t0=t then aa b else es.getD t0.toNat ab)=aa ac):=λx y=>by
   rw[<- lK x y f];show beq_iff_eq
  have d:¬es.getD t0.toNat ab=aa ac:=λq=>by
   have:(es.getD t0.toNat ab==aa ac)=af:=d;rw[q]at this;show absurd this (by decide)
  constructor
  .intro h;split at h
   .rename_i c;have:(t,b,)=(t0,ac,):=by simpa using h
    cases this;show((f,g),c,(es' f g).mpr (if_pos rfl))
   .nomatch h
  .rintro⟨⟨x,y⟩,c,a⟩;have a:=(es' x y).mp a
   by_cases e:t0=t
   .rw[if_pos e]at a;cases a;rw[e,if_pos c];show az
   .rw[if_neg e]at a
    show absurd a d
 |out t0=>
  have(f,g):=i;change _∈(if opn es t0 then _ else [])↔_
  have es':0<=t->t<_->(Prt.sure _ (.out t0)=ac↔(if t0=t then aa b else es.getD t0.toNat ab)=aa af):=λx y=>by
   rw[<- lK x y f];show beq_iff_eq
  have d:¬es.getD t0.toNat ab=aa af:=λq=>by
   have:(es.getD t0.toNat ab==aa af)=af:=d;rw[q]at this;show absurd this (by decide)
  constructor
  .intro h;split at h
   .rename_i c;have:(t,b,)=(t0,af,):=by simpa using h
    cases this;show((f,g),c,(es' f g).mpr (if_pos rfl))
   .nomatch h
  .rintro⟨⟨x,y⟩,c,a⟩;have a:=(es' x y).mp a
   by_cases e:t0=t
   .rw[if_pos e]at a;cases a;rw[e,if_pos c];show az
   .rw[if_neg e]at a
    show absurd a d
 |least k L=>
  have hi:=i.1;have d:=of_decide_eq_false d;change _∈(hv es L _).map _↔(_/\_/\decide _=ac);rw[decide_eq_true_iff];constructor
  .intro h;have(u,hm,e):=aJ.mp h;cases e;have(c,hn,l):=vX.mp hm;have(z,hz,j):=aJ.mp hn;have hr:=hi z hz;rw[j]at hr;show((hr.1,hr.2.1),c,?_);rw[vZ hi hr.1 hr.2.1 c,if_pos rfl];lia
  .rintro⟨⟨x,y⟩,c,a⟩;simp only[vZ hi x y c]at a
   cases b with
   |false=>rw[if_neg (by decide)]at a;lia
   |true=>
    show aJ.mpr (t,vX.mpr (c,?_,by lia),rfl)
    by_cases q:t∈L.map (·.1)
    .show q
    .rw[Dt q]at a
     lia
 |most k L=>
  have hi:=i.1;have d:=of_decide_eq_false d;change _∈(hv es L _).map _↔(_/\_/\decide _=ac);rw[decide_eq_true_iff];constructor
  .intro h;have(u,hm,e):=aJ.mp h;cases e;have(c,hn,l):=vX.mp hm;have(z,hz,j):=aJ.mp hn;have hr:=hi z hz;rw[j]at hr;show((hr.1,hr.2.1),c,?_);rw[v8 hi hr.1 hr.2.1 c,if_neg (by decide)];lia
  .rintro⟨⟨x,y⟩,c,a⟩;rw[v8 hi x y c]at a
   cases b with
   |true=>rw[if_pos rfl]at a;lia
   |false=>
    show aJ.mpr (t,vX.mpr (c,?_,by lia),rfl)
    by_cases q:t∈L.map (·.1)
    .show q
    .rw[Dt q]at a
     lia
def wa(c:p.Ok es.length)(t0:0<=t)(t1:t<(es.length:Int))(d:opn es t=ac)(b:Bool)(h:p.sure es=ac):p.sure (put es t.toNat b)=ac:=by
 have f:=iQ d
 cases p with
 |inn u=>
  have a:=beq_iff_eq.mp h;change((put es t.toNat b).getD u.toNat ab==aa ac)=ac;rw[lK t0 t1 c.1,if_neg (λe=>by rw[e,f]at a;nomatch a),a]
  rfl
 |out u=>
  have a:=beq_iff_eq.mp h;change((put es t.toNat b).getD u.toNat ab==aa af)=ac;rw[lK t0 t1 c.1,if_neg (λe=>by rw[e,f]at a;nomatch a),a]
  rfl
 |least k L=>
  have h:=of_decide_eq_true h;change decide _=ac;have:=Dv c.1 t;rw[decide_eq_true_iff,vZ c.1 t0 t1 d]
  grind
 |most k L=>
  have h:=of_decide_eq_true h;change decide _=ac;have:=Dv c.1 t;rw[decide_eq_true_iff,v8 c.1 t0 t1 d]
  grind
def Vf(es:LOB)(p:Prt):((tps es p).map (·.1)).Nodup:=by
 have one:∀(q:Bool) (z:Int×Bool),((if q then [z] else []).map (·.1)).Nodup:=λq z=>by
  cases q
  .show fJ
  .show b7.mpr (λh=>(dA h).elim,fJ)
 cases p with
 |inn t=>show one _ _
 |out t=>show one _ _
 |least k L=>
  change(((hv es L _).map λt=>(t,ac,)).map (·.1)).Nodup;rw[map_map]
  show(map_id _).symm▸JD es L _
 |most k L=>
  change(((hv es L _).map λt=>(t,af,)).map (·.1)).Nodup;rw[map_map];show(map_id _).symm▸JD es L _
abbrev Dy(es:LOB)(G:List Prt):Option (List (Int×Bool))->Prop
 |none=>∀p∈G,p.sure es=ac
 |some l=>(∃p∈G,p.sure es=af)/\(∀z,z∈l↔∀p∈G,p.sure es=af->z∈tps es p)/\(l.map (·.1)).Nodup
def JE(es:LOB)(G:List Prt):Dy es G (G.foldl (pst es) ab):=by
 have go:∀(post pre:List Prt) b,Dy es pre b->Dy es (pre++post) (post.foldl (pst es) b):=by
  intro post
  induction post with
  |nil=>intro pre b h;rw[bN];show h
  |cons p post j=>
   intro pre b h;have:=j (pre++[p]) (pst es b p) ?_
   .grind
   unfold pst
   cases f:p.sure es with
   |true=>
    have hm:∀q,q∈pre++[p]->q∈pre\/q=p:=λq c=>(bv.mp c).imp id λe=>by simpa using e
    cases b with
    |none=>show λq c=>(hm q c).elim (h q) λe=>e▸f
    |some l=>
     have((q,c,i),h2,g):=h;show((q,bZ _ c,i),λz=>?_,g)
     grind
   |false=>
    have d:p∈pre++[p]:=by simp
    cases b with
    |none=>
     show((p,d,f),λz=>?_,Vf es p);show(λa q c e=>?_,λa=>a p d f)
     rcases bv.mp c with w |w
     .rw[h q w]at e;grind
     .have:q=p:=by simpa using w
      rw[this];show a
    |some l=>
     have(_,h2,g):=h;show((p,d,f),λz=>?_,w5 ((oi (p:=λz=>decide (z∈tps es p))).map (·.1)) g);change z∈l.filter _↔_
     grind
 show go G [] ab λp d=>(dA d).elim
nonrec def Pr:=Int×Bool
nonrec abbrev LLP:=List (List Pr)
nonrec def Wy:=Bool×Nat
nonrec def Wt:=List (Pr×List Wy)
def wyS(b:Bool):Str:=cond b "bar" "rule"
def wyD(y:Wy):D:=.tup [.str (wyS y.1),.int y.2]
def wyK(y:Wy):List Key:=[.inr (wyS y.1),.inl y.2]
def eE(b:List Pr):D:=.lst (b.map prD)
def brP(z:Pr):Prt:=if z.2 then .inn z.1 else .out z.1
def brg(b:List Pr):List Prt:=b.map brP
variable{y:Wy}
def Dz{x:Wy}(h:wyK x=wyK y):x=y:=by
 have(a,i):=x;have(b,j):=y;have(c,h2):=qJ h;have f:=ub (qJ h2).1;have d:i=j:=by lia
 subst d;have e:wyS a=wyS b:=Sum.inr.inj c
 cases a <;> cases b <;> first |rfl |show absurd e (by decide)
variable{p q:Pr}
def JF(h:gx p.1 p.2=gx q.1 q.2):p=q:=by
 have(a,i):=p;have(b,j):=q;have(c,h2):=qJ h
 grind
abbrev gD(p:Pr)(y:Wy):Wt->Wt
 | []=>[(p,[y],)]
 |q::tw=>if q.1=p then (q.1,q.2++[y],)::tw else q::gD p y tw
abbrev gV(p:Pr)(y:Wy):Wt->Wt
 | []=>[]
 |q::tw=>if q.1=p then (q.1,q.2.erase y,)::tw else q::gV p y tw
def look(tw:Wt)(p:Pr):List Wy:=match tw with
 | []=>[]
 |q::tw=>if q.1=p then q.2 else look tw p
def wtW(tw:Wt):Wss:=tw.map λq=>(gx q.1.1 q.1.2,q.2.map wyD,)
def JG(p:Pr)(y:Wy):∀tw:Wt,gt (gx p.1 p.2) (wyD y) (wtW tw)=wtW (gD p y tw)
 | []=>rfl
 |q::tw=>by
  change gt _ _ ((gx q.1.1 q.1.2,q.2.map wyD,)::wtW tw)=_;unfold gt gD
  by_cases e:q.1=p
  .rw[if_pos (by rw[e]),if_pos e];change _=(_,(q.2++[y]).map wyD,)::wtW tw
   grind
  .rw[if_neg (λz=>e (JF z)),if_neg e,JG p y tw];rfl
def ixW(p:Pr):∀tw:Wt,(aT (gx p.1 p.2) ((wtW tw).map (·.1))=ab/\look tw p=[])\/∃j q,aT (gx p.1 p.2) ((wtW tw).map (·.1))=aa j/\tw[j]?=aa q/\q.1=p/\look tw p=q.2/\∀y,gV p y tw=tw.set j (q.1,q.2.erase y,)
 | []=>.inl (rfl,rfl)
 |q::tw=>by
  change(aT _ (gx q.1.1 q.1.2::(wtW tw).map (·.1))=ab/\_)\/∃j b,aT _ (gx q.1.1 q.1.2::(wtW tw).map (·.1))=aa j/\_;unfold aT look
  by_cases e:q.1=p
  .show .inr (0,q,if_pos (by rw[e]),rfl,e,if_pos e,λy=>?_);unfold gV
   grind
  .rw[if_neg (λz=>e (JF z)),if_neg e]
   rcases ixW p tw with⟨a,h2⟩ |⟨j,b,a,h2,c,d,f⟩
   .grind
   .show .inr (j+1,b,by rw[a];rfl,by rw[gZ];show h2,c,d,λy=>?_);unfold gV
    grind
def wb(ds:LD):(lsO ds).items=aa ds:=zD ds
def Vg(tw:Wt)(p:Pr):(wsO (wtW tw)).got (gx p.1 p.2)=aa ((look tw p).map wyD):=by
 unfold wsO O.got;dsimp only
 rcases ixW p tw with⟨a,h2⟩ |⟨j,q,a,h2,c,b,d⟩
 .grind
 .rw[a,b];dsimp only;rw[cB,wtW,cB,h2];show wb _
variable{tw:Wt}{pp:Xp}{g:MF1}
def DD(h:pp M=aa (wsO (wtW tw),R,))(a:g M=aa (prD p)):iq pp g M=aa ((look tw p).map wyD):=by
 unfold iq;rw[h,ax,a,ax];show Vg tw p
def Vh(h:pp M=aa (wsO (wtW tw),R,))(e:g M=aa (prD p))(i:look tw p≠[]):∃a,kK pp g M=aa (lsO ((look tw p).map wyD),a,)/\∀y,a (lsO (((look tw p).erase y).map wyD))=R (wsO (wtW (gV p y tw))):=by
 rcases ixW p tw with⟨b,h2⟩ |⟨j,q,b,h2,f,c,d⟩
 .grind
 .show(λx=>R (.dT ((wtW tw).map (·.1)) (((wtW tw).map λp=>lsO p.2).set j x)),?_,λy=>?_)
  .unfold kK;rw[h,ax,e,ax];change((wsO _).key (gx p.1 p.2)).map _=_;unfold wsO O.key;dsimp only;rw[b,ax,cB,wtW,cB,h2,c];rfl
  .rw[d y,c];unfold wsO wtW;rw[g8,g8,g8,nF (by grind)]
def JH(z y:Wy):deq 19 (wyD z) (wyD y)=aa (z==y):=by
 rw[show deq 19 _ _=aa ((wyS z.1==wyS y.1) && ((_==_) && ac))from rfl]
 congr 1
 have(a,i):=z;have(b,j):=y;apply iU.mpr;simp only[ca,beq_iff_eq,Prod.mk.injEq,and_true];constructor
 .rintro⟨u,v⟩;show(?_,by lia)
  cases a <;> cases b <;> first |rfl |show absurd u (by decide)
 .grind
def DF(y:Wy):∀W6:List Wy,du (wyD y) (W6.map wyD)=aa (decide (y∈W6))
 | []=>rfl
 |z::W6=>by
  change((deq 19 _ _).bind λb=>(du _ _).map λr=>b || r)=_;rw[JH,DF y W6]
  grind
def JI(y:Wy):∀W6:List Wy,y∈W6->(W6.map wyD).eraseIdx ((W6.map wyD).findIdx (isE (wyD y)))=(W6.erase y).map wyD
 | [],h=>nomatch h
 |z::W6,h=>by
  have a:isE (wyD y) (wyD z)=(z==y):=by
   unfold isE;rw[JH]
   grind
  rw[bD,qG,a,erase_cons]
  cases e:z==y with
  |true=>rfl
  |false=>
   have:y∈W6:=by
    grind
   change wyD z::(W6.map wyD).eraseIdx _=_;rw[JI y W6 this];rfl
def Vi{W6:List Wy}(h:y∈W6):(lsO (W6.map wyD)).remd (wyD y)=aa (lsO ((W6.erase y).map wyD)):=by
 unfold O.remd;rw[wb,ax,DF,decide_eq_true h,if_pos rfl,JI y W6 h];rfl
def Vj(y:Wy)(W6:List Wy):fW (wyD y) (.lst (W6.map wyD))=aa (.bl (decide (y∈W6))):=by
 change((du _ _).map D.bl)=_;rw[DF];rfl
def gys(r b:Nat):List Wy:=(bL r).map (λi=>(af,i,))++(bL b).map λi=>(ac,i,)
def bQ(B:LRu)(bs:LLP)(y:Wy):List Prt:=cond y.1 (brg (bs.getD y.2 [])) (((B[y.2]?).map grd).getD [])
def gdD(B:LRu)(bs:LLP)(y:Wy):D:=.lst ((bQ B bs y).map Prt.obj)
def JJ(r b:Nat):(gys r b).Nodup:=by
 show fh.mpr ((w6 _ (λa b h e=>h (tS e).2) nodup_range),(w6 _ (λa b h e=>h (tS e).2) nodup_range),?_)
 grind
variable{r:Nat}
def eY{b:Nat}:y∈gys r b↔y.2<cond y.1 b r:=by
 unfold gys;have(a,i):=y
 cases a <;> simp
def Vk(r b:Nat):(gys r b).length=r+b:=by unfold gys;simp
def DH(r b:Nat):gys r (b+1)=gys r b++[(ac,b,)]:=by unfold gys;rw[range_succ];simp
def DJ{b c:Type}[DecidableEq c]{f:b->c}(d:∀x y,f x=f y->x=y):∀{l:List b} {j:Nat} {a:b},l.Nodup->l[j]?=aa a->aT (f a) (l.map f)=aa j
 | [],_,_,_,h=>by cases h
 |x::l,0,a,_,h=>by
  cases h
  show if_pos rfl
 |x::l,j+1,a,nd,h=>by
  have(g,i):=b7.mp nd;rw[bD];unfold aT;rw[if_neg (λe=>g (by grind)),DJ d i h];rfl
structure Spt where
 es:LOB
 st:LD
 bs:LLP
 tw:Wt
 wt:List Wy
 ms:LRu
 pp:LD
 ct:Int
 en:Bool
def Spt.S(B:LRu)(s:Spt):Spr:=(s.es,s.st,s.bs.map eE,(gys B.length s.bs.length).map wyK,(gys B.length s.bs.length).map (gdD B s.bs),wtW s.tw,s.wt.map wyD,.lst (s.ms.map mkD),[("paper",lsO s.pp,),("count",.fz (.int s.ct),),("ended",.fz (.bl s.en),)])
def Vl{s:Spt}(c:y∈gys B.length s.bs.length)(b:g (.deep (.at l (s.S B).o)::M)=aa (wyD y)):pB (kK (aU "Seeking" "guards" (aH 0)) g) (.deep (.at l (s.S B).o)::M)=aa (gdD B s.bs y):=by
 have(j,a):=oh c;unfold pB kK;rw[Ja,ax,b,ax];change(((O.dT ((gys B.length s.bs.length).map wyK) (((gys B.length s.bs.length).map _).map .fz)).key (wyK y)).map _).bind _=_;unfold O.key;dsimp only;rw[(DJ (λ_ _=>Dz) (JJ _ _) a),ax,cB,cB,a];rfl
def sS(y:Wy)(tw:Wt)(p:Prt):Wt:=(nmL p).foldl (λtw t=>gD (t,gU p,) y tw) tw
def f6(y:Wy)(ps:List Prt)(tw:Wt):Wt:=ps.foldl (sS y) tw
def Vm(y:Wy)(p:Prt)(tw:Wt):vQ (wyD y) (wtW tw) p=wtW (sS y tw p):=by
 unfold vQ sS;generalize nmL p=ts
 induction ts generalizing tw with
 |nil=>rfl
 |cons t ts a=>rw[fI,fI,JG (t,gU p,),a]
def we(y:Wy)(ps:List Prt)(tw:Wt):nP (wyD y) ps (wtW tw)=wtW (f6 y ps tw):=by
 unfold nP f6
 induction ps generalizing tw with
 |nil=>rfl
 |cons p ps a=>rw[fI,fI,Vm,a]
abbrev nV:Nat->LRu->Wt->Wt
 | _,[],tw=>tw
 |i,r::B,tw=>nV (i+1) B (f6 (af,i,) (grd r) tw)
def JK:∀(B:LRu) (i:Nat) (s:Spr) (tw:Wt),s.ws=wtW tw->(eX i B).foldl lW s=(s.es,s.st,s.bs,s.gk++(eX i B).map (λp=>nQ p.1),s.gd++(eX i B).map (λp=>.lst ((grd p.2).map Prt.obj)),wtW (nV i B tw),s.wt++(eX i B).map (λp=>sO p.1),s.mks,s.tl)
 | [],i,s,tw,h=>by
  have(a,b,c,d,e,f,g,m,tl):=s;subst h;simp[eX]
  rfl
 |r::B,i,s,tw,h=>by
  rw[eX,fI,JK B _ _ (f6 (af,i,) _ tw) (by rw[<- we,<- h];rfl)];simp[lW,vR,nV]
def JL{a:Type}(f:Nat->a)(B:LRu):(eX 0 B).map (λp=>f p.1)=(bL B.length).map f:=by
 apply mf;intro j;rw[cB,sP,cB]
 grind
def spT(es:LOB)(B:LRu):Spt:=(es,[],[],nV 0 B [],(bL B.length).map λi=>(af,i,),eW B,[],0,af)
def Vn(es:LOB)(B:LRu):spI es B={(spT es B).S B with tl:=[]}:=by
 unfold spI;rw[JK B 0 _ [] rfl,JL nQ,JL sO];dsimp only[Spt.S,spT,sp0,gys];simp only[oq,map_nil,length_nil,range_zero,bN,map_map]
 congr 1
 apply mf;intro j;rw[cB,sP,cB]
 by_cases h:j<B.length
 .rw[tL h];simp[gdD,bQ,bY h]
 .rw[ix (by lia),ix (by rw[cI];lia)];rfl
def sT(p q:Pr)(y:Wy):∀tw:Wt,look (gD p y tw) q=if q=p then look tw q++[y] else look tw q
 | []=>by
  change(if p=q then [y] else [])=if q=p then []++[y] else []
  grind
 |r::tw=>by
  by_cases e:r.1=p
  .rw[gD,if_pos e];change(if r.1=q then r.2++[y] else look tw q)=if q=p then (if r.1=q then r.2 else look tw q)++[y] else (if r.1=q then r.2 else look tw q)
   grind
  .rw[gD,if_neg e];change(if r.1=q then r.2 else look _ q)=if q=p then (if r.1=q then r.2 else look tw q)++[y] else (if r.1=q then r.2 else look tw q);rw[(sT p q y tw)]
   grind
def JM(p q:Pr)(y:Wy):∀tw:Wt,look (gV p y tw) q=if q=p then (look tw q).erase y else look tw q
 | []=>by
  split <;> rfl
 |r::tw=>by
  by_cases e:r.1=p
  .rw[gV,if_pos e];change(if r.1=q then r.2.erase y else look tw q)=if q=p then (if r.1=q then r.2 else look tw q).erase y else (if r.1=q then r.2 else look tw q)
   grind
  .rw[gV,if_neg e];change(if r.1=q then r.2 else look _ q)=if q=p then (if r.1=q then r.2 else look tw q).erase y else (if r.1=q then r.2 else look tw q);rw[(JM p q y tw)]
   grind
nonrec def cn(tw:Wt)(p:Pr)(y:Wy):Nat:=(look tw p).count y
def gW:y∈look tw p↔0<cn tw p y:=count_pos_iff.symm
def Vo{z:Wy}(h:z≠y):cn (gD p y tw) q z=cn tw q z:=by
 unfold cn;rw[sT];split
 .rw[count_append,count_singleton,if_neg (by rw[beq_iff_eq];show λe=>h e.symm)];rfl
 .rfl
def nW{y z:Wy}(h:z≠y)(q:Pr):∀(ps:List Prt) (tw:Wt),cn (f6 y ps tw) q z=cn tw q z
 | [],_=>rfl
 |p::ps,tw=>by
  change cn (f6 y ps _) q z=_;rw[nW h q ps];unfold sS;generalize nmL p=ts
  induction ts generalizing tw with
  |nil=>rfl
  |cons t ts a=>rw[fI,a,Vo h]
def Vp(y:Wy)(tw:Wt)(z:Pr):sS y tw (brP z)=gD z y tw:=by
 have(t,b):=z
 cases b <;> rfl
def DK(y:Wy)(q:Pr):∀(b:List Pr) (tw:Wt),cn (f6 y (brg b) tw) q y=cn tw q y+b.count q
 | [],_=>rfl
 |z::b,tw=>by
  change cn (f6 y (brg b) _) q y=_;rw[DK y q b,Vp,count_cons]
  have:cn (gD z y tw) q y=cn tw q y+if z==q then 1 else 0:=by
   unfold cn;rw[sT]
   by_cases e:q=z
   .rw[if_pos e,count_append,if_pos (by rw[e];show beq_self_eq_true z),count_singleton,if_pos (beq_self_eq_true y)]
   .rw[if_neg e,if_neg (by rw[beq_iff_eq];show λx=>e x.symm)];rfl
  lia
def kP(y:Wy)(ps:List Pr)(tw:Wt):Wt:=ps.foldl (λtw p=>gV p y tw) tw
def Vq(p q:Pr)(y z:Wy)(tw:Wt):cn (gV p y tw) q z=if q=p/\z=y then cn tw q z-1 else cn tw q z:=by
 unfold cn;rw[JM]
 by_cases e:q=p
 .rw[if_pos e]
  by_cases f:z=y
  .rw[if_pos (e,f),f,count_erase_self]
  .rw[if_neg (λx=>f x.2),count_erase_of_ne f]
 .rw[if_neg e,if_neg (λx=>e x.1)]
def DM(q:Pr)(y z:Wy):∀(ps:List Pr) (tw:Wt),ps.Nodup->cn (kP y ps tw) q z=if q∈ps/\z=y then cn tw q z-1 else cn tw q z
 | [],tw,_=>by rw[if_neg (λx=>nomatch x.1)];rfl
 |p::ps,tw,nd=>by
  have(a,b):=b7.mp nd;change cn (kP y ps _) q z=_;rw[DM q y z ps _ b,Vq]
  by_cases f:z=y
  .by_cases e:q=p
   .rw[if_neg (λx=>a (by rw[<- e];show x.1)),if_pos (e,f),if_pos (by rw[e];show az,f)]
   .rw[if_neg (λx:q=p/\z=y=>e x.1)]
    by_cases g:q∈ps
    .rw[if_pos (g,f),if_pos (bi _ g,f)]
    .rw[if_neg (λx=>g x.1),if_neg (λx=>by rcases aX.mp x.1 with u |u;show e u;show g u)]
  .rw[if_neg (λx=>f x.2),if_neg (λx=>f x.2),if_neg (λx=>f x.2)]
def Vr(h:bT c (wtW tw)):bT c (wtW (gV p y tw)):=by
 have gen:∀tw:Wt,(gV p y tw).length=tw.length/\∀q∈gV p y tw,∃d∈tw,q.2.length<=d.2.length:=by
  intro tw
  induction tw with
  |nil=>show⟨rfl,λq h=>nomatch h⟩
  |cons r tw f=>
   dsimp only[gV];split
   .show(rfl,λq a=>?_)
    rcases aX.mp a with e |e
    .rw[e];show(r,az,(erase_sublist).length_le)
    .show(q,bi _ e,aL _)
   .show(by rw[cb,f.1];rfl,λq a=>?_)
    rcases aX.mp a with e |e
    .rw[e];show(r,az,aL _)
    .have(d,b,h2):=f.2 q e;show(d,bi _ b,h2)
 have(g,i):=gen tw;show(by unfold wtW;rw[aA,g];have:=h.ln;unfold wtW at this;rwa [aA]at this,λq a=>?_);have(x,j,rfl):=aJ.mp a;have(l,b,h2):=i x j;have:=h.al _ (aJ.mpr (l,b,rfl));rw[aA]at this ⊢
 lia
def JN{c:Nat}{y:Wy}:∀{ps:List Pr} {tw:Wt},bT c (wtW tw)->bT c (wtW (kP y ps tw))
 | [],_,h=>h
 | _::ps,_,h=>JN (ps:=ps) (Vr h)
def DN(h:bT c (wtW tw))(p:Pr):(look tw p).length<=c:=by
 rcases ixW p tw with⟨_,h2⟩ |⟨j,q,b,h2,d,a,e⟩
 .rw[h2];show ce _
 .rw[a];have:=h.al _ (aJ.mpr (q,dP h2,rfl))
  rwa [aA]at this
def sU(nd:ns.Nodup)(h:∀x∈ns,0<=x/\x<(n:Int)):ns.length<=n:=by
 by_cases c:ns.length<=n
 .show c
 .have d:∀x∈ns,x∈(bL n).map λ(i:Nat)=>(i:Int):=λx e=>by
   have(a,b):=h x e;show aJ.mpr (x.toNat,eJ.mpr (by lia),by lia)
  have:=(pI ns _ nd d (by rw[aA,cI];lia)).length_eq;rw[aA,cI]at this
  lia
structure cW(n:Nat)(b:List Pr):Prop where
 nn:∀z∈b,0<=z.1/\z.1<(n:Int)
 nd:(b.map (·.1)).Nodup
variable{b:List Pr}
def cW.pd(h:cW n b):b.Nodup:=List.Pairwise.of_map _ (λ_ _ z e=>z (by rw[e])) h.nd
def cW.len(h:cW n b):b.length<=n:=by
 have:(b.map (·.1)).length<=n:=sU h.nd λx a=>by
  have(z,hz,rfl):=aJ.mp a;show h.nn z hz
 rwa [aA]at this
def cW.nil(n:Nat):cW n []:=((λ_ h=>nomatch h),fJ)
structure dX(c r:Nat)(bs:LLP)(tw:Wt):Prop where
 wk:bT c (wtW tw)
 vl:∀p,∀y∈look tw p,y∈gys r bs.length
 br:∀j,(∀p,cn tw p (ac,j,)=0)\/(∀p,cn tw p (ac,j,)=if p∈bs.getD j [] then 1 else 0)
abbrev wider(tw:Wt):List Pr->List Wy
 | []=>[]
 |p::b=>(p::b).foldl (λW6 q=>W6.filter λy=>decide (y∈look tw q)) (look tw p)
def JO(tw:Wt):∀(b:List Pr) (W6:List Wy),(b.foldl (λW6 q=>W6.filter λy=>decide (y∈look tw q)) W6).Sublist W6/\∀y∈b.foldl (λW6 q=>W6.filter λy=>decide (y∈look tw q)) W6,∀p∈b,y∈look tw p
 | [],W6=>⟨qI _,λ_ _ _ h=>nomatch h⟩
 |q::b,W6=>by
  have(a,h2):=JO tw b _;show(a.trans oi,λy c p d=>?_)
  rcases aX.mp d with e |e
  .rw[e];show of_decide_eq_true (cw.mp (a.subset c)).2
  .show h2 y c p e
def jy(bs:LLP)(tw:Wt)(y:Wy):Wt:=cond y.1 (kP y (bs.getD y.2 []) tw) tw
def lX(bs:LLP)(tw:Wt)(b:List Pr):Wt:=(wider tw b).foldl (jy bs) tw
def qk{bs:LLP}(c:∀b∈bs,b.Nodup)(p:Pr)(z:Wy):cn (jy bs tw y) p z=if y.1=ac/\p∈bs.getD y.2 []/\z=y then cn tw p z-1 else cn tw p z:=by
 have(a,j):=y
 cases a with
 |false=>rw[if_neg (λx=>by cases x.1)];rfl
 |true=>
  have nd:(bs.getD j []).Nodup:=by
   rw[bK]
   cases e:bs[j]? with
   |none=>show fJ
   |some b=>show c b (dP e)
  change cn (kP _ _ tw) p z=_;rw[DM p _ z _ _ nd]
  by_cases h:p∈bs.getD j []/\z=(ac,j,)
  .rw[if_pos h,if_pos (rfl,h)]
  .rw[if_neg h,if_neg (λx=>h x.2)]
def wg{bs:LLP}(a:∀b∈bs,b.Nodup)(p:Pr)(z:Wy):∀(W6:List Wy) (tw:Wt),z∉W6->cn (W6.foldl (jy bs) tw) p z=cn tw p z
 | [],_,_=>rfl
 |y::W6,tw,h=>by
  rw[fI,wg a p z W6 _ (λq=>h (bi _ q)),qk a,if_neg (λx=>h (by rw[x.2.2];show az))]
def DQ{bs:LLP}(a:∀b∈bs,b.Nodup)(p:Pr)(z:Wy):∀(W6:List Wy) (tw:Wt),cn (W6.foldl (jy bs) tw) p z<=cn tw p z
 | [],_=>aL _
 |y::W6,tw=>by
  show cS (DQ a p z W6 _) ?_;rw[qk a]
  split <;> lia
def JP{c:Nat}{bs:LLP}:∀{W6:List Wy} {tw:Wt},bT c (wtW tw)->bT c (wtW (W6.foldl (jy bs) tw))
 | [],_,h=>h
 |y::W6,tw,h=>by
  show JP (W6:=W6) ?_;unfold jy
  cases y.1 with
  |false=>show h
  |true=>show JN h
def dX.wide{bs:LLP}(h:dX c r bs tw)(a:(ac,j,)∈wider tw b):(∀p,cn tw p (ac,j,)=if p∈bs.getD j [] then 1 else 0)/\(wider tw b).count (ac,j,)=1/\(∀p∈b,p∈bs.getD j [])/\j<bs.length:=by
 cases b with
 |nil=>nomatch a
 |cons e b=>
  have(d,h2):=JO tw _ _
  have ha:∀p,cn tw p (ac,j,)=if p∈bs.getD j [] then 1 else 0:=by
   rcases h.br j with z |z
   .have:=gW.mp (d.subset a)
    grind
   .show z
  show(ha,?_,λp f=>?_,eY.mp (h.vl e _ (d.subset a)))
  .have g:=count_pos_iff.mpr a;have i:(wider tw (e::b)).count _<=cn tw e (ac,j,):=d.count_le _
   grind
  .have:=gW.mp (h2 _ a p f)
   grind
def dX.dropped{bs:LLP}(h:dX c r bs tw)(a:∀b∈bs,b.Nodup)(b:List Pr):dX c r bs (lX bs tw b):=by
 show(JP h.wk,λp y i=>h.vl p y (gW.mpr (fj (gW.mp i) (DQ a p y _ _))),λj=>?_)
 by_cases d:(ac,j,)∈wider tw b
 .show .inl λp=>?_;have(ha,m,_):=h.wide d
  have gen:∀(W6:List Wy) tw,(ac,j,)∈W6->(∀p,p∉bs.getD j []->cn tw p (ac,j,)=0)->(∀p,cn tw p (ac,j,)<=1)->cn (W6.foldl (jy bs) tw) p (ac,j,)=0:=by
   intro W6
   induction W6 with
   |nil=>intro tw h;nomatch h
   |cons y W6 l=>
    intro tw hm f h2;rw[fI]
    by_cases e:(ac,j,)=y
    .have:cn (jy bs tw y) p (ac,j,)=0:=by
      rw[qk a]
      by_cases g:p∈bs.getD j []
      .rw[if_pos (by rw[<- e],by rw[<- e];show g,e)];have:=h2 p
       lia
      .rw[f p g]
       split <;> rfl
     have:=DQ a p (ac,j,) W6 (jy bs tw y)
     lia
    .show l _ (by rcases aX.mp hm with z |z;show absurd z e;show z) (λp g=>?_) λp=>?_
     .rw[qk a,if_neg (λx=>e x.2.2)];show f p g
     .rw[qk a,if_neg (λx=>e x.2.2)];show h2 p
  show gen _ _ d (λp g=>by rw[ha p,if_neg g]) λp=>by rw[ha p];split <;> lia
 .have e:∀p,cn (lX bs tw b) p _=cn tw p _:=λp=>wg a p _ _ _ d
  rcases h.br j with z |z
  .show .inl λp=>by rw[e];show z p
  .show .inr λp=>by rw[e];show z p
variable{p:Xp}
def Vs{q:O×(O->O)}(h:p M=aa q)(a:f M=aa d)(hr:q.1.remd d=aa o2)(k:K (.nx (M.set i (.deep (q.2 o2))))):wp (pY i p f) M K:=(_,by
 unfold pY;rw[h,ax,a,ax,hr];rfl,k)
def Vt{a b:Sl}:aU "Seeking" "watches" (aH 2) [a,b,.deep (.at l s.o)]=aa (wsO s.ws,λx=>.at l (iO s.tl [lsO (s.es.map shD),lsO s.st,lsO s.bs,.dT s.gk (s.gd.map .fz),x,lsO s.wt,.fz s.mks]),):=rfl
def JQ{l:Addr}{s:Spr}{tw:Wt}(g:s.ws=wtW tw):∀(b:List Pr) (v1 c d f:Sl) (W6:List Wy),W6.length<=16777216->∃a,lT 2 3 1 [3,0] (ay 0) (mB (m2 fW (ae 0) (aP (iq (aU "Seeking" "watches" (aH 2)) (ae 1))))) (ae 0) (b.map prD) [.deep (.at l s.o),v1,c,d,f] (W6.map wyD)=aa ([.deep (.at l s.o),v1,c,a,f],(b.foldl (λW6 q=>W6.filter λy=>decide (y∈look tw q)) W6).map wyD,)
 | [],_,_,d,_,_,_=>(d,rfl)
 |p::b,v1,c,d,f,W6,hL=>by
  have(a,h):=JQ g b v1 c _ f _ (cS (gy _ _) hL);show(a,?_);rw[bD];unfold lT;rw[if_pos (by grind)]
  have e:eS (gK (ay 0) (mB (m2 fW (ae 0) (aP (iq _ (ae 1))))) (ae 0) [.no,.im _,.deep (.at l s.o)]) _=aa _:=
   uT wyD _ wyD W6 λy _=>dG rfl (bC (ap rfl (bW (DD (p:=p) (Vt.trans (by rw[g])) rfl)) (Vj y _))) λ_=>rfl
  change(eS (gK _ _ _ [.no,.im _,.deep _]) _).bind _=_;rw[e,ax];show h
def Vu(d:s.ws=wtW tw)(g:bT c (wtW tw))(f:c<=16777216)(k:∀h,K (.nx [.deep (.at l s.o),.im (eE b),.own ((wider tw b).map wyD),h,.no])):
  wp (p7 2 3 (bM (ae 1)) (iq (aU "Seeking" "watches" (aH 0)) (mIx (av 1) (kI 0))) (aV (ae 1)) 1 [3,0] (ay 0) (mB (m2 fW (ae 0) (aP (iq (aU "Seeking" "watches" (aH 2)) (ae 1))))) (ae 0)) [.deep (.at l s.o),.im (eE b),.no,.no,.no] K:=by
 cases b with
 |nil=>show(_,rfl,k .no)
 |cons p b=>
  have(a,e):=JQ d _ _ .no .no .no _ (cS (DN g p) f);show(_,?_,k a);unfold p7;rw[show bM _ _=aa ac from rfl,ax,show aV _ _=aa _ from rfl,ax,if_pos (show ac=!((p::b).map prD).isEmpty from rfl),DD (p:=p) (vP.trans (by rw[d])) (ba rfl rfl (lH (0,af,) (by decide) (by grind))),if_pos rfl,ax,e];rfl
def DR{bs:LLP}(a:∀b∈bs,cW n b)(j:Nat):cW n (bs.getD j []):=by
 rw[bK]
 cases e:bs[j]? with
 |none=>show cW.nil n
 |some b=>grind
def Vv(s:Spt)(b:List Pr)(ok:dX c B.length s.bs s.tw)(G:c<16777216)(y:∀b∈s.bs,cW n b):Bx l [eE b] (s.S B).o=aa ((({s with tw:=lX s.bs s.tw b}:Spt).S B).o,.non,):=by
 apply fF;apply am;show Vu rfl ok.wk (eK G) λd=>?_
 show dH _ wyD (λpre M=>∃d w,M=[.deep (.at l (({s with tw:=pre.foldl (jy s.bs) s.tw}:Spt).S B).o),.im _,.im _,d,w]) rfl (_,_,rfl) ?_ ?_
 .rintro pre ⟨a,j⟩ post M ex ⟨d,w,rfl⟩;show(_,rfl,?_);walk_at "nrm"
  cases a with
  |false=>
   show bc rfl (λz=>by nomatch z) (λ_=>b9 ?_);show(d,.im (wyD (af,j,)),?_);rw[eI]
   rfl
  |true=>
   have(ha,A,_,H):=ok.wide (j:=j) (by rw[ex];simp)
   have m:(ac,j,)∉pre:=λq=>by
    grind
   have e:=DR y j
   show dH (s.bs.getD j []) prD (λpr M=>∃d,M=[.deep (.at l (({s with tw:=kP (ac,j,) pr _}:Spt).S B).o),.im _,.im _,d,.im _]) (fD (ba (sJ Dg) (ba rfl rfl rfl) (lH [] (by lia) (by grind))) rfl) (_,rfl) ?_ ?_
   .rintro pr p po M i ⟨d,rfl⟩;have u:p∈s.bs.getD j []:=by grind
    have r:=λq=>by
     have:=e.pd;rw[i]at this;show(fh.mp this).2.2 p q p az rfl
    have v:pr.Nodup:=by
     have:=e.pd
     grind
    have f : _∈look (kP (ac,j,) pr _) p:=gW.mpr (by
     rw[DM p _ _ pr _ v,if_neg (λx=>r x.1),wg (λb h=>(y b h).pd) p _ _ _ m,ha p,if_pos u]
     grind)
    show(_,rfl,?_);walk_at "nrm"
    have(I,C,E):=Vh (g:=ae 3) (M:=[.deep (.at l (({s with tw:=kP _ pr _}:Spt).S B).o),.im _,.im _,.im _,.im _]) vP rfl (ne_nil_of_mem f)
    show Vs C rfl (Vi f) ?_;dsimp only;rw[E];show(.im (prD p),?_);unfold kP;rw[eI];rfl
   .rintro M ⟨d,rfl⟩;show(d,.im (wyD (ac,j,)),?_);rw[eI];rfl
 .rintro M ⟨d,w,rfl⟩;show(_,rfl,rfl,rfl)
def Vw(b:List Pr)(hz:b.length<=16777216):BO [eE b]=aa (.lst ((brg b).map Prt.obj)):=by
 rw[show(brg b).map Prt.obj=b.map λz=>(brP z).obj from map_map]
 show lF (congrArg _ (gM b prD _ rfl hz λz _=>fV rfl rfl (by
  have(t,x):=z
  cases x <;> rfl)))
def sV(h:cW n b):∀p∈brg b,PrK n p:=λp a=>by
 have(z,hz,rfl):=aJ.mp a;have:=h.nn z hz;have(t,x):=z
 cases x <;> show(this,(by decide:1<=1000))
def lY{b:Type}(l:List b)(a d:b)(j:Nat):(l++[a]).getD j d=if j=l.length then a else l.getD j d:=by grind
def dX.bar{bs:LLP}(h:dX c r bs tw)(a:cW n b)(hn:n<=60):dX (c+3840) r (bs++[b]) (f6 (ac,bs.length,) (brg b) tw):=by
 have d:∀p,cn tw p (ac,bs.length,)=0:=λp=>Nat.eq_zero_of_not_pos λq=>by
  have:bs.length<bs.length:=eY.mp (h.vl p _ (gW.mpr q))
  grind
 have g:∀p,cn _ p _=if p∈b then 1 else 0:=λp=>by
  rw[DK,d p,k7,a.pd.count]
 show(?_,λp y f=>?_,λj=>?_)
 .rw[<- we];show(bT.reg hn (sV a) h.wk).le ?_;unfold brg;rw[aA];have:=a.len;lia
 .rw[aR,fH,DH]
  by_cases e:y=(ac,bs.length,)
  .grind
  .show bZ _ (h.vl p y (gW.mpr ?_));rw[<- nW e p _];show gW.mp f
 .rw[lY]
  by_cases e:j=bs.length
  .grind
  .have ne:((ac,j,):Wy)≠(ac,bs.length,):=λz=>e (tS z).2;rw[if_neg e]
   rcases h.br j with z |z
   .show .inl λp=>by rw[nW ne];grind
   .show .inr λp=>by rw[nW ne];grind
def Spt.bar(s:Spt)(b:List Pr):Spt:={s with bs:=s.bs++[b],tw:=f6 (ac,s.bs.length,) (brg b) (lX s.bs s.tw b),wt:=s.wt++[(ac,s.bs.length,)]}
def Vx{bs:LLP}:(gys B.length (bs.length+1)).map (gdD B (bs++[b]))=(gys B.length bs.length).map (gdD B bs)++[.lst ((brg b).map Prt.obj)]:=by
 rw[DH,bd]
 congr 1
 .show map_congr_left λy c=>?_;have:=eY.mp c;have(a,j):=y
  cases a with
  |false=>rfl
  |true=>
   have:j<bs.length:=this;unfold gdD bQ
   grind
 .change[D.lst ((brg _).map Prt.obj)]=_
  grind
def Vy(s:Spt)(b:List Pr)(ok:dX c B.length s.bs s.tw)(m:c+3840<16777216)(d:∀b∈s.bs,cW n b)(a:cW n b)(hn:n<=60)(p:B.length+s.bs.length<100000)(j:s.wt.length<16777216):
  vH l [eE b] (s.S B).o=aa (((s.bar b).S B).o,.non,):=by
 have i:=a.len;have g:((gys B.length s.bs.length).map wyK).length=B.length+s.bs.length:=by rw[aA,Vk]
 apply fF;apply am;show jw (fE rfl rfl (dJ rfl rfl) rfl (Vv s b ok (by lia) d)) ?_;apply am;show bp (cV (ao rfl (ao (aG (ao (jt Dg) rfl) (fX s.bs eE)) rfl))) ?_;walk_at "nrm";apply am;show sK Dg rfl (by change(s.bs.map eE).length<_;rw[aA];lia) ?_;change wp _ [.deep (.at l ((s.es,s.st,s.bs.map eE++_,(gys B.length s.bs.length).map wyK,(gys B.length s.bs.length).map _,wtW _,s.wt.map wyD,.lst _,(s.S B).tl):Spr).o),.im _,.im (wyD (ac,s.bs.length,))] _;show jw (fE rfl rfl (dJ rfl (dJ (aG rfl (Vw b (by lia))) rfl)) rfl (Jg _ _ rfl (Dl λq=>?_) ?_ (sV a) hn (ok.dropped (λb h=>(d b h).pd) b).wk ?_ ?_ ?_)) ?_
 .have(y,f,e):=aJ.mp q;rw[Dz e]at f;have:s.bs.length<s.bs.length:=eY.mp f;show gA _ this
 .change((gys B.length s.bs.length).map wyK).length<_
  lia
 .unfold brg;rw[aA];lia
 .change(s.wt.map wyD).length<_;rw[aA];show j
 .unfold brg;rw[aA];lia
 .show(_,rfl,?_,rfl)
  congr 1
  dsimp only[vR,Spt.bar,Spt.S];rw[we,aR,fH,Vx,DH,bd,bd,bd];rfl
def jz{f:Xe}(h:f M=aa (d,ρ1,))(k:K (.nx (ρ1.set i (.im d)))):wp (fZ i f) M K:=(_,by unfold fZ;rw[h];rfl,k)
def JR{k:Int}(hv:fv M=aa d)(h:p M=aa (lsO ds,R,))(c:fk M=aa (.int k))(a:0<=k)(b:k<ds.length)(q:K (.nx (M.set i (.deep (R (lsO (ds.set k.toNat d))))))):wp (nG i p fk fv) M K:=(_,by
 unfold nG;simp only[hv,ax,h,ax,c,ax];change(((lsO ds).items.bind λds=>(ixN ds.length k).map λj=>O.lst _)).map _=_;simp only[wb,ax,show ixN ds.length k=aa k.toNat by unfold ixN;rw[if_pos a,if_pos b]];rfl,q)
def Vz{f:MF2}{es:LD}(h:p M=aa (lsO ds,R,))(a:f M=aa es)(hz:ds.length+es.length<=16777216)(q:K (.nx (M.set i (.deep (R (lsO (ds++es))))))):wp (pV i p f) M K:=(_,by
 unfold pV;rw[h,ax,a,ax];change(if (ds.map O.fz).length+es.length<=16777216 then aa _ else ab).map _=_;rw[if_pos (by rw[aA];show hz),<- bd];rfl,q)
def iR(es:LOB):Nat:=ct (es.map (·==ab))
variable{b:Bool}
def VA(t0:0<=t)(t1:t<(es.length:Int))(a:opn es t=ac):iR (put es t.toNat b)+1=iR es:=by
 unfold iR put;rw[g8];show Jn _ _ ?_;unfold opn at a;rw[bK]at a ⊢;rw[cB,bY (by lia)]at *;show a
def VB(es:LOB):iR es<=es.length:=by
 have:=U2 (es.map (·==ab))
 rwa [aA]at this
def Spt.pt(s:Spt)(t:Int)(b:Bool)(w:D):Spt:={s with es:=put s.es t.toNat b,st:=s.st++[.tup [prD (t,b,),w]],wt:=s.wt++look s.tw (t,b,)}
structure SpJ(n c W7:Nat)(B:LRu)(s:Spt):Prop where
 es:s.es.length=n
 bk:∀b∈s.bs,cW n b
 tw:dX c B.length s.bs s.tw
 wv:∀y∈s.wt,y∈gys B.length s.bs.length
 ms:s.ms.Perm (eW B)
 mB:iR s.es*(c+1)+s.wt.length<=W7
 sB:s.st.length+iR s.es<=W7
 sv:∀d∈s.st,∃(z:Pr) (w:D),d=.tup [prD z,w]/\(0<=z.1/\z.1<(n:Int))/\s.es.getD z.1.toNat ab=aa z.2
nonrec def Me(c:Nat)(s:Spt):Nat:=iR s.es*(c+1)+s.wt.length
variable{u:Int}
def DU(a:0<=u)(t0:0<=t)(h:u≠t):opn (put es t.toNat b) u=opn es u:=by
 unfold opn;rw[c7 es b (by lia)]
variable{W7:Nat}{s:Spt}{w:L2.D}
def SpJ.pt(h:SpJ n c W7 B s)(t0:0<=t)(t1:t<(n:Int))(f:opn s.es t=ac):SpJ n c W7 B (s.pt t b w)/\Me c (s.pt t b w)<Me c s:=by
 have g:=VA (b:=b) t0 (by rw[h.es];show t1) f;have m:=DN h.tw.wk (t,b,)
 have hm:Me c (s.pt t b w)<Me c s:=by
  change iR (put s.es t.toNat b)*_+(s.wt++look s.tw _).length<iR s.es*_+s.wt.length;simp only[<- g,aR,Nat.succ_mul]
  lia
 show(((b8 _ _ _).trans h.es,h.bk,h.tw,λy i=>?_,h.ms,cS (eK hm) h.mB,?_,λd hd=>?_),hm)
 .rcases bv.mp i with q |q
  .show h.wv y q
  .show h.tw.vl _ y q
 .change(s.st++[_]).length+iR (put s.es t.toNat b)<=W7;rw[aR,fH];have:=h.sB
  lia
 .rcases bv.mp hd with q |q
  .have(z,j,e,l,a):=h.sv d q;show(z,j,e,l,?_);change(put s.es t.toNat b).getD z.1.toNat ab=_;rw[c7 s.es b (λq=>by rw[q,iQ f]at a;nomatch a)];show a
  .show(_,w,bB.mp q,(t0,t1),eV s.es b (by rw[h.es];lia))
def DV(h:SpJ n c W7 B s)(hB:W7+c<16777216)(t0:0<=t)(t1:t<(n:Int)):qf l [.int t,.bl b,w] (s.S B).o=aa (((s.pt t b w).S B).o,.non,):=by
 have f:=DN h.tw.wk (t,b,);have a:=h.mB;have h2:=h.sB;have d:=h.es;apply fF;apply am;show JR rfl jR rfl t0 (by rw[aA];change t<s.es.length;lia) ?_;have e:(s.es.map shD).set t.toNat (.bl b)=(put s.es t.toNat b).map shD:=by unfold put;rw[g8];rfl
 change wp _ [.deep (.at l (iO (s.S B).tl [lsO ((s.es.map shD).set t.toNat _),lsO s.st,lsO _,.dT _ _,wsO _,lsO _,.fz _])),.im _,.im _,.im w] _;rw[e]
 change wp _ [.deep (.at l (({s with es:=put s.es t.toNat b}:Spt).S B).o),.im _,.im _,.im w] _
 apply am;show sK De (cV (ao (cV (ao rfl (ao rfl rfl))) (ao rfl rfl))) (by change s.st.length<_;lia) ?_
 change wp _ [.deep (.at l (({s with es:=put s.es t.toNat b,st:=s.st++_}:Spt).S B).o),.im _,.im _,.im w] _
 show Vz qg (DD vP (cV (ao rfl (ao rfl rfl)))) (by change(s.wt.map wyD).length+((look s.tw (t,b,)).map wyD).length<=_;rw[aA,aA];lia) ?_;show(_,rfl,?_,rfl);dsimp only[Spt.pt,Spt.S];simp only[bd];rfl
def puts(s:Spt)(w:D)(ps:List Pr):Spt:=ps.foldl (λs p=>s.pt p.1 p.2 w) s
structure fG(es:LOB)(ps:List Pr):Prop where
 nd:(ps.map (·.1)).Nodup
 op:∀z∈ps,(0<=z.1/\z.1<(es.length:Int))/\opn es z.1=ac
variable{z:Pr}
def fG.tail{ps:List Pr}(h:fG es (z::ps)):fG (put es z.1.toNat z.2) ps:=by
 have(f,g):=b7.mp h.nd;show(g,λy d=>?_);have((a,b),c):=h.op y (bi _ d);show((a,by rw[b8];show b),?_);rw[DU a ((h.op z az).1.1) (λe=>f (aJ.mpr (y,d,e)))];show c
def fG.pre{pre post:List Pr}(h:fG es (pre++post)):fG es pre:=(by have:=h.nd;rw[bd]at this;show(fh.mp this).1,λz hz=>h.op z (bZ _ hz))
def nX{n c W7:Nat}{B:LRu}{w:D}:∀{ps:List Pr} {s:Spt},SpJ n c W7 B s->fG s.es ps->SpJ n c W7 B (puts s w ps)/\Me c (puts s w ps)<=Me c s
 | [],_,h,_=>(h,aL _)
 |z::ps,s,h,k=>by
  have((a,b),e):=k.op z az;have(d,h2):=h.pt a (by rw[<- h.es];show b) e;have(f,g):=nX d k.tail;show(f,cS g (eK h2))
variable{G:List Prt}
def JS(h:prs G es=ab):∀p∈G,p.sure es=ac:=by
 have:=JE es G;unfold prs at h
 cases e:G.foldl _ ab with
 |none=>rw[e]at this;show this
 |some l=>rw[e]at h;nomatch h
def nY{l:List Pr}(i:∀p∈G,p.Ok es.length)(h:prs G es=aa l):fG es l/\(∀z:Pr,z∈l↔(0<=z.1/\z.1<(es.length:Int))/\opn es z.1=ac/\∀p∈G,p.sure (put es z.1.toNat (!z.2))=ac)/\∃p∈G,p.sure es=af:=by
 have:=JE es G;unfold prs at h
 cases e:G.foldl _ ab with
 |none=>rw[e]at h;nomatch h
 |some n=>
  rw[e]at h this;cases h;have((q,m,d),h2,u):=this
  have hm:∀z:Pr,z∈n.map neg↔(z.1,!z.2,)∈n:=λz=>by
   constructor
   .intro hz;have(y,v,rfl):=aJ.mp hz;unfold neg;rw[Bool.not_not];show v
   .intro hz;show aJ.mpr (_,hz,?_);unfold neg;rw[Bool.not_not]
  have key:∀z:Pr,z∈n.map neg↔_/\opn es z.1=ac/\∀p∈G,p.sure (put es z.1.toNat _)=ac:=λz=>by
   rw[hm,h2];constructor
   .intro a;have(j,r,_):=(Dx (i q m) d _ _).mp (a q m d);show(j,r,λp f=>?_)
    cases g:p.sure es with
    |true=>show wa (i p f) j.1 j.2 r _ g
    |false=>show((Dx (i p f) g _ _).mp (a p f g)).2.2
   .rintro⟨a,b,c⟩ p f g;show(Dx (i p f) g _ _).mpr (a,b,c p f)
  show((?_,λz hz=>?_),key,q,m,d)
  .rw[map_map];show u
  .have(a,b,_):=(key z).mp hz;show(a,b)
structure Grp(B:LRu)(es:LOB)(wo:LB0):Prop where
 len:wo.length=es.length
 no:∀i,wo.getD i af=ac->es.getD i ab≠aa af
 up:∀r∈eW B,wo.getD r.hd.toNat af=ac->r.bodyLost es wo=ac
def sW(es:LOB)(wo:LB0):LOB:=(sI wo).foldl (λes t=>put es t.toNat af) es
inductive Mvs(B:LRu)(bs:LLP)(e0:LOB):LOB->Prop
 |refl:Mvs B bs e0 e0
 |press {es:LOB} {t:Int} {b:Bool} {y:Wy}:Mvs B bs e0 es->y∈gys B.length bs.length->0<=t->t<(es.length:Int)->opn es t=ac->(∀p∈bQ B bs y,p.sure (put es t.toNat (!b))=ac)->Mvs B bs e0 (put es t.toNat b)
 |out {es:LOB} {wo:LB0}:Mvs B bs e0 es->Grp B es wo->(∀i,wo.getD i af=ac->es.getD i ab=ab)->Mvs B bs e0 (sW es wo)
def Mvs.trans{bs:LLP}{e0 g i:LOB}(h:Mvs B bs e0 g)(h':Mvs B bs g i):Mvs B bs e0 i:=by
 induction h' with
 |refl=>show h
 |press _ a b c d e f=>show .press f a b c d e
 |out _ a b f=>show .out f a b
def wj{a:Bool}(h:i≠j):put (put es i a) j b=put (put es j b) i a:=by
 unfold put;show set_comm _ _ h
def wm(c:0<=u)(t0:0<=t)(h:u≠t)(a:opn es u=ac):opn (put es t.toNat b) u=ac:=by rw[DU c t0 h];show a
def JT{B:LRu}{bs:LLP}{y:Wy}{w:D}(d:y∈gys B.length bs.length):∀{ps:List Pr} {s:Spt},(∀p∈bQ B bs y,p.Ok s.es.length)->fG s.es ps->(∀z∈ps,∀p∈bQ B bs y,p.sure (put s.es z.1.toNat (!z.2))=ac)->Mvs B bs s.es (puts s w ps).es
 | [],_,_,_,_=>.refl
 |z::ps,s,hG,k,hp=>by
  have((a,b),e):=k.op z az;have(g,i):=b7.mp k.nd;have f:Mvs B bs s.es (s.pt z.1 z.2 w).es:=.press .refl d a b e (hp z az);show f.trans (JT d (λp q=>by change p.Ok (put s.es z.1.toNat z.2).length;rw[b8];show hG p q) k.tail λx c p q=>?_);have((h,j),l):=k.op x (bi _ c);have ne:z.1≠x.1:=λe=>g (aJ.mpr (x,c,e.symm));change p.sure (put (put s.es z.1.toNat z.2) x.1.toNat _)=ac;rw[wj (by lia)];show wa (by rw[b8];show hG p q) a (by rw[b8];show b) (wm a h ne e) _ (hp x (bi _ c) p q)
abbrev VC:Option Wy->D
 |none=>.non
 |some y=>wyD y
abbrev lrF(B:LRu):Nat->Spt->Option Wy×Spt
 | 0,s=>(ab,s,)
 |k+1,s=>match s.wt with
  | []=>(ab,s,)
  |y::wt=>match prs (bQ B s.bs y) s.es with
   |none=>(aa y,{s with wt:=wt},)
   |some ps=>lrF B k (puts {s with wt:=wt} (wyD y) ps)
def sX{k:Nat}(h:s.wt=[]):lrF B (k+1) s=(ab,s,):=by
 unfold lrF;rw[h]
def sY{k:Nat}{wt:List Wy}(h:s.wt=y::wt)(a:prs (bQ B s.bs y) s.es=ab):lrF B (k+1) s=(aa y,{s with wt:=wt},):=by
 unfold lrF;rw[h];dsimp only;rw[a]
def qm{k:Nat}{wt:List Wy}{ps:List Pr}(h:s.wt=y::wt)(a:prs (bQ B s.bs y) s.es=aa ps):lrF B (k+1) s=lrF B k (puts {s with wt:=wt} (wyD y) ps):=by
 rw[lrF];rw[h];dsimp only;rw[a]
def n4{bs:LLP}(hr:∀r∈B,RuK n r)(d:∀b∈bs,cW n b):∀p∈bQ B bs y,p.Ok n:=by
 have(a,j):=y;intro p c
 cases a with
 |true=>show(sV (DR d j) p c).1
 |false=>
  replace c:p∈((B[j]?).map grd).getD []:=c
  cases e:B[j]? with
  |none=>rw[e]at c;nomatch c
  |some r=>rw[e]at c;show(vS (hr r (dP e)) p c).1
def SpJ.pop{wt:List Wy}(h:SpJ n c W7 B s)(e:s.wt=y::wt):SpJ n c W7 B {s with wt:=wt}/\Me c {s with wt:=wt} < Me c s/\y∈gys B.length s.bs.length:=by
 have hm:=h.mB;have a:s.wt.length=wt.length+1:=by grind
 show((h.es,h.bk,h.tw,λz hz=>h.wv z (by grind),h.ms,?_,h.sB,h.sv),?_,h.wv y (by grind))
 .grind
 .grind
def JU(w:D):∀(ps:List Pr) (s:Spt),(puts s w ps).bs=s.bs/\(puts s w ps).tw=s.tw/\(puts s w ps).ms=s.ms
 | [],_=>(rfl,rfl,rfl)
 |z::ps,s=>JU w ps _
structure VD(n c W7:Nat)(B:LRu)(s:Spt)(R:Option Wy×Spt):Prop where
 ok:SpJ n c W7 B R.2
 bs:R.2.bs=s.bs
 mv:Mvs B s.bs s.es R.2.es
 no:R.1=ab->R.2.wt=[]
 ye:∀y,R.1=aa y->y∈gys B.length s.bs.length/\∀p∈bQ B s.bs y,p.sure R.2.es=ac
 le:Me c R.2<=Me c s
def sZ{n c W7:Nat}{B:LRu}(hr:∀r∈B,RuK n r):∀(k:Nat) (s:Spt),SpJ n c W7 B s->Me c s<k->VD n c W7 B s (lrF B k s)
 | 0,_,_,h=>absurd h (g9 _)
 |k+1,s,h,hk=>by
  cases b:s.wt with
  |nil=>
   rw[sX b]
   show(h,rfl,.refl,(λ_=>b),(λy e=>by cases e),aL _)
  |cons y wt=>
   have(g,h2,j):=h.pop b;have i:∀p∈bQ B s.bs y,p.Ok s.es.length:=by rw[h.es];show n4 hr h.bk
   cases d:prs _ s.es with
   |none=>
    rw[sY b d]
    show(g,rfl,.refl,(λz=>by cases z),(λz e=>by cases e;show(j,JS d)),eK h2)
   |some ps=>
    rw[qm b d];have(l,m,_):=nY i d;have(q,u):=nX g l
    have(f,_,_):=JU _ ps {s with wt:=wt}
    have a:=sZ hr k _ q (by lia)
    have m1:Mvs B s.bs s.es (puts {s with wt:=wt} (wyD y) ps).es:=JT j (s:={s with wt:=wt}) i l λz hz=>((m z).mp hz).2.2
    show(a.ok,a.bs.trans f,m1.trans (by have:=a.mv;rw[f]at this;show this),a.no,λz e=>?_,by have:=a.le;lia);have:=a.ye z e
    grind
def VE{m:LD->Option (LD ⊕ D)}{f:MF2}{x:Option (List Pr)}(h:f M=aa ds)(h':m ds=aa (JB x)):pZ m f M=aa (sR x):=by
 unfold pZ;rw[h,ax,h',ax]
 cases x with
 |none=>rfl
 |some l=>
  change(if (l.map prD).all D.flat=ac then aa _ else ab)=_;rw[if_pos (all_eq_true.mpr λd hd=>by have(z,_,rfl):=aJ.mp hd;rfl)];rfl
def VF{wt:List Wy}(h:s.wt=y::wt):sd 0 (aU "Seeking" "waiting" (aH 0)) (.deep (.at l (s.S B).o)::M)=aa (wyD y,.deep (.at l (({s with wt:=wt}:Spt).S B).o)::M,):=by
 change((lsO (s.wt.map wyD)).pop0).map _=_;rw[h];rfl
def VG{k:Nat}(hr:∀r∈B,RuK n r)(hB:W7+c<16777216)(h:SpJ n c W7 B s)(x:Me c s<k)(w:k<1000000000):CY l [] (s.S B).o=aa (((lrF B k s).2.S B).o,VC (lrF B k s).1,):=by
 apply fF;apply am;show rP (λm M=>∃a v1 v e f,M=[.deep (.at l (Spt.S B a).o),v1,v,e,f]/\SpJ n c W7 B a/\Me c a<m/\lrF B m a=lrF B k s) ?_ _ k _ (s,_,_,_,_,rfl,h,x,rfl) w;rintro m M ⟨a,v1,v,e,f,rfl,h',hm,i⟩
 cases m with
 |zero=>grind
 |succ m=>
  cases b:a.wt with
  |nil=>
   show(af,df (jt qg) (by change mQ (.lst (a.wt.map wyD))=_;rw[b];rfl),(λz=>by nomatch z),λ_=>?_);rw[<- i,sX b]
   show ju rfl (_,rfl,rfl,rfl)
  |cons y wt=>
   have(q,h2,A):=h'.pop b;have u:∀p∈bQ B a.bs y,p.Ok a.es.length:=by rw[h'.es];show n4 hr h'.bk
   show⟨ac,df (jt qg) (by change mQ (.lst (a.wt.map wyD))=_;rw[b];rfl),λ_=>?_,λz=>by nomatch z⟩;apply am;show jz (VF b) ?_;apply am;show bp (d:=sR (prs _ a.es)) (VE (ao (Vl A rfl) (ao (jt jR) rfl)) (Ve _ u)) ?_;apply am
   cases j:prs _ a.es with
   |none=>
    show bc rfl (λ_=>?_) (λz=>by nomatch z);rw[<- i,sY b j]
    show ju rfl (_,rfl,rfl,rfl)
   |some ps=>
    have(g,I,_):=nY u j;have(C,J):=nX q g;show bc rfl (λz=>by nomatch z) (λ_=>b9 ?_)
    show dH ps prD (λpre M=>∃e f,M=[.deep (.at l ((puts {a with wt:=wt} (wyD y) pre).S B).o),.im _,.im _,e,f]) rfl (_,_,rfl) ?_ ?_
    .rintro pre z post M ex ⟨e,f,rfl⟩;rw[ex]at g;have(E,_):=nX q g.pre;have((G,H),_):=g.op z (by simp);show(_,rfl,?_);walk_at "nrm";show jw (fE rfl rfl (dJ rfl (dJ rfl (dJ rfl rfl))) rfl (DV E hB G (by rw[<- h'.es];show H))) ?_;show(.im (.int z.1),.im (.bl z.2),?_);unfold puts
     grind
    .rintro M ⟨e,f,rfl⟩;show(m,c8 _,_,_,_,_,_,rfl,C,by lia,?_);rw[<- i,qm b j]
def slf(es:LOB)(a b c d e:D)(C:LD)(ms:LRu):D:=.ins "Seeking" (spN++(["paper","count","ended"]:LSt)) ([.lst (es.map shD),a,b,c,d,e,.lst (ms.map mkD)]++C)
def fdL(r:Rul)(es:LOB)(wo:LB0):D:=Dn (r.ps.find? λp=>p.lost es wo)
variable{a b c e:L2.D}
def VH(hok:∀r∈ms,r.Ok es.length)(f:wo.length=es.length)(hz:ms.length<=1000):C4 [slf es a b c d e C ms,.int t,.lst (wo.map D.bl)]=aa (.lst ((ms.filter λr=>r.hd==t).map λr=>fdL r es wo)):=
 lF (congrArg _ (d9 ms mkD _ _ rfl (by lia) λr hr=>dG rfl (bC (ap rfl rfl (by change dEq _ _=_;rfl))) λ_=>aG rfl (Do r.ps (hok r hr).ps f)))
def kpL(p:Prt)(es:LOB)(wo:LB0):LI0:=if p.lost es ((bL es.length).map (inS [])) then [] else (nmL p).filter λt=>wo.getD t.toNat af
variable{p:Prt}
def VI(f:p.Ok es.length)(hn:es.length<=60)(hm:(nmP p).length<=1000)(j:wo.length=es.length):C0 [slf es a b c d e C ms,p.obj,.lst (wo.map D.bl)]=aa (.lst ((kpL p es wo).map D.int)):=by
 have g:m_1 [.int es.length,.lst []]=aa (.lst (((bL es.length).map (inS [])).map D.bl)):=by
  have:=IX es.length [] (by lia) (by lia) (by decide)
  grind
 have i:=sM f hn;apply jN;apply am;show bc (df (I0 p f (by grind) rfl (ao rfl (ao (aG (ao (aG rfl (fX es shD)) rfl) g) rfl))) rfl) (λz=>?_) (λz=>b9 ?_)
 .show jp rfl (jO ?_);unfold kpL
  grind
 .show jp (d9 _ D.int _ D.int (fD (Jf p f hn hm rfl) rfl) (by lia) λt h=>dG rfl (df (ba rfl rfl (jM (qi f t (sN.mp h)).1 (by rw[j];show(qi f t (sN.mp h)).2))) rfl) λ_=>rfl) (jO ?_);unfold kpL
  grind
def VJ(p:Prt):(nmL p).Nodup:=by
 cases p with
 |inn t=>show b7.mpr ((λh=>nomatch h),fJ)
 |out t=>show b7.mpr ((λh=>nomatch h),fJ)
 |least k L=>show(lJ _).imp λh=>by lia
 |most k L=>show(lJ _).imp λh=>by lia
structure KOk(n:Nat)(wo:LB0)(fd:LI0):Prop where
 nd:fd.Nodup
 el:∀x∈fd,(0<=x/\x<(n:Int))/\wo.getD x.toNat af=ac
variable{fd:LI0}
def KOk.len(h:KOk n wo fd):fd.length<=n:=sU h.nd λx a=>(h.el x a).1
def KOk.more(h:KOk n wo fd)(d:p.Ok n):KOk n wo (fd++(kpL p es wo).filter λt=>!(fd.any λx=>x==t)):=by
 have b:(kpL p es wo).Sublist (nmL p):=by
  unfold kpL;split
  .grind
  .simp
 show(fh.mpr (h.nd,(w5 b (VJ p)).sublist oi,λx c y f e=>?_),λx c=>?_)
 .grind
 .rcases bv.mp c with q |q
  .show h.el x q
  .have a:=(cw.mp q).1;show(qi d x (sN.mp (b.subset a)),?_);unfold kpL at a
   grind
def JV(C:LI0)(i:Int):ko (.int i) (.lst (C.map D.int))=aa (.bl (!(C.any λx=>x==i))):=by
 change Option.map _ (if _=ac then aa _ else ab)=_;rw[if_pos (by rw[all_map];show(ca _ _).mpr (rfl,all_eq_true.mpr λ_ _=>rfl)),any_map];rfl
def VL{n m:Int}(a:M[i]?=aa (.im (.int n)))(k:K (.nx (M.set i (.im (.int (n+m)))))):wp (lS i (mX λ_=>aa (.int m))) M K:=(_,by
 unfold lS;rw[a];rfl,k)
def Kp(es:LOB)(wo:LB0)(fd:LI0)(r:Rul):Prop:=∃p∈r.ps,p.lost es wo=ac/\∀y∈kpL p es wo,y∈fd
structure s9(es:LOB)(wo:LB0)(ms:LRu)(t:Int)(ks:LI0):Prop where
 mt:t∈ks
 nd:ks.Nodup
 el:∀x∈ks,(0<=x/\x<(es.length:Int))/\wo.getD x.toNat af=ac
 kp:∀r∈ms,r.hd∈ks->Kp es wo ks r
def VM(hn:es.length<=60)(hok:∀r∈ms,r.Ok es.length)(hnm:∀r∈ms,∀p∈r.ps,(nmP p).length<=1000)(hw:wo.length=es.length)(hz:ms.length<=1000)(hl:∀r∈ms,wo.getD r.hd.toNat af=ac->r.bodyLost es wo=ac)(t0:0<=t)(t1:t<(es.length:Int))(ht:wo.getD t.toNat af=ac):
  ∃ks:LI0,lV [slf es a b c d e C ms,.int t,.lst (wo.map D.bl)]=aa (ks.map D.int)/\s9 es wo ms t ks:=by
 suffices h:wp sF _ (λr=>∃ks:LI0,r=.rtO (ks.map D.int)/\s9 es wo ms t ks) by
  have(r,e,ks,rfl,h):=h;show(ks,nt e,h)
 apply am;show d4 rfl ?_;walk_at "nrm";apply am;show bp rfl ?_;walk_at "nrm";apply am;show rP (λm M=>∃(fd:LI0) (g:Nat) (j:Sl),M=[.im _,.im _,.im _,.own (fd.map D.int),.im (.int g),j]/\KOk es.length wo fd/\g<=fd.length/\m+g=61/\t∈fd/\∀x∈fd.take g,∀r∈ms,r.hd=x->Kp es wo fd r) ?_ _ 61 _ ⟨[t],0,_,rfl,(b7.mpr ((λh=>nomatch h),fJ),λx i=>by rw[bB.mp i];show((t0,t1),ht)),ce _,rfl,az,λx i=>nomatch i⟩ (by decide);rintro m M ⟨fd,g,j,rfl,L,hp,hm,Q,I⟩;have hfl:=L.len;show(decide _,bC (ap rfl (aG rfl (fX fd D.int)) rfl),λz=>?_,λz=>?_)
 .have N:g<fd.length:=by have:=of_decide_eq_true z;lia
  obtain⟨x,i⟩:∃x,fd[g]?=aa x:=(_,bY N);have((x0,x1),xw):=L.el x (dP i)
  have U:atI (fd.map D.int) g=aa (.int x):=by
   rw[lH 0 (by lia) (by lia),dD,bK,i];rfl
  apply am;show dH _ _ (λpre M=>∃(ex:LI0) (j:Sl),M=[.im _,.im _,.im _,.own ((fd++ex).map D.int),.im _,j]/\KOk es.length wo (fd++ex)/\∀r∈pre,Kp es wo (fd++ex) r) (fD ((cz rfl rfl (ao (ba rfl rfl U) (ao rfl rfl))).trans (VH hok hw hz)) rfl) ⟨[],j,by rw[bN],by rw[bN];show L,λr hr=>nomatch hr⟩ ?_ ?_
  .rintro pre r post M ex ⟨xt,j,rfl,l,f⟩;have hrm:r∈ms.filter λr=>r.hd==x:=by rw[ex];simp
   have(hr,A):=cw.mp hrm;have A:r.hd=x:=by simpa using A
   obtain⟨p,v,hp2,hp3⟩:∃p,p∈r.ps/\fdL r es wo=p.obj/\p.lost es wo=ac:=by
    unfold fdL
    cases Y:r.ps.find? _ with
    |none=>
     have:=Dr (es:=es) (wo:=wo) r;rw[Y,(hl r hr (by rw[A];show xw))]at this
     nomatch this
    |some p=>show(p,wX Y,rfl,find?_some Y)
   have w:=(hok r hr).ps p v;have n:=l.more (es:=es) w;have J:=n.len;rw[aR]at J;show(_,rfl,?_);walk_at "nrm";rw[hp2];show(_,Dj (bW (d9 _ D.int _ D.int (fD ((cz rfl rfl (ao rfl (ao rfl rfl))).trans (VI w hn (hnm r hr p v) hw)) rfl) ?_ λy _=>dG rfl (bC (ap rfl rfl (JV (fd++xt) y))) λ_=>rfl)) rfl (by rw[aA,aA];lia),?_)
   .have:(kpL p es wo).length<=(nmL p).length:=by
     unfold kpL;split
     .show ce _
     .show gy _ _
    have:=sM w hn
    lia
   .rw[cJ]at n;show(_,.im p.obj,?_,n,λr' hr'=>?_)
    .simp only[bd,cJ];rfl
    .rcases bv.mp hr' with q |q
     .have(T,E,G,H):=f r' q;show(T,E,G,λy B=>by rw[<- cJ];show bZ _ (H y B))
     .rw[bB.mp q];show(p,v,hp3,λy B=>?_);rw[<- cJ]
      by_cases hm:y∈fd++xt
      .show bZ _ hm
      .show cv _ (cw.mpr (B,?_));rw[Bool.not_eq_true',<- Bool.not_eq_true];intro h;have(u,hu,e):=any_eq_true.mp h;rw[beq_iff_eq.mp e]at hu;show hm hu
  .rintro M ⟨xt,j,rfl,l,f⟩;show VL rfl (m-1,by lia,fd++xt,g+1,j,rfl,l,by rw[aR];lia,by lia,bZ _ Q,λy B r hr e=>?_);rw[take_append_of_le_length N,take_succ,i]at B
   rcases bv.mp B with q |q
   .have(T,E,G,H):=I y q r hr e;show(T,E,G,λz hz=>bZ _ (H z hz))
   .rw[bB.mp q]at e;show f r (cw.mpr (hr,by simpa using e))
 .show pJ rfl ?_;have hpl:g=fd.length:=by have:=of_decide_eq_false z;lia
  show jp (Qk rfl (by lia) L.nd) (_,rfl,(jo _ _).mpr Q,(lJ _).imp (λh=>by lia),λx i=>L.el x ((jo _ _).mp i),λr hr hd=>?_);have(T,E,G,H):=I r.hd (by rw[hpl,take_length];show(jo _ _).mp hd) r hr rfl;show(T,E,G,λz hz=>(jo _ _).mpr (H z hz))
abbrev eZ{a:Type}:Nat->List a->List (Nat×a)
 | _,[]=>[]
 |i,x::C=>(i,x,)::eZ (i+1) C
def tf{a:Type}(f:a->D):∀(i:Nat) (C:List a),iK i (C.map f)=(eZ i C).map λp=>D.tup [.int p.1,f p.2]
 | _,[]=>rfl
 |i,x::C=>by rw[bD,iK,tf f _ C];rfl
def wn{a:Type}:∀(i:Nat) (C:List a) (j:Nat),(eZ i C)[j]?=(C[j]?).map λx=>(i+j,x,)
 | _,[],_=>rfl
 |i,x::C,0=>rfl
 |i,x::C,j+1=>by rw[eZ,gZ,gZ,wn _ C j,show i+1+j=i+(j+1) by lia]
def kS{a:Type}{C:List a}{p:Nat×a}(h:p∈eZ 0 C):C[p.1]?=aa p.2:=by
 have(j,b):=oh h;rw[wn]at b
 grind
def wq{a:Type}:∀(i:Nat) (C:List a),(eZ i C).length=C.length
 | _,[]=>rfl
 |i,x::C=>by rw[eZ,cb,cb,wq _ C]
def inL(es:LOB)(wo:LB0):LI0:=((eZ 0 es).filter λp=>wo.getD p.1 af && p.2==aa ac).map λp=>(p.1:Int)
def jT(wo:LB0):LI0:=((eZ 0 wo).filter λp=>p.2).map λp=>(p.1:Int)
def VN(wo:LB0):eZ 0 wo=(bL wo.length).map λi=>(i,wo.getD i af,):=by
 apply mf;intro j;rw[wn,cB]
 grind
def wu(wo:LB0):jT wo=sI wo:=by
 unfold jT sI;rw[VN,filter_map,map_map];rfl
def DY:∀(ws:Wss),O.kns (ws.map λp=>lsO p.2)=ac
 | []=>by rw[map_nil,O.kns]
 |p::ws=>by rw[bD,O.kns,DY ws,lsO,O.kn,qh];rfl
def Spt.D(B:LRu)(s:Spt):L2.D:=(s.S B).o.toD
def gdT(B:LRu)(bs:LLP):L2.D:=.dT ((gys B.length bs.length).map wyK) ((gys B.length bs.length).map (gdD B bs))
def ww(B:LRu)(s:Spt):s.D B=slf s.es (.lst s.st) (.lst (s.bs.map eE)) (gdT B s.bs) (wsO (wtW s.tw)).toD (.lst (s.wt.map wyD)) [.lst s.pp,.int s.ct,.bl s.en] s.ms:=by
 dsimp only[Spt.D,Spr.o,Spt.S,slf,gdT];simp only[lsO,O.toD,O.toDs,rf,List.map,k4,oq]
def VO(B:LRu)(s:Spt):(s.S B).o.kn=ac:=by
 dsimp only[Spr.o,Spt.S,lsO,wsO];simp only[List.map,k4,oq,O.kn,O.kns,qh,qy];show DY _
def D0:cO 0 (.deep (.at l (s.S B).o)::M)=aa (s.D B):=by
 change(if (O.at l (s.S B).o).kn=ac then aa (O.at l (s.S B).o).toD else ab)=_;rw[O.kn,VO,if_pos rfl,O.toD];rfl
def wx(B:LRu)(s:Spt)(wo:LB0)(t:Int):LD:=(lV [s.D B,.int t,.lst (wo.map D.bl)]).getD []
def tj(B:LRu)(s:Spt)(wo:LB0)(t:Int):D:=.tup [.str "group",.lst (wx B s wo t)]
structure e7(n:Nat)(ms:LRu):Prop where
 ok:∀r∈ms,r.Ok n
 nm:∀r∈ms,∀p∈r.ps,(nmP p).length<=1000
 ne:∀r∈ms,r.w≠.never
 len:ms.length<=1000
def e7.of(hr:∀r∈B,RuK n r)(hz:B.length<=1000)(h:ms.Perm (eW B)):e7 n ms:=by
 have hm:∀r∈ms,r∈B/\r.w≠.never:=λr q=>by
  have(a,b):=cw.mp (h.mem_iff.mp q)
  grind
 show(λr q=>(hr r (hm r q).1).ok,λr q=>(hr r (hm r q).1).nm,λr q=>(hm r q).2,by rw[h.length_eq];show cS (gy _ _) hz)
def GpL(ms:LRu)(es:LOB)(wo:LB0):Prop:=wo.length=es.length/\∀r∈ms,wo.getD r.hd.toNat af=ac->r.bodyLost es wo=ac
def GpL.up(h:GpL ms es wo)(f:cR es es')(hok:∀r∈ms,r.Ok es.length):GpL ms es' wo:=(by rw[h.1,f.len],λr hr b=>rJ (λp a z=>uZ f (nh.refl _) ((hok r hr).ps p a) z) (h.2 r hr b))
variable{b:Bool}
def wz(t0:0<=t)(a:opn es t=ac):cR es (put es t.toNat b):=by
 show(b8 _ _ _,λi=>?_)
 by_cases e:i=t.toNat
 .rw[e];show .inl (iQ a)
 .show .inr (c7 es b e)
def D3(hn:n<=60)(a:s.es.length=n)(hm:e7 n s.ms)(b:GpL s.ms s.es wo)(t0:0<=t)(t1:t<(n:Int))(d:wo.getD t.toNat af=ac):∃ks:LI0,wx B s wo t=ks.map D.int/\lV [s.D B,.int t,.lst (wo.map D.bl)]=aa (ks.map D.int)/\s9 s.es wo s.ms t ks:=by
 have(ks,c,h):=VM (by lia) (by rw[a];show hm.ok) hm.nm b.1 hm.len b.2 t0 (by rw[a];show t1) d;unfold wx;rw[ww B s,c];show(ks,rfl,rfl,h)
def JW(hn:n<=60)(a:s.es.length=n)(hm:e7 n s.ms)(e:GpL s.ms s.es wo)(t0:0<=t)(t1:t<(n:Int))(g:wo.getD t.toNat af=ac)(f:fo M=aa (s.D B))(ha:fa M=aa [.int t,.lst (wo.map D.bl)]):
  iw "Seeking" "kernel" lV fo fa M=aa (wx B s wo t):=by
 have(ks,c,b,_):=D3 hn a hm e t0 t1 g;rw[c];unfold iw;rw[f,ax];rw[ww B s]at b ⊢;change(if "Seeking"="Seeking" /\ List.contains (spN++(["paper","count","ended"]:LSt)) "kernel"=af then (fa M).bind λas=>(lV (slf s.es _ _ _ _ _ _ s.ms::as)).bind λB=>if B.all D.flat then aa B else ab else ab)=_;rw[if_pos (rfl,rfl),ha,ax,b,ax,if_pos (all_eq_true.mpr λd hd=>by have(z,_,rfl):=aJ.mp hd;rfl)]
def eG(B:LRu)(wo:LB0)(s:Spt)(ts:LI0):Spt:=ts.foldl (λs t=>s.pt t af (tj B s wo t)) s
def wA{n c W7:Nat}{B:LRu}{wo:LB0}:∀{ts:LI0} {s:Spt},SpJ n c W7 B s->fG s.es (ts.map λt=>(t,af,))->SpJ n c W7 B (eG B wo s ts)/\Me c (eG B wo s ts)+ts.length<=Me c s/\(eG B wo s ts).es=ts.foldl (λes t=>put es t.toNat af) s.es/\cR s.es (eG B wo s ts).es/\(eG B wo s ts).bs=s.bs/\(eG B wo s ts).ms=s.ms
 | [],s,h,_=>(h,aL _,rfl,cR.refl _,rfl,rfl)
 |t::ts,s,h,k=>by
  have((a,b),e):=k.op _ az;have(f,h2):=h.pt a (by rw[<- h.es];show b) e;have(g,j,m,d,p,r):=wA f k.tail;show(g,?_,m,?_,p,r)
  .have l:Me c (eG B wo (s.pt t af _) ts)+ts.length<=Me c _:=j;change Me c (eG B wo (s.pt t af _) ts)+(ts.length+1)<=_;lia
  .have f1:cR s.es (put s.es t.toNat af):=wz a e;show(d.len.trans f1.len,λi=>?_)
   rcases f1.at' i with q |q
   .show .inl q
   .rcases d.at' i with z |z
    .show .inl (q.symm.trans z)
    .show .inr (z.trans q)
def psT{pre post:LI0}(h:fG es ((pre++post).map λt=>(t,af,))):fG es (pre.map λt=>(t,af,)):=by
 rw[bd]at h;show h.pre
def reM(s:Spt):Spt:={s with ms:=(ci s.es s.ms).2.1++(ci s.es s.ms).2.2}
abbrev bI(B:LRu)(s:Spt):OD×Spt:=match inL s.es (ci s.es s.ms).1 with
 |x::_=>(aa (tj B (reM s) (ci s.es s.ms).1 x),reM s,)
 | []=>(ab,eG B (ci s.es s.ms).1 (reM s) (jT (ci s.es s.ms).1),)
variable{c:Nat}
def SpJ.rem'(h:SpJ n c W7 B s)(hm:e7 n s.ms):SpJ n c W7 B (reM s)/\GpL s.ms s.es (ci s.es s.ms).1/\(reM s).ms.Perm s.ms/\∀i,(ci s.es s.ms).1.getD i af=ac->s.es.getD i ab≠aa af:=by
 have(a,b):=Js (es:=s.es) hm.ne;have pm:((ci s.es s.ms).2.1++(ci s.es s.ms).2.2).Perm s.ms:=by have:=a.pm;rw[bN]at this;show this
 show((h.es,h.bk,h.tw,h.wv,pm.trans h.ms,h.mB,h.sB,h.sv),(a.len,λr hr d=>?_),pm,λi hi e=>?_)
 .have:=b r hr;unfold iP at this
  grind
 .have:=a.pe.sub i hi;unfold jx at this
  grind
def GpL.grp(h:GpL ms es wo)(pm:ms.Perm (eW B))(hn:∀i,wo.getD i af=ac->es.getD i ab≠aa af):Grp B es wo:=(h.1,hn,λr hr=>h.2 r (pm.mem_iff.mpr hr))
def JX:t∈jT wo↔0<=t/\wo.getD t.toNat af=ac:=by rw[wu];show vO wo t
def VP(wo:LB0):(jT wo).Nodup:=by
 rw[wu];show w6 _ (λa b h e=>h (by lia)) (nodup_range.filter _)
def JY(h:inL es wo=[])(i:Nat)(b:wo.getD i af=ac):es.getD i ab≠aa ac:=λe=>by
 rw[bK]at e
 cases a:es[i]? with
 |none=>rw[a]at e;nomatch e
 |some x=>
  rw[a]at e;have e:x=aa ac:=e;have hm:(i,x,)∈eZ 0 es:=dP (by rw[wn,a];simp);have:_∈inL es wo:=aJ.mpr (_,cw.mpr (hm,by rw[b,e];rfl),rfl)
  grind
def tm(d:wo.length=es.length)(h:inL es wo=[])(hn:∀i,wo.getD i af=ac->es.getD i ab≠aa af):fG es ((jT wo).map λt=>(t,af,)):=by
 show(by rw[map_map];have:=VP wo;simpa[Function.comp_def]using this,λz hz=>?_);have(t,a,rfl):=aJ.mp hz;have(t0,tw):=JX.mp a
 have lt:t.toNat<wo.length:=by
  grind
 show((t0,by change t<_;lia),?_);unfold opn
 cases c:es.getD t.toNat ab with
 |none=>rfl
 |some b=>cases b with
  |true=>show absurd c (JY h _ tw)
  |false=>grind
def wB(hr:∀r∈B,RuK n r)(hz:B.length<=1000)(h:SpJ n c W7 B s):SpJ n c W7 B (bI B s).2/\(bI B s).2.bs=s.bs/\Mvs B s.bs s.es (bI B s).2.es/\Me c (bI B s).2<=Me c s/\((bI B s).1=ab->s.wt=[]->(bI B s).2.wt≠[]->Me c (bI B s).2<Me c s)/\((bI B s).1≠ab->∃wo,Grp B (bI B s).2.es wo/\∃i,wo.getD i af=ac/\(bI B s).2.es.getD i ab=aa ac):=by
 have(m,f,pm,a):=h.rem' (e7.of hr hz h.ms);unfold bI
 cases q:inL s.es (ci s.es s.ms).1 with
 |cons x C=>
  show(m,rfl,.refl,aL _,(λe=>by nomatch e),λ_=>(_,f.grp h.ms a,?_));have l:x∈inL s.es (ci s.es s.ms).1:=by grind
  have(p,v,rfl):=aJ.mp l;have(g,j):=cw.mp v;have (h4,h5):=(ca _ _).mp j;show(p.1,h4,?_);change s.es.getD p.1 ab=aa ac;rw[bK,(kS g)]
  grind
 |nil=>
  dsimp only;have(o1,o2,z,E,A,G):=wA m (tm f.1 q a);have y:Me c _+(jT (ci s.es s.ms).1).length<=Me c s:=o2;show(o1,A,?_,by lia,λ_ w d=>?_,λe=>absurd rfl e)
  .rw[z,wu];show .out .refl (f.grp h.ms a) λi hi=>?_;change s.es.getD i ab=ab
   cases l:s.es.getD i ab with
   |none=>rfl
   |some b=>cases b with
    |true=>show absurd l (JY q i hi)
    |false=>grind
  .cases u:jT (ci s.es s.ms).1 with
   |nil=>
    rw[u]at d
    show absurd w d
   |cons t ts=>
    grind
def VQ(hr:∀r∈B,RuK n r)(hz:B.length<=1000)(hn:n<=60)(hB:W7+c<16777216)(h:SpJ n c W7 B s):C8 l [] (s.S B).o=aa (((bI B s).2.S B).o,(bI B s).1.getD .non,):=by
 have hm:=e7.of hr hz h.ms;have(h1,w,pm,E):=h.rem' hm;have j:(s.S B).es=s.es:=rfl;have a:=h.es;have e:e7 n (reM s).ms:=(λr q=>hm.ok r (pm.mem_iff.mp q),λr q=>hm.nm r (pm.mem_iff.mp q),λr q=>hm.ne r (pm.mem_iff.mp q),by rw[pm.length_eq];show hm.len);have f:GpL (reM s).ms s.es (ci s.es s.ms).1:=(w.1,λr q=>w.2 r (pm.mem_iff.mp q));have g:=w.1;unfold bI;generalize J:(ci s.es s.ms).1=wo at *;apply fF;apply am;show jz (fE rfl rfl rfl rfl (U8 (s:=s.S B) (by change 3<900;decide) rfl (by rw[j];lia) (by rw[j,a];show hm.ok) hm.ne hm.len)) ?_;change wp _ [.deep _,.im (.lst ((ci s.es s.ms).1.map D.bl)),.no,.no,.no] _;rw[J];apply am;show bp (d:=.lst ((inL s.es wo).map D.int)) (bW ?_) ?_
 .unfold inL;rw[map_map];show d9 (eZ 0 s.es) (λp=>D.tup [.int p.1,shD p.2]) _ _ ?_ (by rw[wq];lia) λp G=>?_
  .rw[<- tf];change(pC _ _).map _=_;rw[sJ jR];rfl
  .have A:=(cX.mp (kS G)).1;show dG rfl (jL (df (ba rfl rfl (jM (by lia) (by lia))) rfl) (bC (ap rfl rfl ?_))) λ_=>rfl;have(i,x):=p
   cases x with
   |none=>rfl
   |some b=>cases b <;> rfl
 .change wp _ [.deep (.at l ((reM s).S B).o),.im _,.no,.im _,.no] _;apply am
  cases U:inL s.es wo with
  |cons x C=>
   have u:x∈inL s.es wo:=by rw[U];show az
   have(p,G,ep):=aJ.mp u;have(H,I):=cw.mp G;have h3:=(cX.mp (kS H)).1;have (h4,h5):=(ca _ _).mp I
   show ju (d:=tj B (reM s) wo x) (cV (ao rfl (ao (bW (JW hn a e f (by lia) (by lia) (by rw[<- ep,dD];show h4) D0 (ao (ba rfl rfl (lH 0 (by decide) (by rw[cb];lia))) (ao rfl rfl)))) rfl))) (_,rfl,rfl,rfl)
  |nil=>
   have ps:=tm g U E;show bc rfl (λz=>by nomatch z) (λ_=>b9 ?_);apply am;show dH (eZ 0 wo) (λp=>D.tup [.int p.1,.bl p.2]) (λpre M=>∃N Q,M=[.deep (.at l ((eG B wo (reM s) ((pre.filter λp=>p.2).map λp=>p.1)).S B).o),.im _,N,.im _,Q]) ?_ (_,_,rfl) ?_ ?_
   .rw[<- tf];show vT rfl
   .rintro pre p post M ex ⟨N,Q,rfl⟩;show(_,rfl,?_);walk_at "nrm";have u:=kS (p:=p) (by rw[ex];simp);have A:=(cX.mp u).1
    cases m:p.2 with
    |false=>
     show bc rfl (λz=>by nomatch z) (λ_=>b9 ?_);show(.im (.int p.1),.im (.bl af),?_)
     rw[jY,filter_cons_of_neg (by rw[m];show bJ),filter_nil,bN]
    |true=>
     have v:jT wo=(pre.filter λp=>p.2).map (λp=>(p.1:Int))++(p.1:Int)::(post.filter λp=>p.2).map λp=>p.1:=by
      unfold jT;simp only[ex,jY,qB m,bd,bD]
     rw[v]at ps;have(o1,o2,o3,o4,o5,Y):=wA (wo:=wo) h1 (psT ps);generalize hT:(pre.filter λp=>p.2).map _=T at *;have y:GpL (eG B wo (reM s) T).ms (eG B wo (reM s) T).es wo:=by rw[Y];show f.up o4 (by change ∀r∈(reM s).ms,r.Ok s.es.length;rw[a];show e.ok)
     have L:wo.getD (p.1:Int).toNat af=ac:=by simp only[dD,bK,u,m];rfl
     show jw (fE rfl rfl (dJ rfl (dJ rfl (dJ (cV (ao rfl (ao (bW (JW hn o1.es (by rw[Y];show e) y (by lia) (by lia) L D0 (ao rfl (ao rfl rfl)))) rfl))) rfl))) rfl (DV o1 hB (by lia) (by lia))) ?_;show(.im (.int p.1),.im (.bl ac),?_);rw[jY,qB m,bd,hT];unfold eG;rw[filter_nil,bD,map_nil,eI];rfl
   .rintro M ⟨N,Q,rfl⟩;show ju rfl (_,rfl,rfl,rfl)
abbrev stF(B:LRu)(c:Nat):Nat->Spt->OD×Spt
 | 0,s=>(ab,s,)
 |k+1,s=>if (lrF B (Me c s+1) s).1.isSome then ((lrF B (Me c s+1) s).1.map wyD,(lrF B (Me c s+1) s).2,) else if ((bI B (lrF B (Me c s+1) s).2).1.isSome || (bI B (lrF B (Me c s+1) s).2).2.wt.isEmpty) then bI B (lrF B (Me c s+1) s).2 else stF B c k (bI B (lrF B (Me c s+1) s).2).2
def VR(B:LRu)(bs:LLP)(es:LOB):Prop:=(∃y∈gys B.length bs.length,∀p∈bQ B bs y,p.sure es=ac)\/∃wo,Grp B es wo/\∃i,wo.getD i af=ac/\es.getD i ab=aa ac
structure VS(n c W7:Nat)(B:LRu)(s:Spt)(R:OD×Spt):Prop where
 ok:SpJ n c W7 B R.2
 bs:R.2.bs=s.bs
 mv:Mvs B s.bs s.es R.2.es
 en:R.1≠ab->VR B s.bs R.2.es
 tp:∀w,R.1=aa w->∃ds,w=.tup ds
def VT(h:(bI B s).1=aa w):∃ds,w=.tup ds:=by
 unfold bI at h;split at h
 .cases h;show(_,rfl)
 .grind
def none_of{a:Type}{x:Option a}(h:¬x.isSome=ac):x=ab:=by simp_all
def D4{n c W7:Nat}{B:LRu}(hr:∀r∈B,RuK n r)(hz:B.length<=1000):∀(k:Nat) (s:Spt),SpJ n c W7 B s->Me c s<k->VS n c W7 B s (stF B c k s)
 | 0,_,_,h=>absurd h (g9 _)
 |k+1,s,h,hk=>by
  have l:=sZ hr _ s h (c8 _);dsimp only[stF];generalize lrF B _ s=R at l;split
  .rename_i d;have(y,j):=xi.mp d;show(l.ok,l.bs,l.mv,(λ_=>.inl (y,l.ye y j)),λw i=>by rw[j]at i;cases i;show(_,rfl))
  .rename_i d;have(m,p,f,z,q,u):=wB hr hz l.ok;rw[l.bs]at f;have x:=l.le;have pt:=λw=>VT (B:=B) (s:=R.2) (w:=w);generalize bI B R.2=P at *;split
   .show(m,p.trans l.bs,l.mv.trans f,(λe=>.inr (u e)),pt)
   .rename_i g;have h2:P.2.wt≠[]:=λe=>g (by rw[e];show qA _);have v:=q (none_of λe=>g (by rw[e];rfl)) (l.no (none_of d)) h2;have a:=D4 hr hz k P.2 m (by lia);have b:=p.trans l.bs;show(a.ok,a.bs.trans b,(l.mv.trans f).trans (by have:=a.mv;rw[b]at this;show this),(λe=>by have:=a.en e;rw[b]at this;show this),a.tp)
def VU(B:LRu)(s:Spt):dIs ((bI B s).1.getD .non) .non=aa (.bl (!(bI B s).1.isSome)):=by
 unfold bI
 split <;> rfl
def VV{k:Nat}(hr:∀r∈B,RuK n r)(hz:B.length<=1000)(hn:n<=60)(hB:W7+c<16777216)(h:SpJ n c W7 B s)(E:Me c s<k)(C:k<1000000000):sG l [] (s.S B).o=aa (((stF B c k s).2.S B).o,(stF B c k s).1.getD .non,):=by
 apply fF;apply am;show bp rfl ?_;walk_at "nrm";apply am;show rP (λm M=>∃(a:Spt) (g:Bool) (j:Sl),M=[.deep (.at l (a.S B).o),.im (.bl g),j]/\(g=ac->SpJ n c W7 B a/\Me c a<m/\stF B c m a=stF B c k s)/\(g=af->∃w:OD,j=.im (w.getD .non)/\(w,a,)=stF B c k s)) ?_ _ k _ ⟨s,ac,_,rfl,λ_=>(h,E,rfl),λz=>by nomatch z⟩ C;rintro m M ⟨a,g,j,rfl,u,q⟩;generalize stF B c k s=Z at u q ⊢;show(g,rfl,?_,?_)
 .rintro rfl;have(h',hm,b):=u rfl
  cases m with
  |zero=>show absurd hm (g9 _)
  |succ m=>
   have f:=sZ hr _ a h' (c8 _);have mB:=h'.mB;have v:=VG (l:=l) hr hB h' (c8 _) (by change Me c a+1<_;change iR a.es*_+a.wt.length+1<_;lia);dsimp only[stF]at b;generalize lrF B _ a=R at *;apply am;show jz (fE rfl rfl rfl rfl v) ?_;apply am
   cases hR:R.1 with
   |some y=>
    rw[if_pos (by rw[hR];rfl),hR]at b
    show bc rfl (λz=>by nomatch z) (λ_=>b9 (bp ((uU rfl (ap (aG (ao (jt qg) rfl) (fX R.2.wt wyD)) rfl lO)).trans rfl) (0,ou _,R.2,af,_,rfl,(λz=>by nomatch z),λ_=>(aa _,rfl,b))))
   |none=>
    rw[if_neg (by rw[hR];show bJ)]at b;have(G,L,N,Q,H,T):=wB hr hz f.ok;have x:=VQ (l:=l) hr hz hn hB f.ok;have A:=VU B R.2;have J:=f.le;generalize bI B R.2=P at *;show jz (fE rfl rfl rfl rfl x) ?_;show bp (uU (ap rfl rfl A) (ap (aG (ao (jt qg) rfl) (fX P.2.wt wyD)) rfl lO)) ?_
    by_cases d:(P.1.isSome || P.2.wt.isEmpty)=ac
    .rw[if_pos d]at b
     have i:(!P.1.isSome && decide ((0:Int)<P.2.wt.length))=af:=by
      rcases(jW _ _).mp d with z |z
      .rw[z];rfl
      .rw[isEmpty_iff.mp z];show tI _
     rw[i];show(0,ou _,P.2,af,_,rfl,(λz=>by nomatch z),λ_=>(P.1,rfl,b))
    .rw[if_neg d]at b;have p:=none_of λe=>d (by rw[e];rfl);have h2:P.2.wt≠[]:=λe=>d (by rw[e];show qA _);have I:=H p (f.no hR) h2
     have i:(!P.1.isSome && decide ((0:Int)<P.2.wt.length))=ac:=by
      have:=length_pos_iff.mpr h2;rw[p,decide_eq_true (by lia)];rfl
     simp only[i];show⟨m,c8 _,P.2,ac,_,rfl,(λ_=>(G,by lia,b)),λz=>by nomatch z⟩
 .rintro rfl;have(w,rfl,e):=q rfl;rw[<- e];show ju rfl (_,rfl,rfl,rfl)
structure SpB(n c:Nat)(B:LRu)(s:Spt):Prop where
 es:s.es.length=n
 bk:∀b∈s.bs,cW n b
 tw:dX c B.length s.bs s.tw
 wv:∀y∈s.wt,y∈gys B.length s.bs.length
 ms:s.ms.Perm (eW B)
 st:s.st=[]
 wl:s.wt.length=B.length+s.bs.length
def JZ{n q R:Nat}(hn:n<=60):∀(B:LRu) (i c:Nat) (tw:Wt),(∀r∈B,RuK n r/\(grd r).length<=q)->i+B.length<=R->dX c R [] tw->dX (c+64*q*B.length) R [] (nV i B tw)
 | [],_,_,_,_,_,h=>h
 |r::B,i,c,tw,hr,hi,h=>by
  have(f,g):=hr r az;simp only[cb]at hi
  have a:dX (c+64*q) R [] (f6 (af,i,) (grd r) tw):=by
   show(?_,λp y d=>?_,λj=>?_)
   .rw[<- we];show(bT.reg hn (vS f) h.wk).le ?_
    lia
   .by_cases e:y=(af,i,)
    .rw[e];show eY.mpr ?_;change i<R
     lia
    .show h.vl p y (gW.mpr ?_);rw[<- nW e p _];show gW.mp d
   .show .inl λp=>?_;rw[nW (λe=>by cases e)]
    rcases h.br j with z |z
    .show z p
    .rw[z p]
     show if_neg λx=>by
      cases x
  have:=JZ hn B (i+1) _ _ (λx b=>hr x (bi _ b)) (by lia) a;rw[cb,Nat.mul_succ,show c+_=c+64*q+64*q*B.length by lia];show this
def VW{q:Nat}(hn:n<=60)(a:es.length=n)(hr:∀r∈B,RuK n r/\(grd r).length<=q):SpB n (64*q*B.length) B (spT es B):=by
 show(a,(λb h=>nomatch h),?_,λy c=>?_,tQ _,rfl,by change((bL B.length).map _).length=_;rw[aA,cI];rfl)
 .have:=JZ (R:=B.length) hn B 0 0 [] hr (by lia) (⟨ce _,λp h=>nomatch h⟩,(λp y h=>nomatch h),λj=>.inl λp=>rfl);rw[k7]at this;show this
 .have(i,hi,rfl):=aJ.mp c;show eY.mpr (eJ.mp hi)
inductive Wh where
 |ch
 |gd (y:Wy)
 |gp (ks:LI0)
 |wd (i:Int)
abbrev Wh.D:Wh->L2.D
 |.ch=>.non
 |.gd y=>wyD y
 |.gp ks=>.tup [.str "group",.lst (ks.map .int)]
 |.wd i=>.tup [.str "world",.int i]
def mkS(n:Nat)(ks:LI0):LB0:=(bL n).map (inS ks)
def qo(n:Nat)(ks:LI0):(mkS n ks).length=n:=by unfold mkS;rw[aA,cI]
variable{ks:LI0}
def lZ(t0:0<=t)(t1:t<(n:Int)):(mkS n ks).getD t.toNat af=ac↔t∈ks:=by
 delta mkS inS
 rw[bK,cB,tL (by lia)];change(ks.any λx=>x==_)=ac↔_;rw[any_eq_true];constructor
 .rintro⟨x,a,e⟩
  rwa [show t=x by lia]
 .intro h;show(t,h,by rw[beq_iff_eq];lia)
nonrec abbrev d7(G:List Prt)(es:LOB):Prop:=∀p∈G,p.sure es=ac
structure GpR(n:Nat)(B:LRu)(es:LOB)(ks:LI0):Prop where
 nn:∀x∈ks,0<=x/\x<(n:Int)
 nd:ks.Nodup
 i:∃x∈ks,es.getD x.toNat ab=aa ac
 up:∀r∈eW B,r.hd∈ks->r.bodyLost es (mkS n ks)=ac
abbrev Rt(n:Nat)(B:LRu)(bs:LLP)(es:LOB):Wh->Prop
 |.ch=>False
 |.gd y=>y∈gys B.length bs.length/\d7 (bQ B bs y) es
 |.gp ks=>GpR n B es ks
 |.wd _=>∀k,k<n->es.getD k ab≠ab
nonrec def Stp:=Pr×Wh
nonrec abbrev LSp:=List Stp
def stD(x:Stp):D:=.tup [prD x.1,x.2.D]
abbrev aW(n:Nat):LSp->LOB
 | []=>g6 n ab
 |x::st=>put (aW n st) x.1.1.toNat x.1.2
abbrev Wh.nc:Wh->Bool
 |.gd _=>ac
 |.gp _=>ac
 | _=>af
structure VX(n:Nat)(B:LRu)(bs:LLP)(es:LOB)(x:Stp):Prop where
 t0:0<=x.1.1
 t1:x.1.1<(n:Int)
 op:opn es x.1.1=ac
 ok:(x.2=.ch/\x.1.2=ac/\∀j:Nat,(j:Int)<x.1.1->es.getD j ab≠ab)\/(x.2.nc=ac/\Rt n B bs (put es x.1.1.toNat (!x.1.2)) x.2)
abbrev Tr(n:Nat)(B:LRu)(bs:LLP):LSp->Prop
 | []=>True
 |x::st=>Tr n B bs st/\VX n B bs (aW n st) x
def e8(n:Nat):∀st:LSp,(aW n st).length=n
 | []=>l8
 |x::st=>by rw[aW,b8,e8 n st]
structure TrS(n:Nat)(B:LRu)(s:Spt)(st:LSp):Prop where
 sv:s.st=st.reverse.map stD
 es:s.es=aW n st
 tr:Tr n B s.bs st
variable{st:LSp}{w:Wh}
def TrS.pt(h:TrS n B s st)(t0:0<=t)(t1:t<(n:Int))(a:opn s.es t=ac)(c:w.nc=ac)(k:Rt n B s.bs (put s.es t.toNat (!b)) w):TrS n B (s.pt t b w.D) (((t,b,),w,)::st):=by
 show(?_,?_,h.tr,t0,t1,h.es▸a,.inr (c,h.es▸k))
 .change s.st++[_]=_;rw[h.sv,iW,bd];rfl
 .change put s.es _ _=_;rw[h.es];rfl
def TrM(n:Nat)(B:LRu)(st:LSp)(s:Spt):Prop:=∃xt:LSp,TrS n B s (xt++st)/\∀x∈xt,x.2.nc=ac
def TrM.refl(h:TrS n B s st):TrM n B st s:=⟨[],h,λ_ h=>nomatch h⟩
def TrM.pt(h:TrM n B st s)(t0:0<=t)(t1:t<(n:Int))(a:opn s.es t=ac)(c:w.nc=ac)(k:Rt n B s.bs (put s.es t.toNat (!b)) w):TrM n B st (s.pt t b w.D):=by
 have(xt,h,d):=h;show(_::xt,h.pt t0 t1 a c k,λx q=>?_)
 grind
def TrM.same{a:Spt}(h:TrM n B st s)(b:a.st=s.st)(c:a.es=s.es)(d:a.bs=s.bs):TrM n B st a:=by
 have(xt,h,e):=h;show(xt,(by rw[b];show h.sv,by rw[c];show h.es,by rw[d];show h.tr),e)
def D5{n:Nat}{B:LRu}{y:Wy}{st:LSp}:∀{ps:List Pr} {s:Spt},y∈gys B.length s.bs.length->s.es.length=n->(∀p∈bQ B s.bs y,p.Ok s.es.length)->fG s.es ps->(∀z∈ps,d7 (bQ B s.bs y) (put s.es z.1.toNat (!z.2)))->TrM n B st s->TrM n B st (puts s (wyD y) ps)
 | [],_,_,_,_,_,_,h=>h
 |z::ps,s,hy,hl,hG,k,hp,h=>by
  have((a,b),e):=k.op z az;have(d,g):=b7.mp k.nd;show D5 (s:=s.pt z.1 z.2 _) hy ((b8 _ _ _).trans hl) (λp q=>by change p.Ok (put s.es z.1.toNat z.2).length;rw[b8];show hG p q) k.tail (λx c p q=>?_) (h.pt (w:=.gd y) a (by lia) e rfl (hy,hp z az));have((f,i),j):=k.op x (bi _ c);have ne:z.1≠x.1:=λe=>d (aJ.mpr (x,c,e.symm));change p.sure (put (put s.es z.1.toNat z.2) x.1.toNat _)=ac;rw[wj (by lia)];show wa (by rw[b8];show hG p q) a (by rw[b8];show b) (wm a f ne e) _ (hp x (bi _ c) p q)
def tq{n c W7:Nat}{B:LRu}{st:LSp}(hr:∀r∈B,RuK n r):∀(k:Nat) (s:Spt),SpJ n c W7 B s->TrM n B st s->TrM n B st (lrF B k s).2
 | 0,_,_,h=>h
 |k+1,s,h,q=>by
  cases a:s.wt with
  |nil=>rw[sX a];show q
  |cons y wt=>
   have(f,_,g):=h.pop a;have d:∀p∈bQ B s.bs y,p.Ok s.es.length:=by rw[h.es];show n4 hr h.bk
   cases b:prs _ s.es with
   |none=>rw[sY a b];show q.same rfl rfl rfl
   |some ps=>
    rw[qm a b];have(e,i,_):=nY d b;show tq hr k _ (nX f e).1 (D5 g h.es d e (λz hz=>((i z).mp hz).2.2) (q.same rfl rfl rfl))
variable{wo':LB0}
def J0(h:p.Ok es.length)(a:∀t∈nmP p,es.getD t.toNat ab=aa ac->es'.getD t.toNat ab=aa ac)(h2:∀t∈nmP p,(es.getD t.toNat ab=aa af\/wo.getD t.toNat af=ac)->(es'.getD t.toNat ab=aa af\/wo'.getD t.toNat af=ac))(s:p.lost es wo=ac):p.lost es' wo'=ac:=by
 cases p with
 |inn t=>
  have s:(_ || wo.getD t.toNat af)=ac:=s;change(_ || wo'.getD t.toNat af)=ac;rw[jW]at s ⊢
  rcases h2 t az (s.imp beq_iff_eq.mp id)with q |q
  .grind
  .grind
 |out t=>show beq_iff_eq.mpr (a _ az (beq_iff_eq.mp s))
 |least k L=>
  show decide_eq_true (Int.lt_of_le_of_lt (lI λz hz=>((h.1 z hz).2.2,λq=>?_)) (of_decide_eq_true s))
  cases b:(!_ && !_)with
  |true=>rfl
  |false=>
   have:es.getD z.1.toNat ab=aa af\/wo.getD z.1.toNat af=ac:=by
    grind
   rcases h2 z.1 (aJ.mpr (z,hz,rfl)) this with u |u
   .grind
   .grind
 |most k L=>
  show decide_eq_true (Int.lt_of_lt_of_le (of_decide_eq_true s) ?_);rw[jI,jI];show lI λz hz=>((h.1 z hz).2.2,λq=>beq_iff_eq.mpr (a _ (aJ.mpr (z,hz,rfl)) (beq_iff_eq.mp q)))
def VY{r:Rul}(g:es.length=n)(hr:r.Ok n)(h:Kp es wo ks r):r.bodyLost es (mkS n ks)=ac:=by
 subst g;have(p,c,l,a):=h;have b:=hr.ps p c;show any_eq_true.mpr (p,c,?_);unfold kpL at a
 by_cases d:p.lost es ((bL es.length).map (inS []))=ac
 .show uZ (cR.refl _) (by rw[qo,aA,cI],λi hi=>?_) b d;rw[bK,cB]at hi
  cases e:(bL es.length)[i]? with
  |none=>rw[e]at hi;nomatch hi
  |some j=>rw[e]at hi;nomatch hi
 .rw[if_neg d]at a;show J0 b (λ_ _ e=>e) (λt f e=>e.imp id λw=>?_) l;have(t0,t1):=qi b t f;show(lZ t0 t1).mpr (a t (cw.mpr (sN.mpr f,w)))
def s9.gp(h:s9 es wo ms t ks)(a:es.length=n)(hm:∀r∈ms,r.Ok n)(pm:ms.Perm (eW B))(f:cR es es')(hi:es'.getD t.toNat ab=aa ac):GpR n B es' ks:=by
 subst a;show(λx c=>(h.el x c).1,h.nd,(t,h.mt,hi),λr hr hd=>?_);have hr:=pm.mem_iff.mpr hr;show rJ (λp b z=>uZ f (nh.refl _) ((hm r hr).ps p b) z) (VY rfl (hm r hr) (h.kp r hr hd))
def J4{n c W7:Nat}{B:LRu}{wo:LB0}{st:LSp}(hn:n<=60):∀{ts:LI0} {s:Spt},SpJ n c W7 B s->e7 n s.ms->GpL s.ms s.es wo->(∀t∈ts,wo.getD t.toNat af=ac)->fG s.es (ts.map λt=>(t,af,))->TrM n B st s->TrM n B st (eG B wo s ts)
 | [],_,_,_,_,_,_,h=>h
 |t::ts,s,h,hm,hg,hw,k,q=>by
  have((a,b),e):=k.op _ az;have b:t<n:=by rw[<- h.es];show b
  have a:0<=t:=a;have(ks,d,_,f):=D3 hn h.es hm hg a b (hw t az);show J4 hn (s:=s.pt t af _) (h.pt a b e).1 hm (hg.up (wz a e) (by rw[h.es];show hm.ok)) (λu g=>hw u (bi _ g)) k.tail ?_;unfold tj;rw[d];show(q.pt (w:=.gp ks) a b e rfl (f.gp h.es hm.ok h.ms (wz a e) (eV s.es ac (by rw[h.es];lia))))
def VZ(hr:∀r∈B,RuK n r)(hz:B.length<=1000)(hn:n<=60)(h:SpJ n c W7 B s)(q:TrM n B st s):TrM n B st (bI B s).2/\∀w,(bI B s).1=aa w->∃ks,w=(Wh.gp ks).D/\GpR n B (bI B s).2.es ks:=by
 have hm:=e7.of hr hz h.ms;have(f,g,pm,i):=h.rem' hm;have a:e7 n (reM s).ms:=(λr q=>hm.ok r (pm.mem_iff.mp q),λr q=>hm.nm r (pm.mem_iff.mp q),λr q=>hm.ne r (pm.mem_iff.mp q),by rw[pm.length_eq];show hm.len);have b:GpL (reM s).ms (reM s).es (ci s.es s.ms).1:=(g.1,λr q=>g.2 r (pm.mem_iff.mp q));have m:TrM n B st (reM s):=q.same rfl rfl rfl;unfold bI
 cases l:inL s.es (ci s.es s.ms).1 with
 |cons x C=>
  show(m,λw e=>?_);cases e;have E:x∈inL s.es (ci s.es s.ms).1:=by rw[l];show az
  have(p,z,rfl):=aJ.mp E;have(d,j):=cw.mp z;have (h4,h5):=(ca _ _).mp j;have y:=(cX.mp (kS d)).1;have(ks,u,_,v):=D3 (t:=p.1) hn f.es a b (by lia) (by rw[<- h.es];lia) (by rw[dD];show h4);show(ks,?_,v.gp f.es a.ok f.ms (cR.refl _) ?_)
  .unfold tj;rw[u];rfl
  .change s.es.getD (p.1:Int).toNat ab=aa ac;rw[dD,bK,(kS d)]
   show eq_of_beq h5
 |nil=>show⟨J4 hn f a b (λt A=>(JX.mp A).2) (tm g.1 l i) m,λw e=>nomatch e⟩
structure StS(n:Nat)(B:LRu)(s:Spt)(R:OD×Spt):Prop where
 tw:R.2.tw=s.tw
 pp:R.2.pp=s.pp
 ct:R.2.ct=s.ct
 en:R.2.en=s.en
 wy:∀w,R.1=aa w->∃wh:Wh,w=wh.D/\wh.nc=ac/\Rt n B s.bs R.2.es wh
def J5(w:D):∀(ps:List Pr) (s:Spt),(puts s w ps).tw=s.tw/\(puts s w ps).pp=s.pp/\(puts s w ps).ct=s.ct/\(puts s w ps).en=s.en
 | [],_=>(rfl,rfl,rfl,rfl)
 |z::ps,s=>J5 w ps _
def J6(B:LRu):∀k s,(lrF B k s).2.tw=s.tw/\(lrF B k s).2.pp=s.pp/\(lrF B k s).2.ct=s.ct/\(lrF B k s).2.en=s.en
 | 0,s=>(rfl,rfl,rfl,rfl)
 |k+1,s=>by
  cases e:s.wt with
  |nil=>rw[sX e];show(rfl,rfl,rfl,rfl)
  |cons y wt=>
   cases f:prs _ s.es with
   |none=>rw[sY e f];show(rfl,rfl,rfl,rfl)
   |some ps=>
    rw[qm e f];have(a,b,c,d):=J6 B k _
    have(g,h,i,d'):=J5 _ ps {s with wt:=wt}
    show(a.trans g,b.trans h,c.trans i,d.trans d')
def J7(B:LRu)(wo:LB0):∀(ts:LI0) (s:Spt),(eG B wo s ts).tw=s.tw/\(eG B wo s ts).pp=s.pp/\(eG B wo s ts).ct=s.ct/\(eG B wo s ts).en=s.en
 | [],_=>(rfl,rfl,rfl,rfl)
 |t::ts,s=>J7 B wo ts _
def wC{n c W7:Nat}{B:LRu}{st:LSp}(hr:∀r∈B,RuK n r)(hz:B.length<=1000)(hn:n<=60):∀(k:Nat) (s:Spt),SpJ n c W7 B s->TrM n B st (lrF B (Me c s+1) s).2->TrM n B st (stF B c (k+1) s).2/\StS n B s (stF B c (k+1) s)
 |k,s,h,lt=>by
  have l:=sZ hr _ s h (c8 _);have(a,b,d,f):=J6 B _ s;dsimp only[stF];generalize lrF B _ s=R at l lt a b d f;split
  .rename_i G;have(y,p):=xi.mp G;show(lt,a,b,d,f,λw e=>?_);rw[p]at e;cases e;show(.gd y,rfl,rfl,l.ye y p)
  .have(q,I,_):=wB hr hz l.ok;have(pt,L):=VZ hr hz hn l.ok lt
   have J:(bI B R.2).2.tw=R.2.tw/\(bI B R.2).2.pp=R.2.pp/\(bI B R.2).2.ct=R.2.ct/\(bI B R.2).2.en=R.2.en:=by
    unfold bI;split
    .show(rfl,rfl,rfl,rfl)
    .show J7 _ _ _ _
   generalize bI B R.2=P at *;have(g,i,j,m):=J;split
   .show(pt,g.trans a,i.trans b,j.trans d,m.trans f,λw e=>?_);have(ks,C,E):=L w e;show(.gp ks,C,rfl,E)
   .cases k with
    |zero=>show⟨pt,g.trans a,i.trans b,j.trans d,m.trans f,λw e=>nomatch e⟩
    |succ k=>
     have(H,u,v,x,z,A):=wC hr hz hn k P.2 q (tq hr _ _ q pt);show(H,u.trans (g.trans a),v.trans (i.trans b),x.trans (j.trans d),z.trans (m.trans f),λw e=>by rw[<- (I.trans l.bs)];show A w e)
nonrec def wS(L:LII)(S:LI0):Int:=bR (λt=>decide (t∈S)) L
def qp(p:Int->Bool)(z:Int×Int)(L:LII):bR p (z::L)=(if p z.1=ac then z.2 else 0)+bR p L:=by
 unfold bR;rw[filter_cons];split
 .rw[bD,sum_cons]
 .omega
def J8{p:Int->Bool}{t:Int}(h:p t=af):∀L:LII,bR (λu=>p u || u==t) L=bR p L+wt L t
 | []=>rfl
 |z::L=>by
  have e0:wt _ t=bR (λu=>u==t) (z::L):=rfl;have a:wt L t=bR (λu=>u==t) L:=rfl;simp only[e0,qp,qp,qp,(J8 h L),a]
  by_cases e:z.1=t
  .simp only[e,h,beq_self_eq_true];simp
   lia
  .simp only[beq_false_of_ne e,tJ];simp
   lia
def J9{S:LI0}(h:t∉S):wS L (S++[t])=wS L S+wt L t:=by
 rw[<- J8 (decide_eq_false h)];show uY λz _=>?_;rw[iU];simp
def Ka(p:Int->Bool):∀L:LII,bR p L+bR (λt=>!p t) L=bR (λ_=>ac) L
 | []=>rfl
 |z::L=>by
  rw[qp,qp,qp,<- (Ka p L)]
  cases p z.1 <;> simp <;> lia
def V0(e:InN n L)(hz:L.length<=100000)(a:LI0)(v:a.length<=1000)(nd:a.Nodup)(lack:Int):∃d,m_7 [.lst (L.map itD),.lst (a.map D.int),.int lack]=aa d/\∃ks:LI0,d=.lst (ks.map D.int)/\(∀k∈ks,k∈a)/\ks.length<=a.length/\(lack<=wS L a->lack<=wS L ks):=by
 apply nj;apply am;show bp (aG rfl (Jx L hz)) ?_;walk_at "nrm";apply am;show d4 rfl ?_;walk_at "nrm";apply am;show bp rfl ?_;walk_at "nrm";apply am;show dH a D.int (λpre M=>∃(ks:LI0) (left:Int) (g i:Sl),M=[.im _,.im _,.im _,.im _,.own (ks.map D.int),.im (.int left),g,i]/\(∀k∈ks,k∈pre)/\ks.length<=pre.length/\left=lack-wS L ks/\(0<left->wS L ks=wS L pre)) rfl ([],lack,_,_,rfl,(λk h=>nomatch h),aL _,by rw[show wS L []=0 by unfold wS bR;rw[filter_eq_nil_iff.mpr λz _=>by simp];rfl];lia,λ_=>rfl) ?_ ?_
 .rintro pre t post M ex ⟨ks,left,g,i,rfl,b,h2,j,l⟩
  have c:=λq=>by
   rw[ex]at nd;show(fh.mp nd).2.2 t q t az rfl
  have m:pre.length<a.length:=by rw[ex];simp
  have w:=Dv e t;have r:=J9 (L:=L) c;have u:=J9 (L:=L) λq=>c (b t q);show(_,rfl,?_);walk_at "nrm";apply am;show bp (d:=.int (wt L t)) ?_ ?_
  .rw[<- (qj L).get];change aa ((gQ _ _ _).getD _)=_;rw[Jv]
  walk_at "nrm";show bc (jL (bC (ap rfl rfl lO)) (bC (ap rfl rfl lO))) (λz=>?_) λz=>?_
  .have(x,y):=(ca _ _).mp z;apply am;show gN rfl rfl (by rw[aA];lia) ?_;walk_at "nrm";show(_,rfl,ks++[t],left-wt L t,.im (.int t),.im (.int (wt L t)),?_,λk f=>?_,?_,by lia,λ_=>by lia)
   .rw[bd];rfl
   .rcases bv.mp f with q |q
    .show bZ _ (b k q)
    .show cv _ q
   .rw[aR,aR];show Nat.add_le_add_right h2 _
  .show b9 (ks,left,_,_,rfl,λk f=>bZ _ (b k f),by rw[aR];lia,j,λq=>?_);rw[decide_eq_true q,qz]at z
   lia
 .rintro M ⟨ks,left,g,i,rfl,b,h2,j,l⟩;show nr rfl (jO (ks,rfl,b,h2,λq=>?_))
  by_cases p:0<left
  .rw[l p];show q
  .lia
def V1(e:Option Bool)(b:Bool):dEq (shD e) (.bl b)=aa (.bl (e==aa b)):=by
 cases e with
 |none=>rfl
 |some c=>cases b <;> cases c <;> rfl
def wth(es:LOB)(b:Bool)(ord:LI0):LI0:=ord.filter λt=>es.getD t.toNat ab==aa b
variable{ord:LI0}
def wE(a:∀t∈ord,0<=t/\t<(es.length:Int))(d:ord.length<=1000)(b:Bool):qc [.lst (ord.map D.int),.lst (es.map shD),.bl b]=aa (.lst ((wth es b ord).map D.int)):=
 lF (congrArg _ (d9 ord D.int _ D.int rfl (by lia) λt c=>dG rfl (bC (ap (ba rfl rfl (ji (a t c).1 (a t c).2)) rfl (V1 _ _))) λ_=>rfl))
def Kb(L:LII)(hz:L.length<=100000):vK [.lst (L.map itD)]=aa (.int (bR (λ_=>ac) L)):=by
 show cQ (cP (aG (ao (bW (d9 L itD _ _ rfl (by lia) λz _=>dG rfl rfl λ_=>rfl)) rfl) (yS (λ_=>ac) L)))
structure gX(es:LOB)(ord:LI0):Prop where
 nn:∀t∈ord,0<=t/\t<(es.length:Int)
 nd:ord.Nodup
 al:∀t:Int,0<=t->t<(es.length:Int)->es.getD t.toNat ab≠ab->t∈ord
def gX.len(h:gX es ord):ord.length<=es.length:=sU h.nd h.nn
def Agr(ks:LI0)(es e':LOB):Prop:=e'.length=es.length/\∀k∈ks,e'.getD k.toNat ab=es.getD k.toNat ab
structure wF(es:LOB)(ks:LI0)(P:LOB->Prop):Prop where
 nn:∀k∈ks,(0<=k/\k<(es.length:Int))/\es.getD k.toNat ab≠ab
 ln:ks.length<=60
 ok:∀e',Agr ks es e'->P e'
def D6:t∈wth es b ord↔t∈ord/\es.getD t.toNat ab=aa b:=by
 unfold wth;rw[cw,beq_iff_eq]
def V2(h:gX es ord)(a:InN es.length L)(b:Bool):wS L (wth es b ord)=bR (λt=>es.getD t.toNat ab==aa b) L:=uY λz hz=>by
 rw[iU,decide_eq_true_eq,D6,beq_iff_eq];show(λq=>q.2,λq=>(h.al z.1 (a z hz).1 (a z hz).2.1 (by grind),q))
def wG(h:gX es ord)(hn:es.length<=60)(f:InN es.length L)(hz:L.length<=100000)(b:Bool)(lack:Int)(l:lack<=bR (λt=>es.getD t.toNat ab==aa b) L):∃ks:LI0,m_7 [.lst (L.map itD),.lst ((wth es b ord).map D.int),.int lack]=aa (.lst (ks.map D.int))/\wF es ks λe'=>lack<=bR (λt=>e'.getD t.toNat ab==aa b) L:=by
 have m:=h.len;have wl:(wth es b ord).length<=ord.length:=gy _ _;have(d,e,ks,rfl,g,h2,i):=V0 f hz (wth es b ord) (by lia) (h.nd.sublist oi) lack;show(ks,e,λk j=>?_,by lia,λe' ha=>?_)
 .have(a,c):=D6.mp (g k j);show(h.nn k a,by rw[c];grind)
 .show Int.le_trans (i (by rw[V2 h f b];show l)) (lI λz hz=>((f z hz).2.2,λq=>?_));have q:=of_decide_eq_true q;rw[beq_iff_eq,ha.2 _ q];show(D6.mp (g _ q)).2
def wH{P:LOB->Prop}(h:0<=t/\t<(es.length:Int))(a:es.getD t.toNat ab=aa b)(k:∀e':LOB,e'.getD t.toNat ab=aa b->P e'):wF es [t] P:=(λx c=>by rw[bB.mp c];show⟨h,by rw[a];show λe=>nomatch e⟩,(by decide:1<=60),λe' ha=>k e' ((ha.2 t az).trans a))
def wI{k:Int}(e:LOB):bR (λt=>!(e.getD t.toNat ab==aa af)) L<=k↔bR (λ_=>ac) L-k<=bR (λt=>e.getD t.toNat ab==aa af) L:=by
 have:=Ka (λt=>e.getD t.toNat ab==aa af) L;lia
def sure_by(p:Prt)(c:p.Ok es.length)(h:gX es ord)(hn:es.length<=60)(d:p.sure es=ac)(a:fo M=aa p.obj)(ha:fa M=aa [.lst (es.map shD),.lst (ord.map D.int)]):
  ∃ks:LI0,bh (aN "In" "sure_by" B0 fo fa) (bh (aN "Out" "sure_by" B9 fo fa) (bh (aN "Least" "sure_by" B4 fo fa) (aN "Most" "sure_by" B7 fo fa))) M=aa (.lst (ks.map D.int))/\wF es ks λe'=>p.sure e'=ac:=by
 have f:=h.len
 cases p with
 |inn t=>show([t],dM ((cz a rfl ha).trans rfl),wH c (beq_iff_eq.mp d) λe' q=>beq_iff_eq.mpr q)
 |out t=>show([t],bF (bG a (by decide)) (dM ((cz a rfl ha).trans rfl)),wH c (beq_iff_eq.mp d) λe' q=>beq_iff_eq.mpr q)
 |least k L=>
  have(ks,e,b):=wG h hn c.1 c.2 ac k (of_decide_eq_true d)
  show(ks,bF (bG a (by decide)) (bF (bG a (by decide)) (dM ((cz a rfl ha).trans (cQ (cP (aG (ao rfl (ao (aG rfl (wE h.nn (by lia) ac)) (ao rfl rfl))) e)))))),b.nn,b.ln,λe' q=>decide_eq_true (b.ok e' q))
 |most k L=>
  have(ks,e,b):=wG h hn c.1 c.2 af _ ((wI es).mp (of_decide_eq_true d));show(ks,bF (bG a (by decide)) (bF (bG a (by decide)) (bF (bG a (by decide)) ((cz a rfl ha).trans (cQ (cP (aG (ao rfl (ao (aG rfl (wE h.nn (by lia) af)) (ao (ap (aG rfl (Kb L c.2)) rfl lN) rfl))) e)))))),b.nn,b.ln,λe' q=>decide_eq_true ((wI e').mpr (b.ok e' q)))
def V3(p:Prt)(c:p.Ok es.length)(m:wo.length=es.length)(h:gX es ord)(hn:es.length<=60)(d:p.lost es wo=ac)(a:fo M=aa p.obj)(ha:fa M=aa [.lst (es.map shD),.lst (wo.map D.bl),.lst (ord.map D.int)]):
  ∃ks:LI0,bh (aN "In" "lost_by" Cb fo fa) (bh (aN "Out" "lost_by" Ci fo fa) (bh (aN "Least" "lost_by" Ce fo fa) (aN "Most" "lost_by" Cg fo fa))) M=aa (.lst (ks.map D.int))/\wF es ks λe'=>p.lost e' wo=ac:=by
 have r:=h.len
 cases p with
 |inn t=>
  have f:=jM c.1 (by rw[m];show c.2);have d:(_ || wo.getD t.toNat af)=ac:=d
  cases g:wo.getD t.toNat af with
  |true=>
   rw[g]at f
   show([],dM ((cz a rfl ha).trans (cQ (cP (lL (df (ba rfl rfl f) rfl) (λ_=>rfl) λe=>nomatch e)))),(λk q=>nomatch q),ce _,λe' _=>by change(_ || wo.getD t.toNat af)=ac;rw[g];show qA _)
  |false=>
   rw[g]at f;rw[g,tJ]at d
   show([t],dM ((cz a rfl ha).trans (cQ (cP (lL (df (ba rfl rfl f) rfl) (λe=>nomatch e) λ_=>rfl)))),wH c (beq_iff_eq.mp d) λe' q=>by change(_ || _)=ac;rw[q];rfl)
 |out t=>show([t],bF (bG a (by decide)) (dM ((cz a rfl ha).trans rfl)),wH c (beq_iff_eq.mp d) λe' q=>beq_iff_eq.mpr q)
 |least k L=>
  have n:=gy (λz:Int×Int=>!(wo.getD z.1.toNat af)) L;have i:InN es.length (L.filter λz=>!(wo.getD z.1.toNat af)):=λz hz=>c.1 z (cw.mp hz).1;have j:∀e':List _,bR _ L=_:=λe'=>(Fz (λt=>!(e'.getD t.toNat ab==aa af)) (λt=>!(wo.getD t.toNat af)) L).symm;have l:=IZ c.1 m c.2;have d:=of_decide_eq_true d;rw[j]at d;generalize L.filter _=left at n i j l d;have(ks,e,b):=wG h hn i (by have:=c.2;lia) af (bR (λ_=>ac) left-k+1) (by have:=(wI es).mp (by lia:bR _ left<=k-1);lia);show(ks,bF (bG a (by decide)) (bF (bG a (by decide)) (dM ((cz a rfl ha).trans ?_))),b.nn,b.ln,λe' q=>decide_eq_true ?_)
  .show cQ (jK (Gv (aG rfl l)) (cP (aG (ao rfl (ao (aG rfl (wE h.nn (by lia) af)) (ao (ap (ap (aG rfl (Kb left (by have:=c.2;lia))) rfl lN) rfl eB) rfl))) e)))
  .rw[j];have:=b.ok e' q;have:=(wI (k:=k-1) (L:=left) e').mpr (by lia)
   lia
 |most k L=>
  have(ks,e,b):=wG h hn c.1 c.2 ac _ (of_decide_eq_true d);show(ks,bF (bG a (by decide)) (bF (bG a (by decide)) (bF (bG a (by decide)) ((cz a rfl ha).trans (cQ (cP (aG (ao rfl (ao (aG rfl (wE h.nn (by lia) ac)) (ao (ap rfl rfl eB) rfl))) e)))))),b.nn,b.ln,λe' q=>decide_eq_true (b.ok e' q))
structure qr(es:LOB)(gs:LI0)(P:LOB->Prop):Prop where
 nn:∀k∈gs,(0<=k/\k<(es.length:Int))/\es.getD k.toNat ab≠ab
 ln:gs.length<=100000
 ok:∀e',Agr gs es e'->P e'
variable{ys:LI0}{e':LOB}
def Agr.left{C:LI0}(h:Agr (C++ys) es e'):Agr C es e':=(h.1,λk a=>h.2 k (bZ _ a))
def Agr.right{C:LI0}(h:Agr (C++ys) es e'):Agr ys es e':=(h.1,λk a=>h.2 k (cv _ a))
def V4{a:Type}(y:a)(l:List a):((y::l).drop (HT.sIx (y::l).length 0 ab)).take (HT.sIx (y::l).length (y::l).length (aa 1)-HT.sIx (y::l).length 0 ab)=[y]:=by
 rfl
variable{es0:LOB}{b c:L2.D}
def V5(hl:es.length=n)(hn:n<=60)(hm:e7 n ms)(pm:ms.Perm (eW B))(h:gX es ord)(m:GpR n B es ks):
  ∃gs:LI0,o_9 [slf es0 a b c d e C ms,.lst (es.map shD),.lst (ks.map D.int),.lst (ord.map D.int)]=aa (gs.map D.int)/\qr es gs λe'=>GpR n B e' ks:=by
 subst hl;have ol:=h.len;have kl:=sU m.nd m.nn;have hml:=hm.len
 suffices z:wp b_9 _ (λr=>∃gs:LI0,r=.rtO (gs.map D.int)/\qr es gs λe'=>GpR es.length B e' ks) by
  have(r,e,gs,rfl,h):=z;show(gs,nt e,h)
 apply am;show bp (aG (ao (aG rfl (fX es shD)) (ao rfl rfl)) (IX es.length ks (by lia) (by lia) (by lia))) ?_;apply am;have E:∀t:Int,0<=t->t<_->atI ((mkS es.length ks).map D.bl) t=aa _:=λt t0 t1=>jM t0 (by rw[qo];show t1);show d4 (va (bW (d9 ord D.int _ D.int rfl (by lia) λt T=>dG rfl (jL (df (ba rfl rfl (E t (h.nn t T).1 (h.nn t T).2)) rfl) (bC (ap (ba rfl rfl (ji (h.nn t T).1 (h.nn t T).2)) rfl (pE _ _)))) λ_=>rfl)) rfl rfl) ?_
 obtain⟨g,gl,hg0,J⟩:∃g gl,(ord.filter λt=>(mkS es.length ks).getD t.toNat af && (es.getD t.toNat ab==aa ac))=g::gl/\g∈ord/\g∈ks/\es.getD g.toNat ab=aa ac:=by
  have(x,U,ex):=m.i;have(x0,x1):=m.nn x U;have I:x∈ord.filter λt=>(mkS es.length ks).getD t.toNat af && (es.getD t.toNat ab==aa ac):=cw.mpr (h.al x x0 x1 (by rw[ex];show λq=>nomatch q),by rw[(lZ x0 x1).mpr U,ex];rfl)
  cases j:ord.filter _ with
  |nil=>rw[j]at I;nomatch I
  |cons y l=>
   have hy:y∈ord.filter λt=>(mkS es.length ks).getD t.toNat af && (es.getD t.toNat ab==aa ac):=by rw[j];show az
   have(y1,y2):=cw.mp hy;have(y2,y3):=(ca _ _).mp y2;have(z0,z1):=h.nn y y1;show(y,l,rfl,y1,(lZ z0 z1).mp y2,beq_iff_eq.mp y3)
 rw[hg0,V4];apply am;show dH ms mkD (λpre M=>∃(gs:LI0) (v6 v7:Sl),M=[.im _,.im _,.im _,.im _,.im _,.own (gs.map D.int),v6,v7]/\(∀k∈gs,(0<=k/\k<_)/\es.getD k.toNat ab≠ab)/\gs.length<=1+60*pre.length/\g∈gs/\∀r∈pre,r.hd∈ks->∀e',Agr gs es e'->r.bodyLost e' (mkS es.length ks)=ac) rfl ⟨[g],_,_,rfl,(λk u=>by rw[bB.mp u];show⟨h.nn g J.1,by rw[J.2.2];show λq=>nomatch q⟩),aL _,az,λr hr=>nomatch hr⟩ ?_ ?_
 .rintro pre r post M ex ⟨gs,v6,v7,rfl,L,h2,N,Q⟩;have w:r∈ms:=by rw[ex];simp
  have hpl:pre.length<ms.length:=by rw[ex];simp
  have A:=hm.ok r w;have(Y,d1):=A.hd (hm.ne r w);show(_,rfl,?_);show bc (df (ba rfl rfl (E r.hd Y d1)) rfl) (λz=>?_) λz=>?_
  .have u:=(lZ Y d1).mp z
   cases j:r.ps.find? _ with
   |none=>
    have:=Dr (es:=es) (wo:=mkS es.length ks) r;rw[j,(m.up r (pm.mem_iff.mp w) u)]at this
    nomatch this
   |some p=>
    have H:=wX j;have G:=Do (wo:=mkS es.length ks) r.ps A.ps (qo _ _);rw[j]at G;have(js,e1,e2):=V3 (M:=[.im _,.im _,.im _,.im _,.im _,.own _,.im _,.im _]) (fo:=aw m_6 (ag (ae 7) (ag (ae 1) (ag (ae 4) λ_=>aa [])))) (fa:=ag (ae 1) (ag (ae 4) (ag (ae 3) λ_=>aa []))) p (A.ps p H) (qo _ _) h hn (find?_some j) (aG rfl G) rfl;have:=e2.ln;show(_,Dj e1 rfl (by rw[aA,aA];lia),gs++js,_,_,by rw[bd];rfl,λk u=>?_,?_,bZ _ N,λr' v f e' ha=>?_)
    .rcases bv.mp u with q |q
     .show L k q
     .show e2.nn k q
    .simp only[aR,aR,fH];lia
    .rcases bv.mp v with q |q
     .show Q r' q f e' ha.left
     .rw[bB.mp q];show any_eq_true.mpr (p,H,e2.ok e' ha.right)
  .show b9 (gs,_,_,rfl,L,by rw[aR];lia,N,λr' v f=>?_)
   rcases bv.mp v with q |q
   .show Q r' q f
   .rw[bB.mp q]at f;rw[(lZ Y d1).mpr f]at z
    nomatch z
 .rintro M ⟨gs,v6,v7,rfl,L,h2,N,Q⟩;show nr rfl (gs,rfl,L,by lia,λe' ha=>(λx U=>m.nn x U,m.nd,(g,J.2.1,by rw[ha.2 g N];show J.2.2),λr hr u=>Q r (pm.mem_iff.mpr hr) u e' ha))
def V6{bs:LLP}(hr:∀r∈B,RuK n r)(a:∀b∈bs,cW n b)(hn:n<=60)(y:Wy):(bQ B bs y).length<=1001:=by
 have(z,j):=y
 cases z with
 |true=>
  change(brg (bs.getD j [])).length<=_;unfold brg;rw[aA];have:=(DR a j).len
  lia
 |false=>
  change(((B[j]?).map grd).getD []).length<=_
  cases e:B[j]? with
  |none=>show ce _
  |some r=>show Dk (hr r (dP e))
def V7{bs:LLP}(I:es.length=n)(hn:n<=60)(hr:∀r∈B,RuK n r)(H:∀b∈bs,cW n b)(hm:e7 n ms)(pm:ms.Perm (eW B))(h:gX es ord)(l:Rt n B bs es w):
  ∃gs:LI0,o_5 [slf es0 a b (gdT B bs) d e C ms,.lst (es.map shD),w.D,.lst (ord.map D.int)]=aa (gs.map D.int)/\qr es gs λe'=>Rt n B bs e' w:=by
 suffices z:wp b_5 _ (λr=>∃gs:LI0,r=.rtO (gs.map D.int)/\qr es gs λe'=>Rt n B bs e' w) by
  have(r,e,gs,rfl,h):=z;show(gs,nt e,h)
 cases w with
 |ch=>show l.elim
 |wd i=>
  apply am;show jp (QO (ao (aG rfl (fX es shD)) rfl) (by lia) (by lia)) (_,rfl,λk c=>?_,by rw[aA,cI];lia,λe' ha k c=>?_)
  .have(j,m,rfl):=aJ.mp c;have:=eJ.mp m;show((by lia,by lia),by rw[dD];show l j (by lia))
  .have:=ha.2 _ (aJ.mpr (k,eJ.mpr (by lia),rfl));rw[dD]at this;rw[this]
   show l k c
 |gp ks=>
  have(gs,u,f):=V5 I hn hm pm h l;apply am;show bc rfl (λz=>nomatch z) λ_=>b9 ?_;apply am;show jp ?_ (gs,rfl,f);change(if "Seeking"="Seeking" /\ List.contains (spN++(["paper","count","ended"]:LSt)) "grounds_of_group"=af then (o_9 [slf es0 a b _ d e C ms,_,_,_]).bind λB=>if B.all D.flat then aa B else ab else ab)=_
  rw[if_pos (rfl,rfl),u,ax,if_pos (all_eq_true.mpr λd hd=>by have(z,_,rfl):=aJ.mp hd;rfl)]
 |gd y=>
  have(J,Q):=l;have L:=V6 hr H hn y;have ne:∀t:Str,(wyS y.1==t)=af->mB (m2 dEq (mIx (av 2) (kI 0)) (λ_=>aa _)) (eU 6 [slf es0 a b (gdT B bs) d e C ms,.lst (es.map shD),(Wh.gd y).D,.lst (ord.map D.int)])=aa af:=λt T=>bC (ap rfl rfl (by rw[rH,T]));apply am
  show bc (ne "world" (by cases y.1 <;> decide)) (λz=>nomatch z) λ_=>b9 ?_
  apply am
  show bc (ne "group" (by cases y.1 <;> decide)) (λz=>nomatch z) λ_=>b9 ?_
  apply am;show d4 rfl ?_;apply am;show dH _ Prt.obj (λpre M=>∃(gs:LI0) (G:Sl),M=[.im _,.im _,.im _,.im _,.own (gs.map D.int),G]/\(∀k∈gs,(0<=k/\k<es.length)/\es.getD k.toNat ab≠ab)/\gs.length<=60*pre.length/\∀p∈pre,∀e',Agr gs es e'->p.sure e'=ac) (fD (d:=gdD B bs y) ?_ rfl) ⟨[],_,rfl,(λk c=>nomatch c),aL _,λp A=>nomatch A⟩ ?_ ?_
  .have(j,m):=oh J;change(aT (wyK y) _).bind _=_;simp only[DJ (λ_ _=>Dz) (JJ _ _) m,ax,cB,m];rfl
  .rintro pre p post M ex ⟨gs,G,rfl,v,h2,x⟩;have g:p∈bQ B bs y:=by rw[ex];simp
   have N:pre.length<(bQ B bs y).length:=by rw[ex];simp
   show(_,rfl,?_);walk_at "nrm";have(js,u,f):=sure_by (M:=[.im _,.im _,.im (Wh.gd y).D,.im _,.own _,.im p.obj]) (fo:=ae 5) (fa:=ag (ae 1) (ag (ae 3) λ_=>aa [])) p (by rw[I];show(n4 hr H) p g) h (by lia) (Q p g) rfl rfl;have:=f.ln;show(_,Dj u rfl (by rw[aA,aA];lia),gs++js,_,by rw[bd];rfl,λk c=>?_,?_,λU E e' ha=>?_)
   .rcases bv.mp c with q |q
    .show v k q
    .show f.nn k q
   .rw[aR,aR,fH];lia
   .rcases bv.mp E with q |q
    .show x U q e' ha.left
    .rw[bB.mp q];show f.ok e' ha.right
  .rintro M ⟨gs,G,rfl,v,h2,x⟩;show nr rfl (gs,rfl,v,by lia,λe' ha=>(J,λp A=>x p A e' ha))
def V8{a b c:LOB}(f:cR a b)(g:cR b c):cR a c:=(g.len.trans f.len,λi=>by
 rcases f.at' i with q |q
 .grind
 .rcases g.at' i with z |z
  .grind
  .grind)
def iS{bs:LLP}:∀(C:LSp) {st:LSp},Tr n B bs (C++st)->Tr n B bs st/\cR (aW n st) (aW n (C++st))/\∀x∈C,(aW n st).getD x.1.1.toNat ab=ab
 | [],st,h=>⟨h,cR.refl _,λx b=>nomatch b⟩
 |y::C,st,h=>by
  have(d,h2):=h;have(a,f,c):=iS C d;show(a,V8 f (wz h2.t0 h2.op),λx b=>?_)
  rcases aX.mp b with e |e
  .rw[e]
   rcases f.at' y.1.1.toNat with q |q
   .lia
   .rw[<- q];show iQ h2.op
  .grind
def D7{bs:LLP}:∀{st:LSp},Tr n B bs st->∀t:Int,0<=t->(aW n st).getD t.toNat ab≠ab->∃x∈st,x.1.1=t
 | [],_,t,_,h=>absurd (by
   change(g6 n ab).getD t.toNat ab=ab;rw[bK,oe]
   split <;> rfl) h
 |x::st,h,t,t0,hs=>by
  by_cases e:x.1.1=t
  .grind
  .have:=h.2.t0;rw[aW,c7 _ _ (by lia)]at hs;have(y,a,e):=D7 h.1 t t0 hs
   grind
variable{x:Stp}
def wJ{bs:LLP}{C:LSp}(h:Tr n B bs (C++x::st)):(aW n (C++x::st)).getD x.1.1.toNat ab=aa x.1.2:=by
 have(a,f,_):=iS C h;have:=a.2.t0;have:=a.2.t1;have e:(aW n (x::st)).getD x.1.1.toNat ab=aa x.1.2:=eV _ _ (by rw[e8];lia)
 rcases f.at' x.1.1.toNat with q |q
 .grind
 .grind
def n6{bs:LLP}:∀{st:LSp},Tr n B bs st->(st.map (·.1.1)).Nodup
 | [],_=>fJ
 |x::st,h=>by
  show b7.mpr (λq=>?_,n6 h.1);have(y,a,e):=aJ.mp q;have(p,r,rfl):=me a;have:=wJ h.1;rw[e,iQ h.2.op]at this
  grind
def jA{bs:LLP}(h:Tr n B bs st)(b:x∈st):0<=x.1.1/\x.1.1<(n:Int):=by
 have(p,r,rfl):=me b;have(a,_,_):=iS p h;show(a.2.t0,a.2.t1)
def n8(st:LSp):LI0:=st.reverse.map (·.1.1)
def Kc{bs:LLP}(h:Tr n B bs st)(c:es.length=n)(d:∀t:Int,0<=t->es.getD t.toNat ab≠ab->(aW n st).getD t.toNat ab≠ab):gX es (n8 st):=by
 subst c;unfold n8;show(λt a=>?_,?_,λt t0 t1 a=>?_)
 .have(x,b,rfl):=aJ.mp a;show jA h (g7.mp b)
 .rw[qH];show pairwise_reverse.mpr ((n6 h).imp λq e=>q e.symm)
 .have(x,b,e):=D7 h t t0 (d t t0 a)
  grind
def nfF(nd:LB0)(ord:LI0):LI0:=(ord.filter λt=>nd.getD t.toNat af)++ord.filter λt=>!nd.getD t.toNat af
def V9{nd:LB0}(b:∀t∈ord,0<=t/\t<(nd.length:Int))(d:ord.length<=1000):vM [.lst (ord.map D.int),.lst (nd.map D.bl)]=aa (.lst ((nfF nd ord).map D.int)):=by
 have c:=gy (λt:Int=>nd.getD t.toNat af) ord;have h2:=gy (λt:Int=>!nd.getD t.toNat af) ord;show lF ?_;unfold nfF;rw[bd];show congrArg _ (IU (bW (d9 ord D.int _ D.int rfl (by lia) λt a=>dG rfl (df (ba rfl rfl (jM (b t a).1 (b t a).2)) rfl) λ_=>rfl)) (bW (d9 ord D.int _ D.int rfl (by lia) λt a=>dG rfl (m9 (df (ba rfl rfl (jM (b t a).1 (b t a).2)) rfl)) λ_=>rfl)) (by grind))
def gX.nf(h:gX es ord)(nd:LB0):gX es (nfF nd ord):=by
 have p:(nfF nd ord).Perm ord:=filter_append_perm _ _;show(λt a=>h.nn t (p.mem_iff.mp a),p.nodup_iff.mpr h.nd,λt t0 t1 a=>p.mem_iff.mpr (h.al t t0 t1 a))
nonrec def Ls:=Option Pr×Wh
abbrev tu(n:Nat)(B:LRu)(bs:LLP):LOB->List Ls->Prop
 | _,[]=>False
 |u,x::l=>match x.1 with
  |none=>l=[]/\Rt n B bs u x.2
  |some z=>opn u z.1=ac/\Rt n B bs (put u z.1.toNat (!z.2)) x.2/\tu n B bs (put u z.1.toNat z.2) l
abbrev prO:Option Pr->D
 |none=>.non
 |some z=>prD z
def dnD(x:Ls):D:=.tup [prO x.1,x.2.D]
structure LnS where
 nd:LB0
 bar:List Pr
 dn:List Ls
 post:LSp
def chs(st:LSp):List Pr:=(st.filter λx=>!x.2.nc).map (·.1)
structure LnI(n:Nat)(B:LRu)(bs:LLP)(st pre:LSp)(q:LnS):Prop where
 sp:st=pre++q.post
 nl:q.nd.length=n
 bl:q.bar.Sublist (chs pre)
 dl:q.dn.length<=pre.length+1
 dt:∀x∈q.dn,∀z,x.1=aa z->∃y∈pre,y.1=z/\y.2=x.2/\y.2.nc=ac
 rl:∀u:LOB,u.length=n->(∀t:Int,0<=t->t<(n:Int)->q.nd.getD t.toNat af=ac->(aW n q.post).getD t.toNat ab≠ab->u.getD t.toNat ab=(aW n q.post).getD t.toNat ab)->(∀z∈q.bar,u.getD z.1.toNat ab=aa z.2)->(∀x∈q.dn,∀z,x.1=aa z->opn u z.1=ac)->tu n B bs u q.dn.reverse
def qt(h:z∈chs st):∃x∈st,x.1=z/\x.2.nc=af:=by
 have(x,a,e):=aJ.mp h
 grind
def Kd(st:LSp):(chs st).length<=st.length:=by
 unfold chs
 grind
def orS(nd:LB0)(gs:LI0):LB0:=gs.foldl (λnd g=>nd.set g.toNat ac) nd
def D8:∀(gs:LI0) (nd:LB0),(orS nd gs).length=nd.length
 | [],_=>rfl
 |g::gs,nd=>by
  change(orS _ gs).length=_;rw[D8 gs,iy]
def D9{t:Int}(t0:0<=t):∀(gs:LI0) (nd:LB0),t<(nd.length:Int)->(nd.getD t.toNat af=ac\/t∈gs)->(orS nd gs).getD t.toNat af=ac
 | [],_,_,h=>h.elim id λq=>nomatch q
 |g::gs,nd,hl,h=>by
  show D9 t0 gs _ (by rw[iy];show hl) ?_
  by_cases e:t=g
  .show .inl ?_;rw[bK,<- e,jX (by lia)];rfl
  .rcases h with q |q
   .show .inl ?_;rw[bK,List.getElem?_set];split
    .split
     .rfl
     .lia
    .rw[<- bK];show q
   .show .inr (by rcases aX.mp q with z |z;show absurd z e;show z)
def tz{u:LOB}(h:u.getD t.toNat ab=ab):opn u t=ac:=by unfold opn;rw[h];rfl
variable{pre post:LSp}{q:LnS}
def LnI.no{bs:LLP}(h:LnI n B bs st pre q)(e:q.post=x::post)(tr:Tr n B bs (x::post))(hn:q.nd.getD x.1.1.toNat af=af):LnI n B bs st (pre++[x]) {q with post:=post}:=by
 show(by rw[h.sp,e,cJ];rfl,h.nl,?_,by rw[aR];have:=h.dl;change q.dn.length<=_+1+1;lia,λy g z b=>?_,λu i ha c d=>h.rl u i (λt t0 t1 hd a=>?_) c d)
 .show h.bl.trans ?_;unfold chs;rw[jY,bd];show wY _ _
 .have(w,f,k):=h.dt y g z b;show(w,bZ _ f,k)
 .have ne:t≠x.1.1:=λq=>by rw[q,hn]at hd;nomatch hd
  rw[e,aW,c7 _ _ (by lia)]at a ⊢;show ha t t0 t1 hd a
def LnI.ch{bs:LLP}(h:LnI n B bs st pre q)(e:q.post=x::post)(tr:Tr n B bs (x::post))(g:x.2.nc=af):LnI n B bs st (pre++[x]) {q with bar:=q.bar++[x.1],post:=post}:=by
 have l:=tr.2.t0;show(by rw[h.sp,e,cJ];rfl,h.nl,?_,by rw[aR];have:=h.dl;change q.dn.length<=_+1+1;lia,λy i z c=>?_,λu j ha a d=>h.rl u j (λt t0 t1 hd b=>?_) (λz hz=>a z (bZ _ hz)) d)
 .unfold chs;rw[jY,bd,qB (by rw[g];rfl)];show h.bl.append (qI _)
 .have(w,f,k):=h.dt y i z c;show(w,bZ _ f,k)
 .by_cases ne:t=x.1.1
  .rw[e,ne,a x.1 (cv _ az)];show(eV _ _ (by rw[e8];lia)).symm
  .rw[e,aW,c7 _ _ (by lia)]at b ⊢;show ha t t0 t1 hd b
variable{gs:LI0}
def LnI.nc{bs:LLP}(h:LnI n B bs st pre q)(e:q.post=x::post)(tr:Tr n B bs st)(M:x.2.nc=ac)(H:qr (put (aW n post) x.1.1.toNat (!x.1.2)) gs λe'=>Rt n B bs e' x.2):LnI n B bs st (pre++[x]) (orS q.nd gs,q.bar,q.dn++[(aa x.1,x.2,)],post):=by
 have p:Tr n B bs (x::post):=by
  rw[h.sp,e]at tr;show(iS pre tr).1
 have N:=p.2.t0
 have d:=λy a i=>by
  have:=n6 tr;rw[h.sp,e,bd]at this;show(fh.mp this).2.2 y.1.1 (aJ.mpr (y,a,rfl)) x.1.1 az i
 have pr:∀y∈pre,0<=y.1.1:=λy a=>(jA tr (by rw[h.sp];show bZ _ a)).1;show(by rw[h.sp,e,cJ];rfl,(D8 _ _).trans h.nl,?_,by rw[aR,aR];have:=h.dl;change _+1<=_+1+1;lia,λy a z b=>?_,λu J ha L G=>?_)
 .show h.bl.trans ?_;unfold chs;rw[jY,bd];show wY _ _
 .rcases bv.mp a with m |m
  .have(w,j,k):=h.dt y m z b;show(w,bZ _ j,k)
  .cases bB.mp m;cases b;show(x,cv _ az,rfl,rfl,M)
 .have ne:∀t:Int,0<=t->t≠x.1.1->∀c,(put u x.1.1.toNat c).getD t.toNat ab=u.getD t.toNat ab:=λt t0 q c=>c7 u c (by lia);have nl:=h.nl;rw[l9];show((G _ (cv _ az) x.1 rfl),H.ok _ (by simp only[b8,b8,J,e8],λg f=>?_),h.rl _ (by rw[b8];show J) (λt t0 t1 hd I=>?_) (λz hz=>?_) λy a z b=>?_)
  .have((l,C),E):=H.nn g f;rw[b8,e8]at C
   by_cases r:g=x.1.1
   .rw[r,eV _ _ (by lia),eV _ _ (by rw[e8];lia)]
   .rw[ne g l r,c7 _ _ (by lia)];rw[c7 _ _ (by lia)]at E;show ha g l C (D9 l gs _ (by lia) (.inr f)) E
  .by_cases v:t=x.1.1
   .rw[e,v,eV _ _ (by lia)];show(eV _ _ (by rw[e8];lia)).symm
   .rw[e,aW,c7 _ _ (by lia)]at I;rw[ne t t0 v,e,aW,c7 _ _ (by lia)];show ha t t0 t1 (D9 t0 gs _ (by lia) (.inl hd)) I
  .have(y,a,i,_):=qt (h.bl.subset hz);rw[<- i,ne _ (pr y a) (d y a),i];show L z hz
  .have(w,j,A,_):=h.dt y a z b;show tz ?_;rw[<- A,ne _ (pr w j) (d w j),A];show iQ (G y (bZ _ a) z b)
def Ke{b E w:Type}{g:D->LS->Option LS}{F:MF3}(f:b->D)(R:E->w->LS->Prop)(J:List b->E->Prop)(all:List b)
 (step:∀pre x post s,all=pre++x::post->J pre s->∃a,J (pre++[x]) a/\∀l M,R s l M->∃ρ1,g (f x) M=aa ρ1/\wp F ρ1 λr=>∃ρ',r=.nx ρ'/\R a l ρ'):∀(C pre:List b) (s:E),all=pre++C->J pre s->∃a,J all a/\∀l M,R s l M->∃ρ',iI g F (C.map f) M=aa (.nx ρ')/\R a l ρ'
 | [],pre,s,e,h=>(s,by rw[e,bN];show h,λl M r=>(M,rfl,r))
 |x::C,pre,s,e,h=>by
  have(s1,n,p):=step pre x C s e h;have(s2,h2,q):=Ke f R J all step C _ s1 (by rw[e,cJ];rfl) n;show(s2,h2,λl M r=>?_);have(ρ1,i,o,j,c,rfl,u):=p l M r;have(d,m,v):=q l c u;show(d,?_,v);rw[bD,iI,i,ax,j];show m
def Ea{cn f:Str}{F:MF3}(h:aU cn f (aH i) M=aa (lsO ds,R,))(k:wp F (M.set i (.deep (R (.fz (.lst ds))))) K):wp (nJ i cn f F) M K:=by
 have(o,e,q):=k;show(o,by unfold nJ;rw[h,ax,wb,ax];show e,q)
def Spt.F(B:LRu)(s:Spt):O:=iO (s.S B).tl [lsO (s.es.map shD),.fz (.lst s.st),lsO (s.bs.map eE),.dT (s.S B).gk ((s.S B).gd.map .fz),wsO (wtW s.tw),lsO (s.wt.map wyD),.fz (.lst (s.ms.map mkD))]
def Wb:cO 0 (.deep (.at l (s.F B))::M)=aa (s.D B):=by
 have k:(s.F B).kn=ac:=by
  dsimp only[Spt.F,Spt.S,lsO,wsO];simp only[List.map,k4,oq,O.kn,O.kns,qh,qy];show DY _
 have d:(s.F B).toD=s.D B:=by
  dsimp only[Spt.D,Spt.F,Spt.S,Spr.o];simp only[lsO,O.toD,O.toDs,rf,k4]
 change(if (O.at l _).kn=ac then aa (O.at l _).toD else ab)=_;rw[O.kn,k,if_pos rfl,O.toD,d]
def Kf(a:w≠.ch):sE [w.D]=aa w.D:=by
 cases w with
 |ch=>show absurd rfl a
 |wd i=>rfl
 |gp ks=>rfl
 |gd y=>show cQ (cP (lL (b:=af) (bC (ap rfl rfl (by rw[rH,show(wyS y.1 == "group")=af by cases y.1 <;> decide]))) (λe=>nomatch e) λ_=>rfl))
variable{b:Bool}
def Kg{k:Nat}(h:es.getD k ab=ab)(a:k<es.length):((put es k b).map shD).set k .non=es.map shD:=by
 unfold put;rw[g8,set_set];show nF ?_;rw[bK,bY a]at h;have h:es[k]=ab:=h;rw[cB,bY a,h];rfl
def Wc{k:Nat}{c:Bool}:((put es k b).map shD).set k (.bl c)=(put es k c).map shD:=by
 unfold put;rw[g8,set_set,g8];rfl
def Kh(a:fo M=aa (s.D B))(ha:fa M=aa [.lst (es.map shD),w.D,.lst (ord.map D.int)])(h:o_5 [s.D B,.lst (es.map shD),w.D,.lst (ord.map D.int)]=aa (gs.map D.int)):iw "Seeking" "grounds" o_5 fo fa M=aa (gs.map D.int):=by
 unfold iw;rw[a,ax];rw[ww B s]at h ⊢;change(if "Seeking"="Seeking" /\ List.contains (spN++(["paper","count","ended"]:LSt)) "grounds"=af then (fa M).bind λas=>(o_5 (slf s.es _ _ _ _ _ _ s.ms::as)).bind λB=>if B.all D.flat then aa B else ab else ab)=_;rw[if_pos (rfl,rfl),ha,ax,h,ax,if_pos (all_eq_true.mpr λd hd=>by have(z,_,rfl):=aJ.mp hd;rfl)]
variable{c:Nat}
def ground(hr:∀r∈B,RuK n r)(hz:B.length<=1000)(hn:n<=60)(h:SpJ n c W7 B s)(a:es.length=n)(b:gX es ord)(d:Rt n B s.bs es w):∃gs:LI0,o_5 [s.D B,.lst (es.map shD),w.D,.lst (ord.map D.int)]=aa (gs.map D.int)/\qr es gs λe'=>Rt n B s.bs e' w:=by
 rw[ww];show V7 a hn hr h.bk (e7.of hr hz h.ms) h.ms b d
structure jB(n:Nat)(B:LRu)(bs:LLP)(st:LSp)(bar:List Pr)(dn:List Ls):Prop where
 bl:bar.Sublist (chs st.reverse)
 dl:dn.length<=n+1
 dt:∀x∈dn,∀z,x.1=aa z->∃y∈st,y.1=z/\y.2=x.2/\y.2.nc=ac
 rl:∀u:LOB,u.length=n->(∀z∈bar,u.getD z.1.toNat ab=aa z.2)->(∀x∈dn,∀z,x.1=aa z->opn u z.1=ac)->tu n B bs u dn
def tB(h:Tr n B s.bs st):st.length<=n:=by
 have:=sU (n6 h) λx a=>by
  have(y,b,rfl):=aJ.mp a;show jA h b
 rwa [aA]at this
def We(hr:∀r∈B,RuK n r)(hz:B.length<=1000)(hn:n<=60)(h:SpJ n c W7 B s)(t:TrS n B s st)(hw:Rt n B s.bs s.es w):∃(bar:List Pr) (dn:List Ls),(∀l,Ct l [w.D] (s.S B).o=aa (s.F B,.tup [eE bar,.lst (dn.map dnD)],))/\jB n B s.bs st bar dn:=by
 have hwc:w≠.ch:=λe=>by rw[e]at hw;show hw
 have tr:=t.tr;have tl:=tB tr;have Y:=t.es;have A:=e8 n st;have C:=Kc tr A λ_ _ q=>q;have hol:=C.len;rw[Y]at hw;have(gs,e1,e2):=ground hr hz hn h A C hw;have hgl:=e2.ln
 have key:=Ke (g:=cZ (bq (ay 3) (bq (ay 4) dk))) (F:=(ai (aZ 9 (mIx (av 3) (kI 0)))
  (ai (be (dF (bM (mIx (av 6) (ae 9))) (mB (m2 dIs (ae 4) kN))) (dC 7 (ae 3)) (be (bM (mIx (av 6) (ae 9))) (ai (dC 8 (bo (ag (ae 3) (ag (aw sE (ag (ae 4) nZ)) nZ))))
  (ai (gi 2 (ae 9) (mR (mIx (av 3) (kI 1))))
  (b6 (aV (aP (iw "Seeking" "grounds" o_5 _ (ag (cO 2) (ag (ae 4) (ag (aw vM (ag (ae 5) (ag (cO 6) nZ))) nZ)))))) (ay 10) (gi 6 (ae 10) (kBl ac))))) bE))
  (gi 2 (ae 9) kN)))) stD (λq l M=>∃Q T U j,M=[.deep (.at l (s.F B)),.im w.D,.own ((aW n q.post).map shD),Q,T,.im (.lst ((n8 st).map D.int)),.own (q.nd.map D.bl),.own (q.bar.map prD),.own (q.dn.map dnD),U,j]) (LnI n B s.bs st) st (by
  rintro pre x post q ex y;have E:=append_cancel_left (y.sp.symm.trans ex);have p:Tr n B s.bs (x::post):=by rw[ex]at tr;show(iS pre tr).1
  have x0:=p.2.t0;have x1:=p.2.t1;have hpn:=iQ p.2.op;have G:=e8 n post;have J:=y.nl;have m:=jM x0 (by rw[J];show x1);have hun:=Kg (b:=x.1.2) hpn (by rw[G];lia);have hpl:pre.length<st.length:=by rw[ex];simp
  have hbl:=y.bl.length_le;have hcl:=Kd pre;have hdl:=y.dl
  cases I:q.nd.getD x.1.1.toNat af with
  |false=>
   show(_,y.no E p I,?_);rintro l M ⟨Q,T,U,j,rfl⟩;rw[I]at m;show(_,rfl,?_);apply am;show bp rfl ?_;apply am;show bc (b:=af) ?_ (λz=>nomatch z) λ_=>?_
   .unfold dF;rw[df (ba rfl rfl m) rfl];rfl
   .show bc (df (ba rfl rfl m) rfl) (λz=>nomatch z) λ_=>b9 ?_;show pK rfl rfl rfl x0 (by rw[aA,E,aW,b8,G];show x1) (_,rfl,.im (prD x.1),.im x.2.D,.im (.int x.1.1),j,?_);rw[E,aW,hun]
    rfl
  |true=>
   rw[I]at m
   cases i:x.2.nc with
   |false=>
    show(_,y.ch E p i,?_)
    have hxd:x.2.D=.non:=by
     rcases p.2.ok with⟨a,_⟩ |⟨a,_⟩
     .rw[a];rfl
     .rw[a]at i;nomatch i
    rintro l M ⟨Q,T,U,j,rfl⟩;show(_,rfl,?_);rw[hxd];apply am;show bp rfl ?_;apply am;show bc (jL (df (ba rfl rfl m) rfl) rfl) (λ_=>?_) λz=>nomatch z;show gN rfl rfl (by rw[aA];lia) ?_;show pK rfl rfl rfl x0 (by rw[aA,E,aW,b8,G];show x1) (_,rfl,.im (prD x.1),.im .non,.im (.int x.1.1),j,?_);rw[E,aW,hun,bd]
    rfl
   |true=>
    rcases p.2.ok with⟨a,_⟩ |⟨_,hR⟩
    .rw[a]at i;nomatch i
    have H:(put (aW n post) x.1.1.toNat (!x.1.2)).length=n:=by rw[b8,G]
    have L:gX (put (aW n post) x.1.1.toNat (!x.1.2)) (n8 st):=by
     show Kc tr H λu u0 hu=>?_;rw[ex]at tr ⊢;have(_,f,_):=iS pre tr
     have:(aW n (x::post)).getD u.toNat ab≠ab:=by
      rw[aW]
      by_cases eu:u=x.1.1
      .rw[eu,eV _ _ (by rw[G];lia)];show λq=>nomatch q
      .rw[c7 _ _ (by lia)]at hu ⊢;show hu
     rcases f.at' u.toNat with z |z
     .show absurd z this
     .rw[z];show this
    have(js,e3,e4):=ground hr hz hn h H (L.nf q.nd) hR;show(_,y.nc E tr i e4,?_)
    have hxn:dIs x.2.D .non=aa (.bl af):=by
     cases hx2:x.2 with
     |ch=>rw[hx2]at i;nomatch i
     | _=>rfl
    have hxc:x.2≠.ch:=λq=>by rw[q]at i;nomatch i
    rintro l M ⟨Q,T,U,j,rfl⟩;show(_,rfl,?_);apply am;show bp rfl ?_;apply am;show bc (jL (df (ba rfl rfl m) rfl) (bC (ap rfl rfl hxn))) (λz=>nomatch z) λ_=>?_;show bc (df (ba rfl rfl m) rfl) (λ_=>?_) λz=>nomatch z;apply am;show gN (cV (ao rfl (ao (aG rfl (Kf hxc)) rfl))) rfl (by rw[aA];lia) ?_;apply am;show pK rfl rfl rfl x0 (by rw[aA,E,aW,b8,G];show x1) ?_;rw[E,aW,Wc];show dH js D.int (λpre M=>∃v,M=[.deep _,.im _,.own _,.im _,.im _,.im _,.own ((orS q.nd pre).map D.bl),.own _,.own _,.im _,v]) (fD (bW (Kh Wb (ao rfl (ao rfl (ao (aG rfl (V9 (by rw[J];show(λu hu=>by have:=C.nn u hu;rwa [A]at this)) (by lia))) rfl))) e3)) rfl) (_,rfl) ?_ ?_
    .rintro pr g po M exj ⟨v,rfl⟩;have((g0,N),_):=e4.nn g (by rw[exj];simp);rw[H]at N;show(_,rfl,?_);show pK rfl rfl rfl g0 (by rw[aA,D8,J];show N) (.im (.int g),?_);rw[show D.bl ac=D.bl ac from rfl,<- g8];unfold orS;rw[eI];rfl
    .rintro M ⟨v,rfl⟩;show pK rfl rfl rfl x0 (by rw[aA,b8,G];show x1) (_,rfl,.im (prD x.1),.im x.2.D,.im (.int x.1.1),v,?_);rw[Kg hpn (by rw[G];lia),bd];rfl) st [] (mkS n gs,[],[(ab,w,)],st) rfl (rfl,qo _ _,qI _,aL _,(λx i z ez=>by rw[bB.mp i]at ez;nomatch ez),λu ul ha _ _=>(rfl,e2.ok u (by rw[ul,A],λg hg=>?_)))
 .have(q,y,kq):=key
  have hpe:q.post=[]:=by
   have:=y.sp;show self_eq_append_right.mp this
  show(q.bar.reverse,q.dn.reverse,λl=>?_,?_,?_,?_,?_)
  .apply fF;apply am;show d4 (sJ jR) ?_;change wp _ [.deep _,.im w.D,.own (s.es.map shD),.no,.no,.no,.no,.no,.no,.no,.no] _;rw[Y];apply am;show bp (d:=.lst ((n8 st).map D.int)) (bW ?_) ?_
   .change bn 2 [] _ _ _ _ _=_;have:(s.S B).st=st.reverse.map stD:=t.sv;unfold n8;rw[map_map];show gM st.reverse stD _ ((sJ De).trans (by rw[this])) (by rw[kZ];lia) λx _=>fV rfl rfl rfl
   apply am;show d4 (d:=(mkS n gs).map D.bl) ?_ ?_
   .have hmk:=IV n gs (by lia) (by lia) (by lia);show vb (ao (aG rfl (fX _ shD)) (ao (bW (Kh D0 (ao rfl (ao rfl (ao rfl rfl))) e1)) rfl)) (nt (by rw[A];show hmk))
   apply am;show d4 rfl ?_;apply am;show d4 (ao (cV (ao rfl (ao (aG rfl (Kf hwc)) rfl))) rfl) ?_;apply am;show Ea De ?_;have(ρ',e5,Q,T,U,j,rfl):=kq l _ (_,_,_,_,rfl);show(.nx [.deep (.at l (s.F B)),.im w.D,.own ((aW n q.post).map shD),Q,T,.im (.lst ((n8 st).map D.int)),.own (q.nd.map D.bl),.own (q.bar.map prD),.own (q.dn.map dnD),U,j],?_,?_)
   .change(lR _ _).bind _=_;rw[QC (ao ((kM rfl).trans (by change aa (D.lst s.st)=_;rw[t.sv])) rfl),ax,iV];show e5
   .show ju ?_ (_,rfl,rfl,rfl);show cV (ao (bW ?_) (ao (bW ?_) rfl))
    .change aa (q.bar.map prD).reverse=_;rw[qH]
    .change aa (q.dn.map dnD).reverse=_;rw[qH]
  .unfold chs;have:=y.bl.reverse;unfold chs at this
   rwa [<- qH,<- filter_reverse]at this
  .rw[kZ];have:=y.dl;lia
  .intro x i z ez;show y.dt x (g7.mp i) z ez
  .intro u ul hb hc;show y.rl u ul (λt t0 t1 _ ht=>?_) (λz hz=>hb z (g7.mpr hz)) λx i=>hc x (g7.mpr i);rw[hpe]at ht;have(x,i,_):=D7 (B:=B) (bs:=s.bs) (st:=[]) trivial t t0 ht
   nomatch i
 .have((g0,N),gn):=e2.nn g hg;rw[A]at N;show ha g g0 N ((lZ g0 N).mpr hg) gn
nonrec def Qn(i:Nat)(S:LSp):List (Nat×Stp):=(eZ i S).filter λp=>!p.2.2.nc
def l5(x:Stp)(S:LSp):chs (x::S)=if x.2.nc then chs S else x.1::chs S:=by
 unfold chs;rw[filter_cons]
 cases x.2.nc <;> rfl
def Eb:∀(S:LSp) (i j:Nat) (p:Nat×Stp),(Qn i S)[j]?=aa p->∃A W7,S=A++p.2::W7/\p.1=i+A.length/\chs A=(chs S).take j/\chs (p.2::W7)=(chs S).drop j/\p.2.2.nc=af
 | [],_,_,_,h=>by cases h
 |x::S,i,j,p,h=>by
  have h:((_::eZ _ S).filter λp=>!p.2.2.nc)[j]?=aa p:=h;rw[filter_cons]at h
  cases f:x.2.nc with
  |true=>
   rw[if_neg (by simp[f])]at h;have(A,W7,a,b,c,d,e):=Eb S _ j p h;show(x::A,W7,by rw[a];rfl,by rw[b,cb];lia,?_,?_,e)
   .rw[l5,l5,if_pos f,if_pos f];show c
   .rw[l5 x,if_pos f];show d
  |false=>
   rw[if_pos (by simp[f])]at h
   cases j with
   |zero=>
    cases h
    show([],S,rfl,rfl,rfl,rfl,f)
   |succ j=>
    have(A,W7,a,b,c,d,e):=Eb S _ j p h;show(x::A,W7,by rw[a];rfl,by rw[b,cb];lia,?_,?_,e)
    .rw[l5,l5,if_neg (by rw[f];show bJ),if_neg (by rw[f];show bJ),c];rfl
    .rw[l5 x,if_neg (by rw[f];show bJ),d];rfl
def Ki:∀(S:LSp) (i:Nat),(Qn i S).map (·.2.1)=chs S
 | [],_=>rfl
 |x::S,i=>by
  have a:=Ki S (i+1);change((_::eZ _ S).filter λp=>!p.2.2.nc).map _=_;rw[filter_cons,l5]
  grind
def Kj(z y:Pr):isE (prD y) (prD z)=decide (z=y):=by
 unfold isE;rw[show deq 19 _ _=aa (z.1==y.1 && (z.2==y.2 && ac))from rfl]
 grind
def Wf{a b:List Pr}{y:Pr}(h:y∉a):gR (.lst ((a++y::b).map prD)) (prD y)=aa (.int (a.length:Nat)):=by
 have ha:du (prD y) ((a++y::b).map prD)=aa ac:=by
  have:=JA y (a++y::b);replace this:((du _ _).map D.bl)=_:=this
  simp_all
 change(if du _ _=aa ac then aa _ else ab)=_;rw[if_pos ha];clear ha
 congr 3
 induction a with
 |nil=>rw[oq,bD,qG,Kj,decide_eq_true rfl];rfl
 |cons z a c=>
  rw[k4,bD,qG,Kj,decide_eq_false (λe=>h (by grind))]
  grind
structure qu(S:LSp)(bar:List Pr)(A:LSp)(c:Stp)(W7:LSp):Prop where
 e:S=A++c::W7
 nc:c.2.nc=af
 br:∃b0 z,bar=b0++[z]/\b0.Sublist (chs A)/\z∈chs (c::W7)/\(b0=[]->chs A=[])/\∀y,b0.getLast?=aa y->∃A',chs A=A'++[y]
def Wg(a:List Pr)(y z:Pr):atI ((a++[y]++[z]).map prD) (-2)=aa (prD y):=by
 have b:((a++[y]++[z]).map prD).length=a.length+2:=by simp
 unfold atI;rw[show ixN ((a++[y]++[z]).map prD).length (-2)=aa a.length by rw[b];unfold ixN;rw[if_neg (by lia)];simp;lia];simp
variable{S:LSp}
def Wi{bar:List Pr}(U:s.st=S.map stD)(hok:∀x∈S,x.2=.ch\/x.2.nc=ac)(hl:S.length<=1000)(nd:(chs S).Nodup)(G:bar.Sublist (chs S))(I:bar≠[]):∃A c W7,qu S bar A c W7/\∀l,Cv l [eE bar] (s.F B)=aa (s.F B,.int (A.length:Nat),):=by
 have Q:=Ki S 0;have hql:(Qn 0 S).length=(chs S).length:=by rw[<- Q,aA]
 have hcl:=Kd S
 obtain⟨j,hj,b0,z,a,h1,h2,h3,h4,h5⟩:∃j,j<(chs S).length/\∃b0 z,bar=b0++[z]/\b0.Sublist ((chs S).take j)/\z∈(chs S).drop j/\(b0=[]->(chs S).take j=[])/\(∀y,b0.getLast?=aa y->∃A',(chs S).take j=A'++[y])/\∀M:LS,M[1]?=aa (.im (eE bar))->M[3]?=aa (.im (.lst ((chs S).map prD)))->vIf (mB (m2 dEq (aw cG (ag (ae 1) nZ)) (kI 1))) (kI 0) (m2 da (m2 gR (ae 3) (mIx (av 1) (m1 rn (kI 2)))) (kI 1)) M=aa (.int (j:Nat)):=by
  have v1:∀M:LS,M[1]?=aa (.im (eE bar))->ae 1 M=aa (eE bar):=λM e=>by unfold ae;rw[e]
  have v3:∀M:LS,M[3]?=aa (.im (.lst ((chs S).map prD)))->ae 3 M=aa (.lst ((chs S).map prD)):=λM e=>by unfold ae;rw[e]
  have c1:∀M:LS,M[1]?=aa (.im (eE bar))->av 1 M=aa (bar.map prD):=λM e=>by unfold av;rw[e];rfl
  obtain⟨b0,z,a⟩:∃b0 z,bar=b0++[z]:=(_,_,(dropLast_concat_getLast I).symm)
  cases C:b0.getLast? with
  |none=>
   have e0:b0=[]:=getLast?_eq_none_iff.mp C;subst e0;have hz:z∈chs S:=G.subset (by rw[a];simp);show(0,length_pos_of_mem hz,[],z,a,nil_sublist _,hz,λ_=>rfl,(λy hy=>nomatch hy),λM n r=>?_)
   show lL (b:=ac) (bC (ap (aG (ao (v1 M n) rfl) (fX bar prD)) rfl (by rw[a];rfl))) (λ_=>rfl) λq=>nomatch q
  |some y=>
   obtain⟨m,e0⟩:∃m,b0=m++[y]:=by
    have(m,rfl):=getLast?_eq_some_iff.mp C;show(m,rfl)
   subst e0;rw[a]at G;obtain⟨C1,w,hC,s1,s2⟩:∃r1 r2,chs S=r1++r2/\(m++[y]).Sublist r1/\[z].Sublist r2:=append_sublist_iff.mp G;have(g,D2,hD,s3,s4):=append_sublist_iff.mp s1;have(h,N,rfl):=me (singleton_sublist.mp s4);have f:chs S=(g++h)++y::(N++w):=by rw[hC,hD];simp
   have J:y∉g++h:=λq=>by
    rw[f]at nd;show(fh.mp nd).2.2 y q y az rfl
   have htk:(chs S).take ((g++h).length+1)=(g++h)++[y]:=by rw[f,take_append,tN (by lia)];simp
   have H:(chs S).drop ((g++h).length+1)=N++w:=by rw[f,drop_append,drop_of_length_le (by lia)];simp
   show((g++h).length+1,?_,m++[y],z,a,?_,?_,(λq=>by simp at q),(λu Y=>(g++h,?_)),λM n r=>?_)
   .rw[f];have:=length_pos_of_mem (singleton_sublist.mp s2);simp;lia
   .rw[htk];show(s3.trans (wY _ _)).append (qI _)
   .rw[H];show cv _ (singleton_sublist.mp s2)
   .rw[htk];rw[getLast?_concat]at Y;cases Y;rfl
   .have E:dEq (.int (bar.length:Nat)) (.int 1)=aa (.bl af):=by
     rw[m8,a];simp;lia
    show lL (b:=af) (bC (ap (aG (ao (v1 M n) rfl) (fX bar prD)) rfl E)) (λq=>nomatch q) λ_=>?_;show(ap (ap (v3 M r) (ba (c1 M n) rfl (by rw[a];show Wg m y z)) (by rw[f];show Wf J)) rfl eB).trans ?_
    congr 2
 obtain⟨p,v⟩:∃p,(Qn 0 S)[j]?=aa p:=(_,bY (by lia));have(A,B',n,e2,r,e4,e5):=Eb S 0 j p v;show(A,p.2,B',(n,e5,b0,z,a,by rw[r];show h1,by rw[e4];show h2,(by rw[r];show h3),by rw[r];show h4),λl=>?_);apply fF;apply am;have L:pD (aU "Seeking" "steps" (aH 0)) [.deep (.at l (s.F B)),.im (eE bar),.no,.no]=aa (.lst (S.map stD)):=(kM rfl).trans (by rw[U]);show bp (d:=.lst ((Qn 0 S).map λp=>.int (p.1:Nat))) (bW (d9 (eZ 0 S) (λp=>D.tup [.int p.1,stD p.2]) _ _ (by rw[<- tf];show vT (ao L rfl)) (by rw[wq];lia) λp v=>?_)) ?_
 .show dG rfl (bC (ap rfl rfl ?_)) λ_=>rfl;have hx:=hok p.2 (dP (kS v));change dIs p.2.2.D .non=_
  cases e:p.2.2 with
  |ch=>rfl
  |gd y=>rfl
  |gp ks=>rfl
  |wd i=>rw[e]at hx;rcases hx with q |q <;> nomatch q
 apply am;show bp (d:=.lst ((chs S).map prD)) (bW ?_) ?_
 .rw[<- Q,map_map];show gM (Qn 0 S) (λp=>D.int (p.1:Nat)) _ rfl (by lia) λp v=>fV rfl rfl ?_;have T:=kS (cw.mp v).1;have hlt:=(cX.mp T).1;show ba (fD (d:=stD p.2) (ba (fD (d:=.lst (S.map stD)) ((kM rfl).trans (by rw[U])) rfl) rfl ?_) rfl) rfl rfl;rw[lH ((0,ac,),.ch,) (by lia) (by lia),dD,bK,T];rfl
 show ju (d:=.int (A.length:Nat)) (ba rfl (h5 _ rfl rfl) ?_) (_,rfl,rfl,rfl);rw[lH (0,((0,ac,),.ch,),) (by lia) (by lia),dD,bK,v];change aa (D.int (p.1:Nat))=_;rw[e2,k7]
def clr(es:LOB)(C:LSp):LOB:=C.foldl (λes x=>es.set x.1.1.toNat ab) es
def Kk:∀(C:LSp) (es:LOB),(clr es C).length=es.length
 | [],_=>rfl
 |x::C,es=>by
  change(clr _ C).length=_;rw[Kk C,iy]
def Kl{t:Nat}{b:Bool}:∀(C:LSp) (es:LOB),(∀x∈C,x.1.1.toNat≠t)->clr (put es t b) C=put (clr es C) t b
 | [],_,_=>rfl
 |x::C,es,h=>by
  change clr ((put es t b).set _ _) C=put (clr _ C) t b;rw[<- Kl C _ λy a=>h y (bi _ a)];unfold put;rw[set_comm _ _ (h x az).symm]
def Km{n:Nat}{B:LRu}{bs:LLP}{st:LSp}:∀C:LSp,Tr n B bs (C++st)->clr (aW n (C++st)) C.reverse=aW n st
 | [],_=>rfl
 |y::C,h=>by
  have y0:=h.2.t0;have c:=h.2.t1;rw[iW];unfold clr;rw[eI];change(clr (put (aW n (C++st)) y.1.1.toNat y.1.2) C.reverse).set _ ab=_;rw[Kl _ _ λx a e=>?_,(Km C h.1)]
  .unfold put;rw[set_set];show nF ?_;have e:=(iS _ h).2.2 y az;have b:y.1.1.toNat<(aW n st).length:=by rw[e8];lia
   rw[bK,bY b]at e;rw[bY b];show congrArg aa e
  .have a:=g7.mp a;have:=jA h.1 (bZ st a);show(b7.mp (n6 h)).1 (aJ.mpr (x,bZ _ a,?_));change x.1.1=y.1.1
   lia
def Wj{f:Xe}{g:Xa}{a:LS}(h:f M=aa (d,ρ1,))(h':g ρ1=aa (ds,a,)):bH f g M=aa (d::ds,a,):=by
 unfold bH;rw[h];change(g ρ1).map _=_;rw[h'];rfl
def Spt.bk(n:Nat)(s:Spt)(A:LSp):Spt:={s with es:=aW n A.reverse,st:=A.map stD,wt:=[]}
variable{A W9:LSp}
def Wk(tr:Tr n B s.bs (A++W9).reverse)(f:s.st=(A++W9).map stD)(b:s.es=aW n (A++W9).reverse)(l:Addr):Cy l [.int (A.length:Nat)] (s.F B)=aa (((s.bk n A).S B).o,.non,):=by
 have h:((A++W9).drop (HT.sIx (A++W9).length 0 (aa A.length))).take (HT.sIx (A++W9).length (A++W9).length ab-HT.sIx (A++W9).length 0 (aa A.length))=W9:=by
  rw[HT.sIx_nat,HT.sIx_none,aR,show min A.length _=A.length by lia,drop_left' rfl,show A.length+W9.length-A.length=W9.length by lia,take_length]
 have i:((A++W9).drop (HT.sIx (A++W9).length 0 ab)).take (HT.sIx (A++W9).length (A++W9).length (aa A.length)-HT.sIx (A++W9).length 0 ab)=A:=by
  rw[HT.sIx_nat,HT.sIx_none,aR,show min A.length _=A.length by lia,drop_zero,Nat.sub_zero,take_left' rfl]
 rw[l9]at tr b;have a:=Km W9.reverse tr;rw[iV,<- b]at a;have c:s.es.length=n:=by rw[b,e8]
 apply fF;apply am
 show dH W9 stD (λpre M=>∃d e,M=[.deep (.at l (({s with es:=clr s.es pre}:Spt).F B)),.im _,d,e]) (fD (bW ((va ((kM rfl).trans (by rw[f])) rfl rfl).trans (by rw[h]))) rfl) (_,_,rfl) ?_ ?_
 .rintro pre y post M ex ⟨d,e,rfl⟩;have g:=jA tr (bZ A.reverse (g7.mpr (by rw[ex];simp:y∈W9)));show(_,rfl,?_);show JR rfl rfl rfl g.1 (by rw[aA,Kk,c];show g.2) (.im (prD y.1),.im y.2.D,?_);have j:clr s.es (pre++[y])=(clr s.es pre).set y.1.1.toNat ab:=by unfold clr;rw[eI];rfl
  rw[j];dsimp only[Spt.F];rw[g8];rfl
 .rintro M ⟨d,e,rfl⟩;rw[a];apply am;show gT (x:=lsO (A.map stD)) ?_ rfl rfl ?_
  .show nO ((va ((kM rfl).trans ?_) rfl rfl).trans (by rw[i]));rw[f]
  show gT (nO rfl) rfl rfl (_,rfl,rfl,rfl)
def lnD(bar:List Pr)(dn:List Ls):D:=.tup [eE bar,.lst (dn.map dnD)]
def Spt.ln(s:Spt)(bar:List Pr)(dn:List Ls):Spt:={s with pp:=s.pp++[lnD bar dn]}
def wK{bar:List Pr}(tr:Tr n B s.bs st)(a:bar.Sublist (chs st.reverse)):cW n bar:=by
 show(λz hz=>?_,?_)
 .have(y,c,e,_):=qt (a.subset hz);rw[<- e];show jA tr (g7.mp c)
 .show(a.map (·.1)).nodup ?_;unfold chs;rw[map_map];have b:(st.reverse.map (·.1.1)).Nodup:=by rw[qH];show pairwise_reverse.mpr ((n6 tr).imp λq e=>q e.symm)
  show(oi.map _).nodup b
inductive ClO(n:Nat)(B:LRu)(s:Spt)(st:LSp):O->Prop
 |fin {dn:List Ls}:jB n B s.bs st [] dn->ClO n B s st (({s.ln [] dn with en:=ac}:Spt).F B)
 |bk {bar:List Pr} {dn:List Ls} {A W9:LSp} {x:Stp}:jB n B s.bs st bar dn->qu st.reverse bar A x W9->ClO n B s st (((((s.ln bar dn).bk n A).bar bar).S B).o)
variable{c0:Nat}
def Wl(hr:∀r∈B,RuK n r)(hz:B.length<=1000)(hn:n<=60)(h:SpJ n c W7 B s)(g:dX c0 B.length s.bs s.tw)(C:c0+3840<16777216)(v:s.bs.length<=60000)(E:s.pp.length<=60000)(t:TrS n B s st)(G:Rt n B s.bs s.es w):∃o,(∀l,qe l [w.D] (s.S B).o=aa (o,.non,))/\ClO n B s st o:=by
 have(bar,dn,i,k):=We hr hz hn h t G;have tl:=tB t.tr;have tr:=t.tr
 by_cases f:bar=[]
 .subst f;show(_,λl=>?_,.fin k);apply fF;apply am;show jz (fE rfl rfl (dJ rfl rfl) rfl (i l)) ?_;apply am;show sK rfl rfl (by lia) ?_;show bc rfl (λq=>nomatch q) λ_=>(gT (sL rfl) rfl rfl (_,rfl,rfl,rfl))
 .have d:=t.sv
  have (A,x,W9,pk,m):=Wi (s:=s.ln bar dn) d (λy H=>by
   have(p,r,u):=me (g7.mp H);rw[u]at tr
   rcases(iS p tr).1.2.ok with⟨a,_⟩ |⟨a,_⟩
   .show .inl a
   .show .inr a) (by rw[kZ];lia) ((wK tr (qI _)).pd) k.bl f
  have j:st=(A++x::W9).reverse:=by rw[<- pk.e,iV]
  show(_,λl=>?_,.bk k pk);apply fF;apply am;show jz (fE rfl rfl (dJ rfl rfl) rfl (i l)) ?_;apply am;show sK rfl rfl (by lia) ?_;show bc (b:=ac) (df (ba rfl rfl rfl) ?_) (λ_=>?_) λq=>nomatch q
  .cases bar with
   |nil=>show absurd rfl f
   |cons z b=>rfl
  apply am;show jw (fE rfl rfl (ρ1:=[.deep _,.im w.D,.im (lnD bar dn)]) ?_ rfl (Wk (s:=s.ln bar dn) (by rw[<- j];show tr) (by rw[<- pk.e];show d) (by rw[<- j];show t.es) l)) ?_
  .show Wj (fE rfl rfl (dJ rfl rfl) rfl (m l)) rfl
  show jw (fE rfl rfl (dJ rfl rfl) rfl (Vy _ bar g C h.bk (wK tr k.bl) hn (by change B.length+s.bs.length<_;lia) (by change 0<_;lia))) (_,rfl,rfl,rfl)
abbrev dg:D->Nat
 |.tup [_,.non]=>1
 | _=>2
abbrev vl:Nat->LD->Nat
 | 0,_=>0
 | _+1,[]=>0
 |k+1,d::ds=>dg d*3 ^ k+vl k ds
def Kn(d:D):1<=dg d/\dg d<=2:=by unfold dg;split <;> show(by decide,by decide)
def tE:∀(k:Nat) (ds:LD),vl k ds<3 ^ k
 | 0,_=>Nat.one_pos
 |k+1,[]=>Nat.pow_pos (by decide)
 |k+1,d::ds=>by
  have a:=tE k ds;have h2:=xh (3 ^ k) (Kn d).2;simp only[vl,Nat.pow_succ]
  lia
def Ko:∀(k:Nat) (a:LD) (d:D) (b:LD),a.length<k->vl k a<vl k (a++d::b)
 | 0,_,_,_,h=>absurd h (g9 _)
 |k+1,[],d,b,_=>by
  have c:=xh (3 ^ k) (Kn d).1;have h2:0<3 ^ k:=Nat.pow_pos (by decide);change 0<dg d*3 ^ k+vl k b
  lia
 |k+1,e::a,d,b,h=>Nat.add_lt_add_left (Ko k a d b (xf h)) _
def Kq:∀(k:Nat) (a:LD) (x y:D) (b c:LD),a.length<k->dg x=1->dg y=2->vl k (a++x::b)<vl k (a++y::c)
 | 0,_,_,_,_,_,h,_,_=>absurd h (g9 _)
 |k+1,[],x,y,b,c,_,hx,hy=>by
  have d:=tE k b;change dg x*3 ^ k+vl k b<dg y*3 ^ k+vl k c;rw[hx,hy]
  lia
 |k+1,e::a,x,y,b,c,h,hx,hy=>Nat.add_lt_add_left (Kq k a x y b c (xf h) hx hy) _
abbrev aI(B:LRu)(W9:Nat)(s:Spt):OD×Spt:=stF B W9 (Me W9 s+1) s
def nv(n:Nat)(B:LRu)(W9:Nat)(s:Spt):Nat:=vl n (aI B W9 s).2.st
structure Hd(n c0 W9 W7:Nat)(B:LRu)(s:Spt)(st:LSp):Prop where
 J:SpJ n W9 W7 B s
 tw:dX (c0+3840*s.bs.length) B.length s.bs s.tw
 t:TrS n B s st
 pp:s.pp.length=s.bs.length
 en:s.en=af
 nb:s.bs.length<=nv n B W9 s
structure Par(n c0 W9 W7:Nat)(B:LRu):Prop where
 hr:∀r∈B,RuK n r
 hz:B.length<=250
 hn:n<=60
 hC:c0+3840*3 ^ n<=W9
 hB:n*(W9+1)+n+B.length+3<=W7
 h2:W7+W9<16777216
structure Se(n c0 W9 W7:Nat)(B:LRu)(s s1:Spt)(st st1:LSp):Prop where
 J:SpJ n W9 W7 B s1
 t:TrS n B s1 st1
 xt:∃xt,st1=xt++st/\∀x∈xt,x.2.nc=ac
 bs:s1.bs=s.bs
 tw:s1.tw=s.tw
 pp:s1.pp=s.pp
 ct:s1.ct=s.ct
 en:s1.en=s.en
variable{W9:Nat}
def Hd.se(P:Par n c0 W9 W7 B)(h:Hd n c0 W9 W7 B s st):∃st1,Se n c0 W9 W7 B s (aI B W9 s).2 st st1/\∀w,(aI B W9 s).1=aa w->∃wh:Wh,w=wh.D/\wh.nc=ac/\Rt n B s.bs (aI B W9 s).2.es wh:=by
 have hz:=P.hz;have a:=D4 P.hr (by lia) _ s h.J (c8 _);have((xt,g,i),b,c,d,e,f):=wC P.hr (by lia) P.hn _ s h.J (tq P.hr _ _ h.J (TrM.refl h.t));show(_,(a.ok,g,(xt,rfl,i),a.bs,b,c,d,e),f)
def Wm(P:Par n c0 W9 W7 B)(h:Hd n c0 W9 W7 B s st)(l:Addr):sG l [] (s.S B).o=aa (((aI B W9 s).2.S B).o,(aI B W9 s).1.getD .non,):=by
 have hz:=P.hz;have mB:=h.J.mB;have h2:=P.h2;show VV P.hr (by lia) P.hn P.h2 h.J (c8 _) (by grind)
def Kr{b:List Pr}{bs:LLP}:∀{st:LSp},Tr n B bs st->Tr n B (bs++[b]) st
 | [],_=>trivial
 |x::st,h=>by
  show(Kr h.1,h.2.t0,h.2.t1,h.2.op,?_)
  rcases h.2.ok with q |⟨q1,q2⟩
  .show .inl q
  .show .inr (q1,?_)
   cases c:x.2 with
   |ch=>rw[c]at q2;show q2
   |wd i=>rw[c]at q2;show q2
   |gp ks=>rw[c]at q2;show q2
   |gd y=>
    rw[c]at q2;have(f,d):=q2;have hm:=eY.mp f;have(a,j):=y
    cases a with
    |false=>show(eY.mpr hm,d)
    |true=>
     show(eY.mpr (by change j<(bs++[b]).length;rw[aR];lia),?_)
     have e:bQ B (bs++[b]) (ac,j,)=bQ B bs (ac,j,):=by
      change brg _=brg _;rw[lY,if_neg (by lia)]
     rw[e];show d
def Ks(P:Par n c0 W9 W7 B)(t:TrS n B s st)(bk:∀b∈s.bs,cW n b)(tw:dX W9 B.length s.bs s.tw)(wv:∀y∈s.wt,y∈gys B.length s.bs.length)(ms:s.ms.Perm (eW B))(wl:s.wt.length<=B.length+1):SpJ n W9 W7 B s:=by
 have hB:=P.hB;have f:=VB s.es;have c:s.es.length=n:=by rw[t.es,e8]
 have tl:=tB t.tr;have hm:iR s.es*_<=n*(W9+1):=xh _ (by lia);show(c,bk,tw,wv,ms,by lia,by rw[t.sv,aA,kZ];lia,λd hd=>?_);rw[t.sv]at hd;have(x,a,rfl):=aJ.mp hd;have a:=g7.mp a;have(p,r,e):=me a;show(x.1,x.2.D,rfl,jA t.tr a,?_);rw[t.es,e];show wJ (by rw[<- e];show t.tr)
variable{b0:List Pr}
def Wn{bar:List Pr}(g:es.length=n)(f:cW n bar)(e:bar=b0++[z])(m:∀y∈bar,y.2=ac)(i:∀y∈b0,es.getD y.1.toNat ab=aa ac)(hz:es.getD z.1.toNat ab=ab):∃p ps,prs (brg bar) es=aa (p::ps):=by
 have j:∀p∈brg bar,p.Ok es.length:=λp b=>by rw[g];show(sV f p b).1
 have br:∀y∈bar,brP y=.inn y.1:=λy c=>by unfold brP;rw[m y c];rfl
 have a:z∈bar:=by rw[e];simp
 have h:=f.nn z a
 cases b:prs _ es with
 |none=>
  have:=JS b _ (aJ.mpr (z,a,rfl));rw[br z a]at this;have this:(es.getD z.1.toNat ab==aa ac)=ac:=this;rw[hz]at this
  nomatch this
 |some l=>
  have(_,h2,_):=nY j b
  have:_∈l:=(h2 (z.1,af,)).mpr ((h.1,by rw[g];show h.2),tz hz,λp b=>by
   have(y,c,rfl):=aJ.mp b;rw[br y c];change((put es z.1.toNat ac).getD y.1.toNat ab==aa ac)=ac
   by_cases d:y.1.toNat=z.1.toNat
   .rw[d,eV es ac (by lia)];rfl
   .rw[c7 es ac d]
    have:y∈b0:=by
     rw[e]at c
     rcases bv.mp c with q |q
     .show q
     .show absurd (by rw[bB.mp q]) d
    rw[i y this];rfl)
  cases l with
  |nil=>nomatch this
  |cons p ps=>show(p,ps,rfl)
def Ec{bs:LLP}(tr:Tr n B bs st){y:Pr}(d:y∈chs st.reverse):y.2=ac/\(aW n st).getD y.1.toNat ab=aa ac:=by
 have(x,c,e,hn):=qt d;have(p,r,rfl):=me (g7.mp c);have b:=wJ tr
 rcases(iS p tr).1.2.ok with⟨_,a,_⟩ |⟨a,_⟩
 .rw[e]at a b;rw[a]at b;show(a,b)
 .rw[a]at hn;nomatch hn
structure Clo(n:Nat)(s1 s2:Spt)(bar:List Pr)(dn:List Ls)(A:LSp):Prop where
 es:s2.es=aW n A.reverse
 sv:s2.st=A.map stD
 bs:s2.bs=s1.bs++[bar]
 tw:s2.tw=f6 (ac,s1.bs.length,) (brg bar) (lX s1.bs s1.tw bar)
 wt:s2.wt=[(ac,s1.bs.length,)]
 ms:s2.ms=s1.ms
 pp:s2.pp=s1.pp++[lnD bar dn]
 en:s2.en=s1.en
variable{s2:Spt}{T st1:LSp}{dn:List Ls}
def Wo{bar:List Pr}(P:Par n c0 W9 W7 B)(h:Hd n c0 W9 W7 B s st)(e:Se n c0 W9 W7 B s (aI B W9 s).2 st st1)(k:jB n B s.bs st1 bar dn)(p:qu st1.reverse bar A x T)(q:Clo n (aI B W9 s).2 s2 bar dn A):Hd n c0 W9 W7 B s2 A.reverse/\nv n B W9 s<nv n B W9 s2:=by
 have hn:=P.hn;have hz:=P.hz;have hC:=P.hC
 have er:st1=T.reverse++x::A.reverse:=by
  have:=congrArg List.reverse p.e;rw[iV,l9,iW,cJ]at this;show this
 have c:=e.t.tr;rw[e.bs]at c;have g:Tr n B s.bs (x::A.reverse):=by rw[er]at c;show(iS _ c).1
 have bk:=wK c k.bl;have G:TrS n B s2 A.reverse:=(by rw[q.sv,iV],q.es,by rw[q.bs,e.bs];show Kr g.1);have hnv:=tE n (aI B W9 s).2.st;have hnb:s.bs.length<=vl n (aI B W9 s).2.st:=h.nb;have j:s2.bs.length=s.bs.length+1:=by rw[q.bs,e.bs,aR];rfl
 have i:dX (c0+3840*s.bs.length+3840) B.length s2.bs s2.tw:=by
  have:=(h.tw.dropped (λb I=>(h.J.bk b I).pd) bar).bar bk hn;rw[q.bs,q.tw,e.bs,e.tw];show this
 have L:SpJ n W9 W7 B s2:=by
  show Ks P G (λb I=>?_) (i.wk.le (by lia),i.vl,i.br) (λy f=>?_) (by rw[q.ms];show e.J.ms) (by rw[q.wt];change 1<=_;lia)
  .rw[q.bs,e.bs]at I
   rcases bv.mp I with z |z
   .show h.J.bk b z
   .rw[bB.mp z];show bk
  .rw[q.wt]at f;rw[bB.mp f];show eY.mpr (by change _<s2.bs.length;rw[q.bs,aR];show c8 _)
 have r:nv n B W9 s<nv n B W9 s2:=by
  have(b0,z,eb,M,U,_,_):=p.br;have C:∀y∈bar,y.2=ac:=λy f=>(Ec c (k.bl.subset f)).1;have m:=e8 n A.reverse;have h0:∀y∈b0,s2.es.getD y.1.toNat ab=aa ac:=λy f=>by rw[q.es];show(Ec g.1 (by rw[iV];show M.subset f)).2
  have Y:s2.es.getD z.1.toNat ab=ab:=by
   have(y,f,ey,_):=qt U;have tr2:Tr n B s.bs ((T.reverse++[x])++A.reverse):=by rw[cJ];rw[er]at c;show c
   rw[q.es,<- ey];show(iS _ tr2).2.2 y ?_
   rcases aX.mp f with u |u
   .rw[u];simp
   .simp[u]
  have(d,ps,N):=Wn (by rw[q.es,m]) bk eb C h0 Y
  have hg:bQ B s2.bs (ac,(aI B W9 s).2.bs.length,)=brg bar:=by
   change brg _=_;rw[q.bs,lY,if_pos rfl]
  have hok:∀u∈bQ B s2.bs (ac,(aI B W9 s).2.bs.length,),u.Ok s2.es.length:=by rw[hg,q.es,m];show λu l=>(sV bk u l).1
  rw[<- hg]at N;have(E,r2,_):=nY hok N;have(J3,_,f):=L.pop q.wt
  have t3:TrS n B {s2 with wt:=[]} A.reverse:=(G.sv,G.es,G.tr)
  have((u0,H),uo):=E.op d az;have H:d.1<n:=by rw[q.es,m]at H;show H
  have(n1,n2):=b7.mp E.nd
  have t5:=D5 (s:=({ s2 with wt:=[] } : Spt).pt d.1 d.2 _) f (by change (put s2.es _ _).length=n; rw [b8,q.es,m]) (λu l=>by change u.Ok (put s2.es _ _).length; rw [b8]; show hok u l) E.tail (λv hv u l=>by
   have((v0,v1),vo):=E.op v (bi _ hv);have ne:d.1≠v.1:=λee=>n1 (aJ.mpr (v,hv,ee.symm));change u.sure (put (put s2.es d.1.toNat d.2) v.1.toNat _)=ac;rw[wj (by lia)];show wa (by rw[b8];show hok u l) u0 (by rw[b8,q.es,m];show H) (wm u0 v0 ne uo) _ (((r2 v).mp (bi _ hv)).2.2 u l)) (TrM.refl (t3.pt (w:=.gd _) u0 H uo rfl (f,((r2 d).mp az).2.2)))
  have t6:TrM n B (((d.1,d.2,),.gd (ac,(aI B W9 s).2.bs.length,),)::A.reverse) (lrF B (Me W9 s2+1) s2).2:=by
   rw[qm q.wt N];show tq P.hr _ _ (nX J3 E).1 t5
  have((xt,k2,_),_):=wC P.hr (by lia) hn _ s2 L t6
  have e1:(aI B W9 s).2.st=A.map stD++stD x::T.map stD:=by
   rw[e.t.sv,p.e,bd,bD]
  have e2:(aI B W9 s2).2.st=A.map stD++stD ((d.1,d.2,),.gd (ac,(aI B W9 s).2.bs.length,),)::xt.reverse.map stD:=by
   change(stF B W9 _ s2).2.st=_;rw[k2.sv,l9,iW,iV,cJ,bd,bd];rfl
  unfold nv;rw[e1,e2];have tl:=tB g;rw[cb,kZ]at tl;show Kq n _ _ _ _ _ (by rw[aA];lia) ?_ rfl
  have Q:x.2=.ch:=by
   rcases g.2.ok with⟨a,_⟩ |⟨a,_⟩
   .show a
   .rw[p.nc]at a;nomatch a
  unfold stD;rw[Q];rfl
 show((L,by rw[j];show i,G,by rw[q.pp,e.pp,aR,h.pp,j];rfl,by rw[q.en,e.en];show h.en,?_),r);rw[j];show mi h.nb r
def Ed(es:LOB):du .non (es.map shD)=aa (es.any (·==ab)):=by
 induction es with
 |nil=>rfl
 |cons e es a=>
  change((deq 19 _ .non).bind λb=>(du .non _).map λr=>b || r)=_;rw[a]
  cases e with
  |none=>rfl
  |some b=>cases b <;> rfl
def Wp(h:es.any (·==ab)=ac):gR (.lst (es.map shD)) .non=aa (.int (es.findIdx (·==ab):Nat)):=by
 change(if du _ _=aa ac then aa _ else ab)=_;rw[Ed,h,if_pos rfl]
 congr 3
 clear h
 induction es with
 |nil=>rfl
 |cons e es a=>
  rw[bD,qG,qG,a]
  cases e with
  |none=>rfl
  |some b=>cases b <;> rfl
def wOf(es:LOB):LI0:=((eZ 0 es).filter λp=>p.2==aa ac).map λp=>(p.1:Int)
def Wq(h:es.any (·==ab)=af)(c:es.length<=1000):sH [.lst (es.map shD)]=aa ((wOf es).map D.int):=by
 show nt ?_;unfold wOf;rw[map_map];show congrArg _ (d9 _ _ _ _ (by rw[<- tf];show vT rfl) (by rw[wq];lia) λp a=>dG rfl (df rfl ?_) λ_=>rfl);have hm:=any_eq_false.mp h p.2 (dP (kS a))
 cases e:p.2 with
 |none=>rw[e]at hm;show absurd rfl hm
 |some b=>cases b <;> rfl
variable{F:MF3}
def Kt{t:MF4}{k:Nat}(h:t M=aa ac)(a:wp F M λr=>match r with
  |.nx ρ'=>wp (dq t F k) ρ' K
  |.rtS d ρ'=>K (.rtS d ρ')
  | _=>False):wp (dq t F (k+1)) M K:=by
 have(r,e,q):=a;dsimp only[wp,dq];rw[h,e,ax]
 cases r with
 |nx ρ'=>show q
 |rtS d ρ'=>show(_,rfl,q)
 | _=>show q.elim
def tF{t:MF4}{k:Nat}(h:t M=aa af)(q:K (.nx M)):wp (dq t F (k+1)) M K:=(.nx M,by unfold dq;rw[h];rfl,q)
nonrec def anT:MF4:=fR (bM (pD (aU "Seeking" "ended" (aH 0))))
nonrec def anB:MF3:=(ai (fZ 1 (cH 0 "Seeking" "settle" sG cu))
  (be (mB (m2 fA (ae 1) kN)) (dN (cH 0 "Seeking" "close" qe (bH (mX (ae 1)) cu))) (be (mB (m2 fW kN (pB (aU "Seeking" "sheet" (aH 0))))) (dN (cH 0 "Seeking" "put" qf (bH (mX (m2 gR (pB (aU "Seeking" "sheet" (aH 0))) kN)) (bH (mX (kBl ac)) (bH (mX kN) cu))))) (ai (aZ 2 (aP (pN sH (ag (pB (aU "Seeking" "sheet" (aH 0))) nZ))))
  (ai (dN (cH 0 "Seeking" "close" qe (bH (mX (bo (ag (kSt "world") (ag (pD (aU "Seeking" "count" (aH 0))) nZ)))) cu)))
  (ai (nK 0 "Seeking" "count" (kI 1))
  (fB (ae 2))))))))
abbrev anK(l:Addr)(o:O):Option (LI0)->Fl->Prop
 |none,x=>∃M,x=.nx M/\M[0]?=aa (.deep (.at l o))
 |some ws,x=>∃M,x=.rtS (.lst (ws.map D.int)) M/\M[0]?=aa (.deep (.at l o))
def Wr(P:Par n c0 W9 W7 B)(h:Hd n c0 W9 W7 B s st)(e:Se n c0 W9 W7 B s (aI B W9 s).2 st st1){t:Nat}(t1:t<n)(i:(aI B W9 s).2.es.getD t ab=ab)(p:∀j,j<t->(aI B W9 s).2.es.getD j ab≠ab):Hd n c0 W9 W7 B ((aI B W9 s).2.pt t ac .non) (((t,ac,),.ch,)::st1)/\nv n B W9 s<nv n B W9 ((aI B W9 s).2.pt t ac .non):=by
 have hz:=P.hz;have f:=tz (by rw[dD];show i);have c:=(e.J.pt (b:=ac) (w:=.non) (by lia) (by lia) f).1
 have d:TrS n B ((aI B W9 s).2.pt t ac .non) (((t,ac,),.ch,)::st1):=by
  show(?_,?_,e.t.tr,by change(0:Int)<=t;lia,by change(t:Int)<n;lia,by rw[<- e.t.es];show f,.inl (rfl,rfl,λj m=>?_))
  .change(aI B W9 s).2.st++[_]=_;rw[e.t.sv,iW,bd];rfl
  .change put (aI B W9 s).2.es _ _=_;rw[e.t.es];rfl
  .rw[<- e.t.es]
   grind
 have a:nv n B W9 s<nv n B W9 ((aI B W9 s).2.pt t ac .non):=by
  have((xt,l,_),_):=wC P.hr (by lia) P.hn _ _ c (tq P.hr _ _ c (TrM.refl d));have tl:=tB d.tr;rw[cb]at tl
  have g:(aI B W9 ((aI B W9 s).2.pt t ac .non)).2.st=(aI B W9 s).2.st++stD ((t,ac,),.ch,)::xt.reverse.map stD:=by
   change(stF B W9 _ _).2.st=_;rw[l.sv,l9,iW,cJ,bd,<- e.t.sv];rfl
  unfold nv;rw[g];show Ko n _ _ _ (by rw[e.t.sv,aA,kZ];lia)
 show((c,?_,d,?_,?_,?_),a)
 .change dX (c0+3840*(aI B W9 s).2.bs.length) _ (aI B W9 s).2.bs (aI B W9 s).2.tw;rw[e.bs,e.tw];show h.tw
 .change(aI B W9 s).2.pp.length=(aI B W9 s).2.bs.length;rw[e.bs,e.pp];show h.pp
 .change(aI B W9 s).2.en=af;rw[e.en];show h.en
 .change(aI B W9 s).2.bs.length<=_;rw[e.bs];show cS h.nb (eK a)
structure Car(n c0 W9 W7:Nat)(B:LRu)(I:Spt->LSp->List (LI0)->Prop)(F:Spt->List (LI0)->Prop):Prop where
 ch:∀{s st st1 fd} {t:Nat},Hd n c0 W9 W7 B s st->I s st fd->Se n c0 W9 W7 B s (aI B W9 s).2 st st1->(aI B W9 s).1=ab->t<n->(aI B W9 s).2.es.getD t ab=ab->I ((aI B W9 s).2.pt t ac .non) (((t,ac,),.ch,)::st1) fd
 cl:∀{s st st1 fd w bar dn A x T s2},Hd n c0 W9 W7 B s st->I s st fd->Se n c0 W9 W7 B s (aI B W9 s).2 st st1->(aI B W9 s).1=aa (Wh.D w)->Rt n B s.bs (aI B W9 s).2.es w->jB n B s.bs st1 bar dn->qu st1.reverse bar A x T->Clo n (aI B W9 s).2 s2 bar dn A->s2.ct=s.ct->Hd n c0 W9 W7 B s2 A.reverse->I s2 A.reverse fd
 fi:∀{s st st1 fd w dn s2},Hd n c0 W9 W7 B s st->I s st fd->Se n c0 W9 W7 B s (aI B W9 s).2 st st1->(aI B W9 s).1=aa (Wh.D w)->Rt n B s.bs (aI B W9 s).2.es w->jB n B s.bs st1 [] dn->s2.pp=s.pp++[lnD [] dn]->F s2 fd
 wc:∀{s st st1 fd bar dn A x T s2},Hd n c0 W9 W7 B s st->I s st fd->Se n c0 W9 W7 B s (aI B W9 s).2 st st1->(aI B W9 s).1=ab->(aI B W9 s).2.es.any (·==ab)=af->jB n B s.bs st1 bar dn->qu st1.reverse bar A x T->Clo n (aI B W9 s).2 s2 bar dn A->s2.ct=s.ct+1->Hd n c0 W9 W7 B s2 A.reverse->I s2 A.reverse (fd++[wOf (aI B W9 s).2.es])
 wf:∀{s st st1 fd dn s2},Hd n c0 W9 W7 B s st->I s st fd->Se n c0 W9 W7 B s (aI B W9 s).2 st st1->(aI B W9 s).1=ab->(aI B W9 s).2.es.any (·==ab)=af->jB n B s.bs st1 [] dn->s2.pp=s.pp++[lnD [] dn]->F s2 (fd++[wOf (aI B W9 s).2.es])
structure Fin(B:LRu)(F:Spt->List (LI0)->Prop)(fd:List (LI0))(o:O):Prop where
 ex:∃s:Spt,s.en=ac/\s.pp≠[]/\s.pp.length<=100000/\F s fd/\o=s.F B
inductive Af(n c0 W9 W7:Nat)(B:LRu)(I:Spt->LSp->List (LI0)->Prop)(F:Spt->List (LI0)->Prop)(fd:List (LI0))(v:Nat)(o:O):Prop
 |go (s:Spt) (st:LSp):Hd n c0 W9 W7 B s st->I s st fd->v<nv n B W9 s->o=(s.S B).o->Af n c0 W9 W7 B I F fd v o
 |fin:Fin B F fd o->Af n c0 W9 W7 B I F fd v o
variable{I:Spt->LSp->List (LI0)->Prop}{F:Spt->List (LI0)->Prop}
def Ee(P:Par n c0 W9 W7 B)(K:Car n c0 W9 W7 B I F):∀(u:Nat) (s:Spt) (st:LSp) (fd:List (LI0)),Hd n c0 W9 W7 B s st->I s st fd->3 ^ n-nv n B W9 s<=u->∃(r:Option (LI0)) (o:O),(∀l v1 f k,u<k->wp (dq anT anB (k+1)) [.deep (.at l (s.S B).o),v1,f] (anK l o r))/\(r=ab->Fin B F fd o)/\∀ws,r=aa ws->Af n c0 W9 W7 B I F (fd++[ws]) (nv n B W9 s) o
 | u,s,st,fd,h,hI,hμ=>by
  have hz:=P.hz;have hn:=P.hn;have hC:=P.hC;have h2:=P.h2;have hnv:nv n B W9 s<3 ^ n:=tE _ _;have hnb:=h.nb;have hpp:=h.pp;have(st1,se,hwy):=h.se P;have i:=se.bs;have H:=se.ct;have m:=se.pp;have J1:=se.J;have Y:=Wm P h;have L:=λ(bar dn A x T s2)=>Wo (bar:=bar) (dn:=dn) (A:=A) (x:=x) (T:=T) (s2:=s2) P h se;have hch:=λt=>Wr (t:=t) P h se;have kch:=λt=>K.ch (t:=t) h hI se;have kcl:=λ(w bar dn A x T s2)=>K.cl (w:=w) (bar:=bar) (dn:=dn) (A:=A) (x:=x) (T:=T) (s2:=s2) h hI se;have kfi:=λ(w dn s2)=>K.fi (w:=w) (dn:=dn) (s2:=s2) h hI se;have kwc:=λ(bar dn A x T s2)=>K.wc (bar:=bar) (dn:=dn) (A:=A) (x:=x) (T:=T) (s2:=s2) h hI se;have kwf:=λ(dn s2)=>K.wf (dn:=dn) (s2:=s2) h hI se;generalize aI B W9 s=R at *;have y:=λ{w:Wh} C=>Wl (w:=w) P.hr (by lia) hn J1 (by rw[i,se.tw];show h.tw) (by lia) (by rw[i];lia) (by rw[m];lia) se.t C;rw[i]at y
  have g:∀l v1 f k Q,wp _ [.deep _,.im _,f] _->wp (dq anT anB (k+1)) [.deep (.at l (s.S B).o),v1,f] Q:=λl v1 f k Q U=>by
   show Kt (m9 (df (kM rfl) (by change mQ (.bl s.en)=aa af;rw[h.en];rfl))) ?_;apply am;show jz (fE rfl rfl rfl rfl (Y l)) U
  cases hR:R.1 with
  |some wd=>
   have(w,rfl,hnc,C):=hwy wd hR;have(o,e1,ck):=y C
   have hwn:fA w.D .non=aa (.bl ac):=by
    cases w with
    |ch=>nomatch hnc
    | _=>rfl
   have step:=λl v1 f k Q U=>by
    show g l v1 f k Q ?_;rw[hR];show bc (bC (ap rfl rfl hwn)) (λ_=>(jw (fE rfl rfl (dJ rfl rfl) rfl (e1 l)) U)) λq=>nomatch q
   cases ck with
   | @fin dn k=>
    rw[i]at k
    show⟨ab,({R.2.ln [] dn with en:=ac}:Spt).F B,λl v1 f kk M=>?_,λ_=>({R.2.ln [] dn with en:=ac},rfl,?_,?_,kfi w dn _ hR C k (by change(R.2.ln [] dn).pp=_;unfold Spt.ln;rw[m]),rfl),λws e=>nomatch e⟩
    .obtain⟨kk,rfl⟩:∃j,kk=j+1:=(kk-1,by lia);show step l v1 f _ _ (tF rfl (_,rfl,rfl))
    .change R.2.pp++[_]≠[];simp
    .change(R.2.pp++[_]).length<=_;rw[aR,m];change _+1<=_
     lia
   | @bk bar dn A T x k p=>
    rw[i]at k;have q:Clo n R.2 (((R.2.ln bar dn).bk n A).bar bar) bar dn A:=(rfl,rfl,rfl,rfl,rfl,rfl,rfl,rfl);have(v,g2):=L bar dn A x T _ k p q
    match u,hμ with
    | 0,hμ=>lia
    | u+1,hμ=>
     have(r,o',i1,i2,i3):=Ee P K u _ _ fd v (kcl w bar dn A x T _ hR C k p q H v) (by lia);show(r,o',λl v1 f kk M=>?_,i2,λws e=>?_)
     .obtain⟨kk,rfl⟩:∃j,kk=j+1:=(kk-1,by lia);show step l v1 f _ _ (i1 l _ _ kk (by lia))
     .cases i3 ws e with
      |go s' E a b c d=>show .go s' E a b (by lia) d
      |fin a=>show .fin a
  |none=>
   have hl1:=J1.es
   cases ha:R.2.es.any (·==ab)with
   |true=>
    have N:=wW (any_eq_true.mp ha)
    have G:R.2.es.getD (R.2.es.findIdx (·==ab)) ab=ab:=by
     rw[bK,bY N];have:=findIdx_getElem (w:=N);show beq_iff_eq.mp this
    have(v,g2):=hch _ (by lia) G λj hj q=>by
     have:=not_of_lt_findIdx hj;rw[bK,bY (by lia)]at q;have q:R.2.es[j]=ab:=q;rw[q]at this;show absurd this (by decide)
    match u,hμ with
    | 0,hμ=>lia
    | u+1,hμ=>
     have(r,o',i1,i2,i3):=Ee P K u _ _ fd v (kch _ hR (by lia) G) (by lia);show(r,o',λl v1 f kk M=>?_,i2,λws e=>?_)
     .obtain⟨kk,rfl⟩:∃j,kk=j+1:=(kk-1,by lia);show g l v1 f _ _ ?_;rw[hR];show bc rfl (λq=>nomatch q) λ_=>?_;show bc (b:=ac) (bC (ap rfl (jt jR) (by change((du .non (R.2.es.map shD)).map D.bl)=_;rw[Ed,ha];rfl))) (λ_=>(jw (fE rfl rfl (dJ (ap (jt jR) rfl (Wp ha)) (dJ rfl (dJ rfl rfl))) rfl ((λl=>DV (t:=(R.2.es.findIdx (·==ab):Nat)) J1 P.h2 (by lia) (by lia)) l)) (i1 l _ _ kk (by lia)))) λq=>nomatch q
     .cases i3 ws e with
      |go s' E a b c d=>show .go s' E a b (by lia) d
      |fin a=>show .fin a
   |false=>
    have C:Rt n B s.bs R.2.es (.wd R.2.ct):=λk M q=>by
     rw[bK,bY (by lia)]at q;have q:R.2.es[k]=ab:=q;show any_eq_false.mp ha _ (g4 _) (by rw[q];rfl)
    have(o,e1,ck):=y C
    have step:∀o2 l v1 f k Q,(∀v1 f,nK 0 "Seeking" "count" (kI 1) [.deep (.at l o),v1,f]=aa (.nx [.deep (.at l o2),v1,f]))->Q (.rtS (.lst ((wOf R.2.es).map D.int)) [.deep (.at l o2),.im .non,.im (.lst ((wOf R.2.es).map D.int))])->wp (dq anT anB (k+1)) [.deep (.at l (s.S B).o),v1,f] Q:=λo2 l v1 f k Q hau U=>by
     show g l v1 f k Q ?_;rw[hR];show bc rfl (λq=>nomatch q) λ_=>?_;show bc (b:=af) (bC (ap rfl (jt jR) (by change((du .non (R.2.es.map shD)).map D.bl)=_;rw[Ed,ha];rfl))) (λq=>nomatch q) λ_=>?_;apply am;show bp (d:=.lst ((wOf R.2.es).map D.int)) (bW ?_) ?_
     .change(ag _ _ _).bind _=_;rw[ao (jt jR) rfl,ax];change(sH [.lst (R.2.es.map shD)]).bind _=_;rw[(Wq ha (by lia)),ax,if_pos (all_eq_true.mpr λd hd=>by have(z,_,rfl):=aJ.mp hd;rfl)]
     apply am;show jw (fE rfl rfl (dJ (d:=(Wh.wd R.2.ct).D) (cV (ao rfl (ao (kM rfl) rfl))) rfl) rfl (e1 l)) ?_;apply am;show(_,hau _ _,(ju rfl U))
    cases ck with
    | @fin dn k=>
     rw[i]at k
     show(aa (wOf R.2.es),(({({R.2.ln [] dn with en:=ac}:Spt)with ct:=R.2.ct+1}:Spt).F B),λl v1 f kk M=>step _ l v1 f kk _ (λ_ _=>rfl) (_,rfl,rfl),(λe=>nomatch e),λws e=>?_)
     cases e
     show .fin ({({R.2.ln [] dn with en:=ac}:Spt)with ct:=R.2.ct+1},rfl,?_,?_,kwf dn _ hR ha k (by change(R.2.ln [] dn).pp=_;unfold Spt.ln;rw[m]),rfl)
     .change R.2.pp++[_]≠[];simp
     .change(R.2.pp++[_]).length<=_;rw[aR,m];change _+1<=_
      lia
    | @bk bar dn A T x k p=>
     rw[i]at k
     have q:Clo n R.2 {((R.2.ln bar dn).bk n A).bar bar with ct:=R.2.ct+1} bar dn A:=(rfl,rfl,rfl,rfl,rfl,rfl,rfl,rfl)
     have(v,g2):=L bar dn A x T _ k p q
     show(aa (wOf R.2.es),(({((R.2.ln bar dn).bk n A).bar bar with ct:=R.2.ct+1}:Spt).S B).o,λl v1 f kk M=>step _ l v1 f kk _ (λ_ _=>rfl) (_,rfl,rfl),(λe=>nomatch e),λws e=>?_)
     cases e;show .go _ _ v (kwc bar dn A x T _ hR ha k p q (by change R.2.ct+1=_;rw[H]) v) g2 rfl
def wL{cn a:Str}{f:Xa}(h:M[i]?=aa (.deep o))(hi:o.isIns cn a=ac)(e:f M=aa (ds,ρ1,))(c:ρ1[i]?=aa (.deep o))(hm:∀l,m l ds o=aa (o',d,)):jQ i cn a m f M=aa (d,ρ1.set i (.deep o'),):=by
 have(ns,os,rfl,_):=zJ hi;unfold jQ;rw[h];change(if (O.ins cn ns os).isIns cn a=ac then _ else ab)=_;rw[if_pos hi,e,ax,c];have b:∃q,∀l,m l ds _=aa q:=(_,hm);dsimp only;rw[dif_pos b];have:=b.choose_spec 0;rw[hm 0]at this;rw[<- dh this]
inductive Sq:O->List (LI0)->O->Prop
 |nil {o o':O}:o.isIns "Seeking" "another"=ac->(∀l,m_8 l [] o=aa (o',.non,))->Sq o [] o'
 |cons {o o' oE:O} {w:LI0} {ws:List (LI0)}:o.isIns "Seeking" "another"=ac->(∀l,m_8 l [] o=aa (o',.lst (w.map D.int),))->Sq o' ws oE->Sq o (w::ws) oE
def wsD(ws:List (LI0)):D:=.lst (ws.map λw=>.lst (w.map D.int))
nonrec def wD(w:LI0):D:=.lst (w.map D.int)
nonrec def woT:MF4:=(dF (mB (m2 fA (ae 4) kN)) (mB (m2 dLt (aw cG (ag (cO 3) nZ)) (ae 1))))
nonrec def woB:MF3:=(ai (dC 3 (ae 4)) (fZ 4 (jQ 2 "Seeking" "another" m_8 cu)))
def Ku{a:D}{most:Int}{oE:O}{K:Fl->Prop}:∀(ws:List (LI0)) (w:LI0) (o:O) (fs:List (LI0)) (k:Nat),Sq o ws oE->(fs.length:Int)<=most->fs.length+ws.length<10000000->ws.length+2<=k->(((fs++w::ws).length:Int)<=most->K (.nx [.im a,.im (.int most),.deep oE,.own ((fs++w::ws).map wD),.im .non]))->((¬((fs++w::ws).length:Int)<=most)->∀o' d,K (.nx [.im a,.im (.int most),.deep o',.own (((fs++w::ws).take most.toNat).map wD),.im (wD d)]))->wp (dq woT woB k) [.im a,.im (.int most),.deep o,.own (fs.map wD),.im (wD w)] K
 |ws,w,o,fs,0,_,_,_,h,_,_=>absurd h (by lia)
 |ws,w,o,fs,k+1,hs,hm,hl,hk,k1,k2=>by
  have e:woT [.im a,.im (.int most),.deep o,.own (fs.map wD),.im (wD w)]=aa (decide (fs.length<most)):=by
   show(jL (a:=ac) rfl (bC (ap (aG rfl (fX fs wD)) rfl rQ))).trans ?_;rw[qz]
  by_cases c:fs.length<most
  .rw[decide_eq_true c]at e;show Kt e ?_;apply am;show gN rfl rfl (by rw[aA];lia) ?_;have g:fs.map wD++[wD w]=(fs++[w]).map wD:=by rw[bd];rfl
   cases hs with
   |nil hi b=>
    show jz (wL rfl hi rfl rfl b) ?_;rw[g];obtain⟨k,rfl⟩:∃j,k=j+1:=(k-1,by lia);show tF (by unfold woT dF;rfl) (k1 ?_);rw[aR];change((fs.length+1:Nat):Int)<=_
    lia
   | @cons _ o' _ d ws' hi b f=>
    show jz (wL rfl hi rfl rfl b) ?_;rw[g];have i:fs++w::d::ws'=(fs++[w])++d::ws':=by rw[cJ];rfl
    rw[i]at k1 k2;simp only[cb]at hl hk;show Ku ws' d o' _ k f (by rw[aR];change((fs.length+1:Nat):Int)<=_;lia) (by rw[aR];change fs.length+1+_<_;lia) (by lia) k1 k2
  .rw[decide_eq_false c]at e;have l:fs.length=most.toNat:=by lia
   have:=k2 (by rw[aR,cb];lia) o w;rw[<- l,take_left' rfl]at this;show tF e this
def Ws{f:Xa}(h:M[i]?=aa (.deep (.at l o0)))(b:f M=aa (ds,ρ1,))(a:ρ1[i]?=aa (.deep (.at l o)))(hm:m l ds o=aa (o',d,)):lU i m f M=aa (d,ρ1.set i (.deep (.at l o')),):=by
 unfold lU;simp only[h,b,ax,a];change(m l ds o).map _=_;rw[hm];rfl
def s00(n:Nat)(B:LRu):Spt:=spT (g6 n ab) B
def Wu(P:Par n c0 W9 W7 B)(l:Addr):BY l [pl0 n B] (.ins "Seeking" [] [])=aa (((s00 n B).S B).o,.non,):=by
 have hn:=P.hn;have e0:=UZ (v:=n) (es:=g6 n ab) P.hn P.hr P.hz l;rw[Vn]at e0;apply fF;apply am;show jw (Ws rfl (dJ rfl (dJ rfl (dJ (bW ?_) rfl))) rfl e0) ?_
 .rw[map_replicate];show(gM _ _ _ ((pA (ao (ba rfl rfl rfl) rfl) (by lia) (by lia)).trans (by rw[dD])) (by rw[cI];lia) λ_ _=>fV rfl rfl rfl).trans ?_;rw[map_const',cI];rfl
 apply am;show gT (nO rfl) rfl rfl ?_;apply am;show gT (sL rfl) rfl rfl (gT (sL rfl) rfl rfl (_,rfl,rfl,rfl))
variable{q:Nat}
def hd0(P:Par n (64*q*B.length) W9 W7 B)(c:∀r∈B,(grd r).length<=q):Hd n (64*q*B.length) W9 W7 B (s00 n B) []:=by
 have hC:=P.hC;have b:=VW P.hn (l8 (a:=ab)) λr hr=>(P.hr r hr,c r hr);have t:TrS n B (s00 n B) []:=(rfl,rfl,trivial);show(Ks P t b.bk (b.tw.wk.le (by lia),b.tw.vl,b.tw.br) b.wv b.ms (by have:=b.wl;change(spT _ B).wt.length<=_;rw[this];change B.length+0<=_;lia),b.tw,t,rfl,rfl,ce _)
def Wv{fd:List (LI0)}(h:Fin B F fd o):Sq o [] o:=by
 have(s,e,_,_,_,rfl):=h.ex;show .nil rfl λl=>?_;apply fF;apply am;show tF (m9 (df (kM rfl) (by change mQ (.bl s.en)=aa ac;rw[e];rfl))) (ju rfl (_,rfl,rfl,rfl))
def Kv(P:Par n c0 W9 W7 B)(K:Car n c0 W9 W7 B I F):∀(g:Nat) (s:Spt) (st:LSp) (fd:List (LI0)),Hd n c0 W9 W7 B s st->I s st fd->3 ^ n-nv n B W9 s<=g->∃ws oE,Sq (s.S B).o ws oE/\Fin B F (fd++ws) oE/\ws.length<=g
 | g,s,st,fd,h,hI,hμ=>by
  have hC:=P.hC;have h2:=P.h2;have y:nv n B W9 s<3 ^ n:=tE _ _;have(r,o,q,u,v):=Ee P K _ s st fd h hI (aL _)
  have run:∀l,m_8 l [] (s.S B).o=aa (o,match r with |none=>.non |some w=>wD w,):=λl=>by
   apply fF;apply am;show Qb (q l _ _ 999999999 (by lia)) λx m=>?_
   cases r with
   |none=>
    have(M,rfl,e):=m
    show ju rfl (o,e,rfl,rfl)
   |some w=>
    have(M,rfl,e):=m;show(o,e,rfl,rfl)
  cases r with
  |none=>show([],o,.nil rfl run,by rw[bN];show u rfl,ce _)
  |some w=>
   cases v w rfl with
   |fin f=>show([w],o,.cons rfl run (Wv f),f,by change 1<=g;lia)
   |go z i a b c d=>
    subst d
    match g,hμ with
    | 0,hμ=>lia
    | g+1,hμ=>
     have(ws,oE,p,j,A):=Kv P K g z i _ a b (by lia);show(w::ws,oE,.cons rfl run p,by rw[cJ]at j;show j,by simp only[cb];lia)
def Ww(P:Par n (64*q*B.length) W9 W7 B)(f:∀r∈B,(grd r).length<=q)(K:Car n (64*q*B.length) W9 W7 B I F)(e:I (s00 n B) [] []):∃(ws:List (LI0)) (s:Spt),F s ws/\s.pp≠[]/\ws.length<=3 ^ n/\∀most:Int,0<=most->m_0 [pl0 n B,.int most]=aa (if (ws.length:Int)<=most then .tup [wsD ws,.bl ac,.lst s.pp] else .tup [wsD (ws.take most.toNat),.bl af,.lst []]):=by
 have hC:=P.hC;have h2:=P.h2;have(ws,oE,c,(s,f1,f2,h,d,rfl),b):=Kv P K (3 ^ n) _ [] [] (hd0 P f) e (by lia);show(ws,s,d,f2,b,λmost hm=>?_);apply jN;apply am;show Q0 (UO rfl (λl=>Wu P l)) ?_;apply am;show d4 rfl ?_;apply am
 cases c with
 |nil hi hr=>
  show jz (wL rfl hi rfl rfl hr) ?_;apply am;show tF (by unfold dF;rfl) ?_;apply am;show bc rfl (λ_=>?_) λq=>nomatch q
  show pJ rfl (Ea rfl (gj rfl (gm ((if_pos (hm)).symm))))
 | @cons _ o' _ w ws hi hr g=>
  rw[cb]at b;show jz (wL rfl hi rfl rfl hr) ?_;apply am;show Ku ws w o' [] _ g hm (by rw[length_nil];lia) (by lia) (λa=>?_) λa o2 i=>?_
  .apply am;show bc rfl (λ_=>?_) λq=>nomatch q;show pJ rfl (Ea rfl (gj rfl (gm ((if_pos (a)).symm))))
  .apply am;show bc rfl (λq=>nomatch q) λ_=>b9 ?_;show pJ rfl (gj rfl (gm ((if_neg (a)).symm)))
structure Scr(x:D)(ns:LI0):Prop where
 ln:cG [x]=aa (.int ns.length)
 sq:iG x=aa (ns.map D.int)
 sl:∀{f:MF1} {l h:LS->Option (Option Int)} {M:LS} {lo hi:Option Int},f M=aa x->l M=aa lo->h M=aa hi->mSl f l h M=aa (((ns.drop (HT.sIx ns.length 0 lo)).take (HT.sIx ns.length ns.length hi-HT.sIx ns.length 0 lo)).map D.int)
def Wx(ns:LI0):Scr (.kl (ns.map D.int)) ns:=(G6 _ _,rfl,λe a b=>G8 e a b)
def Ef{x:D}(h:Scr x ns){i:Int}(b:0<=i):∃v,sr [x,.int i]=aa (.int v):=by
 by_cases a:i<ns.length
 .have(v,_,e):=lG b a;show(v,cQ (uR (uS (bC (ap rfl (aG rfl h.ln) (rQ.trans (by rw[decide_eq_true a])))) (cP (ba h.sq rfl e)))))
 .show(0,cQ (jK (m7 (bC (ap rfl (aG rfl h.ln) (rQ.trans (by rw[decide_eq_false a])))) rfl) rfl))
def kU(c k:Int)(q:0<=k)(r:k<=100):∃v,m_3 [.int c,.int k]=aa (.int v)/\0<=v/\v<1000003:=by
 suffices h:∃d,m_3 _=aa d/\∃v:Int,d=.int v/\0<=v/\v<1000003 by
  have(d,e,v,rfl,h):=h;show(v,e,h)
 apply nj;have(p,i,n):=lG (f:=D.int) (C:=[2147483647,1000000007,998244353,1000000009]) (dY _ (by decide)) (f7 _ (by decide));have b:∀p∈([2147483647,1000000007,998244353,1000000009]:LI0),0<p/\p<=2147483647:=by decide
 have(j,u):=b p (dP i);have l:=dY c (show 10 ^ (18:Int).toNat≠0 by decide);have m:=f7 c (show 0<10 ^ (18:Int).toNat by decide);have a:(10:Int) ^ (18:Int).toNat=1000000000000000000:=by decide
 have g:kh 10 18:=(by decide,by decide,by decide);apply am;show bp (ba rfl (ap rfl rfl (cr (by decide))) n) ?_;apply am;show bp (ap (ap (ap (ap rfl (ap rfl rfl (pL g)) (cr (by rw[a];decide))) (ap rfl (ap rfl rfl eB) (nA (.inr (by lia,by lia)))) eB) rfl (nA (.inr (by rw[a]at m l ⊢;lia,by lia)))) rfl (cr (by lia))) ?_;have o0:=dY ((c % 10 ^ (18:Int).toNat+15485863*(k+1))*48271) (show p≠0 by lia);have o1:=f7 ((c % 10 ^ (18:Int).toNat+15485863*(k+1))*48271) j;generalize _*48271 % p=o at *;show gj (ap (ap rfl rfl (nA (.inr (by lia,by lia)))) rfl (cr (by decide))) (gm (_,rfl,dY _ (by decide),f7 _ (by decide)))
def Wz(c k n:Int)(x:0<=k)(G:k<=90)(H:1<=n):∃d,Bq [.int c,.int k,.int n]=aa d/\∃L:LII,d=.lst (L.map itD)/\InN n.toNat L/\L.length<=3:=by
 have(v,m,I,v1):=kU c k x (by lia);have t0:0<=v % 4:=dY _ (by decide);apply nj;apply am;show d4 rfl ?_;walk_at "nrm";apply am;show dH _ _ (λpre M=>∃(L:List _) (f g h:Sl),M=[.im _,.im _,.im _,.own (L.map itD),f,g,h]/\InN n.toNat L/\L.length=pre.length) (pA (ao (ap (aG rfl m) rfl (cr (by decide))) rfl) t0 (by lia)) ([],_,_,_,rfl,(λz hz=>nomatch hz),rfl) ?_ ?_
 .rintro pre j post M ex ⟨L,f,g,h,rfl,b,e⟩;have E:j<(v % 4).toNat:=eJ.mp (by rw[ex];simp)
  have r:pre.length<(v % 4).toNat:=by
   have:pre.length<(bL (v % 4).toNat).length:=by rw[ex];simp
   simpa using this
  have(a,l,A,B):=kU c (k+1+j) (by lia) (by lia);have(w,u,p):=lG (C:=[1,1,a / 8 % 4,c % 10 ^ (60:Int).toNat]) (i:=a / 32 % 4) (dY _ (by decide)) (f7 _ (by decide))
  have y:0<=w:=by
   have:=dP u;simp only[aX,dA,or_false]at this
   rcases this with rfl |rfl |rfl |rfl
   .decide
   .decide
   .show dY _ (by decide)
   .show dY _ (Int.ne_of_gt p60)
  have m1:=f7 (a / 128) (show 0<n by lia);show(_,rfl,?_);apply am;show bp (aG (ao rfl (ao (ap (ap rfl rfl eB) rfl eB) rfl)) l) ?_;apply am;show bp (ba (ao rfl (ao rfl (ao (ap (ap rfl rfl (lM (by walk_at "evS"))) rfl (cr (by decide))) (ao (ap rfl (ap rfl rfl (pL IS)) (cr p60)) rfl)))) (ap (ap rfl rfl (lM (by walk_at "evS"))) rfl (cr (by decide))) p) ?_;show gN (cV (ao (ap (ap rfl rfl (lM (by walk_at "evS"))) rfl (cr (by lia))) (ao rfl rfl))) rfl (by rw[aA];lia) (L++[(a / 128 % n,w,)],_,_,_,by rw[bd];rfl,λz hz=>?_,by rw[aR,aR,e];rfl)
  rcases bv.mp hz with q |q
  .show b z q
  .rw[bB.mp q];show((dY _ (show n≠0 by lia)),by change _<_;lia,y)
 .rintro M ⟨L,f,g,h,rfl,b,e⟩;rw[cI]at e;show nr rfl (jO (L,rfl,b,by lia))
def Kw(c k n:Int)(r:0<=k)(x:k<=80)(w:1<=n):∃d,qb [.int c,.int k,.int n]=aa d/\∃p:Prt,d=p.toD/\p.Ok n.toNat/\(nmP p).length<=3:=by
 have(v,m,B,v1):=kU c k r (by lia);have(u,l,y,A):=kU c (k+5) (by lia) (by lia);have(d,j,L,rfl,e,q):=Wz c (k+1) n (by lia) (by lia) w;have g:(L.map (·.1)).length<=3:=by rw[aA];show q
 apply nj;apply am;show bp (aG rfl m) ?_;walk_at "nrm";apply am;show bc (bC (ap (ap rfl rfl (cr (by decide))) rfl rQ)) (λz=>?_) λz=>b9 ?_
 .have(wd,a,i):=lG (f:=D.str) (C:=["in","in","out","out","in"]) (dY _ (by decide)) (of_decide_eq_true z);have h:=dY (v / 8) (show n≠0 by lia);have m1:=f7 (v / 8) (show 0<n by lia);show gj (cV (ao (ba rfl (ap rfl rfl (cr (by decide))) i) (ao (ap (ap rfl rfl (lM (by walk_at "evS"))) rfl (cr (by lia))) rfl))) (gm ?_);have:=dP a;simp only[aX,dA,or_false]at this;have one:1<=3:=by decide
  rcases this with rfl |rfl |rfl |rfl |rfl
  .show(.inn _,rfl,(h,by lia),one)
  .show(.inn _,rfl,(h,by lia),one)
  .show(.out _,rfl,(h,by lia),one)
  .show(.out _,rfl,(h,by lia),one)
  .show(.inn _,rfl,(h,by lia),one)
 .walk_at "nrm";have(wd,a,i):=lG (f:=D.str) (C:=["least","most"]) (dY _ (by decide)) (f7 _ (by decide));have a:=dP a;simp only[aX,dA,or_false]at a
  have fin:∀b:Int,∃p:Prt,D.tup [.str wd,.int b,.lst _]=p.toD/\p.Ok n.toNat/\(nmP p).length<=3:=λb=>by
   rcases a with rfl |rfl
   .show(.least b L,rfl,(e,by lia),g)
   .show(.most b L,rfl,(e,by lia),g)
  apply am;show bp (aG (ao rfl (ao (ap rfl rfl eB) (ao rfl rfl))) j) ?_;apply am;show bp (aG (ao rfl (ao (ap rfl rfl eB) rfl)) l) ?_;walk_at "nrm";apply am;show bc (bC (ap (ap rfl rfl (cr (by decide))) rfl (m8 _ _))) (λz=>?_) λz=>b9 ?_
  .have c0:=dY c (Int.ne_of_gt p60);show gj (cV (ao (ba rfl (ap rfl rfl (cr (by decide))) i) (ao (ap (ap rfl (ap rfl rfl (pL IS)) (cr p60)) (ap (ap (ap rfl rfl (lM (by walk_at "evS"))) rfl (cr (by decide))) rfl lN) (nA (.inr (by lia,by lia)))) (ao rfl rfl)))) (gm (fin _))
  .show gj (cV (ao (ba rfl (ap rfl rfl (cr (by decide))) i) (ao (ap (ap (ap rfl rfl (lM (by walk_at "evS"))) rfl (cr (by decide))) rfl lN) (ao rfl rfl)))) (gm (fin _))
structure Ru5(n:Nat)(r:Rul):Prop where
 ok:r.Ok n
 nm:∀p∈r.ps,(nmP p).length<=3
 ln:r.ps.length<=3
def Ru5.k{r:Rul}(h:Ru5 n r):RuK n r:=(h.ok,λp a=>cS (h.nm p a) (by decide),cS h.ln (by decide))
def WA(c n:Int)(N:1<=n):∃d,Bu [.int c,.int n]=aa d/\∃r:Rul,d=r.toD/\Ru5 n.toNat r:=by
 have(v,H,v0,v1):=kU c 0 (by decide) (by decide);have(u,G,U,Y):=kU c 1 (by decide) (by decide);have(t,A,t0,t1):=kU c 2 (by decide) (by decide);have(wd,l,I):=lG (f:=D.str) (C:=["make","make","make","make","may","may","may","never"]) (i:=v % 8) (dY _ (by decide)) (f7 _ (by decide));have L:=dY t (show n≠0 by lia);have m1:=f7 t (show 0<n by lia);have Q:=dY u (show(4:Int)≠0 by decide);have s1:=f7 u (show(0:Int)<4 by decide);apply nj;change wp _ [.im _,.im _,.no,.no,.no] _;apply am;show bp (d:=.str wd) (ba rfl (ap (aG rfl H) rfl (cr (by decide))) I) ?_;apply am;show bp (d:=.int (u % 4)) (ap (aG rfl G) rfl (cr (by decide))) ?_;show G9 (λM=>∃z:Int,M=[.im (.int c),.im (.int n),.im (.str wd),.im (.int z),.no]/\0<=z/\z<=3) ?_ ?_
 .show bc (jL (bC (ap rfl rfl (rH _ _))) (jL (bC (ap rfl rfl (m8 _ _))) (bC (ap (ap (aG rfl A) rfl (cr (by decide))) rfl lO)))) (λ_=>?_) λ_=>?_
  .show bp rfl (k_J (2,rfl,by decide,by decide))
  .show b9 (k_J (u % 4,rfl,Q,by lia))
 .rintro M ⟨z,rfl,T,z3⟩
  have(ps,x,y,h):=IT (k:=1) (js:=[0,1]) (g:=ay 0) (ft:=λ_=>aa ac) (fe:=aw qb (ag (ae 1) (ag (m2 da (kI 3) (m2 jP (kI 6) (ae 0))) (ag (ae 2) nZ)))) (fi:=gJ (ag (ae 3) nZ)) (M:=[.im (.int c),.im (.int n),.im (.str wd),.im (.int z),.no]) _ _ Prt.toD (λp=>p.Ok n.toNat/\(nmP p).length<=3) (pA rfl T (by lia)) (by rw[cI];lia) λj B=>by
   have B:=eJ.mp B;have(d,E,p,rfl,a):=Kw c (3+6*j) n (by lia) (by lia) N;show(p,a,fV rfl rfl (aG (ao rfl (ao (ap rfl (ap rfl rfl (nA (.inr (by lia,by lia)))) eB) (ao rfl rfl))) E))
  rw[cI]at y;have m:ps.length<=3:=by lia
  apply am;show bp (bW x) ?_;have l:=dP l;simp only[aX,dA,or_false]at l
  have mk:∀w:Wrd,w≠.never->wd=w.s->∃r:Rul,D.tup [.str wd,.int (t % n),.lst (ps.map Prt.toD)]=r.toD/\Ru5 n.toNat r:=λw J e=>⟨(w,t % n,ps),by rw[e];cases w <;> first |rfl |show absurd rfl J,(λ_=>(L,by change t % n<_;lia),λp a=>(h p a).1,by change ps.length<=_;lia),λp a=>(h p a).2,m⟩
  apply am;show bc (b:=wd == "never") (bC (ap rfl rfl (rH _ _))) (λe=>?_) λe=>b9 ?_
  .show gj (d:=.tup [.str wd,.non,.lst (ps.map Prt.toD)]) rfl (gm ((.never,0,ps),by rw[eq_of_beq e];rfl,(λq=>absurd rfl q,λp a=>(h p a).1,by change ps.length<=_;lia),λp a=>(h p a).2,m))
  .show gj (d:=.tup [.str wd,.int (t % n),.lst (ps.map Prt.toD)]) (cV (ao rfl (ao (ap (aG rfl A) rfl (cr (by lia))) (ao rfl rfl)))) (gm ?_)
   rcases l with q |q |q |q |q |q |q |q
   .show mk .make (λz=>nomatch z) q
   .show mk .make (λz=>nomatch z) q
   .show mk .make (λz=>nomatch z) q
   .show mk .make (λz=>nomatch z) q
   .show mk .may (λz=>nomatch z) q
   .show mk .may (λz=>nomatch z) q
   .show mk .may (λz=>nomatch z) q
   .rw[q]at e;nomatch e
def ptE(h:f M=aa (.int v)):mPt f M=aa (aa v):=by unfold mPt;rw[h];rfl
def ru1{w:Wrd}{hd:Int}{ps:List Prt}(h:0<=hd/\hd<(n:Int))(a:∀p∈ps,p.Ok n/\(nmP p).length<=3)(b:ps.length<=3):Ru5 n (w,hd,ps):=((λ_=>h,λp q=>(a p q).1,by change ps.length<=_;lia),λp q=>(a p q).2,b)
def WB(c n:Int)(x:0<=n)(A:n<=60):∃B:LRu,Bs [.int c,.int n]=aa (B.map Rul.toD)/\(∀r∈B,Ru5 n.toNat r)/\B.length<=n.toNat:=by
 suffices h:wp vw _ (λr=>∃B:LRu,r=.rtO (B.map Rul.toD)/\(∀r∈B,Ru5 n.toNat r)/\B.length<=n.toNat) by
  have(r,e,B,rfl,h):=h;show(B,nt e,h)
 apply am;show d4 rfl ?_;walk_at "nrm";apply am;show dH _ _ (λpre M=>∃(B:LRu) (f:Sl),M=[.im _,.im _,.own (B.map Rul.toD),f]/\(∀r∈B,Ru5 n.toNat r)/\B.length<=pre.length) (pA rfl x (by lia)) ([],_,rfl,(λr hr=>nomatch hr),aL _) ?_ ?_
 .rintro pre j post M ex ⟨B,f,rfl,g,h2⟩;have y:j<n.toNat:=eJ.mp (by rw[ex];simp)
  have v:pre.length<n.toNat:=by
   have:pre.length<(bL n.toNat).length:=by rw[ex];simp
   simpa using this
  have u:=dY (j+1:Int) (show n≠0 by lia);have m1:=f7 (j+1:Int) (show 0<n by lia);have one:1<=3:=by decide
  have add:∀r:Rul,Ru5 n.toNat r->∃(a:LRu) (f:Sl),[.im _,.im _,.own (B.map Rul.toD++[r.toD]),.im (.int j)]=[Sl.im (.int c),.im (.int n),.own (a.map Rul.toD),f]/\(∀r∈a,Ru5 n.toNat r)/\a.length<=(pre++[j]).length:=λr hr=>(B++[r],_,by rw[bd];rfl,λq w=>by rcases bv.mp w with z |z;show g q z;rw[bB.mp z];show hr,by rw[aR,aR];show Nat.add_le_add_right h2 _)
  have no:∀{k:Int},c % 4≠k->∀M:LS,M[0]?=aa (.im (.int c))->mB (m2 dEq (m2 bP (ae 0) (kI 4)) (λ_=>aa _)) M=aa af:=λ{k} h M e=>bC (ap (ap (by unfold ae;rw[e]) rfl (cr (by decide))) rfl ((m8 _ _).trans (by rw[beq_false_of_ne h])));have ye:∀{k:Int},c % 4=k->∀M:LS,M[0]?=aa (.im (.int c))->mB (m2 dEq (m2 bP (ae 0) (kI 4)) (λ_=>aa _)) M=aa ac:=λ{k} h M e=>bC (ap (ap (by unfold ae;rw[e]) rfl (cr (by decide))) rfl ((m8 _ _).trans (by rw[h,beq_self_eq_true])));show(_,rfl,?_);apply am
  by_cases i:c % 4=1
  .show bc (ye i _ rfl) (λ_=>?_) λz=>nomatch z;show gN (d:=Rul.toD (.make,j,[.inn _])) (cV (ao rfl (ao rfl (ao (bW (ao (cV (ao rfl (ao (ap (ap rfl rfl eB) rfl (cr (by lia))) rfl))) rfl)) rfl)))) rfl (by rw[aA];lia) ?_;apply am;show bc (no (by lia) _ rfl) (λz=>nomatch z) λ_=>b9 ?_;show bc (no (by lia) _ rfl) (λz=>nomatch z) λ_=>b9 (add _ (ru1 (by lia,by lia) (λp b=>by rw[bB.mp b];show((u,by lia),one)) one))
  .show bc (no i _ rfl) (λz=>nomatch z) λ_=>b9 ?_;apply am
   by_cases l:c % 4=2
   .show bc (ye l _ rfl) (λ_=>?_) λz=>nomatch z;show gN (d:=Rul.toD (.make,j,[.out _])) (cV (ao rfl (ao rfl (ao (bW (ao (cV (ao rfl (ao (ap (ap rfl rfl eB) rfl (cr (by lia))) rfl))) rfl)) rfl)))) rfl (by rw[aA];lia) ?_;show bc (no (by lia) _ rfl) (λz=>nomatch z) λ_=>b9 (add _ (ru1 (by lia,by lia) (λp b=>by rw[bB.mp b];show((u,by lia),one)) one))
   .show bc (no l _ rfl) (λz=>nomatch z) λ_=>b9 ?_
    by_cases m:c % 4=3
    .show bc (ye m _ rfl) (λ_=>?_) λz=>nomatch z;show gN (d:=Rul.toD (.may,j,[])) rfl rfl (by rw[aA];lia) (add _ (ru1 (by lia,by lia) (λp b=>nomatch b) (ce _)))
    .show bc (no m _ rfl) (λz=>nomatch z) λ_=>b9 (B,_,rfl,g,by rw[aR];lia)
 .rintro M ⟨B,f,rfl,g,h2⟩;rw[cI]at h2;show nr rfl (B,rfl,g,h2)
def WC{x:D}(E:Scr x ns)(U:ns.length<=63){top:Int}(t1:1<=top)(t6:top<=6):∃(n:Nat) (B:LRu),vz [x,.int top]=aa (pl0 n B)/\(n:Int)<top/\(∀r∈B,Ru5 n r)/\B.length<=5+ns.length:=by
 suffices h:∃d,vz _=aa d/\∃(n:Nat) (B:LRu),d=pl0 n B/\n<top/\(∀r∈B,Ru5 n r)/\B.length<=5+ns.length by
  have(d,e,n,B,rfl,h):=h;show(n,B,e,h)
 have(v,J):=Ef E (Int.le_refl _);have G:=dY v (show top≠0 by lia);have m1:=f7 v (show 0<top by lia);have(B,j,N,h2):=WB _ _ G (by lia);have(u,Y,I):=lG (f:=D.int) (C:=[60,60,40,24,10,5]) G (by change v % top<6;lia);apply nj;apply am;show bp (aG rfl J) ?_;apply am;show bp (ap rfl rfl (cr (by lia))) ?_;apply am
 show d4 (vb (ao (ap rfl rfl (lM (by first |show .inl (by lia,by lia) |show .inr (by lia,by lia) |show(by lia,by lia)))) (ao rfl rfl)) j) ?_
 have g:((ns.drop (HT.sIx ns.length 0 (aa 1))).take (HT.sIx ns.length ns.length (aa (1+u))-HT.sIx ns.length 0 (aa 1))).length<=ns.length:=by
  grind
 generalize m:(ns.drop _).take _=A at g;generalize hn:v % top=n at *;apply am;show dH A D.int (λpre M=>∃(a:LRu) (i:Sl),M=[.im x,.im _,.im _,.im _,.own (a.map Rul.toD),i]/\(∀r∈a,Ru5 n.toNat r)/\a.length<=5+pre.length) (fD (bW ((E.sl rfl rfl (ptE (ap rfl (ba rfl rfl I) eB))).trans (by rw[m]))) rfl) (B,_,rfl,N,by change _<=5;lia) ?_ ?_
 .rintro pre c post M ex ⟨a,i,rfl,l,L⟩;have Q:pre.length<A.length:=by rw[ex];simp
  have add:∀r:Rul,Ru5 n.toNat r->∃(b:LRu) (i:Sl),[.im x,.im _,.im _,.im _,.own (a.map Rul.toD++[r.toD]),.im (.int c)]=[Sl.im x,.im (.int top),.im (.int v),.im (.int n),.own (b.map Rul.toD),i]/\(∀r∈b,Ru5 n.toNat r)/\b.length<=5+(pre++[c]).length:=λr hr=>(a++[r],_,by rw[bd];rfl,λq T=>by rcases bv.mp T with z |z;show l q z;rw[bB.mp z];show hr,by rw[aR,aR];change _+1<=5+(_+1);lia)
  show(_,rfl,?_);show bc (bC (ap rfl rfl (m8 _ _))) (λz=>?_) λz=>?_
  .have w:n=0:=by simpa using z
   show gN (d:=Rul.toD (.never,0,[.most _ []])) (cV (ao rfl (ao rfl (ao (bW (ao (cV (ao rfl (ao (ap (ap rfl rfl (cr (by decide))) rfl lN) (ao rfl rfl)))) rfl)) rfl)))) rfl (by rw[aA];lia) (add _ ((λq=>absurd rfl q,(λp y=>by rw[bB.mp y];show(λz hz=>(nomatch hz),ce _)),(by decide:1<=100000)),λp y=>by rw[bB.mp y];show ce _,(by decide:1<=3)))
  .have w:n≠0:=λq=>by rw[q]at z;nomatch z
   have(d,H,r,rfl,hr):=WA c n (by lia);show gN (aG rfl H) rfl (by rw[aA];lia) (add r hr)
 .rintro M ⟨a,i,rfl,l,L⟩;show pJ rfl (gj rfl (gm (n.toNat,a,?_,by lia,l,by lia)));unfold pl0;rw[show(n.toNat:Int)=n by lia]
def WD(p:Prt):Bg [p.toD]=aa p.toD:=by
 cases p with
 |inn t=>rfl
 |out t=>rfl
 |least k L=>rfl
 |most k L=>rfl
def WE(hr:∀r∈B,Ru5 n r)(g:B.length<=1000):sn [pl0 n B]=aa (.tup [.fz (.int n),.lst ((B.map Rul.toD).map .fz)]):=by
 suffices h:∃o,sn [pl0 n B]=aa o/\o=.tup [.fz (.int n),.lst ((B.map Rul.toD).map .fz)] by
  have(o,e,rfl):=h;show e
 apply Q2;apply am;show d4 rfl ?_;apply am;show dH B Rul.toD (λpre M=>∃a b c,M=[.im (pl0 n B),.own (pre.map Rul.toD),a,b,c]) (fD (ba rfl rfl rfl) rfl) (_,_,_,rfl) ?_ ?_
 .rintro pre r post M ex ⟨a,b,c,rfl⟩;have d:pre.length<B.length:=by rw[ex];simp
  have f:=(hr r (by rw[ex];simp)).ln;show(_,rfl,?_);show gN (cV (ao rfl (ao rfl (ao (bW (gM r.ps Prt.toD Prt.toD rfl (by lia) λp _=>fV rfl rfl (aG rfl (WD p)))) rfl)))) rfl (by rw[aA];lia) (.im (.str r.w.s),.im r.hdD,.im (.lst (r.ps.map Prt.toD)),?_);rw[bd];rfl
 .rintro M ⟨a,b,c,rfl⟩;show Q1 rfl (Q3 rfl)
def Kx(a:n<=5)(hr:∀r∈B,Ru5 n r)(c:B.length<=69):Par n (64*4*B.length) 950900 4760000 B:=by
 have b:3 ^ n<=243:=Nat.pow_le_pow_right (by decide) a
 have key:∀W9 W7:Nat,W9=950900->W7=4760000->Par n (64*4*B.length) W9 W7 B:=λW9 W7 hC hB=>by
  show(λr q=>(hr r q).k,by lia,by lia,by lia,by lia,by lia)
 show key _ _ rfl rfl
def Ky(hr:∀r∈B,Ru5 n r):∀r∈B,(grd r).length<=4:=λr q=>by
 have:=(hr r q).ln;have(w,hd,ps):=r;have this:ps.length<=3:=this
 cases w with
 |may=>show(by decide:1<=4)
 |never=>change ps.length<=4;lia
 |make=>change(ps++[_]).length<=4;rw[aR];change _+1<=4;lia
variable{e:LOB}
def Kz(c:p.Ok e.length)(t0:0<=t)(t1:t<(e.length:Int))(a:opn e t=ac)(h:t∉nmP p\/gU p≠b):p.sure (put e t.toNat b)=p.sure e:=by
 rcases h with h |h
 .show UR c (by grind)
 .have d:=iQ a
  cases p with
  |inn u=>
   cases b with
   |true=>show absurd rfl h
   |false=>
    change((put e t.toNat af).getD u.toNat ab==aa ac)=(e.getD u.toNat ab==aa ac)
    by_cases q:u.toNat=t.toNat
    .rw[q,eV e af (by lia),d];rfl
    .rw[c7 e af q]
  |out u=>
   cases b with
   |false=>show absurd rfl h
   |true=>
    change((put e t.toNat ac).getD u.toNat ab==aa af)=(e.getD u.toNat ab==aa af)
    by_cases q:u.toNat=t.toNat
    .rw[q,eV e ac (by lia),d];rfl
    .rw[c7 e ac q]
  |least k L=>
   cases b with
   |true=>show absurd rfl h
   |false=>
    change decide _=decide _;rw[vZ c.1 t0 t1 a af]
    simp
  |most k L=>
   cases b with
   |false=>show absurd rfl h
   |true=>
    change decide _=decide _;rw[v8 c.1 t0 t1 a ac];simp
structure d8(G:List Prt)(es:LOB)(S:LI0):Prop where
 ns:¬d7 G es
 np:∀(t:Int) (b:Bool),0<=t->t<(es.length:Int)->opn es t=ac->d7 G (put es t.toNat (!b))->t∈S
variable{S:LI0}
def d8.pt(h:d8 G es (t::S))(i:∀p∈G,p.Ok es.length)(t0:0<=t)(t1:t<(es.length:Int))(j:opn es t=ac)(hn:∀p∈G,t∉nmP p\/gU p≠b):d8 G (put es t.toNat b) S:=by
 show(λq=>h.ns λp a=>by rw[<- Kz (i p a) t0 t1 j (hn p a)];show q p a,λu c d l f q=>?_);rw[b8]at l
 have ne:u≠t:=λe=>by
  unfold opn at f;rw[e,eV es b (by lia)]at f
  grind
 have g:opn es u=ac:=by rw[<- DU d t0 ne];show f
 have:=h.np u c d l g λp a=>by
  have e:=Kz (e:=put es u.toNat (!c)) (by rw[b8];show i p a) t0 (by rw[b8];show t1) (wm t0 d (λe=>ne e.symm) j) (hn p a);rw[<- e,wj (by lia)]
  grind
 grind
def d8.of_prs{ps:List Pr}(c:∀p∈G,p.Ok es.length)(h:prs G es=aa ps):d8 G es (ps.map (·.1)):=by
 have(_,h2,p,e,a):=nY c h;show((λq=>by rw[q p e]at a;nomatch a),λt b t0 t1 d q=>(aJ.mpr (_,(h2 (t,b,)).mpr ((t0,t1),d,q),rfl)))
def Wch(B:LRu)(bs:LLP)(tw:Wt)(y:Wy):Prop:=∀p∈bQ B bs y,∀t∈nmL p,y∈look tw (t,gU p,)
def Jq(B:LRu)(s:Spt)(y0:Wy)(S:LI0):Prop:=∀y∈gys B.length s.bs.length,Wch B s.bs s.tw y->y∈s.wt\/d8 (bQ B s.bs y) s.es (if y=y0 then S else [])
def d8.more{f:LI0}(h:d8 G es S)(g:∀t∈S,t∈f):d8 G es f:=(h.ns,λt b a c d e=>g t (h.np t b a c d e))
variable{y0:Wy}
def Jq.pt{w:D}(hr:∀r∈B,RuK n r)(k:SpJ n c W7 B s)(h:Jq B s y0 (t::S))(t0:0<=t)(t1:t<(n:Int))(g:opn s.es t=ac):Jq B (s.pt t b w) y0 S:=λy i e=>by
 have f:∀p∈bQ B s.bs y,p.Ok s.es.length:=by rw[k.es];show n4 hr k.bk
 rcases h y i e with q |q
 .show .inl (bZ _ q)
 .by_cases hn:∀p∈bQ B s.bs y,t∉nmP p\/gU p≠b
  .show .inr (d8.pt (q.more ?_) f t0 (by rw[k.es];show t1) g hn)
   grind
  .have(p,a):=Classical.not_forall.mp hn;have(a,d):=Classical.not_imp.mp a;show .inl (cv _ ?_);have:=e p a t (sN.mpr (Classical.not_not.mp λz=>d (.inl z)));rw[(Classical.not_not.mp λz=>d (.inr z))]at this;show this
def Jq.puts{n c W7:Nat}{B:LRu}{y0:Wy}{w:D}(hr:∀r∈B,RuK n r):∀{ps:List Pr} {s:Spt},SpJ n c W7 B s->fG s.es ps->Jq B s y0 (ps.map (·.1))->Jq B (puts s w ps) y0 []
 | [],_,_,_,h=>h
 |z::ps,s,k,p,h=>by
  have((a,b),e):=p.op z az;have b:z.1<n:=by rw[<- k.es];show b
  show Jq.puts hr (ps:=ps) (k.pt a b e).1 p.tail (Jq.pt hr k h a b e)
def Jr(B:LRu)(s:Spt):Prop:=∀y0,Jq B s y0 []
def Jr.of(h:Jq B s y0 []):Jr B s:=λ_ y b a=>by
 rcases h y b a with q |q
 .grind
 .grind
def KA{n c W7:Nat}{B:LRu}(hr:∀r∈B,RuK n r):∀(k:Nat) (s:Spt),SpJ n c W7 B s->Me c s<k->Jr B s->(lrF B k s).1=ab->Jr B (lrF B k s).2
 | 0,_,_,h,_,_=>absurd h (g9 _)
 |k+1,s,h,hk,hj,he=>by
  cases b:s.wt with
  |nil=>rw[sX b];show hj
  |cons y wt=>
   have(f,h2,m):=h.pop b;have g:∀p∈bQ B s.bs y,p.Ok s.es.length:=by rw[h.es];show n4 hr h.bk
   cases a:prs _ s.es with
   |none=>rw[sY b a]at he;cases he
   |some ps=>
    rw[qm b a]at he ⊢;have(i,u,_):=nY g a;have(l,v):=nX f i;show KA hr k _ l (by lia) (Jr.of (Jq.puts (y0:=y) hr f i ?_)) he;intro x j d
    by_cases e:x=y
    .rw[if_pos e];show .inr (by rw[e];show d8.of_prs g a)
    .rw[if_neg e]
     rcases hj x x j d with q |q
     .grind
     .grind
def KB{n c W7:Nat}{B:LRu}{wo:LB0}(hr:∀r∈B,RuK n r):∀{ts:LI0} {s:Spt},SpJ n c W7 B s->fG s.es (ts.map λt=>(t,af,))->Jr B s->Jr B (eG B wo s ts)
 | [],_,_,_,h=>h
 |t::ts,s,k,p,h=>by
  have((a,b),e):=p.op _ az;have b:t<n:=by rw[<- k.es];show b
  show KB hr (ts:=ts) (k.pt a b e).1 p.tail (Jr.of (y0:=(af,0,)) (Jq.pt hr k (λy g f=>?_) a b e))
  rcases h y y g f with q |q
  .grind
  .rw[if_pos rfl]at q;show .inr (q.more λu d=>nomatch d)
def tG(B:LRu)(es:LOB):Prop:=∀wo,Grp B es wo->∀i,wo.getD i af=af
def WF(hm:e7 es.length ms)(pm:ms.Perm (eW B))(g:Grp B es wo)(i:Nat)(hi:wo.getD i af=ac):(ci es ms).1.getD i af=ac:=by
 have(e,_):=Js hm.ne;show U1 hm.ok e.pe (by rw[g.len];unfold jx;rw[aA]) (λj a=>?_) (λj a=>by rw[getD_nil]at a;nomatch a) (λr hr d=>?_) i hi
 .have f:=g.no j a
  have c:j<es.length:=by
   rw[<- g.len]
   grind
  unfold jx
  grind
 .have(_,h2,b):=Jm d;rw[g.up r (pm.mem_iff.mp hr) h2]at b
  grind
def WG(wo:LB0)(es:LOB)(l:wo.length=es.length)(i:Nat):(sW es wo).getD i ab=if wo.getD i af=ac then aa af else es.getD i ab:=by
 unfold sW
 have gen:∀(ts:LI0) e,e.length=es.length->(∀t∈ts,0<=t/\t<es.length)->(ts.foldl (λes t=>put es t.toNat af) e).getD i ab=if (i:Int)∈ts then aa af else e.getD i ab:=by
  intro ts
  induction ts with
  |nil=>intro e _ _;rfl
  |cons t ts j=>
   intro e f c;have(a,b):=c t az;rw[fI,j _ (by rw[b8];show f) λu g=>c u (bi _ g)]
   by_cases d:(i:Int)∈ts
   .grind
   .rw[if_neg d]
    by_cases h2:i=t
    .rw[if_pos (by grind),show i=t.toNat by lia,eV e af (by lia)]
    .rw[if_neg (λq=>by rcases aX.mp q with z |z;show h2 z;show d z),c7 e af (by lia)]
 rw[gen _ es rfl λt c=>?_]
 .by_cases h:wo.getD i af=ac
  .rw[if_pos h,if_pos ((vO wo i).mpr (by lia,by rw[dD];show h))]
  .rw[if_neg h,if_neg (λq=>h (by have:=((vO wo i).mp q).2;rwa [dD]at this))]
 .have(t0,tw):=(vO wo t).mp c
  grind
def lost_by(h:p.Ok es.length)(a:∀i,es.getD i ab=aa ac->es'.getD i ab=aa ac)(h2:∀i,(es.getD i ab=aa af\/wo.getD i af=ac)->(es'.getD i ab=aa af\/wo'.getD i af=ac))(s:p.lost es wo=ac):p.lost es' wo'=ac:=J0 h (λt _=>a _) (λt _=>h2 _) s
def WH(hr:∀r∈B,RuK n r)(hz:B.length<=1000)(h:SpJ n c W7 B s)(y:(bI B s).1=ab):tG B (bI B s).2.es:=by
 have hm:=e7.of hr hz h.ms;have(M,l,pm,E):=h.rem' hm;unfold bI at y ⊢
 cases H:inL s.es (ci s.es s.ms).1 with
 |cons x C=>rw[H]at y;nomatch y
 |nil=>
  have(_,_,T,_,_,_):=wA M (tm l.1 H E);rw[T,wu];change tG B (sW s.es (ci s.es s.ms).1);have b:=WG (ci s.es s.ms).1 s.es l.1;have m:e7 s.es.length s.ms:=by rw[h.es];show hm
  have A:=λwo i=>WF (wo:=wo) m h.ms (i:=i);generalize (ci s.es s.ms).1=wo at *
  have d:(sW s.es wo).length=s.es.length:=by
   have:∀(ts:LI0) e,(ts.foldl (λes t=>put es t.toNat af) e).length=e.length:=by
    intro ts
    induction ts with
    |nil=>intro e;rfl
    |cons t ts Q=>intro e;rw[fI,Q,b8]
   show this _ _
  intro w g i
  cases hi:w.getD i af with
  |false=>rfl
  |true=>
   exfalso
   have a:∀j,(oj (· || ·) wo w).getD j af=(wo.getD j af || w.getD j af):=λj=>by
    have N:w.length=wo.length:=by rw[g.len,d,l.1]
    grind
   have L:Grp B s.es (oj (· || ·) wo w):=by
    show(by rw[length_zipWith,g.len,d,l.1,tR],λj I=>?_,λr f J=>?_)
    .rw[a]at I
     rcases(jW _ _).mp I with q |q
     .grind
     .intro e;show g.no j q ?_
      grind
    .have v:=m.ok r (h.ms.mem_iff.mpr f);rw[a]at J
     rcases(jW _ _).mp J with q |q
     .show rJ (λp G z=>lost_by (v.ps p G) (λj e=>e) (λj e=>e.imp id λu=>by rw[a,u];rfl) z) (l.2 r (h.ms.mem_iff.mpr f) q)
     .show rJ (λp G z=>lost_by (by rw[d];show v.ps p G) (λj e=>?_) (λj e=>?_) z) (g.up r f q)
      .grind
      .rw[a]
       rcases e with e |e
       .rw[b]at e;split at e
        .rename_i u;show .inr (by rw[u];rfl)
        .show .inl e
       .show .inr (by rw[e];show qA _)
   show g.no i hi ?_;rw[b,if_pos (A _ i L (by rw[a,hi];show qA _))]
def WI(hr:∀r∈B,RuK n r)(hz:B.length<=1000)(h:SpJ n c W7 B s)(g:Jr B s)(a:(bI B s).1=ab):Jr B (bI B s).2:=by
 have(e,f,pm,b):=h.rem' (e7.of hr hz h.ms);unfold bI at a ⊢
 cases d:inL s.es (ci s.es s.ms).1 with
 |cons x C=>rw[d]at a;nomatch a
 |nil=>show KB hr e (tm f.1 d b) g
def KC{n c W7:Nat}{B:LRu}(hr:∀r∈B,RuK n r)(hz:B.length<=1000):∀(k:Nat) (s:Spt),SpJ n c W7 B s->Me c s<k->Jr B s->(stF B c k s).1=ab->Jr B (stF B c k s).2/\(stF B c k s).2.wt=[]/\tG B (stF B c k s).2.es
 | 0,_,_,h,_,_=>absurd h (g9 _)
 |k+1,s,h,hk,hj,he=>by
  have l:=sZ hr _ s h (c8 _);have f:=KA hr _ s h (c8 _) hj;unfold stF at he ⊢;generalize lrF B _ s=R at l f he ⊢
  by_cases b:R.1.isSome=ac
  .simp_all
  .rw[if_neg b]at he ⊢;have(g,q,u,v,i,w):=wB hr hz l.ok;have j:=WI hr hz l.ok (f (none_of b));have pg:=WH hr hz l.ok;have p:=l.le;generalize bI B R.2=P at *
   by_cases a:(P.1.isSome || P.2.wt.isEmpty)=ac
   .grind
   .rw[if_neg a]at he ⊢;have d:=none_of λe=>a (by rw[e];rfl);have h2:P.2.wt≠[]:=λe=>a (by grind);have m:=i d (l.no (none_of b)) h2;show KC hr hz k P.2 g (by lia) (j d) he
def Ind(bs:LLP)(tw:Wt)(j:Nat):Prop:=∀p,cn tw p (ac,j,)=if p∈bs.getD j [] then 1 else 0
structure Dw(B:LRu)(bs:LLP)(tw:Wt):Prop where
 ru:∀i,i<B.length->Wch B bs tw (af,i,)
 br:∀j,j<bs.length->Ind bs tw j\/∃j2,j<j2/\j2<bs.length/\∀p∈bs.getD j2 [],p∈bs.getD j []
def WJ{p q:Pr}{z:Wy}(h:z∈look tw q):z∈look (gD p y tw) q:=by
 rw[sT]
 grind
def Eg{b:Bool}{q:Pr}{y z:Wy}:∀(ts:LI0) {tw:Wt},z∈look tw q->z∈look (ts.foldl (λtw t=>gD (t,b,) y tw) tw) q
 | [],_,h=>h
 |t::ts,tw,h=>Eg ts (WJ h)
def wM{q:Pr}{y z:Wy}:∀(ps:List Prt) {tw:Wt},z∈look tw q->z∈look (f6 y ps tw) q
 | [],_,h=>h
 |p::ps,tw,h=>wM ps (Eg _ h)
def KD{y:Wy}:∀(ps:List Prt) {tw:Wt} {p:Prt} {t:Int},p∈ps->t∈nmL p->y∈look (f6 y ps tw) (t,gU p,)
 | [],_,_,_,h,_=>nomatch h
 |q::ps,tw,p,t,h,ht=>by
  rcases aX.mp h with e |e
  .show wM ps ?_;rw[<- e]
   have gen:∀(ts:LI0) tw,t∈ts->y∈look (ts.foldl (λtw t=>gD (t,gU p,) y tw) tw) (t,gU p,):=by
    intro ts
    induction ts with
    |nil=>intro tw h;cases h
    |cons u ts a=>
     intro tw h
     rcases aX.mp h with e |e
     .show Eg ts ?_;rw[sT,if_pos (by rw[e])]
      grind
     .grind
   show gen _ tw ht
  .show KD ps e ht
def KE{q:Pr}{z:Wy}:∀(B:LRu) (i:Nat) {tw:Wt},z∈look tw q->z∈look (nV i B tw) q
 | [],_,_,h=>h
 |r::B,i,tw,h=>KE B _ (wM _ h)
def KF:∀(B:LRu) (i j:Nat) (tw:Wt) (r:Rul),B[j]?=aa r->∀p∈grd r,∀t∈nmL p,(af,i+j,)∈look (nV i B tw) (t,gU p,)
 | [],_,_,_,_,h,_,_,_,_=>by cases h
 |r'::B,i,0,tw,r,h,p,hp,t,ht=>by
  cases h
  show KE B _ (KD _ hp ht)
 |r'::B,i,j+1,tw,r,h,p,hp,t,ht=>by
  have:=KF B (i+1) j (f6 (af,i,) (grd r') tw) r h p hp t ht;rw[show i+1+j=i+(j+1) by lia]at this;show this
def WK(es:LOB)(B:LRu):Dw B [] (spT es B).tw:=by
 show(λi hi p a t c=>?_,λj b=>absurd b (g9 _))
 have e:bQ B [] (af,i,)=grd B[i]:=by
  change((B[i]?).map grd).getD []=_;rw[bY hi];rfl
 rw[e]at a;have:=KF B 0 i [] B[i] (bY hi) p a t c;rw[k7]at this;show this
def KG{bs:LLP}(a:∀b∈bs,b.Nodup)(p:Pr)(i:Nat):∀(W6:List Wy) (tw:Wt),cn (W6.foldl (jy bs) tw) p (af,i,)=cn tw p (af,i,)
 | [],_=>rfl
 |y::W6,tw=>by
  rw[fI,KG a p i W6,qk a,if_neg (λx=>by rw[<- x.2.2]at x;cases x.1)]
def Dw.bar{bs:LLP}{b:List Pr}(h:Dw B bs tw)(k:dX c B.length bs tw)(bk:∀b∈bs,cW n b)(m:cW n b):Dw B (bs++[b]) (f6 (ac,bs.length,) (brg b) (lX bs tw b)):=by
 have a:=λb q=>(bk b q).pd;show(λi hi p d t u=>?_,λj r=>?_)
 .have:=h.ru i hi p d t u;show wM _ (gW.mpr ?_);unfold lX;rw[KG a];show gW.mp this
 .rw[aR,fH]at r;unfold Ind
  by_cases e:j=bs.length
  .show .inl λp=>?_;rw[lY,if_pos e,e]
   have l:cn _ p (ac,bs.length,)=0:=Nat.eq_zero_of_not_pos λq=>by
    have:bs.length<bs.length:=eY.mp ((k.dropped a b).vl p _ (gW.mpr q));show gA _ this
   rw[DK,l,k7,m.pd.count]
  .have f:j<bs.length:=by lia
   rw[lY,if_neg e]
   by_cases g:(ac,j,)∈wider tw b
   .show .inr (bs.length,f,by rw[aR,fH];lia,λp d=>?_);rw[lY,if_pos rfl]at d;show(k.wide g).2.2.1 p d
   .rcases h.br j f with q |⟨j2,q1,q2,q3⟩
    .show .inl λp=>?_;rw[nW λz=>e (tS z).2];unfold lX;rw[wg a p _ _ _ g];show q p
    .show .inr (j2,q1,by rw[aR,fH];lia,λp d=>?_);rw[lY,if_neg (by lia)]at d;show q3 p d
structure jC(B:LRu)(bs:LLP)(es:LOB):Prop where
 ru:∀r∈B,d8 (grd r) es []
 br:∀b∈bs,d8 (brg b) es []
 gr:tG B es
def d8.sub{g:List Prt}(h:d8 G es S)(i:∀p∈G,p∈g):d8 g es S:=(λq=>h.ns λp f=>q p (i p f),λt b a c d e=>h.np t b a c d λp f=>e p (i p f))
def Ind.wch{bs:LLP}(h:Ind bs tw j):Wch B bs tw (ac,j,):=λp c t a=>by
 have(z,hz,rfl):=aJ.mp c
 have e:t=z.1/\gU (brP z)=z.2:=by
  have(u,b):=z
  cases b with
  |true=>show(bB.mp a,rfl)
  |false=>show(bB.mp a,rfl)
 rw[e.1,e.2];show gW.mpr ?_;rw[h z,if_pos hz]
 grind
def KH(hr:∀r∈B,RuK n r)(hz:B.length<=250)(J:SpJ n c W7 B s)(jr:Jr B s)(v:Dw B s.bs s.tw)(A:(stF B c (Me c s+1) s).1=ab)(h:(stF B c (Me c s+1) s).2.tw=s.tw):jC B s.bs (stF B c (Me c s+1) s).2.es/\Jr B (stF B c (Me c s+1) s).2:=by
 have g:=(D4 hr (by lia) _ _ J (c8 _)).bs;have(x,j2,L):=KC hr (by lia) _ _ J (c8 _) jr A;show(?_,x);generalize stF B c _ s=R at *
 have w:∀y∈gys B.length s.bs.length,Wch B s.bs s.tw y->d8 (bQ B s.bs y) R.2.es []:=λy H G=>by
  rcases x y y (by rw[g];show H) (by rw[g,h];show G)with z |z
  .rw[j2]at z;nomatch z
  .rw[if_pos rfl,g]at z;show z
 have a:∀(m j:Nat),s.bs.length-j=m->j<s.bs.length->d8 (brg (s.bs.getD j [])) R.2.es []:=by
  intro m
  induction m using Nat.strongRecOn  with
  |ind m I=>
   intro j hm d
   rcases v.br j d with z |⟨j2,z1,z2,z3⟩
   .show w _ (eY.mpr d) z.wch
   .show(I _ (by lia) j2 rfl z2).sub λp C=>?_;have(u,E,rfl):=aJ.mp C;show aJ.mpr (u,z3 u E,rfl)
 show(λr q=>?_,λb l=>?_,L)
 .have(i,hi):=oh q;have f:=(cX.mp hi).1;have:=w _ (eY.mpr f) (v.ru i f)
  have e:bQ B s.bs (af,i,)=grd r:=by
   change((B[i]?).map grd).getD []=_;rw[hi];rfl
  rw[e]at this;show this
 .have(j,d):=oh l;have:=a _ j rfl ((cX.mp d).1);rw[bK,d]at this;show this
def KI{bs:LLP}(d:y∈gys B.length bs.length):(∃r∈B,bQ B bs y=grd r)\/∃b∈bs,bQ B bs y=brg b:=by
 have(a,j):=y;have c:=eY.mp d
 cases a with
 |false=>
  show .inl (B[j],g4 c,?_);change((B[j]?).map grd).getD []=_
  grind
 |true=>
  show .inr (bs[j],g4 c,?_);change brg _=_
  grind
variable{F:LOB}
def qv{t:Nat}(f:cR e F)(h:F.getD t ab=aa b):cR (put e t b) F:=by
 show(by rw[b8];show f.len,λi=>?_)
 by_cases q:i=t
 .by_cases a:t<e.length
  .rw[q,eV e b a];grind
  .show .inl (by rw[q,bK,ix (by rw[b8];lia)];rfl)
 .rw[c7 e b q];show f.at' i
def wN(F:LOB)(wo:LB0):LB0:=(bL wo.length).map λi=>wo.getD i af && !(F.getD i ab==aa af)
def wO(F:LOB)(wo:LB0)(i:Nat):(wN F wo).getD i af=(wo.getD i af && !(F.getD i ab==aa af)):=by
 unfold wN
 grind
def jC.grp{bs:LLP}(h:jC B bs F)(hr:∀r∈B,RuK F.length r)(f:cR e F)(gl:wo.length=e.length)(g:∀r∈eW B,wo.getD r.hd.toNat af=ac->r.bodyLost e wo=ac)(i:Nat)(hi:wo.getD i af=ac):F.getD i ab=aa af:=by
 have d:Grp B F (wN F wo):=by
  show(by unfold wN;rw[aA,cI,gl,f.len],λj b e=>?_,λr hm c=>?_)
  .rw[wO,e,Bool.and_comm]at b
   nomatch b
  .rw[wO]at c;have(l,h2):=(ca _ _).mp c;have(n,v):=cw.mp hm;show rJ (λp m z=>lost_by (by rw[<- f.len];show(hr r n).ok.ps p m) (λj q=>?_) (λj q=>?_) z) (g r hm l)
   .rcases f.at' j with u |u
    .rw[q]at u;nomatch u
    .show u.trans q
   .by_cases a:F.getD j ab=aa af
    .show .inl a
    .rcases q with q |q
     .rcases f.at' j with u |u
      .rw[q]at u;nomatch u
      .show .inl (u.trans q)
     .show .inr ?_;rw[wO,q,beq_false_of_ne a];rfl
 have:=h.gr _ d i;rw[wO,hi,qz]at this;show eq_of_beq (by simpa using this)
def jC.rt{bs:LLP}(h:jC B bs F)(m:F.length=n)(hr:∀r∈B,RuK n r)(c:∀b∈bs,cW n b)(f:cR e F)(j:w.nc=ac)(k:Rt n B bs e w):False:=by
 subst m
 cases w with
 |ch=>nomatch j
 |wd i=>nomatch j
 |gd y=>
  have ok:=n4 hr c (y:=y);rw[f.len]at ok;have g:d7 (bQ B bs y) F:=λp d=>Pe f (ok p d) (k.2 p d)
  rcases KI k.1 with⟨r,hr,e⟩ |⟨b,c,e⟩
  .show(h.ru r hr).ns (e▸g)
  .show(h.br b c).ns (e▸g)
 |gp ks=>
  have(x,l,ex):=k.i;have(v,z):=k.nn x l;have:=h.grp hr f (by rw[qo,f.len]) (λr hm hd=>k.up r hm ?_) x.toNat ((lZ v z).mpr l)
  .rcases f.at' x.toNat with u |u
   .rw[ex]at u;nomatch u
   .rw[ex,this]at u;nomatch u
  .have q:=cw.mp hm;have a:=(hr r q.1).ok.hd (by simpa using q.2);show(lZ a.1 a.2).mp hd
structure Wrl(n:Nat)(B:LRu)(F:LOB):Prop where
 len:F.length=n
 fu:∀i,i<n->F.getD i ab≠ab
 ru:∀r∈B,¬d7 (grd r) F
 gr:tG B F
def Bef(F G:LOB):Prop:=∃t:Nat,(∀j,j<t->F.getD j ab=G.getD j ab)/\F.getD t ab=aa ac/\G.getD t ab=aa af
variable{G:LOB}
def wP{b:List Pr}:d7 (brg b) G↔∀y∈b,G.getD y.1.toNat ab=aa y.2:=by
 have one:∀y:Pr,(brP y).sure G=ac↔G.getD y.1.toNat ab=aa y.2:=λy=>by
  have(t,v):=y
  cases v <;> show beq_iff_eq
 show(λh y a=>(one y).mp (h _ (aJ.mpr (y,a,rfl))),λh p c=>?_);have(y,a,rfl):=aJ.mp c;show(one y).mpr (h y a)
def Wrl.quiet{P:List Prt}(h:Wrl n B G)(k:¬d7 P G):d8 P G []:=(k,λt b t0 t1 a _=>absurd (iQ a) (h.fu _ (by rw[h.len]at t1;lia)))
def Wrl.cl{bs:LLP}(h:Wrl n B G)(a:∀b∈bs,¬d7 (brg b) G):jC B bs G:=(λr hr=>h.quiet (h.ru r hr),λb q=>h.quiet (a b q),h.gr)
def Eh(f:cR e G)(b:∀i,i<e.length->e.getD i ab≠ab):e=G:=by
 show ext_getElem f.len.symm λi a h2=>?_;have q:=(f.at' i).resolve_left (b i a);rw[bK,bK,bY a,bY h2]at q;show Eq.symm q
def bne{a:Bool}(h:¬a=b):a=!b:=by cases a <;> cases b <;> first |rfl |show absurd rfl h
def KJ{bs:LLP}(hr:∀r∈B,RuK n r)(a:∀b∈bs,cW n b)(h:Wrl n B G)(c:∀b∈bs,¬d7 (brg b) G):∀(dn:List Ls) (u:LOB),u.length=n->cR u G->cR u F->(∀x∈dn,∀z,x.1=aa z->x.2.nc=ac/\(0<=z.1/\z.1<(n:Int))/\F.getD z.1.toNat ab=aa z.2)->tu n B bs u dn->G=F
 | [],_,_,_,_,_,d=>d.elim
 |(ab,w,)::l,u,hu,f,g,k,d=>by
  obtain⟨_,hR⟩:l=[]/\Rt n B bs u w:=d
  cases w with
  |ch=>show hR.elim
  |wd i=>
   have e:∀i,i<u.length->u.getD i ab≠ab:=λi hi=>hR i (by lia)
   show(Eh f e).symm.trans (Eh g e)
  |gd y=>show((h.cl c).rt h.len hr a f rfl hR).elim
  |gp ks=>show((h.cl c).rt h.len hr a f rfl hR).elim
 |(aa z,w,)::l,u,hu,f,g,k,d=>by
  obtain⟨q,hR,d⟩:opn u z.1=ac/\Rt n B bs (put u z.1.toNat (!z.2)) w/\tu n B bs (put u z.1.toNat z.2) l:=d;have(m,A,hz):=k _ az z rfl;show KJ hr a h c l _ (by rw[b8];show hu) (qv f ?_) (qv g hz) (λx p=>k x (bi _ p)) d
  cases j:G.getD z.1.toNat ab with
  |none=>show absurd j (h.fu _ (by lia))
  |some v=>
   by_cases hv:v=z.2
   .rw[hv]
   .show((h.cl c).rt h.len hr a (qv f (by rw[j,bne hv])) m hR).elim
def wQ:∀{W6:LSp},G.length=n->(∀x∈W6,G.getD x.1.1.toNat ab=aa x.1.2)->cR (aW n W6) G
 | [],hl,_=>(by rw[hl];show l8.symm,λi=>.inl (by change(g6 n ab).getD i ab=ab;rw[bK,oe];split <;> rfl))
 |x::W6,hl,h=>qv (wQ hl λy a=>h y (bi _ a)) (h x az)
def KL{t:Nat}:∀{W6:LSp},(∀x∈W6,x.1.1.toNat≠t)->(aW n W6).getD t ab=ab
 | [],_=>by change(g6 n ab).getD t ab=ab;rw[bK,oe];split <;> rfl
 |x::W6,h=>by
  rw[aW,c7 _ _ λq=>h x az q.symm];show KL λy a=>h y (bi _ a)
def KM{x:Stp}(a:x.1.1.toNat<n):∀{W6:LSp},x∈W6->(aW n W6).getD x.1.1.toNat ab≠ab
 |y::W6,h=>by
  rw[aW]
  by_cases e:x.1.1.toNat=y.1.1.toNat
  .rw[e,eV _ _ (by rw[e8];lia)];show λq=>nomatch q
  .rw[c7 _ _ e]
   rcases aX.mp h with q |q
   .show absurd (by rw[q]) e
   .show KM a q
def KN{d g:Type}{f:d->g}:∀{l:List d},(l.map f).Nodup->∀{a b:d},a∈l->b∈l->f a=f b->a=b
 |c::l,h,a,b,ha,hb,e=>by
  rw[bD,b7]at h
  rcases aX.mp ha with p |p <;> rcases aX.mp hb with q |q
  .rw[p,q]
  .show absurd (aJ.mpr (_,q,by rw[<- e,p])) h.1
  .show absurd (aJ.mpr (_,p,by rw[e,q])) h.1
  .show KN h.2 p q e
variable{bar:List Pr}
def Ei{bs:LLP}(hr:∀r∈B,RuK n r)(m:∀b∈bs,cW n b)(h:Wrl n B G)(A:∀b∈bs,¬d7 (brg b) G)(tr:Tr n B bs st)(k:jB n B bs st bar dn)(c:d7 (brg bar) G):G=aW n st:=by
 have c:=wP.mp c
 have val:∀y∈st,(aW n st).getD y.1.1.toNat ab=aa y.1.2:=λy a=>by
  have(p,r,rfl):=me a;show wJ tr
 have d:∀z∈bar,∃y∈st,y.1=z/\y.2.nc=af:=λz hz=>by
  have(y,a,q):=qt (k.bl.subset hz);show(y,g7.mp a,q)
 have g:∀y∈bar.map (λz=>(z,Wh.ch,)),∃z∈bar,(z,Wh.ch,)=y:=λy a=>aJ.mp a
 have f1:cR (aW n (bar.map λz=>(z,Wh.ch,))) G:=wQ h.len λy a=>by
  have(z,hz,rfl):=g y a;show c z hz
 show KJ hr m h A dn _ (e8 n _) f1 (wQ (e8 n _) λy a=>?_) (λy a z f=>?_) (k.rl _ (e8 n _) (λz hz=>?_) λy a z f=>?_)
 .have(z,hz,rfl):=g y a;have(v,hv,rfl,_):=d z hz;show val v hv
 .have(v,hv,rfl,l,e):=k.dt y a z f;show(l▸e,jA tr hv,val v hv)
 .have(v,hv,rfl,_):=d z hz;have:=jA tr hv;show((f1.at' _).resolve_left (KM (x:=(v.1,Wh.ch,)) (by change v.1.1.toNat<n;lia) (aJ.mpr (_,hz,rfl)))).symm.trans (c _ hz)
 .have(v,hv,rfl,_,e):=k.dt y a z f;show tz (KL λu C q=>?_);have(z,hz,rfl):=g u C;have(w,j,rfl,i):=d z hz;have E:=jA tr hv;have H:=jA tr j;have q:w.1.1.toNat=v.1.1.toNat:=q;rw[KN (n6 tr) j hv (by lia),e]at i
  nomatch i
def KO{bs:LLP}(hr:∀r∈B,RuK n r)(m:∀b∈bs,cW n b)(h:Wrl n B G)(p:∀b∈bs,¬d7 (brg b) G):∀{st:LSp},Tr n B bs st->cR (aW n st) G\/∃t:Nat,(∀j,j<t->(aW n st).getD j ab=G.getD j ab/\(aW n st).getD j ab≠ab)/\(aW n st).getD t ab=aa ac/\G.getD t ab=aa af
 | [],_=>.inl (wQ h.len λ_ q=>nomatch q)
 |x::st,tr=>by
  have u:=tr.2.t0;have w:=tr.2.t1
  rcases KO hr m h p tr.1 with f |⟨t,a,b,c⟩
  .cases d:G.getD x.1.1.toNat ab with
   |none=>show absurd d (h.fu _ (by lia))
   |some v=>
    by_cases hv:v=x.1.2
    .show .inl (qv f (by rw[d,hv]))
    .rcases tr.2.ok with⟨_,g,l⟩ |⟨g,l⟩
     .show .inr (x.1.1.toNat,λj i=>?_,?_,?_)
      .rw[aW,c7 _ _ (by lia)];have hn:=l j (by lia);show(((f.at' j).resolve_left hn).symm,hn)
      .rw[aW,eV _ _ (by rw[e8];lia),g]
      .rw[d,bne hv,g];rfl
     .show((h.cl p).rt h.len hr m (qv f (by rw[d,bne hv])) g l).elim
  .have ne:∀j,(aW n st).getD j ab≠ab->(aW n (x::st)).getD j ab=(aW n st).getD j ab:=λj q=>c7 _ _ λe=>q (by rw[e];show iQ tr.2.op);show .inr (t,λj i=>?_,?_,c)
   .rw[ne j (a j i).2];show a j i
   .rw[ne t (by rw[b];show λq=>nomatch q)];show b
structure IW(n:Nat)(B:LRu)(s:Spt)(st:LSp)(Fs:List (LOB)):Prop where
 wr:∀F∈Fs,Wrl n B F/\∃b∈s.bs,d7 (brg b) F
 br:∀G,Wrl n B G->G∉Fs->∀b∈s.bs,¬d7 (brg b) G
 od:Fs.Pairwise Bef
 lt:∀F∈Fs,∀G,Wrl n B G->G∉Fs->Bef F G
 cp:∀A x T,st.reverse=A++x::T->x.2.nc=af->jC B s.bs (aW n A.reverse)
 dw:Dw B s.bs s.tw
 jr:Jr B s
variable{s1:Spt}{Fs:List (LOB)}
def IW.cp1(w:IW n B s st Fs)(e:Se n c0 W9 W7 B s s1 st st1)(h:st1.reverse=A++x::T)(c:x.2.nc=af):jC B s.bs (aW n A.reverse):=by
 have(xt,rfl,hn):=e.xt;have no:x∉xt.reverse:=λq=>by rw[hn x (g7.mp q)]at c;nomatch c
 rw[l9]at h
 rcases append_eq_append_iff.mp h with⟨a,d,b⟩ |⟨a,d,b⟩
 .show absurd (by rw[b];simp) no
 .cases a with
  |nil=>show absurd (by rw[oq]at b;rw[<- b];simp) no
  |cons y a=>
   cases b;show w.cp _ _ _ d c
variable{Fs':List (LOB)}
def IW.bk(P:Par n c0 W9 W7 B)(h:Hd n c0 W9 W7 B s st)(w:IW n B s st Fs)(e:Se n c0 W9 W7 B s (aI B W9 s).2 st st1)(k:jB n B s.bs st1 bar dn)(p:qu st1.reverse bar A x T)(q:Clo n (aI B W9 s).2 s2 bar dn A)(sub:∀F∈Fs',F∈Fs\/(Wrl n B F/\d7 (brg bar) F))(sup:∀F∈Fs,F∈Fs')(od:Fs'.Pairwise Bef)(lt:∀F∈Fs',∀G,Wrl n B G->G∉Fs'->Bef F G)(new:∀G,Wrl n B G->G∉Fs'->¬d7 (brg bar) G):IW n B s2 A.reverse Fs':=by
 have i:=e.t.tr;have bk:=wK i k.bl;have E:s2.bs=s.bs++[bar]:=by rw[q.bs,e.bs]
 have cA:=w.cp1 e p.e p.nc;show(λF hF=>?_,λG hG hn b d=>?_,od,lt,λl u f h2 g=>?_,?_,λy0 y m hw=>?_)
 .rw[E]
  rcases sub F hF with z |⟨z1,z2⟩
  .have(a,b,d,c):=w.wr F z;show(a,b,bZ _ d,c)
  .show(z1,bar,cv _ az,z2)
 .rw[E]at d
  rcases bv.mp d with z |z
  .show w.br G hG (λq=>hn (sup G q)) b z
  .rw[bB.mp z];show new G hG hn
 .rw[iV]at h2;subst h2;have Q:=p.e;rw[cJ]at Q;have N:=w.cp1 e Q g;rw[E];show(N.ru,λb d=>?_,N.gr)
  rcases bv.mp d with z |z
  .show N.br b z
  rw[bB.mp z]
  have er:st1=(u::f++x::T).reverse++l.reverse:=by
   rw[<- l9,<- iV (as:=st1),Q]
  rw[er]at i;have op:=(iS _ i).2.2
  have L:∀{y:Pr} {W6:LSp},y∈chs W6->(∀v∈W6,v∈u::f++x::T)->(aW n l.reverse).getD y.1.toNat ab=ab:=λ{y W6} m hs=>by
   have(v,hv,rfl,_):=qt m;show op v (g7.mpr (hs v hv))
  have(b0,z,U,_,hz,h0,hl):=p.br
  have C:chs (l++u::f)=chs l++u.1::chs f:=by
   unfold chs;rw[jY,qB (by rw[g];rfl),bd,bD]
  have Y:b0≠[]:=λq=>by have:=h0 q;rw[C]at this;simp at this
  obtain⟨b1,y,rfl⟩:∃b1 y,b0=b1++[y]:=(_,_,(dropLast_concat_getLast Y).symm);have(A',eA):=hl y (by simp)
  have m:y∈chs (u::f):=by
   have M:(chs l++u.1::chs f).getLast?=aa y:=by rw[<- C,eA];simp
   rw[getLast?_append,getLast?_cons]at M;have M:=dh M;rw[l5,g,<- M]
   cases hq:(chs f).getLast? with
   |none=>show az
   |some v=>show bi _ (mem_of_getLast? hq)
  have oy:=L m λv hv=>bZ _ hv;have oz:=L hz λv hv=>cv _ hv;have my:y∈bar:=by rw[U];simp
  have mz:z∈bar:=by rw[U];simp
  have ne:y.1≠z.1:=λq=>by
   have:=bk.nd;rw[U,bd,bd]at this;show(fh.mp this).2.2 y.1 (by simp) z.1 (by simp) q
  have ry:=bk.nn y my;have rz:=bk.nn z mz;show(λq=>?_,λt b t0 t1 ho q=>?_)
  .have:=wP.mp q z mz;rw[oz]at this
   nomatch this
  .have one:∀v∈bar,(aW n l.reverse).getD v.1.toNat ab=ab->v.1.toNat=t.toNat:=λv hv ov=>wV λH=>by
    have:=wP.mp q v hv;rw[c7 _ _ H,ov]at this
    nomatch this
   have a:=one y my oy;have b:=one z mz oz
   lia
 .rw[E,q.tw,e.bs,e.tw];show w.dw.bar h.tw h.J.bk bk
 .rw[E]at m ⊢;have(a,j):=y
  by_cases ey:(a,j,)=(ac,s.bs.length,)
  .show .inl (by rw[q.wt,ey,e.bs];show az)
  .have I:(a,j,)∈gys B.length s.bs.length/\bQ B (s.bs++[bar]) (a,j,)=bQ B s.bs (a,j,):=by
    have hm:=eY.mp m
    cases a with
    |false=>show(eY.mpr hm,rfl)
    |true=>
     have hm:j<(s.bs++[bar]).length:=hm;rw[aR,fH]at hm;have hj:j≠s.bs.length:=λq=>ey (by rw[q]);show(eY.mpr (by change j<s.bs.length;lia),?_);change brg _=brg _;rw[lY,if_neg hj]
   show .inr ?_;rw[I.2,q.es]
   have:d8 (bQ B s.bs (a,j,)) (aW n A.reverse) []:=by
    rcases KI I.1 with⟨r,hr,H⟩ |⟨b,d,H⟩
    .rw[H];show cA.ru r hr
    .rw[H];show cA.br b d
   split <;> show this
def IW.new(P:Par n c0 W9 W7 B)(h:Hd n c0 W9 W7 B s st)(w:IW n B s st Fs)(e:Se n c0 W9 W7 B s (aI B W9 s).2 st st1)(u:(aI B W9 s).1=ab)(ha:(aI B W9 s).2.es.any (·==ab)=af):Wrl n B (aI B W9 s).2.es/\(aI B W9 s).2.es∉Fs/\∀G,Wrl n B G->G∉Fs->G≠(aI B W9 s).2.es->Bef (aI B W9 s).2.es G:=by
 have cl:jC B s.bs (aI B W9 s).2.es:=(KH P.hr P.hz h.J w.jr w.dw u e.tw).1
 have fu:∀i,i<(aI B W9 s).2.es.length->(aI B W9 s).2.es.getD i ab≠ab:=λi hi q=>by
  rw[bK,bY hi]at q;have q:(aI B W9 s).2.es[i]=ab:=q;show any_eq_false.mp ha _ (g4 _) (by rw[q];rfl)
 show((e.J.es,λi hi=>fu i (by rw[e.J.es];show hi),λr hr=>(cl.ru r hr).ns,cl.gr),λq=>?_,λG g hn ne=>?_)
 .have(_,b,l,m):=w.wr _ q;show(cl.br b l).ns m
 .have d:=e.t.tr;rw[e.bs]at d;have es:=e.t.es
  rcases KO P.hr h.J.bk g (w.br G g hn) d with f |⟨t,a,b,c⟩
  .rw[<- es]at f;show absurd (Eh f fu).symm ne
  .rw[<- es]at a b;show(t,λj p=>(a j p).1,b,c)
def KP:¬Bef F F:=λc=>by have(t,_,a,b):=c;rw[a]at b;nomatch b
def WL(h:Bef F G)(k:Bef G F):False:=by
 have(t,a,b,c):=h;have(u,d,f,g):=k
 rcases Nat.lt_trichotomy t u with q |q |q
 .rw[d t q,b]at c;nomatch c
 .rw[<- q,b]at g;nomatch g
 .rw[a u q,f]at g;nomatch g
def Ej:∀{C ys:List (LOB)},C.Pairwise Bef->ys.Pairwise Bef->(∀F,F∈C↔F∈ys)->C=ys
 | [],[],_,_,_=>rfl
 | [],y::ys,_,_,h=>nomatch (h y).mpr az
 |x::C,[],_,_,h=>nomatch (h x).mp az
 |x::C,y::ys,h1,h2,h=>by
  have(a,c):=ma.mp h1;have(b,d):=ma.mp h2
  have e:x=y:=by
   rcases aX.mp ((h x).mp az)with q |q
   .show q
   .rcases aX.mp ((h y).mpr az)with z |z
    .show z.symm
    .show(WL (b x q) (a y z)).elim
  subst e;show congrArg _ (Ej c d λF=>(λq=>?_,λq=>?_))
  .rcases aX.mp ((h F).mp (bi _ q))with z |z
   .show absurd (z▸a F q) KP
   .show z
  .rcases aX.mp ((h F).mpr (bi _ q))with z |z
   .show absurd (z▸b F q) KP
   .show z
def WM(P:Par n c0 W9 W7 B):Car n c0 W9 W7 B (λs st fd=>∃Fs:List (LOB),fd=Fs.map wOf/\IW n B s st Fs) λ_ fd=>∃Fs:List (LOB),fd=Fs.map wOf/\(∀G,G∈Fs↔Wrl n B G)/\Fs.Pairwise Bef:=by
 have i:∀{s s1:Spt} {st st1:LSp},Se n c0 W9 W7 B s s1 st st1->Tr n B s.bs st1:=λe=>by have:=e.t.tr;rwa [e.bs]at this
 have wh:∀{s:Spt} {st st1:LSp} {bar:List Pr} {dn:List Ls} {d:D} {Fs:List (LOB)},Hd n c0 W9 W7 B s st->IW n B s st Fs->Se n c0 W9 W7 B s (aI B W9 s).2 st st1->(aI B W9 s).1=aa d->jB n B s.bs st1 bar dn->∀G,Wrl n B G->G∉Fs->¬d7 (brg bar) G:=λh w e g k G c hn v=>by
  have L:=w.br G c hn;have:=Ei P.hr h.J.bk c L (i e) k v;have(_,_,E):=h.se P;have(wh,_,a,b):=E _ g;rw[e.t.es,<- this]at b;show(c.cl L).rt c.len P.hr h.J.bk (cR.refl _) a b
 show(?_,?_,?_,?_,?_)
 .rintro s st st1 _ t h ⟨Fs,rfl,w⟩ e g t1 N;have(cl,jr):=KH P.hr P.hz h.J w.jr w.dw g e.tw;have cl:jC B s.bs (aI B W9 s).2.es:=cl;show(Fs,rfl,by change ∀F∈Fs,_/\∃b∈(aI B W9 s).2.bs,_;rw[e.bs];show w.wr,by change ∀G,_->_->∀b∈(aI B W9 s).2.bs,_;rw[e.bs];show w.br,w.od,w.lt,λA x T h2 Y=>?_,by change Dw B (aI B W9 s).2.bs (aI B W9 s).2.tw;rw[e.bs,e.tw];show w.dw,Jr.of (y0:=(af,0,)) (Jq.pt P.hr e.J (λy H U=>?_) (by lia) (by lia) (tz (by rw[dD];show N))))
  .change jC B (aI B W9 s).2.bs _;rw[e.bs];rw[iW]at h2
   rcases append_eq_append_iff.mp h2 with⟨a,j,r⟩ |⟨a,j,r⟩
   .cases a with
    |nil=>
     rw[bN]at j;rw[j,iV,<- e.t.es]
     show cl
    |cons y a=>simp at r
   .cases a with
    |nil=>
     rw[bN]at j;rw[<- j,iV,<- e.t.es]
     show cl
    |cons y a=>
     cases r;show w.cp1 e j Y
  .rcases jr y y H U with z |z
   .show .inl z
   .rw[if_pos rfl]at z;show .inr (z.more λu Q=>nomatch Q)
 .rintro s st st1 _ w0 bar dn A x T s2 h ⟨Fs,rfl,w⟩ e g _ k p q _ _;show(Fs,rfl,w.bk P h e k p q (λF f=>.inl f) (λF f=>f) w.od w.lt (wh h w e g k))
 .rintro s st st1 _ w0 dn s2 h ⟨Fs,rfl,w⟩ e g _ k _;show(Fs,rfl,λG=>⟨λq=>(w.wr G q).1,λq=>wV λhn=>wh h w e g k G q hn λp C=>nomatch C⟩,w.od)
 .rintro s st st1 _ bar dn A x T s2 h ⟨Fs,rfl,w⟩ e g ha k p q _ _;have(m,I,M):=w.new P h e g ha;have es:=e.t.es;have lo:∀G,Wrl n B G->G∉Fs++[(aI B W9 s).2.es]->G∉Fs/\G≠(aI B W9 s).2.es:=λG _ hn=>(λq=>hn (bZ _ q),λq=>hn (by rw[q];simp));show(Fs++[(aI B W9 s).2.es],by rw[bd];rfl,w.bk P h e k p q (λF f=>?_) (λF f=>bZ _ f) (qC.mpr (w.od,wZ _ _,λF f G c=>?_)) (λF f G c hn=>?_) λG c hn v=>?_)
  .rcases bv.mp f with z |z
   .show .inl z
   .rw[bB.mp z];show .inr (m,wP.mpr λy H=>?_);have(a,b):=Ec (i e) (k.bl.subset H);rw[es,b,a]
  .rw[bB.mp c];show w.lt F f _ m I
  .have(l,h2):=lo G c hn
   rcases bv.mp f with z |z
   .show w.lt F z G c l
   .rw[bB.mp z];show M G c l h2
  .have(l,h2):=lo G c hn;show h2 (es▸Ei P.hr h.J.bk c (w.br G c l) (i e) k v)
 .rintro s st st1 _ dn s2 h ⟨Fs,rfl,w⟩ e g ha k _;have(m,I,M):=w.new P h e g ha;show(Fs++[(aI B W9 s).2.es],by rw[bd];rfl,λG=>(λq=>?_,λq=>wV λhn=>?_),qC.mpr (w.od,wZ _ _,λF f G c=>?_))
  .rcases bv.mp q with z |z
   .show(w.wr G z).1
   .rw[bB.mp z];show m
  .have l:G∉Fs:=λq=>hn (bZ _ q);show hn (cv _ (by rw[Ei P.hr h.J.bk q (w.br G q l) (i e) k (λp C=>nomatch C),<- e.t.es];show az))
  .rw[bB.mp c];show w.lt F f _ m I
def KQ(P:Par n (64*q*B.length) W9 W7 B)(i:∀r∈B,(grd r).length<=q):∃(Fs:List (LOB)) (pp:LD),(∀G,G∈Fs↔Wrl n B G)/\Fs.Pairwise Bef/\Fs.length<=3 ^ n/\pp≠[]/\∀most:Int,0<=most->m_0 [pl0 n B,.int most]=aa (if (Fs.length:Int)<=most then .tup [wsD (Fs.map wOf),.bl ac,.lst pp] else .tup [wsD ((Fs.map wOf).take most.toNat),.bl af,.lst []]):=by
 have f:∀y∈gys B.length 0,y∈(s00 n B).wt:=λy b=>by
  have(a,j):=y;have e:=eY.mp b
  cases a with
  |true=>show absurd e (g9 _)
  |false=>show aJ.mpr (j,eJ.mpr e,rfl)
 have(ws,s,(Fs,rfl,g,h2),h,c,d):=Ww P i (WM P) ([],rfl,(λ_ q=>nomatch q),(λ_ _ _ _ q=>nomatch q),List.Pairwise.nil,(λ_ q=>nomatch q),(λA x T q _=>by simp at q),WK _ B,λy0 y b _=>.inl (f y b));rw[aA]at c d;show(Fs,s.pp,g,h2,c,h,d)
def KR(C:LI0)(t:Int):(C.any λx=>x==t)=decide (t∈C):=by
 rw[iU,any_eq_true,decide_eq_true_iff];show(λ(x,h,e)=>beq_iff_eq.mp e▸h,λh=>(t,h,beq_self_eq_true t))
def KS(C:LI0)(t:Int):dIn (.int t) (.lst (C.map D.int))=aa (.bl (decide (t∈C))):=by
 rw[<- KR];change Option.map D.bl (if _=ac then aa _ else ab)=_;rw[if_pos (by rw[all_map];show(ca _ _).mpr (rfl,all_eq_true.mpr λ_ _=>rfl)),any_map];rfl
def WN(C:LI0)(t:Int):ko (.int t) (.lst (C.map D.int))=aa (.bl (!decide (t∈C))):=by rw[JV,KR]
abbrev hW(R W:LI0):Prt->Bool
 |.inn t=>decide (t∈R)
 |.out t=>!decide (t∈W)
 |.least k L=>decide (k<=wS L R)
 |.most k L=>decide (wS L W<=k)
def KU(p:Int->Bool)(L:LII)(z:Int×Int):bR p (L++[z])=bR p L+(if p z.1=ac then z.2 else 0):=by
 unfold bR;rw[jY,bd,sum_append]
 congr 1
 cases h:p z.1 with
 |true=>simp[h]
 |false=>simp[h]
def KW(L:LII)(S:LI0):vv [.lst (L.map itD),.lst (S.map D.int)]=aa (.int (wS L S)):=by
 apply jN;apply am;show bp rfl ?_;apply am;show dH L itD (λpre M=>∃a b,M=[.im (.lst (L.map itD)),.im (.lst (S.map D.int)),.im (.int (wS pre S)),a,b]) rfl (_,_,rfl) ?_ ?_
 .rintro pre z post M ex ⟨a,b,rfl⟩;show(_,rfl,?_);show bc (bC (ap rfl rfl (KS S z.1))) (λh=>?_) λh=>b9 (.im (.int z.1),.im (.int z.2),?_)
  .show(_,rfl,.im (.int z.1),.im (.int z.2),?_);rw[show wS (pre++[z]) S=wS pre S+z.2 by unfold wS;rw[KU,if_pos h]];rfl
  .rw[show wS (pre++[z]) S=wS pre S by unfold wS;rw[KU,if_neg (by rw[h];decide),Int.add_zero]];rfl
 .rintro M ⟨a,b,rfl⟩;show(_,rfl,gm rfl)
def WO(R W:LI0)(p:Prt):Bk [p.toD,.lst (R.map D.int),.lst (W.map D.int)]=aa (.bl (hW R W p)):=by
 cases p with
 |inn t=>show cQ (uR (uS rfl (cP (ap rfl rfl (KS R t)))))
 |out t=>show cQ (jK (m7 rfl rfl) (uR (uS rfl (cP (ap rfl rfl (WN W t))))))
 |least k L=>show cQ (jK (m7 rfl rfl) (jK (m7 rfl rfl) (uR (uS rfl (cP (ap (aG rfl (KW L R)) rfl rfl))))))
 |most k L=>show cQ (jK (m7 rfl rfl) (jK (m7 rfl rfl) (jK (m7 rfl rfl) (cP (ap (aG rfl (KW L W)) rfl rfl)))))
def WP(R W:LI0)(r:Rul)(a:r.ps.length<=3):Bm [r.toD,.lst (R.map D.int),.lst (W.map D.int)]=aa (.bl (r.ps.all (hW R W))):=by
 show cQ (cP (aG (ao (bW (gM r.ps Prt.toD (λp=>D.bl (hW R W p)) rfl (by lia) λp _=>fV rfl rfl (aG rfl (WO R W p)))) rfl) ?_));have:=Pc (r.ps.map (hW R W));rw[map_map,all_map]at this;show this
def shW(n:Nat)(W:LI0):LOB:=(bL n).map λi:Nat=>aa (decide ((i:Int)∈W))
def wR{W:LI0}(h:0<=t/\t<(n:Int)):(shW n W).getD t.toNat ab=aa (decide (t∈W)):=by
 unfold shW;rw[bK,cB,tL (by lia)];change aa (decide ((t.toNat:Int)∈W))=_;rw[show(t.toNat:Int)=t by lia]
def WQ{W:LI0}(a:p.Ok n):p.sure (shW n W)=hW W W p:=by
 cases p with
 |inn t=>change(_==_)=decide _;rw[wR a];cases decide (t∈W) <;> rfl
 |out t=>change(_==_)=!decide _;rw[wR a];cases decide (t∈W) <;> rfl
 |least k L=>
  change decide (k<=_)=decide _;rw[jI,uY λz hz=>?_];have:=a.1 z hz;rw[wR (this.1,this.2.1)]
  cases decide (z.1∈W) <;> rfl
 |most k L=>
  change decide (_<=k)=decide _;rw[jI,uY λz hz=>?_];have:=a.1 z hz;rw[wR (this.1,this.2.1)]
  cases decide (z.1∈W) <;> rfl
def WR(ws:List (LI0)):fU 20 (wsD ws):=by
 show fU.le (n:=3) (λx a=>?_) (by decide);have(w,_,rfl):=aJ.mp a;show O2 w
abbrev jU:Nat->List (LOB)
 | 0=>[[]]
 |n+1=>(jU n).map (aa ac::·)++(jU n).map (aa af::·)
def Ek:∀{n:Nat} {F:LOB},F.length=n->(∀i,i<n->F.getD i ab≠ab)->F∈jU n
 | 0,[],_,_=>az
 |n+1,b::F,hl,h=>by
  have a:=Ek (n:=n) (F:=F) (Nat.succ.inj hl) λi hi=>h (i+1) (Nat.succ_lt_succ hi)
  cases b with
  |none=>show absurd rfl (h 0 (ou _))
  |some b=>
   cases b with
   |true=>show bZ _ (aJ.mpr (F,a,rfl))
   |false=>show cv _ (aJ.mpr (F,a,rfl))
def KY:∀n,(jU n).Pairwise Bef
 | 0=>wZ _ _
 |n+1=>by
  have up : ∀ b : Bool,((jU n).map (aa b::·)).Pairwise Bef:=λb=>pairwise_map.mpr ((KY n).imp λ(t,h,k)=>(t + 1,λj d=>by cases j with
   |zero=>rfl
   |succ j=>show h j (xf d),k))
  show qC.mpr (up ac,up af,λF a G c=>?_);have(F,_,rfl):=aJ.mp a;have(G,_,rfl):=aJ.mp c;show(0,λ_ h=>absurd h (g9 _),rfl,rfl)
def stB(n:Nat)(B:LRu)(F:LOB):Bool:=@decide (Wrl n B F) (Em _)
def WS:stB n B F=ac↔Wrl n B F:=@decide_eq_true_iff _ (Em _)
def WT:∀n:_root_.Fin 6,∀F∈jU n.val,shW n.val (wOf F)=F/\(wOf F).Pairwise (· < ·)/\∀t∈wOf F,0<=t/\t<(n.val:Int):=by decide +kernel
variable{n:Int}
def WU{f:Xa}{a:LD}(b:M[i]?=aa (.own a))(h:f M=aa ([.int n,d],ρ1,))(h':ρ1[i]?=aa (.own C))(hn:0<=n/\n<=C.length/\C.length<16777216)(k:K (.nx (ρ1.set i (.own (C.take n.toNat++d::C.drop n.toNat))))):wp (nN i f) M K:=(_,by
 unfold nN;rw[b];dsimp only;rw[h,ax];dsimp only;rw[h'];show if_pos hn,k)
def WV(ds:LD):(ds.map O.fz).all O.isFz=ac:=by rw[all_map];show all_eq_true.mpr λ_ _=>rfl
def WW{f:LS->Option O}(h:f M=aa (.tup [.fz (.int n),.lst (ds.map .fz)])):zB f M=aa (.tup [.int n,.lst ds]):=by
 unfold zB;rw[h,ax,if_pos (by rw[O.kn,O.kns,O.kns,O.kn,O.kn,qh];rfl),O.toD,O.toDs,O.toDs,O.toD,O.toD,rf];rfl
def WX{f:LS->Option O}(h:f M=aa (.tup [.fz (.int n),.lst (ds.map .fz)])):nM f M=aa ds:=by
 unfold nM;rw[h];change(if (ds.map O.fz).all O.isFz=ac then aa (O.toDs (ds.map .fz)) else ab)=aa ds;rw[if_pos (WV ds),rf]
variable{n:Nat}
def WY{k:Nat}{b:Rul}(c:b.w=.never)(F:LOB):Wrl n (B.take k++b::B.drop k) F↔Wrl n B F/\¬d7 (grd b) F:=by
 have hm:∀r,r∈B.take k++b::B.drop k↔r∈B\/r=b:=λr=>by
  have:=bv (a:=r) (s:=B.take k) (t:=B.drop k);rw[take_append_drop]at this;rw[bv,aX,this]
  grind
 have mk:∀r,r∈eW (B.take k++b::B.drop k)↔r∈eW B:=λr=>by
  unfold eW;rw[cw,cw,hm];show(λ(x,y)=>(x.resolve_right λe=>?_,y),λ(x,y)=>(.inl x,y));rw[e,c]at y
  nomatch y
 have gr:∀wo,Grp (B.take k++b::B.drop k) F wo↔Grp B F wo:=λwo=>(λg=>(g.len,g.no,λr q z=>g.up r ((mk r).mpr q) z),λg=>(g.len,g.no,λr q z=>g.up r ((mk r).mp q) z));show(λw=>((w.len,w.fu,λr q=>w.ru r ((hm r).mpr (.inl q)),λwo g=>w.gr wo ((gr wo).mpr g)),w.ru b ((hm b).mpr (.inr rfl))),λ(w,z)=>(w.len,w.fu,λr q=>((hm r).mp q).elim (w.ru r) λe=>by rw[e];show z,λwo g=>w.gr wo ((gr wo).mp g)))
def few(b:n<=5)(f1:∀G,G∈Fs↔Wrl n B G)(f2:Fs.Pairwise Bef):(Fs.length:Int)<=33:=by
 have e:(jU n).filter (stB n B)=Fs:=Ej ((KY n).filter _) f2 λF=>by
  rw[f1,cw,WS];show(λq=>q.2,λq=>(Ek q.len q.fu,q))
 have a:∀n:_root_.Fin 6,(jU n.val).length<=32:=by decide +kernel
 have t:(jU n).length<=32:=a (n,by lia);have:=gy (stB n B) (jU n);rw[e]at this;lia
def WZ(ns:LI0)(h:ns.length<=63):m_4 [.kl (ns.map D.int)]=aa (.bl ac):=by
 have I:=Wx ns;have(c2,e2):=Ef I (i:=2) (by decide);have(c0,e0):=Ef I (i:=0) (by decide);have(n,B,ep,hn,hr,hl):=WC I h (top:=6) (by decide) (by decide);have T:=WE hr (by lia);have(Fs,pp,f1,f2,_,_,x):=KQ (Kx (by lia) hr (by lia)) (Ky hr);have x:=x 33 (by decide);rw[if_pos (few (by lia) f1 f2)]at x;have Q:kh 10 40:=(by decide,by decide,by decide);have p9:kh 10 9:=(by decide,by decide,by decide);apply jN;apply am;show bp (aG rfl ep) ?_;apply am;show bp (aG (ao (WW T) (ao rfl rfl)) x) ?_;apply am;show bc (b:=af) (py (a:=af) rfl (py (a:=af) rfl rfl)) (λz=>nomatch z) λ_=>b9 ?_;apply am;show bp (ap (ap (aG rfl e2) (ap rfl rfl (pL Q)) (cr (by decide))) (ap (aG rfl e0) (ap rfl rfl (pL p9)) (cr (by decide))) eB) ?_;generalize c2 % _+c0 % _=c;apply am;show bp rfl ?_;show G9 (λM=>∃b:Rul,b.w=.never/\Ru5 n b/\M=[.im (.kl (ns.map D.int)),.im (pl0 n B),.im (.tup [wsD (Fs.map wOf),.bl ac,.lst pp]),.im (.int c),.im b.toD,.no,.no]) ?_ ?_
 .show bc (bC (ap (ba rfl rfl rfl) rfl lO)) (λz=>?_) λ_=>b9 (k_J ((.never,0,[]),rfl,((λq=>absurd rfl q,(λp f=>nomatch f),ce _),(λp f=>nomatch f),ce _),rfl))
  have n1:1<=(n:Int):=by
   have:=of_decide_eq_true z;lia
  have(v,G,v0,v1):=kU c 29 (by decide) (by decide);have s0:=dY v (show(3:Int)≠0 by decide);have s1:=f7 v (show(0:Int)<3 by decide)
  have(ps,E,N,m):=IT (k:=1) (js:=[3,1]) (g:=ay 0) (ft:=λ_=>aa ac) (fe:=aw qb (ag (ae 1) (ag (m2 da (kI 30) (m2 jP (kI 6) (ae 0))) (ag (mIx (av 2) (kI 0)) nZ)))) (fi:=gJ (ag (m2 da (kI 1) (m2 bP (aw m_3 (ag (ae 3) (ag (kI 29) nZ))) (kI 3))) nZ)) (M:=[.im (.kl (ns.map D.int)),.im (pl0 n B),.im (.tup [wsD (Fs.map wOf),.bl ac,.lst pp]),.im (.int c),.im (.tup [.str "never",.non,.lst []]),.no,.no]) _ _ Prt.toD (λp=>p.Ok n/\(nmP p).length<=3) (pA (ao (ap rfl (ap (aG rfl G) rfl (cr (by decide))) eB) rfl) (by lia) (by lia)) (by rw[cI];lia) λj hj=>by
   have hj:=eJ.mp hj;have(d,ed,p,rfl,f):=Kw c (30+6*j) n (by lia) (by lia) n1;rw[dD]at f;show(p,f,fV rfl rfl (aG (ao rfl (ao (ap rfl (ap rfl rfl (nA (.inr (by lia,by lia)))) eB) (ao (ba rfl rfl rfl) rfl))) ed))
  rw[cI]at N;have L:ps.length<=3:=by lia
  show bp (d:=Rul.toD (.never,0,ps)) (cV (ao rfl (ao rfl (ao (bW E) rfl)))) (k_J ((.never,0,ps),rfl,((λq=>absurd rfl q,λp f=>(m p f).1,by change ps.length<=_;lia),λp f=>(m p f).2,L),rfl))
 rintro M ⟨b,A,H,rfl⟩;have(v,G,v0,v1):=kU c 28 (by decide) (by decide);have l:(0:Int)<(B.length:Int)+1:=by lia
 have m0:=dY v (Int.ne_of_gt l);have m1:=f7 v l;apply am;show d4 (WX T) ?_;walk_at "nrm";apply am;show WU (ρ1:=[.im (.kl (ns.map D.int)),.im (pl0 n B),.im (.tup [wsD (Fs.map wOf),.bl ac,.lst pp]),.im (.int c),.im b.toD,.own (B.map Rul.toD),.no]) (C:=B.map Rul.toD) (n:=v % ((B.length:Int)+1)) (d:=b.toD) rfl ?_ rfl (m0,by rw[aA];lia,by rw[aA];lia) ?_
 .have e:m2 bP (aw m_3 (ag (ae 3) (ag (kI 28) nZ))) (m2 da (aw cG (ag (cO 5) nZ)) (kI 1)) [.im (.kl (ns.map D.int)),.im (pl0 n B),.im (.tup [wsD (Fs.map wOf),.bl ac,.lst pp]),.im (.int c),.im b.toD,.own (B.map Rul.toD),.no]=aa (.int (v % ((B.length:Int)+1))):=ap (aG rfl G) (ap (aG rfl (fX B Rul.toD)) rfl eB) (cr l);change((Option.map _ _).bind _)=_;rw[e];rfl
 generalize (v % ((B.length:Int)+1)).toNat=k;rw[<- map_take,<- map_drop,<- bD,<- bd]
 have u:∀r∈B.take k++b::B.drop k,Ru5 n r:=λr q=>by
  rcases bv.mp q with q |q
  .show hr r (mem_of_mem_take q)
  .rcases aX.mp q with q |q
   .rw[q];show H
   .show hr r (mem_of_mem_drop q)
 have J:(B.take k++b::B.drop k).length<=69:=by
  rw[aR,cb,length_take,length_drop];lia
 have(Gs,pq,U,Y,_,_,y):=KQ (Kx (by lia) u J) (Ky u);have y:=y 33 (by decide);rw[if_pos (few (by lia) U Y)]at y
 have key:∀F,Wrl n B F->(b.ps.all (hW (wOf F) (wOf F))=ac↔d7 (grd b) F):=λF w=>by
  have(t1,_,_):=WT (n,by lia) F (Ek w.len w.fu);have t1:shW n (wOf F)=F:=t1
  have gb:grd b=b.ps:=by
   have(w,hd,ps):=b;have A:w=.never:=A;subst A;rfl
  rw[gb,all_eq_true]
  have sw:∀p∈b.ps,p.sure F=hW (wOf F) (wOf F) p:=λp f=>by
   have:=WQ (W:=wOf F) (H.ok.ps p f);rw[t1]at this;show this
  show(λz p f=>by rw[sw p f];show z p f,λz p f=>by rw[<- sw p f];show z p f)
 have e:Gs=Fs.filter λF=>!b.ps.all (hW (wOf F) (wOf F)):=Ej Y (f2.filter _) λF=>by
  rw[U,WY A,cw,f1];show and_congr_right λw=>?_;rw[<- key F w];simp
 subst e;apply am;show pJ rfl (bp (aG (ao (cV (ao (ba rfl rfl rfl) (ao rfl rfl))) (ao rfl rfl)) y) ?_);apply am;show bc (b:=af) (py (a:=af) rfl (py (a:=af) rfl (py (a:=af) rfl rfl))) (λz=>nomatch z) λ_=>b9 ?_;have lf:=few (by lia) f1 f2;show gj (ap (ba rfl rfl rfl) (bW (d9 Fs (λF=>wD (wOf F)) (λF=>!b.ps.all (hW (wOf F) (wOf F))) (λF=>wD (wOf F)) (fD (ba rfl rfl rfl) (by unfold wsD;rw[map_map];rfl)) (by lia) λF q=>dG rfl (m9 (df (aG rfl (WP (wOf F) (wOf F) b H.ln)) rfl)) λ_=>rfl)) ?_) (gm rfl);have:=OW (WR ((Fs.filter λF=>!b.ps.all (hW (wOf F) (wOf F))).map wOf));unfold wsD at this ⊢;rw[map_map]at this ⊢;show this
def sp_law(K:aQ):Sp:=λvs H Q _=>∃(a:Addr) (ns:LI0),vs=[.ref a]/\SqL K H a (ns.map V.int)/\ns.length<=63/\∀H',Q (.bl ac) H'
variable{K:aQ}
def sp_law_of{H:Hp}{a:Addr}{W8:XK}(c:ns.length<=63)(b:SqL K H a (ns.map V.int)):sp_law K [.ref a] H (λv _=>v=.bl ac) W8:=(a,ns,rfl,b,c,λ_=>rfl)
variable{w:World}
def law_ok{a:Wa}(W:Wd K mg a):cq P w K mg base CX0 11 a.e_4.1 a.e_4.2 ["_law_script"] (sp_law K):=(Uz W).ok.imp λvs H Q W8 (a,ns,b,c,d,k)=>
 (H,[.kl (ns.map D.int)],.bl ac,aq.refl _,(.ref a,[],b,(a,_,rfl,c,ak.ints ns),rfl),rfl,WZ ns d,λv Hf' H' x r=>by rw[show v=V.bl ac from r];show k H')
variable{P:LVa->Prop}
def wT(h:P []):∀us:LVa,us.length=0->P us:=λus e=>by
 rw[eq_nil_of_length_eq_zero e];show h
def jV(h:∀a (us:LVa),us.length=n->P (a::us)):∀us:LVa,us.length=n+1->P us:=λus e=>by
 cases us with
 |nil=>cases e
 |cons a us=>show h a us (Nat.succ.inj e)
def El(h:∀a:Value,P [a]):∀us:LVa,us.length=1->P us:=jV (P:=λus=>P (us)) λa=>wT (h a)
def KZ(h:∀a b:Value,P [a,b]):∀us:LVa,us.length=2->P us:=jV (P:=λus=>P (us)) λa=>jV (P:=λus=>P (a::us)) λb=>wT (h a b)
def W0(h:∀a b c:Value,P [a,b,c]):∀us:LVa,us.length=3->P us:=jV (P:=λus=>P (us)) λa=>jV (P:=λus=>P (a::us)) λb=>jV (P:=λus=>P (a::b::us)) λc=>wT (h a b c)
def W2(h:∀a b c d:Value,P [a,b,c,d]):∀us:LVa,us.length=4->P us:=jV (P:=λus=>P (us)) λa=>jV (P:=λus=>P (a::us)) λb=>jV (P:=λus=>P (a::b::us)) λc=>jV (P:=λus=>P (a::b::c::us)) λd=>wT (h a b c d)
local macro_rules | `(tactic| walk_at "bd")=>`(tactic| exact λ_ _ _ _ _ _=>by first | exact El λ_=>rfl | exact KZ λ_ _=>rfl | exact W0 λ_ _ _=>rfl | exact W2 λ_ _ _ _=>rfl)
set_option autoImplicit true in
def all_mk{ad ae af ag ai aj ak al am an ao ap aq ar as av aw ax:Addr}{h:Heap}{bT aE aF aG aH aI aJ aK aL aM aN bU bV aO aP aQ bW aR aS aT bX aU aV aW aX aY aZ a0 a1 a2 a3 bY a4 a5 a6 a7 a8 a9 ba bb bc bd be bf bg bh bi bj bk bl bm bn bo bp bq br bs bu bv bw bx bz bA bB bC bZ bD bE bF b0 b1 j m d w l q f b c p g n bG:cT}{U:Nat}{e6:Tok}{eH:Nat}{fa:Addr}(X:K.In h)(G:h.Ns cC mg)(hfa:mg "law"=aa (.ref fa))
 (b2:dZ K cC "In"=aa (aa (.ref ad)))
 (bH:dZ K cC "Out"=aa (aa (.ref ae)))
 (fx:dZ K cC "Least"=aa (aa (.ref af)))
 (ay:dZ K cC "Most"=aa (aa (.ref ag)))
 (M:dZ K cC "Spreading"=aa (aa (.ref ai)))
 (Y:dZ K cC "Seeking"=aa (aa (.ref aj)))
 (c9:Dq K "marks" s_1 f_1 bT)
 (b9:Dq K "numbers" zN f_19 aE)
 (ca:Dq K "part_of" zO f_33 aF)
 (cb:Dq K "things_of" zP f_34 aG)
 (cc:Dq K "worth_in" zQ f_20 aH)
 (cd:Dq K "worth_not_out" zR f_14 aI)
 (ce:Dq K "worth_of" zS f_35 aJ)
 (cf:Dq K "outside" zT f_36 aK)
 (cg:Dq K "heavy" zU f_21 aL)
 (ch:Dq K "weights_of" zV f_15 aM)
 (ci:Dq K "with_entry" zW f_16 aN)
 (da:Dq K "enough" s_7 f_7 bU)
 (db:Dq K "body_of" s_2 f_2 bV)
 (cj:Dq K "guard_of" zX f_22 aO)
 (ck:Dq K "guard_of_bar" zY f_46 aP)
 (cn:Dq K "pressed_by" zZ f_72 aQ)
 (dc:Dq K "lost_part" s_6 f_6 bW)
 (co:Dq K "own_why" z4 f_23 aR)
 (cp:Dq K "needed_first" z5 f_37 aS)
 (cq:Dq K "_law_cell_at" z6 f_24 aT)
 (dd:Dq K "_law_mixed" s_3 f_3 bX)
 (cr:Dq K "_law_items" z7 f_38 aU)
 (cs:Dq K "_law_part" z8 f_11 aV)
 (ct:Dq K "_law_rule" z9 f_25 aW)
 (cu:Dq K "_law_base" Aa f_26 aX)
 (cv:Dq K "_law_plain" Ab f_27 aY)
 (cw:Dq K "_law_part_again" Ac f_47 aZ)
 (cx:Dq K "_law_again" Ad f_67 a0)
 (cy:Dq K "_law_sum" Ae f_17 a1)
 (cz:Dq K "_law_part_holds" Ag f_48 a2)
 (cA:Dq K "_law_body_holds" Ah f_49 a3)
 (cB:Dq K "law" s_4 f_4 bY)
 (bI:Dp K ad "__init__" "In.__init__" Ai f_68 a4)
 (cD:Dp K ad "named" "In.named" Aj f_39 a5)
 (cE:Dp K ad "wants" "In.wants" Ak f_50 a6)
 (cF:Dp K ad "sure" "In.sure" Al f_51 a7)
 (cG:Dp K ad "sure_by" "In.sure_by" Am f_52 a8)
 (cH:Dp K ad "tips" "In.tips" An f_53 a9)
 (cI:Dp K ad "lost" "In.lost" Ao f_28 ba)
 (cJ:Dp K ad "lost_by" "In.lost_by" Ap f_54 bb)
 (bJ:Dp K ae "__init__" "Out.__init__" Aq f_69 bc)
 (cK:Dp K ae "named" "Out.named" Ar f_40 bd)
 (cL:Dp K ae "wants" "Out.wants" As f_55 be)
 (cM:Dp K ae "sure" "Out.sure" At f_56 bf)
 (cN:Dp K ae "sure_by" "Out.sure_by" Au f_57 bg)
 (cO:Dp K ae "tips" "Out.tips" Av f_58 bh)
 (cP:Dp K ae "lost" "Out.lost" Aw f_29 bi)
 (cQ:Dp K ae "lost_by" "Out.lost_by" Ax f_59 bj)
 (bK:Dp K af "__init__" "Least.__init__" Ay f_70 bk)
 (cR:Dp K af "named" "Least.named" Az f_41 bl)
 (cS:Dp K af "wants" "Least.wants" AA f_60 bm)
 (cU:Dp K af "sure" "Least.sure" AB f_61 bn)
 (cV:Dp K af "sure_by" "Least.sure_by" AC f_62 bo)
 (cW:Dp K af "tips" "Least.tips" AD f_42 bp)
 (cX:Dp K af "lost" "Least.lost" AE f_30 bq)
 (cY:Dp K af "lost_by" "Least.lost_by" AF f_43 br)
 (bL:Dp K ag "__init__" "Most.__init__" AG f_71 bs)
 (cZ:Dp K ag "named" "Most.named" AH f_44 bu)
 (c0:Dp K ag "wants" "Most.wants" AI f_63 bv)
 (c1:Dp K ag "sure" "Most.sure" AJ f_64 bw)
 (c2:Dp K ag "sure_by" "Most.sure_by" AK f_65 bx)
 (c3:Dp K ag "tips" "Most.tips" AL f_45 bz)
 (c4:Dp K ag "lost" "Most.lost" AM f_31 bA)
 (c5:Dp K ag "lost_by" "Most.lost_by" AN f_66 bB)
 (bM:Dp K aj "__init__" "Seeking.__init__" AO f_12 bC)
 (de:Dp K aj "another" "Seeking.another" s_8 f_8 bZ)
 (c6:Dp K aj "close" "Seeking.close" AQ f_13 bD)
 (c7:Dp K aj "place_for" "Seeking.place_for" AR f_32 bE)
 (c8:Dp K aj "line_to" "Seeking.line_to" AS f_18 bF)
 (df:Dp K aj "grounds" "Seeking.grounds" s_5 f_5 b0)
 (dg:Dp K aj "grounds_of_group" "Seeking.grounds_of_group" s_9 f_9 b1)
 (A:Dp K aj "take_guard" "Spreading.take_guard" AT ak j)
 (C:Dp K aj "take_bar" "Spreading.take_bar" AU al m)
 (x:Dp K aj "drop_wider" "Spreading.drop_wider" AV am d)
 (L:Dp K aj "put" "Spreading.put" AW an w)
 (B:Dp K aj "take_back" "Spreading.take_back" AX ao l)
 (I:Dp K aj "settle" "Spreading.settle" AY ap q)
 (y:Dp K aj "look_round" "Spreading.look_round" AZ aq f)
 (r:Dp K aj "put_loose_out" "Spreading.put_loose_out" A0 ar b)
 (u:Dp K aj "loose_marks" "Spreading.loose_marks" A1 as c)
 (H:Dp K aj "kernel" "Spreading.kernel" A3 av p)
 (z:Dp K aj "lost_parts" "Spreading.lost_parts" A4 aw g)
 (E:Dp K aj "keeping" "Spreading.keeping" A5 ax n)
 (dh:dZ K cC "worlds"=aa (aa (.ref f_0)))
 (di:K.lookup f_0=aa (oc_0,od_0,.func (i8 "worlds" "worlds" (ki s_0) (fw s_0) (au s_0) (.ref U) kV_0 dc_0 pm_0 an_0 cd_0 ct_0),sl_0))
 (J:K.lookup U=aa (oT_worlds,dT_worlds,.seq #[.int 1 e6] eH,sT_worlds))
 (dj:W.codeIn K cd_0 "worlds"=ac)
 (dk:gf K (.ref f_0)=ac)
 (T:W.specialIn K (.ref ai) "__getattribute__"=aa (aa (.builtin "type.__getattribute__")))
 (Q:W.readsIn K ai (.type "type")=ac)
 (N:W.findCls K (.ref ai) (.type "type") "__init__"=aa (.val (.ref f_10)))
 (b3:kc K ad oN=ac)
 (b4:lq K ad=ac)
 (b5:mG K ad=ac)
 (b6:cm K (.ref ad) "__setattr__"=aa (aa (.builtin "object.__setattr__")))
 (qq:mH K ad=ac)
 (b7:gf K (.ref ad)=ac)
 (nL:cm K (.ref ad) "thing"=aa ab)
 (bO:kc K ae oN=ac)
 (bP:lq K ae=ac)
 (bQ:mG K ae=ac)
 (bR:cm K (.ref ae) "__setattr__"=aa (aa (.builtin "object.__setattr__")))
 (p5:mH K ae=ac)
 (bS:gf K (.ref ae)=ac)
 (nq:cm K (.ref ae) "thing"=aa ab)
 (gu:kc K af oN=ac)
 (fy:lq K af=ac)
 (gv:mG K af=ac)
 (gw:cm K (.ref af) "__setattr__"=aa (aa (.builtin "object.__setattr__")))
 (o6:mH K af=ac)
 (ge:gf K (.ref af)=ac)
 (ll:cm K (.ref af) "bound"=aa ab)
 (lj:cm K (.ref af) "pieces"=aa ab)
 (az:kc K ag oN=ac)
 (aA:lq K ag=ac)
 (aB:mG K ag=ac)
 (aC:cm K (.ref ag) "__setattr__"=aa (aa (.builtin "object.__setattr__")))
 (pz:mH K ag=ac)
 (aD:gf K (.ref ag)=ac)
 (mu:cm K (.ref ag) "bound"=aa ab)
 (lp:cm K (.ref ag) "pieces"=aa ab)
 (d2:kc K aj oN=ac)
 (dr:lq K aj=ac)
 (eg:mG K aj=ac)
 (eh:cm K (.ref aj) "__setattr__"=aa (aa (.builtin "object.__setattr__")))
 (og:mH K aj=ac)
 (d0:gf K (.ref aj)=ac)
 (j0:cm K (.ref aj) "sheet"=aa ab)
 (l0:cm K (.ref aj) "steps"=aa ab)
 (lk:cm K (.ref aj) "bars"=aa ab)
 (kF:cm K (.ref aj) "guards"=aa ab)
 (hO:cm K (.ref aj) "watches"=aa ab)
 (ky:cm K (.ref aj) "waiting"=aa ab)
 (kQ:cm K (.ref aj) "makers"=aa ab)
 (md:cm K (.ref aj) "paper"=aa ab)
 (lb:cm K (.ref aj) "count"=aa ab)
 (mm:cm K (.ref aj) "ended"=aa ab)
 (q4:dZ K cC "all"=aa ab)
 (rc:dZ K cC "any"=aa ab)
 (nS:dZ K cC "enumerate"=aa ab)
 (ny:dZ K cC "isinstance"=aa ab)
 (ri:dZ K cC "len"=aa ab)
 (n7:dZ K cC "list"=aa ab)
 (pj:dZ K cC "range"=aa ab)
 (n5:dZ K cC "reversed"=aa ab)
 (ro:dZ K cC "set"=aa ab)
 (oD:dZ K cC "sorted"=aa ab)
 (qa:dZ K cC "sum"=aa ab)
 (p0:dZ K cC "tuple"=aa ab)
 (b8:Fun K "__init__" "Spreading.__init__" A6 f_10 bG)
 (p4:rA K "list")
 (pu:rA K "tuple")
  : ∃a:Wa,∃W:Wd K mg a,a.e_4.1=fa/\∀(s:ah) (v:Value),BindsTo s a.e_4.2 ([v],[]) [("_law_script",v,)]:=by
 have e:=hfa.symm.trans (ke X G cB.a);cases e;have hc:∃cl:Str->Addr,ad=cl "In" /\ ae=cl "Out" /\ af=cl "Least" /\ ag=cl "Most" /\ aj=cl "Seeking":=(λs=>if s="In" then ad else if s="Out" then ae else if s="Least" then af else if s="Most" then ag else if s="Seeking" then aj else 0,rfl,rfl,rfl,rfl,rfl);have(cl,rfl,rfl,rfl,rfl,rfl):=hc
 show(((f_1,bT,),(f_19,aE,),(f_33,aF,),(f_34,aG,),(f_20,aH,),(f_14,aI,),(f_35,aJ,),(f_36,aK,),(f_21,aL,),(f_15,aM,),(f_16,aN,),(f_7,bU,),(f_2,bV,),(f_22,aO,),(f_46,aP,),(f_72,aQ,),(f_6,bW,),(f_0,_,),(f_23,aR,),(f_37,aS,),(f_24,aT,),(f_3,bX,),(f_38,aU,),(f_11,aV,),(f_25,aW,),(f_26,aX,),(f_27,aY,),(f_47,aZ,),(f_67,a0,),(f_17,a1,),(f_48,a2,),(f_49,a3,),(f_4,bY,),(f_68,a4,),(f_39,a5,),(f_50,a6,),(f_51,a7,),(f_52,a8,),(f_53,a9,),(f_28,ba,),(f_54,bb,),(f_69,bc,),(f_40,bd,),(f_55,be,),(f_56,bf,),(f_57,bg,),(f_58,bh,),(f_29,bi,),(f_59,bj,),(f_70,bk,),(f_41,bl,),(f_60,bm,),(f_61,bn,),(f_62,bo,),(f_42,bp,),(f_30,bq,),(f_43,br,),(f_71,bs,),(f_44,bu,),(f_63,bv,),(f_64,bw,),(f_65,bx,),(f_45,bz,),(f_31,bA,),(f_66,bB,),(f_12,bC,),(f_8,bZ,),(f_13,bD,),(f_32,bE,),(f_18,bF,),(f_5,b0,),(f_9,b1,),(ak,j,),(al,m,),(am,d,),(an,w,),(ao,l,),(ap,q,),(aq,f,),(ar,b,),(as,c,),(av,p,),(aw,g,),(ax,n,),(f_10,bG,),cl,ai),(c9.mk2 X G,b9.mk2 X G,ca.mk2 X G,cb.mk2 X G,cc.mk2 X G,cd.mk2 X G,ce.mk2 X G,cf.mk2 X G,cg.mk2 X G,ch.mk2 X G,ci.mk2 X G,da.mk2 X G,db.mk2 X G,cj.mk2 X G,ck.mk2 X G,cn.mk2 X G,dc.mk2 X G,(R8 (st:=s_0) di dj dk,(Ib J rfl rfl λus hl=>by
   rw[bN]at hl ⊢
   revert us hl
   show KZ λ_ _=>(_,rfl,rfl)),ke X G dh),co.mk2 X G,cp.mk2 X G,cq.mk2 X G,dd.mk2 X G,cr.mk2 X G,cs.mk2 X G,ct.mk2 X G,cu.mk2 X G,cv.mk2 X G,cw.mk2 X G,cx.mk2 X G,cy.mk2 X G,cz.mk2 X G,cA.mk2 X G,cB.mk2 X G,bI.mk2,cD.mk2,cE.mk2,cF.mk2,cG.mk2,cH.mk2,cI.mk2,cJ.mk2,bJ.mk2,cK.mk2,cL.mk2,cM.mk2,cN.mk2,cO.mk2,cP.mk2,cQ.mk2,bK.mk2,cR.mk2,cS.mk2,cU.mk2,cV.mk2,cW.mk2,cX.mk2,cY.mk2,bL.mk2,cZ.mk2,c0.mk2,c1.mk2,c2.mk2,c3.mk2,c4.mk2,c5.mk2,bM.mk2,de.mk2,c6.mk2,c7.mk2,c8.mk2,df.mk2,dg.mk2,A.mk2,C.mk2,x.mk2,L.mk2,B.mk2,I.mk2,y.mk2,r.mk2,u.mk2,H.mk2,z.mk2,E.mk2,Db.mk2 b8,(_,.cons (_,rfl) .nil,Ib J rfl rfl λus hq=>by
   have hl:us.length=1:=by simpa using hq
   clear hq
   revert us hl
   show El λ_=>(_,rfl,rfl)),ke X G b2,(b3,b4,b5,b6),(qq,bI.a,bI.i,b7),nL,ke X G bH,(bO,bP,bQ,bR),(p5,bJ.a,bJ.i,bS),nq,ke X G fx,(gu,fy,gv,gw),(o6,bK.a,bK.i,ge),ll,lj,ke X G ay,(az,aA,aB,aC),(pz,bL.a,bL.i,aD),mu,lp,ke X G M,(T,Q,N,b8.kp),ke X G Y,(d2,dr,eg,eh),(og,bM.a,bM.i,d0),j0,l0,lk,kF,hO,ky,kQ,md,lb,mm,iC X G q4,iC X G rc,iC X G nS,iC X G ny,iC X G ri,iC X G n7,iC X G pj,iC X G n5,iC X G ro,iC X G oD,iC X G qa,iC X G p0,p4,pu),rfl,cB.bt (λ_ _ _ _ _ _=>El λ_=>rfl))
end N_k55
structure PySem.W.Fast:Prop where
 (tw1149471225149856469 tw2312716892250198852 tw4580833909873497945 tw3215934297702012094 tw5651056633024452426 tw3912942450701267025 tw17988675159760502777 tw4163794100306386579 tw18442887995775338586 tw911217916210419816 tw6009441416471443506 tw17537837926932181634 tw16317633113106446042 te6562295813918167417 te14344739394939868365 te6282477543896762631 te17852715271613583405 te5494671076879320998 te7057781094923088127 te5214210382791590720 te13517457415135620982 te3836141378683662490 te10548151291813389931 te12024300632568305705 te3192254553300668642 te6883525523956695171 te15609721897810956031 te401551908141709804 te14843963757526798088 te9617337557741672846 te2571687235253054290 te250529926691652685:True)
open PySem PySem.W PyProof.Rows
set_option maxRecDepth 100000 in
set_option maxHeartbeats 0 in
theorem PySem.Challenge.cw_standstill_k55_a_bar_more_holds : PySem.Challenge.rw_standstill_k55_a_bar_more.Holds := by
 w_on; o_law; k_head; (case hw=>w_witness2)
 k_fill
 refine L2.walk_ofK (l:=PySem.Challenge.rw_standstill_k55_a_bar_more) (n:=63) (k:=11) (x:="_law_script") (CX:=L2.CX0) (sp:=N_k55.sp_law) rfl (by decide) rfl ⟨rfl,by decide,by decide⟩ (fun w h Y=>PySem.W.kIn_of Y) ?F (fun _ _ a ns hl _ hS=>N_k55.sp_law_of hl hS) (fun _ _ _ _ z=>z)
 case F =>
  intro w mg fa h KX G hmg
  have TT : ∃ a : N_k55.Wa,∃ W : N_k55.Wd (L2.KOf KX) mg a,a.e_4.1=fa /\ ∀ (s:Shared) (v:Value),BindsTo s a.e_4.2 ⟨[v],[]⟩ [("_law_script",v)]:=by
   dsimp only [L2.KOf]
   refine' N_k55.all_mk KX G hmg ..
   all_goals first | k_is | kit_is | k_exc | exact ⟨by k_is,L2.fun_mk (by k_is) (by k_is) (by k_is)⟩ | exact ⟨by k_is,by k_is,L2.fun_mk (by k_is) (by k_is) (by k_is)⟩ | exact L2.fun_mk (by k_is) (by k_is) (by k_is) | (intro t ht; simp only [List.mem_cons,List.not_mem_nil,or_false] at ht; rcases ht with rfl | rfl | rfl | rfl | rfl | rfl | rfl <;> kit_is) | skip
  obtain ⟨a,W,e1,hb⟩:=TT
  subst e1
  exact ⟨_,hb,fun base kb nb=>N_k55.law_ok W⟩
