import PyProof.Rows.All
import Wide.All
import OpenK.KSplit
import OpenK.KApp
import KE.RegKMod
import KE.RegLcAnyAll
import KE.KCells
import KE.KPassesOwn
import KE.KNestStore
import KE.KStopIter
import KE.RegKBase
import KE.KxDecode
import KE.RegKMathGB
import KE.KOwnIterCall
import KE.KSortedM
import KE.KxLen
import KE.KIsClose
import KE.KDisp
import KE.KRevSl
import KE.KEqDeep
import KE.KAnyBase
import KE.KWhile
import KE.KxStill
import KE.KFinally
import KE.KTopLam
import KE.KWithOwn
import KE.KDictNew
import KE.KSumEnd
import KE.KPopAny
import KE.KGrown
import KE.KItemAt
import KE.KTextLit
import KE.KTupDict
import KE.KExtendNil
import KE.KDictAnyTail
import KE.RegKStar
import KE.RegKTupTruth
import KE.RegKTupSum
import KE.KPathRangeEnd
import KE.KxAffix
import KE.KJoinL
import KE.KBytesCut
import KE.KTypeName
import KE.KTypeOf
import KE.KMulAny
import KE.KBytesMenu
import KE.KTextDict
import KE.KKinds
import KE.KxPart
import KE.KRangeItem
import KE.KSetAt
import KE.KxTruthy
import KE.KRangePlain
import KE.KForList
import KE.KAssignIn
import KE.KFirstTurn
import KE.KOwnRange
import KE.KTurnsGround
import KE.KFinFacts
import KE.KEndWord
import KE.KOf
import KE.KRepItem
import KE.KSliceSign
import KE.KToBytes
import KE.KIsBytes
import KE.KEndW
import Wide.FinOn
import KE.KIntText
import PySem.Challenge.RW_standstill_k91_desk_rows
set_option Elab.async false
def Zz.rc:Nat->Lean.Term->Lean.MacroM (Lean.TSyntax `rcasesPat)
|0,_=>Lean.Macro.throwUnsupported
|n+1,t=>do
 let b:=match t with|`(($a,$b,*))=>#[a]++b.getElems|`(⟨$b,*⟩)=>b.getElems|_=>#[]
 if b.size>0 then
  let l<-b.mapM fun x=>do let y<-rc n x;`(Lean.Parser.Tactic.rcasesPatLo|$y:rcasesPat)
  return<-`(rcasesPat|⟨$l,*⟩)
 match t with|`($i:ident)=>`(rcasesPat|$i:ident)|_=>`(rcasesPat|_)
set_option genSizeOf false
set_option linter.all false
set_option compiler.extract_closed false
set_option bootstrap.genMatcherCode false
local macro_rules
|`(def $d:declId $b* :$t $v:declVal)=>if t.raw.isIdent||t.raw.isOfKind `Lean.Parser.Term.prop||[`Option,`List].contains t.raw[0].getId then `(noncomputable def $d $b* :$t $v:declVal)else `(theorem $d $b* :$t $v:declVal)
|`(nonrec def $d:declId $s:optDeclSig $v:declVal)=>`(@[reducible] noncomputable def $d $s:optDeclSig $v:declVal)
|`(abbrev $d:declId $s:optDeclSig $v:declVal)=>`(noncomputable def $d $s:optDeclSig $v:declVal)
|`(def $d:declId $v:declVal)=>`(noncomputable def $d $v:declVal)
local macro_rules
|`(tactic|have $p:term:=$e)=>do let q<-Zz.rc 9 p;`(tactic|obtain $q:rcasesPat:=$e)
|`(tactic|show%$s $e)=>if s.getHeadInfo matches .original .. then `(tactic|refine $e)else Lean.Macro.throwUnsupported
local macro_rules
|`((%$s $a,$b,*))=>if b.elemsAndSeps.size%2=1&&s.getHeadInfo matches .original .. then `(⟨$a,$b,*⟩)else Lean.Macro.throwUnsupported
set_option maxRecDepth 100000
open Array renaming toList_append->qc,getElem?_toList->xT
open Bool renaming true->ac,false->ah,false_ne_true->c6,and_eq_true->cM,or_eq_true->gW,eq_iff_iff->ku,or_eq_false_iff->r6,or_eq_true_iff->uO,or_true->r9,false_and->uP,noConfusion->xU,and_false->xV,and_true->xW,not_eq_false'->Cz,not_eq_true'->CA
open Classical renaming byContradiction->Hu
open False renaming elim->f8
open ForInStep renaming yield->sd
open Int renaming emod_lt_of_pos->iU,emod_nonneg->iA,toNat_of_nonneg->xX,toNat_natCast->xY
open List renaming length_append->aX,mem_cons_of_mem->bx,mem_cons_self->bi,length_cons->aU,getElem?_eq_some_iff->dW,mem_append_right->bY,mem_singleton->bE,length_map->bh,getElem?_eq_getElem->gG,getElem?_set_ne->gH,append_nil->bZ,getElem?_map->fV,mem_cons->bw,mem_append_left->fK,getElem?_set_self->jq,not_mem_nil->c7,length_singleton->gI,mem_append->cW,append_assoc->fb,getD_eq_getElem?_getD->jM,range->eQ,mem_of_getElem?->iV,getElem?_append_left->oB,map_append->fL,length_nil->fM,nil_append->fW,nodup_cons->f9,replicate->jN,cons_append->ia,map_cons->eR,getElem?_append_right->se,zip_cons_cons->jO,drop_eq_nil_of_le->m6,nodup_append->jP,flatMap_cons->kA,length->me,length_range->m7,nodup_nil->jQ,mem_range->kC,getElem?_replicate->xZ,length_replicate->sh,getElem?_cons_succ->x0,length_drop->m8,mem_map->iW,lookup_cons->oC,length_set->oE,length_take->qd,eraseIdx_eq_take_drop_succ->CB,filterMap_cons->uQ,take_of_length_le->x6,contains_cons->uR,range'->uS,nodup_iff_pairwise_ne->CC,isPrefixOf_iff_prefix->CD,all_cons->oF,getElem_mem->CF,any_cons->qe,set_cons_succ->x8
open Nat renaming le_refl->bu,lt_of_lt_of_le->dY,le_trans->cf,le_of_ble_eq_true->gb,ne_of_lt->dw,lt_succ_self->jr,zero_le->gJ,add_zero->jt,ne_of_gt->kE,lt_irrefl->mf,mul_le_mul->oG,le_succ->m9,le_of_lt->oH,sub_eq_zero_of_le->x9,le_succ_of_le->ya,lt_succ_of_lt->yb,add_assoc->uT,le_of_not_lt->yc,le_of_eq->uU,lt_trans->uV,lt_or_ge->uW,succ_mul->yd
open Ne renaming symm->iB
open Option renaming some->aa,none->ae,bind_some->aE,bind_eq_some_iff->nc,map_eq_some_iff->CG
open Option.some renaming inj->cp
open Or renaming inr->cy,inl->cE
open PyProof.Rows renaming callWith_type1->uX,envOfC->fE,joinParts_cons->si,callWith_builtin1->Hv,AllBare->mh
open PySem renaming Shared->ak,starEach->ba,sizeLine->be,mainGlobals->cC,wpAny_bind->cX,wpAny_passesOwn->gK,foldedSetIterable->iC,boot_len->gX,sizeLine_eq->fc,wpAny_pure->dZ,wpAny_mono->d6,swapsWith->dz,compareOp->dR,wpAny_Call_Name_kw->lF,keywordEach->gL,wpAny_execs_cons->kG,Program->cP,wpAny_truthy_bool->mi,FuncData->eS,attributeBase->jR,Around->cq,backTo->cD,wpAny_execs_nil->mj,Builtin->Ov,bootBuiltins->kH,wpAny_Assign_Name->oI,backToKw->gM,holding->fX,binaryOp->iD,NameKind->iE,getMethod->jS,codeAny_mono->nh,assignEach->lG,behindInMarks->oJ,mem_of_lookup->uY,standAt->gY,PassesOwn->kJ,typeIs_str->mm,codeAny->iF,Keyword->iG,wpAny_getItem_str_slice->ye,wpAny_Call_method_late->yf,Spec->XT,wpAny_loadName_local->yg,callWith->lH,codeAny_forLoop_any->yh,sliceBounds->qf,wpAny_isSubtype_exc->yi,wpAny_newFunctionEnv_cells->CH,reprText->mo,wpAny_assign_Name->yj,wpAny_pyIter_list->ym,wpAny_comprehension_free->CI,wpAny_loadPart_at->yn,wpAny_holding->uZ,wpAny_toks_of->u4,intText?->yo,codeAny_call_function->CJ,post_val_or_str->yq,wpAny_Name->sj,wpAny_call->ss,call_meets->su,BindsTo->nu,notedBy->nv,excClassObj->u5,wpAny_standAt->yr,strValues->sv
open PySem.Around renaming in1_units->CK
open PySem.Builtin.Int renaming intBits->yt
open PySem.Builtin.List renaming listTooLong->Hw
open PySem.Builtin.Str renaming strSliceIndices->CL,strSub->u6,occurrences->Hx
open PySem.Calls renaming spliced_cons->mq,Constant_str->oK,evalArgs_plain->u7,callWith_builtin->yu,spliced_nil->yv
open PySem.F renaming plainAttrs_list->c9,slot_list_append->dF,type_list_append->dG,plainAttrs_str->jT,slot_str_join->mr,type_str_join->ms,excBase_ValueError->u8,called_set->oM,slot_str_replace->CM,type_str_replace->CN,args_str_split_2->CO,slot_str_startswith->Hy,type_str_startswith->Hz,entry_str_split->CP
open PySem.Heap renaming get?_push_of_some->ff,lt_size->cF,get?_push_size->gZ,size_push->sw,SameBut->yw,FlyingW->yx
open PySem.NameKind renaming free->gr,cell->oN
open PySem.PassesOwn renaming never->iH,leaving->lI
open PySem.SeqAt renaming EqAt->dS
open PySem.SeqAt.EqAt renaming int_str->CQ,str_int->CS,same->CT
open PySem.Str renaming length_append->oO,empty->iX,cps_append->oP,join->kK,ofString->sx,length->sy
open PySem.StrLaws renaming occBody->sA,seqIndex_nonneg->HA,subAt_eq->CU
open PySem.Txt renaming slice->jU,replace->nw,split->oQ,startswith->yy,join->CV,slice_le->yz
open PySem.Value renaming ref->gt,bool->lJ
open PySem.W renaming Frag->bf,mg_none_of->ib,findIn->gN,nsIn->d7,kia_one->lK,emptyDict->oR,mroIn->iY,hideAll_none->sB,keepIn->kL,callWith_K->sC,instObj->oS,hideAll_get->u9,mg_of->lM,cellsFrom_some->yA,plainGet->sD,hasDictIn->va,hideAll->sE,fnOf->lN
open PySem.W.KIN renaming signs_num->CW
open Sum renaming inl->lO
open ToString renaming toString->nA
open True renaming intro->qg
nonrec abbrev Zt:=List Bool
nonrec abbrev LI0:=List Int
nonrec abbrev LII:=List (Int×Int)
nonrec abbrev LOB:=List (Option Bool)
nonrec abbrev Z9:=PySem.Value->PySem.Shared->Prop
nonrec abbrev Zp:=PySem.Str->Option PySem.Value
nonrec abbrev Z8:=List (PySem.Addr×PySem.Obj)
nonrec abbrev LN:=List Nat
nonrec abbrev Z0:=List LN
nonrec abbrev Z1:=List PySem.Str
nonrec abbrev Z5:=List PySem.Value
nonrec abbrev Z7:=List PySem.Addr
nonrec abbrev Zq:=List PySem.Expr
def Za(_:True:=by rfl)(_:True:=by decide)(_:True:=by intro _;rfl)(_:True:=by first |exact cE rfl |exact cy rfl)(_:True:=by first |exact .inl rfl |exact .inr rfl)(_:True:=by first |exact .inl rfl |exact .inr rfl |assumption)(_:True:=by first |exact cE rfl |exact cy (cE rfl) |exact cy (cy rfl))(_:True:=by exact λ_ _=>rfl)(_:True:=by first |rfl |exact glc rfl)(_:True:=by exact gb rfl)(_:True:=by with_unfolding_all rfl)(_:True:=by first |exact yH _ |rfl)(_:True:=by decide +kernel)(_:True:=by walk_at "bd"):=0
namespace Za
end Za
open Za renaming _auto_1->Zb,_auto_2->Zc,_auto_3->Zd,_auto_4->Ze,_auto_5->Zf,_auto_6->Zg,_auto_7->Zh,_auto_8->Zi,_auto_9->Zj,_auto_10->Zk,_auto_11->Zl,_auto_12->Zm,_auto_13->Zn,_auto_14->Zo
local macro_rules|`($t<|$z:ident)=>if [`Zb,`Zc,`Zd,`Ze,`Zf,`Zg,`Zh,`Zi,`Zj,`Zk,`Zl,`Zm,`Zn,`Zo].contains z.getId then `(autoParam $t $z)else Lean.Macro.throwUnsupported
namespace L2
open List
open PySem PySem.Spec PyProof.Rows
nonrec def Key:=Sum Int Str
abbrev CY:Key->Value->Bool
 |.inl k,v=>Value.isInt k v
 |.inr x,v=>Value.isStrOf x v
abbrev HB(w:World):Key->Int
 |.inl k=>hashInt k
 |.inr x=>hashStr w x
def mv:∀{k:Key} {v:Value},CY k v=ac->(∃i t,k=lO i/\v=Value.int i t)\/(∃x t,k=Sum.inr x/\v=Value.str x t)
 |.inl i,v,h=>by
  have(t,e):=Value.isInt_shape h
  show .inl (i,t,rfl,e)
 |.inr x,v,h=>by
  have(t,e):=Value.isStrOf_shape h;show .inr (x,t,rfl,e)
def yB(a b:Int):decide ((lO a:Key)=lO b)=(a==b):=by grind
def HC(a b:Str):decide ((Sum.inr a:Key)=Sum.inr b)=decide (a=b):=by grind
def CZ(a:Int)(b:Str):decide ((lO a:Key)=Sum.inr b)=ah:=decide_eq_false (λq=>nomatch q)
def C0(a:Str)(b:Int):decide ((Sum.inr a:Key)=lO b)=ah:=decide_eq_false (λq=>nomatch q)
abbrev HD(prog:cP)(w:World):PySem.KeyKind prog w Key where
 is:=CY
 hash:=HB w
 inj:=λv a b ha hb=>by
  rcases mv ha with⟨i,t,rfl,rfl⟩ |⟨x,t,rfl,rfl⟩
  .rcases mv hb with⟨X6,u,rfl,e⟩ |⟨y,u,rfl,e⟩
   .injection e with e1 _;rw[e1]
   .show nomatch e
  .rcases mv hb with⟨X6,u,rfl,e⟩ |⟨y,u,rfl,e⟩
   .show nomatch e
   .injection e with e1 _;rw[e1]
 byValue:=λk v h=>by
  rcases mv h with⟨i,t,rfl,rfl⟩ |⟨x,t,rfl,rfl⟩ <;> rfl
 pyHash:=λhv h=>by
  rcases mv hv with⟨i,t,rfl,rfl⟩ |⟨x,t,rfl,rfl⟩
  .show wpAny_pyHash_int h
  .show wpAny_pyHash_str h
 eqBool:=λhu hv h=>by
  rcases mv hu with⟨i,t,rfl,rfl⟩ |⟨x,t,rfl,rfl⟩
  .rcases mv hv with⟨X6,u,rfl,rfl⟩ |⟨y,u,rfl,rfl⟩
   .rw[yB]at h;show wpAny_eqBool_int h
   .rw[CZ]at h;show CQ i t y u _ _ _ _ h
  .rcases mv hv with⟨X6,u,rfl,rfl⟩ |⟨y,u,rfl,rfl⟩
   .rw[C0]at h;show CS x t X6 u _ _ _ _ h
   .rw[HC]at h;show wpAny_eqBool_str h
 «strs»:=λk x t v h=>by
  rcases mv h with⟨i,u,rfl,e⟩ |⟨y,u,rfl,e⟩
  .show nomatch e
  .injection e with e1 _
   subst e1
   cases v <;> rfl
inductive V where
 |non |bl (b:Bool) |int (i:Int) |str (x:Str) |byt (b:Array UInt8) |flt (b:UInt64) |ref (a:Addr) |ty (n:String) |tx (x:Str) (n:Nat)
 deriving DecidableEq
nonrec abbrev Z2:=List V
abbrev V.ntx:V->Bool
 |.tx _ _=>ah
 | _=>ac
abbrev bc:V->Value->Prop
 |.non,u=>u=Value.none
 |.bl b,u=>u=lJ b
 |.int i,u=>∃t,u=Value.int i t
 |.str x,u=>∃t,u=Value.str x t
 |.byt b,u=>∃t,u=Value.bytes b t
 |.flt b,u=>∃t,u=Value.float b t
 |.ref a,u=>u=gt a
 |.ty n,u=>u=Value.type n
 |.tx x n,u=>∃t,u=Value.str x t/\t≠0/\t<n
nonrec abbrev aQ:Z2->Z5->Prop:=Paired bc
variable{B:Z2}{us:Z5}
def aQ.length(r:aQ B us):B.length=us.length:=Paired.length r
def aQ.get:∀{B:Z2} {us:Z5} {i:Nat} {x:V},aQ B us->B[i]?=aa x->∃u,us[i]?=aa u/\bc x u
 | _,_,_,_,.nil,e=>by simp at e
 | _,_,0,_,.cons r _,e=>by simp at e;subst e;show(_,rfl,r)
 | _,_,i+1,x,.cons _ t,e=>by
  have(u,a,b):=aQ.get t (by simpa using e);show(u,by simpa using a,b)
def aQ.set{x:V}{u:Value}(r:bc x u):∀{B:Z2} {us:Z5} (i:Nat),aQ B us->aQ (B.set i x) (us.set i u)
 | _,_,_,.nil=>.nil
 | _,_,0,.cons _ t=>.cons r t
 | _,_,i+1,.cons q t=>.cons q (aQ.set r i t)
def aQ.append:∀{B a:Z2} {us ws:Z5},aQ B us->aQ a ws->aQ (B++a) (us++ws)
 | _,_,_,_,.nil,s=>s
 | _,_,_,_,.cons r t,s=>.cons r (aQ.append t s)
def aQ.take:∀{B:Z2} {us:Z5} (n:Nat),aQ B us->aQ (B.take n) (us.take n)
 | _,_,0,_=>.nil
 | _,_,_+1,.nil=>.nil
 | _,_,n+1,.cons r t=>.cons r (aQ.take n t)
def aQ.drop:∀{B:Z2} {us:Z5} (n:Nat),aQ B us->aQ (B.drop n) (us.drop n)
 | _,_,0,r=>r
 | _,_,_+1,.nil=>.nil
 | _,_,n+1,.cons _ t=>aQ.drop n t
abbrev mw:Option V->Option Value->Prop
 |some v,aa u=>bc v u
 |none,ae=>True
 | _,_=>False
abbrev KV{a:Type}:List (a×V)->List (a×Value)->Prop:=Paired λ(p:a×V) (q:a×Value)=>p.1=q.1/\bc p.2 q.2
abbrev kV:Key->V
 |.inl i=>.int i
 |.inr x=>.str x
abbrev kR:Key->V->Prop
 |.inl i,v=>v=.int i\/∃b:Bool,v=.bl b/\i=cond b 1 0
 |.inr x,v=>v=.str x
abbrev C3:Key->Value->Bool
 |.inl k,.bool b=>decide (k=cond b 1 0)
 |k,v=>CY k v
def qh{k:Key}{v:Value}(h:C3 k v=ac):(∃i t,k=.inl i/\v=.int i t)\/(∃b:Bool,k=.inl (cond b 1 0)/\v=.bool b)\/(∃x t,k=.inr x/\v=.str x t):=by
 unfold C3 at h;split at h
 .rename_i a b;show .inr (.inl (b,by rw[of_decide_eq_true h],rfl))
 .rcases mv h with q |q
  .show .inl q
  .show .inr (.inr q)
def Ow(a b:Bool):decide ((lO (cond a 1 0):Key)=lO (cond b 1 0))=(a==b):=by cases a <;> cases b <;> decide
def Ox(a:Bool)(X6:Int):decide ((lO (cond a 1 0):Key)=lO X6)=((if a then 1 else 0)==X6):=by rw[yB];cases a <;> rfl
def Oy(X6:Int)(a:Bool):decide ((lO X6:Key)=lO (cond a 1 0))=(X6==(if a then 1 else 0)):=by rw[yB];cases a <;> rfl
variable{prog:cP}{w:World}{A:cq}{X2:Z9}
def Oz{s:ak}{b:Bool}{Q:Int->ak->Prop}(h:Q (hashInt (cond b 1 0)) {s with toks:=s.toks+1}):wpAny (model prog w) A (pyHash (.bool b)) Q X2 s:=by
 show W.pyHash_slot (T:="bool") rfl PySem.F.slot_bool_hash PySem.entry_int_hash (PySem.args_int_hash _) (beq_builtin_none _) (.inl rfl) ?_;cases b
 .show(show wpAny _ _ (do ret (<- mkInt 0)) _ _ s from cX (wpAny_mkInt (dZ (_,_,rfl,h))))
 .show(show wpAny _ _ (do ret (<- mkInt 1)) _ _ s from cX (wpAny_mkInt (dZ (_,_,rfl,h))))
abbrev OA(prog:cP)(w:World):PySem.KeyKind prog w Key where
 is:=C3
 hash:=HB w
 inj:=λv a b ha hb=>by
  rcases qh ha with⟨i,t,rfl,rfl⟩ |⟨c,rfl,rfl⟩ |⟨x,t,rfl,rfl⟩ <;> rcases qh hb with⟨X6,u,rfl,e⟩ |⟨d,rfl,e⟩ |⟨y,u,rfl,e⟩ <;> cases e <;> rfl
 byValue:=λk v h=>by
  rcases qh h with⟨i,t,rfl,rfl⟩ |⟨c,rfl,rfl⟩ |⟨x,t,rfl,rfl⟩ <;> rfl
 pyHash:=λhv h=>by
  rcases qh hv with⟨i,t,rfl,rfl⟩ |⟨c,rfl,rfl⟩ |⟨x,t,rfl,rfl⟩
  .show wpAny_pyHash_int h
  .show Oz h
  .show wpAny_pyHash_str h
 eqBool:=λhu hv h=>by
  rcases qh hu with⟨i,t,rfl,rfl⟩ |⟨c,rfl,rfl⟩ |⟨x,t,rfl,rfl⟩ <;> rcases qh hv with⟨X6,u,rfl,rfl⟩ |⟨d,rfl,rfl⟩ |⟨y,u,rfl,rfl⟩
  .rw[yB]at h;show dS.int_int _ _ _ _ _ _ _ _ h
  .rw[Oy]at h;show dS.int_bool _ _ _ _ _ _ _ h
  .rw[CZ]at h;show CQ _ _ _ _ _ _ _ _ h
  .rw[Ox]at h;show dS.bool_int _ _ _ _ _ _ _ h
  .rw[Ow]at h;show dS.bool_bool _ _ _ _ _ _ h
  .rw[CZ]at h;show dS.bool_str _ _ _ _ _ _ _ h
  .rw[C0]at h;show CS _ _ _ _ _ _ _ _ h
  .rw[C0]at h;show dS.str_bool _ _ _ _ _ _ _ h
  .rw[HC]at h;show wpAny_eqBool_str h
 «strs»:=λk x t v h=>by
  rcases qh h with⟨i,u,rfl,e⟩ |⟨c,rfl,e⟩ |⟨y,u,rfl,e⟩
  .show nomatch e
  .show nomatch e
  .injection e with e1 _
   subst e1
   cases v <;> rfl
nonrec abbrev KRs:List Key->Z2->Prop:=Paired kR
inductive HO where
 |lst (B:Z2)
 |tup (B:Z2)
 |dK (kvs:List (Key×V)) |dT (kvs:List (List Key×V))
 |set (S:Int->Bool) (n:Nat)
 |ins (X4 dx:Addr) (fs:List (Str×V))
 |own (x:Addr)
 |xd (fs:List (Str×V))
 |met (f x:Addr)
 |rng (lo hi:Int)
 |frz (o:Obj) (u:HO)
 |tbl (ps:Array Value)
 |ext (φ:Heap->Prop)
nonrec def Hp:=Addr->Option HO
def sF(H:Hp)(b:Addr)(k:List Key):Prop:=∃C,H b=aa (.tup C)/\KRs k C
variable{H H':Hp}{b:Addr}
def sF.up{k:List Key}(h:sF H b k)(a:∀b B,H b=aa (.tup B)->H' b=aa (.tup B)):sF H' b k:=let (C,e,q):=h;(C,a _ _ e,q)
def upd(H:Hp)(a:Addr)(o:HO):Hp:=λb=>if b=a then aa o else H b
variable{a:Addr}{o:HO}
def ca:upd H a o a=aa o:=by unfold upd;rw[if_pos rfl]
def bJ(h:b≠a):upd H a o b=H b:=by unfold upd;rw[if_neg h]
def ic(h:H a=aa o)(h':H b=ae):a≠b:=by
 intro e;subst e;rw[h]at h';cases h'
section
variable(P:cP)(w:World)
abbrev iZ(H:Hp)(h:Heap)(a:Addr):HO->Prop
 |.lst B=>B.length<=be/\∃(its:Z5) (n:Nat),aQ B its/\h.get? a=aa {cls:=.type "list",data:=.seq its.toArray n}
 |.tup B=>B.length<=be/\∃its:Z5,aQ B its/\IsTup h a its.toArray
 |.dK kvs=>kvs.length<=be/\(a==sysModules)=ah/\∃C,KV kvs C/\h.DictOf (HD P w) a C
 |.dT kvs=>kvs.length<=be/\(a==sysModules)=ah/\∃B:List (List Key×Addr×Value),
   Paired (λ(p:List Key×V) (q:List Key×Addr×Value)=>p.1=q.1/\sF H q.2.1 p.1/\bc p.2 q.2.2) kvs B /\
   ∃o es d,h.get? a=aa o/\o.ExactDict/\o.data=.dict es d/\es.toList=B.map (entryOfKey (tupleKind (OA P w)))/\(B.map (·.1)).Nodup
 |.set S n=>h.SetOf (intKind P w) a S n
 |.ins X4 dx fs=>H dx=aa (.own a)/\fs.length<=1000/\dx≠a/\h.get? a=aa (oS X4 dx) /\
   ∃mA,h.Ns1 dx mA/\(∀f,mw (fs.lookup f) (mA f))/\PySem.Within mA (fs.map (·.1))
 |.own _=>∃o,h.get? a=aa o
 |.xd fs=>∃mA,h.Ns1 a mA/\∀f,mw (fs.lookup f) (mA f)
 |.rng lo hi=>∃t u v,h.get? a=aa {cls:=.type "range",data:=.fields #[.int lo t,.int hi u,.int 1 v]}
 |.frz o u=>h.get? a=aa o/\iZ H h a u
 |.tbl ps=>h.get? a=aa {cls:=.none,data:=.fields ps}
 |.met f x=>h.get? a=aa (W.methodObj (.ref f) (.ref x))
 |.ext φ=>φ h/\(∃o,h.get? a=aa o)/\∀b c:Heap,φ b->(∀o,b.get? a=aa o->c.get? a=aa o)->φ c
def HOk(H:Hp)(h:Heap):Prop:=∀a o,H a=aa o->iZ P w H h a o
end
variable{P:cP}{h:Heap}
def iZ.lt(x:iZ P w H h a o):a<h.objs.size:=by
 cases o with
 |lst B=>have(_,_,_,_,e):=x;show cF e
 |tup B=>have(_,_,_,p):=x;show p.lt
 |dK kvs=>have(_,_,_,_,o,_,_,e,_):=x;show cF e
 |dT kvs=>have(_,_,_,_,o,_,_,e,_):=x;show cF e
 |set S n=>have(o,_,_,_,e,_):=x;show cF e
 |ins X4 dx fs=>have(_,_,_,e,_):=x;show cF e
 |own y=>have(_,e):=x;show cF e
 |xd fs=>have(_,(_,_,_,e,_),_):=x;show cF e
 |rng lo hi=>have(_,_,_,e):=x;show cF e
 |frz b u=>have(e,_):=x;show cF e
 |tbl ps=>show cF (x)
 |met f y=>show cF (x)
 |ext φ=>have(_,(_,e),_):=x;show cF e
def Paired.mapP{e g:Type}{F G:e->g->Prop}:∀{c:List e} {d:List g},Paired F c d->(∀a b,F a b->G a b)->Paired G c d
 | _,_,.nil,_=>.nil
 | _,_,.cons r t,f=>.cons (f _ _ r) (Paired.mapP t f)
variable{h':Heap}
def iZ.stay(x:iZ P w H h a o)(k:∀b u,(b=a\/H b=aa (.own a))->h.get? b=aa u->h'.get? b=aa u)
 (l:∀b,H b=aa (.own a)->H' b=aa (.own a))(m:∀b B,H b=aa (.tup B)->H' b=aa (.tup B)):iZ P w H' h' a o:=by
 induction o with
 |lst B=>have(z,its,n,r,e):=x;show(z,its,n,r,k _ _ (.inl rfl) e)
 |tup B=>have(z,its,r,g,e,c):=x;show(z,its,r,g,k _ _ (.inl rfl) e,c)
 |dK kvs=>have(z,y,C,r,g,es,i,e,c):=x;show(z,y,C,r,g,es,i,k _ _ (.inl rfl) e,c)
 |dT kvs=>
  have(z,y,B,r,g,es,i,e,c):=x
  show(z,y,B,Paired.mapP r λp q z=>(z.1,z.2.1.up m,z.2.2),g,es,i,k _ _ (.inl rfl) e,c)
 |set S n=>have(g,es,i,t,e,c):=x;show(g,es,i,t,k _ _ (.inl rfl) e,c)
 |ins X4 dx fs=>
  have(d,z,ne,e,mA,(od,es,i,j,c),r):=x
  show(l _ d,z,ne,k _ _ (.inl rfl) e,mA,(od,es,i,k _ _ (.inr d) j,c),r)
 |own y=>have(g,e):=x;show(g,k _ _ (.inl rfl) e)
 |xd fs=>have(mA,(od,es,i,e,c),r):=x;show(mA,(od,es,i,k _ _ (.inl rfl) e,c),r)
 |rng lo hi=>have(t,u,v,e):=x;show(t,u,v,k _ _ (.inl rfl) e)
 |frz g u A=>have(e,q):=x;show(k _ _ (.inl rfl) e,A q)
 |tbl ps=>
  have e:=x
  show k a _ (.inl rfl) e
 |met f y=>
  have e:=x
  show k a _ (.inl rfl) e
 |ext φ=>have(p,(o,e),st):=x;show(st _ _ p λo q=>k _ _ (.inl rfl) q,(o,k _ _ (.inl rfl) e),st)
def HOk.lt(x:HOk P w H h)(e:H a=aa o):a<h.objs.size:=(x a o e).lt
def HOk.fresh(x:HOk P w H h)(e:h.objs.size<=a):H a=ae:=by
 cases q:H a with
 |none=>rfl
 |some u=>show absurd (dY (x.lt q) e) (mf _)
def HOk.kept(x:HOk P w H h)(k:∀b u,h.get? b=aa u->h'.get? b=aa u):HOk P w H h':=λa o e=>
 (x a o e).stay (λb u _ q=>k b u q) (λ_ q=>q) λ_ _ q=>q
def HOk.laid(x:HOk P w H h)(k:∀b u,h.get? b=aa u->h'.get? b=aa u)(hp:h.objs.size<=a)(new:iZ P w (upd H a o) h' a o):HOk P w (upd H a o) h':=λb u e=>by
 have hn:=x.fresh hp
 by_cases d:b=a
 .subst d;rw[ca]at e;cases e;show new
 .rw[bJ d]at e;show(x b u e).stay (λc v _ q=>k c v q) (λc q=>by rw[bJ (ic q hn)];show q) λc B q=>by rw[bJ (ic q hn)];show q
def Rd(H:Hp)(a:Addr)(u:HO):Prop:=H a=aa u\/∃o,H a=aa (.frz o u)
variable{u:HO}
def Rd.of(h:H a=aa u):Rd H a u:=.inl h
def Rd.ok(r:Rd H a u)(x:HOk P w H h):iZ P w H h a u:=by
 rcases r with r |⟨o,r⟩
 .show x a u r
 .have(_,q):=x a _ r;show q
abbrev Mut:Option HO->Prop
 |some (.lst _)=>True
 |some (.dK _)=>True
 |some (.dT _)=>True
 |some (.set _ _)=>True
 |some (.ins _ _ _)=>True
 |some (.ext _)=>True
 | _=>False
variable{x e:Addr}{o':HO}
def HOk.write(ok:HOk P w H h)(f:Mut (H x))(o:e=x\/H e=aa (.own x))(k:∀b u,b≠e->h.get? b=aa u->h'.get? b=aa u)(i:∃u,h'.get? e=aa u)
 (new:iZ P w (upd H x o') h' x o'):HOk P w (upd H x o') h':=λb u q=>by
 have a:∀c y,H c=aa (.own y)->c≠x:=λc y r z=>by subst z;rw[r]at f;show f
 have d:∀c B,H c=aa (.tup B)->c≠x:=λc B r z=>by subst z;rw[r]at f;show f
 by_cases j:b=x
 .subst j;rw[ca]at q;grind
 .rw[bJ j]at q
  by_cases g:b=e
  .have l:H b=aa (.own x):=by
    grind
   rw[q]at l;cases l;have(v,m):=i;show(v,by rw[g];show m)
  .show(ok b u q).stay (λc v n r=>k c v ?_ r) (λc r=>by rw[bJ (a c b r)];show r) λc B r=>by rw[bJ (d c B r)];show r
   grind
structure Un(fs ex:Z7)(H H':Hp)(h h':Heap):Prop where
 keep:∀b o,h.get? b=aa o->H b=ae->b∉fs->b∉ex->h'.get? b=aa o
 slot:∀b o,h.get? b=aa o->H b=ae->b∈fs->b∉ex->∃sl,h'.get? b=aa {o with slots:=sl}
 free:∀b o,h.get? b=aa o->H b=ae->b∉ex->H' b=ae
 there:∀b o,h.get? b=aa o->b∉ex->∃o',h'.get? b=aa o'
 tups:∀b B,H b=aa (.tup B)->H' b=aa (.tup B)
 frzs:∀b o u,H b=aa (.frz o u)->H' b=aa (.frz o u)
 tbls:∀b ps,H b=aa (.tbl ps)->∃more,H' b=aa (.tbl (ps++more))
variable{ex:Z7}{H1:Hp}{h1:Heap}
def Un.any{fs:Z7}(u:Un fs ex H H1 h h1){a:Obj}(q:h.get? b=aa a)(n:H b=ae)(hx:b∉ex):∃sl,h1.get? b=aa {a with slots:=sl}:=by
 by_cases c:b∈fs
 .show u.slot b a q n c hx
 .show(a.slots,u.keep b a q n c hx)
variable{H2:Hp}{h2:Heap}
def Un.trans{fs:Z7}(a:Un fs ex H H1 h h1)(b:Un fs ex H1 H2 h1 h2):Un fs ex H H2 h h2 where
 keep:=λc ob q n hc hx=>b.keep c ob (a.keep c ob q n hc hx) (a.free c ob q n hx) hc hx
 slot:=λc ob q n hc hx=>by
  have(sl,e1):=a.slot c ob q n hc hx;have(sl',e2):=b.slot c _ e1 (a.free c ob q n hx) hc hx;show(sl',e2)
 free:=λc ob q n hx=>by
  have(o',e1):=a.there c ob q hx;show b.free c o' e1 (a.free c ob q n hx) hx
 there:=λc ob q hx=>by
  have(o',e1):=a.there c ob q hx;show b.there c o' e1 hx
 tups:=λc B q=>b.tups c B (a.tups c B q)
 frzs:=λc ob B q=>b.frzs c ob B (a.frzs c ob B q)
 tbls:=λc ps q=>by
  have(m1,e1):=a.tbls c ps q;have(m2,e2):=b.tbls c _ e1;show(m1++m2,by rw[e2,Array.append_assoc])
def Un.kept{fs:Z7}(k:∀b u,h.get? b=aa u->h'.get? b=aa u):Un fs ex H H h h':=
 (λb a q _ _ _=>k b a q,λb a q _ _ _=>(a.slots,k b a q),λ_ _ _ n _=>n,λb a q _=>(a,k b a q),λ_ _ q=>q,λ_ _ _ q=>q,λ_ ps q=>(#[],by rw[q];simp))
def Un.refl{fs:Z7}:Un fs ex H H h h:=Un.kept λ_ _ q=>q
def Un.laid{fs:Z7}(k:∀b u,h.get? b=aa u->h'.get? b=aa u)(hp:h.objs.size<=a)(hn:H a=ae):Un fs ex H (upd H a o) h h' where
 keep:=λb u q _ _ _=>k b u q
 slot:=λb u q _ _ _=>(u.slots,k b u q)
 free:=λb u q n _=>by rw[bJ (dw (dY (cF q) hp))];show n
 there:=λb u q _=>(u,k b u q)
 tups:=λb B q=>by rw[bJ (ic q hn)];show q
 frzs:=λb u B q=>by rw[bJ (ic q hn)];show q
 tbls:=λb ps q=>(#[],by rw[bJ (ic q hn),q];simp)
def Un.write{fs:Z7}(a:Mut (H x))(f:e=x\/H e=aa (.own x))(k:∀b u,b≠e->h.get? b=aa u->h'.get? b=aa u)(d:∃u,h'.get? e=aa u):Un fs ex H (upd H x o) h h':=by
 have hx:∀b,H b=ae->b≠x:=λb n z=>by subst z;rw[n]at a;show a
 have c:∀b,H b=ae->b≠e:=λb n z=>by
  grind
 have hm:∀b u,H b=aa u->¬Mut (aa u)->b≠x:=λb u q nm z=>by subst z;rw[q]at a;show nm a
 show(λb u q n _ _=>k b u (c b n) q,λb u q n _ _=>(u.slots,k b u (c b n) q),λb u q n _=>by rw[bJ (hx b n)];show n,λb u q _=>?_,
  λb B q=>by rw[bJ (hm b _ q λz=>z)];show q,λb u B q=>by rw[bJ (hm b _ q λz=>z)];show q,λb ps q=>(#[],by rw[bJ (hm b _ q λz=>z),q];simp))
 grind
def trk(h:Heap)(H:Hp):Z7:=(eQ h.objs.size).filter λa=>(H a).isSome
def sG(h:Heap)(H:Hp):Heap:=sE h (trk h H)
def OB(h:Heap)(H:Hp):(sG h H).objs.size=h.objs.size:=W.hideAll_size _ _
variable{o:Obj}
def OC(e:h.get? b=aa o)(n:H b=ae):(sG h H).get? b=aa o:=
 u9 _ e λhm=>by
  have q:=(mem_filter.mp hm).2
  grind
def OE(e:(sG h H).get? b=aa o):h.get? b=aa o/\H b=ae:=by
 have a:=W.of_hideAll _ e;show(a,?_)
 cases q:H b with
 |none=>rfl
 |some x=>
  have hm:b∈trk h H:=mem_filter.mpr (kC.mpr (cF a),by simp[q]);have z:(sG h H).get? b=ae:=sB _ hm
  grind
def OF(g h:Heap)(X3:Addr):Z8:=(eQ h.objs.size).filterMap λa=>if a=X3\/(g.get? a).isSome=ac then ae else (h.get? a).map λo=>(a,o,)
def rest(g h:Heap)(X3 d:Addr):Z8:=(OF g h X3).filter λp=>decide (p.1≠d)
structure Mod(K:bf)(mg:Zp)(base:Heap):Prop where
 kin:K.In base
 glob:base.Ns cC mg
 blt:∃mb,base.Ns builtinsNs mb/\∀x:Str,x ≠ "__name__" -> mb x=kH x
 nolimit:base.NoLimit
set_option genInjectivity false in
structure Cx where
 prog:cP
 w:World
 K:bf
 mg:Str->Option Value
 base:Heap
 A:cq
 N:Z1
 s₀:ak
 H₀:Hp
 env:Env
 outer:List Env
 stack:List Env
 ex:Z7
 fn:Str->Bool
 calm:Bool
 pn:Z8
 xe:Value->ak->Prop
nonrec abbrev NDb(x:Str):=(x==("__debug__":Str))=ah
nonrec abbrev NCd(x:Str):=(x==("__classdict__":Str))=ah
nonrec abbrev StE(X:Cx)(e:Expr)(es:Zq):=ba (e::es) X.env=(ah,eval e X.env,)::ba es X.env
nonrec abbrev BkE(X:Cx)(pos:Pos)(es:Zq):=(cD pos (ba es X.env)).any (·.1)=ah
nonrec abbrev LcF(X:Cx)(x:Str):=X.fn x=ac\/X.env.scope.names.lookup x=aa .local
def frs(l:List Env):Z7:=l.filterMap (·.frame)
nonrec def Cx.fs(X:Cx):Z7:=frs X.outer
def Vis(sc:Scope)(x:Str):Prop:=sc.names.lookup x=aa .local\/sc.names.lookup x=aa .cell\/sc.names.lookup x=aa .free
def Loc(sc:Scope)(x:Str):Prop:=sc.names.lookup x=aa .local\/sc.names.lookup x=aa .cell
def OG(env:Env)(h:Heap)(m:Zp)(x:Str)(u:Value):Prop:=
 (env.kindOf x=aa .local/\m x=aa u)\/((env.kindOf x=aa .cell\/env.kindOf x=aa .free)/\∃c,env.cells.lookup x=aa c/\h.IsCell c (aa u))
structure Cx.Ok(X:Cx):Prop where
 mod:Mod X.K X.mg X.base
 kind:X.env.scope.kind=.function
 glob:X.env.globals=cC
 blt:X.env.builtins=builtinsNs
 above:X.s₀.heap.objs.size<=X.env.locals
 inj:∀x y c,X.env.cells.lookup x=aa c->X.env.cells.lookup y=aa c->x=y
 has:∀x,(X.env.kindOf x=aa .cell\/X.env.kindOf x=aa .free)->∃c,X.env.cells.lookup x=aa c
 cab:∀x c,X.fn x=ac->X.env.cells.lookup x=aa c->X.s₀.heap.objs.size<=c
 hd:X.calm=ac->X.A.handled=ae
 frames:X.A.frames=aa X.stack
 stk:X.stack=X.outer\/(X.stack=X.env::X.outer/\X.env.frame=aa X.env.locals)
 exf:∀b∈X.ex,b≠X.env.locals/\∀x c,X.env.cells.lookup x=aa c->c≠b
 bs:∀b o,X.base.get? b=aa o->X.s₀.heap.get? b=aa o/\X.H₀ b=ae
 bsz:X.base.objs.size<=X.s₀.heap.objs.size
 noex:∀b o,X.base.get? b=aa o->b∉X.ex
 exfs:∀b∈X.ex,b∉X.fs
 funs:X.s₀.heap.FunFrames X.base X.outer
 frf:∀b∈X.fs,X.H₀ b=ae
structure Inv(X:Cx)(M:Z8)(J:List (Option V))(H:Hp)(s:ak):Prop where
 ok:X.Ok
 os:s.os=X.s₀.os
 bare:mh s.gens
 base:Un X.fs X.ex X.H₀ H X.s₀.heap s.heap
 loc:∃m,s.heap.Ns X.env.locals m/\∀(i:Nat) (x:Str) (v:V),X.N[i]?=aa x->J[i]?=aa (aa v)->Vis X.env.scope x->∃u,bc v u/\OG X.env s.heap m x u
 cell:∀x c,X.env.cells.lookup x=aa c->∃v,s.heap.IsCell c v
 free:H X.env.locals=ae
 freeC:∀x c,X.env.cells.lookup x=aa c->H c=ae
 pin:∀p∈X.pn++M,s.heap.get? p.1=aa p.2/\H p.1=ae/\p.1≠X.env.locals/\p.1∉X.fs/\∀v,p.2.data≠.cell v
 hok:HOk X.prog X.w H s.heap
 len:J.length=X.N.length
variable{X:Cx}
def Cx.Ok.nofr(ok:X.Ok)(e:X.base.get? b=aa o):b∉X.fs:=λa=>by
 have:=(ok.funs.mem a).1
 grind
variable{M:Z8}{J:List (Option V)}
def Inv.bs{s:ak}(I:Inv X M J H s):∀b o,X.base.get? b=aa o->s.heap.get? b=aa o/\H b=ae:=λb o e=>
 (I.base.keep b o (I.ok.bs b o e).1 (I.ok.bs b o e).2 (I.ok.nofr e) (I.ok.noex b o e),I.base.free b o (I.ok.bs b o e).1 (I.ok.bs b o e).2 (I.ok.noex b o e))
def Inv.bk{s:ak}(I:Inv X M J H s):∀b o,X.base.get? b=aa o->s.heap.get? b=aa o:=λb o e=>(I.bs b o e).1
def Inv.mod{s:ak}(I:Inv X M J H s):Mod X.K X.mg X.base:=I.ok.mod
def Inv.kIn{s:ak}(I:Inv X M J H s):X.K.In s.heap:=I.ok.mod.kin.keeps I.bk
def Inv.lt{s:ak}(I:Inv X M J H s):X.env.locals<s.heap.objs.size:=let (_,hn,_):=I.loc;hn.lt
def Inv.sz{s:ak}(I:Inv X M J H s):X.s₀.heap.objs.size<=s.heap.objs.size:=cf I.ok.above (oH I.lt)
def Inv.nofs{s:ak}(I:Inv X M J H s)(h:s.heap.objs.size<=a):a∉X.fs:=λb=>by
 have(_,o,c,_):=I.ok.funs.mem b;show absurd (dY (cF c) (cf I.sz h)) (mf _)
def Inv.cne{s:ak}(I:Inv X M J H s):∀x c,X.env.cells.lookup x=aa c->c≠X.env.locals:=λx c e z=>by
 have(v,o,f,hd):=I.cell x c e;have(m,(o',es,d,b,a,_),_):=I.loc
 grind
def Inv.funs{s:ak}(I:Inv X M J H s):s.heap.FunFrames X.base X.outer:=by
 have all:∀l,(∀b∈frs l,b∈X.fs)->X.s₀.heap.FunFrames X.base l->s.heap.FunFrames X.base l:=by
  intro l
  induction l with
  |nil=>intro _ _;trivial
  |cons env r m=>
   intro f h;have(g,(X3,o,d,hn,i,hd),j):=h;have a:=f X3 (by unfold frs;rw[uQ,d];show bi);have(sl,e):=I.base.slot X3 o i (I.ok.frf X3 a) a λz=>I.ok.exfs X3 z a;show(g,(X3,_,d,hn,e,hd),m (λb c=>f b (by unfold frs;rw[uQ,d];show bx _ c)) j)
 show all X.outer (λ_ c=>c) I.ok.funs
def Inv.stack{s:ak}(I:Inv X M J H s):s.heap.FunFrames X.base X.stack:=by
 rcases I.ok.stk with e |⟨e,hf⟩
 .rw[e];show I.funs
 .rw[e];have(m,hn,_):=I.loc;show .cons (by rw[I.ok.kind];decide) hf hn (Heap.get?_none_of_le (cf I.ok.bsz I.ok.above)) I.funs
def Inv.stkSub{s:ak}(I:Inv X M J H s):∀b∈frs X.stack,b∈X.env.locals::X.fs:=λb a=>by
 rcases I.ok.stk with e |⟨e,hf⟩
 .rw[e]at a;show bx _ a
 .rw[e]at a;unfold frs at a;rw[uQ,hf]at a;show a
def Inv.stkFree{s:ak}(I:Inv X M J H s):∀b∈frs X.stack,H b=ae:=λb a=>by
 rcases bw.mp (I.stkSub b a)with e |a
 .rw[e];show I.free
 .have(_,o,c,_):=I.ok.funs.mem a;show I.base.free b o c (I.ok.frf b a) λz=>I.ok.exfs b z a
variable{g':Array GenState}{t':Nat}{d':Drawn}{ch:Z7}
section
variable{s:ak}
def Inv.step(I:Inv X M J H s)
 (f:∀b∈ch,(b∈X.ex\/X.s₀.heap.objs.size<=b)/\b≠X.env.locals/\(∀x c,X.env.cells.lookup x=aa c->c≠b)/\∀p∈X.pn++M,p.1≠b)
 (keep:∀b o,b≠X.env.locals->b∉X.fs->b∉ch->s.heap.get? b=aa o->H b=ae->h'.get? b=aa o)
 (slot:∀b o,b≠X.env.locals->b∈X.fs->b∉ch->s.heap.get? b=aa o->H b=ae->∃sl,h'.get? b=aa {o with slots:=sl})(free:∀b o,b∉ch->s.heap.get? b=aa o->H b=ae->H' b=ae)
 (there:∀b o,b∉ch->s.heap.get? b=aa o->∃o',h'.get? b=aa o')
 (tups:∀b B,H b=aa (.tup B)->H' b=aa (.tup B))(frzs:∀b o u,H b=aa (.frz o u)->H' b=aa (.frz o u))(tbls:∀b ps,H b=aa (.tbl ps)->∃more,H' b=aa (.tbl (ps++more)))
 (ns:∀m,s.heap.Ns X.env.locals m->h'.Ns X.env.locals m)(hok:HOk X.prog X.w H' h')(Q:mh g'):
  Inv X M J H' {s with heap:=h',gens:=g',drawn:=d',toks:=t'}:=by
 have C:∀b o,X.s₀.heap.get? b=aa o->b≠X.env.locals:=λb o e=>dw (dY (cF e) I.ok.above)
 have j:∀b o,X.s₀.heap.get? b=aa o->b∉X.ex->b∉ch:=λb o e hx t=>by
  rcases(f b t).1 with z |z
  .show hx z
  .show absurd (dY (cF e) z) (mf _)
 have a:∀x c,X.env.cells.lookup x=aa c->∀v,s.heap.IsCell c v->h'.IsCell c v:=λx c e v U=>by
  have(o,y,hd):=U;have g:=λz=>(f c z).2.2.1 x c e rfl
  by_cases G:c∈X.fs
  .have(sl,q):=slot c o (I.cne x c e) G g y (I.freeC x c e);show(_,q,hd)
  .show(o,keep c o (I.cne x c e) G g y (I.freeC x c e),hd)
 show(I.ok,I.os,Q,(λb o e n t hx=>(keep b o (C b o e) t (j b o e hx) (I.base.keep b o e n t hx) (I.base.free b o e n hx)),λb o e n t hx=>?_,λb o e n hx=>?_,λb o e hx=>?_,λb B e=>tups b B (I.base.tups b B e),λb o B e=>frzs b o B (I.base.frzs b o B e),λb ps e=>?_),?_,λx c e=>?_,?_,λx c e=>?_,λp hp=>?_,hok,I.len)
 .have(sl,h):=I.base.slot b o e n t hx;have(E,A):=slot b _ (C b o e) t (j b o e hx) h (I.base.free b o e n hx);show(E,A)
 .have(o',h):=I.base.there b o e hx;show free b o' (j b o e hx) h (I.base.free b o e n hx)
 .have(o',h):=I.base.there b o e hx;show there b o' (j b o e hx) h
 .have(m1,h):=I.base.tbls b ps e;have(m2,A):=tbls b _ h;show(m1++m2,by rw[A,Array.append_assoc])
 .have(m,hn,T):=I.loc;show(m,ns m hn,λi x v h A N=>?_);have(u,r,l):=T i x v h A N;show(u,r,?_)
  rcases l with l |⟨k,c,e,z⟩
  .show .inl l
  .show .inr (k,c,e,a x c e _ z)
 .have(v,z):=I.cell x c e;show(v,a x c e v z)
 .have(m,(o,_,_,y,_),_):=I.loc;show free _ o (λz=>(f _ z).2.1 rfl) y I.free
 .have(v,o,y,hd):=I.cell x c e;show free c o (λz=>(f c z).2.2.1 x c e rfl) y (I.freeC x c e)
 .have(e,n,ne,L,d):=I.pin p hp;have g:=λz=>(f p.1 z).2.2.2 p hp rfl;show(keep p.1 p.2 ne L g e n,free p.1 p.2 g e n,ne,L,d)
end
section
variable{s:ak}
def Inv.un(I:Inv X M J H s)(u:Un X.fs [] H H' s.heap h')(hok:HOk X.prog X.w H' h'):Inv X M J H' {s with heap:=h',toks:=t'}:=by
 have(m,(o,es,h,f,r),_):=id I.loc;have(sl,g):=u.any f I.free (by simp)
 show I.step (ch:=[]) (λ_ z=>nomatch z) (λb o _ d _ e n=>u.keep b o e n d (by simp)) (λb o _ d _ e n=>u.slot b o e n d (by simp)) (λb o _ e n=>u.free b o e n (by simp)) (λb o _ e=>u.there b o e (by simp)) u.tups u.frzs u.tbls (λi hm=>by
  have(o',es',c,a,r'):=hm;rw[f]at a;cases a;show(_,es',c,g,r')) hok I.bare
end
section
variable{s:ak}
def Inv.call(I:Inv X M J H s)(u:Un (frs X.stack) ch H H' s.heap h')(hok:HOk X.prog X.w H' h')(l:mh g')
 (d:∀b∈ch,(b∈X.ex\/X.s₀.heap.objs.size<=b)/\b≠X.env.locals/\(∀x c,X.env.cells.lookup x=aa c->c≠b)/\∀p∈X.pn++M,p.1≠b):
  Inv X M J H' {s with heap:=h',gens:=g',drawn:=d',toks:=t'}:=by
 have(m,(o,es,q,i,r),_):=id I.loc;have(sl,h):=u.any i I.free λz=>(d _ z).2.1 rfl
 show I.step d (λb o h j a e n=>u.keep b o e n (λz=>(bw.mp (I.stkSub b z)).elim h j) a) (λb o _ _ a e n=>u.any e n a) (λb o a e n=>u.free b o e n a) (λb o a e=>u.there b o e a) u.tups u.frzs u.tbls (λt hm=>by
  have(o',es',g,f,r'):=hm;rw[i]at f;cases f;show(_,es',g,h,r')) hok l
end
variable{it:Addr}
section
variable{s:ak}
def Inv.turned(I:Inv X M J H s)(k:∀b o,b≠it->s.heap.get? b=aa o->h'.get? b=aa o)(hn:H it=ae)(f:it≠X.env.locals)
 (h1:it∈X.ex\/X.s₀.heap.objs.size<=it)(h2:∀x c,X.env.cells.lookup x=aa c->c≠it)(h:∀p∈X.pn++M,p.1≠it):Inv X M J H {s with heap:=h',toks:=t'}:=by
 have d:∀b u,H b=aa u->b≠it:=λb u e z=>by rw[z,hn]at e;nomatch e
 show I.step (ch:=[it]) (λb i=>?_) (λb o _ _ a e _=>k b o (λz=>a (by simp[z])) e) (λb o _ _ a e _=>(o.slots,k b o (λz=>a (by simp[z])) e)) (λ_ _ _ _ n=>n)
  (λb o a e=>(o,k b o (λz=>a (by simp[z])) e)) (λ_ _ e=>e) (λ_ _ _ e=>e) (λb ps e=>(#[],by rw[e];simp)) (λm hm=>?_) (λb u e=>?_) I.bare
 .have e:b=it:=by simpa using i
  subst e;show(h1,f,h2,h)
 .have(o,es,g,j,r):=hm;show(o,es,g,k _ o (iB f) j,r)
 .show(I.hok b u e).stay (λc v a q=>k c v ?_ q) (λ_ q=>q) λ_ _ q=>q
  rcases a with z |z
  .rw[z];show d b u e
  .show d c _ z
end
section
variable{s:ak}
def Inv.tok(I:Inv X M J H s)(t:Nat):Inv X M J H {s with toks:=t}:=I.un Un.refl I.hok
end
section
variable{s:ak}
def Inv.kept(I:Inv X M J H s)(k:∀b u,s.heap.get? b=aa u->h'.get? b=aa u):Inv X M J H {s with heap:=h',toks:=t'}:=I.un (Un.kept k) (I.hok.kept k)
end
section
variable{s:ak}
def Inv.laid{o:HO}(I:Inv X M J H s)(k:∀b u,s.heap.get? b=aa u->h'.get? b=aa u)(hp:s.heap.objs.size<=a)(new:iZ X.prog X.w (upd H a o) h' a o):
  Inv X M J (upd H a o) {s with heap:=h',toks:=t'}:=I.un (Un.laid k hp (I.hok.fresh hp)) (I.hok.laid k hp new)
end
section
variable{s:ak}
def Inv.write{o:HO}(I:Inv X M J H s)(d:Mut (H x))(c:e=x\/H e=aa (.own x))(k:∀b u,b≠e->s.heap.get? b=aa u->h'.get? b=aa u)(a:∃u,h'.get? e=aa u)
 (new:iZ X.prog X.w (upd H x o) h' x o):Inv X M J (upd H x o) {s with heap:=h',toks:=t'}:=I.un (Un.write d c k a) (I.hok.write d c k a new)
end
variable{pins':Z8}
def Inv.pins_of{s:ak}(I:Inv X M J H s)(h:∀p∈pins',s.heap.get? p.1=aa p.2/\H p.1=ae/\p.1≠X.env.locals/\p.1∉X.fs/\∀v,p.2.data≠.cell v):Inv X pins' J H s:=
 (I.ok,I.os,I.bare,I.base,I.loc,I.cell,I.free,I.freeC,λp hp=>(cW.mp hp).elim (λz=>I.pin p (fK _ z)) (h p),I.hok,I.len)
variable{N:Z1}{i:Nat}{x:Str}
def C4(e:N.Nodup){X6:Nat}(a:N[i]?=aa x)(b:N[X6]?=aa x):i=X6:=by
 have(h1,c):=dW.mp a;have(h2,d):=dW.mp b;show(List.getElem_inj e).mp (c.trans d.symm)
variable{X0:Model}{v:V}{u:Value}{Q:Unit->ak->Prop}
section
variable{s:ak}
def C5(I:Inv X M J H s)(hN:X.N.Nodup)(hi:X.N[i]?=aa x)(hx:Loc X.env.scope x)(r:bc v u)
 (h:∀s',Inv X M (J.set i (aa v)) H s'->(∃a,yw a s.heap s'.heap/\(a=X.env.locals\/X.env.cells.lookup x=aa a))->Q () s')(hf:LcF X x<|Zg):wpAny X0 A (storeName X.env x u) Q X2 s:=by
 have(m,hn,hl):=id I.loc;have U:(X.env.scope.kind==.class || (X.env.scope.kind==.module && X.env.locals != X.env.globals))=ah:=by rw[I.ok.kind];rfl
 have B:i<J.length:=by rw[I.len];show(dW.mp hi).1
 have cne:=I.cne
 have j:∀{a:Addr} {h':Heap},(∃o,s.heap.get? a=aa o/\H a=ae)->yw a s.heap h'->HOk X.prog X.w H h':=λ{a h'} ha f b ob e=>by
  have(_,_,hfree):=ha;show(I.hok b ob e).stay (λc w' l q=>(f.2 c ?_).trans q) (λ_ q=>q) λ_ _ q=>q
  grind
 rcases hx with hk |hk
 .show wpAny_storeName_local hk hn (λh' hn' f=>?_) U;have(oL,_,_,hoL,_):=id hn;show h _ (I.ok,I.os,I.bare,(λb o e n C hx=>((f.2 b (dw (dY (cF e) I.ok.above))).trans (I.base.keep b o e n C hx)),λb o e n C hx=>?_,I.base.free,λb o e hx=>?_,I.base.tups,I.base.frzs,I.base.tbls),(_,hn',λX6 y v' g t e3=>?_),λy c e=>?_,I.free,I.freeC,λp hp=>?_,j (oL,hoL,I.free) f,by simpa using I.len) (_,f,.inl rfl)
  .have(sl,g):=I.base.slot b o e n C hx;show(sl,(f.2 b (dw (dY (cF e) I.ok.above))).trans g)
  .have(o',g):=I.base.there b o e hx;show(o',(f.2 b (dw (dY (cF e) I.ok.above))).trans g)
  .by_cases G:X6=i
   .subst G;rw[hi]at g;cases g;rw[jq B]at t;cases t;show(u,r,.inl (hk,by simp))
   .rw[gH (iB G)]at t;have(u',r',q):=hl X6 y v' g t e3;show(u',r',?_)
    rcases q with⟨k,e⟩ |⟨k,c,e,z⟩
    .show .inl (k,?_);have:y≠x:=λe=>G (C4 hN g (e▸hi))
     grind
    .show .inr (k,c,e,z.sameBut f (cne y c e))
  .have(w',z):=I.cell y c e;show(w',z.sameBut f (cne y c e))
  .have(e,n,ne,nf,d):=I.pin p hp;show((f.2 p.1 ne).trans e,n,ne,nf,d)
 .have E:X.fn x=ac:=by
   grind
  have(c,l):=I.ok.has x (.inl hk);have(w',z):=I.cell x c l;show wpAny_storeName_cell I.ok.kind hk l z (λh' L f=>?_);have(oc,Y,hocd):=id z
  show h {s with heap:=h'} (I.ok,I.os,I.bare,(λb o e n C hx=>((f.2 b (dw (dY (cF e) (I.ok.cab x c E l)))).trans (I.base.keep b o e n C hx)),λb o e n C hx=>?_,I.base.free,λb o e hx=>?_,I.base.tups,I.base.frzs,I.base.tbls),(m,hn.sameBut f (iB (cne x c l)),λX6 y v' g t e3=>?_),λy c' e=>?_,I.free,I.freeC,λp hp=>?_,j (oc,Y,I.freeC x c l) f,by simpa using I.len) (c,f,.inr l)
  .have(sl,g):=I.base.slot b o e n C hx;show(sl,(f.2 b (dw (dY (cF e) (I.ok.cab x c E l)))).trans g)
  .have(o',g):=I.base.there b o e hx;show(o',(f.2 b (dw (dY (cF e) (I.ok.cab x c E l)))).trans g)
  .by_cases G:X6=i
   .subst G;rw[hi]at g;cases g;rw[jq B]at t;cases t;show(u,r,.inr (.inl hk,c,l,L))
   .rw[gH (iB G)]at t;have(u',r',q):=hl X6 y v' g t e3;show(u',r',?_)
    rcases q with q |⟨k,c',e,z'⟩
    .show .inl q
    .show .inr (k,c',e,z'.sameBut f ?_);rintro rfl;show G (C4 hN g (I.ok.inj _ _ _ e l▸hi))
  .by_cases T:c'=c
   .subst T;show(_,L)
   .have(w2,z2):=I.cell y c' e;show(w2,z2.sameBut f T)
  .have(e,n,ne,nf,d):=I.pin p hp;show((f.2 p.1 ?_).trans e,n,ne,nf,d);intro q;rw[q,Y]at e;show d w' (by rw[<- (cp e)];show hocd)
end
def sH{s:ak}(I:Inv X M J H s)(b:X.N.Nodup)(hi:X.N[i]?=aa x)(hx:Loc X.env.scope x)(r:bc v u)
 (h:∀s',Inv X M (J.set i (aa v)) H s'->Q () s')(c:LcF X x<|Zg):wpAny X0 A (storeName X.env x u) Q X2 s:=
 C5 I b hi hx r (λs' a _=>h s' a) c
variable{s':ak}
def Inv.call'{s:ak}(I:Inv X M J H s)(e:s'.os=s.os)(u:Un (frs X.stack) ch H H' s.heap s'.heap)(hok:HOk X.prog X.w H' s'.heap)(d:mh s'.gens)
 (a:∀b∈ch,(b∈X.ex\/X.s₀.heap.objs.size<=b)/\b≠X.env.locals/\(∀x c,X.env.cells.lookup x=aa c->c≠b)/\∀p∈X.pn++M,p.1≠b):Inv X M J H' s':=by
 have(h',g',d',t',o'):=s';subst e;show I.call u hok d a
nonrec def XK:=Value->Option Addr->Hp->Prop
nonrec def St:=List (Option V)
nonrec def VK:=V->Hp->Prop
nonrec def TE:=St->Hp->VK->Prop
nonrec def TT:=St->Hp->(Bool->Hp->Prop)->Prop
nonrec def TA:=St->Hp->(Z2->Hp->Prop)->Prop
structure jV where
 nx:St->Hp->Prop
 rt:VK
 bk:St->Hp->Prop:=λ_ _=>False
 ct:St->Hp->Prop:=λ_ _=>False
nonrec def TS:=jV->St->Hp->Prop
def EP(X:Cx)(M:Z8)(J:St)(Q:VK)(u:Value)(s':ak):Prop:=∃v H',Inv X M J H' s'/\bc v u/\Q v H'
def TP(X:Cx)(M:Z8)(J:St)(Q:Bool->Hp->Prop)(b:Bool)(s':ak):Prop:=∃H',Inv X M J H' s'/\Q b H'
def AP(X:Cx)(M:Z8)(J:St)(Q:Z2->Hp->Prop)(us:Z5)(s':ak):Prop:=∃C H',Inv X M J H' s'/\aQ C us/\Q C H'
def SP(X:Cx)(M:Z8)(D:jV)(f:Flow)(s':ak):Prop:=
 match f with
 |.next=>∃σ' H',Inv X M σ' H' s'/\D.nx σ' H'
 |.brk=>∃σ' H',Inv X M σ' H' s'/\D.bk σ' H'
 |.cont=>∃σ' H',Inv X M σ' H' s'/\D.ct σ' H'
 |.ret u=>∃v σ' H',Inv X M σ' H' s'/\bc v u/\D.rt v H'
def PE(X:Cx)(e:Expr)(t:TE):Prop:=
 ∀(M:Z8) (s:ak) (J:St) (H:Hp) (Q:VK),Inv X M J H s->t J H Q->wpAny (model X.prog X.w) X.A (eval e X.env) (EP X M J Q) X.xe s
def PT(X:Cx)(e:Expr)(t:TT):Prop:=
 ∀(M:Z8) (s:ak) (J:St) (H:Hp) (Q:Bool->Hp->Prop),Inv X M J H s->t J H Q->wpAny (model X.prog X.w) X.A (isTrue e X.env (eval e X.env)) (TP X M J Q) X.xe s
def PW(X:Cx)(e:Expr)(t:TT):Prop:=
 ∀(a:Sem Value) (M:Z8) (s:ak) (J:St) (H:Hp) (Q:Bool->Hp->Prop),Inv X M J H s->t J H Q->wpAny (model X.prog X.w) X.A (isTrue e X.env a) (TP X M J Q) X.xe s
variable{e:Expr}
def PW.pt{t:TT}(h:PW X e t):PT X e t:=h _
def PA(X:Cx)(es:Zq)(t:TA):Prop:=
 ∀(pos:Pos) (M:Z8) (s:ak) (J:St) (H:Hp) (Q:Z2->Hp->Prop),Inv X M J H s->t J H Q->wpAny (model X.prog X.w) X.A (spliced (cD pos (ba es X.env))) (AP X M J Q) X.xe s
def PS(X:Cx)(st:Stmt)(t:TS):Prop:=
 ∀(M:Z8) (s:ak) (J:St) (H:Hp) (D:jV),Inv X M J H s->t D J H->wpAny (model X.prog X.w) X.A (exec st X.env) (SP X M D) X.xe s
def PSs(X:Cx)(st:List Stmt)(t:TS):Prop:=
 ∀(M:Z8) (s:ak) (J:St) (H:Hp) (D:jV),Inv X M J H s->t D J H->wpAny (model X.prog X.w) X.A (execs st X.env) (SP X M D) X.xe s
def thn{c:Type}{t:Sem c}{Q b:c->ak->Prop}{s:ak}(h:wpAny X0 A t Q X2 s)(d:∀a s,Q a s->b a s):wpAny X0 A t b X2 s:=d6 h d λ_ _ x=>x
def cb(i:Nat):TE:=λJ H Q=>∃v,J[i]?=aa (aa v)/\Q v H
def tC(v:V):TE:=λ_ H Q=>Q v H
variable{pos:Pos}
def qi(j:X.N[i]?=aa x)(o:Vis X.env.scope x)(hd:NDb x<|Zc)(f:NCd x<|Zc):PE X (.Name x pos) (cb i):=by
 intro M s J H Q I h;have(v,e,h):=h;have(m,hn,n):=I.loc;have(u,r,l):=n i x v j e o;have b:EP X M J Q u s:=(v,H,I,r,h)
 rcases l with⟨d,hm⟩ |⟨d,c,g,a⟩
 .show sj (yg I.ok.kind d hn hm b) hd
 .rcases d with d |d
  .show sj (wpAny_loadName_cell I.ok.kind d g a b) hd
  .show sj (wpAny_loadName_free I.ok.kind d g a b f) hd
def OH{i X6 pos}:PE X (.Constant (.int i) X6 pos) (tC (.int i)):=λ_ _ _ H _ I h=>wpAny_Constant_int (.int i,H,I.tok _,(_,rfl),h)
def OI{b X6 pos}:PE X (.Constant (.bool b) X6 pos) (tC (.bl b)):=λ_ _ _ H _ I h=>Constant_bool (.bl b,H,I,rfl,h)
def OJ{X6 pos}:PE X (.Constant .none X6 pos) (tC .non):=λ_ _ _ H _ I h=>Constant_none (.non,H,I,rfl,h)
def OK{x X6 pos}:PE X (.Constant (.str x) X6 pos) (tC (.str x)):=λ_ _ _ H _ I h=>oK (.str x,H,I.tok _,(_,rfl),h)
def Gl(X:Cx)(x:Str):Prop:=X.env.kindOf x=aa .globalImplicit
variable{J:St}
def mx{s:ak}{Q:Z9}(I:Inv X M J H s)(a:Gl X x)(hm:X.mg x=aa u)(h:Q u s)
 (hd:NDb x<|Zc):wpAny (model X.prog X.w) X.A (eval (.Name x pos) X.env) Q X2 s:=
 Calls.Name_function_global I.ok.kind a (Calls.loadGlobal_global (by rw[I.ok.glob];show I.mod.glob.keeps I.bk) hm h) hd
def oU{s:ak}{Q:Z9}(I:Inv X M J H s)(a:Gl X x)(hm:X.mg x=ae)(b:kH x=aa u)(h:Q u s)
 (hn:x ≠ "__name__"<|Zc)(hd:NDb x<|Zc):wpAny (model X.prog X.w) X.A (eval (.Name x pos) X.env) Q X2 s:=by
 have(mb,h1,h2):=I.mod.blt;show Calls.Name_function_global I.ok.kind a (Calls.loadGlobal_builtin (by rw[I.ok.glob];show I.mod.glob.keeps I.bk) hm (by rw[I.ok.blt];show h1.keeps I.bk) ((h2 x hn).trans b) h) hd
def HE(a:Gl X x)(hm:X.mg x=aa u)(r:bc v u)(hd:NDb x<|Zc):PE X (.Name x pos) (tC v):=
 λ_ _ _ H _ I h=>mx I a hm (v,H,I,r,h) hd
def OL(a:Gl X x)(hm:X.mg x=ae)(b:kH x=aa u)(r:bc v u)(hn:x ≠ "__name__"<|Zc)(hd:NDb x<|Zc):PE X (.Name x pos) (tC v):=
 λ_ _ _ H _ I h=>oU I a hm b (v,H,I,r,h) hn hd
def OM(t u:TT):TT:=λJ H Q=>t J H λc H1=>if c=ac then u J H1 Q else Q ah H1
def tOr(t u:TT):TT:=λJ H Q=>t J H λc H1=>if c=ac then Q ac H1 else u J H1 Q
def HF(t:TT):TT:=λJ H Q=>t J H λc H1=>Q (!c) H1
variable{a:Expr}{tA:TT}
def ON(ha:PT X a tA):PW X (.BoolOp .And [a] pos) tA:=by
 intro b M s J H Q I h;show isTrue_and (thn (ha M s J H Q I h) λc s1 e=>?_)
 cases c with
 |true=>show isTrue_and_nil e
 |false=>show e
def OO(ha:PT X a tA):PW X (.BoolOp .Or [a] pos) tA:=by
 intro b M s J H Q I h;show isTrue_or (thn (ha M s J H Q I h) λc s1 e=>?_)
 cases c with
 |false=>show isTrue_or_nil e
 |true=>show e
variable{b:Expr}{tB':TT}
def OP{rest:Zq}(ha:PT X a tA)(f:PW X (.BoolOp .And (b::rest) pos) tB'):PW X (.BoolOp .And (a::b::rest) pos) (OM tA tB'):=by
 intro i M s J H Q I h;show isTrue_and (thn (ha M s J H _ I h) λc s1 g=>?_);have(H1,d,e):=g
 cases c with
 |true=>show f i M s1 J H1 Q d e
 |false=>show(H1,d,e)
def OQ{rest:Zq}(ha:PT X a tA)(f:PW X (.BoolOp .Or (b::rest) pos) tB'):PW X (.BoolOp .Or (a::b::rest) pos) (tOr tA tB'):=by
 intro i M s J H Q I h;show isTrue_or (thn (ha M s J H _ I h) λc s1 g=>?_);have(H1,d,e):=g
 cases c with
 |true=>show(H1,d,e)
 |false=>show f i M s1 J H1 Q d e
def HG(ha:PT X a tA):PT X (.UnaryOp .Not a pos) (HF tA):=by
 intro M s J H Q I h;show isTrue_not (ha M s J H _ I h)
def OR(a b:TE):TE:=λJ H Q=>a J H λx H1=>∃c,x=.bl c/\if c=ac then b J H1 Q else Q (.bl ah) H1
def OS(a b:TE):TE:=λJ H Q=>a J H λx H1=>∃c,x=.bl c/\if c=ac then Q (.bl ac) H1 else b J H1 Q
def OU(a:TE):TE:=λJ H Q=>a J H λx H1=>∃c,x=.bl c/\Q (.bl (!c)) H1
def OV{op}{t:TE}(h:PE X a t):PE X (.BoolOp op [a] pos) t:=λM s J H Q I b=>BoolOp_one (h M s J H Q I b)
variable{ta tb:TE}
def OW{rest:Zq}(ha:PE X a ta)(f:PE X (.BoolOp .And (b::rest) pos) tb):PE X (.BoolOp .And (a::b::rest) pos) (OR ta tb):=by
 intro M s J H Q I h;show BoolOp_and (thn (ha M s J H _ I h) λv s1 g=>?_);have(x,H1,e,i,d):=g;have(c,rfl,d):=d;subst i;show mi ?_
 cases c with
 |true=>show f M s1 J H1 Q e d
 |false=>show(.bl ah,H1,e,rfl,d)
def OX{rest:Zq}(ha:PE X a ta)(f:PE X (.BoolOp .Or (b::rest) pos) tb):PE X (.BoolOp .Or (a::b::rest) pos) (OS ta tb):=by
 intro M s J H Q I h;show BoolOp_or (thn (ha M s J H _ I h) λv s1 g=>?_);have(x,H1,e,i,d):=g;have(c,rfl,d):=d;subst i;show mi ?_
 cases c with
 |false=>show f M s1 J H1 Q e d
 |true=>show(.bl ac,H1,e,rfl,d)
def OY(ha:PE X a ta):PE X (.UnaryOp .Not a pos) (OU ta):=by
 intro M s J H Q I h;show UnaryOp_ (thn (ha M s J H _ I h) λv s1 e=>?_);have(x,H1,d,f,b):=e;have(c,rfl,b):=b;subst f;show not_of (mi (.bl (!c),H1,d,rfl,b))
def tIf(t:TT)(ta tb:TE):TE:=λJ H Q=>t J H λc H1=>if c=ac then ta J H1 Q else tb J H1 Q
variable{c:Expr}
def yC(i:PT X c tA)(ha:PE X a ta)(g:PE X b tb):PE X (.IfExp c a b pos) (tIf tA ta tb):=by
 intro M s J H Q I h;show wpAny_IfExp (thn (i M s J H _ I h) λd s1 j=>?_);have(H1,e,f):=j
 cases d with
 |true=>show ha M s1 J H1 Q e f
 |false=>show g M s1 J H1 Q e f
def SqL(K:bf)(H:Hp)(a:Addr)(B:Z2):Prop:=
 Rd H a (.lst B) \/
  ∃(o:Obj) (its:Array Value) (n:Nat),K.lookup a=aa o/\o.cls=.type "list" /\ o.dict=ae/\o.data=.seq its n/\its.size<=be/\aQ B its.toList/\∀x∈B,x.ntx=ac
def SqT(K:bf)(H:Hp)(a:Addr)(B:Z2):Prop:=
 Rd H a (.tup B) \/
  ∃(o:Obj) (its:Array Value) (n:Nat),K.lookup a=aa o/\o.cls=.type "tuple" /\ o.data=.seq its n/\its.size<=be/\aQ B its.toList/\∀x∈B,x.ntx=ac
abbrev OZ:Value->Option V
 |.none=>aa .non
 |.bool b=>aa (.bl b)
 |.int i _=>aa (.int i)
 |.str x _=>aa (.str x)
 |.bytes b _=>aa (.byt b)
 |.float b _=>aa (.flt b)
 |.ref a=>aa (.ref a)
 |.type n=>aa (.ty n)
 | _=>ae
def bc.abs{x:V}(r:bc x u)(h:x.ntx=ac):OZ u=aa x:=by
 cases x with
 |non=>subst r;rfl
 |bl _=>subst r;rfl
 |int _=>have(t,rfl):=r;rfl
 |str _=>have(t,rfl):=r;rfl
 |byt _=>have(t,rfl):=r;rfl
 |flt _=>have(t,rfl):=r;rfl
 |ref _=>subst r;rfl
 |ty _=>subst r;rfl
 |tx _ _=>nomatch h
variable{y:V}
def bc.inj{x:V}(r:bc x u)(q:bc y u)(hx:x.ntx=ac)(a:y.ntx=ac):x=y:=cp ((r.abs hx).symm.trans (q.abs a))
def aQ.inj:∀{B a:Z2} {us:Z5},aQ B us->aQ a us->(∀x∈B,x.ntx=ac)->(∀y∈a,y.ntx=ac)->B=a
 | _,_,_,.nil,.nil,_,_=>rfl
 | _,_,_,.cons r t,.cons r' t',h,h'=>by rw[r.inj r' (h _ bi) (h' _ bi),aQ.inj t t' (λx m=>h x (bx _ m)) (λx m=>h' x (bx _ m))]
variable{a:Addr}{K:bf}
def SqL.of(h:H a=aa (.lst B)):SqL K H a B:=.inl (.inl h)
def SqT.of(h:H a=aa (.tup B)):SqT K H a B:=.inl (.inl h)
def Inv.list{s:ak}(I:Inv X M J H s)(h:SqL X.K H a B):∃its:Z5,aQ B its/\PlainL s.heap a its.toArray/\B.length<=be:=by
 rcases h with h |⟨o,its,n,hk,hc,hd,hs,hz,r,_⟩
 .have(z,its,n,r,e):=h.ok I.hok;show(its,r,(_,n,e,rfl,rfl,rfl),z)
 .show(its.toList,r,(o,n,I.kIn a o hk,hc,hd,by simpa using hs),?_);have e:=r.length
  grind
def Inv.tuple{s:ak}(I:Inv X M J H s)(h:SqT X.K H a B):∃its:Z5,aQ B its/\IsTup s.heap a its.toArray/\B.length<=be:=by
 rcases h with h |⟨o,its,n,hk,hc,hs,hz,r,_⟩
 .have(z,its,r,p):=h.ok I.hok;show(its,r,p,z)
 .show(its.toList,r,(o,I.kIn a o hk,hc,n,by simpa using hs),?_);have e:=r.length;simp only[Array.length_toList]at e
  lia
variable{ys:Z2}
def Inv.list_inj{s:ak}(I:Inv X M J H s)(h:SqL X.K H a B)(h':SqL X.K H a ys):B=ys:=by
 rcases h with h |⟨o,its,n,hk,hc,hd,hs,hz,r,nt⟩ <;> rcases h' with h' |⟨o',d4,n',hk',hc',hd',hs',hz',r',nt'⟩
 .rcases h with h |⟨_,h⟩ <;> rcases h' with h' |⟨_,h'⟩ <;> (rw[h]at h';first |(cases h';done) |(cases h';rfl))
 .have z:=(I.bs _ _ (I.ok.mod.kin _ _ hk')).2
  rcases h with h |⟨_,h⟩ <;> (rw[z]at h;nomatch h)
 .have z:=(I.bs _ _ (I.ok.mod.kin _ _ hk)).2
  rcases h' with h' |⟨_,h'⟩ <;> (rw[z]at h';nomatch h')
 .rw[hk]at hk';cases hk';rw[hs]at hs';cases hs';show r.inj r' nt nt'
def Inv.tuple_inj{s:ak}(I:Inv X M J H s)(h:SqT X.K H a B)(h':SqT X.K H a ys):B=ys:=by
 rcases h with h |⟨o,its,n,hk,hc,hs,hz,r,nt⟩ <;> rcases h' with h' |⟨o',d4,n',hk',hc',hs',hz',r',nt'⟩
 .rcases h with h |⟨_,h⟩ <;> rcases h' with h' |⟨_,h'⟩ <;> (rw[h]at h';first |(cases h';done) |(cases h';rfl))
 .have z:=(I.bs _ _ (I.ok.mod.kin _ _ hk')).2
  rcases h with h |⟨_,h⟩ <;> (rw[z]at h;nomatch h)
 .have z:=(I.bs _ _ (I.ok.mod.kin _ _ hk)).2
  rcases h' with h' |⟨_,h'⟩ <;> (rw[z]at h';nomatch h')
 .rw[hk]at hk';cases hk';rw[hs]at hs';cases hs';show r.inj r' nt nt'
nonrec def Cx.wish(X:Cx)(X2:Z9):Cx:={X with xe:=X2}
nonrec def Cx.nox(X:Cx):Cx:=X.wish λ_ _=>False
def Cx.Ok.wish(ok:X.Ok)(X2:Z9):(X.wish X2).Ok:=
 (ok.mod,ok.kind,ok.glob,ok.blt,ok.above,ok.inj,ok.has,ok.cab,ok.hd,ok.frames,ok.stk,ok.exf,ok.bs,ok.bsz,ok.noex,ok.exfs,ok.funs,ok.frf)
def Cx.Ok.unwish(ok:(X.wish X2).Ok):X.Ok:=
 (ok.mod,ok.kind,ok.glob,ok.blt,ok.above,ok.inj,ok.has,ok.cab,ok.hd,ok.frames,ok.stk,ok.exf,ok.bs,ok.bsz,ok.noex,ok.exfs,ok.funs,ok.frf)
def Inv.wish{s:ak}(I:Inv X M J H s)(X2:Z9):Inv (X.wish X2) M J H s:=(I.ok.wish X2,I.os,I.bare,I.base,I.loc,I.cell,I.free,I.freeC,I.pin,I.hok,I.len)
def Inv.unwish{s:ak}(I:Inv (X.wish X2) M J H s):Inv X M J H s:=(I.ok.unwish,I.os,I.bare,I.base,I.loc,I.cell,I.free,I.freeC,I.pin,I.hok,I.len)
def SP.unwish{D:jV}{f:Flow}(h:SP (X.wish X2) M D f s'):SP X M D f s':=by
 cases f with
 |next=>have(σ',H',I,q):=h;show(σ',H',I.unwish,q)
 |brk=>have(σ',H',I,q):=h;show(σ',H',I.unwish,q)
 |cont=>have(σ',H',I,q):=h;show(σ',H',I.unwish,q)
 |ret u=>have(v,σ',H',I,r,q):=h;show(v,σ',H',I.unwish,r,q)
variable{t:TS}
def PSs.nox{st:List Stmt}(h:PSs X.nox st t):PSs X st t:=λM s J H D I a=>
 d6 (h M s J H D (I.wish _) a) (λ_ _ q=>q.unwish) λ_ _ z=>f8 z
def O0:TS:=λD J H=>D.nx J H
def HH(t u:TS):TS:=λD J H=>t {D with nx:=u D} J H
def C6:PSs X [] O0:=λ_ _ J H _ I h=>mj (J,H,I,h)
variable{st:Stmt}{u:TS}
def yD{rest:List Stmt}(h1:PS X st t)(h2:PSs X rest u):PSs X (st::rest) (HH t u):=by
 intro M s J H D I h
 show kG (thn (h1 M s J H {D with nx:=u D} I h) λf s1 q=>?_)
 cases f with
 |next=>
  have(σ',H',a,q):=q
  show h2 M s1 σ' H' D a q
 |ret v=>show q
 |brk=>show q
 |cont=>show q
def HI(h1:PS X st t):PSs X [st] t:=by
 intro M s J H D I h;show kG (thn (h1 M s J H D I h) λf s1 q=>?_)
 cases f with
 |next=>show mj q
 |ret v=>show q
 |brk=>show q
 |cont=>show q
def Inv.quiet{s:ak}(I:Inv X M J H s):interactive X.env=ah:=by simp[interactive,I.ok.kind]
def qj(te:TE):TS:=λD J H=>te J H λ_ H1=>D.nx J H1
variable{te:TE}
def cG(b:PE X e te)(c:dz e ae pos.line X.env=pure ah<|Zb):PS X (.Expr e pos) (qj te):=by
 intro M s J H D I h;show wpAny_Expr_any (thn (b M s J H _ I h) λv s1 (x,H1,a,f,d)=>(J,H1,a,d)) I.quiet c
def O1(te:TE):TS:=λD J H=>te J H D.rt
def sK(b:PE X e te):PS X (.Return (aa e) pos) (O1 te):=by
 intro M s J H D I h;show wpAny_Return_some (thn (b M s J H _ I h) λv s1 (x,H1,a,d,c)=>(x,J,H1,a,d,c))
def C7(c:TT)(t u:TS):TS:=λD J H=>c J H λb H1=>if b=ac then t D J H1 else u D J H1
variable{tc:TT}
def C8{a b:List Stmt}(i:PT X c tc)(ha:PSs X a t)(g:PSs X b u):PS X (.If c a b pos) (C7 tc t u):=by
 intro M s J H D I h;show wpAny_If (thn (i M s J H _ I h) λd s1 j=>?_);have(H1,e,f):=j
 cases d with
 |true=>show ha M s1 J H1 D e f
 |false=>show g M s1 J H1 D e f
nonrec def TG:=V->St->Hp->(St->Hp->Prop)->Prop
nonrec def TGs:=Z2->St->Hp->(St->Hp->Prop)->Prop
def PG(X:Cx)(a:Expr)(t:TG):Prop:=
 ∀(M:Z8) (s:ak) (J:St) (H:Hp) (v:V) (u:Value) (Q:St->Hp->Prop),Inv X M J H s->bc v u->t v J H Q ->
  wpAny (model X.prog X.w) X.A (assign a X.env u) (λ_ s'=>∃σ' H',Inv X M σ' H' s'/\Q σ' H') X.xe s
def PGs(X:Cx)(a:Zq)(t:TGs):Prop:=
 ∀(M:Z8) (s:ak) (J:St) (H:Hp) (C:Z2) (us:Z5) (Q:St->Hp->Prop),Inv X M J H s->aQ C us->t C J H Q ->
  wpAny (model X.prog X.w) X.A (assignInOrder ((lG a X.env).map (·.2)) us) (λ_ s'=>∃σ' H',Inv X M σ' H' s'/\Q σ' H') X.xe s
nonrec def C9:=V->V->V->Hp->(Hp->Prop)->Prop
def HJ(X:Cx)(t:C9):Prop:=
 ∀(M:Z8) (s:ak) (J:St) (H:Hp) (o i v:V) (ov a u:Value) (Q:Hp->Prop),Inv X M J H s->bc o ov->bc i a->bc v u->t o i v H Q ->
  wpAny (model X.prog X.w) X.A (setItem ov a u) (λ_ s'=>∃H',Inv X M J H' s'/\Q H') X.xe s
nonrec def TIp:=V->V->Hp->VK->Prop
def PIp(X:Cx)(a:Operator)(t:TIp):Prop:=
 ∀(M:Z8) (s:ak) (J:St) (H:Hp) (x y:V) (v u:Value) (Q:VK),Inv X M J H s->bc x v->bc y u->t x y H Q ->
  wpAny (model X.prog X.w) X.A (inplaceOp a v u) (EP X M J Q) X.xe s
def jW(i:Nat):TG:=λv J H Q=>Q (J.set i (aa v)) H
def yE(b:X.N.Nodup)(hi:X.N[i]?=aa x)(hx:Loc X.env.scope x)(c:LcF X x<|Zg):PG X (.Name x pos) (jW i):=by
 intro M s J H v u Q I r h;show yj (sH I b hi hx r (λs' a=>(_,H,a,h)) c)
def O2:TGs:=λC J H Q=>C=[]/\Q J H
def O3(t:TG)(u:TGs):TGs:=λC J H Q=>∃v r,C=v::r/\t v J H λσ' H'=>u r σ' H' Q
def O4:PGs X [] O2:=by
 intro M s J H C us Q I r h;have(e,h):=h;show assignInOrder_nil (J,H,I,h)
variable{es:Zq}
def O5{t:TG}{u:TGs}(h1:PG X e t)(h2:PGs X es u)
 (d:((lG (e::es) X.env).map (·.2)=assign e X.env::(lG es X.env).map (·.2))<|Zb):PGs X (e::es) (O3 t u):=by
 intro M s J H C us Q I r h;have(v,i,c,h):=h;subst c
 cases r with
 |cons r g=>
  rw[d];show assignInOrder_cons (thn (h1 M s J H _ _ _ I r h) λ_ s1 (a,H1,b,f)=>(h2 M s1 a H1 _ _ Q b g f))
def O6(K:bf)(n:Nat)(t:TGs):TG:=λv J H Q=>∃a B,v=.ref a/\SqT K H a B/\B.length=n/\t B J H Q
def O7{k:Nat}{t:TGs}{n:Nat}(i:X.calm=ac)(h:PGs X es t)
 (hn:((lG es X.env).length=n)<|Zb)(c:((lG es X.env).findIdx? (·.1)=ae)<|Zb):PG X (.Tuple es k pos) (O6 X.K n t):=by
 intro M s J H v u Q I r d;have(a,B,g,l,j,d):=d;subst g;subst r;have(its,f,m,p):=I.tuple l;show assign_Tuple_tuple (I.ok.hd i) m (by simp[hn,<- j,f.length]) c λh' hx=>?_;show h M _ J H B _ Q (I.kept λb o e=>hx b o (dw (cF e)) e) (by simpa using f) d
def HK(to b:TE)(t:C9):TG:=λv J H Q=>to J H λo H1=>b J H1 λi H2=>t o i v H2 λa=>Q J a
def O8{o i:Expr}{to c:TE}{t:C9}(j:PE X o to)(hi:PE X i c)(l:HJ X t)
 (ha:(∀ v,assign (.Subscript o i pos) X.env v=(do
   let ov <- fX [v] (eval o X.env)
   let a <- fX [v,ov] (eval i X.env)
   gY pos
   fX [v,ov,a] (setItem ov a v)
   release [v,ov,a] []))<|Zd):PG X (.Subscript o i pos) (HK to c t):=by
 intro M s J H v u Q I r h;show cX (uZ (thn (j M s J H _ I h) λov s1 b=>?_));have(x,H1,e,q,m):=b;show cX (uZ (thn (hi M s1 J H1 _ e m) λa s2 b=>?_));have(y,H2,f,w,n):=b;show cX (yr (cX (uZ (thn (l M s2 J H2 x y v ov a u _ f q w r n) λ_ z (d,g,p)=>(wpAny_release (J,d,g,p))))))
def oV(te:TE)(g:TG):TS:=λD J H=>te J H λx H1=>g x J H1 D.nx
variable{tg:Expr}{g:TG}
def O9(b:PE X e te)(c:PG X tg g)(d:swapsWithSole [tg] e pos.line X.env=pure ah<|Zb)(f:swappedStores [tg] e X.env=pure ae<|Zb)
 (h1:((lG [tg] X.env).map (·.2)=[assign tg X.env])<|Zb):PS X (.Assign [tg] e pos) (oV te g):=by
 intro M s J H D I h;show wpAny_Assign_stores (thn (b M s J H _ I h) λv s1 j=>?_) d f;have(x,H1,a,l,i):=j;rw[h1];show thn (c M s1 J H1 x v _ a l i) λ_ s2 q=>q
variable{b9:Pos}
def qk(c:X.N.Nodup)(hi:X.N[i]?=aa x)(hx:Loc X.env.scope x)(d:PE X e te)(g:dz e (aa (.Name x b9)) pos.line X.env=pure ah<|Zb)(f:LcF X x<|Zg):
  PS X (.Assign [.Name x b9] e pos) (oV te (jW i)):=by
 intro M s J H D I h;show oI (thn (d M s J H _ I h) λv s1 (y,H1,a,l,j)=>(sH a c hi hx l (λs2 b=>(_,H1,b,j)) f)) g
def ipI(f:Int->Int->Int):TIp:=λx y H Q=>∃i X6,x=.int i/\y=.int X6/\Q (.int (f i X6)) H
def Pb:PIp X .Add (ipI λi X6=>i+X6):=by
 intro M s J H x y v u Q I c d h;have(i,X6,a,b,q):=h;subst a;subst b;have(t,rfl):=c;have(t',rfl):=d;show iadd_int (.int _,H,I.tok _,(_,rfl),q)
def Pc(c:TT)(tb:TS):TS:=λD J H=>∃W:Nat->St->Hp->Prop,(∃m,W m J H)/\∀m J H,W m J H ->
 c J H λb H1=>if b=ac then ∃N:St->Hp->Prop,(∀σ' H',N σ' H'->∃a,a<m/\W a σ' H')/\tb {D with nx:=N,ct:=N,bk:=D.nx} J H1 else D.nx J H1
variable{body:List Stmt}
def HL{tb:TS}(hp:kJ (model X.prog X.w) X.A X.env X.xe)(x:PT X c tc)(u:PSs X body tb):PS X (.While c body [] pos) (Pc tc tb):=by
 intro M s J H D I h;have(W,(y,B),g):=h;show wpAny_While (codeAny_whileLoop (λn s'=>∃σ' H',Inv X M σ' H' s'/\W n σ' H') ?_ y (J,H,I,B));rintro n s1 ⟨d,H1,t,C⟩;show gK hp (thn (x M s1 d H1 _ t (g n d H1 C)) λb s2 z=>?_);have(H2,q,i):=z
 cases b with
 |true=>
  have(N,r,i):=i;show gK hp (thn (u M s2 d H2 _ q i) λf E j=>?_)
  cases f with
  |next=>
   have(a,e,l,o):=j;have(m,hm,p):=r a e o
   show(m,hm,a,e,l,p)
  |cont=>
   have(a,e,l,o):=j;have(m,hm,p):=r a e o
   show(m,hm,a,e,l,p)
  |brk=>show j
  |ret v=>show j
 |false=>
  show mj (d,H2,q,i)
structure It where
 go:Nat->Hp->Prop
 yld:Nat->Hp->V->Hp->Prop
 stop:Nat->Hp->Prop
def ie(X:Cx)(M:Z8)(H:Hp)(b:Addr):Prop:=
 H b=ae/\b≠X.env.locals/\b∉X.fs/\(b∈X.ex\/X.s₀.heap.objs.size<=b)/\(∀x c,X.env.cells.lookup x=aa c->c≠b)/\∀p∈X.pn++M,p.1≠b
def Inv.fpOk{s:ak}{b:Addr}(I:Inv X M J H s)(a:s.heap.objs.size<=b)(hn:H' b=ae):ie X M H' b:=by
 show(hn,kE (dY I.lt a),I.nofs a,.inr (cf I.sz a),λx c e z=>?_,λp hp z=>(absurd (dY (cF (I.pin p hp).1) (by rw[z];show a)) (mf _)));have(v,q):=I.cell x c e;show absurd (dY q.lt (by rw[z];show a)) (mf _)
structure oW(P:cP)(w:World)(K:bf)(tg:Expr)(X1:It)(fp:Z7)(it:Addr)(tn:Nat->Heap->Prop):Prop where
 mem:it∈fp
 obj:∀i h,tn i h->∀b∈fp,∃o,h.get? b=aa o/\∀v,o.data≠.cell v
 keep:∀i h h',tn i h->(∀b∈fp,∀o,h.get? b=aa o->h'.get? b=aa o)->tn i h'
 item:∀(X:Cx),X.prog=P->X.w=w->X.K=K->X.calm=ac->∀(i:Nat) (M:Z8) (s:ak) (J:St) (H:Hp) (X2:Z9),Inv X M J H s->(∀b∈fp,ie X M H b)->tn i s.heap->X1.go i H ->
  wpAny (model P w) X.A (pyNext (.ref it)) (λr s1=>∃ u,r=aa u /\
   wpAny (model P w) X.A (letOwnedTupleGo tg (.ref it) u) (λ_ s2=>∃x H',Inv X M J H' s2/\bc x u/\X1.yld i H x H'/\tn (i+1) s2.heap/\∀b∈fp,H' b=ae) X2 s1) X2 s
 done:∀(X:Cx),X.prog=P->X.w=w->X.K=K->X.calm=ac->∀(i:Nat) (M:Z8) (s:ak) (J:St) (H:Hp) (X2:Z9),Inv X M J H s->(∀b∈fp,ie X M H b)->tn i s.heap->X1.stop i H ->
  wpAny (model P w) X.A (pyNext (.ref it)) (λr s1=>r=ae/\Inv X M J H s1) X2 s
 self:∀(A:cq) (i:Nat) (s:ak) (Q:Z9) (X2:Z9),tn i s.heap->Q (.ref it) s->wpAny (model P w) A (pyIter (.ref it)) Q X2 s
nonrec def TI:=St->Hp->(It->Hp->Prop)->Prop
def PIE(X:Cx)(M:Z8)(J:St)(tg:Expr)(R:It->Hp->Prop)(a:Value)(s2:ak):Prop:=
 ∃(it:Addr) (fp:Z7) (tn:Nat->Heap->Prop) (X1:It) (H':Hp),a=.ref it/\Inv X M J H' s2/\oW X.prog X.w X.K tg X1 fp it tn/\tn 0 s2.heap/\(∀b∈fp,ie X M H' b)/\R X1 H'
def PI(X:Cx)(tg iter:Expr)(a:TI):Prop:=
 ∀(M:Z8) (s:ak) (J:St) (H:Hp) (R:It->Hp->Prop),Inv X M J H s->a J H R ->
  wpAny (model X.prog X.w) X.A (eval iter X.env) (λv s1=>wpAny (model X.prog X.w) X.A (pyIter v) (PIE X M J tg R) X.xe s1) X.xe s
def vb{s:ak}{u:Value}{n:String}{C:Array Value}(c:s.heap.get? it = aa o)(b:o.cls = .type n)(hd:o.data = .fields C)
   (hn:["enumerate", "zip", "dict_itemiterator", "dict_reverseitemiterator", "odict_iterator", "itertools.zip_longest", "itertools.pairwise"].contains n = ah)(a:Q () s):wpAny X0 A (letOwnedTupleGo tg (.ref it) u) Q X2 s:= by
  cases tg <;> first
    |show dZ a
    | (cases u <;> first
        |show dZ a
        | (show cX (wpAny_load c ?_)
           rw[b, hd];change wpAny X0 A (if _ = ac then _ else _) Q X2 s;rw[if_neg (by intro h;rw[hn, uP]at h;nomatch h)];show dZ a))
def Itl(K:bf)(a:Addr):It:=
 (λi H=>∃B x,SqL K H a B/\B[i]?=aa x,λi H x H'=>H'=H/\∀B,SqL K H a B->B[i]?=aa x,λi H=>∃B,SqL K H a B/\B.length<=i)
def Itt(K:bf)(a:Addr):It:=
 (λi H=>∃B x,SqT K H a B/\B[i]?=aa x,λi H x H'=>H'=H/\∀B,SqT K H a B->B[i]?=aa x,λi H=>∃B,SqT K H a B/\B.length<=i)
def Itr(lo:Int)(n:Nat):It:=(λi _=>i<n,λi H x H'=>H'=H/\x=.int (lo+i),λi _=>n<=i)
def Pd(a it:Addr):oW P w K tg (Itl K a) [it] it (λi h=>h.IsListIter it a i) where
 mem:=by simp
 obj:=λi h st b hb=>by
  have e:b=it:=by simpa using hb
  subst e;have(o,e,c,d):=st;show⟨o,e,λv z=>by rw[d]at z;nomatch z⟩
 keep:=λi h h' st k=>st.at λo e=>k it (by simp) o e
 item:=by
  intro X hP hw hK hc i M s J H X2 I hf st hg;subst hP hw hK;have(B,x,hq,hx):=hg;have(its,rv,p,hz):=I.list hq;have(u,hu,ru):=rv.get hx;have(f0,f1,f2,f3,f4,f5):=hf it (by simp);show wpAny_pyNext_list_item st p.isList (by simpa using hu) λh' e9 sb=>?_;have(o,e,c,d):=id e9;show(u,rfl,vb e c d (rfl) (x,H,(I.turned (λb o hb e=>(sb.2 b hb).trans e) f0 f1 f3 f4 f5),ru,(rfl,λys hy=>by rw[I.list_inj hy hq];show hx),e9,λb hb=>(hf b hb).1))
 done:=by
  intro X hP hw hK hc i M s J H X2 I hf st hg;subst hP hw hK;have(B,hq,hx):=hg;have(its,rv,p,hz):=I.list hq;have(f0,f1,f2,f3,f4,f5):=hf it (by simp);have hl:=rv.length;show wpAny_pyNext_list_end (I.ok.hd hc) st p.isList (by simp;lia) λh' eb=>(rfl,I.turned (λb o hb e=>eb b o hb e) f0 f1 f3 f4 f5)
 self:=λ_ _ _ _ _ st h=>wpAny_pyIter_listiter st h
def Pe(a it:Addr):oW P w K tg (Itt K a) [it] it (λi h=>h.IsTupleIter it a i) where
 mem:=by simp
 obj:=λi h st b hb=>by
  have e:b=it:=by simpa using hb
  subst e;have(o,e,c,d):=st;show⟨o,e,λv z=>by rw[d]at z;nomatch z⟩
 keep:=λi h h' st k=>st.at λo e=>k it (by simp) o e
 item:=by
  intro X hP hw hK hc i M s J H X2 I hf st hg;subst hP hw hK;have(B,x,hq,hx):=hg;have(its,rv,p,hz):=I.tuple hq;have(u,hu,ru):=rv.get hx;have(f0,f1,f2,f3,f4,f5):=hf it (by simp);show wpAny_pyNext_tuple_item st (p) (by simpa using hu) λh' e9 sb=>?_;have(o,e,c,d):=id e9;show(u,rfl,vb e c d (rfl) (x,H,(I.turned (λb o hb e=>(sb.2 b hb).trans e) f0 f1 f3 f4 f5),ru,(rfl,λys hy=>by rw[I.tuple_inj hy hq];show hx),e9,λb hb=>(hf b hb).1))
 done:=by
  intro X hP hw hK hc i M s J H X2 I hf st hg;subst hP hw hK;have(B,hq,hx):=hg;have(its,rv,p,hz):=I.tuple hq;have(f0,f1,f2,f3,f4,f5):=hf it (by simp);have hl:=rv.length;show wpAny_pyNext_tuple_end (I.ok.hd hc) st (p) (by simp;lia) λh' eb=>(rfl,I.turned (λb o hb e=>eb b o hb e) f0 f1 f3 f4 f5)
 self:=λ_ _ _ _ _ st h=>wpAny_pyIter_tupleiter st h
def Pf(it:Addr)(lo:Int)(n:Nat):oW P w K tg (Itr lo n) [it] it (λi h=>IsRangeIter h it (lo+(i:Nat)*1) ((n:Int)-(i:Nat)) 1) where
 mem:=by simp
 obj:=λi h st b hb=>by
  have e:b=it:=by simpa using hb
  subst e
  show⟨_,st,λv z=>by
   nomatch z⟩
 keep:=λi h h' st k=>k it (by simp) _ st
 item:=by
  intro X hP hw hK hc i M s J H X2 I hf st hg;have(f0,f1,f2,f3,f4,f5):=hf it (by simp);show(Walks.range (I.ok.hd hc) it lo 1 n).item i s _ _ hg st λv h' tk hv e9 kk=>?_;have(t,rfl):=hv
  have I1:Inv X M J H {s with heap:=h',toks:=tk}:=I.turned (λb o hb e=>kk b o (by simpa using hb) e) f0 f1 f3 f4 f5
  show(_,rfl,vb e9 rfl rfl (rfl) (.int _,H,I1,(t,?_),(rfl,rfl),e9,λb hb=>(hf b hb).1));rw[Int.mul_one]
 done:=by
  intro X hP hw hK hc i M s J H X2 I hf st hg;have(f0,f1,f2,f3,f4,f5):=hf it (by simp);show wpAny_pyNext_range_end (I.ok.hd hc) st (by have:n<=i:=hg;lia) λh' eb=>(rfl,I.turned (λb o hb e=>eb b o hb e) f0 f1 f3 f4 f5)
 self:=λ_ _ _ _ _ st h=>wpAny_pyIter_rangeiter st h
def Pg(K:bf)(tl:TE):TI:=λJ H R=>tl J H λx H1=>∃a,x=.ref a/\(∃B,SqL K H1 a B)/\R (Itl K a) H1
def Ph(K:bf)(tl:TE):TI:=λJ H R=>tl J H λx H1=>∃a,x=.ref a/\(∃B,SqT K H1 a B)/\R (Itt K a) H1
variable{l:Expr}{tl:TE}
def yF(f:PE X l tl):PI X tg l (Pg X.K tl):=by
 intro M s J H R I h;show thn (f M s J H _ I h) λv s1 j=>?_;have(x,H1,c,m,i):=j;have(a,e,(B,g),q):=i;subst e;subst m;have(its,r,p,n):=c.list g;show ym p.isList ?_;show(s1.heap.objs.size,_,_,_,H1,rfl,c.kept λb o e=>ff _ e,Pd a _,(_,gZ _ rfl,rfl,rfl),λb d=>?_,q);have e:b=s1.heap.objs.size:=by simpa using d
 subst e;show c.fpOk (bu _) (c.hok.fresh (bu _))
def Pi(f:PE X l tl):PI X tg l (Ph X.K tl):=by
 intro M s J H R I h;show thn (f M s J H _ I h) λv s1 j=>?_;have(x,H1,c,m,i):=j;have(a,e,(B,g),q):=i;subst e;subst m;have(its,r,p,n):=c.tuple g;show wpAny_pyIter_tuple (p) ?_;show(s1.heap.objs.size,_,_,_,H1,rfl,c.kept λb o e=>ff _ e,Pe a _,(_,gZ _ rfl,rfl,rfl),λb d=>?_,q);have e:b=s1.heap.objs.size:=by simpa using d
 subst e;show c.fpOk (bu _) (c.hok.fresh (bu _))
variable{tk:Nat}
def Pj{s:ak}{R:It->Hp->Prop}{lo hi:Int}{t u v:Tok}(I:Inv X M J H s)(h1:-(2 ^ 62)<=lo)(h2:lo<2 ^ 62)(f:-(2 ^ 62)<=hi)(g:hi<2 ^ 62)
 (q:R (Itr lo (hi-lo).toNat) H):wpAny (model X.prog X.w) X.A (pyIter (.ref s.heap.objs.size)) (PIE X M J tg R) X2 {s with heap:=s.heap.push {cls:=.type "range",data:=.fields #[.int lo t,.int hi u,.int 1 v]},toks:=tk}:=by
 show wpAny_pyIter_range (IsRange.new ..) (small_one h1 h2 f g) ?_
 have a:Inv X M J H {s with heap:=s.heap.push {cls:=.type "range",data:=.fields #[.int lo t,.int hi u,.int 1 v]},toks:=tk}:=I.kept λb o e=>ff _ e
 show((s.heap.push {cls:=.type "range",data:=.fields #[.int lo t,.int hi u,.int 1 v]}).objs.size,_,_,_,H,rfl,
  a.kept λb o e=>ff _ e,Pf _ lo (hi-lo).toNat,?_,λb h=>?_,q)
 .have c:lo+((0:Nat):Int)*1=lo:=by simp
  have d:(((hi-lo).toNat:Nat):Int)-((0:Nat):Int)=Builtin.Range.rangeSize lo hi 1:=by rw[rangeSize_one];split <;> lia
  rw[c,d];show gZ _ rfl
 .have e:b=(s.heap.push {cls:=.type "range",data:=.fields #[.int lo t,.int hi u,.int 1 v]}).objs.size:=by simpa using h
  subst e;show a.fpOk (bu _) (a.hok.fresh (bu _))
def Pl(ta:TA):TI:=λJ H R=>ta J H λC H1=>∃X6:Int,C=[.int X6]/\-(2 ^ 62)<=X6/\X6<2 ^ 62/\R (Itr 0 X6.toNat) H1
variable{a:Expr}
def HM{ta:TA}{p:Pos}(d:Gl X "range")(hm:X.mg "range"=ae)(ha:PA X [a] ta)(f:ba [a] X.env=[(ah,eval a X.env,)]<|Zb):PI X tg (.Call (.Name "range" p) [a] [] pos) (Pl ta):=by
 intro M s J H R I h;show Call_ (oU I d hm boot_range (uX (thn (ha pos M s J H _ I h) λus s1 (C,H1,c,i,b)=>?_) f rfl));have(X6,e,b,g,q):=b;subst e
 cases i with
 |cons r j=>
  cases j;have(t,rfl):=r;show call_range_1 (Pj c (by lia) (by lia) b g (by simpa using q))
def HN(c:TI)(g:TG)(tb:TS):TS:=λD J H=>c J H λX1 H1=>∃W:Nat->Nat->St->Hp->Prop,(∃m,W 0 m J H1)/\∀i m J H,W i m J H ->
 (X1.stop i H/\D.nx J H)\/(X1.go i H/\∃N:St->Hp->Prop,(∀σ' H',N σ' H'->∃b,b<m/\W (i+1) b σ' H')/\∀x H',X1.yld i H x H'->g x J H' λa H2=>tb {D with nx:=N,ct:=N,bk:=D.nx} a H2)
def vc(fp:Z7)(h:Heap):Z8:=fp.filterMap λb=>(h.get? b).map λo=>(b,o,)
variable{fp:Z7}
def lP{b:Addr}(a:b∈fp)(e:h.get? b=aa o):(b,o,)∈vc fp h:=mem_filterMap.mpr (b,a,by rw[e];rfl)
def Pn{p:Addr×Obj}(hp:p∈vc fp h):p.1∈fp/\h.get? p.1=aa p.2:=by
 have(b,a,e):=mem_filterMap.mp hp
 cases q:h.get? b with
 |none=>rw[q]at e;nomatch e
 |some o=>
  grind
def Inv.pinned{s:ak}(I:Inv X M J H s)(c:∀b∈fp,ie X M H b)(f:∀b∈fp,∃o,s.heap.get? b=aa o/\∀v,o.data≠.cell v):Inv X (M++vc fp s.heap) J H s:=
 I.pins_of λp hp=>(cW.mp hp).elim (λz=>I.pin p (bY _ z)) λz=>by
  have(a,e):=Pn z;have(d,f1,f2,_):=c p.1 a
  grind
def Inv.unpinned{a:Z8}{s:ak}(I:Inv X (M++a) J H s):Inv X M J H s:=I.pins_of λp hp=>I.pin p (bY _ (fK _ hp))
variable{iter:Expr}{wi:TI}
def HP{tb:TS}(hp:kJ (model X.prog X.w) X.A X.env X.xe)(hc:X.calm=ac)(hi:PI X tg iter wi)(hg:PG X tg g)(l:PSs X body tb)
 (hs:(∀x,iC iter X.env x=pure x)<|Zd):PS X (.For tg iter body [] pos) (HN wi g tb):=by
 intro M s J H D I h;show wpAny_For (thn (hi M s J H _ I h) λv s1 h1=>thn h1 λitv s2 h2=>?_) hs;have(it,fp,tn,X1,H2,e,I2,T,fy,f2,W,(m0,w0),G):=h2;subst e;have p:∀{H':Hp},(∀b∈fp,H' b=ae)->∀b∈fp,ie X M H' b:=λhn b l=>(hn b l,(f2 b l).2);show yh (λn s'=>∃i σ' H',Inv X M σ' H' s'/\tn i s'.heap/\(∀b∈fp,H' b=ae)/\W i n σ' H') ?_ m0 (0,J,H2,I2,fy,λb l=>(f2 b l).1,w0);rintro n s3 ⟨i,q,L,I3,E,z,w3⟩
 rcases G i n q L w3 with⟨stop,qn⟩ |⟨go,N,hN,step⟩
 .show gK hp (thn (T.done X rfl rfl rfl hc i M s3 q L X.xe I3 (p z) E stop) λr s4 (U,I4)=>?_);subst U;show mj (q,L,I4,qn)
 .show gK hp (thn (T.item X rfl rfl rfl hc i M s3 q L X.xe I3 (p z) E go) λr s4 C=>?_);have(u,U,h4):=C;subst U;show gK hp (thn h4 λ_ s5 C=>?_);have(x,H5,I5,r5,y5,y,Q):=C;show gK hp (thn (hg _ s5 q H5 x u _ (I5.pinned (p Q) (T.obj _ _ y)) r5 (step x H5 y5)) λ_ s6 C=>?_);have(σ6,H6,I6,q6):=C;show gK hp (thn (l _ s6 σ6 H6 _ I6 q6) λf Y t=>?_)
  have again:∀{a:St} {c:Hp},Inv X _ a c Y->N a c->∃m,m<n/\∃i σ' H',Inv X M σ' H' Y/\tn i Y.heap/\(∀b∈fp,H' b=ae)/\W i m σ' H':=λ{a c} j B=>by
   have(m',hm,w7):=hN a c B;show(m',hm,i+1,a,c,j.unpinned,T.keep _ _ _ y λb l o e=>(j.pin _ (bY _ (bY _ (lP l e)))).1,λb l=>?_,w7);have(o,e,d):=T.obj _ _ y b l;show(j.pin _ (bY _ (bY _ (lP l e)))).2.1
  cases f with
  |next=>have(a,c,j,B):=t;show again j B
  |cont=>have(a,c,j,B):=t;show again j B
  |brk=>have(a,c,j,t):=t;show(a,c,j.unpinned,t)
  |ret v=>have(x7,a,c,j,r7,t):=t;show(x7,a,c,j.unpinned,r7,t)
nonrec def R2:=V->V->Hp->VK->Prop
def OpR(X:Cx)(f:Value->Value->Sem Value)(r:R2):Prop:=
 ∀(M:Z8) (s:ak) (J:St) (H:Hp) (x y:V) (v u:Value) (Q:VK),Inv X M J H s->bc x v->bc y u->r x y H Q ->
  wpAny (model X.prog X.w) X.A (f v u) (EP X M J Q) X.xe s
def UnR(X:Cx)(f:Value->Sem Value)(r:V->Hp->VK->Prop):Prop:=
 ∀(M:Z8) (s:ak) (J:St) (H:Hp) (x:V) (v:Value) (Q:VK),Inv X M J H s->bc x v->r x H Q ->
  wpAny (model X.prog X.w) X.A (f v) (EP X M J Q) X.xe s
def ju(X:Cx)(f:Value)(r:Z2->Hp->VK->Prop):Prop:=
 ∀(M:Z8) (s:ak) (J:St) (H:Hp) (B:Z2) (us:Z5) (Q:VK),Inv X M J H s->aQ B us->r B H Q ->
  wpAny (model X.prog X.w) X.A (call f us) (EP X M J Q) X.xe s
def Po(X:Cx)(r:V->Hp->(Bool->Hp->Prop)->Prop):Prop:=
 ∀(M:Z8) (s:ak) (J:St) (H:Hp) (x:V) (v:Value) (Q:Bool->Hp->Prop),Inv X M J H s->bc x v->r x H Q ->
  wpAny (model X.prog X.w) X.A (truthy v) (TP X M J Q) X.xe s
def tOp(r:R2)(ta tb:TE):TE:=λJ H Q=>ta J H λx H1=>tb J H1 λy H2=>r x y H2 Q
def tUn(r:V->Hp->VK->Prop)(ta:TE):TE:=λJ H Q=>ta J H λx H1=>r x H1 Q
def rI(X4:Int->Int->Prop)(g:Int->Int->V):R2:=λx y H Q=>∃i X6,x=.int i/\y=.int X6/\X4 i X6/\Q (g i X6) H
def rI0(g:Int->Int->V):R2:=λx y H Q=>∃i X6,x=.int i/\y=.int X6/\Q (g i X6) H
abbrev rU(g:Int->V):V->Hp->VK->Prop:=λx H Q=>∃i,x=.int i/\Q (g i) H
variable{f:Value->Value->Sem Value}
def yG(ha:PE X a ta)(i:PE X b tb){s:ak}{R:V->V->Hp->Prop}(I:Inv X M J H s)
 (h:ta J H λx H1=>tb J H1 λy H2=>R x y H2){Q:Z9}
 (j:∀v u s2 x y H2,Inv X M J H2 s2->bc x v->bc y u->R x y H2->wpAny (model X.prog X.w) X.A (f v u) Q X.xe s2):
  wpAny (model X.prog X.w) X.A (eval a X.env) (λv c=>wpAny (model X.prog X.w) X.A (eval b X.env) (λu d=>wpAny (model X.prog X.w) X.A (f v u) Q X.xe d) X.xe c) X.xe s:=by
 show thn (ha M s J H _ I h) λv s1 n=>?_;have(x,H1,e,o,l):=n;show thn (i M s1 J H1 _ e l) λu s2 (y,H2,g,p,m)=>(j v u s2 x y H2 g o p m)
def Da{c:Operator}{r:R2}(f:OpR X (iD c) r)(ha:PE X a ta)(e:PE X b tb):PE X (.BinOp a c b pos) (tOp r ta tb):=by
 intro M s J H Q I h;show wpAny_BinOp (yG ha e I h λv u s2 x y H2 d g i q=>f M s2 J H2 x y v u Q d g i q)
def Pp{b:UnaryOp}{r:V->Hp->VK->Prop}(d:UnR X (unaryOp b) r)(ha:PE X a ta):PE X (.UnaryOp b a pos) (tUn r ta):=by
 intro M s J H Q I h;show UnaryOp_ (thn (ha M s J H _ I h) λv s1 (x,H1,c,f,e)=>d M s1 J H1 x v Q c f e)
def opI{X4:Int->Int->Prop}{g:Int->Int->Int}
 (rule:∀(i X6:Int) (t u:Tok) (s:ak) (Q:Z9) (X2:Z9),X4 i X6->Q (.int (g i X6) s.toks) {s with toks:=s.toks+1}->wpAny (model X.prog X.w) X.A (f (.int i t) (.int X6 u)) Q X2 s):
  OpR X f (rI X4 λi X6=>.int (g i X6)):=by
 intro M s J H x y v u Q I b c h;have(i,X6,rfl,rfl,a,q):=h;have(t,rfl):=b;have(t',rfl):=c;show rule i X6 t t' s _ _ a (.int _,H,I.tok _,(_,rfl),q)
def HQ{g:Int->Int->Int}
 (rule:∀(i X6:Int) (t u:Tok) (s:ak) (Q:Z9) (X2:Z9),Q (.int (g i X6) s.toks) {s with toks:=s.toks+1}->wpAny (model X.prog X.w) X.A (f (.int i t) (.int X6 u)) Q X2 s):
  OpR X f (rI0 λi X6=>.int (g i X6)):=by
 intro M s J H x y v u Q I a b h;have(i,X6,rfl,rfl,q):=h;have(t,rfl):=a;have(t',rfl):=b;show rule i X6 t t' s _ _ (.int _,H,I.tok _,(_,rfl),q)
def Db{g:Int->Int->Bool}
 (rule:∀(i X6:Int) (t u:Tok) (s:ak) (Q:Z9) (X2:Z9),Q (.bool (g i X6)) s->wpAny (model X.prog X.w) X.A (f (.int i t) (.int X6 u)) Q X2 s):
  OpR X f (rI0 λi X6=>.bl (g i X6)):=by
 intro M s J H x y v u Q I a b h;have(i,X6,rfl,rfl,q):=h;have(t,rfl):=a;have(t',rfl):=b;show rule i X6 t t' s _ _ (.bl _,H,I,rfl,q)
def HS(i X6:Int):Prop:=0<X6/\X6<1073741824
def qm(i X6:Int):Prop:=0<=X6/\X6<=1000000/\i.natAbs<2 ^ 64
def vd(i X6:Int):Prop:=(-(2 ^ 64)<i/\i<2 ^ 64)\/(-(2 ^ 64)<X6/\X6<2 ^ 64)
variable{X6:Int}
def vd.ok{i:Int}(h:vd i X6):IntMulOk i X6:=by
 rcases h with⟨h1,h2⟩ |⟨h1,h2⟩
 .show .of_left (intBits_le_64 h1 h2)
 .show .of_right (intBits_le_64 h1 h2)
def Pq:OpR X (iD .Add) (rI0 λi X6=>.int (i+X6)):=HQ λ_ _ _ _ _ _ _ q=>add_int q
def Ps:OpR X (iD .Sub) (rI0 λi X6=>.int (i-X6)):=HQ λ_ _ _ _ _ _ _ q=>sub_int q
def Pt:OpR X (iD .Mod) (rI (λ_ X6=>0<X6) λi X6=>.int (i % X6)):=opI λi X6 _ _ _ _ _ a q=>by
 show mod_int' (by lia) (by rw[Int.fmod_eq_emod_of_nonneg i (by lia)];show q)
def Pu:OpR X (iD .Pow) (rI qm λi X6=>.int (i ^ X6.toNat)):=opI λ_ _ _ _ _ _ _ a q=>pow_int_small a.1 a.2.1 a.2.2 q
def unI{f:Value->Sem Value}{g:Int->Int}
 (rule:∀(i:Int) (t:Tok) (s:ak) (Q:Z9) (X2:Z9),Q (.int (g i) s.toks) {s with toks:=s.toks+1}->wpAny (model X.prog X.w) X.A (f (.int i t)) Q X2 s):
  UnR X f (rU λi=>.int (g i)):=by
 intro M s J H x v Q I a h;have(i,rfl,q):=h;have(t,rfl):=a;show rule i t s _ _ (.int _,H,I.tok _,(_,rfl),q)
def Pw:UnR X (unaryOp .USub) (rU λi=>.int (-i)):=unI λ_ _ _ _ _ q=>neg_int q
abbrev Dc:V->V->Bool
 |.non,.non=>ac |.non,.int _=>ac |.int _,.non=>ac |.non,.bl _=>ac |.bl _,.non=>ac |.non,.str _=>ac |.str _,.non=>ac
 |.int _,.int _=>ac |.bl _,.bl _=>ac |.str _,.str _=>ac |.byt _,.byt _=>ac
 |.int _,.str _=>ac |.str _,.int _=>ac |.bl _,.str _=>ac |.str _,.bl _=>ac
 | _,_=>ah
def rEq:R2:=λx y H Q=>Dc x y=ac/\Q (.bl (decide (x=y))) H
def rNe:R2:=λx y H Q=>Dc x y=ac/\Q (.bl (!decide (x=y))) H
def Dd{i:Int}:decide (V.int i=V.int X6)=(i==X6):=by
 rw[ku];simp
def De{i X6:Bool}:decide (V.bl i=V.bl X6)=(i==X6):=by
 rw[ku];simp
def Dg{i X6:Str}:decide (V.str i=V.str X6)=(i==X6):=by
 rw[ku];simp
def HU{i X6:Array UInt8}:decide (V.byt i=V.byt X6)=(i.toList==X6.toList):=by
 rw[ku];cases i;cases X6;simp
def dH{s:ak}{Q:VK}{k a:Bool}(I:Inv X M J H s)(q:Q (.bl k) H)(e:k=a):EP X M J Q (.bool a) s:=by
 subst e;show(.bl k,H,I,rfl,q)
def Px:OpR X (dR .Eq) rEq:=by
 intro M s J H x y v u Q I c a h;have(b,q):=h
 cases x with
 |non=>
  cases c
  cases y with
  |non=>subst a;show PySem.EqNone.eq_none_none (dH I q (by rfl))
  |bl X6=>subst a;show PySem.EqNone.eq_none_bool (dH I q (by rfl))
  |int X6=>have(t',rfl):=a;show PySem.EqNone.eq_none_int (dH I q (by rfl))
  |str X6=>have(t',rfl):=a;show PySem.EqNone.eq_none_str (dH I q (by rfl))
  | _=>show absurd (b) c6
 |bl i=>
  subst c
  cases y with
  |non=>subst a;show PySem.EqNone.eq_bool_none (dH I q (by simp))
  |bl X6=>subst a;show eq_bool (dH I q De)
  |str X6=>have(t',rfl):=a;show PySem.EqMixed.eq_bool_str (dH I q (by simp))
  | _=>show absurd (b) c6
 |int i=>
  have(t,rfl):=c
  cases y with
  |non=>subst a;show PySem.EqNone.eq_int_none (dH I q (by simp))
  |int X6=>have(t',rfl):=a;show eq_int (dH I q Dd)
  |str X6=>have(t',rfl):=a;show PySem.EqMixed.eq_int_str (dH I q (by simp))
  | _=>show absurd (b) c6
 |str i=>
  have(t,rfl):=c
  cases y with
  |non=>subst a;show PySem.EqNone.eq_str_none (dH I q (by simp))
  |bl X6=>subst a;show PySem.EqMixed.eq_str_bool (dH I q (by simp))
  |int X6=>have(t',rfl):=a;show PySem.EqMixed.eq_str_int (dH I q (by simp))
  |str X6=>have(t',rfl):=a;show eq_str (dH I q Dg)
  | _=>show absurd (b) c6
 |byt i=>
  have(t,rfl):=c
  cases y with
  |byt X6=>have(t',rfl):=a;show W.eq_bytes (dH I q HU)
  | _=>show absurd (b) c6
 | _=>cases y <;> show absurd (show ah=ac from b) c6
def Py:OpR X (dR .NotEq) rNe:=by
 intro M s J H x y v u Q I c a h;have(b,q):=h
 cases x with
 |non=>
  cases c
  cases y with
  |non=>subst a;show PySem.EqNone.ne_none_none (dH I q (by rfl))
  |bl X6=>subst a;show PySem.EqNone.ne_none_bool (dH I q (by rfl))
  |int X6=>have(t',rfl):=a;show PySem.EqNone.ne_none_int (dH I q (by rfl))
  |str X6=>have(t',rfl):=a;show PySem.EqNone.ne_none_str (dH I q (by rfl))
  | _=>show absurd (b) c6
 |bl i=>
  subst c
  cases y with
  |non=>subst a;show PySem.EqNone.ne_bool_none (dH I q (by rfl))
  |bl X6=>subst a;show ne_bool (dH I q (congrArg not De))
  |str X6=>have(t',rfl):=a;show PySem.EqMixed.ne_bool_str (dH I q (by simp))
  | _=>show absurd (b) c6
 |int i=>
  have(t,rfl):=c
  cases y with
  |non=>subst a;show PySem.EqNone.ne_int_none (dH I q (by simp))
  |int X6=>have(t',rfl):=a;show ne_int (dH I q (congrArg not Dd))
  |str X6=>have(t',rfl):=a;show PySem.EqMixed.ne_int_str (dH I q (by simp))
  | _=>show absurd (b) c6
 |str i=>
  have(t,rfl):=c
  cases y with
  |non=>subst a;show PySem.EqNone.ne_str_none (dH I q (by simp))
  |bl X6=>subst a;show PySem.EqMixed.ne_str_bool (dH I q (by simp))
  |int X6=>have(t',rfl):=a;show PySem.EqMixed.ne_str_int (dH I q (by simp))
  |str X6=>have(t',rfl):=a;show ne_str (dH I q (congrArg not Dg))
  | _=>show absurd (b) c6
 |byt i=>
  have(t,rfl):=c
  cases y with
  |byt X6=>have(t',rfl):=a;show W.ne_bytes (dH I q (congrArg not HU))
  | _=>show absurd (show ah=ac from b) c6
 | _=>cases y <;> show absurd (show ah=ac from b) c6
def PB:OpR X (dR .Lt) (rI0 λi X6=>.bl (decide (i<X6))):=Db λ_ _ _ _ _ _ _ q=>lt_int q
def PC:OpR X (dR .LtE) (rI0 λi X6=>.bl (decide (i<=X6))):=Db λ_ _ _ _ _ _ _ q=>le_int q
def PF:OpR X (dR .Gt) (rI0 λi X6=>.bl (decide (X6<i))):=Db λ_ _ _ _ _ _ _ q=>gt_int q
variable{op:CmpOp}
def yH(b:Expr)(h:op≠.In<|Zc)(h2:op≠.NotIn<|Zc):oJ op b=ah:=by
 have a:(op==CmpOp.In)=ah:=by grind
 have c:(op==CmpOp.NotIn)=ah:=by grind
 cases b <;> simp[oJ,a,c]
variable{r:R2}
def HV(e:OpR X (dR op) r)(ha:PE X a ta)(d:PE X b tb)(hm:oJ op b=ah):PE X (.Compare a [op] [b] pos) (tOp r ta tb):=by
 intro M s J H Q I h;show wpAny_Compare1 (yG ha d I h λv u s2 x y H2 c f g q=>e M s2 J H2 x y v u Q c f g q) hm
def HW(t:TE):TT:=λJ H Q=>t J H λx H'=>∃k,x=.bl k/\Q k H'
def HX(l:OpR X (dR op) r)(ha:PE X a ta)(j:PE X b tb)(hm:oJ op b=ah):PT X (.Compare a [op] [b] pos) (HW (tOp r ta tb)):=by
 intro M s J H Q I h
 show wpAny_isTrue_Compare1 (thn (ha M s J H _ I h) λv s1 (x,H1,f,p,m)=>thn (j M s1 J H1 _ f m) λu s2 (y,H2,g,q,n) =>
  thn (l M s2 J H2 x y v u _ g p q n) λc w (z,d,i,t,k,e,o)=>?_) hm
 subst e;subst t;show mi (d,i,o)
def HY(r r':R2)(ta tb tc:TE):TE:=λJ H Q=>ta J H λx H1=>tb J H1 λy H2=>r x y H2 λz a=>∃k,z=.bl k /\
 (if k=ac then tc J a λc b=>r' y c b Q else Q (.bl ah) a)
variable{tc:TE}{e8:CmpOp}{r':R2}
def PH(w:OpR X (dR op) r)(f:OpR X (dR e8) r')(ha:PE X a ta)(q:PE X b tb)(t:PE X c tc)
 (hm:lastMarks [op,e8] [b,c]=ah<|Zl):PE X (.Compare a [op,e8] [b,c] pos) (HY r r' ta tb tc):=by
 intro M s J H Q I h
 show Compare_chain (thn (ha M s J H _ I h) λv s1 (x,H1,n,E,A)=>chain_link (thn (q M s1 J H1 _ n A) λu s2 (y,H2,o,l,B) =>
  thn (w M s2 J H2 x y v u _ o E l B) λd N (z,g,i,G,k,e,j)=>?_)) hm
 subst e;subst G;show mi ?_
 cases k with
 |false=>show ite_ff (.bl ah,g,i,rfl,j)
 |true=>show ite_tt (chain_last (thn (t M N J g _ i j) λU T (Y,m,p,L,C)=>f M T J m y Y u U Q p l L C))
def PJ(E:OpR X (dR op) r)(f:OpR X (dR e8) r')(ha:PE X a ta)(B:PE X b tb)(C:PE X c tc)
 (hm:lastMarks [op,e8] [b,c]=ah<|Zl):PT X (.Compare a [op,e8] [b,c] pos) (HW (HY r r' ta tb tc)):=by
 intro M s J H Q I h
 show isTrue_chain (thn (ha M s J H _ I h) λv s1 (x,H1,o,r1,L)=>test_link (thn (B M s1 J H1 _ o L) λu s2 (y,H2,p,l,N) =>
  thn (E M s2 J H2 x y v u _ p r1 l N) λd s3 (z,g,i,r3,k,e,j)=>?_)) hm
 subst e;subst r3;show mi ?_
 cases k with
 |false=>
  have(k',w,G):=j;cases w
  show ite_ff (g,i,G)
 |true=>
  show ite_tt (test_last (thn (C M s3 J g _ i j) λw' s4 (z',m,q,r4,T)=>thn (f M s4 J m y z' u w' _ q l r4 T) λd' s5 Y=>?_));have(z2,n,t,r5,k2,A,U):=Y;subst A;subst r5;show mi (n,t,U)
def yI(K:bf)(x:V)(H:Hp)(k:Bool):Prop:=
 match x with
 |.non=>k=ah
 |.bl b=>k=b
 |.int i=>k=(i != 0)
 |.str y=>y.length<=be/\k=((y.length:Int) != 0)
 |.byt y=>y.size<=be/\k=((y.size:Int) != 0)
 |.ref p=>(∃B,SqL K H p B/\k=!B.isEmpty)\/(∃B,SqT K H p B/\k=!B.isEmpty)\/∃kvs,H p=aa (.dK kvs)/\k=!kvs.isEmpty
 | _=>False
def PK{a:Type}{kvs:List (a×V)}{C:List (a×Value)}(r:KV kvs C):(!C.isEmpty)=!kvs.isEmpty:=by
 cases r <;> rfl
variable{its:Z5}
def HZ(r:aQ B its):(!its.toArray.isEmpty)=!B.isEmpty:=by
 cases r <;> simp
def sL:(be:Nat)<2 ^ 63:=by rw[fc];decide
def Ia:Po X (λx H Q=>∃k,yI X.K x H k/\Q k H):=by
 intro M s J H x v Q I d h;have(k,e,q):=h;have n:=fc
 cases x with
 |non=>
  subst d;have a:=e;subst a
  show truthy_none (H,I,q)
 |bl b=>
  subst d;have a:=e;subst a
  show mi (H,I,q)
 |int i=>
  have(t,rfl):=d;have a:=e;subst a
  show PySem.P.truthy_int (H,I,q)
 |str y=>
  have(t,rfl):=d;obtain⟨l,a⟩:y.length<=be/\k=_:=e;subst a
  show PySem.P.truthy_str (by lia) (H,I.tok _,q)
 |byt y=>
  have(t,rfl):=d;obtain⟨l,a⟩:y.size<=be/\k=_:=e;subst a
  show W.truthy_bytes (by lia) (H,I.tok _,q)
 |ref p=>
  subst d;have a:=e
  rcases a with⟨B,hx,a⟩ |⟨B,hx,a⟩ |⟨kvs,hx,a⟩
  .subst a;have(its,r,f,g):=I.list hx;have c:=r.length;show wpAny_truthy_list f.isList (by simp only[size_toArray];lia) (H,I.tok _,by rw[HZ r];show q)
  .subst a;have(its,r,f,g):=I.tuple hx;have c:=r.length;show truthy_tuple f (by simp only[size_toArray];lia) (H,I.tok _,by rw[HZ r];show q)
  .subst a;obtain⟨g,j,C,r,m⟩:kvs.length<=be/\(p==sysModules)=ah/\∃C,KV kvs C/\s.heap.DictOf (HD X.prog X.w) p C:=I.hok p _ hx;have c:=Paired.length r
   show wpAny_truthy_dict j m (by lia) (H,I.tok _,by rw[PK r];show q)
 | _=>show(show False from e).elim
def Ib(ha:PE X a ta)(d:∀b,isTrue a X.env b=(do let v <- b;gY a.pos;fX [v] (truthy v))):
  PT X a (λJ H Q=>ta J H λx H'=>∃k,yI X.K x H' k/\Q k H'):=by
 intro M s J H Q I h;show isTrue_plain (thn (ha M s J H _ I h) λv s1 (x,H1,c,f,e)=>Ia M s1 J H1 x v Q c f e) (d _)
def PL:OpR X (iD .Add) (λx y H Q=>∃i X6,x=.str i/\y=.str X6/\i.length+X6.length<=be/\Q (.str (i++X6)) H):=by
 intro M s J H x y v u Q I b c h;have(i,X6,rfl,rfl,a,q):=h;have(t,rfl):=b;have(t',rfl):=c;show add_str (λt' tk=>(.str _,H,I.tok _,(_,rfl),q)) a
def PM:OpR X (inplaceOp .Add) (λx y H Q=>∃i X6,x=.str i/\y=.str X6/\i.length+X6.length<=be/\Q (.str (i++X6)) H):=by
 intro M s J H x y v u Q I b c h;have(i,X6,rfl,rfl,a,q):=h;have(t,rfl):=b;have(t',rfl):=c;show iadd_str (λt' tk=>(.str _,H,I.tok _,(_,rfl),q)) a
def Ic(b:Expr):Prop:=∀o i,subscripted b ah o i=operate [o,i] (getItem o i)
def PN(ha:PE X a ta)(l:PE X b tb)(n:Ic b):
  PE X (.Subscript a b pos) (tOp (λx y H Q=>∃z i c,x=.str z/\y=.int i/\0<=i/\i<2 ^ 63/\i<z.length/\z.cps[i.toNat]?=aa c/\Q (.str ⟨#[c]⟩) H) ta tb):=by
 intro M s J H Q I h;show Subscript_ (yG ha l I h λv u s2 x y H2 d o p q=>?_);have(z,i,c,rfl,rfl,g,j,h1,m,q):=q;have(t,rfl):=o;have(t',rfl):=p
 show tail_any (mm s2 z t) slot_str_getitem.lookup (getItem_str (by
  have e:decide (i < -(2 ^ 63:Int))=ah:=decide_eq_false (by lia);have f:decide (i≥2 ^ 63)=ah:=decide_eq_false (by lia)
  rw[e,f] <;> rfl) (by rw[(HA g h1)];show m) (.str ⟨#[c]⟩,H2,d.tok _,(_,rfl),q)) (n _ _)
def oX{x:V}(r:aQ [x] us):∃u,us=[u]/\bc x u:=by
 cases r with
 |cons a b=>cases b;show(_,rfl,a)
def PP{x:V}(r:aQ [x,y] us):∃u a,us=[u,a]/\bc x u/\bc y a:=by
 cases r with
 |cons b c=>
  cases c with
  |cons d e=>cases e;show(_,_,rfl,b,d)
def PQ:ju X (.type "str") (λB H Q=>∃i,B=[.int i]/\i.natAbs.log2<1920/\Q (.str (nA i)) H):=by
 intro M s J H B us Q I r h;have(i,rfl,a,q):=h;have(u,rfl,t,rfl):=oX r;show PySem.P.str_of_int a (.str _,H,I.tok _,(_,rfl),q)
structure qo(h:Heap)(x dx X4:Addr)(mA:Zp):Prop where
 obj:h.get? x=aa (oS X4 dx)
 ns:h.Ns1 dx mA
 ne:dx≠x
variable{mA:Zp}
def PR{dx:Addr}(n:h.Ns1 dx mA):∃od,h.get? dx=aa od/\∀name,W.lookIn name od=aa (mA name):=by
 have(o,es,g,d,hd,c,_,hm):=n;show(o,d,λname=>?_);have e:=hm name;unfold nsFind findBy at e;rw[<- Array.find?_toList]at e;unfold W.lookIn;rw[hd];dsimp only;split
 .grind
 .rename_i q;rw[q]at e
  have a:es.toList.any (·.refKey)=ah:=by
   rw[any_eq_false];intro y f;have(z,t,b):=c y (Array.mem_toList_iff.mp f);simp[DictEntry.refKey,b]
  grind
def qo.look{x dx X4:Addr}(I:qo h x dx X4 mA):∃od,W.InstAt h x (oS X4 dx) X4 (aa od)/\∀name,W.lookIn name od=aa (mA name):=
 let (od,ho,hl):=PR I.ns
 (od,(I.obj,rfl,rfl,ho),hl)
variable{x X4:Addr}{name:Str}{v:Value}
section
variable{s:ak}{dx:Addr}
def PU{a:Bool}{Q:Z9}(X:K.In s.heap)(I:qo s.heap x dx X4 mA)(c:sD K X4 name=ac)(d:va K X4=ac)
 (ha:gN K (.ref X4) name=aa ae)(f:mA name=aa v)(b:W.handedIn v=ac)(h:Q v {s with toks:=s.toks+1}):
  wpAny (model prog w) A (getAttr (.ref x) name a) Q X2 s:=by
 have(od,X1,e):=I.look;show W.get_value X X1 (W.plainGet_of c).1 (W.findObj_own d ha rfl (by rw[e,f])) b h
end
variable{f:Addr}{pl:Sem Bool}
def PV{s:ak}{dx:Addr}{Q:Value×Z5->ak->Prop}(X:K.In s.heap)(I:qo s.heap x dx X4 mA)(a:sD K X4 name=ac)
 (b:gN K (.ref X4) name=aa (aa (.ref f)))(d:W.isFn K (.ref f)=ac)(e:mA name=ae)(h:Q (.ref f,[.ref x],) s):
  wpAny (model prog w) A (jS (.ref x) name pl) Q X2 s:=by
 have(od,X1,c):=I.look;show W.method_fn X X1 (W.plainGet_of a).1 (W.plainGet_of a).2 b (beq_iff_eq.mp d) (by change(W.lookIn name od).map (·.isSome)=aa ah;rw[c,e];rfl) h
section
variable{s:ak}{dx:Addr}
def PY{ns:Z1}(X:K.In s.heap)(I:qo s.heap x dx X4 mA)
 (m:gN K (.ref X4) "__setattr__"=aa (aa (.builtin "object.__setattr__")))(hp:W.plainOver K X4=ac)(o:W.takerIn K X4 name=aa ae)(l:va K X4=ac)
 (p:PySem.Within mA ns)(n:ns.length<=be)
 (h:∀h',qo h' x dx X4 (λy=>if y=name then aa v else mA y)->yw dx s.heap h'->Q () {s with heap:=h',toks:=s.toks+2}):
  wpAny (model prog w) A (setAttr (.ref x) name v) Q X2 s:=by
 have(od,X1,r):=I.look;show W.set_plain X X1 m (W.osa_open X X1 hp o λb=>?_);have(q,j,e):=W.any_some l;show cX (dZ (cX (cX (wpAny_loadPart I.obj (cX (W.Looks.here (W.looks_clsIn X j) ?_))))));rw[e];show dZ (cX (dZ (cX ?_)));show wpAny_nsSet1 I.ns λh' a c=>?_;have(t,i,g,f,hdD,d):=a.count (PySem.Within.cons name v p);show cX (wpAny_lookBehind f (by rw[hdD];show pastItsLine_dict (cf d (by rw[aU];lia))) (dZ (h _ ((c.2 _ (iB I.ne)).trans I.obj,a,I.ne) c)))
end
variable{R:Result->ak->Prop}{kw:List (Str×Value)}
section
variable{s:ak}
def PZ{C:Z5}(X:K.In s.heap)(hm:W.makesIn K X4=ac)
 (hi:gN K (.ref X4) "__init__"=aa (aa (.ref f)))(a:W.typeIn K (.ref f)=aa (.type "function"))
 (h:iF (model prog w) (A.under (.builtin "type.__call__" (.ref X4::C,kw))) (.call (.ref f) (.ref (s.heap.objs.size + 1)::C,kw)) (W.InitBack (s.heap.objs.size + 1) R)
   {s with heap:=(s.heap.push oR).push (oS X4 s.heap.objs.size)}):
  iF (model prog w) A (.call (.ref X4) (C,kw)) R s:=by
 show W.make_core (W.makes_of X hm) (W.looks_findIn X hi) (λself=>W.bind_fn X self a) (.inl rfl) h
end
abbrev d8(f:Str)(v:V):List (Str×V)->List (Str×V)
 | []=>[(f,v,)]
 |(g,x,)::r=>if g=f then (g,v,)::r else (g,x,)::d8 f v r
def Ie(f g:Str)(v:V):∀fs:List (Str×V),(d8 f v fs).lookup g=if g=f then aa v else fs.lookup g
 | []=>by
  change List.lookup g [_]=_
  grind
 |(k,x,)::r=>by
  rw[show d8 f v _=(if k=f then _::r else _::d8 f v r)from rfl]
  by_cases b:k=f
  .grind
  .rw[if_neg b]
   by_cases h:g=k
   .grind
   .have a:=beq_eq_false_iff_ne.mpr h;simp only[List.lookup,a];show(Ie f g v r)
def Dh(f:Str)(v:V):∀fs:List (Str×V),f∈(d8 f v fs).map (·.1)/\∀g,g∈fs.map (·.1)->g∈(d8 f v fs).map (·.1)
 | []=>(by simp[d8],λg h=>by simp at h)
 |(k,x,)::r=>by
  have(a,b):=Dh f v r;rw[show d8 f v _=(if k=f then _::r else _::d8 f v r)from rfl]
  grind
def Ig(f:Str)(v:V):∀fs:List (Str×V),(d8 f v fs).length<=fs.length+1
 | []=>by simp[d8]
 |(k,x,)::r=>by
  have a:=Ig f v r;rw[show d8 f v _=(if k=f then _::r else _::d8 f v r)from rfl]
  grind
variable{v:V}
def mw.some_of{o:Option Value}(r:mw (aa v) o):∃u,o=aa u/\bc v u:=by
 cases o with
 |none=>show(r).elim
 |some u=>show(u,rfl,r)
def mw.none_of{o:Option Value}(r:mw ae o):o=ae:=by
 cases o with
 |none=>rfl
 |some u=>show(r).elim
variable{u:Value}
def P1(r:bc v u):W.handedIn u=ac:=by
 cases v with
 |non=>cases (r);rfl
 |bl b=>cases (r);rfl
 |int i=>have(t,e):=(r);subst e;rfl
 |str x=>have(t,e):=(r);subst e;rfl
 |byt b=>have(t,e):=(r);subst e;rfl
 |flt b=>have(t,e):=(r);subst e;rfl
 |ref a=>cases (r);rfl
 |ty n=>cases (r);rfl
 |tx _ _=>have(t,rfl,_):=r;rfl
variable{a:Addr}{fs:List (Str×V)}
def yJ{dx:Addr}(hok:HOk P w H h)(e:H a=aa (.ins X4 dx fs)):∃mA,qo h a dx X4 mA/\(∀f,mw (fs.lookup f) (mA f))/\PySem.Within mA (fs.map (·.1))/\fs.length<=1000/\H dx=aa (.own a):=by
 have(d,z,ne,b,mA,n,r,q):=(hok a _ e);show(mA,(b,n,ne),r,q,z,d)
structure Cls(K:bf)(X4:Addr):Prop where
 pg:sD K X4 iX=ac
 hd:va K X4=ac
 po:W.plainOver K X4=ac
 sa:gN K (.ref X4) "__setattr__"=aa (aa (.builtin "object.__setattr__"))
def Cls.get(c:Cls K X4)(f:Str):sD K X4 f=ac:=c.pg
def ig(K:bf)(X4:Addr)(f:Str):Prop:=gN K (.ref X4) f=aa ae
variable{f:Str}
def ig.taker(n:ig K X4 f):W.takerIn K X4 f=aa ae:=by
 unfold W.takerIn;rw[show gN K _ f=aa ae from n];rfl
structure sM(K:bf)(X4:Addr)(m:Str)(f:Addr):Prop where
 at_:gN K (.ref X4) m=aa (aa (.ref f))
 fn:W.isFn K (.ref f)=ac
 kp:kL K (.ref f)=ac
def Ih{s:ak}{dx:Addr}{b:Bool}{Q:Z9}(I:Inv X M J H s)(e:H a=aa (.ins X4 dx fs))(c:Cls X.K X4)(n:ig X.K X4 f)(l:fs.lookup f=aa v)
 (h:∀u s',Inv X M J H s'->bc v u->Q u s'):wpAny (model X.prog X.w) A (getAttr (.ref a) f b) Q X2 s:=by
 have(mA,O,r,_,_,_):=yJ I.hok e;have(u,g,d):=mw.some_of (by rw[<- l];show r f);show PU I.kIn O (c.get f) c.hd n g (P1 d) (h u _ (I.tok _) d)
variable{m:Str}
def Di{s:ak}{dx:Addr}{g:Addr}{Q:Value×Z5->ak->Prop}(I:Inv X M J H s)(e:H a=aa (.ins X4 dx fs))(c:Cls X.K X4)(k:sM X.K X4 m g)(l:fs.lookup m=ae)
 (h:Q (.ref g,[.ref a],) s):wpAny (model X.prog X.w) A (jS (.ref a) m pl) Q X2 s:=by
 have(mA,O,r,_,_,_):=yJ I.hok e;show PV I.kIn O (c.get m) k.at_ k.fn (mw.none_of (by rw[<- l];show r m)) h
def Ii{s:ak}{dx:Addr}(I:Inv X M J H s)(e:H a=aa (.ins X4 dx fs))(c:Cls X.K X4)(n:ig X.K X4 f)(v:fs.length<1000)(p:bc y u)
 (h:∀s',Inv X M J (upd H a (.ins X4 dx (d8 f y fs))) s'->Q () s'):wpAny (model X.prog X.w) A (setAttr (.ref a) f u) Q X2 s:=by
 have(mA,O,r,wi,_,i):=yJ I.hok e;have m:(fs.map (·.1)).length<=be:=by rw[bh,fc];lia
 show PY I.kIn O c.sa c.po n.taker c.hd wi m λh' d t=>h _ ?_;have hd:∃o,h'.get? dx=aa o:=let (o,_,_,e',_):=d.ns;(o,e');show I.write (by rw[e];show qg) (.inr i) (λb q j z=>(t.2 b j).trans z) hd ?_;show(by rw[bJ O.ne];show i,?_,O.ne,d.obj,_,d.ns,λg=>?_,λg l=>?_)
 .have:=Ig f y fs;lia
 .change mw _ _;rw[Ie]
  by_cases q:g=f
  .rw[if_pos q,if_pos q];show p
  .grind
 .by_cases q:g=f
  .rw[q];show(Dh f y fs).1
  .show(Dh f y fs).2 g (wi g λz=>l ?_)
   grind
section
variable{s:ak}
def Inv.made(I:Inv X M J H s):Inv X M J (upd (upd H s.heap.objs.size (.own (s.heap.objs.size+1))) (s.heap.objs.size+1) (.ins X4 s.heap.objs.size []))
  {s with heap:=(s.heap.push oR).push (oS X4 s.heap.objs.size)}:=by
 have a:(s.heap.push oR).get? s.heap.objs.size=aa oR:=gZ s.heap rfl
 have c:((s.heap.push oR).push (oS X4 s.heap.objs.size)).get? (s.heap.objs.size+1)=aa (oS X4 s.heap.objs.size):=by
  have:=gZ (s.heap.push oR) (o:=oS X4 s.heap.objs.size) rfl
  simp_all
 have d:(s.heap.push oR).Ns s.heap.objs.size _:=(oR,#[],_,a,rfl,(λe f=>absurd f (by simp)),λ_=>rfl);show(I.laid (o:=.own _) (t':=s.toks) (λb u q=>ff _ q) (bu _) (_,a)).laid (λb u q=>ff _ q) (uU (sw _ _)) ?_;have ne:s.heap.objs.size≠s.heap.objs.size+1:=dw (jr _);show(by rw[bJ ne,ca],gJ _,ne,c,λ_=>ae,(Heap.Ns1.of_empty d).at λo q=>ff _ q,λ_=>qg,λy g=>absurd rfl g)
end
variable{env:Env}
def P2{s:ak}{Q:Z9}(b:jR e f env (eval e env)=eval e env)
 (h:wpAny (model prog w) A (eval e env) (λo a=>wpAny (model prog w) A (getAttr o f ac) Q X2 a) X2 s):wpAny (model prog w) A (eval (.Attribute e f pos) env) Q X2 s:=
 Attribute_any_ h (by rw[arm_eval_Attribute,b])
def P3(K:bf)(ta:TE)(f:Str):TE:=λJ H Q=>ta J H λx H1=>∃a X4 dx fs v,x=.ref a/\H1 a=aa (.ins X4 dx fs)/\Cls K X4/\ig K X4 f/\fs.lookup f=aa v/\Q v H1
def Dj(K:bf)(ta b:TE)(f:Str):TS:=λD J H=>b J H λy H1=>ta J H1 λx H2=>∃a X4 dx fs,x=.ref a/\H2 a=aa (.ins X4 dx fs)/\Cls K X4/\ig K X4 f/\fs.length<1000 /\
 D.nx J (upd H2 a (.ins X4 dx (d8 f y fs)))
def P4(X:Cx)(op:Operator)(rd:V->V->Hp->VK->Prop):Prop:=
 ∀(M:Z8) (s:ak) (J:St) (H:Hp) (x y:V) (u v:Value) (Q:VK),Inv X M J H s->bc x u->bc y v->rd x y H Q->wpAny (model X.prog X.w) X.A (inplaceOp op u v) (EP X M J Q) X.xe s
def P5(K:bf)(ta e:TE)(rd:V->V->Hp->VK->Prop)(f:Str):TS:=λD J H=>ta J H λx H1=>∃a X4 dx fs v,x=.ref a/\H1 a=aa (.ins X4 dx fs)/\Cls K X4/\ig K X4 f/\fs.lookup f=aa v /\
 e J H1 λy H2=>rd v y H2 λz d=>∃c b,d a=aa (.ins X4 c b)/\b.length<1000/\D.nx J (upd d a (.ins X4 c (d8 f z b)))
def Dk(j:PE X e ta)(i:jR e f X.env (eval e X.env)=eval e X.env):PE X (.Attribute e f pos) (P3 X.K ta f):=by
 intro M s J H Q I h;show P2 i (thn (j M s J H _ I h) λu s1 m=>?_);have(x,H1,b,p,a,X4,dx,fs,v,ex,g,c,n,l,q):=m;subst ex;obtain rfl:u=gt a:=p;show Ih b g c n l λr s2 d o=>(v,H1,d,o,q)
variable{o value:Expr}{tv:TE}
def Dl(ha:PE X o ta)(j:PE X value tv)(i:dz value (aa (.Attribute o f b9)) pos.line X.env=pure ah):PS X (.Assign [.Attribute o f b9] value pos) (Dj X.K ta tv f):=by
 intro M s J H D I h;show plainObj_wpAny_Assign_Attribute (thn (j M s J H _ I h) λu s1 (y,H1,b,t,q)=>thn (ha M s1 J H1 _ b q) λov s2 p=>?_) i;have(x,H2,d,r,a,X4,dx,fs,ex,g,c,n,l,m):=p;subst ex;obtain rfl:ov=gt a:=r;show Ii d g c n l t λv e=>(J,_,e,m)
variable{tpos:Pos}
def P6{op:Operator}{rd:V->V->Hp->VK->Prop}(ha:PE X o ta)(w:PE X value tv)(d:P4 X op rd):PS X (.AugAssign (.Attribute o f tpos) op value pos) (P5 X.K ta tv rd f):=by
 intro M s J H D I h;show wpAny_AugAssign_AttributeAny (thn (ha M s J H _ I h) λov s1 E=>?_);have(x,H1,e,L,a,X4,dx,fs,v,ex,r,c,n,l,q):=E;subst ex;obtain rfl:ov=gt a:=L;show Ih e r c n l λu s2 g G=>thn (w M s2 J H1 _ g q) λU T (y,H2,i,N,B)=>thn (d M T J H2 v y u U _ i G N B) λw4 s4 (z,Y,j,Q,p,t,b,A,C)=>(Ii j b c n A Q λs5 m=>(J,_,m,C))
inductive i4(K:bf)(H:Hp):V->Value->Prop where
 |non:i4 K H .non (.type "NoneType")
 |bl (x:Bool):i4 K H (.bl x) (.type "bool")
 |int (i:Int):i4 K H (.int i) (.type "int")
 |str (x:Str):i4 K H (.str x) (.type "str")
 |flt (x:UInt64):i4 K H (.flt x) (.type "float")
 |lst {a:Addr} {B:Z2} (e:H a=aa (.lst B)):i4 K H (.ref a) (.type "list")
 |frz {a:Addr} {o:Obj} {B:Z2} (e:H a=aa (.frz o (.lst B))):i4 K H (.ref a) (.type "list")
 |tup {a:Addr} {B:Z2} (e:H a=aa (.tup B)):i4 K H (.ref a) (.type "tuple")
 |dK {a:Addr} {kvs:List (Key×V)} (e:H a=aa (.dK kvs)):i4 K H (.ref a) (.type "dict")
 |dT {a:Addr} {kvs:List (List Key×V)} (e:H a=aa (.dT kvs)):i4 K H (.ref a) (.type "dict")
 |ins {a X4 dx:Addr} {fs:List (Str×V)} (e:H a=aa (.ins X4 dx fs)) (cl:Cls K X4) (ha:gN K (.ref X4) "__class__"=aa (aa (.builtin "object.__class__")))
   (hn:W.specialIn K (.builtin "object.__class__") "__get__"=aa (aa (.builtin "getset_descriptor.__get__"))) (htk:W.takesIn K (.builtin "object.__class__")=aa ac)
   (hm:iY K X4 (.type "object")=aa ac):i4 K H (.ref a) (.ref X4)
variable{Q:Z9}{c:Value}{b:Bool}
section
variable{s:ak}
def P7{x:V}{t:Value}(I:Inv X M J H s)(f:bc x u)(ty:i4 X.K H x t)(e:W.kitOne X.K t c=aa b)(h:∀tk,Q (.bool b) {s with toks:=tk}):
  wpAny (model X.prog X.w) A (call (.builtin "isinstance") [u,c]) Q X2 s:=by
 cases ty with
 |non=>cases (f);show lK W.kitx_none I.kIn qg e (λz=>nomatch z) h
 |bl y=>cases (f);show lK W.kitx_bool I.kIn qg e (λz=>nomatch z) h
 |int i=>have(t,q):=(f);subst q;show lK W.kitx_int I.kIn qg e (λz=>nomatch z) h
 |str y=>have(t,q):=(f);subst q;show lK W.kitx_str I.kIn qg e (λz=>nomatch z) h
 |flt y=>have(t,q):=(f);subst q;show lK W.kitx_float I.kIn qg e (λz=>nomatch z) h
 | @lst a B d=>
  cases (f);have(_,_,n,_,h1):=(I.hok a _ d)
  show lK W.kitx_list I.kIn (_,h1,rfl) e (λz=>nomatch z) h
 | @frz a j B d=>
  cases (f);have(_,_,_,n,_,h1):=(I.hok a _ d)
  show lK W.kitx_list I.kIn (_,h1,rfl) e (λz=>nomatch z) h
 | @tup a B d=>
  cases (f);have(_,_,_,p):=(I.hok a _ d);have(o,h1,h2,_):=p
  show lK W.kitx_tuple I.kIn (o,h1,h2) e (λz=>nomatch z) h
 | @dK a kvs d=>
  cases (f);have(_,_,C,_,p):=(I.hok a _ d);have(o,es,g,h1,h2,_):=p
  show lK W.kitx_dict I.kIn (o,h1,h2.1) e (λz=>nomatch z) h
 | @dT a kvs d=>
  cases (f);have(_,_,B,_,o,es,g,h1,h2,_):=(I.hok a _ d)
  show lK W.kitx_dict I.kIn (o,h1,h2.1) e (λz=>nomatch z) h
 | @ins a X4 dx fs d cl ha hn htk hm=>
  cases (f);have(mA,O,_):=yJ I.hok d;have(od,X1,_):=O.look;show lK (W.kitx_own (cl.get _) cl.hd ha hn htk hm) I.kIn X1 e (λz=>nomatch z) h
end
structure bn(k:Nat)(A:cq):Prop where
 hd:A.handled=ae
 dp:A.depth+3*k+5<recursionLimit
 un:A.units+16*k+200<cLine
def bn.mono{X6 k:Nat}(r:bn k A)(h:X6<=k):bn X6 A:=(r.hd,by have:=r.dp;lia,by have:=r.un;lia)
def bn.deeper{k:Nat}(r:bn (k+1) A)(env:Env):bn k (A.deeper env):=
 (r.hd,by have:=r.dp;change A.depth+1+3*k+5<_;lia,by have:=r.un;change A.units+3+16*k+200<_;lia)
def P8:(A.under (.builtin "type.__call__" (.ref X4::us,kw))).depth=A.depth+1:=by
 first |rfl |simp[cq.under]
def P9:(A.under (.builtin "type.__call__" (.ref X4::us,kw))).units=A.units+1:=by
 first |rfl |simp[cq.under]
def bn.make{k:Nat}(r:bn (k+1) A)(X4:Addr)(us:Z5)(kw:List (Str×Value)):bn k (A.under (.builtin "type.__call__" (.ref X4::us,kw))):=
 (r.hd,by have:=r.dp;rw[P8];lia,by have:=r.un;rw[P9];lia)
def bn.depth{k:Nat}(r:bn k A):A.depth<recursionLimit:=by have:=r.dp;lia
def bn.units{k:Nat}(r:bn k A):A.units+64<cLine:=by have:=r.un;lia
def lQ:TA:=λ_ H Q=>Q [] H
def nC(ta:TE)(a:TA):TA:=λJ H Q=>ta J H λx H1=>a J H1 λB H2=>Q (x::B) H2
def bM:PA X [] lQ:=λ_ _ _ _ H Q I h=>yv ([],H,I,.nil,h)
variable{t:TA}
def bD(ha:PE X e te)(c:PA X es t)(d:StE X e es<|Zb):PA X (e::es) (nC te t):=by
 intro pos M s J H Q I h;rw[d];show mq (thn (ha M s J H _ I h) λu s1 (x,H1,a,i,f)=>(thn (c pos M s1 J H1 _ a f) λus s2 (B,H2,b,j,g)=>(x::B,H2,b,.cons i j,g)))
def Qa(t:TA):TE:=λJ H Q=>t J H λB H1=>B.length<=be/\∀p,H1 p=ae->Q (.ref p) (upd H1 p (.tup B))
def Qb(t:TA):TE:=λJ H Q=>t J H λB H1=>B.length<=be/\∀p,H1 p=ae->Q (.ref p) (upd H1 p (.lst B))
def Dn{x1}(h:PA X es t):PE X (.Tuple es x1 pos) (Qa t):=by
 intro M s J H Q I c;show wpAny_Tuple_spliced (thn (h pos M s J H _ I c) λus s1 (B,H1,a,r,z,q)=>(by rw[<- r.length];show z,?_));show(.ref s1.heap.objs.size,upd H1 s1.heap.objs.size _,a.laid (λb u e=>ff _ e) (bu _) ?_,rfl,q _ (a.hok.fresh (bu _)));show(z,us,r,(_,gZ _ rfl,rfl,_,rfl))
def yK(h:PA X es t):PE X (.List es pos) (Qb t):=by
 intro M s J H Q I c;show wpAny_List_spliced (thn (h pos M s J H _ I c) λus s1 (B,H1,a,r,z,q)=>(by rw[<- r.length];show z,?_));show(.ref s1.heap.objs.size,upd H1 s1.heap.objs.size _,a.laid (λb u e=>ff _ e) (bu _) ?_,rfl,q _ (a.hok.fresh (bu _)));show(z,us,0,r,gZ _ rfl)
nonrec def Sp:=Z2->Hp->VK->XK->Prop
nonrec def CXT:=List Env->Hp->ak->XK->Z9
structure nE(P:cP)(w:World)(K:bf)(mg:Zp)(base:Heap)(A:cq)(outer:List Env)(s:ak)(H:Hp):Prop where
 frames:A.frames=aa outer
 mod:Mod K mg base
 bs:∀b o,base.get? b=aa o->s.heap.get? b=aa o/\H b=ae
 bsz:base.objs.size<=s.heap.objs.size
 funs:s.heap.FunFrames base outer
 frf:∀b∈frs outer,H b=ae
 hok:HOk P w H s.heap
 bare:mh s.gens
def CE(outer:List Env)(P:cP)(w:World)(H:Hp)(s:ak)(Q:VK)(u:Value)(s':ak):Prop:=
 ∃v H',s'.os=s.os/\mh s'.gens/\Un (frs outer) [] H H' s.heap s'.heap/\HOk P w H' s'.heap/\bc v u/\Q v H'
def CR(CX:CXT)(outer:List Env)(P:cP)(w:World)(H:Hp)(s:ak)(Q:VK)(X2:XK)(r:Result)(s':ak):Prop:=
 match r with
 |.ok (.ret u)=>CE outer P w H s Q u s'
 |.ok _=>False
 |.error e=>CX outer H s X2 e s'
structure dA(P:cP)(w:World)(K:bf)(mg:Zp)(base:Heap)(CX:CXT)(k:Nat)(f:Addr)(fd:eS)(ps:Z1)(sp:Sp):Prop where
 len:∀C H Q X2,sp C H Q X2->C.length=ps.length
 run:∀(A:cq) (outer:List Env) (s:ak) (H:Hp) (args:Args) (us:Z5) (C:Z2) (Q:VK) (X2:XK),bn k A->nE P w K mg base A outer s H->nu s fd args (ps.zip us)->aQ C us->sp C H Q X2 ->
  iF (model P w) A (.call (.ref f) args) (CR CX outer P w H s Q X2) s
variable{mg:Zp}{base:Heap}{CX:CXT}{f:Addr}{fd:eS}{ps:Z1}{sp:Sp}
def dA.imp{k:Nat}{a:Sp}(F:dA P w K mg base CX k f fd ps sp)
 (h:∀C H Q X2,a C H Q X2->sp C H Q X2):dA P w K mg base CX k f fd ps a:=
 (λC H Q X2 q=>F.len C H Q X2 (h _ _ _ _ q),λA outer s H args us C Q X2 d c b g e=>F.run A outer s H args us C Q X2 d c b g (h _ _ _ _ e))
variable{outer:List Env}
def nE.make{s:ak}(e:nE P w K mg base A outer s H)(X4:Addr)(us:Z5)(kw:List (Str×Value)):
  nE P w K mg base (A.under (.builtin "type.__call__" (.ref X4::us,kw))) outer s H:=⟨by first |show e.frames |(simpa[cq.under]using e.frames),e.mod,e.bs,e.bsz,e.funs,e.frf,e.hok,e.bare⟩
def Inv.env0{s:ak}(I:Inv X M J H s):nE X.prog X.w X.K X.mg X.base X.A X.stack s H:=
 (I.ok.frames,I.ok.mod,I.bs,cf I.ok.bsz I.sz,I.stack,I.stkFree,I.hok,I.bare)
variable{Q:VK}
def Inv.after{s:ak}(I:Inv X M J H s)(h:CE X.stack X.prog X.w H s Q u s'):EP X M J Q u s':=by
 have(v,H',os,bare,un,hok,r,q):=h;have(c,g,d,t,a):=s';obtain rfl:a=s.os:=os;show(v,H',I.call un hok bare (λb z=>absurd z (by simp)),r,q)
def Ij(sp:Sp)(a:Z2)(X2:XK)(t:TA):TE:=λJ H Q=>t J H λC H1=>sp (C++a) H1 Q X2
def qp(X4:Addr)(m:Str)(sp:Sp)(b:Z2)(X2:XK)(ta:TE)(t:TA):TE:=λJ H Q=>ta J H λx H1=>∃a dx fs,x=.ref a/\H1 a=aa (.ins X4 dx fs)/\fs.lookup m=ae /\
 t J H1 λC H2=>sp (x::(C++b)) H2 Q X2
def Do(X4:Addr)(sp:Sp)(a:Z2)(X2:XK)(t:TA):TE:=λJ H Q=>t J H λC H1=>∀x dx,H1 x=ae->H1 dx=ae->dx≠x ->
 sp (.ref x::(C++a)) (upd (upd H1 dx (.own x)) x (.ins X4 dx [])) (λv H2=>v=.non/\Q (.ref x) H2) X2
def fN(K:bf)(fd:eS)(ps:Z1)(j:Z5):Prop:=
 ∀(s:ak) (us:Z5),K.In s.heap->(us++j).length=ps.length->nu s fd (us,[]) (ps.zip (us++j))
def fN.all(h:∀us:Z5,us.length=ps.length->bindArgs fd (us,[])=pure (ps.zip us)):fN K fd ps []:=λs us _ a=>by
 rw[bZ]at a ⊢;show .of_eq (h us a)
def i6(CX:CXT)(X:Cx)(X2:XK):Prop:=∀(M:Z8) (J:St) (H:Hp) (s:ak) (e:Value) (s':ak),Inv X M J H s->CX X.stack H s X2 e s'->X.xe e s'
variable{d3 C:Z2}{j:Z5}{X2:XK}
def Dr{k:Nat}{s:ak}(F:dA X.prog X.w X.K X.mg X.base CX k f fd ps sp)(g:bn k X.A)(c:fN X.K fd ps j)(hd:aQ d3 j)(hx:i6 CX X X2)
 (I:Inv X M J H s)(r:aQ C us)(h:sp (C++d3) H Q X2):wpAny (model X.prog X.w) X.A (call (.ref f) us) (EP X M J Q) X.xe s:=by
 have b:=r.append hd;have d:(us++j).length=ps.length:=by rw[<- b.length];show F.len _ _ _ _ h
 show ss (nh (F.run X.A X.stack s H (us,[]) _ _ Q X2 g I.env0 (c s us I.kIn d) b h) λr s' a=>?_)
 cases r with
 |error e=>show hx M J H s e s' I a
 |ok fl=>
  cases fl with
  |ret u=>show I.after a
  |next=>show f8 a
  |brk=>show f8 a
  |cont=>show f8 a
variable{x:Str}{p:Pos}
def sN{k:Nat}(F:dA X.prog X.w X.K X.mg X.base CX k f fd ps sp)(m:bn k X.A)(i:Gl X x)(hm:X.mg x=aa (.ref f))(l:kL X.K (.ref f)=ac)(d:fN X.K fd ps j)(hd:aQ d3 j)(hx:i6 CX X X2)
 (ha:PA X (e::es) t)(a:NDb x<|Zc)(g:StE X e es<|Zb)(b:BkE X pos es<|Zb):
  PE X (.Call (.Name x p) (e::es) [] pos) (Ij sp d3 X2 t):=by
 intro M s J H Q I h;show lF (mx I i hm ?_ a);show sC I.ok.mod.kin l (thn (ha pos M s J H _ I h) λus s1 (C,H1,c,r,q)=>(c.kIn,(Dr F m d hd hx c r q))) g b
variable{apos:Pos}
def Ds{k:Nat}(v:PE X o ta)(c:Cls X.K X4)(hm:sM X.K X4 m f)(F:dA X.prog X.w X.K X.mg X.base CX k f fd ps sp)(y:bn k X.A)(p:fN X.K fd ps j)(hd:aQ d3 j)(hx:i6 CX X X2)(ha:PA X (e::es) t)
 (d:StE X e es<|Zb)(b:BkE X pos es<|Zb)
 (z:(eval (.Call (.Attribute o m apos) (e::es) [] pos) X.env=(do
   let ov <- eval o X.env
   gY apos.atName
   let (f,first,) <- fX [ov] (jS ov m pl)
   lH pos f first (cD pos (ba (e::es) X.env)) (gM pos (gL [] X.env))))<|Zb):
  PE X (.Call (.Attribute o m apos) (e::es) [] pos) (qp X4 m sp d3 X2 ta t):=by
 intro M s J H Q I h;show W.methodCall_KW (thn (v M s J H _ I h) λu s1 E=>?_) z;have(x,H1,g,G,a,dx,fs,ex,n,l,q):=E;subst ex;obtain rfl:u=gt a:=G;show Di g n c hm l ?_;show sC I.ok.mod.kin hm.kp (thn (ha pos M s1 J H1 _ g q) λus s2 (C,H2,i,r,B)=>(i.kIn,(Dr (C:=.ref a::C) F y p hd hx i (.cons rfl r) B))) d b
def ve{k:Nat}(g:PE X o ta)(c:Cls X.K X4)(hm:sM X.K X4 m f)(F:dA X.prog X.w X.K X.mg X.base CX k f fd ps sp)(i:bn k X.A)(e:fN X.K fd ps j)(hd:aQ d3 j)(hx:i6 CX X X2)
 (n:(eval (.Call (.Attribute o m apos) [] [] pos) X.env=(do
   let ov <- eval o X.env
   gY apos.atName
   let (f,first,) <- fX [ov] (jS ov m pl)
   lH pos f first (cD pos (ba [] X.env)) (gM pos (gL [] X.env))))<|Zb):
  PE X (.Call (.Attribute o m apos) [] [] pos) (qp X4 m sp d3 X2 ta lQ):=by
 intro M s J H Q I h;show W.methodCall_KW (thn (g M s J H _ I h) λu s1 p=>?_) n;have(x,H1,b,r,a,dx,fs,ex,d,l,q):=p;subst ex;obtain rfl:u=gt a:=r;show Di b d c hm l (W.callWith_K0 b.kIn hm.kp (Dr (C:=[.ref a]) F i e hd hx b (.cons rfl .nil) q))
structure Mk(K:bf)(X4 f:Addr):Prop where
 makes:W.makesIn K X4=ac
 init:gN K (.ref X4) "__init__"=aa (aa (.ref f))
 fn:W.isFn K (.ref f)=ac
 kp:kL K (.ref X4)=ac
def Ik{k:Nat}{s:ak}(X0:Mk X.K X4 f)(F:dA X.prog X.w X.K X.mg X.base CX k f fd ps sp)(n:bn (k+1) X.A)(l:fN X.K fd ps j)(hd:aQ d3 j)
 (hx:i6 CX X X2)(I:Inv X M J H s)(r:aQ C us)
 (h:∀x dx,H x=ae->H dx=ae->dx≠x->sp (.ref x::(C++d3)) (upd (upd H dx (.own x)) x (.ins X4 dx [])) (λv H2=>v=.non/\Q (.ref x) H2) X2):
  wpAny (model X.prog X.w) X.A (call (.ref X4) us) (EP X M J Q) X.xe s:=by
 have c:=h _ s.heap.objs.size (I.hok.fresh (m9 _)) (I.hok.fresh (bu _)) (dw (jr _));have b:=Inv.made (X4:=X4) I;have d:aQ (V.ref _::_) (gt (s.heap.objs.size+1)::_):=.cons rfl (r.append hd)
 have m:(gt (s.heap.objs.size+1)::us++j).length=ps.length:=by
  have e:=d.length;rw[F.len _ _ _ _ c]at e;show e.symm
 show ss (PZ I.kIn X0.makes X0.init (beq_iff_eq.mp X0.fn) (nh (F.run _ X.stack _ _ (gt _::us,[]) _ _ _ X2 (n.make X4 us [])
  (b.env0.make X4 us []) (l _ _ b.kIn m) d c) λr s' a=>?_))
 cases r with
 |error e=>show hx M J _ _ e s' b a
 |ok fl=>
  cases fl with
  |ret u=>
   have(v,H',g,p,i,o):=b.after a;subst i
   show(p,(V.ref _,H',g,rfl,o))
  |next=>show f8 a
  |brk=>show f8 a
  |cont=>show f8 a
def Qc{k:Nat}(X0:Mk X.K X4 f)(F:dA X.prog X.w X.K X.mg X.base CX k f fd ps sp)(l:bn (k+1) X.A)(i:Gl X x)(hm:X.mg x=aa (.ref X4))(d:fN X.K fd ps j)(hd:aQ d3 j)(hx:i6 CX X X2)
 (ha:PA X (e::es) t)(a:NDb x<|Zc)(g:StE X e es<|Zb)(b:BkE X pos es<|Zb):
  PE X (.Call (.Name x p) (e::es) [] pos) (Do X4 sp d3 X2 t):=by
 intro M s J H Q I h;show lF (mx I i hm ?_ a);show sC I.ok.mod.kin X0.kp (thn (ha pos M s J H _ I h) λus s1 (C,H1,c,r,q)=>(c.kIn,(Ik X0 F l d hd hx c r q))) g b
def Qd{k:Nat}(X0:Mk X.K X4 f)(F:dA X.prog X.w X.K X.mg X.base CX k f fd ps sp)(d:bn (k+1) X.A)(c:Gl X x)(hm:X.mg x=aa (.ref X4))(b:fN X.K fd ps j)(hd:aQ d3 j)(hx:i6 CX X X2)
 (a:NDb x<|Zc):PE X (.Call (.Name x p) [] [] pos) (Do X4 sp d3 X2 lQ):=by
 intro M s J H Q I h;show lF (mx I c hm (W.callWith_K0 I.kIn X0.kp (Ik X0 F d b hd hx I .nil h)) a)
structure aP(N P:Z1)(sc:Scope):Prop where
 kind:sc.kind=.function
 co:sc.isCoroutine=ah
 gen:sc.isGenerator=ah
 nd:N.Nodup
 pre:N.take P.length=P
 par:∀x∈P,sc.names.lookup x=aa .local\/sc.names.lookup x=aa .cell
 nofree:∀y∈sc.names,y.2≠.free
def Il{kindOf:Str->Option iE}{x:Str}:∀{binds:List (Str×Value)} {m:Zp},(∀v,(x,v,)∉binds)->bindL kindOf binds m x=m x
 | [],_,_=>rfl
 |(n,v,)::r,m,h=>by
  unfold bindL;rw[Il λw a=>h w (bx _ a)];split
  .grind
  .rfl
def Im{kindOf:Str->Option iE}{x:Str}:∀{binds:List (Str×Value)} {m:Zp},(∀v,(x,v,)∉binds)->bindC kindOf binds m x=m x
 | [],_,_=>rfl
 |(n,v,)::r,m,h=>by
  unfold bindC;rw[Im λw a=>h w (bx _ a)];split
  .rfl
  .grind
def Io{kindOf:Str->Option iE}{x:Str}{v:Value}:∀{P:Z1} {C:Z5} {i:Nat} {m:Zp},P.Nodup->P[i]?=aa x->C[i]?=aa v->kindOf x=aa .local ->
  bindL kindOf (P.zip C) m x=aa v
 | [],_,_,_,_,h,_,_=>by simp at h
 | _::_,[],_,_,_,_,h,_=>by simp at h
 |p::P,w::C,0,m,nd,h1,h2,hk=>by
  simp at h1 h2;subst h1;subst h2;change bindL kindOf (_::P.zip C) m p=_;dsimp only[bindL];rw[Il λv a=>(f9.mp nd).1 (of_mem_zip a).1,if_pos hk]
  simp
 |p::P,w::C,i+1,m,nd,h1,h2,hk=>by
  change bindL kindOf (_::P.zip C) m x=_;show Io (f9.mp nd).2 (by simpa using h1) (by simpa using h2) hk
def Ip{kindOf:Str->Option iE}{x:Str}{v:Value}:∀{P:Z1} {C:Z5} {i:Nat} {m:Zp},P.Nodup->P[i]?=aa x->C[i]?=aa v->kindOf x≠aa .local ->
  bindC kindOf (P.zip C) m x=aa v
 | [],_,_,_,_,h,_,_=>by simp at h
 | _::_,[],_,_,_,_,h,_=>by simp at h
 |p::P,w::C,0,m,nd,h1,h2,hk=>by
  simp at h1 h2;subst h1;subst h2;change bindC kindOf (_::P.zip C) m p=_;dsimp only[bindC];rw[Im λv a=>(f9.mp nd).1 (of_mem_zip a).1,if_neg hk]
  simp
 |p::P,w::C,i+1,m,nd,h1,h2,hk=>by
  change bindC kindOf (_::P.zip C) m x=_;show Ip (f9.mp nd).2 (by simpa using h1) (by simpa using h2) hk
def start(N:Z1)(C:Z2):St:=C.map aa++jN (N.length-C.length) ae
abbrev eU(CX:CXT)(P:cP)(w:World)(K:bf)(mg:Zp)(base:Heap)(N:Z1)(qual:Str)(scope:Scope)(f:Addr)(cd:Value)(A:cq)(outer:List Env)(s:ak)(H:Hp)(X2:XK):Cx where
 prog:=P
 w:=w
 K:=K
 mg:=mg
 base:=base
 A:=A.deeper (fE qual scope s.heap.objs.size f cd)
 N:=N
 s₀:=s
 H₀:=H
 env:=fE qual scope s.heap.objs.size f cd
 outer:=outer
 stack:=fE qual scope s.heap.objs.size f cd::outer
 ex:=[]
 calm:=ac
 fn:=λ_=>ac
 pn:=[]
 xe:=λe s'=>wpAny (model P w) (A.deeper (fE qual scope s.heap.objs.size f cd)) (leaving (fE qual scope s.heap.objs.size f cd) e) (λ_ s''=>CX outer H s X2 e s'') (λe' s''=>CX outer H s X2 e' s'') s'
variable{n:Nat}
def Iq{sc:Scope}(h:sc.names.lookup x=aa .cell):∃c,(cellsFrom n sc.names []).lookup x=aa c:=by
 show Option.isSome_iff_exists.mp (yA sc.names n [] (.inl h))
variable{qual:Str}{scope:Scope}
def Dt{m:Value}{s s1:ak}
 (S:aP N ps scope)(hd:A.handled=ae)(d:nE P w K mg base A outer s H)(G:C.length=ps.length)(r:aQ C us)
 (x:InCallC s s.heap.objs.size (bindL (fE qual scope s.heap.objs.size f m).kindOf (ps.zip us) λ_=>ae) (cellsFrom (s.heap.objs.size+1) scope.names []) (bindC (fE qual scope s.heap.objs.size f m).kindOf (ps.zip us) λ_=>ae) s1):
  Inv (eU CX P w K mg base N qual scope f m A outer s H X2) [] (start N C) H s1:=by
 have t:ps.length<=N.length:=by have:=congrArg me S.pre;rw[qd]at this;lia
 have(h1,tk,rfl,n):=x.done;have j:∀b:Addr,b∉(eU CX P w K mg base N qual scope f m A outer s H X2).ex:=λb z=>absurd (show b∈([]:Z7)from z) (by simp)
 show((d.mod,S.kind,rfl,rfl,bu _,λy z c h1 h2=>?_,λy g=>?_,λy c _ h=>?_,λ_=>hd,cq.frames_deeper d.frames,.inr (rfl,rfl),λb z=>absurd z (j b),d.bs,d.bsz,λb _ _=>j b,λb z=>absurd z (j b),d.funs,d.frf),
  rfl,d.bare,Un.kept n,(_,x.toInCall.ns,λi y v h1 h2 E=>?_),λy c h=>(_,x.cell y c h),d.hok.fresh (bu _),λy c h=>?_,λp hp=>absurd (show p∈([]:List _)from hp) (by simp),d.hok.kept n,?_)
 .show name_of_addr x.apart (uY h1) (uY h2)
 .have g:=g
  rcases g with g |g
  .show Iq g
  .show absurd rfl (S.nofree _ (uY g))
 .show oH (x.above y c (uY h))
 .have hi:i<C.length:=by
   unfold start at h2
   by_cases hi:i<C.length
   .show hi
   .rw[se (by simpa using hi)]at h2;rw[xZ]at h2
    split at h2 <;> nomatch h2
  have ha:C[i]?=aa v:=by
   unfold start at h2;rw[oB (by simpa using hi),fV]at h2
   cases e:C[i]? with
   |none=>rw[e]at h2;nomatch h2
   |some a=>rw[e]at h2;cases h2;rfl
  have(u,o,B):=r.get ha
  have hp:ps[i]?=aa y:=by
   rw[<- S.pre,List.getElem?_take_of_lt (by lia)];show h1
  have l:ps.Nodup:=by rw[<- S.pre];show S.nd.sublist (take_sublist _ _)
  show(u,B,?_)
  rcases S.par y (iV hp)with k |k
  .show .inl (k,Io l hp o k)
  .have(c,e):=Iq k;show .inr (.inl k,c,e,?_);have q:=x.cell y c e;rw[Ip l hp o (by change scope.names.lookup y≠_;rw[k];decide)]at q;show q
 .show d.hok.fresh (oH (x.above y c (uY h)))
 .unfold start;change _=N.length;rw[aX,bh,sh]
  lia
variable{params:Arguments}{an od:Option Addr}{osl:Array (Option Value)}
def Ir{k:Nat}{z kV doc pm cdv ct oc:Value}
  (M:K.lookup f=aa (oc,od,.func (lN name qual params body scope z kV doc pm an cdv ct),osl))(j:W.codeIn K cdv qual=ac)(S:aP N ps scope)
 (len:∀C H Q X2,sp C H Q X2->C.length=ps.length)
 (a:∀ (A:cq) (outer:List Env) (s:ak) (H:Hp) (C:Z2) (Q:VK) (X2:XK),bn k (A.deeper (fE qual scope s.heap.objs.size f cdv))->sp C H Q X2 ->
   ∃t,PSs (eU CX P w K mg base N qual scope f cdv A outer s H X2) body t/\t {nx:=λ_ H'=>Q .non H',rt:=Q} (start N C) H):
  dA P w K mg base CX (k+1) f (lN name qual params body scope z kV doc pm an cdv ct) ps sp:=by
 show(len,λA outer s H args us C Q X2 l g B r i=>?_);have p:=g.mod.kin.keeps λb o e=>(g.bs b o e).1
 have c:∀y∈ps.zip us,scope.names.lookup y.1=aa .local\/(scope.names.lookup y.1=aa .cell/\((cellsFrom (s.heap.objs.size+1) scope.names []).lookup y.1).isSome=ac):=λ(n,v) L=>by
  rcases S.par n (of_mem_zip L).1 with q |q
  .show .inl q
  .show .inr (q,yA _ _ _ (.inl q))
 show CJ l.depth (p _ _ M) rfl S.co S.gen rfl (W.codeRec_of p j) (B _ _ _ _ ?_);show CH S.kind c λenv E s1 x=>?_;subst E;show((g.mod.nolimit.keeps λb o e=>(g.bs b o e).1).keeps x.toInCall.keep,codeAny_func ?_);have(t,J,G):=a A outer s H C Q X2 (l.deeper _) i;have I:Inv (eU CX P w K mg base N qual scope f cdv A outer s H X2) [] _ H s1:=Dt S l.hd g (len _ _ _ _ i) r x;show d6 (J [] s1 _ H _ I G) (λfl s' d=>?_) λe s' d=>d
 have h:∀{σ':St} {H':Hp} {v:V} {u:Value},Inv (eU CX P w K mg base N qual scope f cdv A outer s H X2) [] σ' H' s'->bc v u->Q v H'->CE outer P w H s Q u s':=
  λ{σ' H' v u} X1 m q=>(v,H',X1.os,X1.bare,X1.base,X1.hok,m,q)
 cases fl with
 |ret u=>
  have(v,σ',H',X1,m,q):=d
  show h X1 m q
 |next=>
  have(σ',H',X1,q):=d
  show h (v:=V.non) X1 rfl q
 |brk=>
  have(_,_,_,q):=d
  show f8 q
 |cont=>
  have(_,_,_,q):=d;show f8 q
def tCB(r:Z2->Hp->VK->Prop)(t:TA):TE:=λJ H Q=>t J H λC H1=>r C H1 Q
variable{r:Z2->Hp->VK->Prop}
def Is{id:String}(d:ju X (.builtin id) r)(g:Gl X x)(hm:X.mg x=ae)(i:kH x=aa (.builtin id))(ha:PA X (e::es) t)(hn:x ≠ "__name__"<|Zc)(a:NDb x<|Zc)
 (f:StE X e es<|Zb)(b:BkE X pos es<|Zb):PE X (.Call (.Name x p) (e::es) [] pos) (tCB r t):=by
 intro M s J H Q I h;show lF (oU I g hm i (Hv (thn (ha pos M s J H _ I h) λus s1 (C,H1,c,l,j)=>d M s1 J H1 C us Q c l j) f b) hn a)
variable{T:String}
def Du(d:ju X (.type T) r)(g:Gl X x)(hm:X.mg x=ae)(i:kH x=aa (.type T))(ha:PA X (e::es) t)(hn:x ≠ "__name__"<|Zc)(a:NDb x<|Zc)
 (f:StE X e es<|Zb)(b:BkE X pos es<|Zb):PE X (.Call (.Name x p) (e::es) [] pos) (tCB r t):=by
 intro M s J H Q I h;show lF (oU I g hm i (uX (thn (ha pos M s J H _ I h) λus s1 (C,H1,c,l,j)=>d M s1 J H1 C us Q c l j) f b) hn a)
end L2
namespace HT
open List
open PySem PyProof.Rows
open PySem.SeqAt
open PySem.AutoSeq1 (wpAny_loadPart')
open PySem.MeetsSeq PySem.MeetsSeq2 PySem.MeetsSeq3
abbrev sIx(n d:Nat):Option Int->Nat
 |none=>d
 |some v=>if v<0 then (v+(n:Int)).toNat else min v.toNat n
def sIx_none(n d:Nat):sIx n d ae=d:=rfl
def sIx_nat(n d k:Nat):sIx n d (aa (k:Int))=min k n:=by rfl
end HT
namespace L2
open List
open PySem PySem.Spec PyProof.Rows
nonrec def TO:=St->Hp->(Option Int->Hp->Prop)->Prop
def PO(X:Cx)(e:Option Expr)(t:TO):Prop:=
 ∀(M:Z8) (s:ak) (J:St) (H:Hp) (Q:Option Int->Hp->Prop),Inv X M J H s->t J H Q ->
  wpAny (model X.prog X.w) X.A (evalPart e X.env) (λu s'=>∃o H',Inv X M J H' s'/\IsPart u o/\Q o H') X.xe s
def Qe:TO:=λ_ H Q=>Q ae H
def Qf(t:TE):TO:=λJ H Q=>t J H λx H1=>∃i,x=.int i/\Q (aa i) H1
variable{X:Cx}
def Qg:PO X ae Qe:=by
 intro M s J H Q I h;show dZ (ae,H,I,.none,h)
variable{e:Expr}{te:TE}
def Qh(h:PE X e te):PO X (aa e) (Qf te):=by
 intro M s J H Q I b;show thn (h M s J H _ I b) λu s1 d=>?_;have(x,H1,a,f,c):=d;have(i,rfl,q):=c;have(t,rfl):=f;show(aa i,H1,a,.int i t,q)
variable{lo hi:Option Expr}
def SlR(X:Cx)(r:V->Option Int->Option Int->Hp->VK->Prop):Prop:=
 ∀(M:Z8) (s:ak) (J:St) (H:Hp) (x:V) (v a b:Value) (lo hi:Option Int) (sl:Addr) (Q:VK),Inv X M J H s->bc x v->s.heap.IsSliceOf sl a b .none->IsPart a lo->IsPart b hi->r x lo hi H Q ->
  ∃T id,typeLookup (.type T) "__getitem__"=pure (aa (.builtin id))/\s.TypeIs v T/\wpAny (model X.prog X.w) X.A (getItem v (.ref sl)) (EP X M J Q) X.xe s
def tSl(r:V->Option Int->Option Int->Hp->VK->Prop)(te:TE)(tl c:TO):TE:=λJ H Q=>te J H λx H1=>tl J H1 λl a=>c J a λu b=>r x l u b Q
variable{tl th:TO}{pos p2:Pos}
def Dv{r:V->Option Int->Option Int->Hp->VK->Prop}(z:SlR X r)(t:PE X e te)(y:PO X lo tl)(B:PO X hi th):PE X (.Subscript e (.Slice lo hi ae p2) pos) (tSl r te tl th):=by
 intro M s J H Q I h;show Subscript_ (thn (t M s J H _ I h) λv s1 c=>?_);have(x,H1,j,U,G):=c;show wpAny_Slice (thn (y M s1 J H1 _ j G) λd s2 (l,i,m,C,L)=>thn (B M s2 J i _ m L) λf a c=>?_);have(u,g,n,E,N):=c;show dZ ?_
 have o:Inv X M J g {a with heap:=a.heap.push {cls:=.type "slice",data:=.fields #[d,f,.none]}}:=n.kept λb Y q=>ff _ q
 have(T,id,p,A,w):=z M {a with heap:=a.heap.push {cls:=.type "slice",data:=.fields #[d,f,.none]}} J g x v d f l u a.heap.objs.size Q o U (Heap.IsSliceOf.new ..) C E N
 show tail_any A p w (by with_unfolding_all rfl)
def vf(B:Z2)(lo hi:Option Int):Z2:=(B.drop (HT.sIx B.length 0 lo)).take (HT.sIx B.length B.length hi-HT.sIx B.length 0 lo)
def Qi(B:Z2)(lo hi:Option Int):(vf B lo hi).length<=B.length:=by
 unfold vf;rw[qd,m8]
 lia
def ixN(n:Nat)(i:Int):Option Nat:=if 0<=i then (if i<n then aa i.toNat else ae) else if -(n:Int)<=i then aa (i+n).toNat else ae
def atI{a:Type}(B:List a)(i:Int):Option a:=(ixN B.length i).bind λX6=>B[X6]?
variable{n X6:Nat}{i:Int}
def Iu(h:ixN n i=aa X6):seqIndex? i n=aa X6/\X6<n/\-(n:Int)<=i/\i<n:=by
 unfold ixN at h
 by_cases b:0<=i
 .rw[if_pos b]at h
  by_cases a:i<n
  .rw[if_pos a]at h;have e:=cp h;show(by rw[seqIndex_of b a,e],by lia,by lia,a)
  .rw[if_neg a]at h;nomatch h
 .rw[if_neg b]at h
  by_cases a:-n<=i
  .rw[if_pos a]at h;have e:=cp h;show(by rw[seqIndex_neg (by lia) a,e],by lia,a,by lia)
  .rw[if_neg a]at h;nomatch h
def Dw{a:Type}{B:List a}{v:a}(h:atI B i=aa v):∃X6,seqIndex? i B.length=aa X6/\B[X6]?=aa v/\X6<B.length/\-(B.length:Int)<=i/\i<B.length:=by
 unfold atI at h
 cases e:ixN B.length i with
 |none=>rw[e]at h;nomatch h
 |some X6=>
  rw[e]at h;have(b,c,d,f):=Iu e;show(X6,b,h,c,d,f)
def Qj{a:Type}{B:List a}{v:a}(h:B[X6]?=aa v):atI B (X6:Int)=aa v:=by
 have b:=(dW.mp h).1
 have e:ixN B.length X6=aa X6:=by
  unfold ixN;rw[if_pos (by lia),if_pos (by lia)];simp
 unfold atI;rw[e];show h
def qq(b:Expr):Prop:=∀o i,subscripted b ah o i=operate [o,i] (getItem o i)
def IxR(X:Cx)(r:R2):Prop:=
 ∀(value slice:Expr) (M:Z8) (s:ak) (J:St) (H:Hp) (x y:V) (v u:Value) (Q:VK),Inv X M J H s->bc x v->bc y u->r x y H Q ->
  subscripted slice ah v u=operate [v,u] (getItem v u)->wpAny (model X.prog X.w) X.A (subscriptTail value slice v u) (EP X M J Q) X.xe s
def MtR(X:Cx)(id:String)(r:V->Z2->Hp->VK->Prop):Prop:=
 ∀(M:Z8) (s:ak) (J:St) (H:Hp) (x:V) (B:Z2) (v:Value) (us:Z5) (Q:VK),Inv X M J H s->bc x v->aQ B us->r x B H Q ->
  wpAny (model X.prog X.w) X.A (call (.builtin id) (v::us)) (EP X M J Q) X.xe s
variable{r r':R2}
def IxR.or(h:IxR X r)(h':IxR X r'):IxR X (λx y H Q=>r x y H Q\/r' x y H Q):=by
 intro value slice M s J H x y v u Q I b c q a
 rcases q with q |q
 .show h value slice M s J H x y v u Q I b c q a
 .show h' value slice M s J H x y v u Q I b c q a
variable{a b:Expr}{ta tb:TE}
def yL(f:IxR X r)(ha:PE X a ta)(e:PE X b tb)(g:qq b):PE X (.Subscript a b pos) (tOp r ta tb):=by
 intro M s J H Q I h;show Subscript_ (yG ha e I h λv u s2 x y c d i j q=>f a b M s2 J c x y v u Q d i j q (g _ _))
def Qk(K:bf):R2:=λx y H Q=>∃p B i v,x=.ref p/\y=.int i/\SqL K H p B/\atI B i=aa v/\Q v H
def Ql(K:bf):R2:=λx y H Q=>∃p B i v,x=.ref p/\y=.int i/\SqT K H p B/\atI B i=aa v/\Q v H
def yM:IxR X (Qk X.K):=by
 intro value slice M s J H x y v u Q I E G h j;have(p,B,i,z,rfl,rfl,C,o,q):=h;subst E;have(t,rfl):=G;have(its,r,d,N):=I.list C;have(X6,b,l,L,m,n):=Dw o;have(w,f,e):=r.get l;have A:=r.length;have hn:=sL;have a:EP X M J Q w s:=(z,H,I,e,q)
 by_cases g:0<=i
 .have c:i.toNat=X6:=by
   rw[seqIndex_of g n]at b;show cp b
  show item_listR d.isList g (by lia) (by rw[c];simpa using f) a j
 .have c:(i+its.toArray.size).toNat=X6:=by
   rw[seqIndex_neg (by lia) m]at b;rw[size_toArray,<- A];show cp b
  show subscriptTail_builtinR d.isList.typeIs slot_list_getitem.lookup
   (wpAny_getItem_list_neg d.isList (by lia) (by rw[size_toArray] <;> lia) (by lia) (by rw[c];simpa using f) (rfl,a)) j
def Iv:IxR X (Ql X.K):=by
 intro value slice M s J H x y v u Q I m n h l;have(p,B,i,z,rfl,rfl,j,g,q):=h;subst m;have(t,rfl):=n;have(its,r,c,E):=I.tuple j;have(X6,e,f,o,A,C):=Dw g;have(w,d,b):=r.get f;have hn:=sL;have a:EP X M J Q w s:=(z,H,I,b,q)
 show subscriptTail_builtinR c.typeIs slot_tuple_getitem.lookup
  (getItem_tuple c (by lia) (by lia) (by rw[size_toArray,<- r.length];show e) (by simpa using d) (rfl,a)) l
def Qm(its:Z5)(n X6:Nat)(u:Value):Obj.mapSeq (·.setIfInBounds X6 u) {cls:=.type "list",data:=.seq its.toArray n}={cls:=.type "list",data:=.seq (its.set X6 u).toArray n}:=by
 simp[Obj.mapSeq]
variable{M:Z8}{J:St}{H:Hp}{p:Addr}{B:Z2}
def Inv.lst{s:ak}(I:Inv X M J H s)(h:H p=aa (.lst B)):
  ∃(its:Z5) (n:Nat),aQ B its/\s.heap.get? p=aa {cls:=.type "list",data:=.seq its.toArray n}/\B.length<=be:=by
 have(z,its,n,r,e):=I.hok p _ h;show(its,n,r,e,z)
variable{ys:Z2}{its d4:Z5}{n':Nat}
def Inv.lstUpd{s:ak}{f:Obj->Obj}(I:Inv X M J H s)(h:H p=aa (.lst B))
 (d:s.heap.get? p=aa {cls:=.type "list",data:=.seq its.toArray n})(a:f {cls:=.type "list",data:=.seq its.toArray n}={cls:=.type "list",data:=.seq d4.toArray n'})(r:aQ ys d4)(g:ys.length<=be)(t:Nat):
  Inv X M J (upd H p (.lst ys)) {s with heap:=s.heap.update p f,toks:=t}:=by
 have e:(s.heap.update p f).get? p=aa {cls:=.type "list",data:=.seq d4.toArray n'}:=by
  rw[Heap.get?_update_self f d (by rw[a] <;> rfl),a]
 show I.write (by rw[h];trivial) (.inl rfl) (λb u c q=>(Heap.get?_update_other _ _ (iB c)).trans q) (_,e) (g,d4,n',r,e)
abbrev Iw:V->V->V->Hp->(Hp->Prop)->Prop:=λo i v H Q=>∃p B k X6,o=.ref p/\i=.int k/\H p=aa (.lst B)/\ixN B.length k=aa X6/\Q (upd H p (.lst (B.set X6 v)))
def Qn:HJ X Iw:=by
 intro M s J H o i v ov A u Q I x w y h;have(p,B,k,X6,rfl,rfl,hp,l,q):=h;subst x;have(t,rfl):=w;have(its,n,r,d,m):=I.lst hp;have(a,z,g,j):=Iu l;have c:=r.length;have hn:=sL
 have e:Inv X M J _ {s with heap:=s.heap.update p _}:=
  I.lstUpd hp d (Qm its n X6 u) (r.set y X6) (by rw[oE];show m) s.toks
 by_cases f:0<=k
 .have b:k.toNat=X6:=by
   rw[seqIndex_of f j]at a;show cp a
  show W.ki_setAt d f (by lia) (by rw[size_toArray,<- c];show j) (by rw[b];show(_,e,q))
 .have b:(k+its.toArray.size).toNat=X6:=by
   rw[seqIndex_neg (by lia) g]at a;rw[size_toArray,<- c];show cp a
  show W.ki_setBack d (by lia) (by rw[size_toArray,<- c];show g) (by lia) (by rw[b];show(_,e,q))
def Qo(lo hi:Option Int)(n:Nat):(qf lo hi ae n).1=((HT.sIx n 0 lo:Nat):Int)/\(qf lo hi ae n).2.1=((HT.sIx n n hi:Nat):Int)/\(qf lo hi ae n).2.2=1:=by
 show(?_,?_,rfl)
 .cases lo with
  |none=>simp[qf,HT.sIx]
  |some i=>
   simp only[qf,HT.sIx,Option.getD_none]
   grind
 .cases hi with
  |none=>simp[qf,HT.sIx]
  |some i=>
   simp only[qf,HT.sIx,Option.getD_none]
   grind
def Qp(its:Z5)(lo hi:Option Int):slicePick its.toArray lo hi ae=((its.drop (HT.sIx its.length 0 lo)).take (HT.sIx its.length its.length hi-HT.sIx its.length 0 lo)).toArray:=by
 have(a,b,c):=Qo lo hi its.toArray.size;unfold slicePick;rw[a,b,c]
 simp only[sliceRange_one,pick_run] <;> rfl
abbrev Qq(K:bf):V->Option Int->Option Int->Hp->VK->Prop:=λx lo hi H Q=>∃a B,x=.ref a/\SqL K H a B/\∀p,H p=ae->Q (.ref p) (upd H p (.lst (vf B lo hi)))
def Ix:SlR X (Qq X.K):=by
 intro M s J H x v m n lo hi sl Q I j e g i h;have(a,B,rfl,hx,q):=h;subst j;have(its,r,d,f):=I.list hx;have c:=r.length;show("list",_,slot_list_getitem.lookup,d.isList.typeIs,?_);show wpAny_getItem_list_slice d.isList e g i .none (by simp) ?_ (by grind);rw[Qp,<- c];show(.ref s.heap.objs.size,_,I.laid (λb l q=>ff _ q) (bu _) ?_,rfl,q _ (I.hok.fresh (bu _)));show(cf (Qi B lo hi) f,_,0,(r.drop _).take _,gZ _ rfl)
abbrev iI:V->Bool
 |.non=>ac
 |.bl _=>ac
 |.int _=>ac
 |.str _=>ac
 | _=>ah
abbrev eqV:V->V->Bool
 |.non,.non=>ac
 |.bl a,.bl b=>a==b
 |.bl a,.int b=>(if a then 1 else 0)==b
 |.int a,.bl b=>a==(if b then 1 else 0)
 |.int a,.int b=>a==b
 |.str a,.str b=>a==b
 | _,_=>ah
variable{A:cq}{y x:V}{u v:Value}
def Iy{s:ak}(e:bc y u)(c:bc x v)(f:iI y=ac)(d:iI x=ac):dS A s u v (eqV y x):=by
 cases y with
 |non=>
  cases e
  cases x with
  |non=>subst c;show CT _
  |bl b=>subst c;show dS.none_bool b
  |int b=>have(t,rfl):=c;show dS.none_int b t
  |str b=>have(t,rfl):=c;show dS.none_str b t
  | _=>show absurd (d) c6
 |bl a=>
  subst e
  cases x with
  |non=>subst c;show dS.bool_none a
  |bl b=>subst c;show dS.bool_bool a b
  |int b=>have(t,rfl):=c;show dS.bool_int a b t
  |str b=>have(t,rfl):=c;show dS.bool_str a b t
  | _=>show absurd (d) c6
 |int a=>
  have(t',rfl):=e
  cases x with
  |non=>subst c;show dS.int_none a t'
  |bl b=>subst c;show dS.int_bool a t' b
  |int b=>have(t,rfl):=c;show dS.int_int a t' b t
  |str b=>have(t,rfl):=c;show CQ a t' b t
  | _=>show absurd (d) c6
 |str a=>
  have(t',rfl):=e
  cases x with
  |non=>subst c;show dS.str_none a t'
  |bl b=>subst c;show dS.str_bool a t' b
  |int b=>have(t,rfl):=c;show CS a t' b t
  |str b=>have(t,rfl):=c;show dS.str_str a t' b t
  | _=>show absurd (d) c6
 | _=>show absurd (f) c6
def eqU(x:V)(u:Value):Bool:=match u with
 |.none=>eqV .non x
 |.bool b=>eqV (.bl b) x
 |.int i _=>eqV (.int i) x
 |.str z _=>eqV (.str z) x
 | _=>ah
def Iz(r:bc y u)(f:iI y=ac):eqU x u=eqV y x:=by
 cases y with
 |non=>subst r;rfl
 |bl b=>subst r;rfl
 |int i=>have(t,rfl):=r;rfl
 |str z=>have(t,rfl):=r;rfl
 | _=>show absurd (f) c6
def vg{x:V}:∀{B:Z2} {us:Z5},aQ B us->B.all iI=ac->us.any (eqU x)=B.any λy=>eqV y x
 | _,_,.nil,_=>rfl
 |y::B,u::us,.cons r t,f=>by
  rw[oF,cM]at f;rw[qe,qe,Iz r f.1,vg t f.2]
def vh{A:cq}{s:ak}{x:V}{v:Value}(c:bc x v)(b:iI x=ac):∀{B:Z2} {us:Z5},aQ B us->B.all iI=ac->∀u∈us,dS A s u v (eqU x u)
 | _,_,.nil,_=>λu a=>by nomatch a
 |y::B,u::us,.cons r t,f=>λd a=>by
  simp only[oF,cM]at f
  rcases bw.mp a with rfl |a
  .rw[Iz r f.1];show Iy r c f.1 b
  .show vh c b t f.2 d a
def inV(x:V)(B:Z2):Bool:=B.any λy=>eqV y x
def rIn(K:bf)(neg:Bool):R2:=λx y H Q=>∃p B,y=.ref p/\(SqL K H p B\/SqT K H p B)/\iI x=ac/\B.all iI=ac/\Q (.bl (if neg then !inV x B else inV x B)) H
def Qr:OpR X (dR .In) (rIn X.K ah):=by
 intro M s J H x y v u Q I e g h;have(p,B,rfl,a,d,fs,q):=h;subst g
 rcases a with a |a
 .have(its,r,c,f):=I.list a;show SeqAt.in_listAt _ c.isList (λw b=>vh e d r fs w (by simpa using b)) (.bl _,H,I,rfl,?_);rw[show its.toArray.any _=its.any (eqU x) by simp,vg r fs];show q
 .have(its,r,c,f):=I.tuple a;show SeqAt.in_tupleAt _ c (λw b=>vh e d r fs w (by simpa using b)) (.bl _,H,I,rfl,?_);rw[show its.toArray.any _=its.any (eqU x) by simp,vg r fs];show q
def Qs:OpR X (dR .NotIn) (rIn X.K ac):=by
 intro M s J H x y v u Q I e g h;have(p,B,rfl,a,d,fs,q):=h;subst g
 rcases a with a |a
 .have(its,r,c,f):=I.list a;show SeqAt.notIn_listAt _ c.isList (λw b=>vh e d r fs w (by simpa using b)) (.bl _,H,I,rfl,?_);rw[show its.toArray.any _=its.any (eqU x) by simp,vg r fs];show q
 .have(its,r,c,f):=I.tuple a;show SeqAt.notIn_tupleAt _ c (λw b=>vh e d r fs w (by simpa using b)) (.bl _,H,I,rfl,?_);rw[show its.toArray.any _=its.any (eqU x) by simp,vg r fs];show q
def Qt:ju X (.builtin "len") (λB H Q=>∃p ys,B=[.ref p]/\(SqL X.K H p ys\/SqT X.K H p ys)/\Q (.int ys.length) H):=by
 intro M s J H B us Q I r h;have(p,ys,rfl,b,q):=h;have(u,rfl,e):=oX r;subst e;have hn:=sL
 rcases b with b |b
 .have(its,r',c,d):=I.list b;have a:=r'.length;show Calls.call_len_list c.isList (by grind) (.int ys.length,H,I.tok _,(s.toks+1,by rw[size_toArray,a]),q)
 .have(its,r',c,d):=I.tuple b;have a:=r'.length;show len_tuple c (by grind) (.int ys.length,H,I.tok _,(s.toks+1,by rw[size_toArray,a]),q)
def Qu:ju X (.builtin "len") (λB H Q=>∃z,B=[.str z]/\z.length<=be/\Q (.int z.length) H):=by
 intro M s J H B us Q I r h;have(z,rfl,a,q):=h;have(u,rfl,t,rfl):=oX r;have hn:=sL;show len_str (by lia) (.int z.length,H,I.tok _,(_,rfl),q)
def Qv:ju X (.type "list") (λB H Q=>∃p ys,B=[.ref p]/\(SqL X.K H p ys\/SqT X.K H p ys)/\∀l,H l=ae->Q (.ref l) (upd H l (.lst ys))):=by
 intro M s J H B us Q I r h;have(p,ys,rfl,d,q):=h;have(u,rfl,m):=oX r;subst m
 have b:∀its,aQ ys its->ys.length<=be->∀h' a,_ ->
   h'.get? s.heap.objs.size=aa {cls:=.type "list",dict:=ae,data:=.seq its.toArray a,slots:=#[]}->EP X M J Q _ {s with heap:=h'}:=λits r' f h' a kp e=>
  (.ref s.heap.objs.size,_,I.laid kp (bu _) (show iZ X.prog X.w _ h' _ (.lst ys)from(f,its,a,r',e)),rfl,q _ (I.hok.fresh (bu _)))
 rcases d with d |d
 .have(its,r',j,f):=I.list d;have c:=r'.length;have(o,i,g,n,hd):=j.isList;show call_list_seq p (.inl rfl) i g hd (λh' a kp e=>b its r' f h' a kp e) (by grind)
 .have(its,r',j,f):=I.tuple d;have c:=r'.length;have(o,i,g,n,hd):=j;show call_list_seq p (.inr rfl) i g hd (λh' a kp e=>b its r' f h' a kp e) (by grind)
def tyV(K:bf)(T:String)(x:V)(H:Hp):Prop:=match x with
 |.str _=>T="str"
 |.int _=>T="int"
 |.ref p=>(T="list" /\ ∃B,SqL K H p B)\/(T="tuple" /\ ∃o,K.lookup p=aa o/\o.cls=.type "tuple" /\ o.dict=ae) \/
   (T="dict" /\ ((∃kvs,H p=aa (.dK kvs))\/∃kvs,H p=aa (.dT kvs)))\/(T="set" /\ ∃S n,H p=aa (.set S n))
 | _=>False
variable{T:String}
def Qw{s:ak}(I:Inv X M J H s)(r:bc x v)(ty:tyV X.K T x H):
  s.TypeIs v T/\∀a,v=.ref a->∃f,s.heap.get? a=aa f/\f.dict=ae:=by
 cases x with
 |str z=>
  have(t,rfl):=r;cases (ty)
  show⟨mm s z t,λ_ e=>nomatch e⟩
 |int i=>
  have(t,rfl):=r;cases (ty)
  show⟨typeIs_int s i t,λ_ e=>nomatch e⟩
 |ref p=>
  subst r
  rcases ty with⟨rfl,B,j⟩ |⟨rfl,o,b,h,hd⟩ |⟨rfl,b⟩ |⟨rfl,S,n,b⟩
  .have(its,_,g,_):=I.list j;show(g.isList.typeIs,λa e=>?_);cases e;have(o,n,e,c,hd,_):=g;show(o,e,hd)
  .show((o,I.kIn p o b,h),λa e=>?_);cases e;show(o,I.kIn _ o b,hd)
  .have z:∃o,s.heap.get? p=aa o/\o.ExactDict:=by
    rcases b with⟨kvs,b⟩ |⟨kvs,b⟩
    .have(_,_,_,_,o,_,_,e,ex,_):=I.hok p _ b;show(o,e,ex)
    .have(_,_,_,_,o,_,_,e,ex,_):=I.hok p _ b;show(o,e,ex)
   have(o,e,ex):=z;show((o,e,ex.1),λa d=>?_);cases d;show(o,e,ex.2.1)
  .have(o,_,_,_,e,ex,_):=I.hok p _ b;show((o,e,ex.1),λa d=>?_);cases d
   show(o,e,ex.2.1)
 | _=>show f8 ty
def tBM(K:bf)(T:String)(r:V->Z2->Hp->VK->Prop)(to:TE)(t:TA):TE:=λJ H Q=>to J H λx H1=>tyV K T x H1/\t J H1 λB a=>r x B a Q
variable{o:Expr}{es:Zq}{t:TA}{name:Str}{apos cpos:Pos}{r:V->Z2->Hp->VK->Prop}
def bU{to:TE}{id:String}(pa:PlainAttrs T)(slot:Slot T name id)(f:typeOf (.builtin id)=pure (.type "method_descriptor"))(hm:MtR X id r)(q:PE X o to)(ha:PA X (e::es) t)
 (b:jR o name X.env (eval o X.env)=eval o X.env<|Zb)
 (d:(((cD cpos (ba (e::es) X.env)).all (λx=>!x.1) && (gM cpos (gL [] X.env)).all (λx=>x.1.isSome)
   && decide ((e::es).length+([]:List iG).length+(if ([]:List iG).isEmpty then 0 else 1)<30))=ac)<|Zb)
 (c:((apos.endLine==cpos.line)=ac)<|Zb)(u:StE X e es<|Zb)(a:((cD cpos (ba es X.env)).any (·.1)=ah)<|Zb):
  PE X (.Call (.Attribute o name apos) (e::es) [] cpos) (tBM X.K T r to t):=by
 intro M s J H Q I h;show yf b d c rfl (thn (q M s J H _ I h) λv s1 z=>?_);have(x,H1,g,j,ty,w):=z;have(n,p):=Qw g j ty;show(T,id,pa,slot,f,n,p,?_);have i:=ha cpos M s1 J H1 _ g w;rw[u]at i ⊢
 show yu (by change(ah || (cD cpos _).any (·.1))=ah;rw[a] <;> rfl) (u7 (thn i λus s2 (C,l,m,A,y)=>hm M s2 J l x C v us Q m j A y))
def MtM(X:Cx)(id:String)(r:V->Z2->Hp->VK->Prop):Prop:=
 ∀(M:Z8) (s:ak) (J:St) (H:Hp) (x:V) (B:Z2) (v:Value) (us:Z5) (Q:VK),Inv X M J H s->bc x v->aQ B us->r x B H Q ->
  wpAny (model X.prog X.w) X.A (call (.builtin id) (v::us)) (EP X M J Q) X.xe s
def aQ.one:∀{x:V} {us:Z5},aQ [x] us->∃u,us=[u]/\bc x u:=λh=>by
 cases h with
 |cons r h=>
  cases h;show(_,rfl,r)
def aQ.eraseIdx:∀{B:Z2} {us:Z5} (i:Nat),aQ B us->aQ (B.eraseIdx i) (us.eraseIdx i)
 | _,_,_,.nil=>.nil
 | _,_,0,.cons _ t=>t
 | _,_,i+1,.cons r t=>.cons r (aQ.eraseIdx i t)
def IA{a:Type}:∀(l:List a) (i:Nat),(l.eraseIdx i).length<=l.length
 | [],_=>bu _
 | _::_,0=>m9 _
 | _::r,i+1=>Nat.succ_le_succ (IA r i)
variable{l:Addr}{t':Nat}
section
variable{s:ak}
def Inv.lset{f:Array Value->Array Value}(I:Inv X M J H s)(a:H l=aa (.lst B))
 (e:s.heap.get? l=aa {cls:=.type "list",data:=.seq its.toArray n})(c:f its.toArray=d4.toArray)(g:aQ ys d4)(h:ys.length<=be):
  Inv X M J (upd H l (.lst ys)) {s with heap:=s.heap.update l (Obj.mapSeq f),toks:=t'}:=by
 have q:=PySem.IsL.update e f;rw[c]at q;show I.write (by rw[a];show trivial) (.inl rfl) (λi u b d=>(Heap.get?_update_other s.heap _ (iB b)).trans d) (_,q) (h,d4,_,g,q)
end
section
variable{s:ak}
def Inv.lnew(I:Inv X M J H s)(a:aQ ys its)(b:ys.length<=be):
  Inv X M J (upd H s.heap.objs.size (.lst ys)) {s with heap:=s.heap.push {cls:=.type "list",data:=.seq its.toArray},toks:=t'}:=
 I.laid (λ_ _ q=>ff _ q) (bu _) (b,its,0,a,gZ _ rfl)
end
def Inv.fresh{s:ak}(I:Inv X M J H s):H s.heap.objs.size=ae:=I.hok.fresh (bu _)
def Inv.lstM{s:ak}(I:Inv X M J H s)(a:H l=aa (.lst B)):B.length<=be/\∃(its:Z5) (n:Nat),aQ B its/\B.length=its.length/\s.heap.get? l=aa {cls:=.type "list",data:=.seq its.toArray n}:=by
 have(z,its,n,r,e):=I.hok l _ a;show(z,its,n,r,r.length,e)
def Qx(h:n<=be):Hw n=ah:=by
 show decide_eq_false (by lia)
abbrev vm:V->Z2->Hp->VK->Prop:=λx C H Q=>∃l B y,x=.ref l/\C=[y]/\H l=aa (.lst B)/\B.length<be/\Q .non (upd H l (.lst (B++[y])))
def dJ:MtM X "list.append" vm:=by
 intro M s J H x C v us Q I d c h;have(l,B,y,rfl,rfl,a,g,q):=h;subst d;have(u,rfl,b):=c.one;have(z,its,n,r,f,e):=I.lstM a;show su F.slot_list_append (_,e,rfl) F.entry_list_append (F.args_list_append_2 _ _) (PySem.list_append l its.toArray n u (by rw[size_toArray];lia)) (e,?_);show(.non,_,I.lset a e (by simp) (r.append (.cons b .nil)) ?_,rfl,q);rw[aX,gI]
 lia
abbrev IB:V->Z2->Hp->VK->Prop:=λx C H Q=>∃l b B zs,x=.ref l/\C=[.ref b]/\H l=aa (.lst B)/\H b=aa (.lst zs)/\B.length+zs.length<=be/\Q .non (upd H l (.lst (B++zs)))
def Qy:MtM X "list.extend" IB:=by
 intro M s J H x C v us Q I w t h;have(l,b,B,zs,rfl,rfl,f,i,A,q):=h;subst w;have(u,rfl,p):=t.one;subst p;have(z,its,n,r,y,e):=I.lstM f;have(E,a,m,o,j,g):=I.lstM i;have d:its.toArray.size+a.toArray.size<=be:=by grind
 have c:¬(!its.toArray.isEmpty && Hw (its.toArray.size+a.toArray.size))=ac:=by
  rw[Qx d,xV]
  grind
 show su F.slot_list_extend (_,e,rfl) F.entry_list_extend (F.args_list_extend_2 _ _)
  (AutoSeq1.list_extend_list_list_0 l its.toArray n b a.toArray m c (by grind) (by lia)) (e,g,?_)
 show(.non,_,I.lset f e (by simp) (r.append o) ?_,rfl,q)
 grind
abbrev IC:V->Z2->Hp->VK->Prop:=λx C H Q=>∃l B i k y,x=.ref l/\C=[.int i]/\H l=aa (.lst B)/\-(2 ^ 63)<=i/\i<2 ^ 63/\seqIndex? i B.length=aa k/\B[k]?=aa y/\Q y (upd H l (.lst (B.eraseIdx k)))
def Qz:MtM X "list.pop" IC:=by
 intro M s J H x C v us Q I A p h;have(l,B,i,k,y,rfl,rfl,b,c,d,f,m,q):=h;subst A;have(u,rfl,o):=p.one;have(t,rfl):=o;have(z,its,n,r,g,e):=I.lstM b;have(w,j,a):=r.get m
 show su F.slot_list_pop (_,e,rfl) F.entry_list_pop (F.args_list_pop_2 _ _)
  (MeetsSeq.list_pop_at l its.toArray n i t k w (fitsIndex_both c d) (by rw[size_toArray,<- g];show f) (by rw[<- xT];show j) (by rw[size_toArray];lia)) (e,?_)
 show(y,_,I.lset b e ?_ (r.eraseIdx k) ?_,a,q)
 .change its.toArray.eraseIdxIfInBounds k=(its.eraseIdx k).toArray;rw[eraseIdxIfInBounds_toArray]
 .have:=IA B k
  lia
def QA:R2:=λx y H Q=>∃l b B zs,x=.ref l/\y=.ref b/\H l=aa (.lst B)/\H b=aa (.lst zs)/\B.length+zs.length<=be/\∀p,H p=ae->Q (.ref p) (upd H p (.lst (B++zs)))
def Dx:OpR X (iD .Add) QA:=by
 intro M s J H x y v u Q I m o h;have(l,b,B,zs,rfl,rfl,g,f,t,q):=h;subst m;subst o;have(z,its,n,r,p,e):=I.lstM g;have(A,a,w,j,i,c):=I.lstM f;show PySem.P.add_list e c ?_ (by grind);have d:its.toArray++a.toArray=(its++a).toArray:=by simp
 rw[d];show(.ref _,_,I.lnew (r.append j) (by grind),rfl,q _ I.fresh)
end L2
namespace Att
open List
open PySem PySem.W PySem.Calls PyProof.Rows
variable{P:Params}{h:Heap}
def QB:∀(ns:LI0) (C:Z5),WellAll P h C (ns.map WData.int)->IntsAre C ns:=by
 intro ns
 induction ns with
 |nil=>
  intro C w;cases w
  show .nil
 |cons n ns c=>
  intro C w
  cases w with
  |cons a b=>
   cases a;show .cons _ _ (c _ b)
variable{l:OpenLaw}{n:Nat}
def QC(hn:l.most=aa n){args:List WData}{c:Z5}
 (b:l.row.toRowW.claim.pre args=ac)(i:WellAll P h c args):
  ∃a C ns,c=[gt a]/\args=[WData.list (ns.map WData.int)]/\h.get? a=aa {cls:=.type "list",data:=.seq C.toArray}/\IntsAre C ns/\ns.length<=n:=by
 have(d,r,rfl,j,m):=hasAllW_cons ((pre_splitW b).1);obtain rfl:=hasAllW_nil m;have(B,rfl,o):=hasW_list j;have(ns,rfl):=items_int o
 have f:ns.length<=n:=by
  have g:(WTm.not (.lt (.lit (.int n)) (.len (.arg 0)))).holds [] {args:=[.list (ns.map .int)]}=ac:=by
   have g:=(holds_andW ((pre_splitW b).2)).1;rw[hn]at g;show g
  have u:=condW_of g (w_not (w_lt w_lit (w_len_list (w_arg rfl))))
  grind
 cases i with
 |cons q t=>
  cases t
  cases q with
  |list p e=>show(_,_,ns,rfl,rfl,p,QB ns _ e,f)
def QD(l:OpenLaw)(args:List WData):l.row.toRowW.claim.post args (.bool ac) args=ac:=
 postW_of
  (show WShape.has [] _ .bool=ac by first |rfl |decide |simp[WShape.has])
  (w_eq_bool (w_res rfl) w_lit) rfl
variable{q:cP}{eq:Z1}{XP:Zp->Heap->Prop}{YP:World->Heap->Prop}{d:DefRec}
def attach_call
 (hn:l.most=aa n)(m:d.params.defaults=[])
 (call:∀ (w:World) (s₀ b:ak) (mg mb:Zp) (fa:Addr) (o:Obj) (pm i doc:Value) (a:Addr) (C:Z5) (ns:LI0),
   Ground q eq [] XP w s₀ mg mb b.heap->YP w b.heap ->
   b.heap.get? fa=aa o->o.data=.func (docDef d.name d.params d.body d.scope pm i doc)->b.heap.CodeRec i d.name->mg d.name=aa (.ref fa) ->
   b.heap.get? a=aa {cls:=.type "list",data:=.seq C.toArray}->IntsAre C ns->ns.length<=n->b.gens=#[] ->
   iF (model l.prog w) callerA (.call (.ref fa) ([.ref a],[])) (λr s'=>r=.ok (.ret (.bool ac))/\OldK b.heap s'.heap/\s'.os=b.os/\mh s'.gens) b):
  WalkO q eq XP YP l.row.toRowW d [] (λf C=>PySem.call f C):=by
 intro w s₀ b mg mb G Y fa o pm i doc x kV H hd j hD p B args v L h u J t E;obtain rfl:x=.none:=Dflts.none hD m;obtain rfl:kV=.none:=Dflts.noKw hD;have(a,C,ns,rfl,rfl,g,c,e):=QC hn h t;show enter_call (nh (call w s₀ b mg mb fa o pm i doc a C ns G Y H (fd_plain hd) j p g c e B) λr s' I=>?_);have(rfl,y,z,A):=I;show(.inl (.bool ac,.bool ac,[],rfl,λ_=>rfl,.bool ac,QD l _,λ_=>(List.Pairwise.nil,λ_ hm=>(nomatch hm))),y,z,A)
end Att
namespace L2
open List
open PySem PySem.Spec PyProof.Rows
def ID:∀{C:Z5} {ns:LI0},IntsAre C ns->aQ (ns.map V.int) C
 | _,_,.nil=>.nil
 | _,_,.cons n t h=>.cons (t,rfl) (ID h)
def yN(H:Hp):Prop:=∀b,H b=ae\/∃o B,H b=aa (.frz o (.lst B))
variable{P:cP}{w:World}{K:bf}{mg:Zp}{a:Addr}{fd:eS}{x:Str}
def QE{mb:Zp}{CX:CXT}{k:Nat}{fa:Addr}{sp:Sp}{c:ak}{C:Z5}{ns:LI0}
 (T:K.In c.heap)(A:c.heap.Ns cC mg)(p:c.heap.Ns builtinsNs mb)(J:∀x:Str,x ≠ "__name__" -> mb x=kH x)(y:c.heap.NoLimit)(hg:c.gens=#[])
 (ha:c.heap.get? a=aa {cls:=.type "list",data:=.seq C.toArray})(hi:IntsAre C ns)(hl:ns.length<=be)(hr:bn k callerA)
 (F:∀base:Heap,K.In base->base.Ns cC mg->dA P w K mg base CX k fa fd [x] sp)(l:∀(s:ak) (u:Value),nu s fd ([u],[]) [(x,u,)])
 (M:∀H:Hp,yN H->SqL K H a (ns.map V.int)->sp [.ref a] H (λv _=>v=.bl ac) λ_ _ _=>False)
 (I:∀H e s',CX [] H c (λ_ _ _=>False) e s'->False):
  iF (model P w) callerA (.call (.ref fa) ([.ref a],[])) (λr s'=>r=.ok (.ret (.bool ac))/\OldK c.heap s'.heap/\s'.os=c.os/\mh s'.gens) c:=by
 have rv:=ID hi
 have j:∀H:Hp,yN H->SqL K H a (ns.map V.int)->HOk P w H c.heap->(∀b,H b≠ae->b=a)->(H a≠ae->K.lookup a=ae) ->
   iF (model P w) callerA (.call (.ref fa) ([.ref a],[])) (λr s'=>r=.ok (.ret (.bool ac))/\OldK c.heap s'.heap/\s'.os=c.os/\mh s'.gens) c:=by
  intro H U hS hok hA hK;have f:∀{b:Addr} {o:Obj},c.heap.get? b=aa o->H b=ae->(sG c.heap H).get? b=aa o:=λe n=>OC e n
  have N:∀{b:Addr} {o:Obj} {es:Array DictEntry} {G:Nat},c.heap.get? b=aa o->o.data=.dict es G->H b=ae:=λ{b o es G} e d=>by
   grind
  have g:∀{b:Addr} {m:Zp},c.heap.Ns b m->(sG c.heap H).Ns b m:=λ{b m} (o,es,G,e,d,r)=>(o,es,G,f e (N e d),d,r)
  have t:=λb o e=>f (T b o e) (by
   cases q:H b with
   |none=>rfl
   |some u=>
    have Y:=hA b (by grind);subst Y;rw[hK (by grind)]at e;nomatch e)
  have hM:Mod K mg _:=(t,g A,(mb,g p,J),let (mc,h1,h2):=y;(mc,g h1,h2));have e0:nE P w K mg _ callerA [] c H:=(rfl,hM,λb o e=>OE e,uU (OB _ _),trivial,λb p=>absurd (show b∈([]:Z7)from p) (by simp),hok,.of_eq hg);show nh ((F _ t (g A)).run callerA [] c H ([.ref a],[]) _ [.ref a] _ _ hr e0 (l c _) (.cons rfl .nil) (M H U hS)) λr s' h=>?_
  cases r with
  |error e=>show(I H e s' h).elim
  |ok fl=>
   cases fl with
   |next=>show f8 h
   |brk=>show f8 h
   |cont=>show f8 h
   |ret u=>
    have(v,H',os,bare,un,E,r',q):=h;subst q;obtain rfl:u=lJ ac:=r';show(rfl,OldK.of_keep λb o e=>?_,os,bare)
    cases q:H b with
    |none=>show un.keep b o e q (by intro z;show absurd (show b∈([]:Z7)from z) (by simp)) (by simp)
    |some u=>
     rcases U b with z |⟨ob,B,z⟩
     .grind
     .have z2:=un.frzs b ob _ z;have(e1,_):=hok b _ z;have(e2,_):=E b _ z2
      grind
 cases L:K.lookup a with
 |some o=>
  have e:=T a o L;rw[ha]at e;cases e
  show j _ (λ_=>.inl rfl) (.inr (_,C.toArray,_,L,rfl,rfl,rfl,by rw[size_toArray,hi.length];show(by grind,by grind,λx hx=>by have(i,_,rfl):=iW.mp hx;rfl))) (λb u z=>by have Q:_=aa u:=z;nomatch Q) (λb z=>absurd rfl z) λz=>absurd rfl z
 |none=>
  show j (λb=>if b=a then aa _ else ae) (λb=>?_) (.inl (.inr ({cls:=.type "list",data:=.seq C.toArray},if_pos rfl))) (λb u z=>?_) (λb z=>?_) λ_=>L
  .grind
  .by_cases p:b=a
   .have Q:=(if_pos p).symm.trans z;cases Q;subst p;show(ha,by rw[bh];show hl,C,_,rv,ha)
   .grind
  .grind
variable{h:Heap}
nonrec def KOf(_:K.In h):bf:=K
variable{l:W.OpenLaw}{q:cP}{eq:Z1}{XP:Zp->Heap->Prop}{YP:World->Heap->Prop}{d:DefRec}
def QF{n k:Nat}{K:Params->bf}{CX:World->CXT}{sp:World->Sp}
 (hn:l.most=aa n)(y:n<=be)(r:d.params.defaults=[])(Q:bn k callerA)
 (J:∀(w:World) (h:Heap),YP w h->(K w.params).In h)
 (F:∀ (w:World) (mg:Zp) (fa:Addr) (h:Heap),(K w.params).In h->h.Ns cC mg->mg d.name=aa (.ref fa) ->
   ∃fd:eS,(∀(s:ak) (u:Value),nu s fd ([u],[]) [(x,u,)]) /\
    ∀base:Heap,(K w.params).In base->base.Ns cC mg->dA l.prog w (K w.params) mg base (CX w) k fa fd [x] (sp w))
 (z:∀(w:World) (H:Hp) (a:Addr) (ns:LI0),ns.length<=n->yN H->SqL (K w.params) H a (ns.map V.int)->sp w [.ref a] H (λv _=>v=.bl ac) λ_ _ _=>False)
 (p:∀(w:World) (H:Hp) (s:ak) (e:Value) (s':ak),CX w [] H s (λ_ _ _=>False) e s'->False):
  W.WalkO q eq XP YP l.row.toRowW d [] (λf C=>PySem.call f C):=by
 show Att.attach_call hn r λw s₀ m mg mb fa o pm U doc a C ns G Y ho hd M t j i c N=>?_;have A:=J w _ Y;have(fd,L,B):=F w mg fa _ A G.T.g t;show QE A G.T.g G.T.b G.T.builtins G.T.nolimit N j i (cf c y) Q B L (λH E I=>z w H a ns c E I) λH e s'=>p w H m e s'
variable{CX:CXT}
def walk_ofK{n k:Nat}{K:Params->bf}{sp:bf->Sp}
 (hn:l.most=aa n)(g:n<=be)(c:d.params.defaults=[])(r:bn k callerA)
 (p:∀(w:World) (h:Heap),YP w h->(K w.params).In h)
 (F:∀ (w:World) (mg:Zp) (fa:Addr) (h:Heap),(K w.params).In h->h.Ns cC mg->mg d.name=aa (.ref fa) ->
   ∃fd:eS,(∀(s:ak) (u:Value),nu s fd ([u],[]) [(x,u,)]) /\
    ∀base:Heap,(K w.params).In base->base.Ns cC mg->dA l.prog w (K w.params) mg base CX k fa fd [x] (sp (K w.params)))
 (i:∀(K:bf) (H:Hp) (a:Addr) (ns:LI0),ns.length<=n->yN H->SqL K H a (ns.map V.int)->sp K [.ref a] H (λv _=>v=.bl ac) λ_ _ _=>False)
 (b:∀(H:Hp) (s:ak) (e:Value) (s':ak),CX [] H s (λ_ _ _=>False) e s'->False):
  W.WalkO q eq XP YP l.row.toRowW d [] (λf C=>PySem.call f C):=
 QF hn g c r p F (λw H a ns j m o=>i _ H a ns j m o) λ_ H s e s'=>b H s e s'
def dB(s:Stmt)(X6:Nat):Stmt:=match s with
 |.ClassDef _ _ _ body _ _ _ _ _ _ _=>body.getD X6 (.Pass (0,0,0,0))
 | _=>.Pass (0,0,0,0)
def vn(s:Stmt):Arguments:=match s with
 |.FunctionDef _ a _ _ _ _ _ _ _ _=>a
 | _=>{posonlyargs:=[],args:=[],vararg:=ae,kwonlyargs:=[],kw_defaults:=[],kwarg:=ae,defaults:=[]}
def gO(s:Stmt):List Stmt:=match s with
 |.FunctionDef _ _ b _ _ _ _ _ _ _=>b
 | _=>[]
def aH(s:Stmt):Scope:=match s with
 |.FunctionDef _ _ _ _ _ _ sc _ _ _=>sc
 | _=>{kind:=.function,names:=[],isGenerator:=ah,isCoroutine:=ah}
nonrec abbrev CX0:CXT:=λ_ _ _ _ _ _=>False
nonrec abbrev E0:XK:=λ_ _ _=>False
variable{X:Cx}
def jv:i6 CX0 X E0:=λ_ _ _ _ _ _ _ h=>h.elim
structure Fun(K:bf)(x qual:Str)(st:Stmt)(f:Addr)(fd:eS):Prop where
 ex:∃(oc:Value) (od:Option Addr) (kV doc pm:Value) (an:Option Addr) (cdv ct:Value) (osl:Array (Option Value)),
  fd=lN x qual (vn st) (gO st) (aH st) .none kV doc pm an cdv ct/\K.lookup f=aa (oc,od,.func fd,osl)/\W.codeIn K cdv qual=ac
 kp:kL K (.ref f)=ac
variable{base:Heap}{qual:Str}{st:Stmt}{f:Addr}{N ps:Z1}{sp:Sp}
def Fun.ok{k:Nat}(F:Fun K x qual st f fd)(S:aP N ps (aH st))(len:∀C H Q X2,sp C H Q X2->C.length=ps.length)
 (a:∀ (cdv:Value) (A:cq) (outer:List Env) (s:ak) (H:Hp) (C:Z2) (Q:VK) (X2:XK),bn k (A.deeper (fE qual (aH st) s.heap.objs.size f cdv))->sp C H Q X2 ->
   ∃t,PSs (eU CX0 P w K mg base N qual (aH st) f cdv A outer s H X2).nox (gO st) t/\t {nx:=λ_ H'=>Q .non H',rt:=Q} (start N C) H):dA P w K mg base CX0 (k+1) f fd ps sp:=by
 have(oc,od,kV,doc,pm,an,cdv,ct,osl,rfl,e,b):=F.ex;show Ir e b S len λA outer s H C Q X2 d c=>?_;have(t,h,q):=a cdv A outer s H C Q X2 d c;show(t,h.nox,q)
def Fun.binds(F:Fun K x qual st f fd)
 (h:∀(kV doc pm:Value) (an:Option Addr) (cdv ct:Value) (us:Z5),us.length=ps.length->bindArgs (lN x qual (vn st) (gO st) (aH st) .none kV doc pm an cdv ct) (us,[])=pure (ps.zip us)):fN K fd ps []:=by
 have(oc,od,kV,doc,pm,an,cdv,ct,osl,rfl,b,a):=F.ex;show .all (h kV doc pm an cdv ct)
variable{od an:Option Addr}{osl:Array (Option Value)}
def fun_mk{oc:Value}{kV doc pm cdv ct:Value}(l:K.lookup f=aa (oc,od,.func (lN x qual (vn st) (gO st) (aH st) .none kV doc pm an cdv ct),osl))
 (c:W.codeIn K cdv qual=ac)(k:kL K (.ref f)=ac):Fun K x qual st f (lN x qual (vn st) (gO st) (aH st) .none kV doc pm an cdv ct):=((oc,od,kV,doc,pm,an,cdv,ct,osl,rfl,l,c),k)
structure Df(K:bf)(mg:Zp)(x:Str)(st:Stmt)(ps:Z1)(e:Addr×eS):Prop where
 F:Fun K x x st e.1 e.2
 b:fN K e.2 ps []
 g:mg x=aa (.ref e.1)
structure Dm(K:bf)(X4:Addr)(x q:Str)(st:Stmt)(ps:Z1)(e:Addr×eS):Prop where
 F:Fun K x q st e.1 e.2
 b:fN K e.2 ps []
 m:sM K X4 x e.1
structure Pk(P:cP)(w:World)(K:bf)(mg:Zp)(base:Heap)(CX:CXT)(k:Nat)(x:Str)(e:Addr×eS)(ps:Z1)(sp:Sp):Prop where
 ok:dA P w K mg base CX k e.1 e.2 ps sp
 g:mg x=aa (.ref e.1)
 kp:kL K (.ref e.1)=ac
 b:fN K e.2 ps []
structure Pm(P:cP)(w:World)(K:bf)(mg:Zp)(base:Heap)(CX:CXT)(k:Nat)(X4:Addr)(x:Str)(e:Addr×eS)(ps:Z1)(sp:Sp):Prop where
 ok:dA P w K mg base CX k e.1 e.2 ps sp
 c:Cls K X4
 m:sM K X4 x e.1
 b:fN K e.2 ps []
variable{e:Addr×eS}
def Df.pk{k:Nat}(X2:Df K mg x st ps e)(o:dA P w K mg base CX k e.1 e.2 ps sp):Pk P w K mg base CX k x e ps sp:=(o,X2.g,X2.F.kp,X2.b)
variable{q:Str}{X4:Addr}
def Dm.pk{k:Nat}(X2:Dm K X4 x q st ps e)(c:Cls K X4)(o:dA P w K mg base CX k e.1 e.2 ps sp):Pm P w K mg base CX k X4 x e ps sp:=(o,c,X2.m,X2.b)
structure Dq(K:bf)(x:Str)(st:Stmt)(f:Addr)(fd:eS):Prop where
 a:d7 K cC x=aa (aa (.ref f))
 F:Fun K x x st f fd
structure Dp(K:bf)(X4:Addr)(x q:Str)(st:Stmt)(f:Addr)(fd:eS):Prop where
 a:gN K (.ref X4) x=aa (aa (.ref f))
 i:W.isFn K (.ref f)=ac
 F:Fun K x q st f fd
nonrec abbrev Dy(x q:Str)(st:Stmt)(ps:Z1):Prop:=∀(kV doc pm:Value) (an:Option Addr) (cdv ct:Value) (us:Z5),us.length=ps.length->bindArgs (lN x q (vn st) (gO st) (aH st) .none kV doc pm an cdv ct) (us,[])=pure (ps.zip us)
def Dq.mk2(d:Dq K x st f fd)(X:K.In h)(G:h.Ns cC mg)(b:Dy x x st ps<|Zo):Df K mg x st ps (f,fd,):=(d.F,d.F.binds b,lM X G d.a)
def Dp.mk2(d:Dp K X4 x q st f fd)(b:Dy x q st ps<|Zo):Dm K X4 x q st ps (f,fd,):=(d.F,d.F.binds b,(d.a,d.i,d.F.kp))
def Dq.bt{p:Str}(d:Dq K x st f fd)(b:Dy x x st [p])(s:ak)(v:Value):nu s fd ([v],[]) [(p,v,)]:=by
 have(oc,od,kV,doc,pm,an,cdv,ct,osl,rfl,c,a):=d.F.ex;show .of_eq (b kV doc pm an cdv ct [v] rfl)
variable{n:Nat}
def vo(h:n<=1000):n<be:=Nat.lt_of_le_of_lt h (by decide)
variable{pos:Pos}
def pv(i:Nat)(b:X.N[i]?=aa x<|Zb)(c:Vis X.env.scope x<|Zh)(hd:NDb x<|Zc)
 (a:NCd x<|Zc):PE X (.Name x pos) (cb i):=qi b c hd a
def aD(H H':Hp):Prop:=∀b o,H b=aa o->H' b=aa o
def aD.refl(H:Hp):aD H H:=λ_ _ h=>h
variable{H H1 H2:Hp}
def aD.trans(a:aD H H1)(b:aD H1 H2):aD H H2:=λc o h=>b c o (a c o h)
variable{H':Hp}{l:Addr}
def aD.free(e:aD H H')(h:H' l=Option.none):H l=Option.none:=by
 cases q:H l with
 |none=>rfl
 |some o=>
  rw[e l o q]at h
  nomatch h
variable{B:Z2}
def aD.seq(e:aD H H')(h:SqL K H a B):SqL K H' a B:=by
 rcases h with(h |⟨o,h⟩) |h
 .show .inl (.inl (e _ _ h))
 .show .inl (.inr (o,e _ _ h))
 .show .inr h
section
variable{κ:Type}[DecidableEq κ]
def Dz(kvs:List (κ×V))(k:κ):Option V:=(kvs.find? λa=>decide (a.1=k)).map (·.2)
abbrev DD(kvs:List (κ×V))(k:κ)(v:V):List (κ×V):=
 if (kvs.any λa=>decide (a.1=k))=ac then kvs.map (λa=>if a.1=k then (a.1,v,) else a) else kvs++[(k,v,)]
abbrev IE(kvs:List (κ×V))(k:κ):List (κ×V):=kvs.filter λa=>decide (a.1≠k)
def KV.any{kvs:List (κ×V)}{C:List (κ×Value)}(r:KV kvs C)(k:κ):(kvs.any λa=>decide (a.1=k))=C.any λa=>decide (a.1=k):=by
 induction r with
 |nil=>rfl
 |cons h t b=>simp only[qe,qe,b,h.1]
def KV.drop{kvs:List (κ×V)}{C:List (κ×Value)}(r:KV kvs C)(k:κ):KV (IE kvs k) (without C k):=by
 delta IE without
 induction r with
 |nil=>show .nil
 | @cons p q ps i h t d=>
  have(c,g):=h;simp only[filter_cons,filter_cons]
  by_cases e:p.1=k
  .have a:¬decide (p.1≠k)=ac:=by simp[e]
   have b:¬decide (q.1≠k)=ac:=by simp[c.symm.trans e]
   rw[if_neg a,if_neg b];show d
  .have f:¬q.1=k:=λz=>e (c.trans z);have a:decide (p.1≠k)=ac:=by simp[e]
   have b:decide (q.1≠k)=ac:=by simp[f]
   rw[if_pos a,if_pos b];show .cons (c,g) d
def KV.length{kvs:List (κ×V)}{C:List (κ×Value)}(r:KV kvs C):kvs.length=C.length:=Paired.length r
end
def IF(H:Hp)(a:Addr)(y:V)(r:Option V):Prop:=
 (∃kvs k,Rd H a (.dK kvs)/\y=kV k/\r=Dz kvs k)\/∃kvs k b,Rd H a (.dT kvs)/\y=.ref b/\sF H b k/\r=Dz kvs k
def IG(H:Hp)(a:Addr)(y v:V)(H':Hp):Prop:=
 (∃kvs k,H a=aa (.dK kvs)/\y=kV k/\kvs.length<be/\H'=upd H a (.dK (DD kvs k v))) \/
 ∃kvs k b,H a=aa (.dT kvs)/\y=.ref b/\sF H b k/\kvs.length<be/\H'=upd H a (.dT (DD kvs k v))
variable{kvs:List (Key×V)}
def IF.k{k:Key}(e:H a=aa (.dK kvs)):IF H a (kV k) (Dz kvs k):=.inl (kvs,k,.inl e,rfl,rfl)
variable{v:V}
def IG.k{k:Key}(e:H a=aa (.dK kvs))(b:kvs.length<be):IG H a (kV k) v (upd H a (.dK (DD kvs k v))):=.inl (kvs,k,e,rfl,b,rfl)
structure M1(X:Cx)(o:Expr)(m:Str)(apos:Pos)(e:Expr)(cpos:Pos):Prop where
 base:jR o m X.env (eval o X.env)=eval o X.env
 few : ((cD cpos (ba [e] X.env)).all (λx=>!x.1) && (gM cpos (gL [] X.env)).all (λx=>x.1.isSome)
  && decide (([e]:Zq).length+([]:List iG).length+(if ([]:List iG).isEmpty then 0 else 1)<30))=ac
 line:(apos.endLine==cpos.line)=ac
 trees:cD cpos (ba [e] X.env)=[(ah,eval e X.env,)]
section
variable{κ:Type}[DecidableEq κ]
end
end L2
set_option maxHeartbeats 4000000
namespace L2
open List
open PySem
def DF{env:Env}(f:(Str×iE)->List (Str×Addr)->Sem (ForInStep (List (Str×Addr))))
 (h:∀n k r,k≠gr->f (n,k,) r=pure (.yield r))
 (i:∀n r c,env.cells.lookup n=aa c->f (n,.free,) r=pure (.yield ((n,c,)::r))):
  ∀(l:List (Str×iE)) (a:List (Str×Addr)),(∀x∈l,x.2=.free->∃c,env.cells.lookup x.1=aa c) ->
   (∀x c,a.lookup x=aa c->env.cells.lookup x=aa c) ->
   ∃cl,forIn l a f=(pure cl:Sem _)/\(∀x c,cl.lookup x=aa c->env.cells.lookup x=aa c) /\
    (∀x,((∃c,a.lookup x=aa c)\/(x,gr,)∈l)->∃c,cl.lookup x=aa c)
 | [],a,_,ha=>(a,rfl,ha,λx hx=>hx.elim id (λz=>nomatch z))
 |(n,k,)::l,a,hl,ha=>by
  have b:=λx hx=>hl x (bx _ hx)
  by_cases q:k=.free
  .subst q;have(c,o):=hl _ bi rfl;have p:=o
   have g:∀x d,((n,c,)::a).lookup x=aa d->env.cells.lookup x=aa d:=λx d hx=>by
    grind
   have(cl,e,j,m):=DF f h i l _ b g
   grind
  .have(cl,e,j,m):=DF f h i l a b ha
   grind
variable{scope:Scope}{env:Env}
def DH(h:∀x∈scope.names,x.2=.free->∃c,env.cells.lookup x.1=aa c):
  ∃cl,closureFor scope env=pure cl/\(∀x c,cl.lookup x=aa c->env.cells.lookup x=aa c)/\(∀x,(x,gr,)∈scope.names->∃c,cl.lookup x=aa c):=by
 have (cl,e,b,d):=DF (λx r=>(match x with
   |(name,kind)=>if (kind==gr)=ac then (do let a <- cellOf env name;pure (sd ((name,a,)::r))) else (pure (sd r):Sem _)))
  (λn k r g=>by
   have:(k==gr)=ah:=by simpa using g
   simp only[this,Bool.false_eq_true,if_false])
  (λn r c f=>by
   simp only[beq_self_eq_true,if_true,cellOf,f,pure_bind])
  scope.names [] h (λx c z=>by nomatch z)
 show(cl,?_,b,λx hx=>d x (.inr hx));show(congrArg _ ?_).trans ((congrArg (λt=>t >>= pure) e).trans (pure_bind _ _));rfl
nonrec abbrev E00:Value->ak->Prop:=λ_ _=>False
variable{prog:cP}{w:World}{A:cq}{R:Result->ak->Prop}{dr iter:Expr}{c4:Zq}{pos:Pos}
section
variable{s:ak}
def IH{a:Expr}{it p:Value}(I:Nat->ak->Prop)
 (y:∀ n s,I n s->wpAny (model prog w) A (pyNext it) (λr b=>match r with
   |none=>R (.ok .next) b
   | some v=>wpAny (model prog w) A (letOwnedTupleGo a it v) (λ_ d=>wpAny (model prog w) A (assign a env v) (λ_ i =>
     wpAny (model prog w) A (forIn c4 ac λc r=>if r=ac then do let ok <- isTrue c env (eval c env); pure (sd ok) else pure (sd r)) (λok e =>
      if ok=ac then wpAny (model prog w) A (eval dr env) (λx j =>
       wpAny (model prog w) A (call (.builtin "list.append") [p,x]) (λ_ l=>∃m,m<n/\I m l) (nv (model prog w) A env λx s'=>R (.error x) s') j) (nv (model prog w) A env λx s'=>R (.error x) s') e
      else ∃m,m<n/\I m e) (nv (model prog w) A env λx s'=>R (.error x) s') i) (nv (model prog w) A env λx s'=>R (.error x) s') d) (nv (model prog w) A env λx s'=>R (.error x) s') b) (nv (model prog w) A env λx s'=>R (.error x) s') s)
 (n:Nat)(h:I n s):
  iF (model prog w) A (.compLoop (.ListComp dr [(a,iter,c4,0)] scope pos) 0 it p env) R s:=by
 show codeAny_loop rfl I (λn s z=>?_) n h;show wpAny_noted ?_;show cX (yr (cX (d6 (y n s z) (λr b f=>?_) λ_ _ h'=>h')))
 cases r with
 |none=>show dZ f
 |some v=>
  show cX (d6 f (λ_ d o=>?_) λ_ _ h'=>h');show cX (d6 o (λ_ i q=>cX (d6 q (λok e g=>?_) λ_ _ h'=>h')) λ_ _ h'=>h')
  cases ok with
  |false=>show dZ (rfl,g)
  |true=>
   show cX (cX (d6 g (λx j t=>cX (d6 t (λ_ l u=>dZ (dZ (rfl,u))) λ_ _ h'=>h')) λ_ _ h'=>h'))
end
open PySem.Spec PyProof.Rows
nonrec def Cx.comp(X:Cx)(scope:Scope)(Nc:Z1)(cl:List (Str×Addr))(X4:Addr)(ex:Z7)(b:ak)(a:Hp):Cx:=
 {X with N:=Nc,s₀:=b,H₀:=a,env:=compEnvC scope cl X4 X.env,outer:=X.stack,ex:=ex,fn:=λ_=>ah,pn:=[],xe:=E00}
def yO{env:Env}:∀{names:List (Str×iE)} {x:Str},names.lookup x=aa .free ->
  (names.map λ(n,k,)=>if (k==gr && env.scope.kind==.function && env.kindOf n==aa .cell) then (n,oN,) else (n,k,)).lookup x=aa .cell \/
  (names.map λ(n,k,)=>if (k==gr && env.scope.kind==.function && env.kindOf n==aa .cell) then (n,oN,) else (n,k,)).lookup x=aa .free
 | [],_,h=>by simp at h
 |(n,k,)::r,x,h=>by
  have a:=@yO env r x
  grind
def vp{env:Env}{a:iE}(b:a=.cell\/a=.free):∀{names:List (Str×iE)} {x:Str},
  (names.map λ(n,k,)=>if (k==gr && env.scope.kind==.function && env.kindOf n==aa .cell) then (n,oN,) else (n,k,)).lookup x=aa a ->
  (x,gr,)∈names\/(x,oN,)∈names
 | [],_,h=>by simp at h
 |(n,k,)::r,x,h=>by
  have h':List.lookup x ((if _=ac then _ else _)::_)=aa a:=h
  cases hx:x==n with
  |true=>
   have e:=eq_of_beq hx;subst e;split at h'
   .rename_i c
    have f:k=.free:=by
     rw[cM,cM]at c;show eq_of_beq c.1.1
    subst f;show .inl bi
   .simp only[oC,hx]at h';have e:=cp h';subst e
    rcases b with z |z
    .subst z;show .inr bi
    .subst z;show .inl bi
  |false=>
   have d:(r.map λ(n,k,)=>if (k==gr && env.scope.kind==.function && env.kindOf n==aa .cell) then (n,oN,) else (n,k,)).lookup x=aa a:=by
    split at h' <;> (rw[oC,hx]at h';show h')
   rcases(@vp env a b r x) d with z |z
   .show .inl (bx _ z)
   .show .inr (bx _ z)
def nF(scope:Scope)(outer:List (Str×iE))(N Nc:Z1)(k:Nat)(js:LN):Bool:=
 scope.names.all (λx=>(x.2 != .free || outer.lookup x.1==aa .cell || outer.lookup x.1==aa .free) && x.2 != .cell && (x.2 != .local || scope.names.lookup x.1==aa .local)) &&
 scope.kind==.function && Nc.length==k+js.length &&
 (eQ js.length).all (λi=>match Nc[k + i]?,js[i]? with
  |some x,aa X6=>N[X6]?==aa x && scope.names.lookup x==aa .free
  | _,_=>ah)
structure oY(scope:Scope)(outer:List (Str×iE))(N Nc:Z1)(k:Nat)(js:LN):Prop where
 free:∀x∈scope.names,x.2=.free->outer.lookup x.1=aa .cell\/outer.lookup x.1=aa .free
 nocell:∀x∈scope.names,x.2≠.cell
 loc:∀x∈scope.names,x.2=.local->scope.names.lookup x.1=aa .local
 kind:scope.kind=.function
 len:Nc.length=k+js.length
 at':∀i X6,js[i]?=aa X6->∃x,Nc[k+i]?=aa x/\N[X6]?=aa x/\scope.names.lookup x=aa .free
variable{N Nc:Z1}{k:Nat}{js:LN}
def oY.of{outer:List (Str×iE)}(h:nF scope outer N Nc k js=ac):oY scope outer N Nc k js:=by
 unfold nF at h;rw[cM,cM,cM]at h;have(((a,c),d),b):=h;rw[all_eq_true]at a b;show(λx hx e=>?_,λx hx e=>?_,λx hx e=>?_,eq_of_beq c,eq_of_beq d,λi X6 e=>?_)
 .have:=a x hx;simp only[cM,gW,bne_iff_ne,beq_iff_eq]at this
  rcases this.1.1 with(z |z) |z
  .show absurd e z
  .show .inl z
  .show .inr z
 .have:=a x hx;simp only[cM,bne_iff_ne]at this;show this.1.2 e
 .have:=a x hx;simp only[cM,gW,bne_iff_ne,beq_iff_eq]at this
  rcases this.2 with z |z
  .show absurd e z
  .show z
 .have hi:=(dW.mp e).1;have:=b i (kC.mpr hi);rw[e]at this
  cases q:Nc[k+i]? with
  |none=>simp only[q]at this;nomatch this
  |some x=>
   rw[q]at this;simp only[cM,beq_iff_eq]at this;show(x,rfl,this.1,this.2)
def g4(k:Nat)(js:LN)(J:St):St:=jN k ae++js.map λX6=>(J[X6]?).getD ae
def PTs(X:Cx)(c4:Zq)(t:TT):Prop:=
 ∀(M:Z8) (s:ak) (J:St) (H:Hp) (Q:Bool->Hp->Prop),Inv X M J H s->t J H Q ->
  wpAny (model X.prog X.w) X.A (forIn c4 ac λc r=>if r=ac then do let ok <- isTrue c X.env (eval c X.env);pure (sd ok) else pure (sd r)) (TP X M J Q) X.xe s
def II:TT:=λ_ H Q=>Q ac H
variable{X:Cx}
def IJ:PTs X [] II:=λ_ _ _ H _ I h=>wpAny_tests_nil (H,I,h)
def QG{c:Expr}{t:TT}(h:PT X c t):PTs X [c] t:=λM s J H Q I q=>wpAny_tests_one (h M s J H Q I q)
def DJ(X1:It)(g:TG)(tt:TT)(te:TE)(h:St)(H1:Hp)(Q:VK):Prop:=
 ∃W:Nat->Nat->Z2->St->Hp->Prop,(∃m,W 0 m [] h H1)/\∀i m c σ' H',W i m c σ' H' ->
  (X1.stop i H'/\c.length<=be/\∀D,H1 D=ae->H' D=ae->Q (.ref D) (upd H' D (.lst c))) \/
  (X1.go i H'/\c.length<=be/\∃ N : Z2->St->Hp->Prop,(∀ e f d,N e f d->∃ l,l < m/\W (i + 1) l e f d) /\
   ∀x d,X1.yld i H' x d->g x σ' d λa n=>tt a n λb j=>if b=ac then te a j λy o=>N (c++[y]) a o else N c a j)
def yP(k:Nat)(js:LN)(a:TI)(g:TG)(tt:TT)(te:TE):TE:=λJ H Q=>a J H λX1 H1=>DJ X1 g tt te (g4 k js J) H1 Q
nonrec def Cx.to(X:Cx)(pn:Z8)(xe:Z9):Cx:={X with pn:=pn,xe:=xe}
variable{Y:Cx}{xe:Z9}{M:Z8}{J:St}{H:Hp}
def IK{s:ak}(I:Inv Y M J H s):Inv {Y with xe:=xe} M J H s:=
 ((I.ok.mod,I.ok.kind,I.ok.glob,I.ok.blt,I.ok.above,I.ok.inj,I.ok.has,I.ok.cab,I.ok.hd,I.ok.frames,I.ok.stk,I.ok.exf,I.ok.bs,I.ok.bsz,I.ok.noex,I.ok.exfs,I.ok.funs,I.ok.frf),I.os,I.bare,I.base,I.loc,I.cell,I.free,I.freeC,I.pin,I.hok,I.len)
def IL{s:ak}(I:Inv {Y with xe:=xe} M J H s):Inv Y M J H s:=
 ((I.ok.mod,I.ok.kind,I.ok.glob,I.ok.blt,I.ok.above,I.ok.inj,I.ok.has,I.ok.cab,I.ok.hd,I.ok.frames,I.ok.stk,I.ok.exf,I.ok.bs,I.ok.bsz,I.ok.noex,I.ok.exfs,I.ok.funs,I.ok.frf),I.os,I.bare,I.base,I.loc,I.cell,I.free,I.freeC,I.pin,I.hok,I.len)
variable{e:Expr}{t:TE}
def PE.to0(h:PE {Y with pn:=[],xe:=E00} e t):PE {Y with pn:=[],xe:=xe} e t:=λM s J H Q I q=>
 d6 (h M s J H Q (IL I) q) (λu s' (v,H',a,r,b)=>(v,H',IK a,r,b)) λ_ _ z=>z.elim
nonrec def gu(us:Z5)(n:Nat):Obj:={cls:=.type "list",data:=.seq us.toArray n}
variable{tg:Expr}{g:TG}{tt:TT}{te:TE}{H2:Hp}{s2:ak}{it:Addr}{fp:Z7}{tn:Nat->Heap->Prop}{X1:It}{cl:List (Str×Addr)}{Q:VK}{RR:Value->Addr->Result->ak->Prop}{X2:Z9}
def QH{PX:Cx->Prop}
 (hc:X.calm=ac)(ck:oY scope X.env.scope.names X.N Nc k js)
 (hg:∀cl X4 ex E C,PG (X.comp scope Nc cl X4 ex E C) tg g)(ht:∀cl X4 ex E C,PTs (X.comp scope Nc cl X4 ex E C) c4 tt)(he:∀cl X4 ex E C xe,PX ((X.comp scope Nc cl X4 ex E C).to [] xe)->PE ((X.comp scope Nc cl X4 ex E C).to [] xe) dr te)
 (a1:∀x c,cl.lookup x=aa c->X.env.cells.lookup x=aa c)(a2:∀x,(x,gr,)∈scope.names->∃c,cl.lookup x=aa c)
 (t:Inv X M J H2 s2)(T:oW X.prog X.w X.K tg X1 fp it tn)(fy:tn 0 s2.heap)(f2:∀b∈fp,ie X M H2 b)(hW:DJ X1 g tt te (g4 k js J) H2 Q)
 (hRR:∀(D X4:Addr) (s':ak) (H':Hp),Inv X M J H' s'->(∃m,s'.heap.Ns X4 m)->ie X M H' X4->Q (.ref D) H'->RR (.ref D) X4 (.ok .next) s')
 (hPX:∀D X4,s2.heap.objs.size=D->D<X4->(∀b∈frs X.stack,b<D)->PX ((X.comp scope Nc cl X4 fp s2 H2).to [] (nv (model X.prog X.w) X.A (compEnvC scope cl X4 X.env) λx s'=>RR (.ref D) X4 (.error x) s'))):
  wpAny (model X.prog X.w) X.A (newList []) (λacc ey=>wpAny (model X.prog X.w) X.A (newFunctionEnv scope X.env.globals cl [] X.env.qual ae .none (aa X.env)) (λhO s₄ =>
   iF (model X.prog X.w) X.A (.compStart (.ListComp dr [(tg,iter,c4,0)] scope pos) 0 (.ref it) acc {hO with scope:=relabel scope X.env}) (RR acc hO.locals) s₄) X2 ey) X2 s2:=by
 have(W,(m0,w0),turn):=hW;show wpAny_newObj_type (wpAny_newFunctionEnv ck.nocell (by intro y hy;simp at hy) (λI j h=>?_) ck.kind);dsimp only at j h ⊢;generalize hP:s2.heap.push {cls:=.type "list",dict:=ae,data:=.seq ([]:Z5).toArray}=P at j h ⊢;generalize hD:s2.heap.objs.size=D at hP j h ⊢;have hCs:P.objs.size=D+1:=by rw[<- hP,sw,hD]
 generalize hC:P.objs.size=X4 at hCs j h ⊢;have H:D<X4:=by rw[hCs];show jr _
 have hDC:D≠X4:=dw H;have below:∀b o,s2.heap.get? b=aa o->b<D:=λb o e=>hD▸cF e
 have U:∀b o,s2.heap.get? b=aa o->I.get? b=aa o:=λb o e=>by
  have f:=below b o e;show h.extBut b o (dw (uV f H)) (ff _ (hP▸ff _ e))
 have hDo:I.get? D=aa (gu [] 0):=h.extBut _ _ hDC (ff _ (by rw[<- hP,<- hD];show gZ _ rfl));have Hn:∀b,D<=b->H2 b=ae:=λb f=>t.hok.fresh (by lia);have fpo:∀b∈fp,b<D:=λb f=>by have(o,e,_):=T.obj 0 _ fy b f;show below b o e
 have clo:∀x c,cl.lookup x=aa c->c<D:=λx c e=>by
  have(v,o,ho,_):=t.cell x c (a1 x c e);show below c o ho
 have stko:∀b∈frs X.stack,b<D:=λb f=>by
  have(_,o,ho,_):=t.stack.mem f;show below b o ho
 let Y:Cx:=X.comp scope Nc cl X4 fp s2 H2
 have yk:Y.Ok:=by
  show(t.ok.mod,ck.kind,t.ok.glob,t.ok.blt,?_,?_,?_,?_,t.ok.hd,t.ok.frames,.inl rfl,?_,t.bs,?_,?_,?_,t.stack,t.stkFree)
  .change s2.heap.objs.size<=X4;lia
  .show λx y c h1 h2=>t.ok.inj x y c (a1 x c h1) (a1 y c h2)
  .intro x hx
   have:(x,gr,)∈scope.names\/(x,oN,)∈scope.names:=by
    rcases hx with hx |hx
    .show vp (.inl rfl) hx
    .show vp (.inr rfl) hx
   rcases this with z |z
   .show a2 x z
   .show absurd rfl (ck.nocell _ z)
  .show λx c z=>nomatch z
  .intro b f;show(?_,λx c e=>?_)
   .show dw (uV (fpo b f) H)
   .show(f2 b f).2.2.2.2.1 x c (a1 x c e)
  .show cf t.ok.bsz t.sz
  .intro b o e f
   rcases(f2 b f).2.2.2.1 with z |z
   .show t.ok.noex b o e z
   .show absurd (dY (cF e) (cf t.ok.bsz z)) (mf _)
  .intro b f z
   rcases bw.mp (t.stkSub b z)with e |e
   .show(f2 b f).2.1 e
   .show(f2 b f).2.2.1 e
 have I4:Inv Y [(D,gu [] 0,)] (g4 k js J) H2 {s2 with heap:=I,toks:=s2.toks+([]:List (Str×Value)).length}:=by
  show(yk,rfl,t.bare,Un.kept U,(_,j,λi x v e1 G e3=>?_),λx c e=>?_,Hn X4 (by lia),λx c e=>t.freeC x c (a1 x c e),λp hp=>?_,t.hok.kept U,?_)
  .have e1:Nc[i]?=aa x:=e1;unfold g4 at G
   have hik:k<=i:=by
    rcases uW i k with z |z
    .rw[oB (by simpa using z),xZ]at G;simp[z]at G
    .show z
   rw[se (by simpa using hik),fV]at G;simp only[sh]at G
   cases q:js[i-k]? with
   |none=>rw[q]at G;cases G
   |some X6=>
    rw[q]at G;have(x',q1,q2,q3):=ck.at' _ _ q;rw[show k+(i-k)=i by lia,e1]at q1;cases q1;have G:(J[X6]?).getD ae=aa v:=cp G
    have e2':J[X6]?=aa (aa v):=by
     cases z:J[X6]? with
     |none=>rw[z]at G;nomatch G
     |some y=>rw[z]at G;rw[show y=aa v from G]
    have hX:(x,gr,)∈scope.names:=by
     have:∀l:List (Str×iE),l.lookup x=aa .free->(x,gr,)∈l:=by
      intro l
      induction l with
      |nil=>intro z;nomatch z
      |cons a l ih=>
       intro z;have(n,kk):=a;simp only[oC]at z
       cases f:x==n with
       |true=>
        rw[f]at z;cases z
        rw[eq_of_beq f];show bi
       |false=>rw[f]at z;show bx _ (ih z)
     show this _ q3
    have hY:X.env.kindOf x=aa .cell\/X.env.kindOf x=aa .free:=ck.free _ hX rfl;have(m,hn,hl):=t.loc
    have vis:Vis X.env.scope x:=by
     rcases hY with z |z
     .show .inr (.inl z)
     .show .inr (.inr z)
    have(u,r,l):=hl X6 x v q2 e2' vis;show(u,r,.inr (yO q3,?_))
    rcases l with⟨z,_⟩ |⟨_,c,hcl,hQ⟩
    .rcases hY with y |y <;> (rw[y]at z;nomatch z)
    .have(c',hc'):=a2 x hX;have:=a1 x c' hc';rw[hcl]at this;cases this;show(c,hc',hQ.keeps U)
  .have(v,z):=t.cell x c (a1 x c e);show(v,z.keeps U)
  .have hp:p∈[(D,gu [] 0,)]:=(cW.mp hp).elim (λz=>nomatch (show p∈([]:Z8)from z)) id;have hp:=bE.mp hp;subst hp;show⟨hDo,Hn D (bu _),hDC,λz=>?_,λv z=>by nomatch z⟩;show absurd (stko D z) (mf _)
  .change(g4 k js J).length=Nc.length;rw[ck.len];simp[g4]
 have st1:=T.keep 0 _ _ fy λb _ o e=>U b o e
 have fpY:∀{H':Hp} {p:Z8},(∀q∈p,q.1=D)->(∀b∈fp,H' b=ae)->∀b∈fp,ie Y p H' b:=λ{H' p} hp hn b f=>by
  show(hn b f,(yk.exf b f).1,yk.exfs b f,.inl f,λx c e=>(yk.exf b f).2 x c e,λq hq=>?_);rw[hp q hq];show kE (fpo b f)
 let xe:Value->ak->Prop:=nv (model X.prog X.w) X.A (compEnvC scope cl X4 X.env) λx s'=>RR (.ref D) X4 (.error x) s'
 have hp:=hPX D X4 hD H stko
 have ii:iF (model X.prog X.w) X.A (.compLoop (.ListComp dr [(tg,iter,c4,0)] scope pos) 0 (.ref it) (.ref D) (compEnvC scope cl X4 X.env)) (RR (.ref D) X4) {s2 with heap:=I,toks:=s2.toks+([]:List (Str×Value)).length}:=by
  show IH (λn s'=>∃i ys us nn σ' H',Inv Y [(D,gu us nn,)] σ' H' s'/\tn i s'.heap/\(∀b∈fp,H' b=ae)/\aQ ys us/\W i n ys σ' H') ?_ m0
   (0,[],[],0,g4 k js J,H2,I4,st1,λb f=>(f2 b f).1,.nil,w0)
  rintro n s3 ⟨i,ys,us,nn,gn,H3,I3,st3,fr3,rv,w3⟩
  have one:∀q∈[(D,gu us nn,)],q.1=D:=λq hq=>by
   have:q=(D,gu us nn,):=by simpa using hq
   rw[this]
  rcases turn i n ys gn H3 w3 with⟨stop,hz,qn⟩ |⟨go,hz,N,hN,step⟩
  .show thn (T.done Y rfl rfl rfl hc i _ s3 gn H3 _ I3 (fpY one fr3) st3 stop) λr s4 (hr,I5)=>?_;subst hr;have(pD,nD,_,_,_):=I5.pin (D,gu us nn,) (by simp);have bs:=I5.base;have h2D:∀b o,H2 b=aa o->b≠D:=λb o e z=>by rw[z,Hn D (bu _)]at e;nomatch e
   have I6:Inv X M J (upd H3 D (.lst ys)) s4:=by
    show t.call' (ch:=fp) I5.os (bs.keep,bs.slot,λb o e n hx=>?_,bs.there,λb B e=>?_,λb o u e=>?_,λb ps e=>?_) (λb u e=>?_) I5.bare λb f=>?_
    .rw[bJ (dw (below b o e))];show bs.free b o e n hx
    .rw[bJ (h2D b _ e)];show bs.tups b B e
    .rw[bJ (h2D b _ e)];show bs.frzs b o u e
    .rw[bJ (h2D b _ e)];show bs.tbls b ps e
    .by_cases f:b=D
     .subst f;rw[ca]at e;cases e;show(hz,us,nn,rv,pD)
     .rw[bJ f]at e;show(I5.hok b u e).stay (λc v _ q=>q) (λc q=>by rw[bJ (ic q nD)];show q) λc B q=>by rw[bJ (ic q nD)];show q
    .have(_,f1,_,f3,f4,f5):=f2 b f;show(f3,f1,f4,f5)
   have(m,hn,_):=I5.loc;show hRR D X4 s4 _ I6 (m,hn) (t.fpOk (by lia) ?_) (qn D (Hn D (bu _)) nD);rw[bJ hDC.symm];show I5.free
  .show thn (T.item Y rfl rfl rfl hc i _ s3 gn H3 _ I3 (fpY one fr3) st3 go) λr s4 q_=>?_;have(u,hr,h4):=q_;subst hr;show thn h4 λ_ s5 q_=>?_;have(x,H5,I5,r5,y5,st5,fr5):=q_;have I5':=I5.pinned (fpY one fr5) (T.obj _ _ st5);show d6 (hg cl X4 fp s2 H2 _ s5 gn H5 x u _ I5' r5 (step x H5 y5)) (λ_ s6 (L,H6,I6,q6)=>?_) λ_ _ z=>z.elim;show d6 (ht cl X4 fp s2 H2 _ s6 L H6 _ I6 q6) (λb s7 (H7,I7,q7)=>?_) λ_ _ z=>z.elim
   have kp:∀{H8:Hp} {s8:ak},Inv Y ([(D,gu us nn,)]++vc fp s5.heap) L H8 s8->tn (i+1) s8.heap/\(∀b∈fp,H8 b=ae):=λ{H8 s8} I8=>by
    show(T.keep _ _ _ st5 λb f o e=>(I8.pin (b,o,) (bY _ (bY _ (lP f e)))).1,λb f=>?_);have(o,e,d):=T.obj _ _ st5 b f;show(I8.pin (b,o,) (bY _ (bY _ (lP f e)))).2.1
   cases b with
   |false=>
    have(m',hm,w7):=hN _ _ _ q7;have(st7,fr7):=kp I7
    show(m',hm,i+1,ys,us,nn,L,H7,I7.unpinned,st7,fr7,rv,w7)
   |true=>
    show thn (he cl X4 fp s2 H2 xe hp _ s7 L H7 _ (IK I7) q7) λuy s8 q_=>?_;have(y,H8,I8',r8,q8):=q_;have I8:=IL I8';have(m',hm,w8):=hN _ _ _ q8;have(st8,fr8):=kp I8;have(pD,nD,pC,pF,_):=I8.pin (D,gu us nn,) (by simp);have hl:=rv.length
    show wpAny_list_append_plain (items:=us.toArray) (nn,pD) (λh' hl' sb=>?_) (by simp only[size_toArray] <;> lia)
    have(n',e'):=hl';have I8n:Inv Y [] L H8 s8:=I8.pins_of (λ_ z=>nomatch z);have I9:=I8n.turned (t':=s8.toks) (it:=D) (λb o f e=>(sb.2 b f).trans e) nD pC (.inr (by change s2.heap.objs.size<=D;lia)) (λx c e=>dw (clo x c e)) (λp hp=>nomatch hp);show(m',hm,i+1,ys++[y],us++[uy],n',L,H8,I9.pins_of (λp hp=>?_),?_,fr8,rv.append (.cons r8 .nil),w8)
    .have hp:p=(D,gu (us++[uy]) n',):=by simpa using hp
     subst hp;show⟨?_,nD,pC,pF,λv z=>by nomatch z⟩;have G:=e';rw[G];simp
    .show T.keep _ _ _ st8 λb f o e=>(sb.2 b (dw (fpo b f))).trans e
 show codeAny_compStart_list ii (T.self X.A 0 _ _ _ st1 ii)
def IM
 (t:X.calm=ac)(q:oY scope X.env.scope.names X.N Nc k js)
 (v:∀cl X4 ex d a,PG (X.comp scope Nc cl X4 ex d a) tg g)(y:∀cl X4 ex d a,PTs (X.comp scope Nc cl X4 ex d a) c4 tt)(u:∀cl X4 ex d a,PE (X.comp scope Nc cl X4 ex d a) dr te)
 (o:∀x c,cl.lookup x=aa c->X.env.cells.lookup x=aa c)(p:∀x,(x,gr,)∈scope.names->∃c,cl.lookup x=aa c)
 (n:Inv X M J H2 s2)(T:oW X.prog X.w X.K tg X1 fp it tn)(l:tn 0 s2.heap)(f2:∀b∈fp,ie X M H2 b)(r:DJ X1 g tt te (g4 k js J) H2 Q)
 (j:∀(D X4:Addr) (s':ak) (H':Hp),Inv X M J H' s'->(∃m,s'.heap.Ns X4 m)->ie X M H' X4->Q (.ref D) H'->RR (.ref D) X4 (.ok .next) s'):
  wpAny (model X.prog X.w) X.A (newList []) (λf h=>wpAny (model X.prog X.w) X.A (newFunctionEnv scope X.env.globals cl [] X.env.qual ae .none (aa X.env)) (λe i =>
   iF (model X.prog X.w) X.A (.compStart (.ListComp dr [(tg,iter,c4,0)] scope pos) 0 (.ref it) f {e with scope:=relabel scope X.env}) (RR f e.locals) i) X2 h) X2 s2:=
 QH (PX:=λ_=>True) t q v y (λcl X4 ex d a xe _=>PE.to0 (u cl X4 ex d a)) o p n T l f2 r j λ_ _ _ _ _=>trivial
variable{wi:TI}
def QI(k:Nat)(js:LN)(Nc:Z1)(G:X.calm=ac)(hi:PI X tg iter wi)
 (U:∀cl X4 ex c a,PG (X.comp scope Nc cl X4 ex c a) tg g)(ht:∀cl X4 ex c a,PTs (X.comp scope Nc cl X4 ex c a) c4 tt)(L:∀cl X4 ex c a,PE (X.comp scope Nc cl X4 ex c a) dr te)
 (d:nF scope X.env.scope.names X.N Nc k js=ac<|Zb)(Y:(∀x,iC iter X.env x=pure x)<|Zd):
  PE X (.ListComp dr [(tg,iter,c4,0)] scope pos) (yP k js wi g tt te):=by
 intro M s J H Q I h;have d:=oY.of d;have(cl,f,p,r):=DH λx hx e=>I.ok.has x.1 (d.free x hx e);show CI rfl Y f d.kind d.loc (thn (hi M s J H _ I h) λv s1 A=>thn A λitv s2 B=>?_);have(it,fp,tn,X1,H2,e,n,T,j,f2,C):=B;subst e;show IM G d U ht L p r n T j f2 C λD X4 s' H' l (m,hn) z q=>?_;have(t,f1,_,u,w,y):=z;show(m,hn,λh' i=>(.ref D,H',l.turned (λb o E e=>(i.2 b E).trans e) t f1 u w y,rfl,q))
variable{i:Nat}{x:Str}{b9 da:Pos}
def IN(k:Nat)(js:LN)(Nc:Z1)(hN:X.N.Nodup)(p:X.N[i]?=aa x)(hx:Loc X.env.scope x)(hc:X.calm=ac)(hi:PI X tg iter wi)
 (hg:∀cl X4 ex d c,PG (X.comp scope Nc cl X4 ex d c) tg g)(ht:∀cl X4 ex d c,PTs (X.comp scope Nc cl X4 ex d c) c4 tt)(he:∀cl X4 ex d c,PE (X.comp scope Nc cl X4 ex d c) dr te)
 (t:dz (.ListComp dr [(tg,iter,c4,0)] scope pos) (aa (.Name x b9)) da.line X.env=pure ac<|Zb)
 (f:nF scope X.env.scope.names X.N Nc k js=ac<|Zb)(hs:(∀x,iC iter X.env x=pure x)<|Zd)
 (hf:LcF X x<|Zg):
  PS X (.Assign [.Name x b9] (.ListComp dr [(tg,iter,c4,0)] scope pos) da) (oV (yP k js wi g tt te) (jW i)):=by
 intro M s J H D I h;have f:=oY.of f;rw[exec_Assign_Name_used _ _ _ _ t];show cX (yr (cX ?_));have(cl,n,C,E):=DH λx hx e=>I.ok.has x.1 (f.free x hx e)
 show cX (d6 (CI rfl hs n f.kind f.loc
  (thn (hi M s J H _ I h) λv s1 h1=>thn h1 λitv s2 h2=>?_)) (λ_ s' hq=>dZ (dZ hq)) λ_ _ e=>e)
 have(it,fp,tn,X1,H2,e,B,T,u,f2,hW):=h2;subst e;show IM hc f hg ht he C E B T u f2 hW λy X4 s' H' A (m,hn) Y q=>?_;have(G,f1,L,Q,w,U):=Y;show yj (C5 (v:=.ref y) A hN p hx rfl (λs'' j (a,sb,ha)=>?_) hf)
 have l:X4≠a:=by
  rcases ha with z |z
  .rw[z];show f1
  .show(w x a z).symm
 show(m,hn.sameBut sb l,λh' r=>(_,H',j.turned (λb o hb e=>(r.2 b hb).trans e) G f1 Q w U,q))
def QJ:ju X (.builtin "isinstance") (λB H Q=>∃x T t b,B=[x,.ty T]/\i4 X.K H x t/\W.kitOne X.K t (.type T)=aa b/\Q (.bl b) H):=by
 intro M s J H B us Q I r h;have(x,T,t,b,rfl,ty,e,q):=h;have(u,f,rfl,c,a):=PP r;cases (a);show P7 I c ty e λd=>(.bl b,H,I.tok d,rfl,q)
variable{B:Z2}
def aQ.at'{us:Z5}{u:Value}(r:aQ B us)(e:us[i]?=aa u):∃x,B[i]?=aa x/\bc x u:=by
 have b:=r.length;have hi:i<B.length:=by have:=(dW.mp e).1;lia
 show(B[i],by simp[hi],?_);have(c,a,r'):=r.get (i:=i) (x:=B[i]) (by simp[hi]);rw[e]at a;cases a;show r'
def sO{env:Env}{a:iE}(b:a≠.free):∀{names:List (Str×iE)} {x:Str},names.lookup x=aa a ->
  (names.map λ(n,k,)=>if (k==gr && env.scope.kind==.function && env.kindOf n==aa .cell) then (n,oN,) else (n,k,)).lookup x=aa a
 | [],_,h=>by simp at h
 |(n,k,)::r,x,h=>by
  have c:=@sO env a b r x
  grind
def QK(h:Vis scope x):Vis (relabel scope env) x:=by
 rcases h with h |h |h
 .show .inl (sO (by decide) h)
 .show .inr (.inl (sO (by decide) h))
 .rcases yO h with z |z
  .show .inr (.inl z)
  .show .inr (.inr z)
variable{X4:Addr}{ex:Z7}{ce:ak}{cu:Hp}
def pvc(i:Nat)(b:Nc[i]?=aa x<|Zb)(c:Vis scope x<|Zh)(hd:NDb x<|Zc)
 (a:NCd x<|Zc):PE (X.comp scope Nc cl X4 ex ce cu) (.Name x pos) (cb i):=qi b (QK c) hd a
def pgc(i:Nat)(b:Nc.Nodup<|Zn)(hi:Nc[i]?=aa x<|Zb)(a:scope.names.lookup x=aa .local<|Zb):PG (X.comp scope Nc cl X4 ex ce cu) (.Name x pos) (jW i):=
 yE b hi (.inl (sO (by decide) a)) (.inr (sO (by decide) a))
def glc(h:scope.names.lookup x=aa .globalImplicit):Gl (X.comp scope Nc cl X4 ex ce cu) x:=sO (by decide) h
variable{p:Addr}{o:HO}
def dC(h:H p=ae):aD H (upd H p o):=λb u e=>by rw[bJ (ic e h)];show e
variable{K:bf}{H':Hp}{a:Addr}
def aD.tup(e:aD H H')(h:SqT K H a B):SqT K H' a B:=by
 rcases h with(h |⟨o,h⟩) |h
 .show .inl (.inl (e _ _ h))
 .show .inl (.inr (o,e _ _ h))
 .show .inr h
def oZ(p:Addr)(H H':Hp):Prop:=∀b o,H b=aa o->b≠p->H' b=aa o
def oZ.refl(p:Addr)(H:Hp):oZ p H H:=λ_ _ h _=>h
variable{H1:Hp}
def oZ.trans(a:oZ p H H1)(b:oZ p H1 H2):oZ p H H2:=λc o h n=>b c o (a c o h n) n
def oZ.seq(e:oZ p H H')(n:a≠p)(h:SqL K H a B):SqL K H' a B:=by
 rcases h with(h |⟨o,h⟩) |h
 .show .inl (.inl (e _ _ h n))
 .show .inl (.inr (o,e _ _ h n))
 .show .inr h
def IP(p:Option Bool->Bool)(es:LOB)(its:LII):Int:=((its.filter λz=>p (es.getD z.1.toNat ae)).map (·.2)).sum
inductive Prt where
 |inn (t:Int) |out (t:Int) |least (k:Int) (its:LII) |most (k:Int) (its:LII)
def bs(l:Zt):LOB:=l.map aa
abbrev Prt.holds(rs ws:Zt):Prt->Bool
 |.inn t=>(rs.getD t.toNat ah)
 |.out t=>!(ws.getD t.toNat ah)
 |.least k its=>decide (k<=IP (·==aa ac) (bs rs) its)
 |.most k its=>decide (IP (·==aa ac) (bs ws) its<=k)
inductive D where
 |non
 |bl (b:Bool)
 |int (i:Int)
 |str (x:Str)
 |lst (B:List D)
 |tup (B:List D)
 |kl (B:List D)
 |kt (B:List D)
 |dic (ks:List Key) (B:List D)
 |ins (c:Str) (ns:Z1) (B:List D)
 |kd (ks:List Key) (B:List D)
 |dT (ks:List (List Key)) (B:List D)
 |tx (x:Str) (n:Nat)
 deriving Inhabited
nonrec abbrev OD:=Option D
nonrec abbrev LD:=List D
nonrec abbrev Zs:=Option LD
set_option genInjectivity false in
structure Gc where
 K:bf
 cl:Str->Addr
mutual
def Rep(G:Gc)(H:Hp):D->V->Prop
 |.non,v=>v=.non
 |.bl b,v=>v=.bl b
 |.int i,v=>v=.int i
 |.str x,v=>v=.str x
 |.lst j,v=>∃a C,v=.ref a/\H a=aa (.lst C)/\ay G H j C
 |.tup j,v=>∃a C,v=.ref a/\H a=aa (.tup C)/\ay G H j C
 |.kl j,v=>∃a C,v=.ref a/\SqL G.K H a C/\ay G H j C
 |.kt j,v=>∃a C,v=.ref a/\SqT G.K H a C/\ay G H j C
 |.dic ks j,v=>∃a C,v=.ref a/\H a=aa (.dK (ks.zip C))/\ks.length=C.length/\ay G H j C
 |.ins c ns j,v=>∃a dx C,v=.ref a/\H a=aa (.ins (G.cl c) dx (ns.zip C))/\ns.length=C.length/\ay G H j C
 |.kd ks j,v=>∃a od C,v=.ref a/\H a=aa (.frz od (.dK (ks.zip C)))/\ks.length=C.length/\ay G H j C
 |.dT ks j,v=>∃a C,v=.ref a/\H a=aa (.dT (ks.zip C))/\ks.length=C.length/\ay G H j C
 |.tx x n,v=>∃m,m<=n/\v=.tx x m
def ay(G:Gc)(H:Hp):LD->Z2->Prop
 | [],C=>C=[]
 |d::j,C=>∃v r,C=v::r/\Rep G H d v/\ay G H j r
end
mutual
theorem Rep.upM(s:aD H H'):∀(d:D) (v:V),Rep G H d v->Rep G H' d v
 |.non,_,h=>h
 |.bl _,_,h=>h
 |.int _,_,h=>h
 |.str _,_,h=>h
 |.lst j,_,h_=>by have(a,C,e,q,r):=h_;show(a,C,e,s _ _ q,ay.upM s j C r)
 |.tup j,_,h_=>by have(a,C,e,q,r):=h_;show(a,C,e,s _ _ q,ay.upM s j C r)
 |.kl j,_,h_=>by have(a,C,e,q,r):=h_;show(a,C,e,s.seq q,ay.upM s j C r)
 |.kt j,_,h_=>by have(a,C,e,q,r):=h_;show(a,C,e,s.tup q,ay.upM s j C r)
 |.dic _ j,_,h_=>by have(a,C,e,q,l,r):=h_;show(a,C,e,s _ _ q,l,ay.upM s j C r)
 |.ins _ _ j,_,h_=>by have(a,dx,C,e,q,l,r):=h_;show(a,dx,C,e,s _ _ q,l,ay.upM s j C r)
 |.kd _ j,_,h_=>by have(a,od,C,e,q,l,r):=h_;show(a,od,C,e,s _ _ q,l,ay.upM s j C r)
 |.dT _ j,_,h_=>by have(a,C,e,q,l,r):=h_;show(a,C,e,s _ _ q,l,ay.upM s j C r)
 |.tx _ _,_,h=>h
theorem ay.upM(s:aD H H'):∀(j:LD) (C:Z2),ay G H j C->ay G H' j C
 | [],_,h=>h
 |d::j,_,h_=>by have(v,r,e,a,b):=h_;show(v,r,e,Rep.upM s d v a,ay.upM s j r b)
end
variable{G:Gc}{d:D}{v:V}
def Rep.up(r:Rep G H d v)(s:aD H H'):Rep G H' d v:=Rep.upM s d v r
variable{j:LD}{C:Z2}
def ay.up(r:ay G H j C)(s:aD H H'):ay G H' j C:=ay.upM s j C r
def ay.nil:ay G H [] []:=rfl
def ay.cons(h:Rep G H d v)(t:ay G H j C):ay G H (d::j) (v::C):=(v,C,rfl,h,t)
def ay.length:∀{j:LD} {C:Z2},ay G H j C->j.length=C.length
 | [],_,h=>by cases (h);rfl
 |d::j,_,(v,r,e,_,h)=>by subst e;simp[ay.length h]
def ay.append:∀{j es:LD} {C us:Z2},ay G H j C->ay G H es us->ay G H (j++es) (C++us)
 | [],_,_,_,h,t=>by cases (h);show t
 |d::j,_,_,_,(v,r,e,h1,h2),t=>by subst e;show(v,r++_,rfl,h1,ay.append h2 t)
def ay.get:∀{j:LD} {C:Z2} {i:Nat} {d:D},ay G H j C->j[i]?=aa d->∃v,C[i]?=aa v/\Rep G H d v
 | [],_,_,_,_,e=>by simp at e
 |d::j,_,0,_,(v,r,e,h1,_),e'=>by subst e;simp at e';subst e';show(v,rfl,h1)
 |d::j,_,i+1,d',q4_,e'=>by
  have(v,r,e,_,c):=q4_;subst e;have(u,a,b):=ay.get c (by simpa using e');show(u,by simpa using a,b)
def ay.get':∀{j:LD} {C:Z2} {i:Nat} {v:V},ay G H j C->C[i]?=aa v->∃d,j[i]?=aa d/\Rep G H d v:=λ{j C i v} h e=>by
 have c:=h.length;have hi:i<j.length:=by have:=(dW.mp e).1;lia
 have(u,a,b):=h.get (i:=i) (d:=j[i]) (by simp[hi]);rw[e]at a;cases a;show(j[i],by simp[hi],b)
def ay.ints:∀(ns:LI0),ay G H (ns.map D.int) (ns.map V.int)
 | []=>rfl
 |n::ns=>(_,_,rfl,rfl,ay.ints ns)
def ay.take:∀{j:LD} {C:Z2} (n:Nat),ay G H j C->ay G H (j.take n) (C.take n)
 | _,_,0,_=>rfl
 | [],_,n+1,h=>by cases (h);rfl
 |d::j,_,n+1,(v,r,e,h1,h2)=>by subst e;show(v,r.take n,rfl,h1,ay.take n h2)
def ay.drop:∀{j:LD} {C:Z2} (n:Nat),ay G H j C->ay G H (j.drop n) (C.drop n)
 | _,_,0,h=>h
 | [],_,n+1,h=>by cases (h);rfl
 |d::j,_,n+1,(v,r,e,h1,h2)=>by subst e;show ay.drop n h2
def ay.set:∀{j:LD} {C:Z2} (i:Nat) {d:D} {v:V},ay G H j C->Rep G H d v->ay G H (j.set i d) (C.set i v)
 | [],_,_,_,_,h,_=>by cases (h);show .nil
 |e::j,_,0,_,_,(v,r,e',_,h2),q=>by subst e';show(_,r,rfl,q,h2)
 |e::j,_,i+1,_,_,(v,r,e',h1,h2),q=>by subst e';show(v,r.set i _,rfl,h1,ay.set i h2 q)
abbrev gv:HO->Bool
 |.tup _=>ac
 | _=>ah
structure Ext(Hf H L H':Hp):Prop where
 f:aD Hf L
 h:aD H H'
 s:aD L H'
 n:∀l o,H l=aa o->gv o=ah->L l=Hf l
variable{Hf:Hp}
def Ext.refl(s:aD Hf H):Ext Hf H Hf H:=(aD.refl _,aD.refl _,s,λ_ _ _ _=>rfl)
variable{a8 a9:Hp}
def Ext.trans(a:Ext Hf H a8 H1)(b:Ext a8 H1 a9 H2):Ext Hf H a9 H2:=(a.f.trans b.f,a.h.trans b.h,b.s,λl o e t=>(b.n l o (a.h l o e) t).trans (a.n l o e t))
def Ext.new(s:aD Hf H)(h:H p=ae):Ext Hf H (upd Hf p o) (upd H p o):=
 (dC (s.free h),dC h,λb u e=>by
  by_cases a:b=p
  .subst a;rw[ca]at e ⊢;show e
  .rw[bJ a]at e ⊢;show s b u e,λl u e _=>by rw[bJ (ic e h)])
def Ext.tmp(s:aD Hf H)(h:H p=ae):Ext Hf H Hf (upd H p o):=(aD.refl _,dC h,s.trans (dC h),λ_ _ _ _=>rfl)
def Ext.grow(s:aD Hf H)(g:aD H H1):Ext Hf H Hf H1:=(aD.refl _,g,s.trans g,λ_ _ _ _=>rfl)
def Ext.fix(a:Ext Hf H a8 H1)(hn:H p=ae)(d:a8 p=ae)(hp:H1 p=aa o):Ext Hf H (upd a8 p o) H1:=
 (a.f.trans (dC d),a.h,λb u e=>by
  by_cases c:b=p
  .subst c;rw[ca]at e;rw[hp];show e
  .rw[bJ c]at e;show a.s b u e,λl u e t=>by rw[bJ (ic e hn)];show a.n l u e t)
inductive O where
 |fz (d:D)
 |lst (B:List O)
 |tup (B:List O)
 |dic (ks:List Key) (B:List O)
 |ins (c:Str) (ns:Z1) (B:List O)
 |jnk (n:Nat)
 |dT (ks:List (List Key)) (B:List O)
 |at (l:Addr) (o:O)
 |any
 deriving Inhabited
mutual
def OT(G:Gc)(Hf H:Hp):O->V->Z7->Prop
 |.fz d,v,fp=>Rep G Hf d v/\fp=[]
 |.lst os,v,fp=>∃a C fs,v=.ref a/\H a=aa (.lst C)/\OTs G Hf H os C fs/\fp=a::fs
 |.tup os,v,fp=>∃a C,v=.ref a/\H a=aa (.tup C)/\OTs G Hf H os C fp
 |.dic ks os,v,fp=>∃a C fs,v=.ref a/\H a=aa (.dK (ks.zip C))/\ks.length=C.length/\OTs G Hf H os C fs/\fp=a::fs
 |.ins c ns os,v,fp=>∃a dx C fs,v=.ref a/\H a=aa (.ins (G.cl c) dx (ns.zip C))/\ns.length=C.length/\OTs G Hf H os C fs/\fp=a::fs
 |.jnk n,v,fp=>∃a C,v=.ref a/\H a=aa (.lst C)/\C.length<=n/\fp=[a]
 |.dT ks os,v,fp=>∃a C fs,v=.ref a/\H a=aa (.dT (ks.zip C))/\ks.length=C.length/\OTs G Hf H os C fs/\fp=a::fs
 |.at l o,v,fp=>v=.ref l/\OT G Hf H o v fp
 |.any,_,fp=>fp=[]
def OTs(G:Gc)(Hf H:Hp):List O->Z2->Z7->Prop
 | [],C,fp=>C=[]/\fp=[]
 |o::os,C,fp=>∃v r f1 f2,C=v::r/\OT G Hf H o v f1/\OTs G Hf H os r f2/\fp=f1++f2
end
mutual
noncomputable def O.toD:O->D
 |.fz d=>d
 |.lst os=>.lst (O.toDs os)
 |.tup os=>.tup (O.toDs os)
 |.dic ks os=>.dic ks (O.toDs os)
 |.ins c ns os=>.ins c ns (O.toDs os)
 |.at _ o=>o.toD
 |.jnk _=>.non
 |.dT ks os=>.dT ks (O.toDs os)
 |.any=>.non
noncomputable def O.toDs:List O->LD
 | []=>[]
 |o::os=>o.toD::O.toDs os
end
mutual
noncomputable def O.kn:O->Bool
 |.fz _=>ac
 |.lst os=>O.kns os
 |.tup os=>O.kns os
 |.dic _ os=>O.kns os
 |.ins _ _ os=>O.kns os
 |.at _ o=>o.kn
 |.jnk _=>ah
 |.dT _ os=>O.kns os
 |.any=>ah
noncomputable def O.kns:List O->Bool
 | []=>ac
 |o::os=>o.kn && O.kns os
end
mutual
theorem OT.frameM(f:aD Hf L):∀(o:O) (v:V) (fp:Z7),OT G Hf H o v fp->(∀b u,H b=aa u->(gv u=ac\/b∈fp)->H' b=aa u)->OT G L H' o v fp
 |.fz d,_,_,h,_=>(h.1.up f,h.2)
 |.lst os,_,fp,h_,k=>by have(a,C,fs,e,q,r,g):=h_;show(a,C,fs,e,k _ _ q (.inr (by rw[g];show bi)),OTs.frameM f os C fs r (λb u i hm=>k b u i (hm.imp_right λz=>by rw[g];show bx _ z)),g)
 |.tup os,_,fp,h_,k=>by have(a,C,e,q,r):=h_;show(a,C,e,k _ _ q (.inl rfl),OTs.frameM f os C fp r k)
 |.dic ks os,_,fp,h_,k=>by have(a,C,fs,e,q,z,r,g):=h_;show(a,C,fs,e,k _ _ q (.inr (by rw[g];show bi)),z,OTs.frameM f os C fs r (λb u i hm=>k b u i (hm.imp_right λz=>by rw[g];show bx _ z)),g)
 |.ins c ns os,_,fp,h_,k=>by have(a,dx,C,fs,e,q,z,r,g):=h_;show(a,dx,C,fs,e,k _ _ q (.inr (by rw[g];show bi)),z,OTs.frameM f os C fs r (λb u i hm=>k b u i (hm.imp_right λz=>by rw[g];show bx _ z)),g)
 |.jnk n,_,fp,h_,k=>by have(a,C,e,q,z,g):=h_;show(a,C,e,k _ _ q (.inr (by rw[g];show bi)),z,g)
 |.dT ks os,_,fp,h_,k=>by have(a,C,fs,e,q,z,r,g):=h_;show(a,C,fs,e,k _ _ q (.inr (by rw[g];show bi)),z,OTs.frameM f os C fs r (λb u i hm=>k b u i (hm.imp_right λz=>by rw[g];show bx _ z)),g)
 |.at _ o,v,fp,h_,k=>by have(e,r):=h_;show(e,OT.frameM f o v fp r k)
 |.any,_,_,h,_=>h
theorem OTs.frameM(f:aD Hf L):∀(os:List O) (C:Z2) (fp:Z7),OTs G Hf H os C fp->(∀b u,H b=aa u->(gv u=ac\/b∈fp)->H' b=aa u)->OTs G L H' os C fp
 | [],_,_,h,_=>h
 |o::os,_,fp,h_,k=>by have(v,r,f1,f2,e,d,g,a):=h_;show(v,r,f1,f2,e,OT.frameM f o v f1 d (λb u c hm=>k b u c (hm.imp_right λz=>by rw[a];show fK _ z)),OTs.frameM f os r f2 g (λb u c hm=>k b u c (hm.imp_right λz=>by rw[a];show bY _ z)),a)
end
variable{L:Hp}{o:O}
def OT.frame(h:OT G Hf H o v fp)(f:aD Hf L)(k:∀b u,H b=aa u->(gv u=ac\/b∈fp)->H' b=aa u):OT G L H' o v fp:=OT.frameM f o v fp h k
def OT.up(h:OT G Hf H o v fp)(f:aD Hf L)(s:aD H H'):OT G L H' o v fp:=h.frame f λb u e _=>s b u e
def yQ{a b:Type}:∀{ks:List a} {C us:List b},ks.length=C.length->ks.length=us.length->ks.zip C=ks.zip us->C=us
 | [],[],[],_,_,_=>rfl
 |k::ks,v::C,u::us,h1,h2,e=>by
  injection e with e1 e2
  injection e1 with _ e3
  rw[e3,yQ (by simpa using h1) (by simpa using h2) e2]
 | [],_::_,_,h,_,_=>by cases h
 | [],[],_::_,_,h,_=>by cases h
 | _::_,[],_,h,_,_=>by cases h
 | _::_,_::_,[],_,h,_=>by cases h
mutual
theorem OT.funM:∀(o:O) (v:V) (f p:Z7),OT G Hf H o v f->OT G L H o v p->f=p
 |.fz d,_,_,_,h,h'=>h.2.trans h'.2.symm
 |.lst os,_,_,_,q4_,q5_=>by
  have(a,C,fs,e,q,r,m):=q4_;have(u,l,g,j,i,r',b):=q5_;subst e m b;cases j;rw[q]at i;cases i
  rw[OTs.funM os C fs g r r']
 |.tup os,_,f,p,q4_,q5_=>by
  have(a,C,e,q,r):=q4_;have(u,l,j,i,r'):=q5_;subst e;cases j;rw[q]at i;cases i
  show OTs.funM os C f p r r'
 |.dic ks os,_,_,_,q4_,q5_=>by
  have(a,C,fs,e,q,z,r,m):=q4_;have(u,l,g,j,i,t,r',b):=q5_;subst e m b;cases j;rw[q]at i;have:=yQ z t (HO.dK.inj (cp i));subst this
  rw[OTs.funM os C fs g r r']
 |.ins c ns os,_,_,_,q4_,q5_=>by
  have(a,dx,C,fs,e,q,z,r,m):=q4_;have(u,w,l,g,j,i,t,r',b):=q5_;subst e m b;cases j;rw[q]at i;have:=yQ z t (HO.ins.inj (cp i)).2.2;subst this
  rw[OTs.funM os C fs g r r']
 |.jnk n,_,_,_,q4_,q5_=>by
  have(a,C,e,q,z,m):=q4_;have(u,l,j,i,t,b):=q5_;subst e m b;cases j
  rfl
 |.dT ks os,_,_,_,q4_,q5_=>by
  have(a,C,fs,e,q,z,r,m):=q4_;have(u,l,g,j,i,t,r',b):=q5_;subst e m b;cases j;rw[q]at i;have:=yQ z t (HO.dT.inj (cp i));subst this
  rw[OTs.funM os C fs g r r']
 |.at _ o,v,f,p,h,h'=>OT.funM o v f p h.2 h'.2
 |.any,_,_,_,h,h'=>(show _=[]from h).trans (show _=[]from h').symm
theorem OTs.funM:∀(os:List O) (C:Z2) (f i:Z7),OTs G Hf H os C f->OTs G L H os C i->f=i
 | [],_,_,_,h,h'=>h.2.trans h'.2.symm
 |o::os,_,_,_,q4_,q5_=>by
  have(v,r,f1,f2,e,m,n,l):=q4_;have(p,r',b,c,j,d,g,a):=q5_;subst e l a;cases j;rw[OT.funM o v f1 b m d,OTs.funM os r f2 c n g]
end
mutual
theorem OT.memM:∀(o:O) (v:V) (f:Z7),OT G Hf H o v f->∀a∈f,∃u,H a=aa u/\gv u=ah
 |.fz d,_,_,h,a,ha=>by rw[h.2]at ha;cases ha
 |.lst os,_,_,q3_,b,hb=>by
  have(a,C,fs,e,q,r,g):=q3_;subst g
  rcases bw.mp hb with z |z
  .subst z;show(_,q,rfl)
  .show OTs.memM os C fs r b z
 |.tup os,_,f,(a,C,e,q,r),b,hb=>OTs.memM os C f r b hb
 |.dic ks os,_,_,q3_,b,hb=>by
  have(a,C,fs,e,q,z,r,g):=q3_;subst g
  rcases bw.mp hb with z |z
  .subst z;show(_,q,rfl)
  .show OTs.memM os C fs r b z
 |.ins c ns os,_,_,q3_,b,hb=>by
  have(a,dx,C,fs,e,q,z,r,g):=q3_;subst g
  rcases bw.mp hb with z |z
  .subst z;show(_,q,rfl)
  .show OTs.memM os C fs r b z
 |.jnk n,_,_,q3_,b,hb=>by
  have(a,C,e,q,z,g):=q3_;subst g;rw[bE.mp hb]
  show(_,q,rfl)
 |.dT ks os,_,_,q3_,b,hb=>by
  have(a,C,fs,e,q,z,r,g):=q3_;subst g
  rcases bw.mp hb with z |z
  .subst z;show(_,q,rfl)
  .show OTs.memM os C fs r b z
 |.at _ o,v,f,h,a,ha=>OT.memM o v f h.2 a ha
 |.any,_,_,h,a,ha=>by rw[show _=[]from h]at ha;cases ha
theorem OTs.memM:∀(os:List O) (C:Z2) (f:Z7),OTs G Hf H os C f->∀a∈f,∃u,H a=aa u/\gv u=ah
 | [],_,_,h,a,ha=>by rw[h.2]at ha;cases ha
 |o::os,_,_,q3_,a,ha=>by
  have(v,r,f1,f2,e,c,d,b):=q3_;subst b
  rcases cW.mp ha with z |z
  .show OT.memM o v f1 c a z
  .show OTs.memM os r f2 d a z
end
mutual
theorem OT.repM(s:aD Hf H):∀(o:O) (v:V) (f:Z7),o.kn=ac->OT G Hf H o v f->Rep G H o.toD v
 |.fz d,_,_,_,h=>by rw[O.toD];show h.1.up s
 |.lst os,_,_,hk,h_=>by have(a,C,fs,e,q,r,b):=h_;rw[O.kn]at hk;rw[O.toD];show(a,C,e,q,OTs.repM s os C fs hk r)
 |.tup os,_,f,hk,h_=>by have(a,C,e,q,r):=h_;rw[O.kn]at hk;rw[O.toD];show(a,C,e,q,OTs.repM s os C f hk r)
 |.dic ks os,_,_,hk,h_=>by have(a,C,fs,e,q,z,r,b):=h_;rw[O.kn]at hk;rw[O.toD];show(a,C,e,q,z,OTs.repM s os C fs hk r)
 |.ins c ns os,_,_,hk,h_=>by have(a,dx,C,fs,e,q,z,r,b):=h_;rw[O.kn]at hk;rw[O.toD];show(a,dx,C,e,q,z,OTs.repM s os C fs hk r)
 |.at _ o,v,f,hk,h=>by rw[O.kn]at hk;rw[O.toD];show OT.repM s o v f hk h.2
 |.jnk _,_,_,hk,_=>by rw[O.kn]at hk;cases hk
 |.dT ks os,_,_,hk,h_=>by have(a,C,fs,e,q,z,r,b):=h_;rw[O.kn]at hk;rw[O.toD];show(a,C,e,q,z,OTs.repM s os C fs hk r)
 |.any,_,_,hk,_=>by rw[O.kn]at hk;cases hk
theorem OTs.repM(s:aD Hf H):∀(os:List O) (C:Z2) (f:Z7),O.kns os=ac->OTs G Hf H os C f->ay G H (O.toDs os) C
 | [],_,_,_,h=>by rw[O.toDs];show h.1
 |o::os,_,_,hk,h_=>by
  have(v,r,f1,f2,e,a,b,c):=h_;rw[O.kns,cM]at hk;rw[O.toDs];show(v,r,e,OT.repM s o v f1 hk.1 a,OTs.repM s os r f2 hk.2 b)
end
def OT.rep{f:Z7}(h:OT G Hf H o v f)(s:aD Hf H)(a:o.kn=ac):Rep G H o.toD v:=OT.repM s o v f a h
def OTs.fz:∀{j:LD} {C:Z2},ay G Hf j C->OTs G Hf H (j.map .fz) C []
 | [],_,h=>(h,rfl)
 |d::j,_,(v,r,e,h1,h2)=>(v,r,[],[],e,(h1,rfl),OTs.fz h2,rfl)
def yR(j:LD):O.toDs (j.map .fz)=j:=by
 induction j with
 |nil=>rfl
 |cons d j a=>rw[eR,O.toDs,O.toD,a]
inductive Sl where
 |no
 |im (d:D)
 |own (B:LD)
 |ownd (ks:List Key) (B:LD)
 |obj (c:Str) (ns:Z1) (B:LD)
 |pin (l:Addr) (B:LD)
 |pind (l:Addr) (ks:List Key) (B:LD)
 |pino (l:Addr) (c:Str) (ns:Z1) (B:LD)
 |deep (o:O)
 |val (u:V)
nonrec abbrev LS:=List Sl
nonrec def nZ{a:Type}:LS->Option (List a):=λ_=>aa []
nonrec def kY:LS->Option Bool:=λ_=>aa ac
nonrec def kN:LS->OD:=λ_=>aa .non
nonrec def kI(i:Int):LS->OD:=λ_=>aa (.int i)
nonrec def kSt(x:Str):LS->OD:=λ_=>aa (.str x)
nonrec def kBl(b:Bool):LS->OD:=λ_=>aa (.bl b)
nonrec abbrev Z4:=LS->OD
nonrec abbrev Z6:=LS->Zs
nonrec abbrev Zr:=LS->Option Bool
abbrev Sl.isOwn:Sl->Bool
 |.own _=>ac
 |.ownd _ _=>ac
 |.obj _ _ _=>ac
 |.pin _ _=>ac
 |.pind _ _ _=>ac
 |.pino _ _ _ _=>ac
 | _=>ah
abbrev Sl.calm:Sl->Bool
 |.no=>ac
 |.im _=>ac
 | _=>ah
abbrev kM(G:Gc)(Hf H:Hp)(l:Addr):Sl->Prop
 |.own j=>∃C,H l=aa (.lst C)/\ay G Hf j C
 |.ownd ks j=>∃C,H l=aa (.dK (ks.zip C))/\ks.length=C.length/\ay G Hf j C
 |.obj c ns j=>∃dx C,H l=aa (.ins (G.cl c) dx (ns.zip C))/\ns.length=C.length/\ay G Hf j C
 |.pin a j=>l=a/\∃C,H l=aa (.lst C)/\ay G Hf j C
 |.pind a ks j=>l=a/\∃C,H l=aa (.dK (ks.zip C))/\ks.length=C.length/\ay G Hf j C
 |.pino a c ns j=>l=a/\∃dx C,H l=aa (.ins (G.cl c) dx (ns.zip C))/\ns.length=C.length/\ay G Hf j C
 | _=>False
variable{l:Addr}
def kM.there2{s:Sl}(h:kM G Hf H l s):∃o,H l=aa o/\gv o=ah:=by
 cases s with
 |own j=>have(C,h,_):=h;show(_,h,rfl)
 |ownd ks j=>have(C,h,_):=h;show(_,h,rfl)
 |obj c ns j=>have(dx,C,h,_):=h;show(_,h,rfl)
 |pin a j=>have(_,C,h,_):=h;show(_,h,rfl)
 |pind a ks j=>have(_,C,h,_):=h;show(_,h,rfl)
 |pino a c ns j=>have(_,dx,C,h,_):=h;show(_,h,rfl)
 | _=>show h.elim
def kM.up{s:Sl}(h:kM G Hf H l s)(f:aD Hf L)(e:∀o,H l=aa o->H' l=aa o):kM G L H' l s:=by
 cases s with
 |own j=>have(C,h,r):=h;show(C,e _ h,r.up f)
 |ownd ks j=>have(C,h,z,r):=h;show(C,e _ h,z,r.up f)
 |obj c ns j=>have(dx,C,h,z,r):=h;show(dx,C,e _ h,z,r.up f)
 |pin a j=>have(q,C,h,r):=h;show(q,C,e _ h,r.up f)
 |pind a ks j=>have(q,C,h,z,r):=h;show(q,C,e _ h,z,r.up f)
 |pino a c ns j=>have(q,dx,C,h,z,r):=h;show(q,dx,C,e _ h,z,r.up f)
 | _=>show h.elim
abbrev i7(G:Gc)(H0 Hf H:Hp)(v:Option V):Sl->Prop
 |.no=>True
 |.im d=>∃u,v=aa u/\Rep G Hf d u
 |.deep o=>∃u fp,v=aa u/\OT G Hf H o u fp/\fp.Nodup/\∀a∈fp,H0 a=ae/\Hf a=ae
 |.val u=>v=aa u
 |s=>∃l,v=aa (.ref l)/\H0 l=ae/\Hf l=ae/\kM G Hf H l s
variable{H0:Hp}
def i7.own{v:Option V}{s:Sl}(a:s.isOwn=ac)(h:i7 G H0 Hf H v s):∃l,v=aa (.ref l)/\H0 l=ae/\Hf l=ae/\kM G Hf H l s:=by
 cases s <;> first |show h |cases a
def i7.ofOwn{v:Option V}{s:Sl}(a:s.isOwn=ac)(h:∃l,v=aa (.ref l)/\H0 l=ae/\Hf l=ae/\kM G Hf H l s):i7 G H0 Hf H v s:=by
 cases s <;> first |show h |cases a
def Holds(G:Gc)(Hf H:Hp)(s:Sl)(v:V)(a:Addr):Prop:=match s with
 |.deep o=>∃fp,OT G Hf H o v fp/\a∈fp
 |s=>s.isOwn=ac/\v=.ref a
def Holds.own{s:Sl}(b:s.isOwn=ac):Holds G Hf H s v a↔v=.ref a:=by
 cases s <;> first |show(λh=>h.2,λh=>(rfl,h)) |nomatch b
def Holds.calm{s:Sl}(h:Holds G Hf H s v a)(b:s.calm=ac):False:=by
 cases s <;> first |show xU h.1 |nomatch b
def i7.back{s:Sl}(q:i7 G H0 Hf H (aa v) s)(k:∀o fp,s=.deep o->OT G Hf H o v fp->OT G L H' o v fp)(h:Holds G L H' s v a):Holds G Hf H s v a:=by
 cases s with
 |deep o=>
  have(u,fp,e,r,_):=q;cases e;have(fp',r',ha):=h;have:=OT.funM o v fp fp' (k o fp rfl r) r';subst this
  show(fp,r,ha)
 | _=>show h
def i7.there{s:Sl}(q:i7 G H0 Hf H (aa v) s)(h:Holds G Hf H s v a):∃o,H a=aa o/\gv o=ah:=by
 cases b:s.isOwn with
 |true=>
  have(l,e,_,_,c):=q.own b;cases e;cases ((Holds.own b).mp h)
  show c.there2
 |false=>
  cases s with
  |deep o=>
   have(fp,r,ha):=h
   show OT.memM o v fp r a ha
  | _=>first |show xU h.1 |nomatch b
structure aB(G:Gc)(E H0 Hf H:Hp)(J:St)(U:LS):Prop where
 ext:Ext E H0 Hf H
 len:J.length=U.length
 at':∀(i:Nat) (v:Option V) (s:Sl),J[i]?=aa v->U[i]?=aa s->i7 G H0 Hf H v s
 dj:∀(i X6:Nat) (s t:Sl) (v w:V) (a:Addr),U[i]?=aa s->U[X6]?=aa t->J[i]?=aa (aa v)->J[X6]?=aa (aa w)->Holds G Hf H s v a->Holds G Hf H t w a->i=X6
variable{E:Hp}{U:LS}
def aB.sub(h:aB G E H0 Hf H J U):aD Hf H:=h.ext.s
def aB.inj(h:aB G E H0 Hf H J U)(i X6:Nat)(s t:Sl)(l:Addr)(a:U[i]?=aa s)(b:U[X6]?=aa t)(e:s.isOwn=ac)(f:t.isOwn=ac)(c:J[i]?=aa (aa (.ref l)))(d:J[X6]?=aa (aa (.ref l))):i=X6:=
 h.dj i X6 s t _ _ l a b c d ((Holds.own e).mpr rfl) ((Holds.own f).mpr rfl)
variable{ρ':LS}
def aB.re{d g:Hp}(h:aB G E H0 Hf H J U)(x:Ext d g L H')(m:ρ'.length=U.length)(ha:∀(i:Nat) (v:Option V) (s:Sl),J[i]?=aa v->ρ'[i]?=aa s->i7 G g L H' v s)
 (hd:∀(i:Nat) (s:Sl) (v:V) (a:Addr),ρ'[i]?=aa s->J[i]?=aa (aa v)->Holds G L H' s v a->∃t,U[i]?=aa t/\Holds G Hf H t v a):aB G d g L H' J ρ':=
 (x,h.len.trans m.symm,ha,λi X6 s t v w a b c e f p q=>by
  have(r,j,n):=hd i s v a b e p;have(u,l,o):=hd X6 t w a c f q;show h.dj i X6 r u v w a j l e f n o)
def aB.step(h:aB G E H0 Hf H J U)(e:Ext Hf H L H'):aB G E H0 L H' J U:=by
 show h.re (h.ext.trans e) rfl (λi v s a b=>?_) λi s v a b c d=>(s,b,(h.at' i _ s c b).back (λo fp _ r=>r.up e.f e.h) d);have q:=h.at' i v s a b
 cases m:s.isOwn with
 |true=>
  have(l,g,w,x,t):=q.own m;have(o,j,p):=t.there2
  show .ofOwn m (l,g,w,by rw[e.n l o j p];show x,t.up e.f λo j=>e.h _ _ j)
 |false=>
  cases s with
  |no=>trivial
  |im d=>have(u,g,r):=q;show(u,g,r.up e.f)
  |val u=>show q
  |deep o=>
   have(u,fp,g,r,n,z):=q;show(u,fp,g,r.up e.f e.h,n,λa ha=>((z a ha).1,?_));have(y,j,p):=OT.memM o u fp r a ha;rw[e.n a y j p]
   show(z a ha).2
  | _=>nomatch m
def aB.slot{s:Sl}(h:aB G E H0 Hf H J U)(e:U[i]?=aa s):∃v,J[i]?=aa v/\i7 G H0 Hf H v s:=by
 have hi:i<J.length:=by rw[h.len];show(dW.mp e).1
 show(J[i],by simp[hi],h.at' i _ s (by simp[hi]) e)
def aB.imm(h:aB G E H0 Hf H J U)(e:U[i]?=aa (.im d)):∃v,J[i]?=aa (aa v)/\Rep G Hf d v:=by
 have(v,a,u,b,r):=h.slot e;subst b;show(u,a,r)
def aB.ownAt{s:Sl}(c:s.isOwn=ac)(h:aB G E H0 Hf H J U)(e:U[i]?=aa s):∃l,J[i]?=aa (aa (.ref l))/\H0 l=ae/\Hf l=ae/\kM G Hf H l s:=by
 have(v,a,q):=h.slot e;have(l,b,d):=q.own c;rw[b]at a;show(l,a,d)
variable{X6:Nat}
def fF{b:Type}{l:List b}{x y:b}(h:(l.set i x)[X6]?=aa y):(X6=i/\y=x/\i<l.length)\/(X6≠i/\l[X6]?=aa y):=by
 by_cases a:X6=i
 .subst a;left;have hi:X6<l.length:=by have:=(dW.mp h).1;simpa using this
  rw[jq hi]at h;show(rfl,(cp h).symm,hi)
 .right;rw[gH (iB a)]at h;show(a,h)
def aB.setIm(h:aB G E H0 Hf H J U)(r:Rep G Hf d v):aB G E H0 Hf H (J.set i (aa v)) (U.set i (.im d)):=by
 show(h.ext,by simpa using h.len,λX6 u s a b=>?_,λX6 k s t u w l a b c g p q=>?_)
 .rcases fF b with⟨e,f,_⟩ |⟨e,b⟩
  .subst e f
   rcases fF a with⟨_,f,_⟩ |⟨e,_⟩
   .subst f;show(v,rfl,r)
   .show absurd rfl e
  .rcases fF a with⟨f,_⟩ |⟨_,a⟩
   .show absurd f e
   .show h.at' X6 u s a b
 .rcases fF a with⟨e,f,_⟩ |⟨e,a⟩
  .subst f;show(p.calm rfl).elim
  .rcases fF b with⟨j,f,_⟩ |⟨j,b⟩
   .subst f;show(q.calm rfl).elim
   .rcases fF c with⟨f,_⟩ |⟨_,c⟩
    .show absurd f e
    .rcases fF g with⟨f,_⟩ |⟨_,g⟩
     .show absurd f j
     .show h.dj X6 k s t u w l a b c g p q
variable{u:V}
def aB.setNew{s:Sl}(h:aB G E H0 Hf H J U)(e:Ext Hf H L H')(x:i7 G H0 L H' (aa u) s)(hn:∀a,Holds G L H' s u a->H a=ae):
  aB G E H0 L H' (J.set i (aa u)) (U.set i s):=by
 have h':=h.step e
 have no:∀X6 t w a,U[X6]?=aa t->J[X6]?=aa _->Holds G L H' t w a->Holds G L H' s u a->False:=λX6 t w a b c p q=>by
  have(o,x,_):=(h.at' X6 _ t c b).there ((h.at' X6 _ t c b).back (λo fp _ r=>r.up e.f e.h) p);rw[hn a q]at x;nomatch x
 show(h'.ext,by simpa using h.len,λX6 w t a b=>?_,λX6 k t t' v w l a b c g p q=>?_)
 .rcases fF b with⟨e,d,_⟩ |⟨e,b⟩
  .subst e d
   rcases fF a with⟨_,d,_⟩ |⟨e,_⟩
   .subst d;show x
   .show absurd rfl e
  .rcases fF a with⟨d,_⟩ |⟨_,a⟩
   .show absurd d e
   .show h'.at' X6 w t a b
 .rcases fF a with⟨n,y,_⟩ |⟨n,a⟩
  .rcases fF b with⟨j,m,_⟩ |⟨j,b⟩
   .rw[n,j]
   .rcases fF c with⟨_,d,_⟩ |⟨d,_⟩
    .cases d;rw[y]at p
     rcases fF g with⟨d,_⟩ |⟨_,g⟩
     .show absurd d j
     .show(no k t' w l b g q p).elim
    .show absurd n d
  .rcases fF c with⟨d,_⟩ |⟨_,c⟩
   .show absurd d n
   .rcases fF b with⟨j,m,_⟩ |⟨j,b⟩
    .rcases fF g with⟨_,d,_⟩ |⟨d,_⟩
     .cases d;rw[m]at q;show(no X6 t v l a c p q).elim
     .show absurd j d
    .rcases fF g with⟨d,_⟩ |⟨_,g⟩
     .show absurd d j
     .show h'.dj X6 k t t' v w l a b c g p q
def aB.setOwn{s:Sl}(b:s.isOwn=ac)(h:aB G E H0 Hf H J U)(e:Ext Hf H L H')(hn:H l=ae)(c:L l=ae)(d:kM G L H' l s):
  aB G E H0 L H' (J.set i (aa (.ref l))) (U.set i s):=
 h.setNew e (.ofOwn b (l,rfl,h.ext.h.free hn,c,d)) λa p=>by cases (Holds.own b).mp p;show hn
def aB.chg{s s':Sl}(h:aB G E H0 Hf H J U)(e:U[i]?=aa s)(L:J[i]?=aa (aa v))(k:∀b u,H b=aa u->Holds G Hf H s v b\/H' b=aa u)(ho:i7 G H0 Hf H' (aa v) s')
 (hh:∀a,Holds G Hf H' s' v a->Holds G Hf H s v a\/∀(X6:Nat) (t:Sl) (w:V),U[X6]?=aa t->J[X6]?=aa (aa w)->Holds G Hf H t w a->False):aB G E H0 Hf H' J (U.set i s'):=by
 have q:=h.at' i _ s L e
 have j:∀b,Holds G Hf H s v b->H0 b=ae/\Hf b=ae:=λb p=>by
  cases hs:s.isOwn with
  |true=>
   have(l,I,h0,hf,_):=q.own hs;have m:=(Holds.own hs).mp p;cases I;cases m
   show(h0,hf)
  |false=>
   cases s with
   |deep o=>
    have(u,fp,I,r,n,z):=q;cases I;have(fp',r',ha):=p;have:=OT.funM o v fp fp' r r';subst this
    show z b ha
   | _=>first |show xU p.1 |nomatch hs
 have fr:∀X6 t w,X6≠i->U[X6]?=aa t->J[X6]?=aa (aa w)->∀o fp,t=.deep o->OT G Hf H o w fp->OT G Hf H' o w fp:=λX6 t w hj b c o fp et r=>by
  subst et;show r.frame (aD.refl _) λx u hx hm=>?_
  rcases k x u hx with z |z
  .rcases hm with hm |hm
   .have(o',g,M):=q.there z;rw[hx]at g;cases g;rw[hm]at M
    nomatch M
   .show absurd (h.dj X6 i _ s w v x b e c L (fp,r,hm) z) hj
  .show z
 show((h.ext.f,λb u e=>?_,λb u e=>?_,h.ext.n),by simpa using h.len,λX6 u t a b=>?_,λX6 j' t t' w w' a b c b' Q p p'=>?_)
 .rcases k b u (h.ext.h b u e)with z |z
  .rw[(j b z).1]at e;nomatch e
  .show z
 .rcases k b u (h.ext.s b u e)with z |z
  .rw[(j b z).2]at e;nomatch e
  .show z
 .rcases fF b with⟨T,m,_⟩ |⟨Y,b⟩
  .subst T m;rw[L]at a;cases a;show ho
  .have q':=h.at' X6 u t a b
   cases ht:t.isOwn with
   |false=>
    cases t with
    |no=>trivial
    |im d=>show q'
    |val u=>show q'
    |deep o=>
     have(w,fp,I,r,n,z):=q';subst I
     show(w,fp,rfl,fr X6 _ w Y b a o fp rfl r,n,z)
    | _=>nomatch ht
   |true=>
    have(l2,m,e3,e4,q2):=q'.own ht;subst m;show .ofOwn ht (l2,rfl,e3,e4,q2.up (aD.refl _) λo' g=>?_)
    rcases k l2 o' g with z |z
    .show absurd (h.dj X6 i t s _ v l2 b e a L ((Holds.own ht).mpr rfl) z) Y
    .show z
 .have A:∀X6 t w,_[X6]?=aa t->J[X6]?=aa (aa w)->Holds G Hf H' t w a->(X6=i/\∀X6 t w,U[X6]?=aa t->J[X6]?=aa (aa w)->Holds G Hf H t w a->False)\/∃N,U[X6]?=aa N/\Holds G Hf H N w a:=λX6 t w b y p=>by
   rcases fF b with⟨T,m,_⟩ |⟨Y,b⟩
   .rw[m]at p;rw[T,L]at y;cases y;rw[T]
    rcases hh a p with z |z
    .show .inr (s,e,z)
    .show .inl (rfl,z)
   .show .inr (t,b,(h.at' X6 _ t y b).back (fr X6 t w Y b y) p)
  rcases A X6 t w b b' p with⟨z1,z2⟩ |⟨N,z1,z2⟩
  .rcases A j' t' w' c Q p' with⟨B,C⟩ |⟨t1,B,C⟩
   .rw[z1,B]
   .show(z2 j' t1 w' B Q C).elim
  .rcases A j' t' w' c Q p' with⟨B,C⟩ |⟨t1,B,C⟩
   .show(C X6 N w z1 b' z2).elim
   .show h.dj X6 j' N t1 w w' a z1 B b' Q z2 C
def aB.chgX{s s':Sl}(h:aB G E H0 Hf H J U)(x:Ext Hf H L H1)(e:U[i]?=aa s)(j:J[i]?=aa (aa v))(k:∀b u,H1 b=aa u->Holds G Hf H s v b\/H' b=aa u)(d:i7 G H0 L H' (aa v) s')
 (l:∀a,Holds G L H' s' v a->Holds G Hf H s v a\/H a=ae):aB G E H0 L H' J (U.set i s'):=by
 have up:∀b,Holds G Hf H s v b->Holds G L H1 s v b:=λb p=>by
  cases s with
  |deep o=>have(fp,r,g):=p;show(fp,r.up x.f x.h,g)
  | _=>show p
 show(h.step x).chg e j (λb u g=>(k b u g).imp_left (up b)) d λa p=>?_
 rcases l a p with z |z
 .show .inl (up a z)
 .show .inr λX6 t w b c q=>?_;have(o,d,_):=(h.at' X6 _ t c b).there ((h.at' X6 _ t c b).back (λo fp _ r=>r.up x.f x.h) q);rw[z]at d
  nomatch d
def aB.mutd{s s':Sl}{o:HO}(d:s.isOwn=ac)(c:s'.isOwn=ac)(h:aB G E H0 Hf H J U)(e:U[i]?=aa s)(g:J[i]?=aa (aa (.ref l)))(t:kM G Hf (upd H l o) l s'):
  aB G E H0 Hf (upd H l o) J (U.set i s'):=by
 have(v,f,m,r,q):=h.ownAt d e;rw[g]at f;cases f;show h.chg e g (λb u n=>?_) (.ofOwn c (l,rfl,m,r,t)) λa p=>.inl ((Holds.own d).mpr ((Holds.own c).mp p))
 by_cases j:b=l
 .subst j;show .inl ((Holds.own d).mpr rfl)
 .show .inr (by rw[bJ j];show n)
def aB.fixd{s:Sl}{o:HO}(C:s.isOwn=ac)(h:aB G E H0 Hf H J U)(e:U[i]?=aa s)(j:J[i]?=aa (aa (.ref l)))(ho:H l=aa o)(hr:Rep G (upd Hf l o) d (.ref l)):
  aB G E H0 (upd Hf l o) H J (U.set i (.im d)):=by
 have(l',f,Y,g,q):=h.ownAt C e;rw[j]at f;cases f;show h.re (h.ext.fix Y g ho) (by simp) (λX6 u t a b=>?_) λX6 t v a b c p=>?_
 .rcases fF b with⟨e,A,_⟩ |⟨I,b⟩
  .subst e A;rw[j]at a;cases a;show(_,rfl,hr)
  .have q:=h.at' X6 u t a b
   cases m:t.isOwn with
   |false=>
    cases t with
    |no=>trivial
    |im d=>have(M,f,r):=q;show(M,f,r.up (dC g))
    |val M=>show q
    |deep o=>
     have(w,fp,f,r,n,z):=q;subst f;show(w,fp,rfl,r.up (dC g) (aD.refl _),n,λx hx=>((z x hx).1,?_));rw[bJ (λy=>?_)]
     .show(z x hx).2
     .subst y
      show I (h.dj X6 i _ s w _ x b e a j (fp,r,hx) ((Holds.own C).mpr rfl))
    | _=>nomatch m
   |true=>
    have(L,N,Q,T,q2):=q.own m;subst N;show .ofOwn m (L,rfl,Q,?_,q2.up (dC g) λo' B=>B);rw[bJ (λz=>?_)]
    .show T
    .subst z;show I (h.inj X6 i t s L b e m C a j)
 .rcases fF b with⟨_,A,_⟩ |⟨_,b⟩
  .subst A;show(p.calm rfl).elim
  .show(t,b,(h.at' X6 _ t c b).back (λo fp _ r=>r.up (dC g) (aD.refl _)) p)
def PE.imp{t':TE}(h:PE X e t)(i:∀J H Q,t' J H Q->t J H Q):PE X e t':=λM s J H Q I q=>h M s J H Q I (i J H Q q)
variable{t':TT}
def PT.imp{t:TT}(h:PT X e t)(i:∀J H Q,t' J H Q->t J H Q):PT X e t':=λM s J H Q I q=>h M s J H Q I (i J H Q q)
def PW.imp{t:TT}(h:PW X e t)(i:∀J H Q,t' J H Q->t J H Q):PW X e t':=λa M s J H Q I q=>h a M s J H Q I (i J H Q q)
variable{es:Zq}
def PA.imp{t t':TA}(h:PA X es t)(i:∀J H Q,t' J H Q->t J H Q):PA X es t':=λpos M s J H Q I q=>h pos M s J H Q I (i J H Q q)
def PS.imp{st:Stmt}{t t':TS}(h:PS X st t)(i:∀X2 J H,t' X2 J H->t X2 J H):PS X st t':=λM s J H X2 I q=>h M s J H X2 I (i X2 J H q)
def PSs.imp{st:List Stmt}{t t':TS}(h:PSs X st t)(i:∀X2 J H,t' X2 J H->t X2 J H):PSs X st t':=λM s J H X2 I q=>h M s J H X2 I (i X2 J H q)
def PG.imp{t t':TG}(h:PG X e t)(i:∀v J H Q,t' v J H Q->t v J H Q):PG X e t':=λM s J H v u Q I r q=>h M s J H v u Q I r (i v J H Q q)
def PGs.imp{t t':TGs}(h:PGs X es t)(i:∀v J H Q,t' v J H Q->t v J H Q):PGs X es t':=λM s J H v u Q I r q=>h M s J H v u Q I r (i v J H Q q)
def PI.imp{t t':TI}(h:PI X tg e t)(i:∀J H R,t' J H R->t J H R):PI X tg e t':=λM s J H R I q=>h M s J H R I (i J H R q)
def PTs.imp{t:TT}(h:PTs X c4 t)(i:∀J H Q,t' J H Q->t J H Q):PTs X c4 t':=λM s J H Q I q=>h M s J H Q I (i J H Q q)
def OpR.imp{f:Value->Value->Sem Value}{r r':R2}(h:OpR X f r)(i:∀x y H Q,r' x y H Q->r x y H Q):OpR X f r':=λM s J H x y v u Q I a b q=>h M s J H x y v u Q I a b (i x y H Q q)
def ju.imp{f:Value}{r r':Z2->Hp->VK->Prop}(h:ju X f r)(i:∀B H Q,r' B H Q->r B H Q):ju X f r':=λM s J H B us Q I a q=>h M s J H B us Q I a (i B H Q q)
nonrec def Gx(c:Str->Addr)(X:Cx):Gc:=(X.K,c)
inductive tD(G:Gc)(f:Z4)(J:St)(H:Hp)(Q:VK):Prop
 |mk:∀E H0 Hf U d,aB G E H0 Hf H J U->f U=aa d->(∀v L H',Ext Hf H L H'->Rep G L d v->Q v H')->tD G f J H Q
inductive tDB(G:Gc)(f:Z4)(J:St)(H:Hp)(Q:VK):Prop
 |mk:∀E H0 Hf U d,aB G E H0 Hf H J U->f U=aa d->(∀v L H',Ext Hf H L H'->Rep G H' d v->Q v H')->tDB G f J H Q
inductive tDC(G:Gc)(f:Z6)(J:St)(H:Hp)(Q:VK):Prop
 |mk:∀E H0 Hf U j,aB G E H0 Hf H J U->f U=aa j->(∀a C L H',Ext Hf H L H'->(SqL G.K H' a C\/SqT G.K H' a C)->ay G L j C->Q (.ref a) H')->tDC G f J H Q
inductive tDO(G:Gc)(f:Z6)(J:St)(H:Hp)(Q:VK):Prop
 |mk:∀E H0 Hf U j,aB G E H0 Hf H J U->f U=aa j->(∀l C L H',Ext Hf H L H'->H l=ae->L l=ae->H' l=aa (.lst C)->ay G L j C->Q (.ref l) H')->tDO G f J H Q
inductive tDA(G:Gc)(f:Z6)(J:St)(H:Hp)(Q:Z2->Hp->Prop):Prop
 |mk:∀E H0 Hf U j,aB G E H0 Hf H J U->f U=aa j->(∀C L H',Ext Hf H L H'->ay G L j C->Q C H')->tDA G f J H Q
inductive IQ(G:Gc)(f:Z6)(J:St)(H:Hp)(Q:Z2->Hp->Prop):Prop
 |mk:∀E H0 Hf U j,aB G E H0 Hf H J U->f U=aa j->(∀C L H',Ext Hf H L H'->ay G H' j C->Q C H')->IQ G f J H Q
inductive tDT(G:Gc)(f:Zr)(J:St)(H:Hp)(Q:Bool->Hp->Prop):Prop
 |mk:∀E H0 Hf U b,aB G E H0 Hf H J U->f U=aa b->(∀L H',Ext Hf H L H'->Q b H')->tDT G f J H Q
def DE(c:Str->Addr)(X:Cx)(e:Expr)(f:Z4):Prop:=PE X e (tD (Gx c X) f)
def DB(c:Str->Addr)(X:Cx)(e:Expr)(f:Z4):Prop:=PE X e (tDB (Gx c X) f)
def DC(c:Str->Addr)(X:Cx)(e:Expr)(f:Z6):Prop:=PE X e (tDC (Gx c X) f)
def DO(c:Str->Addr)(X:Cx)(e:Expr)(f:Z6):Prop:=PE X e (tDO (Gx c X) f)
structure DA(c:Str->Addr)(X:Cx)(es:Zq)(f:Z6):Prop where
 pa:PA X es (tDA (Gx c X) f)
 len:∀U j,f U=aa j->j.length=es.length
structure DAB(c:Str->Addr)(X:Cx)(es:Zq)(f:Z6):Prop where
 pa:PA X es (IQ (Gx c X) f)
 len:∀U j,f U=aa j->j.length=es.length
def DT(c:Str->Addr)(X:Cx)(e:Expr)(f:Zr):Prop:=PT X e (tDT (Gx c X) f)
def DW(c:Str->Addr)(X:Cx)(e:Expr)(f:Zr):Prop:=PW X e (tDT (Gx c X) f)
abbrev D.scalar:D->Bool
 |.non=>ac
 |.bl _=>ac
 |.int _=>ac
 |.str _=>ac
 | _=>ah
def Rep.sc(a:d.scalar=ac)(r:Rep G H d v):Rep G H' d v:=by
 cases d <;> first |show r |cases a
abbrev nG:D->Zs
 |.lst B=>aa B
 |.tup B=>aa B
 |.kl B=>aa B
 |.kt B=>aa B
 | _=>ae
def yS(e:nG d=aa j)(r:Rep G H d v):∃a C,v=.ref a/\(SqL G.K H a C\/SqT G.K H a C)/\ay G H j C:=by
 cases d with
 |lst B=>cases e;have(a,C,b,q,r):=r;show(a,C,b,.inl (SqL.of q),r)
 |tup B=>cases e;have(a,C,b,q,r):=r;show(a,C,b,.inr (SqT.of q),r)
 |kl B=>cases e;have(a,C,b,q,r):=r;show(a,C,b,.inl q,r)
 |kt B=>cases e;have(a,C,b,q,r):=r;show(a,C,b,.inr q,r)
 | _=>nomatch e
def DK(s:aD H H')(h:SqL K H a C\/SqT K H a C):SqL K H' a C\/SqT K H' a C:=h.imp s.seq s.tup
def aR(f:Z6)(U:LS):OD:=(f U).map .lst
def cH(f:Z6)(U:LS):OD:=(f U).map .tup
def bH(f:Z4)(U:LS):Zs:=(f U).bind nG
variable{c:Str->Addr}{f:Z4}
def DE.db(h:DE c X e f):DB c X e f:=PE.imp h λJ H Q b=>by
 have(E,H0,Hf,U,d,st,a,k):=b;show((E,H0,Hf,U,d,st,a,λv L H' x r=>k v L H' x (r.up x.s)))
def DE.dc(h:DE c X e f):DC c X e (bH f):=PE.imp h λJ H Q l=>by
 have(E,H0,Hf,U,j,st,b,k):=l;unfold bH at b
 cases g:f U with
 |none=>rw[g]at b;nomatch b
 |some d=>
  rw[g]at b;show(E,H0,Hf,U,d,st,g,λv L H' x r=>?_);have(a,C,i,q,rs):=yS b r;subst i;show k a C L H' x (DK x.s q) rs
def DO.de{f:Z6}(h:DO c X e f):DE c X e (aR f):=PE.imp h λJ H Q m=>by
 have(E,H0,Hf,U,d,st,a,k):=m;unfold aR at a
 cases b:f U with
 |none=>rw[b]at a;nomatch a
 |some j=>
  rw[b]at a;have a:=cp a;subst a;show(E,H0,Hf,U,j,st,b,λl C L H' x hn g i r=>k _ _ H' (x.fix hn g i) (l,C,rfl,ca,r.up (dC g)))
def DO.dc{f:Z6}(h:DO c X e f):DC c X e f:=PE.imp h λJ H Q d=>by
 have (E,H0,Hf,U,j,st,a,k):=d;show (
 (E,H0,Hf,U,j,st,a,λl C L H' x hn g b r=>k l C L H' x (.inl (SqL.of b)) r))
def af(i:Nat)(U:LS):OD:=match U[i]? with
 |some (.im d)=>aa d
 | _=>ae
def kO(i:Nat)(U:LS):OD:=match U[i]? with
 |some (.im d)=>aa d
 |some (.own B)=>aa (.lst B)
 |some (.ownd ks B)=>aa (.dic ks B)
 |some (.deep o)=>if o.kn then aa o.toD else ae
 | _=>ae
def aF(i:Nat)(U:LS):Zs:=match U[i]? with
 |some (.im d)=>nG d
 |some (.own B)=>aa B
 | _=>ae
def QL(h:af i U=aa d):U[i]?=aa (.im d):=by
 unfold af at h
 grind
def DM(h:PE X e (cb i)):DE c X e (af i):=PE.imp h λJ H Q f=>by
 have(E,H0,Hf,U,d,st,b,k):=f;have(v,a,r):=st.imm (QL b);show(v,a,k v Hf H (Ext.refl st.sub) r)
def IR(h:PE X e (cb i)):DC c X e (aF i):=PE.imp h λJ H Q m=>by
 have(E,H0,Hf,U,j,st,b,k):=m;unfold aF at b
 cases es:U[i]? with
 |none=>rw[es]at b;nomatch b
 |some s=>
  rw[es]at b
  cases s with
  |im d=>
   have(v,f,r):=st.imm es;have(a,C,g,q,rs):=yS b r;subst g
   show(_,f,k a C Hf H (Ext.refl st.sub) (DK st.sub q) rs)
  |own B=>
   cases b;have(l,f,_,_,C,q,r):=st.ownAt rfl es
   show(_,f,k l C Hf H (Ext.refl st.sub) (.inl (SqL.of q)) r)
  | _=>nomatch b
def QM(h:PE X e (cb i)):DB c X e (kO i):=PE.imp h λJ H Q j=>by
 have(E,H0,Hf,U,d,st,a,k):=j;unfold kO at a
 cases es:U[i]? with
 |none=>simp only[es]at a;nomatch a
 |some s=>
  rw[es]at a
  cases s with
  |im d=>
   cases a;have(v,b,r):=st.imm es
   show(_,b,k v Hf H (Ext.refl st.sub) (r.up st.sub))
  |own B=>
   cases a;have(l,b,_,_,C,q,r):=st.ownAt rfl es
   show(_,b,k _ Hf H (Ext.refl st.sub) (l,C,rfl,q,r.up st.sub))
  |ownd ks B=>
   cases a;have(l,b,_,_,C,q,z,r):=st.ownAt rfl es
   show(_,b,k _ Hf H (Ext.refl st.sub) (l,C,rfl,q,z,r.up st.sub))
  |deep o=>
   replace a:(if o.kn=ac then aa o.toD else ae)=aa d:=a;split at a
   .rename_i g;cases a;have(v,b,u,fp,f,r,_):=st.slot es;subst f;show(_,b,k _ Hf H (Ext.refl st.sub) (r.rep st.sub g))
   .nomatch a
  | _=>nomatch a
def yT(h:PE X e (tC v))(r:∀G H,Rep G H d v):DE c X e (λ_=>aa d):=PE.imp h λJ H Q b=>by
 have(E,H0,Hf,U,f,st,a,k):=b;cases a;show k v Hf H (Ext.refl st.sub) (r _ _)
def am{i:Int}{X6}:DE c X (.Constant (.int i) X6 pos) (λ_=>aa (.int i)):=yT OH λ_ _=>rfl
def mz{i:Bool}{X6}:DE c X (.Constant (.bool i) X6 pos) (λ_=>aa (.bl i)):=yT OI λ_ _=>rfl
def qr{X6}:DE c X (.Constant .none X6 pos) kN:=yT OJ λ_ _=>rfl
def aq{i:Str}{X6}:DE c X (.Constant (.str i) X6 pos) (λ_=>aa (.str i)):=yT OK λ_ _=>rfl
def dv(i:Nat)(b:X.N[i]?=aa x<|Zb)(d:Vis X.env.scope x<|Zh)(hd:NDb x<|Zc)
 (a:NCd x<|Zc):DE c X (.Name x pos) (af i):=DM (qi b d hd a)
def dvC(i:Nat)(b:X.N[i]?=aa x<|Zb)(d:Vis X.env.scope x<|Zh)(hd:NDb x<|Zc)
 (a:NCd x<|Zc):DC c X (.Name x pos) (aF i):=IR (qi b d hd a)
def dvB(i:Nat)(b:X.N[i]?=aa x<|Zb)(d:Vis X.env.scope x<|Zh)(hd:NDb x<|Zc)
 (a:NCd x<|Zc):DB c X (.Name x pos) (kO i):=QM (qi b d hd a)
def ag(f:Z4)(g:Z6)(U:LS):Zs:=(f U).bind λd=>(g U).map λj=>d::j
variable{g:Z6}
def yU(h:ag f g U=aa j):∃d r,f U=aa d/\g U=aa r/\j=d::r:=by
 unfold ag at h
 cases a:f U with
 |none=>rw[a]at h;nomatch h
 |some d=>
  cases b:g U with
  |none=>rw[a,b]at h;nomatch h
  |some r=>rw[a,b]at h;cases h;show(d,r,rfl,rfl,rfl)
def au:DA c X [] nZ:=(PA.imp bM λJ H Q b=>by have(E,H0,Hf,U,j,st,a,k):=b;cases a;show k [] Hf H (Ext.refl st.sub) rfl,λU j h=>by cases h;rfl)
def ai(ha:DE c X e f)(i:DA c X es g)(o:StE X e es<|Zb):DA c X (e::es) (ag f g):=by
 show(PA.imp (bD ha i.pa o) λJ H Q p=>?_,λU j h=>?_)
 .have(E,H0,Hf,U,j,st,n,k):=p;have(d,r,b,a,rfl):=yU n;show(E,H0,Hf,U,d,st,b,λv a8 H1 l q=>(E,H0,a8,U,r,st.step l,a,λC a9 H2 m t=>k _ a9 H2 (l.trans m) (.cons (q.up m.f) t)))
 .have(d,r,b,a,rfl):=yU h;simp[i.len U r a]
def dU:DAB c X [] nZ:=(PA.imp bM λJ H Q b=>by have(E,H0,Hf,U,j,st,a,k):=b;cases a;show k [] Hf H (Ext.refl st.sub) rfl,λU j h=>by cases h;rfl)
def cY(ha:DB c X e f)(i:DAB c X es g)(o:StE X e es<|Zb):DAB c X (e::es) (ag f g):=by
 show(PA.imp (bD ha i.pa o) λJ H Q p=>?_,λU j h=>?_)
 .have(E,H0,Hf,U,j,st,n,k):=p;have(d,r,b,a,rfl):=yU n;show(E,H0,Hf,U,d,st,b,λv a8 H1 l q=>(E,H0,a8,U,r,st.step l,a,λC a9 H2 m t=>k _ a9 H2 (l.trans m) (.cons (q.up m.h) t)))
 .have(d,r,b,a,rfl):=yU h;simp[i.len U r a]
def cv{f:Z6}(h:DA c X es f)(b:es.length<=1000<|Zk):DO c X (.List es pos) f:=PE.imp (yK h.pa) λJ H Q d=>by
 have (E,H0,Hf,U,j,st,a,k):=d;show (
 (E,H0,Hf,U,j,st,a,λC L H' x r=>(by
  rw[<- r.length,h.len U j a];show oH (vo b),λp hp=>k p C L _ (x.trans (Ext.tmp x.s hp)) (x.h.free hp) (x.s.free hp) ca r)))
variable{k':Nat}
def fg{f:Z6}(h:DA c X es f)(e:es.length<=1000<|Zk):DE c X (.Tuple es k' pos) (cH f):=PE.imp (Dn h.pa) λJ H Q g=>by
 have(E,H0,Hf,U,d,st,a,k):=g;unfold cH at a
 cases b:f U with
 |none=>rw[b]at a;nomatch a
 |some j=>
  rw[b]at a;have a:=cp a;subst a
  show(E,H0,Hf,U,j,st,b,λC L H' x r=>(by
   rw[<- r.length,h.len U j b];show oH (vo e),λp hp=>k _ _ _ (x.trans (Ext.new x.s hp)) (p,C,rfl,ca,r.up (dC (x.s.free hp)))))
def rD(G:Gc)(m:D->D->OD):R2:=λa b H Q=>∃Hf x y d,aD Hf H/\Rep G Hf x a/\Rep G Hf y b/\m x y=aa d/\∀v L H',Ext Hf H L H'->Rep G L d v->Q v H'
nonrec abbrev OpD(c:Str->Addr)(X:Cx)(f:Value->Value->Sem Value)(m:D->D->OD):Prop:=OpR X f (rD (Gx c X) m)
def m2(m:D->D->OD)(f g:Z4)(U:LS):OD:=(f U).bind λx=>(g U).bind λy=>m x y
variable{m:D->D->OD}{g:Z4}
def vq(h:m2 m f g U=aa d):∃x y,f U=aa x/\g U=aa y/\m x y=aa d:=by
 unfold m2 at h
 cases a:f U with
 |none=>rw[a]at h;nomatch h
 |some x=>
  cases b:g U with
  |none=>rw[a,b]at h;nomatch h
  |some y=>rw[a,b]at h;show(x,y,rfl,rfl,h)
variable{r:R2}
def two(p:∀x y H Q,rD (Gx c X) m x y H Q->r x y H Q)(h:tD (Gx c X) (m2 m f g) J H Q):tOp r (tD (Gx c X) f) (tD (Gx c X) g) J H Q:=by
 have(E,H0,Hf,U,d,st,o,k):=h;have(x,y,j,l,n):=vq o;show(E,H0,Hf,U,x,st,j,λv a8 H1 e q=>(E,H0,a8,U,y,st.step e,l,λu a9 H2 b t=>p _ _ _ _ (a9,x,y,d,b.s,q.up b.f,t,n,λw a i A z=>k w a i ((e.trans b).trans A) z)))
def IS(p:∀x y H Q,rD (Gx c X) m x y H Q->r x y H Q)(q:∀x y d,m x y=aa d->d.scalar=ac)(h:tD (Gx c X) (m2 m f g) J H Q):tOp r (tDB (Gx c X) f) (tDB (Gx c X) g) J H Q:=by
 have(E,H0,Hf,U,d,st,o,k):=h;have(x,y,l,n,b):=vq o
 show(E,H0,Hf,U,x,st,l,λv a8 H1 e t=>(E,H0,a8,U,y,st.step e,n,λu a9 H2 a z=>p _ _ _ _ (H2,x,y,d,aD.refl _,t.up a.h,z,b,λw j i B A=>
  k w a9 i ((e.trans a).trans (Ext.grow a.s B.h)) (A.sc (q _ _ _ b)))))
variable{a b:Expr}
def aO{d:Operator}(i:OpD c X (iD d) m)(ha:DE c X a f)(e:DE c X b g):DE c X (.BinOp a d b pos) (m2 m f g):=
 PE.imp (Da i ha e) λ_ _ _ h=>two (λ_ _ _ _ h=>h) h
variable{op:CmpOp}
def kP(i:OpD c X (dR op) m)(j:∀x y d,m x y=aa d->d.scalar=ac)(ha:DB c X a f)(e:DB c X b g)(hm:oJ op b=ah<|Zm):
  DE c X (.Compare a [op] [b] pos) (m2 m f g):=PE.imp (HV i ha e hm) λ_ _ _ h=>IS (λ_ _ _ _ h=>h) j h
def mB(f:Z4)(U:LS):Option Bool:=(f U).bind λd=>match d with
 |.bl b=>aa b
 | _=>ae
def vt{b:Bool}(h:mB f U=aa b):f U=aa (.bl b):=by
 unfold mB at h
 cases e:f U with
 |none=>rw[e]at h;nomatch h
 |some d=>rw[e]at h;cases d <;> cases h;rfl
def bz(j:OpD c X (dR op) m)(l:∀x y d,m x y=aa d->d.scalar=ac)(ha:DB c X a f)(i:DB c X b g)(hm:oJ op b=ah<|Zm):
  DT c X (.Compare a [op] [b] pos) (mB (m2 m f g)):=PT.imp (HX j ha i hm) λJ H Q n=>by
 have (E,H0,Hf,U,b,st,e,k):=n;show (
 IS (λ_ _ _ _ h=>h) l (E,H0,Hf,U,.bl b,st,vt e,λv L H' x r=>(b,r,k L H' x)))
abbrev qt:D->Option Bool
 |.non=>aa ah
 |.bl b=>aa b
 |.int i=>aa (i != 0)
 |.str x=>if x.length<=16777216 then aa ((x.length:Int) != 0) else ae
 |.lst B=>aa (!B.isEmpty)
 |.tup B=>aa (!B.isEmpty)
 |.kl B=>aa (!B.isEmpty)
 |.kt B=>aa (!B.isEmpty)
 |.dic ks _=>aa (!ks.isEmpty)
 | _=>ae
def ay.empty(r:ay G H j C):j.isEmpty=C.isEmpty:=by
 cases j with
 |nil=>cases (r);rfl
 |cons d j=>have(v,r',e,_):=r;subst e;rfl
def QN{a b:Type}{ks:List a}{C:List b}(h:ks.length=C.length):(ks.zip C).isEmpty=ks.isEmpty:=by
 cases ks <;> cases C <;> first |rfl |cases h
def DN{b:Bool}(e:qt d=aa b)(r:Rep G H d v):yI G.K v H b:=by
 cases d with
 |non=>cases e;subst r;rfl
 |bl x=>cases e;subst r;rfl
 |int i=>cases e;subst r;rfl
 |str x=>
  subst r;replace e:(if x.length<=16777216 then aa _ else ae)=aa b:=e;split at e
  .rename_i f;cases e;show(by rw[fc];show f,rfl)
  .grind
 |lst B=>cases e;have(a,C,c,q,r):=r;subst c;show .inl (C,SqL.of q,by rw[r.empty])
 |tup B=>cases e;have(a,C,c,q,r):=r;subst c;show .inr (.inl (C,SqT.of q,by rw[r.empty]))
 |kl B=>cases e;have(a,C,c,q,r):=r;subst c;show .inl (C,q,by rw[r.empty])
 |kt B=>cases e;have(a,C,c,q,r):=r;subst c;show .inr (.inl (C,q,by rw[r.empty]))
 |dic ks B=>cases e;have(a,C,c,q,l,r):=r;subst c;show .inr (.inr (_,q,by rw[QN l]))
 |ins _ _ _=>nomatch e
 |kd _ _=>nomatch e
 |dT _ _=>nomatch e
 |tx _ _=>nomatch e
def d9(f:Z4)(U:LS):Option Bool:=(f U).bind qt
def gc(ha:DB c X a f)(i:(∀e,isTrue a X.env e=(do let v <- e;gY a.pos;fX [v] (truthy v)))<|Zd):DT c X a (d9 f):=
 PT.imp (Ib ha i) λJ H Q j=>by
  have(E,H0,Hf,U,b,st,g,k):=j;unfold d9 at g
  cases h:f U with
  |none=>rw[h]at g;nomatch g
  |some d=>
   rw[h]at g;show(E,H0,Hf,U,d,st,h,λv L H' x r=>(b,DN g r,k L H' x))
def jX(f g:Zr)(U:LS):Option Bool:=(f U).bind λb=>if b then g U else aa ah
def mOr(f g:Zr)(U:LS):Option Bool:=(f U).bind λb=>if b then aa ac else g U
def eh(f:Zr)(U:LS):Option Bool:=(f U).map not
variable{f:Zr}
def DW.dt(h:DW c X e f):DT c X e f:=PW.pt h
def vv(h:DT c X a f):DW c X (.BoolOp .And [a] pos) f:=ON h
def IT(h:DT c X a f):DW c X (.BoolOp .Or [a] pos) f:=OO h
def vw{g:Zr}{rest:Zq}(h:DT c X a f)(h':DW c X (.BoolOp .And (b::rest) pos) g):DW c X (.BoolOp .And (a::b::rest) pos) (jX f g):=PW.imp (OP h h') λJ H Q j=>by
 have(E,H0,Hf,U,b,st,d,k):=j;unfold jX at d
 cases e:f U with
 |none=>rw[e]at d;nomatch d
 |some x=>
  rw[e]at d;show(E,H0,Hf,U,x,st,e,λa8 H1 i=>?_)
  cases x with
  |true=>rw[if_pos rfl];show(E,H0,a8,U,b,st.step i,d,λa9 H2 l=>k a9 H2 (i.trans l))
  |false=>cases d;rw[if_neg c6];show k a8 H1 i
def yV{g:Zr}{rest:Zq}(h:DT c X a f)(h':DW c X (.BoolOp .Or (b::rest) pos) g):DW c X (.BoolOp .Or (a::b::rest) pos) (mOr f g):=PW.imp (OQ h h') λJ H Q j=>by
 have(E,H0,Hf,U,b,st,d,k):=j;unfold mOr at d
 cases e:f U with
 |none=>rw[e]at d;nomatch d
 |some x=>
  rw[e]at d;show(E,H0,Hf,U,x,st,e,λa8 H1 i=>?_)
  cases x with
  |false=>rw[if_neg c6];show(E,H0,a8,U,b,st.step i,d,λa9 H2 l=>k a9 H2 (i.trans l))
  |true=>cases d;rw[if_pos rfl];show k a8 H1 i
def i8(h:DT c X a f):DT c X (.UnaryOp .Not a pos) (eh f):=PT.imp (HG h) λJ H Q g=>by
 have(E,H0,Hf,U,b,st,d,k):=g;unfold eh at d
 cases e:f U with
 |none=>rw[e]at d;nomatch d
 |some x=>
  rw[e]at d;cases d;show(E,H0,Hf,U,x,st,e,λa8 H1 i=>k a8 H1 i)
def i9(f g:Z4)(U:LS):OD:=(mB f U).bind λb=>if b then g U else aa (.bl ah)
def vOr(f g:Z4)(U:LS):OD:=(mB f U).bind λb=>if b then aa (.bl ac) else g U
def o4(f:Z4)(U:LS):OD:=(mB f U).map λb=>.bl (!b)
variable{f:Z4}
def qu{op}(h:DE c X a f):DE c X (.BoolOp op [a] pos) f:=OV h
def qv{rest:Zq}(h:DE c X a f)(h':DE c X (.BoolOp .And (b::rest) pos) g):DE c X (.BoolOp .And (a::b::rest) pos) (i9 f g):=PE.imp (OW h h') λJ H Q l=>by
 have(E,H0,Hf,U,d,st,e,k):=l;unfold i9 at e
 cases i:mB f U with
 |none=>rw[i]at e;nomatch e
 |some x=>
  rw[i]at e;show(E,H0,Hf,U,.bl x,st,vt i,λv a8 H1 j m=>(x,m,?_))
  cases x with
  |true=>rw[if_pos rfl];show(E,H0,a8,U,d,st.step j,e,λv a9 H2 o n=>k v a9 H2 (j.trans o) n)
  |false=>cases e;rw[if_neg c6];show k _ a8 H1 j rfl
def QO{rest:Zq}(h:DE c X a f)(h':DE c X (.BoolOp .Or (b::rest) pos) g):DE c X (.BoolOp .Or (a::b::rest) pos) (vOr f g):=PE.imp (OX h h') λJ H Q l=>by
 have(E,H0,Hf,U,d,st,e,k):=l;unfold vOr at e
 cases i:mB f U with
 |none=>rw[i]at e;nomatch e
 |some x=>
  rw[i]at e;show(E,H0,Hf,U,.bl x,st,vt i,λv a8 H1 j m=>(x,m,?_))
  cases x with
  |false=>rw[if_neg c6];show(E,H0,a8,U,d,st.step j,e,λv a9 H2 o n=>k v a9 H2 (j.trans o) n)
  |true=>cases e;rw[if_pos rfl];show k _ a8 H1 j rfl
def IU(h:DE c X a f):DE c X (.UnaryOp .Not a pos) (o4 f):=PE.imp (OY h) λJ H Q g=>by
 have(E,H0,Hf,U,d,st,b,k):=g;unfold o4 at b
 cases e:mB f U with
 |none=>rw[e]at b;nomatch b
 |some x=>
  rw[e]at b;cases b;show(E,H0,Hf,U,.bl x,st,vt e,λv a8 H1 j i=>(x,i,k _ a8 H1 j rfl))
def vIf(t:Zr)(f g:Z4)(U:LS):OD:=(t U).bind λb=>if b then f U else g U
variable{cd:Expr}
def yW{t:Zr}(m:DT c X cd t)(ha:DE c X a f)(l:DE c X b g):DE c X (.IfExp cd a b pos) (vIf t f g):=PE.imp (yC m ha l) λJ H Q n=>by
 have(E,H0,Hf,U,d,st,e,k):=n;unfold vIf at e
 cases i:t U with
 |none=>rw[i]at e;nomatch e
 |some x=>
  rw[i]at e;show(E,H0,Hf,U,x,st,i,λa8 H1 h=>?_)
  cases x with
  |true=>rw[if_pos rfl];show(E,H0,a8,U,d,st.step h,e,λv a9 H2 j r=>k v a9 H2 (h.trans j) r)
  |false=>rw[if_neg c6];show(E,H0,a8,U,d,st.step h,e,λv a9 H2 j r=>k v a9 H2 (h.trans j) r)
noncomputable instance {i X6:Int}:Decidable (HS i X6):=by unfold HS;infer_instance
noncomputable instance {i X6:Int}:Decidable (qm i X6):=by unfold qm;infer_instance
noncomputable instance {i X6:Int}:Decidable (vd i X6):=by unfold vd;infer_instance
abbrev dI(X4:Int->Int->Prop)[∀i X6,Decidable (X4 i X6)](g:Int->Int->D):D->D->OD
 |.int i,.int X6=>if X4 i X6 then aa (g i X6) else ae
 | _,_=>ae
abbrev dI0(g:Int->Int->D):D->D->OD
 |.int i,.int X6=>aa (g i X6)
 | _,_=>ae
abbrev aZ:D->D->OD
 |.int i,.int X6=>aa (.int (i+X6))
 |.str a,.str b=>if a.length+b.length<=16777216 then aa (.str (a++b)) else ae
 |.lst a,.lst b=>if a.length+b.length<=16777216 then aa (.lst (a++b)) else ae
 | _,_=>ae
nonrec def kQ:D->D->OD:=dI0 λi X6=>.int (i-X6)
nonrec def cS:D->D->OD:=dI (λ_ X6=>0<X6) λi X6=>.int (i % X6)
nonrec def yX:D->D->OD:=dI qm λi X6=>.int (i ^ X6.toNat)
nonrec def dLt:D->D->OD:=dI0 λi X6=>.bl (decide (i<X6))
nonrec def dLe:D->D->OD:=dI0 λi X6=>.bl (decide (i<=X6))
nonrec def dGt:D->D->OD:=dI0 λi X6=>.bl (decide (X6<i))
variable{gd:Int->Int->D}
def DQ{f:Value->Value->Sem Value}{X4:Int->Int->Prop}[∀i X6,Decidable (X4 i X6)]{g:Int->Int->V}(h:OpR X f (rI X4 g))(b:∀G H i X6,Rep G H (gd i X6) (g i X6)):OpD c X f (dI X4 gd):=by
 rintro M s J H p q v u Q I m n ⟨Hf,x,y,d,o,j,l,e,k⟩;unfold dI at e;split at e
 .split at e
  .rename_i a;cases e;show h M s J H p q v u Q I m n (_,_,j,l,a,k _ Hf H (Ext.refl o) (b _ _ _ _))
  .nomatch e
 .nomatch e
def yY{f:Value->Value->Sem Value}{g:Int->Int->V}(h:OpR X f (rI0 g))(a:∀G H i X6,Rep G H (gd i X6) (g i X6)):OpD c X f (dI0 gd):=by
 rintro M s J H o p v u Q I l m ⟨Hf,x,y,d,n,b,j,e,k⟩;unfold dI0 at e;split at e
 .cases e;show h M s J H o p v u Q I l m (_,_,b,j,k _ Hf H (Ext.refl n) (a _ _ _ _))
 .nomatch e
def bN:OpD c X (iD .Add) aZ:=by
 rintro M s J H m n v u Q I j l ⟨Hf,x,y,d,h,f,g,e,k⟩;unfold aZ at e;split at e
 .cases e;show Pq M s J H m n v u Q I j l (_,_,f,g,k _ Hf H (Ext.refl h) rfl)
 .split at e
  .rename_i i;cases e;show PL M s J H m n v u Q I j l (_,_,f,g,by rw[fc];show i,k _ Hf H (Ext.refl h) rfl)
  .nomatch e
 .split at e
  .rename_i i;cases e;have(a,C,o,r,f):=f;have(b,us,q,t,g):=g
   show Dx M s J H m n v u Q I j l (a,b,C,us,o,q,h _ _ r,h _ _ t,by rw[fc,<- f.length,<- g.length];show i,
    λp hp=>k _ _ _ (Ext.new h hp) (p,_,rfl,ca,(f.append g).up (dC (h.free hp))))
  .nomatch e
 .nomatch e
def vz:OpD c X (iD .Sub) kQ:=yY Ps λ_ _ _ _=>rfl
def eB:OpD c X (iD .Mod) cS:=DQ Pt λ_ _ _ _=>rfl
def IV:OpD c X (iD .Pow) yX:=DQ Pu λ_ _ _ _=>rfl
def jw:OpD c X (dR .Lt) dLt:=yY PB λ_ _ _ _=>rfl
def sP:OpD c X (dR .LtE) dLe:=yY PC λ_ _ _ _=>rfl
def yZ:OpD c X (dR .Gt) dGt:=yY PF λ_ _ _ _=>rfl
def DR{g:Int->Int->D}(a:∀i X6,(g i X6).scalar=ac):∀x y d,dI0 g x y=aa d->d.scalar=ac:=by
 intro x y d e;unfold dI0 at e;split at e
 .cases e;show a _ _
 .nomatch e
def jx:∀x y d,dLt x y=aa d->d.scalar=ac:=DR λ_ _=>rfl
def sQ:∀x y d,dLe x y=aa d->d.scalar=ac:=DR λ_ _=>rfl
def y0:∀x y d,dGt x y=aa d->d.scalar=ac:=DR λ_ _=>rfl
abbrev ja:D->OD
 |.int i=>aa (.int (-i))
 | _=>ae
def m1(m:D->OD)(f:Z4)(U:LS):OD:=(f U).bind m
def lR(ha:DE c X a f):DE c X (.UnaryOp .USub a pos) (m1 ja f):=PE.imp (Pp Pw ha) λJ H Q g=>by
 have(E,H0,Hf,U,d,st,b,k):=g;unfold m1 at b
 cases e:f U with
 |none=>rw[e]at b;nomatch b
 |some y=>
  rw[e]at b
  cases y with
  |int i=>cases b;show(E,H0,Hf,U,.int i,st,e,λv L H' x r=>(i,r,k _ L H' x rfl))
  | _=>nomatch b
def y3{x:Option Bool}{g:Bool->Bool}:∀d,x.map (λb=>D.bl (g b))=aa d->d.scalar=ac:=by
 intro d e
 cases x with
 |none=>nomatch e
 |some b=>cases e;rfl
abbrev eqF:D->D->Bool
 |.non,.non=>ac
 |.bl a,.bl b=>a==b
 |.int a,.int b=>a==b
 |.str a,.str b=>a==b
 | _,_=>ah
abbrev ge(f:D->D->Option Bool):LD->LD->Option Bool
 | [],[]=>aa ac
 |x::B,y::ys=>(f x y).bind λb=>(ge f B ys).map λr=>b && r
 | _,_=>aa ah
abbrev DU:D->D->Bool
 |.bl _,.int _=>ac
 |.int _,.bl _=>ac
 | _,_=>ah
abbrev DV(f:D->D->Option Bool):D->D->Option Bool
 |.lst B,.lst ys=>if B.length=ys.length then ge f B ys else aa ah
 |.tup B,.tup ys=>if B.length=ys.length then ge f B ys else ae
 |x,y=>if x.scalar && y.scalar && !DU x y then aa (eqF x y) else ae
abbrev deq:Nat->D->D->Option Bool
 | 0,_,_=>ae
 |n+1,x,y=>DV (deq n) x y
def dEq(x y:D):OD:=(deq 20 x y).map .bl
def dNe(x y:D):OD:=(deq 20 x y).map λb=>.bl (!b)
def cT:∀x y d,dEq x y=aa d->d.scalar=ac:=λ_ _ d e=>y3 d e
def vB:∀x y d,dNe x y=aa d->d.scalar=ac:=λ_ _ d e=>y3 d e
variable{x y:D}{B ys:LD}{b:Bool}
def IW{f:D->D->Option Bool}(h:ge f (x::B) (y::ys)=aa b):∃a c,f x y=aa a/\ge f B ys=aa c/\b=(a && c):=by
 dsimp only[ge]at h
 cases d:f x y with
 |none=>rw[d]at h;nomatch h
 |some a=>
  cases e:ge f B ys with
  |none=>rw[d,e]at h;nomatch h
  |some c=>rw[d,e]at h;cases h;show(a,c,rfl,rfl,rfl)
def qw{f:D->D->Option Bool}:∀{B ys:LD} {b:Bool},B.length=ys.length->ge f B ys=aa b->∃e:Nat->Bool,(∀X6 x y,B[X6]?=aa x->ys[X6]?=aa y->f x y=aa (e X6))/\(eQ B.length).all e=b
 | [],[],b,_,h=>by cases h;show(λ_=>ac,λX6 x y e=>by simp at e,rfl)
 |x::B,y::ys,b,hl,h=>by
  have(c,m,d,g,rfl):=IW h;have(e,i,ha):=qw (by simpa using hl) g
  show(λX6=>match X6 with | 0=>c |X6+1=>e X6,λX6 j l ex a=>?_,?_)
  .cases X6 with
   |zero=>simp at ex a;subst ex a;show d
   |succ X6=>show i X6 j l (by simpa using ex) (by simpa using a)
  .rw[aU,range_succ_eq_map,oF,all_map,<- ha]
   rfl
 | [],_::_,_,hl,_=>by cases hl
 | _::_,[],_,hl,_=>by cases hl
def y4(s:d.scalar=ac):d=.non\/(∃b,d=.bl b)\/(∃i,d=.int i)\/∃z,d=.str z:=by
 cases d with
 |non=>show .inl rfl
 |bl b=>show .inr (.inl (b,rfl))
 |int i=>show .inr (.inr (.inl (i,rfl)))
 |str z=>show .inr (.inr (.inr (z,rfl)))
 | _=>nomatch s
def y6(c:(x.scalar && y.scalar && !DU x y)=ac)(d:Rep G H x v)(e:Rep G H y u):iI v=ac/\iI u=ac/\eqV v u=eqF x y/\Dc v u=ac/\decide (v=u)=eqF x y:=by
 rw[cM,cM]at c
 rcases y4 c.1.1 with rfl |⟨a,rfl⟩ |⟨a,rfl⟩ |⟨a,rfl⟩ <;> rcases y4 c.1.2 with rfl |⟨b,rfl⟩ |⟨b,rfl⟩ |⟨b,rfl⟩ <;> first
  |(cases c.2;done)
  |(subst d;subst e;show(rfl,rfl,rfl,rfl,?_);first |show De |show Dd |show Dg |rfl)
variable{n:Nat}
def y7(a:¬(∃B ys,x=.lst B/\y=.lst ys)/\¬(∃B ys,x=.tup B/\y=.tup ys))(h:deq (n+1) x y=aa b):(x.scalar && y.scalar && !DU x y)=ac/\b=eqF x y:=by
 replace h:DV _ x y=aa b:=h;unfold DV at h;split at h
 .show absurd (_,_,rfl,rfl) a.1
 .show absurd (_,_,rfl,rfl) a.2
 .split at h
  .rename_i c;cases h;show(c,rfl)
  .nomatch h
def IX:∀(n:Nat) {x y:D} {b:Bool} {v:V},deq n x y=aa b->Rep G H x v->Rep G H y v->b=ac:=by
 intro n
 induction n with
 |zero=>intro x y b v h;nomatch h
 |succ n L=>
  have all:∀(B ys:LD) C b,ay G H B C->ay G H ys C->ge (deq n) B ys=aa b->b=ac:=by
   intro B
   induction B with
   |nil=>
    intro ys C b d c h;cases (d);have:ys=[]:=length_eq_zero_iff.mp c.length;subst this
    cases h;rfl
   |cons x B m=>
    intro ys C b d c h;have(v,r,e,E,I):=d;subst e
    cases ys with
    |nil=>cases (c)
    |cons y ys=>
     have(N,r',e,j,l):=c;cases e;have(M,w,z,A,rfl):=IW h;rw[L z E j,m ys _ w I l A];rfl
  intro x y b v h d c
  by_cases p:∃B ys,x=.lst B/\y=.lst ys
  .have(B,ys,rfl,rfl):=p;have(a,C,e,q,d):=d;have(u,o,i,g,c):=c;subst e;cases i;rw[q]at g;cases g;have f:=d.length.trans c.length.symm;replace h:(if B.length=ys.length then ge _ B ys else aa ah)=aa b:=h;rw[if_pos f]at h;show all B ys C b d c h
  .by_cases t:∃B ys,x=.tup B/\y=.tup ys
   .have(B,ys,rfl,rfl):=t;have(a,C,e,q,d):=d;have(u,o,i,g,c):=c;subst e;cases i;rw[q]at g;cases g;replace h:(if B.length=ys.length then ge _ B ys else ae)=aa b:=h;rw[if_pos (d.length.trans c.length.symm)]at h;show all B ys C b d c h
   .have(J,rfl):=y7 (p,t) h;have(_,_,_,_,e):=y6 J d c;rw[<- e];show decide_eq_true rfl
variable{us:Z2}
def sR{s:ak}{its a:Z5}{e:Nat->Bool}(q:ay G H B C)(t:ay G H ys us)(r:aQ C its)(r':aQ us a)
 (o:∀X6 x y,B[X6]?=aa x->ys[X6]?=aa y->deq n x y=aa (e X6))
 (p:∀{x y:D} {b:Bool} {v u:V} {w h:Value},deq n x y=aa b->Rep G H x v->Rep G H y u->bc v w->bc u h->dS A s w h b):
  ∀X6 (f:X6<its.toArray.size) (g:X6<a.toArray.size),dS A s its.toArray[X6] a.toArray[X6] (e X6):=λX6 f g=>by
 have c:X6<its.length:=by simpa using f
 have d:X6<a.length:=by simpa using g
 have(v,l,E):=r.at' (i:=X6) (u:=its[X6]) (by simp[c]);have(u,j,z):=r'.at' (i:=X6) (u:=a[X6]) (by simp[d]);have(x,ex,I):=q.get' l;have(y,m,J):=t.get' j;show p (o X6 x y ex m) I J E z
def IY{s:ak}(I:Inv X M J H s):∀(n:Nat) {A:cq} {x y:D} {b:Bool} {v u:V} {w r:Value},A.units+n<cLine->deq n x y=aa b->Rep (Gx c X) H x v->Rep (Gx c X) H y u->bc v w->bc u r->dS A s w r b:=by
 intro n
 induction n with
 |zero=>intro A x y b v u w r _ h;nomatch h
 |succ n ih=>
  intro A x y b v u w r hu h r1 r2 rv ru;have t:∀{x y:D} {b:Bool} {v u:V} {w r:Value},deq n x y=aa b->Rep _ H x v->Rep _ H y u->bc v w->bc u r->dS A.in1 s w r b:=λh a b c d=>ih (by rw[CK];lia) h a b c d
  by_cases hl:∃B ys,x=.lst B/\y=.lst ys
  .have(B,ys,rfl,rfl):=hl;have(a,C,e,q,f):=id r1;have(L,p,N,z,g):=id r2;subst e N;cases rv;subst ru
   by_cases j:a=L
   .subst j;have:=IX _ h ((a,C,rfl,q,f)) (a,p,rfl,z,g);subst this;show CT _
   .show dS.of_refs j ?_;have(its,E,G,hz):=I.list (SqL.of q);have(o,l,m,U):=I.list (SqL.of z);have Y:=E.length;have l2:=l.length;have l3:=f.length;have l4:=g.length;replace h:(if B.length=ys.length then ge _ B ys else aa ah)=aa b:=h;split at h
    .rename_i i;have(ee,Q,ha):=qw i h;have:=SeqAt.RcAt.lists G.isList m.isList (by simp only[size_toArray];lia) (by lia) (sR f g E l Q t);rw[size_toArray,<- Y,<- l3,ha]at this;show this
    .rename_i i;cases h;show SeqAt.RcAt.lists_lengths G.isList m.isList (by simp only[size_toArray,bne_iff_ne];lia) (by lia)
  .by_cases ht:∃B ys,x=.tup B/\y=.tup ys
   .have(B,ys,rfl,rfl):=ht;have(a,C,e,q,f):=id r1;have(L,p,N,z,g):=id r2;subst e N;subst rv;subst ru
    by_cases j:a=L
    .subst j;have:=IX _ h ((a,C,rfl,q,f)) (a,p,rfl,z,g);subst this;show CT _
    .show dS.of_refs j ?_;have(its,E,G,hz):=I.tuple (SqT.of q);have(o,l,m,U):=I.tuple (SqT.of z);have Y:=E.length;have l2:=l.length;have l3:=f.length;have l4:=g.length;replace h:(if B.length=ys.length then ge _ B ys else ae)=aa b:=h;split at h
     .rename_i i;have(ee,Q,ha):=qw i h;have:=SeqAt.RcAt.tuples (G) (m) (by lia) (sR f g E l Q t);have T:its.toArray.size=o.toArray.size:=by simp only[size_toArray];lia
      rw[<- T,Nat.min_self,beq_self_eq_true,xW,size_toArray,<- Y,<- l3,ha]at this;show this
     .nomatch h
   .have(hs,rfl):=y7 (hl,ht) h;have(f1,f2,e,_,_):=y6 hs r1 r2;rw[<- e];show Iy rv ru f1 f2
def cx(hu:X.A.units+64<cLine):OpD c X (dR .Eq) dEq:=by
 rintro M s J H v u w E Q I rv ru ⟨Hf,x,y,d,s0,p,r,e,k⟩;unfold dEq at e
 cases h:deq 20 x y with
 |none=>rw[h]at e;nomatch e
 |some b=>
  rw[h]at e;cases e;have q0:=k _ Hf H (Ext.refl s0) rfl;have n:EP X M J Q _ s:=(.bl b,H,I,rfl,q0);have p:=p.up s0;have r:=r.up s0;have o:∀{x y:D} {b:Bool} {v u:V} {w E:Value},deq 19 x y=aa b->Rep _ H x v->Rep (Gx c X) H y u->bc v w->bc u E->dS X.A.in1 s w E b:=λh a b c d=>IY I 19 (by rw[CK];lia) h a b c d
  by_cases hl:∃B ys,x=.lst B/\y=.lst ys
  .have(B,ys,rfl,rfl):=hl;have(a,C,e,q,i):=id p;have(a',vs',G,q',j):=id r;subst e G;cases rv;subst ru;have(its,t,z,hz):=I.list (SqL.of q);have(m,g,l,U):=I.list (SqL.of q');have Y:=t.length;have l2:=g.length;have l3:=i.length;have l4:=j.length;replace h:(if B.length=ys.length then ge _ B ys else aa ah)=aa b:=h;split at h
   .rename_i f;have(ee,L,ha):=qw f h;show SeqAt.eq_listAt z.isList l.isList (by simp only[size_toArray];lia) (by lia) (sR i j t g L o) ?_;rw[size_toArray,<- Y,<- l3,ha];show n
   .rename_i f;cases h;show SeqAt.eq_list_lengthsAt z.isList l.isList (by simp only[size_toArray,bne_iff_ne];lia) (by lia) n
  .by_cases ht:∃B ys,x=.tup B/\y=.tup ys
   .have(B,ys,rfl,rfl):=ht;have(a,C,e,q,i):=id p;have(a',vs',G,q',j):=id r;subst e G;subst rv;subst ru;have(its,t,z,hz):=I.tuple (SqT.of q);have(m,g,l,U):=I.tuple (SqT.of q');have Y:=t.length;have l2:=g.length;have l3:=i.length;have l4:=j.length;replace h:(if B.length=ys.length then ge _ B ys else ae)=aa b:=h;split at h
    .rename_i f;have(ee,L,ha):=qw f h;show SeqAt.eq_tupleAt (z) (l) (by lia) (sR i j t g L o) ?_;have T:its.toArray.size=m.toArray.size:=by simp only[size_toArray];lia
     simp only[<- T,Nat.min_self,beq_self_eq_true,xW,size_toArray,<- Y,<- l3,ha];show n
    .nomatch h
   .have(hs,rfl):=y7 (hl,ht) h;have(_,_,_,N,e):=y6 hs p r;show Px M s J H v u w E Q I rv ru (N,by rw[e];show q0)
def nH(hu:X.A.units+64<cLine):OpD c X (dR .NotEq) dNe:=by
 rintro M s J H v u w E Q I rv ru ⟨Hf,x,y,d,s0,p,r,e,k⟩;unfold dNe at e
 cases h:deq 20 x y with
 |none=>rw[h]at e;nomatch e
 |some b=>
  rw[h]at e;cases e;have q0:=k _ Hf H (Ext.refl s0) rfl;have n:EP X M J Q _ s:=(.bl (!b),H,I,rfl,q0);have p:=p.up s0;have r:=r.up s0;have o:∀{x y:D} {b:Bool} {v u:V} {w E:Value},deq 19 x y=aa b->Rep _ H x v->Rep (Gx c X) H y u->bc v w->bc u E->dS X.A.in1 s w E b:=λh a b c d=>IY I 19 (by rw[CK];lia) h a b c d
  by_cases hl:∃B ys,x=.lst B/\y=.lst ys
  .have(B,ys,rfl,rfl):=hl;have(a,C,e,q,i):=id p;have(a',vs',G,q',j):=id r;subst e G;cases rv;subst ru;have(its,t,z,hz):=I.list (SqL.of q);have(m,g,l,U):=I.list (SqL.of q');have Y:=t.length;have l2:=g.length;have l3:=i.length;have l4:=j.length;replace h:(if B.length=ys.length then ge _ B ys else aa ah)=aa b:=h;split at h
   .rename_i f;have(ee,L,ha):=qw f h;show SeqAt.RcNeAt.lists z.isList l.isList (by simp only[size_toArray];lia) (by lia) (sR i j t g L o) X.prog X.w X.xe _ ?_;rw[size_toArray,<- Y,<- l3,ha];show n
   .rename_i f;cases h;show SeqAt.RcNeAt.lists_lengths z.isList l.isList (by simp only[size_toArray,bne_iff_ne];lia) (by lia) X.prog X.w X.xe _ n
  .by_cases ht:∃B ys,x=.tup B/\y=.tup ys
   .have(B,ys,rfl,rfl):=ht;have(a,C,e,q,i):=id p;have(a',vs',G,q',j):=id r;subst e G;subst rv;subst ru;have(its,t,z,hz):=I.tuple (SqT.of q);have(m,g,l,U):=I.tuple (SqT.of q');have Y:=t.length;have l2:=g.length;have l3:=i.length;have l4:=j.length;replace h:(if B.length=ys.length then ge _ B ys else ae)=aa b:=h;split at h
    .rename_i f;have(ee,L,ha):=qw f h;show SeqAt.RcNeAt.tuples (z) (l) (by lia) (sR i j t g L o) X.prog X.w X.xe _ ?_;have T:its.toArray.size=m.toArray.size:=by simp only[size_toArray];lia
     simp only[<- T,Nat.min_self,beq_self_eq_true,xW,size_toArray,<- Y,<- l3,ha];show n
    .nomatch h
   .have(hs,rfl):=y7 (hl,ht) h;have(_,_,_,N,e):=y6 hs p r;show Py M s J H v u w E Q I rv ru (N,by rw[e];show q0)
abbrev eqX:D->D->Bool
 |.non,.non=>ac
 |.bl a,.bl b=>a==b
 |.bl a,.int b=>(if a then 1 else 0)==b
 |.int a,.bl b=>a==(if b then 1 else 0)
 |.int a,.int b=>a==b
 |.str a,.str b=>a==b
 | _,_=>ah
def inD(x y:D):Option Bool:=(nG y).bind λj=>if x.scalar && j.all D.scalar then aa (j.any λd=>eqX d x) else ae
def dIn(x y:D):OD:=(inD x y).map .bl
def jb(x y:D):OD:=(inD x y).map λb=>.bl (!b)
def nI:∀x y d,dIn x y=aa d->d.scalar=ac:=λ_ _ d e=>y3 d e
def o5:∀x y d,jb x y=aa d->d.scalar=ac:=λ_ _ d e=>y3 d e
def QP(hx:x.scalar=ac)(c:y.scalar=ac)(d:Rep G H x v)(e:Rep G H y u):iI v=ac/\iI u=ac/\eqV v u=eqX x y:=by
 rcases y4 hx with rfl |⟨a,rfl⟩ |⟨a,rfl⟩ |⟨a,rfl⟩ <;> rcases y4 c with rfl |⟨b,rfl⟩ |⟨b,rfl⟩ |⟨b,rfl⟩ <;> (subst d;subst e;show(rfl,rfl,rfl))
def IZ{G:Gc}{H:Hp}{x:D}{v:V}(hx:x.scalar=ac)(r:Rep G H x v):∀{j:LD} {C:Z2},j.all D.scalar=ac->ay G H j C->C.all iI=ac/\inV v C=j.any λd=>eqX d x
 | [],_,_,h=>by cases (h);show(rfl,rfl)
 |d::j,_,ha,q3_=>by
  have(u,r',e,a,b):=q3_;subst e;simp only[oF,cM]at ha;have(f1,f2,e):=QP ha.1 hx a r;have(g1,g2):=IZ hx r ha.2 b;show(by simp only[oF,f1,g1];rfl,?_);unfold inV at g2 ⊢;simp only[qe,qe,e,g2]
def I0(e:inD x y=aa b)(d:Rep G H x v)(h:Rep G H y u):∃p C,u=.ref p/\(SqL G.K H p C\/SqT G.K H p C)/\iI v=ac/\C.all iI=ac/\inV v C=b:=by
 unfold inD at e
 cases es:nG y with
 |none=>rw[es]at e;nomatch e
 |some j=>
  rw[es]at e;replace e:(if _=ac then aa _ else ae)=aa b:=e;split at e
  .rename_i c;cases e;rw[cM]at c;have(a,C,g,q,r):=yS es h;have(g1,g2):=IZ c.1 d c.2 r
   have f:iI v=ac:=by cases x <;> first |(subst d;rfl) |(cases c.1)
   show(a,C,g,q,f,g1,g2)
  .nomatch e
def kU:OpD c X (dR .In) dIn:=by
 rintro M s J H v u w n Q I m l ⟨Hf,x,y,d,a,i,j,e,k⟩;unfold dIn at e
 cases h:inD x y with
 |none=>rw[h]at e;nomatch e
 |some b=>
  rw[h]at e;cases e;have(p,C,f,q,f1,f2,g):=I0 h (i.up a) (j.up a);show Qr M s J H v u w n Q I m l (p,C,f,q,f1,f2,?_);rw[if_neg c6,g];show k _ Hf H (Ext.refl a) rfl
def o6:OpD c X (dR .NotIn) jb:=by
 rintro M s J H v u w n Q I m l ⟨Hf,x,y,d,a,i,j,e,k⟩;unfold jb at e
 cases h:inD x y with
 |none=>rw[h]at e;nomatch e
 |some b=>
  rw[h]at e;cases e;have(p,C,f,q,f1,f2,g):=I0 h (i.up a) (j.up a);show Qs M s J H v u w n Q I m l (p,C,f,q,f1,f2,?_);rw[if_pos rfl,g];show k _ Hf H (Ext.refl a) rfl
def QQ{i:Int}(h:atI j i=aa d)(r:ay G H j C):∃v,atI C i=aa v/\Rep G H d v:=by
 unfold atI at h ⊢;rw[<- r.length]
 cases e:ixN j.length i with
 |none=>rw[e]at h;nomatch h
 |some X6=>
  rw[e]at h;show r.get h
abbrev ixD(j:LD):D->OD
 |.int k=>atI j k
 | _=>ae
def mIx(f:Z6)(g:Z4)(U:LS):OD:=(f U).bind λj=>(g U).bind λi=>ixD j i
variable{b:Expr}
def aN{f:Z6}(ha:DC c X a f)(y:DE c X b g)(z:qq b<|Zi):DE c X (.Subscript a b pos) (mIx f g):=
 PE.imp (yL (yM.or Iv) ha y z) λJ H Q A=>by
  have(E,H0,Hf,U,d,st,e,k):=A;unfold mIx at e
  cases o:f U with
  |none=>rw[o]at e;nomatch e
  |some j=>
   cases t:g U with
   |none=>rw[o,t]at e;nomatch e
   |some i=>
    rw[o,t]at e
    cases i with
    |int n=>
     show(E,H0,Hf,U,j,st,o,λl C a8 H1 x q r=>(E,H0,a8,U,.int n,st.step x,t,λu a9 H2 p B=>?_));cases (B);have(v,w,G):=QQ e r;have m:=k v a9 H2 (x.trans p) (G.up p.f)
     rcases q with q |q
     .show .inl (l,C,n,v,rfl,rfl,p.h.seq q,w,m)
     .show .inr (l,C,n,v,rfl,rfl,p.h.tup q,w,m)
    | _=>nomatch e
def fY(B:LD)(lo hi:Option Int):LD:=(B.drop (HT.sIx B.length 0 lo)).take (HT.sIx B.length B.length hi-HT.sIx B.length 0 lo)
abbrev lsD:D->Zs
 |.lst B=>aa B
 |.kl B=>aa B
 | _=>ae
def sS(e:lsD d=aa j)(r:Rep G H d v):∃a C,v=.ref a/\SqL G.K H a C/\ay G H j C:=by
 cases d with
 |lst B=>cases e;have(a,C,b,q,r):=r;show(a,C,b,SqL.of q,r)
 |kl B=>cases e;have(a,C,b,q,r):=r;show(a,C,b,q,r)
 | _=>nomatch e
inductive Ja(G:Gc)(f:LS->Option (Option Int))(J:St)(H:Hp)(Q:Option Int->Hp->Prop):Prop
 |mk:∀E H0 Hf U i,aB G E H0 Hf H J U->f U=aa i->(∀L H',Ext Hf H L H'->Q i H')->Ja G f J H Q
def DPt(c:Str->Addr)(X:Cx)(e:Option Expr)(f:LS->Option (Option Int)):Prop:=PO X e (Ja (Gx c X) f)
def nJ:DPt c X ae (λ_=>aa ae):=λM s J H Q I b=>by
 have(E,H0,Hf,U,i,st,a,k):=b;show(Qg M s J H Q I (by cases a;show k Hf H (Ext.refl st.sub)))
abbrev mPt(f:Z4)(U:LS):Option (Option Int):=(f U).bind λd=>match d with
 |.int i=>aa (aa i)
 | _=>ae
def lS(h:DE c X e f):DPt c X (aa e) (mPt f):=λM s J H Q I g=>by
 have(E,H0,Hf,U,i,st,a,k):=g
 show (Qh h M s J H Q I (by
 unfold mPt at a
 cases b:f U with
 |none=>rw[b]at a;nomatch a
 |some d=>
  rw[b]at a
  cases d with
  |int n=>cases a;show(E,H0,Hf,U,.int n,st,b,λv L H' x r=>(n,r,k L H' x))
  | _=>nomatch a))
def mSl(f:Z4)(l h:LS->Option (Option Int))(U:LS):Zs:=(f U).bind λd=>(lsD d).bind λj=>(l U).bind λlo=>(h U).map λhi=>fY j lo hi
def Jb(r:ay G H j C)(lo hi:Option Int):ay G H (fY j lo hi) (vf C lo hi):=by
 unfold fY vf;rw[r.length];show(r.drop _).take _
variable{p2:Pos}
def DY{l h:LS->Option (Option Int)}{lo hi:Option Expr}(ha:DE c X e f)(I:DPt c X lo l)(G:DPt c X hi h):DO c X (.Subscript e (.Slice lo hi ae p2) pos) (mSl f l h):=
 PE.imp (Dv Ix ha I G) λJ H Q L=>by
  have(E,H0,Hf,U,rs,st,b,k):=L;unfold mSl at b
  cases g:f U with
  |none=>rw[g]at b;nomatch b
  |some d=>
   cases i:lsD d with
   |none=>rw[g]at b;replace b:(lsD d).bind _=_:=b;rw[i]at b;nomatch b
   |some j=>
    cases m:l U with
    |none=>rw[g]at b;replace b:(lsD d).bind _=_:=b;rw[i,m]at b;nomatch b
    |some w=>
     cases t:h U with
     |none=>rw[g]at b;replace b:(lsD d).bind _=_:=b;rw[i,m,t]at b;nomatch b
     |some u=>
      rw[g]at b;replace b:(lsD d).bind _=_:=b;rw[i,m,t]at b;cases b;show(E,H0,Hf,U,d,st,g,λv a8 H1 n M=>(E,H0,a8,U,w,st.step n,m,λa9 H2 z=>(E,H0,a9,U,u,(st.step n).step z,t,λo N A=>?_)));have(a,C,B,q,r):=sS i M;subst B;have x:=(n.trans z).trans A;have y:=(z.trans A);show(a,C,rfl,(n.s.trans y.h).seq q,λp hp=>(k p _ o _ (x.trans (Ext.tmp x.s hp)) (x.h.free hp) (x.s.free hp) ca (Jb (r.up y.f) _ _)))
abbrev rCD(G:Gc)(m:LD->OD):Z2->Hp->VK->Prop:=λC H Q=>∃Hf j d,aD Hf H/\ay G Hf j C/\m j=aa d/\∀v L H',Ext Hf H L H'->Rep G L d v->Q v H'
nonrec abbrev y8(c:Str->Addr)(X:Cx)(f:Value)(m:LD->OD):Prop:=ju X f (rCD (Gx c X) m)
def az(m:LD->OD)(f:Z6)(U:LS):OD:=(f U).bind m
variable{m:LD->OD}{f:Z6}
def y9(h:az m f U=aa d):∃j,f U=aa j/\m j=aa d:=by
 unfold az at h
 cases e:f U with
 |none=>rw[e]at h;nomatch h
 |some j=>rw[e]at h;show(j,rfl,h)
variable{p:Pos}{x:Str}
def fG{id:String}(n:y8 c X (.builtin id) m)(t:∀j d,m j=aa d->d.scalar=ac)(q:Gl X x)(hm:X.mg x=ae)(u:kH x=aa (.builtin id))(ha:DAB c X (e::es) f)(hn:x ≠ "__name__"<|Zc)(a:NDb x<|Zc)
 (o:StE X e es<|Zb)(b:BkE X pos es<|Zb):
  DE c X (.Call (.Name x p) (e::es) [] pos) (az m f):=PE.imp (Is n q hm u ha.pa hn a o b) λJ H Q w=>by
 have(E,H0,Hf,U,d,st,l,k):=w;have(j,i,g):=y9 l;show(E,H0,Hf,U,j,st,i,λC L H' x r=>(H',j,d,aD.refl _,r,g,λv a9 H2 z y=>k v L H2 (x.trans (Ext.grow x.s z.h)) (y.sc (t _ _ g))))
abbrev cI:LD->OD
 | [.lst B]=>aa (.int B.length)
 | [.tup B]=>aa (.int B.length)
 | [.kl B]=>aa (.int B.length)
 | [.kt B]=>aa (.int B.length)
 | [.str x]=>if x.length<=16777216 then aa (.int x.length) else ae
 | _=>ae
def ay.one(r:ay G H [d] C):∃v,C=[v]/\Rep G H d v:=by
 have(v,r',e,h,q):=r;cases (q);show(v,e,h)
def Jc(e:cI j=aa d):∃a,j=[a]/\((∃B,nG a=aa B/\d=.int B.length)\/∃x,a=.str x/\x.length<=16777216/\d=.int x.length):=by
 cases j with
 |nil=>nomatch e
 |cons a j=>
  cases j with
  |cons _ _=>cases a <;> nomatch e
  |nil=>
   show(a,rfl,?_)
   cases a with
   |lst B=>cases e;show .inl (B,rfl,rfl)
   |tup B=>cases e;show .inl (B,rfl,rfl)
   |kl B=>cases e;show .inl (B,rfl,rfl)
   |kt B=>cases e;show .inl (B,rfl,rfl)
   |str x=>
    replace e:(if x.length<=16777216 then aa _ else ae)=aa d:=e
    grind
   | _=>nomatch e
def ij:y8 c X (.builtin "len") cI:=by
 rintro M s J H C us Q I m ⟨Hf,j,d,l,r,e,k⟩
 have sq:∀b B,j=[b]->nG b=aa B->d=.int B.length->wpAny _ X.A _ _ X.xe s:=λb B g es n=>by
  subst g n;have(v,f,i):=r.one;subst f;have(a,ws,h,q,rs):=yS es i;subst h;show Qt M s J H _ us Q I m (a,ws,rfl,DK l q,?_);rw[<- rs.length];show k _ Hf H (Ext.refl l) rfl
 obtain⟨b,g,⟨B,f,h⟩ |⟨x,rfl,o,rfl⟩⟩:=Jc e
 .show sq b B g f h
 .subst g;have(v,f,i):=r.one;subst f;show Qu M s J H _ us Q I m (_,by rw[show v=V.str _ from i],by rw[fc];show o,k _ Hf H (Ext.refl l) rfl)
def ik:∀j d,cI j=aa d->d.scalar=ac:=by
 intro j d e
 obtain⟨a,c,⟨B,b,rfl⟩ |⟨x,rfl,f,rfl⟩⟩:=Jc e <;> rfl
def Jd(hx:kH x=aa (.type "list"))(n:Gl X x)(hm:X.mg x=ae)(ha:DC c X e f)(i:(ba [e] X.env=(ah,eval e X.env,)::ba [] X.env)<|Zb)(hn:x ≠ "__name__"<|Zc)(b:NDb x<|Zc)
 (g:((cD pos (ba [] X.env)).any (·.1)=ah)<|Zb):DO c X (.Call (.Name x p) [e] [] pos) f:=
 PE.imp (Du Qv n hm hx (bD ha bM i) hn b i g) λJ H Q o=>by
 have(E,H0,Hf,U,j,st,m,k):=o
 show (
  (E,H0,Hf,U,j,st,m,λa C L H' x q r=>(a,C,rfl,q,λl d=>k l C L _ (x.trans (Ext.tmp x.s d)) (x.h.free d) (x.s.free d) ca r)))
abbrev tyN:D->Option String
 |.non=>aa "NoneType"
 |.bl _=>aa "bool"
 |.int _=>aa "int"
 |.str _=>aa "str"
 |.lst _=>aa "list"
 |.tup _=>aa "tuple"
 |.dic _ _=>aa "dict"
 | _=>ae
def D0(T:String)(d:D):OD:=(tyN d).map λt=>.bl (t==T || (t == "bool" && T == "int"))
def QR{t:String}(e:tyN d=aa t)(r:Rep G H d v):i4 G.K H v (.type t):=by
 cases d with
 |non=>cases e;subst r;show .non
 |bl b=>cases e;subst r;show .bl b
 |int i=>cases e;subst r;show .int i
 |str x=>cases e;subst r;show .str x
 |lst B=>cases e;have(a,C,c,q,r):=r;subst c;show .lst q
 |tup B=>cases e;have(a,C,c,q,r):=r;subst c;show .tup q
 |dic ks B=>cases e;have(a,C,c,q,l,r):=r;subst c;show .dK q
 | _=>nomatch e
def nK(K:bf)(T:String):Prop:=∀t∈["NoneType","bool","int","str","list","tuple","dict"],W.kitOne K (.type t) (.type T)=aa (t==T || (t == "bool" && T == "int"))
def QS{t:String}(e:tyN d=aa t):t∈["NoneType","bool","int","str","list","tuple","dict"]:=by
 cases d <;> first |(cases e;decide) |cases e
def mC(T:String)(f:Z4)(U:LS):OD:=(f U).bind (D0 T)
def za{f:Z4}{T:String}{b:Pos}{y:Str}(u:nK X.K T)(q:Gl X "isinstance")(hm:X.mg "isinstance"=ae)(w:kH y=aa (.type T))(j:Gl X y)(l:X.mg y=ae)(ha:DB c X e f)
 (o:(ba [e,.Name y b] X.env=(ah,eval e X.env,)::ba [.Name y b] X.env)<|Zb)(n:(ba [.Name y b] X.env=(ah,eval (.Name y b) X.env,)::ba [] X.env)<|Zb)
 (hn:y ≠ "__name__"<|Zc)(i:((y==("__debug__":Str))=ah)<|Zc)(m:((cD pos (ba [.Name y b] X.env)).any (·.1)=ah)<|Zb):
  DE c X (.Call (.Name "isinstance" p) [e,.Name y b] [] pos) (mC T f):=
 PE.imp (Is QJ q hm boot_isinstance (bD ha (bD (OL (v:=.ty T) j l w rfl hn i) bM n) o) (by decide) (by decide) o m) λJ H Q z=>by
  have(E,H0,Hf,U,d,st,a,k):=z;unfold mC at a
  cases h:f U with
  |none=>rw[h]at a;nomatch a
  |some x=>
   rw[h]at a;replace a:D0 T x=aa d:=a;unfold D0 at a
   cases g:tyN x with
   |none=>rw[g]at a;nomatch a
   |some t=>
    rw[g]at a;cases a;show(E,H0,Hf,U,x,st,h,λv L H' A r=>(v,T,.type t,_,rfl,QR g r,u t (QS g),k _ L H' A rfl))
inductive tDG(G:Gc)(g:D->LS->Option LS)(v:V)(J:St)(H:Hp)(Q:St->Hp->Prop):Prop
 |mk:∀E H0 Hf U d ρ',aB G E H0 Hf H J U->Rep G Hf d v->g d U=aa ρ'->(∀σ',aB G E H0 Hf H σ' ρ'->Q σ' H)->tDG G g v J H Q
inductive Je(G:Gc)(g:LD->LS->Option LS)(C:Z2)(J:St)(H:Hp)(Q:St->Hp->Prop):Prop
 |mk:∀E H0 Hf U j ρ',aB G E H0 Hf H J U->ay G Hf j C->g j U=aa ρ'->(∀σ',aB G E H0 Hf H σ' ρ'->Q σ' H)->Je G g C J H Q
structure DG(c:Str->Addr)(X:Cx)(tg:Expr)(k:Nat)(g:D->LS->Option LS):Prop where
 pg:PG X tg (tDG (Gx c X) g)
 len:∀d U ρ',g d U=aa ρ'->ρ'.length=U.length
 keep:∀d U ρ' i,g d U=aa ρ'->k<=i->ρ'[i]?=U[i]?
structure DGs(c:Str->Addr)(X:Cx)(tg:Zq)(k:Nat)(g:LD->LS->Option LS):Prop where
 pg:PGs X tg (Je (Gx c X) g)
 len:∀d U ρ',g d U=aa ρ'->ρ'.length=U.length
 keep:∀d U ρ' i,g d U=aa ρ'->k<=i->ρ'[i]?=U[i]?
 many:∀j U ρ',g j U=aa ρ'->j.length=tg.length
def aT(i:Nat)(d:D)(U:LS):Option LS:=aa (U.set i (.im d))
def Jf(h:PG X e (jW i))(g:i<k):DG c X e k (aT i):=
 (PG.imp h λv J H Q b=>by have(E,H0,Hf,U,d,ρ',st,r,a,q):=b;cases a;show q _ (st.setIm r),λd U ρ' h=>by cases h;simp,λd U ρ' X6 h f=>by
  cases h;rw[gH (by lia)])
def il(i k:Nat)(a:X.N.Nodup)(d:i<k<|Zc)(hi:X.N[i]?=aa x<|Zb)(hx:Loc X.env.scope x<|Ze)(b:LcF X x<|Zf):DG c X (.Name x pos) k (aT i):=
 Jf (yE a hi hx b) d
def fH(j:LD)(U:LS):Option LS:=match j with
 | []=>aa U
 | _=>ae
def bO(g:D->LS->Option LS)(h:LD->LS->Option LS)(j:LD)(U:LS):Option LS:=match j with
 |d::j=>(g d U).bind λρ1=>h j ρ1
 | []=>ae
def g5:DGs c X [] k fH:=by
 show(PGs.imp O4 λC J H Q f=>?_,λd U ρ' h=>?_,λd U ρ' i h _=>?_,λd U ρ' h=>?_)
 .have(E,H0,Hf,U,j,ρ',st,r,e,q):=f
  cases j with
  |nil=>cases e;show(r,q _ st)
  |cons d j=>nomatch e
 .cases d with
  |nil=>cases h;rfl
  |cons a b=>nomatch h
 .cases d with
  |nil=>cases h;rfl
  |cons a b=>nomatch h
 .cases d with
  |nil=>cases h;rfl
  |cons a b=>nomatch h
variable{h:LD->LS->Option LS}
def zb{g:D->LS->Option LS}(e:bO g h j U=aa ρ'):∃d r ρ1,j=d::r/\g d U=aa ρ1/\h r ρ1=aa ρ':=by
 cases j with
 |nil=>nomatch e
 |cons d r=>
  replace e:(g d U).bind _=_:=e
  cases a:g d U with
  |none=>rw[a]at e;nomatch e
  |some ρ1=>rw[a]at e;show(d,r,ρ1,rfl,a,e)
def cJ{g:D->LS->Option LS}(m:DG c X e k g)(l:DGs c X es k h)(t:((lG (e::es) X.env).map (·.2)=assign e X.env::(lG es X.env).map (·.2))<|Zb):DGs c X (e::es) k (bO g h):=by
 show(PGs.imp (O5 m.pg l.pg t) λC J H Q u=>?_,λd U ρ' h=>?_,λd U ρ' i h hi=>?_,λd U ρ' h=>?_)
 .have(E,H0,Hf,U,j,ρ',st,r,o,q):=u;have(d,f,ρ1,rfl,b,a):=zb o;have(v,y,p,x,w):=r;show(v,y,p,E,H0,Hf,U,d,ρ1,st,x,b,λz n=>(E,H0,Hf,ρ1,f,ρ',n,w,a,q))
 .have(d,f,ρ1,rfl,b,a):=zb h;rw[l.len _ _ _ a,m.len _ _ _ b]
 .have(d,f,ρ1,rfl,b,a):=zb h;rw[l.keep _ _ _ _ a hi,m.keep _ _ _ _ b hi]
 .have(d,f,ρ1,rfl,b,a):=zb h;rw[aU,aU,l.many _ _ _ a]
abbrev tpD:D->Zs
 |.tup B=>aa B
 |.kt B=>aa B
 | _=>ae
def Jg(e:tpD d=aa j)(r:Rep G H d v):∃a C,v=.ref a/\SqT G.K H a C/\ay G H j C:=by
 cases d with
 |tup B=>cases e;have(a,C,b,q,r):=r;show(a,C,b,SqT.of q,r)
 |kt B=>cases e;have(a,C,b,q,r):=r;show(a,C,b,q,r)
 | _=>nomatch e
def eV(g:LD->LS->Option LS)(d:D)(U:LS):Option LS:=(tpD d).bind λj=>g j U
def D1{g:LD->LS->Option LS}(h:eV g d U=aa ρ'):∃j,tpD d=aa j/\g j U=aa ρ':=by
 unfold eV at h
 cases e:tpD d with
 |none=>rw[e]at h;nomatch h
 |some j=>rw[e]at h;show(j,rfl,h)
variable{kk:Nat}
def g6{g:LD->LS->Option LS}(o:X.calm=ac)(h:DGs c X es k g)(hn:((lG es X.env).length=es.length)<|Zb)(f:((lG es X.env).findIdx? (·.1)=ae)<|Zb):DG c X (.Tuple es kk pos) k (eV g):=by
 show(PG.imp (O7 o h.pg hn f) λv J H Q p=>?_,λd U ρ' h'=>?_,λd U ρ' i h' hi=>?_)
 .have(E,H0,Hf,U,d,ρ',st,r,n,q):=p;have(j,e,b):=D1 n;have(a,C,m,t,l):=Jg e r;show(a,C,m,st.sub.tup t,by rw[<- l.length];show h.many _ _ _ b,E,H0,Hf,U,j,ρ',st,l,b,q)
 .have(j,e,b):=D1 h';show h.len _ _ _ b
 .have(j,e,b):=D1 h';show h.keep _ _ _ _ b hi
def sU(G:Gc)(Hf:Hp)(X1:It)(j:LD):Prop:=∀L H',aD Hf L->aD L H'->∀i:Nat,
 (∀d,j[i]?=aa d->X1.go i H'/\∀x H2,X1.yld i H' x H2->∃a9,Ext L H' a9 H2/\Rep G a9 d x)/\(i=j.length->X1.stop i H')
def zc(G:Gc)(Hf H:Hp)(X1:It)(j:LD):Prop:=∀L H',Ext Hf H L H'->∀i:Nat,
 (∀d,j[i]?=aa d->X1.go i H'/\∀x H2,X1.yld i H' x H2->∃a9,Ext L H' a9 H2/\Rep G a9 d x)/\(i=j.length->X1.stop i H')
def sU.toE(h:sU G Hf X1 j):zc G Hf H X1 j:=λL H' x i=>h L H' x.f x.s i
inductive tDI(G:Gc)(f:Z6)(J:St)(H:Hp)(R:It->Hp->Prop):Prop
 |mk:∀E H0 Hf U j,aB G E H0 Hf H J U->f U=aa j->(∀X1 L H',Ext Hf H L H'->sU G L X1 j->R X1 H')->tDI G f J H R
inductive D2(G:Gc)(f:Z6)(J:St)(H:Hp)(R:It->Hp->Prop):Prop
 |mk:∀E H0 Hf U j,aB G E H0 Hf H J U->f U=aa j->(∀X1 L H',Ext Hf H L H'->zc G L H' X1 j->R X1 H')->D2 G f J H R
def DI(c:Str->Addr)(X:Cx)(tg iter:Expr)(f:Z6):Prop:=PI X tg iter (tDI (Gx c X) f)
def DIe(c:Str->Addr)(X:Cx)(tg iter:Expr)(f:Z6):Prop:=PI X tg iter (D2 (Gx c X) f)
def DI.de(h:DI c X tg e f):DIe c X tg e f:=PI.imp h λJ H R b=>by
 have(E,H0,Hf,U,j,st,a,k):=b;show((E,H0,Hf,U,j,st,a,λX1 L H' x i=>k X1 L H' x i.toE))
def Jh(q:SqL G.K H l C)(r:ay G Hf j C):zc G Hf H (Itl G.K l) j:=λL H' b i=>by
 have a:=b.h.seq q;show(λd g=>?_,λm=>(C,a,by rw[<- r.length,m];show bu _));have(v,c,n):=r.get g;show((C,v,a,c),λx H2 (e,y)=>?_);subst e;have:=y C a;rw[c]at this;cases this;show(L,Ext.refl b.s,n.up b.f)
def QT(q:SqT G.K Hf l C)(r:ay G Hf j C):sU G Hf (Itt G.K l) j:=λL H' f s i=>by
 have a:=(f.trans s).tup q;show(λd e=>?_,λg=>(C,a,by rw[<- r.length,g];show bu _));have(v,b,h):=r.get e;show((C,v,a,b),λx H2 (c,y)=>?_);subst c;have:=y C a;rw[b]at this;cases this;show(L,Ext.refl s,h.up f)
def df{f:Z4}(h:DE c X e f):DI c X tg e (bH f):=λM s J H R I z=>by
 have(E,H0,Hf,U,j,st,b,k):=z;unfold bH at b
 cases g:f U with
 |none=>rw[g]at b;nomatch b
 |some d=>
  rw[g]at b
  cases l:lsD d with
  |some m=>
   have:m=j:=by cases d <;> first |(cases l;done) |(cases l;cases b;rfl)
   subst this;show yF h M s J H R I (E,H0,Hf,U,d,st,g,λv L H' x r=>?_);have(a,C,o,q,rs):=sS l r
   show⟨a,o,(C,x.s.seq q),k _ L H' x λa9 H2 f2 s2 i=>by
    have p:=(f2.trans s2).seq q;show(λd u=>?_,λw=>(C,p,by rw[<- rs.length,w];show bu _));have(v,t,A):=rs.get u;show((C,v,p,t),λx B (n,y)=>?_);subst n;have:=y C p;rw[t]at this;cases this
    show(a9,Ext.refl s2,A.up f2)⟩
  |none=>
   have n:tpD d=aa j:=by cases d <;> first |(cases l;done) |(cases b;done) |(cases b;rfl)
   show Pi h M s J H R I (E,H0,Hf,U,d,st,g,λv L H' x r=>?_);have(a,C,o,q,rs):=Jg n r;show(a,o,(C,x.s.tup q),k _ L H' x (QT q rs))
def QU(h:PE X e (cb i)):DIe c X tg e (aF i):=λM s J H R I f=>by
 have(E,H0,Hf,U,j,st,a,k):=f
 cases es:U[i]? with
 |none=>unfold aF at a;simp only[es]at a;nomatch a
 |some sl=>
  cases sl with
  |im d=>
   show DI.de (df (DM h)) M s J H R I (E,H0,Hf,U,j,st,?_,k);unfold aF at a;rw[es]at a;unfold bH af;rw[es]
   show a
  |own B=>
   unfold aF at a;rw[es]at a;cases a;have(l,b,_,_,C,q,r):=st.ownAt rfl es
   show yF h M s J H R I (_,b,l,rfl,(C,SqL.of q),k _ Hf H (Ext.refl st.sub) (Jh (SqL.of q) r))
  | _=>unfold aF at a;simp only[es]at a;nomatch a
def Ji(i:Nat)(b:X.N[i]?=aa x<|Zb)(d:Vis X.env.scope x<|Zh)(hd:NDb x<|Zc)
 (a:NCd x<|Zc):DIe c X tg (.Name x pos) (aF i):=QU (qi b d hd a)
def rng(lo:Int)(n:Nat):LD:=(eQ n).map λ(i:Nat)=>.int (lo+i)
def QV{lo:Int}:sU G Hf (Itr lo n) (rng lo n):=λL H' f s i=>by
 show(λd a=>?_,λb=>?_)
 .unfold rng at a;rw[fV]at a
  cases e:(eQ n)[i]? with
  |none=>rw[e]at a;nomatch a
  |some X6=>
   rw[e]at a;have(hi,c):=dW.mp e;rw[m7]at hi;rw[List.getElem_range]at c;subst c;cases a;show(hi,λx H2 (g,y)=>by subst g;show(L,Ext.refl s,y))
 .unfold rng at b;rw[bh,m7]at b;show uU b.symm
abbrev D3:LD->Zs
 | [.int X6]=>if -(2 ^ 62)<=X6/\X6<2 ^ 62 then aa (rng 0 X6.toNat) else ae
 | [.int i,.int X6]=>if -(2 ^ 62)<=i/\i<2 ^ 62/\-(2 ^ 62)<=X6/\X6<2 ^ 62 then aa (rng i (X6-i).toNat) else ae
 | _=>ae
def o7(f:Z6)(U:LS):Zs:=(f U).bind D3
def D4(i:Gl X "range")(hm:X.mg "range"=ae)(ha:DA c X [a] f)(m:ba [a] X.env=[(ah,eval a X.env,)]<|Zb):DI c X tg (.Call (.Name "range" p) [a] [] pos) (o7 f):=
 PI.imp (HM i hm ha.pa m) λJ H R n=>by
  have(E,H0,Hf,U,j,st,b,k):=n;unfold o7 at b
  cases d:f U with
  |none=>rw[d]at b;nomatch b
  |some e=>
   rw[d]at b;replace b:D3 e=aa j:=b;have l:=ha.len U e d;show(E,H0,Hf,U,e,st,d,λC L H' x r=>?_);unfold D3 at b;split at b
   .split at b
    .rename_i X6 g;cases b;have(v,h,o):=r.one;cases (o);show(X6,h,g.1,g.2,k _ L H' x QV)
    .nomatch b
   .nomatch l
   .nomatch b
def jY(k:Nat)(js:LN)(U:LS):LS:=jN k .no++js.map λX6=>(U[X6]?).getD .no
def aB.weak(h:aB G E H0 Hf H J U)(f:ρ'.length=U.length)(d:∀(i:Nat) (s:Sl),ρ'[i]?=aa s->s=.no\/U[i]?=aa s):aB G E H0 Hf H J ρ':=by
 show h.re h.ext f (λi v s a b=>?_) λi s v a b c p=>?_
 .rcases d i s b with e |e
  .subst e;trivial
  .show h.at' i v s a e
 .rcases d i s b with e |e
  .subst e;show(p.calm rfl).elim
  .show(s,e,p)
def zd{a:Type}{x:a}{l:List a}{y:a}(h:(jN k x++l)[i]?=aa y):(i<k/\y=x)\/(k<=i/\l[i-k]?=aa y):=by
 by_cases hi:i<k
 .left;rw[oB (by simpa using hi),xZ,if_pos hi]at h;show(hi,(cp h).symm)
 .right;rw[se (by simpa using yc hi),sh]at h;show(yc hi,h)
def qx{a b:Type}{f:a->b}{l:List a}{y:b}(h:(l.map f)[i]?=aa y):∃x,l[i]?=aa x/\y=f x:=by
 rw[fV]at h
 cases e:l[i]? with
 |none=>rw[e]at h;nomatch h
 |some x=>rw[e]at h;show(x,rfl,(cp h).symm)
def QW(h:js.Nodup){x:Nat}(a:js[i]?=aa x)(b:js[X6]?=aa x):i=X6:=by
 have(e,c):=dW.mp a;have(f,d):=dW.mp b;show(List.getElem_inj h).mp (c.trans d.symm)
def aB.comp(k:Nat)(h:aB G E H0 Hf H J U)(Q:js.Nodup):aB G E H0 Hf H (g4 k js J) (jY k js U):=by
 have own:∀i s,(jY k js U)[i]?=aa s->s.calm=ah->∃X6,k<=i/\js[i-k]?=aa X6/\U[X6]?=aa s:=λi s a n=>by
  rcases zd a with⟨_,e⟩ |⟨hi,a⟩
  .subst e;nomatch n
  .have(X6,f,es):=qx a
   cases e:U[X6]? with
   |none=>rw[e]at es;subst es;nomatch n
   |some t=>rw[e]at es;replace es:s=t:=es;subst es;show(X6,hi,f,e)
 have val:∀i v X6,(g4 k js J)[i]?=aa v->k<=i->js[i-k]?=aa X6->v=(J[X6]?).getD ae:=λi v X6 a hi f=>by
  rcases zd a with⟨N,_⟩ |⟨_,a⟩
  .lia
  .have(w,g,es):=qx a;rw[f]at g;cases g;show es
 show(h.ext,by simp[g4,jY],λi v s a b=>?_,λi X6 s t y z l a b c d p q=>?_)
 .rcases zd b with⟨_,e⟩ |⟨hi,b⟩
  .subst e;trivial
  .have(X6,f,es):=qx b;have C:=val i v X6 a hi f
   cases e:U[X6]? with
   |none=>rw[e]at es;subst es;trivial
   |some t=>
    rw[e]at es;subst es;have(u,M,q):=h.slot e;rw[M]at C;subst C;show q
 .have n:s.calm=ah:=by
   cases o:s.calm with
   |true=>show(p.calm o).elim
   |false=>rfl
  have T:t.calm=ah:=by
   cases o:t.calm with
   |true=>show(q.calm o).elim
   |false=>rfl
  have(I,hi,B,x):=own i s a n;have(w,r,f,A):=own X6 t b T;have v1:=val i _ I c hi B;have L:=val X6 _ w d r f;have(Y,j,_):=h.slot x;have(u2,m,_):=h.slot A;rw[j]at v1;rw[m]at L;subst v1 L;have:=h.dj I w s t y z l x A j m p q;subst this;have:=QW Q B f
  lia
abbrev jc(h:D->Option OD):LD->Zs
 | []=>aa []
 |d::j=>(h d).bind λo=>(jc h j).map λr=>match o with
  |some y=>y::r
  |none=>r
def QX{h:D->Option OD}{r:LD}(e:jc h (d::j)=aa r):∃o r',h d=aa o/\jc h j=aa r'/\r=(match o with |some y=>y::r' |none=>r'):=by
 dsimp only[jc]at e
 cases a:h d with
 |none=>rw[a]at e;nomatch e
 |some o=>
  cases b:jc h j with
  |none=>rw[a,b]at e;nomatch e
  |some r'=>
   rw[a,b]at e;cases e;show(o,r',rfl,rfl,?_)
   cases o <;> rfl
def lT(g:D->LS->Option LS)(ft:Zr)(fe:Z4)(U:LS)(d:D):Option OD:=(g d U).bind λρ1=>(ft ρ1).bind λb=>if b then (fe ρ1).map aa else aa ae
def bP(k:Nat)(js:LN)(fi:Z6)(g:D->LS->Option LS)(ft:Zr)(fe:Z4)(U:LS):Zs:=
 (fi U).bind λj=>if j.length<=16777216 then jc (lT g ft fe (jY k js U)) j else ae
def ze{a:Type}{l:List a}(h:i<l.length):∃x,l[i]?=aa x/\l.drop i=x::l.drop (i+1):=(l[i],by simp[h],(drop_eq_getElem_cons h))
def DTs(c:Str->Addr)(X:Cx)(c4:Zq)(f:Zr):Prop:=PTs X c4 (tDT (Gx c X) f)
def eW:DTs c X [] kY:=PTs.imp IJ λJ H Q d=>by
 have(E,H0,Hf,U,b,st,a,k):=d;show(by cases a;show k Hf H (Ext.refl st.sub))
def QY{f:Zr}(h:DT c X e f):DTs c X [e] f:=QG h
variable{g:D->LS->Option LS}{ft:Zr}{fe:Z4}{rs:LD}
def QZ(hj:js.Nodup)(hk:∀d U ρ' i,g d U=aa ρ'->k<=i->ρ'[i]?=U[i]?)(A:∀d U ρ',g d U=aa ρ'->ρ'.length=U.length){ti:TI}(st:aB G E H0 Hf H J U)
 (hti:∀R:It->Hp->Prop,(∀X1 a8 H1,Ext Hf H a8 H1->zc G a8 H1 X1 j->R X1 H1)->ti J H R)(hz:j.length<=16777216)(ef:jc (lT g ft fe (jY k js U)) j=aa rs)
 (kq:∀l C L H',Ext Hf H L H'->H l=ae->L l=ae->H' l=aa (.lst C)->ay G L rs C->Q (.ref l) H'):yP k js ti (tDG G g) (tDT G ft) (tD G fe) J H Q:=by
 show hti _ λX1 a8 H1 x1 it=>?_
 show(λi m ys σ' H'=>m=j.length-i/\i<=j.length/\∃L p rest,Ext a8 H1 L H'/\aB G E H0 L H' σ' _/\ay G L p ys/\jc _ (j.drop i)=aa rest/\rs=p++rest/\p.length<=i,
  (j.length,rfl,gJ _,a8,[],rs,Ext.refl x1.s,(st.step x1).comp k hj,rfl,ef,rfl,bu _),?_)
 rintro i m ys σ' H' ⟨rfl,hi,L,p,rest,x2,fy,ra,ec,er,hal⟩;have B:ys.length<=be:=by rw[fc,<- ra.length];lia
 have(it1,it2):=it L H' x2 i
 by_cases r:i<j.length
 .have(d,ed,edr):=ze r;have(go,yl):=it1 d ed
  show .inr (go,B,λM N H2=>j.length-_=j.length-_/\i+1<=j.length/\∃L p rest,Ext a8 H1 L H2/\aB G E H0 L H2 N _/\ay G L p M/\jc _ _=aa rest/\rs=p++rest/\p.length<=i+1,
   λM N H2 w=>(j.length-(i+1),by lia,w),λx H2 y=>?_)
  have(a9,x3,rx):=yl x H2 y;rw[edr]at ec;have(o,r',a,u,n):=QX ec;unfold lT at a
  cases z:g d _ with
  |none=>rw[z]at a;nomatch a
  |some ρ1=>
   rw[z]at a;replace a:(ft ρ1).bind _=_:=a
   cases et:ft ρ1 with
   |none=>rw[et]at a;nomatch a
   |some b=>
    rw[et]at a;show(E,H0,a9,jY k js U,d,ρ1,fy.step x3,rx,z,λT q=>(E,H0,a9,ρ1,b,q,et,λt H4 I=>?_))
    have back:∀{c Y:Hp},aB G E H0 c Y T ρ1->aB G E H0 c Y T _:=λ{c Y} s5=>s5.weak (A _ _ _ z).symm λX6 s hs=>by
     rcases zd hs with⟨_,e⟩ |⟨hj',_⟩
     .show .inl e
     .show .inr (by rw[hk _ _ _ _ z hj'];show hs)
    cases b with
    |true=>
     cases ee:fe ρ1 with
     |none=>rw[ee]at a;nomatch a
     |some y'=>
      rw[ee]at a;cases a;show(E,H0,t,ρ1,y',q.step I,ee,λv c Y x5 r5=>?_);have x:=(x3.trans I).trans x5;show(rfl,r,c,p++[y'],r',x2.trans x,back ((q.step I).step x5),(ra.up x.f).append (.cons r5 .nil),u,?_,by simp only[aX,gI];lia);simp only[er,n,fb]
      rfl
    |false=>
     cases a;have x:=x3.trans I;show(rfl,r,t,p,r',x2.trans x,back (q.step I),ra.up x.f,u,by rw[er,n],by lia)
 .have ei:i=j.length:=by lia
  subst ei;show .inl (it2 rfl,B,λl h1 h2=>?_);rw[m6 (bu _)]at ec;cases ec;rw[bZ]at er;subst er;have x:=x1.trans x2;show kq l ys L _ (x.trans (Ext.tmp x.s h2)) (x.h.free h2) (x.s.free h2) ca ra
variable{fi:Z6}
def D5(f:js.Nodup)(l:∀d U ρ' i,g d U=aa ρ'->k<=i->ρ'[i]?=U[i]?)(b:∀d U ρ',g d U=aa ρ'->ρ'.length=U.length)(h:tDO G (bP k js fi g ft fe) J H Q):
  yP k js (D2 G fi) (tDG G g) (tDT G ft) (tD G fe) J H Q:=by
 have(E,H0,Hf,U,rs,st,a,m):=h;unfold bP at a
 cases c:fi U with
 |none=>rw[c]at a;nomatch a
 |some j=>
  rw[c]at a;replace a:(if j.length<=16777216 then jc _ j else ae)=aa rs:=a
  by_cases e:j.length<=16777216
  .rw[if_pos e]at a;show QZ f l b st (λR q=>(E,H0,Hf,U,j,st,c,λX1 a8 H1 n it=>q X1 a8 H1 n it)) e a m
  .rw[if_neg e]at a
   nomatch a
def gP(k:Nat)(js:LN)(Nc:Z1)(d:X.calm=ac)(hi:DIe c X tg iter fi)(a:∀cl X4 ex ce cu,DG c (X.comp scope Nc cl X4 ex ce cu) tg k g)(j:∀cl X4 ex ce cu,DTs c (X.comp scope Nc cl X4 ex ce cu) c4 ft)
 (e:∀cl X4 ex ce cu,DE c (X.comp scope Nc cl X4 ex ce cu) dr fe)(b:nF scope X.env.scope.names X.N Nc k js=ac<|Zb)(i:(∀x,iC iter X.env x=pure x)<|Zd)(f:js.Nodup<|Zc):
  DO c X (.ListComp dr [(tg,iter,c4,0)] scope pos) (bP k js fi g ft fe):=
 PE.imp (QI (tt:=tDT (Gx c X) ft) (te:=tD (Gx c X) fe) k js Nc d hi (λcl X4 ex ce cu=>(a cl X4 ex ce cu).pg) j e b i) λJ H Q h=>
  D5 f (a [] 0 [] X.s₀ X.H₀).keep (a [] 0 [] X.s₀ X.H₀).len h
def dvc(i:Nat)(b:Nc[i]?=aa x<|Zb)(d:Vis scope x<|Zh)(hd:NDb x<|Zc)
 (a:NCd x<|Zc):DE c (X.comp scope Nc cl X4 ex ce cu) (.Name x pos) (af i):=DM (pvc i b d hd a)
def vC(i:Nat)(b:Nc[i]?=aa x<|Zb)(d:Vis scope x<|Zh)(hd:NDb x<|Zc)
 (a:NCd x<|Zc):DC c (X.comp scope Nc cl X4 ex ce cu) (.Name x pos) (aF i):=IR (pvc i b d hd a)
def dgc(i k:Nat)(b:i<k<|Zc)(a:Nc.Nodup<|Zn)(hi:Nc[i]?=aa x<|Zb)(d:scope.names.lookup x=aa .local<|Zb):DG c (X.comp scope Nc cl X4 ex ce cu) (.Name x pos) k (aT i):=
 Jf (pgc i a hi d) b
inductive Fl where
 |nx (U:LS)
 |bk (U:LS)
 |ct (U:LS)
 |rt (d:D)
 |rtO (j:LD)
 |rtS (d:D) (U:LS)
 |rtT (o:O)
nonrec abbrev Z3:=LS->Option Fl
abbrev zf(G:Gc)(E H0 Hf:Hp)(X2:jV):Fl->Prop
 |.nx ρ'=>∀σ' L H',aD Hf L->aB G E H0 L H' σ' ρ'->X2.nx σ' H'
 |.bk ρ'=>∀σ' L H',aD Hf L->aB G E H0 L H' σ' ρ'->X2.bk σ' H'
 |.ct ρ'=>∀σ' L H',aD Hf L->aB G E H0 L H' σ' ρ'->X2.ct σ' H'
 |.rt d=>∀v L H',Ext E H0 L H'->Rep G L d v->X2.rt v H'
 |.rtO j=>∀l C L H',Ext E H0 L H'->H0 l=ae->L l=ae->H' l=aa (.lst C)->ay G L j C->X2.rt (.ref l) H'
 |.rtS d U=>∀v σ' L H',aB G E H0 L H' σ' U->Rep G L d v->X2.rt v H'
 |.rtT o=>∀u fp L H',Ext E H0 L H'->OT G L H' o u fp->fp.Nodup->(∀a∈fp,H0 a=ae/\L a=ae)->X2.rt u H'
inductive tDS(G:Gc)(F:Z3)(X2:jV)(J:St)(H:Hp):Prop
 |mk:∀E H0 Hf U o,aB G E H0 Hf H J U->F U=aa o->zf G E H0 Hf X2 o->tDS G F X2 J H
def DS(c:Str->Addr)(X:Cx)(st:Stmt)(F:Z3):Prop:=PS X st (tDS (Gx c X) F)
def DSs(c:Str->Addr)(X:Cx)(st:List Stmt)(F:Z3):Prop:=PSs X st (tDS (Gx c X) F)
def aY(U:LS):Option Fl:=aa (.nx U)
def ao(F F':Z3)(U:LS):Option Fl:=(F U).bind λo=>match o with
 |.nx ρ'=>F' ρ'
 |o=>aa o
def aW(t:Zr)(F F':Z3)(U:LS):Option Fl:=(t U).bind λb=>if b then F U else F' U
def aS(i:Nat)(f:Z4)(U:LS):Option Fl:=(f U).map λd=>.nx (U.set i (.im d))
def gw(i:Nat)(f:Z6)(U:LS):Option Fl:=(f U).map λd=>.nx (U.set i (.own d))
def cz(f:Z4)(U:LS):Option Fl:=(f U).map .rt
def kW(f:Z6)(U:LS):Option Fl:=(f U).map .rtO
def mD(i:Nat)(U:LS):Option Fl:=match U[i]? with
 |some (.im d)=>aa (.rt d)
 |some (.own B)=>aa (.rtO B)
 | _=>ae
def cL(f:Z4)(U:LS):Option Fl:=(f U).map λ_=>.nx U
abbrev jy(g:D->LS->Option LS)(F:Z3):LD->Z3
 | [],U=>aa (.nx U)
 |d::j,U=>(g d U).bind λρ1=>(F ρ1).bind λo=>match o with
  |.nx a=>jy g F j a
  |.ct a=>jy g F j a
  |.bk a=>aa (.nx a)
  |.rt d=>aa (.rt d)
  |.rtO d=>aa (.rtO d)
  |.rtS d a=>aa (.rtS d a)
  |.rtT o=>aa (.rtT o)
def io(fi:Z6)(g:D->LS->Option LS)(F:Z3)(U:LS):Option Fl:=(fi U).bind λj=>jy g F j U
def zg(i:Nat)(U:LS):LS:=match U[i]? with
 |some (.own B)=>U.set i (.im (.lst B))
 |some (.ownd ks B)=>U.set i (.im (.dic ks B))
 |some (.obj c ns B)=>U.set i (.im (.ins c ns B))
 | _=>U
def kX(i:Nat)(F:Z3)(U:LS):Option Fl:=F (zg i U)
def ip(i:Nat)(f:Z4)(U:LS):Option Fl:=(f U).bind λd=>match U[i]? with
 |some (.own B)=>if B.length<16777216 then aa (.nx (U.set i (.own (B++[d])))) else ae
 | _=>ae
def sV(f:Z4)(U:LS):Zs:=(f U).bind λd=>match d with
 |.lst B=>aa B
 | _=>ae
def sW(i:Nat)(f:Z6)(U:LS):Option Fl:=(f U).bind λj=>match U[i]? with
 |some (.own B)=>if B.length+j.length<=16777216 then aa (.nx (U.set i (.own (B++j)))) else ae
 | _=>ae
def bA:DSs c X [] aY:=PSs.imp C6 λX2 J H b=>by
 have(E,H0,Hf,U,o,d,a,k):=b;show(by cases a;show k J Hf H (aD.refl _) d)
def zf.up{X2:jV}{o:Fl}(h:zf G E H0 Hf X2 o)(s:aD Hf L):zf G E H0 L X2 o:=by
 cases o with
 |nx U=>show λσ' a9 H2 s2 q=>h σ' a9 H2 (s.trans s2) q
 |bk U=>show λσ' a9 H2 s2 q=>h σ' a9 H2 (s.trans s2) q
 |ct U=>show λσ' a9 H2 s2 q=>h σ' a9 H2 (s.trans s2) q
 |rt d=>show h
 |rtO d=>show h
 |rtS d U=>show h
 |rtT o=>show h
variable{st:Stmt}{c3:List Stmt}{F F':Z3}
def aG(f:DS c X st F)(g:DSs c X c3 F'):DSs c X (st::c3) (ao F F'):=PSs.imp (yD f g) λX2 J H h=>by
 have(E,H0,Hf,U,o,i,a,k):=h;unfold ao at a
 cases b:F U with
 |none=>rw[b]at a;nomatch a
 |some o1=>
  rw[b]at a;show(E,H0,Hf,U,o1,i,b,?_)
  cases o1 with
  |nx ρ1=>show λj a8 H1 s1 e=>(E,H0,a8,ρ1,o,e,a,k.up s1)
  |bk ρ1=>cases a;show k
  |ct ρ1=>cases a;show k
  |rt d=>cases a;show k
  |rtO d=>cases a;show k
  |rtS d ρ1=>cases a;show k
  |rtT o'=>cases a;show k
def ax(a:DS c X st F):DSs c X [st] F:=HI a
variable{a b:List Stmt}{t:Zr}
def bK(j:DT c X cd t)(ha:DSs c X a F)(i:DSs c X b F'):DS c X (.If cd a b pos) (aW t F F'):=PS.imp (C8 j ha i) λX2 J H l=>by
 have(E,H0,Hf,U,o,h,d,k):=l;unfold aW at d
 cases g:t U with
 |none=>rw[g]at d;nomatch d
 |some x=>
  rw[g]at d;show(E,H0,Hf,U,x,h,g,λa8 H1 e=>?_)
  cases x with
  |true=>rw[if_pos rfl];show(E,H0,a8,U,o,h.step e,d,k.up e.f)
  |false=>rw[if_neg c6];show(E,H0,a8,U,o,h.step e,d,k.up e.f)
def Jj{f:Z4}(hp:PS X st (oV te (jW i)))(hi:∀J H Q,tD (Gx c X) f J H Q->te J H Q):DS c X st (aS i f):=PS.imp hp λX2 J H g=>by
 have(E,H0,Hf,U,o,e,a,k):=g;unfold aS at a
 cases b:f U with
 |none=>rw[b]at a;nomatch a
 |some d=>
  rw[b]at a;cases a;show hi _ _ _ (E,H0,Hf,U,d,e,b,λv L H' x r=>k _ L H' x.f ((e.step x).setIm r))
def Jk(hp:PS X st (oV te (jW i)))(hi:∀J H Q,tDO (Gx c X) f J H Q->te J H Q):DS c X st (gw i f):=PS.imp hp λX2 J H j=>by
 have(E,H0,Hf,U,o,e,a,k):=j;unfold gw at a
 cases b:f U with
 |none=>rw[b]at a;nomatch a
 |some d=>
  rw[b]at a;cases a;show hi _ _ _ (E,H0,Hf,U,d,e,b,λl C L H' x hn g h r=>k _ L H' x.f (e.setOwn rfl x hn g (C,h,r)))
def bI(i:Nat){f:Z4}(a:X.N.Nodup)(b:DE c X e f)(hi:X.N[i]?=aa x<|Zb)(hx:Loc X.env.scope x<|Ze)(g:dz e (aa (.Name x b9)) pos.line X.env=pure ah<|Zb)(d:LcF X x<|Zf):
  DS c X (.Assign [.Name x b9] e pos) (aS i f):=Jj (qk a hi hx b g d) λ_ _ _ h=>h
def o8(i:Nat)(a:X.N.Nodup)(b:DO c X e f)(hi:X.N[i]?=aa x<|Zb)(hx:Loc X.env.scope x<|Ze)(g:dz e (aa (.Name x b9)) pos.line X.env=pure ah<|Zb)(d:LcF X x<|Zf):
  DS c X (.Assign [.Name x b9] e pos) (gw i f):=Jk (qk a hi hx b g d) λ_ _ _ h=>h
def Q0(h:tD G (aR f) J H Q):tDO G f J H Q:=by
 have(E,H0,Hf,U,d,st,a,k):=h;unfold aR at a
 cases b:f U with
 |none=>rw[b]at a;nomatch a
 |some j=>
  rw[b]at a;have a:=cp a;subst a;show(E,H0,Hf,U,j,st,b,λl C L H' x hn c e r=>k _ _ H' (x.fix hn c e) (l,C,rfl,ca,r.up (dC c)))
def Jl(i:Nat)(k:Nat)(js:LN)(Nc:Z1)(f:X.N.Nodup)(j:X.calm=ac)(hi:DIe c X tg iter fi)
 (a:∀cl X4 ex ce cu,DG c (X.comp scope Nc cl X4 ex ce cu) tg k g)(p:∀cl X4 ex ce cu,DTs c (X.comp scope Nc cl X4 ex ce cu) c4 ft)(l:∀cl X4 ex ce cu,DE c (X.comp scope Nc cl X4 ex ce cu) dr fe)
 (b:X.N[i]?=aa x<|Zb)(hx:Loc X.env.scope x<|Ze)
 (d:dz (.ListComp dr [(tg,iter,c4,0)] scope pos) (aa (.Name x b9)) da.line X.env=pure ac<|Zb)
 (e:nF scope X.env.scope.names X.N Nc k js=ac<|Zb)(o:(∀x,iC iter X.env x=pure x)<|Zd)(n:js.Nodup<|Zc)
 (m:LcF X x<|Zf):
  DS c X (.Assign [.Name x b9] (.ListComp dr [(tg,iter,c4,0)] scope pos) da) (gw i (bP k js fi g ft fe)):=
 Jk (IN (tt:=tDT (Gx c X) ft) (te:=tD (Gx c X) fe) k js Nc f b hx j hi (λcl X4 ex ce cu=>(a cl X4 ex ce cu).pg) p l d e o m) λJ H Q h=>D5 n (a [] 0 [] X.s₀ X.H₀).keep (a [] 0 [] X.s₀ X.H₀).len h
def sX(i:Nat)(k:Nat)(js:LN)(Nc:Z1)(f:X.N.Nodup)(j:X.calm=ac)(hi:DIe c X tg iter fi)
 (a:∀cl X4 ex ce cu,DG c (X.comp scope Nc cl X4 ex ce cu) tg k g)(p:∀cl X4 ex ce cu,DTs c (X.comp scope Nc cl X4 ex ce cu) c4 ft)(l:∀cl X4 ex ce cu,DE c (X.comp scope Nc cl X4 ex ce cu) dr fe)
 (b:X.N[i]?=aa x<|Zb)(hx:Loc X.env.scope x<|Ze)
 (d:dz (.ListComp dr [(tg,iter,c4,0)] scope pos) (aa (.Name x b9)) da.line X.env=pure ac<|Zb)
 (e:nF scope X.env.scope.names X.N Nc k js=ac<|Zb)(o:(∀x,iC iter X.env x=pure x)<|Zd)(n:js.Nodup<|Zc)
 (m:LcF X x<|Zf):
  DS c X (.Assign [.Name x b9] (.ListComp dr [(tg,iter,c4,0)] scope pos) da) (aS i (aR (bP k js fi g ft fe))):=
 Jj (IN (tt:=tDT (Gx c X) ft) (te:=tD (Gx c X) fe) k js Nc f b hx j hi (λcl X4 ex ce cu=>(a cl X4 ex ce cu).pg) p l d e o m) λJ H Q h=>D5 n (a [] 0 [] X.s₀ X.H₀).keep (a [] 0 [] X.s₀ X.H₀).len (Q0 h)
def dM{f:Z4}(h:DE c X e f):DS c X (.Return (aa e) pos) (cz f):=PS.imp (sK h) λX2 J H i=>by
 have(E,H0,Hf,U,o,g,a,k):=i;unfold cz at a
 cases b:f U with
 |none=>rw[b]at a;nomatch a
 |some d=>
  rw[b]at a;cases a;show(E,H0,Hf,U,d,g,b,λv L H' x r=>k v L H' (g.ext.trans x) r)
def eC(f:Z4)(U:LS):Option Fl:=(f U).map λd=>.rtS d U
def iq{f:Z4}(h:DE c X e f):DS c X (.Return (aa e) pos) (eC f):=PS.imp (sK h) λX2 J H i=>by
 have(E,H0,Hf,U,o,g,a,k):=i;unfold eC at a
 cases b:f U with
 |none=>rw[b]at a;nomatch a
 |some d=>
  rw[b]at a;cases a;show(E,H0,Hf,U,d,g,b,λv L H' x r=>k v J L H' (g.step x) r)
def qy(i:DO c X e f):DS c X (.Return (aa e) pos) (kW f):=PS.imp (sK i) λX2 J H n=>by
 have(E,H0,Hf,U,o,g,a,k):=n;unfold kW at a
 cases b:f U with
 |none=>rw[b]at a;nomatch a
 |some d=>
  rw[b]at a;cases a;show(E,H0,Hf,U,d,g,b,λl C L H' x hn j m r=>k l C L H' (g.ext.trans x) (g.ext.h.free hn) j m r)
def Q1(h:PE X e (cb i)):DS c X (.Return (aa e) pos) (mD i):=PS.imp (sK h) λX2 J H m=>by
 have(E,H0,Hf,U,o,b,a,k):=m;unfold mD at a
 cases es:U[i]? with
 |none=>rw[es]at a;nomatch a
 |some s=>
  rw[es]at a
  cases s with
  |im d=>
   cases a;have(v,f,r):=b.imm es
   show(_,f,k v Hf H b.ext r)
  |own B=>
   cases a;have(l,f,g,j,C,q,r):=b.ownAt rfl es
   show(_,f,k l C Hf H b.ext g j q r)
  | _=>nomatch a
def vD(i:Nat)(b:X.N[i]?=aa x<|Zb)(d:Vis X.env.scope x<|Zh)(hd:NDb x<|Zc)
 (a:NCd x<|Zc):DS c X (.Return (aa (.Name x p)) pos) (mD i):=Q1 (qi b d hd a)
variable{f:Z4}
def jd(h:DE c X e f)(i:dz e ae pos.line X.env=pure ah<|Zb):DS c X (.Expr e pos) (cL f):=PS.imp (cG h i) λX2 J H j=>by
 have(E,H0,Hf,U,o,g,a,k):=j;unfold cL at a
 cases b:f U with
 |none=>rw[b]at a;nomatch a
 |some d=>
  rw[b]at a;cases a;show(E,H0,Hf,U,d,g,b,λv L H' x r=>k J L H' x.f (g.step x))
def qz(hp:kJ (model X.prog X.w) X.A X.env X.xe)(hc:X.calm=ac)(hi:DI c X tg iter fi)(hg:DG c X tg kk g)(hb:DSs c X a F)(hs:(∀x,iC iter X.env x=pure x)<|Zd):
  DS c X (.For tg iter a [] pos) (io fi g F):=PS.imp (HP hp hc hi hg.pg hb hs) λX2 J H q_=>by
 have(E,H0,Hf,U,o,T,q,k):=q_;unfold io at q
 cases v:fi U with
 |none=>rw[v]at q;nomatch q
 |some j=>
  rw[v]at q;show(E,H0,Hf,U,j,T,v,λX1 a8 H1 Q it=>?_);show(λi m σ' H'=>m=j.length-i/\i<=j.length/\∃L ρ',aB _ E H0 L H' σ' ρ'/\aD a8 L/\jy g F (j.drop i) ρ'=aa o,(j.length,rfl,gJ _,a8,U,T.step Q,aD.refl _,q),?_);rintro i m σ' H' ⟨rfl,hi',L,ρ',n,s1,em⟩;have(G,I):=it L H' s1 n.sub i
  by_cases l:i<j.length
  .have(d,ed,B):=ze l;have(go,yl):=G d ed;rw[B]at em;dsimp only[jy]at em;show .inr (go,λt H2=>j.length-_=j.length-_/\i+1<=j.length/\∃L ρ',aB _ E H0 L H2 t ρ'/\aD a8 L/\jy g F _ ρ'=aa o,λt H2 w=>(j.length-(i+1),by lia,w),λx H2 y=>?_);have(a9,Y,rx):=yl x H2 y
   cases C:g d ρ' with
   |none=>rw[C]at em;nomatch em
   |some ρ1=>
    rw[C]at em;replace em:(F ρ1).bind _=_:=em
    cases z:F ρ1 with
    |none=>rw[z]at em;nomatch em
    |some o1=>
     rw[z]at em;show(E,H0,a9,ρ',d,ρ1,n.step Y,rx,C,λgn N=>(E,H0,a9,ρ1,o1,N,z,?_));have M:=s1.trans Y.f
     cases o1 with
     |nx h=>show λp b u r e=>(rfl,l,b,h,e,M.trans r,em)
     |ct h=>show λp b u r e=>(rfl,l,b,h,e,M.trans r,em)
     |bk h=>cases em;show λp b u r e=>k p b u ((Q.f.trans M).trans r) e
     |rt d=>cases em;show k
     |rtO d=>cases em;show k
     |rtS d h=>cases em;show k
     |rtT o'=>cases em;show k
  .have ei:i=j.length:=by lia
   subst ei;rw[m6 (bu _)]at em;cases em;show .inl (I rfl,k σ' L H' (Q.f.trans s1) n)
def Q2{X2:jV}(h:tDS G (kX i F) X2 J H):tDS G F X2 J H:=by
 have(E,H0,Hf,U,o,b,c,k):=h;unfold kX zg at c;split at c
 .rename_i B es;have(l,e,f,a,C,q,r):=b.ownAt rfl es;show(E,H0,_,_,o,b.fixd (d:=.lst B) rfl es e q (l,C,rfl,ca,r.up (dC a)),c,k.up (dC a))
 .rename_i ks B es;have(l,e,f,a,C,q,z,r):=b.ownAt rfl es;show(E,H0,_,_,o,b.fixd (d:=.dic ks B) rfl es e q (l,C,rfl,ca,z,r.up (dC a)),c,k.up (dC a))
 .rename_i g ns B es;have(l,e,f,a,dx,C,q,z,r):=b.ownAt rfl es;show(E,H0,_,_,o,b.fixd (d:=.ins g ns B) rfl es e q (l,dx,C,rfl,ca,z,r.up (dC a)),c,k.up (dC a))
 .show(E,H0,Hf,U,o,b,c,k)
def sY(i:Nat)(h:DS c X st F):DS c X st (kX i F):=PS.imp h λ_ _ _=>Q2
def lU(h:PS X st (qj (tBM X.K "list" vm (cb i) (nC (tD (Gx c X) f) lQ)))):DS c X st (ip i f):=PS.imp h λX2 J H m=>by
 have(E,H0,Hf,U,o,e,a,k):=m;unfold ip at a
 cases b:f U with
 |none=>rw[b]at a;nomatch a
 |some d=>
  rw[b]at a;split at a
  .rename_i B es;split at a
   .rename_i j;cases a;have(l,g,n,p,C,q,r):=e.ownAt rfl es;show(_,g,.inl (rfl,_,SqL.of q),E,H0,Hf,U,d,e,b,λv L H' x r'=>?_);show(l,C,v,rfl,rfl,(x.h _ _ q),by rw[fc,<- r.length];show j,k J L _ x.f ((e.step x).mutd rfl rfl es g (C++[v],ca,(r.up x.f).append (.cons r' .nil))))
   .nomatch a
  .nomatch a
def Q3(h:PS X st (qj (tBM X.K "list" IB (cb i) (nC (tD (Gx c X) f) lQ)))):DS c X st (sW i (sV f)):=PS.imp h λX2 J H u=>by
 have(E,H0,Hf,U,o,g,b,k):=u;unfold sW sV at b
 cases e:f U with
 |none=>rw[e]at b;nomatch b
 |some d=>
  rw[e]at b
  cases d with
  |lst j=>
   replace b:(match U[i]? with |some (.own B)=>if B.length+j.length<=16777216 then aa _ else ae | _=>ae)=aa o:=b
   split at b
   .rename_i B es;split at b
    .rename_i t;cases b;have(l,m,y,z,C,q,r):=g.ownAt rfl es;show(_,m,.inl (rfl,_,SqL.of q),E,H0,Hf,U,.lst j,g,e,λv L H' x r'=>?_);have(a,us,p,w,n):=r';subst p;show(l,a,C,us,rfl,rfl,(x.h _ _ q),x.s _ _ w,by rw[fc,<- r.length,<- n.length];show t,k J L _ x.f ((g.step x).mutd rfl rfl es m (C++us,ca,(r.up x.f).append n)))
    .grind
   .grind
  | _=>nomatch b
abbrev Jm:Fl->OD
 |.rt d=>aa d
 |.rtO j=>aa (.lst j)
 |.rtS d _=>aa d
 |.nx _=>aa .non
 | _=>ae
def dD(n:Nat)(j:LD):LS:=j.map .im++jN (n-j.length) .no
def bR(n:Nat)(F:Z3)(j:LD):OD:=(F (dD n j)).bind Jm
def D6(n:Nat)(F:Z3)(j:LD):Zs:=(F (dD n j)).bind λo=>match o with
 |.rtO j=>aa j
 | _=>ae
def spD(G:Gc)(n:Nat)(m:LD->OD):Sp:=λC H Q _=>∃Hf j d,aD Hf H/\ay G Hf j C/\j.length=n/\m j=aa d/\∀v L H',Ext Hf H L H'->Rep G L d v->Q v H'
def spO(G:Gc)(n:Nat)(m:LD->Zs):Sp:=λC H Q _=>∃Hf j rs,aD Hf H/\ay G Hf j C/\j.length=n/\m j=aa rs /\
 ∀l us L H',Ext Hf H L H'->H l=ae->L l=ae->H' l=aa (.lst us)->ay G L rs us->Q (.ref l) H'
def aB.start(m:aD Hf H)(r:ay G Hf j C):aB G Hf H Hf H (start N C) (dD N.length j):=by
 have im:∀i (s:Sl),(dD N.length j)[i]?=aa s->s=.no\/∃d,j[i]?=aa d/\s=.im d:=λi s b=>by
  unfold dD at b
  by_cases hi:i<j.length
  .rw[oB (by simpa using hi)]at b;have(d,f,es):=qx b;show .inr (d,f,es)
  .rw[se (by simpa using yc hi)]at b;have(_,e):=dW.mp b;rw[List.getElem_replicate]at e;show .inl e.symm
 show(Ext.refl m,by simp[L2.start,dD,r.length],λi v s a b=>?_,λi X6 s t v w l a b c d p q=>?_)
 .rcases im i s b with e |⟨d,f,es⟩
  .subst e;trivial
  .subst es;have(u,g,h):=r.get f;show(u,?_,h);unfold L2.start at a;rw[oB (by simpa using ((dW.mp g).1)),fV,g]at a;show(cp a).symm
 .rcases im i s a with e |⟨d,f,es⟩
  .subst e;show(p.calm rfl).elim
  .subst es;show(p.calm rfl).elim
variable{P:cP}{mg:Zp}{base:Heap}{n_:Nat}{qual:Str}{f:Addr}{fd:eS}{ps:Z1}
def dh(t:Fun K x qual st f fd)(S:aP N ps (aH st))
 (h:∀(cdv:Value) (A:cq) (outer:List Env) (s:ak) (H:Hp) (X2:XK),bn k (A.deeper (fE qual (aH st) s.heap.objs.size f cdv))->DSs c (eU CX0 P w K mg base N qual (aH st) f cdv A outer s H X2).nox (gO st) F)(i:N.length=n_<|Zb):
  dA P w K mg base CX0 (k+1) f fd ps (spD (K,c) ps.length (bR n_ F)):=by
 subst i;show t.ok S (λC H Q X2 m=>by have(Hf,j,d,q,r,a,_):=m;rw[<- r.length];show a) λcdv A outer s H C Q X2 u m=>?_;have(Hf,j,d,q,r,a,e,b):=m;show(_,h cdv A outer s H X2 u,?_);unfold bR at e
 cases g:F _ with
 |none=>rw[g]at e;nomatch e
 |some o=>
  rw[g]at e;show(Hf,H,Hf,_,o,aB.start q r,g,?_)
  cases o with
  |nx U=>cases e;show λσ' L H' _ n=>b _ L H' n.ext rfl
  |bk U=>nomatch e
  |ct U=>nomatch e
  |rt d=>cases e;show b
  |rtO rs=>cases e;show λl C L H' x hn p a r=>b _ _ H' (x.fix hn p a) (l,C,rfl,ca,r.up (dC p))
  |rtS d U=>cases e;show λv σ' L H' n r=>b v L H' n.ext r
  |rtT o=>nomatch e
def Q4(m:Fun K x qual st f fd)(S:aP N ps (aH st))
 (h:∀(cdv:Value) (A:cq) (outer:List Env) (s:ak) (H:Hp) (X2:XK),bn k (A.deeper (fE qual (aH st) s.heap.objs.size f cdv))->DSs c (eU CX0 P w K mg base N qual (aH st) f cdv A outer s H X2).nox (gO st) F)(b:N.length=n_<|Zb):
  dA P w K mg base CX0 (k+1) f fd ps (spO (K,c) ps.length (D6 n_ F)):=by
 subst b;show m.ok S (λC H Q X2 g=>by have(Hf,j,d,l,r,i,_):=g;rw[<- r.length];show i) λcdv A outer s H C Q X2 n g=>?_;have(Hf,j,rs,l,r,i,e,p):=g;show(_,h cdv A outer s H X2 n,?_);unfold D6 at e
 cases a:F _ with
 |none=>rw[a]at e;nomatch e
 |some o=>
  rw[a]at e;show(Hf,H,Hf,_,o,aB.start l r,a,?_)
  cases o with
  |rtO q=>cases e;show p
  | _=>nomatch e
variable{fa:Z6}{k0:Nat}
def aV(pk:Pk X.prog X.w X.K X.mg X.base CX0 k x (f,fd,) ps (spD (Gx c X) ps.length m))(l:bn k0 X.A)(ha:DA c X (e::es) fa)(y:((e::es).length=ps.length)<|Zb)(a:NDb x<|Zc)(t:StE X e es<|Zb)(i:BkE X pos es<|Zb)(h:k<=k0<|Zc)(u:Gl X x<|Zj):
  DE c X (.Call (.Name x p) (e::es) [] pos) (az m fa):=PE.imp (sN pk.ok (l.mono h) u pk.g pk.kp pk.b .nil jv ha.pa a t i) λJ H Q B=>by
 have(E,H0,Hf,U,d,st,q,z):=B;have(j,n,o):=y9 q;show(E,H0,Hf,U,j,st,n,λC L H' x r=>?_);rw[bZ];show(L,j,d,x.s,r,(ha.len U j n).trans y,o,λv a9 H2 I G=>z v a9 H2 (x.trans I) G)
def zh{G:Gc}{H:Hp}{f:Str}{d:D}:∀{ns:Z1} {j:LD} {C:Z2},(ns.zip j).lookup f=aa d->ay G H j C->∃v,(ns.zip C).lookup f=aa v/\Rep G H d v
 | [],_,_,e,_=>by simp at e
 |n::ns,[],_,e,_=>by simp at e
 |n::ns,x::j,_,e,q4_=>by
  have(v,r,b,c,g):=q4_;subst b;simp only[jO,oC]at e;simp only[jO,oC]
  cases a:f==n with
  |true=>rw[a]at e;cases e;show(v,rfl,c)
  |false=>rw[a]at e;show zh e g
def o9{f:Str}:∀{ns:Z1} {C:Z2},ns.contains f=ah->(ns.zip C).lookup f=ae
 | [],_,_=>by simp
 |n::ns,[],_=>by rfl
 |n::ns,v::C,h=>by
  rw[uR,r6]at h;simp only[jO,oC,h.1];show o9 h.2
abbrev Q5(b f:Str):D->OD
 |.ins a ns j=>if a=b then (ns.zip j).lookup f else ae
 | _=>ae
def lV(a f:Str)(m:Z4)(U:LS):OD:=(m U).bind (Q5 a f)
variable{o:Expr}{fo:Z4}
def sZ{fl:Str}(e:Str)(n:Cls X.K (c e))(hn:ig X.K (c e) fl)(p:DE c X o fo)(m:jR o fl X.env (eval o X.env)=eval o X.env<|Zb):DE c X (.Attribute o fl pos) (lV e fl fo):=
 PE.imp (Dk p m) λJ H Q t=>by
  have(E,H0,Hf,U,d,st,b,k):=t;unfold lV at b
  cases f:fo U with
  |none=>rw[f]at b;nomatch b
  |some y=>
   rw[f]at b
   cases y with
   |ins h ns j=>
    replace b:(if h=e then (ns.zip j).lookup fl else ae)=aa d:=b;split at b
    .rename_i g;subst g;show(E,H0,Hf,U,_,st,f,λv L H' x r=>?_);have(a,dx,C,l,q,z,rs):=r;have(u,i,w):=zh b rs;show(a,c h,dx,ns.zip C,u,l,x.s _ _ q,n,hn,i,k u L H' x w)
    .grind
   | _=>nomatch b
abbrev zk:List (Str×(Z4))->LS->Z1->LD->Option (Z1×LD)
 | [],_,ns,j=>aa (ns,j,)
 |(f,m,)::r,U,ns,j=>(m U).bind λd=>if ns.contains f then ae else zk r U (ns++[f]) (j++[d])
def Q6(G:Gc)(b:Str)(fs:List (Str×(Z4))):TS:=λX2 J H=>∃x dx E H0 Hf U ns us j r,J[0]?=aa (aa (.ref x))/\(∀s∈U,Sl.calm s=ac)/\aB G E H0 Hf H J U/\H0 x=ae/\Hf x=ae /\
 H x=aa (.ins (G.cl b) dx (ns.zip us))/\ns.length=us.length/\ns.length+fs.length<=900/\ay G Hf j us/\zk fs U ns j=aa r /\
 ∀a L H',Ext E H0 L H'->L x=ae->H' x=aa (.ins (G.cl b) dx (r.1.zip a))->r.1.length=a.length->ay G L r.2 a->X2.nx J H'
def DSI(c:Str->Addr)(X:Cx)(a:Str)(c3:List Stmt)(fs:List (Str×(Z4))):Prop:=PSs X c3 (Q6 (Gx c X) a fs)
def vE{f:Str}{v:V}:∀{ns:Z1} {us:Z2},ns.length=us.length->ns.contains f=ah->d8 f v (ns.zip us)=(ns++[f]).zip (us++[v])
 | [],[],_,_=>rfl
 |n::ns,u::us,hl,h=>by
  rw[uR,r6]at h;have a:¬(n=f):=λz=>by rw[z,beq_self_eq_true]at h;cases h.1
  rw[jO]
  unfold d8
  first
   |(rw[if_neg a,vE (by simpa using hl) h.2];rfl)
   |(rw[if_neg _,vE (by simpa using hl) h.2];rfl)
   |(rw[if_neg (by simpa using a),vE (by simpa using hl) h.2];rfl)
   |(rw[if_neg (by simpa using λz=>a _),vE (by simpa using hl) h.2];rfl)
 | [],_::_,hl,_=>by cases hl
 | _::_,[],hl,_=>by cases hl
variable{cn:Str}
def Q7:DSI c X cn [] []:=PSs.imp C6 λX2 J H q=>by
 have(x,dx,E,H0,Hf,U,ns,us,j,r,e,no,d,f,a,hx,b,g,rd,em,k):=q;cases em;show k us Hf H d.ext a hx b rd
variable{m:Z4}{fs:List (Str×(Z4))}
def Jn{fl:Str}(N:Cls X.K (c cn))(hn:ig X.K (c cn) fl)(Y:PE X o (cb 0))(Q:DE c X e m)(h:DSI c X cn c3 fs)(A:dz e (aa (.Attribute o fl b9)) pos.line X.env=pure ah<|Zb):
  DSI c X cn (.Assign [.Attribute o fl b9] e pos::c3) ((fl,m,)::fs):=PSs.imp (yD (Dl Y Q A) h) λX2 J H q=>by
 have(x,dx,E,H0,Hf,U,ns,us,j,r,C,no,M,G,T,hx,I,hz,rd,em,k):=q;unfold zk at em
 cases z:m U with
 |none=>rw[z]at em;nomatch em
 |some d=>
  rw[z]at em;split at em
  .grind
  .rename_i t;have t:ns.contains fl=ah:=by grind
   show(E,H0,Hf,U,d,M,z,λv L H' y rv=>(_,C,x,c cn,dx,ns.zip us,rfl,y.h _ _ hx,N,hn,?_,?_))
   .grind
   .have l:L x=ae:=by rw[y.n _ _ hx rfl];show T
    have g:=M.step y
    have B:aB (Gx c X) E H0 L (upd H' x (.ins (c cn) dx (d8 fl v (ns.zip us)))) J U:=by
     show g.re (g.ext.f,λb u e=>?_,λb u e=>?_,g.ext.n) rfl (λi w s a b=>?_) λi s w a b _ p=>(p.calm (no s (iV b))).elim
     .rw[bJ (ic e G)];show g.ext.h b u e
     .rw[bJ (ic e l)];show g.ext.s b u e
     .have A:=no s (iV b);have q:=g.at' i w s a b
      cases s with
      |no=>trivial
      |im d=>show q
      | _=>nomatch A
    show(x,dx,E,H0,L,U,ns++[fl],us++[v],j++[d],r,C,no,B,G,l,?_,by rw[aX,aX,I];rfl,by rw[aU]at hz;rw[aX,gI];lia,(rd.up y.f).append (.cons rv .nil),em,k);rw[ca,vE I t]
def del(H:Hp)(x:Addr):Hp:=λb=>if b=x then ae else H b
def Jo{x:Addr}:del H x x=ae:=if_pos rfl
def Jp{x b:Addr}(h:b≠x):del H x b=H b:=if_neg h
abbrev Jq(n:Nat)(fs:List (Str×(Z4)))(a:LD):Option (Z1×LD):=zk fs (.no::(a.map .im++jN (n-1-a.length) .no)) [] []
def spI(G:Gc)(cn:Str)(n:Nat)(m:LD->Option (Z1×LD)):Sp:=λC H Q _=>∃x dx Hf b a r,C=.ref x::a/\H x=aa (.ins (G.cl cn) dx [])/\Hf x=ae/\aD Hf H/\ay G Hf b a/\b.length+1=n/\m b=aa r /\
 ∀us L H',Ext Hf (del H x) L H'->L x=ae->H' x=aa (.ins (G.cl cn) dx (r.1.zip us))->r.1.length=us.length->ay G L r.2 us->Q .non H'
def Q8(I:Fun K x qual st f fd)(S:aP N ps (aH st))
 (h:∀(cdv:Value) (A:cq) (outer:List Env) (s:ak) (H:Hp) (X2:XK),bn k (A.deeper (fE qual (aH st) s.heap.objs.size f cdv))->DSI c (eU CX0 P w K mg base N qual (aH st) f cdv A outer s H X2).nox cn (gO st) fs)
 (hz:fs.length<=900<|Zc)(y:N.length=n_<|Zb):dA P w K mg base CX0 (k+1) f fd ps (spI (K,c) cn ps.length (Jq n_ fs)):=by
 subst y;show I.ok S (λC H Q X2 q=>by have(x,dx,Hf,g,z,r,n,_,_,_,j,G,_):=q;subst n;rw[aU,<- j.length];show G) λcdv A outer s H C Q X2 hr q=>(_,h cdv A outer s H X2 hr,?_);have(x,dx,Hf,g,z,r,n,hx,Y,s0,j,G,e,kq):=q;subst n;have la:=j.length
 have im:∀i s,(Sl.no::(g.map Sl.im++jN (N.length-1-g.length) .no))[i]?=aa s->s=.no\/∃d X6,i=X6+1/\g[X6]?=aa d/\s=.im d:=λi s b=>by
  cases i with
  |zero=>left;simpa using b.symm
  |succ i=>
   rw[x0]at b
   by_cases hi:i<g.length
   .rw[oB (by simpa using hi)]at b;have(d,m,es):=qx b;show .inr (d,i,rfl,m,es)
   .rw[se (by simpa using yc hi)]at b;have(_,e):=dW.mp b;rw[List.getElem_replicate]at e;show .inl e.symm
 have no:∀s∈_,Sl.calm s=ac:=λs hs=>by
  have(i,hi):=List.getElem?_of_mem hs
  rcases im i s hi with e |⟨d,_,_,_,e⟩ <;> (subst e;rfl)
 show(x,dx,Hf,del H x,Hf,_,[],[],[],r,rfl,no,((aD.refl _,λb o e=>?_,s0,λ_ _ _ _=>rfl),?_,λi v s a b=>?_,λi X6 s t v w l a b _ _ p _=>((p.calm (no s (iV a))).elim)),Jo,Y,hx,rfl,by simpa using hz,rfl,e,λus L H' xx J M T U=>kq us L H' xx J M T U)
 .by_cases E:b=x
  .subst E;rw[Jo]at e;nomatch e
  .rw[Jp E]at e;show e
 .unfold L2.start;simp only[aX,bh,aU,sh]
  lia
 .rcases im i s b with e |⟨d,X6,ei,m,es⟩
  .subst e;trivial
  .subst es ei;have(u,B,ru):=j.get m;show(u,?_,ru);unfold L2.start at a;rw[eR,ia,x0,oB (by simpa using ((dW.mp B).1)),fV,B]at a;show(cp a).symm
variable{r:Option Fl}
def Q9(h:F U=aa (.nx ρ'))(h':F' ρ'=r):ao F F' U=r:=by
 unfold ao;rw[h];show h'
def Rb(h:F U=aa (.rt d)):ao F F' U=aa (.rt d):=by
 unfold ao;rw[h];rfl
def Rc(h:t U=aa ac)(h':F U=r):aW t F F' U=r:=by
 unfold aW;rw[h];show h'
def Re(h:t U=aa ah)(h':F' U=r):aW t F F' U=r:=by
 unfold aW;rw[h];show h'
def Rf{f:Z4}(h:f U=aa d):aS i f U=aa (.nx (U.set i (.im d))):=by
 unfold aS;rw[h];rfl
def Rg{f:Z6}{d:LD}(h:f U=aa d):gw i f U=aa (.nx (U.set i (.own d))):=by
 unfold gw;rw[h];rfl
def Jr{f:Z4}(h:f U=aa d):cz f U=aa (.rt d):=by
 unfold cz;rw[h];rfl
def vF(h:F (dD n j)=aa (.rt d)):bR n F j=aa d:=by
 unfold bR;rw[h];rfl
def Rh{d:LD}(h:F (dD n j)=aa (.rtO d)):bR n F j=aa (.lst d):=by
 unfold bR;rw[h];rfl
def aM{m:LD->OD}{f:Z6}(h:f U=aa j)(h':m j=aa d):az m f U=aa d:=by
 unfold az;rw[h];show h'
def D7{a:Type}{h:D->Option OD}(f:a->D)(p:a->Bool)(q:a->D):∀(B:List a),(∀x∈B,h (f x)=aa (if p x then aa (q x) else ae))->jc h (B.map f)=aa ((B.filter p).map q)
 | [],_=>rfl
 |x::B,hh=>by
  rw[eR];unfold jc;rw[hh x bi,D7 f p q B λy b=>hh y (bx _ b)]
  grind
def Ri{a:Type}{h:D->Option OD}(f:a->D)(q:a->D)(B:List a)(b:∀x∈B,h (f x)=aa (aa (q x))):jc h (B.map f)=aa (B.map q):=by
 have:=D7 f (λ_=>ac) q B λx hx=>(b x hx).trans rfl;rw[this,filter_eq_self.mpr λ_ _=>rfl]
def Rj{a:Type}(B:List a)(f:a->D)(p:a->Bool)(q:a->D)
 (hi:fi U=aa (B.map f))(c:B.length<=16777216)(b:∀x∈B,lT g ft fe (jY k js U) (f x)=aa (if p x then aa (q x) else ae)):bP k js fi g ft fe U=aa ((B.filter p).map q):=by
 unfold bP;rw[hi];change(if (B.map f).length<=16777216 then _ else ae)=_;rw[bh,if_pos c];show D7 f p q B b
def jz{a:Type}(B:List a)(f:a->D)(q:a->D)
 (hi:fi U=aa (B.map f))(c:B.length<=16777216)(b:∀x∈B,lT g ft fe (jY k js U) (f x)=aa (aa (q x))):bP k js fi g ft fe U=aa (B.map q):=by
 unfold bP;rw[hi];change(if (B.map f).length<=16777216 then _ else ae)=_;rw[bh,if_pos c];show Ri f q B b
def Rk(lo:Int)(n:Nat):rng lo n=(eQ n).map λ(i:Nat)=>D.int (lo+i):=rfl
variable{i:Int}
def td{b:Type}{f:b->D}{B:List b}(c:0<=i)(d:i<B.length):∃x,B[i.toNat]?=aa x/\atI (B.map f) i=aa (f x):=by
 have a:i.toNat<B.length:=by lia
 show(B[i.toNat],by simp[a],?_);have:=Qj (B:=B.map f) (X6:=i.toNat) (v:=f B[i.toNat]) (by simp[a]);rw[show i.toNat=i by lia]at this;show this
abbrev pc:Nat->D->Prop
 | 0,_=>False
 |n+1,d=>match d with
  |.lst B=>∀x∈B,pc n x
  |.tup B=>∀x∈B,pc n x
  |d=>d.scalar=ac
def D8{f:D->D->Option Bool}:∀(B:LD),(∀x∈B,f x x=aa ac)->ge f B B=aa ac
 | [],_=>rfl
 |x::B,h=>by
  unfold ge;rw[h x bi,D8 B λy a=>h y (bx _ a)];rfl
def zl:∀(n:Nat) (d:D),pc n d->deq n d d=aa ac
 | 0,_,h=>h.elim
 |n+1,d,h=>by
  cases d with
  |lst B=>
   change(if B.length=B.length then ge _ B B else aa ah)=_;rw[if_pos rfl]
   show D8 B λx hx=>zl n x (h x hx)
  |tup B=>
   change(if B.length=B.length then ge _ B B else ae)=_;rw[if_pos rfl]
   show D8 B λx hx=>zl n x (h x hx)
  |non=>rfl
  |bl b=>change aa (b==b)=_;rw[beq_self_eq_true]
  |int b=>change aa (b==b)=_;rw[beq_self_eq_true]
  |str b=>change aa (b==b)=_;rw[beq_self_eq_true]
  | _=>cases h
def D9(h:pc 20 d):dEq d d=aa (.bl ac):=by
 unfold dEq;rw[zl 20 d h];rfl
def Rl(h:pc 20 d):dNe d d=aa (.bl ah):=by
 unfold dNe;rw[zl 20 d h];rfl
def nM(i X6:Int):dEq (.int i) (.int X6)=aa (.bl (i==X6)):=rfl
def Rm(i X6:Str):dEq (.str i) (.str X6)=aa (.bl (i==X6)):=rfl
def Rn(i X6:Str):dNe (.str i) (.str X6)=aa (.bl (!(i==X6))):=rfl
variable{f:Z4}
def aA{m:D->D->OD}{g:Z4}{x:D}(a:f U=aa x)(b:g U=aa y)(c:m x y=aa d):m2 m f g U=aa d:=by
 unfold m2;rw[a,b];show c
variable{b:Bool}
def br(h:f U=aa (.bl b)):mB f U=aa b:=by
 unfold mB;rw[h];rfl
def iJ(h:f U=aa d)(h':qt d=aa b):d9 f U=aa b:=by
 unfold d9;rw[h];show h'
variable{f:Zr}
def kZ(h:f U=aa b):eh f U=aa (!b):=by
 unfold eh;rw[h];rfl
variable{g:Zr}
def Rp{r:Option Bool}(h:f U=aa ac)(h':g U=r):jX f g U=r:=by
 unfold jX;rw[h];show h'
def Rq(h:f U=aa ah):jX f g U=aa ah:=by
 unfold jX;rw[h];rfl
def Rr(h:f U=aa ac):mOr f g U=aa ac:=by
 unfold mOr;rw[h];rfl
def Rs{r:Option Bool}(h:f U=aa ah)(h':g U=r):mOr f g U=r:=by
 unfold mOr;rw[h];show h'
variable{a:Bool}
def zm(h:f U=aa a)(h':g U=aa b):jX f g U=aa (a && b):=by
 cases a with
 |true=>show Rp h h'
 |false=>show Rq h
def zn(h:f U=aa a)(h':g U=aa b):mOr f g U=aa (a || b):=by
 cases a with
 |true=>show Rr h
 |false=>show Rs h h'
variable{f:Z4}
def tf{g:Z4}(h:f U=aa (.bl a))(h':g U=aa (.bl b)):i9 f g U=aa (.bl (a && b)):=by
 unfold i9;rw[br h]
 grind
def Rt{g:Z4}(h:f U=aa (.bl a))(h':g U=aa (.bl b)):vOr f g U=aa (.bl (a || b)):=by
 unfold vOr;rw[br h]
 grind
def Ru(h:f U=aa (.bl a)):o4 f U=aa (.bl (!a)):=by
 unfold o4;rw[br h];rfl
def al{g:Z6}(h:f U=aa d)(h':g U=aa j):ag f g U=aa (d::j):=by
 unfold ag;rw[h,h'];rfl
variable{f:Z6}
def nN(h:f U=aa j):cH f U=aa (.tup j):=by
 unfold cH;rw[h];rfl
def cg(h:f U=aa j):aR f U=aa (.lst j):=by
 unfold aR;rw[h];rfl
def aL{g:Z4}{r:OD}(h:f U=aa j)(h':g U=aa (.int i))(a:atI j i=r):mIx f g U=r:=by
 unfold mIx;rw[h,h'];show a
variable{X6:Int}
def Ea{X4:Int->Int->Prop}[∀i X6,Decidable (X4 i X6)]{g:Int->Int->D}(h:X4 i X6):dI X4 g (.int i) (.int X6)=aa (g i X6):=by
 change(if X4 i X6 then aa _ else ae)=_;rw[if_pos h]
variable{i:Nat}{f:Z4}
def Rw(h:f U=aa d)(h':U[i]?=aa (.own B))(a:B.length<16777216):ip i f U=aa (.nx (U.set i (.own (B++[d])))):=by
 unfold ip;rw[h,h'];change(if B.length<16777216 then _ else ae)=_;rw[if_pos a]
def Rx(h:f U=aa d):cL f U=aa (.nx U):=by
 unfold cL;rw[h];rfl
variable{ρ1:LS}
def Js{g:D->LS->Option LS}(a:g d U=aa ρ1)(c:ft ρ1=aa b)(e:b=ac->fe ρ1=aa y):lT g ft fe U d=aa (if b then aa y else ae):=by
 unfold lT
 grind
def je{g:D->LS->Option LS}(a:g d U=aa ρ1)(b:ft ρ1=aa ac)(c:fe ρ1=aa y):lT g ft fe U d=aa (aa y):=Js a b λ_=>c
def fh(h:f U=aa d)(h':nG d=aa j):bH f U=aa j:=by
 unfold bH;rw[h];show h'
def Eb{f:Z6}{n:Int}(h:f U=aa [.int n])(b:0<=n)(a:n<2 ^ 62):o7 f U=aa ((eQ n.toNat).map λ(i:Nat)=>D.int i):=by
 unfold o7;rw[h];change(if -_<=n/\n<2 ^ 62 then aa _ else ae)=_;rw[if_pos (by lia,a),Rk]
 grind
def itD(z:Int×Int):D:=.tup [.int z.1,.int z.2]
def InN(n:Nat)(its:LII):Prop:=∀z∈its,0<=z.1/\z.1<(n:Int)/\0<=z.2
abbrev Prt.toD:Prt->D
 |.inn t=>.tup [.str "in",.int t]
 |.out t=>.tup [.str "out",.int t]
 |.least k its=>.tup [.str "least",.int k,.lst (its.map itD)]
 |.most k its=>.tup [.str "most",.int k,.lst (its.map itD)]
abbrev Prt.obj:Prt->D
 |.inn t=>.ins "In" ["thing"] [.int t]
 |.out t=>.ins "Out" ["thing"] [.int t]
 |.least k its=>.ins "Least" ["bound","pieces"] [.int k,.lst (its.map itD)]
 |.most k its=>.ins "Most" ["bound","pieces"] [.int k,.lst (its.map itD)]
abbrev Prt.Ok(n:Nat):Prt->Prop
 |.inn t=>0<=t/\t<(n:Int)
 |.out t=>0<=t/\t<(n:Int)
 |.least _ its=>InN n its/\its.length<=100000
 |.most _ its=>InN n its/\its.length<=100000
def Ec:∀{bs:Zt} {us:Z5},aQ (bs.map V.bl) us->us=bs.map lJ
 | [],_,.nil=>rfl
 |b::bs,_,.cons r t=>by
  rw[Ec t];cases (r);rfl
def Ry(bs:Zt):((eQ bs.length).all λi=>(bs[i]?).getD ac)=bs.all id:=by
 rw[ku,all_eq_true,all_eq_true];constructor
 .intro h b c;have(i,hi,e):=List.getElem_of_mem c
  simp_all
 .intro h i hi;have a:=kC.mp hi;simp only[gG a];show h _ (CF a)
def RB(bs:Zt):((eQ bs.length).any λi=>(bs[i]?).getD ah)=bs.any id:=by
 rw[ku,any_eq_true,any_eq_true];constructor
 .rintro⟨i,hi,e⟩;have a:=kC.mp hi;simp only[gG a]at e;show(_,CF a,e)
 .rintro⟨b,c,e⟩;have(i,hi,rfl):=List.getElem_of_mem c;show(i,kC.mpr hi,by simp only[gG hi];show e)
variable{h':Heap}
def Jt{h:Heap}{o:Obj}(a:∀b x,b∉[h.objs.size]->(h.push o).get? b=aa x->h'.get? b=aa x):∀b x,h.get? b=aa x->h'.get? b=aa x:=
 λb x e=>a b x (λhm=>by rw[bE.mp hm]at e;show mf _ (cF e)) (ff _ e)
def RC(j:X.calm=ac):ju X (.builtin "all") (λB H Q=>∃(p:Addr) (bs:Zt),B=[.ref p]/\SqL X.K H p (bs.map V.bl)/\Q (.bl (bs.all id)) H):=by
 intro M s J H B us Q I r h;have(l,bs,rfl,n,q):=h;have(u,rfl,t):=oX r;subst t;have(its,r',o,y):=I.list n;have e:=Ec r';subst e;have c:=o.isList;have d:l<s.heap.objs.size:=by have(_,e,_):=c;show cF e
 show call_all_walk (ym c ?_)
 show(s.heap.objs.size,_,_,(bs.map lJ).toArray.size,_,_,λi=>(bs[i]?).getD ac,rfl,Walks.list (A:=X.A.in1) (I.ok.hd j) _ l (dw d) (bs.map lJ).toArray,
  ((_,gZ _ rfl,rfl,rfl),c.push _),λi v s' x w g f=>?_,λh' z m=>?_)
 .have a:(bs.map lJ)[i]?=aa v:=by simpa using g
  have(b,e,rfl):=qx a;simp only[e]at f;show mi f
 .have e:((eQ (bs.map lJ).toArray.size).all λi=>(bs[i]?).getD ac)=bs.all id:=by
   rw[size_toArray,bh];show Ry bs
  rw[e];show(.bl _,H,I.kept (Jt m),rfl,q)
def RD(j:X.calm=ac):ju X (.builtin "any") (λB H Q=>∃(p:Addr) (bs:Zt),B=[.ref p]/\SqL X.K H p (bs.map V.bl)/\Q (.bl (bs.any id)) H):=by
 intro M s J H B us Q I r h;have(l,bs,rfl,n,q):=h;have(u,rfl,t):=oX r;subst t;have(its,r',o,y):=I.list n;have e:=Ec r';subst e;have c:=o.isList;have d:l<s.heap.objs.size:=by have(_,e,_):=c;show cF e
 show call_any_walk (ym c ?_)
 show(s.heap.objs.size,_,_,(bs.map lJ).toArray.size,_,_,λi=>(bs[i]?).getD ah,rfl,Walks.list (A:=X.A.in1) (I.ok.hd j) _ l (dw d) (bs.map lJ).toArray,
  ((_,gZ _ rfl,rfl,rfl),c.push _),λi v s' x w g f=>?_,λh' z m=>?_)
 .have a:(bs.map lJ)[i]?=aa v:=by simpa using g
  have(b,e,rfl):=qx a;simp only[e]at f;show mi f
 .have e:((eQ (bs.map lJ).toArray.size).any λi=>(bs[i]?).getD ah)=bs.any id:=by
   rw[size_toArray,bh];show RB bs
  rw[e];show(.bl _,H,I.kept (Jt m),rfl,q)
abbrev jf:LD->Option (Zt)
 | []=>aa []
 |.bl b::j=>(jf j).map λr=>b::r
 | _=>ae
def Ju:∀{j:LD} {bs:Zt},jf j=aa bs->j=bs.map D.bl
 | [],_,e=>by cases e;rfl
 |.bl b::j,_,e=>by
  dsimp only[jf]at e
  cases es:jf j with
  |none=>rw[es]at e;cases e
  |some r=>rw[es]at e;cases e;rw[Ju es];rfl
 |.int _::_,_,e=>by cases e
 |.non::_,_,e=>by cases e
 |.str _::_,_,e=>by cases e
 |.lst _::_,_,e=>by cases e
 |.tup _::_,_,e=>by cases e
 |.kl _::_,_,e=>by cases e
 |.kt _::_,_,e=>by cases e
 |.dic _ _::_,_,e=>by cases e
 |.ins _ _ _::_,_,e=>by cases e
def RE(bs:Zt):jf (bs.map D.bl)=aa bs:=by
 induction bs with
 |nil=>rfl
 |cons n ns a=>rw[eR,jf,a];rfl
def ay.bls{G:Gc}{H:Hp}:∀{bs:Zt} {C:Z2},ay G H (bs.map D.bl) C->C=bs.map V.bl
 | [],_,h=>h
 |b::bs,_,q2_=>by
  have(v,r,e,a,c):=q2_;subst e;rw[ay.bls c,show v=V.bl b from a];rfl
abbrev mE:LD->OD
 | [d]=>(lsD d).bind λj=>(jf j).map λbs=>.bl (bs.all id)
 | _=>ae
abbrev zo:LD->OD
 | [d]=>(lsD d).bind λj=>(jf j).map λbs=>.bl (bs.any id)
 | _=>ae
def zp{f:Zt->D}(e:(match j with | [d]=>(lsD d).bind λj=>(jf j).map f | _=>ae)=aa d):∃a B bs,j=[a]/\lsD a=aa B/\B=bs.map D.bl/\d=f bs:=by
 split at e
 .rename_i a
  cases b:lsD a with
  |none=>rw[b]at e;nomatch e
  |some B=>
   rw[b]at e;replace e:(jf B).map f=aa d:=e
   cases c:jf B with
   |none=>rw[c]at e;nomatch e
   |some bs=>rw[c]at e;cases e;show(a,B,bs,rfl,b,Ju c,rfl)
 .nomatch e
def tm(i:X.calm=ac):y8 c X (.builtin "all") mE:=by
 rintro M s J H C us Q I m ⟨Hf,j,d,b,r,e,k⟩;have(n,B,bs,rfl,f,rfl,rfl):=zp e;have(v,h,l):=r.one;subst h;have(a,ws,g,q,rs):=sS f l;subst g;show RC i M s J H _ us Q I m (a,bs,rfl,?_,k _ Hf H (Ext.refl b) rfl);rw[<- rs.bls];show b.seq q
def RF(i:X.calm=ac):y8 c X (.builtin "any") zo:=by
 rintro M s J H C us Q I m ⟨Hf,j,d,b,r,e,k⟩;have(n,B,bs,rfl,f,rfl,rfl):=zp e;have(v,h,l):=r.one;subst h;have(a,ws,g,q,rs):=sS f l;subst g;show RD i M s J H _ us Q I m (a,bs,rfl,?_,k _ Hf H (Ext.refl b) rfl);rw[<- rs.bls];show b.seq q
def tq:∀j d,mE j=aa d->d.scalar=ac:=λj d e=>by
 have(a,B,bs,rfl,b,rfl,rfl):=zp e;rfl
def RG:∀j d,zo j=aa d->d.scalar=ac:=λj d e=>by
 have(a,B,bs,rfl,b,rfl,rfl):=zp e;rfl
def RH(bs:Zt):zo [.lst (bs.map D.bl)]=aa (.bl (bs.any id)):=by
 change(jf _).map _=_;rw[RE];rfl
inductive Wrd where
 |make |may |never
 deriving DecidableEq
abbrev Wrd.s:Wrd->Str
 |.make=>"make"
 |.may=>"may"
 |.never=>"never"
structure Rul where
 w:Wrd
 hd:Int
 ps:List Prt
def Rul.hdD(r:Rul):D:=match r.w with
 |.never=>.non
 | _=>.int r.hd
def Rul.toD(r:Rul):D:=.tup [.str r.w.s,r.hdD,.lst (r.ps.map Prt.toD)]
structure Rul.Ok(n:Nat)(r:Rul):Prop where
 hd:r.w≠.never->0<=r.hd/\r.hd<(n:Int)
 ps:∀p∈r.ps,p.Ok n
 len:r.ps.length<=100000
structure Jv(es es':LOB):Prop where
 len:es'.length=es.length
 at':∀i,es.getD i ae=ae\/es'.getD i ae=es.getD i ae
structure Jw(ws ws':Zt):Prop where
 len:ws'.length=ws.length
 at':∀i,ws.getD i ah=ac->ws'.getD i ah=ac
def Jv.refl(es:LOB):Jv es es:=(rfl,λ_=>.inr rfl)
def Jw.refl(ws:Zt):Jw ws ws:=(rfl,λ_ h=>h)
def qA(i:Nat)(a b:Z4)(U:LS):Option Fl:=(b U).bind λd=>(a U).bind λx=>match x with
 | .int k=>(match U[i]? with
  |some (.own B)=>(ixN B.length k).map λX6=>.nx (U.set i (.own (B.set X6 d)))
  | _=>ae)
 | _=>ae
variable{fk fv:Z4}
def RI(hp:PS X st (oV (tD (Gx c X) fv) (HK (cb i) (tD (Gx c X) fk) Iw))):DS c X st (qA i fk fv):=PS.imp hp λX2 J H w=>by
 have(E,H0,Hf,U,o,t,a,k):=w;unfold qA at a
 cases j:fv U with
 |none=>rw[j]at a;nomatch a
 |some d=>
  rw[j]at a
  cases m:fk U with
  |none=>rw[m]at a;nomatch a
  |some x=>
   rw[m]at a;obtain⟨e,rfl⟩:∃e,x=.int e:=by grind
   replace a:(match U[i]? with |some (.own B)=>(ixN B.length e).map λX6=>Fl.nx _ | _=>ae)=aa o:=a
   split at a
   .rename_i B es
    cases n:ixN B.length e with
    |none=>rw[n]at a;nomatch a
    |some X6=>
     rw[n]at a;cases a;show(E,H0,Hf,U,d,t,j,λv a8 H1 u z=>?_);have b:=t.step u;have(l,p,G,I,C,q,r):=b.ownAt rfl es;show(_,p,E,H0,a8,U,.int e,b,m,λy a9 H2 g A=>?_);show(l,C,e,X6,rfl,A,(g.h _ _ q),by rw[<- r.length];show n,(k J a9 _ (u.f.trans g.f) ((b.step g).mutd rfl rfl es p (C.set X6 v,ca,(r.up g.f).set X6 (z.up g.f)))))
   .grind
variable{i' value:Expr}
def RJ(d:PE X e (cb i))(b:DE c X i' fk)(g:DE c X value fv)(f:swapsWithSole [.Subscript e i' b9] value pos.line X.env=pure ah<|Zb)(h:swappedStores [.Subscript e i' b9] value X.env=pure ae<|Zb)
 (a:((lG [.Subscript e i' b9] X.env).map (·.2)=[assign (.Subscript e i' b9) X.env])<|Zb)
 (ha:(∀ v,assign (.Subscript e i' b9) X.env v=(do
   let ov <- fX [v] (eval e X.env)
   let iv <- fX [v,ov] (eval i' X.env)
   gY b9
   fX [v,ov,iv] (setItem ov iv v)
   release [v,ov,iv] []))<|Zd):
  DS c X (.Assign [.Subscript e i' b9] value pos) (qA i fk fv):=RI (O9 g (O8 d b Qn ha) f h a)
set_option maxRecDepth 100000
set_option maxRecDepth 100000
set_option maxRecDepth 100000
set_option maxRecDepth 100000
set_option maxRecDepth 100000
set_option maxRecDepth 100000
set_option maxRecDepth 100000
def g7(f g:Z4)(U:LS):Zs:=(f U).bind λx=>(g U).bind λy=>match x,y with
 |.lst a,.lst b=>if a.length+b.length<=16777216 then aa (a++b) else ae
 | _,_=>ae
def RK{g:Z4}(h:g7 f g U=aa j):∃a b,f U=aa (.lst a)/\g U=aa (.lst b)/\a.length+b.length<=16777216/\j=a++b:=by
 unfold g7 at h
 cases c:f U with
 |none=>rw[c]at h;nomatch h
 |some x=>
  cases d:g U with
  |none=>rw[c,d]at h;nomatch h
  |some y=>
   rw[c,d,aE,aE]at h;split at h
   .split at h
    .rename_i a b e;cases h;show(a,b,rfl,rfl,e,rfl)
    .nomatch h
   .nomatch h
def lW{a b:Expr}{g:Z4}(ha:DE c X a f)(r:DE c X b g):DO c X (.BinOp a .Add b pos) (g7 f g):=PE.imp (Da Dx ha r) λJ H Q z=>by
 have(E,H0,Hf,U,j,st,o,k):=z;have(B,ys,i,n,t,rfl):=RK o;show(E,H0,Hf,U,_,st,i,λv a8 H1 e A=>(E,H0,a8,U,_,st.step e,n,λu a9 H2 d G=>?_));have(l,C,q,w,s1):=A.up d.f;have(m,us,em,y,s2):=G;subst q em;have x:=e.trans d;show(l,m,C,us,rfl,rfl,d.s _ _ w,d.s _ _ y,by rw[fc,<- s1.length,<- s2.length];show t,λp hp=>k p _ a9 _ (x.trans (Ext.tmp x.s hp)) (x.h.free hp) (x.s.free hp) ca (s1.append s2))
def wp(F:Z3)(U:LS)(K:Fl->Prop):Prop:=∃o,F U=aa o/\K o
abbrev RL(F:Z3)(K:Fl->Prop):Fl->Prop
 |.nx U=>wp F U K
 |o=>K o
abbrev Jx(X1:LS->Prop)(K:Fl->Prop):Fl->Prop
 |.nx U=>X1 U
 |.ct U=>X1 U
 |.bk U=>K (.nx U)
 |o=>K o
def zq(Q:D->Prop)(o:Fl):Prop:=∃d,Jm o=aa d/\Q d
variable{K:Fl->Prop}
def ar(h:wp F U (RL F' K)):wp (ao F F') U K:=by
 have(o,e,k):=h;unfold wp ao;rw[e]
 cases o with
 |nx ρ'=>show k
 | _=>show(_,rfl,k)
def bv(h:K (.nx U)):wp aY U K:=(_,rfl,h)
def bF(h:f U=aa d)(k:K (.nx (U.set i (.im d)))):wp (aS i f) U K:=(_,Rf h,k)
def mF{f:Z6}{d:LD}(h:f U=aa d)(k:K (.nx (U.set i (.own d)))):wp (gw i f) U K:=(_,Rg h,k)
def eD(h:f U=aa d)(k:K (.rt d)):wp (cz f) U K:=(_,Jr h,k)
def tu{f:Z6}{d:LD}(h:f U=aa d)(k:K (.rtO d)):wp (kW f) U K:=(_,by unfold kW;rw[h];rfl,k)
def jZ{o:Fl}(h:F U=aa o)(k:K o):wp F U K:=(_,h,k)
def bg(h:t U=aa b)(c:b=ac->wp F U K)(a:b=ah->wp F' U K):wp (aW t F F') U K:=by
 unfold wp aW;rw[h]
 cases b with
 |true=>show c rfl
 |false=>show a rfl
def zr(e:zg i U=ρ')(h:wp F ρ' K):wp (kX i F) U K:=by
 subst e;show h
def nO(h:f U=aa d)(h':U[i]?=aa (.own B))(a:B.length<16777216)(k:K (.nx (U.set i (.own (B++[d]))))):wp (ip i f) U K:=(_,Rw h h' a,k)
def lX(h:f U=aa d)(k:K (.nx U)):wp (cL f) U K:=(_,Rx h,k)
def Jy{e:Type}{g:D->LS->Option LS}{F:Z3}{K:Fl->Prop}(f:e->D)(I:List e->LS->Prop):∀(post pre:List e) (U:LS),I pre U ->
  (∀b x c U,pre++post=b++x::c->I b U->∃ρ1,g (f x) U=aa ρ1/\wp F ρ1 (Jx (I (b++[x])) K))->(∀ρ',I (pre++post) ρ'->K (.nx ρ'))->wp (jy g F (post.map f)) U K
 | [],pre,U,h,_,hk=>(_,rfl,hk U (by rw[bZ];show h))
 |x::post,pre,U,h,hs,hk=>by
  have(ρ1,i,o,j,k2):=hs pre x post U rfl h;unfold wp;rw[eR];dsimp only[jy];simp only[i,aE,j,aE]
  have go:=λa l=>
   Jy f I post (pre++[x]) a l (by rw[fb];show hs) (by rw[fb];show hk)
  cases o with
  |nx a=>show go a k2
  |ct a=>show go a k2
  |bk a=>show(_,rfl,k2)
  |rt d=>show(_,rfl,k2)
  |rtO d=>show(_,rfl,k2)
  |rtS d a=>show(_,rfl,k2)
  |rtT o=>show(_,rfl,k2)
def qB{a:Type}{g:D->LS->Option LS}(B:List a)(f:a->D)(I:List a->LS->Prop)(hi:fi U=aa (B.map f))(b:I [] U)
 (d:∀pre x post U,B=pre++x::post->I pre U->∃ρ1,g (f x) U=aa ρ1/\wp F ρ1 (Jx (I (pre++[x])) K))(c:∀ρ',I B ρ'->K (.nx ρ')):wp (io fi g F) U K:=by
 have(o,e,k):=Jy f I B [] U b d c;show(o,?_,k);unfold io;rw[hi];show e
variable{Q:D->Prop}
def Jz(h:wp F (dD n j) (zq Q)):∃d,bR n F j=aa d/\Q d:=by
 have(o,e,d,a,q):=h;show(d,?_,q);unfold bR;rw[e];show a
def eE{r:D}(h:wp F (dD n j) (zq λd=>d=r)):bR n F j=aa r:=by
 have(d,e,q):=Jz h;rw[e,q]
def fm(h:Q d):zq Q (.rt d):=(d,rfl,h)
def vG{d:LD}(h:Q (.lst d)):zq Q (.rtO d):=(.lst d,rfl,h)
variable{g:Z4}
def zt{r:OD}(h:t U=aa b)(c:b=ac->f U=r)(a:b=ah->g U=r):vIf t f g U=r:=by
 unfold vIf
 grind
variable{i:Int}
def dN(h:0<X6):cS (.int i) (.int X6)=aa (.int (i % X6)):=Ea h
def JA(h:qm i X6):yX (.int i) (.int X6)=aa (.int (i ^ X6.toNat)):=Ea h
def lY:aZ (.int i) (.int X6)=aa (.int (i+X6)):=rfl
def vH:kQ (.int i) (.int X6)=aa (.int (i-X6)):=rfl
def mG:dLt (.int i) (.int X6)=aa (.bl (decide (i<X6))):=rfl
def vI:dLe (.int i) (.int X6)=aa (.bl (decide (i<=X6))):=rfl
def vJ:dGt (.int i) (.int X6)=aa (.bl (decide (X6<i))):=rfl
def JB{a:Type}(B:List a)(f:a->D):cI [.lst (B.map f)]=aa (.int B.length):=by
 change aa _=_;rw[bh]
def RM{a:Type}(B:List a)(f:a->D):cI [.kl (B.map f)]=aa (.int B.length):=by
 change aa _=_;rw[bh]
def RN{a:Type}(f:a->D)(B:List a)(lo hi:Option Int):fY (B.map f) lo hi=((B.drop (HT.sIx B.length 0 lo)).take (HT.sIx B.length B.length hi-HT.sIx B.length 0 lo)).map f:=by
 unfold fY
 simp_all
variable{lo hi:Option Int}
def RO{a:Type}{l h:LS->Option (Option Int)}{g:a->D}{B:List a}(e:f U=aa (.kl (B.map g)))(b:l U=aa lo)(c:h U=aa hi):mSl f l h U=aa (((B.drop (HT.sIx B.length 0 lo)).take (HT.sIx B.length B.length hi-HT.sIx B.length 0 lo)).map g):=by
 unfold mSl;rw[e,aE];change(l U).bind _=_;rw[b,aE,c,<- RN];rfl
def JC{i:Nat}(h:U[i]?=aa (.im d))(k:K (.rt d)):wp (mD i) U K:=(_,by unfold mD;rw[h],k)
abbrev D.flat:D->Bool
 |.tup B=>B.all D.scalar
 |d=>d.scalar
def qC(Hf H:Hp):Hp:=λa=>match H a with
 |some (.tup C)=>aa (.tup C)
 | _=>Hf a
def Ed{a:Addr}(h:H a=aa (.tup C)):qC Hf H a=aa (.tup C):=by
 unfold qC;rw[h]
def zu{a:Addr}(h:∀C,H a≠aa (.tup C)):qC Hf H a=Hf a:=by
 unfold qC
 grind
def JD(s:aD Hf H)(g:aD H H'):Ext Hf H (qC Hf H') H':=by
 show(λb u e=>?_,g,λb u e=>?_,λl o e t=>zu λC q=>?_)
 .have a:=g b u (s b u e)
  cases u with
  |tup C=>show Ed a
  | _=>
   rw[zu (λC q=>by rw[a]at q;nomatch q)];show e
 .by_cases h:∃C,H' b=aa (.tup C)
  .have(C,h):=h;rw[Ed h]at e;rw[h];show e
  .rw[zu (λC q=>h (C,q))]at e;show g b u (s b u e)
 .rw[g l o e]at q;cases q
  nomatch t
def ay.sc{G:Gc}{H H':Hp}:∀{j:LD} {C:Z2},j.all D.scalar=ac->ay G H j C->ay G H' j C
 | [],_,_,h=>h
 |d::j,_,hs,q3_=>by
  have(v,r,e,a,b):=q3_;rw[oF,cM]at hs;show(v,r,e,a.sc hs.1,ay.sc hs.2 b)
def Rep.flat(b:d.flat=ac)(r:Rep G H d v):Rep G (qC Hf H) d v:=by
 cases d with
 |tup B=>
  have(a,C,e,h,q):=r
  show(a,C,e,Ed h,q.sc b)
 |non=>show r.sc b
 |bl _=>show r.sc b
 |int _=>show r.sc b
 |str _=>show r.sc b
 |lst _=>nomatch b
 |kl _=>nomatch b
 |kt _=>nomatch b
 |dic _ _=>nomatch b
 |ins _ _ _=>nomatch b
 |kd _ _=>nomatch b
 |dT _ _=>nomatch b
 |tx _ _=>nomatch b
def lf(m:LD->OD)(f:Z6)(U:LS):OD:=(f U).bind λj=>(m j).bind λd=>if d.flat then aa d else ae
variable{f:Addr}
def zv{m:LD->OD}(pk:Pk X.prog X.w X.K X.mg X.base CX0 k x (f,fd,) ps (spD (Gx c X) ps.length m))(t:bn k0 X.A)(ha:DAB c X (e::es) fa)(G:((e::es).length=ps.length)<|Zb)(n:NDb x<|Zc)(z:StE X e es<|Zb)(q:BkE X pos es<|Zb)(o:k<=k0<|Zc)(B:Gl X x<|Zj):
  DE c X (.Call (.Name x p) (e::es) [] pos) (lf m fa):=PE.imp (sN pk.ok (t.mono o) B pk.g pk.kp pk.b .nil jv ha.pa n z q) λJ H Q N=>by
 have(E,H0,Hf,U,d,st,a,M):=N;unfold lf at a
 cases i:fa U with
 |none=>rw[i]at a;nomatch a
 |some j=>
  rw[i]at a;replace a:(m j).bind _=_:=a
  cases l:m j with
  |none=>rw[l]at a;nomatch a
  |some u=>
   rw[l]at a;replace a:(if u.flat=ac then aa u else ae)=aa d:=a;split at a
   .rename_i I;cases a;show(E,H0,Hf,U,j,st,i,λC L H' x r=>?_);rw[bZ];show(H',j,_,aD.refl _,r,(ha.len U j i).trans G,l,λv a9 H2 y T=>M v _ H2 (x.trans (JD x.s y.h)) ((T.up y.s).flat I))
   .nomatch a
def RP{m:LD->OD}(pk:Pk X.prog X.w X.K X.mg X.base CX0 k x (f,fd,) ps (spD (Gx c X) ps.length m))(n:bn k0 X.A)(ha:DAB c X (e::es) fa)(B:((e::es).length=ps.length)<|Zb)(a:NDb x<|Zc)(y:StE X e es<|Zb)(l:BkE X pos es<|Zb)(i:k<=k0<|Zc)(z:Gl X x<|Zj):
  DB c X (.Call (.Name x p) (e::es) [] pos) (az m fa):=PE.imp (sN pk.ok (n.mono i) z pk.g pk.kp pk.b .nil jv ha.pa a y l) λJ H Q I=>by
 have(E,H0,Hf,U,d,st,u,G):=I;have(j,o,t):=y9 u;show(E,H0,Hf,U,j,st,o,λC L H' x r=>?_);rw[bZ];show(H',j,d,aD.refl _,r,(ha.len U j o).trans B,t,λv a9 H2 q M=>G v L H2 (x.trans (Ext.grow x.s q.h)) (M.up q.s))
def ay.flat{G:Gc}{Hf H:Hp}:∀{j:LD} {C:Z2},j.all D.flat=ac->ay G H j C->ay G (qC Hf H) j C
 | [],_,_,h=>h
 |d::j,_,hs,q3_=>by
  have(v,r,e,a,b):=q3_;rw[oF,cM]at hs;show(v,r,e,a.flat hs.1,ay.flat hs.2 b)
def jg(m a:D->D->OD)(f g h:Z4)(U:LS):OD:=(f U).bind λx=>(g U).bind λy=>(m x y).bind λz=>match z with
 |.bl ac=>(h U).bind λw=>a y w
 |.bl ah=>aa (.bl ah)
 | _=>ae
variable{m m':D->D->OD}{f h:Z4}
def JE(e:jg m m' f g h U=aa d):∃x y b,f U=aa x/\g U=aa y/\m x y=aa (.bl b)/\(b=ah->d=.bl ah)/\(b=ac->∃w,h U=aa w/\m' y w=aa d):=by
 unfold jg at e
 cases c:f U with
 |none=>rw[c]at e;nomatch e
 |some x=>
  cases i:g U with
  |none=>rw[c,i]at e;nomatch e
  |some y=>
   simp only[c,i,aE,aE]at e
   cases a:m x y with
   |none=>rw[a]at e;nomatch e
   |some z=>
    rw[a,aE]at e
    cases z with
    |bl b=>
     cases b with
     |false=>
      show⟨x,y,ah,rfl,rfl,a,λ_=>(cp e).symm,λq=>by nomatch q⟩
     |true=>
      cases j:h U with
      |none=>simp only[j]at e;nomatch e
      |some w=>rw[j]at e;show(x,y,ac,rfl,rfl,a,λq=>(by nomatch q),λ_=>(w,rfl,e))
    | _=>nomatch e
variable{c':Expr}{e8:CmpOp}
def RQ{a b:Expr}(ho:OpD c X (dR op) m)(hs:∀x y d,m x y=aa d->d.scalar=ac)(o:OpD c X (dR e8) m')(p:∀x y d,m' x y=aa d->d.scalar=ac)(ha:DB c X a f)(hb:DB c X b g)(hc:DB c X c' h)
 (hm:lastMarks [op,e8] [b,c']=ah<|Zl):DE c X (.Compare a [op,e8] [b,c'] pos) (jg m m' f g h):=PE.imp (PH ho o ha hb hc hm) λJ H Q q_=>by
 have(E,H0,Hf,U,d,st,ef,k):=q_;have(x,y,n,N,T,Y,eF,eT):=JE ef;show(E,H0,Hf,U,x,st,N,λv a8 H1 j r1=>(E,H0,a8,U,y,st.step j,T,λu a9 H2 i A=>(H2,x,y,.bl n,aD.refl _,r1.up i.h,A,Y,λz L C B r3=>(n,r3,?_))));have e:=Ext.grow i.s B.h
 cases n with
 |false=>
  show k _ a9 C ((j.trans i).trans e) (by rw[eF rfl];rfl)
 |true=>
  have(w,e4,t):=eT rfl;show(E,H0,a9,U,w,((st.step (j.trans i)).step e),e4,λw' l G r r4=>(G,y,w,d,aD.refl _,A.up (B.h.trans r.h),r4,t,λq M I x5 r5=>k _ l I (((j.trans i).trans e).trans (r.trans (Ext.grow r.s x5.h))) (r5.sc (p _ _ _ t))))
def zw{a b:Expr}(ho:OpD c X (dR op) m)(hs:∀x y d,m x y=aa d->d.scalar=ac)(o:OpD c X (dR e8) m')(hs':∀x y d,m' x y=aa d->d.scalar=ac)(ha:DB c X a f)(hb:DB c X b g)(hc:DB c X c' h)
 (hm:lastMarks [op,e8] [b,c']=ah<|Zl):DT c X (.Compare a [op,e8] [b,c'] pos) (mB (jg m m' f g h)):=PT.imp (PJ ho o ha hb hc hm) λJ H Q q_=>by
 have(E,H0,Hf,U,d,st,ef,k):=q_;have(x,y,n,L,M,N,eF,eT):=JE (vt ef);show(E,H0,Hf,U,x,st,L,λv a8 H1 j r1=>(E,H0,a8,U,y,st.step j,M,λu a9 H2 i r=>(H2,x,y,.bl n,aD.refl _,r1.up i.h,r,N,λz G A t r3=>(n,r3,?_))));have e:=Ext.grow i.s t.h
 cases n with
 |false=>
  have:d=ah:=D.bl.inj (eF rfl);subst this
  show(ah,rfl,k a9 A ((j.trans i).trans e))
 |true=>
  have(w,T,Y):=eT rfl;show(E,H0,a9,U,w,((st.step (j.trans i)).step e),T,λw' l B p r4=>(B,y,w,.bl d,aD.refl _,r.up (t.h.trans p.h),r4,Y,λq I C x5 r5=>(d,r5,k l C (((j.trans i).trans e).trans (p.trans (Ext.grow p.s x5.h))))))
def zx{x w:D}{a:Bool}(c:f U=aa x)(d:g U=aa y)(e:m x y=aa (.bl b))(i:h U=aa w)(j:m' y w=aa (.bl a)):jg m m' f g h U=aa (.bl (b && a)):=by
 unfold jg;simp only[c,aE,d,aE,e,aE]
 cases b with
 |false=>rfl
 |true=>
  rw[i];show j
def JF{k:Int}(h:k.natAbs<2 ^ n):yt k<=n:=by
 unfold yt;split
 .show gJ _
 .rename_i a;have:k.natAbs≠0:=λz=>a (by rw[Int.natAbs_eq_zero.mp z];rfl);show(Nat.log2_lt this).mpr h
def qE(i X6:Int):Prop:=vd i X6\/(i.natAbs<2 ^ 200/\X6.natAbs<2 ^ 200)
def qE.ok(h:qE i X6):IntMulOk i X6:=by
 rcases h with h |⟨h1,h2⟩
 .show h.ok
 .have a:=JF h1;have b:=JF h2;unfold IntMulOk
  have:Builtin.Int.intTooBig (yt i+yt X6)=ah:=by
   have c:400<=bitsLine:=by decide
   show decide_eq_false (by lia)
  rw[this,xV];show c6
noncomputable instance {i X6:Int}:Decidable (qE i X6):=by unfold qE;infer_instance
nonrec def pd:D->D->OD:=dI qE λi X6=>.int (i*X6)
def RT:OpR X (iD .Mult) (rI qE λi X6=>.int (i*X6)):=opI λ_ _ _ _ _ _ _ a q=>mul_int q a.ok
def tw:OpD c X (iD .Mult) pd:=DQ RT λ_ _ _ _=>rfl
def tB(h:qE i X6):pd (.int i) (.int X6)=aa (.int (i*X6)):=Ea h
set_option maxRecDepth 100000
def dele(H:Hp)(l:Addr):Hp:=λa=>if a=l then ae else H a
def zy:dele H l l=ae:=by unfold dele;rw[if_pos rfl]
variable{a:Addr}
def zA(h:a≠l):dele H l a=H a:=by unfold dele;rw[if_neg h]
def JG:aD (dele H l) H:=λa o e=>by
 by_cases h:a=l
 .subst h;rw[zy]at e;nomatch e
 .rw[zA h]at e;show e
def JH{F:Hp}(s:aD F H)(h:F l=ae):aD F (dele H l):=λa o e=>by
 rw[zA (ic e h)];show s a o e
variable{i:Nat}
def aB.give(h:aB G E H0 Hf H J U)(e:U[i]?=aa (.own B))(d:J[i]?=aa (aa (.ref l))):aB G E H0 Hf (dele H l) J (U.set i .no):=by
 show h.chg e d (λb u f=>?_) trivial λa p=>(p.calm rfl).elim
 by_cases c:b=l
 .subst c;show .inl ((Holds.own rfl).mpr rfl)
 .show .inr (by rw[zA c];show f)
inductive tDX(G:Gc)(f:LS->Option (D×LS))(J:St)(H:Hp)(Q:VK):Prop
 |mk:∀E H0 Hf U d ρ',aB G E H0 Hf H J U->f U=aa (d,ρ',)->(∀v L H',aD Hf L->aB G E H0 L H' J ρ'->Rep G L d v->Q v H')->tDX G f J H Q
def DX(c:Str->Addr)(X:Cx)(e:Expr)(f:LS->Option (D×LS)):Prop:=PE X e (tDX (Gx c X) f)
def prD(z:Int×Int):D:=.tup [.int z.1,.int z.2]
variable{s:Sl}
def aB.giveS(g:s.isOwn=ac)(h:aB G E H0 Hf H J U)(e:U[i]?=aa s)(d:J[i]?=aa (aa (.ref l))):aB G E H0 Hf (dele H l) J (U.set i .no):=by
 show h.chg e d (λb u f=>?_) trivial λa p=>(p.calm rfl).elim
 by_cases c:b=l
 .subst c;show .inl ((Holds.own g).mpr rfl)
 .show .inr (by rw[zA c];show f)
def aB.back{s':Sl}(j:s.isOwn=ac)(b:s'.isOwn=ac)(h:aB G E H0 Hf H J U)(e:U[i]?=aa s)(a:J[i]?=aa (aa (.ref l)))(x:Ext Hf (dele H l) L H')(f:L l=ae)(g:kM G L H' l s'):aB G E H0 L H' J (U.set i s'):=by
 have:=(h.giveS j e a).setOwn (i:=i) b x zy f g;rw[set_set]at this
 have d:J.set i (aa (.ref l))=J:=by
  apply ext_getElem?;intro X6
  by_cases c:i=X6
  .subst c;rw[jq (dW.mp a).1,a]
  .rw[gH c]
 rw[d]at this;show this
open Classical in
def ir(f:LS->Option (D×LS))(U:LS):Option Fl:=(f U).map λp=>.nx p.2
def j4{f:LS->Option (D×LS)}(g:DX c X e f)(h:dz e ae pos.line X.env=pure ah<|Zb):DS c X (.Expr e pos) (ir f):=PS.imp (cG g h) λX2 J H i=>by
 have(E,H0,Hf,U,o,j,a,k):=i;unfold ir at a
 cases b:f U with
 |none=>rw[b]at a;nomatch a
 |some p=>
  rw[b]at a;cases a;show(E,H0,Hf,U,p.1,p.2,j,b,λv L H' s d r=>k J L H' s d)
def qF{f:LS->Option (D×LS)}(h:f U=aa (d,ρ',))(k:K (.nx ρ')):wp (ir f) U K:=(_,by unfold ir;rw[h];rfl,k)
def jA(h:f U=aa d)(k:K (.rtS d U)):wp (eC f) U K:=(_,by unfold eC;rw[h];rfl,k)
def ay.erase{G:Gc}{H:Hp}:∀{j:LD} {C:Z2} (k:Nat),ay G H j C->ay G H (j.eraseIdx k) (C.eraseIdx k)
 | [],_,_,h=>by cases (show _=[]from h);show .nil
 |d::j,_,0,(v,r,e,_,h2)=>by subst e;show h2
 |d::j,_,k+1,(v,r,e,h1,h2)=>by subst e;show(v,r.eraseIdx k,rfl,h1,ay.erase k h2)
def Fre(X5 Hf:Hp)(fp:Z7):Prop:=fp.Nodup/\∀a∈fp,X5 a=ae/\Hf a=ae
variable{X5:Hp}
def Fre.nil:Fre X5 Hf []:=⟨.nil,λ_ h=>nomatch h⟩
def Fre.one(h:X5 l=ae)(h':Hf l=ae):Fre X5 Hf [l]:=(f9.mpr (c7,jQ),λa ha=>by rw[bE.mp ha];show(h,h'))
def Fre.imp{b:Hp}(h:Fre X5 Hf fp)(k:∀a,X5 a=ae->b a=ae):Fre b Hf fp:=(h.1,λa ha=>(k a (h.2 a ha).1,(h.2 a ha).2))
def bsH(b:Bool)(H0 H:Hp):Hp:=bif b then H else H0
def zE(s:aD H0 H)(h:H a=ae):bsH b H0 H a=ae:=by
 cases b with
 |true=>show h
 |false=>show s.free h
inductive tDZ(G:Gc)(b:Bool)(f:LS->Option O)(J:St)(H:Hp)(Q:VK):Prop
 |mk:∀E H0 Hf U o,aB G E H0 Hf H J U->f U=aa o->(∀u fp L H',Ext Hf H L H'->OT G L H' o u fp->Fre (bsH b H0 H) L fp->Q u H')->tDZ G b f J H Q
def DZ(c:Str->Addr)(X:Cx)(b:Bool)(e:Expr)(f:LS->Option O):Prop:=PE X e (tDZ (Gx c X) b f)
def vK(f:Z6)(U:LS):Option O:=(f U).map λj=>.lst (j.map .fz)
def Ee{f:Z6}(h:DO c X e f):DZ c X b e (vK f):=PE.imp h λJ H Q m=>by
 have(E,H0,Hf,U,t,st,a,k):=m;unfold vK at a
 cases d:f U with
 |none=>rw[d]at a;nomatch a
 |some j=>
  rw[d]at a;cases a;show(E,H0,Hf,U,j,st,d,λl C L H' x hn g i r=>k _ [l] L H' x (l,C,[],rfl,i,OTs.fz r,rfl) (.one (zE st.ext.h hn) g))
def zB(f:LS->Option O)(U:LS):OD:=(f U).bind λo=>if o.kn then aa o.toD else ae
mutual
noncomputable def O.flat:O->Bool
 |.fz d=>d.flat
 |.lst os=>O.flats os
 |.tup os=>O.flats os
 |.dic _ os=>O.flats os
 |.ins _ _ os=>O.flats os
 |.dT _ os=>O.flats os
 |.at _ o=>o.flat
 |.jnk _=>ac
 |.any=>ac
noncomputable def O.flats:List O->Bool
 | []=>ac
 |o::os=>o.flat && O.flats os
end
def zSet(i:Nat)(f:LS->Option O)(U:LS):Option Fl:=(f U).map λo=>.nx (U.set i (.deep o))
def JI(i:Nat){f:LS->Option O}(j:X.N.Nodup)(l:DZ c X ac e f)(hi:X.N[i]?=aa x<|Zb)(hx:Loc X.env.scope x<|Ze)(n:dz e (aa (.Name x b9)) pos.line X.env=pure ah<|Zb)(m:LcF X x<|Zf):
  DS c X (.Assign [.Name x b9] e pos) (zSet i f):=PS.imp (qk j hi hx l n m) λX2 J H q=>by
 have(E,H0,Hf,U,o,g,b,k):=q;unfold zSet at b
 cases d:f U with
 |none=>rw[d]at b;nomatch b
 |some t=>
  rw[d]at b;cases b;show(E,H0,Hf,U,t,g,d,λu fp L H' x r z=>k _ L H' x.f (g.setNew x (u,fp,rfl,r,z.1,λa ha=>(g.ext.h.free (z.2 a ha).1,(z.2 a ha).2)) λa p=>?_));have(fp',r',ha):=p;have:=OT.funM t u fp fp' r r';subst this;show(z.2 a ha).1
def OTs.length{G:Gc}{Hf H:Hp}:∀{os:List O} {C:Z2} {fp:Z7},OTs G Hf H os C fp->os.length=C.length
 | [],_,_,h=>by rw[h.1];rfl
 |o::os,_,_,(v,r,f1,f2,e,h1,h2,ef)=>by subst e;simp[OTs.length h2]
def OTs.append{G:Gc}{Hf H:Hp}:∀{os ps:List O} {C us:Z2} {f g:Z7},OTs G Hf H os C f->OTs G Hf H ps us g->OTs G Hf H (os++ps) (C++us) (f++g)
 | [],_,_,_,_,_,h,t=>by have(a,b):=h;subst a b;show t
 |o::os,_,_,_,_,_,(v,r,f1,f2,e,h1,h2,ef),t=>by subst e ef;show(v,r++_,f1,f2++_,rfl,h1,OTs.append h2 t,fb _ _ _)
def OTs.one{o:O}{f:Z7}(h:OT G Hf H o v f):OTs G Hf H [o] [v] f:=(v,[],f,[],rfl,h,(rfl,rfl),(bZ _).symm)
variable{os:List O}
def OTs.up(h:OTs G Hf H os C fp)(f:aD Hf L)(s:aD H H'):OTs G L H' os C fp:=OTs.frameM f os C fp h λb u e _=>s b u e
variable{fs:Z7}
def Fre.step(z:Fre X5 Hf fs)(m:∀a∈fs,∃u,H a=aa u/\gv u=ah)(x:Ext Hf H L H'):Fre X5 L fs:=(z.1,λa ha=>((z.2 a ha).1,by
 have(u,c,b):=m a ha;rw[x.n a u c b];show(z.2 a ha).2))
def Fre.app(z:Fre X5 Hf fs)(y:Fre X5 Hf fp)(d:∀a∈fs,a∈fp->False):Fre X5 Hf (fs++fp):=
 (jP.mpr (z.1,y.1,λa ha b c e=>by subst e;show d a ha c),λa ha=>(cW.mp ha).elim (z.2 a) (y.2 a))
def O.appd(o:O)(d:D):Option O:=match o with
 |.lst B=>if B.length<16777216 then aa (.lst (B++[.fz d])) else ae
 |.jnk n=>if n<16777216 then aa (.jnk (n+1)) else ae
 | _=>ae
variable{o':O}
def RU{o:O}{fk:Z7}(h:o.appd d=aa o')(r:OT G Hf H o v fk):∃l us,v=.ref l/\H l=aa (.lst us)/\us.length<16777216/\l∈fk /\
  ∀L H' w,fk.Nodup->aD Hf L->(∀b u,b≠l->H b=aa u->H' b=aa u)->H' l=aa (.lst (us++[w]))->Rep G L d w->OT G L H' o' v fk:=by
 cases o with
 |lst B=>
  replace h:(if B.length<16777216 then aa _ else ae)=aa o':=h;split at h
  .rename_i j;cases h;have(l,us,fs,e,q,rs,c):=r;subst e c;show(l,us,rfl,q,by rw[<- rs.length];show j,bi,λL H' w n f k2 i a=>?_)
   have o1:=OTs.frameM f B us fs rs λb u g hm=>k2 b u (λz=>by
    subst z;rw[q]at g;cases g
    rcases hm with hm |hm
    .nomatch hm
    .show(f9.mp n).1 hm) g
   have o2:=o1.append (.one (o:=.fz d) (a,rfl));rw[bZ]at o2;show(l,us++[w],fs,rfl,i,o2,rfl)
  .nomatch h
 |jnk n=>
  replace h:(if n<16777216 then aa _ else ae)=aa o':=h;split at h
  .rename_i j;cases h;have(l,us,e,q,z,c):=r;subst e c;show(l,us,rfl,q,by lia,bi,λL H' w _ f k2 i a=>(l,us++[w],rfl,i,by rw[aX,gI];lia,rfl))
  .nomatch h
 | _=>nomatch h
def aB.take(h:aB G E H0 Hf H J U)(g:J[i]?=aa (aa u)):aB G E H0 Hf H J (U.set i (.val u)):=by
 show h.re h.ext (by simp) (λX6 w s a b=>?_) λX6 s v a b c d=>?_
 .rcases fF b with⟨e,f,_⟩ |⟨e,b⟩
  .subst e f;rw[g]at a;cases a;rfl
  .show h.at' X6 w s a b
 .rcases fF b with⟨e,f,_⟩ |⟨e,b⟩
  .subst f;show xU d.1
  .show(s,b,d)
def JJ(ks:LN)(a b:LS):Prop:=a.length=b.length/\∀m,m∉ks->a[m]?=b[m]?
def JJ.refl(ks:LN)(a:LS):JJ ks a a:=(rfl,λ_ _=>rfl)
def cZ(H:Hp)(fp:Z7):Hp:=λa=>if a∈fp then ae else H a
def jh(h:a∈fp):cZ H fp a=ae:=by unfold cZ;rw[if_pos h]
def gQ(h:a∉fp):cZ H fp a=H a:=by unfold cZ;rw[if_neg h]
def Ef:aD (cZ H fp) H:=λa o e=>by
 by_cases h:a∈fp
 .rw[jh h]at e;nomatch e
 .rw[gQ h]at e;show e
def zG{F:Hp}(s:aD F H)(h:∀a∈fp,F a=ae):aD F (cZ H fp):=λa o e=>by
 rw[gQ (λz=>by rw[h a z]at e;nomatch e)];show s a o e
inductive JK(G:Gc)(f:LS->Option (List O))(J:St)(H:Hp)(Q:Z2->Hp->Prop):Prop
 |mk:∀E H0 Hf U os,aB G E H0 Hf H J U->f U=aa os->(∀C gs L H',Ext Hf H L H'->OTs G L H' os C gs->Fre H L gs->Q C H')->JK G f J H Q
structure DAT(c:Str->Addr)(X:Cx)(es:Zq)(f:LS->Option (List O)):Prop where
 pa:PA X es (JK (Gx c X) f)
 len:∀U os,f U=aa os->os.length=es.length
abbrev ph(f:LS->Option O)(g:LS->Option (List O))(U:LS):Option (List O):=(f U).bind λo=>(g U).map λos=>o::os
def vL(g:LS->Option (List O))(U:LS):Option O:=(g U).map .lst
def JL:DAT c X [] nZ:=(PA.imp bM λJ H Q b=>by have(E,H0,Hf,U,os,st,a,k):=b;cases a;show k [] [] Hf H (Ext.refl st.sub) (rfl,rfl) .nil,λU os h=>by cases h;rfl)
variable{g:LS->Option (List O)}
def JM{f:LS->Option O}(h:ph f g U=aa os):∃o r,f U=aa o/\g U=aa r/\os=o::r:=by
 unfold ph at h
 cases a:f U with
 |none=>rw[a]at h;cases h
 |some d=>
  cases b:g U with
  |none=>rw[a,b]at h;cases h
  |some r=>rw[a,b]at h;cases h;show(d,r,rfl,rfl,rfl)
def zK{f:LS->Option O}(h:DZ c X ac e f)(m:DAT c X es g)(x:StE X e es<|Zb):DAT c X (e::es) (ph f g):=by
 show(PA.imp (bD h m.pa x) λJ H Q y=>?_,λU os h=>?_)
 .have(E,H0,Hf,U,os,st,t,k):=y;have(o,r,l,d,rfl):=JM t;show(E,H0,Hf,U,o,st,l,λu fp a8 H1 i p j=>(E,H0,a8,U,r,st.step i,d,λC gs a9 H2 b z q=>?_));have j:Fre H a8 fp:=j;have mem:=OT.memM o u fp p;show k (u::C) (fp++gs) a9 H2 (i.trans b) (u,C,fp,gs,rfl,p.up b.f b.h,z,rfl) ((j.step mem b).app (q.imp λa h=>i.h.free h) λa ha v=>?_);have(w,n,_):=mem a ha;rw[(q.2 a v).1]at n;cases n
 .have(o,r,l,d,rfl):=JM h;simp[m.len U r d]
def JN(h:DAT c X es g)(j:es.length<=1000<|Zk):DZ c X b (.List es pos) (vL g):=PE.imp (yK h.pa) λJ H Q m=>by
 have(E,H0,Hf,U,t,st,d,k):=m;unfold vL at d
 cases f:g U with
 |none=>rw[f]at d;cases d
 |some os=>
  rw[f]at d;cases d;show(E,H0,Hf,U,os,st,f,λC gs L H' x r z=>(?_,λl e=>?_))
  .rw[<- r.length,h.len U os f];show oH (vo j)
  .show k _ (l::gs) L (upd H' l (.lst C)) (x.trans (Ext.tmp x.s e)) (l,C,gs,rfl,ca,r.up (aD.refl _) (dC e),rfl) (f9.mpr (λhm=>?_,z.1),λa ha=>?_)
   .have(u,i,_):=OTs.memM os C gs r l hm;rw[e]at i;cases i
   .rcases bw.mp ha with q |q
    .subst q;show(zE st.ext.h (x.h.free e),x.s.free e)
    .show(zE st.ext.h (z.2 a q).1,(z.2 a q).2)
abbrev kD:Key->D
 |.inl i=>.int i
 |.inr x=>.str x
abbrev JO:D->OD
 |.bl b=>aa (.int (if b then 1 else 0))
 | _=>ae
def vM(f:Z4)(U:LS):OD:=(f U).bind JO
def RV(te:TE):TE:=λJ H Q=>te J H λx H1=>∃b,x=.bl b/\Q (.int (if b then 1 else 0)) H1
def RW:kH "int"=aa (.type "int"):=by decide +kernel
def RY(i:Gl X "int")(hm:X.mg "int"=ae)(g:PE X e te)(c:(ba [e] X.env=(ah,eval e X.env,)::ba [] X.env)<|Zb)(a:((cD pos (ba [] X.env)).any (·.1)=ah)<|Zb):
  PE X (.Call (.Name "int" p) [e] [] pos) (RV te):=by
 intro M s J H Q I h;show lF (oU I i hm RW ?_);show uX ?_ c a;rw[c];show mq (thn (g M s J H _ I h) λu s1 j=>?_);have(x,H1,d,l,b,f,q):=j;subst f;subst l;show dZ (call_int_bool (.int _,H1,d.tok _,(_,rfl),q))
def RZ(j:Gl X "int")(hm:X.mg "int"=ae)(ha:DE c X e f)(i:(ba [e] X.env=(ah,eval e X.env,)::ba [] X.env)<|Zb)(h:((cD pos (ba [] X.env)).any (·.1)=ah)<|Zb):DE c X (.Call (.Name "int" p) [e] [] pos) (vM f):=
 PE.imp (RY j hm ha i h) λJ H Q l=>by
  have(E,H0,Hf,U,m,st,a,k):=l;unfold vM at a
  cases g:f U with
  |none=>rw[g]at a;nomatch a
  |some d=>
   rw[g,aE]at a;unfold JO at a;split at a
   .rename_i b;cases a;show(E,H0,Hf,U,_,st,g,λv L H' x r=>(b,r,k _ L H' x rfl))
   .nomatch a
nonrec def Xe:=LS->Option (D×LS)
nonrec def Xa:=LS->Option (LD×LS)
nonrec def Xt:=LS->Option (Bool×LS)
def mX(f:Z4):Xe:=λU=>(f U).map λd=>(d,U,)
def mX2(m:D->D->OD)(f g:Xe):Xe:=λU=>(f U).bind λp=>(g p.2).bind λq=>(m p.1 q.1).map λd=>(d,q.2,)
def aj:Xa:=λU=>aa ([],U,)
def aw(f:Xe)(g:Xa):Xa:=λU=>(f U).bind λp=>(g p.2).map λq=>(p.1::q.1,q.2,)
def gy(f:Xa):Xe:=λU=>(f U).map λp=>(.tup p.1,p.2,)
def j6(m:LD->OD)(f:Xa):Xe:=λU=>(f U).bind λp=>(m p.1).map λd=>(d,p.2,)
def R0(h:mX f U=aa (d,ρ',)):f U=aa d/\ρ'=U:=by
 unfold mX at h
 cases e:f U with
 |none=>rw[e]at h;nomatch h
 |some a=>rw[e]at h;cases h;show(rfl,rfl)
def JP{f g:Xe}(h:mX2 m f g U=aa (d,ρ',)):∃x y ρ1,f U=aa (x,ρ1,)/\g ρ1=aa (y,ρ',)/\m x y=aa d:=by
 unfold mX2 at h
 cases c:f U with
 |none=>rw[c]at h;nomatch h
 |some p=>
  rw[c,aE]at h
  cases a:g p.2 with
  |none=>rw[a]at h;nomatch h
  |some q=>
   rw[a,aE]at h
   cases b:m p.1 q.1 with
   |none=>rw[b]at h;nomatch h
   |some z=>rw[b]at h;cases h;show(p.1,q.1,p.2,rfl,a,b)
def JQ{f:Xe}{g:Xa}(h:aw f g U=aa (j,ρ',)):∃d r ρ1,f U=aa (d,ρ1,)/\g ρ1=aa (r,ρ',)/\j=d::r:=by
 unfold aw at h
 cases b:f U with
 |none=>rw[b]at h;nomatch h
 |some p=>
  rw[b,aE]at h
  cases a:g p.2 with
  |none=>rw[a]at h;nomatch h
  |some q=>rw[a]at h;cases h;show(p.1,q.1,p.2,rfl,a,rfl)
inductive qG(G:Gc)(f:Xa)(J:St)(H:Hp)(Q:Z2->Hp->Prop):Prop
 |mk:∀E H0 Hf U j ρ',aB G E H0 Hf H J U->f U=aa (j,ρ',)->(∀C L H',aD Hf L->aB G E H0 L H' J ρ'->ay G L j C->Q C H')->qG G f J H Q
structure DAX(c:Str->Addr)(X:Cx)(es:Zq)(f:Xa):Prop where
 pa:PA X es (qG (Gx c X) f)
 len:∀U j ρ',f U=aa (j,ρ',)->j.length=es.length
inductive Eg(G:Gc)(f:Xt)(J:St)(H:Hp)(Q:Bool->Hp->Prop):Prop
 |mk:∀E H0 Hf U b ρ',aB G E H0 Hf H J U->f U=aa (b,ρ',)->(∀L H',aD Hf L->aB G E H0 L H' J ρ'->Q b H')->Eg G f J H Q
def DTX(c:Str->Addr)(X:Cx)(e:Expr)(f:Xt):Prop:=PT X e (Eg (Gx c X) f)
def DE.dx(h:DE c X e f):DX c X e (mX f):=PE.imp h λJ H Q g=>by
 have(E,H0,Hf,U,d,ρ',st,b,k):=g;have(a,rfl):=R0 b;show(E,H0,Hf,_,d,st,a,λv L H' x r=>k v L H' x.f (st.step x) r)
def aJ:DAX c X [] aj:=(PA.imp bM λJ H Q b=>by have(E,H0,Hf,U,j,ρ',st,a,k):=b;cases a;show k [] Hf H (aD.refl _) st rfl,λU j ρ' h=>by cases h;rfl)
def aC{f:Xe}{g:Xa}(ha:DX c X e f)(m:DAX c X es g)(o:StE X e es<|Zb):DAX c X (e::es) (aw f g):=by
 show(PA.imp (bD ha m.pa o) λJ H Q p=>?_,λU j ρ' h=>?_)
 .have(E,H0,Hf,U,j,ρ',st,n,k):=p;have(d,r,ρ1,l,a,rfl):=JQ n;show(E,H0,Hf,U,d,ρ1,st,l,λv a8 H1 f1 b q=>(E,H0,a8,ρ1,r,ρ',b,a,λC a9 H2 f2 i t=>k _ a9 H2 (f1.trans f2) i (.cons (q.up f2) t)))
 .have(d,r,ρ1,l,a,rfl):=JQ h;simp[m.len ρ1 r ρ' a]
def jB{f:Xa}(h:DAX c X es f)(i:es.length<=1000<|Zk):DX c X (.Tuple es k' pos) (gy f):=PE.imp (Dn h.pa) λJ H Q l=>by
 have(E,H0,Hf,U,d,ρ',st,b,k):=l;unfold gy at b
 cases e:f U with
 |none=>rw[e]at b;nomatch b
 |some q=>
  have(j,ρ1):=q;rw[e]at b;cases b;show(E,H0,Hf,U,j,_,st,e,λC L H' f1 a r=>(?_,λq g=>(k _ _ _ (f1.trans (dC (a.sub.free g))) (a.step (Ext.new a.sub g)) (q,C,rfl,ca,r.up (dC (a.sub.free g))))));rw[<- r.length,h.len U j _ e];show oH (vo i)
variable{fa:Xa}
def qH{f:Addr}{m:LD->OD}(pk:Pk X.prog X.w X.K X.mg X.base CX0 k x (f,fd,) ps (spD (Gx c X) ps.length m))(u:bn k0 X.A)(ha:DAX c X (e::es) fa)(I:((e::es).length=ps.length)<|Zb)(n:NDb x<|Zc)(B:StE X e es<|Zb)(t:BkE X pos es<|Zb)(o:k<=k0<|Zc)(G:Gl X x<|Zj):
  DX c X (.Call (.Name x p) (e::es) [] pos) (j6 m fa):=PE.imp (sN pk.ok (u.mono o) G pk.g pk.kp pk.b .nil jv ha.pa n B t) λJ H Q N=>by
 have(E,H0,Hf,U,d,ρ',st,a,M):=N;unfold j6 at a
 cases i:fa U with
 |none=>rw[i]at a;nomatch a
 |some q=>
  have(j,ρ1):=q;simp only[i,aE]at a
  cases l:m j with
  |none=>rw[l]at a;nomatch a
  |some z=>
   rw[l]at a;cases a;show(E,H0,Hf,U,j,_,st,i,λC L H' f1 h r=>?_);rw[bZ];show(L,j,_,h.sub,r,(ha.len U j _ i).trans I,l,λv a9 H2 y T=>M v a9 H2 (f1.trans y.f) (h.step y) T)
def ci(i:Nat)(f:Xe)(U:LS):Option Fl:=(f U).map λp=>.nx (p.2.set i (.im p.1))
def cU(f:Xe)(U:LS):Option Fl:=(f U).map λp=>.rtS p.1 p.2
def gR(i:Nat)(f:Xe)(U:LS):Option Fl:=match U[i]? with
 |some (.own _)=>(f U).bind λp=>match p.2[i]? with
  |some (.own B)=>if B.length<16777216 then aa (.nx (p.2.set i (.own (B++[p.1])))) else ae
  | _=>ae
 | _=>ae
abbrev Eh:D->D->OD
 |.int i,.int X6=>aa (.int (i+X6))
 |.str a,.str b=>if a.length+b.length<=16777216 then aa (.str (a++b)) else ae
 | _,_=>ae
def g8(t:Xt)(F F':Z3)(U:LS):Option Fl:=(t U).bind λp=>if p.1 then F p.2 else F' p.2
variable{f:Xe}
def di(i:Nat)(g:X.N.Nodup)(h:DX c X e f)(hi:X.N[i]?=aa x<|Zb)(hx:Loc X.env.scope x<|Ze)(l:dz e (aa (.Name x b9)) pos.line X.env=pure ah<|Zb)(j:LcF X x<|Zf):
  DS c X (.Assign [.Name x b9] e pos) (ci i f):=PS.imp (qk g hi hx h l j) λX2 J H m=>by
 have(E,H0,Hf,U,o,n,a,k):=m;unfold ci at a
 cases b:f U with
 |none=>rw[b]at a;nomatch a
 |some p=>
  rw[b]at a;cases a;show(E,H0,Hf,U,p.1,p.2,n,b,λv L H' s d r=>k _ L H' s (d.setIm r))
def dO(g:DX c X e f):DS c X (.Return (aa e) pos) (cU f):=PS.imp (sK g) λX2 J H h=>by
 have(E,H0,Hf,U,o,i,a,k):=h;unfold cU at a
 cases b:f U with
 |none=>rw[b]at a;nomatch a
 |some p=>
  rw[b]at a;cases a;show(E,H0,Hf,U,p.1,p.2,i,b,λv L H' s d r=>k v J L H' d r)
def lg(h:PS X st (qj (tBM X.K "list" vm (cb i) (nC (tDX (Gx c X) f) lQ)))):DS c X st (gR i f):=PS.imp h λX2 J H x=>by
 have(E,H0,Hf,U,o,m,a,k):=x;unfold gR at a;split at a
 .rename_i z g
  cases d:f U with
  |none=>rw[d]at a;nomatch a
  |some p=>
   rw[d,aE]at a;split at a
   .rename_i B es;split at a
    .rename_i u;cases a;have(l,e,A,G,y,w,M):=m.ownAt rfl g;show(_,e,.inl (rfl,_,SqL.of w),E,H0,Hf,U,p.1,p.2,m,d,λv L H' s b r'=>?_);have(I,j,n,t,C,q,r):=b.ownAt rfl es;rw[e]at j;cases j;show(l,C,v,rfl,rfl,q,by rw[fc,<- r.length];show u,k J L _ s (b.mutd rfl rfl es e (C++[v],ca,r.append (.cons r' .nil))))
    .grind
   .grind
 .grind
def R1:PIp X .Add (rD (Gx c X) Eh):=λM s J H x y v u Q I j l o=>by
 have(Hf,dx,f,d,m,g,h,e,k):=o
 show (by
 cases dx with
 |int i=>
  cases f with
  |int X6=>
   subst g;subst h;cases e
   show Pb M s J H _ _ v u Q I j l (_,_,rfl,rfl,k _ Hf H (Ext.refl m) rfl)
  | _=>nomatch e
 |str a=>
  cases f with
  |str b=>
   subst g;subst h;replace e:(if _ then aa _ else ae)=aa d:=e;split at e
   .rename_i n;cases e;show PM M s J H _ _ v u Q I j l (_,_,rfl,rfl,by rw[fc];show n,k _ Hf H (Ext.refl m) rfl)
   .grind
  | _=>nomatch e
 | _=>nomatch e)
variable{as:List Stmt}
def pi{bs:List Stmt}{t:Xt}(h:DTX c X e t)(ha:DSs c X as F)(g:DSs c X bs F'):DS c X (.If e as bs pos) (g8 t F F'):=PS.imp (C8 h ha g) λX2 J H i=>by
 have(E,H0,Hf,U,o,j,a,k):=i;unfold g8 at a
 cases f:t U with
 |none=>rw[f]at a;nomatch a
 |some x=>
  have(b,ρ1):=x;rw[f,aE]at a;show(E,H0,Hf,U,b,ρ1,j,f,λa8 H1 s1 d=>?_)
  cases b with
  |true=>rw[if_pos rfl];show(E,H0,a8,ρ1,o,d,a,k.up s1)
  |false=>rw[if_neg c6];show(E,H0,a8,ρ1,o,d,a,k.up s1)
def mBX(f:Xe):Xt:=λU=>(f U).bind λp=>match p.1 with
 |.bl b=>aa (b,p.2,)
 | _=>ae
def mTX(f:Zr):Xt:=λU=>(f U).map λb=>(b,U,)
abbrev vN:D->D->OD
 |.str z,.int i=>if 0<=i/\i<2 ^ 63/\i<(z.length:Int) then (z.cps[i.toNat]?).map λch=>.str ⟨#[ch]⟩ else ae
 | _,_=>ae
def DT.dtx{f:Zr}(h:DT c X e f):DTX c X e (mTX f):=PT.imp h λJ H Q d=>by
 have(E,H0,Hf,U,g,ρ',st,a,k):=d;unfold mTX at a
 cases b:f U with
 |none=>rw[b]at a;nomatch a
 |some x=>
  rw[b]at a;cases a;show(E,H0,Hf,U,_,st,b,λL H' x=>k L H' x.f (st.step x))
variable{a b:Expr}
def mH{g:Xe}(A:OpD c X (dR op) m)(ha:DX c X a f)(z:DX c X b g)(hm:oJ op b=ah<|Zm):
  DTX c X (.Compare a [op] [b] pos) (mBX (mX2 m f g)):=PT.imp (HX A ha z hm) λJ H Q B=>by
 have(E,H0,Hf,U,M,ρ',st,e,k):=B;unfold mBX at e
 cases j:mX2 m f g U with
 |none=>rw[j]at e;nomatch e
 |some q=>
  have(d,L):=q;simp only[j,aE]at e;have(x,y,ρ1,p,r,t):=JP j
  cases d <;> first |(cases e;done) |skip
  cases e;show(E,H0,Hf,U,x,ρ1,st,p,λv a8 H1 f1 l C=>(E,H0,a8,ρ1,y,_,l,r,λu a9 H2 f2 h G=>(a9,x,y,_,h.sub,C.up f2,G,t,λw i o n I=>(_,I,k i o ((f1.trans f2).trans n.f) (h.step n)))))
def R3{x:D}(h:vN x y=aa d):∃z i ch,x=.str z/\y=.int i/\0<=i/\i<2 ^ 63/\i<(z.length:Int)/\z.cps[i.toNat]?=aa ch/\d=.str ⟨#[ch]⟩:=by
 unfold vN at h;split at h
 .rename_i z i;split at h
  .rename_i a
   cases e:z.cps[i.toNat]? with
   |none=>rw[e]at h;nomatch h
   |some ch=>rw[e]at h;cases h;show(z,i,ch,rfl,rfl,a.1,a.2.1,a.2.2,e,rfl)
  .nomatch h
 .nomatch h
variable{f:Z4}
def R4{g:Z4}(ha:DE c X a f)(n:DE c X b g)(o:Ic b<|Zi):DE c X (.Subscript a b pos) (m2 vN f g):=PE.imp (PN ha n o) λJ H Q p=>two (λv w H Q q=>by
 have(Hf,x,y,d,u,r,t,e,k):=q;have(z,i,ch,rfl,rfl,h,j,l,m,rfl):=R3 e;show(z,i,ch,r,t,h,j,l,m,k _ Hf H (Ext.refl u) rfl)) p
inductive Lay(S:Addr)(H1:Hp)(B:Z2):Nat->Z2->Hp->Prop where
 |nil:Lay S H1 B 0 [] H1
 |snoc {i:Nat} {C:Z2} {H:Hp} {x:V} {p:Addr} (h:Lay S H1 B i C H) (hx:B[i]?=aa x) (hp:H p=ae) (ne:p≠S):Lay S H1 B (i+1) (C++[.ref p]) (upd H p (.tup [.int i,x]))
variable{S:Addr}
def Lay.len{B:Z2}(h:Lay S H1 B i C H):C.length=i:=by
 induction h with
 |nil=>rfl
 |snoc _ _ _ _ a=>rw[aX,a];rfl
def Lay.none{B:Z2}(h:Lay S H1 B i C H)(a:H1 S=ae):H S=ae:=by
 induction h with
 |nil=>show a
 |snoc _ _ _ ne b=>rw[bJ (iB ne)];show b
variable{s:ak}{X0:Model}
def Ei{u:Value}{Q:Unit->ak->Prop}(X1:Inv X M J H s)(nd:X.N.Nodup)(C:X.N[i]?=aa x)(G:X.env.scope.names.lookup x=aa .local)(rv:bc v u)
 (h:∀z,Inv X M (J.set i (aa v)) H z->z.toks=s.toks+1->(∃m,z.heap.Ns X.env.locals m/\m x=aa u)->Q () z):wpAny X0 A (storeName X.env x u) Q X2 s:=by
 have(m,T,L):=id X1.loc;have calm:(X.env.scope.kind==.class || (X.env.scope.kind==.module && X.env.locals != X.env.globals))=ah:=by rw[X1.ok.kind];rfl
 have below:i<J.length:=by rw[X1.len];show(dW.mp C).1
 show wpAny_storeName_local G T (λg E gs=>?_) calm;have a:∀{b:Addr} {o:Obj},X.s₀.heap.get? b=aa o->g.get? b=s.heap.get? b:=λ{b o} e=>gs.2 b (dw (dY (cF e) X1.ok.above))
 have tr:=λb Y e=>by
  show(X1.hok b Y e).stay (λc w t q=>(gs.2 c ?_).trans q) (λ_ q=>q) λ_ _ q=>q;rintro rfl
  rcases t with rfl |t
  .rw[X1.free]at e;nomatch e
  .rw[X1.free]at t;nomatch t
 show h _ (X1.ok,X1.os,X1.bare,(λb o e n B hx=>(a e).trans (X1.base.keep b o e n B hx),λb o e n B hx=>?_,X1.base.free,λb o e hx=>?_,X1.base.tups,X1.base.frzs,X1.base.tbls),(_,E,λX6 y w j l I=>?_),λy c e=>?_,X1.free,X1.freeC,λp hp=>?_,tr,by simpa using X1.len) rfl (_,E,by simp)
 .have(sl,q):=X1.base.slot b o e n B hx;show(sl,(a e).trans q)
 .have(o',q):=X1.base.there b o e hx;show(o',(a e).trans q)
 .by_cases same:X6=i
  .subst same;rw[C]at j;cases j;rw[jq below]at l;cases l;show(u,rv,.inl (G,by simp))
  .rw[gH (iB same)]at l;have(u',r',q):=L X6 y w j l I;show(u',r',?_)
   rcases q with⟨kd,r⟩ |⟨kd,c,r,z⟩
   .show .inl (kd,?_);have f:y≠x:=λe=>same (C4 nd j (e▸C));simp[f,r]
   .show .inr (kd,c,r,z.sameBut gs (X1.cne y c r))
 .have(w,z):=X1.cell y c e;show(w,z.sameBut gs (X1.cne y c e))
 .have(e,n,ne,U,d):=X1.pin p hp;show((gs.2 p.1 ne).trans e,n,ne,U,d)
def vO(ch:Nat):Str:=iX++(" ":Str)++⟨#[ch]⟩++(" ":Str)
def fq(z:Str)(ch:Nat):Str:=nw z ⟨#[ch]⟩ (vO ch)
def vP(z:Str)(a:LN):Bool:=(eQ a.length).all λk=>decide (4*((a.take k).foldl fq z).length+3<=16777216)
nonrec def zL(x y:Str)(a p2 b c d e f g h:Pos)(k1 k2:Nat):Expr:=.Call (.Attribute (.Name x a) "replace" p2) [.Name y b,.JoinedStr [.Constant (.str " ") k1 c,.FormattedValue (.Name y d) (-1) ae e,.Constant (.str " ") k2 f] g] [] h
variable{y z:Str}{p1 p3 p4 p5 p6 p7 p8 p9:Pos}{k1 k2:Nat}
def R5{ch:Nat}{u:Tok}{m:Zp}{Q:Z9}(I:Inv X M J H s)(hi:X.N[i]?=aa x)(o:X.env.scope.names.lookup x=aa .local)(B:X.env.scope.names.lookup y=aa .local)
 (T:J[i]?=aa (aa (.str z)))(hn:s.heap.Ns X.env.locals m)(t:m y=aa (.str ⟨#[ch]⟩ u))(u0:u≠0)(ub:u<s.toks)(sz:4*z.length+3<=16777216)
 (q:∀t' a,s.toks<=a->Q (.str (fq z ch) t') {s with toks:=a})
 (dx:NDb x<|Zc)(r:((y==("__debug__":Str))=ah)<|Zc)
 (c:jR (.Name x p1) "replace" X.env (eval (.Name x p1) X.env)=eval (.Name x p1) X.env<|Zb)
 (f:(((cD p9 (ba [.Name y p3,.JoinedStr [.Constant (.str " ") k1 p4,.FormattedValue (.Name y p5) (-1) ae p6,.Constant (.str " ") k2 p7] p8] X.env)).all (λx=>!x.1) && (gM p9 (gL [] X.env)).all (λx=>x.1.isSome)
   && decide (([.Name y p3,.JoinedStr [.Constant (.str " ") k1 p4,.FormattedValue (.Name y p5) (-1) ae p6,.Constant (.str " ") k2 p7] p8]:Zq).length+([]:List iG).length+(if ([]:List iG).isEmpty then 0 else 1)<30))=ac)<|Zb)
 (d:((p2.endLine==p9.line)=ac)<|Zb):wpAny (model X.prog X.w) X.A (eval (zL x y p1 p2 p3 p4 p5 p6 p7 p8 p9 k1 k2) X.env) Q X2 s:=by
 have(m',Y,U):=id I.loc;have(w,p,l):=U i x _ hi T (.inl o);have(tz,rfl):=p
 have hx:m' x=aa (.str z tz):=by
  rcases l with⟨_,h⟩ |⟨g,_⟩
  .show h
  .rcases g with g |g <;> (rw[show X.env.kindOf x=aa .local from o]at g;nomatch g)
 show yf c f d rfl (sj (yg I.ok.kind o Y hx ?_) dx);show("str","str.replace",F.plainAttrs_str,CM,CN,mm _ _ _,(λ_ e=>by nomatch e),?_);show yu rfl (u7 ?_);show mq (sj (yg I.ok.kind B hn t ?_) r);change wpAny _ _ (spliced [(ah,eval _ X.env,)]) _ _ s;show mq ?_
 have lit:∀{w:Str} {kk:Nat} {pp:Pos} {s1:ak} {R:Z9},R _ {s1 with toks:=s1.toks+1}->wpAny (model X.prog X.w) X.A (eval (.Constant (.str w) kk pp) X.env) R X2 s1:=λh=>oK h
 have n:∀a,s.toks<=a->wpAny _ X.A (joinParts (iX++(" ":Str)++⟨#[ch]⟩) [eval (.Constant (.str " ") k2 p7) X.env]) (λv b=>wpAny (model X.prog X.w) X.A (call _ [.str z tz,.str ⟨#[ch]⟩ u,v]) Q X2 b) X2 {s with toks:=a}:=λa j=>by
  show si (lit (by change 3<=be;decide,?_));show joinParts_nil ?_ (by change 3<=be;decide)
  show d6 (u4 (ya (ya j)) (SC.replace (Q:=λv s'=>∃t',v=.str _ t'/\∃k,s'={s with toks:=k}) u0 ?_ (dw (yb (dY ub j))) ?_ ?_ λt2 k=>(t2,rfl,k,rfl))) (λv s1 q_=>by have(L,t',C,k,E):=q_;subst C E;show q t' k L) λ_ _ e=>e.2
  .change a+1≠0;lia
  .cases e:(_==iX++_++⟨#[ch]⟩++_)with
   |false=>rfl
   |true=>show absurd (congrArg sy (eq_of_beq e)) (by change ¬1=3;decide)
  .change z.length+_*3<=_;lia
 show JoinedStr_many (si (lit (by change 1<=be;decide,?_)));show si (FormattedValue_plain (sj (yg I.ok.kind B hn t ?_) r))
 have more:∀a,s.toks<=a->(iX++(" ":Str)++(⟨#[ch]⟩:Str)).length<=be/\wpAny _ X.A _ (λu' b=>wpAny (model X.prog X.w) X.A _ (λus s'=>wpAny _ X.A _ Q X2 s') X2 b) X2 {s with toks:=a}:=λa j=>(by change 2<=be;decide,thn (n a j) λv s1 G=>yv G)
 show wpAny_formatField_str (more _ (m9 _)) (more _ (ya (m9 _))) (by change 1<=be;decide)
nonrec def JR(x y g:Str)(d pg c p1 p2 p3 p4 p5 p6 p7 p8 p9 a b:Pos)(k1 k2:Nat):Stmt:=.For (.Name y d) (.Name g pg) [.Assign [.Name x c] (zL x y p1 p2 p3 p4 p5 p6 p7 p8 p9 k1 k2) a] [] b
variable{X6:Nat}{g gx:Str}{t0:Tok}{py pg px p10 pf:Pos}
def R6{D:jV}(hp:kJ (model X.prog X.w) X.A X.env X.xe)(hc:X.calm=ac)(nd:X.N.Nodup)(hi:X.N[i]?=aa x)(hj:X.N[X6]?=aa y)(c:i≠X6)(lx:X.env.scope.names.lookup x=aa .local)(ly:X.env.scope.names.lookup y=aa .local)
 (hg:Gl X g)(hm:X.mg g=aa (.str gx t0))(as:gx.cps.all (· < 128)=ac)(I:Inv X M J H s)(tk:1<=s.toks)(hz:J[i]?=aa (aa (.str z)))(sz:vP z gx.cps.toList=ac)(hj':X6<J.length)(f:Nat)(d:gx.cps.toList.getLast?=aa f)
 (q:D.nx ((J.set i (aa (.str (gx.cps.toList.foldl fq z)))).set X6 (aa (.str ⟨#[f]⟩))) H)
 (dx:NDb x<|Zc)(dy:((y==("__debug__":Str))=ah)<|Zc)(dg:((g==("__debug__":Str))=ah)<|Zc)
 (j:jR (.Name x p1) "replace" X.env (eval (.Name x p1) X.env)=eval (.Name x p1) X.env<|Zb)
 (p:(((cD p9 (ba [.Name y p3,.JoinedStr [.Constant (.str " ") k1 p4,.FormattedValue (.Name y p5) (-1) ae p6,.Constant (.str " ") k2 p7] p8] X.env)).all (λx=>!x.1) && (gM p9 (gL [] X.env)).all (λx=>x.1.isSome)
   && decide (([.Name y p3,.JoinedStr [.Constant (.str " ") k1 p4,.FormattedValue (.Name y p5) (-1) ae p6,.Constant (.str " ") k2 p7] p8]:Zq).length+([]:List iG).length+(if ([]:List iG).isEmpty then 0 else 1)<30))=ac)<|Zb)
 (l:((p2.endLine==p9.line)=ac)<|Zb)(hsw:dz (zL x y p1 p2 p3 p4 p5 p6 p7 p8 p9 k1 k2) (aa (.Name x px)) p10.line X.env=pure ah<|Zb)(hs:(∀v,iC (.Name g pg) X.env v=pure v)<|Zd):
  wpAny (model X.prog X.w) X.A (exec (JR x y g py pg px p1 p2 p3 p4 p5 p6 p7 p8 p9 p10 pf k1 k2) X.env) (SP X M D) X.xe s:=by
 show wpAny_For (mx I hg hm (wpAny_pyIter_ascii as ?_) dg) hs;generalize hL:gx.cps.toList=X3 at sz d q;have r:∀k,gx.cps[k]?=X3[k]?:=λk=>by rw[<- hL,xT]
 generalize t:s.heap.objs.size=it
 have I2:Inv X M J H {s with heap:=s.heap.push {cls:=.type "str_ascii_iterator",data:=.fields #[.str gx t0,.int 0 0]}}:=I.kept λb o e=>ff _ e
 have fp:ie X M H it:=by rw[<- t];show I.fpOk (bu _) (I.hok.fresh (bu _))
 have fy:(s.heap.push {cls:=.type "str_ascii_iterator",data:=.fields #[.str gx t0,.int 0 0]}).IsStrIter it "str_ascii_iterator" gx t0 0:=by rw[<- t];show(_,gZ _ rfl,rfl,rfl)
 let At:Nat->St:=λk=>match k with
  | 0=>J
  |k+1=>(J.set i (aa (.str ((X3.take (k+1)).foldl fq z)))).set X6 (aa (.str ⟨#[X3.getD k 0]⟩))
 have Y:∀k,k<=X3.length->(At k)[i]?=aa (aa (.str ((X3.take k).foldl fq z))):=λk u=>by
  cases k with
  |zero=>show hz
  |succ k=>change _[i]?=_;rw[gH (iB c),jq ((dW.mp hz).1)]
 have hNx:∀k ch,X3[k]?=aa ch->((At k).set X6 (aa (.str ⟨#[ch]⟩))).set i (aa (.str (fq ((X3.take k).foldl fq z) ch)))=At (k+1):=λk ch e=>by
  have E:(X3.take (k+1)).foldl fq z=fq ((X3.take k).foldl fq z) ch:=by rw[take_add_one,e,foldl_append];rfl
  have e2:X3.getD k 0=ch:=by rw[jM,e];rfl
  change _=(J.set i (aa (.str ((X3.take (k+1)).foldl fq z)))).set X6 (aa (.str ⟨#[X3.getD k 0]⟩));rw[E,e2]
  cases k with
  |zero=>show(set_comm _ _ c).symm
  |succ k=>
   rw[set_set,set_comm _ _ (iB c),set_set]
 show yh (λn s'=>∃k,k<=X3.length/\n=X3.length-k/\Inv X M (At k) H s'/\s'.heap.IsStrIter it "str_ascii_iterator" gx t0 k/\1<=s'.toks) ?_ X3.length (0,gJ _,rfl,I2,fy,tk);rintro n B ⟨k,u,rfl,I3,C,tk3⟩;have(L,f1,f2,Q,T,U):=fp
 cases e:X3[k]? with
 |none=>
  have hkl:=Nat.le_antisymm u (List.getElem?_eq_none_iff.mp e);show wpAny_pyNext_ascii_end (I.ok.hd hc) C ((r k).trans e) λh' eb=>?_;show mj (_,H,I3.turned (t':=B.toks) (λb o h e=>eb b o h e) L f1 Q T U,?_);subst hkl
  cases X3 with
  |nil=>nomatch d
  |cons a X3=>
   change D.nx ((J.set i (aa (.str (((a::X3).take (X3.length+1)).foldl fq z)))).set X6 (aa (.str ⟨#[(a::X3).getD X3.length 0]⟩))) H
   have E:(a::X3).getD X3.length 0=f:=by
    rw[List.getLast?_eq_getElem?]at d;show(jM).trans (congrArg (λo=>Option.getD o 0) d)
   rw[x6 (by simp),E]
   show q
 |some ch=>
  show wpAny_pyNext_ascii_item C ((r k).trans e) λh' e9 sb=>?_
  have I4:Inv X M (At k) H {B with heap:=h',toks:=B.toks+1}:=I3.turned (λb o h e=>(sb.2 b h).trans e) L f1 Q T U
  have(o,G,oc,od):=id e9
  show vb (s:={B with heap:=h',toks:=B.toks+1}) G oc od (by decide) ?_
  show gK hp (yj (Ei (I4.pinned (fp:=[it]) (λb h=>by cases bE.mp h;show(L,f1,f2,Q,T,U)) (λb h=>by cases bE.mp h;show⟨o,G,λv z=>by rw[od]at z;nomatch z⟩)) nd hj ly (v:=.str ⟨#[ch]⟩) (_,rfl) λs6 I6 t6 q_=>?_));have(m,mn,my):=q_;show gK hp (kG (oI (R5 I6 hi lx ly (z:=(X3.take k).foldl fq z) ?_ mn my (kE tk3) (by rw[t6];show yb (jr _)) ((λk u=>of_decide_eq_true (all_eq_true.mp sz k (kC.mpr u))) k (dW.mp e).1) (λt' tk' ht=>?_) dx dy j p l) hsw))
  .rw[gH (iB c)];show Y k u
  .show Ei (I6.tok tk') nd hi lx (v:=.str (fq ((X3.take k).foldl fq z) ch)) (_,rfl) λs7 I7 t7 _=>?_;show mj ?_;show(X3.length-(k+1),by have:=(dW.mp e).1;lia,k+1,(dW.mp e).1,rfl,?_,?_,?_)
   .rw[<- hNx k ch e];show I7.unpinned
   .show(o,(I7.pin (it,o,) (bY _ (bY _ (lP (bE.mpr rfl) G)))).1,oc,od)
   .rw[t7];show Nat.le_add_left _ _
def vQ(i X6:Nat)(gx:Str)(f:Z4)(U:LS):Option Fl:=(f U).bind λd=>match d,gx.cps.toList.getLast? with
 |.str z,aa ch=>if vP z gx.cps.toList=ac then aa (.nx ((U.set i (.im (.str (gx.cps.toList.foldl fq z)))).set X6 (.im (.str ⟨#[ch]⟩)))) else ae
 | _,_=>ae
variable{p0 pq:Pos}
def R7{rest:List Stmt}(i X6:Nat)(hp:kJ (model X.prog X.w) X.A X.env X.xe)(hc:X.calm=ac)(nd:X.N.Nodup)(hg:Gl X g)(hm:∃t0,X.mg g=aa (.str gx t0))(he:DE c X e f)(hr:DSs c X rest F)(hi:X.N[i]?=aa x<|Zb)(Q:X.N[X6]?=aa y<|Zb)(q:i≠X6<|Zc)(T:X.env.scope.names.lookup x=aa .local<|Zb)(ly:X.env.scope.names.lookup y=aa .local<|Zb)
 (as:gx.cps.all (· < 128)=ac<|Zn)
 (dx:NDb x<|Zc)(dy:((y==("__debug__":Str))=ah)<|Zc)(dg:((g==("__debug__":Str))=ah)<|Zc)(hw:dz e (aa (.Name x pq)) p0.line X.env=pure ah<|Zb)
 (b:jR (.Name x p1) "replace" X.env (eval (.Name x p1) X.env)=eval (.Name x p1) X.env<|Zb)
 (j:(((cD p9 (ba [.Name y p3,.JoinedStr [.Constant (.str " ") k1 p4,.FormattedValue (.Name y p5) (-1) ae p6,.Constant (.str " ") k2 p7] p8] X.env)).all (λx=>!x.1) && (gM p9 (gL [] X.env)).all (λx=>x.1.isSome)
   && decide (([.Name y p3,.JoinedStr [.Constant (.str " ") k1 p4,.FormattedValue (.Name y p5) (-1) ae p6,.Constant (.str " ") k2 p7] p8]:Zq).length+([]:List iG).length+(if ([]:List iG).isEmpty then 0 else 1)<30))=ac)<|Zb)
 (h:((p2.endLine==p9.line)=ac)<|Zb)(B:dz (zL x y p1 p2 p3 p4 p5 p6 p7 p8 p9 k1 k2) (aa (.Name x px)) p10.line X.env=pure ah<|Zb)(hs:(∀v,iC (.Name g pg) X.env v=pure v)<|Zd):
  DSs c X (.Assign [.Name x pq] e p0::JR x y g py pg px p1 p2 p3 p4 p5 p6 p7 p8 p9 p10 pf k1 k2::rest) (ao (vQ i X6 gx f) F):=by
 intro M s J H X2 I q_;have(t0,hm):=hm;have(E,H0,Hf,U,o,Y,a,k):=q_;unfold ao vQ at a
 cases n:f U with
 |none=>rw[n]at a;nomatch a
 |some d=>
  rw[n,aE]at a
  cases d <;> first |(cases a;done) |skip
  rename_i z
  cases p:gx.cps.toList.getLast? with
  |none=>rw[p]at a;nomatch a
  |some ch=>
   rw[p]at a;dsimp only at a;split at a
   .rename_i sz;show kG (oI (thn (he M s J H _ I (E,H0,Hf,U,_,Y,n,λv L H' x r=>((L,r,x.f,Y.step x):∃L,Rep _ L _ v/\aD Hf L/\aB _ E H0 L H' J U))) λu s1 (v,H1,I1,r1,a8,rz,sm,C)=>?_) hw);cases (rz);show Ei I1 nd hi T r1 λs2 I2 t2 _=>?_;have l:i<J.length:=by rw[I.len];show(dW.mp hi).1
    have t:X6<(J.set i (aa (V.str z))).length:=by rw[oE,I.len];show(dW.mp Q).1
    show kG (thn (R6 (D:={nx:=λσ' H'=>tDS (Gx c X) F X2 σ' H',rt:=λ_ _=>False,bk:=λ_ _=>False,ct:=λ_ _=>False}) hp hc nd hi Q q T ly hg hm as I2 (by rw[t2];show Nat.le_add_left _ _) (jq l) sz t ch p ?_ dx dy dg b j h B hs) λfl s3 m=>?_)
    .show(E,H0,a8,_,o,?_,a,k.up sm);rw[set_set];show(C.setIm (d:=.str _) rfl).setIm rfl
    .cases fl with
     |next=>have(G,H3,I3,q3):=m;show hr M s3 G H3 X2 I3 q3
     |ret v=>have(_,_,_,_,_,z):=m;show z.elim
     |brk=>have(_,_,_,z):=m;show z.elim
     |cont=>have(_,_,_,z):=m;show z.elim
   .nomatch a
def zN(x y:Str):Z1:=Ov.Str.partsBetween x (Hx x y 0 x.length (x.length+1)) y.length
def vR(x y:D):OD:=match x,y with
 |.str a,.str b=>if b.length≠0/\a.length<=16777216/\(zN a b).length<=16777216 then aa (.lst ((oQ a b).map .str)) else ae
 | _,_=>ae
abbrev JS:V->Z2->Hp->VK->Prop:=λx C H Q=>∃a b,x=.str a/\C=[.str b]/\b.length≠0/\a.length<=be/\(zN a b).length<=be/\∀p,H p=ae->Q (.ref p) (upd H p (.lst ((oQ a b).map V.str)))
def JT:∀(l:List (Str×Tok)),aQ ((l.map (·.1)).map V.str) (sv l)
 | []=>.nil
 |(x,t,)::l=>.cons (t,rfl) (JT l)
def Ej{G:Gc}{H:Hp}:∀(l:Z1),ay G H (l.map D.str) (l.map V.str)
 | []=>rfl
 | _::l=>.cons rfl (Ej l)
open PySem.Builtin PySem.Builtin.Str in
def R8:MtR X "str.split" JS:=by
 rintro M s J H x B v us Q I n m ⟨a,b,rfl,rfl,i,ha,hp,q⟩;have(t,rfl):=n;have(u,rfl,t',rfl):=m.one;have f:(b.length==0)=ah:=by simpa using i
 have c:∀(l:List (Str×Tok)) (h:Nat),l.map (·.1)=oQ a b->(sv l).length<=be->EP X M J Q (.ref s.heap.objs.size) {s with heap:=s.heap.push {cls:=.type "list",data:=.seq (sv l).toArray},toks:=h}:=λl h e j=>by
  show(.ref _,_,I.lnew (t':=h) (JT l) ?_,rfl,?_)
  .rw[bh,bh]
   simpa[sv]using j
  .rw[e];show q _ I.fresh
 cases d:(decide (a.length<b.length) || decide (strKind a<strKind b))
 .cases g:(occurrences a b 0 a.length (a.length+1)).isEmpty
  .show su F.slot_str_split (mm _ _ _) CP (CO _ _) (meets_str_split_sep a b t t' d f g ha hp) ?_;rw[strsFrom_eq];show c (numbered s.toks _) _ ((numbered_texts _ _).trans ((if_neg (ne_true_of_eq_false d)).trans (if_neg (ne_true_of_eq_false g))).symm) ?_;have:=congrArg me (numbered_texts s.toks (partsBetween a (occurrences a b 0 a.length (a.length+1)) b.length));rw[bh]at this;unfold sv;rw[bh,this];show hp
  .show su F.slot_str_split (mm _ _ _) CP (CO _ _) (meets_str_split_not_found a b t t' d f g)
    (c [(a,t,)] s.toks ((if_neg (ne_true_of_eq_false d)).trans (if_pos g)).symm (by change 1<=be;decide))
 .show su F.slot_str_split (mm _ _ _) CP (CO _ _) (meets_str_split_cannot_occur a b t t' d)
   (c [(a,t,)] s.toks (if_pos d).symm (by change 1<=be;decide))
def R9{g:Z4}(h:PE X e (tBM X.K "str" JS (tD (Gx c X) f) (nC (tD (Gx c X) g) lQ))):DE c X e (m2 vR f g):=PE.imp h λJ H Q r=>by
 have(E,H0,Hf,U,d,st,q,k):=r;have(x,y,n,o,i):=vq q;unfold vR at i;split at i
 .rename_i a b;split at i
  .rename_i j;cases i;show(E,H0,Hf,U,_,st,n,λv a8 H1 l t=>?_);cases (t);show(rfl,E,H0,a8,U,_,st.step l,o,λu a9 H2 m w=>(a,b,rfl,by rw[show u=V.str b from w],j.1,by rw[fc];show j.2.1,by rw[fc];show j.2.2,λp hp=>k _ _ _ ((l.trans m).trans (Ext.new m.s hp)) (p,_,rfl,ca,Ej _)))
  .nomatch i
 .nomatch i
def zO(b:Gl X x)(hm:∃t,X.mg x=aa (.str g t))(hd:NDb x<|Zc):DE c X (.Name x pos) (λ_=>aa (.str g)):=by
 have(t,hm):=hm
 show PE.imp (HE b hm (v:=.str g) (t,rfl) hd) λJ H Q e=>by
  have(E,H0,Hf,U,d,st,a,k):=e;cases a;show k _ Hf H (Ext.refl st.sub) rfl
def Its(x:Str):It:=(λi _=>i<x.length,λi H v H'=>H'=H/\∃ch,x.cps[i]?=aa ch/\v=.str ⟨#[ch]⟩,λi _=>x.length<=i)
variable{K:bf}
def Sa(it:Addr)(x:Str)(t:Tok):oW P w K tg (Its x) [it] it (λi h=>h.IsStrIter it "str_ascii_iterator" x t i) where
 mem:=bE.mpr rfl
 obj:=λi h (o,e,oc,od) b hb=>by
  cases bE.mp hb;show⟨o,e,λv z=>by rw[od]at z;nomatch z⟩
 keep:=λi h h' (o,e,r) k=>(o,k it (bE.mpr rfl) o e,r)
 item:=by
  intro X eP ew eK cm i M s J H X2 I hf st hg;have(f0,f1,f2,f3,f4,f5):=hf it (bE.mpr rfl);have hx:=Array.getElem?_eq_getElem hg;show wpAny_pyNext_ascii_item st hx λh' e9 sb=>?_
  have I1:Inv X M J H {s with heap:=h',toks:=s.toks+1}:=I.turned (λb o hb e=>(sb.2 b hb).trans e) f0 f1 f3 f4 f5
  have(o,e,oc,od):=id e9;show(_,rfl,vb e oc od (by decide) (.str ⟨#[x.cps[i]]⟩,H,I1,(_,rfl),(rfl,_,hx,rfl),e9,λb hb=>(hf b hb).1))
 done:=by
  intro X eP ew eK cm i M s J H X2 I hf st hg;have(f0,f1,f2,f3,f4,f5):=hf it (bE.mpr rfl);show wpAny_pyNext_ascii_end (I.ok.hd cm) st (Array.getElem?_eq_none hg) λh' eb=>(rfl,I.turned (λb o hb e=>eb b o hb e) f0 f1 f3 f4 f5)
 self:=λ_ _ _ _ _ st h=>wpAny_pyIter_striter_ascii st h
def tE(f:Z4)(U:LS):Zs:=(f U).bind λd=>match d with
 |.str x=>if x.cps.all (· < 128)=ac then aa (x.cps.toList.map λch=>.str ⟨#[ch]⟩) else ae
 | _=>ae
def Sb:sU G Hf (Its x) (x.cps.toList.map λch=>D.str ⟨#[ch]⟩):=λL H' f s i=>by
 show(λd a=>?_,λb=>?_)
 .rw[fV]at a
  cases e:x.cps.toList[i]? with
  |none=>rw[e]at a;nomatch a
  |some ch=>
   rw[e]at a;cases a;have hi:i<x.cps.size:=by simpa using (dW.mp e).1
   show(hi,λv H2 (g,j,c,h)=>?_);subst g h;rw[<- xT,e]at c;cases c;show(L,Ext.refl s,rfl)
 .rw[bh,Array.length_toList]at b;show uU b.symm
def Sc{l:Expr}{tl:TE}(f:PE X l tl):PI X tg l (λJ H R=>tl J H λx H1=>∃z,x=.str z/\z.cps.all (· < 128)=ac/\R (Its z) H1):=by
 intro M s J H R I h;show thn (f M s J H _ I h) λv s1 g=>?_;have(x,H1,a,i,z,c,as,q):=g;subst c;have(t,rfl):=i;show wpAny_pyIter_ascii as ?_;show(s1.heap.objs.size,_,_,_,H1,rfl,a.kept λb o e=>ff _ e,Sa _ z t,(_,gZ _ rfl,rfl,rfl),λb d=>?_,q);cases bE.mp d;show a.fpOk Nat.le.refl (a.hok.fresh Nat.le.refl)
def Sd(h:DE c X e f):DI c X tg e (tE f):=PI.imp (Sc h) λJ H R g=>by
 have(E,H0,Hf,U,j,st,a,k):=g;unfold tE at a
 cases b:f U with
 |none=>rw[b]at a;nomatch a
 |some d=>
  rw[b,aE]at a
  cases d <;> first |(cases a;done) |skip
  rename_i x;replace a:(if x.cps.all (· < 128)=ac then aa _ else ae)=aa j:=a;split at a
  .rename_i as;cases a;show(E,H0,Hf,U,_,st,b,λv a8 H1 l i=>(x,i,as,k _ a8 H1 l Sb))
  .nomatch a
def inS(y x:Str):Bool:=!(Hx x y 0 x.length 1).isEmpty
def tF(y x:D):OD:=match y,x with
 |.str y,.str x=>aa (.bl (inS y x))
 | _,_=>ae
def Se:∀x y d,tF x y=aa d->d.scalar=ac:=λx y d e=>by
 unfold tF at e;split at e
 .cases e;rfl
 .nomatch e
def Sf:OpD c X (dR .In) tF:=by
 rintro M s J H i j v u Q I f g ⟨Hf,x,y,d,h,a,b,e,k⟩;unfold tF at e;split at e
 .rename_i y x;cases e;cases (a);cases (b);have(t,rfl):=f;have(t',rfl):=g;show PyProof.Rows.in_str (.bl _,H,I,rfl,k _ Hf H (Ext.refl h) rfl)
 .nomatch e
abbrev Sg:V->Option Int->Option Int->Hp->VK->Prop:=λx lo hi H Q=>∃z,x=.str z/\z.length<=be/\Q (.str (jU z lo hi)) H
def Sh:SlR X Sg:=by
 rintro M s J H x v n p lo hi sl Q I m h j f ⟨z,rfl,d,q⟩;have(t,rfl):=m;show("str",_,F.slot_str_getitem.lookup,mm _ _ _,?_)
 have a:∀t' k,EP X M J Q _ {s with toks:=k}:=λt' k=>(.str _,H,I.tok k,(t',rfl),q)
 have(o,c,b,hd):=h
 cases j with
 |none=>
  cases f with
  |none=>show ye (l:=ae) (u:=ae) (st:=ae) (o,c,b,hd) rfl (yq (cf (yz z _ _) d,a))
  |int i e=>show ye (l:=ae) (u:=aa (i,e,)) (st:=ae) (o,c,b,hd) rfl (yq (cf (yz z _ _) d,a))
 |int X6 g=>
  cases f with
  |none=>show ye (l:=aa (X6,g,)) (u:=ae) (st:=ae) (o,c,b,hd) rfl (yq (cf (yz z _ _) d,a))
  |int i e=>show ye (l:=aa (X6,g,)) (u:=aa (i,e,)) (st:=ae) (o,c,b,hd) rfl (yq (cf (yz z _ _) d,a))
def zQ(d:D)(lo hi:Option Int):OD:=match d with
 |.str z=>if z.length<=16777216 then aa (.str (jU z lo hi)) else ae
 | _=>ae
def Si{r:D}(h:zQ d lo hi=aa r):∃z,d=.str z/\z.length<=be/\r=.str (jU z lo hi):=by
 unfold zQ at h;split at h
 .split at h
  .rename_i a;cases h;show(_,rfl,by rw[fc];show a,rfl)
  .nomatch h
 .nomatch h
def qI(f:Z4)(l h:LS->Option (Option Int))(U:LS):OD:=(f U).bind λd=>(l U).bind λlo=>(h U).bind λhi=>zQ d lo hi
def Ek{l h:LS->Option (Option Int)}{lo hi:Option Expr}(ha:DE c X e f)(u:DPt c X lo l)(t:DPt c X hi h):DE c X (.Subscript e (.Slice lo hi ae p2) pos) (qI f l h):=
 PE.imp (Dv Sh ha u t) λJ H Q x=>by
  have(E,H0,Hf,U,r,st,a,k):=x;unfold qI at a
  cases g:f U with
  |none=>rw[g]at a;nomatch a
  |some d=>
   rw[g,aE]at a
   cases i:l U with
   |none=>rw[i]at a;nomatch a
   |some n=>
    rw[i,aE]at a
    cases j:h U with
    |none=>rw[j]at a;nomatch a
    |some m=>
     rw[j,aE]at a;have(z,rfl,w,rfl):=Si a;show(E,H0,Hf,U,_,st,g,λv a8 H1 o y=>(E,H0,a8,U,n,st.step o,i,λa9 H2 p=>(E,H0,a9,U,m,(st.step o).step p,j,λb q A=>(z,y,w,k _ b q ((o.trans p).trans A) rfl))))
abbrev JU:V->Z2->Hp->VK->Prop:=λx C H Q=>∃a b,x=.str a/\C=[.str b]/\Q (.bl (yy a b)) H
def JV:MtR X "str.startswith" JU:=by
 rintro M s J H x B v us Q I d c ⟨a,b,rfl,rfl,q⟩;have(t,rfl):=d;have(u,rfl,t',rfl):=c.one;show SC.startswith (.bl _,H,I,rfl,q)
def zS(x y:D):OD:=match x,y with
 |.str a,.str b=>aa (.bl (yy a b))
 | _,_=>ae
def JW{g:Z4}(h:PE X e (tBM X.K "str" JU (tD (Gx c X) f) (nC (tD (Gx c X) g) lQ))):DE c X e (m2 zS f g):=PE.imp h λJ H Q o=>by
 have(E,H0,Hf,U,d,st,n,k):=o;have(x,y,l,m,i):=vq n;unfold zS at i;split at i
 .rename_i a b;cases i;show(E,H0,Hf,U,_,st,l,λv a8 H1 j p=>?_);cases (p);show(rfl,E,H0,a8,U,_,st.step j,m,λu a9 H2 r q=>(a,b,rfl,by rw[show u=V.str b from q],k _ a9 H2 (j.trans r) rfl))
 .nomatch i
def Sj:ju X (.type "int") (λB H Q=>∃z n,B=[.str z]/\yo z=aa n/\z.length<=640/\Q (.int n) H):=by
 rintro M s J H B us Q I r ⟨z,n,rfl,hn,a,q⟩;have(_,rfl,t,rfl):=oX r;show W.KIN.call_text hn a (.int n,H,I.tok _,(_,rfl),q)
def Sk:kH "int"=aa (.type "int"):=by decide +kernel
def JX:kH "str"=aa (.type "str"):=by decide +kernel
def zU(x:D):OD:=match x with
 |.str z=>if z.length<=640 then (yo z).map .int else ae
 | _=>ae
def nP(x:D):OD:=match x with
 |.int i=>if i.natAbs.log2<1920 then aa (.str (nA i)) else ae
 | _=>ae
def JY(K:bf)(mg:Zp)(x:Str)(b:Z1):Prop:=∃a o its n,mg x=aa (.ref a)/\K.lookup a=aa o/\o.cls=.type "tuple" /\ o.data=.seq its n/\its.size<=be/\aQ (b.map V.str) its.toList
def Sm(i:Gl X "int")(hm:X.mg "int"=ae)(ha:DE c X e f)(h:(ba [e] X.env=(ah,eval e X.env,)::ba [] X.env)<|Zb):DE c X (.Call (.Name "int" p) [e] [] pos) (m1 zU f):=PE.imp (Du Sj i hm Sk (bD ha bM h) (by decide) (by decide) h rfl) λJ H Q l=>by
 have(E,H0,Hf,U,d,st,a,k):=l;unfold m1 at a
 cases b:f U with
 |none=>rw[b]at a;nomatch a
 |some x=>
  rw[b,aE]at a;unfold zU at a;split at a
  .rename_i z;split at a
   .rename_i j
    cases g:yo z with
    |none=>rw[g]at a;nomatch a
    |some n=>
     rw[g]at a;cases a;show(E,H0,Hf,U,_,st,b,λv a8 H1 o m=>?_);cases (m);show(z,n,rfl,g,j,k _ a8 H1 o rfl)
   .nomatch a
  .nomatch a
def El(h:Gl X "str")(hm:X.mg "str"=ae)(ha:DE c X e f)(g:(ba [e] X.env=(ah,eval e X.env,)::ba [] X.env)<|Zb):DE c X (.Call (.Name "str" p) [e] [] pos) (m1 nP f):=PE.imp (Du PQ h hm JX (bD ha bM g) (by decide) (by decide) g rfl) λJ H Q l=>by
 have(E,H0,Hf,U,d,st,a,k):=l;unfold m1 at a
 cases b:f U with
 |none=>rw[b]at a;nomatch a
 |some x=>
  rw[b,aE]at a;unfold nP at a;split at a
  .rename_i i;split at a
   .rename_i j;cases a;show(E,H0,Hf,U,_,st,b,λv a8 H1 n m=>?_);cases (m);show(i,rfl,j,k _ a8 H1 n rfl)
   .nomatch a
  .nomatch a
def Sn{b:Z1}(f:Gl X x)(hm:JY X.K X.mg x b)(hd:NDb x<|Zc):DE c X (.Name x pos) (λ_=>aa (.kt (b.map D.str))):=by
 have(a,o,its,n,hm,h,oc,od,g,C):=hm
 show PE.imp (HE f hm (v:=.ref a) rfl hd) λJ H Q i=>by
  have(E,H0,Hf,U,d,st,e,k):=i;cases e;show k _ Hf H (Ext.refl st.sub) (a,b.map V.str,rfl,.inr (o,its,n,h,oc,od,g,C,λx hx=>by have(_,_,rfl):=iW.mp hx;rfl),Ej b)
def qJ(G:Gc)(cn:Str)(ns:Z1)(n:Nat)(m:Addr->LD->LD->Option (LD×D)):Sp:=λC H Q _=>∃Hf j B ys d l dx us b,C=.ref l::b/\aD Hf H/\Hf l=ae/\H l=aa (.ins (G.cl cn) dx (ns.zip us))/\ns.length=us.length/\ay G Hf j b/\ay G Hf B us/\1+j.length=n/\m l j B=aa (ys,d,) /\
 ∀v L H' c a,Ext Hf (dele H l) L H'->L l=ae->H' l=aa (.ins (G.cl cn) c (ns.zip a))->ns.length=a.length->ay G L ys a->Rep G L d v->Q v H'
def eG(N:Nat)(l:Addr)(cn:Str)(ns:Z1)(j B:LD):LS:=(dD N (.non::j)).set 0 (.pino l cn ns B)
open Classical in
def lh(l:Addr)(cn:Str)(ns:Z1)(U:LS):Zs:=match (U[0]?:Option Sl)with
 |some (Sl.pino l' c' n' ys)=>if l'=l/\c'=cn/\n'=ns then aa ys else ae
 | _=>ae
variable{ns:Z1}
def JZ(h:lh l cn ns U=aa ys):U[0]?=aa (.pino l cn ns ys):=by
 unfold lh at h;split at h
 .rename_i e;split at h
  .rename_i q;have(rfl,rfl,rfl):=q;cases h;show e
  .nomatch h
 .nomatch h
def J0(h:U[0]?=aa (.pino l cn ns ys)):lh l cn ns U=aa ys:=by
 unfold lh;rw[h];show if_pos (rfl,rfl,rfl)
abbrev dP(N:Nat)(cn:Str)(ns:Z1)(F:Z3)(l:Addr)(j B:LD):Option (LD×D):=(F (eG N l cn ns j B)).bind λo=>match o with
 |.nx U=>(lh l cn ns U).map λys=>(ys,.non,)
 |.rtS d U=>(lh l cn ns U).map λys=>(ys,d,)
 | _=>ae
variable{ix:Z2}
def aB.startMI{dx:Addr}(b:aD Hf H)(a:Hf l=ae)(c:H l=aa (.ins (G.cl cn) dx (ns.zip us)))(e:ns.length=us.length)(r:ay G Hf j ix)(f:ay G Hf B us):
  aB G Hf (dele H l) Hf H (L2.start N (.ref l::ix)) (eG N.length l cn ns j B):=by
 show(aB.start (JH b a) (.cons (d:=.non) rfl r)).setOwn (i:=0) rfl (Ext.grow (JH b a) JG) zy a (rfl,dx,us,c,e,f)
variable{f:Addr}
def eX(Fn:Fun K x qual st f fd)(S:aP N ps (aH st))
 (h:∀(cdv:Value) (A:cq) (outer:List Env) (s:ak) (H:Hp) (X2:XK),bn k (A.deeper (fE qual (aH st) s.heap.objs.size f cdv))->DSs c (eU CX0 P w K mg base N qual (aH st) f cdv A outer s H X2).nox (gO st) F)(z:N.length=n_<|Zb):
  dA P w K mg base CX0 (k+1) f fd ps (qJ (K,c) cn ns ps.length (dP n_ cn ns F)):=by
 subst z;show Fn.ok S (λC H Q X2 E=>by have(Hf,j,B,ys,d,l,dx,us,ix,y,Y,G,I,J,r,T,hn,_):=E;rw[y,aU,<- r.length];lia) λcdv A outer s H C Q X2 hr E=>?_;have(Hf,j,B,ys,d,l,dx,us,ix,y,Y,G,I,J,r,T,hn,e,M):=E;show(_,h cdv A outer s H X2 hr,?_);subst y;unfold dP at e
 cases u:F _ with
 |none=>rw[u]at e;nomatch e
 |some o=>
  rw[u,aE]at e;show(Hf,dele H l,Hf,_,o,aB.startMI Y G I J r T,u,?_)
  cases o with
  |nx U=>
   replace e:(lh l cn ns U).map _=aa _:=e
   cases b:lh l cn ns U with
   |none=>rw[b]at e;nomatch e
   |some zs=>
    rw[b]at e;cases e;intro σ' L H' _ q;have(l',e1,h0,g,t,a,p,i,m,n):=q.ownAt rfl (JZ b);subst t
    show M .non L H' a p q.ext g i m n rfl
  |rtS d' U=>
   replace e:(lh l cn ns U).map _=aa _:=e
   cases b:lh l cn ns U with
   |none=>rw[b]at e;nomatch e
   |some zs=>
    rw[b]at e;cases e;intro v σ' L H' q r;have(l',e1,h0,g,t,a,p,i,m,n):=q.ownAt rfl (JZ b);subst t
    show M v L H' a p q.ext g i m n r
  | _=>nomatch e
def av(i:Nat)(cn fl:Str)(ns:Z1)(m:Addr->LD->LD->Option (LD×D))(f:Xa):Xe:=λU=>match U[i]? with
 |some (.pino _ c0 n0 _)=>if c0=cn/\n0=ns/\ns.contains fl=ah then (f U).bind λp=>match p.2[i]? with
  |some (.pino l c' n' B)=>if c'=cn/\n'=ns then (m l p.1 B).map λq=>(q.2,p.2.set i (.pino l cn ns q.1),) else ae
  | _=>ae else ae
 | _=>ae
open Classical in
def nQ(i:Nat)(cn fl:Str)(ns:Z1)(m:Addr->LD->LD->Option (LD×D))(f:Xa):Xe:=λU=>match U[i]? with
 |some (.obj c0 n0 _)=>if c0=cn/\n0=ns/\ns.contains fl=ah then (f U).bind λp=>match p.2[i]? with
  |some (.obj c' n' B)=>if c'=cn/\n'=ns then (if h:∃q,∀l,m l p.1 B=aa q then aa (h.choose.2,p.2.set i (.obj cn ns h.choose.1),) else ae) else ae
  | _=>ae else ae
 | _=>ae
variable{m:Addr->LD->LD->Option (LD×D)}
def J1{fl:Str}{Q:VK}{t:TA}(ht:∀J H Q,qG (Gx c X) fa J H Q->t J H Q)(hn:∀U j ρ',fa U=aa (j,ρ',)->1+j.length=ps.length)(q_:tDX (Gx c X) (av i cn fl ns m fa) J H Q):qp (c cn) fl (qJ (Gx c X) cn ns ps.length m) [] E0 (cb i) t J H Q:=by
 have(E,H0,Hf,U,d,ρ',st,a,kq):=q_;unfold av at a;split at a
 .rename_i l0 c0 n0 xs0 w;split at a
  .rename_i y;have(rfl,rfl,I):=y
   cases g:fa U with
   |none=>rw[g]at a;nomatch a
   |some pp=>
    have(j,ρ1):=pp;rw[g,aE]at a;split at a
    .rename_i l c' n' B eo;split at a
     .rename_i z;have(rfl,rfl):=z
      cases p:m l j B with
      |none=>rw[p]at a;nomatch a
      |some q=>
       rw[p]at a;cases a;have(l1,u,_,_,_,dx,us,hu,_,_):=st.ownAt rfl w;show(_,u,l1,dx,n'.zip us,rfl,hu,o9 I,ht _ _ _ (E,H0,Hf,U,j,ρ1,st,g,λC L H' f1 b r=>?_));rw[bZ];have(l2,e,h02,A,x,n,us2,M,T,rx2):=b.ownAt rfl eo;subst x;rw[u]at e;cases e;show(L,j,B,q.1,q.2,l1,n,us2,C,rfl,b.sub,A,M,T,r,rx2,hn _ _ _ g,p,λv h H3 o us3 x3 G N Y rx3 r3=>kq v h H3 (f1.trans x3.f) (b.back rfl rfl eo u x3 G (rfl,o,us3,N,Y,rx3)) r3)
     .nomatch a
    .nomatch a
  .nomatch a
 .nomatch a
def So{fl:Str}{Q:VK}{t:TA}(ht:∀J H Q,qG (Gx c X) fa J H Q->t J H Q)(hn:∀U j ρ',fa U=aa (j,ρ',)->1+j.length=ps.length)(q_:tDX (Gx c X) (nQ i cn fl ns m fa) J H Q):qp (c cn) fl (qJ (Gx c X) cn ns ps.length m) [] E0 (cb i) t J H Q:=by
 have(E,H0,Hf,U,d,ρ',st,a,kq):=q_;unfold nQ at a;split at a
 .rename_i c0 n0 xs0 p;split at a
  .rename_i u;have(rfl,rfl,z):=u
   cases g:fa U with
   |none=>rw[g]at a;nomatch a
   |some pp=>
    have(j,ρ1):=pp;rw[g,aE]at a;split at a
    .rename_i c' n' B eo;split at a
     .rename_i w;have(rfl,rfl):=w;split at a
      .rename_i hq;have e2:=hq.choose_spec;generalize hq.choose=q at a e2;cases a;have(N,o,_,_,dx,us,hu,_,_):=st.ownAt rfl p;show(_,o,N,dx,n'.zip us,rfl,hu,o9 z,ht _ _ _ (E,H0,Hf,U,j,ρ1,st,g,λC L H' f1 b r=>?_));rw[bZ];have(l2,e,h02,x,l,us2,A,I,T):=b.ownAt rfl eo;rw[o]at e;cases e;show(L,j,B,q.1,q.2,N,l,us2,C,rfl,b.sub,x,A,I,r,T,hn _ _ _ g,e2 N,λv h H3 n us3 x3 y G M Y r3=>kq v h H3 (f1.trans x3.f) (b.back rfl rfl eo o x3 y (n,us3,G,M,Y)) r3)
      .nomatch a
     .nomatch a
    .nomatch a
  .nomatch a
 .nomatch a
variable{apos:Pos}{pl:Sem Bool}
def bL{fl:Str}(n:PE X o (cb i))(pk:Pm X.prog X.w X.K X.mg X.base CX0 k (c cn) fl (f,fd,) ps (qJ (Gx c X) cn ns ps.length m))(g:bn k0 X.A)(ha:DAX c X (e::es) fa)(r:((e::es).length+1=ps.length)<|Zb)(l:StE X e es<|Zb)(d:BkE X pos es<|Zb)(p:(eval (.Call (.Attribute o fl apos) (e::es) [] pos) X.env=(do
   let ov <- eval o X.env
   gY apos.atName
   let (f,first,) <- fX [ov] (jS ov fl pl)
   lH pos f first (cD pos (ba (e::es) X.env)) (gM pos (gL [] X.env))))<|Zb)(a:k<=k0<|Zc):
  DX c X (.Call (.Attribute o fl apos) (e::es) [] pos) (av i cn fl ns m fa):=PE.imp (Ds n pk.c pk.m pk.ok (g.mono a) pk.b .nil jv ha.pa l d p) λJ H Q q=>J1 (λ_ _ _ h=>h) (λU j ρ' h=>by have:=ha.len U j ρ' h;lia) q
def aK{fl:Str}(n:PE X o (cb i))(pk:Pm X.prog X.w X.K X.mg X.base CX0 k (c cn) fl (f,fd,) ps (qJ (Gx c X) cn ns ps.length m))(d:bn k0 X.A)(l:1=ps.length<|Zb)(p:(eval (.Call (.Attribute o fl apos) [] [] pos) X.env=(do
   let ov <- eval o X.env
   gY apos.atName
   let (f,first,) <- fX [ov] (jS ov fl pl)
   lH pos f first (cD pos (ba [] X.env)) (gM pos (gL [] X.env))))<|Zb)(a:k<=k0<|Zc):
  DX c X (.Call (.Attribute o fl apos) [] [] pos) (av i cn fl ns m aj):=PE.imp (ve n pk.c pk.m pk.ok (d.mono a) pk.b .nil jv p) λJ H Q e=>J1 (λJ H Q e=>by have(E,H0,Hf,U,j,ρ',st,g,k):=e;cases g;show k [] Hf H (aD.refl _) st rfl) (λU j ρ' h=>by cases h;show l) e
def Em{fl:Str}(n:PE X o (cb i))(pk:Pm X.prog X.w X.K X.mg X.base CX0 k (c cn) fl (f,fd,) ps (qJ (Gx c X) cn ns ps.length m))(d:bn k0 X.A)(l:1=ps.length<|Zb)(p:(eval (.Call (.Attribute o fl apos) [] [] pos) X.env=(do
   let ov <- eval o X.env
   gY apos.atName
   let (f,first,) <- fX [ov] (jS ov fl pl)
   lH pos f first (cD pos (ba [] X.env)) (gM pos (gL [] X.env))))<|Zb)(a:k<=k0<|Zc):
  DX c X (.Call (.Attribute o fl apos) [] [] pos) (nQ i cn fl ns m aj):=PE.imp (ve n pk.c pk.m pk.ok (d.mono a) pk.b .nil jv p) λJ H Q e=>So (λJ H Q e=>by have(E,H0,Hf,U,j,ρ',st,g,k):=e;cases g;show k [] Hf H (aD.refl _) st rfl) (λU j ρ' h=>by cases h;show l) e
def lZ(i:Nat)(cn fl:Str)(U:LS):OD:=match U[i]? with
 |some (.pino _ c' ns B)=>if c'=cn then (ns.zip B).lookup fl else ae
 | _=>ae
def qK{fl:Str}(cn:Str)(j:Cls X.K (c cn))(hn:ig X.K (c cn) fl)(m:PE X o (cb i))(h:jR o fl X.env (eval o X.env)=eval o X.env<|Zb):DE c X (.Attribute o fl pos) (lZ i cn fl):=PE.imp (Dk m h) λJ H Q p=>by
 have(E,H0,Hf,U,d,st,a,k):=p;unfold lZ at a;split at a
 .rename_i t c' ns B f;split at a
  .rename_i b;subst b;have(l,e,_,_,_,dx,us,n,_,r):=st.ownAt rfl f;have(u,g,q):=zh a r;show(_,e,l,c c',dx,ns.zip us,u,rfl,n,j,hn,g,k u Hf H (Ext.refl st.sub) q)
  .nomatch a
 .nomatch a
abbrev mI{a:Type}(f:Str)(v:a):Z1->List a->List a
 |n::ns,x::B=>if n=f then v::B else x::mI f v ns B
 | _,B=>B
def J2{a:Type}(f:Str)(v:a):∀(ns:Z1) (B:List a),(mI f v ns B).length=B.length
 | [],_=>rfl
 | _::_,[]=>rfl
 |n::ns,x::B=>by
  unfold mI;split
  .rfl
  .rw[aU,J2 f v ns B,aU]
def J3{f:Str}{v:V}:∀{ns:Z1} {us:Z2},ns.length=us.length->ns.contains f=ac->d8 f v (ns.zip us)=ns.zip (mI f v ns us)
 | [],_,_,h=>by cases h
 | _::_,[],hl,_=>by cases hl
 |n::ns,u::us,hl,h=>by
  rw[jO];unfold d8 mI
  by_cases e:n=f
  .rw[if_pos e,if_pos e,jO]
  .rw[if_neg e,if_neg e,jO]
   have a:ns.contains f=ac:=by
    rw[uR,gW]at h
    rcases h with h |h
    .show absurd (eq_of_beq h).symm e
    .show h
   rw[J3 (by simpa using hl) a]
def J4{G:Gc}{H:Hp}{f:Str}{d:D}{v:V}(b:Rep G H d v):∀{ns:Z1} {j:LD} {us:Z2},ay G H j us->ay G H (mI f d ns j) (mI f v ns us)
 | [],_,_,r=>by
  show r
 |n::ns,[],us,r=>by cases (show us=[]from r);show r
 |n::ns,x::j,us,r=>by
  have(u,r',rfl,c,a):=r;unfold mI
  by_cases e:n=f
  .rw[if_pos e,if_pos e];show .cons b a
  .rw[if_neg e,if_neg e];show .cons c (J4 b a)
def vS(i:Nat)(cn fl:Str)(f:Z4)(U:LS):Option Fl:=match U[i]? with
 |some (.pino l c' ns B)=>if c'=cn/\ns.contains fl=ac/\ns.length<1000 then ((ns.zip B).lookup fl).bind λx=>(f U).bind λy=>(Eh x y).map λz=>.nx (U.set i (.pino l cn ns (mI fl z ns B))) else ae
 | _=>ae
def J7{fl:Str}{p:Z4}{d:Pos}(cn:Str)(Y:Cls X.K (c cn))(hn:ig X.K (c cn) fl)(ho:PE X o (cb i))(he:DE c X e p):DS c X (.AugAssign (.Attribute o fl d) .Add e pos) (vS i cn fl p):=PS.imp (P6 ho he (λM s J H x y u v Q I g ry h=>R1 M s J H x y u v Q I g ry h)) λX2 J H q_=>by
 have(E,H0,Hf,U,o,t,a,k):=q_;unfold vS at a;split at a
 .rename_i l0 c' ns B C;split at a
  .rename_i q;have(rfl,r,hlt):=q
   cases j:(ns.zip B).lookup fl with
   |none=>rw[j]at a;nomatch a
   |some x=>
    rw[j,aE]at a
    cases m:p U with
    |none=>rw[m]at a;nomatch a
    |some y=>
     rw[m,aE]at a
     cases n:Eh x y with
     |none=>rw[n]at a;nomatch a
     |some z=>
      rw[n]at a;cases a;have(l,A,h0,hf,N,dx,us,G,L,g):=t.ownAt rfl C;subst N;have(u,T,ru):=zh j g;show(_,A,l,c c',dx,ns.zip us,u,rfl,G,Y,hn,T,E,H0,Hf,U,y,t,m,λv2 a8 H1 w r1=>(a8,x,y,z,w.s,ru.up w.f,r1,n,λv3 a9 H2 x2 r2=>?_));have b:=w.trans x2;show(dx,ns.zip us,b.h _ _ G,?_,k J a9 _ b.f ((t.step b).mutd rfl rfl C A (rfl,dx,mI fl v3 ns us,?_,?_,J4 r2 (g.up b.f))))
      .rw[length_zip];lia
      .rw[ca,J3 L r]
      .rw[J2];show L
  .nomatch a
 .nomatch a
def gz:DS c X st (λ_=>ae):=λM s J H X2 I b=>by
 have(E,H0,Hf,U,o,d,a,k):=b
 nomatch a
def ji(t:Xt)(f g:Xe):Xe:=λU=>(t U).bind λp=>if p.1 then f p.2 else g p.2
def cA(f:Xe):Xt:=λU=>(f U).bind λp=>(qt p.1).map λb=>(b,p.2,)
def nR(t:Xt):Xt:=λU=>(t U).map λp=>(!p.1,p.2,)
abbrev gf(t:Xt)(F:Z3):Nat->Z3
 | 0,_=>ae
 |n+1,U=>(t U).bind λp=>if p.1 then (F p.2).bind λo=>match o with
   |.nx a=>gf t F n a
   |.ct a=>gf t F n a
   |.bk a=>aa (.nx a)
   |o=>aa o
  else aa (.nx p.2)
def jj(i:Nat)(f:Xe)(U:LS):Option Fl:=(f U).map λp=>.nx (p.2.set i (.own [p.1]))
variable{t:Xt}{f:Xe}
def qL{g:Xe}(m:DTX c X cd t)(ha:DX c X a f)(l:DX c X b g):DX c X (.IfExp cd a b pos) (ji t f g):=PE.imp (yC m ha l) λJ H Q n=>by
 have(E,H0,Hf,U,d,ρ',o,h,k):=n;unfold ji at h
 cases j:t U with
 |none=>rw[j]at h;nomatch h
 |some x=>
  have(x,ρ1):=x;rw[j,aE]at h;show(E,H0,Hf,U,x,ρ1,o,j,λa8 H1 s1 i=>?_)
  cases x with
  |true=>rw[if_pos rfl];show(E,H0,a8,ρ1,d,ρ',i,h,λv a9 H2 s2 e r=>k v a9 H2 (s1.trans s2) e r)
  |false=>rw[if_neg c6];show(E,H0,a8,ρ1,d,ρ',i,h,λv a9 H2 s2 e r=>k v a9 H2 (s1.trans s2) e r)
def eI(ha:DX c X a f)(j:(∀b,isTrue a X.env b=(do let v <- b;gY a.pos;fX [v] (truthy v)))<|Zd):DTX c X a (cA f):=PT.imp (Ib ha j) λJ H Q l=>by
 have(E,H0,Hf,U,n,ρ',m,e,k):=l;unfold cA at e
 cases h:f U with
 |none=>rw[h]at e;nomatch e
 |some x=>
  have(d,ρ1):=x;rw[h,aE]at e
  cases i:qt d with
  |none=>rw[i]at e;nomatch e
  |some y=>
   rw[i]at e;cases e;show(E,H0,Hf,U,d,_,m,h,λv L H' s1 g r=>(_,DN i (r.up g.sub),k L H' s1 g))
def J8(h:DTX c X a t):DTX c X (.UnaryOp .Not a pos) (nR t):=PT.imp (HG h) λJ H Q f=>by
 have(E,H0,Hf,U,i,ρ',g,b,k):=f;unfold nR at b
 cases d:t U with
 |none=>rw[d]at b;nomatch b
 |some x=>
  rw[d]at b;cases b;show(E,H0,Hf,U,x.1,x.2,g,d,λL H' s1 e=>k L H' s1 e)
def qM(n:Nat)(hp:kJ (model X.prog X.w) X.A X.env X.xe)(z:DTX c X cd t)(y:DSs c X as F):DS c X (.While cd as [] pos) (gf t F n):=PS.imp (HL hp z y) λX2 J H B=>by
 have(E,H0,Hf,U,o,C,v,k):=B;show(λm σ' H'=>∃L ρ',aB _ E H0 L H' σ' ρ'/\aD Hf L/\gf t F m ρ'=aa o,(n,Hf,U,C,aD.refl _,v),?_);rintro m σ' H' ⟨L,ρ',r,s1,em⟩
 cases m with
 |zero=>nomatch em
 |succ m=>
  unfold gf at em
  cases q:t ρ' with
  |none=>rw[q]at em;nomatch em
  |some x=>
   have(x,ρ1):=x;rw[q,aE]at em;show(E,H0,L,ρ',x,ρ1,r,q,λa9 H2 f2 h=>?_);have j:=s1.trans f2
   cases x with
   |false=>
    cases em
    show k σ' a9 H2 j h
   |true=>
    cases p:F ρ1 with
    |none=>rw[p]at em;nomatch em
    |some o1=>
     rw[p]at em;show(λi u=>∃L ρ',aB _ E H0 L u i ρ'/\aD Hf L/\gf t F m ρ'=aa o,λi u w=>(m,jr _,w),E,H0,a9,ρ1,o1,h,p,?_)
     cases o1 with
     |nx e=>show λf a l g b=>(a,e,b,j.trans g,em)
     |ct e=>show λf a l g b=>(a,e,b,j.trans g,em)
     |bk e=>cases em;show λf a l g b=>k f a l (j.trans g) b
     |rt d=>cases em;show k
     |rtO d=>cases em;show k
     |rtS d e=>cases em;show k
     |rtT o'=>cases em;show k
def mJ(i:Nat)(j:X.N.Nodup)(l:DX c X e f)(hi:X.N[i]?=aa x<|Zb)(hx:Loc X.env.scope x<|Ze)(n:dz (.List [e] pos) (aa (.Name x b9)) da.line X.env=pure ah<|Zb)(h:(ba [e] X.env=(ah,eval e X.env,)::ba [] X.env)<|Zb)(m:LcF X x<|Zf):
  DS c X (.Assign [.Name x b9] (.List [e] pos) da) (jj i f):=PS.imp (qk j hi hx (yK (bD l bM h)) n m) λX2 J H t=>by
 have(E,H0,Hf,U,o,u,b,k):=t;unfold jj at b
 cases d:f U with
 |none=>rw[d]at b;nomatch b
 |some p=>
  rw[d]at b;cases b;show(E,H0,Hf,U,p.1,p.2,u,d,λv L H' s a r=>((by rw[fc];change 1<=16777216;decide),λq g=>(k _ L _ s (a.setOwn rfl (Ext.grow a.sub (dC g)) g (a.sub.free g) ([v],ca,.cons r .nil)))))
def tG(i:Nat)(cn:Str)(m:LD->Option (Z1×LD))(fa:Z6)(U:LS):Option Fl:=(fa U).bind λas=>(m as).map λr=>.nx (U.set i (.obj cn r.1 r.2))
variable{f:Addr}{fa:Z6}
def Ka(i:Nat){m:LD->Option (Z1×LD)}(cn:Str)(hN:X.N.Nodup)(X0:Mk X.K (c cn) f)(F:dA X.prog X.w X.K X.mg X.base CX0 k f fd ps (spI (Gx c X) cn ps.length m))(hr:bn (k+1) X.A)(hg:Gl X x)(hm:X.mg x=aa (.ref (c cn)))(hb:fN X.K fd ps [])(ha:DA c X (e::es) fa)(hi:X.N[i]?=aa z<|Zb)(hx:Loc X.env.scope z<|Ze)
 (hl:((e::es).length+1=ps.length)<|Zb)(I:NDb x<|Zc)(he:StE X e es<|Zb)(T:BkE X pos es<|Zb)
 (hs:(dz (.Call (.Name x p) (e::es) [] pos) (aa (.Name z b9)) da.line X.env=pure ah)<|Zb)(Q:X.fn z=ac\/X.env.scope.names.lookup z=aa .local<|Zf):
  DS c X (.Assign [.Name z b9] (.Call (.Name x p) (e::es) [] pos) da) (tG i cn m fa):=PS.imp (qk hN hi hx (Qc X0 F hr hg hm hb .nil jv ha.pa I he T) hs Q) λX2 J H q_=>by
 have(E,H0,Hf,U,o,st,a,kq):=q_;unfold tG at a
 cases j:fa U with
 |none=>rw[j]at a;nomatch a
 |some as=>
  rw[j,aE]at a
  cases G:m as with
  |none=>rw[G]at a;nomatch a
  |some r=>
   rw[G]at a;cases a;show(E,H0,Hf,U,as,st,j,λC L H' g rv y dx v ndx nex=>?_);rw[bZ];have hy:(upd H' dx (.own y)) y=ae:=by rw[bJ nex.symm];show v
   have s1:aD H' (upd H' dx (.own y)):=dC ndx;have s2:=s1.trans (dC (o:=.ins (c cn) dx []) hy)
   have s3:aD H' (del _ y):=λb u q=>by
    have:=ic q v;rw[Jp this];show s2 b u q
   show(y,dx,L,as,C,r,rfl,ca,g.s.free v,g.s.trans s2,rv,by rw[ha.len U as j];show hl,G,λus a9 H2 B M Y d r2=>(rfl,?_));have x3:Ext L H' a9 H2:=(B.f,s3.trans B.h,B.s,λl u q t=>B.n l u (s3 l u q) t);show kq _ a9 H2 (g.trans x3).f (st.setOwn rfl (g.trans x3) (g.h.free v) M (dx,us,Y,d,r2))
abbrev zV(K:bf)(H:Hp):Z2->List Key->Z2->Prop
 | [],[],[]=>True
 |v::C,k::ks,u::us=>(∃t,v=.ref t/\SqT K H t [kV k,u])/\zV K H C ks us
 | _,_,_=>False
def zV.len{K:bf}{H:Hp}:∀{C:Z2} {ks:List Key} {us:Z2},zV K H C ks us->C.length=ks.length/\us.length=ks.length
 | [],[],[],_=>(rfl,rfl)
 | _::_,_::_,_::_,h=>by
  have(a,b):=zV.len h.2
  show(by rw[aU,aU,a],by rw[aU,aU,b])
 | [],[],_::_,h=>h.elim
 | [],_::_,_,h=>h.elim
 | _::_,[],_,h=>h.elim
 | _::_,_::_,[],h=>h.elim
section
variable(k:Nat)(js:LN)(jp t:Nat)(g:D->LS->Option LS)(fe:Xe)(U:LS)(l:Addr)
end
abbrev j7:LD->Option Z1
 | []=>aa []
 |.str x::j=>(j7 j).map (x::·)
 | _=>ae
def En:∀{j:LD} {zs:Z1},j7 j=aa zs->j=zs.map D.str
 | [],zs,h=>by cases h;rfl
 |d::j,zs,h=>by
  cases d with
  |str x=>
   have h:(j7 j).map _=aa zs:=h
   cases e:j7 j with
   |none=>rw[e]at h;cases h
   |some ys=>rw[e]at h;cases h;rw[En e];rfl
  | _=>cases h
def Kb:∀zs:Z1,j7 (zs.map D.str)=aa zs
 | []=>rfl
 |z::zs=>by
  change(j7 _).map _=_;rw[Kb zs];rfl
def g9(x y:D):OD:=match x with
 |.str a=>(lsD y).bind λj=>(j7 j).bind λzs=>if PySem.JoinOk a zs=ac then aa (.str (CV a zs)) else ae
 | _=>ae
def Kc{G:Gc}{H:Hp}:∀(zs:Z1) (C:Z2),ay G H (zs.map D.str) C->C=zs.map V.str
 | [],_,h=>h
 |z::zs,_,(v,r,e,h1,h2)=>by rw[e,Kc zs r h2,show v=V.str z from h1];rfl
def zW{m:D->D->OD}{f g:Xe}(t:OpD c X (dR op) m)(ha:DX c X a f)(r:DX c X b g)(hm:oJ op b=ah<|Zm):DX c X (.Compare a [op] [b] pos) (mX2 m f g):=PE.imp (HV t ha r hm) λJ H Q z=>by
 have(E,H0,Hf,U,d,ρ',st,q,k):=z;have(x,y,ρ1,n,o,p):=JP q;show(E,H0,Hf,U,x,ρ1,st,n,λv a8 H1 f1 i A=>(E,H0,a8,ρ1,y,ρ',i,o,λu a9 H2 f2 e B=>(a9,x,y,d,e.sub,A.up f2,B,p,λw h l j C=>k w h l ((f1.trans f2).trans j.f) (e.step j) C)))
abbrev Ke(K:bf):V->Z2->Hp->VK->Prop:=λx C H Q=>∃a l zs,x=.str a/\C=[.ref l]/\SqL K H l (zs.map V.str)/\PySem.JoinOk a zs=ac/\Q (.str (CV a zs)) H
def Kf:∀(zs:Z1) (its:Z5),aQ (zs.map V.str) its->∃l:List (Str×Tok),its=sv l/\l.map (·.1)=zs
 | [],_,r=>by cases r;show([],rfl,rfl)
 |z::zs,_,r=>by
  cases r with
  |cons a b=>
   have(t,rfl):=a;have(l,c,d):=Kf zs _ b;show((z,t,)::l,by rw[c];rfl,by rw[eR,d])
def mK:MtR X "str.join" (Ke X.K):=by
 rintro M s J H x B v us Q I h g ⟨a,l,zs,rfl,rfl,d,c,q⟩;have(t,rfl):=h;have(u,rfl,f):=g.one;subst f;have(its,e,pl,_):=I.list d;have(i,rfl,b):=Kf zs its e;show SC.join pl.isList b c λt' k=>(.str _,H,I.tok k,(t',rfl),q)
def mL{f g:Z4}(h:PE X e (tBM X.K "str" (Ke X.K) (tD (Gx c X) f) (nC (tD (Gx c X) g) lQ))):DE c X e (m2 g9 f g):=PE.imp h λJ H Q A=>by
 have(E,H0,Hf,U,d,st,t,k):=A;have(x,y,p,r,b):=vq t;unfold g9 at b;split at b
 .rename_i a
  cases i:lsD y with
  |none=>rw[i]at b;nomatch b
  |some j=>
   rw[i,aE]at b
   cases m:j7 j with
   |none=>rw[m]at b;nomatch b
   |some zs=>
    rw[m,aE]at b;split at b
    .rename_i z;cases b;show(E,H0,Hf,U,_,st,p,λv a8 H1 n B=>?_);cases (B);show(rfl,E,H0,a8,U,_,st.step n,r,λu a9 H2 o G=>?_);have(l,C,w,q,rs):=sS i G;rw[En m]at rs;rw[Kc zs C rs]at q;show(a,l,zs,rfl,by rw[w],o.s.seq q,z,k _ a9 H2 (n.trans o) rfl)
    .nomatch b
 .nomatch b
abbrev Eo:D->Option Str
 |.str z=>if z.length<=16777216 then aa z else ae
 |.int i=>if i.natAbs.log2<1920 then aa (nA i) else ae
 | _=>ae
def iu(out:Str)(zs:Z1):Str:=zs.foldl (·++·) out
def zX:∀(zs:Z1) (out:Str),out.length<=(iu out zs).length
 | [],_=>bu _
 |z::zs,out=>by
  have:=zX zs (out++z);rw[oO]at this;change out.length<=(iu (out++z) zs).length;lia
def DFs(c:Str->Addr)(X:Cx)(es:Zq)(f:LS->Option Z1):Prop:=∀(M:Z8) (s:ak) (J:St) (H:Hp) (Q:VK) (out:Str),Inv X M J H s ->
 (∃E H0 Hf U zs,aB (Gx c X) E H0 Hf H J U/\f U=aa zs/\(iu out zs).length<=16777216/\∀L H',Ext Hf H L H'->Q (.str (iu out zs)) H')->wpAny (model X.prog X.w) X.A (joinParts out (evalEach es X.env)) (EP X M J Q) X.xe s
def mFc(x:Str)(g:LS->Option Z1)(U:LS):Option Z1:=(g U).map (x::·)
def mFv(f:Z4)(g:LS->Option Z1)(U:LS):Option Z1:=(f U).bind λd=>(Eo d).bind λz=>(g U).map (z::·)
def mFs(f:LS->Option Z1)(U:LS):OD:=(f U).bind λzs=>if (iu iX zs).length<=16777216 then aa (.str (iu iX zs)) else ae
def j8:DFs c X [] nZ:=λM s J H Q out I d=>by
 have(E,H0,Hf,U,zs,st,a,b,k):=d
 show (by
 cases a;show joinParts_nil (.str out,H,I.tok _,(_,rfl),k Hf H (Ext.refl st.sub)) (by rw[fc];show b))
variable{g:LS->Option Z1}
def gS(e:DFs c X es g):DFs c X (.Constant (.str x) X6 pos::es) (mFc x g):=λM s J H Q out I h=>by
 have(E,H0,Hf,U,zs,st,a,f,k):=h
 show (by
 unfold mFc at a
 cases b:g U with
 |none=>rw[b]at a;nomatch a
 |some ys=>
  rw[b]at a;cases a;have i:=zX ys (out++x);have d:(iu (out++x) ys).length<=16777216:=f;show si (oK (by rw[fc];lia,(e M _ J H Q _ (I.tok _) (E,H0,Hf,U,ys,st,b,d,k)))))
def Sq{u:Value}{Q:Z9}(e:Eo d=aa z)(r:Rep G Hf d v)(c:bc v u)(k:∀t g,Q (.str z t) {s with toks:=g}):wpAny (model prog w) A (formatField u iX) Q X2 s:=by
 cases d with
 |str y=>
  replace e:(if y.length<=16777216 then aa y else ae)=aa z:=e;split at e
  .rename_i f;have b:=cp e;subst b;subst r;have(t,a):=c;subst a;show formatField_str k (by rw[fc];show f)
  .nomatch e
 |int n=>
  replace e:(if n.natAbs.log2<1920 then aa _ else ae)=aa z:=e;split at e
  .rename_i hn;have b:=cp e;subst b;subst r;have(t,a):=c;subst a;show formatField_int_small hn (k _ _)
  .nomatch e
 | _=>nomatch e
def j9{f:Z4}(o:DE c X e f)(p:DFs c X es g):DFs c X (.FormattedValue e (-1) ae pos::es) (mFv f g):=λM s J H Q out I w=>by
 have(E,H0,Hf,U,zs,st,a,q,k):=w
 show (by
 unfold mFv at a
 cases b:f U with
 |none=>rw[b]at a;nomatch a
 |some d=>
  rw[b,aE]at a
  cases h:Eo d with
  |none=>rw[h]at a;nomatch a
  |some z=>
   rw[h,aE]at a
   cases i:g U with
   |none=>rw[i]at a;nomatch a
   |some ys=>
    rw[i]at a;cases a;have B:=zX ys (out++z);have m:(iu (out++z) ys).length<=16777216:=q;have n:(out++z).length<=be:=by rw[fc];lia
    show si (FormattedValue_plain ?_);show thn (o M s J H (λv H'=>∃L,Ext Hf H L H'/\Rep _ L d v) I (E,H0,Hf,U,d,st,b,λv L H' x r=>(L,x,r))) λu s1 (v,H1,l,y,a8,j,rd)=>(Sq h rd y λt A=>(n,p M _ J H1 Q _ (l.tok A) (E,H0,a8,U,ys,st.step j,i,m,λL H' x=>k L H' (j.trans x)))))
def ka{f:LS->Option Z1}(h:DFs c X (a::b::es) f):DE c X (.JoinedStr (a::b::es) pos) (mFs f):=λM s J H Q I j=>by
 have(E,H0,Hf,U,d,st,e,k):=j
 show (by
 unfold mFs at e
 cases g:f U with
 |none=>rw[g]at e;nomatch e
 |some zs=>
  rw[g,aE]at e;split at e
  .rename_i i;cases e;show JoinedStr_many (h M s J H Q iX I (E,H0,Hf,U,zs,st,g,i,λL H' x=>k _ L H' x rfl))
  .nomatch e)
structure Foc(G:Gc)(Hf H:Hp)(o:O)(v:V)(fp:Z7)(o1:O)(v1:V)(f1:Z7)(R:O->O):Prop where
 r:OT G Hf H o1 v1 f1
 n:f1.Nodup
 sub:∀a∈f1,a∈fp
 back:∀(L H':Hp) (o2:O) (f2:Z7),aD Hf L->(∀b u,H b=aa u->b∉f1->H' b=aa u)->OT G L H' o2 v1 f2 ->
  ∃fp',OT G L H' (R o2) v fp'/\(∀a∈fp',a∈f2\/(a∈fp/\a∉f1))/\(f2.Nodup->(∀a∈f2,a∈fp->a∈f1)->fp'.Nodup)
variable{o:O}
def Foc.refl(h:OT G Hf H o v fp)(n:fp.Nodup):Foc G Hf H o v fp o v fp id:=
 (h,n,λ_ h=>h,λ_ _ _ f2 _ _ q=>(f2,q,λ_ h=>.inl h,λn _=>n))
variable{o1 o2:O}{v1:V}{f1 f2:Z7}{R R':O->O}
def Foc.trans{g:V}(F:Foc G Hf H o v fp o1 v1 f1 R)(F':Foc G Hf H o1 v1 f1 o2 g f2 R'):Foc G Hf H o v fp o2 g f2 (λx=>R (R' x)):=by
 show(F'.r,F'.n,λa h=>F.sub a (F'.sub a h),λL H' p i s k h=>?_);have(d,q,m1,j):=F'.back L H' p i s k h;have(fp',t,m2,l):=F.back L H' _ d s (λb u e c=>k b u e λz=>c (F'.sub b z)) q;show(fp',t,λa ha=>?_,λm f=>l (j m λa ha c=>f a ha (F.sub a c)) λa ha c=>?_)
 .rcases m2 a ha with z |⟨z,z'⟩
  .rcases m1 a z with y |⟨y,y'⟩
   .show .inl y
   .show .inr (F.sub a y,y')
  .show .inr (z,λy=>z' (F'.sub a y))
 .rcases m1 a ha with y |⟨y,_⟩
  .show F'.sub a (f a y c)
  .show y
variable{u:HO}
def vT{f:Z7}(h:OT G Hf H o v f){b:Addr}(e:H b=aa u)(t:gv u=ac):b∉f:=λz=>by
 have(d,c,a):=OT.memM o v f h b z
 grind
def OTs.foc:∀{os:List O} {C:Z2} {fp:Z7} {k:Nat} {o1:O},OTs G Hf H os C fp->fp.Nodup->os[k]?=aa o1->∃v1 f1,C[k]?=aa v1/\OT G Hf H o1 v1 f1/\f1.Nodup/\(∀a∈f1,a∈fp) /\
  ∀(L H':Hp) (o2:O) (d:V) (f2:Z7),aD Hf L->(∀b u,H b=aa u->(gv u=ac\/b∈fp)->b∉f1->H' b=aa u)->OT G L H' o2 d f2 ->
  ∃fp',OTs G L H' (os.set k o2) (C.set k d) fp'/\(∀a∈fp',a∈f2\/(a∈fp/\a∉f1))/\(f2.Nodup->(∀a∈f2,a∈fp->a∈f1)->fp'.Nodup)
 | [],_,_,_,_,_,_,e=>by simp at e
 |o::os,_,_,0,o1,q5_,n,e'=>by
  have(v,r,f1,g,e,i,p,m):=q5_;cases e';subst e m;have(w,x,dj):=jP.mp n;show(v,f1,rfl,i,w,λa ha=>fK _ ha,λL H' o2 d f2 s k h=>(f2++g,?_,λa ha=>?_,λA j=>(jP.mpr (A,x,λa ha b c z=>by subst z;show dj a (j a ha (bY _ c)) a c rfl))))
  .simp only[set_cons_zero,set_cons_zero];show(d,r,f2,g,rfl,h,OTs.frameM s os r g p λb u c hm=>k b u c (hm.imp_right λy=>bY _ y) λz=>?_,rfl)
   rcases hm with t |t
   .show vT i c t z
   .show dj b z b t rfl
  .rcases cW.mp ha with z |z
   .show .inl z
   .show .inr (bY _ z,λy=>dj a y a z rfl)
 |o::os,_,_,k+1,o1,q5_,n,e'=>by
  have(v,r,f,g,e,i,p,m):=q5_;subst e m;have(w,x,dj):=jP.mp n;have(v1,f1,E,q,J,l,bk):=OTs.foc p x e';show(v1,f1,by simp only[x0];show E,q,J,λa ha=>bY _ (l a ha),λL H' o2 d f2 s k h=>?_);have(B,r',m',I):=bk L H' o2 d f2 s (λb u c hm=>k b u c (hm.imp_right λy=>bY _ y)) h;show(f++B,?_,λa ha=>?_,λA j=>?_)
  .simp only[x8,x8];show(v,_,f,B,rfl,i.frame s λb u c hm=>k b u c (hm.imp_right λy=>fK _ y) λz=>?_,r',rfl)
   rcases hm with t |t
   .show vT q c t z
   .show dj b t b (l b z) rfl
  .rcases cW.mp ha with z |z
   .show .inr (fK _ z,λy=>dj a z a (l a y) rfl)
   .rcases m' a z with y |⟨y,y'⟩
    .show .inl y
    .show .inr (bY _ y,y')
  .show jP.mpr (w,I A λa ha c=>j a ha (bY _ c),λa ha b c z=>?_);subst z
   rcases m' a c with y |⟨y,_⟩
   .show dj a ha a (l a (j a y (fK _ ha))) rfl
   .show dj a ha a y rfl
def pj{b:Type}:∀{l:List b} {k:Nat} {x:b},l[k]?=aa x->l.set k x=l
 | [],_,_,e=>by simp at e
 | _::_,0,_,e=>by simp at e;subst e;rfl
 |a::l,k+1,x,e=>by rw[x0]at e;rw[x8,pj e]
variable{a:Addr}
def Foc.root{W:List O->O}(ha:H a=aa u)(w:gv u=ah)(rs:OTs G Hf H os C fs)(n:(a::fs).Nodup)(e:os[k]?=aa o1)
 (mk:∀L H' f c,H' a=aa u->OTs G L H' f C c->f.length=os.length->OT G L H' (W f) (.ref a) (a::c)):∃v1 f1,C[k]?=aa v1/\Foc G Hf H o (.ref a) (a::fs) o1 v1 f1 (λx=>W (os.set k x)):=by
 have(g,t):=f9.mp n;have(v1,f1,l,q,v,i,bk):=rs.foc t e;show(v1,f1,l,q,v,λb d=>bx _ (i b d),λL H' o2 f2 s k' h=>?_);have(c,r',m',r):=bk L H' o2 v1 f2 s (λb u d _=>k' b u d) h;rw[pj l]at r';show(a::c,mk L H' _ c (k' a u ha λz=>g (i a z)) r' (by simp),λb d=>?_,λj m=>f9.mpr (λz=>?_,r j λb d p=>m b d (bx _ p)))
 .rcases bw.mp d with z |z
  .subst z;show .inr (bi,λy=>g (i b y))
  .rcases m' b z with y |⟨y,y'⟩
   .show .inl y
   .show .inr (bx _ y,y')
 .rcases m' a z with y |⟨y,_⟩
  .show g (i a (m a y bi))
  .show g y
def Foc.at(h:OT G Hf H (.at l o) v fp)(n:fp.Nodup):Foc G Hf H (.at l o) v fp o v fp (.at l):=
 (h.2,n,λ_ h=>h,λ_ _ _ f2 _ _ q=>(f2,(h.1,q),λ_ h=>.inl h,λn _=>n))
def aB.foc(m:aB G E H0 Hf H J U)(es:U[i]?=aa (.deep o))(q:J[i]?=aa (aa v))(r:OT G L H1 o v fp)(x:Ext Hf H L H1)(F:Foc G L H1 o v fp o1 v1 f1 R)
 (kk:∀b u,H1 b=aa u->b∉f1->H2 b=aa u)(new:OT G L H2 o2 v1 f2)(I:f2.Nodup)(A:∀a∈f2,a∈f1\/(H a=ae/\L a=ae)):aB G E H0 L H2 J (U.set i (.deep (R o2))):=by
 have(M,g,B,d,n,z):=(m.at' i _ _ q es);cases B;have:=OT.funM o v fp g r (d.up x.f x.h);subst this;have(fp',r',mem,nd):=F.back L H2 o2 f2 (aD.refl _) kk new
 have c:∀a∈fp',a∈fp\/_:=λa ha=>by
  rcases mem a ha with y |⟨y,_⟩
  .rcases A a y with w |w
   .show .inl (F.sub a w)
   .show .inr w
  .show .inl y
 show m.chgX x es q (λb u j=>?_) (v,fp',rfl,r',nd I λa ha j=>?_,λa ha=>?_) λa p=>?_
 .by_cases h:b∈f1
  .show .inl (fp,d,F.sub b h)
  .show .inr (kk b u j h)
 .rcases A a ha with y |y
  .show y
  .have(u,e,_):=OT.memM o v fp d a j;rw[y.1]at e
   nomatch e
 .rcases c a ha with y |y
  .have(u,e,C):=OT.memM o v fp d a y;show((z a y).1,?_);rw[x.n a u e C];show(z a y).2
  .show(m.ext.h.free y.1,y.2)
 .have(t,l,ha):=p;have:=OT.funM _ _ _ _ r' l;subst this
  rcases c a ha with y |y
  .show .inl (fp,d,y)
  .show .inr y.1
def aB.was(g:aB G E H0 Hf H J U)(es:U[i]?=aa (.deep o))(d:J[i]?=aa (aa v))(x:Ext Hf H L H1)(r:OT G L H1 o v fp):∀a∈fp,H a≠ae:=λa ha=>by
 have(l,b,e,c,n,z):=g.at' i _ _ d es;cases e;have:=OT.funM o v fp b r (c.up x.f x.h);subst this;have(u,j,_):=OT.memM o v fp c a ha
 grind
abbrev gA{a:Type}[DecidableEq a](f:a):List a->Option Nat
 | []=>ae
 |n::ns=>if n=f then aa 0 else (gA f ns).map (· + 1)
def Ep{a:Type}[DecidableEq a]{f:a}:∀{ns:List a} {k:Nat},gA f ns=aa k->k<ns.length
 | [],_,e=>by cases e
 |n::ns,k,e=>by
  dsimp only[gA]at e;split at e
  .cases e;show Nat.succ_pos _
  .cases h:gA f ns with
   |none=>rw[h]at e;cases e
   |some X6=>rw[h]at e;cases e;show Nat.succ_lt_succ (Ep h)
def Kg{a:Type}[DecidableEq a]{b:Type}{f:a}:∀{ns:List a} {k:Nat} (C:List b),gA f ns=aa k->(ns.zip C).lookup f=C[k]?
 | [],_,_,e=>by cases e
 | _::_,_,[],_=>by rfl
 |n::ns,k,v::C,e=>by
  dsimp only[gA]at e;simp only[jO,oC];split at e
  .rename_i h;subst h;cases e;rw[beq_self_eq_true];rfl
  .rename_i h;simp only[beq_eq_false_iff_ne.mpr (iB h)]
   cases h':gA f ns with
   |none=>rw[h']at e;cases e
   |some X6=>
    rw[h']at e;cases e;show Kg C h'
def Foc.up(F:Foc G Hf H o v fp o1 v1 f1 R)(f:aD Hf L)(s:aD H H'):Foc G L H' o v fp o1 v1 f1 R:=
 (F.r.up f s,F.n,F.sub,λa9 H2 o2 f2 s2 k h=>F.back a9 H2 o2 f2 (f.trans s2) (λb u e a=>k b u (s b u e) a) h)
nonrec def Xp:=LS->Option (O×(O->O))
inductive tDP(G:Gc)(i:Nat)(f:Xp)(J:St)(H:Hp)(Q:VK):Prop
 |mk:∀E H0 Hf U o1 R,aB G E H0 Hf H J U->f U=aa (o1,R,)->(∀o v fp v1 f1 L H',U[i]?=aa (.deep o)->J[i]?=aa (aa v)->Ext Hf H L H'->OT G L H' o v fp->Foc G L H' o v fp o1 v1 f1 R->Q v1 H')->tDP G i f J H Q
def DP(c:Str->Addr)(X:Cx)(e:Expr)(i:Nat)(f:Xp):Prop:=PE X e (tDP (Gx c X) i f)
def cc(i:Nat):Xp:=λU=>match U[i]? with
 |some (.deep (.at l o))=>aa (o,.at l,)
 |some (.deep o)=>aa (o,id,)
 | _=>ae
abbrev O.fld(cn f:Str):O->Option (O×(O->O))
 |.ins c ns os=>if c=cn then (gA f ns).bind λk=>(os[k]?).map λo1=>(o1,λx=>.ins c ns (os.set k x),) else ae
 | _=>ae
def pr(cn f:Str)(p:Xp):Xp:=λU=>(p U).bind λq=>(q.1.fld cn f).map λr=>(r.1,λx=>q.2 (r.2 x),)
abbrev O.key(k:List Key):O->Option (O×(O->O))
 |.dT ks os=>(gA k ks).bind λX6=>(os[X6]?).map λo1=>(o1,λx=>.dT ks (os.set X6 x),)
 | _=>ae
abbrev fzs:List O->Zs
 | []=>aa []
 |.fz d::os=>(fzs os).map (d::·)
 | _=>ae
def vU:∀(j:LD),fzs (j.map .fz)=aa j
 | []=>rfl
 |d::j=>by rw[eR,fzs,vU j];rfl
def Kh:∀{os:List O} {j:LD},fzs os=aa j->os=j.map .fz
 | [],_,h=>by cases h;rfl
 |o::os,j,h=>by
  cases o with
  |fz d=>
   simp only[fzs]at h
   cases e:fzs os with
   |none=>rw[e]at h;cases h
   |some a=>rw[e]at h;cases h;rw[eR,<- Kh e]
  | _=>cases h
def OTs.unfz{G:Gc}{Hf H:Hp}:∀{j:LD} {C:Z2} {fs:Z7},OTs G Hf H (j.map .fz) C fs->ay G Hf j C/\fs=[]
 | [],_,_,h=>(h.1,h.2)
 |d::j,_,_,q3_=>by
  have(v,r,f1,f2,e,c,g,f):=q3_;have(a,b):=OTs.unfz g;show((v,r,e,c.1,a),?_);rw[f,c.2,b];rfl
def pD(p:Xp)(U:LS):OD:=(p U).bind λq=>match q.1 with
 |.fz d=>aa d
 | _=>ae
def pB(p:Xp)(U:LS):OD:=(p U).bind λq=>if q.1.kn then aa q.1.toD else ae
abbrev O.items:O->Zs
 |.lst os=>fzs os
 | _=>ae
def pC(p:Xp)(U:LS):Zs:=(p U).bind λq=>q.1.items
inductive tDL(G:Gc)(f:Z6)(J:St)(H:Hp)(Q:VK):Prop
 |mk:∀E H0 Hf U j,aB G E H0 Hf H J U->f U=aa j->(∀a C L H',Ext Hf H L H'->H' a=aa (.lst C)->ay G L j C->Q (.ref a) H')->tDL G f J H Q
def DL(c:Str->Addr)(X:Cx)(e:Expr)(f:Z6):Prop:=PE X e (tDL (Gx c X) f)
def dm{c d:Type}{a:Option c}{f:c->Option d}{b:d}(h:a.bind f=aa b):∃x,a=aa x/\f x=aa b:=by
 cases a with
 |none=>nomatch h
 |some x=>show(x,rfl,h)
def jC{c d:Type}{a:Option c}{f:c->d}{b:d}(h:a.map f=aa b):∃x,a=aa x/\f x=b:=by simp_all
def gB(h:PE X e (cb i)):DP c X e i (cc i):=PE.imp h λJ H Q j=>by
 have(E,H0,Hf,U,o1,R,d,a,g):=j
 have main:∀o,U[i]?=aa (.deep o)->(∀v fp,OT _ Hf H o v fp->fp.Nodup->Foc _ Hf H o v fp o1 v fp R)->cb i J H Q:=λo es F=>by
  have(v,b,u,fp,f,r,n,z):=d.slot es;subst f;show(u,b,g o u fp u fp Hf H es b (Ext.refl d.sub) r (F u fp r n))
 unfold cc at a;split at a
 .rename_i l o es;cases a;show main _ es λv fp r n=>Foc.at r n
 .rename_i o _ es;cases a;show main _ es λv fp r n=>Foc.refl r n
 .grind
def Sr{f:Str}(h:o1.fld cn f=aa (o2,R,)):∃ns os k,o1=.ins cn ns os/\gA f ns=aa k/\os[k]?=aa o2/\R=λx=>.ins cn ns (os.set k x):=by
 cases o1 with
 |ins c ns os=>
  replace h:(if c=cn then (gA f ns).bind λk=>(os[k]?).map λo1=>_ else ae)=aa _:=h;split at h
  .rename_i d;subst d;have(k,a,h):=dm h;have(o,b,h):=jC h;cases h;show(ns,os,k,rfl,a,b,rfl)
  .nomatch h
 | _=>nomatch h
def Foc.fld{f:Str}(F:Foc G Hf H o v fp o1 v1 f1 R)(h:o1.fld cn f=aa (o2,R',)):∃(a dx:Addr) (ns:Z1) (C:Z2) (b:V) (f2:Z7),v1=.ref a/\H a=aa (.ins (G.cl cn) dx (ns.zip C))/\(ns.zip C).lookup f=aa b/\Foc G Hf H o v fp o2 b f2 (λx=>R (R' x)):=by
 have(ns,os,k,rfl,g,i,rfl):=Sr h;have(a,dx,C,fs,rfl,ha,l,rs,rfl):=F.r;have(b,f2,j,e):=Foc.root (W:=.ins cn ns) ha rfl rs F.n i λL H' m c d r _=>(a,dx,C,c,rfl,d,l,r,rfl);show(a,dx,ns,C,b,f2,rfl,ha,(Kg C g).trans j,F.trans e)
variable{o:Expr}{p:Xp}
def tH{fl:Str}(cn:Str)(n:Cls X.K (c cn))(hn:ig X.K (c cn) fl)(u:DP c X o i p)(m:jR o fl X.env (eval o X.env)=eval o X.env<|Zb):DP c X (.Attribute o fl pos) i (pr cn fl p):=PE.imp (Dk u m) λJ H Q y=>by
 have(E,H0,Hf,U,o2,R,z,b,w):=y;have(q,f,b):=dm b;have(r,g,b):=jC b;cases b;show(E,H0,Hf,U,q.1,q.2,z,f,λt v fp v1 f1 L H' es l x rt F=>?_);have(a,dx,ns,C,d,f2,h,ha,j,e):=F.fld g;show(a,_,dx,_,d,h,ha,n,hn,j,w t v fp d f2 L H' es l x rt e)
def qN(h:DP c X e i p):DB c X e (pB p):=PE.imp h λJ H Q j=>by
 have(E,H0,Hf,U,d,l,a,g):=j;have(q,b,a):=dm a;split at a
 .rename_i f;cases a;show(E,H0,Hf,U,q.1,q.2,l,b,λt v fp v1 f1 a8 H1 es m x rt F=>g _ _ _ x (F.r.rep x.s f))
 .grind
def Ki(h:o1.items=aa j):o1=.lst (j.map .fz):=by
 cases o1 with
 |lst os=>rw[Kh h]
 | _=>nomatch h
def pw(h:DP c X e i p):DL c X e (pC p):=PE.imp h λJ H Q g=>by
 have(E,H0,Hf,U,j,l,b,f):=g;have(q,d,b):=dm b;show(E,H0,Hf,U,q.1,q.2,l,d,λt v fp v1 f1 a8 H1 es m x rt F=>?_);have r:=F.r;rw[Ki b]at r;have(a,C,fs,rfl,ha,rs,_):=r;show f a C a8 H1 x ha rs.unfz.1
def DO.dl{f:Z6}(h:DO c X e f):DL c X e f:=PE.imp h λJ H Q d=>by
 have(E,H0,Hf,U,j,st,a,k):=d;show(E,H0,Hf,U,j,st,a,λl C L H' x _ _ b r=>k l C L H' x b r)
def OTs.stay{c:HO}(r:OTs G Hf H os us fs)(d:H l=aa c)(e:gv c=ah)(hn:l∉fs)(f:aD Hf L)(s:∀b u,b≠l->H b=aa u->H' b=aa u):OTs G L H' os us fs:=
 OTs.frameM f os us fs r λb u a hm=>s b u (λz=>by
  subst z;rw[d]at a;cases a
  rcases hm with t |t
  .grind
  .show hn t) a
def qO(i:Nat)(p:Xp)(f:Z4)(U:LS):Option Fl:=(p U).bind λq=>(f U).bind λd=>(q.1.appd d).map λo2=>.nx (U.set i (.deep (q.2 o2)))
def Kj{f:Z4}(h:PS X st (qj (tBM X.K "list" vm (tDP (Gx c X) i p) (nC (tD (Gx c X) f) lQ)))):DS c X st (qO i p f):=PS.imp h λX2 J H T=>by
 have(E,H0,Hf,U,o,y,j,N):=T;have(q,B,j):=dm j;have(d,C,j):=dm j;have(o2,G,j):=jC j;subst j;show(E,H0,Hf,U,q.1,q.2,y,B,λt v fp v1 f1 a8 H1 es L x rt F=>?_);have(l,us,I,A,M,Q,next):=RU G F.r;subst I;show(.inl (rfl,_,SqL.of A),E,H0,a8,U,d,y.step x,C,λw a9 H2 g Y=>?_);show(l,us,w,rfl,rfl,g.h _ _ A,by rw[fc];show M,N J a9 _ (x.trans g).f ?_)
 show y.foc es L (rt.up g.f g.h) (x.trans g) (F.up g.f g.h) (λb u m hn=>by rw[bJ (λz=>hn (by rw[z];show Q))];show m)
  (next a9 _ w F.n g.f (λb u m e=>by rw[bJ m];show g.h b u e) ca Y) F.n λa ha=>.inl ha
section
variable{prog:cP}{w:World}{K:Type}[DecidableEq K]{kn:HeapKind prog w K}{A:cq}{X2:Z9}{s:ak}
end
def Er{f:Str}{v:V}:∀{ns:Z1} {C:Z2} {k:Nat},ns.length=C.length->gA f ns=aa k->d8 f v (ns.zip C)=ns.zip (C.set k v)
 | [],_,_,_,h=>by cases h
 | _::_,[],_,hl,_=>by cases hl
 |n::ns,u::C,k,hl,h=>by
  dsimp only[gA]at h;rw[jO];dsimp only[d8];split at h
  .rename_i e;cases h;simp only[if_pos e,set_cons_zero,jO]
  .rename_i e;rw[if_neg e]
   cases h':gA f ns with
   |none=>rw[h']at h;cases h
   |some X6=>
    rw[h']at h;cases h;simp only[x8,jO,Er (by simpa using hl) h']
def Es{f:Str}{v:V}:∀{ns:Z1} {C:Z2},ns.length=C.length->gA f ns=ae->d8 f v (ns.zip C)=(ns++[f]).zip (C++[v])
 | [],[],_,_=>rfl
 | [],_::_,hl,_=>by cases hl
 | _::_,[],hl,_=>by cases hl
 |n::ns,u::C,hl,h=>by
  dsimp only[gA]at h;rw[jO];dsimp only[d8];split at h
  .cases h
  .rename_i e;rw[if_neg e]
   cases h':gA f ns with
   |none=>simp only[ia,ia,jO,Es (by simpa using hl) h']
   |some X6=>rw[h']at h;nomatch h
def O.setF(o:O)(cn f:Str)(x:O):Option O:=match o with
 | .ins c ns os=>if c=cn/\ns.length < 1000 then (match gA f ns with
  |some k=>aa (.ins c ns (os.set k x))
  |none=>aa (.ins c (ns++[f]) (os++[x]))) else ae
 | _=>ae
def Kk(i:Nat)(cn f:Str)(p:Xp)(g:LS->Option O)(U:LS):Option Fl:=(g U).bind λx=>(p U).bind λq=>(q.1.setF cn f x).map λo2=>.nx (U.set i (.deep (q.2 o2)))
def OTs.len{G:Gc}{Hf H:Hp}:∀{os:List O} {C:Z2} {fs:Z7},OTs G Hf H os C fs->os.length=C.length
 | [],_,_,h=>by rw[h.1];rfl
 |o::os,_,_,(v,r,f1,f2,e,_,h2,_)=>by subst e;simp[OTs.len h2]
def Ss{g:LS->Option O}{fl:Str}(cn:Str)(hc:Cls X.K (c cn))(hn:ig X.K (c cn) fl)(hp:PS X st (Dj X.K (tDP (Gx c X) i p) (tDZ (Gx c X) ac g) fl)):DS c X st (Kk i cn fl p g):=PS.imp hp λX2 J H q_=>by
 have(E,H0,Hf,U,o,N,A,kq):=q_;have(x,e1,A):=dm A;have(q,e2,A):=dm A;have(o2,j,A):=jC A;subst A;show(E,H0,Hf,U,x,N,e1,λu Q a8 H1 x1 rx l=>(E,H0,a8,U,q.1,q.2,N.step x1,e2,λt v fp v1 f1 a9 H2 es ev Y rt F=>?_));have m:=x1.trans Y
 have hg:∀b∈Q,H b=ae/\a9 b=ae:=λb d=>by
  show((l.2 b d).1,?_);have(w,hw,ht):=OT.memM x u Q rx b d;rw[Y.n b w hw ht];show(l.2 b d).2
 have ng:=λb d hf=>(N.was es ev m rt) b hf (hg b d).1
 cases h1:q.1 with
 |ins c' ns os=>
  rw[h1]at j F;replace j:(if c'=cn/\ns.length<1000 then _ else ae)=aa o2:=j;split at j
  .rename_i hcc;have(rfl,hlt):=hcc;have(a,dx,C,fs,rfl,ha,I,rs,rfl):=id F.r;have(T,L):=f9.mp F.n;have B:=λz=>ng a z (F.sub a bi);show(a,_,dx,ns.zip C,rfl,ha,hc,hn,by rw[length_zip];lia,kq J a9 _ m.f ?_);have keep:∀b w,b≠a->H2 b=aa w->upd H2 a (.ins (c c') dx (d8 fl u (ns.zip C))) b=aa w:=λb w d e=>by rw[bJ d];show e
   have M:=(rx.up Y.f Y.h).frame (aD.refl _) λb w d hm=>keep b w (λz=>by
    subst z;rw[ha]at d;cases d
    rcases hm with hm |hm
    .nomatch hm
    .show B hm) d
   have kk:∀b w,H2 b=aa w->b∉a::fs->upd H2 a _ b=aa w:=λb w d hn=>keep b w (λz=>hn (by rw[z];show bi)) d
   cases G:gA fl ns with
   |some k=>
    rw[G]at j;cases j;have hkl:k<os.length:=by rw[rs.len,<- I];show Ep G
    have(vk,fk,evk,_,_,sb,bk):=rs.foc L (gG hkl)
    have (fs',r',m',n'):=bk a9 _ x u Q (aD.refl _) (λb w d hm _=>keep b w (λz=>by
     subst z;rw[ha]at d;cases d
     rcases hm with hm |hm
     .nomatch hm
     .show T hm) d) M
    show N.foc es ev rt m F kk (a,dx,C.set k u,fs',rfl,by rw[ca,Er I G],by simp[I],r',rfl) (f9.mpr (λz=>?_,n' l.1 λb d hf=>absurd (F.sub b (bx _ hf)) (ng b d))) λb d=>?_
    .rcases m' a z with y |⟨y,_⟩
     .show B y
     .show T y
    .rcases bw.mp d with z |z
     .rw[z];show .inl bi
     .rcases m' b z with y |⟨y,_⟩
      .show .inr (hg b y)
      .show .inl (bx _ y)
   |none=>
    rw[G]at j;cases j;show N.foc es ev rt m F kk (a,dx,C++[u],fs++Q,rfl,by rw[ca,Es I G],by simp[I],((rs.stay ha rfl T (aD.refl _) keep).append (.one M)),rfl) (f9.mpr (λz=>?_,jP.mpr (L,l.1,λb d b' hb' z=>by subst z;show ng b hb' (F.sub b (bx _ d))))) λb d=>?_
    .rcases cW.mp z with y |y
     .show T y
     .show B y
    .rcases bw.mp d with z |z
     .rw[z];show .inl bi
     .rcases cW.mp z with y |y
      .show .inl (bx _ y)
      .show .inr (hg b y)
  .nomatch j
 | _=>rw[h1]at j;nomatch j
nonrec def MTf:=Addr->LD->O->Option (O×D)
def mM(G:Gc)(n:Nat)(m:MTf):Sp:=λC H Q _=>∃Hf j o o' d l fp ix,C=.ref l::ix/\aD Hf H/\OT G Hf H o (.ref l) fp/\fp.Nodup/\(∀a∈fp,Hf a=ae)/\ay G Hf j ix/\1+j.length=n/\m l j o=aa (o',d,) /\
 ∀v L H' fp',Ext Hf (cZ H fp) L H'->OT G L H' o' (.ref l) fp'->fp'.Nodup->(∀a∈fp',cZ H fp a=ae/\L a=ae)->Rep G L d v->Q v H'
def Kl(N:Nat)(l:Addr)(j:LD)(o:O):LS:=(dD N (.non::j)).set 0 (.deep (.at l o))
open Classical in
def li(l:Addr)(U:LS):Option O:=match (U[0]?:Option Sl)with
 |some (Sl.deep (.at l' o))=>if l'=l then aa o else ae
 | _=>ae
variable{o:O}
def Su(h:li l U=aa o):U[0]?=aa (.deep (.at l o)):=by
 unfold li at h
 grind
def vV(h:U[0]?=aa (.deep (.at l o))):li l U=aa o:=by
 unfold li;rw[h];show if_pos rfl
def pA(N:Nat)(F:Z3):MTf:=λl j o=>(F (Kl N l j o)).bind λr=>match r with
 |.nx U=>(li l U).map λo'=>(o',.non,)
 |.rtS d U=>(li l U).map λo'=>(o',d,)
 | _=>ae
def aB.startMT(e:aD Hf H)(c:OT G Hf H o (.ref l) fp)(n:fp.Nodup)(b:∀a∈fp,Hf a=ae)(r:ay G Hf j ix):
  aB G Hf (cZ H fp) Hf H (L2.start N (.ref l::ix)) (Kl N.length l j o):=by
 show(aB.start (zG e b) (.cons (d:=.non) rfl r)).setNew (i:=0) (Ext.grow (zG e b) Ef) (.ref l,fp,rfl,(rfl,c),n,λa ha=>(jh ha,b a ha)) λa p=>by
  have(fp',r',ha):=p;have:=OT.funM o _ fp fp' c r'.2;subst this;show jh ha
def vW(I:Fun K x qual st f fd)(S:aP N ps (aH st))
 (h:∀(cdv:Value) (A:cq) (outer:List Env) (s:ak) (H:Hp) (X2:XK),bn k (A.deeper (fE qual (aH st) s.heap.objs.size f cdv))->DSs c (eU CX0 P w K mg base N qual (aH st) f cdv A outer s H X2).nox (gO st) F)(p:N.length=n_<|Zb):
  dA P w K mg base CX0 (k+1) f fd ps (mM (K,c) ps.length (pA n_ F)):=by
 subst p;show I.ok S (λC H Q X2 q=>by have(Hf,j,o,o',d,l,fp,ix,m,G,E,n,B,r,hn,_):=q;rw[m,aU,<- r.length];lia) λcdv A outer s H C Q X2 M q=>?_;have(Hf,j,o,o',d,l,fp,ix,m,G,E,n,B,r,hn,e,T):=q;show(_,h cdv A outer s H X2 M,?_);subst m;unfold pA at e
 cases i:F _ with
 |none=>rw[i]at e;nomatch e
 |some z=>
  rw[i,aE]at e;show(Hf,cZ H fp,Hf,_,z,aB.startMT G E n B r,i,?_)
  have g:∀U b,(li l U).map (λo'=>(o',b,))=aa (o',d,)->∀v σ' L H',aB (K,c) Hf _ L H' σ' U->Rep (K,c) L b v->Q v H':=λU b e v σ' L H' a y=>by
   have(t,J,e):=jC e;cases e;have(u,e2,u',fp',e3,rt,Y,z'):=a.slot (Su J);cases rt.1;show T v L H' fp' a.ext rt.2 Y z' y
  cases z with
  |nx U=>show λσ' L H' _ a=>g U .non e .non σ' L H' a rfl
  |rtS b U=>show λv σ' L H' a y=>g U b e v σ' L H' a y
  | _=>nomatch e
def aB.treeBack{fp':Z7}(m:aB G E H0 Hf H J U)(es:U[i]?=aa (.deep o))(e:J[i]?=aa (aa v))(r:OT G Hf H o v fp)(x:Ext Hf (cZ H fp) L H')(r':OT G L H' o' v fp')(j:fp'.Nodup)(d:∀a∈fp',cZ H fp a=ae/\L a=ae):aB G E H0 L H' J (U.set i (.deep o')):=by
 have s1 : aB G E H0 Hf (cZ H fp) J (U.set i .no):=m.chg es e (λb y f=>by
  by_cases c:b∈fp
  .show .inl (fp,r,c)
  .show .inr (by rw[gQ c];show f)) trivial λa p=>(p.calm rfl).elim
 have s2:=s1.setNew (i:=i) (s:=.deep o') x (v,fp',rfl,r',j,λa ha=>(s1.ext.h.free (d a ha).1,(d a ha).2)) λa p=>by
  have(g,l,ha):=p;have:=OT.funM o' v fp' g r' l;subst this;show(d a ha).1
 rw[pj e,set_set]at s2;show s2
abbrev O.isIns(cn fl:Str):O->Bool
 |.ins c ns _=>decide (c=cn) && !ns.contains fl
 | _=>ah
def Sv{cn fl:Str}(h:o.isIns cn fl=ac):∃ns os,o=.ins cn ns os/\ns.contains fl=ah:=by
 cases o with
 |ins c ns os=>
  replace h:(decide _ && !ns.contains fl)=ac:=h
  simp_all
 | _=>nomatch h
def nT(i:Nat)(cn fl:Str)(m:MTf)(f:Xa):Xe:=λU=>match U[i]? with
 |some (.deep (.at _ o0))=>if o0.isIns cn fl then (f U).bind λp=>match p.2[i]? with
  |some (.deep (.at l o))=>(m l p.1 o).map λq=>(q.2,p.2.set i (.deep (.at l q.1)),)
  | _=>ae else ae
 | _=>ae
variable{fa:Xa}{m:MTf}{t:TA}
def Sw{fl:Str}{Q:VK}(cn:Str)(ht:∀J H Q,qG (Gx c X) fa J H Q->t J H Q)(hn:∀U j ρ',fa U=aa (j,ρ',)->1+j.length=ps.length)(q_:tDX (Gx c X) (nT i cn fl m fa) J H Q):qp (c cn) fl (mM (Gx c X) ps.length m) [] E0 (cb i) t J H Q:=by
 have(E,H0,Hf,U,d,ρ',st,b,kq):=q_;unfold nT at b;split at b
 .rename_i M o0 x;split at b
  .rename_i hi;have(ns,os,rfl,A):=Sv hi;have(pp,G,b):=dm b;have(j,ρ1):=pp;split at b
   .rename_i l o1 g;have(q,Y,b):=jC b;cases b;have(u,y,u',fp,e3,rt,n,z):=st.slot x;subst e3;have(el,a,dx,C,fs,ea,ha,hz,rs,efp):=rt;subst el;cases ea;show(_,y,M,dx,ns.zip C,rfl,ha,o9 A,ht _ _ _ (E,H0,Hf,U,j,ρ1,st,G,λus L H' f1 e r=>?_));rw[bZ];have(w,I,w',gp,e4,B,n1,z1):=e.slot g;subst e4;rw[y]at I;cases I;have(p,h):=B;cases p;show(L,j,o1,q.1,q.2,M,gp,us,rfl,e.sub,h,n1,λa ha=>(z1 a ha).2,r,hn _ _ _ G,Y,λv o T fp3 N r3 n3 z3 rv=>kq v o T (f1.trans N.f) (e.treeBack g y (rfl,h) N (rfl,r3) n3 z3) rv)
   .grind
  .grind
 .grind
variable{o:Expr}
def Km{fl:Str}(cn:Str)(n:PE X o (cb i))(pk:Pm X.prog X.w X.K X.mg X.base CX0 k (c cn) fl (f,fd,) ps (mM (Gx c X) ps.length m))(g:bn k0 X.A)(ha:DAX c X (e::es) fa)(r:((e::es).length+1=ps.length)<|Zb)(l:StE X e es<|Zb)(d:BkE X pos es<|Zb)(p:(eval (.Call (.Attribute o fl apos) (e::es) [] pos) X.env=(do
   let ov <- eval o X.env
   gY apos.atName
   let (f,first,) <- fX [ov] (jS ov fl pl)
   lH pos f first (cD pos (ba (e::es) X.env)) (gM pos (gL [] X.env))))<|Zb)(a:k<=k0<|Zc):
  DX c X (.Call (.Attribute o fl apos) (e::es) [] pos) (nT i cn fl m fa):=PE.imp (Ds n pk.c pk.m pk.ok (g.mono a) pk.b .nil jv ha.pa l d p) λJ H Q q=>Sw cn (λ_ _ _ h=>h) (λU j ρ' h=>by have:=ha.len U j ρ' h;lia) q
open Classical in
def tI(cn:Str)(m:MTf)(fa:Z6)(U:LS):Option O:=(fa U).bind λj=>if h:∃o,∀l,m l j (.ins cn [] [])=aa (o,.non,) then aa h.choose else ae
variable{bb:Bool}{fa:Z6}
def Sx{Q:VK}(M:X4=G.cl cn)(N:∀J H Q,tDA G fa J H Q->t J H Q)(hn:∀U j,fa U=aa j->1+j.length=ps.length)(q_:tDZ G bb (tI cn m fa) J H Q):Do X4 (mM G ps.length m) [] E0 t J H Q:=by
 have(E,H0,Hf,U,o,st,c,Y):=q_;have(j,A,c):=dm c;split at c
 .rename_i I;have B:=I.choose_spec;generalize I.choose=o' at c B;cases c;show N _ _ _ (E,H0,Hf,U,j,st,A,λC a8 H1 d r y dx w i p=>?_);rw[bZ];subst M;have T:(upd H1 dx (.own y)) y=ae:=by rw[bJ p.symm];show w
  have s1:aD H1 (upd H1 dx (.own y)):=dC i;have s2:=s1.trans (dC (o:=.ins (G.cl cn) dx []) T)
  have x:aD H1 (cZ _ [y]):=λb u q=>by
   rw[gQ (λz=>ic q w (bE.mp z))];show s2 b u q
  show(a8,j,.ins cn [] [],o,.non,y,[y],C,rfl,d.s.trans s2,(y,dx,[],[],rfl,ca,rfl,(rfl,rfl),rfl),f9.mpr (c7,jQ),λa ha=>by rw[bE.mp ha];show d.s.free w,r,hn U j A,B y,λv a9 H2 g e r2 n2 L rv=>(rv,?_));have x3:Ext a8 H1 a9 H2:=(e.f,x.trans e.h,e.s,λl u q t=>e.n l u (x l u q) t);show Y _ g a9 H2 (d.trans x3) r2 (n2,λa ha=>(zE st.ext.h (d.h.free (x.free (L a ha).1)),(L a ha).2))
 .nomatch c
def Kn{f:Z6}(h:DL c X e f):DIe c X tg e f:=PI.imp (yF h) λJ H R d=>by
 have(E,H0,Hf,U,j,st,b,k):=d;show(E,H0,Hf,U,j,st,b,λl C L H' x a r=>(l,rfl,(C,SqL.of a),k _ L H' x (Jh (SqL.of a) r)))
end L2
namespace HT
open List
open PySem PyProof.Rows
open PySem.SeqAt
open PySem.AutoSeq1 (wpAny_loadPart')
open PySem.MeetsSeq PySem.MeetsSeq2 PySem.MeetsSeq3
end HT
namespace L2
open List
open PySem PySem.Spec PyProof.Rows
def Et(c f:Str)(m:LD->Zs)(e:Z4)(fa:Z6)(U:LS):Zs:=(e U).bind λd=>match d with
 |.ins a ns j=>if a=c/\ns.contains f=ah then (fa U).bind λb=>(m (.ins a ns j::b)).bind λrs=>if rs.all D.flat then aa rs else ae else ae
 | _=>ae
def Eu(G:Gc)(Hf H:Hp)(J:St)(U:LS)(a:Addr):Prop:=∀(X6:Nat) (t:Sl) (w:V),U[X6]?=aa t->J[X6]?=aa (aa w)->Holds G Hf H t w a->False
variable{G:Gc}{E H0 Hf H H2:Hp}{J:St}{U:LS}{a:Addr}
def Eu.of(h:aB G E H0 Hf H J U)(s:aD H H2)(ha:H a=ae):Eu G Hf H2 J U a:=λX6 t w p c q=>by
 have(o,b,_):=(h.at' X6 _ t c p).there ((h.at' X6 _ t c p).back (λo fp _ r=>r.up (aD.refl _) s) q);rw[ha]at b;cases b
abbrev Sy:D->Nat
 |.lst a=>a.length
 | _=>0
def Lk(G:Gc)(H0 Hf H:Hp)(J:St)(U:LS)(n:Nat)(u:V)(d:D):Prop:=∃t,tyN d=aa t/\i4 G.K H u (.type t)/\(t="list" -> ∃b us,u=.ref b/\H b=aa (.lst us)/\us.length<=Sy d+n/\H0 b=ae/\Hf b=ae/\Eu G Hf H J U b)
def CX1(P:cP)(w:World):CXT:=λouter H s X2 e s'=>∃a cls c H' X5,e=.ref a/\yx X5 outer a cls c s'.heap/\s'.os=s.os/\mh s'.gens/\Un (frs outer) [] H H' s.heap s'.heap/\HOk P w H' s'.heap /\
 (∀b,H' b≠ae->X5.get? b≠ae)/\(∀b o,s.heap.get? b=aa o->b∉frs outer->X5.get? b≠ae)/\X2 cls ae H'
variable{P:cP}{w:World}{h:Heap}
def iZ.obj{o:HO}(x:iZ P w H h a o):∃u,h.get? a=aa u:=by
 cases o with
 |lst B=>have(_,_,_,_,e):=x;show(_,e)
 |tup B=>have(_,_,_,o,e,_):=x;show(_,e)
 |dK kvs=>have(_,_,_,_,o,_,_,e,_):=x;show(_,e)
 |dT kvs=>have(_,_,_,_,o,_,_,e,_):=x;show(_,e)
 |set S n=>have(o,_,_,_,e,_):=x;show(_,e)
 |ins X4 dx fs=>have(_,_,_,e,_):=x;show(_,e)
 |own y=>have(_,e):=x;show(_,e)
 |xd fs=>have(_,(_,_,_,e,_),_):=x;show(_,e)
 |rng lo hi=>have(_,_,_,e):=x;show(_,e)
 |frz o u=>show(_,x.1)
 |tbl ps=>show(_,x)
 |met f y=>show(_,x)
 |ext φ=>show x.2.1
variable{X:Cx}{M:Z8}{s:ak}{X2:XK}{cls:Value}{h':Heap}
def Ko{G:Z7}{E:Value}(X1:Inv X M J H s)(hex:X.ex=[])(L:∀b∈frs X.stack,b∈G)(j:∀b∈G,H b=ae)
 (g:∀b∈G,∀o,X.s₀.heap.get? b=aa o->b∈X.fs)(m:yx (sE s.heap G) X.outer a cls E h')(A:s.heap.UpToSlots h')(I:X2 cls ae H):
  CX1 X.prog X.w X.outer X.H₀ X.s₀ X2 (.ref a) {s with heap:=h'}:=by
 have stay:=λb o e n=>m.1 b o (u9 _ e n)
 have frame:=λb o e f=>by
  show A b o e λC N=>?_;have(_,o',p,hd):=X1.funs.mem f;rw[e]at p;cases p;show hd C N
 have f:=X1.base;rw[hex]at f;have ne:∀b:Addr,b∉([]:Z7):=λb h=>by nomatch h
 show(a,cls,E,H,_,rfl,m,X1.os,X1.bare,(λb o e n i _=>(stay b o (f.keep b o e n i (ne b)) λd=>i (g b d o e)),λb o e n i _=>?_,f.free,λb o e _=>?_,f.tups,f.frzs,f.tbls),λb o e=>?_,λb x=>?_,λb o e i=>?_,I)
 .have(sl,l):=f.slot b o e n i (ne b);have(B,v):=frame b _ l i;show(B,v)
 .have(o',l):=f.there b o e (ne b)
  by_cases d:b∈G
  .have(sl,v):=frame b o' l (g b d o e);show(_,v)
  .show(o',stay b o' l d)
 .show(X1.hok b o e).stay (λc u t y=>stay c u y λd=>?_) (λ_ q=>q) λ_ _ q=>q
  rcases t with rfl |t
  .rw[j _ d]at e;nomatch e
  .rw[j _ d]at t;nomatch t
 .cases r:H b with
  |none=>show absurd r x
  |some o=>
   have(u,y):=(X1.hok b o r).obj;rw[u9 _ y λd=>by rw[j _ d]at r;cases r];show λz=>by nomatch z
 .have(o',l):=f.there b o e (ne b);rw[u9 _ l λd=>i (g b d o e)];show λz=>by nomatch z
def zY{base h:Heap}{a:Z7}:∀{l:List Env},h.FunFrames base l->(∀b∈frs l,b∈a)->h.FunFrames (sE h a) l
 | [],_,_=>trivial
 |env::l,(hk,(X3,o,hf,_,ho,hd),hr),hin=>(hk,(X3,o,hf,sB _ (hin X3 (by unfold frs;rw[uQ,hf];show bi)),ho,hd),zY hr λb c=>hin b (by unfold frs;rw[uQ,hf];show bx _ c))
def Inv.stkNew(X1:Inv X M J H s):∀b∈frs X.stack,∀o,X.s₀.heap.get? b=aa o->b∈X.fs:=λb a o e=>by
 rcases bw.mp (X1.stkSub b a)with rfl |h
 .show absurd (cF e) (Nat.not_lt.mpr X1.ok.above)
 .show h
variable{X0:Model}{Q:Unit->ak->Prop}{Ex:Z9}
def Sz{e:Addr}{args:Z5}(X1:Inv X M J H s)(hex:X.ex=[])(d:X.stack=X.env::X.outer)(j:X.env.frame=aa X.env.locals)(hx:Heap.MadeExcOf s.heap h e cls args)(g:X2 cls ae H)
 (i:∀s',CX1 X.prog X.w X.outer X.H₀ X.s₀ X2 (.ref e) s'->Q () s'):wpAny X0 X.A (leaving X.env (.ref e)) Q Ex {s with heap:=h}:=by
 have c:=X1.ok.frames;rw[d]at c;show wpAny_leaves_madeW c j (λb o q=>W.of_hideAll _ q) (by rw[<- d];show zY X1.stack λb a=>a) hx λh' t f1 f2 l f=>i _ ?_;have:=Ko X1 hex (λb a=>a) X1.stkFree X1.stkNew f1 ((Heap.UpToSlots.of_keeps hx.keeps).trans f) g;show this
variable{s':ak}
def SA{e:Value}(I:Inv X M J H s)(hex:X.ex=[])(i:X.stack=X.env::X.outer)(x:X.env.frame=aa X.env.locals)(h:CX1 X.prog X.w X.stack H s X2 e s')
 (v:∀d,CX1 X.prog X.w X.outer X.H₀ X.s₀ X2 e d->Q () d):wpAny X0 X.A (leaving X.env e) Q Ex s':=by
 have(a,cls,l,H',X5,rfl,fl,os,bare,un,hok,y,B,r):=h;have X1:=I.call' os un hok bare λb z=>by nomatch z
 have(f1,f2,m,G,C,T,E,ts,t1,t2,L,N,j,U,Y,t8,t9):=fl;have g:=X1.ok.frames;rw[i]at g
 have inS:∀b o,X.s₀.heap.get? b=aa o->b∉X.fs->X5.get? b≠ae:=λb o e n=>by
  have(o',p):=I.base.there b o e (by rw[hex];show λz=>by nomatch z);show B b o' p λhm=>n (I.stkNew b hm o e)
 have t:∀b∈frs X.stack++[a,T],H' b=ae:=λb c=>by
  rcases cW.1 c with c |c
  .show X1.stkFree b c
  .cases q:H' b with
   |none=>rfl
   |some o=>
    have:=y b (by rw[q];show λz=>by nomatch z)
    rcases bw.1 c with rfl |c
    .show absurd f2 this
    .rw[bE.1 c]at this;show absurd j this
 have u:∀b∈frs X.stack++[a,T],∀o,X.s₀.heap.get? b=aa o->b∈X.fs:=λb c o e=>by
  rcases cW.1 c with c |c
  .show X1.stkNew b c o e
  .by_cases n:b∈X.fs
   .show n
   .have:=inS b o e n
    rcases bw.1 c with rfl |c
    .show absurd f2 this
    .rw[bE.1 c]at this;show absurd j this
 have f:yx (sE s'.heap (frs X.stack++[a,T])) (X.env::X.outer) a cls l s'.heap:=
  (λb o q=>W.of_hideAll _ q,sB _ (by simp),by rw[<- i];show zY m λb c=>fK _ c,G,C,T,E,ts,t1,t2,L,N,sB _ (by simp),U,Y,t8,t9)
 show wpAny_leaves_onW g x f λh' x1 x2=>v _ (Ko X1 hex (λb c=>fK _ c) t u x1 x2 r)
nonrec def SB:Z5:=[.type "ValueError",.type "Exception",.type "BaseException",.type "object"]
nonrec def bV(K:bf)(X4:Addr):Bool:=W.excIn K X4 SB "ValueError.__new__"
variable{K:bf}{X4:Addr}{nid:String}
def zZ{a:Z5}(b:K.In h)(q:W.excIn K X4 a nid=ac):
  ∃c N nm d bs hd sn sub ab col dd k0 k1 k2 k3 k5 f,h.get? X4=aa (u5 nm d X4 N bs c hd sn sub ab col dd k0 k1 k2 k3 k5 nid)/\h.Ns N f/\f "__init__"=ae/\OwnTail h a c:=by
 unfold W.excIn at q;split at q
 .rename_i dd i sl j;split at q
  .rename_i u c k0 k1 k2 k3 n k5 hm e;simp only[cM,beq_iff_eq,CA]at q;have(((((m,o),p),r),g),t):=q;subst m o
   cases i with
   |mk nm bs mro ns d hd sn sub ab col del=>
    subst hm p
    have es:sl=#[k0,k1,k2,k3,aa (.builtin n),k5]:=by
     cases sl with
     |mk l=>dsimp only at e;rw[e]
    subst es;show(c,ns,nm,d,bs,hd,sn,sub,ab,col,dd,k0,k1,k2,k3,k5,_,b _ _ j,.of_isNs (W.isNs_of_in b g),W.nsMap_none_of_in b g t,W.tail_of_in b r)
  .nomatch q
 .nomatch q
def Ev(X:Cx)(X4:Addr)(b:Hp->Prop):Prop:=∀(M:Z8) (J:St) (H:Hp) (s:ak) (h:Heap) (a:Addr) (us:Z5),Inv X M J H s->Heap.MadeExcOf s.heap h a (.ref X4) us->b H->X.xe (.ref a) {s with heap:=h}
variable{x:Str}{e:Expr}{es:Zq}{np cpos pos:Pos}{t:TA}
def SD{i:Hp->Prop}(n:bV X.K X4=ac)(o:X.calm=ac)(r:Ev X X4 i)(p:Gl X x)(hm:X.mg x=aa (.ref X4))(ha:PA X (e::es) t)
 (f:StE X e es<|Zb)(g:((cD cpos (ba es X.env)).any (·.1)=ah)<|Zb)(d:NDb x<|Zc):
  PS X (.Raise (aa (.Call (.Name x np) (e::es) [] cpos)) ae pos) (λ_ J H=>t J H λC H'=>C.length<=be/\i H'):=by
 intro M s J H D I h;have(z,N,nm,w,bs,hd,sn,sub,ab,col,dd,k0,k1,k2,k3,k5,A,j,l,m,T):=zZ I.ok.mod.kin n
 show wpAny_Raise_call_subT (nm:=nm) (q:=w) (N:=N) (bs:=bs) (hdct:=hd) (sn:=sn) (sub:=sub) (ab:=ab) (col:=col) (dd:=dd) (k0:=k0) (k1:=k1) (k2:=k2) (k3:=k3) (k5:=k5)
  u8 (T.hasType u8.hasBase) (I.ok.hd o) (by rw[f];change(ah || (cD cpos _).any (·.1))=ah;rw[g];rfl) m (mx I p hm (rfl,?_) d)
 rw[f];have b:=ha cpos M s J H _ I h;rw[f]at b;show u7 (thn b λus s2 v=>?_);have(C,H2,c,y,u,q):=v;show(rfl,by rw[<- y.length];show u,c.bk _ _ j,l.keeps c.bk,T.keeps c.bk,λh' a hx=>r M J H2 s2 h' a us c hx q)
variable{mg:Zp}{base:Heap}{N:Z1}{qual:Str}{scope:Scope}{f:Addr}{cdv:Value}{A:cq}{outer:List Env}
def bj:
  i6 (CX1 P w) (eU (CX1 P w) P w K mg base N qual scope f cdv A outer s H X2) X2:=λM J H' s1 e s' I h=>SA I rfl rfl rfl h λa q=>q
def jD:
  Ev (eU (CX1 P w) P w K mg base N qual scope f cdv A outer s H X2) X4 (λH'=>X2 (.ref X4) ae H'):=λM J H' s1 h a us I hx q=>Sz I rfl rfl rfl hx q λs' q=>q
def tR(G:Gc)(X4:Addr)(X2:XK)(r:LS->Bool)(J:St)(H:Hp):Prop:=∃E H0 Hf U,aB G E H0 Hf H J U/\r U=ac/\∀L H',Ext E H0 L H'->X2 (.ref X4) ae H'
def RX(c:Str->Addr)(X:Cx)(X4:Addr)(X2:XK)(e:Expr)(r:LS->Bool):Prop:=PE X e λJ H _=>tR (Gx c X) X4 X2 r J H
def RA(c:Str->Addr)(X:Cx)(X4:Addr)(X2:XK)(es:Zq)(r:LS->Bool):Prop:=PA X es λJ H _=>tR (Gx c X) X4 X2 r J H
def RS(c:Str->Addr)(X:Cx)(X4:Addr)(X2:XK)(st:Stmt)(r:LS->Bool):Prop:=PS X st λ_ J H=>tR (Gx c X) X4 X2 r J H
def RSs(c:Str->Addr)(X:Cx)(X4:Addr)(X2:XK)(st:List Stmt)(r:LS->Bool):Prop:=PSs X st λ_ J H=>tR (Gx c X) X4 X2 r J H
nonrec def rNo:LS->Bool:=λ_=>ah
def z0(h:tR G X4 X2 rNo J H):False:=by
 have(_,_,_,_,_,e,_):=h;cases e
def eL(a:LS->Bool)(f:Xe)(b:LS->Bool)(U:LS):Bool:=a U || match f U with
 |some p=>b p.2
 |none=>ah
def bB(a:LS->Bool)(F:Z3)(b:LS->Bool)(U:LS):Bool:=a U || match F U with
 |some (.nx ρ')=>b ρ'
 | _=>ah
def rIf(t:Xt)(a b:LS->Bool)(U:LS):Bool:=match t U with
 |some (ac,ρ')=>a ρ'
 |some (ah,ρ',)=>b ρ'
 |none=>ah
def rOf{a:Type}(f:LS->Option a)(U:LS):Bool:=(f U).isSome
def PE.orR{t t':TE}(h:PE X e t)(h':PE X e t'):PE X e λJ H Q=>t J H Q\/t' J H Q:=λM s J H Q I q=>q.elim (h M s J H Q I) (h' M s J H Q I)
def PA.orR{t':TA}(h:PA X es t)(h':PA X es t'):PA X es λJ H Q=>t J H Q\/t' J H Q:=λpos M s J H Q I q=>q.elim (h pos M s J H Q I) (h' pos M s J H Q I)
variable{st:Stmt}{t':TS}
def PS.orR{t:TS}(h:PS X st t)(h':PS X st t'):PS X st λD J H=>t D J H\/t' D J H:=λM s J H D I q=>q.elim (h M s J H D I) (h' M s J H D I)
variable{c:Str->Addr}
def gC:RX c X X4 X2 e rNo:=λ_ _ _ _ _ _ q=>(z0 q).elim
def lj:RA c X X4 X2 es rNo:=λ_ _ _ _ _ _ _ q=>(z0 q).elim
def kc:RS c X X4 X2 st rNo:=λ_ _ _ _ _ _ q=>(z0 q).elim
def gD{rest:List Stmt}:RSs c X X4 X2 rest rNo:=λ_ _ _ _ _ _ q=>(z0 q).elim
variable{r1 r2:LS->Bool}
def fZ{f:Xe}(j:DX c X e f)(h:RX c X X4 X2 e r1)(i:RA c X X4 X2 es r2)(l:StE X e es<|Zb):RA c X X4 X2 (e::es) (eL r1 f r2):=PA.imp (bD (PE.orR j h) i l) λJ H Q q=>by
 have(E,H0,Hf,U,g,a,k):=q
 rcases uO.mp a with a |a
 .show .inr (E,H0,Hf,U,g,a,k)
 .cases b:f U with
  |none=>rw[b]at a;nomatch a
  |some p=>
   rw[b]at a;show .inl (E,H0,Hf,U,p.1,p.2,g,b,λv L H' s d m=>(E,H0,L,p.2,d,a,k))
variable{r:LS->Bool}{k':Nat}
def l5(h:RA c X X4 X2 es r):RX c X X4 X2 (.Tuple es k' pos) r:=PE.imp (Dn h) λJ H Q q=>q
def vZ(h:RA c X X4 X2 es r):RX c X X4 X2 (.List es pos) r:=PE.imp (yK h) λJ H Q q=>q
variable{a b cd:Expr}{ra rb:LS->Bool}
def tJ{t:Xt}(i:DTX c X cd t)(ha:RX c X X4 X2 a ra)(h:RX c X X4 X2 b rb):RX c X X4 X2 (.IfExp cd a b pos) (rIf t ra rb):=PE.imp (yC i ha h) λJ H Q q=>by
 have(E,H0,Hf,U,j,d,k):=q;unfold rIf at d
 cases f:t U with
 |none=>rw[f]at d;nomatch d
 |some p=>
  have(g,ρ'):=p;rw[f]at d;show(E,H0,Hf,U,g,ρ',j,f,λL H' s e=>?_)
  cases g with
  |true=>show(E,H0,L,ρ',e,d,k)
  |false=>show(E,H0,L,ρ',e,d,k)
def gg(h:RX c X X4 X2 e r):RS c X X4 X2 (.Return (aa e) pos) r:=PS.imp (sK h) λD J H q=>q
def iK(h:RX c X X4 X2 e r)(a:dz e ae pos.line X.env=pure ah<|Zb):RS c X X4 X2 (.Expr e pos) r:=PS.imp (cG h a) λD J H q=>q
variable{b9:Pos}
def jk(i:Nat)(a:X.N.Nodup)(h:RX c X X4 X2 e r)(hi:X.N[i]?=aa x<|Zb)(hx:Loc X.env.scope x<|Ze)(d:dz e (aa (.Name x b9)) pos.line X.env=pure ah<|Zb)(b:LcF X x<|Zf):
  RS c X X4 X2 (.Assign [.Name x b9] e pos) r:=PS.imp (qk a hi hx h d b) λD J H q=>q
variable{as:List Stmt}
def gh{bs:List Stmt}{t:Xt}(g:DTX c X cd t)(ha:RSs c X X4 X2 as ra)(f:RSs c X X4 X2 bs rb):RS c X X4 X2 (.If cd as bs pos) (rIf t ra rb):=PS.imp (C8 g ha f) λD J H q=>by
 have(E,H0,Hf,U,h,a,k):=q;unfold rIf at a
 cases d:t U with
 |none=>rw[d]at a;nomatch a
 |some p=>
  have(e,ρ'):=p;rw[d]at a;show(E,H0,Hf,U,e,ρ',h,d,λL H' s b=>?_)
  cases e with
  |true=>rw[if_pos rfl];show(E,H0,L,ρ',b,a,k)
  |false=>rw[if_neg (by decide)];show(E,H0,L,ρ',b,a,k)
variable{F:Z3}
def bQ{rest:List Stmt}(h:DS c X st F)(f:RS c X X4 X2 st r1)(g:RSs c X X4 X2 rest r2):RSs c X X4 X2 (st::rest) (bB r1 F r2):=PSs.imp (yD (PS.orR h f) g) λD J H q=>by
 have(E,H0,Hf,U,d,a,k):=q
 rcases uO.mp a with a |a
 .show .inr (E,H0,Hf,U,d,a,k)
 .split at a
  .rename_i ρ' e;show .inl (E,H0,Hf,U,.nx ρ',d,e,λσ' L H' s b=>(E,H0,L,ρ',b,a,k))
  .nomatch a
def jE{fa:Z6}(h:bV X.K X4=ac)(i:X.calm=ac)(n:Ev X X4 λH=>X2 (.ref X4) ae H)(m:Gl X x)(hm:X.mg x=aa (.ref X4))(ha:DA c X (e::es) fa)(o:((e::es).length<=1000)<|Zk)
 (l:StE X e es<|Zb)(f:((cD cpos (ba es X.env)).any (·.1)=ah)<|Zb)(d:NDb x<|Zc):
  RS c X X4 X2 (.Raise (aa (.Call (.Name x np) (e::es) [] cpos)) ae pos) (rOf fa):=PS.imp (SD h i n m hm ha.pa l f d) λD J H q=>by
 have(E,H0,Hf,U,g,b,k):=q;unfold rOf at b
 cases a:fa U with
 |none=>rw[a]at b;nomatch b
 |some j=>
  show(E,H0,Hf,U,j,g,a,λC L H' x p=>(?_,k L H' (g.ext.trans x)));rw[<- p.length,ha.len U j a];show oH (vo o)
def spR(G:Gc)(n:Nat)(X4:Addr)(r:LD->Bool):Sp:=λC H _ X2=>∃Hf j,aD Hf H/\ay G Hf j C/\j.length=n/\r j=ac/\∀L H',Ext Hf H L H'->X2 (.ref X4) ae H'
def qP(G:Gc)(b:Str)(ns:Z1)(n:Nat)(X4:Addr)(r:Addr->LD->LD->Bool):Sp:=λC H _ X2=>∃Hf j B l dx us a,C=.ref l::a/\aD Hf H/\Hf l=ae/\H l=aa (.ins (G.cl b) dx (ns.zip us))/\ns.length=us.length/\ay G Hf j a/\ay G Hf B us/\1+j.length=n/\r l j B=ac /\
 ∀L H',Ext Hf (dele H l) L H'->X2 (.ref X4) ae H'
variable{fd:eS}{ps:Z1}{k:Nat}{sp:Sp}
def Fun.okX(F:Fun K x qual st f fd)(S:aP N ps (aH st))(len:∀C H Q X2,sp C H Q X2->C.length=ps.length)
 (a:∀ (cdv:Value) (A:cq) (outer:List Env) (s:ak) (H:Hp) (C:Z2) (Q:VK) (X2:XK),bn k (A.deeper (fE qual (aH st) s.heap.objs.size f cdv))->sp C H Q X2 ->
   ∃t,PSs (eU (CX1 P w) P w K mg base N qual (aH st) f cdv A outer s H X2) (gO st) t/\t {nx:=λ_ H'=>Q .non H',rt:=Q} (start N C) H):dA P w K mg base (CX1 P w) (k+1) f fd ps sp:=by
 have(oc,od,kV,doc,pm,an,cdv,ct,osl,rfl,e,b):=F.ex;show Ir e b S len λA outer s H C Q X2 d c=>a cdv A outer s H C Q X2 d c
variable{n_:Nat}
def ll(i:Fun K x qual st f fd)(S:aP N ps (aH st))
 (h:∀(cdv:Value) (A:cq) (outer:List Env) (s:ak) (H:Hp) (X2:XK),bn k (A.deeper (fE qual (aH st) s.heap.objs.size f cdv))->RSs c (eU (CX1 P w) P w K mg base N qual (aH st) f cdv A outer s H X2) X4 X2 (gO st) r)(a:N.length=n_<|Zb):
  dA P w K mg base (CX1 P w) (k+1) f fd ps (spR (K,c) ps.length X4 λj=>r (dD n_ j)):=by
 subst a;show Fun.okX i S (λC H Q X2 b=>by have(Hf,j,g,d,hn,_):=b;rw[<- d.length];show hn) λcdv A outer s H C Q X2 l b=>?_;have(Hf,j,g,d,hn,e,m):=b;show(_,h cdv A outer s H X2 l,(Hf,H,Hf,_,aB.start g d,e,m))
variable{cn:Str}{ns:Z1}
def fO(t:Fun K x qual st f fd)(S:aP N ps (aH st))
 (h:∀(cdv:Value) (A:cq) (outer:List Env) (s:ak) (H:Hp) (X2:XK),bn k (A.deeper (fE qual (aH st) s.heap.objs.size f cdv))->RSs c (eU (CX1 P w) P w K mg base N qual (aH st) f cdv A outer s H X2) X4 X2 (gO st) r)(b:N.length=n_<|Zb):
  dA P w K mg base (CX1 P w) (k+1) f fd ps (qP (K,c) cn ns ps.length X4 λl j B=>r (eG n_ l cn ns j B)):=by
 subst b;show Fun.okX t S (λC H Q X2 d=>by have(Hf,j,B,l,dx,us,i,a,q,m,n,o,g,p,hn,_):=d;rw[a,aU,<- g.length];lia) λcdv A outer s H C Q X2 u d=>?_;have(Hf,j,B,l,dx,us,i,a,q,m,n,o,g,p,hn,e,v):=d;show(_,h cdv A outer s H X2 u,?_);subst a;show(Hf,dele H l,Hf,_,aB.startMI q m n o g p,e,v)
variable{L H':Hp}{l:Addr}
def Ext.out(a:Ext E H0 Hf H)(c:H0 l=ae)(b:Ext Hf (dele H l) L H'):Ext E H0 L H':=by
 have ne:∀x o,H0 x=aa o->dele H l x=aa o:=λx o e=>by
  have hx:x≠l:=λz=>by subst z;rw[c]at e;nomatch e
  unfold dele;rw[if_neg hx];show a.h x o e
 show(a.f.trans b.f,λx o e=>b.h x o (ne x o e),b.s,λx o e t=>(b.n x o (ne x o e) t).trans (a.n x o e t))
def gk(ra:LS->Bool)(r:LD->Bool)(fa:Xa)(U:LS):Bool:=ra U || match fa U with
 |some p=>r p.1
 |none=>ah
def bC(i:Nat)(cn fl:Str)(ns:Z1)(r:Addr->LD->LD->Bool)(fa:Xa)(U:LS):Bool:=match U[i]? with
 |some (.pino _ c0 n0 _)=>decide (c0=cn/\n0=ns/\ns.contains fl=ah) && match fa U with
  | some p=>(match p.2[i]? with
   |some (.pino l c' n' B)=>decide (c'=cn/\n'=ns) && r l p.1 B
   | _=>ah)
  |none=>ah
 | _=>ah
open Classical in
def tK(i:Nat)(cn fl:Str)(ns:Z1)(r:Addr->LD->LD->Bool)(fa:Xa)(U:LS):Bool:=match U[i]? with
 |some (.obj c0 n0 _)=>decide (c0=cn/\n0=ns/\ns.contains fl=ah) && match fa U with
  | some p=>(match p.2[i]? with
   |some (.obj c' n' B)=>decide (c'=cn/\n'=ns) && decide (∀l,r l p.1 B=ac)
   | _=>ah)
  |none=>ah
 | _=>ah
variable{p:Pos}{fa:Xa}{k0:Nat}
def jF{r:LD->Bool}(pk:Pk X.prog X.w X.K X.mg X.base (CX1 X.prog X.w) k x (f,fd,) ps (spR (Gx c X) ps.length X4 r))(hp:i6 (CX1 X.prog X.w) X X2)(o:bn k0 X.A)(ha:DAX c X (e::es) fa)(t:RA c X X4 X2 (e::es) ra)(B:((e::es).length=ps.length)<|Zb)(l:NDb x<|Zc)(y:StE X e es<|Zb)(n:BkE X pos es<|Zb)(m:k<=k0<|Zc)(z:Gl X x<|Zj):
  RX c X X4 X2 (.Call (.Name x p) (e::es) [] pos) (gk ra r fa):=PE.imp (sN pk.ok (o.mono m) z pk.g pk.kp pk.b .nil hp (PA.orR ha.pa t) l y n) λJ H Q G=>by
 have(E,H0,Hf,U,v,a,u):=G
 rcases uO.mp a with a |a
 .show .inr (E,H0,Hf,U,v,a,u)
 .cases h:fa U with
  |none=>rw[h]at a;nomatch a
  |some q=>
   have(j,ρ1):=q;rw[h]at a;show .inl (E,H0,Hf,U,j,ρ1,v,h,λC L H' f1 d I=>?_);rw[bZ];show(L,j,d.sub,I,(ha.len U j _ h).trans B,a,λi H2 M=>u i H2 (d.ext.trans M))
variable{i:Nat}{r:Addr->LD->LD->Bool}
def Kp{fl:Str}{Q:VK}(G:∀J H Q,qG (Gx c X) fa J H Q->t J H Q)(hn:∀U j ρ',fa U=aa (j,ρ',)->1+j.length=ps.length)(T:tR (Gx c X) X4 X2 (bC i cn fl ns r fa) J H):qp (c cn) fl (qP (Gx c X) cn ns ps.length X4 r) [] X2 (cb i) t J H Q:=by
 have(E,H0,Hf,U,z,a,M):=T;unfold bC at a;split at a
 .rename_i l0 c0 n0 xs0 h;rw[cM,decide_eq_true_eq]at a;have((rfl,rfl,p),a):=a
  cases e:fa U with
  |none=>rw[e]at a;nomatch a
  |some pp=>
   have(j,ρ1):=pp;rw[e]at a;dsimp only at a;split at a
   .rename_i l c' N B A;rw[cM,decide_eq_true_eq]at a;have((rfl,rfl),a):=a;have(y,x,_,_,_,dx,us,I,_,_):=z.ownAt rfl h;show(_,x,y,dx,N.zip us,rfl,I,o9 p,G _ _ _ (E,H0,Hf,U,j,ρ1,z,e,λC L H' f1 b Y=>?_));rw[bZ];have(l2,d,n,o,m,g,w,q,u,v):=b.ownAt rfl A;subst m;rw[x]at d;cases d;show(L,j,B,y,g,w,C,rfl,b.sub,o,q,u,Y,v,hn _ _ _ e,a,λf H2 x2=>M f H2 (b.ext.out n x2))
   .nomatch a
 .nomatch a
section
variable{fl:Str}
open Classical in
def SE{Q:VK}(I:∀J H Q,qG (Gx c X) fa J H Q->t J H Q)(hn:∀U j ρ',fa U=aa (j,ρ',)->1+j.length=ps.length)(T:tR (Gx c X) X4 X2 (tK i cn fl ns r fa) J H):qp (c cn) fl (qP (Gx c X) cn ns ps.length X4 r) [] X2 (cb i) t J H Q:=by
 have(E,H0,Hf,U,A,a,N):=T;unfold tK at a;split at a
 .rename_i c0 n0 x h;rw[cM,decide_eq_true_eq]at a;have((rfl,rfl,n),a):=a
  cases e:fa U with
  |none=>rw[e]at a;cases a
  |some pp=>
   have(j,ρ1):=pp;rw[e]at a;dsimp only at a;split at a
   .rename_i y u B G;rw[cM,decide_eq_true_eq,decide_eq_true_eq]at a;have((rfl,rfl),a):=a;have(q,z,_,_,dx,us,M,_,_):=A.ownAt (s:=.obj y u x) rfl h;show(_,z,q,dx,u.zip us,rfl,M,o9 n,I _ _ _ (E,H0,Hf,U,j,ρ1,A,e,λC L H' f1 b Y=>?_));rw[bZ];have(l2,d,l,m,g,w,o,p,v):=b.ownAt (s:=.obj y u B) rfl G;rw[z]at d;cases d;show(L,j,B,q,g,w,C,rfl,b.sub,m,o,p,Y,v,hn _ _ _ e,a q,λf H2 x2=>N f H2 (b.ext.out l x2))
   .cases a
 .cases a
end
variable{apos:Pos}{o:Expr}{pl:Sem Bool}
def tL{fl:Str}(n:PE X o (cb i))(pk:Pm X.prog X.w X.K X.mg X.base (CX1 X.prog X.w) k (c cn) fl (f,fd,) ps (qP (Gx c X) cn ns ps.length X4 r))(hp:i6 (CX1 X.prog X.w) X X2)(g:bn k0 X.A)(ha:DAX c X (e::es) fa)(t:((e::es).length+1=ps.length)<|Zb)(l:StE X e es<|Zb)(d:BkE X pos es<|Zb)(p:(eval (.Call (.Attribute o fl apos) (e::es) [] pos) X.env=(do
   let ov <- eval o X.env
   gY apos.atName
   let (f,first,) <- fX [ov] (jS ov fl pl)
   lH pos f first (cD pos (ba (e::es) X.env)) (gM pos (gL [] X.env))))<|Zb)(a:k<=k0<|Zc):
  RX c X X4 X2 (.Call (.Attribute o fl apos) (e::es) [] pos) (bC i cn fl ns r fa):=PE.imp (Ds n pk.c pk.m pk.ok (g.mono a) pk.b .nil hp ha.pa l d p) λJ H Q q=>Kp (λ_ _ _ h=>h) (λU j ρ' h=>by have:=ha.len U j ρ' h;lia) q
def bW{fl:Str}(n:PE X o (cb i))(pk:Pm X.prog X.w X.K X.mg X.base (CX1 X.prog X.w) k (c cn) fl (f,fd,) ps (qP (Gx c X) cn ns ps.length X4 r))(hp:i6 (CX1 X.prog X.w) X X2)(d:bn k0 X.A)(l:1=ps.length<|Zb)(p:(eval (.Call (.Attribute o fl apos) [] [] pos) X.env=(do
   let ov <- eval o X.env
   gY apos.atName
   let (f,first,) <- fX [ov] (jS ov fl pl)
   lH pos f first (cD pos (ba [] X.env)) (gM pos (gL [] X.env))))<|Zb)(a:k<=k0<|Zc):
  RX c X X4 X2 (.Call (.Attribute o fl apos) [] [] pos) (bC i cn fl ns r aj):=PE.imp (ve n pk.c pk.m pk.ok (d.mono a) pk.b .nil hp p) λJ H Q e=>Kp (λJ H Q e=>by have(E,H0,Hf,U,j,ρ',st,g,k):=e;cases g;show k [] Hf H (aD.refl _) st rfl) (λU j ρ' h=>by cases h;show l) e
def Kq{fl:Str}(n:PE X o (cb i))(pk:Pm X.prog X.w X.K X.mg X.base (CX1 X.prog X.w) k (c cn) fl (f,fd,) ps (qP (Gx c X) cn ns ps.length X4 r))(hp:i6 (CX1 X.prog X.w) X X2)(d:bn k0 X.A)(l:1=ps.length<|Zb)(p:(eval (.Call (.Attribute o fl apos) [] [] pos) X.env=(do
   let ov <- eval o X.env
   gY apos.atName
   let (f,first,) <- fX [ov] (jS ov fl pl)
   lH pos f first (cD pos (ba [] X.env)) (gM pos (gL [] X.env))))<|Zb)(a:k<=k0<|Zc):
  RX c X X4 X2 (.Call (.Attribute o fl apos) [] [] pos) (tK i cn fl ns r aj):=PE.imp (ve n pk.c pk.m pk.ok (d.mono a) pk.b .nil hp p) λJ H Q e=>SE (λJ H Q e=>by have(E,H0,Hf,U,j,ρ',st,g,k):=e;cases g;show k [] Hf H (aD.refl _) st rfl) (λU j ρ' h=>by cases h;show l) e
variable{Ar:cq}{g:Array GenState}{d:Drawn}{tk:Nat}{os:OsState}{nm qn nm2 qn2:Str}{N C2 N2 a:Addr}{bm bs2 bm2 sub sub2:Z5}{hd2 ab ab2:Bool}{sn sn2:Z1}{col col2:Option Bool}{dd dd2:Option Addr}{k0 k1 k2 k3 k5 j0 j1 j2 j3 j5:Option Value}{oe:Obj}{Q:Bool->ak->Prop}
def Kr{bs:Z5}{hd:Bool}(j:h.get? X4=aa (u5 nm qn X4 N bs bm hd sn sub ab col dd k0 k1 k2 k3 k5 nid))(b:h.get? C2=aa (u5 nm2 qn2 C2 N2 bs2 bm2 hd2 sn2 sub2 ab2 col2 dd2 j0 j1 j2 j3 j5 nid))(l:h.get? a=aa oe)(c:oe.cls=.ref X4)
 (i:bm2.contains (.type "BaseException")=ac)(e:(gt X4::bm).contains (.ref C2)=ac)(m:Q ac (h,g,d,tk,os)):wpAny X0 Ar (excMatches (.ref a) (.ref C2)) Q Ex (h,g,d,tk,os):=by
 have f:(gt C2::bm2).contains (.type "BaseException")=ac:=by rw[uR,i,r9]
 have n:=tc_notTuple
 repeat (first |(with_reducible show yn l ?_;rw[c]) |(with_reducible show yi b ?_;rw[f]) |(with_reducible show yi j ?_;rw[e]) |(with_reducible show yn b ?_) |wp_step)
 show m
def Ks{G:Z7}(X1:Inv X M J H s)(hex:X.ex=[])(B:∀b∈G,H b=ae)(g:∀b∈G,∀o,X.s₀.heap.get? b=aa o->b∈X.fs)(A:∀p∈X.pn++M,p.1∉G)
 (hk:(sE s.heap G).StaysIn h')(t:s.heap.UpToSlots h'):Inv X M J H {s with heap:=h'}:=by
 have stay:=λb o e n=>hk b o (u9 _ e n)
 have frame:=λb o e f=>by
  show t b o e λC hv=>?_;have(_,o',y,hd):=X1.funs.mem f;rw[e]at y;cases y;show hd C hv
 have a:∀c v,s.heap.IsCell c v->h'.IsCell c v:=λc v q_=>by
  have(o,ho,hd):=q_;have(sl,e):=t c o ho λC q=>by rw[hd]at q;nomatch q
  show(_,e,hd)
 have f:=X1.base;have ne:∀b:Addr,b∉X.ex:=λb h=>by rw[hex]at h;nomatch h
 show(X1.ok,X1.os,X1.bare,(λb o e n w _=>(stay b o (f.keep b o e n w (ne b)) λj=>w (g b j o e)),λb o e n w _=>?_,f.free,λb o e _=>?_,f.tups,f.frzs,f.tbls),?_,λx c e=>?_,X1.free,X1.freeC,λp hp=>?_,λb o e=>?_,X1.len)
 .have(sl,E):=f.slot b o e n w (ne b);have(Q,L):=frame b _ E w;show(Q,L)
 .have(o',E):=f.there b o e (ne b)
  by_cases j:b∈G
  .have(sl,L):=frame b o' E (g b j o e);show(_,L)
  .show(o',stay b o' E j)
 .have(m,hn,hl):=X1.loc;show(m,t.ns hn,λi x v T U Y=>?_);have(u,r,l):=hl i x v T U Y;show(u,r,?_)
  rcases l with l |⟨k,c,e,z⟩
  .show .inl l
  .show .inr (k,c,e,a c _ z)
 .have(v,z):=X1.cell x c e;show(v,a c v z)
 .have(e,n,N,nf,d):=X1.pin p hp;show(stay p.1 p.2 e (A p hp),n,N,nf,d)
 .show(X1.hok b o e).stay (λc u I hu=>stay c u hu λj=>?_) (λ_ q=>q) λ_ _ q=>q
  rcases I with rfl |I
  .rw[B _ j]at e;nomatch e
  .rw[B _ j]at I;nomatch I
def pE(K:bf)(X4:Addr)(v:Value):Bool:=match K.lookup X4 with
 | some o=>(match o.data with
  |.cls cd=>cd.mro.contains v
  | _=>ah)
 |none=>ah
nonrec def Cx.hand(X:Cx)(a:Addr):Cx:={X with A:=X.A.mark (aa (.ref a)),calm:=ah,xe:=λ_ _=>False}
def Ew(a:Addr)(I:Inv X M J H s):Inv (X.hand a) M J H s:=
 ((I.ok.mod,I.ok.kind,I.ok.glob,I.ok.blt,I.ok.above,I.ok.inj,I.ok.has,I.ok.cab,(λz=>by nomatch z),I.ok.frames,I.ok.stk,I.ok.exf,I.ok.bs,I.ok.bsz,I.ok.noex,I.ok.exfs,I.ok.funs,I.ok.frf),I.os,I.bare,I.base,I.loc,I.cell,I.free,I.freeC,I.pin,I.hok,I.len)
def SF(ok:X.Ok)(I:Inv (X.hand a) M J H s):Inv X M J H s:=(ok,I.os,I.bare,I.base,I.loc,I.cell,I.free,I.freeC,I.pin,I.hok,I.len)
end L2
namespace L2
open List
open PySem PySem.Spec PyProof.Rows PySem.Builtin.ObjectAttr
structure SG(K:bf)(X4:Addr):Prop where
 ga:gN K (.ref X4) "__getattribute__"=aa (aa (.builtin "BaseException.__getattribute__"))
 hook:gN K (.ref X4) "__getattr__"=aa ae
 bex:iY K X4 (.type "BaseException")=aa ac
 cls:(W.clsIn K X4).isSome=ac
 has:gN K (.ref X4) "__class__"=aa (aa (.builtin "object.__class__"))
 spec:W.specialIn K (.builtin "object.__class__") "__get__"=aa (aa (.builtin "getset_descriptor.__get__"))
 takes:W.takesIn K (.builtin "object.__class__")=aa ac
 mro:iY K X4 (.type "object")=aa ac
open PySem.Spec PyProof.Rows
section
variable{X:Cx}
variable{e:Expr}{es:Zq}{i:Nat}{X4 A X5 Z:Addr}{b:Bool}{bs:Zt}{n:Str}{p q q1 q2 q3 q4 pos:Pos}{x y z:Str}{T:String}
variable(T0:SG X.K X4)(hg:Gl X "isinstance")(hm:X.mg "isinstance"=ae)(hv:PE X (.Name n q) (cb i))
include T0 hg hm hv
end
variable{X:Cx}{M:Z8}{xe:Z9}{J:St}{H:Hp}{s:ak}
def tM{a:Z8}(I:Inv (X.to (X.pn++M) xe) a J H s):Inv X M J H s:=
 ((I.ok.mod,I.ok.kind,I.ok.glob,I.ok.blt,I.ok.above,I.ok.inj,I.ok.has,I.ok.cab,I.ok.hd,I.ok.frames,I.ok.stk,I.ok.exf,I.ok.bs,I.ok.bsz,I.ok.noex,I.ok.exfs,I.ok.funs,I.ok.frf),I.os,I.bare,I.base,I.loc,I.cell,I.free,I.freeC,λp hp=>I.pin p (fK _ hp),I.hok,I.len)
def Kt(I:Inv X M J H s):Inv (X.to (X.pn++M) xe) [] J H s:=
 ((I.ok.mod,I.ok.kind,I.ok.glob,I.ok.blt,I.ok.above,I.ok.inj,I.ok.has,I.ok.cab,I.ok.hd,I.ok.frames,I.ok.stk,I.ok.exf,I.ok.bs,I.ok.bsz,I.ok.noex,I.ok.exfs,I.ok.funs,I.ok.frf),I.os,I.bare,I.base,I.loc,I.cell,I.free,I.freeC,λp hp=>I.pin p (by rw[bZ]at hp;show hp),I.hok,I.len)
abbrev Sl.bare:Sl->Sl
 |.im d=>.im d
 | _=>.no
abbrev SH:D->Option Str
 |.str z=>if (mo z).length<=16777216 then aa (mo z) else ae
 | _=>ae
def mFr(f:Z4)(g:LS->Option Z1)(U:LS):Option Z1:=(f U).bind λd=>(SH d).bind λz=>(g U).map (z::·)
variable{c:Str->Addr}{e:Expr}{es:Zq}{pos:Pos}{g:LS->Option Z1}{f:Z4}
def z4(z:DE c X e f)(A:DFs c X es g):DFs c X (.FormattedValue e 114 ae pos::es) (mFr f g):=λM s J H Q out I l=>by
 have(E,H0,Hf,U,zs,st,a,C,k):=l
 show (by
 unfold mFr at a
 cases i:f U with
 |none=>rw[i]at a;nomatch a
 |some d=>
  rw[i,aE]at a
  cases d with
  |str y=>
   replace a:(if (mo y).length<=16777216 then aa _ else ae).bind _=aa zs:=a;split at a
   .rename_i B
    cases j:g U with
    |none=>rw[j]at a;nomatch a
    |some m=>
     rw[j]at a;cases a;have T:=zX m (out++mo y);have q:(iu (out++mo y) m).length<=16777216:=C;have w:(out++mo y).length<=be:=by rw[fc];lia
     have b:(mo y).length<=be:=by rw[fc];show B
     show si (wpAny_FormattedValue_repr ?_);show thn (z M s J H (λv H'=>∃L,Ext Hf H L H'/\Rep _ L _ v) I (E,H0,Hf,U,.str y,st,i,λv L H' x r=>(L,x,r))) λu s1 l=>?_;have(v,H1,o,G,h,n,rd):=l;subst rd;have(t,p):=G;subst p;show pyReprObj_str (formatField_str (λt' N=>(w,A M _ J H1 Q _ (o.tok N) (E,H0,h,U,m,st.step n,j,q,λL H' x=>k L H' (n.trans x)))) b) b
   .nomatch a
  | _=>nomatch a)
variable{X4:Addr}{X2:XK}{st:Stmt}{r:LS->Bool}
def bo{rest:List Stmt}(h:RS c X X4 X2 st r):RSs c X X4 X2 (st::rest) r:=PSs.imp (yD h (u:=λ_ _ _=>False) λ_ _ _ _ _ _ q=>q.elim) λD J H q=>q
def fQ(h:RX c X X4 X2 e r)(a:StE X e es<|Zb):RA c X X4 X2 (e::es) r:=PA.imp (bD h (t:=λ_ _ _=>False) (λ_ _ _ _ _ _ _ q=>q.elim) a) λJ H Q q=>q
variable{K:bf}
def z5{v:Value}(h:iY K X4 v=aa ac):pE K X4 v=ac:=by
 unfold iY W.clsIn at h;unfold pE
 cases e:K.lookup X4 with
 |none=>rw[e]at h;nomatch h
 |some o=>
  rw[e]at h;have(oc,od,a,sl):=o
  cases a with
  |cls b=>
   rw[aE]at h;split at h
   .nomatch h
   .show cp h
  | _=>nomatch h
abbrev mO(t:Xt)(F:Z3)(r:LS->Bool):Nat->LS->Bool
 | 0,_=>ah
 |n+1,U=>match t U with
  |some (ac,ρ1)=>r ρ1 || match F ρ1 with
   |some (.nx eA)=>mO t F r n eA
   | _=>ah
  | _=>ah
variable{c3:List Stmt}{t':TS}
def PSs.orR{t:TS}(h:PSs X c3 t)(h':PSs X c3 t'):PSs X c3 λD J H=>t D J H\/t' D J H:=λM s J H D I q=>q.elim (h M s J H D I) (h' M s J H D I)
variable{as:List Stmt}{cd:Expr}{F:Z3}
def wa(n:Nat){t:Xt}(hp:kJ (model X.prog X.w) X.A X.env X.xe)(u:DTX c X cd t)(p:DSs c X as F)(v:RSs c X X4 X2 as r):RS c X X4 X2 (.While cd as [] pos) (mO t F r n):=PS.imp (HL hp u (PSs.orR p v)) λz J H q=>by
 have(E,H0,Hf,U,x,l,k):=q;show(λm σ' H'=>∃L ρ',aB _ E H0 L H' σ' ρ'/\mO t F r m ρ'=ac,(n,Hf,U,x,l),?_);rintro m σ' H' ⟨L,ρ',g,em⟩
 cases m with
 |zero=>nomatch em
 |succ m=>
  unfold mO at em;split at em
  .rename_i ρ1 o;show(E,H0,L,ρ',ac,ρ1,g,o,λa B f2 b=>?_);show(λe i=>∃L ρ',aB _ E H0 L i e ρ'/\mO t F r m ρ'=ac,λe i w=>(m,jr _,w),?_)
   rcases uO.mp em with em |em
   .show .inr (E,H0,a,ρ1,b,em,k)
   .split at em
    .rename_i d j;show .inl (E,H0,a,ρ1,.nx d,b,j,λy f C G h=>(f,d,h,em))
    .nomatch em
  .nomatch em
def qQ(i:Nat)(r:LS->Bool)(U:LS):Bool:=match U[i]? with
 |some (.own _)=>r U
 | _=>ah
variable{i:Nat}
def wb(h:PS X st (qj (tBM X.K "list" vm (cb i) λJ H _=>tR (Gx c X) X4 X2 r J H))):RS c X X4 X2 st (qQ i r):=PS.imp h λg J H q=>by
 have(E,H0,Hf,U,b,a,k):=q;unfold qQ at a;split at a
 .rename_i B es;have(l,d,j,m,f,e,n):=b.ownAt rfl es;show(_,d,.inl (rfl,_,SqL.of e),E,H0,Hf,U,b,a,k)
 .nomatch a
def pG(i:Nat)(r:LS->Bool)(U:LS):Bool:=match U[i]? with
 |some (.own B)=>r (U.set i (.im (.lst B)))
 | _=>ah
def z6(i:Nat)(h:RS c X X4 X2 st r):RS c X X4 X2 st (pG i r):=PS.imp h λg J H q=>by
 have(E,H0,Hf,U,b,a,k):=q;unfold pG at a;split at a
 .rename_i B es;have(l,e,j,f,C,q,r):=b.ownAt rfl es;show(E,H0,_,_,b.fixd (d:=.lst B) rfl es e q (l,C,rfl,ca,r.up (dC f)),a,k)
 .nomatch a
abbrev nU(g:D->LS->Option LS)(F:Z3)(r:LS->Bool):LD->LS->Bool
 | [],_=>ah
 |d::j,U=>match g d U with
  |some ρ1=>r ρ1 || match F ρ1 with
   |some (.nx eA)=>nU g F r j eA
   |some (.ct eA)=>nU g F r j eA
   | _=>ah
  |none=>ah
def pH(fi:Z6)(g:D->LS->Option LS)(F:Z3)(r:LS->Bool)(U:LS):Bool:=match fi U with
 |some j=>nU g F r j U
 |none=>ah
variable{tg iter:Expr}{a:List Stmt}{fi:Z6}{kk:Nat}
def z7{g:D->LS->Option LS}(hp:kJ (model X.prog X.w) X.A X.env X.xe)(hc:X.calm=ac)(hi:DI c X tg iter fi)(hg:DG c X tg kk g)(hF:DSs c X a F)(hr:RSs c X X4 X2 a r)(hs:(∀x,iC iter X.env x=pure x)<|Zd):
  RS c X X4 X2 (.For tg iter a [] pos) (pH fi g F r):=PS.imp (HP hp hc hi hg.pg (PSs.orR hF hr) hs) λE' J H q=>by
 have(E,H0,Hf,U,T,B,k):=q;unfold pH at B;split at B
 .rename_i j e1;show(E,H0,Hf,U,j,T,e1,λX1 h H1 x1 it=>?_);show(λi m σ' H'=>m=j.length-i/\i<=j.length/\∃L ρ',aB _ E H0 L H' σ' ρ'/\aD h L/\nU g F r (j.drop i) ρ'=ac,(j.length,rfl,gJ _,h,U,T.step x1,aD.refl _,B),?_);rintro i m σ' H' ⟨rfl,hi',L,ρ',t,s1,em⟩;have(I,it2):=it L H' s1 t.sub i
  have n:i<j.length:=by
   rcases uW i j.length with z |z
   .show z
   .rw[m6 z]at em;nomatch em
  have(d,ed,G):=ze n;have(go,yl):=I d ed;rw[G]at em;unfold nU at em;show .inr (go,λu v=>j.length-(i+1)=j.length-(i+1)/\i+1<=j.length/\∃L ρ',aB _ E H0 L v u ρ'/\aD h L/\nU g F r (j.drop (i+1)) ρ'=ac,λu v w=>(j.length-(i+1),by lia,w),λx v y=>?_);have(e,N,rx):=yl x v y;split at em
  .rename_i ρ1 eg;show(E,H0,e,ρ',d,ρ1,t.step N,rx,eg,λgn o=>?_)
   rcases uO.mp em with em |em
   .show .inr (E,H0,e,ρ1,o,em,k)
   .split at em
    .rename_i b C;show .inl (E,H0,e,ρ1,.nx b,o,C,λQ l Y M p=>(rfl,n,l,b,p,(s1.trans N.f).trans M,em))
    .rename_i b C;show .inl (E,H0,e,ρ1,.ct b,o,C,λQ l Y M p=>(rfl,n,l,b,p,(s1.trans N.f).trans M,em))
    .nomatch em
  .nomatch em
 .nomatch B
set_option maxRecDepth 100000
def nV(J:Z1)(x:Str):Z1:=if J.any (·==x) then J else J++[x]
abbrev f6(val:Nat->Str):Nat->Z1
 | 0=>[]
 |i+1=>nV (f6 val i) (val i)
def z8(val:Nat->Str):∀i,(f6 val i).length<=i
 | 0=>bu _
 |i+1=>by
  have a:=z8 val i;change(nV (f6 val i) (val i)).length<=_;unfold nV;split
  .omega
  .rw[aX,gI];lia
def Ku(J:Z1)(v k:Str):(nV J v).any (·==k)=(J.any (·==k) || decide (k=v)):=by
 unfold nV;rw[ku];split
 .rename_i h;rw[gW,decide_eq_true_eq];show(.inl,λz=>z.elim id λe=>e▸h)
 .rw[any_append,gW,gW,decide_eq_true_eq,qe,any_nil,Bool.or_false,beq_iff_eq];show or_congr_right eq_comm
def Kv(J:Z1)(v:Str):(nV J v).length=if J.any (·==v) then J.length else J.length+1:=by
 unfold nV
 split <;> simp
variable{P:cP}{w:World}{n:Nat}
def SI{h:Heap}{a:Addr}{S b:Str->Bool}{c:Nat}(q:h.SetOf (strKind P w) a S n)(e:∀k,S k=b k)(d:n=c):h.SetOf (strKind P w) a b c:=by
 obtain rfl:=funext e;subst d;show q
variable{A:cq}{R:Result->ak->Prop}{I:Addr}{fp wr:Z7}{G:Array GenState->Array GenState->Prop}{Pv:Nat->Value->Prop}
def SJ{St:Nat->ak->Prop}(W:WalksS P w A.in1 I fp wr G n Pv St)(S:Addr)(g:S∉fp)(val:Nat->Str)(y:∀i v,Pv i v->∃t,v=.str (val i) t)(L:n+1<scanBound):
  ∀(k i:Nat) (s:ak),n-i=k->i<=n->St i s->s.heap.SetOf (strKind P w) S (λX6=>(f6 val i).any (·==X6)) (f6 val i).length ->
   (∀s',Moved (S::wr) G s s'->s'.heap.SetOf (strKind P w) S (λX6=>(f6 val n).any (·==X6)) (f6 val n).length->R (.ok (.ret .none)) s') ->
   iF (model P w) A (.builtin "set.update.loop" ([.ref S,.ref I],[])) R s:=by
 have z:=λh=>g (W.sub _ h);have sub:∀b∈wr,b∈S::wr:=λb h=>bx _ h;have stay:∀{s s':ak} {Z:Str->Bool} {m:Nat},Moved wr G s s'->s.heap.SetOf (strKind P w) S Z m->s'.heap.SetOf (strKind P w) S Z m:=λm (o,es,l,t,x,r)=>(o,es,l,t,m.heap S o z x,r);intro k
 induction k with
 |zero=>
  intro i s u hi st q a;obtain rfl:i=n:=by lia
  show codeAny_builtin F.entry_set_update_loop ?_
  show cX (W.done s _ _ st λs' m=>(dZ (a s' (m.mono sub) (stay m q))))
 |succ k B=>
  intro i s u hi st q a;have lt:i<n:=by lia
  show codeAny_builtin F.entry_set_update_loop ?_;show cX (W.item i s _ _ lt st λv s' p f m=>?_);have(t,rfl):=y i v p;have is:(strKind P w).is (val i) (.str (val i) t)=ac:=PySem.W.isStrOf_self (val i) t;show cX (uZ ?_);show uZ (cX ((strKind P w).pyHash is ?_));have d:(f6 val i).length+1<scanBound:=by have:=z8 val i;lia
  have C:=stay m q
  show wpAny_setAddHashed_of (knd:=strKind P w) (s:={s' with toks:=s'.toks+1}) is rfl C d λh' j E=>?_
  have H:h'.SetOf (strKind P w) S (λX6=>(f6 val (i+1)).any (·==X6)) (f6 val (i+1)).length:=SI E (λX6=>(Ku _ _ _).symm) (Kv _ _).symm;show dZ (plainId_quiet F.plain_set_update_loop _,B _ _ (by lia) lt (W.frame _ s' _ _ f (m9 _) λb c o e=>?_) H λs2 m2 J=>?_)
  .rw[j.2 b λh=>g (by rw[<- h];show c)];show e
  .show a s2 (Moved.trans W.gtrans ((m.mono sub).then_heap (m9 _) λb o c e=>?_) m2) J;rw[j.2 b λh=>c (by rw[h];show bi)];show e
def Ey(C:Z5)(B:Z1):Prop:=C.length=B.length/\∀(i:Nat) (v:Value),C[i]?=aa v->∃t,v=.str (B.getD i "") t
nonrec def mP(a:Bool):Obj:={cls:=.type "set",dict:=ae,data:=.set #[] 0 (.fresh 0 0 a)}
def SK(h:Heap)(a:Bool):(h.push (mP a)).SetOf (strKind P w) h.objs.size (λ_=>ah) 0:=
 (_,#[],0,_,gZ _ rfl,(rfl,rfl,rfl),rfl,λe b=>by simp at b,λk=>by simp,by decide,rfl,rfl)
variable{X2:Z9}{B:Z1}
set_option maxHeartbeats 8000001 in
def SL{l:Addr}{items:Array Value}{Q:Z9}(hh:A.handled=ae)(hl:s.heap.IsList l items)(hi:Ey items.toList B)(hb:items.size+1<scanBound)
 (h:∀ (h':Heap) (z:Nat),h'.SetOf (strKind P w) s.heap.objs.size (λX6=>(f6 (λi=>B.getD i "") items.size).any (·==X6)) (f6 (λi=>B.getD i "") items.size).length ->
   (∀b o,b<s.heap.objs.size->s.heap.get? b=aa o->h'.get? b=aa o)->Q (.ref s.heap.objs.size) {s with heap:=h',toks:=z}):
  wpAny (model P w) A (call (.type "set") [.ref l]) Q X2 s:=by
 have(c,tl,Y):=oM.mro;have I:=oM.made;have hsub:=oM.sub;show ss (codeAny_of_tree (dZ (Code.quiet_builtin _ (by decide +kernel),codeAny_builtin F.entry_type_call ?_)));rw[cq.under_plain (weight_type_call_type "set" [.ref l] []) rfl];have h1:=oM.notType;have h2:=oM.canCreate;have hct:=F.typeCall_set_1 (.ref l)
 repeat (any_goals (first |assumption |wp_step))
 show nh (code_set_new_1 (.ref l) (E:=X2) (Q₁:=λob f=>∃a,ob=.ref s.heap.objs.size/\f={s with heap:=s.heap.push (mP a)}) λa=>(a,rfl,rfl)) λr f J=>?_
 cases r with
 |error e=>show J
 |ok fl=>
  cases fl with
  |ret ob=>
   have(a,rfl,rfl):=J;have g0:(s.heap.push (mP a)).get? s.heap.objs.size=aa (mP a):=gZ _ rfl
   have hT:ak.TypeIs {s with heap:=s.heap.push (mP a)} (.ref s.heap.objs.size) "set":=(_,g0,rfl)
   have hli:=oM.init.lookup;have hbi:=oM.init.bind (.ref s.heap.objs.size)
   repeat (any_goals (first |assumption |wp_step))
   show nh (codeAny_call_builtin (R:=wants (λr g=>r=.none/\∃ h' z,g={ s with heap:=h',toks:=z } /\
     h'.SetOf (strKind P w) s.heap.objs.size (λX6=>(f6 (λi=>B.getD i "") items.size).any (·==X6)) (f6 (λi=>B.getD i "") items.size).length /\
     (∀b o,b<s.heap.objs.size->s.heap.get? b=aa o->h'.get? b=aa o)) X2) oM.init.plain F.entry_set_init (check_set_init_1 hT ?_)) λy g d=>?_
   .have((oc,od,odt,os),u,n,nl,p):=hl;simp only at n p;subst n p;have x:(s.heap.push (mP a)).get? l=aa {cls:=.type "list",dict:=od,data:=.seq items nl,slots:=os}:=ff _ u;have k1:=F.sub_list_set;have k2:=F.sub_list_frozenset;have k3:(Value.type "list" == Value.type "dict")=ah:=by decide
    have q:(s.heap.push (mP a)).IsList l items:=(_,x,rfl,nl,rfl);unfold Builtin.«set.__init__» noKeywords Builtin.Frozenset.updateFrom;generalize C:pyIter=PI
    wp_walk
    subst C;show ym q (cX (wpAny_runValue ?_));have lt:l<s.heap.objs.size:=cF u;have H:A.in1.in1.in1.handled=ae:=by simp[hh]
    have M:l≠(s.heap.push (mP a)).objs.size:=by rw[sw];show dw (yb lt)
    have N:s.heap.objs.size∉[(s.heap.push (mP a)).objs.size,l]:=by
     rw[sw];simp only[bw,c7,or_false,not_or];show(dw (jr _),kE lt)
    have L:∀(i:Nat) (v:Value),items[i]?=aa v->∃t,v=.str ((λi=>B.getD i "") i) t:=λi v L=>hi.2 i v (by rw[xT];show L);show SJ ((Walks.list H _ l M items).toS) s.heap.objs.size N (λi=>B.getD i "") L hb (items.size-0) 0 _ (by lia) (gJ _) ((_,gZ _ rfl,rfl,rfl),(q.push _)) ?hS0 ?hR
    case hS0=>
     have(o,es,ep,t,ho,r):=SK (P:=P) (w:=w) s.heap a;show(o,es,ep,t,ff _ ho,r)
    case hR=>
     intro s' hm G;have(h',g',d',U,T):=s';have eg:g'=s.gens:=hm.gens;have ed:d'=s.drawn:=hm.drawn;have eo:T=s.os:=hm.os;subst eg ed eo;change wpAny _ _ _ _ _ _;show dZ ?_;change wpAny _ _ (ret Value.none) _ _ _;show dZ (rfl,h',U,rfl,G,λb o m e=>?_);have n2:b≠(s.heap.push (mP a)).objs.size:=by rw[sw];show dw (yb m)
     show hm.heap b o ?_ (ff _ (ff _ e));simp only[bw,c7,or_false,not_or];show(dw m,n2)
   .cases y with
    |error e=>show d
    |ok j=>
     cases j with
     |ret r=>
      have(rfl,h',z,rfl,q',kk):=d
      repeat (any_goals (first |assumption |wp_step))
      show h _ _ q' kk
     | _=>show d.elim
  | _=>show J.elim
def mQ(B:Z1):Nat:=(f6 (λi=>B.getD i "") B.length).length
def Kw:∀{B:Z1} {C:Z5},aQ (B.map V.str) C->Ey C B
 | [],_,.nil=>(rfl,λi v h=>by simp at h)
 |x::B,_,.cons r h=>by
  have(a,b):=Kw h;show(by simp[a],λi v e=>?_)
  cases i with
  |zero=>
   have(t,rfl):=r;cases e
   show(t,rfl)
  |succ i=>show b i v e
def SM(K:bf)(te:TE):TE:=λJ H Q=>te J H λx H1=>∃l B,x=.ref l/\SqL K H1 l (B.map V.str)/\B.length<4000/\Q (.int (mQ B:Nat)) H1
variable{te:TE}{p p2 d0:Pos}
def SN(A:X.calm=ac)(d:Gl X "len")(i:X.mg "len"=ae)(f:Gl X "set")(j:X.mg "set"=ae)(C:PE X e te)
 (t:(ba [.Call (.Name "set" p2) [e] [] d0] X.env=(ah,eval (.Call (.Name "set" p2) [e] [] d0) X.env,)::ba [] X.env)<|Zb)(v:(ba [e] X.env=(ah,eval e X.env,)::ba [] X.env)<|Zb)
 (m:((cD pos (ba [] X.env)).any (·.1)=ah)<|Zb)(a:((cD d0 (ba [] X.env)).any (·.1)=ah)<|Zb):
  PE X (.Call (.Name "len" p) [.Call (.Name "set" p2) [e] [] d0] [] pos) (SM X.K te):=by
 intro M s J H Q I h;show lF (oU I d i gX ?_);show Hv ?_ t m;rw[t];show mq (lF (oU I f j boot_set ?_));show uX ?_ v a;rw[v];show mq (thn (C M s J H _ I h) λu s1 T=>?_);have(x,H1,c,U,l,B,rfl,L,hb,q):=T;cases U;show dZ ?_;have(its,Y,N,hz):=c.list L;have w:Ey its B:=Kw Y;have z:its.toArray.size=B.length:=by rw[size_toArray,w.1]
 show SL (items:=its.toArray) (B:=B) (c.ok.hd A) N.isList (by simpa using w) (by rw[z];unfold scanBound;lia) λh' tk y keep=>?_;rw[z]at y;show dZ ?_;have(o,r,ep,tb,G,hex,hd,_,_,n,E,hn):=y
 show call_len_set (s:={s1 with heap:=h',toks:=tk}) G hex hd E (by unfold scanBound at n;lia) ?_
 show(.int (mQ B:Nat),H1,c.kept λb u g=>keep b u (cF g) g,?_,q);rw[hn];show(_,rfl)
def Kx:∀(B:Z1),j7 (B.map D.str)=aa B
 | []=>rfl
 |x::B=>by change(j7 _).map _=_;rw[Kx B];rfl
def Ky{G:Gc}{H:Hp}:∀{B:Z1} {C:Z2},ay G H (B.map D.str) C->C=B.map V.str
 | [],_,r=>r
 |x::B,_,r=>by
  have(v,C,rfl,a,b):=r;rw[Ky b,show v=V.str x from a];rfl
def pI(f:Z4)(U:LS):OD:=(f U).bind λd=>(lsD d).bind λj=>(j7 j).bind λB=>if B.length<4000 then aa (.int (mQ B:Nat)) else ae
variable{U:LS}
def SO(h:f U=aa (.lst (B.map D.str)))(a:B.length<4000):pI f U=aa (.int (mQ B:Nat)):=by
 unfold pI;rw[h];change((j7 (B.map D.str)).bind λB=>if B.length<4000 then aa (D.int (mQ B:Nat)) else ae)=_;rw[Kx];show if_pos a
def Kz(z:X.calm=ac)(g:Gl X "len")(i:X.mg "len"=ae)(h:Gl X "set")(m:X.mg "set"=ae)(ha:DE c X e f)
 (w:(ba [.Call (.Name "set" p2) [e] [] d0] X.env=(ah,eval (.Call (.Name "set" p2) [e] [] d0) X.env,)::ba [] X.env)<|Zb)(y:(ba [e] X.env=(ah,eval e X.env,)::ba [] X.env)<|Zb)
 (n:((cD pos (ba [] X.env)).any (·.1)=ah)<|Zb)(b:((cD d0 (ba [] X.env)).any (·.1)=ah)<|Zb):DE c X (.Call (.Name "len" p) [.Call (.Name "set" p2) [e] [] d0] [] pos) (pI f):=
 PE.imp (SN z g i h m ha w y n b) λJ H Q G=>by
  have(E,H0,Hf,U,j,st,a,k):=G;unfold pI at a;have(d,o,a):=nc.mp a;have(B,t,a):=nc.mp a;have(I,u,a):=nc.mp a;split at a
  .rename_i A;cases a;show(E,H0,Hf,U,d,st,o,λv L H' x r=>?_);have(l,C,rfl,q,rs):=sS t r;rw[En u]at rs;obtain rfl:=Ky rs;show(l,I,rfl,x.s.seq q,A,k _ L _ x rfl)
  .nomatch a
def KA(val:Nat->Str):∀i k,k∈f6 val i↔∃X6,X6<i/\val X6=k
 | 0,k=>((λh=>nomatch h),λ(X6,h,_)=>absurd h (Nat.not_lt_zero _))
 |i+1,k=>by
  have c:=KA val i k;have e:=Ku (f6 val i) (val i) k;have any:∀(J:Z1),J.any (·==k)=ac↔k∈J:=λJ=>by simp[any_eq_true]
  rw[<- any];change(nV (f6 val i) (val i)).any (·==k)=ac↔_;rw[e,gW,any,c,decide_eq_true_eq];constructor
  .rintro(⟨X6,b,a⟩ |rfl)
   .show(X6,by lia,a)
   .show(i,by lia,rfl)
  .rintro⟨X6,b,a⟩
   rcases uW X6 i with h |h
   .show .inl (X6,h,a)
   .obtain rfl:X6=i:=by lia
    show .inr a.symm
def KB(val:Nat->Str):∀i,(f6 val i).length=i↔∀X6 k,X6<k->k<i->val X6≠val k
 | 0=>(λ_ X6 k _ h=>by lia,λ_=>rfl)
 |i+1=>by
  have d:=KB val i;have f:=z8 val i;change(nV (f6 val i) (val i)).length=i+1↔_;rw[Kv];have any:(f6 val i).any (·==val i)=ac↔∃X6,X6<i/\val X6=val i:=by rw[<- KA];simp[any_eq_true]
  by_cases h:(f6 val i).any (·==val i)=ac
  .rw[if_pos h];have(X6,a,b):=any.mp h;show(λe=>by lia,λg=>absurd b (g X6 i a (by lia)))
  .rw[if_neg h];constructor
   .intro e X6 k a b c
    rcases uW k i with h4 |h4
    .show d.mp (by lia) X6 k a h4 c
    .obtain rfl:k=i:=by lia
     show h (any.mpr (X6,a,c))
   .intro g;rw[d.mpr λX6 k a b=>g X6 k a (by lia)]
def SQ(B:Z1):mQ B<=B.length:=z8 _ _
def SR(B:Z1):mQ B=B.length↔B.Nodup:=by
 unfold mQ;rw[KB,CC,pairwise_iff_getElem];constructor
 .intro h i X6 hi b a e;show h i X6 a b ?_;change B.getD i ""=B.getD X6 "";rw[jM,jM,gG hi,gG b];show congrArg (λz=>(aa z).getD ("":Str)) e
 .intro h i X6 a b e;have hi:i<B.length:=by lia
  show h i X6 hi b a ?_;have e:B.getD i ""=B.getD X6 "":=e;rw[jM,jM,gG hi,gG b]at e;show e
abbrev Sl.frz:Sl->Sl
 |.im d=>.im d
 |.own B=>.im (.lst B)
 |.deep o=>if o.kn then .im o.toD else .no
 | _=>.no
def nW(H0 Hf H:Hp):Hp:=λa=>if (H0 a).isNone || ((H a).map gv).getD ah then H a else Hf a
variable{H0 Hf:Hp}
def KC{a:Addr}{u:HO}(e:H a=aa u)(h:gv u=ac\/H0 a=ae):nW H0 Hf H a=aa u:=by
 unfold nW;rw[if_pos,e]
 rcases h with h |h
 .rw[e,gW];show .inr h
 .rw[h];rfl
variable{E:Hp}
def aB.freeze{G:Gc}(h:aB G E H0 Hf H J U):aB G E H0 (nW H0 Hf H) H J (U.map Sl.frz):=by
 have s1:aD Hf (nW H0 Hf H):=λa u e=>by
  unfold nW;split
  .show h.sub a u e
  .show e
 have s2:aD (nW H0 Hf H) H:=λa u e=>by
  unfold nW at e;split at e
  .show e
  .show h.sub a u e
 show h.re (h.ext.f.trans s1,h.ext.h,s2,λl o e t=>?_) (by simp) (λi v s a b=>?_) λi s v a b c p=>?_
 .rw[<- h.ext.n l o e t];unfold nW;show if_neg λz=>?_;rw[e,h.ext.h l o e]at z;rw[gW]at z
  rcases z with z |z
  .nomatch z
  .rw[show((aa o).map gv).getD ah=gv o from rfl,t]at z;nomatch z
 .rw[fV]at b;have(g,m,rfl):=CG.mp b;have q:=h.at' i v g a m
  cases g with
  |im d=>show q.imp λu z=>(z.1,z.2.up s1)
  |own B=>
   have(l,e,x,L,C,I,r):=q
   show(_,e,l,C,rfl,KC I (.inr x),r.up s1)
  |deep o=>
   change i7 G H0 _ H v (if o.kn then Sl.im o.toD else .no)
   by_cases j:o.kn=ac
   .rw[if_pos j];have(u,fp,e,r,n,z):=q;show(u,e,(OT.frameM s1 o u fp r λb w A hm=>KC A (hm.imp_right λy=>(z b y).1)).rep (aD.refl _) j)
   .rw[if_neg j];trivial
  | _=>trivial
 .rw[fV]at b;have(g,m,rfl):=CG.mp b;show(p.calm ?_).elim
  cases g with
  |deep o=>change(if o.kn then Sl.im o.toD else .no).calm=ac;split <;> rfl
  | _=>rfl
section
variable(k:Nat)(js:LN)(jp t:Nat)(g:D->LS->Option LS)(tt:Xt)(fe:Xe)(U:LS)(l:Addr)
end
def DE.pe(h:DE c X e f):PE X e (tD (Gx c X) f):=h
def DX.pe{f:Xe}(h:DX c X e f):PE X e (tDX (Gx c X) f):=h
section
variable{prog:cP}{w:World}{K:Type}[DecidableEq K]{knd:KeyKind prog w K}{A:cq}{X2:Z9}{s:ak}
end
def KV.zip:∀{ks:List Key} {us:Z2} {ws:Z5},aQ us ws->KV (ks.zip us) (ks.zip ws)
 | [],_,_,_=>.nil
 | _::_,_,_,.nil=>.nil
 | _::_,_,_,.cons r t=>.cons (rfl,r) (KV.zip t)
section
variable{prog:cP}{w:World}{K:Type}[DecidableEq K]{knd:KeyKind prog w K}{A:cq}{X2:Z9}{s:ak}
end
variable{b:Expr}
def z9(t:Zr)(f g:Z6)(U:LS):Zs:=(t U).bind λb=>if b then f U else g U
variable{a:Expr}
def SS{t:Zr}{f g:Z6}(r:DT c X cd t)(ha:DO c X a f)(q:DO c X b g):DO c X (.IfExp cd a b pos) (z9 t f g):=PE.imp (yC r ha q) λJ H Q u=>by
 have(E,H0,Hf,U,d,st,i,k):=u;unfold z9 at i;have(x,p,i):=nc.mp i;show(E,H0,Hf,U,x,st,p,λm H1 j=>?_)
 cases x with
 |true=>rw[if_pos rfl]at i ⊢;show(E,H0,m,U,d,st.step j,i,λl C e n o hn=>k l C e n (j.trans o) (j.h.free hn))
 |false=>rw[if_neg c6]at i ⊢;show(E,H0,m,U,d,st.step j,i,λl C e n o hn=>k l C e n (j.trans o) (j.h.free hn))
def KD{d:ExceptHandler}{g:List ExceptHandler}(e:∀pn xe,DS c (X.to pn xe) st F):DS c X (.Try [st] (d::g) [] [] pos) F:=by
 intro M s J H D I h;show wpAny_Try_except ?_;show d6 (HI (e (X.pn++M) _) [] s J H D (Kt I) h) (λf s1 b=>?_) λj s1 b=>b
 cases f with
 |next=>have(σ',H',a,k):=b;show C6 M s1 σ' H' D (tM a) k
 |ret u=>have(v,σ',H',a,i,k):=b;show(v,σ',H',tM a,i,k)
 |brk=>have(σ',H',a,k):=b;show(σ',H',tM a,k)
 |cont=>have(σ',H',a,k):=b;show(σ',H',tM a,k)
def iL(F G:Z3)(U:LS):Option Fl:=match F U with
 |some o=>aa o
 |none=>G U
variable{F':Z3}
def Aa(d:DS c X st F)(f:DS c X st F'):DS c X st (iL F F'):=λM s J H D I h=>by
 have(E,H0,Hf,U,o,b,a,k):=h;unfold iL at a;split at a
 .rename_i e;show d M s J H D I (_,_,_,U,_,b,e.trans a,k)
 .show f M s J H D I (_,_,_,U,_,b,a,k)
variable{X0:Model}
def cB{c:Type}{t:Sem c}{Q b:c->ak->Prop}(hn:n<=s.toks)(h:wpAny X0 A t Q X2 s)(d:∀a s',n<=s'.toks->Q a s'->b a s'):wpAny X0 A t b X2 s:=
 d6 (u4 hn h) (λa s' x=>d a s' x.1 x.2) λ_ _ x=>x.2
def PEb(X:Cx)(e:Expr)(t:Nat->St->Hp->(Nat->V->Hp->Prop)->Prop):Prop:=
 ∀(M:Z8) (s:ak) (J:St) (H:Hp) (X5:Nat) (Q:Nat->V->Hp->Prop),Inv X M J H s->X5<=s.toks->t X5 J H Q->wpAny (model X.prog X.w) X.A (eval e X.env) (λu s'=>∃v H' a,Inv X M J H' s'/\bc v u/\a<=s'.toks/\Q a v H') X.xe s
def HT(X:Cx)(P:Nat->St->Hp->Prop)(c3:List Stmt)(P':Nat->St->Hp->Prop):Prop:=
 ∀(M:Z8) (s:ak) (J:St) (H:Hp) (X5:Nat),Inv X M J H s->X5<=s.toks->P X5 J H->wpAny (model X.prog X.w) X.A (execs c3 X.env) (λf s'=>f=.next/\∃σ' H' a,Inv X M σ' H' s'/\a<=s'.toks/\P' a σ' H') X.xe s
def HT1(X:Cx)(P:Nat->St->Hp->Prop)(st:Stmt)(P':Nat->St->Hp->Prop):Prop:=
 ∀(M:Z8) (s:ak) (J:St) (H:Hp) (X5:Nat),Inv X M J H s->X5<=s.toks->P X5 J H->wpAny (model X.prog X.w) X.A (exec st X.env) (λf s'=>f=.next/\∃σ' H' a,Inv X M σ' H' s'/\a<=s'.toks/\P' a σ' H') X.xe s
variable{P:Nat->St->Hp->Prop}
def Ez:HT X P [] P:=λ_ s J H X5 I a h=>mj (rfl,J,H,X5,I,a,h)
variable{P' P'':Nat->St->Hp->Prop}
def wc(g:HT1 X P st P')(i:HT X P' c3 P''):HT X P (st::c3) P'':=λM s J H X5 I j h=>by
 show kG (thn (g M s J H X5 I j h) λf s1 m=>?_);have(e,a,H1,b,c,d,l):=m;subst e;show i M s1 a H1 b c d l
variable{t:TS}
def SU(h:PS X st t)(e:∀X5 J H,P X5 J H->t {nx:=P' X5,rt:=λ_ _=>False,bk:=λ_ _=>False,ct:=λ_ _=>False} J H):HT1 X P st P':=λM s J H X5 I d p=>by
 show cB d (h M s J H _ I (e X5 J H p)) λf s1 c a=>?_
 cases f with
 |next=>have(σ',H',b,q):=a;show(rfl,σ',H',X5,b,c,q)
 |brk=>have(_,_,_,q):=a;show q.elim
 |cont=>have(_,_,_,q):=a;show q.elim
 |ret u=>have(_,_,_,_,_,q):=a;show q.elim
variable{body:List Stmt}{wi:TI}{X6:Nat}
def SV{Pv:Nat->Nat->St->Hp->Prop}(hp:kJ (model X.prog X.w) X.A X.env X.xe)(hc:X.calm=ac)(hi:PI X tg iter wi)(hg:PG X tg (jW X6))
 (hw:∀X5 J H,P X5 J H->wi J H λX1 H1=>X1=Itr 0 n/\Pv 0 X5 J H1)
 (c:∀i,i<n->HT X (λX5 J H=>∃y,Pv i X5 y H/\J=y.set X6 (aa (.int i))) body (Pv (i+1)))
 (hs:(∀x,iC iter X.env x=pure x)<|Zd):HT1 X P (.For tg iter body [] pos) (Pv n):=by
 intro M s J H X5 I hB h;show wpAny_For (cB hB (hi M s J H _ I (hw X5 J H h)) λv s1 b1 h1=>cB b1 h1 λitv s2 b2 h2=>?_) hs;have(it,fp,tn,X1,H2,e,I2,T,N,f2,eJ,w0):=h2;subst e eJ;have g:∀{H':Hp},(∀b∈fp,H' b=ae)->∀b∈fp,ie X M H' b:=λhn b c=>(hn b c,(f2 b c).2);show yh (λm s'=>∃i σ' H' U,i<=n/\m=n-i/\Inv X M σ' H' s'/\tn i s'.heap/\(∀b∈fp,H' b=ae)/\U<=s'.toks/\Pv i U σ' H') ?_ n (0,J,H2,X5,gJ _,rfl,I2,N,λb c=>(f2 b c).1,b2,w0);rintro m s3 ⟨i,a,z,Y,hin,rfl,I3,t,q,b3,w3⟩
 by_cases j:i<n
 .show gK hp (cB b3 (T.item X rfl rfl rfl hc i M s3 a z X.xe I3 (g q) t j) λr s4 C l=>?_);have(u,L,h4):=l;subst L;show gK hp (cB C h4 λ_ s5 b5 l=>?_);have(x,H5,I5,r5,y5,p,G):=l;have(eH,ex):=y5;subst eH ex;show gK hp (cB b5 (hg _ s5 a H5 _ u (λσ' H'=>H'=H5/\σ'=a.set X6 _) (I5.pinned (g G) (T.obj _ _ p)) r5 (rfl,rfl)) λ_ s6 b6 l=>?_);have(σ6,H6,I6,e6,E):=l;subst e6 E;show gK hp (thn (c i j _ s6 _ _ Y I6 b6 (a,w3,by rw[Int.zero_add])) λf s7 l=>?_);have(ef,Q,H7,B7,B,b7,q7):=l;subst ef;show(n-(i+1),by lia,i+1,Q,H7,B7,j,rfl,B.unpinned,T.keep _ _ _ p λb c o e=>(B.pin _ (bY _ (bY _ (lP c e)))).1,λb c=>?_,b7,q7);have(o,e,d):=T.obj _ _ p b c;show(B.pin _ (bY _ (bY _ (lP c e)))).2.1
 .have e:i=n:=by lia
  subst e;show gK hp (cB b3 (T.done X rfl rfl rfl hc i M s3 a z X.xe I3 (g q) t (bu _)) λr s4 C (L,I4)=>?_);subst L;show mj (rfl,a,z,Y,I4,C,w3)
def EA(X1:It)(g:TG)(tt:TT)(te:Nat->St->Hp->(Nat->V->Hp->Prop)->Prop)(j:St)(H1:Hp)(o:Nat)(Q:Nat->V->Hp->Prop):Prop:=
 ∃W:Nat->Nat->Nat->Z2->St->Hp->Prop,(∃m,W 0 m o [] j H1)/\∀i m X5 c σ' H',W i m X5 c σ' H' ->
  (X1.stop i H'/\c.length<=be/\∀D,H1 D=ae->H' D=ae->Q X5 (.ref D) (upd H' D (.lst c))) \/
  (X1.go i H'/\c.length<=be/\∃ N : Nat->Z2->St->Hp->Prop,(∀ h e f d,N h e f d->∃ n,n < m/\W (i + 1) n h e f d) /\
   ∀x d,X1.yld i H' x d->g x σ' d λa p=>tt a p λb l=>if b=ac then te X5 a l λh y q=>N (max X5 h) (c++[y]) a q else N X5 c a l)
variable{dr:Expr}{c4:Zq}{scope:Scope}{Nc:Z1}{k B0:Nat}{js:LN}{g:TG}{tt:TT}{te:Nat->St->Hp->(Nat->V->Hp->Prop)->Prop}
def SW{L:Hp}{s2:ak}{it:Addr}{tn:Nat->Heap->Prop}{X1:It}{cl:List (Str×Addr)}{Q:Nat->V->Hp->Prop}{RR:Value->Addr->Result->ak->Prop}
 (hc:X.calm=ac)(ck:oY scope X.env.scope.names X.N Nc k js)
 (hg:∀cl X4 ex E C,PG (X.comp scope Nc cl X4 ex E C) tg g)(ht:∀cl X4 ex E C,PTs (X.comp scope Nc cl X4 ex E C) c4 tt)(he:∀cl X4 ex E C,PEb (X.comp scope Nc cl X4 ex E C) dr te)
 (a1:∀x c,cl.lookup x=aa c->X.env.cells.lookup x=aa c)(a2:∀x,(x,gr,)∈scope.names->∃c,cl.lookup x=aa c)
 (t:Inv X M J L s2)(T:oW X.prog X.w X.K tg X1 fp it tn)(fy:tn 0 s2.heap)(f2:∀b∈fp,ie X M L b)(hB0:B0<=s2.toks)(hW:EA X1 g tt te (g4 k js J) L B0 Q)
 (hRR:∀(D X4:Addr) (s':ak) (H':Hp),Inv X M J H' s'->(∃m,s'.heap.Ns X4 m)->ie X M H' X4->(∃X5,X5<=s'.toks/\Q X5 (.ref D) H')->RR (.ref D) X4 (.ok .next) s'):
  wpAny (model X.prog X.w) X.A (newList []) (λacc ey=>wpAny (model X.prog X.w) X.A (newFunctionEnv scope X.env.globals cl [] X.env.qual ae .none (aa X.env)) (λhO s₄ =>
   iF (model X.prog X.w) X.A (.compStart (.ListComp dr [(tg,iter,c4,0)] scope pos) 0 (.ref it) acc {hO with scope:=relabel scope X.env}) (RR acc hO.locals) s₄) X2 ey) X2 s2:=by
 have(W,(m0,w0),turn):=hW;show wpAny_newObj_type (wpAny_newFunctionEnv ck.nocell (by intro y hy;simp at hy) (λH j h=>?_) ck.kind);dsimp only at j h ⊢;generalize hP:s2.heap.push {cls:=.type "list",dict:=ae,data:=.seq ([]:Z5).toArray}=P at j h ⊢;generalize hD:s2.heap.objs.size=D at hP j h ⊢;have hCs:P.objs.size=D+1:=by rw[<- hP,sw,hD]
 generalize hC:P.objs.size=X4 at hCs j h ⊢;have U:D<X4:=by rw[hCs];show jr _
 have hDC:D≠X4:=dw U;have below:∀b o,s2.heap.get? b=aa o->b<D:=λb o e=>hD▸cF e
 have old:∀b o,s2.heap.get? b=aa o->H.get? b=aa o:=λb o e=>by
  have f:=below b o e;show h.extBut b o (dw (uV f U)) (ff _ (hP▸ff _ e))
 have hDo:H.get? D=aa (gu [] 0):=h.extBut _ _ hDC (ff _ (by rw[<- hP,<- hD];show gZ _ rfl));have Hn:∀b,D<=b->L b=ae:=λb f=>t.hok.fresh (by lia);have fpo:∀b∈fp,b<D:=λb f=>by have(o,e,_):=T.obj 0 _ fy b f;show below b o e
 have clo:∀x c,cl.lookup x=aa c->c<D:=λx c e=>by
  have(v,o,ho,_):=t.cell x c (a1 x c e);show below c o ho
 have stko:∀b∈frs X.stack,b<D:=λb f=>by
  have(_,o,ho,_):=t.stack.mem f;show below b o ho
 let Y:Cx:=X.comp scope Nc cl X4 fp s2 L
 have yk:Y.Ok:=by
  show(t.ok.mod,ck.kind,t.ok.glob,t.ok.blt,?_,?_,?_,?_,t.ok.hd,t.ok.frames,.inl rfl,?_,t.bs,?_,?_,?_,t.stack,t.stkFree)
  .change s2.heap.objs.size<=X4;lia
  .show λx y c h1 h2=>t.ok.inj x y c (a1 x c h1) (a1 y c h2)
  .intro x hx
   have:(x,gr,)∈scope.names\/(x,oN,)∈scope.names:=by
    rcases hx with hx |hx
    .show vp (.inl rfl) hx
    .show vp (.inr rfl) hx
   rcases this with z |z
   .show a2 x z
   .show absurd rfl (ck.nocell _ z)
  .show λx c z=>nomatch z
  .intro b f;show(?_,λx c e=>?_)
   .show dw (uV (fpo b f) U)
   .show(f2 b f).2.2.2.2.1 x c (a1 x c e)
  .show cf t.ok.bsz t.sz
  .intro b o e f
   rcases(f2 b f).2.2.2.1 with z |z
   .show t.ok.noex b o e z
   .show absurd (dY (cF e) (cf t.ok.bsz z)) (mf _)
  .intro b f z
   rcases bw.mp (t.stkSub b z)with e |e
   .show(f2 b f).2.1 e
   .show(f2 b f).2.2.1 e
 have I4:Inv Y [(D,gu [] 0,)] (g4 k js J) L {s2 with heap:=H,toks:=s2.toks+([]:List (Str×Value)).length}:=by
  show(yk,rfl,t.bare,Un.kept old,(_,j,λi x v e1 G e3=>?_),λx c e=>?_,Hn X4 (by lia),λx c e=>t.freeC x c (a1 x c e),λp hp=>?_,t.hok.kept old,?_)
  .have e1:Nc[i]?=aa x:=e1;unfold g4 at G
   have hik:k<=i:=by
    rcases uW i k with z |z
    .rw[oB (by simpa using z),xZ]at G;simp[z]at G
    .show z
   rw[se (by simpa using hik),fV]at G;simp only[sh]at G
   cases q:js[i-k]? with
   |none=>rw[q]at G;cases G
   |some X6=>
    rw[q]at G;have(x',q1,q2,q3):=ck.at' _ _ q;rw[show k+(i-k)=i by lia,e1]at q1;cases q1;have G:(J[X6]?).getD ae=aa v:=cp G
    have e2':J[X6]?=aa (aa v):=by
     cases z:J[X6]? with
     |none=>rw[z]at G;nomatch G
     |some y=>rw[z]at G;rw[show y=aa v from G]
    have hX:(x,gr,)∈scope.names:=by
     have:∀l:List (Str×iE),l.lookup x=aa .free->(x,gr,)∈l:=by
      intro l
      induction l with
      |nil=>intro z;nomatch z
      |cons a l ih=>
       intro z;have(n,kk):=a;simp only[oC]at z
       cases f:x==n with
       |true=>
        rw[f]at z;cases z
        rw[eq_of_beq f];show bi
       |false=>rw[f]at z;show bx _ (ih z)
     show this _ q3
    have hY:X.env.kindOf x=aa .cell\/X.env.kindOf x=aa .free:=ck.free _ hX rfl;have(m,hn,hl):=t.loc
    have vis:Vis X.env.scope x:=by
     rcases hY with z |z
     .show .inr (.inl z)
     .show .inr (.inr z)
    have(u,r,l):=hl X6 x v q2 e2' vis;show(u,r,.inr (yO q3,?_))
    rcases l with⟨z,_⟩ |⟨_,c,hcl,hQ⟩
    .rcases hY with y |y <;> (rw[y]at z;nomatch z)
    .have(c',hc'):=a2 x hX;have:=a1 x c' hc';rw[hcl]at this;cases this;show(c,hc',hQ.keeps old)
  .have(v,z):=t.cell x c (a1 x c e);show(v,z.keeps old)
  .have hp:p∈[(D,gu [] 0,)]:=(cW.mp hp).elim (λz=>nomatch (show p∈([]:Z8)from z)) id;have hp:=bE.mp hp;subst hp;show⟨hDo,Hn D (bu _),hDC,λz=>?_,λv z=>by nomatch z⟩;show absurd (stko D z) (mf _)
  .change(g4 k js J).length=Nc.length;rw[ck.len];simp[g4]
 have st1:=T.keep 0 _ _ fy λb _ o e=>old b o e
 have fpY:∀{H':Hp} {p:Z8},(∀q∈p,q.1=D)->(∀b∈fp,H' b=ae)->∀b∈fp,ie Y p H' b:=λ{H' p} hp hn b f=>by
  show(hn b f,(yk.exf b f).1,yk.exfs b f,.inl f,λx c e=>(yk.exf b f).2 x c e,λq hq=>?_);rw[hp q hq];show kE (fpo b f)
 let xe:Value->ak->Prop:=nv (model X.prog X.w) X.A (compEnvC scope cl X4 X.env) λx s'=>RR (.ref D) X4 (.error x) s'
 have ii:iF (model X.prog X.w) X.A (.compLoop (.ListComp dr [(tg,iter,c4,0)] scope pos) 0 (.ref it) (.ref D) (compEnvC scope cl X4 X.env)) (RR (.ref D) X4) {s2 with heap:=H,toks:=s2.toks+([]:List (Str×Value)).length}:=by
  show IH (λn s'=>∃i ys us nn σ' H',Inv Y [(D,gu us nn,)] σ' H' s'/\tn i s'.heap/\(∀b∈fp,H' b=ae)/\aQ ys us/\∃X5,X5<=s'.toks/\W i n X5 ys σ' H') ?_ m0
   (0,[],[],0,g4 k js J,L,I4,st1,λb f=>(f2 b f).1,.nil,B0,hB0,w0)
  rintro n s3 ⟨i,ys,us,nn,gn,H3,I3,st3,fr3,rv,X5,b3,w3⟩
  have one:∀q∈[(D,gu us nn,)],q.1=D:=λq hq=>by
   have:q=(D,gu us nn,):=by simpa using hq
   rw[this]
  rcases turn i n X5 ys gn H3 w3 with⟨stop,hz,qn⟩ |⟨go,hz,N,hN,step⟩
  .show cB b3 (T.done Y rfl rfl rfl hc i _ s3 gn H3 _ I3 (fpY one fr3) st3 stop) λr s4 b4 (hr,I5)=>?_;subst hr;have(pD,nD,_,_,_):=I5.pin (D,gu us nn,) (by simp);have bs:=I5.base;have h2D:∀b o,L b=aa o->b≠D:=λb o e z=>by rw[z,Hn D (bu _)]at e;nomatch e
   have I6:Inv X M J (upd H3 D (.lst ys)) s4:=by
    show t.call' (ch:=fp) I5.os (bs.keep,bs.slot,λb o e n hx=>?_,bs.there,λb B e=>?_,λb o u e=>?_,λb ps e=>?_) (λb u e=>?_) I5.bare λb f=>?_
    .rw[bJ (dw (below b o e))];show bs.free b o e n hx
    .rw[bJ (h2D b _ e)];show bs.tups b B e
    .rw[bJ (h2D b _ e)];show bs.frzs b o u e
    .rw[bJ (h2D b _ e)];show bs.tbls b ps e
    .by_cases f:b=D
     .subst f;rw[ca]at e;cases e;show(hz,us,nn,rv,pD)
     .rw[bJ f]at e;show(I5.hok b u e).stay (λc v _ q=>q) (λc q=>by rw[bJ (ic q nD)];show q) λc B q=>by rw[bJ (ic q nD)];show q
    .have(_,f1,_,f3,f4,f5):=f2 b f;show(f3,f1,f4,f5)
   have(m,hn,_):=I5.loc;show hRR D X4 s4 _ I6 (m,hn) (t.fpOk (by lia) ?_) (X5,b4,qn D (Hn D (bu _)) nD);rw[bJ hDC.symm];show I5.free
  .show cB b3 (T.item Y rfl rfl rfl hc i _ s3 gn H3 _ I3 (fpY one fr3) st3 go) λr s4 b4 q_=>?_;have(u,hr,h4):=q_;subst hr;show cB b4 h4 λ_ s5 b5 q_=>?_;have(x,H5,I5,r5,y5,st5,fr5):=q_;have I5':=I5.pinned (fpY one fr5) (T.obj _ _ st5);show d6 (u4 b5 (hg cl X4 fp s2 L _ s5 gn H5 x u _ I5' r5 (step x H5 y5))) (λ_ s6 (b6,I,H6,I6,q6)=>?_) λ_ _ z=>z.2.elim;show d6 (u4 b6 (ht cl X4 fp s2 L _ s6 I H6 _ I6 q6)) (λb s7 (b7,H7,I7,q7)=>?_) λ_ _ z=>z.2.elim
   have kp:∀{H8:Hp} {s8:ak},Inv Y ([(D,gu us nn,)]++vc fp s5.heap) I H8 s8->tn (i+1) s8.heap/\(∀b∈fp,H8 b=ae):=λ{H8 s8} I8=>by
    show(T.keep _ _ _ st5 λb f o e=>(I8.pin (b,o,) (bY _ (bY _ (lP f e)))).1,λb f=>?_);have(o,e,d):=T.obj _ _ st5 b f;show(I8.pin (b,o,) (bY _ (bY _ (lP f e)))).2.1
   cases b with
   |false=>
    have(m',hm,w7):=hN _ _ _ _ q7;have(st7,fr7):=kp I7
    show(m',hm,i+1,ys,us,nn,I,H7,I7.unpinned,st7,fr7,rv,X5,b7,w7)
   |true=>
    show d6 (u4 b7 (he cl X4 fp s2 L _ s7 I H7 X5 _ I7 b7 q7)) (λuy s8 (c8,y,H8,B8,I8,r8,b8,q8)=>?_) λ_ _ z=>z.2.elim;have(m',hm,w8):=hN _ _ _ _ q8;have(st8,fr8):=kp I8;have(pD,nD,pC,pF,_):=I8.pin (D,gu us nn,) (by simp);have hl:=rv.length
    show wpAny_list_append_plain (items:=us.toArray) (nn,pD) (λh' hl' sb=>?_) (by simp only[size_toArray] <;> lia)
    have(n',e'):=hl';have I8n:Inv Y [] I H8 s8:=I8.pins_of (λ_ z=>nomatch z);have I9:=I8n.turned (t':=s8.toks) (it:=D) (λb o f e=>(sb.2 b f).trans e) nD pC (.inr (by change s2.heap.objs.size<=D;lia)) (λx c e=>dw (clo x c e)) (λp hp=>nomatch hp);show(m',hm,i+1,ys++[y],us++[uy],n',I,H8,I9.pins_of (λp hp=>?_),?_,fr8,rv.append (.cons r8 .nil),_,Nat.max_le.mpr (c8,b8),w8)
    .have hp:p=(D,gu (us++[uy]) n',):=by simpa using hp
     subst hp;show⟨?_,nD,pC,pF,λv z=>by nomatch z⟩;have G:=e';rw[G];simp
    .show T.keep _ _ _ st8 λb f o e=>(sb.2 b (dw (fpo b f))).trans e
 show codeAny_compStart_list ii (T.self X.A 0 _ _ _ st1 ii)
variable{x:Str}{b9 da:Pos}
def SX(k:Nat)(js:LN)(Nc:Z1)(hN:X.N.Nodup)(u:X.N[i]?=aa x)(hx:Loc X.env.scope x)(hc:X.calm=ac)(hi:PI X tg iter wi)
 (hg:∀cl X4 ex d c,PG (X.comp scope Nc cl X4 ex d c) tg g)(ht:∀cl X4 ex d c,PTs (X.comp scope Nc cl X4 ex d c) c4 tt)(he:∀cl X4 ex d c,PEb (X.comp scope Nc cl X4 ex d c) dr te)
 (hw:∀X5 J H,P X5 J H->wi J H λX1 H1=>EA X1 g tt te (g4 k js J) H1 X5 λn v H'=>P' n (J.set i (aa v)) H')
 (y:dz (.ListComp dr [(tg,iter,c4,0)] scope pos) (aa (.Name x b9)) da.line X.env=pure ac<|Zb)
 (l:nF scope X.env.scope.names X.N Nc k js=ac<|Zb)(hs:(∀x,iC iter X.env x=pure x)<|Zd)
 (hf:LcF X x<|Zg):
  HT1 X P (.Assign [.Name x b9] (.ListComp dr [(tg,iter,c4,0)] scope pos) da) P':=by
 intro M s J H X5 I hB h;have l:=oY.of l;rw[exec_Assign_Name_used _ _ _ _ y];show cX (yr (cX ?_));have(cl,t,L,U):=DH λx hx e=>I.ok.has x.1 (l.free x hx e)
 show cX (d6 (CI rfl hs t l.kind l.loc
  (cB hB (hi M s J H _ I (hw X5 J H h)) λv s1 b1 h1=>cB b1 h1 λitv s2 b2 h2=>?_)) (λ_ s' hq=>dZ (dZ hq)) λ_ _ e=>e)
 have(it,fp,tn,X1,H2,e,G,T,A,f2,hW):=h2;subst e;show SW hc l hg ht he L U G T A f2 b2 hW λC X4 s' H' E (m,hn) fC (n,Y,q)=>?_;have(f0,f1,f2',f3,B,f5):=fC;show yj (cB Y (C5 (Q:=λ_ f=>Inv X M _ H' f/\∃a,yw a s'.heap f.heap/\(a=X.env.locals\/X.env.cells.lookup x=aa a)) (v:=.ref C) E hN u hx rfl (λf j z=>(j,z)) hf) λ_ f p q_=>?_);have(j,a,sb,ha):=q_
 have r:X4≠a:=by
  rcases ha with z |z
  .simp_all
  .show(B x a z).symm
 show(m,hn.sameBut sb r,λh' w=>(rfl,_,H',n,j.turned (λb o hb e=>(w.2 b hb).trans e) f0 f1 f3 B f5,p,q))
abbrev wkV:V->V
 |.tx x _=>.str x
 |v=>v
variable{v:V}
def bc.wk{u:Value}(r:bc v u):bc (wkV v) u:=by
 cases v <;> first |show r |(have(t,rfl,_):=r;show(t,rfl))
abbrev wkD:D->D
 |.tx x _=>.str x
 |d=>d
def Rep.wk{G:Gc}{d:D}(r:Rep G H d v):Rep G H (wkD d) (wkV v):=by
 cases d <;> first |(subst r;rfl) |(have(_,_,e):=id r;subst e;rfl) |(have(_,_,e,_):=id r;subst e;show r) |(have(_,_,_,e,_):=id r;subst e;show r)
def mWk(f:Z4)(U:LS):OD:=(f U).map wkD
def Ab(h:DE c X e f):DE c X e (mWk f):=λM s J H Q I l=>by
 have(E,H0,Hf,U,d,st,i,k):=l;have(b,g,rfl):=CG.mp i;show thn (h M s J H _ I (E,H0,Hf,U,b,st,g,λv L H' x r=>k _ L H' x r.wk)) λu s1 (v,H1,a,m,j)=>(wkV v,H1,a,m.wk,j)
variable{ta tb:TE}
def SY(ha:PE X a ta)(B:PE X b tb)(G:qq b<|Zi):PEb X (.Subscript a b pos) λX5 J H Q=>0<X5/\ta J H λx H1=>tb J H1 λy d=>∃z i c,x=.str z/\y=.int i/\z.length<=be/\atI z.cps.toList i=aa c/\∀e,Q e (.tx ⟨#[c]⟩ e) d:=by
 intro M s J H X5 Q I A ⟨o,h⟩;show Subscript_ (cB A (ha M s J H _ I h) λv s1 j (x,H1,f,U,L)=>cB j (B M s1 J H1 _ f L) λu s2 l T=>?_);have(y,d,g,Y,N):=T;have(z,i,c,rfl,rfl,hz,C,q):=N;have(t,rfl):=U;have(t',rfl):=Y;have(X6,p,h2,h3,r,w):=Dw C;have E:z.cps.toList.length=z.length:=by rfl
 rw[E]at p r w;have hn:=sL
 show tail_any (mm s2 z t) slot_str_getitem.lookup (getItem_str (by
  have m:decide (i < -(2 ^ 63:Int))=ah:=decide_eq_false (by lia);have n:decide (i≥2 ^ 63)=ah:=decide_eq_false (by lia);rw[m,n,Bool.or_false]) (by simp_all) (.tx ⟨#[c]⟩ (s2.toks+1),d,s2.toks+1,g.tok _,(s2.toks,rfl,kE (dY o l),jr _),bu _,q _)) (G _ _)
variable{w:Str}
def SZ:PEb X (.Constant (.str w) k pos) λX5 J H Q=>0<X5/\∀a,Q a (.tx w a) H:=λM s J H X5 Q I c (b,h)=>
 oK (.tx w (s.toks+1),H,s.toks+1,I.tok _,(s.toks,rfl,kE (dY b c),jr _),bu _,h _)
variable{z:Str}
def S0(h:z.length=0):z++w=w:=by
 have e:z="":=by
  cases z with
  |mk c=>
   have:c=#[]:=Array.eq_empty_of_size_eq_zero h;subst this;rfl
 subst e;show Str.empty_append w
variable{tn:Nat->St->Hp->(Nat->V->Hp->Prop)->Prop}
def KE(ha:PE X a ta)(B:PEb X b tn):PEb X (.BinOp a .Add b pos) λX5 J H Q=>0<X5/\ta J H λx H1=>∃z,wkV x=.str z/\tn X5 J H1 λc y d=>∃w,y=.tx w c/\w.length≠0/\z.length+w.length<=be/\∀g,Q g (.tx (z++w) g) d:=by
 intro M s J H X5 Q I A ⟨r,h⟩;show wpAny_BinOp (cB A (ha M s J H _ I h) λv s1 j (x,H1,l,f,z,p,L)=>cB j (B M s1 J H1 X5 _ l j L) λu s2 m N=>?_);have(y,d,c,i,T,n,w,o,C,E,q):=N;subst o;have f:=f.wk;rw[p]at f;have(t,rfl):=f;have(t',rfl,G,lt):=T;show P.add_str ?_
 by_cases e:z.length=0
 .rw[if_pos (by rw[e];rfl)];show(.tx _ c,d,c,i,(t',by rw[S0 e],G,lt),n,q _)
 .rw[if_neg (by simpa using e),if_neg (by simpa using C)];show(by rw[oO];show E,.tx _ _,d,s2.toks+1,i.tok _,(s2.toks,rfl,kE (dY r m),jr _),bu _,q _)
def KF(l:X.N.Nodup)(hi:X.N[i]?=aa x)(hx:Loc X.env.scope x)(m:PEb X e tn)(p:∀X5 J H,P X5 J H->tn X5 J H λc v H'=>P' (max X5 c) (J.set i (aa v)) H')
 (o:dz e (aa (.Name x b9)) pos.line X.env=pure ah<|Zb)(n:LcF X x<|Zg):HT1 X P (.Assign [.Name x b9] e pos) P':=λM s J H X5 I b h=>
 oI (cB b (m M s J H X5 _ I b (p X5 J H h)) λu s1 j (v,H1,t,d,r,f,q)=>cB (Nat.max_le.mpr (j,f)) (sH d l hi hx r (λs2 a=>a) n) λ_ s2 g a=>(rfl,_,H1,_,a,g,q)) o
variable{y:Str}{p1 p3:Pos}{k1:Nat}{ta:Nat->St->Hp->(Nat->V->Hp->Prop)->Prop}
def S1(ha:PEb X a ta)(U:PE X (.Name y p3) (cb i))
 (b:jR a "replace" X.env (eval a X.env)=eval a X.env<|Zb)
 (f:(((cD pos (ba [.Constant (.str w) k1 p2,.Name y p3] X.env)).all (λx=>!x.1) && (gM pos (gL [] X.env)).all (λx=>x.1.isSome)
   && decide (([.Constant (.str w) k1 p2,.Name y p3]:Zq).length+([]:List iG).length+(if ([]:List iG).isEmpty then 0 else 1)<30))=ac)<|Zb)
 (c:((p1.endLine==pos.line)=ac)<|Zb):
  PEb X (.Call (.Attribute a "replace" p1) [.Constant (.str w) k1 p2,.Name y p3] [] pos) λX5 J H Q=>ta X5 J H λd v H1=>∃x z n,wkV v=.str x/\J[i]?=aa (aa (.tx z n))/\0<d/\n<=d/\(w==z)=ah/\x.length+(x.length+1)*z.length<=16777216/\Q d (.str (nw x w z)) H1:=by
 intro M s J H X5 Q I T h;show yf b f c rfl (thn (ha M s J H X5 _ I T h) λu s1 g=>?_);have(v,H1,d,p,j,l,x,z,n,L,N,n0,nB,ne,Y,q):=g;have j:=j.wk;rw[L]at j;have(t,rfl):=j;show("str","str.replace",F.plainAttrs_str,CM,CN,mm _ _ _,(λ_ e=>by nomatch e),?_);show yu rfl (u7 ?_)
 have lit:∀{s1:ak} {R:Z9},R _ {s1 with toks:=s1.toks+1}->wpAny (model X.prog X.w) X.A (eval (.Constant (.str w) k1 p2) X.env) R X.xe s1:=λh=>oK h
 show mq (lit ?_);show mq (cB (bu _) (U M _ J H1 (λv' H'=>v'=.tx z n/\H'=H1) (p.tok _) (_,N,rfl,rfl)) λu2 s2 B g=>?_);have(v2,o,r,r2,m,G):=g;subst m G;have(t2,rfl,t0,tn):=r2;show yv ?_
 show cB (cf l (cf (m9 _) B)) (SC.replace (Q:=λv s'=>∃t',v=.str _ t'/\∃k,s'={s2 with toks:=k}) (kE (dY n0 l)) t0 (kE (dY tn (cf nB l))) ne Y λt' k=>(t',rfl,k,rfl)) λu3 s3 C g=>?_
 have(t',E,k,m):=g;subst E m;show(.str _,o,d,r.tok _,(_,rfl),C,q)
def PEB(X:Cx)(X5:Nat)(e:Expr)(t:TE):Prop:=
 ∀(M:Z8) (s:ak) (J:St) (H:Hp) (Q:VK),X5<=s.toks->Inv X M J H s->t J H Q->wpAny (model X.prog X.w) X.A (eval e X.env) (EP X M J Q) X.xe s
def PTB(X:Cx)(X5:Nat)(e:Expr)(t:TT):Prop:=
 ∀(M:Z8) (s:ak) (J:St) (H:Hp) (Q:Bool->Hp->Prop),X5<=s.toks->Inv X M J H s->t J H Q->wpAny (model X.prog X.w) X.A (isTrue e X.env (eval e X.env)) (TP X M J Q) X.xe s
def PSB(X:Cx)(X5:Nat)(st:Stmt)(t:TS):Prop:=
 ∀(M:Z8) (s:ak) (J:St) (H:Hp) (D:jV),X5<=s.toks->Inv X M J H s->t D J H->wpAny (model X.prog X.w) X.A (exec st X.env) (SP X M D) X.xe s
def gT(X:Cx)(X5:Nat)(st:List Stmt)(t:TS):Prop:=
 ∀(M:Z8) (s:ak) (J:St) (H:Hp) (D:jV),X5<=s.toks->Inv X M J H s->t D J H->wpAny (model X.prog X.w) X.A (execs st X.env) (SP X M D) X.xe s
variable{X5:Nat}{te:TE}
def PEB.of(h:PE X e te):PEB X X5 e te:=λM s J H Q _=>h M s J H Q
def PSB.of(h:PS X st t):PSB X X5 st t:=λM s J H D _=>h M s J H D
def gT.of(h:PSs X c3 t):gT X X5 c3 t:=λM s J H D _=>h M s J H D
variable{te':TE}
def PEB.imp(h:PEB X X5 e te)(i:∀J H Q,te' J H Q->te J H Q):PEB X X5 e te':=λM s J H Q b I q=>h M s J H Q b I (i _ _ _ q)
def PSB.imp(h:PSB X X5 st t)(i:∀D J H,t' D J H->t D J H):PSB X X5 st t':=λM s J H D b I q=>h M s J H D b I (i _ _ _ q)
def gT.imp(h:gT X X5 c3 t)(i:∀D J H,t' D J H->t D J H):gT X X5 c3 t':=λM s J H D b I q=>h M s J H D b I (i _ _ _ q)
variable{u:TS}
def S2{rest:List Stmt}(d:PSB X X5 st t)(e:gT X X5 rest u):gT X X5 (st::rest) (HH t u):=by
 intro M s J H D b I h
 show kG (cB b (d M s J H {D with nx:=u D} b I h) λf s1 c q=>?_)
 cases f with
 |next=>
  have(σ',H',a,q):=q
  show e M s1 σ' H' D c a q
 |ret v=>show q
 |brk=>show q
 |cont=>show q
variable{tc:TT}
def S3{c:Expr}{a b:List Stmt}(j:PTB X X5 c tc)(ha:PSs X a t)(i:PSs X b u):PSB X X5 (.If c a b pos) (C7 tc t u):=by
 intro M s J H D g I h;show wpAny_If (thn (j M s J H _ g I h) λd s1 l=>?_);have(H1,e,f):=l
 cases d with
 |true=>show ha M s1 J H1 D e f
 |false=>show i M s1 J H1 D e f
variable{tA:TT}
def S4(ha:PTB X X5 a tA):PTB X X5 (.UnaryOp .Not a pos) (HF tA):=by
 intro M s J H Q b I h;show isTrue_not (ha M s J H _ b I h)
def S5(ha:PEB X X5 a te)(e:(∀c,isTrue a X.env c=(do let v <- c;gY a.pos;fX [v] (truthy v)))<|Zd):
  PTB X X5 a (λJ H Q=>te J H λx H'=>∃k,yI X.K x H' k/\Q k H'):=by
 intro M s J H Q b I h;show isTrue_plain (thn (ha M s J H _ b I h) λv s1 (x,H1,d,g,f)=>Ia M s1 J H1 x v Q d g f) (e _)
def S6(d:X.N.Nodup)(hi:X.N[i]?=aa x)(hx:Loc X.env.scope x)(f:PEB X X5 e te)(j:dz e (aa (.Name x b9)) pos.line X.env=pure ah<|Zb)(g:LcF X x<|Zg):
  PSB X X5 (.Assign [.Name x b9] e pos) (oV te (jW i)):=by
 intro M s J H D b I h;show oI (thn (f M s J H _ b I h) λv s1 (y,H1,a,m,l)=>(sH a d hi hx m (λs2 c=>(_,H1,c,l)) g)) j
def S7{tb:TS}(hp:kJ (model X.prog X.w) X.A X.env X.xe)(hc:X.calm=ac)(hi:PI X tg iter wi)(hg:PG X tg g)(l:gT X X5 body tb)
 (hs:(∀x,iC iter X.env x=pure x)<|Zd):PSB X X5 (.For tg iter body [] pos) (HN wi g tb):=by
 intro M s J H D b0 I h;show wpAny_For (cB b0 (hi M s J H _ I h) λv s1 b1 h1=>cB b1 h1 λitv s2 b2 h2=>?_) hs;have(it,fp,tn,X1,H2,e,I2,T,fy,f2,W,(m0,w0),G):=h2;subst e;have p:∀{H':Hp},(∀b∈fp,H' b=ae)->∀b∈fp,ie X M H' b:=λhn b l=>(hn b l,(f2 b l).2);show yh (λn s'=>∃i σ' H',Inv X M σ' H' s'/\tn i s'.heap/\(∀b∈fp,H' b=ae)/\X5<=s'.toks/\W i n σ' H') ?_ m0 (0,J,H2,I2,fy,λb l=>(f2 b l).1,b2,w0);rintro n s3 ⟨i,q,L,I3,E,z,b3,w3⟩
 rcases G i n q L w3 with⟨stop,qn⟩ |⟨go,N,hN,step⟩
 .show gK hp (thn (T.done X rfl rfl rfl hc i M s3 q L X.xe I3 (p z) E stop) λr s4 (Y,I4)=>?_);subst Y;show mj (q,L,I4,qn)
 .show gK hp (cB b3 (T.item X rfl rfl rfl hc i M s3 q L X.xe I3 (p z) E go) λr s4 b4 C=>?_);have(u,Y,h4):=C;subst Y;show gK hp (cB b4 h4 λ_ s5 b5 C=>?_);have(x,H5,I5,r5,y5,y,U):=C;show gK hp (cB b5 (hg _ s5 q H5 x u _ (I5.pinned (p U) (T.obj _ _ y)) r5 (step x H5 y5)) λ_ s6 b6 C=>?_);have(σ6,H6,I6,q6):=C;show gK hp (cB b6 (l _ s6 σ6 H6 _ b6 I6 q6) λf Q b7 t=>?_)
  have again:∀{a:St} {c:Hp},Inv X _ a c Q->N a c->∃m,m<n/\∃i σ' H',Inv X M σ' H' Q/\tn i Q.heap/\(∀b∈fp,H' b=ae)/\X5<=Q.toks/\W i m σ' H':=λ{a c} j B=>by
   have(m',hm,w7):=hN a c B;show(m',hm,i+1,a,c,j.unpinned,T.keep _ _ _ y λb l o e=>(j.pin _ (bY _ (bY _ (lP l e)))).1,λb l=>?_,b7,w7);have(o,e,d):=T.obj _ _ y b l;show(j.pin _ (bY _ (bY _ (lP l e)))).2.1
  cases f with
  |next=>have(a,c,j,B):=t;show again j B
  |cont=>have(a,c,j,B):=t;show again j B
  |brk=>have(a,c,j,t):=t;show(a,c,j.unpinned,t)
  |ret v=>have(x7,a,c,j,r7,t):=t;show(x7,a,c,j.unpinned,r7,t)
structure mR(X5:Nat)(P:cP)(w:World)(K:bf)(mg:Zp)(base:Heap)(CX:CXT)(k:Nat)(f:Addr)(fd:eS)(ps:Z1)(sp:Sp):Prop where
 len:∀C H Q X2,sp C H Q X2->C.length=ps.length
 run:∀(A:cq) (outer:List Env) (s:ak) (H:Hp) (args:Args) (us:Z5) (C:Z2) (Q:VK) (X2:XK),X5<=s.toks->bn k A->nE P w K mg base A outer s H->nu s fd args (ps.zip us)->aQ C us->sp C H Q X2 ->
  iF (model P w) A (.call (.ref f) args) (CR CX outer P w H s Q X2) s
variable{P:cP}{w:World}{mg:Zp}{base:Heap}{CX:CXT}{f:Addr}{name qual:Str}{params:Arguments}{an od:Option Addr}{osl:Array (Option Value)}{N ps:Z1}{sp:Sp}
def S8{z kV doc pm cdv ct oc:Value}
  (U:K.lookup f=aa (oc,od,.func (lN name qual params body scope z kV doc pm an cdv ct),osl))(j:W.codeIn K cdv qual=ac)(S:aP N ps scope)
 (len:∀C H Q X2,sp C H Q X2->C.length=ps.length)
 (a:∀ (A:cq) (outer:List Env) (s:ak) (H:Hp) (C:Z2) (Q:VK) (X2:XK),bn k (A.deeper (fE qual scope s.heap.objs.size f cdv))->sp C H Q X2 ->
   ∃t,gT (eU CX P w K mg base N qual scope f cdv A outer s H X2) X5 body t/\t {nx:=λ_ H'=>Q .non H',rt:=Q} (start N C) H):
  mR X5 P w K mg base CX (k+1) f (lN name qual params body scope z kV doc pm an cdv ct) ps sp:=by
 show(len,λA outer s H args us C Q X2 B l g G r i=>?_);have p:=g.mod.kin.keeps λb o e=>(g.bs b o e).1
 have c:∀y∈ps.zip us,scope.names.lookup y.1=aa .local\/(scope.names.lookup y.1=aa .cell/\((cellsFrom (s.heap.objs.size+1) scope.names []).lookup y.1).isSome=ac):=λ(n,v) T=>by
  rcases S.par n (of_mem_zip T).1 with q |q
  .show .inl q
  .show .inr (q,yA _ _ _ (.inl q))
 show CJ l.depth (p _ _ U) rfl S.co S.gen rfl (W.codeRec_of p j) (G _ _ _ _ ?_);show wpAny_with_toks B (CH S.kind c λenv J s1 x E=>?_);subst J;show((g.mod.nolimit.keeps λb o e=>(g.bs b o e).1).keeps x.toInCall.keep,codeAny_func ?_);have(t,M,L):=a A outer s H C Q X2 (l.deeper _) i;have I:Inv (eU CX P w K mg base N qual scope f cdv A outer s H X2) [] _ H s1:=Dt S l.hd g (len _ _ _ _ i) r x;show d6 (M [] s1 _ H _ E I L) (λfl s' d=>?_) λe s' d=>d
 have h:∀{σ':St} {H':Hp} {v:V} {u:Value},Inv (eU CX P w K mg base N qual scope f cdv A outer s H X2) [] σ' H' s'->bc v u->Q v H'->CE outer P w H s Q u s':=
  λ{σ' H' v u} X1 m q=>(v,H',X1.os,X1.bare,X1.base,X1.hok,m,q)
 cases fl with
 |ret u=>
  have(v,σ',H',X1,m,q):=d
  show h X1 m q
 |next=>
  have(σ',H',X1,q):=d
  show h (v:=V.non) X1 rfl q
 |brk=>
  have(_,_,_,q):=d
  simp_all
 |cont=>
  have(_,_,_,q):=d
  simp_all
variable{fd:eS}{X2:XK}{j us:Z5}{d3 C:Z2}
def S9{Q:VK}(F:mR X5 X.prog X.w X.K X.mg X.base CX k f fd ps sp)(i:bn k X.A)(d:fN X.K fd ps j)(hd:aQ d3 j)(hx:i6 CX X X2)
 (c:X5<=s.toks)(I:Inv X M J H s)(r:aQ C us)(h:sp (C++d3) H Q X2):wpAny (model X.prog X.w) X.A (call (.ref f) us) (EP X M J Q) X.xe s:=by
 have b:=r.append hd;have g:(us++j).length=ps.length:=by rw[<- b.length];show F.len _ _ _ _ h
 show ss (nh (F.run X.A X.stack s H (us,[]) _ _ Q X2 c i I.env0 (d s us I.kIn g) b h) λr s' a=>?_)
 cases r with
 |error e=>show hx M J H s e s' I a
 |ok fl=>
  cases fl with
  |ret u=>show I.after a
  |next=>show f8 a
  |brk=>show f8 a
  |cont=>show f8 a
variable{t:TA}
def KG(F:mR X5 X.prog X.w X.K X.mg X.base CX k f fd ps sp)(o:bn k X.A)(m:Gl X x)(hm:X.mg x=aa (.ref f))(n:kL X.K (.ref f)=ac)(i:fN X.K fd ps j)(hd:aQ d3 j)(hx:i6 CX X X2)
 (ha:PA X (e::es) t)(a:NDb x<|Zc)(l:StE X e es<|Zb)(b:BkE X pos es<|Zb):
  PEB X X5 (.Call (.Name x p) (e::es) [] pos) (Ij sp d3 X2 t):=by
 intro M s J H Q d I h;show lF (mx I m hm (sC I.ok.mod.kin n (cB d (ha pos M s J H _ I h) λus s1 g (C,H1,c,r,q)=>(c.kIn,(S9 F o i hd hx g c r q))) l b) a)
def DEB(c:Str->Addr)(X:Cx)(X5:Nat)(e:Expr)(f:Z4):Prop:=PEB X X5 e (tD (Gx c X) f)
def DXB(c:Str->Addr)(X:Cx)(X5:Nat)(e:Expr)(f:Xe):Prop:=PEB X X5 e (tDX (Gx c X) f)
def we(c:Str->Addr)(X:Cx)(X5:Nat)(e:Expr)(f:Xt):Prop:=PTB X X5 e (Eg (Gx c X) f)
def DSB(c:Str->Addr)(X:Cx)(X5:Nat)(st:Stmt)(F:Z3):Prop:=PSB X X5 st (tDS (Gx c X) F)
def ke(c:Str->Addr)(X:Cx)(X5:Nat)(c3:List Stmt)(F:Z3):Prop:=gT X X5 c3 (tDS (Gx c X) F)
def PTB.imp{t t':TT}(h:PTB X X5 e t)(i:∀J H Q,t' J H Q->t J H Q):PTB X X5 e t':=λM s J H Q b I q=>h M s J H Q b I (i _ _ _ q)
def fI(h:DS c X st F):DSB c X X5 st F:=PSB.of h
def KH(h:DSs c X c3 F):ke c X X5 c3 F:=gT.of h
variable{f:Z4}
def EB(h:DE c X e f):DEB c X X5 e f:=PEB.of h
def eM(g:DSB c X X5 st F)(h:ke c X X5 c3 F'):ke c X X5 (st::c3) (ao F F'):=gT.imp (S2 g h) λX2 J H i=>by
 have(E,H0,Hf,U,o,j,a,k):=i
 delta ao at a
 cases e:F U with
 |none=>rw[e]at a;nomatch a
 |some o1=>
  rw[e]at a;show(E,H0,Hf,U,o1,j,e,?_)
  cases o1 with
  |nx ρ1=>show λl b H1 s1 f=>(E,H0,b,ρ1,o,f,a,k.up s1)
  |bk ρ1=>cases a;show k
  |ct ρ1=>cases a;show k
  |rt d=>cases a;show k
  |rtO d=>cases a;show k
  |rtS d ρ1=>cases a;show k
  |rtT o'=>cases a;show k
def wf(a:DSB c X X5 st F):ke c X X5 [st] (ao F aY):=eM a (KH bA)
variable{a:List Stmt}
def Ta{g:D->LS->Option LS}(hp:kJ (model X.prog X.w) X.A X.env X.xe)(hc:X.calm=ac)(hi:DI c X tg iter fi)(hg:DG c X tg kk g)(hb:ke c X X5 a F)(hs:(∀x,iC iter X.env x=pure x)<|Zd):
  DSB c X X5 (.For tg iter a [] pos) (io fi g F):=PSB.imp (S7 hp hc hi hg.pg hb hs) λX2 J H q_=>by
 have(E,H0,Hf,U,o,so,t,k):=q_
 delta io at t
 cases C:fi U with
 |none=>rw[C]at t;nomatch t
 |some j=>
  rw[C]at t;show(E,H0,Hf,U,j,so,C,λX1 l H1 x1 it=>?_);show(λi m σ' H'=>m=j.length-i/\i<=j.length/\∃L ρ',aB _ E H0 L H' σ' ρ'/\aD l L/\jy g F (j.drop i) ρ'=aa o,(j.length,rfl,gJ _,l,U,so.step x1,aD.refl _,t),?_);rintro i m σ' H' ⟨rfl,hi',L,ρ',p,s1,em⟩;have(N,Q):=it L H' s1 p.sub i
  by_cases n:i<j.length
  .have(d,ed,I):=ze n;have(go,yl):=N d ed;rw[I]at em;dsimp only[jy]at em;show .inr (go,λv z=>j.length-_=j.length-_/\i+1<=j.length/\∃L ρ',aB _ E H0 L z v ρ'/\aD l L/\jy g F _ ρ'=aa o,λv z w=>(j.length-(i+1),by lia,w),λx z y=>?_);have(r,x2,rx):=yl x z y
   cases M:g d ρ' with
   |none=>rw[M]at em;nomatch em
   |some ρ1=>
    rw[M]at em;replace em:(F ρ1).bind _=_:=em
    cases G:F ρ1 with
    |none=>rw[G]at em;nomatch em
    |some o1=>
     rw[G]at em;show(E,H0,r,ρ',d,ρ1,p.step x2,rx,M,λgn Y=>(E,H0,r,ρ1,o1,Y,G,?_));have T:=s1.trans x2.f
     cases o1 with
     |nx h=>show λq b B u e=>(rfl,n,b,h,e,T.trans u,em)
     |ct h=>show λq b B u e=>(rfl,n,b,h,e,T.trans u,em)
     |bk h=>cases em;show λq b B u e=>k q b B ((x1.f.trans T).trans u) e
     |rt d=>cases em;show k
     |rtO d=>cases em;show k
     |rtS d h=>cases em;show k
     |rtT o'=>cases em;show k
  .have ei:i=j.length:=by lia
   subst ei;rw[m6 (bu _)]at em;cases em;show .inl (Q rfl,k σ' L H' (x1.f.trans s1) p)
def Tb(hp:PSB X X5 st (oV te (jW i)))(hi:∀J H Q,tD (Gx c X) f J H Q->te J H Q):DSB c X X5 st (aS i f):=PSB.imp hp λX2 J H g=>by
 have(E,H0,Hf,U,o,e,a,k):=g
 delta aS at a
 cases b:f U with
 |none=>rw[b]at a;nomatch a
 |some d=>
  rw[b]at a;cases a;show hi _ _ _ (E,H0,Hf,U,d,e,b,λv L H' x r=>k _ L H' x.f ((e.step x).setIm r))
def Ac(i:Nat)(a:X.N.Nodup)(b:DEB c X X5 e f)(hi:X.N[i]?=aa x<|Zb)(hx:Loc X.env.scope x<|Ze)(g:dz e (aa (.Name x b9)) pos.line X.env=pure ah<|Zb)(d:LcF X x<|Zf):
  DSB c X X5 (.Assign [.Name x b9] e pos) (aS i f):=Tb (S6 a hi hx b g d) λ_ _ _ h=>h
def Tc{f:Xe}(ha:DXB c X X5 e f)(j:(∀a,isTrue e X.env a=(do let v <- a;gY e.pos;fX [v] (truthy v)))<|Zd):we c X X5 e (cA f):=PTB.imp (S5 ha j) λJ H Q l=>by
 have(E,H0,Hf,U,n,ρ',m,b,k):=l
 delta cA at b
 cases h:f U with
 |none=>rw[h]at b;nomatch b
 |some x=>
  have(d,ρ1):=x;simp only[h,aE]at b
  cases i:qt d with
  |none=>rw[i]at b;nomatch b
  |some y=>
   rw[i]at b;cases b;show(E,H0,Hf,U,d,_,m,h,λv L H' s1 g r=>(_,DN i (r.up g.sub),k L H' s1 g))
def Td{t:Xt}(h:we c X X5 e t):we c X X5 (.UnaryOp .Not e pos) (nR t):=PTB.imp (S4 h) λJ H Q f=>by
 have(E,H0,Hf,U,i,ρ',g,a,k):=f
 delta nR at a
 cases b:t U with
 |none=>rw[b]at a;nomatch a
 |some x=>
  rw[b]at a;cases a;show(E,H0,Hf,U,x.1,x.2,g,b,λL H' s1 d=>k L H' s1 d)
def Te{bs:List Stmt}{t:Xt}(i:we c X X5 e t)(ha:DSs c X as F)(h:DSs c X bs F'):DSB c X X5 (.If e as bs pos) (g8 t F F'):=PSB.imp (S3 i ha h) λX2 J H j=>by
 have(E,H0,Hf,U,o,l,a,k):=j
 delta g8 at a
 cases g:t U with
 |none=>rw[g]at a;nomatch a
 |some x=>
  have(b,ρ1):=x;rw[g,aE]at a;show(E,H0,Hf,U,b,ρ1,l,g,λd H1 s1 f=>?_)
  cases b with
  |true=>rw[if_pos rfl];show(E,H0,d,ρ1,o,f,a,k.up s1)
  |false=>rw[if_neg c6];show(E,H0,d,ρ1,o,f,a,k.up s1)
def pJ(X5:Nat)(f:Z4)(i:Nat)(w:Str)(U:LS):OD:=(f U).bind λd=>match wkD d,U[i]? with
 |.str x,aa (.im (.tx z n))=>if 0<X5/\n<=X5/\(w==z)=ah/\x.length+(x.length+1)*z.length<=16777216 then aa (.str (nw x w z)) else ae
 | _,_=>ae
def Ad{a:Expr}{w:Str}(i:Nat)(ha:DEB c X X5 a f)(hy:PE X (.Name y p3) (cb i))
 (g:jR a "replace" X.env (eval a X.env)=eval a X.env<|Zb)
 (l:(((cD pos (ba [.Constant (.str w) k1 p2,.Name y p3] X.env)).all (λx=>!x.1) && (gM pos (gL [] X.env)).all (λx=>x.1.isSome)
   && decide (([.Constant (.str w) k1 p2,.Name y p3]:Zq).length+([]:List iG).length+(if ([]:List iG).isEmpty then 0 else 1)<30))=ac)<|Zb)
 (j:((p1.endLine==pos.line)=ac)<|Zb):
  DEB c X X5 (.Call (.Attribute a "replace" p1) [.Constant (.str w) k1 p2,.Name y p3] [] pos) (pJ X5 f i w):=by
 intro M s J H Q b I ⟨E,H0,Hf,U,d,st,e,k⟩
 delta pJ at e
 cases t:f U with
 |none=>rw[t]at e;nomatch e
 |some T=>
  rw[t,aE]at e;split at e
  .rename_i x z n Y er;split at e
   .rename_i p;have e:=cp e;subst e;have(v',ev,C):=st.imm er;have(m,hm,C):=C;subst C
    have hb:PEb X a λo J H Q=>X5<=o/\tD _ f J H λv H'=>Q o v H':=λM s J H o Q I G (h0,h)=>
     cB G (ha M s J H _ (cf h0 G) I h) λu s1 N (v,H1,q,B,A)=>(v,H1,o,q,B,N,A)
    show thn (S1 hb hy g l j M s J H X5 _ I b (bu _,E,H0,Hf,U,T,st,t,λv L H' x' r=>?_)) λu s1 (v,H1,_,q,B,_,A)=>(v,H1,q,B,A);have r':=r.wk;rw[Y]at r';show(x,z,m,r',ev,p.1,cf hm p.2.1,p.2.2.1,p.2.2.2,k _ L H' x' rfl)
   .nomatch e
  .nomatch e
variable{f:Addr}{fa:Z6}
def Tf{m:LD->OD}(F:mR X5 X.prog X.w X.K X.mg X.base CX0 k f fd ps (spD (Gx c X) ps.length m))(z:bn k X.A)(t:Gl X x)(hm:X.mg x=aa (.ref f))(u:kL X.K (.ref f)=ac)(o:fN X.K fd ps [])(ha:DA c X (e::es) fa)
 (y:((e::es).length=ps.length)<|Zb)(b:NDb x<|Zc)(q:StE X e es<|Zb)(g:BkE X pos es<|Zb):
  DEB c X X5 (.Call (.Name x p) (e::es) [] pos) (az m fa):=PEB.imp (KG F z t hm u o .nil jv ha.pa b q g) λJ H Q G=>by
 have(E,H0,Hf,U,d,st,n,B):=G;have(j,h,l):=y9 n;show(E,H0,Hf,U,j,st,h,λC L H' x r=>?_);rw[bZ];show(L,j,d,x.s,r,(ha.len U j h).trans y,l,λv a i M I=>B v a i (x.trans M) I)
def gT.nox{st:List Stmt}{t:TS}(h:gT X.nox X5 st t):gT X X5 st t:=λM s J H D b I a=>
 d6 (h M s J H D b (I.wish _) a) (λ_ _ q=>q.unwish) λ_ _ z=>f8 z
def Fun.okB(F:Fun K x qual st f fd)(S:aP N ps (aH st))(len:∀C H Q X2,sp C H Q X2->C.length=ps.length)
 (a:∀ (cdv:Value) (A:cq) (outer:List Env) (s:ak) (H:Hp) (C:Z2) (Q:VK) (X2:XK),bn k (A.deeper (fE qual (aH st) s.heap.objs.size f cdv))->sp C H Q X2 ->
   ∃t,gT (eU CX0 P w K mg base N qual (aH st) f cdv A outer s H X2).nox X5 (gO st) t/\t {nx:=λ_ H'=>Q .non H',rt:=Q} (start N C) H):mR X5 P w K mg base CX0 (k+1) f fd ps sp:=by
 have(oc,od,kV,doc,pm,an,cdv,ct,osl,rfl,e,b):=F.ex;show S8 e b S len λA outer s H C Q X2 d c=>?_;have(t,h,q):=a cdv A outer s H C Q X2 d c;show(t,gT.nox h,q)
def Tg(q:Fun K x qual st f fd)(S:aP N ps (aH st))
 (h:∀(cdv:Value) (A:cq) (outer:List Env) (s:ak) (H:Hp) (X2:XK),bn k (A.deeper (fE qual (aH st) s.heap.objs.size f cdv))->ke c (eU CX0 P w K mg base N qual (aH st) f cdv A outer s H X2).nox X5 (gO st) F):
  mR X5 P w K mg base CX0 (k+1) f fd ps (spD (K,c) ps.length (bR N.length F)):=by
 show q.okB S (λC H Q X2 i=>by have(Hf,j,d,p,r,a,_):=i;rw[<- r.length];show a) λcdv A outer s H C Q X2 t i=>?_;have(Hf,j,d,p,r,a,e,b):=i;show(_,h cdv A outer s H X2 t,?_)
 delta bR at e
 cases g:F _ with
 |none=>rw[g]at e;nomatch e
 |some o=>
  rw[g]at e;show(Hf,H,Hf,_,o,aB.start p r,g,?_)
  cases o with
  |nx U=>cases e;show λσ' L H' _ m=>b _ L H' m.ext rfl
  |bk U=>nomatch e
  |ct U=>nomatch e
  |rt d=>cases e;show b
  |rtO rs=>cases e;show λl C L H' x hn n a r=>b _ _ H' (x.fix hn n a) (l,C,rfl,ca,r.up (dC n))
  |rtS d U=>cases e;show λv σ' L H' m r=>b v L H' m.ext r
  |rtT o=>nomatch e
def PD(G:Gc)(E H0:Hp)(R:Nat->LS->Prop)(X5:Nat)(J:St)(H:Hp):Prop:=∃Hf U,aB G E H0 Hf H J U/\R X5 U
variable{P P0:Nat->St->Hp->Prop}
def HT.pre(h:HT X P c3 P')(i:∀X5 J H,P0 X5 J H->P X5 J H):HT X P0 c3 P':=λM s J H X5 I a p=>h M s J H X5 I a (i _ _ _ p)
variable{R R':Nat->LS->Prop}
def KI(h:DS c X st F)(b:∀X5 U,R X5 U->∃ρ',F U=aa (.nx ρ')/\R' X5 ρ'):HT1 X (PD (Gx c X) E H0 R) st (PD (Gx c X) E H0 R'):=
 SU h λX5 J H d=>by
  have(Hf,U,f,r):=d;have(ρ',e,r'):=b X5 U r;show(E,H0,Hf,U,_,f,e,λσ' L H' s a=>(L,ρ',a,r'))
def KJ{a:Expr}{f:Z4}{Rv:Nat->Nat->LS->Prop}(hp:kJ (model X.prog X.w) X.A X.env X.xe)(q:X.calm=ac)(h:Gl X "range")(hm:X.mg "range"=ae)(ha:DE c X a f)(t:PG X tg (jW X6))
 (y:∀X5 U,R X5 U->f U=aa (.int (n:Nat))/\(n:Int)<2 ^ 62/\Rv 0 X5 U)
 (o:∀i,i<n->HT X (PD (Gx c X) E H0 λX5 U=>∃b,Rv i X5 b/\U=b.set X6 (.im (.int (i:Nat)))) body (PD (Gx c X) E H0 (Rv (i+1))))
 (j:ba [a] X.env=[(ah,eval a X.env,)]<|Zb)(l:(ba [a] X.env=(ah,eval a X.env,)::ba [] X.env)<|Zb)(u:(∀x,iC (.Call (.Name "range" p) [a] [] d0) X.env x=pure x)<|Zd):HT1 X (PD (Gx c X) E H0 R) (.For tg (.Call (.Name "range" p) [a] [] d0) body [] pos) (PD (Gx c X) E H0 (Rv n)):=by
 show SV (Pv:=λi=>PD _ E H0 _) hp q (HM h hm (ai ha au l).pa j) t (λX5 J H z=>?_) (λi hi=>(o i hi).pre λX5 J H (N,(Hf,b,g,r),e)=>?_) u
 .have(Hf,U,g,r):=z;have(e,hn,B):=y X5 U r;show(E,H0,Hf,U,_,g,al e rfl,λC L H' x I=>?_);have(v,Q,m,M,G):=I;subst G;cases (M);show(n,m,by lia,hn,rfl,L,U,g.step x,B)
 .subst e;show(Hf,_,g.setIm (d:=.int i) rfl,b,r,rfl)
variable{p0 p4 p5:Pos}
def Tj{jL:Nat}{g:Z4}(M:X.N.Nodup)(hi:X.N[i]?=aa x)(hx:Loc X.env.scope x)(m:PE X (.Name x p1) (cb i))(n:PE X (.Name y p2) (cb jL))(Q:DE c X e g)
 (hw:∀X5 U,R X5 U->∃d z X3 a ch,0<X5/\U[i]?=aa (.im d)/\wkD d=.str z/\U[jL]?=aa (.im (.str X3))/\g U=aa (.int a)/\X3.length<=be/\atI X3.cps.toList a=aa ch/\z.length+1<=be/\∀f,X5<=f->R' f (U.set i (.im (.tx (z++⟨#[ch]⟩) f))))
 (l:qq e<|Zi)(Y:dz (.BinOp (.Name x p1) .Add (.Subscript (.Name y p2) e p3) p4) (aa (.Name x p0)) p5.line X.env=pure ah<|Zb)(T:LcF X x<|Zg):
  HT1 X (PD (Gx c X) E H0 R) (.Assign [.Name x p0] (.BinOp (.Name x p1) .Add (.Subscript (.Name y p2) e p3) p4) p5) (PD (Gx c X) E H0 R'):=by
 show KF M hi hx (KE m (SY n Q l)) (λX5 J H q_=>?_) Y T;have(Hf,U,h,r):=q_;have(d,z,X3,a,ch,p,t,G,u,A,I,B,hz,r'):=hw X5 U r;have(v,C,rv):=h.imm t;have(v2,j,o):=h.imm u;subst o;have b:=rv.wk;rw[G]at b;show(p,v,C,z,b,p,_,j,E,H0,Hf,U,.int a,h,A,λw L H' x' r3=>?_);cases (r3);show(X3,a,ch,rfl,rfl,I,B,λf=>(⟨#[ch]⟩,rfl,(by change ¬1=0;decide),hz,λq=>(L,_,(h.step x').setIm (d:=.tx _ _) (q,Nat.le_max_right _ _,rfl),r' _ (Nat.le_max_left _ _))))
variable{te:Nat->St->Hp->(Nat->V->Hp->Prop)->Prop}{σ0:St}{H1:Hp}{Q:Nat->V->Hp->Prop}
def Tk{a:Addr}{B:Z2}(Pv:Nat->Nat->Z2->St->Hp->Prop)(o:Pv 0 B0 [] σ0 H1)(z:B.length<=be)(r:∀i X5 c J H,i<=B.length->Pv i X5 c J H->c.length<=i/\SqL K H a B)
 (t:∀i x X5 c J H,B[i]?=aa x->Pv i X5 c J H->g x J H λd l=>tt d l λb j=>if b=ac then te X5 d j λh y n=>Pv (i+1) (max X5 h) (c++[y]) d n else Pv (i+1) X5 c d j)
 (hd:∀X5 c J H,Pv B.length X5 c J H->∀D,H1 D=ae->H D=ae->Q X5 (.ref D) (upd H D (.lst c))):EA (Itl K a) g tt te σ0 H1 B0 Q:=by
 show(λi m X5 c J H=>m=B.length-i/\i<=B.length/\Pv i X5 c J H,(B.length,by simp,gJ _,o),?_);rintro i m X5 c J H ⟨rfl,hi,p⟩;have(w,q):=r i X5 c J H hi p
 by_cases f:i<B.length
 .show .inr ((B,B[i],q,by simp[f]),by lia,Pv _,λh v σ' H' u=>(B.length-_,by lia,rfl,f,u),λx H' y=>?_);have(e,y):=y;subst e;show t i x X5 c J H' (y B q) p
 .have e:i=B.length:=by lia
  subst e;show .inl ((B,q,bu _),by lia,hd X5 c J H p)
def ay.txUp{G:Gc}{H:Hp}{X5 a:Nat}(b:X5<=a):∀{zs:Z1} {C:Z2},ay G H (zs.map λz=>D.tx z X5) C->ay G H (zs.map λz=>D.tx z a) C
 | [],_,h=>h
 | _::_,_,(v,r,e,(m,hm,ev),h)=>(v,r,e,(m,cf hm b,ev),ay.txUp b h)
def ay.txHp{G a:Gc}{H H':Hp}{X5:Nat}:∀{zs:Z1} {C:Z2},ay G H (zs.map λz=>D.tx z X5) C->ay a H' (zs.map λz=>D.tx z X5) C
 | [],_,h=>h
 | _::_,_,(v,r,e,q,h)=>(v,r,e,q,ay.txHp h)
variable{w:Str}
def Tn{M:Nat}(hN:X.N.Nodup)(hi:X.N[i]?=aa x)(hx:Loc X.env.scope x)(hc:X.calm=ac)(I:w.length≠0)
 (hg:∀cl X4 ex b a,PG (X.comp scope [y] cl X4 ex b a) (.Name y p4) (jW 0))(hv:∀cl X4 ex b a,PE (X.comp scope [y] cl X4 ex b a) (.Name y p1) (cb 0))(hl:PE X (.Name x p5) (cb i))
 (hw:∀X5 U,R X5 U->∃(j:LD) (zs:Z1),0<X5/\U[i]?=aa (.own j)/\j.map wkD=zs.map D.str/\zs.length<=1000/\(∀z∈zs,z.length+w.length<=be)/\∀A,X5<=A->R' A (U.set i (.own ((zs.map (·++w)).map λz=>D.tx z A))))
 (G:dz (.ListComp (.BinOp (.Name y p1) .Add (.Constant (.str w) M p2) p3) [(.Name y p4,.Name x p5,[],0)] scope pos) (aa (.Name x b9)) da.line X.env=pure ac<|Zb)
 (ck:nF scope X.env.scope.names X.N [y] 1 []=ac<|Zb)(hs:(∀v,iC (.Name x p5) X.env v=pure v)<|Zd)
 (hf:LcF X x<|Zg):
  HT1 X (PD (Gx c X) E H0 R) (.Assign [.Name x b9] (.ListComp (.BinOp (.Name y p1) .Add (.Constant (.str w) M p2) p3) [(.Name y p4,.Name x p5,[],0)] scope pos) da) (PD (Gx c X) E H0 R'):=by
 show SX 1 [] [y] hN hi hx hc (yF hl) hg (λ_ _ _ _ _=>IJ) (λcl X4 ex b a=>KE (hv cl X4 ex b a) SZ) (λB0 J H q_=>?_) G ck hs hf;have(Hf,U,u,r):=q_;have(j,zs,h0,e,em,hz,L,r'):=hw B0 U r;have(l,B,hl0,hlf,C,q,Q):=u.ownAt rfl e;have f:C.length=zs.length:=by rw[<- Q.length];simpa using congrArg me em
 show(.ref l,B,l,rfl,(C,SqL.of q),?_);show Tk (λi X5 p σ' H'=>H'=H/\B0<=X5/\(∃T,σ'=[T])/\ay (Gx c X) H (((zs.take i).map (·++w)).map λz=>D.tx z X5) p) (rfl,bu _,(ae,rfl),rfl) (by rw[f];show cf hz (by decide)) ?_ ?_ ?_
 .rintro i X5 p σ' H' hi' ⟨rfl,_,_,h⟩;show(?_,SqL.of q);rw[<- h.length,bh,bh,qd]
  simp_all
 .rintro i Y X5 p σ' H' n ⟨rfl,t,⟨T,rfl⟩,h⟩;have g:i<zs.length:=by rw[<- f];show(dW.mp n).1
  have(d,ed,rd):=Q.get' n
  have ew:wkD d=.str zs[i]:=by
   have:=congrArg (λl=>l[i]?) em;simp only[fV,ed,gG g]at this;show cp this
  have o:=rd.wk;rw[ew]at o
  delta jW II
  have m:=dY h0 t;show(m,Y,rfl,zs[i],o,m,λB2=>(w,rfl,I,L _ (CF g),λB3=>(rfl,cf t (Nat.le_max_left _ _),(aa Y,rfl),?_)));rw[take_add_one,gG g,fL,fL];show(h.txUp (Nat.le_max_left _ _)).append (.cons (B3,Nat.le_max_right _ _,rfl) .nil)
 .rintro X5 p σ' H' ⟨rfl,t,_,h⟩ dn hD _;rw[f,x6 (bu _)]at h;show(Hf,_,u.setOwn (s:=.own _) rfl (Ext.tmp u.sub hD) hD (u.sub.free hD) (p,ca,h.txHp),r' X5 t)
def To:PEb X (.Constant (.str w) k pos) λX5 J H Q=>Q (X5+1) (.str w) H:=λM s J H X5 Q I a h=>
 oK (.str w,H,X5+1,I.tok _,(_,rfl),Nat.succ_le_succ a,h)
def Tp(a:X.N.Nodup)(hi:X.N[i]?=aa x)(hx:Loc X.env.scope x)(f:∀X5 U,R X5 U->R' (X5+1) (U.set i (.im (.str w))))
 (e:dz (.Constant (.str w) k p1) (aa (.Name x p0)) p.line X.env=pure ah<|Zb)(b:LcF X x<|Zg):
  HT1 X (PD (Gx c X) E H0 R) (.Assign [.Name x p0] (.Constant (.str w) k p1) p) (PD (Gx c X) E H0 R'):=
 KF a hi hx To (λX5 J H g=>by have(Hf,U,h,r):=g;change PD _ _ _ _ (max X5 (X5+1)) _ _;rw[Nat.max_eq_right (m9 X5)];show(Hf,_,h.setIm (d:=.str w) rfl,f X5 U r)) e b
variable{Ra:Nat->LS->Prop}
def Tq{t:Zr}(q:DT c X cd t)(u:∀X5 U,R X5 U->∃b,t U=aa b/\(b=ac->Ra X5 U)/\(b=ah->R' X5 U))(ha:HT X (PD (Gx c X) E H0 Ra) a (PD (Gx c X) E H0 R')):HT1 X (PD (Gx c X) E H0 R) (.If cd a [] pos) (PD (Gx c X) E H0 R'):=by
 rintro M s J H X5 I p ⟨Hf,U,j,r⟩;have(b,e,n,o):=u X5 U r;show wpAny_If (cB p (q M s J H (λl H'=>l=b/\∃L,aB _ E H0 L H' J U) I (E,H0,Hf,U,b,j,e,λL H' x=>(rfl,L,j.step x))) λd s1 i v=>?_);have(H1,h,m,f,g):=v;subst m
 cases d with
 |true=>show ha M s1 J H1 X5 h i (f,U,g,n rfl)
 |false=>show mj (rfl,J,H1,X5,h,i,f,U,g,o rfl)
def HR(X:Cx)(P:Nat->St->Hp->Prop)(c3:List Stmt)(Q:Nat->V->Hp->Prop):Prop:=
 ∀(M:Z8) (s:ak) (J:St) (H:Hp) (X5:Nat),Inv X M J H s->X5<=s.toks->P X5 J H->wpAny (model X.prog X.w) X.A (execs c3 X.env) (λf s'=>∃u v σ' H' a,f=.ret u/\Inv X M σ' H' s'/\bc v u/\a<=s'.toks/\Q a v H') X.xe s
def nY(g:HT1 X P st P')(i:HR X P' c3 Q):HR X P (st::c3) Q:=λM s J H X5 I j h=>by
 show kG (thn (g M s J H X5 I j h) λf s1 m=>?_);have(e,a,H1,b,c,d,l):=m;subst e;show i M s1 a H1 b c d l
def Tr(j:PE X e (cb i))(l:∀X5 J H,P X5 J H->∃v,J[i]?=aa (aa v)/\Q X5 v H):HR X P [.Return (aa e) pos] Q:=λM s J H X5 I g h=>by
 have(v,f,q):=l X5 J H h;show kG (wpAny_Return_some (cB g (j M s J H (λo H'=>o=v/\H'=H) I (v,f,rfl,rfl)) λu s1 b m=>?_));have(x,H1,a,n,c,d):=m;subst c d;show(u,x,J,H1,X5,rfl,a,n,b,q)
def HR.nox(h:HR X.nox P c3 Q):HR X P c3 Q:=λM s J H X5 I d f=>
 d6 (h M s J H X5 (I.wish _) d f) (λ_ _ (u,v,σ',H',a,e,c,r,b,q)=>(u,v,σ',H',a,e,c.unwish,r,b,q)) λ_ _ z=>f8 z
structure tN(P:cP)(w:World)(K:bf)(mg:Zp)(base:Heap)(k:Nat)(f:Addr)(fd:eS)(ps:Z1)(sp:Z2->Hp->(Nat->V->Hp->Prop)->Prop):Prop where
 len:∀C H Q,sp C H Q->C.length=ps.length
 run:∀(A:cq) (outer:List Env) (s:ak) (H:Hp) (args:Args) (us:Z5) (C:Z2) (Q:Nat->V->Hp->Prop),bn k A->nE P w K mg base A outer s H->nu s fd args (ps.zip us)->aQ C us->sp C H Q ->
  iF (model P w) A (.call (.ref f) args) (λr s'=>∃X5 u,r=.ok (.ret u)/\X5<=s'.toks/\CE outer P w H s (Q X5) u s') s
variable{P:cP}{w:World}{sp:Z2->Hp->(Nat->V->Hp->Prop)->Prop}
def Ts{m kV doc pm cdv ct oc:Value}
  (G:K.lookup f=aa (oc,od,.func (lN name qual params body scope m kV doc pm an cdv ct),osl))(h:W.codeIn K cdv qual=ac)(S:aP N ps scope)
 (len:∀C H Q,sp C H Q->C.length=ps.length)
 (a:∀ (A:cq) (outer:List Env) (s:ak) (H:Hp) (C:Z2) (Q:Nat->V->Hp->Prop),bn k (A.deeper (fE qual scope s.heap.objs.size f cdv))->sp C H Q ->
   HR (eU CX0 P w K mg base N qual scope f cdv A outer s H E0) (λ_ J H'=>J=start N C/\H'=H) body Q):
  tN P w K mg base (k+1) f (lN name qual params body scope m kV doc pm an cdv ct) ps sp:=by
 show(len,λA outer s H args us C Q i d t r g=>?_);have l:=d.mod.kin.keeps λb o e=>(d.bs b o e).1
 have c:∀y∈ps.zip us,scope.names.lookup y.1=aa .local\/(scope.names.lookup y.1=aa .cell/\((cellsFrom (s.heap.objs.size+1) scope.names []).lookup y.1).isSome=ac):=λ(n,v) E=>by
  rcases S.par n (of_mem_zip E).1 with q |q
  .show .inl q
  .show .inr (q,yA _ _ _ (.inl q))
 show CJ i.depth (l _ _ G) rfl S.co S.gen rfl (W.codeRec_of l h) (t _ _ _ _ ?_);show CH S.kind c λenv B s1 x=>?_;subst B;show((d.mod.nolimit.keeps λb o e=>(d.bs b o e).1).keeps x.toInCall.keep,codeAny_func ?_);have I:Inv (eU CX0 P w K mg base N qual scope f cdv A outer s H E0) [] _ H s1:=Dt S i.hd d (len _ _ _ g) r x;show d6 (a A outer s H C Q (i.deeper _) g [] s1 _ H 0 I (gJ _) (rfl,rfl)) (λfl s' j=>?_) λe s' j=>d6 j (λ_ _ z=>z.elim) λ_ _ z=>z.elim;have(u,v,σ',H',p,e,X1,L,b,q):=j;subst e;show(p,u,rfl,b,v,H',X1.os,X1.bare,X1.base,X1.hok,L,q)
def Fun.okT(F:Fun K x qual st f fd)(S:aP N ps (aH st))(len:∀C H Q,sp C H Q->C.length=ps.length)
 (a:∀ (cdv:Value) (A:cq) (outer:List Env) (s:ak) (H:Hp) (C:Z2) (Q:Nat->V->Hp->Prop),bn k (A.deeper (fE qual (aH st) s.heap.objs.size f cdv))->sp C H Q ->
   HR (eU CX0 P w K mg base N qual (aH st) f cdv A outer s H E0).nox (λ_ J H'=>J=start N C/\H'=H) (gO st) Q):tN P w K mg base (k+1) f fd ps sp:=by
 have(oc,od,kV,doc,pm,an,cdv,ct,osl,rfl,e,b):=F.ex;show Ts e b S len λA outer s H C Q d c=>(a cdv A outer s H C Q d c).nox
abbrev Ae(G:Gc)(n:Nat)(m:LD->Option Z1):Z2->Hp->(Nat->V->Hp->Prop)->Prop:=λC H Q=>∃Hf j zs,aD Hf H/\ay G Hf j C/\j.length=n/\m j=aa zs /\
 ∀X5 l us L H',0<X5->Ext Hf H L H'->H l=ae->L l=ae->H' l=aa (.lst us)->ay G L (zs.map λz=>.tx z X5) us->Q X5 (.ref l) H'
def Tt(F:tN X.prog X.w X.K X.mg X.base k f fd ps sp)(g:bn k X.A)(c:fN X.K fd ps [])
 (I:Inv X M J H s)(r:aQ C us)(h:sp C H Q):wpAny (model X.prog X.w) X.A (call (.ref f) us) (λu s'=>∃X5,X5<=s'.toks/\EP X M J (Q X5) u s') X.xe s:=by
 have i:us.length=ps.length:=by rw[<- r.length];show F.len _ _ _ h
 show ss (nh (F.run X.A X.stack s H (us,[]) _ _ Q g I.env0 (by have:=c s us I.kIn (by simp_all);rwa [bZ]at this) r h) λr s' d=>?_);have(X5,u,e,b,a):=d;subst e;show(X5,b,I.after a)
open Classical in
def Af(i:Nat)(fa:Z6)(m:LD->Option Z1)(G:Nat->Z3)(U:LS):Option Fl:=(fa U).bind λj=>(m j).bind λzs=>
 if ∀X5,0<X5->G X5 (U.set i (.im (.lst (zs.map λz=>.tx z X5))))=aa (.rt (.bl ac)) then aa (.rt (.bl ac)) else ae
variable{m:LD->Option Z1}{G:Nat->Z3}
def Tu{rest:List Stmt}(i:Nat)(F:tN X.prog X.w X.K X.mg X.base k f fd ps (Ae (Gx c X) ps.length m))(hr:bn k X.A)(hg:Gl X z)(hm:X.mg z=aa (.ref f))(hk:kL X.K (.ref f)=ac)(hb:fN X.K fd ps [])(ha:DA c X (e::es) fa)
 (hG:∀X5,ke c X X5 rest (G X5))(hN:X.N.Nodup)(hi:X.N[i]?=aa x<|Zb)(hx:Loc X.env.scope x<|Ze)
 (hl:((e::es).length=ps.length)<|Zb)(B:((z==("__debug__":Str))=ah)<|Zc)(he:StE X e es<|Zb)(Y:BkE X pos es<|Zb)
 (hs:(dz (.Call (.Name z p) (e::es) [] pos) (aa (.Name x p0)) p1.line X.env=pure ah)<|Zb)(hf:LcF X x<|Zf):
  DSs c X (.Assign [.Name x p0] (.Call (.Name z p) (e::es) [] pos) p1::rest) (Af i fa m G):=by
 intro M s J H D I q_;have(E,H0,Hf,U,o,so,a,kk):=q_
 delta Af at a
 have(j,e1,a):=nc.mp a;have(zs,e2,a):=nc.mp a;split at a
 .rename_i d;have a:=cp a;subst a
  let Q:Nat->V->Hp->Prop:=λX5 v h=>∃b,0<X5/\aB (Gx c X) E H0 b h (J.set i (aa v)) (U.set i (.im (.lst (zs.map λz=>.tx z X5))))
  show kG (oI (lF (mx I hg hm ?_ B)) hs);show sC I.ok.mod.kin hk (thn (ha.pa pos M s J H (λC H1=>Ae _ ps.length m C H1 Q) I (E,H0,Hf,U,j,so,e1,λC n H1 x r=>?_)) λus s1 (C,H1,I1,r,q)=>(I1.kIn,thn (Tt F hr hb I1 r q) λu s2 (X5,b2,v,h,I2,r2,b,y,so2)=>?_)) he Y
  .show(n,j,zs,x.s,r,(ha.len U j e1).trans hl,e2,λX5 l us L H' y x' hn g T rr=>(upd L l (.lst us),y,?_));show((so.step x).step (x'.fix hn g T)).setIm (l,us,rfl,ca,rr.up (dC g))
  .show cB b2 (sH I2 hN hi hx r2 (λs3 t=>t) hf) λ_ s3 b3 t=>(hG X5 M s3 _ h D b3 t (E,H0,b,_,_,so2,d X5 y,kk))
 .nomatch a
def kf(f:Z6)(l h:LS->Option (Option Int))(U:LS):Zs:=(f U).bind λj=>(l U).bind λlo=>(h U).map λhi=>fY j lo hi
def Ag{f:Z6}{l h:LS->Option (Option Int)}{lo hi:Option Expr}(ha:DL c X e f)(v:DPt c X lo l)(u:DPt c X hi h):DO c X (.Subscript e (.Slice lo hi ae p2) pos) (kf f l h):=
 PE.imp (Dv Ix ha v u) λJ H Q y=>by
  have(E,H0,Hf,U,rs,st,b,k):=y;have(j,q,b):=dm b;have(lo,r,b):=dm b;have(hi,t,b):=jC b;subst b;show(E,H0,Hf,U,j,st,q,λa C g H1 n w z=>(E,H0,g,U,lo,st.step n,r,λi A d=>(E,H0,i,U,hi,(st.step n).step d,t,λm B o=>?_)));have x:=(n.trans d).trans o;show(a,C,rfl,SqL.of (o.h _ _ (d.h _ _ w)),λp hp=>k p _ m _ (x.trans (Ext.tmp x.s hp)) (x.h.free hp) (x.s.free hp) ca (Jb ((z.up d.f).up o.f) lo hi))
def iM(f g:Z6)(U:LS):Zs:=(f U).bind λB=>(g U).bind λa=>if B.length+a.length<=16777216 then aa (B++a) else ae
variable{a:Expr}
def Ah{f g:Z6}(ha:DL c X a f)(t:DL c X b g):DO c X (.BinOp a .Add b pos) (iM f g):=PE.imp (Da Dx ha t) λJ H Q y=>by
 have(E,H0,Hf,U,j,st,d,k):=y;have(B,q,d):=dm d;have(A,r,d):=dm d;split at d
 .rename_i u;cases d;show(E,H0,Hf,U,_,st,q,λl C e H1 o v s1=>(E,H0,e,U,_,st.step o,r,λm us i z n w s2=>?_));have s1:=s1.up n.f;have x:=o.trans n;show(l,m,C,us,rfl,rfl,n.h _ _ v,w,by rw[fc,<- s1.length,<- s2.length];show u,λp hp=>k p _ i _ (x.trans (Ext.tmp x.s hp)) (x.h.free hp) (x.s.free hp) ca (s1.append s2))
 .grind
abbrev O.ixo(k:Nat):O->Option (O×(O->O))
 |.lst os=>(os[k]?).map λo=>(o,λx=>.lst (os.set k x),)
 |.tup os=>(os[k]?).map λo=>(o,λx=>.tup (os.set k x),)
 | _=>ae
variable{G:Gc}{o1 o2:O}{f1:Z7}
def Foc.ixo{o:O}{v1:V}{R R':O->O}(F:Foc G Hf H o v fp o1 v1 f1 R)(h:o1.ixo k=aa (o2,R',)):∃a C d f2,v1=.ref a/\(H a=aa (.lst C)\/H a=aa (.tup C))/\C[k]?=aa d/\Foc G Hf H o v fp o2 d f2 (λx=>R (R' x)):=by
 cases o1 with
 |lst os=>
  have(j,e,h):=jC h;cases h;have(a,C,fs,g,ha,rs,p):=id F.r;subst g p;have(d,f2,f,m):=Foc.root (W:=.lst) ha rfl rs F.n e λL H' B c i r _=>(a,C,c,rfl,i,r,rfl)
  show(a,C,d,f2,rfl,.inl ha,f,F.trans m)
 |tup os=>
  have(j,e,h):=jC h;cases h;have(a,C,g,ha,rs):=id F.r;subst g;have(d,f2,f,q,A,E,bk):=rs.foc F.n e;show(a,C,d,f2,rfl,.inr ha,f,F.trans (q,A,E,λL H' j t s l h=>?_));have(c,r',y,z):=bk L H' j d t s (λb u e _ w=>l b u e w) h;rw[pj f]at r'
  show(c,(a,C,rfl,l a _ ha (vT q ha rfl),r'),y,z)
 | _=>nomatch h
def l7(p:Xp)(g:Z4):Xp:=λU=>(p U).bind λq=>(g U).bind λd=>match d with
 |.int k=>if 0<=k then (q.1.ixo k.toNat).map λr=>(r.1,λx=>q.2 (r.2 x),) else ae
 | _=>ae
variable{e' o:Expr}{p:Xp}
def Ai{g:Z4}(N:DP c X o i p)(w:DE c X e' g)(T:qq e'<|Zi):DP c X (.Subscript o e' pos) i (l7 p g):=PE.imp (yL (yM.or Iv) N w T) λJ H Q q_=>by
 have(E,H0,Hf,U,o2,R,y,b,kq):=q_;have(q,B,b):=dm b;have(d,G,b):=dm b;split at b
 .rename_i k;split at b
  .rename_i h0;have(r,I,b):=jC b;cases b;show(E,H0,Hf,U,q.1,q.2,y,B,λt v fp v1 f1 m H1 es M x rt F=>?_);have(a,C,l,f2,L,ha,Y,z):=F.ixo I;subst L;show(E,H0,m,U,.int k,y.step x,G,λu n A e r2=>?_);cases (r2)
   have hi:atI C k=aa l:=by
    have w:=(dW.mp Y).1
    delta atI ixN
    simp_all
   have j:=kq t v fp l f2 n A es M (x.trans e) (rt.up e.f e.h) (z.up e.f e.h)
   rcases ha with ha |ha
   .show .inl (a,C,k,l,rfl,rfl,SqL.of (e.h _ _ ha),hi,j)
   .show .inr (a,C,k,l,rfl,rfl,SqT.of (e.h _ _ ha),hi,j)
  .nomatch b
 .nomatch b
def pM(i:Nat)(m:MTf)(f:Xa):Xe:=λU=>match U[i]? with
 |some (.deep _)=>(f U).bind λp=>match p.2[i]? with
  |some (.deep (.at l o))=>(m l p.1 o).map λq=>(q.2,p.2.set i (.deep (.at l q.1)),)
  | _=>ae
 | _=>ae
variable{p:Pos}{fa:Xa}{m:MTf}
def wg{k0:Nat}(pk:Pk X.prog X.w X.K X.mg X.base CX0 k x (f,fd,) ps (mM (Gx c X) ps.length m))(hr0:bn k0 X.A)(hy:PE X (.Name y p1) (cb i))(ha:DAX c X (e::es) fa)(hl:((e::es).length+1=ps.length)<|Zb)(N:NDb x<|Zc)(he:(ba (.Name y p1::e::es) X.env=(ah,eval (.Name y p1) X.env,)::ba (e::es) X.env)<|Zb)(Y:((cD pos (ba (e::es) X.env)).any (·.1)=ah)<|Zb)(T:k<=k0<|Zc)(hg:Gl X x<|Zj):
  DX c X (.Call (.Name x p) (.Name y p1::e::es) [] pos) (pM i m fa):=PE.imp (sN pk.ok (hr0.mono T) hg pk.g pk.kp pk.b .nil jv (bD hy ha.pa he) N he Y) λJ H Q q_=>by
 have(E,H0,Hf,U,d,ρ',st,h,kq):=q_
 delta pM at h
 split at h
 .rename_i o0 I;have(pp,e1,h):=dm h;have(j,ρ1):=pp;split at h
  .rename_i l o1 t;have(q,e2,h):=jC h;cases h;have(u,M,u',fp,e3,rt,n,z):=st.slot I;subst e3;show(u',M,E,H0,Hf,U,j,ρ1,st,e1,λus L H' f1 o r=>?_);change mM _ ps.length m _ H' Q E0;rw[bZ];have(w,ew,w',gp,e4,rt1,n1,z1):=o.slot t;subst e4;rw[M]at ew;cases ew;have(G,B):=rt1;subst G;show(L,j,o1,q.1,q.2,l,gp,us,rfl,o.sub,B,n1,λa ha=>(z1 a ha).2,r,by have:=ha.len _ _ _ e1;lia,e2,λv C H3 fp3 x3 r3 n3 z3 rv=>kq v C H3 (f1.trans x3.f) (o.treeBack t M (rfl,B) x3 (rfl,r3) n3 z3) rv)
  .nomatch h
 .nomatch h
variable{o:O}
def OT.dele{g:Z7}(h:OT G Hf H o v fp)(d:∀a∈fp,a∉g)(i:∀a∈g,∃u,H a=aa u/\gv u=ah):OT G Hf (cZ H g) o v fp:=h.frame (aD.refl _) λb u c hm=>by
 rw[gQ]
 .show c
 .intro f
  rcases hm with t |t
  .have(j,e,t'):=i b f;rw[c]at e;cases e;rw[t]at t'
   nomatch t'
  .show d b t f
def OT.notup(h:OT G Hf H o v fp):∀a∈fp,∃u,H a=aa u/\gv u=ah:=λa ha=>OT.memM o v fp h a ha
variable{L H':Hp}
def aB.tree2{T Y oi' oj':O}{u w:V}{fi l gi gj:Z7}(j:i≠X6)(so:aB G E H0 Hf H J U)(M:U[i]?=aa (.deep T))(N:U[X6]?=aa (.deep Y))(C:J[i]?=aa (aa u))(I:J[X6]?=aa (aa w))(A:OT G Hf H T u fi)(rj:OT G Hf H Y w l)
 (x:Ext Hf (cZ H (fi++l)) L H')(B:OT G L H' oi' u gi)(q:OT G L H' oj' w gj)(n:(gi++gj).Nodup)(z:∀a∈gi++gj,cZ H (fi++l) a=ae/\L a=ae):aB G E H0 L H' J ((U.set i (.deep oi')).set X6 (.deep oj')):=by
 have(n1,n2,t):=jP.mp n
 have s1 : aB G E H0 Hf (cZ H fi) J (U.set i .no):=so.chg M C (λb y c=>by
  by_cases d:b∈fi
  .show .inl (fi,A,d)
  .show .inr (by rw[gQ d];show c)) trivial λa p=>(p.calm rfl).elim
 have s2 : aB G E H0 Hf (cZ H _) J ((U.set i .no).set X6 .no):=s1.chg (by rw [gH j]; show N) I (λb y c=>by
  by_cases d:b∈l
  .show .inl (l,(rj.dele (λa ha c=>(λa ha c=>j (so.dj i X6 _ _ _ _ a M N C I (fi,A,ha) (l,rj,c))) a c ha) A.notup),d)
  .by_cases o:b∈fi
   .rw[jh o]at c;nomatch c
   .rw[gQ o]at c;show .inr (by rw[gQ (λm=>(cW.mp m).elim o d)];show c)) trivial λa p=>(p.calm rfl).elim
 have xg:Ext Hf (cZ H (fi++l)) L (cZ H' gj):=by
  show(x.f,λb y c=>?_,λb y c=>?_,x.n)
  .rw[gQ]
   .show x.h b y c
   .intro hg
    simp_all
  .rw[gQ]
   .show x.s b y c
   .intro hg
    simp_all
 have r:=B.dele (λa ha c=>t a ha a c rfl) q.notup;have Q:∀a,cZ H _ a=ae->H0 a=ae:=λa e=>s2.ext.h.free e
 have s3:=s2.setNew (i:=i) (s:=.deep oi') xg (u,gi,rfl,r,n1,λa ha=>(Q a (z a (fK _ ha)).1,(z a (fK _ ha)).2)) λa p=>by
  have(g,v,ha):=p;have:=OT.funM oi' u gi g r v
  simp_all
 have s4:=s3.setNew (i:=X6) (s:=.deep oj') (Ext.grow xg.s Ef) (w,gj,rfl,q,n2,λa ha=>(Q a (z a (bY _ ha)).1,(z a (bY _ ha)).2)) λa p=>by
  have(g,v,ha):=p;have:=OT.funM oj' w gj g q v;subst this;show jh ha
 have e:(((U.set i .no).set X6 .no).set i (.deep oi')).set X6 (.deep oj')=(U.set i (.deep oi')).set X6 (.deep oj'):=by
  rw[set_comm _ _ j,set_set,set_comm _ _ (iB j),set_set]
 rw[pj C,pj I,e]at s4;show s4
nonrec def tO:=Addr->Addr->LD->O->O->Option (O×O×D)
def Aj(G:Gc)(n:Nat)(m:tO):Sp:=λC H Q _=>∃Hf j o1 o2 e f d h i b c g,C=.ref h::.ref i::g/\aD Hf H/\OT G Hf H o1 (.ref h) b/\OT G Hf H o2 (.ref i) c/\(b++c).Nodup/\(∀a∈b++c,Hf a=ae)/\ay G Hf j g/\2+j.length=n/\m h i j o1 o2=aa (e,f,d,) /\
 ∀v L H' g1 g2,Ext Hf (cZ H (b++c)) L H'->OT G L H' e (.ref h) g1->OT G L H' f (.ref i) g2->(g1++g2).Nodup->(∀a∈g1++g2,cZ H (b++c) a=ae/\L a=ae)->Rep G L d v->Q v H'
def KL(N:Nat)(a b:Addr)(j:LD)(o1 o2:O):LS:=((dD N (.non::.non::j)).set 0 (.deep (.at a o1))).set 1 (.deep (.at b o2))
open Classical in
def qR(i:Nat)(l:Addr)(U:LS):Option O:=match (U[i]?:Option Sl)with
 |some (Sl.deep (.at l' o))=>if l'=l then aa o else ae
 | _=>ae
variable{l:Addr}
def KM(h:qR i l U=aa o):U[i]?=aa (.deep (.at l o)):=by
 unfold qR at h
 grind
def KN(h:U[i]?=aa (.deep (.at l o))):qR i l U=aa o:=by
 unfold qR;rw[h];show if_pos rfl
def EC(N:Nat)(F:Z3):tO:=λc e j o1 o2=>(F (KL N c e j o1 o2)).bind λr=>match r with
 |.rtS d U=>(qR 0 c U).bind λa=>(qR 1 e U).map λb=>(a,b,d,)
 | _=>ae
variable{j:LD}{l1 l2:Addr}
def aB.startM2{g:Z2}{f2:Z7}(u:aD Hf H)(z:OT G Hf H o1 (.ref l1) f1)(q:OT G Hf H o2 (.ref l2) f2)(n:(f1++f2).Nodup)(h:∀a∈f1++f2,Hf a=ae)(r:ay G Hf j g):
  aB G Hf (cZ H (f1++f2)) Hf H (L2.start N (.ref l1::.ref l2::g)) (KL N.length l1 l2 j o1 o2):=by
 have(v,w,dj):=jP.mp n;have f:=zG u h;have e:=z.dele (λa ha c=>dj a ha a c rfl) q.notup
 have l:aD (cZ H (f1++f2)) (cZ H f2):=λb y c=>by
  by_cases o:b∈f2
  .rw[jh (bY _ o)]at c;nomatch c
  .by_cases t:b∈f1
   .rw[jh (fK _ t)]at c;nomatch c
   .rw[gQ (λm=>(cW.mp m).elim t o)]at c;rw[gQ o];show c
 have x:=(aB.start (N:=N) f (.cons (d:=.non) rfl (.cons (d:=.non) rfl r))).setNew (i:=0) (s:=.deep (.at l1 o1)) (Ext.grow f l) (.ref l1,f1,rfl,(rfl,e),v,λa ha=>(jh (fK _ ha),h a (fK _ ha))) λa p=>by
  have(fp',r',ha):=p;have:=OT.funM o1 _ f1 fp' e r'.2;subst this;show jh (fK _ ha)
 show x.setNew (i:=1) (Ext.grow (zG u λa ha=>h a (bY _ ha)) Ef) (.ref l2,f2,rfl,(rfl,q),w,λa ha=>(jh (bY _ ha),h a (bY _ ha))) λa p=>by
  have(fp',r',ha):=p;have:=OT.funM o2 _ f2 fp' q r'.2;subst this;show jh ha
def Tv(Fn:Fun K x qual st f fd)(S:aP N ps (aH st))
 (h:∀(cdv:Value) (A:cq) (outer:List Env) (s:ak) (H:Hp) (X2:XK),bn k (A.deeper (fE qual (aH st) s.heap.objs.size f cdv))->ke c (eU CX0 P w K mg base N qual (aH st) f cdv A outer s H X2).nox X5 (gO st) F):
  mR X5 P w K mg base CX0 (k+1) f fd ps (Aj (K,c) ps.length (EC N.length F)):=by
 show Fn.okB S (λC H Q X2 G=>by have(Hf,j,o1,o2,B,E,d,l1,l2,f1,f2,I,t,Y,M,T,n,J,r,hn,_):=G;rw[t,aU,aU,<- r.length];lia) λcdv A outer s H C Q X2 hr G=>?_;have(Hf,j,o1,o2,B,E,d,l1,l2,f1,f2,I,t,Y,M,T,n,J,r,hn,e,kq):=G;show(_,h cdv A outer s H X2 hr,?_);subst t
 delta EC at e
 cases m:F _ with
 |none=>rw[m]at e;nomatch e
 |some z=>
  rw[m,aE]at e;show(Hf,cZ H _,Hf,_,z,aB.startM2 Y M T n J r,m,?_)
  cases z with
  |rtS d' U=>
   show λv σ' L H' l rv=>?_;have(t1,e1,e):=dm e;have(t2,e2,e):=jC e;cases e;have w1:=KM e1;have w2:=KM e2;have(u1,o,u1',g1,u,g,n1,z1):=l.slot w1;have(u2,p,u2',g2,y,i,n2,z2):=l.slot w2;subst u y
   have dj:∀a∈g1,∀b∈g2,a≠b:=λa ha b hb q=>by
    subst q;have:=l.dj 0 1 _ _ _ _ a w1 w2 o p (g1,g,ha) (g2,i,hb)
    nomatch this
   have(q1,g):=g;have(q2,i):=i;subst q1;subst q2
   show kq v L H' g1 g2 l.ext g i (jP.mpr (n1,n2,dj)) (λa ha=>(cW.mp ha).elim (z1 a) (z2 a)) rv
  | _=>nomatch e
abbrev O.rf:O->Bool
 |.ins _ _ _=>ac
 |.lst _=>ac
 | _=>ah
def KO{f:Z7}(h:o.rf=ac)(r:OT G Hf H o v f):∃l,v=.ref l:=by
 cases o with
 |ins c ns os=>have(a,_,_,_,e,_):=r;show(a,e)
 |lst os=>have(a,_,_,e,_):=r;show(a,e)
 | _=>nomatch h
def Ext.lessL{A X5:Z7}(x:Ext Hf (cZ H X5) L H')(h:∀a∈X5,a∈A):Ext Hf (cZ H A) L H':=by
 have s:aD (cZ H A) (cZ H X5):=λb y c=>by
  by_cases hm:b∈A
  .rw[jh hm]at c;grind
  .rw[gQ hm]at c;rw[gQ λm=>hm (h b m)];show c
 show(x.f,s.trans x.h,x.s,λl o e t=>x.n l o (s l o e) t)
def ED{a:Type}{B:List a}{k:Int}{v:a}(b:0<=k)(h:B[k.toNat]?=aa v):atI B k=aa v:=by
 have c:=(dW.mp h).1;unfold atI ixN;rw[if_pos b,if_pos (by lia)]
 simpa using h
open Classical in
def tP(i X6:Nat)(g1 g2:Z4)(m:tO)(fa:Z6):Xe:=λU=>match U[i]?,U[X6]? with
 |some (.deep (.lst os)),aa (.deep (.lst qs))=>(g1 U).bind λa=>(g2 U).bind λb=>match a,b with
  |.int k1,.int k2=>if 0<=k1/\0<=k2/\i≠X6 then (os[k1.toNat]?).bind λo1=>(qs[k2.toNat]?).bind λo2=>(fa U).bind λj=>
    if h:o1.rf=ac/\o2.rf=ac/\∃q,∀l1 l2,m l1 l2 j o1 o2=aa q then aa (h.2.2.choose.2.2,(U.set i (.deep (.lst (os.set k1.toNat h.2.2.choose.1)))).set X6 (.deep (.lst (qs.set k2.toNat h.2.2.choose.2.1))),) else ae
   else ae
  | _,_=>ae
 | _,_=>ae
variable{g1 g2:Z4}{fa:Z6}
def Tw{m:tO}{os d:List O}{k2:Nat}{q:O×O×D}(n:U[i]?=aa (.deep (.lst os)))(o:U[X6]?=aa (.deep (.lst d)))(c:i≠X6)
 (f:g1 U=aa (.int k1))(g:g2 U=aa (.int k2))(a:os[k1]?=aa o1)(b:d[k2]?=aa o2)(l:fa U=aa j)(p:o1.rf=ac)(r:o2.rf=ac)(e:∀l1 l2,m l1 l2 j o1 o2=aa q):
  tP i X6 g1 g2 m fa U=aa (q.2.2,(U.set i (.deep (.lst (os.set k1 q.1)))).set X6 (.deep (.lst (d.set k2 q.2.1))),):=by
 have h:o1.rf=ac/\o2.rf=ac/\∃q,∀l1 l2,m l1 l2 j o1 o2=aa q:=(p,r,q,e)
 delta tP
 rw[n,o];dsimp only;rw[f,g,aE,aE];dsimp only;rw[if_pos (Int.natCast_nonneg _,Int.natCast_nonneg _,c),xY,xY,a,b,aE,aE,l,aE,dif_pos h,(cp ((h.2.2.choose_spec 0 0).symm.trans (e 0 0)))]
variable{s1 s2:Pos}{a1 a2 o1 o2:Expr}{m:tO}
def Tx(F:mR X5 X.prog X.w X.K X.mg X.base CX0 k f fd ps (Aj (Gx c X) ps.length m))(hr:bn k X.A)(hg:Gl X x)(hm:X.mg x=aa (.ref f))(hk:kL X.K (.ref f)=ac)(hb:fN X.K fd ps [])(ho1:PE X o1 (cb i))(ha1:DE c X a1 g1)(ho2:PE X o2 (cb X6))(ha2:DE c X a2 g2)(ha:DA c X es fa)
 (hl:2+es.length=ps.length<|Zb)(hp1:qq a1<|Zi)(hp2:qq a2<|Zi)(hdb:NDb x<|Zc)
 (he:(ba (.Subscript o1 a1 s1::.Subscript o2 a2 s2::es) X.env=(ah,eval (.Subscript o1 a1 s1) X.env,)::ba (.Subscript o2 a2 s2::es) X.env)<|Zb)(he2:(ba (.Subscript o2 a2 s2::es) X.env=(ah,eval (.Subscript o2 a2 s2) X.env,)::ba es X.env)<|Zb)
 (hpl:((cD pos (ba (.Subscript o2 a2 s2::es) X.env)).any (·.1)=ah)<|Zb):
  DXB c X X5 (.Call (.Name x p) (.Subscript o1 a1 s1::.Subscript o2 a2 s2::es) [] pos) (tP i X6 g1 g2 m fa):=PEB.imp (KG F hr hg hm hk hb .nil jv (bD (yL yM ho1 ha1 hp1) (bD (yL yM ho2 ha2 hp2) ha.pa he2) he) hdb he hpl) λJ H Q q_=>by
 have(E,H0,Hf,U,d,ρ',so,l,kq):=q_;unfold tP at l;split at l
 .rename_i os qs ei ej;have(d1,e1,l):=dm l;have(d2,e2,l):=dm l;split at l
  .rename_i k1 k2 _;split at l
   .rename_i hc;have(h1,h2,hij):=hc;have(t1,eo1,l):=dm l;have(t2,eo2,l):=dm l;have(j,e3,l):=dm l;split at l
    .rename_i h;have hq:=h.2.2.choose_spec;have rf1:=h.1;have rf2:=h.2.1;generalize h.2.2.choose=q at l hq;have l:=cp l;cases l;have(_,vi,u,fi,q3,ri,ni,zi):=so.slot ei;subst q3;have(_,vj,w,fj,q4,rj,nj,zj):=so.slot ej;subst q4;have M:∀y∈fi,y∉fj:=λy ha hb=>hij (so.dj i X6 _ _ _ _ y ei ej vi vj (fi,ri,ha) (fj,rj,hb));have(a,C,fs,ea,ha',rs,efi):=id ri;subst ea efi;have(b,us,gs,eb,hb',rt,efj):=id rj;subst eb efj;have(ni1,ni2):=f9.mp ni;have(nj1,nj2):=f9.mp nj;have(v1,_,ev1,_):=rs.foc ni2 eo1;have(v2,_,ev2,_):=rt.foc nj2 eo2;show(.ref a,vi,E,H0,Hf,U,.int k1,so,e1,λy a8 H1 x1 ry=>?_);cases (show y=.int k1 from ry);show(a,C,k1,v1,rfl,rfl,SqL.of (x1.h _ _ ha'),ED h1 ev1,?_);show(.ref b,vj,E,H0,a8,U,.int k2,so.step x1,e2,λy a9 H2 x2 ry=>?_);cases (show y=.int k2 from ry);show(b,us,k2,v2,rfl,rfl,SqL.of (x2.h _ _ (x1.h _ _ hb')),ED h2 ev2,?_);show(E,H0,a9,U,j,(so.step x1).step x2,e3,λws I H3 x3 r3=>?_);change Aj (Gx c X) ps.length m ((v1::v2::ws)++[]) H3 Q E0;rw[bZ];have G:=(x1.trans x2).trans x3;have so3:=so.step G;have ri3:=ri.up G.f G.h;have rj3:=rj.up G.f G.h
     have zi3:∀y∈a::fs,I y=ae:=λy g=>by
      have(o,N,ht):=ri.notup y g;rw[G.n y o N ht];show(zi y g).2
     have zj3:∀y∈b::gs,I y=ae:=λy g=>by
      have(o,N,ht):=rj.notup y g;rw[G.n y o N ht];show(zj y g).2
     have ha3:=G.h _ _ ha';have hb3:=G.h _ _ hb';have rs3:OTs (Gx c X) I H3 os C fs:=OTs.frameM G.f os C fs rs λb u e _=>G.h b u e;have rt3:OTs (Gx c X) I H3 qs us gs:=OTs.frameM G.f qs us gs rt λb u e _=>G.h b u e;have(v1',f1,T,r1,n1,sb1,bk1):=rs3.foc ni2 eo1;rw[ev1]at T;cases T;have(v2',f2,Y,r2,n2,sb2,bk2):=rt3.foc nj2 eo2;rw[ev2]at Y;cases Y;have(l1,el1):=KO rf1 r1;subst el1;have(l2,el2):=KO rf2 r2;subst el2;have sI:∀y∈f1,y∈a::fs:=λy h=>bx _ (sb1 y h);have sJ:∀y∈f2,y∈b::gs:=λy h=>bx _ (sb2 y h);have d12:∀y∈f1,y∉f2:=λy h h'=>M y (sI y h) (sJ y h');show(I,j,t1,t2,q.1,q.2.1,q.2.2,l1,l2,f1,f2,ws,rfl,so3.sub,r1,r2,jP.mpr (n1,n2,λy h z h' e=>d12 y h (e▸h')),λy g=>(cW.mp g).elim (λh=>zi3 y (sI y h)) (λh=>zj3 y (sJ y h)),r3,?_,hq l1 l2,λv L H' c1 c2 x' q1 q2 nn zz rv=>?_)
     .rw[ha.len _ _ e3];show hl
     have(nc1,nc2,dc):=jP.mp nn
     have key:∀y∈c1++c2,(y∈a::fs\/y∈b::gs)->y∈f1++f2:=λy g N=>by
      have hn:=(zz y g).1
      by_cases hm:y∈f1++f2
      .show hm
      .rw[gQ hm]at hn
       rcases N with N |N
       .have(o,e,_):=ri3.notup y N;rw[hn]at e;nomatch e
       .have(o,e,_):=rj3.notup y N;rw[hn]at e;nomatch e
     have r:∀y,y∈a::fs->y∉f1->y∉f1++f2:=λy h h' m=>(cW.mp m).elim h' λm2=>M y h (sJ y m2);have B:∀y,y∈b::gs->y∉f2->y∉f1++f2:=λy h h' m=>(cW.mp m).elim (λm1=>M y (sI y m1) h) h';have af1:a∉f1:=λh=>ni1 (sb1 a h);have bf2:b∉f2:=λh=>nj1 (sb2 b h);have kp:∀y o,H3 y=aa o->y∉f1++f2->H' y=aa o:=λy o e hm=>x'.h y o (by rw[gQ hm];show e)
     have tupn:∀y o,H3 y=aa o->gv o=ac->y∉f1++f2:=λy o e t m=>by
      rcases cW.mp m with m |m
      .show vT r1 e t m
      .show vT r2 e t m
     have (p1,w1,m1,nn1):=bk1 L H' q.1 (.ref l1) c1 x'.f (λy o e hm hn=>kp y o e (by
      rcases hm with t |t
      .show tupn y o e t
      .show r y (bx _ t) hn)) q1
     have (p2,w2,m2,nn2):=bk2 L H' q.2.1 (.ref l2) c2 x'.f (λy o e hm hn=>kp y o e (by
      rcases hm with t |t
      .show tupn y o e t
      .show B y (bx _ t) hn)) q2
     rw[pj ev1]at w1;rw[pj ev2]at w2
     have inI:∀y∈a::p1,y∈c1\/(y∈a::fs/\y∉f1):=λy g=>by
      rcases bw.mp g with e |g
      .subst e;show .inr (bi,af1)
      .rcases m1 y g with z |⟨z,z'⟩
       .show .inl z
       .show .inr (bx _ z,z')
     have inJ:∀y∈b::p2,y∈c2\/(y∈b::gs/\y∉f2):=λy g=>by
      rcases bw.mp g with e |g
      .subst e;show .inr (bi,bf2)
      .rcases m2 y g with z |⟨z,z'⟩
       .show .inl z
       .show .inr (bx _ z,z')
     have c1o:∀y∈c1,∀(_:y∈a::fs/\y∉f1),False:=λy g h=>r y h.1 h.2 (key y (fK _ g) (.inl h.1));have c2o:∀y∈c2,∀(_:y∈b::gs/\y∉f2),False:=λy g h=>B y h.1 h.2 (key y (bY _ g) (.inr h.1))
     have np1:=f9.mpr ⟨λhm=>by
      rcases m1 a hm with z |⟨z,_⟩
      .show c1o a z (bi,af1)
      .show ni1 z,nn1 nc1 λy g hs=>Hu λhn=>c1o y g (bx _ hs,hn)⟩
     have np2:=f9.mpr ⟨λhm=>by
      rcases m2 b hm with z |⟨z,_⟩
      .show c2o b z (bi,bf2)
      .show nj1 z,nn2 nc2 λy g hs=>Hu λhn=>c2o y g (bx _ hs,hn)⟩
     have cross:∀y∈a::p1,∀z∈b::p2,y≠z:=λy g z hz e=>by
      subst e
      rcases inI y g with i1 |i1 <;> rcases inJ y hz with j1 |j1
      .show dc y i1 y j1 rfl
      .show B y j1.1 j1.2 (key y (fK _ i1) (.inr j1.1))
      .show r y i1.1 i1.2 (key y (bY _ j1) (.inl i1.1))
      .show M y i1.1 j1.1
     have fz:=λy o e t hm=>x'.n y o (by rw[gQ hm];show e) t
     show kq v L H' (G.f.trans x'.f) (so3.tree2 hij ei ej vi vj ri3 rj3 (x'.lessL λy g=>(cW.mp g).elim (λh=>fK _ (sI y h)) λh=>bY _ (sJ y h)) (oi':=.lst (os.set k1.toNat q.1)) (oj':=.lst (qs.set k2.toNat q.2.1)) (gi:=a::p1) (gj:=b::p2)
      (a,C,p1,rfl,kp a _ ha3 (r a bi af1),w1,rfl) (b,us,p2,rfl,kp b _ hb3 (B b bi bf2),w2,rfl) (jP.mpr (np1,np2,cross)) λy g=>?_) rv
     have fresh:∀y∈c1++c2,cZ H3 ((a::fs)++(b::gs)) y=ae/\L y=ae:=λy g=>by
      show(?_,(zz y g).2)
      by_cases hm:y∈(a::fs)++(b::gs)
      .show jh hm
      .rw[gQ hm];have:=(zz y g).1
       rwa [gQ λh=>hm ((cW.mp h).elim (λh=>fK _ (sI y h)) λh=>bY _ (sJ y h))]at this
     rcases cW.mp g with g |g
     .rcases inI y g with z |z
      .show fresh y (fK _ z)
      .show(jh (fK _ z.1),?_);have(o,e,t):=ri3.notup y z.1;rw[fz y o e t (r y z.1 z.2)];show zi3 y z.1
     .rcases inJ y g with z |z
      .show fresh y (bY _ z)
      .show(jh (bY _ z.1),?_);have(o,e,t):=rj3.notup y z.1;rw[fz y o e t (B y z.1 z.2)];show zj3 y z.1
    .nomatch l
   .nomatch l
  .nomatch l
 .nomatch l
variable{Ar:cq}{Ex:Z9}{h:Heap}{g:Array GenState}{d:Drawn}{tk:Nat}{os:OsState}{nm qn nm2 qn2:Str}{N C2 N2 a:Addr}{bm bs2 bm2 sub sub2:Z5}{hd2 ab ab2:Bool}{sn sn2:Z1}{col col2:Option Bool}{dd dd2:Option Addr}{k0 k1 k2 k3 k5 j0 j1 j2 j3 j5:Option Value}{nid:String}{oe:Obj}{Q:Bool->ak->Prop}
def Tz{bs:Z5}{hd:Bool}(j:h.get? X4=aa (u5 nm qn X4 N bs bm hd sn sub ab col dd k0 k1 k2 k3 k5 nid))(b:h.get? C2=aa (u5 nm2 qn2 C2 N2 bs2 bm2 hd2 sn2 sub2 ab2 col2 dd2 j0 j1 j2 j3 j5 nid))(l:h.get? a=aa oe)(c:oe.cls=.ref X4)
 (i:bm2.contains (.type "BaseException")=ac)(e:(gt X4::bm).contains (.ref C2)=ah)(m:Q ah (h,g,d,tk,os)):wpAny X0 Ar (excMatches (.ref a) (.ref C2)) Q Ex (h,g,d,tk,os):=by
 have f:(gt C2::bm2).contains (.type "BaseException")=ac:=by rw[uR,i,r9]
 have n:=tc_notTuple
 repeat (first |(with_reducible show yn l ?_;rw[c]) |(with_reducible show yi b ?_;rw[f]) |(with_reducible show yi j ?_;rw[e]) |(with_reducible show yn b ?_) |wp_step)
 show m
def tQ(K:bf)(X4:Addr)(v:Value):Bool:=match K.lookup X4 with
 | some o=>(match o.data with
  |.cls cd=>!cd.mro.contains v
  | _=>ah)
 |none=>ah
variable{e:Value}{s':ak}{C1:Addr}{x1 x2:Str}{np1 np2 h8 h9:Pos}{hH hI:Stmt}{ds dV:List Stmt}{Good:Hp->Prop}
def TB{E0:XK}{D:jV}(I:Inv X M J H s)(hex:X.ex=[])(hs:X.stack=X.env::X.outer)(hf:X.env.frame=aa X.env.locals)(h:CX1 X.prog X.w X.stack H s E0 e s')(hE:∀cls dx H',E0 cls dx H'->cls=.ref X4/\Good H')
 (hC:bV X.K X4=ac)(hC1:bV X.K C1=ac)(hC2:bV X.K C2=ac)(hg1:Gl X x1)(hm1:X.mg x1=aa (.ref C1))(hg2:Gl X x2)(hm2:X.mg x2=aa (.ref C2)){t1 t2 t:TS}
 (hsel:(pE X.K X4 (.ref C1)=ac/\t=t1)\/(tQ X.K X4 (.ref C1)=ac/\pE X.K X4 (.ref C2)=ac/\t=t2))(hps1:∀a,PSs (X.hand a) (hH::ds) t1)(hps2:∀a,PSs (X.hand a) (hI::dV) t2)
 (k:∀H',Good H'->t {nx:=D.nx,rt:=λ_ _=>False,bk:=λ_ _=>False,ct:=λ_ _=>False} J H')
 (hdb1:((x1==("__debug__":Str))=ah)<|Zc)(hdb2:((x2==("__debug__":Str))=ah)<|Zc):
  wpAny (model X.prog X.w) X.A (noteFrame e X.env) (λ_ g=>wpAny (model X.prog X.w) X.A (setFlight e ae) (λ_ ey=>wpAny (model X.prog X.w) X.A (handleBy e X.env [.ExceptHandler (aa (.Name x1 np1)) ae (hH::ds) h8,.ExceptHandler (aa (.Name x2 np2)) ae (hI::dV) h9]) (SP X M D) X.xe ey) X.xe g) X.xe s':=by
 have(a,cls,a0,H',X5,rfl,fl,os,bare,un,hok,kB,kS,hE'):=h;have(rfl,j):=hE _ _ _ hE';have X1:=I.call' os un hok bare λb z=>by nomatch z
 have(f1,f2,f3,oe,C,T,oT,ts,t1,t2,t3,t4,t5,t6,t7,t8,t9):=fl;have fr:=X1.ok.frames;rw[hs]at fr
 have inS:∀b o,X.s₀.heap.get? b=aa o->b∉X.fs->X5.get? b≠ae:=λb o e n=>by
  have(o',h1):=I.base.there b o e (by rw[hex];show λz=>by nomatch z);show kS b o' h1 λhm=>n (I.stkNew b hm o e)
 have two:∀b∈[a,T],X5.get? b=ae:=λb c=>by
  rcases bw.1 c with rfl |c
  .show f2
  .rw[bE.1 c];show t5
 have hun:∀b∈frs X.stack++_,H' b=ae:=λb c=>by
  rcases cW.1 c with c |c
  .show X1.stkFree b c
  .cases q:H' b with
   |none=>rfl
   |some o=>show absurd (two b c) (kB b (by rw[q];show λz=>by nomatch z))
 have m:∀b∈frs X.stack++_,∀o,X.s₀.heap.get? b=aa o->b∈X.fs:=λb c o e=>by
  rcases cW.1 c with c |c
  .show X1.stkNew b c o e
  .by_cases n:b∈X.fs
   .show n
   .show absurd (two b c) (inS b o e n)
 have y:∀p∈X.pn++M,p.1∉frs X.stack++_:=λp hp c=>by
  have(e,q,ne',nf,_):=I.pin p hp;have nst:=λz=>(bw.mp (I.stkSub _ z)).elim ne' nf
  rcases cW.1 c with c |c
  .show nst c
  .show absurd (two _ c) (kS _ _ e nst)
 have afr:a∉frs X.stack:=λz=>by
  have(_,o,U,hd):=X1.stack.mem z;rw[t1]at U;cases U;show hd C t3
 have hfl:yx (sE s'.heap (frs X.stack++[a,T])) (X.env::X.outer) a _ a0 s'.heap:=
  (λb o q=>W.of_hideAll _ q,sB _ (by simp),by rw[<- hs];show zY f3 λb c=>fK _ c,oe,C,T,oT,ts,t1,t2,t3,t4,sB _ (by simp),t6,t7,t8,t9)
 show wpAny_looks_onW fr hf hfl λh4 L up4=>?_;show wpAny_landsW L λh5 G up5=>?_;have E:=Ks X1 hex hun m y G.1 (up4.trans up5);have(bm,N,nm,qn,bs,hd,sn,sub,ab,col,dd,k0,k1,k2,k3,k5,mN,c1,_,_,Tl):=zZ E.kIn hC;have(bm1,N1,nm1,qn1,bs1,hd1,sn1,sub1,ab1,col1,dd1,i0,i1,i2,i3,i5,mN1,e1,_,_,Y):=zZ E.kIn hC1;have(bm2,N2,nm2,qn2,bs2,hd2,sn2,sub2,ab2,col2,dd2,j0,j1,j2,j3,j5,mN2,d1,_,_,Tl2):=zZ E.kIn hC2
 have inn:∀v,pE X.K X4 v=ac->(gt X4::bm).contains v=ac:=λv hm=>by
  delta pE at hm
  split at hm
  .rename_i o U;have:=E.kIn _ _ U;rw[c1]at this;cases this;show hm
  .nomatch hm
 have out:∀v,tQ X.K X4 v=ac->(gt X4::bm).contains v=ah:=λv hm=>by
  delta tQ at hm
  split at hm
  .rename_i o U;have:=E.kIn _ _ U;rw[c1]at this;cases this
   simpa using hm
  .nomatch hm
 have(ob,Q,l):=G.there
 have fin:∀{i:Stmt} {d:List Stmt} {B:Pos} {t0:TS},(∀a,PSs (X.hand a) (i::d) t0)->t0 {nx:=D.nx,rt:=λ_ _=>False,bk:=λ_ _=>False,ct:=λ_ _=>False} J H' ->
   iF (model X.prog X.w) (X.A.mark (aa (.ref a))) (.handlers (.ref a) [.ExceptHandler ae ae (i::d) B] X.env) (λr g=>match r with
    |.ok f=>SP X M D f g
    |.error x=>cameBackBy (model X.prog X.w) X.A X.env X.xe x g) {s' with heap:=h5}:=λ{i d B t0} hps q0=>by
  show codeAny_handlers_suite (lands_againW G λh6 fl6 up6=>?_);have J6:=Ks X1 hex hun m y fl6.1 ((up4.trans up5).trans up6);show d6 (hps a M _ _ _ _ (Ew a J6) q0) (λfl9 s9 q9=>?_) λ_ _ z=>z.elim
  cases fl9 with
  |next=>
   have(σ9,H9,J9,n9):=q9
   show(_,_,SF J6.ok J9,n9)
  |ret u=>have(_,_,_,_,_,z):=q9;show z.elim
  |brk=>have(_,_,_,z):=q9;show z.elim
  |cont=>have(_,_,_,z):=q9;show z.elim
 show wpAny_handleBy_cons (codeAny_handlers_test (mx (Ew a E) hg1 hm1 ?_ hdb1)) (by intro q;nomatch q)
 rcases hsel with⟨g1,et⟩ |⟨g1,g2,et⟩
 .subst et;show Kr c1 e1 Q l (Y.hasType u8.hasBase) (inn _ g1) (fin hps1 (k _ j))
 .subst et;show Tz c1 e1 Q l (Y.hasType u8.hasBase) (out _ g1) ?_;show wpAny_handleBy_cons (codeAny_handlers_test (mx (Ew a E) hg2 hm2 ?_ hdb2)) (by intro q;nomatch q);show Kr c1 d1 Q l (Tl2.hasType u8.hasBase) (inn _ g2) (fin hps2 (k _ j))
def lp(b:Nat)(a m:Str)(r:LD->Bool)(fa:Z6)(G:Z3)(U:LS):Option Fl:=match (U.map Sl.frz)[b]? with
 |some (.im (.ins c' ns B))=>if c'=a/\ns.contains m=ah then (fa (U.map Sl.frz)).bind λj=>if r (.ins c' ns B::j)=ac then (G U).bind λo=>match o with
  |.nx ρ1=>aa (.nx ρ1)
  | _=>ae else ae else ae
 | _=>ae
variable{m:Str}{xp yp apos ap tp:Pos}{e:Expr}{r:LD->Bool}{G G1 G2:Z3}{pl:Sem Bool}
def Ak(iy:Nat)(cn:Str)(ho:∀pn xe,PE (X.to pn xe) (.Name y yp) (cb iy))(hc:Cls X.K (c cn))(p:sM X.K (c cn) m f)(F:dA X.prog X.w X.K X.mg X.base (CX1 X.prog X.w) k f fd ps (spR (Gx c X) ps.length X4 r))(hr:bn k X.A)(hb:fN X.K fd ps [])(ha:∀pn xe,DA c (X.to pn xe) (e::es) fa)
 (hex:X.ex=[])(hs:X.stack=X.env::X.outer)(hf:X.env.frame=aa X.env.locals)(hC:bV X.K X4=ac)(hC1:bV X.K C1=ac)(hC2:bV X.K C2=ac)(hg1:Gl X x1)(hm1:X.mg x1=aa (.ref C1))(hg2:Gl X x2)(hm2:X.mg x2=aa (.ref C2))
 (T:(pE X.K X4 (.ref C1)=ac/\G=G1)\/(tQ X.K X4 (.ref C1)=ac/\pE X.K X4 (.ref C2)=ac/\G=G2))(q:∀a,DSs c (X.hand a) (hH::ds) G1)(N:∀a,DSs c (X.hand a) (hI::dV) G2)
 (hl:((e::es).length+1=ps.length)<|Zb)(i:((x1==("__debug__":Str))=ah)<|Zc)(l:((x2==("__debug__":Str))=ah)<|Zc)
 (hst:StE X e es<|Zb)(hpl:BkE X pos es<|Zb)
 (ht:(eval (.Call (.Attribute (.Name y yp) m apos) (e::es) [] pos) X.env=(do
   let ov <- eval (.Name y yp) X.env
   gY apos.atName
   let (f,first,) <- fX [ov] (jS ov m pl)
   lH pos f first (cD pos (ba (e::es) X.env)) (gM pos (gL [] X.env))))<|Zb)
 (hsw:(dz (.Call (.Attribute (.Name y yp) m apos) (e::es) [] pos) (aa (.Name x xp)) ap.line X.env=pure ah)<|Zb):
  DS c X (.Try [.Assign [.Name x xp] (.Call (.Attribute (.Name y yp) m apos) (e::es) [] pos) ap] [.ExceptHandler (aa (.Name x1 np1)) ae (hH::ds) h8,.ExceptHandler (aa (.Name x2 np2)) ae (hI::dV) h9] [] [] tp) (lp iy cn m r fa G):=by
 intro M s J H D I h;have(E,H0,Hf,U,o,so,b,kk):=h
 delta lp at b
 split at b
 .rename_i c' ns B ei;split at b
  .rename_i hcn;have(rfl,hno):=hcn;have(j,e1,b):=dm b;split at b
   .rename_i er;have(o2,e2,b):=dm b;split at b
    .rename_i ρ1;have b:=cp b;subst b;show wpAny_Try_except ?_
     let xe:Value->ak->Prop:=λe' Y=>wpAny (model X.prog X.w) X.A (noteFrame e' X.env) (λ_ ce=>wpAny (model X.prog X.w) X.A (setFlight e' ae) (λ_ ey=>wpAny (model X.prog X.w) X.A (handleBy e' X.env [.ExceptHandler (aa (.Name x1 np1)) ae (hH::ds) h8,.ExceptHandler (aa (.Name x2 np2)) ae (hI::dV) h9]) (SP X M D) X.xe ey) X.xe ce) X.xe Y
     let E0:XK:=λcls _ H'=>cls=.ref X4/\aD H H'
     have sf:=so.freeze;have(u,eu,ru):=sf.imm ei;have(a,dx,vs0,ea,ha0,hz,rr0):=id ru;subst ea
     have main:wpAny (model X.prog X.w) X.A (eval (.Call (.Attribute (.Name y yp) m apos) (e::es) [] pos) X.env) (λ_ _=>False) xe s:=by
      show W.methodCall_KW (thn (ho _ xe [] s J H (λv H'=>v=.ref a/\H'=H) (Kt I) (_,eu,rfl,rfl)) λu s1 q_=>?_) ht;have(v,H1,I1,rx,ex,eH):=q_;subst ex eH;obtain rfl:u=gt a:=rx;show Di (X:=X.to (X.pn++M) xe) I1 (sf.sub _ _ ha0) hc p (o9 hno) ?_;show sC I1.ok.mod.kin p.kp (thn ((ha (X.pn++M) xe).pa pos [] s1 J H1 (λC H2=>∃d,Ext (nW H0 Hf H1) H1 d H2/\ay (Gx c X) d j C) I1 (E,H0,_,_,j,sf,e1,λC d H2 x r=>(d,x,r))) λus s2 (C,H2,I2,rv,d,x2,rd)=>(I2.kIn,?_)) hst hpl
      have n:(gt a::us).length=ps.length:=by
       rw[aU,<- rv.length,<- rd.length,(ha (X.pn++M) xe).len _ _ e1];show hl
      have g:=hb s2 (gt a::us) I2.kIn (by rw[bZ];show n);rw[bZ]at g;show ss (nh (F.run X.A X.stack s2 H2 (gt a::us,[]) _ (V.ref a::C) (λ_ _=>False) E0 hr (tM I2).env0 g (.cons rfl rv) (d,.ins c' ns B::j,x2.s,.cons (ru.up x2.f) rd,?_,er,λL H' x3=>(rfl,x2.h.trans x3.h))) λr s' Q=>?_)
      .rw[aU,(ha (X.pn++M) xe).len _ _ e1];show hl
      .cases r with
       |ok fl=>
        cases fl with
        |ret u=>have(_,_,_,_,_,_,_,z):=Q;show z.elim
        |next=>show f8 Q
        |brk=>show f8 Q
        |cont=>show f8 Q
       |error e'=>
        show TB (t:=tDS (Gx c X) G) (Good:=λH'=>aD H1 H') (tM I2) hex hs hf Q (λcls dx H' z=>z) hC hC1 hC2 hg1 hm1 hg2 hm2 (t1:=tDS (Gx c X) G1) (t2:=tDS (Gx c X) G2) ?_ q N (λH' hs'=>(E,H0,Hf,U,_,so.step (Ext.grow so.sub hs'),e2,kk)) i l
        rcases T with⟨g1,g2⟩ |⟨g1,g2,g3⟩
        .show .inl (g1,by rw[g2])
        .show .inr (g1,g2,by rw[g3])
     show kG (oI (d6 main (λ_ _ z=>z.elim) λ_ _ z=>z) hsw)
    .nomatch b
   .nomatch b
  .nomatch b
 .nomatch b
def KP{v:Value}(h:iY K X4 v=aa ah):tQ K X4 v=ac:=by
 delta iY W.clsIn at h
 delta tQ
 grind
def TxL(X5:Nat)(zs:Z1)(j:LD):Prop:=∃ns:LN,ns.length=zs.length/\(∀n∈ns,n<=X5)/\j=List.zipWith D.tx zs ns
variable{zs:Z1}
def TxL.mono{a:Nat}(c:X5<=a)(h:TxL X5 zs j):TxL a zs j:=by
 have(ns,e,hn,b):=h;show(ns,e,λn m=>cf (hn n m) c,b)
def TxL.nil:TxL X5 [] []:=([],rfl,(λ_ h=>absurd h c7),rfl)
def TxL.snoc(h:TxL X5 zs j)(hn:n<=X5):TxL X5 (zs++[z]) (j++[D.tx z n]):=by
 have(ns,e,a,rfl):=h;show(ns++[n],by simp[e],λm hm=>?_,?_)
 .rcases cW.1 hm with hm |hm
  .show a m hm
  .rw[bE.1 hm];show hn
 .rw[zipWith_append e.symm];rfl
def TxL.same:TxL X5 zs (zs.map λz=>D.tx z X5):=(jN zs.length X5,sh,λn h=>uU (eq_of_mem_replicate h),by
 induction zs with
 |nil=>rfl
 |cons z zs a=>rw[eR,a];rfl)
def TxL.wk:∀{zs:Z1} {j:LD},TxL X5 zs j->j.map wkD=zs.map D.str:=by
 rintro zs j ⟨ns,e,a,rfl⟩;clear a
 induction zs generalizing ns with
 |nil=>rfl
 |cons z zs b=>
  cases ns with
  |nil=>nomatch e
  |cons n ns=>change _::_=_::_;rw[b ns (Nat.succ.inj e)];rfl
def TxL.reps{G:Gc}(h:TxL X5 zs j)(r:ay G H j C):ay G H (zs.map λz=>D.tx z X5) C:=by
 have(ns,e,b,rfl):=h
 induction zs generalizing ns C with
 |nil=>show r
 |cons z zs g=>
  cases ns with
  |nil=>nomatch e
  |cons n ns=>
   have(v,a,d,(m,hm,c),f):=r;show(v,a,d,(m,cf hm (b n bi),c),g ns (Nat.succ.inj e) (λx hx=>b x (bx _ hx)) f)
def TC{N:Z1}{m:LD->Option Z1}(i:Nat)(p:Fun K x qual st f fd)(S:aP N ps (aH st))
 (h:∀ (cdv:Value) (A:cq) (outer:List Env) (s:ak) (H:Hp) (j:LD) (zs:Z1) (Hf:Hp) (Q:Nat->V->Hp->Prop),bn k (A.deeper (fE qual (aH st) s.heap.objs.size f cdv))->m j=aa zs->j.length=ps.length ->
   (∀X5 J H',PD (K,c) Hf H (λX5 U=>0<X5/\∃a,TxL X5 zs a/\U[i]?=aa (.own a)) X5 J H'->∃v,J[i]?=aa (aa v)/\Q X5 v H') ->
   HR (eU CX0 P w K mg base N qual (aH st) f cdv A outer s H E0).nox (PD (K,c) Hf H λ_ U=>U=dD N.length j) (gO st) Q):
  tN P w K mg base (k+1) f fd ps (Ae (K,c) ps.length m):=by
 show p.okT S (λC H Q g=>by have(Hf,j,zs,n,r,d,_):=g;rw[<- r.length];show d) λcdv A outer s H C Q G g=>?_;have(Hf,j,zs,n,r,d,e,T):=g;intro M s1 J H1 X5 I B hp;have(rfl,rfl):=hp;show h cdv A outer s H1 j zs Hf Q G e d (λX5 J H' (L,U,o,z,a,y,u)=>?_) M s1 _ H1 X5 I B (Hf,_,aB.start n r,rfl);have(l,t,b,E,us,q,Y):=o.ownAt rfl u;show(_,t,T X5 l us L H' z o.ext b E q (y.reps Y))
def HR.pre{P:Nat->St->Hp->Prop}{Q:Nat->V->Hp->Prop}(h:HR X P c3 Q)(i:∀X5 J H,P0 X5 J H->P X5 J H):HR X P0 c3 Q:=λM s J H X5 I a p=>h M s J H X5 I a (i _ _ _ p)
variable{ρ7:LS}
def qS(h:DS c X st F):HT1 X (PD (Gx c X) E H0 λ_ U=>ao F G U=aa (.nx ρ7)) st (PD (Gx c X) E H0 λ_ U=>G U=aa (.nx ρ7)):=
 KI h λX5 U e=>by
  have(o,a,e):=nc.mp e
  cases o with
  |nx ρ'=>show(ρ',a,e)
  | _=>nomatch e
open Classical in
def wj(X5:Nat)(i:Nat)(f:Z4)(G:Nat->Z3)(U:LS):Option Fl:=(f U).bind λd=>match d with
 |.int n=>if n.natAbs.log2<1920/\0<X5 then if h:∃o,∀a,X5<a->G a (U.set i (.im (.tx (nA n) a)))=aa o then aa h.choose else ae else ae
 | _=>ae
variable{f:Z4}{G:Nat->Z3}
def TD{rest:List Stmt}(i:Nat)(r:Gl X "str")(w:X.mg "str"=ae)(ha:DE c X e f)(hG:∀j,X5<j->ke c X j rest (G j))(hN:X.N.Nodup)(hi:X.N[i]?=aa x<|Zb)(hx:Loc X.env.scope x<|Ze)
 (h:(ba [e] X.env=(ah,eval e X.env,)::ba [] X.env)<|Zb)
 (hs:dz (.Call (.Name "str" p) [e] [] pos) (aa (.Name x p0)) p1.line X.env=pure ah<|Zb)(hf:LcF X x<|Zf):
  ke c X X5 (.Assign [.Name x p0] (.Call (.Name "str" p) [e] [] pos) p1::rest) (wj X5 i f G):=by
 intro M s J H D hB I q_;have(E,H0,Hf,U,o,Q,a,kk):=q_
 delta wj at a
 have(d,q,a):=nc.mp a;split at a
 .rename_i n;split at a
  .rename_i hn;split at a
   .rename_i g;have z:=g.choose_spec;rw[a]at z;show kG (oI (lF (oU I r w JX (uX (cB hB ((ai ha au h).pa pos M s J H (λC H1=>∃b,C=[.int n]/\Ext Hf H b H1/\aB (Gx c X) E H0 b H1 J U) I (E,H0,Hf,U,_,Q,al q rfl,λC L H' T rr=>?_)) λus s1 m (C,H1,Y,A,b,ev,x1,y)=>?_) h rfl) (by decide) (rfl))) hs)
    .have(v,A,q,rv,rn):=rr;subst rn;cases (rv);show(L,q,T,Q.step T)
    .subst ev;have(u,rfl,t,rfl):=oX A;show PySem.P.str_of_int hn.1 ?_;show cB (bu _) (sH (v:=.tx _ _) (Y.tok _) hN hi hx (_,rfl,(kE (dY hn.2 m)),jr _) (λB l=>l) hf) λ_ B b3 l=>(hG _ (Nat.lt_succ_of_le m) M B _ H1 D b3 l (E,H0,b,_,_,y.setIm (d:=.tx _ _) (_,bu _,rfl),z _ (Nat.lt_succ_of_le m),kk.up x1.f))
   .nomatch a
  .nomatch a
 .nomatch a
def qT(X5:Nat)(f:Z4)(w z:Str)(U:LS):OD:=(f U).bind λd=>match wkD d with
 |.str x=>if 0<X5/\(w==z)=ah/\x.length+(x.length+1)*z.length<=16777216 then aa (.str (nw x w z)) else ae
 | _=>ae
def EE{a:Expr}{w:Str}{k1 k2:Nat}(ha:DEB c X X5 a f)
 (i:jR a "replace" X.env (eval a X.env)=eval a X.env<|Zb)
 (l:(((cD pos (ba [.Constant (.str w) k1 p2,.Constant (.str z) k2 p3] X.env)).all (λx=>!x.1) && (gM pos (gL [] X.env)).all (λx=>x.1.isSome)
   && decide (([.Constant (.str w) k1 p2,.Constant (.str z) k2 p3]:Zq).length+([]:List iG).length+(if ([]:List iG).isEmpty then 0 else 1)<30))=ac)<|Zb)
 (j:((p1.endLine==pos.line)=ac)<|Zb):
  DEB c X X5 (.Call (.Attribute a "replace" p1) [.Constant (.str w) k1 p2,.Constant (.str z) k2 p3] [] pos) (qT X5 f w z):=by
 intro M s J H Q b I ⟨E,H0,Hf,U,d,st,g,k⟩
 delta qT at g
 have(C,G,g):=nc.mp g;split at g
 .rename_i x N;split at g
  .rename_i q;have g:=cp g;subst g;show yf i l j rfl (cB b (ha M s J H (λv H'=>∃L,wkV v=.str x/\Ext Hf H L H') b I (E,H0,Hf,U,C,st,G,λv L H' Y r=>?_)) λu s1 B (v,H1,y,o,p,T,x1)=>?_)
   .have r':=r.wk;rw[N]at r';show(L,r',Y)
   have o:=o.wk;rw[T]at o;have(t,rfl):=o;show("str","str.replace",F.plainAttrs_str,CM,CN,mm _ _ _,(λ_ e=>by nomatch e),?_);show yu rfl (u7 ?_)
   have m:∀{s1:ak} {R:Z9},R _ {s1 with toks:=s1.toks+1}->wpAny (model X.prog X.w) X.A (eval (.Constant (.str w) k1 p2) X.env) R X.xe s1:=λh=>oK h
   have n:∀{s1:ak} {R:Z9},R _ {s1 with toks:=s1.toks+1}->wpAny (model X.prog X.w) X.A (eval (.Constant (.str z) k2 p3) X.env) R X.xe s1:=λh=>oK h
   show mq (m ?_);show mq (n ?_);show yv ?_;show SC.replace ((kE (dY q.1 B))) ?_ ?_ q.2.1 q.2.2 λt' kk=>(.str _,H1,((y.tok _).tok _).tok _,(_,rfl),k _ p H1 x1 rfl)
   .change s1.toks+1≠0;show Nat.succ_ne_zero _
   .change s1.toks≠s1.toks+1;show(Nat.succ_ne_self _).symm
  .nomatch g
 .nomatch g
def TF{a b:List Stmt}{t:TS}(j:PT X cd tc)(ha:gT X X5 a t)(i:gT X X5 b u):PSB X X5 (.If cd a b pos) (C7 tc t u):=by
 intro M s J H D g I h;show wpAny_If (cB g (j M s J H _ I h) λd s1 e l=>?_);have(H1,c,f):=l
 cases d with
 |true=>show ha M s1 J H1 D e c f
 |false=>show i M s1 J H1 D e c f
def TH{a b:List Stmt}{t:Zr}(j:DT c X cd t)(ha:ke c X X5 a F)(i:ke c X X5 b F'):DSB c X X5 (.If cd a b pos) (aW t F F'):=PSB.imp (TF j ha i) λX2 J H l=>by
 have(E,H0,Hf,U,o,h,d,k):=l
 delta aW at d
 cases g:t U with
 |none=>rw[g]at d;nomatch d
 |some x=>
  rw[g]at d;show(E,H0,Hf,U,x,h,g,λe H1 x1=>?_)
  cases x with
  |true=>rw[if_pos rfl];show(E,H0,e,U,o,h.step x1,d,k.up x1.f)
  |false=>rw[if_neg c6];show(E,H0,e,U,o,h.step x1,d,k.up x1.f)
variable{op:Operator}
def TJ{r:R2}{a:Expr}{ta:TE}(j:OpR X (iD op) r)(ha:PE X a ta)(i:PEB X X5 b tb):PEB X X5 (.BinOp a op b pos) (tOp r ta tb):=by
 intro M s J H Q f I h;show wpAny_BinOp (cB f (ha M s J H _ I h) λv s1 g (x,H1,d,n,l)=>thn (i M s1 J H1 _ g d l) λu s2 (y,c,e,o,m)=>j M s2 J c _ _ _ _ _ e n o m)
def TK{m:D->D->OD}{a:Expr}{g:Z4}(e:OpD c X (iD op) m)(ha:DE c X a f)(d:DEB c X X5 b g):DEB c X X5 (.BinOp a op b pos) (m2 m f g):=
 PEB.imp (TJ e ha d) λ_ _ _ h=>two (λ_ _ _ _ h=>h) h
def O.popN(n:Int)(o:O):Option O:=o.items.bind λj=>if 0<=n/\n<(j.length:Int)/\n<1000000 then aa (.lst ((j.eraseIdx n.toNat).map .fz)) else ae
def KQ(i:Nat)(p:Xp)(f:Z4)(U:LS):Option Fl:=(p U).bind λq=>(f U).bind λd=>match d with
 |.int n=>(q.1.popN n).map λo2=>.nx (U.set i (.deep (q.2 o2)))
 | _=>ae
variable{p:Xp}
def TL(h:PS X st (qj (tBM X.K "list" IC (tDP (Gx c X) i p) (nC (tD (Gx c X) f) lQ)))):DS c X st (KQ i p f):=PS.imp h λX2 J H q_=>by
 have(E,H0,Hf,U,o,y,e,kq):=q_;have(q,I,e):=dm e;have(d,L,e):=dm e
 cases d with
 |int n=>
  have(o2,M,e):=jC e;subst e;have(j,N,A):=dm M;split at A
  .rename_i hn;cases A;show(E,H0,Hf,U,q.1,q.2,y,I,λt v fp v1 f1 m H1 es Q x rt F=>?_);rw[Ki N]at F;have(l,us,fs,rfl,B,rs,e):=F.r;have(rd,rfl):=rs.unfz;show(.inl (rfl,_,SqL.of B),E,H0,m,U,.int n,y.step x,L,λw g G x2 r2=>?_);cases (r2);have Y:n.toNat<us.length:=by rw[<- rd.length];lia
   have hs:seqIndex? n us.length=aa n.toNat:=HA hn.1 (by simp_all);have C:=F.up x2.f x2.h;show(l,us,n,n.toNat,us[n.toNat],rfl,rfl,x2.h _ _ B,by lia,by lia,hs,gG Y,kq J g _ (x.trans x2).f ?_);have nf:OTs _ g (upd G l (.lst (us.eraseIdx n.toNat))) _ _ []:=OTs.fz ((rd.up x2.f).erase n.toNat)
   show y.foc es Q (rt.up x2.f x2.h) (x.trans x2) C (λb u T hn=>by rw[bJ (λz=>hn (by simp_all))];show T)
    (l,us.eraseIdx n.toNat,[],rfl,ca,nf,rfl) (by simp_all) λa ha=>.inl (by simp_all)
  .lia
 | _=>nomatch e
variable{bb:Bool}{f:Addr}{p:Pos}{m:MTf}
def KR(a:Str)(X0:Mk X.K (c a) f)(F:dA X.prog X.w X.K X.mg X.base CX0 k f fd ps (mM (Gx c X) ps.length m))(n:bn (k+1) X.A)(i:Gl X x)(hm:X.mg x=aa (.ref (c a)))(g:fN X.K fd ps [])
 (l:1=ps.length<|Zb)(b:NDb x<|Zc):
  DZ c X bb (.Call (.Name x p) [] [] pos) (tI a m λ_=>aa []):=PE.imp (Qd X0 F n i hm g .nil jv b) λJ H Q d=>Sx rfl (λJ H Q d=>by have(E,H0,Hf,U,j,st,e,k):=d;cases e;show k [] Hf H (Ext.refl st.sub) .nil) (λU j h=>by cases h;show l) d
variable{o:Expr}{fo:Z4}
def KS{fl:Str}{m:LD->Zs}(n:Str)(ho:DB c X o fo){k0:Nat}(pk:Pm X.prog X.w X.K X.mg X.base CX0 k (c n) fl (f,fd,) ps (spO (Gx c X) ps.length m))(z:bn k0 X.A)(hl:1=ps.length<|Zb)(ht:(eval (.Call (.Attribute o fl apos) [] [] pos) X.env=(do
   let ov <- eval o X.env
   gY apos.atName
   let (f,first,) <- fX [ov] (jS ov fl pl)
   lH pos f first (cD pos (ba [] X.env)) (gM pos (gL [] X.env))))<|Zb)(u:k<=k0<|Zc):
  DO c X (.Call (.Attribute o fl apos) [] [] pos) (Et n fl m fo λ_=>aa []):=PE.imp (ve ho pk.c pk.m pk.ok (z.mono u) pk.b .nil jv ht) λJ H Q q_=>by
 have(E,H0,Hf,U,rs,st,e,kq):=q_;have(d,T,i):=dm e;clear e
 cases d with
 |ins N ns j=>
  have e:(if N=n/\ns.contains fl=ah then (aa []).bind λas=>(m _).bind λrs=>if rs.all D.flat then aa rs else ae else ae)=aa rs:=i;split at e
  .rename_i t;have(p,y):=t;subst p;have(as,Y,i):=dm e;cases Y;have(rs',e3,e):=dm i;split at e
   .rename_i hs;cases e;show(E,H0,Hf,U,_,st,T,λv L H1 x r=>?_);have(a,dx,C,ev,q,B,rr):=id r;subst ev;show(a,dx,ns.zip C,rfl,q,o9 y,H1,_,_,aD.refl _,.cons r .nil,hl,e3,λl us M I G hn hf g r3=>(kq l us _ I (x.trans (JD x.s G.h)) (x.h.free hn) (by rw[zu (λC q=>by rw[g]at q;nomatch q)];show x.s.free hn) g ((r3.up G.s).flat hs)))
   .nomatch e
  .nomatch e
 | _=>nomatch i
def TM{f:Z4}(h:DB c X e f)(i:dz e ae pos.line X.env=pure ah<|Zb):DS c X (.Expr e pos) (cL f):=PS.imp (cG h i) λX2 J H j=>by
 have(E,H0,Hf,U,o,g,a,k):=j
 delta cL at a
 cases b:f U with
 |none=>rw[b]at a;nomatch a
 |some d=>
  rw[b]at a;cases a;show(E,H0,Hf,U,d,g,b,λv L H' x r=>k J L H' x.f (g.step x))
def EF(i X6:Nat)(a f:Str)(p:Xp)(U:LS):Option Fl:=match U[X6]? with
 |some (.own j)=>(p (U.set X6 .no)).bind λq=>(q.1.setF a f (.lst (j.map .fz))).map λo2=>.nx ((U.set X6 .no).set i (.deep (q.2 o2)))
 | _=>ae
variable{p:Xp}
def TN{fl:Str}(cn:Str)(hc:Cls X.K (c cn))(hn:ig X.K (c cn) fl)(hp:PS X st (Dj X.K (tDP (Gx c X) i p) (cb X6) fl)):DS c X st (EF i X6 cn fl p):=PS.imp hp λX2 J H q_=>by
 have(E,H0,Hf,U,o,so0,A,kq):=q_
 delta EF at A
 split at A
 .rename_i j ej;have(l,e1,hl0,hlf,us,hl,rl):=so0.ownAt rfl ej;have(q,e2,A):=dm A;have(o2,m,A):=jC A;subst A;have so:=so0.give ej e1;have xg:=Ext.grow so.sub JG;show(_,e1,(E,H0,Hf,U.set X6 .no,q.1,q.2,so.step xg,e2,λt v fp v1 f1 g L es ev x2 rt F=>?_));have I:=xg.trans x2;have hl2:g l=ae:=by rw[x2.n l _ hl rfl];show hlf
  have M:∀b∈[l],dele H l b=ae/\g b=ae:=λb d=>by rw[bE.mp d];show(zy,hl2)
  have ng:=λb d hf=>(so.was es ev I rt) b hf (M b d).1;have rx:OT _ g L (.lst (j.map .fz)) (.ref l) [l]:=(l,us,[],rfl,x2.h l _ hl,OTs.fz (rl.up x2.f),rfl);have B:Fre (dele H l) g [l]:=(f9.mpr (c7,jQ),M);generalize hx:O.lst (j.map .fz)=x at rx m;generalize hgp:[l]=gp at rx B M ng;generalize hu:V.ref l=u at rx
  cases h1:q.1 with
  |ins c' ns os=>
   rw[h1]at m F;replace m:(if c'=cn/\ns.length<1000 then _ else ae)=aa o2:=m;split at m
   .rename_i hcc;have(rfl,hlt):=hcc;have(a,dx,C,fs,rfl,ha,Q,rs,rfl):=id F.r;have(na,T):=f9.mp F.n;have G:=λz=>ng a z (F.sub a bi);show(a,_,dx,ns.zip C,rfl,ha,hc,hn,by rw[length_zip];lia,kq J g _ x2.f ?_);have keep:∀b w,b≠a->L b=aa w->upd L a (.ins (c c') dx (d8 fl u (ns.zip C))) b=aa w:=λb w d e=>by rw[bJ d];show e
    have Y:=rx.frame (aD.refl _) λb w d hm=>keep b w (λz=>by
     subst z;rw[ha]at d;cases d
     rcases hm with hm |hm
     .nomatch hm
     .show G hm) d
    have kk:∀b w,L b=aa w->b∉a::fs->upd L a _ b=aa w:=λb w d hn=>keep b w (λz=>hn (by rw[z];show bi)) d
    cases N:gA fl ns with
    |some k=>
     rw[N]at m;cases m;have hkl:k<os.length:=by rw[rs.len,<- Q];show Ep N
     have(vk,fk,evk,_,_,sb,bk):=rs.foc T (gG hkl)
     have (fs',r',m',n'):=bk g _ x u gp (aD.refl _) (λb w d hm _=>keep b w (λz=>by
      subst z;rw[ha]at d;cases d
      rcases hm with hm |hm
      .nomatch hm
      .show na hm) d) Y
     show so.foc es ev rt I F kk (a,dx,C.set k u,fs',rfl,by rw[ca,Er Q N],by simp[Q],r',rfl) (f9.mpr (λz=>?_,n' B.1 λb d hf=>absurd (F.sub b (bx _ hf)) (ng b d))) λb d=>?_
     .rcases m' a z with y |⟨y,_⟩
      .show G y
      .show na y
     .rcases bw.mp d with z |z
      .rw[z];show .inl bi
      .rcases m' b z with y |⟨y,_⟩
       .show .inr (M b y)
       .show .inl (bx _ y)
    |none=>
     rw[N]at m;cases m;show so.foc es ev rt I F kk (a,dx,C++[u],fs++gp,rfl,by rw[ca,Es Q N],by simp[Q],((rs.stay ha rfl na (aD.refl _) keep).append (.one Y)),rfl) (f9.mpr (λz=>?_,jP.mpr (T,B.1,λb d b' hb' z=>by subst z;show ng b hb' (F.sub b (bx _ d))))) λb d=>?_
     .rcases cW.mp z with y |y
      .show na y
      .show G y
     .rcases bw.mp d with z |z
      .rw[z];show .inl bi
      .rcases cW.mp z with y |y
       .show .inl (bx _ y)
       .show .inr (M b y)
   .nomatch m
  | _=>rw[h1]at m;nomatch m
 .nomatch A
end L2
namespace N_k91
open List
open PySem PySem.Spec PyProof.Rows L2
local macro_rules | `(tactic| walk_at "sc")=>`(tactic| exact ⟨rfl,rfl,rfl,by decide +kernel,rfl,by decide +kernel,by decide +kernel⟩)
def top(i:Nat):Stmt:=PySem.Challenge.pw_standstill_k91_desk_rows.main.body.getD i (.Pass (0,0,0,0))
nonrec def EG:=top 44
nonrec def EH:=top 45
nonrec def EI:=top 46
nonrec def EJ:=top 47
nonrec def EK:=top 48
nonrec def EL:=top 50
nonrec def EM:=top 51
nonrec def EN:=top 52
nonrec def EO:=top 53
nonrec def EQ:=top 54
nonrec def ER:=top 55
nonrec def ES:=top 56
nonrec def ET:=top 57
nonrec def EU:=top 58
nonrec def EV:=top 61
nonrec def EW:=top 62
nonrec def EX:=top 63
nonrec def EY:=top 64
nonrec def EZ:=top 65
nonrec def E1:=top 66
nonrec def E2:=top 67
nonrec def E3:=top 68
nonrec def E4:=top 69
nonrec def E5:=top 70
nonrec def s_3:=top 94
nonrec def E6:=top 95
nonrec def E7:=top 101
nonrec def s_5:=top 102
nonrec def E8:=top 103
nonrec def E9:=top 104
nonrec def Fa:=top 105
nonrec def Fb:=top 106
nonrec def Fc:=top 107
nonrec def Fd:=top 108
nonrec def Fe:=top 109
nonrec def Ff:=top 110
nonrec def Fg:=top 111
nonrec def Fh:=dB (top 96) 0
nonrec def Fi:=dB (top 96) 1
nonrec def Fj:=dB (top 96) 2
nonrec def s_4:=dB (top 96) 3
nonrec def s_1:=dB (top 96) 4
nonrec def Fk:=dB (top 96) 5
nonrec def Fm:=dB (top 96) 6
nonrec def Fo:=dB (top 96) 7
nonrec def Fp:=dB (top 96) 8
nonrec def s_0:=dB (top 96) 9
nonrec def Fq:=dB (top 96) 10
nonrec def Fs:=dB (top 96) 11
nonrec def s_9:=dB (top 96) 12
nonrec def s_6:=dB (top 96) 13
nonrec def s_2:=dB (top 96) 14
nonrec def Ft:=dB (top 96) 15
nonrec def Fu:=dB (top 96) 16
nonrec def Fv:=dB (top 96) 17
nonrec def Fw:=dB (top 96) 18
nonrec def Fx:=dB (top 96) 19
nonrec def Fy:=dB (top 96) 20
nonrec def Fz:=dB (top 96) 21
nonrec def FA:=dB (top 96) 22
nonrec def FB:=dB (top 96) 23
nonrec def FC:=dB (top 96) 24
nonrec def FD:=dB (top 96) 25
nonrec def FE:=dB (top 96) 26
nonrec def FF:=dB (top 98) 0
nonrec def s_7:=dB (top 98) 1
nonrec def s_8:=dB (top 98) 2
nonrec def FG:=dB (top 98) 3
def KT:aP ["line","spaced","sign"] ["line"] (aH EG):=by walk_at "sc"
def TQ:aP ["word","signs","most"] ["word","signs","most"] (aH EH):=by walk_at "sc"
def TR:aP ["word"] ["word"] (aH EI):=by walk_at "sc"
def TU:aP ["word"] ["word"] (aH EJ):=by walk_at "sc"
def KU:aP ["word","figures"] ["word"] (aH EK):=by walk_at "sc"
def tS:aP ["rows","kinds","row"] ["rows"] (aH EL):=by walk_at "sc"
def Al:aP ["row","kinds","name"] ["row","kinds"] (aH EM):=by walk_at "sc"
def KW:aP ["words"] ["words"] (aH EN):=by walk_at "sc"
def tT:aP ["row","kinds","args","over"] ["row","kinds"] (aH EO):=by walk_at "sc"
def pN:aP ["pairs","outer","kinds","variable","kind","told"] ["pairs","outer","kinds"] (aH EQ):=by walk_at "sc"
def tU:aP ["args","pairs","told","arg"] ["args","pairs"] (aH ER):=by walk_at "sc"
def KY:aP ["row","found"] ["row"] (aH ES):=by walk_at "sc"
def TV:aP ["part"] ["part"] (aH ET):=by walk_at "sc"
def Am:aP ["items","args","thing","worth"] ["items"] (aH EU):=by walk_at "sc"
def TW:aP ["row"] ["row"] (aH EV):=by walk_at "sc"
def FH:aP ["row","word","bounds"] ["row"] (aH EW):=by walk_at "sc"
def TX:aP ["body","pairs"] ["body","pairs"] (aH EX):=by walk_at "sc"
def TY:aP ["word","text"] ["word","text"] (aH EY):=by walk_at "sc"
def FI:aP ["thing","name","args"] ["thing"] (aH EZ):=by walk_at "sc"
def TZ:aP ["body"] ["body"] (aH E1):=by walk_at "sc"
def KZ:aP ["part","word"] ["part"] (aH E2):=by walk_at "sc"
def T1:aP ["items","over"] ["items","over"] (aH E3):=by walk_at "sc"
def K0:aP ["thing","worth","text"] ["thing","worth"] (aH E4):=by walk_at "sc"
def T2:aP ["pairs"] ["pairs"] (aH E5):=by walk_at "sc"
def qU:aP ["line","reader","row"] ["line"] (aH s_3):=by walk_at "sc"
def K1:aP ["listed","most"] ["listed","most"] (aH E6):=by walk_at "sc"
def T3:aP ["_law_script","_law_k"] ["_law_script","_law_k"] (aH E7):=by walk_at "sc"
def FJ:aP ["_law_cell","_law_k","_law_prime","_law_once"] ["_law_cell","_law_k"] (aH s_5):=by walk_at "sc"
def kh:aP ["_law_cell","_law_letters","_law_kept","_law_size","_law_k","_law_base","_law_at","_law_pool_here","_law_name","_law_i"] ["_law_cell"] (aH E8):=by walk_at "sc"
def qV:aP ["_law_cell","_law_pool_here","_law_letters","_law_size","_law_some","_law_good","_law_name"] ["_law_cell","_law_pool_here"] (aH E9):=by walk_at "sc"
def mS:aP ["_law_cell","_law_pool_here","_law_name","_law_one","_law_other","_law_number","_law_told_here","_law_row","_law_typed"] ["_law_cell","_law_pool_here"] (aH Fa):=by walk_at "sc"
def wl:aP ["_law_cell","_law_pool_here","_law_name","_law_some"] ["_law_cell","_law_pool_here"] (aH Fb):=by walk_at "sc"
def FK:aP ["_law_rows","_law_kinds","_law_row"] ["_law_rows"] (aH Fc):=by walk_at "sc"
def pO:aP ["_law_desk","_law_line","_law_found","_law_word"] ["_law_desk","_law_line"] (aH Fd):=by walk_at "sc"
def pP:aP ["_law_desk","_law_number","_law_found","_law_word"] ["_law_desk","_law_number"] (aH Fe):=by walk_at "sc"
def qW:aP ["_law_desk","_law_rows","_law_cell","_law_pool_here","_law_sort","_law_number","_law_others","_law_row","_law_found"] ["_law_desk","_law_rows","_law_cell","_law_pool_here"] (aH Ff):=by walk_at "sc"
def mT:aP ["_law_script","_law_pool_here","_law_desks","_law_rows","_law_held","_law_cell","_law_at","_law_k","_law_due","_law_told_here"] ["_law_script"] (aH Fg):=by walk_at "sc"
def T4:aP ["self","words"] ["self","words"] (aH Fh):=by walk_at "sc"
def K2:aP ["self","behind","place"] ["self","behind"] (aH Fi):=by walk_at "sc"
def K3:aP ["self","word"] ["self"] (aH Fj):=by walk_at "sc"
def T5:aP ["self","word"] ["self","word"] (aH s_4):=by walk_at "sc"
def K4:aP ["self","word"] ["self","word"] (aH s_1):=by walk_at "sc"
def K5:aP ["self"] ["self"] (aH Fk):=by walk_at "sc"
def An:aP ["self","word"] ["self"] (aH Fm):=by walk_at "sc"
def pQ:aP ["self","low","high"] ["self"] (aH Fo):=by walk_at "sc"
def wm:aP ["self","body"] ["self"] (aH Fp):=by walk_at "sc"
def Ao:aP ["self","word"] ["self"] (aH s_0):=by walk_at "sc"
def wn:aP ["self","names"] ["self"] (aH Fq):=by walk_at "sc"
def Ap:aP ["self","word"] ["self"] (aH Fs):=by walk_at "sc"
def Aq:aP ["self","word"] ["self"] (aH s_9):=by walk_at "sc"
def K6:aP ["self"] ["self"] (aH s_6):=by walk_at "sc"
def wo:aP ["self","name"] ["self"] (aH s_2):=by walk_at "sc"
def wq:aP ["self","args"] ["self"] (aH Ft):=by walk_at "sc"
def K7:aP ["self"] ["self"] (aH Fu):=by walk_at "sc"
def wt:aP ["self","body"] ["self"] (aH Fv):=by walk_at "sc"
def K8:aP ["self"] ["self"] (aH Fw):=by walk_at "sc"
def wu:aP ["self","first"] ["self"] (aH Fx):=by walk_at "sc"
def qX:aP ["self","word","number"] ["self"] (aH Fy):=by walk_at "sc"
def wv:aP ["self","items"] ["self"] (aH Fz):=by walk_at "sc"
def ww:aP ["self","worth"] ["self"] (aH FA):=by walk_at "sc"
def K9:aP ["self"] ["self"] (aH FB):=by walk_at "sc"
def La:aP ["self"] ["self"] (aH FC):=by walk_at "sc"
def wx:aP ["self","pairs"] ["self"] (aH FD):=by walk_at "sc"
def wy:aP ["self","variable"] ["self"] (aH FE):=by walk_at "sc"
def T6:aP ["self"] ["self"] (aH FF):=by walk_at "sc"
def tV:aP ["self","line","row"] ["self","line"] (aH s_7):=by walk_at "sc"
def wz:aP ["self","number","rest"] ["self","number"] (aH s_8):=by walk_at "sc"
def T7:aP ["self"] ["self"] (aH FG):=by walk_at "sc"
set_option genInjectivity false
set_option genSizeOf false
structure Wa where
(e_52 e_50 e_62 e_40 e_45 e_16 e_41 e_46 e_36 e_26 e_43 e_55 e_63 e_53 e_64 e_56 e_57 e_49 e_47 e_58 e_59 e_60 e_61 e_51 e_3 e_20 e_65 e_5 e_37 e_42 e_38 e_54 e_48 e_34 e_35 e_33 e_30 e_66 e_10 e_31 e_4 e_1 e_39 e_14 e_17 e_11 e_0 e_24 e_27 e_9 e_6 e_2 e_25 e_12 e_15 e_21 e_32 e_28 e_22 e_23 e_29 e_13 e_19 e_18 e_44 e_7 e_8 e_67:Addr×eS)
 (cl:Str->Addr)
 (C_BadName C_NoRow:Addr)
structure Wd(K:bf)(mg:Zp)(a:Wa):Prop where
 e_52:Df K mg "words_of" EG ["line"] a.e_52
 e_50:Df K mg "is_made_of" EH ["word","signs","most"] a.e_50
 e_62:Df K mg "is_name" EI ["word"] a.e_62
 e_40:Df K mg "is_variable" EJ ["word"] a.e_40
 e_45:Df K mg "is_number" EK ["word"] a.e_45
 e_16:Df K mg "kinds_of" EL ["rows"] a.e_16
 e_41:Df K mg "must_be_new" EM ["row","kinds"] a.e_41
 e_46:Df K mg "must_be_unlike" EN ["words"] a.e_46
 e_36:Df K mg "must_be_known" EO ["row","kinds"] a.e_36
 e_26:Df K mg "must_be_pairs" EQ ["pairs","outer","kinds"] a.e_26
 e_43:Df K mg "must_be_told" ER ["args","pairs"] a.e_43
 e_55:Df K mg "uses" ES ["row"] a.e_55
 e_63:Df K mg "part_uses" ET ["part"] a.e_63
 e_53:Df K mg "args_of" EU ["items"] a.e_53
 e_64:Df K mg "shown_row" EV ["row"] a.e_64
 e_56:Df K mg "behind_word" EW ["row"] a.e_56
 e_57:Df K mg "shown_end" EX ["body","pairs"] a.e_57
 e_49:Df K mg "if_any" EY ["word","text"] a.e_49
 e_47:Df K mg "shown_thing" EZ ["thing"] a.e_47
 e_58:Df K mg "shown_body" E1 ["body"] a.e_58
 e_59:Df K mg "shown_part" E2 ["part"] a.e_59
 e_60:Df K mg "shown_over" E3 ["items","over"] a.e_60
 e_61:Df K mg "shown_item" E4 ["thing","worth"] a.e_61
 e_51:Df K mg "shown_pairs" E5 ["pairs"] a.e_51
 e_3:Df K mg "read_row" s_3 ["line"] a.e_3
 e_20:Df K mg "at_most" E6 ["listed","most"] a.e_20
 e_65:Df K mg "_law_cell_at" E7 ["_law_script","_law_k"] a.e_65
 e_5:Df K mg "_law_mixed" s_5 ["_law_cell","_law_k"] a.e_5
 e_37:Df K mg "_law_pool" E8 ["_law_cell"] a.e_37
 e_42:Df K mg "_law_kind" E9 ["_law_cell","_law_pool_here"] a.e_42
 e_38:Df K mg "_law_using" Fa ["_law_cell","_law_pool_here"] a.e_38
 e_54:Df K mg "_law_no_row" Fb ["_law_cell","_law_pool_here"] a.e_54
 e_48:Df K mg "_law_fit" Fc ["_law_rows"] a.e_48
 e_34:Df K mg "_law_told" Fd ["_law_desk","_law_line"] a.e_34
 e_35:Df K mg "_law_dropped" Fe ["_law_desk","_law_number"] a.e_35
 e_33:Df K mg "_law_deed" Ff ["_law_desk","_law_rows","_law_cell","_law_pool_here"] a.e_33
 e_30:Df K mg "law" Fg ["_law_script"] a.e_30
 e_66:Dm K (a.cl "Reader") "__init__" "Reader.__init__" Fh ["self","words"] a.e_66
 e_10:Dm K (a.cl "Reader") "coming" "Reader.coming" Fi ["self","behind"] a.e_10
 e_31:Dm K (a.cl "Reader") "take" "Reader.take" Fj ["self"] a.e_31
 e_4:Dm K (a.cl "Reader") "passes" "Reader.passes" s_4 ["self","word"] a.e_4
 e_1:Dm K (a.cl "Reader") "must_pass" "Reader.must_pass" s_1 ["self","word"] a.e_1
 e_39:Dm K (a.cl "Reader") "must_end" "Reader.must_end" Fk ["self"] a.e_39
 e_14:Dm K (a.cl "Reader") "read_form" "Reader.read_form" Fm ["self"] a.e_14
 e_17:Dm K (a.cl "Reader") "read_choose" "Reader.read_choose" Fo ["self"] a.e_17
 e_11:Dm K (a.cl "Reader") "read_never" "Reader.read_never" Fp ["self"] a.e_11
 e_0:Dm K (a.cl "Reader") "read_name" "Reader.read_name" s_0 ["self"] a.e_0
 e_24:Dm K (a.cl "Reader") "read_names" "Reader.read_names" Fq ["self"] a.e_24
 e_27:Dm K (a.cl "Reader") "read_variable" "Reader.read_variable" Fs ["self"] a.e_27
 e_9:Dm K (a.cl "Reader") "read_number" "Reader.read_number" s_9 ["self"] a.e_9
 e_6:Dm K (a.cl "Reader") "read_arg" "Reader.read_arg" s_6 ["self"] a.e_6
 e_2:Dm K (a.cl "Reader") "read_thing" "Reader.read_thing" s_2 ["self"] a.e_2
 e_25:Dm K (a.cl "Reader") "read_args" "Reader.read_args" Ft ["self"] a.e_25
 e_12:Dm K (a.cl "Reader") "read_if" "Reader.read_if" Fu ["self"] a.e_12
 e_15:Dm K (a.cl "Reader") "read_body" "Reader.read_body" Fv ["self"] a.e_15
 e_21:Dm K (a.cl "Reader") "read_part" "Reader.read_part" Fw ["self"] a.e_21
 e_32:Dm K (a.cl "Reader") "read_unlike" "Reader.read_unlike" Fx ["self"] a.e_32
 e_28:Dm K (a.cl "Reader") "read_count" "Reader.read_count" Fy ["self"] a.e_28
 e_22:Dm K (a.cl "Reader") "read_items" "Reader.read_items" Fz ["self"] a.e_22
 e_23:Dm K (a.cl "Reader") "read_item" "Reader.read_item" FA ["self"] a.e_23
 e_29:Dm K (a.cl "Reader") "read_over" "Reader.read_over" FB ["self"] a.e_29
 e_13:Dm K (a.cl "Reader") "read_for" "Reader.read_for" FC ["self"] a.e_13
 e_19:Dm K (a.cl "Reader") "read_pairs" "Reader.read_pairs" FD ["self"] a.e_19
 e_18:Dm K (a.cl "Reader") "read_pair" "Reader.read_pair" FE ["self"] a.e_18
 e_44:Dm K (a.cl "Desk") "__init__" "Desk.__init__" FF ["self"] a.e_44
 e_7:Dm K (a.cl "Desk") "tell" "Desk.tell" s_7 ["self","line"] a.e_7
 e_8:Dm K (a.cl "Desk") "drop" "Desk.drop" s_8 ["self","number"] a.e_8
 e_67:Dm K (a.cl "Desk") "rows" "Desk.rows" FG ["self"] a.e_67
 lk:mg "Reader"=aa (.ref (a.cl "Reader"))
 h6:Cls K (a.cl "Reader")
 k4:Mk K (a.cl "Reader") a.e_66.1
 kx:ig K (a.cl "Reader") "words"
 kv:ig K (a.cl "Reader") "place"
 mu:mg "Desk"=aa (.ref (a.cl "Desk"))
 ko:Cls K (a.cl "Desk")
 k7:Mk K (a.cl "Desk") a.e_44.1
 kg:ig K (a.cl "Desk") "kept"
 kF:mg "BadName"=aa (.ref a.C_BadName)
 x_BadName:bV K a.C_BadName=ac
 k6:mg "NoRow"=aa (.ref a.C_NoRow)
 x_NoRow:bV K a.C_NoRow=ac
 mt_BadName_BadName:iY K a.C_BadName (.ref a.C_BadName)=aa ac
 mt_BadName_NoRow:iY K a.C_BadName (.ref a.C_NoRow)=aa ah
 mt_NoRow_BadName:iY K a.C_NoRow (.ref a.C_BadName)=aa ah
 mt_NoRow_NoRow:iY K a.C_NoRow (.ref a.C_NoRow)=aa ac
 nL:JY K mg "KEPT" ["kind","rule","may","choose","never","if","and","not","unlike","least","most","of","to","over","in","for"]
 ls:∃t,mg "SMALL"=aa (.str "abcdefghijklmnopqrstuvwxyz" t)
 nq:∃t,mg "GREAT"=aa (.str "ABCDEFGHIJKLMNOPQRSTUVWXYZ" t)
 lm:∃t,mg "FIGURES"=aa (.str "0123456789" t)
 oi:∃t,mg "LONE"=aa (.str "()," t)
 z_ValueError:mg "ValueError"=ae
 k8:mg "all"=ae
 ny:mg "any"=ae
 lL:mg "bool"=ae
 z_dict:mg "dict"=ae
 z_enumerate:mg "enumerate"=ae
 lr:mg "int"=ae
 ky:mg "isinstance"=ae
 kz:mg "len"=ae
 k9:mg "list"=ae
 kT:mg "range"=ae
 z_reversed:mg "reversed"=ae
 ml:mg "set"=ae
 z_sorted:mg "sorted"=ae
 lb:mg "str"=ae
 z_sum:mg "sum"=ae
 z_zip:mg "zip"=ae
 lc:nK K "bool"
 l6:nK K "int"
 ld:nK K "list"
 l8:nK K "str"
set_option genInjectivity true
set_option genSizeOf true
nonrec abbrev eY(P:cP)(w:World)(K:bf)(mg:Zp)(base:Heap)(a:Wa)(k:Nat)(x:Str)(e:Addr×eS)(ps:Z1)(m:Addr->LD->LD->Option (LD×D)):Prop:=Pm P w K mg base CX0 k (a.cl "Reader") x e ps (qJ (K,a.cl) "Reader" ["words","place"] ps.length m)
nonrec abbrev fR(P:cP)(w:World)(K:bf)(mg:Zp)(base:Heap)(a:Wa)(k:Nat)(x:Str)(e:Addr×eS)(ps:Z1)(X4:Addr)(r:Addr->LD->LD->Bool):Prop:=Pm P w K mg base (CX1 P w) k (a.cl "Reader") x e ps (qP (K,a.cl) "Reader" ["words","place"] ps.length X4 r)
nonrec abbrev qD(P:cP)(w:World)(K:bf)(mg:Zp)(base:Heap)(a:Wa)(k:Nat)(x:Str)(e:Addr×eS)(ps:Z1)(m:LD->OD):Prop:=Pk P w K mg base CX0 k x e ps (spD (K,a.cl) ps.length m)
nonrec abbrev FL(P:cP)(w:World)(K:bf)(mg:Zp)(base:Heap)(a:Wa)(k:Nat)(c x:Str)(e:Addr×eS)(ps:Z1)(m:MTf):Prop:=Pm P w K mg base CX0 k (a.cl c) x e ps (mM (K,a.cl) ps.length m)
nonrec abbrev qPO(P:cP)(w:World)(K:bf)(mg:Zp)(base:Heap)(a:Wa)(k:Nat)(c x:Str)(e:Addr×eS)(ps:Z1)(m:LD->Zs):Prop:=Pm P w K mg base CX0 k (a.cl c) x e ps (spO (K,a.cl) ps.length m)
def As:Z3:=
 (Kk 0 "Desk" "kept" (cc 0) (vK nZ))
def qY:MTf:=pA 1 As
def Au:Z3:=
 (kW (z9 (d9 (af 1)) (ag (af 0) (ag (af 1) nZ)) nZ))
def qZ:=bR 2 Au
def Av:Z3:=
 (ao (aS 1 (mIx (aF 0) (kI 0)))
  (ao (aS 2 (m2 g9 (kSt ",") (mIx (aF 0) (kI 1))))
  (cz (vIf (d9 (af 2)) (mFs (mFv (af 1) (mFc "(" (mFv (af 2) (mFc ")" nZ))))) (af 1)))))
def tW:=bR 3 Av
def Aw:Z3:=
 (ao (aS 2 (az tW (ag (af 0) nZ)))
  (cz (vIf (mB (m2 dEq (af 1) (kI 1))) (af 2) (mFs (mFv (af 1) (mFc " " (mFv (af 2) nZ)))))))
def Ax:=bR 3 Aw
def Ay:Z3:=
 (cz (m2 g9 (kSt ", ") (aR (bP 2 [] (bH (af 0)) (eV (bO (aT 0) (bO (aT 1) fH))) kY (mFs (mFv (af 0) (mFc " in " (mFv (af 1) nZ))))))))
def tX:=bR 1 Ay
def Az:Z3:=
 (kW (g7 (aR (ag (m2 g9 (kSt ", ") (aR (bP 2 [] (bH (af 0)) (eV (bO (aT 0) (bO (aT 1) fH))) kY (az Ax (ag (af 0) (ag (af 1) nZ)))))) nZ)) (az qZ (ag (kSt "over") (ag (az tX (ag (af 1) nZ)) nZ)))))
def AA:=bR 2 Az
def AB:Z3:=
 (ao (aS 1 (mIx (aF 0) (kI 0)))
  (ao (aW (mB (m2 dEq (af 1) (kSt "is"))) (cz (az tW (ag (mIx (aF 0) (kI 1)) nZ))) aY)
  (ao (aW (mB (m2 dEq (af 1) (kSt "not"))) (cz (m2 g9 (kSt " ") (aR (ag (af 1) (ag (az tW (ag (mIx (aF 0) (kI 1)) nZ)) nZ))))) aY)
  (ao (aW (mB (m2 dEq (af 1) (kSt "unlike"))) (cz (m2 g9 (kSt " ") (aR (ag (mIx (aF 0) (kI 1)) (ag (af 1) (ag (mIx (aF 0) (kI 2)) nZ)))))) aY)
  (cz (m2 g9 (kSt " ") (aR (g7 (aR (ag (af 1) (ag (m1 nP (mIx (aF 0) (kI 1))) (ag (kSt "of") nZ)))) (az AA (ag (mIx (aF 0) (kI 2)) (ag (mIx (aF 0) (kI 3)) nZ)))))))))))
def AC:=bR 2 AB
def AD:Z3:=
 (cz (m2 g9 (kSt " and ") (aR (bP 1 [] (bH (af 0)) (aT 0) kY (az AC (ag (af 0) nZ))))))
def AE:=bR 1 AD
def AF:Z3:=
 (cz (m2 aZ (az qZ (ag (kSt "if") (ag (az AE (ag (af 0) nZ)) nZ))) (az qZ (ag (kSt "for") (ag (az tX (ag (af 1) nZ)) nZ)))))
def AG:=bR 2 AF
def AH:Z3:=
 (ao (aS 1 (mIx (aF 0) (kI 0)))
  (ao (aW (mB (m2 dEq (af 1) (kSt "kind"))) (kW (g7 (aR (ag (mIx (aF 0) (kI 1)) nZ)) (mIx (aF 0) (kI 2)))) aY)
  (ao (aW (mB (m2 dEq (af 1) (kSt "never"))) (kW (g7 (aR (ag (az AE (ag (mIx (aF 0) (kI 1)) nZ)) nZ)) (az qZ (ag (kSt "for") (ag (az tX (ag (mIx (aF 0) (kI 2)) nZ)) nZ))))) aY)
  (ao (aW (mB (m2 dEq (af 1) (kSt "choose"))) (ao (aS 2 (aR (ag (m1 nP (mIx (aF 0) (kI 1))) (ag (kSt "to") (ag (m1 nP (mIx (aF 0) (kI 2))) (ag (kSt "of") nZ))))))
  (cz (m2 aZ (m2 aZ (af 2) (az AA (ag (mIx (aF 0) (kI 3)) (ag (mIx (aF 0) (kI 4)) nZ)))) (az AG (ag (mIx (aF 0) (kI 5)) (ag (mIx (aF 0) (kI 6)) nZ)))))) aY)
  (kW (g7 (aR (ag (az tW (ag (mIx (aF 0) (kI 1)) nZ)) nZ)) (az AG (ag (mIx (aF 0) (kI 2)) (ag (mIx (aF 0) (kI 3)) nZ)))))))))
def FM:=bR 3 AH
def AI:Z3:=
 (cz (m2 g9 (kSt " ") (aR (g7 (aR (ag (mIx (aF 0) (kI 0)) nZ)) (az FM (ag (af 0) nZ))))))
def FN:=bR 1 AI
def tY:Z3:=
 (kW (bP 1 [] (bH (lV "Desk" "kept" (af 0))) (aT 0) kY (az FN (ag (af 0) nZ))))
def XU:=bR 1 tY
def FO:Z3:=
 (ao (aW (mB (m2 dLt (af 1) (az cI (ag (af 0) nZ)))) (cz (mIx (aF 0) (af 1))) aY)
  (cz (kI 0)))
def FP:=bR 2 FO
def FQ:Z3:=
 (aW (mB (m2 dLt (pI (af 0)) (az cI (ag (af 0) nZ)))) (λ_=>ae) aY)
def rg:=bR 1 FQ
abbrev wB:LS->Bool:=
 (rIf (mTX (mB (m2 dLt (pI (af 0)) (az cI (ag (af 0) nZ))))) (rOf (ag (kSt "a name or a variable is told twice") nZ)) rNo)
abbrev AJ:LD->Bool:=λj=>wB (dD 1 j)
def AK:Z3:=
 (ao (cL (az rg (ag (aR (bP 2 [] (bH (m2 aZ (af 1) (af 0))) (eV (bO (aT 0) (bO (aT 1) fH))) kY (af 0))) nZ)))
  (ao (aS 5 (aR (bP 2 [] (bH (af 2)) (eV (bO (aT 0) (bO (aT 1) fH))) kY (af 0))))
  (io (bH (af 0)) (eV (bO (aT 3) (bO (aT 4) fH))) (aW (mB (m2 jb (af 4) (af 5))) (λ_=>ae) aY))))
def l9:=bR 6 AK
abbrev AL:LS->Bool:=
 (bB (gk rNo AJ (aw (mX (aR (bP 2 [] (bH (m2 aZ (af 1) (af 0))) (eV (bO (aT 0) (bO (aT 1) fH))) kY (af 0)))) aj)) (cL (az rg (ag (aR (bP 2 [] (bH (m2 aZ (af 1) (af 0))) (eV (bO (aT 0) (bO (aT 1) fH))) kY (af 0))) nZ)))
  (bB rNo (aS 5 (aR (bP 2 [] (bH (af 2)) (eV (bO (aT 0) (bO (aT 1) fH))) kY (af 0))))
  (pH (bH (af 0)) (eV (bO (aT 3) (bO (aT 4) fH))) (aW (mB (m2 jb (af 4) (af 5))) (λ_=>ae) aY) (rIf (mTX (mB (m2 jb (af 4) (af 5)))) (rOf (ag (mFs (mFc "the kind " (mFv (af 4) (mFc " of " (mFv (af 3) (mFc " isn't told ahead" nZ)))))) nZ)) rNo))))
abbrev AM:LD->Bool:=λj=>AL (dD 6 j)
def FR:Z3:=
 (cz (i9 (jg dLe dLe (kI 1) (az cI (ag (af 0) nZ)) (af 2)) (az mE (ag (aR (bP 1 [1] (tE (af 0)) (aT 0) kY (m2 tF (af 0) (af 1)))) nZ))))
def tZ:=bR 3 FR
def FS:Z3:=
 (cz (i9 (az tZ (ag (qI (af 0) (λ_=>aa ae) (mPt (kI 1))) (ag (kSt "ABCDEFGHIJKLMNOPQRSTUVWXYZ") (ag (kI 1) nZ)))) (vOr (m2 dEq (az cI (ag (af 0) nZ)) (kI 1)) (az tZ (ag (qI (af 0) (mPt (kI 1)) (λ_=>aa ae)) (ag (kSt "abcdefghijklmnopqrstuvwxyz") (ag (kI 7) nZ)))))))
def n5:=bR 1 FS
def FT:Z3:=
 (ao (aS 2 (aR (bP 2 [] (bH (af 1)) (eV (bO (aT 0) (bO (aT 1) fH))) kY (af 0))))
  (io (bH (af 0)) (aT 3) (aW (jX (d9 (az n5 (ag (af 3) nZ))) (mB (m2 jb (af 3) (af 2)))) (λ_=>ae) aY)))
def wC:=bR 4 FT
abbrev FU:LS->Bool:=
 (bB rNo (aS 2 (aR (bP 2 [] (bH (af 1)) (eV (bO (aT 0) (bO (aT 1) fH))) kY (af 0))))
  (pH (bH (af 0)) (aT 3) (aW (jX (d9 (az n5 (ag (af 3) nZ))) (mB (m2 jb (af 3) (af 2)))) (λ_=>ae) aY) (rIf (mTX (jX (d9 (az n5 (ag (af 3) nZ))) (mB (m2 jb (af 3) (af 2))))) (rOf (ag (mFs (mFc "the variable " (mFv (af 3) (mFc " isn't told" nZ)))) nZ)) rNo)))
abbrev Lb:LD->Bool:=λj=>FU (dD 4 j)
def FV:Z3:=
 (ao (gw 1 nZ)
  (ao (io (bH (af 0)) (eV (bO (aT 2) (bO (aT 3) fH))) (sW 1 (sV (mIx (aF 2) (kI 1)))))
  (mD 1)))
def AN:=bR 4 FV
def FW:Z3:=
 (ao (aW (mB (m2 dEq (mIx (aF 0) (kI 0)) (kSt "unlike"))) (cz (cH (ag (aR (ag (mIx (aF 0) (kI 1)) (ag (mIx (aF 0) (kI 2)) nZ))) (ag (aR nZ) nZ)))) aY)
  (ao (aW (mB (m2 dIn (mIx (aF 0) (kI 0)) (cH (ag (kSt "least") (ag (kSt "most") nZ))))) (cz (cH (ag (az AN (ag (mIx (aF 0) (kI 2)) nZ)) (ag (mIx (aF 0) (kI 3)) nZ)))) aY)
  (cz (cH (ag (mIx (bH (mIx (aF 0) (kI 1))) (kI 1)) (ag (aR nZ) nZ))))))
def AO:=bR 1 FW
def FX:Z3:=
 (ao (gw 1 (bP 1 [] (bH (mIx (aF 0) (m1 ja (kI 2)))) (aT 0) kY (az AO (ag (af 0) nZ))))
  (ao (aW (mB (m2 dEq (mIx (aF 0) (kI 0)) (kSt "choose"))) (ip 1 (cH (ag (az AN (ag (mIx (aF 0) (kI 3)) nZ)) (ag (mIx (aF 0) (kI 4)) nZ)))) (aW (mB (m2 dNe (mIx (aF 0) (kI 0)) (kSt "never"))) (ip 1 (cH (ag (mIx (bH (mIx (aF 0) (kI 1))) (kI 1)) (ag (aR nZ) nZ)))) aY))
  (mD 1)))
def AQ:=bR 2 FX
def AR:Z3:=
 (ao (cL (az l9 (ag (mIx (aF 0) (m1 ja (kI 1))) (ag (aR nZ) (ag (af 1) nZ)))))
  (io (bH (az AQ (ag (af 0) nZ))) (eV (bO (aT 2) (bO (aT 3) fH))) (ao (cL (az l9 (ag (af 3) (ag (mIx (aF 0) (m1 ja (kI 1))) (ag (af 1) nZ)))))
  (cL (az wC (ag (af 2) (ag (m2 aZ (mIx (aF 0) (m1 ja (kI 1))) (af 3)) nZ)))))))
def pR:=bR 4 AR
abbrev AS:LS->Bool:=
 (bB (gk rNo AM (aw (mX (mIx (aF 0) (m1 ja (kI 1)))) (aw (mX (aR nZ)) (aw (mX (af 1)) aj)))) (cL (az l9 (ag (mIx (aF 0) (m1 ja (kI 1))) (ag (aR nZ) (ag (af 1) nZ)))))
  (pH (bH (az AQ (ag (af 0) nZ))) (eV (bO (aT 2) (bO (aT 3) fH))) (ao (cL (az l9 (ag (af 3) (ag (mIx (aF 0) (m1 ja (kI 1))) (ag (af 1) nZ)))))
  (cL (az wC (ag (af 2) (ag (m2 aZ (mIx (aF 0) (m1 ja (kI 1))) (af 3)) nZ))))) (bB (gk rNo AM (aw (mX (af 3)) (aw (mX (mIx (aF 0) (m1 ja (kI 1)))) (aw (mX (af 1)) aj)))) (cL (az l9 (ag (af 3) (ag (mIx (aF 0) (m1 ja (kI 1))) (ag (af 1) nZ)))))
  (gk rNo Lb (aw (mX (af 2)) (aw (mX (m2 aZ (mIx (aF 0) (m1 ja (kI 1))) (af 3))) aj))))))
abbrev wE:LD->Bool:=λj=>AS (dD 4 j)
def AT:Z3:=
 (ao (aS 2 (mIx (aF 0) (kI 1)))
  (ao (aW (mB (m2 dIn (af 2) (aR (bP 2 [] (bH (af 1)) (eV (bO (aT 0) (bO (aT 1) fH))) kY (af 0))))) (λ_=>ae) aY)
  (cL (az rg (ag (mIx (aF 0) (kI 2)) nZ)))))
def rh:=bR 3 AT
abbrev wF:LS->Bool:=
 (bB rNo (aS 2 (mIx (aF 0) (kI 1)))
  (bB (rIf (mTX (mB (m2 dIn (af 2) (aR (bP 2 [] (bH (af 1)) (eV (bO (aT 0) (bO (aT 1) fH))) kY (af 0)))))) (rOf (ag (mFs (mFc "the kind " (mFv (af 2) (mFc " is told twice" nZ)))) nZ)) rNo) (aW (mB (m2 dIn (af 2) (aR (bP 2 [] (bH (af 1)) (eV (bO (aT 0) (bO (aT 1) fH))) kY (af 0))))) (λ_=>ae) aY)
  (gk rNo AJ (aw (mX (mIx (aF 0) (kI 2))) aj))))
abbrev AU:LD->Bool:=λj=>wF (dD 3 j)
def wG:Z3:=
 (ao (gw 1 nZ)
  (ao (io (bH (af 0)) (aT 2) (aW (mB (m2 dEq (mIx (aF 2) (kI 0)) (kSt "kind"))) (ao (cL (lf rh (ag (af 2) (ag (kO 1) nZ))))
  (ip 1 (cH (ag (mIx (aF 2) (kI 1)) (ag (aR (bH (mIx (aF 2) (kI 2)))) nZ))))) (cL (lf pR (ag (af 2) (ag (kO 1) nZ))))))
  (mD 1)))
def gl:=bR 3 wG
abbrev wH:LS->Bool:=
 (bB rNo (gw 1 nZ)
  (pH (bH (af 0)) (aT 2) (aW (mB (m2 dEq (mIx (aF 2) (kI 0)) (kSt "kind"))) (ao (cL (lf rh (ag (af 2) (ag (kO 1) nZ))))
  (ip 1 (cH (ag (mIx (aF 2) (kI 1)) (ag (aR (bH (mIx (aF 2) (kI 2)))) nZ))))) (cL (lf pR (ag (af 2) (ag (kO 1) nZ))))) (rIf (mTX (mB (m2 dEq (mIx (aF 2) (kI 0)) (kSt "kind")))) (pG 1 (gk rNo AU (aw (mX (af 2)) (aw (mX (af 1)) aj)))) (pG 1 (gk rNo wE (aw (mX (af 2)) (aw (mX (af 1)) aj)))))))
abbrev pS:LD->Bool:=λj=>wH (dD 3 j)
def b_8:Z3:=
 (ao (aW (eh (mB (jg dLe dLt (kI 0) (af 1) (az cI (ag (pB (pr "Desk" "kept" (cc 0))) nZ))))) (λ_=>ae) aY)
  (ao (gw 2 (iM (kf (pC (pr "Desk" "kept" (cc 0))) (λ_=>aa ae) (mPt (af 1))) (kf (pC (pr "Desk" "kept" (cc 0))) (mPt (m2 aZ (af 1) (kI 1))) (λ_=>aa ae))))
  (ao (cL (az gl (ag (kO 2) nZ)))
  (EF 0 2 "Desk" "kept" (cc 0)))))
def m_8:MTf:=pA 3 b_8
abbrev wI:LS->Bool:=
 (rIf (mTX (eh (mB (jg dLe dLt (kI 0) (af 1) (az cI (ag (lV "Desk" "kept" (af 0)) nZ)))))) (rOf (ag (mFs (mFc "no row has the number " (mFv (af 1) nZ))) nZ)) rNo)
abbrev r_8:LD->Bool:=λj=>wI (dD 3 j)
abbrev rk:LS->Bool:=
 (bB rNo (aW (eh (mB (jg dLe dLt (kI 0) (af 1) (az cI (ag (lV "Desk" "kept" (af 0)) nZ))))) (λ_=>ae) aY)
  (bB rNo (aS 2 (aR (g7 (aR (mSl (lV "Desk" "kept" (af 0)) (λ_=>aa ae) (mPt (af 1)))) (aR (mSl (lV "Desk" "kept" (af 0)) (mPt (m2 aZ (af 1) (kI 1))) (λ_=>aa ae))))))
  (gk rNo pS (aw (mX (af 2)) aj))))
abbrev wJ:LD->Bool:=λj=>rk (dD 3 j)
def wK:Z3:=
 (ao (gw 1 nZ)
  (ao (io (bH (af 0)) (aT 2) (ao (aW (mOr (eh (d9 (mIx (aF 2) (kI 4)))) (mOr (mB (m2 dIn (mIx (aF 2) (kI 2)) (kO 1))) (jX (mB (m2 dNe (mIx (aF 2) (kI 3)) (kSt ""))) (mB (m2 jb (mIx (aF 2) (kI 3)) (kO 1)))))) (cz (kBl ah)) aY)
  (aW (mB (m2 dNe (mIx (aF 2) (kI 2)) (kSt ""))) (ip 1 (mIx (aF 2) (kI 2))) aY)))
  (cz (kBl ac))))
def rp:=bR 3 wK
def b_5:Z3:=
 (ao (aS 2 (mIx (ag (kI 2147483647) (ag (kI 1000000007) (ag (kI 998244353) (ag (kI 1000000009) nZ)))) (m2 cS (af 1) (kI 4))))
  (ao (aS 3 (m2 cS (m2 pd (m2 aZ (m2 cS (af 0) (m2 yX (kI 10) (kI 18))) (m2 pd (kI 15485863) (m2 aZ (af 1) (kI 1)))) (kI 48271)) (af 2)))
  (cz (m2 cS (m2 pd (af 3) (af 3)) (kI 1000003)))))
def m_5:=bR 4 b_5
def ua:Z3:=
 (ao (aS 2 (kSt "abcdefghijklmnopqrstuvwxyz"))
  (ao (aS 3 (m2 aZ (kI 1) (m2 cS (az m_5 (ag (af 0) (ag (kI 1) nZ))) (kI 12))))
  (ao (gw 4 (bP 1 [2,0] (o7 (ag (af 3) nZ)) (aT 0) kY (m2 vN (af 1) (m2 cS (m2 aZ (az m_5 (ag (af 2) (ag (kI 2) nZ))) (m2 pd (af 0) (m2 aZ (kI 1) (m2 pd (kI 2) (m2 cS (af 2) (kI 5)))))) (kI 26)))))
  (ao (aS 5 (kBl ac))
  (ao (aW (jX (mB (m2 dEq (m2 cS (az m_5 (ag (af 0) (ag (kI 3) nZ))) (kI 4)) (kI 0))) (mB (m2 dGt (af 3) (kI 1)))) (ao (qA 4 (m2 cS (az m_5 (ag (af 0) (ag (kI 4) nZ))) (m2 kQ (af 3) (kI 1))) (mIx (aF 4) (m2 kQ (af 3) (kI 1))))
  (aS 5 (kBl ah))) aY)
  (ao (aS 6 (mWk (mIx (aF 1) (m2 cS (az m_5 (ag (af 0) (ag (kI 5) nZ))) (kI 3)))))
  (kX 4 (cz (cH (ag (m2 aZ (m2 aZ (m2 aZ (m2 aZ (kSt "kind  ") (af 6)) (kSt " ")) (m2 g9 (kSt " ") (af 4))) (kSt " ")) (ag (m2 aZ (m2 aZ (m2 aZ (kSt "kind ") (af 6)) (kSt " ")) (m2 g9 (kSt " ") (af 4))) (ag (af 6) (ag (kSt "") (ag (af 5) nZ))))))))))))))
def uc:=bR 7 ua
def AV:Z3:=
 (ao (aS 2 (mWk (mIx (aF 1) (m2 cS (af 0) (kI 6)))))
  (ao (aS 3 (aR (ag (kSt "") (ag (kSt "rule") (ag (m2 aZ (kSt "kind ") (af 2)) (ag (m2 aZ (m2 aZ (kSt "rule ") (af 2)) (kSt " if")) (ag (kSt "rule X") (ag (kSt "never") (ag (m2 aZ (m2 aZ (kSt "may ") (af 2)) (kSt "()")) (ag (m2 aZ (kSt "row ") (af 2)) nZ))))))))))
  (ao (aS 3 (aR (g7 (af 3) (aR (ag (m2 aZ (kSt "choose 1 of ") (af 2)) (ag (kSt "kind if a") (ag (m2 aZ (m2 aZ (m2 aZ (kSt "rule ") (af 2)) (kSt " for X of ")) (af 2)) (ag (m2 aZ (kSt "never X unlike ") (af 2)) nZ))))))))
  (ao (aS 3 (aR (g7 (af 3) (aR (ag (m2 aZ (m2 aZ (kSt "may ") (af 2)) (kSt "\n")) (ag (m2 aZ (kSt "\nmay ") (af 2)) (ag (m2 aZ (m2 aZ (m2 aZ (kSt "may ") (af 2)) (kSt "\nmay ")) (af 2)) nZ)))))))
  (cz (mIx (aF 3) (m2 cS (az m_5 (ag (af 0) (ag (kI 1) nZ))) (kI 15))))))))
def FY:=bR 4 AV
abbrev FZ(a:LD):Option (Z1×LD):=Jq 2 [("words",(af 1),),("place",(kI 0),)] a
def F0:Z3:=
 (aW (mB (m2 dLt (lZ 0 "Reader" "place") (az cI (ag (lZ 0 "Reader" "words") nZ)))) (λ_=>ae) aY)
def F1:=dP 1 "Reader" ["words","place"] F0
abbrev F3:LS->Bool:=
 (rIf (mTX (mB (m2 dLt (lZ 0 "Reader" "place") (az cI (ag (lZ 0 "Reader" "words") nZ))))) (rOf (ag (kSt "something is left over behind the row") nZ)) rNo)
abbrev Lc:Addr->LD->LD->Bool:=λl j B=>F3 (eG 1 l "Reader" ["words","place"] j B)
def F4:Z3:=
 (ao (aS 2 (m2 aZ (lZ 0 "Reader" "place") (af 1)))
  (eC (vIf (mB (m2 dLt (af 2) (az cI (ag (lZ 0 "Reader" "words") nZ)))) (mIx (bH (lZ 0 "Reader" "words")) (af 2)) (kSt ""))))
def gE:=dP 3 "Reader" ["words","place"] F4
def b_4:Z3:=
 (ao (g8 (mBX (mX2 dNe (av 0 "Reader" "coming" ["words","place"] gE (aw (mX (kI 0)) aj)) (mX (af 1)))) (eC (kBl ah)) aY)
  (ao (vS 0 "Reader" "place" (kI 1))
  (eC (kBl ac))))
def m_4:=dP 2 "Reader" ["words","place"] b_4
def b_1:Z3:=
 (g8 (nR (cA (av 0 "Reader" "passes" ["words","place"] m_4 (aw (mX (af 1)) aj)))) (λ_=>ae) aY)
def m_1:=dP 2 "Reader" ["words","place"] b_1
abbrev wL:LS->Bool:=
 (rIf (nR (cA (av 0 "Reader" "passes" ["words","place"] m_4 (aw (mX (af 1)) aj)))) (rOf (ag (mFs (mFv (af 1) (mFc " is missing" nZ))) nZ)) rNo)
abbrev r_1:Addr->LD->LD->Bool:=λl j B=>wL (eG 2 l "Reader" ["words","place"] j B)
def F5:Z3:=
 (ao (ci 1 (av 0 "Reader" "coming" ["words","place"] gE (aw (mX (kI 0)) aj)))
  (ao (vS 0 "Reader" "place" (kI 1))
  (eC (af 1))))
def lq:=dP 2 "Reader" ["words","place"] F5
def F6:Z3:=
 (cz (i9 (az tZ (ag (af 0) (ag (kSt "abcdefghijklmnopqrstuvwxyz") (ag (kI 8) nZ)))) (m2 jb (af 0) (λ_=>aa (.kt (List.map D.str ["kind","rule","may","choose","never","if","and","not","unlike","least","most","of","to","over","in","for"]))))))
def AW:=bR 1 F6
def b_0:Z3:=
 (ao (ci 1 (av 0 "Reader" "take" ["words","place"] lq aj))
  (ao (aW (eh (d9 (az AW (ag (af 1) nZ)))) (λ_=>ae) aY)
  (eC (af 1))))
def m_0:=dP 2 "Reader" ["words","place"] b_0
abbrev wM:LS->Bool:=
 (bB rNo (ci 1 (av 0 "Reader" "take" ["words","place"] lq aj))
  (rIf (mTX (eh (d9 (az AW (ag (af 1) nZ))))) (rOf (ag (mFs (mFr (af 1) (mFc " is no name" nZ))) nZ)) rNo))
abbrev r_0:Addr->LD->LD->Bool:=λl j B=>wM (eG 2 l "Reader" ["words","place"] j B)
def F7:Z3:=
 (ao (ci 1 (av 0 "Reader" "take" ["words","place"] lq aj))
  (ao (aW (eh (d9 (az n5 (ag (af 1) nZ)))) (λ_=>ae) aY)
  (eC (af 1))))
def wN:=dP 2 "Reader" ["words","place"] F7
abbrev F8:LS->Bool:=
 (bB rNo (ci 1 (av 0 "Reader" "take" ["words","place"] lq aj))
  (rIf (mTX (eh (d9 (az n5 (ag (af 1) nZ))))) (rOf (ag (mFs (mFr (af 1) (mFc " is no variable" nZ))) nZ)) rNo))
abbrev F9:Addr->LD->LD->Bool:=λl j B=>F8 (eG 2 l "Reader" ["words","place"] j B)
def AX:Z3:=
 (ao (ci 1 (av 0 "Reader" "read_variable" ["words","place"] wN aj))
  (ao (ir (av 0 "Reader" "must_pass" ["words","place"] m_1 (aw (mX (kSt "in")) aj)))
  (cU (gy (aw (mX (af 1)) (aw (av 0 "Reader" "read_name" ["words","place"] m_0 aj) aj))))))
def rq:=dP 2 "Reader" ["words","place"] AX
abbrev wO:LS->Bool:=
 (bB (bC 0 "Reader" "read_variable" ["words","place"] F9 aj) (ci 1 (av 0 "Reader" "read_variable" ["words","place"] wN aj))
  (bB (bC 0 "Reader" "must_pass" ["words","place"] r_1 (aw (mX (kSt "in")) aj)) (ir (av 0 "Reader" "must_pass" ["words","place"] m_1 (aw (mX (kSt "in")) aj)))
  (eL rNo (mX (af 1)) (bC 0 "Reader" "read_name" ["words","place"] r_0 aj))))
abbrev AY:Addr->LD->LD->Bool:=λl j B=>wO (eG 2 l "Reader" ["words","place"] j B)
def wP:Z3:=
 (ao (jj 1 (av 0 "Reader" "read_pair" ["words","place"] rq aj))
  (ao (gf (cA (av 0 "Reader" "passes" ["words","place"] m_4 (aw (mX (kSt ",")) aj))) (gR 1 (av 0 "Reader" "read_pair" ["words","place"] rq aj)) 1000000000)
  (kX 1 (eC (af 1)))))
def ud:=dP 2 "Reader" ["words","place"] wP
abbrev AZ:LS->Bool:=
 (bB (bC 0 "Reader" "read_pair" ["words","place"] AY aj) (jj 1 (av 0 "Reader" "read_pair" ["words","place"] rq aj))
  (mO (cA (av 0 "Reader" "passes" ["words","place"] m_4 (aw (mX (kSt ",")) aj))) (gR 1 (av 0 "Reader" "read_pair" ["words","place"] rq aj)) (qQ 1 (bC 0 "Reader" "read_pair" ["words","place"] AY aj)) 1000000000))
abbrev Ga:Addr->LD->LD->Bool:=λl j B=>AZ (eG 2 l "Reader" ["words","place"] j B)
def A0:Z3:=
 (ao (aW (mB (m2 dGt (az cI (ag (af 0) nZ)) (af 1))) (λ_=>ae) aY)
  (mD 0))
def ue:=bR 2 A0
abbrev Gb:LS->Bool:=
 (rIf (mTX (mB (m2 dGt (az cI (ag (af 0) nZ)) (af 1)))) (rOf (ag (mFs (mFc "more than " (mFv (af 1) (mFc " in a row" nZ)))) nZ)) rNo)
abbrev wQ:LD->Bool:=λj=>Gb (dD 2 j)
def wR:Z3:=
 (cU (ji (cA (av 0 "Reader" "passes" ["words","place"] m_4 (aw (mX (kSt "for")) aj))) (j6 ue (aw (av 0 "Reader" "read_pairs" ["words","place"] ud aj) (aw (mX (kI 3)) aj))) (mX (aR nZ))))
def n6:=dP 1 "Reader" ["words","place"] wR
abbrev A1:LS->Bool:=
 (rIf (cA (av 0 "Reader" "passes" ["words","place"] m_4 (aw (mX (kSt "for")) aj))) (gk (bC 0 "Reader" "read_pairs" ["words","place"] Ga aj) wQ (aw (av 0 "Reader" "read_pairs" ["words","place"] ud aj) (aw (mX (kI 3)) aj))) rNo)
abbrev uf:Addr->LD->LD->Bool:=λl j B=>A1 (eG 1 l "Reader" ["words","place"] j B)
def A2:Z3:=
 (ao (aW (mB (m2 dEq (af 0) (kSt "0"))) (cz (kBl ac)) aY)
  (ao (aS 1 (vIf (d9 (m2 zS (af 0) (kSt "-"))) (qI (af 0) (mPt (kI 1)) (λ_=>aa ae)) (af 0)))
  (cz (i9 (az tZ (ag (af 1) (ag (kSt "0123456789") (ag (kI 30) nZ)))) (o4 (m2 zS (af 1) (kSt "0")))))))
def rA:=bR 2 A2
def b_9:Z3:=
 (ao (ci 1 (av 0 "Reader" "take" ["words","place"] lq aj))
  (ao (aW (eh (d9 (az rA (ag (af 1) nZ)))) (λ_=>ae) aY)
  (eC (m1 zU (af 1)))))
def m_9:=dP 2 "Reader" ["words","place"] b_9
abbrev Gd:LS->Bool:=
 (bB rNo (ci 1 (av 0 "Reader" "take" ["words","place"] lq aj))
  (rIf (mTX (eh (d9 (az rA (ag (af 1) nZ))))) (rOf (ag (mFs (mFr (af 1) (mFc " is no number" nZ))) nZ)) rNo))
abbrev r_9:Addr->LD->LD->Bool:=λl j B=>Gd (eG 2 l "Reader" ["words","place"] j B)
def b_6:Z3:=
 (cU (ji (cA (j6 n5 (aw (av 0 "Reader" "coming" ["words","place"] gE (aw (mX (kI 0)) aj)) aj))) (av 0 "Reader" "read_variable" ["words","place"] wN aj) (av 0 "Reader" "read_name" ["words","place"] m_0 aj)))
def m_6:=dP 1 "Reader" ["words","place"] b_6
abbrev A3:LS->Bool:=
 (rIf (cA (j6 n5 (aw (av 0 "Reader" "coming" ["words","place"] gE (aw (mX (kI 0)) aj)) aj))) (bC 0 "Reader" "read_variable" ["words","place"] F9 aj) (bC 0 "Reader" "read_name" ["words","place"] r_0 aj))
abbrev r_6:Addr->LD->LD->Bool:=λl j B=>A3 (eG 1 l "Reader" ["words","place"] j B)
def rB:Z3:=
 (ao (jj 1 (av 0 "Reader" "read_arg" ["words","place"] m_6 aj))
  (ao (gf (cA (av 0 "Reader" "passes" ["words","place"] m_4 (aw (mX (kSt ",")) aj))) (gR 1 (av 0 "Reader" "read_arg" ["words","place"] m_6 aj)) 1000000000)
  (ao (ir (av 0 "Reader" "must_pass" ["words","place"] m_1 (aw (mX (kSt ")")) aj)))
  (kX 1 (eC (az ue (ag (af 1) (ag (kI 3) nZ))))))))
def A4:=dP 2 "Reader" ["words","place"] rB
abbrev wS:LS->Bool:=
 (bB (bC 0 "Reader" "read_arg" ["words","place"] r_6 aj) (jj 1 (av 0 "Reader" "read_arg" ["words","place"] m_6 aj))
  (bB (mO (cA (av 0 "Reader" "passes" ["words","place"] m_4 (aw (mX (kSt ",")) aj))) (gR 1 (av 0 "Reader" "read_arg" ["words","place"] m_6 aj)) (qQ 1 (bC 0 "Reader" "read_arg" ["words","place"] r_6 aj)) 1000000000) (gf (cA (av 0 "Reader" "passes" ["words","place"] m_4 (aw (mX (kSt ",")) aj))) (gR 1 (av 0 "Reader" "read_arg" ["words","place"] m_6 aj)) 1000000000)
  (bB (bC 0 "Reader" "must_pass" ["words","place"] r_1 (aw (mX (kSt ")")) aj)) (ir (av 0 "Reader" "must_pass" ["words","place"] m_1 (aw (mX (kSt ")")) aj)))
  (pG 1 (gk rNo wQ (aw (mX (af 1)) (aw (mX (kI 3)) aj)))))))
abbrev Ge:Addr->LD->LD->Bool:=λl j B=>wS (eG 2 l "Reader" ["words","place"] j B)
def b_2:Z3:=
 (ao (ci 1 (av 0 "Reader" "read_name" ["words","place"] m_0 aj))
  (cU (gy (aw (mX (af 1)) (aw (ji (cA (av 0 "Reader" "passes" ["words","place"] m_4 (aw (mX (kSt "(")) aj))) (av 0 "Reader" "read_args" ["words","place"] A4 aj) (mX (aR nZ))) aj)))))
def m_2:=dP 2 "Reader" ["words","place"] b_2
abbrev rC:LS->Bool:=
 (bB (bC 0 "Reader" "read_name" ["words","place"] r_0 aj) (ci 1 (av 0 "Reader" "read_name" ["words","place"] m_0 aj))
  (eL rNo (mX (af 1)) (rIf (cA (av 0 "Reader" "passes" ["words","place"] m_4 (aw (mX (kSt "(")) aj))) (bC 0 "Reader" "read_args" ["words","place"] Ge aj) rNo)))
abbrev r_2:Addr->LD->LD->Bool:=λl j B=>rC (eG 2 l "Reader" ["words","place"] j B)
def A5:Z3:=
 (ao (ci 1 (ji (cA (j6 rA (aw (av 0 "Reader" "coming" ["words","place"] gE (aw (mX (kI 0)) aj)) aj))) (av 0 "Reader" "read_number" ["words","place"] m_9 aj) (mX (kI 1))))
  (ao (aW (mB (m2 dLt (af 1) (kI 0))) (λ_=>ae) aY)
  (cU (gy (aw (av 0 "Reader" "read_thing" ["words","place"] m_2 aj) (aw (mX (af 1)) aj))))))
def ug:=dP 2 "Reader" ["words","place"] A5
abbrev Gf:LS->Bool:=
 (bB (rIf (cA (j6 rA (aw (av 0 "Reader" "coming" ["words","place"] gE (aw (mX (kI 0)) aj)) aj))) (bC 0 "Reader" "read_number" ["words","place"] r_9 aj) rNo) (ci 1 (ji (cA (j6 rA (aw (av 0 "Reader" "coming" ["words","place"] gE (aw (mX (kI 0)) aj)) aj))) (av 0 "Reader" "read_number" ["words","place"] m_9 aj) (mX (kI 1))))
  (bB (rIf (mTX (mB (m2 dLt (af 1) (kI 0)))) (rOf (ag (kSt "a worth below 0") nZ)) rNo) (aW (mB (m2 dLt (af 1) (kI 0))) (λ_=>ae) aY)
  (bC 0 "Reader" "read_thing" ["words","place"] r_2 aj)))
abbrev Gg:Addr->LD->LD->Bool:=λl j B=>Gf (eG 2 l "Reader" ["words","place"] j B)
def A6:Z3:=
 (ao (jj 1 (av 0 "Reader" "read_item" ["words","place"] ug aj))
  (ao (gf (cA (av 0 "Reader" "passes" ["words","place"] m_4 (aw (mX (kSt ",")) aj))) (gR 1 (av 0 "Reader" "read_item" ["words","place"] ug aj)) 1000000000)
  (kX 1 (eC (af 1)))))
def uh:=dP 2 "Reader" ["words","place"] A6
abbrev Gh:LS->Bool:=
 (bB (bC 0 "Reader" "read_item" ["words","place"] Gg aj) (jj 1 (av 0 "Reader" "read_item" ["words","place"] ug aj))
  (mO (cA (av 0 "Reader" "passes" ["words","place"] m_4 (aw (mX (kSt ",")) aj))) (gR 1 (av 0 "Reader" "read_item" ["words","place"] ug aj)) (qQ 1 (bC 0 "Reader" "read_item" ["words","place"] Gg aj)) 1000000000))
abbrev Gi:Addr->LD->LD->Bool:=λl j B=>Gh (eG 2 l "Reader" ["words","place"] j B)
def A7:Z3:=
 (cU (ji (cA (av 0 "Reader" "passes" ["words","place"] m_4 (aw (mX (kSt "over")) aj))) (j6 ue (aw (av 0 "Reader" "read_pairs" ["words","place"] ud aj) (aw (mX (kI 2)) aj))) (mX (aR nZ))))
def wT:=dP 1 "Reader" ["words","place"] A7
abbrev Gj:LS->Bool:=
 (rIf (cA (av 0 "Reader" "passes" ["words","place"] m_4 (aw (mX (kSt "over")) aj))) (gk (bC 0 "Reader" "read_pairs" ["words","place"] Ga aj) wQ (aw (av 0 "Reader" "read_pairs" ["words","place"] ud aj) (aw (mX (kI 2)) aj))) rNo)
abbrev Gk:Addr->LD->LD->Bool:=λl j B=>Gj (eG 1 l "Reader" ["words","place"] j B)
def A8:Z3:=
 (ao (ci 1 (av 0 "Reader" "take" ["words","place"] lq aj))
  (ao (ci 2 (av 0 "Reader" "read_number" ["words","place"] m_9 aj))
  (ao (ir (av 0 "Reader" "must_pass" ["words","place"] m_1 (aw (mX (kSt "of")) aj)))
  (cU (gy (aw (mX (af 1)) (aw (mX (af 2)) (aw (av 0 "Reader" "read_items" ["words","place"] uh aj) (aw (av 0 "Reader" "read_over" ["words","place"] wT aj) aj)))))))))
def A9:=dP 3 "Reader" ["words","place"] A8
abbrev Gm:LS->Bool:=
 (bB rNo (ci 1 (av 0 "Reader" "take" ["words","place"] lq aj))
  (bB (bC 0 "Reader" "read_number" ["words","place"] r_9 aj) (ci 2 (av 0 "Reader" "read_number" ["words","place"] m_9 aj))
  (bB (bC 0 "Reader" "must_pass" ["words","place"] r_1 (aw (mX (kSt "of")) aj)) (ir (av 0 "Reader" "must_pass" ["words","place"] m_1 (aw (mX (kSt "of")) aj)))
  (eL rNo (mX (af 1)) (eL rNo (mX (af 2)) (eL (bC 0 "Reader" "read_items" ["words","place"] Gi aj) (av 0 "Reader" "read_items" ["words","place"] uh aj) (bC 0 "Reader" "read_over" ["words","place"] Gk aj)))))))
abbrev Ld:Addr->LD->LD->Bool:=λl j B=>Gm (eG 3 l "Reader" ["words","place"] j B)
def Ba:Z3:=
 (ao (ci 1 (av 0 "Reader" "read_arg" ["words","place"] m_6 aj))
  (ao (ir (av 0 "Reader" "must_pass" ["words","place"] m_1 (aw (mX (kSt "unlike")) aj)))
  (cU (gy (aw (mX (kSt "unlike")) (aw (mX (af 1)) (aw (av 0 "Reader" "read_arg" ["words","place"] m_6 aj) aj)))))))
def Bb:=dP 2 "Reader" ["words","place"] Ba
abbrev Gn:LS->Bool:=
 (bB (bC 0 "Reader" "read_arg" ["words","place"] r_6 aj) (ci 1 (av 0 "Reader" "read_arg" ["words","place"] m_6 aj))
  (bB (bC 0 "Reader" "must_pass" ["words","place"] r_1 (aw (mX (kSt "unlike")) aj)) (ir (av 0 "Reader" "must_pass" ["words","place"] m_1 (aw (mX (kSt "unlike")) aj)))
  (eL rNo (mX (kSt "unlike")) (eL rNo (mX (af 1)) (bC 0 "Reader" "read_arg" ["words","place"] r_6 aj)))))
abbrev Le:Addr->LD->LD->Bool:=λl j B=>Gn (eG 2 l "Reader" ["words","place"] j B)
def wU:Z3:=
 (ao (g8 (cA (av 0 "Reader" "passes" ["words","place"] m_4 (aw (mX (kSt "not")) aj))) (cU (gy (aw (mX (kSt "not")) (aw (av 0 "Reader" "read_thing" ["words","place"] m_2 aj) aj)))) aY)
  (ao (g8 (mBX (mX2 dIn (av 0 "Reader" "coming" ["words","place"] gE (aw (mX (kI 0)) aj)) (mX (cH (ag (kSt "least") (ag (kSt "most") nZ)))))) (cU (av 0 "Reader" "read_count" ["words","place"] A9 aj)) aY)
  (ao (g8 (mBX (mX2 dEq (av 0 "Reader" "coming" ["words","place"] gE (aw (mX (kI 1)) aj)) (mX (kSt "unlike")))) (cU (av 0 "Reader" "read_unlike" ["words","place"] Bb aj)) aY)
  (cU (gy (aw (mX (kSt "is")) (aw (av 0 "Reader" "read_thing" ["words","place"] m_2 aj) aj)))))))
def rE:=dP 1 "Reader" ["words","place"] wU
abbrev Bc:LS->Bool:=
 (bB (rIf (cA (av 0 "Reader" "passes" ["words","place"] m_4 (aw (mX (kSt "not")) aj))) (eL rNo (mX (kSt "not")) (bC 0 "Reader" "read_thing" ["words","place"] r_2 aj)) rNo) (g8 (cA (av 0 "Reader" "passes" ["words","place"] m_4 (aw (mX (kSt "not")) aj))) (cU (gy (aw (mX (kSt "not")) (aw (av 0 "Reader" "read_thing" ["words","place"] m_2 aj) aj)))) aY)
  (bB (rIf (mBX (mX2 dIn (av 0 "Reader" "coming" ["words","place"] gE (aw (mX (kI 0)) aj)) (mX (cH (ag (kSt "least") (ag (kSt "most") nZ)))))) (bC 0 "Reader" "read_count" ["words","place"] Ld aj) rNo) (g8 (mBX (mX2 dIn (av 0 "Reader" "coming" ["words","place"] gE (aw (mX (kI 0)) aj)) (mX (cH (ag (kSt "least") (ag (kSt "most") nZ)))))) (cU (av 0 "Reader" "read_count" ["words","place"] A9 aj)) aY)
  (bB (rIf (mBX (mX2 dEq (av 0 "Reader" "coming" ["words","place"] gE (aw (mX (kI 1)) aj)) (mX (kSt "unlike")))) (bC 0 "Reader" "read_unlike" ["words","place"] Le aj) rNo) (g8 (mBX (mX2 dEq (av 0 "Reader" "coming" ["words","place"] gE (aw (mX (kI 1)) aj)) (mX (kSt "unlike")))) (cU (av 0 "Reader" "read_unlike" ["words","place"] Bb aj)) aY)
  (eL rNo (mX (kSt "is")) (bC 0 "Reader" "read_thing" ["words","place"] r_2 aj)))))
abbrev Bd:Addr->LD->LD->Bool:=λl j B=>Bc (eG 1 l "Reader" ["words","place"] j B)
def rF:Z3:=
 (ao (jj 1 (av 0 "Reader" "read_part" ["words","place"] rE aj))
  (ao (gf (cA (av 0 "Reader" "passes" ["words","place"] m_4 (aw (mX (kSt "and")) aj))) (gR 1 (av 0 "Reader" "read_part" ["words","place"] rE aj)) 1000000000)
  (kX 1 (eC (af 1)))))
def ui:=dP 2 "Reader" ["words","place"] rF
abbrev wV:LS->Bool:=
 (bB (bC 0 "Reader" "read_part" ["words","place"] Bd aj) (jj 1 (av 0 "Reader" "read_part" ["words","place"] rE aj))
  (mO (cA (av 0 "Reader" "passes" ["words","place"] m_4 (aw (mX (kSt "and")) aj))) (gR 1 (av 0 "Reader" "read_part" ["words","place"] rE aj)) (qQ 1 (bC 0 "Reader" "read_part" ["words","place"] Bd aj)) 1000000000))
abbrev Be:Addr->LD->LD->Bool:=λl j B=>wV (eG 2 l "Reader" ["words","place"] j B)
def wW:Z3:=
 (cU (ji (cA (av 0 "Reader" "passes" ["words","place"] m_4 (aw (mX (kSt "if")) aj))) (av 0 "Reader" "read_body" ["words","place"] ui aj) (mX (aR nZ))))
def mU:=dP 1 "Reader" ["words","place"] wW
abbrev Bf:LS->Bool:=
 (rIf (cA (av 0 "Reader" "passes" ["words","place"] m_4 (aw (mX (kSt "if")) aj))) (bC 0 "Reader" "read_body" ["words","place"] Be aj) rNo)
abbrev wZ:Addr->LD->LD->Bool:=λl j B=>Bf (eG 1 l "Reader" ["words","place"] j B)
def w5:Z3:=
 (ao (ci 1 (av 0 "Reader" "read_number" ["words","place"] m_9 aj))
  (ao (ir (av 0 "Reader" "must_pass" ["words","place"] m_1 (aw (mX (kSt "to")) aj)))
  (ao (ci 2 (av 0 "Reader" "read_number" ["words","place"] m_9 aj))
  (ao (ir (av 0 "Reader" "must_pass" ["words","place"] m_1 (aw (mX (kSt "of")) aj)))
  (cU (gy (aw (mX (kSt "choose")) (aw (mX (af 1)) (aw (mX (af 2)) (aw (av 0 "Reader" "read_items" ["words","place"] uh aj) (aw (av 0 "Reader" "read_over" ["words","place"] wT aj) (aw (av 0 "Reader" "read_if" ["words","place"] mU aj) (aw (av 0 "Reader" "read_for" ["words","place"] n6 aj) aj)))))))))))))
def uj:=dP 3 "Reader" ["words","place"] w5
abbrev w6:LS->Bool:=
 (bB (bC 0 "Reader" "read_number" ["words","place"] r_9 aj) (ci 1 (av 0 "Reader" "read_number" ["words","place"] m_9 aj))
  (bB (bC 0 "Reader" "must_pass" ["words","place"] r_1 (aw (mX (kSt "to")) aj)) (ir (av 0 "Reader" "must_pass" ["words","place"] m_1 (aw (mX (kSt "to")) aj)))
  (bB (bC 0 "Reader" "read_number" ["words","place"] r_9 aj) (ci 2 (av 0 "Reader" "read_number" ["words","place"] m_9 aj))
  (bB (bC 0 "Reader" "must_pass" ["words","place"] r_1 (aw (mX (kSt "of")) aj)) (ir (av 0 "Reader" "must_pass" ["words","place"] m_1 (aw (mX (kSt "of")) aj)))
  (eL rNo (mX (kSt "choose")) (eL rNo (mX (af 1)) (eL rNo (mX (af 2)) (eL (bC 0 "Reader" "read_items" ["words","place"] Gi aj) (av 0 "Reader" "read_items" ["words","place"] uh aj) (eL (bC 0 "Reader" "read_over" ["words","place"] Gk aj) (av 0 "Reader" "read_over" ["words","place"] wT aj) (eL (bC 0 "Reader" "read_if" ["words","place"] wZ aj) (av 0 "Reader" "read_if" ["words","place"] mU aj) (bC 0 "Reader" "read_for" ["words","place"] uf aj)))))))))))
abbrev Bg:Addr->LD->LD->Bool:=λl j B=>w6 (eG 3 l "Reader" ["words","place"] j B)
def w9:Z3:=
 (ao (jj 1 (av 0 "Reader" "read_name" ["words","place"] m_0 aj))
  (ao (gf (mBX (mX2 dNe (av 0 "Reader" "coming" ["words","place"] gE (aw (mX (kI 0)) aj)) (mX (kSt "")))) (gR 1 (av 0 "Reader" "read_name" ["words","place"] m_0 aj)) 1000000000)
  (kX 1 (eC (az ue (ag (af 1) (ag (kI 12) nZ)))))))
def uk:=dP 2 "Reader" ["words","place"] w9
abbrev Bh:LS->Bool:=
 (bB (bC 0 "Reader" "read_name" ["words","place"] r_0 aj) (jj 1 (av 0 "Reader" "read_name" ["words","place"] m_0 aj))
  (bB (mO (mBX (mX2 dNe (av 0 "Reader" "coming" ["words","place"] gE (aw (mX (kI 0)) aj)) (mX (kSt "")))) (gR 1 (av 0 "Reader" "read_name" ["words","place"] m_0 aj)) (qQ 1 (bC 0 "Reader" "read_name" ["words","place"] r_0 aj)) 1000000000) (gf (mBX (mX2 dNe (av 0 "Reader" "coming" ["words","place"] gE (aw (mX (kI 0)) aj)) (mX (kSt "")))) (gR 1 (av 0 "Reader" "read_name" ["words","place"] m_0 aj)) 1000000000)
  (pG 1 (gk rNo wQ (aw (mX (af 1)) (aw (mX (kI 12)) aj))))))
abbrev Go:Addr->LD->LD->Bool:=λl j B=>Bh (eG 2 l "Reader" ["words","place"] j B)
def pU:Z3:=
 (ao (ci 1 (av 0 "Reader" "read_body" ["words","place"] ui aj))
  (ao (aW (d9 (az mE (ag (aR (bP 1 [] (bH (af 1)) (aT 0) kY (m2 dEq (mIx (aF 0) (kI 0)) (kSt "unlike")))) nZ))) (λ_=>ae) aY)
  (cU (gy (aw (mX (kSt "never")) (aw (mX (af 1)) (aw (av 0 "Reader" "read_for" ["words","place"] n6 aj) aj)))))))
def rG:=dP 2 "Reader" ["words","place"] pU
abbrev rH:LS->Bool:=
 (bB (bC 0 "Reader" "read_body" ["words","place"] Be aj) (ci 1 (av 0 "Reader" "read_body" ["words","place"] ui aj))
  (bB (rIf (mTX (d9 (az mE (ag (aR (bP 1 [] (bH (af 1)) (aT 0) kY (m2 dEq (mIx (aF 0) (kI 0)) (kSt "unlike")))) nZ)))) (rOf (ag (kSt "a never-row with unlike-parts alone") nZ)) rNo) (aW (d9 (az mE (ag (aR (bP 1 [] (bH (af 1)) (aT 0) kY (m2 dEq (mIx (aF 0) (kI 0)) (kSt "unlike")))) nZ))) (λ_=>ae) aY)
  (eL rNo (mX (kSt "never")) (eL rNo (mX (af 1)) (bC 0 "Reader" "read_for" ["words","place"] uf aj)))))
abbrev xa:Addr->LD->LD->Bool:=λl j B=>rH (eG 2 l "Reader" ["words","place"] j B)
def ul:Z3:=
 (ao (ci 1 (av 0 "Reader" "take" ["words","place"] lq aj))
  (ao (aW (mB (m2 dEq (af 1) (kSt "kind"))) (cU (gy (aw (mX (kSt "kind")) (aw (av 0 "Reader" "read_name" ["words","place"] m_0 aj) (aw (av 0 "Reader" "read_names" ["words","place"] uk aj) aj))))) aY)
  (ao (aW (mB (m2 dIn (af 1) (cH (ag (kSt "rule") (ag (kSt "may") nZ))))) (cU (gy (aw (mX (af 1)) (aw (av 0 "Reader" "read_thing" ["words","place"] m_2 aj) (aw (av 0 "Reader" "read_if" ["words","place"] mU aj) (aw (av 0 "Reader" "read_for" ["words","place"] n6 aj) aj)))))) aY)
  (ao (aW (mB (m2 dEq (af 1) (kSt "choose"))) (cU (av 0 "Reader" "read_choose" ["words","place"] uj aj)) aY)
  (ao (aW (mB (m2 dEq (af 1) (kSt "never"))) (cU (av 0 "Reader" "read_never" ["words","place"] rG aj)) aY)
  (λ_=>ae))))))
def pV:=dP 2 "Reader" ["words","place"] ul
abbrev xb:LS->Bool:=
 (bB rNo (ci 1 (av 0 "Reader" "take" ["words","place"] lq aj))
  (bB (rIf (mTX (mB (m2 dEq (af 1) (kSt "kind")))) (eL rNo (mX (kSt "kind")) (eL (bC 0 "Reader" "read_name" ["words","place"] r_0 aj) (av 0 "Reader" "read_name" ["words","place"] m_0 aj) (bC 0 "Reader" "read_names" ["words","place"] Go aj))) rNo) (aW (mB (m2 dEq (af 1) (kSt "kind"))) (cU (gy (aw (mX (kSt "kind")) (aw (av 0 "Reader" "read_name" ["words","place"] m_0 aj) (aw (av 0 "Reader" "read_names" ["words","place"] uk aj) aj))))) aY)
  (bB (rIf (mTX (mB (m2 dIn (af 1) (cH (ag (kSt "rule") (ag (kSt "may") nZ)))))) (eL rNo (mX (af 1)) (eL (bC 0 "Reader" "read_thing" ["words","place"] r_2 aj) (av 0 "Reader" "read_thing" ["words","place"] m_2 aj) (eL (bC 0 "Reader" "read_if" ["words","place"] wZ aj) (av 0 "Reader" "read_if" ["words","place"] mU aj) (bC 0 "Reader" "read_for" ["words","place"] uf aj)))) rNo) (aW (mB (m2 dIn (af 1) (cH (ag (kSt "rule") (ag (kSt "may") nZ))))) (cU (gy (aw (mX (af 1)) (aw (av 0 "Reader" "read_thing" ["words","place"] m_2 aj) (aw (av 0 "Reader" "read_if" ["words","place"] mU aj) (aw (av 0 "Reader" "read_for" ["words","place"] n6 aj) aj)))))) aY)
  (bB (rIf (mTX (mB (m2 dEq (af 1) (kSt "choose")))) (bC 0 "Reader" "read_choose" ["words","place"] Bg aj) rNo) (aW (mB (m2 dEq (af 1) (kSt "choose"))) (cU (av 0 "Reader" "read_choose" ["words","place"] uj aj)) aY)
  (bB (rIf (mTX (mB (m2 dEq (af 1) (kSt "never")))) (bC 0 "Reader" "read_never" ["words","place"] xa aj) rNo) (aW (mB (m2 dEq (af 1) (kSt "never"))) (cU (av 0 "Reader" "read_never" ["words","place"] rG aj)) aY)
  (rOf (ag (mFs (mFc "no row begins with " (mFr (af 1) nZ))) nZ)))))))
abbrev um:Addr->LD->LD->Bool:=λl j B=>xb (eG 2 l "Reader" ["words","place"] j B)
def xc:Z3:=
 (ao (vQ 1 2 "()," (af 0))
  (kW (bP 1 [] (bH (m2 vR (af 1) (kSt " "))) (aT 0) (mB (m2 dNe (af 0) (kSt ""))) (af 0))))
def Bi:=bR 3 xc
def b_3:Z3:=
 (ao (tG 1 "Reader" FZ (ag (az Bi (ag (af 0) nZ)) nZ))
  (ao (ci 2 (nQ 1 "Reader" "read_form" ["words","place"] pV aj))
  (ao (ir (nQ 1 "Reader" "must_end" ["words","place"] F1 aj))
  (mD 2))))
def m_3:=bR 3 b_3
abbrev xf:LS->Bool:=
 (bB rNo (tG 1 "Reader" FZ (ag (az Bi (ag (af 0) nZ)) nZ))
  (bB (tK 1 "Reader" "read_form" ["words","place"] um aj) (ci 2 (nQ 1 "Reader" "read_form" ["words","place"] pV aj))
  (tK 1 "Reader" "must_end" ["words","place"] Lc aj)))
abbrev r_3:LD->Bool:=λj=>xf (dD 3 j)
def b_7:Z3:=
 (ao (aS 2 (az m_3 (ag (af 1) nZ)))
  (ao (cL (az gl (ag (aR (iM (pC (pr "Desk" "kept" (cc 0))) (ag (af 2) nZ))) nZ)))
  (ao (qO 0 (pr "Desk" "kept" (cc 0)) (af 2))
  (eC (m2 kQ (az cI (ag (pB (pr "Desk" "kept" (cc 0))) nZ)) (kI 1))))))
def m_7:MTf:=pA 3 b_7
abbrev xh:LS->Bool:=
 (gk rNo r_3 (aw (mX (af 1)) aj))
abbrev r_7:LD->Bool:=λj=>xh (dD 3 j)
abbrev rJ:LS->Bool:=
 (bB rNo (aS 2 (az m_3 (ag (af 1) nZ)))
  (gk rNo pS (aw (mX (aR (g7 (lV "Desk" "kept" (af 0)) (aR (ag (af 2) nZ))))) aj)))
abbrev xi:LD->Bool:=λj=>rJ (dD 3 j)
def uq:Z3:=
 (ao (aS 2 kN)
  (ao (aS 3 (kSt "kept"))
  (ao (iL (ci 2 (nT 0 "Desk" "tell" m_7 (aw (mX (af 1)) aj)))
   (iL (lp 0 "Desk" "tell" xi (ag (af 1) nZ) (aS 3 (kSt "bad name")))
    (lp 0 "Desk" "tell" r_7 (ag (af 1) nZ) (aS 3 (kSt "no row")))))
  (eC (cH (ag (af 3) (ag (af 2) nZ)))))))
def n8:MTf:=pA 4 uq
def ur:Z3:=
 (ao (aS 2 kN)
  (ao (aS 3 (kSt "kept"))
  (ao (iL (ci 2 (nT 0 "Desk" "drop" m_8 (aw (mX (af 1)) aj)))
   (iL (lp 0 "Desk" "drop" wJ (ag (af 1) nZ) (aS 3 (kSt "bad name")))
    (lp 0 "Desk" "drop" r_8 (ag (af 1) nZ) (aS 3 (kSt "no row")))))
  (eC (cH (ag (af 3) (ag (af 2) nZ)))))))
def rK:MTf:=pA 4 ur
def ut:Z3:=
 (ao (aS 1 (kSt "abcdefghijklmnopqrstuvwxyz"))
 (ao (aS 2 (aR (ag (kSt "kind") (ag (kSt "rule") (ag (kSt "may") (ag (kSt "choose") (ag (kSt "never") (ag (kSt "if") (ag (kSt "and") (ag (kSt "not") (ag (kSt "unlike") (ag (kSt "least") (ag (kSt "most") (ag (kSt "of") (ag (kSt "to") (ag (kSt "over") nZ))))))))))))))))
 (ao (aS 2 (aR (g7 (af 2) (aR (ag (kSt "in") (ag (kSt "for") nZ))))))
 (ao (aS 3 (m2 aZ (kI 1) (m2 cS (az m_5 (ag (af 0) (ag (kI 0) nZ))) (kI 7))))
 (ao (aS 5 (aR (bP 1 [0] (o7 (ag (af 3) nZ)) (aT 0) kY (m2 cS (az m_5 (ag (af 1) (ag (m2 aZ (kI 1) (af 0)) nZ))) (kI 26)))))
 (ao (aS 6 (m2 cS (az m_5 (ag (af 0) (ag (kI 9) nZ))) (af 3)))
 (ao (gw 7 nZ) aY)))))))
def Lf:Z4:=(m2 cS (m2 aZ (mIx (aF 5) (af 9)) (m2 pd (af 4) (vM (m2 dEq (af 9) (af 6))))) (kI 26))
def Bj:Zr:=(d9 (az zo (ag (aR (bP 1 [2] (aF 7) (aT 0) kY (m2 dIn (mWk (af 0)) (af 1)))) nZ)))
def azS:Str:="abcdefghijklmnopqrstuvwxyz"
abbrev nmP(ch:Nat->Nat->Nat)(k:Nat):Nat->Str
 | 0=>""
 |i+1=>nmP ch k i++⟨#[ch k i]⟩
def jG(ch:Nat->Nat->Nat)(sz:Nat):Z1:=(eQ 6).map λk=>nmP ch k sz
def ma(a U:LS):Prop:=U.length=10/\U[1]?=a[1]?/\U[2]?=a[2]?/\U[3]?=a[3]?/\U[5]?=a[5]?/\U[6]?=a[6]?
def Gp(j:LD)(zs:Z1):Prop:=∃(a:LS) (sz:Nat) (ch:Nat->Nat->Nat) (b:Bool),
 ut (dD 10 j)=aa (.nx a)/\a.length=10/\a[1]?=aa (.im (.str azS))/\a[3]?=aa (.im (.int sz))/\a[7]?=aa (.own [])/\1<=sz/\sz<=100 /\
 (∀U,ma a U->∀k<6,∀i<sz,U[4]?=aa (.im (.int (k:Nat)))->U[9]?=aa (.im (.int (i:Nat)))->∃c,Lf U=aa (.int c)/\atI azS.cps.toList c=aa (ch k i)) /\
 (∀U X5 es,ma a U->TxL X5 (jG ch sz) es->U[7]?=aa (.own es)->Bj U=aa b) /\
 (∀k i,i<=100->(nmP ch k i).length=i)/\zs=if b then (jG ch sz).map (·++("z":Str)) else jG ch sz
open Classical in
def rL(j:LD):Option Z1:=if h:∃zs,Gp j zs then aa h.choose else ae
variable{j:LD}{zs:Z1}
def Lg(h:rL j=aa zs):Gp j zs:=by
 unfold rL at h;split at h
 .rename_i e;have h:=cp h;rw[<- h];show e.choose_spec
 .nomatch h
def Bk(X5:Nat):Z3:=
 (ao (aS 2 (mIx (aF 1) (m2 cS (az m_5 (ag (af 0) (ag (kI 1) nZ))) (kI 3))))
 (ao (aS 3 (mIx (aF 1) (m2 cS (az m_5 (ag (af 0) (ag (kI 2) nZ))) (kI 6))))
 (ao (aS 4 (mIx (aF 1) (m2 cS (az m_5 (ag (af 0) (ag (kI 3) nZ))) (kI 6))))
 (wj X5 5 (m2 aZ (m2 cS (az m_5 (ag (af 0) (ag (kI 4) nZ))) (kI 3)) (m2 cS (af 0) (m2 yX (kI 10) (kI 20))))
 λa=>(ao (gw 6 (ag (kSt "rule ONE(X) if not OTHER(ONE,X) for X in KIND") (ag (kSt "may ONE(Xa,Xb) for Xa in KIND, Xb in KIND") nZ)))
 (ao (ip 6 (kSt "choose -1 to NUMBER of ONE, 3 OTHER(X) over X in KIND"))
 (ao (ip 6 (kSt "never ONE and least NUMBER of 0 ONE(Y) over Y in KIND"))
 (ao (ip 6 (kSt "never X unlike ONE and OTHER(X,X,X) for X in KIND"))
 (ao (ip 6 (kSt "rule OTHER if most NUMBER of ONE(A), OTHER(A) over A in KIND"))
 (ao (aS 7 (pJ a (pJ a (mIx (aF 6) (m2 cS (az m_5 (ag (af 0) (ag (kI 5) nZ))) (kI 6))) 3 "ONE") 4 "OTHER"))
 (ao (aS 7 (pJ a (pJ a (af 7) 2 "KIND") 5 "NUMBER"))
 (ao (aS 8 (af 7))
 (ao (aW (mB (m2 dEq (m2 cS (az m_5 (ag (af 0) (ag (kI 6) nZ))) (kI 2)) (kI 1)))
  (ao (aS 8 (m2 aZ (kSt "  ") (qT a (qT a (qT a (af 7) "(" " ( ") "," " ,  ") " of " "  of "))) aY) aY)
 (ao (cz (cH (ag (af 8) (ag (af 7) (ag (kSt "") (ag (mWk (af 2)) (ag (kBl ac) nZ))))))) aY))))))))))))))
def xj(X5:Nat)(a:LD):OD:=bR 9 (Bk X5) a
def uu(z:Str)(d:D):Z3:=cU (mX2 dEq (pM 0 rK (aw (mX (af 5)) aj)) (mX (cH (ag (λ_=>aa (.str z)) (ag (λ_=>aa d) nZ)))))
def pW(X5:Nat):Z3:=
 (ao (aS 4 (m2 cS (az m_5 (ag (af 2) (ag (kI 0) nZ))) (kI 8)))
 (ao (aW (mB (m2 dEq (af 4) (kI 7))) (cU (mX2 dEq (pM 0 n8 (aw (mX (az FY (ag (af 2) (ag (af 3) nZ)))) aj)) (mX (cH (ag (kSt "no row") (ag kN nZ)))))) aY)
 (ao (aW (mB (m2 dGt (af 4) (kI 4))) (ao (aS 5 (m2 kQ (m2 cS (az m_5 (ag (af 2) (ag (kI 7) nZ))) (m2 aZ (az cI (ag (pB (cc 1)) nZ)) (kI 3))) (kI 1)))
  (ao (aW (eh (mB (jg dLe dLt (kI 0) (af 5) (az cI (ag (pB (cc 1)) nZ))))) (uu "no row" .non) aY)
  (ao (aS 6 (aR (iM (kf (pC (cc 1)) (λ_=>aa ae) (mPt (af 5))) (kf (pC (cc 1)) (mPt (m2 aZ (af 5) (kI 1))) (λ_=>aa ae)))))
  (ao (aW (eh (d9 (az rp (ag (af 6) nZ)))) (uu "bad name" .non) aY)
  (ao (KQ 1 (cc 1) (af 5))
  (uu "kept" .non)))))) aY)
 (ao (aS 7 (az (xj X5) (ag (af 2) (ag (af 3) nZ))))
 (ao (aW (mB (m2 dLt (af 4) (kI 2))) (aS 7 (az uc (ag (af 2) (ag (af 3) nZ)))) aY)
 (ao (ci 8 (pM 0 n8 (aw (mX (mIx (aF 7) (kI 0))) aj)))
 (ao (aW (eh (d9 (az rp (ag (aR (iM (pC (cc 1)) (ag (af 7) nZ))) nZ)))) (eC (m2 dEq (af 8) (cH (ag (kSt "bad name") (ag kN nZ))))) aY)
 (ao (qO 1 (cc 1) (af 7))
 (ao (eC (i9 (m2 dEq (af 8) (cH (ag (kSt "kept") (ag (m2 kQ (az cI (ag (pB (cc 1)) nZ)) (kI 1)) nZ)))) (i9 (mC "int" (mIx (aF 8) (kI 1))) (o4 (mC "bool" (mIx (aF 8) (kI 1))))))) aY)))))))))
def rM(X5:Nat):tO:=EC 9 (pW X5)
def Gq:=D6 1 tY
def xk(p:Xp):Z6:=bP 1 [] (pC p) (aT 0) kY (mIx (aF 0) (kI 1))
def xl(p:Xp):Z4:=aR (Et "Desk" "rows" Gq (pB p) λ_=>aa [])
def xm:Z3:=(ao (aS 8 (aR (xk (l7 (cc 3) (af 7)))))
  (ao (aS 9 (xl (l7 (cc 2) (af 7))))
  (ao (aW (mOr (eh (d9 (mC "list" (af 9)))) (mOr (mB (m2 dNe (af 9) (af 8))) (eh (d9 (az mE (ag (aR (bP 1 [] (bH (af 9)) (aT 0) kY (mC "str" (af 0)))) nZ)))))) (cz (kBl ah)) aY)
  (ip 4 (cH (ag (af 9) (ag (af 8) nZ)))))))
def xn(X5:Nat):Z3:=(ao (aS 6 (m2 cS (m2 cS (az m_5 (ag (af 5) (ag (kI 8) nZ))) (kI 3)) (kI 2)))
  (ao (g8 (nR (cA (tP 2 3 (af 6) (af 6) (rM X5) (ag (af 5) (ag (af 1) nZ))))) (cz (kBl ah)) aY)
  (ao (io (o7 (ag (kI 2) nZ)) (aT 7) xm) aY)))
def Bl(X5:Nat):Z3:=
 (ao (zSet 2 (vL (ph (tI "Desk" qY λ_=>aa []) (ph (tI "Desk" qY λ_=>aa []) λ_=>aa []))))
 (ao (zSet 3 (vL (ph (vK λ_=>aa []) (ph (vK λ_=>aa []) λ_=>aa []))))
 (ao (gw 4 nZ)
 (ao (io (bH (aR (mSl (af 0) (mPt (kI 1)) (mPt (kI 61))))) (aT 5) (xn X5))
 (ao (cz (i9 (m2 dEq (xl (l7 (cc 2) (kI 0))) (aR (xk (l7 (cc 3) (kI 0))))) (az mE (ag (aR (bP 2 [] (aF 4) (eV (bO (aT 0) (bO (aT 1) fH))) kY (m2 dEq (af 0) (af 1)))) nZ)))) aY)))))
def xq:Z3:=Af 1 (ag (az FP (ag (af 0) (ag (kI 0) nZ))) nZ) rL Bl
def Lh:=bR 10 xq
seal DSs DS DX DE DO PE PS PA ke DSB DEB DXB we HT HT1 HR
variable{P:cP}{w:World}{K:bf}{mg:Zp}{base:Heap}{a:Wa}
def Li(W:Wd K mg a):FL P w K mg base a 1 "Desk" "__init__" a.e_44 ["self"] qY:=by
 show W.e_44.pk W.ko (vW (F:=As) W.e_44.F T6 λ_ _ _ _ _ _ b=>?_);unfold As;show(ax (Ss "Desk" W.ko W.kg (Dl (gB (pv 0)) (Ee (cv au)) rfl)))
def Bm(W:Wd K mg a):qD P w K mg base a 1 "if_any" a.e_49 ["word","text"] qZ:=by
 show W.e_49.pk (dh (F:=Au) W.e_49.F TY λ_ _ _ _ _ _ b=>?_);unfold Au;show(ax (qy (SS (gc (DE.db (dv 1))) (cv (ai (dv 0) (ai (dv 1) au))) (cv au))))
def Bn(W:Wd K mg a):qD P w K mg base a 1 "shown_thing" a.e_47 ["thing"] tW:=by
 show W.e_47.pk (dh (F:=Av) W.e_47.F FI λ_ _ _ _ _ _ b=>?_);unfold Av;show (aG (bI 1 FI.nd (aN (dvC 0) am))
 (aG (bI 2 FI.nd (mL (bU jT mr ms mK (DE.pe aq) (bD (DE.pe (aN (dvC 0) am)) bM))))
 (ax (dM (yW (gc (DE.db (dv 2))) (ka (j9 (dv 1) (gS (j9 (dv 2) (gS j8))))) (dv 1))))))
def T8(W:Wd K mg a):qD P w K mg base a 2 "shown_item" a.e_61 ["thing","worth"] Ax:=by
 show W.e_61.pk (dh (F:=Aw) W.e_61.F K0 λ_ _ _ _ _ _ b=>?_);have c:=b.units;unfold Aw;show (aG (bI 2 K0.nd (aV (Bn W) b (ai (dv 0) au)))
 (ax (dM (yW (bz (cx c) cT (DE.db (dv 1)) (DE.db am)) (dv 2) (ka (j9 (dv 1) (gS (j9 (dv 2) j8))))))))
def Gr(W:Wd K mg a):qD P w K mg base a 1 "shown_pairs" a.e_51 ["pairs"] tX:=by
 show W.e_51.pk (dh (F:=Ay) W.e_51.F T2 λ_ _ _ _ _ _ b=>?_);unfold Ay;show(ax (dM (mL (bU jT mr ms mK (DE.pe aq) (bD (DE.pe (DO.de (gP 2 [] ["variable","kind"] rfl (DI.de (df (dv 0))) (λ_ _ _ _ _=>(g6 rfl (cJ (dgc 0 2) (cJ (dgc 1 2) g5)))) (λ_ _ _ _ _=>eW) (λ_ _ _ _ _=>(ka (j9 (dvc 0) (gS (j9 (dvc 1) j8)))))))) bM)))))
def Lj(W:Wd K mg a):qD P w K mg base a 3 "shown_over" a.e_60 ["items","over"] AA:=by
 show W.e_60.pk (dh (F:=Az) W.e_60.F T1 λ_ _ _ _ _ _ b=>?_);unfold Az;show(ax (qy (lW (DO.de (cv (ai (mL (bU jT mr ms mK (DE.pe aq) (bD (DE.pe (DO.de (gP 2 [] ["thing","worth"] rfl (DI.de (df (dv 0))) (λ_ _ _ _ _=>(g6 rfl (cJ (dgc 0 2) (cJ (dgc 1 2) g5)))) (λ_ _ _ _ _=>eW) (λ_ _ _ _ _=>(aV (T8 W) b (ai (dvc 0) (ai (dvc 1) au))))))) bM))) au))) (aV (Bm W) b (ai aq (ai (aV (Gr W) b (ai (dv 1) au)) au))))))
def T9(W:Wd K mg a):qD P w K mg base a 4 "shown_part" a.e_59 ["part"] AC:=by
 show W.e_59.pk (dh (F:=AB) W.e_59.F KZ λ_ _ _ _ _ _ b=>?_);have c:=b.units;unfold AB;show (aG (bI 1 KZ.nd (aN (dvC 0) am))
 (aG (bK (bz (cx c) cT (DE.db (dv 1)) (DE.db aq)) (ax (dM (aV (Bn W) b (ai (aN (dvC 0) am) au)))) bA)
 (aG (bK (bz (cx c) cT (DE.db (dv 1)) (DE.db aq)) (ax (dM (mL (bU jT mr ms mK (DE.pe aq) (bD (DE.pe (DO.de (cv (ai (dv 1) (ai (aV (Bn W) b (ai (aN (dvC 0) am) au)) au))))) bM))))) bA)
 (aG (bK (bz (cx c) cT (DE.db (dv 1)) (DE.db aq)) (ax (dM (mL (bU jT mr ms mK (DE.pe aq) (bD (DE.pe (DO.de (cv (ai (aN (dvC 0) am) (ai (dv 1) (ai (aN (dvC 0) am) au)))))) bM))))) bA)
 (ax (dM (mL (bU jT mr ms mK (DE.pe aq) (bD (DE.pe (DO.de (lW (DO.de (cv (ai (dv 1) (ai (El rfl W.lb (aN (dvC 0) am)) (ai aq au))))) (aV (Lj W) b (ai (aN (dvC 0) am) (ai (aN (dvC 0) am) au)))))) bM)))))))))
def Ll(W:Wd K mg a):qD P w K mg base a 5 "shown_body" a.e_58 ["body"] AE:=by
 show W.e_58.pk (dh (F:=AD) W.e_58.F TZ λ_ _ _ _ _ _ b=>?_);unfold AD;show(ax (dM (mL (bU jT mr ms mK (DE.pe aq) (bD (DE.pe (DO.de (gP 1 [] ["part"] rfl (DI.de (df (dv 0))) (λ_ _ _ _ _=>(dgc 0 1)) (λ_ _ _ _ _=>eW) (λ_ _ _ _ _=>(aV (T9 W) b (ai (dvc 0) au)))))) bM)))))
def Lm(W:Wd K mg a):qD P w K mg base a 6 "shown_end" a.e_57 ["body","pairs"] AG:=by
 show W.e_57.pk (dh (F:=AF) W.e_57.F TX λ_ _ _ _ _ _ b=>?_);unfold AF;show(ax (dM (aO bN (aV (Bm W) b (ai aq (ai (aV (Ll W) b (ai (dv 0) au)) au))) (aV (Bm W) b (ai aq (ai (aV (Gr W) b (ai (dv 1) au)) au))))))
def Ua(W:Wd K mg a):qD P w K mg base a 7 "behind_word" a.e_56 ["row"] FM:=by
 show W.e_56.pk (dh (F:=AH) W.e_56.F FH λ_ _ _ _ _ _ b=>?_);have c:=b.units;unfold AH;show (aG (bI 1 FH.nd (aN (dvC 0) am))
 (aG (bK (bz (cx c) cT (DE.db (dv 1)) (DE.db aq)) (ax (qy (lW (DO.de (cv (ai (aN (dvC 0) am) au))) (aN (dvC 0) am)))) bA)
 (aG (bK (bz (cx c) cT (DE.db (dv 1)) (DE.db aq)) (ax (qy (lW (DO.de (cv (ai (aV (Ll W) b (ai (aN (dvC 0) am) au)) au))) (aV (Bm W) b (ai aq (ai (aV (Gr W) b (ai (aN (dvC 0) am) au)) au)))))) bA)
 (aG (bK (bz (cx c) cT (DE.db (dv 1)) (DE.db aq)) (aG (bI 2 FH.nd (DO.de (cv (ai (El rfl W.lb (aN (dvC 0) am)) (ai aq (ai (El rfl W.lb (aN (dvC 0) am)) (ai aq au)))))))
 (ax (dM (aO bN (aO bN (dv 2) (aV (Lj W) b (ai (aN (dvC 0) am) (ai (aN (dvC 0) am) au)))) (aV (Lm W) b (ai (aN (dvC 0) am) (ai (aN (dvC 0) am) au))))))) bA)
 (ax (qy (lW (DO.de (cv (ai (aV (Bn W) b (ai (aN (dvC 0) am) au)) au))) (aV (Lm W) b (ai (aN (dvC 0) am) (ai (aN (dvC 0) am) au))))))))))
def Ub(W:Wd K mg a):qD P w K mg base a 8 "shown_row" a.e_64 ["row"] FN:=by
 show W.e_64.pk (dh (F:=AI) W.e_64.F TW λ_ _ _ _ _ _ b=>?_);unfold AI;show(ax (dM (mL (bU jT mr ms mK (DE.pe aq) (bD (DE.pe (DO.de (lW (DO.de (cv (ai (aN (dvC 0) am) au))) (aV (Ua W) b (ai (dv 0) au))))) bM)))))
def Uc(W:Wd K mg a):qD P w K mg base a 1 "_law_cell_at" a.e_65 ["_law_script","_law_k"] FP:=by
 show W.e_65.pk (dh (F:=FO) W.e_65.F T3 λ_ _ _ _ _ _ b=>?_);unfold FO;show (aG (bK (bz jw jx (DE.db (dv 1)) (DE.db (fG ij ik rfl W.kz gX (cY (DE.db (dv 0)) dU)))) (ax (dM (aN (dvC 0) (dv 1)))) bA)
 (ax (dM am)))
def Gs(W:Wd K mg a):qD P w K mg base a 1 "must_be_unlike" a.e_46 ["words"] rg:=by
 show W.e_46.pk (dh (F:=FQ) W.e_46.F KW λ_ _ _ _ _ _ b=>?_);unfold FQ;show(ax (bK (bz jw jx (DE.db (Kz rfl rfl W.kz rfl W.ml (dv 0))) (DE.db (fG ij ik rfl W.kz gX (cY (DE.db (dv 0)) dU)))) (ax gz) bA))
variable{X4:Addr}
def Ln(W:Wd K mg a)(c:bV K X4=ac)(b:mg "BadName"=aa (.ref X4)):Pk P w K mg base (CX1 P w) 1 "must_be_unlike" a.e_46 ["words"] (spR (K,a.cl) ["words"].length X4 AJ):=by
 show W.e_46.pk (ll (r:=wB) W.e_46.F KW λ_ _ _ _ _ _ d=>?_);unfold wB;show(bo (gh (DT.dtx (bz jw jx (DE.db (Kz rfl rfl W.kz rfl W.ml (dv 0))) (DE.db (fG ij ik rfl W.kz gX (cY (DE.db (dv 0)) dU))))) (bo (jE c rfl jD rfl b (ai aq au))) gD))
def xr(W:Wd K mg a):qD P w K mg base a 2 "must_be_pairs" a.e_26 ["pairs","outer","kinds"] l9:=by
 show W.e_26.pk (dh (F:=AK) W.e_26.F pN λ_ _ _ _ _ _ b=>?_);unfold AK;show (aG (jd (aV (Gs W) b (ai (DO.de (gP 2 [] ["variable","kind"] rfl (DI.de (df (aO bN (dv 1) (dv 0)))) (λ_ _ _ _ _=>(g6 rfl (cJ (dgc 0 2) (cJ (dgc 1 2) g5)))) (λ_ _ _ _ _=>eW) (λ_ _ _ _ _=>(dvc 0)))) au)))
 (aG (sX 5 2 [] ["kind","names"] pN.nd rfl (DI.de (df (dv 2))) (λ_ _ _ _ _=>(g6 rfl (cJ (dgc 0 2) (cJ (dgc 1 2) g5)))) (λ_ _ _ _ _=>eW) (λ_ _ _ _ _=>(dvc 0)))
 (ax (qz iH rfl (df (dv 0)) (g6 rfl (cJ (il 3 6 pN.nd) (cJ (il 4 6 pN.nd) g5))) (ax (bK (bz o6 o5 (DE.db (dv 4)) (DE.db (dv 5))) (ax gz) bA))))))
def Lo(W:Wd K mg a)(c:bV K X4=ac)(b:mg "BadName"=aa (.ref X4)):Pk P w K mg base (CX1 P w) 2 "must_be_pairs" a.e_26 ["pairs","outer","kinds"] (spR (K,a.cl) ["pairs","outer","kinds"].length X4 AM):=by
 show W.e_26.pk (ll (r:=AL) W.e_26.F pN λ_ _ _ _ _ _ d=>?_);unfold AL;show (bQ (jd (aV (Gs W) d (ai (DO.de (gP 2 [] ["variable","kind"] rfl (DI.de (df (aO bN (dv 1) (dv 0)))) (λ_ _ _ _ _=>(g6 rfl (cJ (dgc 0 2) (cJ (dgc 1 2) g5)))) (λ_ _ _ _ _=>eW) (λ_ _ _ _ _=>(dvc 0)))) au))) (iK (jF (Ln W c b) bj d (aC (DE.dx (DO.de (gP 2 [] ["variable","kind"] rfl (DI.de (df (aO bN (dv 1) (dv 0)))) (λ_ _ _ _ _=>(g6 rfl (cJ (dgc 0 2) (cJ (dgc 1 2) g5)))) (λ_ _ _ _ _=>eW) (λ_ _ _ _ _=>(dvc 0))))) aJ) lj))
 (bQ (sX 5 2 [] ["kind","names"] pN.nd rfl (DI.de (df (dv 2))) (λ_ _ _ _ _=>(g6 rfl (cJ (dgc 0 2) (cJ (dgc 1 2) g5)))) (λ_ _ _ _ _=>eW) (λ_ _ _ _ _=>(dvc 0))) kc
 (bo (z7 lI rfl (df (dv 0)) (g6 rfl (cJ (il 3 6 pN.nd) (cJ (il 4 6 pN.nd) g5))) (ax (bK (bz o6 o5 (DE.db (dv 4)) (DE.db (dv 5))) (ax gz) bA)) (bo (gh (DT.dtx (bz o6 o5 (DE.db (dv 4)) (DE.db (dv 5)))) (bo (jE c rfl jD rfl b (ai (ka (gS (j9 (dv 4) (gS (j9 (dv 3) (gS j8)))))) au))) gD))))))
def Bo(W:Wd K mg a):qD P w K mg base a 1 "is_made_of" a.e_50 ["word","signs","most"] tZ:=by
 show W.e_50.pk (dh (F:=FR) W.e_50.F TQ λ_ _ _ _ _ _ b=>?_);unfold FR;show(ax (dM (qv (RQ sP sQ sP sQ (DE.db am) (DE.db (fG ij ik rfl W.kz gX (cY (DE.db (dv 0)) dU))) (DE.db (dv 2))) (qu (fG (tm rfl) tq rfl W.k8 boot_all (cY (DE.db (DO.de (gP 1 [1] ["sign","signs"] rfl (DI.de (Sd (dv 0))) (λ_ _ _ _ _=>(dgc 0 1)) (λ_ _ _ _ _=>eW) (λ_ _ _ _ _=>(kP Sf Se (DE.db (dvc 0)) (DE.db (dvc 1))))))) dU))))))
def rO(W:Wd K mg a):qD P w K mg base a 2 "is_variable" a.e_40 ["word"] n5:=by
 show W.e_40.pk (dh (F:=FS) W.e_40.F TU λ_ _ _ _ _ _ b=>?_);have c:=b.units;unfold FS;show(ax (dM (qv (aV (Bo W) b (ai (Ek (dv 0) nJ (lS am)) (ai (zO rfl W.nq) (ai am au)))) (qu (QO (kP (cx c) cT (DE.db (fG ij ik rfl W.kz gX (cY (DE.db (dv 0)) dU))) (DE.db am)) (qu (aV (Bo W) b (ai (Ek (dv 0) (lS am) nJ) (ai (zO rfl W.ls) (ai am au))))))))))
def Lp(W:Wd K mg a):qD P w K mg base a 3 "must_be_told" a.e_43 ["args","pairs"] wC:=by
 show W.e_43.pk (dh (F:=FT) W.e_43.F tU λ_ _ _ _ _ _ b=>?_);unfold FT;show (aG (sX 2 2 [] ["variable","kind"] tU.nd rfl (DI.de (df (dv 1))) (λ_ _ _ _ _=>(g6 rfl (cJ (dgc 0 2) (cJ (dgc 1 2) g5)))) (λ_ _ _ _ _=>eW) (λ_ _ _ _ _=>(dvc 0)))
 (ax (qz iH rfl (df (dv 0)) (il 3 4 tU.nd) (ax (bK (DW.dt (vw (gc (DE.db (aV (rO W) b (ai (dv 3) au)))) (vv (bz o6 o5 (DE.db (dv 3)) (DE.db (dv 2)))))) (ax gz) bA)))))
def Ud(W:Wd K mg a)(d:bV K X4=ac)(c:mg "BadName"=aa (.ref X4)):Pk P w K mg base (CX1 P w) 3 "must_be_told" a.e_43 ["args","pairs"] (spR (K,a.cl) ["args","pairs"].length X4 Lb):=by
 show W.e_43.pk (ll (r:=FU) W.e_43.F tU λ_ _ _ _ _ _ b=>?_);unfold FU;show (bQ (sX 2 2 [] ["variable","kind"] tU.nd rfl (DI.de (df (dv 1))) (λ_ _ _ _ _=>(g6 rfl (cJ (dgc 0 2) (cJ (dgc 1 2) g5)))) (λ_ _ _ _ _=>eW) (λ_ _ _ _ _=>(dvc 0))) kc
 (bo (z7 lI rfl (df (dv 0)) (il 3 4 tU.nd) (ax (bK (DW.dt (vw (gc (DE.db (aV (rO W) b (ai (dv 3) au)))) (vv (bz o6 o5 (DE.db (dv 3)) (DE.db (dv 2)))))) (ax gz) bA)) (bo (gh (DT.dtx (DW.dt (vw (gc (DE.db (aV (rO W) b (ai (dv 3) au)))) (vv (bz o6 o5 (DE.db (dv 3)) (DE.db (dv 2))))))) (bo (jE d rfl jD rfl c (ai (ka (gS (j9 (dv 3) (gS j8)))) au))) gD)))))
def Lq(W:Wd K mg a):qD P w K mg base a 1 "args_of" a.e_53 ["items"] AN:=by
 show W.e_53.pk (dh (F:=FV) W.e_53.F Am λ_ _ _ _ _ _ b=>?_);unfold FV;show (aG (o8 1 Am.nd (cv au))
 (aG (qz iH rfl (df (dv 0)) (g6 rfl (cJ (il 2 4 Am.nd) (cJ (il 3 4 Am.nd) g5))) (ax (Q3 (cG (bU c9 PySem.F.slot_list_extend PySem.F.type_list_extend Qy (pv 1) (bD (DE.pe (aN (dvC 2) am)) bM))))))
 (ax (vD 1))))
def Ue(W:Wd K mg a):qD P w K mg base a 2 "part_uses" a.e_63 ["part"] AO:=by
 show W.e_63.pk (dh (F:=FW) W.e_63.F TV λ_ _ _ _ _ _ b=>?_);have c:=b.units;unfold FW;show (aG (bK (bz (cx c) cT (DE.db (aN (dvC 0) am)) (DE.db aq)) (ax (dM (fg (ai (DO.de (cv (ai (aN (dvC 0) am) (ai (aN (dvC 0) am) au)))) (ai (DO.de (cv au)) au))))) bA)
 (aG (bK (bz kU nI (DE.db (aN (dvC 0) am)) (DE.db (fg (ai aq (ai aq au))))) (ax (dM (fg (ai (aV (Lq W) b (ai (aN (dvC 0) am) au)) (ai (aN (dvC 0) am) au))))) bA)
 (ax (dM (fg (ai (aN (DE.dc (aN (dvC 0) am)) am) (ai (DO.de (cv au)) au)))))))
def Ls(W:Wd K mg a):qD P w K mg base a 3 "uses" a.e_55 ["row"] AQ:=by
 show W.e_55.pk (dh (F:=FX) W.e_55.F KY λ_ _ _ _ _ _ b=>?_);have c:=b.units;unfold FX;show (aG (Jl 1 1 [] ["part"] KY.nd rfl (DI.de (df (aN (dvC 0) (lR am)))) (λ_ _ _ _ _=>(dgc 0 1)) (λ_ _ _ _ _=>eW) (λ_ _ _ _ _=>(aV (Ue W) b (ai (dvc 0) au))))
 (aG (bK (bz (cx c) cT (DE.db (aN (dvC 0) am)) (DE.db aq)) (ax (lU (cG (bU c9 dF dG dJ (pv 1) (bD (DE.pe (fg (ai (aV (Lq W) b (ai (aN (dvC 0) am) au)) (ai (aN (dvC 0) am) au)))) bM))))) (ax (bK (bz (nH c) vB (DE.db (aN (dvC 0) am)) (DE.db aq)) (ax (lU (cG (bU c9 dF dG dJ (pv 1) (bD (DE.pe (fg (ai (aN (DE.dc (aN (dvC 0) am)) am) (ai (DO.de (cv au)) au)))) bM))))) bA)))
 (ax (vD 1))))
def Lu(W:Wd K mg a):qD P w K mg base a 4 "must_be_known" a.e_36 ["row","kinds"] pR:=by
 show W.e_36.pk (dh (F:=AR) W.e_36.F tT λ_ _ _ _ _ _ b=>?_);unfold AR;show (aG (jd (aV (xr W) b (ai (aN (dvC 0) (lR am)) (ai (DO.de (cv au)) (ai (dv 1) au)))))
 (ax (qz iH rfl (df (aV (Ls W) b (ai (dv 0) au))) (g6 rfl (cJ (il 2 4 tT.nd) (cJ (il 3 4 tT.nd) g5))) (aG (jd (aV (xr W) b (ai (dv 3) (ai (aN (dvC 0) (lR am)) (ai (dv 1) au)))))
 (ax (jd (aV (Lp W) b (ai (dv 2) (ai (aO bN (aN (dvC 0) (lR am)) (dv 3)) au)))))))))
def Uf(W:Wd K mg a)(d:bV K X4=ac)(c:mg "BadName"=aa (.ref X4)):Pk P w K mg base (CX1 P w) 4 "must_be_known" a.e_36 ["row","kinds"] (spR (K,a.cl) ["row","kinds"].length X4 wE):=by
 show W.e_36.pk (ll (r:=AS) W.e_36.F tT λ_ _ _ _ _ _ b=>?_);unfold AS;show (bQ (jd (aV (xr W) b (ai (aN (dvC 0) (lR am)) (ai (DO.de (cv au)) (ai (dv 1) au))))) (iK (jF (Lo W d c) bj b (aC (DE.dx (aN (dvC 0) (lR am))) (aC (DE.dx (DO.de (cv au))) (aC (DE.dx (dv 1)) aJ))) lj))
 (bo (z7 lI rfl (df (aV (Ls W) b (ai (dv 0) au))) (g6 rfl (cJ (il 2 4 tT.nd) (cJ (il 3 4 tT.nd) g5))) (aG (jd (aV (xr W) b (ai (dv 3) (ai (aN (dvC 0) (lR am)) (ai (dv 1) au)))))
 (ax (jd (aV (Lp W) b (ai (dv 2) (ai (aO bN (aN (dvC 0) (lR am)) (dv 3)) au)))))) (bQ (jd (aV (xr W) b (ai (dv 3) (ai (aN (dvC 0) (lR am)) (ai (dv 1) au))))) (iK (jF (Lo W d c) bj b (aC (DE.dx (dv 3)) (aC (DE.dx (aN (dvC 0) (lR am))) (aC (DE.dx (dv 1)) aJ))) lj))
 (bo (iK (jF (Ud W d c) bj b (aC (DE.dx (dv 2)) (aC (DE.dx (aO bN (aN (dvC 0) (lR am)) (dv 3))) aJ)) lj)))))))
def Lv(W:Wd K mg a):qD P w K mg base a 2 "must_be_new" a.e_41 ["row","kinds"] rh:=by
 show W.e_41.pk (dh (F:=AT) W.e_41.F Al λ_ _ _ _ _ _ b=>?_);unfold AT;show (aG (bI 2 Al.nd (aN (dvC 0) am))
 (aG (bK (bz kU nI (DE.db (dv 2)) (DE.db (DO.de (gP 2 [] ["kind","names"] rfl (DI.de (df (dv 1))) (λ_ _ _ _ _=>(g6 rfl (cJ (dgc 0 2) (cJ (dgc 1 2) g5)))) (λ_ _ _ _ _=>eW) (λ_ _ _ _ _=>(dvc 0)))))) (ax gz) bA)
 (ax (jd (aV (Gs W) b (ai (aN (dvC 0) am) au))))))
def Ug(W:Wd K mg a)(c:bV K X4=ac)(b:mg "BadName"=aa (.ref X4)):Pk P w K mg base (CX1 P w) 2 "must_be_new" a.e_41 ["row","kinds"] (spR (K,a.cl) ["row","kinds"].length X4 AU):=by
 show W.e_41.pk (ll (r:=wF) W.e_41.F Al λ_ _ _ _ _ _ d=>?_);unfold wF;show (bQ (bI 2 Al.nd (aN (dvC 0) am)) kc
 (bQ (bK (bz kU nI (DE.db (dv 2)) (DE.db (DO.de (gP 2 [] ["kind","names"] rfl (DI.de (df (dv 1))) (λ_ _ _ _ _=>(g6 rfl (cJ (dgc 0 2) (cJ (dgc 1 2) g5)))) (λ_ _ _ _ _=>eW) (λ_ _ _ _ _=>(dvc 0)))))) (ax gz) bA) (gh (DT.dtx (bz kU nI (DE.db (dv 2)) (DE.db (DO.de (gP 2 [] ["kind","names"] rfl (DI.de (df (dv 1))) (λ_ _ _ _ _=>(g6 rfl (cJ (dgc 0 2) (cJ (dgc 1 2) g5)))) (λ_ _ _ _ _=>eW) (λ_ _ _ _ _=>(dvc 0))))))) (bo (jE c rfl jD rfl b (ai (ka (gS (j9 (dv 2) (gS j8)))) au))) gD)
 (bo (iK (jF (Ln W c b) bj d (aC (DE.dx (aN (dvC 0) am)) aJ) lj)))))
def Lw(W:Wd K mg a):qD P w K mg base a 5 "kinds_of" a.e_16 ["rows"] gl:=by
 show W.e_16.pk (dh (F:=wG) W.e_16.F tS λ_ _ _ _ _ _ b=>?_);have c:=b.units;unfold wG;show (aG (o8 1 tS.nd (cv au))
 (aG (qz iH rfl (df (dv 0)) (il 2 3 tS.nd) (ax (bK (bz (cx c) cT (DE.db (aN (dvC 2) am)) (DE.db aq)) (aG (jd (zv (Lv W) b (cY (DE.db (dv 2)) (cY (dvB 1) dU))))
 (ax (lU (cG (bU c9 dF dG dJ (pv 1) (bD (DE.pe (fg (ai (aN (dvC 2) am) (ai (DO.de (Jd boot_list rfl W.k9 (DE.dc (aN (dvC 2) am)))) au)))) bM)))))) (ax (jd (zv (Lu W) b (cY (DE.db (dv 2)) (cY (dvB 1) dU))))))))
 (ax (vD 1))))
def Lx(W:Wd K mg a)(d:bV K X4=ac)(c:mg "BadName"=aa (.ref X4)):Pk P w K mg base (CX1 P w) 5 "kinds_of" a.e_16 ["rows"] (spR (K,a.cl) ["rows"].length X4 pS):=by
 show W.e_16.pk (ll (r:=wH) W.e_16.F tS λ_ _ _ _ _ _ b=>?_);have e:=b.units;unfold wH;show (bQ (o8 1 tS.nd (cv au)) kc
 (bo (z7 lI rfl (df (dv 0)) (il 2 3 tS.nd) (ax (bK (bz (cx e) cT (DE.db (aN (dvC 2) am)) (DE.db aq)) (aG (jd (zv (Lv W) b (cY (DE.db (dv 2)) (cY (dvB 1) dU))))
 (ax (lU (cG (bU c9 dF dG dJ (pv 1) (bD (DE.pe (fg (ai (aN (dvC 2) am) (ai (DO.de (Jd boot_list rfl W.k9 (DE.dc (aN (dvC 2) am)))) au)))) bM)))))) (ax (jd (zv (Lu W) b (cY (DE.db (dv 2)) (cY (dvB 1) dU))))))) (bo (gh (DT.dtx (bz (cx e) cT (DE.db (aN (dvC 2) am)) (DE.db aq))) (bo (z6 1 (iK (jF (Ug W d c) bj b (aC (DE.dx (dv 2)) (aC (DE.dx (dv 1)) aJ)) lj)))) (bo (z6 1 (iK (jF (Uf W d c) bj b (aC (DE.dx (dv 2)) (aC (DE.dx (dv 1)) aJ)) lj)))))))))
def Uh(W:Wd K mg a):FL P w K mg base a 6 "Desk" "drop" a.e_8 ["self","number"] m_8:=by
 show W.e_8.pk W.ko (vW (F:=b_8) W.e_8.F wz λ_ _ _ _ _ _ b=>?_);unfold b_8;show (aG (bK (i8 (zw sP sQ jw jx (DE.db am) (DE.db (dv 1)) (DE.db (fG ij ik rfl W.kz gX (cY (qN (tH "Desk" W.ko W.kg (gB (pv 0)))) dU))))) (ax gz) bA)
 (aG (o8 2 wz.nd (Ah (DO.dl (Ag (pw (tH "Desk" W.ko W.kg (gB (pv 0)))) nJ (lS (dv 1)))) (DO.dl (Ag (pw (tH "Desk" W.ko W.kg (gB (pv 0)))) (lS (aO bN (dv 1) am)) nJ))))
 (aG (TM (RP (Lw W) b (cY (dvB 2) dU)))
 (ax (TN "Desk" W.ko W.kg (Dl (gB (pv 0)) (pv 2) rfl))))))
def Ui(W:Wd K mg a)(c:bV K X4=ac)(b:mg "NoRow"=aa (.ref X4)):Pm P w K mg base (CX1 P w) 6 (a.cl "Desk") "drop" a.e_8 ["self","number"] (spR (K,a.cl) ["self","number"].length X4 r_8):=by
 show W.e_8.pk W.ko (ll (r:=wI) W.e_8.F wz λ_ _ _ _ _ _ d=>?_);unfold wI;show(bo (gh (DT.dtx (i8 (zw sP sQ jw jx (DE.db am) (DE.db (dv 1)) (DE.db (fG ij ik rfl W.kz gX (cY (DE.db (sZ "Desk" W.ko W.kg (dv 0))) dU)))))) (bo (jE c rfl jD rfl b (ai (ka (gS (j9 (dv 1) j8))) au))) gD))
def Uj(W:Wd K mg a)(e:bV K X4=ac)(d:mg "BadName"=aa (.ref X4)):Pm P w K mg base (CX1 P w) 6 (a.cl "Desk") "drop" a.e_8 ["self","number"] (spR (K,a.cl) ["self","number"].length X4 wJ):=by
 show W.e_8.pk W.ko (ll (r:=rk) W.e_8.F wz λ_ _ _ _ _ _ f=>?_);unfold rk;show (bQ (bK (i8 (zw sP sQ jw jx (DE.db am) (DE.db (dv 1)) (DE.db (fG ij ik rfl W.kz gX (cY (DE.db (sZ "Desk" W.ko W.kg (dv 0))) dU))))) (ax gz) bA) kc
 (bQ (bI 2 wz.nd (DO.de (lW (DO.de (by show DY ?a ?b ?c; (case a=>show (sZ "Desk" W.ko W.kg (dv 0))); (case b=>show nJ); (case c=>show (lS (dv 1))))) (DO.de (by show DY ?a ?b ?c; (case a=>show (sZ "Desk" W.ko W.kg (dv 0))); (case b=>show (lS (aO bN (dv 1) am))); (case c=>show nJ)))))) kc
 (bo (iK (jF (Lx W e d) bj f (aC (DE.dx (dv 2)) aJ) lj)))))
def Ly(W:Wd K mg a):qD P w K mg base a 1 "_law_fit" a.e_48 ["_law_rows"] rp:=by
 show W.e_48.pk (dh (F:=wK) W.e_48.F FK λ_ _ _ _ _ _ c=>?_);have b:=c.units;unfold wK;show (aG (o8 1 FK.nd (cv au))
 (aG (qz iH rfl (df (dv 0)) (il 2 3 FK.nd) (aG (bK (DW.dt (yV (i8 (gc (DE.db (aN (dvC 2) am)))) (yV (bz kU nI (DE.db (aN (dvC 2) am)) (dvB 1)) (IT (DW.dt (vw (bz (nH b) vB (DE.db (aN (dvC 2) am)) (DE.db aq)) (vv (bz o6 o5 (DE.db (aN (dvC 2) am)) (dvB 1))))))))) (ax (dM mz)) bA)
 (ax (bK (bz (nH b) vB (DE.db (aN (dvC 2) am)) (DE.db aq)) (ax (lU (cG (bU c9 dF dG dJ (pv 1) (bD (DE.pe (aN (dvC 2) am)) bM))))) bA))))
 (ax (dM mz))))
def hJ(W:Wd K mg a):qD P w K mg base a 1 "_law_mixed" a.e_5 ["_law_cell","_law_k"] m_5:=by
 show W.e_5.pk (dh (F:=b_5) W.e_5.F FJ λ_ _ _ _ _ _ b=>?_);unfold b_5;show (aG (bI 2 FJ.nd (aN (DO.dc (cv (ai am (ai am (ai am (ai am au)))))) (aO eB (dv 1) am)))
 (aG (bI 3 FJ.nd (aO eB (aO tw (aO bN (aO eB (dv 0) (aO IV am am)) (aO tw am (aO bN (dv 1) am))) am) (dv 2)))
 (ax (dM (aO eB (aO tw (dv 3) (dv 3)) am)))))
def Uk(W:Wd K mg a):qD P w K mg base a 2 "_law_kind" a.e_42 ["_law_cell","_law_pool_here"] uc:=by
 show W.e_42.pk (dh (F:=ua) W.e_42.F qV λ_ _ _ _ _ _ b=>?_);have c:=b.units;unfold ua;show (aG (bI 2 qV.nd aq)
 (aG (bI 3 qV.nd (aO bN am (aO eB (aV (hJ W) b (ai (dv 0) (ai am au))) am)))
 (aG (Jl 4 1 [2,0] ["_law_k","_law_letters","_law_cell"] qV.nd rfl (DI.de (D4 rfl W.kT (ai (dv 3) au))) (λ_ _ _ _ _=>(dgc 0 1)) (λ_ _ _ _ _=>eW) (λ_ _ _ _ _=>(R4 (dvc 1) (aO eB (aO bN (aV (hJ W) b (ai (dvc 2) (ai am au))) (aO tw (dvc 0) (aO bN am (aO tw am (aO eB (dvc 2) am))))) am))))
 (aG (bI 5 qV.nd mz)
 (aG (bK (DW.dt (vw (bz (cx c) cT (DE.db (aO eB (aV (hJ W) b (ai (dv 0) (ai am au))) am)) (DE.db am)) (vv (bz yZ y0 (DE.db (dv 3)) (DE.db am))))) (aG (RJ (pv 4) (aO eB (aV (hJ W) b (ai (dv 0) (ai am au))) (aO vz (dv 3) am)) (aN (dvC 4) (aO vz (dv 3) am)))
 (ax (bI 5 qV.nd mz))) bA)
 (aG (bI 6 qV.nd (Ab (aN (dvC 1) (aO eB (aV (hJ W) b (ai (dv 0) (ai am au))) am))))
 (ax (sY 4 (dM (fg (ai (aO bN (aO bN (aO bN (aO bN aq (dv 6)) aq) (mL (bU jT mr ms mK (DE.pe aq) (bD (DE.pe (dv 4)) bM)))) aq) (ai (aO bN (aO bN (aO bN aq (dv 6)) aq) (mL (bU jT mr ms mK (DE.pe aq) (bD (DE.pe (dv 4)) bM)))) (ai (dv 6) (ai aq (ai (dv 5) au)))))))))))))))
def Ul(W:Wd K mg a):qD P w K mg base a 2 "_law_no_row" a.e_54 ["_law_cell","_law_pool_here"] FY:=by
 show W.e_54.pk (dh (F:=AV) W.e_54.F wl λ_ _ _ _ _ _ b=>?_);unfold AV;show (aG (bI 2 wl.nd (Ab (aN (dvC 1) (aO eB (dv 0) am))))
 (aG (bI 3 wl.nd (DO.de (cv (ai aq (ai aq (ai (aO bN aq (dv 2)) (ai (aO bN (aO bN aq (dv 2)) aq) (ai aq (ai aq (ai (aO bN (aO bN aq (dv 2)) aq) (ai (aO bN aq (dv 2)) au)))))))))))
 (aG (bI 3 wl.nd (DO.de (lW (dv 3) (DO.de (cv (ai (aO bN aq (dv 2)) (ai aq (ai (aO bN (aO bN (aO bN aq (dv 2)) aq) (dv 2)) (ai (aO bN aq (dv 2)) au)))))))))
 (aG (bI 3 wl.nd (DO.de (lW (dv 3) (DO.de (cv (ai (aO bN (aO bN aq (dv 2)) aq) (ai (aO bN aq (dv 2)) (ai (aO bN (aO bN (aO bN aq (dv 2)) aq) (dv 2)) au))))))))
 (ax (dM (aN (dvC 3) (aO eB (aV (hJ W) b (ai (dv 0) (ai am au))) am))))))))
def Lz(W:Wd K mg a):Pm P w K mg base CX0 1 (a.cl "Reader") "__init__" a.e_66 ["self","words"] (spI (K,a.cl) "Reader" ["self","words"].length FZ):=
 W.e_66.pk W.h6 (Q8 W.e_66.F T4 λ_ _ _ _ _ _ b=>(Jn W.h6 W.kx (pv 0) (dv 1) (Jn W.h6 W.kv (pv 0) am Q7)))
def Um(W:Wd K mg a):eY P w K mg base a 1 "must_end" a.e_39 ["self"] F1:=by
 show W.e_39.pk W.h6 (eX (F:=F0) W.e_39.F K5 λ_ _ _ _ _ _ b=>?_);unfold F0;show(ax (bK (bz jw jx (DE.db (qK "Reader" W.h6 W.kv (pv 0))) (DE.db (fG ij ik rfl W.kz gX (cY (DE.db (qK "Reader" W.h6 W.kx (pv 0))) dU)))) (ax gz) bA))
def Uo(W:Wd K mg a)(c:bV K X4=ac)(b:mg "NoRow"=aa (.ref X4)):fR P w K mg base a 1 "must_end" a.e_39 ["self"] X4 Lc:=by
 show W.e_39.pk W.h6 (fO (r:=F3) W.e_39.F K5 λ_ _ _ _ _ _ d=>?_);unfold F3;show(bo (gh (DT.dtx (bz jw jx (DE.db (qK "Reader" W.h6 W.kv (pv 0))) (DE.db (fG ij ik rfl W.kz gX (cY (DE.db (qK "Reader" W.h6 W.kx (pv 0))) dU))))) (bo (jE c rfl jD rfl b (ai aq au))) gD))
def iN(W:Wd K mg a):eY P w K mg base a 1 "coming" a.e_10 ["self","behind"] gE:=by
 show W.e_10.pk W.h6 (eX (F:=F4) W.e_10.F K2 λ_ _ _ _ _ _ b=>?_);unfold F4;show (aG (bI 2 K2.nd (aO bN (qK "Reader" W.h6 W.kv (pv 0)) (dv 1)))
 (ax (iq (yW (bz jw jx (DE.db (dv 2)) (DE.db (fG ij ik rfl W.kz gX (cY (DE.db (qK "Reader" W.h6 W.kx (pv 0))) dU)))) (aN (DE.dc (qK "Reader" W.h6 W.kx (pv 0))) (dv 2)) aq))))
def f7(W:Wd K mg a):eY P w K mg base a 2 "passes" a.e_4 ["self","word"] m_4:=by
 show W.e_4.pk W.h6 (eX (F:=b_4) W.e_4.F T5 λ_ _ _ _ _ _ b=>?_);have c:=b.units;unfold b_4;show (aG (pi (mH (nH c) (bL (pv 0) (iN W) b (aC (DE.dx am) aJ)) (DE.dx (dv 1))) (ax (iq mz)) bA)
 (aG (J7 "Reader" W.h6 W.kv (pv 0) am)
 (ax (iq mz))))
def lu(W:Wd K mg a):eY P w K mg base a 3 "must_pass" a.e_1 ["self","word"] m_1:=by
 show W.e_1.pk W.h6 (eX (F:=b_1) W.e_1.F K4 λ_ _ _ _ _ _ b=>?_);unfold b_1;show(ax (pi (J8 (eI (bL (pv 0) (f7 W) b (aC (DE.dx (dv 1)) aJ)))) (ax gz) bA))
def uv(W:Wd K mg a)(c:bV K X4=ac)(b:mg "NoRow"=aa (.ref X4)):fR P w K mg base a 3 "must_pass" a.e_1 ["self","word"] X4 r_1:=by
 show W.e_1.pk W.h6 (fO (r:=wL) W.e_1.F K4 λ_ _ _ _ _ _ d=>?_);unfold wL;show(bo (gh (J8 (eI (bL (pv 0) (f7 W) d (aC (DE.dx (dv 1)) aJ)))) (bo (jE c rfl jD rfl b (ai (ka (j9 (dv 1) (gS j8))) au))) gD))
def mV(W:Wd K mg a):eY P w K mg base a 2 "take" a.e_31 ["self"] lq:=by
 show W.e_31.pk W.h6 (eX (F:=F5) W.e_31.F K3 λ_ _ _ _ _ _ b=>?_);unfold F5;show (aG (di 1 K3.nd (bL (pv 0) (iN W) b (aC (DE.dx am) aJ)))
 (aG (J7 "Reader" W.h6 W.kv (pv 0) am)
 (ax (iq (dv 1)))))
def LA(W:Wd K mg a):qD P w K mg base a 2 "is_name" a.e_62 ["word"] AW:=by
 show W.e_62.pk (dh (F:=F6) W.e_62.F TR λ_ _ _ _ _ _ b=>?_);unfold F6;show(ax (dM (qv (aV (Bo W) b (ai (dv 0) (ai (zO rfl W.ls) (ai am au)))) (qu (kP o6 o5 (DE.db (dv 0)) (DE.db (Sn rfl W.nL)))))))
def lv(W:Wd K mg a):eY P w K mg base a 3 "read_name" a.e_0 ["self"] m_0:=by
 show W.e_0.pk W.h6 (eX (F:=b_0) W.e_0.F Ao λ_ _ _ _ _ _ b=>?_);unfold b_0;show (aG (di 1 Ao.nd (aK (pv 0) (mV W) b))
 (aG (bK (i8 (gc (DE.db (aV (LA W) b (ai (dv 1) au))))) (ax gz) bA)
 (ax (iq (dv 1)))))
def uw(W:Wd K mg a)(d:bV K X4=ac)(c:mg "NoRow"=aa (.ref X4)):fR P w K mg base a 3 "read_name" a.e_0 ["self"] X4 r_0:=by
 show W.e_0.pk W.h6 (fO (r:=wM) W.e_0.F Ao λ_ _ _ _ _ _ b=>?_);unfold wM;show (bQ (di 1 Ao.nd (aK (pv 0) (mV W) b)) kc
 (bo (gh (DT.dtx (i8 (gc (DE.db (aV (LA W) b (ai (dv 1) au)))))) (bo (jE d rfl jD rfl c (ai (ka (z4 (dv 1) (gS j8))) au))) gD)))
def Gu(W:Wd K mg a):eY P w K mg base a 3 "read_variable" a.e_27 ["self"] wN:=by
 show W.e_27.pk W.h6 (eX (F:=F7) W.e_27.F Ap λ_ _ _ _ _ _ b=>?_);unfold F7;show (aG (di 1 Ap.nd (aK (pv 0) (mV W) b))
 (aG (bK (i8 (gc (DE.db (aV (rO W) b (ai (dv 1) au))))) (ax gz) bA)
 (ax (iq (dv 1)))))
def LB(W:Wd K mg a)(d:bV K X4=ac)(c:mg "NoRow"=aa (.ref X4)):fR P w K mg base a 3 "read_variable" a.e_27 ["self"] X4 F9:=by
 show W.e_27.pk W.h6 (fO (r:=F8) W.e_27.F Ap λ_ _ _ _ _ _ b=>?_);unfold F8;show (bQ (di 1 Ap.nd (aK (pv 0) (mV W) b)) kc
 (bo (gh (DT.dtx (i8 (gc (DE.db (aV (rO W) b (ai (dv 1) au)))))) (bo (jE d rfl jD rfl c (ai (ka (z4 (dv 1) (gS j8))) au))) gD)))
def Bp(W:Wd K mg a):eY P w K mg base a 4 "read_pair" a.e_18 ["self"] rq:=by
 show W.e_18.pk W.h6 (eX (F:=AX) W.e_18.F wy λ_ _ _ _ _ _ b=>?_);unfold AX;show (aG (di 1 wy.nd (aK (pv 0) (Gu W) b))
 (aG (j4 (bL (pv 0) (lu W) b (aC (DE.dx aq) aJ)))
 (ax (dO (jB (aC (DE.dx (dv 1)) (aC (aK (pv 0) (lv W) b) aJ)))))))
def LC(W:Wd K mg a)(d:bV K X4=ac)(c:mg "NoRow"=aa (.ref X4)):fR P w K mg base a 4 "read_pair" a.e_18 ["self"] X4 AY:=by
 show W.e_18.pk W.h6 (fO (r:=wO) W.e_18.F wy λ_ _ _ _ _ _ b=>?_);unfold wO;show (bQ (di 1 wy.nd (aK (pv 0) (Gu W) b)) (jk 1 wy.nd (bW (pv 0) (LB W d c) bj b))
 (bQ (j4 (bL (pv 0) (lu W) b (aC (DE.dx aq) aJ))) (iK (tL (pv 0) (uv W d c) bj b (aC (DE.dx aq) aJ)))
 (bo (gg (l5 (fZ (DE.dx (dv 1)) gC (fQ (bW (pv 0) (uw W d c) bj b))))))))
def Bq(W:Wd K mg a):eY P w K mg base a 5 "read_pairs" a.e_19 ["self"] ud:=by
 show W.e_19.pk W.h6 (eX (F:=wP) W.e_19.F wx λ_ _ _ _ _ _ b=>?_);unfold wP;show (aG (mJ 1 wx.nd (aK (pv 0) (Bp W) b))
 (aG (qM 1000000000 iH (eI (bL (pv 0) (f7 W) b (aC (DE.dx aq) aJ))) (ax (lg (cG (bU c9 dF dG dJ (pv 1) (bD (DX.pe (aK (pv 0) (Bp W) b)) bM))))))
 (ax (sY 1 (iq (dv 1))))))
def LF(W:Wd K mg a)(d:bV K X4=ac)(c:mg "NoRow"=aa (.ref X4)):fR P w K mg base a 5 "read_pairs" a.e_19 ["self"] X4 Ga:=by
 show W.e_19.pk W.h6 (fO (r:=AZ) W.e_19.F wx λ_ _ _ _ _ _ b=>?_);unfold AZ;show (bQ (mJ 1 wx.nd (aK (pv 0) (Bp W) b)) (jk 1 wx.nd (vZ (fQ (bW (pv 0) (LC W d c) bj b))))
 (bo (wa 1000000000 lI (eI (bL (pv 0) (f7 W) b (aC (DE.dx aq) aJ))) (ax (lg (cG (bU c9 dF dG dJ (pv 1) (bD (DX.pe (aK (pv 0) (Bp W) b)) bM))))) (bo (wb (cG (bU c9 dF dG dJ (pv 1) (fQ (bW (pv 0) (LC W d c) bj b)))))))))
def Br(W:Wd K mg a):qD P w K mg base a 1 "at_most" a.e_20 ["listed","most"] ue:=by
 show W.e_20.pk (dh (F:=A0) W.e_20.F K1 λ_ _ _ _ _ _ b=>?_);unfold A0;show (aG (bK (bz yZ y0 (DE.db (fG ij ik rfl W.kz gX (cY (DE.db (dv 0)) dU))) (DE.db (dv 1))) (ax gz) bA)
 (ax (vD 0)))
def Bs(W:Wd K mg a)(c:bV K X4=ac)(b:mg "NoRow"=aa (.ref X4)):Pk P w K mg base (CX1 P w) 1 "at_most" a.e_20 ["listed","most"] (spR (K,a.cl) ["listed","most"].length X4 wQ):=by
 show W.e_20.pk (ll (r:=Gb) W.e_20.F K1 λ_ _ _ _ _ _ d=>?_);unfold Gb;show(bo (gh (DT.dtx (bz yZ y0 (DE.db (fG ij ik rfl W.kz gX (cY (DE.db (dv 0)) dU))) (DE.db (dv 1)))) (bo (jE c rfl jD rfl b (ai (ka (gS (j9 (dv 1) (gS j8)))) au))) gD))
def Bt(W:Wd K mg a):eY P w K mg base a 6 "read_for" a.e_13 ["self"] n6:=by
 show W.e_13.pk W.h6 (eX (F:=wR) W.e_13.F La λ_ _ _ _ _ _ b=>?_);unfold wR;show(ax (dO (qL (eI (bL (pv 0) (f7 W) b (aC (DE.dx aq) aJ))) (qH (Br W) b (aC (aK (pv 0) (Bq W) b) (aC (DE.dx am) aJ))) (DE.dx (DO.de (cv au))))))
def Gv(W:Wd K mg a)(d:bV K X4=ac)(c:mg "NoRow"=aa (.ref X4)):fR P w K mg base a 6 "read_for" a.e_13 ["self"] X4 uf:=by
 show W.e_13.pk W.h6 (fO (r:=A1) W.e_13.F La λ_ _ _ _ _ _ b=>?_);unfold A1;show(bo (gg (tJ (eI (bL (pv 0) (f7 W) b (aC (DE.dx aq) aJ))) (jF (Bs W d c) bj b (aC (aK (pv 0) (Bq W) b) (aC (DE.dx am) aJ)) (fQ (bW (pv 0) (LF W d c) bj b))) gC)))
def xt(W:Wd K mg a):qD P w K mg base a 2 "is_number" a.e_45 ["word"] rA:=by
 show W.e_45.pk (dh (F:=A2) W.e_45.F KU λ_ _ _ _ _ _ b=>?_);have c:=b.units;unfold A2;show (aG (bK (bz (cx c) cT (DE.db (dv 0)) (DE.db aq)) (ax (dM mz)) bA)
 (aG (bI 1 KU.nd (yW (gc (DE.db (JW (bU jT Hy Hz JV (DE.pe (dv 0)) (bD (DE.pe aq) bM))))) (Ek (dv 0) (lS am) nJ) (dv 0)))
 (ax (dM (qv (aV (Bo W) b (ai (dv 1) (ai (zO rfl W.lm) (ai am au)))) (qu (IU (JW (bU jT Hy Hz JV (DE.pe (dv 1)) (bD (DE.pe aq) bM))))))))))
def pX(W:Wd K mg a):eY P w K mg base a 3 "read_number" a.e_9 ["self"] m_9:=by
 show W.e_9.pk W.h6 (eX (F:=b_9) W.e_9.F Aq λ_ _ _ _ _ _ b=>?_);unfold b_9;show (aG (di 1 Aq.nd (aK (pv 0) (mV W) b))
 (aG (bK (i8 (gc (DE.db (aV (xt W) b (ai (dv 1) au))))) (ax gz) bA)
 (ax (iq (Sm rfl W.lr (dv 1))))))
def Bu(W:Wd K mg a)(d:bV K X4=ac)(c:mg "NoRow"=aa (.ref X4)):fR P w K mg base a 3 "read_number" a.e_9 ["self"] X4 r_9:=by
 show W.e_9.pk W.h6 (fO (r:=Gd) W.e_9.F Aq λ_ _ _ _ _ _ b=>?_);unfold Gd;show (bQ (di 1 Aq.nd (aK (pv 0) (mV W) b)) kc
 (bo (gh (DT.dtx (i8 (gc (DE.db (aV (xt W) b (ai (dv 1) au)))))) (bo (jE d rfl jD rfl c (ai (ka (z4 (dv 1) (gS j8))) au))) gD)))
def pY(W:Wd K mg a):eY P w K mg base a 4 "read_arg" a.e_6 ["self"] m_6:=by
 show W.e_6.pk W.h6 (eX (F:=b_6) W.e_6.F K6 λ_ _ _ _ _ _ b=>?_);unfold b_6;show(ax (dO (qL (eI (qH (rO W) b (aC (bL (pv 0) (iN W) b (aC (DE.dx am) aJ)) aJ))) (aK (pv 0) (Gu W) b) (aK (pv 0) (lv W) b))))
def Bv(W:Wd K mg a)(d:bV K X4=ac)(c:mg "NoRow"=aa (.ref X4)):fR P w K mg base a 4 "read_arg" a.e_6 ["self"] X4 r_6:=by
 show W.e_6.pk W.h6 (fO (r:=A3) W.e_6.F K6 λ_ _ _ _ _ _ b=>?_);unfold A3;show(bo (gg (tJ (eI (qH (rO W) b (aC (bL (pv 0) (iN W) b (aC (DE.dx am) aJ)) aJ))) (bW (pv 0) (LB W d c) bj b) (bW (pv 0) (uw W d c) bj b))))
def Up(W:Wd K mg a):eY P w K mg base a 5 "read_args" a.e_25 ["self"] A4:=by
 show W.e_25.pk W.h6 (eX (F:=rB) W.e_25.F wq λ_ _ _ _ _ _ b=>?_);unfold rB;show (aG (mJ 1 wq.nd (aK (pv 0) (pY W) b))
 (aG (qM 1000000000 iH (eI (bL (pv 0) (f7 W) b (aC (DE.dx aq) aJ))) (ax (lg (cG (bU c9 dF dG dJ (pv 1) (bD (DX.pe (aK (pv 0) (pY W) b)) bM))))))
 (aG (j4 (bL (pv 0) (lu W) b (aC (DE.dx aq) aJ)))
 (ax (sY 1 (iq (aV (Br W) b (ai (dv 1) (ai am au)))))))))
def Uq(W:Wd K mg a)(d:bV K X4=ac)(c:mg "NoRow"=aa (.ref X4)):fR P w K mg base a 5 "read_args" a.e_25 ["self"] X4 Ge:=by
 show W.e_25.pk W.h6 (fO (r:=wS) W.e_25.F wq λ_ _ _ _ _ _ b=>?_);unfold wS;show (bQ (mJ 1 wq.nd (aK (pv 0) (pY W) b)) (jk 1 wq.nd (vZ (fQ (bW (pv 0) (Bv W d c) bj b))))
 (bQ (qM 1000000000 lI (eI (bL (pv 0) (f7 W) b (aC (DE.dx aq) aJ))) (ax (lg (cG (bU c9 dF dG dJ (pv 1) (bD (DX.pe (aK (pv 0) (pY W) b)) bM)))))) (wa 1000000000 lI (eI (bL (pv 0) (f7 W) b (aC (DE.dx aq) aJ))) (ax (lg (cG (bU c9 dF dG dJ (pv 1) (bD (DX.pe (aK (pv 0) (pY W) b)) bM))))) (bo (wb (cG (bU c9 dF dG dJ (pv 1) (fQ (bW (pv 0) (Bv W d c) bj b)))))))
 (bQ (j4 (bL (pv 0) (lu W) b (aC (DE.dx aq) aJ))) (iK (tL (pv 0) (uv W d c) bj b (aC (DE.dx aq) aJ)))
 (bo (z6 1 (gg (jF (Bs W d c) bj b (aC (DE.dx (dv 1)) (aC (DE.dx am) aJ)) lj)))))))
def rP(W:Wd K mg a):eY P w K mg base a 6 "read_thing" a.e_2 ["self"] m_2:=by
 show W.e_2.pk W.h6 (eX (F:=b_2) W.e_2.F wo λ_ _ _ _ _ _ b=>?_);unfold b_2;show (aG (di 1 wo.nd (aK (pv 0) (lv W) b))
 (ax (dO (jB (aC (DE.dx (dv 1)) (aC (qL (eI (bL (pv 0) (f7 W) b (aC (DE.dx aq) aJ))) (aK (pv 0) (Up W) b) (DE.dx (DO.de (cv au)))) aJ))))))
def Bw(W:Wd K mg a)(d:bV K X4=ac)(c:mg "NoRow"=aa (.ref X4)):fR P w K mg base a 6 "read_thing" a.e_2 ["self"] X4 r_2:=by
 show W.e_2.pk W.h6 (fO (r:=rC) W.e_2.F wo λ_ _ _ _ _ _ b=>?_);unfold rC;show (bQ (di 1 wo.nd (aK (pv 0) (lv W) b)) (jk 1 wo.nd (bW (pv 0) (uw W d c) bj b))
 (bo (gg (l5 (fZ (DE.dx (dv 1)) gC (fQ (tJ (eI (bL (pv 0) (f7 W) b (aC (DE.dx aq) aJ))) (bW (pv 0) (Uq W d c) bj b) gC)))))))
def Bx(W:Wd K mg a):eY P w K mg base a 7 "read_item" a.e_23 ["self"] ug:=by
 show W.e_23.pk W.h6 (eX (F:=A5) W.e_23.F ww λ_ _ _ _ _ _ b=>?_);unfold A5;show (aG (di 1 ww.nd (qL (eI (qH (xt W) b (aC (bL (pv 0) (iN W) b (aC (DE.dx am) aJ)) aJ))) (aK (pv 0) (pX W) b) (DE.dx am)))
 (aG (bK (bz jw jx (DE.db (dv 1)) (DE.db am)) (ax gz) bA)
 (ax (dO (jB (aC (aK (pv 0) (rP W) b) (aC (DE.dx (dv 1)) aJ)))))))
def LG(W:Wd K mg a)(d:bV K X4=ac)(c:mg "NoRow"=aa (.ref X4)):fR P w K mg base a 7 "read_item" a.e_23 ["self"] X4 Gg:=by
 show W.e_23.pk W.h6 (fO (r:=Gf) W.e_23.F ww λ_ _ _ _ _ _ b=>?_);unfold Gf;show (bQ (di 1 ww.nd (qL (eI (qH (xt W) b (aC (bL (pv 0) (iN W) b (aC (DE.dx am) aJ)) aJ))) (aK (pv 0) (pX W) b) (DE.dx am))) (jk 1 ww.nd (tJ (eI (qH (xt W) b (aC (bL (pv 0) (iN W) b (aC (DE.dx am) aJ)) aJ))) (bW (pv 0) (Bu W d c) bj b) gC))
 (bQ (bK (bz jw jx (DE.db (dv 1)) (DE.db am)) (ax gz) bA) (gh (DT.dtx (bz jw jx (DE.db (dv 1)) (DE.db am))) (bo (jE d rfl jD rfl c (ai aq au))) gD)
 (bo (gg (l5 (fQ (bW (pv 0) (Bw W d c) bj b)))))))
def By(W:Wd K mg a):eY P w K mg base a 8 "read_items" a.e_22 ["self"] uh:=by
 show W.e_22.pk W.h6 (eX (F:=A6) W.e_22.F wv λ_ _ _ _ _ _ b=>?_);unfold A6;show (aG (mJ 1 wv.nd (aK (pv 0) (Bx W) b))
 (aG (qM 1000000000 iH (eI (bL (pv 0) (f7 W) b (aC (DE.dx aq) aJ))) (ax (lg (cG (bU c9 dF dG dJ (pv 1) (bD (DX.pe (aK (pv 0) (Bx W) b)) bM))))))
 (ax (sY 1 (iq (dv 1))))))
def LH(W:Wd K mg a)(d:bV K X4=ac)(c:mg "NoRow"=aa (.ref X4)):fR P w K mg base a 8 "read_items" a.e_22 ["self"] X4 Gi:=by
 show W.e_22.pk W.h6 (fO (r:=Gh) W.e_22.F wv λ_ _ _ _ _ _ b=>?_);unfold Gh;show (bQ (mJ 1 wv.nd (aK (pv 0) (Bx W) b)) (jk 1 wv.nd (vZ (fQ (bW (pv 0) (LG W d c) bj b))))
 (bo (wa 1000000000 lI (eI (bL (pv 0) (f7 W) b (aC (DE.dx aq) aJ))) (ax (lg (cG (bU c9 dF dG dJ (pv 1) (bD (DX.pe (aK (pv 0) (Bx W) b)) bM))))) (bo (wb (cG (bU c9 dF dG dJ (pv 1) (fQ (bW (pv 0) (LG W d c) bj b)))))))))
def Gw(W:Wd K mg a):eY P w K mg base a 6 "read_over" a.e_29 ["self"] wT:=by
 show W.e_29.pk W.h6 (eX (F:=A7) W.e_29.F K9 λ_ _ _ _ _ _ b=>?_);unfold A7;show(ax (dO (qL (eI (bL (pv 0) (f7 W) b (aC (DE.dx aq) aJ))) (qH (Br W) b (aC (aK (pv 0) (Bq W) b) (aC (DE.dx am) aJ))) (DE.dx (DO.de (cv au))))))
def LI(W:Wd K mg a)(d:bV K X4=ac)(c:mg "NoRow"=aa (.ref X4)):fR P w K mg base a 6 "read_over" a.e_29 ["self"] X4 Gk:=by
 show W.e_29.pk W.h6 (fO (r:=Gj) W.e_29.F K9 λ_ _ _ _ _ _ b=>?_);unfold Gj;show(bo (gg (tJ (eI (bL (pv 0) (f7 W) b (aC (DE.dx aq) aJ))) (jF (Bs W d c) bj b (aC (aK (pv 0) (Bq W) b) (aC (DE.dx am) aJ)) (fQ (bW (pv 0) (LF W d c) bj b))) gC)))
def LJ(W:Wd K mg a):eY P w K mg base a 9 "read_count" a.e_28 ["self"] A9:=by
 show W.e_28.pk W.h6 (eX (F:=A8) W.e_28.F qX λ_ _ _ _ _ _ b=>?_);unfold A8;show (aG (di 1 qX.nd (aK (pv 0) (mV W) b))
 (aG (di 2 qX.nd (aK (pv 0) (pX W) b))
 (aG (j4 (bL (pv 0) (lu W) b (aC (DE.dx aq) aJ)))
 (ax (dO (jB (aC (DE.dx (dv 1)) (aC (DE.dx (dv 2)) (aC (aK (pv 0) (By W) b) (aC (aK (pv 0) (Gw W) b) aJ))))))))))
def Ur(W:Wd K mg a)(d:bV K X4=ac)(c:mg "NoRow"=aa (.ref X4)):fR P w K mg base a 9 "read_count" a.e_28 ["self"] X4 Ld:=by
 show W.e_28.pk W.h6 (fO (r:=Gm) W.e_28.F qX λ_ _ _ _ _ _ b=>?_);unfold Gm;show (bQ (di 1 qX.nd (aK (pv 0) (mV W) b)) kc
 (bQ (di 2 qX.nd (aK (pv 0) (pX W) b)) (jk 2 qX.nd (bW (pv 0) (Bu W d c) bj b))
 (bQ (j4 (bL (pv 0) (lu W) b (aC (DE.dx aq) aJ))) (iK (tL (pv 0) (uv W d c) bj b (aC (DE.dx aq) aJ)))
 (bo (gg (l5 (fZ (DE.dx (dv 1)) gC (fZ (DE.dx (dv 2)) gC (fZ (aK (pv 0) (By W) b) (bW (pv 0) (LH W d c) bj b) (fQ (bW (pv 0) (LI W d c) bj b)))))))))))
def LK(W:Wd K mg a):eY P w K mg base a 5 "read_unlike" a.e_32 ["self"] Bb:=by
 show W.e_32.pk W.h6 (eX (F:=Ba) W.e_32.F wu λ_ _ _ _ _ _ b=>?_);unfold Ba;show (aG (di 1 wu.nd (aK (pv 0) (pY W) b))
 (aG (j4 (bL (pv 0) (lu W) b (aC (DE.dx aq) aJ)))
 (ax (dO (jB (aC (DE.dx aq) (aC (DE.dx (dv 1)) (aC (aK (pv 0) (pY W) b) aJ))))))))
def Ut(W:Wd K mg a)(d:bV K X4=ac)(c:mg "NoRow"=aa (.ref X4)):fR P w K mg base a 5 "read_unlike" a.e_32 ["self"] X4 Le:=by
 show W.e_32.pk W.h6 (fO (r:=Gn) W.e_32.F wu λ_ _ _ _ _ _ b=>?_);unfold Gn;show (bQ (di 1 wu.nd (aK (pv 0) (pY W) b)) (jk 1 wu.nd (bW (pv 0) (Bv W d c) bj b))
 (bQ (j4 (bL (pv 0) (lu W) b (aC (DE.dx aq) aJ))) (iK (tL (pv 0) (uv W d c) bj b (aC (DE.dx aq) aJ)))
 (bo (gg (l5 (fZ (DE.dx aq) gC (fZ (DE.dx (dv 1)) gC (fQ (bW (pv 0) (Bv W d c) bj b)))))))))
def Bz(W:Wd K mg a):eY P w K mg base a 10 "read_part" a.e_21 ["self"] rE:=by
 show W.e_21.pk W.h6 (eX (F:=wU) W.e_21.F K8 λ_ _ _ _ _ _ b=>?_);have c:=b.units;unfold wU;show (aG (pi (eI (bL (pv 0) (f7 W) b (aC (DE.dx aq) aJ))) (ax (dO (jB (aC (DE.dx aq) (aC (aK (pv 0) (rP W) b) aJ))))) bA)
 (aG (pi (mH kU (bL (pv 0) (iN W) b (aC (DE.dx am) aJ)) (DE.dx (fg (ai aq (ai aq au))))) (ax (dO (aK (pv 0) (LJ W) b))) bA)
 (aG (pi (mH (cx c) (bL (pv 0) (iN W) b (aC (DE.dx am) aJ)) (DE.dx aq)) (ax (dO (aK (pv 0) (LK W) b))) bA)
 (ax (dO (jB (aC (DE.dx aq) (aC (aK (pv 0) (rP W) b) aJ))))))))
def LM(W:Wd K mg a)(d:bV K X4=ac)(c:mg "NoRow"=aa (.ref X4)):fR P w K mg base a 10 "read_part" a.e_21 ["self"] X4 Bd:=by
 show W.e_21.pk W.h6 (fO (r:=Bc) W.e_21.F K8 λ_ _ _ _ _ _ b=>?_);have e:=b.units;unfold Bc;show (bQ (pi (eI (bL (pv 0) (f7 W) b (aC (DE.dx aq) aJ))) (ax (dO (jB (aC (DE.dx aq) (aC (aK (pv 0) (rP W) b) aJ))))) bA) (gh (eI (bL (pv 0) (f7 W) b (aC (DE.dx aq) aJ))) (bo (gg (l5 (fZ (DE.dx aq) gC (fQ (bW (pv 0) (Bw W d c) bj b)))))) gD)
 (bQ (pi (mH kU (bL (pv 0) (iN W) b (aC (DE.dx am) aJ)) (DE.dx (fg (ai aq (ai aq au))))) (ax (dO (aK (pv 0) (LJ W) b))) bA) (gh (mH kU (bL (pv 0) (iN W) b (aC (DE.dx am) aJ)) (DE.dx (fg (ai aq (ai aq au))))) (bo (gg (bW (pv 0) (Ur W d c) bj b))) gD)
 (bQ (pi (mH (cx e) (bL (pv 0) (iN W) b (aC (DE.dx am) aJ)) (DE.dx aq)) (ax (dO (aK (pv 0) (LK W) b))) bA) (gh (mH (cx e) (bL (pv 0) (iN W) b (aC (DE.dx am) aJ)) (DE.dx aq)) (bo (gg (bW (pv 0) (Ut W d c) bj b))) gD)
 (bo (gg (l5 (fZ (DE.dx aq) gC (fQ (bW (pv 0) (Bw W d c) bj b)))))))))
def Gy(W:Wd K mg a):eY P w K mg base a 11 "read_body" a.e_15 ["self"] ui:=by
 show W.e_15.pk W.h6 (eX (F:=rF) W.e_15.F wt λ_ _ _ _ _ _ b=>?_);unfold rF;show (aG (mJ 1 wt.nd (aK (pv 0) (Bz W) b))
 (aG (qM 1000000000 iH (eI (bL (pv 0) (f7 W) b (aC (DE.dx aq) aJ))) (ax (lg (cG (bU c9 dF dG dJ (pv 1) (bD (DX.pe (aK (pv 0) (Bz W) b)) bM))))))
 (ax (sY 1 (iq (dv 1))))))
def LO(W:Wd K mg a)(d:bV K X4=ac)(c:mg "NoRow"=aa (.ref X4)):fR P w K mg base a 11 "read_body" a.e_15 ["self"] X4 Be:=by
 show W.e_15.pk W.h6 (fO (r:=wV) W.e_15.F wt λ_ _ _ _ _ _ b=>?_);unfold wV;show (bQ (mJ 1 wt.nd (aK (pv 0) (Bz W) b)) (jk 1 wt.nd (vZ (fQ (bW (pv 0) (LM W d c) bj b))))
 (bo (wa 1000000000 lI (eI (bL (pv 0) (f7 W) b (aC (DE.dx aq) aJ))) (ax (lg (cG (bU c9 dF dG dJ (pv 1) (bD (DX.pe (aK (pv 0) (Bz W) b)) bM))))) (bo (wb (cG (bU c9 dF dG dJ (pv 1) (fQ (bW (pv 0) (LM W d c) bj b)))))))))
def xu(W:Wd K mg a):eY P w K mg base a 12 "read_if" a.e_12 ["self"] mU:=by
 show W.e_12.pk W.h6 (eX (F:=wW) W.e_12.F K7 λ_ _ _ _ _ _ b=>?_);unfold wW;show(ax (dO (qL (eI (bL (pv 0) (f7 W) b (aC (DE.dx aq) aJ))) (aK (pv 0) (Gy W) b) (DE.dx (DO.de (cv au))))))
def LP(W:Wd K mg a)(d:bV K X4=ac)(c:mg "NoRow"=aa (.ref X4)):fR P w K mg base a 12 "read_if" a.e_12 ["self"] X4 wZ:=by
 show W.e_12.pk W.h6 (fO (r:=Bf) W.e_12.F K7 λ_ _ _ _ _ _ b=>?_);unfold Bf;show(bo (gg (tJ (eI (bL (pv 0) (f7 W) b (aC (DE.dx aq) aJ))) (bW (pv 0) (LO W d c) bj b) gC)))
def LQ(W:Wd K mg a):eY P w K mg base a 13 "read_choose" a.e_17 ["self"] uj:=by
 show W.e_17.pk W.h6 (eX (F:=w5) W.e_17.F pQ λ_ _ _ _ _ _ b=>?_);unfold w5;show (aG (di 1 pQ.nd (aK (pv 0) (pX W) b))
 (aG (j4 (bL (pv 0) (lu W) b (aC (DE.dx aq) aJ)))
 (aG (di 2 pQ.nd (aK (pv 0) (pX W) b))
 (aG (j4 (bL (pv 0) (lu W) b (aC (DE.dx aq) aJ)))
 (ax (dO (jB (aC (DE.dx aq) (aC (DE.dx (dv 1)) (aC (DE.dx (dv 2)) (aC (aK (pv 0) (By W) b) (aC (aK (pv 0) (Gw W) b) (aC (aK (pv 0) (xu W) b) (aC (aK (pv 0) (Bt W) b) aJ))))))))))))))
def Uu(W:Wd K mg a)(d:bV K X4=ac)(c:mg "NoRow"=aa (.ref X4)):fR P w K mg base a 13 "read_choose" a.e_17 ["self"] X4 Bg:=by
 show W.e_17.pk W.h6 (fO (r:=w6) W.e_17.F pQ λ_ _ _ _ _ _ b=>?_);unfold w6;show (bQ (di 1 pQ.nd (aK (pv 0) (pX W) b)) (jk 1 pQ.nd (bW (pv 0) (Bu W d c) bj b))
 (bQ (j4 (bL (pv 0) (lu W) b (aC (DE.dx aq) aJ))) (iK (tL (pv 0) (uv W d c) bj b (aC (DE.dx aq) aJ)))
 (bQ (di 2 pQ.nd (aK (pv 0) (pX W) b)) (jk 2 pQ.nd (bW (pv 0) (Bu W d c) bj b))
 (bQ (j4 (bL (pv 0) (lu W) b (aC (DE.dx aq) aJ))) (iK (tL (pv 0) (uv W d c) bj b (aC (DE.dx aq) aJ)))
 (bo (gg (l5 (fZ (DE.dx aq) gC (fZ (DE.dx (dv 1)) gC (fZ (DE.dx (dv 2)) gC (fZ (aK (pv 0) (By W) b) (bW (pv 0) (LH W d c) bj b) (fZ (aK (pv 0) (Gw W) b) (bW (pv 0) (LI W d c) bj b) (fZ (aK (pv 0) (xu W) b) (bW (pv 0) (LP W d c) bj b) (fQ (bW (pv 0) (Gv W d c) bj b)))))))))))))))
def LR(W:Wd K mg a):eY P w K mg base a 4 "read_names" a.e_24 ["self"] uk:=by
 show W.e_24.pk W.h6 (eX (F:=w9) W.e_24.F wn λ_ _ _ _ _ _ b=>?_);have c:=b.units;unfold w9;show (aG (mJ 1 wn.nd (aK (pv 0) (lv W) b))
 (aG (qM 1000000000 iH (mH (nH c) (bL (pv 0) (iN W) b (aC (DE.dx am) aJ)) (DE.dx aq)) (ax (lg (cG (bU c9 dF dG dJ (pv 1) (bD (DX.pe (aK (pv 0) (lv W) b)) bM))))))
 (ax (sY 1 (iq (aV (Br W) b (ai (dv 1) (ai am au))))))))
def Uv(W:Wd K mg a)(d:bV K X4=ac)(c:mg "NoRow"=aa (.ref X4)):fR P w K mg base a 4 "read_names" a.e_24 ["self"] X4 Go:=by
 show W.e_24.pk W.h6 (fO (r:=Bh) W.e_24.F wn λ_ _ _ _ _ _ b=>?_);have e:=b.units;unfold Bh;show (bQ (mJ 1 wn.nd (aK (pv 0) (lv W) b)) (jk 1 wn.nd (vZ (fQ (bW (pv 0) (uw W d c) bj b))))
 (bQ (qM 1000000000 lI (mH (nH e) (bL (pv 0) (iN W) b (aC (DE.dx am) aJ)) (DE.dx aq)) (ax (lg (cG (bU c9 dF dG dJ (pv 1) (bD (DX.pe (aK (pv 0) (lv W) b)) bM)))))) (wa 1000000000 lI (mH (nH e) (bL (pv 0) (iN W) b (aC (DE.dx am) aJ)) (DE.dx aq)) (ax (lg (cG (bU c9 dF dG dJ (pv 1) (bD (DX.pe (aK (pv 0) (lv W) b)) bM))))) (bo (wb (cG (bU c9 dF dG dJ (pv 1) (fQ (bW (pv 0) (uw W d c) bj b)))))))
 (bo (z6 1 (gg (jF (Bs W d c) bj b (aC (DE.dx (dv 1)) (aC (DE.dx am) aJ)) lj))))))
def LU(W:Wd K mg a):eY P w K mg base a 12 "read_never" a.e_11 ["self"] rG:=by
 show W.e_11.pk W.h6 (eX (F:=pU) W.e_11.F wm λ_ _ _ _ _ _ b=>?_);have c:=b.units;unfold pU;show (aG (di 1 wm.nd (aK (pv 0) (Gy W) b))
 (aG (bK (gc (DE.db (fG (tm rfl) tq rfl W.k8 boot_all (cY (DE.db (DO.de (gP 1 [] ["part"] rfl (DI.de (df (dv 1))) (λ_ _ _ _ _=>(dgc 0 1)) (λ_ _ _ _ _=>eW) (λ_ _ _ _ _=>(kP (cx c) cT (DE.db (aN (vC 0) am)) (DE.db aq)))))) dU)))) (ax gz) bA)
 (ax (dO (jB (aC (DE.dx aq) (aC (DE.dx (dv 1)) (aC (aK (pv 0) (Bt W) b) aJ))))))))
def Uw(W:Wd K mg a)(d:bV K X4=ac)(c:mg "NoRow"=aa (.ref X4)):fR P w K mg base a 12 "read_never" a.e_11 ["self"] X4 xa:=by
 show W.e_11.pk W.h6 (fO (r:=rH) W.e_11.F wm λ_ _ _ _ _ _ b=>?_);have e:=b.units;unfold rH;show (bQ (di 1 wm.nd (aK (pv 0) (Gy W) b)) (jk 1 wm.nd (bW (pv 0) (LO W d c) bj b))
 (bQ (bK (gc (DE.db (fG (tm rfl) tq rfl W.k8 boot_all (cY (DE.db (DO.de (gP 1 [] ["part"] rfl (DI.de (df (dv 1))) (λ_ _ _ _ _=>(dgc 0 1)) (λ_ _ _ _ _=>eW) (λ_ _ _ _ _=>(kP (cx e) cT (DE.db (aN (vC 0) am)) (DE.db aq)))))) dU)))) (ax gz) bA) (gh (DT.dtx (gc (DE.db (fG (tm rfl) tq rfl W.k8 boot_all (cY (DE.db (DO.de (gP 1 [] ["part"] rfl (DI.de (df (dv 1))) (λ_ _ _ _ _=>(dgc 0 1)) (λ_ _ _ _ _=>eW) (λ_ _ _ _ _=>(kP (cx e) cT (DE.db (aN (vC 0) am)) (DE.db aq)))))) dU))))) (bo (jE d rfl jD rfl c (ai aq au))) gD)
 (bo (gg (l5 (fZ (DE.dx aq) gC (fZ (DE.dx (dv 1)) gC (fQ (bW (pv 0) (Gv W d c) bj b)))))))))
def LV(W:Wd K mg a):eY P w K mg base a 14 "read_form" a.e_14 ["self"] pV:=by
 show W.e_14.pk W.h6 (eX (F:=ul) W.e_14.F An λ_ _ _ _ _ _ b=>?_);have c:=b.units;unfold ul;show (aG (di 1 An.nd (aK (pv 0) (mV W) b))
 (aG (bK (bz (cx c) cT (DE.db (dv 1)) (DE.db aq)) (ax (dO (jB (aC (DE.dx aq) (aC (aK (pv 0) (lv W) b) (aC (aK (pv 0) (LR W) b) aJ)))))) bA)
 (aG (bK (bz kU nI (DE.db (dv 1)) (DE.db (fg (ai aq (ai aq au))))) (ax (dO (jB (aC (DE.dx (dv 1)) (aC (aK (pv 0) (rP W) b) (aC (aK (pv 0) (xu W) b) (aC (aK (pv 0) (Bt W) b) aJ))))))) bA)
 (aG (bK (bz (cx c) cT (DE.db (dv 1)) (DE.db aq)) (ax (dO (aK (pv 0) (LQ W) b))) bA)
 (aG (bK (bz (cx c) cT (DE.db (dv 1)) (DE.db aq)) (ax (dO (aK (pv 0) (LU W) b))) bA)
 (ax gz))))))
def Ux(W:Wd K mg a)(d:bV K X4=ac)(c:mg "NoRow"=aa (.ref X4)):fR P w K mg base a 14 "read_form" a.e_14 ["self"] X4 um:=by
 show W.e_14.pk W.h6 (fO (r:=xb) W.e_14.F An λ_ _ _ _ _ _ b=>?_);have e:=b.units;unfold xb;show (bQ (di 1 An.nd (aK (pv 0) (mV W) b)) kc
 (bQ (bK (bz (cx e) cT (DE.db (dv 1)) (DE.db aq)) (ax (dO (jB (aC (DE.dx aq) (aC (aK (pv 0) (lv W) b) (aC (aK (pv 0) (LR W) b) aJ)))))) bA) (gh (DT.dtx (bz (cx e) cT (DE.db (dv 1)) (DE.db aq))) (bo (gg (l5 (fZ (DE.dx aq) gC (fZ (aK (pv 0) (lv W) b) (bW (pv 0) (uw W d c) bj b) (fQ (bW (pv 0) (Uv W d c) bj b))))))) gD)
 (bQ (bK (bz kU nI (DE.db (dv 1)) (DE.db (fg (ai aq (ai aq au))))) (ax (dO (jB (aC (DE.dx (dv 1)) (aC (aK (pv 0) (rP W) b) (aC (aK (pv 0) (xu W) b) (aC (aK (pv 0) (Bt W) b) aJ))))))) bA) (gh (DT.dtx (bz kU nI (DE.db (dv 1)) (DE.db (fg (ai aq (ai aq au)))))) (bo (gg (l5 (fZ (DE.dx (dv 1)) gC (fZ (aK (pv 0) (rP W) b) (bW (pv 0) (Bw W d c) bj b) (fZ (aK (pv 0) (xu W) b) (bW (pv 0) (LP W d c) bj b) (fQ (bW (pv 0) (Gv W d c) bj b)))))))) gD)
 (bQ (bK (bz (cx e) cT (DE.db (dv 1)) (DE.db aq)) (ax (dO (aK (pv 0) (LQ W) b))) bA) (gh (DT.dtx (bz (cx e) cT (DE.db (dv 1)) (DE.db aq))) (bo (gg (bW (pv 0) (Uu W d c) bj b))) gD)
 (bQ (bK (bz (cx e) cT (DE.db (dv 1)) (DE.db aq)) (ax (dO (aK (pv 0) (LU W) b))) bA) (gh (DT.dtx (bz (cx e) cT (DE.db (dv 1)) (DE.db aq))) (bo (gg (bW (pv 0) (Uw W d c) bj b))) gD)
 (bo (jE d rfl jD rfl c (ai (ka (gS (z4 (dv 1) j8))) au))))))))
def LW(W:Wd K mg a):qD P w K mg base a 1 "words_of" a.e_52 ["line"] Bi:=by
 show W.e_52.pk (dh (F:=xc) W.e_52.F KT λ_ _ _ _ _ _ b=>?_);have c:=b.units;unfold xc;show (R7 1 2 iH rfl KT.nd rfl W.oi (dv 0)
 (ax (qy (gP 1 [] ["word"] rfl (DI.de (df (R9 (bU jT PySem.F.slot_str_split PySem.F.type_str_split R8 (DE.pe (dv 1)) (bD (DE.pe aq) bM))))) (λ_ _ _ _ _=>(dgc 0 1)) (λ_ _ _ _ _=>(QY (bz (nH c) vB (DE.db (dvc 0)) (DE.db aq)))) (λ_ _ _ _ _=>(dvc 0))))))
def LX(W:Wd K mg a):qD P w K mg base a 15 "read_row" a.e_3 ["line"] m_3:=by
 show W.e_3.pk (dh (F:=b_3) W.e_3.F qU λ_ _ _ _ _ _ c=>?_);unfold b_3;show (aG (Ka 1 "Reader" qU.nd W.k4 (Lz W).ok (c.mono (by decide)) rfl W.lk W.e_66.b (ai (aV (LW W) c (ai (dv 0) au)) au))
 (aG (di 2 qU.nd (Em (pv 1) (LV W) c))
 (aG (j4 (Em (pv 1) (Um W) c))
 (ax (vD 2)))))
def Uy(W:Wd K mg a)(e:bV K X4=ac)(d:mg "NoRow"=aa (.ref X4)):Pk P w K mg base (CX1 P w) 15 "read_row" a.e_3 ["line"] (spR (K,a.cl) ["line"].length X4 r_3):=by
 show W.e_3.pk (ll (r:=xf) W.e_3.F qU λ_ _ _ _ _ _ c=>?_);unfold xf;show (bQ (Ka 1 "Reader" qU.nd W.k4 (Lz W).ok (c.mono (by decide)) rfl W.lk W.e_66.b (ai (aV (LW W) c (ai (dv 0) au)) au)) kc
 (bQ (di 2 qU.nd (Em (pv 1) (LV W) c)) (jk 2 qU.nd (Kq (pv 1) (Ux W e d) bj c))
 (bo (iK (Kq (pv 1) (Uo W e d) bj c)))))
def Uz(W:Wd K mg a):FL P w K mg base a 16 "Desk" "tell" a.e_7 ["self","line"] m_7:=by
 show W.e_7.pk W.ko (vW (F:=b_7) W.e_7.F tV λ_ _ _ _ _ _ b=>?_);unfold b_7;show (aG (bI 2 tV.nd (aV (LX W) b (ai (dv 1) au)))
 (aG (jd (aV (Lw W) b (ai (DO.de (Ah (pw (tH "Desk" W.ko W.kg (gB (pv 0)))) (DO.dl (cv (ai (dv 2) au))))) au)))
 (aG (Kj (cG (bU c9 dF dG dJ (tH "Desk" W.ko W.kg (gB (pv 0))) (bD (DE.pe (dv 2)) bM))))
 (ax (iq (aO vz (fG ij ik rfl W.kz gX (cY (qN (tH "Desk" W.ko W.kg (gB (pv 0)))) dU)) am))))))
def UA(W:Wd K mg a)(c:bV K X4=ac)(b:mg "NoRow"=aa (.ref X4)):Pm P w K mg base (CX1 P w) 16 (a.cl "Desk") "tell" a.e_7 ["self","line"] (spR (K,a.cl) ["self","line"].length X4 r_7):=by
 show W.e_7.pk W.ko (ll (r:=xh) W.e_7.F tV λ_ _ _ _ _ _ d=>?_);unfold xh;show(bo (jk 2 tV.nd (jF (Uy W c b) bj d (aC (DE.dx (dv 1)) aJ) lj)))
def UB(W:Wd K mg a)(d:bV K X4=ac)(c:mg "BadName"=aa (.ref X4)):Pm P w K mg base (CX1 P w) 16 (a.cl "Desk") "tell" a.e_7 ["self","line"] (spR (K,a.cl) ["self","line"].length X4 xi):=by
 show W.e_7.pk W.ko (ll (r:=rJ) W.e_7.F tV λ_ _ _ _ _ _ b=>?_);unfold rJ;show (bQ (bI 2 tV.nd (aV (LX W) b (ai (dv 1) au))) kc
 (bo (iK (jF (Lx W d c) bj b (aC (DE.dx (DO.de (lW (sZ "Desk" W.ko W.kg (dv 0)) (DO.de (cv (ai (dv 2) au)))))) aJ) lj))))
def LY(W:Wd K mg a):Pk P w K mg base CX0 17 "_law_told" a.e_34 ["_law_desk","_law_line"] (mM (K,a.cl) ["_law_desk","_law_line"].length n8):=by
 show W.e_34.pk (vW (F:=uq) W.e_34.F pO λ_ _ _ _ _ _ c=>?_);unfold uq;show (aG (bI 2 pO.nd qr)
 (aG (bI 3 pO.nd aq)
 (aG (Aa (KD λ_ _=>di 2 pO.nd (Km "Desk" (pv 0) (Uz W) c (aC (DE.dx (dv 1)) aJ)))
  (Aa (Ak 0 "Desk" (λ_ _=>pv 0) W.ko W.e_7.m (UB W W.x_BadName W.kF).ok (c.mono (by decide)) W.e_7.b (λ_ _=>ai (dv 1) au) rfl rfl rfl W.x_BadName W.x_NoRow W.x_BadName rfl W.k6 rfl W.kF
    (.inr (KP W.mt_BadName_NoRow,z5 W.mt_BadName_BadName,rfl)) (λ_=>ax (bI 3 pO.nd aq)) (λ_=>ax (bI 3 pO.nd aq)))
   (Ak 0 "Desk" (λ_ _=>pv 0) W.ko W.e_7.m (UA W W.x_NoRow W.k6).ok (c.mono (by decide)) W.e_7.b (λ_ _=>ai (dv 1) au) rfl rfl rfl W.x_NoRow W.x_NoRow W.x_BadName rfl W.k6 rfl W.kF
    (.inl (z5 W.mt_NoRow_NoRow,rfl)) (λ_=>ax (bI 3 pO.nd aq)) (λ_=>ax (bI 3 pO.nd aq)))))
 (ax (iq (fg (ai (dv 3) (ai (dv 2) au))))))))
def Gz(W:Wd K mg a):Pk P w K mg base CX0 7 "_law_dropped" a.e_35 ["_law_desk","_law_number"] (mM (K,a.cl) ["_law_desk","_law_number"].length rK):=by
 show W.e_35.pk (vW (F:=ur) W.e_35.F pP λ_ _ _ _ _ _ c=>?_);unfold ur;show (aG (bI 2 pP.nd qr)
 (aG (bI 3 pP.nd aq)
 (aG (Aa (KD λ_ _=>di 2 pP.nd (Km "Desk" (pv 0) (Uh W) c (aC (DE.dx (dv 1)) aJ)))
  (Aa (Ak 0 "Desk" (λ_ _=>pv 0) W.ko W.e_8.m (Uj W W.x_BadName W.kF).ok (c.mono (by decide)) W.e_8.b (λ_ _=>ai (dv 1) au) rfl rfl rfl W.x_BadName W.x_NoRow W.x_BadName rfl W.k6 rfl W.kF
    (.inr (KP W.mt_BadName_NoRow,z5 W.mt_BadName_BadName,rfl)) (λ_=>ax (bI 3 pP.nd aq)) (λ_=>ax (bI 3 pP.nd aq)))
   (Ak 0 "Desk" (λ_ _=>pv 0) W.ko W.e_8.m (Ui W W.x_NoRow W.k6).ok (c.mono (by decide)) W.e_8.b (λ_ _=>ai (dv 1) au) rfl rfl rfl W.x_NoRow W.x_NoRow W.x_BadName rfl W.k6 rfl W.kF
    (.inl (z5 W.mt_NoRow_NoRow,rfl)) (λ_=>ax (bI 3 pP.nd aq)) (λ_=>ax (bI 3 pP.nd aq)))))
 (ax (iq (fg (ai (dv 3) (ai (dv 2) au))))))))
variable{U:LS}{i:Nat}
def ma.set{a:LS}{s:Sl}(h:ma a U)(hi:i=4\/7<=i):ma a (U.set i s):=by
 have(b,c,d,e,f,g):=h
 show(by rw[oE];show b,?_,?_,?_,?_,?_) <;> (rw[gH (by lia)];assumption)
def R0P(a:LS)(ch:Nat->Nat->Nat)(sz k X5:Nat)(U:LS):Prop:=ma a U/\(k=0\/0<X5)/\∃es,TxL X5 ((eQ k).map λk=>nmP ch k sz) es/\U[7]?=aa (.own es)
def R1P(a:LS)(ch:Nat->Nat->Nat)(sz k i X5:Nat)(U:LS):Prop:=ma a U/\0<X5/\U[4]?=aa (.im (.int (k:Nat)))/\(∃es,TxL X5 ((eQ k).map λk=>nmP ch k sz) es/\U[7]?=aa (.own es)) /\
 ∃d,U[8]?=aa (.im d)/\wkD d=.str (nmP ch k i)/\(i≠0->∃n,n<=X5/\d=.tx (nmP ch k i) n)
def UC(W:Wd K mg a):tN P w K mg base 2 a.e_37.1 a.e_37.2 ["_law_cell"] (Ae (K,a.cl) ["_law_cell"].length rL):=
 TC (k:=1) (N:=["_law_cell","_law_letters","_law_kept","_law_size","_law_k","_law_base","_law_at","_law_pool_here","_law_name","_law_i"]) 7 W.e_37.F kh λcdv A outer s H j zs Hf Q B hm hl hq=>by
  have hu:=B.units;have(g,sz,ch,b,e7,hL,h1,h3,h7,hs1,I,G,u,v,ez):=Lg hm;show HR.pre (P:=PD (K,a.cl) Hf H λ_ U=>ut U=aa (.nx g)) ?_ λ_ _ _ (L,U,so,e)=>(L,U,so,by rw[e];show e7);unfold ut;show nY (qS (bI 1 kh.nd aq)) ?_;show nY (qS (bI 2 kh.nd (DO.de (cv (ai aq (ai aq (ai aq (ai aq (ai aq (ai aq (ai aq (ai aq (ai aq (ai aq (ai aq (ai aq (ai aq (ai aq au)))))))))))))))))) ?_;show nY (qS (bI 2 kh.nd (DO.de (lW (dv 2) (DO.de (cv (ai aq (ai aq au)))))))) ?_;show nY (qS (bI 3 kh.nd (aO bN am (aO eB (aV (hJ W) B (ai (dv 0) (ai am au))) am)))) ?_;show nY (qS (sX 5 1 [0] ["_law_k","_law_cell"] kh.nd rfl (DI.de (D4 rfl W.kT (ai (dv 3) au))) (λ_ _ _ _ _=>(dgc 0 1)) (λ_ _ _ _ _=>eW) (λ_ _ _ _ _=>(aO eB (aV (hJ W) B (ai (dvc 1) (ai (aO bN am (dvc 0)) au))) am)))) ?_;show nY (qS (bI 6 kh.nd (aO eB (aV (hJ W) B (ai (dv 0) (ai am au))) (dv 3)))) ?_;show nY (qS (o8 7 kh.nd (cv au))) ?_;show nY (P':=PD _ Hf H (R0P g ch sz 6)) (KJ (X6:=4) (n:=6) (Rv:=R0P g ch sz) iH rfl rfl W.kT am (yE kh.nd rfl (cE rfl) (.inl rfl)) (λX5 U e=>?_) λk hk=>?_) ?_
  .cases (show aa (Fl.nx U)=aa (.nx g)from e);show(rfl,by decide,(hL,rfl,rfl,rfl,rfl,rfl),.inl rfl,[],TxL.nil,h7)
  .show wc (P':=PD _ Hf H (R1P g ch sz k 0)) (Tp (i:=8) kh.nd rfl (cE rfl) λX5 U x=>?_) ?_
   .have(y,(c,m,es,l,f),e):=x;subst e;show((c.set (.inl rfl)).set (.inr (by decide)),Nat.succ_pos X5,?_,(es,l.mono (m9 X5),?_),_,jq (by rw[oE,c.1];decide),rfl,λz=>absurd rfl z)
    .rw[gH (by decide),jq (by rw[c.1];decide)]
    .rw[gH (by decide),gH (by decide)];show f
   show wc (P':=PD _ Hf H (R1P g ch sz k sz)) (KJ (X6:=9) (n:=sz) (Rv:=R1P g ch sz k) iH rfl rfl W.kT (dv 3) (yE kh.nd rfl (cE rfl) (.inl rfl)) (λX5 U e=>(?_,by lia,e)) λi hi=>?_) ?_
   .change(match U[3]? with | _=>_)=_
    have:=e.1.2.2.2.1.trans h3;simp only[af,this]
   .show wc (Tj (i:=8) (jL:=1) kh.nd rfl (cE rfl) (pv 8) (pv 1) (aO eB (aO bN (aN (dvC 5) (dv 9)) (aO tw (dv 4) (RZ rfl W.lr (kP (cx hu) cT (DE.db (dv 9)) (DE.db (dv 6)))))) am) λX5 U (y,(c,m,h4,(es,l,f),d,C,Y,_),e)=>?_) Ez;subst e;have p:=c.set (s:=.im (.int (i:Nat))) (i:=9) (.inr (by decide));have r:(y.set 9 (.im (.int (i:Nat))))[4]?=aa (.im (.int (k:Nat))):=by rw[gH (by decide)];show h4
    have(M,ei,ea):=G _ p k hk i hi r (jq (by rw[c.1];decide));show(d,_,azS,M,ch k i,m,by rw[gH (by decide)];show C,Y,p.2.1.trans h1,ei,by decide,ea,?_,λT o=>(p.set (.inr (by decide)),dY m o,?_,(es,l.mono o,?_),_,jq (by rw[oE,c.1];decide),rfl,λ_=>(T,bu _,rfl)))
    .rw[v k i (by lia)];change i+1<=be;show cf (by lia) (show 101<=be by decide)
    .rw[gH (by decide)];show r
    .rw[gH (by decide),gH (by decide)];show f
   .show wc (KI (lU (cG (bU c9 dF dG dJ (pv 7) (bD (DE.pe (dv 8)) bM)))) λX5 U x=>?_) Ez;have(c,m,h4,(es,l,f),d,C,Y,hd):=x;have(n,hn,rfl):=hd (by lia);show(U.set 7 (.own (es++[.tx (nmP ch k sz) n])),?_,c.set (.inr (by decide)),.inr m,_,?_,jq (by rw[c.1];decide))
    .have hlen:es.length=k:=by
      have:=congrArg me l.wk
      simpa using this
     simp only[ip,af,C,f,aE];show if_pos (by lia)
    .rw[range_succ,fL];show l.snoc hn
  show nY (P':=PD _ Hf H λX5 U=>0<X5/\∃q,TxL X5 zs q/\U[7]?=aa (.own q)) (Tq (Ra:=λX5 U=>b=ac/\R0P g ch sz 6 X5 U) (t:=Bj) (gc (DE.db (fG (RF rfl) RG rfl W.ny boot_any (cY (DE.db (DO.de (gP 1 [2] ["_law_name","_law_kept"] rfl (Ji 7) (λ_ _ _ _ _=>(dgc 0 1)) (λ_ _ _ _ _=>eW) (λ_ _ _ _ _=>(kP kU nI (DE.db (Ab (dvc 0))) (DE.db (dvc 1))))))) dU)))) (λX5 U h=>?_) ?_) ?_
  .have(c,m,es,l,f):=h;show(b,u U X5 es c l f,λe=>(e,c,m,es,l,f),λe=>(by lia,es,?_,f));rw[ez,e];show l
  .show wc (Tn (i:=7) (w:="z") kh.nd rfl (cE rfl) rfl (by decide) (λ_ _ _ _ _=>pgc 0) (λ_ _ _ _ _=>pvc 0) (pv 7) λX5 U x=>?_) Ez;have(E,c,m,es,l,f):=x;show(es,jG ch sz,by lia,f,l.wk,(by change((eQ 6).map _).length<=1000;rw[bh,m7];decide),λz hz=>?_,λT o=>(by lia,_,?_,jq (by rw[c.1];decide)))
   .have(k,_,rfl):=iW.1 hz;rw[v k sz I];show cf (show sz+1<=101 by lia) (by decide)
   .rw[ez,E];show TxL.same
  .show Tr (pv 7) λX5 J H' h=>hq X5 J H' h
def UD(W:Wd K mg a)(X5:Nat):mR X5 P w K mg base CX0 2 a.e_38.1 a.e_38.2 ["_law_cell","_law_pool_here"] (spD (K,a.cl) ["_law_cell","_law_pool_here"].length (xj X5)):=
 Tg (k:=1) (N:=["_law_cell","_law_pool_here","_law_name","_law_one","_law_other","_law_number","_law_told_here","_law_row","_law_typed"]) (F:=Bk X5) W.e_38.F mS λcdv A outer s H X2 b=>have d:=b.units;by
  unfold Bk;show eM (fI (bI 2 mS.nd (aN (dvC 1) (aO eB (aV (hJ W) b (ai (dv 0) (ai am au))) am)))) ?_;show eM (fI (bI 3 mS.nd (aN (dvC 1) (aO eB (aV (hJ W) b (ai (dv 0) (ai am au))) am)))) ?_;show eM (fI (bI 4 mS.nd (aN (dvC 1) (aO eB (aV (hJ W) b (ai (dv 0) (ai am au))) am)))) ?_;show TD 5 rfl W.lb (aO bN (aO eB (aV (hJ W) b (ai (dv 0) (ai am au))) am) (aO eB (dv 0) (aO IV am am))) (λe c=>?_) mS.nd;show eM (fI (o8 6 mS.nd (cv (ai aq (ai aq au))))) ?_;show eM (fI (lU (cG (bU c9 dF dG dJ (pv 6) (bD (DE.pe aq) bM))))) ?_;show eM (fI (lU (cG (bU c9 dF dG dJ (pv 6) (bD (DE.pe aq) bM))))) ?_;show eM (fI (lU (cG (bU c9 dF dG dJ (pv 6) (bD (DE.pe aq) bM))))) ?_;show eM (fI (lU (cG (bU c9 dF dG dJ (pv 6) (bD (DE.pe aq) bM))))) ?_;show eM (Ac 7 mS.nd (Ad 4 (Ad 3 (EB (aN (dvC 6) (aO eB (aV (hJ W) b (ai (dv 0) (ai am au))) am))) (pv 3)) (pv 4))) ?_;show eM (Ac 7 mS.nd (Ad 5 (Ad 2 (EB (dv 7)) (pv 2)) (pv 5))) ?_;show eM (fI (bI 8 mS.nd (dv 7))) ?_
  show eM (TH (bz (cx d) cT (DE.db (aO eB (aV (hJ W) b (ai (dv 0) (ai am au))) am)) (DE.db am))
   (wf (Ac 8 mS.nd (TK bN aq (EE (EE (EE (EB (dv 7)))))))) (KH bA)) ?_
  show wf (fI (dM (fg (ai (dv 8) (ai (dv 7) (ai aq (ai (Ab (dv 2)) (ai mz au))))))))
def UE(W:Wd K mg a)(X5:Nat):mR X5 P w K mg base CX0 19 a.e_33.1 a.e_33.2 ["_law_desk","_law_rows","_law_cell","_law_pool_here"] (Aj (K,a.cl) ["_law_desk","_law_rows","_law_cell","_law_pool_here"].length (rM X5)):=
 Tv (k:=18) (N:=["_law_desk","_law_rows","_law_cell","_law_pool_here","_law_sort","_law_number","_law_others","_law_row","_law_found"]) (F:=pW X5) W.e_33.F qW λcdv A outer s H X2 c=>have d:=c.units;by
  unfold pW uu;show eM (fI (bI 4 qW.nd (aO eB (aV (hJ W) c (ai (dv 2) (ai am au))) am))) ?_;show eM (fI (bK (bz (cx d) cT (DE.db (dv 4)) (DE.db am)) (ax (dO (zW (cx d) (wg (LY W) c (pv 0) (aC (DE.dx (aV (Ul W) c (ai (dv 2) (ai (dv 3) au)))) aJ)) (DE.dx (fg (ai aq (ai qr au))))))) bA)) ?_
  show eM (fI (bK (bz yZ y0 (DE.db (dv 4)) (DE.db am)) (aG (bI 5 qW.nd (aO vz (aO eB (aV (hJ W) c (ai (dv 2) (ai am au))) (aO bN (fG ij ik rfl W.kz gX (cY (qN (gB (pv 1))) dU)) am)) am))
   (aG (bK (i8 (zw sP sQ jw jx (DE.db am) (DE.db (dv 5)) (DE.db (fG ij ik rfl W.kz gX (cY (qN (gB (pv 1))) dU))))) (ax (dO (zW (cx d) (wg (Gz W) c (pv 0) (aC (DE.dx (dv 5)) aJ)) (DE.dx (fg (ai aq (ai qr au))))))) bA)
   (aG (bI 6 qW.nd (DO.de (Ah (DO.dl (Ag (pw (gB (pv 1))) nJ (lS (dv 5)))) (DO.dl (Ag (pw (gB (pv 1))) (lS (aO bN (dv 5) am)) nJ)))))
   (aG (bK (i8 (gc (DE.db (aV (Ly W) c (ai (dv 6) au))))) (ax (dO (zW (cx d) (wg (Gz W) c (pv 0) (aC (DE.dx (dv 5)) aJ)) (DE.dx (fg (ai aq (ai qr au))))))) bA)
   (aG (TL (cG (bU c9 PySem.F.slot_list_pop PySem.F.type_list_pop Qz (gB (pv 1)) (bD (DE.pe (dv 5)) bM))))
   (ax (dO (zW (cx d) (wg (Gz W) c (pv 0) (aC (DE.dx (dv 5)) aJ)) (DE.dx (fg (ai aq (ai qr au)))))))))))) bA)) ?_
  show eM (Ac 7 qW.nd (Tf (UD W X5) (c.mono (by decide)) rfl W.e_38.g W.e_38.F.kp W.e_38.b (ai (dv 2) (ai (dv 3) au)))) ?_;show eM (fI (bK (bz jw jx (DE.db (dv 4)) (DE.db am)) (ax (bI 7 qW.nd (aV (Uk W) c (ai (dv 2) (ai (dv 3) au))))) bA)) ?_;show eM (fI (di 8 qW.nd (wg (LY W) c (pv 0) (aC (DE.dx (aN (dvC 7) am)) aJ)))) ?_;show eM (fI (bK (i8 (gc (DE.db (aV (Ly W) c (ai (DO.de (Ah (pw (gB (pv 1))) (DO.dl (cv (ai (dv 7) au))))) au))))) (ax (iq (kP (cx d) cT (DE.db (dv 8)) (DE.db (fg (ai aq (ai qr au))))))) bA)) ?_;show eM (fI (Kj (cG (bU c9 dF dG dJ (gB (pv 1)) (bD (DE.pe (dv 7)) bM))))) ?_;show wf (fI (iq (qv (kP (cx d) cT (DE.db (dv 8)) (DE.db (fg (ai aq (ai (aO vz (fG ij ik rfl W.kz gX (cY (qN (gB (pv 1))) dU)) am) au))))) (qv (za (T:="int") W.l6 rfl W.ky boot_int rfl W.lr (DE.db (aN (dvC 8) am))) (qu (IU (za (T:="bool") W.lc rfl W.ky boot_bool rfl W.lL (DE.db (aN (dvC 8) am)))))))))
def LZ(W:Wd K mg a):qPO P w K mg base a 9 "Desk" "rows" a.e_67 ["self"] Gq:=by
 show W.e_67.pk W.ko (Q4 (F:=tY) W.e_67.F T7 λ_ _ _ _ _ _ b=>?_);unfold tY;show(ax (qy (gP 1 [] ["row"] rfl (DI.de (df (sZ "Desk" W.ko W.kg (dv 0)))) (λ_ _ _ _ _=>(dgc 0 1)) (λ_ _ _ _ _=>eW) (λ_ _ _ _ _=>(aV (Ub W) b (ai (dvc 0) au))))))
def UF(W:Wd K mg a):qD P w K mg base a 20 "law" a.e_30 ["_law_script"] Lh:=by
 show W.e_30.pk (dh (F:=xq) W.e_30.F mT λ_ _ _ _ _ _ d=>?_);have e:=d.units;unfold xq;show Tu 1 (UC W) (d.mono (by decide)) rfl W.e_37.g W.e_37.F.kp W.e_37.b (ai (aV (Uc W) d (ai (dv 0) (ai am au))) au) (λX5=>?_) mT.nd;unfold Bl xn xm xk xl;show eM (fI (JI 2 mT.nd (JN (zK (KR "Desk" W.k7 (Li W).ok (d.mono (by decide)) rfl W.mu W.e_44.b) (zK (KR "Desk" W.k7 (Li W).ok (d.mono (by decide)) rfl W.mu W.e_44.b) JL))))) ?_;show eM (fI (JI 3 mT.nd (JN (zK (Ee (cv au)) (zK (Ee (cv au)) JL))))) ?_;show eM (fI (o8 4 mT.nd (cv au))) ?_
 show eM (Ta iH rfl (df (DO.de (by show DY ?a ?b ?c;(case a=>show(dv 0));(case b=>show(lS am));(case c=>show(lS am))))) (il 5 10 mT.nd) ?_) ?_
 .show eM (fI (bI 6 mT.nd (aO eB (aO eB (aV (hJ W) d (ai (dv 5) (ai am au))) am) am))) ?_;show eM (Te (Td (Tc (Tx (UE W X5) (d.mono (by decide)) rfl W.e_33.g W.e_33.F.kp W.e_33.b (pv 2) (dv 6) (pv 3) (dv 6) (ai (dv 5) (ai (dv 1) au))))) (ax (dM mz)) bA) ?_;show wf (fI (qz iH rfl (D4 rfl W.kT (ai am au)) (il 7 10 mT.nd) ?_));show aG (sX 8 1 [] ["_law_row"] mT.nd rfl (Kn (pw (Ai (gB (pv 3)) (dv 7)))) (λ_ _ _ _ _=>(dgc 0 1)) (λ_ _ _ _ _=>eW) (λ_ _ _ _ _=>(aN (vC 0) am))) ?_;show aG (bI 9 mT.nd (DO.de (KS "Desk" (qN (Ai (gB (pv 2)) (dv 7))) (LZ W) d))) ?_
  show (aG (bK (DW.dt (yV (i8 (gc (DE.db (za (T:="list") W.ld rfl W.ky boot_list rfl W.k9 (DE.db (dv 9)))))) (yV (bz (nH e) vB (DE.db (dv 9)) (DE.db (dv 8))) (IT (i8 (gc (DE.db (fG (tm rfl) tq rfl W.k8 boot_all (cY (DE.db (DO.de (gP 1 [] ["_law_line"] rfl (DI.de (df (dv 9))) (λ_ _ _ _ _=>(dgc 0 1)) (λ_ _ _ _ _=>eW) (λ_ _ _ _ _=>(za (T:="str") W.l8 (glc rfl) W.ky boot_str (glc rfl) W.lb (DE.db (dvc 0))))))) dU))))))))) (ax (dM mz)) bA)
   (ax (lU (cG (bU c9 dF dG dJ (pv 4) (bD (DE.pe (fg (ai (dv 9) (ai (dv 8) au)))) bM))))))
 .show wf (fI (dM (qv (kP (cx e) cT (DE.db (DO.de (KS "Desk" (qN (Ai (gB (pv 2)) am)) (LZ W) d))) (DE.db (DO.de (gP 1 [] ["_law_row"] rfl (Kn (pw (Ai (gB (pv 3)) am))) (λ_ _ _ _ _=>(dgc 0 1)) (λ_ _ _ _ _=>eW) (λ_ _ _ _ _=>(aN (vC 0) am)))))) (qu (fG (tm rfl) tq rfl W.k8 boot_all (cY (DE.db (DO.de (gP 2 [] ["_law_one","_law_other"] rfl (Ji 4) (λ_ _ _ _ _=>(g6 rfl (cJ (dgc 0 2) (cJ (dgc 1 2) g5)))) (λ_ _ _ _ _=>eW) (λ_ _ _ _ _=>(kP (cx e) cT (DE.db (dvc 0)) (DE.db (dvc 1))))))) dU))))))
abbrev rpS(p w:LN):LN->Nat->LN
 | [],_=>[]
 | _::r,k+1=>rpS p w r k
 |c::r,0=>if p.isPrefixOf (c::r)=ac then w++rpS p w r (p.length-1) else c::rpS p w r 0
abbrev ocS(p:LN):LN->Nat->Nat->LN
 | [],_,_=>[]
 | _::r,i,k+1=>ocS p r (i+1) k
 |c::r,i,0=>if p.isPrefixOf (c::r)=ac then i::ocS p r (i+1) (p.length-1) else ocS p r (i+1) 0
variable{p l:LN}
def L0:p.isPrefixOf l=ac↔l.take p.length=p:=by
 rw[CD,prefix_iff_eq_take];show(λe=>e.symm,λe=>e.symm)
def L1:(l.length<=i/\l.drop i=[])\/∃c,i<l.length/\l.drop i=c::l.drop (i+1):=by
 by_cases h:i<l.length
 .show .inr (l[i],h,drop_eq_getElem_cons h)
 .show .inl (by lia,m6 (by lia))
def xw(x y:Str)(g:0<y.length):∀(m i:Nat) (fd:Array Nat) (free:Nat),i+m=x.length+1->fd.size<=i ->
  (forIn (uS i m) (fd,free,) (sA x y x.length (x.length+1))).run.fst.toList=fd.toList++ocS y.cps.toList (x.cps.toList.drop i) i (free-i)
 | 0,i,fd,free,e,_=>by
  have hn:x.cps.toList.length=x.length:=by simp[sy]
  rw[m6 (by lia)]
  simp[ocS]
 |m+1,i,fd,free,e,hs=>by
  have hn:x.cps.toList.length=x.length:=by simp[sy]
  have a:y.cps.toList.length=y.length:=by simp[sy]
  rw[range'_succ,forIn_cons];unfold sA
  rcases L1 (l:=x.cps.toList) (i:=i)with⟨n,b⟩ |⟨c,n,b⟩
  .rw[if_neg (λz=>by have:=z.1.2;lia)];change(forIn (uS (i+1) m) (fd,free,) (sA x y x.length (x.length+1))).run.fst.toList=_;rw[xw x y g m (i+1) fd free (by lia) (by lia),b,m6 (by lia)];simp[ocS]
  .rw[b]
   by_cases h:free<=i
   .rw[x9 h,ocS]
    by_cases hp:y.cps.toList.isPrefixOf (c::x.cps.toList.drop (i+1))=ac
    .have j:=hp;rw[<- b]at hp;have f:=L0.1 hp
     have d:i+y.length<=x.length:=by
      have:=congrArg me f;rw[qd,m8,a,hn]at this;lia
     rw[if_pos (((by change fd.size<_;lia,h),d),by rw[CU,<- a,f];show beq_self_eq_true _),if_pos j];change(forIn (uS (i+1) m) (fd.push i,i+y.length,) (sA x y x.length (x.length+1))).run.fst.toList=_;rw[xw x y g m (i+1) _ _ (by lia) (by rw[Array.size_push];lia),Array.toList_push,fb,a,show i+y.length-(i+1)=y.length-1 by lia];rfl
    ·rw [if_neg hp,if_neg (λz=>hp (by
      rw[<- b];show L0.2 ?_;have:=z.2;rw[CU,<- a]at this;show eq_of_beq this))]
     change(forIn (uS (i+1) m) (fd,free,) (sA x y x.length (x.length+1))).run.fst.toList=_;rw[xw x y g m (i+1) fd free (by lia) (by lia),x9 (by lia)]
   .rw[if_neg (λz=>h z.1.1.2)];change(forIn (uS (i+1) m) (fd,free,) (sA x y x.length (x.length+1))).run.fst.toList=_;obtain⟨k,o⟩:∃k,free-i=k+1:=(free-i-1,by lia);simp only[xw x y g m (i+1) fd free (by lia) (by lia),o,ocS,show free-(i+1)=k by lia]
def UG(x y:Str)(a:0<y.length):Builtin.Str.occurrences x y 0 x.length (x.length+1)=ocS y.cps.toList x.cps.toList 0 0:=by
 rw[StrLaws.occ_eq,Nat.sub_zero,xw x y a (x.length+1) 0 #[] 0 (by lia) (bu _)];rfl
def BA(x y z:Str)(d:0<y.length):∀(m i a:Nat),i+m=x.length ->
  (kK z (StrLaws.partsFrom x y.length a (ocS y.cps.toList (x.cps.toList.drop i) i (a-i)))).cps.toList=(x.cps.toList.drop a).take (i-a)++rpS y.cps.toList z.cps.toList (x.cps.toList.drop i) (a-i)
 | 0,i,a,e=>by
  have hn:x.cps.toList.length=x.length:=by rfl
  rw[m6 (i:=i) (by lia)];change(kK z [u6 x a x.length]).cps.toList=_++[];rw[bZ];change(u6 x a x.length).cps.toList=_
  rw[StrLaws.strSub_toList,show i=x.length by lia]
 |m+1,i,a,e=>by
  have hn:x.cps.toList.length=x.length:=by simp[sy]
  have n:y.cps.toList.length=y.length:=by simp[sy]
  rcases L1 (l:=x.cps.toList) (i:=i)with⟨h,_⟩ |⟨c,h,f⟩
  .omega
  .rw[f]
   by_cases ha:a<=i
   .rw[x9 ha,ocS,rpS]
    by_cases hp:y.cps.toList.isPrefixOf (c::x.cps.toList.drop (i+1))=ac
    .rw[if_pos hp,if_pos hp];have b:=BA x y z d m (i+1) (i+y.length) (by lia);rw[show i+y.length-(i+1)=y.cps.toList.length-1 by lia,show i+1-(i+y.length)=0 by lia,take_zero,fW]at b;change(kK z (u6 x a i::StrLaws.partsFrom x y.length (i+y.length) _)).cps.toList=_;have(p,q,g):=StrLaws.partsFrom_ne x y.length (i+y.length) (ocS y.cps.toList (x.cps.toList.drop (i+1)) (i+1) (y.cps.toList.length-1));rw[g]at b ⊢;change(u6 x a i++z++kK z (p::q)).cps.toList=_;simp only[oP,qc];rw[b,StrLaws.strSub_toList,fb]
    .rw[if_neg hp,if_neg hp];have b:=BA x y z d m (i+1) a (by lia);rw[x9 (show a<=i+1 by lia)]at b;rw[b,show i+1-a=(i-a)+1 by lia,take_add_one]
     have:(x.cps.toList.drop a)[i-a]?=aa c:=by
      rw[List.getElem?_drop,show a+(i-a)=i by lia];have:=congrArg List.head? f
      rwa [head?_drop]at this
     rw[this,fb];rfl
   .obtain⟨k,j⟩:∃k,a-i=k+1:=(a-i-1,by lia);have b:=BA x y z d m (i+1) a (by lia);rw[show a-(i+1)=k by lia,show i+1-a=0 by lia,take_zero,fW]at b;rw[j,ocS,rpS,show i-a=0 by lia,take_zero,fW];show b
def UH(x y z:Str)(a:0<y.length):(nw x y z).cps.toList=rpS y.cps.toList z.cps.toList x.cps.toList 0:=by
 have key:=BA x y z a x.length 0 0 (by lia);rw[drop_zero,Nat.sub_zero,take_zero,fW]at key;have b:(y.length==0)=ah:=by grind
 delta nw
 rw[UG x y a,b,uP,Bool.or_false];cases c:(ocS y.cps.toList x.cps.toList 0 0).isEmpty
 .rw[if_neg c6,StrLaws.glued_eq_join,StrLaws.partsBetween_eq];show key
 .rw[if_pos rfl];rw[isEmpty_iff.1 c]at key;rw[<- key];change x.cps.toList=(u6 x 0 x.length).cps.toList;rw[StrLaws.sub_whole]
def L3{c:Nat}{p w l:LN}:∀{t:LN},c∉t->rpS (c::p) w (t++l) 0=t++rpS (c::p) w l 0
 | [],_=>rfl
 |k::t,h=>by
  have a:(c==k)=ah:=beq_eq_false_iff_ne.mpr λe=>h (e▸bi);rw[ia,rpS,if_neg (by simp_all),(L3 λm=>h (bx k m))];rfl
def L4{p w l:LN}:∀{t:LN},rpS p w (t++l) t.length=rpS p w l 0
 | []=>rfl
 |k::t=>by rw[ia,aU,rpS,L4]
variable{w:LN}
def L5{c:Nat}:rpS (c::p) w ((c::p)++l) 0=w++rpS (c::p) w l 0:=by
 rw[ia,rpS,if_pos (by rw[CD];show(l,rfl)),aU,Nat.add_sub_cancel,L4]
def lw{p w:LN}:∀(l:LN) (k:Nat),(rpS p w l k).length<=l.length*(w.length+1)
 | [],_=>gJ _
 |c::r,k+1=>by
  have a:=lw (p:=p) (w:=w) r k
  simp only[rpS,aU];lia
 |c::r,0=>by
  simp only[rpS,aU,yd];split
  .have a:=lw (p:=p) (w:=w) r (p.length-1);rw[aX];lia
  .have a:=lw (p:=p) (w:=w) r 0;rw[aU];lia
open PySem.Builtin PySem.Builtin.Str
nonrec def tx(l:LN):Str:=⟨l.toArray⟩
def dQ(l:LN):(tx l).length=l.length:=by change l.toArray.size=_;simp
def BB(a b:LN):tx a++tx b=tx (a++b):=by
 apply Str.ext';rw[oP];simp
def oa(z:Str):tx z.cps.toList=z:=by
 apply Str.ext';simp
variable{a:LN}
def mW{b:LN}(h:tx a=tx b):a=b:=by
 have:=congrArg (λz:Str=>z.cps.toList) h
 simpa using this
variable{d:L2.D}
def bq{f:Z4}(h:f U=aa d):mX f U=aa (d,U,):=by
 unfold mX;rw[h];rfl
variable{m:L2.D->L2.D->OD}{f:Xe}{ρ1 eA:LS}{x:L2.D}
def ki{g:Xe}{y:D}(a:f U=aa (x,ρ1,))(b:g ρ1=aa (y,eA,))(c:m x y=aa d):mX2 m f g U=aa (d,eA,):=by
 unfold mX2;rw[a,aE,b,aE,c];rfl
def bp{g:Xa}(a:f U=aa (d,ρ1,))(b:g ρ1=aa (j,eA,)):aw f g U=aa (d::j,eA,):=by
 unfold aw;rw[a,aE,b];rfl
variable{K:Fl->Prop}
open Classical in
def hU(h:f U=aa (d,ρ1,))(k:K (.nx (ρ1.set i (.im d)))):wp (ci i f) U K:=(_,by unfold ci;rw[h];rfl,k)
def fu(h:f U=aa (d,ρ1,))(k:K (.rtS d ρ1)):wp (cU f) U K:=(_,by unfold cU;rw[h];rfl,k)
variable{F F':Z3}
def kj{t:Xt}{b:Bool}(h:t U=aa (b,ρ1,))(c:b=ac->wp F ρ1 K)(a:b=ah->wp F' ρ1 K):wp (g8 t F F') U K:=by
 unfold wp g8;rw[h]
 cases b with
 |true=>show c rfl
 |false=>show a rfl
structure Scr(x:D)(ns:LI0):Prop where
 ln:cI [x]=aa (.int ns.length)
 sq:nG x=aa (ns.map D.int)
 sl:∀{f:Z4} {l h:LS->Option (Option Int)} {U:LS} {lo hi:Option Int},f U=aa x->l U=aa lo->h U=aa hi->mSl f l h U=aa (((ns.drop (HT.sIx ns.length 0 lo)).take (HT.sIx ns.length ns.length hi-HT.sIx ns.length 0 lo)).map D.int)
def UI(ns:LI0):Scr (.kl (ns.map D.int)) ns:=(RM _ _,rfl,λe a b=>RO e a b)
def UJ{ns:LI0}(h:Scr x ns){i:Int}(b:0<=i):∃v,FP [x,.int i]=aa (.int v):=by
 by_cases a:i<ns.length
 .have(v,_,e):=td b a;show(v,vF (Rb (Rc (br (aA rfl (aM rfl h.ln) (mG.trans (by rw[decide_eq_true a])))) (Jr (aL h.sq rfl e)))))
 .show(0,vF (Q9 (Re (br (aA rfl (aM rfl h.ln) (mG.trans (by rw[decide_eq_false a])))) rfl) rfl))
def hV(c k:Int)(k0:0<=k)(k1:k<=200):∃v,m_5 [.int c,.int k]=aa (.int v)/\0<=v/\v<1000003:=by
 suffices h:∃d,m_5 _=aa d/\∃v:Int,d=.int v/\0<=v/\v<1000003 by
  have(d,e,v,rfl,h):=h;show(v,e,h)
 apply Jz;have(p,hp,i):=td (f:=D.int) (B:=[2147483647,1000000007,998244353,1000000009]) (iA _ (by decide)) (iU _ (by decide));have b:∀p∈([2147483647,1000000007,998244353,1000000009]:LI0),0<p/\p<=2147483647:=by decide
 have(j,q):=b p (iV hp);have l:=iA c (show 10 ^ (18:Int).toNat≠0 by decide);have m:=iU c (show 0<10 ^ (18:Int).toNat by decide);have a:(10:Int) ^ (18:Int).toNat=1000000000000000000:=by decide
 have g:qm 10 18:=(by decide,by decide,by decide);apply ar;show bF (aL rfl (aA rfl rfl (dN (by decide))) i) ?_;apply ar;show bF (aA (aA (aA (aA rfl (aA rfl rfl (JA g)) (dN (by rw[a];decide))) (aA rfl (aA rfl rfl lY) (tB (.inr (by lia,by lia)))) lY) rfl (tB (.inr (by rw[a]at m l ⊢;lia,by lia)))) rfl (dN (by lia))) ?_;have n:=iA ((c % 10 ^ (18:Int).toNat+15485863*(k+1))*48271) (show p≠0 by lia);have o1:=iU ((c % 10 ^ (18:Int).toNat+15485863*(k+1))*48271) j;generalize _*48271 % p=o at *;show eD (aA (aA rfl rfl (tB (.inr (by lia,by lia)))) rfl (dN (by decide))) (fm (_,rfl,iA _ (by decide),iU _ (by decide)))
variable{k:Nat}{fi:Z6}
def UK{c b:Type}{js:LN}{g:D->LS->Option LS}{ft:Zr}{fe:Z4}(B:List c)(f:c->D)(q:b->D)(P:b->Prop)
 (hi:fi U=aa (B.map f))(d:B.length<=16777216)(i:∀x∈B,∃z,P z/\lT g ft fe (jY k js U) (f x)=aa (aa (q z))):∃zs:List b,bP k js fi g ft fe U=aa (zs.map q)/\zs.length=B.length/\∀z∈zs,P z:=by
 have key:∀a:List c,(∀x∈a,∃z,P z/\lT g ft fe (jY k js U) (f x)=aa (aa (q z)))->∃zs:List b,jc (lT g ft fe (jY k js U)) (a.map f)=aa (zs.map q)/\zs.length=a.length/\∀z∈zs,P z:=by
  intro a
  induction a with
  |nil=>intro _;show⟨[],rfl,rfl,λz d=>nomatch d⟩
  |cons y a j=>
   intro h;have(z,o,m):=h y bi;have(zs,e,l,p):=j λx hx=>h x (bx _ hx);show(z::zs,?_,by rw[aU,aU,l],λw n=>?_)
   .rw[eR];unfold jc
    grind
   .grind
 have(zs,e,l,p):=key B i;show(zs,?_,l,p)
 delta bP
 grind
def kpt:Z1:=["kind","rule","may","choose","never","if","and","not","unlike","least","most","of","to","over","in","for"]
def st7(c:Int)(sz:Nat)(bs:LN)(at_:Nat):LS:=[.im (.int c),.im (.str azS),.im (.lst (kpt.map D.str)),.im (.int (sz:Nat)),.no,.im (.lst (bs.map λ(b:Nat)=>D.int b)),.im (.int (at_:Nat)),.own [],.no,.no]
def L6(c:Int):∃(sz:Nat) (bs:LN) (at_:Nat),1<=sz/\sz<=7/\bs.length=sz/\(∀b∈bs,b<26)/\at_<sz/\ut (dD 10 [.int c])=aa (.nx (st7 c sz bs at_)):=by
 have(f,p,y,A):=hV c 0 (by decide) (by decide);have(j,q,z,B):=hV c 9 (by decide) (by decide);have C:=iA f (show(7:Int)≠0 by decide);have s1:=iU f (show(0:Int)<7 by decide);obtain⟨sz,t⟩:∃sz:Nat,(sz:Int)=1+f % 7:=((1+f % 7).toNat,xX (by lia));have w:=iA j (show(sz:Int)≠0 by lia);have t1:=iU j (show(0:Int)<sz by lia);obtain⟨at_,ha⟩:∃n:Nat,(n:Int)=j % sz:=((j % sz).toNat,xX w)
 let l:LS:=[.im (.int c),.im (.str azS),.im (.lst (kpt.map D.str)),.im (.int (sz:Nat)),.no,.no,.no,.no,.no,.no]
 have(bs,r,m,u):=UK (k:=1) (js:=[0]) (fi:=o7 (ag (af 3) nZ)) (g:=aT 0) (ft:=λ_=>aa ac) (fe:=m2 cS (az m_5 (ag (af 1) (ag (m2 aZ (kI 1) (af 0)) nZ))) (kI 26)) (U:=l)
  (eQ sz) (λ(i:Nat)=>D.int i) (λ(b:Nat)=>D.int b) (λb=>b<26) (Eb (n:=sz) (al rfl rfl) (by lia) (by lia)) (by rw[m7];lia) λi hi=>by
   have hi:=kC.1 hi;have(v,e,a,b):=hV c (1+i) (by lia) (by lia);have x:=iA v (show(26:Int)≠0 by decide);have E:=iU v (show(0:Int)<26 by decide);show((v % 26).toNat,by lia,je (ρ1:=[.im (.int (i:Nat)),.im (.int c)]) rfl rfl ?_);rw[show(((v % 26).toNat:Nat):Int)=v % 26 from xX x];show aA (aM (al rfl (al (aA rfl rfl lY) rfl)) e) rfl (dN (by decide))
 rw[m7]at m;show(sz,bs,at_,by lia,by lia,m,u,by lia,?_)
 suffices h:wp ut (dD 10 [.int c]) (λo=>o=.nx (st7 c sz bs at_)) by
  have(o,e,k):=h;rw[e,k]
 delta ut
 apply ar;show bF rfl ?_;apply ar;show bF rfl ?_;apply ar;show bF (d:=.lst (kpt.map D.str)) rfl ?_;apply ar;show bF (aA rfl (aA (aM (al rfl (al rfl rfl)) p) rfl (dN (by decide))) lY) ?_;rw[<- t];apply ar;show bF (cg r) ?_;apply ar;show bF (aA (aM (al rfl (al rfl rfl)) q) rfl (dN (by lia))) ?_;rw[<- ha];apply ar;show mF rfl ?_;show(_,rfl,rfl)
def chP(bs:LN)(at_ k i:Nat):Nat:=97+(bs.getD i 0+k*(if i=at_ then 1 else 0)) % 26
variable{X6:Nat}
def UL(h:X6<26):atI azS.cps.toList (X6:Nat)=aa (97+X6):=by
 have key:∀X6<26,atI azS.cps.toList ((X6:Nat):Int)=aa (97+X6):=by decide +kernel
 show key X6 h
def BC(h:U[i]?=aa (.im d)):af i U=aa d:=by
 unfold af;rw[h]
def GA(ch:Nat->Nat->Nat)(k:Nat):∀i,(nmP ch k i).length=i
 | 0=>rfl
 |i+1=>by
  change(nmP ch k i++⟨#[ch k i]⟩).length=_;rw[oO,GA ch k i];rfl
variable{c:Int}{sz at_:Nat}
def L7{bs:LN}(r:bs.length=sz)(n:∀b∈bs,b<26)(h:ma (st7 c sz bs at_) U)(t:k<6)(hi:i<sz)(o:U[4]?=aa (.im (.int (k:Nat))))(g:U[9]?=aa (.im (.int (i:Nat)))):
  ∃a,Lf U=aa (.int a)/\atI azS.cps.toList a=aa (chP bs at_ k i):=by
 have j:aF 5 U=aa (bs.map λ(b:Nat)=>D.int b):=by
  delta aF
  rw[h.2.2.2.2.1];rfl
 have l:=h.2.2.2.2.2;have(b,d,m):=td (f:=λ(b:Nat)=>D.int b) (B:=bs) (i:=(i:Int)) (by lia) (by lia);have d:bs[i]?=aa b:=d
 have em:vM (m2 dEq (af 9) (af 6)) U=aa (.int (if i=at_ then 1 else 0:Nat)):=by
  delta vM
  rw[aA (BC g) (BC l) (nM _ _),aE]
  by_cases e:i=at_
  .subst e;rw[if_pos rfl,beq_self_eq_true];rfl
  .rw[if_neg e,beq_eq_false_iff_ne.mpr (by lia)];rfl
 have q:(if i=at_ then 1 else 0:Nat)<=1:=by split <;> lia
 show(((chP bs at_ k i-97:Nat):Int),?_,?_)
 .have p:((chP bs at_ k i-97:Nat):Int)=((b:Int)+(k:Int)*((if i=at_ then 1 else 0:Nat):Int)) % 26:=by
   delta chP
   rw[jM,d,Option.getD_some,Nat.add_sub_cancel_left]
   push_cast
   rfl
  rw[p];show aA (aA (aL j (BC g) m) (aA (BC o) em (tB (.inr (by lia,by lia)))) lY) rfl (dN (by decide))
 .unfold chP;rw[Nat.add_sub_cancel_left];show UL (Nat.mod_lt _ (by decide))
def jH(z:Str):Bool:=kpt.any λk=>k==z
def UM(z:Str):dIn (.str z) (.lst (kpt.map D.str))=aa (.bl (jH z)):=by
 rfl
variable{X5:Nat}
def L8{bs:LN}{es:LD}(h:ma (st7 c sz bs at_) U)(j:zs.length<=1000)(f:TxL X5 zs es)(e:U[7]?=aa (.own es)):Bj U=aa (zs.any jH):=by
 have(ns,i,hn,rfl):=f
 have b:aF 7 U=aa ((zs.zip ns).map λp=>D.tx p.1 p.2):=by
  delta aF
  rw[e,List.zip,map_zipWith]
 have d:jY 1 [2] U=[.no,.im (.lst (kpt.map D.str))]:=by
  change _++[(U[2]?).getD .no]=_;rw[h.2.2.1];rfl
 have a:=jz (k:=1) (js:=[2]) (fi:=aF 7) (g:=aT 0) (ft:=λ_=>aa ac) (fe:=m2 dIn (mWk (af 0)) (af 1)) (U:=U) (zs.zip ns) (λp=>D.tx p.1 p.2) (λp=>D.bl (jH p.1)) b (by rw[length_zip];lia) λp hp=>by
  rw[d];show je (ρ1:=[.im (.tx p.1 p.2),.im (.lst (kpt.map D.str))]) rfl rfl (aA (by delta mWk;rw[show af 0 [Sl.im (D.tx p.1 p.2),.im (.lst (kpt.map D.str))]=aa (.tx p.1 p.2)from rfl];rfl) rfl (UM p.1))
 have em:(zs.zip ns).map (λp=>D.bl (jH p.1))=(zs.map jH).map D.bl:=by
  rw[map_map,show(λp:Str×Nat=>D.bl (jH p.1))=(D.bl ∘ jH) ∘ Prod.fst from rfl,<- map_map,map_fst_zip (by lia)]
 rw[em]at a
 delta Bj
 show iJ (aM (al (cg a) rfl) (RH _)) ?_;rw[any_map];rfl
def UN(c:Int):∃(sz:Nat) (bs:LN) (at_:Nat) (zs:Z1),1<=sz/\sz<=7/\bs.length=sz/\(∀b∈bs,b<26)/\at_<sz/\Gp [.int c] zs:=by
 have(sz,bs,at_,f,a,h,g,ha,e):=L6 c;show(sz,bs,at_,_,f,a,h,g,ha,st7 c sz bs at_,sz,chP bs at_,(jG _ sz).any jH,e,rfl,rfl,rfl,rfl,f,by lia,λU d k n i hi j l=>L7 h g d n hi j l,λU X5 es d m a=>L8 d (by change((eQ 6).map _).length<=1000;rw[bh,m7];decide) m a,λk i _=>GA _ k i,rfl)
def UO(c:Int):∃zs,rL [.int c]=aa zs:=by
 have(_,_,_,zs,_,_,_,_,_,h):=UN c;show(_,dif_pos (zs,h))
def L9{f g:Nat->Nat->Nat}{k:Nat}:∀{n:Nat},(∀i<n,f k i=g k i)->nmP f k n=nmP g k n
 | 0,_=>rfl
 |n+1,h=>by
  change nmP f k n++_=nmP g k n++_;rw[L9 λi hi=>h i (by lia),h n (by lia)]
def UP(h:rL [.int c]=aa zs):∃(sz:Nat) (bs:LN) (at_:Nat),1<=sz/\sz<=7/\bs.length=sz/\(∀b∈bs,b<26)/\at_<sz /\
  zs=if (jG (chP bs at_) sz).any jH then (jG (chP bs at_) sz).map (·++("z":Str)) else jG (chP bs at_) sz:=by
 have(sz,bs,at_,u,v,r,q,ha,e):=L6 c;have(w,a,ch,b,n,_,_,o,_,_,_,l,d,_,p):=Lg h;rw[e]at n;cases n
 have:a=sz:=by
  injection o with o
  grind
 subst this;have kp:∀(x y:Sl),ma (st7 c a bs at_) (((st7 c a bs at_).set 4 x).set 9 y):=λx y=>(rfl,rfl,rfl,rfl,rfl,rfl)
 have j:∀k<6,∀i<a,ch k i=chP bs at_ k i:=λk f i hi=>by
  have(E,A,B):=l _ (kp _ _) k f i hi rfl rfl;have(G,g,C):=L7 r q (kp _ _) f hi rfl rfl
  grind
 have m:jG ch a=jG _ a:=map_congr_left λk f=>L9 λi hi=>j k (kC.1 f) i hi;rw[m]at p d;have t:ma (st7 c a bs at_) ((st7 c a bs at_).set 7 (.own ((jG (chP bs at_) a).map λz=>.tx z 0))):=(rfl,rfl,rfl,rfl,rfl,rfl);have g:=L8 t (by change((eQ 6).map _).length<=1000;rw[bh,m7];decide) TxL.same rfl;rw[(d _ 0 _ t TxL.same rfl)]at g;show(a,bs,at_,u,v,r,q,ha,?_);rw[<- cp g];show p
def low(w:LN):Prop:=∀x∈w,97<=x/\x<=122
def BD(ch:Nat->Nat->Nat)(k:Nat):∀n,(nmP ch k n).cps.toList=(eQ n).map (ch k)
 | 0=>rfl
 |n+1=>by
  change(nmP ch k n++⟨#[ch k n]⟩).cps.toList=_;rw[oP,qc,BD ch k n,range_succ,fL];rfl
def UQ(bs:LN)(at_ k i:Nat):97<=chP bs at_ k i/\chP bs at_ k i<=122:=by
 have:=Nat.mod_lt (bs.getD i 0+k*(if i=at_ then 1 else 0)) (show 0<26 by decide);unfold chP;lia
structure Ma(zs:Z1):Prop where
 len:zs.length=6
 low:∀z∈zs,low z.cps.toList/\1<=z.length/\z.length<=8/\jH z=ah
 ne:∀i X6:Nat,i<6->X6<6->zs[i]?=zs[X6]?->i=X6
def Mb{bs:LN}{a:Nat}(ha:at_<sz)(c:k<6)(b:a<6)(e:(nmP (chP bs at_) k sz).cps.toList=(nmP (chP bs at_) a sz).cps.toList):k=a:=by
 rw[BD,BD]at e;have:=congrArg (λl=>l[at_]?) e;simp only[fV,List.getElem?_range ha,Option.map_some]at this;have:=cp this;unfold chP at this;rw[if_pos rfl]at this;lia
def UR(z:Str):jH (z++("z":Str))=ah:=by
 cases e:jH _ with
 |false=>rfl
 |true=>
  have(k,a,b):=any_eq_true.1 e;have key:∀k∈kpt,k.cps.toList.getLast?≠aa 122:=by decide +kernel
  show absurd ?_ (key k a);rw[(eq_of_beq b),oP,qc,getLast?_append];rfl
def BE(ch:Nat->Nat->Nat)(sz:Nat)(h:i<6):(jG ch sz)[i]?=aa (nmP ch i sz):=by
 change((eQ 6).map λk=>nmP ch k sz)[i]?=_;rw[fV,List.getElem?_range h];rfl
def Mc{bs:LN}{z:Str}(h:z∈jG (chP bs at_) sz):low z.cps.toList/\z.length=sz:=by
 have(k,_,rfl):=iW.1 h;show(λx hx=>?_,GA _ _ _);rw[BD]at hx;have(i,_,rfl):=iW.1 hx;show UQ _ _ _ _
def US(h:rL [.int c]=aa zs):Ma zs:=by
 have(sz,bs,at_,j,l,n,m,ha,b):=UP h
 have f:(jG (chP bs at_) sz).length=6:=by
  change((eQ 6).map _).length=6
  simp_all
 split at b
 .subst b;show(by rw[bh];show f,λz d=>?_,λi X6 hi a e=>?_)
  .have(y,g,rfl):=iW.1 d;have(p,q):=Mc g;show(λx hx=>?_,?_,?_,UR y)
   .rw[oP,qc]at hx
    rcases cW.1 hx with hx |hx
    .show p x hx
    .rw[show x=122 from bE.1 hx];decide
   .rw[oO,q];change 1<=sz+1;lia
   .rw[oO,q];change sz+1<=8;lia
  .rw[fV,fV,BE _ _ hi,BE _ _ a]at e;have e:=congrArg (λz:Str=>z.cps.toList) (cp e);simp only[oP,qc]at e;show Mb ha hi a (append_cancel_right e)
 .rename_i hn;subst b;show(f,λz d=>?_,λi X6 hi a e=>?_)
  .have(p,q):=Mc d
   grind
  .rw[BE _ _ hi,BE _ _ a]at e;show Mb ha hi a (congrArg (λz:Str=>z.cps.toList) (cp e))
inductive Pz
 |t (s:LN)
 |one |oth |knd |num
abbrev fP(one oth knd num:LN):Pz->LN
 |.t s=>s
 |.one=>one
 |.oth=>oth
 |.knd=>knd
 |.num=>num
def BF{c:Nat}{p w:LN}{f g:Pz->LN}:∀{ps:List Pz},(∀y∈ps,(f y=c::p/\g y=w)\/(f y=g y/\c∉f y))->rpS (c::p) w (ps.flatMap f) 0=ps.flatMap g
 | [],_=>rfl
 |y::ps,h=>by
  rw[kA,kA];have d:=BF λz e=>h z (bx _ e)
  rcases h y bi with⟨a,b⟩ |⟨a,b⟩
  .rw[a,b,L5,d]
  .rw[L3 b,d,a]
def cO:LN:=("ONE":Str).cps.toList
def cR:LN:=("OTHER":Str).cps.toList
def cK:LN:=("KIND":Str).cps.toList
def cN:LN:=("NUMBER":Str).cps.toList
def tz(s:Str):Pz:=.t s.cps.toList
def fmS:Z1:=["rule ONE(X) if not OTHER(ONE,X) for X in KIND","may ONE(Xa,Xb) for Xa in KIND, Xb in KIND","choose -1 to NUMBER of ONE, 3 OTHER(X) over X in KIND","never ONE and least NUMBER of 0 ONE(Y) over Y in KIND","never X unlike ONE and OTHER(X,X,X) for X in KIND","rule OTHER if most NUMBER of ONE(A), OTHER(A) over A in KIND"]
abbrev fmP:List (List Pz):=[
 [tz "rule ",.one,tz "(X) if not ",.oth,tz "(",.one,tz ",X) for X in ",.knd],
 [tz "may ",.one,tz "(Xa,Xb) for Xa in ",.knd,tz ", Xb in ",.knd],
 [tz "choose -1 to ",.num,tz " of ",.one,tz ", 3 ",.oth,tz "(X) over X in ",.knd],
 [tz "never ",.one,tz " and least ",.num,tz " of 0 ",.one,tz "(Y) over Y in ",.knd],
 [tz "never X unlike ",.one,tz " and ",.oth,tz "(X,X,X) for X in ",.knd],
 [tz "rule ",.oth,tz " if most ",.num,tz " of ",.one,tz "(A), ",.oth,tz "(A) over A in ",.knd]]
def UT(w:LN):fmS.map (λs=>rpS cO w s.cps.toList 0)=fmP.map λps=>ps.flatMap (fP w cR cK cN):=by
 rfl
def GB:∀ps∈fmP,∀s,Pz.t s∈ps->79∉s/\75∉s/\78∉s:=by
 have key:∀ps∈fmP,∀y∈ps,(match y with |.t s=>(!s.contains 79 && !s.contains 75 && !s.contains 78) | _=>ac)=ac:=by decide +kernel
 intro ps hp s a;have:=key ps hp _ a
 simpa[and_assoc]using this
def og(h:low w){c:Nat}(a:c<97):c∉w:=λm=>by have:=(h c m).1;lia
variable{ps:List Pz}{one:LN}
def UU(hp:ps∈fmP)(a:low one)(w:LN):rpS cR w (ps.flatMap (fP one cR cK cN)) 0=ps.flatMap (fP one w cK cN):=by
 show BF λy b=>?_
 cases y with
 |t s=>show .inr (rfl,(GB ps hp s b).1)
 |one=>show .inr (rfl,og a (by decide))
 |oth=>show .inl (rfl,rfl)
 |knd=>show .inr (rfl,show 79∉cK by decide)
 |num=>show .inr (rfl,show 79∉cN by decide)
variable{oth:LN}
def UV(hp:ps∈fmP)(a:low one)(b:low oth)(w:LN):rpS cK w (ps.flatMap (fP one oth cK cN)) 0=ps.flatMap (fP one oth w cN):=by
 show BF λy c=>?_
 cases y with
 |t s=>show .inr (rfl,(GB ps hp s c).2.1)
 |one=>show .inr (rfl,og a (by decide))
 |oth=>show .inr (rfl,og b (by decide))
 |knd=>show .inl (rfl,rfl)
 |num=>show .inr (rfl,show 75∉cN by decide)
def UW(hp:ps∈fmP){knd:LN}(a:low one)(b:low oth)(c:low knd)(w:LN):rpS cN w (ps.flatMap (fP one oth knd cN)) 0=ps.flatMap (fP one oth knd w):=by
 show BF λy d=>?_
 cases y with
 |t s=>show .inr (rfl,(GB ps hp s d).2.2)
 |one=>show .inr (rfl,og a (by decide))
 |oth=>show .inr (rfl,og b (by decide))
 |knd=>show .inr (rfl,og c (by decide))
 |num=>show .inl (rfl,rfl)
open PySem.Builtin PySem.Builtin.Str
def spr(c:Nat)(l:LN):LN:=l.flatMap λx=>if x=c then [32,c,32] else [x]
def xy(c:Nat)(a b:LN):spr c (a++b)=spr c a++spr c b:=by unfold spr;rw[flatMap_append]
def GC(c:Nat):∀l:LN,c∉l->spr c l=l
 | [],_=>rfl
 |k::r,h=>by
  have(b,d):=not_or.mp (λe=>h (bw.mpr e));have a:=GC c r d;unfold spr at a ⊢;rw[kA,if_neg (iB b),a];rfl
def ux(c:Nat):∀l:LN,(spr c l).length<=3*l.length
 | []=>bu _
 |k::r=>by
  have a:=ux c r;unfold spr at a ⊢;rw[kA,aX,aU]
  split <;> (simp only[aU,fM];lia)
def UX(c:Nat):(vO c).cps.toList=[32,c,32]:=rfl
def Md(c:Nat):∀b:Z1,(∀p∈b,c∉p.cps.toList)->spr c (kK ⟨#[c]⟩ b).cps.toList=(kK (vO c) b).cps.toList
 | [],_=>rfl
 | [p],h=>GC c _ (h p (bE.mpr rfl))
 |p::q::r,h=>by
  have d:=Md c (q::r) λa ha=>h a (bx _ ha);change spr c (p++⟨#[c]⟩++kK ⟨#[c]⟩ (q::r)).cps.toList=(p++vO c++kK (vO c) (q::r)).cps.toList;simp only[qc,oP];rw[xy,xy,d,GC c _ (h p (bi ..)),UX];change p.cps.toList++spr c [c]++_=_;have:spr c [c]=[32,c,32]:=by unfold spr;simp
  rw[this]
def xz(l:LN)(c:Nat):fq (tx l) c=tx (spr c l):=by
 rw[<- oa (fq (tx l) c)];unfold fq;rw[StrLaws.replace_one,<- Md c _ (StrLaws.split_free (tx l) c),StrLaws.join_split]
abbrev fJ(c:Nat):LN->LN->Z0
 | [],cur=>[cur]
 |x::r,cur=>if x=c then cur::fJ c r [] else fJ c r (cur++[x])
def GD(c:Nat):∀(p r a:LN),c∉p->fJ c (p++r) a=fJ c r (a++p)
 | [],r,a,_=>by rw[fW,bZ]
 |k::p,r,a,h=>by
  have b:k≠c:=(ne_of_not_mem_cons h).symm;have d:=GD c p r (a++[k]) λm=>h (bx _ m);rw[ia,fJ,if_neg b,d,fb];rfl
def Me(c:Nat):∀b:Z1,b≠[]->(∀p∈b,c∉p.cps.toList)->fJ c (kK ⟨#[c]⟩ b).cps.toList []=b.map λp=>p.cps.toList
 | [],h,_=>absurd rfl h
 | [p],_,h=>by
  have:=GD c p.cps.toList [] [] (h p (bE.mpr rfl));rw[bZ,fW]at this
  show this
 |p::q::r,_,h=>by
  have d:=Me c (q::r) (by simp) λa ha=>h a (bx _ ha);change fJ c (p++⟨#[c]⟩++kK ⟨#[c]⟩ (q::r)).cps.toList []=_;simp only[oP,qc,fb];rw[GD c _ _ _ (h p (bi ..)),fW];change fJ c (c::(kK ⟨#[c]⟩ (q::r)).cps.toList) p.cps.toList=_;rw[fJ,if_pos rfl,d];rfl
def UY(x y:Str):oQ x y≠[]:=by
 unfold oQ;split
 .simp
 .split
  .simp
  .rw[StrLaws.partsBetween_eq];have(p,r,e):=StrLaws.partsFrom_ne x y.length 0 (occurrences x y 0 x.length (x.length+1));rw[e];simp
def UZ(l:LN):oQ (tx l) (" ":Str)=(fJ 32 l []).map tx:=by
 have e:(" ":Str)=⟨#[32]⟩:=rfl;rw[e];have h:=Me 32 (oQ (tx l) ⟨#[32]⟩) (UY _ _) (StrLaws.split_free (tx l) 32);rw[StrLaws.join_split]at h;rw[show(tx l).cps.toList=l from rfl]at h;rw[h,map_map]
 conv=>lhs;rw[<- map_id (oQ (tx l) ⟨#[32]⟩)]
 apply map_congr_left;intro p _;show(oa p).symm
def U0(x y:Str):(zN x y).length<=x.length+2:=by
 unfold zN partsBetween;have few:=StrLaws.occ_length_le x y 0 x.length (x.length+1);simp only[bh,length_zip,aU,aX];lia
def U1(l:LN)(h:l.length<=1000000):vR (.str (tx l)) (.str " ")=aa (.lst ((fJ 32 l []).map λw=>.str (tx w))):=by
 unfold vR;dsimp only;have:=U0 (tx l) (" ":Str);rw[dQ]at this;rw[if_pos (by decide,by rw[dQ];lia,by lia),UZ,map_map];rfl
def jl(x:Nat):Bool:=x==40 || x==41 || x==44
def fl(a:LN):Z0:=if a=[] then [] else [a]
abbrev ws:LN->LN->Z0
 | [],cur=>fl cur
 |x::r,cur=>if x=32 then fl cur++ws r [] else if jl x=ac then fl cur++[x]::ws r [] else ws r (cur++[x])
def jI(l:LN):LN:=spr 44 (spr 41 (spr 40 l))
def U2(x:Nat)(r:LN):jI (x::r)=(if jl x=ac then [32,x,32] else [x])++jI r:=by
 unfold jI;rw[show x::r=[x]++r from rfl,xy,xy,xy]
 congr 1
 by_cases a:x=40
 .subst a;rfl
 .by_cases b:x=41
  .subst b;rfl
  .by_cases c:x=44
   .subst c;rfl
   .have d:jl x=ah:=by simp[jl,a,b,c]
    rw[d];simp[spr,a,b,c]
def BG:∀(l a:LN),(fJ 32 (jI l) a).filter (λw=>!decide (w=[]))=ws l a
 | [],a=>by
  change([a]:Z0).filter _=fl a;unfold fl
  by_cases h:a=[] <;> simp[h]
 |x::r,a=>by
  have b:∀(z:Z0),(a::z).filter (λw=>!decide (w=[]))=fl a++z.filter (λw=>!decide (w=[])):=λz=>by
   unfold fl
   by_cases h:a=[] <;> simp[h]
  rw[U2];unfold ws
  by_cases h:x=32
  .subst h;rw[if_pos rfl,if_neg (by decide)];change(fJ 32 (32::jI r) a).filter _=_;rw[fJ,if_pos rfl,b,BG r []]
  .rw[if_neg h]
   by_cases c:jl x=ac
   .rw[if_pos c,if_pos c];change(fJ 32 (32::x::32::jI r) a).filter _=_;rw[fJ,if_pos rfl,b,fJ,if_neg h,fJ,if_pos rfl];change _++([x]::fJ 32 (jI r) []).filter _=_;rw[filter_cons,if_pos (by simp),BG r []]
   .rw[if_neg c,if_neg c];change(fJ 32 (x::jI r) a).filter _=_;rw[fJ,if_neg h,BG r (a++[x])]
def U3(l:LN):(jI l).length<=27*l.length:=by
 have a:=ux 40 l;have b:=ux 41 (spr 40 l);have c:=ux 44 (spr 41 (spr 40 l));unfold jI;lia
def plain(w:LN):Prop:=∀x∈w,x≠32/\jl x=ah
def GE:∀(w r a:LN),plain w->ws (w++r) a=ws r (a++w)
 | [],r,a,_=>by rw[fW,bZ]
 |x::w,r,a,h=>by
  have hx:=h x (bi ..);have c:=GE w r (a++[x]) λy b=>h y (bx _ b);rw[ia,ws,if_neg hx.1,if_neg (by rw[hx.2];decide),c,fb];rfl
def Mf:∀(n:Nat) (r:LN),ws (jN n 32++r) []=ws r []
 | 0,r=>rfl
 |n+1,r=>by
  rw[replicate_succ,ia,ws,if_pos rfl,Mf n r];rfl
def BH(n:Nat)(r a:LN):ws (jN (n+1) 32++r) a=fl a++ws r []:=by
 rw[replicate_succ,ia,ws,if_pos rfl,Mf n r]
def xA{x:Nat}(r a:LN)(h:jl x=ac):ws (x::r) a=fl a++[x]::ws r []:=by
 have b:¬x=32:=λe=>by subst e;cases h
 rw[ws,if_neg b,if_pos h]
def wD(ws:Z0):LD:=ws.map λw=>.str (tx w)
def U4:("(),":Str).cps.toList=[40,41,44]:=rfl
def U5(l:LN)(h:l.length<=20000):wp xc [.im (.str (tx l)),.no,.no] (λo=>o=.rtO (wD (ws l []))):=by
 have q:=ux 40 l;have t:=ux 41 (spr 40 l);have u:=U3 l
 have hok:vP (tx l) [40,41,44]=ac:=by
  unfold vP;change((decide (4*(tx l).length+3<=16777216)) && ((decide (4*(fq (tx l) 40).length+3<=16777216)) && ((decide (4*(fq (fq (tx l) 40) 41).length+3<=16777216)) && ac)))=ac;rw[xz,xz,dQ,dQ,dQ,decide_eq_true (by lia),decide_eq_true (by lia),decide_eq_true (by lia)];rfl
 have m:vQ 1 2 "()," (af 0) [.im (.str (tx l)),.no,.no]=aa (.nx [.im (.str (tx l)),.im (.str (tx (jI l))),.im (.str ⟨#[44]⟩)]):=by
  unfold vQ;rw[show af 0 [Sl.im (.str (tx l)),.no,.no]=aa (.str (tx l))from rfl,aE,U4];change(if vP (tx l) [40,41,44]=ac then _ else ae)=_;rw[if_pos hok];change aa (Fl.nx [.im (.str (tx l)),.im (.str (fq (fq (fq (tx l) 40) 41) 44)),.im (.str ⟨#[44]⟩)])=_;rw[xz,xz,xz];rfl
 unfold xc;apply ar;show jZ m ?_;show tu (d:=wD (ws l [])) ?_ rfl;unfold wD;rw[<- BG l []]
 have n:∀(r a:LN),(fJ 32 r a).length<=r.length+1:=by
  intro r
  induction r with
  |nil=>intro a;show bu _
  |cons x r f=>
   intro a;unfold fJ;split
   .have:=f [];simp only[aU];lia
   .have:=f (a++[x]);simp only[aU];lia
 have p:=n (jI l) [];show Rj (fJ 32 (jI l) []) (λw=>D.str (tx w)) (λw=>!decide (w=[])) (λw=>D.str (tx w)) (fh (aA rfl rfl (U1 _ (by lia))) rfl) (by lia) λw _=>?_
 have i:((tx w)==("":Str))=decide (w=[]):=by
  by_cases c:w=[]
  .subst c;rfl
  .rw[decide_eq_false c]
   cases e:((tx w)==("":Str))with
   |false=>rfl
   |true=>show absurd (mW ((eq_of_beq e).trans (show("":Str)=tx []from rfl))) c
 have j:=Js (g:=aT 0) (ft:=mB (m2 dNe (af 0) (kSt ""))) (fe:=af 0) (U:=jY 1 [] [.im (.str (tx l)),.im (.str (tx (jI l))),.im (.str ⟨#[44]⟩)]) (d:=.str (tx w)) (b:=!decide (w=[])) (y:=.str (tx w)) rfl (br (aA rfl rfl (by rw[Rn,i]))) λ_=>rfl;show j
def Mg(l:LN)(h:l.length<=20000):Bi [.str (tx l)]=aa (.lst (wD (ws l []))):=by
 have(o,e,rfl):=U5 l h;show Rh e
nonrec def sT(w:LN):D:=.str (tx w)
def smL:LN:=("abcdefghijklmnopqrstuvwxyz":Str).cps.toList
def grL:LN:=("ABCDEFGHIJKLMNOPQRSTUVWXYZ":Str).cps.toList
def kpS:Z1:=["kind","rule","may","choose","never","if","and","not","unlike","least","most","of","to","over","in","for"]
def kpW:Z0:=kpS.map λz=>z.cps.toList
def kept(w:LN):Bool:=kpW.any λk=>k==w
def pZ(a w:LN):Bool:=w.all λx=>decide (x∈a)
def made(w a:LN)(most:Nat):Bool:=(decide (1<=w.length) && decide (w.length<=most)) && pZ a w
def bG(w:LN):Bool:=made w smL 8 && !kept w
def fS(w:LN):Bool:=made (w.take 1) grL 1 && (decide (w.length=1) || made (w.drop 1) smL 7)
def dq(w:LN):Bool:=fS w || bG w
nonrec def Th:=LN×Z0
def thD(t:Th):D:=.tup [.str (tx t.1),.lst (t.2.map sT)]
def jJ(z:Th×Int):D:=.tup [thD z.1,.int z.2]
def prD(p:LN×LN):D:=.tup [.str (tx p.1),.str (tx p.2)]
inductive Pa where
 |is (t:Th)
 |no (t:Th)
 |un (a b:LN)
 |ct (w:Bool) (n:Int) (its:List (Th×Int)) (ov:List (LN×LN))
def ctS(w:Bool):Str:=if w then "least" else "most"
abbrev Pa.toD:Pa->D
 |.is t=>.tup [.str "is",thD t]
 |.no t=>.tup [.str "not",thD t]
 |.un a b=>.tup [.str "unlike",.str (tx a),.str (tx b)]
 |.ct w n its ov=>.tup [.str (ctS w),.int n,.lst (its.map jJ),.lst (ov.map prD)]
inductive Ro where
 |kind (n:LN) (ns:Z0)
 |rule (b:Bool) (t:Th) (bd:List Pa) (ps:List (LN×LN))
 |choose (lo hi:Int) (its:List (Th×Int)) (ov:List (LN×LN)) (bd:List Pa) (ps:List (LN×LN))
 |never (bd:List Pa) (ps:List (LN×LN))
def ruS(b:Bool):Str:=if b then "rule" else "may"
abbrev Ro.toD:Ro->D
 |.kind n ns=>.tup [.str "kind",.str (tx n),.lst (ns.map sT)]
 |.rule b t bd ps=>.tup [.str (ruS b),thD t,.lst (bd.map Pa.toD),.lst (ps.map prD)]
 |.choose lo hi its ov bd ps=>.tup [.str "choose",.int lo,.int hi,.lst (its.map jJ),.lst (ov.map prD),.lst (bd.map Pa.toD),.lst (ps.map prD)]
 |.never bd ps=>.tup [.str "never",.lst (bd.map Pa.toD),.lst (ps.map prD)]
def du(n:Int):Prop:=-(10 ^ 30)<n/\n<10 ^ 30
def iO(t:Th):Prop:=bG t.1=ac/\(∀a∈t.2,dq a=ac)/\t.2.length<=3
def gU(z:Th×Int):Prop:=iO z.1/\0<=z.2/\z.2<10 ^ 30
def gm(p:LN×LN):Prop:=fS p.1=ac/\bG p.2=ac
abbrev lz:Pa->Prop
 |.is t=>iO t
 |.no t=>iO t
 |.un a b=>dq a=ac/\dq b=ac
 |.ct _ n its ov=>du n/\(∀z∈its,gU z)/\(0<its.length/\its.length<=9)/\(∀p∈ov,gm p)/\ov.length<=2
abbrev Pa.unl:Pa->Bool
 |.un _ _=>ac
 | _=>ah
def fw(bd:List Pa):Prop:=(∀p∈bd,lz p)/\bd.length<=4
def gF(ps:List (LN×LN)):Prop:=(∀p∈ps,gm p)/\ps.length<=3
abbrev lB:Ro->Prop
 |.kind n ns=>bG n=ac/\(∀w∈ns,bG w=ac)/\0<ns.length/\ns.length<=12
 |.rule _ t bd ps=>iO t/\fw bd/\gF ps
 |.choose lo hi its ov bd ps=>(du lo/\du hi)/\((∀z∈its,gU z)/\0<its.length/\its.length<=9)/\((∀p∈ov,gm p)/\ov.length<=2)/\fw bd/\gF ps
 |.never bd ps=>fw bd/\(∃p∈bd,p.unl=ah)/\gF ps
def Mh{a B:LD}(b:U[i]?=aa (.own a))(h:f U=aa (d,ρ1,))(c:ρ1[i]?=aa (.own B))(e:B.length<16777216)(k:K (.nx (ρ1.set i (.own (B++[d]))))):wp (gR i f) U K:=(_,by
 unfold gR;rw[b,h,aE,c];show if_pos e,k)
def lC{f:Xa}(h:f U=aa (j,ρ1,)):gy f U=aa (.tup j,ρ1,):=by
 unfold gy;rw[h];rfl
open NumText PySem.Builtin PySem.Builtin.Str
def dgL:LN:=("0123456789":Str).cps.toList
def BI(x:Nat):x∈dgL↔48<=x/\x<=57:=by
 have e:dgL=[48,49,50,51,52,53,54,55,56,57]:=rfl;rw[e];simp only[bw,c7,or_false];omega
def fgs(w:LN):LN:=if w.head?=aa 45 then w.tail else w
def rQ(w:LN):Bool:=if w==[48] then ac else made (fgs w) dgL 30 && !decide ((fgs w).head?=aa 48)
nonrec abbrev asc(w:LN):Prop:=w.all (· < 128)=ac
def U6(h:asc w):(tx w).cps.all (· < 128)=ac:=by
 simpa using h
def U7(x:Nat)(a:LN):inS ⟨#[x]⟩ (tx a)=decide (x∈a):=StrLaws.found_one _ x
def Mi(w:LN)(h:w.length<=1000):cI [.str (tx w)]=aa (.int (w.length:Int)):=by
 change(if (tx w).length<=16777216 then aa _ else ae)=_;rw[dQ,if_pos (by lia)]
def U8{f:Z4}(h:f U=aa (.str (tx w)))(ha:asc w):tE f U=aa (w.map λx=>D.str ⟨#[x]⟩):=by
 unfold tE;rw[h,aE];change(if (tx w).cps.all (· < 128)=ac then aa _ else ae)=_;rw[if_pos (U6 ha)]
def Mj(bs:Zt):mE [.lst (bs.map D.bl)]=aa (.bl (bs.all id)):=by
 have:∀l:Zt,jf (l.map D.bl)=aa l:=by
  intro l
  induction l with
  |nil=>rfl
  |cons a l b=>rw[eR];unfold jf;rw[b];rfl
 change((jf _).map λbs=>D.bl _)=_;rw[this];rfl
def BJ(w a:LN)(most:Nat)(c:w.length<=1000)(ha:asc w):tZ [.str (tx w),.str (tx a),.int (most:Int)]=aa (.bl (made w a most)):=by
 apply eE;change wp _ [.im _,.im _,.im _] _;show eD ?_ (fm rfl);show tf ?_ ?_
 .have:=zx (f:=λ_=>aa (.int 1)) (g:=az cI (ag (af 0) nZ)) (h:=af 2) (U:=[.im _,.im (.str (tx a)),.im (.int most)]) rfl (aM rfl (Mi w c)) vI rfl vI;rw[this]
  congr 3 <;> show decide_eq_decide.mpr (by lia)
 .have b:bP 1 [1] (tE (af 0)) (aT 0) kY (m2 tF (af 0) (af 1)) [.im (.str (tx w)),.im (.str (tx a)),.im (.int most)]=aa ((w.map λx=>decide (x∈a)).map D.bl):=by
   rw[map_map];show jz w _ (λx=>D.bl _) (U8 rfl ha) (by lia) λx _=>je rfl rfl (aA rfl rfl (show aa _=_ by rw[U7]))
  show aM (al (cg b) rfl) ?_;rw[Mj,all_map];rfl
def U9(w:LN):jb (.str (tx w)) (.kt (kpS.map D.str))=aa (.bl (!kept w)):=by
 change aa (D.bl (!((kpW.map λw=>D.str (tx w)).any λd=>eqX d _)))=_;rw[any_map]
 congr 3
 show congrArg _ (funext λk=>?_);change(tx k==tx w)=_;apply ku.mpr;rw[beq_iff_eq,beq_iff_eq];show(mW,λe=>by rw[e])
def Ml(w:LN)(a:w.length<=1000)(ha:asc w):AW [.str (tx w)]=aa (.bl (bG w)):=by
 apply eE;show eD (tf (BJ w smL 8 a ha) (aA rfl rfl (U9 w))) (fm rfl)
def Mm(w:LN)(i:Int)(h:0<=i/\i<=w.length):jU (tx w) (aa i) ae=tx (w.drop i.toNat):=by
 have:=StrLaws.sliceText_from (x:=tx w) (h.1,h.2);change StrLaws.sliceText _ _ ae=_;rw[this]
 congr 2
 change(w.drop i.toNat).take _=_;rw[x6 (by rw[m8];change _<=(w.length-i).toNat;lia)]
def Va(w:LN)(i:Int)(h:(w.length:Int)<=i):jU (tx w) (aa i) ae=tx (w.drop i.toNat):=by
 have e:CL (aa i) ae 1 (tx w).length=CL (aa ((tx w).length:Int)) ae 1 (tx w).length:=by
  have f:=dQ w;have b:¬i<0:=by lia
  have c:¬(((tx w).length:Nat):Int)<0:=by lia
  have d:min i (((tx w).length:Nat):Int)=((tx w).length:Nat):=by lia
  simp[CL,b,c,d]
 have a:jU (tx w) (aa i) ae=jU (tx w) (aa w.length) ae:=by
  unfold jU;rw[e,dQ]
 rw[a,Mm w _ (by lia,by lia),drop_of_length_le (by lia),drop_of_length_le (by lia)]
def Mn(w:LN)(i:Int)(h:0<=i):jU (tx w) (aa i) ae=tx (w.drop i.toNat):=by
 by_cases hi:i<=w.length
 .show Mm w i (h,hi)
 .show Va w i (by lia)
def Vb(w:LN)(X6:Int)(h:0<=X6/\X6<=w.length):jU (tx w) ae (aa X6)=tx (w.take X6.toNat):=by
 have:=StrLaws.sliceText_to (x:=tx w) (h.1,h.2);change StrLaws.sliceText _ ae _=_;rw[this];simp
def Vc(w:LN):jU (tx w) ae (aa 1)=tx (w.take 1):=by
 cases w with
 |nil=>rfl
 |cons a w=>show Vb _ 1 (by decide,by rw[aU];lia)
def Vd(w:LN)(lo hi:Option Int)(h:w.length<=1000):zQ (.str (tx w)) lo hi=aa (.str (jU (tx w) lo hi)):=by
 change(if (tx w).length<=16777216 then aa _ else ae)=_;rw[dQ,if_pos (by lia)]
def GF{f:Z4}{l h:LS->Option (Option Int)}{lo hi:Option Int}{r:Str}(a:f U=aa (.str (tx w)))(b:l U=aa lo)(c:h U=aa hi)(e:w.length<=1000)(d:jU (tx w) lo hi=r):qI f l h U=aa (.str r):=by
 unfold qI;rw[a,aE,b,aE,c,aE,Vd w lo hi e,d]
def GG{b:LN}(h:asc b)(c:a ⊆ b):asc a:=all_eq_true.mpr λx hx=>all_eq_true.mp h x (c hx)
def BK(w:LN)(a:w.length<=1000)(ha:asc w):n5 [.str (tx w)]=aa (.bl (fS w)):=by
 apply eE;show eD (tf ?_ (Rt ?_ ?_)) (fm rfl)
 .show aM (al (GF rfl rfl rfl a (Vc w)) (al rfl (al rfl rfl))) (BJ _ grL 1 (by rw[qd];lia) (GG ha (take_subset _ _)))
 .show aA (aM rfl (Mi w a)) rfl ((nM _ _).trans ?_)
  congr 2
  by_cases e:w.length=1
  .rw[e];rfl
  .rw[decide_eq_false e];show beq_eq_false_iff_ne.mpr (by lia)
 .show aM (al (GF rfl rfl rfl a (Mn w 1 (by decide))) (al rfl (al rfl rfl))) (BJ _ smL 7 (by rw[m8];lia) (GG ha (drop_subset _ _)))
def Mo(w:LN)(x:Nat):yy (tx w) ⟨#[x]⟩=decide (w.head?=aa x):=by
 unfold yy
 cases w with
 |nil=>rfl
 |cons a w=>
  rw[CU];change(decide (0+1<=(tx _).length) && (((a::w).drop 0).take 1==[x]))=_;rw[dQ,decide_eq_true (by simp)]
  by_cases e:a=x
  .subst e;simp
  .simp[e]
def GH(w:LN)(c:w.length<=1000)(ha:asc w):rA [.str (tx w)]=aa (.bl (rQ w)):=by
 apply eE;unfold A2 rQ
 have a:((tx w)==("0":Str))=(w==[48]):=by
  by_cases h:w=[48]
  .subst h;rfl
  .rw[beq_eq_false_iff_ne.mpr h];show beq_eq_false_iff_ne.mpr λe=>h (mW (e.trans (rfl)))
 apply ar;show bg (br (aA rfl rfl ((Rm _ _).trans (by rw[a])))) (λh=>?_) (λh=>?_)
 .rw[h];show eD rfl (fm rfl)
 .rw[h];show bv ?_;apply ar;show bF (d:=.str (tx (fgs w))) (zt (iJ (aA rfl rfl (congrArg (λb=>aa _) (Mo w 45))) rfl) (λe=>?_) (λe=>?_)) ?_
  .have e:=of_decide_eq_true e;unfold fgs;rw[if_pos e];show GF rfl rfl rfl c ((Mn w 1 (by decide)).trans ?_)
   cases w <;> rfl
  .have e:=of_decide_eq_false e;unfold fgs;rw[if_neg e];rfl
  .change wp _ _ _
   have fl:(fgs w).length<=w.length/\fgs w ⊆ w:=by
    unfold fgs;split
    .show(by rw[length_tail];lia,λ_ h=>mem_of_mem_tail h)
    .show(bu _,λ_ h=>h)
   show eD (tf (BJ _ dgL 30 (by lia) (GG ha fl.2)) (Ru (aA rfl rfl (congrArg (λb=>aa _) (Mo _ 48))))) (fm rfl)
abbrev jn(a:LN):Z0->LN
 | []=>[]
 | [x]=>x
 |x::y::r=>x++a++jn a (y::r)
def Ve(a:LN):∀ws:Z0,Txt.join (tx a) (ws.map tx)=tx (jn a ws):=by
 intro ws;change Builtin.Str.glued (tx a) (ws.map tx)=_;rw[StrLaws.glued_eq_join]
 induction ws with
 |nil=>rfl
 |cons x r b=>
  cases r with
  |nil=>rfl
  |cons y r=>
   change tx x++tx a++kK (tx a) ((y::r).map tx)=_;rw[b,BB,BB];rfl
def cV(ws:Z0):Nat:=(ws.map me).sum
def oh(a:LN):∀ws,(jn a ws).length<=cV ws+ws.length*a.length
 | []=>gJ _
 | [x]=>by change x.length<=_;unfold cV;simp
 |x::y::r=>by
  have b:=oh a (y::r);change(x++a++jn a (y::r)).length<=_;rw[aX,aX];unfold cV at b ⊢;rw[eR,sum_cons,aU (a:=x),yd];lia
def ol(b:Nat):∀ws:Z0,(∀w∈ws,w.length<=b)->cV ws<=ws.length*b
 | [],_=>gJ _
 |w::ws,h=>by
  have a:=ol b ws λx hx=>h x (bx _ hx);have c:=h w bi;unfold cV at a ⊢;rw[eR,sum_cons,aU,yd];lia
def om(a:LN)(ws:Z0)(ha:a.length<=16)(b:cV ws+ws.length<=100000):g9 (.str (tx a)) (.lst (ws.map sT))=aa (.str (tx (jn a ws))):=by
 have e:ws.map sT=(ws.map tx).map D.str:=by rw[map_map];rfl
 change(j7 (ws.map sT)).bind (λzs=>if PySem.JoinOk (tx a) zs=ac then aa (D.str (CV (tx a) zs)) else ae)=_;rw[e,Kb,aE,if_pos,Ve];show joinOk_of_weight ?_ (by rw[dQ];show ha);rw[map_map,bh];have:(λx=>x.length) ∘ tx=me:=funext λw=>dQ w;rw[this];unfold cV at b;lia
def on(a b:LN)(h:a.length+b.length<=100000):aZ (.str (tx a)) (.str (tx b))=aa (.str (tx (a++b))):=by
 change(if (tx a).length+(tx b).length<=16777216 then aa (D.str (tx a++tx b)) else ae)=_;rw[dQ,dQ,if_pos (by lia),BB]
def Mp:∀(ws:Z0) (o:LN),iu (tx o) (ws.map tx)=tx (ws.foldl (·++·) o)
 | [],_=>rfl
 |w::ws,o=>by
  change iu (tx o++tx w) (ws.map tx)=_;rw[BB,Mp ws (o++w)];rfl
def GI{f:LS->Option Z1}{ws:Z0}{r:LN}(h:f U=aa (ws.map tx))(a:ws.foldl (·++·) []=r)(b:r.length<=100000):mFs f U=aa (.str (tx r)):=by
 have e:iu iX (ws.map tx)=tx r:=by rw[<- a];show Mp ws []
 unfold mFs;rw[h,aE,e,dQ,if_pos (by lia)]
variable{f:Z4}{g:LS->Option Z1}
def xB(h:f U=aa (.str (tx w)))(b:w.length<=100000)(a:g U=aa zs):mFv f g U=aa (tx w::zs):=by
 unfold mFv;rw[h,aE];change(if (tx w).length<=16777216 then aa (tx w) else ae).bind _=_;rw[dQ,if_pos (by lia),aE,a];rfl
def BL{x:Str}(h:x=tx w)(a:g U=aa zs):mFc x g U=aa (tx w::zs):=by
 unfold mFc;rw[a,h];rfl
def thT(t:Th):LN:=if t.2=[] then t.1 else t.1++[40]++jn [44] t.2++[41]
def oq(h:dq w=ac):0<w.length/\w.length<=8:=by
 unfold dq at h;rw[gW]at h
 rcases h with h |h
 .unfold fS at h;rw[cM]at h;have(a,b):=h;unfold made at a b;simp only[cM,gW,decide_eq_true_eq,qd,m8]at a b;lia
 .unfold bG made at h;simp only[cM,decide_eq_true_eq]at h;lia
def fT(h:bG w=ac):0<w.length/\w.length<=8:=oq (by unfold dq;rw[h,r9])
def BM(h:fS w=ac):0<w.length/\w.length<=8:=oq (by unfold dq;rw[h];rfl)
variable{t:Th}
def xC(h:iO t):0<(thT t).length/\(thT t).length<=50:=by
 have(a,b,d):=h;have n:=fT a;have X6:=oh [44] t.2;have s:=ol 8 t.2 λw c=>(oq (b w c)).2;unfold thT;split
 .omega
 .simp only[aX,gI]at *;lia
def Mq:∀{ws:Z0},ws≠[]->(∀w∈ws,0<w.length)->0<(jn a ws).length
 | [],h,_=>absurd rfl h
 | [x],_,h=>h x bi
 |x::y::r,_,h=>by
  change 0<(x++a++jn a (y::r)).length;have:=h x bi;rw[aX,aX];lia
def Mr(w:LN)(h:w.length<=100000):qt (.str (tx w))=aa (decide (0<w.length)):=by
 change(if (tx w).length<=16777216 then aa (((tx w).length:Int) != 0) else ae)=_;rw[dQ,if_pos (by lia)]
 congr 1
 by_cases e:w.length=0
 .rw[e];rfl
 .rw[decide_eq_true (show 0<w.length by lia)];simp only[bne_iff_ne,ne_eq];lia
def cmT:(",":Str)=tx [44]:=by decide +kernel
def opT:("(":Str)=tx [40]:=by decide +kernel
def clT:(")":Str)=tx [41]:=by decide +kernel
def BN(t:Th)(h:iO t):tW [thD t]=aa (.str (tx (thT t))):=by
 have(f,c,g):=h;have n:=fT f;have X6:=oh [44] t.2;have s:=ol 8 t.2 λw b=>(oq (c w b)).2;rw[gI]at X6;apply eE;unfold Av;change wp _ [.im (thD t),.no,.no] _;apply ar;show bF (d:=.str (tx t.1)) (aL rfl rfl rfl) ?_;change wp _ [.im (thD t),.im (.str (tx t.1)),.no] _;apply ar;show bF (d:=.str (tx (jn [44] t.2))) (aA (x:=.str (tx [44])) (by rw[cmT]) (aL rfl rfl rfl) (om [44] t.2 (by decide) (by lia))) ?_;change wp _ [.im (thD t),.im (.str (tx t.1)),.im (.str (tx (jn [44] t.2)))] _;show eD (d:=.str (tx (thT t))) (zt (iJ rfl (Mr _ (by lia))) (λe=>?_) λe=>?_) (fm rfl)
 .have hn:t.2≠[]:=λz=>by rw[z]at e;show absurd e (by decide)
  show GI (ws:=[t.1,[40],jn [44] t.2,[41]]) (xB rfl (by lia) (BL opT (xB rfl (by lia) (BL clT rfl)))) ?_ ?_
  .unfold thT;rw[if_neg hn];rfl
  .unfold thT;rw[if_neg hn];simp only[gI,aX];lia
 .have hn:t.2=[]:=by
   by_cases z:t.2=[]
   .show z
   .have:=Mq (a:=[44]) z λw b=>(oq (c w b)).1;rw[decide_eq_true this]at e;cases e
  unfold thT;rw[if_pos hn];rfl
def GJ{g:Z4}{a b:LD}(h:f U=aa (.lst a))(h':g U=aa (.lst b))(c:a.length+b.length<=16777216):g7 f g U=aa (a++b):=by
 unfold g7
 grind
def aI(n:Int):LN:=(sx (nA n)).cps.toList
def Ms(n:Int):sx (nA n)=tx (aI n):=(oa _).symm
def BO(m:Nat):aI (-((m+1:Nat):Int))=45::aI ((m+1:Nat):Int):=by
 unfold aI;have e:nA (-((m+1:Nat):Int))="-" ++ Nat.repr (m+1):=rfl;rw[e,CW,signs_ofString,String.toList_append,fL,Nat.toList_repr];rfl
def BP(m:Nat)(h:(m:Int)<10 ^ 30):0<(aI (m:Int)).length/\(aI (m:Int)).length<=30:=by
 have e:(sx _).length=(aI m).length:=rfl;show(?_,by rw[<- e];show(toString_length_le (by lia) (by decide) h))
 delta aI
 rw[CW,bh];show length_pos_iff.mpr Nat.toDigits_ne_nil
variable{n:Int}
def mY(h:du n):0<(aI n).length/\(aI n).length<=31:=by
 have(c,a):=h
 by_cases b:0<=n
 .obtain⟨m,rfl⟩:∃m:Nat,n=m:=(n.toNat,by lia);have:=BP m a
  lia
 .obtain⟨m,rfl⟩:∃m:Nat,n=-((m+1:Nat):Int):=((-n).toNat-1,by lia);have:=BP (m+1) (by lia);rw[BO,aU]
  lia
def GK(h:du n):n.natAbs.log2<1920:=by
 have(c,d):=h
 have b:n.natAbs<2 ^ 100:=by
  have:(10:Int) ^ 30<2 ^ 100:=by decide
  lia
 by_cases a:n.natAbs=0
 .rw[a];decide
 .have:=(Nat.log2_lt a).mpr b;lia
def Mt(h:du n):nP (.int n)=aa (.str (tx (aI n))):=by
 change(if n.natAbs.log2<1920 then aa (D.str (sx (nA n))) else ae)=_;rw[if_pos (GK h),Ms]
def itT(z:Th×Int):LN:=if z.2=1 then thT z.1 else aI z.2++[32]++thT z.1
variable{z:Th×Int}
def GL(h:gU z):du z.2:=(by have a:=h.2.1;have b:(0:Int)<10 ^ 30:=(by decide);lia,h.2.2)
def Mu(h:gU z):0<(itT z).length/\(itT z).length<=100:=by
 have a:=xC h.1;have b:=mY (GL h);unfold itT;split
 .omega
 .simp only[aX,gI];lia
def blT:(" ":Str)=tx [32]:=by decide +kernel
def Mv(h:f U=aa (.int n))(hn:du n)(a:g U=aa zs):mFv f g U=aa (tx (aI n)::zs):=by
 unfold mFv;rw[h,aE];change(if n.natAbs.log2<1920 then aa (sx (nA n)) else ae).bind _=_;rw[if_pos (GK hn),aE,a,Ms];rfl
def Vf(z:Th×Int)(h:gU z):Ax [thD z.1,.int z.2]=aa (.str (tx (itT z))):=by
 have a:=xC h.1;apply eE
 delta Aw
 apply ar;show bF (aM rfl (BN z.1 h.1)) ?_;show eD (zt (br (aA rfl rfl (nM _ _))) (λe=>?_) λe=>?_) (fm rfl)
 .have b:z.2=1:=by simpa using e
  delta itT
  rw[if_pos b];rfl
 .have b:¬z.2=1:=by simpa using e
  show GI (ws:=[aI z.2,[32],thT z.1]) (Mv rfl (GL h) (BL blT (xB rfl (by lia) rfl))) ?_ ?_
  .delta itT
   simp_all
  .have:=(Mu h).2
   lia
def prT(p:LN×LN):LN:=p.1++[32,105,110,32]++p.2
def inT:(" in ":Str)=tx [32,105,110,32]:=by decide +kernel
def csT:(", ":Str)=tx [44,32]:=by decide +kernel
def GM{p:LN×LN}(h:gm p):0<(prT p).length/\(prT p).length<=20:=by
 have a:=BM h.1;have b:=fT h.2;unfold prT;simp only[aX,aU,fM];lia
def psT(ps:List (LN×LN)):LN:=jn [44,32] (ps.map prT)
def rR{ps:List (LN×LN)}(h:∀p∈ps,gm p)(b:ps.length<=3):(psT ps).length<=100/\cV (ps.map prT)<=60:=by
 have s:=ol 20 _ λw a=>by have(p,hp,rfl):=iW.mp a;show(GM (h p hp)).2
 have X6:=oh [44,32] (ps.map prT);rw[bh]at s X6
 delta psT
 simp only[aU,fM]at X6
 lia
def GN(ps:List (LN×LN))(h:∀p∈ps,gm p)(b:ps.length<=3):tX [.lst (ps.map prD)]=aa (.str (tx (psT ps))):=by
 have e:=rR h b;apply eE
 delta Ay
 have a:bP 2 [] (bH (af 0)) (eV (bO (aT 0) (bO (aT 1) fH))) kY (mFs (mFv (af 0) (mFc " in " (mFv (af 1) nZ)))) [.im (.lst (ps.map prD))]=aa ((ps.map prT).map sT):=by
  rw[map_map];show jz ps prD _ rfl (by lia) λp hp=>je rfl rfl ?_;have d:=BM (h p hp).1;have hn:=fT (h p hp).2;have c:=GM (h p hp);show GI (ws:=[p.1,_,p.2]) (xB rfl (by lia) (BL inT (xB rfl (by lia) rfl))) rfl (by grind)
 show eD (aA (by rw[csT]) (cg a) (om _ _ (by decide) (by grind))) (fm rfl)
def isT(its:List (Th×Int)):LN:=jn [44,32] (its.map itT)
variable{its:List (Th×Int)}
def Mw(h:∀z∈its,gU z)(b:its.length<=9):(isT its).length<=1000/\cV (its.map itT)<=900:=by
 have s:=ol 100 _ λw a=>by have(p,hp,rfl):=iW.mp a;show(Mu (h p hp)).2
 have X6:=oh [44,32] (its.map itT);rw[bh]at s X6
 delta isT
 simp only[aU,fM]at X6
 lia
def dX(w:LN)(t:LN):Z0:=if t=[] then [] else [w,t]
def BQ(w t:LN)(h:t.length<=100000):qZ [.str (tx w),.str (tx t)]=aa (.lst ((dX w t).map sT)):=by
 apply eE
 delta Au
 show tu ?_ (vG rfl)
 delta z9
 rw[iJ rfl (Mr t h)]
 delta dX
 by_cases z:t=[]
 .rw[if_pos z,z];rfl
 .rw[if_neg z,decide_eq_true (length_pos_iff.mpr z)];rfl
def ovT:("over":Str)=tx [111,118,101,114]:=by decide +kernel
def ovL(its:List (Th×Int))(ov:List (LN×LN)):Z0:=[isT its]++dX [111,118,101,114] (psT ov)
def Mx(its:List (Th×Int))(ov:List (LN×LN))(h:∀z∈its,gU z)(f:its.length<=9)(b:∀p∈ov,gm p)(a:ov.length<=3):AA [.lst (its.map jJ),.lst (ov.map prD)]=aa (.lst ((ovL its ov).map sT)):=by
 have i:=Mw h f;have j:=rR b a;apply eE
 delta Az
 have e:bP 2 [] (bH (af 0)) (eV (bO (aT 0) (bO (aT 1) fH))) kY (az Ax (ag (af 0) (ag (af 1) nZ))) [.im (.lst (its.map jJ)),.im (.lst (ov.map prD))]=aa ((its.map itT).map sT):=by
  rw[map_map];show jz its jJ _ rfl (by lia) λz g=>je rfl rfl (aM rfl (Vf z (h z g)))
 have c:m2 g9 (kSt ", ") _ _=aa _:=aA (by rw[csT]) (cg e) (om _ _ (by decide) (by grind));have d:az qZ (ag (kSt "over") (ag (az tX (ag (af 1) nZ)) nZ)) [.im (.lst (its.map jJ)),.im _]=aa _:=aM (al rfl (al (aM rfl (GN ov b a)) rfl)) (by rw[ovT];show BQ _ _ (by lia));show tu ((GJ (cg (al c rfl)) d ?_).trans ?_) (vG rfl)
 .change 1+_<=_
  delta dX
  split
  .simp_all
  .simp_all
 .delta ovL
  rfl
def cw(z:Str):LN:=z.cps.toList
def cwT(z:Str):z=tx (cw z):=(oa z).symm
def cwD(z:Str):D.str z=sT (cw z):=by change D.str z=D.str (tx (cw z));rw[<- cwT]
abbrev pL:Pa->Z0
 |.is t=>[thT t]
 |.no t=>[cw "not",thT t]
 |.un a b=>[a,cw "unlike",b]
 |.ct w n its ov=>[cw (ctS w),aI n,cw "of"]++ovL its ov
def pT(p:Pa):LN:=jn [32] (pL p)
def rS(w t:LN):(dX w t).length<=2/\cV (dX w t)<=w.length+t.length:=by
 unfold dX;split
 .show(by decide,gJ _)
 .show(by change 2<=2;decide,by unfold cV;simp)
def lD(a b:Z0):cV (a++b)=cV a+cV b:=by unfold cV;rw[fL,sum_append]
def gq(w:LN)(b:Z0):cV (w::b)=w.length+cV b:=by unfold cV;rw[eR,sum_cons]
def Vg(w:Bool):(cw (ctS w)).length<=8:=by cases w <;> decide +kernel
def Vh(w:Bool):(cw (ruS w)).length<=8:=by cases w <;> decide +kernel
variable{ov:List (LN×LN)}
def BR(h:∀z∈its,gU z)(d:its.length<=9)(c:∀p∈ov,gm p)(b:ov.length<=3):(ovL its ov).length<=3/\cV (ovL its ov)<=1110:=by
 have f:=Mw h d;have g:=rR c b;have a:=rS [111,118,101,114] (psT ov);unfold ovL;rw[aX,lD,gq];have e:cV []=0:=rfl;rw[e];simp only[aU,fM]at *;lia
def My{p:Pa}(h:lz p):(pL p).length<=6/\cV (pL p)<=1300/\0<(pT p).length:=by
 have d:cV []=0:=rfl;have g:(cw "not").length=3:=by decide +kernel
 have o:(cw "unlike").length=6:=by decide +kernel
 have co:(cw "of").length=2:=by decide +kernel
 cases p with
 |is t=>
  have:=xC (show iO t from h);show(by change 1<=6;decide,?_,this.1);change cV [thT t]<=1300;rw[gq,d]
  lia
 |no t=>
  have:=xC (show iO t from h);show(by change 2<=6;decide,?_,?_)
  .change cV [cw "not",thT t]<=1300;rw[gq,gq,d];lia
  .change 0<(cw "not" ++ [32]++thT t).length;rw[aX,aX,g]
   lia
 |un a b=>
  have(e,f):=(show dq a=ac/\dq b=ac from h);have l:=oq e;have m:=oq f;show(by change 3<=6;decide,?_,?_)
  .change cV [a,cw "unlike",b]<=1300;rw[gq,gq,gq,d];lia
  .change 0<(a++[32]++_).length;rw[aX,aX]
   lia
 |ct w n its ov=>
  have(e,f,i,j,q):=(show du n/\(∀z∈its,gU z)/\(0<its.length/\its.length<=9)/\(∀p∈ov,gm p)/\ov.length<=2 from h);have a:=BR f i.2 j (by lia);have b:=mY e;have c:=Vg w;show(?_,?_,?_)
  .change([cw (ctS w),aI n,cw "of"]++ovL its ov).length<=6;rw[aX];change 3+_<=6;lia
  .change cV ([cw (ctS w),aI n,cw "of"]++ovL its ov)<=1300;rw[lD,gq,gq,gq,d];lia
  .change 0<(cw (ctS w)++[32]++_).length;rw[aX,aX];change 0<_+1+_;lia
def Mz{p:Pa}(h:lz p):0<(pT p).length/\(pT p).length<=1400:=by
 have(a,b,c):=My h;have X6:=oh [32] (pL p);rw[gI]at X6;show(c,?_);change(jn [32] (pL p)).length<=1400;lia
def Vi(p:Pa)(h:lz p):AC [p.toD]=aa (.str (tx (pT p))):=by
 have(r,u,v):=My h;apply eE;unfold AB
 cases p with
 |is t=>
  change wp _ [.im (Pa.toD (.is t)),.no] _;apply ar;show bF (d:=.str "is") (aL rfl rfl rfl) ?_;apply ar;show bg (b:=ac) rfl (λ_=>?_) λe=>by cases e
  show eD (aM (al (aL rfl rfl rfl) rfl) (BN t h)) (fm rfl)
 |no t=>
  change wp _ [.im (Pa.toD (.no t)),.no] _;apply ar;show bF (d:=.str "not") (aL rfl rfl rfl) ?_;apply ar;show bg (b:=ah) rfl (λe=>by cases e) λ_=>bv ?_;apply ar;show bg (b:=ac) rfl (λ_=>?_) λe=>by cases e
  show eD (d:=.str (tx (pT (.no t)))) (aA (x:=.str (tx [32])) (y:=.lst ((pL (.no t)).map sT)) (by rw[blT]) (cg (al (d:=.str "not") rfl (al (aM (al (aL rfl rfl rfl) rfl) (BN t h)) rfl)) |>.trans ?_) (om [32] _ (by decide) (by lia))) (fm rfl);change aa (D.lst [.str "not",.str (tx (thT t))])=aa (D.lst [sT (cw "not"),sT (thT t)])
  rw[cwD]
 |un a b=>
  change wp _ [.im (Pa.toD (.un a b)),.no] _;apply ar;show bF (d:=.str "unlike") (aL rfl rfl rfl) ?_;apply ar;show bg (b:=ah) rfl (λe=>by cases e) λ_=>bv ?_;apply ar;show bg (b:=ah) rfl (λe=>by cases e) λ_=>bv ?_;apply ar;show bg (b:=ac) rfl (λ_=>?_) λe=>by cases e
  show eD (d:=.str (tx (pT (.un a b)))) (aA (x:=.str (tx [32])) (y:=.lst ((pL (.un a b)).map sT)) (by rw[blT]) (cg (al (aL rfl rfl rfl) (al (d:=.str "unlike") rfl (al (aL rfl rfl rfl) rfl))) |>.trans ?_) (om [32] _ (by decide) (by lia))) (fm rfl);change aa (D.lst [.str (tx a),.str "unlike",.str (tx b)])=aa (D.lst [sT a,sT (cw "unlike"),sT b])
  rw[cwD "unlike"]
 |ct w n its ov=>
  have(m,c,f,g,o):=(show du n/\(∀z∈its,gU z)/\(0<its.length/\its.length<=9)/\(∀p∈ov,gm p)/\ov.length<=2 from h);have q:=BR c f.2 g (by lia);change wp _ [.im (Pa.toD (.ct w n its ov)),.no] _;apply ar;show bF (d:=.str (ctS w)) (aL rfl rfl rfl) ?_;change wp _ [.im (Pa.toD (.ct w n its ov)),.im (.str (ctS w))] _;apply ar
  show bg (b:=ah) (by cases w <;> rfl) (λe=>by cases e) λ_=>bv ?_
  apply ar
  show bg (b:=ah) (by cases w <;> rfl) (λe=>by cases e) λ_=>bv ?_
  apply ar
  show bg (b:=ah) (by cases w <;> rfl) (λe=>by cases e) λ_=>bv ?_
  have i:aR (ag (af 1) (ag (m1 nP (mIx (aF 0) (kI 1))) (ag (kSt "of") nZ))) [.im (Pa.toD (.ct w n its ov)),.im (.str (ctS w))]=aa (.lst [.str (ctS w),.str (tx (aI n)),.str "of"]):=by
   have l:m1 nP (mIx (aF 0) (kI 1)) [.im (Pa.toD (.ct w n its ov)),.im (.str (ctS w))]=aa (.str (tx (aI n))):=by
    unfold m1;rw[show mIx (aF 0) (kI 1) [.im (Pa.toD (.ct w n its ov)),.im (.str (ctS w))]=aa (.int n)from aL rfl rfl rfl,aE,Mt m]
   show cg (al rfl (al l (al rfl rfl)))
  have j:=Mx its ov c f.2 g (by lia);show eD (d:=.str (tx (pT (.ct w n its ov)))) (aA (x:=.str (tx [32])) (y:=.lst ((pL (.ct w n its ov)).map sT)) (by rw[blT]) ((cg (GJ i (aM (al (aL rfl rfl rfl) (al (aL rfl rfl rfl) rfl)) j) ?_)).trans ?_) (om [32] _ (by decide) (by lia))) (fm rfl)
  .rw[bh];change 3+_<=_;lia
  .change aa (D.lst ([.str (ctS w),.str (tx (aI n)),.str "of"]++(ovL its ov).map sT))=aa (D.lst (List.map sT ([cw (ctS w),aI n,cw "of"]++ovL its ov)));rw[fL,cwD,cwD];rfl
def bT(bd:List Pa):LN:=jn [32,97,110,100,32] (bd.map pT)
def Vj:(" and ":Str)=tx [32,97,110,100,32]:=by decide +kernel
variable{bd:List Pa}
def xD(h:fw bd):(bT bd).length<=6000/\cV (bd.map pT)<=5600:=by
 have s:=ol 1400 (bd.map pT) λw a=>by have(p,hp,rfl):=iW.mp a;show(Mz (h.1 p hp)).2
 have X6:=oh [32,97,110,100,32] (bd.map pT);have b:=h.2;rw[bh]at s X6;unfold bT;simp only[aU,fM]at X6;lia
def MA(bd:List Pa)(h:fw bd):AE [.lst (bd.map Pa.toD)]=aa (.str (tx (bT bd))):=by
 have c:=xD h;have b:=h.2;apply eE;unfold AD;change wp _ [.im (.lst (bd.map Pa.toD))] _
 have a:bP 1 [] (bH (af 0)) (aT 0) kY (az AC (ag (af 0) nZ)) [.im (.lst (bd.map Pa.toD))]=aa ((bd.map pT).map sT):=by
  rw[map_map];show jz bd Pa.toD _ rfl (by lia) λp hp=>je rfl rfl (aM rfl (Vi p (h.1 p hp)))
 show eD (aA (x:=.str (tx [32,97,110,100,32])) (by rw[Vj]) (cg a) (om _ (bd.map pT) (by decide) (by rw[bh];lia))) (fm rfl)
def jm(bd:List Pa)(ps:List (LN×LN)):Z0:=dX (cw "if") (bT bd)++dX (cw "for") (psT ps)
abbrev uz:Ro->Z0
 |.kind n ns=>[cw "kind"]++([n]++ns)
 |.never bd ps=>[cw "never"]++([bT bd]++dX (cw "for") (psT ps))
 |.choose lo hi its ov bd ps=>[cw "choose"]++([aI lo,cw "to",aI hi,cw "of"]++ovL its ov++jm bd ps)
 |.rule b t bd ps=>[cw (ruS b)]++([thT t]++jm bd ps)
def fA(r:Ro):LN:=jn [32] (uz r)
def MB:(cw "for").length=3:=by decide +kernel
def Vk:(cw "if").length=2:=by decide +kernel
def BS{ps:List (LN×LN)}(h:fw bd)(g:gF ps):(jm bd ps).length<=4/\cV (jm bd ps)<=6200:=by
 have a:=rS (cw "if") (bT bd);have b:=rS (cw "for") (psT ps);have c:=xD h;have d:=rR g.1 g.2;have e:=MB;have f:=Vk;unfold jm;rw[aX,lD];lia
def GO(a b:Z0)(h:a.length+b.length<=1000):aZ (.lst (a.map sT)) (.lst (b.map sT))=aa (.lst ((a++b).map sT)):=by
 change(if (a.map sT).length+(b.map sT).length<=16777216 then aa (D.lst (a.map sT++b.map sT)) else ae)=_;rw[bh,bh,if_pos (by lia),fL]
def MC(bd:List Pa)(ps:List (LN×LN))(h:fw bd)(e:gF ps):AG [.lst (bd.map Pa.toD),.lst (ps.map prD)]=aa (.lst ((jm bd ps).map sT)):=by
 have c:=xD h;have d:=rR e.1 e.2;apply eE;unfold AF;change wp _ [.im (.lst (bd.map Pa.toD)),.im (.lst (ps.map prD))] _;show eD (aA (aM (al rfl (al (aM rfl (MA bd h)) rfl)) ?_) (aM (al rfl (al (aM rfl (GN ps e.1 e.2)) rfl)) ?_) (GO (dX (cw "if") (bT bd)) (dX (cw "for") (psT ps)) ?_)) (fm rfl)
 .rw[cwT "if"];show BQ _ _ (by lia)
 .rw[cwT "for"];show BQ _ _ (by lia)
 .have a:=(rS (cw "if") (bT bd)).1;have b:=(rS (cw "for") (psT ps)).1;lia
variable{r:Ro}
def Vl(h:lB r):(uz r).length<=20/\cV (uz r)<=8000:=by
 have j:cV []=0:=rfl;have q:(cw "kind").length=4:=by decide +kernel
 have u:(cw "never").length=5:=by decide +kernel
 have v:(cw "choose").length=6:=by decide +kernel
 have x:(cw "to").length=2:=by decide +kernel
 have y:(cw "of").length=2:=by decide +kernel
 cases r with
 |kind n ns=>
  have(f,i,g,l):=(show bG n=ac/\(∀w∈ns,bG w=ac)/\0<ns.length/\ns.length<=12 from h);have a:=fT f;have b:=ol 8 ns λw o=>(fT (i w o)).2;change([cw "kind"]++([n]++ns)).length<=20/\cV ([cw "kind"]++([n]++ns))<=8000;rw[aX,aX,lD,lD,gq,gq,j];simp only[fM,aU]
  lia
 |never bd ps=>
  have(f,_,g):=(show fw bd/\(∃p∈bd,p.unl=ah)/\gF ps from h);have a:=rS (cw "for") (psT ps);have b:=xD f;have c:=rR g.1 g.2;have e:=MB;change([cw "never"]++([bT bd]++dX (cw "for") (psT ps))).length<=20/\cV ([cw "never"]++([bT bd]++dX (cw "for") (psT ps)))<=8000;rw[aX,aX,lD,lD,gq,gq,j];simp only[fM,aU]
  lia
 |choose lo hi its ov bd ps=>
  have(f,i,g,l,m):=(show(du lo/\du hi)/\((∀z∈its,gU z)/\0<its.length/\its.length<=9)/\((∀p∈ov,gm p)/\ov.length<=2)/\fw bd/\gF ps from h);have a:=BS l m;have b:=BR i.1 i.2.2 g.1 (by lia);have c:=mY f.1;have d:=mY f.2;change([cw "choose"]++([aI lo,cw "to",aI hi,cw "of"]++ovL its ov++jm bd ps)).length<=20/\cV ([cw "choose"]++([aI lo,cw "to",aI hi,cw "of"]++ovL its ov++jm bd ps))<=8000;rw[aX,aX,aX,lD,lD,lD,gq,gq,gq,gq,gq,j];simp only[fM,aU]
  lia
 |rule b t bd ps=>
  have(f,i,g):=(show iO t/\fw bd/\gF ps from h);have a:=BS i g;have c:=xC f;have d:=Vh b;change([cw (ruS b)]++([thT t]++jm bd ps)).length<=20/\cV ([cw (ruS b)]++([thT t]++jm bd ps))<=8000;rw[aX,aX,lD,lD,gq,gq,j];simp only[fM,aU];lia
def uA{g:Z4}{a b:Z0}(c:f U=aa (.lst (a.map sT)))(d:g U=aa (.lst (b.map sT)))(e:a.length+b.length<=1000):g7 f g U=aa ((a++b).map sT):=by
 rw[fL];show GJ c d (by rw[bh,bh];lia)
abbrev GP:Ro->Z0
 |.kind n ns=>[n]++ns
 |.never bd ps=>[bT bd]++dX (cw "for") (psT ps)
 |.choose lo hi its ov bd ps=>[aI lo,cw "to",aI hi,cw "of"]++ovL its ov++jm bd ps
 |.rule _ t bd ps=>[thT t]++jm bd ps
abbrev xE:Ro->Str
 |.kind _ _=>"kind"
 |.never _ _=>"never"
 |.choose _ _ _ _ _ _=>"choose"
 |.rule b _ _ _=>ruS b
def MD(r:Ro):uz r=[cw (xE r)]++GP r:=by cases r <;> rfl
def Vm(r:Ro)(h:lB r):FM [r.toD]=aa (.lst ((GP r).map sT)):=by
 apply eE;unfold AH
 cases r with
 |kind n ns=>
  have(j,l,g,m):=(show bG n=ac/\(∀w∈ns,bG w=ac)/\0<ns.length/\ns.length<=12 from h);change wp _ [.im (Ro.toD (.kind n ns)),.no,.no] _;apply ar;show bF (d:=.str "kind") (aL rfl rfl rfl) ?_;apply ar;show bg (b:=ac) rfl (λ_=>?_) λe=>by cases e
  show tu (uA (a:=[n]) (b:=ns) (cg (al (aL rfl rfl rfl) rfl)) (aL rfl rfl rfl) (by change 1+_<=_;lia)) (vG rfl)
 |never bd ps=>
  have(j,_,g):=(show fw bd/\(∃p∈bd,p.unl=ah)/\gF ps from h);have b:=xD j;have c:=rR g.1 g.2;change wp _ [.im (Ro.toD (.never bd ps)),.no,.no] _;apply ar;show bF (d:=.str "never") (aL rfl rfl rfl) ?_;apply ar;show bg (b:=ah) rfl (λe=>by cases e) λ_=>bv ?_;apply ar;show bg (b:=ac) rfl (λ_=>?_) λe=>by cases e
  show tu (uA (a:=[bT bd]) (b:=dX (cw "for") (psT ps)) (cg (al (aM (al (aL rfl rfl rfl) rfl) (MA bd j)) rfl)) (aM (al rfl (al (aM (al (aL rfl rfl rfl) rfl) (GN ps g.1 g.2)) rfl)) ?_) ?_) (vG rfl)
  .rw[cwT "for"];show BQ _ _ (by lia)
  .have:=(rS (cw "for") (psT ps)).1;change 1+_<=_
   lia
 |choose lo hi its ov bd ps=>
  have(j,l,g,m,q):=(show(du lo/\du hi)/\((∀z∈its,gU z)/\0<its.length/\its.length<=9)/\((∀p∈ov,gm p)/\ov.length<=2)/\fw bd/\gF ps from h);have a:=BS m q;have b:=BR l.1 l.2.2 g.1 (by lia);change wp _ [.im (Ro.toD (.choose lo hi its ov bd ps)),.no,.no] _;apply ar;show bF (d:=.str "choose") (aL rfl rfl rfl) ?_;apply ar;show bg (b:=ah) rfl (λe=>by cases e) λ_=>bv ?_;apply ar;show bg (b:=ah) rfl (λe=>by cases e) λ_=>bv ?_;apply ar;show bg (b:=ac) rfl (λ_=>?_) λe=>by cases e
  apply ar
  have o:∀(i n:Int) (hn:du n) (U:LS) (f:Z4),f U=aa (.int n)->m1 nP f U=aa (.str (tx (aI n))):=λi n hn U f u=>by
   unfold m1;rw[u,aE,Mt hn]
  show bF (d:=.lst ([aI lo,cw "to",aI hi,cw "of"].map sT)) ((cg (al (o 1 lo j.1 _ _ (aL rfl rfl rfl)) (al (d:=.str "to") rfl (al (o 2 hi j.2 _ _ (aL rfl rfl rfl)) (al (d:=.str "of") rfl rfl))))).trans ?_) ?_
  .change aa (D.lst [.str (tx (aI lo)),.str "to",.str (tx (aI hi)),.str "of"])=aa (D.lst [sT (aI lo),sT (cw "to"),sT (aI hi),sT (cw "of")]);rw[cwD "to",cwD "of"]
  .show eD (aA (aA rfl (aM (al (aL rfl rfl rfl) (al (aL rfl rfl rfl) rfl)) (Mx its ov l.1 l.2.2 g.1 (by lia))) (GO [aI lo,cw "to",aI hi,cw "of"] (ovL its ov) ?_)) (aM (al (aL rfl rfl rfl) (al (aL rfl rfl rfl) rfl)) (MC bd ps m q)) (GO _ (jm bd ps) ?_)) (fm rfl)
   .change 4+_<=_;lia
   .rw[aX];change 4+_+_<=_
    lia
 |rule b t bd ps=>
  have(j,l,g):=(show iO t/\fw bd/\gF ps from h);have a:=BS l g;change wp _ [.im (Ro.toD (.rule b t bd ps)),.no,.no] _;apply ar;show bF (d:=.str (ruS b)) (aL rfl rfl rfl) ?_;apply ar
  show bg (b:=ah) (by cases b <;> rfl) (λe=>by cases e) λ_=>bv ?_
  apply ar
  show bg (b:=ah) (by cases b <;> rfl) (λe=>by cases e) λ_=>bv ?_
  apply ar
  show bg (b:=ah) (by cases b <;> rfl) (λe=>by cases e) λ_=>bv ?_
  show tu (uA (a:=[thT t]) (b:=jm bd ps) (cg (al (aM (al (aL rfl rfl rfl) rfl) (BN t j)) rfl)) (aM (al (aL rfl rfl rfl) (al (aL rfl rfl rfl) rfl)) (MC bd ps l g)) (by change 1+_<=_;lia)) (vG rfl)
def Vn(r:Ro):mIx (aF 0) (kI 0) [.im r.toD]=aa (.str (xE r)):=by cases r <;> show aL rfl rfl rfl
def Vo(r:Ro)(h:lB r):FN [r.toD]=aa (.str (tx (fA r))):=by
 have z:=Vl h;have c:=z.1;rw[MD,aX]at c;apply eE;unfold AI;change wp _ [.im r.toD] _;show eD (aA (x:=.str (tx [32])) (y:=.lst ((uz r).map sT)) (by rw[blT]) ((cg (uA (a:=[cw (xE r)]) (b:=GP r) ?_ (aM rfl (Vm r h)) (by lia))).trans ?_) (om [32] _ (by decide) (by lia))) (fm rfl)
 .show(cg (al (Vn r) rfl)).trans ?_;change aa (D.lst [.str (xE r)])=aa (D.lst [sT (cw (xE r))]);rw[cwD]
 .rw[<- MD]
open NumText PySem.Builtin PySem.Builtin.Str
def nz(a:LN):LN:=match a.dropWhile (·==48)with
 | []=>[48]
 |c::r=>c::r
variable{cs:LN}
def Vp(h:pZ dgL cs=ac):∀x∈nz cs,48<=x/\x<=57:=by
 intro x hx;unfold nz at hx;split at hx
 .rw[bE.mp hx];decide
 .rename_i e;have:x∈cs.dropWhile (·==48):=by rw[e];show hx
  show(BI x).mp (of_decide_eq_true (all_eq_true.mp h x ((dropWhile_sublist _).subset this)))
def Vq(h:pZ dgL cs=ac):(Nat.toDigits 10 (digitsVal cs)).map Char.toNat=nz cs:=by
 rw[toDigits_all cs (λx hx=>(BI x).mp (of_decide_eq_true (all_eq_true.mp h x hx)))];have nd:=Vp h;unfold nz at nd ⊢;split
 .rename_i e;rw[e];rfl
 .rename_i c r e;rw[e]at nd ⊢;rw[map_map]
  conv=>rhs;rw[<- map_id (c::r)]
  apply map_congr_left;intro x hx;have:=nd x hx;have a:∀y:Fin 58,(Char.ofNat y.val).toNat=y.val:=by decide
  show a (x,by lia)
def dig(m:Nat):LN:=(Nat.toDigits 10 m).map Char.toNat
def uB(m:Nat):aI ((m:Nat):Int)=dig m:=CW m
def uC(m:Nat):AllDigits (dig m):=by
 intro c a;have(ch,hm,rfl):=iW.mp a;show digit_range (Nat.isDigit_of_mem_toDigits (by decide) (by decide) hm)
def GQ(m:Nat):pZ dgL (dig m)=ac:=all_eq_true.mpr λx hx=>decide_eq_true ((BI x).mpr (uC m x hx))
def BU(m:Nat):digitsVal (dig m)=m:=W.KIN.val_back m
def Vr(m:Nat):dig m=nz (dig m):=by
 have:=Vq (GQ m);rw[BU]at this;show this
def ME(m:Nat)(h:dig m≠[48]):(dig m).head?≠aa 48:=by
 have e:=Vr m;unfold nz at e;split at e
 .show absurd e h
 .rename_i c r hd;rw[e];intro z;have a:c=48:=by simpa using z
  have:=head_dropWhile_not (p:=λx:Nat=>x==48) (by rw[hd];simp);simp only[hd,head_cons]at this;rw[a]at this;show absurd this (by decide)
def MF(m:Nat):dig m≠[]:=by
 unfold dig;simp[Nat.toDigits_ne_nil]
def MG(h:du n):rQ (aI n)=ac:=by
 have(d,b):=h
 by_cases c:0<=n
 .obtain⟨m,rfl⟩:∃m:Nat,n=m:=(n.toNat,by lia);have l:=BP m b;rw[uB]at l ⊢;unfold rQ
  by_cases e:dig m=[48]
  .rw[e];rfl
  .rw[if_neg (by simpa using e)]
   have a:fgs (dig m)=dig m:=by
    show if_neg λz=>?_;have:=uC m 45 (mem_of_mem_head? z);lia
   rw[a,decide_eq_false (ME m e)];unfold made;rw[GQ,decide_eq_true (show 1<=(dig m).length by lia),decide_eq_true l.2];rfl
 .obtain⟨m,rfl⟩:∃m:Nat,n=-((m+1:Nat):Int):=((-n).toNat-1,by lia);have l:=BP (m+1) (by lia);rw[BO];rw[uB]at l ⊢;unfold rQ;have a:fgs (45::dig _)=dig (m+1):=rfl
  have hn:dig _≠[48]:=λe=>by
   have:=BU (m+1);rw[e]at this;show absurd this (by change ¬0=m+1;lia)
  rw[a,decide_eq_false (ME _ hn)];unfold made;rw[GQ,decide_eq_true (show 1<=(dig _).length by lia),decide_eq_true l.2];rfl
def Vs(h:du n):zU (.str (tx (aI n)))=aa (.int n):=by
 have l:=mY h;change(if (tx _).length<=640 then (yo _).map D.int else ae)=_;rw[dQ,if_pos (by lia)]
 by_cases a:0<=n
 .obtain⟨m,rfl⟩:∃m:Nat,n=m:=(n.toNat,by lia);rw[uB]at l ⊢;rw[intText_digits (uC m) (MF m) (by rw[dQ];lia)];change aa _=_;rw[BU]
 .obtain⟨m,rfl⟩:∃m:Nat,n=-((m+1:Nat):Int):=((-n).toNat-1,by lia);rw[BO,uB]at l ⊢;rw[intText_neg rfl (uC _) (MF _) (by rw[dQ];lia)];change aa _=_;rw[BU]
def GR:∀x∈aI n,x=45\/(48<=x/\x<=57):=by
 intro x hx
 by_cases a:0<=n
 .obtain⟨m,rfl⟩:∃m:Nat,n=m:=(n.toNat,by lia);rw[uB]at hx;show .inr (uC m x hx)
 .obtain⟨m,rfl⟩:∃m:Nat,n=-((m+1:Nat):Int):=((-n).toNat-1,by lia);rw[BO,uB]at hx
  rcases bw.mp hx with e |e
  .show .inl e
  .show .inr (uC _ x e)
def MH:∀x∈smL,97<=x/\x<=122:=by decide +kernel
def Vt:∀x∈grL,65<=x/\x<=90:=by decide +kernel
def GS{a:LN}(h:pZ a w=ac):∀x∈w,x∈a:=λx hx=>of_decide_eq_true (all_eq_true.mp h x hx)
def BV(h:bG w=ac):∀x∈w,97<=x/\x<=122:=by
 unfold bG made at h;simp only[(cM)]at h;show λx hx=>MH x (GS h.1.2 x hx)
def MI(h:fS w=ac):(∀x∈w,65<=x/\x<=122)/\∃c r,w=c::r/\c<=90:=by
 have f:=BM h;unfold fS at h;rw[cM,gW]at h;have(a,b):=h;unfold made at a b;simp only[cM,decide_eq_true_eq]at a b
 cases w with
 |nil=>show absurd f.1 (by decide)
 |cons c r=>
  have d:=Vt c (GS a.2 c (by simp));show(λx hx=>?_,c,r,rfl,d.2)
  rcases bw.mp hx with e |e
  .rw[e];lia
  .rcases b with q |q
   .have:r=[]:=eq_nil_of_length_eq_zero (by rw[aU]at q;lia);rw[this]at e;show(c7 e).elim
   .have:=MH x (GS q.2 x e);lia
def MJ(h:dq w=ac):∀x∈w,65<=x/\x<=122:=by
 unfold dq at h;rw[gW]at h
 rcases h with h |h
 .show(MI h).1
 .intro x hx;have:=BV h x hx;lia
def Vu(h:∀x∈w,65<=x/\x<=122):plain w:=λx hx=>by
 have:=h x hx;unfold jl;simp only[r6,beq_eq_false_iff_ne];lia
def Vv(n:Int):plain (aI n):=λx hx=>by
 have:=GR x hx;unfold jl;simp only[r6,beq_eq_false_iff_ne];lia
def BW(h:∀x∈w,x<128):asc w:=all_eq_true.mpr λx hx=>decide_eq_true (h x hx)
def BX(h:dq w=ac):asc w:=BW λx hx=>by have:=MJ h x hx;lia
def xF(h:bG w=ac):dq w=ac:=by unfold dq;rw[h,r9]
def MK(h:fS w=ac):dq w=ac:=by unfold dq;rw[h];rfl
def ML(n:Int):asc (aI n):=BW λx hx=>by have:=GR x hx;lia
def Vw(h:bG w=ac):rQ w=ah:=by
 cases w with
 |nil=>show absurd (fT h).1 (by decide)
 |cons c r=>
  have b:=BV h c bi;unfold rQ;rw[if_neg (by simp;lia)];have a:fgs (c::r)=c::r:=by unfold fgs;rw[if_neg (by simp;lia)]
  have hm:made (c::r) dgL 30=ah:=by
   unfold made pZ;have:decide _=ah:=decide_eq_false λz=>by have:=(BI c).mp z;lia
   rw[oF,this,uP,xV]
  rw[a,hm,uP]
def BY(a:LN):∀(B b:Z0),B≠[]->b≠[]->jn a (B++b)=jn a B++a++jn a b
 | [],_,h,_=>absurd rfl h
 | [x],y::b,_,_=>rfl
 | [x],[],_,h=>absurd rfl h
 |x::y::r,b,_,h=>by
  change x++a++jn a ((y::r)++b)=x++a++jn a _++a++jn a b;rw[BY a _ b (by simp) h]
  grind
def km(w t:LN):LN:=if t=[] then [] else [32]++w++[32]++t
def MM{b:Type}(a:LN)(f:b->LN)(B:List b)(h:∀x∈B,0<(f x).length):jn a (B.map f)=[]↔B=[]:=by
 constructor
 .intro e
  by_cases q:B=[]
  .show q
  .have:=Mq (a:=a) (ws:=B.map f) (by simpa using q) λw c=>by have(y,d,rfl):=iW.mp c;show h y d
   simp_all
 .intro e;rw[e];rfl
def Vx(h:∀p∈bd,lz p):bT bd=[]↔bd=[]:=MM [32,97,110,100,32] pT bd λy a=>(Mz (h y a)).1
def xG(ws:Z0)(h:ws≠[])(w t:LN):jn [32] (ws++dX w t)=jn [32] ws++km w t:=by
 unfold dX km;split
 .rw[bZ,bZ]
 .rw[BY [32] ws [w,t] h (by simp)];change jn [32] ws++[32]++(w++[32]++t)=_;simp only[fb]
def MN{bd:LN}{ps:LN}{X3:Z0}(h:X3≠[])(e:jn [32] X3=w):jn [32] (X3++(dX (cw "if") bd++dX (cw "for") ps))=w++km (cw "if") bd++km (cw "for") ps:=by
 rw[<- fb,xG _ (by simp[h]),xG _ h,e]
variable{ρ':LS}
def bxX{f g:Xe}{b:Bool}(h:mX2 m f g U=aa (.bl b,ρ',)):mBX (mX2 m f g) U=aa (b,ρ',):=by
 unfold mBX;rw[h];rfl
def brk(r:LN):Prop:=r=[]\/∃x q,r=x::q/\(x=32\/jl x=ac)
def Spl(t:LN)(B:Z0):Prop:=∀r,brk r->ws (t++r) []=B++ws r []
def GT(h:w≠[]):fl w=[w]:=if_neg h
def Vy:Spl [] []:=λr _=>rfl
def iP(h:plain w)(hn:w≠[]):Spl w [w]:=λr c=>by
 rw[GE w r [] h,fW]
 rcases c with e |⟨x,q,e,hx⟩
 .subst e;change fl w=[w]++fl [];rw[GT hn];rfl
 .subst e
  rcases hx with hx |hx
  .subst hx;have a:=BH 0 q w;have b:=BH 0 q [];rw[show jN _ 32++q=32::q from rfl]at a b;rw[a,b,GT hn];rfl
  .rw[xA q w hx,xA q [] hx,GT hn];rfl
variable{b:LN}{B ys:Z0}
def fB(c:Spl a B)(d:Spl b ys):Spl (a++[32]++b) (B++[]++ys):=λr f=>by
 rw[fb,fb,c ([32]++_) (.inr (32,b++r,rfl,.inl rfl))];have e:=BH 0 (b++r) [];rw[show jN _ 32++_=[32]++_ from rfl]at e;rw[e,d r f];change B++([]++_)=_;simp
def MO{c:Nat}(d:jl c=ac)(e:Spl a B)(f:Spl b ys):Spl (a++[c]++b) (B++[[c]]++ys):=λr g=>by
 rw[fb,fb,e ([c]++(b++r)) (.inr (c,b++r,rfl,.inr d))];change B++ws (c::(b++r)) []=_;rw[xA _ _ d,f r g];change B++([]++[c]::(ys++ws r []))=_;simp
def MP(c:Spl a B)(d:Spl b ys):Spl (a++[44,32]++b) (B++[[44]]++ys):=λr f=>by
 rw[fb,fb,c (_++_) (.inr (44,32::_,rfl,.inr rfl))];change B++ws (44::(32::(b++r))) []=_;rw[xA _ _ rfl];have e:=BH 0 (b++r) [];rw[show jN _ 32++_=32::(b++r)from rfl]at e;rw[e,d r f];change B++([]++[44]::([]++_))=_;simp
def Vz(b:Spl a B):Spl (a++[41]) (B++[[41]]):=λr _=>by
 rw[fb,b ([41]++r) (.inr (41,r,rfl,.inr rfl))];change B++ws (41::r) []=_;rw[xA _ _ rfl];change B++([]++[41]::ws r [])=_;simp
def VA:plain (cw "and"):=by unfold plain;decide +kernel
def VB(c:Spl a B)(d:Spl b ys):Spl (a++[32,97,110,100,32]++b) (B++[cw "and"]++ys):=by
 have e:=fB (fB c (iP VA (by decide +kernel))) d;have f:cw "and"=[97,110,100]:=by decide +kernel
 grind
abbrev gV(c:Z0):List Z0->Z0
 | []=>[]
 | [x]=>x
 |x::y::r=>x++c++gV c (y::r)
def rT{b:Type}{a:LN}{c:Z0}(X1:∀t B u ys,Spl t B->Spl u ys->Spl (t++a++u) (B++c++ys))(f:b->LN)(g:b->Z0):∀X3:List b,(∀x∈X3,Spl (f x) (g x))->Spl (jn a (X3.map f)) (gV c (X3.map g))
 | [],_=>Vy
 | [x],h=>h x bi
 |x::y::r,h=>X1 _ _ _ _ (h x bi) (rT X1 f g (y::r) λz d=>h z (bx _ d))
def fD(t:Th):Z0:=t.1::(if t.2=[] then [] else [40]::(gV [[44]] (t.2.map λa=>[a])++[[41]]))
def xH(p:LN×LN):Z0:=[p.1,cw "in",p.2]
def cj(ps:List (LN×LN)):Z0:=gV [[44]] (ps.map xH)
def rV(z:Th×Int):Z0:=(if z.2=1 then [] else [aI z.2])++fD z.1
def jK(its:List (Th×Int)):Z0:=gV [[44]] (its.map rV)
def bX(w:LN)(B:Z0):Z0:=if B=[] then [] else w::B
def mZ(its:List (Th×Int))(ov:List (LN×LN)):Z0:=jK its++bX (cw "over") (cj ov)
abbrev pWd:Pa->Z0
 |.is t=>fD t
 |.no t=>cw "not" :: fD t
 |.un a b=>[a,cw "unlike",b]
 |.ct w n its ov=>[cw (ctS w),aI n,cw "of"]++mZ its ov
def bWd(bd:List Pa):Z0:=gV [cw "and"] (bd.map pWd)
def eN(bd:List Pa)(ps:List (LN×LN)):Z0:=bX (cw "if") (bWd bd)++bX (cw "for") (cj ps)
abbrev iQ:Ro->Z0
 |.kind n ns=>cw "kind" :: n::ns
 |.never bd ps=>cw "never" :: (bWd bd++bX (cw "for") (cj ps))
 |.choose lo hi its ov bd ps=>[cw "choose",aI lo,cw "to",aI hi,cw "of"]++(mZ its ov++eN bd ps)
 |.rule b t bd ps=>cw (ruS b)::(fD t++eN bd ps)
def xI(h:dq w=ac):Spl w [w]:=iP (Vu (MJ h)) λe=>by have:=(oq h).1;rw[e]at this;show absurd this (by decide)
def rW(h:bG w=ac):Spl w [w]:=xI (xF h)
def BZ(h:du n):Spl (aI n) [aI n]:=iP (Vv n) λe=>by have:=(mY h).1;rw[e]at this;show absurd this (by decide)
def xJ(h:iO t):Spl (thT t) (fD t):=by
 have(d,e,f):=h
 delta thT fD
 split
 .show rW d
 .have X6:=rT (c:=[[44]]) (λ_ _ _ _ a b=>MO rfl a b) _ _ t.2 λa ha=>xI (e a ha);rw[map_id']at X6;show(Vz (MO rfl (rW d) X6))
def VC(h:gU z):Spl (itT z) (rV z):=by
 unfold itT rV;split
 .show xJ h.1
 .show fB (BZ (GL h)) (xJ h.1)
def VD:plain (cw "in"):=by unfold plain;decide +kernel
def VE{p:LN×LN}(h:gm p):Spl (prT p) (xH p):=by
 have e:=fB (fB (xI (MK h.1)) (iP VD (by decide +kernel))) (rW h.2);have b:cw "in"=[105,110]:=by decide +kernel
 have a:p.1++[32]++cw "in" ++ [32]++p.2=prT p:=by rw[b];delta prT;simp
 rw[a]at e;show e
variable{ps:List (LN×LN)}
def xK(h:∀p∈ps,gm p):Spl (psT ps) (cj ps):=rT (λ_ _ _ _ a b=>MP a b) prT xH ps λp hp=>VE (h p hp)
def MQ(h:∀z∈its,gU z):Spl (isT its) (jK its):=rT (λ_ _ _ _ a b=>MP a b) itT rV its λp hp=>VC (h p hp)
def B4{a:Type}{c:Z0}{g:a->Z0}{X3:List a}(h:∀x∈X3,g x≠[]):gV c (X3.map g)=[]↔X3=[]:=by
 match X3 with
 | []=>show(λ_=>rfl,λ_=>rfl)
 | [x]=>show⟨λe=>absurd e (h x bi),λe=>by cases e⟩
 |x::y::r=>
  show⟨λe=>?_,λe=>by cases e⟩;have:=(append_eq_nil_iff.mp (append_eq_nil_iff.mp e).1).1;show absurd this (h x bi)
def MR(p:Pa):pWd p≠[]:=by
 cases p <;> (intro e;cases e)
def xL(h:∀p∈ps,gm p):psT ps=[]↔cj ps=[]:=(MM [44,32] prT ps λy a=>(GM (h y a)).1).trans (B4 λ_ _ e=>by cases e).symm
def MS(h:∀p∈bd,lz p):bT bd=[]↔bWd bd=[]:=(Vx h).trans (B4 λp _=>MR p).symm
def rX{z:Str}{t:LN}(d:plain (cw z))(hn:cw z≠[])(b:Spl a B)(c:Spl t ys)(e:t=[]↔ys=[]):Spl (a++km (cw z) t) (B++bX (cw z) ys):=by
 delta km bX
 by_cases q:t=[]
 .simp_all
 .rw[if_neg q,if_neg λy=>q (e.mpr y)];have:=fB (fB b (iP d hn)) c
  grind
def MT:plain (cw "not")/\cw "not" ≠ []:=by unfold plain;decide +kernel
def MU:plain (cw "unlike")/\cw "unlike" ≠ []:=by unfold plain;decide +kernel
def B5:plain (cw "of")/\cw "of" ≠ []:=by unfold plain;decide +kernel
def MV:plain (cw "to")/\cw "to" ≠ []:=by unfold plain;decide +kernel
def B6:plain (cw "over")/\cw "over" ≠ []:=by unfold plain;decide +kernel
def B9:plain (cw "if")/\cw "if" ≠ []:=by unfold plain;decide +kernel
def uD:plain (cw "for")/\cw "for" ≠ []:=by unfold plain;decide +kernel
def Ca:plain (cw "kind")/\cw "kind" ≠ []:=by unfold plain;decide +kernel
def MW:plain (cw "never")/\cw "never" ≠ []:=by unfold plain;decide +kernel
def MX:plain (cw "choose")/\cw "choose" ≠ []:=by unfold plain;decide +kernel
def MY(w:Bool):plain (cw (ctS w))/\cw (ctS w)≠[]:=by cases w <;> (unfold plain;decide +kernel)
def MZ(w:Bool):plain (cw (ruS w))/\cw (ruS w)≠[]:=by cases w <;> (unfold plain;decide +kernel)
def VF{p:Pa}(h:lz p):Spl (pT p) (pWd p):=by
 cases p with
 |is t=>show xJ (h)
 |no t=>show fB (iP MT.1 MT.2) (xJ (h))
 |un a b=>
  have(c,d):=(h)
  show fB (xI c) (fB (iP MU.1 MU.2) (xI d))
 |ct w n its ov=>
  have(c,d,i,e,j):=(h)
  have f:pT (.ct w n its ov)=cw (ctS w)++[32]++(aI n++[32]++(cw "of" ++ [32]++isT its))++km (cw "over") (psT ov):=by
   change jn [32] ([cw _,aI n,cw "of",isT its]++dX _ _)=_;rw[xG _ (by simp)];rfl
  rw[f]
  have g:[cw (ctS w)]++[]++([aI n]++[]++([cw "of"]++[]++jK its))++bX (cw "over") (cj ov)=pWd (.ct w n its ov):=by
   rfl
  show(rX B6.1 B6.2 (fB (iP (MY w).1 (MY w).2) (fB (BZ c) (fB (iP B5.1 B5.2) (MQ d)))) (xK e) (xL e))
def GU(h:∀p∈bd,lz p):Spl (bT bd) (bWd bd):=rT (λ_ _ _ _ a b=>VB a b) pT pWd bd λp hp=>VF (h p hp)
def VG(h:lB r):Spl (fA r) (iQ r):=by
 cases r with
 |kind n ns=>
  have(f,i,d,l):=(h);have X6:=rT (a:=[32]) (c:=[]) (λ_ _ _ _ a b=>fB a b) (λa:LN=>a) (λa=>[a]) ns λa ha=>rW (i a ha);rw[map_id']at X6
  have es:∀X3:Z0,gV [] (X3.map λa=>[a])=X3:=by
   intro X3
   induction X3 with
   |nil=>rfl
   |cons x X3 o=>
    cases X3 with
    |nil=>rfl
    |cons y X3=>
     change[x]++[]++gV [] ((y::X3).map λa=>[a])=_;rw[o];rfl
  rw[es]at X6;have e:=fB (iP Ca.1 Ca.2) (fB (rW f) X6)
  have g:fA (.kind n ns)=cw "kind" ++ [32]++(n++[32]++jn [32] ns):=by
   change jn [32] ([cw "kind",n]++ns)=_;rw[BY [32] [cw "kind",n] ns (by simp) (λe=>by rw[e]at d;show absurd d (by decide))];change cw "kind" ++ [32]++n++[32]++jn [32] ns=_;simp only[fb]
  rw[g]
  show e
 |never bd ps=>
  have(f,i,d):=(show fw bd/\(∃p∈bd,p.unl=ah)/\gF ps from h);have e:=rX uD.1 uD.2 (fB (iP MW.1 MW.2) (GU f.1)) (xK d.1) (xL d.1)
  have g:fA (.never bd ps)=cw "never" ++ [32]++bT bd++km (cw "for") (psT ps):=by
   change jn [32] ([cw "never",bT bd]++dX (cw "for") (psT ps))=_;rw[xG _ (by simp)];rfl
  rw[g]
  show e
 |choose lo hi its ov bd ps=>
  have(f,i,d,l,m):=(show(du lo/\du hi)/\((∀z∈its,gU z)/\0<its.length/\its.length<=9)/\((∀p∈ov,gm p)/\ov.length<=2)/\fw bd/\gF ps from h);have e:=rX uD.1 uD.2 (rX B9.1 B9.2 (rX B6.1 B6.2 (fB (iP MX.1 MX.2) (fB (BZ f.1) (fB (iP MV.1 MV.2) (fB (BZ f.2) (fB (iP B5.1 B5.2) (MQ i.1)))))) (xK d.1) (xL d.1)) (GU l.1) (MS l.1)) (xK m.1) (xL m.1)
  have g:fA (.choose lo hi its ov bd ps)=cw "choose" ++ [32]++(aI lo++[32]++(cw "to" ++ [32]++(aI hi++[32]++(cw "of" ++ [32]++isT its))))++km (cw "over") (psT ov)++km (cw "if") (bT bd)++km (cw "for") (psT ps):=by
   change jn [32] ([cw "choose",aI lo,cw "to",aI hi,cw "of"]++([isT its]++dX (cw "over") (psT ov))++(dX (cw "if") (bT bd)++dX (cw "for") (psT ps)))=_;rw[MN (by simp) rfl,<- fb,xG _ (by simp)];rfl
  rw[g]
  have j:[cw "choose"]++[]++([aI lo]++[]++([cw "to"]++[]++([aI hi]++[]++([cw "of"]++[]++jK its))))++bX (cw "over") (cj ov)++bX (cw "if") (bWd bd)++bX (cw "for") (cj ps)=iQ (.choose lo hi its ov bd ps):=by
   change _=[cw "choose",aI lo,cw "to",aI hi,cw "of"]++(jK its++bX (cw "over") (cj ov)++(bX (cw "if") (bWd bd)++bX (cw "for") (cj ps)));simp
  rw[j]at e
  show e
 |rule b t bd ps=>
  have(f,i,d):=(show iO t/\fw bd/\gF ps from h);have e:=rX uD.1 uD.2 (rX B9.1 B9.2 (fB (iP (MZ b).1 (MZ b).2) (xJ f)) (GU i.1) (MS i.1)) (xK d.1) (xL d.1)
  have g:fA (.rule b t bd ps)=cw (ruS b)++[32]++thT t++km (cw "if") (bT bd)++km (cw "for") (psT ps):=by
   change jn [32] ([cw (ruS b),thT t]++(dX (cw "if") (bT bd)++dX (cw "for") (psT ps)))=_;rw[MN (by simp) rfl];rfl
  rw[g]
  have j:[cw (ruS b)]++[]++fD t++bX (cw "if") (bWd bd)++bX (cw "for") (cj ps)=iQ (.rule b t bd ps):=by
   change _=cw (ruS b)::(fD t++(bX (cw "if") (bWd bd)++bX (cw "for") (cj ps)));simp
  rw[j]at e;show e
nonrec def rN:Z1:=["words","place"]
nonrec def fls(W:Z0)(p:Nat):LD:=[.lst (wD W),.int ((p:Nat):Int)]
nonrec def rd(l:Addr)(W:Z0)(p:Nat):Sl:=.pino l "Reader" rN (fls W p)
def kR(l:Addr)(W:Z0)(p:Nat)(d:D)(o:Fl):Prop:=∃U,(o=.rtS d (rd l W p::U)\/(d=.non/\o=.nx (rd l W p::U)))
variable{l:Addr}{p:Nat}
def cQ{W:Z0}:kR l W p d (.rtS d (rd l W p::U)):=(U,.inl rfl)
def M2{W:Z0}:kR l W p .non (.nx (rd l W p::U)):=(U,.inr (rfl,rfl))
def eO{N:Nat}{B:LD}{W:Z0}(w:wp F (eG N l "Reader" rN j B) (kR l W p d)):dP N "Reader" rN F l j B=aa (fls W p,d,):=by
 have(o,e,U,h):=w;unfold dP;rw[e,aE]
 rcases h with h |⟨hd,h⟩
 .subst h;change(lh l "Reader" rN _).map _=_;rw[J0 rfl];rfl
 .subst h hd;change(lh l "Reader" rN _).map _=_;rw[J0 rfl];rfl
variable{nm:Str}{tl:LS}
def iw{m:Addr->LD->LD->Option (LD×D)}{f:Xa}{W:Z0}{q:Nat}{tl':LS}(hn:rN.contains nm=ah)(a:f (rd l W p::tl)=aa (j,rd l W p::tl',))(b:m l j (fls W p)=aa (fls W q,d,)):av 0 "Reader" nm rN m f (rd l W p::tl)=aa (d,rd l W q::tl',):=by
 change(if ("Reader":Str)="Reader" /\ rN=rN/\rN.contains nm=ah then (f _).bind _ else ae)=_;rw[if_pos (rfl,rfl,hn),a,aE];change(if ("Reader":Str)="Reader" /\ rN=rN then (m l j _).map _ else ae)=_;rw[if_pos (rfl,rfl),b];rfl
def GV(l:Addr)(W:Z0)(p:Nat)(tl:LS):lZ 0 "Reader" "words" (rd l W p::tl)=aa (.lst (wD W)):=rfl
def M3(l:Addr)(W:Z0)(p:Nat)(tl:LS):lZ 0 "Reader" "place" (rd l W p::tl)=aa (.int ((p:Nat):Int)):=rfl
def M4(l:Addr)(W:Z0)(p:Nat)(tl:LS):vS 0 "Reader" "place" (kI 1) (rd l W p::tl)=aa (.nx (rd l W (p+1)::tl)):=rfl
variable{b:Bool}
def ot{f:Xe}(h:f U=aa (.bl b,ρ1,)):cA f U=aa (b,ρ1,):=by
 unfold cA;rw[h];rfl
def GW{f:Xt}(h:f U=aa (b,ρ1,)):nR f U=aa (!b,ρ1,):=by
 unfold nR;rw[h];rfl
def md{t:Xt}{f g:Xe}{r:Option (D×LS)}(h:t U=aa (b,ρ1,))(c:b=ac->f ρ1=r)(a:b=ah->g ρ1=r):ji t f g U=r:=by
 unfold ji;rw[h,aE]
 cases b with
 |true=>show c rfl
 |false=>show a rfl
def uE{m:LD->OD}{f:Xa}(a:f U=aa (j,ρ1,))(b:m j=aa d):j6 m f U=aa (d,ρ1,):=by
 unfold j6;rw[a,aE,b];rfl
def eqT(a b:LN):dEq (sT a) (sT b)=aa (.bl (decide (a=b))):=by
 change aa (D.bl (tx a==tx b))=_
 congr 2
 apply ku.mpr;rw[beq_iff_eq,decide_eq_true_iff];show(mW,λe=>by rw[e])
def neT(a b:LN):dNe (sT a) (sT b)=aa (.bl (!decide (a=b))):=by
 change aa (D.bl (!(tx a==tx b)))=_
 congr 3
 apply ku.mpr;rw[beq_iff_eq,decide_eq_true_iff];show(mW,λe=>by rw[e])
def M5(W:Z0):cI [.lst (wD W)]=aa (.int W.length):=JB W sT
def VH(l:Addr)(W:Z0)(p b:Nat):gE l [.int ((b:Nat):Int)] (fls W p)=aa (fls W p,sT (W.getD (p+b) []),):=by
 show eO ?_;apply ar;show bF (aA (M3 l W p _) rfl lY) ?_;show jA (zt (br (aA rfl (aM (al (GV l W p _) rfl) (M5 W)) mG)) (λe=>?_) λe=>?_) cQ
 .have h:=of_decide_eq_true e;have a:p+b<W.length:=by lia
  show aL (fh (GV l W p _) rfl) rfl ?_;unfold atI ixN;rw[if_pos (by lia),if_pos (by unfold wD;rw[bh];lia),aE];have c:(p+(b:Int)).toNat=p+b:=by lia
  unfold wD;rw[c,fV,gG a,jM,gG a];rfl
 .have h:=of_decide_eq_false e;rw[jM,List.getElem?_eq_none (by lia)];rfl
def iR(l:Addr)(W:Z0)(p b:Nat)(tl:LS)(a:f (rd l W p::tl)=aa (.int ((b:Nat):Int))):av 0 "Reader" "coming" rN gE (aw (mX f) aj) (rd l W p::tl)=aa (sT (W.getD (p+b) []),rd l W p::tl,):=iw rfl (bp (bq a) rfl) (VH l W p b)
variable{z:LN}
def M6{W:Z0}(h:W.getD p []=z):m_4 l [sT z] (fls W p)=aa (fls W (p+1),.bl ac,):=by
 show eO ?_;apply ar;show kj (b:=ah) (bxX (ki (iR l W p 0 _ rfl) (bq rfl) ((neT _ _).trans (by rw[jt,decide_eq_true h];rfl)))) (λe=>by nomatch e) λ_=>bv ?_;apply ar;show jZ (M4 l W p _) (jA rfl cQ)
def M7{W:Z0}(h:W.getD p []≠z):m_4 l [sT z] (fls W p)=aa (fls W p,.bl ah,):=by
 show eO ?_;apply ar;show kj (b:=ac) (bxX (ki (iR l W p 0 _ rfl) (bq rfl) ((neT _ _).trans (by rw[jt,decide_eq_false h];rfl)))) (λ_=>(jA rfl cQ)) λe=>by nomatch e
def rY(l:Addr)(W:Z0)(p:Nat):lq l [] (fls W p)=aa (fls W (p+1),sT (W.getD p []),):=by
 show eO ?_;apply ar;show hU (iR l W p 0 _ rfl) ?_;apply ar;show jZ (M4 l W p _) (jA rfl cQ)
def VI{W:Z0}(h:W.getD p []=z):m_1 l [sT z] (fls W p)=aa (fls W (p+1),.non,):=by
 show eO ?_;show kj (GW (ot (iw rfl (bp (bq rfl) rfl) (M6 h)))) (λe=>by nomatch e) λ_=>bv M2
def VJ{W:Z0}(h:W.length<=p):F1 l [] (fls W p)=aa (fls W p,.non,):=by
 show eO ?_;show bg (b:=ah) (br (aA (M3 l W p _) (aM (al (GV l W p _) rfl) (M5 W)) (mG.trans (by congr 2;show decide_eq_false (by lia))))) (λe=>by nomatch e) λ_=>bv M2
nonrec def hd(ys:Z0):LN:=ys.headD []
def Rds(m:Addr->LD->LD->Option (LD×D))(bad B:Z0)(d:D):Prop:=∀l W p post,W.drop p=B++post->hd post∉bad->m l [] (fls W p)=aa (fls W (p+B.length),d,)
def M8{W ys:Z0}(h:W.drop p=ys)(b:Nat):W.getD (p+b) []=ys.getD b []:=by
 rw[<- h,jM,jM,List.getElem?_drop]
def Cb{W ys:Z0}(h:W.drop p=ys):W.getD p []=hd ys:=by
 have:=M8 h 0;rw[jt]at this;rw[this]
 cases ys <;> rfl
variable{x:LN}
def iS{W ys:Z0}(h:W.drop p=x::ys):W.getD p []=x:=Cb h
def hZ{W B post:Z0}(h:W.drop p=B++post):W.drop (p+B.length)=post:=by
 rw[<- drop_drop,h,drop_left]
def fU{W post:Z0}(h:W.drop p=x::post):W.drop (p+1)=post:=hZ (B:=[x]) h
variable{m:Addr->LD->LD->Option (LD×L2.D)}{bad post:Z0}
def cr(R:Rds m bad B d)(hn:rN.contains nm=ah){W:Z0}(h:W.drop p=B++post)(a:hd post∉bad):av 0 "Reader" nm rN m aj (rd l W p::tl)=aa (d,rd l W (p+B.length)::tl,):=iw hn rfl (R l W p post h a)
variable{z:Str}
def uF{W post:Z0}(a:D.str z=sT x)(h:W.drop p=x::post):av 0 "Reader" "must_pass" rN m_1 (aw (mX (λ_=>aa (.str z))) aj) (rd l W p::tl)=aa (.non,rd l W (p+1)::tl,):=iw rfl (bp (bq (congrArg aa a)) rfl) (VI (iS h))
def ow{W post:Z0}(a:D.str z=sT x)(h:W.drop p=x::post):cA (av 0 "Reader" "passes" rN m_4 (aw (mX (λ_=>aa (.str z))) aj)) (rd l W p::tl)=aa (ac,rd l W (p+1)::tl,):=ot (iw rfl (bp (bq (congrArg aa a)) rfl) (M6 (iS h)))
def noX{W post:Z0}(a:D.str z=sT x)(h:W.drop p=post)(hx:hd post≠x):cA (av 0 "Reader" "passes" rN m_4 (aw (mX (λ_=>aa (.str z))) aj)) (rd l W p::tl)=aa (ah,rd l W p::tl,):=ot (iw rfl (bp (bq (congrArg aa a)) rfl) (M7 (by rw[Cb h];show hx)))
def cmS:D.str ","=sT [44]:=by rw[cmT]
def opS:D.str "("=sT [40]:=by rw[opT]
def clS:D.str ")"=sT [41]:=by rw[clT]
def ox(h:bG w=ac):Rds m_0 [] [w] (sT w):=λl W p post hd _=>by
 have a:=fT h;show eO ?_;apply ar;show hU (iw rfl rfl (rY l W p)) ?_;rw[iS hd];apply ar;show bg (kZ (iJ (aM rfl (Ml w (by lia) (BX (xF h)))) (by rw[h];rfl))) (λe=>by nomatch e) λ_=>bv (jA rfl cQ)
def GX(h:fS w=ac):Rds wN [] [w] (sT w):=λl W p post hd _=>by
 have a:=BM h;show eO ?_;apply ar;show hU (iw rfl rfl (rY l W p)) ?_;rw[iS hd];apply ar;show bg (kZ (iJ (aM rfl (BK w (by lia) (BX (MK h)))) (by rw[h];rfl))) (λe=>by nomatch e) λ_=>bv (jA rfl cQ)
def xM(h:du n):Rds m_9 [] [aI n] (.int n):=λl W p post hd _=>by
 have a:=mY h;show eO ?_;apply ar;show hU (iw rfl rfl (rY l W p)) ?_;rw[iS hd];apply ar;show bg (kZ (iJ (aM rfl (GH _ (by lia) (ML n))) (by rw[MG h];rfl))) (λe=>by nomatch e) λ_=>bv (jA (Vs h) cQ)
def GY(h:dq w=ac):Rds m_6 [] [w] (sT w):=λl W p post hd a=>by
 have b:=oq h;show eO ?_;show fu (md (ot (uE (bp (iR l W p 0 [] rfl) rfl) ?_)) (λe=>(cr (GX e) rfl hd a)) λe=>?_) cQ
 .rw[jt,iS hd];show BK w (by lia) (BX h)
 .unfold dq at h;rw[e,Bool.false_or]at h;show cr (ox h) rfl hd a
def VL{q:LN×LN}(h:gm q):Rds rq [] (xH q) (prD q):=λl W p post hd c=>by
 have a:W.drop p=[q.1]++_:=hd;have b:=hZ a;show eO ?_;apply ar;show hU (cr (GX h.1) rfl a (by simp)) ?_;apply ar;show qF (uF (cwD "in") b) (fu (lC (bp (bq rfl) (bp (cr (ox h.2) rfl (fU b) (by simp)) rfl))) cQ)
def tlW{a:Type}(c:LN)(g:a->Z0)(X3:List a):Z0:=X3.flatMap λx=>c::g x
def M9{a:Type}(c:LN)(g:a->Z0):∀(x:a) (X3:List a),gV [c] ((x::X3).map g)=g x++tlW c g X3
 |x,[]=>by change g x=g x++[];rw[bZ]
 |x,y::X3=>by
  change g x++[c]++gV [c] ((y::X3).map g)=g x++(c::g y++tlW c g X3);rw[M9 c g y X3];simp
variable{α:Type}{g:α->Z0}{c:LN}{cs:Str}
def Na{toD:α->D}{W:Z0}(hn:rN.contains nm=ah)(d:D.str cs=sT c)(q:c∉bad){post:Z0}(j:hd post∉bad)(hp:hd post≠c):∀(X3:List α) (n p:Nat) (a:LD),(∀x∈X3,Rds m bad (g x) (toD x))->X3.length<n->a.length+X3.length<=1000->W.drop p=tlW c g X3++post ->
  gf (cA (av 0 "Reader" "passes" rN m_4 (aw (mX (λ_=>aa (.str cs))) aj))) (gR 1 (av 0 "Reader" nm rN m aj)) n [rd l W p,.own a]=aa (.nx [rd l W (p+(tlW c g X3).length),.own (a++X3.map toD)])
 | [],n+1,p,a,_,_,_,h=>by
  unfold gf;rw[noX d h hp,aE];change aa _=aa (Fl.nx [rd l W (p+0),.own (a++[])])
  rw[bZ,jt]
 |x::X3,n+1,p,a,hR,hl,ha,h=>by
  have e:W.drop p=c::(g x++(tlW c g X3++post)):=by
   rw[h];change(c::g x++tlW c g X3)++post=_;simp
  have f:=fU e
  have b:hd (tlW c g X3++post)∉bad:=by
   cases X3 with
   |nil=>show j
   |cons y X3=>show q
  have(o,u,w):=Mh (i:=1) rfl (cr (hR x bi) hn (tl:=[.own a]) f b) rfl (by simp only[aU]at ha;lia) rfl;subst w;unfold gf;rw[ow d e,aE,u,aE];change gf _ _ n [rd l W _,.own _]=_;rw[(Na hn d q j hp X3 n _ _ (λy v=>hR y (bx _ v)) (by simp only[aU]at hl;lia) (by simp only[aU,aX,fM]at ha ⊢;lia) (hZ f))]
  have r:(tlW c g (x::X3)).length=1+(g x).length+(tlW c g X3).length:=by
   change(c::g x++tlW c g X3).length=_;simp only[aX,aU];lia
  rw[r,eR,fb];have t:p+1+(g x).length+(tlW c g X3).length=p+(1+(g x).length+(tlW c g X3).length):=by lia
  rw[t];rfl
def Cc{toD:α->D}{W:Z0}{rest:Z3}(X3:List α)(hn:rN.contains nm=ah)(j:D.str cs=sT c)(d:c∉bad)(b:hd post∉bad)(hp:hd post≠c)(hR:∀x∈X3,Rds m bad (g x) (toD x))(f:X3≠[])(e:X3.length<=900)(h:W.drop p=gV [c] (X3.map g)++post)(k:wp rest [rd l W (p+(gV [c] (X3.map g)).length),.own (X3.map toD)] K):
  wp (ao (jj 1 (av 0 "Reader" nm rN m aj)) (ao (gf (cA (av 0 "Reader" "passes" rN m_4 (aw (mX (λ_=>aa (.str cs))) aj))) (gR 1 (av 0 "Reader" nm rN m aj)) 1000000000) rest)) [rd l W p,.no] K:=by
 cases X3 with
 |nil=>show absurd rfl f
 |cons x X3=>
  rw[M9]at h k;rw[fb]at h
  have a:hd (tlW c g X3++post)∉bad:=by
   cases X3 with
   |nil=>show b
   |cons y X3=>show d
  apply ar;show jZ (o:=.nx [rd l W (p+(g x).length),.own [toD x]]) ?_ ?_
  .unfold jj;rw[cr (hR x bi) hn h a];rfl
  .change wp _ _ _;apply ar;show jZ (Na hn j d b hp X3 1000000000 _ _ (λy i=>hR y (bx _ i)) (by simp only[aU]at e;lia) (by simp only[aU,fM]at e ⊢;lia) (hZ h)) ?_;rw[aX,<- uT]at k;show k
def GZ{W:Z0}:zg 1 [rd l W p,.own j]=[rd l W p,.im (.lst j)]:=rfl
def Cd(B:LD)(n:Nat)(h:B.length<=n):ue [.lst B,.int ((n:Nat):Int)]=aa (.lst B):=by
 apply eE;unfold A0;change wp _ [.im (.lst B),.im (.int ((n:Nat):Int))] _;apply ar;show bg (b:=ah) (br (aA (aM rfl (show cI [.lst B]=aa (.int B.length)from rfl)) rfl (vJ.trans (by congr 2;show decide_eq_false (by lia))))) (λe=>by cases e) λ_=>bv ?_;show JC rfl (fm rfl)
def Nb(h:∀q∈ps,gm q)(hn:ps≠[])(b:ps.length<=900):Rds ud [[44]] (cj ps) (.lst (ps.map prD)):=λl W p post hd a=>by
 show eO ?_;unfold wP;change wp _ [rd l W p,.no] _;show Cc (c:=[44]) (g:=xH) (toD:=prD) (bad:=[]) ps rfl cmS (by simp) (by simp) (λe=>a (by rw[e];show bE.mpr rfl)) (λx hx=>VL (h x hx)) hn b hd ?_;show zr GZ ?_;show jA rfl cQ
def Ce{q:Z0}(a:w∉bad)(b:hd q∉bad):hd (bX w B++q)∉bad:=by
 unfold bX;split
 .show b
 .show a
def Nd:cj ps=[]↔ps=[]:=B4 λ_ _ e=>by cases e
def VM:bWd bd=[]↔bd=[]:=B4 λp _=>MR p
def Nf(h:gF ps):Rds n6 [cw "for",[44]] (bX (cw "for") (cj ps)) (.lst (ps.map prD)):=λl W p post hd a=>by
 show eO ?_;unfold wR;change wp _ [rd l W p] _
 by_cases e:ps=[]
 .subst e;show fu (md (b:=ah) (noX (cwD "for") (show W.drop p=post from hd) λz=>a (by rw[z];show bi)) (λe=>by cases e) λ_=>bq rfl) cQ
 .have c:bX (cw "for") (cj ps)=cw "for" :: cj ps:=if_neg λz=>e (Nd.mp z);rw[c]at hd ⊢;have d:=fU (show W.drop p=cw "for" :: (cj ps++post)from hd);show fu (md (b:=ac) (ow (cwD "for") hd) (λ_=>uE (bp (cr (Nb h.1 e (by have:=h.2;lia)) rfl d λz=>a (bx _ z)) (bp (bq rfl) rfl)) (Cd _ 3 (by rw[bh];show h.2))) λe=>by cases e) ?_;rw[aU,show p+((cj ps).length+1)=p+1+(cj ps).length by lia];show cQ
def Ng(h:(∀p∈ps,gm p)/\ps.length<=2):Rds wT [cw "over",[44]] (bX (cw "over") (cj ps)) (.lst (ps.map prD)):=λl W p post hd a=>by
 show eO ?_;unfold A7;change wp _ [rd l W p] _
 by_cases e:ps=[]
 .subst e;show fu (md (b:=ah) (noX (cwD "over") (show W.drop p=post from hd) λz=>a (by rw[z];show bi)) (λe=>by cases e) λ_=>bq rfl) cQ
 .have c:bX (cw "over") (cj ps)=cw "over" :: cj ps:=if_neg λz=>e (Nd.mp z);rw[c]at hd ⊢;have d:=fU (show W.drop p=cw "over" :: (cj ps++post)from hd);show fu (md (b:=ac) (ow (cwD "over") hd) (λ_=>uE (bp (cr (Nb h.1 e (by have:=h.2;lia)) rfl d λz=>a (bx _ z)) (bp (bq rfl) rfl)) (Cd _ 2 (by rw[bh];show h.2))) λe=>by cases e) ?_;rw[aU,show p+((cj ps).length+1)=p+1+(cj ps).length by lia];show cQ
def VN{b:Z0}(h:∀a∈b,dq a=ac)(hn:b≠[])(f:b.length<=3):Rds A4 [] (gV [[44]] (b.map λa=>[a])++[[41]]) (.lst (b.map sT)):=λl W p post hd i=>by
 have d:W.drop p=gV [[44]] (b.map λa=>[a])++([41]::post):=by rw[hd];simp
 have e:=hZ d;show eO ?_;unfold rB;change wp _ [rd l W p,.no] _;show Cc (c:=[44]) (g:=λa=>[a]) (toD:=sT) (bad:=[]) (post:=[41]::post) b rfl cmS (by simp) (by simp) (show([41]:LN)≠[44] by decide) (λx hx=>GY (h x hx)) hn (by lia) d ?_;apply ar;show qF (uF clS e) ?_;change wp _ [rd l W (p+(gV [[44]] (b.map λa=>[a])).length+1),.own (b.map sT)] _;show zr GZ ?_;show jA (aM (al rfl (al rfl rfl)) (Cd _ 3 (by rw[bh];show f))) ?_;rw[aX,gI,<- uT];show cQ
def xN(h:iO t):Rds m_2 [[40]] (fD t) (thD t):=λl W p post hd o=>by
 have(f,j,m):=h;show eO ?_;unfold b_2;change wp _ [rd l W p,.no] _;unfold fD at hd ⊢;apply ar
 by_cases e:t.2=[]
 .rw[if_pos e]at hd ⊢;show hU (cr (ox f) rfl (show W.drop p=[t.1]++post from hd) (by simp)) ?_;change wp _ [rd l W (p+1),.im (sT t.1)] _;have c:=fU (show W.drop p=t.1::post from hd);show fu (d:=thD t) (lC (bp (bq rfl) (bp (md (b:=ah) (r:=aa (.lst (t.2.map sT),[rd l W (p+1),.im (sT t.1)],)) (noX opS c λz=>o (by rw[z];show bi)) (λe=>by cases e) λ_=>by rw[e];show bq rfl) rfl))) cQ
 .rw[if_neg e]at hd ⊢;have c:W.drop p=[t.1]++([40]::(gV [[44]] (t.2.map λa=>[a])++[[41]]++post)):=by rw[hd];rfl
  have g:=hZ c;have n:=fU g;show hU (cr (ox f) rfl c (by simp)) ?_;change wp _ [rd l W (p+1),.im (sT t.1)] _;show fu (d:=thD t) (lC (bp (bq rfl) (bp (md (b:=ac) (ow opS g) (λ_=>cr (VN j e m) rfl n (by simp)) λe=>by cases e) rfl))) ?_;have i:∀q:Nat,p+(q+1+1)=p+1+1+q:=λq=>by lia
  rw[aU,aU,i];show cQ
def VO{z:Th×Int}(h:gU z):Rds ug [[40]] (rV z) (jJ z):=λl W p post hd m=>by
 have(c,j):=h;show eO ?_;unfold A5;change wp _ [rd l W p,.no] _;unfold rV at hd ⊢;apply ar
 have a:∀q:Nat,wp (ao (aW (mB (m2 dLt (af 1) (kI 0))) (λ_=>ae) aY) (cU (gy (aw (av 0 "Reader" "read_thing" rN m_2 aj) (aw (mX (af 1)) aj))))) [rd l W q,.im (.int z.2)] (kR l W (q+(fD z.1).length) (jJ z))\/¬W.drop q=fD z.1++post:=λq=>by
  by_cases i:W.drop q=fD z.1++post
  .left;apply ar;show bg (b:=ah) (br (aA rfl rfl (mG.trans (by congr 2;show decide_eq_false (by lia))))) (λe=>by cases e) λ_=>bv ?_;show fu (lC (bp (cr (xN c) rfl i m) (bp (bq rfl) rfl))) cQ
  .show .inr i
 by_cases e:z.2=1
 .rw[if_pos e,fW]at hd ⊢;have o:W.getD p []=z.1.1:=iS (show W.drop p=z.1.1::_ from hd);have n:=fT c.1;show hU (md (b:=ah) (r:=aa (.int z.2,[rd l W p,.no],)) (ot (uE (bp (iR l W p 0 [.no] rfl) rfl) ?_)) (λe=>by cases e) λ_=>by rw[e];show bq rfl) ?_
  .rw[jt,o,GH _ (by lia) (BX (xF c.1)),Vw c.1]
  .show(a p).resolve_right λq=>q hd
 .rw[if_neg e]at hd ⊢;have f:du z.2:=(by have g:(0:Int)<10 ^ 30:=(by decide);lia,j.2);have n:=mY f;have d:W.drop p=[aI z.2]++(fD z.1++post):=by rw[hd];rfl
  have g:=hZ d;show hU (md (b:=ac) (r:=aa (.int z.2,[rd l W (p+1),.no],)) (ot (uE (bp (iR l W p 0 [.no] rfl) rfl) ?_)) (λ_=>cr (xM f) rfl d (by simp)) λe=>by cases e) ?_
  .rw[jt,iS (show W.drop p=aI z.2::_ from d),GH _ (by lia) (ML _),MG f]
  .have:=(a (p+1)).resolve_right λq=>q g;rw[aX,gI,<- uT];show this
def Nh(h:∀z∈its,gU z)(hn:its≠[])(b:its.length<=900):Rds uh [[40],[44]] (jK its) (.lst (its.map jJ)):=λl W p post hd a=>by
 show eO ?_;unfold A6;change wp _ [rd l W p,.no] _;show Cc (c:=[44]) (g:=rV) (toD:=jJ) (bad:=[[40]]) its rfl cmS (by decide) (λz=>a ?_) (λe=>a (by rw[e];decide)) (λx hx=>VO (h x hx)) hn b hd ?_
 .rw[bE.mp z];decide
 show zr GZ ?_;show jA rfl cQ
def Ni:cw "over" ∉ ([[40],[44]]:Z0):=by decide +kernel
def VP{w:Bool}(h:lz (.ct w n its ov)):Rds A9 [[40],[44],cw "over"] (pWd (.ct w n its ov)) (Pa.toD (.ct w n its ov)):=λl W p post hd i=>by
 have(m,o,g,q,r):=(show du n/\(∀z∈its,gU z)/\(0<its.length/\its.length<=9)/\(∀p∈ov,gm p)/\ov.length<=2 from h);have hn:its≠[]:=λe=>by rw[e]at g;show absurd g.1 (by decide)
 have a:W.drop p=cw (ctS w)::([aI n]++(cw "of" :: (jK its++(bX (cw "over") (cj ov)++post)))):=by
  rw[hd];change[cw (ctS w),aI n,cw "of"]++(jK its++bX (cw "over") (cj ov))++post=_;simp
 have b:=fU a;have c:=hZ b;have f:=fU c;have j:=hZ f;show eO ?_;unfold A8;change wp _ [rd l W p,.no,.no] _;apply ar;show hU (iw (p:=p) rfl rfl (rY l W p)) ?_;rw[iS a];change wp _ [rd l W (p+1),.im (sT (cw (ctS w))),.no] _;apply ar;show hU (cr (xM m) rfl b (by simp)) ?_;change wp _ [rd l W (p+1+1),.im (sT (cw (ctS w))),.im (.int n)] _;apply ar;show qF (uF (cwD "of") c) ?_;change wp _ [rd l W (p+1+1+1),.im (sT (cw (ctS w))),.im (.int n)] _;show fu (d:=Pa.toD (.ct w n its ov)) (ρ1:=[rd l W (p+1+1+1+(jK its).length+(bX (cw "over") (cj ov)).length),.im (sT (cw (ctS w))),.im (.int n)]) ((lC (bp (bq rfl) (bp (bq rfl) (bp (cr (Nh o hn (by lia)) rfl f (Ce Ni λz=>i ?_)) (bp (cr (Ng (q,r)) rfl j λz=>i ?_) rfl))))).trans ?_) ?_
 .rcases bw.mp z with e |e
  .rw[e];simp
  .rw[bE.mp e];simp
 .rcases bw.mp z with e |e
  .rw[e];simp
  .rw[bE.mp e];simp
 .change aa (D.tup [sT (cw (ctS w)),.int n,.lst (its.map jJ),.lst (ov.map prD)],_,)=aa (D.tup [.str (ctS w),.int n,.lst (its.map jJ),.lst (ov.map prD)],_,);rw[<- cwD];rfl
 .have e:p+(pWd (.ct w n its ov)).length=p+1+1+1+(jK its).length+(bX (cw "over") (cj ov)).length:=by
   change p+([cw (ctS w),aI n,cw "of"]++(jK its++bX (cw "over") (cj ov))).length=_;simp only[aX,aU,fM];lia
  rw[e];show cQ
def VQ:∀k∈kpW,k≠[]/\∀x∈k,97<=x:=by decide +kernel
variable{k:LN}
def uG(h:dq w=ac)(a:k∈kpW):w≠k:=λe=>by
 subst e
 delta dq at h
 rw[gW]at h
 rcases h with h |h
 .have(_,c,r,rfl,b):=MI h;have:=(VQ _ a).2 c bi
  lia
 .delta bG at h
  rw[cM]at h;have:kept w=ac:=any_eq_true.mpr (w,a,beq_self_eq_true _)
  grind
def Nj:cw "not" ∈ kpW:=by decide +kernel
def Nk:cw "least" ∈ kpW:=by decide +kernel
def Nl:cw "most" ∈ kpW:=by decide +kernel
def G0(a:w≠cw "least")(b:w≠cw "most"):dIn (sT w) (.tup [.str "least",.str "most"])=aa (.bl ah):=by
 change aa (D.bl ((_==tx w) || ((_==tx w) || false)))=_;rw[(beq_eq_false_iff_ne.mpr λe=>a (mW (e.symm.trans (cwT "least")))),(beq_eq_false_iff_ne.mpr λe=>b (mW (e.symm.trans (cwT "most"))))];rfl
def VR(b:Bool):dIn (sT (cw (ctS b))) (.tup [.str "least",.str "most"])=aa (.bl ac):=by
 rw[<- cwD]
 cases b <;> rfl
def VS{b:LN}(e:dq a=ac)(f:dq b=ac):Rds Bb [] [a,cw "unlike",b] (Pa.toD (.un a b)):=λl W p post hd g=>by
 have c:W.drop p=[a]++_:=hd;have d:=hZ c;show eO ?_
 delta Ba
 apply ar;show hU (cr (GY e) rfl c (by simp)) ?_;apply ar;show qF (uF (cwD "unlike") d) (fu (lC (bp (bq rfl) (bp (bq rfl) (bp (cr (GY f) rfl (fU d) g) rfl)))) cQ)
nonrec def bdP:Z0:=[[40],[44],cw "over",cw "unlike"]
def VT:([40]:LN)≠cw "unlike":=by decide +kernel
def VU(w:Bool):cw (ctS w)≠cw "not":=by cases w <;> decide +kernel
def VV{q:Pa}(h:lz q):Rds rE bdP (pWd q) q.toD:=λl W p post hd g=>by
 show eO ?_
 delta wU
 change wp _ [rd l W p] _;apply ar
 cases q with
 |no t=>
  have c:W.drop p=cw "not" :: (fD t++post):=hd;have j:=fU c;show kj (b:=ac) (ow (cwD "not") c) (λ_=>?_) λe=>by cases e
  show fu (lC (bp (bq rfl) (bp (cr (xN (show iO t from h)) rfl j λz=>g (by rw[bE.mp z];show bi)) rfl))) ?_;change kR l W (p+((fD t).length+1)) _ _;rw[show p+((fD t).length+1)=p+1+(fD t).length by lia]
  show cQ
 |ct w n its ov=>
  have c:=hd;show kj (b:=ah) (noX (cwD "not") c (VU w)) (λe=>by cases e) λ_=>bv ?_;apply ar;show kj (b:=ac) (ρ1:=[rd l W p]) (bxX (ki (iR l W p 0 [] rfl) (bq rfl) (by rw[jt,iS c];show VR w))) (λ_=>?_) λe=>by cases e
  show fu (cr (VP h) rfl hd λz=>g ?_) cQ
  rcases bw.mp z with e |z
  .rw[e];decide
  rcases bw.mp z with e |z
  .rw[e];decide
  .rw[bE.mp z];simp
 |un a b=>
  have(f,m):=(show dq a=ac/\dq b=ac from h);have c:=hd;show kj (b:=ah) (noX (cwD "not") c (uG f Nj)) (λe=>by cases e) λ_=>bv ?_;apply ar;show kj (b:=ah) (ρ1:=[rd l W p]) (bxX (ki (iR l W p 0 [] rfl) (bq rfl) (by rw[jt,iS c];show G0 (uG f Nk) (uG f Nl)))) (λe=>by cases e) λ_=>bv ?_;apply ar;show kj (b:=ac) (ρ1:=[rd l W p]) (bxX (ki (iR l W p 1 [] rfl) (bq (d:=sT (cw "unlike")) (congrArg aa (cwD "unlike"))) ((eqT _ _).trans (by rw[M8 c 1];show congrArg (λb=>aa (D.bl b)) (decide_eq_true rfl))))) (λ_=>?_) λe=>by cases e
  show fu (cr (VS f m) rfl hd (by simp)) cQ
 |is t=>
  have i:=h;have hn:=xF i.1;have c:=hd;show kj (b:=ah) (noX (cwD "not") c (uG hn Nj)) (λe=>by cases e) λ_=>bv ?_;apply ar;show kj (b:=ah) (ρ1:=[rd l W p]) (bxX (ki (iR l W p 0 [] rfl) (bq rfl) (by rw[jt,iS c];show G0 (uG hn Nk) (uG hn Nl)))) (λe=>by cases e) λ_=>bv ?_;apply ar
  have o:W.getD (p+1) []≠cw "unlike":=by
   rw[Cb (fU c)];split
   .show λz=>g (by rw[show N_k91.hd post=cw "unlike" from z];simp)
   .show VT
  show kj (b:=ah) (ρ1:=[rd l W p]) (bxX (ki (iR l W p 1 [] rfl) (bq (d:=sT (cw "unlike")) (congrArg aa (cwD "unlike"))) ((eqT _ _).trans (by rw[decide_eq_false o])))) (λe=>by cases e) λ_=>bv ?_;show fu (lC (bp (bq rfl) (bp (cr (xN i) rfl (show W.drop p=fD t++post from hd) λz=>g (by rw[bE.mp z];show bi)) rfl))) cQ
nonrec def bdB:Z0:=[cw "and",[40],[44],cw "over",cw "unlike"]
def VW:cw "and" ∉ bdP:=by decide +kernel
def G3(h:fw bd)(hn:bd≠[]):Rds ui bdB (bWd bd) (.lst (bd.map Pa.toD)):=λl W p post hd a=>by
 show eO ?_
 delta rF
 show Cc bd rfl (cwD "and") VW (λz=>a (bx _ z)) (λe=>a (by rw[e];show bi)) (λx hx=>VV (h.1 x hx)) hn (by have:=h.2;lia) hd (jA rfl cQ)
def Nm(h:fw bd):Rds mU (cw "if" :: bdB) (bX (cw "if") (bWd bd)) (.lst (bd.map Pa.toD)):=λl W p post hd a=>by
 show eO ?_
 delta wW
 by_cases e:bd=[]
 .subst e;show fu (md (noX (cwD "if") (show W.drop p=post from hd) λz=>a (by rw[z];show bi)) (λe=>by cases e) λ_=>bq rfl) cQ
 .have b:bX _ _=cw "if" :: bWd bd:=if_neg λz=>e (VM.mp z);rw[b]at hd ⊢;show fu (md (ow (cwD "if") hd) (λ_=>cr (G3 h e) rfl (fU (hd)) λz=>a (bx _ z)) λe=>by cases e) ?_;rw[aU,show p+_=p+1+(bWd bd).length by lia];show cQ
def Nn:cw "for" ∉ (cw "if" :: bdB):=by decide +kernel
def VX(bd:List Pa)(ps:List (LN×LN)):hd (eN bd ps)=cw "if" \/ hd (eN bd ps)=cw "for" \/ hd (eN bd ps)=[]:=by
 unfold eN bX;split
 .split
  .show .inr (.inr rfl)
  .show .inr (.inl rfl)
 .show .inl rfl
def No(bd:List Pa)(ps:List (LN×LN)):hd (eN bd ps)∉bdB:=by
 rcases VX bd ps with e |e |e <;> (rw[e];decide +kernel)
def Np(h:fw bd)(b:gF ps){W:Z0}(hd:W.drop p=eN bd ps):
  aw (av 0 "Reader" "read_if" rN mU aj) (aw (av 0 "Reader" "read_for" rN n6 aj) aj) (rd l W p::tl)=aa ([.lst (bd.map Pa.toD),.lst (ps.map prD)],rd l W (p+(eN bd ps).length)::tl,):=by
 have a:W.drop p=bX (cw "if") (bWd bd)++(bX (cw "for") (cj ps)++[]):=by rw[hd,bZ];rfl
 have e:p+(eN bd ps).length=p+(bX (cw "if") (bWd bd)).length+(bX (cw "for") (cj ps)).length:=by delta eN;rw[aX,uT]
 rw[e];show bp (cr (Nm h) rfl a (Ce Nn (by decide +kernel))) (bp (cr (Nf b) rfl (hZ a) (by decide +kernel)) rfl)
def Nq{l:Addr}{W:Z0}:∀(X3:Z0) (n p:Nat) (a:LD),(∀x∈X3,bG x=ac)->X3.length<n->a.length+X3.length<=1000->W.drop p=X3 ->
  gf (mBX (mX2 dNe (av 0 "Reader" "coming" rN gE (aw (mX (kI 0)) aj)) (mX (kSt "")))) (gR 1 (av 0 "Reader" "read_name" rN m_0 aj)) n [rd l W p,.own a]=aa (.nx [rd l W (p+X3.length),.own (a++X3.map sT)])
 | [],n+1,p,a,_,_,_,h=>by
  unfold gf;rw[bxX (b:=ah) (ki (iR l W p 0 _ rfl) (bq rfl) ((neT _ _).trans (by rw[jt,Cb h];rfl))),aE]
  simp_all
 |x::X3,n+1,p,a,hR,hl,ha,h=>by
  have hx:=hR x bi;have c:x≠[]:=λe=>by have:=(fT hx).1;rw[e]at this;simp_all
  have(o,f,j):=Mh (i:=1) (K:=λo=>o=.nx [rd l W (p+1),.own _]) rfl (cr (nm:="read_name") (ox hx) rfl (tl:=[.own a]) (h) (by simp)) (B:=a) rfl (by grind) rfl;subst j;unfold gf;rw[bxX (b:=ac) (ρ':=[rd l W p,.own a]) (ki (iR l W p 0 [.own a] rfl) (bq (d:=sT []) rfl) ((neT _ _).trans (by rw[jt,iS h,decide_eq_false c];rfl))),aE,f,aE];simp only[(Nq (l:=l) X3 n (p+1) (a++[sT x]) (λy g=>hR y (bx _ g)) (by grind) (by simp only[aU,aX,fM]at ha ⊢;lia) (fU h)),aU,eR,fb,show p+1+X3.length=p+(X3.length+1) by lia];rfl
variable{ns:Z0}
def VY(h:∀x∈ns,bG x=ac)(hn:ns≠[])(a:ns.length<=12){W:Z0}(hd:W.drop p=ns):uk l [] (fls W p)=aa (fls W (p+ns.length),.lst (ns.map sT),):=by
 cases ns with
 |nil=>simp_all
 |cons x X3=>
  show eO ?_
  delta w9
  change wp _ [rd l W p,.no] _;apply ar;show jZ (o:=.nx [rd l W (p+1),.own [sT x]]) ?_ ?_
  .delta jj
   rw[cr (ox (h x bi)) rfl (hd) (by simp)];rfl
  .change wp _ _ _;apply ar;show jZ (Nq X3 1000000000 _ _ (λy b=>h y (bx _ b)) (by simp only[aU]at a;lia) (by grind) (fU hd)) ?_;change wp _ [rd l W _,.own ((x::X3).map sT)] _;show jA (aM (al rfl (al rfl rfl)) (Cd _ 12 (by simp_all))) ?_;rw[aU,show p+_=p+1+X3.length by lia];show cQ
def Cf(bs:Zt):mE [.lst (bs.map D.bl)]=aa (.bl (bs.all id)):=Mj bs
def Nr(q:Pa):m2 dEq (mIx (aF 0) (kI 0)) (kSt "unlike") [.im q.toD]=aa (.bl q.unl):=by
 cases q with
 |is t=>rfl
 |no t=>rfl
 |un a b=>rfl
 |ct w n its ov=>cases w <;> rfl
def VZ(c:fw bd)(d:∃p∈bd,p.unl=ah)(f:gF ps){W:Z0}(hd:W.drop p=bWd bd++bX (cw "for") (cj ps)):rG l [] (fls W p)=aa (fls W (p+(bWd bd++bX (cw "for") (cj ps)).length),Ro.toD (.never bd ps),):=by
 have hn:bd≠[]:=λe=>by have(q,h,_):=d;rw[e]at h;simp_all
 have i:=c.2;show eO ?_
 delta pU
 apply ar
 have a:N_k91.hd (bX (cw "for") (cj ps))∉bdB:=by
  have:=Ce (bad:=bdB) (B:=cj ps) (q:=[]) (w:=cw "for") (by decide +kernel) (by decide +kernel);rw[bZ]at this;show this
 show hU (cr (G3 c hn) rfl hd a) ?_;apply ar
 have g:bP 1 [] (bH (af 1)) (aT 0) kY (m2 dEq (mIx (aF 0) (kI 0)) (kSt "unlike")) [rd l W (p+(bWd bd).length),.im (.lst (bd.map Pa.toD))]=aa ((bd.map Pa.unl).map D.bl):=by
  rw[map_map];show jz bd Pa.toD _ rfl (by lia) λq _=>je rfl rfl (Nr q)
 show bg (b:=ah) (iJ (aM (al (cg g) rfl) (Cf _)) ?_) (λe=>by cases e) λ_=>bv ?_
 .have:(bd.map Pa.unl).all id=ah:=by
   simp_all
  rw[this];rfl
 .show fu (lC (bp (bq rfl) (bp (bq rfl) (bp (cr (Nf f) rfl (by rw[bZ];show(hZ hd)) (by decide +kernel)) rfl)))) ?_;rw[aX,<- uT];show cQ
def V0{lo hi:Int}(h:lB (.choose lo hi its ov bd ps)){W:Z0}(hd:W.drop p=[aI lo,cw "to",aI hi,cw "of"]++(mZ its ov++eN bd ps)):uj l [] (fls W p)=aa (fls W (p+([aI lo,cw "to",aI hi,cw "of"]++(mZ its ov++eN bd ps)).length),Ro.toD (.choose lo hi its ov bd ps),):=by
 have(m,a,n,o,q):=(h);have hn:its≠[]:=λe=>by rw[e]at a;show absurd a.2.1 (by decide)
 have b:W.drop p=[aI lo]++(cw "to" :: ([aI hi]++(cw "of" :: (jK its++(bX (cw "over") (cj ov)++eN bd ps))))):=by
  rw[hd];change _++(jK its++bX _ _++eN bd ps)=_;simp
 have c:=hZ b;have d:=fU c;have f:=hZ d;have g:=fU f;have i:=hZ g;have j:=No bd ps;show eO ?_
 delta w5
 apply ar;show hU (cr (xM m.1) rfl b (by simp)) ?_;apply ar;show qF (uF (cwD "to") c) ?_;apply ar;show hU (cr (xM m.2) rfl d (by simp)) ?_;apply ar;show qF (uF (cwD "of") f) ?_;show fu (lC (bp (bq rfl) (bp (bq rfl) (bp (bq rfl) (bp (cr (Nh a.1 hn (by lia)) rfl g (Ce Ni λz=>j ?_)) (bp (cr (Ng n) rfl i λz=>j ?_) (Np o q (hZ i)))))))) ?_
 .rcases bw.mp z with e |z
  .rw[e];decide
  .rw[bE.mp z];simp
 .rcases bw.mp z with e |z
  .rw[e];decide
  .rw[bE.mp z];simp
 .have e:p+([aI lo,cw "to",aI hi,cw "of"]++(mZ its ov++eN bd ps)).length=p+1+1+1+1+(jK its).length+(bX (cw "over") (cj ov)).length+(eN bd ps).length:=by
   delta mZ
   simp only[aX,aU,fM]
   lia
  rw[e];show cQ
def G4(a:w≠cw "rule")(b:w≠cw "may"):dIn (sT w) (.tup [.str "rule",.str "may"])=aa (.bl ah):=by
 change aa (D.bl ((_==tx w) || ((_==tx w) || false)))=_;rw[(beq_eq_false_iff_ne.mpr λe=>a (mW (e.symm.trans (cwT "rule")))),(beq_eq_false_iff_ne.mpr λe=>b (mW (e.symm.trans (cwT "may"))))];rfl
def Nt(b:Bool):dIn (sT (cw (ruS b))) (.tup [.str "rule",.str "may"])=aa (.bl ac):=by
 rw[<- cwD]
 cases b <;> rfl
def eqC(w:LN)(z:Str):dEq (sT w) (.str z)=aa (.bl (decide (w=cw z))):=by rw[cwD z];show eqT _ _
def V1(h:lB r)(l:Addr):pV l [] (fls (iQ r) 0)=aa (fls (iQ r) (iQ r).length,r.toD,):=by
 show eO ?_;unfold ul;change wp _ [rd l (iQ r) 0,.no] _;apply ar;show hU (iw (p:=0) rfl rfl (rY l (iQ r) 0)) ?_
 cases r with
 |kind n ns=>
  have(g,i,f,x):=(show bG n=ac/\(∀w∈ns,bG w=ac)/\0<ns.length/\ns.length<=12 from h);have q:ns≠[]:=λe=>by rw[e]at f;show absurd f (by decide)
  change wp _ [rd l (cw "kind" :: n::ns) (0+1),.im (sT (cw "kind"))] _;have a:(cw "kind" :: n::ns).drop (0+1)=[n]++ns:=rfl;have m:=hZ a;apply ar;show bg (b:=ac) (br (aA rfl rfl ((eqC _ _).trans (by rw[decide_eq_true rfl])))) (λ_=>?_) λe=>by cases e
  show fu (d:=Ro.toD (.kind n ns)) (ρ1:=[rd l (cw "kind" :: n::ns) (0+1+1+ns.length),.im (sT (cw "kind"))]) (lC (bp (bq rfl) (bp (cr (ox g) rfl a (by simp)) (bp (iw (j:=[]) rfl rfl (VY i q x m)) rfl)))) ?_;change kR l (cw "kind" :: n::ns) (ns.length+1+1) _ _;rw[show ns.length+1+1=0+1+1+ns.length by lia]
  show cQ
 |rule b t bd ps=>
  have(g,i,f):=(show iO t/\fw bd/\gF ps from h);change wp _ [rd l (cw (ruS b)::(fD t++eN bd ps)) (0+1),.im (sT (cw (ruS b)))] _;have a:(cw (ruS b)::(fD t++eN bd ps)).drop (0+1)=fD t++eN bd ps:=rfl;have m:=hZ a;have v:=No bd ps;generalize u:cw (ruS b)::(fD t++eN bd ps)=W at a m;have o:W.length=0+1+(fD t).length+(eN bd ps).length:=by rw[<- u,aU,aX];lia
  apply ar
  show bg (b:=ah) (br (aA rfl rfl ((eqC _ _).trans (by rw[decide_eq_false (by cases b <;> decide +kernel)])))) (λe=>by cases e) λ_=>bv ?_
  change wp _ [rd l W (0+1),.im (sT (cw (ruS b)))] _;apply ar;show bg (b:=ac) (br (aA rfl rfl (Nt b))) (λ_=>?_) λe=>by cases e
  show fu (d:=Ro.toD (.rule b t bd ps)) (ρ1:=[rd l W (0+1+(fD t).length+(eN bd ps).length),.im (sT (cw (ruS b)))]) ((lC (bp (bq rfl) (bp (cr (xN g) rfl a λz=>v (by rw[bE.mp z];simp)) (Np i f m)))).trans ?_) ?_
  .change aa (D.tup [sT (cw (ruS b)),thD t,.lst (bd.map Pa.toD),.lst (ps.map prD)],_,)=aa (D.tup [.str (ruS b),thD t,.lst (bd.map Pa.toD),.lst (ps.map prD)],_,);rw[<- cwD]
  .have:iQ (.rule b t bd ps)=W:=u;rw[this,o]
   show cQ
 |choose lo hi its ov bd ps=>
  change wp _ [rd l (cw "choose" :: ([aI lo,cw "to",aI hi,cw "of"]++(mZ its ov++eN bd ps))) (0+1),.im (sT (cw "choose"))] _;have a:(cw "choose" :: ([aI lo,cw "to",aI hi,cw "of"]++(mZ its ov++eN bd ps))).drop (0+1)=[aI lo,cw "to",aI hi,cw "of"]++(mZ its ov++eN bd ps):=rfl;generalize c:[aI lo,cw "to",aI hi,cw "of"]++(mZ its ov++eN bd ps)=X at a;apply ar;show bg (b:=ah) (br (aA rfl rfl ((eqC _ _).trans (by rw[decide_eq_false (by decide +kernel)])))) (λe=>by cases e) λ_=>bv ?_;change wp _ [rd l (cw "choose" :: X) (0+1),.im (sT (cw "choose"))] _;apply ar;show bg (b:=ah) (br (aA rfl rfl (G4 (by decide +kernel) (by decide +kernel)))) (λe=>by cases e) λ_=>bv ?_;change wp _ [rd l (cw "choose" :: X) (0+1),.im (sT (cw "choose"))] _;apply ar;show bg (b:=ac) (br (aA rfl rfl ((eqC _ _).trans (by rw[decide_eq_true rfl])))) (λ_=>?_) λe=>by cases e
  have em:=V0 h (l:=l) (W:=cw "choose" :: X) (p:=0+1) (by rw[c];show a);rw[c]at em;show fu (iw (j:=[]) rfl rfl em) ?_;have:iQ (.choose lo hi its ov bd ps)=cw "choose" :: X:=by rw[<- c];rfl
  rw[this,aU,show X.length+1=0+1+X.length by lia]
  show cQ
 |never bd ps=>
  have(g,i,f):=(show fw bd/\(∃p∈bd,p.unl=ah)/\gF ps from h);change wp _ [rd l (cw "never" :: (bWd bd++bX (cw "for") (cj ps))) (0+1),.im (sT (cw "never"))] _;have a:(cw "never" :: (bWd bd++bX (cw "for") (cj ps))).drop (0+1)=bWd bd++bX (cw "for") (cj ps):=rfl;generalize c:bWd bd++bX (cw "for") (cj ps)=X at a;apply ar;show bg (b:=ah) (br (aA rfl rfl ((eqC _ _).trans (by rw[decide_eq_false (by decide +kernel)])))) (λe=>by cases e) λ_=>bv ?_;apply ar;show bg (b:=ah) (br (aA rfl rfl (G4 (by decide +kernel) (by decide +kernel)))) (λe=>by cases e) λ_=>bv ?_;apply ar;show bg (b:=ah) (br (aA rfl rfl ((eqC _ _).trans (by rw[decide_eq_false (by decide +kernel)])))) (λe=>by cases e) λ_=>bv ?_;apply ar;have em:=VZ g i f (l:=l) (W:=cw "never" :: X) (p:=0+1) (by rw[c];show a);rw[c]at em;show fu (iw (j:=[]) rfl rfl em) ?_;have:iQ (.never bd ps)=cw "never" :: X:=by rw[<- c];rfl
  rw[this,aU,show X.length+1=0+1+X.length by lia];show cQ
open Classical in
def Nu{W:Z0}{q:Nat}{a b:Sl}(hn:rN.contains nm=ah)(h:∀l,m l [] (fls W p)=aa (fls W q,d,)):nQ 1 "Reader" nm rN m aj [a,.obj "Reader" rN (fls W p),b]=aa (d,[a,.obj "Reader" rN (fls W q),b],):=by
 unfold nQ;change(if ("Reader":Str)="Reader" /\ rN=rN/\rN.contains nm=ah then _ else ae)=_;rw[if_pos (rfl,rfl,hn)];change(if ("Reader":Str)="Reader" /\ rN=rN then (if h:∃q,∀l,m l [] (fls W p)=aa q then aa (h.choose.2,[a,.obj "Reader" rN h.choose.1,b],) else ae) else ae)=_;rw[if_pos (rfl,rfl),dif_pos ((fls W q,d,),h)]
 have e:(((fls W q,d,),h):∃q,∀l,m l [] (fls W p)=aa q).choose=(fls W q,d,):=by
  have:=(((fls W q,d,),h):∃q,∀l,m l [] (fls W p)=aa q).choose_spec 0;rw[h 0]at this;show cp this.symm
 rw[e]
def wX:LN:=[88]
def wXa:LN:=[88,97]
def wXb:LN:=[88,98]
def wY:LN:=[89]
def wA:LN:=[65]
def roF(o r k:LN)(n:Int):List Ro:=[
 .rule ac (o,[wX],) [.no (r,[o,wX],)] [(wX,k,)],
 .rule ah (o,[wXa,wXb],) [] [(wXa,k,),(wXb,k,)],
 .choose (-1) n [((o,[],),1,),((r,[wX],),3,)] [(wX,k,)] [] [],
 .never [.is (o,[],),.ct ac n [((o,[wY],),0,)] [(wY,k,)]] [],
 .never [.un wX o,.is (r,[wX,wX,wX],)] [(wX,k,)],
 .rule ac (r,[],) [.ct ah n [((o,[wA],),1,),((r,[wA],),1,)] [(wA,k,)]] []]
variable{o r:LN}
def V2(e:bG o=ac)(f:bG r=ac)(m:bG k=ac)(hn:du n):∀x∈roF o r k n,lB x:=by
 have j:fS wX=ac:=by decide +kernel
 have c:fS wXa=ac:=by decide +kernel
 have d:fS wXb=ac:=by decide +kernel
 have l:fS wY=ac:=by decide +kernel
 have g:fS wA=ac:=by decide +kernel
 have a:∀{w},fS w=ac->dq w=ac:=λh=>by delta dq;rw[h];rfl
 have b:∀{w},bG w=ac->dq w=ac:=λh=>by delta dq;rw[h,r9]
 have t:du (-1):=(by decide,by decide);intro x hx;simp only[roF,bw,c7,or_false]at hx
 rcases hx with rfl |rfl |rfl |rfl |rfl |rfl <;>
  simp[lB,iO,fw,gF,lz,gm,gU,Pa.unl,e,f,m,hn,t,j,c,d,l,g,a j,a c,a d,a l,a g,b e,b f]
 .simp_all
 .rintro p q i (⟨⟨rfl,rfl⟩,rfl⟩ |⟨⟨rfl,rfl⟩,rfl⟩) <;> simp[e,f,a g]
def lc0:("rule ":Str).cps.toList=[114,117,108,101,32]:=by decide +kernel
def lc1:("(X) if not ":Str).cps.toList=[40,88,41,32,105,102,32,110,111,116,32]:=by decide +kernel
def lc2:("(":Str).cps.toList=[40]:=by decide +kernel
def lc3:(",X) for X in ":Str).cps.toList=[44,88,41,32,102,111,114,32,88,32,105,110,32]:=by decide +kernel
def lc4:("may ":Str).cps.toList=[109,97,121,32]:=by decide +kernel
def lc5:("(Xa,Xb) for Xa in ":Str).cps.toList=[40,88,97,44,88,98,41,32,102,111,114,32,88,97,32,105,110,32]:=by decide +kernel
def lc6:(", Xb in ":Str).cps.toList=[44,32,88,98,32,105,110,32]:=by decide +kernel
def lc7:("choose -1 to ":Str).cps.toList=[99,104,111,111,115,101,32,45,49,32,116,111,32]:=by decide +kernel
def lc8:(" of ":Str).cps.toList=[32,111,102,32]:=by decide +kernel
def lc9:(", 3 ":Str).cps.toList=[44,32,51,32]:=by decide +kernel
def Nv:("(X) over X in ":Str).cps.toList=[40,88,41,32,111,118,101,114,32,88,32,105,110,32]:=by decide +kernel
def Nw:("never ":Str).cps.toList=[110,101,118,101,114,32]:=by decide +kernel
def Nx:(" and least ":Str).cps.toList=[32,97,110,100,32,108,101,97,115,116,32]:=by decide +kernel
def Ny:(" of 0 ":Str).cps.toList=[32,111,102,32,48,32]:=by decide +kernel
def Nz:("(Y) over Y in ":Str).cps.toList=[40,89,41,32,111,118,101,114,32,89,32,105,110,32]:=by decide +kernel
def Cg:("never X unlike ":Str).cps.toList=[110,101,118,101,114,32,88,32,117,110,108,105,107,101,32]:=by decide +kernel
def NA:(" and ":Str).cps.toList=[32,97,110,100,32]:=by decide +kernel
def NB:("(X,X,X) for X in ":Str).cps.toList=[40,88,44,88,44,88,41,32,102,111,114,32,88,32,105,110,32]:=by decide +kernel
def NC:(" if most ":Str).cps.toList=[32,105,102,32,109,111,115,116,32]:=by decide +kernel
def ND:("(A), ":Str).cps.toList=[40,65,41,44,32]:=by decide +kernel
def NE:("(A) over A in ":Str).cps.toList=[40,65,41,32,111,118,101,114,32,65,32,105,110,32]:=by decide +kernel
def G5:("rule":Str).cps.toList=[114,117,108,101]:=by decide +kernel
def NF:("may":Str).cps.toList=[109,97,121]:=by decide +kernel
def NG:("choose":Str).cps.toList=[99,104,111,111,115,101]:=by decide +kernel
def G6:("never":Str).cps.toList=[110,101,118,101,114]:=by decide +kernel
def V3:("not":Str).cps.toList=[110,111,116]:=by decide +kernel
def NH:("unlike":Str).cps.toList=[117,110,108,105,107,101]:=by decide +kernel
def V4:("least":Str).cps.toList=[108,101,97,115,116]:=by decide +kernel
def V5:("most":Str).cps.toList=[109,111,115,116]:=by decide +kernel
def NI:("of":Str).cps.toList=[111,102]:=by decide +kernel
def V6:("to":Str).cps.toList=[116,111]:=by decide +kernel
def NJ:("if":Str).cps.toList=[105,102]:=by decide +kernel
def NK:("for":Str).cps.toList=[102,111,114]:=by decide +kernel
def V7:("kind":Str).cps.toList=[107,105,110,100]:=by decide +kernel
def V8:aI (-1)=[45,49]:=by decide +kernel
def n_3:aI 3=[51]:=by decide +kernel
def n_0:aI 0=[48]:=by decide +kernel
def roT(b:o≠[])(c:r≠[])(a:k≠[]):(roF o r k n).map fA=fmP.map λps=>ps.flatMap (fP o r k (aI n)):=by
 simp only[roF,fmP,eR,List.cons.injEq]
 show(?_,?_,?_,?_,?_,?_) <;>
  simp[fA,uz,ruS,ctS,jm,ovL,pT,pL,thT,itT,isT,prT,psT,bT,jn,fP,tz,cw,dX,V8,n_3,n_0,wX,wXa,wXb,wY,wA,lc0,lc1,lc2,lc3,lc4,lc5,lc6,lc7,lc8,lc9,Nv,Nw,Nx,Ny,Nz,Cg,NA,NB,NC,ND,NE,G5,NF,NG,G6,V3,NH,V4,V5,NI,V6,NJ,NK]
def xO{x:Nat}{q:LN}(h:∀a,ws r a=ws q a)(a:LN):ws (x::r) a=ws (x::q) a:=by
 unfold ws;rw[h,h]
def NL{r q:LN}(h:∀a,ws r a=ws q a):∀(p a:LN),ws (p++r) a=ws (p++q) a
 | [],a=>h a
 |x::p,a=>xO (λc=>NL h p c) a
def Ch{c:Nat}{w:LN}(b:∀r a,ws (w++r) a=ws (c::r) a):∀l a,ws (rpS [c] w l 0) a=ws l a
 | [],_=>rfl
 |x::r,a=>by
  rw[rpS]
  by_cases e:c=x
  .subst e;rw[if_pos (by simp_all),b];show xO (λz=>Ch b r z) a
  .rw[if_neg (by simp[e])];show xO (λz=>Ch b r z) a
def pOf:LN:=[111,102,32]
def NM(r a:LN):ws (32::32::r) a=ws (32::r) a:=by simp[ws,fl]
def G7:∀(n:Nat) (l:LN),l.length<=n->∀a,ws (rpS (32::pOf) (32::32::pOf) l 0) a=ws l a
 | _,[],_,_=>rfl
 | 0,_::_,h,_=>absurd h (Nat.not_succ_le_zero _)
 |n+1,x::r,h,a=>by
  by_cases e:(32::pOf).isPrefixOf (x::r)=ac
  .have(q,d):=CD.mp e;rw[<- d,L5]
   have b:q.length<=n:=by
    grind
   change ws (32::32::_) a=ws _ a;rw[NM];show xO (λc=>NL (λz=>G7 n q b z) pOf c) a
  .rw[rpS,if_neg e];show xO (λz=>G7 n r (Nat.le_of_succ_le_succ h) z) a
def typ(t:LN):LN:=32::32::rpS (32::pOf) (32::32::pOf) (rpS [44] [32,44,32,32] (rpS [40] [32,40,32] t 0) 0) 0
def V9(t:LN):ws (typ t) []=ws t []:=by
 unfold typ;rw[NM];have e:∀r,ws (32::r) []=ws r []:=λr=>by simp[ws,fl]
 rw[e,G7 _ _ (bu _),Ch (λr a=>by simp[ws,fl,jl]),Ch (λr a=>by simp[ws,fl,jl])]
def Wb(t:LN):(typ t).length<=2+t.length*120:=by
 have a:=lw (p:=[40]) (w:=[32,40,32]) t 0;have b:=lw (p:=[44]) (w:=[32,44,32,32]) (rpS [40] [32,40,32] t 0) 0;have c:=lw (p:=32::pOf) (w:=32::32::pOf) (rpS [44] [32,44,32,32] (rpS [40] [32,40,32] t 0) 0) 0;have d:([32,40,32]:LN).length=3:=rfl;have e:([32,44,32,32]:LN).length=4:=rfl;have f:(32::32::pOf).length=5:=rfl;rw[d]at a;rw[e]at b;rw[f]at c
 delta typ
 rw[aU,aU]
 lia
def NN{r:Ro}(h:lB r):ws (fA r) []=iQ r:=by
 have e:=VG h [] (.inl rfl);rw[bZ]at e;rw[e];change iQ r++fl []=_;rw[show fl []=[]from rfl,bZ]
def Wc{r:Ro}(h:lB r){t:LN}(a:t.length<=20000)(b:ws t []=iQ r):m_3 [.str (tx t)]=aa r.toD:=by
 apply eE
 delta b_3
 apply ar;show jZ (o:=.nx [.im (.str (tx t)),.obj "Reader" rN (fls (iQ r) 0),.no]) ?_ ?_
 .delta tG
  rw[al (aM rfl ((Mg t a).trans (by rw[b]))) rfl];rfl
 apply ar;show hU (Nu rfl λl=>V1 h l) ?_;apply ar;show qF (Nu rfl λl=>VJ (bu _)) (JC rfl (fm rfl))
def We{G:Nat->Z3}{o:Fl}(h:f U=aa (.int n))(j:n.natAbs.log2<1920)(c:0<X5)(d:∀a,X5<a->wp (G a) (U.set i (.im (.tx (tx (aI n)) a))) (λx=>x=o))(k:K o):wp (wj X5 i f G) U K:=by
 have b:∀a,X5<a->G a (U.set i (.im (.tx (sx _) a)))=aa o:=λa g=>by
  have(x,e,rfl):=d a g;show e
 show(o,?_,k)
 delta wj
 rw[h,aE];change(if n.natAbs.log2<1920/\0<X5 then _ else _)=_;rw[if_pos (j,c)];have hx:∃o,∀a,X5<a->G a (U.set i (.im (.tx _ a)))=aa o:=(o,b);show(dif_pos hx).trans ?_;have e:=hx.choose_spec _ (jr X5);rw[b _ (jr X5)]at e;show e.symm
variable{l:LN}{p:Str}
def NO{z:LN}(hp:0<p.length):nw (tx l) p (tx z)=tx (rpS p.cps.toList z l 0):=by
 have e:=UH (tx l) p (tx z) hp;rw[<- oa (nw (tx l) p (tx z)),e]
def Ci{n:Nat}{z:LN}(h:f U=aa (.str (tx l)))(hi:U[i]?=aa (.im (.tx (tx z) n)))(b:0<X5)(hn:n<=X5)(hp:0<p.length)(c:p.cps.toList≠z)(d:l.length<=100000)(a:z.length<=100):pJ X5 f i p U=aa (.str (tx (rpS p.cps.toList z l 0))):=by
 delta pJ
 rw[h,aE,hi];change(if 0<X5/\n<=X5/\_=ah/\(tx l).length+_*(tx z).length<=16777216 then _ else _)=_;rw[if_pos,NO hp];show(b,hn,beq_eq_false_iff_ne.mpr λe=>c (by rw[e]),?_);rw[dQ,dQ];have:=oG (show l.length+1<=100001 by lia) a
 lia
def G8(h:f U=aa (.str (tx l)))(b:0<X5)(hp:0<p.length)(g:(p==z)=ah)(d:l.length<=100000)(a:z.length<=100):qT X5 f p z U=aa (.str (tx (rpS p.cps.toList z.cps.toList l 0))):=by
 delta qT
 rw[h,aE];change(if 0<X5/\_=ah/\(tx l).length+_*z.length<=16777216 then aa _ else _)=_
 have c:(tx l).length+((tx l).length+1)*z.length<=16777216:=by
  rw[dQ];have:=oG (show l.length+1<=100001 by lia) a
  lia
 have e:nw (tx l) p z=tx (rpS p.cps.toList z.cps.toList l 0):=by
  rw[<- NO hp,oa]
 simp_all
def Wf{u:LN}(b:o.length<=8)(c:r.length<=8)(a:k.length<=8)(d:u.length<=31):∀ps∈fmP,(ps.flatMap (fP o r k u)).length<=120:=by
 intro ps h;simp only[fmP,bw,c7,or_false]at h
 rcases h with rfl |rfl |rfl |rfl |rfl |rfl <;>
  (simp only[kA,flatMap_nil,aX,fP,tz,lc0,lc1,lc2,lc3,lc4,lc5,lc6,lc7,lc8,lc9,Nv,Nw,Nx,Ny,Nz,Cg,NA,NB,NC,ND,NE,aU,fM];lia)
def Wg(c:low o/\o≠[])(d:low r/\r≠[])(b:low k/\k≠[]){s:Str}(f:fmS[X6]?=aa s):∃ps∈fmP,∃x∈roF o r k n,rpS cO o s.cps.toList 0=ps.flatMap (fP o cR cK cN)/\ps.flatMap (fP o r k (aI n))=fA x:=by
 have e:=congrArg (λl=>l[X6]?) (UT o);have a:=congrArg (λl=>l[X6]?) (roT (n:=n) c.2 d.2 b.2);simp only[fV,f]at e a
 cases hp:fmP[X6]? with
 |none=>rw[hp]at e;nomatch e
 |some ps=>
  rw[hp]at e a
  cases hx:(roF o r k n)[X6]? with
  |none=>rw[hx]at a;nomatch a
  |some x=>
   rw[hx]at a;show(ps,iV hp,x,iV hx,cp e,(cp a).symm)
nonrec def plD(X5:Nat)(ws:Z0):D:=.lst (ws.map λw=>.tx (tx w) X5)
structure m3(ws:Z0):Prop where
 len:ws.length=6
 low:∀w∈ws,low w/\bG w=ac
def Wh(h:low w)(a:1<=w.length)(b:w.length<=8)(c:kept w=ah):bG w=ac:=by
 delta bG made
 rw[decide_eq_true a,decide_eq_true b,c]
 have : pZ smL w=ac:=all_eq_true.mpr λx hx=>decide_eq_true (by
  have e:smL=(eQ 26).map (97 + ·):=by decide +kernel
  rw[e,iW];exact⟨x-97,kC.mpr (by have:=h x hx;lia),by have:=h x hx;lia⟩)
 simp_all
def Wi(z:Str):kept z.cps.toList=jH z:=by
 delta kept jH kpW
 rw[any_map]
 congr 1
 funext k;apply ku.mpr;change(k.cps.toList==z.cps.toList)=ac↔_=ac;rw[beq_iff_eq,beq_iff_eq];show(λe=>by rw[<- oa k,<- oa z,e],λe=>by rw[e])
def Wj(h:Ma zs):m3 (zs.map λz=>z.cps.toList):=by
 show(by rw[bh];show h.len,λw e=>?_);have(z,f,rfl):=iW.mp e;have(a,b,c,d):=h.low z f;show(a,Wh a b c (by rw[Wi,d]))
def Wk(zs:Z1)(X5:Nat):D.lst (zs.map λz=>.tx z X5)=plD X5 (zs.map λz=>z.cps.toList):=by
 change _=D.lst _;rw[map_map];rfl
def xP{ws:Z0}(b:m3 ws)(X5:Nat)(v:Int){m:Int}(hm:m=3\/m=6):∃w,w∈ws/\atI (ws.map λw=>D.tx (tx w) X5) (v % m)=aa (.tx (tx w) X5):=by
 have c:=b.len;have(w,e,a):=td (B:=ws) (iA v (show m≠0 by lia)) (by lia);show(w,iV e,a)
structure Lr where
 ty:LN
 te:LN
 nm:LN
 us:LN
 ok:Bool
def Lr.toD(x:Lr):D:=.tup [sT x.ty,sT x.te,sT x.nm,sT x.us,.bl x.ok]
structure xQ(x:Lr)(r:Ro):Prop where
 te:x.te=fA r
 wd:ws x.ty []=iQ r
 tl:x.ty.length<=20000
 ok:lB r
def Wl{ws:Z0}(u:m3 ws)(hB:0<X5)(c:Int):∃o r k n,∃x∈roF o r k n,∃y:Lr,(o∈ws/\r∈ws/\k∈ws/\du n)/\xQ y x/\y.nm=[]/\y.us=k/\y.ok=ac/\xj X5 [.int c,plD X5 ws]=aa y.toD:=by
 have(v1,e1,a1,b1):=hV c 1 (by decide) (by decide);have(v2,e2,a2,b2):=hV c 2 (by decide) (by decide);have(v3,e3,a3,b3):=hV c 3 (by decide) (by decide);have(v4,e4,a4,b4):=hV c 4 (by decide) (by decide);have(v5,e5,a5,b5):=hV c 5 (by decide) (by decide);have(E,e6,a6,b6):=hV c 6 (by decide) (by decide);have(k,hk,ek):=xP u X5 v1 (.inl rfl);have(o,ho,eo):=xP u X5 v2 (.inr rfl);have(r,hr,er):=xP u X5 v3 (.inr rfl);have q0:=iA c (show(10:Int) ^ (20:Int).toNat≠0 by decide);have q1:=iU c (show 0<(10:Int) ^ (20:Int).toNat by decide);have H:(10:Int) ^ (20:Int).toNat=100000000000000000000:=by decide
 have U:qm 10 20:=(by decide,by decide,by decide);generalize hn:v4 % 3+c % 10 ^ (20:Int).toNat=n;have v:(10:Int) ^ 30=1000000000000000000000000000000:=by decide
 have i:du n:=(by rw[v];lia,by rw[v];lia);have(lo,no):=u.low o ho;have(G,nr):=u.low r hr;have(T,nk):=u.low k hk;have so:=fT no;have sr:=fT nr;have sk:=fT nk;have sn:=mY i;have ne:∀{w:LN},0<w.length/\w.length<=8->w≠[]:=λh z=>by rw[z]at h;show absurd h.1 (by decide)
 have c5:=iA v5 (show(6:Int)≠0 by decide);have d5:=iU v5 (show(0:Int)<6 by decide);have(s,es,I):=td (f:=D.str) (B:=fmS) c5 d5;have(ps,g,x,hx,t1,t2):=Wg (n:=n) (lo,ne so) (G,ne sr) (T,ne sk) es;have Y:=V2 no nr nk i x hx;have tl:=Wf so.2 sr.2 sk.2 sn.2 ps g;rw[t2]at tl;show(o,r,k,n,x,hx,?_)
 have J:∀ty:LN,(ty=fA x\/ty=typ (fA x))->xQ (ty,fA x,[],k,ac) x:=λty h=>by
  show(rfl,?_,?_,Y)
  .rcases h with e |e
   .change N_k91.ws ty []=_;rw[e,NN Y]
   .change N_k91.ws ty []=_;rw[e,V9,NN Y]
  .have:=Wb (fA x)
   rcases h with e |e <;> (change ty.length<=_;rw[e];lia)
 suffices h:∃ty:LN,(ty=fA x\/ty=typ (fA x))/\xj X5 [.int c,plD X5 ws]=aa (Lr.toD (ty,fA x,[],k,ac)) by
  have(ty,h1,h2):=h;show((ty,fA x,[],k,ac),(ho,hr,hk,i),J ty h1,rfl,rfl,rfl,h2)
 obtain⟨ty,A,C⟩:∃ty:LN,(E % 2=1->ty=typ (fA x))/\(E % 2≠1->ty=fA x):=by
  by_cases h:E % 2=1
  .show(_,λ_=>rfl,λz=>absurd h z)
  .show(_,λz=>absurd z h,λ_=>rfl)
 show(ty,(Classical.em (E % 2=1)).elim (λh=>.inr (A h)) (λh=>.inl (C h)),?_);apply eE;unfold Bk;change wp _ [.im (.int c),.im (plD X5 ws),.no,.no,.no,.no,.no,.no,.no] _;apply ar;show bF (aL rfl (aA (aM (al rfl (al rfl rfl)) e1) rfl (dN (by decide))) ek) ?_;change wp _ [.im (.int c),.im (plD X5 ws),.im (.tx (tx k) X5),.no,.no,.no,.no,.no,.no] _;apply ar;show bF (aL rfl (aA (aM (al rfl (al rfl rfl)) e2) rfl (dN (by decide))) eo) ?_;change wp _ [.im (.int c),.im (plD X5 ws),.im (.tx (tx k) X5),.im (.tx (tx o) X5),.no,.no,.no,.no,.no] _;apply ar;show bF (aL rfl (aA (aM (al rfl (al rfl rfl)) e3) rfl (dN (by decide))) er) ?_;change wp _ [.im (.int c),.im (plD X5 ws),.im (.tx (tx k) X5),.im (.tx (tx o) X5),.im (.tx (tx r) X5),.no,.no,.no,.no] _;show We (n:=n) (o:=.rt (Lr.toD (ty,fA x,[],k,ac))) (by rw[<- hn];show aA (aA (aM (al rfl (al rfl rfl)) e4) rfl (dN (by decide))) (aA rfl (aA rfl rfl (JA U)) (dN (by rw[H];decide))) lY) (GK i) hB (λj hB'=>?_) (fm rfl);change wp _ [.im (.int c),.im (plD X5 ws),.im (.tx (tx k) X5),.im (.tx (tx o) X5),.im (.tx (tx r) X5),.im (.tx (tx (aI n)) j),.no,.no,.no] _;apply ar;show mF rfl ?_;apply ar;show nO rfl rfl (by decide) ?_;apply ar;show nO rfl rfl (by decide) ?_;apply ar;show nO rfl rfl (by decide) ?_;apply ar;show nO rfl rfl (by decide) ?_;change wp _ [.im (.int c),.im (plD X5 ws),.im (.tx (tx k) X5),.im (.tx (tx o) X5),.im (.tx (tx r) X5),.im (.tx (tx (aI n)) j),.own (fmS.map D.str),.no,.no] _;have a:0<j:=by lia
 have m:X5<=j:=by lia
 have l0:s.cps.toList.length<=100:=by
  have key:∀s∈fmS,s.cps.toList.length<=100:=by decide +kernel
  show key s (iV es)
 have l1:=lw (p:=cO) (w:=o) s.cps.toList 0;have N:(rpS cO o s.cps.toList 0).length<=900:=cf l1 (oG l0 (show o.length+1<=9 by lia));have l2:=lw (p:=cR) (w:=r) (rpS cO o s.cps.toList 0) 0;have Q:(rpS cR r (rpS cO o s.cps.toList 0) 0).length<=8100:=cf l2 (oG N (show r.length+1<=9 by lia));have l3:=lw (p:=cK) (w:=k) (rpS cR r (rpS cO o s.cps.toList 0) 0) 0;have l3':(rpS cK k (rpS cR r (rpS cO o s.cps.toList 0) 0) 0).length<=72900:=cf l3 (oG Q (show k.length+1<=9 by lia));have n1:cO≠o:=λe=>og lo (show 79<97 by decide) (e▸(show 79∈cO by decide));have n2:cR≠r:=λe=>og G (show 79<97 by decide) (e▸(show 79∈cR by decide));have n3:cK≠k:=λe=>og T (show 75<97 by decide) (e▸(show 75∈cK by decide));have n4:cN≠aI n:=λe=>by have:=GR 78 (e▸(show 78∈cN by decide));lia
 apply ar;show bF (d:=.str (tx (rpS cR r (rpS cO o s.cps.toList 0) 0))) (Ci (p:="OTHER") (Ci (p:="ONE") (l:=s.cps.toList) ?_ rfl a m (by decide) n1 (by lia) (by lia)) rfl a m (by decide) n2 (by lia) (by lia)) ?_
 .rw[oa];show aL rfl (aA (aM (al rfl (al rfl rfl)) e5) rfl (dN (by decide))) I
 change wp _ [.im (.int c),.im (plD X5 ws),.im (.tx (tx k) X5),.im (.tx (tx o) X5),.im (.tx (tx r) X5),.im (.tx (tx (aI n)) j),.own (fmS.map D.str),.im (.str (tx (rpS cR r (rpS cO o s.cps.toList 0) 0))),.no] _;apply ar;show bF (d:=.str (tx (rpS cN (aI n) (rpS cK k (rpS cR r (rpS cO o s.cps.toList 0) 0) 0) 0))) (Ci (p:="NUMBER") (Ci (p:="KIND") rfl rfl a m (by decide) n3 (by lia) (by lia)) rfl a (bu _) (by decide) n4 (by lia) (by lia)) ?_
 have et:rpS cN (aI n) (rpS cK k (rpS cR r (rpS cO o s.cps.toList 0) 0) 0) 0=fA x:=by
  rw[t1,UU g lo,UV g lo G,UW g lo G T,t2]
 rw[et];generalize fA x=te at *;change wp _ [.im (.int c),.im (plD X5 ws),.im (.tx (tx k) X5),.im (.tx (tx o) X5),.im (.tx (tx r) X5),.im (.tx (tx (aI n)) j),.own (fmS.map D.str),.im (.str (tx te)),.no] _;apply ar;show bF (d:=.str (tx te)) rfl ?_;change wp _ [.im (.int c),.im (plD X5 ws),.im (.tx (tx k) X5),.im (.tx (tx o) X5),.im (.tx (tx r) X5),.im (.tx (tx (aI n)) j),.own (fmS.map D.str),.im (.str (tx te)),.im (.str (tx te))] _;apply ar
 have tail:∀t:LN,wp (ao (cz (cH (ag (af 8) (ag (af 7) (ag (kSt "") (ag (mWk (af 2)) (ag (kBl ac) nZ))))))) aY) [.im (.int c),.im (plD X5 ws),.im (.tx (tx k) X5),.im (.tx (tx o) X5),.im (.tx (tx r) X5),.im (.tx (tx (aI n)) j),.own (fmS.map D.str),.im (.str (tx te)),.im (.str (tx t))] (λz=>z=.rt (Lr.toD (t,te,[],k,ac))):=λt=>by
  apply ar;show eD (d:=Lr.toD (t,te,[],k,ac)) rfl rfl
 show bg (b:=decide (E % 2=1)) (br (aA (aA (aM (al rfl (al rfl rfl)) e6) rfl (dN (by decide))) rfl (nM _ _))) (λe=>?_) λe=>bv ?_
 .have e:=of_decide_eq_true e;have q:ty=typ te:=A e;have k1:=lw (p:=[40]) (w:=[32,40,32]) te 0;have k2:=lw (p:=[44]) (w:=[32,44,32,32]) (rpS [40] [32,40,32] te 0) 0;have k3:=lw (p:=32::pOf) (w:=32::32::pOf) (rpS [44] [32,44,32,32] (rpS [40] [32,40,32] te 0) 0) 0;have L:(rpS [40] [32,40,32] te 0).length<=120*4:=cf k1 (oG tl (bu 4));have M:(rpS [44] [32,44,32,32] (rpS [40] [32,40,32] te 0) 0).length<=120*4*5:=cf k2 (oG L (bu 5));have k3':=cf k3 (oG M (bu 6));rw[q];apply ar;show bF (d:=.str (tx (typ te))) (aA (x:=.str (tx [32,32])) rfl (G8 (p:=" of ") (z:="  of ") (G8 (p:=",") (z:=" ,  ") (G8 (p:="(") (z:=" ( ") rfl a (by decide) (by decide) (by lia) (by decide)) a (by decide) (by decide) (by change(rpS [40] [32,40,32] te 0).length<=_;lia) (by decide)) a (by decide) (by decide) (by change(rpS [44] [32,44,32,32] (rpS [40] [32,40,32] te 0) 0).length<=_;lia) (by decide)) (on _ _ (by change 2+(rpS (32::pOf) (32::32::pOf) (rpS [44] [32,44,32,32] (rpS [40] [32,40,32] te 0) 0) 0).length<=_;lia))) ?_;show bv (tail (typ te))
 .have q:=C (of_decide_eq_false e);rw[q];show tail te
variable{B:LD}
def Wm{a b:Z4}{k:Int}(g:b U=aa d)(f:a U=aa (.int k))(h':U[i]?=aa (.own B))(c:0<=k)(e:k<B.length)(q:K (.nx (U.set i (.own (B.set k.toNat d))))):wp (qA i a b) U K:=(_,by
 unfold qA;rw[g,aE,f,aE]
 change((match U[i]? with |some (.own B)=>_ | _=>_):Option Fl)=_
 rw[h'];change(ixN B.length k).map _=_;unfold ixN;rw[if_pos c,if_pos e];rfl,q)
def ltK(v d:Int)(i:Nat):Nat:=97+((v+i*(1+2*d)) % 26).toNat
def Wn{X6:Int}(a:0<=X6)(b:X6<26):vN (.str "abcdefghijklmnopqrstuvwxyz") (.int X6)=aa (sT [97+X6.toNat]):=by
 have key:∀X6<26,("abcdefghijklmnopqrstuvwxyz":Str).cps[X6]?=aa (97+X6):=by decide +kernel
 change(if 0<=X6/\X6<2 ^ 63/\X6<_ then (("abcdefghijklmnopqrstuvwxyz":Str).cps[X6.toNat]?).map λch=>D.str ⟨#[ch]⟩ else ae)=_;have e:("abcdefghijklmnopqrstuvwxyz":Str).length=26:=by decide +kernel
 rw[if_pos (a,by lia,by rw[e];lia),key _ (by lia)];rfl
def Wo{v d:Int}(hd:0<=d/\d<5)(hi:i<12)(a:X6<12)(e:ltK v d i=ltK v d X6):i=X6:=by
 unfold ltK at e
 rcases(show d=0\/d=1\/d=2\/d=3\/d=4 by lia)with rfl |rfl |rfl |rfl |rfl <;> omega
def Wp(v d:Int)(i:Nat):bG [ltK v d i]=ac:=by
 have key:∀X6<26,bG [97+X6]=ac:=by decide +kernel
 show key _ (by lia)
def Wq{n:LN}(c:bG n=ac)(d:∀w∈ns,bG w=ac):Spl (n++[32]++jn [32] ns) (n::ns):=by
 have X6:=rT (λ_ _ _ _ a b=>fB a b) _ _ ns λa ha=>rW (d a ha);rw[map_id']at X6
 have es:∀X3:List _,gV [] (X3.map λa=>[a])=X3:=by
  intro X3
  induction X3 with
  |nil=>rfl
  |cons x X3 e=>
   cases X3 with
   |nil=>rfl
   |cons y X3=>
    change[x]++[]++gV [] ((y::X3).map λa=>[a])=_;rw[e];rfl
 rw[es]at X6;show fB (rW c) X6
def kTe(n:LN)(ns:Z0):LN:=cw "kind" ++ [32]++n++[32]++jn [32] ns
def kTy(n:LN)(ns:Z0):LN:=cw "kind" ++ [32,32]++n++[32]++jn [32] ns++[32]
def Wr{n:LN}(c:bG n=ac)(d:∀w∈ns,bG w=ac)(f:0<ns.length/\ns.length<=12)(b:Bool):xQ (kTy n ns,kTe n ns,n,[],b) (.kind n ns):=by
 have g:(cw "kind").length=4:=by decide +kernel
 have hn:=fT c;have X6:=oh [32] ns;have s:=ol 8 ns λw h=>(fT (d w h)).2;have i:([32]:LN).length=1:=rfl;rw[i]at X6;show(?_,?_,?_,(c,d,f.1,f.2))
 .change kTe n ns=jn [32] ([cw "kind",n]++ns);rw[BY [32] _ ns (by simp) (λe=>by rw[e]at f;simp_all)];rfl
 .change ws _ []=cw "kind" :: n::ns;have e:kTy n ns=cw "kind" ++ (32::32::((n++[32]++jn [32] ns)++[32])):=by delta kTy;rfl
  have a:∀r,ws (32::r) []=ws r []:=λr=>by rfl
  rw[e,iP Ca.1 Ca.2 _ (.inr (32,_,rfl,.inl rfl)),a,a,Wq c d [32] (.inr (32,[],rfl,.inl rfl)),a];change _++(_++fl [])=_;rw[show fl []=[]from rfl,bZ];rfl
 .change(kTy n ns).length<=20000
  delta kTy
  simp only[aX,g,aU,fM]
  lia
def Ws{α:Type}{B:List α}{m k:Nat}{a:α}(hm:m<k)(d:k<B.length)(ha:B[k]?=aa a):¬(B.set m a).Nodup:=λh=>by
 have b:(B.set m a)[m]?=aa a:=by rw[jq (by lia)]
 have c:(B.set m a)[k]?=aa a:=by rw[gH (by lia),ha]
 have:=(List.getElem?_inj (by rw[oE];lia) h).mp (b.trans c.symm)
 lia
def Wt{ws:Z0}(j:m3 ws)(X5:Nat)(c:Int):∃n ns,∃y:Lr,n∈ws/\xQ y (.kind n ns)/\y.nm=n/\y.us=[]/\y.ok=decide ns.Nodup/\uc [.int c,plD X5 ws]=aa y.toD:=by
 have(v1,e1,a1,b1):=hV c 1 (by decide) (by decide);have(M,e2,a2,b2):=hV c 2 (by decide) (by decide);have(E,Y,a3,b3):=hV c 3 (by decide) (by decide);have(u,e4,a4,b4):=hV c 4 (by decide) (by decide);have(v5,e5,a5,b5):=hV c 5 (by decide) (by decide);have(n,hn,en):=xP j X5 v5 (.inl rfl);have(ln,nn):=j.low n hn;have Q:=iA c (show(5:Int)≠0 by decide);have T:=iU c (show(0:Int)<5 by decide);generalize hd:c % 5=d at Q T;have s0:=iA v1 (show(12:Int)≠0 by decide);have s1:=iU v1 (show(0:Int)<12 by decide);obtain⟨sz,hs⟩:∃sz:Nat,(sz:Int)=1+v1 % 12:=((1+v1 % 12).toNat,xX (by lia));generalize z:((eQ sz).map λi=>[ltK M d i])=X3;have B:X3.length=sz:=by rw[<- z,bh,m7]
 have C:∀w∈X3,bG w=ac:=λw j=>by
  rw[<- z]at j;have(i,_,rfl):=iW.mp j;show Wp _ _ _
 have dL:X3.Nodup:=by
  rw[<- z];show pairwise_map.mpr (List.Pairwise.imp_of_mem (λ{i X6} hi hj J e=>J ?_) nodup_range);have hi:=kC.mp hi;have hj:=kC.mp hj;show Wo (Q,T) (by lia) (by lia) (List.cons.inj e).1
 suffices h:∃ns:Z0,ns.length=sz/\(∀w∈ns,bG w=ac)/\uc [.int c,plD X5 ws]=aa (Lr.toD (kTy n ns,kTe n ns,n,[],decide ns.Nodup)) by
  have(ns,h1,H,h3):=h;show(n,ns,_,hn,Wr nn H (by lia) _,rfl,rfl,rfl,h3)
 have nok:=fT nn
 have m : ∀ (ns:Z0) (b:Bool),ns.length=sz->(∀ w∈ns,bG w=ac)->b=decide ns.Nodup->wp (ao (aS 6 (mWk (mIx (aF 1) (m2 cS (az m_5 (ag (af 0) (ag (kI 5) nZ))) (kI 3)))))
  (kX 4 (cz (cH (ag (m2 aZ (m2 aZ (m2 aZ (m2 aZ (kSt "kind  ") (af 6)) (kSt " ")) (m2 g9 (kSt " ") (af 4))) (kSt " ")) (ag (m2 aZ (m2 aZ (m2 aZ (kSt "kind ") (af 6)) (kSt " ")) (m2 g9 (kSt " ") (af 4))) (ag (af 6) (ag (kSt "") (ag (af 5) nZ))))))))) [.im (.int c),.im (plD X5 ws),.im (.str "abcdefghijklmnopqrstuvwxyz"),.im (.int sz),.own (ns.map sT),.im (.bl b),.no] (λo=>o=.rt (Lr.toD (kTy n ns,kTe n ns,n,[],decide ns.Nodup))):=λns b l h I=>by
  have X6:=oh [32] ns;have s:=ol 8 ns λw j=>(fT (h w j)).2;have l1:([32]:LN).length=1:=rfl;rw[l1]at X6;apply ar;show bF (d:=sT n) ?_ ?_
  .unfold mWk;rw[aL rfl (aA (aM (al rfl (al rfl rfl)) e5) rfl (dN (by decide))) en];rfl
  show zr rfl ?_;change wp _ [.im (.int c),.im (plD X5 ws),.im (.str "abcdefghijklmnopqrstuvwxyz"),.im (.int sz),.im (.lst (ns.map sT)),.im (.bl b),.im (sT n)] _;have ej:=om [32] ns (by decide) (by lia);have N:(cw "kind").length=4:=by decide +kernel
  have kt:("kind  ":Str)=tx (cw "kind" ++ [32,32]):=by decide +kernel
  have L:("kind ":Str)=tx (cw "kind" ++ [32]):=by decide +kernel
  show eD (d:=Lr.toD (kTy n ns,kTe n ns,n,[],decide ns.Nodup)) (nN (al (d:=sT (kTy n ns)) ?_ (al (d:=sT (kTe n ns)) ?_ (al rfl (al rfl (al (by rw[I];rfl) rfl)))))) rfl
  .show aA (aA (aA (aA (x:=.str (tx (cw "kind" ++ [32,32]))) (by rw[kt]) rfl (on _ _ ?_)) (by rw[blT]) (on _ _ ?_)) (aA (x:=.str (tx [32])) (by rw[blT]) rfl ej) (on _ _ ?_)) (by rw[blT]) (on _ _ ?_) <;> simp only[aX,N,aU,fM] <;> lia
  .show aA (aA (aA (x:=.str (tx (cw "kind" ++ [32]))) (by rw[L]) rfl (on _ _ ?_)) (by rw[blT]) (on _ _ ?_)) (aA (x:=.str (tx [32])) (by rw[blT]) rfl ej) (on _ _ ?_) <;> simp only[aX,N,aU,fM] <;> lia
 let ns:Z0:=if E % 4=0/\1<sz then X3.set (u % (sz-1:Int)).toNat (X3.getD (sz-1) []) else X3
 have body:wp ua [.im (.int c),.im (plD X5 ws),.no,.no,.no,.no,.no] (λo=>o=.rt (Lr.toD (kTy n ns,kTe n ns,n,[],decide ns.Nodup)))/\ns.length=sz/\∀w∈ns,bG w=ac:=by
  have pre : ∀ K : Fl->Prop,wp (ao (aW (jX (mB (m2 dEq (m2 cS (az m_5 (ag (af 0) (ag (kI 3) nZ))) (kI 4)) (kI 0))) (mB (m2 dGt (af 3) (kI 1)))) (ao (qA 4 (m2 cS (az m_5 (ag (af 0) (ag (kI 4) nZ))) (m2 kQ (af 3) (kI 1))) (mIx (aF 4) (m2 kQ (af 3) (kI 1))))
  (aS 5 (kBl ah))) aY)
  (ao (aS 6 (mWk (mIx (aF 1) (m2 cS (az m_5 (ag (af 0) (ag (kI 5) nZ))) (kI 3)))))
  (kX 4 (cz (cH (ag (m2 aZ (m2 aZ (m2 aZ (m2 aZ (kSt "kind  ") (af 6)) (kSt " ")) (m2 g9 (kSt " ") (af 4))) (kSt " ")) (ag (m2 aZ (m2 aZ (m2 aZ (kSt "kind ") (af 6)) (kSt " ")) (m2 g9 (kSt " ") (af 4))) (ag (af 6) (ag (kSt "") (ag (af 5) nZ)))))))))) [.im (.int c),.im (plD X5 ws),.im (.str "abcdefghijklmnopqrstuvwxyz"),.im (.int sz),.own (X3.map sT),.im (.bl ac),.no] K->wp ua [.im (.int c),.im (plD X5 ws),.no,.no,.no,.no,.no] K:=λK h=>by
   unfold ua;apply ar;show bF rfl ?_;apply ar;show bF (d:=.int sz) (by rw[hs];show aA rfl (aA (aM (al rfl (al rfl rfl)) e1) rfl (dN (by decide))) lY) ?_;change wp _ [.im (.int c),.im (plD X5 ws),.im (.str "abcdefghijklmnopqrstuvwxyz"),.im (.int sz),.no,.no,.no] _;apply ar;show mF (d:=X3.map sT) ?_ ?_
   .rw[<- z,map_map];have rl:=Eb (f:=ag (af 3) nZ) (U:=[.im (.int c),.im (plD X5 ws),.im (.str "abcdefghijklmnopqrstuvwxyz"),.im (.int sz),.no,.no,.no]) (n:=sz) (al rfl rfl) (by lia) (by lia);show jz (eQ sz) (λ(i:Nat)=>D.int i) (sT ∘ λi=>[ltK M d i]) rl (by rw[m7];lia) λi hi=>?_;have hi:=kC.mp hi;show je (ρ1:=[.im (.int (i:Nat)),.im (.str "abcdefghijklmnopqrstuvwxyz"),.im (.int c)]) rfl rfl ?_;have p:(i:Int)*(1+2*d)=(i:Int)+2*((i:Int)*d):=by rw[Int.mul_add,Int.mul_one,<- Int.mul_assoc,<- Int.mul_assoc,Int.mul_comm (i:Int) 2]
    show aA (y:=.int ((M+i*(1+2*d)) % 26)) rfl (aA (aA (aM (al rfl (al rfl rfl)) e2) (aA rfl (aA rfl (aA rfl (aA rfl rfl (dN (by decide))) (by rw[hd];show tB (.inr (by lia,by lia)))) lY) (tB (.inr (by lia,by lia)))) lY) rfl (dN (by decide))) ?_;show Wn (iA _ (by decide)) (iU _ (by decide))
   apply ar;show bF rfl ?_;show h
  by_cases A:E % 4=0/\1<sz
  .have g:ns=X3.set (u % (sz-1:Int)).toNat (X3.getD (sz-1) []):=if_pos A;have m0:=iA u (show((sz:Int)-1)≠0 by lia);have m1:=iU u (show 0<((sz:Int)-1) by lia);obtain⟨a,v⟩:∃a,X3[sz-1]?=aa a:=(_,gG (by lia));have eg:X3.getD (sz-1) []=a:=by rw[jM,v];rfl
   rw[eg]at g;have q:ns.length=sz:=by rw[g,oE,B]
   have r:∀w∈ns,bG w=ac:=λw j=>by
    rw[g]at j
    rcases mem_or_eq_of_mem_set j with h |h
    .show C w h
    .rw[h];show C a (iV v)
   have G:ah=decide ns.Nodup:=by
    rw[g];show(decide_eq_false (Ws (by lia) (by lia) v)).symm
   show(pre _ ?_,q,r);generalize ns=t at *;apply ar
   show bg (b:=decide (E % 4=0) && decide (1<(sz:Int))) (zm (br (aA (aA (aM (al rfl (al rfl rfl)) Y) rfl (dN (by decide))) rfl (nM _ _))) (br (aA rfl rfl vJ))) (λ_=>?_) λe=>by
    rw[decide_eq_true A.1,decide_eq_true (show 1<(sz:Int) by lia)]at e
    nomatch e
   apply ar;have ev:mIx (aF 4) (m2 kQ (af 3) (kI 1)) [.im (.int c),.im (plD X5 ws),.im (.str "abcdefghijklmnopqrstuvwxyz"),.im (.int sz),.own (X3.map sT),.im (.bl ac),.no]=aa (sT a):=aL rfl (aA rfl rfl vH) (ED (by lia) (by rw[fV,show((sz:Int)-1).toNat=sz-1 by lia,v];rfl));show Wm ev (k:=u % ((sz:Int)-1)) (aA (aM (al rfl (al rfl rfl)) e4) (aA rfl rfl vH) (dN (by lia))) rfl m0 (by rw[bh,B];lia) ?_;rw[<- map_set,<- g];change wp _ [.im (.int c),.im (plD X5 ws),.im (.str "abcdefghijklmnopqrstuvwxyz"),.im (.int sz),.own (t.map sT),.im (.bl ac),.no] _;show bF (d:=.bl ah) rfl ?_;show m t ah q r G
  .have g:ns=X3:=if_neg A;rw[g];show(pre _ ?_,B,C);apply ar
   show bg (b:=decide (E % 4=0) && decide (1 < (sz:Int))) (zm (br (aA (aA (aM (al rfl (al rfl rfl)) Y) rfl (dN (by decide))) rfl (nM _ _))) (br (aA rfl rfl vJ))) (λe=>by
    rw[cM,decide_eq_true_eq,decide_eq_true_eq]at e;show absurd (e.1,by lia) A) λ_=>bv ?_
   show m X3 ac B C (by rw[decide_eq_true dL])
 have(I,h1,H):=body;show(ns,h1,H,?_);have(o,e,rfl):=I;show vF e
nonrec def Ti:=Th×Int
nonrec def Pr:=LN×LN
nonrec def Kd:=LN×Z0
nonrec def kdD(x:Kd):D:=.tup [sT x.1,.lst (x.2.map sT)]
nonrec def vrs(ps:List Pr):Z0:=ps.map (·.1)
structure PsK(ks:Z0)(C:Z0)(ps:List Pr):Prop where
 nd:(C++vrs ps).Nodup
 kd:∀p∈ps,p.2∈ks
def ArK(C:Z0)(w:LN):Prop:=asc w/\w.length<=100/\(fS w && !decide (w∈C))=ah
def NP(w:LN)(X3:Z0):inD (.str (tx w)) (.lst (X3.map sT))=aa (decide (w∈X3)):=by
 change(if _=ac then aa _ else ae)=_;rw[if_pos (by rw[all_map];show(cM _ _).mpr (rfl,all_eq_true.mpr λ_ _=>rfl)),any_map]
 congr 1
 rw[ku,decide_eq_true_eq,any_eq_true];constructor
 .rintro⟨k,a,e⟩;have e:(tx k==tx w)=ac:=e
  grind
 .intro h;show(w,h,(beq_iff_eq.mpr rfl))
def inW(w:LN)(X3:Z0):dIn (.str (tx w)) (.lst (X3.map sT))=aa (.bl (decide (w∈X3))):=by
 unfold dIn;rw[NP];rfl
def Cj(w:LN)(X3:Z0):jb (.str (tx w)) (.lst (X3.map sT))=aa (.bl (!decide (w∈X3))):=by
 unfold jb;rw[NP];rfl
def tX1{f:Zr}(h:f U=aa b):mTX f U=aa (b,U,):=by
 unfold mTX;rw[h];rfl
def Wu(ws:Z0):(ws.map tx).Nodup↔ws.Nodup:=by
 rw[CC,CC,pairwise_map];show(λh=>h.imp λh e=>h (by rw[e]),λh=>h.imp λh e=>h (mW e))
def Wv{ws:Z0}(h:f U=aa (.lst (ws.map sT)))(a:ws.length<4000):pI f U=aa (.int (mQ (ws.map tx):Nat)):=by
 show SO (B:=ws.map tx) ?_ (by rw[bh];show a);rw[h,map_map];rfl
def Ww(ws:Z0):decide (((mQ (ws.map tx):Nat):Int)<(ws.length:Nat))=!decide ws.Nodup:=by
 have b:=SQ (ws.map tx);have a:=SR (ws.map tx);rw[bh,Wu]at a
 grind
def NQ(ws:Z0)(a:ws.length<4000):mB (m2 dLt (pI (af 0)) (az cI (ag (af 0) nZ))) [.im (.lst (ws.map sT))]=aa (!decide ws.Nodup):=by
 show br (aA (Wv rfl a) (aM (al rfl rfl) (JB ws sT)) ?_);rw[mG,Ww]
def G9(ws:Z0)(h:ws.Nodup)(a:ws.length<4000):rg [.lst (ws.map sT)]=aa .non:=by
 apply eE;show bg (NQ ws a) (λe=>?_) λ_=>bv (_,rfl,rfl);rw[decide_eq_true h]at e
 nomatch e
def uH{α:Type}{f:α->D}{q:α->LN}{X3:List α}(h:fi U=aa (X3.map f))(a:∀x,∃r,f x=.tup [sT (q x),r])(b:X3.length<=1000):bP 2 [] fi (eV (bO (aT 0) (bO (aT 1) fH))) kY (af 0) U=aa ((X3.map q).map sT):=by
 rw[map_map];show jz X3 f (sT ∘ q) h (by lia) λz _=>?_;have(r,e):=a z;rw[e];show je rfl rfl rfl
def Ck{α:Type}(f:α->D)(a b:List α)(h:a.length+b.length<=1000):aZ (.lst (a.map f)) (.lst (b.map f))=aa (.lst ((a++b).map f)):=by
 change(if (a.map f).length+(b.map f).length<=16777216 then aa (D.lst (a.map f++b.map f)) else ae)=_;rw[if_pos (by rw[bh,bh];lia),fL]
def Cm(ks:List (LN×Z0))(a ps:List Pr)(h:PsK (ks.map (·.1)) (vrs a) ps)(i:a.length+ps.length<=100)(g:ks.length<=1000):l9 [.lst (ps.map prD),.lst (a.map prD),.lst (ks.map kdD)]=aa .non:=by
 apply eE;apply ar;have d:vrs _=vrs a++vrs ps:=fL;show lX (aM (al (cg (uH (fh (aA rfl rfl (Ck prD a ps (by lia))) rfl) (λz=>(_,rfl)) (by rw[aX];lia))) rfl) (G9 _ (by change(vrs _).Nodup;rw[d];show h.nd) (by rw[bh,aX];lia))) ?_;apply ar;show bF (cg (uH (fh rfl rfl) (λz=>(_,rfl)) (by lia))) ?_;show qB ps prD (λ_ U=>∃b c,U=[.im _,.im _,.im _,b,c,.im _]) (fh rfl rfl) (_,_,rfl) ?_ ?_
 .rintro pre p post U f ⟨b,c,rfl⟩;show(_,rfl,?_);have hp:p∈ps:=by simp_all
  show bg (br (aA rfl rfl (Cj p.2 _))) (λe=>?_) λ_=>bv (_,_,rfl);rw[decide_eq_true (h.kd p hp)]at e
  nomatch e
 .rintro U ⟨b,c,rfl⟩;show(_,rfl,rfl)
def NR(b:Z0)(ps:List Pr)(h:∀w∈b,ArK (vrs ps) w)(i:ps.length<=100):wC [.lst (b.map sT),.lst (ps.map prD)]=aa .non:=by
 apply eE;apply ar;show bF (cg (uH (fh rfl rfl) (λz=>(_,rfl)) (by lia))) ?_;show qB b sT (λ_ U=>∃a,U=[.im _,.im _,.im _,a]) (fh rfl rfl) (_,rfl) ?_ ?_
 .rintro pre w post U g ⟨a,rfl⟩;show(_,rfl,?_);have(c,f,d):=h w (by simp_all);show bg (zm (iJ (aM (al rfl rfl) (BK w (by lia) c)) rfl) (br (aA rfl rfl (Cj w _)))) (λe=>by rw[d]at e;nomatch e) λ_=>bv (_,rfl)
 .rintro U ⟨a,rfl⟩;show(_,rfl,rfl)
def Wy(h:f U=aa (.lst j))(h':U[i]?=aa (.own B))(a:B.length+j.length<=16777216):sW i (sV f) U=aa (.nx (U.set i (.own (B++j)))):=by
 unfold sW sV;rw[h]
 change((match U[i]? with |some (.own B)=>_ | _=>_):Option Fl)=_
 rw[h'];show if_pos a
def Wz(h:f U=aa (.lst j))(h':U[i]?=aa (.own B))(a:B.length+j.length<=16777216)(k:K (.nx (U.set i (.own (B++j))))):wp (sW i (sV f)) U K:=(_,Wy h h' a,k)
nonrec def Us:=Z0×List Pr
nonrec def usD(u:Us):D:=.tup [.lst (u.1.map sT),.lst (u.2.map prD)]
def lE(its:List Ti):Z0:=its.flatMap λz=>z.1.2
abbrev paU:Pa->Us
 |.is t=>(t.2,[],)
 |.no t=>(t.2,[],)
 |.un a b=>([a,b],[],)
 |.ct _ _ its ov=>(lE its,ov,)
abbrev roU:Ro->List Us
 |.kind _ _=>[]
 |.rule _ t bd _=>bd.map paU++[(t.2,[],)]
 |.choose _ _ its ov bd _=>bd.map paU++[(lE its,ov,)]
 |.never bd _=>bd.map paU
abbrev roP:Ro->List Pr
 |.kind _ _=>[]
 |.rule _ _ _ ps=>ps
 |.choose _ _ _ _ _ ps=>ps
 |.never _ ps=>ps
abbrev PaS:Pa->Prop
 |.is t=>t.2.length<=100
 |.no t=>t.2.length<=100
 |.un _ _=>True
 |.ct _ _ its _=>its.length<=100/\∀z∈its,z.1.2.length<=100
abbrev RoS:Ro->Prop
 |.kind _ ns=>ns.length<=100
 |.rule _ t bd _=>t.2.length<=100/\bd.length<=100/\∀p∈bd,PaS p
 |.choose _ _ its _ bd _=>(its.length<=100/\∀z∈its,z.1.2.length<=100)/\bd.length<=100/\∀p∈bd,PaS p
 |.never bd _=>bd.length<=100/\∀p∈bd,PaS p
def WA{its:List Ti}(h:∀z∈its,z.1.2.length<=100):(lE its).length<=100*its.length:=by
 delta lE
 induction its with
 |nil=>simp
 |cons z its a=>
  grind
def NS(its:List Ti)(c:its.length<=100)(h:∀z∈its,z.1.2.length<=100):AN [.lst (its.map jJ)]=aa (.lst ((lE its).map sT)):=by
 apply eE;apply ar;show mF rfl ?_;apply ar;show qB its jJ (λpre U=>∃a b,U=[.im _,.own ((lE pre).map sT),a,b]) (fh rfl rfl) (_,_,rfl) ?_ ?_
 .rintro pre z post U d ⟨a,b,rfl⟩;show(_,rfl,?_);have g:=h z (by simp_all);have hp:=WA (its:=pre) λx hx=>h x (by simp_all)
  have f:pre.length<=100:=by
   grind
  show Wz (aL rfl rfl rfl) rfl (by rw[bh,bh];lia) (.im (thD z.1),.im (.int z.2),?_)
  have e:lE (pre++[z])=lE pre++z.1.2:=by
   delta lE
   simp
  rw[e,fL];rfl
 .rintro U ⟨a,b,rfl⟩;show(_,rfl,_,rfl,rfl)
def WB(p:Pa)(h:PaS p):AO [p.toD]=aa (usD (paU p)):=by
 apply eE
 cases p with
 |is t=>
  apply ar;show bg (b:=ah) (br (aA (aL rfl rfl rfl) rfl rfl)) (λe=>nomatch e) λ_=>bv ?_;apply ar
  show bg (b:=ah) (br (aA (aL rfl rfl rfl) rfl rfl)) (λe=>nomatch e) λ_=>bv (eD (nN (al (aL (fh (aL rfl rfl rfl) rfl) rfl rfl) (al rfl rfl))) (fm rfl))
 |no t=>
  apply ar;show bg (b:=ah) (br (aA (aL rfl rfl rfl) rfl rfl)) (λe=>nomatch e) λ_=>bv ?_;apply ar
  show bg (b:=ah) (br (aA (aL rfl rfl rfl) rfl rfl)) (λe=>nomatch e) λ_=>bv (eD (nN (al (aL (fh (aL rfl rfl rfl) rfl) rfl rfl) (al rfl rfl))) (fm rfl))
 |un a b=>
  apply ar
  show bg (b:=ac) (br (aA (aL rfl rfl rfl) rfl rfl)) (λ_=>(eD (nN (al (cg (al (aL rfl rfl rfl) (al (aL rfl rfl rfl) rfl))) (al rfl rfl))) (fm rfl))) λe=>nomatch e
 |ct w n its ov=>
  apply ar
  show bg (b:=ah) (br (aA (aL rfl rfl rfl) rfl (by cases w <;> rfl))) (λe=>nomatch e) λ_=>bv ?_
  apply ar
  show bg (b:=ac) (br (aA (aL rfl rfl rfl) rfl (by cases w <;> rfl))) (λ_=>(eD (nN (al (aM (al (aL rfl rfl rfl) rfl) (NS its h.1 h.2)) (al (aL rfl rfl rfl) rfl))) (fm rfl))) λe=>nomatch e
def NT(r:Ro)(f:∀n ns,r≠.kind n ns)(h:RoS r):AQ [r.toD]=aa (.lst ((roU r).map usD)):=by
 have bd:∀(bd:List Pa) U fi,fi U=aa _->bd.length<=100->(∀p∈bd,PaS p)->bP 1 [] fi (aT 0) kY (az AO (ag (af 0) nZ)) U=aa ((bd.map paU).map usD):=λbd U fi c g d=>by
  rw[map_map];show jz bd Pa.toD _ c (by lia) λp hp=>je rfl rfl (aM (al rfl rfl) (WB p (d p hp)))
 apply eE
 cases r with
 |kind n ns=>show absurd rfl (f n ns)
 |rule b t a ps=>
  apply ar;show mF (bd a _ _ (fh (aL rfl rfl rfl) rfl) h.2.1 h.2.2) ?_;apply ar
  show bg (b:=ah) (br (aA (aL rfl rfl rfl) rfl (by cases b <;> rfl))) (λe=>nomatch e) λ_=>?_
  show bg (b:=ac) (br (aA (aL rfl rfl rfl) rfl (by cases b <;> rfl))) (λ_=>?_) λe=>nomatch e
  show nO (nN (al (aL (fh (aL rfl rfl rfl) rfl) rfl rfl) (al rfl rfl))) rfl (by rw[bh,bh];have:=h.2.1;lia) (_,rfl,_,rfl,?_)
  delta roU
  rw[fL]
  rfl
 |choose lo hi its ov a ps=>
  apply ar;show mF (bd a _ _ (fh (aL rfl rfl rfl) rfl) h.2.1 h.2.2) ?_;apply ar;show bg (b:=ac) (br (aA (aL rfl rfl rfl) rfl rfl)) (λ_=>?_) λe=>nomatch e;show nO (nN (al (aM (al (aL rfl rfl rfl) rfl) (NS its h.1.1 h.1.2)) (al (aL rfl rfl rfl) rfl))) rfl (by rw[bh,bh];have:=h.2.1;lia) (_,rfl,_,rfl,?_)
  delta roU
  rw[fL]
  rfl
 |never a ps=>
  apply ar;show mF (bd a _ _ (fh (aL rfl rfl rfl) rfl) h.1 h.2) ?_;apply ar;show bg (b:=ah) (br (aA (aL rfl rfl rfl) rfl rfl)) (λe=>nomatch e) λ_=>bv (_,rfl,_,rfl,rfl)
def m4(r:Ro)(a:∀n ns,r≠.kind n ns)(U:LS):mIx (aF 0) (m1 ja (kI 1)) (.im r.toD::U)=aa (.lst ((roP r).map prD)):=by
 cases r with
 |kind n ns=>show absurd rfl (a n ns)
 |rule b t bd ps=>show aL rfl rfl rfl
 |choose lo hi its ov bd ps=>show aL rfl rfl rfl
 |never bd ps=>show aL rfl rfl rfl
def UsK(K C:Z0)(u:Us):Prop:=(PsK K C u.2/\u.2.length<=50)/\∀w∈u.1,ArK (C++vrs u.2) w
def RoK(K:Z0)(r:Ro):Prop:=(PsK K [] (roP r)/\(roP r).length<=50)/\∀u∈roU r,UsK K (vrs (roP r)) u
def WC(ks:List Kd)(r:Ro)(hn:∀n ns,r≠.kind n ns)(h:RoK (ks.map (·.1)) r)(f:RoS r)(c:ks.length<=1000):pR [r.toD,.lst (ks.map kdD)]=aa .non:=by
 have(d,e):=h;apply eE;apply ar;show lX (aM (al (m4 r hn _) (al rfl (al rfl rfl))) (Cm ks [] _ d.1 (by grind) c)) ?_;show qB _ usD (λ_ U=>∃a b,U=[.im r.toD,.im _,a,b]) (fh (aM (al rfl rfl) (NT r hn f)) rfl) (_,_,rfl) ?_ ?_
 .rintro pre u post U i ⟨a,b,rfl⟩;show(_,rfl,?_);have(g,l):=e u (by simp_all);apply ar;show lX (aM (al rfl (al (m4 r hn _) (al rfl rfl))) (Cm ks _ u.2 g.1 (by lia) c)) ?_;show lX (aM (al rfl (al (aA (m4 r hn _) rfl (Ck prD _ u.2 (by lia))) rfl)) (NR u.1 _ (λw j=>?_) (by rw[aX];lia))) (_,_,rfl)
  grind
 .rintro U ⟨a,b,rfl⟩;show(_,rfl,rfl)
def NU(ks:List Kd)(n:LN)(a:Sl)(b:ks.length<=1000):mB (m2 dIn (af 2) (aR (bP 2 [] (bH (af 1)) (eV (bO (aT 0) (bO (aT 1) fH))) kY (af 0)))) [a,.im (.lst (ks.map kdD)),.im (sT n)]=aa (decide (n∈ks.map (·.1))):=
 br (aA rfl (cg (uH (X3:=ks) (f:=kdD) (q:=(·.1)) (fh rfl rfl) (λz=>(_,rfl)) b)) (inW n _))
def WD(ks:List Kd)(n:LN)(ns:Z0)(h:n∉ks.map (·.1))(hn:ns.Nodup)(b:ns.length<4000)(a:ks.length<=1000):rh [Ro.toD (.kind n ns),.lst (ks.map kdD)]=aa .non:=by
 apply eE;apply ar;show bF (aL rfl rfl rfl) ?_;apply ar;show bg (NU ks n _ a) (λe=>absurd (of_decide_eq_true e) h) λ_=>bv (lX (aM (al (aL rfl rfl rfl) rfl) (G9 ns hn b)) (_,rfl,rfl))
variable{r1 r2:LS->Bool}
def rS2(h:F U=aa (.nx ρ1))(a:r2 ρ1=ac):bB r1 F r2 U=ac:=by
 unfold bB;rw[h,gW];show .inr a
def rS1(h:r1 U=ac):bB r1 F r2 U=ac:=by
 unfold bB;rw[h,Bool.true_or]
def rC1{r:LD->Bool}{fa:Xa}(h:fa U=aa (j,ρ1,))(a:r j=ac):gk rNo r fa U=ac:=by
 unfold gk;rw[h,gW];show .inr a
def Cn{g:LS->Option Z1}(h:f U=aa (sT w))(b:w.length<=1000)(a:g U=aa zs):mFv f g U=aa (tx w::zs):=by
 unfold mFv;rw[h,aE];change(if (tx w).length<=16777216 then aa (tx w) else ae).bind _=_;rw[if_pos (by rw[dQ];lia),aE,a];rfl
def oy{x:Str}{g:LS->Option Z1}(a:g U=aa zs):mFc x g U=aa (x::zs):=by
 unfold mFc;rw[a];rfl
def uI{f:LS->Option Z1}(h:f U=aa zs)(a:(iu iX zs).length<=16777216):rOf (ag (mFs f) nZ) U=ac:=by
 have e:mFs f U=aa (.str (iu iX zs)):=by unfold mFs;rw[h,aE,if_pos a]
 unfold rOf;rw[al e rfl];rfl
def Ha:∀(zs:Z1) (o:Str) (n:Nat),(∀z∈zs,z.length<=n)->(iu o zs).length<=o.length+zs.length*n
 | [],o,n,_=>Nat.le_add_right _ _
 |z::zs,o,n,h=>by
  have a:=Ha zs (o++z) n λx hx=>h x (bx _ hx);have b:=h z bi;rw[oO]at a;rw[aU,yd];change(iu _ zs).length<=_
  lia
def WE{a b:Str}(h:f U=aa (sT w))(c:w.length<=1000)(ha:a.length<=1000)(e:b.length<=1000):rOf (ag (mFs (mFc a (mFv f (mFc b nZ)))) nZ) U=ac:=by
 show uI (oy (Cn h c (oy rfl))) ?_;show cf (Ha _ _ 1000 λz d=>?_) (by change 0+_*1000<=16777216;simp only[aU];decide);simp only[bw,c7,or_false]at d
 rcases d with rfl |rfl |rfl
 .show ha
 .rw[dQ];show c
 .show e
variable{v:LN}
def WF{f2:Z4}{a b c:Str}(h:f U=aa (sT w))(i:f2 U=aa (sT v))(e:w.length<=1000)(d:v.length<=1000)(ha:a.length<=1000)(j:b.length<=1000)(l:c.length<=1000):rOf (ag (mFs (mFc a (mFv f (mFc b (mFv f2 (mFc c nZ)))))) nZ) U=ac:=by
 show uI (oy (Cn h e (oy (Cn i d (oy rfl))))) ?_;show cf (Ha _ _ 1000 λz g=>?_) (by change 0+_*1000<=16777216;simp only[aU];decide);simp only[bw,c7,or_false]at g
 rcases g with rfl |rfl |rfl |rfl |rfl
 .show ha
 .rw[dQ];show e
 .show j
 .rw[dQ];show d
 .show l
nonrec abbrev Rz{α:Type}(b:Bool)(o:Option α):Prop:=b=ac/\o=ae
def eZ(h:F U=aa (.nx ρ1))(a:Rz (r2 ρ1) (F' ρ1)):Rz (bB r1 F r2 U) (ao F F' U):=(rS2 h a.1,by unfold ao;rw[h];show a.2)
def iz(h:Rz (r1 U) (F U)):Rz (bB r1 F r2 U) (ao F F' U):=(rS1 h.1,by unfold ao;rw[h.2];rfl)
def zH(h:Rz b (F U)):Rz b (ao F F' U):=(h.1,by unfold ao;rw[h.2];rfl)
variable{fa:Z6}{fx:Xa}{m:LD->OD}
def zC{rd:LD->Bool}(hx:fx U=aa (j,ρ1,))(ha:fa ρ'=aa j)(h:Rz (rd j) (m j)):Rz (gk rNo rd fx U) (az m fa ρ'):=(rC1 hx h.1,by unfold az;rw[ha];show h.2)
def NV{rd:LD->Bool}(hx:fx U=aa (j,ρ1,))(ha:fa ρ'=aa j)(h:Rz (rd j) (m j)):Rz (gk rNo rd fx U) (lf m fa ρ'):=(rC1 hx h.1,by unfold lf;rw[ha,aE,h.2];rfl)
def zD(h:Rz b (f U)):Rz b (cL f U):=(h.1,by unfold cL;rw[h.2];rfl)
variable{r:LS->Bool}
def NW{o:Option Fl}(h:U[i]?=aa (.own B))(q:Rz (r (U.set i (.im (.lst B)))) o):Rz (pG i r U) o:=by
 unfold pG;rw[h];show q
def zR{k:Nat}(h:Rz b (F (dD k j))):Rz b (bR k F j):=(h.1,by unfold bR;rw[h.2];rfl)
variable{t:Zr}
def zI(e:t U=aa ac)(h:Rz b (F U)):Rz b (aW t F F' U):=(h.1,by unfold aW;rw[e];show h.2)
def zJ(e:t U=aa ah)(h:Rz b (F' U)):Rz b (aW t F F' U):=(h.1,by unfold aW;rw[e];show h.2)
def Co{α:Type}{f:α->D}{g:D->LS->Option LS}{F:Z3}{r:LS->Bool}{I:List α->LS->Prop}:∀(q p:List α) (U:LS),I p U->(∀b x d,p++q=b++x::d->∀U,I b U->∃ρ1,g (f x) U=aa ρ1/\(Rz (r ρ1) (F ρ1)\/∃eA,F ρ1=aa (.nx eA)/\I (b++[x]) eA))->(∀U,¬I (p++q) U)->Rz (nU g F r (q.map f) U) (jy g F (q.map f) U)
 | [],p,U,h,_,bd=>(bd U (by simp_all)).elim
 |x::q,p,U,h,st,bd=>by
  have(ρ1,c,a):=st p x q rfl U h;rw[eR,nU,jy,c];change Rz (r ρ1 || _) ((F ρ1).bind _)
  rcases a with a |⟨eA,e2,e3⟩
  .rw[a.1,a.2];show(rfl,rfl)
  .rw[e2];have z:=Co q _ eA e3 (by simpa using st) (by simpa using bd);show(by rw[gW];show .inr z.1,z.2)
def zF{g:D->LS->Option LS}(e:fi U=aa j)(h:Rz (nU g F r j U) (jy g F j U)):Rz (pH fi g F r U) (io fi g F U):=by
 unfold pH io;rw[e];show h
def WG(ws:Z0)(h:¬ws.Nodup)(a:ws.length<4000):Rz (AJ [.lst (ws.map sT)]) (rg [.lst (ws.map sT)]):=by
 show zR ?_;change Rz (wB [.im _]) _;have t:=NQ ws a;rw[decide_eq_false h]at t;show zI t (?_,rfl)
 delta wB rIf
 rw[tX1 t];rfl
def WH(ks:List Kd)(n:LN)(ns:Z0)(h:n∈ks.map (·.1)\/¬ns.Nodup)(hn:n.length<=1000)(b:ns.length<4000)(a:ks.length<=1000):Rz (AU [Ro.toD (.kind n ns),.lst (ks.map kdD)]) (rh [Ro.toD (.kind n ns),.lst (ks.map kdD)]):=by
 show zR ?_;change Rz (wF _) _;obtain⟨o,e,rfl⟩:wp (aS 2 (mIx (aF 0) (kI 1))) [.im _,.im _,.no] (λo=>o=.nx [.im (Ro.toD (.kind n ns)),.im _,.im _]):=bF (aL rfl rfl rfl) rfl
 delta wF AT
 show eZ e ?_;have t:=NU ks n (.im (Ro.toD (.kind n ns))) a
 by_cases hm:n∈ks.map (·.1)
 .rw[decide_eq_true hm]at t;show iz (zI t (?_,rfl))
  delta rIf
  rw[tX1 t];show WE rfl hn (by decide) (by decide)
 .obtain⟨o,e,rfl⟩:wp _ _ _:=bg t (λe=>absurd (of_decide_eq_true e) hm) λ_=>bv rfl;show eZ e (zD (zC (bp (bq (aL rfl rfl rfl)) rfl) (al (aL rfl rfl rfl) rfl) (WG ns (h.resolve_left hm) b)))
def NX(ks:List Kd)(d ps:List Pr)(hd:(vrs (d++ps)).Nodup)(h:∃p∈ps,p.2∉ks.map (·.1))(y:∀p∈ps,p.1.length<=1000/\p.2.length<=1000)(G:d.length+ps.length<=100)(E:ks.length<=1000):Rz (AM [.lst (ps.map prD),.lst (d.map prD),.lst (ks.map kdD)]) (l9 [.lst (ps.map prD),.lst (d.map prD),.lst (ks.map kdD)]):=by
 show zR ?_;have j:(vrs (d++ps)).length<4000:=by rw[bh,aX];lia
 delta AL AK
 obtain⟨o,e,rfl⟩:wp (cL (az rg (ag _ nZ))) _ _:=lX (aM (al (cg (uH (U:=[.im _,.im _,.im _,.no,.no,.no]) (fh (aA (f:=af 1) (g:=af 0) rfl rfl (Ck prD d ps (by lia))) rfl) (λz=>(_,rfl)) (by rw[aX];lia))) rfl) (G9 _ hd j)) rfl;show eZ e ?_;have(o,e,rfl):=bF (i:=5) (cg (uH (U:=[.im _,.im _,.im (.lst _),.no,.no,.no]) (X3:=ks) (f:=kdD) (fi:=bH (af 2)) (fh rfl rfl) (λz=>(_,rfl)) (by lia))) rfl;show eZ e (zF rfl ?_);have tt:∀(q:Pr) (a b c:Sl),mB (m2 jb (af 4) (af 5)) [a,b,c,.im (sT q.1),.im (sT q.2),.im (.lst ((ks.map (·.1)).map sT))]=aa (!decide (q.2∈ks.map (·.1))):=λq a b c=>br (aA rfl rfl (Cj q.2 _));show Co (I:=λp U=>(∃n r,U=[.im (.lst (ps.map prD)),.im (.lst (d.map prD)),.im (.lst (ks.map kdD)),n,r,.im (.lst ((ks.map (·.1)).map sT))])/\∀q∈p,q.2∈ks.map (·.1)) ps [] _ ⟨(_,_,rfl),λ_ z=>nomatch z⟩ ?_ ?_
 .rintro B q C A U ⟨⟨n,r,rfl⟩,hp⟩;show(_,rfl,?_);have u:q∈ps:=by rw[show ps=B++q::C from A];simp
  have t:=tt q (.im (.lst (ps.map prD))) (.im (.lst (d.map prD))) (.im (.lst (ks.map kdD)))
  by_cases hm:q.2∈ks.map (·.1)
  .rw[decide_eq_true hm]at t;have(o,e,rfl):=bg (F:=λ_=>ae) (F':=aY) (K:=λo=>o=.nx [.im (.lst (ps.map prD)),.im (.lst (d.map prD)),.im (.lst (ks.map kdD)),.im (sT q.1),.im (sT q.2),.im (.lst ((ks.map (·.1)).map sT))]) t (λe=>nomatch e) λ_=>bv rfl;show .inr (_,e,(_,_,rfl),λx hx=>?_)
   rcases cW.mp hx with h |h
   .show hp x h
   .rw[bE.mp h];show hm
  .rw[decide_eq_false hm]at t;show .inl (zI t (?_,rfl));change rIf _ _ _ [.im (.lst (ps.map prD)),.im (.lst (d.map prD)),.im (.lst (ks.map kdD)),.im (sT q.1),.im (sT q.2),.im (.lst ((ks.map (·.1)).map sT))]=ac
   delta rIf
   rw[tX1 t];show WF (w:=q.2) (v:=q.1) rfl rfl (y q u).2 (y q u).1 (by decide) (by decide) (by decide)
 .rintro U ⟨_,hp⟩;have(p,l,m):=h;show m (hp p l)
def UsB(K:Z0)(ps:List Pr)(u:Us):Prop:=(vrs (ps++u.2)).Nodup/\∃p∈u.2,p.2∉K
def UsS(u:Us):Prop:=u.2.length<=50/\∀p∈u.2,p.1.length<=1000/\p.2.length<=1000
def uJ(ks:List Kd)(r:Ro)(hn:∀n ns,r≠.kind n ns)(l:RoS r)(a:ks.length<=1000)(hp:(roP r).length<=50/\∀p∈roP r,p.1.length<=1000/\p.2.length<=1000)
 (h:((vrs (roP r)).Nodup/\∃p∈roP r,p.2∉ks.map (·.1))\/PsK (ks.map (·.1)) [] (roP r)/\(∀u∈roU r,UsS u/\(UsK (ks.map (·.1)) (vrs (roP r)) u\/UsB (ks.map (·.1)) (roP r) u))/\∃u∈roU r,UsB (ks.map (·.1)) (roP r) u):
  Rz (wE [r.toD,.lst (ks.map kdD)]) (pR [r.toD,.lst (ks.map kdD)]):=by
 have(E,q):=hp;show zR ?_
 delta AS AR
 rcases h with h |⟨b,f,u0,hu0,hb0⟩
 .show iz (zD (zC (bp (bq (m4 r hn _)) (bp (bq rfl) (bp (bq rfl) rfl))) (al (m4 r hn _) (al rfl (al rfl rfl))) (NX ks [] _ h.1 h.2 q (by rw[fM];lia) a)))
 .obtain⟨o,e,rfl⟩:wp (cL (az l9 (ag _ (ag (aR nZ) (ag (af 1) nZ))))) _ (λo=>o=.nx [.im r.toD,.im (.lst (ks.map kdD)),.no,.no]):=lX (aM (al (m4 r hn _) (al rfl (al rfl rfl))) (Cm ks [] _ b (by rw[fM];lia) a)) rfl;show eZ e (zF (fh (aM (al rfl rfl) (NT r hn l)) rfl) ?_);have dp:∀u:Us,PsK _ _ u.2->u.2.length<=50->wp (cL (az l9 (ag (af 3) (ag _ (ag (af 1) nZ))))) _ (λo=>o=.nx [.im r.toD,.im (.lst (ks.map kdD)),.im (.lst (u.1.map sT)),.im (.lst (u.2.map prD))]):=λu b f=>lX (aM (al rfl (al (m4 r hn _) (al rfl rfl))) (Cm ks (roP r) u.2 b (by lia) a)) rfl;show Co (I:=λp U=>(∃c d,U=[.im r.toD,.im (.lst (ks.map kdD)),c,d])/\∀u∈p,UsK (ks.map (·.1)) (vrs (roP r)) u) (roU r) [] _ ⟨(_,_,rfl),λ_ z=>nomatch z⟩ ?_ ?_
  .rintro m u t j U ⟨⟨c,d,rfl⟩,hp⟩;show(_,rfl,?_)
   obtain⟨us,i |g⟩:=f u (by rw[show roU r=m++u::t from j];simp)
   ·have ((A,C),G):=id i;obtain ⟨o,e,rfl⟩ : wp (ao (cL (az l9 (ag (af 3) (ag (mIx (aF 0) (m1 ja (kI 1))) (ag (af 1) nZ)))))
  (cL (az wC (ag (af 2) (ag (m2 aZ (mIx (aF 0) (m1 ja (kI 1))) (af 3)) nZ))))) [.im r.toD,.im (.lst (ks.map kdD)),.im (.lst (u.1.map sT)),.im (.lst (u.2.map prD))] (λo=>o=.nx [.im r.toD,.im (.lst (ks.map kdD)),.im (.lst (u.1.map sT)),.im (.lst (u.2.map prD))]):=by
     apply ar;have(o,e,rfl):=dp u A us.1;show(_,e,?_);show lX (aM (al rfl (al (aA (m4 r hn _) rfl (Ck prD (roP r) u.2 (by lia))) rfl)) (NR u.1 (roP r++u.2) (λw B=>?_) (by rw[aX];lia))) rfl
     grind
    show .inr (_,e,(_,_,rfl),λx hx=>?_)
    rcases cW.mp hx with h |h
    .show hp x h
    .rw[bE.mp h];show i
   .show .inl (iz (zD (zC (bp (bq rfl) (bp (bq (m4 r hn _)) (bp (bq rfl) rfl))) (al rfl (al (m4 r hn _) (al rfl rfl))) (NX ks (roP r) u.2 g.1 g.2 us.2 (by have:=us.1;lia) a))))
  .rintro U ⟨_,hp⟩;have(p,v,y):=hb0.2;show y ((hp u0 hu0).1.1.kd p v)
abbrev qb:Ro->List Kd
 |.kind n ns=>[(n,ns,)]
 | _=>[]
abbrev isK:Ro->Bool
 |.kind _ _=>ac
 | _=>ah
def WI{p:Pa}(h:lz p):PaS p:=by
 cases p with
 |is t=>show cf (h).2.2 (by decide)
 |no t=>show cf (h).2.2 (by decide)
 |un a b=>trivial
 |ct w n its ov=>
  have(e,c,f,g,i):=(h);show(by lia,λz d=>cf (c z d).1.2.2 (by decide))
variable{r:Ro}
def Hb(h:lB r):RoS r:=by
 have bd:∀{bd:List Pa},fw bd->bd.length<=100/\∀p∈bd,PaS p:=λh=>(cf h.2 (by decide),λp hp=>WI (h.1 p hp))
 cases r with
 |kind n ns=>
  have(c,d,e,f):=(h);change ns.length<=100
  lia
 |rule b t a ps=>
  have(c,d,e):=(h)
  show(cf c.2.2 (by decide),bd d)
 |choose lo hi its ov a ps=>
  have(c,d,e,f,i):=(h)
  show((by lia,λz g=>cf (d.1 z g).1.2.2 (by decide)),bd f)
 |never a ps=>
  have(c,_,e):=(h);show bd c
def NY(ks:List Kd)(r:Ro):Prop:=(∀n ns,r=.kind n ns->n∉ks.map (·.1)/\ns.Nodup)/\(isK r=ah->RoK (ks.map (·.1)) r)
def WJ(ks:List Kd)(r:Ro):Prop:=(isK r=ac->Rz (AU [r.toD,.lst (ks.map kdD)]) (rh [r.toD,.lst (ks.map kdD)]))/\(isK r=ah->Rz (wE [r.toD,.lst (ks.map kdD)]) (pR [r.toD,.lst (ks.map kdD)]))
def WK:Z3:=aW (mB (m2 dEq (mIx (aF 2) (kI 0)) (kSt "kind"))) (ao (cL (lf rh (ag (af 2) (ag (kO 1) nZ))))
  (ip 1 (cH (ag (mIx (aF 2) (kI 1)) (ag (aR (bH (mIx (aF 2) (kI 2)))) nZ))))) (cL (lf pR (ag (af 2) (ag (kO 1) nZ))))
def NZ(r:Ro)(a b:Sl):mB (m2 dEq (mIx (aF 2) (kI 0)) (kSt "kind")) [a,b,.im r.toD]=aa (isK r):=by
 cases r with
 |kind n ns=>show br (aA (aL rfl rfl rfl) rfl rfl)
 |rule b t bd ps=>show br (aA (aL rfl rfl rfl) rfl (by cases b <;> rfl))
 |choose lo hi its ov bd ps=>show br (aA (aL rfl rfl rfl) rfl rfl)
 |never bd ps=>show br (aA (aL rfl rfl rfl) rfl rfl)
def N0{f:Z6}(h:f U=aa j)(e:m j=aa .non):lf m f U=aa .non:=by
 unfold lf;rw[h,aE,e];rfl
def N3(a:Sl)(ks:List Kd)(r:Ro)(h:NY ks r)(d:RoS r)(c:ks.length<=1000):wp WK [a,.own (ks.map kdD),.im r.toD] (λo=>o=.nx [a,.own ((ks++qb r).map kdD),.im r.toD]):=by
 show bg (NZ r _ _) (λe=>?_) λe=>?_
 .cases r with
  |kind n ns=>
   have(f,g):=h.1 n ns rfl;apply ar;show lX (N0 (al rfl (al rfl rfl)) (WD ks n ns f g (by have:ns.length<=100:=d;lia) c)) ?_;show nO (nN (al (aL rfl rfl rfl) (al (cg (fh (aL rfl rfl rfl) rfl)) rfl))) rfl (by rw[bh];lia) ?_;rw[fL]
   rfl
  |rule b t bd ps=>nomatch e
  |choose lo hi its ov bd ps=>nomatch e
  |never bd ps=>nomatch e
 .have hn:∀n ns,r≠.kind n ns:=λn ns z=>by rw[z]at e;nomatch e
  have i:qb r=[]:=by
   cases r with
   |kind n ns=>nomatch e
   |rule b t bd ps=>rfl
   |choose lo hi its ov bd ps=>rfl
   |never bd ps=>rfl
  show lX (N0 (al rfl (al rfl rfl)) (WC ks r hn (h.2 e) d c)) ?_
  simp_all
nonrec abbrev Lwn(w:LN):Prop:=low w/\bG w=ac
structure Lk(y:Lr)(r:Ro):Prop where
 o:xQ y r
 c:(∃n ns,r=.kind n ns/\Lwn n/\y.nm=n/\y.us=[]/\y.ok=decide ns.Nodup)\/(∃o r' k n,r∈roF o r' k n/\(Lwn o/\Lwn r'/\Lwn k)/\y.nm=[]/\y.us=k/\y.ok=ac)
def bdY(K:Z0)(y:Lr):Bool:=!y.ok || (decide (y.nm∈K) || (!decide (y.us=[]) && !decide (y.us∈K)))
def nmY(y:Lr):Z0:=if y.nm=[] then [] else [y.nm]
abbrev dE:Z0->List Lr->Bool
 | _,[]=>ac
 |K,y::ys=>!bdY K y && dE (K++nmY y) ys
def Cp(h:Lwn w):w≠[]:=λe=>by have:=(fT h.2).1;rw[e]at this;show absurd this (by decide)
def WL(h:low w):asc w:=BW λx hx=>by have:=(h x hx).2;lia
def WM(h:Lwn w):fS w=ah:=by
 cases w with
 |nil=>show absurd rfl (Cp h)
 |cons x w=>
  have hx:=(h.1 x bi).1;have a:∀g∈grL,g<97:=by decide +kernel
  delta fS made pZ
  grind
variable{C:Z0}
def N4(h:Lwn w):ArK C w:=(WL h.1,by have:=(fT h.2).2;lia,by rw[WM h];rfl)
def oz(h:w∈C)(a:asc w)(l:w.length<=100):ArK C w:=(a,l,by rw[decide_eq_true h,Bool.not_true,xV])
def as5:asc wX/\asc wXa/\asc wXb/\asc wY/\asc wA:=by decide +kernel
variable{r':LN}
def Cq(h:r∈roF o r' k n):isK r=ah/\qb r=[]:=by
 simp only[roF,bw,c7,or_false]at h
 rcases h with rfl |rfl |rfl |rfl |rfl |rfl <;> show(rfl,rfl)
def WN(h:r∈roF o r' k n)(i:Lwn o)(y:Lwn r'){K:Z0}(g:k∈K):RoK K r:=by
 have(d,l,m,q,t):=as5;have c:∀C:List _,C.Nodup->PsK K C []/\([]:List Pr).length<=50:=λC x=>(⟨by simpa using x,λ_ z=>nomatch z⟩,by decide);have e:∀v:LN,PsK K [] [(v,k,)]/\[(v,k,)].length<=50:=λv=>((by simp,λp hp=>by rw[bE.mp hp];show g),gb rfl);have f:∀v:LN,([v]:List _).Nodup:=λv=>by simp
 simp only[roF,bw,c7,or_false]at h
 rcases h with rfl |rfl |rfl |rfl |rfl |rfl
 .show(e wX,λu b=>?_);simp only[roU,roP,eR,map_nil,ia,fW,paU,bw,c7,or_false]at b ⊢
  rcases b with rfl |rfl
  .show(c _ (f _),λw a=>?_);simp only[bw,c7,or_false]at a
   rcases a with rfl |rfl
   .show N4 i
   .show oz (by simp) d (by decide)
  .show(c _ (f _),λw a=>?_);rw[bE.mp a];show oz (by simp) d (by decide)
 .have j:([wXa,wXb]:List _).Nodup:=by decide +kernel
  show(((j,λp hp=>?_),gb rfl),λu b=>?_)
  .simp only[roP,bw,c7,or_false]at hp
   rcases hp with rfl |rfl <;> show g
  .simp only[roU,roP,eR,map_nil,ia,fW,paU,bw,c7,or_false]at b ⊢;subst b;show(c _ j,λw a=>?_);simp only[bw,c7,or_false]at a
   rcases a with rfl |rfl
   .show oz (by decide) l (by decide)
   .show oz (by decide) m (by decide)
 .show(c _ jQ,λu b=>?_);simp only[roU,roP,eR,map_nil,ia,fW,paU,bw,c7,or_false]at b ⊢;subst b;show(e wX,λw a=>?_);simp only[lE,kA,flatMap_nil,fW,bZ,bw,c7,or_false]at a;subst a;show oz (by simp) d (by decide)
 .show(c _ jQ,λu b=>?_);simp only[roU,roP,eR,map_nil,ia,fW,paU,bw,c7,or_false]at b ⊢
  rcases b with rfl |rfl
  .show⟨c _ jQ,λw a=>nomatch a⟩
  .show(e wY,λw a=>?_);simp only[lE,kA,flatMap_nil,fW,bZ,bw,c7,or_false]at a;subst a;show oz (by simp) q (by decide)
 .show(e wX,λu b=>?_);simp only[roU,roP,eR,map_nil,ia,fW,paU,bw,c7,or_false]at b ⊢
  rcases b with rfl |rfl
  .show(c _ (f _),λw a=>?_);simp only[bw,c7,or_false]at a
   rcases a with rfl |rfl
   .show oz (by simp) d (by decide)
   .show N4 i
  .show(c _ (f _),λw a=>?_);simp only[bw,c7,or_false,or_self]at a;subst a;show oz (by simp) d (by decide)
 .show(c _ jQ,λu b=>?_);simp only[roU,roP,eR,map_nil,ia,fW,paU,bw,c7,or_false]at b ⊢
  rcases b with rfl |rfl
  .show(e wA,λw a=>?_);simp only[lE,kA,flatMap_nil,ia,fW,bZ,bw,c7,or_false,or_self]at a;subst a;show oz (by simp) t (by decide)
  .show⟨c _ jQ,λw a=>nomatch a⟩
variable{ks:List Kd}
def WO(h:r∈roF o r' k n)(m:Lwn o)(q:Lwn r')(i:Lwn k)(c:RoS r)(b:ks.length<=1000)(a:k∉ks.map (·.1)):Rz (wE [r.toD,.lst (ks.map kdD)]) (pR [r.toD,.lst (ks.map kdD)]):=by
 have kl:=(fT i.2).2;have d:∀C:List _,C.Nodup->PsK (ks.map (·.1)) C []/\([]:List Pr).length<=50:=λC l=>(⟨by simpa using l,λ_ z=>nomatch z⟩,by decide);have s1:∀v:LN,v.length<=100->∀p∈[(v,k,)],p.1.length<=1000/\p.2.length<=1000:=λv l p hp=>by rw[bE.mp hp];show(by change v.length<=_;lia,by change k.length<=_;lia)
 have g:∀p∈([]:List Pr),p.1.length<=1000/\p.2.length<=1000:=λp hp=>nomatch hp;have hn:∀n ns,r≠.kind n ns:=λn ns z=>by have:=(Cq h).1;rw[z]at this;nomatch this
 simp only[roF,bw,c7,or_false]at h
 rcases h with rfl |rfl |rfl |rfl |rfl |rfl
 .show uJ ks _ hn c b (gb rfl,s1 wX (by decide)) (.inl (by simp[roP],(wX,k,),by simp[roP],a))
 .show uJ ks _ hn c b (gb rfl,λp hp=>?_) (.inl (by change([wXa,wXb]:List _).Nodup;decide +kernel,(wXa,k,),by simp[roP],a));simp only[roP,bw,c7,or_false]at hp
  rcases hp with rfl |rfl
  .show(gb rfl,by change k.length<=_;lia)
  .show(gb rfl,by change k.length<=_;lia)
 .show uJ ks _ hn c b (gb rfl,g) (.inr ((d _ jQ).1,λu f=>?_,_,bE.mpr rfl,by simp[roP],_,bE.mpr rfl,a));rw[bE.mp f];show((gb rfl,s1 wX (by decide)),.inr (by simp[roP],_,bE.mpr rfl,a))
 .show uJ ks _ hn c b (gb rfl,g) (.inr ((d _ jQ).1,λu f=>?_,_,bx _ (bE.mpr rfl),by simp[roP,paU],_,bE.mpr rfl,a))
  rcases bw.mp f with e |e
  .rw[e];show((gb rfl,g),.inl ⟨d _ jQ,λw j=>nomatch j⟩)
  .rw[bE.mp e];show((gb rfl,s1 wY (by decide)),.inr (by simp[roP,paU],_,bE.mpr rfl,a))
 .show uJ ks _ hn c b (gb rfl,s1 wX (by decide)) (.inl (by simp[roP],(wX,k,),by simp[roP],a))
 .show uJ ks _ hn c b (gb rfl,g) (.inr ((d _ jQ).1,λu f=>?_,_,bi,by simp[roP,paU],_,bE.mpr rfl,a))
  rcases bw.mp f with e |e
  .rw[e];show((gb rfl,s1 wA (by decide)),.inr (by simp[roP,paU],(wA,k,),bE.mpr rfl,a))
  .simp only[bE.mp e];show((gb rfl,g),.inl ⟨d _ jQ,λw j=>nomatch j⟩)
def iT(ys:List Lr):Z0:=ys.flatMap nmY
def kr(X3:List (Lr×Ro)):List Kd:=X3.flatMap λz=>qb z.2
def Hc:∀(K:Z0) (a b:List Lr),dE K (a++b)=(dE K a && dE (K++iT a) b)
 |K,[],b=>by change dE K b=(ac && dE (K++[]) b);rw[bZ,Bool.true_and]
 |K,y::a,b=>by
  change(!bdY K y && dE _ (a++b))=((!bdY K y && dE _ a) && dE (K++(nmY y++iT a)) b);rw[Hc _ a b,Bool.and_assoc,fb]
def WP(ys:List Lr):(iT ys).length<=ys.length:=by
 unfold iT
 induction ys with
 |nil=>simp
 |cons y ys a=>
  rw[kA,aX,aU]
  have:(nmY y).length<=1:=by unfold nmY;split <;> simp
  lia
def N5(pre:List Lr)(y:Lr):iT (pre++[y])=iT pre++nmY y:=by
 unfold iT;rw[flatMap_append,flatMap_singleton]
variable{y:Lr}
def N6{pre post:List Lr}(h:dE [] (pre++y::post)=ac):bdY (iT pre) y=ah:=by
 rw[Hc,cM]at h;have a:(!bdY ([]++iT pre) y && dE ([]++iT pre++nmY y) post)=ac:=h.2;rw[cM,fW]at a
 simpa using a.1
def N7(pre:List Lr)(y:Lr):dE [] (pre++[y])=(dE [] pre && !bdY (iT pre) y):=by
 rw[Hc];change(_ && (!bdY ([]++iT pre) y && ac))=_;rw[fW,xW]
def N8(ys:List Lr)(i:ys.length<=1000):rp [.lst (ys.map Lr.toD)]=aa (.bl (dE [] ys)):=by
 suffices h:wp wK _ (λo=>o=.rt (.bl (dE [] ys))) by
  have(o,e,rfl):=h;show vF e
 delta wK
 apply ar;show mF rfl ?_;apply ar;show qB ys Lr.toD (λpre U=>(∃a,U=[.im _,.own ((iT pre).map sT),a])/\dE [] pre=ac) (fh rfl rfl) ((_,rfl),rfl) ?_ ?_
 .rintro pre y post U g ⟨⟨a,rfl⟩,c⟩;show(_,rfl,?_);have hn:=WP pre;have hp:pre.length<=ys.length:=by simp_all
  change wp _ [.im _,.own _,.im y.toD] _;apply ar;show bg (b:=bdY _ y) (zn (kZ (iJ (aL rfl rfl rfl) rfl)) (zn (br (aA (aL rfl rfl rfl) rfl (inW y.nm _))) (zm (br (aA (aL rfl rfl rfl) rfl (neT y.us []))) (br (aA (aL rfl rfl rfl) rfl (Cj y.us _)))))) (λe=>?_) λe=>bv ?_
  .show eD rfl ?_
   have:dE [] ys=ah:=by
    cases h:dE [] ys with
    |false=>rfl
    |true=>rw[g]at h;rw[N6 h]at e;nomatch e
   change Fl.rt _=.rt _;rw[this]
  .have f:dE [] (pre++[y])=ac:=by rw[N7,c,e];rfl
   show bg (br (aA (aL rfl rfl rfl) rfl (neT y.nm []))) (λe=>?_) λe=>bv ((.im y.toD,?_),f)
   .show nO (aL rfl rfl rfl) rfl (by rw[bh];lia) ((.im y.toD,?_),f);have d:nmY y=_:=if_neg λz=>by rw[decide_eq_true z]at e;nomatch e
    rw[N5,d,fL];rfl
   .have d:nmY y=[]:=if_pos (by grind);rw[N5,d,bZ]
 .rintro U ⟨⟨a,rfl⟩,c⟩;show eD rfl ?_;rw[c]
def WQ(h:Lk y r):(qb r).map (·.1)=nmY y:=by
 rcases h.c with⟨n,ns,rfl,hn,e,_,_⟩ |⟨o,r',k,n,a,_,e,_,_⟩
 .change[n]=_;unfold nmY;rw[e,if_neg (Cp hn)]
 .rw[(Cq a).2];unfold nmY;rw[e,if_pos rfl];rfl
def WR:∀w∈nmY y,w≠[]:=by
 unfold nmY;split
 .show λw a=>nomatch a
 .rename_i h;show λw a=>by rw[bE.mp a];show h
def Hd{X3:List (Lr×Ro)}(h:∀z∈X3,Lk z.1 z.2):(kr X3).map (·.1)=iT (X3.map (·.1)):=by
 unfold kr iT
 induction X3 with
 |nil=>rfl
 |cons z X3 a=>
  rw[kA,fL,eR,kA,a λx hx=>h x (bx _ hx),WQ (h z bi)]
def WS(ys:List Lr):([]:LN)∉iT ys:=λm=>by
 have(y,_,a):=mem_flatMap.mp m;show WR _ a rfl
def N9(X3:List (Lr×Ro)):(kr X3).length<=X3.length:=by
 unfold kr
 induction X3 with
 |nil=>simp
 |cons r rs a=>
  rw[kA,aX,aU]
  have:(qb r.2).length<=1:=by cases r.2 <;> simp[qb]
  lia
def Oa(pre:List (Lr×Ro))(z:Lr×Ro):kr (pre++[z])=kr pre++qb z.2:=by
 unfold kr;rw[flatMap_append,flatMap_singleton]
def Ob(h:Lk y r)(a:bdY (ks.map (·.1)) y=ah):NY ks r:=by
 delta bdY at a
 rcases h.c with⟨n,ns,rfl,hn,b,i,d⟩ |⟨o,r',k,n,j,f,b,i,d⟩
 .rw[b,d]at a;simp only[r6,Cz,decide_eq_true_eq,decide_eq_false_iff_not]at a;show⟨λm g e=>?_,λe=>nomatch e⟩;cases e;show(a.2.1,a.1)
 .have l:=Cp f.2.2;rw[b,i,d,decide_eq_false l]at a;simp only[r6,Cz,decide_eq_true_eq,Bool.not_false,Bool.true_and]at a;show(λm g e=>?_,λ_=>WN j f.1 f.2.1 a.2.2);have:=(Cq j).1;rw[e]at this
  nomatch this
def WT(h:Lk y r)(j:ks.length<=1000)(m:[]∉ks.map (·.1))(a:bdY (ks.map (·.1)) y=ac):WJ ks r:=by
 delta bdY at a
 rcases h.c with⟨n,ns,rfl,hn,d,f,g⟩ |⟨o,r',k,n,l,b,d,f,g⟩
 .rw[d,f,g]at a;simp only[gW,CA,decide_eq_false_iff_not,decide_eq_true_eq,decide_true,Bool.not_true,uP,Bool.false_eq_true,or_false]at a;have(p,q,t,u):=(h.o.ok);show⟨λ_=>WH ks n ns a.symm (by have:=(fT p).2;lia) (by lia) j,λe=>nomatch e⟩
 .have i:=Cp b.2.2;rw[d,f,g,decide_eq_false i,decide_eq_false m]at a;simp only[Bool.not_true,Bool.false_or,Bool.not_false,Bool.true_and,CA,decide_eq_false_iff_not]at a;show(λe=>?_,λ_=>WO l b.1 b.2.1 b.2.2 (Hb h.o.ok) j a);rw[(Cq l).1]at e
  nomatch e
nonrec def bS(X3:List (Lr×Ro)):LD:=X3.map λz=>z.2.toD
def Oc(X3:List (Lr×Ro))(c:∀z∈X3,Lk z.1 z.2)(j:X3.length<=200)(h:dE [] (X3.map (·.1))=ac):gl [.lst (bS X3)]=aa (.lst ((kr X3).map kdD)):=by
 apply eE
 delta wG
 apply ar;show mF rfl ?_;apply ar;show qB X3 _ (λpre U=>∃b,U=[.im _,.own ((kr pre).map kdD),b]) (fh rfl rfl) (_,rfl) ?_ ?_
 .rintro pre z post U g ⟨b,rfl⟩;show(_,rfl,?_);have hp:pre.length<=X3.length:=by simp_all
  have i:=N9 pre;have d:=c z (by simp_all);have a:∀x∈pre,Lk x.1 x.2:=λx hx=>c x (by simp_all)
  have f:bdY ((kr pre).map (·.1)) z.1=ah:=by
   rw[Hd a];show N6 (post:=post.map (·.1)) ?_
   simp_all
  have(o,e,rfl):=N3 _ _ z.2 (Ob d f) (Hb d.o.ok) (by lia);show(_,e,_,by rw[Oa])
 .rintro U ⟨b,rfl⟩;show(_,rfl,_,rfl,rfl)
def Od(X3:List (Lr×Ro))(i:∀z∈X3,Lk z.1 z.2)(n:X3.length<=200)(h:dE [] (X3.map (·.1))=ah):Rz (pS [.lst (bS X3)]) (gl [.lst (bS X3)]):=by
 show zR ?_;change Rz (wH _) _
 delta wH wG
 show eZ rfl (zH (zF rfl ?_));show Co (I:=λp U=>(∃g,U=[.im _,.own ((kr p).map kdD),g])/\dE [] (p.map (·.1))=ac) X3 [] _ ((_,rfl),rfl) ?_ ?_
 .rintro pre z post b U ⟨⟨g,rfl⟩,d⟩;have b:X3=pre++z::post:=b;show(_,rfl,?_);have hp:pre.length<=X3.length:=by rw[b,aX];lia
  have m:=N9 pre;have f:=i z (by rw[b];simp);have a:∀x∈pre,Lk x.1 x.2:=λx hx=>i x (by rw[b];simp[hx]);change(Rz (rIf _ _ _ [.im _,.own _,.im z.2.toD]) _)\/_
  cases c:bdY _ z.1 with
  |false=>
   have(o,e,rfl):=N3 _ (kr pre) z.2 (Ob f c) (Hb f.o.ok) (by lia);show .inr (_,e,(_,by rw[Oa]),?_);rw[Hd a]at c;rw[fL];change dE [] (pre.map (·.1)++[z.1])=ac;rw[N7,d,c]
   rfl
  |true=>
   show .inl ?_;have(j,l):=WT f (by lia) (by rw[Hd a];show WS _) c;have t:=NZ z.2 (.im (.lst (bS X3))) (.own ((kr pre).map kdD))
   delta rIf
   rw[tX1 t]
   cases hi:isK z.2 with
   |true=>
    rw[hi]at t
    show zI t (NW rfl (zH (zD (NV (bp (bq rfl) (bp (bq rfl) rfl)) (al rfl (al rfl rfl)) (j hi)))))
   |false=>
    rw[hi]at t;show zJ t (NW rfl (zD (NV (bp (bq rfl) (bp (bq rfl) rfl)) (al rfl (al rfl rfl)) (l hi))))
 .rintro U ⟨_,d⟩;rw[fW,h]at d
  nomatch d
def zB{α a:Type}{o:Option α}{g:α->Option a}(h:Rz b o):Rz b (o.bind g):=(h.1,by rw[h.2];rfl)
def zP{α a:Type}{o:Option α}{g:α->a}(h:Rz b o):Rz b (o.map g):=(h.1,by rw[h.2];rfl)
variable{fa:Xa}{l:Addr}{p:Nat}
section
variable{W:Z0}
def zM{m:Addr->LD->LD->Option (LD×D)}{r:Addr->LD->LD->Bool}(h:Rz (r l j (fls W p)) (m l j (fls W p)))(hn:rN.contains nm=ah<|Zb)(a:(fa (rd l W p::tl)=aa (j,rd l W p::tl,))<|Zb):Rz (bC 0 "Reader" nm rN r fa (rd l W p::tl)) (av 0 "Reader" nm rN m fa (rd l W p::tl)):=by
 constructor
 .delta bC
  simp_all
 .change(if ("Reader":Str)="Reader" /\ rN=rN/\rN.contains nm=ah then (fa _).bind _ else ae)=ae
  grind
end
variable{f:Xe}
def He(h:Rz (r1 U) (f U)):Rz (eL r1 f r2 U) (aw f fa U):=(by unfold eL;rw[h.1];rfl,by unfold aw;rw[h.2];rfl)
def rZ(e:f U=aa (d,ρ1,))(h:Rz (r2 ρ1) (fa ρ1)):Rz (eL r1 f r2 U) (aw f fa U):=(by unfold eL;rw[e];dsimp only;rw[h.1,r9],by unfold aw;rw[e,aE];show zP h |>.2)
def zT(e:t U=aa ac)(h:Rz (r1 U) (F U)):Rz (rIf (mTX t) r1 r2 U) (aW t F F' U):=zI e (by unfold rIf;rw[tX1 e];show h.1,h.2)
variable{g:Xe}
def Hg{t:Xt}(e:t U=aa (ac,ρ1,))(h:Rz (r1 ρ1) (f ρ1)):Rz (rIf t r1 r2 U) (ji t f g U):=(by unfold rIf;rw[e];show h.1,by unfold ji;rw[e];show h.2)
def WU{t:Xt}(e:t U=aa (ah,ρ1,))(h:Rz (r2 ρ1) (g ρ1)):Rz (rIf t r1 r2 U) (ji t f g U):=(by unfold rIf;rw[e];show h.1,by unfold ji;rw[e];show h.2)
variable{r:LS->Bool}
def WV{a:LD->Bool}(h:Rz (r U) (fa U)):Rz (gk r a fa U) (j6 m fa U):=(by unfold gk;rw[h.1];rfl,by unfold j6;rw[h.2];rfl)
def nS(e:t U=aa ah):aW t F aY U=aa (.nx U):=by unfold aW;rw[e];rfl
def nX{t:Xt}(e:t U=aa (ah,ρ1,)):g8 t F aY U=aa (.nx ρ1):=by unfold g8;rw[e];rfl
def uK(e:f U=aa (d,ρ1,)):ci i f U=aa (.nx (ρ1.set i (.im d))):=by unfold ci;rw[e];rfl
def shw(w:LN):Prop:=asc w/\w.length<=1000
def Hh(h:shw w):(mo (tx w)).length<=10002:=by
 have:=StrLaws.reprText_len (tx w) λc b=>by
  have a:c∈w:=by simpa using b
  show uV (of_decide_eq_true (all_eq_true.mp h.1 c a)) (by decide)
 have e:=dQ w;have:=h.2;lia
def Oe{f:Z4}{g:LS->Option Z1}(h:f U=aa (sT w))(b:shw w)(a:g U=aa zs):mFr f g U=aa (mo (tx w)::zs):=by
 unfold mFr;rw[h,aE];change(if (mo _).length<=16777216 then aa _ else ae).bind _=_;rw[if_pos (by have:=Hh b;lia),aE,a];rfl
def Cr(a b:Str):(iu iX [a,b]).length=a.length+b.length:=by
 change(_++b).length=_;rw[oO,oO];change 0+a.length+b.length=_;lia
def WW(h:shw w)(c:z.length<=1000)(a:af 1 U=aa (sT w)):rOf (ag (mFs (mFr (af 1) (mFc z nZ))) nZ) U=ac:=by
 have b:=Hh h;show uI (Oe a h (oy rfl)) (by rw[Cr];lia)
def Cs{W:Z0}(a:shw w)(hn:bG w=ah)(e:W.getD p []=w):Rz (r_0 l [] (fls W p)) (m_0 l [] (fls W p)):=by
 show zB ?_;change Rz (wM [rd l W p,.no]) _
 delta wM b_0
 show eZ (ρ1:=[rd l W _,.im _]) (by rw[uK (iw rfl rfl (rY l W p)),e];rfl) (zH (zT (kZ (iJ (aM rfl (Ml w a.2 a.1)) (by rw[hn];rfl))) (WW a (by decide) rfl,rfl)))
def Of{W:Z0}(b:D.str z=sT w)(a:w.length<=1000)(h:W.getD p []≠w):Rz (r_1 l [sT w] (fls W p)) (m_1 l [sT w] (fls W p)):=by
 show zB ?_;change Rz (wL [rd l W p,.im _]) (b_1 [rd l W p,.im _]);have t:=GW (ot (iw (nm:="passes") (f:=aw (mX (af 1)) aj) (tl':=[.im _]) rfl (bp (bq rfl) rfl) (M7 (l:=l) h)))
 delta wL b_1
 show(?_,by delta g8;rw[t];rfl)
 delta rIf
 rw[t];show uI (Cn rfl a (oy rfl)) ?_;rw[Cr,dQ];have:(" is missing":Str).length=11:=rfl
 lia
def xR{W:Z0}(a:shw w)(hn:bG w=ah)(e:W.getD p []=w):Rz (r_2 l [] (fls W p)) (m_2 l [] (fls W p)):=by
 show zB (o:=b_2 [rd l W p,.no]) ?_;change Rz (rC [rd l W p,.no]) (b_2 [rd l W p,.no]);unfold rC b_2;show iz (zP (zM (Cs a hn e)))
def WX{W:Z0}(a:shw w)(b:fS w=ah)(hn:bG w=ah)(e:W.getD p []=w):Rz (r_6 l [] (fls W p)) (m_6 l [] (fls W p)):=by
 show zB ?_
 delta A3 b_6
 show zP (WU (ot (uE (bp (iR l W p 0 [] rfl) rfl) ?_)) (zM (Cs a hn e)));rw[jt,e];show(BK w a.2 a.1).trans (by rw[b])
def WY{W:Z0}(b:shw w)(a:fS w=ah)(hn:bG w=ah)(e:W.getD p []=w):Rz (Ge l [] (fls W p)) (A4 l [] (fls W p)):=by
 show zB (o:=rB [rd l W p,.no]) ?_;change Rz (wS [rd l W p,.no]) (rB [rd l W p,.no]);unfold wS rB;show iz (zP (zM (WX b a hn e)))
def WZ{W:Z0}{n:LN}(h:bG n=ac)(hd:W.drop p=n::[40]::w::post)(b:shw w)(a:fS w=ah)(hn:bG w=ah):Rz (r_2 l [] (fls W p)) (m_2 l [] (fls W p)):=by
 show zB ?_;change Rz (rC [rd l W p,.no]) _
 delta rC b_2
 show eZ (by rw[uK (cr (ox h) rfl hd (by simp))];rfl) (zP (zP (rZ (bq rfl) (zB (Hg (ow opS (fU hd)) (zM (WY b a hn (iS (fU (fU hd))))))))))
def W0{W:Z0}(e:W.length<=p):Rz (Bd l [] (fls W p)) (rE l [] (fls W p)):=by
 have a:W.getD p []=[]:=by simp_all
 have b:W.getD (p+1) []=[]:=by rw[jM,List.getElem?_eq_none (by lia)];rfl
 show zB ?_
 delta Bc wU
 show eZ (nX (noX (cwD "not") (m6 e) (by decide +kernel))) ?_;show eZ (nX (bxX (ki (iR l W p 0 _ rfl) (bq rfl) (by rw[jt,a];show G0 (by decide +kernel) (by decide +kernel))))) ?_;show eZ (nX (bxX (ki (iR l W p 1 _ rfl) (bq rfl) (by rw[b,cwD "unlike",eqT,decide_eq_false (by decide +kernel)])))) (zP (zP (rZ (bq rfl) (zB (zM (xR (rfl,by decide) (by decide +kernel) a))))))
def Og{W:Z0}(e:W.length<=p):Rz (Be l [] (fls W p)) (ui l [] (fls W p)):=by
 show zB (o:=rF [rd l W p,.no]) ?_;change Rz (wV [rd l W p,.no]) (rF [rd l W p,.no]);unfold wV rF;show iz (zP (zM (W0 e)))
def W1{W:Z0}(hd:W.drop p=[cw "if"]):Rz (wZ l [] (fls W p)) (mU l [] (fls W p)):=by
 show zB ?_
 delta Bf wW
 have e:=congrArg me hd;rw[m8,gI]at e;show zP (Hg (ow (cwD "if") hd) (zM (Og (by lia))))
def W2{W:Z0}(a:fS v=ac)(hd:W.drop p=v::w::post)(b:w≠cw "in"):Rz (AY l [] (fls W p)) (rq l [] (fls W p)):=by
 show zB ?_;change Rz (wO [rd l W p,.no]) _
 delta wO AX
 show eZ (ρ1:=[rd l W (p+1),.im _]) (by rw[uK (cr (GX a) rfl hd (by simp))];rfl) (iz (zP (zM (Of (cwD _) (by decide +kernel) (by rw[iS (fU hd)];show b)) rfl (bp (bq (congrArg aa (cwD "in"))) rfl))))
def W3{W:Z0}(a:fS v=ac)(hd:W.drop p=cw "for" :: v::w::post)(b:w≠cw "in"):Rz (uf l [] (fls W p)) (n6 l [] (fls W p)):=by
 show zB ?_
 delta A1 wR
 show zP (Hg (ow (cwD "for") hd) (WV (zB (zM ?_))));show zB ?_
 delta AZ wP
 show iz (zP (zM (W2 a (fU hd) b)))
def W4{W:Z0}(e:W.length<=p):Rz (Go l [] (fls W p)) (uk l [] (fls W p)):=by
 have a:W.getD p []=[]:=by simp_all
 show zB ?_
 delta Bh w9
 show iz (zP (zM (Cs (rfl,by decide) (by decide +kernel) a)))
def W5{W:Z0}(hn:du n)(hd:W.drop p=aI n::w::post)(a:w≠cw "to"):Rz (Bg l [] (fls W p)) (uj l [] (fls W p)):=by
 show zB ?_;change Rz (w6 [rd l W p,.no,.no]) _
 delta w6 w5
 show eZ (ρ1:=[rd l W (p+1),.im _,.no]) (by rw[uK (cr (xM hn) rfl hd (by simp))];rfl) (iz (zP (zM (Of (cwD _) (by decide +kernel) (by rw[iS (fU hd)];show a)) rfl (bp (bq (congrArg aa (cwD "to"))) rfl))))
def W6{W:Z0}(e:W.length<=p):Rz (xa l [] (fls W p)) (rG l [] (fls W p)):=by
 show zB (o:=pU [rd l W p,.no]) ?_;change Rz (rH [rd l W p,.no]) (pU [rd l W p,.no]);unfold rH pU;show iz (zP (zM (Og e)))
def W7{W:Z0}{b:LN}(ha:dq a=ac)(d:dq b=ac)(hd:W.drop p=[a,cw "unlike",b]):Rz (xa l [] (fls W p)) (rG l [] (fls W p)):=by
 show zB ?_;change Rz (rH [rd l W p,.no]) _
 delta rH pU
 have c:fw [.un a b]:=(λq f=>by rw[bE.mp f];show(ha,d),gb rfl);show eZ (ρ1:=[rd l W _,.im _]) (by rw[uK (cr (G3 c (by simp)) rfl hd (by decide +kernel))];rfl) ?_
 have e:bP 1 [] (bH (af 1)) (aT 0) kY (m2 dEq (mIx (aF 0) (kI 0)) (kSt "unlike")) [rd l W (p+(bWd [.un a b]).length),.im (.lst ([Pa.un a b].map Pa.toD))]=aa (([Pa.un a b].map Pa.unl).map D.bl):=by
  show jz [Pa.un a b] Pa.toD _ rfl (by simp) λq _=>je rfl rfl (Nr q)
 show iz (zT (iJ (aM (al (cg e) rfl) (Cf _)) rfl) (rfl,rfl))
def jo{W:Z0}(j:W.getD 0 []=w)(i:shw w)(h:
  (w=cw "kind" /\ (Rz (r_0 l [] (fls W 1)) (m_0 l [] (fls W 1))\/∃n,bG n=ac/\W.drop 1=[n])) \/
  ((w=cw "rule" \/ w=cw "may")/\(Rz (r_2 l [] (fls W 1)) (m_2 l [] (fls W 1))\/∃n post,bG n=ac/\W.drop 1=n::post/\N_k91.hd post≠[40]/\(Rz (wZ l [] (fls W 2)) (mU l [] (fls W 2))\/N_k91.hd post=cw "for" /\ Rz (uf l [] (fls W 2)) (n6 l [] (fls W 2))))) \/
  (w=cw "choose" /\ Rz (Bg l [] (fls W 1)) (uj l [] (fls W 1))) \/
  (w=cw "never" /\ Rz (xa l [] (fls W 1)) (rG l [] (fls W 1))) \/
  (w≠cw "kind" /\ w≠cw "rule" /\ w≠cw "may" /\ w≠cw "choose" /\ w≠cw "never")):Rz (um l [] (fls W 0)) (pV l [] (fls W 0)):=by
 show zB ?_;change Rz (xb [rd l W 0,.no]) (ul [rd l W 0,.no])
 delta xb ul
 show eZ (ρ1:=[rd l W 1,.im (sT w)]) (by rw[uK (iw (p:=0) rfl rfl (rY l W 0)),j];rfl) ?_;have q:∀(z:Str) (b:Bool),decide (w=cw z)=b->mB (m2 dEq (af 1) (λ_=>aa (.str z))) [rd l W 1,.im (sT w)]=aa b:=λz b e=>br (aA rfl rfl ((eqC _ _).trans (by rw[e])));have f:=λe=>nS (F:=cU (gy (aw (mX (kSt "kind")) (aw (av 0 "Reader" "read_name" rN m_0 aj) (aw (av 0 "Reader" "read_names" rN uk aj) aj))))) (q "kind" ah (decide_eq_false e));have g:w≠cw "rule" /\ w≠cw "may" -> mB (m2 dIn (af 1) (cH (ag (kSt "rule") (ag (kSt "may") nZ)))) [rd l W 1,.im (sT w)]=aa ah:=λe=>br (aA rfl rfl (G4 e.1 e.2))
 rcases h with⟨e,h⟩ |⟨e,h⟩ |⟨e,h⟩ |⟨e,h⟩ |⟨a,b,c,d,e⟩
 .show iz (zT (q "kind" ac (decide_eq_true e)) (zP (zP (rZ (bq rfl) ?_))))
  rcases h with h |⟨n,hn,hd⟩
  .show He (zM h)
  .have o:=congrArg me hd;rw[m8,gI]at o;show rZ (cr (ox hn) rfl (post:=[]) hd (by simp)) (zB (zM (W4 (by change W.length<=1+1;lia))))
 .have m:∃b,w=cw (ruS b):=e.elim (λe=>(ac,e)) λe=>(ah,e);have(b,rfl):=m
  show eZ (f (by cases b <;> decide +kernel)) (iz (zT (br (aA rfl rfl (Nt b))) (zP (zP (rZ (bq rfl) ?_)))))
  rcases h with h |⟨n,post,hn,hd,hp,h⟩
  .show He (zM h)
  .show rZ (cr (xN (t:=(n,[],)) (hn,(λ_ z=>nomatch z),gJ 3)) rfl (post:=post) hd (by simpa using hp)) ?_
   rcases h with h |⟨hi,h⟩
   .show He (zM h)
   .show rZ (cr (Nm (bd:=[]) ((λ_ z=>nomatch z),gJ 4)) rfl (post:=post) (fU hd) (by rw[hi];show Nn)) (zB (zM h))
 .subst e;show eZ (f (by decide +kernel)) (eZ (nS (g (by decide +kernel,by decide +kernel))) (iz (zT (q "choose" ac (decide_eq_true rfl)) (zP (zM h)))))
 .subst e;show eZ (f (by decide +kernel)) (eZ (nS (g (by decide +kernel,by decide +kernel))) (eZ (nS (q "choose" ah (decide_eq_false (by decide +kernel)))) (iz (zT (q "never" ac (decide_eq_true rfl)) (zP (zM h))))))
 .show eZ (f a) (eZ (nS (g (b,c))) (eZ (nS (q "choose" ah (decide_eq_false d))) (eZ (nS (q "never" ah (decide_eq_false e))) (?_,rfl))));show uI (oy (Oe (w:=w) rfl i rfl)) ?_;have r:=Hh i;rw[Cr];have:("no row begins with ":Str).length=19:=by decide
  lia
variable{t:LN}
open Classical in
def W8{W:Z0}(b:t.length<=20000)(c:ws t []=W)(h:∀l,Rz (um l [] (fls W 0)) (pV l [] (fls W 0))):Rz (r_3 [sT t]) (m_3 [sT t]):=by
 show zR (k:=3) (F:=b_3) (j:=[sT t]) ?_;change Rz (xf [.im (sT t),.no,.no]) (b_3 [.im (sT t),.no,.no]);unfold xf b_3;show eZ (ρ1:=[.im (sT t),.obj "Reader" rN (fls W 0),.no]) ?_ (iz (zP ?_))
 .unfold tG;rw[al (aM rfl ((Mg t b).trans (by rw[c]))) rfl];rfl
 .constructor
  .unfold tK;change(decide (("Reader":Str)="Reader" /\ rN=rN/\rN.contains "read_form"=ah) && (decide (("Reader":Str)="Reader" /\ rN=rN) && decide (∀l,um l [] (fls W 0)=ac)))=ac;rw[decide_eq_true (rfl,rfl,rfl),decide_eq_true (rfl,rfl),decide_eq_true λl=>(h l).1];rfl
  .unfold nQ;change(if ("Reader":Str)="Reader" /\ rN=rN/\rN.contains "read_form"=ah then _ else ae)=_;rw[if_pos (rfl,rfl,rfl)];change(if ("Reader":Str)="Reader" /\ rN=rN then (if h:∃q,∀l,pV l [] (fls W 0)=aa q then aa (h.choose.2,[Sl.im (sT t),Sl.obj "Reader" rN h.choose.1,Sl.no],) else ae) else ae)=_;rw[if_pos (rfl,rfl),dif_neg];rintro⟨q,e⟩;have a:=e 0;rw[(h 0).2]at a;cases a
def nrT(n:LN):Z0:=[[],cw "rule",cw "kind " ++ n,cw "rule " ++ n++cw " if",cw "rule X",cw "never",cw "may " ++ n++cw "()",cw "row " ++ n,cw "choose 1 of " ++ n,cw "kind if a",cw "rule " ++ n++cw " for X of " ++ n,cw "never X unlike " ++ n,cw "may " ++ n++cw "\n",cw "\nmay " ++ n,cw "may " ++ n++cw "\nmay " ++ n]
def nrW(n:LN):List Z0:=[[],[cw "rule"],[cw "kind",n],[cw "rule",n,cw "if"],[cw "rule",wX],[cw "never"],[cw "may",n,[40],[41]],[cw "row",n],[cw "choose",aI 1,cw "of",n],[cw "kind",cw "if",cw "a"],[cw "rule",n,cw "for",wX,cw "of",n],[cw "never",wX,cw "unlike",n],[cw "may",n++[10]],[10::cw "may",n],[cw "may",n++10::cw "may",n]]
def ld0:("kind ":Str).cps.toList=[107,105,110,100,32]:=by decide +kernel
def ld1:(" if":Str).cps.toList=[32,105,102]:=by decide +kernel
def ld2:("rule X":Str).cps.toList=[114,117,108,101,32,88]:=by decide +kernel
def ld3:("()":Str).cps.toList=[40,41]:=by decide +kernel
def ld4:("row ":Str).cps.toList=[114,111,119,32]:=by decide +kernel
def ld5:("choose 1 of ":Str).cps.toList=[99,104,111,111,115,101,32,49,32,111,102,32]:=by decide +kernel
def ld6:("kind if a":Str).cps.toList=[107,105,110,100,32,105,102,32,97]:=by decide +kernel
def ld7:(" for X of ":Str).cps.toList=[32,102,111,114,32,88,32,111,102,32]:=by decide +kernel
def ld8:("\n":Str).cps.toList=[10]:=by decide +kernel
def ld9:("\nmay ":Str).cps.toList=[10,109,97,121,32]:=by decide +kernel
def W9:("row":Str).cps.toList=[114,111,119]:=by decide +kernel
def Xb:("a":Str).cps.toList=[97]:=by decide +kernel
def n_1:aI 1=[49]:=by decide +kernel
variable{n:LN}
def Xc(h:low n)(c:n≠[]):(nrT n).map (λt=>ws t [])=nrW n:=by
 have pn:plain n:=λx hx=>by
  have:=h x hx
  delta jl
  lia
 have b:=λr a=>GE n r a pn
 have d:=λa=>by
  have:=b [] a;rw[bZ]at this;show this
 simp[nrT,nrW,ws,fl,jl,b,d,c,cw,wX,n_1,ld0,ld1,ld2,ld3,ld4,ld5,ld6,ld7,ld8,ld9,W9,Xb,lc0,lc4,Cg,G5,NF,NG,G6,NH,NI,NJ,NK,V7]
def Oh(a b:LN):bG (a++10::b)=ah:=by
 cases h:bG (a++10::b)with
 |false=>rfl
 |true=>have:=(BV h) 10 (by simp);lia
def Xd(hn:bG n=ac)(l:Addr):∀W∈nrW n,Rz (um l [] (fls W 0)) (pV l [] (fls W 0)):=by
 have f:=fT hn
 have an:∀z:LN,asc z->z.length<=100->shw _:=λz c e=>⟨BW λx hx=>by
  rcases cW.mp hx with h |h
  .have:=BV hn x h;lia
  .show of_decide_eq_true (all_eq_true.mp c x h),by rw[aX];lia⟩
 have b:∀w:LN,asc w->w.length<=100->shw w:=λw c e=>(c,by lia);intro W d;simp only[nrW,bw,c7,or_false]at d
 rcases d with rfl |rfl |rfl |rfl |rfl |rfl |rfl |rfl |rfl |rfl |rfl |rfl |rfl |rfl |rfl
 .show jo (w:=[]) rfl (b [] (rfl) (by decide)) (.inr (.inr (.inr (.inr (by decide +kernel)))))
 .show jo (w:=cw "rule") rfl (b _ (by decide +kernel) (by decide +kernel)) (.inr (.inl (.inl rfl,.inl (xR (b [] (rfl) (by decide)) (by decide +kernel) rfl))))
 .show jo (w:=cw "kind") rfl (b _ (by decide +kernel) (by decide +kernel)) (.inl (rfl,.inr (n,hn,rfl)))
 .show jo (w:=cw "rule") rfl (b _ (by decide +kernel) (by decide +kernel)) (.inr (.inl (.inl rfl,.inr (n,_,hn,rfl,by change cw "if" ≠ [40];decide +kernel,.inl (W1 rfl)))))
 .show jo (w:=cw "rule") rfl (b _ (by decide +kernel) (by decide +kernel)) (.inr (.inl (.inl rfl,.inl (xR (w:=wX) (b _ (by decide) (by decide)) (by decide +kernel) rfl))))
 .show jo (w:=cw "never") rfl (b _ (by decide +kernel) (by decide +kernel)) (.inr (.inr (.inr (.inl (rfl,W6 (bu 1))))))
 .show jo (w:=cw "may") rfl (b _ (by decide +kernel) (by decide +kernel)) (.inr (.inl (.inr rfl,.inl (WZ (w:=[41]) hn rfl (b _ (by decide) (by decide)) (by decide +kernel) (by decide +kernel)))))
 .show jo (w:=cw "row") rfl (b _ (by decide +kernel) (by decide +kernel)) (.inr (.inr (.inr (.inr (by decide +kernel)))))
 .show jo (w:=cw "choose") rfl (b _ (by decide +kernel) (by decide +kernel)) (.inr (.inr (.inl (rfl,W5 (n:=1) (by decide,by decide) rfl (by decide +kernel)))))
 .show jo (w:=cw "kind") rfl (b _ (by decide +kernel) (by decide +kernel)) (.inl (rfl,.inl (Cs (w:=cw "if") (b _ (by decide +kernel) (by decide +kernel)) (by decide +kernel) rfl)))
 .show jo (w:=cw "rule") rfl (b _ (by decide +kernel) (by decide +kernel)) (.inr (.inl (.inl rfl,.inr (n,_,hn,rfl,by change cw "for" ≠ [40];decide +kernel,.inr (rfl,W3 (v:=wX) (w:=cw "of") (by decide +kernel) rfl (by decide +kernel))))))
 .show jo (w:=cw "never") rfl (b _ (by decide +kernel) (by decide +kernel)) (.inr (.inr (.inr (.inl (rfl,W7 (a:=wX) (by decide +kernel) (xF hn) rfl)))))
 .show jo (w:=cw "may") rfl (b _ (by decide +kernel) (by decide +kernel)) (.inr (.inl (.inr rfl,.inl (xR (w:=n++[10]) (an _ (by decide) (by decide)) (Oh _ _) rfl))))
 .show jo (w:=10::cw "may") rfl (b _ (by decide +kernel) (by decide +kernel)) (.inr (.inr (.inr (.inr (by decide +kernel)))))
 .show jo (w:=cw "may") rfl (b _ (by decide +kernel) (by decide +kernel)) (.inr (.inl (.inr rfl,.inl (xR (w:=n++10::cw "may") (an _ (by decide +kernel) (by decide +kernel)) (Oh _ _) rfl))))
def Xf(h:n.length<=8):∀t∈nrT n,t.length<=100:=by
 intro t a;simp only[nrT,bw,c7,or_false]at a
 rcases a with rfl |rfl |rfl |rfl |rfl |rfl |rfl |rfl |rfl |rfl |rfl |rfl |rfl |rfl |rfl <;>
  (simp only[aX,cw,ld0,ld1,ld2,ld3,ld4,ld5,ld6,ld7,ld8,ld9,lc0,lc4,Cg,G5,G6,aU,fM];lia)
def Xg{ws:Z0}(m:m3 ws)(X5:Nat)(c:Int):∃t,Rz (r_3 [sT t]) (m_3 [sT t])/\FY [.int c,plD X5 ws]=aa (sT t):=by
 have(v1,r,E,G):=hV c 1 (by decide) (by decide);have(n,hn,u):=xP m X5 c (.inr rfl);have(ln,o):=m.low n hn;have j:=fT o;have C:n≠[]:=λe=>by rw[e]at j;show absurd j.1 (by decide)
 have p:=iA v1 (show(15:Int)≠0 by decide);have q:=iU v1 (show(0:Int)<15 by decide);have(t,v,i):=td (f:=sT) (B:=nrT n) p q;have mt:=iV v;have H:=Xf j.2 t mt;show(t,W8 (by lia) rfl λl=>Xd o l _ ?_,?_)
 .rw[<- Xc ln C];show mem_map_of_mem mt
 .apply eE
  delta AV
  change wp _ [.im (.int c),.im (plD X5 ws),.no,.no] _;apply ar;show bF (d:=sT n) ?_ ?_
  .delta mWk
   rw[aL rfl (aA rfl rfl (dN (by decide))) u];rfl
  change wp _ [.im (.int c),.im (plD X5 ws),.im (sT n),.no] _;have ad:∀{f g:Z4} {U:LS} {a b:LN},f U=aa (sT a)->g U=aa (sT b)->a.length+b.length<=100000->m2 aZ f g U=aa (sT (a++b)):=λw x y=>aA w x (on _ _ y);have lt:∀z:Str,aa (D.str z)=aa (sT (cw z)):=λz=>congrArg aa (cwD z);have Q:∀z:Str,(cw z).length<=20->(cw z).length+n.length<=30:=λz h=>by lia
  have k0:(cw "kind ").length=5:=by decide +kernel
  have k1:(cw "rule ").length=5:=by decide +kernel
  have k2:(cw " if").length=3:=by decide +kernel
  have k3:(cw "may ").length=4:=by decide +kernel
  have I:(cw "()").length=2:=by decide +kernel
  have k5:(cw "row ").length=4:=by decide +kernel
  have J:(cw "choose 1 of ").length=12:=by decide +kernel
  have L:(cw " for X of ").length=10:=by decide +kernel
  have M:(cw "never X unlike ").length=15:=by decide +kernel
  have N:(cw "\n").length=1:=by decide +kernel
  have A:(cw "\nmay ").length=5:=by decide +kernel
  apply ar;show bF (d:=.lst (((nrT n).take 8).map sT)) ?_ ?_
  .show cg (al (d:=sT []) rfl (al (d:=sT (cw "rule")) (lt _) (al (d:=sT (cw "kind " ++ n)) (ad (lt _) rfl ?_) (al (d:=sT (cw "rule " ++ n++cw " if")) (ad (ad (lt _) rfl ?_) (lt _) ?_) (al (d:=sT (cw "rule X")) (lt _) (al (d:=sT (cw "never")) (lt _) (al (d:=sT (cw "may " ++ n++cw "()")) (ad (ad (lt _) rfl ?_) (lt _) ?_) (al (d:=sT (cw "row " ++ n)) (ad (lt _) rfl ?_) rfl)))))))) <;> (try rw[aX]) <;> lia
  apply ar;show bF (d:=.lst (((nrT n).take 12).map sT)) ?_ ?_
  .show cg (uA (a:=(nrT n).take 8) (b:=[cw "choose 1 of " ++ n,cw "kind if a",cw "rule " ++ n++cw " for X of " ++ n,cw "never X unlike " ++ n]) rfl (cg (al (ad (lt _) rfl ?_) (al (lt _) (al (ad (ad (ad (lt _) rfl ?_) (lt _) ?_) rfl ?_) (al (ad (lt _) rfl ?_) rfl))))) (by change 8+4<=1000;decide)) <;> (try simp only[aX]) <;> lia
  apply ar;show bF (d:=.lst ((nrT n).map sT)) ?_ ?_
  .show cg (uA (a:=(nrT n).take 12) (b:=[cw "may " ++ n++cw "\n",cw "\nmay " ++ n,cw "may " ++ n++cw "\nmay " ++ n]) rfl (cg (al (ad (ad (lt _) rfl ?_) (lt _) ?_) (al (ad (lt _) rfl ?_) (al (ad (ad (ad (lt _) rfl ?_) (lt _) ?_) rfl ?_) rfl)))) (by change 12+3<=1000;decide)) <;> (try simp only[aX]) <;> lia
  show eD (d:=sT t) (aL rfl (aA (aM (al rfl (al rfl rfl)) r) rfl (dN (by decide))) i) (fm rfl)
nonrec def dk(rs:LD):O:=.ins "Desk" ["kept"] [.lst (rs.map .fz)]
nonrec def dkD(rs:LD):D:=.ins "Desk" ["kept"] [.lst rs]
nonrec def pK:Xp:=pr "Desk" "kept" (cc 0)
def xS:∀j:LD,O.kns (j.map .fz)=ac
 | []=>rfl
 | _::j=>xS j
variable{rs:LD}
def Oi:pC pK (.deep (.at l (dk rs))::tl)=aa rs:=vU rs
def Xh:pB pK (.deep (.at l (dk rs))::tl)=aa (.lst rs):=by
 change(if O.kns (rs.map .fz) then aa (D.lst (O.toDs (rs.map .fz))) else ae)=_;rw[xS,yR];rfl
def Xi:Sl.frz (.deep (.at l (dk rs)))=.im (dkD rs):=by
 change(if (O.kns (rs.map .fz) && ac)=ac then Sl.im (.ins "Desk" ["kept"] [.lst (O.toDs (rs.map .fz))]) else .no)=_;rw[xS,yR];rfl
def Oj:az cI (ag (pB pK) nZ) (.deep (.at l (dk rs))::tl)=aa (.int rs.length):=aM (al Xh rfl) rfl
def Xj(h:m_3 [sT t]=ae):m_7 l [sT t] (dk rs)=ae:=by
 change(b_7 [.deep _,.im _,.no]).bind _=ae
 delta b_7 ao aS
 rw[show az m_3 _ _=m_3 _ from rfl,h];rfl
variable{x:L2.D}
def Ol(h:m_3 [sT t]=aa x)(d:rs.length<=1000):b_7 [.deep (.at l (dk rs)),.im (sT t),.no]=(gl [.lst (rs++[x])]).bind λ_=>aa (.rtS (.int rs.length) [.deep (.at l (dk (rs++[x]))),.im (sT t),.im x]):=by
 delta b_7
 have a:aS 2 (az m_3 (ag (af 1) λ_=>aa [])) [.deep (.at l (dk rs)),.im (sT t),.no]=aa (.nx [.deep (.at l (dk rs)),.im (sT t),.im x]):=by
  delta aS
  rw[show az m_3 _ _=m_3 _ from rfl,h];rfl
 have b:aR (iM (pC pK) (ag (af 2) λ_=>aa [])) [.deep (.at l (dk rs)),.im (sT t),.im x]=aa (.lst (rs++[x])):=by
  show cg ?_
  delta iM
  rw[Oi,aE];show if_pos (by rw[gI];lia)
 delta ao
 rw[a,aE];change(cL _ _).bind _=_
 delta cL
 rw[show az gl _ _=gl _ by
  delta az;rw[al b rfl];rfl]
 cases gl _ with
 |none=>rfl
 |some y=>
  change(qO 0 pK (af 2) [.deep (.at l (dk rs)),.im (sT t),.im x]).bind _=_
  have c:qO 0 pK (af 2) [.deep (.at l (dk rs)),.im (sT t),.im x]=aa (.nx [.deep (.at l (dk (rs++[x]))),.im (sT t),.im x]):=by
   change((if (rs.map O.fz).length<16777216 then aa (O.lst (rs.map O.fz++[.fz x])) else ae).map _:Option Fl)=_;rw[if_pos (by rw[bh];lia),show rs.map O.fz++[.fz x]=(rs++[x]).map .fz by rw[fL];rfl];rfl
  rw[c,aE];change eC _ _=_;unfold eC;rw[aA Oj rfl vH,aX,gI];change aa (Fl.rtS (.int (((rs.length+1:Nat):Int)-1)) _)=aa (Fl.rtS (.int rs.length) _);rw[show(((rs.length+1:Nat):Int)-1)=rs.length by lia]
variable{y:L2.D}
def Xk(h:m_3 [sT t]=aa x)(a:gl [.lst (rs++[x])]=aa y)(b:rs.length<=1000):m_7 l [sT t] (dk rs)=aa (dk (rs++[x]),.int rs.length,):=by
 change(b_7 [.deep (.at l (dk rs)),.im (sT t),.no]).bind _=_;rw[Ol h b,a];change(li l _).map _=_;rw[vV rfl];rfl
def Xl(h:m_3 [sT t]=aa x)(a:gl [.lst (rs++[x])]=ae)(b:rs.length<=1000):m_7 l [sT t] (dk rs)=ae:=by
 change(b_7 [.deep (.at l (dk rs)),.im (sT t),.no]).bind _=_;rw[Ol h b,a];rfl
def Xm(h:m_3 [sT t]=aa x)(a:pS [.lst (rs++[x])]=ac)(b:rs.length<=1000):xi [dkD rs,sT t]=ac:=by
 change rJ [.im _,.im _,.no]=ac
 delta rJ
 show rS2 (ρ1:=[.im (dkD rs),.im (sT t),.im x]) ?_ (rC1 (bp (bq (cg ?_)) rfl) a)
 .delta aS
  rw[show az m_3 _ _=m_3 _ from rfl,h];rfl
 .change _=_;show if_pos (by rw[gI];lia)
def Xo(h:m_3 [sT t]=ae):xi [dkD rs,sT t]=ah:=by
 change rJ [.im (dkD rs),.im (sT t),.no]=ah;unfold rJ bB aS;rw[show az m_3 (ag (af 1) λ_=>aa []) [.im (dkD rs),.im (sT t),.no]=m_3 [sT t]from rfl,h];rfl
def Hi{o:O}{f:D}(h:(iL (ci 2 (nT 0 "Desk" "tell" m_7 (aw (mX (af 1)) aj)))
   (iL (lp 0 "Desk" "tell" xi (ag (af 1) nZ) (aS 3 (kSt "bad name")))
    (lp 0 "Desk" "tell" r_7 (ag (af 1) nZ) (aS 3 (kSt "no row"))))) [.deep (.at l (dk rs)),.im d,.im .non,.im (.str "kept")]=aa (.nx [.deep (.at l o),.im d,.im f,.im (.str z)])):n8 l [d] (dk rs)=aa (o,.tup [.str z,f],):=by
 change(uq [.deep _,.im d,.no,.no]).bind _=_
 have e:uq [.deep (.at l (dk rs)),.im d,.no,.no]=aa (.rtS (.tup [.str z,f]) [.deep (.at l o),.im d,.im f,.im (.str z)]):=by
  delta uq
  change(iL _ _ [.deep _,.im d,.im .non,.im _]).bind _=_;rw[h];rfl
 rw[e];change(li l _).map _=_;rw[vV rfl];rfl
variable{G:Z3}
def Ct{o:Fl}(h:F U=aa o):iL F G U=aa o:=by unfold iL;rw[h]
def uL(h:F U=ae):iL F G U=G U:=by unfold iL;rw[h]
def uM(nm:Str)(m:MTf)(hn:((["kept"]:Z1).contains nm)=ah)(d:D)(tl:LS):ci 2 (nT 0 "Desk" nm m (aw (mX (af 1)) aj)) (.deep (.at l (dk rs))::.im d::tl)=(m l [d] (dk rs)).map λq=>.nx ((Sl.deep (.at l q.1)::.im d::tl).set 2 (.im q.2)):=by
 delta ci nT
 change Option.map _ (if (decide (("Desk":Str)="Desk") && !(_:Z1).contains nm)=ac then _ else ae)=_;rw[hn,if_pos (by decide)];change Option.map _ ((m l [d] _).map _)=_;rw[Option.map_map];rfl
def uN(nm:Str)(r:LD->Bool)(hn:((["kept"]:Z1).contains nm)=ah)(d f:D)(z a:Str):lp 0 "Desk" nm r (ag (af 1) nZ) (aS 3 (λ_=>aa (.str z))) [.deep (.at l (dk rs)),.im d,.im f,.im (.str a)]=if r [dkD rs,d]=ac then aa (.nx [.deep (.at l (dk rs)),.im d,.im f,.im (.str z)]) else ae:=by
 unfold lp;rw[eR,Xi];change(if ("Desk":Str)="Desk" /\ (["kept"]:Z1).contains nm=ah then (aa [d]).bind _ else ae)=_;rw[if_pos (rfl,hn)];rfl
def Xq(h:m_3 [sT t]=aa x)(a:gl [.lst (rs++[x])]=aa y)(b:rs.length<=1000):n8 l [sT t] (dk rs)=aa (dk (rs++[x]),.tup [.str "kept",.int rs.length],):=
 Hi (Ct (by rw[uM "tell" _ (by decide),Xk h a b];rfl))
def Xr(h:m_3 [sT t]=aa x)(a:Rz (pS [.lst (rs++[x])]) (gl [.lst (rs++[x])]))(b:rs.length<=1000):n8 l [sT t] (dk rs)=aa (dk rs,.tup [.str "bad name",.non],):=
 Hi ((uL (by rw[uM "tell" _ (by decide),Xl h a.2 b];rfl)).trans (Ct (by rw[uN "tell" _ (by decide),if_pos (Xm h a.1 b)])))
def Xs(h:Rz (r_3 [sT t]) (m_3 [sT t])):n8 l [sT t] (dk rs)=aa (dk rs,.tup [.str "no row",.non],):=
 Hi ((uL (by rw [uM "tell" _ (rfl),Xj h.2]; rfl)).trans ((uL (by rw [uN "tell" _ (rfl),Xo h.2]; rfl)).trans (by
  rw[uN "tell" _ (rfl),if_pos];change xh _=ac
  delta xh
  show rC1 rfl h.1)))
variable{k:Nat}
def Xu(h:k<=rs.length):fY rs ae (aa (k:Int))=rs.take k:=by
 unfold fY;rw[HT.sIx_none,HT.sIx_nat,Nat.min_eq_left h,Nat.sub_zero];rfl
def Xv(h:k<=rs.length):fY rs (aa (k:Int)) ae=rs.drop k:=by
 unfold fY;rw[HT.sIx_none,HT.sIx_nat,Nat.min_eq_left h];show x6 (by rw[m8];show bu _)
variable{n:Int}
def Cu(a:0<=n)(b:n<rs.length):fY rs ae (aa n)++fY rs (aa (n+1)) ae=rs.eraseIdx n.toNat:=by
 have(k,rfl):=Int.eq_ofNat_of_zero_le a;have c:k<rs.length:=by lia
 rw[Xu (by lia),show((k:Int)+1)=((k+1:Nat):Int) by lia,Xv (by lia),CB];rfl
def Hj(a:0<=n)(b:n<rs.length):(fY rs ae (aa n)).length+(fY rs (aa (n+1)) ae).length<=rs.length:=by
 rw[<- aX,Cu a b,length_eraseIdx]
 split <;> lia
def Om:eh (mB (jg dLe dLt (kI 0) (af 1) (az cI (ag (pB pK) nZ)))) (.deep (.at l (dk rs))::.im (.int n)::tl)=aa (!(decide (0<=n) && decide (n<(rs.length:Int)))):=kZ (br (zx rfl rfl vI Oj mG))
def On:eh (mB (jg dLe dLt (kI 0) (af 1) (az cI (ag (lV "Desk" "kept" (af 0)) nZ)))) (.im (dkD rs)::.im (.int n)::tl)=aa (!(decide (0<=n) && decide (n<(rs.length:Int)))):=kZ (br (zx rfl rfl vI (aM (al rfl rfl) rfl) mG))
def Oo(a:0<=n)(b:n<rs.length)(e:rs.length<=1000):b_8 [.deep (.at l (dk rs)),.im (.int n),.no]=(gl [.lst (rs.eraseIdx n.toNat)]).bind λ_=>aa (.nx [.deep (.at l (dk (rs.eraseIdx n.toNat))),.im (.int n),.no]):=by
 have t:eh (mB (jg dLe dLt (kI 0) (af 1) (az cI (ag (pB pK) nZ)))) [.deep (.at l (dk rs)),.im (.int n),.no]=aa ah:=by rw[Om,decide_eq_true a,decide_eq_true b];rfl
 have c:gw 2 (iM (kf (pC pK) (λ_=>aa ae) (mPt (af 1))) (kf (pC pK) (mPt (m2 aZ (af 1) (kI 1))) (λ_=>aa ae))) [.deep (.at l (dk rs)),.im (.int n),.no]=aa (.nx [.deep (.at l (dk rs)),.im (.int n),.own (rs.eraseIdx n.toNat)]):=by
  have d:iM (kf (pC pK) (λ_=>aa ae) (mPt (af 1))) (kf (pC pK) (mPt (m2 aZ (af 1) (kI 1))) (λ_=>aa ae)) [.deep (.at l (dk rs)),.im (.int n),.no]=aa (rs.eraseIdx n.toNat):=by
   delta iM kf
   rw[Oi,aE,aE];change(if (fY rs ae _).length+(fY rs _ ae).length<=16777216 then aa _ else ae)=_;rw[if_pos (by have:=Hj a b;lia),Cu a b]
  delta gw
  simp_all
 delta b_8
 change((aW _ _ _ _).bind _:Option Fl)=_;rw[nS t,aE];change((gw 2 _ _).bind _:Option Fl)=_;rw[c,aE];change((cL _ _).bind _:Option Fl)=_
 delta cL
 rw[show az gl _ _=gl _ from rfl]
 cases gl [.lst (rs.eraseIdx n.toNat)] <;> rfl
def Xw(a:0<=n)(b:n<rs.length)(c:gl [.lst (rs.eraseIdx n.toNat)]=aa y)(d:rs.length<=1000):m_8 l [.int n] (dk rs)=aa (dk (rs.eraseIdx n.toNat),.non,):=by
 change(b_8 [.deep (.at l (dk rs)),.im (.int n),.no]).bind _=_;rw[Oo a b d,c];change(li l _).map _=_;rw[vV rfl];rfl
def Xx(a:0<=n)(b:n<rs.length)(c:Rz (pS [.lst (rs.eraseIdx n.toNat)]) (gl [.lst (rs.eraseIdx n.toNat)]))(e:rs.length<=1000):m_8 l [.int n] (dk rs)=ae/\wJ [dkD rs,.int n]=ac:=by
 constructor
 .change(b_8 [.deep _,.im _,.no]).bind _=_;rw[Oo a b e,c.2];rfl
 .change rk [.im _,.im _,.no]=ac;have t:=On (rs:=rs) (n:=n) (tl:=[.no]);rw[decide_eq_true a,decide_eq_true b]at t
  delta rk
  show rS2 (nS t) (rS2 (ρ1:=[.im (dkD rs),.im (.int n),.im _]) ?_ (rC1 rfl c.1))
  have d:g7 (aR (mSl (lV "Desk" "kept" (af 0)) (λ_=>aa ae) (mPt (af 1)))) (aR (mSl (lV "Desk" "kept" (af 0)) (mPt (m2 aZ (af 1) (kI 1))) (λ_=>aa ae))) [.im (dkD rs),.im (.int n),.no]=aa (rs.eraseIdx n.toNat):=by
   change(if (fY rs ae _).length+(fY rs _ ae).length<=16777216 then aa _ else ae)=_;rw[if_pos (by have:=Hj a b;lia),Cu a b]
  delta aS
  rw[cg d];rfl
def Xy(h:¬(0<=n/\n<rs.length))(hn:du n):m_8 l [.int n] (dk rs)=ae/\r_8 [dkD rs,.int n]=ac/\wJ [dkD rs,.int n]=ah:=by
 have t:(!(decide (0<=n) && decide (n<rs.length)))=ac:=by
  lia
 have t1:=Om (l:=l) (rs:=rs) (n:=n) (tl:=[.no]);have t2:=On (rs:=rs) (n:=n) (tl:=[.no]);rw[t]at t1 t2;show(?_,?_,?_)
 .change(b_8 [.deep _,.im _,.no]).bind _=ae
  delta b_8 ao
  have:∀F G:Z3,aW (eh _) F G _=F _:=λF G=>by delta aW;rw[t1];rfl
  simp_all
 .change wI [.im _,.im _,.no]=ac
  delta wI rIf
  rw[tX1 t2];show uI (oy (Mv rfl hn rfl)) ?_;rw[Cr];have e:=dQ (aI n);have:=(mY hn).2;have:("no row has the number ":Str).length=22:=rfl
  lia
 .change rk [.im _,.im _,.no]=ah
  delta rk bB
  have:∀F G:Z3,aW (eh _) F G _=F _:=λF G=>by delta aW;rw[t2];rfl
  simp_all
variable{o:O}
def Hk{f:D}(h:(iL (ci 2 (nT 0 "Desk" "drop" m_8 (aw (mX (af 1)) aj)))
   (iL (lp 0 "Desk" "drop" wJ (ag (af 1) nZ) (aS 3 (kSt "bad name")))
    (lp 0 "Desk" "drop" r_8 (ag (af 1) nZ) (aS 3 (kSt "no row"))))) [.deep (.at l (dk rs)),.im d,.im .non,.im (.str "kept")]=aa (.nx [.deep (.at l o),.im d,.im f,.im (.str z)])):rK l [d] (dk rs)=aa (o,.tup [.str z,f],):=by
 change(ur [.deep _,.im d,.no,.no]).bind _=_
 have e:ur [.deep (.at l (dk rs)),.im d,.no,.no]=aa (.rtS (.tup [.str z,f]) [.deep (.at l o),.im d,.im f,.im (.str z)]):=by
  delta ur
  change(iL _ _ [.deep _,.im d,.im .non,.im _]).bind _=_;rw[h];rfl
 rw[e];change(li l _).map _=_;rw[vV rfl];rfl
def Xz(a:0<=n)(b:n<rs.length)(c:gl [.lst (rs.eraseIdx n.toNat)]=aa y)(d:rs.length<=1000):rK l [.int n] (dk rs)=aa (dk (rs.eraseIdx n.toNat),.tup [.str "kept",.non],):=
 Hk (Ct (by rw[uM "drop" _ (by decide),Xw a b c d];rfl))
def XA(a:0<=n)(b:n<rs.length)(c:Rz (pS [.lst (rs.eraseIdx n.toNat)]) (gl [.lst (rs.eraseIdx n.toNat)]))(d:rs.length<=1000):rK l [.int n] (dk rs)=aa (dk rs,.tup [.str "bad name",.non],):=
 have z:=Xx (l:=l) a b c d
 Hk ((uL (by rw[uM "drop" _ (by decide),z.1];rfl)).trans (Ct (by rw[uN "drop" _ (by decide),if_pos z.2])))
def XB(h:¬(0<=n/\n<rs.length))(hn:du n):rK l [.int n] (dk rs)=aa (dk rs,.tup [.str "no row",.non],):=
 have z:=Xy (l:=l) h hn
 Hk ((uL (by rw[uM "drop" _ (by decide),z.1];rfl)).trans ((uL (by rw[uN "drop" _ (by decide),z.2.2];rfl)).trans (by rw[uN "drop" _ (by decide),if_pos z.2.1])))
nonrec def LL:=List (Lr×Ro)
def oA(X3:LL):Prop:=(∀z∈X3,Lk z.1 z.2)/\dE [] (X3.map (·.1))=ac
nonrec def rwD(X3:LL):LD:=X3.map λz=>z.1.toD
nonrec def rwO(X3:LL):O:=.lst ((rwD X3).map .fz)
def rwY(X3:LL):rwD X3=(X3.map (·.1)).map Lr.toD:=by rw[map_map];rfl
variable{l2:Addr}{s0:Sl}{X3:LL}
def Op:pC (cc 1) (s0::.deep (.at l2 (rwO X3))::tl)=aa (rwD X3):=vU (rwD X3)
def XC:pB (cc 1) (s0::.deep (.at l2 (rwO X3))::tl)=aa (.lst (rwD X3)):=by
 change(if O.kns ((rwD X3).map .fz) then aa (D.lst (O.toDs ((rwD X3).map .fz))) else ae)=_;rw[xS,yR];rfl
def Hl:az cI (ag (pB (cc 1)) nZ) (s0::.deep (.at l2 (rwO X3))::tl)=aa (.int X3.length):=aM (al XC rfl) (show aa (D.int ((rwD X3).length:Nat))=_ by rw[bh])
variable{o':O}
def Hm{m:MTf}(a:fa (.deep (.at l o)::tl)=aa (j,.deep (.at l o)::tl,))(b:m l j o=aa (o',d,)):pM 0 m fa (.deep (.at l o)::tl)=aa (d,.deep (.at l o')::tl,):=by
 unfold pM;change(fa _).bind _=_;rw[a,aE];change(m l j o).map _=_;rw[b];rfl
def Cv(h:d=.non\/∃n,d=.int n):dEq (.tup [.str z,d]) (.tup [.str z,d])=aa (.bl ac):=D9 (by
 rcases h with rfl |⟨n,rfl⟩ <;> (simp[pc];show(rfl,rfl)))
def Ho{s1 s2 a b:Sl}(h:rK l [.int n] o=aa (o',.tup [.str z,.non],))(k:K (.rtS (.bl ac) (.deep (.at l o')::s1::s2::a::b::.im (.int n)::tl))):wp (uu z .non) (.deep (.at l o)::s1::s2::a::b::.im (.int n)::tl) K:=by
 unfold uu;show fu (ki (Hm (bp (bq rfl) rfl) h) (bq rfl) (Cv (.inl rfl))) k
def Cw{α a:Type}(f:α->a)(X3:List α)(k:Nat):(X3.map f).eraseIdx k=(X3.eraseIdx k).map f:=by
 rw[CB,CB,fL,map_take,map_drop]
def XD{ws:Z0}(a:m3 ws)(g:0<X5)(c:Int):∃y r,Lk y r/\xj X5 [.int c,plD X5 ws]=aa y.toD:=by
 have(o,r,k,n,x,hx,y,(i,j,h,hn),l,b,d,e,f):=Wl a g c;show(y,x,(l,.inr (o,r,k,n,hx,(a.low o i,a.low r j,a.low k h),b,d,e)),f)
def XE{ws:Z0}(a:m3 ws)(X5:Nat)(c:Int):∃y r,Lk y r/\uc [.int c,plD X5 ws]=aa y.toD:=by
 have(n,ns,y,hn,g,b,d,e,f):=Wt a X5 c;show(y,_,(g,.inl (n,ns,rfl,a.low n hn,b,d,e)),f)
def kD(a l2:Addr)(X3:LL)(o:Fl):Prop:=∃tl,o=.rtS (.bl ac) (.deep (.at a (dk (bS X3)))::.deep (.at l2 (rwO X3))::tl)
def Hq{a:Addr}{c:D}{b:LL}(h:wp (pW X5) [.deep (.at a (dk (bS X3))),.deep (.at l2 (rwO X3)),.im c,.im d,.no,.no,.no,.no,.no] (kD a l2 b)):rM X5 a l2 [c,d] (dk (bS X3)) (rwO X3)=aa (dk (bS b),rwO b,.bl ac,):=by
 have(o,e,tl,rfl):=h;change(pW X5 [.deep _,.deep _,.im c,.im d,.no,.no,.no,.no,.no]).bind _=_;rw[e,aE];change(qR 0 a _).bind _=_;rw[KN rfl,aE,KN rfl];rfl
def Hr(h:oA X3):∀z∈X3.eraseIdx k,Lk z.1 z.2:=λz a=>h.1 z ((eraseIdx_sublist X3 k).subset a)
def XF{ws:Z0}(x:m3 ws)(hB:0<X5)(c:Int)(X3:LL)(p:oA X3)(hl:X3.length<=100):∃i,oA i/\i.length<=X3.length+1/\∀f l2,rM X5 f l2 [.int c,plD X5 ws] (dk (bS X3)) (rwO X3)=aa (dk (bS i),rwO i,.bl ac,):=by
 have(g,I,a0,b0):=hV c 0 (by decide) (by decide);have(Q,u,a7,b7):=hV c 7 (by decide) (by decide);have(t,M,et):=Xg x X5 c;have(T,r1,k1,f1):=XD x hB c;have(y2,r2,k2,f2):=XE x X5 c;have G:(bS X3).length=X3.length:=bh _;have m:(bS X3).length<=1000:=by lia
 by_cases h7:g % 8=7
 .show(X3,p,by lia,λf l2=>Hq ?_);unfold pW;apply ar;show bF (aA (aM (al rfl (al rfl rfl)) I) rfl (dN (by decide))) ?_;change wp _ [.deep (.at f (dk (bS X3))),.deep (.at l2 (rwO X3)),.im (.int c),.im (plD X5 ws),.im (.int (g % 8)),.no,.no,.no,.no] _;apply ar;show bg (b:=ac) (br (aA rfl rfl (by rw[nM,h7];rfl))) (λ_=>?_) λe=>nomatch e;show fu (ki (Hm (bp (bq (aM (al rfl (al rfl rfl)) et)) rfl) (Xs M)) (bq rfl) (Cv (.inl rfl))) (_,rfl)
 have n7:(g % 8==7)=ah:=beq_eq_false_iff_ne.mpr h7
 by_cases h4:4<g % 8
 .generalize hn:Q % ((X3.length:Int)+3)-1=n;have m0:=iA Q (show((X3.length:Int)+3)≠0 by lia);have m1:=iU Q (show 0<((X3.length:Int)+3) by lia)
  obtain⟨i,q1,q2,q⟩:∃i,oA i/\i.length<=X3.length+1/\((¬(0<=n/\n<(X3.length:Int))/\i=X3)\/(0<=n/\n<(X3.length:Int))/\((dE [] ((X3.eraseIdx n.toNat).map (·.1))=ah/\i=X3)\/(dE [] ((X3.eraseIdx n.toNat).map (·.1))=ac/\i=X3.eraseIdx n.toNat))):=by
   by_cases j:0<=n/\n<(X3.length:Int)
   .cases l:dE [] ((X3.eraseIdx n.toNat).map (·.1))with
    |false=>show(X3,p,by lia,.inr (j,.inl (rfl,rfl)))
    |true=>show(_,(Hr p,l),ya (eraseIdx_sublist X3 _).length_le,.inr (j,.inr (rfl,rfl)))
   .show(X3,p,by lia,.inl (j,rfl))
  show(i,q1,q2,λf l2=>Hq ?_);unfold pW;apply ar;show bF (aA (aM (al rfl (al rfl rfl)) I) rfl (dN (by decide))) ?_;change wp _ [.deep (.at f (dk (bS X3))),.deep (.at l2 (rwO X3)),.im (.int c),.im (plD X5 ws),.im (.int (g % 8)),.no,.no,.no,.no] _;apply ar;show bg (b:=ah) (br (aA rfl rfl (by rw[nM,n7]))) (λe=>nomatch e) λ_=>bv ?_;change wp _ [.deep (.at f (dk (bS X3))),.deep (.at l2 (rwO X3)),.im (.int c),.im (plD X5 ws),.im (.int (g % 8)),.no,.no,.no,.no] _;apply ar;show bg (b:=ac) (br (aA rfl rfl (by rw[vJ,decide_eq_true h4]))) (λ_=>?_) λe=>nomatch e;apply ar;show bF (d:=.int n) (by rw[<- hn];show aA (aA (aM (al rfl (al rfl rfl)) u) (aA Hl rfl lY) (dN (by lia))) rfl vH) ?_;change wp _ [.deep (.at f (dk (bS X3))),.deep (.at l2 (rwO X3)),.im (.int c),.im (plD X5 ws),.im (.int (g % 8)),.im (.int n),.no,.no,.no] _;have tt:∀tl,eh (mB (jg dLe dLt (kI 0) (af 5) (az cI (ag (pB (cc 1)) nZ)))) (.deep (.at f (dk (bS X3)))::.deep (.at l2 (rwO X3))::.im (.int c)::.im (plD X5 ws)::.im (.int (g % 8))::.im (.int n)::tl)=aa (!(decide (0<=n) && decide (n<(X3.length:Int)))):=λtl=>kZ (br (zx rfl rfl vI Hl mG));have e30:(10:Int) ^ 30=1000000000000000000000000000000:=by decide
  have N:du n:=by unfold du;lia
  apply ar;show bg (tt _) (λe=>?_) λe=>?_
  .have j:¬(0<=n/\n<(X3.length:Int)):=λz=>by rw[decide_eq_true z.1,decide_eq_true z.2]at e;nomatch e
   rcases q with⟨_,rfl⟩ |⟨z,_⟩
   .show Ho (XB (by rw[G];show j) N) (_,rfl)
   .show absurd z j
  have j:0<=n/\n<(X3.length:Int):=by
   rw[Cz,cM,decide_eq_true_eq,decide_eq_true_eq]at e;show e
  replace q:=q.resolve_left λz=>z.1 j;have hn0:n.toNat<X3.length:=by lia
  have C:aR (iM (kf (pC (cc 1)) (λ_=>aa ae) (mPt (af 5))) (kf (pC (cc 1)) (mPt (m2 aZ (af 5) (kI 1))) (λ_=>aa ae))) [.deep (.at f (dk (bS X3))),.deep (.at l2 (rwO X3)),.im (.int c),.im (plD X5 ws),.im (.int (g % 8)),.im (.int n),.no,.no,.no]=aa (.lst (rwD (X3.eraseIdx n.toNat))):=by
   show cg ?_;have h1:n<(rwD X3).length:=by rw[bh];show j.2
   unfold iM kf;rw[Op,aE,aE];change(if (fY (rwD X3) ae (aa n)).length+(fY (rwD X3) (aa (n+1)) ae).length<=16777216 then aa (fY (rwD X3) ae (aa n)++fY (rwD X3) (aa (n+1)) ae) else ae)=_;rw[if_pos (by have:=Hj j.1 h1;rw[bh]at this;lia),Cu j.1 h1,Cw]
  apply bv;apply ar;show bF C ?_;change wp _ [.deep (.at f (dk (bS X3))),.deep (.at l2 (rwO X3)),.im (.int c),.im (plD X5 ws),.im (.int (g % 8)),.im (.int n),.im (.lst (rwD (X3.eraseIdx n.toNat))),.no,.no] _;have w:(X3.eraseIdx n.toNat).length<=200:=cf (eraseIdx_sublist X3 _).length_le (by lia);have v:=N8 ((X3.eraseIdx n.toNat).map (·.1)) (by rw[bh];lia);rw[<- rwY]at v;apply ar;show bg (kZ (iJ (aM (al rfl rfl) v) rfl)) (λe=>?_) λe=>?_
  .have l:dE [] ((X3.eraseIdx n.toNat).map (·.1))=ah:=by simpa using e
   rw[l]at q
   rcases q.2 with⟨_,rfl⟩ |⟨z,_⟩
   .have B:=Od _ (Hr p) w l;rw[show bS (i.eraseIdx n.toNat)=(bS i).eraseIdx n.toNat from(Cw _ _ _).symm]at B;show Ho (XA j.1 (by rw[G];show j.2) B m) (_,rfl)
   .nomatch z
  have l:dE [] ((X3.eraseIdx n.toNat).map (·.1))=ac:=by simpa using e
  rw[l]at q;have(_,rfl):=q.2.resolve_left λz=>nomatch z.1;have A:=Oc _ (Hr p) w l;have U:bS (X3.eraseIdx n.toNat)=(bS X3).eraseIdx n.toNat:=(Cw _ _ _).symm;rw[U]at A;apply bv;apply ar;show jZ (o:=.nx [.deep (.at f (dk (bS X3))),.deep (.at l2 (rwO (X3.eraseIdx n.toNat))),.im (.int c),.im (plD X5 ws),.im (.int (g % 8)),.im (.int n),.im (.lst (rwD (X3.eraseIdx n.toNat))),.no,.no]) ?_ ?_
  .change(((O.items (rwO X3)).bind _).map _:Option Fl)=_;rw[show(rwO X3).items=aa (rwD X3)from vU _,aE,if_pos (j.1,by rw[bh];show j.2,by lia),Cw (λz:Lr×Ro=>z.1.toD)];rfl
  .show Ho (Xz j.1 (by rw[G];show j.2) A m) ?_;rw[<- U];show(_,rfl)
 .obtain⟨y,r,E,Y⟩:∃y r,Lk y r/\((g % 8<2->uc [.int c,plD X5 ws]=aa y.toD)/\(¬g % 8<2->y=T)):=by
   by_cases h2:g % 8<2
   .show(y2,r2,k2,λ_=>f2,λz=>absurd h2 z)
   .show(T,r1,k1,λz=>absurd z h2,λ_=>rfl)
  have L:∀z∈X3++[(y,r,)],Lk z.1 z.2:=λz hz=>by
   rcases cW.mp hz with h |h
   .show p.1 z h
   .rw[bE.mp h];show E
  have lA:(X3++[(y,r,)]).length=X3.length+1:=by rw[aX];rfl
  have ro:=Wc E.o.ok E.o.tl E.o.wd;have J : bS (X3++[(y,r,)])=bS X3++[r.toD]:=fL;have wA : rwD (X3++[(y,r,)])=rwD X3++[y.toD]:=fL;have v:=N8 ((X3++[(y,r,)]).map (·.1)) (by rw [bh]; lia);rw [<- rwY,wA] at v;have pre : ∀ (i:LL) (f l2:Addr) (o:O) (d:D),n8 f [sT y.ty] (dk (bS X3))=aa (o,d,)->(∀ H : Sl,H=.im y.toD->wp (ao (aW (eh (d9 (az rp (ag (aR (iM (pC (cc 1)) (ag (af 7) nZ))) nZ)))) (eC (m2 dEq (af 8) (cH (ag (kSt "bad name") (ag kN nZ))))) aY)
 (ao (qO 1 (cc 1) (af 7))
 (ao (eC (i9 (m2 dEq (af 8) (cH (ag (kSt "kept") (ag (m2 kQ (az cI (ag (pB (cc 1)) nZ)) (kI 1)) nZ)))) (i9 (mC "int" (mIx (aF 8) (kI 1))) (o4 (mC "bool" (mIx (aF 8) (kI 1))))))) aY))) [.deep (.at f o),.deep (.at l2 (rwO X3)),.im (.int c),.im (plD X5 ws),.im (.int (g % 8)),.no,.no,H,.im d] (kD f l2 i))->rM X5 f l2 [.int c,plD X5 ws] (dk (bS X3)) (rwO X3)=aa (dk (bS i),rwO i,.bl ac,):=λi f l2 o d M x=>by
   show Hq ?_;unfold pW;apply ar;show bF (aA (aM (al rfl (al rfl rfl)) I) rfl (dN (by decide))) ?_;change wp _ [.deep (.at f (dk (bS X3))),.deep (.at l2 (rwO X3)),.im (.int c),.im (plD X5 ws),.im (.int (g % 8)),.no,.no,.no,.no] _;apply ar;show bg (b:=ah) (br (aA rfl rfl (by rw [nM,n7]))) (λe=>nomatch e) λ_=>bv ?_;apply ar;show bg (b:=ah) (br (aA rfl rfl (by rw [vJ,decide_eq_false h4]))) (λe=>nomatch e) λ_=>bv ?_;apply ar;show bF (aM (al rfl (al rfl rfl)) f1) ?_;change wp _ [.deep (.at f (dk (bS X3))),.deep (.at l2 (rwO X3)),.im (.int c),.im (plD X5 ws),.im (.int (g % 8)),.no,.no,.im T.toD,.no] _;apply ar;have rest : wp (ao (ci 8 (pM 0 n8 (aw (mX (mIx (aF 7) (kI 0))) aj))) (ao (aW (eh (d9 (az rp (ag (aR (iM (pC (cc 1)) (ag (af 7) nZ))) nZ)))) (eC (m2 dEq (af 8) (cH (ag (kSt "bad name") (ag kN nZ))))) aY)
 (ao (qO 1 (cc 1) (af 7))
 (ao (eC (i9 (m2 dEq (af 8) (cH (ag (kSt "kept") (ag (m2 kQ (az cI (ag (pB (cc 1)) nZ)) (kI 1)) nZ)))) (i9 (mC "int" (mIx (aF 8) (kI 1))) (o4 (mC "bool" (mIx (aF 8) (kI 1))))))) aY)))) [.deep (.at f (dk (bS X3))),.deep (.at l2 (rwO X3)),.im (.int c),.im (plD X5 ws),.im (.int (g % 8)),.no,.no,.im y.toD,.no] (kD f l2 i):=by
    apply ar;show hU (Hm (bp (bq (aL rfl rfl rfl)) rfl) M) (x _ rfl)
   show bg (b:=decide (g % 8<2)) (br (aA rfl rfl mG)) (λe=>?_) λe=>bv ?_
   .show bF (aM (al rfl (al rfl rfl)) (Y.1 (of_decide_eq_true e))) rest
   .rw[Y.2 (of_decide_eq_false e)]at rest;show rest
  have C:∀(f l2:Addr) (o:O) (d:D),az rp (ag (aR (iM (pC (cc 1)) (ag (af 7) nZ))) nZ) [.deep (.at f o),.deep (.at l2 (rwO X3)),.im (.int c),.im (plD X5 ws),.im (.int (g % 8)),.no,.no,.im y.toD,.im d]=aa (.bl (dE [] ((X3++[(y,r,)]).map (·.1)))):=λf l2 o d=>by
   show aM (al (cg ?_) rfl) v;unfold iM;rw[Op,aE];show if_pos (by rw[bh,gI];lia)
  cases l:dE [] ((X3++[(y,r,)]).map (·.1))with
  |false=>
   have B:=Od _ L (by lia) l;rw[J]at B;show(X3,p,by lia,λf l2=>pre X3 f l2 _ _ (Xr ro B m) λH u=>?_);subst u;apply ar;show bg (b:=ac) (kZ (iJ (C f l2 _ _) (by rw[l];rfl))) (λ_=>?_) λe=>nomatch e
   show jA (aA rfl rfl (Cv (.inl rfl))) (_,rfl)
  |true=>
   have A:=Oc _ L (by lia) l;rw[J]at A;show(X3++[(y,r,)],(L,l),by lia,λf l2=>pre _ f l2 _ _ (Xq ro A m) λH u=>?_);subst u;apply ar;show bg (b:=ah) (kZ (iJ (C f l2 _ _) (by rw[l];rfl))) (λe=>nomatch e) λ_=>bv ?_;apply ar;show jZ (o:=.nx [.deep (.at f (dk (bS X3++[r.toD]))),.deep (.at l2 (rwO (X3++[(y,r,)]))),.im (.int c),.im (plD X5 ws),.im (.int (g % 8)),.no,.no,.im y.toD,.im (.tup [.str "kept",.int (bS X3).length])]) ?_ ?_
   .change((if ((rwD X3).map O.fz).length<16777216 then aa (O.lst ((rwD X3).map O.fz++[.fz y.toD])) else ae).map _:Option Fl)=_;rw[if_pos (by rw[bh,bh];lia),show(rwD X3).map O.fz++[.fz y.toD]=(rwD (X3++[(y,r,)])).map .fz by rw[wA,fL];rfl];rfl
   .apply ar;show jA (d:=.bl ac) (tf (a:=ac) (b:=ac) (aA rfl (nN (al rfl (al (d:=.int (bS X3).length) (aA Hl rfl (vH.trans ?_)) rfl))) (Cv (.inr (_,rfl)))) rfl) ?_
    .rw[lA,G]
     congr 2
     lia
    .rw[<- J];show(_,rfl)
nonrec def txL(X3:LL):Z0:=X3.map λz=>fA z.2
def Hs(a:Z0):pc 20 (.lst (a.map sT)):=by
 unfold pc;intro x hx;have(t,_,rfl):=iW.mp hx;show rfl
variable{S:List LL}{g:Z4}
def XG(a:U[2]?=aa (.deep (.lst (S.map λX3=>dk (bS X3)))))(c:S[k]?=aa X3)(b:g U=aa (.int (k:Nat))):pB (l7 (cc 2) g) U=aa (dkD (bS X3)):=by
 have e:cc 2 U=aa (O.lst (S.map λX3=>dk (bS X3)),_root_.id,):=by delta cc;rw[a]
 delta pB l7
 rw[e,aE,b,aE];change((if 0<=_ then ((_[(k:Int).toNat]?).map _).map _ else ae).bind _:OD)=_;simp only[xY,fV,c];change(if (O.kns _ && ac)=ac then aa (D.ins "Desk" _ [.lst _]) else ae)=_;rw[xS,yR];rfl
def XH(a:U[3]?=aa (.deep (.lst (S.map rwO))))(c:S[k]?=aa X3)(b:g U=aa (.int (k:Nat))):pC (l7 (cc 3) g) U=aa (rwD X3):=by
 have e:cc 3 U=aa (O.lst (S.map rwO),_root_.id,):=by delta cc;rw[a]
 delta pC l7
 rw[e,aE,b,aE];change((if 0<=_ then ((_[(k:Int).toNat]?).map _).map _ else ae).bind _:Option _)=_;simp only[xY,fV,c];show vU _
def Oq(a:U[2]?=aa (.deep (.lst (S.map λX3=>dk (bS X3)))))(d:S[k]?=aa X3)(c:g U=aa (.int (k:Nat)))(b:oA X3)(h:X3.length<=1000):xl (l7 (cc 2) g) U=aa (.lst ((txL X3).map sT)):=by
 have e:Gq [dkD (bS X3)]=aa ((txL X3).map sT):=by
  change(tY [.im _]).bind _=_
  delta tY kW
  rw[show bP 1 [] _ _ _ _ _=aa ((txL X3).map sT) by
   rw[map_map];show jz X3 _ _ (fh rfl rfl) (by lia) λz f=>je rfl rfl (aM (al rfl rfl) (Vo z.2 (b.1 z f).o.ok))]
  rfl
 delta xl
 show cg ?_
 delta Et
 rw[XG a d c,aE];change(if ("Desk":Str)="Desk" /\ (_:Z1).contains "rows"=ah then (aa []).bind _ else ae)=_;rw[if_pos (rfl,rfl),aE,e,aE,if_pos];rw[all_map];show all_eq_true.mpr λt _=>rfl
def Os(a:U[3]?=aa (.deep (.lst (S.map rwO))))(d:S[k]?=aa X3)(c:g U=aa (.int (k:Nat)))(b:oA X3)(f:X3.length<=1000):xk (l7 (cc 3) g) U=aa ((txL X3).map sT):=by
 unfold xk;rw[map_map];show jz X3 (λz=>z.1.toD) _ (XH a d c) (by lia) λz e=>je rfl rfl ((aL (r:=aa (sT z.1.te)) rfl rfl rfl).trans ?_);rw[(b.1 z e).o.te];rfl
nonrec def hD(a:Z0):D:=.tup [.lst (a.map sT),.lst (a.map sT)]
nonrec def stL(x b:D)(S:List LL)(a:List Z0)(tl:LS):LS:=.im x::.im b::.deep (.lst (S.map λX3=>dk (bS X3)))::.deep (.lst (S.map rwO))::.own (a.map hD)::tl
variable{hs:List Z0}
def Ot{c:D}{a b m n:Sl}(i:S[k]?=aa X3)(g:oA X3)(l:X3.length<=1000)(p:hs.length<=1000):
  xm (stL x c S hs [a,b,.im (.int (k:Nat)),m,n])=aa (.nx (stL x c S (hs++[txL X3]) [a,b,.im (.int (k:Nat)),.im (.lst ((txL X3).map sT)),.im (.lst ((txL X3).map sT))])):=by
 suffices h:wp xm _ (λo=>o=.nx (stL x c S (hs++[txL X3]) [a,b,.im (.int k),.im (.lst ((txL X3).map sT)),.im (.lst ((txL X3).map sT))])) by
  have(o,e,rfl):=h;show e
 delta xm
 have tl:(txL X3).length=X3.length:=bh _;apply ar;show bF (cg (Os rfl i rfl g l)) ?_;apply ar;show bF (Oq rfl i rfl g l) ?_;generalize txL X3=f at tl;apply ar;show bg (zn rfl (zn (br (aA rfl rfl (Rl (Hs f)))) (kZ (iJ (d:=.bl ac) (aM (al (cg (j:=(f.map λ_=>ac).map D.bl) ?_) rfl) ((Cf _).trans ?_)) rfl)))) (λe=>nomatch e) λ_=>bv ?_
 .rw[map_map];show jz f sT _ (fh rfl rfl) (by lia) λt _=>je rfl rfl rfl
 .simp_all
 .show nO rfl rfl (by rw[bh];lia) ?_
  simp_all
def Ht(n:Nat)(S:List LL)(hs:List Z0):Prop:=S.length=2/\(∀X3∈S,oA X3/\X3.length<=n)/\hs.length<=2*n
def XI{ws:Z0}(hw:m3 ws)(M:0<X5){n:Nat}(hn:n<=70)(Q:Ht n S hs)(c:Int)(y p b g:Sl):∃w t,Ht (n+1) w t/\∃B C E G,xn X5 (stL x (plD X5 ws) S hs [.im (.int c),y,p,b,g])=aa (.nx (stL x (plD X5 ws) w t [.im (.int c),B,C,E,G])):=by
 have(J,L,h3):=Q;have(A,H,_,_):=hV c 8 (by decide) (by decide);obtain⟨i,hi⟩:∃i:Nat,((i:Nat):Int)=A % 3 % 2:=((A % 3 % 2).toNat,by lia);have hi2:i<2:=by lia
 obtain⟨X3,v⟩:∃X3,S[i]?=aa X3:=(_,gG (by lia));have(q1,q2):=L X3 (iV v);have(j,r1,r2,r3):=XF hw M c X3 q1 (by lia)
 have r:(S.set i j).length=2/\∀l∈S.set i j,oA l/\l.length<=n+1:=(by rw[oE,J],λl N=>by
  rcases mem_or_eq_of_mem_set N with h |h
  .grind
  .rw[h];show(r1,by lia))
 generalize Y:S.set i j=T at r;have(t1,t2):=r;obtain⟨a,z⟩:∃l,T[0]?=aa l:=(_,gG (by lia));obtain⟨M1,m1⟩:∃l,T[1]?=aa l:=(_,gG (by lia));have I:=t2 a (iV z);have g1:=t2 M1 (iV m1);show(T,hs++[txL a]++[txL M1],(t1,t2,by simp only[aX,aU,fM];lia),.im (.int i),.im (.int (1:Nat)),.im (.lst ((txL M1).map sT)),.im (.lst ((txL M1).map sT)),?_)
 suffices h:wp (xn X5) (stL x (plD X5 ws) S hs [.im (.int c),y,p,b,g]) (λo=>o=.nx (stL x (plD X5 ws) T (hs++[txL a]++[txL M1]) [.im (.int c),.im (.int i),.im (.int (1:Nat)),.im (.lst ((txL M1).map sT)),.im (.lst ((txL M1).map sT))])) by
  have(o,e,rfl):=h;show e
 delta xn
 apply ar;show bF (d:=.int i) (by rw[hi];show aA (aA (aM (al rfl (al rfl rfl)) H) rfl (dN (by decide))) rfl (dN (by decide))) ?_;have u:=Tw (i:=2) (X6:=3) (g1:=af 6) (g2:=af 6) (m:=rM X5) (fa:=ag (af 5) (ag (af 1) nZ)) (U:=stL x (plD X5 ws) S hs [.im (.int c),.im (.int i),p,b,g]) (k1:=i) (k2:=i) (o1:=dk (bS X3)) (o2:=rwO X3) (q:=(dk (bS j),rwO j,.bl ac,)) rfl rfl (by decide) rfl rfl (by rw[fV,v];rfl) (by rw[fV,v];rfl) rfl rfl rfl r3
 replace u : tP 2 3 (af 6) (af 6) (rM X5) (ag (af 5) (ag (af 1) nZ)) (stL x (plD X5 ws) S hs [.im (.int c),.im (.int i),p,b,g])=aa (.bl ac,stL x (plD X5 ws) T hs [.im (.int c),.im (.int i),p,b,g],):=u.trans (by
  change aa (D.bl ac,Sl.im x::.im (plD X5 ws)::.deep (.lst ((S.map λX3=>dk (bS X3)).set i (dk (bS j))))::.deep (.lst ((S.map rwO).set i (rwO j)))::.own (hs.map hD)::[.im (.int c),.im (.int i),p,b,g],)=_;rw[<- map_set (f:=λX3=>dk (bS X3)),<- map_set (f:=rwO),Y])
 apply ar;show kj (GW (ot u)) (λe=>nomatch e) λ_=>bv ?_;apply ar;show jZ (o:=.nx (stL x (plD X5 ws) T (hs++[txL a]++[txL M1]) [.im (.int c),.im (.int i),.im (.int (1:Nat)),.im (.lst ((txL M1).map sT)),.im (.lst ((txL M1).map sT))])) ?_ (bv rfl)
 delta io
 rw[Eb (n:=2) (al rfl rfl) (by decide) (by decide),aE];change(aT 7 (.int ((0:Nat):Int)) _).bind _=_;rw[show aT 7 (.int ((0:Nat):Int)) (stL x (plD X5 ws) T hs [.im (.int c),.im (.int i),p,b,g])=aa (stL x (plD X5 ws) T hs [.im (.int c),.im (.int i),.im (.int (0:Nat)),b,g])from rfl,aE,Ot z I.1 (by lia) (by lia),aE];change(aT 7 (.int ((1:Nat):Int)) _).bind _=_;rw[show aT 7 (.int ((1:Nat):Int)) (stL x (plD X5 ws) T (hs++[txL a]) [.im (.int c),.im (.int i),.im (.int (0:Nat)),.im (.lst ((txL a).map sT)),.im (.lst ((txL a).map sT))])=aa (stL x (plD X5 ws) T (hs++[txL a]) [.im (.int c),.im (.int i),.im (.int (1:Nat)),.im (.lst ((txL a).map sT)),.im (.lst ((txL a).map sT))])from rfl,aE,Ot m1 g1.1 (by lia) (by rw[aX,gI];lia),aE];rfl
def XJ(l:Addr):qY l [] (.ins "Desk" [] [])=aa (dk [],.non,):=by
 unfold qY pA As;change(li l [.deep (.at l (dk []))]).map _=_;rw[vV rfl];rfl
def XM(U:LS):tI "Desk" qY nZ U=aa (dk []):=by
 have h:∃o,∀l,qY l [] _=aa (o,.non,):=(_,XJ)
 delta tI
 rw[aE,dif_pos h];have:=h.choose_spec 0;show congrArg aa (Prod.mk.inj (cp this)).1.symm
def XN{ns:LI0}(hx:Scr x ns)(h:ns.length<=63){ws:Z0}(J:m3 ws)(G:0<X5):Bl X5 [.im x,.im (plD X5 ws),.no,.no,.no,.no,.no,.no,.no,.no]=aa (.rt (.bl ac)):=by
 suffices h:wp _ _ (λo=>o=.rt (.bl ac)) by
  have(o,e,rfl):=h;show e
 delta Bl
 apply ar;show jZ (o:=.nx [.im x,.im (plD X5 ws),.deep (.lst [dk [],dk []]),.no,.no,.no,.no,.no,.no,.no]) ?_ ?_
 .delta L2.zSet vL ph
  rw[XM];rfl
 apply ar;show jZ rfl ?_;apply ar;show mF rfl ?_;apply ar;have es:=hx.sl (f:=af 0) (l:=mPt (kI 1)) (h:=mPt (kI 61)) (U:=stL x (plD X5 ws) [[],[]] [] [.no,.no,.no,.no,.no]) rfl rfl rfl;obtain⟨cs,r⟩:∃cs,cs=((ns.drop (HT.sIx ns.length 0 (aa 1))).take (HT.sIx ns.length ns.length (aa 61)-HT.sIx ns.length 0 (aa 1))):=(_,rfl);rw[<- r]at es;have T:cs.length<=63:=by rw[r,qd,m8];lia
 show qB cs D.int (λpre U=>∃S hs p i j m n,Ht pre.length S hs/\U=stL x _ S hs [p,i,j,m,n]) (fh (cg es) rfl) ([[],[]],[],_,_,_,_,_,(rfl,λX3 q=>?_,gJ _),rfl) ?_ ?_
 .have:X3=[]:=by simpa using q
  rw[this];show(((λ_ z=>nomatch z),rfl),gJ _)
 .rintro pre c post U I ⟨S,hs,p,i,j,m,n,H,rfl⟩
  have hp:pre.length<=70:=by
   have:=congrArg me I;rw[aX]at this
   lia
  have(w,u,t,y,A,B,C,e):=XI (x:=x) J G hp H c i j m n;show(stL x (plD X5 ws) S hs [.im (.int c),i,j,m,n],rfl,_,e,(w,u,_,y,A,B,C,by rw[aX];show t,rfl))
 .rintro U ⟨S,hs,p,i,j,m,n,⟨N,E,Q⟩,rfl⟩;obtain⟨X3,q⟩:∃X3,S[0]?=aa X3:=(_,gG (by lia));have v:=E X3 (iV q)
  have L:bP 2 [] (aF 4) (eV (bO (aT 0) (bO (aT 1) fH))) kY (m2 dEq (af 0) (af 1)) (stL x (plD X5 ws) S hs [p,i,j,m,n])=aa ((hs.map λ_=>ac).map D.bl):=by
   rw[map_map];show jz hs hD _ rfl (by lia) λM _=>je rfl rfl (aA rfl rfl (D9 (Hs M)))
  apply ar;show eD (d:=.bl ac) (tf (a:=ac) (b:=ac) (aA (Oq (S:=S) (k:=0) (g:=λ_=>aa (.int 0)) (U:=stL x (plD X5 ws) S hs [p,i,j,m,n]) rfl q rfl v.1 (by lia)) (cg (Os (S:=S) (k:=0) (g:=λ_=>aa (.int 0)) (U:=stL x (plD X5 ws) S hs [p,i,j,m,n]) rfl q rfl v.1 (by lia))) (D9 (Hs _))) (aM (al (cg L) rfl) ((Cf _).trans ?_))) rfl;rw[all_map]
  congr 2
  show all_eq_true.mpr λ_ _=>rfl
def XO(ns:LI0)(h:ns.length<=63):Lh [.kl (ns.map D.int)]=aa (.bl ac):=by
 have hx:=UI ns;generalize D.kl _=x at hx;have(c,b):=UJ hx (Int.le_refl 0);have(zs,a):=UO c
 have e:xq [.im x,.no,.no,.no,.no,.no,.no,.no,.no,.no]=aa (.rt (.bl ac)):=by
  delta xq Af
  rw[al (aM (al rfl (al rfl rfl)) b) rfl,aE,a,aE,if_pos];intro X5 d;rw[Wk];show XN hx h (Wj (US a)) d
 show vF e
def sp_law(K:bf):Sp:=λC H Q _=>∃(a:Addr) (ns:LI0),C=[.ref a]/\SqL K H a (ns.map V.int)/\ns.length<=63/\∀H',Q (.bl ac) H'
variable{K:bf}
def sp_law_of{H:Hp}{a:Addr}{ns:LI0}{X2:XK}(c:ns.length<=63)(b:SqL K H a (ns.map V.int)):sp_law K [.ref a] H (λv _=>v=.bl ac) X2:=(a,ns,rfl,b,c,λ_=>rfl)
variable{w:World}
def law_ok{a:Wa}(W:Wd K mg a):dA P w K mg base CX0 20 a.e_30.1 a.e_30.2 ["_law_script"] (sp_law K):=(UF W).ok.imp λC H Q X2 (a,ns,b,c,d,k)=>
 (H,[.kl (ns.map D.int)],.bl ac,aD.refl _,(.ref a,[],b,(a,_,rfl,c,ay.ints ns),rfl),rfl,XO ns d,λv L H' x r=>by rw[show v=V.bl ac from r];show k H')
variable{P:Z5->Prop}
def Cy(h:P []):∀us:Z5,us.length=0->P us:=λus e=>by
 rw[eq_nil_of_length_eq_zero e];show h
def m5{n:Nat}(h:∀a (us:Z5),us.length=n->P (a::us)):∀us:Z5,us.length=n+1->P us:=λus e=>by
 cases us with
 |nil=>cases e
 |cons a us=>show h a us (Nat.succ.inj e)
def Ou(h:∀a:Value,P [a]):∀us:Z5,us.length=1->P us:=m5 (P:=λus=>P (us)) λa=>Cy (h a)
def XQ(h:∀a b:Value,P [a,b]):∀us:Z5,us.length=2->P us:=m5 (P:=λus=>P (us)) λa=>m5 (P:=λus=>P (a::us)) λb=>Cy (h a b)
def XR(h:∀a b c:Value,P [a,b,c]):∀us:Z5,us.length=3->P us:=m5 (P:=λus=>P (us)) λa=>m5 (P:=λus=>P (a::us)) λb=>m5 (P:=λus=>P (a::b::us)) λc=>Cy (h a b c)
def XS(h:∀a b c d:Value,P [a,b,c,d]):∀us:Z5,us.length=4->P us:=m5 (P:=λus=>P (us)) λa=>m5 (P:=λus=>P (a::us)) λb=>m5 (P:=λus=>P (a::b::us)) λc=>m5 (P:=λus=>P (a::b::c::us)) λd=>Cy (h a b c d)
local macro_rules | `(tactic| walk_at "bd")=>`(tactic| exact λ_ _ _ _ _ _=>by first | exact Ou λ_=>rfl | exact XQ λ_ _=>rfl | exact XR λ_ _ _=>rfl | exact XS λ_ _ _ _=>rfl)
set_option autoImplicit true in
def all_mk{ab ad af ag:Addr}{h:Heap}{aL aM aN aO aP L aQ aR aS aT aU aV aW aX aY aZ a0 a1 a2 a3 a4 a5 a6 a7 bG T a8 bH a9 ba bb bc bd bf bg bh bi bj B bk bI bJ bl I M C bK bm bn bL bM bN bo E J U bp bq Y br bs H Q N bu bO bP bv:eS}{o bw:Nat}{as au av aw ax ay az aA aB aC q r t u w x:Tok}{aD aE n bx:Tok}{fa:Addr}(X:K.In h)(G:h.Ns cC mg)(hfa:mg "law"=aa (.ref fa))
 (c:d7 K cC "Reader"=aa (aa (.ref ab)))
 (y:d7 K cC "Desk"=aa (aa (.ref ad)))
 (b:d7 K cC "BadName"=aa (aa (.ref af)))
 (p:d7 K cC "NoRow"=aa (aa (.ref ag)))
 (bS:Dq K "words_of" EG f_52 aL)
 (bT:Dq K "is_made_of" EH f_50 aM)
 (bU:Dq K "is_name" EI f_62 aN)
 (bV:Dq K "is_variable" EJ f_40 aO)
 (bW:Dq K "is_number" EK f_45 aP)
 (bX:Dq K "kinds_of" EL f_16 L)
 (bY:Dq K "must_be_new" EM f_41 aQ)
 (bZ:Dq K "must_be_unlike" EN f_46 aR)
 (b0:Dq K "must_be_known" EO f_36 aS)
 (b1:Dq K "must_be_pairs" EQ f_26 aT)
 (b2:Dq K "must_be_told" ER f_43 aU)
 (b3:Dq K "uses" ES f_55 aV)
 (b4:Dq K "part_uses" ET f_63 aW)
 (b5:Dq K "args_of" EU f_53 aX)
 (b6:Dq K "shown_row" EV f_64 aY)
 (b7:Dq K "behind_word" EW f_56 aZ)
 (b8:Dq K "shown_end" EX f_57 a0)
 (b9:Dq K "if_any" EY f_49 a1)
 (ca:Dq K "shown_thing" EZ f_47 a2)
 (cb:Dq K "shown_body" E1 f_58 a3)
 (cc:Dq K "shown_part" E2 f_59 a4)
 (cd:Dq K "shown_over" E3 f_60 a5)
 (ce:Dq K "shown_item" E4 f_61 a6)
 (cf:Dq K "shown_pairs" E5 f_51 a7)
 (cN:Dq K "read_row" s_3 f_3 bG)
 (cg:Dq K "at_most" E6 f_20 T)
 (ch:Dq K "_law_cell_at" E7 f_65 a8)
 (cO:Dq K "_law_mixed" s_5 f_5 bH)
 (ci:Dq K "_law_pool" E8 f_37 a9)
 (cj:Dq K "_law_kind" E9 f_42 ba)
 (ck:Dq K "_law_using" Fa f_38 bb)
 (cm:Dq K "_law_no_row" Fb f_54 bc)
 (cn:Dq K "_law_fit" Fc f_48 bd)
 (co:Dq K "_law_told" Fd f_34 bf)
 (cp:Dq K "_law_dropped" Fe f_35 bg)
 (cq:Dq K "_law_deed" Ff f_33 bh)
 (bz:Dq K "law" Fg f_30 bi)
 (bA:Dp K ab "__init__" "Reader.__init__" Fh f_66 bj)
 (cr:Dp K ab "coming" "Reader.coming" Fi f_10 B)
 (cs:Dp K ab "take" "Reader.take" Fj f_31 bk)
 (cP:Dp K ab "passes" "Reader.passes" s_4 f_4 bI)
 (cQ:Dp K ab "must_pass" "Reader.must_pass" s_1 f_1 bJ)
 (ct:Dp K ab "must_end" "Reader.must_end" Fk f_39 bl)
 (cu:Dp K ab "read_form" "Reader.read_form" Fm f_14 I)
 (cv:Dp K ab "read_choose" "Reader.read_choose" Fo f_17 M)
 (cw:Dp K ab "read_never" "Reader.read_never" Fp f_11 C)
 (cR:Dp K ab "read_name" "Reader.read_name" s_0 f_0 bK)
 (cx:Dp K ab "read_names" "Reader.read_names" Fq f_24 bm)
 (cy:Dp K ab "read_variable" "Reader.read_variable" Fs f_27 bn)
 (cS:Dp K ab "read_number" "Reader.read_number" s_9 f_9 bL)
 (cT:Dp K ab "read_arg" "Reader.read_arg" s_6 f_6 bM)
 (cU:Dp K ab "read_thing" "Reader.read_thing" s_2 f_2 bN)
 (cz:Dp K ab "read_args" "Reader.read_args" Ft f_25 bo)
 (cA:Dp K ab "read_if" "Reader.read_if" Fu f_12 E)
 (cB:Dp K ab "read_body" "Reader.read_body" Fv f_15 J)
 (cD:Dp K ab "read_part" "Reader.read_part" Fw f_21 U)
 (cE:Dp K ab "read_unlike" "Reader.read_unlike" Fx f_32 bp)
 (cF:Dp K ab "read_count" "Reader.read_count" Fy f_28 bq)
 (cG:Dp K ab "read_items" "Reader.read_items" Fz f_22 Y)
 (cH:Dp K ab "read_item" "Reader.read_item" FA f_23 br)
 (cI:Dp K ab "read_over" "Reader.read_over" FB f_29 bs)
 (cJ:Dp K ab "read_for" "Reader.read_for" FC f_13 H)
 (cK:Dp K ab "read_pairs" "Reader.read_pairs" FD f_19 Q)
 (cL:Dp K ab "read_pair" "Reader.read_pair" FE f_18 N)
 (bB:Dp K ad "__init__" "Desk.__init__" FF f_44 bu)
 (cV:Dp K ad "tell" "Desk.tell" s_7 f_7 bO)
 (cW:Dp K ad "drop" "Desk.drop" s_8 f_8 bP)
 (cM:Dp K ad "rows" "Desk.rows" FG f_67 bv)
 (j:sD K ab iX=ac)
 (f:va K ab=ac)
 (l:W.plainOver K ab=ac)
 (m:gN K (.ref ab) "__setattr__"=aa (aa (.builtin "object.__setattr__")))
 (k4:W.makesIn K ab=ac)
 (g:kL K (.ref ab)=ac)
 (kx:gN K (.ref ab) "words"=aa ae)
 (kv:gN K (.ref ab) "place"=aa ae)
 (aF:sD K ad iX=ac)
 (aG:va K ad=ac)
 (aH:W.plainOver K ad=ac)
 (aI:gN K (.ref ad) "__setattr__"=aa (aa (.builtin "object.__setattr__")))
 (k7:W.makesIn K ad=ac)
 (aJ:kL K (.ref ad)=ac)
 (kg:gN K (.ref ad) "kept"=aa ae)
 (aq:W.excIn K af [.type "ValueError",.type "Exception",.type "BaseException",.type "object"] "ValueError.__new__"=ac)
 (aK:W.excIn K ag [.type "ValueError",.type "Exception",.type "BaseException",.type "object"] "ValueError.__new__"=ac)
 (ai:iY K af (.ref af)=aa ac)
 (aj:iY K af (.ref ag)=aa ah)
 (al:iY K ag (.ref af)=aa ah)
 (am:iY K ag (.ref ag)=aa ac)
 (bC:d7 K cC "KEPT"=aa (aa (.ref o)))
 (bD:K.lookup o=aa (.type "tuple",od_KEPT,.seq #[.str "kind" as,.str "rule" au,.str "may" av,.str "choose" aw,.str "never" ax,.str "if" ay,.str "and" az,.str "not" aA,.str "unlike" aB,.str "least" aC,.str "most" q,.str "of" r,.str "to" t,.str "over" u,.str "in" w,.str "for" x] bw,sl_KEPT))
 (A:d7 K cC "SMALL"=aa (aa (.str "abcdefghijklmnopqrstuvwxyz" aD)))
 (z:d7 K cC "GREAT"=aa (aa (.str "ABCDEFGHIJKLMNOPQRSTUVWXYZ" aE)))
 (d:d7 K cC "FIGURES"=aa (aa (.str "0123456789" n)))
 (bE:d7 K cC "LONE"=aa (aa (.str "()," bx)))
 (an:d7 K cC "ValueError"=aa ae)
 (k8:d7 K cC "all"=aa ae)
 (ny:d7 K cC "any"=aa ae)
 (lL:d7 K cC "bool"=aa ae)
 (bF:d7 K cC "dict"=aa ae)
 (ao:d7 K cC "enumerate"=aa ae)
 (lr:d7 K cC "int"=aa ae)
 (ky:d7 K cC "isinstance"=aa ae)
 (kz:d7 K cC "len"=aa ae)
 (k9:d7 K cC "list"=aa ae)
 (kT:d7 K cC "range"=aa ae)
 (ap:d7 K cC "reversed"=aa ae)
 (ml:d7 K cC "set"=aa ae)
 (ar:d7 K cC "sorted"=aa ae)
 (lb:d7 K cC "str"=aa ae)
 (bQ:d7 K cC "sum"=aa ae)
 (bR:d7 K cC "zip"=aa ae)
 (lc:nK K "bool")
 (l6:nK K "int")
 (ld:nK K "list")
 (l8:nK K "str")
  : ∃a:Wa,∃W:Wd K mg a,a.e_30.1=fa/\∀(s:ak) (v:Value),nu s a.e_30.2 ([v],[]) [("_law_script",v,)]:=by
 have e:=hfa.symm.trans (lM X G bz.a);cases e;have hc:∃cl:Str->Addr,ab=cl "Reader" /\ ad=cl "Desk":=(λs=>if s="Reader" then ab else if s="Desk" then ad else 0,rfl,rfl);have(cl,rfl,rfl):=hc
 show(((f_52,aL,),(f_50,aM,),(f_62,aN,),(f_40,aO,),(f_45,aP,),(f_16,L,),(f_41,aQ,),(f_46,aR,),(f_36,aS,),(f_26,aT,),(f_43,aU,),(f_55,aV,),(f_63,aW,),(f_53,aX,),(f_64,aY,),(f_56,aZ,),(f_57,a0,),(f_49,a1,),(f_47,a2,),(f_58,a3,),(f_59,a4,),(f_60,a5,),(f_61,a6,),(f_51,a7,),(f_3,bG,),(f_20,T,),(f_65,a8,),(f_5,bH,),(f_37,a9,),(f_42,ba,),(f_38,bb,),(f_54,bc,),(f_48,bd,),(f_34,bf,),(f_35,bg,),(f_33,bh,),(f_30,bi,),(f_66,bj,),(f_10,B,),(f_31,bk,),(f_4,bI,),(f_1,bJ,),(f_39,bl,),(f_14,I,),(f_17,M,),(f_11,C,),(f_0,bK,),(f_24,bm,),(f_27,bn,),(f_9,bL,),(f_6,bM,),(f_2,bN,),(f_25,bo,),(f_12,E,),(f_15,J,),(f_21,U,),(f_32,bp,),(f_28,bq,),(f_22,Y,),(f_23,br,),(f_29,bs,),(f_13,H,),(f_19,Q,),(f_18,N,),(f_44,bu,),(f_7,bO,),(f_8,bP,),(f_67,bv,),cl,af,ag),(bS.mk2 X G,bT.mk2 X G,bU.mk2 X G,bV.mk2 X G,bW.mk2 X G,bX.mk2 X G,bY.mk2 X G,bZ.mk2 X G,b0.mk2 X G,b1.mk2 X G,b2.mk2 X G,b3.mk2 X G,b4.mk2 X G,b5.mk2 X G,b6.mk2 X G,b7.mk2 X G,b8.mk2 X G,b9.mk2 X G,ca.mk2 X G,cb.mk2 X G,cc.mk2 X G,cd.mk2 X G,ce.mk2 X G,cf.mk2 X G,cN.mk2 X G,cg.mk2 X G,ch.mk2 X G,cO.mk2 X G,ci.mk2 X G,cj.mk2 X G,ck.mk2 X G,cm.mk2 X G,cn.mk2 X G,co.mk2 X G,cp.mk2 X G,cq.mk2 X G,bz.mk2 X G,bA.mk2,cr.mk2,cs.mk2,cP.mk2,cQ.mk2,ct.mk2,cu.mk2,cv.mk2,cw.mk2,cR.mk2,cx.mk2,cy.mk2,cS.mk2,cT.mk2,cU.mk2,cz.mk2,cA.mk2,cB.mk2,cD.mk2,cE.mk2,cF.mk2,cG.mk2,cH.mk2,cI.mk2,cJ.mk2,cK.mk2,cL.mk2,bB.mk2,cV.mk2,cW.mk2,cM.mk2,lM X G c,(j,f,l,m),(k4,bA.a,bA.i,g),kx,kv,lM X G y,(aF,aG,aH,aI),(k7,bB.a,bB.i,aJ),kg,lM X G b,aq,lM X G p,aK,ai,aj,al,am,(_,_,_,_,lM X G bC,bD,rfl,rfl,(show 16<=be by decide),.cons (_,rfl) (.cons (_,rfl) (.cons (_,rfl) (.cons (_,rfl) (.cons (_,rfl) (.cons (_,rfl) (.cons (_,rfl) (.cons (_,rfl) (.cons (_,rfl) (.cons (_,rfl) (.cons (_,rfl) (.cons (_,rfl) (.cons (_,rfl) (.cons (_,rfl) (.cons (_,rfl) (.cons (_,rfl) (.nil))))))))))))))))),(_,lM X G A),(_,lM X G z),(_,lM X G d),(_,lM X G bE),ib X G an,ib X G k8,ib X G ny,ib X G lL,ib X G bF,ib X G ao,ib X G lr,ib X G ky,ib X G kz,ib X G k9,ib X G kT,ib X G ap,ib X G ml,ib X G ar,ib X G lb,ib X G bQ,ib X G bR,lc,l6,ld,l8),rfl,bz.bt (λ_ _ _ _ _ _=>Ou λ_=>rfl))
end N_k91
namespace Hk
open PySem PySem.W
noncomputable def f:Obj→Option Obj|⟨_,_,.freed,_⟩=>none|o=>some o
noncomputable def p:List Obj→Nat→List Addr→List (Option Obj)|[],_,s=>s.map fun _=>none|_::_,_,[]=>[]|o::r,n,a::s=>bif Nat.beq a n then f o::p r (n+1) s else p r (n+1) (a::s)
noncomputable def c:Nat→List Addr→Bool|_,[]=>true|n,a::s=>Nat.ble n a&&c (a+1) s
theorem g (h:Heap) (a:Addr):h.get? a=(h.objs.toList[a]?).bind f:=by
 unfold Heap.get?
 rw[← Array.getElem?_toList]
 cases h.objs.toList[a]? with
 |none=>rfl
 |some o=>obtain ⟨c,d,x,s⟩:=o;cases x<;>rfl
theorem u:∀ (s:List Addr) (m:Nat),c m s=true→∀ b∈s,m≤b
 |[],_,_,b,h=>nomatch h
 |a::s,m,h,b,q=>by
  unfold c at h
  rw[Bool.and_eq_true] at h
  have i:=Nat.le_of_ble_eq_true h.1
  rcases List.mem_cons.mp q with e|e
  · rw[e];exact i
  · have:=u s (a+1) h.2 b e;omega
theorem k:∀ (l:List Obj) (n:Nat) (s:List Addr),c n s=true→p l n s=s.map fun a=>(l[a-n]?).bind f
 |[],n,s,_=>by unfold p;exact List.map_congr_left fun a _=>by simp
 |o::r,n,[],_=>rfl
 |o::r,n,a::s,h=>by
  have i:=u _ _ h
  unfold c at h
  rw[Bool.and_eq_true] at h
  have j:=Nat.le_of_ble_eq_true h.1
  unfold p
  cases e:Nat.beq a n with
  |true=>
   have z:a=n:=Nat.eq_of_beq_eq_true e
   subst z
   rw[cond_true,k r (a+1) s h.2,List.map_cons,Nat.sub_self]
   refine congrArg _ (List.map_congr_left fun b q=>?_)
   have:=u s (a+1) h.2 b q
   rw[show b-a=(b-(a+1))+1 by omega]
   rfl
  |false=>
   have z:c (n+1) (a::s)=true:=by
    unfold c
    rw[Bool.and_eq_true]
    exact ⟨Nat.ble_eq_true_of_le (Nat.lt_of_le_of_ne j fun x=>Nat.ne_of_beq_eq_false e x.symm),h.2⟩
   rw[cond_false,k r (n+1) (a::s) z]
   refine List.map_congr_left fun b q=>?_
   have:=u _ _ z b q
   rw[show b-n=(b-(n+1))+1 by omega]
   rfl
noncomputable def H (K:Params→Frag) (s:List Addr) (e:∀ P,s=(K P).map (·.1)) (h:c 0 s=true):Hook:=⟨List (Option Obj),fun t=>p t.heap.objs.toList 0 s,fun w=>(K w.params).map fun p=>some p.2,InK K,fun w t x=>InK.of e w t ((List.map_congr_left fun a _=>g t.heap a).trans ((k t.heap.objs.toList 0 s h).symm.trans x)),InK.keeps⟩
theorem Y {K:Params→Frag} {s:List Addr} {e:∀ P,s=(K P).map (·.1)} {h:c 0 s=true} {w:World} {x:Heap} (y:(H K s e h).says w x):(K w.params).In x:=y
end Hk
local macro_rules|`(tactic|o_head ($f:ident $k $a $e))=>if f.getId.eraseMacroScopes==`kHook then `(tactic|o_head (Hk.H $k $a $e (by kernel_rfl))) else Lean.Macro.throwUnsupported
structure PySem.W.Fast:Prop where
 (tw14428852357603421718 tw16262504504884585456 tw14115803592688974309 tw9087664991792588041 tw7246284861832138632 tw1905185872916209833 tw8247093467957181702 tw8317703292412236643 tw60458397047659427 tw16422720442781465055 tw8772508578821944102 tw7334629970023039011 tw18220615052555286932 tw15766124460381467971 tw5139833160883211648 tw17691460310004660106 tw15706692309011469865 tw3033426240866857492 tw6365023899754086621 tw1382025384675683482 tw10533115603622279284 tw12450019307787938416 tw2748497053576427220 te6562295813918167417 te14344739394939868365 te6282477543896762631 te17852715271613583405 te5494671076879320998 te7326581811329569557 te13312688384133379987 te6924692167048571008 te1529969768696547864 te5638075137158844289 te6953652780529084366 te6522406163022909173 te7114402221055419791 te824607106932125973 te331465847937051862 te18408118828423193202 te8895996519357851300 te14794975152878703255 te12115017927463088017 te6097090001440824641 te16834696453118018437 te15563519098076346054 te7390936479753224341 te15742145420135783439 te12043315096059895058 te8032582156298210910 te4175147900269519363 te15264767089789955919 te5277150902978526980 te4812587697183780980 te4500922571939600885:True)
open PySem PySem.W PyProof.Rows
set_option maxRecDepth 100000 in
set_option maxHeartbeats 0 in
theorem PySem.Challenge.cw_standstill_k91_desk_rows_holds : PySem.Challenge.rw_standstill_k91_desk_rows.Holds := by
 w_on; o_law; k_head; (case hw=>w_witness2)
 k_fill
 refine L2.walk_ofK (l:=PySem.Challenge.rw_standstill_k91_desk_rows) (n:=63) (k:=20) (x:="_law_script") (CX:=L2.CX0) (sp:=N_k91.sp_law) rfl (by decide) rfl ⟨rfl,by decide,by decide⟩ (fun w h Y=>Hk.Y Y) ?F (fun _ _ a ns hl _ hS=>N_k91.sp_law_of hl hS) (fun _ _ _ _ z=>z)
 case F =>
  intro w mg fa h KX G hmg
  have TT : ∃ a : N_k91.Wa,∃ W : N_k91.Wd (L2.KOf KX) mg a,a.e_30.1=fa /\ ∀ (s:Shared) (v:Value),BindsTo s a.e_30.2 ⟨[v],[]⟩ [("_law_script",v)]:=by
   dsimp only [L2.KOf]
   refine' N_k91.all_mk KX G hmg ..
   all_goals first | k_is | kit_is | k_exc | exact ⟨by k_is,L2.fun_mk (by k_is) (by k_is) (by k_is)⟩ | exact ⟨by k_is,by k_is,L2.fun_mk (by k_is) (by k_is) (by k_is)⟩ | (intro t ht; simp only [List.mem_cons,List.not_mem_nil,or_false] at ht; rcases ht with rfl | rfl | rfl | rfl | rfl | rfl | rfl <;> kit_is) | skip
  obtain ⟨a,W,e1,hb⟩:=TT
  subst e1
  exact ⟨_,hb,fun base kb nb=>N_k91.law_ok W⟩
